import PyProof.Rows.All
import Wide.All
import OpenK.AllK
import Wide.FinOn
import HandS.ForMost
import HandS.Evl
import HandS.Zip
import HandS.Exc
import HandS.ExcOwn
import HandS.TryOnly
import HandS.WordsExc
import HandS.TupAny
import HandS.IsInst
import HandS.Style
import HandS.Deep
import HandS.Wide
import HandS.Steps
import HandS.Walk
import HandS.TupSets
import HandS.Conv
import HandS.SortRule
import KE.KDictDisplayH
import KE.SortData
import HandS.TupMul
import KE.KMathGC
import HandS.Gcd
import KE.KSuper
import KE.KExcSuper
import HandS.ExcInit
import HandS.ExcIs
import HandS.ExcField
import KE.KSortTup
import HandS.FStr
import HandS.TryMany
import HandS.Iter
import PySem.Challenge.RW_weightkeepers_k16_whole_macwilliams_iden
set_option Elab.async false
set_option linter.all false
set_option maxRecDepth 100000
set_option maxHeartbeats 4000000
/-! A heap-free layer: what a piece of the program does, as a total function over trees of data (Dt) and a small store of mutable lists. -/
namespace Lq
open PySem PySem.Spec PyProof.Rows L2
open Evl (Ex)

/-- data as trees -/
inductive Dt where
  | non | bl (b : Bool) | int (i : Int) | str (x : Str) | lst (xs : List Dt) | tup (xs : List Dt) | obj (C : Addr) (ks : List Str) (xs : List Dt)
  /-- a list (false) or a tuple (true) that is only read: the script, a constant of a module -/
  | scr (t : Bool) (xs : List Dt)

/-- a tuple, tracked -/
def TupAt (K : PySem.W.Frag) (F : Hp) (a : Addr) (xs : List V) : Prop := F a = some (.tup xs)
theorem TupAt.up {K : PySem.W.Frag} {F F' : Hp} {a : Addr} {xs : List V} (h : TupAt K F a xs) (e : Ex F F') : TupAt K F' a xs := e _ _ h
theorem TupAt.sq {K : PySem.W.Frag} {F : Hp} {a : Addr} {xs : List V} (h : TupAt K F a xs) : SqT K F a xs := .inl (.inl h)

/-- a list (false) or a tuple (true), wherever it stands -/
def SqB (K : PySem.W.Frag) (F : Hp) (t : Bool) (a : Addr) (xs : List V) : Prop := if t = true then SqT K F a xs else SqL K F a xs
theorem SqB.up {K : PySem.W.Frag} {F F' : Hp} {t : Bool} {a : Addr} {xs : List V} (h : SqB K F t a xs) (e : Ex F F') : SqB K F' t a xs := by
  unfold SqB at *
  cases t with
  | true => exact Evl.ex_t e h
  | false => exact Evl.ex_l e h
mutual
inductive Rp (K : PySem.W.Frag) (F : Hp) : V → Dt → Prop
  | non : Rp K F .non .non
  | bl (b : Bool) : Rp K F (.bl b) (.bl b)
  | int (i : Int) : Rp K F (.int i) (.int i)
  | str (x : Str) : Rp K F (.str x) (.str x)
  | lst {a : Addr} {xs : List V} {ds : List Dt} : F a = some (.lst xs) → RpA K F xs ds → Rp K F (.ref a) (.lst ds)
  | tup {a : Addr} {xs : List V} {ds : List Dt} : TupAt K F a xs → RpA K F xs ds → Rp K F (.ref a) (.tup ds)
  | obj {a C dx : Addr} {fs : List (Str × V)} {ks : List Str} {ds : List Dt} : F a = some (.ins C dx fs) → fs.map (·.1) = ks → RpA K F (fs.map (·.2)) ds → Rp K F (.ref a) (.obj C ks ds)
  | scr {a : Addr} {xs : List V} {ds : List Dt} (t : Bool) : SqB K F t a xs → RpA K F xs ds → Rp K F (.ref a) (.scr t ds)
inductive RpA (K : PySem.W.Frag) (F : Hp) : List V → List Dt → Prop
  | nil : RpA K F [] []
  | cons {v : V} {vs : List V} {d : Dt} {ds : List Dt} : Rp K F v d → RpA K F vs ds → RpA K F (v :: vs) (d :: ds)
end
mutual
theorem Rp.mono {K : PySem.W.Frag} {F F' : Hp} (e : Ex F F') : ∀ (d : Dt) (v : V), Rp K F v d → Rp K F' v d
  | .non, _, h => by cases h; exact .non
  | .bl b, _, h => by cases h; exact .bl _
  | .int i, _, h => by cases h; exact .int _
  | .str x, _, h => by cases h; exact .str _
  | .lst ds, _, h => by
    cases h with
    | lst hs ha => exact .lst (e _ _ hs) (RpA.mono e ds _ ha)
  | .tup ds, _, h => by
    cases h with
    | tup hs ha => exact .tup (hs.up e) (RpA.mono e ds _ ha)
  | .obj C ks ds, _, h => by
    cases h with
    | obj hs hk ha => exact .obj (e _ _ hs) hk (RpA.mono e ds _ ha)
  | .scr t ds, _, h => by
    cases h with
    | scr _ hs ha => exact .scr t (hs.up e) (RpA.mono e ds _ ha)
theorem RpA.mono {K : PySem.W.Frag} {F F' : Hp} (e : Ex F F') : ∀ (ds : List Dt) (vs : List V), RpA K F vs ds → RpA K F' vs ds
  | [], _, h => by cases h; exact .nil
  | d :: ds, _, h => by
    cases h with
    | cons h1 h2 => exact .cons (Rp.mono e d _ h1) (RpA.mono e ds _ h2)
end
section
variable {K : PySem.W.Frag} {F : Hp} {vs ws : List V} {ds es : List Dt}
theorem Rp.up {F' : Hp} {d : Dt} {v : V} (h : Rp K F v d) (e : Ex F F') : Rp K F' v d := Rp.mono e d v h
theorem RpA.up {F' : Hp} (h : RpA K F vs ds) (e : Ex F F') : RpA K F' vs ds := RpA.mono e ds vs h
theorem RpA.length : ∀ {vs : List V} {ds : List Dt}, RpA K F vs ds → vs.length = ds.length
  | _, _, .nil => rfl
  | _, _, .cons _ t => by simp [RpA.length t]
theorem RpA.get : ∀ {vs : List V} {ds : List Dt} {i : Nat} {d : Dt}, RpA K F vs ds → ds[i]? = some d → ∃ v, vs[i]? = some v ∧ Rp K F v d
  | _, _, i, _, .nil, h => by simp at h
  | _, _, 0, _, .cons h1 _, h => by simp at h; subst h; exact ⟨_, rfl, h1⟩
  | _, _, i + 1, _, .cons _ t, h => by
    obtain ⟨v, q, r⟩ := RpA.get (i := i) t (by simpa using h)
    exact ⟨v, by simpa using q, r⟩
theorem RpA.getv : ∀ {vs : List V} {ds : List Dt} {i : Nat} {v : V}, RpA K F vs ds → vs[i]? = some v → ∃ d, ds[i]? = some d ∧ Rp K F v d
  | _, _, i, _, .nil, h => by simp at h
  | _, _, 0, _, .cons h1 _, h => by simp at h; subst h; exact ⟨_, rfl, h1⟩
  | _, _, i + 1, _, .cons _ t, h => by
    obtain ⟨v, q, r⟩ := RpA.getv (i := i) t (by simpa using h)
    exact ⟨v, by simpa using q, r⟩
theorem RpA.app : ∀ {vs ws : List V} {ds es : List Dt}, RpA K F vs ds → RpA K F ws es → RpA K F (vs ++ ws) (ds ++ es)
  | _, _, _, _, .nil, h => h
  | _, _, _, _, .cons h1 h2, h => .cons h1 (RpA.app h2 h)
theorem RpA.snoc {v : V} {d : Dt} (h : RpA K F vs ds) (h1 : Rp K F v d) : RpA K F (vs ++ [v]) (ds ++ [d]) := h.app (.cons h1 .nil)
theorem RpA.set : ∀ {vs : List V} {ds : List Dt} {v : V} {d : Dt} (i : Nat), RpA K F vs ds → Rp K F v d → RpA K F (vs.set i v) (ds.set i d)
  | _, _, _, _, _, .nil, _ => .nil
  | _, _, _, _, 0, .cons _ t, h => .cons h t
  | _, _, _, _, i + 1, .cons q t, h => .cons q (RpA.set i t h)
theorem RpA.take : ∀ {vs : List V} {ds : List Dt} (n : Nat), RpA K F vs ds → RpA K F (vs.take n) (ds.take n)
  | _, _, 0, _ => .nil
  | _, _, _ + 1, .nil => .nil
  | _, _, n + 1, .cons r t => .cons r (RpA.take n t)
theorem RpA.drop : ∀ {vs : List V} {ds : List Dt} (n : Nat), RpA K F vs ds → RpA K F (vs.drop n) (ds.drop n)
  | _, _, 0, r => r
  | _, _, _ + 1, .nil => .nil
  | _, _, n + 1, .cons _ t => RpA.drop n t
theorem RpA.rev : ∀ {vs : List V} {ds : List Dt}, RpA K F vs ds → RpA K F vs.reverse ds.reverse
  | _, _, .nil => .nil
  | _, _, .cons r t => by
    rw [List.reverse_cons, List.reverse_cons]
    exact (RpA.rev t).snoc r
theorem RpA.ints : ∀ ns : List Int, RpA K F (ns.map V.int) (ns.map Dt.int)
  | [] => .nil
  | n :: ns => .cons (.int n) (RpA.ints ns)
theorem Rp.intv {v : V} {i : Int} (h : Rp K F v (.int i)) : v = .int i := by cases h; rfl
theorem Rp.blv {v : V} {i : Bool} (h : Rp K F v (.bl i)) : v = .bl i := by cases h; rfl
theorem RpA.intsv : ∀ {vs : List V} {ns : List Int}, RpA K F vs (ns.map Dt.int) → vs = ns.map V.int
  | _, [], .nil => rfl
  | _, n :: ns, .cons h t => by rw [h.intv, RpA.intsv t]; rfl
end

/-- a slot, a mutable object -/
inductive Sv where | no | im (d : Dt) | mu (k : Nat)
/-- a mutable object's content: a list; a dict whose keys are tuples of ints -/
inductive Ob where | ls (xs : List Dt) | dc (kvs : List (List Int × Dt))
inductive Mo where | ob (c : Ob) | fz (d : Dt)
structure Ms where
  sl : List Sv
  mo : List Mo := []
structure Er where
  C : Addr
  ks : List Str
  ds : List Dt
theorem nrfl0 {α : Type} {a b : α} (h : a = b) : a = b := h
inductive R (α : Type) where | ok (a : α) (s : Ms) | er (e : Er) (s : Ms) | no
def R.bind {α β : Type} : R α → (α → Ms → R β) → R β
  | .ok a s, f => f a s
  | .er e s, _ => .er e s
  | .no, _ => .no
@[simp] theorem R.bind_ok {α β : Type} (a : α) (s : Ms) (f : α → Ms → R β) : (R.ok a s).bind f = f a s := nrfl0 rfl
@[simp] theorem R.bind_er {α β : Type} (e : Er) (s : Ms) (f : α → Ms → R β) : (R.er e s : R α).bind f = .er e s := nrfl0 rfl
@[simp] theorem R.bind_no {α β : Type} (f : α → Ms → R β) : (R.no : R α).bind f = .no := nrfl0 rfl
def R.of {α : Type} (o : Option α) (s : Ms) : R α := match o with | some a => .ok a s | none => .no
@[simp] theorem R.of_some {α : Type} (a : α) (s : Ms) : R.of (some a) s = .ok a s := nrfl0 rfl
@[simp] theorem R.of_none {α : Type} (s : Ms) : R.of (none : Option α) s = .no := nrfl0 rfl

def SvR (K : PySem.W.Frag) (F : Hp) (as : List Addr) : Option V → Sv → Prop
  | _, .no => True
  | some v, .im d => Rp K F v d
  | some v, .mu k => ∃ a, as[k]? = some a ∧ v = .ref a
  | none, .im _ => False
  | none, .mu _ => False
inductive ObR (K : PySem.W.Frag) (F : Hp) : HO → Ob → Prop
  | ls {vs : List V} {ds : List Dt} : RpA K F vs ds → ObR K F (.lst vs) (.ls ds)
  | dc {ws : List (List Key × V)} {kvs : List (List Int × Dt)} : Paired (fun p q => p.1 = q.1.map Sum.inl ∧ Rp K F p.2 q.2) ws kvs → ObR K F (.dT ws) (.dc kvs)
theorem ObR.up {K : PySem.W.Frag} {F F' : Hp} {o : HO} {c : Ob} (h : ObR K F o c) (e : Ex F F') : ObR K F' o c := by
  cases h with
  | ls h => exact .ls (h.up e)
  | dc h => exact .dc (h.mono fun _ _ q => ⟨q.1, q.2.up e⟩)
/-- no tuple -/
def NT : HO → Prop | .tup _ => False | _ => True
theorem ObR.nt {K : PySem.W.Frag} {F : Hp} {o : HO} {c : Ob} (h : ObR K F o c) : NT o := by cases h <;> trivial
def MoR (K : PySem.W.Frag) (B F H : Hp) (a : Addr) : Mo → Prop
  | .ob c => B a = none ∧ F a = none ∧ ∃ o, H a = some o ∧ ObR K F o c
  | .fz d => (∃ o, F a = some o) ∧ Rp K F (.ref a) d
structure Rep (K : PySem.W.Frag) (B F H : Hp) (as : List Addr) (σ : L2.St) (S : Ms) : Prop where
  fh : Ex F H
  bh : ∀ a o, B a = some o → H a = some o ∧ F a = none ∧ NT o
  sl : Paired (SvR K F as) σ S.sl
  mo : Paired (MoR K B F H) as S.mo
  nd : as.Nodup
def Ext (F F' : Hp) (as as' : List Addr) : Prop := Ex F F' ∧ ∃ t, as' = as ++ t
theorem Ext.refl {F : Hp} {as : List Addr} : Ext F F as as := ⟨Ex.refl F, [], by simp⟩
theorem Ext.trans {F F1 F2 : Hp} {as as1 as2 : List Addr} (a : Ext F F1 as as1) (b : Ext F1 F2 as1 as2) : Ext F F2 as as2 := by
  obtain ⟨a1, t, rfl⟩ := a
  obtain ⟨b1, u, rfl⟩ := b
  exact ⟨a1.trans b1, t ++ u, by simp⟩

theorem pairedGet {α β : Type} {G : α → β → Prop} : ∀ {xs : List α} {ys : List β} {i : Nat} {y : β}, Paired G xs ys → ys[i]? = some y → ∃ x, xs[i]? = some x ∧ G x y
  | _, _, i, _, .nil, h => by simp at h
  | _, _, 0, _, .cons r _, h => by simp at h; subst h; exact ⟨_, rfl, r⟩
  | _, _, i + 1, _, .cons _ t, h => by
    obtain ⟨x, q, r⟩ := pairedGet (i := i) t (by simpa using h)
    exact ⟨x, by simpa using q, r⟩
theorem pairedGetL {α β : Type} {G : α → β → Prop} : ∀ {xs : List α} {ys : List β} {i : Nat} {x : α}, Paired G xs ys → xs[i]? = some x → ∃ y, ys[i]? = some y ∧ G x y
  | _, _, i, _, .nil, h => by simp at h
  | _, _, 0, _, .cons r _, h => by simp at h; subst h; exact ⟨_, rfl, r⟩
  | _, _, i + 1, _, .cons _ t, h => by
    obtain ⟨x, q, r⟩ := pairedGetL (i := i) t (by simpa using h)
    exact ⟨x, by simpa using q, r⟩
theorem pairedSet {α β : Type} {G : α → β → Prop} {x : α} {y : β} : ∀ {xs : List α} {ys : List β} (i : Nat), Paired G xs ys → G x y → Paired G (xs.set i x) (ys.set i y)
  | _, _, _, .nil, _ => .nil
  | _, _, 0, .cons _ t, h => .cons h t
  | _, _, i + 1, .cons q t, h => .cons q (pairedSet i t h)
/-- one place changed on the right alone, the others by a map of the relation -/
theorem pairedAt {α β : Type} {G G' : α → β → Prop} {y : β} : ∀ {xs : List α} {ys : List β} (i : Nat), Paired G xs ys → (∀ (j : Nat) (x : α) (z : β), j ≠ i → xs[j]? = some x → ys[j]? = some z → G x z → G' x z) → (∀ x, xs[i]? = some x → G' x y) → Paired G' xs (ys.set i y)
  | _, _, _, .nil, _, _ => .nil
  | x :: xs, z :: ys, 0, .cons r t, h, h1 => by
    refine .cons (h1 x rfl) ?_
    have : ∀ {xs : List α} {ys : List β}, Paired G xs ys → (∀ (j : Nat) (x : α) (z : β), xs[j]? = some x → ys[j]? = some z → G x z → G' x z) → Paired G' xs ys := by
      intro xs ys p
      induction p with
      | nil => intro _; exact .nil
      | cons q _ ih => exact fun k => .cons (k 0 _ _ rfl rfl q) (ih fun j x z a b => k (j + 1) x z (by simpa using a) (by simpa using b))
    exact this t fun j x z a b => h (j + 1) x z (by omega) (by simpa using a) (by simpa using b)
  | x :: xs, z :: ys, i + 1, .cons r t, h, h1 => by
    refine .cons (h 0 x z (by omega) rfl rfl r) ?_
    exact pairedAt i t (fun j x z hj a b => h (j + 1) x z (by omega) (by simpa using a) (by simpa using b)) fun x a => h1 x (by simpa using a)

section
variable {K : PySem.W.Frag} {B F H F' H' : Hp} {as as' : List Addr} {σ : L2.St} {S S' : Ms}
theorem SvR.up {o : Option V} {s : Sv} (h : SvR K F as o s) (e : Ext F F' as as') : SvR K F' as' o s := by
  obtain ⟨e1, t, rfl⟩ := e
  cases s with
  | no => trivial
  | im d =>
    cases o with
    | none => exact h
    | some v => exact Rp.up h e1
  | mu k =>
    cases o with
    | none => exact h
    | some v =>
      obtain ⟨a, q, rfl⟩ := h
      exact ⟨a, by rw [List.getElem?_append_left]; exact q; exact (List.getElem?_eq_some_iff.mp q).1, rfl⟩
theorem Rep.live (r : Rep K B F H as σ S) {a : Addr} (h : a ∈ as) : ∃ o, H a = some o := by
  obtain ⟨i, q⟩ := List.mem_iff_getElem?.mp h
  obtain ⟨y, _, z⟩ := pairedGetL r.mo q
  cases y with
  | ob ds =>
    obtain ⟨_, _, vs, z, _⟩ := z
    exact ⟨_, z⟩
  | fz d =>
    obtain ⟨⟨o, z⟩, _⟩ := z
    exact ⟨o, r.fh _ _ z⟩
theorem Rep.fresh (r : Rep K B F H as σ S) {p : Addr} (h : H p = none) : F p = none ∧ B p = none ∧ p ∉ as := by
  refine ⟨?_, ?_, fun z => ?_⟩
  · cases q : F p with
    | none => rfl
    | some o => rw [r.fh _ _ q] at h; cases h
  · cases q : B p with
    | none => rfl
    | some o => rw [(r.bh _ _ q).1] at h; cases h
  · obtain ⟨o, q⟩ := r.live z
    rw [q] at h; cases h
/-- a new immutable object -/
theorem Rep.new (r : Rep K B F H as σ S) {p : Addr} (h : H p = none) (o : HO) : Ext F (upd F p o) as as ∧ Rep K B (upd F p o) (upd H p o) as σ S := by
  obtain ⟨f1, f2, f3⟩ := r.fresh h
  have e : Ex F (upd F p o) := Ex.new f1
  have ee : Ext F (upd F p o) as as := ⟨e, [], by simp⟩
  refine ⟨ee, fun a u hu => ?_, fun a u hu => ?_, r.sl.mono fun _ _ q => SvR.up q ee, ?_, r.nd⟩
  · by_cases q : a = p
    · subst q
      rw [upd_same] at hu ⊢
      exact hu
    · rw [upd_ne q] at hu ⊢
      exact r.fh _ _ hu
  · obtain ⟨q1, q2, q3⟩ := r.bh a u hu
    have n : a ≠ p := by
      rintro rfl
      rw [h] at q1; cases q1
    rw [upd_ne n, upd_ne n]
    exact ⟨q1, q2, q3⟩
  · refine r.mo.mono fun a m q => ?_
    cases m with
    | ob ds =>
      obtain ⟨q1, q2, vs, q3, q4⟩ := q
      have n : a ≠ p := by
        rintro rfl
        rw [h] at q3; cases q3
      exact ⟨q1, by rw [upd_ne n]; exact q2, vs, by rw [upd_ne n]; exact q3, q4.up e⟩
    | fz d =>
      obtain ⟨⟨u, q1⟩, q2⟩ := q
      exact ⟨⟨u, e _ _ q1⟩, q2.up e⟩
/-- a mutable list frozen -/
theorem Rep.freeze (r : Rep K B F H as σ S) {k : Nat} {ds : List Dt} (h : S.mo[k]? = some (.ob (.ls ds))) : ∃ a F1, as[k]? = some a ∧ Ext F F1 as as ∧ Rep K B F1 H as σ { S with mo := S.mo.set k (.fz (.lst ds)) } ∧ Rp K F1 (.ref a) (.lst ds) := by
  obtain ⟨a, ha, q1, q2, ob, q3, q4⟩ := pairedGet r.mo h
  cases q4
  rename_i vs q4
  have e : Ex F (upd F a (.lst vs)) := Ex.new q2
  have ee : Ext F (upd F a (.lst vs)) as as := ⟨e, [], by simp⟩
  have rr : Rp K (upd F a (.lst vs)) (.ref a) (.lst ds) := .lst upd_same (q4.up e)
  refine ⟨a, _, ha, ee, ⟨fun b u hu => ?_, fun b u hu => ?_, r.sl.mono fun _ _ q => SvR.up q ee, ?_, r.nd⟩, rr⟩
  · by_cases q : b = a
    · subst q
      rw [upd_same] at hu
      rw [q3]; exact hu
    · rw [upd_ne q] at hu
      exact r.fh _ _ hu
  · obtain ⟨z1, z2, z3⟩ := r.bh b u hu
    have n : b ≠ a := by
      rintro rfl
      rw [q1] at hu; cases hu
    rw [upd_ne n]
    exact ⟨z1, z2, z3⟩
  · refine pairedAt k r.mo (fun j b m hj hb hm q => ?_) fun b hb => ?_
    · cases m with
      | ob ds =>
        obtain ⟨z1, z2, ws, z3, z4⟩ := q
        have n : b ≠ a := fun z => by
          subst z
          exact hj (nd_ix r.nd hb ha)
        exact ⟨z1, by rw [upd_ne n]; exact z2, ws, z3, z4.up e⟩
      | fz d =>
        obtain ⟨⟨u, z1⟩, z2⟩ := q
        exact ⟨⟨u, e _ _ z1⟩, z2.up e⟩
    · rw [ha] at hb
      cases hb
      exact ⟨⟨_, upd_same⟩, rr⟩
/-- a new mutable object -/
theorem Rep.newL (r : Rep K B F H as σ S) {p : Addr} {o : HO} {c : Ob} (f1 : F p = none) (f2 : B p = none) (f3 : p ∉ as) (hp : H p = some o) (hv : ObR K F o c) : Ext F F as (as ++ [p]) ∧ Rep K B F H (as ++ [p]) σ { S with mo := S.mo ++ [.ob c] } := by
  have ee : Ext F F as (as ++ [p]) := ⟨Ex.refl F, [p], rfl⟩
  refine ⟨ee, r.fh, r.bh, r.sl.mono fun _ _ q => SvR.up q ee, r.mo.snoc ⟨f2, f1, o, hp, hv⟩, ?_⟩
  rw [List.nodup_append]
  exact ⟨r.nd, by simp, fun a ha b hb => by simp at hb; subst hb; rintro rfl; exact f3 ha⟩
/-- a mutable object changed -/
theorem Rep.put (r : Rep K B F H as σ S) {k : Nat} {a : Addr} {o : HO} {c0 c : Ob} (h : S.mo[k]? = some (.ob c0)) (ha : as[k]? = some a) (hv : ObR K F o c) : Rep K B F (upd H a o) as σ { S with mo := S.mo.set k (.ob c) } := by
  obtain ⟨a', ha', q1, q2, ws, q3, q4⟩ := pairedGet r.mo h
  rw [ha] at ha'
  cases ha'
  refine ⟨fun b u hu => ?_, fun b u hu => ?_, r.sl, ?_, r.nd⟩
  · have n : b ≠ a := by
      rintro rfl
      rw [q2] at hu; cases hu
    rw [upd_ne n]
    exact r.fh _ _ hu
  · obtain ⟨z1, z2, z3⟩ := r.bh b u hu
    have n : b ≠ a := by
      rintro rfl
      rw [q1] at hu; cases hu
    rw [upd_ne n]
    exact ⟨z1, z2, z3⟩
  · refine pairedAt k r.mo (fun j b m hj hb hm q => ?_) fun b hb => ?_
    · cases m with
      | ob ds =>
        obtain ⟨z1, z2, ws, z3, z4⟩ := q
        have n : b ≠ a := fun z => by
          subst z
          exact hj (nd_ix r.nd hb ha)
        exact ⟨z1, z2, ws, by rw [upd_ne n]; exact z3, z4⟩
      | fz d => exact q
    · rw [ha] at hb
      cases hb
      exact ⟨q1, q2, o, upd_same, hv⟩
/-- a tuple that stands is known -/
theorem Rep.know (r : Rep K B F H as σ S) {p : Addr} {xs : List V} (h : H p = some (.tup xs)) (hf : F p = none) : Ext F (upd F p (.tup xs)) as as ∧ Rep K B (upd F p (.tup xs)) H as σ S := by
  have e : Ex F (upd F p (.tup xs)) := Ex.new hf
  have ee : Ext F (upd F p (.tup xs)) as as := ⟨e, [], by simp⟩
  refine ⟨ee, fun a u hu => ?_, fun a u hu => ?_, r.sl.mono fun _ _ q => SvR.up q ee, r.mo.mono fun a m q => ?_, r.nd⟩
  · by_cases q : a = p
    · subst q
      rw [upd_same] at hu
      rw [h]; exact hu
    · rw [upd_ne q] at hu
      exact r.fh _ _ hu
  · obtain ⟨q1, q2, q3⟩ := r.bh a u hu
    have n : a ≠ p := by
      rintro rfl
      rw [h] at q1; cases q1; exact q3
    rw [upd_ne n]
    exact ⟨q1, q2, q3⟩
  · cases m with
    | ob ds =>
      obtain ⟨q1, q2, o, q3, q4⟩ := q
      have n : a ≠ p := by
        rintro rfl
        rw [h] at q3; cases q3
        exact q4.nt
      exact ⟨q1, by rw [upd_ne n]; exact q2, o, q3, q4.up e⟩
    | fz d =>
      obtain ⟨⟨u, q1⟩, q2⟩ := q
      exact ⟨⟨u, e _ _ q1⟩, q2.up e⟩
theorem Rep.slot (r : Rep K B F H as σ S) (i : Nat) {v : V} {s : Sv} (h : SvR K F as (some v) s) : Rep K B F H as (σ.set i (some v)) { S with sl := S.sl.set i s } :=
  ⟨r.fh, r.bh, pairedSet i r.sl h, r.mo, r.nd⟩
end

/-! ### outcomes -/
/-- the fields of an error, in its dict if it has one -/
def DictR (H : Hp) (dx : Option Addr) (fs : List (Str × V)) : Prop := match dx with | some d => H d = some (.xd fs) | none => fs = []
theorem DictR.some {H : Hp} {dx : Option Addr} {fs : List (Str × V)} (h : DictR H dx fs) (hf : fs ≠ []) : ∃ d, dx = some d ∧ H d = some (.xd fs) := by
  cases dx with
  | none => exact absurd h hf
  | some d => exact ⟨d, rfl, h⟩
section
variable (K : PySem.W.Frag) (W : WX) (B F : Hp) (as : List Addr) (σ : L2.St)
def OutE (e : Er) (S' : Ms) : Prop := ∀ F' H' as' dx fs, Ext F F' as as' → Rep K B F' H' as' σ S' → DictR H' dx fs → fs.map (·.1) = e.ks → RpA K F' (fs.map (·.2)) e.ds → W (.ref e.C) dx σ H'
def Out {α : Type} (r : R α) (Q : α → Hp → Hp → List Addr → Ms → Prop) : Prop := match r with
  | .ok a S' => ∀ F' H' as', Ext F F' as as' → Rep K B F' H' as' σ S' → Q a F' H' as' S'
  | .er e S' => OutE K W B F as σ e S'
  | .no => False
end
theorem Out.bind {K : PySem.W.Frag} {W : WX} {B F : Hp} {as : List Addr} {σ : L2.St} {α β : Type} {r : R α} {g : α → Ms → R β} {Q : β → Hp → Hp → List Addr → Ms → Prop} (h : Out K W B F as σ (r.bind g) Q) :
    Out K W B F as σ r fun a F1 H1 as1 S1 => Rep K B F1 H1 as1 σ S1 ∧ Ext F F1 as as1 ∧ Out K W B F1 as1 σ (g a S1) Q := by
  cases r with
  | ok a S1 =>
    intro F1 H1 as1 e1 r1
    refine ⟨r1, e1, ?_⟩
    have h : Out K W B F as σ (g a S1) Q := h
    revert h
    cases g a S1 with
    | ok b S2 => exact fun h F2 H2 as2 e2 r2 => h F2 H2 as2 (e1.trans e2) r2
    | er e S2 => exact fun h F2 H2 as2 dx fs e2 r2 => h F2 H2 as2 dx fs (e1.trans e2) r2
    | no => exact fun h => h
  | er e S1 => exact h
  | no => exact h
theorem Out.mono {K : PySem.W.Frag} {W : WX} {B F : Hp} {as : List Addr} {σ : L2.St} {α : Type} {r : R α} {Q Q' : α → Hp → Hp → List Addr → Ms → Prop} (h : Out K W B F as σ r Q) (hq : ∀ a F' H' as' S', Q a F' H' as' S' → Q' a F' H' as' S') : Out K W B F as σ r Q' := by
  cases r with
  | ok a S1 => exact fun F1 H1 as1 e1 r1 => hq _ _ _ _ _ (h F1 H1 as1 e1 r1)
  | er e S1 => exact h
  | no => exact h
/-- an outcome that is there at once -/
theorem Out.now {K : PySem.W.Frag} {W : WX} {B F H : Hp} {as : List Addr} {σ : L2.St} {α : Type} {a : α} {S : Ms} {Q : α → Hp → Hp → List Addr → Ms → Prop} (h : Out K W B F as σ (.ok a S) Q) (r : Rep K B F H as σ S) : Q a F H as S := h F H as Ext.refl r

/-! ### readings -/
def tD (K : PySem.W.Frag) (W : WX) (f : Ms → R Dt) : TE := fun σ H Q => ∃ B F as S, Rep K B F H as σ S ∧ Out K W B F as σ (f S) fun d F' H' _ _ => ∀ v, Rp K F' v d → Q v H'
def tN (K : PySem.W.Frag) (W : WX) (f : Ms → R (List Dt)) : TE := fun σ H Q => ∃ B F as S, Rep K B F H as σ S ∧ Out K W B F as σ (f S) fun ds F' H' as' _ => ∀ p vs, F' p = none → B p = none → p ∉ as' → H' p = some (.lst vs) → RpA K F' vs ds → Q (.ref p) H'
def tT (K : PySem.W.Frag) (W : WX) (f : Ms → R Bool) : TT := fun σ H Q => ∃ B F as S, Rep K B F H as σ S ∧ Out K W B F as σ (f S) fun b _ H' _ _ => Q b H'
def tA (K : PySem.W.Frag) (W : WX) (f : Ms → R (List Dt)) : TA := fun σ H Q => ∃ B F as S, Rep K B F H as σ S ∧ Out K W B F as σ (f S) fun ds F' H' _ _ => ∀ vs, RpA K F' vs ds → Q vs H'

inductive O where | nx (s : Ms) | rt (d : Dt) (s : Ms) | bk (s : Ms) | ct (s : Ms) | er (e : Er) (s : Ms) | no
def OutS (K : PySem.W.Frag) (W : WX) (B F : Hp) (as : List Addr) (o : O) (D : Ends) : Prop := match o with
  | .nx S' => ∀ σ' F' H' as', Ext F F' as as' → Rep K B F' H' as' σ' S' → D.nx σ' H'
  | .rt d S' => ∀ σ' F' H' as' v, Ext F F' as as' → Rep K B F' H' as' σ' S' → Rp K F' v d → D.rt v H'
  | .bk S' => ∀ σ' F' H' as', Ext F F' as as' → Rep K B F' H' as' σ' S' → D.bk σ' H'
  | .ct S' => ∀ σ' F' H' as', Ext F F' as as' → Rep K B F' H' as' σ' S' → D.ct σ' H'
  | .er e S' => ∀ σ', OutE K W B F as σ' e S'
  | .no => False
def sD (K : PySem.W.Frag) (W : WX) (m : Ms → O) : TS := fun D σ H => ∃ B F as S, Rep K B F H as σ S ∧ OutS K W B F as (m S) D
theorem OutS.ext {K : PySem.W.Frag} {W : WX} {B F F1 : Hp} {as as1 : List Addr} {o : O} {D : Ends} (h : OutS K W B F as o D) (e : Ext F F1 as as1) : OutS K W B F1 as1 o D := by
  cases o with
  | nx S' => exact fun σ' F' H' as' e' r => h σ' F' H' as' (e.trans e') r
  | rt d S' => exact fun σ' F' H' as' v e' r => h σ' F' H' as' v (e.trans e') r
  | bk S' => exact fun σ' F' H' as' e' r => h σ' F' H' as' (e.trans e') r
  | ct S' => exact fun σ' F' H' as' e' r => h σ' F' H' as' (e.trans e') r
  | er x S' => exact fun σ' F' H' as' dx fs e' r => h σ' F' H' as' dx fs (e.trans e') r
  | no => exact h
def R.stmt {α : Type} : R α → (α → Ms → O) → O
  | .ok a s, f => f a s
  | .er e s, _ => .er e s
  | .no, _ => .no
@[simp] theorem R.stmt_ok {α : Type} (a : α) (s : Ms) (f : α → Ms → O) : (R.ok a s).stmt f = f a s := nrfl0 rfl
@[simp] theorem R.stmt_er {α : Type} (e : Er) (s : Ms) (f : α → Ms → O) : (R.er e s : R α).stmt f = .er e s := nrfl0 rfl
@[simp] theorem R.stmt_no {α : Type} (f : α → Ms → O) : (R.no : R α).stmt f = .no := nrfl0 rfl
def O.seq : O → (Ms → O) → O
  | .nx s, f => f s
  | .rt d s, _ => .rt d s
  | .bk s, _ => .bk s
  | .ct s, _ => .ct s
  | .er e s, _ => .er e s
  | .no, _ => .no
theorem OutS.stmt {K : PySem.W.Frag} {W : WX} {B F : Hp} {as : List Addr} {σ : L2.St} {α : Type} {r : R α} {g : α → Ms → O} {D : Ends} (h : OutS K W B F as (r.stmt g) D) :
    Out K W B F as σ r fun a F1 H1 as1 S1 => Rep K B F1 H1 as1 σ S1 ∧ Ext F F1 as as1 ∧ OutS K W B F1 as1 (g a S1) D := by
  cases r with
  | ok a S1 => exact fun F1 H1 as1 e1 r1 => ⟨r1, e1, OutS.ext h e1⟩
  | er e S1 => exact h σ
  | no => exact h
theorem OutS.seq {K : PySem.W.Frag} {W : WX} {B F : Hp} {as : List Addr} {o : O} {m : Ms → O} {D : Ends} (h : OutS K W B F as (o.seq m) D) : OutS K W B F as o { D with nx := sD K W m D } := by
  cases o with
  | nx S' => exact fun σ' F' H' as' e' r => ⟨B, F', as', S', r, OutS.ext h e'⟩
  | rt d S' => exact h
  | bk S' => exact h
  | ct S' => exact h
  | er e S' => exact h
  | no => exact h
theorem monoE {X : Cx} {e : Expr} {t t' : TE} (h : PE X e t) (m : ∀ σ H Q, t' σ H Q → t σ H Q) : PE X e t' := ⟨fun pins s σ H Q I q => h.run pins s σ H Q I (m σ H Q q)⟩
theorem monoT {X : Cx} {e : Expr} {t t' : TT} (h : PT X e t) (m : ∀ σ H Q, t' σ H Q → t σ H Q) : PT X e t' := ⟨fun pins s σ H Q I q => h.run pins s σ H Q I (m σ H Q q)⟩
theorem monoA {X : Cx} {e : List Expr} {t t' : TA} (h : PA X e t) (m : ∀ σ H Q, t' σ H Q → t σ H Q) : PA X e t' := ⟨fun pos pins s σ H Q I q => h.run pos pins s σ H Q I (m σ H Q q)⟩
theorem monoS {X : Cx} {st : Stmt} {t t' : TS} (h : PS X st t) (m : ∀ D σ H, t' D σ H → t D σ H) : PS X st t' := ⟨fun pins s σ H D I q => h.run pins s σ H D I (m D σ H q)⟩
theorem monoSs {X : Cx} {st : List Stmt} {t t' : TS} (h : PSs X st t) (m : ∀ D σ H, t' D σ H → t D σ H) : PSs X st t' := ⟨fun pins s σ H D I q => h.run pins s σ H D I (m D σ H q)⟩
theorem monoPT {X : Cx} {e : List Expr} {t t' : TT} (h : PTs X e t) (m : ∀ σ H Q, t' σ H Q → t σ H Q) : PTs X e t' := ⟨fun pins s σ H Q I q => h.run pins s σ H Q I (m σ H Q q)⟩
end Lq

namespace Lq
open PySem PySem.Spec PyProof.Rows L2
open Evl (Ex)

/-- a value is given: one that stands, or a new object -/
def Gv (K : PySem.W.Frag) (F H : Hp) (z : Dt) (Q : VK) : Prop :=
  (∀ u, Rp K F u z → Q u H) ∧ ∀ p o, H p = none → Rp K (upd F p o) (.ref p) z → Q (.ref p) (upd H p o)
/-- a new list is given -/
def GvL (K : PySem.W.Frag) (F H : Hp) (z : List Dt) (Q : VK) : Prop := ∀ p vs, H p = none → RpA K F vs z → Q (.ref p) (upd H p (.lst vs))
theorem gv_of {K : PySem.W.Frag} {W : WX} {B F H : Hp} {as : List Addr} {σ : L2.St} {S : Ms} {z : Dt} {Q : VK} (h : Out K W B F as σ (.ok z S) fun d F' H' _ _ => ∀ v, Rp K F' v d → Q v H') (r : Rep K B F H as σ S) : Gv K F H z Q :=
  ⟨fun u hu => h F H as Ext.refl r u hu, fun p o hp hu => by
    obtain ⟨e1, r1⟩ := r.new hp o
    exact h _ _ as e1 r1 _ hu⟩
theorem gvl_of {K : PySem.W.Frag} {W : WX} {B F H : Hp} {as : List Addr} {σ : L2.St} {S : Ms} {z : List Dt} {Q : VK}
    (h : Out K W B F as σ (.ok z S) fun ds F' H' as' _ => ∀ p vs, F' p = none → B p = none → p ∉ as' → H' p = some (.lst vs) → RpA K F' vs ds → Q (.ref p) H') (r : Rep K B F H as σ S) : GvL K F H z Q := fun p vs hp hv => by
  obtain ⟨f1, f2, f3⟩ := r.fresh hp
  have r1 : Rep K B F (upd H p (.lst vs)) as σ S := by
    refine ⟨fun a o e => ?_, fun a o e => ?_, r.sl, r.mo.mono fun a m q => ?_, r.nd⟩
    · rw [upd_ne (ne_of_none (r.fh _ _ e) hp)]
      exact r.fh _ _ e
    · obtain ⟨z1, z2, z3⟩ := r.bh a o e
      exact ⟨by rw [upd_ne (ne_of_none z1 hp)]; exact z1, z2, z3⟩
    · cases m with
      | ob ds =>
        obtain ⟨z1, z2, ws, z3, z4⟩ := q
        exact ⟨z1, z2, ws, by rw [upd_ne (ne_of_none z3 hp)]; exact z3, z4⟩
      | fz d => exact q
  exact h F _ as Ext.refl r1 p vs f1 f2 f3 upd_same hv
/-- a new list, at once frozen -/
def frz (f : Ms → R (List Dt)) : Ms → R Dt := fun S => (f S).bind fun ds S1 => .ok (.lst ds) S1
theorem frz_run {K : PySem.W.Frag} {W : WX} {f : Ms → R (List Dt)} {σ : L2.St} {H : Hp} {Q : VK} (q : tD K W (frz f) σ H Q) : tN K W f σ H Q := by
  obtain ⟨B, F, as, S, r, o⟩ := q
  refine ⟨B, F, as, S, r, Out.mono (Out.bind o) fun ds F' H' as' S' ⟨r1, e1, o1⟩ => ?_⟩
  intro p vs f1 f2 f3 hp hv
  have e : Ex F' (upd F' p (.lst vs)) := Ex.new f1
  have ee : Ext F' (upd F' p (.lst vs)) as' as' := ⟨e, [], by simp⟩
  refine o1 (upd F' p (.lst vs)) H' as' ee ⟨fun a u hu => ?_, fun a u hu => ?_, r1.sl.mono fun _ _ q => SvR.up q ee, ?_, r1.nd⟩ _ (.lst upd_same (hv.up e))
  · by_cases q : a = p
    · subst q
      rw [upd_same] at hu
      rw [hp]; exact hu
    · rw [upd_ne q] at hu
      exact r1.fh _ _ hu
  · have n : a ≠ p := by
      rintro rfl
      rw [f2] at hu; cases hu
    rw [upd_ne n]
    exact r1.bh a u hu
  · have : ∀ {xs : List Addr} {ys : List Mo}, (∀ a ∈ xs, a ≠ p) → Paired (MoR K B F' H') xs ys → Paired (MoR K B (upd F' p (.lst vs)) H') xs ys := by
      intro xs ys hn z
      induction z with
      | nil => exact .nil
      | @cons a b l1 l2 z zs ih =>
        refine .cons ?_ (ih fun a ha => hn a (List.mem_cons_of_mem _ ha))
        cases b with
        | ob ds =>
          obtain ⟨z1, z2, ws, z3, z4⟩ := z
          exact ⟨z1, by rw [upd_ne (hn _ List.mem_cons_self)]; exact z2, ws, z3, z4.up e⟩
        | fz d =>
          obtain ⟨⟨u, z1⟩, z2⟩ := z
          exact ⟨⟨u, e _ _ z1⟩, z2.up e⟩
    exact this (fun a ha z => f3 (z ▸ ha)) r1.mo
theorem de_frz {X : Cx} {W : WX} {e : Expr} {f : Ms → R (List Dt)} (h : PE X e (tN X.K W f)) : PE X e (tD X.K W (frz f)) := monoE h fun σ H Q q => frz_run q

/-! ### names and constants -/
def cE (d : Dt) : Ms → R Dt := fun S => .ok d S
def varE (i : Nat) : Ms → R Dt := fun S => match S.sl[i]? with
  | some (.im d) => .ok d S
  | some (.mu k) => match S.mo[k]? with
    | some (.ob (.ls xs)) => .ok (.lst xs) { S with mo := S.mo.set k (.fz (.lst xs)) }
    | some (.fz d) => .ok d S
    | _ => .no
  | _ => .no
section
variable {X : Cx} {W : WX} {a b c e : Expr} {pos : Pos}
theorem de_var {i : Nat} (h : PE X e (tVar i)) : PE X e (tD X.K W (varE i)) := monoE h fun σ H Q q => by
  obtain ⟨B, F, as, S, r, o⟩ := q
  unfold varE at o
  cases hs : S.sl[i]? with
  | none => rw [hs] at o; exact o.elim
  | some s =>
    rw [hs] at o
    cases s with
    | no => exact o.elim
    | im d =>
      obtain ⟨ov, hv, z⟩ := pairedGet r.sl hs
      cases ov with
      | none => exact z.elim
      | some v => exact ⟨v, hv, Out.now o r v z⟩
    | mu k =>
      obtain ⟨ov, hv, z⟩ := pairedGet r.sl hs
      cases ov with
      | none => exact z.elim
      | some v =>
        obtain ⟨x, hx, rfl⟩ := z
        refine ⟨_, hv, ?_⟩
        dsimp only at o
        cases hm : S.mo[k]? with
        | none => rw [hm] at o; exact o.elim
        | some m =>
          rw [hm] at o
          cases m with
          | ob c =>
           cases c with
           | dc kvs => exact o.elim
           | ls xs =>
            obtain ⟨y, F1, hy, e1, r1, q1⟩ := r.freeze hm
            rw [hx] at hy
            cases hy
            exact o F1 H as e1 r1 _ q1
          | fz d =>
            obtain ⟨y, hy, _, q1⟩ := pairedGet r.mo hm
            rw [hx] at hy
            cases hy
            exact Out.now o r _ q1
theorem de_c {v : V} {d : Dt} (h : PE X e (tC v)) (hd : ∀ F, Rp X.K F v d) : PE X e (tD X.K W (cE d)) := monoE h fun σ H Q q => by
  obtain ⟨B, F, as, S, r, o⟩ := q
  exact Out.now o r v (hd F)
theorem de_int {i j} : PE X (.Constant (.int i) j pos) (tD X.K W (cE (.int i))) := de_c pe_int fun _ => .int i
theorem de_bl {i j} : PE X (.Constant (.bool i) j pos) (tD X.K W (cE (.bl i))) := de_c pe_bl fun _ => .bl i
theorem de_non {j} : PE X (.Constant .none j pos) (tD X.K W (cE .non)) := de_c pe_non fun _ => .non
theorem de_str {x j} : PE X (.Constant (.str x) j pos) (tD X.K W (cE (.str x))) := de_c pe_str fun _ => .str x

/-! ### operators by values -/
def op2 (f g : Ms → R Dt) (h : Dt → Dt → Option Dt) : Ms → R Dt := fun S => (f S).bind fun d S1 => (g S1).bind fun e S2 => R.of (h d e) S2
def RulD (K : PySem.W.Frag) (r : R2) (h : Dt → Dt → Option Dt) : Prop := ∀ F H v w d e z Q, Ex F H → Rp K F v d → Rp K F w e → h d e = some z → Gv K F H z Q → r v w H Q
theorem dt_op {r : R2} {f g : Ms → R Dt} {h : Dt → Dt → Option Dt} {K : PySem.W.Frag} (hr : RulD K r h) (σ : L2.St) (H : Hp) (Q : VK) (q : tD K W (op2 f g h) σ H Q) : tOp r (tD K W f) (tD K W g) σ H Q := by
  obtain ⟨B, F, as, S, r0, o⟩ := q
  refine ⟨B, F, as, S, r0, Out.mono (Out.bind o) fun d F1 H1 as1 S1 ⟨r1, e1, o1⟩ v hv => ?_⟩
  refine ⟨B, F1, as1, S1, r1, ?_⟩
  have o2 := Out.bind o1
  revert o2
  cases g S1 with
  | ok e S2 =>
    intro o2 F2 H2 as2 e2 r2 w hw
    obtain ⟨_, _, o3⟩ := o2 F2 H2 as2 e2 r2
    cases hz : h d e with
    | none => rw [hz] at o3; exact o3.elim
    | some z =>
      rw [hz] at o3
      exact hr F2 H2 v w d e z Q r2.fh (hv.up e2.1) hw hz (gv_of o3 r2)
  | er x S2 => exact fun o2 => o2
  | no => exact fun o2 => o2
theorem de_op {op : Operator} {r : R2} {f g : Ms → R Dt} {h : Dt → Dt → Option Dt} (ho : OpR X (binaryOp op) r) (hr : RulD X.K r h) (ha : PE X a (tD X.K W f)) (hb : PE X b (tD X.K W g)) : PE X (.BinOp a op b pos) (tD X.K W (op2 f g h)) :=
  monoE (pe_op ho ha hb) (dt_op hr)
theorem de_cmp {op : CmpOp} {r : R2} {f g : Ms → R Dt} {h : Dt → Dt → Option Dt} (ho : OpR X (compareOp op) r) (hr : RulD X.K r h) (ha : PE X a (tD X.K W f)) (hb : PE X b (tD X.K W g)) (hm : behindInMarks op b = false) : PE X (.Compare a [op] [b] pos) (tD X.K W (op2 f g h)) :=
  monoE (pe_cmpR ho ha hb hm) (dt_op hr)
theorem de_ix {r : R2} {f g : Ms → R Dt} {h : Dt → Dt → Option Dt} (ho : IxR X r) (hr : RulD X.K r h) (ha : PE X a (tD X.K W f)) (hb : PE X b (tD X.K W g)) (hs : PlainIx b) : PE X (.Subscript a b pos) (tD X.K W (op2 f g h)) :=
  monoE (pe_ix ho ha hb hs) (dt_op hr)
def op1 (f : Ms → R Dt) (h : Dt → Option Dt) : Ms → R Dt := fun S => (f S).bind fun d S1 => R.of (h d) S1
theorem de_un {op : UnaryOp} {r : V → Hp → VK → Prop} {f : Ms → R Dt} {h : Dt → Option Dt} (ho : UnR X (unaryOp op) r) (hr : ∀ F H v d z Q, Ex F H → Rp X.K F v d → h d = some z → Gv X.K F H z Q → r v H Q) (ha : PE X a (tD X.K W f)) :
    PE X (.UnaryOp op a pos) (tD X.K W (op1 f h)) := monoE (pe_un ho ha) fun σ H Q q => by
  obtain ⟨B, F, as, S, r0, o⟩ := q
  refine ⟨B, F, as, S, r0, Out.mono (Out.bind o) fun d F1 H1 as1 S1 ⟨r1, e1, o1⟩ v hv => ?_⟩
  cases hz : h d with
  | none => rw [hz] at o1; exact o1.elim
  | some z =>
    rw [hz] at o1
    exact hr F1 H1 v d z Q r1.fh hv hz (gv_of o1 r1)
/-- a new list by an operator -/
def opN (f g : Ms → R Dt) (h : Dt → Dt → Option (List Dt)) : Ms → R (List Dt) := fun S => (f S).bind fun d S1 => (g S1).bind fun e S2 => R.of (h d e) S2
def RulN (K : PySem.W.Frag) (r : R2) (h : Dt → Dt → Option (List Dt)) : Prop := ∀ F H v w d e z Q, Ex F H → Rp K F v d → Rp K F w e → h d e = some z → GvL K F H z Q → r v w H Q
theorem dn_op {op : Operator} {r : R2} {f g : Ms → R Dt} {h : Dt → Dt → Option (List Dt)} (ho : OpR X (binaryOp op) r) (hr : RulN X.K r h) (ha : PE X a (tD X.K W f)) (hb : PE X b (tD X.K W g)) : PE X (.BinOp a op b pos) (tN X.K W (opN f g h)) :=
  monoE (pe_op ho ha hb) fun σ H Q q => by
    obtain ⟨B, F, as, S, r0, o⟩ := q
    refine ⟨B, F, as, S, r0, Out.mono (Out.bind o) fun d F1 H1 as1 S1 ⟨r1, e1, o1⟩ v hv => ?_⟩
    refine ⟨B, F1, as1, S1, r1, ?_⟩
    have o2 := Out.bind o1
    revert o2
    cases g S1 with
    | ok e S2 =>
      intro o2 F2 H2 as2 e2 r2 w hw
      obtain ⟨_, _, o3⟩ := o2 F2 H2 as2 e2 r2
      cases hz : h d e with
      | none => rw [hz] at o3; exact o3.elim
      | some z =>
        rw [hz] at o3
        exact hr F2 H2 v w d e z Q r2.fh (hv.up e2.1) hw hz (gvl_of o3 r2)
    | er x S2 => exact fun o2 => o2
    | no => exact fun o2 => o2

/-! ### ints -/
def iOp (g : Int → Int → Int) : Dt → Dt → Option Dt | .int i, .int j => some (.int (g i j)) | _, _ => none
theorem rd_I0 {K : PySem.W.Frag} {g : Int → Int → Int} : RulD K (rI0 fun i j => .int (g i j)) (iOp g) := fun F H v w d e z Q _ hv hw hz q => by
  cases d <;> cases e <;> simp only [iOp] at hz <;> cases hz
  cases hv; cases hw
  exact ⟨_, _, rfl, rfl, q.1 _ (.int _)⟩
def iOpC (C : Int → Int → Prop) [∀ i j, Decidable (C i j)] (g : Int → Int → Int) : Dt → Dt → Option Dt | .int i, .int j => if C i j then some (.int (g i j)) else none | _, _ => none
theorem rd_I {K : PySem.W.Frag} {C : Int → Int → Prop} [∀ i j, Decidable (C i j)] {g : Int → Int → Int} : RulD K (rI C fun i j => .int (g i j)) (iOpC C g) := fun F H v w d e z Q _ hv hw hz q => by
  cases d <;> cases e <;> simp only [iOpC] at hz <;> try cases hz
  split at hz
  · cases hz
    cases hv; cases hw
    exact ⟨_, _, rfl, rfl, by assumption, q.1 _ (.int _)⟩
  · cases hz
def iCmp (g : Int → Int → Bool) : Dt → Dt → Option Dt | .int i, .int j => some (.bl (g i j)) | _, _ => none
theorem rd_C {K : PySem.W.Frag} {g : Int → Int → Bool} : RulD K (rI0 fun i j => .bl (g i j)) (iCmp g) := fun F H v w d e z Q _ hv hw hz q => by
  cases d <;> cases e <;> simp only [iCmp] at hz <;> cases hz
  cases hv; cases hw
  exact ⟨_, _, rfl, rfl, q.1 _ (.bl _)⟩
instance : ∀ i j, Decidable (CMul i j) := fun i j => by unfold CMul; infer_instance
instance : ∀ i j, Decidable (CDiv i j) := fun i j => by unfold CDiv; infer_instance
abbrev addO := iOp fun i j => i + j
abbrev subO := iOp fun i j => i - j
abbrev mulO := iOpC CMul fun i j => i * j
abbrev modO := iOpC (fun _ j => 0 < j) fun i j => i % j
abbrev divO := iOpC CDiv fun i j => i / j
abbrev ltO := iCmp fun i j => decide (i < j)
abbrev leO := iCmp fun i j => decide (i ≤ j)
abbrev gtO := iCmp fun i j => decide (j < i)
abbrev geO := iCmp fun i j => decide (j ≤ i)
section
variable {f g : Ms → R Dt}
theorem de_add (ha : PE X a (tD X.K W f)) (hb : PE X b (tD X.K W g)) : PE X (.BinOp a .Add b pos) (tD X.K W (op2 f g addO)) := de_op op_add rd_I0 ha hb
theorem de_sub (ha : PE X a (tD X.K W f)) (hb : PE X b (tD X.K W g)) : PE X (.BinOp a .Sub b pos) (tD X.K W (op2 f g subO)) := de_op op_sub rd_I0 ha hb
theorem de_mul (ha : PE X a (tD X.K W f)) (hb : PE X b (tD X.K W g)) : PE X (.BinOp a .Mult b pos) (tD X.K W (op2 f g mulO)) := de_op op_mul rd_I ha hb
theorem de_mod (ha : PE X a (tD X.K W f)) (hb : PE X b (tD X.K W g)) : PE X (.BinOp a .Mod b pos) (tD X.K W (op2 f g modO)) := de_op op_mod rd_I ha hb
theorem de_div (ha : PE X a (tD X.K W f)) (hb : PE X b (tD X.K W g)) : PE X (.BinOp a .FloorDiv b pos) (tD X.K W (op2 f g divO)) := de_op op_fdiv rd_I ha hb
theorem de_lt (ha : PE X a (tD X.K W f)) (hb : PE X b (tD X.K W g)) : PE X (.Compare a [.Lt] [b] pos) (tD X.K W (op2 f g ltO)) := de_cmp op_lt rd_C ha hb (nomark _)
theorem de_le (ha : PE X a (tD X.K W f)) (hb : PE X b (tD X.K W g)) : PE X (.Compare a [.LtE] [b] pos) (tD X.K W (op2 f g leO)) := de_cmp op_le rd_C ha hb (nomark _)
theorem de_gt (ha : PE X a (tD X.K W f)) (hb : PE X b (tD X.K W g)) : PE X (.Compare a [.Gt] [b] pos) (tD X.K W (op2 f g gtO)) := de_cmp op_gt rd_C ha hb (nomark _)
theorem de_ge (ha : PE X a (tD X.K W f)) (hb : PE X b (tD X.K W g)) : PE X (.Compare a [.GtE] [b] pos) (tD X.K W (op2 f g geO)) := de_cmp op_ge rd_C ha hb (nomark _)
def negO : Dt → Option Dt | .int i => some (.int (-i)) | _ => none
theorem de_neg (ha : PE X a (tD X.K W f)) : PE X (.UnaryOp .USub a pos) (tD X.K W (op1 f negO)) := de_un un_neg (fun F H v d z Q _ hv hz q => by
  cases d <;> simp only [negO] at hz <;> cases hz
  cases hv
  exact ⟨_, rfl, q.1 _ (.int _)⟩) ha

/-! ### == and != of data -/
mutual
def toPy : Dt → PyData
  | .non => .none | .bl b => .bool b | .int i => .int i | .str x => .str x | .lst xs => .list (toPys xs) | .tup xs => .tuple (toPys xs) | .obj _ _ _ => .none | .scr _ _ => .none
def toPys : List Dt → List PyData
  | [] => [] | d :: ds => toPy d :: toPys ds
end
mutual
def plain : Dt → Bool
  | .lst xs => plains xs | .tup xs => plains xs | .obj _ _ _ => false | .scr _ _ => false | _ => true
def plains : List Dt → Bool
  | [] => true | d :: ds => plain d && plains ds
end
mutual
theorem Rp.dp {K : PySem.W.Frag} {F : Hp} : ∀ (d : Dt) (v : V), plain d = true → Rp K F v d → Dp K F v (toPy d)
  | .non, _, _, h => by cases h; exact .non
  | .bl b, _, _, h => by cases h; exact .bl _
  | .int i, _, _, h => by cases h; exact .int _
  | .str x, _, _, h => by cases h; exact .str _
  | .lst ds, _, p, h => by
    cases h with
    | lst hs ha => rw [toPy]; exact .lst (Evl.sq_of hs) (RpA.dp ds _ (by simpa [plain] using p) ha)
  | .tup ds, _, p, h => by
    cases h with
    | tup hs ha => rw [toPy]; exact .tup hs.sq (RpA.dp ds _ (by simpa [plain] using p) ha)
  | .obj C ks ds, _, p, h => by simp [plain] at p
  | .scr t ds, _, p, h => by simp [plain] at p
theorem RpA.dp {K : PySem.W.Frag} {F : Hp} : ∀ (ds : List Dt) (vs : List V), plains ds = true → RpA K F vs ds → DpAll K F vs (toPys ds)
  | [], _, _, h => by cases h; rw [toPys]; exact .nil
  | d :: ds, _, p, h => by
    cases h with
    | cons h1 h2 =>
      rw [plains, Bool.and_eq_true] at p
      rw [toPys]
      exact .cons (Rp.dp d _ p.1 h1) (RpA.dp ds _ p.2 h2)
end
/-- data of the shape that == is told for -/
def shp (d : Dt) : Bool := plain d && SeqAt.shaped (toPy d)
def eqO (d e : Dt) : Option Dt := if shp d && shp e then some (.bl (PyData.eqv (toPy d) (toPy e))) else none
def neO (d e : Dt) : Option Dt := if shp d && shp e then some (.bl (!PyData.eqv (toPy d) (toPy e))) else none
theorem Dp.up {K : PySem.W.Frag} {F H : Hp} (e : Ex F H) {v : V} {d : Dt} (p : plain d = true) (h : Rp K F v d) : Dp K H v (toPy d) := Rp.dp d v p (h.up e)
theorem de_eq (hu : X.A.units + 64 < cLine) (ha : PE X a (tD X.K W f)) (hb : PE X b (tD X.K W g)) : PE X (.Compare a [.Eq] [b] pos) (tD X.K W (op2 f g eqO)) := de_cmp (op_eqD hu) (fun F H v w d e z Q ex hv hw hz q => by
  unfold eqO at hz
  split at hz
  · rename_i h
    simp only [Bool.and_eq_true, shp] at h
    cases hz
    exact ⟨_, _, Dp.up ex h.1.1 hv, Dp.up ex h.2.1 hw, h.1.2, h.2.2, q.1 _ (.bl _)⟩
  · cases hz) ha hb (nomark _)
theorem de_ne (hu : X.A.units + 64 < cLine) (ha : PE X a (tD X.K W f)) (hb : PE X b (tD X.K W g)) : PE X (.Compare a [.NotEq] [b] pos) (tD X.K W (op2 f g neO)) := de_cmp (op_neD hu) (fun F H v w d e z Q ex hv hw hz q => by
  unfold neO at hz
  split at hz
  · rename_i h
    simp only [Bool.and_eq_true, shp] at h
    cases hz
    exact ⟨_, _, Dp.up ex h.1.1 hv, Dp.up ex h.2.1 hw, h.1.2, h.2.2, q.1 _ (.bl _)⟩
  · cases hz) ha hb (nomark _)
/-- is None, is not None; is of two bools -/
def isNO : Dt → Dt → Option Dt | .non, .non => some (.bl true) | .obj _ _ _, .non => some (.bl false) | .int _, .non => some (.bl false) | .bl _, .non => some (.bl false) | .str _, .non => some (.bl false) | .lst _, .non => some (.bl false) | .tup _, .non => some (.bl false) | _, _ => none
def notNO (d e : Dt) : Option Dt := match isNO d e with | some (.bl b) => some (.bl (!b)) | _ => none
theorem isN_v {K : PySem.W.Frag} {F : Hp} {v : V} {d : Dt} (h : Rp K F v d) {b : Bool} (hz : isNO d .non = some (.bl b)) : decide (v = .non) = b := by
  cases h <;> simp_all [isNO]
theorem de_isN (ha : PE X a (tD X.K W f)) (hb : PE X b (tD X.K W g)) : PE X (.Compare a [.Is] [b] pos) (tD X.K W (op2 f g isNO)) := de_cmp op_isN1 (fun F H v w d e z Q ex hv hw hz q => by
  obtain ⟨bb, rfl, rfl⟩ : ∃ bb, z = .bl bb ∧ e = .non := by cases d <;> cases e <;> simp_all [isNO]
  cases hw
  refine ⟨rfl, ?_⟩
  rw [isN_v hv hz]
  exact q.1 _ (.bl _)) ha hb (nomark _)
theorem de_notN (ha : PE X a (tD X.K W f)) (hb : PE X b (tD X.K W g)) : PE X (.Compare a [.IsNot] [b] pos) (tD X.K W (op2 f g notNO)) := de_cmp op_notN1 (fun F H v w d e z Q ex hv hw hz q => by
  unfold notNO at hz
  split at hz
  · rename_i bb hh
    cases hz
    obtain rfl : e = .non := by cases d <;> cases e <;> simp_all [isNO]
    cases hw
    refine ⟨rfl, ?_⟩
    rw [isN_v hv hh]
    exact q.1 _ (.bl _)
  · cases hz) ha hb (nomark _)
def bCmp (g : Bool → Bool → Bool) : Dt → Dt → Option Dt | .bl i, .bl j => some (.bl (g i j)) | _, _ => none
theorem de_isB (ha : PE X a (tD X.K W f)) (hb : PE X b (tD X.K W g)) : PE X (.Compare a [.Is] [b] pos) (tD X.K W (op2 f g (bCmp fun i j => decide (i = j)))) := de_cmp op_isBl (fun F H v w d e z Q ex hv hw hz q => by
  cases d <;> cases e <;> simp only [bCmp] at hz <;> cases hz
  cases hv; cases hw
  exact ⟨_, _, rfl, rfl, q.1 _ (.bl _)⟩) ha hb (nomark _)
theorem de_notB (ha : PE X a (tD X.K W f)) (hb : PE X b (tD X.K W g)) : PE X (.Compare a [.IsNot] [b] pos) (tD X.K W (op2 f g (bCmp fun i j => !decide (i = j)))) := de_cmp op_notBl (fun F H v w d e z Q ex hv hw hz q => by
  cases d <;> cases e <;> simp only [bCmp] at hz <;> cases hz
  cases hv; cases hw
  exact ⟨_, _, rfl, rfl, q.1 _ (.bl _)⟩) ha hb (nomark _)

/-! ### subscripts -/
def ixO : Dt → Dt → Option Dt | .lst xs, .int i => atI xs i | .tup xs, .int i => atI xs i | .scr _ xs, .int i => atI xs i | _, _ => none
theorem atI_get' {α : Type} {xs : List α} {i : Int} {z : α} (h : atI xs i = some z) : ∃ j, ixN xs.length i = some j ∧ xs[j]? = some z := by
  unfold atI at h
  cases e : ixN xs.length i with
  | none => rw [e] at h; cases h
  | some j => rw [e] at h; exact ⟨j, rfl, h⟩
theorem atI_rp {K : PySem.W.Frag} {F : Hp} {vs : List V} {ds : List Dt} {i : Int} {z : Dt} (hv : RpA K F vs ds) (h : atI ds i = some z) : ∃ v, atI vs i = some v ∧ Rp K F v z := by
  obtain ⟨j, h1, h2⟩ := atI_get' h
  obtain ⟨v, h3, h4⟩ := hv.get h2
  refine ⟨v, ?_, h4⟩
  unfold atI
  rw [hv.length, h1]
  exact h3
theorem rd_ix {K : PySem.W.Frag} : RulD K (rIx K) ixO := fun F H v w d e z Q ex hv hw hz q => by
  cases d <;> cases e <;> simp only [ixO] at hz <;> try cases hz
  · cases hw
    cases hv with
    | lst hs ha =>
      obtain ⟨u, h1, h2⟩ := atI_rp ha hz
      exact .inl ⟨_, _, _, u, rfl, rfl, Evl.ex_l ex (Evl.sq_of hs), h1, q.1 _ h2⟩
  · cases hw
    cases hv with
    | tup hs ha =>
      obtain ⟨u, h1, h2⟩ := atI_rp ha hz
      exact .inr (.inl ⟨_, _, _, u, rfl, rfl, Evl.ex_t ex hs.sq, h1, q.1 _ h2⟩)
  · cases hw
    rename_i t xs i
    cases hv with
    | scr _ hs ha =>
      obtain ⟨u, h1, h2⟩ := atI_rp ha hz
      have hs' := hs.up ex
      unfold SqB at hs'
      cases t with
      | true => exact .inr (.inl ⟨_, _, _, u, rfl, rfl, hs', h1, q.1 _ h2⟩)
      | false => exact .inl ⟨_, _, _, u, rfl, rfl, hs', h1, q.1 _ h2⟩
theorem de_sub1 (ha : PE X a (tD X.K W f)) (hb : PE X b (tD X.K W g)) (hs : PlainIx b := by exact fun _ _ => rfl) : PE X (.Subscript a b pos) (tD X.K W (op2 f g ixO)) := de_ix ix_seq rd_ix ha hb hs
end
end
end Lq

namespace Lq
open PySem PySem.Spec PyProof.Rows L2
open Evl (Ex)
theorem monoW {X : Cx} {e : Expr} {t t' : TT} (h : PW X e t) (m : ∀ σ H Q, t' σ H Q → t σ H Q) : PW X e t' := ⟨fun wh pins s σ H Q I q => h.run wh pins s σ H Q I (m σ H Q q)⟩
section
variable {X : Cx} {W : WX} {a b c e : Expr} {pos : Pos} {f g : Ms → R Dt} {p q : Ms → R Bool}

/-! ### tests -/
def tst (f : Ms → R Dt) : Ms → R Bool := fun S => (f S).bind fun d S1 => match d with | .bl b => .ok b S1 | _ => .no
theorem tst_run {K : PySem.W.Frag} {σ : L2.St} {H : Hp} {Q : Bool → Hp → Prop} (h : tT K W (tst f) σ H Q) : tD K W f σ H fun x H' => ∃ k, x = .bl k ∧ Q k H' := by
  obtain ⟨B, F, as, S, r, o⟩ := h
  refine ⟨B, F, as, S, r, Out.mono (Out.bind o) fun d F1 H1 as1 S1 ⟨r1, e1, o1⟩ v hv => ?_⟩
  cases d with
  | bl b => cases hv; exact ⟨b, rfl, Out.now o1 r1⟩
  | _ => exact o1.elim
theorem dt_val (he : PE X e (tD X.K W f)) (h : ∀ whole, isTrue e X.env whole = (do let v ← whole; standAt e.pos; holding [v] (truthy v)) := by exact fun _ => rfl) : PT X e (tT X.K W (tst f)) := monoT (pt_val he h) fun σ H Q q => tst_run q
theorem dt_cmp {op : CmpOp} {r : R2} {h : Dt → Dt → Option Dt} (ho : OpR X (compareOp op) r) (hr : RulD X.K r h) (ha : PE X a (tD X.K W f)) (hb : PE X b (tD X.K W g)) (hm : behindInMarks op b = false) : PT X (.Compare a [op] [b] pos) (tT X.K W (tst (op2 f g h))) :=
  monoT (pt_cmpR ho ha hb hm) fun σ H Q q => dt_op hr σ H _ (tst_run q)
theorem dt_lt (ha : PE X a (tD X.K W f)) (hb : PE X b (tD X.K W g)) : PT X (.Compare a [.Lt] [b] pos) (tT X.K W (tst (op2 f g ltO))) := dt_cmp op_lt rd_C ha hb (nomark _)
theorem dt_le (ha : PE X a (tD X.K W f)) (hb : PE X b (tD X.K W g)) : PT X (.Compare a [.LtE] [b] pos) (tT X.K W (tst (op2 f g leO))) := dt_cmp op_le rd_C ha hb (nomark _)
theorem dt_gt (ha : PE X a (tD X.K W f)) (hb : PE X b (tD X.K W g)) : PT X (.Compare a [.Gt] [b] pos) (tT X.K W (tst (op2 f g gtO))) := dt_cmp op_gt rd_C ha hb (nomark _)
theorem dt_ge (ha : PE X a (tD X.K W f)) (hb : PE X b (tD X.K W g)) : PT X (.Compare a [.GtE] [b] pos) (tT X.K W (tst (op2 f g geO))) := dt_cmp op_ge rd_C ha hb (nomark _)
theorem rd_eq {K : PySem.W.Frag} : RulD K (rEqD K) eqO := fun F H v w d e z Q ex hv hw hz q => by
  unfold eqO at hz
  split at hz
  · rename_i h
    simp only [Bool.and_eq_true, shp] at h
    cases hz
    exact ⟨_, _, Dp.up ex h.1.1 hv, Dp.up ex h.2.1 hw, h.1.2, h.2.2, q.1 _ (.bl _)⟩
  · cases hz
theorem rd_ne {K : PySem.W.Frag} : RulD K (rNeD K) neO := fun F H v w d e z Q ex hv hw hz q => by
  unfold neO at hz
  split at hz
  · rename_i h
    simp only [Bool.and_eq_true, shp] at h
    cases hz
    exact ⟨_, _, Dp.up ex h.1.1 hv, Dp.up ex h.2.1 hw, h.1.2, h.2.2, q.1 _ (.bl _)⟩
  · cases hz
theorem dt_eq (hu : X.A.units + 64 < cLine) (ha : PE X a (tD X.K W f)) (hb : PE X b (tD X.K W g)) : PT X (.Compare a [.Eq] [b] pos) (tT X.K W (tst (op2 f g eqO))) := dt_cmp (op_eqD hu) rd_eq ha hb (nomark _)
theorem dt_ne (hu : X.A.units + 64 < cLine) (ha : PE X a (tD X.K W f)) (hb : PE X b (tD X.K W g)) : PT X (.Compare a [.NotEq] [b] pos) (tT X.K W (tst (op2 f g neO))) := dt_cmp (op_neD hu) rd_ne ha hb (nomark _)
theorem rd_isN {K : PySem.W.Frag} : RulD K rIsN isNO := fun F H v w d e z Q ex hv hw hz q => by
  obtain ⟨bb, rfl, rfl⟩ : ∃ bb, z = .bl bb ∧ e = .non := by cases d <;> cases e <;> simp_all [isNO]
  cases hw
  refine ⟨rfl, ?_⟩
  rw [isN_v hv hz]
  exact q.1 _ (.bl _)
theorem rd_notN {K : PySem.W.Frag} : RulD K rNotN notNO := fun F H v w d e z Q ex hv hw hz q => by
  unfold notNO at hz
  split at hz
  · rename_i bb hh
    cases hz
    obtain rfl : e = .non := by cases d <;> cases e <;> simp_all [isNO]
    cases hw
    refine ⟨rfl, ?_⟩
    rw [isN_v hv hh]
    exact q.1 _ (.bl _)
  · cases hz
theorem dt_isN (ha : PE X a (tD X.K W f)) (hb : PE X b (tD X.K W g)) : PT X (.Compare a [.Is] [b] pos) (tT X.K W (tst (op2 f g isNO))) := dt_cmp op_isN1 rd_isN ha hb (nomark _)
theorem dt_notN (ha : PE X a (tD X.K W f)) (hb : PE X b (tD X.K W g)) : PT X (.Compare a [.IsNot] [b] pos) (tT X.K W (tst (op2 f g notNO))) := dt_cmp op_notN1 rd_notN ha hb (nomark _)
theorem rd_isB {K : PySem.W.Frag} : RulD K rIsB (bCmp fun i j => decide (i = j)) := fun F H v w d e z Q ex hv hw hz q => by
  cases d <;> cases e <;> simp only [bCmp] at hz <;> cases hz
  cases hv; cases hw
  exact ⟨_, _, rfl, rfl, q.1 _ (.bl _)⟩
theorem rd_notB {K : PySem.W.Frag} : RulD K rNotB (bCmp fun i j => !decide (i = j)) := fun F H v w d e z Q ex hv hw hz q => by
  cases d <;> cases e <;> simp only [bCmp] at hz <;> cases hz
  cases hv; cases hw
  exact ⟨_, _, rfl, rfl, q.1 _ (.bl _)⟩
theorem dt_isB (ha : PE X a (tD X.K W f)) (hb : PE X b (tD X.K W g)) : PT X (.Compare a [.Is] [b] pos) (tT X.K W (tst (op2 f g (bCmp fun i j => decide (i = j))))) := dt_cmp op_isBl rd_isB ha hb (nomark _)
theorem dt_notB (ha : PE X a (tD X.K W f)) (hb : PE X b (tD X.K W g)) : PT X (.Compare a [.IsNot] [b] pos) (tT X.K W (tst (op2 f g (bCmp fun i j => !decide (i = j))))) := dt_cmp op_notBl rd_notB ha hb (nomark _)
/-- in, not in: flat items -/
def flatD : Dt → Bool | .non => true | .bl _ => true | .int _ => true | .str _ => true | _ => false
def eqF : Dt → Dt → Bool | .int i, .int j => i == j | .non, .non => true | .str x, .str y => x == y | _, _ => false
/-- all ints: the common case -/
def intsOf : List Dt → Option (List Int)
  | [] => some [] | .int i :: ds => (intsOf ds).map (i :: ·) | _ => none
theorem intsOf_map (ns : List Int) : intsOf (ns.map Dt.int) = some ns := by
  induction ns with
  | nil => rfl
  | cons n ns ih => simp [intsOf, ih]
theorem intsOf_eq : ∀ {ds : List Dt} {ns : List Int}, intsOf ds = some ns → ds = ns.map Dt.int
  | [], ns, h => by simp [intsOf] at h; subst h; rfl
  | d :: ds, ns, h => by
    cases d <;> simp only [intsOf] at h <;> try cases h
    cases hh : intsOf ds with
    | none => rw [hh] at h; cases h
    | some ms =>
      rw [hh] at h
      cases h
      rw [intsOf_eq hh]; rfl
def seqOf : Dt → Option (List Dt) | .lst xs => some xs | .tup xs => some xs | .scr _ xs => some xs | _ => none
def inI (neg : Bool) : Dt → Dt → Option Dt
  | .int i, d => (seqOf d).bind fun xs => (intsOf xs).map fun ns => .bl (if neg then !ns.contains i else ns.contains i)
  | _, _ => none
theorem inV_ints (i : Int) : ∀ ns : List Int, inV (.int i) (ns.map V.int) = ns.contains i
  | [] => rfl
  | n :: ns => by
    have ih := inV_ints i ns
    unfold inV at ih ⊢
    rw [List.map_cons, List.any_cons, ih, List.contains_cons]
    congr 1
    show (n == i) = (i == n)
    rw [Bool.beq_comm]
theorem flat_ints : ∀ ns : List Int, (ns.map V.int).all flatV = true
  | [] => rfl
  | n :: ns => by rw [List.map_cons, List.all_cons, flat_ints ns]; rfl
theorem rd_in {K : PySem.W.Frag} {neg : Bool} : RulD K (rIn K neg) (inI neg) := fun F H v w d e z Q ex hv hw hz q => by
  cases d <;> simp only [inI] at hz <;> try cases hz
  rename_i i
  cases hs : seqOf e with
  | none => rw [hs] at hz; cases hz
  | some xs =>
    rw [hs] at hz
    dsimp only [Option.bind] at hz
    cases hn : intsOf xs with
    | none => rw [hn] at hz; cases hz
    | some ns =>
      rw [hn] at hz
      cases hz
      cases hv
      have ex1 := intsOf_eq hn
      subst ex1
      cases e <;> simp only [seqOf] at hs <;> cases hs
      · cases hw with
        | lst hs ha =>
          rw [ha.intsv] at hs
          refine ⟨_, _, rfl, .inl (Evl.ex_l ex (Evl.sq_of hs)), rfl, flat_ints _, ?_⟩
          rw [inV_ints]
          exact q.1 _ (.bl _)
      · cases hw with
        | tup hs ha =>
          rw [ha.intsv] at hs
          refine ⟨_, _, rfl, .inr (Evl.ex_t ex hs.sq), rfl, flat_ints _, ?_⟩
          rw [inV_ints]
          exact q.1 _ (.bl _)
      · rename_i t
        cases hw with
        | scr _ hs ha =>
          rw [ha.intsv] at hs
          have hs' := hs.up ex
          unfold SqB at hs'
          cases t with
          | true =>
            refine ⟨_, _, rfl, .inr hs', rfl, flat_ints _, ?_⟩
            rw [inV_ints]
            exact q.1 _ (.bl _)
          | false =>
            refine ⟨_, _, rfl, .inl hs', rfl, flat_ints _, ?_⟩
            rw [inV_ints]
            exact q.1 _ (.bl _)
theorem dt_in (ha : PE X a (tD X.K W f)) (hb : PE X b (tD X.K W g)) (hm : behindInMarks .In b = false := by rfl) : PT X (.Compare a [.In] [b] pos) (tT X.K W (tst (op2 f g (inI false)))) := dt_cmp op_in_seq rd_in ha hb hm
theorem dt_nin (ha : PE X a (tD X.K W f)) (hb : PE X b (tD X.K W g)) (hm : behindInMarks .NotIn b = false := by rfl) : PT X (.Compare a [.NotIn] [b] pos) (tT X.K W (tst (op2 f g (inI true)))) := dt_cmp op_notIn_seq rd_in ha hb hm
theorem de_in (ha : PE X a (tD X.K W f)) (hb : PE X b (tD X.K W g)) (hm : behindInMarks .In b = false := by rfl) : PE X (.Compare a [.In] [b] pos) (tD X.K W (op2 f g (inI false))) := de_cmp op_in_seq rd_in ha hb hm
theorem de_nin (ha : PE X a (tD X.K W f)) (hb : PE X b (tD X.K W g)) (hm : behindInMarks .NotIn b = false := by rfl) : PE X (.Compare a [.NotIn] [b] pos) (tD X.K W (op2 f g (inI true))) := de_cmp op_notIn_seq rd_in ha hb hm
/-- in, not in of a list of data -/
def inD (neg : Bool) : Dt → Dt → Option Dt
  | d, .lst xs => if shp d && shp (.lst xs) then some (.bl (let k := (toPys xs).any fun z => PyData.eqv z (toPy d); if neg then !k else k)) else none
  | _, _ => none
theorem dt_ninD (hu : X.A.units + 65 < cLine) (ha : PE X a (tD X.K W f)) (hb : PE X b (tD X.K W g)) (hm : behindInMarks .NotIn b = false := by rfl) : PT X (.Compare a [.NotIn] [b] pos) (tT X.K W (tst (op2 f g (inD true)))) :=
  dt_cmp (op_notInD hu) (fun F H v w d e z Q ex hv hw hz q => by
    cases e <;> simp only [inD] at hz <;> try cases hz
    split at hz
    · rename_i h
      simp only [Bool.and_eq_true, shp] at h
      cases hz
      have h2 := Dp.up ex h.2.1 hw
      rw [toPy] at h2
      have h3 := h.2.2
      rw [toPy] at h3
      exact ⟨_, _, Dp.up ex h.1.1 hv, h2, h.1.2, h3, q.1 _ (.bl _)⟩
    · cases hz) ha hb hm
theorem dt_inD (hu : X.A.units + 65 < cLine) (ha : PE X a (tD X.K W f)) (hb : PE X b (tD X.K W g)) (hm : behindInMarks .In b = false := by rfl) : PT X (.Compare a [.In] [b] pos) (tT X.K W (tst (op2 f g (inD false)))) :=
  dt_cmp (op_inD hu) (fun F H v w d e z Q ex hv hw hz q => by
    cases e <;> simp only [inD] at hz <;> try cases hz
    split at hz
    · rename_i h
      simp only [Bool.and_eq_true, shp] at h
      cases hz
      have h2 := Dp.up ex h.2.1 hw
      rw [toPy] at h2
      have h3 := h.2.2
      rw [toPy] at h3
      exact ⟨_, _, Dp.up ex h.1.1 hv, h2, h.1.2, h3, q.1 _ (.bl _)⟩
    · cases hz) ha hb hm

/-! ### not, and, or -/
def notT (p : Ms → R Bool) : Ms → R Bool := fun S => (p S).bind fun b S1 => .ok (!b) S1
def andT (p q : Ms → R Bool) : Ms → R Bool := fun S => (p S).bind fun b S1 => if b then q S1 else .ok false S1
def orT (p q : Ms → R Bool) : Ms → R Bool := fun S => (p S).bind fun b S1 => if b then .ok true S1 else q S1
theorem dt_not (ha : PT X a (tT X.K W p)) : PT X (.UnaryOp .Not a pos) (tT X.K W (notT p)) := monoT (pt_not ha) fun σ H Q q => by
  obtain ⟨B, F, as, S, r, o⟩ := q
  exact ⟨B, F, as, S, r, Out.mono (Out.bind o) fun d F1 H1 as1 S1 ⟨r1, e1, o1⟩ => Out.now o1 r1⟩
theorem and_run {K : PySem.W.Frag} {σ : L2.St} {H : Hp} {Q : Bool → Hp → Prop} (h : tT K W (andT p q) σ H Q) : tAnd (tT K W p) (tT K W q) σ H Q := by
  obtain ⟨B, F, as, S, r, o⟩ := h
  refine ⟨B, F, as, S, r, Out.mono (Out.bind o) fun b F1 H1 as1 S1 ⟨r1, e1, o1⟩ => ?_⟩
  cases b with
  | true => exact ⟨B, F1, as1, S1, r1, o1⟩
  | false => exact Out.now o1 r1
theorem or_run {K : PySem.W.Frag} {σ : L2.St} {H : Hp} {Q : Bool → Hp → Prop} (h : tT K W (orT p q) σ H Q) : tOr (tT K W p) (tT K W q) σ H Q := by
  obtain ⟨B, F, as, S, r, o⟩ := h
  refine ⟨B, F, as, S, r, Out.mono (Out.bind o) fun b F1 H1 as1 S1 ⟨r1, e1, o1⟩ => ?_⟩
  cases b with
  | true => exact Out.now o1 r1
  | false => exact ⟨B, F1, as1, S1, r1, o1⟩
theorem dw_and1 (ha : PT X a (tT X.K W p)) : PW X (.BoolOp .And [a] pos) (tT X.K W p) := pw_and1 ha
theorem dw_or1 (ha : PT X a (tT X.K W p)) : PW X (.BoolOp .Or [a] pos) (tT X.K W p) := pw_or1 ha
theorem dw_and {rest : List Expr} (ha : PT X a (tT X.K W p)) (hb : PW X (.BoolOp .And (b :: rest) pos) (tT X.K W q)) : PW X (.BoolOp .And (a :: b :: rest) pos) (tT X.K W (andT p q)) := monoW (pw_and ha hb) fun σ H Q h => and_run h
theorem dw_or {rest : List Expr} (ha : PT X a (tT X.K W p)) (hb : PW X (.BoolOp .Or (b :: rest) pos) (tT X.K W q)) : PW X (.BoolOp .Or (a :: b :: rest) pos) (tT X.K W (orT p q)) := monoW (pw_or ha hb) fun σ H Q h => or_run h
/-- as values: True or False each -/
def andV (f g : Ms → R Dt) : Ms → R Dt := fun S => (f S).bind fun d S1 => match d with | .bl true => g S1 | .bl false => .ok (.bl false) S1 | _ => .no
def orV (f g : Ms → R Dt) : Ms → R Dt := fun S => (f S).bind fun d S1 => match d with | .bl false => g S1 | .bl true => .ok (.bl true) S1 | _ => .no
theorem de_one {op} (h : PE X a (tD X.K W f)) : PE X (.BoolOp op [a] pos) (tD X.K W f) := pe_one h
theorem de_and {rest : List Expr} (ha : PE X a (tD X.K W f)) (hb : PE X (.BoolOp .And (b :: rest) pos) (tD X.K W g)) : PE X (.BoolOp .And (a :: b :: rest) pos) (tD X.K W (andV f g)) := monoE (pe_and ha hb) fun σ H Q q => by
  obtain ⟨B, F, as, S, r, o⟩ := q
  refine ⟨B, F, as, S, r, Out.mono (Out.bind o) fun d F1 H1 as1 S1 ⟨r1, e1, o1⟩ v hv => ?_⟩
  cases d with
  | bl b =>
    cases hv
    cases b with
    | true => exact ⟨true, rfl, B, F1, as1, S1, r1, o1⟩
    | false => exact ⟨false, rfl, Out.now o1 r1 _ (.bl false)⟩
  | _ => exact o1.elim
theorem de_or {rest : List Expr} (ha : PE X a (tD X.K W f)) (hb : PE X (.BoolOp .Or (b :: rest) pos) (tD X.K W g)) : PE X (.BoolOp .Or (a :: b :: rest) pos) (tD X.K W (orV f g)) := monoE (pe_or ha hb) fun σ H Q q => by
  obtain ⟨B, F, as, S, r, o⟩ := q
  refine ⟨B, F, as, S, r, Out.mono (Out.bind o) fun d F1 H1 as1 S1 ⟨r1, e1, o1⟩ v hv => ?_⟩
  cases d with
  | bl b =>
    cases hv
    cases b with
    | true => exact ⟨true, rfl, Out.now o1 r1 _ (.bl true)⟩
    | false => exact ⟨false, rfl, B, F1, as1, S1, r1, o1⟩
  | _ => exact o1.elim
def notO : Dt → Option Dt | .bl b => some (.bl (!b)) | _ => none
theorem de_not (ha : PE X a (tD X.K W f)) : PE X (.UnaryOp .Not a pos) (tD X.K W (op1 f notO)) := monoE (pe_not ha) fun σ H Q q => by
  obtain ⟨B, F, as, S, r, o⟩ := q
  refine ⟨B, F, as, S, r, Out.mono (Out.bind o) fun d F1 H1 as1 S1 ⟨r1, e1, o1⟩ v hv => ?_⟩
  cases d with
  | bl b => cases hv; exact ⟨b, rfl, Out.now o1 r1 _ (.bl _)⟩
  | _ => exact o1.elim
/-- a if t else b -/
def ifE (p : Ms → R Bool) (f g : Ms → R Dt) : Ms → R Dt := fun S => (p S).bind fun b S1 => if b then f S1 else g S1
theorem de_ifx (hp : PT X c (tT X.K W p)) (ha : PE X a (tD X.K W f)) (hb : PE X b (tD X.K W g)) : PE X (.IfExp c a b pos) (tD X.K W (ifE p f g)) := monoE (pe_ifExp hp ha hb) fun σ H Q q => by
  obtain ⟨B, F, as, S, r, o⟩ := q
  refine ⟨B, F, as, S, r, Out.mono (Out.bind o) fun b F1 H1 as1 S1 ⟨r1, e1, o1⟩ => ?_⟩
  cases b with
  | true => exact ⟨B, F1, as1, S1, r1, o1⟩
  | false => exact ⟨B, F1, as1, S1, r1, o1⟩
/-- truth of a list, a tuple, an int, .. -/
def truO : Dt → Option Bool | .non => some false | .bl b => some b | .int i => some (i != 0) | .lst xs => some (!xs.isEmpty) | .tup xs => some (!xs.isEmpty) | .str x => if x.length ≤ 100000 then some ((x.length : Int) != 0) else none | .obj _ _ _ => none | .scr _ _ => none
def truT (f : Ms → R Dt) : Ms → R Bool := fun S => (f S).bind fun d S1 => R.of (truO d) S1
theorem emp_rp {K : PySem.W.Frag} {F : Hp} {vs : List V} {ds : List Dt} (h : RpA K F vs ds) : vs.isEmpty = ds.isEmpty := by cases h <;> rfl
theorem dt_tru (ha : PE X a (tD X.K W f)) (he : ∀ whole, isTrue a X.env whole = (do let v ← whole; standAt a.pos; holding [v] (truthy v)) := by exact fun _ => rfl) : PT X a (tT X.K W (truT f)) := monoT (pt_truth ha he) fun σ H Q q => by
  obtain ⟨B, F, as, S, r, o⟩ := q
  refine ⟨B, F, as, S, r, Out.mono (Out.bind o) fun d F1 H1 as1 S1 ⟨r1, e1, o1⟩ v hv => ?_⟩
  cases ht : truO d with
  | none => rw [ht] at o1; exact o1.elim
  | some k =>
    rw [ht] at o1
    refine ⟨k, ?_, Out.now o1 r1⟩
    cases d <;> simp only [truO] at ht <;> try (cases ht; cases hv; rfl)
    · split at ht
      · rename_i hl
        cases ht; cases hv
        exact ⟨Nat.le_trans hl (by decide), rfl⟩
      · cases ht
    · cases ht
      cases hv with
      | lst hs ha => exact .inl ⟨_, Evl.ex_l r1.fh (Evl.sq_of hs), by rw [emp_rp ha]⟩
    · cases ht
      cases hv with
      | tup hs ha => exact .inr (.inl ⟨_, Evl.ex_t r1.fh hs.sq, by rw [emp_rp ha]⟩)
    · cases ht
    · cases ht
/-- a < b < c -/
def chT (f g h : Ms → R Dt) (o o' : Dt → Dt → Option Dt) : Ms → R Dt := fun S => (f S).bind fun d S1 => (g S1).bind fun e S2 => (R.of (o d e) S2).bind fun k S3 => match k with
  | .bl true => (h S3).bind fun z S4 => R.of (o' e z) S4
  | .bl false => .ok (.bl false) S3
  | _ => .no
theorem ch_run {K : PySem.W.Frag} {r r' : R2} {o o' : Dt → Dt → Option Dt} {h : Ms → R Dt} (h1 : RulD K r o) (h2 : RulD K r' o') {σ : L2.St} {H : Hp} {Q : VK} (q : tD K W (chT f g h o o') σ H Q) : tChain r r' (tD K W f) (tD K W g) (tD K W h) σ H Q := by
  obtain ⟨B, F, as, S, r0, out⟩ := q
  refine ⟨B, F, as, S, r0, Out.mono (Out.bind out) fun d F1 H1 as1 S1 ⟨r1, e1, o1⟩ v hv => ?_⟩
  refine ⟨B, F1, as1, S1, r1, ?_⟩
  have q2 := Out.bind o1
  revert q2
  cases g S1 with
  | ok e S2 =>
    intro q2 F2 H2 as2 e2 r2 w hw
    obtain ⟨_, _, o3⟩ := q2 F2 H2 as2 e2 r2
    cases hz : o d e with
    | none => rw [hz] at o3; exact o3.elim
    | some k =>
      rw [hz] at o3
      have o3 : Out K W B F2 as2 σ (match k with | .bl true => (h S2).bind fun z S4 => R.of (o' e z) S4 | .bl false => .ok (.bl false) S2 | _ => .no) _ := o3
      refine h1 F2 H2 v w d e k _ r2.fh (hv.up e2.1) hw hz ⟨fun u hu => ?_, fun p ob hp hu => ?_⟩
      · cases k with
        | bl b =>
          cases hu
          refine ⟨b, rfl, ?_⟩
          cases b with
          | true =>
            show tD K W h σ H2 _
            refine ⟨B, F2, as2, S2, r2, ?_⟩
            have q3 := Out.bind o3
            revert q3
            cases h S2 with
            | ok z S3 =>
              intro q3 F3 H3 as3 e3 r3 x hx
              obtain ⟨_, _, o4⟩ := q3 F3 H3 as3 e3 r3
              cases hz2 : o' e z with
              | none => rw [hz2] at o4; exact o4.elim
              | some k2 =>
                rw [hz2] at o4
                exact h2 F3 H3 w x e z k2 Q r3.fh (hw.up e3.1) hx hz2 (gv_of o4 r3)
            | er y S3 => exact fun q3 => q3
            | no => exact fun q3 => q3
          | false => exact Out.now o3 r2 _ (.bl false)
        | _ => exact o3.elim
      · cases k with
        | bl b => cases hu
        | _ => exact o3.elim
  | er x S2 => exact fun q2 => q2
  | no => exact fun q2 => q2
theorem de_chain {op op' : CmpOp} {r r' : R2} {o o' : Dt → Dt → Option Dt} {h : Ms → R Dt} (ho : OpR X (compareOp op) r) (h1 : RulD X.K r o) (ho' : OpR X (compareOp op') r') (h2 : RulD X.K r' o') (ha : PE X a (tD X.K W f)) (hb : PE X b (tD X.K W g)) (hc : PE X c (tD X.K W h))
    (hm : lastMarks [op, op'] [b, c] = false := by with_unfolding_all rfl) : PE X (.Compare a [op, op'] [b, c] pos) (tD X.K W (chT f g h o o')) := monoE (pe_chain ho ho' ha hb hc hm) fun σ H Q q => ch_run h1 h2 q
theorem dt_chain {op op' : CmpOp} {r r' : R2} {o o' : Dt → Dt → Option Dt} {h : Ms → R Dt} (ho : OpR X (compareOp op) r) (h1 : RulD X.K r o) (ho' : OpR X (compareOp op') r') (h2 : RulD X.K r' o') (ha : PE X a (tD X.K W f)) (hb : PE X b (tD X.K W g)) (hc : PE X c (tD X.K W h))
    (hm : lastMarks [op, op'] [b, c] = false := by with_unfolding_all rfl) : PT X (.Compare a [op, op'] [b, c] pos) (tT X.K W (tst (chT f g h o o'))) := monoT (pt_chain ho ho' ha hb hc hm) fun σ H Q q => ch_run h1 h2 (tst_run q)
end
end Lq

namespace Lq
open PySem PySem.Spec PyProof.Rows L2
open Evl (Ex)
section
variable {X : Cx} {W : WX} {a b c e : Expr} {es : List Expr} {pos : Pos} {f g : Ms → R Dt} {fs : Ms → R (List Dt)}

/-! ### argument lists, displays -/
def aNil : Ms → R (List Dt) := fun S => .ok [] S
def aCons (f : Ms → R Dt) (fs : Ms → R (List Dt)) : Ms → R (List Dt) := fun S => (f S).bind fun d S1 => (fs S1).bind fun ds S2 => .ok (d :: ds) S2
theorem da_nil : PA X [] (tA X.K W aNil) := monoA pa_nil fun σ H Q q => by
  obtain ⟨B, F, as, S, r, o⟩ := q
  exact Out.now o r _ .nil
theorem da_cons (ha : PE X e (tD X.K W f)) (hr : PA X es (tA X.K W fs)) (hs : starEach (e :: es) X.env = (false, eval e X.env) :: starEach es X.env := by rfl) : PA X (e :: es) (tA X.K W (aCons f fs)) := monoA (pa_cons ha hr hs) fun σ H Q q => by
  obtain ⟨B, F, as, S, r, o⟩ := q
  refine ⟨B, F, as, S, r, Out.mono (Out.bind o) fun d F1 H1 as1 S1 ⟨r1, e1, o1⟩ v hv => ?_⟩
  refine ⟨B, F1, as1, S1, r1, ?_⟩
  have o2 := Out.bind o1
  revert o2
  cases fs S1 with
  | ok ds S2 =>
    intro o2 F2 H2 as2 e2 r2 vs hvs
    obtain ⟨_, _, o3⟩ := o2 F2 H2 as2 e2 r2
    exact Out.now o3 r2 _ (.cons (hv.up e2.1) hvs)
  | er x S2 => exact fun o2 => o2
  | no => exact fun o2 => o2
def tupE (fs : Ms → R (List Dt)) : Ms → R Dt := fun S => (fs S).bind fun ds S1 => if ds.length ≤ 100000 then .ok (.tup ds) S1 else .no
def lstE (fs : Ms → R (List Dt)) : Ms → R (List Dt) := fun S => (fs S).bind fun ds S1 => if ds.length ≤ 100000 then .ok ds S1 else .no
theorem de_tup {x1} (h : PA X es (tA X.K W fs)) : PE X (.Tuple es x1 pos) (tD X.K W (tupE fs)) := monoE (pe_tup h) fun σ H Q q => by
  obtain ⟨B, F, as, S, r, o⟩ := q
  refine ⟨B, F, as, S, r, Out.mono (Out.bind o) fun ds F1 H1 as1 S1 ⟨r1, e1, o1⟩ vs hv => ?_⟩
  split at o1
  · rename_i hl
    refine ⟨Evl.sz_of (by rw [hv.length]; exact hl), fun p hp => ?_⟩
    exact (gv_of o1 r1).2 p _ hp (.tup upd_same (hv.up (Ex.new (r1.fresh hp).1)))
  · exact o1.elim
theorem dn_lst (h : PA X es (tA X.K W fs)) : PE X (.List es pos) (tN X.K W (lstE fs)) := monoE (pe_lst h) fun σ H Q q => by
  obtain ⟨B, F, as, S, r, o⟩ := q
  refine ⟨B, F, as, S, r, Out.mono (Out.bind o) fun ds F1 H1 as1 S1 ⟨r1, e1, o1⟩ vs hv => ?_⟩
  split at o1
  · rename_i hl
    refine ⟨Evl.sz_of (by rw [hv.length]; exact hl), fun p hp => ?_⟩
    exact gvl_of o1 r1 p _ hp hv
  · exact o1.elim

/-! ### calls of built-ins by values -/
def calE (fs : Ms → R (List Dt)) (h : List Dt → Option Dt) : Ms → R Dt := fun S => (fs S).bind fun ds S1 => R.of (h ds) S1
def calN (fs : Ms → R (List Dt)) (h : List Dt → Option (List Dt)) : Ms → R (List Dt) := fun S => (fs S).bind fun ds S1 => R.of (h ds) S1
def RulC (K : PySem.W.Frag) (r : List V → Hp → VK → Prop) (h : List Dt → Option Dt) : Prop := ∀ F H vs ds z Q, Ex F H → RpA K F vs ds → h ds = some z → Gv K F H z Q → r vs H Q
def RulCN (K : PySem.W.Frag) (r : List V → Hp → VK → Prop) (h : List Dt → Option (List Dt)) : Prop := ∀ F H vs ds z Q, Ex F H → RpA K F vs ds → h ds = some z → GvL K F H z Q → r vs H Q
theorem dt_cal {K : PySem.W.Frag} {r : List V → Hp → VK → Prop} {h : List Dt → Option Dt} (hr : RulC K r h) (σ : L2.St) (H : Hp) (Q : VK) (q : tD K W (calE fs h) σ H Q) : tCB r (tA K W fs) σ H Q := by
  obtain ⟨B, F, as, S, r0, o⟩ := q
  refine ⟨B, F, as, S, r0, Out.mono (Out.bind o) fun ds F1 H1 as1 S1 ⟨r1, e1, o1⟩ vs hv => ?_⟩
  cases hz : h ds with
  | none => rw [hz] at o1; exact o1.elim
  | some z =>
    rw [hz] at o1
    exact hr F1 H1 vs ds z Q r1.fh hv hz (gv_of o1 r1)
theorem dt_calN {K : PySem.W.Frag} {r : List V → Hp → VK → Prop} {h : List Dt → Option (List Dt)} (hr : RulCN K r h) (σ : L2.St) (H : Hp) (Q : VK) (q : tN K W (calN fs h) σ H Q) : tCB r (tA K W fs) σ H Q := by
  obtain ⟨B, F, as, S, r0, o⟩ := q
  refine ⟨B, F, as, S, r0, Out.mono (Out.bind o) fun ds F1 H1 as1 S1 ⟨r1, e1, o1⟩ vs hv => ?_⟩
  cases hz : h ds with
  | none => rw [hz] at o1; exact o1.elim
  | some z =>
    rw [hz] at o1
    exact hr F1 H1 vs ds z Q r1.fh hv hz (gvl_of o1 r1)
section
variable {x : Str} {p : Pos} {id T : String} {r : List V → Hp → VK → Prop} {h : List Dt → Option Dt} {hN : List Dt → Option (List Dt)}
theorem de_calB (hr : RulC X.K r h) (hc : CallR X (.builtin id) r) (hg : Gl X x) (hm : X.mg x = none) (hv : bootBuiltins x = some (.builtin id)) (ha : PA X (e :: es) (tA X.K W fs)) (hn : x ≠ "__name__" := by decide) (hdb : (x == ("__debug__" : Str)) = false := by decide)
    (he : starEach (e :: es) X.env = (false, eval e X.env) :: starEach es X.env := by rfl) (hpl : (backTo pos (starEach es X.env)).any (·.1) = false := by rfl) : PE X (.Call (.Name x p) (e :: es) [] pos) (tD X.K W (calE fs h)) :=
  monoE (pe_callB hc hg hm hv ha hn hdb he hpl) (dt_cal hr)
theorem de_calT (hr : RulC X.K r h) (hc : CallR X (.type T) r) (hg : Gl X x) (hm : X.mg x = none) (hv : bootBuiltins x = some (.type T)) (ha : PA X (e :: es) (tA X.K W fs)) (hn : x ≠ "__name__" := by decide) (hdb : (x == ("__debug__" : Str)) = false := by decide)
    (he : starEach (e :: es) X.env = (false, eval e X.env) :: starEach es X.env := by rfl) (hpl : (backTo pos (starEach es X.env)).any (·.1) = false := by rfl) : PE X (.Call (.Name x p) (e :: es) [] pos) (tD X.K W (calE fs h)) :=
  monoE (pe_callTy hc hg hm hv ha hn hdb he hpl) (dt_cal hr)
theorem dn_calB (hr : RulCN X.K r hN) (hc : CallR X (.builtin id) r) (hg : Gl X x) (hm : X.mg x = none) (hv : bootBuiltins x = some (.builtin id)) (ha : PA X (e :: es) (tA X.K W fs)) (hn : x ≠ "__name__" := by decide) (hdb : (x == ("__debug__" : Str)) = false := by decide)
    (he : starEach (e :: es) X.env = (false, eval e X.env) :: starEach es X.env := by rfl) (hpl : (backTo pos (starEach es X.env)).any (·.1) = false := by rfl) : PE X (.Call (.Name x p) (e :: es) [] pos) (tN X.K W (calN fs hN)) :=
  monoE (pe_callB hc hg hm hv ha hn hdb he hpl) (dt_calN hr)
theorem dn_calT (hr : RulCN X.K r hN) (hc : CallR X (.type T) r) (hg : Gl X x) (hm : X.mg x = none) (hv : bootBuiltins x = some (.type T)) (ha : PA X (e :: es) (tA X.K W fs)) (hn : x ≠ "__name__" := by decide) (hdb : (x == ("__debug__" : Str)) = false := by decide)
    (he : starEach (e :: es) X.env = (false, eval e X.env) :: starEach es X.env := by rfl) (hpl : (backTo pos (starEach es X.env)).any (·.1) = false := by rfl) : PE X (.Call (.Name x p) (e :: es) [] pos) (tN X.K W (calN fs hN)) :=
  monoE (pe_callTy hc hg hm hv ha hn hdb he hpl) (dt_calN hr)
end
theorem rpa1 {K : PySem.W.Frag} {F : Hp} {vs : List V} {d : Dt} (h : RpA K F vs [d]) : ∃ v, vs = [v] ∧ Rp K F v d := by
  cases h with
  | cons h1 h2 => cases h2; exact ⟨_, rfl, h1⟩
theorem rpa2 {K : PySem.W.Frag} {F : Hp} {vs : List V} {d e : Dt} (h : RpA K F vs [d, e]) : ∃ v w, vs = [v, w] ∧ Rp K F v d ∧ Rp K F w e := by
  cases h with
  | cons h1 h2 =>
    obtain ⟨w, rfl, hw⟩ := rpa1 h2
    exact ⟨_, w, rfl, h1, hw⟩
def lenO : List Dt → Option Dt | [.lst xs] => some (.int xs.length) | [.tup xs] => some (.int xs.length) | [.scr _ xs] => some (.int xs.length) | _ => none
section
variable {p p2 pos2 : Pos}
theorem de_len (hg : Gl X "len") (hm : X.mg "len" = none) (ha : PE X a (tD X.K W f)) (hs : starEach [a] X.env = (false, eval a X.env) :: starEach [] X.env := by rfl) : PE X (.Call (.Name "len" p) [a] [] pos) (tD X.K W (calE (aCons f aNil) lenO)) :=
  de_calB (fun F H vs ds z Q ex hv hz q => by
    unfold lenO at hz
    split at hz <;> cases hz
    · obtain ⟨v, rfl, h1⟩ := rpa1 hv
      cases h1 with
      | lst hs ha =>
        refine ⟨_, _, rfl, .inl (Evl.ex_l ex (Evl.sq_of hs)), ?_⟩
        rw [ha.length]; exact q.1 _ (.int _)
    · obtain ⟨v, rfl, h1⟩ := rpa1 hv
      cases h1 with
      | tup hs ha =>
        refine ⟨_, _, rfl, .inr (Evl.ex_t ex hs.sq), ?_⟩
        rw [ha.length]; exact q.1 _ (.int _)
    · obtain ⟨v, rfl, h1⟩ := rpa1 hv
      rename_i t xs
      cases h1 with
      | scr _ hs ha =>
        have hs' := hs.up ex
        unfold SqB at hs'
        rw [← ha.length] at q
        cases t with
        | true => exact ⟨_, _, rfl, .inr hs', q.1 _ (.int _)⟩
        | false => exact ⟨_, _, rfl, .inl hs', q.1 _ (.int _)⟩) call_len_seq hg hm PySem.boot_len (da_cons ha da_nil hs) (by decide) (by decide) hs (by rfl)
def intO : List Dt → Option Dt | [.int i] => some (.int i) | [.bl b] => some (.int (if b then 1 else 0)) | _ => none
theorem de_intc (hg : Gl X "int") (hm : X.mg "int" = none) (ha : PE X a (tD X.K W f)) (hs : starEach [a] X.env = (false, eval a X.env) :: starEach [] X.env := by rfl) : PE X (.Call (.Name "int" p) [a] [] pos) (tD X.K W (calE (aCons f aNil) intO)) :=
  de_calT (fun F H vs ds z Q ex hv hz q => by
    unfold intO at hz
    split at hz <;> cases hz
    · obtain ⟨v, rfl, h1⟩ := rpa1 hv
      cases h1
      exact .inl ⟨_, rfl, q.1 _ (.int _)⟩
    · obtain ⟨v, rfl, h1⟩ := rpa1 hv
      cases h1
      exact .inr ⟨_, rfl, q.1 _ (.int _)⟩) call_int1 hg hm PyProof.Rows.boot_int (da_cons ha da_nil hs) (by decide) (by decide) hs (by rfl)
def absO : List Dt → Option Dt | [.int i] => some (.int (if i < 0 then -i else i)) | _ => none
theorem de_abs (hg : Gl X "abs") (hm : X.mg "abs" = none) (ha : PE X a (tD X.K W f)) (hs : starEach [a] X.env = (false, eval a X.env) :: starEach [] X.env := by rfl) : PE X (.Call (.Name "abs" p) [a] [] pos) (tD X.K W (calE (aCons f aNil) absO)) :=
  de_calB (fun F H vs ds z Q ex hv hz q => by
    unfold absO at hz
    split at hz <;> cases hz
    obtain ⟨v, rfl, h1⟩ := rpa1 hv
    cases h1
    exact ⟨_, rfl, q.1 _ (.int _)⟩) call_abs hg hm (by decide +kernel) (da_cons ha da_nil hs) (by decide) (by decide) hs (by rfl)
def tupO : List Dt → Option Dt | [.lst xs] => some (.tup xs) | [.tup xs] => some (.tup xs) | _ => none
theorem de_tupc (hg : Gl X "tuple") (hm : X.mg "tuple" = none) (ha : PE X a (tD X.K W f)) (hs : starEach [a] X.env = (false, eval a X.env) :: starEach [] X.env := by rfl) : PE X (.Call (.Name "tuple" p) [a] [] pos) (tD X.K W (calE (aCons f aNil) tupO)) :=
  de_calT (fun F H vs ds z Q ex hv hz q => by
    unfold tupO at hz
    split at hz <;> cases hz
    · obtain ⟨v, rfl, h1⟩ := rpa1 hv
      cases h1 with
      | lst hs ha =>
        refine ⟨_, _, rfl, .inl ⟨Evl.ex_l ex (Evl.sq_of hs), fun p hp => q.2 p _ hp ?_⟩⟩
        have hf : F p = none := by
          cases w : F p with
          | none => rfl
          | some o => rw [ex _ _ w] at hp; cases hp
        exact .tup upd_same (ha.up (Ex.new hf))
    · obtain ⟨v, rfl, h1⟩ := rpa1 hv
      cases h1 with
      | tup hs ha => exact ⟨_, _, rfl, .inr ⟨Evl.ex_t ex hs.sq, q.1 _ (.tup hs ha)⟩⟩) call_tuple_of hg hm (by decide +kernel) (da_cons ha da_nil hs) (by decide) (by decide) hs (by rfl)
def lstO : List Dt → Option (List Dt) | [.lst xs] => some xs | [.tup xs] => some xs | _ => none
theorem dn_list (hg : Gl X "list") (hm : X.mg "list" = none) (ha : PE X a (tD X.K W f)) (hs : starEach [a] X.env = (false, eval a X.env) :: starEach [] X.env := by rfl) : PE X (.Call (.Name "list" p) [a] [] pos) (tN X.K W (calN (aCons f aNil) lstO)) :=
  dn_calT (fun F H vs ds z Q ex hv hz q => by
    unfold lstO at hz
    split at hz <;> cases hz
    · obtain ⟨v, rfl, h1⟩ := rpa1 hv
      cases h1 with
      | lst hs ha => exact ⟨_, _, rfl, .inl (Evl.ex_l ex (Evl.sq_of hs)), fun p hp => q p _ hp ha⟩
    · obtain ⟨v, rfl, h1⟩ := rpa1 hv
      cases h1 with
      | tup hs ha => exact ⟨_, _, rfl, .inr (Evl.ex_t ex hs.sq), fun p hp => q p _ hp ha⟩) call_list_of hg hm (by decide +kernel) (da_cons ha da_nil hs) (by decide) (by decide) hs (by rfl)
def sumO : List Dt → Option Dt | [.lst xs] => (intsOf xs).map fun ns => .int ns.sum | _ => none
theorem de_sum (hcalm : X.calm = true) (hg : Gl X "sum") (hm : X.mg "sum" = none) (ha : PE X a (tD X.K W f)) (hs : starEach [a] X.env = (false, eval a X.env) :: starEach [] X.env := by rfl) : PE X (.Call (.Name "sum" p) [a] [] pos) (tD X.K W (calE (aCons f aNil) sumO)) :=
  de_calB (fun F H vs ds z Q ex hv hz q => by
    unfold sumO at hz
    split at hz <;> try cases hz
    rename_i xs
    cases hn : intsOf xs with
    | none => rw [hn] at hz; cases hz
    | some ns =>
      rw [hn] at hz
      cases hz
      have e1 := intsOf_eq hn
      subst e1
      obtain ⟨v, rfl, h1⟩ := rpa1 hv
      cases h1 with
      | lst hs ha =>
        rw [ha.intsv] at hs
        exact ⟨_, _, rfl, Evl.ex_l ex (Evl.sq_of hs), q.1 _ (.int _)⟩) (cr_sum hcalm) hg hm (by decide +kernel) (da_cons ha da_nil hs) (by decide) (by decide) hs (by rfl)

/-! ### isinstance of one built-in type -/
def tyN : Dt → Option String | .non => some "NoneType" | .bl _ => some "bool" | .int _ => some "int" | .str _ => some "str" | .lst _ => some "list" | .tup _ => some "tuple" | .obj _ _ _ => none | .scr _ _ => none
def isiO (T : String) (d : Dt) : Option Dt := (tyN d).bind fun n => (kitB n T).map .bl
theorem tyx_of {K : PySem.W.Frag} {F H : Hp} {v : V} {d : Dt} {n : String} (ex : Ex F H) (h : Rp K F v d) (hn : tyN d = some n) : TyX K H v (.type n) := by
  cases h with
  | non => cases hn; exact .base .non
  | bl b => cases hn; exact .base (.bl b)
  | int i => cases hn; exact .base (.int i)
  | str x => cases hn; exact .base (.str x)
  | lst hs ha => cases hn; exact .base (.lst (ex _ _ hs))
  | tup hs ha =>
    cases hn
    exact .base (.tup (ex _ _ hs))
  | obj _ _ _ => cases hn
  | scr _ _ _ => cases hn
theorem de_isi {T : String} {y : Str} (hT : bootBuiltins y = some (.type T)) (hg : Gl X "isinstance") (hm : X.mg "isinstance" = none) (hgT : Gl X y) (hmT : X.mg y = none) (hcl : ClsV (.ty T) (.type T)) (ha : PE X a (tD X.K W f)) (hyn : y ≠ "__name__" := by decide) (hyd : (y == ("__debug__" : Str)) = false := by decide)
    (hs : starEach [a, .Name y p2] X.env = (false, eval a X.env) :: starEach [.Name y p2] X.env := by rfl) (hs2 : starEach [.Name y p2] X.env = (false, eval (.Name y p2) X.env) :: starEach [] X.env := by rfl) (hpl : (backTo pos (starEach [.Name y p2] X.env)).any (·.1) = false := by rfl) :
    PE X (.Call (.Name "isinstance" p) [a, .Name y p2] [] pos) (tD X.K W (op1 f (isiO T))) := by
  have hy : PE X (.Name y p2) (tC (.ty T)) := pe_bltn hgT hmT hT rfl hyn hyd
  refine monoE (pe_callB call_isi hg hm (by decide +kernel) (pa_cons ha (pa_cons hy pa_nil hs2) hs) (by decide) (by decide) hs hpl) fun σ H Q q => ?_
  obtain ⟨B, F, as, S, r, o⟩ := q
  refine ⟨B, F, as, S, r, Out.mono (Out.bind o) fun d F1 H1 as1 S1 ⟨r1, e1, o1⟩ v hv => ?_⟩
  show rIsi X.K [v, .ty T] H1 Q
  unfold isiO at o1
  cases hn : tyN d with
  | none => rw [hn] at o1; exact o1.elim
  | some n =>
    rw [hn] at o1
    dsimp only [Option.bind] at o1
    cases hk : kitB n T with
    | none => rw [hk] at o1; exact o1.elim
    | some k =>
      rw [hk] at o1
      exact ⟨v, .ty T, .type n, .type T, k, rfl, hcl, tyx_of r1.fh hv hn, kit_ty hk, Out.now o1 r1 _ (.bl k)⟩
end

/-! ### slices -/
def tO (K : PySem.W.Frag) (W : WX) (f : Ms → R (Option Int)) : TO := fun σ H Q => ∃ B F as S, Rep K B F H as σ S ∧ Out K W B F as σ (f S) fun o _ H' _ _ => Q o H'
theorem monoO {X : Cx} {e : Option Expr} {t t' : TO} (h : PO X e t) (m : ∀ σ H Q, t' σ H Q → t σ H Q) : PO X e t' := ⟨fun pins s σ H Q I q => h.run pins s σ H Q I (m σ H Q q)⟩
def oNone : Ms → R (Option Int) := fun S => .ok none S
def oSome (f : Ms → R Dt) : Ms → R (Option Int) := fun S => (f S).bind fun d S1 => match d with | .int i => .ok (some i) S1 | _ => .no
theorem do_none : PO X none (tO X.K W oNone) := monoO po_none fun σ H Q q => by
  obtain ⟨B, F, as, S, r, o⟩ := q
  exact Out.now o r
theorem do_some (h : PE X e (tD X.K W f)) : PO X (some e) (tO X.K W (oSome f)) := monoO (po_some h) fun σ H Q q => by
  obtain ⟨B, F, as, S, r, o⟩ := q
  refine ⟨B, F, as, S, r, Out.mono (Out.bind o) fun d F1 H1 as1 S1 ⟨r1, e1, o1⟩ v hv => ?_⟩
  cases d with
  | int i => cases hv; exact ⟨i, rfl, Out.now o1 r1⟩
  | _ => exact o1.elim
/-- xs[lo:hi] of any list -/
def cut {α : Type} (xs : List α) (lo hi : Option Int) : List α := (xs.drop (HT.sIx xs.length 0 lo)).take (HT.sIx xs.length xs.length hi - HT.sIx xs.length 0 lo)
theorem cut_rp {K : PySem.W.Frag} {F : Hp} {vs : List V} {ds : List Dt} (h : RpA K F vs ds) (lo hi : Option Int) : RpA K F (cutV vs lo hi) (cut ds lo hi) := by
  unfold cutV cut
  rw [h.length]
  exact (h.drop _).take _
def slT (f : Ms → R Dt) (lo hi : Ms → R (Option Int)) : Ms → R Dt := fun S => (f S).bind fun d S1 => (lo S1).bind fun l S2 => (hi S2).bind fun u S3 => match d with | .tup xs => .ok (.tup (cut xs l u)) S3 | _ => .no
def slL (f : Ms → R Dt) (lo hi : Ms → R (Option Int)) : Ms → R (List Dt) := fun S => (f S).bind fun d S1 => (lo S1).bind fun l S2 => (hi S2).bind fun u S3 => match d with | .lst xs => .ok (cut xs l u) S3 | .scr false xs => .ok (cut xs l u) S3 | _ => .no
section
variable {lo hi : Option Expr} {fl fh : Ms → R (Option Int)} {p2 : Pos}
theorem de_sliceT (he : PE X e (tD X.K W f)) (hl : PO X lo (tO X.K W fl)) (hu : PO X hi (tO X.K W fh)) : PE X (.Subscript e (.Slice lo hi none p2) pos) (tD X.K W (slT f fl fh)) := monoE (pe_slice sl_tupA he hl hu) fun σ H Q q => by
  obtain ⟨B, F, as, S, r, o⟩ := q
  refine ⟨B, F, as, S, r, Out.mono (Out.bind o) fun d F1 H1 as1 S1 ⟨r1, e1, o1⟩ v hv => ?_⟩
  refine ⟨B, F1, as1, S1, r1, Out.mono (Out.bind o1) fun l F2 H2 as2 S2 ⟨r2, e2, o2⟩ => ?_⟩
  refine ⟨B, F2, as2, S2, r2, Out.mono (Out.bind o2) fun u F3 H3 as3 S3 ⟨r3, e3, o3⟩ => ?_⟩
  cases d with
  | tup xs =>
    cases (hv.up e2.1).up e3.1 with
    | tup hs ha =>
      have gg := gv_of o3 r3
      refine ⟨_, _, rfl, Evl.ex_t r3.fh hs.sq, fun hw => gg.1 _ ?_, fun hw p hp => gg.2 p _ hp (.tup upd_same ((cut_rp ha l u).up (Ex.new (r3.fresh hp).1)))⟩
      have hc : cut xs l u = xs := by
        unfold cut
        rw [← ha.length, hw.1, hw.2, ha.length]
        simp
      rw [hc]
      exact .tup hs ha
  | _ => exact o3.elim
theorem dn_sliceL (he : PE X e (tD X.K W f)) (hl : PO X lo (tO X.K W fl)) (hu : PO X hi (tO X.K W fh)) : PE X (.Subscript e (.Slice lo hi none p2) pos) (tN X.K W (slL f fl fh)) := monoE (pe_slice sl_list he hl hu) fun σ H Q q => by
  obtain ⟨B, F, as, S, r, o⟩ := q
  refine ⟨B, F, as, S, r, Out.mono (Out.bind o) fun d F1 H1 as1 S1 ⟨r1, e1, o1⟩ v hv => ?_⟩
  refine ⟨B, F1, as1, S1, r1, Out.mono (Out.bind o1) fun l F2 H2 as2 S2 ⟨r2, e2, o2⟩ => ?_⟩
  refine ⟨B, F2, as2, S2, r2, Out.mono (Out.bind o2) fun u F3 H3 as3 S3 ⟨r3, e3, o3⟩ => ?_⟩
  cases d with
  | lst xs =>
    cases (hv.up e2.1).up e3.1 with
    | lst hs ha => exact ⟨_, _, rfl, Evl.ex_l r3.fh (Evl.sq_of hs), fun p hp => gvl_of o3 r3 p _ hp (cut_rp ha l u)⟩
  | scr t xs =>
    cases t with
    | true => exact o3.elim
    | false =>
      cases (hv.up e2.1).up e3.1 with
      | scr _ hs ha => exact ⟨_, _, rfl, hs.up r3.fh, fun p hp => gvl_of o3 r3 p _ hp (cut_rp ha l u)⟩
  | _ => exact o3.elim
end

/-! ### + of sequences, [..] * n -/
def catT : Dt → Dt → Option Dt | .tup xs, .tup ys => if xs.length + ys.length ≤ 100000 then some (.tup (xs ++ ys)) else none | _, _ => none
theorem de_catT (ha : PE X a (tD X.K W f)) (hb : PE X b (tD X.K W g)) : PE X (.BinOp a .Add b pos) (tD X.K W (op2 f g catT)) := de_op op_catA (fun F H v w d e z Q ex hv hw hz q => by
  cases d <;> cases e <;> simp only [catT] at hz <;> try cases hz
  split at hz <;> cases hz
  rename_i hl
  cases hv with
  | tup hs ha =>
    cases hw with
    | tup hs2 ha2 =>
      rename_i xs ys _ vs _ ws
      refine ⟨_, _, _, _, rfl, rfl, Evl.ex_t ex hs.sq, Evl.ex_t ex hs2.sq, Nat.le_trans (by rw [ha.length, ha2.length]; exact hl) (by decide), fun hx => q.1 _ ?_, fun hx hy => q.1 _ ?_, fun hx hy p hp => q.2 p _ hp ?_⟩
      · subst hx
        cases ha
        exact .tup hs2 ha2
      · subst hy
        cases ha2
        rw [List.append_nil]
        exact .tup hs ha
      · have hf : F p = none := by
          cases w : F p with
          | none => rfl
          | some o => rw [ex _ _ w] at hp; cases hp
        exact .tup upd_same ((ha.app ha2).up (Ex.new hf))) ha hb
def catL : Dt → Dt → Option (List Dt) | .lst xs, .lst ys => if xs.length + ys.length ≤ 100000 then some (xs ++ ys) else none | _, _ => none
theorem dn_catL (ha : PE X a (tD X.K W f)) (hb : PE X b (tD X.K W g)) : PE X (.BinOp a .Add b pos) (tN X.K W (opN f g catL)) := dn_op op_cat (fun F H v w d e z Q ex hv hw hz q => by
  cases d <;> cases e <;> simp only [catL] at hz <;> try cases hz
  split at hz <;> cases hz
  rename_i hl
  cases hv with
  | lst hs ha =>
    cases hw with
    | lst hs2 ha2 => exact ⟨_, _, _, _, rfl, rfl, ex _ _ hs, ex _ _ hs2, Nat.le_trans (by rw [ha.length, ha2.length]; exact hl) (by decide), fun p hp => q p _ hp (ha.app ha2)⟩) ha hb
def repL : Dt → Dt → Option (List Dt) | .lst xs, .int k => if xs.length ≤ 100 ∧ 0 ≤ k ∧ k ≤ 1000 then some (List.replicate k.toNat xs).flatten else none | _, _ => none
theorem rp_flat {K : PySem.W.Frag} {F : Hp} {vs : List V} {ds : List Dt} (h : RpA K F vs ds) : ∀ n : Nat, RpA K F (List.replicate n vs).flatten (List.replicate n ds).flatten
  | 0 => .nil
  | n + 1 => by
    rw [List.replicate_succ, List.replicate_succ, List.flatten_cons, List.flatten_cons]
    exact h.app (rp_flat h n)
theorem dn_repL (ha : PE X a (tD X.K W f)) (hb : PE X b (tD X.K W g)) : PE X (.BinOp a .Mult b pos) (tN X.K W (opN f g repL)) := dn_op op_rep (fun F H v w d e z Q ex hv hw hz q => by
  cases d <;> cases e <;> simp only [repL] at hz <;> try cases hz
  split at hz <;> cases hz
  rename_i xs ii hl
  cases hw
  cases hv with
  | lst hs ha =>
    refine ⟨_, _, _, rfl, rfl, ex _ _ hs, by omega, by omega, ?_, fun p hp => q p _ hp (rp_flat ha _)⟩
    rw [ha.length]
    have : sizeLine = 16777216 := sizeLine_eq
    rw [this]
    have h2 : ii.toNat ≤ 1000 := by omega
    have h3 := Nat.mul_le_mul hl.1 h2
    omega) ha hb
end
end Lq

namespace Lq
open PySem PySem.Spec PyProof.Rows L2
open Evl (Ex)
open RZ

/-! ### holding a mutable object fast -/
section
variable {K : PySem.W.Frag} {B F H F' H' : Hp} {as as' : List Addr} {σ : L2.St} {S : Ms}
theorem Rep.hold (r : Rep K B F H as σ S) {D : Addr} {o : HO} (h1 : H D = some o) (h2 : F D = none) (h3 : D ∉ as) (h4 : NT o) : Rep K (upd B D o) F H as σ S := by
  refine ⟨r.fh, fun a u hu => ?_, r.sl, ?_, r.nd⟩
  · by_cases q : a = D
    · subst q
      rw [upd_same] at hu
      cases hu
      exact ⟨h1, h2, h4⟩
    · rw [upd_ne q] at hu
      exact r.bh a u hu
  · have : ∀ {xs : List Addr} {ys : List Mo}, (∀ a ∈ xs, a ≠ D) → Paired (MoR K B F H) xs ys → Paired (MoR K (upd B D o) F H) xs ys := by
      intro xs ys hn z
      induction z with
      | nil => exact .nil
      | @cons a b l1 l2 z zs ih =>
        refine .cons ?_ (ih fun a ha => hn a (List.mem_cons_of_mem _ ha))
        cases b with
        | ob ds =>
          obtain ⟨z1, z2, ws, z3, z4⟩ := z
          exact ⟨by rw [upd_ne (hn _ List.mem_cons_self)]; exact z1, z2, ws, z3, z4⟩
        | fz d => exact z
    exact this (fun a ha z => h3 (z ▸ ha)) r.mo
theorem Rep.unhold {D : Addr} {o : HO} (r : Rep K (upd B D o) F H as σ S) (hB : B D = none) : Rep K B F H as σ S ∧ H D = some o ∧ F D = none ∧ D ∉ as := by
  obtain ⟨q1, q2, _⟩ := r.bh D o upd_same
  refine ⟨⟨r.fh, fun a u hu => ?_, r.sl, r.mo.mono fun a m z => ?_, r.nd⟩, q1, q2, fun z => ?_⟩
  · have n : a ≠ D := by
      rintro rfl
      rw [hB] at hu; cases hu
    exact r.bh a u (by rw [upd_ne n]; exact hu)
  · cases m with
    | ob ds =>
      obtain ⟨z1, z2, ws, z3, z4⟩ := z
      have n : a ≠ D := by
        rintro rfl
        rw [upd_same] at z1; cases z1
      rw [upd_ne n] at z1
      exact ⟨z1, z2, ws, z3, z4⟩
    | fz d => exact z
  · obtain ⟨i, hi⟩ := List.mem_iff_getElem?.mp z
    obtain ⟨m, hm, z⟩ := pairedGetL r.mo hi
    cases m with
    | ob ds =>
      obtain ⟨z1, _⟩ := z
      rw [upd_same] at z1; cases z1
    | fz d =>
      obtain ⟨⟨u, z1⟩, _⟩ := z
      rw [q2] at z1; cases z1
/-- the slots as they were, the rest as it is now -/
theorem Rep.back {σ0 : L2.St} {S0 : Ms} {F0 : Hp} {as0 : List Addr} (r : Rep K B F H as σ S) (h : Paired (SvR K F0 as0) σ0 S0.sl) (e : Ext F0 F as0 as) : Rep K B F H as σ0 { S0 with mo := S.mo } :=
  ⟨r.fh, r.bh, h.mono fun _ _ q => SvR.up q e, r.mo, r.nd⟩
end
def wipeL (l : List Sv) : List Nat → List Sv
  | [] => l
  | v :: vs => (wipeL l vs).set v .no
theorem wipe_rp {K : PySem.W.Frag} {F : Hp} {as : List Addr} {σ : L2.St} {l : List Sv} (h : Paired (SvR K F as) σ l) : ∀ vs, Paired (SvR K F as) (wipe σ vs) (wipeL l vs)
  | [] => h
  | v :: vs => by
    unfold wipe wipeL
    have ih := wipe_rp h vs
    exact pairedSet v ih (by trivial)
theorem wipeL_rp {K : PySem.W.Frag} {F : Hp} {as : List Addr} {σ : L2.St} {l : List Sv} (h : Paired (SvR K F as) σ l) : ∀ vs, Paired (SvR K F as) σ (wipeL l vs)
  | [] => h
  | v :: vs => by
    unfold wipeL
    have ih := wipeL_rp h vs
    exact pairedAt v ih (fun _ _ _ _ _ _ q => q) fun x _ => by cases x <;> trivial
theorem wipe_get {σ : L2.St} : ∀ (vs : List Nat) (j : Nat), (wipe σ vs)[j]? = if j ∈ vs then (σ[j]?).map fun _ => none else σ[j]?
  | [], j => by simp [wipe]
  | v :: vs, j => by
    have ih := wipe_get (σ := σ) vs j
    unfold wipe
    rw [List.getElem?_set]
    by_cases q : v = j
    · subst q
      simp only [List.mem_cons, true_or, if_true]
      rw [wipe_length]
      by_cases hl : v < σ.length
      · rw [if_pos hl, List.getElem?_eq_getElem hl]; rfl
      · rw [if_neg hl, List.getElem?_eq_none (by omega)]; rfl
    · rw [if_neg q, ih]
      have q2 : ¬ j = v := fun z => q z.symm
      simp only [List.mem_cons, q2, false_or]
theorem wipe_set {σ : L2.St} {i : Nat} {x : Option V} {vs : List Nat} (h : i ∈ vs) : wipe (σ.set i x) vs = wipe σ vs := by
  apply List.ext_getElem?
  intro j
  rw [wipe_get, wipe_get]
  by_cases q : j ∈ vs
  · rw [if_pos q, if_pos q, List.getElem?_set]
    by_cases z : i = j
    · subst z
      rw [if_pos rfl]
      by_cases hl : i < σ.length
      · rw [if_pos hl, List.getElem?_eq_getElem hl]; rfl
      · rw [if_neg hl, List.getElem?_eq_none (by omega)]
    · rw [if_neg z]
  · rw [if_neg q, if_neg q, List.getElem?_set]
    have z : ¬ i = j := fun z => q (z ▸ h)
    rw [if_neg z]
theorem wipe_wipe {σ : L2.St} {vs : List Nat} : wipe (wipe σ vs) vs = wipe σ vs := by
  apply List.ext_getElem?
  intro j
  rw [wipe_get, wipe_get]
  by_cases q : j ∈ vs
  · rw [if_pos q, if_pos q]
    cases σ[j]? <;> rfl
  · rw [if_neg q]

/-! ### targets -/
inductive Tk where | nm (i : Nat) | tp (is : List Nat)
def gNames : List Nat → TGs
  | [] => gNil
  | i :: is => gCons (gName i) (gNames is)
def Tk.g (K : PySem.W.Frag) : Tk → TG
  | .nm i => gName i
  | .tp is => gTup K is.length (gNames is)
def kNames : List Nat → List Dt → Ms → Option Ms
  | [], [], S => some S
  | i :: is, d :: ds, S => kNames is ds { S with sl := S.sl.set i (.im d) }
  | _, _, _ => none
def Tk.k : Tk → Dt → Ms → Option Ms
  | .nm i, d, S => some { S with sl := S.sl.set i (.im d) }
  | .tp is, .tup ds, S => kNames is ds S
  | _, _, _ => none
def Tk.is : Tk → List Nat
  | .nm i => [i]
  | .tp is => is
structure DG (X : Cx) (tg : Expr) (T : Tk) : Prop where
  pg : PG X tg (T.g X.K)
theorem kNames_len : ∀ {is : List Nat} {ds : List Dt} {S S' : Ms}, kNames is ds S = some S' → ds.length = is.length
  | [], [], _, _, _ => rfl
  | [], _ :: _, _, _, h => by cases h
  | _ :: _, [], _, _, h => by cases h
  | i :: is, d :: ds, S, S', h => by
    have := kNames_len (is := is) (ds := ds) h
    simp [this]
theorem gNames_run {K : PySem.W.Frag} {B F H : Hp} {as : List Addr} : ∀ (is : List Nat) (σ : L2.St) (S : Ms) (vs : List V) (ds : List Dt) (S' : Ms) (Q : L2.St → Hp → Prop), Rep K B F H as σ S → RpA K F vs ds → kNames is ds S = some S' → (∀ σ', Rep K B F H as σ' S' → (∀ ws, (∀ i ∈ is, i ∈ ws) → wipe σ' ws = wipe σ ws) → Q σ' H) → gNames is vs σ H Q
  | [], σ, S, vs, [], S', Q, r, hv, hk, q => by
    cases hv; cases hk
    exact ⟨rfl, q σ r fun _ _ => rfl⟩
  | [], σ, S, vs, _ :: _, S', Q, r, hv, hk, q => by cases hk
  | _ :: _, σ, S, vs, [], S', Q, r, hv, hk, q => by cases hk
  | i :: is, σ, S, vs, d :: ds, S', Q, r, hv, hk, q => by
    cases hv with
    | cons hv hvs =>
      refine ⟨_, _, rfl, ?_⟩
      refine gNames_run is _ _ _ ds S' Q (r.slot (s := .im d) i hv) hvs hk fun σ' r' w => q σ' r' fun ws hi => ?_
      rw [w ws fun j hj => hi j (List.mem_cons_of_mem _ hj)]
      exact wipe_set (hi i List.mem_cons_self)
theorem Tk.run {K : PySem.W.Frag} (T : Tk) {B F H : Hp} {as : List Addr} {σ : L2.St} {S : Ms} {v : V} {d : Dt} {S' : Ms} {Q : L2.St → Hp → Prop} (r : Rep K B F H as σ S) (hv : Rp K F v d) (hk : T.k d S = some S') (q : ∀ σ', Rep K B F H as σ' S' → (∀ vs, (∀ i ∈ T.is, i ∈ vs) → wipe σ' vs = wipe σ vs) → Q σ' H) : T.g K v σ H Q := by
  cases T with
  | nm i =>
    cases hk
    exact q _ (r.slot (s := .im d) i hv) fun vs hi => wipe_set (hi i List.mem_cons_self)
  | tp is =>
    cases d with
    | tup ds =>
      cases hv with
      | tup hs ha => exact ⟨_, _, rfl, Evl.ex_t r.fh hs.sq, by rw [ha.length]; exact kNames_len hk, gNames_run is σ S _ ds S' Q r ha hk q⟩
    | _ => cases hk
theorem dg_name {X : Cx} {i : Nat} {x : Str} {pos : Pos} (h : PG X (.Name x pos) (gName i)) : DG X (.Name x pos) (.nm i) := ⟨h⟩
theorem dgs_nil {X : Cx} : PGs X [] (gNames []) := pgs_nil
theorem dgs_cons {X : Cx} {e : Expr} {ts : List Expr} {i : Nat} {is : List Nat} (h1 : PG X e (gName i)) (h2 : PGs X ts (gNames is)) (hs : (assignEach (e :: ts) X.env).map (·.2) = assign e X.env :: (assignEach ts X.env).map (·.2) := by rfl) : PGs X (e :: ts) (gNames (i :: is)) := pgs_cons h1 h2 hs
theorem dg_tup {X : Cx} {es : List Expr} {k : Nat} {pos : Pos} {is : List Nat} (hc : X.calm = true) (h : PGs X es (gNames is)) (hn : (assignEach es X.env).length = is.length := by rfl) (hst : (assignEach es X.env).findIdx? (·.1) = none := by rfl) : DG X (.Tuple es k pos) (.tp is) := ⟨pg_tup hc h hn hst⟩

/-! ### what is walked -/
structure Walks (K : PySem.W.Frag) (F : Hp) (J : It) (ds : List Dt) : Prop where
  go : ∀ i H, i < ds.length → Ex F H → J.go i H
  stop : ∀ H, Ex F H → J.stop ds.length H
  yld : ∀ i H x H' F1, i < ds.length → Ex F F1 → Ex F1 H → J.yld i H x H' → ∃ d, ds[i]? = some d ∧ ((H' = H ∧ Rp K F1 x d) ∨ ∃ T o, H T = none ∧ H' = upd H T o ∧ Rp K (upd F1 T o) x d)
def tI (K : PySem.W.Frag) (W : WX) (it : Ms → R (List Dt)) : TI := fun σ H R => ∃ B F as S, Rep K B F H as σ S ∧ Out K W B F as σ (it S) fun ds F' H' _ _ => ∀ J, Walks K F' J ds → R J H'
theorem monoI {X : Cx} {tg l : Expr} {wi wi1 wi2 : TI} (h1 : PI X tg l wi1) (h2 : PI X tg l wi2) (h : ∀ σ H R, wi σ H R → wi1 σ H R ∨ wi2 σ H R) : PI X tg l wi :=
  ⟨fun pins s σ H R I q => (h σ H R q).elim (h1.run pins s σ H R I) (h2.run pins s σ H R I)⟩
theorem monoI1 {X : Cx} {tg l : Expr} {wi wi1 : TI} (h1 : PI X tg l wi1) (h : ∀ σ H R, wi σ H R → wi1 σ H R) : PI X tg l wi := ⟨fun pins s σ H R I q => h1.run pins s σ H R I (h σ H R q)⟩
def itS (f : Ms → R Dt) : Ms → R (List Dt) := fun S => (f S).bind fun d S1 => R.of (seqOf d) S1
theorem walksL0 {K : PySem.W.Frag} {F : Hp} {a : Addr} {xs : List V} {ds : List Dt} (hs : SqL K F a xs) (ha : RpA K F xs ds) : Walks K F (Itl K a) ds := by
  refine ⟨fun i H hi e => ?_, fun H e => ⟨xs, Evl.ex_l e hs, by rw [ha.length]; exact Nat.le_refl _⟩, fun i H x H' F1 hi e e2 y => ?_⟩
  · have hi' : i < xs.length := by rw [ha.length]; exact hi
    exact ⟨xs, xs[i], Evl.ex_l e hs, by simp [hi']⟩
  · obtain ⟨y1, y2⟩ := y
    have q := y2 xs (Evl.ex_l (e.trans e2) hs)
    obtain ⟨d, h1, h2⟩ := ha.getv q
    exact ⟨d, h1, .inl ⟨y1, h2.up e⟩⟩
theorem walksT0 {K : PySem.W.Frag} {F : Hp} {a : Addr} {xs : List V} {ds : List Dt} (hs : SqT K F a xs) (ha : RpA K F xs ds) : Walks K F (Itt K a) ds := by
  refine ⟨fun i H hi e => ?_, fun H e => ⟨xs, Evl.ex_t e hs, by rw [ha.length]; exact Nat.le_refl _⟩, fun i H x H' F1 hi e e2 y => ?_⟩
  · have hi' : i < xs.length := by rw [ha.length]; exact hi
    exact ⟨xs, xs[i], Evl.ex_t e hs, by simp [hi']⟩
  · obtain ⟨y1, y2⟩ := y
    have q := y2 xs (Evl.ex_t (e.trans e2) hs)
    obtain ⟨d, h1, h2⟩ := ha.getv q
    exact ⟨d, h1, .inl ⟨y1, h2.up e⟩⟩
theorem walksL {K : PySem.W.Frag} {F : Hp} {a : Addr} {xs : List V} {ds : List Dt} (hs : F a = some (.lst xs)) (ha : RpA K F xs ds) : Walks K F (Itl K a) ds := walksL0 (Evl.sq_of hs) ha
theorem walksT {K : PySem.W.Frag} {F : Hp} {a : Addr} {xs : List V} {ds : List Dt} (hs : TupAt K F a xs) (ha : RpA K F xs ds) : Walks K F (Itt K a) ds := walksT0 hs.sq ha
section
variable {X : Cx} {W : WX} {tg l e e2 : Expr} {f : Ms → R Dt} {fs : Ms → R (List Dt)} {p pos tpos : Pos}
/-- over a list or a tuple -/
theorem di_seq (h : PE X l (tD X.K W f)) : PI X tg l (tI X.K W (itS f)) := monoI (pi_list h) (pi_tup h) fun σ H R q => by
  obtain ⟨B, F, as, S, r, o⟩ := q
  unfold itS at o
  cases hf : f S with
  | ok d S1 =>
    rw [hf] at o
    cases d with
    | lst ds =>
      refine .inl ⟨B, F, as, S, r, ?_⟩
      rw [hf]
      intro F1 H1 as1 e1 r1 v hv
      cases hv with
      | lst hs ha => exact ⟨_, rfl, ⟨_, Evl.ex_l r1.fh (Evl.sq_of hs)⟩, o F1 H1 as1 e1 r1 _ (walksL hs ha)⟩
    | tup ds =>
      refine .inr ⟨B, F, as, S, r, ?_⟩
      rw [hf]
      intro F1 H1 as1 e1 r1 v hv
      cases hv with
      | tup hs ha => exact ⟨_, rfl, ⟨_, Evl.ex_t r1.fh hs.sq⟩, o F1 H1 as1 e1 r1 _ (walksT hs ha)⟩
    | scr t ds =>
      cases t with
      | true =>
        refine .inr ⟨B, F, as, S, r, ?_⟩
        rw [hf]
        intro F1 H1 as1 e1 r1 v hv
        cases hv with
        | scr _ hs ha => exact ⟨_, rfl, ⟨_, hs.up r1.fh⟩, o F1 H1 as1 e1 r1 _ (walksT0 hs ha)⟩
      | false =>
        refine .inl ⟨B, F, as, S, r, ?_⟩
        rw [hf]
        intro F1 H1 as1 e1 r1 v hv
        cases hv with
        | scr _ hs ha => exact ⟨_, rfl, ⟨_, hs.up r1.fh⟩, o F1 H1 as1 e1 r1 _ (walksL0 hs ha)⟩
    | _ => exact o.elim
  | er x S1 =>
    rw [hf] at o
    exact .inl ⟨B, F, as, S, r, by rw [hf]; exact o⟩
  | no => rw [hf] at o; exact o.elim
/-- range(n), range(a, b) -/
def itR1 (fs : Ms → R (List Dt)) : Ms → R (List Dt) := fun S => (fs S).bind fun ds S1 => match ds with
  | [.int j] => if -(2 ^ 62) ≤ j ∧ j < 2 ^ 62 then .ok ((List.range j.toNat).map fun (i : Nat) => Dt.int (i : Int)) S1 else .no
  | _ => .no
def itR2 (fs : Ms → R (List Dt)) : Ms → R (List Dt) := fun S => (fs S).bind fun ds S1 => match ds with
  | [.int i, .int j] => if -(2 ^ 62) ≤ i ∧ i < 2 ^ 62 ∧ -(2 ^ 62) ≤ j ∧ j < 2 ^ 62 then .ok ((List.range (j - i).toNat).map fun (k : Nat) => Dt.int (i + (k : Int))) S1 else .no
  | _ => .no
theorem walksR {K : PySem.W.Frag} {F : Hp} {lo : Int} {n : Nat} {ds : List Dt} (h : ds = (List.range n).map fun (k : Nat) => Dt.int (lo + (k : Int))) : Walks K F (Itr lo n) ds := by
  subst h
  have hl : ((List.range n).map fun (k : Nat) => Dt.int (lo + (k : Int))).length = n := by simp
  refine ⟨fun i H hi e => by rw [hl] at hi; exact hi, fun H e => by rw [hl]; exact Nat.le_refl _, fun i H x H' F1 hi e e2 y => ?_⟩
  rw [hl] at hi
  obtain ⟨rfl, rfl⟩ := y
  refine ⟨.int (lo + i), ?_, .inl ⟨rfl, .int _⟩⟩
  rw [List.getElem?_map, List.getElem?_range hi]
  rfl
theorem di_range1 {a : Expr} (hg : Gl X "range") (hm : X.mg "range" = none) (ha : PA X [a] (tA X.K W fs)) (hs : starEach [a] X.env = [(false, eval a X.env)] := by rfl) : PI X tg (.Call (.Name "range" p) [a] [] pos) (tI X.K W (itR1 fs)) := monoI1 (pi_range1 hg hm ha hs) fun σ H R q => by
  obtain ⟨B, F, as, S, r, o⟩ := q
  refine ⟨B, F, as, S, r, Out.mono (Out.bind o) fun ds F1 H1 as1 S1 ⟨r1, e1, o1⟩ vs hv => ?_⟩
  split at o1
  · rename_i j _
    split at o1
    · rename_i hj
      obtain ⟨v, rfl, h1⟩ := rpa1 hv
      cases h1
      refine ⟨_, rfl, hj.1, hj.2, Out.now o1 r1 _ (walksR ?_)⟩
      apply List.map_congr_left
      intro k _
      rw [Int.zero_add]
    · exact o1.elim
  · exact o1.elim
theorem di_range2 {a b : Expr} (hg : Gl X "range") (hm : X.mg "range" = none) (ha : PA X [a, b] (tA X.K W fs)) (hs : starEach [a, b] X.env = [(false, eval a X.env), (false, eval b X.env)] := by rfl) (hs2 : starEach [b] X.env = [(false, eval b X.env)] := by rfl) : PI X tg (.Call (.Name "range" p) [a, b] [] pos) (tI X.K W (itR2 fs)) := monoI1 (pi_range2 hg hm ha hs hs2) fun σ H R q => by
  obtain ⟨B, F, as, S, r, o⟩ := q
  refine ⟨B, F, as, S, r, Out.mono (Out.bind o) fun ds F1 H1 as1 S1 ⟨r1, e1, o1⟩ vs hv => ?_⟩
  split at o1
  · split at o1
    · rename_i hj
      obtain ⟨v, w, rfl, h1, h2⟩ := rpa2 hv
      cases h1; cases h2
      exact ⟨_, _, rfl, hj, Out.now o1 r1 _ (walksR rfl)⟩
    · exact o1.elim
  · exact o1.elim
/-- zip of two lists, of two tuples -/
def zipD (xs ys : List Dt) : List Dt := List.zipWith (fun d e => Dt.tup [d, e]) xs ys
def itZ (fs : Ms → R (List Dt)) : Ms → R (List Dt) := fun S => (fs S).bind fun ds S1 => match ds with
  | [.lst xs, .lst ys] => .ok (zipD xs ys) S1
  | [.tup xs, .tup ys] => .ok (zipD xs ys) S1
  | _ => .no
theorem zipD_len (xs ys : List Dt) : (zipD xs ys).length = min xs.length ys.length := by simp [zipD]
theorem zipD_get {xs ys : List Dt} {i : Nat} {d e : Dt} (h1 : xs[i]? = some d) (h2 : ys[i]? = some e) : (zipD xs ys)[i]? = some (.tup [d, e]) := by
  unfold zipD
  rw [List.getElem?_zipWith, h1, h2]
theorem walksZ {K : PySem.W.Frag} {F : Hp} {a b : Addr} {xs ys : List V} {ds es : List Dt} (hs : F a = some (.lst xs)) (ha : RpA K F xs ds) (hs2 : F b = some (.lst ys)) (ha2 : RpA K F ys es) : Walks K F (Itz K a b) (zipD ds es) := by
  have w := walk_zip (K := K) (a := a) (b := b) (xs := xs) (ys := ys) rfl
  have hl : (zipD ds es).length = min xs.length ys.length := by rw [zipD_len, ha.length, ha2.length]
  have hh : ∀ {H}, Ex F H → SqL K H a xs ∧ SqL K H b ys := fun e => ⟨Evl.ex_l e (Evl.sq_of hs), Evl.ex_l e (Evl.sq_of hs2)⟩
  refine ⟨fun i H hi e => w.goes i H (by rw [← hl]; exact hi) (hh e), fun H e => by rw [hl]; exact w.stops H (hh e), fun i H x H' F1 hi e e2 y => ?_⟩
  obtain ⟨T, u, v, rfl, h1, rfl, h2, h3⟩ := w.yields i H x H' (by rw [← hl]; exact hi) (hh (e.trans e2)) y
  obtain ⟨d, d1, d2⟩ := ha.getv h2
  obtain ⟨c, c1, c2⟩ := ha2.getv h3
  refine ⟨.tup [d, c], zipD_get d1 c1, .inr ⟨T, .tup [u, v], h1, rfl, ?_⟩⟩
  have ht : F1 T = none := by
    cases w : F1 T with
    | none => rfl
    | some o => rw [e2 _ _ w] at h1; cases h1
  exact .tup upd_same (.cons ((d2.up e).up (Ex.new ht)) (.cons ((c2.up e).up (Ex.new ht)) .nil))
theorem walksZT {K : PySem.W.Frag} {F : Hp} {a b : Addr} {xs ys : List V} {ds es : List Dt} (hs : TupAt K F a xs) (ha : RpA K F xs ds) (hs2 : TupAt K F b ys) (ha2 : RpA K F ys es) : Walks K F (ItzT K a b) (zipD ds es) := by
  have hl : (zipD ds es).length = min xs.length ys.length := by rw [zipD_len, ha.length, ha2.length]
  have hh : ∀ {H}, Ex F H → SqT K H a xs ∧ SqT K H b ys := fun e => ⟨Evl.ex_t e hs.sq, Evl.ex_t e hs2.sq⟩
  refine ⟨fun i H hi e => ?_, fun H e => ?_, fun i H x H' F1 hi e e2 y => ?_⟩
  · rw [hl] at hi
    have h1 : i < xs.length := by omega
    have h2 : i < ys.length := by omega
    obtain ⟨q1, q2⟩ := hh e
    exact ⟨xs, ys, xs[i], ys[i], q1, q2, by simp [h1], by simp [h2]⟩
  · obtain ⟨q1, q2⟩ := hh e
    exact ⟨xs, ys, q1, q2, by rw [hl]; omega⟩
  obtain ⟨q1, q2⟩ := hh (e.trans e2)
  obtain ⟨T, u, v, rfl, h1, rfl, h2, h3⟩ := y
  obtain ⟨d, d1, d2⟩ := ha.getv (h2 _ q1)
  obtain ⟨c, c1, c2⟩ := ha2.getv (h3 _ q2)
  refine ⟨.tup [d, c], zipD_get d1 c1, .inr ⟨T, .tup [u, v], h1, rfl, ?_⟩⟩
  have ht : F1 T = none := by
    cases w : F1 T with
    | none => rfl
    | some o => rw [e2 _ _ w] at h1; cases h1
  exact .tup upd_same (.cons ((d2.up e).up (Ex.new ht)) (.cons ((c2.up e).up (Ex.new ht)) .nil))
theorem di_zip {elts : List Expr} {kk : Nat} (hg : Gl X "zip") (hm : X.mg "zip" = none) (ha : PA X [e, e2] (tA X.K W fs)) (hs : starEach [e, e2] X.env = (false, eval e X.env) :: starEach [e2] X.env := by rfl) (hpl : (backTo pos (starEach [e2] X.env)).any (·.1) = false := by rfl) :
    PI X (.Tuple elts kk tpos) (.Call (.Name "zip" p) [e, e2] [] pos) (tI X.K W (itZ fs)) := monoI1 (pi_zipA hg hm ha hs hpl) fun σ H R q => by
  obtain ⟨B, F, as, S, r, o⟩ := q
  refine ⟨B, F, as, S, r, Out.mono (Out.bind o) fun ds F1 H1 as1 S1 ⟨r1, e1, o1⟩ vs hv => ?_⟩
  split at o1
  · obtain ⟨v, w, rfl, h1, h2⟩ := rpa2 hv
    cases h1 with
    | lst hs ha =>
      cases h2 with
      | lst hs2 ha2 => exact ⟨_, _, _, _, rfl, .inl ⟨Evl.ex_l r1.fh (Evl.sq_of hs), Evl.ex_l r1.fh (Evl.sq_of hs2), Out.now o1 r1 _ (walksZ hs ha hs2 ha2)⟩⟩
  · obtain ⟨v, w, rfl, h1, h2⟩ := rpa2 hv
    cases h1 with
    | tup hs ha =>
      cases h2 with
      | tup hs2 ha2 => exact ⟨_, _, _, _, rfl, .inr ⟨Evl.ex_t r1.fh hs.sq, Evl.ex_t r1.fh hs2.sq, Out.now o1 r1 _ (walksZT hs ha hs2 ha2)⟩⟩
  · exact o1.elim
end

/-! ### list comprehensions -/
def W0 : WX := fun _ _ _ _ => False
def lcF (sl : List Sv) (k : Dt → Ms → Option Ms) (t : Ms → R Bool) (e : Ms → R Dt) : List Dt → List Mo → List Dt → R (List Dt)
  | [], mo, acc => .ok acc { sl := sl, mo := mo }
  | d :: ds, mo, acc => match k d { sl := sl, mo := mo } with
    | none => .no
    | some S1 => match t S1 with
      | .ok false S2 => lcF sl k t e ds S2.mo acc
      | .ok true S2 => (match e S2 with
        | .ok y S3 => if acc.length < 100000 then lcF sl k t e ds S3.mo (acc ++ [y]) else .no
        | _ => .no)
      | _ => .no
/-- own: the slots of the comprehension's own names -/
def lcE (it : Ms → R (List Dt)) (k : Dt → Ms → Option Ms) (t : Ms → R Bool) (e : Ms → R Dt) (own : List Nat) : Ms → R (List Dt) := fun S => (it S).bind fun ds S1 => (lcF (wipeL S1.sl own) k t e ds S1.mo []).bind fun ys S2 => .ok ys { sl := S1.sl, mo := S2.mo }
def yesT : Ms → R Bool := fun S => .ok true S
theorem lc_run {X : Cx} {W : WX} {it : Ms → R (List Dt)} {T : Tk} {t : Ms → R Bool} {e : Ms → R Dt} {own : List Nat} (hi : ∀ i ∈ T.is, i ∈ own) {σ : L2.St} {H : Hp} {Q : VK}
    (q : tN X.K W (lcE it T.k t e own) σ H Q) : tLc (tI X.K W it) (T.g X.K) (tT X.K W0 t) (tD X.K W0 e) own σ H Q := by
  obtain ⟨B, F, as, S, r, o⟩ := q
  refine ⟨B, F, as, S, r, Out.mono (Out.bind o) fun ds F1 H1 as1 S1 ⟨r1, e1, o1⟩ J w => ?_⟩
  intro D hD
  obtain ⟨f1, f2, f3⟩ := r1.fresh hD
  have o2 := Out.bind o1
  refine ⟨fun i m H => m = ds.length - i ∧ i ≤ ds.length ∧ ∃ F2 as2 mo acc accV, Ext F1 F2 as1 as2 ∧ Rep X.K B F2 H as2 σ { S1 with mo := mo } ∧ F2 D = none ∧ D ∉ as2 ∧ H D = some (.lst accV) ∧ RpA X.K F2 accV acc ∧
    Out X.K W B F2 as2 σ (lcF (wipeL S1.sl own) T.k t e (ds.drop i) mo acc) fun ys F' H' as' S' => ∀ vs, (Rep X.K B F' H' as' σ { S1 with mo := S'.mo }) → F' D = none → D ∉ as' → H' D = some (.lst vs) → RpA X.K F' vs ys → Q (.ref D) H', ⟨ds.length, by simp, Nat.zero_le _, F1, as1, S1.mo, [], [], Ext.refl, ?_, f1, f3, upd_same, .nil, ?_⟩, ?_⟩
  · refine ⟨fun a u hu => ?_, fun a u hu => ?_, r1.sl, r1.mo.mono fun a m z => ?_, r1.nd⟩
    · rw [upd_ne (ne_of_none (r1.fh _ _ hu) hD)]
      exact r1.fh _ _ hu
    · obtain ⟨z1, z2, z3⟩ := r1.bh a u hu
      exact ⟨by rw [upd_ne (ne_of_none z1 hD)]; exact z1, z2, z3⟩
    · cases m with
      | ob ds =>
        obtain ⟨z1, z2, ws, z3, z4⟩ := z
        exact ⟨z1, z2, ws, by rw [upd_ne (ne_of_none z3 hD)]; exact z3, z4⟩
      | fz d => exact z
  · refine Out.mono o2 fun ys F' H' as' S' ⟨r', e', o3⟩ vs r'' hF hA hH hv => ?_
    exact o3 F' H' as' Ext.refl r'' D vs hF f2 hA hH hv
  · rintro i m H ⟨rfl, hle, F2, as2, mo, acc, accV, e2, r2, hF, hA, hH, hacc, o3⟩
    by_cases hlt : i < ds.length
    · refine .inr ⟨w.go i H hlt (e2.1.trans r2.fh), ?_⟩
      obtain ⟨d, hd⟩ : ∃ d, ds[i]? = some d := ⟨ds[i], by simp [hlt]⟩
      have hdrop : ds.drop i = d :: ds.drop (i + 1) := by
        rw [List.drop_eq_getElem_cons hlt]
        congr 1
        rw [List.getElem?_eq_getElem hlt] at hd
        exact Option.some.inj hd
      rw [hdrop] at o3
      refine ⟨fun H' => ∃ F2 as2 mo acc accV, Ext F1 F2 as1 as2 ∧ Rep X.K B F2 H' as2 σ { S1 with mo := mo } ∧ F2 D = none ∧ D ∉ as2 ∧ H' D = some (.lst accV) ∧ RpA X.K F2 accV acc ∧
        Out X.K W B F2 as2 σ (lcF (wipeL S1.sl own) T.k t e (ds.drop (i + 1)) mo acc) fun ys F' H' as' S' => ∀ vs, (Rep X.K B F' H' as' σ { S1 with mo := S'.mo }) → F' D = none → D ∉ as' → H' D = some (.lst vs) → RpA X.K F' vs ys → Q (.ref D) H', fun H' h => ⟨ds.length - (i + 1), by omega, rfl, hlt, h⟩, fun x H' hy => ?_⟩
      obtain ⟨d', hd', hx⟩ := w.yld i H x H' F2 hlt e2.1 r2.fh hy
      rw [hd] at hd'
      cases hd'
      have rh : Rep X.K (upd B D (.lst accV)) F2 H as2 σ { S1 with mo := mo } := r2.hold hH hF hA trivial
      -- the state at the turn
      obtain ⟨F3, e3, r3, hv3⟩ : ∃ F3, Ext F2 F3 as2 as2 ∧ Rep X.K (upd B D (.lst accV)) F3 H' as2 σ { S1 with mo := mo } ∧ Rp X.K F3 x d := by
        rcases hx with ⟨rfl, hx⟩ | ⟨T, ob, hT, rfl, hx⟩
        · exact ⟨F2, Ext.refl, rh, hx⟩
        · obtain ⟨ee, rr⟩ := rh.new hT ob
          exact ⟨_, ee, rr, hx⟩
      have r4 : Rep X.K (upd B D (.lst accV)) F3 H' as2 (wipe σ own) { sl := wipeL S1.sl own, mo := mo } := ⟨r3.fh, r3.bh, wipe_rp r3.sl own, r3.mo, r3.nd⟩
      unfold lcF at o3
      cases hk : T.k d { sl := wipeL S1.sl own, mo := mo } with
      | none => rw [hk] at o3; exact o3.elim
      | some S4 =>
        rw [hk] at o3
        dsimp only at o3
        refine T.run r4 hv3 hk fun σ4 r5 hw => ⟨by rw [hw own hi, wipe_wipe], ?_⟩
        refine ⟨_, F3, as2, S4, r5, ?_⟩
        cases ht : t S4 with
        | no => rw [ht] at o3; exact o3.elim
        | er x S5 => rw [ht] at o3; exact o3.elim
        | ok b S5 =>
          rw [ht] at o3
          intro F5 H5 as5 e5 r6
          cases b with
          | false =>
            show ∃ F2 as2 mo acc accV, _
            dsimp only at o3
            obtain ⟨r7, h7, h8, h9⟩ := (Rep.back r6 r3.sl e5).unhold f2
            have e25 := e3.trans e5
            exact ⟨F5, as5, S5.mo, acc, accV, e2.trans e25, r7, h8, h9, h7, hacc.up e25.1, by
              revert o3
              cases lcF (wipeL S1.sl own) T.k t e (ds.drop (i + 1)) S5.mo acc with
              | ok ys S' => exact fun o3 F' H' as' ee rr => o3 F' H' as' (e25.trans ee) rr
              | er y S' => exact fun o3 F' H' as' dx fs ee rr => o3 F' H' as' dx fs (e25.trans ee) rr
              | no => exact fun o3 => o3⟩
          | true =>
            show tD X.K W0 e σ4 H5 _
            dsimp only at o3
            refine ⟨_, F5, as5, S5, r6, ?_⟩
            cases he : e S5 with
            | no => rw [he] at o3; exact o3.elim
            | er x S6 => rw [he] at o3; exact o3.elim
            | ok y S6 =>
              rw [he] at o3
              dsimp only at o3
              split at o3
              · rename_i hlen
                intro F6 H6 as6 e6 r7 v hv
                obtain ⟨r8, h7, h8, h9⟩ := (Rep.back r7 r3.sl (e5.trans e6)).unhold f2
                have e26 := (e3.trans e5).trans e6
                refine ⟨accV, h7, Evl.sz_lt (by rw [hacc.length]; exact hlen), F6, as6, S6.mo, acc ++ [y], accV ++ [v], e2.trans e26, ?_, h8, h9, upd_same, (hacc.up e26.1).snoc hv, ?_⟩
                · refine ⟨fun a u hu => ?_, fun a u hu => ?_, r8.sl, ?_, r8.nd⟩
                  · have n : a ≠ D := by
                      rintro rfl
                      rw [h8] at hu; cases hu
                    rw [upd_ne n]
                    exact r8.fh _ _ hu
                  · have n : a ≠ D := by
                      rintro rfl
                      rw [f2] at hu; cases hu
                    rw [upd_ne n]
                    exact r8.bh a u hu
                  · have : ∀ {xs : List Addr} {ys : List Mo}, (∀ a ∈ xs, a ≠ D) → Paired (MoR X.K B F6 H6) xs ys → Paired (MoR X.K B F6 (upd H6 D (.lst (accV ++ [v])))) xs ys := by
                      intro xs ys hn z
                      induction z with
                      | nil => exact .nil
                      | @cons a b l1 l2 z zs ih =>
                        refine .cons ?_ (ih fun a ha => hn a (List.mem_cons_of_mem _ ha))
                        cases b with
                        | ob ds =>
                          obtain ⟨z1, z2, ws, z3, z4⟩ := z
                          exact ⟨z1, z2, ws, by rw [upd_ne (hn _ List.mem_cons_self)]; exact z3, z4⟩
                        | fz d => exact z
                    exact this (fun a ha z => h9 (z ▸ ha)) r8.mo
                · revert o3
                  cases lcF (wipeL S1.sl own) T.k t e (ds.drop (i + 1)) S6.mo (acc ++ [y]) with
                  | ok ys S' => exact fun o3 F' H' as' ee rr => o3 F' H' as' (e26.trans ee) rr
                  | er y S' => exact fun o3 F' H' as' dx fs ee rr => o3 F' H' as' dx fs (e26.trans ee) rr
                  | no => exact fun o3 => o3
              · exact o3.elim
    · have e : i = ds.length := by omega
      subst e
      rw [List.drop_length] at o3
      unfold lcF at o3
      refine .inl ⟨w.stop H (e2.1.trans r2.fh), ?_⟩
      exact o3 F2 H as2 Ext.refl ⟨r2.fh, r2.bh, wipeL_rp r2.sl own, r2.mo, r2.nd⟩ accV r2 hF hA hH hacc
end Lq

namespace Lq
open PySem PySem.Spec PyProof.Rows L2
open Evl (Ex)
/-! ### assignments -/
def asgS (i : Nat) (f : Ms → R Dt) : Ms → O := fun S => (f S).stmt fun d S1 => .nx { S1 with sl := S1.sl.set i (.im d) }
def asgN (i : Nat) (f : Ms → R (List Dt)) : Ms → O := fun S => (f S).stmt fun ds S1 => .nx { sl := S1.sl.set i (.mu S1.mo.length), mo := S1.mo ++ [.ob (.ls ds)] }
def moveS (i j : Nat) : Ms → O := fun S => match S.sl[j]? with | some (.im d) => .nx { S with sl := S.sl.set i (.im d) } | some (.mu k) => .nx { S with sl := S.sl.set i (.mu k) } | _ => .no
def asgT (T : Tk) (f : Ms → R Dt) : Ms → O := fun S => (f S).stmt fun d S1 => match T.k d S1 with | some S2 => .nx S2 | none => .no
section
variable {K : PySem.W.Frag} {W : WX} {f : Ms → R Dt} {fn : Ms → R (List Dt)} {i j : Nat} {D : Ends} {σ : L2.St} {H : Hp}
theorem asgS_run (q : sD K W (asgS i f) D σ H) : tD K W f σ H fun x H1 => D.nx (σ.set i (some x)) H1 := by
  obtain ⟨B, F, as, S, r, o⟩ := q
  exact ⟨B, F, as, S, r, Out.mono (OutS.stmt o) fun d F1 H1 as1 S1 ⟨r1, e1, o1⟩ v hv => o1 _ F1 H1 as1 Ext.refl (r1.slot (s := .im d) i hv)⟩
theorem asgN_run (q : sD K W (asgN i fn) D σ H) : tN K W fn σ H fun x H1 => D.nx (σ.set i (some x)) H1 := by
  obtain ⟨B, F, as, S, r, o⟩ := q
  refine ⟨B, F, as, S, r, Out.mono (OutS.stmt o) fun ds F1 H1 as1 S1 ⟨r1, e1, o1⟩ p vs f1 f2 f3 hp hv => ?_⟩
  obtain ⟨ee, rr⟩ := r1.newL f1 f2 f3 hp (.ls hv)
  refine o1 _ F1 H1 _ ee (rr.slot (s := .mu S1.mo.length) i ⟨p, ?_, rfl⟩)
  have hl : as1.length = S1.mo.length := r1.mo.length
  rw [← hl, List.getElem?_append_right (Nat.le_refl _), Nat.sub_self]
  rfl
theorem moveS_run (q : sD K W (moveS i j) D σ H) : tVar j σ H fun x H1 => D.nx (σ.set i (some x)) H1 := by
  obtain ⟨B, F, as, S, r, o⟩ := q
  unfold moveS at o
  cases hs : S.sl[j]? with
  | none => rw [hs] at o; exact o.elim
  | some s =>
    rw [hs] at o
    obtain ⟨ov, hv, z⟩ := pairedGet r.sl hs
    cases s with
    | no => exact o.elim
    | im d =>
      cases ov with
      | none => exact z.elim
      | some v => exact ⟨v, hv, o _ F H as Ext.refl (r.slot (s := .im d) i z)⟩
    | mu k =>
      cases ov with
      | none => exact z.elim
      | some v => exact ⟨v, hv, o _ F H as Ext.refl (r.slot (s := .mu k) i z)⟩
end
section
variable {X : Cx} {W : WX} {a b c e : Expr} {es : List Expr} {pos pos' : Pos} {f g : Ms → R Dt} {fn : Ms → R (List Dt)} {fs : Ms → R (List Dt)} {i j : Nat} {x y : Str} {m n : Ms → O} {st : Stmt} {rest : List Stmt}
theorem ds_set (hN : X.N.Nodup) (hi : X.N[i]? = some x) (hx : Loc X.env.scope x) (he : PE X e (tD X.K W f)) (hs : swapsWith e (some (.Name x pos')) pos.line X.env = pure false := by rfl) (hf : X.fn x = true ∨ X.env.scope.names.lookup x = some .local := by first | exact .inl rfl | exact .inr rfl | assumption) :
    PS X (.Assign [.Name x pos'] e pos) (sD X.K W (asgS i f)) := monoS (ps_set hN hi hx he hs hf) fun D σ H q => asgS_run q
theorem ds_setN (hN : X.N.Nodup) (hi : X.N[i]? = some x) (hx : Loc X.env.scope x) (he : PE X e (tN X.K W fn)) (hs : swapsWith e (some (.Name x pos')) pos.line X.env = pure false := by rfl) (hf : X.fn x = true ∨ X.env.scope.names.lookup x = some .local := by first | exact .inl rfl | exact .inr rfl | assumption) :
    PS X (.Assign [.Name x pos'] e pos) (sD X.K W (asgN i fn)) := monoS (ps_set hN hi hx he hs hf) fun D σ H q => asgN_run q
theorem ds_mov (hN : X.N.Nodup) (hi : X.N[i]? = some x) (hx : Loc X.env.scope x) (he : PE X e (tVar j)) (hs : swapsWith e (some (.Name x pos')) pos.line X.env = pure false := by rfl) (hf : X.fn x = true ∨ X.env.scope.names.lookup x = some .local := by first | exact .inl rfl | exact .inr rfl | assumption) :
    PS X (.Assign [.Name x pos'] e pos) (sD X.K W (moveS i j)) := monoS (ps_set hN hi hx he hs hf) fun D σ H q => moveS_run q
theorem ds_tgt {tg : Expr} {T : Tk} (he : PE X e (tD X.K W f)) (hg : DG X tg T) (hs : swapsWithSole [tg] e pos.line X.env = pure false := by rfl) (hw : swappedStores [tg] e X.env = pure none := by rfl)
    (h1 : (assignEach [tg] X.env).map (·.2) = [assign tg X.env] := by rfl) : PS X (.Assign [tg] e pos) (sD X.K W (asgT T f)) := monoS (ps_asg he hg.pg hs hw h1) fun D σ H q => by
  obtain ⟨B, F, as, S, r, o⟩ := q
  refine ⟨B, F, as, S, r, Out.mono (OutS.stmt o) fun d F1 H1 as1 S1 ⟨r1, e1, o1⟩ v hv => ?_⟩
  cases hk : T.k d S1 with
  | none => rw [hk] at o1; exact o1.elim
  | some S2 =>
    rw [hk] at o1
    exact T.run r1 hv hk fun σ' r' _ => o1 σ' F1 H1 as1 Ext.refl r'

/-! ### comprehensions -/
section
variable {tg iter elt : Expr} {ifs : List Expr} {scope : Scope} {own : List (Str × Nat)} {it : Ms → R (List Dt)} {T : Tk} {t : Ms → R Bool} {fe : Ms → R Dt}
theorem dn_lc (hc : X.calm = true) (hN : X.N.Nodup) (hi : PI X tg iter (tI X.K W it)) (ok : BlkOk X.N X.env.scope scope own) {vs : List Nat} (hsub : ∀ i ∈ T.is, i ∈ vs)
    (hg : ∀ (s : Shared) (H : Hp) (C : Addr) (cl : List (Str × Addr)) (fp : List Addr), DG (X.blk s H scope (compEnvC scope cl C X.env) fp) tg T) (ht : ∀ (s : Shared) (H : Hp) (C : Addr) (cl : List (Str × Addr)) (fp : List Addr), PTs (X.blk s H scope (compEnvC scope cl C X.env) fp) ifs (tT X.K W0 t))
    (he : ∀ (s : Shared) (H : Hp) (C : Addr) (cl : List (Str × Addr)) (fp : List Addr), PE (X.blk s H scope (compEnvC scope cl C X.env) fp) elt (tD X.K W0 fe)) (hs : ∀ x, foldedSetIterable iter X.env x = pure x := by intro _; rfl) (hvs : own.map (·.2) = vs := by rfl) :
    PE X (.ListComp elt [⟨tg, iter, ifs, 0⟩] scope pos) (tN X.K W (lcE it T.k t fe vs)) :=
  by
  subst hvs
  exact ⟨fun pins s σ H Q I q => (pe_lc hc hN hi ok (fun s H C cl fp => (hg s H C cl fp).pg) ht he hs).run pins s σ H Q I (lc_run hsub q)⟩
theorem ds_lcN {py spos : Pos} (hc : X.calm = true) (hN : X.N.Nodup) (hy : X.N[i]? = some y) (hyl : X.env.scope.names.lookup y = some .local)
    (hsw : swapsWith (.ListComp elt [⟨tg, iter, ifs, 0⟩] scope pos) (some (.Name y py)) spos.line X.env = pure true) (hi : PI X tg iter (tI X.K W it)) (ok : BlkOk X.N X.env.scope scope own) {vs : List Nat} (hsub : ∀ i ∈ T.is, i ∈ vs)
    (hg : ∀ (s : Shared) (H : Hp) (C : Addr) (cl : List (Str × Addr)) (fp : List Addr), DG (X.blk s H scope (compEnvC scope cl C X.env) fp) tg T) (ht : ∀ (s : Shared) (H : Hp) (C : Addr) (cl : List (Str × Addr)) (fp : List Addr), PTs (X.blk s H scope (compEnvC scope cl C X.env) fp) ifs (tT X.K W0 t))
    (he : ∀ (s : Shared) (H : Hp) (C : Addr) (cl : List (Str × Addr)) (fp : List Addr), PE (X.blk s H scope (compEnvC scope cl C X.env) fp) elt (tD X.K W0 fe)) (hs : ∀ x, foldedSetIterable iter X.env x = pure x := by intro _; rfl) (hvs : own.map (·.2) = vs := by rfl) :
    PS X (.Assign [.Name y py] (.ListComp elt [⟨tg, iter, ifs, 0⟩] scope pos) spos) (sD X.K W (asgN i (lcE it T.k t fe vs))) :=
  by
  subst hvs
  exact ⟨fun pins s σ H D I q => (ps_setLc hc hN hy hyl hsw hi ok (fun s H C cl fp => (hg s H C cl fp).pg) ht he hs).run pins s σ H D I (lc_run (Q := fun x H1 => D.nx (σ.set i (some x)) H1) hsub (asgN_run q))⟩
theorem ds_lc {py spos : Pos} (hc : X.calm = true) (hN : X.N.Nodup) (hy : X.N[i]? = some y) (hyl : X.env.scope.names.lookup y = some .local)
    (hsw : swapsWith (.ListComp elt [⟨tg, iter, ifs, 0⟩] scope pos) (some (.Name y py)) spos.line X.env = pure true) (hi : PI X tg iter (tI X.K W it)) (ok : BlkOk X.N X.env.scope scope own) {vs : List Nat} (hsub : ∀ i ∈ T.is, i ∈ vs)
    (hg : ∀ (s : Shared) (H : Hp) (C : Addr) (cl : List (Str × Addr)) (fp : List Addr), DG (X.blk s H scope (compEnvC scope cl C X.env) fp) tg T) (ht : ∀ (s : Shared) (H : Hp) (C : Addr) (cl : List (Str × Addr)) (fp : List Addr), PTs (X.blk s H scope (compEnvC scope cl C X.env) fp) ifs (tT X.K W0 t))
    (he : ∀ (s : Shared) (H : Hp) (C : Addr) (cl : List (Str × Addr)) (fp : List Addr), PE (X.blk s H scope (compEnvC scope cl C X.env) fp) elt (tD X.K W0 fe)) (hs : ∀ x, foldedSetIterable iter X.env x = pure x := by intro _; rfl) (hvs : own.map (·.2) = vs := by rfl) :
    PS X (.Assign [.Name y py] (.ListComp elt [⟨tg, iter, ifs, 0⟩] scope pos) spos) (sD X.K W (asgS i (frz (lcE it T.k t fe vs)))) :=
  by
  subst hvs
  exact ⟨fun pins s σ H D I q => (ps_setLc hc hN hy hyl hsw hi ok (fun s H C cl fp => (hg s H C cl fp).pg) ht he hs).run pins s σ H D I (lc_run (Q := fun x H1 => D.nx (σ.set i (some x)) H1) hsub (frz_run (asgS_run q)))⟩
theorem dts_nil : PTs X [] (tT X.K W yesT) := monoPT pts_nil fun σ H Q q => by
  obtain ⟨B, F, as, S, r, o⟩ := q
  exact Out.now o r
theorem dts_one {p : Ms → R Bool} (h : PT X c (tT X.K W p)) : PTs X [c] (tT X.K W p) := pts_one h
end

/-! ### mutable lists -/
def muAt (S : Ms) (i : Nat) : Option (Nat × List Dt) := match S.sl[i]? with | some (.mu k) => (match S.mo[k]? with | some (.ob (.ls xs)) => some (k, xs) | _ => none) | _ => none
theorem muAt_rp {K : PySem.W.Frag} {B F H : Hp} {as : List Addr} {σ : L2.St} {S : Ms} (r : Rep K B F H as σ S) {k : Nat} {xs : List Dt} (h : muAt S i = some (k, xs)) :
    ∃ p vs, σ[i]? = some (some (.ref p)) ∧ S.mo[k]? = some (.ob (.ls xs)) ∧ as[k]? = some p ∧ B p = none ∧ F p = none ∧ H p = some (.lst vs) ∧ RpA K F vs xs := by
  unfold muAt at h
  cases hs : S.sl[i]? with
  | none => rw [hs] at h; cases h
  | some s =>
    rw [hs] at h
    cases s with
    | mu k' =>
      dsimp only at h
      cases hm : S.mo[k']? with
      | none => rw [hm] at h; cases h
      | some mm =>
        rw [hm] at h
        cases mm with
        | ob c =>
         cases c with
         | dc kvs => cases h
         | ls ys =>
          cases h
          obtain ⟨ov, hv, z⟩ := pairedGet r.sl hs
          cases ov with
          | none => exact z.elim
          | some v =>
            obtain ⟨p, hp, rfl⟩ := z
            obtain ⟨p', hp', q1, q2, ob, q3, q4⟩ := pairedGet r.mo hm
            rw [hp] at hp'
            cases hp'
            cases q4
            rename_i vs q4
            exact ⟨p, vs, hv, hm, hp, q1, q2, q3, q4⟩
        | fz d => cases h
    | _ => cases h
/-- xs.append(e), xs a local -/
def appS (i : Nat) (f : Ms → R Dt) : Ms → O := fun S => match muAt S i with
  | none => .no
  | some _ => (f S).stmt fun d S1 => match muAt S1 i with | some (k, xs) => if xs.length < 100000 then .nx { S1 with mo := S1.mo.set k (.ob (.ls (xs ++ [d]))) } else .no | none => .no
theorem ds_app {o : Expr} {apos cpos : Pos} (ho : PE X o (tVar i)) (he : PE X e (tD X.K W f)) (hs0 : starEach [e] X.env = (false, eval e X.env) :: starEach [] X.env := by rfl)
    (hbase : attributeBase o "append" X.env (eval o X.env) = eval o X.env := by rfl)
    (hfew : ((backTo cpos (starEach [e] X.env)).all (fun x => !x.1) && (backToKw cpos (keywordEach [] X.env)).all (fun x => x.1.isSome)
      && decide ([e].length + ([] : List Keyword).length + (if ([] : List Keyword).isEmpty then 0 else 1) < 30)) = true := by rfl)
    (hline : (apos.endLine == cpos.line) = true := by rfl) (hpl : (backTo cpos (starEach [] X.env)).any (·.1) = false := by rfl) (hs : swapsWith (.Call (.Attribute o "append" apos) [e] [] cpos) none pos.line X.env = pure false := by rfl) :
    PS X (.Expr (.Call (.Attribute o "append" apos) [e] [] cpos) pos) (sD X.K W (appS i f)) :=
  monoS (ps_expr (pe_bm PySem.F.plainAttrs_list PySem.F.slot_list_append PySem.F.type_list_append mt_append ho (pa_cons he pa_nil hs0) hbase hfew hline hs0 hpl) hs) fun D σ H q => by
    obtain ⟨B, F, as, S, r, o⟩ := q
    unfold appS at o
    cases hm0 : muAt S i with
    | none => rw [hm0] at o; exact o.elim
    | some km =>
      rw [hm0] at o
      obtain ⟨k0, xs0⟩ := km
      obtain ⟨p, vs0, hp, hmo0, hp0, _, _, hH0, hv0⟩ := muAt_rp r hm0
      refine ⟨_, hp, .inl ⟨rfl, vs0, Evl.sq_of hH0⟩, ?_⟩
      refine ⟨B, F, as, S, r, Out.mono (OutS.stmt o) fun d F1 H1 as1 S1 ⟨r1, e1, o1⟩ v hv => ?_⟩
      cases hm : muAt S1 i with
      | none => rw [hm] at o1; exact o1.elim
      | some km =>
        rw [hm] at o1
        obtain ⟨k, xs⟩ := km
        obtain ⟨p', vs, hp', hmo, ha, _, _, hH, hvs⟩ := muAt_rp r1 hm
        rw [hp] at hp'
        cases hp'
        dsimp only at o1
        split at o1
        · rename_i hl
          exact ⟨p, vs, v, rfl, rfl, hH, Evl.sz_lt (by rw [hvs.length]; exact hl), o1 σ F1 _ as1 Ext.refl (r1.put hmo ha (.ls (hvs.snoc hv)))⟩
        · exact o1.elim
/-- xs[j] = e, xs a local -/
def setS (i : Nat) (f g : Ms → R Dt) : Ms → O := fun S => (f S).stmt fun d S1 => match muAt S1 i with
  | none => .no
  | some _ => (g S1).stmt fun e S2 => match e with
    | .int z => (match muAt S2 i with | some (k, xs) => (match ixN xs.length z with | some j => .nx { S2 with mo := S2.mo.set k (.ob (.ls (xs.set j d))) } | none => .no) | none => .no)
    | _ => .no
theorem ds_setI {o ix : Expr} {ps : Pos} (ho : PE X o (tVar i)) (hx : PE X ix (tD X.K W g)) (he : PE X e (tD X.K W f))
    (ha : ∀ v, assign (.Subscript o ix ps) X.env v = (do
      let ov ← holding [v] (eval o X.env)
      let iv ← holding [v, ov] (eval ix X.env)
      standAt ps
      holding [v, ov, iv] (setItem ov iv v)
      release [v, ov, iv] []) := by intro _; rfl)
    (hs : swapsWithSole [.Subscript o ix ps] e pos.line X.env = pure false := by rfl) (hw : swappedStores [.Subscript o ix ps] e X.env = pure none := by rfl)
    (h1 : (assignEach [.Subscript o ix ps] X.env).map (·.2) = [assign (.Subscript o ix ps) X.env] := by rfl) : PS X (.Assign [.Subscript o ix ps] e pos) (sD X.K W (setS i f g)) :=
  monoS (ps_asg he (pg_sub ho hx set_list ha) hs hw h1) fun D σ H q => by
    obtain ⟨B, F, as, S, r, o⟩ := q
    refine ⟨B, F, as, S, r, Out.mono (OutS.stmt o) fun d F1 H1 as1 S1 ⟨r1, e1, o1⟩ v hv => ?_⟩
    cases hm0 : muAt S1 i with
    | none => rw [hm0] at o1; exact o1.elim
    | some km =>
      rw [hm0] at o1
      obtain ⟨k0, xs0⟩ := km
      obtain ⟨p, vs0, hp, hmo0, hp0, _, _, hH0, hv0⟩ := muAt_rp r1 hm0
      refine ⟨_, hp, ?_⟩
      refine ⟨B, F1, as1, S1, r1, Out.mono (OutS.stmt o1) fun z F2 H2 as2 S2 ⟨r2, e2, o2⟩ w hw => ?_⟩
      cases z with
      | int z =>
        cases hw
        dsimp only at o2
        cases hm : muAt S2 i with
        | none => rw [hm] at o2; exact o2.elim
        | some km =>
          rw [hm] at o2
          obtain ⟨k, xs⟩ := km
          obtain ⟨p', vs, hp', hmo, ha, _, _, hH, hvs⟩ := muAt_rp r2 hm
          rw [hp] at hp'
          cases hp'
          dsimp only at o2
          cases hj : ixN xs.length z with
          | none => rw [hj] at o2; exact o2.elim
          | some j =>
            rw [hj] at o2
            exact ⟨p, vs, z, j, rfl, rfl, hH, by rw [hvs.length]; exact hj, o2 σ F2 _ as2 Ext.refl (r2.put hmo ha (.ls (hvs.set j (hv.up e2.1))))⟩
      | _ => exact o2.elim
/-- xs[j] read, xs a mutable local -/
def ixV (i : Nat) (g : Ms → R Dt) : Ms → R Dt := fun S => match muAt S i with
  | none => .no
  | some _ => (g S).bind fun e S1 => match e with
    | .int z => (match muAt S1 i with | some (_, xs) => R.of (atI xs z) S1 | none => .no)
    | _ => .no
theorem de_ixV {o ix : Expr} (ho : PE X o (tVar i)) (hx : PE X ix (tD X.K W g)) (hs : PlainIx ix := by exact fun _ _ => rfl) : PE X (.Subscript o ix pos) (tD X.K W (ixV i g)) := monoE (pe_ix ix_list ho hx hs) fun σ H Q q => by
  obtain ⟨B, F, as, S, r, o⟩ := q
  unfold ixV at o
  cases hm0 : muAt S i with
  | none => rw [hm0] at o; exact o.elim
  | some km =>
    rw [hm0] at o
    obtain ⟨k0, xs0⟩ := km
    obtain ⟨p, vs0, hp, hmo0, hp0, _, _, hH0, hv0⟩ := muAt_rp r hm0
    refine ⟨_, hp, ?_⟩
    refine ⟨B, F, as, S, r, Out.mono (Out.bind o) fun z F2 H2 as2 S2 ⟨r2, e2, o2⟩ w hw => ?_⟩
    cases z with
    | int z =>
      cases hw
      dsimp only at o2
      cases hm : muAt S2 i with
      | none => rw [hm] at o2; exact o2.elim
      | some km =>
        rw [hm] at o2
        obtain ⟨k, xs⟩ := km
        obtain ⟨p', vs, hp', hmo, ha, _, _, hH, hvs⟩ := muAt_rp r2 hm
        rw [hp] at hp'
        cases hp'
        dsimp only at o2
        cases hj : atI xs z with
        | none => rw [hj] at o2; exact o2.elim
        | some y =>
          rw [hj] at o2
          obtain ⟨u, h1, h2⟩ := atI_rp hvs hj
          exact ⟨p, vs, z, u, rfl, rfl, Evl.sq_of hH, h1, Out.now o2 r2 _ h2⟩
    | _ => exact o2.elim

/-! ### blocks, if, return, loops -/
def seqS (m n : Ms → O) : Ms → O := fun S => (m S).seq n
def nilS : Ms → O := fun S => .nx S
theorem dss_nil : PSs X [] (sD X.K W nilS) := monoSs pss_nil fun D σ H q => by
  obtain ⟨B, F, as, S, r, o⟩ := q
  exact o σ F H as Ext.refl r
theorem dss_cons (h1 : PS X st (sD X.K W m)) (h2 : PSs X rest (sD X.K W n)) : PSs X (st :: rest) (sD X.K W (seqS m n)) := monoSs (pss_cons h1 h2) fun D σ H q => by
  obtain ⟨B, F, as, S, r, o⟩ := q
  exact ⟨B, F, as, S, r, OutS.seq o⟩
theorem dss_one (h1 : PS X st (sD X.K W m)) : PSs X [st] (sD X.K W m) := pss_one h1
def ifS (p : Ms → R Bool) (m n : Ms → O) : Ms → O := fun S => (p S).stmt fun b S1 => if b then m S1 else n S1
theorem ds_if {p : Ms → R Bool} {sa sb : List Stmt} (hc : PT X c (tT X.K W p)) (ha : PSs X sa (sD X.K W m)) (hb : PSs X sb (sD X.K W n)) : PS X (.If c sa sb pos) (sD X.K W (ifS p m n)) := monoS (ps_if hc ha hb) fun D σ H q => by
  obtain ⟨B, F, as, S, r, o⟩ := q
  refine ⟨B, F, as, S, r, Out.mono (OutS.stmt o) fun b F1 H1 as1 S1 ⟨r1, e1, o1⟩ => ?_⟩
  cases b with
  | true => exact ⟨B, F1, as1, S1, r1, o1⟩
  | false => exact ⟨B, F1, as1, S1, r1, o1⟩
def retS (f : Ms → R Dt) : Ms → O := fun S => (f S).stmt fun d S1 => .rt d S1
theorem ds_ret (h : PE X e (tD X.K W f)) : PS X (.Return (some e) pos) (sD X.K W (retS f)) := monoS (ps_ret h) fun D σ H q => by
  obtain ⟨B, F, as, S, r, o⟩ := q
  exact ⟨B, F, as, S, r, Out.mono (OutS.stmt o) fun d F1 H1 as1 S1 ⟨r1, e1, o1⟩ v hv => o1 σ F1 H1 as1 v Ext.refl r1 hv⟩
def retN : Ms → O := fun S => .rt .non S
theorem ds_retN : PS X (.Return none pos) (sD X.K W retN) := monoS ps_retN fun D σ H q => by
  obtain ⟨B, F, as, S, r, o⟩ := q
  exact o σ F H as _ Ext.refl r .non
def dropS (f : Ms → R Dt) : Ms → O := fun S => (f S).stmt fun _ S1 => .nx S1
theorem ds_drop (h : PE X e (tD X.K W f)) (hs : swapsWith e none pos.line X.env = pure false := by rfl) : PS X (.Expr e pos) (sD X.K W (dropS f)) := monoS (ps_expr h hs) fun D σ H q => by
  obtain ⟨B, F, as, S, r, o⟩ := q
  exact ⟨B, F, as, S, r, Out.mono (OutS.stmt o) fun d F1 H1 as1 S1 ⟨r1, e1, o1⟩ v hv => o1 σ F1 H1 as1 Ext.refl r1⟩
def noS : Ms → O := fun _ => .no
theorem ds_never : PS X st (sD X.K W noS) := monoS ps_never fun D σ H q => by
  obtain ⟨B, F, as, S, r, o⟩ := q
  exact o.elim
theorem ds_pass : PS X (.Pass pos) (sD X.K W nilS) := monoS ps_pass fun D σ H q => by
  obtain ⟨B, F, as, S, r, o⟩ := q
  exact o σ F H as Ext.refl r
def brkS : Ms → O := fun S => .bk S
def conS : Ms → O := fun S => .ct S
theorem ds_break : PS X (.Break pos) (sD X.K W brkS) := monoS ps_break fun D σ H q => by
  obtain ⟨B, F, as, S, r, o⟩ := q
  exact o σ F H as Ext.refl r
theorem ds_cont : PS X (.Continue pos) (sD X.K W conS) := monoS ps_continue fun D σ H q => by
  obtain ⟨B, F, as, S, r, o⟩ := q
  exact o σ F H as Ext.refl r
def forL (k : Dt → Ms → Option Ms) (body : Ms → O) : List Dt → Ms → O
  | [], S => .nx S
  | d :: ds, S => match k d S with
    | none => .no
    | some S1 => match body S1 with
      | .nx S2 => forL k body ds S2
      | .ct S2 => forL k body ds S2
      | .bk S2 => .nx S2
      | .rt d S2 => .rt d S2
      | .er e S2 => .er e S2
      | .no => .no
def forS (it : Ms → R (List Dt)) (k : Dt → Ms → Option Ms) (body : Ms → O) : Ms → O := fun S => (it S).stmt fun ds S1 => forL k body ds S1
theorem ds_for {tg iter : Expr} {it : Ms → R (List Dt)} {T : Tk} {body : List Stmt} (hp : PassesOwn (model X.prog X.w) X.A X.env X.xe) (hc : X.calm = true) (hi : PI X tg iter (tI X.K W it)) (hg : DG X tg T) (hb : PSs X body (sD X.K W m))
    (hs : ∀ x, foldedSetIterable iter X.env x = pure x := by intro _; rfl) : PS X (.For tg iter body [] pos) (sD X.K W (forS it T.k m)) := monoS (ps_for hp hc hi hg.pg hb hs) fun D σ H q => by
  obtain ⟨B, F, as, S, r, o⟩ := q
  refine ⟨B, F, as, S, r, Out.mono (OutS.stmt o) fun ds F1 H1 as1 S1 ⟨r1, e1, o1⟩ J w => ?_⟩
  refine ⟨fun i m' σ' H' => m' = ds.length - i ∧ i ≤ ds.length ∧ ∃ F2 as2 S2, Ext F1 F2 as1 as2 ∧ Rep X.K B F2 H' as2 σ' S2 ∧ OutS X.K W B F2 as2 (forL T.k m (ds.drop i) S2) D, ⟨_, rfl, Nat.zero_le _, F1, as1, S1, Ext.refl, r1, o1⟩, ?_⟩
  rintro i m' σ' H' ⟨rfl, hle, F2, as2, S2, e2, r2, o2⟩
  by_cases hlt : i < ds.length
  · refine .inr ⟨w.go i H' hlt (e2.1.trans r2.fh), ?_⟩
    obtain ⟨d, hd⟩ : ∃ d, ds[i]? = some d := ⟨ds[i], by simp [hlt]⟩
    have hdrop : ds.drop i = d :: ds.drop (i + 1) := by
      rw [List.drop_eq_getElem_cons hlt]
      congr 1
      rw [List.getElem?_eq_getElem hlt] at hd
      exact Option.some.inj hd
    rw [hdrop] at o2
    refine ⟨fun σ3 H3 => ∃ F2 as2 S2, Ext F1 F2 as1 as2 ∧ Rep X.K B F2 H3 as2 σ3 S2 ∧ OutS X.K W B F2 as2 (forL T.k m (ds.drop (i + 1)) S2) D, fun σ3 H3 h => ⟨_, by omega, rfl, hlt, h⟩, fun x H3 hy => ?_⟩
    obtain ⟨d', hd', hx⟩ := w.yld i H' x H3 F2 hlt e2.1 r2.fh hy
    rw [hd] at hd'
    cases hd'
    obtain ⟨F3, e3, r3, hv3⟩ : ∃ F3, Ext F2 F3 as2 as2 ∧ Rep X.K B F3 H3 as2 σ' S2 ∧ Rp X.K F3 x d := by
      rcases hx with ⟨rfl, hx⟩ | ⟨T, ob, hT, rfl, hx⟩
      · exact ⟨F2, Ext.refl, r2, hx⟩
      · obtain ⟨ee, rr⟩ := r2.new hT ob
        exact ⟨_, ee, rr, hx⟩
    unfold forL at o2
    cases hk : T.k d S2 with
    | none => rw [hk] at o2; exact o2.elim
    | some S3 =>
      rw [hk] at o2
      dsimp only at o2
      refine T.run r3 hv3 hk fun σ4 r4 _ => ⟨B, F3, as2, S3, r4, ?_⟩
      revert o2
      cases m S3 with
      | nx S4 => exact fun o2 σ5 F5 H5 as5 e5 r5 => ⟨F5, as5, S4, e2.trans (e3.trans e5), r5, OutS.ext o2 (e3.trans e5)⟩
      | ct S4 => exact fun o2 σ5 F5 H5 as5 e5 r5 => ⟨F5, as5, S4, e2.trans (e3.trans e5), r5, OutS.ext o2 (e3.trans e5)⟩
      | bk S4 => exact fun o2 σ5 F5 H5 as5 e5 r5 => o2 σ5 F5 H5 as5 (e3.trans e5) r5
      | rt d S4 => exact fun o2 σ5 F5 H5 as5 v e5 r5 => o2 σ5 F5 H5 as5 v (e3.trans e5) r5
      | er e S4 => exact fun o2 σ5 F5 H5 as5 dx fs e5 r5 => o2 σ5 F5 H5 as5 dx fs (e3.trans e5) r5
      | no => exact fun o2 => o2
  · have e : i = ds.length := by omega
    subst e
    rw [List.drop_length] at o2
    exact .inl ⟨w.stop H' (e2.1.trans r2.fh), o2 σ' F2 H' as2 Ext.refl r2⟩
def whl (p : Ms → R Bool) (body : Ms → O) : Nat → Ms → O
  | 0, _ => .no
  | n + 1, S => (p S).stmt fun b S1 => if b then (match body S1 with
      | .nx S2 => whl p body n S2
      | .ct S2 => whl p body n S2
      | .bk S2 => .nx S2
      | .rt d S2 => .rt d S2
      | .er e S2 => .er e S2
      | .no => .no) else .nx S1
/-- fuel: how many turns it may take, told by the state at its start -/
def whileS (fuel : Ms → Nat) (p : Ms → R Bool) (body : Ms → O) : Ms → O := fun S => whl p body (fuel S) S
theorem ds_while {fuel : Ms → Nat} {p : Ms → R Bool} {body : List Stmt} (hp : PassesOwn (model X.prog X.w) X.A X.env X.xe) (hc : PT X c (tT X.K W p)) (hb : PSs X body (sD X.K W m)) : PS X (.While c body [] pos) (sD X.K W (whileS fuel p m)) := monoS (ps_while hp hc hb) fun D σ H q => by
  obtain ⟨B, F, as, S, r, o⟩ := q
  refine ⟨fun n σ' H' => ∃ F2 as2 S2, Rep X.K B F2 H' as2 σ' S2 ∧ OutS X.K W B F2 as2 (whl p m n S2) D, ⟨fuel S, F, as, S, r, o⟩, ?_⟩
  rintro n σ' H' ⟨F2, as2, S2, r2, o2⟩
  cases n with
  | zero => exact o2.elim
  | succ n =>
    unfold whl at o2
    refine ⟨B, F2, as2, S2, r2, Out.mono (OutS.stmt o2) fun b F3 H3 as3 S3 ⟨r3, e3, o3⟩ => ?_⟩
    cases b with
    | true =>
      show ∃ N : L2.St → Hp → Prop, _
      refine ⟨fun σ4 H4 => ∃ F2 as2 S2, Rep X.K B F2 H4 as2 σ4 S2 ∧ OutS X.K W B F2 as2 (whl p m n S2) D, fun σ4 H4 h => ⟨n, Nat.lt_succ_self n, h⟩, ?_⟩
      refine ⟨B, F3, as3, S3, r3, ?_⟩
      simp only [if_true] at o3
      revert o3
      cases m S3 with
      | nx S4 => exact fun o3 σ5 F5 H5 as5 e5 r5 => ⟨F5, as5, S4, r5, OutS.ext o3 e5⟩
      | ct S4 => exact fun o3 σ5 F5 H5 as5 e5 r5 => ⟨F5, as5, S4, r5, OutS.ext o3 e5⟩
      | bk S4 => exact fun o3 σ5 F5 H5 as5 e5 r5 => o3 σ5 F5 H5 as5 e5 r5
      | rt d S4 => exact fun o3 => o3
      | er e S4 => exact fun o3 => o3
      | no => exact fun o3 => o3
    | false => exact o3 _ _ _ _ Ext.refl r3
end
end Lq

namespace Lq
open PySem PySem.Spec PyProof.Rows L2
open Evl (Ex)
/-! ### what a def is: a total function on data -/
inductive Fo where | ok (d : Dt) | er (e : Er) | no
inductive FoM where | ok (d : Dt) (xs : List Dt) | er (e : Er) (xs : List Dt) | no
def Kept (B F' H' : Hp) : Prop := ∀ a o, B a = some o → H' a = some o ∧ F' a = none ∧ NT o
def spD (K : PySem.W.Frag) (n : Nat) (f : List Dt → Fo) : Sp := fun vs H Q E => ∃ B F ds, ds.length = n ∧ Ex F H ∧ Kept B F H ∧ RpA K F vs ds ∧ match f ds with
  | .ok d => ∀ v F' H', Ex F F' → Ex F' H' → Kept B F' H' → Rp K F' v d → Q v H'
  | .er e => ∀ F' H' dx fs, Ex F F' → Ex F' H' → Kept B F' H' → DictR H' dx fs → fs.map (·.1) = e.ks → RpA K F' (fs.map (·.2)) e.ds → E (.ref e.C) dx H'
  | .no => False
/-- the first argument a mutable list, that the def may change -/
def spM (K : PySem.W.Frag) (n : Nat) (f : List Dt → List Dt → FoM) : Sp := fun vs H Q E => ∃ B F a ws xs vs' ds, vs = .ref a :: vs' ∧ ds.length = n ∧ Ex F H ∧ Kept B F H ∧ B a = none ∧ F a = none ∧ H a = some (.lst ws) ∧ RpA K F ws xs ∧ RpA K F vs' ds ∧ match f xs ds with
  | .ok d ys => ∀ v F' H' us, Ex F F' → Ex F' H' → Kept B F' H' → F' a = none → H' a = some (.lst us) → RpA K F' us ys → Rp K F' v d → Q v H'
  | .er e ys => ∀ F' H' us dx fs, Ex F F' → Ex F' H' → Kept B F' H' → F' a = none → H' a = some (.lst us) → RpA K F' us ys → DictR H' dx fs → fs.map (·.1) = e.ks → RpA K F' (fs.map (·.2)) e.ds → E (.ref e.C) dx H'
  | .no => False

def O.fo : O → Fo | .nx _ => .ok .non | .rt d _ => .ok d | .er e _ => .er e | _ => .no
def st0 (n : Nat) (ds : List Dt) : Ms := { sl := ds.map Sv.im ++ List.replicate (n - ds.length) .no, mo := [] }
/-- a body as a function of its arguments; n slots -/
def runD (n : Nat) (m : Ms → O) (ds : List Dt) : Fo := (m (st0 n ds)).fo
def mo0 (S : Ms) : Option (List Dt) := match S.mo[0]? with | some (Mo.ob (.ls xs)) => some xs | _ => none
def O.foM : O → FoM
  | .nx S => (match mo0 S with | some xs => .ok .non xs | none => .no)
  | .rt d S => (match mo0 S with | some xs => .ok d xs | none => .no)
  | .er e S => (match mo0 S with | some xs => .er e xs | none => .no)
  | _ => .no
def stM (n : Nat) (xs ds : List Dt) : Ms := { sl := .mu 0 :: (ds.map Sv.im ++ List.replicate (n - 1 - ds.length) .no), mo := [.ob (.ls xs)] }
def runM (n : Nat) (m : Ms → O) (xs ds : List Dt) : FoM := (m (stM n xs ds)).foM

theorem paired_im {K : PySem.W.Frag} {F : Hp} {as : List Addr} : ∀ {vs : List V} {ds : List Dt}, RpA K F vs ds → ∀ {l : List (Option V)} {r : List Sv}, Paired (SvR K F as) l r → Paired (SvR K F as) (vs.map some ++ l) (ds.map Sv.im ++ r)
  | _, _, .nil, _, _, h => h
  | _, _, .cons h1 h2, _, _, h => .cons h1 (paired_im h2 h)
theorem paired_no {K : PySem.W.Frag} {F : Hp} {as : List Addr} : ∀ n : Nat, Paired (SvR K F as) (List.replicate n none) (List.replicate n Sv.no)
  | 0 => .nil
  | n + 1 => .cons trivial (paired_no n)
section
variable {P : Program} {w : World} {K : PySem.W.Frag} {mg : Str → Option Value} {base : Heap}
/-- THE RULE for a def of pure data -/
theorem defOk {x qual : Str} {st : Stmt} {f : Addr} {fd : FuncData} {N ps : List Str} {k : Nat} {m : Ms → O} (F : Fun K x qual st f fd) (S : FnScope N ps (defScope st))
    (hbody : ∀ (cdv : Value) (A : Around) (outer : List Env) (s : Shared) (H : Hp) (E : XK), Room k (A.deeper (envOfC qual (defScope st) s.heap.objs.size f cdv)) →
      PSs (cxOf (L2.CX P w) P w K mg base N qual (defScope st) f cdv A outer s H E) (defBody st) (sD K (fun cls d _ H' => E cls d H') m)) :
    FnOk P w K mg base (L2.CX P w) (k + 1) f fd ps (spD K ps.length (runD N.length m)) := by
  refine F.okX S (fun vs H Q E h => ?_) (fun cdv A outer s H vs Q E hr h => ⟨_, hbody cdv A outer s H E hr, ?_⟩)
  · obtain ⟨B, F, ds, hn, _, _, hv, _⟩ := h
    rw [hv.length, hn]
  · obtain ⟨B, F, ds, hn, e, kp, hv, q⟩ := h
    refine ⟨B, F, [], st0 N.length ds, ⟨e, kp, ?_, .nil, List.nodup_nil⟩, ?_⟩
    · unfold L2.start st0
      rw [hv.length]
      exact paired_im hv (paired_no _)
    · unfold runD at q
      revert q
      cases m (st0 N.length ds) with
      | nx S' => exact fun q σ' F' H' as' e' r => q .non F' H' e'.1 r.fh r.bh .non
      | rt d S' => exact fun q σ' F' H' as' v e' r hv => q v F' H' e'.1 r.fh r.bh hv
      | er e S' => exact fun q σ' F' H' as' dx fs e' r => q F' H' dx fs e'.1 r.fh r.bh
      | bk S' => exact fun q => q.elim
      | ct S' => exact fun q => q.elim
      | no => exact fun q => q
theorem defOkM {x qual : Str} {st : Stmt} {f : Addr} {fd : FuncData} {N ps : List Str} {p0 : Str} {k : Nat} {m : Ms → O} (F : Fun K x qual st f fd) (S : FnScope N (p0 :: ps) (defScope st))
    (hbody : ∀ (cdv : Value) (A : Around) (outer : List Env) (s : Shared) (H : Hp) (E : XK), Room k (A.deeper (envOfC qual (defScope st) s.heap.objs.size f cdv)) →
      PSs (cxOf (L2.CX P w) P w K mg base N qual (defScope st) f cdv A outer s H E) (defBody st) (sD K (fun cls d _ H' => E cls d H') m)) :
    FnOk P w K mg base (L2.CX P w) (k + 1) f fd (p0 :: ps) (spM K ps.length (runM N.length m)) := by
  refine F.okX S (fun vs H Q E h => ?_) (fun cdv A outer s H vs Q E hr h => ⟨_, hbody cdv A outer s H E hr, ?_⟩)
  · obtain ⟨B, F, a, ws, xs, vs', ds, rfl, hn, _, _, _, _, _, _, hv, _⟩ := h
    rw [List.length_cons, List.length_cons, hv.length, hn]
  · obtain ⟨B, F, a, ws, xs, vs', ds, rfl, hn, e, kp, b0, f0, ha, hw, hv, q⟩ := h
    have hend : ∀ {F' H' : Hp} {as' : List Addr} {σ' : L2.St} {S' : Ms} {ys : List Dt}, Ext F F' [a] as' → Rep K B F' H' as' σ' S' → mo0 S' = some ys → F' a = none ∧ ∃ us, H' a = some (.lst us) ∧ RpA K F' us ys := by
      intro F' H' as' σ' S' ys e' r hm
      obtain ⟨_, t, rfl⟩ := e'
      unfold mo0 at hm
      cases h0 : S'.mo[0]? with
      | none => rw [h0] at hm; cases hm
      | some mm =>
        rw [h0] at hm
        cases mm with
        | ob c =>
         cases c with
         | dc kvs => cases hm
         | ls zs =>
          cases hm
          obtain ⟨p, hp, q1, q2, ob, q3, q4⟩ := pairedGet r.mo h0
          cases hp
          cases q4
          exact ⟨q2, _, q3, by assumption⟩
        | fz d => cases hm
    refine ⟨B, F, [a], stM N.length xs ds, ⟨e, kp, ?_, .cons ⟨b0, f0, _, ha, .ls hw⟩ .nil, by simp⟩, ?_⟩
    · have hl : ps.length + 1 ≤ N.length := by
        have := congrArg List.length S.pre
        rw [List.length_take, List.length_cons] at this
        omega
      unfold L2.start stM
      rw [List.map_cons, List.length_cons, hv.length]
      have e2 : N.length - (ds.length + 1) = N.length - 1 - ds.length := by omega
      rw [e2]
      exact .cons ⟨a, rfl, rfl⟩ (paired_im hv (paired_no _))
    · unfold runM at q
      revert q
      cases m (stM N.length xs ds) with
      | nx S' =>
        intro q
        unfold O.foM at q
        dsimp only at q
        cases hm : mo0 S' with
        | none => rw [hm] at q; exact q.elim
        | some ys =>
          rw [hm] at q
          intro σ' F' H' as' e' r
          obtain ⟨z1, us, z2, z3⟩ := hend e' r hm
          exact q .non F' H' us e'.1 r.fh r.bh z1 z2 z3 .non
      | rt d S' =>
        intro q
        unfold O.foM at q
        dsimp only at q
        cases hm : mo0 S' with
        | none => rw [hm] at q; exact q.elim
        | some ys =>
          rw [hm] at q
          intro σ' F' H' as' v e' r hv
          obtain ⟨z1, us, z2, z3⟩ := hend e' r hm
          exact q v F' H' us e'.1 r.fh r.bh z1 z2 z3 hv
      | er e S' =>
        intro q
        unfold O.foM at q
        dsimp only at q
        cases hm : mo0 S' with
        | none => rw [hm] at q; exact q.elim
        | some ys =>
          rw [hm] at q
          intro σ' F' H' as' dx fs e' r
          obtain ⟨z1, us, z2, z3⟩ := hend e' r hm
          exact q F' H' us dx fs e'.1 r.fh r.bh z1 z2 z3
      | bk S' => exact fun q => q.elim
      | ct S' => exact fun q => q.elim
      | no => exact fun q => q.elim
end
/-- the same promise of another function that says more -/
theorem FnOk.toF {P : Program} {w : World} {K : PySem.W.Frag} {mg : Str → Option Value} {base : Heap} {CX : CXT} {k : Nat} {f : Addr} {fd : FuncData} {ps : List Str} {n : Nat} {g h : List Dt → Fo} (F : FnOk P w K mg base CX k f fd ps (spD K n g)) (e : ∀ ds, h ds ≠ .no → g ds = h ds) :
    FnOk P w K mg base CX k f fd ps (spD K n h) := F.imp fun vs H Q E ⟨B, F, ds, hn, h1, h2, h3, h4⟩ => ⟨B, F, ds, hn, h1, h2, h3, by
      have : h ds ≠ .no := by intro z; rw [z] at h4; exact h4
      rw [e ds this]
      exact h4⟩
theorem FnOk.toM {P : Program} {w : World} {K : PySem.W.Frag} {mg : Str → Option Value} {base : Heap} {CX : CXT} {k : Nat} {f : Addr} {fd : FuncData} {ps : List Str} {n : Nat} {g h : List Dt → List Dt → FoM} (F : FnOk P w K mg base CX k f fd ps (spM K n g)) (e : ∀ xs ds, h xs ds ≠ .no → g xs ds = h xs ds) :
    FnOk P w K mg base CX k f fd ps (spM K n h) := F.imp fun vs H Q E ⟨B, F, a, ws, xs, vs', ds, h1, h2, h3, h4, h5, h6, h7, h8, h9, h10⟩ => ⟨B, F, a, ws, xs, vs', ds, h1, h2, h3, h4, h5, h6, h7, h8, h9, by
      have : h xs ds ≠ .no := by intro z; rw [z] at h10; exact h10
      rw [e xs ds this]
      exact h10⟩

/-! ### calls -/
/-- what a caller holds: its callers' things and its own mutable objects -/
def holdB (B F H : Hp) (as : List Addr) : Hp := fun a => if a ∈ as then (if F a = none then H a else none) else B a
theorem hold_kept {K : PySem.W.Frag} {B F H : Hp} {as : List Addr} {σ : L2.St} {S : Ms} (r : Rep K B F H as σ S) : Kept (holdB B F H as) F H := fun a o h => by
  unfold holdB at h
  split at h
  · split at h
    · rename_i hm q
      obtain ⟨i, hi⟩ := List.mem_iff_getElem?.mp hm
      obtain ⟨m, hmm, z⟩ := pairedGetL r.mo hi
      cases m with
      | ob c =>
        obtain ⟨z1, z2, u, z3, z4⟩ := z
        rw [z3] at h
        cases h
        exact ⟨z3, q, z4.nt⟩
      | fz d =>
        obtain ⟨⟨u, z1⟩, _⟩ := z
        rw [q] at z1; cases z1
    · cases h
  · exact r.bh a o h
theorem hold_back {K : PySem.W.Frag} {B F H F' H' : Hp} {as : List Addr} {σ : L2.St} {S : Ms} (r : Rep K B F H as σ S) (e : Ex F F') (e2 : Ex F' H') (k : Kept (holdB B F H as) F' H') : Rep K B F' H' as σ S := by
  have ee : Ext F F' as as := ⟨e, [], by simp⟩
  refine ⟨e2, fun a o h => ?_, r.sl.mono fun _ _ q => SvR.up q ee, ?_, r.nd⟩
  · refine k a o ?_
    unfold holdB
    split
    · rename_i hm
      obtain ⟨i, hi⟩ := List.mem_iff_getElem?.mp hm
      obtain ⟨m, hmm, z⟩ := pairedGetL r.mo hi
      obtain ⟨b1, b2, _⟩ := r.bh a o h
      cases m with
      | ob ds =>
        obtain ⟨z1, _⟩ := z
        rw [z1] at h; cases h
      | fz d =>
        obtain ⟨⟨u, z1⟩, _⟩ := z
        rw [b2] at z1; cases z1
    · exact h
  · have : ∀ {xs : List Addr} {ys : List Mo}, (∀ a ∈ xs, a ∈ as) → Paired (MoR K B F H) xs ys → Paired (MoR K B F' H') xs ys := by
      intro xs ys hn z
      induction z with
      | nil => exact .nil
      | @cons a b l1 l2 z zs ih =>
        refine .cons ?_ (ih fun a ha => hn a (List.mem_cons_of_mem _ ha))
        cases b with
        | ob ds =>
          obtain ⟨z1, z2, ws, z3, z4⟩ := z
          obtain ⟨q1, q2, _⟩ := k a ws (by unfold holdB; rw [if_pos (hn _ List.mem_cons_self), if_pos z2]; exact z3)
          exact ⟨z1, q2, ws, q1, z4.up e⟩
        | fz d =>
          obtain ⟨⟨u, z1⟩, z2⟩ := z
          exact ⟨⟨u, e _ _ z1⟩, z2.up e⟩
    exact this (fun _ h => h) r.mo
def funE (n : Nat) (fs : Ms → R (List Dt)) (f : List Dt → Fo) : Ms → R Dt := fun S => (fs S).bind fun ds S1 => if ds.length = n then (match f ds with | .ok d => .ok d S1 | .er e => .er e S1 | .no => .no) else .no
section
variable {X : Cx} {W : WX} {e o : Expr} {es : List Expr} {fs : Ms → R (List Dt)} {x : Str} {p pos : Pos} {k n i : Nat} {f : Addr} {fd : FuncData} {ps : List Str} {g : List Dt → Fo} {gm : List Dt → List Dt → FoM}
theorem call_run {K : PySem.W.Frag} {σ : L2.St} {H : Hp} {Q : VK} (q : tD K W (funE n fs g) σ H Q) : tCallS (spD K n g) (WE W) (tA K W fs) σ H Q := by
  obtain ⟨B, F, as, S, r, o⟩ := q
  refine ⟨B, F, as, S, r, Out.mono (Out.bind o) fun ds F1 H1 as1 S1 ⟨r1, e1, o1⟩ vs hv => ?_⟩
  split at o1
  · rename_i hn
    refine ⟨holdB B F1 H1 as1, F1, ds, hn, r1.fh, hold_kept r1, hv, ?_⟩
    cases hg : g ds with
    | ok d =>
      rw [hg] at o1
      exact fun v F' H' ee eh kp hv' => o1 F' H' as1 ⟨ee, [], by simp⟩ (hold_back r1 ee eh kp) v hv'
    | er x =>
      rw [hg] at o1
      exact fun F' H' dx fs ee eh kp h1 h2 h3 => o1 F' H' as1 dx fs ⟨ee, [], by simp⟩ (hold_back r1 ee eh kp) h1 h2 h3
    | no => rw [hg] at o1; exact o1.elim
  · exact o1.elim
theorem de_call (G : FnOk X.prog X.w X.K X.mg X.base (L2.CX X.prog X.w) k f fd ps (spD X.K n g)) (tk : Takes X W) (hr : Room k X.A) (hg : Gl X x) (hm : X.mg x = some (.ref f)) (hk : PySem.W.keepIn X.K (.ref f) = true) (hb : Binds X.K fd ps [])
    (ha : PA X (e :: es) (tA X.K W fs)) (hdb : (x == ("__debug__" : Str)) = false := by decide) (he : starEach (e :: es) X.env = (false, eval e X.env) :: starEach es X.env := by rfl) (hpl : (backTo pos (starEach es X.env)).any (·.1) = false := by rfl) :
    PE X (.Call (.Name x p) (e :: es) [] pos) (tD X.K W (funE n fs g)) := monoE (pe_callS G hr hg hm hk hb (fun σ => passAt tk σ) ha hdb he hpl) fun σ H Q q => call_run q
/-- f(xs, ..), xs a mutable local that f may change -/
def funM (n : Nat) (i : Nat) (fs : Ms → R (List Dt)) (f : List Dt → List Dt → FoM) : Ms → R Dt := fun S => match muAt S i with
  | none => .no
  | some _ => (fs S).bind fun ds S1 => match muAt S1 i with
    | some (k, xs) => if ds.length = n then (match f xs ds with | .ok d ys => .ok d { S1 with mo := S1.mo.set k (.ob (.ls ys)) } | _ => .no) else .no
    | none => .no
theorem callM_run {K : PySem.W.Frag} {σ : L2.St} {H : Hp} {Q : VK} (q : tD K W (funM n i fs gm) σ H Q) : tCallS (spM K n gm) (WE W) (tCons (tVar i) (tA K W fs)) σ H Q := by
  obtain ⟨B, F, as, S, r, o⟩ := q
  unfold funM at o
  cases hm0 : muAt S i with
  | none => rw [hm0] at o; exact o.elim
  | some km =>
    rw [hm0] at o
    obtain ⟨k0, xs0⟩ := km
    obtain ⟨p, vs0, hp, hmo0, hp0, _, _, hH0, hv0⟩ := muAt_rp r hm0
    refine ⟨_, hp, ?_⟩
    refine ⟨B, F, as, S, r, Out.mono (Out.bind o) fun ds F1 H1 as1 S1 ⟨r1, e1, o1⟩ vs hv => ?_⟩
    cases hm : muAt S1 i with
    | none => rw [hm] at o1; exact o1.elim
    | some km =>
      rw [hm] at o1
      obtain ⟨k, xs⟩ := km
      obtain ⟨p', ws, hp', hmo, ha, hB, hF, hH, hws⟩ := muAt_rp r1 hm
      rw [hp] at hp'
      cases hp'
      dsimp only at o1
      split at o1
      · rename_i hn
        have hin : p ∈ as1 := List.mem_of_getElem? ha
        -- what is held besides
        refine ⟨fun a => if a = p then none else holdB B F1 H1 as1 a, F1, p, ws, xs, vs, ds, rfl, hn, r1.fh, fun a u hu => ?_, if_pos rfl, hF, hH, hws, hv, ?_⟩
        · dsimp only at hu
          by_cases q : a = p
          · rw [if_pos q] at hu; cases hu
          · rw [if_neg q] at hu
            exact hold_kept r1 a u hu
        · cases hg : gm xs ds with
          | ok d ys =>
            rw [hg] at o1
            intro v F' H' us ee eh kp fa ha' hus hv'
            dsimp only at o1
            have ex : Ext F1 F' as1 as1 := ⟨ee, [], by simp⟩
            refine o1 F' H' as1 ex ⟨eh, fun a u hu => ?_, r1.sl.mono fun _ _ q => SvR.up q ex, ?_, r1.nd⟩ v hv'
            · have hne : a ≠ p := by
                rintro rfl
                rw [hB] at hu; cases hu
              refine kp a u ?_
              show (if a = p then none else holdB B F1 H1 as1 a) = _
              rw [if_neg hne]
              unfold holdB
              split
              · rename_i hm2
                obtain ⟨j, hj⟩ := List.mem_iff_getElem?.mp hm2
                obtain ⟨mm, hmm, z⟩ := pairedGetL r1.mo hj
                obtain ⟨b1, b2, _⟩ := r1.bh a u hu
                cases mm with
                | ob ds =>
                  obtain ⟨z1, _⟩ := z
                  rw [z1] at hu; cases hu
                | fz d =>
                  obtain ⟨⟨u', z1⟩, _⟩ := z
                  rw [b2] at z1; cases z1
              · exact hu
            · refine pairedAt k r1.mo (fun j b mm hj hb hmm q => ?_) fun b hb => ?_
              · cases mm with
                | ob ds =>
                  obtain ⟨z1, z2, us', z3, z4⟩ := q
                  have hne : b ≠ p := fun z => by
                    subst z
                    exact hj (nd_ix r1.nd hb ha)
                  obtain ⟨q1, q2, _⟩ := kp b us' (by
                    show (if b = p then none else holdB B F1 H1 as1 b) = _
                    rw [if_neg hne]
                    unfold holdB
                    rw [if_pos (List.mem_of_getElem? hb), if_pos z2]
                    exact z3)
                  exact ⟨z1, q2, us', q1, z4.up ee⟩
                | fz d =>
                  obtain ⟨⟨u', z1⟩, z2⟩ := q
                  exact ⟨⟨u', ee _ _ z1⟩, z2.up ee⟩
              · rw [ha] at hb
                cases hb
                exact ⟨hB, fa, _, ha', .ls hus⟩
          | er x ys => rw [hg] at o1; exact o1.elim
          | no => rw [hg] at o1; exact o1.elim
      · exact o1.elim
theorem de_callM (G : FnOk X.prog X.w X.K X.mg X.base (L2.CX X.prog X.w) k f fd ps (spM X.K n gm)) (tk : Takes X W) (hr : Room k X.A) (hg : Gl X x) (hm : X.mg x = some (.ref f)) (hk : PySem.W.keepIn X.K (.ref f) = true) (hb : Binds X.K fd ps [])
    (ho : PE X o (tVar i)) (ha : PA X es (tA X.K W fs)) (hs : starEach (o :: es) X.env = (false, eval o X.env) :: starEach es X.env := by rfl) (hdb : (x == ("__debug__" : Str)) = false := by decide) (hpl : (backTo pos (starEach es X.env)).any (·.1) = false := by rfl) :
    PE X (.Call (.Name x p) (o :: es) [] pos) (tD X.K W (funM n i fs gm)) := monoE (pe_callS G hr hg hm hk hb (fun σ => passAt tk σ) (pa_cons ho ha hs) hdb hs hpl) fun σ H Q q => callM_run q
end
end Lq

namespace Lq
open PySem PySem.Spec PyProof.Rows L2
open Evl (Ex)
/-- a def that may be called by its name -/
def Cal (P : Program) (w : World) (K : PySem.W.Frag) (mg : Str → Option Value) (base : Heap) (x : Str) (k : Nat) (ps : List Str) (sp : Sp) : Prop :=
  ∃ f fd, FnOk P w K mg base (L2.CX P w) k f fd ps sp ∧ mg x = some (.ref f) ∧ PySem.W.keepIn K (.ref f) = true ∧ Binds K fd ps []
theorem hu65_of {A : Around} {k : Nat} (hr : Room k A) : A.units + 65 < cLine := by have := hr.un; omega
section
variable {X : Cx} {W : WX} {e o : Expr} {es : List Expr} {fs : Ms → R (List Dt)} {x : Str} {p pos : Pos} {j k n i : Nat} {ps : List Str} {g : List Dt → Fo} {gm : List Dt → List Dt → FoM}
theorem de_cal (c : Cal X.prog X.w X.K X.mg X.base x k ps (spD X.K n g)) (tk : Takes X W) (hr : Room j X.A) (hk : k ≤ j) (hg : Gl X x)
    (ha : PA X (e :: es) (tA X.K W fs)) (hdb : (x == ("__debug__" : Str)) = false := by decide) (he : starEach (e :: es) X.env = (false, eval e X.env) :: starEach es X.env := by rfl) (hpl : (backTo pos (starEach es X.env)).any (·.1) = false := by rfl) :
    PE X (.Call (.Name x p) (e :: es) [] pos) (tD X.K W (funE n fs g)) := by
  obtain ⟨f, fd, G, hm, kp, hb⟩ := c
  exact de_call G tk (hr.mono hk) hg hm kp hb ha hdb he hpl
theorem de_calM (c : Cal X.prog X.w X.K X.mg X.base x k ps (spM X.K n gm)) (tk : Takes X W) (hr : Room j X.A) (hk : k ≤ j) (hg : Gl X x)
    (ho : PE X o (tVar i)) (ha : PA X es (tA X.K W fs)) (hs : starEach (o :: es) X.env = (false, eval o X.env) :: starEach es X.env := by rfl) (hdb : (x == ("__debug__" : Str)) = false := by decide) (hpl : (backTo pos (starEach es X.env)).any (·.1) = false := by rfl) :
    PE X (.Call (.Name x p) (o :: es) [] pos) (tD X.K W (funM n i fs gm)) := by
  obtain ⟨f, fd, G, hm, kp, hb⟩ := c
  exact de_callM G tk (hr.mono hk) hg hm kp hb ho ha hs hdb hpl
end
end Lq

namespace Lq
open PySem PySem.Spec PyProof.Rows L2
open Evl (Ex)
/-! ### words: tuples of ints -/
def Wd (ns : List Int) : Dt := .tup (ns.map .int)
def wordOf : Dt → Option (List Int) | .tup ds => intsOf ds | _ => none
theorem wordOf_eq {d : Dt} {ns : List Int} (h : wordOf d = some ns) : d = Wd ns := by
  cases d <;> simp only [wordOf] at h <;> try cases h
  rw [intsOf_eq h]; rfl
@[simp] theorem wordOf_Wd (ns : List Int) : wordOf (Wd ns) = some ns := intsOf_map ns
theorem Rp.wd {K : PySem.W.Frag} {F : Hp} {v : V} {ns : List Int} (h : Rp K F v (Wd ns)) : ∃ b, v = .ref b ∧ F b = some (.tup (ns.map V.int)) := by
  unfold Wd at h
  cases h with
  | tup hs ha =>
    rw [ha.intsv] at hs
    exact ⟨_, rfl, hs⟩
theorem wd_rp {K : PySem.W.Frag} {F : Hp} {b : Addr} {ns : List Int} (h : F b = some (.tup (ns.map V.int))) : Rp K F (.ref b) (Wd ns) := .tup h (RpA.ints ns)
theorem kv_ints (ns : List Int) : (ns.map (Sum.inl : Int → Key)).map kV = ns.map V.int := by
  rw [List.map_map]; rfl

/-! ### mutable dicts whose keys are words -/
def tM (K : PySem.W.Frag) (W : WX) (f : Ms → R Ob) : TE := fun σ H Q => ∃ B F as S, Rep K B F H as σ S ∧ Out K W B F as σ (f S) fun c F' H' as' _ => ∀ p o, F' p = none → B p = none → p ∉ as' → H' p = some o → ObR K F' o c → Q (.ref p) H'
def asgM (i : Nat) (f : Ms → R Ob) : Ms → O := fun S => (f S).stmt fun c S1 => .nx { sl := S1.sl.set i (.mu S1.mo.length), mo := S1.mo ++ [.ob c] }
theorem asgM_run {K : PySem.W.Frag} {W : WX} {fm : Ms → R Ob} {i : Nat} {D : Ends} {σ : L2.St} {H : Hp} (q : sD K W (asgM i fm) D σ H) : tM K W fm σ H fun x H1 => D.nx (σ.set i (some x)) H1 := by
  obtain ⟨B, F, as, S, r, o⟩ := q
  refine ⟨B, F, as, S, r, Out.mono (OutS.stmt o) fun c F1 H1 as1 S1 ⟨r1, e1, o1⟩ p o f1 f2 f3 hp hv => ?_⟩
  obtain ⟨ee, rr⟩ := r1.newL f1 f2 f3 hp hv
  refine o1 _ F1 H1 _ ee (rr.slot (s := .mu S1.mo.length) i ⟨p, ?_, rfl⟩)
  have hl : as1.length = S1.mo.length := r1.mo.length
  rw [← hl, List.getElem?_append_right (Nat.le_refl _), Nat.sub_self]
  rfl
/-- a new object that nothing else sees -/
theorem Rep.grow {K : PySem.W.Frag} {B F H : Hp} {as : List Addr} {σ : L2.St} {S : Ms} (r : Rep K B F H as σ S) {p : Addr} (hp : H p = none) (o : HO) : Rep K B F (upd H p o) as σ S := by
  refine ⟨fun a u e => ?_, fun a u e => ?_, r.sl, r.mo.mono fun a m q => ?_, r.nd⟩
  · rw [upd_ne (ne_of_none (r.fh _ _ e) hp)]
    exact r.fh _ _ e
  · obtain ⟨z1, z2, z3⟩ := r.bh a u e
    exact ⟨by rw [upd_ne (ne_of_none z1 hp)]; exact z1, z2, z3⟩
  · cases m with
    | ob ds =>
      obtain ⟨z1, z2, ws, z3, z4⟩ := q
      exact ⟨z1, z2, ws, by rw [upd_ne (ne_of_none z3 hp)]; exact z3, z4⟩
    | fz d => exact q
section
variable {X : Cx} {W : WX} {e : Expr} {pos pos' : Pos} {x : Str} {i : Nat} {fm : Ms → R Ob} {f g : Ms → R Dt}
theorem ds_setM (hN : X.N.Nodup) (hi : X.N[i]? = some x) (hx : Loc X.env.scope x) (he : PE X e (tM X.K W fm)) (hs : swapsWith e (some (.Name x pos')) pos.line X.env = pure false := by rfl) (hf : X.fn x = true ∨ X.env.scope.names.lookup x = some .local := by first | exact .inl rfl | exact .inr rfl | assumption) :
    PS X (.Assign [.Name x pos'] e pos) (sD X.K W (asgM i fm)) := monoS (ps_set hN hi hx he hs hf) fun D σ H q => asgM_run q
def dct0 : Ms → R Ob := fun S => .ok (.dc []) S
theorem dm_new : PE X (.Dict [] [] pos) (tM X.K W dct0) := monoE pe_dnewT fun σ H Q q => by
  obtain ⟨B, F, as, S, r, o⟩ := q
  intro p hp
  obtain ⟨f1, f2, f3⟩ := r.fresh hp
  exact o F _ as Ext.refl (r.grow hp _) p _ f1 f2 f3 upd_same (.dc .nil)
/-- {key: value}, the key a word -/
def dct1 (f g : Ms → R Dt) : Ms → R Ob := fun S => (f S).bind fun d S1 => (g S1).bind fun e S2 => match wordOf d with | some ns => .ok (.dc [(ns, e)]) S2 | none => .no
/-- the pairs of a display whose one key is a tuple; the dict stands empty meanwhile -/
def tDispT (tk tv : TE) : TE := fun σ H Q => ∀ p, H p = none → tk σ (upd H p (.dT [])) fun x H1 => tv σ H1 fun y H2 => H2 p = some (.dT []) ∧ ∃ b k, x = .ref b ∧ H2 b = some (.tup (k.map kV)) ∧ Q (.ref p) (upd H2 p (.dT [(k, y)]))
theorem pe_dispT {k v : Expr} {tk tv : TE} (hu : X.A.units < cLine) (hk : PE X k tk) (hv : PE X v tv) : PE X (.Dict [some k] [v] pos) (tDispT tk tv) := by
  refine ⟨fun pins s σ H Q I q => ?_⟩
  have hn := I.hok.fresh (Nat.le_refl s.heap.objs.size)
  have I1 := I.laid (a := s.heap.objs.size) (o := .dT []) (h' := s.heap.push { cls := .type "dict", data := .dict #[] }) (t' := s.toks) (fun _ _ q => Heap.get?_push_of_some _ q) (Nat.le_refl _) (dt_empty s.heap I.big)
  have hP : PPs X pos [some k] [v] [(tk, tv)] := pps_cons hk hv pps_nil
  have hn1 := pairTrees_length [some k] [v] X.env pos rfl rfl
  rw [arm_eval_Dict, zip_pairTrees [some k] [v] X.env pos rfl rfl, dictDisplay_pairs _ (by intro he; rw [he] at hn1; cases hn1) (by rw [hn1]; show 1 < 17; decide)]
  refine wpAny_bind (wpAny_standAt (wpAny_bind (wpAny_subDictH (knd := tupleKind (mixKind X.prog X.w)) (Q := fun d s' => wpAny (model X.prog X.w) X.A (pure (Value.ref d)) (EP X pins σ Q) X.xe s') hu (by rw [hn1]; show 1 ≤ 15; decide) ?_)))
  refine thn (hP.run pins _ σ _ (fun ps H2 => match ps with
    | [(x, y)] => H2 s.heap.objs.size = some (.dT []) ∧ ∃ b k, x = .ref b ∧ H2 b = some (.tup (k.map kV)) ∧ Q (.ref s.heap.objs.size) (upd H2 s.heap.objs.size (.dT [(k, y)]))
    | _ => False) I1 (q _ hn)) fun ws s2 ⟨ps, H2, I2, rel, hq⟩ => ?_
  split at hq
  · rename_i x y
    obtain ⟨e2, b, kk, e3, e4, q2⟩ := hq
    subst e3
    cases rel with
    | @cons _ wv _ _ h t =>
      cases t
      obtain ⟨w1, w2⟩ := wv
      obtain ⟨h1, h2⟩ := h
      have h1 : w1 = Value.ref b := h1
      subst h1
      obtain ⟨z, hd, xs, rel0, dd⟩ := dt_of I2.hok e2
      cases rel0
      refine ⟨[(kk, b, w2)], ⟨rfl, rfl, key_of I2.hok e4, trivial⟩, dd, fun h' tkk dd' hs => wpAny_pure ?_⟩
      obtain ⟨qo, es, ep, hq, h2', h3, h4, _, h5⟩ := dd'
      refine ⟨.ref s.heap.objs.size, _, d_write (ob := .dT [(kk, y)]) (t' := tkk) I2 (by rw [e2]; exact True.intro) hs ⟨qo, hq⟩ ⟨by show 1 ≤ sizeLine; rw [sizeLine_eq]; decide, hd, [(kk, b, w2)], .cons ⟨rfl, ?_, h2⟩ .nil, qo, es, ep, hq, h2', h3, h4, h5⟩, rfl, q2⟩
      rw [upd_ne (ne_of e4 e2 (fun z => nomatch z))]
      exact e4
  · exact hq.elim
theorem dm_one {k v : Expr} (hu : X.A.units < cLine) (hk : PE X k (tD X.K W f)) (hv : PE X v (tD X.K W g)) : PE X (.Dict [some k] [v] pos) (tM X.K W (dct1 f g)) := monoE (pe_dispT hu hk hv) fun σ H Q q => by
  obtain ⟨B, F, as, S, r, o⟩ := q
  intro p hp
  obtain ⟨f1, f2, f3⟩ := r.fresh hp
  -- the new dict stands by, held
  have r0 : Rep X.K (upd B p (.dT [])) F (upd H p (.dT [])) as σ S := (r.grow hp _).hold upd_same f1 f3 trivial
  refine ⟨_, F, as, S, r0, ?_⟩
  have o1 := Out.bind o
  unfold dct1 at o
  cases hf : f S with
  | no => rw [hf] at o; exact o.elim
  | er x S1 =>
    rw [hf] at o
    exact fun F' H' as' dx fs ee rr => o F' H' as' dx fs ee (rr.unhold f2).1
  | ok d S1 =>
    rw [hf] at o
    intro F1 H1 as1 e1 r1 x hx
    refine ⟨_, F1, as1, S1, r1, ?_⟩
    simp only [R.bind_ok] at o
    cases hg : g S1 with
    | no => rw [hg] at o; exact o.elim
    | er x S2 =>
      rw [hg] at o
      exact fun F' H' as' dx fs ee rr => o F' H' as' dx fs (e1.trans ee) (rr.unhold f2).1
    | ok e S2 =>
      rw [hg] at o
      intro F2 H2 as2 e2 r2 y hy
      obtain ⟨r3, hD, hF, hA⟩ := r2.unhold f2
      simp only [R.bind_ok] at o
      cases hw : wordOf d with
      | none => rw [hw] at o; exact o.elim
      | some ns =>
        rw [hw] at o
        have := wordOf_eq hw
        subst this
        obtain ⟨b, rfl, hb⟩ := (hx.up e2.1).wd
        refine ⟨hD, b, ns.map Sum.inl, rfl, by rw [kv_ints]; exact r3.fh _ _ hb, ?_⟩
        have r4 : Rep X.K B F2 (upd H2 p (.dT [(ns.map Sum.inl, y)])) as2 σ S2 := by
          refine ⟨fun a u hu => ?_, fun a u hu => ?_, r3.sl, ?_, r3.nd⟩
          · have n : a ≠ p := by
              rintro rfl
              rw [hF] at hu; cases hu
            rw [upd_ne n]
            exact r3.fh _ _ hu
          · have n : a ≠ p := by
              rintro rfl
              rw [f2] at hu; cases hu
            rw [upd_ne n]
            exact r3.bh a u hu
          · have : ∀ {xs : List Addr} {ys : List Mo}, (∀ a ∈ xs, a ≠ p) → Paired (MoR X.K B F2 H2) xs ys → Paired (MoR X.K B F2 (upd H2 p (.dT [(ns.map Sum.inl, y)]))) xs ys := by
              intro xs ys hn z
              induction z with
              | nil => exact .nil
              | @cons a b l1 l2 z zs ih =>
                refine .cons ?_ (ih fun a ha => hn a (List.mem_cons_of_mem _ ha))
                cases b with
                | ob ds =>
                  obtain ⟨z1, z2, ws, z3, z4⟩ := z
                  exact ⟨z1, z2, ws, by rw [upd_ne (hn _ List.mem_cons_self)]; exact z3, z4⟩
                | fz d => exact z
            exact this (fun a ha z => hA (z ▸ ha)) r3.mo
        exact o F2 _ as2 (e1.trans e2) r4 p _ hF f2 hA upd_same (.dc (.cons ⟨rfl, hy⟩ .nil))
/-- the dict that a slot holds -/
def dcAt (S : Ms) (i : Nat) : Option (Nat × List (List Int × Dt)) := match S.sl[i]? with | some (.mu k) => (match S.mo[k]? with | some (.ob (.dc kvs)) => some (k, kvs) | _ => none) | _ => none
theorem dcAt_rp {K : PySem.W.Frag} {B F H : Hp} {as : List Addr} {σ : L2.St} {S : Ms} (r : Rep K B F H as σ S) {k : Nat} {kvs : List (List Int × Dt)} (h : dcAt S i = some (k, kvs)) :
    ∃ p ws, σ[i]? = some (some (.ref p)) ∧ S.mo[k]? = some (.ob (.dc kvs)) ∧ as[k]? = some p ∧ B p = none ∧ F p = none ∧ H p = some (.dT ws) ∧ Paired (fun p q => p.1 = q.1.map Sum.inl ∧ Rp K F p.2 q.2) ws kvs := by
  unfold dcAt at h
  cases hs : S.sl[i]? with
  | none => rw [hs] at h; cases h
  | some s =>
    rw [hs] at h
    cases s with
    | mu k' =>
      dsimp only at h
      cases hm : S.mo[k']? with
      | none => rw [hm] at h; cases h
      | some mm =>
        rw [hm] at h
        cases mm with
        | ob c =>
          cases c with
          | ls xs => cases h
          | dc kvs =>
            cases h
            obtain ⟨ov, hv, z⟩ := pairedGet r.sl hs
            cases ov with
            | none => exact z.elim
            | some v =>
              obtain ⟨p, hp, rfl⟩ := z
              obtain ⟨p', hp', q1, q2, ob, q3, q4⟩ := pairedGet r.mo hm
              rw [hp] at hp'
              cases hp'
              cases q4
              exact ⟨p, _, hv, hm, hp, q1, q2, q3, by assumption⟩
        | fz d => cases h
    | _ => cases h
/-- kvs with d at the key -/
def putD (kvs : List (List Int × Dt)) (k : List Int) (d : Dt) : List (List Int × Dt) :=
  if (kvs.any fun kv => decide (kv.1 = k)) = true then kvs.map (fun kv => if kv.1 = k then (kv.1, d) else kv) else kvs ++ [(k, d)]
theorem inl_inj {a b : List Int} (h : a.map (Sum.inl : Int → Key) = b.map Sum.inl) : a = b :=
  List.map_inj_right (fun _ _ e => Sum.inl.inj e) |>.mp h
theorem put_rp {K : PySem.W.Frag} {F : Hp} {k : List Int} {v : V} {d : Dt} (hv : Rp K F v d) {ws : List (List Key × V)} {kvs : List (List Int × Dt)} (h : Paired (fun p q => p.1 = q.1.map Sum.inl ∧ Rp K F p.2 q.2) ws kvs) :
    Paired (fun p q => p.1 = q.1.map Sum.inl ∧ Rp K F p.2 q.2) (putK ws (k.map Sum.inl) v) (putD kvs k d) := by
  have ha : (ws.any fun kv => decide (kv.1 = k.map Sum.inl)) = kvs.any fun kv => decide (kv.1 = k) := by
    induction h with
    | nil => rfl
    | @cons p q ps qs hp _ ih =>
      rw [List.any_cons, List.any_cons, ih, hp.1]
      congr 1
      by_cases e : q.1 = k
      · simp [e]
      · have e2 : ¬ q.1.map (Sum.inl : Int → Key) = k.map Sum.inl := fun z => e (inl_inj z)
        simp [e, e2]
  unfold putK putD
  rw [ha]
  by_cases q : (kvs.any fun kv => decide (kv.1 = k)) = true
  · rw [if_pos q, if_pos q]
    clear q ha
    induction h with
    | nil => exact .nil
    | @cons p q ps qs hp _ ih =>
      rw [List.map_cons, List.map_cons]
      refine .cons ?_ ih
      by_cases e : q.1 = k
      · have e2 : p.1 = k.map Sum.inl := by rw [hp.1, e]
        rw [if_pos e2, if_pos e]
        exact ⟨hp.1, hv⟩
      · have e2 : ¬ p.1 = k.map Sum.inl := fun z => e (inl_inj (hp.1.symm.trans z))
        rw [if_neg e2, if_neg e]
        exact hp
  · rw [if_neg q, if_neg q]
    exact h.snoc ⟨rfl, hv⟩
/-- d[key] = value, d a mutable local -/
def setD (i : Nat) (f g : Ms → R Dt) : Ms → O := fun S => (f S).stmt fun e S1 => match dcAt S1 i with
  | none => .no
  | some _ => (g S1).stmt fun d S2 => match dcAt S2 i, wordOf d with
    | some (k, kvs), some ns => if kvs.length < 100000 then .nx { S2 with mo := S2.mo.set k (.ob (.dc (putD kvs ns e))) } else .no
    | _, _ => .no
theorem ds_setD {o ix : Expr} {ps : Pos} (hu : X.A.units + 1 < cLine) (ho : PE X o (tVar i)) (hx : PE X ix (tD X.K W g)) (he : PE X e (tD X.K W f)) (hs : swapsWith e (some (.Subscript o ix ps)) pos.line X.env = pure false := by rfl) :
    PS X (.Assign [.Subscript o ix ps] e pos) (sD X.K W (setD i f g)) := monoS (ps_dput hu ho hx he hs) fun D σ H q => by
  obtain ⟨B, F, as, S, r, o⟩ := q
  refine ⟨B, F, as, S, r, Out.mono (OutS.stmt o) fun e F1 H1 as1 S1 ⟨r1, e1, o1⟩ v hv => ?_⟩
  cases hm0 : dcAt S1 i with
  | none => rw [hm0] at o1; exact o1.elim
  | some km =>
    rw [hm0] at o1
    obtain ⟨k0, xs0⟩ := km
    obtain ⟨p, vs0, hp, hmo0, hp0, _, _, hH0, hv0⟩ := dcAt_rp r1 hm0
    refine ⟨_, hp, ?_⟩
    refine ⟨B, F1, as1, S1, r1, Out.mono (OutS.stmt o1) fun d F2 H2 as2 S2 ⟨r2, e2, o2⟩ w hw => ?_⟩
    cases hm : dcAt S2 i with
    | none => rw [hm] at o2; exact o2.elim
    | some km =>
      rw [hm] at o2
      obtain ⟨k, kvs⟩ := km
      obtain ⟨p', ws, hp', hmo, ha, _, _, hH, hvs⟩ := dcAt_rp r2 hm
      rw [hp] at hp'
      cases hp'
      cases hwo : wordOf d with
      | none => rw [hwo] at o2; exact o2.elim
      | some ns =>
        rw [hwo] at o2
        dsimp only at o2
        split at o2
        · rename_i hl
          have := wordOf_eq hwo
          subst this
          obtain ⟨b, rfl, hb⟩ := hw.wd
          refine ⟨p, _, rfl, DPut.t (k := ns.map Sum.inl) hH (by rw [kv_ints]; exact r2.fh _ _ hb) (Evl.sz_lt (by rw [Paired.length hvs]; exact hl)), ?_⟩
          exact o2 σ F2 _ as2 Ext.refl (r2.put hmo ha (.dc (put_rp (hv.up e2.1) hvs)))
        · exact o2.elim
/-- the keys that stand are known -/
theorem knowAll {K : PySem.W.Frag} {B F H : Hp} {as : List Addr} {σ : L2.St} {S : Ms} (r : Rep K B F H as σ S) : ∀ {kvs : List (List Int × Dt)} {bs : List Addr}, Paired (fun b (q : List Int × Dt) => H b = some (.tup (q.1.map V.int))) bs kvs →
    ∃ F', Ext F F' as as ∧ Rep K B F' H as σ S ∧ RpA K F' (bs.map V.ref) (kvs.map fun q => Wd q.1)
  | _, _, .nil => ⟨F, Ext.refl, r, .nil⟩
  | _, _, .cons (a := b) (b := q) h t => by
    obtain ⟨F1, e1, r1, h1⟩ := knowAll r t
    cases hf : F1 b with
    | some o =>
      have := r1.fh _ _ hf
      rw [h] at this
      cases this
      exact ⟨F1, e1, r1, .cons (wd_rp hf) h1⟩
    | none =>
      obtain ⟨e2, r2⟩ := r1.know h hf
      exact ⟨_, e1.trans e2, r2, .cons (wd_rp upd_same) (h1.up e2.1)⟩
theorem keys_rp {K : PySem.W.Frag} {F H : Hp} : ∀ {ws : List (List Key × V)} {kvs : List (List Int × Dt)} {bs : List Addr}, Paired (fun p q => p.1 = q.1.map Sum.inl ∧ Rp K F p.2 q.2) ws kvs → IsKeys H ws bs → Paired (fun b (q : List Int × Dt) => H b = some (.tup (q.1.map V.int))) bs kvs
  | _, _, _, .nil, hk => by cases hk; exact .nil
  | _, _, _, .cons h t, hk => by
    cases hk with
    | cons h1 h2 =>
      refine .cons ?_ (keys_rp t h2)
      rw [h.1, kv_ints] at h1
      exact h1
def keysL (i : Nat) : Ms → R (List Dt) := fun S => match dcAt S i with | some (_, kvs) => .ok (kvs.map fun q => Wd q.1) S | none => .no
theorem dn_keys {p : Pos} {o : Expr} (hc : X.calm = true) (hg : Gl X "list") (hm : X.mg "list" = none) (ho : PE X o (tVar i)) (hs : starEach [o] X.env = (false, eval o X.env) :: starEach [] X.env := by rfl) : PE X (.Call (.Name "list" p) [o] [] pos) (tN X.K W (keysL i)) :=
  monoE (pe_callTy (call_list_dT hc) hg hm (by decide +kernel) (pa_cons ho pa_nil hs) (by decide) (by decide) hs (by rfl)) fun σ H Q q => by
    obtain ⟨B, F, as, S, r, o⟩ := q
    unfold keysL at o
    cases hd : dcAt S i with
    | none => rw [hd] at o; exact o.elim
    | some km =>
      rw [hd] at o
      obtain ⟨k, kvs⟩ := km
      obtain ⟨d, ws, hp, hmo, ha, _, _, hH, hvs⟩ := dcAt_rp r hd
      refine ⟨_, hp, d, ws, rfl, .inl hH, fun l bs hl hk => ?_⟩
      have hb := keys_rp hvs hk
      obtain ⟨F1, e1, r1, hr⟩ := knowAll r hb
      obtain ⟨f1, f2, f3⟩ := r1.fresh hl
      exact o F1 _ as e1 (r1.grow hl _) l _ f1 f2 f3 upd_same hr
end
end Lq

/-! ### t[::-1] of a tuple -/
namespace HT
open PySem PySem.Spec PyProof.Rows L2
section
variable {prog : Program} {w : World} {A : Around} {E : Value → Shared → Prop} {s : Shared}
theorem rev_places (n : Nat) : (Builtin.Slice.sliceAdjust none none (-1) (n : Int)).1 = (n : Int) - 1 ∧ (Builtin.Slice.sliceAdjust none none (-1) (n : Int)).2 = -1 ∧ Builtin.Slice.slicePlaces ((n : Int) - 1) (-1) (-1) = n := by
  refine ⟨rfl, rfl, ?_⟩
  unfold Builtin.Slice.slicePlaces
  have h1 : ¬ (-1 : Int) > 0 := by omega
  simp only [h1, if_false, Int.neg_neg, Int.ediv_one]
  split <;> omega
theorem sliceApplied_rev {sl : Addr} {vl vu vs : Value} {n : Nat} {Q : Int × Int × Nat → Shared → Prop} (hs : s.heap.IsSliceOf sl vl vu vs) (pl : IsPart vl none) (pu : IsPart vu none) (ps : IsPart vs (some (-1)))
    (h : Q ((n : Int) - 1, -1, n) s) : wpAny (model prog w) A (Builtin.Slice.sliceApplied (.ref sl) (pure (n : Int))) Q E s := by
  obtain ⟨os, hos, hcs, hds⟩ := id hs
  unfold Builtin.Slice.sliceApplied Builtin.Slice.sliceFields
  refine wpAny_bind (wpAny_bind (wpAny_field hos hds (x := vl) rfl (wpAny_bind (wpAny_field hos hds (x := vu) rfl (wpAny_bind (wpAny_field hos hds (x := vs) rfl (wpAny_pure ?_)))))))
  refine wpAny_bind (slicePart_ ps ?_)
  show wpAny _ _ (if ((-1 : Int) == 0) = true then _ else _) _ _ s
  rw [if_neg (by decide)]
  refine wpAny_bind (slicePart_ pl (wpAny_bind (slicePart_ pu (wpAny_bind (wpAny_pure ?_)))))
  obtain ⟨h1, h2, h3⟩ := rev_places n
  show wpAny _ _ (pure ((Builtin.Slice.sliceAdjust none none (-1) (n : Int)).1, (-1 : Int), Builtin.Slice.slicePlaces (Builtin.Slice.sliceAdjust none none (-1) (n : Int)).1 (Builtin.Slice.sliceAdjust none none (-1) (n : Int)).2 (-1))) _ _ s
  rw [h1, h2, h3]
  exact wpAny_pure h
theorem pick_rev (xs : Array Value) : ((List.range xs.size).filterMap fun (m : Nat) => xs[(((xs.size : Int) - 1) + (m : Int) * (-1)).toNat]?).toArray = xs.toList.reverse.toArray := by
  congr 1
  apply List.ext_getElem?
  intro i
  have key : ∀ (k : Nat), k ≤ xs.size → ((List.range k).filterMap fun (m : Nat) => xs[(((xs.size : Int) - 1) + (m : Int) * (-1)).toNat]?) = xs.toList.reverse.take k := by
    intro k
    induction k with
    | zero => intro _; simp
    | succ k ih =>
      intro hk
      rw [List.range_succ, List.filterMap_append, ih (by omega)]
      have h1 : (((xs.size : Int) - 1) + (k : Int) * (-1)).toNat = xs.size - 1 - k := by omega
      have h2 : xs[(((xs.size : Int) - 1) + (k : Int) * (-1)).toNat]? = some (xs[xs.size - 1 - k]'(by omega)) := by
        rw [h1]; exact Array.getElem?_eq_getElem (by omega)
      rw [List.take_add_one]
      have h3 : xs.toList.reverse[k]? = some (xs[xs.size - 1 - k]'(by omega)) := by
        rw [List.getElem?_reverse (by simp; omega)]
        simp
      rw [h3]
      simp only [List.filterMap_cons, h2, List.filterMap_nil, Option.toList]
  rw [key xs.size (Nat.le_refl _), List.take_of_length_le (by simp)]
theorem getItem_tuple_rev {t sl : Addr} {items : Array Value} {vl vu vs : Value} {Q : Value → Shared → Prop} (ht : IsTup s.heap t items) (hs : s.heap.IsSliceOf sl vl vu vs) (pl : IsPart vl none) (pu : IsPart vu none) (ps : IsPart vs (some (-1)))
    (h : Q (.ref s.heap.objs.size) { s with heap := s.heap.push { cls := .type "tuple", data := .seq items.toList.reverse.toArray } })
    (hsz : items.size ≤ sizeLine) : wpAny (model prog w) A (getItem (.ref t) (.ref sl)) Q E s := by
  have htake : sizeOk (.seq items.toList.reverse.toArray) := by
    show items.toList.reverse.toArray.size ≤ sizeLine
    simpa using hsz
  obtain ⟨os, hos, hcs, hds⟩ := id hs
  have hTs : s.TypeIs (.ref sl) "slice" := ⟨os, hos, hcs⟩
  unfold getItem
  try with_reducible refine wpAny_holding ?_
  first | refine wpAny_bind (wpAny_pure ?_) | skip
  refine wpAny_bind (wpAny_sequenceKey ht.typeIs (by decide) ?_)
  refine wpAny_bind (wpAny_callSpecial?_slot (name := Str.ofString "__getitem__") ht.typeIs PyProof.Rows.slot_tuple_getitem
    (wpAny_call_entry PyProof.Rows.slot_tuple_getitem ht.typeIs entry_tuple_getitem ?_ (args_tuple_getitem _ _)))
  show wpAny _ _ (Builtin.Tuple.tupleItemsOf (.ref t) >>= _) _ _ s
  refine wpAny_bind (tupleItemsOf_ ht ?_)
  refine wpAny_bind (wpAny_typeOf hTs ?_)
  rw [if_pos (by decide)]
  refine wpAny_bind (sliceApplied_rev hs pl pu ps ?_)
  have hno : ¬ ((((items.size : Int) - 1) == 0 && (-1 : Int) == 1 && items.size == items.size) = true) := by
    intro q
    rw [Bool.and_eq_true, Bool.and_eq_true] at q
    exact absurd q.1.2 (by decide)
  show wpAny _ _ (if (((items.size : Int) - 1) == 0 && (-1 : Int) == 1 && items.size == items.size) = true then _ else _) _ _ s
  rw [if_neg hno, pick_rev]
  first
    | exact wpAny_bind (m := Builtin.Tuple.tupleExact _) (wpAny_newObj_type (wpAny_pure ⟨_, rfl, wpAny_pure h⟩) htake)
    | exact wpAny_bind (m := Builtin.Tuple.tupleExact _) (wpAny_newObj_type (wpAny_bind (wpAny_pure (wpAny_pure ⟨_, rfl, wpAny_pure h⟩))) htake)
    | exact wpAny_bind (wpAny_bind (m := Builtin.Tuple.tupleExact _) (wpAny_newObj_type (wpAny_pure (wpAny_pure ⟨_, rfl, wpAny_pure h⟩)) htake))
    | exact wpAny_bind (wpAny_bind (m := Builtin.Tuple.tupleExact _) (wpAny_newObj_type (wpAny_pure ⟨_, rfl, wpAny_pure h⟩) htake))
end
end HT
namespace Lq
open PySem PySem.Spec PyProof.Rows L2
open Evl (Ex)
section
variable {X : Cx} {W : WX} {e : Expr} {pos pos' : Pos} {x : Str} {i : Nat} {f g : Ms → R Dt}
def tRevT (K : PySem.W.Frag) (te : TE) : TE := fun σ H Q => te σ H fun x H1 => ∃ a xs, x = .ref a ∧ SqT K H1 a xs ∧ ∀ p, H1 p = none → Q (.ref p) (upd H1 p (.tup xs.reverse))
theorem pe_revT {e : Expr} {te : TE} {k : Nat} {p1 p2 p3 pos : Pos} (he : PE X e te) : PE X (.Subscript e (.Slice none none (some (.UnaryOp .USub (.Constant (.int 1) k p1) p2)) p3) pos) (tRevT X.K te) := by
  refine ⟨fun pins s σ H Q I h => ?_⟩
  refine Subscript_ (thn (he.run pins s σ H _ I h) fun v s1 ⟨x, H1, I1, r1, q1⟩ => ?_)
  obtain ⟨a, xs, ex, hx, q⟩ := q1
  subst ex
  cases r1
  have hst : PO X (some (.UnaryOp .USub (.Constant (.int 1) k p1) p2)) (tPart (tUn (rU fun i => .int (-i)) (tC (.int 1)))) := po_some (pe_un un_neg pe_int)
  refine wpAny_Slice (thn (po_none.run pins s1 σ H1 (fun o H2 => o = none ∧ H2 = H1) I1 ⟨rfl, rfl⟩) fun vl s2 ⟨l, H2, I2, pl, el, e2⟩ => ?_)
  subst el e2
  refine thn (po_none.run pins s2 σ H2 (fun o H3 => o = none ∧ H3 = H2) I2 ⟨rfl, rfl⟩) fun vu s3 ⟨u, H3, I3, pu, eu, e3⟩ => ?_
  subst eu e3
  refine thn (hst.run pins s3 σ H3 (fun o H4 => o = some (-1) ∧ H4 = H3) I3 ⟨1, rfl, -1, rfl, rfl, rfl⟩) fun vs s4 ⟨o, H4, I4, ps, eo, e4⟩ => ?_
  subst eo e4
  have I5 : Inv X pins σ H4 { s4 with heap := s4.heap.push { cls := .type "slice", data := .fields #[vl, vu, vs] } } := I4.kept (t' := s4.toks) fun b ob q => Heap.get?_push_of_some _ q
  obtain ⟨its, r, ht, hz⟩ := I5.tuple hx
  have hlen := r.length
  show wpAny (model X.prog X.w) X.A (subscriptTail e (.Slice none none (some (.UnaryOp .USub (.Constant (.int 1) k p1) p2)) p3) (.ref a) (.ref s4.heap.objs.size)) (EP X pins σ Q) X.xe { s4 with heap := s4.heap.push { cls := .type "slice", data := .fields #[vl, vu, vs] } }
  refine tail_any (ops := [.ref a, .ref s4.heap.objs.size]) ht.typeIs PyProof.Rows.slot_tuple_getitem.lookup ?_ (by with_unfolding_all rfl)
  refine HT.getItem_tuple_rev ht (Heap.IsSliceOf.new _ vl vu vs) pl pu ps ?_ (by rw [List.size_toArray, ← hlen]; exact hz)
  refine ⟨.ref _, _, I5.laid (t' := s4.toks) (o := .tup xs.reverse) (fun b ob q => Heap.get?_push_of_some _ q) (Nat.le_refl _) ?_, rfl, q _ (I5.hok.fresh (Nat.le_refl _))⟩
  exact ⟨by rw [List.length_reverse]; exact hz, _, r.reverse, IsTup.new _ _⟩
def revO : Dt → Option Dt | .tup xs => some (.tup xs.reverse) | _ => none
theorem de_revT {k : Nat} {p1 p2 p3 : Pos} (he : PE X e (tD X.K W f)) : PE X (.Subscript e (.Slice none none (some (.UnaryOp .USub (.Constant (.int 1) k p1) p2)) p3) pos) (tD X.K W (op1 f revO)) := monoE (pe_revT he) fun σ H Q q => by
  obtain ⟨B, F, as, S, r, o⟩ := q
  refine ⟨B, F, as, S, r, Out.mono (Out.bind o) fun d F1 H1 as1 S1 ⟨r1, e1, o1⟩ v hv => ?_⟩
  cases d with
  | tup ds =>
    cases hv with
    | tup hs ha => exact ⟨_, _, rfl, Evl.ex_t r1.fh hs.sq, fun p hp => (gv_of o1 r1).2 p _ hp (.tup upd_same (ha.rev.up (Ex.new (r1.fresh hp).1)))⟩
  | _ => exact o1.elim

/-! ### [word for word in d], d a mutable dict -/
theorem dn_lcKeys {y : Str} {j : Nat} {scope : Scope} {p1 p2 : Pos} {o : Expr} (hc : X.calm = true) (hN : X.N.Nodup) (ho : PE X o (tVar i)) (ok : BlkOk X.N X.env.scope scope [(y, j)])
    (hg : ∀ (s : Shared) (H : Hp) (C : Addr) (cl : List (Str × Addr)) (fp : List Addr), PG (X.blk s H scope (compEnvC scope cl C X.env) fp) (.Name y p2) (gName j))
    (he : ∀ (s : Shared) (H : Hp) (C : Addr) (cl : List (Str × Addr)) (fp : List Addr), PE (X.blk s H scope (compEnvC scope cl C X.env) fp) (.Name y p1) (tVar j)) (hs : ∀ x, foldedSetIterable o X.env x = pure x := by intro _; rfl) (hj : j < X.N.length := by decide) :
    PE X (.ListComp (.Name y p1) [⟨.Name y p2, o, [], 0⟩] scope pos) (tN X.K W (keysL i)) :=
  ⟨fun pins s σ H Q I q => (pe_lock (pe_lc (own := [(y, j)]) hc hN (pi_keys ho) ok hg (fun _ _ _ _ _ => pts_nil) he hs)).run pins s σ H Q I (by
    have hl : σ.length = X.N.length := I.len
    obtain ⟨B, F, as, S, r, o⟩ := q
    unfold keysL at o
    cases hd : dcAt S i with
    | none => rw [hd] at o; exact o.elim
    | some km =>
      rw [hd] at o
      obtain ⟨k, kvs⟩ := km
      obtain ⟨d, ws, hp, hmo, ha, _, _, hH, hvs⟩ := dcAt_rp r hd
      refine ⟨d, .dT ws, hH, trivial, fun od => ?_⟩
      refine ⟨_, hp, d, od, rfl, .inr ⟨ws, upd_same, fun D hD => ?_⟩⟩
      have hDd : D ≠ d := by
        rintro rfl
        rw [upd_same] at hD; cases hD
      have hD0 : H D = none := by rw [upd_ne hDd] at hD; exact hD
      refine lc_it walk_keysT (Pv := fun m H' => ∃ bs, H' = upd (upd H d (.frz od (.dT ws))) D (.lst (bs.map V.ref)) ∧ IsKeys H (ws.take m) bs) ⟨[], rfl, .nil⟩ (fun m H' hm hv => ?_) (fun m x H1 H2 hm hv hy => ?_) (fun H' hv => ?_)
      · obtain ⟨bs, rfl, _⟩ := hv
        rw [upd_ne hDd.symm, upd_same]
      · obtain ⟨bs, rfl, hk⟩ := hv
        obtain ⟨rfl, kk, vv, b, h1, rfl, h2⟩ := hy
        show wipe ((wipe σ [j]).set j (some (V.ref b))) [j] = wipe σ [j] ∧ _
        refine ⟨by rw [wipe_set (List.mem_cons_self), wipe_wipe], ?_⟩
        unfold tYes
        dsimp only
        rw [if_pos rfl]
        refine ⟨.ref b, ?_, bs.map V.ref, upd_same, ?_, bs ++ [b], ?_, ?_⟩
        · have : j < (wipe σ [j]).length := by rw [wipe_length, hl]; exact hj
          exact List.getElem?_set_self this
        · have h3 : bs.length = (ws.take m).length := (Paired.length hk).symm
          rw [List.length_map, h3, List.length_take]
          have hz : ws.length ≤ sizeLine := (I.hok d _ hH).1
          omega
        · rw [upd_upd, List.map_append]; rfl
        · have hb : H b = some (.tup (kk.map kV)) := by
            have hbD : b ≠ D := by
              rintro rfl
              rw [upd_same] at h2; cases h2
            rw [upd_ne hbD] at h2
            have hbd : b ≠ d := by
              rintro rfl
              rw [upd_same] at h2; cases h2
            rw [upd_ne hbd] at h2
            exact h2
          unfold IsKeys at hk ⊢
          rw [List.take_add_one, h1]
          exact Paired.snoc hk hb
      · obtain ⟨bs, rfl, hk⟩ := hv
        rw [List.take_length] at hk
        refine ⟨by rw [upd_ne hDd.symm, upd_same], ?_⟩
        have e1 : upd (upd (upd H d (.frz od (.dT ws))) D (.lst (bs.map V.ref))) d (.dT ws) = upd H D (.lst (bs.map V.ref)) := by
          funext a
          by_cases h1 : a = d
          · subst h1
            rw [upd_same, upd_ne hDd.symm, hH]
          · rw [upd_ne h1]
            by_cases h2 : a = D
            · subst h2
              rw [upd_same, upd_same]
            · rw [upd_ne h2, upd_ne h2, upd_ne h1]
        rw [e1]
        obtain ⟨F1, e1, r1, hr⟩ := knowAll r (keys_rp hvs hk)
        obtain ⟨f1, f2, f3⟩ := r1.fresh hD0
        exact o F1 _ as e1 (r1.grow hD0 _) D _ f1 f2 f3 upd_same hr)⟩
end

/-! ### sorted of words of one length -/
theorem dataLe_wd : PySem.W.dataLe false (fun b : List Int => PyData.tuple (b.map .int)) = fun p q => decide (p ≤ q) := by
  funext p q
  show (!PySem.W.dataLt (.tuple (q.map .int)) (.tuple (p.map .int))) = _
  rw [PySem.W.dataLt_tuple]
  show (!PySem.W.rowLt (q.map .int) (p.map .int)) = _
  rw [PySem.W.dataLt_ints]
  by_cases h : q < p
  · have h' : ¬ p ≤ q := fun r => List.not_lt.mpr r h
    simp [h, h']
  · have h' : p ≤ q := List.not_lt.mp h
    simp [h, h']
def sortW (ws : List (List Int)) : List (List Int) := ws.mergeSort fun a b => decide (a ≤ b)
def rSortW (K : PySem.W.Frag) : List V → Hp → VK → Prop := fun vs H Q => ∃ (a : Addr) (bs : List Addr) (ws : List (List Int)), vs = [V.ref a] ∧ SqL K H a (bs.map V.ref) ∧ Paired (fun b (w : List Int) => H b = some (.tup (w.map V.int))) bs ws ∧ (ws.length ≤ 1 ∨ ∃ n, 1 ≤ n ∧ ∀ w ∈ ws, w.length = n) ∧
  ∀ (cs : List Addr) (p : Addr), Paired (fun b (w : List Int) => H b = some (.tup (w.map V.int))) cs (sortW ws) → H p = none → Q (.ref p) (upd H p (.lst (cs.map V.ref)))
section
variable {X : Cx} {W : WX}
theorem isT_reads {h : Heap} {b : Addr} {us : List Value} {w : List Int} (hi : IntsAre us w) : ∃ as, ReadsAll h us (w.map PyData.int) as := by
  induction hi with
  | nil => exact ⟨_, .nil⟩
  | @cons i t us ns _ ih =>
    obtain ⟨as, q⟩ := ih
    exact ⟨_, .cons (.int i t) q⟩
theorem alike_ints : ∀ a b : List Int, a.length = b.length → PySem.W.alikeAll (a.map .int) (b.map .int) = true
  | [], [], _ => by simp [PySem.W.alikeAll]
  | [], _ :: _, h => by simp at h
  | _ :: _, [], h => by simp at h
  | x :: a, y :: b, h => by
    have := alike_ints a b (by simpa using h)
    simp [PySem.W.alikeAll, PySem.W.alike, this]
theorem refs_vals : ∀ {bs : List Addr} {us : List Value}, Vals (bs.map V.ref) us → us = bs.map Value.ref
  | [], _, .nil => rfl
  | b :: bs, _, .cons h t => by
    rw [refs_vals t, List.map_cons]
    congr 1
theorem depth_ints : ∀ w : List Int, PyData.depthAll (w.map .int) ≤ 1
  | [] => by simp [PyData.depthAll]
  | x :: w => by
    have := depth_ints w
    simp [PyData.depthAll, PyData.depth]
    omega
theorem each_of {R : Value → List Int → Prop} : ∀ {bs : List Addr} {ws : List (List Int)}, Paired (fun b w => R (.ref b) w) bs ws → PySem.W.EachIs R (bs.map Value.ref) ws
  | _, _, .nil => .nil
  | _, _, .cons h t => .cons h (each_of t)
theorem of_each {H : Hp} : ∀ {us : List Value} {ws : List (List Int)}, PySem.W.EachIs (fun (u : Value) (w : List Int) => ∃ b, u = .ref b ∧ H b = some (.tup (w.map V.int))) us ws →
    ∃ cs : List Addr, us = cs.map Value.ref ∧ Paired (fun b (w : List Int) => H b = some (.tup (w.map V.int))) cs ws
  | _, _, .nil => ⟨[], rfl, .nil⟩
  | _, _, .cons h t => by
    obtain ⟨cs, e1, e2⟩ := of_each t
    obtain ⟨b, rfl, hb⟩ := h
    exact ⟨b :: cs, by rw [e1]; rfl, .cons hb e2⟩
theorem cr_sortW (hu : X.A.units + 64 < cLine) : CallR X (.builtin "sorted") (rSortW X.K) := by
  intro pins s σ H vs us Q I r h
  obtain ⟨a, bs, ws, rfl, hs, hp, hlen, q⟩ := h
  obtain ⟨its, rv, hl, hz⟩ := I.list hs
  obtain ⟨u, rfl, ru⟩ := vals1 r
  obtain rfl : u = Value.ref a := ru
  have hits := refs_vals rv
  subst hits
  have hbl : (bs.map Value.ref).length = ws.length := by rw [List.length_map]; exact Paired.length hp
  have hbz : bs.length ≤ sizeLine := by
    rw [List.length_map] at hz
    exact hz
  have fin : ∀ (h' : Heap) (d : Addr) (cs : List Addr), (∀ b o, s.heap.get? b = some o → h'.get? b = some o) → s.heap.objs.size ≤ d → (∃ n, h'.get? d = some (PyProof.Rows.seqObj "list" (cs.map Value.ref).toArray n)) → cs.length = bs.length → Paired (fun b (w : List Int) => H b = some (.tup (w.map V.int))) cs (sortW ws) →
      EP X pins σ Q (.ref d) { s with heap := h' } := fun h' d cs kp hd hn hcl hcs => by
    obtain ⟨n, hn⟩ := hn
    refine ⟨.ref d, upd H d (.lst (cs.map V.ref)), I.laid (t' := s.toks) kp hd ⟨by rw [List.length_map, hcl]; exact hbz, cs.map Value.ref, n, vals_refs cs, hn⟩, rfl, q cs d hcs (I.hok.fresh hd)⟩
  rcases hlen with hlen | ⟨n, hn1, hn⟩
  · refine SrtO.sorted_ord (ltv := fun _ _ => false) ⟨fun _ _ _ => rfl, fun _ _ _ _ _ => rfl⟩ hl.isList (by rw [List.length_map]; exact hbz) (fun h2 => by omega) fun out h1 h2 => ?_
    have e : out = bs.map Value.ref := by
      have hperm := h2.perm
      match hb : bs.map Value.ref, hperm with
      | [], hperm => exact List.Perm.eq_nil hperm
      | [x], hperm => exact List.perm_singleton.mp hperm
      | x :: y :: r, _ => rw [hb] at hbl; simp at hbl; omega
    subst e
    have e2 : sortW ws = ws := by
      match ws, hlen with
      | [], _ => simp [sortW]
      | [w], _ => simp [sortW]
    refine fin _ _ bs (fun b o e => PyProof.Rows.sortedAll_old e) (Nat.le_succ _) (PyProof.Rows.sortedAll_at s.heap _ _) rfl ?_
    rw [e2]; exact hp
  · have hR : PySem.W.EachIs (fun (u : Value) (w : List Int) => ∃ b, u = .ref b ∧ H b = some (.tup (w.map V.int))) (bs.map Value.ref) ws := each_of (hp.mono fun b w h => ⟨b, rfl, h⟩)
    have hReads : PySem.W.EachIs (fun (v : Value) (w : List Int) => ∃ as, Reads s.heap v (.tuple (w.map PyData.int)) as) (bs.map Value.ref) ws := each_of (hp.mono fun b w h => by
      obtain ⟨_, its2, r2, o, ho, hc, m, hd⟩ := I.hok _ _ h
      obtain ⟨as, ra⟩ := isT_reads (h := s.heap) (b := b) (intsAre_of r2)
      exact ⟨_, Reads.tuple ho hc hd ra⟩)
    refine PySem.W.sorted_data (enc := fun w : List Int => PyData.tuple (w.map .int)) hl.isList hR hReads (fun d hd d' hd' => ?_) (.inl fun d hd => ?_) (by rw [← hbl]; rw [List.length_map]; exact hbz) (fun w hw => ?_) fun out ho he => ?_
    · obtain ⟨w, hw, rfl⟩ := List.mem_map.mp hd
      obtain ⟨w', hw', rfl⟩ := List.mem_map.mp hd'
      show PySem.W.alikeAll _ _ = true
      exact alike_ints _ _ (by rw [hn w hw, hn w' hw'])
    · obtain ⟨w, hw, rfl⟩ := List.mem_map.mp hd
      have := hn w hw
      cases w with
      | nil => simp at this; omega
      | cons x r => exact ⟨_, _, rfl⟩
    · have h1 := depth_ints w
      simp only [PyData.depth]
      omega
    · rw [dataLe_wd] at he
      obtain ⟨cs, rfl, hcs⟩ := of_each he
      refine fin _ _ cs (fun b o e => PyProof.Rows.sortedAll_old e) (Nat.le_succ _) (PyProof.Rows.sortedAll_at s.heap _ _) ?_ hcs
      rw [List.length_map] at ho
      rw [ho, ← hbl, List.length_map]
def wordsOf : List Dt → Option (List (List Int))
  | [] => some []
  | d :: ds => match wordOf d, wordsOf ds with | some w, some ws => some (w :: ws) | _, _ => none
theorem wordsOf_eq : ∀ {ds : List Dt} {ws : List (List Int)}, wordsOf ds = some ws → ds = ws.map Wd
  | [], ws, h => by simp [wordsOf] at h; subst h; rfl
  | d :: ds, ws, h => by
    unfold wordsOf at h
    cases h1 : wordOf d with
    | none => rw [h1] at h; cases h
    | some w =>
      rw [h1] at h
      cases h2 : wordsOf ds with
      | none => rw [h2] at h; cases h
      | some r =>
        rw [h2] at h
        cases h
        rw [wordOf_eq h1, wordsOf_eq h2]; rfl
@[simp] theorem wordsOf_map : ∀ ws : List (List Int), wordsOf (ws.map Wd) = some ws
  | [] => rfl
  | w :: ws => by
    have := wordsOf_map ws
    simp [wordsOf, this]
def sortO : List Dt → Option (List Dt)
  | [.lst ds] => (wordsOf ds).bind fun ws => if ws.length ≤ 1 ∨ (∀ w ∈ ws, w.length = (ws.headD []).length ∧ 1 ≤ w.length) then some ((sortW ws).map Wd) else none
  | _ => none
theorem refs_of {K : PySem.W.Frag} {F : Hp} : ∀ {vs : List V} {ws : List (List Int)}, RpA K F vs (ws.map Wd) → ∃ bs : List Addr, vs = bs.map V.ref ∧ Paired (fun b (w : List Int) => F b = some (.tup (w.map V.int))) bs ws
  | _, [], .nil => ⟨[], rfl, .nil⟩
  | _, w :: ws, .cons h t => by
    obtain ⟨bs, e1, e2⟩ := refs_of t
    obtain ⟨b, rfl, hb⟩ := h.wd
    exact ⟨b :: bs, by rw [e1]; rfl, .cons hb e2⟩
theorem dn_sorted {e : Expr} {p pos : Pos} {f : Ms → R Dt} (hu : X.A.units + 64 < cLine) (hg : Gl X "sorted") (hm : X.mg "sorted" = none) (ha : PE X e (tD X.K W f)) (hs : starEach [e] X.env = (false, eval e X.env) :: starEach [] X.env := by rfl) : PE X (.Call (.Name "sorted" p) [e] [] pos) (tN X.K W (calN (aCons f aNil) sortO)) :=
  monoE (pe_callB (cr_sortW hu) hg hm (by decide +kernel) (da_cons ha da_nil hs) (by decide) (by decide) hs (by rfl)) fun σ H Q q => by
    obtain ⟨B, F, as, S, r0, o⟩ := q
    refine ⟨B, F, as, S, r0, Out.mono (Out.bind o) fun ds F1 H1 as1 S1 ⟨r1, e1, o1⟩ vs hv => ?_⟩
    cases hz : sortO ds with
    | none => rw [hz] at o1; exact o1.elim
    | some z =>
      rw [hz] at o1
      unfold sortO at hz
      split at hz
      · rename_i xs _
        cases hw : wordsOf xs with
        | none => rw [hw] at hz; cases hz
        | some ws =>
          rw [hw] at hz
          dsimp only [Option.bind] at hz
          split at hz
          · rename_i hc
            cases hz
            have e2 := wordsOf_eq hw
            subst e2
            obtain ⟨v, rfl, h1⟩ := rpa1 hv
            cases h1 with
            | lst hs ha =>
              obtain ⟨bs, rfl, hb⟩ := refs_of ha
              refine ⟨_, bs, ws, rfl, Evl.ex_l r1.fh (Evl.sq_of hs), hb.mono fun b w h => r1.fh _ _ h, ?_, fun cs p hcs hp => ?_⟩
              · rcases hc with hc | hc
                · exact .inl hc
                · by_cases h0 : ws = []
                  · subst h0; exact .inl (Nat.zero_le _)
                  · obtain ⟨w, r, rfl⟩ : ∃ w r, ws = w :: r := by
                      cases ws with
                      | nil => exact absurd rfl h0
                      | cons w r => exact ⟨w, r, rfl⟩
                    exact .inr ⟨w.length, (hc w List.mem_cons_self).2, fun x hx => (hc x hx).1⟩
              · have : ∀ {cs : List Addr} {us : List (List Int)}, Paired (fun b (w : List Int) => H1 b = some (.tup (w.map V.int))) cs us → ∃ F2, Ext F1 F2 as1 as1 ∧ Rep X.K B F2 H1 as1 σ S1 ∧ RpA X.K F2 (cs.map V.ref) (us.map Wd) := by
                  intro cs us h
                  have h' : Paired (fun b (q : List Int × Dt) => H1 b = some (.tup (q.1.map V.int))) cs (us.map fun w => (w, Dt.non)) := by
                    clear hcs
                    induction h with
                    | nil => exact .nil
                    | cons h t ih => exact .cons h ih
                  obtain ⟨F2, e2, r2, h2⟩ := knowAll r1 h'
                  rw [List.map_map] at h2
                  exact ⟨F2, e2, r2, h2⟩
                obtain ⟨F2, e2, r2, h2⟩ := this hcs
                obtain ⟨f1, f2, f3⟩ := r2.fresh hp
                exact o1 F2 _ as1 e2 (r2.grow hp _) p _ f1 f2 f3 upd_same h2
          · cases hz
      · cases hz
end
end Lq

namespace Lq
open PySem PySem.Spec PyProof.Rows L2
/-! ### data with a Lean type -/
class En (α : Type) [DecidableEq α] where
  en : α → Dt
  eqv : ∀ a b, PyData.eqv (toPy (en a)) (toPy (en b)) = decide (a = b)
  pl : ∀ a, plain (en a) = true
  lay : ∀ a, (toPy (en a)).canLay0 = true
  dep : Nat
  depth : ∀ a, (toPy (en a)).depth ≤ dep
open En (en)
section
variable {α β : Type} [DecidableEq α] [En α] [DecidableEq β] [En β]
theorem bdec {α : Type} [BEq α] [LawfulBEq α] [DecidableEq α] (a b : α) : (a == b) = decide (a = b) := by
  rw [Bool.eq_iff_iff, beq_iff_eq, decide_eq_true_eq]
instance : En Int where
  en := .int
  eqv a b := by simp only [toPy, PyData.eqv]; exact bdec a b
  pl _ := by simp [plain]
  lay _ := by simp [toPy, PyData.canLay0]
  dep := 0
  depth _ := by simp [toPy, PyData.depth]
instance : En Bool where
  en := .bl
  eqv a b := by simp only [toPy, PyData.eqv]; exact bdec a b
  pl _ := by simp [plain]
  lay _ := by simp [toPy, PyData.canLay0]
  dep := 0
  depth _ := by simp [toPy, PyData.depth]
theorem toPys_map : ∀ xs : List Dt, toPys xs = xs.map toPy
  | [] => by simp [toPys]
  | x :: xs => by rw [toPys, toPys_map xs]; rfl
theorem plains_all : ∀ xs : List α, plains (xs.map en) = true
  | [] => by simp [plains]
  | x :: xs => by rw [List.map_cons, plains, En.pl x, plains_all xs]; rfl
theorem lays_all : ∀ xs : List α, PyData.canLayAll0 (toPys (xs.map en)) = true
  | [] => by simp [toPys, PyData.canLayAll0]
  | x :: xs => by rw [List.map_cons, toPys, PyData.canLayAll0, En.lay x, lays_all xs]; rfl
theorem deps_all : ∀ xs : List α, PyData.depthAll (toPys (xs.map en)) ≤ En.dep α
  | [] => by simp [toPys, PyData.depthAll]
  | x :: xs => by
    rw [List.map_cons, toPys, PyData.depthAll]
    exact Nat.max_le.mpr ⟨En.depth x, deps_all xs⟩
theorem eqvs_all : ∀ xs ys : List α, PyData.eqvAll (toPys (xs.map en)) (toPys (ys.map en)) = decide (xs = ys)
  | [], [] => by simp [toPys, PyData.eqvAll]
  | [], _ :: _ => by simp [toPys, PyData.eqvAll]
  | _ :: _, [] => by simp [toPys, PyData.eqvAll]
  | x :: xs, y :: ys => by
    rw [List.map_cons, List.map_cons, toPys, toPys, PyData.eqvAll, En.eqv x y, eqvs_all xs ys, ← Bool.decide_and]
    exact decide_eq_decide.mpr (by rw [List.cons.injEq])
/-- a tuple of α's -/
instance : En (List α) where
  en xs := .tup (xs.map en)
  eqv a b := by rw [toPy, toPy, PyData.eqv]; exact eqvs_all a b
  pl a := by rw [plain]; exact plains_all a
  lay a := by rw [toPy, PyData.canLay0]; exact lays_all a
  dep := En.dep α + 1
  depth a := by
    rw [toPy, PyData.depth]
    have := deps_all a
    omega
/-- a list of α's -/
structure Ls (α : Type) where
  l : List α
  deriving DecidableEq
instance : En (Ls α) where
  en xs := .lst (xs.l.map en)
  eqv a b := by
    rw [toPy, toPy, PyData.eqv, eqvs_all]
    exact decide_eq_decide.mpr ⟨fun h => by cases a; cases b; simpa using h, fun h => by rw [h]⟩
  pl a := by rw [plain]; exact plains_all a.l
  lay a := by rw [toPy, PyData.canLay0]; exact lays_all a.l
  dep := En.dep α + 1
  depth a := by
    rw [toPy, PyData.depth]
    have := deps_all a.l
    omega
/-- a tuple of two -/
instance : En (α × β) where
  en p := .tup [en p.1, en p.2]
  eqv a b := by
    rw [toPy, toPy, PyData.eqv]
    simp only [toPys, PyData.eqvAll, En.eqv, Bool.and_true]
    rw [← Bool.decide_and]
    exact decide_eq_decide.mpr (by rw [Prod.ext_iff])
  pl p := by simp [plain, plains, En.pl]
  lay p := by simp [toPy, toPys, PyData.canLay0, PyData.canLayAll0, En.lay]
  dep := max (En.dep α) (En.dep β) + 1
  depth p := by
    have h1 := En.depth p.1
    have h2 := En.depth p.2
    simp only [toPy, toPys, PyData.depth, PyData.depthAll]
    omega
theorem shp_en (h : En.dep α ≤ 64 := by decide) (a : α) : shp (en a) = true := by
  have h1 := En.depth a
  unfold shp SeqAt.shaped
  rw [En.pl, En.lay]
  simp only [Bool.true_and, decide_eq_true_eq]
  omega
theorem eqO_en (a b : α) (h : En.dep α ≤ 64 := by decide) : eqO (en a) (en b) = some (.bl (decide (a = b))) := by
  unfold eqO
  rw [shp_en h a, shp_en h b, En.eqv]
  rfl
theorem neO_en (a b : α) (h : En.dep α ≤ 64 := by decide) : neO (en a) (en b) = some (.bl (!decide (a = b))) := by
  unfold neO
  rw [shp_en h a, shp_en h b, En.eqv]
  rfl
end
@[simp] theorem eqO_int (a b : Int) : eqO (.int a) (.int b) = some (.bl (decide (a = b))) := eqO_en a b
@[simp] theorem neO_int (a b : Int) : neO (.int a) (.int b) = some (.bl (!decide (a = b))) := neO_en a b
theorem en_wd (ns : List Int) : en ns = Wd ns := rfl

/-! ### running -/
/-- so that simp goes by the theorem, and not by unfolding -/
theorem nrfl {α : Type} {a b : α} (h : a = b) : a = b := h
@[simp] theorem cE_run (d : Dt) (S : Ms) : cE d S = .ok d S := nrfl rfl
@[simp] theorem varE_im {i : Nat} {S : Ms} {d : Dt} (h : S.sl[i]? = some (.im d)) : varE i S = .ok d S := by unfold varE; rw [h]
@[simp] theorem varE_mu {i k : Nat} {S : Ms} {xs : List Dt} (h : S.sl[i]? = some (.mu k)) (h2 : S.mo[k]? = some (.ob (.ls xs))) : varE i S = .ok (.lst xs) { S with mo := S.mo.set k (.fz (.lst xs)) } := by unfold varE; rw [h]; dsimp only; rw [h2]
@[simp] theorem frz_run' (f : Ms → R (List Dt)) (S : Ms) : frz f S = (f S).bind fun ds S1 => .ok (.lst ds) S1 := nrfl rfl
@[simp] theorem op2_run (f g : Ms → R Dt) (h : Dt → Dt → Option Dt) (S : Ms) : op2 f g h S = (f S).bind fun d S1 => (g S1).bind fun e S2 => R.of (h d e) S2 := nrfl rfl
@[simp] theorem opN_run (f g : Ms → R Dt) (h : Dt → Dt → Option (List Dt)) (S : Ms) : opN f g h S = (f S).bind fun d S1 => (g S1).bind fun e S2 => R.of (h d e) S2 := nrfl rfl
@[simp] theorem op1_run (f : Ms → R Dt) (h : Dt → Option Dt) (S : Ms) : op1 f h S = (f S).bind fun d S1 => R.of (h d) S1 := nrfl rfl
@[simp] theorem iOp_ii (g : Int → Int → Int) (i j : Int) : iOp g (.int i) (.int j) = some (.int (g i j)) := nrfl rfl
@[simp] theorem iOpC_ii (C : Int → Int → Prop) [∀ i j, Decidable (C i j)] (g : Int → Int → Int) (i j : Int) : iOpC C g (.int i) (.int j) = if C i j then some (.int (g i j)) else none := nrfl rfl
@[simp] theorem iCmp_ii (g : Int → Int → Bool) (i j : Int) : iCmp g (.int i) (.int j) = some (.bl (g i j)) := nrfl rfl
@[simp] theorem negO_i (i : Int) : negO (.int i) = some (.int (-i)) := nrfl rfl
@[simp] theorem ixO_lst (xs : List Dt) (i : Int) : ixO (.lst xs) (.int i) = atI xs i := nrfl rfl
@[simp] theorem ixO_tup (xs : List Dt) (i : Int) : ixO (.tup xs) (.int i) = atI xs i := nrfl rfl
@[simp] theorem aNil_run (S : Ms) : aNil S = .ok [] S := nrfl rfl
@[simp] theorem aCons_run (f : Ms → R Dt) (fs : Ms → R (List Dt)) (S : Ms) : aCons f fs S = (f S).bind fun d S1 => (fs S1).bind fun ds S2 => .ok (d :: ds) S2 := nrfl rfl
@[simp] theorem tupE_run (fs : Ms → R (List Dt)) (S : Ms) : tupE fs S = (fs S).bind fun ds S1 => if ds.length ≤ 100000 then .ok (.tup ds) S1 else .no := nrfl rfl
@[simp] theorem lstE_run (fs : Ms → R (List Dt)) (S : Ms) : lstE fs S = (fs S).bind fun ds S1 => if ds.length ≤ 100000 then .ok ds S1 else .no := nrfl rfl
@[simp] theorem calE_run (fs : Ms → R (List Dt)) (h : List Dt → Option Dt) (S : Ms) : calE fs h S = (fs S).bind fun ds S1 => R.of (h ds) S1 := nrfl rfl
@[simp] theorem calN_run (fs : Ms → R (List Dt)) (h : List Dt → Option (List Dt)) (S : Ms) : calN fs h S = (fs S).bind fun ds S1 => R.of (h ds) S1 := nrfl rfl
@[simp] theorem tst_run' (f : Ms → R Dt) (S : Ms) : tst f S = (f S).bind fun d S1 => match d with | .bl b => .ok b S1 | _ => .no := nrfl rfl
@[simp] theorem notT_run (p : Ms → R Bool) (S : Ms) : notT p S = (p S).bind fun b S1 => .ok (!b) S1 := nrfl rfl
@[simp] theorem andT_run (p q : Ms → R Bool) (S : Ms) : andT p q S = (p S).bind fun b S1 => if b then q S1 else .ok false S1 := nrfl rfl
@[simp] theorem orT_run (p q : Ms → R Bool) (S : Ms) : orT p q S = (p S).bind fun b S1 => if b then .ok true S1 else q S1 := nrfl rfl
@[simp] theorem truT_run (f : Ms → R Dt) (S : Ms) : truT f S = (f S).bind fun d S1 => R.of (truO d) S1 := nrfl rfl
@[simp] theorem andV_run (f g : Ms → R Dt) (S : Ms) : andV f g S = (f S).bind fun d S1 => match d with | .bl true => g S1 | .bl false => .ok (.bl false) S1 | _ => .no := nrfl rfl
@[simp] theorem orV_run (f g : Ms → R Dt) (S : Ms) : orV f g S = (f S).bind fun d S1 => match d with | .bl false => g S1 | .bl true => .ok (.bl true) S1 | _ => .no := nrfl rfl
@[simp] theorem yesT_run (S : Ms) : yesT S = .ok true S := nrfl rfl
@[simp] theorem itS_run (f : Ms → R Dt) (S : Ms) : itS f S = (f S).bind fun d S1 => R.of (seqOf d) S1 := nrfl rfl
@[simp] theorem seqOf_lst (xs : List Dt) : seqOf (.lst xs) = some xs := nrfl rfl
@[simp] theorem seqOf_tup (xs : List Dt) : seqOf (.tup xs) = some xs := nrfl rfl
theorem itR1_run {fs : Ms → R (List Dt)} {S S1 : Ms} {n : Nat} (h : fs S = .ok [.int (n : Int)] S1) (hn : n < 2 ^ 62) : itR1 fs S = .ok ((List.range n).map fun (i : Nat) => Dt.int (i : Int)) S1 := by
  unfold itR1
  rw [h, R.bind_ok]
  dsimp only
  rw [if_pos ⟨by omega, by omega⟩, Int.toNat_natCast]
@[simp] theorem itZ_run (fs : Ms → R (List Dt)) (S : Ms) : itZ fs S = (fs S).bind fun ds S1 => match ds with
  | [.lst xs, .lst ys] => .ok (zipD xs ys) S1
  | [.tup xs, .tup ys] => .ok (zipD xs ys) S1
  | _ => .no := nrfl rfl
@[simp] theorem lenO_lst (xs : List Dt) : lenO [.lst xs] = some (.int xs.length) := nrfl rfl
@[simp] theorem lenO_tup (xs : List Dt) : lenO [.tup xs] = some (.int xs.length) := nrfl rfl
@[simp] theorem intO_i (i : Int) : intO [.int i] = some (.int i) := nrfl rfl
@[simp] theorem intO_b (b : Bool) : intO [.bl b] = some (.int (if b then 1 else 0)) := nrfl rfl
@[simp] theorem absO_i (i : Int) : absO [.int i] = some (.int (if i < 0 then -i else i)) := nrfl rfl
@[simp] theorem tupO_lst (xs : List Dt) : tupO [.lst xs] = some (.tup xs) := nrfl rfl
@[simp] theorem tupO_tup (xs : List Dt) : tupO [.tup xs] = some (.tup xs) := nrfl rfl
@[simp] theorem lstO_lst (xs : List Dt) : lstO [.lst xs] = some xs := nrfl rfl
@[simp] theorem lstO_tup (xs : List Dt) : lstO [.tup xs] = some xs := nrfl rfl
@[simp] theorem revO_tup (xs : List Dt) : revO (.tup xs) = some (.tup xs.reverse) := nrfl rfl
@[simp] theorem seqS_run (m n : Ms → O) (S : Ms) : seqS m n S = (m S).seq n := nrfl rfl
@[simp] theorem nilS_run (S : Ms) : nilS S = .nx S := nrfl rfl
@[simp] theorem seq_nx (s : Ms) (f : Ms → O) : (O.nx s).seq f = f s := nrfl rfl
@[simp] theorem seq_rt (d : Dt) (s : Ms) (f : Ms → O) : (O.rt d s).seq f = .rt d s := nrfl rfl
@[simp] theorem seq_ct (s : Ms) (f : Ms → O) : (O.ct s).seq f = .ct s := nrfl rfl
@[simp] theorem seq_bk (s : Ms) (f : Ms → O) : (O.bk s).seq f = .bk s := nrfl rfl
@[simp] theorem asgS_run' (i : Nat) (f : Ms → R Dt) (S : Ms) : asgS i f S = (f S).stmt fun d S1 => .nx { S1 with sl := S1.sl.set i (.im d) } := nrfl rfl
@[simp] theorem asgN_run' (i : Nat) (f : Ms → R (List Dt)) (S : Ms) : asgN i f S = (f S).stmt fun ds S1 => .nx { sl := S1.sl.set i (.mu S1.mo.length), mo := S1.mo ++ [.ob (.ls ds)] } := nrfl rfl
@[simp] theorem asgM_run' (i : Nat) (f : Ms → R Ob) (S : Ms) : asgM i f S = (f S).stmt fun c S1 => .nx { sl := S1.sl.set i (.mu S1.mo.length), mo := S1.mo ++ [.ob c] } := nrfl rfl
@[simp] theorem asgT_run' (T : Tk) (f : Ms → R Dt) (S : Ms) : asgT T f S = (f S).stmt fun d S1 => match T.k d S1 with | some S2 => .nx S2 | none => .no := nrfl rfl
theorem moveS_im {i j : Nat} {S : Ms} {d : Dt} (h : S.sl[j]? = some (.im d)) : moveS i j S = .nx { S with sl := S.sl.set i (.im d) } := by unfold moveS; rw [h]
theorem moveS_mu {i j k : Nat} {S : Ms} (h : S.sl[j]? = some (.mu k)) : moveS i j S = .nx { S with sl := S.sl.set i (.mu k) } := by unfold moveS; rw [h]
@[simp] theorem ifS_run (p : Ms → R Bool) (m n : Ms → O) (S : Ms) : ifS p m n S = (p S).stmt fun b S1 => if b then m S1 else n S1 := nrfl rfl
@[simp] theorem retS_run (f : Ms → R Dt) (S : Ms) : retS f S = (f S).stmt fun d S1 => .rt d S1 := nrfl rfl
@[simp] theorem dropS_run (f : Ms → R Dt) (S : Ms) : dropS f S = (f S).stmt fun _ S1 => .nx S1 := nrfl rfl
@[simp] theorem forS_run (it : Ms → R (List Dt)) (k : Dt → Ms → Option Ms) (b : Ms → O) (S : Ms) : forS it k b S = (it S).stmt fun ds S1 => forL k b ds S1 := nrfl rfl
@[simp] theorem kNm (i : Nat) (d : Dt) (S : Ms) : (Tk.nm i).k d S = some { S with sl := S.sl.set i (.im d) } := nrfl rfl
@[simp] theorem kTp (is : List Nat) (ds : List Dt) (S : Ms) : (Tk.tp is).k (.tup ds) S = kNames is ds S := nrfl rfl
theorem muAt_run {S : Ms} {i k : Nat} {xs : List Dt} (h : S.sl[i]? = some (.mu k)) (h2 : S.mo[k]? = some (.ob (.ls xs))) : muAt S i = some (k, xs) := by unfold muAt; rw [h]; dsimp only; rw [h2]
theorem dcAt_run {S : Ms} {i k : Nat} {xs : List (List Int × Dt)} (h : S.sl[i]? = some (.mu k)) (h2 : S.mo[k]? = some (.ob (.dc xs))) : dcAt S i = some (k, xs) := by unfold dcAt; rw [h]; dsimp only; rw [h2]
@[simp] theorem appS_run (i : Nat) (f : Ms → R Dt) (S : Ms) : appS i f S = match muAt S i with
  | none => .no
  | some _ => (f S).stmt fun d S1 => match muAt S1 i with | some (k, xs) => if xs.length < 100000 then .nx { S1 with mo := S1.mo.set k (.ob (.ls (xs ++ [d]))) } else .no | none => .no := nrfl rfl
@[simp] theorem funE_run (n : Nat) (fs : Ms → R (List Dt)) (f : List Dt → Fo) (S : Ms) : funE n fs f S = (fs S).bind fun ds S1 => if ds.length = n then (match f ds with | .ok d => .ok d S1 | .er e => .er e S1 | .no => .no) else .no := nrfl rfl
theorem atI_ofNat {α : Type} (xs : List α) (k : Nat) : atI xs (k : Int) = xs[k]? := by
  cases h : xs[k]? with
  | some v => exact atI_nat h
  | none =>
    have hk := List.getElem?_eq_none_iff.mp h
    unfold atI ixN
    rw [if_pos (by omega), if_neg (by omega)]; rfl

/-! ### comprehensions and loops -/
/-- a comprehension that leaves the store as it is -/
theorem lcF_flt {α : Type} {sl : List Sv} {k : Dt → Ms → Option Ms} {t : Ms → R Bool} {e : Ms → R Dt} {mo : List Mo} (enc : α → Dt) (b : α → Bool) (g : α → Dt) : ∀ (xs : List α) (acc : List Dt),
    (∀ x ∈ xs, ∃ S1 S2, k (enc x) { sl := sl, mo := mo } = some S1 ∧ t S1 = .ok (b x) S2 ∧ S2.mo = mo ∧ (b x = true → ∃ S3, e S2 = .ok (g x) S3 ∧ S3.mo = mo)) → acc.length + xs.length ≤ 100000 →
    lcF sl k t e (xs.map enc) mo acc = .ok (acc ++ (xs.filter b).map g) { sl := sl, mo := mo }
  | [], acc, _, _ => by simp [lcF]
  | x :: xs, acc, h, hl => by
    obtain ⟨S1, S2, h1, h2, h3, h4⟩ := h x List.mem_cons_self
    rw [List.map_cons]
    unfold lcF
    rw [h1]
    dsimp only
    rw [h2]
    have hl' : acc.length + (xs.length + 1) ≤ 100000 := hl
    cases hb : b x with
    | false =>
      dsimp only
      rw [h3, lcF_flt enc b g xs acc (fun y hy => h y (List.mem_cons_of_mem _ hy)) (by omega)]
      simp [hb]
    | true =>
      obtain ⟨S3, h5, h6⟩ := h4 hb
      dsimp only
      rw [h5]
      dsimp only
      rw [if_pos (by omega), h6, lcF_flt enc b g xs (acc ++ [g x]) (fun y hy => h y (List.mem_cons_of_mem _ hy)) (by simp; omega)]
      simp [hb]
theorem lcE_flt {α : Type} {it : Ms → R (List Dt)} {k : Dt → Ms → Option Ms} {t : Ms → R Bool} {e : Ms → R Dt} {own : List Nat} {S S1 : Ms} (enc : α → Dt) (b : α → Bool) (g : α → Dt) (xs : List α) (hi : it S = .ok (xs.map enc) S1)
    (h : ∀ x ∈ xs, ∃ T1 T2, k (enc x) { sl := wipeL S1.sl own, mo := S1.mo } = some T1 ∧ t T1 = .ok (b x) T2 ∧ T2.mo = S1.mo ∧ (b x = true → ∃ T3, e T2 = .ok (g x) T3 ∧ T3.mo = S1.mo)) (hl : xs.length ≤ 100000) :
    lcE it k t e own S = .ok ((xs.filter b).map g) S1 := by
  unfold lcE
  rw [hi]
  simp only [R.bind_ok]
  rw [lcF_flt enc b g xs [] h (by simpa using hl)]
  simp
/-- without a test -/
theorem lcE_map {α : Type} {it : Ms → R (List Dt)} {k : Dt → Ms → Option Ms} {e : Ms → R Dt} {own : List Nat} {S S1 : Ms} (enc : α → Dt) (g : α → Dt) (xs : List α) (hi : it S = .ok (xs.map enc) S1)
    (h : ∀ x ∈ xs, ∃ T1, k (enc x) { sl := wipeL S1.sl own, mo := S1.mo } = some T1 ∧ ∃ T3, e T1 = .ok (g x) T3 ∧ T3.mo = S1.mo) (hk : ∀ d T T', k d T = some T' → T'.mo = T.mo) (hl : xs.length ≤ 100000) :
    lcE it k yesT e own S = .ok (xs.map g) S1 := by
  have := lcE_flt (t := yesT) enc (fun _ => true) g xs hi (fun x hx => by
    obtain ⟨T1, h1, T3, h2, h3⟩ := h x hx
    exact ⟨T1, T1, h1, rfl, by rw [hk _ _ _ h1], fun _ => ⟨T3, h2, h3⟩⟩) hl
  rw [this]
  congr 2
  simp
theorem kNames_mo : ∀ {is : List Nat} {ds : List Dt} {S S' : Ms}, kNames is ds S = some S' → S'.mo = S.mo
  | [], [], _, _, h => by cases h; rfl
  | [], _ :: _, _, _, h => by cases h
  | _ :: _, [], _, _, h => by cases h
  | i :: is, d :: ds, S, S', h => by
    have := kNames_mo (is := is) (ds := ds) (S := { S with sl := S.sl.set i (.im d) }) h
    exact this
theorem Tk.mo {T : Tk} {d : Dt} {S S' : Ms} (h : T.k d S = some S') : S'.mo = S.mo := by
  cases T with
  | nm i => cases h; rfl
  | tp is =>
    cases d with
    | tup ds => exact kNames_mo h
    | _ => cases h
/-- a for loop, by what holds of the state ahead of each turn -/
theorem forL_inv {k : Dt → Ms → Option Ms} {body : Ms → O} : ∀ (items : List Dt) (I : Nat → Ms → Prop) (S : Ms), I 0 S → (∀ i d S, items[i]? = some d → I i S → ∃ S1 S2, k d S = some S1 ∧ (body S1 = .nx S2 ∨ body S1 = .ct S2) ∧ I (i + 1) S2) → ∃ S', forL k body items S = .nx S' ∧ I items.length S'
  | [], I, S, h0, _ => ⟨S, rfl, h0⟩
  | d :: ds, I, S, h0, h => by
    obtain ⟨S1, S2, h1, h2, h3⟩ := h 0 d S rfl h0
    obtain ⟨S', e1, e2⟩ := forL_inv ds (fun i => I (i + 1)) S2 h3 fun i d S hd hI => h (i + 1) d S (by simpa using hd) hI
    refine ⟨S', ?_, by simpa using e2⟩
    unfold forL
    rw [h1]
    dsimp only
    rcases h2 with h2 | h2 <;> rw [h2] <;> exact e1
end Lq

namespace Lq
open PySem PySem.Spec PyProof.Rows L2
open Evl (Ex)
/-! ### a tuple, repeated once or never -/
theorem mul_once (l : Addr) (its : Array Value) (n : Nat) (dd : Option Addr) (sl : Array (Option Value)) (x : Int) (u : Tok) (c0 : (decide (x < -(2 ^ 63)) || decide (x ≥ 2 ^ 63)) = false) (c1 : (its.isEmpty || x == 1) = true) :
    Meets (Builtin.«tuple.__mul__» ⟨[.ref l, .int x u], []⟩) (fun _ R s => s.heap.get? l = some { cls := .type "tuple", dict := dd, data := .seq its n, slots := sl } ∧ R (.ok (.ret (.ref l))) s) :=
  .of_wp fun prog w A R s h => by
    obtain ⟨hp, gg, d, tk, os⟩ := s
    obtain ⟨hl, h⟩ := h
    have f1 := AutoSeq1.idx_int
    wp_walk using wpAny_loadPart' hl
    refine wpAny_ite_false (decide_eq_false fun z => by rw [c0] at z; exact Bool.noConfusion z) ?_
    wp_walk using wpAny_loadPart' hl
    exact ⟨_, rfl, h⟩
theorem mul_none (l : Addr) (its : Array Value) (n : Nat) (dd : Option Addr) (sl : Array (Option Value)) (x : Int) (u : Tok) (c0 : (decide (x < -(2 ^ 63)) || decide (x ≥ 2 ^ 63)) = false) (c1 : (its.isEmpty || x == 1) = false) (c2 : (decide (x ≤ 0) || its.isEmpty) = true) :
    Meets (Builtin.«tuple.__mul__» ⟨[.ref l, .int x u], []⟩) (fun _ R s => s.heap.get? l = some { cls := .type "tuple", dict := dd, data := .seq its n, slots := sl } ∧
      R (.ok (.ret (.ref s.heap.objs.size))) { s with heap := s.heap.push { cls := .type "tuple", data := .seq #[] } }) :=
  .of_wp fun prog w A R s h => by
    obtain ⟨hp, gg, d, tk, os⟩ := s
    obtain ⟨hl, h⟩ := h
    have f1 := AutoSeq1.idx_int
    wp_walk using wpAny_loadPart' hl
    refine wpAny_ite_false (decide_eq_false fun z => by rw [c0] at z; exact Bool.noConfusion z) ?_
    wp_walk using wpAny_loadPart' hl
    exact ⟨_, rfl, h⟩
section
variable {X : Cx}
def rRepA (K : PySem.W.Frag) : R2 := fun x y H Q => ∃ (l : Addr) (k : Int) (xs : List V), x = .ref l ∧ y = .int k ∧ SqT K H l xs ∧ xs ≠ [] ∧ 0 ≤ k ∧ k ≤ 1000 ∧ xs.length ≤ 1000 ∧ (k = 1 → Q (.ref l) H) ∧ (k ≠ 1 → ∀ p, H p = none → Q (.ref p) (upd H p (.tup (List.replicate k.toNat xs).flatten)))
theorem op_repA : OpR X (binaryOp .Mult) (rRepA X.K) := by
  intro pins s σ H x y v u Q I rx ry h
  obtain ⟨l, k, xs, ex, ey, hT, hne, h0, h1, hz, q1, q2⟩ := h
  by_cases hk : 2 ≤ k
  · exact op_repT pins s σ H x y v u Q I rx ry ⟨l, k, xs, ex, ey, hT, hne, hk, h1, hz, q2 (by omega)⟩
  · subst ex ey
    cases rx
    obtain ⟨t, rfl⟩ := ry
    obtain ⟨its, r, ⟨⟨cls, dd, data, sl⟩, ho, hc, n, hd⟩, hs⟩ := I.tuple hT
    simp only at hc hd
    subst hc hd
    have hle := r.length
    have hi : its.toArray.isEmpty = false := by
      cases its with
      | nil => exact absurd (List.eq_nil_of_length_eq_zero hle) hne
      | cons a b => rfl
    have c0 : (decide (k < -(2 ^ 63)) || decide (k ≥ 2 ^ 63)) = false := by
      have e1 : ¬ k < -(2 ^ 63) := by omega
      have e2 : ¬ k ≥ 2 ^ 63 := by omega
      rw [decide_eq_false e1, decide_eq_false e2]
      rfl
    by_cases h1 : k = 1
    · have c1 : (its.toArray.isEmpty || k == 1) = true := by rw [h1, hi]; rfl
      refine wpAny_binaryOp_repeat_ref (U := "int") (T := "tuple") (by decide) ⟨_, ho, rfl⟩ (fun z => typeIs_int z k t) noFill_tuple_mul F.fills_int_mul F.slot_int_rmul repeat_tuple F.slot_int_index.lookup ?_
      refine call_meets F.slot_int_rmul (typeIs_int s k t) F.entry_int_rmul (F.args_int_rmul_2 _ _) (int_rmul_tuple k t l its.toArray n dd sl) ⟨ho, rfl, ⟨_, ho, rfl⟩, ?_⟩
      exact call_meets F.slot_tuple_mul ⟨_, ho, rfl⟩ F.entry_tuple_mul (F.args_tuple_mul_2 _ _) (mul_once l its.toArray n dd sl k t c0 c1) ⟨ho, ⟨.ref l, H, I, rfl, q1 h1⟩⟩
    · have hk0 : k = 0 := by omega
      have c1 : (its.toArray.isEmpty || k == 1) = false := by rw [hk0, hi]; rfl
      have c2 : (decide (k ≤ 0) || its.toArray.isEmpty) = true := by rw [hk0]; rfl
      refine wpAny_binaryOp_repeat_ref (U := "int") (T := "tuple") (by decide) ⟨_, ho, rfl⟩ (fun z => typeIs_int z k t) noFill_tuple_mul F.fills_int_mul F.slot_int_rmul repeat_tuple F.slot_int_index.lookup ?_
      refine call_meets F.slot_int_rmul (typeIs_int s k t) F.entry_int_rmul (F.args_int_rmul_2 _ _) (int_rmul_tuple k t l its.toArray n dd sl) ⟨ho, rfl, ⟨_, ho, rfl⟩, ?_⟩
      refine call_meets F.slot_tuple_mul ⟨_, ho, rfl⟩ F.entry_tuple_mul (F.args_tuple_mul_2 _ _) (mul_none l its.toArray n dd sl k t c0 c1 c2) ⟨ho, ?_⟩
      refine ⟨.ref s.heap.objs.size, upd H s.heap.objs.size (.tup []), I.laid (t' := s.toks) (fun b ob q => Heap.get?_push_of_some _ q) (Nat.le_refl _) ?_, rfl, ?_⟩
      · exact ⟨Nat.zero_le _, [], .nil, IsTup.new _ _⟩
      · have := q2 h1 _ (I.hok.fresh (Nat.le_refl _))
        rw [hk0] at this
        exact this
end
section
variable {X : Cx} {W : WX} {a b e : Expr} {f g : Ms → R Dt} {p pos : Pos}
def repT : Dt → Dt → Option Dt | .tup xs, .int k => if xs ≠ [] ∧ xs.length ≤ 100 ∧ 0 ≤ k ∧ k ≤ 1000 then some (.tup (List.replicate k.toNat xs).flatten) else none | _, _ => none
theorem de_repT (ha : PE X a (tD X.K W f)) (hb : PE X b (tD X.K W g)) : PE X (.BinOp a .Mult b pos) (tD X.K W (op2 f g repT)) := de_op op_repA (fun F H v w d e z Q ex hv hw hz q => by
  unfold repT at hz
  split at hz <;> try cases hz
  split at hz <;> cases hz
  rename_i xs k hl
  obtain ⟨h1, h2, h3, h4⟩ := hl
  cases hw
  cases hv with
  | tup hs ha =>
    refine ⟨_, _, _, rfl, rfl, Evl.ex_t ex hs.sq, ?_, h3, h4, by rw [ha.length]; omega, fun hk => q.1 _ ?_, fun hk p hp => q.2 p _ hp ?_⟩
    · intro z
      rw [z] at ha
      cases ha
      exact h1 rfl
    · subst hk
      have e1 : (List.replicate (Int.toNat 1) xs).flatten = xs := by simp
      rw [e1]
      exact .tup hs ha
    · have hf : F p = none := by
        cases w : F p with
        | none => rfl
        | some o => rw [ex _ _ w] at hp; cases hp
      exact .tup upd_same (RpA.up (rp_flat ha _) (Ex.new hf))) ha hb
/-! ### all of a list of truths -/
def blsOf : List Dt → Option (List Bool)
  | [] => some []
  | .bl b :: ds => (blsOf ds).map (b :: ·)
  | _ => none
theorem blsOf_eq : ∀ {ds : List Dt} {bs : List Bool}, blsOf ds = some bs → ds = bs.map Dt.bl
  | [], bs, h => by cases h; rfl
  | .bl b :: ds, bs, h => by
    unfold blsOf at h
    cases q : blsOf ds with
    | none => rw [q] at h; cases h
    | some cs => rw [q] at h; cases h; rw [blsOf_eq q]; rfl
  | .non :: _, _, h | .int _ :: _, _, h | .str _ :: _, _, h | .lst _ :: _, _, h | .tup _ :: _, _, h | .obj _ _ _ :: _, _, h | .scr _ _ :: _, _, h => by cases h
theorem blsOf_map : ∀ bs : List Bool, blsOf (bs.map Dt.bl) = some bs
  | [] => rfl
  | b :: bs => by rw [List.map_cons, blsOf, blsOf_map bs]; rfl
theorem blsv {K : PySem.W.Frag} {F : Hp} : ∀ {vs : List V} {bs : List Bool}, RpA K F vs (bs.map Dt.bl) → vs = bs.map V.bl
  | _, [], .nil => rfl
  | _, b :: bs, .cons h t => by rw [h.blv, blsv t]; rfl
def allO : List Dt → Option Dt | [.lst xs] => (blsOf xs).map fun bs => .bl (bs.all id) | _ => none
theorem de_all (hcalm : X.calm = true) (hg : Gl X "all") (hm : X.mg "all" = none) (ha : PE X a (tD X.K W f)) (hs : starEach [a] X.env = (false, eval a X.env) :: starEach [] X.env := by rfl) : PE X (.Call (.Name "all" p) [a] [] pos) (tD X.K W (calE (aCons f aNil) allO)) :=
  de_calB (fun F H vs ds z Q ex hv hz q => by
    unfold allO at hz
    split at hz <;> try cases hz
    rename_i xs
    cases hn : blsOf xs with
    | none => rw [hn] at hz; cases hz
    | some bs =>
      rw [hn] at hz
      cases hz
      have e1 := blsOf_eq hn
      subst e1
      obtain ⟨v, rfl, h1⟩ := rpa1 hv
      cases h1 with
      | lst hs ha =>
        rw [blsv ha] at hs
        exact ⟨_, _, rfl, Evl.ex_l ex (Evl.sq_of hs), q.1 _ (.bl _)⟩) (cr_all hcalm) hg hm (by decide +kernel) (da_cons ha da_nil hs) (by decide) (by decide) hs (by rfl)
end
@[simp] theorem allO_run (bs : List Bool) : allO [.lst (bs.map Dt.bl)] = some (.bl (bs.all id)) := by unfold allO; dsimp only; rw [blsOf_map]; rfl
end Lq

namespace Lq
open PySem PySem.Spec PyProof.Rows L2
/-! ### comb -/
section
variable {X : Cx} {W : WX} {a b : Expr} {f g : Ms → R Dt} {p pos : Pos}
def rComb : List V → Hp → VK → Prop := fun vs H Q => ∃ a b : Int, vs = [V.int a, V.int b] ∧ 0 ≤ a ∧ 0 ≤ b ∧ a ≤ 18000 ∧ Q (.int (PySem.W.mcComb a b)) H
theorem cr_comb : CallR X (.builtin "math.comb") rComb := by
  intro pins s σ H vs us Q I r h
  obtain ⟨i, j, rfl, h1, h2, h3, q⟩ := h
  obtain ⟨t, u, rfl⟩ := Vals.int2 r
  exact PySem.W.mc_comb h1 h2 (by omega) (.inr h3) fun _ => ⟨.int _, H, I.tok _, ⟨_, rfl⟩, q⟩
def combO : List Dt → Option Dt | [.int i, .int j] => if 0 ≤ i ∧ 0 ≤ j ∧ i ≤ 18000 then some (.int (PySem.W.mcComb i j)) else none | _ => none
theorem de_comb (hg : Gl X "comb") (hm : X.mg "comb" = some (.builtin "math.comb")) (ha : PE X a (tD X.K W f)) (hb : PE X b (tD X.K W g)) (hs : starEach [a, b] X.env = (false, eval a X.env) :: starEach [b] X.env := by rfl) (hs2 : starEach [b] X.env = (false, eval b X.env) :: starEach [] X.env := by rfl) (hpl : (backTo pos (starEach [b] X.env)).any (·.1) = false := by rfl) :
    PE X (.Call (.Name "comb" p) [a, b] [] pos) (tD X.K W (calE (aCons f (aCons g aNil)) combO)) :=
  monoE (pe_callBfun cr_comb hg hm (da_cons ha (da_cons hb da_nil hs2) hs) (by decide) hs hpl) (dt_cal (fun F H vs ds z Q ex hv hz q => by
    unfold combO at hz
    split at hz <;> try cases hz
    split at hz <;> cases hz
    rename_i i j hc
    obtain ⟨v, w, rfl, h1, h2⟩ := rpa2 hv
    cases h1
    cases h2
    exact ⟨_, _, rfl, hc.1, hc.2.1, hc.2.2, q.1 _ (.int _)⟩))
end
end Lq

namespace Lq
open PySem PySem.Spec PyProof.Rows L2
/-! ### a method that holds its class in a cell -/
structure ScC (N ps : List Str) (sc : Scope) : Prop where
  kind : sc.kind = .function
  co : sc.isCoroutine = false
  gen : sc.isGenerator = false
  nd : N.Nodup
  pre : N.take ps.length = ps
  par : ∀ x ∈ ps, sc.names.lookup x = some .local
  cell : ∀ y ∈ sc.names, y.2 ≠ .cell
  free : ∀ y ∈ sc.names, y.2 = .free → y.1 = "__class__"
  kcl : sc.names.lookup ("__class__" : Str) = some .free
abbrev envK (qual : Str) (sc : Scope) (L f : Addr) (cd : Value) (cc : Addr) : Env := PySem.W.envX qual sc L f cd [("__class__", cc)]
def cxK (CX : CXT) (P : Program) (w : World) (K : PySem.W.Frag) (mg : Str → Option Value) (base : Heap) (N : List Str) (qual : Str) (scope : Scope) (f : Addr) (cd : Value) (cc : Addr) (A : Around) (outer : List Env) (s : Shared) (H : Hp) (E : XK) : Cx where
  prog := P
  w := w
  K := K
  mg := mg
  base := base
  A := A.deeper (envK qual scope s.heap.objs.size f cd cc)
  N := N
  s_0 := s
  H_0 := H
  env := envK qual scope s.heap.objs.size f cd cc
  outer := outer
  stack := envK qual scope s.heap.objs.size f cd cc :: outer
  ex := []
  calm := true
  fn := fun x => !(x == "__class__")
  pn := []
  xe := fun e s' => wpAny (model P w) (A.deeper (envK qual scope s.heap.objs.size f cd cc)) (leaving (envK qual scope s.heap.objs.size f cd cc) e) (fun _ s'' => CX outer H s E e s'') (fun e' s'' => CX outer H s E e' s'') s'
theorem mfz {α β : Type} : ∀ {ps : List α} {us : List β}, ps.Nodup → ((ps.zip us).map (·.1)).Nodup
  | [], _, _ => by simp
  | _ :: _, [], _ => by simp
  | p :: ps, u :: us, h => by
    rw [List.zip_cons_cons, List.map_cons, List.nodup_cons]
    obtain ⟨h1, h2⟩ := List.nodup_cons.mp h
    refine ⟨fun hm => ?_, mfz h2⟩
    obtain ⟨q, hq, e⟩ := List.mem_map.mp hm
    have e' : q.1 = p := e
    exact h1 (e' ▸ (List.of_mem_zip hq).1)
theorem lookup_rev {ps : List Str} (hnd : ps.Nodup) : ∀ {us : List Value} {i : Nat} {y : Str} {u : Value}, ps[i]? = some y → us[i]? = some u → (ps.zip us).reverse.lookup y = some u := by
  intro us i y u h1 h2
  have hmem : (y, u) ∈ (ps.zip us).reverse := by
    rw [List.mem_reverse]
    have hi : i < ps.length := (List.getElem?_eq_some_iff.mp h1).1
    have hi2 : i < us.length := (List.getElem?_eq_some_iff.mp h2).1
    refine List.mem_iff_getElem?.mpr ⟨i, ?_⟩
    rw [List.getElem?_zip_eq_some]
    exact ⟨h1, h2⟩
  have hnd2 : (((ps.zip us).reverse).map (·.1)).Nodup := by
    rw [List.map_reverse]
    exact (List.reverse_perm _).nodup_iff.mpr (mfz hnd)
  generalize (ps.zip us).reverse = l at *
  induction l with
  | nil => cases hmem
  | cons a l ih =>
    obtain ⟨k, v⟩ := a
    rw [List.map_cons, List.nodup_cons] at hnd2
    rcases List.mem_cons.mp hmem with h | h
    · cases h
      simp [List.lookup]
    · have hne : y ≠ k := fun e => hnd2.1 (List.mem_map.mpr ⟨(y, u), h, e⟩)
      have : (y == k) = false := by simpa using hne
      rw [List.lookup_cons, this]
      exact ih h hnd2.2
section
variable {CX : CXT} {P : Program} {w : World} {K : PySem.W.Frag} {mg : Str → Option Value} {base : Heap} {N ps : List Str} {qual : Str} {scope : Scope} {f cc D : Addr} {cd cl : Value} {cld : Option Addr} {csl : Array (Option Value)} {A : Around} {outer : List Env} {s : Shared} {H : Hp} {E : XK} {us : List Value} {vs : List V} {h₀ : Heap} {t : Nat}
theorem inv_startK (S : ScC N ps scope) (hd : A.handled = none) (e0 : Env0 P w K mg base A outer s H) (hl : vs.length = ps.length) (r : Vals vs us) (hcell : K.lookup cc = some ⟨cl, cld, .cell (some (.ref D)), csl⟩)
    (hns : h₀.Ns s.heap.objs.size (fun x => (ps.zip us).reverse.lookup x)) (hk : ∀ b o, s.heap.get? b = some o → h₀.get? b = some o) :
    Inv (cxK CX P w K mg base N qual scope f cd cc A outer s H E) [] (L2.start N vs) H { s with heap := h₀, toks := t } := by
  have hpl : ps.length ≤ N.length := by have := congrArg List.length S.pre; rw [List.length_take] at this; omega
  have cl1 : ∀ {x : Str} {c : Addr}, List.lookup x [(("__class__" : Str), cc)] = some c → x = "__class__" ∧ c = cc := fun {x c} h => by
    rw [List.lookup_cons] at h
    split at h
    · rename_i hx
      cases h
      exact ⟨by simpa using hx, rfl⟩
    · cases h
  have cl2 : List.lookup ("__class__" : Str) [(("__class__" : Str), cc)] = some cc := by simp [List.lookup]
  have hb := e0.mod.kin _ _ hcell
  have hbc := e0.bs _ _ hb
  refine ⟨⟨e0.mod, S.kind, rfl, rfl, Nat.le_refl _, fun y z c h1 h2 => (cl1 h1).1.trans (cl1 h2).1.symm, fun y hy => ?_, fun y c hf h => ?_, fun _ => hd, Around.frames_deeper e0.frames, .inr ⟨rfl, rfl⟩, fun b z => absurd z (by exact List.not_mem_nil), e0.bs, e0.bsz, fun b _ _ => by exact List.not_mem_nil, fun b z => absurd z (by exact List.not_mem_nil), e0.funs, e0.frf⟩,
    rfl, e0.bare, Un.kept hk, ⟨_, hns, fun i y v h1 h2 h3 => ?_⟩, fun y c h => ?_, e0.hok.fresh (Nat.le_refl _), fun y c h => ?_, fun p hp => absurd (show p ∈ ([] : List (Addr × Obj)) from hp) (by simp), e0.hok.kept hk, ?_⟩
  · have hy : scope.names.lookup y = some .cell ∨ scope.names.lookup y = some .free := hy
    rcases hy with hy | hy
    · exact absurd rfl (S.cell _ (PySem.mem_of_lookup hy))
    · have e := S.free _ (PySem.mem_of_lookup hy) rfl
      dsimp only at e
      rw [e]
      exact ⟨cc, cl2⟩
  · have e := (cl1 h).1
    rw [e] at hf
    have hf' : (!(("__class__" : Str) == "__class__")) = true := hf
    exact absurd hf' (by decide)
  · have hi : i < vs.length := by
      unfold L2.start at h2
      by_cases hi : i < vs.length
      · exact hi
      · rw [List.getElem?_append_right (by simpa using hi)] at h2
        rw [List.getElem?_replicate] at h2
        split at h2 <;> cases h2
    have ha : vs[i]? = some v := by
      unfold L2.start at h2
      rw [List.getElem?_append_left (by simpa using hi), List.getElem?_map] at h2
      cases e : vs[i]? with
      | none => rw [e] at h2; cases h2
      | some a => rw [e] at h2; cases h2; rfl
    obtain ⟨u, hu, rv⟩ := r.get ha
    have hp : ps[i]? = some y := by
      rw [← S.pre, List.getElem?_take_of_lt (by omega)]
      exact h1
    have ndP : ps.Nodup := by
      rw [← S.pre]
      exact S.nd.sublist (List.take_sublist _ _)
    exact ⟨u, rv, .inl ⟨S.par y (List.mem_of_getElem? hp), lookup_rev ndP hp hu⟩⟩
  · have e := (cl1 h).2
    rw [e]
    exact ⟨some (.ref D), _, hk _ _ hbc.1, rfl⟩
  · have e := (cl1 h).2
    rw [e]
    exact hbc.2
  · unfold L2.start
    show _ = N.length
    rw [List.length_append, List.length_map, List.length_replicate]
    omega
theorem fnK_of {k : Nat} {x : Str} {params : Arguments} {body : List Stmt} {kV doc pm ct oc : Value} {an od : Option Addr} {osl : Array (Option Value)} {sp : Sp} (lk : K.lookup f = some ⟨oc, od, .func (PySem.W.ksFn x qual params body scope .none kV doc pm an cd ct cc), osl⟩) (hcd : PySem.W.codeIn K cd qual = true)
    (S : ScC N ps scope) (hcell : K.lookup cc = some ⟨cl, cld, .cell (some (.ref D)), csl⟩) (len : ∀ vs H Q E, sp vs H Q E → vs.length = ps.length)
    (hbody : ∀ (A : Around) (outer : List Env) (s s1 : Shared) (H : Hp) (vs : List V) (Q : VK) (E : XK), Room k (A.deeper (envK qual scope s.heap.objs.size f cd cc)) → sp vs H Q E → Inv (cxK CX P w K mg base N qual scope f cd cc A outer s H E) [] (L2.start N vs) H s1 →
      _root_.PySem.wpAt (model P w) (A.deeper (envK qual scope s.heap.objs.size f cd cc)) (.func body (envK qual scope s.heap.objs.size f cd cc)) (execs body (envK qual scope s.heap.objs.size f cd cc)) (SP (cxK CX P w K mg base N qual scope f cd cc A outer s H E) [] { nx := fun _ H' => Q .non H', rt := Q }) (cxK CX P w K mg base N qual scope f cd cc A outer s H E).xe s1) :
    FnOk P w K mg base CX (k + 1) f (PySem.W.ksFn x qual params body scope .none kV doc pm an cd ct cc) ps sp := by
  refine ⟨len, fun A outer s H args us vs Q E hr e0 hb r hsp => ?_⟩
  have hl := len _ _ _ _ hsp
  have KX : K.In s.heap := e0.mod.kin.keeps fun b o e => (e0.bs b o e).1
  have lim : s.heap.NoLimit := e0.mod.nolimit.keeps fun b o e => (e0.bs b o e).1
  refine PySem.ks_codeAny_call_defAt (body := body) (binds := ps.zip us) hr.depth (KX _ _ lk) rfl lim (PySem.W.codeRec_of KX hcd) rfl hb S.cell (fun y hy => S.par _ (List.of_mem_zip (show (y.1, y.2) ∈ ps.zip us from hy)).1) (fun h₀ hns hk => ?_) S.co S.gen S.kind
  have I := inv_startK (CX := CX) (E := E) (qual := qual) (f := f) (cd := cd) (t := s.toks + (ps.zip us).length) S hr.hd e0 hl r hcell hns hk
  refine _root_.PySem.wpAt_mono (hbody A outer s _ H vs Q E (hr.deeper _) hsp I) (fun fl s' hs => ?_) fun e s' hs => hs
  have fin : ∀ {σ' : L2.St} {H' : Hp} {v : V} {u : Value}, Inv (cxK CX P w K mg base N qual scope f cd cc A outer s H E) [] σ' H' s' → RelV v u → Q v H' → CE outer P w H s Q u s' :=
    fun {σ' H' v u} J rv q => ⟨v, H', J.os, J.bare, J.base, J.hok, rv, q⟩
  cases fl with
  | ret u =>
    obtain ⟨v, σ', H', J, rv, q⟩ := hs
    exact fin J rv q
  | next =>
    obtain ⟨σ', H', J, q⟩ := hs
    exact fin (v := V.non) (u := Value.none) J rfl q
  | brk =>
    obtain ⟨_, _, _, q⟩ := hs
    exact False.elim q
  | cont =>
    obtain ⟨_, _, _, q⟩ := hs
    exact False.elim q
end
end Lq

namespace Lq
open PySem PySem.Spec PyProof.Rows L2
/-! ### super().__init__(..) of an error over ValueError -/
structure SupF (P : Program) (K : PySem.W.Frag) (mg : Str → Option Value) (f cda cc D C : Addr) (sc : Scope) (me : Str) : Prop where
  fn : ∃ oc od fd osl ar, K.lookup f = some ⟨oc, od, .func fd, osl⟩ ∧ (fd.params.posonlyargs ++ fd.params.args).head? = some ar ∧ ar.arg = me
  code : ∃ ccl cdd vs ccs file tf, K.lookup cda = some ⟨ccl, cdd, .fields vs, ccs⟩ ∧ vs[2]? = some (.str file tf) ∧ ((P.main.file : Str) == file) = true
  cell : ∃ cl cld csl, K.lookup cc = some ⟨cl, cld, .cell (some (.ref D)), csl⟩
  clD : ∃ cdD, PySem.W.clsIn K D = some cdD
  sub : PySem.W.mroIn K C (.ref D) = some true
  up : PySem.W.ks_superIn K C D "__init__" = some (some (.builtin "ValueError.__init__"))
  bas : PySem.W.subIn K (.ref C) (.type "ValueError") = some true
  any : PySem.W.nsIn K PySem.cStatics "thirdparty.any" = some none
  sup : mg "super" = none
  ksu : sc.names.lookup ("super" : Str) = some .globalImplicit
  kcl : sc.names.lookup ("__class__" : Str) = some .free
  ksl : sc.names.lookup me = some .local
  top : (P.main.scope.names.lookup ("super" : Str)).isSome = false
theorem cls_at {K : PySem.W.Frag} {h : Heap} {D : Addr} {cd : ClassData} (X : K.In h) (e : PySem.W.clsIn K D = some cd) : ∃ o, h.get? D = some o ∧ o.data = .cls cd := by
  unfold PySem.W.clsIn at e
  split at e
  · rename_i c d cd' sl ho
    cases e
    exact ⟨_, X _ _ ho, rfl⟩
  · cases e
section
variable {X : Cx} {pins : List (Addr × Obj)} {σ : L2.St} {H : Hp} {s : Shared} {a C : Addr}
/-- an error that is being made, as an instance -/
theorem exo_inst (T : OexC X.K C) (I : Inv X pins σ H s) (e : H a = some (exo a C none)) : ∃ t1 : Addr, s.heap.get? a = some ({ cls := .ref C, dict := none, data := .fields #[.ref t1, .none, .none, .none, .bool false, .none] } : Obj) := exo_at I.hok e
theorem fresh_fs (I : Inv X pins σ H s) {b : Addr} (hb : s.heap.objs.size ≤ b) : b ≠ X.env.locals ∧ b ∉ X.fs := by
  obtain ⟨m, ⟨oL, es, ep, hL, _⟩, _⟩ := I.loc
  have l1 : X.env.locals < s.heap.objs.size := Heap.lt_size hL
  have l2 := I.ok.above
  refine ⟨fun z => ?_, fun z => ?_⟩
  · rw [z] at hb
    exact absurd l1 (Nat.not_lt.mpr hb)
  · obtain ⟨_, o, ho, _⟩ := I.ok.funs.mem z
    have l3 : b < X.s_0.heap.objs.size := Heap.lt_size ho
    exact absurd (Nat.lt_of_lt_of_le l3 (Nat.le_trans l2 (Nat.le_of_lt l1))) (Nat.not_lt.mpr hb)
end
/-- the wrapper, called -/
theorem call_mw {prog : Program} {w : World} {A : Around} {E : Value → Shared → Prop} {h : Heap} {g : Array GenState} {d : Drawn} {t : Nat} {os : OsState} {nm q : Str} {C N u x t0 : Addr} {bs bm : List Value} {hdct : Bool} {sn : List Str} {sub : List Value} {ab : Bool} {col : Option Bool} {dd : Option Addr} {k0 k1 k2 k3 k5 : Option Value} {us : List Value} {Q : Value → Shared → Prop}
    (hC : h.get? C = some (excClassObj nm q C N bs bm hdct sn sub ab col dd k0 k1 k2 k3 k5 "ValueError.__new__")) (hx : h.get? x = some (PySem.HandSPX.excO C t0)) (hu : h.get? u = some (PySem.W.kxs_mw "ValueError.__init__" x)) (hz : us.length ≤ sizeLine)
    (hq : ∀ h' t1, (∀ b o, b ≠ x → h.get? b = some o → h'.get? b = some o) → h'.get? x = some (PySem.HandSPX.excO C t1) → Q .none ⟨h', g, d, t, os⟩) :
    wpAny (model prog w) A (call (.ref u) us) Q E ⟨h, g, d, t, os⟩ := by
  refine (wpAny_call (codeAny_of_tree (?_ : wpAny (model prog w) A.in1 (callAny (.ref u) ⟨us, []⟩) _ _ _)))
  simp only [callAny]
  refine wpAny_bind (wpAny_load hu (?_ : wpAny _ _ _ _ _ _))
  simp only [PySem.W.kxs_mw, show (Value.type "method-wrapper" == Value.type "method" || Value.type "method-wrapper" == Value.type "builtin_function_or_method" || Value.type "method-wrapper" == Value.type "method-wrapper") = true from by decide, if_true]
  refine PySem.W.KFB.if_so (by decide) (wpAny_bind (PySem.W.check_bound_init F.excBase_ValueError.toExcCallFacts hC hx rfl (wpAny_bind (wpAny_pure (wpAny_pure ?_)))))
  refine ⟨Code.quiet_builtin _ (by decide +kernel), codeAny_builtin (F.excBase_ValueError.initEntry) (?_ : wpAny _ _ _ _ _ _)⟩
  rw [Around.under_plainId (F.excBase_ValueError.init.plain) _]
  wp_walk
  refine hq _ h.objs.size (fun b o hb ho => (Heap.get?_update_other _ _ (Ne.symm hb)).trans (Heap.get?_push_of_some _ ho)) ((Heap.get?_update_self _ (Heap.get?_push_of_some _ hx) rfl).trans rfl)
section
variable {CX : CXT} {P : Program} {w : World} {K : PySem.W.Frag} {mg : Str → Option Value} {base : Heap} {N : List Str} {qual me : Str} {scope : Scope} {f cda cc D C a : Addr} {A : Around} {outer : List Env} {s0 s : Shared} {H0 H : Hp} {E : XK} {pins : List (Addr × Obj)} {σ : L2.St} {body : List Stmt} {e : Expr} {p0 p1 p2 p3 p4 : Pos} {ta : TA} {Rr : Hp → Prop} {pl : Sem Bool}
theorem super_run (S : SupF P K mg f cda cc D C scope me) (hk : scope.kind = .function) (T : OexC K C) (I : Inv (cxK CX P w K mg base N qual scope f (.ref cda) cc A outer s0 H0 E) pins σ H s) (hN : N[0]? = some me) (hσ : σ[0]? = some (some (.ref a))) (he : H a = some (exo a C none))
    (ha : PA (cxK CX P w K mg base N qual scope f (.ref cda) cc A outer s0 H0 E) [e] ta) (h : ta σ H fun vs H1 => vs.length ≤ 1000 ∧ H1 a = some (exo a C none) ∧ Rr H1)
    (hev : eval (.Call (.Attribute (.Call (.Name "super" p0) [] [] p1) "__init__" p2) [e] [] p3) (envK qual scope s0.heap.objs.size f (.ref cda) cc) = (do
      let ov ← attributeBase (.Call (.Name "super" p0) [] [] p1) "__init__" (envK qual scope s0.heap.objs.size f (.ref cda) cc) (eval (.Call (.Name "super" p0) [] [] p1) (envK qual scope s0.heap.objs.size f (.ref cda) cc))
      standAt p2.atName
      let (g1, first) ← holding [ov] (getMethod ov "__init__" pl)
      callWith p3 g1 first (backTo p3 (starEach [e] (envK qual scope s0.heap.objs.size f (.ref cda) cc))) []) := by rfl)
    (hi : interactive (envK qual scope s0.heap.objs.size f (.ref cda) cc) = false := by rfl) (hsw : swapsWith (.Call (.Attribute (.Call (.Name "super" p0) [] [] p1) "__init__" p2) [e] [] p3) none p4.line (envK qual scope s0.heap.objs.size f (.ref cda) cc) = pure false := by rfl) (hst : starEach [e] (envK qual scope s0.heap.objs.size f (.ref cda) cc) = (false, eval e (envK qual scope s0.heap.objs.size f (.ref cda) cc)) :: starEach [] (envK qual scope s0.heap.objs.size f (.ref cda) cc) := by rfl) :
    _root_.PySem.wpAt (model P w) (A.deeper (envK qual scope s0.heap.objs.size f (.ref cda) cc)) (.func body (envK qual scope s0.heap.objs.size f (.ref cda) cc)) (exec (.Expr (.Call (.Attribute (.Call (.Name "super" p0) [] [] p1) "__init__" p2) [e] [] p3) p4) (envK qual scope s0.heap.objs.size f (.ref cda) cc))
      (fun fl s' => fl = .next ∧ ∃ H1, Inv (cxK CX P w K mg base N qual scope f (.ref cda) cc A outer s0 H0 E) pins σ H1 s' ∧ Rr H1) (cxK CX P w K mg base N qual scope f (.ref cda) cc A outer s0 H0 E).xe s := by
  obtain ⟨oc, od, fd, osl, ar, lf, hp, har⟩ := S.fn
  obtain ⟨ccl, cdd, vs, ccs, file, tf, lc, hvs, hfile⟩ := S.code
  obtain ⟨cl, cld, csl, lcc⟩ := S.cell
  obtain ⟨cdD, hD⟩ := S.clD
  have KX : K.In s.heap := I.kIn
  obtain ⟨oD, hD1, hD2⟩ := cls_at KX hD
  obtain ⟨t1, hx⟩ := exo_inst T I he
  refine PySem.ks_wpAt_Expr_any (PySem.ks_wpAt_MethodCall (PySem.ks_wpAt_super_base S.ksu S.kcl (by decide) rfl (KX _ _ lf) rfl hp rfl (KX _ _ lc) rfl hvs hfile S.top ?_) hev) hi hsw
  obtain ⟨mb, hb1, hb2⟩ := I.mod.blt
  refine PySem.W.ks_loadName_global hk S.ksu (PySem.Calls.loadGlobal_builtin (I.mod.glob.keeps I.bk) S.sup (hb1.keeps I.bk) ((hb2 _ (by decide +kernel)).trans (by decide +kernel)) ⟨rfl, ?_⟩)
  refine wpAny_loadName_free hk S.kcl rfl ⟨_, KX _ _ lcc, rfl⟩ ?_
  obtain ⟨m, hm1, hm2⟩ := I.loc
  obtain ⟨u, hu1, hu2⟩ := hm2 0 me (.ref a) hN hσ (.inl S.ksl)
  cases hu1
  have hml : m me = some (.ref a) := by
    rcases hu2 with ⟨_, z⟩ | ⟨z, _⟩
    · exact z
    · have k1 : scope.names.lookup me = some .cell ∨ scope.names.lookup me = some .free := z
      rw [S.ksl] at k1
      rcases k1 with k1 | k1 <;> cases k1
  refine wpAny_loadName_local hk (by rw [har]; exact S.ksl) hm1 (by rw [har]; exact hml) ?_
  obtain ⟨hh, g, d, t, os⟩ := s
  refine PySem.ks_wpAny_isType_cls hD1 hD2 ⟨rfl, ?_⟩
  refine PySem.ks_wpAny_call_super hD1 hD2 hx rfl (fun c z => by cases z) (PySem.W.looks_mroIn KX S.sub) (fun h1 e1 k1 => ?_)
  have I1 := I.kept (h' := h1) (t' := t) k1
  obtain ⟨t2, hx1⟩ := exo_inst T I1 he
  have KX1 : K.In h1 := I1.kIn
  obtain ⟨cdC, hcC, hal⟩ : ∃ cdC, PySem.W.clsIn K C = some cdC ∧ PySem.W.alongIn K "__init__" ((cdC.mro.dropWhile (· != .ref D)).drop 1) = some (some (.builtin "ValueError.__init__")) := by
    have q := S.up
    unfold PySem.W.ks_superIn at q
    cases hc : PySem.W.clsIn K C with
    | none => rw [hc] at q; cases q
    | some cd => rw [hc] at q; exact ⟨cd, rfl, q⟩
  obtain ⟨oC, hC1, hC2⟩ := cls_at KX1 hcC
  have inst : PySem.W.InstAt h1 a _ C none := ⟨hx1, rfl, rfl, trivial⟩
  have aC : a ≠ C := fun z => by
    rw [z, hC1] at hx1
    cases hx1
    cases hC2
  refine PySem.W.kxs_getMethod PySem.W.kxs_ValueError e1 (PySem.W.looks_opaque KX1 S.any) (l₀ := cdC.mro) (fun A Q E s k q => wpAny_bind ((PySem.W.looks_clsIn KX1 hcC) A _ E s k (wpAny_pure q))) rfl KX1 hal (inst.type.andThen (PySem.W.looks_subIn KX1 S.bas)) aC (by decide) ?_
  have I2 := I1.kept (h' := h1.push (PySem.W.kxs_mw "ValueError.__init__" a)) (t' := t + 1) (fun b o z => Heap.get?_push_of_some _ z)
  have hu : (h1.push (PySem.W.kxs_mw "ValueError.__init__" a)).get? h1.objs.size = some (PySem.W.kxs_mw "ValueError.__init__" a) := Heap.get?_push_at rfl rfl
  have fr := fresh_fs I1 (Nat.le_refl h1.objs.size)
  have I3 := I2.pins_of (pins' := (h1.objs.size, PySem.W.kxs_mw "ValueError.__init__" a) :: pins) (fun p hp => by
    rcases List.mem_cons.mp hp with rfl | hp
    · exact ⟨hu, I1.hok.fresh (Nat.le_refl _), fr.1, fr.2, fun v z => by cases z⟩
    · exact I2.pin p (List.mem_append_right _ hp))
  refine PySem.W.kxs_callWith (i := "ValueError.__init__") (x := a) (by rw [hst]; rfl) ?_
  rw [hst]
  refine PySem.Calls.evalArgs_plain ?_
  suffices key : wpAny (model P w) (A.deeper (envK qual scope s0.heap.objs.size f (.ref cda) cc)) (spliced (backTo p3 (starEach [e] (envK qual scope s0.heap.objs.size f (.ref cda) cc)))) (fun vs s' => PySem.W.KxsAt "ValueError.__init__" h1.objs.size a s'.heap ∧ wpAny (model P w) (A.deeper (envK qual scope s0.heap.objs.size f (.ref cda) cc)) (call (.ref h1.objs.size) vs) (fun _ s' => Flow.next = Flow.next ∧ ∃ H1, Inv (cxK CX P w K mg base N qual scope f (.ref cda) cc A outer s0 H0 E) pins σ H1 s' ∧ Rr H1) (cxK CX P w K mg base N qual scope f (.ref cda) cc A outer s0 H0 E).xe s') (cxK CX P w K mg base N qual scope f (.ref cda) cc A outer s0 H0 E).xe ⟨h1.push (PySem.W.kxs_mw "ValueError.__init__" a), g, d, t + 1, os⟩ by
    rw [hst] at key
    exact key
  refine thn (ha.run p3 _ _ σ H _ I3 h) fun us s4 ⟨ws, H1, I4, rv, hz, he1, hr⟩ => ?_
  have hu4 := (I4.pin _ (List.mem_append_right _ List.mem_cons_self)).1
  refine ⟨hu4, ?_⟩
  obtain ⟨nm, qn, N', bs, bm, sn, sub, ab, col, dd, k0, k1', k2, k3, k5, hC, hbm⟩ := T.cls
  obtain ⟨t3, hx4⟩ := exo_inst T I4 he1
  obtain ⟨h4, g4, d4, t4, os4⟩ := s4
  refine call_mw (I4.kIn _ _ hC) hx4 hu4 (by rw [← rv.length]; exact Nat.le_trans hz (by decide)) (fun h5 t5 k5' hx5 => ⟨rfl, H1, ?_, hr⟩)
  have J := I4.write (t' := t4) (x := a) (e := a) (o := exo a C none) (by rw [he1]; trivial) (.inl rfl) k5' ⟨_, hx5⟩ (exo_ok hx5)
  have same : upd H1 a (exo a C none) = H1 := funext fun b => by
    by_cases hb : b = a
    · rw [hb, upd_same, he1]
    · exact upd_ne hb
  rw [same] at J
  exact J.pins_of fun p hp => J.pin p (List.mem_append_right _ (List.mem_cons_of_mem _ hp))
end
end Lq

namespace Lq
open PySem PySem.Spec PyProof.Rows L2
open Evl (Ex)
/-! ### raising an own error -/
/-- an error whose __init__ takes a text and keeps it in a field -/
def spI1 (C : Addr) (fld : Str) : Sp := fun vs H Q _ => ∃ (a : Addr) (y : Str), vs = [.ref a, .str y] ∧ y.length ≤ 1000 ∧ H a = some (exo a C none) ∧ ∀ dx, H dx = none → dx ≠ a → Q .non (upd (upd H dx (exd dx [(fld, .str y)])) a (exo a C (some dx)))
def raiseS (e : Er) : Ms → O := fun S => .er e S
theorem ds_raise1 {X : Cx} {W : WX} {CX : CXT} {x m fld : Str} {j : Nat} {p p2 pos pos' : Pos} {C fI : Addr} {k : Nat} {fd : FuncData} (hc : X.calm = true) (tk : Takes X W) (T : OexC X.K C) (iC : PySem.W.findIn X.K (.ref C) "__init__" = some (some (.ref fI))) (tI : PySem.W.typeIn X.K (.ref fI) = some (.type "function"))
    (F1 : FnOk X.prog X.w X.K X.mg X.base CX k fI fd ["self", fld] (spI1 C fld)) (hr : Room (k + 1) X.A) (hb : Binds X.K fd ["self", fld] []) (hx : Passes CX X (fun _ _ _ => False)) (hg : Gl X x) (hm : X.mg x = some (.ref C)) (hl : m.length ≤ 1000) (hdb : (x == ("__debug__" : Str)) = false := by decide)
    (hst : starEach [Expr.Constant (.str m) j p2] X.env = (false, eval (.Constant (.str m) j p2) X.env) :: starEach [] X.env := by rfl) (hpl : (backTo pos (starEach [] X.env)).any (·.1) = false := by rfl) :
    PS X (.Raise (some (.Call (.Name x p) [.Constant (.str m) j p2] [] pos)) none pos') (sD X.K W (raiseS ⟨C, [fld], [.str m]⟩)) :=
  monoS (ps_raise hc tk (pmk_oex T iC tI F1 hr hb .nil hx hg hm (pa_cons pe_str pa_nil hst) hdb hst hpl)) fun D σ H q => by
    obtain ⟨B, F, as, S, r, o⟩ := q
    refine ⟨(show 1 ≤ 1000 by decide), fun a na => ⟨a, m, rfl, hl, upd_same, fun dx h1 h2 => ⟨rfl, dx, [(fld, .str m)], upd_same, (upd_ne h2).trans upd_same, ?_, ?_⟩⟩⟩
    · rwa [upd_ne h2] at h1
    · have h3 : H dx = none := by rwa [upd_ne h2] at h1
      have e : upd (del (upd (upd (upd H a (exo a C none)) dx (exd dx [(fld, .str m)])) a (exo a C (some dx))) a) dx (.xd [(fld, .str m)]) = upd H dx (.xd [(fld, .str m)]) := funext fun b => by
        by_cases hb : b = dx
        · rw [hb, upd_same, upd_same]
        · rw [upd_ne hb, upd_ne hb]
          by_cases ha : b = a
          · rw [ha, del_same, na]
          · rw [del_ne ha, upd_ne ha, upd_ne hb, upd_ne ha]
      rw [e]
      obtain ⟨ee, r2⟩ := r.new h3 (.xd [(fld, .str m)])
      exact o σ _ _ as (some dx) [(fld, .str m)] ee r2 upd_same rfl (.cons (.str m) .nil)
end Lq

/-! isinstance of a caught own error that has fields -/
namespace PySem.W
open PySem PySem.Spec PySem.Calls PyProof.Rows
theorem lq_findC {K : Frag} {C : Addr} {nm : Str} {a g : Value} {od : Option Obj} (hC : (clsIn K C).isSome = true) (h1 : findIn K (.ref C) nm = some (some a)) (h2 : specialIn K a "__get__" = some (some g)) (h3 : takesIn K a = some true) : findObj K C od nm = some (.bind g a) := by
  obtain ⟨cd, hc⟩ := Option.isSome_iff_exists.mp hC
  unfold findObj
  rw [hc, Option.bind_some, h1, Option.bind_some] <;> simp [h2, h3]
section
variable {prog : Program} {w : World} {A : Around} {E : Value → Shared → Prop} {s : Shared} {K : Frag} {x D : Addr} {ox : Obj} {od : Option Obj}
theorem lq_class {Q : Option Value → Shared → Prop} (T : L2.ExcC K D) (X : K.In s.heap) (I : InstAt s.heap x ox D od) (h : Q (some (.ref D)) { s with toks := s.toks + 1 }) : wpAny (model prog w) A (getAttr? (.ref x) "__class__") Q E s := by
  have hf : findObj K D od "__class__" = some (.bind (.builtin "getset_descriptor.__get__") (.builtin "object.__class__")) := lq_findC (by obtain ⟨cd, hc, _⟩ := any_some T.hd; rw [hc]; rfl) T.ha T.hn T.ht
  obtain ⟨hp, g, d, t, os⟩ := s
  have l0 := I.type (M := model prog w)
  have l1 := looks_findIn (M := model prog w) X T.hg
  have l2 := looks_findIn (M := model prog w) X T.hk
  have l3 := looks_find (M := model prog w) X I hf
  have lb : Looks (model prog w) hp (isInstance (.ref x) (.type "BaseException")) true := l0.andThen (looks_subIn X T.hs)
  have z0 : (false && onTheHeap (Value.builtin "BaseException.__getattribute__")) = false := rfl
  have z2 : (Value.builtin "BaseException.__getattribute__" == Value.builtin "object.__getattribute__") = false := by decide +kernel
  have z1 : (onTheHeap (Value.ref D) && Value.builtin "BaseException.__getattribute__" == Value.builtin "object.__getattribute__") = false := by rw [z2] <;> rfl
  unfold getAttr? getAttrBy? getAttrBy
  refine (wpAny_bind (wpAny_mkText (wpAny_bind (wpAny_attempt (wpAny_holding (wpAny_bind (l0.at (wpAny_bind (l1.at (?_ : wpAny _ _ (if (onTheHeap (Value.ref D) && Value.builtin "BaseException.__getattribute__" == Value.builtin "object.__getattribute__") = true then _ else _) _ _ _))))))))))
  rw [z1, if_neg (fun z => Bool.noConfusion z)]
  unfold getAttrByItsOwn hookBefore
  refine wpAny_bind (?_ : wpAny _ _ _ _ _ _)
  rw [if_pos (show (onTheHeap (Value.ref D)) = true from by rfl)]
  refine l2.at (wpAny_bind (wpAny_attempt (wpAny_holding (?_ : wpAny _ _ _ _ _ _))))
  unfold callGetattribute
  rw [z0, if_neg (fun z => Bool.noConfusion z)]
  unfold boundAndCalled
  rw [(PySem.F.excAttr_ValueError.ga.bind (.ref x))]
  refine wpAny_bind (wpAny_pure (?_ : wpAny _ _ (call (.builtin "BaseException.__getattribute__") [.ref x, .str "__class__" t]) _ _ _))
  refine wpAny_call (codeAny_call_builtin PySem.F.excAttr_ValueError.ga.plain PySem.F.entry_bexc_ga (@check_slot (model prog w) _ _ ⟨hp, g, d, t + 1, os⟩ "BaseException.__getattribute__" "BaseException" "__getattribute__" (.ref x) [.str "__class__" t] [] _ (by decide +kernel) (by decide +kernel) lb (PySem.F.args_bexc_ga (.ref x) (.str "__class__" t)) ?_))
  unfold Builtin.«object.__getattribute__»
  refine wpAny_bind (wpAny_of_eq (a := ((Value.ref x : Value), [Value.str "__class__" t])) (by first | rfl | (simp only [slotArgs] <;> rfl)) (wpAny_bind (wpAny_pure (wpAny_bind (l0.at (wpAny_bind (l3.at ?_)))))))
  show wpAny _ _ (holding [Value.builtin "object.__class__"] (call (.builtin "getset_descriptor.__get__") [.builtin "object.__class__", .ref x, .ref D]) >>= ret) _ _ (_ : Shared)
  refine wpAny_bind (wpAny_holding (wpAny_call (class_get (s := ⟨hp, g, d, t + 1, os⟩) (ox := ox) (od := od) X I T.hm (wpAny_pure (?_ : wpAny _ _ (handedOut (.ref D)) _ _ _)))))
  rw [handedOut_of (rfl : _ = _)]
  first
    | exact (wpAny_pure (wpAny_pure h))
    | exact (wpAny_pure h)
    | exact (wpAny_pure (wpAny_bind (wpAny_pure (wpAny_pure h))))
end
end PySem.W
namespace Lq
open PySem PySem.Spec PyProof.Rows L2
theorem kitD {K : PySem.W.Frag} {D x : Addr} {ox : Obj} (T : ExcC K D) : PySem.W.KitX K (.ref x) (.ref D) (fun h => ∃ od, PySem.W.InstAt h x ox D od) where
  ty := fun _ _ _ ⟨_, I⟩ => I.type
  it := fun M h X _ => by
    obtain ⟨cd, hc, _⟩ := PySem.W.any_some T.hd
    unfold PySem.W.clsIn at hc
    split at hc
    · rename_i u1 u2 u3 u4 ho
      exact fun A' Q' E' s' k q => wpAny_bind (wpAny_loadPart (k _ _ (X _ _ ho)) (wpAny_pure q))
    · cases hc
  ne := fun h tp dd its n sl X htp => Bool.eq_false_iff.mpr fun q => by
    have e : D = tp := Value.ref.inj (beq_iff_eq.mp q)
    subst e
    obtain ⟨cd, hc, _⟩ := PySem.W.any_some T.hd
    unfold PySem.W.clsIn at hc
    split at hc
    · rename_i u1 u2 u3 u4 ho
      cases (X _ _ ho).symm.trans htp
    · cases hc
  ca := fun X ⟨_, I⟩ k => PySem.W.lq_class T X I k
section
variable {X : Cx} {a D dx : Addr} {oe : Obj} {pn : List (Addr × Obj)}
theorem instD {pins : List (Addr × Obj)} {σ : L2.St} {H : Hp} {s : Shared} {fs : List (Str × V)} (hz : Zc (.ref D) (some dx) oe) (hf : ∃ vs, oe.data = .fields vs) (I : Inv (X.suite a ((a, oe) :: pn)) pins σ H s) (hd : H dx = some (.xd fs)) : ∃ od, PySem.W.InstAt s.heap a oe D od := by
  obtain ⟨ha, _⟩ := I.pin (a, oe) (List.mem_append_left _ List.mem_cons_self)
  obtain ⟨vs, hv⟩ := hf
  obtain ⟨mA, hns, _⟩ := (show ObjOk X.prog X.w H s.heap dx (.xd fs) from I.hok dx _ hd)
  obtain ⟨od, ho, _⟩ := lookIn_ns hns
  exact ⟨some od, ha, hz.1, by unfold PySem.W.notCls; rw [hv] <;> rfl, by rw [hz.2]; exact ho⟩
/-- isinstance(e, c), e the error that the suite holds -/
def rIsD (K : PySem.W.Frag) (D a dx : Addr) : List V → Hp → VK → Prop := fun xs H Q => ∃ (fs : List (Str × V)) (c : V) (cv : Value) (b : Bool), H dx = some (.xd fs) ∧ xs = [.ref a, c] ∧ (∀ u, RelV c u → u = cv) ∧ PySem.W.kitOne K (.ref D) cv = some b ∧ Q (.bl b) H
theorem call_isD (T : ExcC X.K D) (hz : Zc (.ref D) (some dx) oe) (hf : ∃ vs, oe.data = .fields vs) : CallR (X.suite a ((a, oe) :: pn)) (.builtin "isinstance") (rIsD X.K D a dx) := by
  intro pins s σ H xs us Q I r h
  obtain ⟨fs, c, cv, b, hd, rfl, hcv, e, q⟩ := h
  obtain ⟨u1, u2, rfl, r1, r2⟩ := vals2 r
  cases (show u1 = Value.ref a from r1)
  cases hcv _ r2
  exact PySem.W.kia_one (kitD T) I.kIn (instD hz hf I hd) e (fun z => nomatch z) fun tk => ⟨.bl b, H, I.tok tk, rfl, q⟩
/-- isinstance(e, (c, ..)) -/
def rIsDT (K : PySem.W.Frag) (D a dx : Addr) : List V → Hp → VK → Prop := fun xs H Q => ∃ (fs : List (Str × V)) (tp : Addr) (cs : List V) (us : List Value) (b : Bool), H dx = some (.xd fs) ∧ xs = [.ref a, .ref tp] ∧ H tp = some (.tup cs) ∧ Paired ClsV cs us ∧ PySem.W.kitAny K (.ref D) us = some b ∧ Q (.bl b) H
theorem call_isDT (T : ExcC X.K D) (hz : Zc (.ref D) (some dx) oe) (hf : ∃ vs, oe.data = .fields vs) : CallR (X.suite a ((a, oe) :: pn)) (.builtin "isinstance") (rIsDT X.K D a dx) := by
  intro pins s σ H xs us Q I r h
  obtain ⟨fs, tp, cs, ws, b, hd, rfl, hT, k, e, q⟩ := h
  obtain ⟨u1, u2, rfl, r1, r2⟩ := vals2 r
  cases (show u1 = Value.ref a from r1)
  cases (show u2 = Value.ref tp from r2)
  obtain ⟨_, its, rv, o, h1, h2, n, h3⟩ := (show ObjOk X.prog X.w H s.heap tp (.tup cs) from I.hok tp _ hT)
  have e3 := ClsV.all k rv
  obtain ⟨oc, od, dt, sl⟩ := o
  simp only at h2 h3
  subst e3 h2 h3
  exact PySem.W.kia_tup (kitD T) I.kIn (instD hz hf I hd) h1 e (fun z => nomatch z) fun tk => ⟨.bl b, H, I.tok tk, rfl, q⟩
end
end Lq

namespace Lq
open PySem PySem.Spec PyProof.Rows L2
open Evl (Ex)
section
variable {X : Cx} {W : WX} {a b c e : Expr} {pos : Pos} {f g : Ms → R Dt}
theorem rd_inD {K : PySem.W.Frag} : RulD K (rInD K) (inD false) := fun F H v w d e z Q ex hv hw hz q => by
  cases e <;> simp only [inD] at hz <;> try cases hz
  split at hz
  · rename_i h
    simp only [Bool.and_eq_true, shp] at h
    cases hz
    have h2 := Dp.up ex h.2.1 hw
    rw [toPy] at h2
    have h3 := h.2.2
    rw [toPy] at h3
    exact ⟨_, _, Dp.up ex h.1.1 hv, h2, h.1.2, h3, q.1 _ (.bl _)⟩
  · cases hz
theorem de_inD (hu : X.A.units + 65 < cLine) (ha : PE X a (tD X.K W f)) (hb : PE X b (tD X.K W g)) (hm : behindInMarks .In b = false := by rfl) : PE X (.Compare a [.In] [b] pos) (tD X.K W (op2 f g (inD false))) :=
  de_cmp (op_inD hu) rd_inD ha hb hm
end
theorem inD_en {α : Type} [DecidableEq α] [En α] (h : En.dep α + 1 ≤ 64 := by decide) (neg : Bool) (a : α) (xs : List α) : inD neg (En.en a) (.lst (xs.map En.en)) = some (.bl (if neg then !decide (a ∈ xs) else decide (a ∈ xs))) := by
  have h1 : shp (En.en a) = true := shp_en (by omega) a
  have h2 : shp (.lst (xs.map En.en)) = true := shp_en (α := Ls α) h ⟨xs⟩
  have h3 : ((toPys (xs.map En.en)).any fun z => PyData.eqv z (toPy (En.en a))) = decide (a ∈ xs) := by
    clear h2
    induction xs with
    | nil => simp [toPys]
    | cons x xs ih =>
      rw [List.map_cons, toPys, List.any_cons, ih, En.eqv x a]
      by_cases e : x = a
      · simp [e]
      · have e2 : ¬ a = x := fun z => e z.symm
        simp [e, e2]
  unfold inD
  simp only [h1, h2, h3]
  rfl
end Lq

namespace Lq
open PySem PySem.Spec PyProof.Rows L2
/-! ### contracts by a description of the arguments -/
open Classical in
noncomputable def mkF {α : Type} (args : α → List Dt) (pre : α → Prop) (res : α → Fo) (ds : List Dt) : Fo := if h : ∃ a, pre a ∧ ds = args a then res h.choose else .no
theorem mkF_inv {α : Type} {args : α → List Dt} {pre : α → Prop} {res : α → Fo} {ds : List Dt} (h : mkF args pre res ds ≠ .no) : ∃ a, pre a ∧ ds = args a ∧ mkF args pre res ds = res a := by
  unfold mkF at h ⊢
  split at h
  · rename_i hc
    refine ⟨hc.choose, hc.choose_spec.1, hc.choose_spec.2, ?_⟩
    rw [dif_pos hc]
  · exact absurd rfl h
theorem mkF_run {α : Type} {args : α → List Dt} {pre : α → Prop} {res : α → Fo} (inj : ∀ a b, args a = args b → a = b) (a : α) (ha : pre a) : mkF args pre res (args a) = res a := by
  have hc : ∃ b, pre b ∧ args a = args b := ⟨a, ha, rfl⟩
  unfold mkF
  rw [dif_pos hc, ← inj _ _ hc.choose_spec.2]
open Classical in
noncomputable def mkM {α : Type} (st args : α → List Dt) (pre : α → Prop) (res : α → FoM) (xs ds : List Dt) : FoM := if h : ∃ a, pre a ∧ xs = st a ∧ ds = args a then res h.choose else .no
theorem mkM_inv {α : Type} {st args : α → List Dt} {pre : α → Prop} {res : α → FoM} {xs ds : List Dt} (h : mkM st args pre res xs ds ≠ .no) : ∃ a, pre a ∧ xs = st a ∧ ds = args a ∧ mkM st args pre res xs ds = res a := by
  unfold mkM at h ⊢
  split at h
  · rename_i hc
    refine ⟨hc.choose, hc.choose_spec.1, hc.choose_spec.2.1, hc.choose_spec.2.2, ?_⟩
    rw [dif_pos hc]
  · exact absurd rfl h
theorem mkM_run {α : Type} {st args : α → List Dt} {pre : α → Prop} {res : α → FoM} (inj : ∀ a b, st a = st b → args a = args b → a = b) (a : α) (ha : pre a) : mkM st args pre res (st a) (args a) = res a := by
  have hc : ∃ b, pre b ∧ st a = st b ∧ args a = args b := ⟨a, ha, rfl, rfl⟩
  unfold mkM
  rw [dif_pos hc, ← inj _ _ hc.choose_spec.2.1 hc.choose_spec.2.2]
theorem Wd_inj {v w : List Int} (h : Wd v = Wd w) : v = w := by
  have := congrArg wordOf h
  rw [wordOf_Wd, wordOf_Wd] at this
  exact Option.some.inj this
theorem mapWd_inj {v w : List (List Int)} (h : v.map Wd = w.map Wd) : v = w := by
  have := congrArg wordsOf h
  rw [wordsOf_map, wordsOf_map] at this
  exact Option.some.inj this
/-- a loop that returns at the first item that passes, or goes on behind it -/
theorem forL_find2 {α : Type} {k : Dt → Ms → Option Ms} {body : Ms → O} (enc : α → Dt) (b : α → Bool) (res : α → Dt) (I : Ms → Prop) : ∀ (xs : List α) (S : Ms), I S →
    (∀ x ∈ xs, ∀ S, I S → ∃ S1, k (enc x) S = some S1 ∧ (b x = true → ∃ S2, body S1 = .rt (res x) S2) ∧ (b x = false → ∃ S2, body S1 = .nx S2 ∧ I S2)) → match xs.find? b with
      | some y => ∃ S', forL k body (xs.map enc) S = .rt (res y) S'
      | none => ∃ S', forL k body (xs.map enc) S = .nx S' ∧ I S'
  | [], S, hI, hs => ⟨S, rfl, hI⟩
  | x :: xs, S, hI, hs => by
    obtain ⟨S1, h1, h2, h3⟩ := hs x List.mem_cons_self S hI
    rw [List.map_cons]
    unfold forL
    rw [h1]
    dsimp only
    cases hb : b x with
    | true =>
      rw [List.find?_cons, hb]
      obtain ⟨S2, e⟩ := h2 hb
      rw [e]
      exact ⟨S2, rfl⟩
    | false =>
      rw [List.find?_cons, hb]
      obtain ⟨S2, e, hI2⟩ := h3 hb
      rw [e]
      exact forL_find2 enc b res I xs S2 hI2 (fun z hz => hs z (List.mem_cons_of_mem _ hz))
/-- [x for x in word if x != 0] -/
theorem nz_run {S : Ms} {a i : Nat} {v : List Int} {d : Dt} (ha : S.sl[a]? = some (.im d)) (hd : seqOf d = some (v.map Dt.int)) (hil : i < S.sl.length) (hl : v.length ≤ 100000) :
    lcE (itS (varE a)) (Tk.nm i).k (tst (op2 (varE i) (cE (.int 0)) neO)) (varE i) [i] S = .ok ((v.filter fun x => decide (x ≠ 0)).map Dt.int) S := by
  refine lcE_flt Dt.int _ Dt.int v ?_ (fun x hx => ?_) hl
  · rw [itS_run, varE_im ha, R.bind_ok, hd, R.of_some]
  · have e1 : ((wipeL S.sl [i]).set i (.im (.int x)))[i]? = some (.im (.int x)) := by
      rw [List.getElem?_set, if_pos rfl, if_pos]
      simpa [wipeL] using hil
    have e2 := varE_im (S := { sl := (wipeL S.sl [i]).set i (.im (.int x)), mo := S.mo }) e1
    refine ⟨_, { sl := (wipeL S.sl [i]).set i (.im (.int x)), mo := S.mo }, kNm _ _ _, ?_, rfl, fun _ => ⟨{ sl := (wipeL S.sl [i]).set i (.im (.int x)), mo := S.mo }, e2, rfl⟩⟩
    rw [tst_run', op2_run, e2, R.bind_ok, cE_run, R.bind_ok, neO_int, R.of_some, R.bind_ok]
    simp
end Lq

namespace Lq
open PySem PySem.Spec PyProof.Rows L2
open Evl (Ex)
/-! ### sorted of empty tuples -/
def IsE (h : Heap) (v : Value) : Prop := ∃ l, v = .ref l ∧ IsTup h l #[]
section
variable {prog : Program} {w : World} {A : Around} {E : Value → Shared → Prop} {s : Shared}
theorem oneLt_E {a b : Value} {Q : Bool → Shared → Prop} (ha : IsE s.heap a) (hb : IsE s.heap b) (hu : A.units < cLine) (h : Q false s) : wpAny (model prog w) A (oneLt' true a b) Q E s := by
  obtain ⟨l, rfl, ⟨cls, dd, data, sl⟩, ho, hc, n, hd⟩ := ha
  obtain ⟨l2, rfl, ⟨cls2, dd2, data2, sl2⟩, ho2, hc2, n2, hd2⟩ := hb
  simp only at hc hd hc2 hd2
  subst hc hd hc2 hd2
  rw [oneLt'_eq]
  simp only [if_true]
  refine wpAny_bind (wpAny_cRoomFor hu ?_)
  refine wpAny_bind (wpAny_callSpecialIfBound?_slot ⟨_, ho, rfl⟩ PySem.F.slot_tuple_lt (call_meets PySem.F.slot_tuple_lt ⟨_, ho, rfl⟩ PySem.F.entry_tuple_lt (PySem.F.args_tuple_lt_2 _ _) (HT.tuple_lt_ints l l2 #[] #[] n n2 dd dd2 sl sl2 [] [] .nil .nil) ⟨ho, ho2, ?_⟩))
  exact wpAny_truthy_bool h
theorem kind_E {vs : List Value} {Q : SortKind → Shared → Prop} (h2 : 2 ≤ vs.length) (hE : ∀ v ∈ vs, IsE s.heap v) (h : Q oneType' s) : wpAny (model prog w) A (keyKind' vs.toArray) Q E s := by
  have look : ∀ v ∈ vs, PySem.W.Looks (model prog w) s.heap (typeOf v) (.type "tuple") := fun v hv => by
    obtain ⟨l, rfl, o, ho, hc, n, hd⟩ := hE v hv
    exact hc ▸ (PySem.W.Looks.ld ho).andThen .now
  obtain ⟨v₁, v₂, rest, rfl⟩ : ∃ v₁ v₂ rest, vs = v₁ :: v₂ :: rest := by
    match vs, h2 with
    | [], h2 => simp at h2
    | [_], h2 => simp at h2
    | v₁ :: v₂ :: rest, _ => exact ⟨v₁, v₂, rest, rfl⟩
  rw [kat_kind_eq, List.mapM_toArray, map_eq_pure_bind]
  refine wpAny_bind (wpAny_bind (PySem.W.kas_mapM (r := none) _ (fun v hv Q' hq => ?_) (wpAny_pure ?_)))
  · rw [PySem.W.kas_first_eq]
    refine wpAny_bind ((look v hv).here ?_)
    rw [if_neg (by decide)]
    obtain ⟨l, rfl, o, ho, hc, n, hd⟩ := hE v hv
    refine wpAny_bind (listItems_at ho hd (wpAny_pure ?_))
    exact hq
  · rw [if_neg (by simp), if_neg (by simp)]
    rw [oneTypeOnly'_eq, List.mapM_toArray, map_eq_pure_bind]
    refine wpAny_bind (wpAny_bind (wpAny_bind (PySem.W.kas_mapM (r := Value.type "tuple") _ (fun v hv Q' hq => (look v hv).here hq) (wpAny_pure ?_))))
    have hall : ((List.map (fun _ => Value.type "tuple") (v₁ :: v₂ :: rest)).toArray.all fun x => x == Value.type "tuple") = true := by
      simp only [List.all_toArray, List.all_map, List.all_eq_true]
      intro _ _
      exact beq_self_eq_true _
    have h0 : (List.map (fun _ => Value.type "tuple") (v₁ :: v₂ :: rest)).toArray[0]? = some (Value.type "tuple") := by simp
    rw [h0]
    simp only [hall, if_true]
    exact wpAny_pure (wpAny_pure h)
theorem E_sortable {a : Addr} {vs : List Value} (h2 : 2 ≤ vs.length) (hE : ∀ v ∈ vs, IsE s.heap v) (ha : ∀ o, s.heap.get? a = some o → o.cls ≠ .type "tuple") (hu : A.units < cLine) : SrtO.SortableO prog w A s a vs fun _ _ => false := by
  intro h' keep
  have hE' : ∀ v ∈ vs, IsE h' v := fun v hm => by
    obtain ⟨l, rfl, o, ho, hc, n, hd⟩ := hE v hm
    exact ⟨l, rfl, o, keep l o (fun z => by subst z; exact ha o ho hc) ho, hc, n, hd⟩
  refine ⟨oneType', fun Q E hq => kind_E h2 hE' hq, fun p q hm hm' => ?_⟩
  show wpAny (model prog w) A (keyLt' oneType' p.1 q.1) (fun r s' => s' = _ ∧ r = false) (fun _ _ => False) _
  rw [keyLt'_oneType]
  exact oneLt_E (hE' _ hm) (hE' _ hm') hu ⟨rfl, rfl⟩
end
section
variable {X : Cx}
theorem sortW_E {ws : List (List Int)} (h : ∀ w ∈ ws, w = []) : sortW ws = ws := by
  have e : ws = List.replicate ws.length [] := List.eq_replicate_iff.mpr ⟨rfl, h⟩
  have h1 : (sortW ws).Perm ws := List.mergeSort_perm _ _
  have h2 : sortW ws = List.replicate ws.length [] := List.eq_replicate_iff.mpr ⟨h1.length_eq, fun w hw => h w (h1.mem_iff.mp hw)⟩
  rw [h2, ← e]
def rSortW2 (K : PySem.W.Frag) : List V → Hp → VK → Prop := fun vs H Q => ∃ (a : Addr) (bs : List Addr) (ws : List (List Int)), vs = [V.ref a] ∧ SqL K H a (bs.map V.ref) ∧ Paired (fun b (w : List Int) => H b = some (.tup (w.map V.int))) bs ws ∧ (∀ w ∈ ws, w.length = (ws.headD []).length) ∧
  ∀ (cs : List Addr) (p : Addr), Paired (fun b (w : List Int) => H b = some (.tup (w.map V.int))) cs (sortW ws) → H p = none → Q (.ref p) (upd H p (.lst (cs.map V.ref)))
theorem cr_sortW2 (hu : X.A.units + 64 < cLine) : CallR X (.builtin "sorted") (rSortW2 X.K) := by
  intro pins s σ H vs us Q I r h
  obtain ⟨a, bs, ws, rfl, hs, hp, hlen, q⟩ := h
  by_cases hshort : ws.length ≤ 1
  · exact cr_sortW hu pins s σ H _ us Q I r ⟨a, bs, ws, rfl, hs, hp, .inl hshort, q⟩
  by_cases hn : 1 ≤ (ws.headD []).length
  · exact cr_sortW hu pins s σ H _ us Q I r ⟨a, bs, ws, rfl, hs, hp, .inr ⟨_, hn, hlen⟩, q⟩
  -- empty tuples
  have hE : ∀ w ∈ ws, w = [] := fun w hw => List.eq_nil_of_length_eq_zero (by rw [hlen w hw]; omega)
  obtain ⟨its, rv, hl, hz⟩ := I.list hs
  obtain ⟨u, rfl, ru⟩ := vals1 r
  obtain rfl : u = Value.ref a := ru
  have hits := refs_vals rv
  subst hits
  have hbl : (bs.map Value.ref).length = ws.length := by rw [List.length_map]; exact Paired.length hp
  have hbz : bs.length ≤ sizeLine := by
    rw [List.length_map] at hz
    exact hz
  have hH : ∀ b ∈ bs, H b = some (.tup []) := fun b hb => by
    obtain ⟨i, hi⟩ := List.mem_iff_getElem?.mp hb
    obtain ⟨w, hw, z⟩ := pairedGetL hp hi
    rw [hE w (List.mem_of_getElem? hw)] at z
    exact z
  have hIs : ∀ v ∈ bs.map Value.ref, IsE s.heap v := fun v hv => by
    obtain ⟨b, hb, rfl⟩ := List.mem_map.mp hv
    obtain ⟨_, its2, r2, o, ho, hc, m, hd⟩ := I.hok _ _ (hH b hb)
    have : its2 = [] := by cases r2; rfl
    subst this
    exact ⟨b, rfl, o, ho, hc, m, hd⟩
  have hu2 : X.A.in1.in1.units < cLine := by
    have e : X.A.in1.in1.units ≤ X.A.units + 2 := by simp [Around.in1, Around.units] 
    omega
  refine SrtO.sorted_ord (ltv := fun _ _ => false) ⟨fun _ _ _ => rfl, fun _ _ _ _ _ => rfl⟩ hl.isList (by rw [List.length_map]; exact hbz) (fun h2 h₁ a ha kk => ?_) (fun out h1 h2 => ?_)
  · refine E_sortable (s := { s with heap := h₁ }) h2 (fun v hv => ?_) (fun o e => ?_) hu2
    · obtain ⟨l, rfl, o, ho, hc, m, hd⟩ := hIs v hv
      exact ⟨l, rfl, o, (kk l o ho).2, hc, m, hd⟩
    · have e' : some o = some (seqObj "list" (bs.map Value.ref).toArray 0) := e.symm.trans ha
      cases e'
      intro c
      exact absurd (Value.type.inj c) (by decide)
  · obtain ⟨cs, rfl, hcs⟩ : ∃ cs : List Addr, out = cs.map Value.ref ∧ ∀ c ∈ cs, c ∈ bs := by
      have hm : ∀ v ∈ out, ∃ b ∈ bs, v = Value.ref b := fun v hv => by
        obtain ⟨b, hb, rfl⟩ := List.mem_map.mp (h2.perm.mem_iff.mp hv)
        exact ⟨b, hb, rfl⟩
      clear h1 h2
      induction out with
      | nil => exact ⟨[], rfl, fun c hc => by cases hc⟩
      | cons v out ih =>
        obtain ⟨b, hb, rfl⟩ := hm v List.mem_cons_self
        obtain ⟨cs, rfl, hcs⟩ := ih fun v hv => hm v (List.mem_cons_of_mem _ hv)
        exact ⟨b :: cs, rfl, fun c hc => by
          rcases List.mem_cons.mp hc with rfl | hc
          · exact hb
          · exact hcs c hc⟩
    have hcl : cs.length = ws.length := by
      have := h2.perm.length_eq
      rw [List.length_map] at this
      rw [this, hbl]
    have hpair : Paired (fun b (w : List Int) => H b = some (.tup (w.map V.int))) cs (sortW ws) := by
      rw [sortW_E hE]
      clear h1 h2
      have : ∀ (cs : List Addr) (ws : List (List Int)), cs.length = ws.length → (∀ c ∈ cs, c ∈ bs) → (∀ w ∈ ws, w = []) → Paired (fun b (w : List Int) => H b = some (.tup (w.map V.int))) cs ws := by
        intro cs
        induction cs with
        | nil =>
          intro ws hl _ _
          cases ws with
          | nil => exact .nil
          | cons _ _ => simp at hl
        | cons c cs ih =>
          intro ws hl hc hw
          cases ws with
          | nil => simp at hl
          | cons w ws =>
            refine .cons ?_ (ih ws (by simpa using hl) (fun x hx => hc x (List.mem_cons_of_mem _ hx)) (fun x hx => hw x (List.mem_cons_of_mem _ hx)))
            rw [hw w List.mem_cons_self]
            exact hH c (hc c List.mem_cons_self)
      exact this cs ws hcl hcs hE
    obtain ⟨n, hn⟩ := PyProof.Rows.sortedAll_at s.heap (bs.map Value.ref) (cs.map Value.ref).toArray
    refine ⟨.ref _, upd H _ (.lst (cs.map V.ref)), I.laid (t' := s.toks) (fun b o e => PyProof.Rows.sortedAll_old e) (Nat.le_succ _) ⟨by rw [List.length_map, hcl, ← hbl, List.length_map]; exact hbz, cs.map Value.ref, n, vals_refs cs, hn⟩, rfl, q cs _ hpair (I.hok.fresh (Nat.le_succ _))⟩
/-- sorted of words of one length -/
def sortO2 : List Dt → Option (List Dt)
  | [.lst ds] => (wordsOf ds).bind fun ws => if ∀ w ∈ ws, w.length = (ws.headD []).length then some ((sortW ws).map Wd) else none
  | _ => none
theorem sortO2_run {ws : List (List Int)} {n : Nat} (h : ∀ w ∈ ws, w.length = n) : sortO2 [.lst (ws.map Wd)] = some ((sortW ws).map Wd) := by
  unfold sortO2
  dsimp only
  rw [wordsOf_map]
  dsimp only [Option.bind]
  rw [if_pos]
  intro w hw
  cases ws with
  | nil => cases hw
  | cons x r => rw [h w hw]; exact (h x List.mem_cons_self).symm
theorem dn_sorted2 {W : WX} {e : Expr} {p pos : Pos} {f : Ms → R Dt} (hu : X.A.units + 64 < cLine) (hg : Gl X "sorted") (hm : X.mg "sorted" = none) (ha : PE X e (tD X.K W f)) (hs : starEach [e] X.env = (false, eval e X.env) :: starEach [] X.env := by rfl) : PE X (.Call (.Name "sorted" p) [e] [] pos) (tN X.K W (calN (aCons f aNil) sortO2)) :=
  monoE (pe_callB (cr_sortW2 hu) hg hm (by decide +kernel) (da_cons ha da_nil hs) (by decide) (by decide) hs (by rfl)) fun σ H Q q => by
    obtain ⟨B, F, as, S, r0, o⟩ := q
    refine ⟨B, F, as, S, r0, Out.mono (Out.bind o) fun ds F1 H1 as1 S1 ⟨r1, e1, o1⟩ vs hv => ?_⟩
    cases hz : sortO2 ds with
    | none => rw [hz] at o1; exact o1.elim
    | some z =>
      rw [hz] at o1
      unfold sortO2 at hz
      split at hz
      · rename_i xs _
        cases hw : wordsOf xs with
        | none => rw [hw] at hz; cases hz
        | some ws =>
          rw [hw] at hz
          dsimp only [Option.bind] at hz
          split at hz
          · rename_i hc
            cases hz
            have e2 := wordsOf_eq hw
            subst e2
            obtain ⟨v, rfl, h1⟩ := rpa1 hv
            cases h1 with
            | lst hs ha =>
              obtain ⟨bs, rfl, hb⟩ := refs_of ha
              refine ⟨_, bs, ws, rfl, Evl.ex_l r1.fh (Evl.sq_of hs), hb.mono fun b w h => r1.fh _ _ h, hc, fun cs p hcs hp => ?_⟩
              have : ∀ {cs : List Addr} {us : List (List Int)}, Paired (fun b (w : List Int) => H1 b = some (.tup (w.map V.int))) cs us → ∃ F2, Ext F1 F2 as1 as1 ∧ Rep X.K B F2 H1 as1 σ S1 ∧ RpA X.K F2 (cs.map V.ref) (us.map Wd) := by
                intro cs us h
                have h' : Paired (fun b (q : List Int × Dt) => H1 b = some (.tup (q.1.map V.int))) cs (us.map fun w => (w, Dt.non)) := by
                  clear hcs
                  induction h with
                  | nil => exact .nil
                  | cons h t ih => exact .cons h ih
                obtain ⟨F2, e2, r2, h2⟩ := knowAll r1 h'
                rw [List.map_map] at h2
                exact ⟨F2, e2, r2, h2⟩
              obtain ⟨F2, e2, r2, h2⟩ := this hcs
              obtain ⟨f1, f2, f3⟩ := r2.fresh hp
              exact o1 F2 _ as1 e2 (r2.grow hp _) p _ f1 f2 f3 upd_same h2
          · cases hz
      · cases hz
end
end Lq

namespace Lq
open PySem PySem.Spec PyProof.Rows L2
open Evl (Ex)
section
variable {X : Cx} {W : WX} {a b c e o : Expr} {pos p : Pos} {f g : Ms → R Dt} {i : Nat}
/-! ### len(xs), xs.pop(i), xs a mutable local -/
def lenV (i : Nat) : Ms → R Dt := fun S => match muAt S i with | some (_, xs) => .ok (.int xs.length) S | none => .no
theorem de_lenV (hg : Gl X "len") (hm : X.mg "len" = none) (ho : PE X o (tVar i)) (hs : starEach [o] X.env = (false, eval o X.env) :: starEach [] X.env := by rfl) : PE X (.Call (.Name "len" p) [o] [] pos) (tD X.K W (lenV i)) :=
  monoE (pe_callB call_len_seq hg hm PySem.boot_len (pa_cons ho pa_nil hs) (by decide) (by decide) hs (by rfl)) fun σ H Q q => by
    obtain ⟨B, F, as, S, r, o⟩ := q
    unfold lenV at o
    cases hm0 : muAt S i with
    | none => rw [hm0] at o; exact o.elim
    | some km =>
      rw [hm0] at o
      obtain ⟨k0, xs⟩ := km
      obtain ⟨p, vs, hp, hmo, hp0, _, _, hH, hv⟩ := muAt_rp r hm0
      refine ⟨_, hp, _, _, rfl, .inl (Evl.sq_of hH), ?_⟩
      rw [hv.length]
      exact Out.now o r _ (.int _)
def popV (i : Nat) (f : Ms → R Dt) : Ms → R Dt := fun S => match muAt S i with
  | none => .no
  | some _ => (f S).bind fun d S1 => match d, muAt S1 i with
    | .int z, some (k, xs) => if -(2 ^ 63) ≤ z ∧ z < 2 ^ 63 then (match seqIndex? z xs.length with
      | some j => (match xs[j]? with | some y => .ok y { S1 with mo := S1.mo.set k (.ob (.ls (xs.eraseIdx j))) } | none => .no)
      | none => .no) else .no
    | _, _ => .no
theorem RpA.erase {K : PySem.W.Frag} {F : Hp} : ∀ {vs : List V} {ds : List Dt} (j : Nat), RpA K F vs ds → RpA K F (vs.eraseIdx j) (ds.eraseIdx j)
  | _, _, _, .nil => .nil
  | _, _, 0, .cons _ t => t
  | _, _, j + 1, .cons h t => .cons h (RpA.erase j t)
theorem de_popV {apos cpos : Pos} (ho : PE X o (tVar i)) (he : PE X e (tD X.K W f)) (hs0 : starEach [e] X.env = (false, eval e X.env) :: starEach [] X.env := by rfl)
    (hbase : attributeBase o "pop" X.env (eval o X.env) = eval o X.env := by rfl)
    (hfew : ((backTo cpos (starEach [e] X.env)).all (fun x => !x.1) && (backToKw cpos (keywordEach [] X.env)).all (fun x => x.1.isSome)
      && decide ([e].length + ([] : List Keyword).length + (if ([] : List Keyword).isEmpty then 0 else 1) < 30)) = true := by rfl)
    (hline : (apos.endLine == cpos.line) = true := by rfl) (hpl : (backTo cpos (starEach [] X.env)).any (·.1) = false := by rfl) :
    PE X (.Call (.Attribute o "pop" apos) [e] [] cpos) (tD X.K W (popV i f)) :=
  monoE (pe_bm PySem.F.plainAttrs_list PySem.F.slot_list_pop PySem.F.type_list_pop mt_popAt ho (pa_cons he pa_nil hs0) hbase hfew hline hs0 hpl) fun σ H Q q => by
    obtain ⟨B, F, as, S, r, o⟩ := q
    unfold popV at o
    cases hm0 : muAt S i with
    | none => rw [hm0] at o; exact o.elim
    | some km =>
      rw [hm0] at o
      obtain ⟨k0, xs0⟩ := km
      obtain ⟨p, vs0, hp, hmo0, hp0, _, _, hH0, hv0⟩ := muAt_rp r hm0
      refine ⟨_, hp, .inl ⟨rfl, vs0, Evl.sq_of hH0⟩, ?_⟩
      refine ⟨B, F, as, S, r, Out.mono (Out.bind o) fun d F1 H1 as1 S1 ⟨r1, e1, o1⟩ v hv => ?_⟩
      cases d with
      | int z =>
        cases hv
        cases hm : muAt S1 i with
        | none => rw [hm] at o1; exact o1.elim
        | some km =>
          rw [hm] at o1
          obtain ⟨k, xs⟩ := km
          obtain ⟨p', vs, hp', hmo, ha, _, _, hH, hvs⟩ := muAt_rp r1 hm
          rw [hp] at hp'
          cases hp'
          dsimp only at o1
          split at o1
          · rename_i hz
            cases hj : seqIndex? z xs.length with
            | none => rw [hj] at o1; exact o1.elim
            | some j =>
              rw [hj] at o1
              dsimp only at o1
              cases hy : xs[j]? with
              | none => rw [hy] at o1; exact o1.elim
              | some y =>
                rw [hy] at o1
                obtain ⟨u, hu, ru⟩ := hvs.get hy
                exact ⟨p, vs, z, j, u, rfl, rfl, hH, hz.1, hz.2, by rw [hvs.length]; exact hj, hu, Out.now o1 (r1.put hmo ha (.ls (hvs.erase j))) _ ru⟩
          · exact o1.elim
      | _ => exact o1.elim
/-! ### a ** b, min(a, b) -/
instance : ∀ i j, Decidable (CPow i j) := fun i j => by unfold CPow; infer_instance
def powO := iOpC CPow fun i j => i ^ j.toNat
theorem de_pow (ha : PE X a (tD X.K W f)) (hb : PE X b (tD X.K W g)) : PE X (.BinOp a .Pow b pos) (tD X.K W (op2 f g powO)) := de_op op_pow rd_I ha hb
def minO : List Dt → Option Dt | [.int i, .int j] => some (.int (if j < i then j else i)) | _ => none
theorem de_min (hc : X.calm = true) (hg : Gl X "min") (hm : X.mg "min" = none) (ha : PE X a (tD X.K W f)) (hb : PE X b (tD X.K W g)) (hs : starEach [a, b] X.env = (false, eval a X.env) :: starEach [b] X.env := by rfl) (hs2 : starEach [b] X.env = (false, eval b X.env) :: starEach [] X.env := by rfl) (hpl : (backTo pos (starEach [b] X.env)).any (·.1) = false := by rfl) :
    PE X (.Call (.Name "min" p) [a, b] [] pos) (tD X.K W (calE (aCons f (aCons g aNil)) minO)) :=
  de_calB (fun F H vs ds z Q ex hv hz q => by
    unfold minO at hz
    split at hz <;> cases hz
    obtain ⟨v, w, rfl, h1, h2⟩ := rpa2 hv
    cases h1
    cases h2
    exact ⟨_, _, rfl, q.1 _ (.int _)⟩) (call_min2 hc) hg hm (by decide +kernel) (da_cons ha (da_cons hb da_nil hs2) hs) (by decide) (by decide) hs hpl
end
/-! ### defs that give a new list out -/
inductive FoN where | ok (ys : List Dt) | er (e : Er) | no
def spN (K : PySem.W.Frag) (n : Nat) (f : List Dt → FoN) : Sp := fun vs H Q E => ∃ B F ds, ds.length = n ∧ Ex F H ∧ Kept B F H ∧ RpA K F vs ds ∧ match f ds with
  | .ok ys => ∀ a F' H' us, Ex F F' → Ex F' H' → Kept B F' H' → B a = none → F' a = none → H' a = some (.lst us) → RpA K F' us ys → Q (.ref a) H'
  | .er e => ∀ F' H' dx fs, Ex F F' → Ex F' H' → Kept B F' H' → DictR H' dx fs → fs.map (·.1) = e.ks → RpA K F' (fs.map (·.2)) e.ds → E (.ref e.C) dx H'
  | .no => False
inductive ON where | rt (ys : List Dt) (s : Ms) | er (e : Er) (s : Ms) | no
def sN (K : PySem.W.Frag) (W : WX) (m : Ms → ON) : TS := fun D σ H => ∃ B F as S, Rep K B F H as σ S ∧ match m S with
  | .rt ys S' => ∀ σ' F' H' as' p us, Ext F F' as as' → Rep K B F' H' as' σ' S' → B p = none → F' p = none → H' p = some (.lst us) → RpA K F' us ys → D.rt (.ref p) H'
  | .er e S' => ∀ σ', OutE K W B F as σ' e S'
  | .no => False
def seqN (m : Ms → O) (n : Ms → ON) : Ms → ON := fun S => match m S with | .nx S1 => n S1 | .er e S1 => .er e S1 | _ => .no
def retNV (i : Nat) : Ms → ON := fun S => match muAt S i with | some (_, xs) => .rt xs S | none => .no
def retNL (f : Ms → R (List Dt)) : Ms → ON := fun S => match f S with | .ok ys S1 => .rt ys S1 | .er e S1 => .er e S1 | .no => .no
section
variable {X : Cx} {W : WX} {e o : Expr} {st : Stmt} {rest : List Stmt} {m : Ms → O} {n : Ms → ON} {f : Ms → R (List Dt)} {i : Nat} {pos : Pos}
theorem dsN_cons (h1 : PS X st (sD X.K W m)) (h2 : PSs X rest (sN X.K W n)) : PSs X (st :: rest) (sN X.K W (seqN m n)) := monoSs (pss_cons h1 h2) fun D σ H q => by
  obtain ⟨B, F, as, S, r, o⟩ := q
  refine ⟨B, F, as, S, r, ?_⟩
  unfold seqN at o
  revert o
  cases m S with
  | nx S1 =>
    intro o σ1 F1 H1 as1 e1 r1
    refine ⟨B, F1, as1, S1, r1, ?_⟩
    revert o
    show (match n S1 with | .rt _ _ => _ | .er _ _ => _ | .no => _) → _
    cases n S1 with
    | rt ys S2 => exact fun o σ' F' H' as' p us e' r' => o σ' F' H' as' p us (e1.trans e') r'
    | er x S2 => exact fun o σ' F' H' as' dx fs e' r' => o σ' F' H' as' dx fs (e1.trans e') r'
    | no => exact fun o => o
  | er x S1 => exact fun o => o
  | rt d S1 => exact fun o => o.elim
  | bk S1 => exact fun o => o.elim
  | ct S1 => exact fun o => o.elim
  | no => exact fun o => o.elim
theorem dsN_retV (h : PE X o (tVar i)) : PSs X [.Return (some o) pos] (sN X.K W (retNV i)) := monoSs (pss_one (ps_ret h)) fun D σ H q => by
  obtain ⟨B, F, as, S, r, o⟩ := q
  unfold retNV at o
  cases hm : muAt S i with
  | none => rw [hm] at o; exact o.elim
  | some km =>
    rw [hm] at o
    obtain ⟨k, xs⟩ := km
    obtain ⟨p, vs, hp, hmo, ha, hB, hF, hH, hv⟩ := muAt_rp r hm
    exact ⟨_, hp, o σ F H as p vs Ext.refl r hB hF hH hv⟩
theorem dsN_retL (h : PE X e (tN X.K W f)) : PSs X [.Return (some e) pos] (sN X.K W (retNL f)) := monoSs (pss_one (ps_ret h)) fun D σ H q => by
  obtain ⟨B, F, as, S, r, o⟩ := q
  refine ⟨B, F, as, S, r, ?_⟩
  unfold retNL at o
  revert o
  cases f S with
  | ok ys S1 => exact fun o F' H' as' e' r' p vs h1 h2 h3 h4 h5 => o σ F' H' as' p vs e' r' h2 h1 h4 h5
  | er x S1 => exact fun o => o σ
  | no => exact fun o => o
end
def ON.fo : ON → FoN | .rt ys _ => .ok ys | .er e _ => .er e | .no => .no
def runN (n : Nat) (m : Ms → ON) (ds : List Dt) : FoN := (m (st0 n ds)).fo
section
variable {P : Program} {w : World} {K : PySem.W.Frag} {mg : Str → Option Value} {base : Heap}
theorem defOkN {x qual : Str} {st : Stmt} {f : Addr} {fd : FuncData} {N ps : List Str} {k : Nat} {m : Ms → ON} (F : Fun K x qual st f fd) (S : FnScope N ps (defScope st))
    (hbody : ∀ (cdv : Value) (A : Around) (outer : List Env) (s : Shared) (H : Hp) (E : XK), Room k (A.deeper (envOfC qual (defScope st) s.heap.objs.size f cdv)) →
      PSs (cxOf (L2.CX P w) P w K mg base N qual (defScope st) f cdv A outer s H E) (defBody st) (sN K (fun cls d _ H' => E cls d H') m)) :
    FnOk P w K mg base (L2.CX P w) (k + 1) f fd ps (spN K ps.length (runN N.length m)) := by
  refine F.okX S (fun vs H Q E h => ?_) (fun cdv A outer s H vs Q E hr h => ⟨_, hbody cdv A outer s H E hr, ?_⟩)
  · obtain ⟨B, F, ds, hn, _, _, hv, _⟩ := h
    rw [hv.length, hn]
  · obtain ⟨B, F, ds, hn, e, kp, hv, q⟩ := h
    refine ⟨B, F, [], st0 N.length ds, ⟨e, kp, ?_, .nil, List.nodup_nil⟩, ?_⟩
    · unfold L2.start st0
      rw [hv.length]
      exact paired_im hv (paired_no _)
    · unfold runN at q
      revert q
      cases m (st0 N.length ds) with
      | rt ys S' => exact fun q σ' F' H' as' p us e' r h1 h2 h3 h4 => q p F' H' us e'.1 r.fh r.bh h1 h2 h3 h4
      | er e S' => exact fun q σ' F' H' as' dx fs e' r => q F' H' dx fs e'.1 r.fh r.bh
      | no => exact fun q => q
end
theorem FnOk.toN {P : Program} {w : World} {K : PySem.W.Frag} {mg : Str → Option Value} {base : Heap} {CX : CXT} {k : Nat} {f : Addr} {fd : FuncData} {ps : List Str} {n : Nat} {g h : List Dt → FoN} (F : FnOk P w K mg base CX k f fd ps (spN K n g)) (e : ∀ ds, h ds ≠ .no → g ds = h ds) :
    FnOk P w K mg base CX k f fd ps (spN K n h) := F.imp fun vs H Q E ⟨B, F, ds, hn, h1, h2, h3, h4⟩ => ⟨B, F, ds, hn, h1, h2, h3, by
      have : h ds ≠ .no := by intro z; rw [z] at h4; exact h4
      rw [e ds this]
      exact h4⟩
def funN (n : Nat) (fs : Ms → R (List Dt)) (f : List Dt → FoN) : Ms → R (List Dt) := fun S => (fs S).bind fun ds S1 => if ds.length = n then (match f ds with | .ok ys => .ok ys S1 | .er e => .er e S1 | .no => .no) else .no
section
variable {X : Cx} {W : WX} {e : Expr} {es : List Expr} {fs : Ms → R (List Dt)} {x : Str} {p pos : Pos} {j k n : Nat} {ps : List Str} {g : List Dt → FoN}
theorem callN_run {K : PySem.W.Frag} {σ : L2.St} {H : Hp} {Q : VK} (q : tN K W (funN n fs g) σ H Q) : tCallS (spN K n g) (WE W) (tA K W fs) σ H Q := by
  obtain ⟨B, F, as, S, r, o⟩ := q
  refine ⟨B, F, as, S, r, Out.mono (Out.bind o) fun ds F1 H1 as1 S1 ⟨r1, e1, o1⟩ vs hv => ?_⟩
  split at o1
  · rename_i hn
    refine ⟨holdB B F1 H1 as1, F1, ds, hn, r1.fh, hold_kept r1, hv, ?_⟩
    cases hg : g ds with
    | ok ys =>
      rw [hg] at o1
      intro a F' H' us ee eh kp hB hF hH hu
      refine o1 F' H' as1 ⟨ee, [], by simp⟩ (hold_back r1 ee eh kp) a us hF ?_ ?_ hH hu
      · unfold holdB at hB
        split at hB
        · rename_i hin
          obtain ⟨i, hi⟩ := List.mem_iff_getElem?.mp hin
          obtain ⟨mm, hmm, z⟩ := pairedGetL r1.mo hi
          cases mm with
          | ob c => exact z.1
          | fz d =>
            obtain ⟨⟨u, z1⟩, _⟩ := z
            rw [ee _ _ z1] at hF
            cases hF
        · exact hB
      · intro hin
        unfold holdB at hB
        rw [if_pos hin] at hB
        obtain ⟨i, hi⟩ := List.mem_iff_getElem?.mp hin
        obtain ⟨mm, hmm, z⟩ := pairedGetL r1.mo hi
        cases mm with
        | ob c =>
          obtain ⟨_, z2, u, z3, _⟩ := z
          rw [if_pos z2, z3] at hB
          cases hB
        | fz d =>
          obtain ⟨⟨u, z1⟩, _⟩ := z
          rw [ee _ _ z1] at hF
          cases hF
    | er x =>
      rw [hg] at o1
      exact fun F' H' dx fs ee eh kp h1 h2 h3 => o1 F' H' as1 dx fs ⟨ee, [], by simp⟩ (hold_back r1 ee eh kp) h1 h2 h3
    | no => rw [hg] at o1; exact o1.elim
  · exact o1.elim
theorem dn_cal (c : Cal X.prog X.w X.K X.mg X.base x k ps (spN X.K n g)) (tk : Takes X W) (hr : Room j X.A) (hk : k ≤ j) (hg : Gl X x)
    (ha : PA X (e :: es) (tA X.K W fs)) (hdb : (x == ("__debug__" : Str)) = false := by decide) (he : starEach (e :: es) X.env = (false, eval e X.env) :: starEach es X.env := by rfl) (hpl : (backTo pos (starEach es X.env)).any (·.1) = false := by rfl) :
    PE X (.Call (.Name x p) (e :: es) [] pos) (tN X.K W (funN n fs g)) := by
  obtain ⟨f, fd, G, hm, kp, hb⟩ := c
  exact monoE (pe_callS G (hr.mono hk) hg hm kp hb (fun σ => passAt tk σ) ha hdb he hpl) fun σ H Q q => callN_run q
end
/-! ### the law's start -/
def spLaw (K : PySem.W.Frag) : Sp := fun vs H Q _ => ∃ (a : Addr) (ns : List Int), vs = [.ref a] ∧ SqL K H a (ns.map V.int) ∧ ns.length ≤ 63 ∧ ∀ H', Q (.bl true) H'
def scrD (ns : List Int) : Dt := .scr false (ns.map Dt.int)
theorem sql_one {K : PySem.W.Frag} {H : Hp} {a : Addr} {xs : List V} (h : SqL K H a xs) : SqL K (fun b => if b = a then H a else none) a xs := by
  rcases h with h | h
  · refine .inl ?_
    unfold Rd at *
    simp only [if_pos rfl]
    exact h
  · exact .inr h
section
variable {P : Program} {w : World} {K : PySem.W.Frag} {mg : Str → Option Value} {base : Heap}
theorem lawOk {st : Stmt} {f : Addr} {fd : FuncData} {N : List Str} {k : Nat} {m : Ms → O} (F : Fun K "law" "law" st f fd) (S : FnScope N ["script"] (defScope st))
    (hrun : ∀ ns : List Int, ns.length ≤ 63 → ∃ S', m (st0 N.length [scrD ns]) = .rt (.bl true) S')
    (hbody : ∀ (cdv : Value) (A : Around) (outer : List Env) (s : Shared) (H : Hp) (E : XK), Room k (A.deeper (envOfC "law" (defScope st) s.heap.objs.size f cdv)) →
      PSs (cxOf (L2.CX P w) P w K mg base N "law" (defScope st) f cdv A outer s H E) (defBody st) (sD K (fun cls d _ H' => E cls d H') m)) :
    FnOk P w K mg base (L2.CX P w) (k + 1) f fd ["script"] (spLaw K) := by
  refine F.okX S (fun vs H Q E h => ?_) (fun cdv A outer s H vs Q E hr h => ⟨_, hbody cdv A outer s H E hr, ?_⟩)
  · obtain ⟨a, ns, rfl, _⟩ := h
    rfl
  · obtain ⟨a, ns, rfl, hS, hlen, q⟩ := h
    obtain ⟨S', e⟩ := hrun ns hlen
    have hv : RpA K (fun b => if b = a then H a else none) [V.ref a] [scrD ns] := .cons (.scr false (sql_one hS) (RpA.ints ns)) .nil
    refine ⟨fun _ => none, fun b => if b = a then H a else none, [], st0 N.length [scrD ns], ⟨fun b o z => ?_, fun b o z => (nomatch z), ?_, .nil, List.nodup_nil⟩, ?_⟩
    · by_cases hb : b = a
      · rw [if_pos hb] at z
        rw [hb]; exact z
      · rw [if_neg hb] at z
        cases z
    · unfold L2.start st0
      exact paired_im hv (paired_no _)
    · rw [e]
      intro σ' F' H2 as' v e' r hv
      have hv' := hv.blv
      subst hv'
      exact q _
end
end Lq

namespace Lq
open PySem PySem.Spec PyProof.Rows L2
open Evl (Ex)
/-! ### texts -/
theorem shp_str {a : Str} (h : PyData.strOk a = true) : shp (.str a) = true := by
  unfold shp SeqAt.shaped
  simp [plain, toPy, PyData.canLay0, PyData.depth, h]
theorem eqO_str {a b : Str} (ha : PyData.strOk a = true) (hb : PyData.strOk b = true) : eqO (.str a) (.str b) = some (.bl (decide (a = b))) := by
  unfold eqO
  rw [shp_str ha, shp_str hb]
  simp only [toPy, PyData.eqv, Bool.and_self, if_true]
  rw [bdec]
theorem neO_str {a b : Str} (ha : PyData.strOk a = true) (hb : PyData.strOk b = true) : neO (.str a) (.str b) = some (.bl (!decide (a = b))) := by
  unfold neO
  rw [shp_str ha, shp_str hb]
  simp only [toPy, PyData.eqv, Bool.and_self, if_true]
  rw [bdec]
section
variable {X : Cx} {W : WX} {a b c e o tg : Expr} {pos p apos : Pos} {f g : Ms → R Dt} {i : Nat} {x : Str}
/-- str(n) -/
def strO : List Dt → Option Dt | [.int i] => if i.natAbs < 1000000 then some (.str (toString i)) else none | _ => none
theorem de_strc (hg : Gl X "str") (hm : X.mg "str" = none) (ha : PE X a (tD X.K W f)) (hs : starEach [a] X.env = (false, eval a X.env) :: starEach [] X.env := by rfl) : PE X (.Call (.Name "str" p) [a] [] pos) (tD X.K W (calE (aCons f aNil) strO)) :=
  de_calT (fun F H vs ds z Q ex hv hz q => by
    unfold strO at hz
    split at hz <;> try cases hz
    split at hz <;> cases hz
    rename_i i hi
    obtain ⟨v, rfl, h1⟩ := rpa1 hv
    cases h1
    refine ⟨i, rfl, ?_, q.1 _ (.str _)⟩
    have h2 : i.natAbs.log2 ≤ i.natAbs := by
      by_cases h0 : i.natAbs = 0
      · rw [h0]; decide
      · exact Nat.le_of_lt (Nat.lt_of_lt_of_le Nat.lt_two_pow_self (Nat.log2_self_le h0))
    by_cases h0 : i.natAbs = 0
    · rw [h0]; decide
    · exact Nat.lt_of_lt_of_le ((Nat.log2_lt h0).mpr (Nat.lt_of_lt_of_le hi (by decide : 1000000 ≤ 2 ^ 20))) (by decide)) call_str_int hg hm (by decide +kernel) (da_cons ha da_nil hs) (by decide) (by decide) hs (by rfl)
/-- x + y of texts -/
def catS : Dt → Dt → Option Dt | .str x, .str y => if x.length + y.length ≤ 100000 then some (.str (x ++ y)) else none | _, _ => none
theorem de_catS (ha : PE X a (tD X.K W f)) (hb : PE X b (tD X.K W g)) : PE X (.BinOp a .Add b pos) (tD X.K W (op2 f g catS)) := de_op op_add_str (fun F H v w d e z Q ex hv hw hz q => by
  cases d <;> cases e <;> simp only [catS] at hz <;> try cases hz
  split at hz <;> cases hz
  rename_i hl
  cases hv
  cases hw
  exact ⟨_, _, rfl, rfl, Nat.le_trans hl (by decide), q.1 _ (.str _)⟩) ha hb
/-- x.find(y) -/
def findO : Dt → Dt → Option Dt | .str x, .str y => some (.int (Txt.find x y)) | _, _ => none
def findE (f g : Ms → R Dt) : Ms → R Dt := fun S => (f S).bind fun d S1 => match d with | .str x => (g S1).bind fun e S2 => R.of (findO (.str x) e) S2 | _ => .no
theorem de_find (ho : PE X o (tD X.K W f)) (he : PE X e (tD X.K W g)) (hs : starEach [e] X.env = [(false, eval e X.env)] := by rfl) (hbase : attributeBase o "find" X.env (eval o X.env) = eval o X.env := by rfl) (hline : (apos.endLine == pos.line) = true := by rfl) :
    PE X (.Call (.Attribute o "find" apos) [e] [] pos) (tD X.K W (findE f g)) :=
  monoE (pe_m1 F.slot_str_find F.type_str_find mt_find ho he hs hbase hline) fun σ H Q q => by
    obtain ⟨B, F, as, S, r, o⟩ := q
    unfold findE at o
    refine ⟨B, F, as, S, r, Out.mono (Out.bind o) fun d F1 H1 as1 S1 ⟨r1, e1, o1⟩ v hv => ?_⟩
    cases d with
    | str x =>
      cases hv
      refine ⟨⟨x, rfl⟩, B, F1, as1, S1, r1, Out.mono (Out.bind o1) fun d2 F2 H2 as2 S2 ⟨r2, e2, o2⟩ v2 hv2 => ?_⟩
      cases d2 with
      | str y =>
        cases hv2
        exact ⟨x, y, rfl, rfl, Out.now o2 r2 _ (.int _)⟩
      | _ => exact o2.elim
    | _ => exact o1.elim
/-- x.join(ys) -/
def strsOf : List Dt → Option (List Str) | [] => some [] | .str x :: ds => (strsOf ds).map (x :: ·) | _ => none
theorem strsOf_map : ∀ ys : List Str, strsOf (ys.map Dt.str) = some ys
  | [] => rfl
  | y :: ys => by rw [List.map_cons, strsOf, strsOf_map ys]; rfl
theorem strsOf_eq : ∀ {ds : List Dt} {ys : List Str}, strsOf ds = some ys → ds = ys.map Dt.str
  | [], ys, h => by cases h; rfl
  | d :: ds, ys, h => by
    cases d <;> simp only [strsOf] at h <;> try cases h
    cases q : strsOf ds with
    | none => rw [q] at h; cases h
    | some zs => rw [q] at h; cases h; rw [strsOf_eq q]; rfl
theorem RpA.strsv {K : PySem.W.Frag} {F : Hp} : ∀ {vs : List V} {ys : List Str}, RpA K F vs (ys.map Dt.str) → vs = ys.map V.str
  | _, [], .nil => rfl
  | _, y :: ys, .cons h t => by cases h; rw [RpA.strsv t]; rfl
def joinO : Dt → Dt → Option Dt | .str x, .lst ds => (strsOf ds).bind fun ys => if (ys.map (·.length)).sum + ys.length * x.length ≤ 1000000 then some (.str (Txt.join x ys)) else none | _, _ => none
theorem de_join (ho : PE X o (tC (.str x))) (he : PE X e (tD X.K W g)) (hs : starEach [e] X.env = [(false, eval e X.env)] := by rfl) (hbase : attributeBase o "join" X.env (eval o X.env) = eval o X.env := by rfl) (hline : (apos.endLine == pos.line) = true := by rfl) :
    PE X (.Call (.Attribute o "join" apos) [e] [] pos) (tD X.K W (op1 g (joinO (.str x)))) :=
  monoE (pe_join ho he hs hbase hline) fun σ H Q q => by
    obtain ⟨B, F, as, S, r, o⟩ := q
    refine ⟨⟨x, rfl⟩, B, F, as, S, r, Out.mono (Out.bind o) fun d F1 H1 as1 S1 ⟨r1, e1, o1⟩ v hv => ?_⟩
    cases d with
    | lst ds =>
      cases hv with
      | lst hs ha =>
        unfold joinO at o1
        dsimp only at o1
        cases hy : strsOf ds with
        | none => rw [hy] at o1; exact o1.elim
        | some ys =>
          rw [hy] at o1
          dsimp only [Option.bind] at o1
          split at o1
          · rename_i hl
            have e2 := strsOf_eq hy
            subst e2
            rw [ha.strsv] at hs
            exact ⟨x, _, ys, rfl, rfl, .inl (Evl.ex_l r1.fh (Evl.sq_of hs)), Nat.le_trans hl (by decide), Out.now o1 r1 _ (.str _)⟩
          · exact o1.elim
    | _ => exact o1.elim
/-- sign by sign -/
def signs (x : Str) : List Dt := x.cps.toList.map fun c => Dt.str ⟨#[c]⟩
def itC (f : Ms → R Dt) : Ms → R (List Dt) := fun S => (f S).bind fun d S1 => match d with | .str x => .ok (signs x) S1 | _ => .no
theorem walksC {K : PySem.W.Frag} {F : Hp} (x : Str) : Walks K F (Its x) (signs x) := by
  have hl : (signs x).length = x.cps.size := by simp [signs]
  refine ⟨fun i H hi e => by rw [hl] at hi; exact hi, fun H e => by rw [hl]; exact Nat.le_refl _, fun i H v H' F1 hi e e2 y => ?_⟩
  obtain ⟨rfl, c, hc, rfl⟩ := y
  refine ⟨.str ⟨#[c]⟩, ?_, .inl ⟨rfl, .str _⟩⟩
  unfold signs
  rw [List.getElem?_map, Array.getElem?_toList, hc]
  rfl
theorem di_str (h : PE X e (tD X.K W f)) : PI X tg e (tI X.K W (itC f)) := monoI1 (pi_str h) fun σ H R q => by
  obtain ⟨B, F, as, S, r, o⟩ := q
  refine ⟨B, F, as, S, r, Out.mono (Out.bind o) fun d F1 H1 as1 S1 ⟨r1, e1, o1⟩ v hv => ?_⟩
  cases d with
  | str x =>
    cases hv
    exact ⟨x, rfl, Out.now o1 r1 _ (walksC x)⟩
  | _ => exact o1.elim
/-- a constant of the module -/
theorem de_gstr {t : Tok} (hg : Gl X x) {y : Str} (hm : X.mg x = some (.str y t)) (hdb : (x == ("__debug__" : Str)) = false := by decide) : PE X (.Name x pos) (tD X.K W (cE (.str y))) := de_c (pe_glob (v := .str y) hg hm ⟨t, rfl⟩ hdb) fun _ => .str y
end
/-! ### errors -/
/-- an error whose __init__ takes a number and keeps it in a field -/
def spI1i (C : Addr) (fld : Str) : Sp := fun vs H Q _ => ∃ (a : Addr) (y : Int), vs = [.ref a, .int y] ∧ y = 0 ∧ H a = some (exo a C none) ∧ ∀ dx, H dx = none → dx ≠ a → Q .non (upd (upd H dx (exd dx [(fld, .int y)])) a (exo a C (some dx)))
/-- what is known of an own error that keeps a number -/
structure RaI (P : Program) (w : World) (K : PySem.W.Frag) (mg : Str → Option Value) (base : Heap) (x : Str) (C : Addr) (fld : Str) : Prop where
  T : OexC K C
  ini : ∃ fI fd, PySem.W.findIn K (.ref C) "__init__" = some (some (.ref fI)) ∧ PySem.W.typeIn K (.ref fI) = some (.type "function") ∧ FnOk P w K mg base CX0 1 fI fd ["self", fld] (spI1i C fld) ∧ Binds K fd ["self", fld] []
  gC : mg x = some (.ref C)
  xc : XfC K C
  nf : PySem.W.findIn K (.ref C) fld = some none
  e1 : PySem.W.exmOne K (.ref C) (.ref C) = some true
/-- the same of one that keeps a text -/
structure RaS (P : Program) (w : World) (K : PySem.W.Frag) (mg : Str → Option Value) (base : Heap) (x : Str) (C : Addr) (fld : Str) : Prop where
  T : OexC K C
  ini : ∃ fI fd, PySem.W.findIn K (.ref C) "__init__" = some (some (.ref fI)) ∧ PySem.W.typeIn K (.ref fI) = some (.type "function") ∧ FnOk P w K mg base CX0 1 fI fd ["self", fld] (spI1 C fld) ∧ Binds K fd ["self", fld] []
  gC : mg x = some (.ref C)
  xc : XfC K C
  nf : PySem.W.findIn K (.ref C) fld = some none
  e1 : PySem.W.exmOne K (.ref C) (.ref C) = some true
section
variable {X : Cx} {W : WX} {x fld : Str} {C : Addr} {i : Int} {j : Nat} {p p2 pos pos' : Pos}
theorem ds_raiseI (T : RaI X.prog X.w X.K X.mg X.base x C fld) (hc : X.calm = true) (tk : Takes X W) (hr : Room 2 X.A) (hg : Gl X x) (hl : i = 0) (hdb : (x == ("__debug__" : Str)) = false := by decide)
    (hst : starEach [Expr.Constant (.int i) j p2] X.env = (false, eval (.Constant (.int i) j p2) X.env) :: starEach [] X.env := by rfl) (hpl : (backTo pos (starEach [] X.env)).any (·.1) = false := by rfl) :
    PS X (.Raise (some (.Call (.Name x p) [.Constant (.int i) j p2] [] pos)) none pos') (sD X.K W (raiseS ⟨C, [fld], [.int i]⟩)) := by
  obtain ⟨fI, fd, iC, tI, F1, hb⟩ := T.ini
  exact monoS (ps_raise hc tk (pmk_oex T.T iC tI F1 hr hb .nil pass0 hg T.gC (pa_cons pe_int pa_nil hst) hdb hst hpl)) fun D σ H q => by
    obtain ⟨B, F, as, S, r, o⟩ := q
    refine ⟨(show 1 ≤ 1000 by decide), fun a na => ⟨a, i, rfl, hl, upd_same, fun dx h1 h2 => ⟨rfl, dx, [(fld, .int i)], upd_same, (upd_ne h2).trans upd_same, ?_, ?_⟩⟩⟩
    · rwa [upd_ne h2] at h1
    · have h3 : H dx = none := by rwa [upd_ne h2] at h1
      have e : upd (del (upd (upd (upd H a (exo a C none)) dx (exd dx [(fld, .int i)])) a (exo a C (some dx))) a) dx (.xd [(fld, .int i)]) = upd H dx (.xd [(fld, .int i)]) := funext fun b => by
        by_cases hb : b = dx
        · rw [hb, upd_same, upd_same]
        · rw [upd_ne hb, upd_ne hb]
          by_cases ha : b = a
          · rw [ha, del_same, na]
          · rw [del_ne ha, upd_ne ha, upd_ne hb, upd_ne ha]
      rw [e]
      obtain ⟨ee, r2⟩ := r.new h3 (.xd [(fld, .int i)])
      exact o σ _ _ as (some dx) [(fld, .int i)] ee r2 upd_same rfl (.cons (.int i) .nil)
end
/-! ### try: .. except X as e: return e.fld -/
def tryF (C : Addr) (fld : Str) (i : Nat) (m : Ms → O) : Ms → O := fun S => match m S with
  | .er e S1 => if e.C = C ∧ e.ks = [fld] ∧ i < S1.sl.length then (match e.ds with | [d] => .rt d S1 | _ => .no) else .no
  | o => o
section
variable {X : Cx} {W : WX} {x n fld : Str} {C : Addr} {i : Nat} {m : Ms → O} {body : List Stmt} {np pos pos' p1 p2 p3 : Pos}
theorem ds_tryF (hE : X.mg x = some (.ref C) ∧ XfC X.K C ∧ PySem.W.findIn X.K (.ref C) fld = some none ∧ PySem.W.exmOne X.K (.ref C) (.ref C) = some true)
    (hs : X.stack = X.env :: X.outer) (hf : X.env.frame = some X.env.locals) (hN : X.N.Nodup) (hi : X.N[i]? = some n) (hln : X.env.kindOf n = some .local) (hg : Gl X x) (tk : Takes X W)
    (hb : ∀ (W : WX) (pn : List (Addr × Obj)) (xe : Value → Shared → Prop), Takes (X.tr pn xe) W → PassesOwn (model X.prog X.w) X.A X.env xe → PSs (X.tr pn xe) body (sD X.K W m))
    (hv : ∀ (a : Addr) (oe : Obj) (pn : List (Addr × Obj)), PE (X.suite a ((a, oe) :: pn)) (.Name n p1) (tVar i))
    (hab : attributeBase (.Name n p1) fld X.env (eval (.Name n p1) X.env) = eval (.Name n p1) X.env := by rfl) (hdb : (x == ("__debug__" : Str)) = false := by decide) :
    PS X (.Try body [.ExceptHandler (some (.Name x np)) (some n) [.Return (some (.Attribute (.Name n p1) fld p2)) p3] pos'] [] [] pos) (sD X.K W (tryF C fld i m)) := by
  obtain ⟨gC, xc, nf, e1⟩ := hE
  refine monoS (ps_try_as (i := i) (c := .ref C) (ts := fun a cls d D σ H => ∃ dx, cls = .ref C ∧ d = some dx ∧ tRet (tXf a (.ref C) (some dx) C fld (tVar i)) D σ H) hs hf hN hi hln ⟨hg, hdb, .inl gC⟩ tk (tb := fun W => sD X.K W m) hb (fun a oe cls d pn hz hf => ⟨fun pins s σ H D I h => by
    obtain ⟨dx, rfl, rfl, h⟩ := h
    exact (pss_one (ps_ret (pe_xf xc nf hz hf (hv a oe pn) hab))).run pins s σ H D I h⟩)) fun D σ H q => ?_
  obtain ⟨B, F, as, S, r, o⟩ := q
  refine ⟨B, F, as, S, r, ?_⟩
  unfold tryF at o
  revert o
  cases m S with
  | er e S1 =>
    intro o
    dsimp only at o
    split at o
    · rename_i hc
      obtain ⟨C', ks, ds⟩ := e
      obtain ⟨h1, h2, h3⟩ := hc
      subst h1 h2
      dsimp only at o
      split at o
      · rename_i l d
        intro σ' F' H' as' dx fs e' r' hd hk hv'
        have hne : fs ≠ [] := by
          rintro rfl
          cases hk
        obtain ⟨dx, rfl, hd⟩ := hd.some hne
        obtain ⟨v, rfl, rv⟩ : ∃ v, fs = [(fld, v)] ∧ Rp X.K F' v d := by
          match fs, hk, hv' with
          | [(n1, v1)], hk, hv' =>
            cases hk
            cases hv' with
            | cons h1 _ => exact ⟨v1, rfl, h1⟩
        have hlt : i < σ'.length := by
          rw [Paired.length r'.sl]
          exact h3
        refine ⟨true, e1, fun _ a na => ⟨dx, rfl, rfl, ?_⟩, fun z => nomatch z⟩
        show ∃ v, _ ∧ _
        refine ⟨.ref a, ?_, rfl, rfl, dx, _, v, rfl, hd, ?_, o σ' F' H' as' v e' r' rv⟩
        · rw [List.getElem?_set, if_pos rfl, if_pos hlt]
        · simp [List.lookup]
      · exact o.elim
    · exact o.elim
  | nx S1 => exact fun o => o
  | rt d S1 => exact fun o => o
  | bk S1 => exact fun o => o
  | ct S1 => exact fun o => o
  | no => exact fun o => o
end
end Lq

namespace Lq
open PySem PySem.Spec PyProof.Rows L2
open Evl (Ex)
/-! ### try: .. except A as e: .. except B: .. (a named clause ahead of unnamed ones) -/
theorem ps_try_asM {X : Cx} {x n : Str} {c : Value} {i : Nat} {body suite : List Stmt} {b₀ : Stmt} {np pos pos' : Pos} {tb : WX → TS} {ts : Addr → Value → Option Addr → TS} {Wout : WX}
    {hds : List ExceptHandler} {l : List (Value × (Addr → Value → Option Addr → TS))}
    (hs : X.stack = X.env :: X.outer) (hf : X.env.frame = some X.env.locals) (hN : X.N.Nodup) (hi : X.N[i]? = some n) (hln : X.env.kindOf n = some NameKind.local) (hc : Names X x c) (tk : Takes X Wout)
    (hb : ∀ (W : WX) (pn : List (Addr × Obj)) (xe : Value → Shared → Prop), Takes (X.tr pn xe) W → PassesOwn (model X.prog X.w) X.A X.env xe → PSs (X.tr pn xe) body (tb W))
    (hsu : ∀ (a : Addr) (oe : Obj) (cls : Value) (d : Option Addr) (pn : List (Addr × Obj)), Zc cls d oe → (∃ vs, oe.data = Data.fields vs) → PSs (X.suite a ((a, oe) :: pn)) (b₀ :: suite) (ts a cls d))
    (hh : HdsOk X hds l) :
    PS X (Stmt.Try body (ExceptHandler.ExceptHandler (some (Expr.Name x np)) (some n) (b₀ :: suite) pos' :: hds) [] [] pos) fun D σ H => tb (wAs X.K c i ts (wMany X.K Wout D l) D) D σ H := by
  refine ⟨fun pins s σ H D I h => ?_⟩
  have ok := I.ok
  have hfr := ok.frames
  rw [hs] at hfr
  refine wpAny_Try_except (wpAny_mono ((hb (wAs X.K c i ts (wMany X.K Wout D l) D) (X.pn ++ pins) (fun e s₁ => wpAny (model X.prog X.w) X.A (noteFrame e X.env) (fun _ s₂ => wpAny (model X.prog X.w) X.A (setFlight e none) (fun _ s₃ => wpAny (model X.prog X.w) X.A (handleBy e X.env (ExceptHandler.ExceptHandler (some (Expr.Name x np)) (some n) (b₀ :: suite) pos' :: hds)) (SP X pins D) X.xe s₃) X.xe s₂) X.xe s₁) (fun u s' xx => ?_) PassesOwn.looking).run [] s σ H D (Inv.toTry I _) h) (fun f s1 hsp => ?_) (fun e s1 he => he))
  · obtain ⟨a, B, sI, pins', σ', H', cls, d, rfl, J', nb, up, sky, na, os, ag, b, hb1, hyes, hno⟩ := xx
    have J := Inv.ofTry J' ok
    have sky' : Sky B (X.env :: X.outer) a (Zc cls d) X.env.locals s'.heap := by rw [← hs]; exact sky
    show wpAny _ _ _ _ _ _
    refine Sky.land Zc.steady hfr hf sky' fun h3 fl3 up3 => ?_
    have J3 : L2.Inv X pins σ' H' { s' with heap := h3 } := Inv.landed J nb fl3.left (Heap.UpToSlots.trans up up3) os ag
    obtain ⟨oe3, vs3, he3, hz3, hd3⟩ := HandSPX.FlyingZ.there fl3
    have nfr : ¬ a ∈ (X.env :: X.outer).filterMap (·.frame) := fun hm => by
      obtain ⟨_, o', e', hnf⟩ := Heap.FunFrames.mem fl3.right.right.left hm
      rw [he3] at e'
      cases e'
      exact hnf vs3 hd3
    have nL : a ≠ X.env.locals := fun z => nfr (List.mem_filterMap.mpr ⟨X.env, List.mem_cons_self, by show X.env.frame = some a; rw [hf, z]⟩)
    have nF : ¬ a ∈ X.outer.filterMap (·.frame) := fun hm => by
      obtain ⟨e, he, q⟩ := List.mem_filterMap.mp hm
      exact nfr (List.mem_filterMap.mpr ⟨e, List.mem_cons_of_mem X.env he, q⟩)
    have S3 := Inv.suite J3 he3 hd3 na nL nF
    have go : ∀ {hds' : List ExceptHandler} {l' : List (Value × (Addr → Value → Option Addr → TS))}, HdsOk X hds' l' → wMany X.K Wout D l' cls d σ' H' → wpAny (model X.prog X.w) X.A (handleBy (Value.ref a) X.env hds') (SP X pins D) X.xe { s' with heap := h3 } := by
      intro hds' l' hk
      induction hk with
      | nil =>
        intro w
        refine wpAny_handleBy_nil ?_
        obtain ⟨k1, k2, k3, oe, vs, T, oT, ts', he, hz, hd, h1, hr⟩ := id fl3
        refine wpAny_bind (wpAny_field he hd h1 ?_)
        rw [if_neg (by simp)]
        refine wpAny_bind ?_
        rw [hf]
        exact HandSPX.setFlight_upZ fl3 fun h4 hh4 up4 => wpAny_throw (tk (Value.ref a) _ ⟨a, B, sI, pins, σ', H', cls, d, rfl, J, nb, Heap.UpToSlots.trans (Heap.UpToSlots.trans up up3) up4, Or.inr (Or.inr (by rw [hs]; exact hh4)), na, os, ag, w⟩)
      | cons hc hsu r ih =>
        intro w
        obtain ⟨b, hb1, hyes, hno⟩ := w
        refine wpAny_handleBy_cons (codeAny_handlers_test ?_) (fun q => nomatch q)
        have LM := W.exm_one (M := model X.prog X.w) (Inv.kIn J3) (fun A Q E s k q => wpAny_typeOf_ref (k a oe3 he3) (by rw [hz3.left]; exact q)) hb1
        obtain ⟨hg, hdbg, hm⟩ := hc
        suffices hq : _ from hm.elim (fun hm => ld_glob S3 hg hm (W.Looks.here LM hq) hdbg) (fun hm => ld_blt S3 hg hm.1 hm.2.1 (W.Looks.here LM hq) hm.2.2 hdbg)
        cases b with
        | false => exact ih (hno rfl)
        | true =>
          refine codeAny_handlers_suite (HandSPX.lands_againZ fl3 fun h4 fl4 up4 => ?_)
          have J4 : L2.Inv X pins σ' H' { s' with heap := h4 } := Inv.landed J nb fl4.left (Heap.UpToSlots.trans (Heap.UpToSlots.trans up up3) up4) os ag
          obtain ⟨oe4, vs4, he4, hz4, hd4⟩ := HandSPX.FlyingZ.there fl4
          have S4 := Inv.suite J4 he4 hd4 na nL nF
          refine wpAny_mono ((hsu a oe4 cls d (X.pn ++ pins) hz4 ⟨vs4, hd4⟩).run [] _ σ' H' D S4 (hyes rfl a na)) (fun f s6 hsp => ?_) (fun _ _ z => z.elim)
          cases f with
          | ret u => obtain ⟨v6, σ6, H6, S6, r6, q6⟩ := hsp; exact ⟨v6, σ6, H6, Inv.unsuite S6 ok, r6, q6⟩
          | _ => obtain ⟨σ6, H6, S6, q6⟩ := hsp; exact ⟨σ6, H6, Inv.unsuite S6 ok, q6⟩
    refine wpAny_handleBy_cons (codeAny_handlers_test ?_) (fun q => nomatch q)
    have LM := W.exm_one (M := model X.prog X.w) (Inv.kIn J3) (fun A Q E s k q => wpAny_typeOf_ref (k a oe3 he3) (by rw [hz3.left]; exact q)) hb1
    obtain ⟨hg, hdbg, hm⟩ := hc
    suffices hq : _ from hm.elim (fun hm => ld_glob S3 hg hm (W.Looks.here LM hq) hdbg) (fun hm => ld_blt S3 hg hm.1 hm.2.1 (W.Looks.here LM hq) hm.2.2 hdbg)
    cases b with
    | false => exact go hh (hno rfl)
    | true =>
      refine codeAny_handlers_suite_as (HandSPX.lands_againZ fl3 fun h4 fl4 up4 => ?_)
      have J4 : L2.Inv X pins σ' H' { s' with heap := h4 } := Inv.landed J nb fl4.left (Heap.UpToSlots.trans (Heap.UpToSlots.trans up up3) up4) os ag
      obtain ⟨oe4, vs4, he4, hz4, hd4⟩ := HandSPX.FlyingZ.there fl4
      have S4 := Inv.suite J4 he4 hd4 na nL nF
      refine store_ok (X := X.suite a ((a, oe4) :: (X.pn ++ pins))) S4 hN hi (Or.inl hln) (show L2.RelV (V.ref a) (Value.ref a) from rfl) (fun s5 S5 => ?_) (Or.inr hln)
      refine wpAny_mono ((hsu a oe4 cls d (X.pn ++ pins) hz4 ⟨vs4, hd4⟩).run [] s5 (σ'.set i (some (V.ref a))) H' { nx := fun σ' H' => D.nx (List.set σ' i none) H', rt := D.rt, bk := fun σ' H' => D.bk (List.set σ' i none) H', ct := fun σ' H' => D.ct (List.set σ' i none) H' } S5 (hyes rfl a na)) (fun f s6 hsp => ?_) (fun _ _ z => z.elim)
      cases f with
      | ret u => obtain ⟨v6, σ6, H6, S6, r6, q6⟩ := hsp; exact gone_ok (Inv.unsuite S6 ok) hN hi hln fun s7 J7 => ⟨v6, σ6.set i none, H6, J7, r6, q6⟩
      | _ => obtain ⟨σ6, H6, S6, q6⟩ := hsp; exact gone_ok (Inv.unsuite S6 ok) hN hi hln fun s7 J7 => ⟨σ6.set i none, H6, J7, q6⟩
  · cases f with
    | next => obtain ⟨σ', H', J', q⟩ := hsp; exact wpAny_execs_nil ⟨σ', H', Inv.ofTry J' ok, q⟩
    | ret u => obtain ⟨v, σ', H', J', r, q⟩ := hsp; exact ⟨v, σ', H', Inv.ofTry J' ok, r, q⟩
    | _ => obtain ⟨σ', H', J', q⟩ := hsp; exact ⟨σ', H', Inv.ofTry J' ok, q⟩
end Lq

namespace Lq
open PySem PySem.Spec PyProof.Rows L2
open Evl (Ex)
theorem meets_enumT (l : Addr) (items : Array Value) : Meets (Builtin.«enumerate.__new__» { pos := [.type "enumerate", .ref l] }) fun _ R s => s.heap.IsTuple l items ∧
    R (Except.ok (Flow.ret (Value.ref (s.heap.push { cls := Value.type "tuple_iterator", data := Data.fields #[Value.ref l, Value.int 0 0] }).objs.size)))
      { heap := (s.heap.push { cls := Value.type "tuple_iterator", data := Data.fields #[Value.ref l, Value.int 0 0] }).push { cls := Value.type "enumerate", data := Data.fields #[Value.none, Value.bool false, Value.ref s.heap.objs.size, rawInt 0, Value.none, Value.none] }, gens := s.gens, drawn := s.drawn, toks := s.toks, os := s.os } := by
  refine Meets.of_wp fun prog w A R s h => ?_
  obtain ⟨hl, h⟩ := h
  have hsub := sub_enumerate
  obtain ⟨hp, g, d, tk, os⟩ := s
  refine wpAny_bind ?_
  refine wpAny_bind ?_
  refine wpAny_pure ?_
  refine wpAny_ite_false rfl ?_
  refine wpAny_bind ?_
  refine wpAny_of_eq hsub ?_
  refine wpAny_ite_false rfl ?_
  refine wpAny_pure ?_
  refine wpAny_ite_true rfl ?_
  refine wpAny_bind ?_
  refine wpAny_bind ?_
  refine wpAny_stack_any fun st => ?_
  refine wpAny_pure ?_
  have tail : wpAny (model prog w) A.in1 (pyIter (Value.ref l) >>= fun x => Builtin.SmallTypes.newRecord (Value.type "enumerate") (Builtin.SmallTypes.ownedTupleFields ++ [x, rawInt 0, Value.none, Value.none]) >>= fun y => ret y) (fun fin s' => ∃ v, fin = Fin.done (Flow.ret v) ∧ R (Except.ok (Flow.ret v)) s') (fun e s' => R (Except.error e) s') { heap := hp, gens := g, drawn := d, toks := tk, os := os } := by
    refine wpAny_bind ?_
    refine wpAny_pyIter_tuple hl ?_
    refine wpAny_bind ?_
    unfold Builtin.SmallTypes.newRecord
    show wpAny _ _ (newObj _ _) _ _ _
    unfold newObj

    refine wpAny_ite_false rfl ?_
    refine wpAny_bind ?_
    refine wpAny_alloc' ?_
    refine wpAny_pure ?_
    refine wpAny_pure ?_
    exact ⟨_, rfl, h⟩
  split
  · rename_i c _ _ _ _ _
    generalize (c == Value.type "enumerate") = b
    cases b with
    | false =>
      refine wpAny_ite_false rfl ?_
      refine wpAny_bind (wpAny_of_eq (show _ = pure (Value.ref l, (none : Option Value)) from rfl) ?_)
      exact tail
    | true =>
      refine wpAny_ite_true rfl ?_
      refine wpAny_bind (wpAny_of_eq (show _ = pure (Value.ref l, (none : Option Value)) from rfl) ?_)
      exact tail
  · refine wpAny_ite_false rfl ?_
    refine wpAny_bind (wpAny_of_eq (show _ = pure (Value.ref l, (none : Option Value)) from rfl) ?_)
    exact tail
end Lq

namespace Lq
open PySem PySem.Spec PyProof.Rows L2
open Evl (Ex)
theorem nextOf_tup_item {prog : Program} {w : World} {A : Around} {E : Value → Shared → Prop} {s : Shared} {it l : Addr} {i : Nat} {items : Array Value} {x : Value} {Q : Value → Shared → Prop}
    (hit : s.heap.IsTupleIter it l i) (ht : s.heap.IsTuple l items) (hx : items[i]? = some x)
    (hQ : ∀ h' : Heap, h'.IsTupleIter it l (i + 1) → Heap.SameBut it s.heap h' → Q x { heap := h', gens := s.gens, drawn := s.drawn, toks := s.toks, os := s.os }) :
    wpAny (model prog w) A (Builtin.SmallTypes.nextOf (Value.ref it)) Q E s := by
  obtain ⟨o, ho, hc, hd⟩ := id hit
  obtain ⟨ol, hol, _, nl, hdl⟩ := ht
  refine wpAny_bind (wpAny_callSpecial?_slot (Heap.IsTupleIter.typeIs hit) F.slot_tuple_iterator_next (wpAny_call_entry F.slot_tuple_iterator_next (Heap.IsTupleIter.typeIs hit) F.entry_tuple_iterator_next ?_ (F.args_tuple_iterator_next_1 (Value.ref it))))
  refine wpAny_bind (wpAny_of_eq (show slotArgs "__next__" 0 { pos := [Value.ref it] } = pure (Value.ref it, []) from rfl) ?_)
  refine wpAny_bind (wpAny_field ho hd rfl ?_)
  rw [if_neg (by simp)]
  refine wpAny_bind (wpAny_field ho hd rfl ?_)
  refine wpAny_bind (wpAny_seqItems hol hdl ?_)
  simp only [Int.toNat_natCast, hx]
  refine wpAny_bind (wpAny_setField (i := 1) (x := rawInt ((i : Int) + 1)) ho hd (by simp) ?_)
  refine wpAny_pure (?_)
  refine (⟨x, rfl, wpAny_pure (hQ _ ⟨_, Heap.get?_update_self _ ho (Obj.isFreed_of_fields (Obj.data_mapFields hd _)), (Obj.cls_mapFields o _).trans hc, ?_⟩ (Heap.SameBut.update s.heap it _))⟩)
  rw [Obj.data_mapFields hd]
  simp
  rfl
theorem nextOf_tup_end {prog : Program} {w : World} {A : Around} {E : Value → Shared → Prop} {s : Shared} {it l : Addr} {i : Nat} {items : Array Value} {Q : Value → Shared → Prop}
    (hh : A.handled = none) (hit : s.heap.IsTupleIter it l i) (ht : s.heap.IsTuple l items) (hx : items[i]? = none)
    (hE : ∀ (h' : Heap) (e : Addr), Heap.ExtBut it s.heap h' → (∃ o, h'.get? e = some o ∧ o.cls = Value.type "StopIteration") → E (Value.ref e) { heap := h', gens := s.gens, drawn := s.drawn, toks := s.toks, os := s.os }) :
    wpAny (model prog w) A (Builtin.SmallTypes.nextOf (Value.ref it)) Q E s := by
  obtain ⟨o, ho, hc, hd⟩ := id hit
  obtain ⟨ol, hol, _, nl, hdl⟩ := ht
  refine wpAny_bind (wpAny_callSpecial?_slot (Heap.IsTupleIter.typeIs hit) F.slot_tuple_iterator_next (wpAny_call_entry F.slot_tuple_iterator_next (Heap.IsTupleIter.typeIs hit) F.entry_tuple_iterator_next ?_ (F.args_tuple_iterator_next_1 (Value.ref it))))
  refine wpAny_bind (wpAny_of_eq (show slotArgs "__next__" 0 { pos := [Value.ref it] } = pure (Value.ref it, []) from rfl) ?_)
  refine wpAny_bind (wpAny_field ho hd rfl ?_)
  rw [if_neg (by simp)]
  refine wpAny_bind (wpAny_field ho hd rfl ?_)
  refine wpAny_bind (wpAny_seqItems hol hdl ?_)
  simp only [Int.toNat_natCast, hx]
  refine wpAny_bind (wpAny_rule ?_)
  refine wpAny_bind (wpAny_setField (i := 0) (x := Value.none) ho hd (by simp) ?_)
  refine wpAny_bind ?_
  refine wpAny_bind (wpAny_newObj_type (wpAny_bind (wpAny_of_eq (Eq.refl (firstArgMember (Value.type "StopIteration") [])) (wpAny_newObj_type ?_ ?_))) ?_)
  · unfold raiseNew
    refine wpAny_bind (wpAny_handled ?_)
    rw [show A.in1.handled = none from hh]
    refine wpAny_bind (wpAny_pure ?_)
    exact wpAny_throw (hE _ _ (Heap.ExtBut.push (Heap.ExtBut.push (Heap.SameBut.extBut (Heap.SameBut.update s.heap it _)) _) _) ⟨_, Heap.get?_push_size _ rfl, rfl⟩)
  · exact sizeOk_excFields _ _ _ _ _ _ _ _
  · show (#[] : Array Value).size ≤ sizeLine
    decide

theorem drawsT {prog : Program} {w : World} {A : Around} (hh : A.handled = none) (it l : Addr) (hne : l ≠ it) (items : Array Value) :
    Draws prog w A it [it, l] items.size (fun i v => items[i]? = some v) fun i h => h.IsTupleIter it l i ∧ h.IsTuple l items where
  live := fun _ _ st => by obtain ⟨o, ho, _⟩ := st.1; exact ⟨o, ho⟩
  frame := fun _ _ _ st hk => ⟨Heap.IsTupleIter.at st.1 fun o e => hk it (by simp) o e, by
    obtain ⟨o, ho, hc⟩ := st.2
    exact ⟨o, hk l (by simp) o ho, hc⟩⟩
  item := fun i s Q E hi st hQ => nextOf_tup_item st.1 st.2 (show items[i]? = some items[i] by simp [hi]) fun h' hit' hs' => hQ items[i] h' s.toks (by simp [hi]) ⟨hit', by
    obtain ⟨o, ho, hc⟩ := st.2
    exact ⟨o, by rw [hs'.2 l hne]; exact ho, hc⟩⟩ hs'
  done := fun s Q E st hE => nextOf_tup_end hh st.1 st.2 (by simp) hE
theorem drawsE {prog : Program} {w : World} {A : Around} (hh : A.handled = none) (it l : Addr) (items : Array Value) (i : Nat) (hx : items[i]? = none) :
    Draws prog w A it [it, l] 0 (fun _ _ => False) fun _ h => h.IsTupleIter it l i ∧ h.IsTuple l items where
  live := fun _ _ st => by obtain ⟨o, ho, _⟩ := st.1; exact ⟨o, ho⟩
  frame := fun _ _ _ st hk => ⟨Heap.IsTupleIter.at st.1 fun o e => hk it (by simp) o e, by
    obtain ⟨o, ho, hc⟩ := st.2
    exact ⟨o, hk l (by simp) o ho, hc⟩⟩
  item := fun i s Q E hi => absurd hi (Nat.not_lt_zero _)
  done := fun s Q E st hE => nextOf_tup_end hh st.1 st.2 hx hE
theorem call_enumT {prog : Program} {w : World} {A : Around} {E : Value → Shared → Prop} {s : Shared} {l : Addr} {items : Array Value} {Q : Value → Shared → Prop} (hl : s.heap.IsTuple l items)
    (h : ∀ h' : Heap, IsEnum h' (s.heap.objs.size + 1) s.heap.objs.size 0 Value.none → h'.IsTupleIter s.heap.objs.size l 0 → h'.objs.size = s.heap.objs.size + 2 → (∀ (b : Addr) (o : Obj), s.heap.get? b = some o → h'.get? b = some o) →
      Q (Value.ref (s.heap.objs.size + 1)) { heap := h', gens := s.gens, drawn := s.drawn, toks := s.toks, os := s.os }) :
    wpAny (model prog w) A (call (Value.type "enumerate") [Value.ref l]) Q E s := by
  refine callType_new F.called_enumerate (by decide) (F.typeCall_enumerate_1 (Value.ref l)) (F.newCall_enumerate_1 (Value.ref l)) (fun obj => F.args_object_init_2 obj (Value.ref l)) F.entry_enumerate_new (meets_enumT l items) ⟨hl, ?_⟩
  have hz := Heap.size_push s.heap { cls := Value.type "tuple_iterator", data := Data.fields #[Value.ref l, Value.int 0 0] }
  have he := Heap.get?_push_size (s.heap.push { cls := Value.type "tuple_iterator", data := Data.fields #[Value.ref l, Value.int 0 0] }) (o := { cls := Value.type "enumerate", data := Data.fields #[Value.none, Value.bool false, Value.ref s.heap.objs.size, rawInt 0, Value.none, Value.none] }) rfl
  show _ ∧ _
  rw [hz] at he ⊢
  refine ⟨⟨_, he, rfl⟩, h _ he ⟨_, Heap.get?_push_of_some _ (Heap.get?_push_size s.heap rfl), rfl, rfl⟩ ?_ fun b o q => Heap.get?_push_of_some _ (Heap.get?_push_of_some _ q)⟩
  rw [Heap.size_push, hz]
def IteT (K : PySem.W.Frag) (a : Addr) : It := { go := fun i H => ∃ xs x, SqT K H a xs ∧ xs[i]? = some x, yld := fun i H v H' => ∃ T x, v = V.ref T ∧ H T = none ∧ H' = upd H T (HO.tup [V.int i, x]) ∧ ∀ xs : List V, SqT K H a xs → xs[i]? = some x, stop := fun i H => ∃ xs, SqT K H a xs ∧ xs.length ≤ i }
theorem turn_enumT {P : Program} {w : World} {K : PySem.W.Frag} {elts : List Expr} {kk : Nat} {tpos : Pos} (a e it : Addr) :
    Turn P w K (Expr.Tuple elts kk tpos) (IteT K a) [e, it] e fun i h => (∃ old, IsEnum h e it i old) ∧ h.IsTupleIter it a i ∧ e ≠ it where
  mem := by simp
  obj := fun i h st b hb => by
    obtain ⟨⟨old, he⟩, ⟨o, ho, hc, hd⟩, hne⟩ := st
    have e' : b = e ∨ b = it := by simpa using hb
    rcases e' with z | z
    · rw [z]; exact ⟨_, he, fun v q => nomatch q⟩
    · rw [z]; exact ⟨o, ho, fun v q => by rw [hd] at q; cases q⟩
  keep := fun i h h' st k => by
    obtain ⟨⟨old, he⟩, hi, hne⟩ := st
    exact ⟨⟨old, k e (by simp) _ he⟩, Heap.IsTupleIter.at hi fun o q => k it (by simp) o q, hne⟩
  item := fun X hP hw hK hc i pins s σ H E I hf st hg => by
    subst hP hw hK
    obtain ⟨⟨old, he⟩, hit, hne⟩ := st
    obtain ⟨xs, x, hq, hx⟩ := hg
    obtain ⟨its, rv, p, hz⟩ := Inv.tuple I hq
    obtain ⟨u, hu, ru⟩ := Vals.get rv hx
    have hel := Heap.lt_size he
    have hil : it < s.heap.objs.size := by obtain ⟨w, q, _⟩ := hit; exact Heap.lt_size q
    have p' : s.heap.IsTuple a its.toArray := p
    have hae : e ≠ a := by
      rintro rfl
      obtain ⟨o, ho, hc, _⟩ := p'
      rw [he] at ho
      cases ho
      exact absurd (Value.type.inj hc) (by decide)
    have hai : a ≠ it := by
      rintro rfl
      obtain ⟨o, ho, hc, _⟩ := p'
      obtain ⟨o2, ho2, hc2, _⟩ := hit
      rw [ho] at ho2
      cases ho2
      rw [hc] at hc2
      exact absurd (Value.type.inj hc2) (by decide)
    have hul : i < its.toArray.size := by
      rcases Nat.lt_or_ge i its.length with q | q
      · simpa using q
      · rw [List.getElem?_eq_none q] at hu; cases hu
    have hh : X.A.in1.handled = none := I.ok.hd hc
    refine wpAny_pyNext_enum_itemD (drawsT hh it a hai its.toArray) he ⟨hit, p'⟩ hul hne (by simp [hne, hae]) fun x' h' tk hx' ho hst hT hsz hk => ?_
    have ex : x' = u := by
      rw [List.getElem?_toArray, hu] at hx'
      exact (Option.some.inj hx').symm
    subst ex
    refine ⟨_, rfl, wpAny_letOwnedTupleGo_enum ho fun h'' he' sb => ?_⟩
    have hT2 := (sb.2 s.heap.objs.size (Nat.ne_of_gt hel)).trans hT
    have I1 := Inv.turnedNew (T := s.heap.objs.size) (ob := HO.tup [V.int i, x]) (h' := h'') (t' := tk + 1) (ch := [e, it]) I (fun b ob hb q => by
      have h1 : b ≠ e := fun z => hb (by simp [z])
      have h2 : b ≠ it := fun z => hb (by simp [z])
      exact (sb.2 b h1).trans (hk b ob h1 h2 q)) hf (Nat.le_refl _) ⟨show 2 ≤ sizeLine by decide, [Value.int i tk, x'], .cons ⟨tk, rfl⟩ (.cons ru .nil), _, hT2, rfl, 0, rfl⟩
    refine ⟨V.ref s.heap.objs.size, _, I1, rfl, ⟨s.heap.objs.size, x, rfl, HOk.fresh I.hok (Nat.le_refl _), rfl, fun ys hy => by rw [Inv.tuple_inj I hy hq]; exact hx⟩, ⟨⟨x', ?_⟩, Heap.IsTupleIter.at hst.1 fun o q => (sb.2 it (Ne.symm hne)).trans q, hne⟩, fun b hb => ?_⟩
    · have e1 : ((i + 1 : Nat) : Int) = (i : Int) + 1 := by omega
      rw [e1]
      exact he'
    · have e' : b = e ∨ b = it := by simpa using hb
      have hlt : b < s.heap.objs.size := by rcases e' with z | z <;> rw [z] <;> assumption
      rw [upd_ne (Nat.ne_of_lt hlt)]
      exact (hf b hb).1
  done := fun X hP hw hK hc i pins s σ H E I hf st hg => by
    subst hP hw hK
    obtain ⟨⟨old, he⟩, hit, hne⟩ := st
    obtain ⟨xs, hq, hx⟩ := hg
    obtain ⟨its, rv, p, hz⟩ := Inv.tuple I hq
    obtain ⟨f0, f1, f2, f3, f4, f5⟩ := hf it (by simp)
    have hl := Vals.length rv
    have p' : s.heap.IsTuple a its.toArray := p
    have hh : X.A.in1.handled = none := I.ok.hd hc
    have hn : its.toArray[i]? = none := by
      rw [List.getElem?_toArray, List.getElem?_eq_none]
      omega
    exact wpAny_pyNext_enum_endD (drawsE hh it a its.toArray i hn) he ⟨hit, p'⟩ fun h' eb => ⟨rfl, Inv.turned I (fun b o hb q => eb b o hb q) f0 f1 f3 f4 f5⟩
  self := fun A i s Q E st h => by
    obtain ⟨⟨old, he⟩, _⟩ := st
    exact wpAny_pyIter_enum he h
end Lq

namespace Lq
open PySem PySem.Spec PyProof.Rows L2
open Evl (Ex)
/-! ### enumerate over a tuple -/
def iEnumT (K : PySem.W.Frag) (ta : TA) : TI := fun σ H R => ta σ H fun vs H1 => ∃ a xs, vs = [V.ref a] ∧ SqT K H1 a xs ∧ R (IteT K a) H1
theorem pi_enumT {X : Cx} {e : Expr} {ta : TA} {p pos tpos : Pos} {elts : List Expr} {kk : Nat} (hg : Gl X "enumerate") (hm : X.mg "enumerate" = none) (ha : PA X [e] ta) (hs : starEach [e] X.env = [(false, eval e X.env)] := by rfl) :
    PI X (.Tuple elts kk tpos) (.Call (.Name "enumerate" p) [e] [] pos) (iEnumT X.K ta) :=
  ⟨fun pins s σ H R I h => Call_ (ld_blt I hg hm boot_enumerate (PyProof.Rows.callWith_type1 (thn (ha.run pos pins s σ H (fun vs H1 => ∃ a xs, vs = [V.ref a] ∧ SqT X.K H1 a xs ∧ R (IteT X.K a) H1) I h) fun us s1 x => by
    obtain ⟨vs, H1, I1, r1, a, xs, rfl, hq, q⟩ := x
    have hu := Vals.ref1 r1
    subst hu
    obtain ⟨its, rv, p', hz⟩ := Inv.tuple I1 hq
    refine call_enumT p' fun h' he hit hsz hk => wpAny_pyIter_enum he ?_
    have I2 := Inv.kept (t' := s1.toks) I1 hk
    refine ⟨_, [s1.heap.objs.size + 1, s1.heap.objs.size], _, IteT X.K a, H1, rfl, I2, turn_enumT a _ _, ⟨⟨Value.none, he⟩, hit, Nat.succ_ne_self _⟩, fun b hb => ?_, q⟩
    have hle : s1.heap.objs.size ≤ b := by
      have e' : b = s1.heap.objs.size + 1 ∨ b = s1.heap.objs.size := by simpa using hb
      rcases e' with z | z <;> rw [z]
      · exact Nat.le_succ _
      · exact Nat.le_refl _
    exact Inv.fpOk I1 hle (HOk.fresh I1.hok hle)) hs rfl) (by decide) (by decide)) rfl⟩
def enumD (xs : List Dt) : List Dt := xs.zipIdx.map fun x => Dt.tup [.int (x.2 : Int), x.1]
theorem enumD_len (xs : List Dt) : (enumD xs).length = xs.length := by simp [enumD]
theorem enumD_get {xs : List Dt} {i : Nat} {d : Dt} (h : xs[i]? = some d) : (enumD xs)[i]? = some (.tup [.int (i : Int), d]) := by
  unfold enumD
  rw [List.getElem?_map, List.getElem?_zipIdx, h]
  simp
def itEn (f : Ms → R (List Dt)) : Ms → R (List Dt) := fun S => (f S).bind fun ds S1 => match ds with | [.tup xs] => .ok (enumD xs) S1 | _ => .no
theorem walksEn {K : PySem.W.Frag} {F : Hp} {a : Addr} {xs : List V} {ds : List Dt} (hs : TupAt K F a xs) (ha : RpA K F xs ds) : Lq.Walks K F (IteT K a) (enumD ds) := by
  have hl : (enumD ds).length = xs.length := by rw [enumD_len, ha.length]
  refine ⟨fun i H hi e => ?_, fun H e => ⟨xs, Evl.ex_t e hs.sq, by rw [hl]; exact Nat.le_refl _⟩, fun i H x H' F1 hi e e2 y => ?_⟩
  · rw [hl] at hi
    exact ⟨xs, xs[i], Evl.ex_t e hs.sq, by simp [hi]⟩
  · obtain ⟨T, u, rfl, h1, rfl, h2⟩ := y
    obtain ⟨d, d1, d2⟩ := ha.getv (h2 _ (Evl.ex_t (e.trans e2) hs.sq))
    refine ⟨_, enumD_get d1, .inr ⟨T, .tup [.int i, u], h1, rfl, ?_⟩⟩
    have ht : F1 T = none := by
      cases w : F1 T with
      | none => rfl
      | some o => rw [e2 _ _ w] at h1; cases h1
    exact .tup upd_same (.cons (.int _) (.cons ((d2.up e).up (Ex.new ht)) .nil))
section
variable {X : Cx} {W : WX} {a b c e o tg : Expr} {pos p tpos apos : Pos} {f g : Ms → R Dt} {fs : Ms → R (List Dt)} {i : Nat} {x : Str}
theorem di_enum {elts : List Expr} {kk : Nat} (hg : Gl X "enumerate") (hm : X.mg "enumerate" = none) (ha : PA X [e] (tA X.K W fs)) (hs : starEach [e] X.env = [(false, eval e X.env)] := by rfl) :
    PI X (.Tuple elts kk tpos) (.Call (.Name "enumerate" p) [e] [] pos) (tI X.K W (itEn fs)) := monoI1 (pi_enumT hg hm ha hs) fun σ H R q => by
  obtain ⟨B, F, as, S, r, o⟩ := q
  refine ⟨B, F, as, S, r, Out.mono (Out.bind o) fun ds F1 H1 as1 S1 ⟨r1, e1, o1⟩ vs hv => ?_⟩
  split at o1
  · obtain ⟨v, rfl, h1⟩ := rpa1 hv
    cases h1 with
    | tup hs ha => exact ⟨_, _, rfl, Evl.ex_t r1.fh hs.sq, Out.now o1 r1 _ (walksEn hs ha)⟩
  · exact o1.elim
/-! ### any([..]), sum of a tuple -/
def anyO : List Dt → Option Dt | [.lst xs] => (blsOf xs).map fun bs => .bl (bs.any id) | _ => none
theorem de_any (hcalm : X.calm = true) (hg : Gl X "any") (hm : X.mg "any" = none) (ha : PE X a (tD X.K W f)) (hs : starEach [a] X.env = (false, eval a X.env) :: starEach [] X.env := by rfl) : PE X (.Call (.Name "any" p) [a] [] pos) (tD X.K W (calE (aCons f aNil) anyO)) :=
  de_calB (fun F H vs ds z Q ex hv hz q => by
    unfold anyO at hz
    split at hz <;> try cases hz
    rename_i xs
    cases hn : blsOf xs with
    | none => rw [hn] at hz; cases hz
    | some bs =>
      rw [hn] at hz
      cases hz
      have e1 := blsOf_eq hn
      subst e1
      obtain ⟨v, rfl, h1⟩ := rpa1 hv
      cases h1 with
      | lst hs ha =>
        rw [blsv ha] at hs
        exact ⟨_, _, rfl, Evl.ex_l ex (Evl.sq_of hs), q.1 _ (.bl _)⟩) (cr_any hcalm) hg hm (by decide +kernel) (da_cons ha da_nil hs) (by decide) (by decide) hs (by rfl)
@[simp] theorem anyO_run (bs : List Bool) : anyO [.lst (bs.map Dt.bl)] = some (.bl (bs.any id)) := by unfold anyO; dsimp only; rw [blsOf_map]; rfl
end
theorem vals_int : ∀ {ns : List Int} {its : List Value}, Vals (ns.map V.int) its → ∀ (i : Nat) (v : Value), its[i]? = some v → ∃ t, v = Value.int (ns.getD i 0) t
  | [], _, .nil, i, v, h => by simp at h
  | n :: ns, _, .cons h1 t, 0, v, h => by
    cases h
    obtain ⟨t, rfl⟩ := h1
    exact ⟨t, rfl⟩
  | n :: ns, _, .cons h1 t, i + 1, v, h => by
    obtain ⟨t, e⟩ := vals_int t i v (by simpa using h)
    exact ⟨t, by rw [e]; simp⟩
theorem preSum_getD (ns : List Int) : ∀ k, preSum (fun i => ns.getD i 0) k = (ns.take k).sum
  | 0 => by simp [preSum]
  | k + 1 => by
    rw [preSum, preSum_getD ns k]
    by_cases h : k < ns.length
    · rw [List.take_succ_eq_append_getElem h, List.sum_append]
      simp [h]
    · rw [List.take_of_length_le (by omega), List.take_of_length_le (by omega)]
      simp [Nat.not_lt.mp h]
def rSumT (K : PySem.W.Frag) : List V → Hp → VK → Prop := fun vs H Q => ∃ (a : Addr) (ns : List Int), vs = [V.ref a] ∧ SqT K H a (ns.map V.int) ∧ Q (.int ns.sum) H
theorem cr_sumT {X : Cx} (hc : X.calm = true) : CallR X (.builtin "sum") (rSumT X.K) := by
  intro pins s σ H vs us Q I r h
  obtain ⟨a, ns, rfl, hs, q⟩ := h
  obtain ⟨its, rv, hl, hz⟩ := Inv.tuple I hs
  have hu := Vals.ref1 r
  subst hu
  have hl' : s.heap.IsTuple a its.toArray := hl
  have hh : X.A.in1.handled = none := I.ok.hd hc
  have ha : a < s.heap.objs.size := by obtain ⟨o, ho, _⟩ := hl'; exact Heap.lt_size ho
  refine call_sum_walkG (wpAny_pyIter_tuple hl' ?_)
  refine ⟨s.heap.objs.size, _, _, _, _, _, fun i => ns.getD i 0, rfl, Walks.tuple hh s.heap.objs.size a (Nat.ne_of_lt ha) its.toArray, ⟨⟨_, Heap.get?_push_size s.heap rfl, rfl, rfl⟩, ?_⟩, ?_, ?_, ?_⟩
  · obtain ⟨o, ho, hc⟩ := hl'
    exact ⟨o, Heap.get?_push_of_some _ ho, hc⟩
  · intro b hb
    have e' : b = s.heap.objs.size ∨ b = a := by simpa using hb
    show b < (s.heap.push _).objs.size
    rw [Heap.size_push]
    rcases e' with z | z <;> rw [z]
    · exact Nat.lt_succ_self _
    · exact Nat.lt_succ_of_lt ha
  · intro i v hv
    rw [List.getElem?_toArray] at hv
    exact vals_int rv i v hv
  · intro h' tk t' hk
    have I2 : L2.Inv X pins σ H { s with heap := h', toks := tk } := Inv.kept I fun b o hb => hk b o (fun z => absurd (List.mem_singleton.mp z) (Nat.ne_of_lt (Heap.lt_size hb))) (Heap.get?_push_of_some _ hb)
    refine ⟨V.int ns.sum, H, I2, ⟨t', ?_⟩, q⟩
    rw [preSum_getD, List.take_of_length_le]
    have := Vals.length rv
    simp at this ⊢
    omega
section
variable {X : Cx} {W : WX} {a : Expr} {pos p : Pos} {f : Ms → R Dt}
def sumT : List Dt → Option Dt | [.tup xs] => (intsOf xs).map fun ns => .int ns.sum | _ => none
theorem de_sumT (hcalm : X.calm = true) (hg : Gl X "sum") (hm : X.mg "sum" = none) (ha : PE X a (tD X.K W f)) (hs : starEach [a] X.env = (false, eval a X.env) :: starEach [] X.env := by rfl) : PE X (.Call (.Name "sum" p) [a] [] pos) (tD X.K W (calE (aCons f aNil) sumT)) :=
  de_calB (fun F H vs ds z Q ex hv hz q => by
    unfold sumT at hz
    split at hz <;> try cases hz
    rename_i xs
    cases hn : intsOf xs with
    | none => rw [hn] at hz; cases hz
    | some ns =>
      rw [hn] at hz
      cases hz
      have e1 := intsOf_eq hn
      subst e1
      obtain ⟨v, rfl, h1⟩ := rpa1 hv
      cases h1 with
      | tup hs ha =>
        rw [ha.intsv] at hs
        exact ⟨_, _, rfl, Evl.ex_t ex hs.sq, q.1 _ (.int _)⟩) (cr_sumT hcalm) hg hm (by decide +kernel) (da_cons ha da_nil hs) (by decide) (by decide) hs (by rfl)
@[simp] theorem sumT_run (ns : List Int) : sumT [.tup (ns.map Dt.int)] = some (.int ns.sum) := by unfold sumT; dsimp only; rw [intsOf_map]; rfl
end
end Lq

namespace Lq
open PySem PySem.Spec PyProof.Rows L2
open Evl (Ex)
/-! ### raising an error without an __init__ of its own; one that keeps a text -/
structure RaN (P : Program) (w : World) (K : PySem.W.Frag) (mg : Str → Option Value) (base : Heap) (x : Str) (C : Addr) : Prop where
  gC : mg x = some (.ref C)
  kC : PySem.W.keepIn K (.ref C) = true
  xC : PySem.W.excIn K C [.type "ValueError", .type "Exception", .type "BaseException", .type "object"] "ValueError.__new__" = true
  eC : PySem.W.subIn K (.ref C) (.type "BaseException") = some true
  tC : PySem.W.typeIn K (.ref C) = some (.type "type")
  e1 : PySem.W.exmOne K (.ref C) (.ref C) = some true
section
variable {X : Cx} {W : WX} {x y fld : Str} {C : Addr} {j : Nat} {p p2 pos pos' : Pos} {m : Str}
theorem ds_raiseN (T : RaN X.prog X.w X.K X.mg X.base x C) (hc : X.calm = true) (tk : Takes X W) (hr : Room 2 X.A) (hg : Gl X x) (hdb : (x == ("__debug__" : Str)) = false := by decide) :
    PS X (.Raise (some (.Call (.Name x p) [.Constant (.str m) j p2] [] pos)) none pos') (sD X.K W (raiseS ⟨C, [], []⟩)) :=
  monoS (ps_raise hc tk (pmk_own PySem.F.excBase_ValueError T.xC T.gC T.kC (raises_own T.eC T.tC) hg hdb)) fun D σ H q => by
    obtain ⟨B, F, as, S, r, o⟩ := q
    exact o σ F H as none [] Ext.refl r rfl rfl .nil
theorem ds_raiseS (T : RaS X.prog X.w X.K X.mg X.base x C fld) (hc : X.calm = true) (tk : Takes X W) (hr : Room 2 X.A) (hg : Gl X x) (hl : m.length ≤ 1000) (hdb : (x == ("__debug__" : Str)) = false := by decide)
    (hst : starEach [Expr.Constant (.str m) j p2] X.env = (false, eval (.Constant (.str m) j p2) X.env) :: starEach [] X.env := by rfl) (hpl : (backTo pos (starEach [] X.env)).any (·.1) = false := by rfl) :
    PS X (.Raise (some (.Call (.Name x p) [.Constant (.str m) j p2] [] pos)) none pos') (sD X.K W (raiseS ⟨C, [fld], [.str m]⟩)) := by
  obtain ⟨fI, fd, iC, tI, F1, hb⟩ := T.ini
  exact ds_raise1 hc tk T.T iC tI F1 hr hb pass0 hg T.gC hl hdb hst hpl
end
/-! ### try: .. except A as e: return e.fld except B: return "text" -/
def tryM (C : Addr) (fld : Str) (i : Nat) (C2 : Addr) (y : Str) (m : Ms → O) : Ms → O := fun S => match m S with
  | .er e S1 => if e.C = C ∧ e.ks = [fld] ∧ i < S1.sl.length then (match e.ds with | [d] => .rt d S1 | _ => .no) else if e.C = C2 then .rt (.str y) S1 else .no
  | o => o
section
variable {X : Cx} {W : WX} {x x2 n fld y : Str} {C C2 : Addr} {i j : Nat} {m : Ms → O} {body : List Stmt} {np np2 pos pos' pos2 p1 p2 p3 q1 q2 : Pos}
theorem ds_tryM (hE : X.mg x = some (.ref C) ∧ XfC X.K C ∧ PySem.W.findIn X.K (.ref C) fld = some none ∧ PySem.W.exmOne X.K (.ref C) (.ref C) = some true)
    (hM : X.mg x2 = some (.ref C2) ∧ PySem.W.exmOne X.K (.ref C2) (.ref C2) = some true ∧ PySem.W.exmOne X.K (.ref C2) (.ref C) = some false)
    (hs : X.stack = X.env :: X.outer) (hf : X.env.frame = some X.env.locals) (hN : X.N.Nodup) (hi : X.N[i]? = some n) (hln : X.env.kindOf n = some .local) (hg : Gl X x) (hg2 : Gl X x2) (tk : Takes X W)
    (hb : ∀ (W : WX) (pn : List (Addr × Obj)) (xe : Value → Shared → Prop), Takes (X.tr pn xe) W → PassesOwn (model X.prog X.w) X.A X.env xe → PSs (X.tr pn xe) body (sD X.K W m))
    (hv : ∀ (a : Addr) (oe : Obj) (pn : List (Addr × Obj)), PE (X.suite a ((a, oe) :: pn)) (.Name n p1) (tVar i))
    (hab : attributeBase (.Name n p1) fld X.env (eval (.Name n p1) X.env) = eval (.Name n p1) X.env := by rfl) (hdb : (x == ("__debug__" : Str)) = false := by decide) (hdb2 : (x2 == ("__debug__" : Str)) = false := by decide) :
    PS X (.Try body [.ExceptHandler (some (.Name x np)) (some n) [.Return (some (.Attribute (.Name n p1) fld p2)) p3] pos', .ExceptHandler (some (.Name x2 np2)) none [.Return (some (.Constant (.str y) j q1)) q2] pos2] [] [] pos) (sD X.K W (tryM C fld i C2 y m)) := by
  obtain ⟨gC, xc, nf, e1⟩ := hE
  obtain ⟨gM, e2, e3⟩ := hM
  refine monoS (ps_try_asM (i := i) (c := .ref C) (l := [(.ref C2, fun _ _ _ => tRet (tC (.str y)))]) (ts := fun a cls d D σ H => ∃ dx, cls = .ref C ∧ d = some dx ∧ tRet (tXf a (.ref C) (some dx) C fld (tVar i)) D σ H) hs hf hN hi hln ⟨hg, hdb, .inl gC⟩ tk (tb := fun W => sD X.K W m) hb (fun a oe cls d pn hz hf => ⟨fun pins s σ H D I h => by
    obtain ⟨dx, rfl, rfl, h⟩ := h
    exact (pss_one (ps_ret (pe_xf xc nf hz hf (hv a oe pn) hab))).run pins s σ H D I h⟩)
    (.cons ⟨hg2, hdb2, .inl gM⟩ (fun a oe cls d pn _ _ => pss_one (ps_ret pe_str)) .nil)) fun D σ H q => ?_
  obtain ⟨B, F, as, S, r, o⟩ := q
  refine ⟨B, F, as, S, r, ?_⟩
  unfold tryM at o
  revert o
  cases m S with
  | er e S1 =>
    intro o
    dsimp only at o
    split at o
    · rename_i hc
      obtain ⟨C', ks, ds⟩ := e
      obtain ⟨h1, h2, h3⟩ := hc
      subst h1 h2
      dsimp only at o
      split at o
      · rename_i l d
        intro σ' F' H' as' dx fs e' r' hd hk hv'
        have hne : fs ≠ [] := by
          rintro rfl
          cases hk
        obtain ⟨dx, rfl, hd⟩ := hd.some hne
        obtain ⟨v, rfl, rv⟩ : ∃ v, fs = [(fld, v)] ∧ Rp X.K F' v d := by
          match fs, hk, hv' with
          | [(n1, v1)], hk, hv' =>
            cases hk
            cases hv' with
            | cons h1 _ => exact ⟨v1, rfl, h1⟩
        have hlt : i < σ'.length := by
          rw [Paired.length r'.sl]
          exact h3
        refine ⟨true, e1, fun _ a na => ⟨dx, rfl, rfl, ?_⟩, fun z => nomatch z⟩
        show ∃ v, _ ∧ _
        refine ⟨.ref a, ?_, rfl, rfl, dx, _, v, rfl, hd, ?_, o σ' F' H' as' v e' r' rv⟩
        · rw [List.getElem?_set, if_pos rfl, if_pos hlt]
        · simp [List.lookup]
      · exact o.elim
    · split at o
      · rename_i hc
        obtain ⟨C', ks, ds⟩ := e
        dsimp only at hc
        subst hc
        intro σ' F' H' as' dx fs e' r' hd hk hv'
        exact ⟨false, e3, (fun z => nomatch z), fun _ => ⟨true, e2, fun _ a na => o σ' F' H' as' (.str y) e' r' (.str _), fun z => nomatch z⟩⟩
      · exact o.elim
  | nx S1 => exact fun o => o
  | rt d S1 => exact fun o => o
  | bk S1 => exact fun o => o
  | ct S1 => exact fun o => o
  | no => exact fun o => o
end
end Lq

namespace Lq
open PySem PySem.Spec PyProof.Rows L2
/-! ### words over p -/
def addW (p : Int) (v w : List Int) : List Int := List.zipWith (fun a b => (a + b) % p) v w
def scW (p a : Int) (v : List Int) : List Int := v.map fun x => x * a % p
def okP (p : Int) : Bool := decide (0 < p ∧ p ≤ 1000)
def okW (p : Int) (v : List Int) : Bool := decide (v.length ≤ 1000) && v.all fun x => decide (0 ≤ x ∧ x < p)
theorem okP_iff {p : Int} : okP p = true ↔ 0 < p ∧ p ≤ 1000 := by simp [okP]
theorem okW_iff {p : Int} {v : List Int} : okW p v = true ↔ v.length ≤ 1000 ∧ ∀ x ∈ v, 0 ≤ x ∧ x < p := by simp [okW]

def m_add : Ms → O := (retS (calE (aCons (frz (lcE (itZ (aCons (varE 0) (aCons (varE 1) aNil))) (Tk.tp [3, 4]).k yesT (op2 (op2 (varE 3) (varE 4) addO) (varE 2) modO) [3, 4])) aNil) tupO))
def m_scaled : Ms → O := (retS (calE (aCons (frz (lcE (itS (varE 0)) (Tk.nm 3).k yesT (op2 (op2 (varE 3) (varE 1) mulO) (varE 2) modO) [3])) aNil) tupO))
def m__law_sum : Ms → O := (retS (calE (aCons (frz (lcE (itR1 (aCons (calE (aCons (varE 0) aNil) lenO) aNil)) (Tk.nm 3).k yesT (op2 (calE (aCons (op2 (op2 (varE 0) (varE 3) ixO) (op2 (varE 1) (varE 3) ixO) addO) aNil) intO) (varE 2) modO) [3])) aNil) tupO))
def m__law_scaled : Ms → O := (retS (calE (aCons (frz (lcE (itS (varE 0)) (Tk.nm 3).k yesT (op2 (calE (aCons (op2 (varE 3) (varE 1) mulO) aNil) intO) (varE 2) modO) [3])) aNil) tupO))
def m__law_take : Ms → O := (seqS (ifS (tst (op2 (ixV 0 (cE (.int 0))) (cE (.int 0)) gtO)) (seqS (asgS 2 (op2 (calE (aCons (ixV 0 (cE (.int 0))) aNil) intO) (varE 1) modO))
  (seqS (setS 0 (op2 (ixV 0 (cE (.int 0))) (varE 1) divO) (cE (.int 0)))
  (retS (varE 2)))) nilS)
  (seqS (setS 0 (op2 (calE (aCons (op2 (op2 (ixV 0 (cE (.int 1))) (cE (.int 48271)) mulO) (cE (.int 11)) addO) aNil) intO) (cE (.int 2147483647)) modO) (cE (.int 1)))
  (retS (op2 (calE (aCons (op2 (ixV 0 (cE (.int 1))) (cE (.int 7)) divO) aNil) intO) (varE 1) modO))))
def m__law_power : Ms → O := (seqS (asgS 2 (cE (.int 1)))
  (seqS (forS (itR1 (aCons (varE 1) aNil)) (Tk.nm 3).k (asgS 2 (op2 (varE 2) (varE 0) mulO)))
  (retS (varE 2))))

def FaddW : List Dt → Fo
  | [d, e, .int p] => match wordOf d, wordOf e with
    | some v, some w => if (okP p && okW p v && okW p w && decide (v.length = w.length)) = true then .ok (Wd (addW p v w)) else .no
    | _, _ => .no
  | _ => .no
theorem FaddW_inv {ds : List Dt} (h : FaddW ds ≠ .no) : ∃ v w p, ds = [Wd v, Wd w, .int p] ∧ okP p = true ∧ okW p v = true ∧ okW p w = true ∧ v.length = w.length ∧ FaddW ds = .ok (Wd (addW p v w)) := by
  unfold FaddW at h
  split at h
  · rename_i d e p
    split at h
    · rename_i v w h1 h2
      split at h
      · rename_i hc
        have := wordOf_eq h1
        have := wordOf_eq h2
        subst_vars
        simp only [Bool.and_eq_true, decide_eq_true_eq] at hc
        refine ⟨v, w, p, rfl, hc.1.1.1, hc.1.1.2, hc.1.2, hc.2, ?_⟩
        simp only [FaddW, wordOf_Wd]
        rw [if_pos (by simp [hc])]
      · exact absurd rfl h
    · exact absurd rfl h
  · exact absurd rfl h
def FscW : List Dt → Fo
  | [d, .int a, .int p] => match wordOf d with
    | some v => if (okP p && okW p v) = true then .ok (Wd (scW p a v)) else .no
    | _ => .no
  | _ => .no
theorem FscW_inv {ds : List Dt} (h : FscW ds ≠ .no) : ∃ v a p, ds = [Wd v, .int a, .int p] ∧ okP p = true ∧ okW p v = true ∧ FscW ds = .ok (Wd (scW p a v)) := by
  unfold FscW at h
  split at h
  · rename_i d a p
    split at h
    · rename_i v h1
      split at h
      · rename_i hc
        have := wordOf_eq h1
        subst_vars
        simp only [Bool.and_eq_true] at hc
        refine ⟨v, a, p, rfl, hc.1, hc.2, ?_⟩
        simp only [FscW, wordOf_Wd]
        rw [if_pos (by simp [hc])]
      · exact absurd rfl h
    · exact absurd rfl h
  · exact absurd rfl h
theorem zipD_ints : ∀ (v w : List Int), zipD (v.map Dt.int) (w.map Dt.int) = (v.zip w).map fun q => Dt.tup [.int q.1, .int q.2]
  | [], _ => by simp [zipD]
  | _ :: _, [] => by simp [zipD]
  | a :: v, b :: w => by
    have := zipD_ints v w
    unfold zipD at this ⊢
    simp [this]
theorem cmul_w {p x a : Int} (hp : p ≤ 1000) (hx : 0 ≤ x ∧ x < p) : CMul x a := by
  have h1 : (1000 : Int) < 2 ^ 64 := by decide
  have h2 : -(2 : Int) ^ 64 < 0 := by decide
  exact .inl ⟨by omega, by omega⟩
theorem run_add (ds : List Dt) (h : FaddW ds ≠ .no) : runD 5 m_add ds = FaddW ds := by
  obtain ⟨v, w, p, rfl, hp, hv, hw, hl, e⟩ := FaddW_inv h
  rw [e]
  obtain ⟨hp1, hp2⟩ := okP_iff.mp hp
  obtain ⟨hv1, hv2⟩ := okW_iff.mp hv
  have key : (lcE (itZ (aCons (varE 0) (aCons (varE 1) aNil))) (Tk.tp [3, 4]).k yesT (op2 (op2 (varE 3) (varE 4) addO) (varE 2) modO) [3, 4]) (st0 5 [Wd v, Wd w, .int p]) = .ok ((v.zip w).map fun q => Dt.int ((q.1 + q.2) % p)) (st0 5 [Wd v, Wd w, .int p]) := by
    refine lcE_map (fun q : Int × Int => Dt.tup [.int q.1, .int q.2]) _ (v.zip w) ?_ (fun q hq => ?_) (fun d T T' => Tk.mo) (by simp; omega)
    · simp [st0, Wd, zipD_ints]
    · simp [st0, wipeL, kNames, hp1]
  unfold runD m_add
  simp only [retS_run, calE_run, aCons_run, frz_run']
  rw [key]
  simp only [R.bind_ok, aNil_run, tupO_lst, R.of_some, R.stmt_ok, O.fo, Wd, addW]
  congr 2
  rw [List.map_zipWith, List.zip, List.map_zipWith]
theorem run_scaled (ds : List Dt) (h : FscW ds ≠ .no) : runD 4 m_scaled ds = FscW ds := by
  obtain ⟨v, a, p, rfl, hp, hv, e⟩ := FscW_inv h
  rw [e]
  obtain ⟨hp1, hp2⟩ := okP_iff.mp hp
  obtain ⟨hv1, hv2⟩ := okW_iff.mp hv
  have key : (lcE (itS (varE 0)) (Tk.nm 3).k yesT (op2 (op2 (varE 3) (varE 1) mulO) (varE 2) modO) [3]) (st0 4 [Wd v, .int a, .int p]) = .ok (v.map fun x => Dt.int (x * a % p)) (st0 4 [Wd v, .int a, .int p]) := by
    refine lcE_map Dt.int _ v ?_ (fun x hx => ?_) (fun d T T' => Tk.mo) (by omega)
    · simp [st0, Wd]
    · have := cmul_w (a := a) hp2 (hv2 x hx)
      simp [st0, wipeL, hp1, this]
  unfold runD m_scaled
  simp only [retS_run, calE_run, aCons_run, frz_run']
  rw [key]
  simp only [R.bind_ok, aNil_run, tupO_lst, R.of_some, R.stmt_ok, O.fo, Wd, scW, List.map_map]
  rfl
theorem run__law_scaled (ds : List Dt) (h : FscW ds ≠ .no) : runD 4 m__law_scaled ds = FscW ds := by
  obtain ⟨v, a, p, rfl, hp, hv, e⟩ := FscW_inv h
  rw [e]
  obtain ⟨hp1, hp2⟩ := okP_iff.mp hp
  obtain ⟨hv1, hv2⟩ := okW_iff.mp hv
  have key : (lcE (itS (varE 0)) (Tk.nm 3).k yesT (op2 (calE (aCons (op2 (varE 3) (varE 1) mulO) aNil) intO) (varE 2) modO) [3]) (st0 4 [Wd v, .int a, .int p]) = .ok (v.map fun x => Dt.int (x * a % p)) (st0 4 [Wd v, .int a, .int p]) := by
    refine lcE_map Dt.int _ v ?_ (fun x hx => ?_) (fun d T T' => Tk.mo) (by omega)
    · simp [st0, Wd]
    · have := cmul_w (a := a) hp2 (hv2 x hx)
      simp [st0, wipeL, hp1, this]
  unfold runD m__law_scaled
  simp only [retS_run, calE_run, aCons_run, frz_run']
  rw [key]
  simp only [R.bind_ok, aNil_run, tupO_lst, R.of_some, R.stmt_ok, O.fo, Wd, scW, List.map_map]
  rfl
theorem run__law_sum (ds : List Dt) (h : FaddW ds ≠ .no) : runD 4 m__law_sum ds = FaddW ds := by
  obtain ⟨v, w, p, rfl, hp, hv, hw, hl, e⟩ := FaddW_inv h
  rw [e]
  obtain ⟨hp1, hp2⟩ := okP_iff.mp hp
  obtain ⟨hv1, hv2⟩ := okW_iff.mp hv
  have key : (lcE (itR1 (aCons (calE (aCons (varE 0) aNil) lenO) aNil)) (Tk.nm 3).k yesT (op2 (calE (aCons (op2 (op2 (varE 0) (varE 3) ixO) (op2 (varE 1) (varE 3) ixO) addO) aNil) intO) (varE 2) modO) [3]) (st0 4 [Wd v, Wd w, .int p]) = .ok ((List.range v.length).map fun k => Dt.int ((v.getD k 0 + w.getD k 0) % p)) (st0 4 [Wd v, Wd w, .int p]) := by
    refine lcE_map (fun k : Nat => Dt.int (k : Int)) _ (List.range v.length) ?_ (fun k hk => ?_) (fun d T T' => Tk.mo) (by simp; omega)
    · refine itR1_run ?_ (by omega)
      simp [st0, Wd]
    · have h1 : k < v.length := List.mem_range.mp hk
      have h2 : k < w.length := by omega
      simp [st0, wipeL, hp1, Wd, atI_ofNat, List.getElem?_map, List.getElem?_eq_getElem h1, List.getElem?_eq_getElem h2]
  unfold runD m__law_sum
  simp only [retS_run, calE_run, aCons_run, frz_run']
  rw [key]
  simp only [R.bind_ok, aNil_run, tupO_lst, R.of_some, R.stmt_ok, O.fo, Wd, addW]
  refine congrArg (fun l => Fo.ok (Dt.tup l)) ?_
  apply List.ext_getElem?
  intro k
  rw [List.getElem?_map, List.getElem?_map, List.getElem?_zipWith]
  by_cases hk : k < v.length
  · have h2 : k < w.length := by omega
    simp [List.getElem?_range hk, List.getElem?_eq_getElem hk, List.getElem?_eq_getElem h2, List.getD_eq_getElem?_getD]
  · rw [List.getElem?_eq_none (by simpa using hk), List.getElem?_eq_none (show v.length ≤ k by omega)]
    rfl
end Lq

namespace Lq
open PySem PySem.Spec PyProof.Rows L2
/-! ### drawing numbers -/
def takeF (m : Int) (q : Int × Int) : Int × (Int × Int) :=
  if 0 < q.1 then (q.1 % m, (q.1 / m, q.2)) else ((q.2 * 48271 + 11) % 2147483647 / 7 % m, (q.1, (q.2 * 48271 + 11) % 2147483647))
theorem takeF_range {m : Int} (hm : 0 < m) (q : Int × Int) : 0 ≤ (takeF m q).1 ∧ (takeF m q).1 < m := by
  unfold takeF
  split
  · exact ⟨Int.emod_nonneg _ (by omega), Int.emod_lt_of_pos _ hm⟩
  · exact ⟨Int.emod_nonneg _ (by omega), Int.emod_lt_of_pos _ hm⟩
def stD (q : Int × Int) : List Dt := [.int q.1, .int q.2]
def Ftake : List Dt → List Dt → FoM
  | [.int s, .int t], [.int m] => if 0 < m ∧ m < 1073741824 then .ok (.int (takeF m (s, t)).1) (stD (takeF m (s, t)).2) else .no
  | _, _ => .no
theorem Ftake_run {m : Int} (q : Int × Int) (h : 0 < m ∧ m < 1073741824) : Ftake (stD q) [.int m] = .ok (.int (takeF m q).1) (stD (takeF m q).2) := by
  unfold Ftake stD
  dsimp only
  rw [if_pos h]
theorem atI0 {α : Type} (a b : α) : atI [a, b] 0 = some a := rfl
theorem atI1 {α : Type} (a b : α) : atI [a, b] 1 = some b := rfl
theorem run__law_take (xs ds : List Dt) (h : Ftake xs ds ≠ .no) : runM 3 m__law_take xs ds = Ftake xs ds := by
  unfold Ftake at h
  split at h
  · rename_i s t m
    split at h
    · rename_i hm
      have e : Ftake [.int s, .int t] [.int m] = .ok (.int (takeF m (s, t)).1) (stD (takeF m (s, t)).2) := Ftake_run (s, t) hm
      rw [e]
      have c1 : CMul t 48271 := .inr (by decide)
      have c2 : CDiv s m := hm
      have c3 : ∀ z : Int, CDiv z 7 := fun z => ⟨by decide, by decide⟩
      have i0 : ixN 2 0 = some 0 := by decide
      have i1 : ixN 2 1 = some 1 := by decide
      unfold runM m__law_take takeF
      by_cases hs : 0 < s
      · simp [stM, ixV, muAt, setS, atI0, atI1, hs, hm.1, c2, i0, O.foM, mo0, stD]
      · simp [stM, ixV, muAt, setS, atI0, atI1, hs, hm.1, c1, c3, i1, O.foM, mo0, stD]
    · exact absurd rfl h
  · exact absurd rfl h
/-- a list made by a state that goes along -/
def foldG {α β σ : Type} (g : α → σ → β × σ) : List α → σ → List β × σ
  | [], q => ([], q)
  | a :: as, q => ((g a q).1 :: (foldG g as (g a q).2).1, (foldG g as (g a q).2).2)
theorem lcF_fold {α σ : Type} {sl : List Sv} {k : Dt → Ms → Option Ms} {e : Ms → R Dt} (moOf : σ → List Mo) (enc : α → Dt) (g : α → σ → Dt × σ)
    (h : ∀ a q, ∃ S1 S3, k (enc a) { sl := sl, mo := moOf q } = some S1 ∧ e S1 = .ok (g a q).1 S3 ∧ S3.mo = moOf (g a q).2) : ∀ (xs : List α) (q : σ) (acc : List Dt), acc.length + xs.length ≤ 100000 →
    lcF sl k yesT e (xs.map enc) (moOf q) acc = .ok (acc ++ (foldG g xs q).1) { sl := sl, mo := moOf (foldG g xs q).2 }
  | [], q, acc, _ => by simp [lcF, foldG]
  | x :: xs, q, acc, hl => by
    obtain ⟨S1, S3, h1, h2, h3⟩ := h x q
    have hl' : acc.length + (xs.length + 1) ≤ 100000 := hl
    rw [List.map_cons]
    unfold lcF
    rw [h1]
    dsimp only [yesT]
    rw [h2]
    dsimp only
    rw [if_pos (by omega), h3, lcF_fold moOf enc g h xs _ (acc ++ [(g x q).1]) (by simp; omega)]
    simp [foldG]
def takeN (m : Int) : Nat → Int × Int → List Int × (Int × Int)
  | 0, q => ([], q)
  | k + 1, q => ((takeF m q).1 :: (takeN m k (takeF m q).2).1, (takeN m k (takeF m q).2).2)
theorem takeN_len (m : Int) : ∀ (k : Nat) (q : Int × Int), (takeN m k q).1.length = k
  | 0, _ => rfl
  | k + 1, q => by simp [takeN, takeN_len m k]
theorem takeN_range {m : Int} (hm : 0 < m) : ∀ (k : Nat) (q : Int × Int), ∀ x ∈ (takeN m k q).1, 0 ≤ x ∧ x < m
  | 0, _, x, h => by simp [takeN] at h
  | k + 1, q, x, h => by
    simp only [takeN, List.mem_cons] at h
    rcases h with rfl | h
    · exact takeF_range hm q
    · exact takeN_range hm k _ x h
theorem fold_takeN {α : Type} (m : Int) : ∀ (xs : List α) (q : Int × Int), foldG (fun (_ : α) q => (Dt.int (takeF m q).1, (takeF m q).2)) xs q = ((takeN m xs.length q).1.map Dt.int, (takeN m xs.length q).2)
  | [], q => rfl
  | x :: xs, q => by simp [foldG, takeN, fold_takeN m xs]
def m__law_word : Ms → O := (retS (calE (aCons (frz (lcE (itR1 (aCons (varE 1) aNil)) (Tk.nm 3).k yesT (funM 1 0 (aCons (varE 2) aNil) Ftake) [3])) aNil) tupO))
def Fword : List Dt → List Dt → FoM
  | [.int s, .int t], [.int n, .int p] => if (0 ≤ n ∧ n ≤ 1000) ∧ 0 < p ∧ p < 1073741824 then .ok (Wd (takeN p n.toNat (s, t)).1) (stD (takeN p n.toNat (s, t)).2) else .no
  | _, _ => .no
theorem Fword_run {n : Nat} {p : Int} (q : Int × Int) (hn : n ≤ 1000) (hp : 0 < p ∧ p < 1073741824) : Fword (stD q) [.int n, .int p] = .ok (Wd (takeN p n q).1) (stD (takeN p n q).2) := by
  unfold Fword stD
  dsimp only
  rw [if_pos ⟨by omega, hp⟩, Int.toNat_natCast]
theorem run__law_word (xs ds : List Dt) (h : Fword xs ds ≠ .no) : runM 4 m__law_word xs ds = Fword xs ds := by
  unfold Fword at h
  split at h
  · rename_i s t n p
    split at h
    · rename_i hc
      obtain ⟨hn, hp⟩ := hc
      obtain ⟨n, rfl⟩ : ∃ k : Nat, n = (k : Int) := ⟨n.toNat, by omega⟩
      have e : Fword [.int s, .int t] [.int n, .int p] = _ := Fword_run (s, t) (by omega) hp
      rw [e]
      have hit : itR1 (aCons (varE 1) aNil) (stM 4 [.int s, .int t] [.int n, .int p]) = .ok ((List.range n).map fun (i : Nat) => Dt.int (i : Int)) (stM 4 [.int s, .int t] [.int n, .int p]) := itR1_run (by simp [stM]) (by omega)
      have hlc := lcF_fold (sl := wipeL (stM 4 [.int s, .int t] [.int n, .int p]).sl [3]) (k := (Tk.nm 3).k) (e := funM 1 0 (aCons (varE 2) aNil) Ftake) (fun q : Int × Int => [Mo.ob (.ls (stD q))]) (fun (i : Nat) => Dt.int (i : Int)) (fun _ q => (Dt.int (takeF p q).1, (takeF p q).2)) (fun a q => by
        simp [stM, wipeL, funM, muAt, Ftake_run q hp]) (List.range n) (s, t) [] (by simp; omega)
      have key : lcE (itR1 (aCons (varE 1) aNil)) (Tk.nm 3).k yesT (funM 1 0 (aCons (varE 2) aNil) Ftake) [3] (stM 4 [.int s, .int t] [.int n, .int p]) = .ok ((takeN p n (s, t)).1.map Dt.int) { sl := (stM 4 [.int s, .int t] [.int n, .int p]).sl, mo := [Mo.ob (.ls (stD (takeN p n (s, t)).2))] } := by
        unfold lcE
        rw [hit, R.bind_ok]
        have : (stM 4 [.int s, .int t] [.int n, .int p]).mo = [Mo.ob (.ls (stD (s, t)))] := rfl
        rw [this, hlc, fold_takeN]
        simp
      unfold runM m__law_word
      simp only [retS_run, calE_run, aCons_run, frz_run']
      rw [key]
      simp only [R.bind_ok, aNil_run, tupO_lst, R.of_some, R.stmt_ok, O.foM, Wd]
      rfl
    · exact absurd rfl h
  · exact absurd rfl h
def m__law_prime : Ms → O := (retS (op2 (frz (lstE (aCons (cE (.int 2)) (aCons (cE (.int 2)) (aCons (cE (.int 3)) (aCons (cE (.int 3)) (aCons (cE (.int 5)) (aCons (cE (.int 7)) aNil)))))))) (funM 1 0 (aCons (cE (.int 6)) aNil) Ftake) ixO))
def primeF (q : Int × Int) : Int := [2, 2, 3, 3, 5, 7].getD (takeF 6 q).1.toNat 2
theorem primeF_mem (q : Int × Int) : primeF q = 2 ∨ primeF q = 3 ∨ primeF q = 5 ∨ primeF q = 7 := by
  obtain ⟨h1, h2⟩ := takeF_range (m := 6) (by decide) q
  unfold primeF
  generalize hv : (takeF 6 q).1 = v at h1 h2
  obtain ⟨k, rfl⟩ : ∃ k : Nat, v = (k : Int) := ⟨v.toNat, by omega⟩
  have : k < 6 := by omega
  match k, this with
  | 0, _ => decide
  | 1, _ => decide
  | 2, _ => decide
  | 3, _ => decide
  | 4, _ => decide
  | 5, _ => decide
def Fprime : List Dt → List Dt → FoM
  | [.int s, .int t], [] => .ok (.int (primeF (s, t))) (stD (takeF 6 (s, t)).2)
  | _, _ => .no
theorem run__law_prime (xs ds : List Dt) (h : Fprime xs ds ≠ .no) : runM 1 m__law_prime xs ds = Fprime xs ds := by
  unfold Fprime at h
  split at h
  · rename_i s t
    have e : Fprime [.int s, .int t] [] = .ok (.int (primeF (s, t))) (stD (takeF 6 (s, t)).2) := rfl
    rw [e]
    have h0 : Ftake [.int s, .int t] [.int 6] = _ := Ftake_run (s, t) (by decide)
    have hv : atI [Dt.int 2, Dt.int 2, Dt.int 3, Dt.int 3, Dt.int 5, Dt.int 7] (takeF 6 (s, t)).1 = some (.int (primeF (s, t))) := by
      obtain ⟨h1, h2⟩ := takeF_range (m := 6) (by decide) (s, t)
      unfold primeF
      generalize hv : (takeF 6 (s, t)).1 = v at h1 h2
      obtain ⟨k, rfl⟩ : ∃ k : Nat, v = (k : Int) := ⟨v.toNat, by omega⟩
      have : k < 6 := by omega
      rw [atI_ofNat]
      match k, this with
      | 0, _ => rfl
      | 1, _ => rfl
      | 2, _ => rfl
      | 3, _ => rfl
      | 4, _ => rfl
      | 5, _ => rfl
    unfold runM m__law_prime
    simp [stM, funM, muAt, h0, hv, O.foM, mo0]
  · exact absurd rfl h
theorem lstE_nil (S : Ms) : lstE aNil S = .ok [] S := by
  simp only [lstE_run, aNil_run, R.bind_ok]
  rw [if_pos (show ([] : List Dt).length ≤ 100000 from Nat.zero_le _)]
/-! ### rows -/
def m__law_rows : Ms → O := (seqS (asgN 4 (lstE aNil))
  (seqS (forS (itR1 (aCons (funM 1 0 (aCons (op2 (varE 3) (cE (.int 1)) addO) aNil) Ftake) aNil)) (Tk.nm 5).k (appS 4 (funM 2 0 (aCons (varE 1) (aCons (varE 2) aNil)) Fword)))
  (retS (varE 4))))
def rowsN (p : Int) (n : Nat) : Nat → Int × Int → List (List Int) × (Int × Int)
  | 0, q => ([], q)
  | k + 1, q => ((rowsN p n k q).1 ++ [(takeN p n (rowsN p n k q).2).1], (takeN p n (rowsN p n k q).2).2)
theorem rowsN_len (p : Int) (n : Nat) : ∀ (k : Nat) (q : Int × Int), (rowsN p n k q).1.length = k
  | 0, _ => rfl
  | k + 1, q => by simp [rowsN, rowsN_len p n k]
theorem rowsN_mem {p : Int} (hp : 0 < p) (n : Nat) : ∀ (k : Nat) (q : Int × Int), ∀ r ∈ (rowsN p n k q).1, r.length = n ∧ ∀ x ∈ r, 0 ≤ x ∧ x < p
  | 0, _, r, h => by simp [rowsN] at h
  | k + 1, q, r, h => by
    simp only [rowsN, List.mem_append, List.mem_singleton] at h
    rcases h with h | rfl
    · exact rowsN_mem hp n k q r h
    · exact ⟨takeN_len _ _ _, takeN_range hp _ _⟩
def rowsF (p : Int) (n : Nat) (most : Int) (q : Int × Int) : List (List Int) × (Int × Int) := rowsN p n (takeF (most + 1) q).1.toNat (takeF (most + 1) q).2
def Frows : List Dt → List Dt → FoM
  | [.int s, .int t], [.int n, .int p, .int most] => if (0 ≤ n ∧ n ≤ 1000) ∧ (0 < p ∧ p < 1073741824) ∧ 0 ≤ most ∧ most ≤ 1000 then .ok (.lst ((rowsF p n.toNat most (s, t)).1.map Wd)) (stD (rowsF p n.toNat most (s, t)).2) else .no
  | _, _ => .no
theorem Frows_run {n : Nat} {p most : Int} (q : Int × Int) (hn : n ≤ 1000) (hp : 0 < p ∧ p < 1073741824) (hm : 0 ≤ most ∧ most ≤ 1000) : Frows (stD q) [.int n, .int p, .int most] = .ok (.lst ((rowsF p n most q).1.map Wd)) (stD (rowsF p n most q).2) := by
  unfold Frows stD
  dsimp only
  rw [if_pos ⟨by omega, hp, hm⟩, Int.toNat_natCast]
theorem run__law_rows (xs ds : List Dt) (h : Frows xs ds ≠ .no) : runM 6 m__law_rows xs ds = Frows xs ds := by
  unfold Frows at h
  split at h
  · rename_i s t n p most
    split at h
    · rename_i hc
      obtain ⟨hn, hp, hm⟩ := hc
      obtain ⟨n, rfl⟩ : ∃ k : Nat, n = (k : Int) := ⟨n.toNat, by omega⟩
      have e : Frows [.int s, .int t] [.int n, .int p, .int most] = _ := Frows_run (s, t) (by omega) hp hm
      rw [e]
      obtain ⟨r1, r2⟩ := takeF_range (m := most + 1) (by omega) (s, t)
      obtain ⟨c, hc⟩ : ∃ c : Nat, (takeF (most + 1) (s, t)).1 = (c : Int) := ⟨(takeF (most + 1) (s, t)).1.toNat, by omega⟩
      have h0 : Ftake [.int s, .int t] [.int (most + 1)] = _ := Ftake_run (s, t) ⟨by omega, by omega⟩
      -- the loop
      have hit : itR1 (aCons (funM 1 0 (aCons (op2 (varE 3) (cE (.int 1)) addO) aNil) Ftake) aNil) { sl := [.mu 0, .im (.int n), .im (.int p), .im (.int most), .mu 1, .no], mo := [.ob (.ls [.int s, .int t]), .ob (.ls [])] } =
          .ok ((List.range c).map fun (i : Nat) => Dt.int (i : Int)) { sl := [.mu 0, .im (.int n), .im (.int p), .im (.int most), .mu 1, .no], mo := [.ob (.ls (stD (takeF (most + 1) (s, t)).2)), .ob (.ls [])] } := itR1_run (by simp [funM, muAt, h0, hc]) (by omega)
      obtain ⟨S', f1, f2⟩ := forL_inv (k := (Tk.nm 5).k) (body := appS 4 (funM 2 0 (aCons (varE 1) (aCons (varE 2) aNil)) Fword)) ((List.range c).map fun (i : Nat) => Dt.int (i : Int))
        (fun i S => i ≤ c ∧ ∃ x, S = { sl := [.mu 0, .im (.int n), .im (.int p), .im (.int most), .mu 1, x], mo := [.ob (.ls (stD (rowsN p n i (takeF (most + 1) (s, t)).2).2)), .ob (.ls ((rowsN p n i (takeF (most + 1) (s, t)).2).1.map Wd))] })
        { sl := [.mu 0, .im (.int n), .im (.int p), .im (.int most), .mu 1, .no], mo := [.ob (.ls (stD (takeF (most + 1) (s, t)).2)), .ob (.ls [])] } ⟨Nat.zero_le _, .no, rfl⟩ (fun i d S hd hI => by
          obtain ⟨hi, x, rfl⟩ := hI
          have hic : i < c := by
            have := (List.getElem?_eq_some_iff.mp hd).1
            simpa using this
          have hw := Fword_run (n := n) (rowsN p n i (takeF (most + 1) (s, t)).2).2 (by omega) hp
          have hlen := rowsN_len p n i (takeF (most + 1) (s, t)).2
          refine ⟨_, _, kNm _ _ _, .inl ?_, hic, .im d, rfl⟩
          simp [funM, muAt, hw, hlen, rowsN]
          omega)
      obtain ⟨_, x, hS'⟩ := f2
      rw [List.length_map, List.length_range] at hS'
      unfold runM m__law_rows
      simp only [seqS_run, asgN_run', lstE_nil]
      have hst : (stM 6 [.int s, .int t] [.int n, .int p, .int most]) = { sl := [.mu 0, .im (.int n), .im (.int p), .im (.int most), .no, .no], mo := [.ob (.ls [.int s, .int t])] } := rfl
      rw [hst]
      rw [R.stmt_ok, seq_nx]
      simp only [List.length_cons, List.length_nil, List.set_cons_succ, List.set_cons_zero, List.cons_append, List.nil_append, Nat.zero_add, seqS_run]
      simp only [forS_run]
      rw [hit]
      simp only [R.stmt_ok]
      rw [f1, hS']
      simp [O.foM, mo0, rowsF, hc]
    · exact absurd rfl h
  · exact absurd rfl h
/-! ### powers -/
theorem cmul_r {p a : Int} (h1 : -1000 ≤ p) (h2 : p ≤ 1000) : CMul a p := by
  have e1 : (1000 : Int) < 2 ^ 64 := by decide
  have e2 : -(2 : Int) ^ 64 < -1000 := Int.neg_lt_neg e1
  exact .inr ⟨Int.lt_of_lt_of_le e2 h1, Int.lt_of_le_of_lt h2 e1⟩
def Fpower : List Dt → Fo
  | [.int p, .int k] => if (-1000 ≤ p ∧ p ≤ 1000) ∧ 0 ≤ k ∧ k ≤ 1000 then .ok (.int (p ^ k.toNat)) else .no
  | _ => .no
theorem run__law_power (ds : List Dt) (h : Fpower ds ≠ .no) : runD 4 m__law_power ds = Fpower ds := by
  unfold Fpower at h
  split at h
  · rename_i p k
    split at h
    · rename_i hc
      obtain ⟨k, rfl⟩ : ∃ j : Nat, k = (j : Int) := ⟨k.toNat, by omega⟩
      have e : Fpower [.int p, .int k] = .ok (.int (p ^ k)) := by
        unfold Fpower
        dsimp only
        rw [if_pos hc, Int.toNat_natCast]
      rw [e]
      have hcm : ∀ a : Int, CMul a p := fun a => cmul_r hc.1.1 hc.1.2
      obtain ⟨S', f1, f2⟩ := forL_inv (k := (Tk.nm 3).k) (body := asgS 2 (op2 (varE 2) (varE 0) mulO)) ((List.range k).map fun (i : Nat) => Dt.int (i : Int))
        (fun i S => ∃ x, S = { sl := [.im (.int p), .im (.int k), .im (.int (p ^ i)), x], mo := [] }) { sl := [.im (.int p), .im (.int k), .im (.int 1), .no], mo := [] } ⟨.no, by simp⟩ (fun i d S hd hI => by
          obtain ⟨x, rfl⟩ := hI
          refine ⟨_, _, kNm _ _ _, .inl ?_, .im d, rfl⟩
          simp [hcm, Int.pow_succ])
      obtain ⟨x, hS'⟩ := f2
      rw [List.length_map, List.length_range] at hS'
      have hit : itR1 (aCons (varE 1) aNil) { sl := [.im (.int p), .im (.int k), .im (.int 1), .no], mo := [] } = .ok ((List.range k).map fun (i : Nat) => Dt.int (i : Int)) { sl := [.im (.int p), .im (.int k), .im (.int 1), .no], mo := [] } := itR1_run (by simp) (by omega)
      have hst : st0 4 [.int p, .int k] = { sl := [.im (.int p), .im (.int k), .no, .no], mo := [] } := rfl
      unfold runD m__law_power
      rw [hst]
      simp only [seqS_run, asgS_run', cE_run, R.stmt_ok, seq_nx, List.set_cons_succ, List.set_cons_zero, forS_run]
      rw [hit]
      simp only [R.stmt_ok]
      rw [f1, hS']
      simp [O.fo]
    · exact absurd rfl h
  · exact absurd rfl h
end Lq

namespace Lq
open PySem PySem.Spec PyProof.Rows L2
/-! ### inverses -/
def m_inverse : Ms → O := (seqS (forS (itR2 (aCons (cE (.int 1)) (aCons (varE 1) aNil))) (Tk.nm 2).k (ifS (tst (op2 (op2 (op2 (varE 0) (varE 2) mulO) (varE 1) modO) (cE (.int 1)) eqO)) (retS (varE 2)) nilS))
  noS)
def invF (p a : Int) : Option Nat := (List.range (p - 1).toNat).find? fun c => decide (a * (1 + (c : Int)) % p = 1)
def Finverse : List Dt → Fo
  | [.int a, .int p] => if okP p = true then (match invF p a with | some c => .ok (.int (1 + (c : Int))) | none => .no) else .no
  | _ => .no
/-- a loop that returns at the first item that passes -/
theorem forL_find {α : Type} {k : Dt → Ms → Option Ms} {body : Ms → O} (enc : α → Dt) (b : α → Bool) (res : α → Dt) (I : Ms → Prop) : ∀ (xs : List α) (S : Ms), I S →
    (∀ x ∈ xs, ∀ S, I S → ∃ S1, k (enc x) S = some S1 ∧ (b x = true → ∃ S2, body S1 = .rt (res x) S2) ∧ (b x = false → ∃ S2, body S1 = .nx S2 ∧ I S2)) → ∀ y, xs.find? b = some y → ∃ S', forL k body (xs.map enc) S = .rt (res y) S'
  | [], _, _, _, y, h => by simp at h
  | x :: xs, S, hI, hs, y, h => by
    obtain ⟨S1, h1, h2, h3⟩ := hs x List.mem_cons_self S hI
    rw [List.map_cons]
    unfold forL
    rw [h1]
    dsimp only
    cases hb : b x with
    | true =>
      rw [List.find?_cons, hb] at h
      cases h
      obtain ⟨S2, e⟩ := h2 hb
      rw [e]
      exact ⟨S2, rfl⟩
    | false =>
      rw [List.find?_cons, hb] at h
      obtain ⟨S2, e, hI2⟩ := h3 hb
      rw [e]
      exact forL_find enc b res I xs S2 hI2 (fun z hz => hs z (List.mem_cons_of_mem _ hz)) y h
theorem itR2_run {fs : Ms → R (List Dt)} {S S1 : Ms} {i j : Int} (h : fs S = .ok [.int i, .int j] S1) (hi : -1000000 ≤ i ∧ i ≤ 1000000) (hj : -1000000 ≤ j ∧ j ≤ 1000000) : itR2 fs S = .ok ((List.range (j - i).toNat).map fun (k : Nat) => Dt.int (i + (k : Int))) S1 := by
  unfold itR2
  rw [h, R.bind_ok]
  dsimp only
  have e1 : (1000000 : Int) < 2 ^ 62 := by decide
  have e2 : -(2 : Int) ^ 62 < -1000000 := Int.neg_lt_neg e1
  rw [if_pos ⟨Int.le_of_lt (Int.lt_of_lt_of_le e2 hi.1), Int.lt_of_le_of_lt hi.2 e1, Int.le_of_lt (Int.lt_of_lt_of_le e2 hj.1), Int.lt_of_le_of_lt hj.2 e1⟩]
theorem run_inverse (ds : List Dt) (h : Finverse ds ≠ .no) : runD 3 m_inverse ds = Finverse ds := by
  unfold Finverse at h
  split at h
  · rename_i a p
    split at h
    · rename_i hp
      obtain ⟨hp1, hp2⟩ := okP_iff.mp hp
      cases hc : invF p a with
      | none => rw [hc] at h; exact absurd rfl h
      | some c =>
        have e : Finverse [.int a, .int p] = .ok (.int (1 + (c : Int))) := by
          unfold Finverse
          dsimp only
          rw [if_pos hp, hc]
        rw [e]
        have hit : itR2 (aCons (cE (.int 1)) (aCons (varE 1) aNil)) (st0 3 [.int a, .int p]) = .ok ((List.range (p - 1).toNat).map fun (k : Nat) => Dt.int (1 + (k : Int))) (st0 3 [.int a, .int p]) := itR2_run (by simp [st0]) (by omega) (by omega)
        obtain ⟨S', hS'⟩ := forL_find (k := (Tk.nm 2).k) (body := ifS (tst (op2 (op2 (op2 (varE 0) (varE 2) mulO) (varE 1) modO) (cE (.int 1)) eqO)) (retS (varE 2)) nilS) (fun (k : Nat) => Dt.int (1 + (k : Int))) (fun c => decide (a * (1 + (c : Int)) % p = 1)) (fun c : Nat => .int (1 + (c : Int)))
          (fun S => ∃ x, S = { sl := [.im (.int a), .im (.int p), x], mo := [] }) (List.range (p - 1).toNat) (st0 3 [.int a, .int p]) ⟨.no, rfl⟩ (fun x hx S hI => by
            obtain ⟨y, rfl⟩ := hI
            have hx' := List.mem_range.mp hx
            have hcm : CMul a (1 + (x : Int)) := cmul_r (by omega) (by omega)
            refine ⟨_, kNm _ _ _, fun hb => ?_, fun hb => ?_⟩
            · have hb' := of_decide_eq_true hb
              simp [hcm, hp1, hb']
            · have hb' := of_decide_eq_false hb
              refine ⟨{ sl := [.im (.int a), .im (.int p), .im (.int (1 + (x : Int)))], mo := [] }, ?_, _, rfl⟩
              simp [hcm, hp1, hb']) c hc
        unfold runD m_inverse
        rw [seqS_run, forS_run, hit, R.stmt_ok, hS', seq_rt]
        rfl
    · exact absurd rfl h
  · exact absurd rfl h
/-! ### clearing a row -/
def m__cleared : Ms → O := (retS (funE 3 (aCons (varE 0) (aCons (funE 3 (aCons (varE 1) (aCons (op1 (op2 (varE 0) (varE 2) ixO) negO) (aCons (varE 3) aNil))) FscW) (aCons (varE 3) aNil))) FaddW))
def clr (p : Int) (h : List Int) (at_ : Nat) (r : List Int) : List Int := addW p r (scW p (-(r.getD at_ 0)) h)
theorem okW_scW {p a : Int} {v : List Int} (hp : okP p = true) (hv : okW p v = true) : okW p (scW p a v) = true := by
  obtain ⟨hp1, hp2⟩ := okP_iff.mp hp
  obtain ⟨hv1, hv2⟩ := okW_iff.mp hv
  refine okW_iff.mpr ⟨by simpa [scW] using hv1, fun x hx => ?_⟩
  obtain ⟨y, _, rfl⟩ := List.mem_map.mp hx
  exact ⟨Int.emod_nonneg _ (by omega), Int.emod_lt_of_pos _ hp1⟩
theorem mem_zipWith {α β γ : Type} {f : α → β → γ} : ∀ {xs : List α} {ys : List β} {z : γ}, z ∈ List.zipWith f xs ys → ∃ a b, z = f a b
  | [], _, _, h => by simp at h
  | _ :: _, [], _, h => by simp at h
  | a :: xs, b :: ys, z, h => by
    rw [List.zipWith_cons_cons, List.mem_cons] at h
    rcases h with h | h
    · exact ⟨a, b, h⟩
    · exact mem_zipWith h
theorem okW_addW {p : Int} {v w : List Int} (hp : okP p = true) (hv : okW p v = true) : okW p (addW p v w) = true := by
  obtain ⟨hp1, hp2⟩ := okP_iff.mp hp
  obtain ⟨hv1, hv2⟩ := okW_iff.mp hv
  refine okW_iff.mpr ⟨by simp [addW]; omega, fun x hx => ?_⟩
  obtain ⟨a, b, rfl⟩ := mem_zipWith hx
  exact ⟨Int.emod_nonneg _ (by omega), Int.emod_lt_of_pos _ hp1⟩
theorem scW_len (p a : Int) (v : List Int) : (scW p a v).length = v.length := by simp [scW]
theorem addW_len (p : Int) (v w : List Int) (h : v.length = w.length) : (addW p v w).length = v.length := by simp [addW, h]
theorem clr_len (p : Int) (h : List Int) (at_ : Nat) (r : List Int) (e : h.length = r.length) : (clr p h at_ r).length = r.length := addW_len _ _ _ (by rw [scW_len, e])
theorem okW_clr {p : Int} {h : List Int} {at_ : Nat} {r : List Int} (hp : okP p = true) (hr : okW p r = true) : okW p (clr p h at_ r) = true := okW_addW hp hr
def Fcleared : List Dt → Fo
  | [d, e, .int at_, .int p] => match wordOf d, wordOf e with
    | some r, some h => if (okP p && okW p r && okW p h && decide (r.length = h.length) && decide (0 ≤ at_ ∧ at_ < r.length)) = true then .ok (Wd (clr p h at_.toNat r)) else .no
    | _, _ => .no
  | _ => .no
theorem Fcleared_run {p : Int} {r h : List Int} {at_ : Nat} (hp : okP p = true) (hr : okW p r = true) (hh : okW p h = true) (e : r.length = h.length) (ha : at_ < r.length) : Fcleared [Wd r, Wd h, .int at_, .int p] = .ok (Wd (clr p h at_ r)) := by
  unfold Fcleared
  simp only [wordOf_Wd]
  rw [if_pos (by simp [hp, hr, hh, e]; omega), Int.toNat_natCast]
theorem FscW_run {p a : Int} {v : List Int} (hp : okP p = true) (hv : okW p v = true) : FscW [Wd v, .int a, .int p] = .ok (Wd (scW p a v)) := by
  unfold FscW
  simp only [wordOf_Wd]
  rw [if_pos (by simp [hp, hv])]
theorem FaddW_run {p : Int} {v w : List Int} (hp : okP p = true) (hv : okW p v = true) (hw : okW p w = true) (e : v.length = w.length) : FaddW [Wd v, Wd w, .int p] = .ok (Wd (addW p v w)) := by
  unfold FaddW
  simp only [wordOf_Wd]
  rw [if_pos (by simp [hp, hv, hw, e])]
theorem run__cleared (ds : List Dt) (h : Fcleared ds ≠ .no) : runD 4 m__cleared ds = Fcleared ds := by
  unfold Fcleared at h
  split at h
  · rename_i d e at_ p
    split at h
    · rename_i r hd h1 h2
      split at h
      · rename_i hc
        have := wordOf_eq h1
        have := wordOf_eq h2
        subst_vars
        simp only [Bool.and_eq_true, decide_eq_true_eq] at hc
        obtain ⟨⟨⟨⟨hp, hr⟩, hh⟩, hl⟩, ha⟩ := hc
        obtain ⟨at_, rfl⟩ : ∃ k : Nat, at_ = (k : Int) := ⟨at_.toNat, by omega⟩
        have ha' : at_ < r.length := by omega
        rw [Fcleared_run hp hr hh hl ha']
        have e1 := FscW_run (a := -(r.getD at_ 0)) hp hh
        have e2 := FaddW_run (w := scW p (-(r.getD at_ 0)) hd) hp hr (okW_scW hp hh) (by rw [scW_len, hl])
        have e3 : atI (r.map Dt.int) (at_ : Int) = some (.int (r.getD at_ 0)) := by
          rw [atI_ofNat, List.getElem?_map, List.getElem?_eq_getElem ha', List.getD_eq_getElem?_getD, List.getElem?_eq_getElem ha']
          rfl
        have w1 : ixO (Wd r) (.int (at_ : Int)) = some (.int (r.getD at_ 0)) := e3
        unfold runD m__cleared
        have hst : st0 4 [Wd r, Wd hd, .int at_, .int p] = { sl := [.im (Wd r), .im (Wd hd), .im (.int at_), .im (.int p)], mo := [] } := rfl
        rw [hst]
        unfold clr
        generalize r.getD at_ 0 = z at *
        simp [w1, e1, e2, O.fo]
      · exact absurd rfl h
    · exact absurd rfl h
  · exact absurd rfl h

/-! ### the reduced table -/
def m_reduced : Ms → O := (seqS (asgS 3 (frz (lstE aNil)))
  (seqS (asgN 4 (lstE aNil))
  (seqS (moveS 5 0)
  (seqS (forS (itR1 (aCons (varE 1) aNil)) (Tk.nm 6).k (seqS (asgS 7 (frz (lcE (itS (varE 5)) (Tk.nm 9).k (tst (op2 (op2 (varE 9) (varE 6) ixO) (cE (.int 0)) neO)) (varE 9) [9])))
  (ifS (truT (varE 7)) (seqS (asgS 8 (funE 3 (aCons (op2 (varE 7) (cE (.int 0)) ixO) (aCons (funE 2 (aCons (op2 (op2 (varE 7) (cE (.int 0)) ixO) (varE 6) ixO) (aCons (varE 2) aNil)) Finverse) (aCons (varE 2) aNil))) FscW))
  (seqS (asgS 3 (frz (opN (frz (lcE (itS (varE 3)) (Tk.nm 9).k yesT (funE 4 (aCons (varE 9) (aCons (varE 8) (aCons (varE 6) (aCons (varE 2) aNil)))) Fcleared) [9])) (frz (lstE (aCons (varE 8) aNil))) catL)))
  (seqS (asgS 5 (frz (lcE (itS (varE 5)) (Tk.nm 9).k yesT (funE 4 (aCons (varE 9) (aCons (varE 8) (aCons (varE 6) (aCons (varE 2) aNil)))) Fcleared) [9])))
  (appS 4 (varE 6))))) nilS)))
  (retS (tupE (aCons (calE (aCons (varE 3) aNil) tupO) (aCons (calE (aCons (varE 4) aNil) tupO) aNil))))))))
structure Red where
  T : List (List Int)
  P : List Nat
  L : List (List Int)
def invP (p a : Int) : Int := match invF p a with | some c => 1 + (c : Int) | none => 0
def redHead (p : Int) (at_ : Nat) (r : List Int) : List Int := scW p (invP p (r.getD at_ 0)) r
def redStep (p : Int) (s : Red) (at_ : Nat) : Red := match s.L.filter fun r => decide (r.getD at_ 0 ≠ 0) with
  | [] => s
  | r :: _ => ⟨s.T.map (clr p (redHead p at_ r) at_) ++ [redHead p at_ r], s.P ++ [at_], s.L.map (clr p (redHead p at_ r) at_)⟩
def redN (p : Int) (rows : List (List Int)) : Nat → Red
  | 0 => ⟨[], [], rows⟩
  | k + 1 => redStep p (redN p rows k) k
def isP (p : Int) : Bool := decide (p = 2 ∨ p = 3 ∨ p = 5 ∨ p = 7)
theorem isP_okP {p : Int} (h : isP p = true) : okP p = true := by
  have := of_decide_eq_true h
  exact okP_iff.mpr (by omega)
/-- every number that p does not divide has an inverse -/
theorem invF_some {p : Int} (h : isP p = true) {a : Int} (ha : a % p ≠ 0) : ∃ c, invF p a = some c ∧ a * (1 + (c : Int)) % p = 1 ∧ (c : Int) < p - 1 := by
  have hp := of_decide_eq_true h
  have ex : ∃ c ∈ List.range (p - 1).toNat, decide (a * (1 + (c : Int)) % p = 1) = true := by
    have hm : ∀ c : Int, a * c % p = ((a % p) * c) % p := fun c => by
      conv => lhs; rw [Int.mul_emod]
      conv => rhs; rw [Int.mul_emod, Int.emod_emod]
    have h0 : 0 ≤ a % p := Int.emod_nonneg _ (by omega)
    have h1 : a % p < p := Int.emod_lt_of_pos _ (by omega)
    generalize a % p = b at *
    rcases hp with rfl | rfl | rfl | rfl
    · refine ⟨0, by decide, decide_eq_true ?_⟩
      rw [hm]
      have : b = 1 := by omega
      subst this; decide
    · have : b = 1 ∨ b = 2 := by omega
      rcases this with rfl | rfl
      · exact ⟨0, by decide, decide_eq_true (by rw [hm]; decide)⟩
      · exact ⟨1, by decide, decide_eq_true (by rw [hm]; decide)⟩
    · have : b = 1 ∨ b = 2 ∨ b = 3 ∨ b = 4 := by omega
      rcases this with rfl | rfl | rfl | rfl
      · exact ⟨0, by decide, decide_eq_true (by rw [hm]; decide)⟩
      · exact ⟨2, by decide, decide_eq_true (by rw [hm]; decide)⟩
      · exact ⟨1, by decide, decide_eq_true (by rw [hm]; decide)⟩
      · exact ⟨3, by decide, decide_eq_true (by rw [hm]; decide)⟩
    · have : b = 1 ∨ b = 2 ∨ b = 3 ∨ b = 4 ∨ b = 5 ∨ b = 6 := by omega
      rcases this with rfl | rfl | rfl | rfl | rfl | rfl
      · exact ⟨0, by decide, decide_eq_true (by rw [hm]; decide)⟩
      · exact ⟨3, by decide, decide_eq_true (by rw [hm]; decide)⟩
      · exact ⟨4, by decide, decide_eq_true (by rw [hm]; decide)⟩
      · exact ⟨1, by decide, decide_eq_true (by rw [hm]; decide)⟩
      · exact ⟨2, by decide, decide_eq_true (by rw [hm]; decide)⟩
      · exact ⟨5, by decide, decide_eq_true (by rw [hm]; decide)⟩
  have hs : (invF p a).isSome = true := by
    unfold invF
    rw [List.find?_isSome]
    obtain ⟨c, hc, hd⟩ := ex
    exact ⟨c, hc, hd⟩
  obtain ⟨c, hc⟩ := Option.isSome_iff_exists.mp hs
  have hc' : (List.range (p - 1).toNat).find? (fun c : Nat => decide (a * (1 + (c : Int)) % p = 1)) = some c := hc
  have h2 := List.find?_some hc'
  refine ⟨c, hc, of_decide_eq_true h2, ?_⟩
  have := List.mem_range.mp (List.mem_of_find?_eq_some hc')
  omega
theorem invP_mul {p : Int} (h : isP p = true) {a : Int} (ha : a % p ≠ 0) : a * invP p a % p = 1 := by
  obtain ⟨c, h1, h2, _⟩ := invF_some h ha
  unfold invP
  rw [h1]
  exact h2
theorem Finverse_run {p : Int} (h : isP p = true) {a : Int} (ha : a % p ≠ 0) : Finverse [.int a, .int p] = .ok (.int (invP p a)) := by
  obtain ⟨c, h1, h2, _⟩ := invF_some h ha
  unfold Finverse invP
  dsimp only
  rw [if_pos (isP_okP h), h1]
/-- all words are of the width n, over p -/
def okR (p : Int) (n : Nat) (rows : List (List Int)) : Prop := ∀ r ∈ rows, okW p r = true ∧ r.length = n
theorem okR_map {p : Int} {n : Nat} {rows : List (List Int)} {h : List Int} {at_ : Nat} (hp : okP p = true) (hr : okR p n rows) (hh : h.length = n) : okR p n (rows.map (clr p h at_)) := fun r hm => by
  obtain ⟨q, hq, rfl⟩ := List.mem_map.mp hm
  obtain ⟨h1, h2⟩ := hr q hq
  exact ⟨okW_clr hp h1, by rw [clr_len _ _ _ _ (by rw [hh, h2])]; exact h2⟩
theorem okR_head {p : Int} {n at_ : Nat} {r : List Int} (hp : okP p = true) (hr : okW p r = true ∧ r.length = n) : okW p (redHead p at_ r) = true ∧ (redHead p at_ r).length = n := ⟨okW_scW hp hr.1, by unfold redHead; rw [scW_len]; exact hr.2⟩
theorem redStep_ok {p : Int} {n at_ : Nat} {s : Red} (hp : okP p = true) (hT : okR p n s.T) (hL : okR p n s.L) : okR p n (redStep p s at_).T ∧ okR p n (redStep p s at_).L := by
  unfold redStep
  split
  · exact ⟨hT, hL⟩
  · rename_i r rs hf
    have hr : r ∈ s.L := (List.mem_filter.mp (by rw [hf]; exact List.mem_cons_self)).1
    have hh := okR_head (at_ := at_) hp (hL r hr)
    refine ⟨fun q hq => ?_, okR_map hp hL hh.2⟩
    rcases List.mem_append.mp hq with hq | hq
    · exact okR_map hp hT hh.2 q hq
    · rw [List.mem_singleton] at hq
      subst hq
      exact hh
theorem redN_ok {p : Int} {n : Nat} {rows : List (List Int)} (hp : okP p = true) (h : okR p n rows) : ∀ k, okR p n (redN p rows k).T ∧ okR p n (redN p rows k).L
  | 0 => ⟨fun r hr => absurd hr (List.not_mem_nil), h⟩
  | k + 1 => redStep_ok hp (redN_ok hp h k).1 (redN_ok hp h k).2
theorem redN_lens {p : Int} {rows : List (List Int)} : ∀ k, (redN p rows k).T.length = (redN p rows k).P.length ∧ (redN p rows k).P.length ≤ k ∧ (redN p rows k).L.length = rows.length
  | 0 => ⟨rfl, Nat.le_refl _, rfl⟩
  | k + 1 => by
    obtain ⟨h1, h2, h3⟩ := redN_lens (p := p) (rows := rows) k
    show ((redStep p (redN p rows k) k).T.length = (redStep p (redN p rows k) k).P.length ∧ (redStep p (redN p rows k) k).P.length ≤ k + 1 ∧ (redStep p (redN p rows k) k).L.length = rows.length)
    unfold redStep
    split
    · exact ⟨h1, by omega, h3⟩
    · simp [h1, h3]
      omega
end Lq

namespace Lq
open PySem PySem.Spec PyProof.Rows L2
def redD (s : Red) : Dt := .tup [.tup (s.T.map Wd), .tup (s.P.map fun (c : Nat) => Dt.int (c : Int))]
def okRb (p : Int) (n : Nat) (rows : List (List Int)) : Bool := rows.all fun r => okW p r && decide (r.length = n)
theorem okRb_iff {p : Int} {n : Nat} {rows : List (List Int)} : okRb p n rows = true ↔ okR p n rows := by simp [okRb, okR]
def Freduced : List Dt → Fo
  | [d, .int w, .int p] => match (seqOf d).bind wordsOf with
    | some rows => if (isP p && decide (0 ≤ w ∧ w ≤ 1000) && decide (rows.length ≤ 1000) && okRb p w.toNat rows) = true then .ok (redD (redN p rows w.toNat)) else .no
    | none => .no
  | _ => .no
theorem Freduced_run {p : Int} {n : Nat} {rows : List (List Int)} {d : Dt} (hd : seqOf d = some (rows.map Wd)) (hp : isP p = true) (hn : n ≤ 1000) (hl : rows.length ≤ 1000) (h : okR p n rows) : Freduced [d, .int n, .int p] = .ok (redD (redN p rows n)) := by
  unfold Freduced
  dsimp only
  rw [hd]
  simp only [Option.bind, wordsOf_map, Int.toNat_natCast]
  rw [if_pos]
  simp [hp, okRb_iff.mpr h, hl]
  omega
/-- the state ahead of the turn i -/
def redSt (d : Dt) (n : Nat) (p : Int) (s : Red) (ld : Dt) (x6 x7 x8 x9 : Sv) : Ms :=
  { sl := [.im d, .im (.int n), .im (.int p), .im (.lst (s.T.map Wd)), .mu 0, .im ld, x6, x7, x8, x9], mo := [.ob (.ls (s.P.map fun (c : Nat) => Dt.int (c : Int)))] }
theorem wd_ix {r : List Int} {k : Nat} (h : k < r.length) : ixO (Wd r) (.int (k : Int)) = some (.int (r.getD k 0)) := by
  show atI (r.map Dt.int) (k : Int) = _
  rw [atI_ofNat, List.getElem?_map, List.getElem?_eq_getElem h, List.getD_eq_getElem?_getD, List.getElem?_eq_getElem h]
  rfl
def redBody : Ms → O := (seqS (asgS 7 (frz (lcE (itS (varE 5)) (Tk.nm 9).k (tst (op2 (op2 (varE 9) (varE 6) ixO) (cE (.int 0)) neO)) (varE 9) [9])))
  (ifS (truT (varE 7)) (seqS (asgS 8 (funE 3 (aCons (op2 (varE 7) (cE (.int 0)) ixO) (aCons (funE 2 (aCons (op2 (op2 (varE 7) (cE (.int 0)) ixO) (varE 6) ixO) (aCons (varE 2) aNil)) Finverse) (aCons (varE 2) aNil))) FscW))
  (seqS (asgS 3 (frz (opN (frz (lcE (itS (varE 3)) (Tk.nm 9).k yesT (funE 4 (aCons (varE 9) (aCons (varE 8) (aCons (varE 6) (aCons (varE 2) aNil)))) Fcleared) [9])) (frz (lstE (aCons (varE 8) aNil))) catL)))
  (seqS (asgS 5 (frz (lcE (itS (varE 5)) (Tk.nm 9).k yesT (funE 4 (aCons (varE 9) (aCons (varE 8) (aCons (varE 6) (aCons (varE 2) aNil)))) Fcleared) [9])))
  (appS 4 (varE 6))))) nilS))
theorem lcF_clr {d td ld x7 : Dt} {n : Nat} {p : Int} {mo : List Mo} {h : List Int} {at_ : Nat} {rows : List (List Int)} (hp : okP p = true) (hr : okR p n rows) (hh : okW p h = true ∧ h.length = n) (ha : at_ < n) (hl : rows.length ≤ 100000) (src : Nat) {x9 : Sv}
    {S : Ms} (hS : S = { sl := [.im d, .im (.int n), .im (.int p), .im td, .mu 0, .im ld, .im (.int at_), .im x7, .im (Wd h), x9], mo := mo }) (hsrc : itS (varE src) S = .ok (rows.map Wd) S) :
    lcE (itS (varE src)) (Tk.nm 9).k yesT (funE 4 (aCons (varE 9) (aCons (varE 8) (aCons (varE 6) (aCons (varE 2) aNil)))) Fcleared) [9] S = .ok ((rows.map (clr p h at_)).map Wd) S := by
  rw [List.map_map]
  refine lcE_map Wd _ rows hsrc (fun r hr' => ?_) (fun d T T' => Tk.mo) hl
  obtain ⟨h1, h2⟩ := hr r hr'
  have e := Fcleared_run (at_ := at_) hp h1 hh.1 (by rw [h2, hh.2]) (by rw [h2]; exact ha)
  subst hS
  refine ⟨_, kNm _ _ _, ?_⟩
  simp [wipeL, e]
theorem redBody_run {d ld : Dt} {n : Nat} {p : Int} {s : Red} {y7 y8 y9 : Sv} {i : Nat} (hp : isP p = true) (hn : n ≤ 1000) (hi : i < n) (hT : okR p n s.T) (hL : okR p n s.L) (hTl : s.T.length ≤ 1000) (hLl : s.L.length ≤ 1000) (hPl : s.P.length ≤ 1000) (hd : seqOf ld = some (s.L.map Wd)) :
    ∃ ld' x7 x8 x9, redBody (redSt d n p s ld (.im (.int i)) y7 y8 y9) = .nx (redSt d n p (redStep p s i) ld' (.im (.int i)) x7 x8 x9) ∧ seqOf ld' = some ((redStep p s i).L.map Wd) := by
  have hp' := isP_okP hp
  obtain ⟨hp1, hp2⟩ := okP_iff.mp hp'
  -- found
  have h1 : lcE (itS (varE 5)) (Tk.nm 9).k (tst (op2 (op2 (varE 9) (varE 6) ixO) (cE (.int 0)) neO)) (varE 9) [9] (redSt d n p s ld (.im (.int i)) y7 y8 y9) = .ok ((s.L.filter fun r => decide (r.getD i 0 ≠ 0)).map Wd) (redSt d n p s ld (.im (.int i)) y7 y8 y9) := by
    refine lcE_flt Wd (fun r => decide (r.getD i 0 ≠ 0)) Wd s.L (by simp [redSt, hd]) (fun r hr => ?_) (by omega)
    obtain ⟨_, h2⟩ := hL r hr
    have e := wd_ix (r := r) (k := i) (by rw [h2]; exact hi)
    have key : ∃ T2, (tst (op2 (op2 (varE 9) (varE 6) ixO) (cE (.int 0)) neO)) { sl := [.im d, .im (.int n), .im (.int p), .im (.lst (s.T.map Wd)), .mu 0, .im ld, .im (.int i), y7, y8, .im (Wd r)], mo := [.ob (.ls (s.P.map fun (c : Nat) => Dt.int (c : Int)))] } = .ok (decide (r.getD i 0 ≠ 0)) T2 ∧ T2 = { sl := [.im d, .im (.int n), .im (.int p), .im (.lst (s.T.map Wd)), .mu 0, .im ld, .im (.int i), y7, y8, .im (Wd r)], mo := [.ob (.ls (s.P.map fun (c : Nat) => Dt.int (c : Int)))] } := by
      refine ⟨_, ?_, rfl⟩
      generalize r.getD i 0 = z at *
      simp [e]
    obtain ⟨T2, k1, k2⟩ := key
    refine ⟨_, T2, kNm _ _ _, k1, by rw [k2]; rfl, fun _ => ⟨T2, ?_, by rw [k2]; rfl⟩⟩
    rw [k2]
    simp
  unfold redBody
  rw [seqS_run, asgS_run', frz_run', h1, R.bind_ok, R.stmt_ok, seq_nx, ifS_run, truT_run]
  have hS1 : ({ sl := (redSt d n p s ld (.im (.int i)) y7 y8 y9).sl.set 7 (.im (.lst ((s.L.filter fun r => decide (r.getD i 0 ≠ 0)).map Wd))), mo := (redSt d n p s ld (.im (.int i)) y7 y8 y9).mo } : Ms) = redSt d n p s ld (.im (.int i)) (.im (.lst ((s.L.filter fun r => decide (r.getD i 0 ≠ 0)).map Wd))) y8 y9 := rfl
  rw [hS1]
  have hv7 : varE 7 (redSt d n p s ld (.im (.int i)) (.im (.lst ((s.L.filter fun r => decide (r.getD i 0 ≠ 0)).map Wd))) y8 y9) = .ok (.lst ((s.L.filter fun r => decide (r.getD i 0 ≠ 0)).map Wd)) (redSt d n p s ld (.im (.int i)) (.im (.lst ((s.L.filter fun r => decide (r.getD i 0 ≠ 0)).map Wd))) y8 y9) := varE_im rfl
  rw [hv7, R.bind_ok]
  unfold redStep
  cases hf : s.L.filter fun r => decide (r.getD i 0 ≠ 0) with
  | nil =>
    refine ⟨ld, .im (.lst []), y8, y9, ?_, hd⟩
    simp only [List.map_nil, truO, List.isEmpty_nil, Bool.not_true]
    rw [R.of_some, R.stmt_ok]
    rfl
  | cons r rs =>
    have hr : r ∈ s.L := (List.mem_filter.mp (by rw [hf]; exact List.mem_cons_self)).1
    have hr0 : r.getD i 0 ≠ 0 := of_decide_eq_true (List.mem_filter.mp (show r ∈ s.L.filter (fun r => decide (r.getD i 0 ≠ 0)) by rw [hf]; exact List.mem_cons_self)).2
    obtain ⟨hr1, hr2⟩ := hL r hr
    have hm : r.getD i 0 % p ≠ 0 := by
      have hx : r.getD i 0 ∈ r := by
        rw [List.getD_eq_getElem?_getD, List.getElem?_eq_getElem (by rw [hr2]; exact hi)]
        exact List.getElem_mem _
      obtain ⟨a, b⟩ := (okW_iff.mp hr1).2 _ hx
      rw [Int.emod_eq_of_lt a b]
      exact hr0
    have hh := okR_head (at_ := i) hp' ⟨hr1, hr2⟩
    have e1 := Finverse_run hp hm
    have e2 := FscW_run (a := invP p (r.getD i 0)) hp' hr1
    have e3 := wd_ix (r := r) (k := i) (by rw [hr2]; exact hi)
    have tr : truO (.lst ((r :: rs).map Wd)) = some true := rfl
    rw [tr, R.of_some, R.stmt_ok, if_pos rfl]
    -- head
    have e4 : (funE 3 (aCons (op2 (varE 7) (cE (.int 0)) ixO) (aCons (funE 2 (aCons (op2 (op2 (varE 7) (cE (.int 0)) ixO) (varE 6) ixO) (aCons (varE 2) aNil)) Finverse) (aCons (varE 2) aNil))) FscW) (redSt d n p s ld (.im (.int i)) (.im (.lst ((r :: rs).map Wd))) y8 y9) = .ok (Wd (redHead p i r)) (redSt d n p s ld (.im (.int i)) (.im (.lst ((r :: rs).map Wd))) y8 y9) := by
      unfold redHead
      have a0 : atI (Wd r :: rs.map Wd) 0 = some (Wd r) := atI_ofNat (Wd r :: rs.map Wd) 0
      generalize r.getD i 0 = z at *
      simp [redSt, a0, e3, e1, e2]
    rw [seqS_run, asgS_run', e4, R.stmt_ok, seq_nx]
    have hS2 : ({ sl := (redSt d n p s ld (.im (.int i)) (.im (.lst ((r :: rs).map Wd))) y8 y9).sl.set 8 (.im (Wd (redHead p i r))), mo := (redSt d n p s ld (.im (.int i)) (.im (.lst ((r :: rs).map Wd))) y8 y9).mo } : Ms) = { sl := [.im d, .im (.int n), .im (.int p), .im (.lst (s.T.map Wd)), .mu 0, .im ld, .im (.int i), .im (.lst ((r :: rs).map Wd)), .im (Wd (redHead p i r)), y9], mo := [.ob (.ls (s.P.map fun (c : Nat) => Dt.int (c : Int)))] } := rfl
    rw [hS2]
    -- table
    have e5 := lcF_clr (d := d) (td := .lst (s.T.map Wd)) (ld := ld) (x7 := .lst ((r :: rs).map Wd)) (mo := [.ob (.ls (s.P.map fun (c : Nat) => Dt.int (c : Int)))]) (x9 := y9) hp' hT hh hi (by omega) 3 rfl (by simp)
    rw [seqS_run, asgS_run', frz_run', opN_run, frz_run', e5, R.bind_ok, R.bind_ok, frz_run', lstE_run, aCons_run, varE_im (i := 8) rfl, R.bind_ok, aNil_run, R.bind_ok, R.bind_ok]
    have hl1 : ([Wd (redHead p i r)] : List Dt).length ≤ 100000 := by simp
    rw [if_pos hl1, R.bind_ok, R.bind_ok]
    have hcat : catL (.lst ((s.T.map (clr p (redHead p i r) i)).map Wd)) (.lst [Wd (redHead p i r)]) = some ((s.T.map (clr p (redHead p i r) i) ++ [redHead p i r]).map Wd) := by
      have hl2 : ((s.T.map (clr p (redHead p i r) i)).map Wd).length + ([Wd (redHead p i r)] : List Dt).length ≤ 100000 := by simp; omega
      show (if _ then _ else _) = _
      rw [if_pos hl2]
      simp
    rw [hcat, R.of_some, R.bind_ok, R.stmt_ok, seq_nx]
    -- left
    have e6 := lcF_clr (d := d) (td := .lst ((s.T.map (clr p (redHead p i r) i) ++ [redHead p i r]).map Wd)) (ld := ld) (x7 := .lst ((r :: rs).map Wd)) (mo := [.ob (.ls (s.P.map fun (c : Nat) => Dt.int (c : Int)))]) (x9 := y9) hp' hL hh hi (by omega) 5 rfl (by simp [hd])
    have hS3 : ({ sl := ([.im d, .im (.int n), .im (.int p), .im (.lst (s.T.map Wd)), .mu 0, .im ld, .im (.int i), .im (.lst ((r :: rs).map Wd)), .im (Wd (redHead p i r)), y9] : List Sv).set 3 (.im (.lst ((s.T.map (clr p (redHead p i r) i) ++ [redHead p i r]).map Wd))), mo := [.ob (.ls (s.P.map fun (c : Nat) => Dt.int (c : Int)))] } : Ms) =
      { sl := [.im d, .im (.int n), .im (.int p), .im (.lst ((s.T.map (clr p (redHead p i r) i) ++ [redHead p i r]).map Wd)), .mu 0, .im ld, .im (.int i), .im (.lst ((r :: rs).map Wd)), .im (Wd (redHead p i r)), y9], mo := [.ob (.ls (s.P.map fun (c : Nat) => Dt.int (c : Int)))] } := rfl
    rw [hS3, seqS_run, asgS_run', frz_run', e6, R.bind_ok, R.stmt_ok, seq_nx]
    -- pivots
    refine ⟨.lst ((s.L.map (clr p (redHead p i r) i)).map Wd), .im (.lst ((r :: rs).map Wd)), .im (Wd (redHead p i r)), y9, ?_, rfl⟩
    rw [appS_run]
    rw [muAt_run (k := 0) (xs := s.P.map fun (c : Nat) => Dt.int (c : Int)) rfl rfl]
    dsimp only
    rw [varE_im (i := 6) (d := .int i) rfl, R.stmt_ok, muAt_run (k := 0) (xs := s.P.map fun (c : Nat) => Dt.int (c : Int)) rfl rfl]
    dsimp only
    rw [if_pos (by simp; omega)]
    simp [redSt]
theorem run_reduced (ds : List Dt) (h : Freduced ds ≠ .no) : runD 10 m_reduced ds = Freduced ds := by
  unfold Freduced at h
  split at h
  · rename_i d w p
    split at h
    · rename_i rows hrows
      split at h
      · rename_i hc
        simp only [Bool.and_eq_true, decide_eq_true_eq] at hc
        obtain ⟨⟨⟨hp, hw⟩, hl⟩, hk⟩ := hc
        obtain ⟨n, rfl⟩ : ∃ k : Nat, w = (k : Int) := ⟨w.toNat, by omega⟩
        rw [Int.toNat_natCast] at hk
        have hok := okRb_iff.mp hk
        obtain ⟨xs, hx1, hx2⟩ := Option.bind_eq_some_iff.mp hrows
        have hx3 := wordsOf_eq hx2
        subst hx3
        have hn : n ≤ 1000 := by omega
        rw [Freduced_run hx1 hp hn hl hok]
        have hp' := isP_okP hp
        have hlen := fun k => redN_lens (p := p) (rows := rows) k
        have hoks := fun k => redN_ok (n := n) hp' hok k
        have hit : itR1 (aCons (varE 1) aNil) (redSt d n p ⟨[], [], rows⟩ d .no .no .no .no) = .ok ((List.range n).map fun (k : Nat) => Dt.int (k : Int)) (redSt d n p ⟨[], [], rows⟩ d .no .no .no .no) := by
          have := itR1_run (fs := aCons (varE 1) aNil) (S := redSt d n p ⟨[], [], rows⟩ d .no .no .no .no) (S1 := redSt d n p ⟨[], [], rows⟩ d .no .no .no .no) (n := n) (by simp [redSt]) (by omega)
          simpa using this
        obtain ⟨S', hS', ld', x6, x7, x8, x9, hI, hseq⟩ := forL_inv (k := (Tk.nm 6).k) (body := redBody) ((List.range n).map fun (k : Nat) => Dt.int (k : Int))
          (fun i S => ∃ ld x6 x7 x8 x9, S = redSt d n p (redN p rows i) ld x6 x7 x8 x9 ∧ seqOf ld = some ((redN p rows i).L.map Wd)) (redSt d n p ⟨[], [], rows⟩ d .no .no .no .no) ⟨d, .no, .no, .no, .no, rfl, hx1⟩
          (fun i e S hi hI => by
            obtain ⟨ld, x6, x7, x8, x9, rfl, hseq⟩ := hI
            rw [List.getElem?_map] at hi
            have hin : i < n := by
              rcases Nat.lt_or_ge i n with h | h
              · exact h
              · rw [List.getElem?_eq_none (by simpa using h)] at hi
                cases hi
            rw [List.getElem?_range hin] at hi
            cases hi
            have l1 := hlen i
            obtain ⟨ld', y7, y8, y9, r1, r2⟩ := redBody_run (d := d) (s := redN p rows i) (y7 := x7) (y8 := x8) (y9 := x9) hp hn hin (hoks i).1 (hoks i).2 (by omega) (by omega) (by omega) hseq
            exact ⟨_, _, kNm _ _ _, Or.inl r1, ld', .im (.int i), y7, y8, y9, rfl, r2⟩)
        rw [List.length_map, List.length_range] at hI hseq
        have l1 := hlen n
        have hS0 : st0 10 [d, .int (n : Int), .int p] = { sl := [.im d, .im (.int n), .im (.int p), .no, .no, .no, .no, .no, .no, .no], mo := [] } := rfl
        unfold runD
        rw [hS0]
        have hm : m_reduced = seqS (asgS 3 (frz (lstE aNil))) (seqS (asgN 4 (lstE aNil)) (seqS (moveS 5 0) (seqS (forS (itR1 (aCons (varE 1) aNil)) (Tk.nm 6).k redBody) (retS (tupE (aCons (calE (aCons (varE 3) aNil) tupO) (aCons (calE (aCons (varE 4) aNil) tupO) aNil))))))) := rfl
        have hpre : ∀ k, seqS (asgS 3 (frz (lstE aNil))) (seqS (asgN 4 (lstE aNil)) (seqS (moveS 5 0) k)) { sl := [.im d, .im (.int n), .im (.int p), .no, .no, .no, .no, .no, .no, .no], mo := [] } = k (redSt d n p ⟨[], [], rows⟩ d .no .no .no .no) := fun k => by
          simp [redSt]
          rfl
        rw [hm, hpre, seqS_run, forS_run, hit, R.stmt_ok, hS', seq_nx, hI]
        simp [redSt, redD]
        rfl
      · exact absurd rfl h
    · exact absurd rfl h
  · exact absurd rfl h
end Lq

namespace Lq
open PySem PySem.Spec PyProof.Rows L2
/-- a for loop that goes along with a fold -/
theorem forL_fold {α σ : Type} {k : Dt → Ms → Option Ms} {body : Ms → O} (enc : α → Dt) (I : Nat → σ → Ms → Prop) (g : σ → α → σ) : ∀ (xs : List α) (i : Nat) (q : σ) (S : Ms), I i q S →
    (∀ j q x S, x ∈ xs → j < i + xs.length → I j q S → ∃ S1 S2, k (enc x) S = some S1 ∧ (body S1 = .nx S2 ∨ body S1 = .ct S2) ∧ I (j + 1) (g q x) S2) → ∃ S', forL k body (xs.map enc) S = .nx S' ∧ I (i + xs.length) (xs.foldl g q) S'
  | [], i, q, S, h, _ => ⟨S, rfl, h⟩
  | x :: xs, i, q, S, h, hs => by
    have hl : (x :: xs).length = xs.length + 1 := rfl
    obtain ⟨S1, S2, h1, h2, h3⟩ := hs i q x S List.mem_cons_self (by omega) h
    obtain ⟨S', e1, e2⟩ := forL_fold enc I g xs (i + 1) (g q x) S2 h3 (fun j q y S hy hj hI => hs j q y S (List.mem_cons_of_mem _ hy) (by omega) hI)
    refine ⟨S', ?_, ?_⟩
    · rw [List.map_cons]
      unfold forL
      rw [h1]
      dsimp only
      rcases h2 with h2 | h2 <;> rw [h2] <;> exact e1
    · rw [hl, Nat.add_comm xs.length 1, ← Nat.add_assoc]
      exact e2
/-! ### all sums of multiples -/
def insW (ws : List (List Int)) (w : List Int) : List (List Int) := if w ∈ ws then ws else ws ++ [w]
def dcv (ws : List (List Int)) : List (List Int × Dt) := ws.map fun w => (w, .bl true)
theorem putD_dcv (ws : List (List Int)) (w : List Int) : putD (dcv ws) w (.bl true) = dcv (insW ws w) := by
  unfold putD insW
  by_cases h : w ∈ ws
  · have e : ((dcv ws).any fun kv => decide (kv.1 = w)) = true := by
      rw [List.any_eq_true]
      exact ⟨(w, .bl true), List.mem_map.mpr ⟨w, h, rfl⟩, decide_eq_true rfl⟩
    rw [if_pos e, if_pos h]
    unfold dcv
    rw [List.map_map]
    refine List.map_congr_left fun x _ => ?_
    by_cases q : x = w <;> simp [q]
  · have e : ¬ ((dcv ws).any fun kv => decide (kv.1 = w)) = true := by
      rw [List.any_eq_true]
      rintro ⟨q, hq, hd⟩
      obtain ⟨x, hx, rfl⟩ := List.mem_map.mp hq
      exact h (of_decide_eq_true hd ▸ hx)
    rw [if_neg e, if_neg h]
    simp [dcv]
theorem dcv_keys (ws : List (List Int)) : ((dcv ws).map fun q => Wd q.1) = ws.map Wd := by simp [dcv]
theorem dcv_len (ws : List (List Int)) : (dcv ws).length = ws.length := by simp [dcv]
theorem insW_len (ws : List (List Int)) (w : List Int) : (insW ws w).length ≤ ws.length + 1 := by
  unfold insW
  split
  · omega
  · simp
theorem insW_mem {ws : List (List Int)} {w x : List Int} : x ∈ insW ws w ↔ x ∈ ws ∨ x = w := by
  unfold insW
  split
  · rename_i h
    exact ⟨.inl, fun q => q.elim id fun e => e ▸ h⟩
  · simp
theorem insW_nd {ws : List (List Int)} {w : List Int} (h : ws.Nodup) : (insW ws w).Nodup := by
  unfold insW
  split
  · exact h
  · rename_i hw
    rw [List.nodup_append]
    refine ⟨h, List.nodup_cons.mpr ⟨List.not_mem_nil, List.nodup_nil⟩, fun a ha b hb => ?_⟩
    rw [List.mem_singleton] at hb
    rintro rfl
    exact hw (hb ▸ ha)
def inn (p : Int) (r w : List Int) (acc : List (List Int)) : List (List Int) := (List.range p.toNat).foldl (fun acc (a : Nat) => insW acc (addW p w (scW p (a : Int) r))) acc
def widen (p : Int) (r : List Int) (ws : List (List Int)) : List (List Int) := ws.foldl (fun acc w => inn p r w acc) []
def spanL (p : Int) (n : Nat) (rows : List (List Int)) : List (List Int) := rows.foldl (fun ws r => widen p r ws) [List.replicate n 0]
theorem foldl_insW_len {α : Type} (f : α → List Int) : ∀ (xs : List α) (acc : List (List Int)), (xs.foldl (fun acc a => insW acc (f a)) acc).length ≤ acc.length + xs.length
  | [], acc => Nat.le_refl _
  | x :: xs, acc => by
    have h1 := foldl_insW_len f xs (insW acc (f x))
    have h2 := insW_len acc (f x)
    have h3 : (x :: xs).length = xs.length + 1 := rfl
    rw [List.foldl_cons]
    omega
theorem foldl_insW_mem {α : Type} (f : α → List Int) {y : List Int} : ∀ (xs : List α) (acc : List (List Int)), y ∈ xs.foldl (fun acc a => insW acc (f a)) acc ↔ y ∈ acc ∨ ∃ a ∈ xs, y = f a
  | [], acc => by simp
  | x :: xs, acc => by
    rw [List.foldl_cons, foldl_insW_mem f xs, insW_mem]
    simp only [List.mem_cons, exists_eq_or_imp, or_assoc]
theorem foldl_insW_nd {α : Type} (f : α → List Int) : ∀ (xs : List α) (acc : List (List Int)), acc.Nodup → (xs.foldl (fun acc a => insW acc (f a)) acc).Nodup
  | [], acc, h => h
  | x :: xs, acc, h => by
    rw [List.foldl_cons]
    exact foldl_insW_nd f xs _ (insW_nd h)
theorem inn_len (p : Int) (r w : List Int) (acc : List (List Int)) : (inn p r w acc).length ≤ acc.length + p.toNat := by
  have := foldl_insW_len (fun (a : Nat) => addW p w (scW p (a : Int) r)) (List.range p.toNat) acc
  rwa [List.length_range] at this
theorem inn_mem {p : Int} {r w y : List Int} {acc : List (List Int)} : y ∈ inn p r w acc ↔ y ∈ acc ∨ ∃ a : Nat, a < p.toNat ∧ y = addW p w (scW p (a : Int) r) := by
  unfold inn
  rw [foldl_insW_mem (fun (a : Nat) => addW p w (scW p (a : Int) r))]
  simp [List.mem_range]
theorem widen_aux_len (p : Int) (r : List Int) : ∀ (ws acc : List (List Int)), (ws.foldl (fun acc w => inn p r w acc) acc).length ≤ acc.length + ws.length * p.toNat
  | [], acc => by simp
  | w :: ws, acc => by
    have h1 := widen_aux_len p r ws (inn p r w acc)
    have h2 := inn_len p r w acc
    have h3 : (w :: ws).length * p.toNat = ws.length * p.toNat + p.toNat := by rw [List.length_cons, Nat.succ_mul]
    rw [List.foldl_cons, h3]
    omega
theorem widen_aux_mem {p : Int} {r y : List Int} : ∀ (ws acc : List (List Int)), y ∈ ws.foldl (fun acc w => inn p r w acc) acc ↔ y ∈ acc ∨ ∃ w ∈ ws, ∃ a : Nat, a < p.toNat ∧ y = addW p w (scW p (a : Int) r)
  | [], acc => by simp
  | w :: ws, acc => by
    rw [List.foldl_cons, widen_aux_mem ws, inn_mem]
    simp only [List.mem_cons, exists_eq_or_imp, or_assoc]
theorem widen_mem {p : Int} {r y : List Int} {ws : List (List Int)} : y ∈ widen p r ws ↔ ∃ w ∈ ws, ∃ a : Nat, a < p.toNat ∧ y = addW p w (scW p (a : Int) r) := by
  unfold widen
  rw [widen_aux_mem]
  simp
theorem widen_aux_nd {p : Int} {r : List Int} : ∀ (ws acc : List (List Int)), acc.Nodup → (ws.foldl (fun acc w => inn p r w acc) acc).Nodup
  | [], acc, h => h
  | w :: ws, acc, h => by
    rw [List.foldl_cons]
    exact widen_aux_nd ws _ (foldl_insW_nd _ _ _ h)
theorem widen_nd {p : Int} {r : List Int} {ws : List (List Int)} : (widen p r ws).Nodup := widen_aux_nd ws [] List.nodup_nil
theorem widen_len (p : Int) (r : List Int) (ws : List (List Int)) : (widen p r ws).length ≤ ws.length * p.toNat := by
  have := widen_aux_len p r ws []
  simpa [widen] using this
theorem okR_widen {p : Int} {n : Nat} {r : List Int} {ws : List (List Int)} (hp : okP p = true) (hr : okW p r = true ∧ r.length = n) (h : okR p n ws) : okR p n (widen p r ws) := fun y hy => by
  obtain ⟨w, hw, a, ha, rfl⟩ := widen_mem.mp hy
  obtain ⟨h1, h2⟩ := h w hw
  exact ⟨okW_addW hp h1, by rw [addW_len _ _ _ (by rw [scW_len, h2, hr.2]), h2]⟩

def m__law_span : Ms → O := (seqS (asgM 3 (dct1 (calE (aCons (frz (lcE (itR1 (aCons (varE 1) aNil)) (Tk.nm 8).k yesT (cE (.int 0)) [8])) aNil) tupO) (cE (.bl true))))
  (seqS (forS (itS (varE 0)) (Tk.nm 4).k (seqS (asgM 5 dct0)
  (seqS (forS (itS (frz (keysL 3))) (Tk.nm 6).k (forS (itR1 (aCons (varE 2) aNil)) (Tk.nm 7).k (setD 5 (cE (.bl true)) (funE 3 (aCons (varE 6) (aCons (funE 3 (aCons (varE 4) (aCons (varE 7) (aCons (varE 2) aNil))) FscW) (aCons (varE 2) aNil))) FaddW))))
  (moveS 3 5))))
  (retS (frz (calN (aCons (frz (keysL 3)) aNil) sortO)))))
/-- the state in the loops -/
def spSt (d : Dt) (n : Nat) (p : Int) (a : Nat) (x4 x5 x6 x7 : Sv) (mo : List Mo) : Ms := { sl := [.im d, .im (.int n), .im (.int p), .mu a, x4, x5, x6, x7, .no], mo := mo }
def spIn : Ms → O := setD 5 (cE (.bl true)) (funE 3 (aCons (varE 6) (aCons (funE 3 (aCons (varE 4) (aCons (varE 7) (aCons (varE 2) aNil))) FscW) (aCons (varE 2) aNil))) FaddW)
theorem setD_run {i k : Nat} {f g : Ms → R Dt} {S : Ms} {kvs : List (List Int × Dt)} {e : Dt} {ns : List Int} (h1 : f S = .ok e S) (h2 : dcAt S i = some (k, kvs)) (h3 : g S = .ok (Wd ns) S) (hl : kvs.length < 100000) : setD i f g S = .nx { S with mo := S.mo.set k (.ob (.dc (putD kvs ns e))) } := by
  unfold setD
  rw [h1, R.stmt_ok, h2]
  dsimp only
  rw [h3, R.stmt_ok, h2, wordOf_Wd]
  dsimp only
  rw [if_pos hl]
theorem spIn_run {d : Dt} {n : Nat} {p : Int} {a at_ : Nat} {r w : List Int} {ms : List Mo} {acc : List (List Int)} (hp : okP p = true) (hr : okW p r = true ∧ r.length = n) (hw : okW p w = true ∧ w.length = n) (hl : acc.length < 100000) :
    spIn (spSt d n p a (.im (Wd r)) (.mu ms.length) (.im (Wd w)) (.im (.int (at_ : Int))) (ms ++ [.ob (.dc (dcv acc))])) = .nx (spSt d n p a (.im (Wd r)) (.mu ms.length) (.im (Wd w)) (.im (.int (at_ : Int))) (ms ++ [.ob (.dc (dcv (insW acc (addW p w (scW p (at_ : Int) r)))))])) := by
  have e1 := FscW_run (a := (at_ : Int)) hp hr.1
  have e2 := FaddW_run (w := scW p (at_ : Int) r) hp hw.1 (okW_scW hp hr.1) (by rw [scW_len, hw.2, hr.2])
  unfold spIn
  refine (setD_run (k := ms.length) (kvs := dcv acc) (e := .bl true) (ns := addW p w (scW p (at_ : Int) r)) rfl (dcAt_run rfl (by simp [spSt])) (by simp [spSt, e1, e2]) (by rw [dcv_len]; exact hl)).trans ?_
  rw [putD_dcv]
  simp [spSt]
def spMid : Ms → O := forS (itR1 (aCons (varE 2) aNil)) (Tk.nm 7).k spIn
theorem spMid_run {d : Dt} {n : Nat} {p : Int} {a : Nat} {r w : List Int} {ms : List Mo} {acc : List (List Int)} {x7 : Sv} (hp : okP p = true) (hr : okW p r = true ∧ r.length = n) (hw : okW p w = true ∧ w.length = n) (hl : acc.length + p.toNat ≤ 100000) :
    ∃ y7, spMid (spSt d n p a (.im (Wd r)) (.mu ms.length) (.im (Wd w)) x7 (ms ++ [.ob (.dc (dcv acc))])) = .nx (spSt d n p a (.im (Wd r)) (.mu ms.length) (.im (Wd w)) y7 (ms ++ [.ob (.dc (dcv (inn p r w acc)))])) := by
  obtain ⟨hp1, hp2⟩ := okP_iff.mp hp
  obtain ⟨k, rfl⟩ : ∃ k : Nat, p = (k : Int) := ⟨p.toNat, by omega⟩
  have hit : itR1 (aCons (varE 2) aNil) (spSt d n k a (.im (Wd r)) (.mu ms.length) (.im (Wd w)) x7 (ms ++ [.ob (.dc (dcv acc))])) = .ok ((List.range k).map fun (i : Nat) => Dt.int (i : Int)) (spSt d n k a (.im (Wd r)) (.mu ms.length) (.im (Wd w)) x7 (ms ++ [.ob (.dc (dcv acc))])) := itR1_run (by simp [spSt]) (by omega)
  obtain ⟨S', e1, e2, y7, e3⟩ := forL_fold (k := (Tk.nm 7).k) (body := spIn) (fun (i : Nat) => Dt.int (i : Int)) (fun j (q : List (List Int)) S => q.length ≤ acc.length + j ∧ ∃ y7, S = spSt d n k a (.im (Wd r)) (.mu ms.length) (.im (Wd w)) y7 (ms ++ [.ob (.dc (dcv q))]))
    (fun q (x : Nat) => insW q (addW k w (scW k (x : Int) r))) (List.range k) 0 acc _ ⟨Nat.le_refl _, x7, rfl⟩ (fun j q x S hx hj hI => by
      obtain ⟨hq, y7, rfl⟩ := hI
      rw [List.length_range] at hj
      have := insW_len q (addW k w (scW k (x : Int) r))
      exact ⟨_, _, kNm _ _ _, .inl (spIn_run (at_ := x) hp hr hw (by omega)), by omega, _, rfl⟩)
  refine ⟨y7, ?_⟩
  unfold spMid
  rw [forS_run, hit, R.stmt_ok, e1, e3]
  rfl
def spBody : Ms → O := (seqS (asgM 5 dct0) (seqS (forS (itS (frz (keysL 3))) (Tk.nm 6).k spMid) (moveS 3 5)))
theorem spBody_run {d : Dt} {n : Nat} {p : Int} {a : Nat} {r : List Int} {ms : List Mo} {ws : List (List Int)} {x5 x6 x7 : Sv} (hp : okP p = true) (hr : okW p r = true ∧ r.length = n) (hws : okR p n ws) (ha : ms[a]? = some (.ob (.dc (dcv ws)))) (hl : ws.length * p.toNat ≤ 100000) :
    ∃ b ms' y5 y6 y7, spBody (spSt d n p a (.im (Wd r)) x5 x6 x7 ms) = .nx (spSt d n p b (.im (Wd r)) y5 y6 y7 ms') ∧ ms'[b]? = some (.ob (.dc (dcv (widen p r ws)))) := by
  have hd : dcAt (spSt d n p a (.im (Wd r)) (.mu ms.length) x6 x7 (ms ++ [.ob (.dc (dcv []))])) 3 = some (a, dcv ws) := dcAt_run rfl (by
    show (ms ++ [.ob (.dc (dcv []))])[a]? = _
    rw [List.getElem?_append_left ((List.getElem?_eq_some_iff.mp ha).1), ha])
  have hit : itS (frz (keysL 3)) (spSt d n p a (.im (Wd r)) (.mu ms.length) x6 x7 (ms ++ [.ob (.dc (dcv []))])) = .ok (ws.map Wd) (spSt d n p a (.im (Wd r)) (.mu ms.length) x6 x7 (ms ++ [.ob (.dc (dcv []))])) := by
    rw [itS_run, frz_run']
    unfold keysL
    rw [hd]
    dsimp only
    rw [R.bind_ok, R.bind_ok, seqOf_lst, R.of_some, dcv_keys]
  obtain ⟨S', e1, e2, y6, y7, e3⟩ := forL_fold (k := (Tk.nm 6).k) (body := spMid) Wd (fun j (q : List (List Int)) S => q.length ≤ j * p.toNat ∧ ∃ y6 y7, S = spSt d n p a (.im (Wd r)) (.mu ms.length) y6 y7 (ms ++ [.ob (.dc (dcv q))]))
    (fun q w => inn p r w q) ws 0 [] _ ⟨Nat.zero_le _, x6, x7, rfl⟩ (fun j q w S hw hj hI => by
      obtain ⟨hq, y6, y7, rfl⟩ := hI
      have h1 := inn_len p r w q
      have h2 : (j + 1) * p.toNat ≤ ws.length * p.toNat := Nat.mul_le_mul_right _ (by omega)
      rw [Nat.succ_mul] at h2
      obtain ⟨z7, h3⟩ := spMid_run (d := d) (a := a) (ms := ms) (acc := q) (x7 := y7) hp hr (hws w hw) (by omega)
      exact ⟨_, _, kNm _ _ _, .inl h3, by rw [Nat.succ_mul]; omega, _, _, rfl⟩)
  refine ⟨ms.length, ms ++ [.ob (.dc (dcv (widen p r ws)))], .mu ms.length, y6, y7, ?_, ?_⟩
  · unfold spBody
    have h0 : asgM 5 dct0 (spSt d n p a (.im (Wd r)) x5 x6 x7 ms) = .nx (spSt d n p a (.im (Wd r)) (.mu ms.length) x6 x7 (ms ++ [.ob (.dc (dcv []))])) := rfl
    rw [seqS_run, h0, seq_nx, seqS_run, forS_run, hit, R.stmt_ok, e1, seq_nx, e3]
    exact moveS_mu rfl
  · simp
theorem spanL_ok {p : Int} {n : Nat} {rows : List (List Int)} (hp : okP p = true) (hn : n ≤ 1000) (h : okR p n rows) : okR p n (spanL p n rows) := by
  have h0 : okR p n [List.replicate n 0] := fun r hr => by
    rw [List.mem_singleton] at hr
    subst hr
    refine ⟨okW_iff.mpr ⟨by simpa using hn, fun x hx => ?_⟩, by simp⟩
    have := (List.mem_replicate.mp hx).2
    have := (okP_iff.mp hp).1
    omega
  have : ∀ (rows ws : List (List Int)), okR p n rows → okR p n ws → okR p n (rows.foldl (fun ws r => widen p r ws) ws) := by
    intro rows
    induction rows with
    | nil => exact fun ws _ h => h
    | cons r rows ih => exact fun ws h1 h2 => ih _ (fun x hx => h1 x (List.mem_cons_of_mem _ hx)) (okR_widen hp (h1 r List.mem_cons_self) h2)
  exact this rows _ h h0
theorem spanL_nd {p : Int} {n : Nat} {rows : List (List Int)} : (spanL p n rows).Nodup := by
  have : ∀ (rows ws : List (List Int)), ws.Nodup → (rows.foldl (fun ws r => widen p r ws) ws).Nodup := by
    intro rows
    induction rows with
    | nil => exact fun ws h => h
    | cons r rows ih => exact fun ws h => ih _ widen_nd
  exact this rows _ (by simp)
def Fspan : List Dt → Fo
  | [d, .int w, .int p] => match (seqOf d).bind wordsOf with
    | some rows => if (okP p && decide (0 ≤ w ∧ w ≤ 1000) && decide (p.toNat ^ rows.length ≤ 100000) && okRb p w.toNat rows) = true then .ok (.lst ((sortW (spanL p w.toNat rows)).map Wd)) else .no
    | none => .no
  | _ => .no
theorem Fspan_run {p : Int} {n : Nat} {rows : List (List Int)} {d : Dt} (hd : seqOf d = some (rows.map Wd)) (hp : okP p = true) (hn : n ≤ 1000) (hl : p.toNat ^ rows.length ≤ 100000) (h : okR p n rows) : Fspan [d, .int n, .int p] = .ok (.lst ((sortW (spanL p n rows)).map Wd)) := by
  unfold Fspan
  dsimp only
  rw [hd]
  simp only [Option.bind, wordsOf_map, Int.toNat_natCast]
  rw [if_pos]
  simp [hp, okRb_iff.mpr h, hl]
  omega
theorem run__law_span (ds : List Dt) (h : Fspan ds ≠ .no) : runD 9 m__law_span ds = Fspan ds := by
  unfold Fspan at h
  split at h
  · rename_i d w p
    split at h
    · rename_i rows hrows
      split at h
      · rename_i hc
        simp only [Bool.and_eq_true, decide_eq_true_eq] at hc
        obtain ⟨⟨⟨hp, hw⟩, hl⟩, hk⟩ := hc
        obtain ⟨n, rfl⟩ : ∃ k : Nat, w = (k : Int) := ⟨w.toNat, by omega⟩
        rw [Int.toNat_natCast] at hk
        have hok := okRb_iff.mp hk
        obtain ⟨xs, hx1, hx2⟩ := Option.bind_eq_some_iff.mp hrows
        have hx3 := wordsOf_eq hx2
        subst hx3
        have hn : n ≤ 1000 := by omega
        rw [Fspan_run hx1 hp hn hl hok]
        obtain ⟨hp1, hp2⟩ := okP_iff.mp hp
        have hp3 : 1 ≤ p.toNat := by omega
        have hst : st0 9 [d, .int (n : Int), .int p] = { sl := [.im d, .im (.int n), .im (.int p), .no, .no, .no, .no, .no, .no], mo := [] } := rfl
        have hz : lcE (itR1 (aCons (varE 1) aNil)) (Tk.nm 8).k yesT (cE (.int 0)) [8] { sl := [.im d, .im (.int n), .im (.int p), .no, .no, .no, .no, .no, .no], mo := [] } = .ok ((List.range n).map fun _ => Dt.int 0) { sl := [.im d, .im (.int n), .im (.int p), .no, .no, .no, .no, .no, .no], mo := [] } := by
          refine lcE_map (fun (i : Nat) => Dt.int (i : Int)) _ (List.range n) (itR1_run (by simp) (by omega)) (fun x hx => ⟨_, kNm _ _ _, _, rfl, rfl⟩) (fun d T T' => Tk.mo) (by simp; omega)
        have hz2 : ((List.range n).map fun _ => Dt.int 0) = (List.replicate n (0 : Int)).map Dt.int := by
          rw [List.map_const', List.length_range, List.map_replicate]
        have hpre : asgM 3 (dct1 (calE (aCons (frz (lcE (itR1 (aCons (varE 1) aNil)) (Tk.nm 8).k yesT (cE (.int 0)) [8])) aNil) tupO) (cE (.bl true))) { sl := [.im d, .im (.int n), .im (.int p), .no, .no, .no, .no, .no, .no], mo := [] } = .nx (spSt d n p 0 .no .no .no .no [.ob (.dc (dcv [List.replicate n 0]))]) := by
          rw [asgM_run']
          unfold dct1
          rw [calE_run, aCons_run, frz_run', hz, R.bind_ok, R.bind_ok, aNil_run, R.bind_ok, R.bind_ok, tupO_lst, R.of_some, R.bind_ok, cE_run, R.bind_ok, hz2]
          have : wordOf (.tup ((List.replicate n (0 : Int)).map Dt.int)) = some (List.replicate n 0) := wordOf_Wd _
          rw [this]
          rfl
        have hit : itS (varE 0) (spSt d n p 0 .no .no .no .no [.ob (.dc (dcv [List.replicate n 0]))]) = .ok (rows.map Wd) (spSt d n p 0 .no .no .no .no [.ob (.dc (dcv [List.replicate n 0]))]) := by
          rw [itS_run, varE_im rfl, R.bind_ok, hx1, R.of_some]
        obtain ⟨S', e1, e2, e3, b, ms, x4, x5, x6, x7, e4, e5⟩ := forL_fold (k := (Tk.nm 4).k) (body := spBody) Wd (fun j (q : List (List Int)) S => q.length ≤ p.toNat ^ j ∧ okR p n q ∧ ∃ b ms x4 x5 x6 x7, S = spSt d n p b x4 x5 x6 x7 ms ∧ ms[b]? = some (.ob (.dc (dcv q))))
          (fun q r => widen p r q) rows 0 [List.replicate n 0] (spSt d n p 0 .no .no .no .no [.ob (.dc (dcv [List.replicate n 0]))]) ⟨by simp, by simpa [spanL] using spanL_ok (rows := []) hp hn (fun r hr => absurd hr List.not_mem_nil), 0, _, _, _, _, _, rfl, rfl⟩ (fun j q r S hr hj hI => by
            obtain ⟨hq, hq2, b, ms, x4, x5, x6, x7, rfl, hb⟩ := hI
            have h1 := widen_len p r q
            have h2 : q.length * p.toNat ≤ p.toNat ^ (j + 1) := by rw [Nat.pow_succ]; exact Nat.mul_le_mul_right _ hq
            have h3 : p.toNat ^ (j + 1) ≤ p.toNat ^ rows.length := Nat.pow_le_pow_right hp3 (by omega)
            obtain ⟨b', ms', y5, y6, y7, r1, r2⟩ := spBody_run (d := d) (x5 := x5) (x6 := x6) (x7 := x7) hp (hok r hr) hq2 hb (by omega)
            exact ⟨_, _, kNm _ _ _, .inl r1, by omega, okR_widen hp (hok r hr) hq2, b', ms', _, _, _, _, rfl, r2⟩)
        have e6 : rows.foldl (fun q r => widen p r q) [List.replicate n 0] = spanL p n rows := rfl
        rw [e6] at e2 e3 e5
        have hm : m__law_span = seqS (asgM 3 (dct1 (calE (aCons (frz (lcE (itR1 (aCons (varE 1) aNil)) (Tk.nm 8).k yesT (cE (.int 0)) [8])) aNil) tupO) (cE (.bl true)))) (seqS (forS (itS (varE 0)) (Tk.nm 4).k spBody) (retS (frz (calN (aCons (frz (keysL 3)) aNil) sortO)))) := rfl
        unfold runD
        rw [hst, hm, seqS_run, hpre, seq_nx, seqS_run, forS_run, hit, R.stmt_ok, e1, seq_nx, e4, retS_run, frz_run', calN_run, aCons_run, frz_run']
        have hk3 : keysL 3 (spSt d n p b x4 x5 x6 x7 ms) = .ok ((spanL p n rows).map Wd) (spSt d n p b x4 x5 x6 x7 ms) := by
          unfold keysL
          rw [dcAt_run (k := b) (xs := dcv (spanL p n rows)) rfl e5]
          dsimp only
          rw [dcv_keys]
        rw [hk3, R.bind_ok, R.bind_ok, aNil_run, R.bind_ok, R.bind_ok]
        have hso : sortO [.lst ((spanL p n rows).map Wd)] = some ((sortW (spanL p n rows)).map Wd) := by
          unfold sortO
          dsimp only
          rw [wordsOf_map]
          dsimp only [Option.bind]
          rw [if_pos]
          have hnd := spanL_nd (p := p) (n := n) (rows := rows)
          generalize spanL p n rows = ws at *
          match ws, e3, hnd with
          | [], _, _ => exact .inl (Nat.zero_le _)
          | [w], _, _ => exact .inl (Nat.le_refl _)
          | w :: v :: ws, h, hnd =>
            refine .inr fun x hx => ?_
            have h1 := (h w List.mem_cons_self).2
            have h2 := (h x hx).2
            refine ⟨h2.trans h1.symm, ?_⟩
            rcases Nat.eq_zero_or_pos n with h0 | h0
            · exfalso
              have h3 := (h v (List.mem_cons_of_mem _ List.mem_cons_self)).2
              have e7 := List.eq_nil_of_length_eq_zero (h1.trans h0)
              have e8 := List.eq_nil_of_length_eq_zero (h3.trans h0)
              subst e7 e8
              exact (List.nodup_cons.mp hnd).1 List.mem_cons_self
            · omega
        rw [hso, R.of_some, R.bind_ok, R.stmt_ok]
        rfl
      · exact absurd rfl h
    · exact absurd rfl h
  · exact absurd rfl h
end Lq

namespace Lq
open PySem PySem.Spec PyProof.Rows L2
/-! ### words modulo p, a component at a time -/
def g (v : List Int) (j : Nat) : Int := v.getD j 0
def ok1 (p : Int) (n : Nat) (v : List Int) : Prop := okW p v = true ∧ v.length = n
theorem g_lt {p : Int} {n : Nat} {v : List Int} (h : ok1 p n v) {j : Nat} (hj : j < n) : 0 ≤ g v j ∧ g v j < p := by
  have hl := h.2
  have hj' : j < v.length := by omega
  unfold g
  rw [List.getD_eq_getElem?_getD, List.getElem?_eq_getElem hj']
  exact (okW_iff.mp h.1).2 _ (List.getElem_mem _)
theorem g_mod {p : Int} {n : Nat} {v : List Int} (h : ok1 p n v) {j : Nat} (hj : j < n) : g v j % p = g v j := Int.emod_eq_of_lt (g_lt h hj).1 (g_lt h hj).2
theorem g_ext {n : Nat} {v w : List Int} (hv : v.length = n) (hw : w.length = n) (h : ∀ j < n, g v j = g w j) : v = w := by
  apply List.ext_getElem (by omega)
  intro j h1 h2
  have := h j (by omega)
  unfold g at this
  rw [List.getD_eq_getElem?_getD, List.getD_eq_getElem?_getD, List.getElem?_eq_getElem h1, List.getElem?_eq_getElem h2] at this
  exact this
theorem g_zero {n j : Nat} : g (List.replicate n 0) j = 0 := by
  unfold g
  rw [List.getD_eq_getElem?_getD, List.getElem?_replicate]
  split <;> rfl
theorem g_sc {p a : Int} {v : List Int} {n j : Nat} (hv : v.length = n) (hj : j < n) : g (scW p a v) j = g v j * a % p := by
  unfold g scW
  have hj' : j < v.length := by omega
  rw [List.getD_eq_getElem?_getD, List.getD_eq_getElem?_getD, List.getElem?_map, List.getElem?_eq_getElem hj']
  rfl
def lin (p : Int) (v w : List Int) (a : Int) : List Int := addW p v (scW p a w)
theorem lin_len {p a : Int} {v w : List Int} {n : Nat} (hv : v.length = n) (hw : w.length = n) : (lin p v w a).length = n := by
  unfold lin
  rw [addW_len _ _ _ (by rw [scW_len, hv, hw]), hv]
theorem emod_lin (p x y a : Int) : (x + y * a % p) % p = (x + y * a) % p := Int.add_emod_emod _ _ _
theorem g_lin {p a : Int} {v w : List Int} {n j : Nat} (hv : v.length = n) (hw : w.length = n) (hj : j < n) : g (lin p v w a) j = (g v j + g w j * a) % p := by
  have h2 := g_sc (p := p) (a := a) hw hj
  unfold lin
  rw [← emod_lin, ← h2]
  unfold g addW
  have h1 : j < v.length := by omega
  have h3 : j < (scW p a w).length := by rw [scW_len]; omega
  rw [List.getD_eq_getElem?_getD, List.getD_eq_getElem?_getD, List.getD_eq_getElem?_getD, List.getElem?_zipWith, List.getElem?_eq_getElem h1, List.getElem?_eq_getElem h3]
  rfl
theorem ok_lin {p a : Int} {v w : List Int} {n : Nat} (hp : okP p = true) (hv : ok1 p n v) (hw : ok1 p n w) : ok1 p n (lin p v w a) := ⟨okW_addW hp hv.1, lin_len hv.2 hw.2⟩
theorem ok_sc {p a : Int} {v : List Int} {n : Nat} (hp : okP p = true) (hv : ok1 p n v) : ok1 p n (scW p a v) := ⟨okW_scW hp hv.1, by rw [scW_len]; exact hv.2⟩
theorem ok_zero {p : Int} {n : Nat} (hp : okP p = true) (hn : n ≤ 1000) : ok1 p n (List.replicate n 0) := by
  refine ⟨okW_iff.mpr ⟨by simpa using hn, fun x hx => ?_⟩, by simp⟩
  have := (List.mem_replicate.mp hx).2
  have := (okP_iff.mp hp).1
  omega
theorem clr_lin (p : Int) (h : List Int) (at_ : Nat) (r : List Int) : clr p h at_ r = lin p r h (-(g r at_)) := rfl
theorem m1 (p u x a : Int) : (u + x % p * a) % p = (u + x * a) % p := by
  rw [Int.add_emod, Int.mul_emod, Int.emod_emod, ← Int.mul_emod, ← Int.add_emod]
/-! ### sums of multiples of rows -/
inductive Sp (p : Int) (n : Nat) (rows : List (List Int)) : List Int → Prop
  | zero : Sp p n rows (List.replicate n 0)
  | step {w r : List Int} (a : Int) : Sp p n rows w → r ∈ rows → Sp p n rows (lin p w r a)
section
variable {p : Int} {n : Nat} {rows : List (List Int)}
theorem Sp_ok (hp : okP p = true) (hn : n ≤ 1000) (h : okR p n rows) {y : List Int} (q : Sp p n rows y) : ok1 p n y := by
  induction q with
  | zero => exact ok_zero hp hn
  | step a _ hr ih => exact ok_lin hp ih (h _ hr)
theorem lin_zero {u : List Int} {a : Int} (hu : ok1 p n u) : lin p u (List.replicate n 0) a = u := by
  refine g_ext (lin_len hu.2 (by simp)) hu.2 fun j hj => ?_
  rw [g_lin hu.2 (by simp) hj, g_zero, Int.zero_mul, Int.add_zero, g_mod hu hj]
theorem lin_none {u w : List Int} (hu : ok1 p n u) (hw : w.length = n) : lin p u w 0 = u := by
  refine g_ext (lin_len hu.2 hw) hu.2 fun j hj => ?_
  rw [g_lin hu.2 hw hj, Int.mul_zero, Int.add_zero, g_mod hu hj]
theorem zero_lin {u : List Int} (hu : ok1 p n u) : lin p (List.replicate n 0) u 1 = u := by
  refine g_ext (lin_len (by simp) hu.2) hu.2 fun j hj => ?_
  rw [g_lin (by simp) hu.2 hj, g_zero, Int.mul_one, Int.zero_add, g_mod hu hj]
theorem lin_lin {u v r : List Int} {a b : Int} (hu : u.length = n) (hv : v.length = n) (hr : r.length = n) : lin p u (lin p v r b) a = lin p (lin p u v a) r (b * a) := by
  refine g_ext (lin_len hu (lin_len hv hr)) (lin_len (lin_len hu hv) hr) fun j hj => ?_
  rw [g_lin hu (lin_len hv hr) hj, g_lin hv hr hj, g_lin (lin_len hu hv) hr hj, g_lin hu hv hj, m1, Int.emod_add_emod, Int.add_mul, Int.mul_assoc, Int.add_assoc]
theorem lin_swap {u v r : List Int} {a b : Int} (hu : u.length = n) (hv : v.length = n) (hr : r.length = n) : lin p (lin p u v a) r b = lin p (lin p u r b) v a := by
  refine g_ext (lin_len (lin_len hu hv) hr) (lin_len (lin_len hu hr) hv) fun j hj => ?_
  rw [g_lin (lin_len hu hv) hr hj, g_lin hu hv hj, g_lin (lin_len hu hr) hv hj, g_lin hu hr hj, Int.emod_add_emod, Int.emod_add_emod]
  congr 1
  omega
theorem lin_twice {u v : List Int} {a b : Int} (hu : u.length = n) (hv : v.length = n) : lin p (lin p u v b) v a = lin p u v (b + a) := by
  refine g_ext (lin_len (lin_len hu hv) hv) (lin_len hu hv) fun j hj => ?_
  rw [g_lin (lin_len hu hv) hv hj, g_lin hu hv hj, g_lin hu hv hj, Int.emod_add_emod, Int.mul_add, Int.add_assoc]
theorem lin_emod {u v : List Int} {a : Int} (hu : u.length = n) (hv : v.length = n) : lin p u v (a % p) = lin p u v a := by
  refine g_ext (lin_len hu hv) (lin_len hu hv) fun j hj => ?_
  rw [g_lin hu hv hj, g_lin hu hv hj, Int.add_emod, Int.mul_emod, Int.emod_emod, ← Int.mul_emod, ← Int.add_emod]
theorem Sp_row (hp : okP p = true) (h : okR p n rows) {r : List Int} (hr : r ∈ rows) : Sp p n rows r := by
  have := Sp.step (p := p) (n := n) (rows := rows) 1 .zero hr
  rwa [zero_lin (h r hr)] at this
theorem Sp_lin (hp : okP p = true) (hn : n ≤ 1000) (h : okR p n rows) {u v : List Int} {a : Int} (hu : Sp p n rows u) (hv : Sp p n rows v) : Sp p n rows (lin p u v a) := by
  induction hv with
  | zero => rw [lin_zero (Sp_ok hp hn h hu)]; exact hu
  | @step w r b hw hr ih =>
    rw [lin_lin (Sp_ok hp hn h hu).2 (Sp_ok hp hn h hw).2 (h r hr).2]
    exact .step _ ih hr
theorem Sp_of (hp : okP p = true) (hn : n ≤ 1000) {rows' : List (List Int)} (h : okR p n rows') (hs : ∀ r ∈ rows, Sp p n rows' r) {y : List Int} (q : Sp p n rows y) : Sp p n rows' y := by
  induction q with
  | zero => exact .zero
  | step a _ hr ih => exact Sp_lin hp hn h ih (hs _ hr)
/-! ### the words that the law's list holds -/
theorem spanL_snoc (p : Int) (n : Nat) (rows : List (List Int)) (r : List Int) : spanL p n (rows ++ [r]) = widen p r (spanL p n rows) := by
  unfold spanL
  rw [List.foldl_append]
  rfl
theorem spanL_Sp {R : List (List Int)} : ∀ rows : List (List Int), (∀ r ∈ rows, r ∈ R) → ∀ ws : List (List Int), (∀ w ∈ ws, Sp p n R w) → ∀ w ∈ rows.foldl (fun ws r => widen p r ws) ws, Sp p n R w
  | [], _, ws, hw => hw
  | r :: rows, hr, ws, hw => by
    rw [List.foldl_cons]
    refine spanL_Sp rows (fun x hx => hr x (List.mem_cons_of_mem _ hx)) _ fun y hy => ?_
    obtain ⟨w, h1, a, _, rfl⟩ := widen_mem.mp hy
    exact .step _ (hw w h1) (hr r List.mem_cons_self)
theorem spanL_cl (hp : okP p = true) (hn : n ≤ 1000) : ∀ R : List (List Int), okR p n R → List.replicate n 0 ∈ spanL p n R.reverse ∧ ∀ w ∈ spanL p n R.reverse, ∀ r ∈ R, ∀ a : Int, lin p w r a ∈ spanL p n R.reverse
  | [], _ => ⟨by simp [spanL], fun w _ r hr => absurd hr List.not_mem_nil⟩
  | r' :: R, h => by
    have hp1 := (okP_iff.mp hp).1
    have hR : okR p n R := fun x hx => h x (List.mem_cons_of_mem _ hx)
    have hr' := h r' List.mem_cons_self
    obtain ⟨i1, i2⟩ := spanL_cl hp hn R hR
    have hok := spanL_ok (rows := R.reverse) hp hn (fun x hx => hR x (List.mem_reverse.mp hx))
    rw [List.reverse_cons, spanL_snoc]
    constructor
    · refine widen_mem.mpr ⟨_, i1, 0, by omega, ?_⟩
      exact (lin_none (ok_zero hp hn) hr'.2).symm
    · intro w hw r hr a
      obtain ⟨w', hw', b, hb, rfl⟩ := widen_mem.mp hw
      have hok' := hok w' hw'
      show lin p (lin p w' r' (b : Int)) r a ∈ _
      rcases List.mem_cons.mp hr with rfl | hr
      · rw [lin_twice hok'.2 hr'.2, ← lin_emod hok'.2 hr'.2]
        have h1 : 0 ≤ ((b : Int) + a) % p := Int.emod_nonneg _ (by omega)
        have h2 : ((b : Int) + a) % p < p := Int.emod_lt_of_pos _ hp1
        refine widen_mem.mpr ⟨w', hw', (((b : Int) + a) % p).toNat, by omega, ?_⟩
        rw [Int.toNat_of_nonneg h1]
        rfl
      · rw [lin_swap hok'.2 hr'.2 (hR r hr).2]
        exact widen_mem.mpr ⟨_, i2 w' hw' r hr a, b, hb, rfl⟩
theorem spanL_iff (hp : okP p = true) (hn : n ≤ 1000) (h : okR p n rows) {y : List Int} : y ∈ spanL p n rows ↔ Sp p n rows y := by
  constructor
  · exact spanL_Sp rows (fun _ h => h) _ (fun w hw => by rw [List.mem_singleton] at hw; subst hw; exact .zero) y
  · intro q
    obtain ⟨h1, h2⟩ := spanL_cl hp hn rows.reverse (fun x hx => h x (List.mem_reverse.mp hx))
    rw [List.reverse_reverse] at h1 h2
    induction q with
    | zero => exact h1
    | step a _ hr ih => exact h2 _ ih _ (List.mem_reverse.mpr hr) a
theorem sort_eq {a b : List (List Int)} (ha : a.Nodup) (hb : b.Nodup) (h : ∀ x, x ∈ a ↔ x ∈ b) : sortW a = sortW b := by
  have hp : (sortW a).Perm (sortW b) := ((List.mergeSort_perm _ _).trans ((List.perm_ext_iff_of_nodup ha hb).mpr h)).trans (List.mergeSort_perm _ _).symm
  have st : ∀ l : List (List Int), List.Pairwise (fun a b => decide (a ≤ b) = true) (sortW l) := fun l => List.pairwise_mergeSort (le := fun a b => decide (a ≤ b)) (fun a b c h1 h2 => decide_eq_true (List.le_trans (of_decide_eq_true h1) (of_decide_eq_true h2))) (fun a b => by
    rcases List.le_total a b with h | h
    · simp [h]
    · simp [h]) l
  exact hp.eq_of_pairwise (fun a b _ _ h1 h2 => List.le_antisymm (of_decide_eq_true h1) (of_decide_eq_true h2)) (st a) (st b)
theorem sortW_len (a : List (List Int)) : (sortW a).length = a.length := (List.mergeSort_perm _ _).length_eq
/-! ### how many words -/
def Ind (n : Nat) : List (List Int) → Prop
  | [] => True
  | r :: R => Ind n R ∧ ∃ c < n, g r c = 1 ∧ ∀ t ∈ R, g t c = 0
theorem Sp_col {c : Nat} (hp : okP p = true) (hn : n ≤ 1000) (hc : c < n) (h : okR p n rows) (h0 : ∀ t ∈ rows, g t c = 0) {y : List Int} (q : Sp p n rows y) : g y c = 0 := by
  induction q with
  | zero => exact g_zero
  | @step w r a hw hr ih => rw [g_lin (Sp_ok hp hn h hw).2 (h r hr).2 hc, ih, h0 r hr, Int.zero_mul]; exact Int.zero_emod _
theorem nodup_map_on {α β : Type} {f : α → β} {l : List α} (h : l.Nodup) (hf : ∀ a ∈ l, ∀ b ∈ l, f a = f b → a = b) : (l.map f).Nodup := by
  induction l with
  | nil => exact List.nodup_nil
  | cons a l ih =>
    rw [List.map_cons, List.nodup_cons]
    obtain ⟨h1, h2⟩ := List.nodup_cons.mp h
    refine ⟨fun hm => ?_, ih h2 fun x hx y hy => hf x (List.mem_cons_of_mem _ hx) y (List.mem_cons_of_mem _ hy)⟩
    obtain ⟨b, hb, e⟩ := List.mem_map.mp hm
    have := hf b (List.mem_cons_of_mem _ hb) a List.mem_cons_self e
    exact h1 (this ▸ hb)
theorem spanL_card (hp : okP p = true) (hn : n ≤ 1000) : ∀ R : List (List Int), okR p n R → Ind n R → (spanL p n R.reverse).length = p.toNat ^ R.length
  | [], _, _ => by simp [spanL]
  | r :: R, h, hi => by
    have hR : okR p n R := fun x hx => h x (List.mem_cons_of_mem _ hx)
    have hr := h r List.mem_cons_self
    have hRr : okR p n R.reverse := fun x hx => hR x (List.mem_reverse.mp hx)
    obtain ⟨hp1, hp2⟩ := okP_iff.mp hp
    obtain ⟨hI, c, hc, h1, h0⟩ := hi
    have ih := spanL_card hp hn R hR hI
    have hok := spanL_ok (rows := R.reverse) hp hn hRr
    have hz : ∀ w ∈ spanL p n R.reverse, g w c = 0 := fun w hw => Sp_col hp hn hc hRr (fun t ht => h0 t (List.mem_reverse.mp ht)) ((spanL_iff hp hn hRr).mp hw)
    have hnd := spanL_nd (p := p) (n := n) (rows := R.reverse)
    rw [List.reverse_cons, spanL_snoc]
    generalize spanL p n R.reverse = ws at *
    -- the list with every sum
    have gc : ∀ w ∈ ws, ∀ a : Nat, a < p.toNat → g (lin p w r (a : Int)) c = (a : Int) := fun w hw a ha => by
      rw [g_lin (hok w hw).2 hr.2 hc, hz w hw, h1, Int.one_mul, Int.zero_add, Int.emod_eq_of_lt (by omega) (by omega)]
    have back : ∀ w ∈ ws, ∀ a : Int, lin p (lin p w r a) r (-a) = w := fun w hw a => by
      rw [lin_twice (hok w hw).2 hr.2, Int.add_right_neg, lin_none (hok w hw) hr.2]
    have big : (ws.flatMap fun w => (List.range p.toNat).map fun (a : Nat) => lin p w r (a : Int)).Nodup := by
      refine List.pairwise_flatMap.mpr ⟨fun w hw => ?_, ?_⟩
      · refine nodup_map_on List.nodup_range fun a ha b hb e => ?_
        have e1 := gc w hw a (List.mem_range.mp ha)
        have e2 := gc w hw b (List.mem_range.mp hb)
        rw [e] at e1
        omega
      · refine List.Pairwise.imp_of_mem (R := (· ≠ ·)) (fun {w v} hw hv hne x hx y hy e => ?_) hnd
        obtain ⟨a, ha, rfl⟩ := List.mem_map.mp hx
        obtain ⟨b, hb, rfl⟩ := List.mem_map.mp hy
        have e1 := gc w hw a (List.mem_range.mp ha)
        have e2 := gc v hv b (List.mem_range.mp hb)
        rw [e] at e1
        have hab : (a : Int) = (b : Int) := by omega
        have b1 := back w hw a
        have b2 := back v hv b
        rw [hab] at b1 e
        rw [e] at b1
        exact hne (b1.symm.trans b2)
    have hperm := (List.perm_ext_iff_of_nodup (widen_nd (p := p) (r := r) (ws := ws)) big).mpr fun y => by
      rw [widen_mem, List.mem_flatMap]
      constructor
      · rintro ⟨w, hw, a, ha, rfl⟩
        exact ⟨w, hw, List.mem_map.mpr ⟨a, List.mem_range.mpr ha, rfl⟩⟩
      · rintro ⟨w, hw, hy⟩
        obtain ⟨a, ha, rfl⟩ := List.mem_map.mp hy
        exact ⟨w, hw, a, List.mem_range.mp ha, rfl⟩
    rw [hperm.length_eq, List.length_flatMap]
    simp only [List.length_map, List.length_range, List.map_const', List.sum_replicate_nat, List.length_cons, ih]
    rw [Nat.pow_succ]
end
end Lq

namespace Lq
open PySem PySem.Spec PyProof.Rows L2
/-! ### reduced tables -/
def tk (T : List (List Int)) (k : Nat) : List Int := T.getD k []
def pk (P : List Nat) (k : Nat) : Nat := P.getD k 0
/-- rows T with the leading places P, all below at_ -/
structure Rr (at_ : Nat) (T : List (List Int)) (P : List Nat) : Prop where
  len : T.length = P.length
  lt : ∀ k < P.length, pk P k < at_
  asc : ∀ i k, i < k → k < P.length → pk P i < pk P k
  one : ∀ k < P.length, g (tk T k) (pk P k) = 1
  zro : ∀ j k, j < P.length → k < P.length → j ≠ k → g (tk T j) (pk P k) = 0
  low : ∀ k < P.length, ∀ c < pk P k, g (tk T k) c = 0
theorem tk_mem {T : List (List Int)} {k : Nat} (h : k < T.length) : tk T k ∈ T := by
  unfold tk
  rw [List.getD_eq_getElem?_getD, List.getElem?_eq_getElem h]
  exact List.getElem_mem _
theorem mem_tk {T : List (List Int)} {r : List Int} (h : r ∈ T) : ∃ k < T.length, tk T k = r := by
  obtain ⟨k, hk, e⟩ := List.getElem_of_mem h
  refine ⟨k, hk, ?_⟩
  unfold tk
  rw [List.getD_eq_getElem?_getD, List.getElem?_eq_getElem hk]
  exact e
theorem tk_map {T : List (List Int)} {f : List Int → List Int} {h : List Int} {k : Nat} (hk : k < T.length) : tk (T.map f ++ [h]) k = f (tk T k) := by
  unfold tk
  rw [List.getD_eq_getElem?_getD, List.getD_eq_getElem?_getD, List.getElem?_append_left (by simpa using hk), List.getElem?_map, List.getElem?_eq_getElem hk]
  rfl
theorem tk_last {T : List (List Int)} {h : List Int} : tk (T ++ [h]) T.length = h := by
  unfold tk
  rw [List.getD_eq_getElem?_getD, List.getElem?_concat_length]
  rfl
theorem pk_app {P : List Nat} {a k : Nat} (hk : k < P.length) : pk (P ++ [a]) k = pk P k := by
  unfold pk
  rw [List.getD_eq_getElem?_getD, List.getD_eq_getElem?_getD, List.getElem?_append_left hk]
theorem pk_last {P : List Nat} {a : Nat} : pk (P ++ [a]) P.length = a := by
  unfold pk
  rw [List.getD_eq_getElem?_getD, List.getElem?_concat_length]
  rfl
/-- what holds ahead of the column at_ -/
structure RI (p : Int) (n at_ : Nat) (rows : List (List Int)) (s : Red) : Prop where
  rr : Rr at_ s.T s.P
  zl : ∀ r ∈ s.L, ∀ c < at_, g r c = 0
  sp : ∀ y, Sp p n (s.T ++ s.L) y ↔ Sp p n rows y
section
variable {p : Int} {n at_ : Nat} {rows : List (List Int)} {s : Red}
theorem g_clr {h q : List Int} {c : Nat} (hh : ok1 p n h) (hq : ok1 p n q) (hc : c < n) : g (clr p h at_ q) c = (g q c + g h c * -(g q at_)) % p := by
  rw [clr_lin, g_lin hq.2 hh.2 hc]
theorem okR_app {A B : List (List Int)} (h1 : okR p n A) (h2 : okR p n B) : okR p n (A ++ B) := fun r hr => by
  rcases List.mem_append.mp hr with h | h
  · exact h1 r h
  · exact h2 r h
theorem RI_step (hp : isP p = true) (hn : n ≤ 1000) (hT : okR p n s.T) (hL : okR p n s.L) (hat : at_ < n) (h : RI p n at_ rows s) : RI p n (at_ + 1) rows (redStep p s at_) := by
  have hp' := isP_okP hp
  have hp1 := (okP_iff.mp hp').1
  have hst := redStep_ok (at_ := at_) hp' hT hL
  revert hst
  unfold redStep
  cases hf : s.L.filter fun r => decide (r.getD at_ 0 ≠ 0) with
  | nil =>
    intro _
    refine ⟨⟨h.rr.len, fun k hk => Nat.lt_succ_of_lt (h.rr.lt k hk), h.rr.asc, h.rr.one, h.rr.zro, h.rr.low⟩, fun r hr c hc => ?_, h.sp⟩
    rcases Nat.lt_or_ge c at_ with h1 | h1
    · exact h.zl r hr c h1
    · have hca : c = at_ := by omega
      subst hca
      rw [List.filter_eq_nil_iff] at hf
      have := hf r hr
      simpa [g] using this
  | cons r rs =>
    intro hst
    dsimp only at hst ⊢
    have hr : r ∈ s.L := (List.mem_filter.mp (by rw [hf]; exact List.mem_cons_self)).1
    have hr0 : g r at_ ≠ 0 := of_decide_eq_true (List.mem_filter.mp (show r ∈ s.L.filter (fun r => decide (r.getD at_ 0 ≠ 0)) by rw [hf]; exact List.mem_cons_self)).2
    have hrk := hL r hr
    have hm : g r at_ % p ≠ 0 := by rw [g_mod hrk hat]; exact hr0
    have hh : ok1 p n (redHead p at_ r) := okR_head hp' hrk
    have gh : ∀ c < n, g (redHead p at_ r) c = g r c * invP p (g r at_) % p := fun c hc => g_sc hrk.2 hc
    have gh0 : ∀ c < at_, g (redHead p at_ r) c = 0 := fun c hc => by rw [gh c (by omega), h.zl r hr c hc, Int.zero_mul]; exact Int.zero_emod _
    have gh1 : g (redHead p at_ r) at_ = 1 := by rw [gh at_ hat]; exact invP_mul hp hm
    have gl : ∀ q, ok1 p n q → ∀ c < at_, g (clr p (redHead p at_ r) at_ q) c = g q c := fun q hq c hc => by
      rw [g_clr hh hq (by omega), gh0 c hc, Int.zero_mul, Int.add_zero, g_mod hq (by omega)]
    have ga : ∀ q, ok1 p n q → g (clr p (redHead p at_ r) at_ q) at_ = 0 := fun q hq => by
      rw [g_clr hh hq hat, gh1, Int.one_mul, Int.add_right_neg]
      exact Int.zero_emod _
    have hlen : s.T.length = s.P.length := h.rr.len
    have tkT : ∀ k, k < s.P.length → tk (s.T.map (clr p (redHead p at_ r) at_) ++ [redHead p at_ r]) k = clr p (redHead p at_ r) at_ (tk s.T k) := fun k hk => tk_map (by omega)
    have tkL : tk (s.T.map (clr p (redHead p at_ r) at_) ++ [redHead p at_ r]) s.P.length = redHead p at_ r := by
      have e : s.P.length = (s.T.map (clr p (redHead p at_ r) at_)).length := by rw [List.length_map]; exact hlen.symm
      rw [e]
      exact tk_last
    have okT : ∀ k, k < s.P.length → ok1 p n (tk s.T k) := fun k hk => hT _ (tk_mem (by omega))
    have pl : (s.P ++ [at_]).length = s.P.length + 1 := by simp
    refine ⟨⟨by simp [hlen], ?_, ?_, ?_, ?_, ?_⟩, ?_, ?_⟩
    · intro k hk
      rw [pl] at hk
      rcases Nat.lt_or_ge k s.P.length with h1 | h1
      · rw [pk_app h1]; exact Nat.lt_succ_of_lt (h.rr.lt k h1)
      · have : k = s.P.length := by omega
        subst this
        rw [pk_last]; exact Nat.lt_succ_self _
    · intro i k hik hk
      rw [pl] at hk
      rw [pk_app (show i < s.P.length by omega)]
      rcases Nat.lt_or_ge k s.P.length with h1 | h1
      · rw [pk_app h1]; exact h.rr.asc i k hik h1
      · have : k = s.P.length := by omega
        subst this
        rw [pk_last]; exact h.rr.lt i hik
    · intro k hk
      rw [pl] at hk
      rcases Nat.lt_or_ge k s.P.length with h1 | h1
      · rw [pk_app h1, tkT k h1, gl _ (okT k h1) _ (h.rr.lt k h1)]; exact h.rr.one k h1
      · have : k = s.P.length := by omega
        subst this
        rw [pk_last, tkL]; exact gh1
    · intro j k hj hk hjk
      rw [pl] at hj hk
      rcases Nat.lt_or_ge k s.P.length with h1 | h1
      · rw [pk_app h1]
        rcases Nat.lt_or_ge j s.P.length with h2 | h2
        · rw [tkT j h2, gl _ (okT j h2) _ (h.rr.lt k h1)]; exact h.rr.zro j k h2 h1 hjk
        · have : j = s.P.length := by omega
          subst this
          rw [tkL]; exact gh0 _ (h.rr.lt k h1)
      · have : k = s.P.length := by omega
        subst this
        rw [pk_last, tkT j (by omega)]; exact ga _ (okT j (by omega))
    · intro k hk c hc
      rw [pl] at hk
      rcases Nat.lt_or_ge k s.P.length with h1 | h1
      · rw [pk_app h1] at hc
        have := h.rr.lt k h1
        rw [tkT k h1, gl _ (okT k h1) _ (by omega)]; exact h.rr.low k h1 c hc
      · have : k = s.P.length := by omega
        subst this
        rw [pk_last] at hc
        rw [tkL]; exact gh0 c hc
    · intro q hq c hc
      obtain ⟨q0, hq0, rfl⟩ := List.mem_map.mp hq
      rcases Nat.lt_or_ge c at_ with h1 | h1
      · rw [gl _ (hL q0 hq0) c h1]; exact h.zl q0 hq0 c h1
      · have hca : c = at_ := by omega
        subst hca
        exact ga _ (hL q0 hq0)
    · intro y
      rw [← h.sp y]
      have ok0 := okR_app hT hL
      have ok2 := okR_app hst.1 hst.2
      have spH0 : Sp p n (s.T ++ s.L) (redHead p at_ r) := by
        have e : redHead p at_ r = lin p (List.replicate n 0) r (invP p (g r at_)) := by
          refine g_ext hh.2 (lin_len (by simp) hrk.2) fun j hj => ?_
          rw [gh j hj, g_lin (by simp) hrk.2 hj, g_zero, Int.zero_add]
        rw [e]
        exact .step _ .zero (List.mem_append_right _ hr)
      have spH2 : Sp p n ((s.T.map (clr p (redHead p at_ r) at_) ++ [redHead p at_ r]) ++ s.L.map (clr p (redHead p at_ r) at_)) (redHead p at_ r) := Sp_row hp' ok2 (List.mem_append_left _ (List.mem_append_right _ List.mem_cons_self))
      constructor
      · refine fun q => Sp_of hp' hn ok0 (fun x hx => ?_) q
        have cl : ∀ q0 ∈ s.T ++ s.L, Sp p n (s.T ++ s.L) (clr p (redHead p at_ r) at_ q0) := fun q0 h0 => Sp_lin hp' hn ok0 (Sp_row hp' ok0 h0) spH0
        rcases List.mem_append.mp hx with hx | hx
        · rcases List.mem_append.mp hx with hx | hx
          · obtain ⟨q0, h0, rfl⟩ := List.mem_map.mp hx
            exact cl q0 (List.mem_append_left _ h0)
          · rw [List.mem_singleton] at hx
            subst hx
            exact spH0
        · obtain ⟨q0, h0, rfl⟩ := List.mem_map.mp hx
          exact cl q0 (List.mem_append_right _ h0)
      · refine fun q => Sp_of hp' hn ok2 (fun x hx => ?_) q
        have hxk : ok1 p n x := ok0 x hx
        have e : x = lin p (clr p (redHead p at_ r) at_ x) (redHead p at_ r) (g x at_) := by
          rw [clr_lin, lin_twice hxk.2 hh.2, Int.add_left_neg, lin_none hxk hh.2]
        rw [e]
        refine Sp_lin hp' hn ok2 (Sp_row hp' ok2 ?_) spH2
        rcases List.mem_append.mp hx with hx | hx
        · exact List.mem_append_left _ (List.mem_append_left _ (List.mem_map_of_mem hx))
        · exact List.mem_append_right _ (List.mem_map_of_mem hx)
theorem RI_N (hp : isP p = true) (hn : n ≤ 1000) (h : okR p n rows) : ∀ k, k ≤ n → RI p n k rows (redN p rows k)
  | 0, _ => ⟨⟨rfl, fun k hk => absurd hk (Nat.not_lt_zero _), fun _ k _ hk => absurd hk (Nat.not_lt_zero _), fun k hk => absurd hk (Nat.not_lt_zero _), fun _ k _ hk => absurd hk (Nat.not_lt_zero _), fun k hk => absurd hk (Nat.not_lt_zero _)⟩, fun _ _ c hc => absurd hc (Nat.not_lt_zero _), fun y => Iff.rfl⟩
  | k + 1, hk => RI_step hp hn (redN_ok (isP_okP hp) h k).1 (redN_ok (isP_okP hp) h k).2 (by omega) (RI_N hp hn h k (by omega))
/-- the table's rows span what the rows span -/
theorem red_Sp (hp : isP p = true) (hn : n ≤ 1000) (h : okR p n rows) (y : List Int) : Sp p n (redN p rows n).T y ↔ Sp p n rows y := by
  have hI := RI_N hp hn h n (Nat.le_refl _)
  obtain ⟨h1, h2⟩ := redN_ok (isP_okP hp) h n
  rw [← hI.sp y]
  constructor
  · exact Sp_of (isP_okP hp) hn (okR_app h1 h2) fun r hr => Sp_row (isP_okP hp) (okR_app h1 h2) (List.mem_append_left _ hr)
  · refine Sp_of (isP_okP hp) hn h1 fun r hr => ?_
    rcases List.mem_append.mp hr with hr | hr
    · exact Sp_row (isP_okP hp) h1 hr
    · have : r = List.replicate n 0 := g_ext (h2 r hr).2 (by simp) fun j hj => by rw [hI.zl r hr j hj, g_zero]
      subst this
      exact .zero
theorem red_span (hp : isP p = true) (hn : n ≤ 1000) (h : okR p n rows) : sortW (spanL p n (redN p rows n).T) = sortW (spanL p n rows) := by
  refine sort_eq spanL_nd spanL_nd fun y => ?_
  rw [spanL_iff (isP_okP hp) hn (redN_ok (isP_okP hp) h n).1, spanL_iff (isP_okP hp) hn h]
  exact red_Sp hp hn h y
theorem Rr_Ind {T : List (List Int)} {P : List Nat} (h : Rr n T P) : ∀ k, k ≤ P.length → Ind n (T.take k).reverse
  | 0, _ => trivial
  | k + 1, hk => by
    have hkT : k < T.length := by have := h.len; omega
    rw [List.take_succ_eq_append_getElem hkT, List.reverse_append]
    refine ⟨Rr_Ind h k (by omega), pk P k, h.lt k hk, ?_, fun t ht => ?_⟩
    · have := h.one k hk
      unfold tk at this
      rw [List.getD_eq_getElem?_getD, List.getElem?_eq_getElem hkT] at this
      exact this
    · have ht2 := List.mem_reverse.mp ht
      obtain ⟨j, hj, rfl⟩ := List.getElem_of_mem ht2
      have hj' : j < k := by
        rw [List.length_take] at hj
        omega
      rw [List.getElem_take]
      have := h.zro j k (by omega) hk (by omega)
      unfold tk at this
      rw [List.getD_eq_getElem?_getD, List.getElem?_eq_getElem (by omega)] at this
      exact this
theorem red_card (hp : isP p = true) (hn : n ≤ 1000) (h : okR p n rows) : (sortW (spanL p n rows)).length = p.toNat ^ (redN p rows n).T.length := by
  rw [← red_span hp hn h, sortW_len]
  have hI := RI_N hp hn h n (Nat.le_refl _)
  have hT := (redN_ok (isP_okP hp) h n).1
  have hi := Rr_Ind hI.rr (redN p rows n).P.length (Nat.le_refl _)
  rw [← hI.rr.len, List.take_length] at hi
  have := spanL_card (isP_okP hp) hn (redN p rows n).T.reverse (fun x hx => hT x (List.mem_reverse.mp hx)) hi
  rwa [List.reverse_reverse, List.length_reverse] at this
/-! ### a reduced table in any order -/
structure RJ (p : Int) (n at_ j : Nat) (T : List (List Int)) (P : List Nat) (s : Red) : Prop where
  t : s.T = T.take j
  p : s.P = P.take j
  lo : ∀ k < j, pk P k < at_
  hi : ∀ k, j ≤ k → k < P.length → at_ ≤ pk P k
  le : j ≤ P.length
  l1 : ∀ r ∈ s.L, r = List.replicate n 0 ∨ ∃ k, j ≤ k ∧ k < P.length ∧ r = tk T k
  l2 : ∀ k, j ≤ k → k < P.length → tk T k ∈ s.L
theorem take_snoc {α : Type} (l : List α) (d : α) {j : Nat} (h : j < l.length) : l.take (j + 1) = l.take j ++ [l.getD j d] := by
  rw [List.take_succ_eq_append_getElem h, List.getD_eq_getElem?_getD, List.getElem?_eq_getElem h]
  rfl
theorem RJ_step {T : List (List Int)} {P : List Nat} (hp : isP p = true) (hn : n ≤ 1000) (hT : okR p n T) (hR : Rr n T P) (hat : at_ < n) {j : Nat} (h : RJ p n at_ j T P s) : ∃ j', RJ p n (at_ + 1) j' T P (redStep p s at_) := by
  have hp' := isP_okP hp
  have hp1 := (okP_iff.mp hp').1
  have okT : ∀ k, k < P.length → ok1 p n (tk T k) := fun k hk => hT _ (tk_mem (by have := hR.len; omega))
  have g0 : ∀ k, j ≤ k → k < P.length → pk P k ≠ at_ → g (tk T k) at_ = 0 := fun k h1 h2 h3 => hR.low k h2 at_ (by have := h.hi k h1 h2; omega)
  by_cases hj : j < P.length ∧ pk P j = at_
  · obtain ⟨hj1, hj2⟩ := hj
    have hjm := h.l2 j (Nat.le_refl _) hj1
    have one := hR.one j hj1
    rw [hj2] at one
    unfold redStep
    cases hf : s.L.filter fun r => decide (r.getD at_ 0 ≠ 0) with
    | nil =>
      rw [List.filter_eq_nil_iff] at hf
      have := hf _ hjm
      have e : (tk T j).getD at_ 0 = 1 := one
      rw [e] at this
      exact absurd (by decide) this
    | cons r rs =>
      have hr : r ∈ s.L := (List.mem_filter.mp (by rw [hf]; exact List.mem_cons_self)).1
      have hr0 : g r at_ ≠ 0 := of_decide_eq_true (List.mem_filter.mp (show r ∈ s.L.filter (fun r => decide (r.getD at_ 0 ≠ 0)) by rw [hf]; exact List.mem_cons_self)).2
      have hrj : r = tk T j := by
        rcases h.l1 r hr with rfl | ⟨k, h1, h2, rfl⟩
        · exact absurd g_zero hr0
        · by_cases hk : k = j
          · rw [hk]
          · have : pk P j < pk P k := hR.asc j k (by omega) h2
            exact absurd (g0 k h1 h2 (by omega)) hr0
      have hd : redHead p at_ r = tk T j := by
        rw [hrj]
        have ho := okT j hj1
        have hm : g (tk T j) at_ % p ≠ 0 := by rw [g_mod ho hat, one]; decide
        have hi := invP_mul hp hm
        rw [one, Int.one_mul] at hi
        have e1 : (tk T j).getD at_ 0 = 1 := one
        unfold redHead
        rw [e1]
        refine g_ext (by rw [scW_len]; exact ho.2) ho.2 fun c hc => ?_
        rw [g_sc ho.2 hc, Int.mul_emod, hi, Int.mul_one, Int.emod_emod, g_mod ho hc]
      have hh := okT j hj1
      have keep : ∀ q, ok1 p n q → g q at_ = 0 → clr p (tk T j) at_ q = q := fun q hq h0 => by
        rw [clr_lin, h0, Int.neg_zero, lin_none hq hh.2]
      have kill : clr p (tk T j) at_ (tk T j) = List.replicate n 0 := by
        refine g_ext (lin_len hh.2 hh.2) (by simp) fun c hc => ?_
        rw [g_clr hh hh hc, one, g_zero, Int.mul_neg, Int.mul_one, Int.add_right_neg]
        exact Int.zero_emod _
      refine ⟨j + 1, ?_, ?_, ?_, ?_, hj1, ?_, ?_⟩
      · show s.T.map (clr p (redHead p at_ r) at_) ++ [redHead p at_ r] = _
        rw [hd, take_snoc T [] (by have := hR.len; omega), h.t]
        congr 1
        have : ∀ q ∈ T.take j, clr p (tk T j) at_ q = q := fun q hq => by
          obtain ⟨i, hi, rfl⟩ := List.getElem_of_mem hq
          have hi2 : i < j := by rw [List.length_take] at hi; omega
          have hi3 : i < T.length := by have := hR.len; omega
          rw [List.getElem_take]
          have e : T[i] = tk T i := by
            unfold tk
            rw [List.getD_eq_getElem?_getD, List.getElem?_eq_getElem hi3]
            rfl
          rw [e]
          refine keep _ (okT i (by omega)) ?_
          rw [← hj2]
          exact hR.zro i j (by omega) hj1 (by omega)
        exact (List.map_congr_left this).trans (List.map_id _)
      · show s.P ++ [at_] = _
        rw [take_snoc P 0 hj1, h.p]
        congr 1
        rw [← hj2]
        rfl
      · intro k hk
        rcases Nat.lt_or_ge k j with h1 | h1
        · exact Nat.lt_succ_of_lt (h.lo k h1)
        · have : k = j := by omega
          subst this
          omega
      · intro k h1 h2
        have := hR.asc j k (by omega) h2
        omega
      · intro q hq
        have hq' : q ∈ s.L.map (clr p (redHead p at_ r) at_) := hq
        rw [hd] at hq'
        obtain ⟨q0, h0, rfl⟩ := List.mem_map.mp hq'
        rcases h.l1 q0 h0 with rfl | ⟨k, h1, h2, rfl⟩
        · left
          exact keep _ (ok_zero hp' hn) g_zero
        · by_cases hk : k = j
          · subst hk
            exact .inl kill
          · right
            have := hR.asc j k (by omega) h2
            exact ⟨k, by omega, h2, keep _ (okT k h2) (g0 k h1 h2 (by omega))⟩
      · intro k h1 h2
        show tk T k ∈ s.L.map (clr p (redHead p at_ r) at_)
        rw [hd]
        have := hR.asc j k (by omega) h2
        refine List.mem_map.mpr ⟨tk T k, h.l2 k (by omega) h2, keep _ (okT k h2) (g0 k (by omega) h2 (by omega))⟩
  · have ne : ∀ k, j ≤ k → k < P.length → pk P k ≠ at_ := fun k h1 h2 e => by
      by_cases hk : k = j
      · subst hk
        exact hj ⟨h2, e⟩
      · have h3 := hR.asc j k (by omega) h2
        have h4 := h.hi j (Nat.le_refl _) (by omega)
        omega
    have hf : (s.L.filter fun r => decide (r.getD at_ 0 ≠ 0)) = [] := by
      rw [List.filter_eq_nil_iff]
      intro r hr
      have : g r at_ = 0 := by
        rcases h.l1 r hr with rfl | ⟨k, h1, h2, rfl⟩
        · exact g_zero
        · exact g0 k h1 h2 (ne k h1 h2)
      have e0 : r.getD at_ 0 = 0 := this
      rw [e0]
      decide
    refine ⟨j, ?_⟩
    have e : redStep p s at_ = s := by
      unfold redStep
      rw [hf]
    rw [e]
    exact ⟨h.t, h.p, fun k hk => Nat.lt_succ_of_lt (h.lo k hk), fun k h1 h2 => by
      have := h.hi k h1 h2
      have := ne k h1 h2
      omega, h.le, h.l1, h.l2⟩
theorem RJ_N {T L : List (List Int)} {P : List Nat} (hp : isP p = true) (hn : n ≤ 1000) (hT : okR p n T) (hR : Rr n T P) (hL : ∀ r, r ∈ L ↔ r ∈ T) : ∀ k, k ≤ n → ∃ j, RJ p n k j T P (redN p L k)
  | 0, _ => ⟨0, rfl, rfl, fun k hk => absurd hk (Nat.not_lt_zero _), fun _ _ _ => Nat.zero_le _, Nat.zero_le _, fun r hr => by
    obtain ⟨k, hk, e⟩ := mem_tk ((hL r).mp hr)
    exact .inr ⟨k, Nat.zero_le _, by have := hR.len; omega, e.symm⟩, fun k _ hk => (hL _).mpr (tk_mem (by have := hR.len; omega))⟩
  | k + 1, hk => by
    obtain ⟨j, h⟩ := RJ_N hp hn hT hR hL k (by omega)
    exact RJ_step hp hn hT hR (by omega) h
theorem red_again {T L : List (List Int)} {P : List Nat} (hp : isP p = true) (hn : n ≤ 1000) (hT : okR p n T) (hR : Rr n T P) (hL : ∀ r, r ∈ L ↔ r ∈ T) : (redN p L n).T = T ∧ (redN p L n).P = P := by
  obtain ⟨j, h⟩ := RJ_N hp hn hT hR hL n (Nat.le_refl _)
  have hj : j = P.length := by
    rcases Nat.lt_or_ge j P.length with h1 | h1
    · have a := h.hi j (Nat.le_refl _) h1
      have b := hR.lt j h1
      omega
    · have := h.le; omega
  rw [h.t, h.p, hj, ← hR.len, List.take_length, hR.len, List.take_length]
  exact ⟨rfl, rfl⟩
end
end Lq

namespace Lq
open PySem PySem.Spec PyProof.Rows L2
/-! ### is it reduced -/
def m__law_is_reduced : Ms → O := (seqS (asgS 2 (op1 (cE (.int 1)) negO))
  (seqS (ifS (tst (op2 (calE (aCons (varE 0) aNil) lenO) (calE (aCons (varE 1) aNil) lenO) neO)) (retS (cE (.bl false))) nilS)
  (seqS (forS (itR1 (aCons (calE (aCons (varE 0) aNil) lenO) aNil)) (Tk.nm 3).k (seqS (asgS 4 (frz (lcE (itR1 (aCons (calE (aCons (op2 (varE 0) (varE 3) ixO) aNil) lenO) aNil)) (Tk.nm 6).k (tst (op2 (op2 (op2 (varE 0) (varE 3) ixO) (varE 6) ixO) (cE (.int 0)) neO)) (varE 6) [6])))
  (seqS (ifS (orT (tst (op2 (calE (aCons (varE 4) aNil) lenO) (cE (.int 0)) eqO)) (orT (tst (op2 (op2 (varE 4) (cE (.int 0)) ixO) (op2 (varE 1) (varE 3) ixO) neO)) (orT (tst (op2 (op2 (op2 (varE 0) (varE 3) ixO) (op2 (varE 4) (cE (.int 0)) ixO) ixO) (cE (.int 1)) neO)) (tst (op2 (op2 (varE 4) (cE (.int 0)) ixO) (varE 2) leO))))) (retS (cE (.bl false))) nilS)
  (seqS (asgS 2 (op2 (varE 4) (cE (.int 0)) ixO))
  (forS (itR1 (aCons (calE (aCons (varE 0) aNil) lenO) aNil)) (Tk.nm 5).k (ifS (andT (tst (op2 (varE 5) (varE 3) neO)) (tst (op2 (op2 (op2 (varE 0) (varE 5) ixO) (op2 (varE 4) (cE (.int 0)) ixO) ixO) (cE (.int 0)) neO))) (retS (cE (.bl false))) nilS))))))
  (retS (cE (.bl true))))))
def TD (T : List (List Int)) : Dt := .tup (T.map Wd)
def PD (P : List Nat) : Dt := .tup (P.map fun (c : Nat) => Dt.int (c : Int))
theorem td_ix {T : List (List Int)} {k : Nat} (h : k < T.length) : ixO (TD T) (.int (k : Int)) = some (Wd (tk T k)) := by
  show atI (T.map Wd) (k : Int) = _
  unfold tk
  rw [atI_ofNat, List.getElem?_map, List.getElem?_eq_getElem h, List.getD_eq_getElem?_getD, List.getElem?_eq_getElem h]
  rfl
theorem pd_ix {P : List Nat} {k : Nat} (h : k < P.length) : ixO (PD P) (.int (k : Int)) = some (.int (pk P k : Int)) := by
  show atI (P.map fun (c : Nat) => Dt.int (c : Int)) (k : Int) = _
  unfold pk
  rw [atI_ofNat, List.getElem?_map, List.getElem?_eq_getElem h, List.getD_eq_getElem?_getD, List.getElem?_eq_getElem h]
  rfl
theorem wg_ix {r : List Int} {k : Nat} (h : k < r.length) : ixO (Wd r) (.int (k : Int)) = some (.int (g r k)) := wd_ix h
def ixC (n : Nat) (T : List (List Int)) (P : List Nat) : Prop := n ≤ 1000 ∧ T.length ≤ 1000 ∧ (∀ r ∈ T, r.length = n) ∧ Rr n T P
open Classical in
noncomputable def Fisred (ds : List Dt) : Fo := if ∃ n T P, ixC n T P ∧ ds = [TD T, PD P] then .ok (.bl true) else .no
theorem Fisred_run {n : Nat} {T : List (List Int)} {P : List Nat} (h : ixC n T P) : Fisred [TD T, PD P] = .ok (.bl true) := by
  unfold Fisred
  rw [if_pos ⟨n, T, P, h, rfl⟩]
theorem places_eq {n : Nat} {T : List (List Int)} {P : List Nat} (h : Rr n T P) {k : Nat} (hk : k < P.length) : ∃ rest, (List.range n).filter (fun c => decide (g (tk T k) c ≠ 0)) = pk P k :: rest := by
  have e : ((List.range n).filter (fun c => decide (g (tk T k) c ≠ 0))).head? = some (pk P k) := by
    rw [List.head?_filter, List.find?_range_eq_some]
    refine ⟨by rw [h.one k hk]; decide, List.mem_range.mpr (h.lt k hk), fun j hj => by rw [h.low k hk j hj]; decide⟩
  cases hf : (List.range n).filter (fun c => decide (g (tk T k) c ≠ 0)) with
  | nil => rw [hf] at e; cases e
  | cons a l =>
    rw [hf] at e
    cases e
    exact ⟨l, rfl⟩
def irSt (T : List (List Int)) (P : List Nat) (b : Int) (x3 x4 x5 : Sv) : Ms := { sl := [.im (TD T), .im (PD P), .im (.int b), x3, x4, x5, .no], mo := [] }
theorem len_td (T : List (List Int)) : lenO [TD T] = some (.int (T.length : Int)) := by
  unfold TD
  rw [lenO_tup, List.length_map]
theorem len_pd (P : List Nat) : lenO [PD P] = some (.int (P.length : Int)) := by
  unfold PD
  rw [lenO_tup, List.length_map]
theorem len_wd (w : List Int) : lenO [Wd w] = some (.int (w.length : Int)) := by
  unfold Wd
  rw [lenO_tup, List.length_map]
def irIn : Ms → O := ifS (andT (tst (op2 (varE 5) (varE 3) neO)) (tst (op2 (op2 (op2 (varE 0) (varE 5) ixO) (op2 (varE 4) (cE (.int 0)) ixO) ixO) (cE (.int 0)) neO))) (retS (cE (.bl false))) nilS
def irBody : Ms → O := (seqS (asgS 4 (frz (lcE (itR1 (aCons (calE (aCons (op2 (varE 0) (varE 3) ixO) aNil) lenO) aNil)) (Tk.nm 6).k (tst (op2 (op2 (op2 (varE 0) (varE 3) ixO) (varE 6) ixO) (cE (.int 0)) neO)) (varE 6) [6])))
  (seqS (ifS (orT (tst (op2 (calE (aCons (varE 4) aNil) lenO) (cE (.int 0)) eqO)) (orT (tst (op2 (op2 (varE 4) (cE (.int 0)) ixO) (op2 (varE 1) (varE 3) ixO) neO)) (orT (tst (op2 (op2 (op2 (varE 0) (varE 3) ixO) (op2 (varE 4) (cE (.int 0)) ixO) ixO) (cE (.int 1)) neO)) (tst (op2 (op2 (varE 4) (cE (.int 0)) ixO) (varE 2) leO))))) (retS (cE (.bl false))) nilS)
  (seqS (asgS 2 (op2 (varE 4) (cE (.int 0)) ixO))
  (forS (itR1 (aCons (calE (aCons (varE 0) aNil) lenO) aNil)) (Tk.nm 5).k irIn))))
theorem irBody_run {n : Nat} {T : List (List Int)} {P : List Nat} (h : ixC n T P) {k : Nat} (hk : k < P.length) {b : Int} {x4 x5 : Sv} (hb : b < (pk P k : Int)) :
    ∃ y4 y5, irBody (irSt T P b (.im (.int (k : Int))) x4 x5) = .nx (irSt T P (pk P k : Int) (.im (.int (k : Int))) y4 y5) := by
  obtain ⟨hn, hT, hlen, hR⟩ := h
  have hkT : k < T.length := by have := hR.len; omega
  have hw : (tk T k).length = n := hlen _ (tk_mem hkT)
  obtain ⟨rest, hpl⟩ := places_eq hR hk
  have e1 := td_ix hkT
  have e2 := pd_ix hk
  have hkn := hR.lt k hk
  have e3 : ixO (Wd (tk T k)) (.int ((pk P k : Nat) : Int)) = some (.int 1) := by rw [wg_ix (by omega), hR.one k hk]
  have hlc : lcE (itR1 (aCons (calE (aCons (op2 (varE 0) (varE 3) ixO) aNil) lenO) aNil)) (Tk.nm 6).k (tst (op2 (op2 (op2 (varE 0) (varE 3) ixO) (varE 6) ixO) (cE (.int 0)) neO)) (varE 6) [6] (irSt T P b (.im (.int (k : Int))) x4 x5) = .ok ((pk P k :: rest).map fun (c : Nat) => Dt.int (c : Int)) (irSt T P b (.im (.int (k : Int))) x4 x5) := by
    rw [← hpl]
    refine lcE_flt (fun (c : Nat) => Dt.int (c : Int)) (fun c => decide (g (tk T k) c ≠ 0)) (fun (c : Nat) => Dt.int (c : Int)) (List.range n) (itR1_run (by simp [irSt, e1, len_wd, hw]) (by omega)) (fun c hc => ?_) (by simp; omega)
    have hc' := List.mem_range.mp hc
    have e4 := wg_ix (r := tk T k) (k := c) (by omega)
    refine ⟨_, irSt T P b (.im (.int (k : Int))) x4 x5 |> fun S => { S with sl := S.sl.set 6 (.im (.int (c : Int))) }, kNm _ _ _, ?_, rfl, fun _ => ⟨irSt T P b (.im (.int (k : Int))) x4 x5 |> fun S => { S with sl := S.sl.set 6 (.im (.int (c : Int))) }, ?_, rfl⟩⟩
    · simp [irSt, wipeL, e1, e4]
    · simp [irSt]
  have a0 : atI ((Dt.int ((pk P k : Nat) : Int)) :: rest.map fun (c : Nat) => Dt.int (c : Int)) 0 = some (.int ((pk P k : Nat) : Int)) := atI_ofNat (_ :: _) 0
  have hS : ({ sl := (irSt T P b (.im (.int (k : Int))) x4 x5).sl.set 4 (.im (.lst ((pk P k :: rest).map fun (c : Nat) => Dt.int (c : Int)))), mo := (irSt T P b (.im (.int (k : Int))) x4 x5).mo } : Ms) = irSt T P b (.im (.int (k : Int))) (.im (.lst ((pk P k :: rest).map fun (c : Nat) => Dt.int (c : Int)))) x5 := rfl
  have hloop : ∃ y5, forS (itR1 (aCons (calE (aCons (varE 0) aNil) lenO) aNil)) (Tk.nm 5).k irIn (irSt T P (pk P k : Int) (.im (.int (k : Int))) (.im (.lst ((pk P k :: rest).map fun (c : Nat) => Dt.int (c : Int)))) x5) = .nx (irSt T P (pk P k : Int) (.im (.int (k : Int))) (.im (.lst ((pk P k :: rest).map fun (c : Nat) => Dt.int (c : Int)))) y5) := by
    have hit : itR1 (aCons (calE (aCons (varE 0) aNil) lenO) aNil) (irSt T P (pk P k : Int) (.im (.int (k : Int))) (.im (.lst ((pk P k :: rest).map fun (c : Nat) => Dt.int (c : Int)))) x5) = .ok ((List.range T.length).map fun (i : Nat) => Dt.int (i : Int)) (irSt T P (pk P k : Int) (.im (.int (k : Int))) (.im (.lst ((pk P k :: rest).map fun (c : Nat) => Dt.int (c : Int)))) x5) := itR1_run (by simp [irSt, len_td]) (by omega)
    obtain ⟨S', f1, y5, f2⟩ := forL_fold (k := (Tk.nm 5).k) (body := irIn) (fun (i : Nat) => Dt.int (i : Int)) (fun _ (_ : Unit) S => ∃ y5, S = irSt T P (pk P k : Int) (.im (.int (k : Int))) (.im (.lst ((pk P k :: rest).map fun (c : Nat) => Dt.int (c : Int)))) y5) (fun _ _ => ()) (List.range T.length) 0 () _ ⟨x5, rfl⟩ (fun i _ j S hj _ hI => by
      obtain ⟨y5, rfl⟩ := hI
      have hj' := List.mem_range.mp hj
      refine ⟨_, irSt T P (pk P k : Int) (.im (.int (k : Int))) (.im (.lst ((pk P k :: rest).map fun (c : Nat) => Dt.int (c : Int)))) (.im (.int (j : Int))), kNm _ _ _, .inl ?_, _, rfl⟩
      have e5 := td_ix hj'
      have hwj : (tk T j).length = n := hlen _ (tk_mem hj')
      have e6 := wg_ix (r := tk T j) (k := pk P k) (by omega)
      by_cases hjk : j = k
      · subst hjk
        simp [irIn, irSt]
      · have e7 : ¬ ((j : Int) = (k : Int)) := by omega
        rw [hR.zro j k (by have := hR.len; omega) hk hjk] at e6
        simp [irIn, irSt, e5, e6, e7, a0])
    exact ⟨y5, by rw [forS_run, hit, R.stmt_ok, f1, f2]⟩
  obtain ⟨y5, hloop⟩ := hloop
  refine ⟨.im (.lst ((pk P k :: rest).map fun (c : Nat) => Dt.int (c : Int))), y5, ?_⟩
  unfold irBody
  rw [seqS_run, asgS_run', frz_run', hlc, R.bind_ok, R.stmt_ok, seq_nx, hS, seqS_run]
  have hnle : ¬ ((pk P k : Nat) : Int) ≤ b := by omega
  have hl0 : ¬ ((rest.length : Int) + 1 = 0) := by omega
  have hif : (ifS (orT (tst (op2 (calE (aCons (varE 4) aNil) lenO) (cE (.int 0)) eqO)) (orT (tst (op2 (op2 (varE 4) (cE (.int 0)) ixO) (op2 (varE 1) (varE 3) ixO) neO)) (orT (tst (op2 (op2 (op2 (varE 0) (varE 3) ixO) (op2 (varE 4) (cE (.int 0)) ixO) ixO) (cE (.int 1)) neO)) (tst (op2 (op2 (varE 4) (cE (.int 0)) ixO) (varE 2) leO))))) (retS (cE (.bl false))) nilS) (irSt T P b (.im (.int (k : Int))) (.im (.lst ((pk P k :: rest).map fun (c : Nat) => Dt.int (c : Int)))) x5) = .nx (irSt T P b (.im (.int (k : Int))) (.im (.lst ((pk P k :: rest).map fun (c : Nat) => Dt.int (c : Int)))) x5) := by
    simp [irSt, a0, e1, e2, e3, hnle, hl0]
  rw [hif, seq_nx, seqS_run]
  have has : asgS 2 (op2 (varE 4) (cE (.int 0)) ixO) (irSt T P b (.im (.int (k : Int))) (.im (.lst ((pk P k :: rest).map fun (c : Nat) => Dt.int (c : Int)))) x5) = .nx (irSt T P (pk P k : Int) (.im (.int (k : Int))) (.im (.lst ((pk P k :: rest).map fun (c : Nat) => Dt.int (c : Int)))) x5) := by
    simp [irSt, a0]
  rw [has, seq_nx, hloop]
theorem run__law_is_reduced (ds : List Dt) (h : Fisred ds ≠ .no) : runD 7 m__law_is_reduced ds = Fisred ds := by
  unfold Fisred at h
  split at h
  · rename_i hc
    obtain ⟨n, T, P, hx, rfl⟩ := hc
    rw [Fisred_run hx]
    have hx' := hx
    obtain ⟨hn, hT, hlen, hR⟩ := hx
    have hl := hR.len
    have hm : m__law_is_reduced = seqS (asgS 2 (op1 (cE (.int 1)) negO)) (seqS (ifS (tst (op2 (calE (aCons (varE 0) aNil) lenO) (calE (aCons (varE 1) aNil) lenO) neO)) (retS (cE (.bl false))) nilS) (seqS (forS (itR1 (aCons (calE (aCons (varE 0) aNil) lenO) aNil)) (Tk.nm 3).k irBody) (retS (cE (.bl true))))) := rfl
    have hst : st0 7 [TD T, PD P] = { sl := [.im (TD T), .im (PD P), .no, .no, .no, .no, .no], mo := [] } := rfl
    have h1 : asgS 2 (op1 (cE (.int 1)) negO) { sl := [.im (TD T), .im (PD P), .no, .no, .no, .no, .no], mo := [] } = .nx (irSt T P (-1) .no .no .no) := by simp [irSt]
    have h2 : ifS (tst (op2 (calE (aCons (varE 0) aNil) lenO) (calE (aCons (varE 1) aNil) lenO) neO)) (retS (cE (.bl false))) nilS (irSt T P (-1) .no .no .no) = .nx (irSt T P (-1) .no .no .no) := by simp [irSt, len_td, len_pd, hl]
    have hit : itR1 (aCons (calE (aCons (varE 0) aNil) lenO) aNil) (irSt T P (-1) .no .no .no) = .ok ((List.range P.length).map fun (i : Nat) => Dt.int (i : Int)) (irSt T P (-1) .no .no .no) := itR1_run (by simp [irSt, len_td, hl]) (by omega)
    obtain ⟨S', f1, b, x3, x4, x5, f2, f3⟩ := forL_inv (k := (Tk.nm 3).k) (body := irBody) ((List.range P.length).map fun (i : Nat) => Dt.int (i : Int)) (fun i S => ∃ b x3 x4 x5, S = irSt T P b x3 x4 x5 ∧ ∀ k, i ≤ k → k < P.length → b < (pk P k : Int)) (irSt T P (-1) .no .no .no) ⟨-1, .no, .no, .no, rfl, fun k _ _ => by omega⟩ (fun i d S hi hI => by
      obtain ⟨b, x3, x4, x5, rfl, hb⟩ := hI
      rw [List.getElem?_map] at hi
      have hin : i < P.length := by
        rcases Nat.lt_or_ge i P.length with h | h
        · exact h
        · rw [List.getElem?_eq_none (by simpa using h)] at hi
          cases hi
      rw [List.getElem?_range hin] at hi
      cases hi
      obtain ⟨y4, y5, r1⟩ := irBody_run hx' hin (x4 := x4) (x5 := x5) (hb i (Nat.le_refl _) hin)
      exact ⟨_, _, kNm _ _ _, .inl r1, _, _, y4, y5, rfl, fun k h1 h2 => by
        have := hR.asc i k (by omega) h2
        omega⟩)
    unfold runD
    rw [hst, hm, seqS_run, h1, seq_nx, seqS_run, h2, seq_nx, seqS_run, forS_run, hit, R.stmt_ok, f1, seq_nx, f2]
    rfl
  · exact absurd rfl h
end Lq

namespace Lq
open PySem PySem.Spec PyProof.Rows L2
/-! ### the law -/
noncomputable def m_law : Ms → O := (seqS (asgS 2 (funM 0 1 aNil Fprime))
  (seqS (asgS 3 (funM 1 1 (aCons (op2 (cE (.int 6)) (calE (aCons (op2 (varE 2) (cE (.int 3)) gtO) aNil) intO) subO) aNil) Ftake))
  (seqS (asgS 4 (funM 3 1 (aCons (varE 3) (aCons (varE 2) (aCons (op2 (cE (.int 4)) (calE (aCons (op2 (varE 2) (cE (.int 3)) gtO) aNil) intO) subO) aNil))) Frows))
  (seqS (asgS 5 (funE 3 (aCons (varE 4) (aCons (varE 3) (aCons (varE 2) aNil))) Freduced))
  (seqS (ifS (orT (notT (truT (op1 (varE 5) (isiO "tuple")))) (orT (tst (op2 (calE (aCons (varE 5) aNil) lenO) (cE (.int 2)) neO)) (orT (notT (truT (op1 (op2 (varE 5) (cE (.int 0)) ixO) (isiO "tuple")))) (notT (truT (op1 (op2 (varE 5) (cE (.int 1)) ixO) (isiO "tuple"))))))) (retS (cE (.bl false))) nilS)
  (seqS (ifS (notT (truT (funE 2 (aCons (op2 (varE 5) (cE (.int 0)) ixO) (aCons (op2 (varE 5) (cE (.int 1)) ixO) aNil)) Fisred))) (retS (cE (.bl false))) nilS)
  (seqS (asgS 6 (funE 3 (aCons (varE 4) (aCons (varE 3) (aCons (varE 2) aNil))) Fspan))
  (seqS (ifS (orT (tst (op2 (funE 3 (aCons (op2 (varE 5) (cE (.int 0)) ixO) (aCons (varE 3) (aCons (varE 2) aNil))) Fspan) (varE 6) neO)) (tst (op2 (calE (aCons (varE 6) aNil) lenO) (funE 2 (aCons (varE 2) (aCons (calE (aCons (op2 (varE 5) (cE (.int 0)) ixO) aNil) lenO) aNil)) Fpower) neO))) (retS (cE (.bl false))) nilS)
  (seqS (asgS 7 (funE 3 (aCons (op1 (op2 (varE 5) (cE (.int 0)) ixO) revO) (aCons (varE 3) (aCons (varE 2) aNil))) Freduced))
  (retS (andV (op2 (varE 7) (varE 5) eqO) (op2 (funE 3 (aCons (calE (aCons (varE 4) aNil) tupO) (aCons (varE 3) (aCons (varE 2) aNil))) Freduced) (varE 5) eqO))))))))))))
theorem rd_ix0 (s : Red) : ixO (redD s) (.int 0) = some (TD s.T) := atI0 _ _
theorem rd_ix1 (s : Red) : ixO (redD s) (.int 1) = some (PD s.P) := atI1 _ _
theorem isi_tup (xs : List Dt) : isiO "tuple" (.tup xs) = some (.bl true) := by
  unfold isiO tyN
  rfl
theorem isi_rd (s : Red) : isiO "tuple" (redD s) = some (.bl true) := isi_tup _
theorem isi_td (T : List (List Int)) : isiO "tuple" (TD T) = some (.bl true) := isi_tup _
theorem isi_pd (P : List Nat) : isiO "tuple" (PD P) = some (.bl true) := isi_tup _
theorem len_rd (s : Red) : lenO [redD s] = some (.int 2) := rfl
theorem rev_td (T : List (List Int)) : revO (TD T) = some (TD T.reverse) := by
  unfold TD
  rw [revO_tup, List.map_reverse]
theorem rd_en (s : Red) : redD s = En.en ((s.T, s.P.map fun (c : Nat) => (c : Int)) : List (List Int) × List Int) := by
  show _ = Dt.tup [.tup (s.T.map _), .tup ((s.P.map fun (c : Nat) => (c : Int)).map _)]
  rw [List.map_map]
  rfl
theorem rdd_eq (s : Red) : eqO (redD s) (redD s) = some (.bl true) := by
  rw [rd_en, eqO_en, decide_eq_true rfl]
theorem ws_ne (ws : List (List Int)) : neO (.lst (ws.map Wd)) (.lst (ws.map Wd)) = some (.bl false) := by
  have : Dt.lst (ws.map Wd) = En.en (Ls.mk ws) := rfl
  rw [this, neO_en, decide_eq_true rfl]
  rfl
def lwS (q : Int × Int) (a2 a3 a4 a5 a6 a7 : Sv) : Ms := { sl := [.no, .mu 0, a2, a3, a4, a5, a6, a7], mo := [.ob (.ls (stD q))] }
theorem tru_bl (b : Bool) : truO (.bl b) = some b := rfl
theorem run_law (q : Int × Int) : ∃ S', m_law (lwS q .no .no .no .no .no .no) = .rt (.bl true) S' := by
  have e1 : asgS 2 (funM 0 1 aNil Fprime) (lwS q .no .no .no .no .no .no) = .nx (lwS (takeF 6 q).2 (.im (.int (primeF q))) .no .no .no .no .no) := by
    have : Fprime (stD q) [] = .ok (.int (primeF q)) (stD (takeF 6 q).2) := rfl
    simp [lwS, funM, muAt, this]
  have hp := primeF_mem q
  generalize primeF q = p at *
  generalize (takeF 6 q).2 = q1 at *
  have hP : isP p = true := decide_eq_true hp
  have hP' := isP_okP hP
  -- n
  have e2 : ∃ n : Nat, n ≤ 5 ∧ ∃ q2, asgS 3 (funM 1 1 (aCons (op2 (cE (.int 6)) (calE (aCons (op2 (varE 2) (cE (.int 3)) gtO) aNil) intO) subO) aNil) Ftake) (lwS q1 (.im (.int p)) .no .no .no .no .no) = .nx (lwS q2 (.im (.int p)) (.im (.int (n : Int))) .no .no .no .no) := by
    have hb : 5 ≤ 6 - (if 3 < p then (1 : Int) else 0) ∧ 6 - (if 3 < p then (1 : Int) else 0) ≤ 6 := by split <;> omega
    have hm := Ftake_run (m := 6 - (if 3 < p then (1 : Int) else 0)) q1 (by omega)
    obtain ⟨r1, r2⟩ := takeF_range (m := 6 - (if 3 < p then (1 : Int) else 0)) (by omega) q1
    refine ⟨(takeF (6 - (if 3 < p then (1 : Int) else 0)) q1).1.toNat, by omega, (takeF (6 - (if 3 < p then (1 : Int) else 0)) q1).2, ?_⟩
    rw [Int.toNat_of_nonneg r1]
    simp [lwS, funM, muAt, hm]
  obtain ⟨n, hn, q2, e2⟩ := e2
  -- rows
  have e3 : ∃ rows : List (List Int), rows.length ≤ 4 ∧ okR p n rows ∧ ∃ q3, asgS 4 (funM 3 1 (aCons (varE 3) (aCons (varE 2) (aCons (op2 (cE (.int 4)) (calE (aCons (op2 (varE 2) (cE (.int 3)) gtO) aNil) intO) subO) aNil))) Frows) (lwS q2 (.im (.int p)) (.im (.int (n : Int))) .no .no .no .no) = .nx (lwS q3 (.im (.int p)) (.im (.int (n : Int))) (.im (.lst (rows.map Wd))) .no .no .no) := by
    have hb : 3 ≤ 4 - (if 3 < p then (1 : Int) else 0) ∧ 4 - (if 3 < p then (1 : Int) else 0) ≤ 4 := by split <;> omega
    have hm := Frows_run (n := n) (p := p) (most := 4 - (if 3 < p then (1 : Int) else 0)) q2 (by omega) (by omega) (by omega)
    obtain ⟨r1, r2⟩ := takeF_range (m := 4 - (if 3 < p then (1 : Int) else 0) + 1) (by omega) q2
    refine ⟨(rowsF p n (4 - (if 3 < p then (1 : Int) else 0)) q2).1, ?_, fun r hr => ?_, (rowsF p n (4 - (if 3 < p then (1 : Int) else 0)) q2).2, ?_⟩
    · unfold rowsF
      rw [rowsN_len]
      omega
    · obtain ⟨h1, h2⟩ := rowsN_mem (p := p) (by omega) n _ _ r hr
      exact ⟨okW_iff.mpr ⟨by omega, h2⟩, h1⟩
    · simp [lwS, funM, muAt, hm]
  obtain ⟨rows, hrl, hok, q3, e3⟩ := e3
  have hn1 : n ≤ 1000 := by omega
  have seqrows : seqOf (.lst (rows.map Wd)) = some (rows.map Wd) := rfl
  have f1 := Freduced_run (n := n) (rows := rows) seqrows hP hn1 (by omega) hok
  have hI := RI_N hP hn1 hok n (Nat.le_refl _)
  have hTP := redN_ok hP' hok n
  have hlen := redN_lens (p := p) (rows := rows) n
  have hspan := red_span hP hn1 hok
  have hcard := red_card hP hn1 hok
  have hag := red_again (L := (redN p rows n).T.reverse) hP hn1 hTP.1 hI.rr (fun r => List.mem_reverse)
  have f4 := Freduced_run (n := n) (rows := (redN p rows n).T.reverse) (d := TD (redN p rows n).T.reverse) rfl hP hn1 (by rw [List.length_reverse]; omega) (fun x hx => hTP.1 x (List.mem_reverse.mp hx))
  have f5 := Freduced_run (n := n) (rows := rows) (d := .tup (rows.map Wd)) rfl hP hn1 (by omega) hok
  have hs : redD (redN p (redN p rows n).T.reverse n) = redD (redN p rows n) := by
    unfold redD
    rw [hag.1, hag.2]
  rw [hs] at f4
  have pw : ∀ k, k ≤ 5 → p.toNat ^ k ≤ 100000 := fun k hk => Nat.le_trans (Nat.pow_le_pow_left (show p.toNat ≤ 7 by omega) k) (Nat.le_trans (Nat.pow_le_pow_right (by decide) hk) (by decide))
  have f2 := Fspan_run (n := n) (rows := rows) seqrows hP' hn1 (pw _ (by omega)) hok
  have f3 := Fspan_run (n := n) (rows := (redN p rows n).T) (d := TD (redN p rows n).T) rfl hP' hn1 (pw _ (by omega)) hTP.1
  rw [hspan] at f3
  have f6 := Fisred_run (n := n) (T := (redN p rows n).T) (P := (redN p rows n).P) ⟨hn1, by omega, fun r hr => (hTP.1 r hr).2, hI.rr⟩
  have f7 : Fpower [.int p, .int ((redN p rows n).T.length : Int)] = .ok (.int ((sortW (spanL p n rows)).length : Int)) := by
    unfold Fpower
    dsimp only
    rw [if_pos ⟨by omega, by omega, by omega⟩, Int.toNat_natCast, hcard]
    congr 2
    obtain ⟨k, hk⟩ : ∃ k : Nat, p = (k : Int) := ⟨p.toNat, by omega⟩
    rw [hk, Int.toNat_natCast]
    exact (Int.natCast_pow _ _).symm
  generalize sortW (spanL p n rows) = ws at *
  generalize redN p rows n = s at *
  have e4 : asgS 5 (funE 3 (aCons (varE 4) (aCons (varE 3) (aCons (varE 2) aNil))) Freduced) (lwS q3 (.im (.int p)) (.im (.int (n : Int))) (.im (.lst (rows.map Wd))) .no .no .no) = .nx (lwS q3 (.im (.int p)) (.im (.int (n : Int))) (.im (.lst (rows.map Wd))) (.im (redD s)) .no .no) := by
    simp [lwS, f1]
  have e5 : ifS (orT (notT (truT (op1 (varE 5) (isiO "tuple")))) (orT (tst (op2 (calE (aCons (varE 5) aNil) lenO) (cE (.int 2)) neO)) (orT (notT (truT (op1 (op2 (varE 5) (cE (.int 0)) ixO) (isiO "tuple")))) (notT (truT (op1 (op2 (varE 5) (cE (.int 1)) ixO) (isiO "tuple"))))))) (retS (cE (.bl false))) nilS (lwS q3 (.im (.int p)) (.im (.int (n : Int))) (.im (.lst (rows.map Wd))) (.im (redD s)) .no .no) = .nx (lwS q3 (.im (.int p)) (.im (.int (n : Int))) (.im (.lst (rows.map Wd))) (.im (redD s)) .no .no) := by
    simp [lwS, isi_rd, len_rd, rd_ix0, rd_ix1, isi_td, isi_pd, tru_bl]
  have e6 : ifS (notT (truT (funE 2 (aCons (op2 (varE 5) (cE (.int 0)) ixO) (aCons (op2 (varE 5) (cE (.int 1)) ixO) aNil)) Fisred))) (retS (cE (.bl false))) nilS (lwS q3 (.im (.int p)) (.im (.int (n : Int))) (.im (.lst (rows.map Wd))) (.im (redD s)) .no .no) = .nx (lwS q3 (.im (.int p)) (.im (.int (n : Int))) (.im (.lst (rows.map Wd))) (.im (redD s)) .no .no) := by
    simp [lwS, rd_ix0, rd_ix1, f6, tru_bl]
  have e7 : asgS 6 (funE 3 (aCons (varE 4) (aCons (varE 3) (aCons (varE 2) aNil))) Fspan) (lwS q3 (.im (.int p)) (.im (.int (n : Int))) (.im (.lst (rows.map Wd))) (.im (redD s)) .no .no) = .nx (lwS q3 (.im (.int p)) (.im (.int (n : Int))) (.im (.lst (rows.map Wd))) (.im (redD s)) (.im (.lst (ws.map Wd))) .no) := by
    simp [lwS, f2]
  have hw : lenO [.lst (ws.map Wd)] = some (.int (ws.length : Int)) := by rw [lenO_lst, List.length_map]
  have e8 : ifS (orT (tst (op2 (funE 3 (aCons (op2 (varE 5) (cE (.int 0)) ixO) (aCons (varE 3) (aCons (varE 2) aNil))) Fspan) (varE 6) neO)) (tst (op2 (calE (aCons (varE 6) aNil) lenO) (funE 2 (aCons (varE 2) (aCons (calE (aCons (op2 (varE 5) (cE (.int 0)) ixO) aNil) lenO) aNil)) Fpower) neO))) (retS (cE (.bl false))) nilS (lwS q3 (.im (.int p)) (.im (.int (n : Int))) (.im (.lst (rows.map Wd))) (.im (redD s)) (.im (.lst (ws.map Wd))) .no) = .nx (lwS q3 (.im (.int p)) (.im (.int (n : Int))) (.im (.lst (rows.map Wd))) (.im (redD s)) (.im (.lst (ws.map Wd))) .no) := by
    simp only [lwS, ifS_run, orT_run, tst_run', op2_run, funE_run, aCons_run, aNil_run, calE_run, cE_run]
    simp [rd_ix0, f3, ws_ne, len_td, f7]
  have e9 : asgS 7 (funE 3 (aCons (op1 (op2 (varE 5) (cE (.int 0)) ixO) revO) (aCons (varE 3) (aCons (varE 2) aNil))) Freduced) (lwS q3 (.im (.int p)) (.im (.int (n : Int))) (.im (.lst (rows.map Wd))) (.im (redD s)) (.im (.lst (ws.map Wd))) .no) = .nx (lwS q3 (.im (.int p)) (.im (.int (n : Int))) (.im (.lst (rows.map Wd))) (.im (redD s)) (.im (.lst (ws.map Wd))) (.im (redD s))) := by
    simp [lwS, rd_ix0, rev_td, f4]
  have e10 : retS (andV (op2 (varE 7) (varE 5) eqO) (op2 (funE 3 (aCons (calE (aCons (varE 4) aNil) tupO) (aCons (varE 3) (aCons (varE 2) aNil))) Freduced) (varE 5) eqO)) (lwS q3 (.im (.int p)) (.im (.int (n : Int))) (.im (.lst (rows.map Wd))) (.im (redD s)) (.im (.lst (ws.map Wd))) (.im (redD s))) = .rt (.bl true) (lwS q3 (.im (.int p)) (.im (.int (n : Int))) (.im (.lst (rows.map Wd))) (.im (redD s)) (.im (.lst (ws.map Wd))) (.im (redD s))) := by
    simp [lwS, rdd_eq, f5]
  refine ⟨lwS q3 (.im (.int p)) (.im (.int (n : Int))) (.im (.lst (rows.map Wd))) (.im (redD s)) (.im (.lst (ws.map Wd))) (.im (redD s)), ?_⟩
  unfold m_law
  rw [seqS_run, e1, seq_nx, seqS_run, e2, seq_nx, seqS_run, e3, seq_nx, seqS_run, e4, seq_nx, seqS_run, e5, seq_nx, seqS_run, e6, seq_nx, seqS_run, e7, seq_nx, seqS_run, e8, seq_nx, seqS_run, e9, seq_nx, e10]
end Lq

namespace Lq
open PySem PySem.Spec PyProof.Rows L2
/-! ### whole numbers, words -/
def m_is_integer : Ms → O := (retS (andV (op1 (varE 0) (isiO "int")) (op1 (op1 (varE 0) (isiO "bool")) notO)))
def noObj : Dt → Bool | .obj _ _ _ => false | .scr _ _ => false | _ => true
def isI : Dt → Bool | .int _ => true | _ => false
def Fisint : List Dt → Fo | [d] => if noObj d = true then .ok (.bl (isI d)) else .no | _ => .no
theorem ii_non : isiO "int" .non = some (.bl false) := by unfold isiO tyN; rfl
theorem ii_bl (b : Bool) : isiO "int" (.bl b) = some (.bl true) := by unfold isiO tyN; rfl
theorem ii_int (i : Int) : isiO "int" (.int i) = some (.bl true) := by unfold isiO tyN; rfl
theorem ii_str (x : Str) : isiO "int" (.str x) = some (.bl false) := by unfold isiO tyN; rfl
theorem ii_lst (x : List Dt) : isiO "int" (.lst x) = some (.bl false) := by unfold isiO tyN; rfl
theorem ii_tup (x : List Dt) : isiO "int" (.tup x) = some (.bl false) := by unfold isiO tyN; rfl
theorem ib_bl (b : Bool) : isiO "bool" (.bl b) = some (.bl true) := by unfold isiO tyN; rfl
theorem ib_int (i : Int) : isiO "bool" (.int i) = some (.bl false) := by unfold isiO tyN; rfl
theorem it_non : isiO "tuple" .non = some (.bl false) := by unfold isiO tyN; rfl
theorem it_bl (b : Bool) : isiO "tuple" (.bl b) = some (.bl false) := by unfold isiO tyN; rfl
theorem it_int (i : Int) : isiO "tuple" (.int i) = some (.bl false) := by unfold isiO tyN; rfl
theorem it_str (x : Str) : isiO "tuple" (.str x) = some (.bl false) := by unfold isiO tyN; rfl
theorem it_lst (x : List Dt) : isiO "tuple" (.lst x) = some (.bl false) := by unfold isiO tyN; rfl
theorem notO_bl (b : Bool) : notO (.bl b) = some (.bl (!b)) := rfl
theorem run_is_integer (ds : List Dt) (h : Fisint ds ≠ .no) : runD 1 m_is_integer ds = Fisint ds := by
  unfold Fisint at h
  split at h
  · rename_i d
    have hst : st0 1 [d] = { sl := [.im d], mo := [] } := rfl
    unfold runD m_is_integer
    rw [hst]
    cases d with
    | obj => exact absurd rfl h
    | scr => exact absurd rfl h
    | non => simp [ii_non, Fisint, noObj, isI]; rfl
    | bl b => simp [ii_bl, ib_bl, notO_bl, Fisint, noObj, isI]; rfl
    | int i => simp [ii_int, ib_int, notO_bl, Fisint, noObj, isI]; rfl
    | str x => simp [ii_str, Fisint, noObj, isI]; rfl
    | lst x => simp [ii_lst, Fisint, noObj, isI]; rfl
    | tup x => simp [ii_tup, Fisint, noObj, isI]; rfl
  · exact absurd rfl h
def m_is_word : Ms → O := (seqS (ifS (orT (notT (truT (op1 (varE 0) (isiO "tuple")))) (tst (op2 (calE (aCons (varE 0) aNil) lenO) (varE 2) neO))) (retS (cE (.bl false))) nilS)
  (retS (calE (aCons (frz (lcE (itS (varE 0)) (Tk.nm 3).k yesT (andV (funE 1 (aCons (varE 3) aNil) Fisint) (chT (cE (.int 0)) (varE 3) (varE 1) leO ltO)) [3])) aNil) allO)))
def itB (p : Int) : Dt → Bool | .int i => decide (0 ≤ i) && decide (i < p) | _ => false
def wordB (p n : Int) : Dt → Bool | .tup xs => decide ((xs.length : Int) = n) && xs.all (itB p) | _ => false
def okV : Dt → Bool | .obj _ _ _ => false | .scr _ _ => false | .tup xs => decide (xs.length ≤ 1000) && xs.all noObj | _ => true
def Fisword : List Dt → Fo | [d, .int p, .int n] => if okV d = true then .ok (.bl (wordB p n d)) else .no | _ => .no
theorem Fisint_run {d : Dt} (h : noObj d = true) : Fisint [d] = .ok (.bl (isI d)) := by unfold Fisint; dsimp only; rw [if_pos h]
theorem chT_run (f g h : Ms → R Dt) (o o' : Dt → Dt → Option Dt) (S : Ms) : chT f g h o o' S = (f S).bind fun d S1 => (g S1).bind fun e S2 => (R.of (o d e) S2).bind fun k S3 => match k with
  | .bl true => (h S3).bind fun z S4 => R.of (o' e z) S4
  | .bl false => .ok (.bl false) S3
  | _ => .no := rfl
theorem run_is_word (ds : List Dt) (h : Fisword ds ≠ .no) : runD 4 m_is_word ds = Fisword ds := by
  unfold Fisword at h
  split at h
  · rename_i d p n
    have hst : st0 4 [d, .int p, .int n] = { sl := [.im d, .im (.int p), .im (.int n), .no], mo := [] } := rfl
    cases hv : okV d with
    | false => rw [hv] at h; exact absurd rfl h
    | true =>
    have e : Fisword [d, .int p, .int n] = .ok (.bl (wordB p n d)) := by unfold Fisword; dsimp only; rw [if_pos hv]
    rw [e]
    unfold runD m_is_word
    rw [hst]
    cases d with
    | obj => cases hv
    | scr => cases hv
    | non => simp [it_non, tru_bl, wordB]; rfl
    | bl b => simp [it_bl, tru_bl, wordB]; rfl
    | int i => simp [it_int, tru_bl, wordB]; rfl
    | str x => simp [it_str, tru_bl, wordB]; rfl
    | lst x => simp [it_lst, tru_bl, wordB]; rfl
    | tup xs =>
      unfold okV at hv
      simp only [Bool.and_eq_true, decide_eq_true_eq, List.all_eq_true] at hv
      obtain ⟨hl, hno⟩ := hv
      by_cases hn : (xs.length : Int) = n
      · have key : lcE (itS (varE 0)) (Tk.nm 3).k yesT (andV (funE 1 (aCons (varE 3) aNil) Fisint) (chT (cE (.int 0)) (varE 3) (varE 1) leO ltO)) [3] { sl := [.im (.tup xs), .im (.int p), .im (.int n), .no], mo := [] } = .ok (xs.map fun x => Dt.bl (itB p x)) { sl := [.im (.tup xs), .im (.int p), .im (.int n), .no], mo := [] } := by
          have := lcE_map (it := itS (varE 0)) (k := (Tk.nm 3).k) (e := andV (funE 1 (aCons (varE 3) aNil) Fisint) (chT (cE (.int 0)) (varE 3) (varE 1) leO ltO)) (own := [3]) (S := { sl := [.im (.tup xs), .im (.int p), .im (.int n), .no], mo := [] }) (S1 := { sl := [.im (.tup xs), .im (.int p), .im (.int n), .no], mo := [] }) id (fun x => Dt.bl (itB p x)) xs (by simp) (fun x hx => by
            have hi := Fisint_run (hno x hx)
            refine ⟨_, kNm _ _ _, { sl := [.im (.tup xs), .im (.int p), .im (.int n), .im x], mo := [] }, ?_, rfl⟩
            cases x with
            | int i =>
              by_cases h0 : 0 ≤ i
              · simp [wipeL, hi, isI, itB, chT_run, h0]
              · simp [wipeL, hi, isI, itB, chT_run, h0]
            | _ => simp [wipeL, hi, isI, itB]) (fun d T T' => Tk.mo) (by omega)
          exact this
        have e2 : (xs.map fun x => Dt.bl (itB p x)) = (xs.map (itB p)).map Dt.bl := by rw [List.map_map]; rfl
        rw [e2] at key
        have hif : ifS (orT (notT (truT (op1 (varE 0) (isiO "tuple")))) (tst (op2 (calE (aCons (varE 0) aNil) lenO) (varE 2) neO))) (retS (cE (.bl false))) nilS { sl := [.im (.tup xs), .im (.int p), .im (.int n), .no], mo := [] } = .nx { sl := [.im (.tup xs), .im (.int p), .im (.int n), .no], mo := [] } := by
          simp [isi_tup, tru_bl, hn]
        rw [seqS_run, hif, seq_nx, retS_run, calE_run, aCons_run, frz_run', key, R.bind_ok, R.bind_ok, aNil_run, R.bind_ok, R.bind_ok, allO_run, R.of_some, R.stmt_ok]
        show Fo.ok _ = _
        congr 2
        unfold wordB
        dsimp only
        rw [decide_eq_true hn, Bool.true_and, List.all_map]
        rfl
      · simp [isi_tup, tru_bl, hn, wordB]
        rfl
  · exact absurd rfl h
/-! ### products -/
def m_dot : Ms → O := (retS (op2 (calE (aCons (frz (lcE (itZ (aCons (varE 0) (aCons (varE 1) aNil))) (Tk.tp [3, 4]).k yesT (op2 (varE 3) (varE 4) mulO) [3, 4])) aNil) sumO) (varE 2) modO))
def m__law_dot : Ms → O := (retS (op2 (calE (aCons (calE (aCons (frz (lcE (itR1 (aCons (calE (aCons (varE 0) aNil) lenO) aNil)) (Tk.nm 3).k yesT (op2 (op2 (varE 0) (varE 3) ixO) (op2 (varE 1) (varE 3) ixO) mulO) [3])) aNil) sumO) aNil) intO) (varE 2) modO))
def sm (v w : List Int) : Int := (List.zipWith (fun a b => a * b) v w).sum
def Fdot : List Dt → Fo
  | [d, e, .int p] => match wordOf d, wordOf e with
    | some v, some w => if (okP p && okW p v && okW p w && decide (v.length = w.length)) = true then .ok (.int (sm v w % p)) else .no
    | _, _ => .no
  | _ => .no
theorem Fdot_run {p : Int} {v w : List Int} (hp : okP p = true) (hv : okW p v = true) (hw : okW p w = true) (e : v.length = w.length) : Fdot [Wd v, Wd w, .int p] = .ok (.int (sm v w % p)) := by
  unfold Fdot
  simp only [wordOf_Wd]
  rw [if_pos (by simp [hp, hv, hw, e])]
theorem Fdot_inv {ds : List Dt} (h : Fdot ds ≠ .no) : ∃ v w p, ds = [Wd v, Wd w, .int p] ∧ okP p = true ∧ okW p v = true ∧ okW p w = true ∧ v.length = w.length := by
  unfold Fdot at h
  split at h
  · rename_i d e p
    split at h
    · rename_i v w h1 h2
      split at h
      · rename_i hc
        have := wordOf_eq h1
        have := wordOf_eq h2
        subst_vars
        simp only [Bool.and_eq_true, decide_eq_true_eq] at hc
        exact ⟨v, w, p, rfl, hc.1.1.1, hc.1.1.2, hc.1.2, hc.2⟩
      · exact absurd rfl h
    · exact absurd rfl h
  · exact absurd rfl h
theorem sumO_ints (ns : List Int) : sumO [.lst (ns.map Dt.int)] = some (.int ns.sum) := by unfold sumO; dsimp only; rw [intsOf_map]; rfl
theorem run_dot (ds : List Dt) (h : Fdot ds ≠ .no) : runD 5 m_dot ds = Fdot ds := by
  obtain ⟨v, w, p, rfl, hp, hv, hw, hl⟩ := Fdot_inv h
  rw [Fdot_run hp hv hw hl]
  obtain ⟨hp1, hp2⟩ := okP_iff.mp hp
  obtain ⟨hv1, hv2⟩ := okW_iff.mp hv
  have key : (lcE (itZ (aCons (varE 0) (aCons (varE 1) aNil))) (Tk.tp [3, 4]).k yesT (op2 (varE 3) (varE 4) mulO) [3, 4]) (st0 5 [Wd v, Wd w, .int p]) = .ok ((v.zip w).map fun q => Dt.int (q.1 * q.2)) (st0 5 [Wd v, Wd w, .int p]) := by
    refine lcE_map (fun q : Int × Int => Dt.tup [.int q.1, .int q.2]) _ (v.zip w) ?_ (fun q hq => ?_) (fun d T T' => Tk.mo) (by simp; omega)
    · simp [st0, Wd, zipD_ints]
    · have := cmul_w (a := q.2) hp2 (hv2 q.1 (List.of_mem_zip hq).1)
      simp [st0, wipeL, kNames, this]
  have e2 : ((v.zip w).map fun q => Dt.int (q.1 * q.2)) = (List.zipWith (fun a b => a * b) v w).map Dt.int := by rw [List.map_zipWith, List.zip, List.map_zipWith]
  rw [e2] at key
  have hst : st0 5 [Wd v, Wd w, .int p] = { sl := [.im (Wd v), .im (Wd w), .im (.int p), .no, .no], mo := [] } := rfl
  unfold runD m_dot
  rw [retS_run, op2_run, calE_run, aCons_run, frz_run', key, R.bind_ok, R.bind_ok, aNil_run, R.bind_ok, R.bind_ok, sumO_ints, R.of_some, R.bind_ok, hst]
  simp [hp1, sm]
  rfl
theorem run__law_dot (ds : List Dt) (h : Fdot ds ≠ .no) : runD 4 m__law_dot ds = Fdot ds := by
  obtain ⟨v, w, p, rfl, hp, hv, hw, hl⟩ := Fdot_inv h
  rw [Fdot_run hp hv hw hl]
  obtain ⟨hp1, hp2⟩ := okP_iff.mp hp
  obtain ⟨hv1, hv2⟩ := okW_iff.mp hv
  have key : (lcE (itR1 (aCons (calE (aCons (varE 0) aNil) lenO) aNil)) (Tk.nm 3).k yesT (op2 (op2 (varE 0) (varE 3) ixO) (op2 (varE 1) (varE 3) ixO) mulO) [3]) (st0 4 [Wd v, Wd w, .int p]) = .ok ((List.range v.length).map fun k => Dt.int (g v k * g w k)) (st0 4 [Wd v, Wd w, .int p]) := by
    refine lcE_map (fun k : Nat => Dt.int (k : Int)) _ (List.range v.length) ?_ (fun k hk => ?_) (fun d T T' => Tk.mo) (by simp; omega)
    · exact itR1_run (by simp [st0, len_wd]) (by omega)
    · have h1 : k < v.length := List.mem_range.mp hk
      have h2 : k < w.length := by omega
      have e1 := wg_ix h1
      have e2 := wg_ix h2
      have := cmul_w (a := g w k) hp2 (g_lt ⟨hv, rfl⟩ h1)
      simp [st0, wipeL, e1, e2, this]
  have e2 : ((List.range v.length).map fun k => Dt.int (g v k * g w k)) = (List.zipWith (fun a b => a * b) v w).map Dt.int := by
    apply List.ext_getElem?
    intro k
    rw [List.getElem?_map, List.getElem?_map, List.getElem?_zipWith]
    by_cases hk : k < v.length
    · have h2 : k < w.length := by omega
      simp [g, List.getElem?_range hk, List.getElem?_eq_getElem hk, List.getElem?_eq_getElem h2, List.getD_eq_getElem?_getD]
    · rw [List.getElem?_eq_none (by simpa using hk), List.getElem?_eq_none (show v.length ≤ k by omega)]
      rfl
  rw [e2] at key
  have hst : st0 4 [Wd v, Wd w, .int p] = { sl := [.im (Wd v), .im (Wd w), .im (.int p), .no], mo := [] } := rfl
  unfold runD m__law_dot
  rw [retS_run, op2_run, calE_run, aCons_run, calE_run, aCons_run, frz_run', key, R.bind_ok, R.bind_ok, aNil_run, R.bind_ok, R.bind_ok, sumO_ints, R.of_some, R.bind_ok, hst]
  simp [hp1, sm]
  rfl
end Lq

namespace Lq
open PySem PySem.Spec PyProof.Rows L2
/-! ### sums of multiples -/
def m_combine : Ms → O := (seqS (asgS 4 (op2 (tupE (aCons (cE (.int 0)) aNil)) (varE 2) repT))
  (seqS (forS (itZ (aCons (varE 0) (aCons (varE 1) aNil))) (Tk.tp [5, 6]).k (asgS 4 (funE 3 (aCons (varE 4) (aCons (funE 3 (aCons (varE 5) (aCons (varE 6) (aCons (varE 3) aNil))) FscW) (aCons (varE 3) aNil))) FaddW)))
  (retS (varE 4))))
def combL (p : Int) (n : Nat) (qs : List (List Int × Int)) : List Int := qs.foldl (fun t q => lin p t q.1 q.2) (List.replicate n 0)
def Fcombine : List Dt → Fo
  | [.lst ds, .lst es, .int n, .int p] => match wordsOf ds, intsOf es with
    | some rows, some ws => if (okP p && okRb p n.toNat rows && decide (0 ≤ n ∧ n ≤ 1000) && decide (rows.length ≤ 1000)) = true then .ok (Wd (combL p n.toNat (rows.zip ws))) else .no
    | _, _ => .no
  | _ => .no
theorem Fcombine_run {p : Int} {n : Nat} {rows : List (List Int)} {ws : List Int} (hp : okP p = true) (hr : okR p n rows) (hn : n ≤ 1000) (hl : rows.length ≤ 1000) : Fcombine [.lst (rows.map Wd), .lst (ws.map Dt.int), .int n, .int p] = .ok (Wd (combL p n (rows.zip ws))) := by
  unfold Fcombine
  simp only [wordsOf_map, intsOf_map, Int.toNat_natCast]
  rw [if_pos (by simp [hp, okRb_iff.mpr hr, hl]; omega)]
theorem rep_int (n : Nat) : (List.replicate n [Dt.int 0]).flatten = (List.replicate n (0 : Int)).map Dt.int := by
  rw [List.flatten_replicate_singleton, List.map_replicate]
theorem repT_run {n : Nat} (hn : n ≤ 1000) : repT (.tup [.int 0]) (.int (n : Int)) = some (Wd (List.replicate n 0)) := by
  unfold repT
  dsimp only
  rw [if_pos ⟨by simp, by simp, by omega, by omega⟩, Int.toNat_natCast, rep_int]
  rfl
theorem zipD_wi : ∀ (rows : List (List Int)) (ws : List Int), zipD (rows.map Wd) (ws.map Dt.int) = (rows.zip ws).map fun q => Dt.tup [Wd q.1, .int q.2]
  | [], _ => by simp [zipD]
  | _ :: _, [] => by simp [zipD]
  | a :: v, b :: w => by
    have := zipD_wi v w
    unfold zipD at this ⊢
    simp [this]
theorem combL_ok {p : Int} {n : Nat} (hp : okP p = true) : ∀ (qs : List (List Int × Int)) (t : List Int), ok1 p n t → (∀ q ∈ qs, ok1 p n q.1) → ok1 p n (qs.foldl (fun t q => lin p t q.1 q.2) t)
  | [], t, h, _ => h
  | q :: qs, t, h, hq => combL_ok hp qs _ (ok_lin hp h (hq q List.mem_cons_self)) fun x hx => hq x (List.mem_cons_of_mem _ hx)
theorem run_combine (ds : List Dt) (h : Fcombine ds ≠ .no) : runD 7 m_combine ds = Fcombine ds := by
  unfold Fcombine at h
  split at h
  · rename_i ds es n p
    split at h
    · rename_i rows ws h1 h2
      split at h
      · rename_i hc
        have := wordsOf_eq h1
        have := intsOf_eq h2
        subst_vars
        simp only [Bool.and_eq_true, decide_eq_true_eq] at hc
        obtain ⟨⟨⟨hp, hr⟩, hn⟩, hl⟩ := hc
        obtain ⟨n, rfl⟩ : ∃ k : Nat, n = (k : Int) := ⟨n.toNat, by omega⟩
        rw [Int.toNat_natCast] at hr
        have hr := okRb_iff.mp hr
        have hn1 : n ≤ 1000 := by omega
        rw [Fcombine_run hp hr hn1 hl]
        have hst : st0 7 [.lst (rows.map Wd), .lst (ws.map Dt.int), .int (n : Int), .int p] = { sl := [.im (.lst (rows.map Wd)), .im (.lst (ws.map Dt.int)), .im (.int n), .im (.int p), .no, .no, .no], mo := [] } := rfl
        have e1 : asgS 4 (op2 (tupE (aCons (cE (.int 0)) aNil)) (varE 2) repT) { sl := [.im (.lst (rows.map Wd)), .im (.lst (ws.map Dt.int)), .im (.int n), .im (.int p), .no, .no, .no], mo := [] } = .nx { sl := [.im (.lst (rows.map Wd)), .im (.lst (ws.map Dt.int)), .im (.int n), .im (.int p), .im (Wd (List.replicate n 0)), .no, .no], mo := [] } := by
          have := repT_run hn1
          simp [this]
        have hit : itZ (aCons (varE 0) (aCons (varE 1) aNil)) { sl := [.im (.lst (rows.map Wd)), .im (.lst (ws.map Dt.int)), .im (.int n), .im (.int p), .im (Wd (List.replicate n 0)), .no, .no], mo := [] } = .ok ((rows.zip ws).map fun q => Dt.tup [Wd q.1, .int q.2]) { sl := [.im (.lst (rows.map Wd)), .im (.lst (ws.map Dt.int)), .im (.int n), .im (.int p), .im (Wd (List.replicate n 0)), .no, .no], mo := [] } := by
          simp [zipD_wi]
        obtain ⟨S', f1, hok, y5, y6, f2⟩ := forL_fold (k := (Tk.tp [5, 6]).k) (body := asgS 4 (funE 3 (aCons (varE 4) (aCons (funE 3 (aCons (varE 5) (aCons (varE 6) (aCons (varE 3) aNil))) FscW) (aCons (varE 3) aNil))) FaddW)) (fun q : List Int × Int => Dt.tup [Wd q.1, .int q.2])
          (fun _ (t : List Int) S => ok1 p n t ∧ ∃ y5 y6, S = { sl := [.im (.lst (rows.map Wd)), .im (.lst (ws.map Dt.int)), .im (.int n), .im (.int p), .im (Wd t), y5, y6], mo := [] }) (fun t q => lin p t q.1 q.2) (rows.zip ws) 0 (List.replicate n 0) _ ⟨ok_zero hp hn1, .no, .no, rfl⟩ (fun _ t q S hq _ hI => by
            obtain ⟨ht, y5, y6, rfl⟩ := hI
            have hq1 : ok1 p n q.1 := hr _ (List.of_mem_zip hq).1
            have e1 := FscW_run (a := q.2) hp hq1.1
            have e2 := FaddW_run (w := scW p q.2 q.1) hp ht.1 (okW_scW hp hq1.1) (by rw [scW_len, ht.2, hq1.2])
            refine ⟨_, _, by simp [kNames]; rfl, .inl ?_, ok_lin hp ht hq1, .im (Wd q.1), .im (.int q.2), rfl⟩
            simp [e1, e2, lin])
        unfold runD m_combine
        rw [hst, seqS_run, e1, seq_nx, seqS_run, forS_run, hit, R.stmt_ok, f1, seq_nx, f2, retS_run, varE_im rfl, R.stmt_ok]
        rfl
      · exact absurd rfl h
    · exact absurd rfl h
  · exact absurd rfl h
/-! ### all words -/
def m__law_all : Ms → O := (seqS (asgS 2 (frz (lstE (aCons (tupE aNil) aNil))))
  (seqS (forS (itR1 (aCons (varE 0) aNil)) (Tk.nm 3).k (seqS (asgS 4 (frz (lstE aNil)))
  (seqS (forS (itS (frz (calN (aCons (varE 2) aNil) lstO))) (Tk.nm 5).k (asgS 4 (frz (opN (varE 4) (frz (lcE (itR1 (aCons (varE 1) aNil)) (Tk.nm 6).k yesT (op2 (varE 5) (tupE (aCons (varE 6) aNil)) catT) [6])) catL))))
  (moveS 2 4))))
  (retS (varE 2))))
def extW (p : Int) (w : List Int) : List (List Int) := (List.range p.toNat).map fun (a : Nat) => w ++ [(a : Int)]
def allN (p : Int) : Nat → List (List Int)
  | 0 => [[]]
  | k + 1 => (allN p k).foldl (fun acc w => acc ++ extW p w) []
def Fall : List Dt → Fo
  | [.int n, .int p] => if (okP p && decide (0 ≤ n ∧ n ≤ 100) && decide (p.toNat ^ n.toNat ≤ 10000)) = true then .ok (.lst ((allN p n.toNat).map Wd)) else .no
  | _ => .no
theorem Fall_run {n : Nat} {p : Int} (hp : okP p = true) (hn : n ≤ 100) (hl : p.toNat ^ n ≤ 10000) : Fall [.int n, .int p] = .ok (.lst ((allN p n).map Wd)) := by
  unfold Fall
  dsimp only
  rw [Int.toNat_natCast, if_pos (by simp [hp, hl]; omega)]
theorem extW_len (p : Int) (w : List Int) : (extW p w).length = p.toNat := by simp [extW]
theorem fold_ext (p : Int) : ∀ (ws acc : List (List Int)), (ws.foldl (fun acc w => acc ++ extW p w) acc) = acc ++ ws.flatMap (extW p)
  | [], acc => by simp
  | w :: ws, acc => by rw [List.foldl_cons, fold_ext p ws]; simp
theorem allN_succ (p : Int) (k : Nat) : allN p (k + 1) = (allN p k).flatMap (extW p) := by
  show (allN p k).foldl _ [] = _
  rw [fold_ext, List.nil_append]
theorem allN_len (p : Int) : ∀ k, (allN p k).length = p.toNat ^ k
  | 0 => rfl
  | k + 1 => by
    rw [allN_succ, List.length_flatMap]
    simp only [extW_len, List.map_const', List.sum_replicate_nat, allN_len p k]
    rw [Nat.pow_succ]
theorem allN_wlen (p : Int) : ∀ k, ∀ w ∈ allN p k, w.length = k
  | 0, w, h => by
    have : w = [] := by simpa [allN] using h
    rw [this]
    rfl
  | k + 1, w, h => by
    rw [allN_succ, List.mem_flatMap] at h
    obtain ⟨v, hv, hw⟩ := h
    obtain ⟨a, _, rfl⟩ := List.mem_map.mp hw
    rw [List.length_append, allN_wlen p k v hv]
    rfl
theorem allN_mem {p : Int} : ∀ {k : Nat} {w : List Int}, w ∈ allN p k ↔ w.length = k ∧ ∀ x ∈ w, 0 ≤ x ∧ x < p
  | 0, w => by
    show w ∈ [[]] ↔ _
    rw [List.mem_singleton]
    constructor
    · rintro rfl
      exact ⟨rfl, fun x h => absurd h List.not_mem_nil⟩
    · exact fun h => List.eq_nil_of_length_eq_zero h.1
  | k + 1, w => by
    rw [allN_succ, List.mem_flatMap]
    constructor
    · rintro ⟨v, hv, hw⟩
      obtain ⟨a, ha, rfl⟩ := List.mem_map.mp hw
      obtain ⟨h1, h2⟩ := allN_mem.mp hv
      have := List.mem_range.mp ha
      refine ⟨by rw [List.length_append, h1]; rfl, fun x hx => ?_⟩
      rcases List.mem_append.mp hx with hx | hx
      · exact h2 x hx
      · rw [List.mem_singleton] at hx
        omega
    · rintro ⟨h1, h2⟩
      have hne : w ≠ [] := by
        rintro rfl
        cases h1
      have hd := List.dropLast_concat_getLast hne
      have hl := h2 _ (List.getLast_mem hne)
      refine ⟨w.dropLast, allN_mem.mpr ⟨by rw [List.length_dropLast, h1]; rfl, fun x hx => h2 x (List.dropLast_subset _ hx)⟩, List.mem_map.mpr ⟨(w.getLast hne).toNat, List.mem_range.mpr (by omega), ?_⟩⟩
      rw [Int.toNat_of_nonneg hl.1]
      exact hd
theorem allN_nd (p : Int) : ∀ k, (allN p k).Nodup
  | 0 => by simp [allN]
  | k + 1 => by
    rw [allN_succ]
    refine List.pairwise_flatMap.mpr ⟨fun w hw => ?_, List.Pairwise.imp (R := (· ≠ ·)) (fun {w v} hne x hx y hy e => ?_) (allN_nd p k)⟩
    · refine nodup_map_on List.nodup_range fun a _ b _ e => ?_
      have := List.append_cancel_left e
      simp at this
      omega
    · obtain ⟨a, _, rfl⟩ := List.mem_map.mp hx
      obtain ⟨b, _, rfl⟩ := List.mem_map.mp hy
      exact hne (List.append_inj_left' e rfl)
def alSt (n : Nat) (p : Int) (out : List (List Int)) (x3 x4 x5 : Sv) : Ms := { sl := [.im (.int n), .im (.int p), .im (.lst (out.map Wd)), x3, x4, x5, .no], mo := [] }
def alIn : Ms → O := asgS 4 (frz (opN (varE 4) (frz (lcE (itR1 (aCons (varE 1) aNil)) (Tk.nm 6).k yesT (op2 (varE 5) (tupE (aCons (varE 6) aNil)) catT) [6])) catL))
def alBody : Ms → O := seqS (asgS 4 (frz (lstE aNil))) (seqS (forS (itS (frz (calN (aCons (varE 2) aNil) lstO))) (Tk.nm 5).k alIn) (moveS 2 4))
theorem catL_run {xs ys : List Dt} (h : xs.length + ys.length ≤ 100000) : catL (.lst xs) (.lst ys) = some (xs ++ ys) := by
  show (if _ then _ else _) = _
  rw [if_pos h]
theorem catT_run {xs ys : List Dt} (h : xs.length + ys.length ≤ 100000) : catT (.tup xs) (.tup ys) = some (.tup (xs ++ ys)) := by
  show (if _ then _ else _) = _
  rw [if_pos h]
theorem alBody_run {n k : Nat} {p : Int} {out : List (List Int)} {x3 x4 x5 : Sv} (hp : okP p = true) (hk : k ≤ 100) (ho : ∀ w ∈ out, w.length = k) (hl : out.length * p.toNat ≤ 10000) :
    ∃ x4' x5', alBody (alSt n p out x3 x4 x5) = .nx (alSt n p (out.flatMap (extW p)) x3 x4' x5') := by
  obtain ⟨hp1, hp2⟩ := okP_iff.mp hp
  obtain ⟨m, rfl⟩ : ∃ m : Nat, p = (m : Int) := ⟨p.toNat, by omega⟩
  have h0 : asgS 4 (frz (lstE aNil)) (alSt n m out x3 x4 x5) = .nx (alSt n m out x3 (.im (.lst (([] : List (List Int)).map Wd))) x5) := by simp [alSt]
  have hit : itS (frz (calN (aCons (varE 2) aNil) lstO)) (alSt n m out x3 (.im (.lst (([] : List (List Int)).map Wd))) x5) = .ok (out.map Wd) (alSt n m out x3 (.im (.lst (([] : List (List Int)).map Wd))) x5) := by simp [alSt]
  obtain ⟨S', f1, hI, y5, f2⟩ := forL_fold (k := (Tk.nm 5).k) (body := alIn) Wd (fun j (acc : List (List Int)) S => acc.length ≤ j * m ∧ ∃ y5, S = alSt n m out x3 (.im (.lst (acc.map Wd))) y5) (fun acc w => acc ++ extW m w) out 0 [] _ ⟨Nat.zero_le _, x5, rfl⟩ (fun j acc w S hw hj hI => by
    obtain ⟨ha, y5, rfl⟩ := hI
    have hb : (j + 1) * m ≤ out.length * m := Nat.mul_le_mul_right _ (by omega)
    rw [Int.toNat_natCast] at hl
    rw [Nat.succ_mul] at hb
    have hwl := ho w hw
    refine ⟨_, alSt n m out x3 (.im (.lst ((acc ++ extW m w).map Wd))) (.im (Wd w)), kNm _ _ _, .inl ?_, ?_, _, rfl⟩
    · have key : lcE (itR1 (aCons (varE 1) aNil)) (Tk.nm 6).k yesT (op2 (varE 5) (tupE (aCons (varE 6) aNil)) catT) [6] (alSt n m out x3 (.im (.lst (acc.map Wd))) (.im (Wd w))) = .ok ((List.range m).map fun (a : Nat) => Wd (w ++ [(a : Int)])) (alSt n m out x3 (.im (.lst (acc.map Wd))) (.im (Wd w))) := by
        refine lcE_map (fun (a : Nat) => Dt.int (a : Int)) _ (List.range m) (itR1_run (by simp [alSt]) (by omega)) (fun a _ => ?_) (fun d T T' => Tk.mo) (by simp; omega)
        have hc : catT (Wd w) (.tup [.int (a : Int)]) = some (Wd (w ++ [(a : Int)])) := by
          have := catT_run (xs := w.map Dt.int) (ys := [.int (a : Int)]) (by rw [List.length_map, hwl]; simp; omega)
          unfold Wd
          rw [this, List.map_append]
          rfl
        refine ⟨_, kNm _ _ _, ?_⟩
        simp [alSt, wipeL, hc]
      have e2 : ((List.range m).map fun (a : Nat) => Wd (w ++ [(a : Int)])) = (extW m w).map Wd := by
        unfold extW
        rw [List.map_map, Int.toNat_natCast]
        rfl
      rw [e2] at key
      have hcl := catL_run (xs := acc.map Wd) (ys := (extW m w).map Wd) (by rw [List.length_map, List.length_map, extW_len, Int.toNat_natCast]; omega)
      rw [← List.map_append] at hcl
      unfold alIn
      have hS : ({ sl := (alSt n m out x3 (.im (.lst (acc.map Wd))) y5).sl.set 5 (.im (Wd w)), mo := (alSt n m out x3 (.im (.lst (acc.map Wd))) y5).mo } : Ms) = alSt n m out x3 (.im (.lst (acc.map Wd))) (.im (Wd w)) := rfl
      rw [hS, asgS_run', frz_run', opN_run, varE_im (i := 4) (d := .lst (acc.map Wd)) rfl, R.bind_ok, frz_run', key, R.bind_ok, R.bind_ok, hcl, R.of_some, R.bind_ok, R.stmt_ok]
      rfl
    · rw [List.length_append, extW_len, Int.toNat_natCast, Nat.succ_mul]
      omega)
  refine ⟨.im (.lst ((out.flatMap (extW m)).map Wd)), y5, ?_⟩
  have ef := fold_ext (m : Int) out []
  rw [List.nil_append] at ef
  rw [ef] at f2
  unfold alBody
  rw [seqS_run, h0, seq_nx, seqS_run, forS_run, hit, R.stmt_ok, f1, seq_nx, f2]
  exact moveS_im rfl
theorem run__law_all (ds : List Dt) (h : Fall ds ≠ .no) : runD 7 m__law_all ds = Fall ds := by
  unfold Fall at h
  split at h
  · rename_i n p
    split at h
    · rename_i hc
      simp only [Bool.and_eq_true, decide_eq_true_eq] at hc
      obtain ⟨⟨hp, hn⟩, hl⟩ := hc
      obtain ⟨n, rfl⟩ : ∃ k : Nat, n = (k : Int) := ⟨n.toNat, by omega⟩
      rw [Int.toNat_natCast] at hl
      have hn1 : n ≤ 100 := by omega
      rw [Fall_run hp hn1 hl]
      have hp3 : 1 ≤ p.toNat := by have := (okP_iff.mp hp).1; omega
      have hst : st0 7 [.int (n : Int), .int p] = { sl := [.im (.int n), .im (.int p), .no, .no, .no, .no, .no], mo := [] } := rfl
      have h0 : asgS 2 (frz (lstE (aCons (tupE aNil) aNil))) { sl := [.im (.int n), .im (.int p), .no, .no, .no, .no, .no], mo := [] } = .nx (alSt n p (allN p 0) .no .no .no) := by
        simp [alSt, allN]
        rfl
      have hit : itR1 (aCons (varE 0) aNil) (alSt n p (allN p 0) .no .no .no) = .ok ((List.range n).map fun (i : Nat) => Dt.int (i : Int)) (alSt n p (allN p 0) .no .no .no) := itR1_run (by simp [alSt]) (by omega)
      obtain ⟨S', f1, x3, x4, x5, f2⟩ := forL_inv (k := (Tk.nm 3).k) (body := alBody) ((List.range n).map fun (i : Nat) => Dt.int (i : Int)) (fun i S => ∃ x3 x4 x5, S = alSt n p (allN p i) x3 x4 x5) (alSt n p (allN p 0) .no .no .no) ⟨_, _, _, rfl⟩ (fun i d S hi hI => by
        obtain ⟨x3, x4, x5, rfl⟩ := hI
        rw [List.getElem?_map] at hi
        have hin : i < n := by
          rcases Nat.lt_or_ge i n with h | h
          · exact h
          · rw [List.getElem?_eq_none (by simpa using h)] at hi
            cases hi
        rw [List.getElem?_range hin] at hi
        cases hi
        have hb : p.toNat ^ (i + 1) ≤ p.toNat ^ n := Nat.pow_le_pow_right hp3 (by omega)
        obtain ⟨y4, y5, r⟩ := alBody_run (n := n) (k := i) (x3 := .im (.int (i : Int))) (x4 := x4) (x5 := x5) hp (by omega) (allN_wlen p i) (by rw [allN_len, ← Nat.pow_succ]; exact Nat.le_trans hb hl)
        rw [← allN_succ] at r
        exact ⟨_, _, kNm _ _ _, .inl r, _, _, _, rfl⟩)
      rw [List.length_map, List.length_range] at f2
      have hm : m__law_all = seqS (asgS 2 (frz (lstE (aCons (tupE aNil) aNil)))) (seqS (forS (itR1 (aCons (varE 0) aNil)) (Tk.nm 3).k alBody) (retS (varE 2))) := rfl
      unfold runD
      rw [hst, hm, seqS_run, h0, seq_nx, seqS_run, forS_run, hit, R.stmt_ok, f1, seq_nx, f2, retS_run, varE_im rfl, R.stmt_ok]
      rfl
    · exact absurd rfl h
  · exact absurd rfl h
end Lq

namespace Lq
open PySem PySem.Spec PyProof.Rows L2
/-! ### binomials and powers -/
def m_binomial : Ms → O := (seqS (ifS (tst (op2 (varE 1) (cE (.int 0)) ltO)) (retS (cE (.int 0))) nilS)
  (retS (calE (aCons (varE 0) (aCons (varE 1) aNil)) combO)))
def binF (n k : Int) : Int := if k < 0 then 0 else PySem.W.mcComb n k
def Fbinom : List Dt → Fo
  | [.int n, .int k] => if 0 ≤ n ∧ n ≤ 12 then .ok (.int (binF n k)) else .no
  | _ => .no
theorem run_binomial (ds : List Dt) (h : Fbinom ds ≠ .no) : runD 2 m_binomial ds = Fbinom ds := by
  unfold Fbinom at h
  split at h
  · rename_i n k
    split at h
    · rename_i hc
      have e : Fbinom [.int n, .int k] = .ok (.int (binF n k)) := if_pos hc
      have hst : st0 2 [.int n, .int k] = { sl := [.im (.int n), .im (.int k)], mo := [] } := rfl
      rw [e]
      unfold runD m_binomial binF
      rw [hst]
      by_cases hk : k < 0
      · simp [hk]
        rfl
      · have hco : combO [.int n, .int k] = some (.int (PySem.W.mcComb n k)) := by
          unfold combO
          dsimp only
          rw [if_pos ⟨by omega, by omega, by omega⟩]
        simp [hk, hco]
        rfl
    · exact absurd rfl h
  · exact absurd rfl h
def pwB : Ms → O := (seqS (ifS (tst (op2 (op2 (varE 4) (cE (.int 2)) modO) (cE (.int 1)) eqO)) (asgS 2 (op2 (varE 2) (varE 3) mulO)) nilS)
  (seqS (asgS 3 (op2 (varE 3) (varE 3) mulO))
  (asgS 4 (op2 (varE 4) (cE (.int 2)) divO))))
def m_power : Ms → O := (seqS (asgS 2 (cE (.int 1)))
  (seqS (moveS 3 0)
  (seqS (moveS 4 1)
  (seqS (whileS (fun _ => 64) (tst (op2 (varE 4) (cE (.int 0)) gtO)) pwB)
  (retS (varE 2))))))
def Fpow : List Dt → Fo
  | [.int a, .int k] => if (-100 ≤ a ∧ a ≤ 100) ∧ 0 ≤ k ∧ k ≤ 12 then .ok (.int (a ^ k.toNat)) else .no
  | _ => .no
def pwS (a k r f l : Int) : Ms := { sl := [.im (.int a), .im (.int k), .im (.int r), .im (.int f), .im (.int l)], mo := [] }
theorem small_pow {a : Int} (ha : -100 ≤ a ∧ a ≤ 100) {e : Nat} (he : e ≤ 8) : -(2 : Int) ^ 64 < a ^ e ∧ a ^ e < 2 ^ 64 := by
  have h1 : (a ^ e).natAbs ≤ 100 ^ 8 := by
    rw [Int.natAbs_pow]
    exact Nat.le_trans (Nat.pow_le_pow_left (show a.natAbs ≤ 100 by omega) e) (Nat.pow_le_pow_right (by decide) he)
  have h2 : (100 : Nat) ^ 8 < 2 ^ 63 := by decide
  have h3 : (a ^ e).natAbs < 2 ^ 63 := Nat.lt_of_le_of_lt h1 h2
  generalize a ^ e = z at *
  omega
theorem pw_step {a k : Int} {r e l : Nat} (ha : -100 ≤ a ∧ a ≤ 100) (he : e ≤ 8) (hl : 0 < l) : pwB (pwS a k (a ^ r) (a ^ e) (l : Int)) = .nx (pwS a k (if l % 2 = 1 then a ^ (r + e) else a ^ r) (a ^ (e + e)) ((l / 2 : Nat) : Int)) := by
  have hs := small_pow ha he
  have c1 : CMul (a ^ r) (a ^ e) := .inr hs
  have c2 : CMul (a ^ e) (a ^ e) := .inr hs
  have c3 : CDiv (l : Int) 2 := ⟨by decide, by decide⟩
  have e2 : a ^ e * a ^ e = a ^ (e + e) := (Int.pow_add a e e).symm
  have e1 : a ^ r * a ^ e = a ^ (r + e) := (Int.pow_add a r e).symm
  have e3 : ((l / 2 : Nat) : Int) = (l : Int) / 2 := by omega
  rw [← e1, ← e2, e3]
  generalize a ^ r = x at *
  generalize a ^ e = y at *
  by_cases h : l % 2 = 1
  · have h' : (l : Int) % 2 = 1 := by omega
    rw [if_pos h]
    simp [pwB, pwS, h', c1, c2, c3]
  · have h' : ¬ (l : Int) % 2 = 1 := by omega
    rw [if_neg h]
    simp [pwB, pwS, h', c2, c3]
theorem pw_loop {a k : Int} (ha : -100 ≤ a ∧ a ≤ 100) : ∀ (fuel r e l : Nat), l < fuel → (e = 1 ∧ l ≤ 12 ∨ e = 2 ∧ l ≤ 6 ∨ e = 4 ∧ l ≤ 3 ∨ e = 8 ∧ l ≤ 1 ∨ l = 0) →
    ∃ f, whl (tst (op2 (varE 4) (cE (.int 0)) gtO)) pwB fuel (pwS a k (a ^ r) (a ^ e) (l : Int)) = .nx (pwS a k (a ^ (r + e * l)) f 0)
  | 0, _, _, _, h, _ => absurd h (Nat.not_lt_zero _)
  | fuel + 1, r, e, l, h, hc => by
    have ht : tst (op2 (varE 4) (cE (.int 0)) gtO) (pwS a k (a ^ r) (a ^ e) (l : Int)) = .ok (decide (0 < (l : Int))) (pwS a k (a ^ r) (a ^ e) (l : Int)) := by
      generalize a ^ r = x
      generalize a ^ e = y
      simp [pwS]
    unfold whl
    rw [ht, R.stmt_ok]
    by_cases h0 : 0 < l
    · rw [decide_eq_true (by omega : 0 < (l : Int))]
      rw [if_pos rfl, pw_step ha (by omega) h0]
      dsimp only
      have e1 : (if l % 2 = 1 then a ^ (r + e) else a ^ r) = a ^ (if l % 2 = 1 then r + e else r) := by split <;> rfl
      rw [e1]
      obtain ⟨f, ih⟩ := pw_loop ha fuel (if l % 2 = 1 then r + e else r) (e + e) (l / 2) (by omega) (by omega)
      refine ⟨f, ih.trans ?_⟩
      have e2 : (if l % 2 = 1 then r + e else r) + (e + e) * (l / 2) = r + e * l := by
        rw [← Nat.two_mul e, Nat.mul_comm 2 e, Nat.mul_assoc]
        by_cases h2 : l % 2 = 1
        · have h3 : l = 2 * (l / 2) + 1 := by omega
          rw [if_pos h2]
          generalize l / 2 = m at *
          subst h3
          rw [Nat.mul_add, Nat.mul_one]
          omega
        · have h3 : l = 2 * (l / 2) := by omega
          rw [if_neg h2]
          generalize l / 2 = m at *
          subst h3
          rfl
      rw [e2]
    · have hl0 : l = 0 := by omega
      subst hl0
      refine ⟨a ^ e, ?_⟩
      rw [decide_eq_false (by omega : ¬ 0 < ((0 : Nat) : Int))]
      rfl
theorem run_power (ds : List Dt) (h : Fpow ds ≠ .no) : runD 5 m_power ds = Fpow ds := by
  unfold Fpow at h
  split at h
  · rename_i a k
    split at h
    · rename_i hc
      have e : Fpow [.int a, .int k] = .ok (.int (a ^ k.toNat)) := if_pos hc
      obtain ⟨ha, hk⟩ := hc
      obtain ⟨k, rfl⟩ : ∃ j : Nat, k = (j : Int) := ⟨k.toNat, by omega⟩
      rw [e, Int.toNat_natCast]
      have hst : st0 5 [.int a, .int (k : Int)] = { sl := [.im (.int a), .im (.int k), .no, .no, .no], mo := [] } := rfl
      obtain ⟨f, hl⟩ := pw_loop (k := (k : Int)) ha 64 0 1 k (by omega) (.inl ⟨rfl, by omega⟩)
      have hp : ∀ K : Ms → O, seqS (asgS 2 (cE (.int 1))) (seqS (moveS 3 0) (seqS (moveS 4 1) K)) { sl := [.im (.int a), .im (.int k), .no, .no, .no], mo := [] } = K (pwS a k (a ^ 0) (a ^ 1) k) := fun K => by
        rw [Int.pow_zero, Int.pow_succ, Int.pow_zero, Int.one_mul]
        rfl
      unfold runD m_power
      rw [hst, hp, seqS_run]
      show ((whl _ pwB 64 _).seq _).fo = _
      rw [hl, seq_nx, Nat.zero_add, Nat.one_mul]
      rfl
    · exact absurd rfl h
  · exact absurd rfl h
end Lq

namespace Lq
open PySem PySem.Spec PyProof.Rows L2
/-! ### weights -/
def wtW (v : List Int) : Nat := (v.filter fun x => decide (x ≠ 0)).length
def m_weight : Ms → O := (retS (calE (aCons (frz (lcE (itS (varE 0)) (Tk.nm 1).k (tst (op2 (varE 1) (cE (.int 0)) neO)) (varE 1) [1])) aNil) lenO))
noncomputable def Fweight : List Dt → Fo := mkF (fun v : List Int => [Wd v]) (fun v => v.length ≤ 1000) fun v => .ok (.int (wtW v))
theorem v_inj : ∀ a b : List Int, [Wd a] = [Wd b] → a = b := fun a b h => by
  simp only [List.cons.injEq, and_true] at h
  exact Wd_inj h
theorem Fweight_run {v : List Int} (h : v.length ≤ 1000) : Fweight [Wd v] = .ok (.int (wtW v)) := mkF_run v_inj v h
theorem run_weight (ds : List Dt) (h : Fweight ds ≠ .no) : runD 2 m_weight ds = Fweight ds := by
  obtain ⟨v, hv, rfl, e⟩ := mkF_inv h
  unfold Fweight
  rw [e]
  have key := nz_run (S := st0 2 [Wd v]) (a := 0) (i := 1) (d := Wd v) rfl rfl (show 1 < 2 by decide) (by omega : v.length ≤ 100000)
  unfold runD m_weight
  simp only [retS_run, calE_run, aCons_run, frz_run']
  rw [key]
  simp [O.fo, wtW]
/-! ### Krawtchouk numbers, balls -/
theorem binF_small : ∀ n : Nat, n < 13 → ∀ k : Nat, k < 13 → 0 ≤ binF (n : Int) (k : Int) ∧ binF (n : Int) (k : Int) ≤ 924 := by decide +kernel
theorem binF_b {n k : Int} (hn : 0 ≤ n ∧ n ≤ 12) : 0 ≤ binF n k ∧ binF n k ≤ 924 := by
  by_cases h0 : k < 0
  · unfold binF
    rw [if_pos h0]
    decide
  by_cases h1 : k > n
  · unfold binF
    rw [if_neg h0, PySem.W.mcComb_above h1]
    decide
  · obtain ⟨a, rfl⟩ : ∃ a : Nat, n = (a : Int) := ⟨n.toNat, by omega⟩
    obtain ⟨b, rfl⟩ : ∃ b : Nat, k = (b : Int) := ⟨k.toNat, by omega⟩
    exact binF_small a (by omega) b (by omega)
theorem binF_mul {n k a : Int} (hn : 0 ≤ n ∧ n ≤ 12) : CMul a (binF n k) := by
  have h := binF_b (k := k) hn
  have e1 : (924 : Int) < 2 ^ 64 := by decide
  have e2 : -(2 : Int) ^ 64 < 0 := by decide
  exact .inr ⟨by omega, by omega⟩
def krawI (p n j i : Int) : Int := ((List.range (j + 1).toNat).map fun s : Nat => (-1) ^ s * (p - 1) ^ (j - (s : Int)).toNat * binF i (s : Int) * binF (n - i) (j - (s : Int))).sum
def m_krawtchouk (Fpow Fbinom : List Dt → Fo) : Ms → O := (retS (calE (aCons (frz (lcE (itR1 (aCons (op2 (varE 2) (cE (.int 1)) addO) aNil)) (Tk.nm 4).k yesT (op2 (op2 (op2 (funE 2 (aCons (op1 (cE (.int 1)) negO) (aCons (varE 4) aNil)) Fpow) (funE 2 (aCons (op2 (varE 0) (cE (.int 1)) subO) (aCons (op2 (varE 2) (varE 4) subO) aNil)) Fpow) mulO) (funE 2 (aCons (varE 3) (aCons (varE 4) aNil)) Fbinom) mulO) (funE 2 (aCons (op2 (varE 1) (varE 3) subO) (aCons (op2 (varE 2) (varE 4) subO) aNil)) Fbinom) mulO) [4])) aNil) sumO))
noncomputable def Fkraw : List Dt → Fo := mkF (fun q : Int × Int × Int × Int => [.int q.1, .int q.2.1, .int q.2.2.1, .int q.2.2.2]) (fun q => (2 ≤ q.1 ∧ q.1 ≤ 7) ∧ q.2.1 ≤ 12 ∧ (0 ≤ q.2.2.1 ∧ q.2.2.1 ≤ 12) ∧ 0 ≤ q.2.2.2 ∧ q.2.2.2 ≤ q.2.1) fun q => .ok (.int (krawI q.1 q.2.1 q.2.2.1 q.2.2.2))
theorem i4_inj : ∀ a b : Int × Int × Int × Int, ([.int a.1, .int a.2.1, .int a.2.2.1, .int a.2.2.2] : List Dt) = [.int b.1, .int b.2.1, .int b.2.2.1, .int b.2.2.2] → a = b := fun a b h => by
  simp only [List.cons.injEq, Dt.int.injEq, and_true] at h
  exact Prod.ext h.1 (Prod.ext h.2.1 (Prod.ext h.2.2.1 h.2.2.2))
theorem i3_inj : ∀ a b : Int × Int × Int, ([.int a.1, .int a.2.1, .int a.2.2] : List Dt) = [.int b.1, .int b.2.1, .int b.2.2] → a = b := fun a b h => by
  simp only [List.cons.injEq, Dt.int.injEq, and_true] at h
  exact Prod.ext h.1 (Prod.ext h.2.1 h.2.2)
theorem Fkraw_run {p n j i : Int} (hp : 2 ≤ p ∧ p ≤ 7) (hn : n ≤ 12) (hj : 0 ≤ j ∧ j ≤ 12) (hi : 0 ≤ i ∧ i ≤ n) : Fkraw [.int p, .int n, .int j, .int i] = .ok (.int (krawI p n j i)) := mkF_run i4_inj (p, n, j, i) ⟨hp, hn, hj, hi⟩
theorem Fpow_run {a k : Int} (ha : -100 ≤ a ∧ a ≤ 100) (hk : 0 ≤ k ∧ k ≤ 12) : Fpow [.int a, .int k] = .ok (.int (a ^ k.toNat)) := if_pos ⟨ha, hk⟩
theorem Fbinom_run {n k : Int} (hn : 0 ≤ n ∧ n ≤ 12) : Fbinom [.int n, .int k] = .ok (.int (binF n k)) := if_pos hn
theorem run_krawtchouk (ds : List Dt) (h : Fkraw ds ≠ .no) : runD 5 (m_krawtchouk Fpow Fbinom) ds = Fkraw ds := by
  obtain ⟨⟨p, n, j, i⟩, ⟨hp, hn, hj, hi⟩, rfl, e⟩ := mkF_inv h
  dsimp only at hp hn hj hi e ⊢
  unfold Fkraw
  rw [e]
  obtain ⟨j, rfl⟩ : ∃ k : Nat, j = (k : Int) := ⟨j.toNat, by omega⟩
  have key : lcE (itR1 (aCons (op2 (varE 2) (cE (.int 1)) addO) aNil)) (Tk.nm 4).k yesT (op2 (op2 (op2 (funE 2 (aCons (op1 (cE (.int 1)) negO) (aCons (varE 4) aNil)) Fpow) (funE 2 (aCons (op2 (varE 0) (cE (.int 1)) subO) (aCons (op2 (varE 2) (varE 4) subO) aNil)) Fpow) mulO) (funE 2 (aCons (varE 3) (aCons (varE 4) aNil)) Fbinom) mulO) (funE 2 (aCons (op2 (varE 1) (varE 3) subO) (aCons (op2 (varE 2) (varE 4) subO) aNil)) Fbinom) mulO) [4] (st0 5 [.int p, .int n, .int (j : Int), .int i]) = .ok (((List.range (j + 1)).map fun s : Nat => (-1) ^ s * (p - 1) ^ ((j : Int) - (s : Int)).toNat * binF i (s : Int) * binF (n - i) ((j : Int) - (s : Int))).map Dt.int) (st0 5 [.int p, .int n, .int (j : Int), .int i]) := by
    rw [lcE_map (fun k : Nat => Dt.int (k : Int)) (fun s : Nat => Dt.int ((-1) ^ s * (p - 1) ^ ((j : Int) - (s : Int)).toNat * binF i (s : Int) * binF (n - i) ((j : Int) - (s : Int)))) (List.range (j + 1)) ?_ (fun s hs => ?_) (fun d T T' => Tk.mo) (by simp; omega)]
    · rw [List.map_map]; rfl
    · exact itR1_run (by simp [st0]) (by omega)
    · have hs' := List.mem_range.mp hs
      have h1 := Fpow_run (a := -1) (k := (s : Int)) (by decide) (by omega)
      have h2 := Fpow_run (a := p - 1) (k := (j : Int) - (s : Int)) (by omega) (by omega)
      have h3 := Fbinom_run (n := i) (k := (s : Int)) (by omega)
      have h4 := Fbinom_run (n := n - i) (k := (j : Int) - (s : Int)) (by omega)
      rw [Int.toNat_natCast] at h1
      have c1 : ∀ z : Int, CMul ((-1) ^ s) z := fun z => by
        have : ((-1 : Int) ^ s) = 1 ∨ ((-1 : Int) ^ s) = -1 := by
          have : ∀ s : Nat, ((-1 : Int) ^ s) = 1 ∨ ((-1 : Int) ^ s) = -1 := by
            intro s
            induction s with
            | zero => exact .inl rfl
            | succ s ih =>
              rw [Int.pow_succ]
              rcases ih with ih | ih <;> rw [ih]
              · exact .inr rfl
              · exact .inl rfl
          exact this s
        rcases this with e | e <;> rw [e]
        · exact .inl (by decide)
        · exact .inl (by decide)
      have c2 : ∀ z : Int, CMul z (binF i (s : Int)) := fun z => binF_mul (by omega)
      have c3 : ∀ z : Int, CMul z (binF (n - i) ((j : Int) - (s : Int))) := fun z => binF_mul (by omega)
      generalize binF i (s : Int) = b1 at *
      generalize binF (n - i) ((j : Int) - (s : Int)) = b2 at *
      generalize (p - 1) ^ ((j : Int) - (s : Int)).toNat = b3 at *
      generalize (-1 : Int) ^ s = b4 at *
      simp [st0, wipeL, h1, h2, h3, h4, c1, c2, c3]
  unfold runD m_krawtchouk
  simp only [retS_run, calE_run, aCons_run, frz_run']
  rw [key]
  have hj1 : ((j : Int) + 1).toNat = j + 1 := by omega
  have hs : ∀ l : List Int, sumO [.lst (l.map Dt.int)] = some (.int l.sum) := fun l => by
    unfold sumO
    dsimp only
    rw [intsOf_map]
    rfl
  simp only [R.bind_ok, aNil_run, hs, R.of_some, R.stmt_ok, O.fo, krawI, hj1]
def ballI (p n t : Int) : Int := ((List.range ((if n < t then n else t) + 1).toNat).map fun i : Nat => binF n (i : Int) * (p - 1) ^ i).sum
def m_ball_size (Fpow Fbinom : List Dt → Fo) : Ms → O := (retS (calE (aCons (frz (lcE (itR1 (aCons (op2 (calE (aCons (varE 2) (aCons (varE 1) aNil)) minO) (cE (.int 1)) addO) aNil)) (Tk.nm 3).k yesT (op2 (funE 2 (aCons (varE 1) (aCons (varE 3) aNil)) Fbinom) (funE 2 (aCons (op2 (varE 0) (cE (.int 1)) subO) (aCons (varE 3) aNil)) Fpow) mulO) [3])) aNil) sumO))
noncomputable def Fball : List Dt → Fo := mkF (fun q : Int × Int × Int => [.int q.1, .int q.2.1, .int q.2.2]) (fun q => (2 ≤ q.1 ∧ q.1 ≤ 7) ∧ (0 ≤ q.2.1 ∧ q.2.1 ≤ 12) ∧ 0 ≤ q.2.2) fun q => .ok (.int (ballI q.1 q.2.1 q.2.2))
theorem Fball_run {p n t : Int} (hp : 2 ≤ p ∧ p ≤ 7) (hn : 0 ≤ n ∧ n ≤ 12) (ht : 0 ≤ t) : Fball [.int p, .int n, .int t] = .ok (.int (ballI p n t)) := mkF_run i3_inj (p, n, t) ⟨hp, hn, ht⟩
theorem run_ball_size (ds : List Dt) (h : Fball ds ≠ .no) : runD 4 (m_ball_size Fpow Fbinom) ds = Fball ds := by
  obtain ⟨⟨p, n, t⟩, ⟨hp, hn, ht⟩, rfl, e⟩ := mkF_inv h
  dsimp only at hp hn ht e ⊢
  unfold Fball
  rw [e]
  obtain ⟨c, hc⟩ : ∃ k : Nat, (if n < t then n else t) = (k : Int) := ⟨(if n < t then n else t).toNat, by split <;> omega⟩
  have hcn : (c : Int) ≤ n := by rw [← hc]; split <;> omega
  have hmin : minO [.int t, .int n] = some (.int (c : Int)) := by
    unfold minO
    dsimp only
    rw [hc]
  have key : lcE (itR1 (aCons (op2 (calE (aCons (varE 2) (aCons (varE 1) aNil)) minO) (cE (.int 1)) addO) aNil)) (Tk.nm 3).k yesT (op2 (funE 2 (aCons (varE 1) (aCons (varE 3) aNil)) Fbinom) (funE 2 (aCons (op2 (varE 0) (cE (.int 1)) subO) (aCons (varE 3) aNil)) Fpow) mulO) [3] (st0 4 [.int p, .int n, .int t]) = .ok (((List.range (c + 1)).map fun i : Nat => binF n (i : Int) * (p - 1) ^ i).map Dt.int) (st0 4 [.int p, .int n, .int t]) := by
    rw [lcE_map (fun k : Nat => Dt.int (k : Int)) (fun i : Nat => Dt.int (binF n (i : Int) * (p - 1) ^ i)) (List.range (c + 1)) ?_ (fun s hs => ?_) (fun d T T' => Tk.mo) (by simp; omega)]
    · rw [List.map_map]; rfl
    · exact itR1_run (by simp [st0, hmin]) (by omega)
    · have hs' := List.mem_range.mp hs
      have h2 := Fpow_run (a := p - 1) (k := (s : Int)) (by omega) (by omega)
      have h3 := Fbinom_run (n := n) (k := (s : Int)) (by omega)
      rw [Int.toNat_natCast] at h2
      have hb := binF_b (n := n) (k := (s : Int)) hn
      have c1 : ∀ z : Int, CMul (binF n (s : Int)) z := fun z => by
        have e1 : (924 : Int) < 2 ^ 64 := by decide
        have e2 : -(2 : Int) ^ 64 < 0 := by decide
        exact .inl ⟨by omega, by omega⟩
      clear hb
      generalize binF n (s : Int) = b1 at *
      generalize (p - 1) ^ s = b2 at *
      simp [st0, wipeL, h2, h3, c1]
  unfold runD m_ball_size
  simp only [retS_run, calE_run, aCons_run, frz_run']
  rw [key]
  have hj1 : ((c : Int) + 1).toNat = c + 1 := by omega
  simp only [R.bind_ok, aNil_run, sumO_ints, R.of_some, R.stmt_ok, O.fo, ballI, hc, hj1]
end Lq

namespace Lq
open PySem PySem.Spec PyProof.Rows L2
/-! ### drawing from numbers -/
def nextF (m : Int) : List Int → Int × List Int | [] => (0, []) | x :: r => (x % m, r)
def m__law_next : Ms → O := (seqS (ifS (tst (op2 (lenV 0) (cE (.int 0)) eqO)) (retS (cE (.int 0))) nilS)
  (retS (op2 (popV 0 (cE (.int 0))) (varE 1) modO)))
noncomputable def Fnext : List Dt → List Dt → FoM := mkM (fun q : List Int × Int => q.1.map Dt.int) (fun q => [.int q.2]) (fun q => 0 < q.2 ∧ q.1.length ≤ 100000) fun q => .ok (.int (nextF q.2 q.1).1) ((nextF q.2 q.1).2.map Dt.int)
theorem mapI_inj {v w : List Int} (h : v.map Dt.int = w.map Dt.int) : v = w := by
  have := congrArg intsOf h
  rw [intsOf_map, intsOf_map] at this
  exact Option.some.inj this
theorem Fnext_run {ns : List Int} {m : Int} (hm : 0 < m) (hl : ns.length ≤ 100000) : Fnext (ns.map Dt.int) [.int m] = .ok (.int (nextF m ns).1) ((nextF m ns).2.map Dt.int) :=
  mkM_run (st := fun q : List Int × Int => q.1.map Dt.int) (args := fun q => [.int q.2]) (fun a b h1 h2 => Prod.ext (mapI_inj h1) (by simpa using h2)) (ns, m) ⟨hm, hl⟩
theorem run__law_next (xs ds : List Dt) (h : Fnext xs ds ≠ .no) : runM 2 m__law_next xs ds = Fnext xs ds := by
  obtain ⟨⟨ns, m⟩, ⟨hm, hl⟩, rfl, rfl, e⟩ := mkM_inv h
  dsimp only at hm hl e ⊢
  unfold Fnext
  rw [e]
  unfold runM m__law_next
  cases ns with
  | nil => simp [stM, lenV, muAt, O.foM, mo0, nextF]
  | cons x r =>
    have h0 : seqIndex? 0 (r.length + 1) = some 0 := by
      unfold seqIndex?
      simp
    have h1 : ¬ ((r.length : Int) + 1 = 0) := by omega
    simp [stM, lenV, muAt, popV, O.foM, mo0, nextF, h0, h1, hm]
def okN (ns : List Int) : Prop := ns.length ≤ 100000 ∧ ∀ x ∈ ns, 0 ≤ x ∧ x < 1009
theorem next_ok {ns : List Int} (h : okN ns) {m : Int} (hm : 0 < m) : (0 ≤ (nextF m ns).1 ∧ (nextF m ns).1 < m) ∧ okN (nextF m ns).2 := by
  cases ns with
  | nil => exact ⟨⟨Int.le_refl 0, hm⟩, h⟩
  | cons x r => exact ⟨⟨Int.emod_nonneg _ (by omega), Int.emod_lt_of_pos _ hm⟩, by have := h.1; simp at this; show r.length ≤ 100000; omega, fun y hy => h.2 y (List.mem_cons_of_mem _ hy)⟩
/-- the numbers that the law draws from -/
def nbA : Ms → O := (ifS (tst (op2 (varE 3) (cE (.int 0)) gtO)) (seqS (appS 1 (op2 (varE 3) (cE (.int 1009)) modO))
  (asgS 3 (op2 (varE 3) (cE (.int 1009)) divO))) nilS)
def nbB : Ms → O := (seqS (asgS 3 (op2 (op2 (op2 (op2 (varE 3) (cE (.int 48271)) mulO) (op2 (cE (.int 69621)) (op2 (varE 5) (varE 2) addO) mulO) addO) (cE (.int 11)) addO) (cE (.int 2147483647)) modO))
  (seqS (asgS 6 (op2 (op2 (op2 (varE 3) (cE (.int 16807)) mulO) (op2 (varE 3) (cE (.int 65536)) divO) addO) (cE (.int 2147483629)) modO))
  (appS 1 (op2 (varE 6) (cE (.int 1009)) modO))))
def nbT : Ms → O := (seqS (asgS 3 (calE (aCons (op2 (varE 0) (varE 2) ixO) aNil) absO))
  (ifS (tst (op2 (varE 3) (op2 (cE (.int 10)) (cE (.int 18)) powO) geO)) (forS (itR1 (aCons (cE (.int 60)) aNil)) (Tk.nm 4).k nbA) (forS (itR1 (aCons (cE (.int 5)) aNil)) (Tk.nm 5).k nbB)))
def m__law_numbers : Ms → ON := (seqN (asgN 1 (lstE aNil))
  (seqN (forS (itR1 (aCons (calE (aCons (calE (aCons (varE 0) aNil) lenO) (aCons (cE (.int 63)) aNil)) minO) aNil)) (Tk.nm 2).k nbT)
  (retNV 1)))
def nbS (ns xs : List Int) (x2 x3 x4 x5 x6 : Sv) : Ms := { sl := [.im (scrD ns), .mu 0, x2, x3, x4, x5, x6], mo := [.ob (.ls (xs.map Dt.int))] }
def okX (n : Nat) (xs : List Int) : Prop := xs.length ≤ n ∧ ∀ x ∈ xs, 0 ≤ x ∧ x < 1009
theorem okX_snoc {n : Nat} {xs : List Int} (h : okX n xs) (z : Int) : okX (n + 1) (xs ++ [z % 1009]) := by
  refine ⟨by have := h.1; simp; omega, fun x hx => ?_⟩
  rcases List.mem_append.mp hx with hx | hx
  · exact h.2 x hx
  · rw [List.mem_singleton.mp hx]
    exact ⟨Int.emod_nonneg _ (by decide), Int.emod_lt_of_pos _ (by decide)⟩
theorem nbA_run {ns xs : List Int} {n : Nat} {x2 x5 x6 : Sv} {c d : Int} (h : okX n xs) (hn : n < 90000) : ∃ ys c', okX (n + 1) ys ∧ nbA (nbS ns xs x2 (.im (.int c)) (.im (.int d)) x5 x6) = .nx (nbS ns ys x2 (.im (.int c')) (.im (.int d)) x5 x6) := by
  have hl := h.1
  have c1 : CDiv c 1009 := ⟨by decide, by decide⟩
  by_cases h0 : 0 < c
  · refine ⟨xs ++ [c % 1009], c / 1009, okX_snoc h c, ?_⟩
    have hl2 : xs.length < 100000 := by omega
    simp [nbA, nbS, muAt, h0, c1, hl2]
  · exact ⟨xs, c, ⟨by omega, h.2⟩, by simp [nbA, nbS, h0]⟩
theorem nbB_run {ns xs : List Int} {n : Nat} {x4 x6 : Sv} {c d k : Int} (h : okX n xs) (hn : n < 90000) : ∃ ys c' m, okX (n + 1) ys ∧ nbB (nbS ns xs (.im (.int k)) (.im (.int c)) x4 (.im (.int d)) x6) = .nx (nbS ns ys (.im (.int k)) (.im (.int c')) x4 (.im (.int d)) m) := by
  have hl := h.1
  have hl2 : xs.length < 100000 := by omega
  have e1 : CMul c 48271 := .inr (by decide)
  have e2 : ∀ z, CMul 69621 z := fun z => .inl (by decide)
  have e3 : ∀ z, CMul z 16807 := fun z => .inr (by decide)
  have e4 : ∀ z, CDiv z 65536 := fun z => ⟨by decide, by decide⟩
  refine ⟨xs ++ [(((c * 48271 + 69621 * (d + k) + 11) % 2147483647) * 16807 + ((c * 48271 + 69621 * (d + k) + 11) % 2147483647) / 65536) % 2147483629 % 1009], (c * 48271 + 69621 * (d + k) + 11) % 2147483647, .im (.int ((((c * 48271 + 69621 * (d + k) + 11) % 2147483647) * 16807 + ((c * 48271 + 69621 * (d + k) + 11) % 2147483647) / 65536) % 2147483629)), okX_snoc h _, ?_⟩
  simp [nbB, nbS, muAt, e1, e2, e3, e4, hl2]
theorem nbT_run {ns xs : List Int} {i : Nat} {x3 x4 x5 x6 : Sv} (h : okX (60 * i) xs) (hi : i < ns.length) (hn : ns.length ≤ 63) : ∃ ys y3 y4 y5 y6, okX (60 * (i + 1)) ys ∧ nbT (nbS ns xs (.im (.int (i : Int))) x3 x4 x5 x6) = .nx (nbS ns ys (.im (.int (i : Int))) y3 y4 y5 y6) := by
  obtain ⟨z, hz⟩ : ∃ z, ns[i]? = some z := ⟨ns[i], by simp [hi]⟩
  have hat : ixO (scrD ns) (.int (i : Int)) = some (.int z) := by
    show atI (ns.map Dt.int) (i : Int) = _
    rw [atI_ofNat, List.getElem?_map, hz]
    rfl
  have e1 : asgS 3 (calE (aCons (op2 (varE 0) (varE 2) ixO) aNil) absO) (nbS ns xs (.im (.int (i : Int))) x3 x4 x5 x6) = .nx (nbS ns xs (.im (.int (i : Int))) (.im (.int (if z < 0 then -z else z))) x4 x5 x6) := by
    simp [nbS, hat]
  unfold nbT
  rw [seqS_run, e1, seq_nx]
  generalize (if z < 0 then -z else z) = c
  have hpw : powO (.int 10) (.int 18) = some (.int (10 ^ 18)) := by
    unfold powO
    rw [iOpC_ii, if_pos (by decide)]
    rfl
  by_cases hc : (10 : Int) ^ 18 ≤ c
  · have e2 : ∀ m n : Ms → O, ifS (tst (op2 (varE 3) (op2 (cE (.int 10)) (cE (.int 18)) powO) geO)) m n (nbS ns xs (.im (.int (i : Int))) (.im (.int c)) x4 x5 x6) = m (nbS ns xs (.im (.int (i : Int))) (.im (.int c)) x4 x5 x6) := fun m n => by
      rw [ifS_run, tst_run', op2_run, varE_im (d := .int c) (by rfl), R.bind_ok, op2_run, cE_run, R.bind_ok, cE_run, R.bind_ok, hpw]
      simp
      intro hc2
      exact absurd hc (by omega)
    rw [e2, forS_run]
    have hit : itR1 (aCons (cE (.int 60)) aNil) (nbS ns xs (.im (.int (i : Int))) (.im (.int c)) x4 x5 x6) = .ok ((List.range 60).map fun (k : Nat) => Dt.int (k : Int)) (nbS ns xs (.im (.int (i : Int))) (.im (.int c)) x4 x5 x6) := itR1_run (n := 60) (by simp) (by decide)
    rw [hit, R.stmt_ok]
    obtain ⟨S', f1, f2⟩ := forL_inv (k := (Tk.nm 4).k) (body := nbA) ((List.range 60).map fun (k : Nat) => Dt.int (k : Int))
      (fun j S => j ≤ 60 ∧ ∃ ys c' y4, okX (60 * i + j) ys ∧ S = nbS ns ys (.im (.int (i : Int))) (.im (.int c')) y4 x5 x6) (nbS ns xs (.im (.int (i : Int))) (.im (.int c)) x4 x5 x6) ⟨by omega, xs, c, x4, h, rfl⟩ (fun j d S hd hI => by
        obtain ⟨hj, ys, c', y4, hy, rfl⟩ := hI
        have hj60 : j < 60 := by
          have := (List.getElem?_eq_some_iff.mp hd).1
          simpa using this
        have hdj : d = .int (j : Int) := by
          rw [List.getElem?_map, List.getElem?_range hj60] at hd
          exact (Option.some.inj hd).symm
        subst hdj
        obtain ⟨zs, c2, hz, e⟩ := nbA_run (ns := ns) (x2 := .im (.int (i : Int))) (x5 := x5) (x6 := x6) (c := c') (d := (j : Int)) hy (by omega)
        exact ⟨_, _, kNm _ _ _, .inl e, by omega, zs, c2, _, hz, rfl⟩)
    obtain ⟨_, ys, c', y4, hy, rfl⟩ := f2
    rw [List.length_map, List.length_range] at hy
    exact ⟨ys, _, _, _, _, hy, f1⟩
  · have e2 : ∀ m n : Ms → O, ifS (tst (op2 (varE 3) (op2 (cE (.int 10)) (cE (.int 18)) powO) geO)) m n (nbS ns xs (.im (.int (i : Int))) (.im (.int c)) x4 x5 x6) = n (nbS ns xs (.im (.int (i : Int))) (.im (.int c)) x4 x5 x6) := fun m n => by
      rw [ifS_run, tst_run', op2_run, varE_im (d := .int c) (by rfl), R.bind_ok, op2_run, cE_run, R.bind_ok, cE_run, R.bind_ok, hpw]
      simp
      intro hc2
      exact absurd hc2 (by omega)
    rw [e2, forS_run]
    have hit : itR1 (aCons (cE (.int 5)) aNil) (nbS ns xs (.im (.int (i : Int))) (.im (.int c)) x4 x5 x6) = .ok ((List.range 5).map fun (k : Nat) => Dt.int (k : Int)) (nbS ns xs (.im (.int (i : Int))) (.im (.int c)) x4 x5 x6) := itR1_run (n := 5) (by simp) (by decide)
    rw [hit, R.stmt_ok]
    obtain ⟨S', f1, f2⟩ := forL_inv (k := (Tk.nm 5).k) (body := nbB) ((List.range 5).map fun (k : Nat) => Dt.int (k : Int))
      (fun j S => j ≤ 5 ∧ ∃ ys c' y5 y6, okX (60 * i + j) ys ∧ S = nbS ns ys (.im (.int (i : Int))) (.im (.int c')) x4 y5 y6) (nbS ns xs (.im (.int (i : Int))) (.im (.int c)) x4 x5 x6) ⟨by omega, xs, c, x5, x6, h, rfl⟩ (fun j d S hd hI => by
        obtain ⟨hj, ys, c', y5, y6, hy, rfl⟩ := hI
        have hj60 : j < 5 := by
          have := (List.getElem?_eq_some_iff.mp hd).1
          simpa using this
        have hdj : d = .int (j : Int) := by
          rw [List.getElem?_map, List.getElem?_range hj60] at hd
          exact (Option.some.inj hd).symm
        subst hdj
        obtain ⟨zs, c2, m, hz, e⟩ := nbB_run (ns := ns) (x4 := x4) (x6 := y6) (c := c') (d := (j : Int)) (k := (i : Int)) hy (by omega)
        exact ⟨_, _, kNm _ _ _, .inl e, by omega, zs, c2, _, _, hz, rfl⟩)
    obtain ⟨_, ys, c', y5, y6, hy, rfl⟩ := f2
    rw [List.length_map, List.length_range] at hy
    exact ⟨ys, _, _, _, _, ⟨by have := hy.1; omega, hy.2⟩, f1⟩
noncomputable def Fnumbers : List Dt → FoN := runN 7 m__law_numbers
theorem Fnumbers_run {ns : List Int} (hn : ns.length ≤ 63) : ∃ xs, okN xs ∧ Fnumbers [scrD ns] = .ok (xs.map Dt.int) := by
  have hst : st0 7 [scrD ns] = { sl := [.im (scrD ns), .no, .no, .no, .no, .no, .no], mo := [] } := rfl
  have e0 : asgN 1 (lstE aNil) (st0 7 [scrD ns]) = .nx (nbS ns [] .no .no .no .no .no) := by
    rw [hst]
    simp only [asgN_run', lstE_nil]
    rfl
  have hlen : lenO [scrD ns] = some (.int (ns.length : Int)) := by
    show some (Dt.int ((ns.map Dt.int).length : Int)) = _
    rw [List.length_map]
  have hmin : minO [.int (ns.length : Int), .int 63] = some (.int (ns.length : Int)) := by
    unfold minO
    dsimp only
    rw [if_neg (by omega)]
  have hit : itR1 (aCons (calE (aCons (calE (aCons (varE 0) aNil) lenO) (aCons (cE (.int 63)) aNil)) minO) aNil) (nbS ns [] .no .no .no .no .no) = .ok ((List.range ns.length).map fun (k : Nat) => Dt.int (k : Int)) (nbS ns [] .no .no .no .no .no) := itR1_run (by simp [nbS, hlen, hmin]) (by omega)
  obtain ⟨S', f1, f2⟩ := forL_inv (k := (Tk.nm 2).k) (body := nbT) ((List.range ns.length).map fun (k : Nat) => Dt.int (k : Int))
    (fun j S => j ≤ ns.length ∧ ∃ ys y2 y3 y4 y5 y6, okX (60 * j) ys ∧ S = nbS ns ys y2 y3 y4 y5 y6) (nbS ns [] .no .no .no .no .no) ⟨by omega, [], .no, .no, .no, .no, .no, ⟨by simp, fun x hx => by cases hx⟩, rfl⟩ (fun j d S hd hI => by
      obtain ⟨hj, ys, y2, y3, y4, y5, y6, hy, rfl⟩ := hI
      have hjn : j < ns.length := by
        have := (List.getElem?_eq_some_iff.mp hd).1
        simpa using this
      have hdj : d = .int (j : Int) := by
        rw [List.getElem?_map, List.getElem?_range hjn] at hd
        exact (Option.some.inj hd).symm
      subst hdj
      obtain ⟨zs, z3, z4, z5, z6, hz, e⟩ := nbT_run (x3 := y3) (x4 := y4) (x5 := y5) (x6 := y6) hy hjn hn
      exact ⟨_, _, kNm _ _ _, .inl e, by omega, zs, _, _, _, _, _, hz, rfl⟩)
  obtain ⟨_, ys, y2, y3, y4, y5, y6, hy, rfl⟩ := f2
  rw [List.length_map, List.length_range] at hy
  refine ⟨ys, ⟨by have := hy.1; omega, hy.2⟩, ?_⟩
  have hfor : forS (itR1 (aCons (calE (aCons (calE (aCons (varE 0) aNil) lenO) (aCons (cE (.int 63)) aNil)) minO) aNil)) (Tk.nm 2).k nbT (nbS ns [] .no .no .no .no .no) = .nx (nbS ns ys y2 y3 y4 y5 y6) := by
    rw [forS_run, hit, R.stmt_ok, f1]
  unfold Fnumbers runN m__law_numbers
  simp only [seqN]
  rw [e0]
  dsimp only
  rw [hfor]
  simp [retNV, nbS, muAt, ON.fo]
end Lq

namespace Lq
open PySem PySem.Spec PyProof.Rows L2
/-! ### all words -/
def alX : Ms → O := (forS (itR1 (aCons (varE 0) aNil)) (Tk.nm 6).k (appS 4 (op2 (varE 5) (tupE (aCons (varE 6) aNil)) catT)))
def alW : Ms → O := (seqS (asgN 4 (lstE aNil))
  (seqS (forS (itS (frz (calN (aCons (varE 2) aNil) lstO))) (Tk.nm 5).k alX)
  (moveS 2 4)))
def m_all15 : Ms → O := (seqS (asgN 2 (lstE (aCons (tupE aNil) aNil)))
  (seqS (forS (itR1 (aCons (varE 1) aNil)) (Tk.nm 3).k alW)
  (retS (varE 2))))
def Fall15 : List Dt → Fo | [a, b] => Fall [b, a] | _ => .no
def alS (p n : Int) (k : Sv) (x3 x4 x5 x6 : Sv) (mo : List Mo) : Ms := { sl := [.im (.int p), .im (.int n), k, x3, x4, x5, x6], mo := mo }
theorem set_last {M : List Mo} {a b : Mo} : (M ++ [a]).set M.length b = M ++ [b] := by
  rw [List.set_append_right (h := Nat.le_refl _)]
  simp
theorem get_last {M : List Mo} {a : Mo} : (M ++ [a])[M.length]? = some a := by
  rw [List.getElem?_append_right (Nat.le_refl _)]
  simp
theorem alX_run {p n : Int} {k x3 x6 : Sv} {w : List Int} {M : List Mo} {acc : List (List Int)} (hp : okP p = true) (hw : w.length ≤ 1000) (hl : acc.length + p.toNat ≤ 90000) :
    ∃ y6, alX (alS p n k x3 (.mu M.length) (.im (Wd w)) x6 (M ++ [.ob (.ls (acc.map Wd))])) = .nx (alS p n k x3 (.mu M.length) (.im (Wd w)) y6 (M ++ [.ob (.ls ((acc ++ extW p w).map Wd))])) := by
  obtain ⟨hp1, hp2⟩ := okP_iff.mp hp
  have hit : itR1 (aCons (varE 0) aNil) (alS p n k x3 (.mu M.length) (.im (Wd w)) x6 (M ++ [.ob (.ls (acc.map Wd))])) = .ok ((List.range p.toNat).map fun (i : Nat) => Dt.int (i : Int)) (alS p n k x3 (.mu M.length) (.im (Wd w)) x6 (M ++ [.ob (.ls (acc.map Wd))])) := itR1_run (by rw [Int.toNat_of_nonneg (by omega)]; simp [alS]) (by omega)
  obtain ⟨S', f1, f2⟩ := forL_inv (k := (Tk.nm 6).k) (body := appS 4 (op2 (varE 5) (tupE (aCons (varE 6) aNil)) catT)) ((List.range p.toNat).map fun (i : Nat) => Dt.int (i : Int))
    (fun j S => j ≤ p.toNat ∧ ∃ y6, S = alS p n k x3 (.mu M.length) (.im (Wd w)) y6 (M ++ [.ob (.ls ((acc ++ (List.range j).map fun (a : Nat) => w ++ [(a : Int)]).map Wd))])) (alS p n k x3 (.mu M.length) (.im (Wd w)) x6 (M ++ [.ob (.ls (acc.map Wd))])) ⟨by omega, x6, by simp⟩ (fun j d S hd hI => by
      obtain ⟨hj, y6, rfl⟩ := hI
      have hjp : j < p.toNat := by
        have := (List.getElem?_eq_some_iff.mp hd).1
        simpa using this
      have hdj : d = .int (j : Int) := by
        rw [List.getElem?_map, List.getElem?_range hjp] at hd
        exact (Option.some.inj hd).symm
      subst hdj
      refine ⟨_, alS p n k x3 (.mu M.length) (.im (Wd w)) (.im (.int (j : Int))) (M ++ [.ob (.ls ((acc ++ (List.range (j + 1)).map fun (a : Nat) => w ++ [(a : Int)]).map Wd))]), kNm _ _ _, .inl ?_, by omega, _, rfl⟩
      have hm : ∀ {y6 : Sv} {as : List Dt}, muAt (alS p n k x3 (.mu M.length) (.im (Wd w)) y6 (M ++ [.ob (.ls as)])) 4 = some (M.length, as) := muAt_run (by rfl) get_last
      have hcat : catT (Wd w) (.tup [.int (j : Int)]) = some (Wd (w ++ [(j : Int)])) := by
        unfold catT Wd
        dsimp only
        rw [if_pos (by simp; omega)]
        simp
      show appS 4 _ (alS p n k x3 (.mu M.length) (.im (Wd w)) (.im (.int (j : Int))) (M ++ [.ob (.ls ((acc ++ (List.range j).map fun (a : Nat) => w ++ [(a : Int)]).map Wd))])) = _
      rw [appS_run, hm]
      dsimp only
      rw [op2_run, varE_im (d := Wd w) (by rfl), R.bind_ok, tupE_run, aCons_run, varE_im (d := .int (j : Int)) (by rfl), R.bind_ok, aNil_run, R.bind_ok, R.bind_ok, if_pos (show [Dt.int (j : Int)].length ≤ 100000 from by simp), R.bind_ok, hcat, R.of_some, R.stmt_ok, hm]
      dsimp only
      rw [if_pos (by simp; omega)]
      show O.nx { sl := _, mo := (M ++ [_]).set M.length _ } = _
      rw [set_last, List.range_succ]
      simp [alS])
  obtain ⟨_, y6, rfl⟩ := f2
  rw [List.length_map, List.length_range] at f1
  refine ⟨y6, ?_⟩
  unfold alX
  rw [forS_run, hit, R.stmt_ok, f1]
  rfl
theorem alW_run {p n : Int} {j k : Nat} {x3 x4 x5 x6 : Sv} {mo : List Mo} (hp : okP p = true) (hj : j < 100) (hmo : mo[k]? = some (.ob (.ls ((allN p j).map Wd)))) (hl : p.toNat ^ (j + 1) ≤ 10000) :
    ∃ k' y4 y5 y6 mo', alW (alS p n (.mu k) x3 x4 x5 x6 mo) = .nx (alS p n (.mu k') x3 y4 y5 y6 mo') ∧ mo'[k']? = some (.ob (.ls ((allN p (j + 1)).map Wd))) := by
  obtain ⟨hp1, hp2⟩ := okP_iff.mp hp
  have hk : k < mo.length := (List.getElem?_eq_some_iff.mp hmo).1
  have e1 : asgN 4 (lstE aNil) (alS p n (.mu k) x3 x4 x5 x6 mo) = .nx (alS p n (.mu k) x3 (.mu mo.length) x5 x6 (mo ++ [.ob (.ls [])])) := by
    simp only [asgN_run', lstE_nil]
    rfl
  have hlen := allN_len p j
  have hit : itS (frz (calN (aCons (varE 2) aNil) lstO)) (alS p n (.mu k) x3 (.mu mo.length) x5 x6 (mo ++ [.ob (.ls [])])) = .ok ((allN p j).map Wd) (alS p n (.mu k) x3 (.mu (mo.set k (.fz (.lst ((allN p j).map Wd)))).length) x5 x6 (mo.set k (.fz (.lst ((allN p j).map Wd))) ++ [.ob (.ls ([].map Wd))])) := by
    rw [itS_run, frz_run', calN_run, aCons_run, varE_mu (k := k) (xs := (allN p j).map Wd) (by rfl) (by show (mo ++ _)[k]? = _; rw [List.getElem?_append_left hk]; exact hmo)]
    simp only [R.bind_ok, aNil_run, lstO_lst, R.of_some, seqOf_lst]
    show R.ok _ { sl := _, mo := (mo ++ _).set k _ } = _
    rw [List.set_append_left k _ hk, List.length_set]
    rfl
  generalize hM : mo.set k (.fz (.lst ((allN p j).map Wd))) = M at *
  have hll : ∀ i, i ≤ (allN p j).length → (((allN p j).take i).flatMap (extW p)).length = i * p.toNat := fun i hi => by
    rw [List.length_flatMap]
    simp only [extW_len, List.map_const', List.sum_replicate_nat, List.length_take, Nat.min_eq_left hi]
  obtain ⟨S', f1, f2⟩ := forL_inv (k := (Tk.nm 5).k) (body := alX) ((allN p j).map Wd)
    (fun i S => i ≤ (allN p j).length ∧ ∃ y5 y6, S = alS p n (.mu k) x3 (.mu M.length) y5 y6 (M ++ [.ob (.ls ((((allN p j).take i).flatMap (extW p)).map Wd))])) (alS p n (.mu k) x3 (.mu M.length) x5 x6 (M ++ [.ob (.ls ([].map Wd))])) ⟨by omega, x5, x6, by simp⟩ (fun i d S hd hI => by
      obtain ⟨hi, y5, y6, rfl⟩ := hI
      have hin : i < (allN p j).length := by
        have := (List.getElem?_eq_some_iff.mp hd).1
        simpa using this
      have hdj : d = Wd (allN p j)[i] := by
        rw [List.getElem?_map, List.getElem?_eq_getElem hin] at hd
        exact (Option.some.inj hd).symm
      subst hdj
      have hwl := allN_wlen p j _ (List.getElem_mem hin)
      have hbound : i * p.toNat + p.toNat ≤ 10000 := by
        have : (i + 1) * p.toNat ≤ p.toNat ^ j * p.toNat := Nat.mul_le_mul_right _ (by rw [hlen] at hin; exact hin)
        have e3 : p.toNat ^ j * p.toNat = p.toNat ^ (j + 1) := rfl
        rw [e3, Nat.add_mul, Nat.one_mul] at this
        exact Nat.le_trans this hl
      obtain ⟨z6, e⟩ := alX_run (n := n) (k := .mu k) (x3 := x3) (x6 := y6) (w := (allN p j)[i]) (M := M) (acc := ((allN p j).take i).flatMap (extW p)) hp (by omega) (by rw [hll i hi]; omega)
      refine ⟨_, _, kNm _ _ _, .inl e, hin, .im (Wd (allN p j)[i]), z6, ?_⟩
      rw [List.take_succ_eq_append_getElem hin, List.flatMap_append]
      simp)
  obtain ⟨_, y5, y6, rfl⟩ := f2
  rw [List.length_map, List.take_length] at f1
  refine ⟨M.length, .mu M.length, y5, y6, M ++ [.ob (.ls (((allN p j).flatMap (extW p)).map Wd))], ?_, ?_⟩
  · unfold alW
    rw [seqS_run, e1, seq_nx, seqS_run, forS_run, hit, R.stmt_ok, f1, seq_nx, moveS_mu (k := M.length) (by rfl)]
    rfl
  · rw [get_last, allN_succ]
theorem run_all15 (ds : List Dt) (h : Fall15 ds ≠ .no) : runD 7 m_all15 ds = Fall15 ds := by
  unfold Fall15 at h
  split at h
  · rename_i a b
    unfold Fall at h
    split at h
    · rename_i n p heq
      simp only [List.cons.injEq, and_true] at heq
      obtain ⟨rfl, rfl⟩ := heq
      split at h
      · rename_i hc
        have e : Fall15 [.int p, .int n] = .ok (.lst ((allN p n.toNat).map Wd)) := by
          unfold Fall15 Fall
          dsimp only
          rw [if_pos hc]
        simp only [Bool.and_eq_true, decide_eq_true_eq] at hc
        obtain ⟨⟨hp, hn⟩, hl⟩ := hc
        obtain ⟨n, rfl⟩ : ∃ k : Nat, n = (k : Int) := ⟨n.toNat, by omega⟩
        rw [Int.toNat_natCast] at hl
        rw [e, Int.toNat_natCast]
        obtain ⟨hp1, hp2⟩ := okP_iff.mp hp
        have e1 : asgN 2 (lstE (aCons (tupE aNil) aNil)) (st0 7 [.int p, .int (n : Int)]) = .nx (alS p n (.mu 0) .no .no .no .no [.ob (.ls ((allN p 0).map Wd))]) := by
          simp [st0, alS, allN, Wd]
        have hit : itR1 (aCons (varE 1) aNil) (alS p n (.mu 0) .no .no .no .no [.ob (.ls ((allN p 0).map Wd))]) = .ok ((List.range n).map fun (i : Nat) => Dt.int (i : Int)) (alS p n (.mu 0) .no .no .no .no [.ob (.ls ((allN p 0).map Wd))]) := itR1_run (by simp [alS]) (by omega)
        obtain ⟨S', f1, f2⟩ := forL_inv (k := (Tk.nm 3).k) (body := alW) ((List.range n).map fun (i : Nat) => Dt.int (i : Int))
          (fun j S => j ≤ n ∧ ∃ k y3 y4 y5 y6 mo, S = alS p n (.mu k) y3 y4 y5 y6 mo ∧ mo[k]? = some (.ob (.ls ((allN p j).map Wd)))) (alS p n (.mu 0) .no .no .no .no [.ob (.ls ((allN p 0).map Wd))]) ⟨by omega, 0, .no, .no, .no, .no, _, rfl, rfl⟩ (fun j d S hd hI => by
            obtain ⟨hj, k, y3, y4, y5, y6, mo, rfl, hmo⟩ := hI
            have hjn : j < n := by
              have := (List.getElem?_eq_some_iff.mp hd).1
              simpa using this
            obtain ⟨k', z4, z5, z6, mo', e, hmo'⟩ := alW_run (n := (n : Int)) (x3 := .im d) (x4 := y4) (x5 := y5) (x6 := y6) hp (by omega) hmo (Nat.le_trans (Nat.pow_le_pow_right (by omega) (by omega)) hl)
            exact ⟨_, _, kNm _ _ _, .inl e, by omega, k', _, _, _, _, mo', rfl, hmo'⟩)
        obtain ⟨_, k, y3, y4, y5, y6, mo, rfl, hmo⟩ := f2
        rw [List.length_map, List.length_range] at hmo
        unfold runD m_all15
        rw [seqS_run, e1, seq_nx, seqS_run, forS_run, hit, R.stmt_ok, f1, seq_nx, retS_run, varE_mu (k := k) (by rfl) hmo]
        rfl
      · exact absurd rfl h
    · exact absurd rfl h
  · exact absurd rfl h
/-! ### the shape -/
def m__law_shape (Fnext : List Dt → List Dt → FoM) : Ms → O := (seqS (asgS 1 (op2 (frz (lstE (aCons (cE (.int 2)) (aCons (cE (.int 2)) (aCons (cE (.int 3)) (aCons (cE (.int 5)) aNil)))))) (funM 1 0 (aCons (cE (.int 4)) aNil) Fnext) ixO))
  (seqS (asgS 2 (op2 (frz (lstE (aCons (funM 1 0 (aCons (cE (.int 6)) aNil) Fnext) (aCons (funM 1 0 (aCons (cE (.int 5)) aNil) Fnext) (aCons (funM 1 0 (aCons (cE (.int 4)) aNil) Fnext) aNil))))) (op2 (calE (aCons (op2 (varE 1) (cE (.int 2)) gtO) aNil) intO) (calE (aCons (op2 (varE 1) (cE (.int 3)) gtO) aNil) intO) addO) ixO))
  (retS (tupE (aCons (varE 1) (aCons (varE 2) aNil))))))
noncomputable def Fshape : List Dt → List Dt → FoM := runM 3 (m__law_shape Fnext)
def shape (p : Int) (n : Nat) : Prop := (p = 2 ∧ n ≤ 5) ∨ (p = 3 ∧ n ≤ 4) ∨ (p = 5 ∧ n ≤ 3)
theorem Fshape_run {ns : List Int} (h : okN ns) : ∃ p n ns', okN ns' ∧ shape p n ∧ Fshape (ns.map Dt.int) [] = .ok (.tup [.int p, .int (n : Int)]) (ns'.map Dt.int) := by
  have a := next_ok h (m := 4) (by decide)
  have fa := Fnext_run (m := 4) (by decide) h.1
  generalize nextF 4 ns = u at *
  obtain ⟨u, ns1⟩ := u
  dsimp only at a fa
  have b := next_ok a.2 (m := 6) (by decide)
  have fb := Fnext_run (m := 6) (by decide) a.2.1
  generalize nextF 6 ns1 = v at *
  obtain ⟨v, ns2⟩ := v
  dsimp only at b fb
  have c := next_ok b.2 (m := 5) (by decide)
  have fc := Fnext_run (m := 5) (by decide) b.2.1
  generalize nextF 5 ns2 = w at *
  obtain ⟨w, ns3⟩ := w
  dsimp only at c fc
  have d := next_ok c.2 (m := 4) (by decide)
  have fd := Fnext_run (m := 4) (by decide) c.2.1
  generalize nextF 4 ns3 = z at *
  obtain ⟨z, ns4⟩ := z
  dsimp only at d fd
  obtain ⟨v, rfl⟩ : ∃ k : Nat, v = (k : Int) := ⟨v.toNat, by omega⟩
  obtain ⟨w, rfl⟩ : ∃ k : Nat, w = (k : Int) := ⟨w.toNat, by omega⟩
  obtain ⟨z, rfl⟩ : ∃ k : Nat, z = (k : Int) := ⟨z.toNat, by omega⟩
  have hu : u = 0 ∨ u = 1 ∨ u = 2 ∨ u = 3 := by omega
  have i0 : ∀ (a b c d : Dt), atI [a, b, c, d] 0 = some a := fun _ _ _ _ => rfl
  have i1 : ∀ (a b c d : Dt), atI [a, b, c, d] 1 = some b := fun _ _ _ _ => rfl
  have i2 : ∀ (a b c d : Dt), atI [a, b, c, d] 2 = some c := fun _ _ _ _ => rfl
  have i3 : ∀ (a b c d : Dt), atI [a, b, c, d] 3 = some d := fun _ _ _ _ => rfl
  have j0 : ∀ (a b c : Dt), atI [a, b, c] 0 = some a := fun _ _ _ => rfl
  have j1 : ∀ (a b c : Dt), atI [a, b, c] 1 = some b := fun _ _ _ => rfl
  have j2 : ∀ (a b c : Dt), atI [a, b, c] 2 = some c := fun _ _ _ => rfl
  unfold Fshape runM m__law_shape
  rcases hu with rfl | rfl | rfl | rfl
  · refine ⟨2, v, ns4, d.2, .inl ⟨rfl, by omega⟩, ?_⟩
    simp [stM, funM, muAt, fa, fb, fc, fd, i0, j0, O.foM, mo0]
  · refine ⟨2, v, ns4, d.2, .inl ⟨rfl, by omega⟩, ?_⟩
    simp [stM, funM, muAt, fa, fb, fc, fd, i1, j0, O.foM, mo0]
  · refine ⟨3, w, ns4, d.2, .inr (.inl ⟨rfl, by omega⟩), ?_⟩
    simp [stM, funM, muAt, fa, fb, fc, fd, i2, j1, O.foM, mo0]
  · refine ⟨5, z, ns4, d.2, .inr (.inr ⟨rfl, by omega⟩), ?_⟩
    simp [stM, funM, muAt, fa, fb, fc, fd, i3, j2, O.foM, mo0]
end Lq

namespace Lq
open PySem PySem.Spec PyProof.Rows L2
/-! ### what is counted -/
def dotN (n : Nat) (x y : List Int) : Int := ((List.range n).map fun k => x.getD k 0 * y.getD k 0).sum
def stepC (p : Int) (n : Nat) (x : List Int) (j : Int) (cs : List Int) (y : List Int) : List Int :=
  if (wtW y : Int) = j then cs.set (dotN n x y % p).toNat (cs.getD (dotN n x y % p).toNat 0 + 1) else cs
def cntL (p : Int) (n : Nat) (x : List Int) (j : Int) : List Int := (allN p n).foldl (stepC p n x j) (List.replicate p.toNat 0)
def subW (p : Int) (n : Nat) (x y : List Int) : List Int := (List.range n).map fun k => (x.getD k 0 - y.getD k 0) % p
def nearL (p : Int) (n : Nat) (x : List Int) (t : Int) : List (List Int) := (allN p n).filter fun y => decide ((wtW (subW p n x y) : Int) ≤ t)
def chk1 (p : Int) (n : Nat) (x : List Int) (j : Nat) : Bool :=
  let cs := cntL p n x (j : Int)
  ((List.range (p - 2).toNat).all fun k => decide (cs.getD (k + 2) 0 = cs.getD 1 0)) && decide (krawI p (n : Int) (j : Int) (wtW x : Int) = cs.getD 0 0 - cs.getD 1 0)
def chk2 (p : Int) (n : Nat) (x : List Int) (t : Nat) : Bool := decide (ballI p (n : Int) (t : Int) = ((nearL p n x (t : Int)).length : Int))
def chkX (p : Int) (n : Nat) (x : List Int) : Bool := ((List.range (n + 1)).all (chk1 p n x)) && ((List.range (n + 2)).all (chk2 p n x))
def chkP (p : Int) (n : Nat) : Bool := (allN p n).all (chkX p n)
def part (p : Int) (n k i : Nat) : Bool := (((allN p n).drop (k * i)).take k).all (chkX p n)
theorem parts_all {α : Type} {f : α → Bool} (k : Nat) : ∀ (m : Nat) (l : List α), l.length ≤ k * m → (∀ i, i < m → ((l.drop (k * i)).take k).all f = true) → l.all f = true
  | 0, l, hl, _ => by
    have : l = [] := List.eq_nil_of_length_eq_zero (by omega)
    rw [this]; rfl
  | m + 1, l, hl, h => by
    have h0 := h 0 (by omega)
    rw [Nat.mul_zero, List.drop_zero] at h0
    have h1 := parts_all k m (l.drop k) (by rw [List.length_drop, Nat.mul_succ] at *; omega) (fun i hi => by
      have := h (i + 1) (by omega)
      rw [List.drop_drop]
      have e : k + k * i = k * (i + 1) := by rw [Nat.mul_succ, Nat.add_comm]
      rw [e]
      exact this)
    rw [← List.take_append_drop k l, List.all_append, h0, h1]
    rfl
theorem chk_2 : ((List.range 5).all (chkP 2)) = true := by decide +kernel
theorem chk_25_0 : part 2 5 8 0 = true := by decide +kernel
theorem chk_25_1 : part 2 5 8 1 = true := by decide +kernel
theorem chk_25_2 : part 2 5 8 2 = true := by decide +kernel
theorem chk_25_3 : part 2 5 8 3 = true := by decide +kernel
theorem chk_3 : ((List.range 4).all (chkP 3)) = true := by decide +kernel
theorem chk_34_0 : part 3 4 9 0 = true := by decide +kernel
theorem chk_34_1 : part 3 4 9 1 = true := by decide +kernel
theorem chk_34_2 : part 3 4 9 2 = true := by decide +kernel
theorem chk_34_3 : part 3 4 9 3 = true := by decide +kernel
theorem chk_34_4 : part 3 4 9 4 = true := by decide +kernel
theorem chk_34_5 : part 3 4 9 5 = true := by decide +kernel
theorem chk_34_6 : part 3 4 9 6 = true := by decide +kernel
theorem chk_34_7 : part 3 4 9 7 = true := by decide +kernel
theorem chk_34_8 : part 3 4 9 8 = true := by decide +kernel
theorem chk_5 : ((List.range 3).all (chkP 5)) = true := by decide +kernel
theorem chk_53_0 : part 5 3 10 0 = true := by decide +kernel
theorem chk_53_1 : part 5 3 10 1 = true := by decide +kernel
theorem chk_53_2 : part 5 3 10 2 = true := by decide +kernel
theorem chk_53_3 : part 5 3 10 3 = true := by decide +kernel
theorem chk_53_4 : part 5 3 10 4 = true := by decide +kernel
theorem chk_53_5 : part 5 3 10 5 = true := by decide +kernel
theorem chk_53_6 : part 5 3 10 6 = true := by decide +kernel
theorem chk_53_7 : part 5 3 10 7 = true := by decide +kernel
theorem chk_53_8 : part 5 3 10 8 = true := by decide +kernel
theorem chk_53_9 : part 5 3 10 9 = true := by decide +kernel
theorem chk_53_10 : part 5 3 10 10 = true := by decide +kernel
theorem chk_53_11 : part 5 3 10 11 = true := by decide +kernel
theorem chk_53_12 : part 5 3 10 12 = true := by decide +kernel
theorem len_25 : (allN 2 5).length ≤ 8 * 4 := by decide +kernel
theorem len_34 : (allN 3 4).length ≤ 9 * 9 := by decide +kernel
theorem len_53 : (allN 5 3).length ≤ 10 * 13 := by decide +kernel
theorem chk25 : chkP 2 5 = true := parts_all 8 4 _ len_25 fun i hi => match i, hi with
  | 0, _ => chk_25_0 | 1, _ => chk_25_1 | 2, _ => chk_25_2 | 3, _ => chk_25_3
theorem chk34 : chkP 3 4 = true := parts_all 9 9 _ len_34 fun i hi => match i, hi with
  | 0, _ => chk_34_0 | 1, _ => chk_34_1 | 2, _ => chk_34_2 | 3, _ => chk_34_3 | 4, _ => chk_34_4 | 5, _ => chk_34_5 | 6, _ => chk_34_6 | 7, _ => chk_34_7 | 8, _ => chk_34_8
theorem chk53 : chkP 5 3 = true := parts_all 10 13 _ len_53 fun i hi => match i, hi with
  | 0, _ => chk_53_0 | 1, _ => chk_53_1 | 2, _ => chk_53_2 | 3, _ => chk_53_3 | 4, _ => chk_53_4 | 5, _ => chk_53_5 | 6, _ => chk_53_6 | 7, _ => chk_53_7 | 8, _ => chk_53_8 | 9, _ => chk_53_9 | 10, _ => chk_53_10 | 11, _ => chk_53_11 | 12, _ => chk_53_12
theorem chk_all {p : Int} {n : Nat} (h : shape p n) : chkP p n = true := by
  rcases h with ⟨rfl, h⟩ | ⟨rfl, h⟩ | ⟨rfl, h⟩
  · by_cases e : n = 5
    · rw [e]; exact chk25
    · exact List.all_eq_true.mp chk_2 n (List.mem_range.mpr (by omega))
  · by_cases e : n = 4
    · rw [e]; exact chk34
    · exact List.all_eq_true.mp chk_3 n (List.mem_range.mpr (by omega))
  · by_cases e : n = 3
    · rw [e]; exact chk53
    · exact List.all_eq_true.mp chk_5 n (List.mem_range.mpr (by omega))
end Lq

namespace Lq
open PySem PySem.Spec PyProof.Rows L2
/-! ### the words of a kernel -/
def natsOf (ds : List Dt) : Option (List Nat) := (intsOf ds).bind fun ns => if (ns.all fun i => decide (0 ≤ i)) = true then some (ns.map Int.toNat) else none
theorem natsOf_map (P : List Nat) : natsOf (P.map fun (c : Nat) => Dt.int (c : Int)) = some P := by
  have e : (P.map fun (c : Nat) => Dt.int (c : Int)) = (P.map fun (c : Nat) => (c : Int)).map Dt.int := by rw [List.map_map]; rfl
  unfold natsOf
  rw [e, intsOf_map]
  dsimp only [Option.bind]
  rw [if_pos (by rw [List.all_eq_true]; intro x hx; obtain ⟨c, _, rfl⟩ := List.mem_map.mp hx; exact decide_eq_true (by omega)), List.map_map]
  congr 1
  exact (List.map_congr_left fun x _ => by simp).trans (List.map_id _)
theorem natsOf_eq {ds : List Dt} {P : List Nat} (h : natsOf ds = some P) : ds = P.map fun (c : Nat) => Dt.int (c : Int) := by
  unfold natsOf at h
  obtain ⟨ns, h1, h2⟩ := Option.bind_eq_some_iff.mp h
  split at h2
  · rename_i hc
    cases h2
    rw [intsOf_eq h1, List.map_map]
    rw [List.all_eq_true] at hc
    refine List.map_congr_left fun x hx => ?_
    have := of_decide_eq_true (hc x hx)
    simp only [Function.comp]
    rw [Int.toNat_of_nonneg this]
  · cases h2
theorem ixN_nat {n k : Nat} (h : k < n) : ixN n (k : Int) = some k := by
  unfold ixN
  rw [if_pos (by omega), if_pos (by omega), Int.toNat_natCast]
theorem setS_run {i k j : Nat} {f g : Ms → R Dt} {S : Ms} {xs : List Dt} {d : Dt} {z : Int} (h1 : f S = .ok d S) (hm : muAt S i = some (k, xs)) (h2 : g S = .ok (.int z) S) (hj : ixN xs.length z = some j) : setS i f g S = .nx { S with mo := S.mo.set k (.ob (.ls (xs.set j d))) } := by
  unfold setS
  rw [h1, R.stmt_ok, hm]
  dsimp only
  rw [h2, R.stmt_ok, hm]
  dsimp only
  rw [hj]
def m__kernel_word : Ms → O := (seqS (asgN 5 (opN (frz (lstE (aCons (cE (.int 0)) aNil))) (varE 3) repL))
  (seqS (setS 5 (cE (.int 1)) (varE 2))
  (seqS (forS (itZ (aCons (varE 0) (aCons (varE 1) aNil))) (Tk.tp [6, 7]).k (setS 5 (op2 (op1 (op2 (varE 6) (varE 2) ixO) negO) (varE 4) modO) (varE 7)))
  (retS (calE (aCons (varE 5) aNil) tupO)))))
def kwL (p : Int) (n f : Nat) (qs : List (List Int × Nat)) : List Int := qs.foldl (fun w q => w.set q.2 (-(g q.1 f) % p)) ((List.replicate n 0).set f 1)
def Fkword : List Dt → Fo
  | [.tup ds, .tup es, .int f, .int n, .int p] => match wordsOf ds, natsOf es with
    | some T, some P => if (okP p && okRb p n.toNat T && decide (0 ≤ n ∧ n ≤ 1000) && decide (T.length ≤ 1000) && decide (0 ≤ f ∧ f < n) && P.all fun c => decide (c < n.toNat)) = true then .ok (Wd (kwL p n.toNat f.toNat (T.zip P))) else .no
    | _, _ => .no
  | _ => .no
theorem Fkword_run {p : Int} {n f : Nat} {T : List (List Int)} {P : List Nat} (hp : okP p = true) (hT : okR p n T) (hn : n ≤ 1000) (hl : T.length ≤ 1000) (hf : f < n) (hP : ∀ c ∈ P, c < n) : Fkword [TD T, PD P, .int f, .int n, .int p] = .ok (Wd (kwL p n f (T.zip P))) := by
  unfold Fkword TD PD
  simp only [wordsOf_map, natsOf_map, Int.toNat_natCast]
  rw [if_pos]
  simp [hp, okRb_iff.mpr hT, hl]
  first | exact hP | exact ⟨hn, hP⟩ | exact ⟨by omega, hP⟩ | exact ⟨by omega, by omega, hP⟩ | exact ⟨⟨by omega, by omega⟩, hP⟩
theorem zipD_wn : ∀ (rows : List (List Int)) (ws : List Nat), zipD (rows.map Wd) (ws.map fun (c : Nat) => Dt.int (c : Int)) = (rows.zip ws).map fun q => Dt.tup [Wd q.1, .int (q.2 : Int)]
  | [], _ => by simp [zipD]
  | _ :: _, [] => by simp [zipD]
  | a :: v, b :: w => by
    have := zipD_wn v w
    unfold zipD at this ⊢
    simp [this]
theorem repL_run {n : Nat} (hn : n ≤ 1000) : repL (.lst [.int 0]) (.int (n : Int)) = some ((List.replicate n (0 : Int)).map Dt.int) := by
  show (if _ then _ else _) = _
  have : ([Dt.int 0] : List Dt).length ≤ 100 ∧ (0 : Int) ≤ (n : Int) ∧ (n : Int) ≤ 1000 := ⟨by simp, by omega, by omega⟩
  rw [if_pos this, Int.toNat_natCast, rep_int]
theorem setl (w : List Int) (k : Nat) (x : Int) : (w.map Dt.int).set k (.int x) = (w.set k x).map Dt.int := by rw [List.map_set]
def kwS (T : List (List Int)) (P : List Nat) (f n : Nat) (p : Int) (w : List Int) (x6 x7 : Sv) : Ms := { sl := [.im (TD T), .im (PD P), .im (.int f), .im (.int n), .im (.int p), .mu 0, x6, x7], mo := [.ob (.ls (w.map Dt.int))] }
theorem run__kernel_word (ds : List Dt) (h : Fkword ds ≠ .no) : runD 8 m__kernel_word ds = Fkword ds := by
  unfold Fkword at h
  split at h
  · rename_i ds es f n p
    split at h
    · rename_i T P h1 h2
      split at h
      · rename_i hc
        have := wordsOf_eq h1
        have := natsOf_eq h2
        subst_vars
        simp only [Bool.and_eq_true, decide_eq_true_eq, List.all_eq_true] at hc
        obtain ⟨⟨⟨⟨⟨hp, hT⟩, hn⟩, hl⟩, hf⟩, hP⟩ := hc
        obtain ⟨n, rfl⟩ : ∃ k : Nat, n = (k : Int) := ⟨n.toNat, by omega⟩
        obtain ⟨f, rfl⟩ : ∃ k : Nat, f = (k : Int) := ⟨f.toNat, by omega⟩
        rw [Int.toNat_natCast] at hT hP
        have hT := okRb_iff.mp hT
        have hn1 : n ≤ 1000 := by omega
        have hf1 : f < n := by omega
        have hp1 := (okP_iff.mp hp).1
        have e0 : Fkword [.tup (T.map Wd), .tup (P.map fun (c : Nat) => Dt.int (c : Int)), .int (f : Int), .int (n : Int), .int p] = _ := Fkword_run hp hT hn1 hl hf1 hP
        rw [e0]
        have hst : st0 8 [.tup (T.map Wd), .tup (P.map fun (c : Nat) => Dt.int (c : Int)), .int (f : Int), .int (n : Int), .int p] = { sl := [.im (TD T), .im (PD P), .im (.int f), .im (.int n), .im (.int p), .no, .no, .no], mo := [] } := rfl
        have e1 : asgN 5 (opN (frz (lstE (aCons (cE (.int 0)) aNil))) (varE 3) repL) { sl := [.im (TD T), .im (PD P), .im (.int f), .im (.int n), .im (.int p), .no, .no, .no], mo := [] } = .nx (kwS T P f n p (List.replicate n 0) .no .no) := by
          have := repL_run hn1
          simp [this, kwS]
        have e2 : setS 5 (cE (.int 1)) (varE 2) (kwS T P f n p (List.replicate n 0) .no .no) = .nx (kwS T P f n p ((List.replicate n 0).set f 1) .no .no) := by
          refine (setS_run (k := 0) (j := f) (d := .int 1) (z := (f : Int)) rfl (muAt_run rfl rfl) (varE_im rfl) (ixN_nat (by simp; omega))).trans ?_
          rw [setl]
          rfl
        have hit : itZ (aCons (varE 0) (aCons (varE 1) aNil)) (kwS T P f n p ((List.replicate n 0).set f 1) .no .no) = .ok ((T.zip P).map fun q => Dt.tup [Wd q.1, .int (q.2 : Int)]) (kwS T P f n p ((List.replicate n 0).set f 1) .no .no) := by
          simp [kwS, TD, PD, zipD_wn]
        obtain ⟨S', f1, hok, y6, y7, f2⟩ := forL_fold (k := (Tk.tp [6, 7]).k) (body := setS 5 (op2 (op1 (op2 (varE 6) (varE 2) ixO) negO) (varE 4) modO) (varE 7)) (fun q : List Int × Nat => Dt.tup [Wd q.1, .int (q.2 : Int)])
          (fun _ (w : List Int) S => w.length = n ∧ ∃ y6 y7, S = kwS T P f n p w y6 y7) (fun w q => w.set q.2 (-(g q.1 f) % p)) (T.zip P) 0 ((List.replicate n 0).set f 1) _ ⟨by simp, .no, .no, rfl⟩ (fun _ w q S hq _ hI => by
            obtain ⟨hw, y6, y7, rfl⟩ := hI
            have hq1 := hT _ (List.of_mem_zip hq).1
            have hq2 := hP _ (List.of_mem_zip hq).2
            have e3 := wg_ix (r := q.1) (k := f) (by rw [hq1.2]; exact hf1)
            have hs1 : op2 (op1 (op2 (varE 6) (varE 2) ixO) negO) (varE 4) modO (kwS T P f n p w (.im (Wd q.1)) (.im (.int (q.2 : Int)))) = .ok (.int (-(g q.1 f) % p)) (kwS T P f n p w (.im (Wd q.1)) (.im (.int (q.2 : Int)))) := by simp [kwS, e3, hp1]
            have hs2 := setS_run (i := 5) (k := 0) (xs := w.map Dt.int) (j := q.2) (z := (q.2 : Int)) (g := varE 7) hs1 (muAt_run rfl rfl) (varE_im rfl) (ixN_nat (by rw [List.length_map, hw]; exact hq2))
            rw [setl] at hs2
            exact ⟨kwS T P f n p w (.im (Wd q.1)) (.im (.int (q.2 : Int))), kwS T P f n p (w.set q.2 (-(g q.1 f) % p)) (.im (Wd q.1)) (.im (.int (q.2 : Int))), by simp [kNames, kwS], .inl hs2, by rw [List.length_set]; exact hw, _, _, rfl⟩)
        unfold runD m__kernel_word
        rw [hst, seqS_run, e1, seq_nx, seqS_run, e2, seq_nx, seqS_run, forS_run, hit, R.stmt_ok, f1, seq_nx, f2]
        simp [kwS]
        rfl
      · exact absurd rfl h
    · exact absurd rfl h
  · exact absurd rfl h
def m_kernel : Ms → O := (seqS (asgT (Tk.tp [3, 4]) (funE 3 (aCons (varE 0) (aCons (varE 1) (aCons (varE 2) aNil))) Freduced))
  (retS (calE (aCons (frz (lcE (itR1 (aCons (varE 1) aNil)) (Tk.nm 5).k (tst (op2 (varE 5) (varE 4) (inI true))) (funE 5 (aCons (varE 3) (aCons (varE 4) (aCons (varE 5) (aCons (varE 1) (aCons (varE 2) aNil))))) Fkword) [5])) aNil) tupO)))
theorem contains_nat (P : List Nat) (c : Nat) : (P.map fun (c : Nat) => (c : Int)).contains (c : Int) = decide (c ∈ P) := by
  rw [Bool.eq_iff_iff, List.contains_iff_mem, decide_eq_true_eq, List.mem_map]
  constructor
  · rintro ⟨a, ha, e⟩
    have : a = c := by omega
    exact this ▸ ha
  · exact fun h => ⟨c, h, rfl⟩
theorem intsOf_pd (P : List Nat) : intsOf (P.map fun (c : Nat) => Dt.int (c : Int)) = some (P.map fun (c : Nat) => (c : Int)) := by
  have e : (P.map fun (c : Nat) => Dt.int (c : Int)) = (P.map fun (c : Nat) => (c : Int)).map Dt.int := by rw [List.map_map]; rfl
  rw [e, intsOf_map]
theorem nin_pd (P : List Nat) (c : Nat) : inI true (.int (c : Int)) (PD P) = some (.bl (decide (c ∉ P))) := by
  unfold inI PD
  dsimp only
  rw [seqOf_tup]
  dsimp only [Option.bind]
  rw [intsOf_pd]
  dsimp only [Option.map]
  rw [contains_nat, if_pos rfl, decide_not]
theorem in_pd (P : List Nat) (c : Nat) : inI false (.int (c : Int)) (PD P) = some (.bl (decide (c ∈ P))) := by
  unfold inI PD
  dsimp only
  rw [seqOf_tup]
  dsimp only [Option.bind]
  rw [intsOf_pd]
  dsimp only [Option.map]
  rw [contains_nat]
  rfl
def frees (n : Nat) (P : List Nat) : List Nat := (List.range n).filter fun c => decide (c ∉ P)
def kerL (p : Int) (n : Nat) (s : Red) : List (List Int) := (frees n s.P).map fun f => kwL p n f (s.T.zip s.P)
def Fkernel : List Dt → Fo
  | [d, .int w, .int p] => match (seqOf d).bind wordsOf with
    | some rows => if (isP p && decide (0 ≤ w ∧ w ≤ 1000) && decide (rows.length ≤ 1000) && okRb p w.toNat rows) = true then .ok (TD (kerL p w.toNat (redN p rows w.toNat))) else .no
    | none => .no
  | _ => .no
theorem Fkernel_run {p : Int} {n : Nat} {rows : List (List Int)} {d : Dt} (hd : seqOf d = some (rows.map Wd)) (hp : isP p = true) (hn : n ≤ 1000) (hl : rows.length ≤ 1000) (h : okR p n rows) : Fkernel [d, .int n, .int p] = .ok (TD (kerL p n (redN p rows n))) := by
  unfold Fkernel
  dsimp only
  rw [hd]
  simp only [Option.bind, wordsOf_map, Int.toNat_natCast]
  rw [if_pos]
  simp [hp, okRb_iff.mpr h, hl]
  omega
theorem pk_mem {P : List Nat} {n at_ : Nat} {T : List (List Int)} (h : Rr at_ T P) {c : Nat} (hc : c ∈ P) : c < at_ := by
  obtain ⟨k, hk, e⟩ := List.getElem_of_mem hc
  have := h.lt k hk
  unfold pk at this
  rw [List.getD_eq_getElem?_getD, List.getElem?_eq_getElem hk] at this
  rw [← e]
  exact this
theorem asgT_two {i j : Nat} {f : Ms → R Dt} {S S1 : Ms} {d e : Dt} (h : f S = .ok (.tup [d, e]) S1) : asgT (Tk.tp [i, j]) f S = .nx { S1 with sl := (S1.sl.set i (.im d)).set j (.im e) } := by
  rw [asgT_run', h, R.stmt_ok]
  rfl
theorem run_kernel (ds : List Dt) (h : Fkernel ds ≠ .no) : runD 6 m_kernel ds = Fkernel ds := by
  unfold Fkernel at h
  split at h
  · rename_i d w p
    split at h
    · rename_i rows hrows
      split at h
      · rename_i hc
        simp only [Bool.and_eq_true, decide_eq_true_eq] at hc
        obtain ⟨⟨⟨hp, hw⟩, hl⟩, hk⟩ := hc
        obtain ⟨n, rfl⟩ : ∃ k : Nat, w = (k : Int) := ⟨w.toNat, by omega⟩
        rw [Int.toNat_natCast] at hk
        have hok := okRb_iff.mp hk
        obtain ⟨xs, hx1, hx2⟩ := Option.bind_eq_some_iff.mp hrows
        have hx3 := wordsOf_eq hx2
        subst hx3
        have hn : n ≤ 1000 := by omega
        rw [Fkernel_run hx1 hp hn hl hok]
        have hp' := isP_okP hp
        have e1 := Freduced_run hx1 hp hn hl hok
        have hI := RI_N hp hn hok n (Nat.le_refl _)
        have hT := redN_ok hp' hok n
        have hlen := redN_lens (p := p) (rows := rows) n
        generalize redN p rows n = s at *
        have hst : st0 6 [d, .int (n : Int), .int p] = { sl := [.im d, .im (.int n), .im (.int p), .no, .no, .no], mo := [] } := rfl
        have e2 : asgT (Tk.tp [3, 4]) (funE 3 (aCons (varE 0) (aCons (varE 1) (aCons (varE 2) aNil))) Freduced) { sl := [.im d, .im (.int n), .im (.int p), .no, .no, .no], mo := [] } = .nx { sl := [.im d, .im (.int n), .im (.int p), .im (TD s.T), .im (PD s.P), .no], mo := [] } := by
          refine (asgT_two (d := TD s.T) (e := PD s.P) (S1 := { sl := [.im d, .im (.int n), .im (.int p), .no, .no, .no], mo := [] }) ?_).trans rfl
          simp [e1]
          rfl
        have key : lcE (itR1 (aCons (varE 1) aNil)) (Tk.nm 5).k (tst (op2 (varE 5) (varE 4) (inI true))) (funE 5 (aCons (varE 3) (aCons (varE 4) (aCons (varE 5) (aCons (varE 1) (aCons (varE 2) aNil))))) Fkword) [5] { sl := [.im d, .im (.int n), .im (.int p), .im (TD s.T), .im (PD s.P), .no], mo := [] } = .ok ((frees n s.P).map fun f => Wd (kwL p n f (s.T.zip s.P))) { sl := [.im d, .im (.int n), .im (.int p), .im (TD s.T), .im (PD s.P), .no], mo := [] } := by
          refine lcE_flt (fun (c : Nat) => Dt.int (c : Int)) (fun c => decide (c ∉ s.P)) (fun f => Wd (kwL p n f (s.T.zip s.P))) (List.range n) (itR1_run (by simp) (by omega)) (fun c hc => ?_) (by simp; omega)
          have hc' := List.mem_range.mp hc
          have e3 := nin_pd s.P c
          have e4 := Fkword_run (f := c) hp' hT.1 hn (by omega) hc' (fun x hx => pk_mem (n := n) hI.rr hx)
          refine ⟨_, { sl := [.im d, .im (.int n), .im (.int p), .im (TD s.T), .im (PD s.P), .im (.int (c : Int))], mo := [] }, kNm _ _ _, by simp [wipeL, e3], rfl, fun _ => ⟨{ sl := [.im d, .im (.int n), .im (.int p), .im (TD s.T), .im (PD s.P), .im (.int (c : Int))], mo := [] }, by simp [e4], rfl⟩⟩
        unfold runD m_kernel
        rw [hst, seqS_run, e2, seq_nx, retS_run, calE_run, aCons_run, frz_run', key, R.bind_ok, R.bind_ok, aNil_run, R.bind_ok, R.bind_ok, tupO_lst, R.of_some, R.stmt_ok]
        show Fo.ok _ = Fo.ok _
        unfold TD kerL
        rw [List.map_map]
        rfl
      · exact absurd rfl h
    · exact absurd rfl h
  · exact absurd rfl h
end Lq

namespace Lq
open PySem PySem.Spec PyProof.Rows L2
/-! ### solutions -/
def m_solve : Ms → O := (seqS (asgS 4 (frz (lcE (itZ (aCons (varE 0) (aCons (varE 2) aNil))) (Tk.tp [8, 10]).k yesT (op2 (varE 8) (tupE (aCons (op2 (varE 10) (varE 3) modO) aNil)) catT) [8, 10])))
  (seqS (asgT (Tk.tp [6, 7]) (funE 3 (aCons (varE 4) (aCons (op2 (varE 1) (cE (.int 1)) addO) (aCons (varE 3) aNil))) Freduced))
  (seqS (ifS (tst (op2 (varE 1) (varE 7) (inI false))) (retS (cE .non)) nilS)
  (seqS (asgN 5 (opN (frz (lstE (aCons (cE (.int 0)) aNil))) (varE 1) repL))
  (seqS (forS (itZ (aCons (varE 6) (aCons (varE 7) aNil))) (Tk.tp [8, 9]).k (setS 5 (op2 (varE 8) (varE 1) ixO) (varE 9)))
  (retS (calE (aCons (varE 5) aNil) tupO)))))))
def widL (p : Int) (rows : List (List Int)) (right : List Int) : List (List Int) := (rows.zip right).map fun q => q.1 ++ [q.2 % p]
def svL (n : Nat) (qs : List (List Int × Nat)) : List Int := qs.foldl (fun w q => w.set q.2 (g q.1 n)) (List.replicate n 0)
def solD (n : Nat) (s : Red) : Dt := if n ∈ s.P then .non else Wd (svL n (s.T.zip s.P))
def Fsolve : List Dt → Fo
  | [.lst ds, .int n, .lst es, .int p] => match wordsOf ds, intsOf es with
    | some rows, some right => if (isP p && decide (0 ≤ n ∧ n ≤ 900) && decide (rows.length ≤ 900) && okRb p n.toNat rows) = true then .ok (solD n.toNat (redN p (widL p rows right) (n.toNat + 1))) else .no
    | _, _ => .no
  | _ => .no
theorem Fsolve_run {p : Int} {n : Nat} {rows : List (List Int)} {right : List Int} (hp : isP p = true) (hn : n ≤ 900) (hl : rows.length ≤ 900) (h : okR p n rows) : Fsolve [.lst (rows.map Wd), .int n, .lst (right.map Dt.int), .int p] = .ok (solD n (redN p (widL p rows right) (n + 1))) := by
  unfold Fsolve
  simp only [wordsOf_map, intsOf_map, Int.toNat_natCast]
  rw [if_pos]
  simp [hp, okRb_iff.mpr h, hl]
  omega
theorem widL_ok {p : Int} {n : Nat} {rows : List (List Int)} {right : List Int} (hp : okP p = true) (hn : n ≤ 900) (h : okR p n rows) : okR p (n + 1) (widL p rows right) := fun r hr => by
  obtain ⟨q, hq, rfl⟩ := List.mem_map.mp hr
  obtain ⟨h1, h2⟩ := h _ (List.of_mem_zip hq).1
  obtain ⟨h3, h4⟩ := okW_iff.mp h1
  have hp1 := (okP_iff.mp hp).1
  refine ⟨okW_iff.mpr ⟨by rw [List.length_append, h2]; simp; omega, fun x hx => ?_⟩, by rw [List.length_append, h2]; rfl⟩
  rcases List.mem_append.mp hx with hx | hx
  · exact h4 x hx
  · rw [List.mem_singleton] at hx
    subst hx
    exact ⟨Int.emod_nonneg _ (by omega), Int.emod_lt_of_pos _ hp1⟩
def soS (ds es : List Dt) (n : Nat) (p : Int) (x4 x5 x6 x7 x8 x9 x10 : Sv) (mo : List Mo) : Ms := { sl := [.im (.lst ds), .im (.int n), .im (.lst es), .im (.int p), x4, x5, x6, x7, x8, x9, x10], mo := mo }
theorem run_solve (ds : List Dt) (h : Fsolve ds ≠ .no) : runD 11 m_solve ds = Fsolve ds := by
  unfold Fsolve at h
  split at h
  · rename_i ds n es p
    split at h
    · rename_i rows right h1 h2
      split at h
      · rename_i hc
        have := wordsOf_eq h1
        have := intsOf_eq h2
        subst_vars
        simp only [Bool.and_eq_true, decide_eq_true_eq] at hc
        obtain ⟨⟨⟨hp, hn⟩, hl⟩, hk⟩ := hc
        obtain ⟨n, rfl⟩ : ∃ k : Nat, n = (k : Int) := ⟨n.toNat, by omega⟩
        rw [Int.toNat_natCast] at hk
        have hok := okRb_iff.mp hk
        have hn1 : n ≤ 900 := by omega
        rw [Fsolve_run hp hn1 hl hok]
        have hp' := isP_okP hp
        have hp1 := (okP_iff.mp hp').1
        have wok := widL_ok (right := right) hp' hn1 hok
        have wlen : (widL p rows right).length ≤ 1000 := by unfold widL; simp; omega
        have e1 := Freduced_run (n := n + 1) (rows := widL p rows right) (d := .lst ((widL p rows right).map Wd)) rfl hp (by omega) wlen wok
        have hI := RI_N hp (by omega) wok (n + 1) (Nat.le_refl _)
        have hT := redN_ok hp' wok (n + 1)
        have hrl := redN_lens (p := p) (rows := widL p rows right) (n + 1)
        have e0 : asgS 4 (frz (lcE (itZ (aCons (varE 0) (aCons (varE 2) aNil))) (Tk.tp [8, 10]).k yesT (op2 (varE 8) (tupE (aCons (op2 (varE 10) (varE 3) modO) aNil)) catT) [8, 10])) (soS (rows.map Wd) (right.map Dt.int) n p .no .no .no .no .no .no .no []) = .nx (soS (rows.map Wd) (right.map Dt.int) n p (.im (.lst ((widL p rows right).map Wd))) .no .no .no .no .no .no []) := by
          have key : lcE (itZ (aCons (varE 0) (aCons (varE 2) aNil))) (Tk.tp [8, 10]).k yesT (op2 (varE 8) (tupE (aCons (op2 (varE 10) (varE 3) modO) aNil)) catT) [8, 10] (soS (rows.map Wd) (right.map Dt.int) n p .no .no .no .no .no .no .no []) = .ok ((rows.zip right).map fun q => Wd (q.1 ++ [q.2 % p])) (soS (rows.map Wd) (right.map Dt.int) n p .no .no .no .no .no .no .no []) := by
            refine lcE_map (fun q : List Int × Int => Dt.tup [Wd q.1, .int q.2]) _ (rows.zip right) ?_ (fun q hq => ?_) (fun d T T' => Tk.mo) (by simp; omega)
            · simp [soS, zipD_wi]
            · have hq1 := hok _ (List.of_mem_zip hq).1
              have hc : catT (Wd q.1) (.tup [.int (q.2 % p)]) = some (Wd (q.1 ++ [q.2 % p])) := by
                have := catT_run (xs := q.1.map Dt.int) (ys := [.int (q.2 % p)]) (by rw [List.length_map, hq1.2]; simp; omega)
                unfold Wd
                rw [this, List.map_append]
                rfl
              simp [soS, wipeL, kNames, hp1, hc]
          rw [asgS_run', frz_run', key, R.bind_ok, R.stmt_ok]
          unfold widL
          rw [List.map_map]
          rfl
        generalize redN p (widL p rows right) (n + 1) = s at *
        generalize widL p rows right = wd at *
        have hst : st0 11 [.lst (rows.map Wd), .int (n : Int), .lst (right.map Dt.int), .int p] = soS (rows.map Wd) (right.map Dt.int) n p .no .no .no .no .no .no .no [] := rfl
        have e2 : asgT (Tk.tp [6, 7]) (funE 3 (aCons (varE 4) (aCons (op2 (varE 1) (cE (.int 1)) addO) (aCons (varE 3) aNil))) Freduced) (soS (rows.map Wd) (right.map Dt.int) n p (.im (.lst (wd.map Wd))) .no .no .no .no .no .no []) = .nx (soS (rows.map Wd) (right.map Dt.int) n p (.im (.lst (wd.map Wd))) .no (.im (TD s.T)) (.im (PD s.P)) .no .no .no []) := by
          refine (asgT_two (d := TD s.T) (e := PD s.P) (S1 := soS (rows.map Wd) (right.map Dt.int) n p (.im (.lst (wd.map Wd))) .no .no .no .no .no .no []) ?_).trans rfl
          have e1' : Freduced [.lst (wd.map Wd), .int ((n : Int) + 1), .int p] = .ok (redD s) := e1
          simp [soS, e1']
          rfl
        have e3 := in_pd s.P n
        unfold runD m_solve solD
        rw [hst, seqS_run, e0, seq_nx, seqS_run, e2, seq_nx, seqS_run]
        by_cases hnP : n ∈ s.P
        · rw [if_pos hnP]
          simp [soS, e3, hnP]
          rfl
        · rw [if_neg hnP]
          have hif : ifS (tst (op2 (varE 1) (varE 7) (inI false))) (retS (cE .non)) nilS (soS (rows.map Wd) (right.map Dt.int) n p (.im (.lst (wd.map Wd))) .no (.im (TD s.T)) (.im (PD s.P)) .no .no .no []) = .nx (soS (rows.map Wd) (right.map Dt.int) n p (.im (.lst (wd.map Wd))) .no (.im (TD s.T)) (.im (PD s.P)) .no .no .no []) := by
            simp [soS, e3, hnP]
          have e5 : asgN 5 (opN (frz (lstE (aCons (cE (.int 0)) aNil))) (varE 1) repL) (soS (rows.map Wd) (right.map Dt.int) n p (.im (.lst (wd.map Wd))) .no (.im (TD s.T)) (.im (PD s.P)) .no .no .no []) = .nx (soS (rows.map Wd) (right.map Dt.int) n p (.im (.lst (wd.map Wd))) (.mu 0) (.im (TD s.T)) (.im (PD s.P)) .no .no .no [.ob (.ls ((List.replicate n (0 : Int)).map Dt.int))]) := by
            have := repL_run (n := n) (by omega)
            simp [this, soS]
          have hit : itZ (aCons (varE 6) (aCons (varE 7) aNil)) (soS (rows.map Wd) (right.map Dt.int) n p (.im (.lst (wd.map Wd))) (.mu 0) (.im (TD s.T)) (.im (PD s.P)) .no .no .no [.ob (.ls ((List.replicate n (0 : Int)).map Dt.int))]) = .ok ((s.T.zip s.P).map fun q => Dt.tup [Wd q.1, .int (q.2 : Int)]) (soS (rows.map Wd) (right.map Dt.int) n p (.im (.lst (wd.map Wd))) (.mu 0) (.im (TD s.T)) (.im (PD s.P)) .no .no .no [.ob (.ls ((List.replicate n (0 : Int)).map Dt.int))]) := by
            simp [soS, TD, PD, zipD_wn]
          obtain ⟨S', f1, hlw, y8, y9, f2⟩ := forL_fold (k := (Tk.tp [8, 9]).k) (body := setS 5 (op2 (varE 8) (varE 1) ixO) (varE 9)) (fun q : List Int × Nat => Dt.tup [Wd q.1, .int (q.2 : Int)])
            (fun _ (w : List Int) S => w.length = n ∧ ∃ y8 y9, S = soS (rows.map Wd) (right.map Dt.int) n p (.im (.lst (wd.map Wd))) (.mu 0) (.im (TD s.T)) (.im (PD s.P)) y8 y9 .no [.ob (.ls (w.map Dt.int))]) (fun w q => w.set q.2 (g q.1 n)) (s.T.zip s.P) 0 (List.replicate n 0) _ ⟨by simp, .no, .no, rfl⟩ (fun _ w q S hq _ hI2 => by
              obtain ⟨hw, y8, y9, rfl⟩ := hI2
              have hq1 := hT.1 _ (List.of_mem_zip hq).1
              have hq2 := pk_mem (n := n + 1) hI.rr (List.of_mem_zip hq).2
              have hq3 : q.2 ≠ n := fun e => hnP (e ▸ (List.of_mem_zip hq).2)
              have e4 := wg_ix (r := q.1) (k := n) (by rw [hq1.2]; omega)
              have hs1 : op2 (varE 8) (varE 1) ixO (soS (rows.map Wd) (right.map Dt.int) n p (.im (.lst (wd.map Wd))) (.mu 0) (.im (TD s.T)) (.im (PD s.P)) (.im (Wd q.1)) (.im (.int (q.2 : Int))) .no [.ob (.ls (w.map Dt.int))]) = .ok (.int (g q.1 n)) (soS (rows.map Wd) (right.map Dt.int) n p (.im (.lst (wd.map Wd))) (.mu 0) (.im (TD s.T)) (.im (PD s.P)) (.im (Wd q.1)) (.im (.int (q.2 : Int))) .no [.ob (.ls (w.map Dt.int))]) := by simp [soS, e4]
              have hs2 := setS_run (i := 5) (k := 0) (xs := w.map Dt.int) (j := q.2) (z := (q.2 : Int)) (g := varE 9) hs1 (muAt_run rfl rfl) (varE_im rfl) (ixN_nat (by rw [List.length_map, hw]; omega))
              rw [setl] at hs2
              exact ⟨soS (rows.map Wd) (right.map Dt.int) n p (.im (.lst (wd.map Wd))) (.mu 0) (.im (TD s.T)) (.im (PD s.P)) (.im (Wd q.1)) (.im (.int (q.2 : Int))) .no [.ob (.ls (w.map Dt.int))], soS (rows.map Wd) (right.map Dt.int) n p (.im (.lst (wd.map Wd))) (.mu 0) (.im (TD s.T)) (.im (PD s.P)) (.im (Wd q.1)) (.im (.int (q.2 : Int))) .no [.ob (.ls ((w.set q.2 (g q.1 n)).map Dt.int))], by simp [kNames, soS], .inl hs2, by rw [List.length_set]; exact hw, _, _, rfl⟩)
          rw [hif, seq_nx, seqS_run, e5, seq_nx, seqS_run, forS_run, hit, R.stmt_ok, f1, seq_nx, f2]
          simp [soS]
          rfl
      · exact absurd rfl h
    · exact absurd rfl h
  · exact absurd rfl h
end Lq

namespace Lq
open PySem PySem.Spec PyProof.Rows L2
/-! ### sums of products -/
theorem sm_cons (x y : Int) (v w : List Int) : sm (x :: v) (y :: w) = x * y + sm v w := by
  unfold sm
  rw [List.zipWith_cons_cons, List.sum_cons]
theorem sm_comm : ∀ v w : List Int, sm v w = sm w v
  | [], [] => rfl
  | [], _ :: _ => rfl
  | _ :: _, [] => rfl
  | x :: v, y :: w => by rw [sm_cons, sm_cons, sm_comm v w, Int.mul_comm]
theorem sm_lin (p a : Int) : ∀ (r u v : List Int), r.length = u.length → v.length = u.length → sm r (lin p u v a) % p = (sm r u + sm r v * a) % p
  | [], u, v, h1, h2 => by
    have hu : u = [] := List.eq_nil_of_length_eq_zero h1.symm
    subst hu
    have hv : v = [] := List.eq_nil_of_length_eq_zero h2
    subst hv
    show (0 : Int) % p = (0 + 0 * a) % p
    rw [Int.zero_mul, Int.add_zero]
  | c :: r, [], v, h1, h2 => by cases h1
  | c :: r, x :: u, [], h1, h2 => by cases h2
  | c :: r, x :: u, y :: v, h1, h2 => by
    have ih := sm_lin p a r u v (Nat.succ.inj h1) (Nat.succ.inj h2)
    have e : lin p (x :: u) (y :: v) a = ((x + y * a % p) % p) :: lin p u v a := rfl
    have h : c * ((x + y * a % p) % p) % p = (c * x + c * y * a) % p := by
      rw [Int.mul_emod, Int.emod_emod, emod_lin, ← Int.mul_emod, Int.mul_add, ← Int.mul_assoc]
    rw [e, sm_cons, sm_cons, sm_cons, Int.add_emod, h, ih, ← Int.add_emod, Int.add_mul]
    congr 1
    omega
theorem sm_zero : ∀ v w : List Int, (∀ j, g v j * g w j = 0) → sm v w = 0
  | [], _, _ => by simp [sm]
  | _ :: _, [], _ => by simp [sm]
  | x :: v, y :: w, h => by
    have h0 : x * y = 0 := h 0
    rw [sm_cons, h0, sm_zero v w fun j => h (j + 1)]
    rfl
theorem sm_one : ∀ (v w : List Int) (c : Nat), c < v.length → c < w.length → (∀ j, j ≠ c → g v j * g w j = 0) → sm v w = g v c * g w c
  | [], _, _, h, _, _ => by cases h
  | _ :: _, [], _, _, h, _ => by cases h
  | x :: v, y :: w, 0, _, _, h => by
    rw [sm_cons, sm_zero v w fun j => h (j + 1) (by omega)]
    exact Int.add_zero _
  | x :: v, y :: w, c + 1, h1, h2, h => by
    have h0 : x * y = 0 := h 0 (by omega)
    rw [sm_cons, h0, Int.zero_add]
    exact sm_one v w c (Nat.lt_of_succ_lt_succ h1) (Nat.lt_of_succ_lt_succ h2) fun j hj => h (j + 1) (by omega)
theorem sm_two : ∀ (v w : List Int) (c d : Nat), c ≠ d → c < v.length → c < w.length → d < v.length → d < w.length → (∀ j, j ≠ c → j ≠ d → g v j * g w j = 0) → sm v w = g v c * g w c + g v d * g w d
  | [], _, _, _, _, h, _, _, _, _ => by cases h
  | _ :: _, [], _, _, _, _, h, _, _, _ => by cases h
  | x :: v, y :: w, 0, 0, hcd, _, _, _, _, _ => absurd rfl hcd
  | x :: v, y :: w, 0, d + 1, _, _, _, h3, h4, h => by
    rw [sm_cons, sm_one v w d (Nat.lt_of_succ_lt_succ h3) (Nat.lt_of_succ_lt_succ h4) fun j hj => h (j + 1) (by omega) (by omega)]
    rfl
  | x :: v, y :: w, c + 1, 0, _, h1, h2, _, _, h => by
    rw [sm_cons, sm_one v w c (Nat.lt_of_succ_lt_succ h1) (Nat.lt_of_succ_lt_succ h2) fun j hj => h (j + 1) (by omega) (by omega), Int.add_comm]
    rfl
  | x :: v, y :: w, c + 1, d + 1, hcd, h1, h2, h3, h4, h => by
    have h0 : x * y = 0 := h 0 (by omega) (by omega)
    rw [sm_cons, h0, Int.zero_add]
    exact sm_two v w c d (by omega) (Nat.lt_of_succ_lt_succ h1) (Nat.lt_of_succ_lt_succ h2) (Nat.lt_of_succ_lt_succ h3) (Nat.lt_of_succ_lt_succ h4) fun j hj hk => h (j + 1) (by omega) (by omega)
theorem g_far {v : List Int} {c : Nat} (h : v.length ≤ c) : g v c = 0 := by
  unfold g
  rw [List.getD_eq_getElem?_getD, List.getElem?_eq_none h]
  rfl
/-! ### words whose products with the rows are 0 -/
def Zr (p : Int) (n : Nat) (rows : List (List Int)) (y : List Int) : Prop := ok1 p n y ∧ ∀ r ∈ rows, sm r y % p = 0
section
variable {p : Int} {n : Nat} {rows T : List (List Int)} {P : List Nat}
theorem sm_zw (p : Int) (n : Nat) (y : List Int) : sm (List.replicate n 0) y % p = 0 := by
  rw [sm_zero _ _ fun j => by rw [g_zero, Int.zero_mul]]
  exact Int.zero_emod _
theorem Zr_Sp (hp : okP p = true) (hn : n ≤ 1000) (h : okR p n rows) {y u : List Int} (hy : Zr p n rows y) (q : Sp p n rows u) : sm u y % p = 0 := by
  induction q with
  | zero => exact sm_zw _ _ _
  | @step w r a hw hr ih =>
    have hw' := Sp_ok hp hn h hw
    have hr' := h r hr
    rw [sm_comm, sm_lin p a y w r (by rw [hy.1.2, hw'.2]) (by rw [hr'.2, hw'.2]), sm_comm y w, sm_comm y r, Int.add_emod, Int.mul_emod, ih, hy.2 r hr, Int.zero_mul, Int.zero_emod, Int.add_zero, Int.zero_emod]
theorem Zr_red (hp : isP p = true) (hn : n ≤ 1000) (h : okR p n rows) (y : List Int) : Zr p n (redN p rows n).T y ↔ Zr p n rows y := by
  have hp' := isP_okP hp
  have hT := (redN_ok hp' h n).1
  exact ⟨fun q => ⟨q.1, fun r hr => Zr_Sp hp' hn hT q ((red_Sp hp hn h r).mpr (Sp_row hp' h hr))⟩, fun q => ⟨q.1, fun r hr => Zr_Sp hp' hn h q ((red_Sp hp hn h r).mp (Sp_row hp' hT hr))⟩⟩
theorem Zr_lin (hp : okP p = true) (h : okR p n rows) {u v : List Int} {a : Int} (hu : Zr p n rows u) (hv : Zr p n rows v) : Zr p n rows (lin p u v a) := by
  refine ⟨ok_lin hp hu.1 hv.1, fun r hr => ?_⟩
  rw [sm_lin p a r u v (by rw [(h r hr).2, hu.1.2]) (by rw [hv.1.2, hu.1.2]), Int.add_emod, Int.mul_emod, hu.2 r hr, hv.2 r hr, Int.zero_mul, Int.zero_emod, Int.add_zero, Int.zero_emod]
theorem Zr_zero (hp : okP p = true) (hn : n ≤ 1000) : Zr p n rows (List.replicate n 0) := ⟨ok_zero hp hn, fun r _ => by rw [sm_comm]; exact sm_zw _ _ _⟩
/-! ### a list changed at places -/
theorem g_set_ne {w : List Int} {i c : Nat} {x : Int} (h : c ≠ i) : g (w.set i x) c = g w c := by
  unfold g
  rw [List.getD_eq_getElem?_getD, List.getD_eq_getElem?_getD, List.getElem?_set_ne (Ne.symm h)]
theorem g_set {w : List Int} {i : Nat} {x : Int} (h : i < w.length) : g (w.set i x) i = x := by
  unfold g
  rw [List.getD_eq_getElem?_getD, List.getElem?_set_self h]
  rfl
def setL {α : Type} (h : α × Nat → Int) (qs : List (α × Nat)) (w : List Int) : List Int := qs.foldl (fun w q => w.set q.2 (h q)) w
theorem setL_len {α : Type} {h : α × Nat → Int} : ∀ (qs : List (α × Nat)) (w : List Int), (setL h qs w).length = w.length
  | [], _ => rfl
  | q :: qs, w => (setL_len qs _).trans (by rw [List.length_set])
theorem setL_ne {α : Type} {h : α × Nat → Int} {c : Nat} : ∀ (qs : List (α × Nat)) (w : List Int), (∀ q ∈ qs, q.2 ≠ c) → g (setL h qs w) c = g w c
  | [], _, _ => rfl
  | q :: qs, w, hq => (setL_ne qs _ fun x hx => hq x (List.mem_cons_of_mem _ hx)).trans (g_set_ne (Ne.symm (hq q List.mem_cons_self)))
theorem setL_at {α : Type} {h : α × Nat → Int} : ∀ (qs : List (α × Nat)) (w : List Int), (qs.map (·.2)).Nodup → (∀ q ∈ qs, q.2 < w.length) → ∀ q ∈ qs, g (setL h qs w) q.2 = h q
  | [], _, _, _, q, hq => absurd hq List.not_mem_nil
  | q0 :: qs, w, hnd, hl, q, hq => by
    rw [List.map_cons, List.nodup_cons] at hnd
    rcases List.mem_cons.mp hq with rfl | hq
    · exact (setL_ne qs _ fun x hx e => hnd.1 (List.mem_map.mpr ⟨x, hx, e⟩)).trans (g_set (hl _ List.mem_cons_self))
    · exact setL_at qs _ hnd.2 (fun x hx => by rw [List.length_set]; exact hl x (List.mem_cons_of_mem _ hx)) q hq
theorem setL_ok {α : Type} {h : α × Nat → Int} : ∀ (qs : List (α × Nat)) (w : List Int), ok1 p n w → (∀ q ∈ qs, 0 ≤ h q ∧ h q < p) → ok1 p n (setL h qs w)
  | [], _, hw, _ => hw
  | q :: qs, w, hw, hq => by
    refine setL_ok qs _ ⟨?_, by rw [List.length_set]; exact hw.2⟩ fun x hx => hq x (List.mem_cons_of_mem _ hx)
    obtain ⟨h1, h2⟩ := okW_iff.mp hw.1
    refine okW_iff.mpr ⟨by rw [List.length_set]; exact h1, fun x hx => ?_⟩
    rcases List.mem_or_eq_of_mem_set hx with hx | rfl
    · exact h2 x hx
    · exact hq q List.mem_cons_self
theorem zip_at (hl : T.length = P.length) {k : Nat} (hk : k < P.length) : (tk T k, pk P k) ∈ T.zip P := by
  have h1 : k < (T.zip P).length := by rw [List.length_zip]; omega
  have e : (T.zip P)[k] = (tk T k, pk P k) := by
    rw [List.getElem_zip]
    unfold tk pk
    rw [List.getD_eq_getElem?_getD, List.getD_eq_getElem?_getD, List.getElem?_eq_getElem (show k < T.length by omega), List.getElem?_eq_getElem hk]
    rfl
  rw [← e]
  exact List.getElem_mem _
theorem zip_snd (hl : T.length = P.length) : (T.zip P).map (·.2) = P := List.map_snd_zip (by omega)
theorem pk_get {k : Nat} (hk : k < P.length) : pk P k = P[k] := by
  unfold pk
  rw [List.getD_eq_getElem?_getD, List.getElem?_eq_getElem hk]
  rfl
theorem Rr_nd {at_ : Nat} (h : Rr at_ T P) : P.Nodup := by
  rw [List.Nodup, List.pairwise_iff_getElem]
  intro i j hi hj hij
  have := h.asc i j hij hj
  rw [pk_get hi, pk_get hj] at this
  omega
theorem mem_pk {c : Nat} (h : c ∈ P) : ∃ k < P.length, pk P k = c := by
  obtain ⟨k, hk, e⟩ := List.getElem_of_mem h
  exact ⟨k, hk, by rw [pk_get hk]; exact e⟩
/-! ### the kernel -/
theorem kw_ok (hp : isP p = true) (hn : n ≤ 1000) {f : Nat} : ok1 p n (kwL p n f (T.zip P)) := by
  have hp' := isP_okP hp
  have hp1 := (okP_iff.mp hp').1
  have hp2 := of_decide_eq_true hp
  refine setL_ok (h := fun q : List Int × Nat => -(g q.1 f) % p) _ _ ⟨okW_iff.mpr ⟨by simpa using hn, fun x hx => ?_⟩, by simp⟩ fun q _ => ⟨Int.emod_nonneg _ (by omega), Int.emod_lt_of_pos _ hp1⟩
  rcases List.mem_or_eq_of_mem_set hx with hx | rfl
  · have := (List.mem_replicate.mp hx).2
    omega
  · omega
theorem kw_self {f : Nat} (hf : f < n) (hfP : f ∉ P) : g (kwL p n f (T.zip P)) f = 1 := by
  refine (setL_ne (h := fun q : List Int × Nat => -(g q.1 f) % p) (c := f) _ _ fun q hq e => hfP (e ▸ (List.of_mem_zip hq).2)).trans (g_set (by simpa using hf))
theorem kw_free {f c : Nat} (hc : c ∉ P) (hcf : c ≠ f) : g (kwL p n f (T.zip P)) c = 0 := by
  refine (setL_ne (h := fun q : List Int × Nat => -(g q.1 f) % p) (c := c) _ _ fun q hq e => hc (e ▸ (List.of_mem_zip hq).2)).trans ((g_set_ne hcf).trans g_zero)
theorem kw_pk (h : Rr n T P) {f k : Nat} (hk : k < P.length) : g (kwL p n f (T.zip P)) (pk P k) = -(g (tk T k) f) % p :=
  setL_at (h := fun q : List Int × Nat => -(g q.1 f) % p) _ _ (by rw [zip_snd h.len]; exact Rr_nd h) (fun q hq => by
    have := pk_mem (n := 0) h (List.of_mem_zip hq).2
    simpa using this) _ (zip_at h.len hk)
theorem col {c : Nat} (h : Rr n T P) {y : List Int} (hy : ∀ c < n, c ∉ P → g y c = 0) {k : Nat} (hk : k < P.length) (hT : okR p n T) (hyl : y.length = n) (hck : c ≠ pk P k) : g (tk T k) c * g y c = 0 := by
  by_cases hcn : c < n
  · by_cases hcP : c ∈ P
    · obtain ⟨j, hj, rfl⟩ := mem_pk hcP
      rw [h.zro k j hk hj (fun e => hck (by rw [e])), Int.zero_mul]
    · rw [hy c hcn hcP, Int.mul_zero]
  · rw [g_far (v := y) (by omega), Int.mul_zero]
theorem kw_Zr (hp : isP p = true) (hn : n ≤ 1000) (hT : okR p n T) (h : Rr n T P) {f : Nat} (hf : f < n) (hfP : f ∉ P) : Zr p n T (kwL p n f (T.zip P)) := by
  refine ⟨kw_ok hp hn, fun r hr => ?_⟩
  obtain ⟨k, hk, rfl⟩ := mem_tk hr
  have hk' : k < P.length := by have := h.len; omega
  have hl := (hT _ hr).2
  have hkl := (kw_ok (T := T) (P := P) (f := f) hp hn).2
  have hpk := h.lt k hk'
  have hne : f ≠ pk P k := fun e => hfP (by rw [e, pk_get hk']; exact List.getElem_mem _)
  rw [sm_two _ _ f (pk P k) hne (by omega) (by omega) (by omega) (by omega) (fun j h1 h2 => ?_), kw_self hf hfP, kw_pk h hk', h.one k hk', Int.mul_one, Int.one_mul, Int.add_emod_emod, Int.add_right_neg]
  · exact Int.zero_emod _
  · by_cases hjn : j < n
    · by_cases hjP : j ∈ P
      · obtain ⟨i, hi, rfl⟩ := mem_pk hjP
        rw [h.zro k i hk' hi (fun e => h2 (by rw [e])), Int.zero_mul]
      · rw [kw_free hjP h1, Int.mul_zero]
    · rw [g_far (v := kwL p n f (T.zip P)) (by omega), Int.mul_zero]
theorem mem_frees {f : Nat} : f ∈ frees n P ↔ f < n ∧ f ∉ P := by
  unfold frees
  rw [List.mem_filter, List.mem_range, decide_eq_true_eq]
theorem ker_sp (hp : isP p = true) (hn : n ≤ 1000) (hT : okR p n T) (h : Rr n T P) : ∀ (fs : List Nat), (∀ f ∈ fs, f ∈ frees n P) → ∀ y, Zr p n T y → (∀ c < n, c ∉ P → c ∉ fs → g y c = 0) → Sp p n ((frees n P).map fun f => kwL p n f (T.zip P)) y
  | [], _, y, hy, h0 => by
    have h1 : ∀ c < n, c ∉ P → g y c = 0 := fun c h1 h2 => h0 c h1 h2 List.not_mem_nil
    have e : y = List.replicate n 0 := by
      refine g_ext hy.1.2 (by simp) fun c hc => ?_
      rw [g_zero]
      by_cases hcP : c ∈ P
      · obtain ⟨k, hk, rfl⟩ := mem_pk hcP
        have hkT : k < T.length := by have := h.len; omega
        have h2 := hy.2 _ (tk_mem hkT)
        have hl := (hT _ (tk_mem hkT)).2
        rw [sm_one _ _ (pk P k) (by omega) (by rw [hy.1.2]; exact hc) (fun j hj => col h h1 hk hT hy.1.2 hj), h.one k hk, Int.one_mul, g_mod hy.1 hc] at h2
        exact h2
      · exact h1 c hc hcP
    rw [e]
    exact .zero
  | f :: fs, hfs, y, hy, h0 => by
    have hp' := isP_okP hp
    have hf := hfs f List.mem_cons_self
    obtain ⟨hf1, hf2⟩ := mem_frees.mp hf
    have hK := kw_Zr hp hn hT h hf1 hf2
    have hy' := Zr_lin (a := -(g y f)) hp' hT hy hK
    have ih := ker_sp hp hn hT h fs (fun x hx => hfs x (List.mem_cons_of_mem _ hx)) _ hy' fun c hc hcP hcf => by
      rw [g_lin hy.1.2 hK.1.2 hc]
      by_cases e : c = f
      · subst e
        rw [kw_self hc hcP, Int.one_mul, Int.add_right_neg]
        exact Int.zero_emod _
      · rw [h0 c hc hcP (fun z => (List.mem_cons.mp z).elim e hcf), kw_free hcP e, Int.zero_mul]
        exact Int.zero_emod _
    have e : y = lin p (lin p y (kwL p n f (T.zip P)) (-(g y f))) (kwL p n f (T.zip P)) (g y f) := by rw [lin_twice hy.1.2 hK.1.2, Int.add_left_neg, lin_none hy.1 hK.1.2]
    rw [e]
    exact .step _ ih (List.mem_map.mpr ⟨f, hf, rfl⟩)
theorem ker_ok (hp : isP p = true) (hn : n ≤ 1000) : okR p n ((frees n P).map fun f => kwL p n f (T.zip P)) := fun r hr => by
  obtain ⟨f, _, rfl⟩ := List.mem_map.mp hr
  exact kw_ok hp hn
theorem ker_iff (hp : isP p = true) (hn : n ≤ 1000) (h : okR p n rows) (y : List Int) : Sp p n (kerL p n (redN p rows n)) y ↔ Zr p n rows y := by
  have hp' := isP_okP hp
  have hI := RI_N hp hn h n (Nat.le_refl _)
  have hT := (redN_ok hp' h n).1
  rw [← Zr_red hp hn h]
  constructor
  · intro q
    induction q with
    | zero => exact Zr_zero hp' hn
    | step a _ hr ih =>
      obtain ⟨f, hf, rfl⟩ := List.mem_map.mp hr
      obtain ⟨hf1, hf2⟩ := mem_frees.mp hf
      exact Zr_lin hp' hT ih (kw_Zr hp hn hT hI.rr hf1 hf2)
  · exact fun q => ker_sp hp hn hT hI.rr (frees n (redN p rows n).P) (fun _ h => h) y q fun c hc hcP hcf => absurd (mem_frees.mpr ⟨hc, hcP⟩) hcf
end
end Lq

namespace Lq
open PySem PySem.Spec PyProof.Rows L2
/-! ### sums -/
def sI {α : Type} (l : List α) (h : α → Int) : Int := (l.map h).sum
theorem sI_nil {α : Type} (h : α → Int) : sI ([] : List α) h = 0 := rfl
theorem sI_cons {α : Type} (x : α) (l : List α) (h : α → Int) : sI (x :: l) h = h x + sI l h := by simp [sI]
theorem sI_add {α : Type} (l : List α) (h k : α → Int) : sI l (fun x => h x + k x) = sI l h + sI l k := by
  induction l with
  | nil => rfl
  | cons x l ih => rw [sI_cons, sI_cons, sI_cons, ih]; omega
theorem sI_zero {α : Type} (l : List α) : sI l (fun _ => (0 : Int)) = 0 := by
  induction l with
  | nil => rfl
  | cons x l ih => rw [sI_cons, ih]; rfl
theorem sI_one {α : Type} (l : List α) : sI l (fun _ => (1 : Int)) = (l.length : Int) := by
  induction l with
  | nil => rfl
  | cons x l ih => rw [sI_cons, ih, List.length_cons]; omega
theorem sI_mul {α : Type} (l : List α) (c : Int) (h : α → Int) : sI l (fun x => c * h x) = c * sI l h := by
  induction l with
  | nil => simp [sI]
  | cons x l ih => rw [sI_cons, sI_cons, ih, Int.mul_add]
theorem sI_mulr {α : Type} (l : List α) (c : Int) (h : α → Int) : sI l (fun x => h x * c) = sI l h * c := by
  rw [Int.mul_comm, ← sI_mul]
  unfold sI
  congr 1
  exact List.map_congr_left fun x _ => Int.mul_comm _ _
theorem sI_congr {α : Type} {l : List α} {h k : α → Int} (e : ∀ x ∈ l, h x = k x) : sI l h = sI l k := by
  unfold sI
  rw [List.map_congr_left e]
theorem sI_swap {α β : Type} (l : List α) (m : List β) (h : α → β → Int) : sI l (fun x => sI m (h x)) = sI m (fun y => sI l fun x => h x y) := by
  induction l with
  | nil => rw [sI_nil]; simp only [sI_nil]; rw [sI_zero]
  | cons x l ih =>
    rw [sI_cons, ih, ← sI_add]
    exact sI_congr fun y _ => (sI_cons x l fun x => h x y).symm
theorem sI_perm {α : Type} {l m : List α} (p : l.Perm m) (h : α → Int) : sI l h = sI m h := by
  induction p with
  | nil => rfl
  | cons x _ ih => rw [sI_cons, sI_cons, ih]
  | swap x y l => rw [sI_cons, sI_cons, sI_cons, sI_cons]; omega
  | trans _ _ ih1 ih2 => exact ih1.trans ih2
theorem sI_map {α β : Type} (f : α → β) (l : List α) (h : β → Int) : sI (l.map f) h = sI l fun x => h (f x) := by
  unfold sI
  rw [List.map_map]
  rfl
theorem sI_filter {α : Type} (l : List α) (b : α → Bool) (h : α → Int) : sI (l.filter b) h = sI l fun x => if b x then h x else 0 := by
  induction l with
  | nil => rfl
  | cons x l ih =>
    rw [sI_cons, ← ih]
    cases hb : b x with
    | true => rw [List.filter_cons_of_pos hb, sI_cons, if_pos rfl]
    | false => rw [List.filter_cons_of_neg (by simp [hb]), if_neg (by simp)]; omega
theorem sI_pick (n j : Nat) (h : Nat → Int) (hj : j < n) : sI (List.range n) (fun i => if i = j then h i else 0) = h j := by
  induction n with
  | zero => omega
  | succ n ih =>
    have e : sI (List.range (n + 1)) (fun i => if i = j then h i else 0) = sI (List.range n) (fun i => if i = j then h i else 0) + if n = j then h n else 0 := by
      unfold sI
      rw [List.range_succ, List.map_append, List.sum_append]
      simp
    rw [e]
    by_cases q : n = j
    · subst q
      rw [if_pos rfl, sI_congr (k := fun _ => 0) (fun i hi => if_neg (by have := List.mem_range.mp hi; omega)), sI_zero]
      omega
    · rw [if_neg q, ih (by omega)]
      omega
/-! ### counting weights -/
def cntW (n : Nat) (ws : List (List Int)) : List Int := (List.range (n + 1)).map fun i => sI ws fun w => if wtW w = i then 1 else 0
theorem cntW_len (n : Nat) (ws : List (List Int)) : (cntW n ws).length = n + 1 := by simp [cntW]
theorem cntW_get {n : Nat} {ws : List (List Int)} {i : Nat} (h : i < n + 1) : (cntW n ws).getD i 0 = sI ws fun w => if wtW w = i then 1 else 0 := by
  unfold cntW
  rw [List.getD_eq_getElem?_getD, List.getElem?_map, List.getElem?_range h]
  rfl
theorem cntW_sum {n : Nat} {ws : List (List Int)} (hw : ∀ w ∈ ws, wtW w ≤ n) (K : Nat → Int) : sI (List.range (n + 1)) (fun i => (cntW n ws).getD i 0 * K i) = sI ws fun w => K (wtW w) := by
  have e1 : sI (List.range (n + 1)) (fun i => (cntW n ws).getD i 0 * K i) = sI (List.range (n + 1)) fun i => sI ws fun w => if i = wtW w then K i else 0 := by
    refine sI_congr fun i hi => ?_
    rw [cntW_get (List.mem_range.mp hi), ← sI_mulr]
    refine sI_congr fun w _ => ?_
    by_cases q : wtW w = i
    · rw [if_pos q, if_pos q.symm]; omega
    · rw [if_neg q, if_neg (fun z => q z.symm)]; omega
  rw [e1, sI_swap]
  exact sI_congr fun w hw' => sI_pick (n + 1) (wtW w) K (by have := hw w hw'; omega)
theorem wt_le (w : List Int) : wtW w ≤ w.length := List.length_filter_le _ _
/-! ### characters -/
def chi (p c : Int) : Int := (if c % p = 0 then 1 else 0) - if c % p = 1 then 1 else 0
structure Sub (p : Int) (n : Nat) (W : List (List Int)) : Prop where
  nd : W.Nodup
  ok : ∀ w ∈ W, ok1 p n w
  zero : List.replicate n 0 ∈ W
  lin : ∀ u ∈ W, ∀ v ∈ W, ∀ a : Int, lin p u v a ∈ W
theorem inv_ex {p c : Int} (hp : isP p = true) (hc : c % p ≠ 0) : ∃ a, (c * a) % p = 1 := by
  have h1 : 0 ≤ c % p := Int.emod_nonneg _ (by have := isP_okP hp; have := (okP_iff.mp this).1; omega)
  have h2 : c % p < p := Int.emod_lt_of_pos _ (okP_iff.mp (isP_okP hp)).1
  have key : ∀ a, (c * a) % p = (c % p * a) % p := fun a => by rw [Int.mul_emod c a p, Int.mul_emod (c % p) a p, Int.emod_emod]
  simp only [key]
  generalize c % p = d at *
  have hp' : p = 2 ∨ p = 3 ∨ p = 5 ∨ p = 7 := of_decide_eq_true hp
  rcases hp' with rfl | rfl | rfl | rfl
  · have : d = 1 := by omega
    subst this; exact ⟨1, by decide⟩
  · have : d = 1 ∨ d = 2 := by omega
    rcases this with rfl | rfl
    · exact ⟨1, by decide⟩
    · exact ⟨2, by decide⟩
  · have : d = 1 ∨ d = 2 ∨ d = 3 ∨ d = 4 := by omega
    rcases this with rfl | rfl | rfl | rfl
    · exact ⟨1, by decide⟩
    · exact ⟨3, by decide⟩
    · exact ⟨2, by decide⟩
    · exact ⟨4, by decide⟩
  · have : d = 1 ∨ d = 2 ∨ d = 3 ∨ d = 4 ∨ d = 5 ∨ d = 6 := by omega
    rcases this with rfl | rfl | rfl | rfl | rfl | rfl
    · exact ⟨1, by decide⟩
    · exact ⟨4, by decide⟩
    · exact ⟨5, by decide⟩
    · exact ⟨2, by decide⟩
    · exact ⟨3, by decide⟩
    · exact ⟨6, by decide⟩
theorem Sub_shift {p : Int} {n : Nat} {W : List (List Int)} (hp : okP p = true) (h : Sub p n W) {v : List Int} (hv : v ∈ W) : (W.map fun u => lin p u v 1).Perm W := by
  have hv1 := h.ok v hv
  have back : ∀ u ∈ W, lin p (lin p u v 1) v (-1) = u := fun u hu => by
    rw [lin_twice (h.ok u hu).2 hv1.2]
    exact lin_none (h.ok u hu) hv1.2
  have forth : ∀ u ∈ W, lin p (lin p u v (-1)) v 1 = u := fun u hu => by
    rw [lin_twice (h.ok u hu).2 hv1.2]
    exact lin_none (h.ok u hu) hv1.2
  refine (List.perm_ext_iff_of_nodup (nodup_map_on h.nd fun a ha b hb e => ?_) h.nd).mpr fun y => ⟨fun hy => ?_, fun hy => ?_⟩
  · rw [← back a ha, ← back b hb, e]
  · obtain ⟨u, hu, rfl⟩ := List.mem_map.mp hy
    exact h.lin u hu v hv 1
  · exact List.mem_map.mpr ⟨lin p y v (-1), h.lin y hy v hv (-1), forth y hy⟩
theorem chi_sum {p : Int} {n : Nat} {W : List (List Int)} {y : List Int} (hp : isP p = true) (h : Sub p n W) (hy : y.length = n) : sI W (fun x => chi p (sm y x)) = if (W.all fun x => decide (sm y x % p = 0)) = true then (W.length : Int) else 0 := by
  have hp' := isP_okP hp
  have hp2 : 1 < p := by have : p = 2 ∨ p = 3 ∨ p = 5 ∨ p = 7 := of_decide_eq_true hp; omega
  split
  · rename_i hc
    rw [← sI_one]
    refine sI_congr fun x hx => ?_
    have := of_decide_eq_true (List.all_eq_true.mp hc x hx)
    unfold chi
    rw [if_pos this, if_neg (by omega)]
    rfl
  · rename_i hc
    obtain ⟨x0, hx0, hn⟩ : ∃ x ∈ W, sm y x % p ≠ 0 := by
      apply Classical.byContradiction
      intro hne
      exact hc (List.all_eq_true.mpr fun x hx => decide_eq_true (Classical.byContradiction fun z => hne ⟨x, hx, z⟩))
    obtain ⟨a, ha⟩ := inv_ex hp hn
    have hx1 := h.lin _ h.zero x0 hx0 a
    have hs1 : sm y (lin p (List.replicate n 0) x0 a) % p = 1 := by
      rw [sm_lin p a y _ _ (by simp [hy]) (by simp [(h.ok x0 hx0).2])]
      have : sm y (List.replicate n 0) % p = 0 := by rw [sm_comm]; exact sm_zw p n y
      rw [Int.add_emod, this, Int.zero_add, Int.emod_emod]
      exact ha
    generalize lin p (List.replicate n 0) x0 a = v at *
    have hperm := Sub_shift hp' h hx1
    have hsh : ∀ x ∈ W, sm y (lin p x v 1) % p = (sm y x % p + 1) % p := fun x hx => by
      rw [sm_lin p 1 y _ _ (by rw [hy, (h.ok x hx).2]) (by rw [(h.ok v hx1).2, (h.ok x hx).2]), Int.mul_one, Int.add_emod, hs1]
    have e1 := sI_perm hperm fun x => if sm y x % p = 1 then 1 else 0
    rw [sI_map] at e1
    have e2 : sI W (fun x => if sm y (lin p x v 1) % p = 1 then (1 : Int) else 0) = sI W fun x => if sm y x % p = 0 then 1 else 0 := by
      refine sI_congr fun x hx => ?_
      rw [hsh x hx]
      have h1 : 0 ≤ sm y x % p := Int.emod_nonneg _ (by omega)
      have h2 : sm y x % p < p := Int.emod_lt_of_pos _ (by omega)
      by_cases q : sm y x % p = 0
      · rw [if_pos q, if_pos]
        rw [q, Int.zero_add]
        exact Int.emod_eq_of_lt (by omega) (by omega)
      · rw [if_neg q, if_neg]
        intro z
        by_cases q2 : sm y x % p + 1 = p
        · rw [q2, Int.emod_self] at z; omega
        · rw [Int.emod_eq_of_lt (by omega) (by omega)] at z; omega
    rw [e2] at e1
    have e3 : sI W (fun x => chi p (sm y x)) + sI W (fun x => if sm y x % p = 1 then (1 : Int) else 0) = sI W fun x => if sm y x % p = 0 then 1 else 0 := by
      rw [← sI_add]
      refine sI_congr fun x _ => ?_
      unfold chi
      omega
    omega

/-! ### the dual -/
theorem dotN_sm : ∀ {n : Nat} {x y : List Int}, x.length = n → y.length = n → dotN n x y = sm x y
  | 0, x, y, hx, hy => by
    have e1 := List.eq_nil_of_length_eq_zero hx
    subst e1
    simp [dotN, sm]
  | n + 1, [], y, hx, hy => by simp at hx
  | n + 1, a :: x, [], hx, hy => by simp at hy
  | n + 1, a :: x, b :: y, hx, hy => by
    have ih := dotN_sm (n := n) (x := x) (y := y) (by simpa using hx) (by simpa using hy)
    rw [sm_cons, ← ih]
    unfold dotN
    rw [List.range_succ_eq_map, List.map_cons, List.sum_cons, List.map_map]
    simp [Function.comp_def]
def dualL (p : Int) (n : Nat) (W : List (List Int)) : List (List Int) := (allN p n).filter fun y => W.all fun x => decide (dotN n x y % p = 0)
theorem allN_ok {p : Int} {n : Nat} (hn : n ≤ 1000) {w : List Int} : w ∈ allN p n ↔ ok1 p n w := by
  rw [allN_mem]
  exact ⟨fun ⟨h1, h2⟩ => ⟨okW_iff.mpr ⟨by omega, h2⟩, h1⟩, fun ⟨h1, h2⟩ => ⟨h2, (okW_iff.mp h1).2⟩⟩
theorem Sub_all {p : Int} {n : Nat} (hp : okP p = true) (hn : n ≤ 1000) : Sub p n (allN p n) :=
  ⟨allN_nd p n, fun w hw => (allN_ok hn).mp hw, (allN_ok hn).mpr (ok_zero hp hn), fun u hu v hv a => (allN_ok hn).mpr (ok_lin hp ((allN_ok hn).mp hu) ((allN_ok hn).mp hv))⟩
theorem dual_mem {p : Int} {n : Nat} (hn : n ≤ 1000) {W : List (List Int)} (hW : ∀ w ∈ W, ok1 p n w) {y : List Int} : y ∈ dualL p n W ↔ ok1 p n y ∧ ∀ x ∈ W, sm y x % p = 0 := by
  unfold dualL
  rw [List.mem_filter, allN_ok hn, List.all_eq_true]
  refine ⟨fun ⟨h1, h2⟩ => ⟨h1, fun x hx => ?_⟩, fun ⟨h1, h2⟩ => ⟨h1, fun x hx => ?_⟩⟩
  · have := of_decide_eq_true (h2 x hx)
    rw [dotN_sm (hW x hx).2 h1.2, sm_comm] at this
    exact this
  · rw [dotN_sm (hW x hx).2 h1.2, sm_comm]
    exact decide_eq_true (h2 x hx)
theorem Sub_dual {p : Int} {n : Nat} (hp : okP p = true) (hn : n ≤ 1000) {W : List (List Int)} (hW : ∀ w ∈ W, ok1 p n w) : Sub p n (dualL p n W) := by
  refine ⟨(allN_nd p n).filter _, fun w hw => ((dual_mem hn hW).mp hw).1, (dual_mem hn hW).mpr ⟨ok_zero hp hn, fun x hx => sm_zw p n x⟩, fun u hu v hv a => ?_⟩
  obtain ⟨u1, u2⟩ := (dual_mem hn hW).mp hu
  obtain ⟨v1, v2⟩ := (dual_mem hn hW).mp hv
  refine (dual_mem hn hW).mpr ⟨ok_lin hp u1 v1, fun x hx => ?_⟩
  rw [sm_comm, sm_lin p a x u v (by rw [(hW x hx).2, u1.2]) (by rw [v1.2, u1.2]), Int.add_emod, Int.mul_emod, sm_comm x u, sm_comm x v, u2 x hx, v2 x hx]
  simp
theorem chi_dual {p : Int} {n : Nat} (hp : isP p = true) (hn : n ≤ 1000) {W : List (List Int)} (h : Sub p n W) {y : List Int} (hy : ok1 p n y) : sI W (fun x => chi p (sm y x)) = if y ∈ dualL p n W then (W.length : Int) else 0 := by
  rw [chi_sum hp h hy.2]
  by_cases q : y ∈ dualL p n W
  · rw [if_pos q, if_pos]
    exact List.all_eq_true.mpr fun x hx => decide_eq_true (((dual_mem hn h.ok).mp q).2 x hx)
  · rw [if_neg q, if_neg]
    intro z
    exact q ((dual_mem hn h.ok).mpr ⟨hy, fun x hx => of_decide_eq_true (List.all_eq_true.mp z x hx)⟩)
theorem dual_all {p : Int} {n : Nat} (hp : isP p = true) (hn : n ≤ 1000) {y : List Int} (hy : ok1 p n y) : y ∈ dualL p n (allN p n) ↔ y = List.replicate n 0 := by
  have hp' := isP_okP hp
  have hp2 : 1 < p := by have : p = 2 ∨ p = 3 ∨ p = 5 ∨ p = 7 := of_decide_eq_true hp; omega
  rw [dual_mem hn fun w hw => (allN_ok hn).mp hw]
  refine ⟨fun ⟨_, h⟩ => ?_, fun e => ⟨hy, fun x _ => by rw [e]; exact sm_zw p n x⟩⟩
  refine g_ext hy.2 (by simp) fun j hj => ?_
  rw [g_zero]
  have hu : ok1 p n ((List.replicate n (0 : Int)).set j 1) := by
    refine ⟨okW_iff.mpr ⟨by simpa using hn, fun x hx => ?_⟩, by simp⟩
    rcases List.mem_or_eq_of_mem_set hx with hx | rfl
    · rw [(List.mem_replicate.mp hx).2]; omega
    · omega
  have h1 := h _ ((allN_ok hn).mpr hu)
  rw [sm_one y _ j (by rw [hy.2]; exact hj) (by simpa using hj) (fun k hk => by rw [g_set_ne hk, g_zero, Int.mul_zero]), g_set (by simpa using hj), Int.mul_one, g_mod hy hj] at h1
  exact h1
theorem dual_card {p : Int} {n : Nat} (hp : isP p = true) (hn : n ≤ 1000) {W : List (List Int)} (h : Sub p n W) : (W.length : Int) * ((dualL p n W).length : Int) = ((allN p n).length : Int) := by
  have hp' := isP_okP hp
  have e1 : sI (allN p n) (fun y => sI W fun x => chi p (sm y x)) = (W.length : Int) * ((dualL p n W).length : Int) := by
    rw [← sI_one (dualL p n W), ← sI_mul]
    have e : dualL p n W = (allN p n).filter fun y => decide (y ∈ dualL p n W) := by
      have : ∀ y ∈ allN p n, (W.all fun x => decide (dotN n x y % p = 0)) = decide (y ∈ dualL p n W) := fun y hy => by
        rw [Bool.eq_iff_iff]
        simp [dualL, List.mem_filter, hy]
      exact List.filter_congr this
    conv => rhs; rw [e]
    rw [sI_filter]
    refine sI_congr fun y hy => ?_
    rw [chi_dual hp hn h ((allN_ok hn).mp hy)]
    simp
  have e2 : sI (allN p n) (fun y => sI W fun x => chi p (sm y x)) = ((allN p n).length : Int) := by
    rw [sI_swap]
    have e3 : ∀ x ∈ W, sI (allN p n) (fun y => chi p (sm y x)) = if x = List.replicate n 0 then ((allN p n).length : Int) else 0 := fun x hx => by
      have := chi_dual hp hn (Sub_all hp' hn) (h.ok x hx)
      rw [sI_congr (k := fun y => chi p (sm x y)) (fun y _ => by rw [sm_comm]), this]
      by_cases q : x = List.replicate n 0
      · rw [if_pos q, if_pos ((dual_all hp hn (h.ok x hx)).mpr q)]
      · rw [if_neg q, if_neg (fun z => q ((dual_all hp hn (h.ok x hx)).mp z))]
    rw [sI_congr e3]
    have h0 := h.zero
    have hnd := h.nd
    clear e3 e1 h
    induction W with
    | nil => cases h0
    | cons x W ih =>
      rw [sI_cons]
      obtain ⟨n1, n2⟩ := List.nodup_cons.mp hnd
      by_cases q : x = List.replicate n 0
      · subst q
        rw [if_pos rfl, sI_congr (k := fun _ => 0) (fun y hy => if_neg (fun (z : y = List.replicate n 0) => n1 (by rw [← z]; exact hy))), sI_zero]
        omega
      · rw [if_neg q, ih ((List.mem_cons.mp h0).resolve_left fun z => q z.symm) n2]
        omega
  rw [← e1, e2]
theorem filter_eq {α : Type} {P Q : α → Bool} : ∀ {l : List α}, (∀ x ∈ l, P x = true → Q x = true) → (l.filter P).length ≤ (l.filter Q).length ∧ ((l.filter P).length = (l.filter Q).length → l.filter P = l.filter Q)
  | [], _ => ⟨Nat.le_refl _, fun _ => rfl⟩
  | x :: l, h => by
    obtain ⟨i1, i2⟩ := filter_eq (l := l) fun y hy => h y (List.mem_cons_of_mem _ hy)
    have hx := h x List.mem_cons_self
    cases hP : P x with
    | true =>
      have hQ := hx hP
      rw [List.filter_cons_of_pos hP, List.filter_cons_of_pos hQ, List.length_cons, List.length_cons]
      exact ⟨by omega, fun e => by rw [i2 (by omega)]⟩
    | false =>
      rw [List.filter_cons_of_neg (by simp [hP])]
      cases hQ : Q x with
      | true =>
        rw [List.filter_cons_of_pos hQ, List.length_cons]
        exact ⟨by omega, fun e => by omega⟩
      | false =>
        rw [List.filter_cons_of_neg (by simp [hQ])]
        exact ⟨i1, i2⟩
theorem dual_dual {p : Int} {n : Nat} (hp : isP p = true) (hn : n ≤ 1000) {W : List (List Int)} (h : Sub p n W) : (dualL p n (dualL p n W)).Perm W := by
  have hp' := isP_okP hp
  have hD := Sub_dual hp' hn h.ok
  have c1 := dual_card hp hn h
  have c2 := dual_card hp hn hD
  have hpos : 0 < ((dualL p n W).length : Int) := by
    have := List.length_pos_of_mem hD.zero
    omega
  have hlen : (dualL p n (dualL p n W)).length = W.length := by
    have : ((dualL p n W).length : Int) * ((dualL p n (dualL p n W)).length : Int) = ((dualL p n W).length : Int) * (W.length : Int) := by rw [c2, ← c1, Int.mul_comm]
    have := Int.eq_of_mul_eq_mul_left (by omega) this
    omega
  have hsub : ∀ x ∈ W, x ∈ dualL p n (dualL p n W) := fun x hx => (dual_mem hn hD.ok).mpr ⟨h.ok x hx, fun y hy => by rw [sm_comm]; exact ((dual_mem hn h.ok).mp hy).2 x hx⟩
  have e1 : ((allN p n).filter fun x => decide (x ∈ W)).Perm W := (List.perm_ext_iff_of_nodup ((allN_nd p n).filter _) h.nd).mpr fun x => by
    rw [List.mem_filter, decide_eq_true_eq, allN_ok hn]
    exact ⟨fun z => z.2, fun z => ⟨h.ok x z, z⟩⟩
  have e2 : dualL p n (dualL p n W) = (allN p n).filter fun x => decide (x ∈ W) := by
    have := filter_eq (l := allN p n) (P := fun x => decide (x ∈ W)) (Q := fun y => (dualL p n W).all fun x => decide (dotN n x y % p = 0)) fun x hx hx2 => (List.mem_filter.mp (hsub x (of_decide_eq_true hx2))).2
    refine (this.2 ?_).symm
    rw [e1.length_eq]
    exact hlen.symm
  rw [e2]
  exact e1
end Lq

namespace Lq
open PySem PySem.Spec PyProof.Rows L2
theorem fold_cnt {p : Int} {n : Nat} {x : List Int} {j : Int} (hp : 0 < p) : ∀ (ys : List (List Int)) (cs : List Int) (c : Nat), c < p.toNat → cs.length = p.toNat → (ys.foldl (stepC p n x j) cs).getD c 0 = cs.getD c 0 + sI ys fun y => if (wtW y : Int) = j ∧ dotN n x y % p = (c : Int) then 1 else 0
  | [], cs, c, hc, hl => by rw [sI_nil]; simp
  | y :: ys, cs, c, hc, hl => by
    rw [List.foldl_cons, fold_cnt hp ys _ c hc (by rw [stepC_len']; exact hl), sI_cons]
    have h1 : 0 ≤ dotN n x y % p := Int.emod_nonneg _ (by omega)
    have h2 : dotN n x y % p < p := Int.emod_lt_of_pos _ hp
    have key : (stepC p n x j cs y).getD c 0 = cs.getD c 0 + if (wtW y : Int) = j ∧ dotN n x y % p = (c : Int) then 1 else 0 := by
      unfold stepC
      by_cases q : (wtW y : Int) = j
      · rw [if_pos q]
        by_cases r : dotN n x y % p = (c : Int)
        · rw [if_pos ⟨q, r⟩, r, Int.toNat_natCast, List.getD_eq_getElem?_getD, List.getElem?_set, if_pos rfl, if_pos (by omega)]
          rfl
        · rw [if_neg (fun z => r z.2), List.getD_eq_getElem?_getD, List.getElem?_set, if_neg (by omega), List.getD_eq_getElem?_getD]
          omega
      · rw [if_neg q, if_neg (fun z => q z.1)]
        omega
    rw [key]
    omega
where
  stepC_len' {p : Int} {n : Nat} {x : List Int} {j : Int} {cs y : List Int} : (stepC p n x j cs y).length = cs.length := by
    unfold stepC
    split <;> simp
theorem kraw_chi {p : Int} {n j : Nat} {x : List Int} (h : shape p n) (hx : x ∈ allN p n) (hj : j < n + 1) : krawI p (n : Int) (j : Int) (wtW x : Int) = sI (allN p n) fun y => if wtW y = j then chi p (dotN n x y) else 0 := by
  have hp : 2 ≤ p := by rcases h with ⟨rfl, _⟩ | ⟨rfl, _⟩ | ⟨rfl, _⟩ <;> decide
  have h1 := List.all_eq_true.mp (chk_all h) x hx
  unfold chkX at h1
  rw [Bool.and_eq_true] at h1
  have h2 := List.all_eq_true.mp h1.1 j (List.mem_range.mpr hj)
  unfold chk1 at h2
  simp only [Bool.and_eq_true, decide_eq_true_eq] at h2
  rw [h2.2]
  unfold cntL
  rw [fold_cnt (by omega) _ _ 0 (by omega) (by simp), fold_cnt (by omega) _ _ 1 (by omega) (by simp)]
  have z : ∀ c : Nat, (List.replicate p.toNat (0 : Int)).getD c 0 = 0 := fun c => by
    rw [List.getD_eq_getElem?_getD, List.getElem?_replicate]
    split <;> rfl
  rw [z, z, Int.zero_add, Int.zero_add]
  have e : (sI (allN p n) fun y => if wtW y = j then chi p (dotN n x y) else 0) + (sI (allN p n) fun y => if (wtW y : Int) = (j : Int) ∧ dotN n x y % p = ((1 : Nat) : Int) then (1 : Int) else 0) = sI (allN p n) fun y => if (wtW y : Int) = (j : Int) ∧ dotN n x y % p = ((0 : Nat) : Int) then (1 : Int) else 0 := by
    rw [← sI_add]
    refine sI_congr fun y _ => ?_
    unfold chi
    by_cases q : wtW y = j
    · have q' : (wtW y : Int) = (j : Int) := by omega
      rw [if_pos q]
      simp only [q', true_and]
      split <;> split <;> omega
    · have q' : ¬ (wtW y : Int) = (j : Int) := by omega
      rw [if_neg q]
      simp only [q', false_and, if_false]
      omega
  omega
theorem shape_isP {p : Int} {n : Nat} (h : shape p n) : isP p = true ∧ n ≤ 5 := by
  rcases h with ⟨rfl, h⟩ | ⟨rfl, h⟩ | ⟨rfl, h⟩
  · exact ⟨by decide, h⟩
  · exact ⟨by decide, by omega⟩
  · exact ⟨by decide, by omega⟩
def trI (p : Int) (n : Nat) (v : List Int) (j : Nat) : Int := sI (List.range (n + 1)) fun i => v.getD i 0 * krawI p (n : Int) (j : Int) (i : Int)
theorem ok_wt {p : Int} {n : Nat} {w : List Int} (h : ok1 p n w) : wtW w ≤ n := by
  have := wt_le w
  rw [h.2] at this
  exact this
theorem Sub_sum {p : Int} {n : Nat} {W : List (List Int)} (h : Sub p n W) (K : Nat → Int) : sI (List.range (n + 1)) (fun i => (cntW n W).getD i 0 * K i) = sI W fun w => K (wtW w) := cntW_sum (fun w hw => ok_wt (h.ok w hw)) K
theorem cnt_whole {p : Int} {n : Nat} {W : List (List Int)} (h : Sub p n W) : (cntW n W).sum = (W.length : Int) := by
  have e := Sub_sum h fun _ => 1
  rw [sI_one] at e
  rw [← e]
  unfold sI
  congr 1
  unfold cntW
  refine List.map_congr_left fun i hi => ?_
  have := cntW_get (ws := W) (List.mem_range.mp hi)
  unfold cntW at this
  rw [this]
  omega
theorem mac_W {p : Int} {n j : Nat} {W : List (List Int)} (hs : shape p n) (h : Sub p n W) (hj : j < n + 1) : trI p n (cntW n W) j = (W.length : Int) * (cntW n (dualL p n W)).getD j 0 := by
  obtain ⟨hp, hn⟩ := shape_isP hs
  unfold trI
  rw [Sub_sum h fun i => krawI p (n : Int) (j : Int) (i : Int)]
  rw [sI_congr fun x hx => kraw_chi hs ((allN_ok (by omega)).mpr (h.ok x hx)) hj, sI_swap, cntW_get hj, ← sI_mul]
  have e : dualL p n W = (allN p n).filter fun y => decide (y ∈ dualL p n W) := by
    have : ∀ y ∈ allN p n, (W.all fun x => decide (dotN n x y % p = 0)) = decide (y ∈ dualL p n W) := fun y hy => by
      rw [Bool.eq_iff_iff]
      simp [dualL, List.mem_filter, hy]
    exact List.filter_congr this
  conv => rhs; rw [e]
  rw [sI_filter]
  refine sI_congr fun y hy => ?_
  have hy1 := (allN_ok (by omega)).mp hy
  by_cases q : wtW y = j
  · rw [if_pos q]
    rw [sI_congr (k := fun x => chi p (sm y x)) (fun x hx => by rw [if_pos q, dotN_sm (h.ok x hx).2 hy1.2, sm_comm]), chi_dual hp (by omega) h hy1]
    simp
  · rw [if_neg q, sI_congr (k := fun _ => 0) (fun x _ => if_neg q), sI_zero]
    simp
theorem cnt_perm {n : Nat} {a b : List (List Int)} (h : a.Perm b) : cntW n a = cntW n b := List.map_congr_left fun i _ => sI_perm h _
theorem mac_D {p : Int} {n j : Nat} {W : List (List Int)} (hs : shape p n) (h : Sub p n W) (hj : j < n + 1) : trI p n (cntW n (dualL p n W)) j = ((dualL p n W).length : Int) * (cntW n W).getD j 0 := by
  obtain ⟨hp, hn⟩ := shape_isP hs
  have hD := Sub_dual (isP_okP hp) (by omega : n ≤ 1000) h.ok
  rw [mac_W hs hD hj, cnt_perm (dual_dual hp (by omega) h)]
/-! ### binomial moments -/
def bmI (v : List Int) (s : Int) : Int := sI (List.range v.length) fun i => binF ((v.length : Int) - 1 - (i : Int)) s * v.getD i 0
theorem bm_sub {p : Int} {n : Nat} {W : List (List Int)} (h : Sub p n W) (s : Int) : bmI (cntW n W) s = sI W fun w => binF ((n : Int) - (wtW w : Int)) s := by
  unfold bmI
  rw [cntW_len, ← Sub_sum h fun i => binF ((n : Int) - (i : Int)) s]
  refine sI_congr fun i _ => ?_
  have : (((n + 1 : Nat) : Int) - 1 - (i : Int)) = (n : Int) - (i : Int) := by omega
  rw [this, Int.mul_comm]
def chkB (p : Int) (n : Nat) : Bool := (List.range (n + 1)).all fun i => (List.range (n + 1)).all fun s => decide (sI (List.range (n + 1)) (fun j => krawI p (n : Int) (j : Int) (i : Int) * binF ((n : Int) - (j : Int)) ((n : Int) - (s : Int))) = p ^ s * binF ((n : Int) - (i : Int)) (s : Int))
theorem chkB2 : ((List.range 6).all (chkB 2)) = true := by decide +kernel
theorem chkB3 : ((List.range 5).all (chkB 3)) = true := by decide +kernel
theorem chkB5 : ((List.range 4).all (chkB 5)) = true := by decide +kernel
theorem chkB_all {p : Int} {n : Nat} (h : shape p n) : chkB p n = true := by
  rcases h with ⟨rfl, h⟩ | ⟨rfl, h⟩ | ⟨rfl, h⟩
  · exact List.all_eq_true.mp chkB2 n (List.mem_range.mpr (by omega))
  · exact List.all_eq_true.mp chkB3 n (List.mem_range.mpr (by omega))
  · exact List.all_eq_true.mp chkB5 n (List.mem_range.mpr (by omega))
theorem bm_power {p : Int} {n s : Nat} {W : List (List Int)} (hs : shape p n) (h : Sub p n W) (hsn : s < n + 1) : bmI (cntW n W) (s : Int) * p ^ s = (W.length : Int) * bmI (cntW n (dualL p n W)) ((n : Int) - (s : Int)) := by
  obtain ⟨hp, hn⟩ := shape_isP hs
  have e1 : (W.length : Int) * bmI (cntW n (dualL p n W)) ((n : Int) - (s : Int)) = sI (List.range (n + 1)) fun j => trI p n (cntW n W) j * binF ((n : Int) - (j : Int)) ((n : Int) - (s : Int)) := by
    unfold bmI
    rw [cntW_len, ← sI_mul]
    refine sI_congr fun j hj => ?_
    have : (((n + 1 : Nat) : Int) - 1 - (j : Int)) = (n : Int) - (j : Int) := by omega
    rw [mac_W hs h (List.mem_range.mp hj), this, Int.mul_assoc, Int.mul_comm (binF _ _)]
  have e2 : sI (List.range (n + 1)) (fun j => trI p n (cntW n W) j * binF ((n : Int) - (j : Int)) ((n : Int) - (s : Int))) = sI W fun w => p ^ s * binF ((n : Int) - (wtW w : Int)) (s : Int) := by
    have : ∀ j ∈ List.range (n + 1), trI p n (cntW n W) j * binF ((n : Int) - (j : Int)) ((n : Int) - (s : Int)) = sI W fun w => krawI p (n : Int) (j : Int) (wtW w : Int) * binF ((n : Int) - (j : Int)) ((n : Int) - (s : Int)) := fun j _ => by
      unfold trI
      rw [Sub_sum h fun i => krawI p (n : Int) (j : Int) (i : Int), sI_mulr]
    rw [sI_congr this, sI_swap]
    refine sI_congr fun w hw => ?_
    have h1 := List.all_eq_true.mp (chkB_all hs) (wtW w) (List.mem_range.mpr (by have := ok_wt (h.ok w hw); omega))
    exact of_decide_eq_true (List.all_eq_true.mp h1 s (List.mem_range.mpr hsn))
  rw [e1, e2, sI_mul, bm_sub h, Int.mul_comm]
/-! ### places -/
def placesL : Nat → List (List Int)
  | 0 => [[]]
  | k + 1 => placesL k ++ (placesL k).map fun c => c ++ [(k : Int)]
def zeroAt (w c : List Int) : Bool := c.all fun k => decide (w.getD k.toNat 0 = 0)
def pairsI (ws cs : List (List Int)) : Int := sI ws fun w => sI cs fun c => if zeroAt w c then 1 else 0
def chkZ (p : Int) (n : Nat) : Bool := (allN p n).all fun w => (List.range (n + 1)).all fun s => decide (sI ((placesL n).filter fun c => decide (c.length = s)) (fun c => if zeroAt w c then (1 : Int) else 0) = binF ((n : Int) - (wtW w : Int)) (s : Int))
theorem chkZ2 : ((List.range 6).all (chkZ 2)) = true := by decide +kernel
theorem chkZ3 : ((List.range 5).all (chkZ 3)) = true := by decide +kernel
theorem chkZ5 : ((List.range 4).all (chkZ 5)) = true := by decide +kernel
theorem chkZ_all {p : Int} {n : Nat} (h : shape p n) : chkZ p n = true := by
  rcases h with ⟨rfl, h⟩ | ⟨rfl, h⟩ | ⟨rfl, h⟩
  · exact List.all_eq_true.mp chkZ2 n (List.mem_range.mpr (by omega))
  · exact List.all_eq_true.mp chkZ3 n (List.mem_range.mpr (by omega))
  · exact List.all_eq_true.mp chkZ5 n (List.mem_range.mpr (by omega))
theorem bm_pairs {p : Int} {n s : Nat} {W : List (List Int)} (hs : shape p n) (h : Sub p n W) (hsn : s < n + 1) : bmI (cntW n W) (s : Int) = pairsI W ((placesL n).filter fun c => decide (c.length = s)) := by
  obtain ⟨hp, hn⟩ := shape_isP hs
  rw [bm_sub h]
  refine sI_congr fun w hw => ?_
  have h1 := List.all_eq_true.mp (chkZ_all hs) w ((allN_ok (by omega)).mpr (h.ok w hw))
  exact (of_decide_eq_true (List.all_eq_true.mp h1 s (List.mem_range.mpr hsn))).symm
end Lq

namespace Lq
open PySem PySem.Spec PyProof.Rows L2
def LK (ss ns : List Int) (a2 a3 a4 a5 a6 a7 a8 a9 a10 a11 a12 a13 : Sv) (mo : List Mo) : Ms := { sl := [.im (scrD ss), .mu 0, a2, a3, a4, a5, a6, a7, a8, a9, a10, a11, a12, a13], mo := .ob (.ls (ns.map Dt.int)) :: mo }
theorem sqK {m n : Ms → O} {S S' : Ms} (h : m S = .nx S') : seqS m n S = n S' := by rw [seqS_run, h, seq_nx]
theorem shape_p {p : Int} {n : Nat} (h : shape p n) : okP p = true ∧ (2 ≤ p ∧ p ≤ 5) ∧ n ≤ 5 ∧ p.toNat ^ n ≤ 125 := by
  rcases h with ⟨rfl, h⟩ | ⟨rfl, h⟩ | ⟨rfl, h⟩
  · exact ⟨by decide, by decide, h, Nat.le_trans (Nat.pow_le_pow_right (by decide) h) (by decide)⟩
  · exact ⟨by decide, by decide, by omega, Nat.le_trans (Nat.pow_le_pow_right (by decide) h) (by decide)⟩
  · exact ⟨by decide, by decide, by omega, Nat.le_trans (Nat.pow_le_pow_right (by decide) h) (by decide)⟩
theorem stepC_len (p : Int) (n : Nat) (x : List Int) (j : Int) (cs y : List Int) : (stepC p n x j cs y).length = cs.length := by
  unfold stepC
  split <;> simp

theorem k15_0 {ss : List Int} (h : ss.length ≤ 63) : ∃ ns, okN ns ∧ (asgN 1 (funN 1 (aCons (varE 0) aNil) Fnumbers)) (st0 14 [scrD ss]) = .nx (LK ss ns .no .no .no .no .no .no .no .no .no .no .no .no []) := by
  obtain ⟨xs, h1, h2⟩ := Fnumbers_run h
  refine ⟨xs, h1, ?_⟩
  have hst : st0 14 [scrD ss] = { sl := [.im (scrD ss), .no, .no, .no, .no, .no, .no, .no, .no, .no, .no, .no, .no, .no], mo := [] } := rfl
  rw [hst]
  simp [funN, h2, LK]
theorem k15_1 {ss ns : List Int} (h : okN ns) : ∃ p n ns', okN ns' ∧ shape p n ∧ (asgT (Tk.tp [11, 12]) (funM 0 1 aNil Fshape)) (LK ss ns .no .no .no .no .no .no .no .no .no .no .no .no []) = .nx (LK ss ns' .no .no .no .no .no .no .no .no .no (.im (.int p)) (.im (.int (n : Int))) .no []) := by
  obtain ⟨p, n, ns', h1, h2, h3⟩ := Fshape_run h
  refine ⟨p, n, ns', h1, h2, ?_⟩
  simp [LK, funM, muAt, h3, kNames]
theorem k15_2 {ss ns : List Int} {p : Int} {n : Nat} (h : shape p n) : (asgS 2 (funE 2 (aCons (varE 11) (aCons (varE 12) aNil)) Fall15)) (LK ss ns .no .no .no .no .no .no .no .no .no (.im (.int p)) (.im (.int (n : Int))) .no []) = .nx (LK ss ns (.im (.lst ((allN p n).map Wd))) .no .no .no .no .no .no .no .no (.im (.int p)) (.im (.int (n : Int))) .no []) := by
  obtain ⟨h1, h2, h3, h4⟩ := shape_p h
  have hf : Fall15 [.int p, .int (n : Int)] = .ok (.lst ((allN p n).map Wd)) := Fall_run h1 (by omega) (by omega)
  simp [LK, hf]
theorem k15_3 {ss ns : List Int} {p : Int} {n : Nat} (hn : okN ns) (h : shape p n) : ∃ x ns', okN ns' ∧ x ∈ allN p n ∧ (asgS 3 (op2 (varE 2) (funM 1 1 (aCons (calE (aCons (varE 2) aNil) lenO) aNil) Fnext) ixO)) (LK ss ns (.im (.lst ((allN p n).map Wd))) .no .no .no .no .no .no .no .no (.im (.int p)) (.im (.int (n : Int))) .no []) = .nx (LK ss ns' (.im (.lst ((allN p n).map Wd))) (.im (Wd x)) .no .no .no .no .no .no .no (.im (.int p)) (.im (.int (n : Int))) .no []) := by
  obtain ⟨h1, h2, h3, h4⟩ := shape_p h
  have hlen := allN_len p n
  have hpos : 0 < (allN p n).length := by rw [hlen]; exact Nat.pow_pos (by omega)
  have ho := next_ok hn (m := ((allN p n).length : Int)) (by omega)
  have hf := Fnext_run (m := ((allN p n).length : Int)) (by omega) hn.1
  generalize nextF ((allN p n).length : Int) ns = u at *
  obtain ⟨v, ns'⟩ := u
  dsimp only at ho hf
  obtain ⟨v, rfl⟩ : ∃ k : Nat, v = (k : Int) := ⟨v.toNat, by omega⟩
  have hv : v < (allN p n).length := by omega
  refine ⟨(allN p n)[v], ns', ho.2, List.getElem_mem hv, ?_⟩
  have hat : atI ((allN p n).map Wd) (v : Int) = some (Wd (allN p n)[v]) := by
    rw [atI_ofNat, List.getElem?_map, List.getElem?_eq_getElem hv]
    rfl
  simp [LK, funM, muAt, hf, hat]
theorem k15_4 {ss ns : List Int} {p : Int} {n : Nat} {x : List Int} (h : shape p n) (hx : x ∈ allN p n) : (asgS 4 (funE 1 (aCons (varE 3) aNil) Fweight)) (LK ss ns (.im (.lst ((allN p n).map Wd))) (.im (Wd x)) .no .no .no .no .no .no .no (.im (.int p)) (.im (.int (n : Int))) .no []) = .nx (LK ss ns (.im (.lst ((allN p n).map Wd))) (.im (Wd x)) (.im (.int (wtW x : Int))) .no .no .no .no .no .no (.im (.int p)) (.im (.int (n : Int))) .no []) := by
  obtain ⟨h1, h2, h3, h4⟩ := shape_p h
  have hw := allN_wlen p n x hx
  have hf := Fweight_run (v := x) (by omega)
  simp [LK, hf]
theorem k15_5 {ss ns : List Int} {p : Int} {n : Nat} {x : List Int} (hn : okN ns) : ∃ j ns', okN ns' ∧ j < n + 1 ∧ (asgS 5 (funM 1 1 (aCons (op2 (varE 12) (cE (.int 1)) addO) aNil) Fnext)) (LK ss ns (.im (.lst ((allN p n).map Wd))) (.im (Wd x)) (.im (.int (wtW x : Int))) .no .no .no .no .no .no (.im (.int p)) (.im (.int (n : Int))) .no []) = .nx (LK ss ns' (.im (.lst ((allN p n).map Wd))) (.im (Wd x)) (.im (.int (wtW x : Int))) (.im (.int (j : Nat))) .no .no .no .no .no (.im (.int p)) (.im (.int (n : Int))) .no []) := by
  have ho := next_ok hn (m := (n : Int) + 1) (by omega)
  have hf := Fnext_run (m := (n : Int) + 1) (by omega) hn.1
  generalize nextF ((n : Int) + 1) ns = u at *
  obtain ⟨v, ns'⟩ := u
  dsimp only at ho hf
  obtain ⟨v, rfl⟩ : ∃ k : Nat, v = (k : Int) := ⟨v.toNat, by omega⟩
  refine ⟨v, ns', ho.2, by omega, ?_⟩
  simp [LK, funM, muAt, hf]
theorem k15_6 {ss ns : List Int} {p : Int} {n j : Nat} {x : List Int} (h : shape p n) : (asgN 6 (lcE (itR1 (aCons (varE 11) aNil)) (Tk.nm 8).k yesT (cE (.int 0)) [8])) (LK ss ns (.im (.lst ((allN p n).map Wd))) (.im (Wd x)) (.im (.int (wtW x : Int))) (.im (.int (j : Nat))) .no .no .no .no .no (.im (.int p)) (.im (.int (n : Int))) .no []) = .nx (LK ss ns (.im (.lst ((allN p n).map Wd))) (.im (Wd x)) (.im (.int (wtW x : Int))) (.im (.int (j : Nat))) (.mu 1) .no .no .no .no (.im (.int p)) (.im (.int (n : Int))) .no [.ob (.ls ((List.replicate p.toNat (0 : Int)).map Dt.int))]) := by
  obtain ⟨h1, h2, h3, h4⟩ := shape_p h
  have key : lcE (itR1 (aCons (varE 11) aNil)) (Tk.nm 8).k yesT (cE (.int 0)) [8] (LK ss ns (.im (.lst ((allN p n).map Wd))) (.im (Wd x)) (.im (.int (wtW x : Int))) (.im (.int (j : Nat))) .no .no .no .no .no (.im (.int p)) (.im (.int (n : Int))) .no []) = .ok ((List.replicate p.toNat (0 : Int)).map Dt.int) (LK ss ns (.im (.lst ((allN p n).map Wd))) (.im (Wd x)) (.im (.int (wtW x : Int))) (.im (.int (j : Nat))) .no .no .no .no .no (.im (.int p)) (.im (.int (n : Int))) .no []) := by
    have e := lcE_map (it := itR1 (aCons (varE 11) aNil)) (k := (Tk.nm 8).k) (e := cE (.int 0)) (own := [8]) (S := (LK ss ns (.im (.lst ((allN p n).map Wd))) (.im (Wd x)) (.im (.int (wtW x : Int))) (.im (.int (j : Nat))) .no .no .no .no .no (.im (.int p)) (.im (.int (n : Int))) .no [])) (S1 := (LK ss ns (.im (.lst ((allN p n).map Wd))) (.im (Wd x)) (.im (.int (wtW x : Int))) (.im (.int (j : Nat))) .no .no .no .no .no (.im (.int p)) (.im (.int (n : Int))) .no [])) (fun k : Nat => Dt.int (k : Int)) (fun _ => Dt.int 0) (List.range p.toNat) ?_ (fun k hk => ?_) (fun d T T' => Tk.mo) (by simp; omega)
    · rw [e, List.map_const', List.length_range, List.map_replicate]
    · exact itR1_run (by rw [Int.toNat_of_nonneg (by omega)]; simp [LK]) (by omega)
    · exact ⟨(LK ss ns (.im (.lst ((allN p n).map Wd))) (.im (Wd x)) (.im (.int (wtW x : Int))) (.im (.int (j : Nat))) .no .no (.im (.int (k : Int))) .no .no (.im (.int p)) (.im (.int (n : Int))) .no []), rfl, (LK ss ns (.im (.lst ((allN p n).map Wd))) (.im (Wd x)) (.im (.int (wtW x : Int))) (.im (.int (j : Nat))) .no .no (.im (.int (k : Int))) .no .no (.im (.int p)) (.im (.int (n : Int))) .no []), rfl, rfl⟩
  simp only [asgN_run']
  rw [key]
  rfl
theorem dot_run {ss ns cs x y : List Int} {p : Int} {n : Nat} {a2 a4 a5 a6 a8 a9 a10 a13 : Sv} (hn : n ≤ 5) (hx : x.length = n) (hy : y.length = n) (hyr : ∀ z ∈ y, 0 ≤ z ∧ z < 1000) :
    lcE (itR1 (aCons (varE 12) aNil)) (Tk.nm 13).k yesT (op2 (op2 (varE 3) (varE 13) ixO) (op2 (varE 7) (varE 13) ixO) mulO) [13] (LK ss ns a2 (.im (Wd x)) a4 a5 a6 (.im (Wd y)) a8 a9 a10 (.im (.int p)) (.im (.int (n : Int))) a13 [.ob (.ls (cs.map Dt.int))]) = .ok (((List.range n).map fun k => x.getD k 0 * y.getD k 0).map Dt.int) (LK ss ns a2 (.im (Wd x)) a4 a5 a6 (.im (Wd y)) a8 a9 a10 (.im (.int p)) (.im (.int (n : Int))) a13 [.ob (.ls (cs.map Dt.int))]) := by
  rw [lcE_map (fun k : Nat => Dt.int (k : Int)) (fun k => Dt.int (x.getD k 0 * y.getD k 0)) (List.range n) ?_ (fun k hk => ?_) (fun d T T' => Tk.mo) (by simp; omega)]
  · rw [List.map_map]; rfl
  · exact itR1_run (by simp [LK]) (by omega)
  · have hk' := List.mem_range.mp hk
    have e1 : ixO (Wd x) (.int (k : Int)) = some (.int (x.getD k 0)) := by
      show atI (x.map Dt.int) (k : Int) = _
      rw [atI_ofNat, List.getElem?_map, List.getD_eq_getElem?_getD, List.getElem?_eq_getElem (by omega)]
      rfl
    have e2 : ixO (Wd y) (.int (k : Int)) = some (.int (y.getD k 0)) := by
      show atI (y.map Dt.int) (k : Int) = _
      rw [atI_ofNat, List.getElem?_map, List.getD_eq_getElem?_getD, List.getElem?_eq_getElem (by omega)]
      rfl
    have hz : 0 ≤ y.getD k 0 ∧ y.getD k 0 < 1000 := by
      rw [List.getD_eq_getElem?_getD, List.getElem?_eq_getElem (by omega)]
      exact hyr _ (List.getElem_mem _)
    have c1 : CMul (x.getD k 0) (y.getD k 0) := by
      have e1 : (1000 : Int) < 2 ^ 64 := by decide
      have e2 : -(2 : Int) ^ 64 < 0 := by decide
      exact .inr ⟨by omega, by omega⟩
    clear hz
    generalize x.getD k 0 = a at *
    generalize y.getD k 0 = b at *
    simp [LK, wipeL, e1, e2, c1]
theorem k15_7b {ss ns cs x y : List Int} {p : Int} {n j : Nat} {a8 a13 : Sv} (h : shape p n) (hx : x ∈ allN p n) (hy : y ∈ allN p n) (hc : cs.length = p.toNat) :
    ∃ y8 y13, (ifS (tst (op2 (funE 1 (aCons (varE 7) aNil) Fweight) (varE 5) eqO)) (seqS (asgS 8 (op2 (calE (aCons (frz (lcE (itR1 (aCons (varE 12) aNil)) (Tk.nm 13).k yesT (op2 (op2 (varE 3) (varE 13) ixO) (op2 (varE 7) (varE 13) ixO) mulO) [13])) aNil) sumO) (varE 11) modO))
  (setS 6 (op2 (ixV 6 (varE 8)) (cE (.int 1)) addO) (varE 8))) nilS) (LK ss ns (.im (.lst ((allN p n).map Wd))) (.im (Wd x)) (.im (.int (wtW x : Int))) (.im (.int (j : Nat))) (.mu 1) (.im (Wd y)) a8 .no .no (.im (.int p)) (.im (.int (n : Int))) a13 [.ob (.ls (cs.map Dt.int))]) = .nx (LK ss ns (.im (.lst ((allN p n).map Wd))) (.im (Wd x)) (.im (.int (wtW x : Int))) (.im (.int (j : Nat))) (.mu 1) (.im (Wd y)) y8 .no .no (.im (.int p)) (.im (.int (n : Int))) y13 [.ob (.ls ((stepC p n x (j : Int) cs y).map Dt.int))]) := by
  obtain ⟨h1, h2, h3, h4⟩ := shape_p h
  have hxl := allN_wlen p n x hx
  have hyl := allN_wlen p n y hy
  have hyr := (allN_mem.mp hy).2
  have hf := Fweight_run (v := y) (by omega)
  unfold stepC
  by_cases hj : (wtW y : Int) = (j : Int)
  · rw [if_pos hj]
    have hd := dot_run (ss := ss) (ns := ns) (cs := cs) (p := p) (a2 := .im (.lst ((allN p n).map Wd))) (a4 := .im (.int (wtW x : Int))) (a5 := .im (.int (j : Nat))) (a6 := .mu 1) (a8 := a8) (a9 := .no) (a10 := .no) (a13 := a13) h3 hxl hyl (fun z hz => by have := hyr z hz; omega)
    have hs : sumO [.lst (((List.range n).map fun k => x.getD k 0 * y.getD k 0).map Dt.int)] = some (.int (dotN n x y)) := sumO_ints _
    have r1 : 0 ≤ dotN n x y % p := Int.emod_nonneg _ (by omega)
    have r2 : dotN n x y % p < p := Int.emod_lt_of_pos _ (by omega)
    obtain ⟨c, hcc⟩ : ∃ c : Nat, dotN n x y % p = (c : Int) := ⟨(dotN n x y % p).toNat, by omega⟩
    have hcl : c < cs.length := by omega
    refine ⟨.im (.int (c : Int)), a13, ?_⟩
    rw [hcc, Int.toNat_natCast]
    have e1 : ∀ m : Ms → O, seqS (asgS 8 (op2 (calE (aCons (frz (lcE (itR1 (aCons (varE 12) aNil)) (Tk.nm 13).k yesT (op2 (op2 (varE 3) (varE 13) ixO) (op2 (varE 7) (varE 13) ixO) mulO) [13])) aNil) sumO) (varE 11) modO)) m (LK ss ns (.im (.lst ((allN p n).map Wd))) (.im (Wd x)) (.im (.int (wtW x : Int))) (.im (.int (j : Nat))) (.mu 1) (.im (Wd y)) a8 .no .no (.im (.int p)) (.im (.int (n : Int))) a13 [.ob (.ls (cs.map Dt.int))]) = m (LK ss ns (.im (.lst ((allN p n).map Wd))) (.im (Wd x)) (.im (.int (wtW x : Int))) (.im (.int (j : Nat))) (.mu 1) (.im (Wd y)) (.im (.int (c : Int))) .no .no (.im (.int p)) (.im (.int (n : Int))) a13 [.ob (.ls (cs.map Dt.int))]) := fun m => by
      simp only [seqS_run, asgS_run', op2_run, calE_run, aCons_run, frz_run']
      rw [hd]
      simp only [R.bind_ok, aNil_run, hs, R.of_some]
      rw [varE_im (d := .int p) (by rfl)]
      have hp0 : 0 < p := by omega
      simp [LK, hp0, hcc]
    have e2 : setS 6 (op2 (ixV 6 (varE 8)) (cE (.int 1)) addO) (varE 8) (LK ss ns (.im (.lst ((allN p n).map Wd))) (.im (Wd x)) (.im (.int (wtW x : Int))) (.im (.int (j : Nat))) (.mu 1) (.im (Wd y)) (.im (.int (c : Int))) .no .no (.im (.int p)) (.im (.int (n : Int))) a13 [.ob (.ls (cs.map Dt.int))]) = .nx (LK ss ns (.im (.lst ((allN p n).map Wd))) (.im (Wd x)) (.im (.int (wtW x : Int))) (.im (.int (j : Nat))) (.mu 1) (.im (Wd y)) (.im (.int (c : Int))) .no .no (.im (.int p)) (.im (.int (n : Int))) a13 [.ob (.ls ((cs.set c (cs.getD c 0 + 1)).map Dt.int))]) := by
      have hat : atI (cs.map Dt.int) (c : Int) = some (.int (cs.getD c 0)) := by
        rw [atI_ofNat, List.getElem?_map, List.getD_eq_getElem?_getD, List.getElem?_eq_getElem hcl]
        rfl
      have hix : ixN (cs.map Dt.int).length (c : Int) = some c := by
        unfold ixN
        rw [List.length_map, if_pos (by omega), if_pos (by omega), Int.toNat_natCast]
      have hix' : ixN cs.length (c : Int) = some c := by rw [List.length_map] at hix; exact hix
      have hset : (cs.map Dt.int).set c (.int (cs.getD c 0 + 1)) = (cs.set c (cs.getD c 0 + 1)).map Dt.int := by rw [List.map_set]
      generalize cs.getD c 0 = z at *
      simp [LK, setS, ixV, muAt, hat, hix', List.map_set]
    rw [ifS_run, tst_run', op2_run, funE_run, aCons_run, varE_im (d := Wd y) (by rfl), R.bind_ok, aNil_run, R.bind_ok, R.bind_ok, if_pos (by rfl), hf]
    dsimp only
    rw [R.bind_ok, varE_im (d := .int (j : Int)) (by rfl), R.bind_ok, eqO_int, R.of_some, R.bind_ok]
    dsimp only
    rw [decide_eq_true hj, R.stmt_ok, if_pos rfl, e1, e2]
  · rw [if_neg hj]
    refine ⟨a8, a13, ?_⟩
    rw [ifS_run, tst_run', op2_run, funE_run, aCons_run, varE_im (d := Wd y) (by rfl), R.bind_ok, aNil_run, R.bind_ok, R.bind_ok, if_pos (by rfl), hf]
    dsimp only
    rw [R.bind_ok, varE_im (d := .int (j : Int)) (by rfl), R.bind_ok, eqO_int, R.of_some, R.bind_ok]
    dsimp only
    rw [decide_eq_false hj, R.stmt_ok, if_neg (by simp), nilS_run]
theorem k15_7 {ss ns x : List Int} {p : Int} {n j : Nat} (h : shape p n) (hx : x ∈ allN p n) : ∃ y7 y8 y13, (forS (itS (varE 2)) (Tk.nm 7).k (ifS (tst (op2 (funE 1 (aCons (varE 7) aNil) Fweight) (varE 5) eqO)) (seqS (asgS 8 (op2 (calE (aCons (frz (lcE (itR1 (aCons (varE 12) aNil)) (Tk.nm 13).k yesT (op2 (op2 (varE 3) (varE 13) ixO) (op2 (varE 7) (varE 13) ixO) mulO) [13])) aNil) sumO) (varE 11) modO))
  (setS 6 (op2 (ixV 6 (varE 8)) (cE (.int 1)) addO) (varE 8))) nilS)) (LK ss ns (.im (.lst ((allN p n).map Wd))) (.im (Wd x)) (.im (.int (wtW x : Int))) (.im (.int (j : Nat))) (.mu 1) .no .no .no .no (.im (.int p)) (.im (.int (n : Int))) .no [.ob (.ls ((List.replicate p.toNat (0 : Int)).map Dt.int))]) = .nx (LK ss ns (.im (.lst ((allN p n).map Wd))) (.im (Wd x)) (.im (.int (wtW x : Int))) (.im (.int (j : Nat))) (.mu 1) y7 y8 .no .no (.im (.int p)) (.im (.int (n : Int))) y13 [.ob (.ls ((cntL p n x (j : Int)).map Dt.int))]) := by
  have hit : itS (varE 2) (LK ss ns (.im (.lst ((allN p n).map Wd))) (.im (Wd x)) (.im (.int (wtW x : Int))) (.im (.int (j : Nat))) (.mu 1) .no .no .no .no (.im (.int p)) (.im (.int (n : Int))) .no [.ob (.ls ((List.replicate p.toNat (0 : Int)).map Dt.int))]) = .ok ((allN p n).map Wd) (LK ss ns (.im (.lst ((allN p n).map Wd))) (.im (Wd x)) (.im (.int (wtW x : Int))) (.im (.int (j : Nat))) (.mu 1) .no .no .no .no (.im (.int p)) (.im (.int (n : Int))) .no [.ob (.ls ((List.replicate p.toNat (0 : Int)).map Dt.int))]) := by simp [LK]
  obtain ⟨S', f1, f2⟩ := forL_fold (k := (Tk.nm 7).k) (body := (ifS (tst (op2 (funE 1 (aCons (varE 7) aNil) Fweight) (varE 5) eqO)) (seqS (asgS 8 (op2 (calE (aCons (frz (lcE (itR1 (aCons (varE 12) aNil)) (Tk.nm 13).k yesT (op2 (op2 (varE 3) (varE 13) ixO) (op2 (varE 7) (varE 13) ixO) mulO) [13])) aNil) sumO) (varE 11) modO))
  (setS 6 (op2 (ixV 6 (varE 8)) (cE (.int 1)) addO) (varE 8))) nilS)) Wd (fun _ cs S => cs.length = p.toNat ∧ ∃ y7 y8 y13, S = (LK ss ns (.im (.lst ((allN p n).map Wd))) (.im (Wd x)) (.im (.int (wtW x : Int))) (.im (.int (j : Nat))) (.mu 1) y7 y8 .no .no (.im (.int p)) (.im (.int (n : Int))) y13 [.ob (.ls (cs.map Dt.int))])) (stepC p n x (j : Int)) (allN p n) 0 (List.replicate p.toNat 0) (LK ss ns (.im (.lst ((allN p n).map Wd))) (.im (Wd x)) (.im (.int (wtW x : Int))) (.im (.int (j : Nat))) (.mu 1) .no .no .no .no (.im (.int p)) (.im (.int (n : Int))) .no [.ob (.ls ((List.replicate p.toNat (0 : Int)).map Dt.int))]) ⟨by simp, .no, .no, .no, rfl⟩ (fun i cs y S hy _ hI => by
    obtain ⟨hc, y7, y8, y13, rfl⟩ := hI
    obtain ⟨z8, z13, e⟩ := k15_7b (ss := ss) (ns := ns) (j := j) (a8 := y8) (a13 := y13) h hx hy hc
    exact ⟨_, _, kNm _ _ _, .inl e, by rw [stepC_len]; exact hc, _, _, _, rfl⟩)
  obtain ⟨_, y7, y8, y13, rfl⟩ := f2
  refine ⟨y7, y8, y13, ?_⟩
  rw [forS_run, hit, R.stmt_ok, f1]
  rfl
theorem cnt_len (p : Int) (n : Nat) (x : List Int) (j : Int) : (cntL p n x j).length = p.toNat := by
  unfold cntL
  have : ∀ (ys : List (List Int)) (cs : List Int), (ys.foldl (stepC p n x j) cs).length = cs.length := by
    intro ys
    induction ys with
    | nil => intro cs; rfl
    | cons y ys ih => intro cs; rw [List.foldl_cons, ih, stepC_len]
  rw [this]
  simp
theorem k15_8 {ss ns cs x : List Int} {p : Int} {n j : Nat} {a7 a8 a13 : Sv} (h : shape p n) (hc : cs.length = p.toNat) (he : ∀ k, k < (p - 2).toNat → cs.getD (k + 2) 0 = cs.getD 1 0) : ∃ y8, (forS (itR2 (aCons (cE (.int 2)) (aCons (varE 11) aNil))) (Tk.nm 8).k (ifS (tst (op2 (ixV 6 (varE 8)) (ixV 6 (cE (.int 1))) neO)) (retS (cE (.bl false))) nilS)) (LK ss ns (.im (.lst ((allN p n).map Wd))) (.im (Wd x)) (.im (.int (wtW x : Int))) (.im (.int (j : Nat))) (.mu 1) a7 a8 .no .no (.im (.int p)) (.im (.int (n : Int))) a13 [.ob (.ls (cs.map Dt.int))]) = .nx (LK ss ns (.im (.lst ((allN p n).map Wd))) (.im (Wd x)) (.im (.int (wtW x : Int))) (.im (.int (j : Nat))) (.mu 1) a7 y8 .no .no (.im (.int p)) (.im (.int (n : Int))) a13 [.ob (.ls (cs.map Dt.int))]) := by
  obtain ⟨h1, h2, h3, h4⟩ := shape_p h
  have hit : itR2 (aCons (cE (.int 2)) (aCons (varE 11) aNil)) (LK ss ns (.im (.lst ((allN p n).map Wd))) (.im (Wd x)) (.im (.int (wtW x : Int))) (.im (.int (j : Nat))) (.mu 1) a7 a8 .no .no (.im (.int p)) (.im (.int (n : Int))) a13 [.ob (.ls (cs.map Dt.int))]) = .ok ((List.range (p - 2).toNat).map fun (k : Nat) => Dt.int (2 + (k : Int))) (LK ss ns (.im (.lst ((allN p n).map Wd))) (.im (Wd x)) (.im (.int (wtW x : Int))) (.im (.int (j : Nat))) (.mu 1) a7 a8 .no .no (.im (.int p)) (.im (.int (n : Int))) a13 [.ob (.ls (cs.map Dt.int))]) := itR2_run (by simp [LK]) (by omega) (by omega)
  have hat : ∀ c : Nat, c < cs.length → atI (cs.map Dt.int) (c : Int) = some (.int (cs.getD c 0)) := fun c hcl => by
    rw [atI_ofNat, List.getElem?_map, List.getD_eq_getElem?_getD, List.getElem?_eq_getElem hcl]
    rfl
  have hat1 : atI (cs.map Dt.int) 1 = some (.int (cs.getD 1 0)) := hat 1 (by omega)
  obtain ⟨S', f1, f2⟩ := forL_inv (k := (Tk.nm 8).k) (body := (ifS (tst (op2 (ixV 6 (varE 8)) (ixV 6 (cE (.int 1))) neO)) (retS (cE (.bl false))) nilS)) ((List.range (p - 2).toNat).map fun (k : Nat) => Dt.int (2 + (k : Int))) (fun _ S => ∃ y8, S = (LK ss ns (.im (.lst ((allN p n).map Wd))) (.im (Wd x)) (.im (.int (wtW x : Int))) (.im (.int (j : Nat))) (.mu 1) a7 y8 .no .no (.im (.int p)) (.im (.int (n : Int))) a13 [.ob (.ls (cs.map Dt.int))])) (LK ss ns (.im (.lst ((allN p n).map Wd))) (.im (Wd x)) (.im (.int (wtW x : Int))) (.im (.int (j : Nat))) (.mu 1) a7 a8 .no .no (.im (.int p)) (.im (.int (n : Int))) a13 [.ob (.ls (cs.map Dt.int))]) ⟨a8, rfl⟩ (fun i d S hd hI => by
    obtain ⟨y8, rfl⟩ := hI
    have hi : i < (p - 2).toNat := by
      have := (List.getElem?_eq_some_iff.mp hd).1
      simpa using this
    have hdj : d = .int (2 + (i : Int)) := by
      rw [List.getElem?_map, List.getElem?_range hi] at hd
      exact (Option.some.inj hd).symm
    subst hdj
    have hai := hat (i + 2) (by omega)
    have e2 : ((i + 2 : Nat) : Int) = 2 + (i : Int) := by omega
    rw [e2, he i hi] at hai
    refine ⟨_, (LK ss ns (.im (.lst ((allN p n).map Wd))) (.im (Wd x)) (.im (.int (wtW x : Int))) (.im (.int (j : Nat))) (.mu 1) a7 (.im (.int (2 + (i : Int)))) .no .no (.im (.int p)) (.im (.int (n : Int))) a13 [.ob (.ls (cs.map Dt.int))]), kNm _ _ _, .inl ?_, _, rfl⟩
    generalize cs.getD 1 0 = z at *
    simp [LK, ixV, muAt, hai, hat1])
  obtain ⟨y8, rfl⟩ := f2
  refine ⟨y8, ?_⟩
  rw [forS_run, hit, R.stmt_ok, f1]
theorem k15_9 {ss ns cs x : List Int} {p : Int} {n j : Nat} {a7 a8 a13 : Sv} (h : shape p n) (hc : cs.length = p.toNat) (hj : j < n + 1) (hx : x ∈ allN p n) (he : krawI p (n : Int) (j : Int) (wtW x : Int) = cs.getD 0 0 - cs.getD 1 0) : (ifS (tst (op2 (funE 4 (aCons (varE 11) (aCons (varE 12) (aCons (varE 5) (aCons (varE 4) aNil)))) Fkraw) (op2 (ixV 6 (cE (.int 0))) (ixV 6 (cE (.int 1))) subO) neO)) (retS (cE (.bl false))) nilS) (LK ss ns (.im (.lst ((allN p n).map Wd))) (.im (Wd x)) (.im (.int (wtW x : Int))) (.im (.int (j : Nat))) (.mu 1) a7 a8 .no .no (.im (.int p)) (.im (.int (n : Int))) a13 [.ob (.ls (cs.map Dt.int))]) = .nx (LK ss ns (.im (.lst ((allN p n).map Wd))) (.im (Wd x)) (.im (.int (wtW x : Int))) (.im (.int (j : Nat))) (.mu 1) a7 a8 .no .no (.im (.int p)) (.im (.int (n : Int))) a13 [.ob (.ls (cs.map Dt.int))]) := by
  obtain ⟨h1, h2, h3, h4⟩ := shape_p h
  have hat : ∀ c : Nat, c < cs.length → atI (cs.map Dt.int) (c : Int) = some (.int (cs.getD c 0)) := fun c hcl => by
    rw [atI_ofNat, List.getElem?_map, List.getD_eq_getElem?_getD, List.getElem?_eq_getElem hcl]
    rfl
  have hat0 : atI (cs.map Dt.int) 0 = some (.int (cs.getD 0 0)) := hat 0 (by omega)
  have hat1 : atI (cs.map Dt.int) 1 = some (.int (cs.getD 1 0)) := hat 1 (by omega)
  have hw : wtW x ≤ n := by
    have := List.length_filter_le (fun z => decide (z ≠ 0)) x
    have hl := allN_wlen p n x hx
    unfold wtW
    omega
  have hf := Fkraw_run (p := p) (n := (n : Int)) (j := (j : Int)) (i := (wtW x : Int)) (by omega) (by omega) (by omega) (by omega)
  rw [he] at hf
  generalize cs.getD 0 0 = z0 at *
  generalize cs.getD 1 0 = z1 at *
  simp [LK, ixV, muAt, hat0, hat1, hf]
theorem k15_10 {ss ns cs x : List Int} {p : Int} {n j : Nat} {a7 a8 a13 : Sv} (hn : okN ns) : ∃ t ns', okN ns' ∧ t < n + 2 ∧ (asgS 9 (funM 1 1 (aCons (op2 (varE 12) (cE (.int 2)) addO) aNil) Fnext)) (LK ss ns (.im (.lst ((allN p n).map Wd))) (.im (Wd x)) (.im (.int (wtW x : Int))) (.im (.int (j : Nat))) (.mu 1) a7 a8 .no .no (.im (.int p)) (.im (.int (n : Int))) a13 [.ob (.ls (cs.map Dt.int))]) = .nx (LK ss ns' (.im (.lst ((allN p n).map Wd))) (.im (Wd x)) (.im (.int (wtW x : Int))) (.im (.int (j : Nat))) (.mu 1) a7 a8 (.im (.int (t : Nat))) .no (.im (.int p)) (.im (.int (n : Int))) a13 [.ob (.ls (cs.map Dt.int))]) := by
  have ho := next_ok hn (m := (n : Int) + 2) (by omega)
  have hf := Fnext_run (m := (n : Int) + 2) (by omega) hn.1
  generalize nextF ((n : Int) + 2) ns = u at *
  obtain ⟨v, ns'⟩ := u
  dsimp only at ho hf
  obtain ⟨v, rfl⟩ : ∃ k : Nat, v = (k : Int) := ⟨v.toNat, by omega⟩
  refine ⟨v, ns', ho.2, by omega, ?_⟩
  simp [LK, funM, muAt, hf]
theorem sub_run {ss ns cs x y : List Int} {p : Int} {n : Nat} {a2 a4 a5 a6 a8 a9 a10 a13 : Sv} (hp : 0 < p) (hn : n ≤ 5) (hx : x.length = n) (hy : y.length = n) :
    (lcE (itR1 (aCons (varE 12) aNil)) (Tk.nm 13).k yesT (op2 (op2 (op2 (varE 3) (varE 13) ixO) (op2 (varE 7) (varE 13) ixO) subO) (varE 11) modO) [13]) (LK ss ns a2 (.im (Wd x)) a4 a5 a6 (.im (Wd y)) a8 a9 a10 (.im (.int p)) (.im (.int (n : Int))) a13 [.ob (.ls (cs.map Dt.int))]) = .ok ((subW p n x y).map Dt.int) (LK ss ns a2 (.im (Wd x)) a4 a5 a6 (.im (Wd y)) a8 a9 a10 (.im (.int p)) (.im (.int (n : Int))) a13 [.ob (.ls (cs.map Dt.int))]) := by
  rw [lcE_map (fun k : Nat => Dt.int (k : Int)) (fun k => Dt.int ((x.getD k 0 - y.getD k 0) % p)) (List.range n) ?_ (fun k hk => ?_) (fun d T T' => Tk.mo) (by simp; omega)]
  · unfold subW
    rw [List.map_map]; rfl
  · exact itR1_run (by simp [LK]) (by omega)
  · have hk' := List.mem_range.mp hk
    have e1 : ixO (Wd x) (.int (k : Int)) = some (.int (x.getD k 0)) := by
      show atI (x.map Dt.int) (k : Int) = _
      rw [atI_ofNat, List.getElem?_map, List.getD_eq_getElem?_getD, List.getElem?_eq_getElem (by omega)]
      rfl
    have e2 : ixO (Wd y) (.int (k : Int)) = some (.int (y.getD k 0)) := by
      show atI (y.map Dt.int) (k : Int) = _
      rw [atI_ofNat, List.getElem?_map, List.getD_eq_getElem?_getD, List.getElem?_eq_getElem (by omega)]
      rfl
    generalize x.getD k 0 = a at *
    generalize y.getD k 0 = b at *
    simp [LK, wipeL, e1, e2, hp]
theorem k15_11 {ss ns cs x : List Int} {p : Int} {n j t : Nat} {a7 a8 a13 : Sv} (h : shape p n) (hx : x ∈ allN p n) : (asgS 10 (calE (aCons (frz (lcE (itS (varE 2)) (Tk.nm 7).k (tst (op2 (funE 1 (aCons (calE (aCons (frz (lcE (itR1 (aCons (varE 12) aNil)) (Tk.nm 13).k yesT (op2 (op2 (op2 (varE 3) (varE 13) ixO) (op2 (varE 7) (varE 13) ixO) subO) (varE 11) modO) [13])) aNil) tupO) aNil) Fweight) (varE 9) leO)) (varE 7) [7])) aNil) lenO)) (LK ss ns (.im (.lst ((allN p n).map Wd))) (.im (Wd x)) (.im (.int (wtW x : Int))) (.im (.int (j : Nat))) (.mu 1) a7 a8 (.im (.int (t : Nat))) .no (.im (.int p)) (.im (.int (n : Int))) a13 [.ob (.ls (cs.map Dt.int))]) = .nx (LK ss ns (.im (.lst ((allN p n).map Wd))) (.im (Wd x)) (.im (.int (wtW x : Int))) (.im (.int (j : Nat))) (.mu 1) a7 a8 (.im (.int (t : Nat))) (.im (.int ((nearL p n x (t : Int)).length : Int))) (.im (.int p)) (.im (.int (n : Int))) a13 [.ob (.ls (cs.map Dt.int))]) := by
  obtain ⟨h1, h2, h3, h4⟩ := shape_p h
  have hxl := allN_wlen p n x hx
  have hlen := allN_len p n
  have key : lcE (itS (varE 2)) (Tk.nm 7).k (tst (op2 (funE 1 (aCons (calE (aCons (frz (lcE (itR1 (aCons (varE 12) aNil)) (Tk.nm 13).k yesT (op2 (op2 (op2 (varE 3) (varE 13) ixO) (op2 (varE 7) (varE 13) ixO) subO) (varE 11) modO) [13])) aNil) tupO) aNil) Fweight) (varE 9) leO)) (varE 7) [7] (LK ss ns (.im (.lst ((allN p n).map Wd))) (.im (Wd x)) (.im (.int (wtW x : Int))) (.im (.int (j : Nat))) (.mu 1) a7 a8 (.im (.int (t : Nat))) .no (.im (.int p)) (.im (.int (n : Int))) a13 [.ob (.ls (cs.map Dt.int))]) = .ok ((nearL p n x (t : Int)).map Wd) (LK ss ns (.im (.lst ((allN p n).map Wd))) (.im (Wd x)) (.im (.int (wtW x : Int))) (.im (.int (j : Nat))) (.mu 1) a7 a8 (.im (.int (t : Nat))) .no (.im (.int p)) (.im (.int (n : Int))) a13 [.ob (.ls (cs.map Dt.int))]) := by
    refine lcE_flt Wd (fun y => decide ((wtW (subW p n x y) : Int) ≤ (t : Int))) Wd (allN p n) (by simp [LK]) (fun y hy => ?_) (by omega)
    have hyl := allN_wlen p n y hy
    have hs := sub_run (ss := ss) (ns := ns) (cs := cs) (y := y) (p := p) (a2 := .im (.lst ((allN p n).map Wd))) (a4 := .im (.int (wtW x : Int))) (a5 := .im (.int (j : Nat))) (a6 := .mu 1) (a8 := a8) (a9 := .im (.int (t : Nat))) (a10 := .no) (a13 := a13) (by omega) h3 hxl hyl
    have hf := Fweight_run (v := subW p n x y) (by simp [subW]; omega)
    refine ⟨(LK ss ns (.im (.lst ((allN p n).map Wd))) (.im (Wd x)) (.im (.int (wtW x : Int))) (.im (.int (j : Nat))) (.mu 1) (.im (Wd y)) a8 (.im (.int (t : Nat))) .no (.im (.int p)) (.im (.int (n : Int))) a13 [.ob (.ls (cs.map Dt.int))]), (LK ss ns (.im (.lst ((allN p n).map Wd))) (.im (Wd x)) (.im (.int (wtW x : Int))) (.im (.int (j : Nat))) (.mu 1) (.im (Wd y)) a8 (.im (.int (t : Nat))) .no (.im (.int p)) (.im (.int (n : Int))) a13 [.ob (.ls (cs.map Dt.int))]), rfl, ?_, rfl, fun _ => ⟨(LK ss ns (.im (.lst ((allN p n).map Wd))) (.im (Wd x)) (.im (.int (wtW x : Int))) (.im (.int (j : Nat))) (.mu 1) (.im (Wd y)) a8 (.im (.int (t : Nat))) .no (.im (.int p)) (.im (.int (n : Int))) a13 [.ob (.ls (cs.map Dt.int))]), varE_im (by rfl), rfl⟩⟩
    simp only [tst_run', op2_run, funE_run, aCons_run, calE_run, frz_run']
    rw [hs]
    simp only [R.bind_ok, aNil_run, tupO_lst, R.of_some]
    rw [if_pos (show [Dt.tup ((subW p n x y).map Dt.int)].length = 1 from rfl)]
    have hf' : Fweight [Dt.tup ((subW p n x y).map Dt.int)] = .ok (.int (wtW (subW p n x y))) := hf
    rw [hf']
    dsimp only
    rw [R.bind_ok, varE_im (d := .int (t : Int)) (by rfl), R.bind_ok, show leO (.int (wtW (subW p n x y) : Int)) (.int (t : Int)) = some (.bl (decide ((wtW (subW p n x y) : Int) ≤ (t : Int)))) from rfl, R.of_some, R.bind_ok]
  simp only [asgS_run', calE_run, aCons_run, frz_run']
  rw [key]
  simp only [R.bind_ok, aNil_run, lenO_lst, R.of_some, R.stmt_ok, List.length_map]
  rfl
theorem k15_12 {ss ns cs x : List Int} {p : Int} {n j t : Nat} {a7 a8 a13 : Sv} (h : shape p n) (he : ballI p (n : Int) (t : Int) = ((nearL p n x (t : Int)).length : Int)) : (retS (op2 (funE 3 (aCons (varE 11) (aCons (varE 12) (aCons (varE 9) aNil))) Fball) (varE 10) eqO)) (LK ss ns (.im (.lst ((allN p n).map Wd))) (.im (Wd x)) (.im (.int (wtW x : Int))) (.im (.int (j : Nat))) (.mu 1) a7 a8 (.im (.int (t : Nat))) (.im (.int ((nearL p n x (t : Int)).length : Int))) (.im (.int p)) (.im (.int (n : Int))) a13 [.ob (.ls (cs.map Dt.int))]) = .rt (.bl true) (LK ss ns (.im (.lst ((allN p n).map Wd))) (.im (Wd x)) (.im (.int (wtW x : Int))) (.im (.int (j : Nat))) (.mu 1) a7 a8 (.im (.int (t : Nat))) (.im (.int ((nearL p n x (t : Int)).length : Int))) (.im (.int p)) (.im (.int (n : Int))) a13 [.ob (.ls (cs.map Dt.int))]) := by
  obtain ⟨h1, h2, h3, h4⟩ := shape_p h
  have hf := Fball_run (p := p) (n := (n : Int)) (t := (t : Int)) (by omega) (by omega) (by omega)
  rw [he] at hf
  generalize ((nearL p n x (t : Int)).length : Int) = z at *
  simp [LK, hf]
noncomputable def m_law15 : Ms → O := (seqS (asgN 1 (funN 1 (aCons (varE 0) aNil) Fnumbers))
  (seqS (asgT (Tk.tp [11, 12]) (funM 0 1 aNil Fshape))
  (seqS (asgS 2 (funE 2 (aCons (varE 11) (aCons (varE 12) aNil)) Fall15))
  (seqS (asgS 3 (op2 (varE 2) (funM 1 1 (aCons (calE (aCons (varE 2) aNil) lenO) aNil) Fnext) ixO))
  (seqS (asgS 4 (funE 1 (aCons (varE 3) aNil) Fweight))
  (seqS (asgS 5 (funM 1 1 (aCons (op2 (varE 12) (cE (.int 1)) addO) aNil) Fnext))
  (seqS (asgN 6 (lcE (itR1 (aCons (varE 11) aNil)) (Tk.nm 8).k yesT (cE (.int 0)) [8]))
  (seqS (forS (itS (varE 2)) (Tk.nm 7).k (ifS (tst (op2 (funE 1 (aCons (varE 7) aNil) Fweight) (varE 5) eqO)) (seqS (asgS 8 (op2 (calE (aCons (frz (lcE (itR1 (aCons (varE 12) aNil)) (Tk.nm 13).k yesT (op2 (op2 (varE 3) (varE 13) ixO) (op2 (varE 7) (varE 13) ixO) mulO) [13])) aNil) sumO) (varE 11) modO))
  (setS 6 (op2 (ixV 6 (varE 8)) (cE (.int 1)) addO) (varE 8))) nilS))
  (seqS (forS (itR2 (aCons (cE (.int 2)) (aCons (varE 11) aNil))) (Tk.nm 8).k (ifS (tst (op2 (ixV 6 (varE 8)) (ixV 6 (cE (.int 1))) neO)) (retS (cE (.bl false))) nilS))
  (seqS (ifS (tst (op2 (funE 4 (aCons (varE 11) (aCons (varE 12) (aCons (varE 5) (aCons (varE 4) aNil)))) Fkraw) (op2 (ixV 6 (cE (.int 0))) (ixV 6 (cE (.int 1))) subO) neO)) (retS (cE (.bl false))) nilS)
  (seqS (asgS 9 (funM 1 1 (aCons (op2 (varE 12) (cE (.int 2)) addO) aNil) Fnext))
  (seqS (asgS 10 (calE (aCons (frz (lcE (itS (varE 2)) (Tk.nm 7).k (tst (op2 (funE 1 (aCons (calE (aCons (frz (lcE (itR1 (aCons (varE 12) aNil)) (Tk.nm 13).k yesT (op2 (op2 (op2 (varE 3) (varE 13) ixO) (op2 (varE 7) (varE 13) ixO) subO) (varE 11) modO) [13])) aNil) tupO) aNil) Fweight) (varE 9) leO)) (varE 7) [7])) aNil) lenO))
  (retS (op2 (funE 3 (aCons (varE 11) (aCons (varE 12) (aCons (varE 9) aNil))) Fball) (varE 10) eqO))))))))))))))
theorem run_law15 (ss : List Int) (h : ss.length ≤ 63) : ∃ S', m_law15 (st0 14 [scrD ss]) = .rt (.bl true) S' := by
  obtain ⟨n0, o0, e0⟩ := k15_0 h
  obtain ⟨p, n, n1, o1, hs, e1⟩ := k15_1 (ss := ss) o0
  have e2 := k15_2 (ss := ss) (ns := n1) hs
  obtain ⟨x, n3, o3, hx, e3⟩ := k15_3 (ss := ss) o1 hs
  have e4 := k15_4 (ss := ss) (ns := n3) hs hx
  obtain ⟨j, n5, o5, hj, e5⟩ := k15_5 (ss := ss) (p := p) (n := n) (x := x) o3
  have e6 := k15_6 (ss := ss) (ns := n5) (j := j) (x := x) hs
  obtain ⟨y7, y8, y13, e7⟩ := k15_7 (ss := ss) (ns := n5) (j := j) hs hx
  have hc := List.all_eq_true.mp (chk_all hs) x hx
  unfold chkX at hc
  rw [Bool.and_eq_true] at hc
  have hc1 := List.all_eq_true.mp hc.1 j (List.mem_range.mpr hj)
  unfold chk1 at hc1
  simp only [Bool.and_eq_true, decide_eq_true_eq] at hc1
  have hcl := cnt_len p n x (j : Int)
  obtain ⟨z8, e8⟩ := k15_8 (ss := ss) (ns := n5) (x := x) (j := j) (a7 := y7) (a8 := y8) (a13 := y13) hs hcl (fun k hk => by
    have := List.all_eq_true.mp hc1.1 k (List.mem_range.mpr hk)
    exact of_decide_eq_true this)
  have e9 := k15_9 (ss := ss) (ns := n5) (a7 := y7) (a8 := z8) (a13 := y13) hs hcl hj hx hc1.2
  obtain ⟨t, n10, o10, ht, e10⟩ := k15_10 (ss := ss) (cs := cntL p n x (j : Int)) (x := x) (p := p) (n := n) (j := j) (a7 := y7) (a8 := z8) (a13 := y13) o5
  have e11 := k15_11 (ss := ss) (ns := n10) (cs := cntL p n x (j : Int)) (j := j) (t := t) (a7 := y7) (a8 := z8) (a13 := y13) hs hx
  have hc2 := of_decide_eq_true (List.all_eq_true.mp hc.2 t (List.mem_range.mpr ht))
  have e12 := k15_12 (ss := ss) (ns := n10) (cs := cntL p n x (j : Int)) (j := j) (a7 := y7) (a8 := z8) (a13 := y13) hs hc2
  unfold m_law15
  rw [sqK e0, sqK e1, sqK e2, sqK e3, sqK e4, sqK e5, sqK e6, sqK e7, sqK e8, sqK e9, sqK e10, sqK e11, e12]
  exact ⟨_, rfl⟩
end Lq

namespace Lq
open PySem PySem.Spec PyProof.Rows L2

noncomputable def m16_are_counts : Ms → O := (seqS (ifS (orT (notT (truT (op1 (varE 0) (isiO "tuple")))) (tst (op2 (calE (aCons (varE 0) aNil) lenO) (op2 (varE 1) (cE (.int 1)) addO) neO))) (retS (cE (.bl false))) nilS)
  (retS (andV (calE (aCons (frz (lcE (itS (varE 0)) (Tk.nm 2).k yesT (andV (funE 1 (aCons (varE 2) aNil) Fisint) (op2 (varE 2) (cE (.int 0)) geO)) [2])) aNil) allO) (op2 (calE (aCons (varE 0) aNil) sumT) (cE (.int 0)) gtO))))
noncomputable def Fcnts : List Dt → Fo := runD 3 (m16_are_counts)
noncomputable def m16_transformed : Ms → O := (retS (calE (aCons (frz (lcE (itEn (aCons (varE 2) aNil)) (Tk.tp [4, 5]).k yesT (op2 (varE 5) (funE 4 (aCons (varE 0) (aCons (varE 1) (aCons (varE 3) (aCons (varE 4) aNil)))) Fkraw) mulO) [4, 5])) aNil) sumO))
noncomputable def Ftrans : List Dt → Fo := runD 6 (m16_transformed)
noncomputable def m16macwilliams (CM CR : Addr) : Ms → O := (seqS (ifS (notT (truT (funE 2 (aCons (varE 2) (aCons (varE 1) aNil)) Fcnts))) (raiseS ⟨CM, [], []⟩) nilS)
  (seqS (asgS 3 (calE (aCons (varE 2) aNil) sumT))
  (seqS (asgS 4 (frz (lcE (itR1 (aCons (op2 (varE 1) (cE (.int 1)) addO) aNil)) (Tk.nm 5).k yesT (funE 4 (aCons (varE 0) (aCons (varE 1) (aCons (varE 2) (aCons (varE 5) aNil)))) Ftrans) [5])))
  (seqS (ifS (truT (calE (aCons (frz (lcE (itS (varE 4)) (Tk.nm 6).k yesT (op2 (op2 (varE 6) (varE 3) modO) (cE (.int 0)) neO) [6])) aNil) anyO)) (raiseS ⟨CR, ["reason"], [.str "fraction"]⟩) nilS)
  (retS (calE (aCons (frz (lcE (itS (varE 4)) (Tk.nm 6).k yesT (op2 (varE 6) (varE 3) divO) [6])) aNil) tupO))))))
noncomputable def Fmac (CM CR : Addr) : List Dt → Fo := runD 7 (m16macwilliams CM CR)
theorem run_macwilliams (CM CR : Addr) (ds : List Dt) (h : Fmac CM CR ds ≠ .no) : runD 7 (m16macwilliams CM CR) ds = Fmac CM CR ds := rfl
noncomputable def m16binomial_moment : Ms → O := (seqS (asgS 2 (op2 (calE (aCons (varE 0) aNil) lenO) (cE (.int 1)) subO))
  (retS (calE (aCons (frz (lcE (itEn (aCons (varE 0) aNil)) (Tk.tp [3, 4]).k yesT (op2 (funE 2 (aCons (op2 (varE 2) (varE 3) subO) (aCons (varE 1) aNil)) Fbinom) (varE 4) mulO) [3, 4])) aNil) sumO)))
noncomputable def Fbmom : List Dt → Fo := runD 5 (m16binomial_moment)
noncomputable def m16_law_rows : Ms → O := (seqS (asgN 4 (lstE aNil))
  (seqS (forS (itR1 (aCons (funM 1 0 (aCons (op2 (varE 3) (cE (.int 1)) addO) aNil) Fnext) aNil)) (Tk.nm 5).k (appS 4 (calE (aCons (frz (lcE (itR1 (aCons (varE 2) aNil)) (Tk.nm 6).k yesT (funM 1 0 (aCons (varE 1) aNil) Fnext) [6])) aNil) tupO)))
  (retS (varE 4))))
noncomputable def Frows16 : List Dt → List Dt → FoM := runM 7 (m16_law_rows)
noncomputable def m16_law_words : Ms → O := (seqS (asgM 3 (dct1 (calE (aCons (frz (lcE (itR1 (aCons (varE 1) aNil)) (Tk.nm 8).k yesT (cE (.int 0)) [8])) aNil) tupO) (cE (.bl true))))
  (seqS (forS (itS (varE 2)) (Tk.nm 4).k (seqS (asgM 5 dct0)
  (seqS (forS (itS (frz (keysL 3))) (Tk.nm 6).k (forS (itR1 (aCons (varE 0) aNil)) (Tk.nm 7).k (setD 5 (cE (.bl true)) (calE (aCons (frz (lcE (itR1 (aCons (varE 1) aNil)) (Tk.nm 8).k yesT (op2 (op2 (op2 (varE 6) (varE 8) ixO) (op2 (varE 7) (op2 (varE 4) (varE 8) ixO) mulO) addO) (varE 0) modO) [8])) aNil) tupO))))
  (moveS 3 5))))
  (retS (frz (calN (aCons (frz (keysL 3)) aNil) sortO2)))))
noncomputable def Fwords16 : List Dt → Fo := runD 9 (m16_law_words)
noncomputable def m16_law_numbers_of : Ms → O := (seqS (asgN 2 (lcE (itR1 (aCons (op2 (varE 1) (cE (.int 1)) addO) aNil)) (Tk.nm 4).k yesT (cE (.int 0)) [4]))
  (seqS (forS (itS (varE 0)) (Tk.nm 3).k (setS 2 (op2 (ixV 2 (funE 1 (aCons (varE 3) aNil) Fweight)) (cE (.int 1)) addO) (funE 1 (aCons (varE 3) aNil) Fweight)))
  (retS (calE (aCons (varE 2) aNil) tupO))))
noncomputable def Fnof : List Dt → Fo := runD 5 (m16_law_numbers_of)
noncomputable def m16_law_dual : Ms → O := (seqS (asgN 3 (lstE aNil))
  (seqS (forS (itS (funE 2 (aCons (varE 0) (aCons (varE 1) aNil)) Fall15)) (Tk.nm 4).k (ifS (tst (op2 (calE (aCons (frz (lcE (itS (varE 2)) (Tk.nm 5).k (tst (op2 (op2 (calE (aCons (frz (lcE (itR1 (aCons (varE 1) aNil)) (Tk.nm 6).k yesT (op2 (op2 (varE 5) (varE 6) ixO) (op2 (varE 4) (varE 6) ixO) mulO) [6])) aNil) sumO) (varE 0) modO) (cE (.int 0)) neO)) (varE 5) [5])) aNil) lenO) (cE (.int 0)) eqO)) (appS 3 (varE 4)) nilS))
  (retS (varE 3))))
noncomputable def Fdual : List Dt → Fo := runD 7 (m16_law_dual)
noncomputable def m16_law_places : Ms → O := (seqS (asgS 2 (frz (lstE (aCons (tupE aNil) aNil))))
  (seqS (forS (itR1 (aCons (varE 0) aNil)) (Tk.nm 3).k (asgS 2 (frz (opN (varE 2) (frz (lcE (itS (varE 2)) (Tk.nm 4).k yesT (op2 (varE 4) (tupE (aCons (varE 3) aNil)) catT) [4])) catL))))
  (retS (frz (lcE (itS (varE 2)) (Tk.nm 4).k (tst (op2 (calE (aCons (varE 4) aNil) lenO) (varE 1) eqO)) (varE 4) [4])))))
noncomputable def Fplaces : List Dt → Fo := runD 5 (m16_law_places)
noncomputable def m16_law_zero_pairs : Ms → O := (seqS (asgS 2 (cE (.int 0)))
  (seqS (forS (itS (varE 0)) (Tk.nm 3).k (forS (itS (varE 1)) (Tk.nm 4).k (asgS 2 (op2 (varE 2) (calE (aCons (op2 (calE (aCons (frz (lcE (itS (varE 4)) (Tk.nm 5).k (tst (op2 (op2 (varE 3) (varE 5) ixO) (cE (.int 0)) neO)) (varE 5) [5])) aNil) lenO) (cE (.int 0)) eqO) aNil) intO) addO))))
  (retS (varE 2))))
noncomputable def Fzp : List Dt → Fo := runD 6 (m16_law_zero_pairs)
noncomputable def m16_law_told (CM CR : Addr) : Ms → O := (tryM CR "reason" 3 CM "malformed" (retS (funE 3 (aCons (varE 0) (aCons (varE 1) (aCons (varE 2) aNil))) (Fmac CM CR))))
noncomputable def Ftold (CM CR : Addr) : List Dt → Fo := runD 4 (m16_law_told CM CR)
theorem run__law_told (CM CR : Addr) (ds : List Dt) (h : Ftold CM CR ds ≠ .no) : runD 4 (m16_law_told CM CR) ds = Ftold CM CR ds := rfl
noncomputable def m16_law_turning : Ms → O := (seqS (asgS 2 (funE 2 (aCons (varE 0) (aCons (varE 1) aNil)) Fall15))
  (seqS (asgN 3 (lstE aNil))
  (seqS (forS (itR1 (aCons (op2 (varE 1) (cE (.int 1)) addO) aNil)) (Tk.nm 4).k (seqS (asgS 5 (calE (aCons (frz (lcE (itR1 (aCons (varE 1) aNil)) (Tk.nm 10).k yesT (calE (aCons (op2 (varE 10) (varE 4) ltO) aNil) intO) [10])) aNil) tupO))
  (seqS (asgN 6 (lcE (itR1 (aCons (op2 (varE 1) (cE (.int 1)) addO) aNil)) (Tk.nm 9).k yesT (cE (.int 0)) [9]))
  (seqS (forS (itS (varE 2)) (Tk.nm 7).k (seqS (asgS 8 (op2 (calE (aCons (frz (lcE (itR1 (aCons (varE 1) aNil)) (Tk.nm 10).k yesT (op2 (op2 (varE 5) (varE 10) ixO) (op2 (varE 7) (varE 10) ixO) mulO) [10])) aNil) sumO) (varE 0) modO))
  (setS 6 (op2 (op2 (ixV 6 (funE 1 (aCons (varE 7) aNil) Fweight)) (calE (aCons (op2 (varE 8) (cE (.int 0)) eqO) aNil) intO) addO) (calE (aCons (op2 (varE 8) (cE (.int 1)) eqO) aNil) intO) subO) (funE 1 (aCons (varE 7) aNil) Fweight))))
  (appS 3 (varE 6))))))
  (retS (varE 3)))))
noncomputable def Fturn : List Dt → Fo := runD 11 (m16_law_turning)
noncomputable def m16_law_due : Ms → O := (seqS (asgS 3 (funE 2 (aCons (varE 0) (aCons (varE 1) aNil)) Fturn))
  (seqS (asgN 4 (lstE aNil))
  (seqS (forS (itR1 (aCons (op2 (varE 1) (cE (.int 1)) addO) aNil)) (Tk.nm 5).k (seqS (asgS 6 (calE (aCons (frz (lcE (itR1 (aCons (op2 (varE 1) (cE (.int 1)) addO) aNil)) (Tk.nm 7).k yesT (op2 (op2 (varE 2) (varE 7) ixO) (op2 (op2 (varE 3) (varE 7) ixO) (varE 5) ixO) mulO) [7])) aNil) sumO))
  (seqS (ifS (tst (op2 (op2 (varE 6) (calE (aCons (varE 2) aNil) sumT) modO) (cE (.int 0)) neO)) (retS (cE (.str "fraction"))) nilS)
  (appS 4 (op2 (varE 6) (calE (aCons (varE 2) aNil) sumT) divO)))))
  (retS (calE (aCons (varE 4) aNil) tupO)))))
noncomputable def Fdue : List Dt → Fo := runD 8 (m16_law_due)
end Lq

namespace Lq
open PySem PySem.Spec PyProof.Rows L2
/-! ### drawn rows -/
def takeV (p : Int) : Nat → List Int → List Int × List Int
  | 0, q => ([], q)
  | k + 1, q => ((nextF p q).1 :: (takeV p k (nextF p q).2).1, (takeV p k (nextF p q).2).2)
theorem takeV_ok {p : Int} (hp : 0 < p) : ∀ (k : Nat) (q : List Int), okN q → ((takeV p k q).1.length = k ∧ ∀ x ∈ (takeV p k q).1, 0 ≤ x ∧ x < p) ∧ okN (takeV p k q).2
  | 0, q, h => ⟨⟨rfl, fun x hx => by cases hx⟩, h⟩
  | k + 1, q, h => by
    obtain ⟨h1, h2⟩ := next_ok h hp
    obtain ⟨⟨i1, i2⟩, i3⟩ := takeV_ok hp k (nextF p q).2 h2
    refine ⟨⟨by simp [takeV, i1], fun x hx => ?_⟩, i3⟩
    simp only [takeV, List.mem_cons] at hx
    rcases hx with rfl | hx
    · exact h1
    · exact i2 x hx
theorem lcF_fold2 {α σ : Type} {sl : List Sv} {k : Dt → Ms → Option Ms} {e : Ms → R Dt} (P : σ → Prop) (moOf : σ → List Mo) (enc : α → Dt) (g : α → σ → Dt × σ)
    (h : ∀ a q, P q → P (g a q).2 ∧ ∃ S1 S3, k (enc a) { sl := sl, mo := moOf q } = some S1 ∧ e S1 = .ok (g a q).1 S3 ∧ S3.mo = moOf (g a q).2) : ∀ (xs : List α) (q : σ) (acc : List Dt), P q → acc.length + xs.length ≤ 100000 →
    lcF sl k yesT e (xs.map enc) (moOf q) acc = .ok (acc ++ (foldG g xs q).1) { sl := sl, mo := moOf (foldG g xs q).2 }
  | [], q, acc, _, _ => by simp [lcF, foldG]
  | x :: xs, q, acc, hP, hl => by
    obtain ⟨hP2, S1, S3, h1, h2, h3⟩ := h x q hP
    have hl' : acc.length + (xs.length + 1) ≤ 100000 := hl
    rw [List.map_cons]
    unfold lcF
    rw [h1]
    simp only [yesT_run, R.bind_ok]
    rw [h2]
    dsimp only
    rw [if_pos (by omega), h3, lcF_fold2 P moOf enc g h xs _ _ hP2 (by simp; omega)]
    simp [foldG]
theorem fold_takeV {α : Type} (p : Int) : ∀ (xs : List α) (q : List Int), foldG (fun (_ : α) q => (Dt.int (nextF p q).1, (nextF p q).2)) xs q = ((takeV p xs.length q).1.map Dt.int, (takeV p xs.length q).2)
  | [], q => rfl
  | x :: xs, q => by simp [foldG, takeV, fold_takeV p xs]
def rwS (p : Int) (n : Nat) (q : List Int) (rows : List (List Int)) (x5 x6 : Sv) : Ms := { sl := [.mu 0, .im (.int p), .im (.int (n : Int)), .im (.int 3), .mu 1, x5, x6], mo := [.ob (.ls (q.map Dt.int)), .ob (.ls (rows.map Wd))] }
noncomputable def rwB : Ms → O := appS 4 (calE (aCons (frz (lcE (itR1 (aCons (varE 2) aNil)) (Tk.nm 6).k yesT (funM 1 0 (aCons (varE 1) aNil) Fnext) [6])) aNil) tupO)
theorem rwB_run {p : Int} {n : Nat} {q : List Int} {rows : List (List Int)} {x5 x6 : Sv} (hp : 0 < p) (hn : n ≤ 1000) (hq : okN q) (hl : rows.length ≤ 100) : rwB (rwS p n q rows x5 x6) = .nx (rwS p n (takeV p n q).2 (rows ++ [(takeV p n q).1]) x5 x6) := by
  have hit : itR1 (aCons (varE 2) aNil) (rwS p n q rows x5 x6) = .ok ((List.range n).map fun (i : Nat) => Dt.int (i : Int)) (rwS p n q rows x5 x6) := itR1_run (by simp [rwS]) (by omega)
  have hlc := lcF_fold2 (sl := wipeL (rwS p n q rows x5 x6).sl [6]) (k := (Tk.nm 6).k) (e := funM 1 0 (aCons (varE 1) aNil) Fnext) okN (fun q : List Int => [Mo.ob (.ls (q.map Dt.int)), .ob (.ls (rows.map Wd))]) (fun (i : Nat) => Dt.int (i : Int)) (fun _ q => (Dt.int (nextF p q).1, (nextF p q).2)) (fun a q hP => by
    have hf := Fnext_run hp hP.1
    refine ⟨(next_ok hP hp).2, ?_⟩
    simp [rwS, wipeL, funM, muAt, hf]) (List.range n) q [] hq (by simp; omega)
  have key : lcE (itR1 (aCons (varE 2) aNil)) (Tk.nm 6).k yesT (funM 1 0 (aCons (varE 1) aNil) Fnext) [6] (rwS p n q rows x5 x6) = .ok ((takeV p n q).1.map Dt.int) (rwS p n (takeV p n q).2 rows x5 x6) := by
    unfold lcE
    rw [hit, R.bind_ok]
    rw [show (rwS p n q rows x5 x6).mo = [Mo.ob (.ls (q.map Dt.int)), .ob (.ls (rows.map Wd))] from rfl, hlc, fold_takeV]
    simp [rwS]
  unfold rwB
  rw [appS_run, muAt_run (k := 1) (xs := rows.map Wd) rfl rfl]
  dsimp only
  rw [calE_run, aCons_run, frz_run', key]
  simp only [R.bind_ok, aNil_run, tupO_lst, R.of_some, R.stmt_ok]
  rw [muAt_run (k := 1) (xs := rows.map Wd) rfl rfl]
  dsimp only
  rw [List.length_map, if_pos (by omega)]
  simp [rwS, Wd]
theorem Frows16_run {p : Int} {n : Nat} {q : List Int} (hp : okP p = true) (hn : n ≤ 1000) (hq : okN q) : ∃ rows q', okN q' ∧ rows.length ≤ 3 ∧ okR p n rows ∧ Frows16 (q.map Dt.int) [.int p, .int (n : Int), .int 3] = .ok (.lst (rows.map Wd)) (q'.map Dt.int) := by
  have hp0 := (okP_iff.mp hp).1
  obtain ⟨⟨h1, h2⟩, h3⟩ := next_ok hq (m := 4) (by decide)
  have hf := Fnext_run (m := 4) (by decide) hq.1
  generalize nextF 4 q = u at *
  obtain ⟨c, q1⟩ := u
  dsimp only at h1 h2 h3 hf
  obtain ⟨c, rfl⟩ : ∃ k : Nat, c = (k : Int) := ⟨c.toNat, by omega⟩
  have hit : itR1 (aCons (funM 1 0 (aCons (op2 (varE 3) (cE (.int 1)) addO) aNil) Fnext) aNil) (rwS p n q [] .no .no) = .ok ((List.range c).map fun (i : Nat) => Dt.int (i : Int)) (rwS p n q1 [] .no .no) := itR1_run (by simp [rwS, funM, muAt, hf]) (by omega)
  obtain ⟨S', f1, f2⟩ := forL_inv (k := (Tk.nm 5).k) (body := rwB) ((List.range c).map fun (i : Nat) => Dt.int (i : Int))
    (fun i S => i ≤ c ∧ ∃ q' rows x, okN q' ∧ rows.length = i ∧ okR p n rows ∧ S = rwS p n q' rows x .no) (rwS p n q1 [] .no .no) ⟨Nat.zero_le _, q1, [], .no, h3, rfl, fun r hr => absurd hr List.not_mem_nil, rfl⟩ (fun i d S hd hI => by
      obtain ⟨hi, q', rows, x, hq', hl, hr, rfl⟩ := hI
      have hic : i < c := by
        have := (List.getElem?_eq_some_iff.mp hd).1
        simpa using this
      obtain ⟨⟨t1, t2⟩, t3⟩ := takeV_ok hp0 n q' hq'
      refine ⟨rwS p n q' rows (.im d) .no, _, kNm _ _ _, .inl (rwB_run hp0 hn hq' (by omega)), hic, _, _, _, t3, by simp [hl], fun r hr' => ?_, rfl⟩
      rcases List.mem_append.mp hr' with hr' | hr'
      · exact hr r hr'
      · rw [List.mem_singleton.mp hr']
        exact ⟨okW_iff.mpr ⟨by omega, t2⟩, t1⟩)
  obtain ⟨_, q', rows, x, hq', hl, hr, hS'⟩ := f2
  rw [List.length_map, List.length_range] at hl
  refine ⟨rows, q', hq', by omega, hr, ?_⟩
  unfold Frows16 runM m16_law_rows
  have hst : stM 7 (q.map Dt.int) [.int p, .int (n : Int), .int 3] = { sl := [.mu 0, .im (.int p), .im (.int (n : Int)), .im (.int 3), .no, .no, .no], mo := [.ob (.ls (q.map Dt.int))] } := rfl
  have e0 : asgN 4 (lstE aNil) (stM 7 (q.map Dt.int) [.int p, .int (n : Int), .int 3]) = .nx (rwS p n q [] .no .no) := by
    rw [hst]
    simp [rwS, lstE_nil]
  have e1 : forS (itR1 (aCons (funM 1 0 (aCons (op2 (varE 3) (cE (.int 1)) addO) aNil) Fnext) aNil)) (Tk.nm 5).k (appS 4 (calE (aCons (frz (lcE (itR1 (aCons (varE 2) aNil)) (Tk.nm 6).k yesT (funM 1 0 (aCons (varE 1) aNil) Fnext) [6])) aNil) tupO)) (rwS p n q [] .no .no) = .nx (rwS p n q' rows x .no) := by
    rw [forS_run, hit, R.stmt_ok]
    show forL _ rwB _ _ = _
    rw [f1, hS']
  rw [seqS_run, e0, seq_nx, seqS_run, e1, seq_nx]
  simp [rwS, O.foM, mo0]
/-! ### all words of a code -/
def wdS (p : Int) (n : Nat) (d : Dt) (a : Nat) (x4 x5 x6 x7 x8 : Sv) (mo : List Mo) : Ms := { sl := [.im (.int p), .im (.int (n : Int)), .im d, .mu a, x4, x5, x6, x7, x8], mo := mo }
def wdK : Ms → R Dt := calE (aCons (frz (lcE (itR1 (aCons (varE 1) aNil)) (Tk.nm 8).k yesT (op2 (op2 (op2 (varE 6) (varE 8) ixO) (op2 (varE 7) (op2 (varE 4) (varE 8) ixO) mulO) addO) (varE 0) modO) [8])) aNil) tupO
theorem wdK_run {d : Dt} {n : Nat} {p : Int} {a at_ : Nat} {r w : List Int} {x5 x8 : Sv} {mo : List Mo} (hp : okP p = true) (hn : n ≤ 1000) (hr : ok1 p n r) (hw : ok1 p n w) : wdK (wdS p n d a (.im (Wd r)) x5 (.im (Wd w)) (.im (.int (at_ : Int))) x8 mo) = .ok (Wd (addW p w (scW p (at_ : Int) r))) (wdS p n d a (.im (Wd r)) x5 (.im (Wd w)) (.im (.int (at_ : Int))) x8 mo) := by
  obtain ⟨hp1, hp2⟩ := okP_iff.mp hp
  have e := lcE_map (it := itR1 (aCons (varE 1) aNil)) (k := (Tk.nm 8).k) (e := op2 (op2 (op2 (varE 6) (varE 8) ixO) (op2 (varE 7) (op2 (varE 4) (varE 8) ixO) mulO) addO) (varE 0) modO) (own := [8]) (S := wdS p n d a (.im (Wd r)) x5 (.im (Wd w)) (.im (.int (at_ : Int))) x8 mo) (S1 := wdS p n d a (.im (Wd r)) x5 (.im (Wd w)) (.im (.int (at_ : Int))) x8 mo) (fun k : Nat => Dt.int (k : Int)) (fun k => Dt.int ((g w k + (at_ : Int) * g r k) % p)) (List.range n) (itR1_run (by simp [wdS]) (by omega)) (fun k hk => ?_) (fun d T T' => Tk.mo) (by simp; omega)
  · have e2 : (List.range n).map (fun k => Dt.int ((g w k + (at_ : Int) * g r k) % p)) = (addW p w (scW p (at_ : Int) r)).map Dt.int := by
      have hlen : (lin p w r (at_ : Int)).length = n := lin_len hw.2 hr.2
      refine List.ext_getElem? fun k => ?_
      rw [List.getElem?_map, List.getElem?_map]
      by_cases q : k < n
      · have := g_lin (p := p) (a := (at_ : Int)) hw.2 hr.2 q
        rw [List.getElem?_range q]
        show some _ = Option.map Dt.int (lin p w r (at_ : Int))[k]?
        rw [List.getElem?_eq_getElem (by omega)]
        unfold g at this
        rw [List.getD_eq_getElem?_getD, List.getElem?_eq_getElem (by omega)] at this
        have this' : (lin p w r (at_ : Int))[k] = (w.getD k 0 + r.getD k 0 * (at_ : Int)) % p := this
        rw [Option.map_some, this']
        show some (Dt.int ((g w k + (at_ : Int) * g r k) % p)) = _
        rw [Int.mul_comm]
        rfl
      · rw [List.getElem?_eq_none (by simpa using q)]
        show _ = Option.map Dt.int (lin p w r (at_ : Int))[k]?
        rw [List.getElem?_eq_none (by omega)]
        rfl
    unfold wdK
    rw [calE_run, aCons_run, frz_run', e, e2]
    simp [Wd]
  · have hk' := List.mem_range.mp hk
    have e1 := wd_ix (r := w) (k := k) (by rw [hw.2]; exact hk')
    have e2 := wd_ix (r := r) (k := k) (by rw [hr.2]; exact hk')
    have hz := g_lt hr hk'
    have hc : CMul (at_ : Int) (g r k) := by
      have e1 : (1000 : Int) < 2 ^ 64 := by decide
      have e2 : -(2 : Int) ^ 64 < 0 := by decide
      exact .inr ⟨by omega, by omega⟩
    clear hz
    refine ⟨_, kNm _ _ _, wdS p n d a (.im (Wd r)) x5 (.im (Wd w)) (.im (.int (at_ : Int))) (.im (.int (k : Int))) mo, ?_, rfl⟩
    unfold g at *
    generalize w.getD k 0 = y at *
    generalize r.getD k 0 = z at *
    simp [wdS, wipeL, e1, e2, hc, hp1]

def wdIn : Ms → O := setD 5 (cE (.bl true)) wdK
theorem wdIn_run {d : Dt} {n : Nat} {p : Int} {a at_ : Nat} {r w : List Int} {x8 : Sv} {ms : List Mo} {acc : List (List Int)} (hp : okP p = true) (hn : n ≤ 1000) (hr : ok1 p n r) (hw : ok1 p n w) (hl : acc.length < 100000) :
    wdIn (wdS p n d a (.im (Wd r)) (.mu ms.length) (.im (Wd w)) (.im (.int (at_ : Int))) x8 (ms ++ [.ob (.dc (dcv acc))])) = .nx (wdS p n d a (.im (Wd r)) (.mu ms.length) (.im (Wd w)) (.im (.int (at_ : Int))) x8 (ms ++ [.ob (.dc (dcv (insW acc (addW p w (scW p (at_ : Int) r)))))])) := by
  unfold wdIn
  refine (setD_run (k := ms.length) (kvs := dcv acc) (e := .bl true) (ns := addW p w (scW p (at_ : Int) r)) rfl (dcAt_run rfl (by simp [wdS])) (wdK_run hp hn hr hw) (by rw [dcv_len]; exact hl)).trans ?_
  rw [putD_dcv]
  simp [wdS]
def wdMid : Ms → O := forS (itR1 (aCons (varE 0) aNil)) (Tk.nm 7).k wdIn
theorem wdMid_run {d : Dt} {n : Nat} {p : Int} {a : Nat} {r w : List Int} {ms : List Mo} {acc : List (List Int)} {x7 x8 : Sv} (hp : okP p = true) (hn : n ≤ 1000) (hr : ok1 p n r) (hw : ok1 p n w) (hl : acc.length + p.toNat ≤ 100000) :
    ∃ y7, wdMid (wdS p n d a (.im (Wd r)) (.mu ms.length) (.im (Wd w)) x7 x8 (ms ++ [.ob (.dc (dcv acc))])) = .nx (wdS p n d a (.im (Wd r)) (.mu ms.length) (.im (Wd w)) y7 x8 (ms ++ [.ob (.dc (dcv (inn p r w acc)))])) := by
  obtain ⟨hp1, hp2⟩ := okP_iff.mp hp
  obtain ⟨k, rfl⟩ : ∃ k : Nat, p = (k : Int) := ⟨p.toNat, by omega⟩
  have hit : itR1 (aCons (varE 0) aNil) (wdS k n d a (.im (Wd r)) (.mu ms.length) (.im (Wd w)) x7 x8 (ms ++ [.ob (.dc (dcv acc))])) = .ok ((List.range k).map fun (i : Nat) => Dt.int (i : Int)) (wdS k n d a (.im (Wd r)) (.mu ms.length) (.im (Wd w)) x7 x8 (ms ++ [.ob (.dc (dcv acc))])) := itR1_run (by simp [wdS]) (by omega)
  obtain ⟨S', e1, e2, y7, e3⟩ := forL_fold (k := (Tk.nm 7).k) (body := wdIn) (fun (i : Nat) => Dt.int (i : Int)) (fun j (q : List (List Int)) S => q.length ≤ acc.length + j ∧ ∃ y7, S = wdS k n d a (.im (Wd r)) (.mu ms.length) (.im (Wd w)) y7 x8 (ms ++ [.ob (.dc (dcv q))]))
    (fun q (x : Nat) => insW q (addW k w (scW k (x : Int) r))) (List.range k) 0 acc _ ⟨Nat.le_refl _, x7, rfl⟩ (fun j q x S hx hj hI => by
      obtain ⟨hq, y7, rfl⟩ := hI
      rw [List.length_range] at hj
      have := insW_len q (addW k w (scW k (x : Int) r))
      exact ⟨_, _, kNm _ _ _, .inl (wdIn_run (at_ := x) hp hn hr hw (by omega)), by omega, _, rfl⟩)
  refine ⟨y7, ?_⟩
  unfold wdMid
  rw [forS_run, hit, R.stmt_ok, e1, e3]
  rfl
def wdBody : Ms → O := (seqS (asgM 5 dct0) (seqS (forS (itS (frz (keysL 3))) (Tk.nm 6).k wdMid) (moveS 3 5)))
theorem wdBody_run {d : Dt} {n : Nat} {p : Int} {a : Nat} {r : List Int} {ms : List Mo} {ws : List (List Int)} {x5 x6 x7 x8 : Sv} (hp : okP p = true) (hn : n ≤ 1000) (hr : ok1 p n r) (hws : okR p n ws) (ha : ms[a]? = some (.ob (.dc (dcv ws)))) (hl : ws.length * p.toNat ≤ 100000) :
    ∃ b ms' y5 y6 y7, wdBody (wdS p n d a (.im (Wd r)) x5 x6 x7 x8 ms) = .nx (wdS p n d b (.im (Wd r)) y5 y6 y7 x8 ms') ∧ ms'[b]? = some (.ob (.dc (dcv (widen p r ws)))) := by
  have hd : dcAt (wdS p n d a (.im (Wd r)) (.mu ms.length) x6 x7 x8 (ms ++ [.ob (.dc (dcv []))])) 3 = some (a, dcv ws) := dcAt_run rfl (by
    show (ms ++ [.ob (.dc (dcv []))])[a]? = _
    rw [List.getElem?_append_left ((List.getElem?_eq_some_iff.mp ha).1), ha])
  have hit : itS (frz (keysL 3)) (wdS p n d a (.im (Wd r)) (.mu ms.length) x6 x7 x8 (ms ++ [.ob (.dc (dcv []))])) = .ok (ws.map Wd) (wdS p n d a (.im (Wd r)) (.mu ms.length) x6 x7 x8 (ms ++ [.ob (.dc (dcv []))])) := by
    rw [itS_run, frz_run']
    unfold keysL
    rw [hd]
    dsimp only
    rw [R.bind_ok, R.bind_ok, seqOf_lst, R.of_some, dcv_keys]
  obtain ⟨S', e1, e2, y6, y7, e3⟩ := forL_fold (k := (Tk.nm 6).k) (body := wdMid) Wd (fun j (q : List (List Int)) S => q.length ≤ j * p.toNat ∧ ∃ y6 y7, S = wdS p n d a (.im (Wd r)) (.mu ms.length) y6 y7 x8 (ms ++ [.ob (.dc (dcv q))]))
    (fun q w => inn p r w q) ws 0 [] _ ⟨Nat.zero_le _, x6, x7, rfl⟩ (fun j q w S hw hj hI => by
      obtain ⟨hq, y6, y7, rfl⟩ := hI
      have h1 := inn_len p r w q
      have h2 : (j + 1) * p.toNat ≤ ws.length * p.toNat := Nat.mul_le_mul_right _ (by omega)
      rw [Nat.succ_mul] at h2
      obtain ⟨z7, h3⟩ := wdMid_run (d := d) (a := a) (ms := ms) (acc := q) (x7 := y7) (x8 := x8) hp hn hr (hws w hw) (by omega)
      exact ⟨_, _, kNm _ _ _, .inl h3, by rw [Nat.succ_mul]; omega, _, _, rfl⟩)
  refine ⟨ms.length, ms ++ [.ob (.dc (dcv (widen p r ws)))], .mu ms.length, y6, y7, ?_, ?_⟩
  · unfold wdBody
    have h0 : asgM 5 dct0 (wdS p n d a (.im (Wd r)) x5 x6 x7 x8 ms) = .nx (wdS p n d a (.im (Wd r)) (.mu ms.length) x6 x7 x8 (ms ++ [.ob (.dc (dcv []))])) := rfl
    rw [seqS_run, h0, seq_nx, seqS_run, forS_run, hit, R.stmt_ok, e1, seq_nx, e3]
    exact moveS_mu rfl
  · simp
theorem Fwords16_run {p : Int} {n : Nat} {rows : List (List Int)} (hp : okP p = true) (hn : n ≤ 1000) (hl : p.toNat ^ rows.length ≤ 100000) (hok : okR p n rows) : Fwords16 [.int p, .int (n : Int), .lst (rows.map Wd)] = .ok (.lst ((sortW (spanL p n rows)).map Wd)) := by
  obtain ⟨hp1, hp2⟩ := okP_iff.mp hp
  have hp3 : 1 ≤ p.toNat := by omega
  have hz : lcE (itR1 (aCons (varE 1) aNil)) (Tk.nm 8).k yesT (cE (.int 0)) [8] (st0 9 [.int p, .int (n : Int), .lst (rows.map Wd)]) = .ok ((List.range n).map fun _ => Dt.int 0) (st0 9 [.int p, .int (n : Int), .lst (rows.map Wd)]) := by
    refine lcE_map (fun (i : Nat) => Dt.int (i : Int)) _ (List.range n) (itR1_run (by simp [st0]) (by omega)) (fun x hx => ⟨_, kNm _ _ _, _, rfl, rfl⟩) (fun d T T' => Tk.mo) (by simp; omega)
  have hz2 : ((List.range n).map fun _ => Dt.int 0) = (List.replicate n (0 : Int)).map Dt.int := by
    rw [List.map_const', List.length_range, List.map_replicate]
  have hpre : asgM 3 (dct1 (calE (aCons (frz (lcE (itR1 (aCons (varE 1) aNil)) (Tk.nm 8).k yesT (cE (.int 0)) [8])) aNil) tupO) (cE (.bl true))) (st0 9 [.int p, .int (n : Int), .lst (rows.map Wd)]) = .nx (wdS p n (.lst (rows.map Wd)) 0 .no .no .no .no .no [.ob (.dc (dcv [List.replicate n 0]))]) := by
    rw [asgM_run']
    unfold dct1
    rw [calE_run, aCons_run, frz_run', hz, R.bind_ok, R.bind_ok, aNil_run, R.bind_ok, R.bind_ok, tupO_lst, R.of_some, R.bind_ok, cE_run, R.bind_ok, hz2]
    have : wordOf (.tup ((List.replicate n (0 : Int)).map Dt.int)) = some (List.replicate n 0) := wordOf_Wd _
    rw [this]
    rfl
  have hit : itS (varE 2) (wdS p n (.lst (rows.map Wd)) 0 .no .no .no .no .no [.ob (.dc (dcv [List.replicate n 0]))]) = .ok (rows.map Wd) (wdS p n (.lst (rows.map Wd)) 0 .no .no .no .no .no [.ob (.dc (dcv [List.replicate n 0]))]) := by
    rw [itS_run, varE_im rfl, R.bind_ok, seqOf_lst, R.of_some]
  obtain ⟨S', e1, e2, e3, b, ms, x4, x5, x6, x7, e4, e5⟩ := forL_fold (k := (Tk.nm 4).k) (body := wdBody) Wd (fun j (q : List (List Int)) S => q.length ≤ p.toNat ^ j ∧ okR p n q ∧ ∃ b ms x4 x5 x6 x7, S = wdS p n (.lst (rows.map Wd)) b x4 x5 x6 x7 .no ms ∧ ms[b]? = some (.ob (.dc (dcv q))))
    (fun q r => widen p r q) rows 0 [List.replicate n 0] (wdS p n (.lst (rows.map Wd)) 0 .no .no .no .no .no [.ob (.dc (dcv [List.replicate n 0]))]) ⟨by simp, by simpa [spanL] using spanL_ok (rows := []) hp hn (fun r hr => absurd hr List.not_mem_nil), 0, _, _, _, _, _, rfl, rfl⟩ (fun j q r S hr hj hI => by
      obtain ⟨hq, hq2, b, ms, x4, x5, x6, x7, rfl, hb⟩ := hI
      have h1 := widen_len p r q
      have h2 : q.length * p.toNat ≤ p.toNat ^ (j + 1) := by rw [Nat.pow_succ]; exact Nat.mul_le_mul_right _ hq
      have h3 : p.toNat ^ (j + 1) ≤ p.toNat ^ rows.length := Nat.pow_le_pow_right hp3 (by omega)
      obtain ⟨b', ms', y5, y6, y7, r1, r2⟩ := wdBody_run (d := .lst (rows.map Wd)) (x5 := x5) (x6 := x6) (x7 := x7) (x8 := .no) hp hn (hok r hr) hq2 hb (by omega)
      exact ⟨_, _, kNm _ _ _, .inl r1, by omega, okR_widen hp (hok r hr) hq2, b', ms', _, _, _, _, rfl, r2⟩)
  have e6 : rows.foldl (fun q r => widen p r q) [List.replicate n 0] = spanL p n rows := rfl
  rw [e6] at e2 e3 e5
  have hm : m16_law_words = seqS (asgM 3 (dct1 (calE (aCons (frz (lcE (itR1 (aCons (varE 1) aNil)) (Tk.nm 8).k yesT (cE (.int 0)) [8])) aNil) tupO) (cE (.bl true)))) (seqS (forS (itS (varE 2)) (Tk.nm 4).k wdBody) (retS (frz (calN (aCons (frz (keysL 3)) aNil) sortO2)))) := rfl
  unfold Fwords16 runD
  rw [hm, seqS_run, hpre, seq_nx, seqS_run, forS_run, hit, R.stmt_ok, e1, seq_nx, e4, retS_run, frz_run', calN_run, aCons_run, frz_run']
  have hk3 : keysL 3 (wdS p n (.lst (rows.map Wd)) b x4 x5 x6 x7 .no ms) = .ok ((spanL p n rows).map Wd) (wdS p n (.lst (rows.map Wd)) b x4 x5 x6 x7 .no ms) := by
    unfold keysL
    rw [dcAt_run (k := b) (xs := dcv (spanL p n rows)) rfl e5]
    dsimp only
    rw [dcv_keys]
  rw [hk3, R.bind_ok, R.bind_ok, aNil_run, R.bind_ok, R.bind_ok]
  have hso : sortO2 [.lst ((spanL p n rows).map Wd)] = some ((sortW (spanL p n rows)).map Wd) := sortO2_run (n := n) fun w hw => (e3 w hw).2
  rw [hso, R.of_some, R.bind_ok, R.stmt_ok]
  rfl
theorem Sub_words {p : Int} {n : Nat} {rows : List (List Int)} (hp : okP p = true) (hn : n ≤ 1000) (hok : okR p n rows) : Sub p n (sortW (spanL p n rows)) := by
  have hperm : (sortW (spanL p n rows)).Perm (spanL p n rows) := List.mergeSort_perm _ _
  have hm : ∀ w, w ∈ sortW (spanL p n rows) ↔ Sp p n rows w := fun w => by rw [hperm.mem_iff, spanL_iff hp hn hok]
  exact ⟨hperm.nodup_iff.mpr spanL_nd, fun w hw => Sp_ok hp hn hok ((hm w).mp hw), (hm _).mpr .zero, fun u hu v hv a => (hm _).mpr (Sp_lin hp hn hok ((hm u).mp hu) ((hm v).mp hv))⟩
end Lq

namespace Lq
open PySem PySem.Spec PyProof.Rows L2
/-! ### what counts are -/
def okx : Dt → Bool | .int i => decide (0 ≤ i) | _ => false
theorem it_tup (xs : List Dt) : isiO "tuple" (.tup xs) = some (.bl true) := by unfold isiO tyN; rfl
theorem truO_bl (b : Bool) : truO (.bl b) = some b := by cases b <;> rfl
theorem cnt_lc {xs : List Dt} {n : Int} (hx : ∀ d ∈ xs, noObj d = true) (hl : xs.length ≤ 1000) :
    lcE (itS (varE 0)) (Tk.nm 2).k yesT (andV (funE 1 (aCons (varE 2) aNil) Fisint) (op2 (varE 2) (cE (.int 0)) geO)) [2] (st0 3 [.tup xs, .int n]) = .ok ((xs.map okx).map Dt.bl) (st0 3 [.tup xs, .int n]) := by
  have e := lcE_map (it := itS (varE 0)) (k := (Tk.nm 2).k) (e := andV (funE 1 (aCons (varE 2) aNil) Fisint) (op2 (varE 2) (cE (.int 0)) geO)) (own := [2]) (S := st0 3 [.tup xs, .int n]) (S1 := st0 3 [.tup xs, .int n]) (fun d : Dt => d) (fun d => Dt.bl (okx d)) xs (by simp [st0]) (fun d hd => ?_) (fun d T T' => Tk.mo) (by omega)
  · rw [e, List.map_map]; rfl
  · have hf := Fisint_run (hx d hd)
    refine ⟨_, kNm _ _ _, { sl := [.im (.tup xs), .im (.int n), .im d], mo := [] }, ?_, rfl⟩
    cases d <;> simp [st0, wipeL, hf, isI, okx]
theorem Fcnts_no {d : Dt} {n : Int} (h : isiO "tuple" d = some (.bl false)) : Fcnts [d, .int n] = .ok (.bl false) := by
  unfold Fcnts runD m16_are_counts
  simp [st0, h, truO_bl, O.fo]
theorem Fcnts_len {xs : List Dt} {n : Int} (h : (xs.length : Int) ≠ n + 1) : Fcnts [.tup xs, .int n] = .ok (.bl false) := by
  unfold Fcnts runD m16_are_counts
  simp [st0, it_tup, truO_bl, O.fo, h]
theorem Fcnts_bad {xs : List Dt} {n : Int} (hx : ∀ d ∈ xs, noObj d = true) (hl : xs.length ≤ 1000) (hb : (xs.map okx).all id = false) (h : (xs.length : Int) = n + 1) : Fcnts [.tup xs, .int n] = .ok (.bl false) := by
  have key := cnt_lc (n := n) hx hl
  unfold Fcnts runD m16_are_counts
  have e1 : ∀ m : Ms → O, seqS (ifS (orT (notT (truT (op1 (varE 0) (isiO "tuple")))) (tst (op2 (calE (aCons (varE 0) aNil) lenO) (op2 (varE 1) (cE (.int 1)) addO) neO))) (retS (cE (.bl false))) nilS) m (st0 3 [.tup xs, .int n]) = m (st0 3 [.tup xs, .int n]) := fun m => by
    simp [st0, it_tup, truO_bl, h]
  rw [e1, retS_run, andV_run, calE_run, aCons_run, frz_run', key]
  simp only [R.bind_ok, aNil_run, allO_run, hb, R.of_some]
  rfl
theorem Fcnts_ok {v : List Int} {n : Int} (hx : ∀ x ∈ v, 0 ≤ x) (hl : v.length ≤ 1000) (h : (v.length : Int) = n + 1) : Fcnts [Wd v, .int n] = .ok (.bl (decide (v.sum > 0))) := by
  have key := cnt_lc (xs := v.map Dt.int) (n := n) (fun d hd => by obtain ⟨x, _, rfl⟩ := List.mem_map.mp hd; rfl) (by simpa using hl)
  have hall : (((v.map Dt.int).map okx).all id) = true := by
    rw [List.all_eq_true]
    intro b hb
    obtain ⟨d, hd, rfl⟩ := List.mem_map.mp hb
    obtain ⟨x, hx', rfl⟩ := List.mem_map.mp hd
    exact decide_eq_true (hx x hx')
  have h' : ((v.map Dt.int).length : Int) = n + 1 := by rw [List.length_map]; exact h
  unfold Fcnts runD m16_are_counts
  have e1 : ∀ m : Ms → O, seqS (ifS (orT (notT (truT (op1 (varE 0) (isiO "tuple")))) (tst (op2 (calE (aCons (varE 0) aNil) lenO) (op2 (varE 1) (cE (.int 1)) addO) neO))) (retS (cE (.bl false))) nilS) m (st0 3 [.tup (v.map Dt.int), .int n]) = m (st0 3 [.tup (v.map Dt.int), .int n]) := fun m => by
    simp [st0, it_tup, truO_bl, h]
  rw [show st0 3 [Wd v, .int n] = st0 3 [.tup (v.map Dt.int), .int n] from rfl]
  rw [e1, retS_run, andV_run, calE_run, aCons_run, frz_run', key]
  simp only [R.bind_ok, aNil_run, allO_run, hall, R.of_some]
  simp [st0, O.fo]
/-! ### sums along enumerate -/
theorem enumD_ints (v : List Int) : enumD (v.map Dt.int) = (List.range v.length).map fun i : Nat => Dt.tup [.int (i : Int), .int (v.getD i 0)] := by
  refine List.ext_getElem? fun i => ?_
  rw [List.getElem?_map]
  by_cases h : i < v.length
  · rw [List.getElem?_range h, enumD_get (d := .int (v.getD i 0))]
    · rfl
    · rw [List.getElem?_map, List.getElem?_eq_getElem h, List.getD_eq_getElem?_getD, List.getElem?_eq_getElem h]
      rfl
  · rw [List.getElem?_eq_none (by rw [enumD_len]; simpa using h), List.getElem?_eq_none (by simpa using h)]
    rfl
theorem itEn_run {fs : Ms → R (List Dt)} {S S1 : Ms} {v : List Int} (h : fs S = .ok [Wd v] S1) : itEn fs S = .ok ((List.range v.length).map fun i : Nat => Dt.tup [.int (i : Int), .int (v.getD i 0)]) S1 := by
  unfold itEn
  rw [h, R.bind_ok]
  show R.ok (enumD (v.map Dt.int)) S1 = _
  rw [enumD_ints]
theorem cmul_small {a : Int} (h1 : -1000000 ≤ a) (h2 : a ≤ 1000000) (z : Int) : CMul a z := by
  have e1 : (1000000 : Int) < 2 ^ 64 := by decide
  have e2 : -(2 : Int) ^ 64 < -1000000 := by decide
  exact .inl ⟨by omega, by omega⟩
def smallV (v : List Int) : Prop := ∀ x ∈ v, 0 ≤ x ∧ x ≤ 1000
theorem small_get {v : List Int} (h : smallV v) (i : Nat) : 0 ≤ v.getD i 0 ∧ v.getD i 0 ≤ 1000 := by
  rw [List.getD_eq_getElem?_getD]
  by_cases q : i < v.length
  · rw [List.getElem?_eq_getElem q]
    exact h _ (List.getElem_mem q)
  · rw [List.getElem?_eq_none (by omega)]
    exact ⟨by decide, by decide⟩
theorem Ftrans_run {p : Int} {n j : Nat} {v : List Int} (hp : 2 ≤ p ∧ p ≤ 7) (hn : n ≤ 12) (hj : j ≤ n) (hv : smallV v) (hl : v.length = n + 1) : Ftrans [.int p, .int (n : Int), Wd v, .int (j : Int)] = .ok (.int (trI p n v j)) := by
  have key : lcE (itEn (aCons (varE 2) aNil)) (Tk.tp [4, 5]).k yesT (op2 (varE 5) (funE 4 (aCons (varE 0) (aCons (varE 1) (aCons (varE 3) (aCons (varE 4) aNil)))) Fkraw) mulO) [4, 5] (st0 6 [.int p, .int (n : Int), Wd v, .int (j : Int)]) = .ok (((List.range (n + 1)).map fun i => v.getD i 0 * krawI p (n : Int) (j : Int) (i : Int)).map Dt.int) (st0 6 [.int p, .int (n : Int), Wd v, .int (j : Int)]) := by
    have e := lcE_map (it := itEn (aCons (varE 2) aNil)) (k := (Tk.tp [4, 5]).k) (e := op2 (varE 5) (funE 4 (aCons (varE 0) (aCons (varE 1) (aCons (varE 3) (aCons (varE 4) aNil)))) Fkraw) mulO) (own := [4, 5]) (S := st0 6 [.int p, .int (n : Int), Wd v, .int (j : Int)]) (S1 := st0 6 [.int p, .int (n : Int), Wd v, .int (j : Int)]) (fun i : Nat => Dt.tup [.int (i : Int), .int (v.getD i 0)]) (fun i => Dt.int (v.getD i 0 * krawI p (n : Int) (j : Int) (i : Int))) (List.range v.length) (itEn_run (by simp [st0])) (fun i hi => ?_) (fun d T T' => Tk.mo) (by simp; omega)
    · rw [e, hl, List.map_map]; rfl
    · have hi' := List.mem_range.mp hi
      have hf := Fkraw_run (p := p) (n := (n : Int)) (j := (j : Int)) (i := (i : Int)) hp (by omega) (by omega) (by omega)
      have hs := small_get hv i
      have hc := cmul_small (a := v.getD i 0) (by omega) (by omega)
      clear hs
      generalize v.getD i 0 = z at *
      generalize krawI p (n : Int) (j : Int) (i : Int) = z2 at *
      refine ⟨_, by rw [kTp]; rfl, { sl := [.im (.int p), .im (.int (n : Int)), .im (Wd v), .im (.int (j : Int)), .im (.int (i : Int)), .im (.int z)], mo := [] }, ?_, rfl⟩
      simp [st0, wipeL, kNames, hf, hc]
  unfold Ftrans runD m16_transformed
  rw [retS_run, calE_run, aCons_run, frz_run', key]
  simp only [R.bind_ok, aNil_run, sumO_ints, R.of_some, R.stmt_ok, O.fo]
  rfl
theorem Fbmom_run {n : Nat} {s : Int} {v : List Int} (hn : n ≤ 12) (hv : smallV v) (hl : v.length = n + 1) : Fbmom [Wd v, .int s] = .ok (.int (bmI v s)) := by
  have e0 : ∀ m : Ms → O, seqS (asgS 2 (op2 (calE (aCons (varE 0) aNil) lenO) (cE (.int 1)) subO)) m (st0 5 [Wd v, .int s]) = m { sl := [.im (Wd v), .im (.int s), .im (.int ((v.length : Int) - 1)), .no, .no], mo := [] } := fun m => by simp [st0, Wd]
  have key : lcE (itEn (aCons (varE 0) aNil)) (Tk.tp [3, 4]).k yesT (op2 (funE 2 (aCons (op2 (varE 2) (varE 3) subO) (aCons (varE 1) aNil)) Fbinom) (varE 4) mulO) [3, 4] { sl := [.im (Wd v), .im (.int s), .im (.int ((v.length : Int) - 1)), .no, .no], mo := [] } = .ok (((List.range v.length).map fun i : Nat => binF ((v.length : Int) - 1 - (i : Int)) s * v.getD i 0).map Dt.int) { sl := [.im (Wd v), .im (.int s), .im (.int ((v.length : Int) - 1)), .no, .no], mo := [] } := by
    have e := lcE_map (it := itEn (aCons (varE 0) aNil)) (k := (Tk.tp [3, 4]).k) (e := op2 (funE 2 (aCons (op2 (varE 2) (varE 3) subO) (aCons (varE 1) aNil)) Fbinom) (varE 4) mulO) (own := [3, 4]) (S := { sl := [.im (Wd v), .im (.int s), .im (.int ((v.length : Int) - 1)), .no, .no], mo := [] }) (S1 := { sl := [.im (Wd v), .im (.int s), .im (.int ((v.length : Int) - 1)), .no, .no], mo := [] }) (fun i : Nat => Dt.tup [.int (i : Int), .int (v.getD i 0)]) (fun i => Dt.int (binF ((v.length : Int) - 1 - (i : Int)) s * v.getD i 0)) (List.range v.length) (itEn_run (by simp)) (fun i hi => ?_) (fun d T T' => Tk.mo) (by simp; omega)
    · rw [e, List.map_map]; rfl
    · have hi' := List.mem_range.mp hi
      have hf := Fbinom_run (n := (v.length : Int) - 1 - (i : Int)) (k := s) (by omega)
      have hb := binF_b (n := (v.length : Int) - 1 - (i : Int)) (k := s) (by omega)
      have hc := cmul_small (a := binF ((v.length : Int) - 1 - (i : Int)) s) (by omega) (by omega)
      clear hb
      generalize v.getD i 0 = z at *
      generalize binF ((v.length : Int) - 1 - (i : Int)) s = z2 at *
      refine ⟨_, by rw [kTp]; rfl, { sl := [.im (Wd v), .im (.int s), .im (.int ((v.length : Int) - 1)), .im (.int (i : Int)), .im (.int z)], mo := [] }, ?_, rfl⟩
      simp [wipeL, kNames, hf, hc]
  unfold Fbmom runD m16binomial_moment
  rw [e0, retS_run, calE_run, aCons_run, frz_run', key]
  simp only [R.bind_ok, aNil_run, sumO_ints, R.of_some, R.stmt_ok, O.fo]
  rfl
end Lq

namespace Lq
open PySem PySem.Spec PyProof.Rows L2
/-! ### numbers of words by weight -/
def bump (cs : List Int) (i : Nat) : List Int := cs.set i (cs.getD i 0 + 1)
theorem ix_ints {cs : List Int} {c : Nat} (h : c < cs.length) : atI (cs.map Dt.int) (c : Int) = some (.int (cs.getD c 0)) := by
  rw [atI_ofNat, List.getElem?_map, List.getD_eq_getElem?_getD, List.getElem?_eq_getElem h]
  rfl
theorem ixN_ok {n c : Nat} (h : c < n) : ixN n (c : Int) = some c := by
  unfold ixN
  rw [if_pos (by omega), if_pos (by omega), Int.toNat_natCast]
theorem bump_len (cs : List Int) (i : Nat) : (bump cs i).length = cs.length := by simp [bump]
theorem fold_bump : ∀ (ws : List (List Int)) (cs : List Int), (∀ w ∈ ws, wtW w < cs.length) → (ws.foldl (fun cs w => bump cs (wtW w)) cs).length = cs.length ∧ ∀ i, i < cs.length → (ws.foldl (fun cs w => bump cs (wtW w)) cs).getD i 0 = cs.getD i 0 + sI ws fun w => if wtW w = i then 1 else 0
  | [], cs, _ => ⟨rfl, fun i _ => by rw [sI_nil]; simp⟩
  | w :: ws, cs, h => by
    obtain ⟨h1, h2⟩ := fold_bump ws (bump cs (wtW w)) fun x hx => by rw [bump_len]; exact h x (List.mem_cons_of_mem _ hx)
    rw [bump_len] at h1 h2
    rw [List.foldl_cons]
    refine ⟨h1, fun i hi => ?_⟩
    rw [h2 i hi, sI_cons]
    have : (bump cs (wtW w)).getD i 0 = cs.getD i 0 + if wtW w = i then 1 else 0 := by
      unfold bump
      rw [List.getD_eq_getElem?_getD, List.getElem?_set]
      by_cases q : wtW w = i
      · rw [if_pos q, if_pos (by omega), if_pos q, q]; rfl
      · rw [if_neg q, if_neg q, List.getD_eq_getElem?_getD]; omega
    rw [this]
    omega
theorem list_getD_ext {a b : List Int} (hl : a.length = b.length) (h : ∀ i, i < a.length → a.getD i 0 = b.getD i 0) : a = b := by
  refine List.ext_getElem hl fun i h1 h2 => ?_
  have := h i h1
  rw [List.getD_eq_getElem?_getD, List.getD_eq_getElem?_getD, List.getElem?_eq_getElem h1, List.getElem?_eq_getElem h2] at this
  exact this
theorem fold_cntW {n : Nat} {ws : List (List Int)} (h : ∀ w ∈ ws, wtW w ≤ n) : ws.foldl (fun cs w => bump cs (wtW w)) (List.replicate (n + 1) 0) = cntW n ws := by
  obtain ⟨h1, h2⟩ := fold_bump ws (List.replicate (n + 1) 0) fun w hw => by have := h w hw; simp; omega
  rw [List.length_replicate] at h1 h2
  refine list_getD_ext (by rw [h1, cntW_len]) fun i hi => ?_
  rw [h1] at hi
  rw [h2 i hi, cntW_get hi, List.getD_eq_getElem?_getD, List.getElem?_replicate, if_pos hi]
  simp
def ncS (d : Dt) (n : Nat) (cs : List Int) (x3 x4 : Sv) : Ms := { sl := [.im d, .im (.int (n : Int)), .mu 0, x3, x4], mo := [.ob (.ls (cs.map Dt.int))] }
theorem Fnof_run {n : Nat} {ws : List (List Int)} (hn : n ≤ 900) (hw : ∀ w ∈ ws, wtW w ≤ n ∧ w.length ≤ 1000) : Fnof [.lst (ws.map Wd), .int (n : Int)] = .ok (Wd (cntW n ws)) := by
  have key : lcE (itR1 (aCons (op2 (varE 1) (cE (.int 1)) addO) aNil)) (Tk.nm 4).k yesT (cE (.int 0)) [4] (st0 5 [.lst (ws.map Wd), .int (n : Int)]) = .ok ((List.replicate (n + 1) (0 : Int)).map Dt.int) (st0 5 [.lst (ws.map Wd), .int (n : Int)]) := by
    have e := lcE_map (it := itR1 (aCons (op2 (varE 1) (cE (.int 1)) addO) aNil)) (k := (Tk.nm 4).k) (e := cE (.int 0)) (own := [4]) (S := st0 5 [.lst (ws.map Wd), .int (n : Int)]) (S1 := st0 5 [.lst (ws.map Wd), .int (n : Int)]) (fun k : Nat => Dt.int (k : Int)) (fun _ => Dt.int 0) (List.range (n + 1)) (itR1_run (by simp [st0]) (by omega)) (fun k hk => ⟨_, kNm _ _ _, _, rfl, rfl⟩) (fun d T T' => Tk.mo) (by simp; omega)
    rw [e, List.map_const', List.length_range, List.map_replicate]
  have e0 : asgN 2 (lcE (itR1 (aCons (op2 (varE 1) (cE (.int 1)) addO) aNil)) (Tk.nm 4).k yesT (cE (.int 0)) [4]) (st0 5 [.lst (ws.map Wd), .int (n : Int)]) = .nx (ncS (.lst (ws.map Wd)) n (List.replicate (n + 1) 0) .no .no) := by
    rw [asgN_run', key]
    rfl
  obtain ⟨S', e1, e2, x3, e3⟩ := forL_fold (k := (Tk.nm 3).k) (body := setS 2 (op2 (ixV 2 (funE 1 (aCons (varE 3) aNil) Fweight)) (cE (.int 1)) addO) (funE 1 (aCons (varE 3) aNil) Fweight)) Wd (fun _ (cs : List Int) S => cs.length = n + 1 ∧ ∃ x3, S = ncS (.lst (ws.map Wd)) n cs x3 .no)
    (fun cs w => bump cs (wtW w)) ws 0 (List.replicate (n + 1) 0) (ncS (.lst (ws.map Wd)) n (List.replicate (n + 1) 0) .no .no) ⟨by simp, .no, rfl⟩ (fun j cs w S hw' _ hI => by
      obtain ⟨hc, x3, rfl⟩ := hI
      obtain ⟨h1, h2⟩ := hw w hw'
      have hf := Fweight_run h2
      have hat := ix_ints (cs := cs) (c := wtW w) (by omega)
      have hix := ixN_ok (n := cs.length) (c := wtW w) (by omega)
      refine ⟨ncS (.lst (ws.map Wd)) n cs (.im (Wd w)) .no, ncS (.lst (ws.map Wd)) n (bump cs (wtW w)) (.im (Wd w)) .no, kNm _ _ _, .inl ?_, by rw [bump_len]; exact hc, _, rfl⟩
      unfold bump
      generalize cs.getD (wtW w) 0 = z at *
      simp [ncS, setS, ixV, muAt, hf, hat, hix, List.map_set])
  have e4 : forS (itS (varE 0)) (Tk.nm 3).k (setS 2 (op2 (ixV 2 (funE 1 (aCons (varE 3) aNil) Fweight)) (cE (.int 1)) addO) (funE 1 (aCons (varE 3) aNil) Fweight)) (ncS (.lst (ws.map Wd)) n (List.replicate (n + 1) 0) .no .no) = .nx (ncS (.lst (ws.map Wd)) n (cntW n ws) x3 .no) := by
    rw [forS_run, itS_run, varE_im (d := .lst (ws.map Wd)) (by rfl), R.bind_ok, seqOf_lst, R.of_some, R.stmt_ok, e1, e3, fold_cntW fun w hw' => (hw w hw').1]
  unfold Fnof runD m16_law_numbers_of
  rw [seqS_run, e0, seq_nx, seqS_run, e4, seq_nx]
  simp [ncS, O.fo, Wd]
/-! ### the dual -/
def duS (p : Int) (n : Nat) (W : List (List Int)) (acc : List (List Int)) (x4 x5 x6 : Sv) : Ms := { sl := [.im (.int p), .im (.int (n : Int)), .im (.lst (W.map Wd)), .mu 0, x4, x5, x6], mo := [.ob (.ls (acc.map Wd))] }
def duD : Ms → R (List Dt) := lcE (itR1 (aCons (varE 1) aNil)) (Tk.nm 6).k yesT (op2 (op2 (varE 5) (varE 6) ixO) (op2 (varE 4) (varE 6) ixO) mulO) [6]
theorem wd_at {n k : Nat} {x : List Int} (hx : x.length = n) (hk : k < n) : ixO (Wd x) (.int (k : Int)) = some (.int (x.getD k 0)) := ix_ints (by omega)
theorem duD_run {p : Int} {n : Nat} {W acc : List (List Int)} {x y : List Int} {x6 : Sv} (hp : okP p = true) (hn : n ≤ 1000) (hx : ok1 p n x) (hy : ok1 p n y) : duD (duS p n W acc (.im (Wd y)) (.im (Wd x)) x6) = .ok (((List.range n).map fun k => x.getD k 0 * y.getD k 0).map Dt.int) (duS p n W acc (.im (Wd y)) (.im (Wd x)) x6) := by
  have e := lcE_map (it := itR1 (aCons (varE 1) aNil)) (k := (Tk.nm 6).k) (e := op2 (op2 (varE 5) (varE 6) ixO) (op2 (varE 4) (varE 6) ixO) mulO) (own := [6]) (S := duS p n W acc (.im (Wd y)) (.im (Wd x)) x6) (S1 := duS p n W acc (.im (Wd y)) (.im (Wd x)) x6) (fun k : Nat => Dt.int (k : Int)) (fun k => Dt.int (x.getD k 0 * y.getD k 0)) (List.range n) (itR1_run (by simp [duS]) (by omega)) (fun k hk => ?_) (fun d T T' => Tk.mo) (by simp; omega)
  · unfold duD
    rw [e, List.map_map]; rfl
  · have hk' := List.mem_range.mp hk
    have e1 := wd_at hx.2 hk'
    have e2 := wd_at hy.2 hk'
    have hz := g_lt hx hk'
    have hp2 := (okP_iff.mp hp).2
    have hc : CMul (x.getD k 0) (y.getD k 0) := by
      have e1 : (1000 : Int) < 2 ^ 64 := by decide
      have e2 : -(2 : Int) ^ 64 < 0 := by decide
      unfold g at hz
      exact .inl ⟨by omega, by omega⟩
    clear hz
    refine ⟨_, kNm _ _ _, duS p n W acc (.im (Wd y)) (.im (Wd x)) (.im (.int (k : Int))), ?_, rfl⟩
    generalize x.getD k 0 = a at *
    generalize y.getD k 0 = b at *
    simp [duS, wipeL, e1, e2, hc]
theorem duF_run {p : Int} {n : Nat} {W acc : List (List Int)} {y : List Int} {x5 x6 : Sv} (hp : okP p = true) (hn : n ≤ 1000) (hW : ∀ w ∈ W, ok1 p n w) (hl : W.length ≤ 10000) (hy : ok1 p n y) :
    lcE (itS (varE 2)) (Tk.nm 5).k (tst (op2 (op2 (calE (aCons (frz duD) aNil) sumO) (varE 0) modO) (cE (.int 0)) neO)) (varE 5) [5] (duS p n W acc (.im (Wd y)) x5 x6) = .ok ((W.filter fun x => !decide (dotN n x y % p = 0)).map Wd) (duS p n W acc (.im (Wd y)) x5 x6) := by
  have hp1 := (okP_iff.mp hp).1
  refine lcE_flt Wd (fun x => !decide (dotN n x y % p = 0)) Wd W (by simp [duS]) (fun x hx => ?_) (by omega)
  have hd := duD_run (W := W) (acc := acc) (x6 := x6) hp hn (hW x hx) hy
  refine ⟨duS p n W acc (.im (Wd y)) (.im (Wd x)) x6, duS p n W acc (.im (Wd y)) (.im (Wd x)) x6, kNm _ _ _, ?_, rfl, fun _ => ⟨duS p n W acc (.im (Wd y)) (.im (Wd x)) x6, by simp [duS], rfl⟩⟩
  rw [tst_run', op2_run, op2_run, calE_run, aCons_run, frz_run', hd]
  have hs : sumO [.lst (((List.range n).map fun k => x.getD k 0 * y.getD k 0).map Dt.int)] = some (.int (dotN n x y)) := sumO_ints _
  simp only [R.bind_ok, aNil_run, hs, R.of_some]
  generalize dotN n x y = z
  simp [duS, hp1]
theorem filter_nil_all {α : Type} (b : α → Bool) : ∀ l : List α, decide ((((l.filter fun x => !b x).length : Nat) : Int) = 0) = l.all b
  | [] => rfl
  | x :: l => by
    cases h : b x with
    | true =>
      rw [List.filter_cons_of_neg (by simp [h]), filter_nil_all b l, List.all_cons, h]
      rfl
    | false =>
      rw [List.filter_cons_of_pos (by simp [h]), List.all_cons, h, List.length_cons]
      simp
      omega
theorem Fdual_run {p : Int} {n : Nat} {W : List (List Int)} (hp : okP p = true) (hn : n ≤ 100) (hA : p.toNat ^ n ≤ 1000) (hW : ∀ w ∈ W, ok1 p n w) (hl : W.length ≤ 10000) : Fdual [.int p, .int (n : Int), .lst (W.map Wd)] = .ok (.lst ((dualL p n W).map Wd)) := by
  have hf : Fall15 [.int p, .int (n : Int)] = .ok (.lst ((allN p n).map Wd)) := Fall_run hp hn (by omega)
  have hlen := allN_len p n
  have hall : ∀ y ∈ allN p n, ok1 p n y := fun y hy => (allN_ok (by omega)).mp hy
  have hm : m16_law_dual = seqS (asgN 3 (lstE aNil)) (seqS (forS (itS (funE 2 (aCons (varE 0) (aCons (varE 1) aNil)) Fall15)) (Tk.nm 4).k (ifS (tst (op2 (calE (aCons (frz (lcE (itS (varE 2)) (Tk.nm 5).k (tst (op2 (op2 (calE (aCons (frz duD) aNil) sumO) (varE 0) modO) (cE (.int 0)) neO)) (varE 5) [5])) aNil) lenO) (cE (.int 0)) eqO)) (appS 3 (varE 4)) nilS)) (retS (varE 3))) := rfl
  have e0 : asgN 3 (lstE aNil) (st0 7 [.int p, .int (n : Int), .lst (W.map Wd)]) = .nx (duS p n W [] .no .no .no) := by simp [st0, duS, lstE_nil]
  have hit : itS (funE 2 (aCons (varE 0) (aCons (varE 1) aNil)) Fall15) (duS p n W [] .no .no .no) = .ok ((allN p n).map Wd) (duS p n W [] .no .no .no) := by simp [duS, hf]
  obtain ⟨S', e1, e2, x4, e3⟩ := forL_fold (k := (Tk.nm 4).k) (body := ifS (tst (op2 (calE (aCons (frz (lcE (itS (varE 2)) (Tk.nm 5).k (tst (op2 (op2 (calE (aCons (frz duD) aNil) sumO) (varE 0) modO) (cE (.int 0)) neO)) (varE 5) [5])) aNil) lenO) (cE (.int 0)) eqO)) (appS 3 (varE 4)) nilS) Wd (fun j (acc : List (List Int)) S => acc.length ≤ j ∧ ∃ x4, S = duS p n W acc x4 .no .no)
    (fun acc y => if (W.all fun x => decide (dotN n x y % p = 0)) = true then acc ++ [y] else acc) (allN p n) 0 [] (duS p n W [] .no .no .no) ⟨Nat.le_refl _, .no, rfl⟩ (fun j acc y S hy hj hI => by
      obtain ⟨ha, x4, rfl⟩ := hI
      have hk := duF_run (acc := acc) (x5 := .no) (x6 := .no) hp (by omega) hW hl (hall y hy)
      have hb := filter_nil_all (fun x => decide (dotN n x y % p = 0)) W
      have hc : tst (op2 (calE (aCons (frz (lcE (itS (varE 2)) (Tk.nm 5).k (tst (op2 (op2 (calE (aCons (frz duD) aNil) sumO) (varE 0) modO) (cE (.int 0)) neO)) (varE 5) [5])) aNil) lenO) (cE (.int 0)) eqO) (duS p n W acc (.im (Wd y)) .no .no) = .ok (W.all fun x => decide (dotN n x y % p = 0)) (duS p n W acc (.im (Wd y)) .no .no) := by
        rw [tst_run', op2_run, calE_run, aCons_run, frz_run', hk]
        simp only [R.bind_ok, aNil_run, lenO_lst, R.of_some, cE_run, eqO_int, List.length_map]
        rw [hb]
      refine ⟨duS p n W acc (.im (Wd y)) .no .no, duS p n W (if (W.all fun x => decide (dotN n x y % p = 0)) = true then acc ++ [y] else acc) (.im (Wd y)) .no .no, kNm _ _ _, .inl ?_, ?_, _, rfl⟩
      · rw [ifS_run, hc, R.stmt_ok]
        by_cases q : (W.all fun x => decide (dotN n x y % p = 0)) = true
        · rw [if_pos q, if_pos q]
          have hl2 : acc.length < 100000 := by omega
          simp [duS, muAt, hl2]
        · rw [if_neg q, if_neg q, nilS_run]
      · split
        · simp; omega
        · omega)
  have hfold : ∀ (ys acc : List (List Int)), ys.foldl (fun acc y => if (W.all fun x => decide (dotN n x y % p = 0)) = true then acc ++ [y] else acc) acc = acc ++ ys.filter fun y => W.all fun x => decide (dotN n x y % p = 0) := by
    intro ys
    induction ys with
    | nil => intro acc; simp
    | cons y ys ih =>
      intro acc
      rw [List.foldl_cons, ih]
      by_cases q : (W.all fun x => decide (dotN n x y % p = 0)) = true
      · rw [if_pos q, List.filter_cons, if_pos q]; simp
      · rw [if_neg q, List.filter_cons, if_neg q]
  unfold Fdual runD
  rw [hm, seqS_run, e0, seq_nx, seqS_run, forS_run, hit, R.stmt_ok, e1, seq_nx, e3, hfold]
  simp [duS, O.fo, dualL]
end Lq

namespace Lq
open PySem PySem.Spec PyProof.Rows L2
/-! ### the transform -/
def macL (p : Int) (n : Nat) (v : List Int) : List Int := (List.range (n + 1)).map fun j => trI p n v j
def macR (CR : Addr) (p : Int) (n : Nat) (v : List Int) : Fo := if ((macL p n v).any fun x => !decide (x % v.sum = 0)) = true then .er ⟨CR, ["reason"], [.str "fraction"]⟩ else .ok (Wd ((macL p n v).map fun x => x / v.sum))
def mcS (p : Int) (n : Nat) (v : List Int) (x3 x4 x5 x6 : Sv) : Ms := { sl := [.im (.int p), .im (.int (n : Int)), .im (Wd v), x3, x4, x5, x6], mo := [] }
theorem Fmac_ok (CM CR : Addr) {p : Int} {n : Nat} {v : List Int} (hp : 2 ≤ p ∧ p ≤ 7) (hn : n ≤ 12) (hv : smallV v) (hl : v.length = n + 1) (h0 : 0 < v.sum) (h1 : v.sum < 1000000) : Fmac CM CR [.int p, .int (n : Int), Wd v] = macR CR p n v := by
  have hc := Fcnts_ok (v := v) (n := (n : Int)) (fun x hx => (hv x hx).1) (by omega) (by omega)
  rw [decide_eq_true h0] at hc
  have hcd : ∀ z, CDiv z v.sum := fun z => ⟨h0, by omega⟩
  have key : lcE (itR1 (aCons (op2 (varE 1) (cE (.int 1)) addO) aNil)) (Tk.nm 5).k yesT (funE 4 (aCons (varE 0) (aCons (varE 1) (aCons (varE 2) (aCons (varE 5) aNil)))) Ftrans) [5] (mcS p n v (.im (.int v.sum)) .no .no .no) = .ok ((macL p n v).map Dt.int) (mcS p n v (.im (.int v.sum)) .no .no .no) := by
    have e := lcE_map (it := itR1 (aCons (op2 (varE 1) (cE (.int 1)) addO) aNil)) (k := (Tk.nm 5).k) (e := funE 4 (aCons (varE 0) (aCons (varE 1) (aCons (varE 2) (aCons (varE 5) aNil)))) Ftrans) (own := [5]) (S := mcS p n v (.im (.int v.sum)) .no .no .no) (S1 := mcS p n v (.im (.int v.sum)) .no .no .no) (fun k : Nat => Dt.int (k : Int)) (fun j => Dt.int (trI p n v j)) (List.range (n + 1)) (itR1_run (by simp [mcS]) (by omega)) (fun j hj => ?_) (fun d T T' => Tk.mo) (by simp; omega)
    · rw [e]; unfold macL; rw [List.map_map]; rfl
    · have hj' := List.mem_range.mp hj
      have hf := Ftrans_run (p := p) (n := n) (j := j) hp hn (by omega) hv hl
      exact ⟨mcS p n v (.im (.int v.sum)) .no (.im (.int (j : Int))) .no, kNm _ _ _, mcS p n v (.im (.int v.sum)) .no (.im (.int (j : Int))) .no, by simp [mcS, hf], rfl⟩
  have e1 : ∀ m : Ms → O, seqS (ifS (notT (truT (funE 2 (aCons (varE 2) (aCons (varE 1) aNil)) Fcnts))) (raiseS ⟨CM, [], []⟩) nilS) m (st0 7 [.int p, .int (n : Int), Wd v]) = m (mcS p n v .no .no .no .no) := fun m => by
    simp [st0, mcS, hc, tru_bl]
  have e2 : ∀ m : Ms → O, seqS (asgS 3 (calE (aCons (varE 2) aNil) sumT)) m (mcS p n v .no .no .no .no) = m (mcS p n v (.im (.int v.sum)) .no .no .no) := fun m => by
    have : sumT [Wd v] = some (.int v.sum) := sumT_run v
    simp [mcS, this]
  have e3 : ∀ m : Ms → O, seqS (asgS 4 (frz (lcE (itR1 (aCons (op2 (varE 1) (cE (.int 1)) addO) aNil)) (Tk.nm 5).k yesT (funE 4 (aCons (varE 0) (aCons (varE 1) (aCons (varE 2) (aCons (varE 5) aNil)))) Ftrans) [5]))) m (mcS p n v (.im (.int v.sum)) .no .no .no) = m (mcS p n v (.im (.int v.sum)) (.im (.lst ((macL p n v).map Dt.int))) .no .no) := fun m => by
    rw [seqS_run, asgS_run', frz_run', key]
    simp [mcS]
  have hml : (macL p n v).length = n + 1 := by simp [macL]
  have k4 : lcE (itS (varE 4)) (Tk.nm 6).k yesT (op2 (op2 (varE 6) (varE 3) modO) (cE (.int 0)) neO) [6] (mcS p n v (.im (.int v.sum)) (.im (.lst ((macL p n v).map Dt.int))) .no .no) = .ok (((macL p n v).map fun x => !decide (x % v.sum = 0)).map Dt.bl) (mcS p n v (.im (.int v.sum)) (.im (.lst ((macL p n v).map Dt.int))) .no .no) := by
    have e := lcE_map (it := itS (varE 4)) (k := (Tk.nm 6).k) (e := op2 (op2 (varE 6) (varE 3) modO) (cE (.int 0)) neO) (own := [6]) (S := mcS p n v (.im (.int v.sum)) (.im (.lst ((macL p n v).map Dt.int))) .no .no) (S1 := mcS p n v (.im (.int v.sum)) (.im (.lst ((macL p n v).map Dt.int))) .no .no) Dt.int (fun x => Dt.bl (!decide (x % v.sum = 0))) (macL p n v) (by simp [mcS]) (fun x hx => ?_) (fun d T T' => Tk.mo) (by omega)
    · rw [e, List.map_map]; rfl
    · refine ⟨mcS p n v (.im (.int v.sum)) (.im (.lst ((macL p n v).map Dt.int))) .no (.im (.int x)), kNm _ _ _, mcS p n v (.im (.int v.sum)) (.im (.lst ((macL p n v).map Dt.int))) .no (.im (.int x)), ?_, rfl⟩
      generalize v.sum = z at *
      simp [mcS, h0]
  have k5 : lcE (itS (varE 4)) (Tk.nm 6).k yesT (op2 (varE 6) (varE 3) divO) [6] (mcS p n v (.im (.int v.sum)) (.im (.lst ((macL p n v).map Dt.int))) .no .no) = .ok (((macL p n v).map fun x => x / v.sum).map Dt.int) (mcS p n v (.im (.int v.sum)) (.im (.lst ((macL p n v).map Dt.int))) .no .no) := by
    have e := lcE_map (it := itS (varE 4)) (k := (Tk.nm 6).k) (e := op2 (varE 6) (varE 3) divO) (own := [6]) (S := mcS p n v (.im (.int v.sum)) (.im (.lst ((macL p n v).map Dt.int))) .no .no) (S1 := mcS p n v (.im (.int v.sum)) (.im (.lst ((macL p n v).map Dt.int))) .no .no) Dt.int (fun x => Dt.int (x / v.sum)) (macL p n v) (by simp [mcS]) (fun x hx => ?_) (fun d T T' => Tk.mo) (by omega)
    · rw [e, List.map_map]; rfl
    · refine ⟨mcS p n v (.im (.int v.sum)) (.im (.lst ((macL p n v).map Dt.int))) .no (.im (.int x)), kNm _ _ _, mcS p n v (.im (.int v.sum)) (.im (.lst ((macL p n v).map Dt.int))) .no (.im (.int x)), ?_, rfl⟩
      have hz := hcd x
      generalize v.sum = z at *
      simp [mcS, hz]
  have hany : (((macL p n v).map fun x => !decide (x % v.sum = 0)).any id) = (macL p n v).any fun x => !decide (x % v.sum = 0) := by rw [List.any_map]; rfl
  unfold Fmac runD m16macwilliams
  rw [e1, e2, e3, seqS_run, ifS_run, truT_run, calE_run, aCons_run, frz_run', k4]
  simp only [R.bind_ok, aNil_run, anyO_run, hany, R.of_some, tru_bl, R.stmt_ok]
  unfold macR
  cases (macL p n v).any fun x => !decide (x % v.sum = 0) with
  | true => rfl
  | false =>
    rw [if_neg (by simp), if_neg (by simp), nilS_run, seq_nx, retS_run, calE_run, aCons_run, frz_run', k5]
    simp [O.fo, Wd]
theorem Fmac_bad (CM CR : Addr) {p n : Int} {d : Dt} (h : Fcnts [d, .int n] = .ok (.bl false)) : Fmac CM CR [.int p, .int n, d] = .er ⟨CM, [], []⟩ := by
  unfold Fmac runD m16macwilliams
  simp [st0, h, tru_bl, raiseS, O.fo]
  rfl
def toldR (CR : Addr) : Fo → Fo | .ok d => .ok d | .er _ => .ok (.str "fraction") | .no => .no
theorem Ftold_of (CM CR : Addr) {p n : Int} {d r : Dt} (h : Fmac CM CR [.int p, .int n, d] = .ok r) : Ftold CM CR [.int p, .int n, d] = .ok r := by
  unfold Ftold runD m16_law_told tryM
  simp [st0, h, O.fo]
theorem Ftold_fr (CM CR : Addr) {p n : Int} {d : Dt} (h : Fmac CM CR [.int p, .int n, d] = .er ⟨CR, ["reason"], [.str "fraction"]⟩) : Ftold CM CR [.int p, .int n, d] = .ok (.str "fraction") := by
  unfold Ftold runD m16_law_told tryM
  simp [st0, h, O.fo]
theorem Ftold_bad (CM CR : Addr) {p n : Int} {d : Dt} (h : Fcnts [d, .int n] = .ok (.bl false)) : Ftold CM CR [.int p, .int n, d] = .ok (.str "malformed") := by
  have := Fmac_bad CM CR (p := p) h
  unfold Ftold runD m16_law_told tryM
  simp [st0, this, O.fo]
/-- what the law is told of counts -/
def toldV (p : Int) (n : Nat) (v : List Int) : Dt := if ((macL p n v).any fun x => !decide (x % v.sum = 0)) = true then .str "fraction" else Wd ((macL p n v).map fun x => x / v.sum)
theorem Ftold_run (CM CR : Addr) {p : Int} {n : Nat} {v : List Int} (hp : 2 ≤ p ∧ p ≤ 7) (hn : n ≤ 12) (hv : smallV v) (hl : v.length = n + 1) (h0 : 0 < v.sum) (h1 : v.sum < 1000000) : Ftold CM CR [.int p, .int (n : Int), Wd v] = .ok (toldV p n v) := by
  have h := Fmac_ok CM CR hp hn hv hl h0 h1
  unfold macR at h
  unfold toldV
  split at h
  · rename_i q
    rw [if_pos q]
    exact Ftold_fr CM CR h
  · rename_i q
    rw [if_neg q]
    exact Ftold_of CM CR h
end Lq

namespace Lq
open PySem PySem.Spec PyProof.Rows L2
/-! ### places -/
theorem places_ok : ∀ n : Nat, (placesL n).length = 2 ^ n ∧ ∀ c ∈ placesL n, c.length ≤ n ∧ ∀ k ∈ c, 0 ≤ k ∧ k < (n : Int)
  | 0 => ⟨rfl, fun c hc => by
    rw [show placesL 0 = [[]] from rfl, List.mem_singleton] at hc
    subst hc
    exact ⟨Nat.le_refl _, fun k hk => by cases hk⟩⟩
  | n + 1 => by
    obtain ⟨h1, h2⟩ := places_ok n
    refine ⟨by simp [placesL, h1, Nat.pow_succ]; omega, fun c hc => ?_⟩
    rw [placesL, List.mem_append] at hc
    rcases hc with hc | hc
    · obtain ⟨a, b⟩ := h2 c hc
      exact ⟨by omega, fun k hk => by have := b k hk; omega⟩
    · obtain ⟨d, hd, rfl⟩ := List.mem_map.mp hc
      obtain ⟨a, b⟩ := h2 d hd
      refine ⟨by simp; omega, fun k hk => ?_⟩
      rcases List.mem_append.mp hk with hk | hk
      · have := b k hk; omega
      · rw [List.mem_singleton.mp hk]; omega
def plS (n s : Nat) (fs : List (List Int)) (x3 x4 : Sv) : Ms := { sl := [.im (.int (n : Int)), .im (.int (s : Int)), .im (.lst (fs.map Wd)), x3, x4], mo := [] }
def plB : Ms → O := asgS 2 (frz (opN (varE 2) (frz (lcE (itS (varE 2)) (Tk.nm 4).k yesT (op2 (varE 4) (tupE (aCons (varE 3) aNil)) catT) [4])) catL))
theorem plB_run {n s k : Nat} {fs : List (List Int)} {x4 : Sv} (hl : fs.length ≤ 10000) (hf : ∀ c ∈ fs, c.length ≤ 1000) : plB (plS n s fs (.im (.int (k : Int))) x4) = .nx (plS n s (fs ++ fs.map fun c => c ++ [(k : Int)]) (.im (.int (k : Int))) x4) := by
  have e := lcE_map (it := itS (varE 2)) (k := (Tk.nm 4).k) (e := op2 (varE 4) (tupE (aCons (varE 3) aNil)) catT) (own := [4]) (S := plS n s fs (.im (.int (k : Int))) x4) (S1 := plS n s fs (.im (.int (k : Int))) x4) Wd (fun c => Wd (c ++ [(k : Int)])) fs (by simp [plS]) (fun c hc => ?_) (fun d T T' => Tk.mo) (by omega)
  · unfold plB
    rw [asgS_run', frz_run', opN_run, varE_im (d := .lst (fs.map Wd)) (by rfl), R.bind_ok, frz_run', e]
    have hc : catL (.lst (fs.map Wd)) (.lst (fs.map fun c => Wd (c ++ [(k : Int)]))) = some (fs.map Wd ++ fs.map fun c => Wd (c ++ [(k : Int)])) := catL_run (by simp; omega)
    simp only [R.bind_ok, hc, R.of_some]
    simp [plS]
  · have h1 : catT (Wd c) (.tup [.int (k : Int)]) = some (Wd (c ++ [(k : Int)])) := by
      have := catT_run (xs := c.map Dt.int) (ys := [.int (k : Int)]) (by have := hf c hc; simp; omega)
      simpa [Wd] using this
    refine ⟨plS n s fs (.im (.int (k : Int))) (.im (Wd c)), kNm _ _ _, plS n s fs (.im (.int (k : Int))) (.im (Wd c)), ?_, rfl⟩
    simp [plS, h1]
theorem Fplaces_run {n s : Nat} (hn : n ≤ 12) : Fplaces [.int (n : Int), .int (s : Int)] = .ok (.lst (((placesL n).filter fun c => decide (c.length = s)).map Wd)) := by
  have hpw : 2 ^ n ≤ 4096 := Nat.le_trans (Nat.pow_le_pow_right (by decide) hn) (by decide)
  have e0 : asgS 2 (frz (lstE (aCons (tupE aNil) aNil))) (st0 5 [.int (n : Int), .int (s : Int)]) = .nx (plS n s (placesL 0) .no .no) := by simp [st0, plS, placesL, Wd]
  have hit : itR1 (aCons (varE 0) aNil) (plS n s (placesL 0) .no .no) = .ok ((List.range n).map fun (i : Nat) => Dt.int (i : Int)) (plS n s (placesL 0) .no .no) := itR1_run (by simp [plS]) (by omega)
  obtain ⟨S', f1, f2⟩ := forL_inv (k := (Tk.nm 3).k) (body := plB) ((List.range n).map fun (i : Nat) => Dt.int (i : Int)) (fun i S => i ≤ n ∧ ∃ x3, S = plS n s (placesL i) x3 .no) (plS n s (placesL 0) .no .no) ⟨Nat.zero_le _, .no, rfl⟩ (fun i d S hd hI => by
    obtain ⟨hi, x3, rfl⟩ := hI
    have hin : i < n := by
      have := (List.getElem?_eq_some_iff.mp hd).1
      simpa using this
    have hdj : d = .int (i : Int) := by
      rw [List.getElem?_map, List.getElem?_range hin] at hd
      exact (Option.some.inj hd).symm
    subst hdj
    obtain ⟨h1, h2⟩ := places_ok i
    have h3 : 2 ^ i ≤ 2 ^ n := Nat.pow_le_pow_right (by decide) hi
    exact ⟨_, _, kNm _ _ _, .inl (plB_run (n := n) (s := s) (k := i) (x4 := .no) (by omega) fun c hc => by have := (h2 c hc).1; omega), hin, _, rfl⟩)
  obtain ⟨_, x3, hS⟩ := f2
  rw [List.length_map, List.length_range] at hS
  obtain ⟨h1, h2⟩ := places_ok n
  have key : lcE (itS (varE 2)) (Tk.nm 4).k (tst (op2 (calE (aCons (varE 4) aNil) lenO) (varE 1) eqO)) (varE 4) [4] (plS n s (placesL n) x3 .no) = .ok (((placesL n).filter fun c => decide (c.length = s)).map Wd) (plS n s (placesL n) x3 .no) := by
    refine lcE_flt Wd (fun c => decide (c.length = s)) Wd (placesL n) (by simp [plS]) (fun c hc => ?_) (by omega)
    refine ⟨plS n s (placesL n) x3 (.im (Wd c)), plS n s (placesL n) x3 (.im (Wd c)), kNm _ _ _, ?_, rfl, fun _ => ⟨plS n s (placesL n) x3 (.im (Wd c)), by simp [plS], rfl⟩⟩
    have : decide ((c.length : Int) = (s : Int)) = decide (c.length = s) := by rw [decide_eq_decide]; omega
    simp [plS, Wd, this]
  have hm : m16_law_places = seqS (asgS 2 (frz (lstE (aCons (tupE aNil) aNil)))) (seqS (forS (itR1 (aCons (varE 0) aNil)) (Tk.nm 3).k plB) (retS (frz (lcE (itS (varE 2)) (Tk.nm 4).k (tst (op2 (calE (aCons (varE 4) aNil) lenO) (varE 1) eqO)) (varE 4) [4])))) := rfl
  unfold Fplaces runD
  rw [hm, seqS_run, e0, seq_nx, seqS_run, forS_run, hit, R.stmt_ok, f1, seq_nx, hS, retS_run, frz_run', key]
  rfl
/-! ### pairs of zeros -/
theorem foldl_addI {α : Type} (h : α → Int) : ∀ (l : List α) (t : Int), l.foldl (fun t x => t + h x) t = t + sI l h
  | [], t => by rw [sI_nil]; simp
  | x :: l, t => by rw [List.foldl_cons, foldl_addI h l, sI_cons]; omega
def zpS (ws cs : List (List Int)) (t : Int) (x3 x4 x5 : Sv) : Ms := { sl := [.im (.lst (ws.map Wd)), .im (.lst (cs.map Wd)), .im (.int t), x3, x4, x5], mo := [] }
def zpB : Ms → O := asgS 2 (op2 (varE 2) (calE (aCons (op2 (calE (aCons (frz (lcE (itS (varE 4)) (Tk.nm 5).k (tst (op2 (op2 (varE 3) (varE 5) ixO) (cE (.int 0)) neO)) (varE 5) [5])) aNil) lenO) (cE (.int 0)) eqO) aNil) intO) addO)
theorem zpB_run {ws cs : List (List Int)} {t : Int} {w c : List Int} {x5 : Sv} (hl : c.length ≤ 1000) (hc : ∀ k ∈ c, 0 ≤ k ∧ k < (w.length : Int)) : zpB (zpS ws cs t (.im (Wd w)) (.im (Wd c)) x5) = .nx (zpS ws cs (t + if zeroAt w c then 1 else 0) (.im (Wd w)) (.im (Wd c)) x5) := by
  have key : lcE (itS (varE 4)) (Tk.nm 5).k (tst (op2 (op2 (varE 3) (varE 5) ixO) (cE (.int 0)) neO)) (varE 5) [5] (zpS ws cs t (.im (Wd w)) (.im (Wd c)) x5) = .ok ((c.filter fun k => !decide (w.getD k.toNat 0 = 0)).map Dt.int) (zpS ws cs t (.im (Wd w)) (.im (Wd c)) x5) := by
    refine lcE_flt Dt.int (fun k => !decide (w.getD k.toNat 0 = 0)) Dt.int c (by simp [zpS, Wd]) (fun k hk => ?_) (by omega)
    obtain ⟨h1, h2⟩ := hc k hk
    have hat : ixO (Wd w) (.int k) = some (.int (w.getD k.toNat 0)) := by
      have := ix_ints (cs := w) (c := k.toNat) (by omega)
      rw [Int.toNat_of_nonneg h1] at this
      exact this
    refine ⟨zpS ws cs t (.im (Wd w)) (.im (Wd c)) (.im (.int k)), zpS ws cs t (.im (Wd w)) (.im (Wd c)) (.im (.int k)), kNm _ _ _, ?_, rfl, fun _ => ⟨zpS ws cs t (.im (Wd w)) (.im (Wd c)) (.im (.int k)), by simp [zpS], rfl⟩⟩
    generalize w.getD k.toNat 0 = z at *
    simp [zpS, hat]
  have hb : decide ((((c.filter fun k => !decide (w.getD k.toNat 0 = 0)).length : Nat) : Int) = 0) = zeroAt w c := filter_nil_all (fun k => decide (w.getD k.toNat 0 = 0)) c
  unfold zpB
  rw [asgS_run', op2_run, varE_im (d := .int t) (by rfl), R.bind_ok, calE_run, aCons_run, op2_run, calE_run, aCons_run, frz_run', key]
  simp only [R.bind_ok, aNil_run, lenO_lst, R.of_some, cE_run, eqO_int, List.length_map]
  rw [hb]
  cases zeroAt w c <;> simp [zpS, intO]
theorem Fzp_run {n : Nat} {ws cs : List (List Int)} (hn : n ≤ 100) (hw : ∀ w ∈ ws, w.length = n) (hc : ∀ c ∈ cs, c.length ≤ n ∧ ∀ k ∈ c, 0 ≤ k ∧ k < (n : Int)) : Fzp [.lst (ws.map Wd), .lst (cs.map Wd)] = .ok (.int (pairsI ws cs)) := by
  have inner : ∀ (w : List Int) (t : Int) (x4 : Sv), w ∈ ws → ∃ y4, forS (itS (varE 1)) (Tk.nm 4).k zpB (zpS ws cs t (.im (Wd w)) x4 .no) = .nx (zpS ws cs (t + sI cs fun c => if zeroAt w c then 1 else 0) (.im (Wd w)) y4 .no) := fun w t x4 hw' => by
    obtain ⟨S', e1, y4, e2⟩ := forL_fold (k := (Tk.nm 4).k) (body := zpB) Wd (fun _ (t : Int) S => ∃ x4, S = zpS ws cs t (.im (Wd w)) x4 .no) (fun t c => t + if zeroAt w c then 1 else 0) cs 0 t (zpS ws cs t (.im (Wd w)) x4 .no) ⟨x4, rfl⟩ (fun j t c S hc' _ hI => by
      obtain ⟨x4, rfl⟩ := hI
      obtain ⟨h1, h2⟩ := hc c hc'
      exact ⟨zpS ws cs t (.im (Wd w)) (.im (Wd c)) .no, _, kNm _ _ _, .inl (zpB_run (by omega) (by rw [hw w hw']; exact h2)), _, rfl⟩)
    refine ⟨y4, ?_⟩
    rw [forS_run, itS_run, varE_im (d := .lst (cs.map Wd)) (by rfl), R.bind_ok, seqOf_lst, R.of_some, R.stmt_ok, e1, e2, foldl_addI]
  obtain ⟨S', e1, x3, x4, e2⟩ := forL_fold (k := (Tk.nm 3).k) (body := forS (itS (varE 1)) (Tk.nm 4).k zpB) Wd (fun _ (t : Int) S => ∃ x3 x4, S = zpS ws cs t x3 x4 .no) (fun t w => t + sI cs fun c => if zeroAt w c then 1 else 0) ws 0 0 (zpS ws cs 0 .no .no .no) ⟨.no, .no, rfl⟩ (fun j t w S hw' _ hI => by
    obtain ⟨x3, x4, rfl⟩ := hI
    obtain ⟨y4, e⟩ := inner w t x4 hw'
    exact ⟨zpS ws cs t (.im (Wd w)) x4 .no, _, kNm _ _ _, .inl e, _, _, rfl⟩)
  have hm : m16_law_zero_pairs = seqS (asgS 2 (cE (.int 0))) (seqS (forS (itS (varE 0)) (Tk.nm 3).k (forS (itS (varE 1)) (Tk.nm 4).k zpB)) (retS (varE 2))) := rfl
  have e0 : asgS 2 (cE (.int 0)) (st0 6 [.lst (ws.map Wd), .lst (cs.map Wd)]) = .nx (zpS ws cs 0 .no .no .no) := by simp [st0, zpS]
  unfold Fzp runD
  rw [hm, seqS_run, e0, seq_nx, seqS_run, forS_run, itS_run, varE_im (d := .lst (ws.map Wd)) (by rfl), R.bind_ok, seqOf_lst, R.of_some, R.stmt_ok, e1, seq_nx, e2, foldl_addI]
  simp [zpS, O.fo, pairsI]
end Lq

namespace Lq
open PySem PySem.Spec PyProof.Rows L2
/-! ### the table that the law makes -/
def oneW (n i : Nat) : List Int := (List.range n).map fun k => if k < i then 1 else 0
theorem one_wt : ∀ n, n < 6 → ∀ i, i < n + 1 → wtW (oneW n i) = i := by decide +kernel
theorem one_ok {p : Int} {n i : Nat} (hp : 1 < p) (hn : n ≤ 1000) : ok1 p n (oneW n i) := by
  refine ⟨okW_iff.mpr ⟨by simpa [oneW] using hn, fun x hx => ?_⟩, by simp [oneW]⟩
  obtain ⟨k, _, rfl⟩ := List.mem_map.mp hx
  split <;> omega
def qS (p : Int) (n : Nat) (W : List (List Int)) (i : Nat) (x : List Int) (L : List Mo) (cs : List Int) (x7 x8 x9 x10 : Sv) : Ms := { sl := [.im (.int p), .im (.int (n : Int)), .im (.lst (W.map Wd)), .mu 0, .im (.int (i : Int)), .im (Wd x), .mu L.length, x7, x8, x9, x10], mo := L ++ [.ob (.ls (cs.map Dt.int))] }
def qD : Ms → R (List Dt) := lcE (itR1 (aCons (varE 1) aNil)) (Tk.nm 10).k yesT (op2 (op2 (varE 5) (varE 10) ixO) (op2 (varE 7) (varE 10) ixO) mulO) [10]
theorem qD_run {p : Int} {n i : Nat} {W : List (List Int)} {L : List Mo} {cs x y : List Int} {x8 x9 x10 : Sv} (hp : okP p = true) (hn : n ≤ 1000) (hx : ok1 p n x) (hy : ok1 p n y) : qD (qS p n W i x L cs (.im (Wd y)) x8 x9 x10) = .ok (((List.range n).map fun k => x.getD k 0 * y.getD k 0).map Dt.int) (qS p n W i x L cs (.im (Wd y)) x8 x9 x10) := by
  have e := lcE_map (it := itR1 (aCons (varE 1) aNil)) (k := (Tk.nm 10).k) (e := op2 (op2 (varE 5) (varE 10) ixO) (op2 (varE 7) (varE 10) ixO) mulO) (own := [10]) (S := qS p n W i x L cs (.im (Wd y)) x8 x9 x10) (S1 := qS p n W i x L cs (.im (Wd y)) x8 x9 x10) (fun k : Nat => Dt.int (k : Int)) (fun k => Dt.int (x.getD k 0 * y.getD k 0)) (List.range n) (itR1_run (by simp [qS]) (by omega)) (fun k hk => ?_) (fun d T T' => Tk.mo) (by simp; omega)
  · unfold qD
    rw [e, List.map_map]; rfl
  · have hk' := List.mem_range.mp hk
    have e1 := wd_at hx.2 hk'
    have e2 := wd_at hy.2 hk'
    have hz := g_lt hx hk'
    have hp2 := (okP_iff.mp hp).2
    have hc : CMul (x.getD k 0) (y.getD k 0) := by
      have e1 : (1000 : Int) < 2 ^ 64 := by decide
      have e2 : -(2 : Int) ^ 64 < 0 := by decide
      unfold g at hz
      exact .inl ⟨by omega, by omega⟩
    clear hz
    refine ⟨_, kNm _ _ _, qS p n W i x L cs (.im (Wd y)) x8 x9 (.im (.int (k : Int))), ?_, rfl⟩
    generalize x.getD k 0 = a at *
    generalize y.getD k 0 = b at *
    simp [qS, wipeL, e1, e2, hc]
def updC (p : Int) (n : Nat) (x cs y : List Int) : List Int := cs.set (wtW y) (cs.getD (wtW y) 0 + (if dotN n x y % p = 0 then 1 else 0) - if dotN n x y % p = 1 then 1 else 0)
theorem updC_len (p : Int) (n : Nat) (x cs y : List Int) : (updC p n x cs y).length = cs.length := by simp [updC]
theorem fold_upd {p : Int} {n : Nat} {x : List Int} : ∀ (ys : List (List Int)) (cs : List Int), (∀ y ∈ ys, wtW y < cs.length) → (ys.foldl (updC p n x) cs).length = cs.length ∧ ∀ j, j < cs.length → (ys.foldl (updC p n x) cs).getD j 0 = cs.getD j 0 + sI ys fun y => if wtW y = j then chi p (dotN n x y) else 0
  | [], cs, _ => ⟨rfl, fun i _ => by rw [sI_nil]; simp⟩
  | y :: ys, cs, h => by
    obtain ⟨h1, h2⟩ := fold_upd (p := p) (n := n) (x := x) ys (updC p n x cs y) fun z hz => by rw [updC_len]; exact h z (List.mem_cons_of_mem _ hz)
    rw [updC_len] at h1 h2
    rw [List.foldl_cons]
    refine ⟨h1, fun j hj => ?_⟩
    rw [h2 j hj, sI_cons]
    have : (updC p n x cs y).getD j 0 = cs.getD j 0 + if wtW y = j then chi p (dotN n x y) else 0 := by
      unfold updC
      rw [List.getD_eq_getElem?_getD, List.getElem?_set]
      by_cases q : wtW y = j
      · rw [if_pos q, if_pos (by omega), if_pos q, q]
        unfold chi
        show (_ : Int) = _
        simp only [Option.getD_some]
        omega
      · rw [if_neg q, if_neg q, List.getD_eq_getElem?_getD]; omega
    rw [this]
    omega
noncomputable def qU : Ms → O := (seqS (asgS 8 (op2 (calE (aCons (frz qD) aNil) sumO) (varE 0) modO))
  (setS 6 (op2 (op2 (ixV 6 (funE 1 (aCons (varE 7) aNil) Fweight)) (calE (aCons (op2 (varE 8) (cE (.int 0)) eqO) aNil) intO) addO) (calE (aCons (op2 (varE 8) (cE (.int 1)) eqO) aNil) intO) subO) (funE 1 (aCons (varE 7) aNil) Fweight)))
theorem qU_run {p : Int} {n i : Nat} {W : List (List Int)} {L : List Mo} {cs x y : List Int} {x8 : Sv} (hp : okP p = true) (hn : n ≤ 900) (hx : ok1 p n x) (hy : ok1 p n y) (hc : cs.length = n + 1) : ∃ y8, qU (qS p n W i x L cs (.im (Wd y)) x8 .no .no) = .nx (qS p n W i x L (updC p n x cs y) (.im (Wd y)) y8 .no .no) := by
  have hp1 := (okP_iff.mp hp).1
  have hd := qD_run (W := W) (i := i) (L := L) (cs := cs) (x8 := x8) (x9 := .no) (x10 := .no) hp (by omega) hx hy
  have hs : sumO [.lst (((List.range n).map fun k => x.getD k 0 * y.getD k 0).map Dt.int)] = some (.int (dotN n x y)) := sumO_ints _
  have e1 : asgS 8 (op2 (calE (aCons (frz qD) aNil) sumO) (varE 0) modO) (qS p n W i x L cs (.im (Wd y)) x8 .no .no) = .nx (qS p n W i x L cs (.im (Wd y)) (.im (.int (dotN n x y % p))) .no .no) := by
    rw [asgS_run', op2_run, calE_run, aCons_run, frz_run', hd]
    simp only [R.bind_ok, aNil_run, hs, R.of_some]
    generalize dotN n x y = z
    simp [qS, hp1]
  refine ⟨.im (.int (dotN n x y % p)), ?_⟩
  have hw : wtW y < cs.length := by have := ok_wt hy; omega
  have hf := Fweight_run (v := y) (by rw [hy.2]; omega)
  have hat := ix_ints hw
  have hix := ixN_ok hw
  unfold qU
  rw [seqS_run, e1, seq_nx]
  unfold updC
  generalize dotN n x y % p = c at *
  generalize cs.getD (wtW y) 0 = z at *
  have b0 : ∀ a b : Int, intO [.bl (decide (a = b))] = some (.int (if a = b then 1 else 0)) := fun a b => by
    unfold intO
    by_cases q : a = b <;> simp [q]
  simp [qS, setS, ixV, muAt, hf, hat, hix, b0, List.map_set]
def krow (p : Int) (n i : Nat) : List Int := (List.range (n + 1)).map fun j : Nat => krawI p (n : Int) (j : Int) (i : Int)
theorem krow_eq {p : Int} {n i : Nat} (hs : shape p n) (hi : i < n + 1) : (allN p n).foldl (updC p n (oneW n i)) (List.replicate (n + 1) 0) = krow p n i := by
  obtain ⟨hp, hn⟩ := shape_isP hs
  have hp2 : 1 < p := by have : p = 2 ∨ p = 3 ∨ p = 5 ∨ p = 7 := of_decide_eq_true hp; omega
  obtain ⟨h1, h2⟩ := fold_upd (p := p) (n := n) (x := oneW n i) (allN p n) (List.replicate (n + 1) 0) fun y hy => by have := ok_wt ((allN_ok (by omega)).mp hy); simp; omega
  rw [List.length_replicate] at h1 h2
  refine list_getD_ext (by rw [h1]; simp [krow]) fun j hj => ?_
  rw [h1] at hj
  rw [h2 j hj, ← kraw_chi hs ((allN_ok (by omega)).mpr (one_ok hp2 (by omega))) hj, one_wt n (by omega) i hi, List.getD_eq_getElem?_getD, List.getElem?_replicate, if_pos hj]
  unfold krow
  rw [List.getD_eq_getElem?_getD, List.getElem?_map, List.getElem?_range hj]
  simp
noncomputable def qT : Ms → O := (seqS (asgS 5 (calE (aCons (frz (lcE (itR1 (aCons (varE 1) aNil)) (Tk.nm 10).k yesT (calE (aCons (op2 (varE 10) (varE 4) ltO) aNil) intO) [10])) aNil) tupO))
  (seqS (asgN 6 (lcE (itR1 (aCons (op2 (varE 1) (cE (.int 1)) addO) aNil)) (Tk.nm 9).k yesT (cE (.int 0)) [9]))
  (seqS (forS (itS (varE 2)) (Tk.nm 7).k qU)
  (appS 3 (varE 6)))))
def q0 (p : Int) (n : Nat) (tb : List Dt) (x4 x5 x6 x7 x8 : Sv) (M : List Mo) : Ms := { sl := [.im (.int p), .im (.int (n : Int)), .im (.lst ((allN p n).map Wd)), .mu 0, x4, x5, x6, x7, x8, .no, .no], mo := .ob (.ls tb) :: M }
theorem qT_run {p : Int} {n i : Nat} {tb : List Dt} {M : List Mo} {x5 x6 x7 x8 : Sv} (hs : shape p n) (hi : i < n + 1) (hl : tb.length ≤ 1000) : ∃ y5 y6 y7 y8 M', qT (q0 p n tb (.im (.int (i : Int))) x5 x6 x7 x8 M) = .nx (q0 p n (tb ++ [.lst ((krow p n i).map Dt.int)]) (.im (.int (i : Int))) y5 y6 y7 y8 M') := by
  obtain ⟨hp, hn⟩ := shape_isP hs
  have hp' := isP_okP hp
  have hp2 : 1 < p := by have : p = 2 ∨ p = 3 ∨ p = 5 ∨ p = 7 := of_decide_eq_true hp; omega
  have k1 : lcE (itR1 (aCons (varE 1) aNil)) (Tk.nm 10).k yesT (calE (aCons (op2 (varE 10) (varE 4) ltO) aNil) intO) [10] (q0 p n tb (.im (.int (i : Int))) x5 x6 x7 x8 M) = .ok ((oneW n i).map Dt.int) (q0 p n tb (.im (.int (i : Int))) x5 x6 x7 x8 M) := by
    have e := lcE_map (it := itR1 (aCons (varE 1) aNil)) (k := (Tk.nm 10).k) (e := calE (aCons (op2 (varE 10) (varE 4) ltO) aNil) intO) (own := [10]) (S := q0 p n tb (.im (.int (i : Int))) x5 x6 x7 x8 M) (S1 := q0 p n tb (.im (.int (i : Int))) x5 x6 x7 x8 M) (fun k : Nat => Dt.int (k : Int)) (fun k => Dt.int (if k < i then 1 else 0)) (List.range n) (itR1_run (by simp [q0]) (by omega)) (fun k hk => ?_) (fun d T T' => Tk.mo) (by simp; omega)
    · rw [e]; unfold oneW; rw [List.map_map]; rfl
    · have b0 : intO [.bl (decide ((k : Int) < (i : Int)))] = some (.int (if k < i then 1 else 0)) := by
        unfold intO
        by_cases q : k < i
        · have : (k : Int) < (i : Int) := by omega
          simp [q, this]
        · have : ¬ (k : Int) < (i : Int) := by omega
          simp [q, this]
      refine ⟨_, kNm _ _ _, { sl := ((wipeL (q0 p n tb (.im (.int (i : Int))) x5 x6 x7 x8 M).sl [10]).set 10 (.im (.int (k : Int)))), mo := .ob (.ls tb) :: M }, ?_, rfl⟩
      rw [calE_run, aCons_run, op2_run, varE_im (d := .int (k : Int)) (by rfl), R.bind_ok, varE_im (d := .int (i : Int)) (by rfl), R.bind_ok, show ltO (.int (k : Int)) (.int (i : Int)) = some (.bl (decide ((k : Int) < (i : Int)))) from rfl, R.of_some, R.bind_ok, aNil_run, R.bind_ok, R.bind_ok, b0, R.of_some]
      rfl
  have e1 : asgS 5 (calE (aCons (frz (lcE (itR1 (aCons (varE 1) aNil)) (Tk.nm 10).k yesT (calE (aCons (op2 (varE 10) (varE 4) ltO) aNil) intO) [10])) aNil) tupO) (q0 p n tb (.im (.int (i : Int))) x5 x6 x7 x8 M) = .nx (q0 p n tb (.im (.int (i : Int))) (.im (Wd (oneW n i))) x6 x7 x8 M) := by
    rw [asgS_run', calE_run, aCons_run, frz_run', k1]
    simp [q0, Wd]
  have k2 : lcE (itR1 (aCons (op2 (varE 1) (cE (.int 1)) addO) aNil)) (Tk.nm 9).k yesT (cE (.int 0)) [9] (q0 p n tb (.im (.int (i : Int))) (.im (Wd (oneW n i))) x6 x7 x8 M) = .ok ((List.replicate (n + 1) (0 : Int)).map Dt.int) (q0 p n tb (.im (.int (i : Int))) (.im (Wd (oneW n i))) x6 x7 x8 M) := by
    have e := lcE_map (it := itR1 (aCons (op2 (varE 1) (cE (.int 1)) addO) aNil)) (k := (Tk.nm 9).k) (e := cE (.int 0)) (own := [9]) (S := q0 p n tb (.im (.int (i : Int))) (.im (Wd (oneW n i))) x6 x7 x8 M) (S1 := q0 p n tb (.im (.int (i : Int))) (.im (Wd (oneW n i))) x6 x7 x8 M) (fun k : Nat => Dt.int (k : Int)) (fun _ => Dt.int 0) (List.range (n + 1)) (itR1_run (by simp [q0]) (by omega)) (fun k hk => ⟨_, kNm _ _ _, _, rfl, rfl⟩) (fun d T T' => Tk.mo) (by simp; omega)
    rw [e, List.map_const', List.length_range, List.map_replicate]
  have e2 : asgN 6 (lcE (itR1 (aCons (op2 (varE 1) (cE (.int 1)) addO) aNil)) (Tk.nm 9).k yesT (cE (.int 0)) [9]) (q0 p n tb (.im (.int (i : Int))) (.im (Wd (oneW n i))) x6 x7 x8 M) = .nx (qS p n (allN p n) i (oneW n i) (.ob (.ls tb) :: M) (List.replicate (n + 1) 0) x7 x8 .no .no) := by
    rw [asgN_run', k2]
    rfl
  obtain ⟨S', f1, f2, y7, y8, f3⟩ := forL_fold (k := (Tk.nm 7).k) (body := qU) Wd (fun _ (cs : List Int) S => cs.length = n + 1 ∧ ∃ x7 x8, S = qS p n (allN p n) i (oneW n i) (.ob (.ls tb) :: M) cs x7 x8 .no .no) (updC p n (oneW n i)) (allN p n) 0 (List.replicate (n + 1) 0) (qS p n (allN p n) i (oneW n i) (.ob (.ls tb) :: M) (List.replicate (n + 1) 0) x7 x8 .no .no) ⟨by simp, x7, x8, rfl⟩ (fun j cs y S hy _ hI => by
    obtain ⟨hc, x7, x8, rfl⟩ := hI
    obtain ⟨y8, e⟩ := qU_run (W := allN p n) (i := i) (L := .ob (.ls tb) :: M) (x8 := x8) hp' (by omega) (one_ok (i := i) hp2 (by omega)) ((allN_ok (by omega)).mp hy) hc
    exact ⟨qS p n (allN p n) i (oneW n i) (.ob (.ls tb) :: M) cs (.im (Wd y)) x8 .no .no, _, kNm _ _ _, .inl e, by rw [updC_len]; exact hc, _, _, rfl⟩)
  rw [krow_eq hs hi] at f3
  have e3 : forS (itS (varE 2)) (Tk.nm 7).k qU (qS p n (allN p n) i (oneW n i) (.ob (.ls tb) :: M) (List.replicate (n + 1) 0) x7 x8 .no .no) = .nx (qS p n (allN p n) i (oneW n i) (.ob (.ls tb) :: M) (krow p n i) y7 y8 .no .no) := by
    rw [forS_run, itS_run, varE_im (d := .lst ((allN p n).map Wd)) (by rfl), R.bind_ok, seqOf_lst, R.of_some, R.stmt_ok, f1, f3]
  refine ⟨.im (Wd (oneW n i)), .mu (M.length + 1), y7, y8, M ++ [.fz (.lst ((krow p n i).map Dt.int))], ?_⟩
  unfold qT
  rw [seqS_run, e1, seq_nx, seqS_run, e2, seq_nx, seqS_run, e3, seq_nx, appS_run, muAt_run (k := 0) (xs := tb) rfl rfl]
  dsimp only
  rw [varE_mu (k := M.length + 1) (xs := (krow p n i).map Dt.int) rfl (by
    show ((Mo.ob (.ls tb) :: M) ++ [_])[(Mo.ob (.ls tb) :: M).length]? = _
    exact get_last)]
  rw [R.stmt_ok, muAt_run (k := 0) (xs := tb) rfl (by
    show (((Mo.ob (.ls tb) :: M) ++ [_]).set (Mo.ob (.ls tb) :: M).length _)[0]? = _
    rw [set_last]; rfl)]
  dsimp only
  rw [if_pos (by omega)]
  have : ((Mo.ob (.ls tb) :: M) ++ [Mo.ob (.ls ((krow p n i).map Dt.int))]).set (M.length + 1) (.fz (.lst ((krow p n i).map Dt.int))) = (Mo.ob (.ls tb) :: M) ++ [.fz (.lst ((krow p n i).map Dt.int))] := set_last (M := .ob (.ls tb) :: M)
  simp only [qS, this]
  rfl
theorem Fturn_run {p : Int} {n : Nat} (hs : shape p n) : Fturn [.int p, .int (n : Int)] = .ok (.lst ((List.range (n + 1)).map fun i => Dt.lst ((krow p n i).map Dt.int))) := by
  obtain ⟨h1, h2, h3, h4⟩ := shape_p hs
  have hf : Fall15 [.int p, .int (n : Int)] = .ok (.lst ((allN p n).map Wd)) := Fall_run h1 (by omega) (by omega)
  have hm : m16_law_turning = seqS (asgS 2 (funE 2 (aCons (varE 0) (aCons (varE 1) aNil)) Fall15)) (seqS (asgN 3 (lstE aNil)) (seqS (forS (itR1 (aCons (op2 (varE 1) (cE (.int 1)) addO) aNil)) (Tk.nm 4).k qT) (retS (varE 3)))) := rfl
  have e0 : ∀ m : Ms → O, seqS (asgS 2 (funE 2 (aCons (varE 0) (aCons (varE 1) aNil)) Fall15)) (seqS (asgN 3 (lstE aNil)) m) (st0 11 [.int p, .int (n : Int)]) = m (q0 p n [] .no .no .no .no .no []) := fun m => by
    simp [st0, hf, lstE_nil, q0]
  have hit : itR1 (aCons (op2 (varE 1) (cE (.int 1)) addO) aNil) (q0 p n [] .no .no .no .no .no []) = .ok ((List.range (n + 1)).map fun (i : Nat) => Dt.int (i : Int)) (q0 p n [] .no .no .no .no .no []) := itR1_run (by simp [q0]) (by omega)
  obtain ⟨S', f1, f2⟩ := forL_inv (k := (Tk.nm 4).k) (body := qT) ((List.range (n + 1)).map fun (i : Nat) => Dt.int (i : Int)) (fun i S => i ≤ n + 1 ∧ ∃ x4 x5 x6 x7 x8 M, S = q0 p n ((List.range i).map fun i => Dt.lst ((krow p n i).map Dt.int)) x4 x5 x6 x7 x8 M) (q0 p n [] .no .no .no .no .no []) ⟨Nat.zero_le _, _, _, _, _, _, _, rfl⟩ (fun i d S hd hI => by
    obtain ⟨hi, x4, x5, x6, x7, x8, M, rfl⟩ := hI
    have hin : i < n + 1 := by
      have := (List.getElem?_eq_some_iff.mp hd).1
      simpa using this
    have hdj : d = .int (i : Int) := by
      rw [List.getElem?_map, List.getElem?_range hin] at hd
      exact (Option.some.inj hd).symm
    subst hdj
    obtain ⟨y5, y6, y7, y8, M', e⟩ := qT_run (tb := (List.range i).map fun i => Dt.lst ((krow p n i).map Dt.int)) (M := M) (x5 := x5) (x6 := x6) (x7 := x7) (x8 := x8) hs hin (by simp; omega)
    refine ⟨_, _, kNm _ _ _, .inl e, hin, .im (.int (i : Int)), y5, y6, y7, y8, M', ?_⟩
    rw [List.range_succ, List.map_append]
    rfl)
  obtain ⟨_, x4, x5, x6, x7, x8, M, hS⟩ := f2
  rw [List.length_map, List.length_range] at hS
  unfold Fturn runD
  rw [hm, e0, seqS_run, forS_run, hit, R.stmt_ok, f1, seq_nx, hS, retS_run, varE_mu (k := 0) rfl rfl]
  rfl

/-! ### what is due for changed numbers -/
theorem forL_acc {α : Type} {k : Dt → Ms → Option Ms} {body : Ms → O} (enc : α → Dt) (bad : α → Bool) (res : Dt) (q : α → Int) (St : List Int → Ms → Prop) : ∀ (xs : List α) (acc : List Int) (S : Ms), St acc S →
    (∀ x ∈ xs, ∀ acc S, St acc S → acc.length ≤ 1000 → ∃ S1, k (enc x) S = some S1 ∧ (bad x = true → ∃ S2, body S1 = .rt res S2) ∧ (bad x = false → ∃ S2, body S1 = .nx S2 ∧ St (acc ++ [q x]) S2)) → acc.length + xs.length ≤ 1000 →
    if xs.any bad = true then ∃ S', forL k body (xs.map enc) S = .rt res S' else ∃ S', forL k body (xs.map enc) S = .nx S' ∧ St (acc ++ xs.map q) S'
  | [], acc, S, hS, _, _ => by
    rw [if_neg (by simp)]
    exact ⟨S, rfl, by simpa using hS⟩
  | x :: xs, acc, S, hS, h, hl => by
    have hl' : acc.length + (xs.length + 1) ≤ 1000 := hl
    obtain ⟨S1, h1, h2, h3⟩ := h x List.mem_cons_self acc S hS (by omega)
    rw [List.map_cons]
    unfold forL
    rw [h1]
    dsimp only
    rw [List.any_cons]
    cases hb : bad x with
    | true =>
      obtain ⟨S2, e⟩ := h2 hb
      rw [e, Bool.true_or, if_pos rfl]
      exact ⟨S2, rfl⟩
    | false =>
      obtain ⟨S2, e, hS2⟩ := h3 hb
      rw [e, Bool.false_or]
      have := forL_acc enc bad res q St xs (acc ++ [q x]) S2 hS2 (fun z hz => h z (List.mem_cons_of_mem _ hz)) (by simp; omega)
      simpa using this
def kTab (p : Int) (n : Nat) : List Dt := (List.range (n + 1)).map fun i => Dt.lst ((krow p n i).map Dt.int)
def eS (p : Int) (n : Nat) (v acc : List Int) (x5 x6 x7 : Sv) : Ms := { sl := [.im (.int p), .im (.int (n : Int)), .im (Wd v), .im (.lst (kTab p n)), .mu 0, x5, x6, x7], mo := [.ob (.ls (acc.map Dt.int))] }
def eL : Ms → R (List Dt) := lcE (itR1 (aCons (op2 (varE 1) (cE (.int 1)) addO) aNil)) (Tk.nm 7).k yesT (op2 (op2 (varE 2) (varE 7) ixO) (op2 (op2 (varE 3) (varE 7) ixO) (varE 5) ixO) mulO) [7]
theorem eL_run {p : Int} {n j : Nat} {v acc : List Int} {x6 x7 : Sv} (hn : n ≤ 12) (hj : j < n + 1) (hv : smallV v) (hl : v.length = n + 1) : eL (eS p n v acc (.im (.int (j : Int))) x6 x7) = .ok (((List.range (n + 1)).map fun i => v.getD i 0 * krawI p (n : Int) (j : Int) (i : Int)).map Dt.int) (eS p n v acc (.im (.int (j : Int))) x6 x7) := by
  have e := lcE_map (it := itR1 (aCons (op2 (varE 1) (cE (.int 1)) addO) aNil)) (k := (Tk.nm 7).k) (e := op2 (op2 (varE 2) (varE 7) ixO) (op2 (op2 (varE 3) (varE 7) ixO) (varE 5) ixO) mulO) (own := [7]) (S := eS p n v acc (.im (.int (j : Int))) x6 x7) (S1 := eS p n v acc (.im (.int (j : Int))) x6 x7) (fun k : Nat => Dt.int (k : Int)) (fun i => Dt.int (v.getD i 0 * krawI p (n : Int) (j : Int) (i : Int))) (List.range (n + 1)) (itR1_run (by simp [eS]) (by omega)) (fun i hi => ?_) (fun d T T' => Tk.mo) (by simp; omega)
  · unfold eL
    rw [e, List.map_map]; rfl
  · have hi' := List.mem_range.mp hi
    have e1 := wd_at (x := v) (n := n + 1) (k := i) hl hi'
    have e2 : ixO (.lst (kTab p n)) (.int (i : Int)) = some (.lst ((krow p n i).map Dt.int)) := by
      show atI (kTab p n) (i : Int) = _
      unfold kTab
      rw [atI_ofNat, List.getElem?_map, List.getElem?_range hi']
      rfl
    have e3 : ixO (.lst ((krow p n i).map Dt.int)) (.int (j : Int)) = some (.int (krawI p (n : Int) (j : Int) (i : Int))) := by
      show atI ((krow p n i).map Dt.int) (j : Int) = _
      unfold krow
      rw [atI_ofNat, List.getElem?_map, List.getElem?_map, List.getElem?_range hj]
      rfl
    have hs := small_get hv i
    have hc := cmul_small (a := v.getD i 0) (by omega) (by omega)
    clear hs
    refine ⟨_, kNm _ _ _, eS p n v acc (.im (.int (j : Int))) x6 (.im (.int (i : Int))), ?_, rfl⟩
    generalize v.getD i 0 = z at *
    generalize krawI p (n : Int) (j : Int) (i : Int) = z2 at *
    simp [eS, wipeL, e1, e2, e3, hc]
def eB : Ms → O := (seqS (asgS 6 (calE (aCons (frz eL) aNil) sumO))
  (seqS (ifS (tst (op2 (op2 (varE 6) (calE (aCons (varE 2) aNil) sumT) modO) (cE (.int 0)) neO)) (retS (cE (.str "fraction"))) nilS)
  (appS 4 (op2 (varE 6) (calE (aCons (varE 2) aNil) sumT) divO))))
theorem Fdue_run {p : Int} {n : Nat} {v : List Int} (hs : shape p n) (hv : smallV v) (hl : v.length = n + 1) (h0 : 0 < v.sum) (h1 : v.sum < 1000000) : Fdue [.int p, .int (n : Int), Wd v] = .ok (toldV p n v) := by
  obtain ⟨hp, hn⟩ := shape_isP hs
  have hcd : ∀ z, CDiv z v.sum := fun z => ⟨h0, by omega⟩
  have hst : sumT [Wd v] = some (.int v.sum) := sumT_run v
  have hm : m16_law_due = seqS (asgS 3 (funE 2 (aCons (varE 0) (aCons (varE 1) aNil)) Fturn)) (seqS (asgN 4 (lstE aNil)) (seqS (forS (itR1 (aCons (op2 (varE 1) (cE (.int 1)) addO) aNil)) (Tk.nm 5).k eB) (retS (calE (aCons (varE 4) aNil) tupO)))) := rfl
  have hf : Fturn [.int p, .int (n : Int)] = .ok (.lst (kTab p n)) := Fturn_run hs
  have e0 : ∀ m : Ms → O, seqS (asgS 3 (funE 2 (aCons (varE 0) (aCons (varE 1) aNil)) Fturn)) (seqS (asgN 4 (lstE aNil)) m) (st0 8 [.int p, .int (n : Int), Wd v]) = m (eS p n v [] .no .no .no) := fun m => by
    simp [st0, hf, lstE_nil, eS]
  have hit : itR1 (aCons (op2 (varE 1) (cE (.int 1)) addO) aNil) (eS p n v [] .no .no .no) = .ok ((List.range (n + 1)).map fun (i : Nat) => Dt.int (i : Int)) (eS p n v [] .no .no .no) := itR1_run (by simp [eS]) (by omega)
  have body : ∀ (j : Nat), j < n + 1 → ∀ (acc : List Int) (x6 : Sv), acc.length ≤ 1000 → ((!decide (trI p n v j % v.sum = 0)) = true → ∃ S2, eB (eS p n v acc (.im (.int (j : Int))) x6 .no) = .rt (.str "fraction") S2) ∧ ((!decide (trI p n v j % v.sum = 0)) = false → eB (eS p n v acc (.im (.int (j : Int))) x6 .no) = .nx (eS p n v (acc ++ [trI p n v j / v.sum]) (.im (.int (j : Int))) (.im (.int (trI p n v j))) .no)) := fun j hj acc x6 ha => by
    have k1 := eL_run (p := p) (acc := acc) (x6 := x6) (x7 := .no) (by omega : n ≤ 12) hj hv hl
    have hsu : sumO [.lst (((List.range (n + 1)).map fun i => v.getD i 0 * krawI p (n : Int) (j : Int) (i : Int)).map Dt.int)] = some (.int (trI p n v j)) := sumO_ints _
    have e1 : asgS 6 (calE (aCons (frz eL) aNil) sumO) (eS p n v acc (.im (.int (j : Int))) x6 .no) = .nx (eS p n v acc (.im (.int (j : Int))) (.im (.int (trI p n v j))) .no) := by
      rw [asgS_run', calE_run, aCons_run, frz_run', k1]
      simp only [R.bind_ok, aNil_run, hsu, R.of_some]
      rfl
    have hz := hcd (trI p n v j)
    have ha2 : acc.length < 100000 := by omega
    refine ⟨fun hb => ?_, fun hb => ?_⟩
    · unfold eB
      rw [seqS_run, e1, seq_nx]
      generalize trI p n v j = t at *
      generalize v.sum = z at *
      have hb' : ¬ t % z = 0 := by simpa using hb
      exact ⟨eS p n v acc (.im (.int (j : Int))) (.im (.int t)) .no, by simp [eS, hst, h0, hb']⟩
    · unfold eB
      rw [seqS_run, e1, seq_nx]
      generalize trI p n v j = t at *
      generalize v.sum = z at *
      have hb' : t % z = 0 := by simpa using hb
      simp [eS, hst, h0, hb', muAt, hz, ha2]
  have key := forL_acc (k := (Tk.nm 5).k) (body := eB) (fun j : Nat => Dt.int (j : Int)) (fun j => !decide (trI p n v j % v.sum = 0)) (.str "fraction") (fun j => trI p n v j / v.sum) (fun acc S => ∃ x5 x6, S = eS p n v acc x5 x6 .no) (List.range (n + 1)) [] (eS p n v [] .no .no .no) ⟨.no, .no, rfl⟩ (fun j hj acc S hS ha => by
    obtain ⟨x5, x6, rfl⟩ := hS
    obtain ⟨b1, b2⟩ := body j (List.mem_range.mp hj) acc x6 ha
    exact ⟨eS p n v acc (.im (.int (j : Int))) x6 .no, kNm _ _ _, b1, fun hb => ⟨_, b2 hb, _, _, rfl⟩⟩) (by simp; omega)
  have hany : ((macL p n v).any fun x => !decide (x % v.sum = 0)) = (List.range (n + 1)).any fun j => !decide (trI p n v j % v.sum = 0) := by unfold macL; rw [List.any_map]; rfl
  unfold Fdue runD toldV
  rw [hm, e0, hany]
  by_cases q : ((List.range (n + 1)).any fun j => !decide (trI p n v j % v.sum = 0)) = true
  · rw [if_pos q] at key
    rw [if_pos q]
    obtain ⟨S', e⟩ := key
    rw [seqS_run, forS_run, hit, R.stmt_ok, e]
    rfl
  · rw [if_neg q] at key
    rw [if_neg q]
    obtain ⟨S', e, x5, x6, rfl⟩ := key
    rw [seqS_run, forS_run, hit, R.stmt_ok, e, seq_nx]
    simp [eS, O.fo, Wd, macL]
end Lq

namespace Lq
open PySem PySem.Spec PyProof.Rows L2
def LZ (ss ns : List Int) (a2 a3 a4 a5 a6 a7 a8 a9 a10 a11 a12 a13 a14 a15 : Sv) : Ms := { sl := [.im (scrD ss), .mu 0, a2, a3, a4, a5, a6, a7, a8, a9, a10, a11, a12, a13, a14, a15], mo := [.ob (.ls (ns.map Dt.int))] }
/-! ### what counts are like -/
theorem sI_01 {α : Type} (l : List α) (h : α → Int) (hh : ∀ x, h x = 0 ∨ h x = 1) : 0 ≤ sI l h ∧ sI l h ≤ (l.length : Int) := by
  induction l with
  | nil => exact ⟨by simp [sI], by simp [sI]⟩
  | cons x l ih =>
    rw [sI_cons, List.length_cons]
    rcases hh x with e | e <;> omega
theorem cnt_small {n : Nat} {ws : List (List Int)} (hl : ws.length ≤ 900) : ∀ x ∈ cntW n ws, 0 ≤ x ∧ x ≤ (ws.length : Int) := fun x hx => by
  obtain ⟨i, _, rfl⟩ := List.mem_map.mp hx
  exact sI_01 ws _ fun w => by split <;> simp
theorem sub_len {p : Int} {n : Nat} {W : List (List Int)} (hs : shape p n) (h : Sub p n W) : 1 ≤ W.length ∧ W.length ≤ 125 := by
  obtain ⟨h1, h2, h3, h4⟩ := shape_p hs
  refine ⟨List.length_pos_of_mem h.zero, ?_⟩
  have := List.Nodup.length_le_of_subset h.nd (fun w hw => (allN_ok (by omega)).mpr (h.ok w hw) : W ⊆ allN p n)
  rw [allN_len] at this
  omega
theorem told_W {p : Int} {n : Nat} {v u : List Int} {c : Int} (hs : v.sum = c) (hc : 0 < c) (hu : u.length = n + 1) (h : ∀ j, j < n + 1 → trI p n v j = c * u.getD j 0) : toldV p n v = Wd u := by
  have hm : macL p n v = u.map fun x => c * x := by
    refine list_getD_ext (by simp [macL, hu]) fun j hj => ?_
    have hj' : j < n + 1 := by simpa [macL] using hj
    have e1 : (macL p n v).getD j 0 = trI p n v j := by
      unfold macL
      rw [List.getD_eq_getElem?_getD, List.getElem?_map, List.getElem?_range hj']
      rfl
    rw [e1, h j hj', List.getD_eq_getElem?_getD, List.getD_eq_getElem?_getD, List.getElem?_map, List.getElem?_eq_getElem (by omega)]
    rfl
  unfold toldV
  rw [if_neg, hm, hs, List.map_map]
  · congr 1
    refine (List.map_congr_left fun x _ => ?_).trans (List.map_id _)
    show c * x / c = x
    exact Int.mul_ediv_cancel_left x (by omega)
  · rw [hm, hs]
    intro z
    obtain ⟨x, hx, hx2⟩ := List.any_eq_true.mp z
    obtain ⟨y, _, rfl⟩ := List.mem_map.mp hx
    simp at hx2
theorem small_sum : ∀ v : List Int, smallV v → 0 ≤ v.sum ∧ v.sum ≤ 1000 * (v.length : Int)
  | [], _ => by simp
  | x :: v, h => by
    have h1 := h x List.mem_cons_self
    have h2 := small_sum v fun y hy => h y (List.mem_cons_of_mem _ hy)
    rw [List.sum_cons, List.length_cons]
    omega
theorem sum_mem {v : List Int} (hv : smallV v) {x : Int} (hx : x ∈ v) : x ≤ v.sum := by
  induction v with
  | nil => cases hx
  | cons y v ih =>
    have h1 := hv y List.mem_cons_self
    have hv2 : smallV v := fun z hz => hv z (List.mem_cons_of_mem _ hz)
    have h2 := small_sum v hv2
    rw [List.sum_cons]
    rcases List.mem_cons.mp hx with rfl | hx
    · omega
    · have := ih hv2 hx; omega
theorem neO_wd (a b : List Int) : neO (Wd a) (Wd b) = some (.bl (!decide (a = b))) := neO_en a b
theorem neO_told (p : Int) (n : Nat) (v : List Int) : neO (toldV p n v) (toldV p n v) = some (.bl false) := by
  unfold toldV
  split
  · rw [neO_str (by decide +kernel) (by decide +kernel)]
    simp
  · rw [neO_wd]
    simp
theorem neO_mal : neO (.str "malformed") (.str "malformed") = some (.bl false) := by
  rw [neO_str (by decide +kernel) (by decide +kernel)]
  simp
theorem cut_pre {α : Type} {xs : List α} {a : Nat} (h : a ≤ xs.length) : cut xs none (some (a : Int)) = xs.take a := by
  unfold cut
  rw [show HT.sIx xs.length xs.length (some (a : Int)) = min a xs.length from HT.sIx_nat _ _ a, HT.sIx_none, Nat.min_eq_left h]
  simp
theorem cut_suf {α : Type} {xs : List α} {a : Nat} (h : a ≤ xs.length) : cut xs (some (a : Int)) none = xs.drop a := by
  unfold cut
  rw [show HT.sIx xs.length 0 (some (a : Int)) = min a xs.length from HT.sIx_nat _ _ a, HT.sIx_none, Nat.min_eq_left h]
  exact List.take_of_length_le (by simp)

theorem k16_0 {ss : List Int} (h : ss.length ≤ 63) : ∃ ns, okN ns ∧ (asgN 1 (funN 1 (aCons (varE 0) aNil) Fnumbers)) (st0 16 [scrD ss]) = .nx (LZ ss ns .no .no .no .no .no .no .no .no .no .no .no .no .no .no) := by
  obtain ⟨xs, h1, h2⟩ := Fnumbers_run h
  refine ⟨xs, h1, ?_⟩
  have hst : st0 16 [scrD ss] = { sl := [.im (scrD ss), .no, .no, .no, .no, .no, .no, .no, .no, .no, .no, .no, .no, .no, .no, .no], mo := [] } := rfl
  rw [hst]
  simp [funN, h2, LZ]
theorem k16_1 {ss ns : List Int} (h : okN ns) : ∃ p n ns', okN ns' ∧ shape p n ∧ (asgT (Tk.tp [13, 14]) (funM 0 1 aNil Fshape)) (LZ ss ns .no .no .no .no .no .no .no .no .no .no .no .no .no .no) = .nx (LZ ss ns' .no .no .no .no .no .no .no .no .no .no .no (.im (.int p)) (.im (.int (n : Int))) .no) := by
  obtain ⟨p, n, ns', h1, h2, h3⟩ := Fshape_run h
  refine ⟨p, n, ns', h1, h2, ?_⟩
  simp [LZ, funM, muAt, h3, kNames]
theorem k16_2 {ss ns : List Int} {p : Int} {n : Nat} (hs : shape p n) (h : okN ns) : ∃ W ns', okN ns' ∧ Sub p n W ∧ (asgS 2 (funE 3 (aCons (varE 13) (aCons (varE 14) (aCons (funM 3 1 (aCons (varE 13) (aCons (varE 14) (aCons (cE (.int 3)) aNil))) Frows16) aNil))) Fwords16)) (LZ ss ns .no .no .no .no .no .no .no .no .no .no .no (.im (.int p)) (.im (.int (n : Int))) .no) = .nx (LZ ss ns' (.im (.lst (W.map Wd))) .no .no .no .no .no .no .no .no .no .no (.im (.int p)) (.im (.int (n : Int))) .no) := by
  obtain ⟨h1, h2, h3, h4⟩ := shape_p hs
  obtain ⟨rows, q, o1, o2, o3, o4⟩ := Frows16_run (n := n) h1 (by omega) h
  have hl : p.toNat ^ rows.length ≤ 100000 := by
    have : p.toNat ^ rows.length ≤ 5 ^ 3 := Nat.le_trans (Nat.pow_le_pow_left (by omega) _) (Nat.pow_le_pow_right (by decide) o2)
    omega
  have hw := Fwords16_run h1 (by omega : n ≤ 1000) hl o3
  refine ⟨sortW (spanL p n rows), q, o1, Sub_words h1 (by omega) o3, ?_⟩
  simp [LZ, funM, muAt, o4, hw]
theorem k16_3 {ss ns : List Int} {p : Int} {n : Nat} {W : List (List Int)} (hs : shape p n) (h : Sub p n W) : (asgS 3 (funE 3 (aCons (varE 13) (aCons (varE 14) (aCons (varE 2) aNil))) Fdual)) (LZ ss ns (.im (.lst (W.map Wd))) .no .no .no .no .no .no .no .no .no .no (.im (.int p)) (.im (.int (n : Int))) .no) = .nx (LZ ss ns (.im (.lst (W.map Wd))) (.im (.lst ((dualL p n W).map Wd))) .no .no .no .no .no .no .no .no .no (.im (.int p)) (.im (.int (n : Int))) .no) := by
  obtain ⟨h1, h2, h3, h4⟩ := shape_p hs
  have hl := sub_len hs h
  have hf := Fdual_run h1 (by omega : n ≤ 100) (by omega) h.ok (by omega)
  simp [LZ, hf]
theorem k16_4 {ss ns : List Int} {p : Int} {n : Nat} {W : List (List Int)} (hs : shape p n) (h : Sub p n W) : (asgS 4 (funE 2 (aCons (varE 2) (aCons (varE 14) aNil)) Fnof)) (LZ ss ns (.im (.lst (W.map Wd))) (.im (.lst ((dualL p n W).map Wd))) .no .no .no .no .no .no .no .no .no (.im (.int p)) (.im (.int (n : Int))) .no) = .nx (LZ ss ns (.im (.lst (W.map Wd))) (.im (.lst ((dualL p n W).map Wd))) (.im (Wd (cntW n W))) .no .no .no .no .no .no .no .no (.im (.int p)) (.im (.int (n : Int))) .no) := by
  obtain ⟨h1, h2, h3, h4⟩ := shape_p hs
  have hf := Fnof_run (n := n) (ws := W) (by omega) fun w hw => ⟨ok_wt (h.ok w hw), by have := (h.ok w hw).2; omega⟩
  simp [LZ, hf]
theorem k16_5 {ss ns : List Int} {p : Int} {n : Nat} {W : List (List Int)} (hs : shape p n) (h : Sub p n (dualL p n W)) : (asgS 5 (funE 2 (aCons (varE 3) (aCons (varE 14) aNil)) Fnof)) (LZ ss ns (.im (.lst (W.map Wd))) (.im (.lst ((dualL p n W).map Wd))) (.im (Wd (cntW n W))) .no .no .no .no .no .no .no .no (.im (.int p)) (.im (.int (n : Int))) .no) = .nx (LZ ss ns (.im (.lst (W.map Wd))) (.im (.lst ((dualL p n W).map Wd))) (.im (Wd (cntW n W))) (.im (Wd (cntW n (dualL p n W)))) .no .no .no .no .no .no .no (.im (.int p)) (.im (.int (n : Int))) .no) := by
  obtain ⟨h1, h2, h3, h4⟩ := shape_p hs
  have hf := Fnof_run (n := n) (ws := dualL p n W) (by omega) fun w hw => ⟨ok_wt (h.ok w hw), by have := (h.ok w hw).2; omega⟩
  simp [LZ, hf]
theorem cnt_sv {p : Int} {n : Nat} {W : List (List Int)} (hs : shape p n) (h : Sub p n W) : smallV (cntW n W) ∧ (cntW n W).length = n + 1 ∧ 0 < (cntW n W).sum ∧ (cntW n W).sum < 1000000 := by
  have hl := sub_len hs h
  have hsum := cnt_whole h
  exact ⟨fun x hx => by have := cnt_small (by omega : W.length ≤ 900) x hx; omega, cntW_len n W, by omega, by omega⟩
theorem k16_6 (CM CR : Addr) {ss ns : List Int} {p : Int} {n : Nat} {W : List (List Int)} (hs : shape p n) (h : Sub p n W) : (ifS (orT (tst (op2 (funE 3 (aCons (varE 13) (aCons (varE 14) (aCons (varE 4) aNil))) (Ftold CM CR)) (varE 5) neO)) (tst (op2 (funE 3 (aCons (varE 13) (aCons (varE 14) (aCons (varE 5) aNil))) (Ftold CM CR)) (varE 4) neO))) (retS (cE (.bl false))) nilS) (LZ ss ns (.im (.lst (W.map Wd))) (.im (.lst ((dualL p n W).map Wd))) (.im (Wd (cntW n W))) (.im (Wd (cntW n (dualL p n W)))) .no .no .no .no .no .no .no (.im (.int p)) (.im (.int (n : Int))) .no) = .nx (LZ ss ns (.im (.lst (W.map Wd))) (.im (.lst ((dualL p n W).map Wd))) (.im (Wd (cntW n W))) (.im (Wd (cntW n (dualL p n W)))) .no .no .no .no .no .no .no (.im (.int p)) (.im (.int (n : Int))) .no) := by
  obtain ⟨h1, h2, h3, h4⟩ := shape_p hs
  obtain ⟨hp, hn⟩ := shape_isP hs
  have hD := Sub_dual h1 (by omega : n ≤ 1000) h.ok
  obtain ⟨a1, a2, a3, a4⟩ := cnt_sv hs h
  obtain ⟨b1, b2, b3, b4⟩ := cnt_sv hs hD
  have hf1 := Ftold_run CM CR (p := p) (n := n) (by omega) (by omega) a1 a2 a3 a4
  have hf2 := Ftold_run CM CR (p := p) (n := n) (by omega) (by omega) b1 b2 b3 b4
  rw [told_W (cnt_whole h) (by have := sub_len hs h; omega) b2 fun j hj => mac_W hs h hj] at hf1
  rw [told_W (cnt_whole hD) (by have := sub_len hs hD; omega) a2 fun j hj => mac_D hs h hj] at hf2
  have n1 := neO_wd (cntW n (dualL p n W)) (cntW n (dualL p n W))
  have n2 := neO_wd (cntW n W) (cntW n W)
  simp [LZ, hf1, hf2, n1, n2]
theorem k16_7 {ss ns : List Int} {p : Int} {n : Nat} {W : List (List Int)} (hn : okN ns) : ∃ s ns', okN ns' ∧ s < n + 1 ∧ (asgS 6 (funM 1 1 (aCons (op2 (varE 14) (cE (.int 1)) addO) aNil) Fnext)) (LZ ss ns (.im (.lst (W.map Wd))) (.im (.lst ((dualL p n W).map Wd))) (.im (Wd (cntW n W))) (.im (Wd (cntW n (dualL p n W)))) .no .no .no .no .no .no .no (.im (.int p)) (.im (.int (n : Int))) .no) = .nx (LZ ss ns' (.im (.lst (W.map Wd))) (.im (.lst ((dualL p n W).map Wd))) (.im (Wd (cntW n W))) (.im (Wd (cntW n (dualL p n W)))) (.im (.int (s : Nat))) .no .no .no .no .no .no (.im (.int p)) (.im (.int (n : Int))) .no) := by
  have ho := next_ok hn (m := (n : Int) + 1) (by omega)
  have hf := Fnext_run (m := (n : Int) + 1) (by omega) hn.1
  generalize nextF ((n : Int) + 1) ns = u at *
  obtain ⟨v, ns'⟩ := u
  dsimp only at ho hf
  obtain ⟨v, rfl⟩ : ∃ k : Nat, v = (k : Int) := ⟨v.toNat, by omega⟩
  refine ⟨v, ns', ho.2, by omega, ?_⟩
  simp [LZ, funM, muAt, hf]
theorem k16_8 {ss ns : List Int} {p : Int} {n : Nat} {W : List (List Int)} {s : Nat} (hs : shape p n) (h : Sub p n W) (hsn : s < n + 1) : (ifS (tst (op2 (funE 2 (aCons (varE 4) (aCons (varE 6) aNil)) Fbmom) (funE 2 (aCons (varE 2) (aCons (funE 2 (aCons (varE 14) (aCons (varE 6) aNil)) Fplaces) aNil)) Fzp) neO)) (retS (cE (.bl false))) nilS) (LZ ss ns (.im (.lst (W.map Wd))) (.im (.lst ((dualL p n W).map Wd))) (.im (Wd (cntW n W))) (.im (Wd (cntW n (dualL p n W)))) (.im (.int (s : Nat))) .no .no .no .no .no .no (.im (.int p)) (.im (.int (n : Int))) .no) = .nx (LZ ss ns (.im (.lst (W.map Wd))) (.im (.lst ((dualL p n W).map Wd))) (.im (Wd (cntW n W))) (.im (Wd (cntW n (dualL p n W)))) (.im (.int (s : Nat))) .no .no .no .no .no .no (.im (.int p)) (.im (.int (n : Int))) .no) := by
  obtain ⟨h1, h2, h3, h4⟩ := shape_p hs
  obtain ⟨a1, a2, a3, a4⟩ := cnt_sv hs h
  have hf := Fbmom_run (n := n) (s := (s : Int)) (by omega) a1 a2
  have hp := Fplaces_run (n := n) (s := s) (by omega)
  have hz := Fzp_run (n := n) (ws := W) (cs := (placesL n).filter fun c => decide (c.length = s)) (by omega) (fun w hw => (h.ok w hw).2) (fun c hc => (places_ok n).2 c (List.mem_filter.mp hc).1)
  rw [← bm_pairs hs h hsn] at hz
  generalize bmI (cntW n W) (s : Int) = z at *
  simp [LZ, hf, hp, hz]
theorem k16_9 {ss ns : List Int} {p : Int} {n : Nat} {W : List (List Int)} {s : Nat} : (asgS 7 (cE (.int 1))) (LZ ss ns (.im (.lst (W.map Wd))) (.im (.lst ((dualL p n W).map Wd))) (.im (Wd (cntW n W))) (.im (Wd (cntW n (dualL p n W)))) (.im (.int (s : Nat))) .no .no .no .no .no .no (.im (.int p)) (.im (.int (n : Int))) .no) = .nx (LZ ss ns (.im (.lst (W.map Wd))) (.im (.lst ((dualL p n W).map Wd))) (.im (Wd (cntW n W))) (.im (Wd (cntW n (dualL p n W)))) (.im (.int (s : Nat))) (.im (.int (p ^ 0))) .no .no .no .no .no (.im (.int p)) (.im (.int (n : Int))) .no) := by
  simp [LZ]
theorem k16_10 {ss ns : List Int} {p : Int} {n : Nat} {W : List (List Int)} {s : Nat} (hs : shape p n) (hsn : s < n + 1) : ∃ x8, (forS (itR1 (aCons (varE 6) aNil)) (Tk.nm 8).k (asgS 7 (op2 (varE 7) (varE 13) mulO))) (LZ ss ns (.im (.lst (W.map Wd))) (.im (.lst ((dualL p n W).map Wd))) (.im (Wd (cntW n W))) (.im (Wd (cntW n (dualL p n W)))) (.im (.int (s : Nat))) (.im (.int (p ^ 0))) .no .no .no .no .no (.im (.int p)) (.im (.int (n : Int))) .no) = .nx (LZ ss ns (.im (.lst (W.map Wd))) (.im (.lst ((dualL p n W).map Wd))) (.im (Wd (cntW n W))) (.im (Wd (cntW n (dualL p n W)))) (.im (.int (s : Nat))) (.im (.int (p ^ s))) x8 .no .no .no .no (.im (.int p)) (.im (.int (n : Int))) .no) := by
  obtain ⟨h1, h2, h3, h4⟩ := shape_p hs
  have hit : itR1 (aCons (varE 6) aNil) (LZ ss ns (.im (.lst (W.map Wd))) (.im (.lst ((dualL p n W).map Wd))) (.im (Wd (cntW n W))) (.im (Wd (cntW n (dualL p n W)))) (.im (.int (s : Nat))) (.im (.int (p ^ 0))) .no .no .no .no .no (.im (.int p)) (.im (.int (n : Int))) .no) = .ok ((List.range s).map fun (i : Nat) => Dt.int (i : Int)) (LZ ss ns (.im (.lst (W.map Wd))) (.im (.lst ((dualL p n W).map Wd))) (.im (Wd (cntW n W))) (.im (Wd (cntW n (dualL p n W)))) (.im (.int (s : Nat))) (.im (.int (p ^ 0))) .no .no .no .no .no (.im (.int p)) (.im (.int (n : Int))) .no) := itR1_run (by simp [LZ]) (by omega)
  obtain ⟨S', f1, f2⟩ := forL_inv (k := (Tk.nm 8).k) (body := asgS 7 (op2 (varE 7) (varE 13) mulO)) ((List.range s).map fun (i : Nat) => Dt.int (i : Int)) (fun i S => ∃ x8, S = (LZ ss ns (.im (.lst (W.map Wd))) (.im (.lst ((dualL p n W).map Wd))) (.im (Wd (cntW n W))) (.im (Wd (cntW n (dualL p n W)))) (.im (.int (s : Nat))) (.im (.int (p ^ i))) x8 .no .no .no .no (.im (.int p)) (.im (.int (n : Int))) .no)) (LZ ss ns (.im (.lst (W.map Wd))) (.im (.lst ((dualL p n W).map Wd))) (.im (Wd (cntW n W))) (.im (Wd (cntW n (dualL p n W)))) (.im (.int (s : Nat))) (.im (.int (p ^ 0))) .no .no .no .no .no (.im (.int p)) (.im (.int (n : Int))) .no) ⟨.no, rfl⟩ (fun i d S hd hI => by
    obtain ⟨x8, rfl⟩ := hI
    have hc : ∀ z, CMul z p := fun z => by
      have e1 : (1000 : Int) < 2 ^ 64 := by decide
      have e2 : -(2 : Int) ^ 64 < 0 := by decide
      exact .inr ⟨by omega, by omega⟩
    refine ⟨(LZ ss ns (.im (.lst (W.map Wd))) (.im (.lst ((dualL p n W).map Wd))) (.im (Wd (cntW n W))) (.im (Wd (cntW n (dualL p n W)))) (.im (.int (s : Nat))) (.im (.int (p ^ i))) (.im d) .no .no .no .no (.im (.int p)) (.im (.int (n : Int))) .no), _, kNm _ _ _, .inl ?_, .im d, rfl⟩
    rw [Int.pow_succ]
    generalize p ^ i = z
    simp [LZ, hc])
  obtain ⟨x8, hS⟩ := f2
  rw [List.length_map, List.length_range] at hS
  refine ⟨x8, ?_⟩
  rw [forS_run, hit, R.stmt_ok, f1, hS]
theorem k16_11 {ss ns : List Int} {p : Int} {n : Nat} {W : List (List Int)} {s : Nat} {a8 : Sv} (hs : shape p n) (h : Sub p n W) (hsn : s < n + 1) : (ifS (tst (op2 (op2 (funE 2 (aCons (varE 4) (aCons (varE 6) aNil)) Fbmom) (varE 7) mulO) (op2 (calE (aCons (varE 2) aNil) lenO) (funE 2 (aCons (varE 5) (aCons (op2 (varE 14) (varE 6) subO) aNil)) Fbmom) mulO) neO)) (retS (cE (.bl false))) nilS) (LZ ss ns (.im (.lst (W.map Wd))) (.im (.lst ((dualL p n W).map Wd))) (.im (Wd (cntW n W))) (.im (Wd (cntW n (dualL p n W)))) (.im (.int (s : Nat))) (.im (.int (p ^ s))) a8 .no .no .no .no (.im (.int p)) (.im (.int (n : Int))) .no) = .nx (LZ ss ns (.im (.lst (W.map Wd))) (.im (.lst ((dualL p n W).map Wd))) (.im (Wd (cntW n W))) (.im (Wd (cntW n (dualL p n W)))) (.im (.int (s : Nat))) (.im (.int (p ^ s))) a8 .no .no .no .no (.im (.int p)) (.im (.int (n : Int))) .no) := by
  obtain ⟨h1, h2, h3, h4⟩ := shape_p hs
  have hD := Sub_dual h1 (by omega : n ≤ 1000) h.ok
  obtain ⟨a1, a2, a3, a4⟩ := cnt_sv hs h
  obtain ⟨b1, b2, b3, b4⟩ := cnt_sv hs hD
  have hf := Fbmom_run (n := n) (s := (s : Int)) (by omega) a1 a2
  have hg := Fbmom_run (n := n) (s := (n : Int) - (s : Int)) (by omega) b1 b2
  have hl := sub_len hs h
  have e := bm_power hs h hsn
  have hc2 : ∀ z, CMul (W.length : Int) z := fun z => cmul_small (by omega) (by omega) z
  have hc1 : ∀ z, CMul z (p ^ s) := fun z => by
    have hb : 0 ≤ p ^ s ∧ p ^ s ≤ 1000000 := by
      obtain ⟨k, rfl⟩ : ∃ k : Nat, p = (k : Int) := ⟨p.toNat, by omega⟩
      have : k ^ s ≤ 5 ^ 5 := Nat.le_trans (Nat.pow_le_pow_left (by omega) _) (Nat.pow_le_pow_right (by decide) (by omega))
      have e2 : ((k : Int) ^ s) = ((k ^ s : Nat) : Int) := by rw [Int.natCast_pow]
      rw [e2]
      omega
    have e1 : (1000000 : Int) < 2 ^ 64 := by decide
    have e2 : -(2 : Int) ^ 64 < 0 := by decide
    exact .inr ⟨by omega, by omega⟩
  generalize bmI (cntW n W) (s : Int) = z1 at *
  generalize bmI (cntW n (dualL p n W)) ((n : Int) - (s : Int)) = z2 at *
  generalize p ^ s = z3 at *
  have hlen : lenO [.lst (W.map Wd)] = some (.int (W.length : Int)) := by rw [lenO_lst, List.length_map]
  generalize (W.length : Int) = z4 at *
  simp [LZ, hf, hg, hc1, hc2, hlen, e]
theorem k16_12 {ss ns : List Int} {p : Int} {n : Nat} {W : List (List Int)} {s : Nat} {a8 : Sv} (hn : okN ns) : ∃ t ns', okN ns' ∧ t < n + 1 ∧ (asgS 9 (funM 1 1 (aCons (op2 (varE 14) (cE (.int 1)) addO) aNil) Fnext)) (LZ ss ns (.im (.lst (W.map Wd))) (.im (.lst ((dualL p n W).map Wd))) (.im (Wd (cntW n W))) (.im (Wd (cntW n (dualL p n W)))) (.im (.int (s : Nat))) (.im (.int (p ^ s))) a8 .no .no .no .no (.im (.int p)) (.im (.int (n : Int))) .no) = .nx (LZ ss ns' (.im (.lst (W.map Wd))) (.im (.lst ((dualL p n W).map Wd))) (.im (Wd (cntW n W))) (.im (Wd (cntW n (dualL p n W)))) (.im (.int (s : Nat))) (.im (.int (p ^ s))) a8 (.im (.int (t : Nat))) .no .no .no (.im (.int p)) (.im (.int (n : Int))) .no) := by
  have ho := next_ok hn (m := (n : Int) + 1) (by omega)
  have hf := Fnext_run (m := (n : Int) + 1) (by omega) hn.1
  generalize nextF ((n : Int) + 1) ns = u at *
  obtain ⟨v, ns'⟩ := u
  dsimp only at ho hf
  obtain ⟨v, rfl⟩ : ∃ k : Nat, v = (k : Int) := ⟨v.toNat, by omega⟩
  refine ⟨v, ns', ho.2, by omega, ?_⟩
  simp [LZ, funM, muAt, hf]
def chg (v : List Int) (t : Nat) (r : Int) : List Int := v.take t ++ [v.getD t 0 + 1 + r] ++ v.drop (t + 1)
theorem chg_ok {v : List Int} {t : Nat} {r : Int} (hv : ∀ x ∈ v, 0 ≤ x ∧ x ≤ 125) (ht : t < v.length) (hl : v.length ≤ 100) (hr : 0 ≤ r ∧ r < 3) : smallV (chg v t r) ∧ (chg v t r).length = v.length ∧ 0 < (chg v t r).sum ∧ (chg v t r).sum < 1000000 := by
  have hm : 0 ≤ v.getD t 0 ∧ v.getD t 0 ≤ 125 := by
    rw [List.getD_eq_getElem?_getD, List.getElem?_eq_getElem ht]
    exact hv _ (List.getElem_mem ht)
  have hlen : (chg v t r).length = v.length := by
    simp [chg]
    omega
  have hs : smallV (chg v t r) := fun x hx => by
    unfold chg at hx
    rcases List.mem_append.mp hx with hx | hx
    · rcases List.mem_append.mp hx with hx | hx
      · have := hv x (List.mem_of_mem_take hx); omega
      · rw [List.mem_singleton.mp hx]; omega
    · have := hv x (List.mem_of_mem_drop hx); omega
  have h1 := small_sum _ hs
  have h2 := sum_mem hs (x := v.getD t 0 + 1 + r) (by simp [chg])
  exact ⟨hs, hlen, by omega, by omega⟩
theorem k16_13 {ss ns : List Int} {p : Int} {n : Nat} {W : List (List Int)} {s : Nat} {a8 : Sv} {t : Nat} (hs : shape p n) (h : Sub p n W) (hn : okN ns) (ht : t < n + 1) : ∃ r ns', okN ns' ∧ (0 ≤ r ∧ r < 3) ∧ (asgS 10 (op2 (op2 (slT (varE 4) oNone (oSome (varE 9))) (tupE (aCons (op2 (op2 (op2 (varE 4) (varE 9) ixO) (cE (.int 1)) addO) (funM 1 1 (aCons (cE (.int 3)) aNil) Fnext) addO) aNil)) catT) (slT (varE 4) (oSome (op2 (varE 9) (cE (.int 1)) addO)) oNone) catT)) (LZ ss ns (.im (.lst (W.map Wd))) (.im (.lst ((dualL p n W).map Wd))) (.im (Wd (cntW n W))) (.im (Wd (cntW n (dualL p n W)))) (.im (.int (s : Nat))) (.im (.int (p ^ s))) a8 (.im (.int (t : Nat))) .no .no .no (.im (.int p)) (.im (.int (n : Int))) .no) = .nx (LZ ss ns' (.im (.lst (W.map Wd))) (.im (.lst ((dualL p n W).map Wd))) (.im (Wd (cntW n W))) (.im (Wd (cntW n (dualL p n W)))) (.im (.int (s : Nat))) (.im (.int (p ^ s))) a8 (.im (.int (t : Nat))) (.im (Wd (chg (cntW n W) t r))) .no .no (.im (.int p)) (.im (.int (n : Int))) .no) := by
  have ho := next_ok hn (m := 3) (by omega)
  have hf := Fnext_run (m := 3) (by omega) hn.1
  generalize nextF 3 ns = u at *
  obtain ⟨r, ns'⟩ := u
  dsimp only at ho hf
  refine ⟨r, ns', ho.2, ho.1, ?_⟩
  obtain ⟨h1, h2, h3, h4⟩ := shape_p hs
  have hl := cntW_len n W
  have hat := wd_at hl ht
  generalize cntW n W = v at *
  have c1 : cut (v.map Dt.int) none (some (t : Int)) = (v.take t).map Dt.int := by rw [cut_pre (by simp; omega), List.map_take]
  have c2 : cut (v.map Dt.int) (some ((t : Int) + 1)) none = (v.drop (t + 1)).map Dt.int := by
    have := cut_suf (xs := v.map Dt.int) (a := t + 1) (by simp; omega)
    rw [Int.natCast_add] at this
    rw [show ((t : Int) + 1) = (t : Int) + ((1 : Nat) : Int) from rfl, this, List.map_drop]
  have t1 : catT (.tup ((v.take t).map Dt.int)) (.tup [.int (v.getD t 0 + 1 + r)]) = some (.tup ((v.take t ++ [v.getD t 0 + 1 + r]).map Dt.int)) := by
    rw [catT_run (by simp; omega)]; simp
  have t2 : catT (.tup ((v.take t ++ [v.getD t 0 + 1 + r]).map Dt.int)) (.tup ((v.drop (t + 1)).map Dt.int)) = some (Wd (chg v t r)) := by
    rw [catT_run (by simp; omega)]; simp [chg, Wd]
  have s1 : (slT (varE 4) oNone (oSome (varE 9))) (LZ ss ns (.im (.lst (W.map Wd))) (.im (.lst ((dualL p n W).map Wd))) (.im (Wd v)) (.im (Wd (cntW n (dualL p n W)))) (.im (.int (s : Nat))) (.im (.int (p ^ s))) a8 (.im (.int (t : Nat))) .no .no .no (.im (.int p)) (.im (.int (n : Int))) .no) = .ok (.tup ((v.take t).map Dt.int)) (LZ ss ns (.im (.lst (W.map Wd))) (.im (.lst ((dualL p n W).map Wd))) (.im (Wd v)) (.im (Wd (cntW n (dualL p n W)))) (.im (.int (s : Nat))) (.im (.int (p ^ s))) a8 (.im (.int (t : Nat))) .no .no .no (.im (.int p)) (.im (.int (n : Int))) .no) := by
    unfold slT oSome oNone
    rw [varE_im (d := Wd v) (by rfl), R.bind_ok, R.bind_ok, varE_im (d := .int (t : Int)) (by rfl), R.bind_ok]
    dsimp only
    rw [R.bind_ok]
    show R.ok (Dt.tup (cut (v.map Dt.int) none (some (t : Int)))) _ = _
    rw [c1]
  have s2 : tupE (aCons (op2 (op2 (op2 (varE 4) (varE 9) ixO) (cE (.int 1)) addO) (funM 1 1 (aCons (cE (.int 3)) aNil) Fnext) addO) aNil) (LZ ss ns (.im (.lst (W.map Wd))) (.im (.lst ((dualL p n W).map Wd))) (.im (Wd v)) (.im (Wd (cntW n (dualL p n W)))) (.im (.int (s : Nat))) (.im (.int (p ^ s))) a8 (.im (.int (t : Nat))) .no .no .no (.im (.int p)) (.im (.int (n : Int))) .no) = .ok (.tup [.int (v.getD t 0 + 1 + r)]) (LZ ss ns' (.im (.lst (W.map Wd))) (.im (.lst ((dualL p n W).map Wd))) (.im (Wd v)) (.im (Wd (cntW n (dualL p n W)))) (.im (.int (s : Nat))) (.im (.int (p ^ s))) a8 (.im (.int (t : Nat))) .no .no .no (.im (.int p)) (.im (.int (n : Int))) .no) := by
    generalize v.getD t 0 = z at *
    simp [LZ, funM, muAt, hf, hat]
  have s3 : (slT (varE 4) (oSome (op2 (varE 9) (cE (.int 1)) addO)) oNone) (LZ ss ns' (.im (.lst (W.map Wd))) (.im (.lst ((dualL p n W).map Wd))) (.im (Wd v)) (.im (Wd (cntW n (dualL p n W)))) (.im (.int (s : Nat))) (.im (.int (p ^ s))) a8 (.im (.int (t : Nat))) .no .no .no (.im (.int p)) (.im (.int (n : Int))) .no) = .ok (.tup ((v.drop (t + 1)).map Dt.int)) (LZ ss ns' (.im (.lst (W.map Wd))) (.im (.lst ((dualL p n W).map Wd))) (.im (Wd v)) (.im (Wd (cntW n (dualL p n W)))) (.im (.int (s : Nat))) (.im (.int (p ^ s))) a8 (.im (.int (t : Nat))) .no .no .no (.im (.int p)) (.im (.int (n : Int))) .no) := by
    unfold slT oSome oNone
    rw [varE_im (d := Wd v) (by rfl), R.bind_ok, op2_run, varE_im (d := .int (t : Int)) (by rfl), R.bind_ok, cE_run, R.bind_ok]
    show R.ok (Dt.tup (cut (v.map Dt.int) (some ((t : Int) + 1)) none)) _ = _
    rw [c2]
  rw [asgS_run', op2_run, op2_run, s1, R.bind_ok, s2, R.bind_ok, t1, R.of_some, R.bind_ok, s3, R.bind_ok, t2, R.of_some, R.stmt_ok]
  rfl
theorem k16_14 (CM CR : Addr) {ss ns : List Int} {p : Int} {n : Nat} {W : List (List Int)} {s : Nat} {a8 : Sv} {t : Nat} {cv : List Int} (hs : shape p n) (a1 : smallV cv) (a2 : cv.length = n + 1) (a3 : 0 < cv.sum) (a4 : cv.sum < 1000000) : (ifS (tst (op2 (funE 3 (aCons (varE 13) (aCons (varE 14) (aCons (varE 10) aNil))) (Ftold CM CR)) (funE 3 (aCons (varE 13) (aCons (varE 14) (aCons (varE 10) aNil))) Fdue) neO)) (retS (cE (.bl false))) nilS) (LZ ss ns (.im (.lst (W.map Wd))) (.im (.lst ((dualL p n W).map Wd))) (.im (Wd (cntW n W))) (.im (Wd (cntW n (dualL p n W)))) (.im (.int (s : Nat))) (.im (.int (p ^ s))) a8 (.im (.int (t : Nat))) (.im (Wd cv)) .no .no (.im (.int p)) (.im (.int (n : Int))) .no) = .nx (LZ ss ns (.im (.lst (W.map Wd))) (.im (.lst ((dualL p n W).map Wd))) (.im (Wd (cntW n W))) (.im (Wd (cntW n (dualL p n W)))) (.im (.int (s : Nat))) (.im (.int (p ^ s))) a8 (.im (.int (t : Nat))) (.im (Wd cv)) .no .no (.im (.int p)) (.im (.int (n : Int))) .no) := by
  obtain ⟨h1, h2, h3, h4⟩ := shape_p hs
  have hf := Ftold_run CM CR (p := p) (n := n) (by omega) (by omega) a1 a2 a3 a4
  have hg := Fdue_run hs a1 a2 a3 a4
  have hne := neO_told p n cv
  generalize toldV p n cv = z at *
  simp [LZ, hf, hg, hne]
theorem k16_15 {ss ns : List Int} {p : Int} {n : Nat} {W : List (List Int)} {s : Nat} {a8 : Sv} {t : Nat} {cv : List Int} (hs : shape p n) : (asgS 11 (calE (aCons (frz (lcE (itR1 (aCons (op2 (varE 14) (cE (.int 1)) addO) aNil)) (Tk.nm 15).k yesT (cE (.int 0)) [15])) aNil) tupO)) (LZ ss ns (.im (.lst (W.map Wd))) (.im (.lst ((dualL p n W).map Wd))) (.im (Wd (cntW n W))) (.im (Wd (cntW n (dualL p n W)))) (.im (.int (s : Nat))) (.im (.int (p ^ s))) a8 (.im (.int (t : Nat))) (.im (Wd cv)) .no .no (.im (.int p)) (.im (.int (n : Int))) .no) = .nx (LZ ss ns (.im (.lst (W.map Wd))) (.im (.lst ((dualL p n W).map Wd))) (.im (Wd (cntW n W))) (.im (Wd (cntW n (dualL p n W)))) (.im (.int (s : Nat))) (.im (.int (p ^ s))) a8 (.im (.int (t : Nat))) (.im (Wd cv)) (.im (Wd (List.replicate (n + 1) 0))) .no (.im (.int p)) (.im (.int (n : Int))) .no) := by
  obtain ⟨h1, h2, h3, h4⟩ := shape_p hs
  have e := lcE_map (it := itR1 (aCons (op2 (varE 14) (cE (.int 1)) addO) aNil)) (k := (Tk.nm 15).k) (e := cE (.int 0)) (own := [15]) (S := (LZ ss ns (.im (.lst (W.map Wd))) (.im (.lst ((dualL p n W).map Wd))) (.im (Wd (cntW n W))) (.im (Wd (cntW n (dualL p n W)))) (.im (.int (s : Nat))) (.im (.int (p ^ s))) a8 (.im (.int (t : Nat))) (.im (Wd cv)) .no .no (.im (.int p)) (.im (.int (n : Int))) .no)) (S1 := (LZ ss ns (.im (.lst (W.map Wd))) (.im (.lst ((dualL p n W).map Wd))) (.im (Wd (cntW n W))) (.im (Wd (cntW n (dualL p n W)))) (.im (.int (s : Nat))) (.im (.int (p ^ s))) a8 (.im (.int (t : Nat))) (.im (Wd cv)) .no .no (.im (.int p)) (.im (.int (n : Int))) .no)) (fun k : Nat => Dt.int (k : Int)) (fun _ => Dt.int 0) (List.range (n + 1)) (itR1_run (by simp [LZ]) (by omega)) (fun k hk => ⟨_, kNm _ _ _, _, rfl, rfl⟩) (fun d T T' => Tk.mo) (by simp; omega)
  rw [asgS_run', calE_run, aCons_run, frz_run', e, List.map_const', List.length_range]
  simp [LZ, Wd, List.map_replicate]
def badsL (n : Nat) (v : List Int) : List Dt := [Wd (v ++ [0]), Wd (v.drop 1), .lst (v.map Dt.int), .non, Wd (List.replicate (n + 1) 0), Wd (-1 :: v.drop 1), .tup (.bl true :: (v.drop 1).map Dt.int), .tup (.non :: (v.drop 1).map Dt.int)]
theorem bads_no {n : Nat} {v : List Int} (hn : n ≤ 12) (hl : v.length = n + 1) : ∀ d ∈ badsL n v, Fcnts [d, .int (n : Int)] = .ok (.bl false) := by
  have hno : ∀ (x : Dt), noObj x = true → ∀ d ∈ x :: (v.drop 1).map Dt.int, noObj d = true := fun x hx d hd => by
    rcases List.mem_cons.mp hd with rfl | hd
    · exact hx
    · obtain ⟨y, _, rfl⟩ := List.mem_map.mp hd
      rfl
  have hb : ∀ x : Dt, okx x = false → noObj x = true → Fcnts [.tup (x :: (v.drop 1).map Dt.int), .int (n : Int)] = .ok (.bl false) := fun x hx hx2 => Fcnts_bad (hno x hx2) (by simp; omega) (by simp [hx]) (by simp; omega)
  intro d hd
  simp only [badsL, List.mem_cons, List.not_mem_nil, or_false] at hd
  rcases hd with rfl | rfl | rfl | rfl | rfl | rfl | rfl | rfl
  · exact Fcnts_len (by simp; omega)
  · exact Fcnts_len (by simp; omega)
  · exact Fcnts_no (it_lst _)
  · exact Fcnts_no it_non
  · rw [Fcnts_ok (v := List.replicate (n + 1) 0) (fun x hx => by rw [(List.mem_replicate.mp hx).2]; exact Int.le_refl _) (by simp; omega) (by simp)]
    have : (List.replicate (n + 1) (0 : Int)).sum = 0 := by
      have : ∀ k, (List.replicate k (0 : Int)).sum = 0 := fun k => by
        induction k with
        | zero => rfl
        | succ k ih => rw [List.replicate_succ, List.sum_cons, ih]; rfl
      exact this _
    rw [this]
    rfl
  · have := hb (.int (-1)) rfl rfl
    simpa [Wd] using this
  · exact hb (.bl true) rfl rfl
  · exact hb .non rfl rfl
theorem k16_16 (CM CR : Addr) {ss ns : List Int} {p : Int} {n : Nat} {W : List (List Int)} {s : Nat} {a8 : Sv} {t : Nat} {cv : List Int} (hs : shape p n) : ∃ x12, (forS (itS (frz (lstE (aCons (op2 (varE 4) (tupE (aCons (cE (.int 0)) aNil)) catT) (aCons (slT (varE 4) (oSome (cE (.int 1))) oNone) (aCons (frz (calN (aCons (varE 4) aNil) lstO)) (aCons (cE .non) (aCons (varE 11) (aCons (op2 (tupE (aCons (op1 (cE (.int 1)) negO) aNil)) (slT (varE 4) (oSome (cE (.int 1))) oNone) catT) (aCons (op2 (tupE (aCons (cE (.bl true)) aNil)) (slT (varE 4) (oSome (cE (.int 1))) oNone) catT) (aCons (op2 (tupE (aCons (cE .non) aNil)) (slT (varE 4) (oSome (cE (.int 1))) oNone) catT) aNil))))))))))) (Tk.nm 12).k (ifS (tst (op2 (funE 3 (aCons (varE 13) (aCons (varE 14) (aCons (varE 12) aNil))) (Ftold CM CR)) (cE (.str "malformed")) neO)) (retS (cE (.bl false))) nilS)) (LZ ss ns (.im (.lst (W.map Wd))) (.im (.lst ((dualL p n W).map Wd))) (.im (Wd (cntW n W))) (.im (Wd (cntW n (dualL p n W)))) (.im (.int (s : Nat))) (.im (.int (p ^ s))) a8 (.im (.int (t : Nat))) (.im (Wd cv)) (.im (Wd (List.replicate (n + 1) 0))) .no (.im (.int p)) (.im (.int (n : Int))) .no) = .nx (LZ ss ns (.im (.lst (W.map Wd))) (.im (.lst ((dualL p n W).map Wd))) (.im (Wd (cntW n W))) (.im (Wd (cntW n (dualL p n W)))) (.im (.int (s : Nat))) (.im (.int (p ^ s))) a8 (.im (.int (t : Nat))) (.im (Wd cv)) (.im (Wd (List.replicate (n + 1) 0))) x12 (.im (.int p)) (.im (.int (n : Int))) .no) := by
  obtain ⟨h1, h2, h3, h4⟩ := shape_p hs
  have hl := cntW_len n W
  have hit : (itS (frz (lstE (aCons (op2 (varE 4) (tupE (aCons (cE (.int 0)) aNil)) catT) (aCons (slT (varE 4) (oSome (cE (.int 1))) oNone) (aCons (frz (calN (aCons (varE 4) aNil) lstO)) (aCons (cE .non) (aCons (varE 11) (aCons (op2 (tupE (aCons (op1 (cE (.int 1)) negO) aNil)) (slT (varE 4) (oSome (cE (.int 1))) oNone) catT) (aCons (op2 (tupE (aCons (cE (.bl true)) aNil)) (slT (varE 4) (oSome (cE (.int 1))) oNone) catT) (aCons (op2 (tupE (aCons (cE .non) aNil)) (slT (varE 4) (oSome (cE (.int 1))) oNone) catT) aNil))))))))))) (LZ ss ns (.im (.lst (W.map Wd))) (.im (.lst ((dualL p n W).map Wd))) (.im (Wd (cntW n W))) (.im (Wd (cntW n (dualL p n W)))) (.im (.int (s : Nat))) (.im (.int (p ^ s))) a8 (.im (.int (t : Nat))) (.im (Wd cv)) (.im (Wd (List.replicate (n + 1) 0))) .no (.im (.int p)) (.im (.int (n : Int))) .no) = .ok (badsL n (cntW n W)) (LZ ss ns (.im (.lst (W.map Wd))) (.im (.lst ((dualL p n W).map Wd))) (.im (Wd (cntW n W))) (.im (Wd (cntW n (dualL p n W)))) (.im (.int (s : Nat))) (.im (.int (p ^ s))) a8 (.im (.int (t : Nat))) (.im (Wd cv)) (.im (Wd (List.replicate (n + 1) 0))) .no (.im (.int p)) (.im (.int (n : Int))) .no) := by
    have hbad := bads_no (n := n) (by omega) hl
    generalize cntW n W = v at *
    have c1 : catT (Wd v) (.tup [.int 0]) = some (Wd (v ++ [0])) := by
      have := catT_run (xs := v.map Dt.int) (ys := [.int 0]) (by simp; omega)
      simpa [Wd] using this
    have c2 : cut (v.map Dt.int) (some 1) none = (v.drop 1).map Dt.int := by
      have := cut_suf (xs := v.map Dt.int) (a := 1) (by simp; omega)
      rw [List.map_drop]
      exact this
    have c3 : ∀ x : Dt, catT (.tup [x]) (.tup ((v.drop 1).map Dt.int)) = some (.tup (x :: (v.drop 1).map Dt.int)) := fun x => by
      rw [catT_run (by simp; omega)]; rfl
    have c4 : lstO [Wd v] = some (v.map Dt.int) := lstO_tup _
    have hsl : (slT (varE 4) (oSome (cE (.int 1))) oNone) (LZ ss ns (.im (.lst (W.map Wd))) (.im (.lst ((dualL p n W).map Wd))) (.im (Wd v)) (.im (Wd (cntW n (dualL p n W)))) (.im (.int (s : Nat))) (.im (.int (p ^ s))) a8 (.im (.int (t : Nat))) (.im (Wd cv)) (.im (Wd (List.replicate (n + 1) 0))) .no (.im (.int p)) (.im (.int (n : Int))) .no) = .ok (.tup ((v.drop 1).map Dt.int)) (LZ ss ns (.im (.lst (W.map Wd))) (.im (.lst ((dualL p n W).map Wd))) (.im (Wd v)) (.im (Wd (cntW n (dualL p n W)))) (.im (.int (s : Nat))) (.im (.int (p ^ s))) a8 (.im (.int (t : Nat))) (.im (Wd cv)) (.im (Wd (List.replicate (n + 1) 0))) .no (.im (.int p)) (.im (.int (n : Int))) .no) := by
      unfold slT oSome oNone
      rw [varE_im (d := Wd v) (by rfl), R.bind_ok, cE_run, R.bind_ok]
      dsimp only
      rw [R.bind_ok, R.bind_ok]
      show R.ok (Dt.tup (cut (v.map Dt.int) (some 1) none)) _ = _
      rw [c2]
    have h4v : varE 4 (LZ ss ns (.im (.lst (W.map Wd))) (.im (.lst ((dualL p n W).map Wd))) (.im (Wd v)) (.im (Wd (cntW n (dualL p n W)))) (.im (.int (s : Nat))) (.im (.int (p ^ s))) a8 (.im (.int (t : Nat))) (.im (Wd cv)) (.im (Wd (List.replicate (n + 1) 0))) .no (.im (.int p)) (.im (.int (n : Int))) .no) = .ok (Wd v) (LZ ss ns (.im (.lst (W.map Wd))) (.im (.lst ((dualL p n W).map Wd))) (.im (Wd v)) (.im (Wd (cntW n (dualL p n W)))) (.im (.int (s : Nat))) (.im (.int (p ^ s))) a8 (.im (.int (t : Nat))) (.im (Wd cv)) (.im (Wd (List.replicate (n + 1) 0))) .no (.im (.int p)) (.im (.int (n : Int))) .no) := varE_im (by rfl)
    have h11 : varE 11 (LZ ss ns (.im (.lst (W.map Wd))) (.im (.lst ((dualL p n W).map Wd))) (.im (Wd v)) (.im (Wd (cntW n (dualL p n W)))) (.im (.int (s : Nat))) (.im (.int (p ^ s))) a8 (.im (.int (t : Nat))) (.im (Wd cv)) (.im (Wd (List.replicate (n + 1) 0))) .no (.im (.int p)) (.im (.int (n : Int))) .no) = .ok (Wd (List.replicate (n + 1) 0)) (LZ ss ns (.im (.lst (W.map Wd))) (.im (.lst ((dualL p n W).map Wd))) (.im (Wd v)) (.im (Wd (cntW n (dualL p n W)))) (.im (.int (s : Nat))) (.im (.int (p ^ s))) a8 (.im (.int (t : Nat))) (.im (Wd cv)) (.im (Wd (List.replicate (n + 1) 0))) .no (.im (.int p)) (.im (.int (n : Int))) .no) := varE_im (by rfl)
    generalize (LZ ss ns (.im (.lst (W.map Wd))) (.im (.lst ((dualL p n W).map Wd))) (.im (Wd v)) (.im (Wd (cntW n (dualL p n W)))) (.im (.int (s : Nat))) (.im (.int (p ^ s))) a8 (.im (.int (t : Nat))) (.im (Wd cv)) (.im (Wd (List.replicate (n + 1) 0))) .no (.im (.int p)) (.im (.int (n : Int))) .no) = T at *
    simp only [itS_run, frz_run', lstE_run, aCons_run, aNil_run, op2_run, op1_run, tupE_run, calN_run, cE_run, negO_i, hsl, h4v, h11, c1, c3, c4, R.bind_ok, R.of_some, seqOf_lst, List.length_cons, List.length_nil, Nat.zero_add, Nat.reduceAdd, Nat.reduceLeDiff, if_true]
    rfl
  obtain ⟨S', f1, f2⟩ := forL_inv (k := (Tk.nm 12).k) (body := (ifS (tst (op2 (funE 3 (aCons (varE 13) (aCons (varE 14) (aCons (varE 12) aNil))) (Ftold CM CR)) (cE (.str "malformed")) neO)) (retS (cE (.bl false))) nilS)) (badsL n (cntW n W)) (fun _ S => ∃ x12, S = (LZ ss ns (.im (.lst (W.map Wd))) (.im (.lst ((dualL p n W).map Wd))) (.im (Wd (cntW n W))) (.im (Wd (cntW n (dualL p n W)))) (.im (.int (s : Nat))) (.im (.int (p ^ s))) a8 (.im (.int (t : Nat))) (.im (Wd cv)) (.im (Wd (List.replicate (n + 1) 0))) x12 (.im (.int p)) (.im (.int (n : Int))) .no)) (LZ ss ns (.im (.lst (W.map Wd))) (.im (.lst ((dualL p n W).map Wd))) (.im (Wd (cntW n W))) (.im (Wd (cntW n (dualL p n W)))) (.im (.int (s : Nat))) (.im (.int (p ^ s))) a8 (.im (.int (t : Nat))) (.im (Wd cv)) (.im (Wd (List.replicate (n + 1) 0))) .no (.im (.int p)) (.im (.int (n : Int))) .no) ⟨.no, rfl⟩ (fun i d S hd hI => by
    obtain ⟨x12, rfl⟩ := hI
    have hb := bads_no (n := n) (by omega) hl d (List.mem_of_getElem? hd)
    have hf := Ftold_bad CM CR (p := p) hb
    refine ⟨(LZ ss ns (.im (.lst (W.map Wd))) (.im (.lst ((dualL p n W).map Wd))) (.im (Wd (cntW n W))) (.im (Wd (cntW n (dualL p n W)))) (.im (.int (s : Nat))) (.im (.int (p ^ s))) a8 (.im (.int (t : Nat))) (.im (Wd cv)) (.im (Wd (List.replicate (n + 1) 0))) (.im d) (.im (.int p)) (.im (.int (n : Int))) .no), (LZ ss ns (.im (.lst (W.map Wd))) (.im (.lst ((dualL p n W).map Wd))) (.im (Wd (cntW n W))) (.im (Wd (cntW n (dualL p n W)))) (.im (.int (s : Nat))) (.im (.int (p ^ s))) a8 (.im (.int (t : Nat))) (.im (Wd cv)) (.im (Wd (List.replicate (n + 1) 0))) (.im d) (.im (.int p)) (.im (.int (n : Int))) .no), kNm _ _ _, .inl ?_, .im d, rfl⟩
    have hm := neO_mal
    simp [LZ, hf, hm])
  obtain ⟨x12, rfl⟩ := f2
  refine ⟨x12, ?_⟩
  rw [forS_run, hit, R.stmt_ok, f1]
noncomputable def m_law16 (CM CR : Addr) : Ms → O := (seqS (asgN 1 (funN 1 (aCons (varE 0) aNil) Fnumbers))
  (seqS (asgT (Tk.tp [13, 14]) (funM 0 1 aNil Fshape))
  (seqS (asgS 2 (funE 3 (aCons (varE 13) (aCons (varE 14) (aCons (funM 3 1 (aCons (varE 13) (aCons (varE 14) (aCons (cE (.int 3)) aNil))) Frows16) aNil))) Fwords16))
  (seqS (asgS 3 (funE 3 (aCons (varE 13) (aCons (varE 14) (aCons (varE 2) aNil))) Fdual))
  (seqS (asgS 4 (funE 2 (aCons (varE 2) (aCons (varE 14) aNil)) Fnof))
  (seqS (asgS 5 (funE 2 (aCons (varE 3) (aCons (varE 14) aNil)) Fnof))
  (seqS (ifS (orT (tst (op2 (funE 3 (aCons (varE 13) (aCons (varE 14) (aCons (varE 4) aNil))) (Ftold CM CR)) (varE 5) neO)) (tst (op2 (funE 3 (aCons (varE 13) (aCons (varE 14) (aCons (varE 5) aNil))) (Ftold CM CR)) (varE 4) neO))) (retS (cE (.bl false))) nilS)
  (seqS (asgS 6 (funM 1 1 (aCons (op2 (varE 14) (cE (.int 1)) addO) aNil) Fnext))
  (seqS (ifS (tst (op2 (funE 2 (aCons (varE 4) (aCons (varE 6) aNil)) Fbmom) (funE 2 (aCons (varE 2) (aCons (funE 2 (aCons (varE 14) (aCons (varE 6) aNil)) Fplaces) aNil)) Fzp) neO)) (retS (cE (.bl false))) nilS)
  (seqS (asgS 7 (cE (.int 1)))
  (seqS (forS (itR1 (aCons (varE 6) aNil)) (Tk.nm 8).k (asgS 7 (op2 (varE 7) (varE 13) mulO)))
  (seqS (ifS (tst (op2 (op2 (funE 2 (aCons (varE 4) (aCons (varE 6) aNil)) Fbmom) (varE 7) mulO) (op2 (calE (aCons (varE 2) aNil) lenO) (funE 2 (aCons (varE 5) (aCons (op2 (varE 14) (varE 6) subO) aNil)) Fbmom) mulO) neO)) (retS (cE (.bl false))) nilS)
  (seqS (asgS 9 (funM 1 1 (aCons (op2 (varE 14) (cE (.int 1)) addO) aNil) Fnext))
  (seqS (asgS 10 (op2 (op2 (slT (varE 4) oNone (oSome (varE 9))) (tupE (aCons (op2 (op2 (op2 (varE 4) (varE 9) ixO) (cE (.int 1)) addO) (funM 1 1 (aCons (cE (.int 3)) aNil) Fnext) addO) aNil)) catT) (slT (varE 4) (oSome (op2 (varE 9) (cE (.int 1)) addO)) oNone) catT))
  (seqS (ifS (tst (op2 (funE 3 (aCons (varE 13) (aCons (varE 14) (aCons (varE 10) aNil))) (Ftold CM CR)) (funE 3 (aCons (varE 13) (aCons (varE 14) (aCons (varE 10) aNil))) Fdue) neO)) (retS (cE (.bl false))) nilS)
  (seqS (asgS 11 (calE (aCons (frz (lcE (itR1 (aCons (op2 (varE 14) (cE (.int 1)) addO) aNil)) (Tk.nm 15).k yesT (cE (.int 0)) [15])) aNil) tupO))
  (seqS (forS (itS (frz (lstE (aCons (op2 (varE 4) (tupE (aCons (cE (.int 0)) aNil)) catT) (aCons (slT (varE 4) (oSome (cE (.int 1))) oNone) (aCons (frz (calN (aCons (varE 4) aNil) lstO)) (aCons (cE .non) (aCons (varE 11) (aCons (op2 (tupE (aCons (op1 (cE (.int 1)) negO) aNil)) (slT (varE 4) (oSome (cE (.int 1))) oNone) catT) (aCons (op2 (tupE (aCons (cE (.bl true)) aNil)) (slT (varE 4) (oSome (cE (.int 1))) oNone) catT) (aCons (op2 (tupE (aCons (cE .non) aNil)) (slT (varE 4) (oSome (cE (.int 1))) oNone) catT) aNil))))))))))) (Tk.nm 12).k (ifS (tst (op2 (funE 3 (aCons (varE 13) (aCons (varE 14) (aCons (varE 12) aNil))) (Ftold CM CR)) (cE (.str "malformed")) neO)) (retS (cE (.bl false))) nilS))
  (retS (cE (.bl true))))))))))))))))))))
theorem run_law16 (CM CR : Addr) (ss : List Int) (h : ss.length ≤ 63) : ∃ S', m_law16 CM CR (st0 16 [scrD ss]) = .rt (.bl true) S' := by
  obtain ⟨n0, o0, e0⟩ := k16_0 h
  obtain ⟨p, n, n1, o1, hs, e1⟩ := k16_1 (ss := ss) o0
  obtain ⟨W, n2, o2, hW, e2⟩ := k16_2 (ss := ss) hs o1
  obtain ⟨h1, h2, h3, h4⟩ := shape_p hs
  have hD := Sub_dual h1 (by omega : n ≤ 1000) hW.ok
  have e3 := k16_3 (ss := ss) (ns := n2) hs hW
  have e4 := k16_4 (ss := ss) (ns := n2) hs hW
  have e5 := k16_5 (ss := ss) (ns := n2) hs hD
  have e6 := k16_6 CM CR (ss := ss) (ns := n2) hs hW
  obtain ⟨s, n7, o7, hsn, e7⟩ := k16_7 (ss := ss) (p := p) (n := n) (W := W) o2
  have e8 := k16_8 (ss := ss) (ns := n7) hs hW hsn
  have e9 := k16_9 (ss := ss) (ns := n7) (p := p) (n := n) (W := W) (s := s)
  obtain ⟨x8, e10⟩ := k16_10 (ss := ss) (ns := n7) (W := W) hs hsn
  have e11 := k16_11 (ss := ss) (ns := n7) (a8 := x8) hs hW hsn
  obtain ⟨t, n12, o12, ht, e12⟩ := k16_12 (ss := ss) (p := p) (n := n) (W := W) (s := s) (a8 := x8) o7
  obtain ⟨r, n13, o13, hr, e13⟩ := k16_13 (ss := ss) (s := s) (a8 := x8) hs hW o12 ht
  have hl := sub_len hs hW
  obtain ⟨a1, a2, a3, a4⟩ := chg_ok (v := cntW n W) (t := t) (r := r) (fun x hx => by have := cnt_small (by omega : W.length ≤ 900) x hx; omega) (by rw [cntW_len]; exact ht) (by rw [cntW_len]; omega) hr
  rw [cntW_len] at a2
  have e14 := k16_14 CM CR (ss := ss) (ns := n13) (W := W) (s := s) (a8 := x8) (t := t) hs a1 a2 a3 a4
  have e15 := k16_15 (ss := ss) (ns := n13) (W := W) (s := s) (a8 := x8) (t := t) (cv := chg (cntW n W) t r) hs
  obtain ⟨x12, e16⟩ := k16_16 CM CR (ss := ss) (ns := n13) (W := W) (s := s) (a8 := x8) (t := t) (cv := chg (cntW n W) t r) hs
  unfold m_law16
  rw [sqK e0, sqK e1, sqK e2, sqK e3, sqK e4, sqK e5, sqK e6, sqK e7, sqK e8, sqK e9, sqK e10, sqK e11, sqK e12, sqK e13, sqK e14, sqK e15, sqK e16]
  exact ⟨_, rfl⟩
end Lq

namespace K16
open PySem PySem.Spec PyProof.Rows L2 Lq
def topS (i : Nat) : Stmt := PySem.Challenge.pw_weightkeepers_k16_whole_macwilliams_iden.main.body.getD i (.Pass ⟨0, 0, 0, 0⟩)
noncomputable section
variable {P : Program} {w : World} {K : PySem.W.Frag} {mg : Str → Option Value} {base : Heap}
abbrev s_init_Refused : Stmt := inClass (topS 4) 0
theorem sc_init_Refused : ScC ["self", "reason"] ["self", "reason"] (defScope s_init_Refused) := ⟨rfl, rfl, rfl, by decide +kernel, rfl, by decide +kernel, by decide +kernel, by decide +kernel, by decide +kernel⟩
theorem ok_init_Refused {CX : CXT} {f cda cc D C : Addr} {params : Arguments} {kV doc pm ct oc cl : Value} {an od cld : Option Addr} {osl csl : Array (Option Value)} (lk : K.lookup f = some ⟨oc, od, .func (PySem.W.ksFn "__init__" "Refused.__init__" params (defBody s_init_Refused) (defScope s_init_Refused) .none kV doc pm an (.ref cda) ct cc), osl⟩) (hcd : PySem.W.codeIn K (.ref cda) "Refused.__init__" = true)
    (hcell : K.lookup cc = some ⟨cl, cld, .cell (some (.ref D)), csl⟩) (S : SupF P K mg f cda cc D C (defScope s_init_Refused) "self") (T : OexC K C) (nf : PySem.W.findIn K (.ref C) "reason" = some none) :
    FnOk P w K mg base CX 1 f (PySem.W.ksFn "__init__" "Refused.__init__" params (defBody s_init_Refused) (defScope s_init_Refused) .none kV doc pm an (.ref cda) ct cc) ["self", "reason"] (spI1 C "reason") := by
  refine fnK_of lk hcd sc_init_Refused hcell (fun vs H Q E h => ?_) (fun A outer s s1 H vs Q E hr h I => ?_)
  · obtain ⟨a, y, rfl, _⟩ := h
    rfl
  · obtain ⟨a, y, rfl, hy, he, k⟩ := h
    refine PySem.ks_wpAt_execs_cons (_root_.PySem.wpAt_mono (super_run (Rr := fun H1 => H1 = H) S rfl T I rfl rfl he (pa_cons (pe_joined (.cons pe_str (.cons (pe_fmt (pv 1)) .nil))) pa_nil) ?_) (fun fl s' hq => ?_) (fun _ _ z => z))
    · refine ⟨_, rfl, ?_, _, rfl, .inl ⟨y, rfl, ?_, _, rfl, ?_, ?_, he, rfl⟩⟩
      · decide +kernel
      · exact Nat.le_trans hy (by decide)
      · have e : (Str.empty ++ ("refused: " : Str)).length = 9 := by decide +kernel
        rw [Str.length_append, e]
        exact Nat.le_trans (Nat.add_le_add_left hy 9) (by decide)
      · show 1 ≤ 1000
        decide
    · obtain ⟨rfl, H1, I1, rfl⟩ := hq
      refine _root_.PySem.wpAt_of_wpAny ((pss_one (ps_ost (pv 0) (pv 1))).run [] s' _ _ _ I1 ?_)
      refine ⟨_, rfl, _, rfl, a, C, rfl, T, nf, .inl ⟨he, fun dx h1 h2 => k dx h1 h2⟩⟩
abbrev s_is_integer : Stmt := topS 6
abbrev N_is_integer : List Str := ["value"]
theorem sc_is_integer : FnScope N_is_integer ["value"] (defScope s_is_integer) := ⟨rfl, rfl, rfl, by decide +kernel, rfl, by decide +kernel, by decide +kernel⟩
noncomputable def m_is_integer : Ms → O := (retS (andV (op1 (varE 0) (isiO "int")) (op1 (op1 (varE 0) (isiO "bool")) notO)))
theorem ok_is_integer {f : Addr} {fd : FuncData} (F : Fun K "is_integer" "is_integer" s_is_integer f fd) (h_bool : mg "bool" = none) (h_int : mg "int" = none) (h_isinstance : mg "isinstance" = none) : FnOk P w K mg base (L2.CX P w) 1 f fd ["value"] (spD K 1 (runD 1 m_is_integer)) :=
  defOk F sc_is_integer fun cdv A outer s H E hr => by
    have nd : N_is_integer.Nodup := sc_is_integer.nd
    have tk : Takes (cxOf (L2.CX P w) P w K mg base N_is_integer "is_integer" (defScope s_is_integer) f cdv A outer s H E) (fun cls d _ H' => E cls d H') := takes_of rfl rfl rfl rfl
    have po : PassesOwn (model P w) (cxOf (L2.CX P w) P w K mg base N_is_integer "is_integer" (defScope s_is_integer) f cdv A outer s H E).A (cxOf (L2.CX P w) P w K mg base N_is_integer "is_integer" (defScope s_is_integer) f cdv A outer s H E).env (cxOf (L2.CX P w) P w K mg base N_is_integer "is_integer" (defScope s_is_integer) f cdv A outer s H E).xe := passes_of rfl
    have hu64 := hr.units
    have hu65 := hu65_of hr
    have hu0 := hr.units0
    have hu1 := hu_of hr
    exact (dss_one (ds_ret (de_and (de_isi (T := "int") (by decide +kernel) (by rfl) h_isinstance (by rfl) h_int (by constructor) (de_var (pv 0))) (de_one (de_not (de_isi (T := "bool") (by decide +kernel) (by rfl) h_isinstance (by rfl) h_bool (by constructor) (de_var (pv 0))))))))
abbrev s_binomial : Stmt := topS 7
abbrev N_binomial : List Str := ["n", "k"]
theorem sc_binomial : FnScope N_binomial ["n", "k"] (defScope s_binomial) := ⟨rfl, rfl, rfl, by decide +kernel, rfl, by decide +kernel, by decide +kernel⟩
noncomputable def m_binomial : Ms → O := (seqS (ifS (tst (op2 (varE 1) (cE (.int 0)) ltO)) (retS (cE (.int 0))) nilS)
  (retS (calE (aCons (varE 0) (aCons (varE 1) aNil)) combO)))
theorem ok_binomial {f : Addr} {fd : FuncData} (F : Fun K "binomial" "binomial" s_binomial f fd) (h_comb : mg "comb" = some (.builtin "math.comb")) : FnOk P w K mg base (L2.CX P w) 1 f fd ["n", "k"] (spD K 2 (runD 2 m_binomial)) :=
  defOk F sc_binomial fun cdv A outer s H E hr => by
    have nd : N_binomial.Nodup := sc_binomial.nd
    have tk : Takes (cxOf (L2.CX P w) P w K mg base N_binomial "binomial" (defScope s_binomial) f cdv A outer s H E) (fun cls d _ H' => E cls d H') := takes_of rfl rfl rfl rfl
    have po : PassesOwn (model P w) (cxOf (L2.CX P w) P w K mg base N_binomial "binomial" (defScope s_binomial) f cdv A outer s H E).A (cxOf (L2.CX P w) P w K mg base N_binomial "binomial" (defScope s_binomial) f cdv A outer s H E).env (cxOf (L2.CX P w) P w K mg base N_binomial "binomial" (defScope s_binomial) f cdv A outer s H E).xe := passes_of rfl
    have hu64 := hr.units
    have hu65 := hu65_of hr
    have hu0 := hr.units0
    have hu1 := hu_of hr
    exact (dss_cons (ds_if (dt_lt (de_var (pv 1)) de_int) (dss_one (ds_ret de_int)) dss_nil)
      (dss_one (ds_ret (de_comb (by rfl) h_comb (de_var (pv 0)) (de_var (pv 1))))))
abbrev s_power : Stmt := topS 8
abbrev N_power : List Str := ["a", "k", "result", "factor", "left"]
theorem sc_power : FnScope N_power ["a", "k"] (defScope s_power) := ⟨rfl, rfl, rfl, by decide +kernel, rfl, by decide +kernel, by decide +kernel⟩
noncomputable def m_power : Ms → O := (seqS (asgS 2 (cE (.int 1)))
  (seqS (moveS 3 0)
  (seqS (moveS 4 1)
  (seqS (whileS (fun _ => 64) (tst (op2 (varE 4) (cE (.int 0)) gtO)) (seqS (ifS (tst (op2 (op2 (varE 4) (cE (.int 2)) modO) (cE (.int 1)) eqO)) (asgS 2 (op2 (varE 2) (varE 3) mulO)) nilS)
  (seqS (asgS 3 (op2 (varE 3) (varE 3) mulO))
  (asgS 4 (op2 (varE 4) (cE (.int 2)) divO)))))
  (retS (varE 2))))))
theorem ok_power {f : Addr} {fd : FuncData} (F : Fun K "power" "power" s_power f fd) : FnOk P w K mg base (L2.CX P w) 1 f fd ["a", "k"] (spD K 2 (runD 5 m_power)) :=
  defOk F sc_power fun cdv A outer s H E hr => by
    have nd : N_power.Nodup := sc_power.nd
    have tk : Takes (cxOf (L2.CX P w) P w K mg base N_power "power" (defScope s_power) f cdv A outer s H E) (fun cls d _ H' => E cls d H') := takes_of rfl rfl rfl rfl
    have po : PassesOwn (model P w) (cxOf (L2.CX P w) P w K mg base N_power "power" (defScope s_power) f cdv A outer s H E).A (cxOf (L2.CX P w) P w K mg base N_power "power" (defScope s_power) f cdv A outer s H E).env (cxOf (L2.CX P w) P w K mg base N_power "power" (defScope s_power) f cdv A outer s H E).xe := passes_of rfl
    have hu64 := hr.units
    have hu65 := hu65_of hr
    have hu0 := hr.units0
    have hu1 := hu_of hr
    exact (dss_cons (ds_set (i := 2) nd (by rfl) (by first | exact Or.inl rfl | exact Or.inr rfl) de_int)
      (dss_cons (ds_mov (i := 3) nd (by rfl) (by first | exact Or.inl rfl | exact Or.inr rfl) (pv 0))
      (dss_cons (ds_mov (i := 4) nd (by rfl) (by first | exact Or.inl rfl | exact Or.inr rfl) (pv 1))
      (dss_cons (ds_while (fuel := fun _ => 64) po (dt_gt (de_var (pv 4)) de_int) (dss_cons (ds_if (dt_eq hu64 (de_mod (de_var (pv 4)) de_int) de_int) (dss_one (ds_set (i := 2) nd (by rfl) (by first | exact Or.inl rfl | exact Or.inr rfl) (de_mul (de_var (pv 2)) (de_var (pv 3))))) dss_nil)
      (dss_cons (ds_set (i := 3) nd (by rfl) (by first | exact Or.inl rfl | exact Or.inr rfl) (de_mul (de_var (pv 3)) (de_var (pv 3))))
      (dss_one (ds_set (i := 4) nd (by rfl) (by first | exact Or.inl rfl | exact Or.inr rfl) (de_div (de_var (pv 4)) de_int))))))
      (dss_one (ds_ret (de_var (pv 2))))))))
abbrev s_krawtchouk : Stmt := topS 10
abbrev N_krawtchouk : List Str := ["p", "n", "j", "i", "s"]
theorem sc_krawtchouk : FnScope N_krawtchouk ["p", "n", "j", "i"] (defScope s_krawtchouk) := ⟨rfl, rfl, rfl, by decide +kernel, rfl, by decide +kernel, by decide +kernel⟩
noncomputable def m_krawtchouk : Ms → O := (retS (calE (aCons (frz (lcE (itR1 (aCons (op2 (varE 2) (cE (.int 1)) addO) aNil)) (Tk.nm 4).k yesT (op2 (op2 (op2 (funE 2 (aCons (op1 (cE (.int 1)) negO) (aCons (varE 4) aNil)) Fpow) (funE 2 (aCons (op2 (varE 0) (cE (.int 1)) subO) (aCons (op2 (varE 2) (varE 4) subO) aNil)) Fpow) mulO) (funE 2 (aCons (varE 3) (aCons (varE 4) aNil)) Fbinom) mulO) (funE 2 (aCons (op2 (varE 1) (varE 3) subO) (aCons (op2 (varE 2) (varE 4) subO) aNil)) Fbinom) mulO) [4])) aNil) sumO))
theorem ok_krawtchouk {f : Addr} {fd : FuncData} (F : Fun K "krawtchouk" "krawtchouk" s_krawtchouk f fd) (h_range : mg "range" = none) (h_sum : mg "sum" = none) (c_power : Cal P w K mg base "power" 1 ["a", "k"] (spD K 2 Fpow)) (c_binomial : Cal P w K mg base "binomial" 1 ["n", "k"] (spD K 2 Fbinom)) : FnOk P w K mg base (L2.CX P w) 2 f fd ["p", "n", "j", "i"] (spD K 4 (runD 5 m_krawtchouk)) :=
  defOk F sc_krawtchouk fun cdv A outer s H E hr => by
    have nd : N_krawtchouk.Nodup := sc_krawtchouk.nd
    have tk : Takes (cxOf (L2.CX P w) P w K mg base N_krawtchouk "krawtchouk" (defScope s_krawtchouk) f cdv A outer s H E) (fun cls d _ H' => E cls d H') := takes_of rfl rfl rfl rfl
    have po : PassesOwn (model P w) (cxOf (L2.CX P w) P w K mg base N_krawtchouk "krawtchouk" (defScope s_krawtchouk) f cdv A outer s H E).A (cxOf (L2.CX P w) P w K mg base N_krawtchouk "krawtchouk" (defScope s_krawtchouk) f cdv A outer s H E).env (cxOf (L2.CX P w) P w K mg base N_krawtchouk "krawtchouk" (defScope s_krawtchouk) f cdv A outer s H E).xe := passes_of rfl
    have hu64 := hr.units
    have hu65 := hu65_of hr
    have hu0 := hr.units0
    have hu1 := hu_of hr
    exact (dss_one (ds_ret (de_sum (by rfl) (by rfl) h_sum (de_frz (dn_lc (by rfl) nd (di_range1 (by rfl) h_range (da_cons (de_add (de_var (pv 2)) de_int) da_nil)) (blkOk_by (own := [("s", 4)]) (N := N_krawtchouk) (sc := defScope s_krawtchouk) (by decide +kernel)) (by decide) (fun _ _ _ _ _ => (dg_name (pg_name (i := 4) nd (by rfl) (by first | exact Or.inl rfl | exact Or.inr rfl)))) (fun _ _ _ _ _ => dts_nil) (fun _ _ _ _ _ => (de_mul (de_mul (de_mul (de_cal c_power takes0 hr (by decide) (by rfl) (da_cons (de_neg de_int) (da_cons (de_var (pv 4)) da_nil))) (de_cal c_power takes0 hr (by decide) (by rfl) (da_cons (de_sub (de_var (pv 0)) de_int) (da_cons (de_sub (de_var (pv 2)) (de_var (pv 4))) da_nil)))) (de_cal c_binomial takes0 hr (by decide) (by rfl) (da_cons (de_var (pv 3)) (da_cons (de_var (pv 4)) da_nil)))) (de_cal c_binomial takes0 hr (by decide) (by rfl) (da_cons (de_sub (de_var (pv 1)) (de_var (pv 3))) (da_cons (de_sub (de_var (pv 2)) (de_var (pv 4))) da_nil))))))))))
abbrev s__are_counts : Stmt := topS 12
abbrev N__are_counts : List Str := ["numbers", "n", "number"]
theorem sc__are_counts : FnScope N__are_counts ["numbers", "n"] (defScope s__are_counts) := ⟨rfl, rfl, rfl, by decide +kernel, rfl, by decide +kernel, by decide +kernel⟩
noncomputable def m__are_counts : Ms → O := (seqS (ifS (orT (notT (truT (op1 (varE 0) (isiO "tuple")))) (tst (op2 (calE (aCons (varE 0) aNil) lenO) (op2 (varE 1) (cE (.int 1)) addO) neO))) (retS (cE (.bl false))) nilS)
  (retS (andV (calE (aCons (frz (lcE (itS (varE 0)) (Tk.nm 2).k yesT (andV (funE 1 (aCons (varE 2) aNil) Fisint) (op2 (varE 2) (cE (.int 0)) geO)) [2])) aNil) allO) (op2 (calE (aCons (varE 0) aNil) sumT) (cE (.int 0)) gtO))))
theorem ok__are_counts {f : Addr} {fd : FuncData} (F : Fun K "_are_counts" "_are_counts" s__are_counts f fd) (h_all : mg "all" = none) (h_isinstance : mg "isinstance" = none) (h_len : mg "len" = none) (h_sum : mg "sum" = none) (h_tuple : mg "tuple" = none) (c_is_integer : Cal P w K mg base "is_integer" 1 ["value"] (spD K 1 Fisint)) : FnOk P w K mg base (L2.CX P w) 2 f fd ["numbers", "n"] (spD K 2 (runD 3 m__are_counts)) :=
  defOk F sc__are_counts fun cdv A outer s H E hr => by
    have nd : N__are_counts.Nodup := sc__are_counts.nd
    have tk : Takes (cxOf (L2.CX P w) P w K mg base N__are_counts "_are_counts" (defScope s__are_counts) f cdv A outer s H E) (fun cls d _ H' => E cls d H') := takes_of rfl rfl rfl rfl
    have po : PassesOwn (model P w) (cxOf (L2.CX P w) P w K mg base N__are_counts "_are_counts" (defScope s__are_counts) f cdv A outer s H E).A (cxOf (L2.CX P w) P w K mg base N__are_counts "_are_counts" (defScope s__are_counts) f cdv A outer s H E).env (cxOf (L2.CX P w) P w K mg base N__are_counts "_are_counts" (defScope s__are_counts) f cdv A outer s H E).xe := passes_of rfl
    have hu64 := hr.units
    have hu65 := hu65_of hr
    have hu0 := hr.units0
    have hu1 := hu_of hr
    exact (dss_cons (ds_if (PW.pt (dw_or (dt_not (dt_tru (de_isi (T := "tuple") (by decide +kernel) (by rfl) h_isinstance (by rfl) h_tuple (by constructor) (de_var (pv 0))))) (dw_or1 (dt_ne hu64 (de_len (by rfl) h_len (de_var (pv 0))) (de_add (de_var (pv 1)) de_int))))) (dss_one (ds_ret de_bl)) dss_nil)
      (dss_one (ds_ret (de_and (de_all (by rfl) (by rfl) h_all (de_frz (dn_lc (by rfl) nd (di_seq (de_var (pv 0))) (blkOk_by (own := [("number", 2)]) (N := N__are_counts) (sc := defScope s__are_counts) (by decide +kernel)) (by decide) (fun _ _ _ _ _ => (dg_name (pg_name (i := 2) nd (by rfl) (by first | exact Or.inl rfl | exact Or.inr rfl)))) (fun _ _ _ _ _ => dts_nil) (fun _ _ _ _ _ => (de_and (de_cal c_is_integer takes0 hr (by decide) (by rfl) (da_cons (de_var (pv 2)) da_nil)) (de_one (de_ge (de_var (pv 2)) de_int))))))) (de_one (de_gt (de_sumT (by rfl) (by rfl) h_sum (de_var (pv 0))) de_int))))))
abbrev s__transformed : Stmt := topS 13
abbrev N__transformed : List Str := ["p", "n", "numbers", "j", "i", "number"]
theorem sc__transformed : FnScope N__transformed ["p", "n", "numbers", "j"] (defScope s__transformed) := ⟨rfl, rfl, rfl, by decide +kernel, rfl, by decide +kernel, by decide +kernel⟩
noncomputable def m__transformed : Ms → O := (retS (calE (aCons (frz (lcE (itEn (aCons (varE 2) aNil)) (Tk.tp [4, 5]).k yesT (op2 (varE 5) (funE 4 (aCons (varE 0) (aCons (varE 1) (aCons (varE 3) (aCons (varE 4) aNil)))) Fkraw) mulO) [4, 5])) aNil) sumO))
theorem ok__transformed {f : Addr} {fd : FuncData} (F : Fun K "_transformed" "_transformed" s__transformed f fd) (h_enumerate : mg "enumerate" = none) (h_sum : mg "sum" = none) (c_krawtchouk : Cal P w K mg base "krawtchouk" 2 ["p", "n", "j", "i"] (spD K 4 Fkraw)) : FnOk P w K mg base (L2.CX P w) 3 f fd ["p", "n", "numbers", "j"] (spD K 4 (runD 6 m__transformed)) :=
  defOk F sc__transformed fun cdv A outer s H E hr => by
    have nd : N__transformed.Nodup := sc__transformed.nd
    have tk : Takes (cxOf (L2.CX P w) P w K mg base N__transformed "_transformed" (defScope s__transformed) f cdv A outer s H E) (fun cls d _ H' => E cls d H') := takes_of rfl rfl rfl rfl
    have po : PassesOwn (model P w) (cxOf (L2.CX P w) P w K mg base N__transformed "_transformed" (defScope s__transformed) f cdv A outer s H E).A (cxOf (L2.CX P w) P w K mg base N__transformed "_transformed" (defScope s__transformed) f cdv A outer s H E).env (cxOf (L2.CX P w) P w K mg base N__transformed "_transformed" (defScope s__transformed) f cdv A outer s H E).xe := passes_of rfl
    have hu64 := hr.units
    have hu65 := hu65_of hr
    have hu0 := hr.units0
    have hu1 := hu_of hr
    exact (dss_one (ds_ret (de_sum (by rfl) (by rfl) h_sum (de_frz (dn_lc (by rfl) nd (di_enum (by rfl) h_enumerate (da_cons (de_var (pv 2)) da_nil)) (blkOk_by (own := [("i", 4), ("number", 5)]) (N := N__transformed) (sc := defScope s__transformed) (by decide +kernel)) (by decide) (fun _ _ _ _ _ => (dg_tup (by rfl) (dgs_cons (pg_name (i := 4) nd (by rfl) (by first | exact Or.inl rfl | exact Or.inr rfl)) (dgs_cons (pg_name (i := 5) nd (by rfl) (by first | exact Or.inl rfl | exact Or.inr rfl)) dgs_nil)))) (fun _ _ _ _ _ => dts_nil) (fun _ _ _ _ _ => (de_mul (de_var (pv 5)) (de_cal c_krawtchouk takes0 hr (by decide) (by rfl) (da_cons (de_var (pv 0)) (da_cons (de_var (pv 1)) (da_cons (de_var (pv 3)) (da_cons (de_var (pv 4)) da_nil))))))))))))
abbrev s_macwilliams : Stmt := topS 11
abbrev N_macwilliams : List Str := ["p", "n", "numbers", "whole", "sums", "j", "found"]
theorem sc_macwilliams : FnScope N_macwilliams ["p", "n", "numbers"] (defScope s_macwilliams) := ⟨rfl, rfl, rfl, by decide +kernel, rfl, by decide +kernel, by decide +kernel⟩
noncomputable def m_macwilliams (CM CR : Addr) : Ms → O := (seqS (ifS (notT (truT (funE 2 (aCons (varE 2) (aCons (varE 1) aNil)) Fcnts))) (raiseS ⟨CM, [], []⟩) nilS)
  (seqS (asgS 3 (calE (aCons (varE 2) aNil) sumT))
  (seqS (asgS 4 (frz (lcE (itR1 (aCons (op2 (varE 1) (cE (.int 1)) addO) aNil)) (Tk.nm 5).k yesT (funE 4 (aCons (varE 0) (aCons (varE 1) (aCons (varE 2) (aCons (varE 5) aNil)))) Ftrans) [5])))
  (seqS (ifS (truT (calE (aCons (frz (lcE (itS (varE 4)) (Tk.nm 6).k yesT (op2 (op2 (varE 6) (varE 3) modO) (cE (.int 0)) neO) [6])) aNil) anyO)) (raiseS ⟨CR, ["reason"], [.str "fraction"]⟩) nilS)
  (retS (calE (aCons (frz (lcE (itS (varE 4)) (Tk.nm 6).k yesT (op2 (varE 6) (varE 3) divO) [6])) aNil) tupO))))))
theorem ok_macwilliams {f : Addr} {fd : FuncData} (F : Fun K "macwilliams" "macwilliams" s_macwilliams f fd) {CM CR : Addr} (h_any : mg "any" = none) (h_range : mg "range" = none) (h_sum : mg "sum" = none) (h_tuple : mg "tuple" = none) (R_Malformed : RaN P w K mg base "Malformed" CM) (R_Refused : RaS P w K mg base "Refused" CR "reason") (c__transformed : Cal P w K mg base "_transformed" 3 ["p", "n", "numbers", "j"] (spD K 4 Ftrans)) (c__are_counts : Cal P w K mg base "_are_counts" 2 ["numbers", "n"] (spD K 2 Fcnts)) : FnOk P w K mg base (L2.CX P w) 4 f fd ["p", "n", "numbers"] (spD K 3 (runD 7 (m_macwilliams CM CR))) :=
  defOk F sc_macwilliams fun cdv A outer s H E hr => by
    have nd : N_macwilliams.Nodup := sc_macwilliams.nd
    have tk : Takes (cxOf (L2.CX P w) P w K mg base N_macwilliams "macwilliams" (defScope s_macwilliams) f cdv A outer s H E) (fun cls d _ H' => E cls d H') := takes_of rfl rfl rfl rfl
    have po : PassesOwn (model P w) (cxOf (L2.CX P w) P w K mg base N_macwilliams "macwilliams" (defScope s_macwilliams) f cdv A outer s H E).A (cxOf (L2.CX P w) P w K mg base N_macwilliams "macwilliams" (defScope s_macwilliams) f cdv A outer s H E).env (cxOf (L2.CX P w) P w K mg base N_macwilliams "macwilliams" (defScope s_macwilliams) f cdv A outer s H E).xe := passes_of rfl
    have hu64 := hr.units
    have hu65 := hu65_of hr
    have hu0 := hr.units0
    have hu1 := hu_of hr
    exact (dss_cons (ds_if (dt_not (dt_tru (de_cal c__are_counts tk hr (by decide) (by rfl) (da_cons (de_var (pv 2)) (da_cons (de_var (pv 1)) da_nil))))) (dss_one (ds_raiseN R_Malformed (by rfl) tk (hr.mono (by decide)) (by rfl))) dss_nil)
      (dss_cons (ds_set (i := 3) nd (by rfl) (by first | exact Or.inl rfl | exact Or.inr rfl) (de_sumT (by rfl) (by rfl) h_sum (de_var (pv 2))))
      (dss_cons (ds_lc (i := 4) (by rfl) nd (by rfl) (by rfl) (sw_true (by rfl) (by rfl) (by rfl) (by decide +kernel)) (di_range1 (by rfl) h_range (da_cons (de_add (de_var (pv 1)) de_int) da_nil)) (blkOk_by (own := [("j", 5)]) (N := N_macwilliams) (sc := defScope s_macwilliams) (by decide +kernel)) (by decide) (fun _ _ _ _ _ => (dg_name (pg_name (i := 5) nd (by rfl) (by first | exact Or.inl rfl | exact Or.inr rfl)))) (fun _ _ _ _ _ => dts_nil) (fun _ _ _ _ _ => (de_cal c__transformed takes0 hr (by decide) (by rfl) (da_cons (de_var (pv 0)) (da_cons (de_var (pv 1)) (da_cons (de_var (pv 2)) (da_cons (de_var (pv 5)) da_nil)))))))
      (dss_cons (ds_if (dt_tru (de_any (by rfl) (by rfl) h_any (de_frz (dn_lc (by rfl) nd (di_seq (de_var (pv 4))) (blkOk_by (own := [("found", 6)]) (N := N_macwilliams) (sc := defScope s_macwilliams) (by decide +kernel)) (by decide) (fun _ _ _ _ _ => (dg_name (pg_name (i := 6) nd (by rfl) (by first | exact Or.inl rfl | exact Or.inr rfl)))) (fun _ _ _ _ _ => dts_nil) (fun _ _ _ _ _ => (de_ne hu64 (de_mod (de_var (pv 6)) (de_var (pv 3))) de_int)))))) (dss_one (ds_raiseS R_Refused (by rfl) tk (hr.mono (by decide)) (by rfl) (by decide +kernel))) dss_nil)
      (dss_one (ds_ret (de_tupc (by rfl) h_tuple (de_frz (dn_lc (by rfl) nd (di_seq (de_var (pv 4))) (blkOk_by (own := [("found", 6)]) (N := N_macwilliams) (sc := defScope s_macwilliams) (by decide +kernel)) (by decide) (fun _ _ _ _ _ => (dg_name (pg_name (i := 6) nd (by rfl) (by first | exact Or.inl rfl | exact Or.inr rfl)))) (fun _ _ _ _ _ => dts_nil) (fun _ _ _ _ _ => (de_div (de_var (pv 6)) (de_var (pv 3)))))))))))))
abbrev s_binomial_moment : Stmt := topS 14
abbrev N_binomial_moment : List Str := ["numbers", "s", "n", "i", "number"]
theorem sc_binomial_moment : FnScope N_binomial_moment ["numbers", "s"] (defScope s_binomial_moment) := ⟨rfl, rfl, rfl, by decide +kernel, rfl, by decide +kernel, by decide +kernel⟩
noncomputable def m_binomial_moment : Ms → O := (seqS (asgS 2 (op2 (calE (aCons (varE 0) aNil) lenO) (cE (.int 1)) subO))
  (retS (calE (aCons (frz (lcE (itEn (aCons (varE 0) aNil)) (Tk.tp [3, 4]).k yesT (op2 (funE 2 (aCons (op2 (varE 2) (varE 3) subO) (aCons (varE 1) aNil)) Fbinom) (varE 4) mulO) [3, 4])) aNil) sumO)))
theorem ok_binomial_moment {f : Addr} {fd : FuncData} (F : Fun K "binomial_moment" "binomial_moment" s_binomial_moment f fd) (h_enumerate : mg "enumerate" = none) (h_len : mg "len" = none) (h_sum : mg "sum" = none) (c_binomial : Cal P w K mg base "binomial" 1 ["n", "k"] (spD K 2 Fbinom)) : FnOk P w K mg base (L2.CX P w) 2 f fd ["numbers", "s"] (spD K 2 (runD 5 m_binomial_moment)) :=
  defOk F sc_binomial_moment fun cdv A outer s H E hr => by
    have nd : N_binomial_moment.Nodup := sc_binomial_moment.nd
    have tk : Takes (cxOf (L2.CX P w) P w K mg base N_binomial_moment "binomial_moment" (defScope s_binomial_moment) f cdv A outer s H E) (fun cls d _ H' => E cls d H') := takes_of rfl rfl rfl rfl
    have po : PassesOwn (model P w) (cxOf (L2.CX P w) P w K mg base N_binomial_moment "binomial_moment" (defScope s_binomial_moment) f cdv A outer s H E).A (cxOf (L2.CX P w) P w K mg base N_binomial_moment "binomial_moment" (defScope s_binomial_moment) f cdv A outer s H E).env (cxOf (L2.CX P w) P w K mg base N_binomial_moment "binomial_moment" (defScope s_binomial_moment) f cdv A outer s H E).xe := passes_of rfl
    have hu64 := hr.units
    have hu65 := hu65_of hr
    have hu0 := hr.units0
    have hu1 := hu_of hr
    exact (dss_cons (ds_set (i := 2) nd (by rfl) (by first | exact Or.inl rfl | exact Or.inr rfl) (de_sub (de_len (by rfl) h_len (de_var (pv 0))) de_int))
      (dss_one (ds_ret (de_sum (by rfl) (by rfl) h_sum (de_frz (dn_lc (by rfl) nd (di_enum (by rfl) h_enumerate (da_cons (de_var (pv 0)) da_nil)) (blkOk_by (own := [("i", 3), ("number", 4)]) (N := N_binomial_moment) (sc := defScope s_binomial_moment) (by decide +kernel)) (by decide) (fun _ _ _ _ _ => (dg_tup (by rfl) (dgs_cons (pg_name (i := 3) nd (by rfl) (by first | exact Or.inl rfl | exact Or.inr rfl)) (dgs_cons (pg_name (i := 4) nd (by rfl) (by first | exact Or.inl rfl | exact Or.inr rfl)) dgs_nil)))) (fun _ _ _ _ _ => dts_nil) (fun _ _ _ _ _ => (de_mul (de_cal c_binomial takes0 hr (by decide) (by rfl) (da_cons (de_sub (de_var (pv 2)) (de_var (pv 3))) (da_cons (de_var (pv 1)) da_nil))) (de_var (pv 4))))))))))
abbrev s__law_numbers : Stmt := topS 16
abbrev N__law_numbers : List Str := ["script", "found", "k", "cell", "turn", "i", "mixed"]
theorem sc__law_numbers : FnScope N__law_numbers ["script"] (defScope s__law_numbers) := ⟨rfl, rfl, rfl, by decide +kernel, rfl, by decide +kernel, by decide +kernel⟩
noncomputable def m__law_numbers : Ms → ON := (seqN (asgN 1 (lstE aNil))
  (seqN (forS (itR1 (aCons (calE (aCons (calE (aCons (varE 0) aNil) lenO) (aCons (cE (.int 63)) aNil)) minO) aNil)) (Tk.nm 2).k (seqS (asgS 3 (calE (aCons (op2 (varE 0) (varE 2) ixO) aNil) absO))
  (ifS (tst (op2 (varE 3) (op2 (cE (.int 10)) (cE (.int 18)) powO) geO)) (forS (itR1 (aCons (cE (.int 60)) aNil)) (Tk.nm 4).k (ifS (tst (op2 (varE 3) (cE (.int 0)) gtO)) (seqS (appS 1 (op2 (varE 3) (cE (.int 1009)) modO))
  (asgS 3 (op2 (varE 3) (cE (.int 1009)) divO))) nilS)) (forS (itR1 (aCons (cE (.int 5)) aNil)) (Tk.nm 5).k (seqS (asgS 3 (op2 (op2 (op2 (op2 (varE 3) (cE (.int 48271)) mulO) (op2 (cE (.int 69621)) (op2 (varE 5) (varE 2) addO) mulO) addO) (cE (.int 11)) addO) (cE (.int 2147483647)) modO))
  (seqS (asgS 6 (op2 (op2 (op2 (varE 3) (cE (.int 16807)) mulO) (op2 (varE 3) (cE (.int 65536)) divO) addO) (cE (.int 2147483629)) modO))
  (appS 1 (op2 (varE 6) (cE (.int 1009)) modO))))))))
  (retNV 1)))
theorem ok__law_numbers {f : Addr} {fd : FuncData} (F : Fun K "_law_numbers" "_law_numbers" s__law_numbers f fd) (h_abs : mg "abs" = none) (h_len : mg "len" = none) (h_min : mg "min" = none) (h_range : mg "range" = none) : FnOk P w K mg base (L2.CX P w) 1 f fd ["script"] (spN K 1 (runN 7 m__law_numbers)) :=
  defOkN F sc__law_numbers fun cdv A outer s H E hr => by
    have nd : N__law_numbers.Nodup := sc__law_numbers.nd
    have tk : Takes (cxOf (L2.CX P w) P w K mg base N__law_numbers "_law_numbers" (defScope s__law_numbers) f cdv A outer s H E) (fun cls d _ H' => E cls d H') := takes_of rfl rfl rfl rfl
    have po : PassesOwn (model P w) (cxOf (L2.CX P w) P w K mg base N__law_numbers "_law_numbers" (defScope s__law_numbers) f cdv A outer s H E).A (cxOf (L2.CX P w) P w K mg base N__law_numbers "_law_numbers" (defScope s__law_numbers) f cdv A outer s H E).env (cxOf (L2.CX P w) P w K mg base N__law_numbers "_law_numbers" (defScope s__law_numbers) f cdv A outer s H E).xe := passes_of rfl
    have hu64 := hr.units
    have hu65 := hu65_of hr
    have hu0 := hr.units0
    have hu1 := hu_of hr
    exact (dsN_cons (ds_setN (i := 1) nd (by rfl) (by first | exact Or.inl rfl | exact Or.inr rfl) (dn_lst da_nil))
      (dsN_cons (ds_for po (by rfl) (di_range1 (by rfl) h_range (da_cons (de_min (by rfl) (by rfl) h_min (de_len (by rfl) h_len (de_var (pv 0))) de_int) da_nil)) (dg_name (pg_name (i := 2) nd (by rfl) (by first | exact Or.inl rfl | exact Or.inr rfl))) (dss_cons (ds_set (i := 3) nd (by rfl) (by first | exact Or.inl rfl | exact Or.inr rfl) (de_abs (by rfl) h_abs (de_sub1 (de_var (pv 0)) (de_var (pv 2)))))
      (dss_one (ds_if (dt_ge (de_var (pv 3)) (de_pow de_int de_int)) (dss_one (ds_for po (by rfl) (di_range1 (by rfl) h_range (da_cons de_int da_nil)) (dg_name (pg_name (i := 4) nd (by rfl) (by first | exact Or.inl rfl | exact Or.inr rfl))) (dss_one (ds_if (dt_gt (de_var (pv 3)) de_int) (dss_cons (ds_app (pv 1) (de_mod (de_var (pv 3)) de_int))
      (dss_one (ds_set (i := 3) nd (by rfl) (by first | exact Or.inl rfl | exact Or.inr rfl) (de_div (de_var (pv 3)) de_int)))) dss_nil)))) (dss_one (ds_for po (by rfl) (di_range1 (by rfl) h_range (da_cons de_int da_nil)) (dg_name (pg_name (i := 5) nd (by rfl) (by first | exact Or.inl rfl | exact Or.inr rfl))) (dss_cons (ds_set (i := 3) nd (by rfl) (by first | exact Or.inl rfl | exact Or.inr rfl) (de_mod (de_add (de_add (de_mul (de_var (pv 3)) de_int) (de_mul de_int (de_add (de_var (pv 5)) (de_var (pv 2))))) de_int) de_int))
      (dss_cons (ds_set (i := 6) nd (by rfl) (by first | exact Or.inl rfl | exact Or.inr rfl) (de_mod (de_add (de_mul (de_var (pv 3)) de_int) (de_div (de_var (pv 3)) de_int)) de_int))
      (dss_one (ds_app (pv 1) (de_mod (de_var (pv 6)) de_int)))))))))))
      (dsN_retV (pv 1))))
abbrev s__law_next : Stmt := topS 17
abbrev N__law_next : List Str := ["numbers", "many"]
theorem sc__law_next : FnScope N__law_next ["numbers", "many"] (defScope s__law_next) := ⟨rfl, rfl, rfl, by decide +kernel, rfl, by decide +kernel, by decide +kernel⟩
noncomputable def m__law_next : Ms → O := (seqS (ifS (tst (op2 (lenV 0) (cE (.int 0)) eqO)) (retS (cE (.int 0))) nilS)
  (retS (op2 (popV 0 (cE (.int 0))) (varE 1) modO)))
theorem ok__law_next {f : Addr} {fd : FuncData} (F : Fun K "_law_next" "_law_next" s__law_next f fd) (h_len : mg "len" = none) : FnOk P w K mg base (L2.CX P w) 1 f fd ["numbers", "many"] (spM K 1 (runM 2 m__law_next)) :=
  defOkM F sc__law_next fun cdv A outer s H E hr => by
    have nd : N__law_next.Nodup := sc__law_next.nd
    have tk : Takes (cxOf (L2.CX P w) P w K mg base N__law_next "_law_next" (defScope s__law_next) f cdv A outer s H E) (fun cls d _ H' => E cls d H') := takes_of rfl rfl rfl rfl
    have po : PassesOwn (model P w) (cxOf (L2.CX P w) P w K mg base N__law_next "_law_next" (defScope s__law_next) f cdv A outer s H E).A (cxOf (L2.CX P w) P w K mg base N__law_next "_law_next" (defScope s__law_next) f cdv A outer s H E).env (cxOf (L2.CX P w) P w K mg base N__law_next "_law_next" (defScope s__law_next) f cdv A outer s H E).xe := passes_of rfl
    have hu64 := hr.units
    have hu65 := hu65_of hr
    have hu0 := hr.units0
    have hu1 := hu_of hr
    exact (dss_cons (ds_if (dt_eq hu64 (de_lenV (by rfl) h_len (pv 0)) de_int) (dss_one (ds_ret de_int)) dss_nil)
      (dss_one (ds_ret (de_mod (de_popV (pv 0) de_int) (de_var (pv 1))))))
abbrev s__law_rows : Stmt := topS 18
abbrev N__law_rows : List Str := ["numbers", "p", "n", "most", "rows", "turn", "k"]
theorem sc__law_rows : FnScope N__law_rows ["numbers", "p", "n", "most"] (defScope s__law_rows) := ⟨rfl, rfl, rfl, by decide +kernel, rfl, by decide +kernel, by decide +kernel⟩
noncomputable def m__law_rows : Ms → O := (seqS (asgN 4 (lstE aNil))
  (seqS (forS (itR1 (aCons (funM 1 0 (aCons (op2 (varE 3) (cE (.int 1)) addO) aNil) Fnext) aNil)) (Tk.nm 5).k (appS 4 (calE (aCons (frz (lcE (itR1 (aCons (varE 2) aNil)) (Tk.nm 6).k yesT (funM 1 0 (aCons (varE 1) aNil) Fnext) [6])) aNil) tupO)))
  (retS (varE 4))))
theorem ok__law_rows {f : Addr} {fd : FuncData} (F : Fun K "_law_rows" "_law_rows" s__law_rows f fd) (h_range : mg "range" = none) (h_tuple : mg "tuple" = none) (c__law_next : Cal P w K mg base "_law_next" 1 ["numbers", "many"] (spM K 1 Fnext)) : FnOk P w K mg base (L2.CX P w) 2 f fd ["numbers", "p", "n", "most"] (spM K 3 (runM 7 m__law_rows)) :=
  defOkM F sc__law_rows fun cdv A outer s H E hr => by
    have nd : N__law_rows.Nodup := sc__law_rows.nd
    have tk : Takes (cxOf (L2.CX P w) P w K mg base N__law_rows "_law_rows" (defScope s__law_rows) f cdv A outer s H E) (fun cls d _ H' => E cls d H') := takes_of rfl rfl rfl rfl
    have po : PassesOwn (model P w) (cxOf (L2.CX P w) P w K mg base N__law_rows "_law_rows" (defScope s__law_rows) f cdv A outer s H E).A (cxOf (L2.CX P w) P w K mg base N__law_rows "_law_rows" (defScope s__law_rows) f cdv A outer s H E).env (cxOf (L2.CX P w) P w K mg base N__law_rows "_law_rows" (defScope s__law_rows) f cdv A outer s H E).xe := passes_of rfl
    have hu64 := hr.units
    have hu65 := hu65_of hr
    have hu0 := hr.units0
    have hu1 := hu_of hr
    exact (dss_cons (ds_setN (i := 4) nd (by rfl) (by first | exact Or.inl rfl | exact Or.inr rfl) (dn_lst da_nil))
      (dss_cons (ds_for po (by rfl) (di_range1 (by rfl) h_range (da_cons (de_calM c__law_next tk hr (by decide) (by rfl) (pv 0) (da_cons (de_add (de_var (pv 3)) de_int) da_nil)) da_nil)) (dg_name (pg_name (i := 5) nd (by rfl) (by first | exact Or.inl rfl | exact Or.inr rfl))) (dss_one (ds_app (pv 4) (de_tupc (by rfl) h_tuple (de_frz (dn_lc (by rfl) nd (di_range1 (by rfl) h_range (da_cons (de_var (pv 2)) da_nil)) (blkOk_by (own := [("k", 6)]) (N := N__law_rows) (sc := defScope s__law_rows) (by decide +kernel)) (by decide) (fun _ _ _ _ _ => (dg_name (pg_name (i := 6) nd (by rfl) (by first | exact Or.inl rfl | exact Or.inr rfl)))) (fun _ _ _ _ _ => dts_nil) (fun _ _ _ _ _ => (de_calM c__law_next takes0 hr (by decide) (by rfl) (pv 0) (da_cons (de_var (pv 1)) da_nil)))))))))
      (dss_one (ds_ret (de_var (pv 4))))))
abbrev s__law_words : Stmt := topS 19
abbrev N__law_words : List Str := ["p", "n", "rows", "found", "row", "wider", "word", "c", "k"]
theorem sc__law_words : FnScope N__law_words ["p", "n", "rows"] (defScope s__law_words) := ⟨rfl, rfl, rfl, by decide +kernel, rfl, by decide +kernel, by decide +kernel⟩
noncomputable def m__law_words : Ms → O := (seqS (asgM 3 (dct1 (calE (aCons (frz (lcE (itR1 (aCons (varE 1) aNil)) (Tk.nm 8).k yesT (cE (.int 0)) [8])) aNil) tupO) (cE (.bl true))))
  (seqS (forS (itS (varE 2)) (Tk.nm 4).k (seqS (asgM 5 dct0)
  (seqS (forS (itS (frz (keysL 3))) (Tk.nm 6).k (forS (itR1 (aCons (varE 0) aNil)) (Tk.nm 7).k (setD 5 (cE (.bl true)) (calE (aCons (frz (lcE (itR1 (aCons (varE 1) aNil)) (Tk.nm 8).k yesT (op2 (op2 (op2 (varE 6) (varE 8) ixO) (op2 (varE 7) (op2 (varE 4) (varE 8) ixO) mulO) addO) (varE 0) modO) [8])) aNil) tupO))))
  (moveS 3 5))))
  (retS (frz (calN (aCons (frz (keysL 3)) aNil) sortO2)))))
theorem ok__law_words {f : Addr} {fd : FuncData} (F : Fun K "_law_words" "_law_words" s__law_words f fd) (h_list : mg "list" = none) (h_range : mg "range" = none) (h_sorted : mg "sorted" = none) (h_tuple : mg "tuple" = none) : FnOk P w K mg base (L2.CX P w) 1 f fd ["p", "n", "rows"] (spD K 3 (runD 9 m__law_words)) :=
  defOk F sc__law_words fun cdv A outer s H E hr => by
    have nd : N__law_words.Nodup := sc__law_words.nd
    have tk : Takes (cxOf (L2.CX P w) P w K mg base N__law_words "_law_words" (defScope s__law_words) f cdv A outer s H E) (fun cls d _ H' => E cls d H') := takes_of rfl rfl rfl rfl
    have po : PassesOwn (model P w) (cxOf (L2.CX P w) P w K mg base N__law_words "_law_words" (defScope s__law_words) f cdv A outer s H E).A (cxOf (L2.CX P w) P w K mg base N__law_words "_law_words" (defScope s__law_words) f cdv A outer s H E).env (cxOf (L2.CX P w) P w K mg base N__law_words "_law_words" (defScope s__law_words) f cdv A outer s H E).xe := passes_of rfl
    have hu64 := hr.units
    have hu65 := hu65_of hr
    have hu0 := hr.units0
    have hu1 := hu_of hr
    exact (dss_cons (ds_setM (i := 3) nd (by rfl) (by first | exact Or.inl rfl | exact Or.inr rfl) (dm_one hu0 (de_tupc (by rfl) h_tuple (de_frz (dn_lc (by rfl) nd (di_range1 (by rfl) h_range (da_cons (de_var (pv 1)) da_nil)) (blkOk_by (own := [("k", 8)]) (N := N__law_words) (sc := defScope s__law_words) (by decide +kernel)) (by decide) (fun _ _ _ _ _ => (dg_name (pg_name (i := 8) nd (by rfl) (by first | exact Or.inl rfl | exact Or.inr rfl)))) (fun _ _ _ _ _ => dts_nil) (fun _ _ _ _ _ => de_int)))) de_bl))
      (dss_cons (ds_for po (by rfl) (di_seq (de_var (pv 2))) (dg_name (pg_name (i := 4) nd (by rfl) (by first | exact Or.inl rfl | exact Or.inr rfl))) (dss_cons (ds_setM (i := 5) nd (by rfl) (by first | exact Or.inl rfl | exact Or.inr rfl) dm_new)
      (dss_cons (ds_for po (by rfl) (di_seq (de_frz (dn_keys (by rfl) (by rfl) h_list (pv 3)))) (dg_name (pg_name (i := 6) nd (by rfl) (by first | exact Or.inl rfl | exact Or.inr rfl))) (dss_one (ds_for po (by rfl) (di_range1 (by rfl) h_range (da_cons (de_var (pv 0)) da_nil)) (dg_name (pg_name (i := 7) nd (by rfl) (by first | exact Or.inl rfl | exact Or.inr rfl))) (dss_one (ds_setD hu1 (pv 5) (de_tupc (by rfl) h_tuple (de_frz (dn_lc (by rfl) nd (di_range1 (by rfl) h_range (da_cons (de_var (pv 1)) da_nil)) (blkOk_by (own := [("k", 8)]) (N := N__law_words) (sc := defScope s__law_words) (by decide +kernel)) (by decide) (fun _ _ _ _ _ => (dg_name (pg_name (i := 8) nd (by rfl) (by first | exact Or.inl rfl | exact Or.inr rfl)))) (fun _ _ _ _ _ => dts_nil) (fun _ _ _ _ _ => (de_mod (de_add (de_sub1 (de_var (pv 6)) (de_var (pv 8))) (de_mul (de_var (pv 7)) (de_sub1 (de_var (pv 4)) (de_var (pv 8))))) (de_var (pv 0))))))) de_bl)))))
      (dss_one (ds_mov (i := 3) nd (by rfl) (by first | exact Or.inl rfl | exact Or.inr rfl) (pv 5))))))
      (dss_one (ds_ret (de_frz (dn_sorted2 hu64 (by rfl) h_sorted (de_frz (dn_lcKeys (j := 6) (by rfl) nd (pv 3) (blkOk_by (own := [("word", 6)]) (N := N__law_words) (sc := defScope s__law_words) (by decide +kernel)) (fun _ _ _ _ _ => pg_name (i := 6) nd (by rfl) (by exact Or.inl rfl)) (fun _ _ _ _ _ => pv 6) (hj := (by decide : 6 < N__law_words.length))))))))))
abbrev s__law_weight : Stmt := topS 20
abbrev N__law_weight : List Str := ["word", "x"]
theorem sc__law_weight : FnScope N__law_weight ["word"] (defScope s__law_weight) := ⟨rfl, rfl, rfl, by decide +kernel, rfl, by decide +kernel, by decide +kernel⟩
noncomputable def m__law_weight : Ms → O := (retS (calE (aCons (frz (lcE (itS (varE 0)) (Tk.nm 1).k (tst (op2 (varE 1) (cE (.int 0)) neO)) (varE 1) [1])) aNil) lenO))
theorem ok__law_weight {f : Addr} {fd : FuncData} (F : Fun K "_law_weight" "_law_weight" s__law_weight f fd) (h_len : mg "len" = none) : FnOk P w K mg base (L2.CX P w) 1 f fd ["word"] (spD K 1 (runD 2 m__law_weight)) :=
  defOk F sc__law_weight fun cdv A outer s H E hr => by
    have nd : N__law_weight.Nodup := sc__law_weight.nd
    have tk : Takes (cxOf (L2.CX P w) P w K mg base N__law_weight "_law_weight" (defScope s__law_weight) f cdv A outer s H E) (fun cls d _ H' => E cls d H') := takes_of rfl rfl rfl rfl
    have po : PassesOwn (model P w) (cxOf (L2.CX P w) P w K mg base N__law_weight "_law_weight" (defScope s__law_weight) f cdv A outer s H E).A (cxOf (L2.CX P w) P w K mg base N__law_weight "_law_weight" (defScope s__law_weight) f cdv A outer s H E).env (cxOf (L2.CX P w) P w K mg base N__law_weight "_law_weight" (defScope s__law_weight) f cdv A outer s H E).xe := passes_of rfl
    have hu64 := hr.units
    have hu65 := hu65_of hr
    have hu0 := hr.units0
    have hu1 := hu_of hr
    exact (dss_one (ds_ret (de_len (by rfl) h_len (de_frz (dn_lc (by rfl) nd (di_seq (de_var (pv 0))) (blkOk_by (own := [("x", 1)]) (N := N__law_weight) (sc := defScope s__law_weight) (by decide +kernel)) (by decide) (fun _ _ _ _ _ => (dg_name (pg_name (i := 1) nd (by rfl) (by first | exact Or.inl rfl | exact Or.inr rfl)))) (fun _ _ _ _ _ => (dts_one (dt_ne hu64 (de_var (pv 1)) de_int))) (fun _ _ _ _ _ => (de_var (pv 1))))))))
abbrev s__law_all : Stmt := topS 21
abbrev N__law_all : List Str := ["p", "n", "found", "turn", "longer", "word", "x"]
theorem sc__law_all : FnScope N__law_all ["p", "n"] (defScope s__law_all) := ⟨rfl, rfl, rfl, by decide +kernel, rfl, by decide +kernel, by decide +kernel⟩
noncomputable def m__law_all : Ms → O := (seqS (asgN 2 (lstE (aCons (tupE aNil) aNil)))
  (seqS (forS (itR1 (aCons (varE 1) aNil)) (Tk.nm 3).k (seqS (asgN 4 (lstE aNil))
  (seqS (forS (itS (frz (calN (aCons (varE 2) aNil) lstO))) (Tk.nm 5).k (forS (itR1 (aCons (varE 0) aNil)) (Tk.nm 6).k (appS 4 (op2 (varE 5) (tupE (aCons (varE 6) aNil)) catT))))
  (moveS 2 4))))
  (retS (varE 2))))
theorem ok__law_all {f : Addr} {fd : FuncData} (F : Fun K "_law_all" "_law_all" s__law_all f fd) (h_list : mg "list" = none) (h_range : mg "range" = none) : FnOk P w K mg base (L2.CX P w) 1 f fd ["p", "n"] (spD K 2 (runD 7 m__law_all)) :=
  defOk F sc__law_all fun cdv A outer s H E hr => by
    have nd : N__law_all.Nodup := sc__law_all.nd
    have tk : Takes (cxOf (L2.CX P w) P w K mg base N__law_all "_law_all" (defScope s__law_all) f cdv A outer s H E) (fun cls d _ H' => E cls d H') := takes_of rfl rfl rfl rfl
    have po : PassesOwn (model P w) (cxOf (L2.CX P w) P w K mg base N__law_all "_law_all" (defScope s__law_all) f cdv A outer s H E).A (cxOf (L2.CX P w) P w K mg base N__law_all "_law_all" (defScope s__law_all) f cdv A outer s H E).env (cxOf (L2.CX P w) P w K mg base N__law_all "_law_all" (defScope s__law_all) f cdv A outer s H E).xe := passes_of rfl
    have hu64 := hr.units
    have hu65 := hu65_of hr
    have hu0 := hr.units0
    have hu1 := hu_of hr
    exact (dss_cons (ds_setN (i := 2) nd (by rfl) (by first | exact Or.inl rfl | exact Or.inr rfl) (dn_lst (da_cons (de_tup da_nil) da_nil)))
      (dss_cons (ds_for po (by rfl) (di_range1 (by rfl) h_range (da_cons (de_var (pv 1)) da_nil)) (dg_name (pg_name (i := 3) nd (by rfl) (by first | exact Or.inl rfl | exact Or.inr rfl))) (dss_cons (ds_setN (i := 4) nd (by rfl) (by first | exact Or.inl rfl | exact Or.inr rfl) (dn_lst da_nil))
      (dss_cons (ds_for po (by rfl) (di_seq (de_frz (dn_list (by rfl) h_list (de_var (pv 2))))) (dg_name (pg_name (i := 5) nd (by rfl) (by first | exact Or.inl rfl | exact Or.inr rfl))) (dss_one (ds_for po (by rfl) (di_range1 (by rfl) h_range (da_cons (de_var (pv 0)) da_nil)) (dg_name (pg_name (i := 6) nd (by rfl) (by first | exact Or.inl rfl | exact Or.inr rfl))) (dss_one (ds_app (pv 4) (de_catT (de_var (pv 5)) (de_tup (da_cons (de_var (pv 6)) da_nil))))))))
      (dss_one (ds_mov (i := 2) nd (by rfl) (by first | exact Or.inl rfl | exact Or.inr rfl) (pv 4))))))
      (dss_one (ds_ret (de_var (pv 2))))))
abbrev s__law_numbers_of : Stmt := topS 22
abbrev N__law_numbers_of : List Str := ["words", "n", "found", "word", "k"]
theorem sc__law_numbers_of : FnScope N__law_numbers_of ["words", "n"] (defScope s__law_numbers_of) := ⟨rfl, rfl, rfl, by decide +kernel, rfl, by decide +kernel, by decide +kernel⟩
noncomputable def m__law_numbers_of : Ms → O := (seqS (asgN 2 (lcE (itR1 (aCons (op2 (varE 1) (cE (.int 1)) addO) aNil)) (Tk.nm 4).k yesT (cE (.int 0)) [4]))
  (seqS (forS (itS (varE 0)) (Tk.nm 3).k (setS 2 (op2 (ixV 2 (funE 1 (aCons (varE 3) aNil) Fweight)) (cE (.int 1)) addO) (funE 1 (aCons (varE 3) aNil) Fweight)))
  (retS (calE (aCons (varE 2) aNil) tupO))))
theorem ok__law_numbers_of {f : Addr} {fd : FuncData} (F : Fun K "_law_numbers_of" "_law_numbers_of" s__law_numbers_of f fd) (h_range : mg "range" = none) (h_tuple : mg "tuple" = none) (c__law_weight : Cal P w K mg base "_law_weight" 1 ["word"] (spD K 1 Fweight)) : FnOk P w K mg base (L2.CX P w) 2 f fd ["words", "n"] (spD K 2 (runD 5 m__law_numbers_of)) :=
  defOk F sc__law_numbers_of fun cdv A outer s H E hr => by
    have nd : N__law_numbers_of.Nodup := sc__law_numbers_of.nd
    have tk : Takes (cxOf (L2.CX P w) P w K mg base N__law_numbers_of "_law_numbers_of" (defScope s__law_numbers_of) f cdv A outer s H E) (fun cls d _ H' => E cls d H') := takes_of rfl rfl rfl rfl
    have po : PassesOwn (model P w) (cxOf (L2.CX P w) P w K mg base N__law_numbers_of "_law_numbers_of" (defScope s__law_numbers_of) f cdv A outer s H E).A (cxOf (L2.CX P w) P w K mg base N__law_numbers_of "_law_numbers_of" (defScope s__law_numbers_of) f cdv A outer s H E).env (cxOf (L2.CX P w) P w K mg base N__law_numbers_of "_law_numbers_of" (defScope s__law_numbers_of) f cdv A outer s H E).xe := passes_of rfl
    have hu64 := hr.units
    have hu65 := hu65_of hr
    have hu0 := hr.units0
    have hu1 := hu_of hr
    exact (dss_cons (ds_lcN (i := 2) (by rfl) nd (by rfl) (by rfl) (sw_true (by rfl) (by rfl) (by rfl) (by decide +kernel)) (di_range1 (by rfl) h_range (da_cons (de_add (de_var (pv 1)) de_int) da_nil)) (blkOk_by (own := [("k", 4)]) (N := N__law_numbers_of) (sc := defScope s__law_numbers_of) (by decide +kernel)) (by decide) (fun _ _ _ _ _ => (dg_name (pg_name (i := 4) nd (by rfl) (by first | exact Or.inl rfl | exact Or.inr rfl)))) (fun _ _ _ _ _ => dts_nil) (fun _ _ _ _ _ => de_int))
      (dss_cons (ds_for po (by rfl) (di_seq (de_var (pv 0))) (dg_name (pg_name (i := 3) nd (by rfl) (by first | exact Or.inl rfl | exact Or.inr rfl))) (dss_one (ds_setI (pv 2) (de_cal c__law_weight tk hr (by decide) (by rfl) (da_cons (de_var (pv 3)) da_nil)) (de_add (de_ixV (pv 2) (de_cal c__law_weight tk hr (by decide) (by rfl) (da_cons (de_var (pv 3)) da_nil))) de_int))))
      (dss_one (ds_ret (de_tupc (by rfl) h_tuple (de_var (pv 2)))))))
abbrev s__law_shape : Stmt := topS 23
abbrev N__law_shape : List Str := ["numbers", "p", "n"]
theorem sc__law_shape : FnScope N__law_shape ["numbers"] (defScope s__law_shape) := ⟨rfl, rfl, rfl, by decide +kernel, rfl, by decide +kernel, by decide +kernel⟩
noncomputable def m__law_shape : Ms → O := (seqS (asgS 1 (op2 (frz (lstE (aCons (cE (.int 2)) (aCons (cE (.int 2)) (aCons (cE (.int 3)) (aCons (cE (.int 5)) aNil)))))) (funM 1 0 (aCons (cE (.int 4)) aNil) Fnext) ixO))
  (seqS (asgS 2 (op2 (frz (lstE (aCons (funM 1 0 (aCons (cE (.int 6)) aNil) Fnext) (aCons (funM 1 0 (aCons (cE (.int 5)) aNil) Fnext) (aCons (funM 1 0 (aCons (cE (.int 4)) aNil) Fnext) aNil))))) (op2 (calE (aCons (op2 (varE 1) (cE (.int 2)) gtO) aNil) intO) (calE (aCons (op2 (varE 1) (cE (.int 3)) gtO) aNil) intO) addO) ixO))
  (retS (tupE (aCons (varE 1) (aCons (varE 2) aNil))))))
theorem ok__law_shape {f : Addr} {fd : FuncData} (F : Fun K "_law_shape" "_law_shape" s__law_shape f fd) (h_int : mg "int" = none) (c__law_next : Cal P w K mg base "_law_next" 1 ["numbers", "many"] (spM K 1 Fnext)) : FnOk P w K mg base (L2.CX P w) 2 f fd ["numbers"] (spM K 0 (runM 3 m__law_shape)) :=
  defOkM F sc__law_shape fun cdv A outer s H E hr => by
    have nd : N__law_shape.Nodup := sc__law_shape.nd
    have tk : Takes (cxOf (L2.CX P w) P w K mg base N__law_shape "_law_shape" (defScope s__law_shape) f cdv A outer s H E) (fun cls d _ H' => E cls d H') := takes_of rfl rfl rfl rfl
    have po : PassesOwn (model P w) (cxOf (L2.CX P w) P w K mg base N__law_shape "_law_shape" (defScope s__law_shape) f cdv A outer s H E).A (cxOf (L2.CX P w) P w K mg base N__law_shape "_law_shape" (defScope s__law_shape) f cdv A outer s H E).env (cxOf (L2.CX P w) P w K mg base N__law_shape "_law_shape" (defScope s__law_shape) f cdv A outer s H E).xe := passes_of rfl
    have hu64 := hr.units
    have hu65 := hu65_of hr
    have hu0 := hr.units0
    have hu1 := hu_of hr
    exact (dss_cons (ds_set (i := 1) nd (by rfl) (by first | exact Or.inl rfl | exact Or.inr rfl) (de_sub1 (de_frz (dn_lst (da_cons de_int (da_cons de_int (da_cons de_int (da_cons de_int da_nil)))))) (de_calM c__law_next tk hr (by decide) (by rfl) (pv 0) (da_cons de_int da_nil))))
      (dss_cons (ds_set (i := 2) nd (by rfl) (by first | exact Or.inl rfl | exact Or.inr rfl) (de_sub1 (de_frz (dn_lst (da_cons (de_calM c__law_next tk hr (by decide) (by rfl) (pv 0) (da_cons de_int da_nil)) (da_cons (de_calM c__law_next tk hr (by decide) (by rfl) (pv 0) (da_cons de_int da_nil)) (da_cons (de_calM c__law_next tk hr (by decide) (by rfl) (pv 0) (da_cons de_int da_nil)) da_nil))))) (de_add (de_intc (by rfl) h_int (de_gt (de_var (pv 1)) de_int)) (de_intc (by rfl) h_int (de_gt (de_var (pv 1)) de_int)))))
      (dss_one (ds_ret (de_tup (da_cons (de_var (pv 1)) (da_cons (de_var (pv 2)) da_nil)))))))
abbrev s__law_dual : Stmt := topS 24
abbrev N__law_dual : List Str := ["p", "n", "words", "found", "y", "x", "k"]
theorem sc__law_dual : FnScope N__law_dual ["p", "n", "words"] (defScope s__law_dual) := ⟨rfl, rfl, rfl, by decide +kernel, rfl, by decide +kernel, by decide +kernel⟩
noncomputable def m__law_dual : Ms → O := (seqS (asgN 3 (lstE aNil))
  (seqS (forS (itS (funE 2 (aCons (varE 0) (aCons (varE 1) aNil)) Fall15)) (Tk.nm 4).k (ifS (tst (op2 (calE (aCons (frz (lcE (itS (varE 2)) (Tk.nm 5).k (tst (op2 (op2 (calE (aCons (frz (lcE (itR1 (aCons (varE 1) aNil)) (Tk.nm 6).k yesT (op2 (op2 (varE 5) (varE 6) ixO) (op2 (varE 4) (varE 6) ixO) mulO) [6])) aNil) sumO) (varE 0) modO) (cE (.int 0)) neO)) (varE 5) [5])) aNil) lenO) (cE (.int 0)) eqO)) (appS 3 (varE 4)) nilS))
  (retS (varE 3))))
theorem ok__law_dual {f : Addr} {fd : FuncData} (F : Fun K "_law_dual" "_law_dual" s__law_dual f fd) (h_len : mg "len" = none) (h_range : mg "range" = none) (h_sum : mg "sum" = none) (c__law_all : Cal P w K mg base "_law_all" 1 ["p", "n"] (spD K 2 Fall15)) : FnOk P w K mg base (L2.CX P w) 2 f fd ["p", "n", "words"] (spD K 3 (runD 7 m__law_dual)) :=
  defOk F sc__law_dual fun cdv A outer s H E hr => by
    have nd : N__law_dual.Nodup := sc__law_dual.nd
    have tk : Takes (cxOf (L2.CX P w) P w K mg base N__law_dual "_law_dual" (defScope s__law_dual) f cdv A outer s H E) (fun cls d _ H' => E cls d H') := takes_of rfl rfl rfl rfl
    have po : PassesOwn (model P w) (cxOf (L2.CX P w) P w K mg base N__law_dual "_law_dual" (defScope s__law_dual) f cdv A outer s H E).A (cxOf (L2.CX P w) P w K mg base N__law_dual "_law_dual" (defScope s__law_dual) f cdv A outer s H E).env (cxOf (L2.CX P w) P w K mg base N__law_dual "_law_dual" (defScope s__law_dual) f cdv A outer s H E).xe := passes_of rfl
    have hu64 := hr.units
    have hu65 := hu65_of hr
    have hu0 := hr.units0
    have hu1 := hu_of hr
    exact (dss_cons (ds_setN (i := 3) nd (by rfl) (by first | exact Or.inl rfl | exact Or.inr rfl) (dn_lst da_nil))
      (dss_cons (ds_for po (by rfl) (di_seq (de_cal c__law_all tk hr (by decide) (by rfl) (da_cons (de_var (pv 0)) (da_cons (de_var (pv 1)) da_nil)))) (dg_name (pg_name (i := 4) nd (by rfl) (by first | exact Or.inl rfl | exact Or.inr rfl))) (dss_one (ds_if (dt_eq hu64 (de_len (by rfl) h_len (de_frz (dn_lc (by rfl) nd (di_seq (de_var (pv 2))) (blkOk_by (own := [("x", 5)]) (N := N__law_dual) (sc := defScope s__law_dual) (by decide +kernel)) (by decide) (fun _ _ _ _ _ => (dg_name (pg_name (i := 5) nd (by rfl) (by first | exact Or.inl rfl | exact Or.inr rfl)))) (fun _ _ _ _ _ => (dts_one (dt_ne hu64 (de_mod (de_sum (by rfl) (by rfl) h_sum (de_frz (dn_lc (by rfl) nd (di_range1 (by rfl) h_range (da_cons (de_var (pv 1)) da_nil)) (blkOk_by (own := [("k", 6)]) (N := N__law_dual) (sc := _) (by kernel_rfl)) (by decide) (fun _ _ _ _ _ => (dg_name (pg_name (i := 6) nd (by rfl) (by first | exact Or.inl rfl | exact Or.inr rfl)))) (fun _ _ _ _ _ => dts_nil) (fun _ _ _ _ _ => (de_mul (de_sub1 (de_var (pv 5)) (de_var (pv 6))) (de_sub1 (de_var (pv 4)) (de_var (pv 6)))))))) (de_var (pv 0))) de_int))) (fun _ _ _ _ _ => (de_var (pv 5)))))) de_int) (dss_one (ds_app (pv 3) (de_var (pv 4)))) dss_nil)))
      (dss_one (ds_ret (de_var (pv 3))))))
abbrev s__law_places : Stmt := topS 25
abbrev N__law_places : List Str := ["n", "s", "found", "k", "places"]
theorem sc__law_places : FnScope N__law_places ["n", "s"] (defScope s__law_places) := ⟨rfl, rfl, rfl, by decide +kernel, rfl, by decide +kernel, by decide +kernel⟩
noncomputable def m__law_places : Ms → O := (seqS (asgS 2 (frz (lstE (aCons (tupE aNil) aNil))))
  (seqS (forS (itR1 (aCons (varE 0) aNil)) (Tk.nm 3).k (asgS 2 (frz (opN (varE 2) (frz (lcE (itS (varE 2)) (Tk.nm 4).k yesT (op2 (varE 4) (tupE (aCons (varE 3) aNil)) catT) [4])) catL))))
  (retS (frz (lcE (itS (varE 2)) (Tk.nm 4).k (tst (op2 (calE (aCons (varE 4) aNil) lenO) (varE 1) eqO)) (varE 4) [4])))))
theorem ok__law_places {f : Addr} {fd : FuncData} (F : Fun K "_law_places" "_law_places" s__law_places f fd) (h_len : mg "len" = none) (h_range : mg "range" = none) : FnOk P w K mg base (L2.CX P w) 1 f fd ["n", "s"] (spD K 2 (runD 5 m__law_places)) :=
  defOk F sc__law_places fun cdv A outer s H E hr => by
    have nd : N__law_places.Nodup := sc__law_places.nd
    have tk : Takes (cxOf (L2.CX P w) P w K mg base N__law_places "_law_places" (defScope s__law_places) f cdv A outer s H E) (fun cls d _ H' => E cls d H') := takes_of rfl rfl rfl rfl
    have po : PassesOwn (model P w) (cxOf (L2.CX P w) P w K mg base N__law_places "_law_places" (defScope s__law_places) f cdv A outer s H E).A (cxOf (L2.CX P w) P w K mg base N__law_places "_law_places" (defScope s__law_places) f cdv A outer s H E).env (cxOf (L2.CX P w) P w K mg base N__law_places "_law_places" (defScope s__law_places) f cdv A outer s H E).xe := passes_of rfl
    have hu64 := hr.units
    have hu65 := hu65_of hr
    have hu0 := hr.units0
    have hu1 := hu_of hr
    exact (dss_cons (ds_set (i := 2) nd (by rfl) (by first | exact Or.inl rfl | exact Or.inr rfl) (de_frz (dn_lst (da_cons (de_tup da_nil) da_nil))))
      (dss_cons (ds_for po (by rfl) (di_range1 (by rfl) h_range (da_cons (de_var (pv 0)) da_nil)) (dg_name (pg_name (i := 3) nd (by rfl) (by first | exact Or.inl rfl | exact Or.inr rfl))) (dss_one (ds_set (i := 2) nd (by rfl) (by first | exact Or.inl rfl | exact Or.inr rfl) (de_frz (dn_catL (de_var (pv 2)) (de_frz (dn_lc (by rfl) nd (di_seq (de_var (pv 2))) (blkOk_by (own := [("places", 4)]) (N := N__law_places) (sc := defScope s__law_places) (by decide +kernel)) (by decide) (fun _ _ _ _ _ => (dg_name (pg_name (i := 4) nd (by rfl) (by first | exact Or.inl rfl | exact Or.inr rfl)))) (fun _ _ _ _ _ => dts_nil) (fun _ _ _ _ _ => (de_catT (de_var (pv 4)) (de_tup (da_cons (de_var (pv 3)) da_nil)))))))))))
      (dss_one (ds_ret (de_frz (dn_lc (by rfl) nd (di_seq (de_var (pv 2))) (blkOk_by (own := [("places", 4)]) (N := N__law_places) (sc := defScope s__law_places) (by decide +kernel)) (by decide) (fun _ _ _ _ _ => (dg_name (pg_name (i := 4) nd (by rfl) (by first | exact Or.inl rfl | exact Or.inr rfl)))) (fun _ _ _ _ _ => (dts_one (dt_eq hu64 (de_len (by rfl) h_len (de_var (pv 4))) (de_var (pv 1))))) (fun _ _ _ _ _ => (de_var (pv 4)))))))))
abbrev s__law_zero_pairs : Stmt := topS 26
abbrev N__law_zero_pairs : List Str := ["words", "places", "total", "word", "chosen", "k"]
theorem sc__law_zero_pairs : FnScope N__law_zero_pairs ["words", "places"] (defScope s__law_zero_pairs) := ⟨rfl, rfl, rfl, by decide +kernel, rfl, by decide +kernel, by decide +kernel⟩
noncomputable def m__law_zero_pairs : Ms → O := (seqS (asgS 2 (cE (.int 0)))
  (seqS (forS (itS (varE 0)) (Tk.nm 3).k (forS (itS (varE 1)) (Tk.nm 4).k (asgS 2 (op2 (varE 2) (calE (aCons (op2 (calE (aCons (frz (lcE (itS (varE 4)) (Tk.nm 5).k (tst (op2 (op2 (varE 3) (varE 5) ixO) (cE (.int 0)) neO)) (varE 5) [5])) aNil) lenO) (cE (.int 0)) eqO) aNil) intO) addO))))
  (retS (varE 2))))
theorem ok__law_zero_pairs {f : Addr} {fd : FuncData} (F : Fun K "_law_zero_pairs" "_law_zero_pairs" s__law_zero_pairs f fd) (h_int : mg "int" = none) (h_len : mg "len" = none) : FnOk P w K mg base (L2.CX P w) 1 f fd ["words", "places"] (spD K 2 (runD 6 m__law_zero_pairs)) :=
  defOk F sc__law_zero_pairs fun cdv A outer s H E hr => by
    have nd : N__law_zero_pairs.Nodup := sc__law_zero_pairs.nd
    have tk : Takes (cxOf (L2.CX P w) P w K mg base N__law_zero_pairs "_law_zero_pairs" (defScope s__law_zero_pairs) f cdv A outer s H E) (fun cls d _ H' => E cls d H') := takes_of rfl rfl rfl rfl
    have po : PassesOwn (model P w) (cxOf (L2.CX P w) P w K mg base N__law_zero_pairs "_law_zero_pairs" (defScope s__law_zero_pairs) f cdv A outer s H E).A (cxOf (L2.CX P w) P w K mg base N__law_zero_pairs "_law_zero_pairs" (defScope s__law_zero_pairs) f cdv A outer s H E).env (cxOf (L2.CX P w) P w K mg base N__law_zero_pairs "_law_zero_pairs" (defScope s__law_zero_pairs) f cdv A outer s H E).xe := passes_of rfl
    have hu64 := hr.units
    have hu65 := hu65_of hr
    have hu0 := hr.units0
    have hu1 := hu_of hr
    exact (dss_cons (ds_set (i := 2) nd (by rfl) (by first | exact Or.inl rfl | exact Or.inr rfl) de_int)
      (dss_cons (ds_for po (by rfl) (di_seq (de_var (pv 0))) (dg_name (pg_name (i := 3) nd (by rfl) (by first | exact Or.inl rfl | exact Or.inr rfl))) (dss_one (ds_for po (by rfl) (di_seq (de_var (pv 1))) (dg_name (pg_name (i := 4) nd (by rfl) (by first | exact Or.inl rfl | exact Or.inr rfl))) (dss_one (ds_set (i := 2) nd (by rfl) (by first | exact Or.inl rfl | exact Or.inr rfl) (de_add (de_var (pv 2)) (de_intc (by rfl) h_int (de_eq hu64 (de_len (by rfl) h_len (de_frz (dn_lc (by rfl) nd (di_seq (de_var (pv 4))) (blkOk_by (own := [("k", 5)]) (N := N__law_zero_pairs) (sc := defScope s__law_zero_pairs) (by decide +kernel)) (by decide) (fun _ _ _ _ _ => (dg_name (pg_name (i := 5) nd (by rfl) (by first | exact Or.inl rfl | exact Or.inr rfl)))) (fun _ _ _ _ _ => (dts_one (dt_ne hu64 (de_sub1 (de_var (pv 3)) (de_var (pv 5))) de_int))) (fun _ _ _ _ _ => (de_var (pv 5)))))) de_int))))))))
      (dss_one (ds_ret (de_var (pv 2))))))
abbrev s__law_told : Stmt := topS 27
abbrev N__law_told : List Str := ["p", "n", "numbers", "e"]
theorem sc__law_told : FnScope N__law_told ["p", "n", "numbers"] (defScope s__law_told) := ⟨rfl, rfl, rfl, by decide +kernel, rfl, by decide +kernel, by decide +kernel⟩
noncomputable def m__law_told (CM CR : Addr) : Ms → O := (tryM CR "reason" 3 CM "malformed" (retS (funE 3 (aCons (varE 0) (aCons (varE 1) (aCons (varE 2) aNil))) (Fmac CM CR))))
theorem ok__law_told {f : Addr} {fd : FuncData} (F : Fun K "_law_told" "_law_told" s__law_told f fd) {CM CR : Addr} (R_Malformed : RaN P w K mg base "Malformed" CM) (R_Refused : RaS P w K mg base "Refused" CR "reason") (e_Malformed_Refused : PySem.W.exmOne K (.ref CM) (.ref CR) = some false) (c_macwilliams : Cal P w K mg base "macwilliams" 4 ["p", "n", "numbers"] (spD K 3 (Fmac CM CR))) : FnOk P w K mg base (L2.CX P w) 5 f fd ["p", "n", "numbers"] (spD K 3 (runD 4 (m__law_told CM CR))) :=
  defOk F sc__law_told fun cdv A outer s H E hr => by
    have nd : N__law_told.Nodup := sc__law_told.nd
    have tk : Takes (cxOf (L2.CX P w) P w K mg base N__law_told "_law_told" (defScope s__law_told) f cdv A outer s H E) (fun cls d _ H' => E cls d H') := takes_of rfl rfl rfl rfl
    have po : PassesOwn (model P w) (cxOf (L2.CX P w) P w K mg base N__law_told "_law_told" (defScope s__law_told) f cdv A outer s H E).A (cxOf (L2.CX P w) P w K mg base N__law_told "_law_told" (defScope s__law_told) f cdv A outer s H E).env (cxOf (L2.CX P w) P w K mg base N__law_told "_law_told" (defScope s__law_told) f cdv A outer s H E).xe := passes_of rfl
    have hu64 := hr.units
    have hu65 := hu65_of hr
    have hu0 := hr.units0
    have hu1 := hu_of hr
    exact (dss_one (ds_tryM (i := 3) ⟨R_Refused.gC, R_Refused.xc, R_Refused.nf, R_Refused.e1⟩ ⟨R_Malformed.gC, R_Malformed.e1, e_Malformed_Refused⟩ (by rfl) (by rfl) nd (by rfl) (by rfl) (by rfl) (by rfl) tk (fun W pn xe tk po => (dss_one (ds_ret (de_cal c_macwilliams tk hr (by decide) (by rfl) (da_cons (de_var (pv 0)) (da_cons (de_var (pv 1)) (da_cons (de_var (pv 2)) da_nil))))))) (fun _ _ _ => pv 3)))
abbrev s__law_turning : Stmt := topS 28
abbrev N__law_turning : List Str := ["p", "n", "words", "table", "i", "x", "row", "y", "c", "j", "k"]
theorem sc__law_turning : FnScope N__law_turning ["p", "n"] (defScope s__law_turning) := ⟨rfl, rfl, rfl, by decide +kernel, rfl, by decide +kernel, by decide +kernel⟩
noncomputable def m__law_turning : Ms → O := (seqS (asgS 2 (funE 2 (aCons (varE 0) (aCons (varE 1) aNil)) Fall15))
  (seqS (asgN 3 (lstE aNil))
  (seqS (forS (itR1 (aCons (op2 (varE 1) (cE (.int 1)) addO) aNil)) (Tk.nm 4).k (seqS (asgS 5 (calE (aCons (frz (lcE (itR1 (aCons (varE 1) aNil)) (Tk.nm 10).k yesT (calE (aCons (op2 (varE 10) (varE 4) ltO) aNil) intO) [10])) aNil) tupO))
  (seqS (asgN 6 (lcE (itR1 (aCons (op2 (varE 1) (cE (.int 1)) addO) aNil)) (Tk.nm 9).k yesT (cE (.int 0)) [9]))
  (seqS (forS (itS (varE 2)) (Tk.nm 7).k (seqS (asgS 8 (op2 (calE (aCons (frz (lcE (itR1 (aCons (varE 1) aNil)) (Tk.nm 10).k yesT (op2 (op2 (varE 5) (varE 10) ixO) (op2 (varE 7) (varE 10) ixO) mulO) [10])) aNil) sumO) (varE 0) modO))
  (setS 6 (op2 (op2 (ixV 6 (funE 1 (aCons (varE 7) aNil) Fweight)) (calE (aCons (op2 (varE 8) (cE (.int 0)) eqO) aNil) intO) addO) (calE (aCons (op2 (varE 8) (cE (.int 1)) eqO) aNil) intO) subO) (funE 1 (aCons (varE 7) aNil) Fweight))))
  (appS 3 (varE 6))))))
  (retS (varE 3)))))
theorem ok__law_turning {f : Addr} {fd : FuncData} (F : Fun K "_law_turning" "_law_turning" s__law_turning f fd) (h_int : mg "int" = none) (h_range : mg "range" = none) (h_sum : mg "sum" = none) (h_tuple : mg "tuple" = none) (c__law_weight : Cal P w K mg base "_law_weight" 1 ["word"] (spD K 1 Fweight)) (c__law_all : Cal P w K mg base "_law_all" 1 ["p", "n"] (spD K 2 Fall15)) : FnOk P w K mg base (L2.CX P w) 2 f fd ["p", "n"] (spD K 2 (runD 11 m__law_turning)) :=
  defOk F sc__law_turning fun cdv A outer s H E hr => by
    have nd : N__law_turning.Nodup := sc__law_turning.nd
    have tk : Takes (cxOf (L2.CX P w) P w K mg base N__law_turning "_law_turning" (defScope s__law_turning) f cdv A outer s H E) (fun cls d _ H' => E cls d H') := takes_of rfl rfl rfl rfl
    have po : PassesOwn (model P w) (cxOf (L2.CX P w) P w K mg base N__law_turning "_law_turning" (defScope s__law_turning) f cdv A outer s H E).A (cxOf (L2.CX P w) P w K mg base N__law_turning "_law_turning" (defScope s__law_turning) f cdv A outer s H E).env (cxOf (L2.CX P w) P w K mg base N__law_turning "_law_turning" (defScope s__law_turning) f cdv A outer s H E).xe := passes_of rfl
    have hu64 := hr.units
    have hu65 := hu65_of hr
    have hu0 := hr.units0
    have hu1 := hu_of hr
    exact (dss_cons (ds_set (i := 2) nd (by rfl) (by first | exact Or.inl rfl | exact Or.inr rfl) (de_cal c__law_all tk hr (by decide) (by rfl) (da_cons (de_var (pv 0)) (da_cons (de_var (pv 1)) da_nil))))
      (dss_cons (ds_setN (i := 3) nd (by rfl) (by first | exact Or.inl rfl | exact Or.inr rfl) (dn_lst da_nil))
      (dss_cons (ds_for po (by rfl) (di_range1 (by rfl) h_range (da_cons (de_add (de_var (pv 1)) de_int) da_nil)) (dg_name (pg_name (i := 4) nd (by rfl) (by first | exact Or.inl rfl | exact Or.inr rfl))) (dss_cons (ds_set (i := 5) nd (by rfl) (by first | exact Or.inl rfl | exact Or.inr rfl) (de_tupc (by rfl) h_tuple (de_frz (dn_lc (by rfl) nd (di_range1 (by rfl) h_range (da_cons (de_var (pv 1)) da_nil)) (blkOk_by (own := [("k", 10)]) (N := N__law_turning) (sc := defScope s__law_turning) (by decide +kernel)) (by decide) (fun _ _ _ _ _ => (dg_name (pg_name (i := 10) nd (by rfl) (by first | exact Or.inl rfl | exact Or.inr rfl)))) (fun _ _ _ _ _ => dts_nil) (fun _ _ _ _ _ => (de_intc (by rfl) h_int (de_lt (de_var (pv 10)) (de_var (pv 4)))))))))
      (dss_cons (ds_lcN (i := 6) (by rfl) nd (by rfl) (by rfl) (sw_true (by rfl) (by rfl) (by rfl) (by decide +kernel)) (di_range1 (by rfl) h_range (da_cons (de_add (de_var (pv 1)) de_int) da_nil)) (blkOk_by (own := [("j", 9)]) (N := N__law_turning) (sc := defScope s__law_turning) (by decide +kernel)) (by decide) (fun _ _ _ _ _ => (dg_name (pg_name (i := 9) nd (by rfl) (by first | exact Or.inl rfl | exact Or.inr rfl)))) (fun _ _ _ _ _ => dts_nil) (fun _ _ _ _ _ => de_int))
      (dss_cons (ds_for po (by rfl) (di_seq (de_var (pv 2))) (dg_name (pg_name (i := 7) nd (by rfl) (by first | exact Or.inl rfl | exact Or.inr rfl))) (dss_cons (ds_set (i := 8) nd (by rfl) (by first | exact Or.inl rfl | exact Or.inr rfl) (de_mod (de_sum (by rfl) (by rfl) h_sum (de_frz (dn_lc (by rfl) nd (di_range1 (by rfl) h_range (da_cons (de_var (pv 1)) da_nil)) (blkOk_by (own := [("k", 10)]) (N := N__law_turning) (sc := defScope s__law_turning) (by decide +kernel)) (by decide) (fun _ _ _ _ _ => (dg_name (pg_name (i := 10) nd (by rfl) (by first | exact Or.inl rfl | exact Or.inr rfl)))) (fun _ _ _ _ _ => dts_nil) (fun _ _ _ _ _ => (de_mul (de_sub1 (de_var (pv 5)) (de_var (pv 10))) (de_sub1 (de_var (pv 7)) (de_var (pv 10)))))))) (de_var (pv 0))))
      (dss_one (ds_setI (pv 6) (de_cal c__law_weight tk hr (by decide) (by rfl) (da_cons (de_var (pv 7)) da_nil)) (de_sub (de_add (de_ixV (pv 6) (de_cal c__law_weight tk hr (by decide) (by rfl) (da_cons (de_var (pv 7)) da_nil))) (de_intc (by rfl) h_int (de_eq hu64 (de_var (pv 8)) de_int))) (de_intc (by rfl) h_int (de_eq hu64 (de_var (pv 8)) de_int)))))))
      (dss_one (ds_app (pv 3) (de_var (pv 6))))))))
      (dss_one (ds_ret (de_var (pv 3)))))))
abbrev s__law_due : Stmt := topS 29
abbrev N__law_due : List Str := ["p", "n", "numbers", "table", "found", "j", "total", "i"]
theorem sc__law_due : FnScope N__law_due ["p", "n", "numbers"] (defScope s__law_due) := ⟨rfl, rfl, rfl, by decide +kernel, rfl, by decide +kernel, by decide +kernel⟩
noncomputable def m__law_due : Ms → O := (seqS (asgS 3 (funE 2 (aCons (varE 0) (aCons (varE 1) aNil)) Fturn))
  (seqS (asgN 4 (lstE aNil))
  (seqS (forS (itR1 (aCons (op2 (varE 1) (cE (.int 1)) addO) aNil)) (Tk.nm 5).k (seqS (asgS 6 (calE (aCons (frz (lcE (itR1 (aCons (op2 (varE 1) (cE (.int 1)) addO) aNil)) (Tk.nm 7).k yesT (op2 (op2 (varE 2) (varE 7) ixO) (op2 (op2 (varE 3) (varE 7) ixO) (varE 5) ixO) mulO) [7])) aNil) sumO))
  (seqS (ifS (tst (op2 (op2 (varE 6) (calE (aCons (varE 2) aNil) sumT) modO) (cE (.int 0)) neO)) (retS (cE (.str "fraction"))) nilS)
  (appS 4 (op2 (varE 6) (calE (aCons (varE 2) aNil) sumT) divO)))))
  (retS (calE (aCons (varE 4) aNil) tupO)))))
theorem ok__law_due {f : Addr} {fd : FuncData} (F : Fun K "_law_due" "_law_due" s__law_due f fd) (h_range : mg "range" = none) (h_sum : mg "sum" = none) (h_tuple : mg "tuple" = none) (c__law_turning : Cal P w K mg base "_law_turning" 2 ["p", "n"] (spD K 2 Fturn)) : FnOk P w K mg base (L2.CX P w) 3 f fd ["p", "n", "numbers"] (spD K 3 (runD 8 m__law_due)) :=
  defOk F sc__law_due fun cdv A outer s H E hr => by
    have nd : N__law_due.Nodup := sc__law_due.nd
    have tk : Takes (cxOf (L2.CX P w) P w K mg base N__law_due "_law_due" (defScope s__law_due) f cdv A outer s H E) (fun cls d _ H' => E cls d H') := takes_of rfl rfl rfl rfl
    have po : PassesOwn (model P w) (cxOf (L2.CX P w) P w K mg base N__law_due "_law_due" (defScope s__law_due) f cdv A outer s H E).A (cxOf (L2.CX P w) P w K mg base N__law_due "_law_due" (defScope s__law_due) f cdv A outer s H E).env (cxOf (L2.CX P w) P w K mg base N__law_due "_law_due" (defScope s__law_due) f cdv A outer s H E).xe := passes_of rfl
    have hu64 := hr.units
    have hu65 := hu65_of hr
    have hu0 := hr.units0
    have hu1 := hu_of hr
    exact (dss_cons (ds_set (i := 3) nd (by rfl) (by first | exact Or.inl rfl | exact Or.inr rfl) (de_cal c__law_turning tk hr (by decide) (by rfl) (da_cons (de_var (pv 0)) (da_cons (de_var (pv 1)) da_nil))))
      (dss_cons (ds_setN (i := 4) nd (by rfl) (by first | exact Or.inl rfl | exact Or.inr rfl) (dn_lst da_nil))
      (dss_cons (ds_for po (by rfl) (di_range1 (by rfl) h_range (da_cons (de_add (de_var (pv 1)) de_int) da_nil)) (dg_name (pg_name (i := 5) nd (by rfl) (by first | exact Or.inl rfl | exact Or.inr rfl))) (dss_cons (ds_set (i := 6) nd (by rfl) (by first | exact Or.inl rfl | exact Or.inr rfl) (de_sum (by rfl) (by rfl) h_sum (de_frz (dn_lc (by rfl) nd (di_range1 (by rfl) h_range (da_cons (de_add (de_var (pv 1)) de_int) da_nil)) (blkOk_by (own := [("i", 7)]) (N := N__law_due) (sc := defScope s__law_due) (by decide +kernel)) (by decide) (fun _ _ _ _ _ => (dg_name (pg_name (i := 7) nd (by rfl) (by first | exact Or.inl rfl | exact Or.inr rfl)))) (fun _ _ _ _ _ => dts_nil) (fun _ _ _ _ _ => (de_mul (de_sub1 (de_var (pv 2)) (de_var (pv 7))) (de_sub1 (de_sub1 (de_var (pv 3)) (de_var (pv 7))) (de_var (pv 5)))))))))
      (dss_cons (ds_if (dt_ne hu64 (de_mod (de_var (pv 6)) (de_sumT (by rfl) (by rfl) h_sum (de_var (pv 2)))) de_int) (dss_one (ds_ret de_str)) dss_nil)
      (dss_one (ds_app (pv 4) (de_div (de_var (pv 6)) (de_sumT (by rfl) (by rfl) h_sum (de_var (pv 2)))))))))
      (dss_one (ds_ret (de_tupc (by rfl) h_tuple (de_var (pv 4))))))))
abbrev s_law : Stmt := topS 30
abbrev N_law : List Str := ["script", "numbers", "words", "dual", "one", "two", "s", "power_v", "turn", "at", "changed", "zeros", "bad", "p", "n", "k"]
theorem sc_law : FnScope N_law ["script"] (defScope s_law) := ⟨rfl, rfl, rfl, by decide +kernel, rfl, by decide +kernel, by decide +kernel⟩
noncomputable def m_law (CM CR : Addr) : Ms → O := (seqS (asgN 1 (funN 1 (aCons (varE 0) aNil) Fnumbers))
  (seqS (asgT (Tk.tp [13, 14]) (funM 0 1 aNil Fshape))
  (seqS (asgS 2 (funE 3 (aCons (varE 13) (aCons (varE 14) (aCons (funM 3 1 (aCons (varE 13) (aCons (varE 14) (aCons (cE (.int 3)) aNil))) Frows16) aNil))) Fwords16))
  (seqS (asgS 3 (funE 3 (aCons (varE 13) (aCons (varE 14) (aCons (varE 2) aNil))) Fdual))
  (seqS (asgS 4 (funE 2 (aCons (varE 2) (aCons (varE 14) aNil)) Fnof))
  (seqS (asgS 5 (funE 2 (aCons (varE 3) (aCons (varE 14) aNil)) Fnof))
  (seqS (ifS (orT (tst (op2 (funE 3 (aCons (varE 13) (aCons (varE 14) (aCons (varE 4) aNil))) (Ftold CM CR)) (varE 5) neO)) (tst (op2 (funE 3 (aCons (varE 13) (aCons (varE 14) (aCons (varE 5) aNil))) (Ftold CM CR)) (varE 4) neO))) (retS (cE (.bl false))) nilS)
  (seqS (asgS 6 (funM 1 1 (aCons (op2 (varE 14) (cE (.int 1)) addO) aNil) Fnext))
  (seqS (ifS (tst (op2 (funE 2 (aCons (varE 4) (aCons (varE 6) aNil)) Fbmom) (funE 2 (aCons (varE 2) (aCons (funE 2 (aCons (varE 14) (aCons (varE 6) aNil)) Fplaces) aNil)) Fzp) neO)) (retS (cE (.bl false))) nilS)
  (seqS (asgS 7 (cE (.int 1)))
  (seqS (forS (itR1 (aCons (varE 6) aNil)) (Tk.nm 8).k (asgS 7 (op2 (varE 7) (varE 13) mulO)))
  (seqS (ifS (tst (op2 (op2 (funE 2 (aCons (varE 4) (aCons (varE 6) aNil)) Fbmom) (varE 7) mulO) (op2 (calE (aCons (varE 2) aNil) lenO) (funE 2 (aCons (varE 5) (aCons (op2 (varE 14) (varE 6) subO) aNil)) Fbmom) mulO) neO)) (retS (cE (.bl false))) nilS)
  (seqS (asgS 9 (funM 1 1 (aCons (op2 (varE 14) (cE (.int 1)) addO) aNil) Fnext))
  (seqS (asgS 10 (op2 (op2 (slT (varE 4) oNone (oSome (varE 9))) (tupE (aCons (op2 (op2 (op2 (varE 4) (varE 9) ixO) (cE (.int 1)) addO) (funM 1 1 (aCons (cE (.int 3)) aNil) Fnext) addO) aNil)) catT) (slT (varE 4) (oSome (op2 (varE 9) (cE (.int 1)) addO)) oNone) catT))
  (seqS (ifS (tst (op2 (funE 3 (aCons (varE 13) (aCons (varE 14) (aCons (varE 10) aNil))) (Ftold CM CR)) (funE 3 (aCons (varE 13) (aCons (varE 14) (aCons (varE 10) aNil))) Fdue) neO)) (retS (cE (.bl false))) nilS)
  (seqS (asgS 11 (calE (aCons (frz (lcE (itR1 (aCons (op2 (varE 14) (cE (.int 1)) addO) aNil)) (Tk.nm 15).k yesT (cE (.int 0)) [15])) aNil) tupO))
  (seqS (forS (itS (frz (lstE (aCons (op2 (varE 4) (tupE (aCons (cE (.int 0)) aNil)) catT) (aCons (slT (varE 4) (oSome (cE (.int 1))) oNone) (aCons (frz (calN (aCons (varE 4) aNil) lstO)) (aCons (cE .non) (aCons (varE 11) (aCons (op2 (tupE (aCons (op1 (cE (.int 1)) negO) aNil)) (slT (varE 4) (oSome (cE (.int 1))) oNone) catT) (aCons (op2 (tupE (aCons (cE (.bl true)) aNil)) (slT (varE 4) (oSome (cE (.int 1))) oNone) catT) (aCons (op2 (tupE (aCons (cE .non) aNil)) (slT (varE 4) (oSome (cE (.int 1))) oNone) catT) aNil))))))))))) (Tk.nm 12).k (ifS (tst (op2 (funE 3 (aCons (varE 13) (aCons (varE 14) (aCons (varE 12) aNil))) (Ftold CM CR)) (cE (.str "malformed")) neO)) (retS (cE (.bl false))) nilS))
  (retS (cE (.bl true))))))))))))))))))))
theorem ok_law {f : Addr} {fd : FuncData} (F : Fun K "law" "law" s_law f fd) {CM CR : Addr} (h_len : mg "len" = none) (h_list : mg "list" = none) (h_range : mg "range" = none) (h_tuple : mg "tuple" = none) (c__law_told : Cal P w K mg base "_law_told" 5 ["p", "n", "numbers"] (spD K 3 (Ftold CM CR))) (c__law_due : Cal P w K mg base "_law_due" 3 ["p", "n", "numbers"] (spD K 3 Fdue)) (c__law_next : Cal P w K mg base "_law_next" 1 ["numbers", "many"] (spM K 1 Fnext)) (c_binomial_moment : Cal P w K mg base "binomial_moment" 2 ["numbers", "s"] (spD K 2 Fbmom)) (c__law_zero_pairs : Cal P w K mg base "_law_zero_pairs" 1 ["words", "places"] (spD K 2 Fzp)) (c__law_places : Cal P w K mg base "_law_places" 1 ["n", "s"] (spD K 2 Fplaces)) (c__law_numbers_of : Cal P w K mg base "_law_numbers_of" 2 ["words", "n"] (spD K 2 Fnof)) (c__law_dual : Cal P w K mg base "_law_dual" 2 ["p", "n", "words"] (spD K 3 Fdual)) (c__law_words : Cal P w K mg base "_law_words" 1 ["p", "n", "rows"] (spD K 3 Fwords16)) (c__law_rows : Cal P w K mg base "_law_rows" 2 ["numbers", "p", "n", "most"] (spM K 3 Frows16)) (c__law_shape : Cal P w K mg base "_law_shape" 2 ["numbers"] (spM K 0 Fshape)) (c__law_numbers : Cal P w K mg base "_law_numbers" 1 ["script"] (spN K 1 Fnumbers)) : FnOk P w K mg base (L2.CX P w) 6 f fd ["script"] (Lq.spLaw K) :=
  lawOk F sc_law (fun ns h => run_law16 CM CR ns h) fun cdv A outer s H E hr => by
    have nd : N_law.Nodup := sc_law.nd
    have tk : Takes (cxOf (L2.CX P w) P w K mg base N_law "law" (defScope s_law) f cdv A outer s H E) (fun cls d _ H' => E cls d H') := takes_of rfl rfl rfl rfl
    have po : PassesOwn (model P w) (cxOf (L2.CX P w) P w K mg base N_law "law" (defScope s_law) f cdv A outer s H E).A (cxOf (L2.CX P w) P w K mg base N_law "law" (defScope s_law) f cdv A outer s H E).env (cxOf (L2.CX P w) P w K mg base N_law "law" (defScope s_law) f cdv A outer s H E).xe := passes_of rfl
    have hu64 := hr.units
    have hu65 := hu65_of hr
    have hu0 := hr.units0
    have hu1 := hu_of hr
    exact (dss_cons (ds_setN (i := 1) nd (by rfl) (by first | exact Or.inl rfl | exact Or.inr rfl) (dn_cal c__law_numbers tk hr (by decide) (by rfl) (da_cons (de_var (pv 0)) da_nil)))
      (dss_cons (ds_tgt (de_calM c__law_shape tk hr (by decide) (by rfl) (pv 1) da_nil) (dg_tup (by rfl) (dgs_cons (pg_name (i := 13) nd (by rfl) (by first | exact Or.inl rfl | exact Or.inr rfl)) (dgs_cons (pg_name (i := 14) nd (by rfl) (by first | exact Or.inl rfl | exact Or.inr rfl)) dgs_nil))))
      (dss_cons (ds_set (i := 2) nd (by rfl) (by first | exact Or.inl rfl | exact Or.inr rfl) (de_cal c__law_words tk hr (by decide) (by rfl) (da_cons (de_var (pv 13)) (da_cons (de_var (pv 14)) (da_cons (de_calM c__law_rows tk hr (by decide) (by rfl) (pv 1) (da_cons (de_var (pv 13)) (da_cons (de_var (pv 14)) (da_cons de_int da_nil)))) da_nil)))))
      (dss_cons (ds_set (i := 3) nd (by rfl) (by first | exact Or.inl rfl | exact Or.inr rfl) (de_cal c__law_dual tk hr (by decide) (by rfl) (da_cons (de_var (pv 13)) (da_cons (de_var (pv 14)) (da_cons (de_var (pv 2)) da_nil)))))
      (dss_cons (ds_set (i := 4) nd (by rfl) (by first | exact Or.inl rfl | exact Or.inr rfl) (de_cal c__law_numbers_of tk hr (by decide) (by rfl) (da_cons (de_var (pv 2)) (da_cons (de_var (pv 14)) da_nil))))
      (dss_cons (ds_set (i := 5) nd (by rfl) (by first | exact Or.inl rfl | exact Or.inr rfl) (de_cal c__law_numbers_of tk hr (by decide) (by rfl) (da_cons (de_var (pv 3)) (da_cons (de_var (pv 14)) da_nil))))
      (dss_cons (ds_if (PW.pt (dw_or (dt_ne hu64 (de_cal c__law_told tk hr (by decide) (by rfl) (da_cons (de_var (pv 13)) (da_cons (de_var (pv 14)) (da_cons (de_var (pv 4)) da_nil)))) (de_var (pv 5))) (dw_or1 (dt_ne hu64 (de_cal c__law_told tk hr (by decide) (by rfl) (da_cons (de_var (pv 13)) (da_cons (de_var (pv 14)) (da_cons (de_var (pv 5)) da_nil)))) (de_var (pv 4)))))) (dss_one (ds_ret de_bl)) dss_nil)
      (dss_cons (ds_set (i := 6) nd (by rfl) (by first | exact Or.inl rfl | exact Or.inr rfl) (de_calM c__law_next tk hr (by decide) (by rfl) (pv 1) (da_cons (de_add (de_var (pv 14)) de_int) da_nil)))
      (dss_cons (ds_if (dt_ne hu64 (de_cal c_binomial_moment tk hr (by decide) (by rfl) (da_cons (de_var (pv 4)) (da_cons (de_var (pv 6)) da_nil))) (de_cal c__law_zero_pairs tk hr (by decide) (by rfl) (da_cons (de_var (pv 2)) (da_cons (de_cal c__law_places tk hr (by decide) (by rfl) (da_cons (de_var (pv 14)) (da_cons (de_var (pv 6)) da_nil))) da_nil)))) (dss_one (ds_ret de_bl)) dss_nil)
      (dss_cons (ds_set (i := 7) nd (by rfl) (by first | exact Or.inl rfl | exact Or.inr rfl) de_int)
      (dss_cons (ds_for po (by rfl) (di_range1 (by rfl) h_range (da_cons (de_var (pv 6)) da_nil)) (dg_name (pg_name (i := 8) nd (by rfl) (by first | exact Or.inl rfl | exact Or.inr rfl))) (dss_one (ds_set (i := 7) nd (by rfl) (by first | exact Or.inl rfl | exact Or.inr rfl) (de_mul (de_var (pv 7)) (de_var (pv 13))))))
      (dss_cons (ds_if (dt_ne hu64 (de_mul (de_cal c_binomial_moment tk hr (by decide) (by rfl) (da_cons (de_var (pv 4)) (da_cons (de_var (pv 6)) da_nil))) (de_var (pv 7))) (de_mul (de_len (by rfl) h_len (de_var (pv 2))) (de_cal c_binomial_moment tk hr (by decide) (by rfl) (da_cons (de_var (pv 5)) (da_cons (de_sub (de_var (pv 14)) (de_var (pv 6))) da_nil))))) (dss_one (ds_ret de_bl)) dss_nil)
      (dss_cons (ds_set (i := 9) nd (by rfl) (by first | exact Or.inl rfl | exact Or.inr rfl) (de_calM c__law_next tk hr (by decide) (by rfl) (pv 1) (da_cons (de_add (de_var (pv 14)) de_int) da_nil)))
      (dss_cons (ds_set (i := 10) nd (by rfl) (by first | exact Or.inl rfl | exact Or.inr rfl) (de_catT (de_catT (de_sliceT (de_var (pv 4)) do_none (do_some (de_var (pv 9)))) (de_tup (da_cons (de_add (de_add (de_sub1 (de_var (pv 4)) (de_var (pv 9))) de_int) (de_calM c__law_next tk hr (by decide) (by rfl) (pv 1) (da_cons de_int da_nil))) da_nil))) (de_sliceT (de_var (pv 4)) (do_some (de_add (de_var (pv 9)) de_int)) do_none)))
      (dss_cons (ds_if (dt_ne hu64 (de_cal c__law_told tk hr (by decide) (by rfl) (da_cons (de_var (pv 13)) (da_cons (de_var (pv 14)) (da_cons (de_var (pv 10)) da_nil)))) (de_cal c__law_due tk hr (by decide) (by rfl) (da_cons (de_var (pv 13)) (da_cons (de_var (pv 14)) (da_cons (de_var (pv 10)) da_nil))))) (dss_one (ds_ret de_bl)) dss_nil)
      (dss_cons (ds_set (i := 11) nd (by rfl) (by first | exact Or.inl rfl | exact Or.inr rfl) (de_tupc (by rfl) h_tuple (de_frz (dn_lc (by rfl) nd (di_range1 (by rfl) h_range (da_cons (de_add (de_var (pv 14)) de_int) da_nil)) (blkOk_by (own := [("k", 15)]) (N := N_law) (sc := defScope s_law) (by decide +kernel)) (by decide) (fun _ _ _ _ _ => (dg_name (pg_name (i := 15) nd (by rfl) (by first | exact Or.inl rfl | exact Or.inr rfl)))) (fun _ _ _ _ _ => dts_nil) (fun _ _ _ _ _ => de_int)))))
      (dss_cons (ds_for po (by rfl) (di_seq (de_frz (dn_lst (da_cons (de_catT (de_var (pv 4)) (de_tup (da_cons de_int da_nil))) (da_cons (de_sliceT (de_var (pv 4)) (do_some de_int) do_none) (da_cons (de_frz (dn_list (by rfl) h_list (de_var (pv 4)))) (da_cons de_non (da_cons (de_var (pv 11)) (da_cons (de_catT (de_tup (da_cons (de_neg de_int) da_nil)) (de_sliceT (de_var (pv 4)) (do_some de_int) do_none)) (da_cons (de_catT (de_tup (da_cons de_bl da_nil)) (de_sliceT (de_var (pv 4)) (do_some de_int) do_none)) (da_cons (de_catT (de_tup (da_cons de_non da_nil)) (de_sliceT (de_var (pv 4)) (do_some de_int) do_none)) da_nil))))))))))) (dg_name (pg_name (i := 12) nd (by rfl) (by first | exact Or.inl rfl | exact Or.inr rfl))) (dss_one (ds_if (dt_ne hu64 (de_cal c__law_told tk hr (by decide) (by rfl) (da_cons (de_var (pv 13)) (da_cons (de_var (pv 14)) (da_cons (de_var (pv 12)) da_nil)))) de_str) (dss_one (ds_ret de_bl)) dss_nil)))
      (dss_one (ds_ret de_bl)))))))))))))))))))
theorem all_mk {l : PySem.W.OpenLaw} {w : World} {K : PySem.W.Frag} {h : Heap} {mg : Str → Option Value} {fa f1 f2 f3 f4 f5 f6 f7 f8 f9 f10 f11 f12 f13 f14 f15 f16 f17 f18 f19 f20 f21 f22 f23 : Addr} (X : K.In h) (G : h.Ns mainGlobals mg) (hfa : mg "law" = some (.ref fa))
    {od1 an1 od2 an2 od3 an3 od4 an4 od5 an5 od6 an6 od7 an7 od8 an8 od9 an9 od10 an10 od11 an11 od12 an12 od13 an13 od14 an14 od15 an15 od16 an16 od17 an17 od18 an18 od19 an19 od20 an20 od21 an21 od22 an22 od23 an23 : Option Addr} {sl1 sl2 sl3 sl4 sl5 sl6 sl7 sl8 sl9 sl10 sl11 sl12 sl13 sl14 sl15 sl16 sl17 sl18 sl19 sl20 sl21 sl22 sl23 : Array (Option Value)} {oc1 kV1 dc1 pm1 cd1 ct1 oc2 kV2 dc2 pm2 cd2 ct2 oc3 kV3 dc3 pm3 cd3 ct3 oc4 kV4 dc4 pm4 cd4 ct4 oc5 kV5 dc5 pm5 cd5 ct5 oc6 kV6 dc6 pm6 cd6 ct6 oc7 kV7 dc7 pm7 cd7 ct7 oc8 kV8 dc8 pm8 cd8 ct8 oc9 kV9 dc9 pm9 cd9 ct9 oc10 kV10 dc10 pm10 cd10 ct10 oc11 kV11 dc11 pm11 cd11 ct11 oc12 kV12 dc12 pm12 cd12 ct12 oc13 kV13 dc13 pm13 cd13 ct13 oc14 kV14 dc14 pm14 cd14 ct14 oc15 kV15 dc15 pm15 cd15 ct15 oc16 kV16 dc16 pm16 cd16 ct16 oc17 kV17 dc17 pm17 cd17 ct17 oc18 kV18 dc18 pm18 cd18 ct18 oc19 kV19 dc19 pm19 cd19 ct19 oc20 kV20 dc20 pm20 cd20 ct20 oc21 kV21 dc21 pm21 cd21 ct21 oc22 kV22 dc22 pm22 cd22 ct22 oc23 kV23 dc23 pm23 cd23 ct23 : Value}
    (a1 : PySem.W.nsIn K mainGlobals "is_integer" = some (some (.ref f1))) (l1 : K.lookup f1 = some ⟨oc1, od1, .func (PySem.W.fnOf "is_integer" "is_integer" (defArgs s_is_integer) (defBody s_is_integer) (defScope s_is_integer) .none kV1 dc1 pm1 an1 cd1 ct1), sl1⟩) (c1 : PySem.W.codeIn K cd1 "is_integer" = true) (k1 : PySem.W.keepIn K (.ref f1) = true)
    (a2 : PySem.W.nsIn K mainGlobals "binomial" = some (some (.ref f2))) (l2 : K.lookup f2 = some ⟨oc2, od2, .func (PySem.W.fnOf "binomial" "binomial" (defArgs s_binomial) (defBody s_binomial) (defScope s_binomial) .none kV2 dc2 pm2 an2 cd2 ct2), sl2⟩) (c2 : PySem.W.codeIn K cd2 "binomial" = true) (k2 : PySem.W.keepIn K (.ref f2) = true)
    (a3 : PySem.W.nsIn K mainGlobals "power" = some (some (.ref f3))) (l3 : K.lookup f3 = some ⟨oc3, od3, .func (PySem.W.fnOf "power" "power" (defArgs s_power) (defBody s_power) (defScope s_power) .none kV3 dc3 pm3 an3 cd3 ct3), sl3⟩) (c3 : PySem.W.codeIn K cd3 "power" = true) (k3 : PySem.W.keepIn K (.ref f3) = true)
    (a4 : PySem.W.nsIn K mainGlobals "krawtchouk" = some (some (.ref f4))) (l4 : K.lookup f4 = some ⟨oc4, od4, .func (PySem.W.fnOf "krawtchouk" "krawtchouk" (defArgs s_krawtchouk) (defBody s_krawtchouk) (defScope s_krawtchouk) .none kV4 dc4 pm4 an4 cd4 ct4), sl4⟩) (c4 : PySem.W.codeIn K cd4 "krawtchouk" = true) (k4 : PySem.W.keepIn K (.ref f4) = true)
    (a5 : PySem.W.nsIn K mainGlobals "_are_counts" = some (some (.ref f5))) (l5 : K.lookup f5 = some ⟨oc5, od5, .func (PySem.W.fnOf "_are_counts" "_are_counts" (defArgs s__are_counts) (defBody s__are_counts) (defScope s__are_counts) .none kV5 dc5 pm5 an5 cd5 ct5), sl5⟩) (c5 : PySem.W.codeIn K cd5 "_are_counts" = true) (k5 : PySem.W.keepIn K (.ref f5) = true)
    (a6 : PySem.W.nsIn K mainGlobals "_transformed" = some (some (.ref f6))) (l6 : K.lookup f6 = some ⟨oc6, od6, .func (PySem.W.fnOf "_transformed" "_transformed" (defArgs s__transformed) (defBody s__transformed) (defScope s__transformed) .none kV6 dc6 pm6 an6 cd6 ct6), sl6⟩) (c6 : PySem.W.codeIn K cd6 "_transformed" = true) (k6 : PySem.W.keepIn K (.ref f6) = true)
    (a7 : PySem.W.nsIn K mainGlobals "macwilliams" = some (some (.ref f7))) (l7 : K.lookup f7 = some ⟨oc7, od7, .func (PySem.W.fnOf "macwilliams" "macwilliams" (defArgs s_macwilliams) (defBody s_macwilliams) (defScope s_macwilliams) .none kV7 dc7 pm7 an7 cd7 ct7), sl7⟩) (c7 : PySem.W.codeIn K cd7 "macwilliams" = true) (k7 : PySem.W.keepIn K (.ref f7) = true)
    (a8 : PySem.W.nsIn K mainGlobals "binomial_moment" = some (some (.ref f8))) (l8 : K.lookup f8 = some ⟨oc8, od8, .func (PySem.W.fnOf "binomial_moment" "binomial_moment" (defArgs s_binomial_moment) (defBody s_binomial_moment) (defScope s_binomial_moment) .none kV8 dc8 pm8 an8 cd8 ct8), sl8⟩) (c8 : PySem.W.codeIn K cd8 "binomial_moment" = true) (k8 : PySem.W.keepIn K (.ref f8) = true)
    (a9 : PySem.W.nsIn K mainGlobals "_law_numbers" = some (some (.ref f9))) (l9 : K.lookup f9 = some ⟨oc9, od9, .func (PySem.W.fnOf "_law_numbers" "_law_numbers" (defArgs s__law_numbers) (defBody s__law_numbers) (defScope s__law_numbers) .none kV9 dc9 pm9 an9 cd9 ct9), sl9⟩) (c9 : PySem.W.codeIn K cd9 "_law_numbers" = true) (k9 : PySem.W.keepIn K (.ref f9) = true)
    (a10 : PySem.W.nsIn K mainGlobals "_law_next" = some (some (.ref f10))) (l10 : K.lookup f10 = some ⟨oc10, od10, .func (PySem.W.fnOf "_law_next" "_law_next" (defArgs s__law_next) (defBody s__law_next) (defScope s__law_next) .none kV10 dc10 pm10 an10 cd10 ct10), sl10⟩) (c10 : PySem.W.codeIn K cd10 "_law_next" = true) (k10 : PySem.W.keepIn K (.ref f10) = true)
    (a11 : PySem.W.nsIn K mainGlobals "_law_rows" = some (some (.ref f11))) (l11 : K.lookup f11 = some ⟨oc11, od11, .func (PySem.W.fnOf "_law_rows" "_law_rows" (defArgs s__law_rows) (defBody s__law_rows) (defScope s__law_rows) .none kV11 dc11 pm11 an11 cd11 ct11), sl11⟩) (c11 : PySem.W.codeIn K cd11 "_law_rows" = true) (k11 : PySem.W.keepIn K (.ref f11) = true)
    (a12 : PySem.W.nsIn K mainGlobals "_law_words" = some (some (.ref f12))) (l12 : K.lookup f12 = some ⟨oc12, od12, .func (PySem.W.fnOf "_law_words" "_law_words" (defArgs s__law_words) (defBody s__law_words) (defScope s__law_words) .none kV12 dc12 pm12 an12 cd12 ct12), sl12⟩) (c12 : PySem.W.codeIn K cd12 "_law_words" = true) (k12 : PySem.W.keepIn K (.ref f12) = true)
    (a13 : PySem.W.nsIn K mainGlobals "_law_weight" = some (some (.ref f13))) (l13 : K.lookup f13 = some ⟨oc13, od13, .func (PySem.W.fnOf "_law_weight" "_law_weight" (defArgs s__law_weight) (defBody s__law_weight) (defScope s__law_weight) .none kV13 dc13 pm13 an13 cd13 ct13), sl13⟩) (c13 : PySem.W.codeIn K cd13 "_law_weight" = true) (k13 : PySem.W.keepIn K (.ref f13) = true)
    (a14 : PySem.W.nsIn K mainGlobals "_law_all" = some (some (.ref f14))) (l14 : K.lookup f14 = some ⟨oc14, od14, .func (PySem.W.fnOf "_law_all" "_law_all" (defArgs s__law_all) (defBody s__law_all) (defScope s__law_all) .none kV14 dc14 pm14 an14 cd14 ct14), sl14⟩) (c14 : PySem.W.codeIn K cd14 "_law_all" = true) (k14 : PySem.W.keepIn K (.ref f14) = true)
    (a15 : PySem.W.nsIn K mainGlobals "_law_numbers_of" = some (some (.ref f15))) (l15 : K.lookup f15 = some ⟨oc15, od15, .func (PySem.W.fnOf "_law_numbers_of" "_law_numbers_of" (defArgs s__law_numbers_of) (defBody s__law_numbers_of) (defScope s__law_numbers_of) .none kV15 dc15 pm15 an15 cd15 ct15), sl15⟩) (c15 : PySem.W.codeIn K cd15 "_law_numbers_of" = true) (k15 : PySem.W.keepIn K (.ref f15) = true)
    (a16 : PySem.W.nsIn K mainGlobals "_law_shape" = some (some (.ref f16))) (l16 : K.lookup f16 = some ⟨oc16, od16, .func (PySem.W.fnOf "_law_shape" "_law_shape" (defArgs s__law_shape) (defBody s__law_shape) (defScope s__law_shape) .none kV16 dc16 pm16 an16 cd16 ct16), sl16⟩) (c16 : PySem.W.codeIn K cd16 "_law_shape" = true) (k16 : PySem.W.keepIn K (.ref f16) = true)
    (a17 : PySem.W.nsIn K mainGlobals "_law_dual" = some (some (.ref f17))) (l17 : K.lookup f17 = some ⟨oc17, od17, .func (PySem.W.fnOf "_law_dual" "_law_dual" (defArgs s__law_dual) (defBody s__law_dual) (defScope s__law_dual) .none kV17 dc17 pm17 an17 cd17 ct17), sl17⟩) (c17 : PySem.W.codeIn K cd17 "_law_dual" = true) (k17 : PySem.W.keepIn K (.ref f17) = true)
    (a18 : PySem.W.nsIn K mainGlobals "_law_places" = some (some (.ref f18))) (l18 : K.lookup f18 = some ⟨oc18, od18, .func (PySem.W.fnOf "_law_places" "_law_places" (defArgs s__law_places) (defBody s__law_places) (defScope s__law_places) .none kV18 dc18 pm18 an18 cd18 ct18), sl18⟩) (c18 : PySem.W.codeIn K cd18 "_law_places" = true) (k18 : PySem.W.keepIn K (.ref f18) = true)
    (a19 : PySem.W.nsIn K mainGlobals "_law_zero_pairs" = some (some (.ref f19))) (l19 : K.lookup f19 = some ⟨oc19, od19, .func (PySem.W.fnOf "_law_zero_pairs" "_law_zero_pairs" (defArgs s__law_zero_pairs) (defBody s__law_zero_pairs) (defScope s__law_zero_pairs) .none kV19 dc19 pm19 an19 cd19 ct19), sl19⟩) (c19 : PySem.W.codeIn K cd19 "_law_zero_pairs" = true) (k19 : PySem.W.keepIn K (.ref f19) = true)
    (a20 : PySem.W.nsIn K mainGlobals "_law_told" = some (some (.ref f20))) (l20 : K.lookup f20 = some ⟨oc20, od20, .func (PySem.W.fnOf "_law_told" "_law_told" (defArgs s__law_told) (defBody s__law_told) (defScope s__law_told) .none kV20 dc20 pm20 an20 cd20 ct20), sl20⟩) (c20 : PySem.W.codeIn K cd20 "_law_told" = true) (k20 : PySem.W.keepIn K (.ref f20) = true)
    (a21 : PySem.W.nsIn K mainGlobals "_law_turning" = some (some (.ref f21))) (l21 : K.lookup f21 = some ⟨oc21, od21, .func (PySem.W.fnOf "_law_turning" "_law_turning" (defArgs s__law_turning) (defBody s__law_turning) (defScope s__law_turning) .none kV21 dc21 pm21 an21 cd21 ct21), sl21⟩) (c21 : PySem.W.codeIn K cd21 "_law_turning" = true) (k21 : PySem.W.keepIn K (.ref f21) = true)
    (a22 : PySem.W.nsIn K mainGlobals "_law_due" = some (some (.ref f22))) (l22 : K.lookup f22 = some ⟨oc22, od22, .func (PySem.W.fnOf "_law_due" "_law_due" (defArgs s__law_due) (defBody s__law_due) (defScope s__law_due) .none kV22 dc22 pm22 an22 cd22 ct22), sl22⟩) (c22 : PySem.W.codeIn K cd22 "_law_due" = true) (k22 : PySem.W.keepIn K (.ref f22) = true)
    (a23 : PySem.W.nsIn K mainGlobals "law" = some (some (.ref f23))) (l23 : K.lookup f23 = some ⟨oc23, od23, .func (PySem.W.fnOf "law" "law" (defArgs s_law) (defBody s_law) (defScope s_law) .none kV23 dc23 pm23 an23 cd23 ct23), sl23⟩) (c23 : PySem.W.codeIn K cd23 "law" = true) (k23 : PySem.W.keepIn K (.ref f23) = true)
    (z_abs : PySem.W.nsIn K mainGlobals "abs" = some none)
    (z_all : PySem.W.nsIn K mainGlobals "all" = some none)
    (z_any : PySem.W.nsIn K mainGlobals "any" = some none)
    (z_bool : PySem.W.nsIn K mainGlobals "bool" = some none)
    (z_comb : PySem.W.nsIn K mainGlobals "comb" = some (some (.builtin "math.comb")))
    (z_enumerate : PySem.W.nsIn K mainGlobals "enumerate" = some none)
    (z_int : PySem.W.nsIn K mainGlobals "int" = some none)
    (z_isinstance : PySem.W.nsIn K mainGlobals "isinstance" = some none)
    (z_len : PySem.W.nsIn K mainGlobals "len" = some none)
    (z_list : PySem.W.nsIn K mainGlobals "list" = some none)
    (z_min : PySem.W.nsIn K mainGlobals "min" = some none)
    (z_range : PySem.W.nsIn K mainGlobals "range" = some none)
    (z_sorted : PySem.W.nsIn K mainGlobals "sorted" = some none)
    (z_sum : PySem.W.nsIn K mainGlobals "sum" = some none)
    (z_tuple : PySem.W.nsIn K mainGlobals "tuple" = some none)
    {CF : Addr} {CR fI_Refused cda_Refused cc_Refused N_Refused : Addr} {nm_Refused qn_Refused file_Refused : Str} {bs_Refused : List Value} {sn_Refused : List Str} {sub_Refused : List Value} {ab_Refused : Bool} {col_Refused : Option Bool} {dd_Refused odI_Refused anI_Refused cdd_Refused ecd_Refused : Option Addr} {m0_Refused m1_Refused m2_Refused m3_Refused m5_Refused : Option Value} {ocI_Refused kVI_Refused dcI_Refused pmI_Refused ctI_Refused ccl_Refused ecl_Refused : Value} {slI_Refused ccs_Refused ecs_Refused : Array (Option Value)} {cvs_Refused : Array Value} {tf_Refused : Tok} {CM : Addr}
    (zS : PySem.W.nsIn K mainGlobals "super" = some none)
    (an_ : PySem.W.nsIn K PySem.cStatics "thirdparty.any" = some none)
    (tp : (l.prog.main.scope.names.lookup ("super" : Str)).isSome = false)
    (gC_Refused : PySem.W.nsIn K mainGlobals "Refused" = some (some (.ref CR)))
    (xC_Refused : K.lookup CR = some (excClassObj nm_Refused qn_Refused CR N_Refused bs_Refused [.ref CF, .type "ValueError", .type "Exception", .type "BaseException", .type "object"] true sn_Refused sub_Refused ab_Refused col_Refused dd_Refused m0_Refused m1_Refused m2_Refused m3_Refused m5_Refused "ValueError.__new__"))
    (sa_Refused : PySem.W.findIn K (.ref CR) "__setattr__" = some (some (.builtin "object.__setattr__")))
    (ga_Refused : PySem.W.findIn K (.ref CR) "__getattribute__" = some (some (.builtin "BaseException.__getattribute__")))
    (gg_Refused : PySem.W.findIn K (.ref CR) "__getattr__" = some none)
    (nr_Refused : PySem.W.findIn K (.ref CR) "reason" = some none)
    (eC_Refused : PySem.W.subIn K (.ref CR) (.type "BaseException") = some true)
    (tC_Refused : PySem.W.typeIn K (.ref CR) = some (.type "type"))
    (kC_Refused : PySem.W.keepIn K (.ref CR) = true)
    (hC_Refused : PySem.W.hasDictIn K CR = true)
    (sC_Refused : PySem.W.subIn K (.ref CR) (.ref CR) = some true)
    (aI_Refused : PySem.W.findIn K (.ref CR) "__init__" = some (some (.ref fI_Refused)))
    (tI_Refused : PySem.W.typeIn K (.ref fI_Refused) = some (.type "function"))
    (lI_Refused : K.lookup fI_Refused = some ⟨ocI_Refused, odI_Refused, .func (PySem.W.ksFn "__init__" "Refused.__init__" (defArgs s_init_Refused) (defBody s_init_Refused) (defScope s_init_Refused) .none kVI_Refused dcI_Refused pmI_Refused anI_Refused (.ref cda_Refused) ctI_Refused cc_Refused), slI_Refused⟩)
    (cI_Refused : PySem.W.codeIn K (.ref cda_Refused) "Refused.__init__" = true)
    (lc_Refused : K.lookup cda_Refused = some ⟨ccl_Refused, cdd_Refused, .fields cvs_Refused, ccs_Refused⟩)
    (lf_Refused : cvs_Refused[2]? = some (.str file_Refused tf_Refused))
    (lq_Refused : ((l.prog.main.file : Str) == file_Refused) = true)
    (cl_Refused : K.lookup cc_Refused = some ⟨ecl_Refused, ecd_Refused, .cell (some (.ref CR)), ecs_Refused⟩)
    (mC_Refused : PySem.W.mroIn K CR (.ref CR) = some true)
    (up_Refused : PySem.W.ks_superIn K CR CR "__init__" = some (some (.builtin "ValueError.__init__")))
    (bsv_Refused : PySem.W.subIn K (.ref CR) (.type "ValueError") = some true)
    (gC_Malformed : PySem.W.nsIn K mainGlobals "Malformed" = some (some (.ref CM)))
    (xC_Malformed : PySem.W.excIn K CM [.type "ValueError", .type "Exception", .type "BaseException", .type "object"] "ValueError.__new__" = true)
    (eC_Malformed : PySem.W.subIn K (.ref CM) (.type "BaseException") = some true)
    (tC_Malformed : PySem.W.typeIn K (.ref CM) = some (.type "type"))
    (kC_Malformed : PySem.W.keepIn K (.ref CM) = true)
    (hC_Malformed : PySem.W.hasDictIn K CM = true)
    (sC_Malformed : PySem.W.subIn K (.ref CM) (.ref CM) = some true)
    (sX_Malformed_Refused : PySem.W.subIn K (.ref CM) (.ref CR) = some false)
    : ∃ fd : FuncData, (∀ (s : Shared) (v : Value), BindsTo s fd ⟨[v], []⟩ [("script", v)]) ∧ ∀ base : Heap, K.In base → base.Ns mainGlobals mg → FnOk l.prog w K mg base (L2.CX l.prog w) 6 fa fd ["script"] (Lq.spLaw K) := by
  have e := hfa.symm.trans (PySem.W.mg_of X G a23)
  cases e
  have h_abs := PySem.W.mg_none_of X G z_abs
  have h_all := PySem.W.mg_none_of X G z_all
  have h_any := PySem.W.mg_none_of X G z_any
  have h_bool := PySem.W.mg_none_of X G z_bool
  have h_comb := PySem.W.mg_of X G z_comb
  have h_enumerate := PySem.W.mg_none_of X G z_enumerate
  have h_int := PySem.W.mg_none_of X G z_int
  have h_isinstance := PySem.W.mg_none_of X G z_isinstance
  have h_len := PySem.W.mg_none_of X G z_len
  have h_list := PySem.W.mg_none_of X G z_list
  have h_min := PySem.W.mg_none_of X G z_min
  have h_range := PySem.W.mg_none_of X G z_range
  have h_sorted := PySem.W.mg_none_of X G z_sorted
  have h_sum := PySem.W.mg_none_of X G z_sum
  have h_tuple := PySem.W.mg_none_of X G z_tuple
  have F1 := fun_mk (st := s_is_integer) l1 c1 k1
  have F2 := fun_mk (st := s_binomial) l2 c2 k2
  have F3 := fun_mk (st := s_power) l3 c3 k3
  have F4 := fun_mk (st := s_krawtchouk) l4 c4 k4
  have F5 := fun_mk (st := s__are_counts) l5 c5 k5
  have F6 := fun_mk (st := s__transformed) l6 c6 k6
  have F7 := fun_mk (st := s_macwilliams) l7 c7 k7
  have F8 := fun_mk (st := s_binomial_moment) l8 c8 k8
  have F9 := fun_mk (st := s__law_numbers) l9 c9 k9
  have F10 := fun_mk (st := s__law_next) l10 c10 k10
  have F11 := fun_mk (st := s__law_rows) l11 c11 k11
  have F12 := fun_mk (st := s__law_words) l12 c12 k12
  have F13 := fun_mk (st := s__law_weight) l13 c13 k13
  have F14 := fun_mk (st := s__law_all) l14 c14 k14
  have F15 := fun_mk (st := s__law_numbers_of) l15 c15 k15
  have F16 := fun_mk (st := s__law_shape) l16 c16 k16
  have F17 := fun_mk (st := s__law_dual) l17 c17 k17
  have F18 := fun_mk (st := s__law_places) l18 c18 k18
  have F19 := fun_mk (st := s__law_zero_pairs) l19 c19 k19
  have F20 := fun_mk (st := s__law_told) l20 c20 k20
  have F21 := fun_mk (st := s__law_turning) l21 c21 k21
  have F22 := fun_mk (st := s__law_due) l22 c22 k22
  have F23 := fun_mk (st := s_law) l23 c23 k23
  have b1 := F1.binds (ps := ["value"]) fun _ _ _ _ _ _ us hl => match us, hl with | [_], _ => rfl
  have b2 := F2.binds (ps := ["n", "k"]) fun _ _ _ _ _ _ us hl => match us, hl with | [_, _], _ => rfl
  have b3 := F3.binds (ps := ["a", "k"]) fun _ _ _ _ _ _ us hl => match us, hl with | [_, _], _ => rfl
  have b4 := F4.binds (ps := ["p", "n", "j", "i"]) fun _ _ _ _ _ _ us hl => match us, hl with | [_, _, _, _], _ => rfl
  have b5 := F5.binds (ps := ["numbers", "n"]) fun _ _ _ _ _ _ us hl => match us, hl with | [_, _], _ => rfl
  have b6 := F6.binds (ps := ["p", "n", "numbers", "j"]) fun _ _ _ _ _ _ us hl => match us, hl with | [_, _, _, _], _ => rfl
  have b7 := F7.binds (ps := ["p", "n", "numbers"]) fun _ _ _ _ _ _ us hl => match us, hl with | [_, _, _], _ => rfl
  have b8 := F8.binds (ps := ["numbers", "s"]) fun _ _ _ _ _ _ us hl => match us, hl with | [_, _], _ => rfl
  have b9 := F9.binds (ps := ["script"]) fun _ _ _ _ _ _ us hl => match us, hl with | [_], _ => rfl
  have b10 := F10.binds (ps := ["numbers", "many"]) fun _ _ _ _ _ _ us hl => match us, hl with | [_, _], _ => rfl
  have b11 := F11.binds (ps := ["numbers", "p", "n", "most"]) fun _ _ _ _ _ _ us hl => match us, hl with | [_, _, _, _], _ => rfl
  have b12 := F12.binds (ps := ["p", "n", "rows"]) fun _ _ _ _ _ _ us hl => match us, hl with | [_, _, _], _ => rfl
  have b13 := F13.binds (ps := ["word"]) fun _ _ _ _ _ _ us hl => match us, hl with | [_], _ => rfl
  have b14 := F14.binds (ps := ["p", "n"]) fun _ _ _ _ _ _ us hl => match us, hl with | [_, _], _ => rfl
  have b15 := F15.binds (ps := ["words", "n"]) fun _ _ _ _ _ _ us hl => match us, hl with | [_, _], _ => rfl
  have b16 := F16.binds (ps := ["numbers"]) fun _ _ _ _ _ _ us hl => match us, hl with | [_], _ => rfl
  have b17 := F17.binds (ps := ["p", "n", "words"]) fun _ _ _ _ _ _ us hl => match us, hl with | [_, _, _], _ => rfl
  have b18 := F18.binds (ps := ["n", "s"]) fun _ _ _ _ _ _ us hl => match us, hl with | [_, _], _ => rfl
  have b19 := F19.binds (ps := ["words", "places"]) fun _ _ _ _ _ _ us hl => match us, hl with | [_, _], _ => rfl
  have b20 := F20.binds (ps := ["p", "n", "numbers"]) fun _ _ _ _ _ _ us hl => match us, hl with | [_, _, _], _ => rfl
  have b21 := F21.binds (ps := ["p", "n"]) fun _ _ _ _ _ _ us hl => match us, hl with | [_, _], _ => rfl
  have b22 := F22.binds (ps := ["p", "n", "numbers"]) fun _ _ _ _ _ _ us hl => match us, hl with | [_, _, _], _ => rfl
  refine ⟨PySem.W.fnOf "law" "law" (defArgs s_law) (defBody s_law) (defScope s_law) .none kV23 dc23 pm23 an23 cd23 ct23, fun s v => .of_eq rfl, fun base _ _ => ?_⟩
  have T_Refused : OexC K CR := ⟨⟨nm_Refused, qn_Refused, N_Refused, bs_Refused, _, sn_Refused, sub_Refused, ab_Refused, col_Refused, dd_Refused, m0_Refused, m1_Refused, m2_Refused, m3_Refused, m5_Refused, xC_Refused, rfl⟩, sa_Refused, eC_Refused, tC_Refused, kC_Refused⟩
  have hcl_Refused : ∃ cd, PySem.W.clsIn K CR = some cd := by
    obtain ⟨cd, hc, _⟩ := PySem.W.any_some hC_Refused
    exact ⟨cd, hc⟩
  have SF_Refused : SupF l.prog K mg fI_Refused cda_Refused cc_Refused CR CR (defScope s_init_Refused) "self" := ⟨⟨_, _, _, _, _, lI_Refused, rfl, rfl⟩, ⟨_, _, _, _, _, _, lc_Refused, lf_Refused, lq_Refused⟩, ⟨_, _, _, cl_Refused⟩, hcl_Refused, mC_Refused, up_Refused, bsv_Refused, an_, PySem.W.mg_none_of X G zS, rfl, rfl, rfl, tp⟩
  have R_Refused : RaS l.prog w K mg base "Refused" CR "reason" := ⟨T_Refused, ⟨fI_Refused, _, aI_Refused, tI_Refused, ok_init_Refused lI_Refused cI_Refused cl_Refused SF_Refused T_Refused nr_Refused, .all fun us hl => match us, hl with | [_, _], _ => rfl⟩, PySem.W.mg_of X G gC_Refused, ⟨ga_Refused, gg_Refused, eC_Refused, hC_Refused⟩, nr_Refused, PySem.W.exm_ref eC_Refused hC_Refused tC_Refused sC_Refused⟩
  have R_Malformed : RaN l.prog w K mg base "Malformed" CM := ⟨PySem.W.mg_of X G gC_Malformed, kC_Malformed, xC_Malformed, eC_Malformed, tC_Malformed, PySem.W.exm_ref eC_Malformed hC_Malformed tC_Malformed sC_Malformed⟩
  have e_Malformed_Refused : PySem.W.exmOne K (.ref CM) (.ref CR) = some false := PySem.W.exm_ref eC_Refused hC_Refused tC_Refused sX_Malformed_Refused
  have C_is_integer : Cal l.prog w K mg base "is_integer" 1 ["value"] (spD K 1 Fisint) := ⟨f1, _, Lq.FnOk.toF (ok_is_integer (P := l.prog) (w := w) (mg := mg) (base := base) F1 (h_bool := h_bool) (h_int := h_int) (h_isinstance := h_isinstance)) (fun ds h => Lq.run_is_integer ds h), PySem.W.mg_of X G a1, k1, b1⟩
  have C_binomial : Cal l.prog w K mg base "binomial" 1 ["n", "k"] (spD K 2 Fbinom) := ⟨f2, _, Lq.FnOk.toF (ok_binomial (P := l.prog) (w := w) (mg := mg) (base := base) F2 (h_comb := h_comb)) (fun ds h => Lq.run_binomial ds h), PySem.W.mg_of X G a2, k2, b2⟩
  have C_power : Cal l.prog w K mg base "power" 1 ["a", "k"] (spD K 2 Fpow) := ⟨f3, _, Lq.FnOk.toF (ok_power (P := l.prog) (w := w) (mg := mg) (base := base) F3 ) (fun ds h => Lq.run_power ds h), PySem.W.mg_of X G a3, k3, b3⟩
  have C_krawtchouk : Cal l.prog w K mg base "krawtchouk" 2 ["p", "n", "j", "i"] (spD K 4 Fkraw) := ⟨f4, _, Lq.FnOk.toF (ok_krawtchouk (P := l.prog) (w := w) (mg := mg) (base := base) F4 (h_range := h_range) (h_sum := h_sum) (c_power := C_power) (c_binomial := C_binomial)) (fun ds h => Lq.run_krawtchouk ds h), PySem.W.mg_of X G a4, k4, b4⟩
  have C__are_counts : Cal l.prog w K mg base "_are_counts" 2 ["numbers", "n"] (spD K 2 Fcnts) := ⟨f5, _, Lq.FnOk.toF (ok__are_counts (P := l.prog) (w := w) (mg := mg) (base := base) F5 (h_all := h_all) (h_isinstance := h_isinstance) (h_len := h_len) (h_sum := h_sum) (h_tuple := h_tuple) (c_is_integer := C_is_integer)) (fun _ _ => rfl), PySem.W.mg_of X G a5, k5, b5⟩
  have C__transformed : Cal l.prog w K mg base "_transformed" 3 ["p", "n", "numbers", "j"] (spD K 4 Ftrans) := ⟨f6, _, Lq.FnOk.toF (ok__transformed (P := l.prog) (w := w) (mg := mg) (base := base) F6 (h_enumerate := h_enumerate) (h_sum := h_sum) (c_krawtchouk := C_krawtchouk)) (fun _ _ => rfl), PySem.W.mg_of X G a6, k6, b6⟩
  have C_macwilliams : Cal l.prog w K mg base "macwilliams" 4 ["p", "n", "numbers"] (spD K 3 (Fmac CM CR)) := ⟨f7, _, Lq.FnOk.toF (ok_macwilliams (P := l.prog) (w := w) (mg := mg) (base := base) F7 (h_any := h_any) (h_range := h_range) (h_sum := h_sum) (h_tuple := h_tuple) (R_Malformed := R_Malformed) (R_Refused := R_Refused) (c__transformed := C__transformed) (c__are_counts := C__are_counts)) (fun ds h => Lq.run_macwilliams CM CR ds h), PySem.W.mg_of X G a7, k7, b7⟩
  have C_binomial_moment : Cal l.prog w K mg base "binomial_moment" 2 ["numbers", "s"] (spD K 2 Fbmom) := ⟨f8, _, Lq.FnOk.toF (ok_binomial_moment (P := l.prog) (w := w) (mg := mg) (base := base) F8 (h_enumerate := h_enumerate) (h_len := h_len) (h_sum := h_sum) (c_binomial := C_binomial)) (fun _ _ => rfl), PySem.W.mg_of X G a8, k8, b8⟩
  have C__law_numbers : Cal l.prog w K mg base "_law_numbers" 1 ["script"] (spN K 1 Fnumbers) := ⟨f9, _, Lq.FnOk.toN (ok__law_numbers (P := l.prog) (w := w) (mg := mg) (base := base) F9 (h_abs := h_abs) (h_len := h_len) (h_min := h_min) (h_range := h_range)) (fun _ _ => rfl), PySem.W.mg_of X G a9, k9, b9⟩
  have C__law_next : Cal l.prog w K mg base "_law_next" 1 ["numbers", "many"] (spM K 1 Fnext) := ⟨f10, _, Lq.FnOk.toM (ok__law_next (P := l.prog) (w := w) (mg := mg) (base := base) F10 (h_len := h_len)) (fun xs ds h => Lq.run__law_next xs ds h), PySem.W.mg_of X G a10, k10, b10⟩
  have C__law_rows : Cal l.prog w K mg base "_law_rows" 2 ["numbers", "p", "n", "most"] (spM K 3 Frows16) := ⟨f11, _, Lq.FnOk.toM (ok__law_rows (P := l.prog) (w := w) (mg := mg) (base := base) F11 (h_range := h_range) (h_tuple := h_tuple) (c__law_next := C__law_next)) (fun _ _ _ => rfl), PySem.W.mg_of X G a11, k11, b11⟩
  have C__law_words : Cal l.prog w K mg base "_law_words" 1 ["p", "n", "rows"] (spD K 3 Fwords16) := ⟨f12, _, Lq.FnOk.toF (ok__law_words (P := l.prog) (w := w) (mg := mg) (base := base) F12 (h_list := h_list) (h_range := h_range) (h_sorted := h_sorted) (h_tuple := h_tuple)) (fun _ _ => rfl), PySem.W.mg_of X G a12, k12, b12⟩
  have C__law_weight : Cal l.prog w K mg base "_law_weight" 1 ["word"] (spD K 1 Fweight) := ⟨f13, _, Lq.FnOk.toF (ok__law_weight (P := l.prog) (w := w) (mg := mg) (base := base) F13 (h_len := h_len)) (fun ds h => Lq.run_weight ds h), PySem.W.mg_of X G a13, k13, b13⟩
  have C__law_all : Cal l.prog w K mg base "_law_all" 1 ["p", "n"] (spD K 2 Fall15) := ⟨f14, _, Lq.FnOk.toF (ok__law_all (P := l.prog) (w := w) (mg := mg) (base := base) F14 (h_list := h_list) (h_range := h_range)) (fun ds h => Lq.run_all15 ds h), PySem.W.mg_of X G a14, k14, b14⟩
  have C__law_numbers_of : Cal l.prog w K mg base "_law_numbers_of" 2 ["words", "n"] (spD K 2 Fnof) := ⟨f15, _, Lq.FnOk.toF (ok__law_numbers_of (P := l.prog) (w := w) (mg := mg) (base := base) F15 (h_range := h_range) (h_tuple := h_tuple) (c__law_weight := C__law_weight)) (fun _ _ => rfl), PySem.W.mg_of X G a15, k15, b15⟩
  have C__law_shape : Cal l.prog w K mg base "_law_shape" 2 ["numbers"] (spM K 0 Fshape) := ⟨f16, _, Lq.FnOk.toM (ok__law_shape (P := l.prog) (w := w) (mg := mg) (base := base) F16 (h_int := h_int) (c__law_next := C__law_next)) (fun _ _ _ => rfl), PySem.W.mg_of X G a16, k16, b16⟩
  have C__law_dual : Cal l.prog w K mg base "_law_dual" 2 ["p", "n", "words"] (spD K 3 Fdual) := ⟨f17, _, Lq.FnOk.toF (ok__law_dual (P := l.prog) (w := w) (mg := mg) (base := base) F17 (h_len := h_len) (h_range := h_range) (h_sum := h_sum) (c__law_all := C__law_all)) (fun _ _ => rfl), PySem.W.mg_of X G a17, k17, b17⟩
  have C__law_places : Cal l.prog w K mg base "_law_places" 1 ["n", "s"] (spD K 2 Fplaces) := ⟨f18, _, Lq.FnOk.toF (ok__law_places (P := l.prog) (w := w) (mg := mg) (base := base) F18 (h_len := h_len) (h_range := h_range)) (fun _ _ => rfl), PySem.W.mg_of X G a18, k18, b18⟩
  have C__law_zero_pairs : Cal l.prog w K mg base "_law_zero_pairs" 1 ["words", "places"] (spD K 2 Fzp) := ⟨f19, _, Lq.FnOk.toF (ok__law_zero_pairs (P := l.prog) (w := w) (mg := mg) (base := base) F19 (h_int := h_int) (h_len := h_len)) (fun _ _ => rfl), PySem.W.mg_of X G a19, k19, b19⟩
  have C__law_told : Cal l.prog w K mg base "_law_told" 5 ["p", "n", "numbers"] (spD K 3 (Ftold CM CR)) := ⟨f20, _, Lq.FnOk.toF (ok__law_told (P := l.prog) (w := w) (mg := mg) (base := base) F20 (R_Malformed := R_Malformed) (R_Refused := R_Refused) (e_Malformed_Refused := e_Malformed_Refused) (c_macwilliams := C_macwilliams)) (fun ds h => Lq.run__law_told CM CR ds h), PySem.W.mg_of X G a20, k20, b20⟩
  have C__law_turning : Cal l.prog w K mg base "_law_turning" 2 ["p", "n"] (spD K 2 Fturn) := ⟨f21, _, Lq.FnOk.toF (ok__law_turning (P := l.prog) (w := w) (mg := mg) (base := base) F21 (h_int := h_int) (h_range := h_range) (h_sum := h_sum) (h_tuple := h_tuple) (c__law_weight := C__law_weight) (c__law_all := C__law_all)) (fun _ _ => rfl), PySem.W.mg_of X G a21, k21, b21⟩
  have C__law_due : Cal l.prog w K mg base "_law_due" 3 ["p", "n", "numbers"] (spD K 3 Fdue) := ⟨f22, _, Lq.FnOk.toF (ok__law_due (P := l.prog) (w := w) (mg := mg) (base := base) F22 (h_range := h_range) (h_sum := h_sum) (h_tuple := h_tuple) (c__law_turning := C__law_turning)) (fun _ _ => rfl), PySem.W.mg_of X G a22, k22, b22⟩
  exact ok_law (P := l.prog) (w := w) (mg := mg) (base := base) F23 (h_len := h_len) (h_list := h_list) (h_range := h_range) (h_tuple := h_tuple) (c__law_told := C__law_told) (c__law_due := C__law_due) (c__law_next := C__law_next) (c_binomial_moment := C_binomial_moment) (c__law_zero_pairs := C__law_zero_pairs) (c__law_places := C__law_places) (c__law_numbers_of := C__law_numbers_of) (c__law_dual := C__law_dual) (c__law_words := C__law_words) (c__law_rows := C__law_rows) (c__law_shape := C__law_shape) (c__law_numbers := C__law_numbers)
end
end K16
open PySem PySem.W PyProof.Rows L2 in
set_option maxRecDepth 100000 in
set_option maxHeartbeats 0 in
theorem PySem.Challenge.cw_weightkeepers_k16_whole_macwilliams_iden_holds : PySem.Challenge.rw_weightkeepers_k16_whole_macwilliams_iden.Holds := by
  w_on; o_law; k_head; (case hw => w_witness2)
  k_fill
  refine L2.walk_of (l := PySem.Challenge.rw_weightkeepers_k16_whole_macwilliams_iden) (n := 63) (k := 6) (x := "script") (CX := fun w => L2.CX (PySem.Challenge.rw_weightkeepers_k16_whole_macwilliams_iden).prog w) (sp := fun w => Lq.spLaw _) rfl (by decide) rfl ⟨rfl, by decide, by decide⟩ (fun w h Y => PySem.W.kIn_of Y) ?F (fun _ _ a ns hl _ hS => ⟨a, ns, rfl, hS, hl, fun _ => rfl⟩) (fun _ _ _ _ _ ⟨_, _, _, _, _, _, _, _, _, _, _, _, z⟩ => z)
  case F =>
    intro w mg fa h KX G hmg
    refine' K16.all_mk KX G hmg ?a1 ?l1 ?c1 ?k1 ?a2 ?l2 ?c2 ?k2 ?a3 ?l3 ?c3 ?k3 ?a4 ?l4 ?c4 ?k4 ?a5 ?l5 ?c5 ?k5 ?a6 ?l6 ?c6 ?k6 ?a7 ?l7 ?c7 ?k7 ?a8 ?l8 ?c8 ?k8 ?a9 ?l9 ?c9 ?k9 ?a10 ?l10 ?c10 ?k10 ?a11 ?l11 ?c11 ?k11 ?a12 ?l12 ?c12 ?k12 ?a13 ?l13 ?c13 ?k13 ?a14 ?l14 ?c14 ?k14 ?a15 ?l15 ?c15 ?k15 ?a16 ?l16 ?c16 ?k16 ?a17 ?l17 ?c17 ?k17 ?a18 ?l18 ?c18 ?k18 ?a19 ?l19 ?c19 ?k19 ?a20 ?l20 ?c20 ?k20 ?a21 ?l21 ?c21 ?k21 ?a22 ?l22 ?c22 ?k22 ?a23 ?l23 ?c23 ?k23 ?z_abs ?z_all ?z_any ?z_bool ?z_comb ?z_enumerate ?z_int ?z_isinstance ?z_len ?z_list ?z_min ?z_range ?z_sorted ?z_sum ?z_tuple ?zS ?an_ ?tp ?gC_Refused ?xC_Refused ?sa_Refused ?ga_Refused ?gg_Refused ?nr_Refused ?eC_Refused ?tC_Refused ?kC_Refused ?hC_Refused ?sC_Refused ?aI_Refused ?tI_Refused ?lI_Refused ?cI_Refused ?lc_Refused ?lf_Refused ?lq_Refused ?cl_Refused ?mC_Refused ?up_Refused ?bsv_Refused ?gC_Malformed ?xC_Malformed ?eC_Malformed ?tC_Malformed ?kC_Malformed ?hC_Malformed ?sC_Malformed ?sX_Malformed_Refused
    (case a1 => k_is)
    (case l1 => k_is)
    (case c1 => k_is)
    (case k1 => k_is)
    (case a2 => k_is)
    (case l2 => k_is)
    (case c2 => k_is)
    (case k2 => k_is)
    (case a3 => k_is)
    (case l3 => k_is)
    (case c3 => k_is)
    (case k3 => k_is)
    (case a4 => k_is)
    (case l4 => k_is)
    (case c4 => k_is)
    (case k4 => k_is)
    (case a5 => k_is)
    (case l5 => k_is)
    (case c5 => k_is)
    (case k5 => k_is)
    (case a6 => k_is)
    (case l6 => k_is)
    (case c6 => k_is)
    (case k6 => k_is)
    (case a7 => k_is)
    (case l7 => k_is)
    (case c7 => k_is)
    (case k7 => k_is)
    (case a8 => k_is)
    (case l8 => k_is)
    (case c8 => k_is)
    (case k8 => k_is)
    (case a9 => k_is)
    (case l9 => k_is)
    (case c9 => k_is)
    (case k9 => k_is)
    (case a10 => k_is)
    (case l10 => k_is)
    (case c10 => k_is)
    (case k10 => k_is)
    (case a11 => k_is)
    (case l11 => k_is)
    (case c11 => k_is)
    (case k11 => k_is)
    (case a12 => k_is)
    (case l12 => k_is)
    (case c12 => k_is)
    (case k12 => k_is)
    (case a13 => k_is)
    (case l13 => k_is)
    (case c13 => k_is)
    (case k13 => k_is)
    (case a14 => k_is)
    (case l14 => k_is)
    (case c14 => k_is)
    (case k14 => k_is)
    (case a15 => k_is)
    (case l15 => k_is)
    (case c15 => k_is)
    (case k15 => k_is)
    (case a16 => k_is)
    (case l16 => k_is)
    (case c16 => k_is)
    (case k16 => k_is)
    (case a17 => k_is)
    (case l17 => k_is)
    (case c17 => k_is)
    (case k17 => k_is)
    (case a18 => k_is)
    (case l18 => k_is)
    (case c18 => k_is)
    (case k18 => k_is)
    (case a19 => k_is)
    (case l19 => k_is)
    (case c19 => k_is)
    (case k19 => k_is)
    (case a20 => k_is)
    (case l20 => k_is)
    (case c20 => k_is)
    (case k20 => k_is)
    (case a21 => k_is)
    (case l21 => k_is)
    (case c21 => k_is)
    (case k21 => k_is)
    (case a22 => k_is)
    (case l22 => k_is)
    (case c22 => k_is)
    (case k22 => k_is)
    (case a23 => k_is)
    (case l23 => k_is)
    (case c23 => k_is)
    (case k23 => k_is)
    (case z_abs => k_is)
    (case z_all => k_is)
    (case z_any => k_is)
    (case z_bool => k_is)
    (case z_comb => k_is)
    (case z_enumerate => k_is)
    (case z_int => k_is)
    (case z_isinstance => k_is)
    (case z_len => k_is)
    (case z_list => k_is)
    (case z_min => k_is)
    (case z_range => k_is)
    (case z_sorted => k_is)
    (case z_sum => k_is)
    (case z_tuple => k_is)
    (case zS => k_is)
    (case an_ => k_is)
    (case tp => first | rfl | decide +kernel)
    (case gC_Refused => k_is)
    (case xC_Refused => k_is)
    (case sa_Refused => k_is)
    (case ga_Refused => k_is)
    (case gg_Refused => k_is)
    (case nr_Refused => k_is)
    (case eC_Refused => k_is)
    (case tC_Refused => k_is)
    (case kC_Refused => k_is)
    (case hC_Refused => k_is)
    (case sC_Refused => first | k_is | rfl)
    (case aI_Refused => k_is)
    (case tI_Refused => k_is)
    (case lI_Refused => k_is)
    (case cI_Refused => k_is)
    (case lc_Refused => k_is)
    (case lf_Refused => rfl)
    (case lq_Refused => first | rfl | decide +kernel)
    (case cl_Refused => k_is)
    (case mC_Refused => first | k_is | rfl)
    (case up_Refused => first | k_is | rfl | decide +kernel)
    (case bsv_Refused => k_is)
    (case gC_Malformed => k_is)
    (case xC_Malformed => k_exc)
    (case eC_Malformed => k_is)
    (case tC_Malformed => k_is)
    (case kC_Malformed => k_is)
    (case hC_Malformed => k_is)
    (case sC_Malformed => first | k_is | rfl)
    (case sX_Malformed_Refused => first | k_is | rfl)


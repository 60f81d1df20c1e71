import PyProof.Rows.All
import Wide.All
import OpenK.AllK
import Wide.FinOn
import HandS.ForExc
import HandS.Dict
import HandS.Comp
import HandS.Iter
import HandS.Walk
import HandS.TupAny
import HandS.TupMul
import HandS.Strs
import HandS.Deep
import HandS.IsInst
import HandS.SortRule
import HandS.SortInts
import HandS.TupLe
import HandS.Flow
import KE.KTupSum
import KE.SortData
import HandS.DictComp
import HandS.SetBool
import HandS.DictTup
import KE.GoesEnum
import HandS.RevRange
import HandS.SortKw
import KE.DatumOrd
import HandS.WordsExc
import HandS.ExcCtx
import HandS.HotCalls
import HandS.Words
import HandS.TryOnly
import HandS.TryMany
import HandS.ExcField
import HandS.ExcIs
import KE.KExcSuper
import HandS.ExcInit
import PyProof.FString
import PyProof.FString4
import PyProof.ListRange
import KE.KEqNest
import HandS.TupSets
import HandS.WideBits
import HandS.SetFor
import HandS.Conv
import KE.KDictDisplayH
import HandS.Text
import HandS.Codes
import HandS.Replace
import HandS.Steps
import HandS.Wide
import HandS.Ends
import PySem.Challenge.RW_throwskept_k13_classes_of_turns
set_option Elab.async false
set_option linter.all false
set_option maxRecDepth 100000
/-! A layer of data over HandS: what an expression, a statement, a def is worth, said of plain data. -/
namespace DL
open PySem PySem.Spec PyProof.Rows L2
abbrev St := L2.St

inductive D where
  | non | bl (b : Bool) | int (i : Int) | str (x : Str)
  | tup (xs : List D) | lst (xs : List D) | dct (kvs : List (List Key × D))
  /-- the script -/
  | scr (ns : List Int)
  /-- a range that is kept -/
  | rng (lo hi : Int)
  /-- a set of ints -/
  | stt (ns : List Int)
  /-- a dict of ints to ints; the same, read only for now -/
  | dci (kvs : List (Int × Int)) | dcf (kvs : List (Int × Int))
deriving Inhabited

/-- what may not be written by others -/
abbrev Fb := Addr → Prop

/-- a list that no one can write -/
def SqZ (K : PySem.W.Frag) (H : Hp) (a : Addr) (xs : List V) : Prop :=
  (∃ o, H a = some (.frz o (.lst xs))) ∨
    ∃ (o : Obj) (its : Array Value) (n : Nat), K.lookup a = some o ∧ o.cls = .type "list" ∧ o.dict = none ∧ o.data = .seq its n ∧ its.size ≤ sizeLine ∧ Vals xs its.toList
theorem SqZ.sq {K : PySem.W.Frag} {H : Hp} {a : Addr} {xs : List V} (h : SqZ K H a xs) : SqL K H a xs := h.imp .inr id
def encI2 (kvs : List (Int × Int)) : List (Key × V) := kvs.map fun p => ((Sum.inl p.1 : Key), V.int p.2)
mutual
def Rep (K : PySem.W.Frag) (H : Hp) (W : Fb) : D → V → Prop
  | .non, v => v = .non
  | .bl b, v => v = .bl b
  | .int i, v => v = .int i
  | .str x, v => v = .str x
  | .tup ds, v => ∃ a xs, v = .ref a ∧ H a = some (.tup xs) ∧ ds.length ≤ sizeLine ∧ Reps K H W ds xs
  | .lst ds, v => ∃ a xs, v = .ref a ∧ ¬ W a ∧ H a = some (.lst xs) ∧ ds.length ≤ sizeLine ∧ Reps K H W ds xs
  | .dct kvs, v => ∃ a kxs, v = .ref a ∧ ¬ W a ∧ Rd H a (.dT kxs) ∧ kvs.length ≤ sizeLine ∧ RepK K H W kvs kxs
  | .scr ns, v => ∃ a, v = .ref a ∧ SqZ K H a (ns.map V.int)
  | .rng lo hi, v => ∃ a, v = .ref a ∧ H a = some (.rng lo hi)
  | .stt ns, v => ∃ a w n, v = .ref a ∧ ¬ W a ∧ H a = some (SetO w a (fun j => decide (j ∈ ns)) n)
  | .dci kvs, v => ∃ a, v = .ref a ∧ ¬ W a ∧ Rd H a (.dK (encI2 kvs)) ∧ kvs.length ≤ sizeLine
  | .dcf kvs, v => ∃ a o, v = .ref a ∧ ¬ W a ∧ H a = some (.frz o (.dK (encI2 kvs))) ∧ kvs.length ≤ sizeLine
def Reps (K : PySem.W.Frag) (H : Hp) (W : Fb) : List D → List V → Prop
  | [], xs => xs = []
  | d :: ds, xs => ∃ v vs, xs = v :: vs ∧ Rep K H W d v ∧ Reps K H W ds vs
def RepK (K : PySem.W.Frag) (H : Hp) (W : Fb) : List (List Key × D) → List (List Key × V) → Prop
  | [], xs => xs = []
  | (k, d) :: ds, xs => ∃ v vs, xs = (k, v) :: vs ∧ Rep K H W d v ∧ RepK K H W ds vs
end

theorem rd_no {H : Hp} {a : Addr} {u : HO} (r : Rd H a u) (h : H a = none) : False := by
  rcases r with r | ⟨_, r⟩
  · rw [h] at r; cases r
  · rw [h] at r; cases r
section
variable {K : PySem.W.Frag} {H H' : Hp} {W W' : Fb}
mutual
theorem Rep.anti2 (h : ∀ a, W' a → W a ∨ H a = none) : ∀ (d : D) (v : V), Rep K H W d v → Rep K H W' d v
  | .non, v, r => r
  | .bl b, v, r => r
  | .int i, v, r => r
  | .str x, v, r => r
  | .tup ds, v, r => by
    obtain ⟨a, xs, e, s, z, q⟩ := r
    exact ⟨a, xs, e, s, z, Reps.anti2 h ds xs q⟩
  | .lst ds, v, r => by
    obtain ⟨a, xs, e, n, s, z, q⟩ := r
    exact ⟨a, xs, e, fun w => (h a w).elim n (rd_no (.inl s)), s, z, Reps.anti2 h ds xs q⟩
  | .dct kvs, v, r => by
    obtain ⟨a, xs, e, n, s, z, q⟩ := r
    exact ⟨a, xs, e, fun w => (h a w).elim n (rd_no s), s, z, RepK.anti2 h kvs xs q⟩
  | .scr ns, v, r => r
  | .rng lo hi, v, r => r
  | .stt ns, v, r => by
    obtain ⟨a, w, n, e, nw, s⟩ := r
    exact ⟨a, w, n, e, fun z => (h a z).elim nw (rd_no (.inl s)), s⟩
  | .dci kvs, v, r => by
    obtain ⟨a, e, n, s, z⟩ := r
    exact ⟨a, e, fun w => (h a w).elim n (rd_no s), s, z⟩
  | .dcf kvs, v, r => by
    obtain ⟨a, o, e, n, s, z⟩ := r
    exact ⟨a, o, e, fun w => (h a w).elim n fun q => (by rw [s] at q; cases q), s, z⟩
theorem Reps.anti2 (h : ∀ a, W' a → W a ∨ H a = none) : ∀ (ds : List D) (xs : List V), Reps K H W ds xs → Reps K H W' ds xs
  | [], xs, r => r
  | d :: ds, xs, r => by
    obtain ⟨v, vs, e, q1, q2⟩ := r
    exact ⟨v, vs, e, Rep.anti2 h d v q1, Reps.anti2 h ds vs q2⟩
theorem RepK.anti2 (h : ∀ a, W' a → W a ∨ H a = none) : ∀ (ds : List (List Key × D)) (xs : List (List Key × V)), RepK K H W ds xs → RepK K H W' ds xs
  | [], xs, r => r
  | (k, d) :: ds, xs, r => by
    obtain ⟨v, vs, e, q1, q2⟩ := r
    exact ⟨v, vs, e, Rep.anti2 h d v q1, RepK.anti2 h ds vs q2⟩
end
theorem Rep.anti (h : ∀ a, W' a → W a) {d : D} {v : V} (r : Rep K H W d v) : Rep K H W' d v := Rep.anti2 (fun a z => .inl (h a z)) d v r
theorem Reps.anti (h : ∀ a, W' a → W a) {ds : List D} {xs : List V} (r : Reps K H W ds xs) : Reps K H W' ds xs := Reps.anti2 (fun a z => .inl (h a z)) ds xs r
theorem RepK.anti (h : ∀ a, W' a → W a) {ds : List (List Key × D)} {xs : List (List Key × V)} (r : RepK K H W ds xs) : RepK K H W' ds xs := RepK.anti2 (fun a z => .inl (h a z)) ds xs r

/-- what is kept from H to H' when only what is at M is written -/
structure Kp (M : Fb) (H H' : Hp) : Prop where
  mt : ∀ a, M a → Mut (H a)
  keep : ∀ a o, H a = some o → ¬ M a → H' a = some o
theorem Kp.tup {M : Fb} (k : Kp M H H') {a : Addr} {xs : List V} (s : H a = some (.tup xs)) : H' a = some (.tup xs) :=
  k.keep _ _ s fun m => by have := k.mt a m; rw [s] at this; exact this
theorem Kp.rd {M : Fb} (k : Kp M H H') {a : Addr} {o : HO} (n : ¬ M a) (s : Rd H a o) : Rd H' a o := by
  rcases s with h | ⟨ob, h⟩
  · exact .inl (k.keep _ _ h n)
  · exact .inr ⟨ob, k.keep _ _ h n⟩
theorem Kp.sqz {M : Fb} (k : Kp M H H') {a : Addr} {xs : List V} (s : SqZ K H a xs) : SqZ K H' a xs := by
  rcases s with ⟨o, h⟩ | h
  · exact .inl ⟨o, k.keep _ _ h fun m => by have := k.mt a m; rw [h] at this; exact this⟩
  · exact .inr h
theorem Kp.lst {M : Fb} (k : Kp M H H') {a : Addr} {xs : List V} (n : ¬ M a) (s : SqL K H a xs) : SqL K H' a xs := by
  rcases s with h | h
  · exact .inl (k.rd n h)
  · exact .inr h
mutual
theorem Rep.keep {M : Fb} (k : Kp M H H') (hM : ∀ a, M a → W a) : ∀ (d : D) (v : V), Rep K H W d v → Rep K H' W d v
  | .non, v, r => r
  | .bl b, v, r => r
  | .int i, v, r => r
  | .str x, v, r => r
  | .tup ds, v, r => by
    obtain ⟨a, xs, e, s, z, q⟩ := r
    exact ⟨a, xs, e, k.tup s, z, Reps.keep k hM ds xs q⟩
  | .lst ds, v, r => by
    obtain ⟨a, xs, e, n, s, z, q⟩ := r
    exact ⟨a, xs, e, n, k.keep _ _ s fun m => n (hM a m), z, Reps.keep k hM ds xs q⟩
  | .dct kvs, v, r => by
    obtain ⟨a, xs, e, n, s, z, q⟩ := r
    exact ⟨a, xs, e, n, k.rd (fun m => n (hM a m)) s, z, RepK.keep k hM kvs xs q⟩
  | .scr ns, v, r => by
    obtain ⟨a, e, s⟩ := r
    exact ⟨a, e, k.sqz s⟩
  | .rng lo hi, v, r => by
    obtain ⟨a, e, s⟩ := r
    exact ⟨a, e, k.keep _ _ s fun m => by have := k.mt a m; rw [s] at this; exact this⟩
  | .stt ns, v, r => by
    obtain ⟨a, w, n, e, nw, s⟩ := r
    exact ⟨a, w, n, e, nw, k.keep _ _ s fun m => nw (hM a m)⟩
  | .dci kvs, v, r => by
    obtain ⟨a, e, n, s, z⟩ := r
    exact ⟨a, e, n, k.rd (fun m => n (hM a m)) s, z⟩
  | .dcf kvs, v, r => by
    obtain ⟨a, o, e, n, s, z⟩ := r
    exact ⟨a, o, e, n, k.keep _ _ s fun m => n (hM a m), z⟩
theorem Reps.keep {M : Fb} (k : Kp M H H') (hM : ∀ a, M a → W a) : ∀ (ds : List D) (xs : List V), Reps K H W ds xs → Reps K H' W ds xs
  | [], xs, r => r
  | d :: ds, xs, r => by
    obtain ⟨v, vs, e, q1, q2⟩ := r
    exact ⟨v, vs, e, Rep.keep k hM d v q1, Reps.keep k hM ds vs q2⟩
theorem RepK.keep {M : Fb} (k : Kp M H H') (hM : ∀ a, M a → W a) : ∀ (ds : List (List Key × D)) (xs : List (List Key × V)), RepK K H W ds xs → RepK K H' W ds xs
  | [], xs, r => r
  | (k', d) :: ds, xs, r => by
    obtain ⟨v, vs, e, q1, q2⟩ := r
    exact ⟨v, vs, e, Rep.keep k hM d v q1, RepK.keep k hM ds vs q2⟩
end

/-- what stands at an owned address -/
def Hold (K : PySem.W.Frag) (H : Hp) (W : Fb) (a : Addr) : D → Prop
  | .lst ds => ∃ xs, H a = some (.lst xs) ∧ ds.length ≤ sizeLine ∧ Reps K H W ds xs
  | .dct kvs => ∃ kxs, H a = some (.dT kxs) ∧ kvs.length ≤ sizeLine ∧ RepK K H W kvs kxs
  | .dci kvs => H a = some (.dK (encI2 kvs)) ∧ kvs.length ≤ sizeLine
  | _ => False
/-- what may be read -/
def Top (K : PySem.W.Frag) (H : Hp) (W : Fb) : D → V → Prop
  | .lst ds, v => ∃ a xs, v = .ref a ∧ H a = some (.lst xs) ∧ ds.length ≤ sizeLine ∧ Reps K H W ds xs
  | .dct kvs, v => ∃ a kxs, v = .ref a ∧ Rd H a (.dT kxs) ∧ kvs.length ≤ sizeLine ∧ RepK K H W kvs kxs
  | .dci kvs, v => ∃ a, v = .ref a ∧ Rd H a (.dK (encI2 kvs)) ∧ kvs.length ≤ sizeLine
  | d, v => Rep K H W d v
theorem Rep.top {d : D} {v : V} (r : Rep K H W d v) : Top K H W d v := by
  cases d with
  | lst ds => obtain ⟨a, xs, e, n, s, z, q⟩ := r; exact ⟨a, xs, e, s, z, q⟩
  | dct ds => obtain ⟨a, xs, e, n, s, z, q⟩ := r; exact ⟨a, xs, e, s, z, q⟩
  | dci ds => obtain ⟨a, e, n, s, z⟩ := r; exact ⟨a, e, s, z⟩
  | _ => exact r
theorem Hold.top {d : D} {a : Addr} (r : Hold K H W a d) : Top K H W d (.ref a) := by
  cases d with
  | lst ds => obtain ⟨xs, h, z, q⟩ := r; exact ⟨a, xs, rfl, h, z, q⟩
  | dct ds => obtain ⟨xs, h, z, q⟩ := r; exact ⟨a, xs, rfl, .of h, z, q⟩
  | dci ds => exact ⟨a, rfl, .of r.1, r.2⟩
  | _ => exact r.elim
theorem Hold.rep {d : D} {a : Addr} (n : ¬ W a) (r : Hold K H W a d) : Rep K H W d (.ref a) := by
  cases d with
  | lst ds => obtain ⟨xs, h, z, q⟩ := r; exact ⟨a, xs, rfl, n, h, z, q⟩
  | dct ds => obtain ⟨xs, h, z, q⟩ := r; exact ⟨a, xs, rfl, n, .of h, z, q⟩
  | dci ds => exact ⟨a, rfl, n, .of r.1, r.2⟩
  | _ => exact r.elim
theorem Hold.anti {d : D} {a : Addr} (h : ∀ a, W' a → W a) (r : Hold K H W a d) : Hold K H W' a d := by
  cases d with
  | lst ds => obtain ⟨xs, e, z, q⟩ := r; exact ⟨xs, e, z, q.anti h⟩
  | dct ds => obtain ⟨xs, e, z, q⟩ := r; exact ⟨xs, e, z, q.anti h⟩
  | dci ds => exact r
  | _ => exact r.elim
theorem Hold.keep {d : D} {a : Addr} {M : Fb} (k : Kp M H H') (hM : ∀ a, M a → W a) (e : H' a = H a) (r : Hold K H W a d) : Hold K H' W a d := by
  cases d with
  | lst ds => obtain ⟨xs, h, z, q⟩ := r; exact ⟨xs, e.trans h, z, q.keep k hM⟩
  | dct ds => obtain ⟨xs, h, z, q⟩ := r; exact ⟨xs, e.trans h, z, q.keep k hM⟩
  | dci ds => exact ⟨e.trans r.1, r.2⟩
  | _ => exact r.elim
theorem Hold.mut {d : D} {a : Addr} (r : Hold K H W a d) : Mut (H a) := by
  cases d with
  | lst ds => obtain ⟨xs, e, z, q⟩ := r; rw [e]; trivial
  | dct ds => obtain ⟨xs, e, z, q⟩ := r; rw [e]; trivial
  | dci ds => rw [r.1]; trivial
  | _ => exact r.elim
end

/-! ### the state -/
inductive Sl where
  /-- a value; a thing of one's own (true: a parameter that is written for the caller) -/
  | val (d : D) | own (b : Bool) (d : D)
  /-- a dict that is walked: it is read only -/
  | lck (kvs : List (List Key × D))
  /-- the exception that a suite holds -/
  | exn (a dd : Addr) (fs : List (Str × Int))
abbrev Nv := List (Option Sl)
def Own (env : Nv) (σ : St) : Fb := fun a => ∃ (i : Nat) (b : Bool) (d : D), env[i]? = some (some (Sl.own b d)) ∧ σ[i]? = some (some (V.ref a))
def All (W : Fb) (env : Nv) (σ : St) : Fb := fun a => W a ∨ Own env σ a
/-- the fields of an exception, in its dict at dd -/
def XdOk (H : Hp) (dd : Addr) (fs : List (Str × Int)) : Prop := fs = [] ∨ H dd = some (.xd (fs.map fun p => (p.1, V.int p.2)))
theorem XdOk.keep {H H' : Hp} {dd : Addr} {fs : List (Str × Int)} (h : XdOk H dd fs) (k : ∀ x, H dd = some (.xd x) → H' dd = some (.xd x)) : XdOk H' dd fs := h.imp id (k _)
structure AS (K : PySem.W.Frag) (W : Fb) (env : Nv) (σ : St) (H : Hp) : Prop where
  len : env.length = σ.length
  val : ∀ (i : Nat) (d : D), env[i]? = some (some (Sl.val d)) → ∃ v, σ[i]? = some (some v) ∧ Rep K H (All W env σ) d v
  own : ∀ (i : Nat) (b : Bool) (d : D), env[i]? = some (some (Sl.own b d)) → ∃ a, σ[i]? = some (some (V.ref a)) ∧ Hold K H (All W env σ) a d ∧ (b = true ↔ W a)
  dis : ∀ (i j : Nat) (b c : Bool) (d e : D) (a : Addr), env[i]? = some (some (Sl.own b d)) → env[j]? = some (some (Sl.own c e)) → σ[i]? = some (some (V.ref a)) → σ[j]? = some (some (V.ref a)) → i = j
  trk : ∀ a, W a → Mut (H a)
  lck : ∀ (i : Nat) (kvs : List (List Key × D)), env[i]? = some (some (Sl.lck kvs)) → ∃ a o kxs, σ[i]? = some (some (V.ref a)) ∧ H a = some (.frz o (.dT kxs)) ∧ kvs.length ≤ sizeLine ∧ RepK K H (All W env σ) kvs kxs
  exn : ∀ (i : Nat) (a dd : Addr) (fs : List (Str × Int)), env[i]? = some (some (Sl.exn a dd fs)) → σ[i]? = some (some (V.ref a)) ∧ XdOk H dd fs
/-- from one state to another of the same def -/
structure Stp (env : Nv) (σ : St) (H : Hp) (env' : Nv) (σ' : St) (H' : Hp) : Prop where
  keep : ∀ a o, H a = some o → ¬ Own env σ a → H' a = some o
  own : ∀ a, Own env' σ' a → Own env σ a ∨ H a = none
  there : ∀ a, H' a = none → H a = none
theorem Stp.refl {env : Nv} {σ : St} {H : Hp} : Stp env σ H env σ H := ⟨fun _ _ h _ => h, fun _ h => .inl h, fun _ h => h⟩
theorem Stp.trans {e1 e2 e3 : Nv} {s1 s2 s3 : St} {H1 H2 H3 : Hp} (a : Stp e1 s1 H1 e2 s2 H2) (b : Stp e2 s2 H2 e3 s3 H3) : Stp e1 s1 H1 e3 s3 H3 where
  keep := fun x o h n => b.keep x o (a.keep x o h n) fun z => (a.own x z).elim n fun q => by rw [h] at q; cases q
  own := fun x z => (b.own x z).elim (a.own x) fun q => .inr (a.there x q)
  there := fun x q => a.there x (b.there x q)
/-- fewer owned -/
theorem Stp.less {env env' : Nv} {σ : St} {H : Hp} (h : ∀ a, Own env' σ a → Own env σ a) : Stp env σ H env' σ H := ⟨fun _ _ h _ => h, fun a z => .inl (h a z), fun _ h => h⟩
theorem Stp.new {env : Nv} {σ : St} {H : Hp} {p : Addr} {o : HO} (h : H p = none) : Stp env σ H env σ (upd H p o) :=
  ⟨fun a u e _ => by rw [upd_ne (ne_of_none e h)]; exact e, fun _ z => .inl z, fun a q => by
    by_cases e : a = p
    · subst e; exact h
    · rw [upd_ne e] at q; exact q⟩
section
variable {K : PySem.W.Frag} {W W' : Fb} {env env' : Nv} {σ σ' : St} {H H' : Hp}
theorem AS.kp (A : AS K W env σ H) (s : Stp env σ H env' σ' H') : Kp (Own env σ) H H' :=
  ⟨fun a ⟨i, c, d, e1, e2⟩ => by
    obtain ⟨b, h1, h2, _⟩ := A.own i c d e1
    rw [e2] at h1; cases h1
    exact h2.mut, s.keep⟩
theorem AS.none_not (A : AS K W env σ H) {p : Addr} (h : H p = none) : ¬ All W env σ p := fun z => by
  rcases z with z | ⟨i, c, d, e1, e2⟩
  · have := A.trk p z; rw [h] at this; exact this
  · obtain ⟨b, h1, h2, _⟩ := A.own i c d e1
    rw [e2] at h1; cases h1
    have := h2.mut; rw [h] at this; exact this
theorem AS.unplus {p : Addr} (A : AS K (fun a => W a ∨ a = p) env σ H) (n : ¬ Own env σ p) : AS K W env σ H := by
  have hh : ∀ a, All W env σ a → All (fun a => W a ∨ a = p) env σ a := fun a z => z.imp .inl id
  refine ⟨A.len, fun i d e => ?_, fun i c d e => ?_, A.dis, fun a z => A.trk a (.inl z), fun i kvs e => ?_, A.exn⟩
  · obtain ⟨v, q, r⟩ := A.val i d e
    exact ⟨v, q, r.anti hh⟩
  · obtain ⟨v, q, r, g⟩ := A.own i c d e
    have o : Own env σ v := ⟨i, c, d, e, q⟩
    refine ⟨v, q, r.anti hh, fun z => (g.mp z).elim id fun w => absurd o (by rw [w]; exact n), fun z => g.mpr (.inl z)⟩
  · obtain ⟨a, o, kxs, q, h, l, r⟩ := A.lck i kvs e
    exact ⟨a, o, kxs, q, h, l, r.anti hh⟩
/-- the heap grows by what is new, nothing written -/
theorem AS.grow (A : AS K W env σ H) (k : ∀ a o, H a = some o → H' a = some o) : AS K W env σ H' := by
  have kp : Kp (fun _ => False) H H' := ⟨fun _ z => z.elim, fun a o e _ => k a o e⟩
  refine ⟨A.len, fun i d e => ?_, fun i c d e => ?_, A.dis, fun a z => ?_, fun i kvs e => ?_, fun i a dd fs e => ⟨(A.exn i a dd fs e).1, (A.exn i a dd fs e).2.keep fun _ h => k _ _ h⟩⟩
  · obtain ⟨v, q, r⟩ := A.val i d e
    exact ⟨v, q, Rep.keep kp (fun _ z => z.elim) d v r⟩
  · obtain ⟨v, q, r, n⟩ := A.own i c d e
    refine ⟨v, q, r.keep kp (fun _ z => z.elim) ?_, n⟩
    have m := r.mut
    cases q2 : H v with
    | none => rw [q2] at m; exact m.elim
    | some o => exact k _ _ q2
  · have m := A.trk a z
    cases q2 : H a with
    | none => rw [q2] at m; exact m.elim
    | some o => rw [k _ _ q2, ← q2]; exact m
  · obtain ⟨a, o, kxs, q, h, l, r⟩ := A.lck i kvs e
    exact ⟨a, o, kxs, q, k _ _ h, l, RepK.keep kp (fun _ z => z.elim) kvs kxs r⟩
theorem AS.new (A : AS K W env σ H) {p : Addr} {o : HO} (h : H p = none) : AS K W env σ (upd H p o) := A.grow fun a u e => by rw [upd_ne (ne_of_none e h)]; exact e
end
section
variable {K : PySem.W.Frag} {W : Fb} {H : Hp} {p : Addr} {o : HO}
theorem rd_ne {a : Addr} {u : HO} (r : Rd H a u) (h : H p = none) : a ≠ p := by
  rcases r with r | ⟨_, r⟩
  · exact ne_of_none r h
  · exact ne_of_none r h
mutual
theorem Rep.forbid (h : H p = none) : ∀ (d : D) (v : V), Rep K H W d v → Rep K H (fun a => W a ∨ a = p) d v
  | .non, v, r => r
  | .bl b, v, r => r
  | .int i, v, r => r
  | .str x, v, r => r
  | .tup ds, v, r => by
    obtain ⟨a, xs, e, s, z, q⟩ := r
    exact ⟨a, xs, e, s, z, Reps.forbid h ds xs q⟩
  | .lst ds, v, r => by
    obtain ⟨a, xs, e, n, s, z, q⟩ := r
    exact ⟨a, xs, e, fun w => w.elim n (ne_of_none s h), s, z, Reps.forbid h ds xs q⟩
  | .dct kvs, v, r => by
    obtain ⟨a, xs, e, n, s, z, q⟩ := r
    exact ⟨a, xs, e, fun w => w.elim n (rd_ne s h), s, z, RepK.forbid h kvs xs q⟩
  | .scr ns, v, r => r
  | .rng lo hi, v, r => r
  | .stt ns, v, r => by
    obtain ⟨a, w, n, e, nw, s⟩ := r
    exact ⟨a, w, n, e, fun z => z.elim nw (ne_of_none s h), s⟩
  | .dci kvs, v, r => by
    obtain ⟨a, e, n, s, z⟩ := r
    exact ⟨a, e, fun w => w.elim n (rd_ne s h), s, z⟩
  | .dcf kvs, v, r => by
    obtain ⟨a, o, e, n, s, z⟩ := r
    exact ⟨a, o, e, fun w => w.elim n (ne_of_none s h), s, z⟩
theorem Reps.forbid (h : H p = none) : ∀ (ds : List D) (xs : List V), Reps K H W ds xs → Reps K H (fun a => W a ∨ a = p) ds xs
  | [], xs, r => r
  | d :: ds, xs, r => by
    obtain ⟨v, vs, e, q1, q2⟩ := r
    exact ⟨v, vs, e, Rep.forbid h d v q1, Reps.forbid h ds vs q2⟩
theorem RepK.forbid (h : H p = none) : ∀ (ds : List (List Key × D)) (xs : List (List Key × V)), RepK K H W ds xs → RepK K H (fun a => W a ∨ a = p) ds xs
  | [], xs, r => r
  | (k, d) :: ds, xs, r => by
    obtain ⟨v, vs, e, q1, q2⟩ := r
    exact ⟨v, vs, e, Rep.forbid h d v q1, RepK.forbid h ds vs q2⟩
end
theorem Hold.forbid {d : D} {a : Addr} (h : H p = none) (r : Hold K H W a d) : Hold K H (fun a => W a ∨ a = p) a d := by
  cases d with
  | lst ds => obtain ⟨xs, e, z, q⟩ := r; exact ⟨xs, e, z, q.forbid h⟩
  | dct ds => obtain ⟨xs, e, z, q⟩ := r; exact ⟨xs, e, z, q.forbid h⟩
  | dci ds => exact r
  | _ => exact r.elim
/-- one more that is forbidden: nothing leads there -/
abbrev Plus (W : Fb) (p : Addr) : Fb := fun a => W a ∨ a = p
theorem all_plus {env : Nv} {σ : St} {a : Addr} : All (Plus W p) env σ a ↔ All W env σ a ∨ a = p := by
  unfold All Plus
  constructor
  · rintro ((h | h) | h)
    · exact .inl (.inl h)
    · exact .inr h
    · exact .inl (.inr h)
  · rintro ((h | h) | h)
    · exact .inl (.inl h)
    · exact .inr h
    · exact .inl (.inr h)
theorem AS.forbid2 {env : Nv} {σ : St} {H' : Hp} (A : AS K W env σ H) (h : H p = none) (g : ∀ b u, H b = some u → H' b = some u) (m : Mut (H' p)) : AS K (Plus W p) env σ H' := by
  have B := A.grow g
  have kp : Kp (fun _ => False) H H' := ⟨fun _ z => z.elim, fun b u e _ => g b u e⟩
  refine ⟨A.len, fun i d e => ?_, fun i c d e => ?_, A.dis, fun a z => ?_, fun i kvs e => ?_, fun i a dd fs e => ⟨(A.exn i a dd fs e).1, (A.exn i a dd fs e).2.keep fun _ h => g _ _ h⟩⟩
  · obtain ⟨v, q, r⟩ := A.val i d e
    exact ⟨v, q, Rep.keep kp (fun _ z => z.elim) d v (Rep.anti (fun a z => all_plus.mp z) (r.forbid h))⟩
  · obtain ⟨v, q, r, n⟩ := A.own i c d e
    have mm := r.mut
    refine ⟨v, q, Hold.keep kp (fun _ z => z.elim) ?_ ((r.forbid h).anti fun a z => all_plus.mp z), fun z => .inl (n.mp z), fun w => w.elim n.mpr fun q3 => ?_⟩
    rotate_left
    · rw [q3, h] at mm; exact mm.elim
    cases q2 : H v with
    | none => rw [q2] at mm; exact mm.elim
    | some u => exact g _ _ q2
  · rcases z with z | z
    · exact B.trk a z
    · rw [z]; exact m
  · obtain ⟨a, o, kxs, q, hh, l, r⟩ := A.lck i kvs e
    exact ⟨a, o, kxs, q, g _ _ hh, l, RepK.keep kp (fun _ z => z.elim) kvs kxs (RepK.anti (fun a z => all_plus.mp z) (r.forbid h))⟩
theorem AS.forbid {env : Nv} {σ : St} (A : AS K W env σ H) (h : H p = none) (m : Mut (some o)) : AS K (Plus W p) env σ (upd H p o) :=
  A.forbid2 h (fun b u e => by rw [upd_ne (ne_of_none e h)]; exact e) (by rw [upd_same]; exact m)
end

/-! ### results -/
/-- a value that stands; the thing of a slot; a new thing that nothing else leads to -/
inductive R where
  | val (d : D) | slot (i : Nat) | frs (d : D)
structure Ex where
  c : Nat
  fs : List (Str × Int)
inductive Out where
  | ok (r : R) (env : Nv) | exc (x : Ex) (env : Nv)
/-- the classes of exceptions by number, a wish about exceptions -/
structure Wsh where
  CA : Nat → Addr
  wx : WX
def XOk (CA : Nat → Addr) (x : Ex) (cls : Value) (d : Option Addr) (H : Hp) : Prop :=
  cls = .ref (CA x.c) ∧ ((x.fs = [] ∧ d = none) ∨ (x.fs ≠ [] ∧ ∃ dd, d = some dd ∧ H dd = some (.xd (x.fs.map fun p => (p.1, V.int p.2)))))
def Res (K : PySem.W.Frag) (W : Fb) (H : Hp) (env' : Nv) (σ' : St) (H' : Hp) : R → V → Prop
  | .val d, v => AS K W env' σ' H' ∧ Rep K H' (All W env' σ') d v
  | .slot i, v => AS K W env' σ' H' ∧ σ'[i]? = some (some v)
  | .frs d, v => ∃ a, v = .ref a ∧ H a = none ∧ ¬ W a ∧ ¬ Own env' σ' a ∧ AS K (Plus W a) env' σ' H' ∧ Hold K H' (All (Plus W a) env' σ') a d
/-- an outcome and what is wanted behind it; from the state env σ H on -/
def Pend (K : PySem.W.Frag) (W : Fb) (X : Wsh) (env : Nv) (σ : St) (H : Hp) (Q : VK) : Option Out → Prop
  | some (.ok r env') => ∀ v H', Stp env σ H env' σ H' → Res K W H env' σ H' r v → Q v H'
  | some (.exc x env') => ∀ cls d H', Stp env σ H env' σ H' → AS K W env' σ H' → XOk X.CA x cls d H' → X.wx cls d σ H'
  | none => False
def tE (K : PySem.W.Frag) (X : Wsh) (f : Nv → Option Out) : TE := fun σ H Q => ∃ W env, AS K W env σ H ∧ Pend K W X env σ H Q (f env)

section
variable {K : PySem.W.Frag} {W W' : Fb} {X : Wsh} {env env' : Nv} {σ σ' : St} {H H' : Hp} {Q : VK} {o : Option Out}
theorem Res.as {r : R} {v : V} (h : Res K W H env' σ' H' r v) : AS K W env' σ' H' := by
  cases r with
  | val d => exact h.1
  | slot i => exact h.1
  | frs d => obtain ⟨a, _, _, _, n, A, _⟩ := h; exact A.unplus n
/-- a value in the air: what may be kept -/
def hold : R → R
  | .frs d => .val d
  | r => r
/-- in the air, without the state -/
def RL (K : PySem.W.Frag) (W : Fb) (env : Nv) (σ : St) (H : Hp) : R → V → Prop
  | .val d, v => Rep K H (All W env σ) d v
  | .slot i, v => σ[i]? = some (some v)
  | .frs _, _ => False
theorem Res.rl {r : R} {v : V} (h : Res K W H env' σ' H' r v) : RL K W env' σ' H' (hold r) v := by
  cases r with
  | val d => exact h.2
  | slot i => exact h.2
  | frs d =>
    obtain ⟨a, rfl, hn, nW, nO, A, hd⟩ := h
    refine (hd.anti (W' := All W env' σ') fun b z => all_plus.mpr (.inl z)).rep fun z => ?_
    exact z.elim nW nO
theorem RL.keep {r : R} {v : V} (A : AS K W env σ H) (s : Stp env σ H env' σ H') (h : RL K W env σ H r v) : RL K W env' σ H' r v := by
  cases r with
  | val d =>
    refine Rep.keep (A.kp s) (fun a z => ?_) d v (Rep.anti2 (W' := fun a => All W env' σ a ∨ Own env σ a) (fun a z => ?_) d v h) |> Rep.anti fun a z => .inl z
    · exact .inr z
    · rcases z with (z | z) | z
      · exact .inl (.inl z)
      · exact (s.own a z).imp .inr id
      · exact .inl (.inr z)
  | slot i => exact h
  | frs d => exact h.elim
theorem Res.shift {H0 : Hp} {r : R} {v : V} (hn : ∀ a, H a = none → H0 a = none) (h : Res K W H env' σ' H' r v) : Res K W H0 env' σ' H' r v := by
  cases r with
  | val d => exact h
  | slot i => exact h
  | frs d => obtain ⟨a, e, n, q⟩ := h; exact ⟨a, e, hn a n, q⟩
theorem Pend.shift (s : Stp env σ H env' σ H') (h : Pend K W X env σ H Q o) : Pend K W X env' σ H' Q o := by
  match o, h with
  | some (.ok r e2), h => exact fun v H2 s2 r2 => h v H2 (s.trans s2) (r2.shift s.there)
  | some (.exc x e2), h => exact fun cls d H2 s2 A2 x2 => h cls d H2 (s.trans s2) A2 x2
def bnd (o : Option Out) (k : R → Nv → Option Out) : Option Out :=
  match o with
  | some (.ok r env) => k r env
  | some (.exc x env) => some (.exc x env)
  | none => none
theorem pend_seq {k : R → Nv → Option Out} (h : Pend K W X env σ H Q (bnd o k)) :
    Pend K W X env σ H (fun v H1 => ∃ r env1, Stp env σ H env1 σ H1 ∧ Res K W H env1 σ H1 r v ∧ Pend K W X env σ H Q (k r env1)) o := by
  match o, h with
  | some (.ok r e2), h => exact fun v H2 s2 r2 => ⟨r, e2, s2, r2, h⟩
  | some (.exc x e2), h => exact h
theorem stepE {f : Nv → Option Out} {k : R → Nv → Option Out} (A : AS K W env σ H) (h : Pend K W X env σ H Q (bnd (f env) k)) :
    tE K X f σ H (fun v H1 => ∃ r env1, Stp env σ H env1 σ H1 ∧ AS K W env1 σ H1 ∧ RL K W env1 σ H1 (hold r) v ∧ Pend K W X env1 σ H1 Q (k r env1)) := by
  refine ⟨W, env, A, ?_⟩
  have h2 := pend_seq h
  revert h2
  generalize f env = o
  intro h2
  match o, h2 with
  | some (.exc x e2), h2 => exact h2
  | some (.ok r e2), h2 =>
    intro v H1 s1 r1
    obtain ⟨r', env1, s2, r2, p2⟩ := h2 v H1 s1 r1
    exact ⟨r', env1, s2, r2.as, r2.rl, p2.shift s2⟩
/-- from the left; each value is in the air while the next ones are reckoned -/
def evs : List (Nv → Option Out) → Nv → (List R → Nv → Option Out) → Option Out
  | [], env, k => k [] env
  | f :: fs, env, k => bnd (f env) fun r env1 => evs fs env1 fun rs env2 => k (hold r :: rs) env2
def RLs (K : PySem.W.Frag) (W : Fb) (env : Nv) (σ : St) (H : Hp) : List R → List V → Prop
  | [], vs => vs = []
  | r :: rs, vs => ∃ x xs, vs = x :: xs ∧ RL K W env σ H r x ∧ RLs K W env σ H rs xs
def tAs (K : PySem.W.Frag) (X : Wsh) : List (Nv → Option Out) → TA
  | [] => tNil
  | f :: fs => tCons (tE K X f) (tAs K X fs)
theorem Pend.mono {Q' : VK} (hq : ∀ v H, Q v H → Q' v H) (h : Pend K W X env σ H Q o) : Pend K W X env σ H Q' o := by
  match o, h with
  | some (.ok r e2), h => exact fun v H2 s2 r2 => hq _ _ (h v H2 s2 r2)
  | some (.exc x e2), h => exact h
theorem tAs_mono : ∀ (fs : List (Nv → Option Out)) {H : Hp} {Q Q' : List V → Hp → Prop}, (∀ vs H, Q vs H → Q' vs H) → tAs K X fs σ H Q → tAs K X fs σ H Q'
  | [], _, _, _, hq, h => hq _ _ h
  | f :: fs, H, Q, Q', hq, h => by
    obtain ⟨W, env, A, p⟩ := h
    exact ⟨W, env, A, p.mono fun v H1 g => tAs_mono fs (fun vs H2 => hq _ H2) g⟩
/-- all of an argument list -/
theorem evs_ok : ∀ (fs : List (Nv → Option Out)) {env : Nv} {H : Hp} {k : List R → Nv → Option Out}, AS K W env σ H → Pend K W X env σ H Q (evs fs env k) →
    tAs K X fs σ H (fun vs H' => ∃ rs env', Stp env σ H env' σ H' ∧ AS K W env' σ H' ∧ RLs K W env' σ H' rs vs ∧ Pend K W X env' σ H' Q (k rs env'))
  | [], env, H, k, A, h => ⟨[], env, .refl, A, rfl, h⟩
  | f :: fs, env, H, k, A, h => by
    refine ⟨W, env, A, ?_⟩
    have h2 := pend_seq h
    revert h2
    generalize f env = o
    intro h2
    match o, h2 with
    | some (.exc x e2), h2 => exact h2
    | some (.ok r e2), h2 =>
      intro v H1 s1 r1
      obtain ⟨r', env1, s2, r2, p2⟩ := h2 v H1 s1 r1
      have A1 := r2.as
      have L1 := r2.rl
      have g := evs_ok fs (env := env1) (H := H1) (k := fun rs env2 => k (hold r' :: rs) env2) A1 (p2.shift s2)
      refine tAs_mono fs ?_ g
      rintro vs H2 ⟨rs, env2, s3, A2, L2, p3⟩
      exact ⟨hold r' :: rs, env2, s2.trans s3, A2, ⟨v, vs, rfl, L1.keep A1 s3, L2⟩, p3⟩
end
end DL

set_option Elab.async false
set_option linter.all false
set_option maxRecDepth 100000
namespace DL
open PySem PySem.Spec PyProof.Rows L2
theorem PEimp {X : Cx} {e : Expr} {t t' : TE} (h : PE X e t) (hi : ∀ σ H Q, t' σ H Q → t σ H Q) : PE X e t' := ⟨fun pins s σ H Q I hq => h.run pins s σ H Q I (hi σ H Q hq)⟩
theorem PTimp {X : Cx} {e : Expr} {t t' : TT} (h : PT X e t) (hi : ∀ σ H Q, t' σ H Q → t σ H Q) : PT X e t' := ⟨fun pins s σ H Q I hq => h.run pins s σ H Q I (hi σ H Q hq)⟩
theorem PWimp {X : Cx} {e : Expr} {t t' : TT} (h : PW X e t) (hi : ∀ σ H Q, t' σ H Q → t σ H Q) : PW X e t' := ⟨fun wh pins s σ H Q I hq => h.run wh pins s σ H Q I (hi σ H Q hq)⟩
theorem PAimp {X : Cx} {e : List Expr} {t t' : TA} (h : PA X e t) (hi : ∀ σ H Q, t' σ H Q → t σ H Q) : PA X e t' := ⟨fun pos pins s σ H Q I hq => h.run pos pins s σ H Q I (hi σ H Q hq)⟩
theorem PSimp {X : Cx} {e : Stmt} {t t' : TS} (h : PS X e t) (hi : ∀ D σ H, t' D σ H → t D σ H) : PS X e t' := ⟨fun pins s σ H Q I hq => h.run pins s σ H Q I (hi Q σ H hq)⟩
theorem PSsimp {X : Cx} {e : List Stmt} {t t' : TS} (h : PSs X e t) (hi : ∀ D σ H, t' D σ H → t D σ H) : PSs X e t' := ⟨fun pins s σ H Q I hq => h.run pins s σ H Q I (hi Q σ H hq)⟩

abbrev F := Nv → Option Out
abbrev DE (X : Cx) (Z : Wsh) (e : Expr) (f : F) : Prop := PE X e (tE X.K Z f)
section
variable {K : PySem.W.Frag} {W : Fb} {Z : Wsh} {env env' : Nv} {σ σ' : St} {H H' : Hp} {Q : VK}
/-- the data of a value in the air -/
def pk (r : R) (env : Nv) : Option D := match r with
  | .val d => some d
  | .slot i => match env[i]? with
    | some (some (.val d)) => some d
    | some (some (.own _ d)) => some d
    | some (some (.lck kvs)) => some (.dct kvs)
    | _ => none
  | .frs _ => none
theorem pk_top {r : R} {v : V} {d : D} (A : AS K W env σ H) (h : RL K W env σ H r v) (e : pk r env = some d) : Top K H (All W env σ) d v := by
  cases r with
  | val d' => cases e; exact Rep.top h
  | frs _ => exact h.elim
  | slot i =>
    have h : σ[i]? = some (some v) := h
    simp only [pk] at e
    revert e
    cases q : env[i]? with
    | none => intro e; cases e
    | some o =>
      cases o with
      | none => intro e; cases e
      | some sl =>
        cases sl with
        | val d' =>
          intro e; cases e
          obtain ⟨u, q2, r⟩ := A.val i _ q
          rw [h] at q2; cases q2
          exact r.top
        | own b d' =>
          intro e; cases e
          obtain ⟨u, q2, r, _⟩ := A.own i b _ q
          rw [h] at q2; cases q2
          exact r.top
        | exn x dd fs => intro e; cases e
        | lck kvs =>
          intro e; cases e
          obtain ⟨a, o, kxs, q2, h2, l2, r2⟩ := A.lck i _ q
          rw [h] at q2; cases q2
          exact ⟨a, kxs, rfl, .inr ⟨o, h2⟩, l2, r2⟩
/-- a slot's thing is given away: it is written no more -/
def rel (i : Nat) (env : Nv) : Option (D × Nv) := match env[i]? with
  | some (some (.val d)) => some (d, env)
  | some (some (.own false d)) => some (d, env.set i (some (.val d)))
  | _ => none
theorem own_set {i : Nat} {o : Option Sl} (h : ∀ b d, o ≠ some (.own b d)) {a : Addr} (z : Own (env.set i o) σ a) : Own env σ a := by
  obtain ⟨j, b, d, e1, e2⟩ := z
  by_cases hj : i = j
  · subst hj
    by_cases hl : i < env.length
    · rw [List.getElem?_set_self hl] at e1
      exact absurd (Option.some.inj e1) (h b d)
    · rw [List.getElem?_eq_none (by simpa using hl)] at e1; cases e1
  · rw [List.getElem?_set_ne hj] at e1
    exact ⟨j, b, d, e1, e2⟩
theorem rel_ok {i : Nat} {d : D} {v : V} (A : AS K W env σ H) (hv : σ[i]? = some (some v)) (e : rel i env = some (d, env')) : AS K W env' σ H ∧ Rep K H (All W env' σ) d v ∧ Stp env σ H env' σ H := by
  unfold rel at e
  revert e
  cases q : env[i]? with
  | none => intro e; cases e
  | some o =>
    cases o with
    | none => intro e; cases e
    | some sl =>
      cases sl with
      | val d' =>
        intro e; cases e
        obtain ⟨u, q2, r⟩ := A.val i _ q
        rw [hv] at q2; cases q2
        exact ⟨A, r, .refl⟩
      | lck kvs => intro e; cases e
      | exn x dd fs => intro e; cases e
      | own b d' =>
        cases b with
        | true => intro e; cases e
        | false =>
          intro e; cases e
          obtain ⟨a, q2, r, nW⟩ := A.own i _ _ q
          rw [hv] at q2; cases q2
          have hi : i < env.length := (List.getElem?_eq_some_iff.mp q).1
          have less : ∀ b, Own (env.set i (some (Sl.val d))) σ b → Own env σ b := fun b z => own_set (fun _ _ z => by cases z) z
          have nO : ¬ Own (env.set i (some (Sl.val d))) σ a := fun ⟨j, b, d', e1, e2⟩ => by
            by_cases hj : i = j
            · subst hj
              rw [List.getElem?_set_self hi] at e1; cases e1
            · rw [List.getElem?_set_ne hj] at e1
              exact hj (A.dis i j _ _ _ _ a q e1 hv e2)
          have al : ∀ b, All W (env.set i (some (Sl.val d))) σ b → All W env σ b := fun b z => z.imp id (less b)
          have rp : Rep K H (All W (env.set i (some (Sl.val d))) σ) d (.ref a) := (r.anti al).rep fun z => z.elim (fun w => by have := nW.mpr w; cases this) nO
          refine ⟨⟨by rw [List.length_set]; exact A.len, fun j e h1 => ?_, fun j c e h1 => ?_, fun j k b c d' e a' h1 h2 h3 h4 => ?_, A.trk, fun j kvs h1 => ?_, fun j x dd fs h1 => ?_⟩, rp, .less less⟩
          · by_cases hj : i = j
            · subst hj
              rw [List.getElem?_set_self hi] at h1; cases h1
              exact ⟨_, hv, rp⟩
            · rw [List.getElem?_set_ne hj] at h1
              obtain ⟨u, q3, r3⟩ := A.val j e h1
              exact ⟨u, q3, r3.anti al⟩
          · by_cases hj : i = j
            · subst hj
              rw [List.getElem?_set_self hi] at h1; cases h1
            · rw [List.getElem?_set_ne hj] at h1
              obtain ⟨u, q3, r3, n3⟩ := A.own j c e h1
              exact ⟨u, q3, r3.anti al, n3⟩
          · have hj : i ≠ j := fun z => by subst z; rw [List.getElem?_set_self hi] at h1; cases h1
            have hk : i ≠ k := fun z => by subst z; rw [List.getElem?_set_self hi] at h2; cases h2
            rw [List.getElem?_set_ne hj] at h1
            rw [List.getElem?_set_ne hk] at h2
            exact A.dis j k _ _ _ _ a' h1 h2 h3 h4
          · by_cases hj : i = j
            · subst hj
              rw [List.getElem?_set_self hi] at h1; cases h1
            · rw [List.getElem?_set_ne hj] at h1
              obtain ⟨a2, o2, kxs, g1, g2, g3, g4⟩ := A.lck j kvs h1
              exact ⟨a2, o2, kxs, g1, g2, g3, g4.anti al⟩
          · by_cases hj : i = j
            · subst hj
              rw [List.getElem?_set_self hi] at h1; cases h1
            · rw [List.getElem?_set_ne hj] at h1
              exact A.exn j x dd fs h1
/-- what may be kept -/
def kp (r : R) (env : Nv) : Option (D × Nv) := match r with
  | .val d => some (d, env)
  | .slot i => rel i env
  | .frs _ => none
theorem kp_ok {r : R} {v : V} {d : D} (A : AS K W env σ H) (h : RL K W env σ H r v) (e : kp r env = some (d, env')) : AS K W env' σ H ∧ Rep K H (All W env' σ) d v ∧ Stp env σ H env' σ H := by
  cases r with
  | val d' => cases e; exact ⟨A, h, .refl⟩
  | slot i => exact rel_ok A h e
  | frs _ => exact h.elim
theorem RL.rep {d : D} {v : V} (h : RL K W env σ H (.val d) v) : Rep K H (All W env σ) d v := h
/-- behind an operation that hands on a value and leaves the heap -/
theorem pend_val {d : D} {v : V} (A : AS K W env σ H) (r : Rep K H (All W env σ) d v) (h : Pend K W Z env σ H Q (some (.ok (.val d) env))) : Q v H := h v H .refl ⟨A, r⟩
/-- .. that lays a new tuple -/
theorem pend_tup {ds : List D} {xs : List V} {p : Addr} (A : AS K W env σ H) (hp : H p = none) (hl : ds.length ≤ sizeLine) (r : Reps K H (All W env σ) ds xs) (h : Pend K W Z env σ H Q (some (.ok (.val (.tup ds)) env))) : Q (.ref p) (upd H p (.tup xs)) := by
  have A2 : AS K W env σ (upd H p (.tup xs)) := A.new hp
  have k : Kp (fun _ => False) H (upd H p (.tup xs)) := ⟨fun _ z => z.elim, fun b u e _ => by rw [upd_ne (ne_of_none e hp)]; exact e⟩
  exact h _ _ (.new hp) ⟨A2, ⟨p, xs, rfl, upd_same, hl, Reps.keep k (fun _ z => z.elim) ds xs r⟩⟩
/-- .. a new list -/
theorem pend_lst {ds : List D} {xs : List V} {p : Addr} (A : AS K W env σ H) (hp : H p = none) (hl : ds.length ≤ sizeLine) (r : Reps K H (All W env σ) ds xs) (h : Pend K W Z env σ H Q (some (.ok (.frs (.lst ds)) env))) : Q (.ref p) (upd H p (.lst xs)) := by
  have k : Kp (fun _ => False) H (upd H p (.lst xs)) := ⟨fun _ z => z.elim, fun b u e _ => by rw [upd_ne (ne_of_none e hp)]; exact e⟩
  have nall := A.none_not hp
  refine h _ _ (.new hp) ⟨p, rfl, hp, fun z => nall (.inl z), fun z => nall (.inr z), A.forbid hp trivial, ⟨xs, upd_same, hl, ?_⟩⟩
  exact Reps.keep k (fun _ z => z.elim) ds xs (Reps.anti (fun a z => all_plus.mp z) (r.forbid hp))
/-- .. a new dict -/
theorem pend_dct {ds : List (List Key × D)} {xs : List (List Key × V)} {p : Addr} (A : AS K W env σ H) (hp : H p = none) (hl : ds.length ≤ sizeLine) (r : RepK K H (All W env σ) ds xs) (h : Pend K W Z env σ H Q (some (.ok (.frs (.dct ds)) env))) : Q (.ref p) (upd H p (.dT xs)) := by
  have k : Kp (fun _ => False) H (upd H p (.dT xs)) := ⟨fun _ z => z.elim, fun b u e _ => by rw [upd_ne (ne_of_none e hp)]; exact e⟩
  have nall := A.none_not hp
  refine h _ _ (.new hp) ⟨p, rfl, hp, fun z => nall (.inl z), fun z => nall (.inr z), A.forbid hp trivial, ⟨xs, upd_same, hl, ?_⟩⟩
  exact RepK.keep k (fun _ z => z.elim) ds xs (RepK.anti (fun a z => all_plus.mp z) (r.forbid hp))
theorem Reps.length : ∀ {ds : List D} {xs : List V} {K : PySem.W.Frag} {H : Hp} {W : Fb}, Reps K H W ds xs → ds.length = xs.length
  | [], xs, _, _, _, h => by
    have h : xs = [] := h
    rw [h]; rfl
  | d :: ds, xs, _, _, _, h => by
    obtain ⟨v, vs, rfl, _, q⟩ := h
    simp [Reps.length q]
theorem Reps.get : ∀ {ds : List D} {xs : List V} {K : PySem.W.Frag} {H : Hp} {W : Fb} {i : Nat} {d : D}, Reps K H W ds xs → ds[i]? = some d → ∃ v, xs[i]? = some v ∧ Rep K H W d v
  | [], xs, _, _, _, _, _, h, e => by simp at e
  | d :: ds, xs, _, _, _, 0, d', h, e => by
    obtain ⟨v, vs, rfl, r, q⟩ := h
    simp at e
    subst e
    exact ⟨v, rfl, r⟩
  | d :: ds, xs, _, _, _, i + 1, d', h, e => by
    obtain ⟨v, vs, rfl, r, q⟩ := h
    simp at e
    obtain ⟨u, h1, h2⟩ := Reps.get q e
    exact ⟨u, by simpa using h1, h2⟩
theorem Reps.append : ∀ {ds es : List D} {xs ys : List V} {K : PySem.W.Frag} {H : Hp} {W : Fb}, Reps K H W ds xs → Reps K H W es ys → Reps K H W (ds ++ es) (xs ++ ys)
  | [], es, xs, ys, _, _, _, h, g => by
    have h : xs = [] := h
    subst h
    exact g
  | d :: ds, es, xs, ys, _, _, _, h, g => by
    obtain ⟨v, vs, rfl, r, q⟩ := h
    exact ⟨v, vs ++ ys, rfl, r, Reps.append q g⟩
theorem Reps.drop : ∀ (n : Nat) {ds : List D} {xs : List V} {K : PySem.W.Frag} {H : Hp} {W : Fb}, Reps K H W ds xs → Reps K H W (ds.drop n) (xs.drop n)
  | 0, _, _, _, _, _, h => h
  | n + 1, [], xs, _, _, _, h => by
    have h : xs = [] := h
    subst h
    exact rfl
  | n + 1, d :: ds, xs, _, _, _, h => by
    obtain ⟨v, vs, rfl, r, q⟩ := h
    exact Reps.drop n q
theorem Reps.take : ∀ (n : Nat) {ds : List D} {xs : List V} {K : PySem.W.Frag} {H : Hp} {W : Fb}, Reps K H W ds xs → Reps K H W (ds.take n) (xs.take n)
  | 0, _, _, _, _, _, h => rfl
  | n + 1, [], xs, _, _, _, h => by
    have h : xs = [] := h
    subst h
    exact rfl
  | n + 1, d :: ds, xs, _, _, _, h => by
    obtain ⟨v, vs, rfl, r, q⟩ := h
    exact ⟨v, vs.take n, rfl, r, Reps.take n q⟩
theorem Reps.set : ∀ (n : Nat) {ds : List D} {xs : List V} {d : D} {v : V} {K : PySem.W.Frag} {H : Hp} {W : Fb}, Rep K H W d v → Reps K H W ds xs → Reps K H W (ds.set n d) (xs.set n v)
  | _, [], xs, _, _, _, _, _, _, h => by
    have h : xs = [] := h
    subst h
    exact rfl
  | 0, e :: ds, xs, d, v, _, _, _, r, h => by
    obtain ⟨u, vs, rfl, _, q⟩ := h
    exact ⟨v, vs, rfl, r, q⟩
  | n + 1, e :: ds, xs, d, v, _, _, _, r, h => by
    obtain ⟨u, vs, rfl, r', q⟩ := h
    exact ⟨u, vs.set n v, rfl, r', Reps.set n r q⟩
theorem Reps.erase : ∀ (n : Nat) {ds : List D} {xs : List V} {K : PySem.W.Frag} {H : Hp} {W : Fb}, Reps K H W ds xs → Reps K H W (ds.eraseIdx n) (xs.eraseIdx n)
  | _, [], xs, _, _, _, h => by
    have h : xs = [] := h
    subst h
    exact rfl
  | 0, e :: ds, xs, _, _, _, h => by
    obtain ⟨u, vs, rfl, _, q⟩ := h
    exact q
  | n + 1, e :: ds, xs, _, _, _, h => by
    obtain ⟨u, vs, rfl, r', q⟩ := h
    exact ⟨u, vs.eraseIdx n, rfl, r', Reps.erase n q⟩
end

/-! ### names, constants -/
def rdN (i : Nat) : F := fun env => match env[i]? with
  | some (some (.val d)) => some (.ok (.val d) env)
  | some (some (.own _ _)) => some (.ok (.slot i) env)
  | some (some (.lck _)) => some (.ok (.slot i) env)
  | some (some (.exn _ _ _)) => some (.ok (.slot i) env)
  | _ => none
section
variable {X : Cx} {Z : Wsh} {e e2 e3 : Expr} {f g h : F} {pos : Pos}
theorem de_var {i : Nat} (p : PE X e (tVar i)) : DE X Z e (rdN i) := by
  refine PEimp p fun σ H Q q => ?_
  obtain ⟨W, env, A, q⟩ := q
  unfold rdN at q
  revert q
  cases z : env[i]? with
  | none => intro q; exact q.elim
  | some o =>
    cases o with
    | none => intro q; exact q.elim
    | some sl =>
      cases sl with
      | val d =>
        intro q
        obtain ⟨v, h1, h2⟩ := A.val i d z
        exact ⟨v, h1, q v H .refl ⟨A, h2⟩⟩
      | own b d =>
        intro q
        obtain ⟨v, h1, h2⟩ := A.own i b d z
        exact ⟨_, h1, q _ H .refl ⟨A, h1⟩⟩
      | lck kvs =>
        intro q
        obtain ⟨a, o, kxs, h1, _⟩ := A.lck i kvs z
        exact ⟨_, h1, q _ H .refl ⟨A, h1⟩⟩
      | exn a dd fs =>
        intro q
        exact ⟨_, (A.exn i a dd fs z).1, q _ H .refl ⟨A, (A.exn i a dd fs z).1⟩⟩
def cst (d : D) : F := fun env => some (.ok (.val d) env)
theorem de_int {i : Int} {j} : DE X Z (.Constant (.int i) j pos) (cst (.int i)) := PEimp pe_int fun σ H Q ⟨W, env, A, q⟩ => pend_val (d := .int i) A rfl q
theorem de_bl {b : Bool} {j} : DE X Z (.Constant (.bool b) j pos) (cst (.bl b)) := PEimp pe_bl fun σ H Q ⟨W, env, A, q⟩ => pend_val (d := .bl b) A rfl q
theorem de_non {j} : DE X Z (.Constant .none j pos) (cst .non) := PEimp pe_non fun σ H Q ⟨W, env, A, q⟩ => pend_val (d := .non) A rfl q
theorem de_str {x : Str} {j} : DE X Z (.Constant (.str x) j pos) (cst (.str x)) := PEimp pe_str fun σ H Q ⟨W, env, A, q⟩ => pend_val (d := .str x) A rfl q
/-! ### operators by values -/
abbrev O2 := R → R → Nv → Option Out
structure OpD (K : PySem.W.Frag) (r : R2) (o : O2) : Prop where
  run : ∀ {W : Fb} {Z : Wsh} {env : Nv} {σ : St} {H : Hp} {Q : VK} {x y : V} {p q : R}, AS K W env σ H → RL K W env σ H p x → RL K W env σ H q y → Pend K W Z env σ H Q (o p q env) → r x y H Q
def ap2 (f g : F) (o : O2) : F := fun env => evs [f, g] env fun rs env' => match rs with
  | [p, q] => o p q env'
  | _ => none
theorem ap2_ok {K : PySem.W.Frag} {r : R2} {o : O2} (ho : OpD K r o) {σ : St} {H : Hp} {Q : VK} (q : tE K Z (ap2 f g o) σ H Q) : tOp r (tE K Z f) (tE K Z g) σ H Q := by
  obtain ⟨W, env, A, q⟩ := q
  have t := evs_ok [f, g] A q
  obtain ⟨W0, e0, A0, t⟩ := t
  refine ⟨W0, e0, A0, t.mono fun x H1 t => ?_⟩
  obtain ⟨W1, e1, A1, t⟩ := t
  refine ⟨W1, e1, A1, t.mono fun y H2 t => ?_⟩
  obtain ⟨rs, env', s, A2, L, p⟩ := t
  match rs, L with
  | [p', q'], L =>
    obtain ⟨u, us, e1, l1, w, ws, e2, l2, e3⟩ := L
    have e3 : ws = [] := e3
    subst e3
    cases e1
    cases e2
    exact ho.run A2 l1 l2 p
  | [], L => cases L
  | [_], L => obtain ⟨u, us, e1, l1, L⟩ := L; cases e1; cases L
  | _ :: _ :: _ :: _, L => obtain ⟨u, us, e1, l1, w, ws, e2, l2, z, zs, e3, _⟩ := L; cases e1; cases e2; cases e3
theorem de_bin {op : Operator} {r : R2} {o : O2} (hr : OpR X (binaryOp op) r) (ho : OpD X.K r o) (ha : DE X Z e f) (hb : DE X Z e2 g) : DE X Z (.BinOp e op e2 pos) (ap2 f g o) :=
  PEimp (pe_op hr ha hb) fun σ H Q q => ap2_ok ho q
theorem de_cmp {op : CmpOp} {r : R2} {o : O2} (hr : OpR X (compareOp op) r) (ho : OpD X.K r o) (ha : DE X Z e f) (hb : DE X Z e2 g) (hm : behindInMarks op e2 = false := by first | exact nobehind _ (by decide) (by decide) | rfl) : DE X Z (.Compare e [op] [e2] pos) (ap2 f g o) :=
  PEimp (pe_cmpR hr ha hb hm) fun σ H Q q => ap2_ok ho q
/-- two data to a scalar -/
def o2 (o : D → D → Option D) : O2 := fun p q env => match pk p env, pk q env with
  | some d, some e => match o d e with
    | some x => some (.ok (.val x) env)
    | none => none
  | _, _ => none
def sV : D → Option V
  | .non => some .non
  | .bl b => some (.bl b)
  | .int i => some (.int i)
  | .str x => some (.str x)
  | _ => none
theorem sV_rep {K : PySem.W.Frag} {H : Hp} {W : Fb} {d : D} {v : V} (h : sV d = some v) : Rep K H W d v := by
  cases d <;> first | (cases h; rfl) | cases h
theorem opS {K : PySem.W.Frag} {r : R2} {o : D → D → Option D} (h : ∀ (H : Hp) (W : Fb) (d e res : D) (x y : V) (Q : VK), Top K H W d x → Top K H W e y → o d e = some res → (∃ v, sV res = some v ∧ (Q v H → r x y H Q))) : OpD K r (o2 o) := by
  constructor
  intro W Z env σ H Q x y p q A lp lq P
  unfold o2 at P
  revert P
  cases e1 : pk p env with
  | none => intro P; exact P.elim
  | some d =>
    cases e2 : pk q env with
    | none => intro P; exact P.elim
    | some e =>
      cases e3 : o d e with
      | none => intro P; simp only [e3] at P; exact P.elim
      | some res =>
        intro P
        simp only [e3] at P
        obtain ⟨v, h1, h2⟩ := h H _ d e res x y Q (pk_top A lp e1) (pk_top A lq e2) e3
        exact h2 (pend_val A (sV_rep h1) P)
/-- two ints -/
def dI (C : Int → Int → Bool) (g : Int → Int → D) : D → D → Option D := fun d e => match d, e with
  | .int i, .int j => if C i j then some (g i j) else none
  | _, _ => none
theorem opII {K : PySem.W.Frag} {C : Int → Int → Prop} {Cb : Int → Int → Bool} {gv : Int → Int → V} {g : Int → Int → D} (hC : ∀ i j, Cb i j = true → C i j) (hg : ∀ i j, sV (g i j) = some (gv i j)) : OpD K (rI C gv) (o2 (dI Cb g)) := by
  refine opS fun H W d e res x y Q t1 t2 h => ?_
  unfold dI at h
  revert h
  cases d with
  | int i =>
    cases e with
    | int j =>
      intro h
      by_cases c : Cb i j = true
      · simp only [c] at h
        cases h
        have t1 : x = .int i := t1
        have t2 : y = .int j := t2
        exact ⟨_, hg i j, fun q => ⟨i, j, t1, t2, hC i j c, q⟩⟩
      · simp only [c] at h
        cases h
    | _ => intro h; cases h
  | _ => intro h; cases h
theorem opII0 {K : PySem.W.Frag} {gv : Int → Int → V} {g : Int → Int → D} (hg : ∀ i j, sV (g i j) = some (gv i j)) : OpD K (rI0 gv) (o2 (dI (fun _ _ => true) g)) := by
  constructor
  intro W Z env σ H Q x y p q A lp lq P
  obtain ⟨i, j, e1, e2, _, z⟩ := (opII (C := fun _ _ => True) (fun _ _ _ => trivial) hg).run A lp lq P
  exact ⟨i, j, e1, e2, z⟩
def dAdd := dI (fun _ _ => true) fun i j => .int (i + j)
def dSub := dI (fun _ _ => true) fun i j => .int (i - j)
def mulC (i j : Int) : Bool := (decide (-(2 ^ 64) < i) && decide (i < 2 ^ 64)) || (decide (-(2 ^ 64) < j) && decide (j < 2 ^ 64))
def dMul := dI mulC fun i j => .int (i * j)
def dDiv := dI (fun _ j => decide (0 < j) && decide (j < 1073741824)) fun i j => .int (i / j)
def dMod := dI (fun _ j => decide (0 < j)) fun i j => .int (i % j)
def powC (i j : Int) : Bool := decide (0 ≤ j) && decide (j ≤ 1000000) && decide (i.natAbs < 2 ^ 64)
def dPow := dI powC fun i j => .int (i ^ j.toNat)
def dLt := dI (fun _ _ => true) fun i j => .bl (decide (i < j))
def dLe := dI (fun _ _ => true) fun i j => .bl (decide (i ≤ j))
def dGt := dI (fun _ _ => true) fun i j => .bl (decide (j < i))
def dGe := dI (fun _ _ => true) fun i j => .bl (decide (j ≤ i))
variable {K : PySem.W.Frag}
theorem od_add : OpD K (rI0 fun i j => .int (i + j)) (o2 dAdd) := opII0 fun _ _ => rfl
theorem od_sub : OpD K (rI0 fun i j => .int (i - j)) (o2 dSub) := opII0 fun _ _ => rfl
theorem mulC_ok {i j : Int} (h : mulC i j = true) : CMul i j := by
  unfold mulC at h
  rcases Bool.or_eq_true_iff.mp h with h | h
  · obtain ⟨a, b⟩ := Bool.and_eq_true_iff.mp h
    exact .inl ⟨of_decide_eq_true a, of_decide_eq_true b⟩
  · obtain ⟨a, b⟩ := Bool.and_eq_true_iff.mp h
    exact .inr ⟨of_decide_eq_true a, of_decide_eq_true b⟩
theorem od_mul : OpD K (rI CMul fun i j => .int (i * j)) (o2 dMul) := opII (fun _ _ h => mulC_ok h) fun _ _ => rfl
theorem od_div : OpD K (rI CDiv fun i j => .int (i / j)) (o2 dDiv) := opII (fun _ _ h => by
  obtain ⟨a, b⟩ := Bool.and_eq_true_iff.mp h
  exact ⟨of_decide_eq_true a, of_decide_eq_true b⟩) fun _ _ => rfl
theorem od_mod : OpD K (rI (fun _ j => 0 < j) fun i j => .int (i % j)) (o2 dMod) := opII (fun _ _ h => of_decide_eq_true h) fun _ _ => rfl
theorem od_pow : OpD K (rI CPow fun i j => .int (i ^ j.toNat)) (o2 dPow) := opII (fun _ _ h => by
  unfold powC at h
  obtain ⟨h, c⟩ := Bool.and_eq_true_iff.mp h
  obtain ⟨a, b⟩ := Bool.and_eq_true_iff.mp h
  exact ⟨of_decide_eq_true a, of_decide_eq_true b, of_decide_eq_true c⟩) fun _ _ => rfl
theorem od_lt : OpD K (rI0 fun i j => .bl (decide (i < j))) (o2 dLt) := opII0 fun _ _ => rfl
theorem od_le : OpD K (rI0 fun i j => .bl (decide (i ≤ j))) (o2 dLe) := opII0 fun _ _ => rfl
theorem od_gt : OpD K (rI0 fun i j => .bl (decide (j < i))) (o2 dGt) := opII0 fun _ _ => rfl
theorem od_ge : OpD K (rI0 fun i j => .bl (decide (j ≤ i))) (o2 dGe) := opII0 fun _ _ => rfl
end
end DL

set_option Elab.async false
set_option linter.all false
set_option maxRecDepth 100000
namespace DL
open PySem PySem.Spec PyProof.Rows L2

/-! ### equality -/
mutual
def D.beq : D → D → Bool
  | .non, .non => true
  | .bl a, .bl b => a == b
  | .int a, .int b => decide (a = b)
  | .str a, .str b => decide (a = b)
  | .tup a, .tup b => D.beqs a b
  | .lst a, .lst b => D.beqs a b
  | _, _ => false
def D.beqs : List D → List D → Bool
  | [], [] => true
  | a :: as, b :: bs => D.beq a b && D.beqs as bs
  | _, _ => false
end
mutual
/-- data without truth values, dicts, the script: it may be compared -/
def D.eqOk : D → Bool
  | .non => true
  | .int _ => true
  | .str x => PySem.PyData.canLay0 (.str x)
  | .tup ds => D.eqOks ds
  | .lst ds => D.eqOks ds
  | _ => false
def D.eqOks : List D → Bool
  | [] => true
  | d :: ds => D.eqOk d && D.eqOks ds
end
mutual
def D.py : D → PyData
  | .non => .none
  | .bl b => .bool b
  | .int i => .int i
  | .str x => .str x
  | .tup ds => .tuple (D.pys ds)
  | .lst ds => .list (D.pys ds)
  | .dct _ => .none
  | .scr _ => .none
  | .rng _ _ => .none
  | .stt _ => .none
  | .dci _ => .none
  | .dcf _ => .none
def D.pys : List D → List PyData
  | [] => []
  | d :: ds => D.py d :: D.pys ds
end
mutual
def D.dep : D → Nat
  | .tup ds => D.deps ds + 1
  | .lst ds => D.deps ds + 1
  | _ => 0
def D.deps : List D → Nat
  | [] => 0
  | d :: ds => max (D.dep d) (D.deps ds)
end
mutual
theorem D.beq_eq : ∀ (d e : D), d.eqOk = true → (D.beq d e = true ↔ d = e)
  | .non, e, _ => by cases e <;> simp [D.beq]
  | .bl _, e, h => by simp [D.eqOk] at h
  | .int i, e, _ => by cases e <;> simp [D.beq]
  | .str i, e, _ => by cases e <;> simp [D.beq]
  | .tup ds, e, h => by
    have h : D.eqOks ds = true := h
    cases e with
    | tup es => simp [D.beq, D.beqs_eq ds es h]
    | _ => simp [D.beq]
  | .lst ds, e, h => by
    have h : D.eqOks ds = true := h
    cases e with
    | lst es => simp [D.beq, D.beqs_eq ds es h]
    | _ => simp [D.beq]
  | .dct _, e, h => by simp [D.eqOk] at h
  | .scr _, e, h => by simp [D.eqOk] at h
  | .rng _ _, e, h => by simp [D.eqOk] at h
  | .stt _, e, h => by simp [D.eqOk] at h
  | .dci _, e, h => by simp [D.eqOk] at h
  | .dcf _, e, h => by simp [D.eqOk] at h
theorem D.beqs_eq : ∀ (ds es : List D), D.eqOks ds = true → (D.beqs ds es = true ↔ ds = es)
  | [], es, _ => by cases es <;> simp [D.beqs]
  | d :: ds, [], _ => by simp [D.beqs]
  | d :: ds, e :: es, h => by
    obtain ⟨h1, h2⟩ := Bool.and_eq_true_iff.mp (show (D.eqOk d && D.eqOks ds) = true from h)
    simp [D.beqs, D.beq_eq d e h1, D.beqs_eq ds es h2]
end
mutual
theorem D.eqv_py : ∀ (d e : D), d.eqOk = true → e.eqOk = true → PyData.eqv d.py e.py = D.beq d e
  | .non, e, _, he => by cases e <;> first | rfl | (simp [D.eqOk] at he)
  | .int i, e, _, he => by
    cases e with
    | int j => simp [D.py, PyData.eqv, D.beq, Bool.beq_eq_decide_eq]
    | _ => first | rfl | (simp [D.eqOk] at he)
  | .str i, e, _, he => by
    cases e with
    | str j => simp [D.py, PyData.eqv, D.beq, Bool.beq_eq_decide_eq]
    | _ => first | rfl | (simp [D.eqOk] at he)
  | .tup ds, e, h, he => by
    have h : D.eqOks ds = true := h
    cases e with
    | tup es => exact D.eqvs_py ds es h he
    | _ => first | rfl | (simp [D.eqOk] at he)
  | .lst ds, e, h, he => by
    have h : D.eqOks ds = true := h
    cases e with
    | lst es => exact D.eqvs_py ds es h he
    | _ => first | rfl | (simp [D.eqOk] at he)
  | .bl _, e, h, he => by simp [D.eqOk] at h
  | .dct _, e, h, he => by simp [D.eqOk] at h
  | .scr _, e, h, he => by simp [D.eqOk] at h
  | .rng _ _, e, h, he => by simp [D.eqOk] at h
  | .stt _, e, h, he => by simp [D.eqOk] at h
  | .dci _, e, h, he => by simp [D.eqOk] at h
  | .dcf _, e, h, he => by simp [D.eqOk] at h
theorem D.eqvs_py : ∀ (ds es : List D), D.eqOks ds = true → D.eqOks es = true → PyData.eqvAll (D.pys ds) (D.pys es) = D.beqs ds es
  | [], [], _, _ => rfl
  | [], _ :: _, _, _ => rfl
  | _ :: _, [], _, _ => rfl
  | d :: ds, e :: es, h, he => by
    obtain ⟨h1, h2⟩ := Bool.and_eq_true_iff.mp (show (D.eqOk d && D.eqOks ds) = true from h)
    obtain ⟨g1, g2⟩ := Bool.and_eq_true_iff.mp (show (D.eqOk e && D.eqOks es) = true from he)
    show (PyData.eqv d.py e.py && PyData.eqvAll (D.pys ds) (D.pys es)) = (D.beq d e && D.beqs ds es)
    rw [D.eqv_py d e h1 g1, D.eqvs_py ds es h2 g2]
end
mutual
theorem D.lay_py : ∀ (d : D), d.eqOk = true → d.py.canLay0 = true
  | .non, _ => rfl
  | .int i, _ => rfl
  | .str x, h => h
  | .tup ds, h => D.lays_py ds h
  | .lst ds, h => D.lays_py ds h
  | .bl _, h => rfl
  | .dct _, h => rfl
  | .scr _, h => rfl
  | .rng _ _, h => rfl
  | .stt _, h => rfl
  | .dci _, h => rfl
  | .dcf _, h => rfl
theorem D.lays_py : ∀ (ds : List D), D.eqOks ds = true → PyData.canLayAll0 (D.pys ds) = true
  | [], _ => rfl
  | d :: ds, h => by
    obtain ⟨h1, h2⟩ := Bool.and_eq_true_iff.mp (show (D.eqOk d && D.eqOks ds) = true from h)
    show (d.py.canLay0 && PyData.canLayAll0 (D.pys ds)) = true
    rw [D.lay_py d h1, D.lays_py ds h2]; rfl
end
mutual
theorem D.dep_py : ∀ (d : D), d.py.depth = d.dep
  | .non => rfl
  | .int i => rfl
  | .str x => rfl
  | .tup ds => congrArg (· + 1) (D.deps_py ds)
  | .lst ds => congrArg (· + 1) (D.deps_py ds)
  | .bl _ => rfl
  | .dct _ => rfl
  | .scr _ => rfl
  | .rng _ _ => rfl
  | .stt _ => rfl
  | .dci _ => rfl
  | .dcf _ => rfl
theorem D.deps_py : ∀ (ds : List D), PyData.depthAll (D.pys ds) = D.deps ds
  | [] => rfl
  | d :: ds => by
    show max d.py.depth (PyData.depthAll (D.pys ds)) = max d.dep (D.deps ds)
    rw [D.dep_py d, D.deps_py ds]
end
/-- may be compared -/
def D.cmp (d : D) : Bool := d.eqOk && decide (d.dep ≤ 64)
theorem D.cmp_shaped {d : D} (h : d.cmp = true) : SeqAt.shaped d.py = true := by
  obtain ⟨h1, h2⟩ := Bool.and_eq_true_iff.mp h
  unfold SeqAt.shaped
  rw [D.lay_py d h1, D.dep_py d]
  exact h2
section
variable {K : PySem.W.Frag} {W : Fb} {H : Hp}
mutual
theorem dp_of : ∀ (d : D) (v : V), d.eqOk = true → Rep K H W d v → Dp K H v d.py
  | .non, v, _, h => by have h : v = .non := h; subst h; exact .non
  | .int i, v, _, h => by have h : v = .int i := h; subst h; exact .int i
  | .str x, v, _, h => by have h : v = .str x := h; subst h; exact .str x
  | .tup ds, v, g, h => by
    obtain ⟨a, xs, rfl, s, _, q⟩ := h
    exact .tup (.of s) (dps_of ds xs g q)
  | .lst ds, v, g, h => by
    obtain ⟨a, xs, rfl, _, s, _, q⟩ := h
    exact .lst (.of s) (dps_of ds xs g q)
  | .bl _, _, g, _ => by simp [D.eqOk] at g
  | .dct _, _, g, _ => by simp [D.eqOk] at g
  | .scr _, _, g, _ => by simp [D.eqOk] at g
  | .rng _ _, _, g, _ => by simp [D.eqOk] at g
  | .stt _, _, g, _ => by simp [D.eqOk] at g
  | .dci _, _, g, _ => by simp [D.eqOk] at g
  | .dcf _, _, g, _ => by simp [D.eqOk] at g
theorem dps_of : ∀ (ds : List D) (xs : List V), D.eqOks ds = true → Reps K H W ds xs → DpAll K H xs (D.pys ds)
  | [], xs, _, h => by have h : xs = [] := h; subst h; exact .nil
  | d :: ds, xs, g, h => by
    obtain ⟨h1, h2⟩ := Bool.and_eq_true_iff.mp (show (D.eqOk d && D.eqOks ds) = true from g)
    obtain ⟨v, vs, rfl, q1, q2⟩ := h
    exact .cons (dp_of d v h1 q1) (dps_of ds vs h2 q2)
end
theorem dp_top {d : D} {v : V} (g : d.eqOk = true) (h : Top K H W d v) : Dp K H v d.py := by
  cases d with
  | lst ds =>
    obtain ⟨a, xs, rfl, s, _, q⟩ := h
    exact .lst (.of s) (dps_of ds xs g q)
  | dct _ => simp [D.eqOk] at g
  | dci _ => simp [D.eqOk] at g
  | _ => exact dp_of (W := W) _ v g h
end
def dEqB (d e : D) : Option Bool := match d, e with
  | .bl a, .bl b => some (a == b)
  | d, e => if d.cmp && e.cmp then some (D.beq d e) else none
def dEq (d e : D) : Option D := (dEqB d e).map .bl
def dNe (d e : D) : Option D := (dEqB d e).map fun b => .bl (!b)
theorem dEqB_ok {K : PySem.W.Frag} {W : Fb} {H : Hp} {d e : D} {x y : V} {b : Bool} (h : dEqB d e = some b) (t1 : Top K H W d x) (t2 : Top K H W e y) :
    ∃ d' e' : PyData, Dp K H x d' ∧ Dp K H y e' ∧ SeqAt.shaped d' = true ∧ SeqAt.shaped e' = true ∧ PyData.eqv d' e' = b := by
  have main : (if (d.cmp && e.cmp) = true then some (D.beq d e) else none) = some b → ∃ d' e' : PyData, Dp K H x d' ∧ Dp K H y e' ∧ SeqAt.shaped d' = true ∧ SeqAt.shaped e' = true ∧ PyData.eqv d' e' = b := fun h => by
    by_cases c : (d.cmp && e.cmp) = true
    · rw [if_pos c] at h
      cases h
      obtain ⟨c1, c2⟩ := Bool.and_eq_true_iff.mp c
      have g1 := (Bool.and_eq_true_iff.mp c1).1
      have g2 := (Bool.and_eq_true_iff.mp c2).1
      exact ⟨_, _, dp_top g1 t1, dp_top g2 t2, D.cmp_shaped c1, D.cmp_shaped c2, D.eqv_py d e g1 g2⟩
    · rw [if_neg c] at h; cases h
  unfold dEqB at h
  split at h
  · rename_i a c
    cases h
    have t1 : x = .bl a := t1
    have t2 : y = .bl c := t2
    subst t1 t2
    exact ⟨.bool a, .bool c, .bl a, .bl c, rfl, rfl, rfl⟩
  · exact main h
theorem od_eq {K : PySem.W.Frag} : OpD K (rEqD K) (o2 dEq) := opS fun H W d e res x y Q t1 t2 h => by
  unfold dEq at h
  cases z : dEqB d e with
  | none => rw [z] at h; cases h
  | some b =>
    rw [z] at h; cases h
    obtain ⟨d', e', h1, h2, h3, h4, h5⟩ := dEqB_ok z t1 t2
    exact ⟨_, rfl, fun q => ⟨d', e', h1, h2, h3, h4, by rw [h5]; exact q⟩⟩
theorem od_ne {K : PySem.W.Frag} : OpD K (rNeD K) (o2 dNe) := opS fun H W d e res x y Q t1 t2 h => by
  unfold dNe at h
  cases z : dEqB d e with
  | none => rw [z] at h; cases h
  | some b =>
    rw [z] at h; cases h
    obtain ⟨d', e', h1, h2, h3, h4, h5⟩ := dEqB_ok z t1 t2
    exact ⟨_, rfl, fun q => ⟨d', e', h1, h2, h3, h4, by rw [h5]; exact q⟩⟩
/-! ### in -/
theorem any_pys (d : D) (hd : d.eqOk = true) : ∀ (ds : List D), D.eqOks ds = true → ((D.pys ds).any fun z => PyData.eqv z d.py) = ds.any fun z => D.beq z d
  | [], _ => rfl
  | e :: ds, h => by
    obtain ⟨h1, h2⟩ := Bool.and_eq_true_iff.mp (show (D.eqOk e && D.eqOks ds) = true from h)
    show ((PyData.eqv e.py d.py) || ((D.pys ds).any fun z => PyData.eqv z d.py)) = (D.beq e d || ds.any fun z => D.beq z d)
    rw [D.eqv_py e d h1 hd, any_pys d hd ds h2]
def dInL (d e : D) : Option Bool := match e with
  | .lst ds => if d.cmp && e.cmp then some (ds.any fun z => D.beq z d) else none
  | _ => none
def isFlat : D → Bool
  | .int _ => true
  | _ => false
def dInT (d e : D) : Option Bool := match e with
  | .tup ds => if isFlat d && ds.all isFlat then some (ds.any fun z => D.beq z d) else none
  | _ => none
theorem dInL_ok {K : PySem.W.Frag} {W : Fb} {H : Hp} {d e : D} {x y : V} {b : Bool} (h : dInL d e = some b) (t1 : Top K H W d x) (t2 : Top K H W e y) :
    ∃ d' ds', Dp K H x d' ∧ Dp K H y (.list ds') ∧ SeqAt.shaped d' = true ∧ SeqAt.shaped (.list ds') = true ∧ (ds'.any fun z => PyData.eqv z d') = b := by
  unfold dInL at h
  cases e with
  | lst ds =>
    simp only at h
    by_cases c : (d.cmp && (D.lst ds).cmp) = true
    · rw [if_pos c] at h
      cases h
      obtain ⟨c1, c2⟩ := Bool.and_eq_true_iff.mp c
      have g1 := (Bool.and_eq_true_iff.mp c1).1
      have g2 := (Bool.and_eq_true_iff.mp c2).1
      exact ⟨d.py, D.pys ds, dp_top g1 t1, dp_top (d := .lst ds) g2 t2, D.cmp_shaped c1, D.cmp_shaped (d := .lst ds) c2, any_pys d g1 ds g2⟩
    · rw [if_neg c] at h; cases h
  | _ => cases h
theorem flat_reps {K : PySem.W.Frag} {W : Fb} {H : Hp} {i : Int} : ∀ {ds : List D} {xs : List V}, ds.all isFlat = true → Reps K H W ds xs → xs.all flatV = true ∧ inV (.int i) xs = ds.any fun z => D.beq z (.int i)
  | [], xs, _, h => by have h : xs = [] := h; subst h; exact ⟨rfl, rfl⟩
  | d :: ds, xs, g, h => by
    obtain ⟨v, vs, rfl, q1, q2⟩ := h
    simp only [List.all_cons, Bool.and_eq_true] at g
    obtain ⟨h1, h2⟩ := flat_reps (i := i) g.2 q2
    cases d with
    | int j =>
      have q1 : v = .int j := q1
      subst q1
      refine ⟨by simp only [List.all_cons, h1]; rfl, ?_⟩
      unfold inV at h2 ⊢
      simp only [List.any_cons, h2]
      congr 1
    | _ => simp [isFlat] at g
theorem dInT_ok {K : PySem.W.Frag} {W : Fb} {H : Hp} {d e : D} {x y : V} {b : Bool} (h : dInT d e = some b) (t1 : Top K H W d x) (t2 : Top K H W e y) :
    ∃ p xs, y = .ref p ∧ (SqL K H p xs ∨ SqT K H p xs) ∧ flatV x = true ∧ xs.all flatV = true ∧ inV x xs = b := by
  unfold dInT at h
  cases e with
  | tup ds =>
    simp only at h
    by_cases c : (isFlat d && ds.all isFlat) = true
    · rw [if_pos c] at h
      cases h
      obtain ⟨c1, c2⟩ := Bool.and_eq_true_iff.mp c
      cases d with
      | int i =>
        have t1 : x = .int i := t1
        subst t1
        obtain ⟨a, xs, rfl, s, _, q⟩ := t2
        obtain ⟨h1, h2⟩ := flat_reps (i := i) c2 q
        exact ⟨a, xs, rfl, .inr (.of s), rfl, h1, h2⟩
      | _ => simp [isFlat] at c1
    · rw [if_neg c] at h; cases h
  | _ => cases h
def dInB (d e : D) : Option Bool := match dInL d e with
  | some b => some b
  | none => dInT d e
def dIn (d e : D) : Option D := (dInB d e).map .bl
def dNotIn (d e : D) : Option D := (dInB d e).map fun b => .bl (!b)
theorem od_in {K : PySem.W.Frag} : OpD K (fun x y H Q => rInD K x y H Q ∨ rIn K false x y H Q) (o2 dIn) := opS fun H W d e res x y Q t1 t2 h => by
  unfold dIn dInB at h
  cases z : dInL d e with
  | some b =>
    simp only [z] at h; cases h
    obtain ⟨d', e', h1, h2, h3, h4, h5⟩ := dInL_ok z t1 t2
    exact ⟨_, rfl, fun q => .inl ⟨d', e', h1, h2, h3, h4, by rw [h5]; exact q⟩⟩
  | none =>
    simp only [z] at h
    cases z2 : dInT d e with
    | none => rw [z2] at h; cases h
    | some b =>
      rw [z2] at h; cases h
      obtain ⟨p, xs, h1, h2, h3, h4, h5⟩ := dInT_ok z2 t1 t2
      exact ⟨_, rfl, fun q => .inr ⟨p, xs, h1, h2, h3, h4, by rw [if_neg Bool.false_ne_true, h5]; exact q⟩⟩
theorem od_notIn {K : PySem.W.Frag} : OpD K (fun x y H Q => rNotInD K x y H Q ∨ rIn K true x y H Q) (o2 dNotIn) := opS fun H W d e res x y Q t1 t2 h => by
  unfold dNotIn dInB at h
  cases z : dInL d e with
  | some b =>
    simp only [z] at h; cases h
    obtain ⟨d', e', h1, h2, h3, h4, h5⟩ := dInL_ok z t1 t2
    exact ⟨_, rfl, fun q => .inl ⟨d', e', h1, h2, h3, h4, by rw [h5]; exact q⟩⟩
  | none =>
    simp only [z] at h
    cases z2 : dInT d e with
    | none => rw [z2] at h; cases h
    | some b =>
      rw [z2] at h; cases h
      obtain ⟨p, xs, h1, h2, h3, h4, h5⟩ := dInT_ok z2 t1 t2
      exact ⟨_, rfl, fun q => .inr ⟨p, xs, h1, h2, h3, h4, by rw [if_pos rfl, h5]; exact q⟩⟩
/-- is None -/
def isNon : D → Bool
  | .non => true
  | _ => false
theorem top_non {K : PySem.W.Frag} {W : Fb} {H : Hp} {d : D} {x : V} (h : Top K H W d x) : decide (x = .non) = isNon d := by
  cases d with
  | non => have h : x = .non := h; subst h; rfl
  | bl b => have h : x = .bl b := h; subst h; rfl
  | int b => have h : x = .int b := h; subst h; rfl
  | str b => have h : x = .str b := h; subst h; rfl
  | tup ds => obtain ⟨a, xs, rfl, _⟩ := h; rfl
  | lst ds => obtain ⟨a, xs, rfl, _⟩ := h; rfl
  | dct ds => obtain ⟨a, xs, rfl, _⟩ := h; rfl
  | scr ds => obtain ⟨a, rfl, _⟩ := h; rfl
  | rng lo hi => obtain ⟨a, rfl, _⟩ := h; rfl
  | stt ns => obtain ⟨a, _, _, rfl, _⟩ := h; rfl
  | dci ns => obtain ⟨a, rfl, _⟩ := h; rfl
  | dcf ns => obtain ⟨a, _, rfl, _⟩ := h; rfl
def dIsN (d e : D) : Option D := match e with
  | .non => some (.bl (isNon d))
  | _ => none
def dNotN (d e : D) : Option D := match e with
  | .non => some (.bl (!isNon d))
  | _ => none
theorem od_isN {K : PySem.W.Frag} : OpD K (fun x y H Q => y = .non ∧ Q (.bl (decide (x = .non))) H) (o2 dIsN) := opS fun H W d e res x y Q t1 t2 h => by
  cases e with
  | non =>
    cases h
    have t2 : y = .non := t2
    exact ⟨_, rfl, fun q => ⟨t2, by rw [top_non t1]; exact q⟩⟩
  | _ => cases h
theorem od_notN {K : PySem.W.Frag} : OpD K (fun x y H Q => y = .non ∧ Q (.bl (!decide (x = .non))) H) (o2 dNotN) := opS fun H W d e res x y Q t1 t2 h => by
  cases e with
  | non =>
    cases h
    have t2 : y = .non := t2
    exact ⟨_, rfl, fun q => ⟨t2, by rw [top_non t1]; exact q⟩⟩
  | _ => cases h
end DL

set_option Elab.async false
set_option linter.all false
set_option maxRecDepth 100000
set_option maxHeartbeats 4000000
namespace L2
open PySem PySem.Spec PyProof.Rows
theorem tuple_mul1 (l : Addr) (items : Array Value) (n : Nat) (dd : Option Addr) (sl : Array (Option Value)) (u : Tok) :
    Meets (Builtin.«tuple.__mul__» ⟨[.ref l, .int 1 u], []⟩) (fun _ R s => s.heap.get? l = some { cls := .type "tuple", dict := dd, data := .seq items n, slots := sl } ∧ ∀ tk, R (.ok (.ret (Value.ref l))) { s with toks := tk }) :=
  .of_wp fun prog w A R s h => by
    obtain ⟨hp, g, d, tk, os⟩ := s
    obtain ⟨hl, h⟩ := h
    have f1 := AutoSeq1.idx_int
    wp_walk using wpAny_loadPart' hl
    exact ⟨_, rfl, h _⟩
/-- a tuple once: the tuple itself -/
def rRepT1 (K : PySem.W.Frag) : R2 := fun x y H Q => ∃ l xs, x = .ref l ∧ y = .int 1 ∧ SqT K H l xs ∧ Q (.ref l) H
theorem op_repT1 {X : Cx} : OpR X (binaryOp .Mult) (rRepT1 X.K) := by
  intro pins s σ H x y v u Q I rx ry h
  obtain ⟨l, xs, rfl, rfl, hT, q⟩ := h
  cases rx
  obtain ⟨t, rfl⟩ := ry
  obtain ⟨its, r, ⟨⟨cls, dd, data, sl⟩, ho, hc, n, hd⟩, hs⟩ := I.tuple hT
  simp only at hc hd
  subst hc hd
  refine wpAny_binaryOp_repeat_ref (T := "tuple") (U := "int") (by decide) ⟨_, ho, rfl⟩ (fun s' => typeIs_int s' 1 t) noFill_tuple_mul F.fills_int_mul F.slot_int_rmul repeat_tuple F.slot_int_index.lookup
    (call_meets F.slot_int_rmul (typeIs_int s 1 t) F.entry_int_rmul (F.args_int_rmul_2 _ _) (int_rmul_tuple 1 t l its.toArray n dd sl)
      ⟨ho, rfl, ⟨_, ho, rfl⟩, call_meets F.slot_tuple_mul ⟨_, ho, rfl⟩ F.entry_tuple_mul (F.args_tuple_mul_2 _ _) (tuple_mul1 l its.toArray n dd sl t) ⟨ho, fun tk => ?_⟩⟩)
  exact ⟨.ref l, H, I.tok _, rfl, q⟩
end L2
namespace DL
open PySem PySem.Spec PyProof.Rows L2

/-! ### two rules, chosen by the data -/
def orO (o o' : O2) : O2 := fun p q env => match o p q env with
  | some x => some x
  | none => o' p q env
theorem OpD.or {K : PySem.W.Frag} {r r' : R2} {o o' : O2} (h : OpD K r o) (h' : OpD K r' o') : OpD K (fun x y H Q => r x y H Q ∨ r' x y H Q) (orO o o') := by
  constructor
  intro W Z env σ H Q x y p q A lp lq P
  unfold orO at P
  cases e : o p q env with
  | some z => simp only [e] at P; exact .inl (h.run A lp lq (by rw [e]; exact P))
  | none => simp only [e] at P; exact .inr (h'.run A lp lq P)
/-- the general form of a lemma about an operation on data -/
def o2g (o : D → D → Nv → Option Out) : O2 := fun p q env => match pk p env, pk q env with
  | some d, some e => o d e env
  | _, _ => none
theorem opG {K : PySem.W.Frag} {r : R2} {o : D → D → Nv → Option Out} (h : ∀ {W : Fb} {Z : Wsh} {env : Nv} {σ : St} {H : Hp} {Q : VK} {x y : V} {d e : D}, AS K W env σ H → Top K H (All W env σ) d x → Top K H (All W env σ) e y → Pend K W Z env σ H Q (o d e env) → r x y H Q) : OpD K r (o2g o) := by
  constructor
  intro W Z env σ H Q x y p q A lp lq P
  unfold o2g at P
  cases e1 : pk p env with
  | none => rw [e1] at P; exact P.elim
  | some d =>
    cases e2 : pk q env with
    | none => rw [e1, e2] at P; exact P.elim
    | some e =>
      simp only [e1, e2] at P
      exact h A (pk_top A lp e1) (pk_top A lq e2) P
theorem pend_none {K : PySem.W.Frag} {W : Fb} {Z : Wsh} {env : Nv} {σ : St} {H : Hp} {Q : VK} {C : Prop} (h : Pend K W Z env σ H Q none) : C := h.elim
/-! ### list + list, tuple + tuple, * -/
def catL (d e : D) (env : Nv) : Option Out := match d, e with
  | .lst xs, .lst ys => if xs.length + ys.length ≤ sizeLine then some (.ok (.frs (.lst (xs ++ ys))) env) else none
  | _, _ => none
def catT (d e : D) (env : Nv) : Option Out := match d, e with
  | .tup xs, .tup ys => if xs.length + ys.length ≤ sizeLine then some (.ok (.val (.tup (xs ++ ys))) env) else none
  | _, _ => none
section
variable {K : PySem.W.Frag} {W : Fb} {H : Hp}
theorem top_lst {ds : List D} {x : V} (h : Top K H W (.lst ds) x) : ∃ a xs, x = .ref a ∧ H a = some (.lst xs) ∧ ds.length ≤ sizeLine ∧ Reps K H W ds xs := h
theorem top_tup {ds : List D} {x : V} (h : Top K H W (.tup ds) x) : ∃ a xs, x = .ref a ∧ H a = some (.tup xs) ∧ ds.length ≤ sizeLine ∧ Reps K H W ds xs := h
end
theorem od_catL {K : PySem.W.Frag} : OpD K rCat (o2g catL) := opG fun {W Z env σ H Q x y d e} A t1 t2 P => by
  unfold catL at P
  split at P
  · rename_i ds es
    by_cases c : ds.length + es.length ≤ sizeLine
    · rw [if_pos c] at P
      obtain ⟨a, xs, rfl, s1, z1, q1⟩ := top_lst t1
      obtain ⟨b, ys, rfl, s2, z2, q2⟩ := top_lst t2
      refine ⟨a, b, xs, ys, rfl, rfl, s1, s2, by rw [← q1.length, ← q2.length]; exact c, fun p hp => ?_⟩
      exact pend_lst A hp (by rw [List.length_append]; exact c) (q1.append q2) P
    · rw [if_neg c] at P; exact P.elim
  · exact P.elim
theorem od_catT {K : PySem.W.Frag} : OpD K (rCatA K) (o2g catT) := opG fun {W Z env σ H Q x y d e} A t1 t2 P => by
  unfold catT at P
  split at P
  · rename_i ds es
    by_cases c : ds.length + es.length ≤ sizeLine
    · rw [if_pos c] at P
      have t1' := t1
      have t2' := t2
      obtain ⟨a, xs, rfl, s1, z1, q1⟩ := top_tup t1
      obtain ⟨b, ys, rfl, s2, z2, q2⟩ := top_tup t2
      refine ⟨a, b, xs, ys, rfl, rfl, .of s1, .of s2, by rw [← q1.length, ← q2.length]; exact c, fun e => ?_, fun _ e => ?_, fun _ _ p hp => ?_⟩
      · subst e
        have : ds = [] := List.eq_nil_of_length_eq_zero (by rw [q1.length]; rfl)
        subst this
        exact pend_val (d := .tup es) A t2' P
      · subst e
        have : es = [] := List.eq_nil_of_length_eq_zero (by rw [q2.length]; rfl)
        subst this
        rw [List.append_nil] at P
        exact pend_val (d := .tup ds) A t1' P
      · exact pend_tup A hp (by rw [List.length_append]; exact c) (q1.append q2) P
    · rw [if_neg c] at P; exact P.elim
  · exact P.elim
/-- a + b: ints, lists, tuples -/
def oAdd : O2 := orO (o2 dAdd) (orO (o2g catL) (o2g catT))
def oSub : O2 := o2 dSub
section
variable {X : Cx} {Z : Wsh} {e e2 e3 : Expr} {f g h : F} {pos : Pos}
theorem de_add (ha : DE X Z e f) (hb : DE X Z e2 g) : DE X Z (.BinOp e .Add e2 pos) (ap2 f g oAdd) := de_bin (op_add.or (op_cat.or op_catA)) (od_add.or (od_catL.or od_catT)) ha hb
theorem de_sub (ha : DE X Z e f) (hb : DE X Z e2 g) : DE X Z (.BinOp e .Sub e2 pos) (ap2 f g oSub) := de_bin op_sub od_sub ha hb
end
theorem Reps.rep {K : PySem.W.Frag} {H : Hp} {W : Fb} {ds : List D} {xs : List V} (h : Reps K H W ds xs) : ∀ k : Nat, Reps K H W (List.replicate k ds).flatten (List.replicate k xs).flatten
  | 0 => rfl
  | k + 1 => by
    rw [List.replicate_succ, List.replicate_succ, List.flatten_cons, List.flatten_cons]
    exact h.append (Reps.rep h k)
def repL (d e : D) (env : Nv) : Option Out := match d, e with
  | .lst xs, .int k => if decide (-(2 ^ 63) ≤ k) && decide (k < 2 ^ 63) && decide (xs.length * k.toNat ≤ sizeLine) then some (.ok (.frs (.lst (List.replicate k.toNat xs).flatten)) env) else none
  | _, _ => none
theorem rep_len {α : Type} (xs : List α) : ∀ (k : Nat), (List.replicate k xs).flatten.length = xs.length * k
  | 0 => by simp
  | k + 1 => by
    rw [List.replicate_succ, List.flatten_cons, List.length_append, rep_len xs k, Nat.mul_succ, Nat.add_comm]
theorem od_repL {K : PySem.W.Frag} : OpD K rRep (o2g repL) := opG fun {W Z env σ H Q x y d e} A t1 t2 P => by
  unfold repL at P
  split at P
  · rename_i ds k
    by_cases c : (decide (-(2 ^ 63) ≤ k) && decide (k < 2 ^ 63) && decide (ds.length * k.toNat ≤ sizeLine)) = true
    · rw [if_pos c] at P
      obtain ⟨c, c3⟩ := Bool.and_eq_true_iff.mp c
      obtain ⟨c1, c2⟩ := Bool.and_eq_true_iff.mp c
      obtain ⟨a, xs, rfl, s1, z1, q1⟩ := top_lst t1
      have t2 : y = .int k := t2
      have c3 := of_decide_eq_true c3
      refine ⟨a, k, xs, rfl, t2, s1, of_decide_eq_true c1, of_decide_eq_true c2, by rw [← q1.length]; exact c3, fun p hp => ?_⟩
      exact pend_lst A hp (by rw [rep_len]; exact c3) (q1.rep _) P
    · rw [if_neg c] at P; exact P.elim
  · exact P.elim
def repT (d e : D) (env : Nv) : Option Out := match d, e with
  | .tup xs, .int k => if decide (2 ≤ k) && decide (k ≤ 1000) && decide (xs.length ≤ 1000) && !xs.isEmpty then some (.ok (.val (.tup (List.replicate k.toNat xs).flatten)) env) else none
  | _, _ => none
theorem od_repT {K : PySem.W.Frag} : OpD K (rRepT K) (o2g repT) := opG fun {W Z env σ H Q x y d e} A t1 t2 P => by
  unfold repT at P
  split at P
  · rename_i ds k
    by_cases c : (decide (2 ≤ k) && decide (k ≤ 1000) && decide (ds.length ≤ 1000) && !ds.isEmpty) = true
    · rw [if_pos c] at P
      obtain ⟨c, c4⟩ := Bool.and_eq_true_iff.mp c
      obtain ⟨c, c3⟩ := Bool.and_eq_true_iff.mp c
      obtain ⟨c1, c2⟩ := Bool.and_eq_true_iff.mp c
      obtain ⟨a, xs, rfl, s1, z1, q1⟩ := top_tup t1
      have t2 : y = .int k := t2
      have c1 := of_decide_eq_true c1
      have c2 := of_decide_eq_true c2
      have c3 := of_decide_eq_true c3
      have hl := q1.length
      refine ⟨a, k, xs, rfl, t2, .of s1, fun z => ?_, c1, c2, by omega, fun p hp => ?_⟩
      · subst z
        cases ds with
        | nil => cases c4
        | cons _ _ => cases hl
      · refine pend_tup A hp ?_ (q1.rep _) P
        rw [rep_len, sizeLine_eq]
        have h1 : k.toNat ≤ 1000 := by omega
        have h2 := Nat.mul_le_mul c3 h1
        omega
    · rw [if_neg c] at P; exact P.elim
  · exact P.elim
def repT1 (d e : D) (env : Nv) : Option Out := match d, e with
  | .tup xs, .int k => if k = 1 then some (.ok (.val (.tup xs)) env) else none
  | _, _ => none
theorem od_repT1 {K : PySem.W.Frag} : OpD K (rRepT1 K) (o2g repT1) := opG fun {W Z env σ H Q x y d e} A t1 t2 P => by
  unfold repT1 at P
  split at P
  · rename_i ds k
    by_cases c : k = 1
    · rw [if_pos c] at P
      subst c
      have q := pend_val (d := .tup ds) A t1 P
      obtain ⟨a, xs, rfl, s1, z1, q1⟩ := top_tup t1
      exact ⟨a, xs, rfl, t2, .of s1, q⟩
    · rw [if_neg c] at P; exact P.elim
  · exact P.elim
def oMul : O2 := orO (o2 dMul) (orO (o2g repL) (orO (o2g repT) (o2g repT1)))
section
variable {X : Cx} {Z : Wsh} {e e2 e3 : Expr} {f g h : F} {pos : Pos}
theorem de_mul (ha : DE X Z e f) (hb : DE X Z e2 g) : DE X Z (.BinOp e .Mult e2 pos) (ap2 f g oMul) := de_bin (op_mul.or (op_rep.or (op_repT.or op_repT1))) (od_mul.or (od_repL.or (od_repT.or od_repT1))) ha hb
theorem de_div (ha : DE X Z e f) (hb : DE X Z e2 g) : DE X Z (.BinOp e .FloorDiv e2 pos) (ap2 f g (o2 dDiv)) := de_bin op_fdiv od_div ha hb
theorem de_mod (ha : DE X Z e f) (hb : DE X Z e2 g) : DE X Z (.BinOp e .Mod e2 pos) (ap2 f g (o2 dMod)) := de_bin op_mod od_mod ha hb
theorem de_pow (ha : DE X Z e f) (hb : DE X Z e2 g) : DE X Z (.BinOp e .Pow e2 pos) (ap2 f g (o2 dPow)) := de_bin op_pow od_pow ha hb
theorem de_lt (ha : DE X Z e f) (hb : DE X Z e2 g) : DE X Z (.Compare e [.Lt] [e2] pos) (ap2 f g (o2 dLt)) := de_cmp op_lt od_lt ha hb
theorem de_le (ha : DE X Z e f) (hb : DE X Z e2 g) : DE X Z (.Compare e [.LtE] [e2] pos) (ap2 f g (o2 dLe)) := de_cmp op_le od_le ha hb
theorem de_gt (ha : DE X Z e f) (hb : DE X Z e2 g) : DE X Z (.Compare e [.Gt] [e2] pos) (ap2 f g (o2 dGt)) := de_cmp op_gt od_gt ha hb
theorem de_ge (ha : DE X Z e f) (hb : DE X Z e2 g) : DE X Z (.Compare e [.GtE] [e2] pos) (ap2 f g (o2 dGe)) := de_cmp op_ge od_ge ha hb
theorem de_eq (hu : X.A.units + 64 < cLine) (ha : DE X Z e f) (hb : DE X Z e2 g) : DE X Z (.Compare e [.Eq] [e2] pos) (ap2 f g (o2 dEq)) := de_cmp (op_eqD hu) od_eq ha hb
theorem de_ne (hu : X.A.units + 64 < cLine) (ha : DE X Z e f) (hb : DE X Z e2 g) : DE X Z (.Compare e [.NotEq] [e2] pos) (ap2 f g (o2 dNe)) := de_cmp (op_neD hu) od_ne ha hb
theorem de_in (hu : X.A.units + 65 < cLine) (ha : DE X Z e f) (hb : DE X Z e2 g) (hm : behindInMarks .In e2 = false := by rfl) : DE X Z (.Compare e [.In] [e2] pos) (ap2 f g (o2 dIn)) := de_cmp ((op_inD hu).or op_in_seq) od_in ha hb hm
theorem de_notIn (hu : X.A.units + 65 < cLine) (ha : DE X Z e f) (hb : DE X Z e2 g) (hm : behindInMarks .NotIn e2 = false := by rfl) : DE X Z (.Compare e [.NotIn] [e2] pos) (ap2 f g (o2 dNotIn)) := de_cmp ((op_notInD hu).or op_notIn_seq) od_notIn ha hb hm
theorem de_isN (ha : DE X Z e f) (hb : DE X Z e2 g) : DE X Z (.Compare e [.Is] [e2] pos) (ap2 f g (o2 dIsN)) := de_cmp op_isN od_isN ha hb
theorem de_notN (ha : DE X Z e f) (hb : DE X Z e2 g) : DE X Z (.Compare e [.IsNot] [e2] pos) (ap2 f g (o2 dNotN)) := de_cmp op_notN od_notN ha hb
end
end DL

set_option Elab.async false
set_option linter.all false
set_option maxRecDepth 100000
namespace DL
open PySem PySem.Spec PyProof.Rows L2

/-! ### x[i] -/
theorem Reps.atI {K : PySem.W.Frag} {H : Hp} {W : Fb} {ds : List D} {xs : List V} {i : Int} {d : D} (h : Reps K H W ds xs) (e : L2.atI ds i = some d) : ∃ v, L2.atI xs i = some v ∧ Rep K H W d v := by
  unfold L2.atI at e ⊢
  rw [← h.length]
  cases q : ixN ds.length i with
  | none => rw [q] at e; cases e
  | some j =>
    rw [q] at e
    obtain ⟨v, h1, h2⟩ := h.get (i := j) (show ds[j]? = some d from e)
    exact ⟨v, h1, h2⟩
theorem atI_map {α β : Type} (f : α → β) (xs : List α) (i : Int) : L2.atI (xs.map f) i = (L2.atI xs i).map f := by
  unfold L2.atI
  rw [List.length_map]
  cases ixN xs.length i with
  | none => rfl
  | some j => simp
def dIx (d e : D) : Option D := match d, e with
  | .lst ds, .int i => L2.atI ds i
  | .tup ds, .int i => L2.atI ds i
  | .scr ns, .int i => (L2.atI ns i).map .int
  | _, _ => none
def ixO (d e : D) (env : Nv) : Option Out := (dIx d e).map fun x => .ok (.val x) env
theorem od_ix {K : PySem.W.Frag} : OpD K (rIx K) (o2g ixO) := opG fun {W Z env σ H Q x y d e} A t1 t2 P => by
  unfold ixO dIx at P
  split at P
  · rename_i ds i
    cases q : L2.atI ds i with
    | none => rw [q] at P; exact P.elim
    | some d =>
      rw [q] at P
      obtain ⟨a, xs, rfl, s1, z1, q1⟩ := top_lst t1
      obtain ⟨v, h1, h2⟩ := q1.atI q
      exact .inl ⟨a, xs, i, v, rfl, t2, .of s1, h1, pend_val A h2 P⟩
  · rename_i ds i
    cases q : L2.atI ds i with
    | none => rw [q] at P; exact P.elim
    | some d =>
      rw [q] at P
      obtain ⟨a, xs, rfl, s1, z1, q1⟩ := top_tup t1
      obtain ⟨v, h1, h2⟩ := q1.atI q
      exact .inr (.inl ⟨a, xs, i, v, rfl, t2, .of s1, h1, pend_val A h2 P⟩)
  · rename_i ns i
    cases q : L2.atI ns i with
    | none => rw [q] at P; exact P.elim
    | some d =>
      rw [q] at P
      obtain ⟨a, rfl, s1⟩ := t1
      exact .inl ⟨a, _, i, .int d, rfl, t2, s1.sq, by rw [atI_map, q]; rfl, pend_val (d := .int d) A rfl P⟩
  · exact P.elim
section
variable {X : Cx} {Z : Wsh} {e e2 e3 : Expr} {f g h : F} {pos p2 : Pos}
theorem de_ix (ha : DE X Z e f) (hb : DE X Z e2 g) (hs : PlainIx e2 := by exact fun _ _ => rfl) : DE X Z (.Subscript e e2 pos) (ap2 f g (o2g ixO)) :=
  PEimp (pe_ix ix_seq ha hb hs) fun σ H Q q => ap2_ok od_ix q
end
/-! ### x[lo:hi] -/
def cutG {α : Type} (xs : List α) (lo hi : Option Int) : List α := (xs.drop (HT.sIx xs.length 0 lo)).take (HT.sIx xs.length xs.length hi - HT.sIx xs.length 0 lo)
theorem cutG_len {α : Type} (xs : List α) (lo hi : Option Int) : (cutG xs lo hi).length ≤ xs.length := by
  unfold cutG
  rw [List.length_take, List.length_drop]
  omega
theorem Reps.cut {K : PySem.W.Frag} {H : Hp} {W : Fb} {ds : List D} {xs : List V} (lo hi : Option Int) (h : Reps K H W ds xs) : Reps K H W (cutG ds lo hi) (cutV xs lo hi) := by
  unfold cutG cutV
  rw [← h.length]
  exact (h.drop _).take _
def cutO (r : R) (lo hi : Option Int) (env : Nv) : Option Out := match pk r env with
  | some (.lst ds) => some (.ok (.frs (.lst (cutG ds lo hi))) env)
  | some (.tup ds) => some (.ok (.val (.tup (cutG ds lo hi))) env)
  | _ => none
theorem cut_all {α : Type} {xs : List α} {lo hi : Option Int} (h : HT.sIx xs.length 0 lo = 0 ∧ HT.sIx xs.length xs.length hi = xs.length) : cutG xs lo hi = xs := by
  unfold cutG
  rw [h.1, h.2]
  simp
theorem cut_ok {K : PySem.W.Frag} {W : Fb} {Z : Wsh} {env : Nv} {σ : St} {H : Hp} {Q : VK} {x : V} {r : R} {lo hi : Option Int} (A : AS K W env σ H) (l : RL K W env σ H r x) (P : Pend K W Z env σ H Q (cutO r lo hi env)) :
    (rSlL K x lo hi H Q ∨ rSlA K x lo hi H Q) := by
  unfold cutO at P
  cases q : pk r env with
  | none => rw [q] at P; exact P.elim
  | some d =>
    have t := pk_top A l q
    rw [q] at P
    cases d with
    | lst ds =>
      obtain ⟨a, xs, rfl, s1, z1, q1⟩ := top_lst t
      exact .inl ⟨a, xs, rfl, .of s1, fun p hp => pend_lst A hp (Nat.le_trans (cutG_len ds lo hi) z1) (q1.cut lo hi) P⟩
    | tup ds =>
      have t' := t
      obtain ⟨a, xs, rfl, s1, z1, q1⟩ := top_tup t
      refine .inr ⟨a, xs, rfl, .of s1, fun c => ?_, fun c p hp => ?_⟩
      · rw [← q1.length] at c
        have P : Pend K W Z env σ H Q (some (.ok (.val (.tup (cutG ds lo hi))) env)) := P
        rw [show cutG ds lo hi = ds from cut_all c] at P
        exact pend_val (d := .tup ds) A t' P
      · exact pend_tup A hp (Nat.le_trans (cutG_len ds lo hi) z1) (q1.cut lo hi) P
    | _ => exact P.elim
def asI (r : R) : Option Int := match r with
  | .val (.int i) => some i
  | _ => none
theorem asI_ok {K : PySem.W.Frag} {W : Fb} {env : Nv} {σ : St} {H : Hp} {x : V} {r : R} {i : Int} (h : asI r = some i) (l : RL K W env σ H r x) : x = .int i := by
  unfold asI at h
  split at h
  · cases h; exact l
  · cases h
def slLH (f g h : F) : F := fun env => bnd (f env) fun p env => bnd (g env) fun a env => match asI (hold a) with
  | none => none
  | some i => bnd (h env) fun b env => match asI (hold b) with
    | none => none
    | some j => cutO (hold p) (some i) (some j) env
def slL (f g : F) : F := fun env => bnd (f env) fun p env => bnd (g env) fun a env => match asI (hold a) with
  | none => none
  | some i => cutO (hold p) (some i) none env
def slH (f g : F) : F := fun env => bnd (f env) fun p env => bnd (g env) fun a env => match asI (hold a) with
  | none => none
  | some i => cutO (hold p) none (some i) env
theorem rls1 {K : PySem.W.Frag} {W : Fb} {env : Nv} {σ : St} {H : Hp} {rs : List R} {x : V} (h : RLs K W env σ H rs [x]) : ∃ p, rs = [p] ∧ RL K W env σ H p x := by
  match rs, h with
  | [], h => cases h
  | [p], h =>
    obtain ⟨u, us, e1, l1, _⟩ := h
    cases e1
    exact ⟨p, rfl, l1⟩
  | _ :: _ :: _, h =>
    obtain ⟨u, us, e1, l1, w, ws, e2, _⟩ := h
    cases e1; cases e2
theorem rls2 {K : PySem.W.Frag} {W : Fb} {env : Nv} {σ : St} {H : Hp} {rs : List R} {x y : V} (h : RLs K W env σ H rs [x, y]) : ∃ p q, rs = [p, q] ∧ RL K W env σ H p x ∧ RL K W env σ H q y := by
  match rs, h with
  | [], h => cases h
  | p :: rs, h =>
    obtain ⟨u, us, e1, l1, h⟩ := h
    cases e1
    obtain ⟨q, rfl, l2⟩ := rls1 h
    exact ⟨p, q, rfl, l1, l2⟩
theorem rls3 {K : PySem.W.Frag} {W : Fb} {env : Nv} {σ : St} {H : Hp} {rs : List R} {x y z : V} (h : RLs K W env σ H rs [x, y, z]) : ∃ p q r, rs = [p, q, r] ∧ RL K W env σ H p x ∧ RL K W env σ H q y ∧ RL K W env σ H r z := by
  match rs, h with
  | [], h => cases h
  | p :: rs, h =>
    obtain ⟨u, us, e1, l1, h⟩ := h
    cases e1
    obtain ⟨q, r, rfl, l2, l3⟩ := rls2 h
    exact ⟨p, q, r, rfl, l1, l2, l3⟩
theorem rls0 {K : PySem.W.Frag} {W : Fb} {env : Nv} {σ : St} {H : Hp} {rs : List R} (h : RLs K W env σ H rs []) : rs = [] := by
  match rs, h with
  | [], h => rfl
  | p :: rs, h => obtain ⟨u, us, e1, _⟩ := h; cases e1
section
variable {X : Cx} {Z : Wsh} {e e2 e3 : Expr} {f g h : F} {pos p2 : Pos}
theorem sl_any {X : Cx} : SlR X (fun x lo hi H Q => rSlL X.K x lo hi H Q ∨ rSlA X.K x lo hi H Q) := sl_list.or sl_tupA
theorem tE_mono {K : PySem.W.Frag} {f : F} {σ : St} {H : Hp} {Q Q' : VK} (hq : ∀ v H, Q v H → Q' v H) (q : tE K Z f σ H Q) : tE K Z f σ H Q' := by
  obtain ⟨W, env, A, q⟩ := q
  exact ⟨W, env, A, q.mono hq⟩
theorem de_slLH (ha : DE X Z e f) (hb : DE X Z e2 g) (hc : DE X Z e3 h) : DE X Z (.Subscript e (.Slice (some e2) (some e3) none p2) pos) (slLH f g h) :=
  PEimp (pe_slice sl_any ha (po_some hb) (po_some hc)) fun σ H Q q => by
    obtain ⟨W, env, A, q⟩ := q
    refine tE_mono (fun x H1 t => ?_) (stepE A q)
    obtain ⟨p, env1, s1, A1, l1, q⟩ := t
    refine tE_mono (fun y H2 t => ?_) (stepE A1 q)
    obtain ⟨a, env2, s2, A2, l2, q⟩ := t
    cases i1 : asI (hold a) with
    | none => simp only [i1] at q; exact q.elim
    | some i =>
      simp only [i1] at q
      refine ⟨i, asI_ok i1 l2, ?_⟩
      refine tE_mono (fun z H3 t => ?_) (stepE A2 q)
      obtain ⟨b, env3, s3, A3, l3, q⟩ := t
      cases i2 : asI (hold b) with
      | none => simp only [i2] at q; exact q.elim
      | some j =>
        simp only [i2] at q
        exact ⟨j, asI_ok i2 l3, cut_ok A3 ((l1.keep A1 s2).keep A2 s3) q⟩
theorem de_slL (ha : DE X Z e f) (hb : DE X Z e2 g) : DE X Z (.Subscript e (.Slice (some e2) none none p2) pos) (slL f g) :=
  PEimp (pe_slice sl_any ha (po_some hb) po_none) fun σ H Q q => by
    obtain ⟨W, env, A, q⟩ := q
    refine tE_mono (fun x H1 t => ?_) (stepE A q)
    obtain ⟨p, env1, s1, A1, l1, q⟩ := t
    refine tE_mono (fun y H2 t => ?_) (stepE A1 q)
    obtain ⟨a, env2, s2, A2, l2, q⟩ := t
    cases i1 : asI (hold a) with
    | none => simp only [i1] at q; exact q.elim
    | some i =>
      simp only [i1] at q
      exact ⟨i, asI_ok i1 l2, cut_ok A2 (l1.keep A1 s2) q⟩
theorem de_slH (ha : DE X Z e f) (hb : DE X Z e2 g) : DE X Z (.Subscript e (.Slice none (some e2) none p2) pos) (slH f g) :=
  PEimp (pe_slice sl_any ha po_none (po_some hb)) fun σ H Q q => by
    obtain ⟨W, env, A, q⟩ := q
    refine tE_mono (fun x H1 t => ?_) (stepE A q)
    obtain ⟨p, env1, s1, A1, l1, q⟩ := t
    refine tE_mono (fun y H2 t => ?_) (stepE A1 q)
    obtain ⟨a, env2, s2, A2, l2, q⟩ := t
    cases i1 : asI (hold a) with
    | none => simp only [i1] at q; exact q.elim
    | some i =>
      simp only [i1] at q
      exact ⟨i, asI_ok i1 l2, cut_ok A2 (l1.keep A1 s2) q⟩
end
/-! ### argument lists, displays, calls of built-ins -/
abbrev DAs (X : Cx) (Z : Wsh) (es : List Expr) (fs : List F) : Prop := PA X es (tAs X.K Z fs)
section
variable {X : Cx} {Z : Wsh} {e : Expr} {es : List Expr} {f : F} {fs : List F} {pos p : Pos}
theorem da_nil : DAs X Z [] [] := pa_nil
theorem da_cons (ha : DE X Z e f) (hr : DAs X Z es fs) (hs : starEach (e :: es) X.env = (false, eval e X.env) :: starEach es X.env := by rfl) : DAs X Z (e :: es) (f :: fs) := pa_cons ha hr hs
end
def kps : List R → Nv → Option (List D × Nv)
  | [], env => some ([], env)
  | r :: rs, env => match kp r env with
    | none => none
    | some (d, env1) => match kps rs env1 with
      | none => none
      | some (ds, env2) => some (d :: ds, env2)
theorem RLs.keep {K : PySem.W.Frag} {W : Fb} {env env' : Nv} {σ : St} {H H' : Hp} (A : AS K W env σ H) (s : Stp env σ H env' σ H') : ∀ {rs : List R} {vs : List V}, RLs K W env σ H rs vs → RLs K W env' σ H' rs vs
  | [], vs, h => h
  | r :: rs, vs, h => by
    obtain ⟨x, xs, e, l, q⟩ := h
    exact ⟨x, xs, e, l.keep A s, RLs.keep A s q⟩
theorem kps_ok {K : PySem.W.Frag} {W : Fb} {σ : St} {H : Hp} : ∀ {rs : List R} {vs : List V} {env env' : Nv} {ds : List D}, AS K W env σ H → RLs K W env σ H rs vs → kps rs env = some (ds, env') → AS K W env' σ H ∧ Reps K H (All W env' σ) ds vs ∧ Stp env σ H env' σ H
  | [], vs, env, env', ds, A, l, e => by
    cases e
    exact ⟨A, l, .refl⟩
  | r :: rs, vs, env, env', ds, A, l, e => by
    obtain ⟨x, xs, rfl, l1, l2⟩ := l
    unfold kps at e
    cases q : kp r env with
    | none => simp only [q] at e; cases e
    | some p =>
      obtain ⟨d, env1⟩ := p
      simp only [q] at e
      obtain ⟨A1, r1, s1⟩ := kp_ok A l1 q
      cases q2 : kps rs env1 with
      | none => simp only [q2] at e; cases e
      | some p2 =>
        obtain ⟨ds2, env2⟩ := p2
        simp only [q2] at e
        cases e
        obtain ⟨A2, r2, s2⟩ := kps_ok A1 (l2.keep A s1) q2
        exact ⟨A2, ⟨x, xs, rfl, RL.keep (r := .val d) A1 s2 r1, r2⟩, s1.trans s2⟩
def mkT (rs : List R) (env : Nv) : Option Out := match kps rs env with
  | some (ds, env) => if ds.length ≤ sizeLine then some (.ok (.val (.tup ds)) env) else none
  | none => none
def mkL (rs : List R) (env : Nv) : Option Out := match kps rs env with
  | some (ds, env) => if ds.length ≤ sizeLine then some (.ok (.frs (.lst ds)) env) else none
  | none => none
structure CallD (K : PySem.W.Frag) (r : List V → Hp → VK → Prop) (o : List R → Nv → Option Out) : Prop where
  run : ∀ {W : Fb} {Z : Wsh} {env : Nv} {σ : St} {H : Hp} {Q : VK} {vs : List V} {rs : List R}, AS K W env σ H → RLs K W env σ H rs vs → Pend K W Z env σ H Q (o rs env) → r vs H Q
def apN (fs : List F) (o : List R → Nv → Option Out) : F := fun env => evs fs env o
section
variable {X : Cx} {Z : Wsh} {e : Expr} {es : List Expr} {f : F} {fs : List F} {pos p : Pos}
theorem de_tup {k} (h : DAs X Z es fs) : DE X Z (.Tuple es k pos) (apN fs mkT) := PEimp (pe_tup h) fun σ H Q q => by
  obtain ⟨W, env, A, q⟩ := q
  refine tAs_mono fs (fun vs H1 t => ?_) (evs_ok fs A q)
  obtain ⟨rs, env1, s1, A1, l1, P⟩ := t
  unfold mkT at P
  cases z : kps rs env1 with
  | none => rw [z] at P; exact P.elim
  | some p =>
    obtain ⟨ds, env2⟩ := p
    rw [z] at P
    obtain ⟨A2, r2, s2⟩ := kps_ok A1 l1 z
    by_cases c : ds.length ≤ sizeLine
    · simp only [if_pos c] at P
      exact ⟨by rw [← r2.length]; exact c, fun p hp => pend_tup A2 hp c r2 (P.shift s2)⟩
    · simp only [if_neg c] at P; exact P.elim
theorem de_lst (h : DAs X Z es fs) : DE X Z (.List es pos) (apN fs mkL) := PEimp (pe_lst h) fun σ H Q q => by
  obtain ⟨W, env, A, q⟩ := q
  refine tAs_mono fs (fun vs H1 t => ?_) (evs_ok fs A q)
  obtain ⟨rs, env1, s1, A1, l1, P⟩ := t
  unfold mkL at P
  cases z : kps rs env1 with
  | none => rw [z] at P; exact P.elim
  | some p =>
    obtain ⟨ds, env2⟩ := p
    rw [z] at P
    obtain ⟨A2, r2, s2⟩ := kps_ok A1 l1 z
    by_cases c : ds.length ≤ sizeLine
    · simp only [if_pos c] at P
      exact ⟨by rw [← r2.length]; exact c, fun p hp => pend_lst A2 hp c r2 (P.shift s2)⟩
    · simp only [if_neg c] at P; exact P.elim
theorem de_callB {id : String} {r : List V → Hp → VK → Prop} {o : List R → Nv → Option Out} {y : Str} (hc : CallR X (.builtin id) r) (ho : CallD X.K r o) (hg : Gl X y) (hm : X.mg y = none) (hv : bootBuiltins y = some (.builtin id)) (ha : DAs X Z (e :: es) fs) (hn : y ≠ "__name__" := by decide) (hdb : (y == ("__debug__" : Str)) = false := by decide)
    (he : starEach (e :: es) X.env = (false, eval e X.env) :: starEach es X.env := by rfl) (hpl : (backTo pos (starEach es X.env)).any (·.1) = false := by rfl) : DE X Z (.Call (.Name y p) (e :: es) [] pos) (apN fs o) :=
  PEimp (pe_callB hc hg hm hv ha hn hdb he hpl) fun σ H Q q => by
    obtain ⟨W, env, A, q⟩ := q
    refine tAs_mono fs (fun vs H1 t => ?_) (evs_ok fs A q)
    obtain ⟨rs, env1, s1, A1, l1, P⟩ := t
    exact ho.run A1 l1 P
theorem de_callTy {T : String} {r : List V → Hp → VK → Prop} {o : List R → Nv → Option Out} {y : Str} (hc : CallR X (.type T) r) (ho : CallD X.K r o) (hg : Gl X y) (hm : X.mg y = none) (hv : bootBuiltins y = some (.type T)) (ha : DAs X Z (e :: es) fs) (hn : y ≠ "__name__" := by decide) (hdb : (y == ("__debug__" : Str)) = false := by decide)
    (he : starEach (e :: es) X.env = (false, eval e X.env) :: starEach es X.env := by rfl) (hpl : (backTo pos (starEach es X.env)).any (·.1) = false := by rfl) : DE X Z (.Call (.Name y p) (e :: es) [] pos) (apN fs o) :=
  PEimp (pe_callTy hc hg hm hv ha hn hdb he hpl) fun σ H Q q => by
    obtain ⟨W, env, A, q⟩ := q
    refine tAs_mono fs (fun vs H1 t => ?_) (evs_ok fs A q)
    obtain ⟨rs, env1, s1, A1, l1, P⟩ := t
    exact ho.run A1 l1 P
end
/-- one argument, by its data -/
def c1g (o : D → Nv → Option Out) : List R → Nv → Option Out := fun rs env => match rs with
  | [p] => match pk p env with
    | some d => o d env
    | none => none
  | _ => none
theorem callG1 {K : PySem.W.Frag} {r : List V → Hp → VK → Prop} {o : D → Nv → Option Out} (h : ∀ {W : Fb} {Z : Wsh} {env : Nv} {σ : St} {H : Hp} {Q : VK} {x : V} {d : D}, AS K W env σ H → Top K H (All W env σ) d x → Pend K W Z env σ H Q (o d env) → r [x] H Q) : CallD K r (c1g o) := by
  constructor
  intro W Z env σ H Q vs rs A l P
  unfold c1g at P
  match rs, l with
  | [], l => exact P.elim
  | [p], l =>
    obtain ⟨x, xs, rfl, l1, e⟩ := l
    have e : xs = [] := e
    subst e
    simp only at P
    cases q : pk p env with
    | none => rw [q] at P; exact P.elim
    | some d =>
      rw [q] at P
      exact h A (pk_top A l1 q) P
  | _ :: _ :: _, l => exact P.elim
def c2g (o : D → D → Nv → Option Out) : List R → Nv → Option Out := fun rs env => match rs with
  | [p, q] => o2g o p q env
  | _ => none
theorem callG2 {K : PySem.W.Frag} {r : List V → Hp → VK → Prop} {o : D → D → Nv → Option Out} (h : ∀ {W : Fb} {Z : Wsh} {env : Nv} {σ : St} {H : Hp} {Q : VK} {x y : V} {d e : D}, AS K W env σ H → Top K H (All W env σ) d x → Top K H (All W env σ) e y → Pend K W Z env σ H Q (o d e env) → r [x, y] H Q) : CallD K r (c2g o) := by
  constructor
  intro W Z env σ H Q vs rs A l P
  unfold c2g at P
  match rs, l with
  | [], l => exact P.elim
  | [p], l => exact P.elim
  | [p, q], l =>
    obtain ⟨x, xs, rfl, l1, y, ys, rfl, l2, e⟩ := l
    have e : ys = [] := e
    subst e
    exact (opG (r := fun x y H Q => r [x, y] H Q) h).run A l1 l2 P
  | _ :: _ :: _ :: _, l => exact P.elim
end DL

set_option Elab.async false
set_option linter.all false
set_option maxRecDepth 100000
namespace DL
open PySem PySem.Spec PyProof.Rows L2

/-! ### len, int, abs, sum, max, min, tuple, list, sorted, isinstance, any -/
def lenD : D → Option Nat
  | .lst ds => some ds.length
  | .tup ds => some ds.length
  | .scr ns => some ns.length
  | _ => none
def lenO (d : D) (env : Nv) : Option Out := (lenD d).map fun n => .ok (.val (.int n)) env
theorem cd_len {K : PySem.W.Frag} : CallD K (fun xs H Q => ∃ p ys, xs = [.ref p] ∧ (SqL K H p ys ∨ SqT K H p ys) ∧ Q (.int ys.length) H) (c1g lenO) := callG1 fun {W Z env σ H Q x d} A t P => by
  cases d with
  | lst ds =>
    obtain ⟨a, xs, rfl, s, z, q⟩ := top_lst t
    exact ⟨a, xs, rfl, .inl (.of s), by rw [← q.length]; exact pend_val (d := .int ds.length) A rfl P⟩
  | tup ds =>
    obtain ⟨a, xs, rfl, s, z, q⟩ := top_tup t
    exact ⟨a, xs, rfl, .inr (.of s), by rw [← q.length]; exact pend_val (d := .int ds.length) A rfl P⟩
  | scr ns =>
    obtain ⟨a, rfl, s⟩ := t
    exact ⟨a, _, rfl, .inl s.sq, by rw [List.length_map]; exact pend_val (d := .int ns.length) A rfl P⟩
  | _ => exact P.elim
def intO (d : D) (env : Nv) : Option Out := match d with
  | .int i => some (.ok (.val (.int i)) env)
  | .bl k => some (.ok (.val (.int (if k then 1 else 0))) env)
  | _ => none
theorem cd_int {K : PySem.W.Frag} : CallD K (fun xs H Q => (∃ i, xs = [.int i] ∧ Q (.int i) H) ∨ ∃ k, xs = [.bl k] ∧ Q (.int (if k then 1 else 0)) H) (c1g intO) := callG1 fun {W Z env σ H Q x d} A t P => by
  cases d with
  | int i => have t : x = .int i := t; subst t; exact .inl ⟨i, rfl, pend_val (d := .int i) A rfl P⟩
  | bl k => have t : x = .bl k := t; subst t; exact .inr ⟨k, rfl, pend_val (d := .int (if k then 1 else 0)) A rfl P⟩
  | _ => exact P.elim
def absO (d : D) (env : Nv) : Option Out := match d with
  | .int i => some (.ok (.val (.int (if i < 0 then -i else i))) env)
  | _ => none
theorem cd_abs {K : PySem.W.Frag} : CallD K (fun xs H Q => ∃ i, xs = [.int i] ∧ Q (.int (if i < 0 then -i else i)) H) (c1g absO) := callG1 fun {W Z env σ H Q x d} A t P => by
  cases d with
  | int i => have t : x = .int i := t; subst t; exact ⟨i, rfl, pend_val (d := .int (if i < 0 then -i else i)) A rfl P⟩
  | _ => exact P.elim
def intsOf : List D → Option (List Int)
  | [] => some []
  | .int i :: ds => (intsOf ds).map (i :: ·)
  | _ => none
theorem intsOf_reps {K : PySem.W.Frag} {W : Fb} {H : Hp} : ∀ {ds : List D} {xs : List V} {ns : List Int}, intsOf ds = some ns → Reps K H W ds xs → xs = ns.map V.int
  | [], xs, ns, e, h => by cases e; exact h
  | d :: ds, xs, ns, e, h => by
    cases d with
    | int i =>
      obtain ⟨v, vs, rfl, q1, q2⟩ := h
      have q1 : v = .int i := q1
      subst q1
      unfold intsOf at e
      cases z : intsOf ds with
      | none => rw [z] at e; cases e
      | some ms =>
        rw [z] at e
        cases e
        rw [intsOf_reps z q2]; rfl
    | _ => cases e
theorem intsOf_map : ∀ ns : List Int, intsOf (ns.map D.int) = some ns
  | [] => rfl
  | n :: ns => by
    show (intsOf (ns.map D.int)).map (n :: ·) = some (n :: ns)
    rw [intsOf_map ns]; rfl
def itemsD : D → Option (List D)
  | .lst ds => some ds
  | .tup ds => some ds
  | _ => none
def sumO (d : D) (env : Nv) : Option Out := match (itemsD d).bind intsOf with
  | some ns => some (.ok (.val (.int ns.sum)) env)
  | none => none
/-- sum of a list or a tuple of ints -/
theorem cr_sumA {X : Cx} (hc : X.calm = true) : CallR X (.builtin "sum") (fun vs H Q => ∃ (a : Addr) (ns : List Int), vs = [V.ref a] ∧ (SqL X.K H a (ns.map V.int) ∨ SqT X.K H a (ns.map V.int)) ∧ Q (.int ns.sum) H) := by
  intro pins s σ H vs us Q I r h
  obtain ⟨a, ns, rfl, hs | hs, q⟩ := h
  · obtain ⟨its, rv, hl, _⟩ := I.list hs
    rw [Vals.ref1 r]
    exact sum_raw (I.ok.hd hc) hl.isList rv.ints fun h' tk t' hk => ⟨.int _, H, I.kept hk, ⟨_, rfl⟩, q⟩
  · obtain ⟨its, rv, ht, _⟩ := I.tuple hs
    rw [Vals.ref1 r]
    have hi := rv.ints
    obtain ⟨xs, e⟩ := hi.allInts.items
    have hn : numsOf (intItems xs).toList = ns := by rw [← e]; exact hi.numsOf
    rw [nums_intItems] at hn
    have ht : s.heap.IsTuple a its.toArray := ht
    rw [e] at ht
    refine PySem.W.ktm_sumG (I.ok.hd hc) ht fun h' tk t' hk => ?_
    rw [preSum_eq, List.take_of_length_le (by simp), hn]
    exact ⟨.int _, H, I.kept hk, ⟨_, rfl⟩, q⟩
theorem cd_sum {K : PySem.W.Frag} : CallD K (fun vs H Q => ∃ (a : Addr) (ns : List Int), vs = [V.ref a] ∧ (SqL K H a (ns.map V.int) ∨ SqT K H a (ns.map V.int)) ∧ Q (.int ns.sum) H) (c1g sumO) := callG1 fun {W Z env σ H Q x d} A t P => by
  unfold sumO at P
  cases d with
  | lst ds =>
    cases z : intsOf ds with
    | none => simp only [itemsD, Option.bind, z] at P; exact P.elim
    | some ns =>
      simp only [itemsD, Option.bind, z] at P
      obtain ⟨a, xs, rfl, s, _, q⟩ := top_lst t
      rw [intsOf_reps z q] at s
      exact ⟨a, ns, rfl, .inl (.of s), pend_val (d := .int ns.sum) A rfl P⟩
  | tup ds =>
    cases z : intsOf ds with
    | none => simp only [itemsD, Option.bind, z] at P; exact P.elim
    | some ns =>
      simp only [itemsD, Option.bind, z] at P
      obtain ⟨a, xs, rfl, s, _, q⟩ := top_tup t
      rw [intsOf_reps z q] at s
      exact ⟨a, ns, rfl, .inr (.of s), pend_val (d := .int ns.sum) A rfl P⟩
  | _ => exact P.elim
def maxI : List Int → Int
  | [] => 0
  | [x] => x
  | x :: y :: r => max x (maxI (y :: r))
def minI : List Int → Int
  | [] => 0
  | [x] => x
  | x :: y :: r => min x (minI (y :: r))
theorem maxI_mem : ∀ {ns : List Int}, ns ≠ [] → maxI ns ∈ ns ∧ ∀ y ∈ ns, y ≤ maxI ns
  | [], h => absurd rfl h
  | [x], _ => by simp [maxI]
  | x :: y :: r, _ => by
    obtain ⟨h1, h2⟩ := maxI_mem (ns := y :: r) (by simp)
    refine ⟨?_, fun z hz => ?_⟩
    · show max x (maxI (y :: r)) ∈ _
      by_cases c : x ≤ maxI (y :: r)
      · rw [Int.max_eq_right c]; exact List.mem_cons_of_mem _ h1
      · rw [Int.max_eq_left (by omega)]; exact List.mem_cons_self
    · show z ≤ max x (maxI (y :: r))
      rcases List.mem_cons.mp hz with rfl | hz
      · omega
      · have := h2 z hz; omega
theorem minI_mem : ∀ {ns : List Int}, ns ≠ [] → minI ns ∈ ns ∧ ∀ y ∈ ns, minI ns ≤ y
  | [], h => absurd rfl h
  | [x], _ => by simp [minI]
  | x :: y :: r, _ => by
    obtain ⟨h1, h2⟩ := minI_mem (ns := y :: r) (by simp)
    refine ⟨?_, fun z hz => ?_⟩
    · show min x (minI (y :: r)) ∈ _
      by_cases c : x ≤ minI (y :: r)
      · rw [Int.min_eq_left c]; exact List.mem_cons_self
      · rw [Int.min_eq_right (by omega)]; exact List.mem_cons_of_mem _ h1
    · show min x (minI (y :: r)) ≤ z
      rcases List.mem_cons.mp hz with rfl | hz
      · omega
      · have := h2 z hz; omega
def maxO (d : D) (env : Nv) : Option Out := match d with
  | .lst ds => match intsOf ds with
    | some (n :: ns) => some (.ok (.val (.int (maxI (n :: ns)))) env)
    | _ => none
  | _ => none
def minO (d : D) (env : Nv) : Option Out := match d with
  | .lst ds => match intsOf ds with
    | some (n :: ns) => some (.ok (.val (.int (minI (n :: ns)))) env)
    | _ => none
  | _ => none
theorem cd_max {K : PySem.W.Frag} : CallD K (rMax K) (c1g maxO) := callG1 fun {W Z env σ H Q x d} A t P => by
  unfold maxO at P
  cases d with
  | lst ds =>
    cases z : intsOf ds with
    | none => simp only [z] at P; exact P.elim
    | some ns =>
      cases ns with
      | nil => simp only [z] at P; exact P.elim
      | cons n ns =>
        simp only [z] at P
        obtain ⟨a, xs, rfl, s, _, q⟩ := top_lst t
        rw [intsOf_reps z q] at s
        refine ⟨a, n :: ns, rfl, .of s, by simp, fun m hm hle => ?_⟩
        obtain ⟨h1, h2⟩ := maxI_mem (ns := n :: ns) (by simp)
        have e : m = maxI (n :: ns) := Int.le_antisymm (h2 m hm) (hle _ h1)
        rw [e]
        exact pend_val (d := .int (maxI (n :: ns))) A rfl P
  | _ => exact P.elim
theorem cd_min {K : PySem.W.Frag} : CallD K (rMin K) (c1g minO) := callG1 fun {W Z env σ H Q x d} A t P => by
  unfold minO at P
  cases d with
  | lst ds =>
    cases z : intsOf ds with
    | none => simp only [z] at P; exact P.elim
    | some ns =>
      cases ns with
      | nil => simp only [z] at P; exact P.elim
      | cons n ns =>
        simp only [z] at P
        obtain ⟨a, xs, rfl, s, _, q⟩ := top_lst t
        rw [intsOf_reps z q] at s
        refine ⟨a, n :: ns, rfl, .of s, by simp, fun m hm hle => ?_⟩
        obtain ⟨h1, h2⟩ := minI_mem (ns := n :: ns) (by simp)
        have e : m = minI (n :: ns) := Int.le_antisymm (hle _ h1) (h2 m hm)
        rw [e]
        exact pend_val (d := .int (minI (n :: ns))) A rfl P
  | _ => exact P.elim
def max2O (d e : D) (env : Nv) : Option Out := match d, e with
  | .int i, .int j => some (.ok (.val (.int (if j > i then j else i))) env)
  | _, _ => none
theorem cd_max2 {K : PySem.W.Frag} : CallD K (fun xs H Q => ∃ i j, xs = [.int i, .int j] ∧ Q (.int (if j > i then j else i)) H) (c2g max2O) := callG2 fun {W Z env σ H Q x y d e} A t1 t2 P => by
  unfold max2O at P
  split at P
  · rename_i i j
    have t1 : x = .int i := t1
    have t2 : y = .int j := t2
    subst t1 t2
    exact ⟨i, j, rfl, pend_val (d := .int (if j > i then j else i)) A rfl P⟩
  · exact P.elim
def min2O (d e : D) (env : Nv) : Option Out := match d, e with
  | .int i, .int j => some (.ok (.val (.int (if j < i then j else i))) env)
  | _, _ => none
theorem cd_min2 {K : PySem.W.Frag} : CallD K (fun xs H Q => ∃ i j, xs = [.int i, .int j] ∧ Q (.int (if j < i then j else i)) H) (c2g min2O) := callG2 fun {W Z env σ H Q x y d e} A t1 t2 P => by
  unfold min2O at P
  split at P
  · rename_i i j
    have t1 : x = .int i := t1
    have t2 : y = .int j := t2
    subst t1 t2
    exact ⟨i, j, rfl, pend_val (d := .int (if j < i then j else i)) A rfl P⟩
  · exact P.elim
def tupO (d : D) (env : Nv) : Option Out := match d with
  | .lst ds => some (.ok (.val (.tup ds)) env)
  | .tup ds => some (.ok (.val (.tup ds)) env)
  | _ => none
theorem cd_tup {K : PySem.W.Frag} : CallD K (fun xs H Q => ∃ p ys, xs = [.ref p] ∧ ((SqL K H p ys ∧ ∀ l, H l = none → Q (.ref l) (upd H l (.tup ys))) ∨ (SqT K H p ys ∧ Q (.ref p) H))) (c1g tupO) := callG1 fun {W Z env σ H Q x d} A t P => by
  cases d with
  | lst ds =>
    obtain ⟨a, xs, rfl, s, z, q⟩ := top_lst t
    exact ⟨a, xs, rfl, .inl ⟨.of s, fun l hl => pend_tup A hl z q P⟩⟩
  | tup ds =>
    have t' := t
    obtain ⟨a, xs, rfl, s, z, q⟩ := top_tup t
    exact ⟨a, xs, rfl, .inr ⟨.of s, pend_val (d := .tup ds) A t' P⟩⟩
  | _ => exact P.elim
def lstO (d : D) (env : Nv) : Option Out := match d with
  | .lst ds => some (.ok (.frs (.lst ds)) env)
  | .tup ds => some (.ok (.frs (.lst ds)) env)
  | _ => none
theorem cd_lst {K : PySem.W.Frag} : CallD K (fun xs H Q => ∃ p ys, xs = [.ref p] ∧ (SqL K H p ys ∨ SqT K H p ys) ∧ ∀ l, H l = none → Q (.ref l) (upd H l (.lst ys))) (c1g lstO) := callG1 fun {W Z env σ H Q x d} A t P => by
  cases d with
  | lst ds =>
    obtain ⟨a, xs, rfl, s, z, q⟩ := top_lst t
    exact ⟨a, xs, rfl, .inl (.of s), fun l hl => pend_lst A hl z q P⟩
  | tup ds =>
    obtain ⟨a, xs, rfl, s, z, q⟩ := top_tup t
    exact ⟨a, xs, rfl, .inr (.of s), fun l hl => pend_lst A hl z q P⟩
  | _ => exact P.elim
end DL

set_option Elab.async false
set_option linter.all false
set_option maxRecDepth 100000
namespace DL
open PySem PySem.Spec PyProof.Rows L2

/-! ### sorted -/
def isTI : D → Bool
  | .tup (d :: ds) => isFlat d && ds.all isFlat
  | _ => false
/-- ints, or tuples of ints -/
def sortable (ds : List D) : Bool := ds.all isFlat || ds.all isTI
def leD : D → D → Bool := PySem.W.dataLe false D.py
def sortD (ds : List D) : List D := ds.mergeSort leD
theorem flat_shape {d : D} (h : isFlat d = true) : ∃ i, d = .int i := by
  cases d with
  | int i => exact ⟨i, rfl⟩
  | _ => cases h
theorem flats_py : ∀ {ds : List D}, ds.all isFlat = true → ∃ ns : List Int, D.pys ds = ns.map .int ∧ ds = ns.map .int
  | [], _ => ⟨[], rfl, rfl⟩
  | d :: ds, h => by
    simp only [List.all_cons, Bool.and_eq_true] at h
    obtain ⟨i, rfl⟩ := flat_shape h.1
    obtain ⟨ns, e, e2⟩ := flats_py h.2
    exact ⟨i :: ns, by simp [D.pys, D.py, e], by simp [e2]⟩
theorem ti_py {d : D} (h : isTI d = true) : ∃ n : Int, ∃ ns : List Int, d.py = .tuple (.int n :: ns.map .int) := by
  cases d with
  | tup ds =>
    cases ds with
    | nil => cases h
    | cons d ds =>
      simp only [isTI, Bool.and_eq_true] at h
      obtain ⟨i, rfl⟩ := flat_shape h.1
      obtain ⟨ns, e, _⟩ := flats_py h.2
      exact ⟨i, ns, by simp [D.pys, D.py, e]⟩
  | _ => cases h
theorem alike_sort {ds : List D} (h : sortable ds = true) : PySem.W.AllAlike (ds.map D.py) := by
  intro x hx y hy
  obtain ⟨d, hd, rfl⟩ := List.mem_map.mp hx
  obtain ⟨e, he, rfl⟩ := List.mem_map.mp hy
  rcases Bool.or_eq_true_iff.mp h with h | h
  · obtain ⟨i, rfl⟩ := flat_shape (List.all_eq_true.mp h d hd)
    obtain ⟨j, rfl⟩ := flat_shape (List.all_eq_true.mp h e he)
    rfl
  · obtain ⟨i, ns, e1⟩ := ti_py (List.all_eq_true.mp h d hd)
    obtain ⟨j, ms, e2⟩ := ti_py (List.all_eq_true.mp h e he)
    rw [e1, e2]
    have := PySem.W.alike_ints (i :: ns) (j :: ms)
    simpa [PySem.W.alike] using this
theorem sortable_ok {ds : List D} (h : sortable ds = true) : PySem.W.Sortable (ds.map D.py) := by
  rcases Bool.or_eq_true_iff.mp h with h | h
  · refine .inr fun x hx => ?_
    obtain ⟨d, hd, rfl⟩ := List.mem_map.mp hx
    obtain ⟨i, rfl⟩ := flat_shape (List.all_eq_true.mp h d hd)
    exact ⟨fun z => by simp [D.py] at z, fun xs z => by simp [D.py] at z⟩
  · refine .inl fun x hx => ?_
    obtain ⟨d, hd, rfl⟩ := List.mem_map.mp hx
    obtain ⟨i, ns, e⟩ := ti_py (List.all_eq_true.mp h d hd)
    exact ⟨_, _, e⟩
theorem sort_dep {ds : List D} (h : sortable ds = true) {d : D} (hd : d ∈ ds) : d.py.depth ≤ 1 := by
  rcases Bool.or_eq_true_iff.mp h with h | h
  · obtain ⟨i, rfl⟩ := flat_shape (List.all_eq_true.mp h d hd)
    simp [D.py, PyData.depth]
  · obtain ⟨i, ns, e⟩ := ti_py (List.all_eq_true.mp h d hd)
    rw [e]
    have := PySem.W.depth_ints (i :: ns)
    simp only [PyData.depth]
    simp only [List.map_cons] at this
    omega
theorem eqOk_sort {ds : List D} (h : sortable ds = true) {d : D} (hd : d ∈ ds) : d.eqOk = true := by
  have fl : ∀ {es : List D}, es.all isFlat = true → D.eqOks es = true := by
    intro es
    induction es with
    | nil => intro _; rfl
    | cons e es ih =>
      intro h
      simp only [List.all_cons, Bool.and_eq_true] at h
      obtain ⟨i, rfl⟩ := flat_shape h.1
      show (true && D.eqOks es) = true
      rw [ih h.2]; rfl
  rcases Bool.or_eq_true_iff.mp h with h | h
  · obtain ⟨i, rfl⟩ := flat_shape (List.all_eq_true.mp h d hd)
    rfl
  · have q := List.all_eq_true.mp h d hd
    cases d with
    | tup ds =>
      cases ds with
      | nil => rfl
      | cons d ds => exact fl (es := d :: ds) (by simpa [isTI] using q)
    | _ => cases q
theorem each_of {K : PySem.W.Frag} {H : Hp} {W : Fb} : ∀ {ds : List D} {xs : List V} {us : List Value}, Reps K H W ds xs → Vals xs us → PySem.W.EachIs (fun v d => ∃ x, RelV x v ∧ Rep K H W d x) us ds
  | [], xs, us, h, r => by
    have h : xs = [] := h
    subst h
    cases r
    exact .nil
  | d :: ds, xs, us, h, r => by
    obtain ⟨v, vs, rfl, q1, q2⟩ := h
    cases r with
    | cons r1 r2 => exact .cons ⟨v, r1, q1⟩ (each_of q2 r2)
theorem of_each {K : PySem.W.Frag} {H : Hp} {W : Fb} : ∀ {ds : List D} {us : List Value}, PySem.W.EachIs (fun v d => ∃ x, RelV x v ∧ Rep K H W d x) us ds → ∃ xs, Vals xs us ∧ Reps K H W ds xs
  | _, _, .nil => ⟨[], .nil, rfl⟩
  | _, _, .cons ⟨x, r, q⟩ t => by
    obtain ⟨xs, h1, h2⟩ := of_each t
    exact ⟨x :: xs, .cons r h1, x, xs, rfl, q, h2⟩
theorem each_and {α β : Type} {R S : α → β → Prop} : ∀ {as : List α} {bs : List β}, PySem.W.EachIs R as bs → (∀ b, b ∈ bs → ∀ a, R a b → S a b) → PySem.W.EachIs S as bs
  | _, _, .nil, _ => .nil
  | _, _, .cons h t, f => .cons (f _ List.mem_cons_self _ h) (each_and t fun b hb => f b (List.mem_cons_of_mem _ hb))
def rSortD (K : PySem.W.Frag) : List V → Hp → VK → Prop := fun vs H Q => ∃ (W : Fb) (a : Addr) (ds : List D) (xs : List V), vs = [V.ref a] ∧ H a = some (.lst xs) ∧ ds.length ≤ sizeLine ∧ Reps K H W ds xs ∧ sortable ds = true ∧
  ∀ ys p, Reps K H W (sortD ds) ys → H p = none → Q (.ref p) (upd H p (.lst ys))
theorem cr_sortD {X : Cx} (hu : X.A.units + 4 < cLine) : CallR X (.builtin "sorted") (rSortD X.K) := by
  intro pins s σ H vs us Q I r h
  obtain ⟨W, a, ds, xs, rfl, hs, hz, hr, hk, q⟩ := h
  obtain ⟨its, rv, hl, _⟩ := I.list (.of hs)
  rw [Vals.ref1 r]
  have e := each_of hr rv
  have er : PySem.W.EachIs (fun v d => ∃ as, Reads s.heap v (D.py d) as) its ds := each_and e fun d hd v ⟨x, rx, hx⟩ => Dp.reads I d.py x v (dp_of d x (eqOk_sort hk hd) hx) rx
  refine PySem.W.sorted_data (enc := D.py) hl.isList e er (alike_sort hk) (sortable_ok hk) hz (fun d hd => ?_) fun out hlen ho => ?_
  · have := sort_dep hk hd
    omega
  · obtain ⟨ys, h1, h2⟩ := of_each ho
    obtain ⟨ep, he'⟩ := PyProof.Rows.sortedAll_at s.heap its out.toArray
    have hlen2 : ys.length ≤ sizeLine := by rw [h1.length, hlen]; exact hz
    exact ⟨.ref _, upd H (s.heap.objs.size + 1) (.lst ys), I.laid (t' := s.toks) (fun _ _ => PyProof.Rows.sortedAll_old) (Nat.le_succ _) ⟨hlen2, out, ep, h1, he'⟩, rfl, q ys _ h2 (I.hok.fresh (Nat.le_succ _))⟩
def sortO (d : D) (env : Nv) : Option Out := match d with
  | .lst ds => if sortable ds then some (.ok (.frs (.lst (sortD ds))) env) else none
  | _ => none
theorem cd_sort {K : PySem.W.Frag} : CallD K (rSortD K) (c1g sortO) := callG1 fun {W Z env σ H Q x d} A t P => by
  cases d with
  | lst ds =>
    obtain ⟨a, xs, rfl, s, z, q⟩ := top_lst t
    unfold sortO at P
    by_cases c : sortable ds = true
    · simp only [if_pos c] at P
      refine ⟨_, a, ds, xs, rfl, s, z, q, c, fun ys p hy hp => ?_⟩
      refine pend_lst A hp ?_ hy P
      rw [sortD, List.length_mergeSort]; exact z
    · simp only [if_neg c] at P; exact P.elim
  | _ => exact P.elim
/-! ### isinstance of built-in types -/
def tyN : D → String
  | .non => "NoneType" | .bl _ => "bool" | .int _ => "int" | .str _ => "str" | .tup _ => "tuple" | .lst _ => "list" | .dct _ => "dict" | .scr _ => "list" | .rng _ _ => "range" | .stt _ => "set" | .dci _ => "dict" | .dcf _ => "dict"
theorem ty_of {K : PySem.W.Frag} {W : Fb} {H : Hp} {d : D} {x : V} (hd : ∀ kvs, d ≠ .dct kvs) (hd2 : ∀ lo hi, d ≠ .rng lo hi) (hd3 : ∀ ns, d ≠ .stt ns) (hd4 : ∀ ns, d ≠ .dci ns) (hd5 : ∀ ns, d ≠ .dcf ns) (t : Top K H W d x) : TyX K H x (.type (tyN d)) := by
  cases d with
  | non => have t : x = .non := t; subst t; exact .base .non
  | bl b => have t : x = .bl b := t; subst t; exact .base (.bl b)
  | int b => have t : x = .int b := t; subst t; exact .base (.int b)
  | str b => have t : x = .str b := t; subst t; exact .base (.str b)
  | tup ds =>
    obtain ⟨a, xs, rfl, s, _⟩ := t
    exact .base (.tup s)
  | lst ds => obtain ⟨a, xs, rfl, s, _⟩ := t; exact .base (.lst s)
  | dct ds => exact absurd rfl (hd ds)
  | rng lo hi => exact absurd rfl (hd2 lo hi)
  | stt ns => exact absurd rfl (hd3 ns)
  | dci ns => exact absurd rfl (hd4 ns)
  | dcf ns => exact absurd rfl (hd5 ns)
  | scr ns =>
    obtain ⟨a, rfl, s⟩ := t
    rcases s with ⟨o, h⟩ | ⟨o, its, n, h1, h2, _⟩
    · exact .base (.frz h)
    · exact .kList h1 h2
inductive BT | int | bool | str | tuple | list
def BT.nm : BT → String
  | .int => "int" | .bool => "bool" | .str => "str" | .tuple => "tuple" | .list => "list"
def isT : BT → D → Bool
  | .int, .int _ => true
  | .int, .bl _ => true
  | .bool, .bl _ => true
  | .str, .str _ => true
  | .tuple, .tup _ => true
  | .list, .lst _ => true
  | .list, .scr _ => true
  | _, _ => false
def isTO (T : BT) (d : D) (env : Nv) : Option Out := match d with
  | .dct _ => none
  | .rng _ _ => none
  | .stt _ => none
  | .dci _ => none
  | .dcf _ => none
  | d => some (.ok (.val (.bl (isT T d))) env)
theorem isT_kit {K : PySem.W.Frag} {T : BT} {d : D} (hd : ∀ kvs, d ≠ .dct kvs) (hd2 : ∀ lo hi, d ≠ .rng lo hi) (hd3 : ∀ ns, d ≠ .stt ns) (hd4 : ∀ ns, d ≠ .dci ns) (hd5 : ∀ ns, d ≠ .dcf ns) : PySem.W.kitOne K (.type (tyN d)) (.type T.nm) = some (isT T d) := by
  cases d <;> first
    | exact absurd rfl (hd _)
    | exact absurd rfl (hd2 _ _)
    | exact absurd rfl (hd3 _)
    | exact absurd rfl (hd4 _)
    | exact absurd rfl (hd5 _)
    | (cases T <;> simp only [tyN, BT.nm, isT] <;> exact kit_ty (by decide +kernel))
section
variable {X : Cx} {Z : Wsh} {e : Expr} {f : F} {pos p q : Pos}
theorem de_isi (T : BT) {y z : Str} (ha : DE X Z e f) (hg : Gl X y) (hm : X.mg y = none) (hv : bootBuiltins y = some (.builtin "isinstance")) (hg2 : Gl X z) (hm2 : X.mg z = none) (hv2 : bootBuiltins z = some (.type T.nm)) (hn : y ≠ "__name__" := by decide) (hdb : (y == ("__debug__" : Str)) = false := by decide)
    (hn2 : z ≠ "__name__" := by decide) (hdb2 : (z == ("__debug__" : Str)) = false := by decide)
    (he : starEach (e :: [.Name z q]) X.env = (false, eval e X.env) :: starEach [.Name z q] X.env := by rfl) (he2 : starEach (.Name z q :: []) X.env = (false, eval (.Name z q) X.env) :: starEach [] X.env := by rfl) (hpl : (backTo pos (starEach [.Name z q] X.env)).any (·.1) = false := by rfl) :
    DE X Z (.Call (.Name y p) [e, .Name z q] [] pos) (apN [f] (c1g (isTO T))) :=
  PEimp (pe_callB call_isi hg hm hv (pa_cons ha (pa_cons (pe_bltn (v := .ty T.nm) hg2 hm2 hv2 rfl hn2 hdb2) pa_nil he2) he) hn hdb he hpl) fun σ H Q h => by
    obtain ⟨W, env, A, h⟩ := h
    have key : tAs X.K Z [f] σ H (fun vs H1 => ∃ x, vs = [x] ∧ rIsi X.K [x, .ty T.nm] H1 Q) := by
      refine tAs_mono [f] (fun vs H1 t => ?_) (evs_ok [f] A h)
      obtain ⟨rs, env1, s1, A1, l1, P⟩ := t
      match vs, rs, l1 with
      | _, [], l1 => exact P.elim
      | _, _ :: _ :: _, l1 => exact P.elim
      | vs, [r], l1 =>
        obtain ⟨x, xs, rfl, l2, e3⟩ := l1
        have e3 : xs = [] := e3
        subst e3
        refine ⟨x, rfl, ?_⟩
        unfold c1g at P
        simp only at P
        cases z : pk r env1 with
        | none => rw [z] at P; exact P.elim
        | some d =>
          rw [z] at P
          have t := pk_top A1 l2 z
          have hd : ∀ kvs, d ≠ .dct kvs := fun kvs e => by subst e; exact P.elim
          have hd2 : ∀ lo hi, d ≠ .rng lo hi := fun lo hi e => by subst e; exact P.elim
          have hd3 : ∀ ns, d ≠ .stt ns := fun ns e => by subst e; exact P.elim
          have hd4 : ∀ ns, d ≠ .dci ns := fun ns e => by subst e; exact P.elim
          have hd5 : ∀ ns, d ≠ .dcf ns := fun ns e => by subst e; exact P.elim
          have P : Pend X.K W Z env1 σ H1 Q (some (.ok (.val (.bl (isT T d))) env1)) := by
            cases d <;> first | exact P | exact absurd rfl (hd _) | exact absurd rfl (hd2 _ _) | exact absurd rfl (hd3 _) | exact absurd rfl (hd4 _) | exact absurd rfl (hd5 _)
          exact ⟨x, .ty T.nm, _, _, _, rfl, .ty _, ty_of hd hd2 hd3 hd4 hd5 t, isT_kit hd hd2 hd3 hd4 hd5, pend_val (d := .bl (isT T d)) A1 rfl P⟩
    obtain ⟨W0, e0, A0, t⟩ := key
    refine ⟨W0, e0, A0, t.mono fun v H1 t => ?_⟩
    obtain ⟨x, e1, t⟩ := t
    cases e1
    exact t
end
/-! ### methods that write a list of one's own -/
section
variable {K : PySem.W.Frag} {W : Fb} {env : Nv} {σ : St} {H H' : Hp} {i : Nat} {b : Bool} {d d' : D} {a : Addr}
theorem nv_self {o : Option Sl} (h : env[i]? = some (some (Sl.own b d))) : (env.set i o)[i]? = some o := by
  have hi : i < env.length := (List.getElem?_eq_some_iff.mp h).1
  rw [List.getElem?_set_self hi]
theorem own_same (h : env[i]? = some (some (Sl.own b d))) {x : Addr} : Own (env.set i (some (Sl.own b d'))) σ x ↔ Own env σ x := by
  constructor
  · rintro ⟨j, c, e, h1, h2⟩
    by_cases hj : i = j
    · subst hj; exact ⟨i, b, d, h, h2⟩
    · rw [List.getElem?_set_ne hj] at h1; exact ⟨j, c, e, h1, h2⟩
  · rintro ⟨j, c, e, h1, h2⟩
    by_cases hj : i = j
    · subst hj; exact ⟨i, b, d', nv_self h, h2⟩
    · exact ⟨j, c, e, by rw [List.getElem?_set_ne hj]; exact h1, h2⟩
/-- what stands at a slot of one's own is written -/
theorem AS.write (A : AS K W env σ H) (h : env[i]? = some (some (Sl.own b d))) (ha : σ[i]? = some (some (V.ref a))) (k : ∀ x o, x ≠ a → H x = some o → H' x = some o) (n : ∀ x, H' x = none → H x = none) (hd : Hold K H' (All W env σ) a d') :
    AS K W (env.set i (some (Sl.own b d'))) σ H' ∧ Stp env σ H (env.set i (some (Sl.own b d'))) σ H' := by
  have al : ∀ x, All W (env.set i (some (Sl.own b d'))) σ x ↔ All W env σ x := fun x => by
    unfold All
    rw [own_same h]
  have oa : Own env σ a := ⟨i, b, d, h, ha⟩
  obtain ⟨a', q1, q2, q3⟩ := A.own i b d h
  rw [ha] at q1; cases q1
  have kp : Kp (fun x => x = a) H H' := ⟨fun x e => by rw [e]; exact q2.mut, fun x o e ne => k x o ne e⟩
  have hM : ∀ x, x = a → All W env σ x := fun x e => by rw [e]; exact .inr oa
  refine ⟨⟨by rw [List.length_set]; exact A.len, fun j e h1 => ?_, fun j c e h1 => ?_, fun j l c c' e e' x h1 h2 h3 h4 => ?_, fun x z => ?_, fun j kvs h1 => ?_, fun j y dd fs h1 => ?_⟩, ⟨fun x o e ne => k x o (fun z => ne (by rw [z]; exact oa)) e, fun x z => .inl ((own_same h).mp z), n⟩⟩
  · have hj : i ≠ j := fun z => by subst z; rw [nv_self h] at h1; cases h1
    rw [List.getElem?_set_ne hj] at h1
    obtain ⟨v, r1, r2⟩ := A.val j e h1
    exact ⟨v, r1, Rep.anti (fun x z => (al x).mp z) (Rep.keep kp hM e v r2)⟩
  · by_cases hj : i = j
    · subst hj
      rw [nv_self h] at h1
      cases h1
      exact ⟨a, ha, hd.anti fun x z => (al x).mp z, q3⟩
    · rw [List.getElem?_set_ne hj] at h1
      obtain ⟨v, r1, r2, r3⟩ := A.own j c e h1
      have nv : v ≠ a := fun z => by
        subst z
        exact hj (A.dis i j _ _ _ _ v h h1 ha r1)
      refine ⟨v, r1, (r2.keep kp hM ?_).anti fun x z => (al x).mp z, r3⟩
      have mm := r2.mut
      cases q : H v with
      | none => rw [q] at mm; exact mm.elim
      | some o => exact k v o nv q
  · have h1' : ∃ e2, env[j]? = some (some (Sl.own c e2)) := by
      by_cases hj : i = j
      · subst hj; rw [nv_self h] at h1; cases h1; exact ⟨d, h⟩
      · rw [List.getElem?_set_ne hj] at h1; exact ⟨e, h1⟩
    have h2' : ∃ e2, env[l]? = some (some (Sl.own c' e2)) := by
      by_cases hj : i = l
      · subst hj; rw [nv_self h] at h2; cases h2; exact ⟨d, h⟩
      · rw [List.getElem?_set_ne hj] at h2; exact ⟨e', h2⟩
    obtain ⟨_, g1⟩ := h1'
    obtain ⟨_, g2⟩ := h2'
    exact A.dis j l _ _ _ _ x g1 g2 h3 h4
  · by_cases e : x = a
    · rw [e]; exact hd.mut
    · have mm := A.trk x z
      cases q : H x with
      | none => rw [q] at mm; exact mm.elim
      | some o => rw [k x o e q, ← q]; exact mm
  · have hj : i ≠ j := fun z => by subst z; rw [nv_self h] at h1; cases h1
    rw [List.getElem?_set_ne hj] at h1
    obtain ⟨a2, o2, kxs, g1, g2, g3, g4⟩ := A.lck j kvs h1
    have n2 : a2 ≠ a := fun z => by
      have mm := q2.mut
      rw [← z, g2] at mm
      exact mm
    exact ⟨a2, o2, kxs, g1, k _ _ n2 g2, g3, RepK.anti (fun x z => (al x).mp z) (RepK.keep kp hM kvs kxs g4)⟩
  · have hj : i ≠ j := fun z => by subst z; rw [nv_self h] at h1; cases h1
    rw [List.getElem?_set_ne hj] at h1
    obtain ⟨g1, g2⟩ := A.exn j y dd fs h1
    refine ⟨g1, g2.keep fun u hu => k _ _ (fun z => ?_) hu⟩
    rw [z] at hu
    cases d with
    | lst ds => obtain ⟨xs, e, _⟩ := q2; rw [hu] at e; cases e
    | dct ds => obtain ⟨xs, e, _⟩ := q2; rw [hu] at e; cases e
    | dci ds => have e := q2.1; rw [hu] at e; cases e
    | _ => exact q2.elim
end
end DL

set_option Elab.async false
set_option linter.all false
set_option maxRecDepth 100000
namespace DL
open PySem PySem.Spec PyProof.Rows L2

/-! ### xs.append(e), xs.pop(), xs.pop(i): xs a slot of one's own -/
def wrA (i : Nat) (d : D) (env : Nv) : Option Out := match env[i]? with
  | some (some (.own b (.lst ds))) => if ds.length < sizeLine then some (.ok (.val .non) (env.set i (some (.own b (.lst (ds ++ [d])))))) else none
  | _ => none
def appO (i : Nat) (f : F) : F := fun env => match env[i]? with
  | some (some (.own _ (.lst _))) => bnd (f env) fun r env1 => match kp (hold r) env1 with
    | some (d, env2) => wrA i d env2
    | none => none
  | _ => none
def wrP (i : Nat) (k : Int) (env : Nv) : Option Out := match env[i]? with
  | some (some (.own b (.lst ds))) => if decide (-(2 ^ 63) ≤ k) && decide (k < 2 ^ 63) then match seqIndex? k ds.length with
    | some j => match ds[j]? with
      | some d => some (.ok (.val d) (env.set i (some (.own b (.lst (ds.eraseIdx j))))))
      | none => none
    | none => none
    else none
  | _ => none
def popAtO (i : Nat) (f : F) : F := fun env => match env[i]? with
  | some (some (.own _ (.lst _))) => bnd (f env) fun r env1 => match asI (hold r) with
    | some k => wrP i k env1
    | none => none
  | _ => none
def popO (i : Nat) : F := fun env => match env[i]? with
  | some (some (.own b (.lst ds))) => match ds[ds.length - 1]? with
    | some d => some (.ok (.val d) (env.set i (some (.own b (.lst ds.dropLast)))))
    | none => none
  | _ => none
section
variable {X : Cx} {Z : Wsh} {o e : Expr} {f : F} {i : Nat} {apos cpos : Pos}
theorem own_at {K : PySem.W.Frag} {env : Nv} {σ : St} {H : Hp} {b : Bool} {ds : List D} (A : AS K W env σ H) (h : env[i]? = some (some (Sl.own b (.lst ds)))) : ∃ a xs, σ[i]? = some (some (V.ref a)) ∧ H a = some (.lst xs) ∧ ds.length ≤ sizeLine ∧ Reps K H (All W env σ) ds xs := by
  obtain ⟨a, h1, ⟨xs, h2, h3, h4⟩, _⟩ := A.own i b _ h
  exact ⟨a, xs, h1, h2, h3, h4⟩
theorem upd_keep {H : Hp} {a : Addr} {u v : HO} (h : H a = some u) : (∀ x o, x ≠ a → H x = some o → upd H a v x = some o) ∧ ∀ x, upd H a v x = none → H x = none := by
  refine ⟨fun x o n e => by rw [upd_ne n]; exact e, fun x e => ?_⟩
  by_cases q : x = a
  · subst q; rw [upd_same] at e; cases e
  · rw [upd_ne q] at e; exact e
theorem reps_upd {K : PySem.W.Frag} {env : Nv} {σ : St} {H : Hp} {a : Addr} {o : HO} {ds : List D} {xs : List V} (A : AS K W env σ H) {b : Bool} {d : D} (h : env[i]? = some (some (Sl.own b d))) (ha : σ[i]? = some (some (V.ref a))) (r : Reps K H (All W env σ) ds xs) : Reps K (upd H a o) (All W env σ) ds xs := by
  obtain ⟨a', q1, q2, q3⟩ := A.own i b d h
  rw [ha] at q1; cases q1
  refine Reps.keep (M := fun x => x = a) ⟨fun x e => by rw [e]; exact q2.mut, fun x o e n => by rw [upd_ne n]; exact e⟩ (fun x e => by rw [e]; exact .inr ⟨i, b, d, h, ha⟩) ds xs r
theorem de_append (p : PE X o (tVar i)) (he : DE X Z e f) (hbase : attributeBase o "append" X.env (eval o X.env) = eval o X.env := by rfl)
    (hfew : ((backTo cpos (starEach (e :: []) X.env)).all (fun x => !x.1) && (backToKw cpos (keywordEach [] X.env)).all (fun x => x.1.isSome)
      && decide ((e :: []).length + ([] : List Keyword).length + (if ([] : List Keyword).isEmpty then 0 else 1) < 30)) = true := by rfl)
    (hline : (apos.endLine == cpos.line) = true := by rfl) (hs : starEach (e :: []) X.env = (false, eval e X.env) :: starEach [] X.env := by rfl) (hplain : (backTo cpos (starEach [] X.env)).any (·.1) = false := by rfl) :
    DE X Z (.Call (.Attribute o "append" apos) [e] [] cpos) (appO i f) :=
  PEimp (pe_bm PySem.F.plainAttrs_list PySem.F.slot_list_append PySem.F.type_list_append mt_append p (pa_cons he pa_nil hs) hbase hfew hline hs hplain) fun σ H Q q => by
    obtain ⟨W, env, A, q⟩ := q
    unfold appO at q
    split at q
    · rename_i b ds h
      obtain ⟨a, xs, h1, h2, h3, h4⟩ := own_at A h
      refine ⟨.ref a, h1, .inl ⟨rfl, xs, .of h2⟩, ?_⟩
      refine tE_mono (fun v H1 t => ?_) (stepE A q)
      obtain ⟨r, env1, s1, A1, l1, P⟩ := t
      cases z : kp (hold r) env1 with
      | none => rw [z] at P; exact P.elim
      | some pr =>
        obtain ⟨d, env2⟩ := pr
        rw [z] at P
        obtain ⟨A2, r2, s2⟩ := kp_ok A1 l1 z
        have P : Pend X.K W Z env1 σ H1 Q (wrA i d env2) := P
        have P := P.shift s2
        unfold wrA at P
        split at P
        · rename_i b' ds' h'
          by_cases c : ds'.length < sizeLine
          · simp only [if_pos c] at P
            obtain ⟨a', xs', g1, g2, g3, g4⟩ := own_at A2 h'
            rw [h1] at g1; cases g1
            have hl := g4.length
            refine ⟨a, xs', v, rfl, rfl, g2, by omega, ?_⟩
            obtain ⟨k1, k2⟩ := upd_keep (v := .lst (xs' ++ [v])) g2
            have new : Reps X.K (upd H1 a (.lst (xs' ++ [v]))) (All W env2 σ) (ds' ++ [d]) (xs' ++ [v]) := reps_upd A2 h' h1 (g4.append ⟨v, [], rfl, r2, rfl⟩)
            obtain ⟨A3, s3⟩ := A2.write (d' := .lst (ds' ++ [d])) h' h1 k1 k2 ⟨_, upd_same, by rw [List.length_append]; exact c, new⟩
            exact P _ _ s3 ⟨A3, rfl⟩
          · simp only [if_neg c] at P; exact P.elim
        · exact P.elim
    · exact q.elim
theorem len_erase' {α : Type} : ∀ (l : List α) (i : Nat), (l.eraseIdx i).length ≤ l.length := L2.len_erase
theorem de_popAt (p : PE X o (tVar i)) (he : DE X Z e f) (hbase : attributeBase o "pop" X.env (eval o X.env) = eval o X.env := by rfl)
    (hfew : ((backTo cpos (starEach (e :: []) X.env)).all (fun x => !x.1) && (backToKw cpos (keywordEach [] X.env)).all (fun x => x.1.isSome)
      && decide ((e :: []).length + ([] : List Keyword).length + (if ([] : List Keyword).isEmpty then 0 else 1) < 30)) = true := by rfl)
    (hline : (apos.endLine == cpos.line) = true := by rfl) (hs : starEach (e :: []) X.env = (false, eval e X.env) :: starEach [] X.env := by rfl) (hplain : (backTo cpos (starEach [] X.env)).any (·.1) = false := by rfl) :
    DE X Z (.Call (.Attribute o "pop" apos) [e] [] cpos) (popAtO i f) :=
  PEimp (pe_bm PySem.F.plainAttrs_list PySem.F.slot_list_pop PySem.F.type_list_pop mt_popAt p (pa_cons he pa_nil hs) hbase hfew hline hs hplain) fun σ H Q q => by
    obtain ⟨W, env, A, q⟩ := q
    unfold popAtO at q
    split at q
    · rename_i b ds h
      obtain ⟨a, xs, h1, h2, h3, h4⟩ := own_at A h
      refine ⟨.ref a, h1, .inl ⟨rfl, xs, .of h2⟩, ?_⟩
      refine tE_mono (fun v H1 t => ?_) (stepE A q)
      obtain ⟨r, env1, s1, A1, l1, P⟩ := t
      cases z : asI (hold r) with
      | none => rw [z] at P; exact P.elim
      | some k =>
        rw [z] at P
        have e1 : v = .int k := asI_ok z l1
        subst e1
        have P : Pend X.K W Z env1 σ H1 Q (wrP i k env1) := P
        unfold wrP at P
        split at P
        · rename_i b' ds' h'
          by_cases c : (decide (-(2 ^ 63) ≤ k) && decide (k < 2 ^ 63)) = true
          · simp only [if_pos c] at P
            obtain ⟨c1, c2⟩ := Bool.and_eq_true_iff.mp c
            obtain ⟨a', xs', g1, g2, g3, g4⟩ := own_at A1 h'
            rw [h1] at g1; cases g1
            cases z1 : seqIndex? k ds'.length with
            | none => simp only [z1] at P; exact P.elim
            | some j =>
              simp only [z1] at P
              cases z2 : ds'[j]? with
              | none => simp only [z2] at P; exact P.elim
              | some d =>
                simp only [z2] at P
                obtain ⟨y, y1, y2⟩ := g4.get z2
                refine ⟨a, xs', k, j, y, rfl, rfl, g2, of_decide_eq_true c1, of_decide_eq_true c2, by rw [← g4.length]; exact z1, y1, ?_⟩
                obtain ⟨k1, k2⟩ := upd_keep (v := .lst (xs'.eraseIdx j)) g2
                have new : Reps X.K (upd H1 a (.lst (xs'.eraseIdx j))) (All W env1 σ) (ds'.eraseIdx j) (xs'.eraseIdx j) := reps_upd A1 h' h1 (g4.erase j)
                obtain ⟨A3, s3⟩ := A1.write (d' := .lst (ds'.eraseIdx j)) h' h1 k1 k2 ⟨_, upd_same, Nat.le_trans (len_erase' _ _) g3, new⟩
                exact P _ _ s3 ⟨A3, RL.keep (r := .val d) A1 s3 y2⟩
          · simp only [if_neg c] at P; exact P.elim
        · exact P.elim
    · exact q.elim
end
end DL

set_option Elab.async false
set_option linter.all false
set_option maxRecDepth 100000
namespace DL
open PySem PySem.Spec PyProof.Rows L2

/-! ### tests -/
def PendT (K : PySem.W.Frag) (W : Fb) (Z : Wsh) (env : Nv) (σ : St) (H : Hp) (Q : Bool → Hp → Prop) : Option Out → Prop
  | some (.ok (.val (.bl b)) env') => ∀ H', Stp env σ H env' σ H' → AS K W env' σ H' → Q b H'
  | some (.exc x env') => ∀ cls d H', Stp env σ H env' σ H' → AS K W env' σ H' → XOk Z.CA x cls d H' → Z.wx cls d σ H'
  | _ => False
def tT (K : PySem.W.Frag) (Z : Wsh) (f : F) : TT := fun σ H Q => ∃ W env, AS K W env σ H ∧ PendT K W Z env σ H Q (f env)
abbrev DT (X : Cx) (Z : Wsh) (e : Expr) (f : F) : Prop := PT X e (tT X.K Z f)
abbrev DW (X : Cx) (Z : Wsh) (e : Expr) (f : F) : Prop := PW X e (tT X.K Z f)
section
variable {K : PySem.W.Frag} {W : Fb} {Z : Wsh} {env env' : Nv} {σ σ' : St} {H H' : Hp} {o : Option Out}
theorem PendT.mono {Q Q' : Bool → Hp → Prop} (hq : ∀ b H, Q b H → Q' b H) (h : PendT K W Z env σ H Q o) : PendT K W Z env σ H Q' o := by
  match o, h with
  | some (.ok (.val (.bl b)) e), h => exact fun H' s A => hq _ _ (h H' s A)
  | some (.exc x e), h => exact h
/-- as the test of what it is a value of -/
theorem PendT.pend {Q : Bool → Hp → Prop} (h : PendT K W Z env σ H Q o) : Pend K W Z env σ H (fun x H1 => ∃ c, x = .bl c ∧ Q c H1) o := by
  match o, h with
  | some (.ok (.val (.bl b)) e), h => exact fun v H' s r => ⟨b, r.2, h H' s r.1⟩
  | some (.exc x e), h => exact h
theorem PendT.shift {Q : Bool → Hp → Prop} (s : Stp env σ H env' σ H') (h : PendT K W Z env σ H Q o) : PendT K W Z env' σ H' Q o := by
  match o, h with
  | some (.ok (.val (.bl b)) e2), h => exact fun H2 s2 A2 => h H2 (s.trans s2) A2
  | some (.exc x e2), h => exact fun cls d H2 s2 A2 x2 => h cls d H2 (s.trans s2) A2 x2
def bndB (o : Option Out) (k : Bool → Nv → Option Out) : Option Out := match o with
  | some (.ok (.val (.bl b)) env) => k b env
  | some (.exc x env) => some (.exc x env)
  | _ => none
/-- a test, then by its answer -/
theorem stepT {f : F} {k : Bool → Nv → Option Out} {P : Option Out → Prop} (A : AS K W env σ H) (h : P (bndB (f env) k))
    (hx : ∀ x e, P (some (.exc x e)) → ∀ cls d H', Stp env σ H e σ H' → AS K W e σ H' → XOk Z.CA x cls d H' → Z.wx cls d σ H') (hn : ¬ P none) :
    tT K Z f σ H (fun b H1 => ∃ env1, Stp env σ H env1 σ H1 ∧ AS K W env1 σ H1 ∧ P (k b env1)) := by
  refine ⟨W, env, A, ?_⟩
  revert h
  generalize f env = o
  intro h
  match o, h with
  | some (.ok (.val (.bl b)) e), h => exact fun H' s A' => ⟨e, s, A', h⟩
  | some (.exc x e), h => exact hx x e h
  | none, h => exact hn h
  | some (.ok (.val .non) _), h => exact hn h
  | some (.ok (.val (.int _)) _), h => exact hn h
  | some (.ok (.val (.str _)) _), h => exact hn h
  | some (.ok (.val (.tup _)) _), h => exact hn h
  | some (.ok (.val (.lst _)) _), h => exact hn h
  | some (.ok (.val (.dct _)) _), h => exact hn h
  | some (.ok (.val (.scr _)) _), h => exact hn h
  | some (.ok (.val (.rng _ _)) _), h => exact hn h
  | some (.ok (.val (.stt _)) _), h => exact hn h
  | some (.ok (.val (.dci _)) _), h => exact hn h
  | some (.ok (.val (.dcf _)) _), h => exact hn h
  | some (.ok (.slot _) _), h => exact hn h
  | some (.ok (.frs _) _), h => exact hn h
theorem tT_mono {f : F} {Q Q' : Bool → Hp → Prop} (hq : ∀ b H, Q b H → Q' b H) (h : tT K Z f σ H Q) : tT K Z f σ H Q' := by
  obtain ⟨W, env, A, q⟩ := h
  exact ⟨W, env, A, q.mono hq⟩
theorem stepTE {f : F} {k : Bool → Nv → Option Out} {Q : VK} (A : AS K W env σ H) (h : Pend K W Z env σ H Q (bndB (f env) k)) :
    tT K Z f σ H (fun b H1 => ∃ env1, Stp env σ H env1 σ H1 ∧ AS K W env1 σ H1 ∧ Pend K W Z env1 σ H1 Q (k b env1)) := by
  refine tT_mono (fun b H1 t => ?_) (stepT (P := fun o => Pend K W Z env σ H Q o) A h (fun x e h => h) id)
  obtain ⟨env1, s1, A1, p⟩ := t
  exact ⟨env1, s1, A1, Pend.shift s1 p⟩
theorem stepTT {f : F} {k : Bool → Nv → Option Out} {Q : Bool → Hp → Prop} (A : AS K W env σ H) (h : PendT K W Z env σ H Q (bndB (f env) k)) :
    tT K Z f σ H (fun b H1 => ∃ env1, Stp env σ H env1 σ H1 ∧ AS K W env1 σ H1 ∧ PendT K W Z env1 σ H1 Q (k b env1)) := by
  refine tT_mono (fun b H1 t => ?_) (stepT (P := fun o => PendT K W Z env σ H Q o) A h (fun x e h => h) id)
  obtain ⟨env1, s1, A1, p⟩ := t
  exact ⟨env1, s1, A1, PendT.shift s1 p⟩
end
def rB (b : Bool) (env : Nv) : Option Out := some (.ok (.val (.bl b)) env)
def andF (f g : F) : F := fun env => bndB (f env) fun b env => if b then g env else rB false env
def orF (f g : F) : F := fun env => bndB (f env) fun b env => if b then rB true env else g env
def notF (f : F) : F := fun env => bndB (f env) fun b env => rB (!b) env
def ifF (c f g : F) : F := fun env => bndB (c env) fun b env => if b then f env else g env
section
variable {X : Cx} {Z : Wsh} {e e2 e3 : Expr} {f g h : F} {pos : Pos} {rest : List Expr}
/-- a value that is a truth value, as a test -/
theorem dt_val (he : DE X Z e f) (hp : ∀ whole, isTrue e X.env whole = (do let v ← whole; standAt e.pos; holding [v] (truthy v)) := by intro _; rfl) : DT X Z e f :=
  PTimp (pt_val he hp) fun σ H Q q => by
    obtain ⟨W, env, A, q⟩ := q
    exact ⟨W, env, A, q.pend⟩
theorem dt_cmp {op : CmpOp} {r : R2} {o : O2} (hr : OpR X (compareOp op) r) (ho : OpD X.K r o) (ha : DE X Z e f) (hb : DE X Z e2 g) (hm : behindInMarks op e2 = false := by first | exact nobehind _ (by decide) (by decide) | rfl) : DT X Z (.Compare e [op] [e2] pos) (ap2 f g o) :=
  PTimp (pt_cmpR hr ha hb hm) fun σ H Q q => by
    obtain ⟨W, env, A, q⟩ := q
    exact ap2_ok ho ⟨W, env, A, q.pend⟩
theorem dt_not (h : DT X Z e f) : DT X Z (.UnaryOp .Not e pos) (notF f) := PTimp (pt_not h) fun σ H Q q => by
  obtain ⟨W, env, A, q⟩ := q
  refine tT_mono (fun b H1 t => ?_) (stepTT A q)
  obtain ⟨env1, s1, A1, p⟩ := t
  exact p H1 .refl A1
theorem dw_and1 (h : DT X Z e f) : DW X Z (.BoolOp .And [e] pos) f := pw_and1 h
theorem dw_or1 (h : DT X Z e f) : DW X Z (.BoolOp .Or [e] pos) f := pw_or1 h
theorem dw_and (ha : DT X Z e f) (hb : DW X Z (.BoolOp .And (e2 :: rest) pos) g) : DW X Z (.BoolOp .And (e :: e2 :: rest) pos) (andF f g) := PWimp (pw_and ha hb) fun σ H Q q => by
  obtain ⟨W, env, A, q⟩ := q
  refine tT_mono (fun b H1 t => ?_) (stepTT A q)
  obtain ⟨env1, s1, A1, p⟩ := t
  cases b with
  | true => exact iteT ⟨W, env1, A1, p⟩
  | false => exact iteF (p H1 .refl A1)
theorem dw_or (ha : DT X Z e f) (hb : DW X Z (.BoolOp .Or (e2 :: rest) pos) g) : DW X Z (.BoolOp .Or (e :: e2 :: rest) pos) (orF f g) := PWimp (pw_or ha hb) fun σ H Q q => by
  obtain ⟨W, env, A, q⟩ := q
  refine tT_mono (fun b H1 t => ?_) (stepTT A q)
  obtain ⟨env1, s1, A1, p⟩ := t
  cases b with
  | true => exact iteT (p H1 .refl A1)
  | false => exact iteF ⟨W, env1, A1, p⟩
theorem DW.dt (h : DW X Z e f) : DT X Z e f := h.pt
/-! ### and, or, not, if as values -/
theorem pend_bndB {K : PySem.W.Frag} {f : F} {k : Bool → Nv → Option Out} {σ : St} {H : Hp} {Q : VK} {W : Fb} {env : Nv} (A : AS K W env σ H) (h : Pend K W Z env σ H Q (bndB (f env) k)) :
    tE K Z f σ H (fun x H1 => ∃ b env1, x = .bl b ∧ Stp env σ H env1 σ H1 ∧ AS K W env1 σ H1 ∧ Pend K W Z env1 σ H1 Q (k b env1)) := by
  obtain ⟨W', env', A', q⟩ := stepTE A h
  refine ⟨W', env', A', q.pend.mono fun v H1 t => ?_⟩
  obtain ⟨c, e, env1, s, A1, p⟩ := t
  exact ⟨c, env1, e, s, A1, p⟩
theorem de_one {op} (h : DE X Z e f) : DE X Z (.BoolOp op [e] pos) f := pe_one h
theorem de_and (ha : DE X Z e f) (hb : DE X Z (.BoolOp .And (e2 :: rest) pos) g) : DE X Z (.BoolOp .And (e :: e2 :: rest) pos) (andF f g) := PEimp (pe_and ha hb) fun σ H Q q => by
  obtain ⟨W, env, A, q⟩ := q
  refine tE_mono (fun x H1 t => ?_) (pend_bndB A q)
  obtain ⟨b, env1, e1, s1, A1, p⟩ := t
  refine ⟨b, e1, ?_⟩
  cases b with
  | true => exact iteT ⟨W, env1, A1, p⟩
  | false => exact iteF (pend_val (d := .bl false) A1 rfl p)
theorem de_or (ha : DE X Z e f) (hb : DE X Z (.BoolOp .Or (e2 :: rest) pos) g) : DE X Z (.BoolOp .Or (e :: e2 :: rest) pos) (orF f g) := PEimp (pe_or ha hb) fun σ H Q q => by
  obtain ⟨W, env, A, q⟩ := q
  refine tE_mono (fun x H1 t => ?_) (pend_bndB A q)
  obtain ⟨b, env1, e1, s1, A1, p⟩ := t
  refine ⟨b, e1, ?_⟩
  cases b with
  | true => exact iteT (pend_val (d := .bl true) A1 rfl p)
  | false => exact iteF ⟨W, env1, A1, p⟩
theorem de_not (ha : DE X Z e f) : DE X Z (.UnaryOp .Not e pos) (notF f) := PEimp (pe_not ha) fun σ H Q q => by
  obtain ⟨W, env, A, q⟩ := q
  refine tE_mono (fun x H1 t => ?_) (pend_bndB A q)
  obtain ⟨b, env1, e1, s1, A1, p⟩ := t
  exact ⟨b, e1, pend_val (d := .bl (!b)) A1 rfl p⟩
theorem de_if (hc : DT X Z e f) (ha : DE X Z e2 g) (hb : DE X Z e3 h) : DE X Z (.IfExp e e2 e3 pos) (ifF f g h) := PEimp (pe_ifExp hc ha hb) fun σ H Q q => by
  obtain ⟨W, env, A, q⟩ := q
  refine tT_mono (fun b H1 t => ?_) (stepTE A q)
  obtain ⟨env1, s1, A1, p⟩ := t
  cases b with
  | true => exact iteT ⟨W, env1, A1, p⟩
  | false => exact iteF ⟨W, env1, A1, p⟩
end
/-! ### statements -/
inductive SO where
  | nx (env : Nv) | rt (r : R) (env : Nv) | bk (env : Nv) | ct (env : Nv) | exc (x : Ex) (env : Nv)
abbrev G := Nv → Option SO
def PendS (K : PySem.W.Frag) (W : Fb) (Z : Wsh) (env : Nv) (σ : St) (H : Hp) (E : Ends) : Option SO → Prop
  | some (.nx env') => ∀ σ' H', Stp env σ H env' σ' H' → AS K W env' σ' H' → E.nx σ' H'
  | some (.bk env') => ∀ σ' H', Stp env σ H env' σ' H' → AS K W env' σ' H' → E.bk σ' H'
  | some (.ct env') => ∀ σ' H', Stp env σ H env' σ' H' → AS K W env' σ' H' → E.ct σ' H'
  | some (.rt r env') => ∀ v σ' H', Stp env σ H env' σ' H' → Res K W H env' σ' H' r v → E.rt v H'
  | some (.exc x env') => ∀ cls d σ' H', Stp env σ H env' σ' H' → AS K W env' σ' H' → XOk Z.CA x cls d H' → Z.wx cls d σ' H'
  | none => False
def tS (K : PySem.W.Frag) (Z : Wsh) (g : G) : TS := fun E σ H => ∃ W env, AS K W env σ H ∧ PendS K W Z env σ H E (g env)
abbrev DS (X : Cx) (Z : Wsh) (st : Stmt) (g : G) : Prop := PS X st (tS X.K Z g)
abbrev DSs (X : Cx) (Z : Wsh) (st : List Stmt) (g : G) : Prop := PSs X st (tS X.K Z g)
section
variable {K : PySem.W.Frag} {W : Fb} {Z : Wsh} {env env' : Nv} {σ σ' : St} {H H' : Hp} {o : Option SO} {E : Ends}
theorem Res.shift2 {H0 : Hp} {r : R} {v : V} (hn : ∀ a, H a = none → H0 a = none) (h : Res K W H env' σ' H' r v) : Res K W H0 env' σ' H' r v := h.shift hn
theorem PendS.shift (s : Stp env σ H env' σ' H') (h : PendS K W Z env σ H E o) : PendS K W Z env' σ' H' E o := by
  match o, h with
  | some (.nx e2), h => exact fun σ2 H2 s2 A2 => h σ2 H2 (s.trans s2) A2
  | some (.bk e2), h => exact fun σ2 H2 s2 A2 => h σ2 H2 (s.trans s2) A2
  | some (.ct e2), h => exact fun σ2 H2 s2 A2 => h σ2 H2 (s.trans s2) A2
  | some (.rt r e2), h => exact fun v σ2 H2 s2 r2 => h v σ2 H2 (s.trans s2) (r2.shift s.there)
  | some (.exc x e2), h => exact fun cls d σ2 H2 s2 A2 x2 => h cls d σ2 H2 (s.trans s2) A2 x2
def bndS (o : Option Out) (k : R → Nv → Option SO) : Option SO := match o with
  | some (.ok r env) => k r env
  | some (.exc x env) => some (.exc x env)
  | none => none
/-- an expression within a statement; the result as it is -/
theorem stepS {f : F} {k : R → Nv → Option SO} (A : AS K W env σ H) (h : PendS K W Z env σ H E (bndS (f env) k)) :
    tE K Z f σ H (fun v H1 => ∃ r env1, Stp env σ H env1 σ H1 ∧ Res K W H env1 σ H1 r v ∧ PendS K W Z env σ H E (k r env1)) := by
  refine ⟨W, env, A, ?_⟩
  revert h
  generalize f env = o
  intro h
  match o, h with
  | some (.ok r e), h => exact fun v H1 s r1 => ⟨r, e, s, r1, h⟩
  | some (.exc x e), h => exact fun cls d H1 s A1 x1 => h cls d σ H1 s A1 x1
def bndBS (o : Option Out) (k : Bool → Nv → Option SO) : Option SO := match o with
  | some (.ok (.val (.bl b)) env) => k b env
  | some (.exc x env) => some (.exc x env)
  | _ => none
theorem stepTS {f : F} {k : Bool → Nv → Option SO} (A : AS K W env σ H) (h : PendS K W Z env σ H E (bndBS (f env) k)) :
    tT K Z f σ H (fun b H1 => ∃ env1, Stp env σ H env1 σ H1 ∧ AS K W env1 σ H1 ∧ PendS K W Z env σ H E (k b env1)) := by
  refine ⟨W, env, A, ?_⟩
  revert h
  generalize f env = o
  intro h
  match o, h with
  | some (.ok (.val (.bl b)) e), h => exact fun H' s A' => ⟨e, s, A', h⟩
  | some (.exc x e), h => exact fun cls d H1 s A1 x1 => h cls d σ H1 s A1 x1
  | none, h => exact h.elim
  | some (.ok (.val .non) _), h => exact h.elim
  | some (.ok (.val (.int _)) _), h => exact h.elim
  | some (.ok (.val (.str _)) _), h => exact h.elim
  | some (.ok (.val (.tup _)) _), h => exact h.elim
  | some (.ok (.val (.lst _)) _), h => exact h.elim
  | some (.ok (.val (.dct _)) _), h => exact h.elim
  | some (.ok (.val (.scr _)) _), h => exact h.elim
  | some (.ok (.val (.rng _ _)) _), h => exact h.elim
  | some (.ok (.slot _) _), h => exact h.elim
  | some (.ok (.frs _) _), h => exact h.elim
/-! a slot is stored -/
theorem set_get {α : Type} {l : List α} {i j : Nat} {x y : α} (h : (l.set i x)[j]? = some y) : (i = j ∧ y = x ∧ i < l.length) ∨ (i ≠ j ∧ l[j]? = some y) := by
  by_cases hj : i = j
  · subst hj
    by_cases hl : i < l.length
    · rw [List.getElem?_set_self hl] at h; cases h; exact .inl ⟨rfl, rfl, hl⟩
    · rw [List.getElem?_eq_none (by simpa using hl)] at h; cases h
  · rw [List.getElem?_set_ne hj] at h; exact .inr ⟨hj, h⟩
theorem own_store {i : Nat} {d : D} {v : V} {a : Addr} (z : Own (env.set i (some (.val d))) (σ.set i (some v)) a) : Own env σ a := by
  obtain ⟨j, b, e, h1, h2⟩ := z
  rcases set_get h1 with ⟨_, h, _⟩ | ⟨hj, h1⟩
  · cases h
  · rw [List.getElem?_set_ne hj] at h2
    exact ⟨j, b, e, h1, h2⟩
theorem AS.store {i : Nat} {d : D} {v : V} (A : AS K W env σ H) (r : Rep K H (All W env σ) d v) : AS K W (env.set i (some (.val d))) (σ.set i (some v)) H ∧ Stp env σ H (env.set i (some (.val d))) (σ.set i (some v)) H := by
  have al : ∀ a, All W (env.set i (some (.val d))) (σ.set i (some v)) a → All W env σ a := fun a z => z.imp id own_store
  refine ⟨⟨by rw [List.length_set, List.length_set]; exact A.len, fun j e h1 => ?_, fun j c e h1 => ?_, fun j k b c d' e' a h1 h2 h3 h4 => ?_, A.trk, fun j kvs h1 => ?_, fun j y dd fs h1 => ?_⟩, ⟨fun _ _ h _ => h, fun a z => .inl (own_store z), fun _ h => h⟩⟩
  · rcases set_get h1 with ⟨hj, h, hl⟩ | ⟨hj, h1⟩
    · subst hj
      cases h
      exact ⟨v, by rw [List.getElem?_set_self (by rw [← A.len]; exact hl)], r.anti al⟩
    · obtain ⟨u, g1, g2⟩ := A.val j e h1
      exact ⟨u, by rw [List.getElem?_set_ne hj]; exact g1, g2.anti al⟩
  · rcases set_get h1 with ⟨hj, h, hl⟩ | ⟨hj, h1⟩
    · cases h
    · obtain ⟨u, g1, g2, g3⟩ := A.own j c e h1
      exact ⟨u, by rw [List.getElem?_set_ne hj]; exact g1, g2.anti al, g3⟩
  · rcases set_get h1 with ⟨_, h, _⟩ | ⟨hj, h1⟩
    · cases h
    · rcases set_get h2 with ⟨_, h, _⟩ | ⟨hk, h2⟩
      · cases h
      · rw [List.getElem?_set_ne hj] at h3
        rw [List.getElem?_set_ne hk] at h4
        exact A.dis j k _ _ _ _ a h1 h2 h3 h4
  · rcases set_get h1 with ⟨_, h, _⟩ | ⟨hj, h1⟩
    · cases h
    · obtain ⟨a2, o2, kxs, g1, g2, g3, g4⟩ := A.lck j kvs h1
      exact ⟨a2, o2, kxs, by rw [List.getElem?_set_ne hj]; exact g1, g2, g3, g4.anti al⟩
  · rcases set_get h1 with ⟨_, h, _⟩ | ⟨hj, h1⟩
    · cases h
    · rw [List.getElem?_set_ne hj]; exact A.exn j y dd fs h1
theorem AS.storeF {i : Nat} {d : D} {a : Addr} {H0 : Hp} {env0 : Nv} (s : Stp env0 σ H0 env σ H) (h0 : H0 a = none) (nW : ¬ W a) (nO : ¬ Own env σ a) (A : AS K (Plus W a) env σ H) (r : Hold K H (All (Plus W a) env σ) a d) :
    AS K W (env.set i (some (.own false d))) (σ.set i (some (.ref a))) H ∧ Stp env0 σ H0 (env.set i (some (.own false d))) (σ.set i (some (.ref a))) H := by
  have ow : ∀ x, Own (env.set i (some (.own false d))) (σ.set i (some (.ref a))) x → Own env σ x ∨ x = a := fun x z => by
    obtain ⟨j, b, e, h1, h2⟩ := z
    rcases set_get h1 with ⟨hj, h, hl⟩ | ⟨hj, h1⟩
    · subst hj
      rw [List.getElem?_set_self (by rw [← A.len]; exact hl)] at h2
      cases h2
      exact .inr rfl
    · rw [List.getElem?_set_ne hj] at h2
      exact .inl ⟨j, b, e, h1, h2⟩
  have al : ∀ x, All W (env.set i (some (.own false d))) (σ.set i (some (.ref a))) x → All (Plus W a) env σ x := fun x z => by
    rcases z with z | z
    · exact .inl (.inl z)
    · exact (ow x z).elim .inr fun e => .inl (.inr e)
  refine ⟨⟨by rw [List.length_set, List.length_set]; exact A.len, fun j e h1 => ?_, fun j c e h1 => ?_, fun j k b c d' e' x h1 h2 h3 h4 => ?_, fun x z => A.trk x (.inl z), fun j kvs h1 => ?_, fun j y dd fs h1 => ?_⟩, ⟨s.keep, fun x z => ?_, s.there⟩⟩
  · rcases set_get h1 with ⟨hj, h, hl⟩ | ⟨hj, h1⟩
    · cases h
    · obtain ⟨u, g1, g2⟩ := A.val j e h1
      exact ⟨u, by rw [List.getElem?_set_ne hj]; exact g1, g2.anti al⟩
  · rcases set_get h1 with ⟨hj, h, hl⟩ | ⟨hj, h1⟩
    · subst hj
      cases h
      exact ⟨a, by rw [List.getElem?_set_self (by rw [← A.len]; exact hl)], r.anti al, ⟨fun z => by simp at z, fun z => absurd z nW⟩⟩
    · obtain ⟨u, g1, g2, g3⟩ := A.own j c e h1
      have hu : u ≠ a := fun z => nO (z ▸ ⟨j, c, e, h1, g1⟩)
      exact ⟨u, by rw [List.getElem?_set_ne hj]; exact g1, g2.anti al, fun z => (g3.mp z).elim id fun q => absurd q hu, fun z => g3.mpr (.inl z)⟩
  · have nota : ∀ {j : Nat} {b : Bool} {e : D}, env[j]? = some (some (Sl.own b e)) → σ[j]? = some (some (V.ref a)) → False := fun h1 h2 => nO ⟨_, _, _, h1, h2⟩
    rcases set_get h1 with ⟨hj, h, hl⟩ | ⟨hj, h1⟩
    · subst hj
      rw [List.getElem?_set_self (by rw [← A.len]; exact hl)] at h3
      cases h3
      rcases set_get h2 with ⟨hk, _, _⟩ | ⟨hk, h2⟩
      · exact hk
      · rw [List.getElem?_set_ne hk] at h4
        exact (nota h2 h4).elim
    · rw [List.getElem?_set_ne hj] at h3
      rcases set_get h2 with ⟨hk, _, hl⟩ | ⟨hk, h2⟩
      · subst hk
        rw [List.getElem?_set_self (by rw [← A.len]; exact hl)] at h4
        cases h4
        exact (nota h1 h3).elim
      · rw [List.getElem?_set_ne hk] at h4
        exact A.dis j k _ _ _ _ x h1 h2 h3 h4
  · rcases set_get h1 with ⟨_, h, _⟩ | ⟨hj, h1⟩
    · cases h
    · obtain ⟨a2, o2, kxs, g1, g2, g3, g4⟩ := A.lck j kvs h1
      exact ⟨a2, o2, kxs, by rw [List.getElem?_set_ne hj]; exact g1, g2, g3, g4.anti al⟩
  · rcases set_get h1 with ⟨_, h, _⟩ | ⟨hj, h1⟩
    · cases h
    · rw [List.getElem?_set_ne hj]; exact A.exn j y dd fs h1
  · rcases ow x z with z | z
    · exact s.own x z
    · rw [z]; exact .inr h0
/-- the slot i holds a result -/
def put (i : Nat) (r : R) (env : Nv) : Option Nv := match r with
  | .val d => some (env.set i (some (.val d)))
  | .frs d => some (env.set i (some (.own false d)))
  | .slot j => match rel j env with
    | some (d, env) => some (env.set i (some (.val d)))
    | none => none
theorem put_ok {i : Nat} {r : R} {v : V} {H0 : Hp} {env0 env1 : Nv} (s : Stp env0 σ H0 env σ H) (h : Res K W H0 env σ H r v) (e : put i r env = some env1) : AS K W env1 (σ.set i (some v)) H ∧ Stp env0 σ H0 env1 (σ.set i (some v)) H := by
  cases r with
  | val d =>
    cases e
    obtain ⟨A, s2⟩ := h.1.store (i := i) h.2
    exact ⟨A, s.trans s2⟩
  | frs d =>
    cases e
    obtain ⟨a, rfl, h0, nW, nO, A, hd⟩ := h
    exact AS.storeF s h0 nW nO A hd
  | slot j =>
    unfold put at e
    cases q : rel j env with
    | none => simp only [q] at e; cases e
    | some p =>
      obtain ⟨d, env2⟩ := p
      simp only [q] at e
      cases e
      obtain ⟨A2, r2, s2⟩ := rel_ok h.1 h.2 q
      obtain ⟨A3, s3⟩ := A2.store (i := i) r2
      exact ⟨A3, (s.trans s2).trans s3⟩
end
end DL

set_option Elab.async false
set_option linter.all false
set_option maxRecDepth 100000
namespace DL
open PySem PySem.Spec PyProof.Rows L2

/-! ### small statements, blocks -/
def setG (i : Nat) (f : F) : G := fun env => bndS (f env) fun r env => (put i r env).map SO.nx
def retG (f : F) : G := fun env => bndS (f env) fun r env => some (.rt r env)
def exprG (f : F) : G := fun env => bndS (f env) fun _ env => some (.nx env)
def retN : G := fun env => some (.rt (.val .non) env)
def passG : G := fun env => some (.nx env)
def brkG : G := fun env => some (.bk env)
def ctG : G := fun env => some (.ct env)
def ifG (c : F) (f g : G) : G := fun env => bndBS (c env) fun b env => if b then f env else g env
def seqG (f g : G) : G := fun env => match f env with
  | some (.nx env) => g env
  | o => o
/-- a rule of tests by the negated value of its wish -/
theorem PT_nx {K : PySem.W.Frag} {W : Fb} {Z : Wsh} {env : Nv} {σ : St} {H : Hp} {E : Ends} (A : AS K W env σ H) (h : PendS K W Z env σ H E (some (.nx env))) : E.nx σ H := h σ H .refl A
section
variable {X : Cx} {Z : Wsh} {e e2 e3 : Expr} {f c : F} {g g2 : G} {pos pos' : Pos} {st : Stmt} {sts : List Stmt} {i : Nat} {x : Str}
theorem ds_set (hN : X.N.Nodup) (hi : X.N[i]? = some x) (hx : Loc X.env.scope x) (he : DE X Z e f) (hs : swapsWith e (some (.Name x pos')) pos.line X.env = pure false := by rfl) (hf : X.fn x = true ∨ X.env.scope.names.lookup x = some .local := by first | exact .inl rfl | exact .inr rfl | assumption) :
    DS X Z (.Assign [.Name x pos'] e pos) (setG i f) := PSimp (ps_set hN hi hx he hs hf) fun E σ H q => by
  obtain ⟨W, env, A, q⟩ := q
  refine tE_mono (fun v H1 t => ?_) (stepS A q)
  obtain ⟨r, env1, s1, r1, p⟩ := t
  show E.nx (σ.set i (some v)) H1
  cases z : put i r env1 with
  | none => rw [z] at p; exact p.elim
  | some env2 =>
    rw [z] at p
    obtain ⟨A2, s2⟩ := put_ok s1 r1 z
    exact p _ _ s2 A2
theorem ds_ret (he : DE X Z e f) : DS X Z (.Return (some e) pos) (retG f) := PSimp (ps_ret he) fun E σ H q => by
  obtain ⟨W, env, A, q⟩ := q
  refine tE_mono (fun v H1 t => ?_) (stepS A q)
  obtain ⟨r, env1, s1, r1, p⟩ := t
  exact p v σ H1 s1 r1
theorem ds_retN : DS X Z (.Return none pos) retN := PSimp ps_retN fun E σ H q => by
  obtain ⟨W, env, A, q⟩ := q
  exact q .non σ H .refl ⟨A, rfl⟩
theorem ds_expr (he : DE X Z e f) (hs : swapsWith e none pos.line X.env = pure false := by rfl) : DS X Z (.Expr e pos) (exprG f) := PSimp (ps_expr he hs) fun E σ H q => by
  obtain ⟨W, env, A, q⟩ := q
  refine tE_mono (fun v H1 t => ?_) (stepS A q)
  obtain ⟨r, env1, s1, r1, p⟩ := t
  exact p σ H1 s1 r1.as
theorem ds_pass : DS X Z (.Pass pos) passG := PSimp ps_pass fun E σ H q => by
  obtain ⟨W, env, A, q⟩ := q
  exact PT_nx A q
theorem ds_doc {y j} : DS X Z (.Expr (.Constant (.str y) j pos) pos') passG := PSimp ps_doc fun E σ H q => by
  obtain ⟨W, env, A, q⟩ := q
  exact PT_nx A q
theorem ds_brk : DS X Z (.Break pos) brkG := PSimp ps_break fun E σ H q => by
  obtain ⟨W, env, A, q⟩ := q
  exact q σ H .refl A
theorem ds_ct : DS X Z (.Continue pos) ctG := PSimp ps_continue fun E σ H q => by
  obtain ⟨W, env, A, q⟩ := q
  exact q σ H .refl A
theorem ds_if {a b : List Stmt} (hc : DT X Z e c) (ha : DSs X Z a g) (hb : DSs X Z b g2) : DS X Z (.If e a b pos) (ifG c g g2) := PSimp (ps_if hc ha hb) fun E σ H q => by
  obtain ⟨W, env, A, q⟩ := q
  refine tT_mono (fun v H1 t => ?_) (stepTS A q)
  obtain ⟨env1, s1, A1, p⟩ := t
  cases v with
  | true => exact iteT ⟨W, env1, A1, p.shift s1⟩
  | false => exact iteF ⟨W, env1, A1, p.shift s1⟩
theorem ds_nil : DSs X Z [] passG := PSsimp pss_nil fun E σ H q => by
  obtain ⟨W, env, A, q⟩ := q
  exact PT_nx A q
theorem ds_one (h : DS X Z st g) : DSs X Z [st] g := pss_one h
theorem pendS_seq {K : PySem.W.Frag} {W : Fb} {env : Nv} {σ : St} {H : Hp} {E : Ends} {o : Option SO} (h : PendS K W Z env σ H E (match o with | some (.nx env) => g2 env | o => o)) : PendS K W Z env σ H { E with nx := tS K Z g2 E } o := by
  match o, h with
  | some (.nx e2), h => exact fun σ' H' s A => ⟨W, e2, A, PendS.shift s h⟩
  | some (.bk e2), h => exact h
  | some (.ct e2), h => exact h
  | some (.rt r e2), h => exact h
  | some (.exc x e2), h => exact h
theorem ds_cons (h1 : DS X Z st g) (h2 : DSs X Z sts g2) : DSs X Z (st :: sts) (seqG g g2) := PSsimp (pss_cons h1 h2) fun E σ H q => by
  obtain ⟨W, env, A, q⟩ := q
  exact ⟨W, env, A, pendS_seq q⟩
end
/-! ### targets -/
abbrev T1 := D → Nv → Option Nv
/-- only the slots ix are stored -/
def Alike (ix : List Nat) (σ σ' : St) : Prop := σ'.length = σ.length ∧ ∀ j, j ∉ ix → σ'[j]? = σ[j]?
def PendG (K : PySem.W.Frag) (W : Fb) (ix : List Nat) (env : Nv) (σ : St) (H : Hp) (Q : St → Hp → Prop) : Option Nv → Prop
  | some env' => ∀ σ' H', Stp env σ H env' σ' H' → AS K W env' σ' H' → Alike ix σ σ' → Q σ' H'
  | none => False
def tG (K : PySem.W.Frag) (ix : List Nat) (t : T1) : TG := fun v σ H Q => ∃ W env d, AS K W env σ H ∧ Rep K H (All W env σ) d v ∧ PendG K W ix env σ H Q (t d env)
abbrev DG (X : Cx) (e : Expr) (ix : List Nat) (t : T1) : Prop := PG X e (tG X.K ix t)
theorem PGimp {X : Cx} {e : Expr} {t t' : TG} (h : PG X e t) (hi : ∀ v σ H Q, t' v σ H Q → t v σ H Q) : PG X e t' := ⟨fun pins s σ H v u Q I r hq => h.run pins s σ H v u Q I r (hi v σ H Q hq)⟩
theorem PGsimp {X : Cx} {e : List Expr} {t t' : TGs} (h : PGs X e t) (hi : ∀ v σ H Q, t' v σ H Q → t v σ H Q) : PGs X e t' := ⟨fun pins s σ H v u Q I r hq => h.run pins s σ H v u Q I r (hi v σ H Q hq)⟩
def nmT (i : Nat) : T1 := fun d env => some (env.set i (some (.val d)))
def tsT : List T1 → List D → Nv → Option Nv
  | [], [], env => some env
  | t :: ts, d :: ds, env => match t d env with
    | some env => tsT ts ds env
    | none => none
  | _, _, _ => none
def tupT (ts : List T1) : T1 := fun d env => match d with
  | .tup ds => tsT ts ds env
  | _ => none
def tGs (K : PySem.W.Frag) (ix : List Nat) (ts : List T1) : TGs := fun vs σ H Q => ∃ W env ds, AS K W env σ H ∧ Reps K H (All W env σ) ds vs ∧ PendG K W ix env σ H Q (tsT ts ds env)
abbrev DGs (X : Cx) (es : List Expr) (ix : List Nat) (ts : List T1) : Prop := PGs X es (tGs X.K ix ts)
theorem Alike.refl {ix : List Nat} {σ : St} : Alike ix σ σ := ⟨rfl, fun _ _ => rfl⟩
theorem Alike.set {i : Nat} {σ : St} {o : Option V} : Alike [i] σ (σ.set i o) := ⟨by simp, fun j hj => List.getElem?_set_ne (by simp at hj; omega)⟩
theorem Alike.trans {ix iy : List Nat} {a b c : St} (h : Alike ix a b) (g : Alike iy b c) : Alike (ix ++ iy) a c :=
  ⟨g.1.trans h.1, fun j hj => by
    simp only [List.mem_append, not_or] at hj
    exact (g.2 j hj.2).trans (h.2 j hj.1)⟩
section
variable {X : Cx} {Z : Wsh} {e : Expr} {es : List Expr} {t : T1} {ts : List T1} {pos : Pos} {i : Nat} {x : Str} {ix iy : List Nat}
theorem dg_name (hN : X.N.Nodup) (hi : X.N[i]? = some x) (hx : Loc X.env.scope x) (hf : X.fn x = true ∨ X.env.scope.names.lookup x = some .local := by first | exact .inl rfl | exact .inr rfl | assumption) : DG X (.Name x pos) [i] (nmT i) :=
  PGimp (pg_name hN hi hx hf) fun v σ H Q q => by
    obtain ⟨W, env, d, A, r, p⟩ := q
    obtain ⟨A2, s2⟩ := A.store (i := i) r
    exact p _ _ s2 A2 .set
theorem dgs_nil : DGs X [] [] [] := PGsimp pgs_nil fun vs σ H Q q => by
  obtain ⟨W, env, ds, A, r, p⟩ := q
  cases ds with
  | nil => exact ⟨r, p σ H .refl A .refl⟩
  | cons _ _ => exact p.elim
theorem dgs_cons (h1 : DG X e ix t) (h2 : DGs X es iy ts) (hs : (assignEach (e :: es) X.env).map (·.2) = assign e X.env :: (assignEach es X.env).map (·.2) := by rfl) : DGs X (e :: es) (ix ++ iy) (t :: ts) := PGsimp (pgs_cons h1 h2 hs) fun vs σ H Q q => by
  obtain ⟨W, env, ds, A, r, p⟩ := q
  cases ds with
  | nil => exact p.elim
  | cons d ds =>
    obtain ⟨v, r', rfl, r1, r2⟩ := r
    refine ⟨v, r', rfl, W, env, d, A, r1, ?_⟩
    have p : PendG X.K W (ix ++ iy) env σ H Q (match t d env with | some env => tsT ts ds env | none => none) := p
    revert p
    cases z : t d env with
    | none => intro p; exact p.elim
    | some env1 =>
      intro p σ' H' s A' al
      have p : PendG X.K W (ix ++ iy) env σ H Q (tsT ts ds env1) := p
      have r2' : Reps X.K H' (All W env1 σ') ds r' := by
        refine Reps.keep (M := Own env σ) (A.kp s) (fun a z => .inr z) ds r' (Reps.anti2 (W' := fun a => All W env1 σ' a ∨ Own env σ a) (fun a z => ?_) ds r' r2) |> Reps.anti fun a z => .inl z
        rcases z with (z | z) | z
        · exact .inl (.inl z)
        · exact (s.own a z).imp .inr id
        · exact .inl (.inr z)
      refine ⟨W, env1, ds, A', r2', ?_⟩
      revert p
      cases tsT ts ds env1 with
      | none => intro p; exact p.elim
      | some env2 => intro p σ2 H2 s2 A2 al2; exact p σ2 H2 (s.trans s2) A2 (al.trans al2)
theorem dg_tup {k : Nat} (hc : X.calm = true) (h : DGs X es ix ts) (hl : ts.length = es.length)
    (hn : (assignEach es X.env).length = es.length := by rfl) (hst : (assignEach es X.env).findIdx? (·.1) = none := by rfl) : DG X (.Tuple es k pos) ix (tupT ts) := PGimp (pg_tup hc h hn hst) fun v σ H Q q => by
  obtain ⟨W, env, d, A, r, p⟩ := q
  cases d with
  | tup ds =>
    obtain ⟨a, xs, rfl, s, z, q⟩ := r
    have p : PendG X.K W ix env σ H Q (tsT ts ds env) := p
    refine ⟨a, xs, rfl, .of s, ?_, W, env, ds, A, q, p⟩
    have len : ∀ (ts : List T1) (ds : List D) (env : Nv), tsT ts ds env ≠ none → ts.length = ds.length := by
      intro ts
      induction ts with
      | nil => intro ds env h; cases ds with
        | nil => rfl
        | cons _ _ => exact absurd rfl h
      | cons t ts ih => intro ds env h; cases ds with
        | nil => exact absurd rfl h
        | cons d ds =>
          unfold tsT at h
          cases z : t d env with
          | none => simp only [z] at h; exact absurd rfl h
          | some e1 => simp only [z] at h; rw [List.length_cons, List.length_cons, ih ds e1 h]
    rw [← q.length, ← len ts ds env (fun z => by rw [z] at p; exact p), hl]
  | _ => exact p.elim
/-- target = value, the value kept -/
def asgG (t : T1) (f : F) : G := fun env => bndS (f env) fun r env => match r with
  | .val d => (t d env).map SO.nx
  | _ => none
variable {f : F} {tg : Expr}
theorem ds_asg (he : DE X Z e f) (hg : DG X tg ix t) (hs : swapsWithSole [tg] e pos.line X.env = pure false := by rfl) (hw : swappedStores [tg] e X.env = pure none := by rfl)
    (h1 : (assignEach [tg] X.env).map (·.2) = [assign tg X.env] := by rfl) : DS X Z (.Assign [tg] e pos) (asgG t f) := PSimp (ps_asg he hg hs hw h1) fun E σ H q => by
  obtain ⟨W, env, A, q⟩ := q
  refine tE_mono (fun v H1 u => ?_) (stepS A q)
  obtain ⟨r, env1, s1, r1, p⟩ := u
  cases r with
  | val d =>
    refine ⟨W, env1, d, r1.1, r1.2, ?_⟩
    revert p
    cases z : t d env1 with
    | none => intro p; simp only [z] at p; exact p.elim
    | some env2 => intro p; simp only [z] at p; exact fun σ' H' s A' _ => p σ' H' (s1.trans s) A'
  | slot j => exact p.elim
  | frs d => exact p.elim
end
end DL

set_option Elab.async false
set_option linter.all false
set_option maxRecDepth 100000
namespace DL
open PySem PySem.Spec PyProof.Rows L2

/-! ### xs[i] = e, xs a slot of one's own -/
def subT (i : Nat) (f : F) : T1 := fun d env => match env[i]? with
  | some (some (.own _ (.lst _))) => match f env with
    | some (.ok (.val (.int k)) env1) => match env1[i]? with
      | some (some (.own b (.lst ds))) => match ixN ds.length k with
        | some j => some (env1.set i (some (.own b (.lst (ds.set j d)))))
        | none => none
      | _ => none
    | _ => none
  | _ => none
section
variable {X : Cx} {Z : Wsh} {o e : Expr} {f : F} {pos : Pos} {i : Nat}
theorem dg_sub (p : PE X o (tVar i)) (he : DE X Z e f) (ha : ∀ v, assign (.Subscript o e pos) X.env v = (do
      let ov ← holding [v] (eval o X.env)
      let iv ← holding [v, ov] (eval e X.env)
      standAt pos
      holding [v, ov, iv] (setItem ov iv v)
      release [v, ov, iv] []) := by intro _; rfl) : DG X (.Subscript o e pos) [] (subT i f) := PGimp (pg_sub p he set_list ha) fun v σ H Q q => by
  obtain ⟨W, env, d, A, r, q⟩ := q
  unfold subT at q
  split at q
  · rename_i b ds h
    obtain ⟨a, xs, h1, h2, h3, h4⟩ := own_at A h
    refine ⟨.ref a, h1, W, env, A, ?_⟩
    revert q
    cases z : f env with
    | none => intro q; exact q.elim
    | some out =>
      intro q
      match out, q with
      | .ok (.val (.int k)) env1, q =>
        intro iv H1 s1 r1
        have e1 : iv = .int k := r1.2
        subst e1
        have A1 := r1.1
        simp only at q
        split at q
        · rename_i b' ds' h'
          obtain ⟨a', xs', g1, g2, g3, g4⟩ := own_at A1 h'
          rw [h1] at g1; cases g1
          cases z1 : ixN ds'.length k with
          | none => simp only [z1] at q; exact q.elim
          | some j =>
            simp only [z1] at q
            refine ⟨a, xs', k, j, rfl, rfl, g2, by rw [← g4.length]; exact z1, ?_⟩
            obtain ⟨k1, k2⟩ := upd_keep (v := .lst (xs'.set j v)) g2
            have r' : Rep X.K H1 (All W env1 σ) d v := RL.keep (r := .val d) A s1 r
            have new : Reps X.K (upd H1 a (.lst (xs'.set j v))) (All W env1 σ) (ds'.set j d) (xs'.set j v) := reps_upd A1 h' h1 (Reps.set j r' g4)
            obtain ⟨A3, s3⟩ := A1.write (d' := .lst (ds'.set j d)) h' h1 k1 k2 ⟨_, upd_same, by rw [List.length_set]; exact g3, new⟩
            exact q _ _ (s1.trans s3) A3 .refl
        · exact q.elim
      | .exc _ _, q => exact q.elim
      | .ok (.slot _) _, q => exact q.elim
      | .ok (.frs _) _, q => exact q.elim
      | .ok (.val .non) _, q => exact q.elim
      | .ok (.val (.bl _)) _, q => exact q.elim
      | .ok (.val (.str _)) _, q => exact q.elim
      | .ok (.val (.tup _)) _, q => exact q.elim
      | .ok (.val (.lst _)) _, q => exact q.elim
      | .ok (.val (.dct _)) _, q => exact q.elim
      | .ok (.val (.scr _)) _, q => exact q.elim
      | .ok (.val (.rng _ _)) _, q => exact q.elim
  · exact q.elim
end
/-! ### what is walked -/
inductive IO where
  | ok (ds : List D) (env : Nv) | exc (x : Ex) (env : Nv)
abbrev FI := Nv → Option IO
def Kept (O : Fb) (H H' : Hp) : Prop := (∀ a o, H a = some o → ¬ O a → H' a = some o) ∧ ∀ a, H' a = none → H a = none
structure Yld (K : PySem.W.Frag) (WA : Fb) (H1 : Hp) (ds : List D) (J : It) : Prop where
  go : ∀ i H, i < ds.length → Kept WA H1 H → J.go i H
  stop : ∀ H, Kept WA H1 H → J.stop ds.length H
  yld : ∀ i H x H' d, ds[i]? = some d → Kept WA H1 H → J.yld i H x H' → (∀ a o, H a = some o → H' a = some o) ∧ (∀ a, H' a = none → H a = none) ∧ ∀ Wk : Fb, (∀ a, Wk a → WA a ∨ H1 a = none) → Rep K H' Wk d x
def PendI (K : PySem.W.Frag) (W : Fb) (Z : Wsh) (env : Nv) (σ : St) (H : Hp) (R : It → Hp → Prop) : Option IO → Prop
  | some (.ok ds env') => ∀ J H1, Stp env σ H env' σ H1 → AS K W env' σ H1 → Yld K (All W env' σ) H1 ds J → R J H1
  | some (.exc x env') => ∀ cls d H', Stp env σ H env' σ H' → AS K W env' σ H' → XOk Z.CA x cls d H' → Z.wx cls d σ H'
  | none => False
def tI (K : PySem.W.Frag) (Z : Wsh) (f : FI) : TI := fun σ H R => ∃ W env, AS K W env σ H ∧ PendI K W Z env σ H R (f env)
abbrev DI (X : Cx) (Z : Wsh) (tg it : Expr) (f : FI) : Prop := PI X tg it (tI X.K Z f)
theorem PIimp {X : Cx} {tg it : Expr} {t t' : TI} (h : PI X tg it t) (hi : ∀ σ H R, t' σ H R → t σ H R) : PI X tg it t' := ⟨fun pins s σ H R I hq => h.run pins s σ H R I (hi σ H R hq)⟩
def bndI (o : Option Out) (k : R → Nv → Option IO) : Option IO := match o with
  | some (.ok r env) => k r env
  | some (.exc x env) => some (.exc x env)
  | none => none
section
variable {K : PySem.W.Frag} {W : Fb} {Z : Wsh} {env env' : Nv} {σ σ' : St} {H H' H1 : Hp} {R' : It → Hp → Prop} {o : Option IO}
theorem PendI.shift (s : Stp env σ H env' σ H') (h : PendI K W Z env σ H R' o) : PendI K W Z env' σ H' R' o := by
  match o, h with
  | some (.ok ds e2), h => exact fun J H2 s2 A2 y => h J H2 (s.trans s2) A2 y
  | some (.exc x e2), h => exact fun cls d H2 s2 A2 x2 => h cls d H2 (s.trans s2) A2 x2
theorem stepI {f : F} {k : R → Nv → Option IO} (A : AS K W env σ H) (h : PendI K W Z env σ H R' (bndI (f env) k)) :
    tE K Z f σ H (fun v H1 => ∃ r env1, Stp env σ H env1 σ H1 ∧ AS K W env1 σ H1 ∧ RL K W env1 σ H1 (hold r) v ∧ PendI K W Z env1 σ H1 R' (k r env1)) := by
  refine ⟨W, env, A, ?_⟩
  revert h
  generalize f env = o
  intro h
  match o, h with
  | some (.ok r e), h => exact fun v H1 s r1 => ⟨r, e, s, r1.as, r1.rl, PendI.shift s h⟩
  | some (.exc x e), h => exact fun cls d H1 s A1 x1 => h cls d H1 s A1 x1
theorem Kept.refl {O : Fb} : Kept O H H := ⟨fun _ _ h _ => h, fun _ h => h⟩
theorem Stp.kept (s : Stp env σ H env' σ' H') : Kept (All W env σ) H H' := ⟨fun a o h n => s.keep a o h fun z => n (.inr z), s.there⟩
theorem AS.mt (A : AS K W env σ H) : ∀ a, All W env σ a → Mut (H a) := fun a z => z.elim (A.trk a) fun z => (A.kp Stp.refl).mt a z
/-- a kept thing stands still while a loop runs -/
theorem rep_kept {d : D} {v : V} {WA : Fb} (mt : ∀ a, WA a → Mut (H a)) (r : Rep K H WA d v) (k : Kept WA H H') {Wk : Fb} (h : ∀ a, Wk a → WA a ∨ H a = none) : Rep K H' Wk d v := by
  refine Rep.keep (W := fun a => Wk a ∨ WA a) (M := WA) ⟨mt, k.1⟩ (fun a z => .inr z) d v (Rep.anti2 (fun a z => ?_) d v r) |> Rep.anti fun a z => .inl z
  exact z.elim (h a) .inl
theorem yld_seq {J : It} {ds : List D} {xs : List V} {G0 : Hp → Prop} (A : AS K W env σ H) (w : Walk J ds.length G0 (YAt xs)) (r : Reps K H (All W env σ) ds xs) (g : ∀ H', Kept (All W env σ) H H' → G0 H') : Yld K (All W env σ) H ds J where
  go := fun i H' hi k => w.goes i H' hi (g H' k)
  stop := fun H' k => w.stops H' (g H' k)
  yld := fun i H' x H2 d hd k y => by
    obtain ⟨e, hx⟩ := w.yields i H' x H2 (List.getElem?_eq_some_iff.mp hd).1 (g H' k) y
    subst e
    obtain ⟨v, h1, h2⟩ := r.get hd
    rw [hx] at h1; cases h1
    exact ⟨fun _ _ h => h, fun _ h => h, fun Wk hw => rep_kept A.mt h2 k hw⟩
end
/-- over a list or a tuple; a thing of one's own is kept from now on -/
def itD (f : F) : FI := fun env => bndI (f env) fun r env => match kp (hold r) env with
  | some (.lst ds, env) => some (.ok ds env)
  | some (.tup ds, env) => some (.ok ds env)
  | _ => none
section
variable {X : Cx} {Z : Wsh} {e tg : Expr} {f : F} {pos p : Pos}
/-- over a list -/
def itL (f : F) : FI := fun env => bndI (f env) fun r env => match kp (hold r) env with
  | some (.lst ds, env) => some (.ok ds env)
  | _ => none
/-- over a tuple -/
def itT (f : F) : FI := fun env => bndI (f env) fun r env => match kp (hold r) env with
  | some (.tup ds, env) => some (.ok ds env)
  | _ => none
theorem di_list (he : DE X Z e f) : DI X Z tg e (itL f) := PIimp (pi_list he) fun σ H R q => by
  obtain ⟨W, env, A, q⟩ := q
  refine tE_mono (fun v H1 t => ?_) (stepI A q)
  obtain ⟨r, env1, s1, A1, l1, p⟩ := t
  cases z : kp (hold r) env1 with
  | none => simp only [z] at p; exact p.elim
  | some pr =>
    obtain ⟨d, env2⟩ := pr
    obtain ⟨A2, r2, s2⟩ := kp_ok A1 l1 z
    simp only [z] at p
    cases d with
    | lst ds =>
      simp only at p
      obtain ⟨a, xs, rfl, nW, h, zz, q2⟩ := r2
      refine ⟨a, rfl, ⟨xs, .of h⟩, p _ _ s2 A2 ?_⟩
      have hw : Walk (Itl X.K a) ds.length (fun H => SqL X.K H a xs) (YAt xs) := by rw [q2.length]; exact walk_list
      exact yld_seq A2 hw q2 fun H' k => .of (k.1 _ _ h nW)
    | _ => exact p.elim
theorem di_tup (he : DE X Z e f) : DI X Z tg e (itT f) := PIimp (pi_tup he) fun σ H R q => by
  obtain ⟨W, env, A, q⟩ := q
  refine tE_mono (fun v H1 t => ?_) (stepI A q)
  obtain ⟨r, env1, s1, A1, l1, p⟩ := t
  cases z : kp (hold r) env1 with
  | none => simp only [z] at p; exact p.elim
  | some pr =>
    obtain ⟨d, env2⟩ := pr
    obtain ⟨A2, r2, s2⟩ := kp_ok A1 l1 z
    simp only [z] at p
    cases d with
    | tup ds =>
      simp only at p
      obtain ⟨a, xs, rfl, h, zz, q2⟩ := r2
      refine ⟨a, rfl, ⟨xs, .of h⟩, p _ _ s2 A2 ?_⟩
      have hw : Walk (Itt X.K a) ds.length (fun H => SqT X.K H a xs) (YAt xs) := by rw [q2.length]; exact walk_tup
      exact yld_seq A2 hw q2 fun H' k => .of (Kp.tup ⟨A2.mt, k.1⟩ h)
    | _ => exact p.elim
/-- lo, lo + 1, .. -/
def rngL (lo hi : Int) : List D := (List.range (hi - lo).toNat).map fun (i : Nat) => .int (lo + i)
def rngC (i : Int) : Bool := decide (-(2 ^ 62) ≤ i) && decide (i < 2 ^ 62)
theorem yld_rng {K : PySem.W.Frag} {W : Fb} {env : Nv} {σ : St} {H : Hp} (lo hi : Int) : Yld K (All W env σ) H (rngL lo hi) (Itr lo (hi - lo).toNat) where
  go := fun i H' h _ => by
    rw [rngL, List.length_map, List.length_range] at h
    exact h
  stop := fun H' _ => by
    rw [rngL, List.length_map, List.length_range]
    exact Nat.le_refl _
  yld := fun i H' x H2 d hd k y => by
    obtain ⟨e1, e2⟩ := y
    subst e1 e2
    refine ⟨fun _ _ h => h, fun _ h => h, fun Wk hw => ?_⟩
    have hi' := (List.getElem?_eq_some_iff.mp hd).1
    rw [rngL, List.length_map, List.length_range] at hi'
    rw [rngL, List.getElem?_map, List.getElem?_range hi'] at hd
    cases hd
    rfl
def itR1 (f : F) : FI := fun env => bndI (f env) fun r env => match asI (hold r) with
  | some j => if rngC j then some (.ok (rngL 0 j) env) else none
  | none => none
def itR2 (f g : F) : FI := fun env => bndI (f env) fun r env => bndI (g env) fun r2 env => match asI (hold r), asI (hold r2) with
  | some i, some j => if rngC i && rngC j then some (.ok (rngL i j) env) else none
  | _, _ => none
theorem di_rng1 (hg : Gl X "range") (hm : X.mg "range" = none) (he : DE X Z e f) (hs : starEach [e] X.env = [(false, eval e X.env)] := by rfl) : DI X Z tg (.Call (.Name "range" p) [e] [] pos) (itR1 f) := PIimp (pi_range1 hg hm (pa_cons he pa_nil hs) hs) fun σ H R q => by
  obtain ⟨W, env, A, q⟩ := q
  refine tE_mono (fun v H1 t => ?_) (stepI A q)
  obtain ⟨r, env1, s1, A1, l1, p⟩ := t
  cases z : asI (hold r) with
  | none => simp only [z] at p; exact p.elim
  | some j =>
    simp only [z] at p
    by_cases c : rngC j = true
    · simp only [if_pos c] at p
      obtain ⟨c1, c2⟩ := Bool.and_eq_true_iff.mp c
      refine ⟨j, by rw [asI_ok z l1], of_decide_eq_true c1, of_decide_eq_true c2, p _ _ .refl A1 ?_⟩
      have := yld_rng (K := X.K) (W := W) (env := env1) (σ := σ) (H := H1) 0 j
      rw [Int.sub_zero] at this
      exact this
    · simp only [if_neg c] at p; exact p.elim
theorem di_rng2 {e2 : Expr} {g : F} (hg : Gl X "range") (hm : X.mg "range" = none) (he : DE X Z e f) (he2 : DE X Z e2 g) (hs : starEach [e, e2] X.env = [(false, eval e X.env), (false, eval e2 X.env)] := by rfl) (hs2 : starEach [e2] X.env = [(false, eval e2 X.env)] := by rfl) : DI X Z tg (.Call (.Name "range" p) [e, e2] [] pos) (itR2 f g) := PIimp (pi_range2 hg hm (pa_cons he (pa_cons he2 pa_nil hs2) (by rw [hs, hs2])) hs hs2) fun σ H R q => by
  obtain ⟨W, env, A, q⟩ := q
  refine tE_mono (fun v H1 t => ?_) (stepI A q)
  obtain ⟨r, env1, s1, A1, l1, p⟩ := t
  refine tE_mono (fun v2 H2 t => ?_) (stepI A1 p)
  obtain ⟨r2, env2, s2, A2, l2, p⟩ := t
  have l1' := l1.keep A1 s2
  split at p
  · rename_i i j z1 z2
    by_cases c : (rngC i && rngC j) = true
    · simp only [if_pos c] at p
      obtain ⟨c1, c2⟩ := Bool.and_eq_true_iff.mp c
      obtain ⟨c3, c4⟩ := Bool.and_eq_true_iff.mp c1
      obtain ⟨c5, c6⟩ := Bool.and_eq_true_iff.mp c2
      refine ⟨i, j, by rw [asI_ok z1 l1', asI_ok z2 l2], ⟨of_decide_eq_true c3, of_decide_eq_true c4, of_decide_eq_true c5, of_decide_eq_true c6⟩, p _ _ .refl A2 (yld_rng i j)⟩
    · simp only [if_neg c] at p; exact p.elim
  · exact p.elim
end
/-! ### for -/
def loopG (t : T1) (b : G) : List D → Nv → Option SO
  | [], env => some (.nx env)
  | d :: ds, env => match t d env with
    | none => none
    | some env1 => match b env1 with
      | some (.nx e) => loopG t b ds e
      | some (.ct e) => loopG t b ds e
      | some (.bk e) => some (.nx e)
      | o => o
def forG (it : FI) (t : T1) (b : G) : G := fun env => match it env with
  | some (.ok ds env) => loopG t b ds env
  | some (.exc x env) => some (.exc x env)
  | none => none
section
variable {X : Cx} {Z : Wsh} {it tg : Expr} {f : FI} {t : T1} {b : G} {body : List Stmt} {pos : Pos} {ix : List Nat}
theorem ds_for (hp : PassesOwn (model X.prog X.w) X.A X.env X.xe) (hc : X.calm = true) (hi : DI X Z tg it f) (hg : DG X tg ix t) (hb : DSs X Z body b) (hs : ∀ x, foldedSetIterable it X.env x = pure x := by intro _; rfl) :
    DS X Z (.For tg it body [] pos) (forG f t b) := PSimp (ps_for hp hc hi hg hb hs) fun E σ H q => by
  obtain ⟨W, env, A, q⟩ := q
  refine ⟨W, env, A, ?_⟩
  unfold forG at q
  revert q
  cases f env with
  | none => intro q; exact q.elim
  | some o =>
    cases o with
    | exc x e => intro q; exact fun cls d H' s A' x' => q cls d σ H' s A' x'
    | ok ds env1 =>
      intro q J H1 s1 A1 y
      refine ⟨fun i m σ' H' => m = ds.length - i ∧ i ≤ ds.length ∧ ∃ envk, Stp env1 σ H1 envk σ' H' ∧ AS X.K W envk σ' H' ∧ PendS X.K W Z env σ H E (loopG t b (ds.drop i) envk) ∧ Stp env σ H envk σ' H', ⟨ds.length, by simp, Nat.zero_le _, env1, .refl, A1, q, s1⟩, ?_⟩
      rintro i m σ' H' ⟨rfl, hi, envk, sk, Ak, pk, s0⟩
      by_cases hlt : i < ds.length
      · obtain ⟨d, hd⟩ : ∃ d, ds[i]? = some d := ⟨ds[i], by simp [hlt]⟩
        have e1 : ds.drop i = d :: ds.drop (i + 1) := by
          rw [List.drop_eq_getElem_cons hlt]
          congr 1
          rw [List.getElem?_eq_getElem hlt] at hd
          exact Option.some.inj hd
        refine .inr ⟨y.go i H' hlt sk.kept, fun σ2 H2 => ∃ envn, Stp env1 σ H1 envn σ2 H2 ∧ AS X.K W envn σ2 H2 ∧ PendS X.K W Z env σ H E (loopG t b (ds.drop (i + 1)) envn) ∧ Stp env σ H envn σ2 H2, fun σ2 H2 hn => ?_, fun x H2 hy => ?_⟩
        · obtain ⟨envn, h1, h2, h3, h4⟩ := hn
          exact ⟨ds.length - (i + 1), by omega, rfl, hlt, envn, h1, h2, h3, h4⟩
        · obtain ⟨k1, k2, k3⟩ := y.yld i H' x H2 d hd sk.kept hy
          have A2 : AS X.K W envk σ' H2 := Ak.grow k1
          have s2 : Stp envk σ' H' envk σ' H2 := ⟨fun a o h _ => k1 a o h, fun a z => .inl z, k2⟩
          have rx : Rep X.K H2 (All W envk σ') d x := k3 _ fun a z => by
            rcases z with z | z
            · exact .inl (.inl z)
            · exact (sk.own a z).imp .inr id
          refine ⟨W, envk, d, A2, rx, ?_⟩
          rw [e1] at pk
          unfold loopG at pk
          revert pk
          cases t d envk with
          | none => intro pk; exact pk.elim
          | some e3 =>
            intro pk σ3 H3 s3 A3 _
            refine ⟨W, e3, A3, ?_⟩
            have s03 : Stp env σ H e3 σ3 H3 := (s0.trans s2).trans s3
            have s13 : Stp env1 σ H1 e3 σ3 H3 := (sk.trans s2).trans s3
            revert pk
            simp only
            cases b e3 with
            | none => intro pk; exact pk.elim
            | some o =>
              cases o with
              | nx e4 => intro pk σ4 H4 s4 A4; exact ⟨e4, s13.trans s4, A4, pk, s03.trans s4⟩
              | ct e4 => intro pk σ4 H4 s4 A4; exact ⟨e4, s13.trans s4, A4, pk, s03.trans s4⟩
              | bk e4 => intro pk σ4 H4 s4 A4; exact pk σ4 H4 (s03.trans s4) A4
              | rt r e4 => intro pk v σ4 H4 s4 r4; exact pk v σ4 H4 (s03.trans s4) (r4.shift s03.there)
              | exc x e4 => intro pk cls d σ4 H4 s4 A4 x4; exact pk cls d σ4 H4 (s03.trans s4) A4 x4
      · have e : i = ds.length := by omega
        subst e
        refine .inl ⟨y.stop H' sk.kept, ?_⟩
        rw [List.drop_length] at pk
        exact pk σ' H' s0 Ak
end
end DL

set_option Elab.async false
set_option maxRecDepth 100000
namespace DL
open PySem PySem.Spec PyProof.Rows L2
/-- a comprehension's kind -/
inductive CK where
  | lst (elt : Expr) | dct (k v : Expr) | set (elt : Expr)
def mkC (ck : CK) (gens : List Comprehension) (scope : Scope) (pos : Pos) : Expr := match ck with
  | .lst e => .ListComp e gens scope pos
  | .dct k v => .DictComp k v gens scope pos
  | .set e => .SetComp e gens scope pos
/-- what is done with an element -/
def emitC (ck : CK) (acc : Value) (env : PySem.Env) : Sem Unit := match ck with
  | .lst e => do let _ ← call (.builtin "list.append") [acc, ← eval e env]
  | .set e => do
    let v ← eval e env
    standAt e.pos
    let _ ← call (.builtin "set.add") [acc, v]
  | .dct k v => do
    let kv ← eval k env
    let vv ← holding [kv] (eval v env)
    match acc with
    | .ref d => do
      standAt { k.pos with endLine := v.pos.endLine, endCol := v.pos.endCol }
      holding [kv, vv] (dictSet d kv vv)
    | _ => unsupported "internal:dictcomp"
section
variable {prog : Program} {w : World} {A : Around} {R : Result → Shared → Prop} {s : Shared} {ck : CK} {gens : List Comprehension} {scope : Scope} {pos : Pos} {k : Nat} {g g2 : Comprehension} {it acc : Value} {env : PySem.Env}
abbrev testsC (ifs : List Expr) (env : PySem.Env) : Sem Bool := forIn ifs true fun c r => if r = true then do let ok ← isTrue c env (eval c env); pure (ForInStep.yield ok) else pure (ForInStep.yield r)
abbrev Ebad (prog : Program) (w : World) (A : Around) (env : PySem.Env) (R : Result → Shared → Prop) : Value → Shared → Prop := notedBy (model prog w) A env fun e s' => R (.error e) s'
theorem loop_last (hg : gens[k]? = some g) (ha : g.is_async = 0) (hg2 : gens[k + 1]? = none) (I : Nat → Shared → Prop)
    (turn : ∀ n s, I n s → wpAny (model prog w) A (pyNext it) (fun r s1 => match r with
      | none => R (.ok .next) s1
      | some v => wpAny (model prog w) A (letOwnedTupleGo g.target it v) (fun _ s2 => wpAny (model prog w) A (assign g.target env v) (fun _ s3 =>
          wpAny (model prog w) A (testsC g.ifs env) (fun ok s4 => if ok = true then wpAny (model prog w) A (emitC ck acc env) (fun _ s5 => ∃ m, m < n ∧ I m s5) (Ebad prog w A env R) s4 else ∃ m, m < n ∧ I m s4)
            (Ebad prog w A env R) s3) (Ebad prog w A env R) s2) (Ebad prog w A env R) s1) (Ebad prog w A env R) s)
    (n : Nat) (h : I n s) : codeAny (model prog w) A (.compLoop (mkC ck gens scope pos) k it acc env) R s := by
  have fin : ∀ (n : Nat) (s : Shared), I n s → wpAny (model prog w) A (pyNext it >>= fun r => match r with
      | none => pure (.done .next)
      | some v => letOwnedTupleGo g.target it v >>= fun _ => assign g.target env v >>= fun _ => testsC g.ifs env >>= fun ok =>
        if ok = true then emitC ck acc env >>= fun _ => again (.compLoop (mkC ck gens scope pos) k it acc env)
        else again (.compLoop (mkC ck gens scope pos) k it acc env)) (fun fin s' => match fin with
        | .done f => R (.ok f) s'
        | .again c => c = .compLoop (mkC ck gens scope pos) k it acc env ∧ ∃ m, m < n ∧ I m s') (Ebad prog w A env R) s := fun n s hI => by
    refine wpAny_bind (wpAny_mono (turn n s hI) (fun r s1 h1 => ?_) fun _ _ h' => h')
    cases r with
    | none => exact wpAny_pure h1
    | some v =>
      refine wpAny_bind (wpAny_mono h1 (fun _ s2 h2 => ?_) fun _ _ h' => h')
      refine wpAny_bind (wpAny_mono h2 (fun _ s3 h3 => ?_) fun _ _ h' => h')
      refine wpAny_bind (wpAny_mono h3 (fun ok s4 h4 => ?_) fun _ _ h' => h')
      cases ok with
      | false => exact wpAny_pure ⟨rfl, h4⟩
      | true =>
        refine wpAny_bind (wpAny_mono h4 (fun _ s5 h5 => wpAny_pure ⟨rfl, h5⟩) fun _ _ h' => h')
  cases ck with
  | lst e =>
    refine codeAny_loop rfl I (fun n s hI => ?_) n h
    show wpAny _ A ((compTurn (.ListComp e gens scope pos) k it acc env).onRaise (fun x => do noteFrame x env; theTreesLotGoes x)) _ _ s
    refine wpAny_noted ?_
    unfold compTurn
    simp only [hg, ha, hg2]
    refine wpAny_bind (wpAny_standAt ?_)
    exact fin n s hI
  | dct e1 e2 =>
    refine codeAny_loop rfl I (fun n s hI => ?_) n h
    show wpAny _ A ((compTurn (.DictComp e1 e2 gens scope pos) k it acc env).onRaise (fun x => do noteFrame x env; theTreesLotGoes x)) _ _ s
    refine wpAny_noted ?_
    unfold compTurn
    simp only [hg, ha, hg2]
    refine wpAny_bind (wpAny_standAt ?_)
    exact fin n s hI
  | set e =>
    refine codeAny_loop rfl I (fun n s hI => ?_) n h
    show wpAny _ A ((compTurn (.SetComp e gens scope pos) k it acc env).onRaise (fun x => do noteFrame x env; theTreesLotGoes x)) _ _ s
    refine wpAny_noted ?_
    unfold compTurn
    simp only [hg, ha, hg2]
    refine wpAny_bind (wpAny_standAt ?_)
    exact fin n s hI
theorem loop_mid (hg : gens[k]? = some g) (ha : g.is_async = 0) (hg2 : gens[k + 1]? = some g2) (ha2 : g2.is_async = 0) (hs : ∀ x, foldedSetIterable g2.iter env x = pure x) (I : Nat → Shared → Prop)
    (turn : ∀ n s, I n s → wpAny (model prog w) A (pyNext it) (fun r s1 => match r with
      | none => R (.ok .next) s1
      | some v => wpAny (model prog w) A (letOwnedTupleGo g.target it v) (fun _ s2 => wpAny (model prog w) A (assign g.target env v) (fun _ s3 =>
          wpAny (model prog w) A (testsC g.ifs env) (fun ok s4 => if ok = true then wpAny (model prog w) A (eval g2.iter env) (fun x s5 => wpAny (model prog w) A (pyIter x) (fun it1 s6 =>
              codeAny (model prog w) A (.compStart (mkC ck gens scope pos) (k + 1) it1 acc env) (fun r s' => match r with
                | .ok _ => ∃ m, m < n ∧ I m s'
                | .error _ => False) s6) (Ebad prog w A env R) s5) (Ebad prog w A env R) s4 else ∃ m, m < n ∧ I m s4)
            (Ebad prog w A env R) s3) (Ebad prog w A env R) s2) (Ebad prog w A env R) s1) (Ebad prog w A env R) s)
    (n : Nat) (h : I n s) : codeAny (model prog w) A (.compLoop (mkC ck gens scope pos) k it acc env) R s := by
  have fin : ∀ (n : Nat) (s : Shared), I n s → wpAny (model prog w) A (pyNext it >>= fun r => match r with
      | none => pure (.done .next)
      | some v => letOwnedTupleGo g.target it v >>= fun _ => assign g.target env v >>= fun _ => testsC g.ifs env >>= fun ok =>
        if ok = true then eval g2.iter env >>= fun x => standAt g2.iter.pos >>= fun _ => foldedSetIterable g2.iter env x >>= fun x => holding [x] (pyIter x) >>= fun it1 =>
          runOwn (.compStart (mkC ck gens scope pos) (k + 1) it1 acc env) env >>= fun _ => again (.compLoop (mkC ck gens scope pos) k it acc env)
        else again (.compLoop (mkC ck gens scope pos) k it acc env)) (fun fin s' => match fin with
        | .done f => R (.ok f) s'
        | .again c => c = .compLoop (mkC ck gens scope pos) k it acc env ∧ ∃ m, m < n ∧ I m s') (Ebad prog w A env R) s := fun n s hI => by
    refine wpAny_bind (wpAny_mono (turn n s hI) (fun r s1 h1 => ?_) fun _ _ h' => h')
    cases r with
    | none => exact wpAny_pure h1
    | some v =>
      refine wpAny_bind (wpAny_mono h1 (fun _ s2 h2 => ?_) fun _ _ h' => h')
      refine wpAny_bind (wpAny_mono h2 (fun _ s3 h3 => ?_) fun _ _ h' => h')
      refine wpAny_bind (wpAny_mono h3 (fun ok s4 h4 => ?_) fun _ _ h' => h')
      cases ok with
      | false => exact wpAny_pure ⟨rfl, h4⟩
      | true =>
        refine wpAny_bind (wpAny_mono h4 (fun x s5 h5 => ?_) fun _ _ h' => h')
        refine wpAny_bind (wpAny_standAt (wpAny_bind (wpAny_of_eq (hs x) (wpAny_bind (wpAny_holding (wpAny_mono h5 (fun it1 s6 h6 => ?_) fun _ _ h' => h'))))))
        refine wpAny_bind (wpAny_runOwn ?_)
        rw [Around.mark_none]
        refine codeAny_mono h6 fun r s' hr => ?_
        cases r with
        | ok f => first
          | exact wpAny_pure ⟨rfl, hr⟩
          | exact wpAny_bind (wpAny_pure (wpAny_pure ⟨rfl, hr⟩))
        | error e => exact hr.elim
  cases ck with
  | lst e =>
    refine codeAny_loop rfl I (fun n s hI => ?_) n h
    show wpAny _ A ((compTurn (.ListComp e gens scope pos) k it acc env).onRaise (fun x => do noteFrame x env; theTreesLotGoes x)) _ _ s
    refine wpAny_noted ?_
    unfold compTurn
    simp only [hg, ha, hg2, ha2]
    refine wpAny_bind (wpAny_standAt ?_)
    exact fin n s hI
  | dct e1 e2 =>
    refine codeAny_loop rfl I (fun n s hI => ?_) n h
    show wpAny _ A ((compTurn (.DictComp e1 e2 gens scope pos) k it acc env).onRaise (fun x => do noteFrame x env; theTreesLotGoes x)) _ _ s
    refine wpAny_noted ?_
    unfold compTurn
    simp only [hg, ha, hg2, ha2]
    refine wpAny_bind (wpAny_standAt ?_)
    exact fin n s hI
  | set e =>
    refine codeAny_loop rfl I (fun n s hI => ?_) n h
    show wpAny _ A ((compTurn (.SetComp e gens scope pos) k it acc env).onRaise (fun x => do noteFrame x env; theTreesLotGoes x)) _ _ s
    refine wpAny_noted ?_
    unfold compTurn
    simp only [hg, ha, hg2, ha2]
    refine wpAny_bind (wpAny_standAt ?_)
    exact fin n s hI
/-- a clause's start, from an iterator -/
theorem comp_start {Rr : Result → Shared → Prop} (hg : gens[k]? = some g) (ha : g.is_async = 0) (h0 : codeAny (model prog w) A (.compLoop (mkC ck gens scope pos) k it acc env) Rr s)
    (h : wpAny (model prog w) A (pyIter it) (fun it' s' => codeAny (model prog w) A (.compLoop (mkC ck gens scope pos) k it' acc env) Rr s') (Ebad prog w A env Rr) s) :
    codeAny (model prog w) A (.compStart (mkC ck gens scope pos) k it acc env) Rr s := by
  have cl : clausesOf (mkC ck gens scope pos) = gens := by cases ck <;> rfl
  have qt : ∀ it', (Code.compLoop (mkC ck gens scope pos) k it' acc env).quiet = true := fun it' => by cases ck <;> rfl
  have fin : wpAny (model prog w) A (compStart (mkC ck gens scope pos) k it acc env) (fun fin s' => match fin with
        | .done f => Rr (.ok f) s'
        | .again c => c.quiet = true ∧ codeAny (model prog w) A c Rr s') (Ebad prog w A env Rr) s := by
    unfold compStart
    simp only [cl, hg, Option.elim, ha]
    rw [if_neg (by decide)]
    refine wpAny_bind (wpAny_askSetting ?_)
    split
    · exact wpAny_pure ⟨qt _, h0⟩
    · refine wpAny_bind (wpAny_rule (wpAny_bind (wpAny_standAt (wpAny_bind (wpAny_mono h (fun it' s' h' => wpAny_pure ⟨qt _, h'⟩) fun _ _ x => x)))))
  cases ck with
  | lst e =>
    refine codeAny_of_tree ?_
    show wpAny _ _ ((compStart (.ListComp e gens scope pos) k it acc env).onRaise (fun x => do noteFrame x env; standAt theWindowsPlace)) _ _ s
    exact wpAny_notedAt fin
  | dct e1 e2 =>
    refine codeAny_of_tree ?_
    show wpAny _ _ ((compStart (.DictComp e1 e2 gens scope pos) k it acc env).onRaise (fun x => do noteFrame x env; standAt theWindowsPlace)) _ _ s
    exact wpAny_notedAt fin
  | set e =>
    refine codeAny_of_tree ?_
    show wpAny _ _ ((compStart (.SetComp e gens scope pos) k it acc env).onRaise (fun x => do noteFrame x env; standAt theWindowsPlace)) _ _ s
    exact wpAny_notedAt fin
end
end DL

set_option Elab.async false
set_option linter.all false
set_option maxRecDepth 100000
namespace DL
open PySem PySem.Spec PyProof.Rows L2

/-! ### comprehensions: any number of clauses, a list, a dict or a set that is filled -/
inductive AK where
  | h | s (w : World)
def AccR (K : PySem.W.Frag) (D : Addr) (ak : AK) (H : Hp) (U : Fb) (d : DL.D) : Prop := match ak with
  | .h => Hold K H U D d
  | .s w => ∃ ns : List Int, d = .lst (ns.map .int) ∧ ns.Nodup ∧ H D = some (SetO w D (fun i => decide (i ∈ ns)) ns.length)
theorem AccR.some {K : PySem.W.Frag} {D : Addr} {ak : AK} {H : Hp} {U : Fb} {d : DL.D} (h : AccR K D ak H U d) : Mut (H D) := by
  cases ak with
  | h => exact Hold.mut h
  | s w => obtain ⟨ns, _, _, e⟩ := h; rw [e]; trivial
theorem AccR.keep {K : PySem.W.Frag} {D : Addr} {ak : AK} {H H' : Hp} {U U' M : Fb} {d : DL.D} (k : Kp M H H') (hM : ∀ a, M a → U' a ∨ U a) (e : H' D = H D) (hu : ∀ a, U' a → U a ∨ H a = none) (h : AccR K D ak H U d) : AccR K D ak H' U' d := by
  have hh : ∀ a, (U' a ∨ U a) → U a ∨ H a = none := fun a z => z.elim (hu a) .inl
  cases ak with
  | s w => obtain ⟨ns, h1, h2, h3⟩ := h; exact ⟨ns, h1, h2, e.trans h3⟩
  | h =>
    have h : Hold K H U D d := h
    show Hold K H' U' D d
    cases d with
    | lst ds => obtain ⟨xs, e1, z, q⟩ := h; exact ⟨xs, e.trans e1, z, Reps.anti (W := fun a => U' a ∨ U a) (fun a z => .inl z) (Reps.keep k hM ds xs (Reps.anti2 hh ds xs q))⟩
    | dci ds => exact ⟨e.trans h.1, h.2⟩
    | dct ds => obtain ⟨xs, e1, z, q⟩ := h; exact ⟨xs, e.trans e1, z, RepK.anti (W := fun a => U' a ∨ U a) (fun a z => .inl z) (RepK.keep k hM ds xs (RepK.anti2 hh ds xs q))⟩
    | _ => exact h.elim
/-- a step that may write what is forbidden, too -/
structure Stw (W : Fb) (env : Nv) (σ : St) (H : Hp) (env' : Nv) (σ' : St) (H' : Hp) : Prop where
  keep : ∀ a o, H a = some o → ¬ All W env σ a → H' a = some o
  own : ∀ a, Own env' σ' a → Own env σ a ∨ H a = none
  there : ∀ a, H' a = none → H a = none
theorem Stw.refl {W : Fb} {env : Nv} {σ : St} {H : Hp} : Stw W env σ H env σ H := ⟨fun _ _ h _ => h, fun _ h => .inl h, fun _ h => h⟩
theorem Stw.trans {W : Fb} {e1 e2 e3 : Nv} {s1 s2 s3 : St} {H1 H2 H3 : Hp} (a : Stw W e1 s1 H1 e2 s2 H2) (b : Stw W e2 s2 H2 e3 s3 H3) : Stw W e1 s1 H1 e3 s3 H3 where
  keep := fun x o h n => b.keep x o (a.keep x o h n) fun z => z.elim (fun z => n (.inl z)) fun z => (a.own x z).elim (fun q => n (.inr q)) fun q => by rw [h] at q; cases q
  own := fun x z => (b.own x z).elim (a.own x) fun q => .inr (a.there x q)
  there := fun x q => a.there x (b.there x q)
theorem Stp.stw {W : Fb} {e1 e2 : Nv} {s1 s2 : St} {H1 H2 : Hp} (a : Stp e1 s1 H1 e2 s2 H2) : Stw W e1 s1 H1 e2 s2 H2 := ⟨fun x o h n => a.keep x o h fun z => n (.inr z), a.own, a.there⟩
theorem Stw.kept {W : Fb} {e1 e2 : Nv} {s1 s2 : St} {H1 H2 : Hp} (a : Stw W e1 s1 H1 e2 s2 H2) : Kept (All W e1 s1) H1 H2 := ⟨a.keep, a.there⟩
/-- the state within a comprehension's block -/
structure BI (K : PySem.W.Frag) (W : Fb) (D : Addr) (ak : AK) (vs : List Nat) (env0 : Nv) (σ0 : St) (H0 : Hp) (env : Nv) (σ : St) (H : Hp) (acc : DL.D) : Prop where
  as : AS K W env σ H
  acc : AccR K D ak H (All W env σ) acc
  nown : ¬ Own env σ D
  stp : Stp env0 σ0 H0 env σ H
  al : wipe σ vs = wipe σ0 vs
section
variable {K : PySem.W.Frag} {W : Fb} {D : Addr} {ak : AK} {vs : List Nat} {env0 env env' : Nv} {σ0 σ σ' : St} {H0 H H' : Hp} {acc acc' : DL.D}
theorem wipe_get {σ : St} {j : Nat} : ∀ {vs : List Nat}, (wipe σ vs)[j]? = if j ∈ vs then (if j < σ.length then some none else none) else σ[j]?
  | [] => by simp [wipe]
  | v :: vs => by
    unfold wipe
    by_cases h : v = j
    · subst h
      rw [if_pos List.mem_cons_self]
      by_cases hl : v < σ.length
      · rw [List.getElem?_set_self (by rw [wipe_length]; exact hl), if_pos hl]
      · rw [List.getElem?_eq_none (by simpa [wipe_length] using hl), if_neg hl]
    · rw [List.getElem?_set_ne h, wipe_get]
      by_cases m : j ∈ vs
      · rw [if_pos m, if_pos (List.mem_cons_of_mem _ m)]
      · rw [if_neg m, if_neg (by simp only [List.mem_cons, not_or]; exact ⟨fun e => h e.symm, m⟩)]
theorem Alike.wipe {ix : List Nat} (h : Alike ix σ σ') (hv : ∀ j ∈ ix, j ∈ vs) : L2.wipe σ' vs = L2.wipe σ vs := by
  apply List.ext_getElem?
  intro j
  rw [wipe_get, wipe_get, h.1]
  by_cases m : j ∈ vs
  · rw [if_pos m, if_pos m]
  · rw [if_neg m, if_neg m, h.2 j fun z => m (hv j z)]
theorem BI.step (b : BI K W D ak vs env0 σ0 H0 env σ H acc) (s : Stp env σ H env' σ' H') (A' : AS K W env' σ' H') (al : L2.wipe σ' vs = L2.wipe σ vs) : BI K W D ak vs env0 σ0 H0 env' σ' H' acc := by
  have mD := b.acc.some
  obtain ⟨oD, hD⟩ : ∃ o, H D = some o := by
    cases q : H D with
    | none => rw [q] at mD; exact mD.elim
    | some o => exact ⟨o, rfl⟩
  refine ⟨A', b.acc.keep (b.as.kp s) (fun a z => .inr (.inr z)) ((s.keep D oD hD b.nown).trans hD.symm) fun a z => ?_, fun z => ?_, b.stp.trans s, al.trans b.al⟩
  · rcases z with z | z
    · exact .inl (.inl z)
    · exact (s.own a z).imp .inr id
  · rcases s.own D z with q | q
    · exact b.nown q
    · rw [hD] at q; cases q
end
/-- a clause: what is walked, the target, the tests -/
abbrev Cl := FI × T1 × F
abbrev Lf := Nv → D → Option (Nv × D)
def loopC (t : T1) (c : F) (k : Lf) : List D → Lf
  | [], env, acc => some (env, acc)
  | d :: ds, env, acc => match t d env with
    | none => none
    | some e1 => match c e1 with
      | some (.ok (.val (.bl true)) e2) => match k e2 acc with
        | some (e3, a3) => loopC t c k ds e3 a3
        | none => none
      | some (.ok (.val (.bl false)) e2) => loopC t c k ds e2 acc
      | _ => none
def compC (leaf : Lf) : List Cl → Lf
  | [], env, acc => leaf env acc
  | (it, t, c) :: cls, env, acc => match it env with
    | some (.ok ds e1) => loopC t c (compC leaf cls) ds e1 acc
    | _ => none
def IsBlk (X : Cx) (scope : Scope) (B : Cx) : Prop := ∃ (s : Shared) (H : Hp) (C : Addr) (cl : List (Str × Addr)) (fp : List Addr), B = X.blk s H scope (compEnvC scope cl C X.env) fp
/-- a clause within the block, but for what it walks -/
structure ClOk (X : Cx) (scope : Scope) (Z : Wsh) (vs : List Nat) (g : Comprehension) (t : T1) (c : F) : Prop where
  tg : ∃ ix, (∀ j ∈ ix, j ∈ vs) ∧ ∀ B, IsBlk X scope B → DG B g.target ix t
  ts : ∀ B, IsBlk X scope B → PTs B g.ifs (tT X.K Z c)
  sync : g.is_async = 0
inductive Cls (X : Cx) (scope : Scope) (Z : Wsh) (vs : List Nat) : List Comprehension → List Cl → Prop
  | nil : Cls X scope Z vs [] []
  | cons {g : Comprehension} {gs : List Comprehension} {it : FI} {t : T1} {c : F} {cls : List Cl} (hi : ∀ B, IsBlk X scope B → DI B Z g.target g.iter it) (hf : ∀ env x, foldedSetIterable g.iter env x = pure x) (h : ClOk X scope Z vs g t c) (r : Cls X scope Z vs gs cls) : Cls X scope Z vs (g :: gs) ((it, t, c) :: cls)
/-- what is done with an element, within the block -/
def LfOk (X : Cx) (scope : Scope) (ck : CK) (ak : AK) (leaf : Lf) : Prop :=
  ∀ (B : Cx) (pins : List (Addr × Obj)) (s : Shared) (W : Fb) (D : Addr) (env env' : Nv) (σ : St) (H : Hp) (acc acc' : DL.D), IsBlk X scope B → L2.Inv B pins σ H s → AS X.K W env σ H → AccR X.K D ak H (All W env σ) acc → W D → ¬ Own env σ D → leaf env acc = some (env', acc') →
    wpAny (model X.prog X.w) X.A (emitC ck (.ref D) B.env) (fun _ s' => ∃ H', L2.Inv B pins σ H' s' ∧ AS X.K W env' σ H' ∧ AccR X.K D ak H' (All W env' σ) acc' ∧
      (∀ a o, a ≠ D → H a = some o → ¬ Own env σ a → H' a = some o) ∧ (∀ a, Own env' σ a → Own env σ a ∨ H a = none) ∧ ∀ a, H' a = none → H a = none) (fun _ _ => False) s
end DL

set_option Elab.async false
set_option linter.all false
set_option maxRecDepth 100000
namespace DL
open PySem PySem.Spec PyProof.Rows L2
section
variable {X : Cx} {scope : Scope} {Z : Wsh} {vs : List Nat} {ck : CK} {ak : AK} {leaf : Lf} {gens : List Comprehension} {pos : Pos} {D : Addr} {W : Fb} {B : Cx} {env0 : Nv} {σ0 : St} {H0 : Hp}
abbrev FF : Value → Shared → Prop := fun _ _ => False
/-- behind a turn: the iterator's records stand as they were pinned -/
theorem unpin {pins : List (Addr × Obj)} {σ' : St} {H' : Hp} {s2 s' : Shared} {fp : List Addr} {it : Addr} {J : It} {tn : Nat → Heap → Prop} {tg : Expr} {i : Nat} (T : Turn X.prog X.w X.K tg J fp it tn) (st : tn i s2.heap) (I' : L2.Inv B (pins ++ pinsAt fp s2.heap) σ' H' s') :
    L2.Inv B pins σ' H' s' ∧ tn i s'.heap ∧ ∀ b ∈ fp, H' b = none := by
  have pin' : ∀ b ∈ fp, ∀ o, s2.heap.get? b = some o → s'.heap.get? b = some o ∧ H' b = none := fun b hb o e =>
    let z := I'.pin (b, o) (List.mem_append_right _ (List.mem_append_right _ (mem_pinsAt hb e)))
    ⟨z.1, z.2.1⟩
  refine ⟨I'.unpinned, T.keep _ _ _ st fun b hb o e => (pin' b hb o e).1, fun b hb => ?_⟩
  obtain ⟨o, e, _⟩ := T.obj _ _ st b hb
  exact (pin' b hb o e).2
theorem turn_pre {pins : List (Addr × Obj)} {s : Shared} {σ σb : St} {H Hb : Hp} {fp : List Addr} {it : Addr} {J : It} {tn : Nat → Heap → Prop} {g : Comprehension} {t : T1} {c : F} {i : Nat} {ds : List DL.D} {d acc : DL.D} {env envb env1 env2 : Nv} {b : Bool}
    (hc : X.calm = true) (hB : IsBlk X scope B) (ok : ClOk X scope Z vs g t c) (T : Turn X.prog X.w X.K g.target J fp it tn) (st : tn i s.heap) (I : L2.Inv B pins σ H s) (hf : ∀ b ∈ fp, FpOk B pins H b) (y : Yld X.K (All W envb σb) Hb ds J) (hd : ds[i]? = some d)
    (bi : BI X.K W D ak vs env0 σ0 H0 env σ H acc) (sw : Stw W envb σb Hb env σ H) (e1 : t d env = some env1) (e2 : c env1 = some (.ok (.val (.bl b)) env2)) :
    wpAny (model X.prog X.w) X.A (pyNext (.ref it)) (fun r s1 => ∃ v, r = some v ∧ wpAny (model X.prog X.w) X.A (letOwnedTupleGo g.target (.ref it) v) (fun _ s2 => wpAny (model X.prog X.w) X.A (assign g.target B.env v) (fun _ s3 =>
      wpAny (model X.prog X.w) X.A (testsC g.ifs B.env) (fun r s4 => r = b ∧ ∃ σ4 H4, L2.Inv B (pins ++ pinsAt fp s2.heap) σ4 H4 s4 ∧ BI X.K W D ak vs env0 σ0 H0 env2 σ4 H4 acc ∧ Stw W env σ H env2 σ4 H4 ∧ tn (i + 1) s2.heap) FF s3) FF s2) FF s1) FF s := by
  obtain ⟨ix, hix, htg⟩ := ok.tg
  have pg := htg B hB
  have pt := ok.ts B hB
  obtain ⟨sb, hb, C, cl, fpb, rfl⟩ := hB
  have hlt : i < ds.length := (List.getElem?_eq_some_iff.mp hd).1
  refine thn (T.item (X.blk sb hb scope (compEnvC scope cl C X.env) fpb) rfl rfl rfl hc i pins s σ H FF I hf st (y.go i H hlt sw.kept)) fun r s1 ⟨u, hr, h1⟩ => ⟨u, hr, ?_⟩
  refine thn h1 fun _ s2 ⟨x, H2, I2, r2, y2, st2, n2⟩ => ?_
  obtain ⟨k1, k2, k3⟩ := y.yld i H x H2 d hd sw.kept y2
  have I2' := I2.pinned (X := X.blk sb hb scope (compEnvC scope cl C X.env) fpb) (fun b hb => ⟨n2 b hb, (hf b hb).2⟩) (T.obj _ _ st2)
  have A2 : AS X.K W env σ H2 := bi.as.grow k1
  have s02 : Stp env σ H env σ H2 := ⟨fun a o h _ => k1 a o h, fun a z => .inl z, k2⟩
  have b2 := bi.step s02 A2 rfl
  have rx : Rep X.K H2 (All W env σ) d x := k3 _ fun a z => by
    rcases z with z | z
    · exact .inl (.inl z)
    · exact (sw.own a z).imp .inr id
  have q : tG X.K ix t x σ H2 (fun σ3 H3 => BI X.K W D ak vs env0 σ0 H0 env1 σ3 H3 acc ∧ Stw W env σ H env1 σ3 H3) := by
    refine ⟨W, env, d, A2, rx, ?_⟩
    rw [e1]
    intro σ3 H3 s3 A3 al
    exact ⟨b2.step s3 A3 (al.wipe hix), s02.stw.trans s3.stw⟩
  refine thn (pg.run _ s2 σ H2 x u _ I2' r2 q) fun _ s3 ⟨σ3, H3, I3, b3, w3⟩ => ?_
  have q4 : tT X.K Z c σ3 H3 (fun r H4 => r = b ∧ BI X.K W D ak vs env0 σ0 H0 env2 σ3 H4 acc ∧ Stw W env σ H env2 σ3 H4) := by
    refine ⟨W, env1, b3.as, ?_⟩
    rw [e2]
    intro H4 s4 A4
    exact ⟨rfl, b3.step s4 A4 rfl, w3.trans s4.stw⟩
  exact thn (pt.run _ s3 σ3 H3 _ I3 q4) fun r s4 ⟨H4, I4, hr, b4, w4⟩ => ⟨hr, σ3, H4, I4, b4, w4, st2⟩
theorem loopC_cons {t : T1} {c : F} {k : Lf} {d : DL.D} {ds : List DL.D} {env : Nv} {acc : DL.D} {r : Nv × DL.D} (h : loopC t c k (d :: ds) env acc = some r) :
    ∃ e1 b e2, t d env = some e1 ∧ c e1 = some (.ok (.val (.bl b)) e2) ∧ (b = true → ∃ e3 a3, k e2 acc = some (e3, a3) ∧ loopC t c k ds e3 a3 = some r) ∧ (b = false → loopC t c k ds e2 acc = some r) := by
  unfold loopC at h
  cases z1 : t d env with
  | none => simp only [z1] at h; cases h
  | some e1 =>
    simp only [z1] at h
    split at h
    · rename_i e2 z2
      split at h
      · rename_i e3 a3 z3
        exact ⟨e1, true, e2, rfl, z2, ⟨fun _ => ⟨e3, a3, z3, h⟩, fun q => by simp at q⟩⟩
      · cases h
    · rename_i e2 z2
      exact ⟨e1, false, e2, rfl, z2, ⟨fun q => by simp at q, fun _ => h⟩⟩
    · cases h
/-- what holds between the turns of a clause's loop -/
def LI (X : Cx) (B : Cx) (W : Fb) (D : Addr) (ak : AK) (vs : List Nat) (env0 : Nv) (σ0 : St) (H0 : Hp) (pins : List (Addr × Obj)) (fp : List Addr) (tn : Nat → Heap → Prop) (ds : List DL.D) (env : Nv) (σ : St) (H : Hp) (lp : List DL.D → Lf) (fin : Nv × DL.D) : Nat → Shared → Prop := fun n s' =>
  ∃ i env' σ' H' acc', n = ds.length - i ∧ i ≤ ds.length ∧ L2.Inv B pins σ' H' s' ∧ tn i s'.heap ∧ (∀ b ∈ fp, H' b = none) ∧ BI X.K W D ak vs env0 σ0 H0 env' σ' H' acc' ∧ Stw W env σ H env' σ' H' ∧ lp (ds.drop i) env' acc' = some fin
theorem li_next {pins : List (Addr × Obj)} {fp : List Addr} {it : Addr} {J : It} {tg : Expr} {tn : Nat → Heap → Prop} {ds : List DL.D} {env : Nv} {σ : St} {H : Hp} {lp : List DL.D → Lf} {fin : Nv × DL.D} {i : Nat} {s2 s' : Shared} {σ' : St} {H' : Hp} {env' : Nv} {acc' : DL.D}
    (T : Turn X.prog X.w X.K tg J fp it tn) (hi : i < ds.length) (st : tn (i + 1) s2.heap) (I : L2.Inv B (pins ++ pinsAt fp s2.heap) σ' H' s') (b : BI X.K W D ak vs env0 σ0 H0 env' σ' H' acc') (w : Stw W env σ H env' σ' H') (p : lp (ds.drop (i + 1)) env' acc' = some fin) :
    ∃ m, m < ds.length - i ∧ LI X B W D ak vs env0 σ0 H0 pins fp tn ds env σ H lp fin m s' := by
  obtain ⟨I3, st3, n3⟩ := unpin T st I
  exact ⟨ds.length - (i + 1), by omega, i + 1, env', σ', H', acc', rfl, hi, I3, st3, n3, b, w, p⟩
theorem drop_cons {α : Type} {ds : List α} {i : Nat} {d : α} (h : ds[i]? = some d) : ds.drop i = d :: ds.drop (i + 1) := by
  have hlt := (List.getElem?_eq_some_iff.mp h).1
  rw [List.drop_eq_getElem_cons hlt]
  congr 1
  rw [List.getElem?_eq_getElem hlt] at h
  exact Option.some.inj h
theorem comp_loop (hc : X.calm = true) (hB : IsBlk X scope B) (wD : W D) (h0 : H0 D = none) (L : LfOk X scope ck ak leaf) : ∀ {gs : List Comprehension} {cls : List Cl}, Cls X scope Z vs gs cls →
    ∀ {k : Nat} {g : Comprehension} {t : T1} {c : F}, gens[k]? = some g → gens.drop (k + 1) = gs → ClOk X scope Z vs g t c →
    ∀ {pins : List (Addr × Obj)} {it : Addr} {fp : List Addr} {J : It} {tn : Nat → Heap → Prop} {envb : Nv} {σb : St} {Hb : Hp} {ds : List DL.D} {s : Shared} {env envE : Nv} {σ : St} {H : Hp} {acc accE : DL.D} {R : Result → Shared → Prop},
    Turn X.prog X.w X.K g.target J fp it tn → tn 0 s.heap → (∀ b ∈ fp, FpOk B pins H b) → Yld X.K (All W envb σb) Hb ds J → L2.Inv B pins σ H s → BI X.K W D ak vs env0 σ0 H0 env σ H acc → Stw W envb σb Hb env σ H → loopC t c (compC leaf cls) ds env acc = some (envE, accE) →
    (∀ s' σ' H', L2.Inv B pins σ' H' s' → BI X.K W D ak vs env0 σ0 H0 envE σ' H' accE → Stw W env σ H envE σ' H' → R (.ok .next) s') →
    codeAny (model X.prog X.w) X.A (.compLoop (mkC ck gens scope pos) k (.ref it) (.ref D) B.env) R s := by
  intro gs cls hcl
  have ending : ∀ {g : Comprehension} {J : It} {fp : List Addr} {it : Addr} {tn : Nat → Heap → Prop} {pins : List (Addr × Obj)} {s1 : Shared} {σ1 : St} {H1 : Hp} {ds : List DL.D} {envb : Nv} {σb : St} {Hb : Hp} {env1 : Nv}, Turn X.prog X.w X.K g.target J fp it tn → Yld X.K (All W envb σb) Hb ds J → Stw W envb σb Hb env1 σ1 H1 → L2.Inv B pins σ1 H1 s1 → (∀ b ∈ fp, FpOk B pins H1 b) → tn ds.length s1.heap →
      wpAny (model X.prog X.w) X.A (pyNext (.ref it)) (fun r s2 => r = none ∧ L2.Inv B pins σ1 H1 s2) FF s1 := fun {g J fp it tn pins s1 σ1 H1 ds envb σb Hb env1} T y sw I hf st => by
    obtain ⟨sb, hb, C, cl, fpb, rfl⟩ := hB
    exact T.done (X.blk sb hb scope (compEnvC scope cl C X.env) fpb) rfl rfl rfl hc _ pins s1 σ1 H1 FF I hf st (y.stop H1 sw.kept)
  induction hcl with
  | nil =>
    intro k g t c hg hd ok pins it fp J tn envb σb Hb ds s env envE σ H acc accE R T st hf y I bi sw e fin
    have hg2 : gens[k + 1]? = none := by
      have := congrArg (·[0]?) hd
      simpa using this
    refine loop_last hg ok.sync hg2 (LI X B W D ak vs env0 σ0 H0 pins fp tn ds env σ H (loopC t c (compC leaf [])) (envE, accE)) ?_ ds.length ⟨0, env, σ, H, acc, rfl, Nat.zero_le _, I, st, fun b hb => (hf b hb).1, bi, .refl, e⟩
    rintro n s1 ⟨i, env1, σ1, H1, acc1, rfl, hi, I1, st1, n1, b1, w1, p1⟩
    have hf1 : ∀ b ∈ fp, FpOk B pins H1 b := fun b hb => ⟨n1 b hb, (hf b hb).2⟩
    by_cases hlt : i < ds.length
    · obtain ⟨d, hd1⟩ : ∃ d, ds[i]? = some d := ⟨ds[i], by simp [hlt]⟩
      rw [drop_cons hd1] at p1
      obtain ⟨e1, b, e2, z1, z2, hy, hn⟩ := loopC_cons p1
      refine thnF (turn_pre hc hB ok T st1 I1 hf1 y hd1 b1 (sw.trans w1) z1 z2) fun r s2 ⟨v, hr, h2⟩ => ?_
      subst hr
      refine thnF h2 fun _ s3 h3 => thnF h3 fun _ s4 h4 => thnF h4 fun r s5 ⟨hr, σ5, H5, I5, b5, w5, st5⟩ => ?_
      subst hr
      cases r with
      | false =>
        rw [if_neg Bool.false_ne_true]
        exact li_next T hlt st5 I5 b5 (w1.trans w5) (hn rfl)
      | true =>
        rw [if_pos rfl]
        obtain ⟨e3, a3, z3, p3⟩ := hy rfl
        refine thnF (L B _ s5 W D e2 e3 σ5 H5 acc1 a3 hB I5 b5.as b5.acc wD b5.nown z3) fun _ s6 ⟨H6, I6, A6, r6, k6, o6, t6⟩ => ?_
        have sB : Stw W e2 σ5 H5 e3 σ5 H6 := ⟨fun a o h n => k6 a o (fun q => n (.inl (by rw [q]; exact wD))) h fun q => n (.inr q), fun a z => o6 a z, t6⟩
        refine li_next T hlt st5 I6 ⟨A6, r6, fun q => (o6 D q).elim b5.nown fun q2 => by have m := b5.acc.some; rw [q2] at m; exact m.elim, ⟨fun a o h n => ?_, fun a z => (o6 a z).elim (b5.stp.own a) fun q => .inr (b5.stp.there a q), fun a z => b5.stp.there a (t6 a z)⟩, b5.al⟩ ((w1.trans w5).trans sB) p3
        exact k6 a o (ne_of_none h h0) (b5.stp.keep a o h n) fun q => (b5.stp.own a q).elim n fun q2 => by rw [h] at q2; cases q2
    · have e0 : i = ds.length := by omega
      subst e0
      rw [List.drop_length] at p1
      cases p1
      refine thnF (ending T y (sw.trans w1) I1 hf1 st1) fun r s2 ⟨hr, I2⟩ => ?_
      subst hr
      exact fin s2 σ1 H1 I2 b1 w1
  | @cons g2 gs' itf t2 c2 cls' hi hfs hcl' ok2 ih =>
    intro k g t c hg hd ok pins it fp J tn envb σb Hb ds s env envE σ H acc accE R T st hf y I bi sw e fin
    have hg2 : gens[k + 1]? = some g2 := by
      have := congrArg (·[0]?) hd
      simpa using this
    have hd2 : gens.drop (k + 1 + 1) = gs' := by
      have := congrArg (·.drop 1) hd
      simpa using this
    refine loop_mid hg ok.sync hg2 hcl'.sync (hfs B.env) (LI X B W D ak vs env0 σ0 H0 pins fp tn ds env σ H (loopC t c (compC leaf ((itf, t2, c2) :: cls'))) (envE, accE)) ?_ ds.length ⟨0, env, σ, H, acc, rfl, Nat.zero_le _, I, st, fun b hb => (hf b hb).1, bi, .refl, e⟩
    rintro n s1 ⟨i, env1, σ1, H1, acc1, rfl, hi', I1, st1, n1, b1, w1, p1⟩
    have hf1 : ∀ b ∈ fp, FpOk B pins H1 b := fun b hb => ⟨n1 b hb, (hf b hb).2⟩
    by_cases hlt : i < ds.length
    · obtain ⟨d, hd1⟩ : ∃ d, ds[i]? = some d := ⟨ds[i], by simp [hlt]⟩
      rw [drop_cons hd1] at p1
      obtain ⟨e1, b, e2, z1, z2, hy, hn⟩ := loopC_cons p1
      refine thnF (turn_pre hc hB ok T st1 I1 hf1 y hd1 b1 (sw.trans w1) z1 z2) fun r s2 ⟨v, hr, h2⟩ => ?_
      subst hr
      refine thnF h2 fun _ s3 h3 => thnF h3 fun _ s4 h4 => thnF h4 fun r s5 ⟨hr, σ5, H5, I5, b5, w5, st5⟩ => ?_
      subst hr
      cases r with
      | false =>
        rw [if_neg Bool.false_ne_true]
        exact li_next T hlt st5 I5 b5 (w1.trans w5) (hn rfl)
      | true =>
        rw [if_pos rfl]
        obtain ⟨e3, a3, z3, p3⟩ := hy rfl
        unfold compC at z3
        cases z4 : itf e2 with
        | none => simp only [z4] at z3; cases z3
        | some io =>
          cases io with
          | exc x e => simp only [z4] at z3; cases z3
          | ok ds2 e4 =>
            simp only [z4] at z3
            have pi2 := hi B hB
            have q2 : tI X.K Z itf σ5 H5 (fun J2 H6 => Stp e2 σ5 H5 e4 σ5 H6 ∧ AS X.K W e4 σ5 H6 ∧ Yld X.K (All W e4 σ5) H6 ds2 J2) := by
              refine ⟨W, e2, b5.as, ?_⟩
              rw [z4]
              exact fun J2 H6 s6 A6 y6 => ⟨s6, A6, y6⟩
            obtain ⟨sb, hb, C, cl, fpb, hBe⟩ := hB
            subst hBe
            refine thnF (pi2.run _ s5 σ5 H5 _ I5 q2) fun xv s6 h6 => thnF h6 fun itv s7 h7 => ?_
            obtain ⟨it2, fp2, tn2, J2, H7, rfl, I7, T2, st7, f7, s57, A7, y7⟩ := h7
            have b7 := b5.step s57 A7 rfl
            have run : codeAny (model X.prog X.w) X.A (.compLoop (mkC ck gens scope pos) (k + 1) (.ref it2) (.ref D) (X.blk sb hb scope (compEnvC scope cl C X.env) fpb).env) (fun r s' => match r with
                | .ok _ => ∃ m, m < ds.length - i ∧ LI X (X.blk sb hb scope (compEnvC scope cl C X.env) fpb) W D ak vs env0 σ0 H0 pins fp tn ds env σ H (loopC t c (compC leaf ((itf, t2, c2) :: cls'))) (envE, accE) m s'
                | .error _ => False) s7 := by
              refine ih hg2 hd2 hcl' T2 st7 f7 y7 I7 b7 .refl z3 fun s8 σ8 H8 I8 b8 w8 => ?_
              exact li_next T hlt st5 I8 b8 (((w1.trans w5).trans s57.stw).trans w8) p3
            exact comp_start hg2 hcl'.sync run (T2.self X.A 0 _ _ _ st7 run)
    · have e0 : i = ds.length := by omega
      subst e0
      rw [List.drop_length] at p1
      cases p1
      refine thnF (ending T y (sw.trans w1) I1 hf1 st1) fun r s2 ⟨hr, I2⟩ => ?_
      subst hr
      exact fin s2 σ1 H1 I2 b1 w1
end
end DL

set_option Elab.async false
set_option linter.all false
set_option maxRecDepth 100000
namespace DL
open PySem PySem.Spec PyProof.Rows L2
/-! ### a comprehension as a whole -/
def wipeE (env : Nv) : List Nat → Nv
  | [] => env
  | v :: vs => (wipeE env vs).set v none
def noOwn (env : Nv) (vs : List Nat) : Bool := vs.all fun v => match env[v]? with
  | some (some (.own _ _)) => false
  | some (some (.lck _)) => false
  | _ => true
def restE (env1 : Nv) : List Nat → Nv → Nv
  | [], e => e
  | v :: vs, e => (restE env1 vs e).set v (env1[v]?.getD none)
section
variable {K : PySem.W.Frag} {W : Fb} {env env1 e : Nv} {σ σE : St} {H HE : Hp} {vs : List Nat} {D : Addr}
theorem wipeE_len : ∀ {vs : List Nat}, (wipeE env vs).length = env.length
  | [] => rfl
  | v :: vs => by unfold wipeE; rw [List.length_set, wipeE_len]
theorem wipeE_get {j : Nat} : ∀ {vs : List Nat}, (wipeE env vs)[j]? = if j ∈ vs then (if j < env.length then some none else none) else env[j]?
  | [] => by simp [wipeE]
  | v :: vs => by
    unfold wipeE
    by_cases h : v = j
    · subst h
      rw [if_pos List.mem_cons_self]
      by_cases hl : v < env.length
      · rw [List.getElem?_set_self (by rw [wipeE_len]; exact hl), if_pos hl]
      · rw [List.getElem?_eq_none (by rw [List.length_set, wipeE_len]; omega), if_neg hl]
    · rw [List.getElem?_set_ne h, wipeE_get]
      by_cases m : j ∈ vs
      · rw [if_pos m, if_pos (List.mem_cons_of_mem _ m)]
      · rw [if_neg m, if_neg (by simp only [List.mem_cons, not_or]; exact ⟨fun e => h e.symm, m⟩)]
theorem restE_len : ∀ {vs : List Nat}, (restE env1 vs e).length = e.length
  | [] => rfl
  | v :: vs => by unfold restE; rw [List.length_set, restE_len]
theorem restE_get {j : Nat} : ∀ {vs : List Nat}, (restE env1 vs e)[j]? = if j ∈ vs then (if j < e.length then some (env1[j]?.getD none) else none) else e[j]?
  | [] => by simp [restE]
  | v :: vs => by
    unfold restE
    by_cases h : v = j
    · subst h
      rw [if_pos List.mem_cons_self]
      by_cases hl : v < e.length
      · rw [List.getElem?_set_self (by rw [restE_len]; exact hl), if_pos hl]
      · rw [List.getElem?_eq_none (by rw [List.length_set, restE_len]; omega), if_neg hl]
    · rw [List.getElem?_set_ne h, restE_get]
      by_cases m : j ∈ vs
      · rw [if_pos m, if_pos (List.mem_cons_of_mem _ m)]
      · rw [if_neg m, if_neg (by simp only [List.mem_cons, not_or]; exact ⟨fun e => h e.symm, m⟩)]
theorem noOwn_at (h : noOwn env vs = true) {j : Nat} (hj : j ∈ vs) {b : Bool} {d : DL.D} : env[j]? ≠ some (some (Sl.own b d)) := fun e => by
  have := List.all_eq_true.mp h j hj
  rw [e] at this
  cases this
theorem noOwn_lck (h : noOwn env vs = true) {j : Nat} (hj : j ∈ vs) {kvs : List (List Key × DL.D)} : env[j]? ≠ some (some (Sl.lck kvs)) := fun e => by
  have := List.all_eq_true.mp h j hj
  rw [e] at this
  cases this
theorem wipe_own (h : noOwn env vs = true) {a : Addr} : Own (wipeE env vs) (wipe σ vs) a ↔ Own env σ a := by
  constructor
  · rintro ⟨j, b, d, h1, h2⟩
    rw [wipeE_get] at h1
    rw [wipe_get] at h2
    by_cases m : j ∈ vs
    · rw [if_pos m] at h1; split at h1 <;> cases h1
    · rw [if_neg m] at h1 h2; exact ⟨j, b, d, h1, h2⟩
  · rintro ⟨j, b, d, h1, h2⟩
    have m : j ∉ vs := fun m => noOwn_at h m h1
    exact ⟨j, b, d, by rw [wipeE_get, if_neg m]; exact h1, by rw [wipe_get, if_neg m]; exact h2⟩
theorem wipe_as (A : AS K W env σ H) (h : noOwn env vs = true) : AS K W (wipeE env vs) (wipe σ vs) H := by
  have al : ∀ a, All W (wipeE env vs) (wipe σ vs) a → All W env σ a := fun a z => z.imp id (wipe_own h).mp
  have pick : ∀ {j : Nat} {x : Sl}, (wipeE env vs)[j]? = some (some x) → j ∉ vs ∧ env[j]? = some (some x) := fun {j x} e => by
    rw [wipeE_get] at e
    by_cases m : j ∈ vs
    · rw [if_pos m] at e; split at e <;> cases e
    · rw [if_neg m] at e; exact ⟨m, e⟩
  refine ⟨by rw [wipeE_len, wipe_length]; exact A.len, fun i d e => ?_, fun i c d e => ?_, fun i j b c d d' a h1 h2 h3 h4 => ?_, A.trk, fun i kvs e => ?_, fun i x dd fs e => ?_⟩
  · obtain ⟨m, e⟩ := pick e
    obtain ⟨v, q, r⟩ := A.val i d e
    exact ⟨v, by rw [wipe_get, if_neg m]; exact q, r.anti al⟩
  · obtain ⟨m, e⟩ := pick e
    obtain ⟨v, q, r, g⟩ := A.own i c d e
    exact ⟨v, by rw [wipe_get, if_neg m]; exact q, r.anti al, g⟩
  · obtain ⟨m1, h1⟩ := pick h1
    obtain ⟨m2, h2⟩ := pick h2
    rw [wipe_get, if_neg m1] at h3
    rw [wipe_get, if_neg m2] at h4
    exact A.dis i j _ _ _ _ a h1 h2 h3 h4
  · obtain ⟨m, e⟩ := pick e
    obtain ⟨a, o, kxs, q, g2, g3, g4⟩ := A.lck i kvs e
    exact ⟨a, o, kxs, by rw [wipe_get, if_neg m]; exact q, g2, g3, g4.anti al⟩
  · obtain ⟨m, e⟩ := pick e
    rw [wipe_get, if_neg m]; exact A.exn i x dd fs e
/-- back from the block -/
theorem rest_as (A : AS K W env1 σ H) (AE : AS K (Plus W D) e σE HE) (hn : noOwn env1 vs = true) (hw : wipe σE vs = wipe σ vs) (s : Stp env1 σ H e σE HE) (hD : H D = none) :
    AS K (Plus W D) (restE env1 vs e) σ HE ∧ ∀ a, Own (restE env1 vs e) σ a → Own e σE a := by
  have out : ∀ {j : Nat}, j ∉ vs → σE[j]? = σ[j]? := fun {j} m => by
    have := congrArg (·[j]?) hw
    simp only [wipe_get, if_neg m] at this
    exact this
  have len : σE.length = σ.length := by
    have := congrArg List.length hw
    rw [wipe_length, wipe_length] at this
    exact this
  have pick : ∀ {j : Nat} {x : Sl}, (restE env1 vs e)[j]? = some (some x) → (j ∈ vs ∧ env1[j]? = some (some x)) ∨ (j ∉ vs ∧ e[j]? = some (some x)) := fun {j x} q => by
    rw [restE_get] at q
    by_cases m : j ∈ vs
    · rw [if_pos m] at q
      split at q
      · refine .inl ⟨m, ?_⟩
        cases z : env1[j]? with
        | none => rw [z] at q; cases q
        | some o => rw [z] at q; have q : some o = some (some x) := q; cases q; rfl
      · cases q
    · rw [if_neg m] at q; exact .inr ⟨m, q⟩
  have ow : ∀ a, Own (restE env1 vs e) σ a → Own e σE a := fun a ⟨j, b, d, h1, h2⟩ => by
    rcases pick h1 with ⟨m, h1⟩ | ⟨m, h1⟩
    · exact absurd h1 (noOwn_at hn m)
    · exact ⟨j, b, d, h1, by rw [out m]; exact h2⟩
  have al : ∀ a, All (Plus W D) (restE env1 vs e) σ a → All (Plus W D) e σE a := fun a z => z.imp id (ow a)
  refine ⟨⟨by rw [restE_len, AE.len, len], fun i d q => ?_, fun i c d q => ?_, fun i j b c d d' a h1 h2 h3 h4 => ?_, AE.trk, fun i kvs q => ?_, fun i x dd fs q => ?_⟩, ow⟩
  · rcases pick q with ⟨m, q⟩ | ⟨m, q⟩
    · obtain ⟨v, q1, r⟩ := A.val i d q
      refine ⟨v, q1, rep_kept A.mt r s.kept fun a z => ?_⟩
      rcases al a z with (z | z) | z
      · exact .inl (.inl z)
      · exact .inr (z ▸ hD)
      · exact (s.own a z).imp .inr id
    · obtain ⟨v, q1, r⟩ := AE.val i d q
      exact ⟨v, by rw [← out m]; exact q1, r.anti al⟩
  · rcases pick q with ⟨m, q⟩ | ⟨m, q⟩
    · exact absurd q (noOwn_at hn m)
    · obtain ⟨v, q1, r, g⟩ := AE.own i c d q
      exact ⟨v, by rw [← out m]; exact q1, r.anti al, g⟩
  · rcases pick h1 with ⟨m, h1⟩ | ⟨m, h1⟩
    · exact absurd h1 (noOwn_at hn m)
    · rcases pick h2 with ⟨m2, h2⟩ | ⟨m2, h2⟩
      · exact absurd h2 (noOwn_at hn m2)
      · rw [← out m] at h3
        rw [← out m2] at h4
        exact AE.dis i j _ _ _ _ a h1 h2 h3 h4
  · rcases pick q with ⟨m, q⟩ | ⟨m, q⟩
    · exact absurd q (noOwn_lck hn m)
    · obtain ⟨a, o, kxs, g1, g2, g3, g4⟩ := AE.lck i kvs q
      exact ⟨a, o, kxs, by rw [← out m]; exact g1, g2, g3, g4.anti al⟩
  · rcases pick q with ⟨m, q⟩ | ⟨m, q⟩
    · obtain ⟨g1, g2⟩ := A.exn i x dd fs q
      refine ⟨g1, g2.keep fun u hu => s.keep _ _ hu fun w => ?_⟩
      obtain ⟨j, b, d, e1, e2⟩ := w
      obtain ⟨a', r1, r2, _⟩ := A.own j b d e1
      rw [e2] at r1; cases r1
      cases d with
      | lst ds => obtain ⟨xs, e, _⟩ := r2; rw [hu] at e; cases e
      | dct ds => obtain ⟨xs, e, _⟩ := r2; rw [hu] at e; cases e
      | dci ds => have e := r2.1; rw [hu] at e; cases e
      | _ => exact r2.elim
    · rw [← out m]; exact AE.exn i x dd fs q
end
def newC (ck : CK) : Sem Value := match ck with
  | .lst _ => newList []
  | .dct _ _ => newDict
  | .set _ => newSet (.type "set")
/-- the new thing -/
def NewOk (X : Cx) (ck : CK) (ak : AK) (o0 : Addr → HO) (acc0 : DL.D) : Prop :=
  (∀ D, Mut (some (o0 D))) ∧ (∀ (D : Addr) (H : Hp) (U : Fb), H D = some (o0 D) → AccR X.K D ak H U acc0) ∧
  ∀ {A : Around} {E : Value → Shared → Prop} {Q : Value → Shared → Prop} (pins : List (Addr × Obj)) (σ : St) (H : Hp) (s : Shared), L2.Inv X pins σ H s →
    (∀ s3, L2.Inv X pins σ (upd H s.heap.objs.size (o0 s.heap.objs.size)) s3 → (∃ o, s3.heap = s.heap.push o) → Q (.ref s.heap.objs.size) s3) → wpAny (model X.prog X.w) A (newC ck) Q E s
def compG (it : FI) (t : T1) (c : F) (cls : List Cl) (vs : List Nat) (leaf : Lf) (acc0 : DL.D) (fin : DL.D → Nv → Option Out) : F := fun env => match it env with
  | some (.ok ds e1) => if noOwn e1 vs then match loopC t c (compC leaf cls) ds (wipeE e1 vs) acc0 with
    | some (eE, acc) => fin acc (restE e1 vs eE)
    | none => none
    else none
  | some (.exc x e) => some (.exc x e)
  | none => none
section
variable {X : Cx} {scope : Scope} {Z Z' : Wsh} {ck : CK} {ak : AK} {leaf : Lf} {g : Comprehension} {gs : List Comprehension} {cls : List Cl} {own : List (Str × Nat)} {it : FI} {t : T1} {c : F} {acc0 : DL.D} {o0 : Addr → HO} {pos pos' : Pos} {use : Option (Value → Sem Unit)} {Qf : Value → Shared → Prop}
theorem comp_core (hc : X.calm = true) (hN : X.N.Nodup) (ok : BlkOk X.N X.env.scope scope own) (hi : DI X Z g.target g.iter it) (hf : ∀ x, foldedSetIterable g.iter X.env x = pure x) (hg : ClOk X scope Z' (own.map (·.2)) g t c) (hcl : Cls X scope Z' (own.map (·.2)) gs cls) (L : LfOk X scope ck ak leaf) (N : NewOk X ck ak o0 acc0)
    {pins : List (Addr × Obj)} {s : Shared} {σ : St} {H : Hp} {W : Fb} {env : Nv} {fin : DL.D → Nv → Option Out} {Q : VK} (I : L2.Inv X pins σ H s) (A : AS X.K W env σ H) (P : Pend X.K W Z env σ H Q (compG it t c cls (own.map (·.2)) leaf acc0 fin env))
    (hRR : ∀ D C s' m H' acc e', L2.Inv X pins σ H' s' → s'.heap.Ns C m → FpOk X pins H' C → H D = none → Stp env σ H e' σ H' → AS X.K (Plus W D) e' σ H' → ¬ Own e' σ D → ¬ W D → AccR X.K D ak H' (All (Plus W D) e' σ) acc → Pend X.K W Z env σ H Q (fin acc e') → compPost (model X.prog X.w) X.A X.xe use Qf (.ref D) C (.ok .next) s') :
    wpAny (model X.prog X.w) X.A (comprehension (mkC ck (g :: gs) scope pos) scope X.env pos' (newC ck) false (eval g.iter X.env) use) Qf X.xe s := by
  have hfree : ∀ y ∈ scope.names, y.2 = .free → ∃ c, X.env.cells.lookup y.1 = some c := fun y hy e => by
    rcases ok.free y hy e with k | k
    · exact I.ok.has _ (.inl k)
    · exact I.ok.has _ (.inr k)
  have clz : clausesOf (mkC ck (g :: gs) scope pos) = g :: gs := by cases ck <;> rfl
  have q0 : tI X.K Z it σ H (fun J H1 => ∃ ds e1, it env = some (.ok ds e1) ∧ Stp env σ H e1 σ H1 ∧ AS X.K W e1 σ H1 ∧ Yld X.K (All W e1 σ) H1 ds J) := by
    refine ⟨W, env, A, ?_⟩
    unfold compG at P
    revert P
    cases it env with
    | none => intro P; exact P.elim
    | some io =>
      cases io with
      | exc x e => intro P; exact fun cls d H' s1 A1 x1 => P cls d H' s1 A1 x1
      | ok ds e1 => intro P J H1 s1 A1 y1; exact ⟨ds, e1, rfl, s1, A1, y1⟩
  refine wpAny_comprehension_free (use := use) clz hf (closure_ok hfree) ok.kind (fun y hy e => by rw [ok.uniq y hy, e])
    (thn (hi.run pins s σ H _ I q0) fun xv s1 hx => thn hx fun itv s2 h2 => ?_)
  obtain ⟨itA, fp, tn, J, H2, rfl, I2, T, st2, f2, ds, e1, zi, s12, A2, y2⟩ := h2
  unfold compG at P
  rw [zi] at P
  simp only at P
  by_cases nO : noOwn e1 (own.map (·.2)) = true
  rotate_left
  · rw [if_neg nO] at P; exact P.elim
  rw [if_pos nO] at P
  cases zl : loopC t c (compC leaf cls) ds (wipeE e1 (own.map (·.2))) acc0 with
  | none => simp only [zl] at P; exact P.elim
  | some pr =>
    obtain ⟨eE, acc⟩ := pr
    simp only [zl] at P
    obtain ⟨mo, accR, nw⟩ := N
    refine nw pins σ H2 s2 I2 fun s3 I3 ⟨ob, hp⟩ => newEnv_comp ?_
    generalize hD : s2.heap.objs.size = D at I3 ⊢
    have hDn : H2 D = none := I2.hok.fresh (Nat.le_of_eq hD)
    have sz : ∀ b ∈ fp, b < s2.heap.objs.size := fun b hb => by
      obtain ⟨o, e, _⟩ := T.obj _ _ st2 b hb
      exact Heap.lt_size e
    have f3 : ∀ b ∈ fp, FpOk X pins (upd H2 D (o0 D)) b ∧ b < s3.heap.objs.size := fun b hb => by
      have hlt := sz b hb
      refine ⟨⟨?_, (f2 b hb).2⟩, by rw [hp, Heap.size_push]; exact Nat.lt_succ_of_lt hlt⟩
      rw [upd_ne (by rw [← hD]; exact Nat.ne_of_lt hlt)]
      exact (f2 b hb).1
    have st3 : tn 0 s3.heap := T.keep _ _ _ st2 fun b _ o e => by rw [hp]; exact Heap.get?_push_of_some _ e
    have I4 := block_start I3 ok hN f3
    show codeAny _ _ (.compStart (mkC ck (g :: gs) scope pos) 0 (.ref itA) (.ref D) (compEnvC scope (cellsFrom (s3.heap.objs.size + 1) scope.names (cloFrom X.env.cells scope.names [])) s3.heap.objs.size X.env)) (compPost (model X.prog X.w) X.A X.xe use Qf (.ref D) s3.heap.objs.size) { s3 with heap := pushCells (s3.heap.push { cls := .type "dict", data := .dict #[] }) scope.names }
    have hB : IsBlk X scope (X.blk s3 (upd H2 D (o0 D)) scope (compEnvC scope (cellsFrom (s3.heap.objs.size + 1) scope.names (cloFrom X.env.cells scope.names [])) s3.heap.objs.size X.env) fp) := ⟨_, _, _, _, _, rfl⟩
    have st4 : tn 0 ({ s3 with heap := pushCells (s3.heap.push { cls := .type "dict", data := .dict #[] }) scope.names } : Shared).heap := T.keep _ _ _ st3 fun b _ o e => pushCells_keeps _ _ _ _ (Heap.get?_push_of_some _ e)
    generalize hBe : X.blk s3 (upd H2 D (o0 D)) scope (compEnvC scope (cellsFrom (s3.heap.objs.size + 1) scope.names (cloFrom X.env.cells scope.names [])) s3.heap.objs.size X.env) fp = B at I4 hB
    have nall := A2.none_not hDn
    have A3 : AS X.K (Plus W D) e1 σ (upd H2 D (o0 D)) := A2.forbid hDn (mo D)
    have A4 : AS X.K (Plus W D) (wipeE e1 (own.map (·.2))) (wipe σ (own.map (·.2))) (upd H2 D (o0 D)) := wipe_as A3 nO
    have s24 : Stp e1 σ H2 (wipeE e1 (own.map (·.2))) (wipe σ (own.map (·.2))) (upd H2 D (o0 D)) := by
      have z : Stp e1 σ H2 e1 σ (upd H2 D (o0 D)) := .new hDn
      exact ⟨z.keep, fun a q => .inl ((wipe_own nO).mp q), z.there⟩
    have b4 : BI X.K (Plus W D) D ak (own.map (·.2)) e1 σ H2 (wipeE e1 (own.map (·.2))) (wipe σ (own.map (·.2))) (upd H2 D (o0 D)) acc0 := by
      refine ⟨A4, accR _ _ _ upd_same, fun z => nall (.inr ((wipe_own nO).mp z)), s24, ?_⟩
      apply List.ext_getElem?
      intro j
      by_cases m : j ∈ own.map (·.2)
      · simp only [wipe_get, wipe_length, if_pos m]
      · simp only [wipe_get, wipe_length, if_neg m]
    have hf4 : ∀ b ∈ fp, FpOk B [] (upd H2 D (o0 D)) b := fun b hb => by
      subst hBe
      exact ⟨(f3 b hb).1.1, (I4.ok.exf b hb).1, I4.ok.exfs b hb, .inl hb, fun x c e => (I4.ok.exf b hb).2 x c e, fun p hp => absurd (show p ∈ ([] : List (Addr × Obj)) ++ [] from hp) (by simp)⟩
    have y4 : Yld X.K (All (Plus W D) (wipeE e1 (own.map (·.2))) (wipe σ (own.map (·.2)))) (upd H2 D (o0 D)) ds J := by
      have k0 : ∀ {H' : Hp}, Kept (All (Plus W D) (wipeE e1 (own.map (·.2))) (wipe σ (own.map (·.2)))) (upd H2 D (o0 D)) H' → Kept (All W e1 σ) H2 H' := fun {H'} k => ⟨fun a o h n => k.1 a o (by rw [upd_ne (ne_of_none h hDn)]; exact h) fun z => by
          rcases z with (z | z) | z
          · exact n (.inl z)
          · rw [z, hDn] at h; cases h
          · exact n (.inr ((wipe_own nO).mp z)), fun a h => by
          have := k.2 a h
          by_cases e : a = D
          · rw [e]; exact hDn
          · rw [upd_ne e] at this; exact this⟩
      refine ⟨fun i H' hi k => y2.go i H' hi (k0 k), fun H' k => y2.stop H' (k0 k), fun i H' x H3 d hd k yy => ?_⟩
      obtain ⟨k1, k2, k3⟩ := y2.yld i H' x H3 d hd (k0 k) yy
      refine ⟨k1, k2, fun Wk hw => k3 Wk fun a z => ?_⟩
      rcases hw a z with ((z | z) | z) | z
      · exact .inl (.inl z)
      · exact .inr (by rw [z]; exact hDn)
      · exact .inl (.inr ((wipe_own nO).mp z))
      · by_cases e : a = D
        · rw [e]; exact .inr hDn
        · rw [upd_ne e] at z; exact .inr z
    have envB : B.env = compEnvC scope (cellsFrom (s3.heap.objs.size + 1) scope.names (cloFrom X.env.cells scope.names [])) s3.heap.objs.size X.env := by rw [← hBe]
    have loop : codeAny (model X.prog X.w) X.A (.compLoop (mkC ck (g :: gs) scope pos) 0 (.ref itA) (.ref D) B.env) (compPost (model X.prog X.w) X.A X.xe use Qf (.ref D) s3.heap.objs.size) { s3 with heap := pushCells (s3.heap.push { cls := .type "dict", data := .dict #[] }) scope.names } := by
      refine comp_loop (W := Plus W D) (D := D) hc hB (.inr rfl) hDn L hcl rfl rfl hg T st4 hf4 y4 I4 b4 .refl zl fun s' σ' H' I' b' w' => ?_
      have cL : B.env.locals = s3.heap.objs.size := by rw [envB]; rfl
      have I7 : L2.Inv X pins σ H' s' := by
        subst hBe
        exact I3.call' (ch := fp) I'.os I'.base I'.hok I'.bare fun b hb => ⟨(f3 b hb).1.2.2.2.1, (f3 b hb).1.2.1, (f3 b hb).1.2.2.2.2.1, (f3 b hb).1.2.2.2.2.2⟩
      have nC : H' s3.heap.objs.size = none := by
        have z : H' B.env.locals = none := I'.free
        rw [cL] at z
        exact z
      obtain ⟨m, hn, _⟩ := I'.loc
      rw [cL] at hn
      obtain ⟨AR, oR⟩ := rest_as A2 b'.as nO b'.al b'.stp hDn
      have s27 : Stp e1 σ H2 (restE e1 (own.map (·.2)) eE) σ H' := ⟨b'.stp.keep, fun a z => b'.stp.own a (oR a z), b'.stp.there⟩
      refine hRR D s3.heap.objs.size s' m H' acc _ I7 hn (I3.fpOk (Nat.le_refl _) nC) (s12.there D hDn) (s12.trans s27) AR (fun z => b'.nown (oR D z)) (fun z => nall (.inl z)) ?_ P
      refine b'.acc.keep (M := fun _ => False) ⟨fun _ z => z.elim, fun _ _ h _ => h⟩ (fun _ z => z.elim) rfl fun a z => .inl (z.imp id (oR a))
    rw [← envB]
    refine comp_start (by rfl) hg.sync loop (T.self X.A 0 _ _ _ st4 loop)
end
end DL

set_option Elab.async false
set_option linter.all false
set_option maxRecDepth 100000
namespace DL
open PySem PySem.Spec PyProof.Rows L2
/-! ### dicts with tuples as keys, as data -/
def keyD : DL.D → Option Key
  | .int i => some (.inl i)
  | .str x => some (.inr x)
  | _ => none
def keysD : List DL.D → Option (List Key)
  | [] => some []
  | d :: ds => match keyD d, keysD ds with
    | some k, some ks => some (k :: ks)
    | _, _ => none
def keyT : DL.D → Option (List Key)
  | .tup ds => keysD ds
  | _ => none
def kD : Key → DL.D
  | .inl i => .int i
  | .inr x => .str x
theorem keysD_kD : ∀ ks : List Key, keysD (ks.map kD) = some ks
  | [] => rfl
  | .inl i :: ks => by show (match keyD (kD (.inl i)), keysD (ks.map kD) with | some k, some ks => some (k :: ks) | _, _ => none) = _; rw [keysD_kD ks]; rfl
  | .inr i :: ks => by show (match keyD (kD (.inr i)), keysD (ks.map kD) with | some k, some ks => some (k :: ks) | _, _ => none) = _; rw [keysD_kD ks]; rfl
abbrev Kvs := List (List Key × DL.D)
def atD (kvs : Kvs) (k : List Key) : Option DL.D := (kvs.find? fun kv => decide (kv.1 = k)).map (·.2)
def hasD (kvs : Kvs) (k : List Key) : Bool := kvs.any fun kv => decide (kv.1 = k)
def putD (kvs : Kvs) (k : List Key) (d : DL.D) : Kvs :=
  if hasD kvs k = true then kvs.map (fun kv => if kv.1 = k then (kv.1, d) else kv) else kvs ++ [(k, d)]
def delD (kvs : Kvs) (k : List Key) : Kvs := kvs.filter fun kv => decide (kv.1 ≠ k)
section
variable {K : PySem.W.Frag} {H : Hp} {W : Fb}
theorem keyD_ok {d : DL.D} {k : Key} {v : V} (e : keyD d = some k) (r : Rep K H W d v) : v = kV k := by
  cases d with
  | int i => cases e; exact r
  | str x => cases e; exact r
  | _ => cases e
theorem keysD_ok : ∀ {ds : List DL.D} {ks : List Key} {vs : List V}, keysD ds = some ks → Reps K H W ds vs → vs = ks.map kV
  | [], ks, vs, e, r => by cases e; exact r
  | d :: ds, ks, vs, e, r => by
    obtain ⟨v, us, rfl, r1, r2⟩ := r
    unfold keysD at e
    cases q1 : keyD d with
    | none => simp only [q1] at e; cases e
    | some k =>
      cases q2 : keysD ds with
      | none => simp only [q1, q2] at e; cases e
      | some k2 =>
        simp only [q1, q2] at e
        cases e
        rw [keyD_ok q1 r1, keysD_ok q2 r2]
        rfl
theorem keyT_ok {d : DL.D} {ks : List Key} {v : V} (e : keyT d = some ks) (r : Top K H W d v) : ∃ b, v = .ref b ∧ H b = some (.tup (ks.map kV)) := by
  cases d with
  | tup ds =>
    obtain ⟨a, xs, rfl, h1, _, h2⟩ := r
    rw [keysD_ok e h2] at h1
    exact ⟨a, rfl, h1⟩
  | _ => cases e
theorem kDs_ok : ∀ (ks : List Key), Reps K H W (ks.map kD) (ks.map kV)
  | [] => rfl
  | .inl i :: ks => ⟨_, _, rfl, rfl, kDs_ok ks⟩
  | .inr i :: ks => ⟨_, _, rfl, rfl, kDs_ok ks⟩
theorem RepK.at : ∀ {kvs : Kvs} {kxs : List (List Key × V)} (k : List Key), RepK K H W kvs kxs → match atD kvs k with
    | some d => ∃ v, valV kxs k = some v ∧ Rep K H W d v
    | none => valV kxs k = none
  | [], kxs, k, r => by
    have r : kxs = [] := r
    subst r
    rfl
  | (k', d) :: kvs, kxs, k, r => by
    obtain ⟨v, vs, rfl, r1, r2⟩ := r
    by_cases e : k' = k
    · have q : atD ((k', d) :: kvs) k = some d := by simp [atD, List.find?_cons, e]
      rw [q]
      exact ⟨v, valV_pos e, r1⟩
    · have q : atD ((k', d) :: kvs) k = atD kvs k := by simp [atD, List.find?_cons, e]
      have q2 : valV ((k', v) :: vs) k = valV vs k := valV_neg e
      rw [q, q2]
      exact RepK.at k r2
theorem RepK.len : ∀ {kvs : Kvs} {kxs : List (List Key × V)}, RepK K H W kvs kxs → kvs.length = kxs.length
  | [], kxs, r => by
    have r : kxs = [] := r
    subst r
    rfl
  | (k', d) :: kvs, kxs, r => by
    obtain ⟨v, vs, rfl, r1, r2⟩ := r
    simp only [List.length_cons, RepK.len r2]
theorem RepK.has : ∀ {kvs : Kvs} {kxs : List (List Key × V)} (k : List Key), RepK K H W kvs kxs → hasD kvs k = kxs.any fun kv => decide (kv.1 = k)
  | [], kxs, k, r => by
    have r : kxs = [] := r
    subst r
    rfl
  | (k', d) :: kvs, kxs, k, r => by
    obtain ⟨v, vs, rfl, r1, r2⟩ := r
    have ih := RepK.has k r2
    unfold hasD at ih ⊢
    rw [List.any_cons, List.any_cons, ih]
theorem RepK.repl : ∀ {kvs : Kvs} {kxs : List (List Key × V)} (k : List Key) {d : DL.D} {v : V}, RepK K H W kvs kxs → Rep K H W d v →
    RepK K H W (kvs.map fun kv => if kv.1 = k then (kv.1, d) else kv) (kxs.map fun kv => if kv.1 = k then (kv.1, v) else kv)
  | [], kxs, k, d, v, r, _ => by
    have r : kxs = [] := r
    subst r
    exact rfl
  | (k', d') :: kvs, kxs, k, d, v, r, rv => by
    obtain ⟨u, vs, rfl, r1, r2⟩ := r
    simp only [List.map_cons]
    by_cases e : k' = k
    · rw [if_pos e, if_pos e]; exact ⟨v, _, rfl, rv, RepK.repl k r2 rv⟩
    · rw [if_neg e, if_neg e]; exact ⟨u, _, rfl, r1, RepK.repl k r2 rv⟩
theorem RepK.snoc : ∀ {kvs : Kvs} {kxs : List (List Key × V)} (k : List Key) {d : DL.D} {v : V}, RepK K H W kvs kxs → Rep K H W d v → RepK K H W (kvs ++ [(k, d)]) (kxs ++ [(k, v)])
  | [], kxs, k, d, v, r, rv => by
    have r : kxs = [] := r
    subst r
    exact ⟨v, [], rfl, rv, rfl⟩
  | (k', d') :: kvs, kxs, k, d, v, r, rv => by
    obtain ⟨u, vs, rfl, r1, r2⟩ := r
    exact ⟨u, _, rfl, r1, RepK.snoc k r2 rv⟩
theorem RepK.put {kvs : Kvs} {kxs : List (List Key × V)} (k : List Key) {d : DL.D} {v : V} (r : RepK K H W kvs kxs) (rv : Rep K H W d v) : RepK K H W (putD kvs k d) (putK kxs k v) := by
  unfold putD putK
  rw [RepK.has k r]
  by_cases c : (kxs.any fun kv => decide (kv.1 = k)) = true
  · rw [if_pos c, if_pos c]; exact r.repl k rv
  · rw [if_neg c, if_neg c]; exact r.snoc k rv
theorem RepK.del : ∀ {kvs : Kvs} {kxs : List (List Key × V)} (k : List Key), RepK K H W kvs kxs → RepK K H W (delD kvs k) (dropK kxs k)
  | [], kxs, k, r => by
    have r : kxs = [] := r
    subst r
    exact rfl
  | (k', d') :: kvs, kxs, k, r => by
    obtain ⟨u, vs, rfl, r1, r2⟩ := r
    have ih := RepK.del k r2
    unfold delD dropK at ih ⊢
    by_cases e : k' = k
    · rw [List.filter_cons_of_neg (by simp [e]), List.filter_cons_of_neg (by simp [e])]; exact ih
    · rw [List.filter_cons_of_pos (by simp [e]), List.filter_cons_of_pos (by simp [e])]; exact ⟨u, _, rfl, r1, ih⟩
end
theorem putD_len (kvs : Kvs) (k : List Key) (d : DL.D) : (putD kvs k d).length ≤ kvs.length + 1 := by
  unfold putD
  split
  · simp
  · simp
theorem delD_len (kvs : Kvs) (k : List Key) : (delD kvs k).length ≤ kvs.length := List.length_filter_le _ _

/-! ### what is written at a forbidden address -/
section
variable {K : PySem.W.Frag} {W : Fb} {env : Nv} {σ : St} {H : Hp} {D : Addr} {o o' : HO}
theorem AS.writeW (A : AS K W env σ H) (hW : W D) (nO : ¬ Own env σ D) (hD : H D = some o) (m' : Mut (some o')) : AS K W env σ (upd H D o') := by
  have mD : Mut (H D) := A.trk D hW
  have kp : Kp (fun a => a = D) H (upd H D o') := ⟨fun a e => by rw [e]; exact mD, fun a u h n => by rw [upd_ne n]; exact h⟩
  have hM : ∀ a, a = D → All W env σ a := fun a e => by rw [e]; exact .inl hW
  refine ⟨A.len, fun i d e => ?_, fun i c d e => ?_, A.dis, fun a z => ?_, fun i kvs e => ?_, fun i a dd fs e => ⟨(A.exn i a dd fs e).1, (A.exn i a dd fs e).2.keep fun u hu => ?_⟩⟩
  · obtain ⟨v, q, r⟩ := A.val i d e
    exact ⟨v, q, Rep.keep kp hM d v r⟩
  · obtain ⟨a, q, r, g⟩ := A.own i c d e
    have ne : a ≠ D := fun z => nO ⟨i, c, d, e, by rw [← z]; exact q⟩
    exact ⟨a, q, r.keep kp hM (upd_ne ne), g⟩
  · by_cases e : a = D
    · rw [e, upd_same]; exact m'
    · rw [upd_ne e]; exact A.trk a z
  · obtain ⟨a, u, kxs, q, h, l, r⟩ := A.lck i kvs e
    have ne : a ≠ D := fun z => by rw [← z, h] at mD; exact mD
    exact ⟨a, u, kxs, q, by rw [upd_ne ne]; exact h, l, RepK.keep kp hM kvs kxs r⟩
  · by_cases e2 : dd = D
    · rw [e2] at hu; rw [hu] at mD; exact mD.elim
    · rw [upd_ne e2]; exact hu
end
/-- d[k] = v in a dict with tuple keys -/
theorem dT_put {X : Cx} {pins : List (Addr × Obj)} {σ : St} {H : Hp} {s : Shared} {E : Value → Shared → Prop} {D b : Addr} {kxs : List (List Key × V)} {ks : List Key} {v : V} {r : Value} {Q : Unit → Shared → Prop} (hu : X.A.units + 1 < cLine) (I : L2.Inv X pins σ H s) (hD : H D = some (.dT kxs)) (hz : kxs.length < sizeLine)
    (eb : H b = some (.tup (ks.map kV))) (rv : RelV v r) (h : ∀ s', L2.Inv X pins σ (upd H D (.dT (putK kxs ks v))) s' → Q () s') : wpAny (model X.prog X.w) X.A (dictSet D (.ref b) r) Q E s := by
  obtain ⟨z, hd, xs, rel, dd⟩ := dt_of I.hok hD
  have hzv : xs.length ≤ sizeLine := by rw [← Paired.length rel]; exact z
  have hl : (putK kxs ks v).length ≤ sizeLine := by have := length_putK kxs ks v; omega
  refine wpAny_dictSet_heap (hsz := hzv) (knd := tupleKind (mixKind X.prog X.w)) (show X.A.units < cLine by omega) (key_of I.hok eb) dd fun h' dd' hs => h _ ?_
  obtain ⟨q, es, ep, hq, h2, h3, h4, _, h5⟩ := dd'
  refine d_write I (by rw [hD]; exact True.intro) hs ⟨q, hq⟩ ⟨hl, hd, _, (rel.put ks eb rv).keeps fun c ys ec => ?_, q, es, ep, hq, h2, h3, h4, h5⟩
  rw [upd_ne (ne_of ec hD (fun z => nomatch z))]
  exact ec

/-! ### what is done with an element -/
def lfL (f : F) : Lf := fun env acc => match acc with
  | .lst ds => match f env with
    | some (.ok r e1) => match kp (hold r) e1 with
      | some (d, e2) => if ds.length < sizeLine then some (e2, .lst (ds ++ [d])) else none
      | none => none
    | _ => none
  | _ => none
def lfD (f g : F) : Lf := fun env acc => match acc with
  | .dct kvs => match f env with
    | some (.ok r e1) => match kp (hold r) e1 with
      | some (k, e2) => match keyT k with
        | some ks => match g e2 with
          | some (.ok q e3) => match kp (hold q) e3 with
            | some (d, e4) => if kvs.length < sizeLine then some (e4, .dct (putD kvs ks d)) else none
            | none => none
          | _ => none
        | none => none
      | none => none
    | _ => none
  | _ => none
def lfS (f : F) : Lf := fun env acc => match acc with
  | .lst ds => match f env with
    | some (.ok r e1) => match hold r with
      | .val (.int i) => if ds.length + 1 < scanBound then some (e1, if ds.any (fun d => match d with | .int j => decide (j = i) | _ => false) = true then .lst ds else .lst (ds ++ [.int i])) else none
      | _ => none
    | _ => none
  | _ => none
section
variable {X : Cx} {scope : Scope} {Z : Wsh} {e k v : Expr} {f g : F}
theorem Reps.snoc {K : PySem.W.Frag} {H : Hp} {W : Fb} {ds : List DL.D} {d : DL.D} {xs : List V} {v : V} (h : Reps K H W ds xs) (r : Rep K H W d v) : Reps K H W (ds ++ [d]) (xs ++ [v]) := h.append ⟨v, [], rfl, r, rfl⟩
theorem lf_list (h : ∀ B, IsBlk X scope B → DE B Z e f) : LfOk X scope (.lst e) .h (lfL f) := by
  intro B pins s W D env env' σ H acc acc' hB I A ac wD nO q
  have pe := h B hB
  obtain ⟨s0, H0, C, cl, fp, rfl⟩ := hB
  unfold lfL at q
  split at q
  · rename_i ds
    cases z : f env with
    | none => simp only [z] at q; cases q
    | some o =>
      cases o with
      | exc x e1 => simp only [z] at q; cases q
      | ok r e1 =>
        simp only [z] at q
        cases z2 : kp (hold r) e1 with
        | none => simp only [z2] at q; cases q
        | some pr =>
          obtain ⟨d, e2⟩ := pr
          simp only [z2] at q
          by_cases c : ds.length < sizeLine
          rotate_left
          · rw [if_neg c] at q; cases q
          rw [if_pos c] at q
          cases q
          have P : tE X.K Z f σ H (fun v H1 => Stp env σ H e1 σ H1 ∧ Res X.K W H e1 σ H1 r v) := ⟨W, env, A, by rw [z]; exact fun v H1 s1 r1 => ⟨s1, r1⟩⟩
          show wpAny _ _ (do let _ ← call (.builtin "list.append") [.ref D, ← eval e _]) _ _ s
          refine wpAny_bind (thnF (pe.run pins s σ H _ I P) fun u s1 ⟨y, H1, I1, ry, st1, rs⟩ => ?_)
          obtain ⟨A2, r2, st2⟩ := kp_ok rs.as rs.rl z2
          have st := st1.trans st2
          obtain ⟨xs, hD, hl, hr⟩ := (show Hold X.K H (All W env σ) D (.lst ds) from ac)
          have hD1 : H1 D = some (.lst xs) := st.keep D _ hD nO
          have nO2 : ¬ Own env' σ D := fun z => (st.own D z).elim nO fun q => by rw [hD] at q; cases q
          have hr1 : Reps X.K H1 (All W env' σ) ds xs := by
            refine Reps.anti (W := fun a => All W env' σ a ∨ All W env σ a) (fun a z => .inl z) (Reps.keep (A.kp st) (fun a z => .inr (.inr z)) ds xs (Reps.anti2 (fun a z => ?_) ds xs hr))
            rcases z with (z | z) | z
            · exact .inl (.inl z)
            · exact (st.own a z).imp .inr id
            · exact .inl z
          have lx := hr1.length
          refine wpAny_bind (app_ok (X := X.blk s0 H0 scope (compEnvC scope cl C X.env) fp) I1 hD1 (by omega) ry fun s2 I2 => wpAny_pure ?_)
          have m' : Mut (some (HO.lst (xs ++ [y]))) := trivial
          have kpu : Kp (fun a => a = D) H1 (upd H1 D (.lst (xs ++ [y]))) := ⟨fun a e => by rw [e, hD1]; trivial, fun a u h n => by rw [upd_ne n]; exact h⟩
          refine ⟨_, I2, A2.writeW wD nO2 hD1 m', ⟨xs ++ [y], upd_same, by rw [List.length_append]; exact c, ?_⟩, fun a o na ha nb => ?_, fun a z => ?_, fun a z => ?_⟩
          · exact Reps.keep kpu (fun a e => by rw [e]; exact .inl wD) _ _ (hr1.snoc r2)
          · rw [upd_ne na]; exact st.keep a o ha nb
          · exact st.own a z
          · exact st.there a ((upd_keep hD1).2 a z)
  · cases q
theorem acc_step {K : PySem.W.Frag} {W : Fb} {env env' : Nv} {σ : St} {H H' : Hp} {D : Addr} {ak : AK} {acc : DL.D} (A : AS K W env σ H) (st : Stp env σ H env' σ H') (nO : ¬ Own env σ D) (r : AccR K D ak H (All W env σ) acc) : AccR K D ak H' (All W env' σ) acc ∧ ¬ Own env' σ D := by
  have m := r.some
  cases hD : H D with
  | none => rw [hD] at m; exact m.elim
  | some o =>
    refine ⟨r.keep (A.kp st) (fun a z => .inr (.inr z)) ((st.keep D o hD nO).trans hD.symm) fun a z => ?_, fun z => (st.own D z).elim nO fun q => by rw [hD] at q; cases q⟩
    rcases z with z | z
    · exact .inl (.inl z)
    · exact (st.own a z).imp .inr id
theorem lf_dict (hu : X.A.units + 1 < cLine) (h : ∀ B, IsBlk X scope B → DE B Z k f) (h2 : ∀ B, IsBlk X scope B → DE B Z v g) : LfOk X scope (.dct k v) .h (lfD f g) := by
  intro B pins s W D env env' σ H acc acc' hB I A ac wD nO q
  have pe := h B hB
  have pe2 := h2 B hB
  obtain ⟨s0, H0, C, cl, fp, rfl⟩ := hB
  unfold lfD at q
  split at q
  · rename_i kvs
    cases z : f env with
    | none => simp only [z] at q; cases q
    | some o =>
      cases o with
      | exc x e1 => simp only [z] at q; cases q
      | ok r e1 =>
        simp only [z] at q
        cases z2 : kp (hold r) e1 with
        | none => simp only [z2] at q; cases q
        | some pr =>
          obtain ⟨kd, e2⟩ := pr
          simp only [z2] at q
          cases z3 : keyT kd with
          | none => simp only [z3] at q; cases q
          | some ks =>
            simp only [z3] at q
            cases z4 : g e2 with
            | none => simp only [z4] at q; cases q
            | some o2 =>
              cases o2 with
              | exc x e3 => simp only [z4] at q; cases q
              | ok r2 e3 =>
                simp only [z4] at q
                cases z5 : kp (hold r2) e3 with
                | none => simp only [z5] at q; cases q
                | some pr2 =>
                  obtain ⟨d, e4⟩ := pr2
                  simp only [z5] at q
                  by_cases c : kvs.length < sizeLine
                  rotate_left
                  · rw [if_neg c] at q; cases q
                  rw [if_pos c] at q
                  cases q
                  have P : tE X.K Z f σ H (fun v H1 => Stp env σ H e1 σ H1 ∧ Res X.K W H e1 σ H1 r v) := ⟨W, env, A, by rw [z]; exact fun v H1 s1 r1 => ⟨s1, r1⟩⟩
                  show wpAny _ _ (do
                    let kv ← eval k _
                    let vv ← holding [kv] (eval v _)
                    standAt _
                    holding [kv, vv] (dictSet D kv vv)) _ _ s
                  refine wpAny_bind (thnF (pe.run pins s σ H _ I P) fun u s1 ⟨y, H1, I1, ry, st1, rs⟩ => ?_)
                  obtain ⟨A2, rk, st2⟩ := kp_ok rs.as rs.rl z2
                  have st := st1.trans st2
                  obtain ⟨b, rfl, hb⟩ := keyT_ok z3 rk.top
                  have P2 : tE X.K Z g σ H1 (fun v H2 => Stp e2 σ H1 e3 σ H2 ∧ Res X.K W H1 e3 σ H2 r2 v) := ⟨W, e2, A2, by rw [z4]; exact fun v H1 s1 r1 => ⟨s1, r1⟩⟩
                  refine wpAny_bind (wpAny_holding (thnF (pe2.run pins s1 σ H1 _ I1 P2) fun u2 s2 ⟨y2, H2, I2, ry2, st3, rs2⟩ => ?_))
                  obtain ⟨A4, rd, st4⟩ := kp_ok rs2.as rs2.rl z5
                  have stB := st3.trans st4
                  have hb2 : H2 b = some (.tup (ks.map kV)) := (A2.kp stB).tup hb
                  have sAll := st.trans stB
                  obtain ⟨ac2, nO2⟩ := acc_step A sAll nO ac
                  obtain ⟨kxs, hD2, hl, hr⟩ := (show Hold X.K H2 (All W env' σ) D (.dct kvs) from ac2)
                  have lx := hr.len
                  refine wpAny_bind (wpAny_standAt (wpAny_holding ?_))
                  obtain rfl : u = Value.ref b := ry
                  refine dT_put (X := X.blk s0 H0 scope (compEnvC scope cl C X.env) fp) hu I2 hD2 (by omega) hb2 ry2 fun s3 I3 => ?_
                  have m' : Mut (some (HO.dT (putK kxs ks y2))) := trivial
                  have kpu : Kp (fun a => a = D) H2 (upd H2 D (.dT (putK kxs ks y2))) := ⟨fun a e => by rw [e, hD2]; trivial, fun a u h n => by rw [upd_ne n]; exact h⟩
                  have pl := putD_len kvs ks d
                  refine ⟨_, I3, A4.writeW wD nO2 hD2 m', ⟨putK kxs ks y2, upd_same, by omega, ?_⟩, fun a o na ha nb => ?_, fun a z => sAll.own a z, fun a z => sAll.there a ((upd_keep hD2).2 a z)⟩
                  · exact RepK.keep kpu (fun a e => by rw [e]; exact .inl wD) _ _ (hr.put ks rd)
                  · rw [upd_ne na]; exact sAll.keep a o ha nb
  · cases q
theorem any_int {ns : List Int} {i : Int} : ((ns.map DL.D.int).any fun d => match d with | .int j => decide (j = i) | _ => false) = decide (i ∈ ns) := by
  induction ns with
  | nil => rfl
  | cons n ns ih =>
    rw [List.map_cons, List.any_cons, ih]
    by_cases e : n = i
    · simp [e]
    · have e' : ¬ i = n := fun z => e z.symm
      simp [e, e']
theorem lf_set (h : ∀ B, IsBlk X scope B → DE B Z e f) : LfOk X scope (.set e) (.s X.w) (lfS f) := by
  intro B pins s W D env env' σ H acc acc' hB I A ac wD nO q
  have pe := h B hB
  obtain ⟨s0, H0, C, cl, fp, rfl⟩ := hB
  unfold lfS at q
  split at q
  · rename_i ds
    cases z : f env with
    | none => simp only [z] at q; cases q
    | some o =>
      cases o with
      | exc x e1 => simp only [z] at q; cases q
      | ok r e1 =>
        simp only [z] at q
        cases z2 : hold r with
        | frs d => simp only [z2] at q; cases q
        | slot i => simp only [z2] at q; cases q
        | val d =>
          cases d with
          | int i =>
            simp only [z2] at q
            by_cases c : ds.length + 1 < scanBound
            rotate_left
            · rw [if_neg c] at q; cases q
            rw [if_pos c] at q
            have P : tE X.K Z f σ H (fun v H1 => Stp env σ H e1 σ H1 ∧ Res X.K W H e1 σ H1 r v) := ⟨W, env, A, by rw [z]; exact fun v H1 s1 r1 => ⟨s1, r1⟩⟩
            show wpAny _ _ (do
              let v ← eval e _
              standAt e.pos
              let _ ← call (.builtin "set.add") [.ref D, v]) _ _ s
            refine wpAny_bind (thnF (pe.run pins s σ H _ I P) fun u s1 ⟨y, H1, I1, ry, st, rs⟩ => ?_)
            have rl := rs.rl
            rw [z2] at rl
            have rl : y = V.int i := rl
            subst rl
            obtain ⟨tk, rfl⟩ := ry
            obtain ⟨ac1, nO2⟩ := acc_step A st nO ac
            obtain ⟨ns, ed, nd, hD1⟩ := ac1
            simp only [DL.D.lst.injEq] at ed
            subst ed
            rw [List.length_map] at c
            rw [any_int] at q
            have R := setO_get (X := X.blk s0 H0 scope (compEnvC scope cl C X.env) fp) I1 hD1
            refine wpAny_bind (wpAny_standAt (wpAny_bind (setR_add R c fun h' sb new => wpAny_pure ?_)))
            have he : ∃ u, h'.get? D = some u := by
              have ⟨o, _, _, _, ho, _⟩ := new
              exact ⟨o, ho⟩
            have I2 := L2.Inv.write (e := D) (t' := s1.toks + 1) I1 (by rw [hD1]; trivial) (.inl rfl) (fun b u hb hu => (sb.2 b hb).trans hu) he (setO_new new)
            have m' : ∀ (S : Int → Bool) (n : Nat), Mut (some (SetO X.w D S n)) := fun _ _ => trivial
            by_cases hi : i ∈ ns
            · rw [if_pos (by simpa using hi)] at q
              cases q
              refine ⟨_, I2, rs.as.writeW wD nO2 hD1 (m' _ _), ⟨ns, rfl, nd, ?_⟩, fun a o na ha nb => ?_, fun a z => st.own a z, fun a z => st.there a ((upd_keep hD1).2 a z)⟩
              · rw [upd_same]
                have e1 : (fun j => decide (j ∈ ns) || decide (j = i)) = fun j => decide (j ∈ ns) := by
                  funext j
                  by_cases e : j = i
                  · subst e; simp [hi]
                  · simp [e]
                rw [e1, if_pos (by simpa using hi)]
              · rw [upd_ne na]; exact st.keep a o ha nb
            · rw [if_neg (by simpa using hi)] at q
              cases q
              refine ⟨_, I2, rs.as.writeW wD nO2 hD1 (m' _ _), ⟨ns ++ [i], by simp, ?_, ?_⟩, fun a o na ha nb => ?_, fun a z => st.own a z, fun a z => st.there a ((upd_keep hD1).2 a z)⟩
              · rw [List.nodup_append]
                exact ⟨nd, by simp, fun a ha b hb => by simp at hb; subst hb; exact fun e => hi (e ▸ ha)⟩
              · rw [upd_same]
                have e1 : (fun j => decide (j ∈ ns) || decide (j = i)) = fun j => decide (j ∈ ns ++ [i]) := by
                  funext j
                  simp
                rw [e1, if_neg (by simpa using hi), List.length_append]
                rfl
              · rw [upd_ne na]; exact st.keep a o ha nb
          | _ => simp only [z2] at q; cases q
  · cases q
end
end DL

set_option Elab.async false
set_option linter.all false
set_option maxRecDepth 100000
namespace DL
open PySem PySem.Spec PyProof.Rows L2
/-! ### comprehensions: the rules -/
section
variable {X : Cx} {e k v : Expr}
theorem new_list : NewOk X (.lst e) .h (fun _ => .lst []) (.lst []) := by
  refine ⟨fun _ => trivial, fun D H U h => ⟨[], h, Nat.zero_le _, rfl⟩, fun pins σ H s I q => ?_⟩
  refine wpAny_newObj_type (M := model X.prog X.w) (T := "list") (data := .seq ([] : List Value).toArray) (dict := none) (q _ ?_ ⟨_, rfl⟩) (by show 0 ≤ sizeLine; decide)
  refine L2.Inv.laid (t' := s.toks) I (fun b o e => Heap.get?_push_of_some _ e) (Nat.le_refl _) ⟨Nat.zero_le _, [], 0, .nil, ?_⟩
  exact Heap.get?_push_size _ rfl
theorem new_dict : NewOk X (.dct k v) .h (fun _ => .dT []) (.dct []) := by
  refine ⟨fun _ => trivial, fun D H U h => ⟨[], h, Nat.zero_le _, rfl⟩, fun pins σ H s I q => ?_⟩
  refine wpAny_newObj_type (M := model X.prog X.w) (T := "dict") (data := .dict #[]) (dict := none) (q _ ?_ ⟨_, rfl⟩)
  exact L2.Inv.laid (t' := s.toks) I (fun b o e => Heap.get?_push_of_some _ e) (Nat.le_refl _) (dt_empty s.heap (L2.Inv.big I))
theorem new_set : NewOk X (.set e) (.s X.w) (fun D => SetO X.w D (fun i => decide (i ∈ ([] : List Int))) 0) (.lst []) := by
  refine ⟨fun _ => trivial, fun D H U h => ⟨[], rfl, List.nodup_nil, h⟩, fun pins σ H s I q => ?_⟩
  refine PpSet.newSet_ok (q _ ?_ ⟨_, rfl⟩)
  refine L2.Inv.laid (t' := s.toks) I (fun b o e => Heap.get?_push_of_some _ e) (Nat.le_refl _) (setO_new ?_)
  have e : (fun i => decide (i ∈ ([] : List Int))) = fun _ => false := by funext i; simp
  rw [e]
  exact setR_fresh X.w
end
def finF (acc : DL.D) (env : Nv) : Option Out := some (.ok (.frs acc) env)
section
variable {X : Cx} {scope : Scope} {Z Z' : Wsh} {ck : CK} {leaf : Lf} {g : Comprehension} {gs : List Comprehension} {cls : List Cl} {own : List (Str × Nat)} {it : FI} {t : T1} {c : F} {acc0 : DL.D} {o0 : Addr → HO} {pos spos py : Pos}
theorem eval_mkC : eval (mkC ck (g :: gs) scope pos) X.env = comprehension (mkC ck (g :: gs) scope pos) scope X.env (firstIterPos (g :: gs) pos) (newC ck) (firstAsync (g :: gs)) (firstIter (g :: gs) X.env) := by
  cases ck <;> rfl
theorem use_mkC {use : Value → Sem Unit} : evalThenUse (mkC ck (g :: gs) scope pos) X.env use = (do let _ ← comprehension (mkC ck (g :: gs) scope pos) scope X.env (firstIterPos (g :: gs) pos) (newC ck) (firstAsync (g :: gs)) (firstIter (g :: gs) X.env) (some use)) := by
  cases ck <;> rfl
/-- a comprehension as a value -/
theorem de_comp (hc : X.calm = true) (hN : X.N.Nodup) (ok : BlkOk X.N X.env.scope scope own) (hi : DI X Z g.target g.iter it) (hg : ClOk X scope Z' (own.map (·.2)) g t c) (hcl : Cls X scope Z' (own.map (·.2)) gs cls) (L : LfOk X scope ck .h leaf) (N : NewOk X ck .h o0 acc0)
    (hf : ∀ x, foldedSetIterable g.iter X.env x = pure x := by intro _; rfl) : DE X Z (mkC ck (g :: gs) scope pos) (compG it t c cls (own.map (·.2)) leaf acc0 finF) := by
  refine ⟨fun pins s σ H Q I h => ?_⟩
  obtain ⟨W, env, A, P⟩ := h
  rw [eval_mkC]
  have as0 : firstAsync (g :: gs) = false := by
    have := hg.sync
    cases g
    unfold firstAsync
    subst this
    rfl
  have fi0 : firstIter (g :: gs) X.env = eval g.iter X.env := by cases g; rfl
  rw [as0, fi0]
  refine comp_core (use := none) hc hN ok hi hf hg hcl L N I A P fun D C s' m H' acc e' I' hn f hD st A' nO nW ac P' => ⟨m, hn, fun h'' sb => ?_⟩
  obtain ⟨f0, f1, f2, f3, f4, f5⟩ := f
  exact ⟨.ref D, H', L2.Inv.turned (t' := s'.toks) I' (fun b o hb e => (sb.2 b hb).trans e) f0 f1 f3 f4 f5, rfl, P' _ _ st ⟨D, rfl, hD, nW, nO, A', ac⟩⟩
/-- name = a comprehension on one line -/
theorem ds_setC {i : Nat} {y : Str} (hc : X.calm = true) (hN : X.N.Nodup) (hy : X.N[i]? = some y) (hyl : X.env.scope.names.lookup y = some .local) (ok : BlkOk X.N X.env.scope scope own) (hi : DI X Z g.target g.iter it) (hg : ClOk X scope Z' (own.map (·.2)) g t c) (hcl : Cls X scope Z' (own.map (·.2)) gs cls) (L : LfOk X scope ck .h leaf) (N : NewOk X ck .h o0 acc0)
    (hsw : swapsWith (mkC ck (g :: gs) scope pos) (some (.Name y py)) spos.line X.env = pure true)
    (hf : ∀ x, foldedSetIterable g.iter X.env x = pure x := by intro _; rfl) : DS X Z (.Assign [.Name y py] (mkC ck (g :: gs) scope pos) spos) (setG i (compG it t c cls (own.map (·.2)) leaf acc0 finF)) := by
  refine ⟨fun pins s σ H D I h => ?_⟩
  obtain ⟨W, env, A, q⟩ := h
  have as0 : firstAsync (g :: gs) = false := by
    have := hg.sync
    cases g
    unfold firstAsync
    subst this
    rfl
  have q2 : tE X.K Z (compG it t c cls (own.map (·.2)) leaf acc0 finF) σ H (fun v H1 => D.nx (σ.set i (some v)) H1) := by
    refine tE_mono (fun v H1 t => ?_) (stepS A q)
    obtain ⟨r, env1, s1, r1, p⟩ := t
    cases z : put i r env1 with
    | none => rw [z] at p; exact p.elim
    | some env2 =>
      rw [z] at p
      obtain ⟨A2, s2⟩ := put_ok s1 r1 z
      exact p _ _ s2 A2
  obtain ⟨W2, env2, A2, P⟩ := q2
  rw [exec_Assign_Name_used _ _ _ _ hsw]
  refine wpAny_bind (wpAny_standAt (wpAny_bind ?_))
  have fi0 : firstIter (g :: gs) X.env = eval g.iter X.env := by cases g; rfl
  rw [use_mkC, as0, fi0]
  refine wpAny_bind (thn (comp_core (Qf := fun _ s' => SP X pins D .next s') hc hN ok hi hf hg hcl L N I A2 P fun L' C s' m H' acc e' I' hn f hD st A' nO nW ac P' => ?_) fun _ s' hq => wpAny_pure (wpAny_pure hq))
  have q : D.nx (σ.set i (some (V.ref L'))) H' := P' _ _ st ⟨L', rfl, hD, nW, nO, A', ac⟩
  show wpAny _ _ (assign (.Name y py) X.env (.ref L')) _ _ _
  refine wpAny_assign_Name (store_ok2 (v := V.ref L') I' hN hy (.inl hyl) rfl (fun s2 I2 ⟨a, sb, ha⟩ => ?_) (.inr hyl))
  obtain ⟨f0, f1, f2, f3, f4, f5⟩ := f
  have haC : C ≠ a := by
    rcases ha with z | z
    · rw [z]; exact f1
    · exact fun e => f4 y a z e.symm
  refine ⟨m, hn.sameBut sb haC, fun h3 sb3 => ?_⟩
  exact ⟨_, H', L2.Inv.turned (t' := s2.toks) I2 (fun b o hb e => (sb3.2 b hb).trans e) f0 f1 f3 f4 f5, q⟩
/-! ### sorted({..}) -/
def sortI (ns : List Int) : List Int := ns.mergeSort fun a b => decide (a ≤ b)
theorem sortI_perm (ns : List Int) : (sortI ns).Perm ns := List.mergeSort_perm _ _
theorem sortI_le (ns : List Int) : (sortI ns).Pairwise (· ≤ ·) := by
  have := List.pairwise_mergeSort (le := fun a b : Int => decide (a ≤ b)) (fun a b c h1 h2 => by simp at *; omega) (fun a b => by simp; omega) ns
  exact this.imp fun h => by simpa using h
theorem sortI_uniq {ns ms : List Int} (h1 : ms.Pairwise (· < ·)) (h2 : ∀ k, k ∈ ms ↔ k ∈ ns) (h3 : ns.Nodup) : ms = sortI ns := by
  have nd : ms.Nodup := h1.imp fun h e => by omega
  have p : ms.Perm (sortI ns) := ((List.perm_ext_iff_of_nodup nd h3).mpr h2).trans (sortI_perm ns).symm
  exact List.Perm.eq_of_pairwise (le := (· ≤ ·)) (fun a b _ _ h h' => by omega) (h1.imp fun h => by omega) (sortI_le ns) p
def finS (acc : DL.D) (env : Nv) : Option Out := match acc with
  | .lst ds => match intsOf ds with
    | some ns => if ns.length < 64 then some (.ok (.frs (.lst ((sortI ns).map .int))) env) else none
    | none => none
  | _ => none
theorem de_sortedSet {e : Expr} {f : F} {p pos2 : Pos} (hc : X.calm = true) (hN : X.N.Nodup) (ok : BlkOk X.N X.env.scope scope own) (hi : DI X Z g.target g.iter it) (hg : ClOk X scope Z' (own.map (·.2)) g t c) (hcl : Cls X scope Z' (own.map (·.2)) gs cls) (he : ∀ B, IsBlk X scope B → DE B Z' e f)
    (hs : Gl X "sorted") (hm : X.mg "sorted" = none) (hf : ∀ x, foldedSetIterable g.iter X.env x = pure x := by intro _; rfl)
    (hst : starEach [mkC (.set e) (g :: gs) scope pos] X.env = (false, eval (mkC (.set e) (g :: gs) scope pos) X.env) :: starEach [] X.env := by rfl) (hpl : (backTo pos2 (starEach [] X.env)).any (·.1) = false := by rfl) :
    DE X Z (.Call (.Name "sorted" p) [mkC (.set e) (g :: gs) scope pos] [] pos2) (compG it t c cls (own.map (·.2)) (lfS f) (.lst []) finS) := by
  have pe : PE X (mkC (.set e) (g :: gs) scope pos) (fun σ H Q => ∃ W env Q0, AS X.K W env σ H ∧ Pend X.K W Z env σ H Q0 (compG it t c cls (own.map (·.2)) (lfS f) (.lst []) finS env) ∧
      ∀ D H' acc e', H D = none → Stp env σ H e' σ H' → AS X.K (Plus W D) e' σ H' → ¬ Own e' σ D → ¬ W D → AccR X.K D (.s X.w) H' (All (Plus W D) e' σ) acc → Pend X.K W Z env σ H Q0 (finS acc e') → Q (.ref D) H') := by
    refine ⟨fun pins s σ H Q I h => ?_⟩
    obtain ⟨W, env, Q0, A, P, hq⟩ := h
    rw [eval_mkC]
    have as0 : firstAsync (g :: gs) = false := by
      have := hg.sync
      cases g
      unfold firstAsync
      subst this
      rfl
    have fi0 : firstIter (g :: gs) X.env = eval g.iter X.env := by cases g; rfl
    rw [as0, fi0]
    refine comp_core (use := none) hc hN ok hi hf hg hcl (lf_set he) new_set I A P fun D C s' m H' acc e' I' hn f hD st A' nO nW ac P' => ⟨m, hn, fun h'' sb => ?_⟩
    obtain ⟨f0, f1, f2, f3, f4, f5⟩ := f
    exact ⟨.ref D, H', L2.Inv.turned (t' := s'.toks) I' (fun b o hb e => (sb.2 b hb).trans e) f0 f1 f3 f4 f5, rfl, hq D H' acc e' hD st A' nO nW ac P'⟩
  refine PEimp (pe_callB (cr_sortedSet hc) hs hm rfl (pa_cons pe pa_nil hst) (by decide) (by decide) hst hpl) fun σ H Q q => ?_
  obtain ⟨W, env, A, P⟩ := q
  refine ⟨W, env, Q, A, P, fun D H' acc e' hD st A' nO nW ac P' => ?_⟩
  obtain ⟨ns, rfl, nd, hh⟩ := ac
  unfold finS at P'
  simp only [intsOf_map] at P'
  by_cases c64 : ns.length < 64
  rotate_left
  · rw [if_neg c64] at P'; exact P'.elim
  rw [if_pos c64] at P'
  refine ⟨D, _, _, rfl, hh, c64, fun ms p h1 h2 h3 hp => ?_⟩
  have e1 : ms = sortI ns := sortI_uniq h1 (fun k => by simpa using h2 k) nd
  subst e1
  have A2 : AS X.K W e' σ H' := A'.unplus nO
  refine pend_lst A2 hp (by rw [List.length_map, h3, sizeLine_eq]; omega) ?_ (P'.shift st)
  clear P' h1 h2 h3
  induction sortI ns with
  | nil => rfl
  | cons n l ih => exact ⟨_, _, rfl, rfl, ih⟩
end
/-! ### tests of a clause -/
section
variable {X : Cx} {Z : Wsh} {e : Expr} {c : F}
def yesF : F := fun env => some (.ok (.val (.bl true)) env)
end
end DL

set_option Elab.async false
set_option linter.all false
set_option maxRecDepth 100000
namespace DL
open PySem PySem.Spec PyProof.Rows L2
/-! ### dicts -/
theorem RL.res {K : PySem.W.Frag} {W : Fb} {env : Nv} {σ : St} {H H0 : Hp} {r : R} {v : V} (A : AS K W env σ H) (h : RL K W env σ H r v) : Res K W H0 env σ H r v := by
  cases r with
  | val d => exact ⟨A, h⟩
  | slot i => exact ⟨A, h⟩
  | frs d => exact h.elim
def dctOf (r : R) (env : Nv) : Option Kvs := match pk r env with
  | some (.dct kvs) => some kvs
  | _ => none
def keyOf (r : R) (env : Nv) : Option (List Key) := (pk r env).bind keyT
section
variable {K : PySem.W.Frag} {W : Fb} {env : Nv} {σ : St} {H : Hp} {r : R} {v : V}
theorem dctOf_ok {kvs : Kvs} (A : AS K W env σ H) (l : RL K W env σ H r v) (e : dctOf r env = some kvs) : ∃ a kxs, v = .ref a ∧ Rd H a (.dT kxs) ∧ kvs.length ≤ sizeLine ∧ RepK K H (All W env σ) kvs kxs := by
  unfold dctOf at e
  split at e
  · rename_i k q
    cases e
    exact pk_top A l q
  · cases e
theorem keyOf_ok {ks : List Key} (A : AS K W env σ H) (l : RL K W env σ H r v) (e : DL.keyOf r env = some ks) : ∃ b, v = .ref b ∧ H b = some (.tup (ks.map kV)) := by
  unfold DL.keyOf at e
  cases q : pk r env with
  | none => rw [q] at e; cases e
  | some d => rw [q] at e; exact keyT_ok e (pk_top A l q)
end
/-- d.get(k, x) -/
def getG (f g h : F) : F := fun env => bnd (f env) fun r e1 => match dctOf (hold r) e1 with
  | none => none
  | some _ => bnd (g e1) fun k e2 => bnd (h e2) fun x e3 => match dctOf (hold r) e3, DL.keyOf (hold k) e3 with
    | some kvs, some ks => match atD kvs ks with
      | some d => some (.ok (.val d) e3)
      | none => some (.ok (hold x) e3)
    | _, _ => none
/-- d[k] -/
def gitG (f g : F) : F := fun env => bnd (f env) fun r e1 => bnd (g e1) fun k e2 => match dctOf (hold r) e2, DL.keyOf (hold k) e2 with
  | some kvs, some ks => match atD kvs ks with
    | some d => some (.ok (.val d) e2)
    | none => none
  | _, _ => none
section
variable {X : Cx} {Z : Wsh} {o e e2 : Expr} {f g h : F} {pos apos cpos : Pos} {i : Nat}
theorem de_dget (hu : X.A.units + 1 < cLine) (ho : DE X Z o f) (he : DE X Z e g) (he2 : DE X Z e2 h) (m : M2 X o "get" apos e e2 cpos := by exact ⟨rfl, rfl, rfl, rfl⟩) : DE X Z (.Call (.Attribute o "get" apos) [e, e2] [] cpos) (getG f g h) :=
  PEimp (pe_dget2 hu ho he he2 m) fun σ H Q q => by
    obtain ⟨W, env, A, q⟩ := q
    refine tE_mono (fun v H1 t => ?_) (stepE A q)
    obtain ⟨r, env1, s1, A1, l1, P⟩ := t
    cases z : dctOf (hold r) env1 with
    | none => rw [z] at P; exact P.elim
    | some k0 =>
      simp only [z] at P
      obtain ⟨a, kx0, rfl, hr0, _, _⟩ := dctOf_ok A1 l1 z
      refine ⟨a, rfl, .inr ⟨kx0, hr0⟩, ?_⟩
      refine tE_mono (fun y H2 t => ?_) (stepE A1 P)
      obtain ⟨k, env2, s2, A2, l2, P⟩ := t
      refine tE_mono (fun x H3 t => ?_) (stepE A2 P)
      obtain ⟨xr, env3, s3, A3, l3, P⟩ := t
      have l1' := (l1.keep A1 s2).keep A2 s3
      have l2' := l2.keep A2 s3
      cases z1 : dctOf (hold r) env3 with
      | none => simp only [z1] at P; exact P.elim
      | some kvs =>
        cases z2 : DL.keyOf (hold k) env3 with
        | none => simp only [z1, z2] at P; exact P.elim
        | some ks =>
          simp only [z1, z2] at P
          obtain ⟨a', kxs, ea, hr, hl, rk⟩ := dctOf_ok A3 l1' z1
          cases ea
          obtain ⟨b, rfl, hb⟩ := keyOf_ok A3 l2' z2
          have at' := rk.at ks
          refine ⟨valV kxs ks, .inr ⟨kxs, ks, b, hr, rfl, hb, rfl⟩, ?_⟩
          cases z3 : atD kvs ks with
          | some d =>
            simp only [z3] at P at'
            obtain ⟨w, w1, w2⟩ := at'
            rw [w1]
            exact P w H3 .refl ⟨A3, w2⟩
          | none =>
            simp only [z3] at P at'
            rw [at']
            exact P x H3 .refl (l3.res A3)
theorem de_dgit (hu : X.A.units + 1 < cLine) (ho : DE X Z o f) (he : DE X Z e g) (hs : NoSl e := by intro _ _; rfl) : DE X Z (.Subscript o e pos) (gitG f g) :=
  PEimp (pe_dget hu ho he hs) fun σ H Q q => by
    obtain ⟨W, env, A, q⟩ := q
    refine tE_mono (fun v H1 t => ?_) (stepE A q)
    obtain ⟨r, env1, s1, A1, l1, P⟩ := t
    refine tE_mono (fun y H2 t => ?_) (stepE A1 P)
    obtain ⟨k, env2, s2, A2, l2, P⟩ := t
    have l1' := l1.keep A1 s2
    cases z1 : dctOf (hold r) env2 with
    | none => simp only [z1] at P; exact P.elim
    | some kvs =>
      cases z2 : DL.keyOf (hold k) env2 with
      | none => simp only [z1, z2] at P; exact P.elim
      | some ks =>
        simp only [z1, z2] at P
        obtain ⟨a', kxs, rfl, hr, hl, rk⟩ := dctOf_ok A2 l1' z1
        obtain ⟨b, rfl, hb⟩ := keyOf_ok A2 l2 z2
        have at' := rk.at ks
        cases z3 : atD kvs ks with
        | some d =>
          simp only [z3] at P at'
          obtain ⟨w, w1, w2⟩ := at'
          exact ⟨a', w, rfl, .inr ⟨kxs, ks, b, hr, rfl, hb, w1.symm⟩, P w H2 .refl ⟨A2, w2⟩⟩
        | none => simp only [z3] at P; exact P.elim
theorem atD_isSome {kvs : Kvs} {K : PySem.W.Frag} {H : Hp} {W : Fb} {kxs : List (List Key × V)} {ks : List Key} (rk : RepK K H W kvs kxs) : (valV kxs ks).isSome = (atD kvs ks).isSome := by
  have at' := rk.at ks
  cases z3 : atD kvs ks with
  | some d => simp only [z3] at at'; obtain ⟨w, w1, w2⟩ := at'; rw [w1]; rfl
  | none => simp only [z3] at at'; rw [at']; rfl
theorem own_dct {K : PySem.W.Frag} {W : Fb} {env : Nv} {σ : St} {H : Hp} {b : Bool} {kvs : Kvs} (A : AS K W env σ H) (h : env[i]? = some (some (Sl.own b (.dct kvs)))) : ∃ a kxs, σ[i]? = some (some (V.ref a)) ∧ H a = some (.dT kxs) ∧ kvs.length ≤ sizeLine ∧ RepK K H (All W env σ) kvs kxs := by
  obtain ⟨a, h1, ⟨xs, h2, h3, h4⟩, _⟩ := A.own i b _ h
  exact ⟨a, xs, h1, h2, h3, h4⟩
theorem repk_upd {K : PySem.W.Frag} {W : Fb} {env : Nv} {σ : St} {H : Hp} {a : Addr} {o : HO} {ds : Kvs} {xs : List (List Key × V)} (A : AS K W env σ H) {b : Bool} {d : DL.D} (h : env[i]? = some (some (Sl.own b d))) (ha : σ[i]? = some (some (V.ref a))) (r : RepK K H (All W env σ) ds xs) : RepK K (upd H a o) (All W env σ) ds xs := by
  obtain ⟨a', q1, q2, q3⟩ := A.own i b d h
  rw [ha] at q1; cases q1
  refine RepK.keep (M := fun x => x = a) ⟨fun x e => by rw [e]; exact q2.mut, fun x o e n => by rw [upd_ne n]; exact e⟩ (fun x e => by rw [e]; exact .inr ⟨i, b, d, h, ha⟩) ds xs r
/-- d[k] = x: d a slot of one's own -/
def putO (i : Nat) (h g : F) : G := fun env => bndS (h env) fun x e1 => match e1[i]? with
  | some (some (.own _ (.dct _))) => bndS (g e1) fun k e2 => match DL.keyOf (hold k) e2, kp (hold x) e2 with
    | some ks, some (d, e3) => match e3[i]? with
      | some (some (.own b (.dct kvs))) => if kvs.length < sizeLine then some (.nx (e3.set i (some (.own b (.dct (putD kvs ks d)))))) else none
      | _ => none
    | _, _ => none
  | _ => none
theorem ds_dput (hu : X.A.units + 1 < cLine) {value : Expr} {pos' : Pos} (p : PE X o (tVar i)) (hi : DE X Z e g) (hv : DE X Z value h) (hs : swapsWith value (some (.Subscript o e pos')) pos.line X.env = pure false := by rfl) :
    DS X Z (.Assign [.Subscript o e pos'] value pos) (putO i h g) :=
  PSimp (ps_dput hu p hi hv hs) fun E σ H q => by
    obtain ⟨W, env, A, q⟩ := q
    refine tE_mono (fun v H1 t => ?_) (stepS A q)
    obtain ⟨x, env1, s1, r1, P⟩ := t
    have A1 := r1.as
    have l1 := r1.rl
    have P := P.shift s1
    split at P
    · rename_i b0 kv0 h0
      obtain ⟨a, kx0, ha, _⟩ := own_dct A1 h0
      refine ⟨.ref a, ha, ?_⟩
      refine tE_mono (fun y H2 t => ?_) (stepS A1 P)
      obtain ⟨k, env2, s2, r2, P⟩ := t
      have A2 := r2.as
      have l2 := r2.rl
      have P := P.shift s2
      have l1' := l1.keep A1 s2
      split at P
      · rename_i ks d env3 z1 z2
        obtain ⟨b, rfl, hb⟩ := keyOf_ok A2 l2 z1
        obtain ⟨A3, rd, s3⟩ := kp_ok A2 l1' z2
        have P := P.shift s3
        split at P
        · rename_i b' kvs h'
          by_cases c : kvs.length < sizeLine
          · rw [if_pos c] at P
            obtain ⟨a', kxs, g1, g2, g3, g4⟩ := own_dct A3 h'
            rw [ha] at g1; cases g1
            have lx := g4.len
            refine ⟨a, _, rfl, .inr ⟨kxs, ks, b, g2, rfl, hb, by omega, rfl⟩, ?_⟩
            obtain ⟨k1, k2⟩ := upd_keep (v := .dT (putK kxs ks v)) g2
            have new : RepK X.K (upd H2 a (.dT (putK kxs ks v))) (All W env3 σ) (putD kvs ks d) (putK kxs ks v) := repk_upd A3 h' ha (g4.put ks rd)
            have pl := putD_len kvs ks d
            obtain ⟨A4, s4⟩ := A3.write (d' := .dct (putD kvs ks d)) h' ha k1 k2 ⟨_, upd_same, by omega, new⟩
            exact P _ _ s4 A4
          · rw [if_neg c] at P; exact P.elim
        · exact P.elim
      · exact P.elim
    · exact P.elim
/-- d.pop(k, x): d a slot of one's own -/
def popK (i : Nat) (p q : R) (env : Nv) : Option Out := match DL.keyOf p env, env[i]? with
  | some ks, some (some (.own b (.dct kvs))) => match atD kvs ks with
    | some d => some (.ok (.val d) (env.set i (some (.own b (.dct (delD kvs ks))))))
    | none => some (.ok q env)
  | _, _ => none
def popKO (i : Nat) (f g : F) : F := fun env => match env[i]? with
  | some (some (.own _ (.dct _))) => evs [f, g] env fun rs env1 => match rs with
    | [p, q] => popK i p q env1
    | _ => none
  | _ => none
theorem de_popK (hu : X.A.units + 1 < cLine) (p : PE X o (tVar i)) (he : DE X Z e f) (he2 : DE X Z e2 g) (hbase : attributeBase o "pop" X.env (eval o X.env) = eval o X.env := by rfl)
    (hfew : ((backTo cpos (starEach [e, e2] X.env)).all (fun x => !x.1) && (backToKw cpos (keywordEach [] X.env)).all (fun x => x.1.isSome) && decide (([e, e2] : List Expr).length + ([] : List Keyword).length
      + (if ([] : List Keyword).isEmpty then 0 else 1) < 30)) = true := by rfl)
    (hline : (apos.endLine == cpos.line) = true := by rfl) (hs : starEach [e, e2] X.env = (false, eval e X.env) :: starEach [e2] X.env := by rfl) (hs2 : starEach [e2] X.env = (false, eval e2 X.env) :: starEach [] X.env := by rfl) (hplain : (backTo cpos (starEach [e2] X.env)).any (·.1) = false := by rfl) :
    DE X Z (.Call (.Attribute o "pop" apos) [e, e2] [] cpos) (popKO i f g) :=
  PEimp (pe_bm PySem.F.plainAttrs_dict PySem.F.slot_dict_pop PySem.F.type_dict_pop (L2.DX.mt_popT hu) p (pa_cons he (pa_cons he2 pa_nil hs2) hs) hbase hfew hline hs hplain) fun σ H Q q => by
    obtain ⟨W, env, A, q⟩ := q
    unfold popKO at q
    split at q
    · rename_i b kvs h0
      obtain ⟨a, kxs, h1, h2, h3, h4⟩ := own_dct A h0
      refine ⟨.ref a, h1, .inr (.inr (.inl ⟨rfl, .inr ⟨kxs, h2⟩⟩)), ?_⟩
      refine tAs_mono [f, g] (fun vs H1 t => ?_) (evs_ok [f, g] A q)
      obtain ⟨rs, env1, s1, A1, l1, P⟩ := t
      split at P
      · rename_i pr qr
        obtain ⟨y, ys, rfl, ly, l1⟩ := l1
        obtain ⟨x, xs, rfl, lx, l1⟩ := l1
        have l1 : xs = [] := l1
        subst l1
        unfold popK at P
        split at P
        · rename_i ks b' kvs' z1 h'
          obtain ⟨bb, rfl, hb⟩ := keyOf_ok A1 ly z1
          obtain ⟨a', kxs', g1, g2, g3, g4⟩ := own_dct A1 h'
          rw [h1] at g1; cases g1
          have at' := g4.at ks
          refine ⟨a, kxs', ks, bb, x, rfl, rfl, g2, hb, fun v hv => ?_, fun hv => ?_⟩
          · cases z3 : atD kvs' ks with
            | none => simp only [z3] at at'; rw [hv] at at'; cases at'
            | some d =>
              simp only [z3] at at' P
              obtain ⟨w, w1, w2⟩ := at'
              rw [hv] at w1; cases w1
              obtain ⟨k1, k2⟩ := upd_keep (v := .dT (dropK kxs' ks)) g2
              have new : RepK X.K (upd H1 a (.dT (dropK kxs' ks))) (All W env1 σ) (delD kvs' ks) (dropK kxs' ks) := repk_upd A1 h' h1 (g4.del ks)
              obtain ⟨A3, s3⟩ := A1.write (d' := .dct (delD kvs' ks)) h' h1 k1 k2 ⟨_, upd_same, Nat.le_trans (delD_len _ _) g3, new⟩
              exact P _ _ s3 ⟨A3, RL.keep (r := .val d) A1 s3 w2⟩
          · cases z3 : atD kvs' ks with
            | some d => simp only [z3] at at'; obtain ⟨w, w1, _⟩ := at'; rw [hv] at w1; cases w1
            | none =>
              simp only [z3] at P
              exact P x H1 .refl (lx.res A1)
        · exact P.elim
      · exact P.elim
    · exact q.elim
end
end DL

set_option Elab.async false
set_option linter.all false
set_option maxRecDepth 100000
namespace DL
open PySem PySem.Spec PyProof.Rows L2
/-! ### enumerate(a tuple) -/
set_option maxHeartbeats 1000000 in
theorem newEnumOf {v : Value} {o : Obj} {G : Heap → Prop} (B : Begins v o G) :
    Meets (Builtin.«enumerate.__new__» ⟨[.type "enumerate", v], []⟩) (fun _ R s => G s.heap ∧ R (.ok (.ret (.ref (s.heap.push o).objs.size)))
        { s with heap := (s.heap.push o).push { cls := .type "enumerate", data := .fields #[.none, .bool false, .ref s.heap.objs.size, rawInt 0, .none, .none] } }) :=
  .of_wp fun prog w A R s hs => by
    obtain ⟨heap0, gens0, drawn0, toks0, os0⟩ := s
    obtain ⟨hG, hR⟩ := hs
    have hsub := sub_enumerate
    have itr : ∀ {A' : Around} {E' Q' : Value → Shared → Prop}, Q' (.ref heap0.objs.size) ⟨heap0.push o, gens0, drawn0, toks0, os0⟩ → wpAny (model prog w) A' (pyIter v) Q' E' ⟨heap0, gens0, drawn0, toks0, os0⟩ :=
      fun q => B.iter prog w _ _ ⟨heap0, gens0, drawn0, toks0, os0⟩ _ hG q
    wp_walk using itr
    refine wpAny_stack_any fun st => wpAny_pure ?_
    split
    · rename_i c _ _ _ _ _
      cases (c == Value.type "enumerate") <;>
        (wp_walk using itr
         exact ⟨_, rfl, hR⟩)
    · wp_walk using itr
      exact ⟨_, rfl, hR⟩
theorem callEnumOf {prog : Program} {w : World} {A : Around} {E : Value → Shared → Prop} {s : Shared} {v : Value} {o : Obj} {G : Heap → Prop} {Q : Value → Shared → Prop} (B : Begins v o G) (hG : G s.heap)
    (h : ∀ h', IsEnum h' (s.heap.objs.size + 1) s.heap.objs.size 0 .none → h'.get? s.heap.objs.size = some o → (∀ b u, s.heap.get? b = some u → h'.get? b = some u) → Q (.ref (s.heap.objs.size + 1)) { s with heap := h' }) :
    wpAny (model prog w) A (call (.type "enumerate") [v]) Q E s := by
  refine callType_new F.called_enumerate (by decide) (F.typeCall_enumerate_1 _) (F.newCall_enumerate_1 _) (fun obj => F.args_object_init_2 obj _) F.entry_enumerate_new (newEnumOf B) ⟨hG, ?_⟩
  have z1 : (s.heap.push o).objs.size = s.heap.objs.size + 1 := Heap.size_push ..
  show _ ∧ _
  rw [z1]
  have en : IsEnum ((s.heap.push o).push { cls := .type "enumerate", data := .fields #[.none, .bool false, .ref s.heap.objs.size, rawInt 0, .none, .none] }) (s.heap.objs.size + 1) s.heap.objs.size 0 .none := by
    have q := Heap.get?_push_size (s.heap.push o) (o := { cls := .type "enumerate", data := .fields #[.none, .bool false, .ref s.heap.objs.size, rawInt 0, .none, .none] }) rfl
    rw [z1] at q
    exact q
  exact ⟨⟨_, en, rfl⟩, h _ en (Heap.get?_push_of_some _ (Heap.get?_push_size _ B.free)) fun b u x => Heap.get?_push_of_some _ (Heap.get?_push_of_some _ x)⟩
/-- the tuple at a, each item in a new pair -/
def IteT (K : PySem.W.Frag) (a : Addr) (n : Nat) : It :=
  ⟨fun i H => ∃ (xs : List V) (x : V), SqT K H a xs ∧ xs[i]? = some x ∧ xs.length = n, fun i H v H' => ∃ T x, v = .ref T ∧ H T = none ∧ H' = upd H T (.tup [.int (i : Nat), x]) ∧ ∀ xs, SqT K H a xs → xs[i]? = some x, fun i H => ∃ xs : List V, SqT K H a xs ∧ xs.length = n ∧ n ≤ i⟩
theorem turn_enumT {P : Program} {w : World} {K : PySem.W.Frag} {elts : List Expr} {kk : Nat} {tpos : Pos} (a e it : Addr) (n : Nat) :
    Turn P w K (.Tuple elts kk tpos) (IteT K a n) [e, it] e (fun i h => (∃ old, IsEnum h e it ((i : Nat) : Int) old) ∧ h.IsTupleIter it a i ∧ e ≠ it ∧ a ≠ it ∧ e ≠ a ∧ i ≤ n) where
  mem := by simp
  obj := fun i h st b hb => by
    obtain ⟨⟨old, he⟩, ⟨o, ho, hc, hd⟩, _⟩ := st
    have cs : b = e ∨ b = it := by simpa using hb
    rcases cs with z | z
    · rw [z]; exact ⟨_, he, fun v q => nomatch q⟩
    · rw [z]; exact ⟨o, ho, fun v q => by rw [hd] at q; cases q⟩
  keep := fun i h h' st k => let ⟨⟨old, he⟩, hi, hne⟩ := st; ⟨⟨old, k e (by simp) _ he⟩, hi.at fun o q => k it (by simp) o q, hne⟩
  item := by
    intro X hP hw hK hc i pins s σ H E I hf st hg
    subst hP hw hK
    obtain ⟨⟨old, he⟩, hit, n1, n2, n3, n4⟩ := st
    obtain ⟨xs, x, hq, hx, hlen⟩ := hg
    have hin : i < n := by rw [← hlen]; exact (List.getElem?_eq_some_iff.mp hx).1
    obtain ⟨its, rv, p, hz⟩ := L2.Inv.tuple I hq
    obtain ⟨u, hu, ru⟩ := rv.get hx
    have lt1 : e < s.heap.objs.size := Heap.lt_size he
    have lt2 : it < s.heap.objs.size := by obtain ⟨_, q, _⟩ := hit; exact Heap.lt_size q
    have hi : i < its.toArray.size := by
      have := (List.getElem?_eq_some_iff.mp hu).1
      simpa using this
    have dr := Draws.tuple (prog := X.prog) (w := X.w) (A := X.A.in1) (I.ok.hd hc) it a n2 its.toArray
    refine wpAny_pyNext_enum_itemD dr he ⟨hit, p⟩ hi n1 (by simp; exact ⟨n1, n3⟩) fun y h' tk hy ho hst hT hsz hk => ?_
    have ey : y = u := by
      rw [show its.toArray[i]? = its[i]? from by simp, hu] at hy
      cases hy; rfl
    subst ey
    refine ⟨_, rfl, wpAny_letOwnedTupleGo_enum (s := { s with heap := h', toks := tk + 1 }) ho fun h2 he2 sb => ?_⟩
    have hT2 : h2.get? s.heap.objs.size = some { cls := .type "tuple", data := .seq #[.int i tk, y] } := (sb.2 _ (Nat.ne_of_gt lt1)).trans hT
    have new : ObjOk X.prog X.w (upd H s.heap.objs.size (.tup [.int (i : Nat), x])) h2 s.heap.objs.size (.tup [.int (i : Nat), x]) :=
      ⟨by show 2 ≤ sizeLine; decide, [.int i tk, y], .cons ⟨_, rfl⟩ (.cons ru .nil), ⟨_, hT2, rfl, _, rfl⟩⟩
    have I1 : L2.Inv X pins σ (upd H s.heap.objs.size (.tup [.int (i : Nat), x])) { s with heap := h2, toks := tk + 1 } :=
      L2.Inv.turnedNew I (ch := [e, it]) (fun b ob hb q => (sb.2 b (fun z => hb (by simp [z]))).trans (hk b ob (fun z => hb (by simp [z])) (fun z => hb (by simp [z])) q)) hf (Nat.le_refl _) new
    refine ⟨.ref s.heap.objs.size, _, I1, rfl, ⟨_, x, rfl, I.hok.fresh (Nat.le_refl _), rfl, fun ys hy => by rw [L2.Inv.tuple_inj I hy hq]; exact hx⟩, ⟨⟨y, ?_⟩, hst.1.at fun o q => (sb.2 it (Ne.symm n1)).trans q, n1, n2, n3, hin⟩, fun b hb => ?_⟩
    · have e1 : ((i + 1 : Nat) : Int) = (i : Int) + 1 := by omega
      rw [e1]; exact he2
    · have lb : b < s.heap.objs.size := by
        have cs : b = e ∨ b = it := by simpa using hb
        rcases cs with z | z
        · rw [z]; exact lt1
        · rw [z]; exact lt2
      rw [upd_ne (Nat.ne_of_lt lb)]
      exact (hf b hb).1
  done := by
    intro X hP hw hK hc i pins s σ H E I hf st hg
    subst hP hw hK
    obtain ⟨⟨old, he⟩, hit, n1, n2, n3, n4⟩ := st
    obtain ⟨xs, hq, hx, hl⟩ := hg
    obtain ⟨its, rv, p, hz⟩ := L2.Inv.tuple I hq
    obtain ⟨f0, f1, f2, f3, f4, f5⟩ := hf it (by simp)
    have ll : i = its.toArray.size := by
      have := rv.length
      simp; omega
    have dr := Draws.tuple (prog := X.prog) (w := X.w) (A := X.A.in1) (I.ok.hd hc) it a n2 its.toArray
    rw [ll] at hit he
    exact wpAny_pyNext_enum_endD dr he ⟨hit, p⟩ fun h' eb => ⟨rfl, L2.Inv.turned (t' := s.toks) I (fun b o hb q => eb b o hb q) f0 f1 f3 f4 f5⟩
  self := fun A i s Q E st h => let ⟨⟨_, he⟩, _⟩ := st; wpAny_pyIter_enum he h
theorem walk_enumT {K : PySem.W.Frag} {a : Addr} {xs : List V} : Walk (IteT K a xs.length) xs.length (fun H => SqT K H a xs) (YPair (fun i => some (.int (i : Nat))) (fun i => xs[i]?)) := by
  refine ⟨fun i _ hi q => ⟨xs, xs[i], q, by simp [hi], rfl⟩, fun H q => ⟨xs, q, rfl, Nat.le_refl _⟩, fun i H v H' _ q y => ?_⟩
  obtain ⟨T, x, h1, h2, h3, h4⟩ := y
  exact ⟨T, .int (i : Nat), x, h1, h2, h3, rfl, h4 xs q⟩
def iEnumT (K : PySem.W.Frag) (ta : TA) : TI := fun σ H R => ta σ H fun vs H1 => ∃ (a : Addr) (xs : List V), vs = [.ref a] ∧ SqT K H1 a xs ∧ R (IteT K a xs.length) H1
theorem pi_enumT {X : Cx} {e : Expr} {ta : TA} {p pos tpos : Pos} {elts : List Expr} {kk : Nat} (hg : Gl X "enumerate") (hm : X.mg "enumerate" = none) (ha : PA X [e] ta) (hs : starEach [e] X.env = [(false, eval e X.env)] := by rfl) :
    PI X (.Tuple elts kk tpos) (.Call (.Name "enumerate" p) [e] [] pos) (iEnumT X.K ta) := by
  refine ⟨fun pins s σ H R I h => Call_ (ld_blt I hg hm boot_enumerate (PyProof.Rows.callWith_type1 (thn (ha.run pos pins s σ H _ I h) fun us s1 ⟨vs, H1, I1, r1, q1⟩ => ?_) hs rfl))⟩
  obtain ⟨a, xs, rfl, hq, q⟩ := q1
  rw [Vals.ref1 r1]
  obtain ⟨its, rv, pt, hz⟩ := L2.Inv.tuple I1 hq
  have la : a < s1.heap.objs.size := pt.lt
  refine callEnumOf (begins_tuple a its.toArray) pt fun h' he hit hk => wpAny_pyIter_enum he ?_
  have I2 : L2.Inv X pins σ H1 { s1 with heap := h' } := L2.Inv.kept (t' := s1.toks) I1 hk
  refine ⟨s1.heap.objs.size + 1, [s1.heap.objs.size + 1, s1.heap.objs.size], _, _, H1, rfl, I2, turn_enumT a (s1.heap.objs.size + 1) s1.heap.objs.size xs.length, ⟨⟨.none, he⟩, ⟨_, hit, rfl, rfl⟩, Nat.succ_ne_self _, Nat.ne_of_lt la, fun z => absurd la (by rw [← z]; exact Nat.not_lt_of_lt (Nat.lt_succ_self _)), Nat.zero_le _⟩, fun b hb => ?_, q⟩
  have cs : b = s1.heap.objs.size + 1 ∨ b = s1.heap.objs.size := by simpa using hb
  have le : s1.heap.objs.size ≤ b := by
    rcases cs with z | z
    · rw [z]; exact Nat.le_succ _
    · rw [z]; exact Nat.le_refl _
  exact L2.Inv.fpOk I1 le (I1.hok.fresh le)
/-! ### enumerate, as data -/
def enumD (ds : List DL.D) : List DL.D := ds.zipIdx.map fun p => .tup [.int (p.2 : Nat), p.1]
theorem enumD_len {ds : List DL.D} : (enumD ds).length = ds.length := by simp [enumD]
theorem enumD_get {ds : List DL.D} {i : Nat} {d : DL.D} (h : (enumD ds)[i]? = some d) : ∃ x, ds[i]? = some x ∧ d = .tup [.int (i : Nat), x] := by
  unfold enumD at h
  rw [List.getElem?_map, List.getElem?_zipIdx] at h
  cases q : ds[i]? with
  | none => rw [q] at h; cases h
  | some x => rw [q] at h; simp at h; exact ⟨x, rfl, by rw [← h]⟩
theorem yld_enum {K : PySem.W.Frag} {W : Fb} {env : Nv} {σ : St} {H : Hp} {J : It} {ds : List DL.D} {xs : List V} {G0 : Hp → Prop} (A : AS K W env σ H) (w : Walk J ds.length G0 (YPair (fun i => some (.int (i : Nat))) (fun i => xs[i]?))) (r : Reps K H (All W env σ) ds xs) (g : ∀ H', Kept (All W env σ) H H' → G0 H') : Yld K (All W env σ) H (enumD ds) J where
  go := fun i H' hi k => w.goes i H' (by rw [enumD_len] at hi; exact hi) (g H' k)
  stop := fun H' k => by rw [enumD_len]; exact w.stops H' (g H' k)
  yld := fun i H' x H2 d hd k y => by
    obtain ⟨x0, hx0, rfl⟩ := enumD_get hd
    obtain ⟨T, v1, v2, rfl, hT, rfl, e1, e2⟩ := w.yields i H' x H2 (List.getElem?_eq_some_iff.mp hx0).1 (g H' k) y
    simp only [Option.some.injEq] at e1
    subst e1
    obtain ⟨v, h1, h2⟩ := r.get hx0
    have e2 : xs[i]? = some v2 := e2
    rw [h1] at e2; cases e2
    refine ⟨fun a o h => by rw [upd_ne (ne_of_none h hT)]; exact h, fun a h => ?_, fun Wk hw => ?_⟩
    · by_cases e : a = T
      · rw [e]; exact hT
      · rw [upd_ne e] at h; exact h
    · have r1 := rep_kept A.mt h2 k hw
      have kp : Kp (fun _ => False) H' (upd H' T (.tup [.int (i : Nat), v2])) := ⟨fun _ z => z.elim, fun b u e _ => by rw [upd_ne (ne_of_none e hT)]; exact e⟩
      exact ⟨T, _, rfl, upd_same, (by show 2 ≤ sizeLine; decide), _, _, rfl, rfl, _, _, rfl, Rep.keep kp (fun _ z => z.elim) x0 v2 r1, rfl⟩
def itEL (f : F) : FI := fun env => bndI (f env) fun r env => match kp (hold r) env with
  | some (.lst ds, env) => some (.ok (enumD ds) env)
  | _ => none
def itET (f : F) : FI := fun env => bndI (f env) fun r env => match kp (hold r) env with
  | some (.tup ds, env) => some (.ok (enumD ds) env)
  | _ => none
section
variable {X : Cx} {Z : Wsh} {e : Expr} {elts : List Expr} {kk : Nat} {tpos p pos : Pos} {f : F}
theorem di_enumL (hg : Gl X "enumerate") (hm : X.mg "enumerate" = none) (he : DE X Z e f) (hs : starEach [e] X.env = [(false, eval e X.env)] := by rfl) : DI X Z (.Tuple elts kk tpos) (.Call (.Name "enumerate" p) [e] [] pos) (itEL f) := PIimp (pi_enum hg hm (pa_cons he pa_nil hs) hs) fun σ H R q => by
  obtain ⟨W, env, A, q⟩ := q
  refine tE_mono (fun v H1 t => ?_) (stepI A q)
  obtain ⟨r, env1, s1, A1, l1, p⟩ := t
  cases z : kp (hold r) env1 with
  | none => simp only [z] at p; exact p.elim
  | some pr =>
    obtain ⟨d, env2⟩ := pr
    obtain ⟨A2, r2, s2⟩ := kp_ok A1 l1 z
    simp only [z] at p
    cases d with
    | lst ds =>
      simp only at p
      obtain ⟨a, xs, rfl, nW, h, zz, q2⟩ := r2
      refine ⟨a, xs, rfl, .of h, p _ _ s2 A2 ?_⟩
      have hw : Walk (Ite X.K a) ds.length (fun H => SqL X.K H a xs) (YPair (fun i => some (.int (i : Nat))) (fun i => xs[i]?)) := by rw [q2.length]; exact walk_enum
      exact yld_enum A2 hw q2 fun H' k => .of (k.1 _ _ h nW)
    | _ => exact p.elim
theorem di_enumT (hg : Gl X "enumerate") (hm : X.mg "enumerate" = none) (he : DE X Z e f) (hs : starEach [e] X.env = [(false, eval e X.env)] := by rfl) : DI X Z (.Tuple elts kk tpos) (.Call (.Name "enumerate" p) [e] [] pos) (itET f) := PIimp (pi_enumT hg hm (pa_cons he pa_nil hs) hs) fun σ H R q => by
  obtain ⟨W, env, A, q⟩ := q
  refine tE_mono (fun v H1 t => ?_) (stepI A q)
  obtain ⟨r, env1, s1, A1, l1, p⟩ := t
  cases z : kp (hold r) env1 with
  | none => simp only [z] at p; exact p.elim
  | some pr =>
    obtain ⟨d, env2⟩ := pr
    obtain ⟨A2, r2, s2⟩ := kp_ok A1 l1 z
    simp only [z] at p
    cases d with
    | tup ds =>
      simp only at p
      obtain ⟨a, xs, rfl, h, zz, q2⟩ := r2
      refine ⟨a, xs, rfl, .of h, p _ _ s2 A2 ?_⟩
      have hw : Walk (IteT X.K a xs.length) ds.length (fun H => SqT X.K H a xs) (YPair (fun i => some (.int (i : Nat))) (fun i => xs[i]?)) := by rw [q2.length]; exact walk_enumT
      exact yld_enum A2 hw q2 fun H' k => .of (Kp.tup ⟨A2.mt, k.1⟩ h)
    | _ => exact p.elim
end
end DL

set_option Elab.async false
set_option linter.all false
set_option maxRecDepth 100000
namespace DL
open PySem PySem.Spec PyProof.Rows L2
/-! ### a dict that is walked is locked -/
structure Fz (H H' : Hp) : Prop where
  tup : ∀ x xs, H x = some (.tup xs) → H' x = some (.tup xs)
  lst : ∀ x xs, H x = some (.lst xs) → H' x = some (.lst xs)
  rd : ∀ x k, Rd H x (.dT k) → Rd H' x (.dT k)
  frz : ∀ x o xs, H x = some (.frz o (.lst xs)) → H' x = some (.frz o (.lst xs))
  xd : ∀ x fs, H x = some (.xd fs) → H' x = some (.xd fs)
  rng : ∀ x lo hi, H x = some (.rng lo hi) → H' x = some (.rng lo hi)
  st : ∀ x f, H x = some (.ext f) → H' x = some (.ext f)
  rk : ∀ x k, Rd H x (.dK k) → Rd H' x (.dK k)
  fk : ∀ x o k, H x = some (.frz o (.dK k)) → H' x = some (.frz o (.dK k))
section
variable {K : PySem.W.Frag} {H H' : Hp} {W : Fb}
mutual
theorem Rep.fz (z : Fz H H') : ∀ (d : DL.D) (v : V), Rep K H W d v → Rep K H' W d v
  | .non, v, r => r
  | .bl b, v, r => r
  | .int i, v, r => r
  | .str x, v, r => r
  | .tup ds, v, r => by
    obtain ⟨a, xs, e, s, l, q⟩ := r
    exact ⟨a, xs, e, z.tup _ _ s, l, Reps.fz z ds xs q⟩
  | .lst ds, v, r => by
    obtain ⟨a, xs, e, n, s, l, q⟩ := r
    exact ⟨a, xs, e, n, z.lst _ _ s, l, Reps.fz z ds xs q⟩
  | .dct kvs, v, r => by
    obtain ⟨a, xs, e, n, s, l, q⟩ := r
    exact ⟨a, xs, e, n, z.rd _ _ s, l, RepK.fz z kvs xs q⟩
  | .scr ns, v, r => by
    obtain ⟨a, e, s⟩ := r
    exact ⟨a, e, s.imp (fun ⟨o, h⟩ => ⟨o, z.frz _ _ _ h⟩) id⟩
  | .rng lo hi, v, r => by
    obtain ⟨a, e, s⟩ := r
    exact ⟨a, e, z.rng _ _ _ s⟩
  | .stt ns, v, r => by
    obtain ⟨a, w, n, e, nw, s⟩ := r
    exact ⟨a, w, n, e, nw, z.st _ _ s⟩
  | .dci kvs, v, r => by
    obtain ⟨a, e, n, s, l⟩ := r
    exact ⟨a, e, n, z.rk _ _ s, l⟩
  | .dcf kvs, v, r => by
    obtain ⟨a, o, e, n, s, l⟩ := r
    exact ⟨a, o, e, n, z.fk _ _ _ s, l⟩
theorem Reps.fz (z : Fz H H') : ∀ (ds : List DL.D) (xs : List V), Reps K H W ds xs → Reps K H' W ds xs
  | [], xs, r => r
  | d :: ds, xs, r => by
    obtain ⟨v, vs, e, q1, q2⟩ := r
    exact ⟨v, vs, e, Rep.fz z d v q1, Reps.fz z ds vs q2⟩
theorem RepK.fz (z : Fz H H') : ∀ (ds : Kvs) (xs : List (List Key × V)), RepK K H W ds xs → RepK K H' W ds xs
  | [], xs, r => r
  | (k, d) :: ds, xs, r => by
    obtain ⟨v, vs, e, q1, q2⟩ := r
    exact ⟨v, vs, e, Rep.fz z d v q1, RepK.fz z ds vs q2⟩
end
theorem Hold.fz {d : DL.D} {a : Addr} (z : Fz H H') (e : H' a = H a) (r : Hold K H W a d) : Hold K H' W a d := by
  cases d with
  | lst ds => obtain ⟨xs, h, l, q⟩ := r; exact ⟨xs, e.trans h, l, q.fz z⟩
  | dct ds => obtain ⟨xs, h, l, q⟩ := r; exact ⟨xs, e.trans h, l, q.fz z⟩
  | dci ds => exact ⟨e.trans r.1, r.2⟩
  | _ => exact r.elim
theorem Fz.refl : Fz H H := ⟨fun _ _ h => h, fun _ _ h => h, fun _ _ h => h, fun _ _ _ h => h, fun _ _ h => h, fun _ _ _ h => h, fun _ _ h => h, fun _ _ h => h, fun _ _ _ h => h⟩
theorem fz_lock {a : Addr} {k : List (List Key × V)} {o : Obj} (h : H a = some (.dT k)) : Fz H (upd H a (.frz o (.dT k))) := by
  refine ⟨fun x xs e => ?_, fun x xs e => ?_, fun x k' e => ?_, fun x o' xs e => ?_, fun x fs e => ?_, fun x lo hi e => ?_, fun x f e => (by rw [upd_ne (fun z => by rw [z, h] at e; cases e)]; exact e), fun x k' e => e.imp (fun e => by rw [upd_ne (fun z => by rw [z, h] at e; cases e)]; exact e) (fun ⟨o2, e⟩ => ⟨o2, by rw [upd_ne (fun z => by rw [z, h] at e; cases e)]; exact e⟩), fun x o' k' e => (by rw [upd_ne (fun z => by rw [z, h] at e; cases e)]; exact e)⟩
  · rw [upd_ne (fun z => by rw [z, h] at e; cases e)]; exact e
  · rw [upd_ne (fun z => by rw [z, h] at e; cases e)]; exact e
  · by_cases z : x = a
    · subst z
      rcases e with e | ⟨_, e⟩
      · rw [h] at e; cases e; exact .inr ⟨o, upd_same⟩
      · rw [h] at e; cases e
    · exact e.imp (fun e => by rw [upd_ne z]; exact e) fun ⟨o2, e⟩ => ⟨o2, by rw [upd_ne z]; exact e⟩
  · rw [upd_ne (fun z => by rw [z, h] at e; cases e)]; exact e
  · rw [upd_ne (fun z => by rw [z, h] at e; cases e)]; exact e
  · rw [upd_ne (fun z => by rw [z, h] at e; cases e)]; exact e
theorem fz_unlock {a : Addr} {k : List (List Key × V)} {o : Obj} (h : H a = some (.frz o (.dT k))) : Fz H (upd H a (.dT k)) := by
  refine ⟨fun x xs e => ?_, fun x xs e => ?_, fun x k' e => ?_, fun x o' xs e => ?_, fun x fs e => ?_, fun x lo hi e => ?_, fun x f e => (by rw [upd_ne (fun z => by rw [z, h] at e; cases e)]; exact e), fun x k' e => e.imp (fun e => by rw [upd_ne (fun z => by rw [z, h] at e; cases e)]; exact e) (fun ⟨o2, e⟩ => ⟨o2, by rw [upd_ne (fun z => by rw [z, h] at e; cases e)]; exact e⟩), fun x o' k' e => (by rw [upd_ne (fun z => by rw [z, h] at e; cases e)]; exact e)⟩
  · rw [upd_ne (fun z => by rw [z, h] at e; cases e)]; exact e
  · rw [upd_ne (fun z => by rw [z, h] at e; cases e)]; exact e
  · by_cases z : x = a
    · subst z
      rcases e with e | ⟨_, e⟩
      · rw [h] at e; cases e
      · rw [h] at e; cases e; exact .inl upd_same
    · exact e.imp (fun e => by rw [upd_ne z]; exact e) fun ⟨o2, e⟩ => ⟨o2, by rw [upd_ne z]; exact e⟩
  · rw [upd_ne (fun z => by rw [z, h] at e; cases e)]; exact e
  · rw [upd_ne (fun z => by rw [z, h] at e; cases e)]; exact e
  · rw [upd_ne (fun z => by rw [z, h] at e; cases e)]; exact e
end
def isLck (env : Nv) (j : Nat) : Bool := match env[j]? with
  | some (some (.lck _)) => true
  | _ => false
def lckOk (i : Nat) (e0 e1 : Nv) : Bool := (List.range e1.length).all fun j => j == i || !isLck e1 j || isLck e0 j
theorem lckOk_at {i j : Nat} {e0 e1 : Nv} {kvs : Kvs} (h : lckOk i e0 e1 = true) (hj : j ≠ i) (e : e1[j]? = some (some (.lck kvs))) : ∃ k2, e0[j]? = some (some (.lck k2)) := by
  have hl : j < e1.length := (List.getElem?_eq_some_iff.mp e).1
  have q := List.all_eq_true.mp h j (List.mem_range.mpr hl)
  have l1 : isLck e1 j = true := by unfold isLck; rw [e]
  rw [l1] at q
  have q : isLck e0 j = true := by simpa [hj] using q
  unfold isLck at q
  split at q
  · rename_i k h; exact ⟨k, h⟩
  · cases q
section
variable {K : PySem.W.Frag} {W : Fb} {env e1 : Nv} {σ : St} {H H' : Hp} {i : Nat} {a : Addr}
theorem slot_other {s0 s1 : Sl} (h0 : ∀ b d, s0 ≠ .own b d) (h1 : ∀ b d, s1 ≠ .own b d) (e : env[i]? = some (some s0)) {x : Addr} : Own (env.set i (some s1)) σ x ↔ Own env σ x := by
  refine ⟨fun z => own_set (fun b d q => h1 b d (Option.some.inj q)) z, fun ⟨j, b, d, g1, g2⟩ => ⟨j, b, d, ?_, g2⟩⟩
  have hj : i ≠ j := fun z => by subst z; rw [e] at g1; exact h0 b d (by simpa using g1)
  rw [List.getElem?_set_ne hj]; exact g1
theorem rel_at {d : DL.D} (A : AS K W env σ H) (e : rel i env = some (d, e1)) : (∃ v, σ[i]? = some (some v)) ∧ e1[i]? = some (some (.val d)) := by
  unfold rel at e
  split at e
  · rename_i d' q
    cases e
    obtain ⟨v, h, _⟩ := A.val i _ q
    exact ⟨⟨v, h⟩, q⟩
  · rename_i d' q
    cases e
    obtain ⟨v, h, _⟩ := A.own i _ _ q
    exact ⟨⟨_, h⟩, by rw [List.getElem?_set_self (List.getElem?_eq_some_iff.mp q).1]⟩
  · cases e
/-- from a value to a lock and back -/
theorem swap_as {s0 s1 : Sl} (h0 : ∀ b d, s0 ≠ .own b d) (h1 : ∀ b d, s1 ≠ .own b d) (h2 : ∀ a dd fs, s1 ≠ .exn a dd fs) (A : AS K W env σ H) (e : env[i]? = some (some s0)) (z : Fz H H') (mt : ∀ x o, Mut (some o) → H x = some o → x ≠ a → H' x = some o) (na : ¬ All W env σ a)
    (lk : ∀ j k2 x o k3, j ≠ i → env[j]? = some (some (.lck k2)) → σ[j]? = some (some (V.ref x)) → H x = some (.frz o (.dT k3)) → H' x = some (.frz o (.dT k3)))
    (hv : ∀ d, s1 = .val d → ∃ v, σ[i]? = some (some v) ∧ Rep K H' (All W env σ) d v)
    (hk : ∀ k, s1 = .lck k → ∃ x o kxs, σ[i]? = some (some (V.ref x)) ∧ H' x = some (.frz o (.dT kxs)) ∧ k.length ≤ sizeLine ∧ RepK K H' (All W env σ) k kxs) : AS K W (env.set i (some s1)) σ H' := by
  have al : ∀ x, All W (env.set i (some s1)) σ x ↔ All W env σ x := fun x => by
    unfold All
    rw [slot_other h0 h1 e]
  have hi : i < env.length := (List.getElem?_eq_some_iff.mp e).1
  have keepM : ∀ x, All W env σ x → H' x = H x := fun x q => by
    have m := A.mt x q
    cases hx : H x with
    | none => rw [hx] at m; exact m.elim
    | some o => exact mt x o (by rw [← hx]; exact m) hx fun z => na (z ▸ q)
  refine ⟨by rw [List.length_set]; exact A.len, fun j d g => ?_, fun j c d g => ?_, fun j k c c' d d' x g1 g2 g3 g4 => ?_, fun x w => ?_, fun j k2 g => ?_, fun j y dd fs g => ?_⟩
  · by_cases hj : i = j
    · subst hj
      rw [List.getElem?_set_self hi] at g
      obtain ⟨v, q1, q2⟩ := hv d (by simpa using g)
      exact ⟨v, q1, q2.anti fun x q => (al x).mp q⟩
    · rw [List.getElem?_set_ne hj] at g
      obtain ⟨v, q1, q2⟩ := A.val j d g
      exact ⟨v, q1, (Rep.fz z d v q2).anti fun x q => (al x).mp q⟩
  · by_cases hj : i = j
    · subst hj
      rw [List.getElem?_set_self hi] at g
      exact absurd (by simpa using g) (h1 c d)
    · rw [List.getElem?_set_ne hj] at g
      obtain ⟨x, q1, q2, q3⟩ := A.own j c d g
      exact ⟨x, q1, (q2.fz z (keepM x (.inr ⟨j, c, d, g, q1⟩))).anti fun x q => (al x).mp q, q3⟩
  · have b1 : i ≠ j := fun z => by
      subst z; rw [List.getElem?_set_self hi] at g1
      exact h1 c d (by simpa using g1)
    have b2 : i ≠ k := fun z => by
      subst z; rw [List.getElem?_set_self hi] at g2
      exact h1 c' d' (by simpa using g2)
    rw [List.getElem?_set_ne b1] at g1
    rw [List.getElem?_set_ne b2] at g2
    exact A.dis j k _ _ _ _ x g1 g2 g3 g4
  · rw [keepM x (.inl w)]; exact A.trk x w
  · by_cases hj : i = j
    · subst hj
      rw [List.getElem?_set_self hi] at g
      obtain ⟨x, o, kxs, q1, q2, q3, q4⟩ := hk k2 (by simpa using g)
      exact ⟨x, o, kxs, q1, q2, q3, q4.anti fun x q => (al x).mp q⟩
    · rw [List.getElem?_set_ne hj] at g
      obtain ⟨x, o, kxs, q1, q2, q3, q4⟩ := A.lck j k2 g
      exact ⟨x, o, kxs, q1, lk j k2 x o kxs (fun z => hj z.symm) g q1 q2, q3, (RepK.fz z k2 kxs q4).anti fun x q => (al x).mp q⟩
  · by_cases hj : i = j
    · subst hj
      rw [List.getElem?_set_self hi] at g
      exact absurd (by simpa using g) (h2 y dd fs)
    · rw [List.getElem?_set_ne hj] at g
      exact ⟨(A.exn j y dd fs g).1, (A.exn j y dd fs g).2.keep fun u hu => z.xd _ _ hu⟩
end
def lockF (i : Nat) (f : F) : F := fun env => match rel i env with
  | some (.dct k0, e1) => match f (e1.set i (some (.lck k0))) with
    | some (.ok r e2) => match e2[i]? with
      | some (some (.lck kvs)) => if lckOk i (e1.set i (some (.lck k0))) e2 then some (.ok r (e2.set i (some (.val (.dct kvs))))) else none
      | _ => none
    | _ => none
  | _ => none
section
variable {K : PySem.W.Frag} {W : Fb} {e2 : Nv} {σ : St} {H0 H2 H3 : Hp} {i : Nat} {a : Addr} {kvs : Kvs}
theorem unl_as {o : Obj} {kxs : List (List Key × V)} (A : AS K W e2 σ H2) (e : e2[i]? = some (some (.lck kvs))) (ha : σ[i]? = some (some (V.ref a))) (hf : H2 a = some (.frz o (.dT kxs))) (z : Fz H2 H3) (mt : ∀ x o, Mut (some o) → H2 x = some o → x ≠ a → H3 x = some o)
    (lk : ∀ j k2 x o k3, j ≠ i → e2[j]? = some (some (.lck k2)) → σ[j]? = some (some (V.ref x)) → H2 x = some (.frz o (.dT k3)) → H3 x = some (.frz o (.dT k3))) (rd : Rd H3 a (.dT kxs)) :
    AS K W (e2.set i (some (.val (.dct kvs)))) σ H3 := by
  have na : ¬ All W e2 σ a := fun q => by have m := A.mt a q; rw [hf] at m; exact m
  obtain ⟨a', o', kxs', q1, q2, q3, q4⟩ := A.lck i kvs e
  rw [ha] at q1; cases q1
  rw [hf] at q2; cases q2
  exact swap_as (fun _ _ q => by cases q) (fun _ _ q => by cases q) (fun _ _ _ q => by cases q) A e z mt na lk (fun d q => by
    cases q
    exact ⟨.ref a, ha, a, kxs, rfl, na, rd, q3, RepK.fz z kvs kxs q4⟩) fun k q => by cases q
theorem unl_res {o : Obj} {kxs : List (List Key × V)} {r : R} {v : V} (R0 : Res K W H0 e2 σ H2 r v) (e : e2[i]? = some (some (.lck kvs))) (ha : σ[i]? = some (some (V.ref a))) (hf : H2 a = some (.frz o (.dT kxs))) (z : Fz H2 H3) (mt : ∀ x o, Mut (some o) → H2 x = some o → x ≠ a → H3 x = some o)
    (lk : ∀ j k2 x o k3, j ≠ i → e2[j]? = some (some (.lck k2)) → σ[j]? = some (some (V.ref x)) → H2 x = some (.frz o (.dT k3)) → H3 x = some (.frz o (.dT k3))) (rd : Rd H3 a (.dT kxs)) :
    Res K W H0 (e2.set i (some (.val (.dct kvs)))) σ H3 r v := by
  have ow : ∀ x, Own (e2.set i (some (.val (.dct kvs)))) σ x ↔ Own e2 σ x := fun x => slot_other (fun _ _ q => by cases q) (fun _ _ q => by cases q) e
  cases r with
  | val d =>
    refine ⟨unl_as R0.1 e ha hf z mt lk rd, (Rep.fz z d v R0.2).anti fun x q => q.imp id (ow x).mp⟩
  | slot j => exact ⟨unl_as R0.1 e ha hf z mt lk rd, R0.2⟩
  | frs d =>
    obtain ⟨b, rfl, h0, nW, nO, A, hd⟩ := R0
    have mb := hd.mut
    have eb : H3 b = H2 b := by
      cases q : H2 b with
      | none => rw [q] at mb; exact mb.elim
      | some u => exact mt b u (by rw [← q]; exact mb) q fun x => by rw [x, hf] at mb; exact mb
    exact ⟨b, rfl, h0, nW, fun q => nO ((ow b).mp q), unl_as A e ha hf z mt lk rd, (hd.fz z eb).anti fun x q => q.imp id (ow x).mp⟩
end
theorem de_lock {X : Cx} {Z : Wsh} {e : Expr} {f : F} {i : Nat} (h : DE X Z e f) : DE X Z e (lockF i f) := by
  have both : PE X e (fun σ H Q => tE X.K Z f σ H Q ∨ tLockE (tE X.K Z f) σ H Q) := ⟨fun pins s σ H Q I q => q.elim (h.run pins s σ H Q I) ((pe_lock h).run pins s σ H Q I)⟩
  refine PEimp both fun σ H Q q => ?_
  obtain ⟨W, env, A, P⟩ := q
  unfold lockF at P
  split at P
  · rename_i k0 e1 z1
    split at P
    · rename_i r e2 z2
      split at P
      · rename_i kvs z3
        by_cases c : lckOk i (e1.set i (some (.lck k0))) e2 = true
        rotate_left
        · rw [if_neg c] at P; exact P.elim
        rw [if_pos c] at P
        obtain ⟨⟨v, hv⟩, hi1⟩ := rel_at A z1
        obtain ⟨A1, r1, s1⟩ := rel_ok A hv z1
        obtain ⟨a, kxs, rfl, na, rd, len, rk⟩ := r1
        have P := P.shift s1
        have hi : i < e1.length := (List.getElem?_eq_some_iff.mp hi1).1
        have ow0 : ∀ x, Own (e1.set i (some (.lck k0))) σ x ↔ Own e1 σ x := fun x => slot_other (fun _ _ q => by cases q) (fun _ _ q => by cases q) hi1
        have ow2 : ∀ x, Own (e2.set i (some (.val (.dct kvs)))) σ x ↔ Own e2 σ x := fun x => slot_other (fun _ _ q => by cases q) (fun _ _ q => by cases q) z3
        rcases rd with hd | ⟨o, hd⟩
        · refine .inr ⟨a, .dT kxs, hd, trivial, fun od => ?_⟩
          have zf := fz_lock (o := od) hd
          have A0 : AS X.K W (e1.set i (some (.lck k0))) σ (upd H a (.frz od (.dT kxs))) :=
            swap_as (a := a) (fun _ _ q => by cases q) (fun _ _ q => by cases q) (fun _ _ _ q => by cases q) A1 hi1 zf (fun x u _ hu ne => by rw [upd_ne ne]; exact hu) na
              (fun j k2 x u k3 _ _ _ hx => by
                rw [upd_ne (fun q => by rw [q, hd] at hx; cases hx)]; exact hx)
              (fun d q => by cases q) fun k q => by
                cases q
                exact ⟨a, od, kxs, hv, upd_same, len, RepK.fz zf _ _ rk⟩
          refine ⟨W, _, A0, ?_⟩
          rw [z2]
          intro v H2 st R2
          have hf : H2 a = some (.frz od (.dT kxs)) := st.keep a _ upd_same fun q => na (.inr ((ow0 a).mp q))
          refine ⟨hf, P v _ ?_ (unl_res (R2.shift fun b hb => ?_) z3 hv hf (fz_unlock hf) (fun x u _ hu ne => by rw [upd_ne ne]; exact hu) (fun j k2 x u k3 hj hl hx hxx => ?_) (.inl upd_same))⟩
          · refine ⟨fun x u hu nO => ?_, fun x q => ?_, fun x q => ?_⟩
            · by_cases e : x = a
              · subst e; rw [hd] at hu; cases hu; exact upd_same
              · rw [upd_ne e]
                exact st.keep x u (by rw [upd_ne e]; exact hu) fun q => nO ((ow0 x).mp q)
            · rcases st.own x ((ow2 x).mp q) with q | q
              · exact .inl ((ow0 x).mp q)
              · by_cases e : x = a
                · subst e; rw [upd_same] at q; cases q
                · rw [upd_ne e] at q; exact .inr q
            · by_cases e : x = a
              · subst e; rw [upd_same] at q; cases q
              · rw [upd_ne e] at q
                have := st.there x q
                rw [upd_ne e] at this
                exact this
          · by_cases e : b = a
            · subst e; rw [upd_same] at hb; cases hb
            · rw [upd_ne e] at hb; exact hb
          · have ne : x ≠ a := fun e => by
              subst e
              obtain ⟨k4, hk4⟩ := lckOk_at c hj hl
              rw [List.getElem?_set_ne (fun q => hj q.symm)] at hk4
              obtain ⟨x', u', kx', g1, g2, _⟩ := A1.lck j k4 hk4
              rw [hx] at g1; cases g1
              rw [hd] at g2; cases g2
            rw [upd_ne ne]; exact hxx
        · refine .inl ⟨W, e1.set i (some (.lck k0)), ?_, ?_⟩
          · exact swap_as (a := a) (fun _ _ q => by cases q) (fun _ _ q => by cases q) (fun _ _ _ q => by cases q) A1 hi1 .refl (fun x u _ hu ne => hu) na (fun j k2 x u k3 _ _ _ hx => hx) (fun d q => by cases q) fun k q => by
              cases q
              exact ⟨a, o, kxs, hv, hd, len, rk⟩
          · rw [z2]
            intro v H2 st R2
            have hf : H2 a = some (.frz o (.dT kxs)) := st.keep a _ hd fun q => na (.inr ((ow0 a).mp q))
            refine P v _ ⟨fun x u hu nO => st.keep x u hu fun q => nO ((ow0 x).mp q), fun x q => (st.own x ((ow2 x).mp q)).imp (ow0 x).mp id, st.there⟩ (unl_res R2 z3 hv hf .refl (fun x u _ hu ne => hu) (fun j k2 x u k3 _ _ _ hx => hx) (.inr ⟨o, hf⟩))
      · exact P.elim
    · exact P.elim
  · exact P.elim
/-! ### over a locked dict: its keys -/
def keysT (kvs : Kvs) : List DL.D := kvs.map fun p => .tup (p.1.map kD)
def itK (i : Nat) : FI := fun env => match env[i]? with
  | some (some (.lck kvs)) => if kvs.all fun p => decide (p.1.length ≤ sizeLine) then some (.ok (keysT kvs) env) else none
  | _ => none
theorem RepK.keyAt {K : PySem.W.Frag} {H : Hp} {W : Fb} : ∀ {kvs : Kvs} {kxs : List (List Key × V)} {n : Nat} {k : List Key} {d : DL.D}, RepK K H W kvs kxs → kvs[n]? = some (k, d) → ∃ v, kxs[n]? = some (k, v) ∧ Rep K H W d v
  | [], kxs, n, k, d, r, e => by cases n <;> cases e
  | (k', d') :: kvs, kxs, 0, k, d, r, e => by
    obtain ⟨v, vs, rfl, r1, r2⟩ := r
    cases e
    exact ⟨v, rfl, r1⟩
  | (k', d') :: kvs, kxs, n + 1, k, d, r, e => by
    obtain ⟨v, vs, rfl, r1, r2⟩ := r
    have e : kvs[n]? = some (k, d) := e
    obtain ⟨v', h1, h2⟩ := RepK.keyAt r2 e
    exact ⟨v', h1, h2⟩
theorem di_keys {X : Cx} {Z : Wsh} {tg e : Expr} {i : Nat} (p : PE X e (tVar i)) : DI X Z tg e (itK i) := PIimp (pi_keys p) fun σ H R q => by
  obtain ⟨W, env, A, q⟩ := q
  unfold itK at q
  split at q
  · rename_i kvs z
    by_cases c : (kvs.all fun p => decide (p.1.length ≤ sizeLine)) = true
    rotate_left
    · rw [if_neg c] at q; exact q.elim
    rw [if_pos c] at q
    obtain ⟨a, o, kxs, hv, hf, len, rk⟩ := A.lck i kvs z
    refine ⟨.ref a, hv, a, o, rfl, .inr ⟨kxs, hf, q _ _ .refl A ?_⟩⟩
    have na : ¬ All W env σ a := fun w => by have m := A.mt a w; rw [hf] at m; exact m
    have kk : ∀ {H'}, Kept (All W env σ) H H' → H' a = some (.frz o (.dT kxs)) := fun k => k.1 _ _ hf na
    have lk : (keysT kvs).length = kxs.length := by rw [keysT, List.length_map, rk.len]
    refine ⟨fun j H' hj k => (walk_keysT (kvs := kxs)).goes j H' (by rw [← lk]; exact hj) (kk k), fun H' k => by rw [lk]; exact (walk_keysT (kvs := kxs)).stops H' (kk k), fun j H' x H2 d hd k y => ?_⟩
    have hj : j < kxs.length := by rw [← lk]; exact (List.getElem?_eq_some_iff.mp hd).1
    obtain ⟨rfl, ks, v, qa, e1, rfl, e2⟩ := (walk_keysT (kvs := kxs)).yields j H' x H2 hj (kk k) y
    unfold keysT at hd
    rw [List.getElem?_map] at hd
    cases z2 : kvs[j]? with
    | none => rw [z2] at hd; cases hd
    | some pr =>
      obtain ⟨k0, d0⟩ := pr
      rw [z2] at hd
      cases hd
      obtain ⟨v', g1, _⟩ := rk.keyAt z2
      rw [e1] at g1; cases g1
      refine ⟨fun _ _ h => h, fun _ h => h, fun Wk hw => ⟨qa, _, rfl, e2, ?_, kDs_ok _⟩⟩
      have := List.all_eq_true.mp c _ (List.mem_of_getElem? z2)
      rw [List.length_map]
      exact of_decide_eq_true this
  · exact q.elim
end DL

set_option Elab.async false
set_option linter.all false
set_option maxRecDepth 100000
namespace DL
open PySem PySem.Spec PyProof.Rows L2
/-! ### max(a list of ints, default=x) -/
theorem maxI_two (n m : Int) : ∀ ms : List Int, maxI (max n m :: ms) = max n (maxI (m :: ms))
  | [] => rfl
  | k :: r => by
    show max (max n m) (maxI (k :: r)) = max n (max m (maxI (k :: r)))
    exact Int.max_assoc ..
theorem maxI_fold : ∀ (ms : List Int) (n : Int), ms.foldl max n = maxI (n :: ms)
  | [], n => rfl
  | m :: ms, n => by
    rw [List.foldl_cons, maxI_fold ms (max n m), maxI_two]
    rfl
theorem reads_ints {h : Heap} : ∀ {ns : List Int} {us : List Value}, Vals (ns.map V.int) us → ReadsAll h us (ns.map PyData.int) []
  | [], us, r => by cases r; exact .nil
  | n :: ns, us, r => by
    cases r with
    | cons r1 r2 =>
      obtain ⟨t, rfl⟩ := r1
      exact ReadsAll.cons (as := []) (bs := []) (.int n t) (reads_ints r2)
def rMaxK (K : PySem.W.Frag) : List V → List V → Hp → VK → Prop := fun xs zs H Q => ∃ (a : Addr) (ns : List Int) (z : V), xs = [V.ref a] ∧ zs = [z] ∧ SqL K H a (ns.map V.int) ∧ (ns = [] → Q z H) ∧ (∀ n ms, ns = n :: ms → Q (.int (maxI ns)) H)
theorem cr_maxK {X : Cx} (hc : X.calm = true) (hu : X.A.units + 1 < cLine) : CallRK X (.builtin "max") [Str.ofString "default"] (rMaxK X.K) := by
  intro pins s σ H xs zs us ws Q I r1 r2 h
  obtain ⟨a, ns, z, rfl, rfl, hs, h0, h1⟩ := h
  obtain ⟨its, rv, hl, _⟩ := L2.Inv.list I hs
  rw [Vals.ref1 r1]
  cases r2 with
  | cons rz rt =>
    cases rt
    rename_i u
    show wpAny _ _ (call (.builtin "max") [.ref a] [(Str.ofString "default", u)]) _ _ s
    refine PySem.W.max_list_datum_default (α := Int) (I.ok.hd hc) hl.isList ⟨[], reads_ints rv⟩ (show X.A.units + 1 + 0 < cLine by omega) (fun e h' tk hk => ?_) fun y ys i v h' tk e hi hv hk => ?_
    · exact ⟨z, H, L2.Inv.kept I hk, rz, h0 e⟩
    · subst e
      have hi2 : its[i]? = some v := by simpa using hi
      obtain ⟨x, hx, rx⟩ : ∃ x, (((y :: ys).map V.int))[i]? = some x ∧ RelV x v := by
        obtain ⟨hlt, _⟩ := List.getElem?_eq_some_iff.mp hi2
        have hlt2 : i < ((y :: ys).map V.int).length := by rw [rv.length]; exact hlt
        obtain ⟨u2, g1, g2⟩ := rv.get (List.getElem?_eq_getElem hlt2)
        rw [hi2] at g1; cases g1
        exact ⟨_, List.getElem?_eq_getElem hlt2, g2⟩
      rw [List.getElem?_map] at hx
      cases q : (y :: ys)[i]? with
      | none => rw [q] at hx; cases hx
      | some n =>
        rw [q] at hx
        cases hx
        obtain ⟨t, rfl⟩ := rx
        obtain ⟨bs, rd⟩ := hv
        rw [← PySem.W.maxD_map] at rd
        have e2 : PySem.W.maxD (PySem.W.Datum.toD y) (ys.map PySem.W.Datum.toD) = .int (ys.foldl max y) := PySem.W.maxD_ints y ys
        rw [e2, maxI_fold] at rd
        cases rd
        exact ⟨.int _, H, L2.Inv.kept I hk, ⟨t, rfl⟩, h1 y ys rfl⟩
def maxKO (p q : R) (env : Nv) : Option Out := match pk p env with
  | some (.lst ds) => match intsOf ds with
    | some [] => some (.ok q env)
    | some (n :: ns) => some (.ok (.val (.int (maxI (n :: ns)))) env)
    | none => none
  | _ => none
def maxKG (f g : F) : F := fun env => bnd (f env) fun p e1 => bnd (g e1) fun q e2 => maxKO (hold p) (hold q) e2
theorem de_maxK {X : Cx} {Z : Wsh} {e e2 : Expr} {f g : F} {p pos kpos : Pos} (hc : X.calm = true) (hu : X.A.units + 1 < cLine) (hg : Gl X "max") (hm : X.mg "max" = none) (he : DE X Z e f) (he2 : DE X Z e2 g)
    (hst : starEach [e] X.env = (false, eval e X.env) :: starEach [] X.env := by rfl) (h1 : backTo pos (starEach [e] X.env) = (false, eval e X.env) :: backTo pos (starEach [] X.env) := by rfl) (hpl : (backTo pos (starEach [e] X.env)).any (·.1) = false := by rfl)
    (hall : (backToKw pos (keywordEach [⟨some (Str.ofString "default"), e2, kpos⟩] X.env)).all (·.1.isSome) = true := by rfl) (hnone : (backToKw pos (keywordEach [⟨some (Str.ofString "default"), e2, kpos⟩] X.env)).any (·.1.isNone) = false := by rfl)
    (hks : (backToKw pos (keywordEach [⟨some (Str.ofString "default"), e2, kpos⟩] X.env)).filterMap (·.1) = [Str.ofString "default"] := by rfl) :
    DE X Z (.Call (.Name "max" p) [e] [⟨some (Str.ofString "default"), e2, kpos⟩] pos) (maxKG f g) :=
  PEimp (pe_callBK (cr_maxK hc hu) hg hm rfl (pa_cons he pa_nil hst) (pk_cons he2 pk_nil) (by decide) (by decide) h1 hpl hall hnone hks) fun σ H Q q => by
    obtain ⟨W, env, A, q⟩ := q
    refine tE_mono (fun v H1 t => ?_) (stepE A q)
    obtain ⟨r, env1, s1, A1, l1, P⟩ := t
    refine tE_mono (fun y H2 t => ?_) (stepE A1 P)
    obtain ⟨r2, env2, s2, A2, l2, P⟩ := t
    have l1' := l1.keep A1 s2
    unfold maxKO at P
    split at P
    · rename_i ds z
      obtain ⟨a, xs, rfl, hs, _, rq⟩ := top_lst (pk_top A2 l1' z)
      split at P
      · rename_i z2
        rw [intsOf_reps z2 rq] at hs
        exact ⟨a, [], y, rfl, rfl, .of hs, fun _ => P y H2 .refl (l2.res A2), fun n ms e => (by cases e)⟩
      · rename_i n ns z2
        rw [intsOf_reps z2 rq] at hs
        exact ⟨a, n :: ns, y, rfl, rfl, .of hs, fun e => (by cases e), fun n' ms e => by cases e; exact pend_val (d := .int (maxI (n :: ns))) A2 rfl P⟩
      · exact P.elim
    · exact P.elim
/-! ### reversed(range(n)) -/
def revL (n : Int) : List DL.D := (List.range n.toNat).map fun (i : Nat) => .int (n - 1 - i)
def itRv (f : F) : FI := fun env => bndI (f env) fun r env => match asI (hold r) with
  | some j => if rngC j then some (.ok (revL j) env) else none
  | none => none
theorem di_rev {X : Cx} {Z : Wsh} {e tg : Expr} {f : F} {p p2 pos pos2 : Pos} (hg : Gl X "reversed") (hm : X.mg "reversed" = none) (hg2 : Gl X "range") (hm2 : X.mg "range" = none) (he : DE X Z e f) (na : starEach [e] X.env = (false, eval e X.env) :: starEach [] X.env := by rfl)
    (hs : starEach [.Call (.Name "range" p2) [e] [] pos2] X.env = (false, eval (.Call (.Name "range" p2) [e] [] pos2) X.env) :: starEach [] X.env := by rfl) :
    DI X Z tg (.Call (.Name "reversed" p) [.Call (.Name "range" p2) [e] [] pos2] [] pos) (itRv f) := PIimp (pi_revR hg hm (prg_1 hg2 hm2 he na) hs) fun σ H R q => by
  obtain ⟨W, env, A, q⟩ := q
  refine tE_mono (fun v H1 t => ?_) (stepI A q)
  obtain ⟨r, env1, s1, A1, l1, p⟩ := t
  cases z : asI (hold r) with
  | none => simp only [z] at p; exact p.elim
  | some j =>
    simp only [z] at p
    by_cases c : rngC j = true
    · simp only [if_pos c] at p
      obtain ⟨c1, c2⟩ := Bool.and_eq_true_iff.mp c
      refine ⟨j, by rw [asI_ok z l1], by decide, by decide, of_decide_eq_true c1, of_decide_eq_true c2, p _ _ .refl A1 ?_⟩
      have ln : (revL j).length = (j - 0).toNat := by rw [revL, List.length_map, List.length_range, Int.sub_zero]
      refine ⟨fun i H' h _ => by rw [ln] at h; exact h, fun H' _ => by rw [ln]; exact Nat.le_refl _, fun i H' x H2 d hd k y => ?_⟩
      obtain ⟨e1, e2⟩ := y
      subst e1 e2
      refine ⟨fun _ _ h => h, fun _ h => h, fun Wk hw => ?_⟩
      have hi := (List.getElem?_eq_some_iff.mp hd).1
      rw [ln] at hi
      rw [revL, List.getElem?_map, List.getElem?_range (by rw [Int.sub_zero] at hi; exact hi)] at hd
      cases hd
      show V.int _ = V.int _
      have e3 : (0 : Int) + (((j - 0).toNat : Nat) : Int) - 1 + (i : Nat) * (-1) = j - 1 - i := by omega
      rw [e3]
    · simp only [if_neg c] at p; exact p.elim
end DL

set_option Elab.async false
set_option linter.all false
set_option maxRecDepth 100000
namespace DL
open PySem PySem.Spec PyProof.Rows L2
/-! ### a def as a function of data -/
/-- a result: new or not; what the first argument holds behind the call -/
inductive FR where
  | ok (fr : Bool) (d tp : DL.D) | exc (x : Ex) (tp : DL.D)
abbrev Fn := List DL.D → Option FR
def ArgsOk (K : PySem.W.Frag) (H : Hp) (W : Fb) (m : Bool) (ds : List DL.D) (vs : List V) : Prop :=
  if m then ∃ a d0 dr vr, ds = d0 :: dr ∧ vs = V.ref a :: vr ∧ W a ∧ Hold K H W a d0 ∧ Reps K H W dr vr else Reps K H W ds vs
def KeepC (m : Bool) (vs : List V) (H H' : Hp) : Prop := (∀ x o, H x = some o → ¬ (m = true ∧ vs[0]? = some (V.ref x)) → H' x = some o) ∧ ∀ x, H' x = none → H x = none
def TapeC (K : PySem.W.Frag) (U : Fb) (H' : Hp) (m : Bool) (vs : List V) (tp : DL.D) : Prop := m = true → ∃ a, vs[0]? = some (V.ref a) ∧ Hold K H' U a tp
def ResC (K : PySem.W.Frag) (W : Fb) (H H' : Hp) (m : Bool) (vs : List V) (tp : DL.D) (fr : Bool) (d : DL.D) (v : V) : Prop :=
  if fr then ∃ b, v = .ref b ∧ H b = none ∧ ¬ W b ∧ TapeC K (Plus W b) H' m vs tp ∧ Hold K H' (Plus W b) b d else TapeC K W H' m vs tp ∧ Rep K H' W d v
def PendC (K : PySem.W.Frag) (CA : Nat → Addr) (W : Fb) (H : Hp) (m : Bool) (vs : List V) (Q : VK) (E : XK) : Option FR → Prop
  | some (.ok fr d tp) => ∀ v H', KeepC m vs H H' → ResC K W H H' m vs tp fr d v → Q v H'
  | some (.exc x tp) => ∀ cls d H', KeepC m vs H H' → TapeC K W H' m vs tp → XOk CA x cls d H' → E cls d H'
  | none => False
def spD (K : PySem.W.Frag) (CA : Nat → Addr) (m : Bool) (n : Nat) (f : Fn) : Sp := fun vs H Q E => ∃ W ds, vs.length = n ∧ (∀ a, W a → Mut (H a)) ∧ ArgsOk K H W m ds vs ∧ PendC K CA W H m vs Q E (f ds)
theorem RLs.length {K : PySem.W.Frag} {W : Fb} {env : Nv} {σ : St} {H : Hp} : ∀ {rs : List R} {vs : List V}, RLs K W env σ H rs vs → vs.length = rs.length
  | [], vs, h => by
    have h : vs = [] := h
    subst h; rfl
  | r :: rs, vs, h => by
    obtain ⟨x, xs, rfl, _, q⟩ := h
    simp only [List.length_cons, RLs.length q]
/-! ### a call -/
def outC (r : Option FR) (k : DL.D → Nv) : Option Out := match r with
  | some (.ok fr d tp) => some (.ok (if fr then .frs d else .val d) (k tp))
  | some (.exc x tp) => some (.exc x (k tp))
  | none => none
def callO (m : Bool) (n : Nat) (f : Fn) (rs : List R) (env : Nv) : Option Out := if rs.length ≠ n then none else if m then match rs with
    | .slot i :: rr => match kps rr env with
      | some (ds, e2) => match e2[i]? with
        | some (some (.own b d0)) => outC (f (d0 :: ds)) fun tp => e2.set i (some (.own b tp))
        | _ => none
      | none => none
    | _ => none
  else match kps rs env with
    | some (ds, e2) => outC (f ds) fun _ => e2
    | none => none
section
variable {K : PySem.W.Frag} {W : Fb} {Z : Wsh} {env e2 : Nv} {σ : St} {H : Hp} {Q : VK} {f : Fn}
theorem call_none {ds : List DL.D} {vs : List V} (A : AS K W e2 σ H) (r : Reps K H (All W e2 σ) ds vs) (P : Pend K W Z e2 σ H Q (outC (f ds) fun _ => e2)) : PendC K Z.CA (All W e2 σ) H false vs Q (WE Z.wx σ) (f ds) := by
  have kp : ∀ {H'}, KeepC false vs H H' → (∀ a o, H a = some o → H' a = some o) := fun k a o h => k.1 a o h fun z => Bool.noConfusion z.1
  have st : ∀ {H'}, KeepC false vs H H' → Stp e2 σ H e2 σ H' := fun k => ⟨fun a o h _ => kp k a o h, fun _ z => .inl z, k.2⟩
  unfold outC at P
  cases z : f ds with
  | none => rw [z] at P; exact P.elim
  | some fr =>
    rw [z] at P
    cases fr with
    | exc x tp => exact fun cls d H' k t xo => P cls d H' (st k) (A.grow (kp k)) xo
    | ok fr d tp =>
      cases fr with
      | false =>
        intro v H' k rc
        exact P v H' (st k) ⟨A.grow (kp k), rc.2⟩
      | true =>
        intro v H' k rc
        obtain ⟨b, rfl, hb, nW, _, hd⟩ := (show ∃ b, v = .ref b ∧ H b = none ∧ ¬ All W e2 σ b ∧ TapeC K (Plus (All W e2 σ) b) H' false vs tp ∧ Hold K H' (Plus (All W e2 σ) b) b d from rc)
        exact P _ H' (st k) ⟨b, rfl, hb, fun z => nW (.inl z), fun z => nW (.inr z), A.forbid2 hb (kp k) hd.mut, hd.anti fun a z => all_plus.mp z⟩
theorem call_tape {i : Nat} {b : Bool} {a : Addr} {d0 : DL.D} {ds : List DL.D} {vs : List V} (A : AS K W e2 σ H) (hi : e2[i]? = some (some (Sl.own b d0))) (ha : σ[i]? = some (some (V.ref a))) (r : Reps K H (All W e2 σ) ds vs)
    (P : Pend K W Z e2 σ H Q (outC (f (d0 :: ds)) fun tp => e2.set i (some (.own b tp)))) : PendC K Z.CA (All W e2 σ) H true (V.ref a :: vs) Q (WE Z.wx σ) (f (d0 :: ds)) := by
  have kp : ∀ {H'}, KeepC true (V.ref a :: vs) H H' → (∀ x o, x ≠ a → H x = some o → H' x = some o) := fun k x o n h => k.1 x o h fun z => n (by have := z.2; simp at this; exact this.symm)
  have tpa : ∀ {U : Fb} {H' : Hp} {tp : DL.D}, TapeC K U H' true (V.ref a :: vs) tp → Hold K H' U a tp := fun t => by
    obtain ⟨a', e, h⟩ := t rfl
    simp at e
    rw [← e] at h
    exact h
  obtain ⟨a', q1, q2, q3⟩ := A.own i b d0 hi
  rw [ha] at q1; cases q1
  unfold outC at P
  cases z : f (d0 :: ds) with
  | none => rw [z] at P; exact P.elim
  | some fr =>
    rw [z] at P
    cases fr with
    | exc x tp =>
      intro cls d H' k t xo
      obtain ⟨A3, s3⟩ := A.write hi ha (kp k) k.2 (tpa t)
      exact P cls d H' s3 A3 xo
    | ok fr d tp =>
      cases fr with
      | false =>
        intro v H' k rc
        obtain ⟨A3, s3⟩ := A.write hi ha (kp k) k.2 (tpa rc.1)
        refine P v H' s3 ⟨A3, rc.2.anti fun x q => q.imp id fun w => (own_same hi).mp w⟩
      | true =>
        intro v H' k rc
        obtain ⟨c, rfl, hc, nW, tc, hd⟩ := (show ∃ b, v = .ref b ∧ H b = none ∧ ¬ All W e2 σ b ∧ TapeC K (Plus (All W e2 σ) b) H' true (V.ref a :: vs) tp ∧ Hold K H' (Plus (All W e2 σ) b) b d from rc)
        cases hq : H' c with
        | none => have := hd.mut; rw [hq] at this; exact this.elim
        | some oc =>
          have mc : Mut (some oc) := by rw [← hq]; exact hd.mut
          have A1 : AS K (Plus W c) e2 σ (upd H c oc) := A.forbid hc mc
          have nca : c ≠ a := fun e => by
            subst e
            have := q2.mut
            rw [hc] at this
            exact this
          have kp1 : ∀ x o, x ≠ a → upd H c oc x = some o → H' x = some o := fun x o n h => by
            by_cases e : x = c
            · subst e; rw [upd_same] at h; rw [← h]; exact hq
            · rw [upd_ne e] at h; exact kp k x o n h
          have th1 : ∀ x, H' x = none → upd H c oc x = none := fun x h => by
            by_cases e : x = c
            · subst e; rw [hq] at h; cases h
            · rw [upd_ne e]; exact k.2 x h
          obtain ⟨A3, s3⟩ := A1.write hi ha kp1 th1 ((tpa tc).anti fun x q => all_plus.mp q)
          have sH : Stp e2 σ H (e2.set i (some (.own b tp))) σ H' := ⟨fun x o h n => kp k x o (fun e => n (by rw [e]; exact ⟨i, b, d0, hi, ha⟩)) h, fun x q => .inl ((own_same hi).mp q), k.2⟩
          refine P _ H' sH ⟨c, rfl, hc, fun q => nW (.inl q), fun q => nW (.inr ((own_same hi).mp q)), A3, hd.anti fun x q => ?_⟩
          rcases q with (q | q) | q
          · exact .inl (.inl q)
          · exact .inr q
          · exact .inl (.inr ((own_same hi).mp q))
end
section
variable {X : Cx} {Z : Wsh} {k : Nat} {fa : Addr} {fd : FuncData} {ps : List Str} {m : Bool} {fn : Fn} {x : Str} {p pos : Pos} {e : Expr} {es : List Expr} {f : F} {fs : List F}
theorem de_call (G : FnOk X.prog X.w X.K X.mg X.base (L2N.CX X.prog X.w) k fa fd ps (spD X.K Z.CA m ps.length fn)) (hr : Room k X.A) (hg : Gl X x) (hm : X.mg x = some (.ref fa)) (hk : PySem.W.keepIn X.K (.ref fa) = true) (hb : Binds X.K fd ps []) (tk : L2N.Takes X Z.wx)
    (ha : DAs X Z (e :: es) (f :: fs)) (hdb : (x == ("__debug__" : Str)) = false := by decide) (he : starEach (e :: es) X.env = (false, eval e X.env) :: starEach es X.env := by rfl) (hpl : (backTo pos (starEach es X.env)).any (·.1) = false := by rfl) :
    DE X Z (.Call (.Name x p) (e :: es) [] pos) (apN (f :: fs) (callO m ps.length fn)) :=
  PEimp (pe_callS G hr hg hm hk hb (E := WE Z.wx) (fun σ => L2N.passAt tk σ) ha hdb he hpl) fun σ H Q q => by
    obtain ⟨W, env, A, q⟩ := q
    refine tAs_mono (f :: fs) (fun vs H1 t => ?_) (evs_ok (f :: fs) A q)
    obtain ⟨rs, env1, s1, A1, l1, P⟩ := t
    have lv := l1.length
    unfold callO at P
    by_cases c : rs.length ≠ ps.length
    · rw [if_pos c] at P; exact P.elim
    rw [if_neg c] at P
    have c : rs.length = ps.length := by simpa using c
    cases m with
    | false =>
      rw [if_neg Bool.false_ne_true] at P
      cases z : kps rs env1 with
      | none => rw [z] at P; exact P.elim
      | some pr =>
        obtain ⟨ds, e2⟩ := pr
        rw [z] at P
        obtain ⟨A2, r2, s2⟩ := kps_ok A1 l1 z
        exact ⟨All W e2 σ, ds, lv.trans c, A2.mt, r2, call_none A2 r2 (P.shift s2)⟩
    | true =>
      rw [if_pos rfl] at P
      cases rs with
      | nil => exact P.elim
      | cons r0 rr =>
        cases r0 with
        | val d => exact P.elim
        | frs d => exact P.elim
        | slot i =>
          simp only at P
          cases z : kps rr env1 with
          | none => simp only [z] at P; exact P.elim
          | some pr =>
            obtain ⟨ds, e2⟩ := pr
            simp only [z] at P
            split at P
            · rename_i b d0 hi
              obtain ⟨x0, xs, rfl, lx, l2⟩ := l1
              obtain ⟨A2, r2, s2⟩ := kps_ok A1 l2 z
              obtain ⟨a, ha, hd, _⟩ := A2.own i b d0 hi
              have lx : σ[i]? = some (some x0) := lx
              rw [ha] at lx; cases lx
              exact ⟨All W e2 σ, d0 :: ds, lv.trans c, A2.mt, ⟨a, d0, ds, xs, rfl, rfl, .inr ⟨i, b, d0, hi, ha⟩, hd, r2⟩, call_tape A2 hi ha r2 (P.shift s2)⟩
            · exact P.elim
end
end DL

set_option Elab.async false
set_option linter.all false
set_option maxRecDepth 100000
namespace DL
open PySem PySem.Spec PyProof.Rows L2
/-! ### a def -/
def pad {α : Type} (l : List α) (k : Nat) : List (Option α) := l.map some ++ List.replicate k none
theorem pad_get {α : Type} {l : List α} {k i : Nat} {y : α} : (pad l k)[i]? = some (some y) ↔ l[i]? = some y := by
  unfold pad
  by_cases h : i < l.length
  · rw [List.getElem?_append_left (by simpa using h), List.getElem?_map]
    cases l[i]? with
    | none => simp
    | some z => simp
  · rw [List.getElem?_append_right (by simpa using h), List.getElem?_replicate]
    rw [List.getElem?_eq_none (by omega)]
    constructor
    · intro q; split at q <;> cases q
    · intro q; cases q
def slots0 (m : Bool) (ds : List DL.D) : List Sl := if m then match ds with
    | d0 :: dr => .own true d0 :: dr.map .val
    | [] => []
  else ds.map .val
def tpOf (m : Bool) (env : Nv) : Option DL.D := if m then match (env[0]? : Option (Option Sl)) with
    | some (some (.own true d)) => some d
    | _ => none
  else some .non
def resOf (r : R) (env : Nv) : Option (Bool × DL.D) := match r with
  | .frs d => some (true, d)
  | .val d => some (false, d)
  | .slot i => match env[i]? with
    | some (some (.own false d)) => some (true, d)
    | some (some (.val d)) => some (false, d)
    | _ => none
def exitC (m : Bool) (o : Option SO) : Option FR := match o with
  | some (.nx env) => (tpOf m env).map fun tp => .ok false .non tp
  | some (.rt r env) => match tpOf m env, resOf r env with
    | some tp, some (fr, d) => some (.ok fr d tp)
    | _, _ => none
  | some (.exc x env) => (tpOf m env).map fun tp => .exc x tp
  | _ => none
def fnD (m : Bool) (nN : Nat) (g : G) : Fn := fun ds => exitC m (g (pad (slots0 m ds) (nN - ds.length)))
section
variable {K : PySem.W.Frag} {W : Fb} {H : Hp} {m : Bool} {ds : List DL.D} {vs : List V} {k : Nat}
theorem entry_own (ok : ArgsOk K H W m ds vs) {k' : Nat} {a : Addr} (o : Own (pad (slots0 m ds) k) (pad vs k') a) : m = true ∧ vs[0]? = some (V.ref a) ∧ W a := by
  obtain ⟨i, b, d, h1, h2⟩ := o
  rw [pad_get] at h1 h2
  unfold slots0 at h1
  cases m with
  | false =>
    rw [if_neg Bool.false_ne_true, List.getElem?_map] at h1
    cases q : ds[i]? with
    | none => rw [q] at h1; cases h1
    | some d' => rw [q] at h1; cases h1
  | true =>
    obtain ⟨a0, d0, dr, vr, rfl, rfl, hW, _⟩ := (show ∃ a d0 dr vr, ds = d0 :: dr ∧ vs = V.ref a :: vr ∧ W a ∧ Hold K H W a d0 ∧ Reps K H W dr vr from ok)
    rw [if_pos rfl] at h1
    cases i with
    | succ i =>
      have h1 : (dr.map Sl.val)[i]? = some (Sl.own b d) := h1
      rw [List.getElem?_map] at h1
      cases q : dr[i]? with
      | none => rw [q] at h1; cases h1
      | some d' => rw [q] at h1; cases h1
    | zero =>
      have h2 : some (V.ref a0) = some (V.ref a) := h2
      cases h2
      exact ⟨rfl, rfl, hW⟩
theorem ArgsOk.length (ok : ArgsOk K H W m ds vs) : ds.length = vs.length := by
  unfold ArgsOk at ok
  cases m with
  | false => rw [if_neg Bool.false_ne_true] at ok; exact ok.length
  | true =>
    rw [if_pos rfl] at ok
    obtain ⟨a, d0, dr, vr, rfl, rfl, _, _, r⟩ := ok
    simp only [List.length_cons, r.length]
theorem slots0_length (ok : ArgsOk K H W m ds vs) : (slots0 m ds).length = ds.length := by
  unfold slots0
  cases m with
  | false => simp
  | true =>
    obtain ⟨a0, d0, dr, vr, rfl, rfl, _⟩ := (show ∃ a d0 dr vr, ds = d0 :: dr ∧ vs = V.ref a :: vr ∧ W a ∧ Hold K H W a d0 ∧ Reps K H W dr vr from ok)
    simp
theorem entry_as (trk : ∀ a, W a → Mut (H a)) (ok : ArgsOk K H W m ds vs) : AS K W (pad (slots0 m ds) k) (pad vs k) H := by
  have al : ∀ a, All W (pad (slots0 m ds) k) (pad vs k) a → W a := fun a z => z.elim id fun o => (entry_own ok o).2.2
  have lens : (slots0 m ds).length = vs.length := (slots0_length ok).trans ok.length
  refine ⟨by unfold pad; simp [lens], fun i d h => ?_, fun i b d h => ?_, fun i j b c d d' a h1 h2 h3 h4 => ?_, trk, fun i kvs h => ?_, fun i x dd fs h => ?_⟩
  · rw [pad_get] at h
    unfold slots0 at h
    cases m with
    | false =>
      rw [if_neg Bool.false_ne_true, List.getElem?_map] at h
      cases q : ds[i]? with
      | none => rw [q] at h; cases h
      | some d' =>
        rw [q] at h; cases h
        obtain ⟨v, h1, h2⟩ := (show Reps K H W ds vs from ok).get q
        exact ⟨v, by rw [pad_get]; exact h1, h2.anti al⟩
    | true =>
      obtain ⟨a0, d0, dr, vr, rfl, rfl, hW, _, r⟩ := (show ∃ a d0 dr vr, ds = d0 :: dr ∧ vs = V.ref a :: vr ∧ W a ∧ Hold K H W a d0 ∧ Reps K H W dr vr from ok)
      rw [if_pos rfl] at h
      cases i with
      | zero => cases h
      | succ i =>
        have h : (dr.map Sl.val)[i]? = some (Sl.val d) := h
        rw [List.getElem?_map] at h
        cases q : dr[i]? with
        | none => rw [q] at h; cases h
        | some d' =>
          rw [q] at h; cases h
          obtain ⟨v, h1, h2⟩ := r.get q
          exact ⟨v, by rw [pad_get]; exact h1, h2.anti al⟩
  · rw [pad_get] at h
    unfold slots0 at h
    cases m with
    | false =>
      rw [if_neg Bool.false_ne_true, List.getElem?_map] at h
      cases q : ds[i]? with
      | none => rw [q] at h; cases h
      | some d' => rw [q] at h; cases h
    | true =>
      obtain ⟨a0, d0, dr, vr, rfl, rfl, hW, hd, r⟩ := (show ∃ a d0 dr vr, ds = d0 :: dr ∧ vs = V.ref a :: vr ∧ W a ∧ Hold K H W a d0 ∧ Reps K H W dr vr from ok)
      rw [if_pos rfl] at h
      cases i with
      | zero =>
        cases h
        exact ⟨a0, by rw [pad_get]; rfl, hd.anti al, ⟨fun _ => hW, fun _ => rfl⟩⟩
      | succ i =>
        have h : (dr.map Sl.val)[i]? = some (Sl.own b d) := h
        rw [List.getElem?_map] at h
        cases q : dr[i]? with
        | none => rw [q] at h; cases h
        | some d' => rw [q] at h; cases h
  · have one : ∀ {i : Nat} {b : Bool} {d : DL.D}, (pad (slots0 m ds) k)[i]? = some (some (Sl.own b d)) → i = 0 := fun {i b d} h => by
      rw [pad_get] at h
      unfold slots0 at h
      cases m with
      | false =>
        rw [if_neg Bool.false_ne_true, List.getElem?_map] at h
        cases q : ds[i]? with
        | none => rw [q] at h; cases h
        | some d' => rw [q] at h; cases h
      | true =>
        obtain ⟨a0, d0, dr, vr, rfl, rfl, _⟩ := (show ∃ a d0 dr vr, ds = d0 :: dr ∧ vs = V.ref a :: vr ∧ W a ∧ Hold K H W a d0 ∧ Reps K H W dr vr from ok)
        rw [if_pos rfl] at h
        cases i with
        | zero => rfl
        | succ i =>
          have h : (dr.map Sl.val)[i]? = some (Sl.own b d) := h
          rw [List.getElem?_map] at h
          cases q : dr[i]? with
          | none => rw [q] at h; cases h
          | some d' => rw [q] at h; cases h
    rw [one h1, one h2]
  · rw [pad_get] at h
    unfold slots0 at h
    cases m with
    | false =>
      rw [if_neg Bool.false_ne_true, List.getElem?_map] at h
      cases q : ds[i]? with
      | none => rw [q] at h; cases h
      | some d' => rw [q] at h; cases h
    | true =>
      obtain ⟨a0, d0, dr, vr, rfl, rfl, _⟩ := (show ∃ a d0 dr vr, ds = d0 :: dr ∧ vs = V.ref a :: vr ∧ W a ∧ Hold K H W a d0 ∧ Reps K H W dr vr from ok)
      rw [if_pos rfl] at h
      cases i with
      | zero => cases h
      | succ i =>
        have h : (dr.map Sl.val)[i]? = some (Sl.lck kvs) := h
        rw [List.getElem?_map] at h
        cases q : dr[i]? with
        | none => rw [q] at h; cases h
        | some d' => rw [q] at h; cases h
  · rw [pad_get] at h
    unfold slots0 at h
    cases m with
    | false =>
      rw [if_neg Bool.false_ne_true, List.getElem?_map] at h
      cases q : ds[i]? with
      | none => rw [q] at h; cases h
      | some d' => rw [q] at h; cases h
    | true =>
      obtain ⟨a0, d0, dr, vr, rfl, rfl, _⟩ := (show ∃ a d0 dr vr, ds = d0 :: dr ∧ vs = V.ref a :: vr ∧ W a ∧ Hold K H W a d0 ∧ Reps K H W dr vr from ok)
      rw [if_pos rfl] at h
      cases i with
      | zero => cases h
      | succ i =>
        have h : (dr.map Sl.val)[i]? = some (Sl.exn x dd fs) := h
        rw [List.getElem?_map] at h
        cases q : dr[i]? with
        | none => rw [q] at h; cases h
        | some d' => rw [q] at h; cases h
end
section
variable {K : PySem.W.Frag} {CA : Nat → Addr} {W : Fb} {H H' : Hp} {m : Bool} {ds : List DL.D} {vs : List V} {k : Nat} {env : Nv} {σ : St} {Q : VK} {E : XK} {tp : DL.D}
theorem exit_keep (ok : ArgsOk K H W m ds vs) (s : Stp (pad (slots0 m ds) k) (pad vs k) H env σ H') : KeepC m vs H H' :=
  ⟨fun x o h n => s.keep x o h fun z => n ⟨(entry_own ok z).1, (entry_own ok z).2.1⟩, s.there⟩
/-- the tape at the exit, by whatever is forbidden -/
theorem exit_tape {U : Fb} (trk : ∀ a, W a → Mut (H a)) (ok : ArgsOk K H W m ds vs) (s : Stp (pad (slots0 m ds) k) (pad vs k) H env σ H') (sub : ∀ a, U a → Own env σ a → W a) (A : AS K U env σ H') (e : tpOf m env = some tp) {U' : Fb} (hu : ∀ a, U' a → All U env σ a) : TapeC K U' H' m vs tp := fun hm => by
  subst hm
  unfold tpOf at e
  rw [if_pos rfl] at e
  split at e
  · rename_i d q
    cases e
    obtain ⟨a, h1, h2, h3⟩ := A.own 0 true _ q
    have ow : Own env σ a := ⟨0, true, _, q, h1⟩
    have hW := sub a (h3.mp rfl) ow
    rcases s.own a ow with z | z
    · exact ⟨a, (entry_own ok z).2.1, h2.anti hu⟩
    · have := trk a hW; rw [z] at this; exact this.elim
  · cases e
theorem exit_ok (trk : ∀ a, W a → Mut (H a)) (ok : ArgsOk K H W m ds vs) {o : Option SO} (P : PendC K CA W H m vs Q E (exitC m o)) :
    PendS K W ⟨CA, fun cls d _ H' => E cls d H'⟩ (pad (slots0 m ds) k) (pad vs k) H { nx := fun _ H' => Q .non H', rt := Q } o := by
  unfold exitC at P
  cases o with
  | none => exact P.elim
  | some so =>
    cases so with
    | bk env => exact P.elim
    | ct env => exact P.elim
    | nx env =>
      intro σ' H' s A
      cases z : tpOf m env with
      | none => simp only [z, Option.map] at P; exact P.elim
      | some tp =>
        simp only [z, Option.map] at P
        exact P .non H' (exit_keep ok s) ⟨exit_tape trk ok s (fun a h _ => h) A z (fun a h => .inl h), rfl⟩
    | exc x env =>
      intro cls d σ' H' s A xo
      cases z : tpOf m env with
      | none => simp only [z, Option.map] at P; exact P.elim
      | some tp =>
        simp only [z, Option.map] at P
        exact P cls d H' (exit_keep ok s) (exit_tape trk ok s (fun a h _ => h) A z (fun a h => .inl h)) xo
    | rt r env =>
      intro v σ' H' s R0
      cases z : tpOf m env with
      | none => simp only [z] at P; exact P.elim
      | some tp =>
        simp only [z] at P
        cases r with
        | val d =>
          exact P v H' (exit_keep ok s) ⟨exit_tape trk ok s (fun a h _ => h) R0.1 z (fun a h => .inl h), R0.2.anti fun a h => .inl h⟩
        | frs d =>
          obtain ⟨b, rfl, hb, nW, nO, A, hd⟩ := R0
          refine P _ H' (exit_keep ok s) ⟨b, rfl, hb, nW, exit_tape trk ok s (fun a h w => h.elim id fun e => absurd w (by rw [e]; exact nO)) A z (fun a h => .inl h), hd.anti fun a h => .inl h⟩
        | slot i =>
          have A := R0.1
          have hv : σ'[i]? = some (some v) := R0.2
          simp only [resOf] at P
          split at P
          · rename_i fr d tp' d' z1 z2
            split at z2
            · rename_i d2 q
              cases z2
              cases z1
              obtain ⟨a, h1, h2, h3⟩ := A.own i false _ q
              rw [hv] at h1; cases h1
              have ow : Own env σ' a := ⟨i, false, _, q, hv⟩
              have nW : ¬ W a := fun w => by have := h3.mpr w; cases this
              have hn : H a = none := (s.own a ow).elim (fun w => absurd (entry_own ok w).2.2 nW) id
              have pl : ∀ x, Plus W a x → All W env σ' x := fun x h => h.elim .inl fun e => .inr (by rw [e]; exact ow)
              exact P _ H' (exit_keep ok s) ⟨a, rfl, hn, nW, exit_tape trk ok s (fun a h _ => h) A z pl, h2.anti pl⟩
            · rename_i d2 q
              cases z2
              cases z1
              obtain ⟨u, h1, h2⟩ := A.val i _ q
              rw [hv] at h1; cases h1
              exact P v H' (exit_keep ok s) ⟨exit_tape trk ok s (fun a h _ => h) A z (fun a h => .inl h), h2.anti fun a h => .inl h⟩
            · cases z2
          · exact P.elim
end
/-- a def that may raise, by its body -/
theorem fun_okN {P : Program} {w : World} {K : PySem.W.Frag} {mg : Str → Option Value} {base : Heap} {x qual : Str} {st : Stmt} {f : Addr} {fd : FuncData} {N ps : List Str} {k : Nat} {sp : Sp} (F : Fun K x qual st f fd) (S : FnScope N ps (defScope st)) (len : ∀ vs H Q E, sp vs H Q E → vs.length = ps.length)
    (body : ∀ (cdv : Value) (A : Around) (outer : List Env) (s : Shared) (H : Hp) (vs : List V) (Q : VK) (E : XK), Room k (A.deeper (envOfC qual (defScope st) s.heap.objs.size f cdv)) → sp vs H Q E → ∃ t, PSs (cxOf (L2N.CX P w) P w K mg base N qual (defScope st) f cdv A outer s H E) (defBody st) t ∧ t { nx := fun _ H' => Q .non H', rt := Q } (start N vs) H) : FnOk P w K mg base (L2N.CX P w) (k + 1) f fd ps sp := by
  obtain ⟨oc0, od0, kV0, dc0, pm0, an0, cdv, ct0, sl0, rfl, hlk, hcd0⟩ := F.ex
  exact fn_of hlk hcd0 S len fun A outer s H vs Q E hr hsp => body cdv A outer s H vs Q E hr hsp
theorem takesN0 {X : Cx} : L2N.Takes X (fun _ _ _ _ => False) := fun _ _ x => by
  obtain ⟨_, _, _, _, _, _, _, _, _, _, _, _, _, _, _, _, z⟩ := x
  exact z.elim
/-- THE RULE for a def -/
theorem def_ok {P : Program} {w : World} {K : PySem.W.Frag} {mg : Str → Option Value} {base : Heap} {x qual : Str} {st : Stmt} {f : Addr} {fd : FuncData} {N ps : List Str} {k : Nat} {CA : Nat → Addr} {m : Bool} {g : G} (F : Fun K x qual st f fd) (S : FnScope N ps (defScope st))
    (body : ∀ (cdv : Value) (A : Around) (outer : List Env) (s : Shared) (H : Hp) (E : XK), Room k (A.deeper (envOfC qual (defScope st) s.heap.objs.size f cdv)) → DSs (cxOf (L2N.CX P w) P w K mg base N qual (defScope st) f cdv A outer s H E) ⟨CA, fun cls d _ H' => E cls d H'⟩ (defBody st) g) :
    FnOk P w K mg base (L2N.CX P w) (k + 1) f fd ps (spD K CA m ps.length (fnD m N.length g)) := by
  refine fun_okN F S (fun vs H Q E h => ?_) fun cdv A outer s H vs Q E hr h => ⟨_, body cdv A outer s H E hr, ?_⟩
  · obtain ⟨W, ds, hl, _⟩ := h
    exact hl
  · obtain ⟨W, ds, hl, trk, ok, P⟩ := h
    refine ⟨W, pad (slots0 m ds) (N.length - ds.length), ?_, ?_⟩
    · rw [ok.length]
      exact entry_as trk ok
    · have e : start N vs = pad vs (N.length - ds.length) := by rw [ok.length]; rfl
      rw [e]
      exact exit_ok trk ok P
/-- the same by another function -/
theorem fn_same {P : Program} {w : World} {K : PySem.W.Frag} {mg : Str → Option Value} {base : Heap} {f : Addr} {fd : FuncData} {ps : List Str} {k n : Nat} {CA : Nat → Addr} {m : Bool} {fn fn' : Fn} (F : FnOk P w K mg base (L2N.CX P w) k f fd ps (spD K CA m n fn)) (h : ∀ ds r, fn' ds = some r → fn ds = some r) :
    FnOk P w K mg base (L2N.CX P w) k f fd ps (spD K CA m n fn') := F.imp fun vs H Q E ⟨W, ds, hl, trk, ok, P⟩ => ⟨W, ds, hl, trk, ok, by
    cases z : fn' ds with
    | none => rw [z] at P; exact P.elim
    | some r => rw [h ds r z]; rw [z] at P; exact P⟩
end DL

set_option Elab.async false
set_option linter.all false
set_option maxRecDepth 100000
namespace DL
open PySem PySem.Spec PyProof.Rows L2
/-! ### truth of a value -/
def truD : DL.D → Option Bool
  | .non => some false
  | .bl b => some b
  | .int i => some (i != 0)
  | .lst ds => some (!ds.isEmpty)
  | .tup ds => some (!ds.isEmpty)
  | _ => none
def truF (f : F) : F := fun env => bnd (f env) fun r e1 => match (pk (hold r) e1).bind truD with
  | some b => some (.ok (.val (.bl b)) e1)
  | none => none
theorem Reps.isE {K : PySem.W.Frag} {H : Hp} {W : Fb} : ∀ {ds : List DL.D} {xs : List V}, Reps K H W ds xs → ds.isEmpty = xs.isEmpty
  | [], xs, h => by
    have h : xs = [] := h
    subst h; rfl
  | d :: ds, xs, h => by obtain ⟨v, vs, rfl, _⟩ := h; rfl
section
variable {X : Cx} {Z : Wsh} {e : Expr} {f c : F}
theorem stepTt {K : PySem.W.Frag} {W : Fb} {env : Nv} {σ : St} {H : Hp} {Q : Bool → Hp → Prop} {k : R → Nv → Option Out} (A : AS K W env σ H) (h : PendT K W Z env σ H Q (bnd (f env) k)) :
    tE K Z f σ H (fun v H1 => ∃ r env1, Stp env σ H env1 σ H1 ∧ AS K W env1 σ H1 ∧ RL K W env1 σ H1 (hold r) v ∧ PendT K W Z env1 σ H1 Q (k r env1)) := by
  refine ⟨W, env, A, ?_⟩
  revert h
  generalize f env = o
  intro h
  match o, h with
  | some (.ok r e), h => exact fun v H1 s r1 => ⟨r, e, s, r1.as, r1.rl, PendT.shift s h⟩
  | some (.exc x e), h => exact fun cls d H1 s A1 x1 => h cls d H1 s A1 x1
theorem dt_tru (he : DE X Z e f) (hp : ∀ whole, isTrue e X.env whole = (do let v ← whole; standAt e.pos; holding [v] (truthy v)) := by intro _; rfl) : DT X Z e (truF f) :=
  PTimp (pt_truth he hp) fun σ H Q q => by
    obtain ⟨W, env, A, q⟩ := q
    refine tE_mono (fun v H1 t => ?_) (stepTt A q)
    obtain ⟨r, env1, s1, A1, l1, P⟩ := t
    cases z : (pk (hold r) env1).bind truD with
    | none => rw [z] at P; exact P.elim
    | some b =>
      rw [z] at P
      cases z2 : pk (hold r) env1 with
      | none => rw [z2] at z; cases z
      | some d =>
        rw [z2] at z
        have z : truD d = some b := z
        have t := pk_top A1 l1 z2
        have fin : Q b H1 := P H1 .refl A1
        cases d with
        | non => cases z; have t : v = .non := t; subst t; exact ⟨false, rfl, fin⟩
        | bl k => cases z; have t : v = .bl _ := t; subst t; exact ⟨_, rfl, fin⟩
        | int i => cases z; have t : v = .int i := t; subst t; exact ⟨_, rfl, fin⟩
        | lst ds =>
          cases z
          obtain ⟨a, xs, rfl, h, _, q⟩ := t
          exact ⟨_, .inl ⟨xs, .of h, by rw [q.isE]⟩, fin⟩
        | tup ds =>
          cases z
          obtain ⟨a, xs, rfl, h, _, q⟩ := t
          exact ⟨_, .inr (.inl ⟨xs, .of h, by rw [q.isE]⟩), fin⟩
        | _ => cases z
theorem PTsimp {ifs : List Expr} {t t' : TT} (h : PTs X ifs t) (hi : ∀ σ H Q, t' σ H Q → t σ H Q) : PTs X ifs t' := ⟨fun pins s σ H Q I hq => h.run pins s σ H Q I (hi σ H Q hq)⟩
theorem dts_nil : PTs X [] (tT X.K Z yesF) := PTsimp pts_nil fun σ H Q q => by
  obtain ⟨W, env, A, q⟩ := q
  exact q H .refl A
theorem dts_one (h : DT X Z e c) : PTs X [e] (tT X.K Z c) := pts_one h
end
end DL

set_option Elab.async false
set_option linter.all false
set_option maxRecDepth 100000
namespace DL
open PySem PySem.Spec PyProof.Rows L2
/-! ### try: .. except X as e: .. -/
section
variable {K : PySem.W.Frag} {W : Fb} {Z : Wsh} {env env' : Nv} {σ σ' : St} {H H' H0 : Hp} {i : Nat}
theorem own_other {s : Option Sl} (hs : ∀ b d, s ≠ some (.own b d)) (h : ∀ j, j ≠ i → σ'[j]? = σ[j]?) {a : Addr} (z : Own (env.set i s) σ' a) : Own env σ a := by
  obtain ⟨j, b, d, e1, e2⟩ := z
  by_cases hj : i = j
  · subst hj
    by_cases hl : i < env.length
    · rw [List.getElem?_set_self hl] at e1
      exact absurd (Option.some.inj e1) (hs b d)
    · rw [List.getElem?_eq_none (by simpa using hl)] at e1; cases e1
  · rw [List.getElem?_set_ne hj] at e1
    rw [h j (fun q => hj q.symm)] at e2
    exact ⟨j, b, d, e1, e2⟩
/-- the slot i is forgotten, or holds an exception -/
theorem AS.other {s : Option Sl} (A : AS K W env σ H) (hl : σ'.length = σ.length) (h : ∀ j, j ≠ i → σ'[j]? = σ[j]?) (hs : s = none ∨ ∃ a dd fs, s = some (.exn a dd fs) ∧ σ'[i]? = some (some (V.ref a)) ∧ XdOk H dd fs) : AS K W (env.set i s) σ' H := by
  have ns : ∀ b d, s ≠ some (.own b d) := fun b d q => by
    rcases hs with hs | ⟨_, _, _, hs, _⟩
    · rw [hs] at q; cases q
    · rw [hs] at q; cases q
  have al : ∀ a, All W (env.set i s) σ' a → All W env σ a := fun a z => z.imp id (own_other ns h)
  have pick : ∀ {j : Nat} {x : Sl}, (env.set i s)[j]? = some (some x) → (j = i ∧ s = some x) ∨ (j ≠ i ∧ env[j]? = some (some x)) := fun {j x} q => by
    by_cases hj : i = j
    · subst hj
      by_cases hl : i < env.length
      · rw [List.getElem?_set_self hl] at q
        exact .inl ⟨rfl, Option.some.inj q⟩
      · rw [List.getElem?_eq_none (by simpa using hl)] at q; cases q
    · rw [List.getElem?_set_ne hj] at q
      exact .inr ⟨fun z => hj z.symm, q⟩
  refine ⟨by rw [List.length_set, hl]; exact A.len, fun j d q => ?_, fun j b d q => ?_, fun j k b c d e a h1 h2 h3 h4 => ?_, A.trk, fun j kvs q => ?_, fun j a dd fs q => ?_⟩
  · rcases pick q with ⟨_, q⟩ | ⟨hj, q⟩
    · rcases hs with hs | ⟨_, _, _, hs, _⟩ <;> (rw [hs] at q; cases q)
    · obtain ⟨v, g1, g2⟩ := A.val j d q
      exact ⟨v, by rw [h j hj]; exact g1, g2.anti al⟩
  · rcases pick q with ⟨_, q⟩ | ⟨hj, q⟩
    · exact absurd q (ns b d)
    · obtain ⟨v, g1, g2, g3⟩ := A.own j b d q
      exact ⟨v, by rw [h j hj]; exact g1, g2.anti al, g3⟩
  · rcases pick h1 with ⟨_, q⟩ | ⟨hj, h1⟩
    · exact absurd q (ns b d)
    · rcases pick h2 with ⟨_, q⟩ | ⟨hk, h2⟩
      · exact absurd q (ns c e)
      · rw [h j hj] at h3
        rw [h k hk] at h4
        exact A.dis j k _ _ _ _ a h1 h2 h3 h4
  · rcases pick q with ⟨_, q⟩ | ⟨hj, q⟩
    · rcases hs with hs | ⟨_, _, _, hs, _⟩ <;> (rw [hs] at q; cases q)
    · obtain ⟨a, o, kxs, g1, g2, g3, g4⟩ := A.lck j kvs q
      exact ⟨a, o, kxs, by rw [h j hj]; exact g1, g2, g3, g4.anti al⟩
  · rcases pick q with ⟨e, q2⟩ | ⟨hj, q2⟩
    · rw [e]
      rcases hs with hs | ⟨_, _, _, hs, h1, h2⟩
      · rw [hs] at q2; cases q2
      · rw [hs] at q2; cases q2
        exact ⟨h1, h2⟩
    · obtain ⟨g1, g2⟩ := A.exn j a dd fs q2
      exact ⟨by rw [h j hj]; exact g1, g2⟩
theorem stp_other {s : Option Sl} {e2 : Nv} {σ2 : St} (hs : ∀ b d, s ≠ some (.own b d)) (h : ∀ j, j ≠ i → σ'[j]? = σ[j]?) (st : Stp e2 σ2 H0 env σ H) : Stp e2 σ2 H0 (env.set i s) σ' H := ⟨st.keep, fun a z => st.own a (own_other hs h z), st.there⟩
theorem set_other {x : Option V} : ∀ j, j ≠ i → (σ.set i x)[j]? = σ[j]? := fun j hj => List.getElem?_set_ne (fun z => hj z.symm)
theorem Res.forget {r : R} {v : V} (h : Res K W H0 env σ H r v) : Res K W H0 (env.set i none) σ H r v := by
  have ns : ∀ b d, (none : Option Sl) ≠ some (.own b d) := fun _ _ q => by cases q
  cases r with
  | val d => exact ⟨h.1.other rfl (fun _ _ => rfl) (.inl rfl), h.2.anti fun a z => z.imp id (own_other ns fun _ _ => rfl)⟩
  | slot j => exact ⟨h.1.other rfl (fun _ _ => rfl) (.inl rfl), h.2⟩
  | frs d =>
    obtain ⟨a, rfl, h0, nW, nO, A, hd⟩ := h
    exact ⟨a, rfl, h0, nW, fun z => nO (own_other ns (fun _ _ => rfl) z), A.other rfl (fun _ _ => rfl) (.inl rfl), hd.anti fun a z => z.imp id (own_other ns fun _ _ => rfl)⟩
end
/-- whatever the addresses are -/
noncomputable def anyA (f : Addr → Addr → Option SO) : Option SO := open Classical in if h : ∃ o, ∀ a d, f a d = some o then some h.choose else none
theorem anyA_inv {f : Addr → Addr → Option SO} {o : SO} (h : anyA f = some o) (a d : Addr) : f a d = some o := by
  unfold anyA at h
  split at h
  · rename_i q
    cases h
    exact q.choose_spec a d
  · cases h
theorem anyA_ok {f : Addr → Addr → Option SO} {o : SO} (h : ∀ a d, f a d = some o) : anyA f = some o := by
  unfold anyA
  have q : ∃ o, ∀ a d, f a d = some o := ⟨o, h⟩
  rw [dif_pos q]
  have := q.choose_spec 0 0
  rw [h 0 0] at this
  exact this.symm
def suiteO (i : Nat) : Option SO → Option SO
  | some (.nx e) => some (.nx (e.set i none))
  | some (.bk e) => some (.bk (e.set i none))
  | some (.ct e) => some (.ct (e.set i none))
  | some (.rt r e) => some (.rt r (e.set i none))
  | _ => none
noncomputable def tryAs (m : Nat → Bool) (i : Nat) (g : G) (sg : Addr → Addr → Ex → G) : G := fun env => match g env with
  | some (.exc x e1) => if m x.c then (if i < e1.length then anyA fun a dd => suiteO i (sg a dd x (e1.set i (some (.exn a dd x.fs)))) else none) else some (.exc x e1)
  | o => o
section
variable {X : Cx} {Z : Wsh} {x n : Str} {c : Value} {i : Nat} {m : Nat → Bool} {body suite : List Stmt} {b0 : Stmt} {np pos pos' : Pos} {g : G} {sg : Addr → Addr → Ex → G}
theorem ds_tryAs (hs : X.stack = X.env :: X.outer) (hf : X.env.frame = some X.env.locals) (hN : X.N.Nodup) (hi : X.N[i]? = some n) (hln : X.env.kindOf n = some .local) (hc : Names X x c) (tk : L2N.Takes X Z.wx) (hm : ∀ k, PySem.W.exmOne X.K (.ref (Z.CA k)) c = some (m k))
    (hb : ∀ (W : WX) (pn : List (Addr × Obj)) (xe : Value → Shared → Prop), L2N.Takes (X.tr pn xe) W → PassesOwn (model X.prog X.w) X.A X.env xe → DSs (X.tr pn xe) ⟨Z.CA, W⟩ body g)
    (hsu : ∀ (a : Addr) (oe : Obj) (d : Option Addr) (pn : List (Addr × Obj)) (x : Ex) (dd : Addr), L2N.Zn (.ref (Z.CA x.c)) d oe → (∃ vs, oe.data = .fields vs) → ((x.fs = [] ∧ d = none) ∨ (x.fs ≠ [] ∧ d = some dd)) → DSs (X.suite a ((a, oe) :: pn)) ⟨Z.CA, fun _ _ _ _ => False⟩ (b0 :: suite) (sg a dd x)) :
    DS X Z (.Try body [.ExceptHandler (some (.Name x np)) (some n) (b0 :: suite) pos'] [] [] pos) (tryAs m i g sg) := by
  refine PSimp (L2N.ps_try_as (i := i) (tb := fun W => tS X.K ⟨Z.CA, W⟩ g) (Wout := Z.wx)
    (ts := fun a cls d D σ H => ∃ (x : Ex) (dd : Addr), cls = .ref (Z.CA x.c) ∧ ((x.fs = [] ∧ d = none) ∨ (x.fs ≠ [] ∧ d = some dd)) ∧ tS X.K ⟨Z.CA, fun _ _ _ _ => False⟩ (sg a dd x) D σ H) hs hf hN hi hln hc tk hb fun a oe cls d pn hz hv => ⟨fun pins s σ H D I h => ?_⟩) fun D σ H q => ?_
  · obtain ⟨x, dd, rfl, hd, h⟩ := h
    exact (hsu a oe d pn x dd hz hv hd).run pins s σ H D I h
  obtain ⟨W, env, A, P⟩ := q
  refine ⟨W, env, A, ?_⟩
  unfold tryAs at P
  cases z : g env with
  | none => rw [z] at P; exact P.elim
  | some so =>
    rw [z] at P
    cases so with
    | nx e => exact P
    | bk e => exact P
    | ct e => exact P
    | rt r e => exact P
    | exc x e1 =>
      simp only at P
      intro cls d σ' H' st A1 xo
      obtain ⟨rfl, hx⟩ := xo
      refine ⟨m x.c, hm x.c, fun hb a ha => ?_, fun hb => ?_⟩
      · rw [if_pos hb] at P
        obtain ⟨dd, hd, hxd⟩ : ∃ dd, ((x.fs = [] ∧ d = none) ∨ (x.fs ≠ [] ∧ d = some dd)) ∧ XdOk H' dd x.fs := by
          rcases hx with hx | ⟨h0, dd, h1, h2⟩
          · exact ⟨0, .inl hx, .inl hx.1⟩
          · exact ⟨dd, .inr ⟨h0, h1⟩, .inr h2⟩
        by_cases hl : i < e1.length
        rotate_left
        · rw [if_neg hl] at P; exact P.elim
        rw [if_pos hl] at P
        have hlen : i < σ'.length := by rw [← A1.len]; exact hl
        refine ⟨x, dd, rfl, hd, W, e1.set i (some (.exn a dd x.fs)), A1.other (List.length_set ..) set_other (.inr ⟨a, dd, x.fs, rfl, List.getElem?_set_self hlen, hxd⟩), ?_⟩
        cases zo : (anyA fun a dd => suiteO i (sg a dd x (e1.set i (some (.exn a dd x.fs))))) with
        | none => rw [zo] at P; exact P.elim
        | some o =>
          rw [zo] at P
          have eo := anyA_inv zo a dd
          have nx : ∀ {e2 : Nv} {σ2 : St} {H2 : Hp}, Stp (e1.set i (some (.exn a dd x.fs))) (σ'.set i (some (V.ref a))) H' e2 σ2 H2 → Stp env σ H e2 σ2 H2 := fun s2 =>
            (stp_other (fun _ _ q => by cases q) set_other st).trans s2
          have ns : ∀ b d, (none : Option Sl) ≠ some (.own b d) := fun _ _ q => by cases q
          cases zs : sg a dd x (e1.set i (some (.exn a dd x.fs))) with
          | none => rw [zs] at eo; cases eo
          | some so2 =>
            rw [zs] at eo
            cases so2 with
            | exc y e2 => cases eo
            | nx e2 => cases eo; exact fun σ2 H2 s2 A2 => P _ _ (stp_other ns set_other (nx s2)) (A2.other (List.length_set ..) set_other (.inl rfl))
            | bk e2 => cases eo; exact fun σ2 H2 s2 A2 => P _ _ (stp_other ns set_other (nx s2)) (A2.other (List.length_set ..) set_other (.inl rfl))
            | ct e2 => cases eo; exact fun σ2 H2 s2 A2 => P _ _ (stp_other ns set_other (nx s2)) (A2.other (List.length_set ..) set_other (.inl rfl))
            | rt r e2 => cases eo; exact fun v σ2 H2 s2 R2 => P v _ _ (stp_other ns (fun _ _ => rfl) (nx s2)) ((R2.shift fun b hb => st.there b hb).forget)
      · rw [if_neg (by rw [hb]; exact Bool.false_ne_true)] at P
        exact P _ d σ' H' st A1 ⟨rfl, hx⟩
/-- try: .. except X: .. -/
def tryOnly (m : Nat → Bool) (g : G) (sg : Ex → G) : G := fun env => match g env with
  | some (.exc x e1) => if m x.c then (match sg x e1 with
    | some (.exc _ _) => none
    | o => o) else some (.exc x e1)
  | o => o
theorem ds_tryOnly (hs : X.stack = X.env :: X.outer) (hf : X.env.frame = some X.env.locals) (hc : Names X x c) (tk : L2N.Takes X Z.wx) (hm : ∀ k, PySem.W.exmOne X.K (.ref (Z.CA k)) c = some (m k)) {sg : Ex → G}
    (hb : ∀ (W : WX) (pn : List (Addr × Obj)) (xe : Value → Shared → Prop), L2N.Takes (X.tr pn xe) W → PassesOwn (model X.prog X.w) X.A X.env xe → DSs (X.tr pn xe) ⟨Z.CA, W⟩ body g)
    (hsu : ∀ (a : Addr) (oe : Obj) (d : Option Addr) (pn : List (Addr × Obj)) (x : Ex), L2N.Zn (.ref (Z.CA x.c)) d oe → (∃ vs, oe.data = .fields vs) → DSs (X.suite a ((a, oe) :: pn)) ⟨Z.CA, fun _ _ _ _ => False⟩ (b0 :: suite) (sg x)) :
    DS X Z (.Try body [.ExceptHandler (some (.Name x np)) none (b0 :: suite) pos'] [] [] pos) (tryOnly m g sg) := by
  refine PSimp (L2N.ps_try_many (tb := fun W => tS X.K ⟨Z.CA, W⟩ g) (Wout := Z.wx)
    (l := [(c, fun a cls d D σ H => ∃ x : Ex, cls = .ref (Z.CA x.c) ∧ tS X.K ⟨Z.CA, fun _ _ _ _ => False⟩ (sg x) D σ H)]) hs hf tk hb (.cons hc (fun a oe cls d pn hz hv => ⟨fun pins s σ H D I h => ?_⟩) .nil)) fun D σ H q => ?_
  · obtain ⟨x, rfl, h⟩ := h
    exact (hsu a oe d pn x hz hv).run pins s σ H D I h
  obtain ⟨W, env, A, P⟩ := q
  refine ⟨W, env, A, ?_⟩
  unfold tryOnly at P
  cases z : g env with
  | none => rw [z] at P; exact P.elim
  | some so =>
    rw [z] at P
    cases so with
    | nx e => exact P
    | bk e => exact P
    | ct e => exact P
    | rt r e => exact P
    | exc x e1 =>
      simp only at P
      intro cls d σ' H' st A1 xo
      obtain ⟨rfl, hx⟩ := xo
      refine ⟨m x.c, hm x.c, fun hb a ha => ?_, fun hb => ?_⟩
      · rw [if_pos hb] at P
        refine ⟨x, rfl, W, e1, A1, ?_⟩
        cases zs : sg x e1 with
        | none => rw [zs] at P; exact P.elim
        | some so2 =>
          rw [zs] at P
          cases so2 with
          | exc y e2 => exact P.elim
          | nx e2 => exact PendS.shift st P
          | bk e2 => exact PendS.shift st P
          | ct e2 => exact PendS.shift st P
          | rt r e2 => exact PendS.shift st P
      · rw [if_neg (by rw [hb]; exact Bool.false_ne_true)] at P
        exact P _ d σ' H' st A1 ⟨rfl, hx⟩
/-- e.f, e the exception that the suite holds -/
def fldF (a dd : Addr) (i : Nat) (f : Str) : F := fun env => match env[i]? with
  | some (some (.exn a' d' fs)) => if a' = a ∧ d' = dd ∧ fs ≠ [] then match fs.lookup f with
    | some k => some (.ok (.val (.int k)) env)
    | none => none
    else none
  | _ => none
theorem lookup_int {f : Str} : ∀ {fs : List (Str × Int)} {k : Int}, fs.lookup f = some k → (fs.map fun p => (p.1, V.int p.2)).lookup f = some (V.int k)
  | [], k, h => by cases h
  | (g, j) :: fs, k, h => by
    rw [List.lookup_cons] at h
    rw [List.map_cons, List.lookup_cons]
    by_cases e : (f == g) = true
    · simp only [e] at h ⊢
      cases h; rfl
    · have e : (f == g) = false := by simpa using e
      simp only [e] at h ⊢
      exact lookup_int h
theorem de_fld {a dd C : Addr} {oe : Obj} {d : Option Addr} {pn : List (Addr × Obj)} {e : Expr} {f : Str} {q : Pos} (T : XfC X.K C) (hno : PySem.W.findIn X.K (.ref C) f = some none) (hz : Zc (.ref C) d oe) (hv : ∃ vs, oe.data = .fields vs) (hd : d = some dd)
    (he : PE (X.suite a ((a, oe) :: pn)) e (tVar i)) (hb : attributeBase e f X.env (eval e X.env) = eval e X.env := by rfl) : DE (X.suite a ((a, oe) :: pn)) Z (.Attribute e f q) (fldF a dd i f) :=
  PEimp (pe_xf T hno hz hv he hb) fun σ H Q q => by
    obtain ⟨W, env, A, P⟩ := q
    unfold fldF at P
    split at P
    · rename_i a' d' fs hh
      by_cases c : a' = a ∧ d' = dd ∧ fs ≠ []
      rotate_left
      · rw [if_neg c] at P; exact P.elim
      rw [if_pos c] at P
      obtain ⟨rfl, rfl, hne⟩ := c
      obtain ⟨g1, g2⟩ := A.exn i a' d' fs hh
      split at P
      · rename_i k hk
        refine ⟨_, g1, rfl, rfl, d', _, .int k, hd, g2.resolve_left hne, lookup_int hk, P (.int k) H .refl ⟨A, rfl⟩⟩
      · exact P.elim
    · exact P.elim
end
end DL

set_option Elab.async false
set_option linter.all false
set_option maxRecDepth 100000
set_option maxHeartbeats 4000000
/-! isinstance of a caught error that may have a dict of its own -/
namespace DL
open PySem PySem.W PySem.Spec PyProof.Rows L2
section
variable {prog : Program} {w : World} {A : Around} {E : Value → Shared → Prop} {s : Shared} {K : PySem.W.Frag} {x C : Addr} {ox : Obj} {od : Option Obj}
theorem find_cls (T : ExcC K C) : findObj K C od "__class__" = some (.bind (.builtin "getset_descriptor.__get__") (.builtin "object.__class__")) := by
  obtain ⟨cd, hcd, _⟩ := any_some T.hd
  unfold findObj; rw [show clsIn K C = some cd from hcd, Option.bind_some, T.ha, Option.bind_some]; simp [T.hn, T.ht]
theorem class_at (T : ExcC K C) {Q : Option Value → Shared → Prop} (X : K.In s.heap) (I : PySem.W.InstAt s.heap x ox C od) (h : Q (some (.ref C)) { s with toks := s.toks + 1 }) : wpAny (model prog w) A (getAttr? (.ref x) "__class__") Q E s := by
  obtain ⟨heap0, gens0, drawn0, toks0, os0⟩ := s
  have ty := I.type (M := model prog w); have ga := looks_findIn (M := model prog w) X T.hg
  have gg := looks_findIn (M := model prog w) X T.hk; have fd := looks_find (M := model prog w) X I (find_cls T)
  have isb : Looks (model prog w) heap0 (isInstance (.ref x) (.type "BaseException")) true := ty.andThen (looks_subIn X T.hs)
  have q0 : (false && onTheHeap (Value.builtin "BaseException.__getattribute__")) = false := rfl
  have q2 : (Value.builtin "BaseException.__getattribute__" == Value.builtin "object.__getattribute__") = false := by decide +kernel
  have q1 : (onTheHeap (Value.ref C) && Value.builtin "BaseException.__getattribute__" == Value.builtin "object.__getattribute__") = false := by rw [q2]; rfl
  unfold getAttr?; unfold getAttrBy?; unfold getAttrBy
  refine wpAny_bind (wpAny_mkText (wpAny_bind (wpAny_attempt (wpAny_holding (wpAny_bind (ty.at (wpAny_bind (ga.at ?_))))))))
  show wpAny _ _ (if (onTheHeap (Value.ref C) && Value.builtin "BaseException.__getattribute__" == Value.builtin "object.__getattribute__") = true then _ else _) _ _ _
  rw [q1, if_neg Bool.false_ne_true]; unfold getAttrByItsOwn; unfold hookBefore
  refine wpAny_bind ?_
  rw [if_pos (show onTheHeap (Value.ref C) = true from rfl)]; refine gg.at ?_
  refine wpAny_bind (wpAny_attempt (wpAny_holding ?_)); unfold callGetattribute
  rw [q0, if_neg Bool.false_ne_true]; unfold boundAndCalled
  rw [PySem.F.excAttr_ValueError.ga.bind (.ref x)]; refine wpAny_bind (wpAny_pure ?_)
  show wpAny _ _ (call (.builtin "BaseException.__getattribute__") [.ref x, .str "__class__" toks0]) _ _ _
  refine wpAny_call (codeAny_call_builtin PySem.F.excAttr_ValueError.ga.plain PySem.F.entry_bexc_ga ?_); refine @check_slot (model prog w) _ _ ⟨heap0, gens0, drawn0, toks0 + 1, os0⟩ "BaseException.__getattribute__" "BaseException" "__getattribute__" (.ref x) [.str "__class__" toks0] [] _ (by decide +kernel) (by decide +kernel) isb (PySem.F.args_bexc_ga (.ref x) (.str "__class__" toks0)) ?_
  unfold Builtin.«object.__getattribute__»; refine wpAny_bind (wpAny_of_eq (a := ((Value.ref x : Value), [Value.str "__class__" toks0])) (by first | rfl | (simp only [slotArgs]; rfl)) ?_)
  refine wpAny_bind (wpAny_pure (wpAny_bind (ty.at (wpAny_bind (fd.at ?_)))))
  show wpAny _ _ (holding [Value.builtin "object.__class__"] (call (.builtin "getset_descriptor.__get__") [.builtin "object.__class__", .ref x, .ref C]) >>= ret) _ _ _
  refine wpAny_bind (wpAny_holding (wpAny_call (class_get (s := ⟨heap0, gens0, drawn0, toks0 + 1, os0⟩) (ox := ox) (od := od) X I T.hm ?_)))
  refine wpAny_pure ?_
  show wpAny _ _ (handedOut (.ref C)) _ _ _
  rw [handedOut_of (v := .ref C) rfl]
  first
    | exact wpAny_pure (wpAny_pure h) | exact wpAny_pure h
    | exact wpAny_pure (wpAny_bind (wpAny_pure (wpAny_pure h)))
theorem kit_exc (T : ExcC K C) : KitX K (.ref x) (.ref C) (fun h => ∃ od, PySem.W.InstAt h x ox C od) where
  ty := fun _ _ _ ⟨_, I⟩ => I.type
  it := fun _ _ X _ => by
    obtain ⟨cd, hcd, _⟩ := any_some T.hd
    unfold clsIn at hcd; split at hcd
    · rename_i cc dc cdc slc hlk
      intro A2 Q2 E2 s2 kk q2
      unfold isType; unfold loadHead
      exact wpAny_bind (wpAny_loadPart (kk _ _ (X _ _ hlk)) (wpAny_pure q2))
    · cases hcd
  ne := fun h tp dd its n sl X htp => (handS_kitx_exc T.hg T.hk T.hs T.hd T.ha T.hn T.ht T.hm (x := x) (ox := ox)).ne h tp dd its n sl X htp
  ca := fun X ⟨_, I⟩ k => class_at T X I k
end
/-- isinstance(e, c), e the exception that the suite holds -/
def rIsX (K : PySem.W.Frag) (C a : Addr) (d : Option Addr) : List V → Hp → VK → Prop := fun xs H Q => ∃ (c : V) (cv : Value) (b : Bool), xs = [.ref a, c] ∧ (∀ u, RelV c u → u = cv) ∧ kitOne K (.ref C) cv = some b ∧ (d = none ∨ ∃ dd fs, d = some dd ∧ H dd = some (.xd fs)) ∧ Q (.bl b) H
theorem call_isX {X : Cx} {a C : Addr} {oe : Obj} {d : Option Addr} {pn : List (Addr × Obj)} (T : ExcC X.K C) (hz : Zc (.ref C) d oe) (hf : ∃ vs, oe.data = .fields vs) : CallR (X.suite a ((a, oe) :: pn)) (.builtin "isinstance") (rIsX X.K C a d) := by
  intro pins s σ H xs us Q I r h
  obtain ⟨c, cv, b, rfl, hcv, e, hd, q⟩ := h
  obtain ⟨u1, u2, rfl, r1, r2⟩ := vals2 r
  cases r1
  have ec := hcv _ r2
  subst ec
  obtain ⟨hget, _⟩ := I.pin (a, oe) (List.mem_append.mpr (.inl List.mem_cons_self))
  obtain ⟨vs, hv⟩ := hf
  have J : ∃ od, PySem.W.InstAt s.heap a oe C od := by
    rcases hd with hd | ⟨dd, fs, hd, hx⟩
    · exact ⟨none, hget, hz.1, by unfold notCls; rw [hv], by rw [hz.2, hd]; exact trivial⟩
    · obtain ⟨mA, hns, _⟩ := (show ObjOk X.prog X.w H s.heap dd (.xd fs) from I.hok dd _ hx)
      obtain ⟨od, ho, _⟩ := lookIn_ns hns
      exact ⟨some od, hget, hz.1, by unfold notCls; rw [hv], by rw [hz.2, hd]; exact ho⟩
  exact kia_one (kit_exc T) I.kIn J e (fun z => nomatch z) fun tk => ⟨.bl b, H, L2.Inv.kept (t' := tk) I fun _ _ z => z, rfl, q⟩
end DL

set_option Elab.async false
set_option linter.all false
set_option maxRecDepth 100000
namespace DL
open PySem PySem.Spec PyProof.Rows L2
/-- isinstance(e, c): b -/
def isXF (a dd : Addr) (fs0 : List (Str × Int)) (i : Nat) (b : Bool) : F := fun env => match env[i]? with
  | some (some (.exn a' d' fs)) => if a' = a ∧ d' = dd ∧ fs = fs0 then some (.ok (.val (.bl b)) env) else none
  | _ => none
theorem de_isX {X : Cx} {Z : Wsh} {a dd C : Addr} {oe : Obj} {d : Option Addr} {pn : List (Addr × Obj)} {e cn : Expr} {c : V} {cv : Value} {b : Bool} {i : Nat} {fs0 : List (Str × Int)} {p pos : Pos} (T : ExcC X.K C) (hz : Zc (.ref C) d oe) (hv : ∃ vs, oe.data = .fields vs) (hd : (fs0 = [] ∧ d = none) ∨ (fs0 ≠ [] ∧ d = some dd))
    (hk : PySem.W.kitOne X.K (.ref C) cv = some b) (hcv : ∀ u, RelV c u → u = cv) (hg : Gl X "isinstance") (hm : X.mg "isinstance" = none) (he : PE (X.suite a ((a, oe) :: pn)) e (tVar i)) (hc : PE (X.suite a ((a, oe) :: pn)) cn (tC c))
    (h1 : starEach [e, cn] X.env = (false, eval e X.env) :: starEach [cn] X.env := by rfl) (h2 : starEach [cn] X.env = (false, eval cn X.env) :: starEach [] X.env := by rfl) (hpl : (backTo pos (starEach [cn] X.env)).any (·.1) = false := by rfl) :
    DE (X.suite a ((a, oe) :: pn)) Z (.Call (.Name "isinstance" p) [e, cn] [] pos) (isXF a dd fs0 i b) :=
  PEimp (pe_callB (call_isX T hz hv) hg hm rfl (pa_cons he (pa_cons hc pa_nil h2) h1) (by decide) (by decide) h1 hpl) fun σ H Q q => by
    obtain ⟨W, env, A, P⟩ := q
    unfold isXF at P
    split at P
    · rename_i a' d' fs hh
      by_cases k : a' = a ∧ d' = dd ∧ fs = fs0
      rotate_left
      · rw [if_neg k] at P; exact P.elim
      rw [if_pos k] at P
      obtain ⟨rfl, rfl, rfl⟩ := k
      obtain ⟨g1, g2⟩ := A.exn i a' d' fs hh
      refine ⟨_, g1, c, cv, b, rfl, hcv, hk, ?_, P (.bl b) H .refl ⟨A, rfl⟩⟩
      rcases hd with ⟨_, hd⟩ | ⟨hne, hd⟩
      · exact .inl hd
      · exact .inr ⟨d', _, hd, g2.resolve_left hne⟩
    · exact P.elim
end DL

set_option Elab.async false
set_option linter.all false
set_option maxRecDepth 100000
namespace DL
open PySem PySem.Spec PyProof.Rows L2
/-! ### raise -/
def raiseG (k : Nat) : G := fun env => some (.exc ⟨k, []⟩ env)
/-- the ints of what is in the air -/
def intsR : List R → Option (List Int)
  | [] => some []
  | r :: rs => match asI r, intsR rs with
    | some i, some is => some (i :: is)
    | _, _ => none
def raiseFG (k : Nat) (ns : List Str) (fs : List F) : G := fun env => match evs fs env fun rs e1 => match intsR rs with
    | some is => if (is.length = ns.length ∧ is ≠ []) ∧ ∀ i ∈ is, i.natAbs.log2 < 1920 then some (.exc ⟨k, (ns.zip is).reverse⟩ e1) else none
    | none => none with
  | some (.exc x e1) => some (.exc x e1)
  | _ => none
theorem intsR_ok {K : PySem.W.Frag} {W : Fb} {env : Nv} {σ : St} {H : Hp} : ∀ {rs : List R} {is : List Int} {vs : List V}, intsR rs = some is → RLs K W env σ H rs vs → vs = is.map V.int
  | [], is, vs, e, l => by cases e; exact l
  | r :: rs, is, vs, e, l => by
    obtain ⟨x, xs, rfl, l1, l2⟩ := l
    unfold intsR at e
    cases q1 : asI r with
    | none => simp only [q1] at e; cases e
    | some i =>
      cases q2 : intsR rs with
      | none => simp only [q1, q2] at e; cases e
      | some js =>
        simp only [q1, q2] at e
        cases e
        rw [asI_ok q1 l1, intsR_ok q2 l2]
        rfl
section
variable {X : Cx} {Z : Wsh} {e : Expr} {k : Nat} {pos : Pos} {fs : List F} {ns : List Str}
theorem ds_raise (hc : X.calm = true) (tk : L2N.Takes X Z.wx) (he : L2N.PMk X e (fun _ H Q => Q (.ref (Z.CA k)) none H)) : DS X Z (.Raise (some e) none pos) (raiseG k) :=
  PSimp (L2N.ps_raise hc tk he) fun E σ H q => by
    obtain ⟨W, env, A, P⟩ := q
    exact P _ none σ H .refl A ⟨rfl, .inl ⟨rfl, rfl⟩⟩
/-- an error with fields: its dict is new -/
theorem ds_raiseF (hc : X.calm = true) (tk : L2N.Takes X Z.wx) (he : L2N.PMk X e (fun σ H Q => tAs X.K Z fs σ H fun vs H1 => ∃ is : List Int, vs = is.map V.int ∧ is.length = ns.length ∧ (∀ i ∈ is, i.natAbs.log2 < 1920) ∧ ∀ d, H1 d = none → Q (.ref (Z.CA k)) (some d) (upd H1 d (.xd (ns.zip vs).reverse)))) : DS X Z (.Raise (some e) none pos) (raiseFG k ns fs) :=
  PSimp (L2N.ps_raise hc tk he) fun E σ H q => by
    obtain ⟨W, env, A, P⟩ := q
    unfold raiseFG at P
    generalize hk : (fun (rs : List R) (e1 : Nv) => match intsR rs with
      | some is => if (is.length = ns.length ∧ is ≠ []) ∧ ∀ i ∈ is, i.natAbs.log2 < 1920 then some (Out.exc ⟨k, (ns.zip is).reverse⟩ e1) else none
      | none => none) = kk at P
    have P2 : Pend X.K W Z env σ H (fun _ _ => False) (evs fs env kk) := by
      revert P
      cases z : evs fs env kk with
      | none => intro P; exact P.elim
      | some o =>
        cases o with
        | ok r e1 => intro P; exact P.elim
        | exc x e1 => intro P; exact fun cls d H' s A1 xo => P cls d σ H' s A1 xo
    refine tAs_mono fs (fun vs H1 t => ?_) (evs_ok fs A P2)
    obtain ⟨rs, env1, s1, A1, l1, P3⟩ := t
    subst hk
    simp only at P3
    cases z : intsR rs with
    | none => rw [z] at P3; exact P3.elim
    | some is =>
      rw [z] at P3
      by_cases c : (is.length = ns.length ∧ is ≠ []) ∧ ∀ i ∈ is, i.natAbs.log2 < 1920
      rotate_left
      · simp only [if_neg c] at P3; exact P3.elim
      simp only [if_pos c] at P3
      have ev := intsR_ok z l1
      subst ev
      refine ⟨is, rfl, c.1.1, c.2, fun d hd => ?_⟩
      refine P3 _ (some d) _ (.new hd) (A1.new hd) ⟨rfl, .inr ⟨?_, d, rfl, ?_⟩⟩
      · intro h0
        have h1 : (ns.zip is).length = 0 := by
          have := congrArg List.length h0
          rw [List.length_reverse] at this
          exact this
        rw [List.length_zip] at h1
        have := c.1.1
        exact c.1.2 (List.eq_nil_of_length_eq_zero (by omega))
      · rw [upd_same, List.zip_map_right]
        show some (HO.xd (List.map (Prod.map id V.int) (ns.zip is)).reverse) = some (HO.xd (List.map (fun p => (p.1, V.int p.2)) (ns.zip is).reverse))
        rw [List.map_reverse]
        rfl
end
end DL

set_option Elab.async false
set_option linter.all false
set_option maxRecDepth 100000
namespace DL
open PySem PySem.Spec PyProof.Rows L2
/-! ### defs that are called while an exception is handled -/
theorem fun_okH {P : Program} {w : World} {K : PySem.W.Frag} {mg : Str → Option Value} {base : Heap} {x qual : Str} {st : Stmt} {f : Addr} {fd : FuncData} {N ps : List Str} {k : Nat} {sp : Sp} (F : Fun K x qual st f fd) (S : FnScope N ps (defScope st)) (len : ∀ vs H Q E, sp vs H Q E → vs.length = ps.length)
    (body : ∀ (cdv : Value) (A : Around) (outer : List Env) (s : Shared) (H : Hp) (vs : List V) (Q : VK) (E : XK) (p : Addr × Obj), L2H.Hot1 A p → L2H.RoomH k (A.deeper (envOfC qual (defScope st) s.heap.objs.size f cdv)) → sp vs H Q E → ∃ t, PSs (L2H.cxH (L2N.CX P w) P w K mg base N qual (defScope st) f cdv A outer s H E p) (defBody st) t ∧ t { nx := fun _ H' => Q .non H', rt := Q } (start N vs) H) :
    L2H.FnH P w K mg base (L2N.CX P w) (k + 1) f fd ps sp := by
  obtain ⟨oc0, od0, kV0, dc0, pm0, an0, cdv, ct0, sl0, rfl, hlk, hcd0⟩ := F.ex
  exact L2H.fn_ofH hlk hcd0 S len fun A outer s H vs Q E p hot hr hsp => body cdv A outer s H vs Q E p hot hr hsp
theorem def_okH {P : Program} {w : World} {K : PySem.W.Frag} {mg : Str → Option Value} {base : Heap} {x qual : Str} {st : Stmt} {f : Addr} {fd : FuncData} {N ps : List Str} {k : Nat} {CA : Nat → Addr} {m : Bool} {g : G} (F : Fun K x qual st f fd) (S : FnScope N ps (defScope st))
    (body : ∀ (cdv : Value) (A : Around) (outer : List Env) (s : Shared) (H : Hp) (E : XK) (p : Addr × Obj), L2H.Hot1 A p → L2H.RoomH k (A.deeper (envOfC qual (defScope st) s.heap.objs.size f cdv)) → DSs (L2H.cxH (L2N.CX P w) P w K mg base N qual (defScope st) f cdv A outer s H E p) ⟨CA, fun cls d _ H' => E cls d H'⟩ (defBody st) g) :
    L2H.FnH P w K mg base (L2N.CX P w) (k + 1) f fd ps (spD K CA m ps.length (fnD m N.length g)) := by
  refine fun_okH F S (fun vs H Q E h => ?_) fun cdv A outer s H vs Q E p hot hr h => ⟨_, body cdv A outer s H E p hot hr, ?_⟩
  · obtain ⟨W, ds, hl, _⟩ := h
    exact hl
  · obtain ⟨W, ds, hl, trk, ok, P⟩ := h
    refine ⟨W, pad (slots0 m ds) (N.length - ds.length), ?_, ?_⟩
    · rw [ok.length]
      exact entry_as trk ok
    · have e : start N vs = pad vs (N.length - ds.length) := by rw [ok.length]; rfl
      rw [e]
      exact exit_ok trk ok P
section
variable {X : Cx} {Z : Wsh} {k : Nat} {fa : Addr} {fd : FuncData} {ps : List Str} {fn : Fn} {x : Str} {p pos : Pos} {e : Expr} {es : List Expr} {f : F} {fs : List F}
theorem de_callH (G : L2H.FnH X.prog X.w X.K X.mg X.base (L2N.CX X.prog X.w) k fa fd ps (spD X.K Z.CA false ps.length fn)) (hr : L2H.RoomH k X.A) (hot : L2H.HotC X) (hg : Gl X x) (hm : X.mg x = some (.ref fa)) (hk : PySem.W.keepIn X.K (.ref fa) = true) (hb : Binds X.K fd ps []) (tk : L2N.Takes X Z.wx)
    (ha : DAs X Z (e :: es) (f :: fs)) (hdb : (x == ("__debug__" : Str)) = false := by decide) (he : starEach (e :: es) X.env = (false, eval e X.env) :: starEach es X.env := by rfl) (hpl : (backTo pos (starEach es X.env)).any (·.1) = false := by rfl) :
    DE X Z (.Call (.Name x p) (e :: es) [] pos) (apN (f :: fs) (callO false ps.length fn)) :=
  PEimp (L2H.pe_callH G hr hot hg hm hk hb (E := WE Z.wx) (fun σ => L2N.passAt tk σ) ha hdb he hpl) fun σ H Q q => by
    obtain ⟨W, env, A, q⟩ := q
    refine tAs_mono (f :: fs) (fun vs H1 t => ?_) (evs_ok (f :: fs) A q)
    obtain ⟨rs, env1, s1, A1, l1, P⟩ := t
    have lv := l1.length
    unfold callO at P
    by_cases c : rs.length ≠ ps.length
    · rw [if_pos c] at P; exact P.elim
    rw [if_neg c] at P
    have c : rs.length = ps.length := by simpa using c
    rw [if_neg Bool.false_ne_true] at P
    cases z : kps rs env1 with
    | none => rw [z] at P; exact P.elim
    | some pr =>
      obtain ⟨ds, e2⟩ := pr
      rw [z] at P
      obtain ⟨A2, r2, s2⟩ := kps_ok A1 l1 z
      exact ⟨All W e2 σ, ds, lv.trans c, A2.mt, r2, call_none A2 r2 (P.shift s2)⟩
/-- the suite of a clause is such a place -/
theorem hot_suite {a : Addr} {oe : Obj} {cls : Value} {d : Option Addr} {pn : List (Addr × Obj)} (hz : L2N.Zn cls d oe) (hv : ∃ vs, oe.data = .fields vs) : L2H.HotC (X.suite a ((a, oe) :: pn)) := by
  obtain ⟨vs, h⟩ := hv
  exact ⟨(a, oe), ⟨rfl, vs, h, hz.2.2 vs h⟩, List.mem_cons_self⟩
end
/-- what is never reached -/
def noneG : G := fun _ => none
theorem ds_never {X : Cx} {Z : Wsh} {st : Stmt} : DS X Z st noneG := ⟨fun pins s σ H Q I h => by
  obtain ⟨W, env, A, P⟩ := h
  exact P.elim⟩
end DL

set_option Elab.async false
set_option linter.all false
set_option maxRecDepth 100000
set_option maxHeartbeats 2000000
namespace DL
open PySem PySem.Spec PyProof.Rows L2
/-! ### any(a list of truth values), also while an error is handled -/
section
variable {prog : Program} {w : World} {A : Around} {E : Value → Shared → Prop} {s : Shared}
theorem list_end_hot {it l x1 : Addr} {i : Nat} {items : Array Value} {Q : Option Value → Shared → Prop} (hot : HotX.HotAt A x1 s.heap) (nx : x1 ≠ it) (hit : s.heap.IsListIter it l i) (hl : s.heap.IsList l items) (hx : items[i]? = none)
    (hQ : ∀ h', (∀ b o, b ≠ it → s.heap.get? b = some o → h'.get? b = some o) → Q none { s with heap := h' }) : wpAny (model prog w) A (pyNext (.ref it)) Q E s := by
  obtain ⟨oi, hoi, hci, hdi⟩ := id hit
  obtain ⟨ol, hol, _, nl, hdl⟩ := hl
  obtain ⟨hh, o1, vs1, h1, d1, c1⟩ := hot
  unfold pyNext
  refine wpAny_bind (wpAny_attempt (wpAny_callSpecial?_slot (name := Str.ofString "__next__") hit.typeIs slot_listiter_next (wpAny_call_entry slot_listiter_next hit.typeIs entry_listiter_next ?_ (args_listiter_next _))))
  show wpAny _ _ (field (.ref it) 0 >>= _) _ _ s
  refine wpAny_bind (wpAny_field hoi hdi (x := .ref l) rfl ?_)
  show wpAny _ _ (if (Value.ref l == Value.none) = true then _ else _) _ _ s
  rw [if_neg (show ¬ ((Value.ref l == Value.none) = true) from Bool.false_ne_true)]
  show wpAny _ _ (field (.ref it) 1 >>= _) _ _ s
  refine wpAny_bind (wpAny_field hoi hdi (x := .int i 0) rfl ?_)
  show wpAny _ _ (seqItems? (.ref l) >>= _) _ _ s
  refine wpAny_bind (wpAny_seqItems hol hdl ?_)
  simp only [Int.toNat_natCast, hx]
  refine wpAny_bind (wpAny_rule (wpAny_bind (wpAny_setField hoi hdi (by simp) ?_)))
  show wpAny _ _ (newExc (.type "StopIteration") [] >>= _) _ _ _
  refine wpAny_bind ?_
  simp only [newExc, newTuple]
  refine wpAny_bind (wpAny_newObj_type ?_ (by size_fits))
  refine wpAny_bind (m := firstArgMember _ _) (wpAny_of_eq (a := Value.none) (by first | rfl | (simp only [firstArgMember]; rfl)) ?_)
  refine wpAny_newObj_type ?_ (by size_fits)
  have keep : ∀ b o, b ≠ it → s.heap.get? b = some o → (s.heap.update it (Obj.mapFields (·.setIfInBounds 0 .none))).get? b = some o := fun b o hb ho => (Heap.get?_update_other _ _ (Ne.symm hb)).trans ho
  refine HotX.raiseNew_hot ⟨hh, o1, vs1, Heap.get?_push_of_some _ (Heap.get?_push_of_some _ (keep _ _ nx h1)), d1, c1⟩ (Nat.ne_of_lt (Heap.lt_size (Heap.get?_push_of_some _ (keep _ _ nx h1)))) (Heap.get?_push_size _ rfl) rfl (by first | (simp; done) | (simp; omega) | (simp only [Array.size_append]; simp; omega)) ?_
  refine wpAny_bind (wpAny_isInstance (T := "StopIteration") (b := true) ⟨_, Heap.get?_update_self _ (Heap.get?_push_size _ rfl) rfl, rfl⟩ isSubtype_stop ?_)
  refine wpAny_pure (hQ _ fun b o hb ho => ?_)
  rw [Heap.get?_update_other _ _ (Nat.ne_of_gt (Heap.lt_size (Heap.get?_push_of_some _ (keep b o hb ho))))]
  exact Heap.get?_push_of_some _ (Heap.get?_push_of_some _ (keep b o hb ho))
/-- what a list gives while the exception at x1 is handled -/
theorem walks_hot {prog : Program} {w : World} {A : Around} {x1 I l : Addr} (hne : l ≠ I) (items : Array Value) :
    Walks prog w A I [I, l, x1] [I] items.size (fun i v => items[i]? = some v) (fun i h => h.IsListIter I l i ∧ h.IsList l items ∧ x1 ≠ I ∧ HotX.HotAt A x1 h) where
  sub := fun b hb => by
    have e : b = I := by simpa using hb
    rw [e]; exact List.mem_cons_self
  frame := fun i h h' st hk => by
    obtain ⟨s1, s2, s3, hh, o1, vs1, h1, d1, c1⟩ := st
    exact ⟨s1.at fun o e => hk I (by simp) o e, s2.at fun o e => hk l (by simp) o e, s3, hh, o1, vs1, hk x1 (by simp) o1 h1, d1, c1⟩
  item := fun i s Q E hi st hQ => by
    obtain ⟨s1, s2, s3, hh, o1, vs1, h1, d1, c1⟩ := st
    refine wpAny_pyNext_list_item s1 s2 (x := items[i]) (by simp [hi]) fun h' hit' sb => ?_
    exact hQ _ h' s.toks (by simp [hi]) ⟨hit', s2.extBut sb.extBut hne, s3, hh, o1, vs1, sb.extBut x1 o1 s3 h1, d1, c1⟩ fun b o hb e => sb.extBut b o (fun z => hb (by simp [z])) e
  done := fun s Q E st hQ => by
    obtain ⟨s1, s2, s3, hot⟩ := st
    exact list_end_hot hot s3 s1 s2 (by simp) fun h' he => hQ h' s.toks fun b o hb e => he b o (fun z => hb (by simp [z])) e
  self := fun _ _ _ _ st hQ => wpAny_pyIter_listiter st.1 hQ
theorem cr_anyH {X : Cx} (hot : L2H.HotC X) : CallR X (.builtin "any") (rAny X.K) := by
  intro pins s σ H vs us Q I r h
  obtain ⟨a, bs, rfl, hs, q⟩ := h
  obtain ⟨x1, hx⟩ := hot.at I
  obtain ⟨its, rv, hl, _⟩ := L2.Inv.list I hs
  rw [Vals.ref1 r]
  have hb := rv.bls
  refine call_any_walk (iter_any hl.isList fun s2 e2 st hne => ?_)
  subst e2
  obtain ⟨hh, o1, vs1, h1, d1, c1⟩ := hx
  have lt1 : x1 < s.heap.objs.size := Heap.lt_size h1
  refine ⟨_, _, _, _, _, _, _, rfl, walks_hot (A := X.A.in1) (x1 := x1) hne its.toArray, ⟨st.1, st.2, Nat.ne_of_lt lt1, hh, o1, vs1, Heap.get?_push_of_some _ h1, d1, c1⟩, truth_bools hb, fun h' tk hk => ?_⟩
  have J : L2.Inv X pins σ H { s with heap := h', toks := tk } := L2.Inv.kept (t' := tk) I fun b o eo => hk b o (fun hm => by
    have e1 : b = s.heap.objs.size := by simpa using hm
    exact absurd (e1 ▸ Heap.lt_size eo) (Nat.lt_irrefl _)) (Heap.get?_push_of_some _ eo)
  refine ⟨.bl _, H, J, ?_, q⟩
  show Value.bool _ = Value.bool _
  rw [← L2.any_range, hb, List.size_toArray, List.length_map]
end
def boolsOf : List DL.D → Option (List Bool)
  | [] => some []
  | .bl b :: ds => (boolsOf ds).map (b :: ·)
  | _ :: _ => none
theorem boolsOf_reps {K : PySem.W.Frag} {W : Fb} {H : Hp} : ∀ {ds : List DL.D} {xs : List V} {bs : List Bool}, boolsOf ds = some bs → Reps K H W ds xs → xs = bs.map V.bl
  | [], xs, bs, e, q => by cases e; exact q
  | d :: ds, xs, bs, e, q => by
    obtain ⟨v, vs, rfl, q1, q2⟩ := q
    cases d with
    | bl b =>
      unfold boolsOf at e
      cases z : boolsOf ds with
      | none => rw [z] at e; cases e
      | some cs =>
        rw [z] at e
        cases e
        have q1 : v = V.bl b := q1
        rw [q1, boolsOf_reps z q2]; rfl
    | _ => cases e
def anyO (d : DL.D) (env : Nv) : Option Out := match d with
  | .lst ds => match boolsOf ds with
    | some bs => some (.ok (.val (.bl (bs.any id))) env)
    | none => none
  | _ => none
theorem cd_any {K : PySem.W.Frag} : CallD K (rAny K) (c1g anyO) := callG1 fun {W Z env σ H Q x d} A t P => by
  unfold anyO at P
  cases d with
  | lst ds =>
    cases z : boolsOf ds with
    | none => simp only [z] at P; exact P.elim
    | some bs =>
      simp only [z] at P
      obtain ⟨a, xs, rfl, s, _, q⟩ := top_lst t
      rw [boolsOf_reps z q] at s
      exact ⟨a, bs, rfl, .of s, pend_val (d := .bl (bs.any id)) A rfl P⟩
  | _ => exact P.elim
end DL

set_option Elab.async false
set_option linter.all false
set_option maxRecDepth 100000
namespace DL
open PySem PySem.Spec PyProof.Rows L2
/-! ### the suite of a clause: fields, classes -/
def fldX (a dd : Addr) (fs0 : List (Str × Int)) (i : Nat) (f : Str) : F := if fs0 = [] then fun _ => none else fldF a dd i f
theorem de_fldX {X : Cx} {Z : Wsh} {a dd C : Addr} {oe : Obj} {d : Option Addr} {pn : List (Addr × Obj)} {e : Expr} {f : Str} {i : Nat} {q : Pos} {fs0 : List (Str × Int)} (T : XfC X.K C) (hno : PySem.W.findIn X.K (.ref C) f = some none) (hz : Zc (.ref C) d oe) (hv : ∃ vs, oe.data = .fields vs) (hd : (fs0 = [] ∧ d = none) ∨ (fs0 ≠ [] ∧ d = some dd))
    (he : PE (X.suite a ((a, oe) :: pn)) e (tVar i)) (hb : attributeBase e f X.env (eval e X.env) = eval e X.env := by rfl) : DE (X.suite a ((a, oe) :: pn)) Z (.Attribute e f q) (fldX a dd fs0 i f) := by
  unfold fldX
  by_cases h : fs0 = []
  · rw [if_pos h]
    exact ⟨fun pins s σ H Q I hh => by obtain ⟨W, env, A, P⟩ := hh; exact P.elim⟩
  · rw [if_neg h]
    exact de_fld T hno hz hv (hd.resolve_left fun z => h z.1).2 he hb
/-- the classes of errors by number: what their texts say -/
structure Exs (K : PySem.W.Frag) (CA : Nat → Addr) : Prop where
  ec : ∀ k, ExcC K (CA k)
def Exs.xf {K : PySem.W.Frag} {CA : Nat → Addr} (T : Exs K CA) (k : Nat) : XfC K (CA k) := ⟨(T.ec k).hg, (T.ec k).hk, (T.ec k).hs, (T.ec k).hd⟩
/-- a class and all its instances by their numbers -/
structure ExCls (K : PySem.W.Frag) (CA : Nat → Addr) (c : Value) (m : Nat → Bool) : Prop where
  ex : ∀ k, PySem.W.exmOne K (.ref (CA k)) c = some (m k)
  kit : ∀ k, PySem.W.kitOne K (.ref (CA k)) c = some (m k)
/-- within six classes, the first the base of all -/
def isK (j k : Nat) : Bool := j == 0 || min k 5 == j
end DL
namespace DL
open PySem PySem.Spec PyProof.Rows L2
theorem dss_never {X : Cx} {Z : Wsh} {sts : List Stmt} : DSs X Z sts noneG := ⟨fun pins s σ H Q I h => by
  obtain ⟨W, env, A, P⟩ := h
  exact P.elim⟩
/-- no promise at all: where a recursion begins -/
theorem fn_empty {P : Program} {w : World} {K : PySem.W.Frag} {mg : Str → Option Value} {base : Heap} {CX : CXT} {k n : Nat} {f : Addr} {fd : FuncData} {ps : List Str} {CA : Nat → Addr} {m : Bool} (hn : n = ps.length) : FnOk P w K mg base CX k f fd ps (spD K CA m n fun _ => none) :=
  ⟨fun vs H Q E ⟨W, ds, hl, _⟩ => hl.trans hn, fun A outer s H args us vs Q E _ _ _ _ ⟨_, _, _, _, _, P⟩ => P.elim⟩
/-- a def that calls itself: step by step -/
theorem fn_rec {P : Program} {w : World} {K : PySem.W.Frag} {mg : Str → Option Value} {base : Heap} {CX : CXT} {k n : Nat} {f : Addr} {fd : FuncData} {ps : List Str} {CA : Nat → Addr} {m : Bool} {F : Fn → Fn} (hn : n = ps.length)
    (step : ∀ (j : Nat) (fn : Fn), k ≤ j → FnOk P w K mg base CX j f fd ps (spD K CA m n fn) → FnOk P w K mg base CX (j + 1) f fd ps (spD K CA m n (F fn))) : ∀ j : Nat, FnOk P w K mg base CX (k + j) f fd ps (spD K CA m n (Nat.rec (fun _ => none) (fun _ fn => F fn) j))
  | 0 => fn_empty hn
  | j + 1 => step (k + j) _ (Nat.le_add_right _ _) (fn_rec hn step j)
end DL

set_option Elab.async false
set_option linter.all false
set_option maxRecDepth 100000
set_option maxHeartbeats 4000000
/-! an error of two int fields whose __init__ begins with super().__init__(a text) -/
namespace PySem
namespace CLX
open PySem.W PySem.Calls PyProof.Rows PySem.HandSPX
section
variable {prog : Program} {w : World} {A : Around} {E : Value → Shared → Prop} {h : Heap} {g : Array GenState} {d : Drawn} {t : Nat} {os : OsState}
variable {nm q : Str} {C N : Addr} {bs bm : List Value} {hdct : Bool} {sn : List Str} {sub : List Value} {ab : Bool} {col : Option Bool} {dd : Option Addr} {k0 k1 k2 k3 k5 : Option Value}
/-- the bound ValueError.__init__ is called -/
theorem mw_call {u e t0 : Addr} {rest : List Value} {Q : Value → Shared → Prop} (hC : h.get? C = some (excClassObj nm q C N bs bm hdct sn sub ab col dd k0 k1 k2 k3 k5 "ValueError.__new__")) (he : h.get? e = some (excO C t0)) (hu : h.get? u = some (kxs_mw "ValueError.__init__" e)) (hz : rest.length ≤ sizeLine)
    (hq : ∀ h' t1, (∀ b o, b ≠ e → h.get? b = some o → h'.get? b = some o) → h'.get? e = some (excO C t1) → Q .none ⟨h', g, d, t, os⟩) : wpAny (model prog w) A (call (.ref u) rest) Q E ⟨h, g, d, t, os⟩ := by
  refine wpAny_call (codeAny_of_tree ?_)
  show wpAny _ A.in1 (callAny (.ref u) ⟨rest, []⟩) _ _ _
  simp only [callAny]
  refine wpAny_bind (wpAny_load hu ?_)
  simp only [kxs_mw, show (Value.type "method-wrapper" == Value.type "method" || Value.type "method-wrapper" == Value.type "builtin_function_or_method" || Value.type "method-wrapper" == Value.type "method-wrapper") = true by decide, if_true]
  refine KFB.if_so (by decide) ?_
  refine wpAny_bind (check_bound_init F.excBase_ValueError.toExcCallFacts hC he rfl ?_)
  refine wpAny_bind (wpAny_pure (wpAny_pure ?_))
  refine ⟨plainId_quiet F.excBase_ValueError.init.plain _, codeAny_builtin F.excBase_ValueError.initEntry ?_⟩
  rw [Around.under_plainId F.excBase_ValueError.init.plain _]
  wp_walk
  refine hq _ h.objs.size (fun b o hb ho => ?_) ?_
  · rw [Heap.get?_update_other _ _ (Ne.symm hb)]
    exact Heap.get?_push_of_some _ ho
  · rw [Heap.get?_update_self _ (Heap.get?_push_of_some _ he) rfl]
    rfl
end
section
variable {prog : Program} {w : World} {A : Around} {E : Value → Shared → Prop} {s : Shared} {K : Frag} {mg : Str → Option Value}
variable {body : List Stmt} {qn : Str} {scope : Scope} {p0 p1 p2 p3 : Pos} {fd : FuncData} {ar : Arg} {vs : Array Value} {file : Str} {tf : Tok} {oc ccl cl : Value} {od cdd cld : Option Addr} {osl ccs csl : Array (Option Value)} {f cda cc C L x t0 : Addr} {m mb : Str → Option Value} {e1 : Expr}
/-- super().__init__(e1) within C's own __init__, self at x -/
theorem super_init {Q : Value → Shared → Prop} (X : K.In s.heap) (G : s.heap.Ns mainGlobals mg) (B : s.heap.Ns builtinsNs mb) (hB : ∀ y : Str, y ≠ "__name__" → mb y = bootBuiltins y) (hns : s.heap.Ns L m) (hself : m "self" = some (.ref x)) (hx : s.heap.get? x = some (excO C t0))
    (hf : K.lookup f = some ⟨oc, od, .func fd, osl⟩) (hp : (fd.params.posonlyargs ++ fd.params.args).head? = some ar) (har : ar.arg = "self")
    (hcode : K.lookup cda = some ⟨ccl, cdd, .fields vs, ccs⟩) (hvs : vs[2]? = some (.str file tf)) (hfile : ((prog.main.file : Str) == file) = true)
    (hcell : K.lookup cc = some ⟨cl, cld, .cell (some (.ref C)), csl⟩) (hcls : ∃ nm q N bs bm sn sub ab col dd k0 k1 k2 k3 k5, K.lookup C = some (excClassObj nm q C N bs bm true sn sub ab col dd k0 k1 k2 k3 k5 "ValueError.__new__") ∧ refsVE bm = true)
    (hsub : mroIn K C (.ref C) = some true) (hsubV : subIn K (.ref C) (.type "ValueError") = some true) (hsuper : mg "super" = none) (hany : nsIn K cStatics "thirdparty.any" = some none) (hm : ks_superIn K C C "__init__" = some (some (.builtin "ValueError.__init__")))
    (hks : scope.names.lookup ("super" : Str) = some .globalImplicit) (hkc : scope.names.lookup ("__class__" : Str) = some .free) (hka : scope.names.lookup ("self" : Str) = some .local) (hk : scope.kind = .function)
    (htop : (prog.main.scope.names.lookup ("super" : Str)).isSome = false)
    (h : ∀ u h1, (∀ b o, s.heap.get? b = some o → h1.get? b = some o) → h1.get? u = some (kxs_mw "ValueError.__init__" x) → wpAny (model prog w) A (spliced (backTo p3 (starEach [e1] (ksEnv qn scope L f (.ref cda) cc)))) (fun us s1 => s1.heap.get? u = some (kxs_mw "ValueError.__init__" x) ∧ wpAny (model prog w) A (call (.ref u) us) Q E s1) E { s with heap := h1, toks := s.toks + 1 })
    (he : starEach [e1] (ksEnv qn scope L f (.ref cda) cc) = (false, eval e1 (ksEnv qn scope L f (.ref cda) cc)) :: starEach [] (ksEnv qn scope L f (.ref cda) cc) := by rfl) (hpl : (backTo p3 (starEach [] (ksEnv qn scope L f (.ref cda) cc))).any (·.1) = false := by rfl)
    (hev : ∃ pl, eval (.Call (.Attribute (.Call (.Name "super" p0) [] [] p1) "__init__" p2) [e1] [] p3) (ksEnv qn scope L f (.ref cda) cc) = (do
      let ov ← attributeBase (.Call (.Name "super" p0) [] [] p1) "__init__" (ksEnv qn scope L f (.ref cda) cc) (eval (.Call (.Name "super" p0) [] [] p1) (ksEnv qn scope L f (.ref cda) cc))
      standAt p2.atName
      let (fv, first) ← holding [ov] (getMethod ov "__init__" pl)
      callWith p3 fv first (backTo p3 (starEach [e1] (ksEnv qn scope L f (.ref cda) cc))) []) := by exact ⟨_, rfl⟩) :
    PySem.wpAt (model prog w) A (.func body (ksEnv qn scope L f (.ref cda) cc)) (eval (.Call (.Attribute (.Call (.Name "super" p0) [] [] p1) "__init__" p2) [e1] [] p3) (ksEnv qn scope L f (.ref cda) cc)) Q E s := by
  obtain ⟨pl, hev⟩ := hev
  obtain ⟨nm, q, N, bs, bm, sn, sub, ab, col, dd, k0, k1, k2, k3, k5, hC, hbm⟩ := hcls
  refine ks_wpAt_MethodCall (pl := pl) ?_ hev
  have I0 : InstAt s.heap x (excO C t0) C none := ⟨hx, rfl, rfl, trivial⟩
  have hD1 := X _ _ hC
  refine ks_wpAt_super_base (env := ksEnv qn scope L f (.ref cda) cc) hks hkc rfl rfl (X _ _ hf) rfl hp rfl (X _ _ hcode) rfl hvs hfile htop ?_
  refine ks_loadName_global hk hks (loadGlobal_builtin (env := ksEnv qn scope L f (.ref cda) cc) G hsuper B ((hB _ (by decide +kernel)).trans rfl) ⟨rfl, ?_⟩)
  refine wpAny_loadName_free hk hkc rfl ⟨_, X _ _ hcell, rfl⟩ ?_
  rw [har]
  refine wpAny_loadName_local hk hka hns hself ?_
  obtain ⟨hh, g, d, t, os⟩ := s
  refine ks_wpAny_isType_cls hD1 rfl ⟨rfl, ?_⟩
  refine ks_wpAny_call_super hD1 rfl hx rfl (fun c e => by cases e) (looks_mroIn X hsub) (fun h' e k => ?_)
  have X2 : K.In h' := X.keeps k
  have I2 : InstAt h' x (excO C t0) C none := ⟨k _ _ hx, rfl, rfl, trivial⟩
  have hc : clsIn K C = some { name := nm, bases := bs, mro := .ref C :: bm, ns := N, qualname := q, hasDict := true, slotNames := sn, subclasses := sub, abstract := ab, collection := col, hasDel := false } := by unfold clsIn; rw [hC] <;> rfl
  unfold ks_superIn at hm
  rw [hc] at hm
  refine kxs_getMethod kxs_ValueError e (looks_opaque X2 hany) (l₀ := .ref C :: bm) (fun A2 Q2 E2 s2 kk q2 => wpAny_bind ((looks_clsIn X2 hc) A2 _ E2 s2 kk (wpAny_pure q2))) rfl X2 hm (I2.type.andThen (looks_subIn X2 hsubV)) (ks_ne X2 I2 hc) (by decide) ?_
  have hu : (h'.push (kxs_mw "ValueError.__init__" x)).get? h'.objs.size = some (kxs_mw "ValueError.__init__" x) := Heap.get?_push_at rfl rfl
  have hfin := h h'.objs.size (h'.push (kxs_mw "ValueError.__init__" x)) (fun b o z => Heap.get?_push_of_some _ (k b o z)) hu
  show wpAny _ _ (callWith p3 (.ref h'.objs.size) [] (backTo p3 (starEach [e1] (ksEnv qn scope L f (.ref cda) cc))) []) _ _ _
  rw [he] at hfin ⊢
  refine kxs_callWith (i := "ValueError.__init__") (x := x) (by show (false || (backTo p3 (starEach [] (ksEnv qn scope L f (.ref cda) cc))).any (·.1)) = false; rw [hpl]; rfl) ?_
  exact evalArgs_plain hfin
end
end CLX
end PySem

set_option Elab.async false
set_option linter.all false
set_option maxRecDepth 100000
set_option maxHeartbeats 4000000
/-! the error of two int fields is made -/
namespace PySem
namespace CLX
open PySem.W PySem.Calls PyProof.Rows PySem.HandSPX
/-- where the words of the text stand -/
structure Ps where
  (a1 a2 a3 s1 s2 s3 c1 f1 n1 c2 f2 n2 j e1 e2 i1 i2 i3 i4 h1 h2 h3 h4 : Pos)
def iA (p : Ps) : Arguments := { posonlyargs := [], args := [{ arg := "self", annotation := none, pos := p.a1 }, { arg := "index", annotation := none, pos := p.a2 }, { arg := "hand", annotation := none, pos := p.a3 }], vararg := none, kwonlyargs := [], kw_defaults := [], kwarg := none, defaults := [] }
def iJ (x1 x2 : Str) (p : Ps) : Expr := .JoinedStr [.Constant (.str x1) 0 p.c1, .FormattedValue (.Name "index" p.n1) (-1) none p.f1, .Constant (.str x2) 0 p.c2, .FormattedValue (.Name "hand" p.n2) (-1) none p.f2] p.j
def iB (x1 x2 : Str) (p : Ps) : List Stmt :=
  [.Expr (.Call (.Attribute (.Call (.Name "super" p.s1) [] [] p.s2) "__init__" p.s3) [iJ x1 x2 p] [] p.e1) p.e2,
   .Assign [.Attribute (.Name "self" p.i1) "index" p.i2] (.Name "index" p.i3) p.i4,
   .Assign [.Attribute (.Name "self" p.h1) "hand" p.h2] (.Name "hand" p.h3) p.h4]
def iS : Scope := { kind := .function, names := [("self", .local), ("index", .local), ("hand", .local), ("__class__", .free), ("super", .globalImplicit)], isGenerator := false, isCoroutine := false, more := [] }
/-- what the written part says of the class, at C, and of its __init__, at fI -/
structure Txt (P : Program) (K : Frag) (mg : Str → Option Value) (nm0 : Str) (x1 x2 : Str) (C fI : Addr) : Prop where
  gC : mg nm0 = some (.ref C)
  z1 : x1.length ≤ 1000
  z2 : x2.length ≤ 1000
  cls : ∃ nm q N bs bm sn sub ab col dd k0 k1 k2 k3 k5, K.lookup C = some (excClassObj nm q C N bs bm true sn sub ab col dd k0 k1 k2 k3 k5 "ValueError.__new__") ∧ refsVE bm = true
  sa : findIn K (.ref C) "__setattr__" = some (some (.builtin "object.__setattr__"))
  noI : findIn K (.ref C) "index" = some none
  noH : findIn K (.ref C) "hand" = some none
  iC : findIn K (.ref C) "__init__" = some (some (.ref fI))
  tC : typeIn K (.ref fI) = some (.type "function")
  kC : keepIn K (.ref C) = true
  exC : subIn K (.ref C) (.type "BaseException") = some true
  tyC : typeIn K (.ref C) = some (.type "type")
  sub1 : mroIn K C (.ref C) = some true
  subV : subIn K (.ref C) (.type "ValueError") = some true
  sup : mg "super" = none
  any : nsIn K cStatics "thirdparty.any" = some none
  hm : ks_superIn K C C "__init__" = some (some (.builtin "ValueError.__init__"))
  top : (P.main.scope.names.lookup ("super" : Str)).isSome = false
  fn : ∃ (oc : Value) (od : Option Addr) (doc pm : Value) (an : Option Addr) (cda : Addr) (ct : Value) (cc : Addr) (osl : Array (Option Value)) (p : Ps) (ccl : Value) (cdd : Option Addr) (vs : Array Value) (ccs : Array (Option Value)) (file : Str) (tf : Tok) (cl : Value) (cld : Option Addr) (csl : Array (Option Value)) (q : Str),
    K.lookup fI = some ⟨oc, od, .func (ksFn "__init__" q (iA p) (iB x1 x2 p) iS .none .none doc pm an (.ref cda) ct cc), osl⟩ ∧ codeIn K (.ref cda) q = true ∧ K.lookup cda = some ⟨ccl, cdd, .fields vs, ccs⟩ ∧ vs[2]? = some (.str file tf) ∧ ((P.main.file : Str) == file) = true ∧ (p.s3.endLine == p.e1.line) = true ∧ K.lookup cc = some ⟨cl, cld, .cell (some (.ref C)), csl⟩
/-- what __init__ leaves of a fresh exception at x -/
structure InitEnd (h h' : Heap) (x C dx t1 : Addr) (v1 v2 : Value) : Prop where
  keep : ∀ b o, b ≠ x → h.get? b = some o → h'.get? b = some o
  obj : ∃ t1, h'.get? x = some { cls := .ref C, dict := some dx, data := .fields #[.ref t1, .none, .none, .none, .bool false, .none] }
  dbig : h.objs.size ≤ dx
  dne : dx ≠ x
  ns : h'.Ns1 dx (fun y => if y = "hand" then some v2 else if y = "index" then some v1 else none)
theorem kept_but {K : Frag} {h h' : Heap} {x : Addr} (X : K.In h) (hx : K.lookup x = none) (k : ∀ b o, b ≠ x → h.get? b = some o → h'.get? b = some o) : K.In h' := fun a o e =>
  k a o (fun z => by rw [z, hx] at e; cases e) (X a o e)
section
variable {prog : Program} {w : World} {A : Around} {E : Value → Shared → Prop} {R : Result → Shared → Prop} {s : Shared} {K : Frag} {mg mb : Str → Option Value} {C fI : Addr} {nm0 x1 x2 : Str}
theorem int_small {i : Int} (h : i.natAbs.log2 < 1920) : (Str.ofString (toString i)).length ≤ 5000 := by
  have e := int_text_length_le (k := 1920) (by decide) h
  rw [ofString_length]; omega
/-- the text of the error -/
theorem text_made {env : Env} {m : Str → Option Value} {p : Ps} {i k : Int} {ti tk : Tok} {Q : Value → Shared → Prop} (hz1 : x1.length ≤ 1000) (hz2 : x2.length ≤ 1000) (hn : s.heap.Ns env.locals m) (hi : m "index" = some (.int i ti)) (hk : m "hand" = some (.int k tk)) (h1 : i.natAbs.log2 < 1920) (h2 : k.natAbs.log2 < 1920)
    (hf : env.scope.kind = .function) (hl1 : env.kindOf "index" = some .local) (hl2 : env.kindOf "hand" = some .local) (h : ∀ out t t', Q (.str out t) { s with toks := t' }) : wpAny (model prog w) A (eval (iJ x1 x2 p) env) Q E s := by
  have sl := sizeLine_eq
  have b1 := int_small h1
  have b2 := int_small h2
  obtain ⟨hp, g, d, t, os⟩ := s
  unfold iJ
  refine wpAny_JoinedStr ?_
  have e0 : evalEach [.Constant (.str x1) 0 p.c1, .FormattedValue (.Name "index" p.n1) (-1) none p.f1, .Constant (.str x2) 0 p.c2, .FormattedValue (.Name "hand" p.n2) (-1) none p.f2] env = [eval (.Constant (.str x1) 0 p.c1) env, eval (.FormattedValue (.Name "index" p.n1) (-1) none p.f1) env, eval (.Constant (.str x2) 0 p.c2) env, eval (.FormattedValue (.Name "hand" p.n2) (-1) none p.f2) env] := by first | rfl | simp [evalEach]
  rw [e0]
  have l0 : (Str.empty : Str).length = 0 := rfl
  refine wpAny_Constant_str ⟨x1, _, rfl, ?_, ?_⟩
  · rw [Str.length_append]; omega
  refine wpAny_FormattedValue_plain (wpAny_Name (wpAny_loadName_local hf hl1 hn hi ?_) (by decide))
  refine wpAny_formatField_int h1 ⟨_, _, rfl, ?_, ?_⟩
  · show (Str.empty ++ x1 ++ Str.ofString (toString i)).length ≤ sizeLine
    rw [Str.length_append, Str.length_append]; omega
  refine wpAny_Constant_str ⟨x2, _, rfl, ?_, ?_⟩
  · show (Str.empty ++ x1 ++ Str.ofString (toString i) ++ x2).length ≤ sizeLine
    rw [Str.length_append, Str.length_append, Str.length_append]; omega
  refine wpAny_FormattedValue_plain (wpAny_Name (wpAny_loadName_local hf hl2 hn hk ?_) (by decide))
  refine wpAny_formatField_int h2 ⟨_, _, rfl, ?_, ?_⟩
  · show (Str.empty ++ x1 ++ Str.ofString (toString i) ++ x2 ++ Str.ofString (toString k)).length ≤ sizeLine
    rw [Str.length_append, Str.length_append, Str.length_append, Str.length_append]; omega
  refine ⟨?_, h _ _ _⟩
  show (Str.empty ++ x1 ++ Str.ofString (toString i) ++ x2 ++ Str.ofString (toString k)).length ≤ sizeLine
  rw [Str.length_append, Str.length_append, Str.length_append, Str.length_append]; omega
theorem ldL {M : Model} {env : Env} {m : Str → Option Value} {y : Str} {pos : Pos} {v : Value} {Q : Value → Shared → Prop} (hn : s.heap.Ns env.locals m) (hv : m y = some v) (h : Q v s)
    (hk : env.scope.kind = .function := by rfl) (hl : env.kindOf y = some .local := by rfl) (hd : (y == ("__debug__" : Str)) = false := by decide) : wpAny M A (eval (.Name y pos) env) Q E s := wpAny_Name (wpAny_loadName_local hk hl hn hv h) hd
theorem hev_of {o e1 : Expr} {name : Str} {apos pos : Pos} {env : Env} (hl : (apos.endLine == pos.line) = true) (hfew : methodCallForm 1 (backTo pos (starEach [e1] env)) [] = true) (hk : backToKw pos (keywordEach [] env) = []) : ∃ pl, eval (.Call (.Attribute o name apos) [e1] [] pos) env = (do
      let ov ← attributeBase o name env (eval o env)
      standAt apos.atName
      let (fv, first) ← holding [ov] (getMethod ov name pl)
      callWith pos fv first (backTo pos (starEach [e1] env)) []) := by
  refine ⟨(do return (← importBound o env).getD true), ?_⟩
  rw [arm_eval_Call]
  have e2 : methodCallPos true o env apos pos = pure pos := by
    unfold methodCallPos
    rw [hl, Bool.or_true]
    rfl
  simp only [methodCall, calleeOf, List.length_cons, List.length_nil, Nat.zero_add, Nat.add_zero, hfew, e2, if_true, pure_bind, hk]
/-- __init__(self, index, hand) -/
theorem init_run (T : Txt prog K mg nm0 x1 x2 C fI) {x t0 : Addr} {i k : Int} {ti tk : Tok} (X : K.In s.heap) (G : s.heap.Ns mainGlobals mg) (B : s.heap.Ns builtinsNs mb) (hB : ∀ y : Str, y ≠ "__name__" → mb y = bootBuiltins y) (hlim : s.heap.NoLimit) (hx : s.heap.get? x = some (excO C t0)) (hnx : K.lookup x = none) (hroom : A.depth < recursionLimit) (h1 : i.natAbs.log2 < 1920) (h2 : k.natAbs.log2 < 1920)
    (hq : ∀ h' tk' dx, InitEnd s.heap h' x C dx t0 (.int i ti) (.int k tk) → R (.ok (.ret .none)) { s with heap := h', toks := tk' }) :
    codeAny (model prog w) A (.call (.ref fI) ⟨[.ref x, .int i ti, .int k tk], []⟩) R s := by
  obtain ⟨oc, od, doc, pm, an, cda, ct, cc, osl, p, ccl, cdd, vs, ccs, file, tf, cl, cld, csl, q, ho, hcd, hcode, hvs, hfile, hln, hcell⟩ := T.fn
  obtain ⟨nm, qn, N, bs, bm, sn, sub, ab, col, dd, k0, k1, k2, k3, k5, hC, hbm⟩ := T.cls
  have hcl : clsIn K C = some { name := nm, bases := bs, mro := .ref C :: bm, ns := N, qualname := qn, hasDict := true, slotNames := sn, subclasses := sub, abstract := ab, collection := col, hasDel := false } := by unfold clsIn; rw [hC] <;> rfl
  have hloc : ∀ y ∈ ([("self", .ref x), ("index", .int i ti), ("hand", .int k tk)] : List (Str × Value)), iS.names.lookup y.1 = some .local := fun y hy => by
    rcases List.mem_cons.mp hy with rfl | hy
    · exact (by decide +kernel : iS.names.lookup ("self" : Str) = some .local)
    rcases List.mem_cons.mp hy with rfl | hy
    · exact (by decide +kernel : iS.names.lookup ("index" : Str) = some .local)
    rcases List.mem_cons.mp hy with rfl | hy
    · exact (by decide +kernel : iS.names.lookup ("hand" : Str) = some .local)
    · cases hy
  refine ks_codeAny_call_defAt (fd := ksFn "__init__" q (iA p) (iB x1 x2 p) iS .none .none doc pm an (.ref cda) ct cc) (body := iB x1 x2 p) (binds := [("self", .ref x), ("index", .int i ti), ("hand", .int k tk)]) hroom (X _ _ ho) rfl hlim (codeRec_of X hcd) rfl (BindsTo.of_eq (by first | rfl | with_unfolding_all rfl)) (show ∀ x ∈ iS.names, x.2 ≠ .cell by decide +kernel) hloc (fun h₁ hn hk => ?_) rfl rfl rfl
  have X₁ : K.In h₁ := X.keeps hk
  have hx₁ := hk _ _ hx
  have hm1 : (fun y : Str => ([("self", Value.ref x), ("index", .int i ti), ("hand", .int k tk)] : List (Str × Value)).reverse.lookup y) "self" = some (.ref x) := by first | rfl | decide +kernel
  have hm2 : (fun y : Str => ([("self", Value.ref x), ("index", .int i ti), ("hand", .int k tk)] : List (Str × Value)).reverse.lookup y) "index" = some (.int i ti) := by first | rfl | decide +kernel
  have hm3 : (fun y : Str => ([("self", Value.ref x), ("index", .int i ti), ("hand", .int k tk)] : List (Str × Value)).reverse.lookup y) "hand" = some (.int k tk) := by first | rfl | decide +kernel
  refine ks_wpAt_execs_cons (ks_wpAt_Expr_any ?_ (by rfl) (by rfl))
  refine super_init (K := K) (mg := mg) (mb := mb) (C := C) (x := x) (t0 := t0) (L := s.heap.objs.size) X₁ (G.keeps hk) (B.keeps hk) hB hn hm1 hx₁ ho rfl rfl hcode hvs hfile hcell ⟨nm, qn, N, bs, bm, sn, sub, ab, col, dd, k0, k1, k2, k3, k5, hC, hbm⟩ T.sub1 T.subV T.sup T.any T.hm (show iS.names.lookup ("super" : Str) = some .globalImplicit by decide +kernel) (show iS.names.lookup ("__class__" : Str) = some .free by decide +kernel) (show iS.names.lookup ("self" : Str) = some .local by decide +kernel) rfl T.top (fun u h₂ hk2 hu => ?_) (by rfl) (by rfl) (hev_of hln (by rfl) (by rfl))
  obtain ⟨hp, g, d, tk0, os⟩ := s
  refine Calls.spliced_cons ?_
  refine text_made (i := i) (k := k) T.z1 T.z2 (m := fun y => ([("self", Value.ref x), ("index", .int i ti), ("hand", .int k tk)] : List (Str × Value)).reverse.lookup y) (hn.keeps hk2) hm2 hm3 h1 h2 rfl (by rfl) (by rfl) fun out t t' => ?_
  refine Calls.spliced_nil ⟨hu, ?_⟩
  have X₂ : K.In h₂ := X₁.keeps hk2
  refine mw_call (X₂ _ _ hC) (hk2 _ _ hx₁) hu (by show 1 ≤ sizeLine; decide) fun h₃ t1 hk3 hx₃ => ?_
  have X₃ : K.In h₃ := kept_but X₂ hnx hk3
  have hxL : hp.objs.size ≠ x := Nat.ne_of_gt (Heap.lt_size hx)
  have hn3 : h₃.Ns hp.objs.size (fun y => ([("self", Value.ref x), ("index", .int i ti), ("hand", .int k tk)] : List (Str × Value)).reverse.lookup y) := (hn.keeps hk2).at fun o e => hk3 _ _ hxL e
  show wpAt _ _ _ (execs _ _) _ _ _
  refine wpAt_of_wpAny (wpAny_execs_cons (plainObj_wpAny_Assign_Attribute ?_))
  refine ldL (v := .int i ti) hn3 hm2 (ldL (v := .ref x) hn3 hm1 ?_)
  refine set_plain X₃ (ox := excO C t1) (od := none) ⟨hx₃, rfl, rfl, trivial⟩ T.sa ?_
  refine exc_osa X₃ hx₃ hcl (show refsVE (.ref C :: bm) = true from hbm) rfl T.noI (fun h₄ tk₄ dx hk4 dn dne hx₄ hn₄ => ?_)
  have X₄ : K.In h₄ := kept_but X₃ hnx hk4
  have hn4 : h₄.Ns hp.objs.size (fun y => ([("self", Value.ref x), ("index", .int i ti), ("hand", .int k tk)] : List (Str × Value)).reverse.lookup y) := hn3.at fun o e => hk4 _ _ hxL e
  show wpAny _ _ (execs _ _) _ _ _
  refine wpAny_execs_cons (plainObj_wpAny_Assign_Attribute ?_)
  refine ldL (v := .int k tk) hn4 hm3 (ldL (v := .ref x) hn4 hm1 ?_)
  have hw : Within (fun y => if y = ("index" : Str) then some (Value.int i ti) else none) ["index"] := Within.cons "index" _ Within.nil
  obtain ⟨oD, _, _, hoD, _, _⟩ := hn₄.count hw
  refine set_plain X₄ (ox := { cls := .ref C, dict := some dx, data := .fields #[.ref t1, .none, .none, .none, .bool false, .none] }) (od := some oD) ⟨hx₄, rfl, rfl, hoD⟩ T.sa ?_
  refine PySem.OEX.osa_old X₄ hx₄ hn₄ hw (by decide) hcl (show refsVE (.ref C :: bm) = true from hbm) rfl T.noH (fun h₅ tk₅ hk5 hn₅ => ?_)
  show wpAny _ _ (execs _ _) _ _ _
  have d0 : hp.objs.size < dx := Nat.lt_of_lt_of_le hn3.lt dn
  refine wpAny_execs_nil (hq h₅ _ dx ⟨fun b o hb e => ?_, ⟨t1, ?_⟩, Nat.le_of_lt d0, dne, hn₅⟩)
  · have bd : b ≠ dx := Nat.ne_of_lt (Nat.lt_trans (Heap.lt_size e) d0)
    exact hk5 b o bd (hk4 b o hb (hk3 b o hb (hk2 b o (hk b o e))))
  · exact hk5 x _ (Ne.symm dne) hx₄
end
/-- a made error -/
structure Made (h h' : Heap) (e C d : Addr) (v1 v2 : Value) : Prop where
  keep : ∀ b o, h.get? b = some o → h'.get? b = some o
  new : h.objs.size ≤ e
  obj : ∃ t1, h'.get? e = some { cls := .ref C, dict := some d, data := .fields #[.ref t1, .none, .none, .none, .bool false, .none] }
  dbig : h.objs.size ≤ d
  dne : d ≠ e
  ns : h'.Ns1 d (fun y => if y = "hand" then some v2 else if y = "index" then some v1 else none)
section
variable {prog : Program} {w : World} {A : Around} {R : Result → Shared → Prop} {s : Shared} {K : Frag} {mg mb : Str → Option Value} {C fI : Addr} {nm0 x1 x2 : Str}
theorem made_run (T : Txt prog K mg nm0 x1 x2 C fI) {i k : Int} {ti tk : Tok} (X : K.In s.heap) (G : s.heap.Ns mainGlobals mg) (B : s.heap.Ns builtinsNs mb) (hB : ∀ y : Str, y ≠ "__name__" → mb y = bootBuiltins y) (hlim : s.heap.NoLimit) (hroom : A.depth + 1 < recursionLimit) (h1 : i.natAbs.log2 < 1920) (h2 : k.natAbs.log2 < 1920)
    (hq : ∀ h' tk' e d, Made s.heap h' e C d (.int i ti) (.int k tk) → R (.ok (.ret (.ref e))) { s with heap := h', toks := tk' }) :
    codeAny (model prog w) A (.call (.ref C) ⟨[.int i ti, .int k tk], []⟩) R s := by
  obtain ⟨nm, q, N, bs, bm, sn, sub, ab, col, dd, k0, k1, k2, k3, k5, hC, hbm⟩ := T.cls
  obtain ⟨hp, g, dr, t, os⟩ := s
  have kk : ∀ b o, hp.get? b = some o → ((hp.push (kdv_tup [.int i ti, .int k tk])).push (excO C hp.objs.size)).get? b = some o := fun b o e => Heap.get?_push_of_some _ (Heap.get?_push_of_some _ e)
  have hget : ((hp.push (kdv_tup [.int i ti, .int k tk])).push (excO C hp.objs.size)).get? (hp.objs.size + 1) = some (excO C hp.objs.size) := by heap_get
  have hnx : K.lookup (hp.objs.size + 1) = none := by
    cases e : K.lookup (hp.objs.size + 1) with
    | none => rfl
    | some o =>
      have z : hp.get? (hp.objs.size + 1) = some o := X _ _ e
      exact absurd (Nat.lt_of_succ_lt (Heap.lt_size z)) (Nat.lt_irrefl _)
  refine call_own F.excBase_ValueError (fun X => refsVE_contains X bm hbm) (X _ _ hC) (looks_findIn X T.iC) (fun self => bind_fn X self T.tC) (by show 2 ≤ sizeLine; decide) ?_
  refine init_run (s := ⟨(hp.push (kdv_tup [.int i ti, .int k tk])).push (excO C hp.objs.size), g, dr, t, os⟩) T (X.keeps kk) (G.keeps kk) (B.keeps kk) hB (hlim.keeps kk) hget hnx ?_ h1 h2 fun h' tk' dx ⟨k', hx, dn, dne, hns⟩ => ?_
  · show A.depth + 1 < recursionLimit
    exact hroom
  · have old : ∀ b o, hp.get? b = some o → h'.get? b = some o := fun b o e => k' b o (Nat.ne_of_lt (Nat.lt_succ_of_lt (Heap.lt_size e))) (kk b o e)
    have z : hp.objs.size + 1 + 1 ≤ dx := by
      first
        | (simpa only [Heap.size_push] using dn)
        | exact dn
        | (have q := dn; rw [Heap.size_push, Heap.size_push] at q; exact q)
    exact ⟨rfl, hq h' tk' (hp.objs.size + 1) dx ⟨old, Nat.le_succ _, hx, Nat.le_trans (Nat.le_trans (Nat.le_succ _) (Nat.le_succ _)) z, dne, hns⟩⟩
end
end CLX
end PySem

set_option Elab.async false
set_option linter.all false
set_option maxRecDepth 100000
set_option maxHeartbeats 4000000
namespace DL
open PySem PySem.Spec PyProof.Rows L2
theorem relO_two {v1 v2 : V} {u1 u2 : Value} (r1 : RelV v1 u1) (r2 : RelV v2 u2) (f : Str) : RelO (List.lookup f [(("hand" : Str), v2), (("index" : Str), v1)]) (if f = "hand" then some u2 else if f = "index" then some u1 else none) := by
  by_cases hw : f = "hand"
  · subst hw
    rw [if_pos rfl]
    have q : List.lookup ("hand" : Str) [(("hand" : Str), v2), (("index" : Str), v1)] = some v2 := by simp [List.lookup]
    rw [q]
    exact r2
  · rw [if_neg hw]
    have qw : (f == ("hand" : Str)) = false := by simpa using hw
    by_cases hi : f = "index"
    · subst hi
      rw [if_pos rfl]
      have q : List.lookup ("index" : Str) [(("hand" : Str), v2), (("index" : Str), v1)] = some v1 := by
        simp only [List.lookup, qw]
        simp
      rw [q]
      exact r1
    · rw [if_neg hi]
      have qi : (f == ("index" : Str)) = false := by simpa using hi
      have q2 : List.lookup f [(("hand" : Str), v2), (("index" : Str), v1)] = none := by simp [List.lookup, qw, qi]
      rw [q2]
      trivial
theorem tAs_int2 {K : PySem.W.Frag} {Z : Wsh} {e1 e2 : Expr} {is : List Int} (h : is.length = 2) : ∃ i k, is = [i, k] := by
  match is, h with
  | [i, k], _ => exact ⟨i, k, rfl⟩
theorem pmk_made {X : Cx} {Z : Wsh} {fI : Addr} {nm0 x1 x2 : Str} {e1 e2 : Expr} {fs : List F} {p pos : Pos} {k : Nat} (T : PySem.CLX.Txt X.prog X.K X.mg nm0 x1 x2 (Z.CA 1) fI) (hr : Room (k + 1) X.A) (ha : DAs X Z [e1, e2] fs) (hg : Gl X nm0) (hdb : (nm0 == ("__debug__" : Str)) = false)
    (he : starEach (e1 :: [e2]) X.env = (false, eval e1 X.env) :: starEach [e2] X.env := by rfl) (hpl : (backTo pos (starEach [e2] X.env)).any (·.1) = false := by rfl) :
    L2N.PMk X (.Call (.Name nm0 p) [e1, e2] [] pos) (fun σ H Q => tAs X.K Z fs σ H fun vs H1 => ∃ is : List Int, vs = is.map V.int ∧ is.length = (["index", "hand"] : List Str).length ∧ (∀ i ∈ is, i.natAbs.log2 < 1920) ∧ ∀ d, H1 d = none → Q (.ref (Z.CA 1)) (some d) (upd H1 d (.xd ((["index", "hand"] : List Str).zip vs).reverse))) := by
  intro pins s σ H Q I h
  refine wpAny_Call_Name_kw (ld_glob I hg T.gC ?_ hdb)
  refine PySem.W.callWith_K (h₀ := X.base) I.ok.mod.kin T.kC (thn (ha.run pos pins s σ H _ I h) fun us s1 hh => ?_) he hpl
  obtain ⟨vs, H1, I1, r1, is, ev, hl, hb, q1⟩ := hh
  subst ev
  obtain ⟨i, j, rfl⟩ : ∃ i j, is = [i, j] := by
    match is, hl with
    | [i, j], _ => exact ⟨i, j, rfl⟩
  refine ⟨I1.kIn, ?_⟩
  obtain ⟨ti, tj, rfl⟩ : ∃ ti tj, us = [.int i ti, .int j tj] := by
    cases r1 with
    | cons ra rb =>
      cases rb with
      | cons rc rd =>
        cases rd
        obtain ⟨t1, rfl⟩ := ra
        obtain ⟨t2, rfl⟩ := rc
        exact ⟨t1, t2, rfl⟩
  show wpAny _ _ (call (.ref (Z.CA 1)) [.int i ti, .int j tj]) _ _ _
  have hlim := I1.nolimit
  obtain ⟨mb, hB1, hB2⟩ := I1.ok.mod.blt
  have kb := I1.bk
  obtain ⟨hp, g, dr, tk, os⟩ := s1
  refine wpAny_call (PySem.CLX.made_run T I1.kIn (I1.ok.mod.glob.keeps kb) (hB1.keeps kb) hB2 hlim (by have := hr.dp; omega) (hb i (by simp)) (hb j (by simp)) fun h' tk' e d M => ?_)
  show L2N.MkP X pins σ Q (.ref e) ⟨h', g, dr, tk', os⟩
  obtain ⟨t1, hoe⟩ := M.obj
  have hns := M.ns
  obtain ⟨G', g1, g2⟩ := restrict h' fun b => decide (b ≠ e)
  have gk : ∀ b, b ≠ e → G'.get? b = h'.get? b := fun b hb => g1 b (decide_eq_true hb)
  have ge : G'.get? e = none := g2 e (by simp)
  have old : ∀ b o, hp.get? b = some o → G'.get? b = some o := fun b o q => (gk b (Nat.ne_of_lt (Nat.lt_of_lt_of_le (Heap.lt_size q) M.new))).trans (M.keep b o q)
  obtain ⟨u, hu⟩ : ∃ u : HO, u = .xd [(("hand" : Str), .int j), (("index" : Str), .int i)] := ⟨_, rfl⟩
  have ob : ObjOk X.prog X.w (upd H1 d (.xd [(("hand" : Str), .int j), (("index" : Str), .int i)])) G' d (.xd [(("hand" : Str), .int j), (("index" : Str), .int i)]) :=
    ⟨_, hns.at (fun o q => (gk d M.dne).trans q), fun f => relO_two (v1 := .int i) (v2 := .int j) ⟨ti, rfl⟩ ⟨tj, rfl⟩ f⟩
  have J : Inv X pins σ (upd H1 d (.xd [(("hand" : Str), .int j), (("index" : Str), .int i)])) ⟨G', g, dr, tk', os⟩ := I1.laid (t' := tk') old M.dbig ob
  have qq := q1 d (I1.hok.fresh M.dbig)
  refine ⟨e, _, _, ⟨G', g, dr, tk', os⟩, _, .ref (Z.CA 1), some d, rfl, J, fun b o q => ?_, ge, hoe, ⟨rfl, rfl, fun vs h => ?_⟩, rfl, rfl, ?_, rfl, I1.bare, raises_own T.exC T.tyC, qq⟩
  · by_cases hb : b = e
    · have q' : G'.get? b = some o := q
      rw [hb, ge] at q'; cases q'
    · exact (gk b hb).symm.trans q
  · cases h; rfl
  · rw [upd_ne (Ne.symm M.dne)]
    exact I1.hok.fresh M.new
end DL

set_option Elab.async false
set_option linter.all false
set_option maxRecDepth 100000
namespace DL
open PySem PySem.Spec PyProof.Rows L2
/-! ### an empty dict, ranges that are kept -/
def mkD0 : F := fun env => some (.ok (.frs (.dct [])) env)
theorem de_dct0 {X : Cx} {Z : Wsh} {pos : Pos} : DE X Z (.Dict [] [] pos) mkD0 := PEimp pe_dnewT fun σ H Q q => by
  obtain ⟨W, env, A, q⟩ := q
  exact fun p hp => pend_dct (ds := []) (xs := []) A hp (Nat.zero_le _) rfl q
theorem pend_rng {K : PySem.W.Frag} {W : Fb} {Z : Wsh} {env : Nv} {σ : St} {H : Hp} {Q : VK} {lo hi : Int} {p : Addr} (A : AS K W env σ H) (hp : H p = none) (h : Pend K W Z env σ H Q (some (.ok (.val (.rng lo hi)) env))) : Q (.ref p) (upd H p (.rng lo hi)) :=
  h _ _ (.new hp) ⟨A.new hp, ⟨p, rfl, upd_same⟩⟩
def rngO (d : DL.D) (env : Nv) : Option Out := match d with
  | .int j => some (.ok (.val (.rng 0 j)) env)
  | _ => none
theorem cr_range1 {X : Cx} : CallR X (.type "range") (fun vs H Q => ∃ j, vs = [V.int j] ∧ ∀ p, H p = none → Q (.ref p) (upd H p (.rng 0 j))) := by
  intro pins s σ H vs us Q I r h
  obtain ⟨j, rfl, q⟩ := h
  obtain ⟨u1, rfl, ri⟩ := vals1 r
  obtain ⟨t, rfl⟩ := ri
  refine call_range_1 ⟨.ref s.heap.objs.size, upd H s.heap.objs.size (.rng 0 j), I.laid (t' := s.toks + 1 + 1) (fun b o e => Heap.get?_push_of_some _ e) (Nat.le_refl _) ?_, rfl, q _ (I.hok.fresh (Nat.le_refl _))⟩
  exact ⟨s.toks, t, s.toks + 1, Heap.get?_push_size _ rfl⟩
theorem cd_rng {K : PySem.W.Frag} : CallD K (fun vs H Q => ∃ j, vs = [V.int j] ∧ ∀ p, H p = none → Q (.ref p) (upd H p (.rng 0 j))) (c1g rngO) := callG1 fun {W Z env σ H Q x d} A t P => by
  cases d with
  | int j => exact ⟨j, by have t : x = .int j := t; rw [t], fun p hp => pend_rng A hp P⟩
  | _ => exact P.elim
def lenRO (d : DL.D) (env : Nv) : Option Out := match d with
  | .rng lo hi => if rngC lo && rngC hi then some (.ok (.val (.int (hi - lo).toNat)) env) else none
  | _ => none
theorem call_len_rng {X : Cx} : CallR X (.builtin "len") (fun xs H Q => ∃ p lo hi, xs = [.ref p] ∧ H p = some (.rng lo hi) ∧ -(2 ^ 62) ≤ lo ∧ lo < 2 ^ 62 ∧ -(2 ^ 62) ≤ hi ∧ hi < 2 ^ 62 ∧ Q (.int (hi - lo).toNat) H) := by
  intro pins s σ H xs us Q I r h
  obtain ⟨p, lo, hi, rfl, hp, h1, h2, h3, h4, q⟩ := h
  obtain ⟨u, rfl, rx⟩ := vals1 r
  cases rx
  obtain ⟨t, u, v, ho⟩ := (show ObjOk X.prog X.w H s.heap p (.rng lo hi) from I.hok p _ hp)
  refine PySem.call_len_range (n := (hi - lo).toNat) ho (by rw [rangeSize_one]; split <;> omega) (by omega) ⟨.int (hi - lo).toNat, H, I.tok _, ⟨_, rfl⟩, q⟩
theorem rngC_ok {i : Int} (h : rngC i = true) : -(2 ^ 62) ≤ i ∧ i < 2 ^ 62 := by
  obtain ⟨c1, c2⟩ := Bool.and_eq_true_iff.mp h
  exact ⟨of_decide_eq_true c1, of_decide_eq_true c2⟩
theorem cd_len_rng {K : PySem.W.Frag} : CallD K (fun xs H Q => ∃ p lo hi, xs = [.ref p] ∧ H p = some (.rng lo hi) ∧ -(2 ^ 62) ≤ lo ∧ lo < 2 ^ 62 ∧ -(2 ^ 62) ≤ hi ∧ hi < 2 ^ 62 ∧ Q (.int (hi - lo).toNat) H) (c1g lenRO) := callG1 fun {W Z env σ H Q x d} A t P => by
  cases d with
  | rng lo hi =>
    unfold lenRO at P
    by_cases c : (rngC lo && rngC hi) = true
    · simp only [if_pos c] at P
      obtain ⟨c1, c2⟩ := Bool.and_eq_true_iff.mp c
      obtain ⟨a, rfl, s⟩ := t
      have h1 := rngC_ok c1
      have h2 := rngC_ok c2
      exact ⟨a, lo, hi, rfl, s, h1.1, h1.2, h2.1, h2.2, pend_val (d := .int (hi - lo).toNat) A rfl P⟩
    · simp only [if_neg c] at P
      exact P.elim
  | _ => exact P.elim
def itRV (f : F) : FI := fun env => bndI (f env) fun r env => match kp (hold r) env with
  | some (.rng lo hi, env) => if rngC lo && rngC hi then some (.ok (rngL lo hi) env) else none
  | _ => none
section
variable {X : Cx} {Z : Wsh} {e tg : Expr} {f : F}
theorem pi_rngV {te : TE} (he : PE X e te) : PI X tg e (fun σ H R => te σ H fun x H1 => ∃ a lo hi, x = .ref a ∧ H1 a = some (.rng lo hi) ∧ -(2 ^ 62) ≤ lo ∧ lo < 2 ^ 62 ∧ -(2 ^ 62) ≤ hi ∧ hi < 2 ^ 62 ∧ R (Itr lo (hi - lo).toNat) H1) := by
  refine ⟨fun pins s σ H R I h => ?_⟩
  refine thn (he.run pins s σ H _ I h) fun v s1 ⟨x, H1, I1, r1, q1⟩ => ?_
  obtain ⟨a, lo, hi, rfl, ha, h1, h2, h3, h4, q⟩ := q1
  cases r1
  obtain ⟨t, u, v, ho⟩ := (show ObjOk X.prog X.w H1 s1.heap a (.rng lo hi) from I1.hok a _ ha)
  refine wpAny_pyIter_range ho (small_one h1 h2 h3 h4) ?_
  refine ⟨s1.heap.objs.size, [s1.heap.objs.size], _, _, H1, rfl, I1.kept (t' := s1.toks) fun b o e => Heap.get?_push_of_some _ e, turn_range _ lo (hi - lo).toNat, ?_, fun b hb => ?_, q⟩
  · have e1 : lo + ((0 : Nat) : Int) * 1 = lo := by simp
    have e2 : (((hi - lo).toNat : Nat) : Int) - ((0 : Nat) : Int) = Builtin.Range.rangeSize lo hi 1 := by rw [rangeSize_one]; split <;> omega
    show IsRangeIter _ _ (lo + ((0 : Nat) : Int) * 1) ((((hi - lo).toNat : Nat) : Int) - ((0 : Nat) : Int)) 1
    rw [e1, e2]
    exact Heap.get?_push_size _ rfl
  · have e : b = s1.heap.objs.size := by simpa using hb
    subst e
    exact I1.fpOk (Nat.le_refl _) (I1.hok.fresh (Nat.le_refl _))
theorem di_rngV (he : DE X Z e f) : DI X Z tg e (itRV f) := PIimp (pi_rngV he) fun σ H R q => by
  obtain ⟨W, env, A, q⟩ := q
  refine tE_mono (fun v H1 t => ?_) (stepI A q)
  obtain ⟨r, env1, s1, A1, l1, p⟩ := t
  cases z : kp (hold r) env1 with
  | none => simp only [z] at p; exact p.elim
  | some pr =>
    obtain ⟨d, env2⟩ := pr
    obtain ⟨A2, r2, s2⟩ := kp_ok A1 l1 z
    simp only [z] at p
    cases d with
    | rng lo hi =>
      simp only at p
      by_cases c : (rngC lo && rngC hi) = true
      · simp only [if_pos c] at p
        obtain ⟨c1, c2⟩ := Bool.and_eq_true_iff.mp c
        have h1 := rngC_ok c1
        have h2 := rngC_ok c2
        obtain ⟨a, rfl, h⟩ := r2
        exact ⟨a, lo, hi, rfl, h, h1.1, h1.2, h2.1, h2.2, p _ _ s2 A2 (yld_rng lo hi)⟩
      · simp only [if_neg c] at p; exact p.elim
    | _ => exact p.elim
end
end DL

set_option Elab.async false
set_option linter.all false
set_option maxRecDepth 100000
namespace DL
open PySem PySem.Spec PyProof.Rows L2
/-! ### enumerate of a list or of a tuple: which, is seen when it runs -/
def iEnumS (K : PySem.W.Frag) (ta : TA) : TI := fun σ H R => ta σ H fun vs H1 => (∃ (a : Addr) (xs : List V), vs = [.ref a] ∧ SqL K H1 a xs ∧ R (Ite K a) H1) ∨ (∃ (a : Addr) (xs : List V), vs = [.ref a] ∧ SqT K H1 a xs ∧ R (IteT K a xs.length) H1)
theorem pi_enumS {X : Cx} {e : Expr} {ta : TA} {p pos tpos : Pos} {elts : List Expr} {kk : Nat} (hg : Gl X "enumerate") (hm : X.mg "enumerate" = none) (ha : PA X [e] ta) (hs : starEach [e] X.env = [(false, eval e X.env)] := by rfl) :
    PI X (.Tuple elts kk tpos) (.Call (.Name "enumerate" p) [e] [] pos) (iEnumS X.K ta) := by
  refine ⟨fun pins s σ H R I h => Call_ (ld_blt I hg hm boot_enumerate (PyProof.Rows.callWith_type1 (thn (ha.run pos pins s σ H _ I h) fun us s1 ⟨vs, H1, I1, r1, q1⟩ => ?_) hs rfl))⟩
  rcases q1 with ⟨a, xs, rfl, hq, q⟩ | ⟨a, xs, rfl, hq, q⟩
  · rw [Vals.ref1 r1]
    obtain ⟨its, rv, p', hz⟩ := I1.list hq
    refine call_enumerate_list p'.isList fun h' he hit hsz hk => wpAny_pyIter_enum he ?_
    have I2 : L2.Inv X pins σ H1 { s1 with heap := h' } := L2.Inv.kept (t' := s1.toks) I1 hk
    refine ⟨s1.heap.objs.size + 1, [s1.heap.objs.size + 1, s1.heap.objs.size], _, _, H1, rfl, I2, turn_enum a (s1.heap.objs.size + 1) s1.heap.objs.size, ⟨⟨.none, he⟩, hit, Nat.succ_ne_self _⟩, fun b hb => ?_, q⟩
    have cs : b = s1.heap.objs.size + 1 ∨ b = s1.heap.objs.size := by simpa using hb
    have le : s1.heap.objs.size ≤ b := by
      rcases cs with z | z
      · rw [z]; exact Nat.le_succ _
      · rw [z]; exact Nat.le_refl _
    exact L2.Inv.fpOk I1 le (I1.hok.fresh le)
  · rw [Vals.ref1 r1]
    obtain ⟨its, rv, pt, hz⟩ := L2.Inv.tuple I1 hq
    have la : a < s1.heap.objs.size := pt.lt
    refine callEnumOf (begins_tuple a its.toArray) pt fun h' he hit hk => wpAny_pyIter_enum he ?_
    have I2 : L2.Inv X pins σ H1 { s1 with heap := h' } := L2.Inv.kept (t' := s1.toks) I1 hk
    refine ⟨s1.heap.objs.size + 1, [s1.heap.objs.size + 1, s1.heap.objs.size], _, _, H1, rfl, I2, turn_enumT a (s1.heap.objs.size + 1) s1.heap.objs.size xs.length, ⟨⟨.none, he⟩, ⟨_, hit, rfl, rfl⟩, Nat.succ_ne_self _, Nat.ne_of_lt la, fun z => absurd la (by rw [← z]; exact Nat.not_lt_of_lt (Nat.lt_succ_self _)), Nat.zero_le _⟩, fun b hb => ?_, q⟩
    have cs : b = s1.heap.objs.size + 1 ∨ b = s1.heap.objs.size := by simpa using hb
    have le : s1.heap.objs.size ≤ b := by
      rcases cs with z | z
      · rw [z]; exact Nat.le_succ _
      · rw [z]; exact Nat.le_refl _
    exact L2.Inv.fpOk I1 le (I1.hok.fresh le)
def itES (f : F) : FI := fun env => bndI (f env) fun r env => match kp (hold r) env with
  | some (.lst ds, env) => some (.ok (enumD ds) env)
  | some (.tup ds, env) => some (.ok (enumD ds) env)
  | _ => none
section
variable {X : Cx} {Z : Wsh} {e : Expr} {elts : List Expr} {kk : Nat} {tpos p pos : Pos} {f : F}
theorem di_enumS (hg : Gl X "enumerate") (hm : X.mg "enumerate" = none) (he : DE X Z e f) (hs : starEach [e] X.env = [(false, eval e X.env)] := by rfl) : DI X Z (.Tuple elts kk tpos) (.Call (.Name "enumerate" p) [e] [] pos) (itES f) := PIimp (pi_enumS hg hm (pa_cons he pa_nil hs) hs) fun σ H R q => by
  obtain ⟨W, env, A, q⟩ := q
  refine tE_mono (fun v H1 t => ?_) (stepI A q)
  obtain ⟨r, env1, s1, A1, l1, p⟩ := t
  cases z : kp (hold r) env1 with
  | none => simp only [z] at p; exact p.elim
  | some pr =>
    obtain ⟨d, env2⟩ := pr
    obtain ⟨A2, r2, s2⟩ := kp_ok A1 l1 z
    simp only [z] at p
    cases d with
    | lst ds =>
      simp only at p
      obtain ⟨a, xs, rfl, nW, h, zz, q2⟩ := r2
      refine .inl ⟨a, xs, rfl, .of h, p _ _ s2 A2 ?_⟩
      have hw : Walk (Ite X.K a) ds.length (fun H => SqL X.K H a xs) (YPair (fun i => some (.int (i : Nat))) (fun i => xs[i]?)) := by rw [q2.length]; exact walk_enum
      exact yld_enum A2 hw q2 fun H' k => .of (k.1 _ _ h nW)
    | tup ds =>
      simp only at p
      obtain ⟨a, xs, rfl, h, zz, q2⟩ := r2
      refine .inr ⟨a, xs, rfl, .of h, p _ _ s2 A2 ?_⟩
      have hw : Walk (IteT X.K a xs.length) ds.length (fun H => SqT X.K H a xs) (YPair (fun i => some (.int (i : Nat))) (fun i => xs[i]?)) := by rw [q2.length]; exact walk_enumT
      exact yld_enum A2 hw q2 fun H' k => .of (Kp.tup ⟨A2.mt, k.1⟩ h)
    | _ => exact p.elim
/-! ### -x -/
def negF (f : F) : F := fun env => bnd (f env) fun r env => (asI (hold r)).bind fun i => some (.ok (.val (.int (-i))) env)
theorem de_neg (ha : DE X Z e f) : DE X Z (.UnaryOp .USub e pos) (negF f) := PEimp (pe_un un_neg ha) fun σ H Q q => by
  obtain ⟨W, env, A, q⟩ := q
  refine tE_mono (fun v H1 t => ?_) (stepE A q)
  obtain ⟨r, env1, s1, A1, l1, P⟩ := t
  cases z : asI (hold r) with
  | none => rw [z] at P; exact P.elim
  | some i =>
    rw [z] at P
    exact ⟨i, asI_ok z l1, pend_val (d := .int (-i)) A1 rfl P⟩
end
end DL

set_option Elab.async false
set_option linter.all false
set_option maxRecDepth 100000
namespace DL
open PySem PySem.W PySem.Calls PySem.Spec PyProof.Rows L2
/-! ### two dicts with tuple keys: == -/
section
variable {prog : Program} {w : World} {K : Type} [DecidableEq K] {knd : HeapKind prog w K} {A : Around} {E : Value → Shared → Prop} {s : Shared}
/-- each pair of the one stands in the other -/
def inDct (e : Value → Value → Bool) (ys : List (K × Addr × Value)) (x : K × Addr × Value) : Bool := match atKey ys x.1 with
  | some p => e x.2.2 p.2
  | none => false
theorem atKey_get {ys : List (K × Addr × Value)} {k : K} {j : Nat} {p : Addr × Value} (hn : (ys.map (·.1)).Nodup) (h : ys[j]? = some (k, p)) : atKey ys k = some p := by
  induction ys generalizing j with
  | nil => cases h
  | cons y ys ih =>
    unfold atKey
    cases j with
    | zero =>
      have : y = (k, p) := Option.some.inj h
      subst this
      rw [List.find?_cons_of_pos (by simp)]
      rfl
    | succ j =>
      rw [List.map_cons, List.nodup_cons] at hn
      rw [List.getElem?_cons_succ] at h
      have hne : y.1 ≠ k := fun z => hn.1 (by rw [z]; exact List.mem_map.mpr ⟨(k, p), List.mem_of_getElem? h, rfl⟩)
      rw [List.find?_cons_of_neg (by simpa using hne)]
      exact ih hn.2 h
theorem atKey_none {ys : List (K × Addr × Value)} {k : K} (h : ∀ (j : Nat) (p : Addr × Value), ys[j]? ≠ some (k, p)) : atKey ys k = none := by
  unfold atKey
  rw [Option.map_eq_none_iff, List.find?_eq_none]
  intro y hy hk
  obtain ⟨j, hj, e⟩ := List.getElem_of_mem hy
  refine h j y.2 ?_
  rw [List.getElem?_eq_getElem hj, e]
  have : y.1 = k := by simpa using hk
  rw [← this]
theorem two_dicts {nm : String} {a b : Addr} {xs ys : List (K × Addr × Value)} {e : Value → Value → Bool} {Q : Bool → Shared → Prop} (ha : (a == sysModules) = false) (hb : (b == sysModules) = false)
    (da : s.heap.DictOfH knd a xs) (db : s.heap.DictOfH knd b ys) (hu : knd.room A) (hv : ∀ x ∈ xs, ∀ y ∈ ys, SeqAt.EqAt A s x.2.2 y.2.2 (e x.2.2 y.2.2)) (h : Q (decide (xs.length = ys.length) && xs.all (inDct e ys)) s) :
    wpAny (model prog w) A (Builtin.Dict.samePairs nm a b) Q E s := by
  obtain ⟨oa, es, ep, a1, a2, a3, a4, a5, a6⟩ := da
  obtain ⟨ob, fs, eq, b1, b2, b3, b4, b5, b6⟩ := db
  have la : es.size = xs.length := size_of_entries a4
  have lb : fs.size = ys.length := size_of_entries b4
  unfold Builtin.Dict.samePairs Builtin.Dict.showsAll
  rw [if_neg (by rw [ha]; exact Bool.false_ne_true), if_neg (by rw [hb]; exact Bool.false_ne_true)]
  refine wpAny_bind (wpAny_pure (wpAny_bind (wpAny_pure ?_)))
  refine wpAny_bind (wpAny_dictEntries a1 a3 ?_)
  dsimp only
  refine wpAny_bind (wpAny_dictEntries b1 b3 ?_)
  by_cases c : xs.length = ys.length
  rotate_left
  · rw [decide_eq_false c, Bool.false_and] at h
    rw [if_pos (by rw [la, lb]; simpa using c)]
    exact wpAny_bind (wpAny_rule (wpAny_pure h))
  rw [decide_eq_true c, Bool.true_and] at h
  rw [if_neg (by rw [la, lb, c]; simp)]
  refine wpAny_bind (wpAny_dictEpoch a1 a3 ?_)
  refine wpAny_bind ?_
  rw [Std.Legacy.Range.forIn_eq_forIn_range']
  simp only [Std.Legacy.Range.size, Nat.sub_zero, Nat.add_sub_cancel, Nat.div_one]
  refine wpAny_forIn_list _ (fun rest q t => t = s ∧ q = (none, ()) ∧ ∃ i, i ≤ xs.length ∧ rest = List.range' i (xs.length - i) ∧ xs.all (inDct e ys) = (xs.drop i).all (inDct e ys)) _ ?_ ?_ _ _ ⟨rfl, rfl, 0, Nat.zero_le _, by rw [la, Nat.sub_zero], by rw [List.drop_zero]⟩
  · rintro n rest q t ⟨rfl, rfl, i, hi, hr, hd⟩
    have lt : i < xs.length := by
      rcases Nat.lt_or_ge i xs.length with z | z
      · exact z
      · rw [Nat.sub_eq_zero_of_le z] at hr; cases hr
    rw [show xs.length - i = (xs.length - (i + 1)) + 1 by omega, List.range'_succ] at hr
    injection hr with hr1 hr2
    subst hr1
    have lt2 : n < es.size := by omega
    have hdx : xs.drop n = xs[n] :: xs.drop (n + 1) := List.drop_eq_getElem_cons lt
    rw [hdx, List.all_cons] at hd
    refine wpAny_bind (wpAny_dictEntries a1 a3 ?_)
    have hen : es[n]? = some (entryOfKey knd xs[n]) := by
      rw [entry_at a4 n, List.getElem?_eq_getElem lt]; rfl
    obtain ⟨⟨k, p, v⟩, hx⟩ : ∃ y, xs[n] = y := ⟨_, rfl⟩
    rw [hx] at hen
    rw [hen]
    have hmem : (k, p, v) ∈ xs := by rw [← hx]; exact List.getElem_mem lt
    have hk := a5 _ hmem
    show wpAny _ _ (holding [Value.ref p, v] _ >>= _) _ _ _
    refine wpAny_bind (wpAny_holding (wpAny_bind (wpAny_dictFind_heap hu hk b1 b3 b4 b5 b6 (fun hno => ?_) fun j r hj => ?_)))
    · have hin : inDct e ys xs[n] = false := by
        rw [hx]
        unfold inDct
        simp only [atKey_none hno]
      rw [hin, Bool.false_and] at hd
      rw [hd] at h
      refine wpAny_pure ?_
      show wpAny _ _ (if (!false) = true then _ else _) _ _ _
      rw [if_pos (by decide)]
      exact wpAny_pure (wpAny_pure h)
    · have hjm : (k, r) ∈ ys := List.mem_of_getElem? hj
      have hin : inDct e ys xs[n] = e v r.2 := by
        rw [hx]
        unfold inDct
        simp only [atKey_get b6 hj]
      have hfj : fs[j]? = some (entryOfKey knd (k, r)) := by
        rw [entry_at b4 j, hj]; rfl
      rw [hin] at hd
      refine wpAny_bind (wpAny_dictEntries b1 b3 ?_)
      rw [hfj]
      refine wpAny_holding ((hv _ hmem _ hjm) _ _ _ _ ?_)
      cases q : e v r.2 with
      | false =>
        rw [q, Bool.false_and] at hd
        rw [hd] at h
        show wpAny _ _ (if (!false) = true then _ else _) _ _ _
        rw [if_pos (by decide)]
        exact wpAny_pure (wpAny_pure h)
      | true =>
        rw [q, Bool.true_and] at hd
        show wpAny _ _ (if (!true) = true then _ else _) _ _ _
        rw [if_neg (by decide)]
        refine wpAny_bind (wpAny_dictEpoch a1 a3 ?_)
        rw [if_neg (by simp)]
        exact wpAny_pure ⟨rfl, rfl, n + 1, lt, hr2, hd⟩
  · rintro q t ⟨rfl, rfl, i, hi, hr, hd⟩
    have : i = xs.length := by
      rcases Nat.lt_or_ge i xs.length with z | z
      · rw [show xs.length - i = (xs.length - (i + 1)) + 1 by omega, List.range'_succ] at hr; cases hr
      · omega
    rw [this, List.drop_length, List.all_nil] at hd
    rw [hd] at h
    exact wpAny_pure h
end
end DL

set_option Elab.async false
set_option linter.all false
set_option maxRecDepth 100000
namespace DL
open PySem PySem.W PySem.Calls PySem.Spec PyProof.Rows L2
/-! ### == of two dicts with tuple keys and ints for values -/
def eqI : V → V → Bool
  | .int i, .int j => decide (i = j)
  | _, _ => false
def eqU : Value → Value → Bool
  | .int i _, .int j _ => decide (i = j)
  | _, _ => false
def sameV (L M : List (List L2.Key × V)) : Bool := decide (L.length = M.length) && L.all fun p => match valV M p.1 with
  | some v => eqI p.2 v
  | none => false
def Ints (L : List (List L2.Key × V)) : Prop := ∀ p ∈ L, ∃ i, p.2 = V.int i
def rEqK : R2 := fun x y H Q => ∃ (a b : Addr) (L M : List (List L2.Key × V)), x = .ref a ∧ y = .ref b ∧ Rd H a (.dT L) ∧ Rd H b (.dT M) ∧ Ints L ∧ Ints M ∧ Q (.bl (sameV L M)) H
theorem eqU_int {A : Around} {s : Shared} {i j : Int} {t u : Tok} : SeqAt.EqAt A s (.int i t) (.int j u) (decide (i = j)) := by
  have h := keq_flat (A := A) (s := s) (v := .int i t) (y := .int j u) (d := .int i) (e := .int j) (fun _ => .int i t) (fun _ => .int j u)
  have e : PyData.eqv (.int i) (.int j) = decide (i = j) := by
    by_cases q : i = j <;> simp [PyData.eqv, q]
  rwa [e] at h
theorem ints_kt {H : Hp} {L : List (List L2.Key × V)} {xs : List (List L2.Key × Addr × Value)} (r : KT H L xs) (hi : Ints L) : ∀ q ∈ xs, ∃ i t, q.2.2 = Value.int i t := by
  induction r with
  | nil => intro q hq; cases hq
  | @cons p x ps qs hq t ih =>
    intro q hm
    rcases List.mem_cons.mp hm with e | hm
    · subst e
      obtain ⟨i, e2⟩ := hi p List.mem_cons_self
      have rv := hq.2.2
      rw [e2] at rv
      obtain ⟨t, e3⟩ := (show ∃ t, _ = Value.int i t from rv)
      exact ⟨i, t, e3⟩
    · exact ih (fun p hp => hi p (List.mem_cons_of_mem _ hp)) q hm
theorem all_kt {H : Hp} {L M : List (List L2.Key × V)} {xs ys : List (List L2.Key × Addr × Value)} (r : KT H L xs) (r2 : KT H M ys) (hi : Ints L) (hj : Ints M) : xs.all (inDct eqU ys) = L.all fun p => match valV M p.1 with
    | some v => eqI p.2 v
    | none => false := by
  have hys := ints_kt r2 hj
  induction r with
  | nil => rfl
  | @cons p x ps qs hq t ih =>
    rw [List.all_cons, List.all_cons, ih fun p hp => hi p (List.mem_cons_of_mem _ hp)]
    congr 1
    obtain ⟨i, e2⟩ := hi p List.mem_cons_self
    have rv := hq.2.2
    rw [e2] at rv
    obtain ⟨tk, e3⟩ := (show ∃ t, _ = Value.int i t from rv)
    have rk := r2.val p.1
    unfold inDct
    rw [← hq.1, e2, e3]
    cases q : atKey ys p.1 with
    | none =>
      rw [q] at rk
      cases z : valV M p.1 with
      | none => rfl
      | some v => rw [z] at rk; exact (show False from rk).elim
    | some u =>
      rw [q] at rk
      cases z : valV M p.1 with
      | none => rw [z] at rk; exact (show False from rk).elim
      | some v =>
        rw [z] at rk
        have rk : RelV v u.2 := rk
        have hu : ∃ y ∈ ys, y.2 = u := by
          unfold atKey at q
          obtain ⟨y, hy, e⟩ := Option.map_eq_some_iff.mp q
          exact ⟨y, List.mem_of_find?_eq_some hy, e⟩
        obtain ⟨y, hy, rfl⟩ := hu
        obtain ⟨j, tj, e4⟩ := hys y hy
        rw [e4] at rk
        simp only [e4]
        cases v with
        | int k =>
          obtain ⟨t', e5⟩ := (show ∃ t, Value.int j tj = Value.int k t from rk)
          cases e5
          rfl
        | non => cases (show Value.int j tj = Value.none from rk)
        | bl b => cases (show Value.int j tj = Value.bool b from rk)
        | ref a => cases (show Value.int j tj = Value.ref a from rk)
        | _ => first | (obtain ⟨t', e5⟩ := rk; cases e5) | cases rk
theorem op_eqK {X : Cx} (hu : X.A.units + 1 < cLine) : OpR X (compareOp .Eq) rEqK := by
  intro pins s σ H x y v u Q I rx ry h
  obtain ⟨a, b, L, M, rfl, rfl, ha, hb, hi, hj, q⟩ := h
  cases rx
  cases ry
  obtain ⟨_, na, xs, r1, d1⟩ := dt_rd I.hok ha
  obtain ⟨_, nb, ys, r2, d2⟩ := dt_rd I.hok hb
  have l1 := Paired.length r1
  have l2 := Paired.length r2
  have hx := ints_kt r1 hi
  have hy := ints_kt r2 hj
  have hv : ∀ p ∈ xs, ∀ z ∈ ys, SeqAt.EqAt X.A.in1 s p.2.2 z.2.2 (eqU p.2.2 z.2.2) := fun p hp z hz => by
    obtain ⟨i, t, e⟩ := hx p hp
    obtain ⟨j, t2, e2⟩ := hy z hz
    rw [e, e2]
    exact eqU_int
  have hres : (decide (xs.length = ys.length) && xs.all (inDct eqU ys)) = sameV L M := by
    unfold sameV
    rw [all_kt r1 r2 hi hj, ← l1, ← l2]
  have hroom : X.A.units < cLine := by omega
  refine wpAny_richCompare_same_room (op := .Eq) d1.typeIs d2.typeIs PySem.F.slot_dict_eq (wpAny_call_entry PySem.F.slot_dict_eq d1.typeIs PySem.F.entry_dict_eq ?_ (PySem.F.args_dict_eq_2 _ _)) hroom
  show wpAny _ _ (Builtin.Dict.dictSlotArgs "__eq__" ⟨[.ref a, .ref b], []⟩ >>= _) _ _ s
  unfold Builtin.Dict.dictSlotArgs
  refine wpAny_bind (wpAny_bind (wpAny_notOrdered_dict d1.typeIs ?_))
  show wpAny _ _ (pure (Value.ref a, Value.ref b)) _ _ s
  refine wpAny_pure (wpAny_bind (wpAny_isInstance (T := "dict") d2.typeIs PySem.F.sub_dict_dict ?_))
  rw [if_neg (by decide)]
  refine wpAny_bind (wpAny_pure (wpAny_bind (wpAny_pure (wpAny_bind (two_dicts na nb d1 d2 (tupleKind_room_in1 hu) hv ?_)))))
  rw [hres]
  refine wpAny_pure ⟨_, rfl, (fun z => nomatch z), ?_⟩
  rw [beq_true]
  exact ⟨.bl (sameV L M), H, I, rfl, q⟩
/-- as data -/
def intsK (L : Kvs) : Bool := L.all fun p => match p.2 with
  | .int _ => true
  | _ => false
def eqDI : DL.D → DL.D → Bool
  | .int i, .int j => decide (i = j)
  | _, _ => false
def sameK (L M : Kvs) : Bool := decide (L.length = M.length) && L.all fun p => match atD M p.1 with
  | some d => eqDI p.2 d
  | none => false
def dEqK (d e : DL.D) : Option DL.D := match d, e with
  | .dct L, .dct M => if (intsK L && intsK M) = true then some (.bl (sameK L M)) else none
  | _, _ => none
def vI : DL.D → V
  | .int i => .int i
  | _ => .non
theorem repK_ints {K : PySem.W.Frag} {H : Hp} {W : Fb} : ∀ {L : Kvs} {kxs : List (List L2.Key × V)}, RepK K H W L kxs → intsK L = true → kxs = L.map (fun p => (p.1, vI p.2)) ∧ Ints kxs
  | [], kxs, r, _ => by
    have r : kxs = [] := r
    subst r
    exact ⟨rfl, fun p hp => nomatch hp⟩
  | (k, d) :: L, kxs, r, h => by
    obtain ⟨v, vs, rfl, rv, rs⟩ := r
    unfold intsK at h
    rw [List.all_cons, Bool.and_eq_true] at h
    obtain ⟨h1, h2⟩ := repK_ints rs h.2
    cases d with
    | int i =>
      have rv : v = .int i := rv
      subst rv
      refine ⟨by rw [List.map_cons, ← h1]; rfl, fun p hp => ?_⟩
      rcases List.mem_cons.mp hp with e | hp
      · exact ⟨i, by rw [e]⟩
      · exact h2 p hp
    | _ => exact absurd h.1 (by simp)
theorem val_at (M : Kvs) (k : List L2.Key) : valV (M.map fun p => (p.1, vI p.2)) k = (atD M k).map vI := by
  unfold valV atD
  rw [List.find?_map, Option.map_map, Option.map_map]
  rfl
theorem same_vk {L M : Kvs} (hL : intsK L = true) (hM : intsK M = true) : sameV (L.map fun p => (p.1, vI p.2)) (M.map fun p => (p.1, vI p.2)) = sameK L M := by
  unfold sameV sameK
  rw [List.length_map, List.length_map, List.all_map]
  congr 1
  unfold intsK at hL hM
  rw [List.all_eq_true] at hL hM
  rw [Bool.eq_iff_iff, List.all_eq_true, List.all_eq_true]
  refine forall_congr' fun p => forall_congr' fun hp => ?_
  have h1 := hL p hp
  simp only [Function.comp_apply, val_at]
  cases q : atD M p.1 with
  | none => rfl
  | some d =>
    have hd : ∃ z ∈ M, z.2 = d := by
      unfold atD at q
      obtain ⟨y, hy, e⟩ := Option.map_eq_some_iff.mp q
      exact ⟨y, List.mem_of_find?_eq_some hy, e⟩
    obtain ⟨z, hz, rfl⟩ := hd
    have h2 := hM z hz
    obtain ⟨k, pd⟩ := p
    obtain ⟨k2, zd⟩ := z
    cases pd <;> simp at h1
    cases zd <;> simp at h2
    rfl
theorem od_eqK {K : PySem.W.Frag} : OpD K rEqK (o2 dEqK) := opS fun H W d e res x y Q t1 t2 h => by
  cases d with
  | dct L =>
    cases e with
    | dct M =>
      unfold dEqK at h
      by_cases c : (intsK L && intsK M) = true
      · simp only [if_pos c] at h
        cases h
        obtain ⟨c1, c2⟩ := Bool.and_eq_true_iff.mp c
        obtain ⟨a, ka, rfl, ra, _, qa⟩ := t1
        obtain ⟨b, kb, rfl, rb, _, qb⟩ := t2
        obtain ⟨e1, i1⟩ := repK_ints qa c1
        obtain ⟨e2, i2⟩ := repK_ints qb c2
        refine ⟨_, rfl, fun q => ⟨a, b, ka, kb, rfl, rfl, ra, rb, i1, i2, ?_⟩⟩
        rw [e1, e2, same_vk c1 c2]
        exact q
      · simp only [if_neg c] at h
        cases h
    | _ => cases h
  | _ => cases h
def dNotB (d e : DL.D) : Option DL.D := match d, e with
  | .bl a, .bl b => some (.bl (!decide (a = b)))
  | _, _ => none
theorem od_notB {K : PySem.W.Frag} : OpD K (fun x y H Q => ∃ a b, x = .bl a ∧ y = .bl b ∧ Q (.bl (!decide (a = b))) H) (o2 dNotB) := opS fun H W d e res x y Q t1 t2 h => by
  cases d with
  | bl a =>
    cases e with
    | bl b =>
      cases h
      have t1 : x = .bl a := t1
      have t2 : y = .bl b := t2
      exact ⟨_, rfl, fun q => ⟨a, b, t1, t2, q⟩⟩
    | _ => cases h
  | _ => cases h
section
variable {X : Cx} {Z : Wsh} {e e2 : Expr} {f g : F} {pos : Pos}
theorem de_eqK (hu : X.A.units + 1 < cLine) (ha : DE X Z e f) (hb : DE X Z e2 g) : DE X Z (.Compare e [.Eq] [e2] pos) (ap2 f g (o2 dEqK)) := de_cmp (op_eqK hu) od_eqK ha hb
theorem de_notB (ha : DE X Z e f) (hb : DE X Z e2 g) : DE X Z (.Compare e [.IsNot] [e2] pos) (ap2 f g (o2 dNotB)) := de_cmp op_isnot_bl od_notB ha hb
end
end DL

set_option Elab.async false
set_option linter.all false
set_option maxRecDepth 100000
namespace DL
open PySem PySem.Spec PyProof.Rows L2
/-! ### while -/
def whileN (c : F) (b : G) : Nat → G
  | 0, _ => none
  | n + 1, env => match c env with
    | some (.ok (.val (.bl true)) e1) => match b e1 with
      | some (.nx e) => whileN c b n e
      | some (.ct e) => whileN c b n e
      | some (.bk e) => some (.nx e)
      | o => o
    | some (.ok (.val (.bl false)) e1) => some (.nx e1)
    | some (.exc x e1) => some (.exc x e1)
    | _ => none
open Classical in
noncomputable def whileG (c : F) (b : G) : G := fun env => if h : ∃ n, whileN c b n env ≠ none then whileN c b h.choose env else none
section
variable {X : Cx} {Z : Wsh} {t : Expr} {c : F} {b : G} {body : List Stmt} {pos : Pos}
theorem ds_while (hp : PassesOwn (model X.prog X.w) X.A X.env X.xe) (hc : DT X Z t c) (hb : DSs X Z body b) : DS X Z (.While t body [] pos) (whileG c b) := PSimp (ps_while hp hc hb) fun E σ H q => by
  obtain ⟨W, env, A, q⟩ := q
  obtain ⟨n, q⟩ : ∃ n, PendS X.K W Z env σ H E (whileN c b n env) := by
    unfold whileG at q
    split at q
    · exact ⟨_, q⟩
    · exact q.elim
  refine ⟨fun m σ' H' => ∃ envk, AS X.K W envk σ' H' ∧ PendS X.K W Z env σ H E (whileN c b m envk) ∧ Stp env σ H envk σ' H', ⟨n, env, A, q, .refl⟩, ?_⟩
  rintro m σ' H' ⟨envk, Ak, pk, s0⟩
  cases m with
  | zero => exact pk.elim
  | succ m =>
    unfold whileN at pk
    refine ⟨W, envk, Ak, ?_⟩
    revert pk
    cases c envk with
    | none => intro pk; exact pk.elim
    | some o =>
      match o with
      | .exc x e => intro pk; exact fun cls d H1 s A1 x1 => pk cls d σ' H1 (s0.trans s) A1 x1
      | .ok (.val (.bl true)) e1 =>
        intro pk H1 s1 A1
        rw [if_pos rfl]
        refine ⟨fun σ2 H2 => ∃ envn, AS X.K W envn σ2 H2 ∧ PendS X.K W Z env σ H E (whileN c b m envn) ∧ Stp env σ H envn σ2 H2, fun σ2 H2 h => ⟨m, Nat.lt_succ_self _, h⟩, ?_⟩
        refine ⟨W, e1, A1, ?_⟩
        have s03 := s0.trans s1
        revert pk
        simp only
        cases b e1 with
        | none => intro pk; exact pk.elim
        | some o =>
          cases o with
          | nx e4 => intro pk σ4 H4 s4 A4; exact ⟨e4, A4, pk, s03.trans s4⟩
          | ct e4 => intro pk σ4 H4 s4 A4; exact ⟨e4, A4, pk, s03.trans s4⟩
          | bk e4 => intro pk σ4 H4 s4 A4; exact pk σ4 H4 (s03.trans s4) A4
          | rt r e4 => intro pk v σ4 H4 s4 r4; exact pk v σ4 H4 (s03.trans s4) (r4.shift s03.there)
          | exc x e4 => intro pk cls d σ4 H4 s4 A4 x4; exact pk cls d σ4 H4 (s03.trans s4) A4 x4
      | .ok (.val (.bl false)) e1 =>
        intro pk H1 s1 A1
        rw [if_neg Bool.false_ne_true]
        exact pk σ' H1 (s0.trans s1) A1
      | .ok (.slot _) _ => intro pk; exact pk.elim
      | .ok (.frs _) _ => intro pk; exact pk.elim
      | .ok (.val .non) _ => intro pk; exact pk.elim
      | .ok (.val (.int _)) _ => intro pk; exact pk.elim
      | .ok (.val (.str _)) _ => intro pk; exact pk.elim
      | .ok (.val (.tup _)) _ => intro pk; exact pk.elim
      | .ok (.val (.lst _)) _ => intro pk; exact pk.elim
      | .ok (.val (.dct _)) _ => intro pk; exact pk.elim
      | .ok (.val (.scr _)) _ => intro pk; exact pk.elim
      | .ok (.val (.rng _ _)) _ => intro pk; exact pk.elim
      | .ok (.val (.stt _)) _ => intro pk; exact pk.elim
      | .ok (.val (.dci _)) _ => intro pk; exact pk.elim
      | .ok (.val (.dcf _)) _ => intro pk; exact pk.elim
theorem whileN_le : ∀ (n m : Nat) (e : Nv) (o : SO), n ≤ m → whileN c b n e = some o → whileN c b m e = some o
  | 0, m, e, o, _, h => by cases h
  | n + 1, 0, e, o, h, _ => by omega
  | n + 1, m + 1, e, o, h, g => by
    unfold whileN at g ⊢
    revert g
    cases c e with
    | none => intro g; cases g
    | some o1 =>
      match o1 with
      | .exc x e => exact id
      | .ok (.val (.bl true)) e1 =>
        simp only
        cases b e1 with
        | none => exact id
        | some o2 =>
          cases o2 with
          | nx e2 => exact whileN_le n m e2 o (by omega)
          | ct e2 => exact whileN_le n m e2 o (by omega)
          | _ => exact id
      | .ok (.val (.bl false)) e1 => exact id
      | .ok (.slot _) _ => exact id
      | .ok (.frs _) _ => exact id
      | .ok (.val .non) _ => exact id
      | .ok (.val (.int _)) _ => exact id
      | .ok (.val (.str _)) _ => exact id
      | .ok (.val (.tup _)) _ => exact id
      | .ok (.val (.lst _)) _ => exact id
      | .ok (.val (.dct _)) _ => exact id
      | .ok (.val (.scr _)) _ => exact id
      | .ok (.val (.rng _ _)) _ => exact id
      | .ok (.val (.stt _)) _ => exact id
      | .ok (.val (.dci _)) _ => exact id
      | .ok (.val (.dcf _)) _ => exact id
theorem whileG_of {n : Nat} {e : Nv} {o : SO} (h : whileN c b n e = some o) : whileG c b e = some o := by
  unfold whileG
  have hx : ∃ n, whileN c b n e ≠ none := ⟨n, by rw [h]; exact fun z => by cases z⟩
  rw [dif_pos hx]
  have h2 := hx.choose_spec
  generalize hx.choose = m at h2
  cases q : whileN c b m e with
  | none => exact absurd q h2
  | some o2 =>
    have a1 := whileN_le n (max n m) e o (by omega) h
    have a2 := whileN_le m (max n m) e o2 (by omega) q
    rw [a1] at a2
    exact a2.symm
end
/-! ### x += e, ints -/
def augG (i : Nat) (f : F) (g : Int → Int → Option Int) : G := fun env => match env[i]? with
  | some (some (.val (.int _))) => bndS (f env) fun r e1 => match e1[i]? with
    | some (some (.val (.int a))) => (asI (hold r)).bind fun b => (g a b).map fun z => .nx (e1.set i (some (.val (.int z))))
    | _ => none
  | _ => none
section
variable {X : Cx} {Z : Wsh} {e : Expr} {f : F} {op : Operator} {pos pos' : Pos} {i : Nat} {x : Str} {r : R2} {g : Int → Int → Option Int}
theorem ds_aug (hN : X.N.Nodup) (hi : X.N[i]? = some x) (hx : Loc X.env.scope x) (he : DE X Z e f) (ho : OpR X (inplaceOp op) r) (hr : ∀ a b z, g a b = some z → ∀ H Q, Q (.int z) H → r (.int a) (.int b) H Q)
    (hf : X.fn x = true ∨ X.env.scope.names.lookup x = some .local := by first | exact .inl rfl | exact .inr rfl | assumption) : DS X Z (.AugAssign (.Name x pos') op e pos) (augG i f g) := PSimp (ps_aug (ti := r) hN hi hx he ho hf) fun E σ H q => by
  obtain ⟨W, env, A, q⟩ := q
  unfold augG at q
  split at q
  · rename_i a0 ha0
    obtain ⟨v0, hv0, hr0⟩ := A.val i _ ha0
    have hr0 : v0 = .int a0 := hr0
    subst hr0
    refine ⟨_, hv0, tE_mono (fun y H1 u => ?_) (stepS A q)⟩
    obtain ⟨r1, env1, s1, A1, p⟩ := u
    split at p
    · rename_i a ha
      obtain ⟨v1, hv1, hr1⟩ := A1.as.val i _ ha
      have hr1 : v1 = .int a := hr1
      subst hr1
      rw [hv0] at hv1
      cases hv1
      cases q1 : asI (hold r1) with
      | none => rw [q1] at p; exact p.elim
      | some b =>
        rw [q1] at p
        cases q2 : g a0 b with
        | none => simp only [Option.bind_some, q2, Option.map_none] at p; exact p.elim
        | some z =>
          simp only [Option.bind_some, q2, Option.map_some] at p
          have ey : y = .int b := by
            unfold asI at q1
            split at q1
            · rename_i i hh
              cases q1
              cases r1 with
              | val d =>
                have : hold (.val d) = R.val d := rfl
                rw [this] at hh
                cases hh
                exact A1.2
              | slot j => cases hh
              | frs d =>
                have : hold (.frs d) = R.val d := rfl
                rw [this] at hh
                cases hh
                obtain ⟨aa, ea, _, _, _, _, hh2⟩ := A1
                exact hh2.elim
            · cases q1
          subst ey
          refine hr _ _ _ q2 _ _ ?_
          obtain ⟨A2, s2⟩ := A1.as.store (i := i) (d := .int z) (v := .int z) rfl
          exact p _ _ (s1.trans s2) A2
    · exact p.elim
  · exact q.elim
def augAdd (a b : Int) : Option Int := some (a + b)
def augSub (a b : Int) : Option Int := some (a - b)
def augDiv (a b : Int) : Option Int := if 0 < b ∧ b < 1073741824 then some (a / b) else none
theorem iopr_add {a b z : Int} (h : augAdd a b = some z) {H : Hp} {Q : VK} (q : Q (.int z) H) : rI0 (fun i j => .int (i + j)) (.int a) (.int b) H Q := by cases h; exact ⟨a, b, rfl, rfl, q⟩
theorem iopr_sub {a b z : Int} (h : augSub a b = some z) {H : Hp} {Q : VK} (q : Q (.int z) H) : rI0 (fun i j => .int (i - j)) (.int a) (.int b) H Q := by cases h; exact ⟨a, b, rfl, rfl, q⟩
theorem iopr_div {a b z : Int} (h : augDiv a b = some z) {H : Hp} {Q : VK} (q : Q (.int z) H) : rI CDiv (fun i j => .int (i / j)) (.int a) (.int b) H Q := by
  unfold augDiv at h
  by_cases c : 0 < b ∧ b < 1073741824
  · rw [if_pos c] at h; cases h; exact ⟨a, b, rfl, rfl, c, q⟩
  · rw [if_neg c] at h; cases h
theorem ds_augAdd (hN : X.N.Nodup) (hi : X.N[i]? = some x) (hx : Loc X.env.scope x) (he : DE X Z e f) (hf : X.fn x = true ∨ X.env.scope.names.lookup x = some .local := by first | exact .inl rfl | exact .inr rfl | assumption) : DS X Z (.AugAssign (.Name x pos') .Add e pos) (augG i f augAdd) := ds_aug hN hi hx he iop_add (fun _ _ _ h _ _ q => iopr_add h q) hf
theorem ds_augSub (hN : X.N.Nodup) (hi : X.N[i]? = some x) (hx : Loc X.env.scope x) (he : DE X Z e f) (hf : X.fn x = true ∨ X.env.scope.names.lookup x = some .local := by first | exact .inl rfl | exact .inr rfl | assumption) : DS X Z (.AugAssign (.Name x pos') .Sub e pos) (augG i f augSub) := ds_aug hN hi hx he iop_sub (fun _ _ _ h _ _ q => iopr_sub h q) hf
theorem ds_augDiv (hN : X.N.Nodup) (hi : X.N[i]? = some x) (hx : Loc X.env.scope x) (he : DE X Z e f) (hf : X.fn x = true ∨ X.env.scope.names.lookup x = some .local := by first | exact .inl rfl | exact .inr rfl | assumption) : DS X Z (.AugAssign (.Name x pos') .FloorDiv e pos) (augG i f augDiv) := ds_aug hN hi hx he iop_fdiv (fun _ _ _ h _ _ q => iopr_div h q) hf
end
/-! ### is True -/
def dIsB (d e : DL.D) : Option DL.D := match d, e with
  | .bl a, .bl b => some (.bl (decide (a = b)))
  | _, _ => none
theorem od_isB {K : PySem.W.Frag} : OpD K (fun x y H Q => ∃ a b, x = .bl a ∧ y = .bl b ∧ Q (.bl (decide (a = b))) H) (o2 dIsB) := opS fun H W d e res x y Q t1 t2 h => by
  cases d with
  | bl a =>
    cases e with
    | bl b =>
      cases h
      have t1 : x = .bl a := t1
      have t2 : y = .bl b := t2
      exact ⟨_, rfl, fun q => ⟨a, b, t1, t2, q⟩⟩
    | _ => cases h
  | _ => cases h
section
variable {X : Cx} {Z : Wsh} {e e2 : Expr} {f g : F} {pos : Pos}
theorem de_isB (ha : DE X Z e f) (hb : DE X Z e2 g) : DE X Z (.Compare e [.Is] [e2] pos) (ap2 f g (o2 dIsB)) := de_cmp op_is_bl od_isB ha hb
end
/-! ### raise X('text'), X without its own making -/
theorem pmk_text {X : Cx} {x m : Str} {j : Nat} {p p2 pos : Pos} {C : Addr} (q : PySem.W.excIn X.K C [.type "ValueError", .type "Exception", .type "BaseException", .type "object"] "ValueError.__new__" = true) (gC : X.mg x = some (.ref C)) (kC : PySem.W.keepIn X.K (.ref C) = true)
    (b : PySem.W.subIn X.K (.ref C) (.type "BaseException") = some true) (ty : PySem.W.typeIn X.K (.ref C) = some (.type "type")) (hg : Gl X x) (hdb : (x == ("__debug__" : Str)) = false := by decide) :
    L2N.PMk X (.Call (.Name x p) [.Constant (.str m) j p2] [] pos) (fun _ H Q => Q (.ref C) none H) := L2N.pmk_own PySem.F.excBase_ValueError q gC kC (raises_own b ty) hg hdb
end DL

set_option Elab.async false
set_option linter.all false
set_option maxRecDepth 100000
namespace DL
open PySem PySem.Spec PyProof.Rows L2
/-! ### len({..}), len(set([..])): ints -/
def rLenSetO (w : World) : List V → Hp → VK → Prop := fun xs H Q => ∃ (a : Addr) (S : Int → Bool) (n : Nat), xs = [V.ref a] ∧ H a = some (SetO w a S n) ∧ Q (.int (n : Nat)) H
theorem cr_lenSetO {X : Cx} : CallR X (.builtin "len") (rLenSetO X.w) := by
  intro pins s σ H xs us Q I r h
  obtain ⟨a, S, n, rfl, ha, q⟩ := h
  rw [Vals.ref1 r]
  obtain ⟨o, es, ep, t, ho, hex, hd, _, _, _, hz, hf, hn, _⟩ := setO_get I ha
  refine call_len_set ho hex hd hf ?_ ⟨.int (n : Nat), H, I.tok _, ⟨_, by rw [hn]⟩, q⟩
  have : scanBound < 2 ^ 63 := by unfold scanBound; decide
  omega
def finN (acc : DL.D) (env : Nv) : Option Out := match acc with
  | .lst ds => (intsOf ds).map fun ns => .ok (.val (.int (ns.length : Nat))) env
  | _ => none
/-- the ints of a list, each once -/
def onceI (ns : List Int) : List Int := ns.foldl (fun (l : List Int) (i : Int) => if i ∈ l then l else l ++ [i]) []
theorem first_once (ns : List Int) : firstMet (fun i => ns.getD i 0) ns.length = onceI ns := by
  unfold firstMet onceI
  have e : (List.range ns.length).map (fun i => ns.getD i 0) = ns := by
    apply List.ext_getElem
    · simp
    · intro i h1 h2
      simp [List.getElem?_eq_getElem h2]
  rw [e]
  congr 1
  funext l i
  unfold step_dedup
  have : l.any (· == i) = decide (i ∈ l) := by
    rw [Bool.eq_iff_iff, List.any_eq_true, decide_eq_true_eq]
    constructor
    · rintro ⟨x, hx, e⟩
      rw [← eq_of_beq e]; exact hx
    · intro h
      exact ⟨i, h, beq_self_eq_true i⟩
  rw [this]
  by_cases c : i ∈ l
  · rw [if_pos c, if_pos (decide_eq_true c)]
  · rw [if_neg c, if_neg (fun z => c (of_decide_eq_true z))]
section
variable {X : Cx} {scope : Scope} {Z Z' : Wsh} {g : Comprehension} {gs : List Comprehension} {cls : List Cl} {own : List (Str × Nat)} {it : FI} {t : T1} {c : F} {pos : Pos}
theorem de_lenSetC {e : Expr} {f : F} {p pos2 : Pos} (hc : X.calm = true) (hN : X.N.Nodup) (ok : BlkOk X.N X.env.scope scope own) (hi : DI X Z g.target g.iter it) (hg : ClOk X scope Z' (own.map (·.2)) g t c) (hcl : Cls X scope Z' (own.map (·.2)) gs cls) (he : ∀ B, IsBlk X scope B → DE B Z' e f)
    (hs : Gl X "len") (hm : X.mg "len" = none) (hf : ∀ x, foldedSetIterable g.iter X.env x = pure x := by intro _; rfl)
    (hst : starEach [mkC (.set e) (g :: gs) scope pos] X.env = (false, eval (mkC (.set e) (g :: gs) scope pos) X.env) :: starEach [] X.env := by rfl) (hpl : (backTo pos2 (starEach [] X.env)).any (·.1) = false := by rfl) :
    DE X Z (.Call (.Name "len" p) [mkC (.set e) (g :: gs) scope pos] [] pos2) (compG it t c cls (own.map (·.2)) (lfS f) (.lst []) finN) := by
  have pe : PE X (mkC (.set e) (g :: gs) scope pos) (fun σ H Q => ∃ W env Q0, AS X.K W env σ H ∧ Pend X.K W Z env σ H Q0 (compG it t c cls (own.map (·.2)) (lfS f) (.lst []) finN env) ∧
      ∀ D H' acc e', H D = none → Stp env σ H e' σ H' → AS X.K (Plus W D) e' σ H' → ¬ Own e' σ D → ¬ W D → AccR X.K D (.s X.w) H' (All (Plus W D) e' σ) acc → Pend X.K W Z env σ H Q0 (finN acc e') → Q (.ref D) H') := by
    refine ⟨fun pins s σ H Q I h => ?_⟩
    obtain ⟨W, env, Q0, A, P, hq⟩ := h
    rw [eval_mkC]
    have as0 : firstAsync (g :: gs) = false := by
      have := hg.sync
      cases g
      unfold firstAsync
      subst this
      rfl
    have fi0 : firstIter (g :: gs) X.env = eval g.iter X.env := by cases g; rfl
    rw [as0, fi0]
    refine comp_core (use := none) hc hN ok hi hf hg hcl (lf_set he) new_set I A P fun D C s' m H' acc e' I' hn f hD st A' nO nW ac P' => ⟨m, hn, fun h'' sb => ?_⟩
    obtain ⟨f0, f1, f2, f3, f4, f5⟩ := f
    exact ⟨.ref D, H', L2.Inv.turned (t' := s'.toks) I' (fun b o hb e => (sb.2 b hb).trans e) f0 f1 f3 f4 f5, rfl, hq D H' acc e' hD st A' nO nW ac P'⟩
  refine PEimp (pe_callB cr_lenSetO hs hm rfl (pa_cons pe pa_nil hst) (by decide) (by decide) hst hpl) fun σ H Q q => ?_
  obtain ⟨W, env, A, P⟩ := q
  refine ⟨W, env, Q, A, P, fun D H' acc e' hD st A' nO nW ac P' => ?_⟩
  obtain ⟨ns, rfl, nd, hh⟩ := ac
  unfold finN at P'
  simp only [intsOf_map] at P'
  have A2 : AS X.K W e' σ H' := A'.unplus nO
  exact ⟨D, _, _, rfl, hh, pend_val (d := .int (ns.length : Nat)) A2 rfl (P'.shift st)⟩
end
section
variable {X : Cx} {Z : Wsh} {a : Expr} {f : F}
def tLenSetJ (K : PySem.W.Frag) (ta : TE) : TE := fun σ H Q => ta σ H fun x H1 => ∃ (l : Addr) (ns : List Int), x = V.ref l ∧ SqL K H1 l (ns.map V.int) ∧ ns.length < 64 ∧ Q (.int (onceI ns).length) H1
theorem pe_lenSetJ {ta : TE} {p p2 q pos : Pos} (hc : X.calm = true) (hg : Gl X "len") (hm : X.mg "len" = none) (hg2 : Gl X "set") (hm2 : X.mg "set" = none) (ha : PE X a ta)
    (na : starEach [a] X.env = (false, eval a X.env) :: starEach [] X.env := by rfl) : PE X (.Call (.Name "len" p) [.Call (.Name "set" p2) [a] [] q] [] pos) (tLenSetJ X.K ta) := by
  refine ⟨fun pins s σ H Q I h => ?_⟩
  refine Call_ (ld_blt I hg hm PySem.boot_len ?_)
  refine PyProof.Rows.callWith_builtin1 (PyProof.Rows.args_cons ?_ rfl) rfl rfl
  refine Call_ (ld_blt I hg2 hm2 PyProof.Rows.boot_set ?_)
  refine PyProof.Rows.callWith_type1 (PyProof.Rows.args_cons (thn (ha.run pins s σ H _ I h) fun v s1 ⟨x, H1, I1, r1, q1⟩ => PyProof.Rows.args_nil ?_) na) na rfl
  obtain ⟨l, ns, rfl, hq, h1, q1⟩ := q1
  cases r1
  obtain ⟨its, r, pl, hz⟩ := I1.list hq
  have hl : its.toArray.size = ns.length := by rw [List.size_toArray, ← r.length, List.length_map]
  refine call_set_list (I1.ok.hd hc) pl.isList (ns := ns) (by simpa using r.ints) (by unfold scanBound; omega) fun h' tk hS hk => ?_
  rw [hl, first_once] at hS
  refine PyProof.Rows.args_nil ?_
  obtain ⟨o, es, ep, t, ho, hex, hd, _, _, _, hf, hn⟩ := hS
  have I2 : Inv X pins σ H1 { s1 with heap := h', toks := tk } := I1.kept fun b o e => hk b o (Heap.lt_size e) e
  have le : (onceI ns).length ≤ ns.length := by rw [← first_once]; exact firstMet_length_le _ _
  refine call_len_set ho hex hd hf (by rw [hn]; omega) ⟨.int (onceI ns).length, H1, I2.tok _, ⟨_, by rw [hn]⟩, q1⟩
def lenSetD (d : DL.D) (env : Nv) : Option Out := match d with
  | .lst ds => (intsOf ds).bind fun ns => if ns.length < 64 then some (.ok (.val (.int ((onceI ns).length : Nat))) env) else none
  | _ => none
def lenSetF (f : F) : F := fun env => bnd (f env) fun r e => (pk (hold r) e).bind fun d => lenSetD d e
theorem de_lenSetL {p p2 q pos : Pos} (hc : X.calm = true) (hg : Gl X "len") (hm : X.mg "len" = none) (hg2 : Gl X "set") (hm2 : X.mg "set" = none) (ha : DE X Z a f)
    (na : starEach [a] X.env = (false, eval a X.env) :: starEach [] X.env := by rfl) : DE X Z (.Call (.Name "len" p) [.Call (.Name "set" p2) [a] [] q] [] pos) (lenSetF f) := PEimp (pe_lenSetJ hc hg hm hg2 hm2 ha na) fun σ H Q q => by
  obtain ⟨W, env, A, q⟩ := q
  refine tE_mono (fun v H1 t => ?_) (stepE A q)
  obtain ⟨r, env1, s1, A1, l1, P⟩ := t
  cases z : pk (hold r) env1 with
  | none => rw [z] at P; exact P.elim
  | some d =>
    rw [z] at P
    cases d with
    | lst ds =>
      obtain ⟨a, xs, rfl, hs, hz, rq⟩ := top_lst (pk_top A1 l1 z)
      cases z2 : intsOf ds with
      | none => simp only [Option.bind_some, lenSetD, z2, Option.bind_none] at P; exact P.elim
      | some ns =>
        simp only [Option.bind_some, lenSetD, z2] at P
        by_cases c : ns.length < 64
        · rw [if_pos c] at P
          rw [intsOf_reps z2 rq] at hs
          exact ⟨a, ns, rfl, .of hs, c, pend_val (d := .int ((onceI ns).length : Nat)) A1 rfl P⟩
        · rw [if_neg c] at P; exact P.elim
    | _ => exact P.elim
end
/-! ### min of tuples of ints -/
def ltL : List Int → List Int → Bool
  | [], [] => false
  | [], _ :: _ => true
  | _ :: _, [] => false
  | x :: xs, y :: ys => if x = y then ltL xs ys else decide (x < y)
def minL (n : List Int) (ns : List (List Int)) : List Int := ns.foldl (fun a y => if ltL y a = true then y else a) n
theorem ltL_eq : ∀ xs ys : List Int, PySem.W.listLt xs ys = ltL xs ys
  | [], [] => rfl
  | [], _ :: _ => rfl
  | _ :: _, [] => rfl
  | x :: xs, y :: ys => by
    unfold PySem.W.listLt ltL
    rw [ltL_eq xs ys]
    rfl
theorem minL_eq : ∀ (ns : List (List Int)) (n : List Int), PySem.W.minOf (PySem.W.Tup.mk n) (ns.map PySem.W.Tup.mk) = PySem.W.Tup.mk (minL n ns)
  | [], n => rfl
  | m :: ns, n => by
    unfold PySem.W.minOf minL
    rw [List.map_cons, List.foldl_cons, List.foldl_cons]
    have e : (if PySem.W.DatumOrd.lt (PySem.W.Tup.mk m) (PySem.W.Tup.mk n) = true then PySem.W.Tup.mk m else PySem.W.Tup.mk n) = PySem.W.Tup.mk (if ltL m n = true then m else n) := by
      have : PySem.W.DatumOrd.lt (PySem.W.Tup.mk m) (PySem.W.Tup.mk n) = ltL m n := ltL_eq m n
      rw [this]
      split <;> rfl
    rw [e]
    exact minL_eq ns _
def encI (l : List Int) : DL.D := .tup (l.map .int)
theorem pys_ints : ∀ l : List Int, D.pys (l.map DL.D.int) = l.map PyData.int
  | [] => rfl
  | i :: l => by
    rw [List.map_cons, List.map_cons, ← pys_ints l]
    rfl
theorem py_encI (l : List Int) : D.py (encI l) = PySem.W.Datum.toD (PySem.W.Tup.mk l) := by
  show PyData.tuple (D.pys (l.map DL.D.int)) = PyData.tuple (l.map PySem.W.Datum.toD)
  rw [pys_ints]
  rfl
theorem eqOk_ints : ∀ l : List Int, D.eqOks (l.map DL.D.int) = true
  | [] => rfl
  | i :: l => by
    show (D.eqOk (.int i) && D.eqOks (l.map DL.D.int)) = true
    rw [eqOk_ints l]
    rfl
theorem eqOk_encI (l : List Int) : (encI l).eqOk = true := eqOk_ints l
theorem py_inj {l m : List Int} (h : D.py (encI l) = D.py (encI m)) : l = m := by
  have h2 : PyData.tuple (l.map PyData.int) = PyData.tuple (m.map PyData.int) := by
    rw [← pys_ints, ← pys_ints]
    exact h
  injection h2 with h3
  exact (List.map_inj_right fun a b e => by injection e).mp h3
theorem each_get {α β : Type} {R : α → β → Prop} : ∀ {as : List α} {bs : List β}, PySem.W.EachIs R as bs → ∀ (i : Nat) (a : α), as[i]? = some a → ∃ b, bs[i]? = some b ∧ R a b
  | _, _, .nil, i, a, h => by simp at h
  | _, _, .cons h t, 0, a, e => by
    rw [List.getElem?_cons_zero] at e
    cases e
    exact ⟨_, rfl, h⟩
  | _, _, .cons h t, i + 1, a, e => by
    rw [List.getElem?_cons_succ] at e
    obtain ⟨b, h1, h2⟩ := each_get t i a e
    exact ⟨b, h1, h2⟩
theorem hold_each {h : Heap} : ∀ {us : List Value} {ns : List (List Int)}, PySem.W.EachIs (fun v d => ∃ as, Reads h v (D.py d) as) us (ns.map encI) → PySem.W.HoldAll h us (ns.map PySem.W.Tup.mk)
  | us, [], e => by cases e; exact ⟨[], .nil⟩
  | us, n :: ns, e => by
    rw [List.map_cons] at e
    cases e with
    | cons h1 t =>
      obtain ⟨as, r1⟩ := h1
      obtain ⟨bs, r2⟩ := hold_each t
      rw [py_encI] at r1
      exact ⟨_, .cons r1 r2⟩
def rMinT (K : PySem.W.Frag) : List V → Hp → VK → Prop := fun vs H Q => ∃ (W : Fb) (a : Addr) (n : List Int) (ns : List (List Int)) (xs : List V), vs = [V.ref a] ∧ H a = some (.lst xs) ∧ Reps K H W ((n :: ns).map encI) xs ∧ ∀ x, Rep K H W (encI (minL n ns)) x → Q x H
theorem cr_minT {X : Cx} (hc : X.calm = true) (hu : X.A.units + 4 < cLine) : CallR X (.builtin "min") (rMinT X.K) := by
  intro pins s σ H xs us Q I r h
  obtain ⟨W, a, n, ns, xs, rfl, hs, hr, q⟩ := h
  obtain ⟨its, rv, hl, _⟩ := I.list (.of hs)
  rw [Vals.ref1 r]
  have e := each_of hr rv
  have er : PySem.W.EachIs (fun v d => ∃ as, Reads s.heap v (D.py d) as) its ((n :: ns).map encI) := each_and e fun d hd v ⟨x, rx, hx⟩ => by
    obtain ⟨l, _, rfl⟩ := List.mem_map.mp hd
    exact Dp.reads I (encI l).py x v (dp_of _ x (eqOk_encI l) hx) rx
  have hh := hold_each er
  refine PySem.W.min_list_datum (α := PySem.W.Tup Int) (I.ok.hd hc) hl.isList hh ?_ fun i v h' tk hi hv hk => ?_
  · have : PySem.W.Datum.depth (PySem.W.Tup Int) = 1 := rfl
    omega
  · have hi2 : its[i]? = some v := by simpa using hi
    obtain ⟨d, hd, x, rx, hx⟩ := each_get e i v hi2
    rw [List.getElem?_map] at hd
    obtain ⟨l, hl2, rfl⟩ := Option.map_eq_some_iff.mp hd
    have I2 := L2.Inv.kept I (t' := tk) hk
    obtain ⟨as, r1⟩ := Dp.reads I2 (encI l).py x v (dp_of _ x (eqOk_encI l) hx) rx
    rw [minL_eq] at hv
    obtain ⟨bs, r2⟩ := hv
    rw [← py_encI] at r2
    have el := py_inj (Reads.unique r1 _ _ r2).1
    subst el
    exact ⟨x, H, I2, rx, q x hx⟩
theorem intsOf_is : ∀ {ds : List DL.D} {ns : List Int}, intsOf ds = some ns → ds = ns.map .int
  | [], ns, h => by cases h; rfl
  | d :: ds, ns, h => by
    cases d with
    | int i =>
      have h : (intsOf ds).map (i :: ·) = some ns := h
      cases q : intsOf ds with
      | none => rw [q] at h; cases h
      | some m =>
        rw [q] at h
        cases h
        rw [intsOf_is q]
        rfl
    | _ => cases h
def rowsOf : List DL.D → Option (List (List Int))
  | [] => some []
  | .tup es :: ds => (intsOf es).bind fun n => (rowsOf ds).map (n :: ·)
  | _ => none
theorem rowsOf_ok : ∀ {ds : List DL.D} {ns : List (List Int)}, rowsOf ds = some ns → ds = ns.map encI
  | [], ns, h => by cases h; rfl
  | d :: ds, ns, h => by
    cases d with
    | tup es =>
      unfold rowsOf at h
      cases q1 : intsOf es with
      | none => rw [q1] at h; cases h
      | some n =>
        cases q2 : rowsOf ds with
        | none => simp only [q1, q2, Option.bind_some, Option.map_none] at h; cases h
        | some m =>
          simp only [q1, q2, Option.bind_some, Option.map_some] at h
          cases h
          rw [rowsOf_ok q2, intsOf_is q1]
          rfl
    | _ => cases h
theorem rowsOf_map : ∀ ns : List (List Int), rowsOf (ns.map encI) = some ns
  | [] => rfl
  | n :: ns => by
    show (intsOf (n.map .int)).bind (fun n => (rowsOf (ns.map encI)).map (n :: ·)) = _
    rw [intsOf_map, rowsOf_map ns]
    rfl
def minTO (d : DL.D) (env : Nv) : Option Out := match d with
  | .lst ds => match rowsOf ds with
    | some (n :: ns) => some (.ok (.val (encI (minL n ns))) env)
    | _ => none
  | _ => none
theorem cd_minT {K : PySem.W.Frag} : CallD K (rMinT K) (c1g minTO) := callG1 fun {W Z env σ H Q x d} A t P => by
  cases d with
  | lst ds =>
    obtain ⟨a, xs, rfl, s, z, q⟩ := top_lst t
    unfold minTO at P
    cases h : rowsOf ds with
    | none => simp only [h] at P; exact P.elim
    | some rows =>
      cases rows with
      | nil => simp only [h] at P; exact P.elim
      | cons n ns =>
        simp only [h] at P
        exact ⟨_, a, n, ns, xs, rfl, s, by rw [← rowsOf_ok h]; exact q, fun x hx => pend_val (d := encI (minL n ns)) A hx P⟩
  | _ => exact P.elim
end DL

set_option Elab.async false
set_option linter.all false
set_option maxRecDepth 100000
namespace DL
open PySem PySem.Spec PyProof.Rows L2
/-! ### list(range(..)) -/
theorem vals_ints : ∀ (us : List PySem.Value) (ns : List Int), us.length = ns.length → (∀ i v, us[i]? = some v → ∃ t, v = Value.int (ns.getD i 0) t) → Vals (ns.map V.int) us
  | [], [], _, _ => .nil
  | [], _ :: _, h, _ => by cases h
  | _ :: _, [], h, _ => by cases h
  | u :: us, n :: ns, h, k => by
    refine .cons ?_ (vals_ints us ns (by simpa using h) fun i v hv => ?_)
    · obtain ⟨t, e⟩ := k 0 u rfl
      exact ⟨t, by rw [e]; rfl⟩
    · obtain ⟨t, e⟩ := k (i + 1) v (by rw [List.getElem?_cons_succ]; exact hv)
      exact ⟨t, by rw [e, List.getD_cons_succ]⟩
def rngI (lo hi : Int) : List Int := (List.range (hi - lo).toNat).map fun (i : Nat) => lo + (i : Int)
theorem call_list_rng {X : Cx} (hc : X.calm = true) : CallR X (.type "list") (fun xs H Q => ∃ p lo hi, xs = [.ref p] ∧ H p = some (.rng lo hi) ∧ -(2 ^ 62) ≤ lo ∧ lo < 2 ^ 62 ∧ -(2 ^ 62) ≤ hi ∧ hi < 2 ^ 62 ∧ (hi - lo).toNat ≤ 1000000 ∧ ∀ l, H l = none → Q (.ref l) (upd H l (.lst ((rngI lo hi).map V.int)))) := by
  intro pins s σ H xs us Q I r h
  obtain ⟨p, lo, hi, rfl, hp, h1, h2, h3, h4, hz, q⟩ := h
  obtain ⟨u, rfl, rx⟩ := vals1 r
  cases rx
  obtain ⟨t, u, v, ho⟩ := (show ObjOk X.prog X.w H s.heap p (.rng lo hi) from I.hok p _ hp)
  refine PySem.call_list_range (n := (hi - lo).toNat) (I.ok.hd hc) ho (small_one h1 h2 h3 h4) (by rw [rangeSize_one]; split <;> omega) (by omega) fun h' tk acc' c' hk hS' hacc => ?_
  have hl : (rngI lo hi).length = (hi - lo).toNat := by unfold rngI; rw [List.length_map, List.length_range]
  have hv : Vals ((rngI lo hi).map V.int) acc'.toList := by
    refine vals_ints _ _ ?_ fun i v hv => ?_
    · rw [hl]
      have := hacc.1
      simpa using this
    · have hi : i < (hi - lo).toNat := by
        have h5 := (List.getElem?_eq_some_iff.mp hv).1
        have := hacc.1
        simp at h5
        omega
      obtain ⟨t, e⟩ := hacc.2 i v (by simpa using hv)
      refine ⟨t, ?_⟩
      rw [e]
      congr 1
      unfold rngI
      rw [List.getD_eq_getElem?_getD, List.getElem?_map, List.getElem?_range hi]
      simp
  have sl := sizeLine_eq
  refine ⟨.ref s.heap.objs.size, upd H s.heap.objs.size (.lst ((rngI lo hi).map V.int)), I.laid (t' := tk) hk (Nat.le_refl _) ⟨?_, acc'.toList, c', hv, by simpa using hS'⟩, rfl, q _ (I.hok.fresh (Nat.le_refl _))⟩
  rw [List.length_map, hl]
  omega
def lstRO (d : DL.D) (env : Nv) : Option Out := match d with
  | .rng lo hi => if (rngC lo && rngC hi) = true ∧ (hi - lo).toNat ≤ 1000000 then some (.ok (.frs (.lst ((rngI lo hi).map .int))) env) else none
  | _ => none
theorem reps_ints {K : PySem.W.Frag} {H : Hp} {W : Fb} : ∀ ns : List Int, Reps K H W (ns.map .int) (ns.map V.int)
  | [] => rfl
  | n :: ns => ⟨_, _, rfl, rfl, reps_ints ns⟩
theorem cd_list_rng {K : PySem.W.Frag} : CallD K (fun xs H Q => ∃ p lo hi, xs = [.ref p] ∧ H p = some (.rng lo hi) ∧ -(2 ^ 62) ≤ lo ∧ lo < 2 ^ 62 ∧ -(2 ^ 62) ≤ hi ∧ hi < 2 ^ 62 ∧ (hi - lo).toNat ≤ 1000000 ∧ ∀ l, H l = none → Q (.ref l) (upd H l (.lst ((rngI lo hi).map V.int)))) (c1g lstRO) := callG1 fun {W Z env σ H Q x d} A t P => by
  cases d with
  | rng lo hi =>
    unfold lstRO at P
    by_cases c : (rngC lo && rngC hi) = true ∧ (hi - lo).toNat ≤ 1000000
    · simp only [if_pos c] at P
      obtain ⟨c1, c2⟩ := Bool.and_eq_true_iff.mp c.1
      obtain ⟨a, rfl, s⟩ := t
      have h1 := rngC_ok c1
      have h2 := rngC_ok c2
      refine ⟨a, lo, hi, rfl, s, h1.1, h1.2, h2.1, h2.2, c.2, fun l hl => pend_lst A hl ?_ (reps_ints _) P⟩
      have sl := sizeLine_eq
      unfold rngI
      rw [List.length_map, List.length_map, List.length_range]
      omega
    · simp only [if_neg c] at P
      exact P.elim
  | _ => exact P.elim
end DL

set_option Elab.async false
set_option linter.all false
set_option maxRecDepth 100000
namespace DL
open PySem PySem.Spec PyProof.Rows L2
/-! ### bits -/
def dShr := dI (fun _ j => decide (0 ≤ j)) fun i j => .int (i / 2 ^ j.toNat)
def dShl := dI powC fun i j => .int (i * 2 ^ j.toNat)
def dAnd := dI (fun _ _ => true) fun i j => .int (Builtin.bitAnd i j)
section
variable {K : PySem.W.Frag}
theorem od_shr : OpD K (rI (fun _ j => 0 ≤ j) fun i j => .int (i / 2 ^ j.toNat)) (o2 dShr) := opII (fun _ _ h => of_decide_eq_true h) fun _ _ => rfl
theorem od_shl : OpD K (rI CPow fun i j => .int (i * 2 ^ j.toNat)) (o2 dShl) := opII (fun _ _ h => by
  unfold powC at h
  obtain ⟨h, c⟩ := Bool.and_eq_true_iff.mp h
  obtain ⟨a, b⟩ := Bool.and_eq_true_iff.mp h
  exact ⟨of_decide_eq_true a, of_decide_eq_true b, of_decide_eq_true c⟩) fun _ _ => rfl
theorem od_and2 : OpD K (rI0 fun i j => .int (Builtin.bitAnd i j)) (o2 dAnd) := opII0 fun _ _ => rfl
end
section
variable {X : Cx} {Z : Wsh} {e e2 o : Expr} {f g : F} {pos apos : Pos}
theorem de_shr (ha : DE X Z e f) (hb : DE X Z e2 g) : DE X Z (.BinOp e .RShift e2 pos) (ap2 f g (o2 dShr)) := de_bin op_shr od_shr ha hb
theorem de_shl (ha : DE X Z e f) (hb : DE X Z e2 g) : DE X Z (.BinOp e .LShift e2 pos) (ap2 f g (o2 dShl)) := de_bin op_shl od_shl ha hb
theorem de_andI (ha : DE X Z e f) (hb : DE X Z e2 g) : DE X Z (.BinOp e .BitAnd e2 pos) (ap2 f g (o2 dAnd)) := de_bin op_and od_and2 ha hb
def bitsF (f : F) : F := fun env => bnd (f env) fun r e => (asI (hold r)).bind fun i => some (.ok (.val (.int (Builtin.Int.intBits i : Nat))) e)
theorem de_bits (he : DE X Z o f) (hbase : attributeBase o "bit_length" X.env (eval o X.env) = eval o X.env := by rfl) (hline : (apos.endLine == pos.line) = true := by rfl) : DE X Z (.Call (.Attribute o "bit_length" apos) [] [] pos) (bitsF f) := PEimp (pe_bits he hbase hline) fun σ H Q q => by
  obtain ⟨W, env, A, q⟩ := q
  refine tE_mono (fun v H1 t => ?_) (stepE A q)
  obtain ⟨r, env1, s1, A1, l1, P⟩ := t
  cases z : asI (hold r) with
  | none => rw [z] at P; exact P.elim
  | some i =>
    rw [z] at P
    exact ⟨i, asI_ok z l1, pend_val (d := .int (Builtin.Int.intBits i : Nat)) A1 rfl P⟩
end
/-! ### sorted(set(a tuple of ints)) -/
def rSetTup (K : PySem.W.Frag) (w : World) : List V → Hp → VK → Prop := fun xs H Q => ∃ (l : Addr) (ns : List Int), xs = [V.ref l] ∧ SqT K H l (ns.map V.int) ∧ ns.length < 64 ∧ ∀ a c, H a = none → c ≤ ns.length → Q (.ref a) (upd H a (SetO w a (fun j => decide (j ∈ ns)) c))
theorem cr_setTup {X : Cx} (hc : X.calm = true) : CallR X (.type "set") (rSetTup X.K X.w) := by
  intro pins s σ H xs us Q I r h
  obtain ⟨l, ns, rfl, hs, hz, q⟩ := h
  obtain ⟨its, rv, hl, _⟩ := I.tuple hs
  rw [Vals.ref1 r]
  refine call_set_tupI ns (I.ok.hd hc) (show s.heap.IsTuple _ its.toArray from hl) (by simpa using rv.ints) (by unfold scanBound; omega) fun h' tk c R hc2 hk => ?_
  exact ⟨.ref s.heap.objs.size, upd H s.heap.objs.size (SetO X.w s.heap.objs.size (fun j => decide (j ∈ ns)) c), I.laid (t' := tk) hk (Nat.le_refl _) (setO_new R), rfl, q _ c (I.hok.fresh (Nat.le_refl _)) hc2⟩
theorem onceI_nd (l : List Int) : (onceI l).Nodup := by
  have gen : ∀ (l acc : List Int), acc.Nodup → (l.foldl (fun (l : List Int) (i : Int) => if i ∈ l then l else l ++ [i]) acc).Nodup := by
    intro l
    induction l with
    | nil => intro acc h; exact h
    | cons i l ih =>
      intro acc h
      rw [List.foldl_cons]
      by_cases c : i ∈ acc
      · rw [if_pos c]; exact ih acc h
      · rw [if_neg c]
        exact ih _ (List.nodup_append.mpr ⟨h, by simp, fun a ha b hb e => by
          rw [List.mem_singleton] at hb
          subst hb
          rw [e] at ha
          exact c ha⟩)
  exact gen l [] List.nodup_nil
theorem onceI_in (l : List Int) (k : Int) : k ∈ onceI l ↔ k ∈ l := by
  have gen : ∀ (l acc : List Int), k ∈ l.foldl (fun (l : List Int) (i : Int) => if i ∈ l then l else l ++ [i]) acc ↔ k ∈ acc ∨ k ∈ l := by
    intro l
    induction l with
    | nil => intro acc; simp
    | cons i l ih =>
      intro acc
      rw [List.foldl_cons, ih]
      by_cases c : i ∈ acc
      · rw [if_pos c, List.mem_cons]
        exact ⟨fun h => h.imp id .inr, fun h => h.elim .inl fun h => h.elim (fun e => .inl (by rw [e]; exact c)) .inr⟩
      · rw [if_neg c, List.mem_append, List.mem_singleton, List.mem_cons, or_assoc]
  rw [onceI, gen]
  simp
section
variable {X : Cx} {Z : Wsh} {a : Expr} {f : F}
def sortSetD (d : DL.D) (env : Nv) : Option Out := match d with
  | .tup ds => (intsOf ds).bind fun ns => if ns.length < 64 then some (.ok (.frs (.lst ((sortI (onceI ns)).map .int))) env) else none
  | _ => none
def sortSetF (f : F) : F := fun env => bnd (f env) fun r e => (pk (hold r) e).bind fun d => sortSetD d e
theorem de_sortSet {p p2 q pos : Pos} (hc : X.calm = true) (hg : Gl X "sorted") (hm : X.mg "sorted" = none) (hg2 : Gl X "set") (hm2 : X.mg "set" = none) (ha : DE X Z a f)
    (na : starEach [a] X.env = (false, eval a X.env) :: starEach [] X.env := by rfl) (nb : (backTo q (starEach [] X.env)).any (·.1) = false := by rfl)
    (nc : starEach [.Call (.Name "set" p2) [a] [] q] X.env = (false, eval (.Call (.Name "set" p2) [a] [] q) X.env) :: starEach [] X.env := by rfl) (nd : (backTo pos (starEach [] X.env)).any (·.1) = false := by rfl) :
    DE X Z (.Call (.Name "sorted" p) [.Call (.Name "set" p2) [a] [] q] [] pos) (sortSetF f) :=
  PEimp (pe_callB (cr_sortedSet hc) hg hm rfl (pa_cons (pe_callTy (cr_setTup hc) hg2 hm2 rfl (pa_cons ha pa_nil na) (by decide) (by decide) na nb) pa_nil nc) (by decide) (by decide) nc nd) fun σ H Q q => by
    obtain ⟨W, env, A, q⟩ := q
    refine tE_mono (fun v H1 t => ?_) (stepE A q)
    obtain ⟨r, env1, s1, A1, l1, P⟩ := t
    cases z : pk (hold r) env1 with
    | none => rw [z] at P; exact P.elim
    | some d =>
      rw [z] at P
      cases d with
      | tup ds =>
        obtain ⟨l, xs, rfl, hs, hz, rq⟩ := top_tup (pk_top A1 l1 z)
        cases z2 : intsOf ds with
        | none => simp only [Option.bind_some, sortSetD, z2, Option.bind_none] at P; exact P.elim
        | some ns =>
          simp only [Option.bind_some, sortSetD, z2] at P
          by_cases c : ns.length < 64
          · rw [if_pos c] at P
            rw [intsOf_reps z2 rq] at hs
            refine ⟨l, ns, rfl, .of hs, c, fun b n hb hn => ⟨b, _, n, rfl, upd_same, by omega, fun ms p h1 h2 h3 hp => ?_⟩⟩
            have e1 : ms = sortI (onceI ns) := sortI_uniq h1 (fun k => by rw [h2, onceI_in]; simp) (onceI_nd ns)
            subst e1
            have A2 : AS X.K W env1 σ (upd H1 b (SetO X.w b (fun j => decide (j ∈ ns)) n)) := A1.new hb
            have P2 := P.shift (Stp.new hb (o := SetO X.w b (fun j => decide (j ∈ ns)) n))
            refine pend_lst A2 hp ?_ (reps_ints _) P2
            rw [List.length_map, sizeLine_eq]
            omega
          · rw [if_neg c] at P; exact P.elim
      | _ => exact P.elim
end
/-! ### max of a tuple of ints -/
def rMaxT (K : PySem.W.Frag) : List V → Hp → VK → Prop := fun xs H Q => ∃ (a : Addr) (ns : List Int), xs = [V.ref a] ∧ SqT K H a (ns.map V.int) ∧ ns ≠ [] ∧ Q (.int (maxI ns)) H
theorem cr_maxT {X : Cx} (hc : X.calm = true) (hu : X.A.units + 1 < cLine) : CallR X (.builtin "max") (rMaxT X.K) := by
  intro pins s σ H xs us Q I r h
  obtain ⟨a, ns, rfl, hs, hn, q⟩ := h
  obtain ⟨its, rv, hl, _⟩ := I.tuple hs
  rw [Vals.ref1 r]
  obtain ⟨n, ms, rfl⟩ : ∃ n ms, ns = n :: ms := by
    cases ns with
    | nil => exact absurd rfl hn
    | cons n ms => exact ⟨n, ms, rfl⟩
  refine PySem.W.max_tuple_datum (α := Int) (x := n) (xs := ms) (I.ok.hd hc) (show s.heap.IsTuple _ its.toArray from hl) ⟨[], reads_ints rv⟩ (show X.A.units + 1 + 0 < cLine by omega) fun i v h' tk hi hv hk => ?_
  have hi2 : its[i]? = some v := by simpa using hi
  obtain ⟨x, hx, rx⟩ : ∃ x, (((n :: ms).map V.int))[i]? = some x ∧ RelV x v := by
    obtain ⟨hlt, _⟩ := List.getElem?_eq_some_iff.mp hi2
    have hlt2 : i < ((n :: ms).map V.int).length := by rw [rv.length]; exact hlt
    obtain ⟨u2, g1, g2⟩ := rv.get (List.getElem?_eq_getElem hlt2)
    rw [hi2] at g1; cases g1
    exact ⟨_, List.getElem?_eq_getElem hlt2, g2⟩
  rw [List.getElem?_map] at hx
  cases q2 : (n :: ms)[i]? with
  | none => rw [q2] at hx; cases hx
  | some m =>
    rw [q2] at hx
    cases hx
    obtain ⟨t, rfl⟩ := rx
    obtain ⟨bs, rd⟩ := hv
    rw [← PySem.W.maxD_map] at rd
    have e2 : PySem.W.maxD (PySem.W.Datum.toD n) (ms.map PySem.W.Datum.toD) = .int (ms.foldl max n) := PySem.W.maxD_ints n ms
    rw [e2, maxI_fold] at rd
    cases rd
    exact ⟨.int _, H, L2.Inv.kept I hk, ⟨t, rfl⟩, q⟩
def maxTO (d : DL.D) (env : Nv) : Option Out := match d with
  | .tup ds => match intsOf ds with
    | some (n :: ns) => some (.ok (.val (.int (maxI (n :: ns)))) env)
    | _ => none
  | _ => none
theorem cd_maxT {K : PySem.W.Frag} : CallD K (rMaxT K) (c1g maxTO) := callG1 fun {W Z env σ H Q x d} A t P => by
  cases d with
  | tup ds =>
    obtain ⟨a, xs, rfl, s, z, q⟩ := top_tup t
    unfold maxTO at P
    cases h : intsOf ds with
    | none => simp only [h] at P; exact P.elim
    | some ns =>
      cases ns with
      | nil => simp only [h] at P; exact P.elim
      | cons n ns =>
        simp only [h] at P
        rw [intsOf_reps h q] at s
        exact ⟨a, n :: ns, rfl, .of s, by simp, pend_val (d := .int (maxI (n :: ns))) A rfl P⟩
  | _ => exact P.elim
/-! ### reversed(range(a, b)) -/
def revL2 (lo hi : Int) : List DL.D := (List.range (hi - lo).toNat).map fun (i : Nat) => .int (lo + ((hi - lo).toNat : Nat) - 1 - i)
def itRv2 (f g : F) : FI := fun env => bndI (f env) fun r e1 => bndI (g e1) fun r2 e2 => (asI (hold r)).bind fun i => (asI (hold r2)).bind fun j => if (rngC i && rngC j) = true then some (.ok (revL2 i j) e2) else none
theorem di_rev2 {X : Cx} {Z : Wsh} {e e2 tg : Expr} {f g : F} {p p2 pos pos2 : Pos} (hg : Gl X "reversed") (hm : X.mg "reversed" = none) (hg2 : Gl X "range") (hm2 : X.mg "range" = none) (he : DE X Z e f) (he2 : DE X Z e2 g)
    (na : starEach [e, e2] X.env = (false, eval e X.env) :: starEach [e2] X.env := by rfl) (nb : starEach [e2] X.env = (false, eval e2 X.env) :: starEach [] X.env := by rfl) (hp : (backTo pos2 (starEach [e2] X.env)).any (·.1) = false := by rfl)
    (hs : starEach [.Call (.Name "range" p2) [e, e2] [] pos2] X.env = (false, eval (.Call (.Name "range" p2) [e, e2] [] pos2) X.env) :: starEach [] X.env := by rfl) :
    DI X Z tg (.Call (.Name "reversed" p) [.Call (.Name "range" p2) [e, e2] [] pos2] [] pos) (itRv2 f g) := PIimp (pi_revR hg hm (prg_2 hg2 hm2 he he2 na nb hp) hs) fun σ H R q => by
  obtain ⟨W, env, A, q⟩ := q
  refine tE_mono (fun v H1 t => ?_) (stepI A q)
  obtain ⟨r, env1, s1, A1, l1, p⟩ := t
  refine tE_mono (fun v2 H2 t => ?_) (stepI A1 p)
  obtain ⟨r2, env2, s2, A2, l2, p⟩ := t
  cases z : asI (hold r) with
  | none => simp only [z] at p; exact p.elim
  | some i =>
    cases z2 : asI (hold r2) with
    | none => simp only [z, z2] at p; exact p.elim
    | some j =>
      simp only [z, z2, Option.bind_some] at p
      by_cases c : (rngC i && rngC j) = true
      · simp only [if_pos c] at p
        obtain ⟨c1, c2⟩ := Bool.and_eq_true_iff.mp c
        have b1 := rngC_ok c1
        have b2 := rngC_ok c2
        refine ⟨i, j, asI_ok z l1, asI_ok z2 l2, b1.1, b1.2, b2.1, b2.2, p _ _ .refl A2 ?_⟩
        have ln : (revL2 i j).length = (j - i).toNat := by rw [revL2, List.length_map, List.length_range]
        refine ⟨fun k H' h _ => by rw [ln] at h; exact h, fun H' _ => by rw [ln]; exact Nat.le_refl _, fun k H' x H2 d hd kk y => ?_⟩
        obtain ⟨e1, e2⟩ := y
        subst e1 e2
        refine ⟨fun _ _ h => h, fun _ h => h, fun Wk hw => ?_⟩
        have hi := (List.getElem?_eq_some_iff.mp hd).1
        rw [ln] at hi
        rw [revL2, List.getElem?_map, List.getElem?_range hi] at hd
        cases hd
        show V.int _ = V.int _
        have e3 : i + (((j - i).toNat : Nat) : Int) - 1 + (k : Nat) * (-1) = i + (((j - i).toNat : Nat) : Int) - 1 - k := by omega
        rw [e3]
      · simp only [if_neg c] at p; exact p.elim
end DL

set_option Elab.async false
set_option linter.all false
set_option maxRecDepth 100000
namespace DL
open PySem PySem.Spec PyProof.Rows L2
/-! ### sorted(d.items(), reverse=True): keys pairs of ints, values ints -/
theorem Stp.grow {env : Nv} {σ : St} {H H' : Hp} (g : ∀ b o, H b = some o → H' b = some o) : Stp env σ H env σ H' :=
  ⟨fun a u e _ => g a u e, fun _ z => .inl z, fun a q => by
    cases h : H a with
    | none => rfl
    | some u => rw [g a u h] at q; cases q⟩
abbrev KvI := Int × Int × Int
abbrev kvK (z : KvI) : List L2.Key := [.inl z.1, .inl z.2.1]
abbrev kvE (z : KvI) : List L2.Key × V := (kvK z, V.int z.2.2)
def iteD (z : KvI) : DL.D := .tup [.tup [.int z.1, .int z.2.1], .int z.2.2]
theorem itD_py (z : KvI) : (iteD z).py = .tuple [.tuple [.int z.1, .int z.2.1], .int z.2.2] := by
  simp [iteD, D.py, D.pys]
def leR : DL.D → DL.D → Bool := PySem.W.dataLe true D.py
def sortR (ds : List DL.D) : List DL.D := ds.mergeSort leR
theorem alike_it (kvs : List KvI) : PySem.W.AllAlike ((kvs.map iteD).map D.py) := by
  intro x hx y hy
  obtain ⟨d, hd, rfl⟩ := List.mem_map.mp hx
  obtain ⟨e, he, rfl⟩ := List.mem_map.mp hy
  obtain ⟨z, _, rfl⟩ := List.mem_map.mp hd
  obtain ⟨t, _, rfl⟩ := List.mem_map.mp he
  rw [itD_py, itD_py]
  simp [PySem.W.alike, PySem.W.alikeAll]
theorem sortable_it (kvs : List KvI) : PySem.W.Sortable ((kvs.map iteD).map D.py) := by
  refine .inl fun x hx => ?_
  obtain ⟨d, hd, rfl⟩ := List.mem_map.mp hx
  obtain ⟨z, _, rfl⟩ := List.mem_map.mp hd
  exact ⟨_, _, itD_py z⟩
theorem dep_it (z : KvI) : (iteD z).py.depth ≤ 2 := by
  rw [itD_py]
  simp [PyData.depth, PyData.depthAll]
theorem reads_it {h : Heap} {v : Value} {i j n : Int} {rs : List Addr} (r : Reads h v (.tuple [.tuple [.int i, .int j], .int n]) rs) : rs = [] := by
  cases r with
  | @tuple b o vs m _ _ a1 a2 a3 a4 =>
    generalize vs.toList = l at a4
    cases a4 with
    | cons b1 b2 =>
      cases b1 with
      | @tuple b' o' vs' m' _ _ c1 c2 c3 c4 =>
        generalize vs'.toList = l' at c4
        cases c4 with
        | cons d1 d2 =>
          cases d1
          cases d2 with
          | cons e1 e2 =>
            cases e1
            cases e2
            cases b2 with
            | cons f1 f2 =>
              cases f1
              cases f2
              rfl
section
variable {X : Cx}
def rSortIR (K : PySem.W.Frag) : List V → List V → Hp → VK → Prop := fun vs zs H Q => ∃ (p a : Addr) (kvs : List KvI), vs = [.ref p] ∧ zs = [.bl true] ∧ H p = some (L2.DX.itemsO p a) ∧ H a = some (.dT (kvs.map kvE)) ∧
  ∀ (H' : Hp) (l : Addr) (ys : List V), (∀ b o, H b = some o → H' b = some o) → H' l = none → (∀ W, Reps K H' W (sortR (kvs.map iteD)) ys) → Q (.ref l) (upd H' l (.lst ys))
theorem cr_sortIR (hc : X.calm = true) (hu : X.A.units + 64 < cLine) : CallRK X (.builtin "sorted") [Str.ofString "reverse"] (rSortIR X.K) := by
  intro pins s σ H vs zs us ws Q I r rz h
  obtain ⟨p, a, kvs, rfl, rfl, hp, ha, q⟩ := h
  obtain rfl := Vals.ref1 r
  obtain ⟨w1, rfl, e1⟩ := vals1 rz
  obtain rfl : w1 = Value.bool true := e1
  have view : s.heap.IsItemsView p a := (show ObjOk X.prog X.w H s.heap p (L2.DX.itemsO p a) from I.hok p _ hp).1
  obtain ⟨z, hd, xs', rel, o, es, ep, ho, hx, hdat, hes, his, hn⟩ := dt_of I.hok ha
  have l1 : (kvs.map kvE).length = xs'.length := Paired.length rel
  rw [List.length_map] at l1 z
  have l2 : es.size = xs'.length := size_of_entries hes
  have hh : X.A.handled = none := I.ok.hd hc
  show wpAny _ _ (call (.builtin "sorted") [.ref p] [(Str.ofString "reverse", .bool true)]) _ _ s
  refine call_function_entry_kw kind_sorted plain_sorted entry_sorted (PyProof.Rows.args_sorted_rev _ _) ?_
  unfold Builtin.«sorted»
  refine wpAny_bind (m := checkCount "sorted" 1 1 _) (wpAny_pure ?_)
  refine wpAny_bind (DT.collectI (A := X.A.in1) (es := es) (ep := ep) hh view ⟨o, ho, hx, hdat⟩ (by omega) fun h' tk as hk hlt hl hG => ?_)
  refine wpAny_bind (wpAny_newList ?_ (by rw [List.length_map, hl]; omega))
  have lak : as.length = kvs.length := by omega
  have nd : as.Nodup := List.Pairwise.imp (fun h => Nat.ne_of_lt h) hG.rise
  have pr : ∀ (j : Nat) (b : Addr), as[j]? = some b → ∃ (e : KvI) (kq : Addr) (t : Nat), kvs[j]? = some e ∧ H kq = some (.tup [.int e.1, .int e.2.1]) ∧ h'.get? b = some { cls := .type "tuple", data := .seq #[Value.ref kq, Value.int e.2.2 t] } := by
    intro j b hj
    obtain ⟨en, he, hg⟩ := hG.pairs j b hj
    rw [entry_at hes j] at he
    cases hxj : xs'[j]? with
    | none =>
      rw [hxj] at he
      exact nomatch (show (none : Option DictEntry) = some en from he)
    | some x =>
      rw [hxj] at he
      have een : entryOfKey (tupleKind (mixKind X.prog X.w)) x = en := Option.some.inj he
      obtain ⟨e0, he0, r1, r2, r3⟩ := L2.DX.pget rel hxj
      rw [List.getElem?_map] at he0
      cases hkj : kvs[j]? with
      | none =>
        rw [hkj] at he0
        exact nomatch (show (none : Option (List L2.Key × V)) = some e0 from he0)
      | some e =>
        rw [hkj] at he0
        have ee : kvE e = e0 := Option.some.inj he0
        rw [← ee] at r2 r3
        obtain ⟨t, r3'⟩ : ∃ t, x.2.2 = Value.int e.2.2 t := r3
        refine ⟨e, x.2.1, t, rfl, r2, ?_⟩
        rw [hg, ← een, ← r3']
        all_goals rfl
  have I1 : Inv X pins σ H { s with heap := h', toks := tk } := I.kept (t' := tk) hk
  obtain ⟨H2, I3, g, qt⟩ := L2.DX.takeT (P := fun b vs => ∃ (j : Nat) (e : KvI) (kq : Addr), as[j]? = some b ∧ kvs[j]? = some e ∧ vs = [.ref kq, .int e.2.2] ∧ H kq = some (.tup [.int e.1, .int e.2.1])) I as _ I1 nd fun b hb => by
    obtain ⟨j, hj⟩ := List.mem_iff_getElem?.mp hb
    obtain ⟨e, kq, t, he, hkq, hg⟩ := pr j b hj
    have hbl : s.heap.objs.size ≤ b := Nat.le_of_lt (hG.above b hb)
    exact ⟨hbl, I.hok.fresh hbl, [.ref kq, .int e.2.2], ⟨j, e, kq, hj, he, rfl, hkq⟩, fun H3 => ⟨(by rw [sizeLine_eq]; show 2 ≤ 16777216; omega), [Value.ref kq, Value.int e.2.2 t], .cons rfl (.cons ⟨t, rfl⟩ .nil), ⟨_, hg, rfl, 0, rfl⟩⟩⟩
  have hob : (h'.push { cls := .type "list", data := .seq (as.map Value.ref).toArray }).get? h'.objs.size = some (seqObj "list" (as.map Value.ref).toArray 0) := Heap.get?_push_size _ rfl
  have ne0 : ∀ b o, h'.get? b = some o → b ≠ h'.objs.size := fun b o e => Nat.ne_of_lt (Heap.lt_size e)
  -- what the items stand for
  have rp : ∀ (j : Nat) (b : Addr), as[j]? = some b → ∃ e : KvI, kvs[j]? = some e ∧ ∀ W, Rep X.K H2 W (iteD e) (.ref b) := by
    intro j b hj
    obtain ⟨vs, ⟨j', e, kq, j1, j2, ev, hkq⟩, hH⟩ := qt b (List.mem_of_getElem? hj)
    have eij : j = j' := (List.getElem?_inj (List.getElem?_eq_some_iff.mp hj).1 nd).mp (hj.trans j1.symm)
    subst eij
    subst ev
    have s2 : (2 : Nat) ≤ sizeLine := by rw [sizeLine_eq]; omega
    exact ⟨e, j2, fun W => ⟨b, _, rfl, hH, s2, .ref kq, [.int e.2.2], rfl, ⟨kq, _, rfl, g _ _ hkq, s2, .int e.1, [.int e.2.1], rfl, rfl, .int e.2.1, [], rfl, rfl, rfl⟩, .int e.2.2, [], rfl, rfl, rfl⟩⟩
  have each : PySem.W.EachIs (fun v d => ∃ x, RelV x v ∧ (∀ W, Rep X.K H2 W d x) ∧ ∃ z, d = iteD z) (as.map Value.ref) (kvs.map iteD) := by
    have gen : ∀ (as : List Addr) (kvs : List KvI), as.length = kvs.length → (∀ (j : Nat) (b : Addr), as[j]? = some b → ∃ e : KvI, kvs[j]? = some e ∧ ∀ W, Rep X.K H2 W (iteD e) (.ref b)) →
        PySem.W.EachIs (fun v d => ∃ x, RelV x v ∧ (∀ W, Rep X.K H2 W d x) ∧ ∃ z, d = iteD z) (as.map Value.ref) (kvs.map iteD) := by
      intro as
      induction as with
      | nil =>
        intro kvs hl _
        cases kvs with
        | nil => exact .nil
        | cons _ _ => simp at hl
      | cons b as ih =>
        intro kvs hl hp
        cases kvs with
        | nil => simp at hl
        | cons z kvs =>
          obtain ⟨e, he, re⟩ := hp 0 b rfl
          have ez : z = e := Option.some.inj he
          subst ez
          refine .cons ⟨.ref b, rfl, re, z, rfl⟩ (ih kvs (by simpa using hl) fun j c hj => ?_)
          obtain ⟨e, he, re⟩ := hp (j + 1) c hj
          exact ⟨e, he, re⟩
    exact gen as kvs lak rp
  have er : PySem.W.EachIs (fun v d => ∃ rs, Reads (h'.push { cls := .type "list", data := .seq (as.map Value.ref).toArray }) v (D.py d) rs ∧ h'.objs.size ∉ rs) (as.map Value.ref) (kvs.map iteD) := by
    refine each_and each fun d hd v ⟨x, rx, hx, z, ez⟩ => ?_
    subst ez
    obtain ⟨rs, r1⟩ := Dp.reads I3 (iteD z).py x v (dp_of (W := fun _ => False) _ x (by simp [iteD, D.eqOk, D.eqOks]) (hx _)) rx
    have r2 : Reads (h'.push { cls := .type "list", data := .seq (as.map Value.ref).toArray }) v (iteD z).py rs := PyProof.Rows.Reads.keeps (fun b o e => Heap.get?_push_of_some _ e) r1
    refine ⟨rs, r2, ?_⟩
    rw [itD_py] at r1
    have none : rs = [] := reads_it r1
    rw [none]
    exact fun h => nomatch h
  refine wpAny_bind (wpAny_holding (PySem.W.list_sort_rev_data (enc := D.py) (b := true) hob each er (alike_it kvs) (sortable_it kvs) (by rw [List.length_map]; exact z) (fun d hd => ?_) fun out hlen ho2 => ?_))
  · obtain ⟨z, _, rfl⟩ := List.mem_map.mp hd
    have := dep_it z
    show X.A.units + 1 + 1 + _ < cLine
    omega
  · refine wpAny_pure ⟨_, rfl, ?_⟩
    have hlen3 : out.length = kvs.length := by rw [hlen, List.length_map]
    obtain ⟨ys, h1, h2⟩ : ∃ xs, Vals xs out ∧ ∀ W, Reps X.K H2 W (sortR (kvs.map iteD)) xs := by
      have gen : ∀ (us : List Value) (ds : List DL.D), PySem.W.EachIs (fun v d => ∃ x, RelV x v ∧ (∀ W, Rep X.K H2 W d x) ∧ ∃ z, d = iteD z) us ds → ∃ xs, Vals xs us ∧ ∀ W, Reps X.K H2 W ds xs := by
        intro us ds h
        induction h with
        | nil => exact ⟨[], .nil, fun _ => rfl⟩
        | cons r t ih =>
          obtain ⟨x, rx, q, _⟩ := r
          obtain ⟨xs, h1, h2⟩ := ih
          exact ⟨x :: xs, .cons rx h1, fun W => ⟨x, xs, rfl, q W, h2 W⟩⟩
      exact gen _ _ ho2
    obtain ⟨eF, heF⟩ := PyProof.Rows.sortedHeap_at (vs := as.map Value.ref) (out := out.toArray) hob
    have kF : ∀ b o, h'.get? b = some o → (sortedHeap (h'.push { cls := .type "list", data := .seq (as.map Value.ref).toArray }) h'.objs.size (as.map Value.ref) out.toArray).get? b = some o := fun b o e =>
      (PyProof.Rows.sortedHeap_old (ne0 _ _ e) (Heap.lt_size (Heap.get?_push_of_some _ e))).trans (Heap.get?_push_of_some _ e)
    have hn0 : H2 h'.objs.size = none := I3.hok.fresh (Nat.le_refl _)
    have hlen2 : ys.length ≤ sizeLine := by rw [h1.length, hlen3]; exact z
    exact ⟨.ref h'.objs.size, upd H2 h'.objs.size (.lst ys), I3.laid (t' := tk) kF (Nat.le_refl _) ⟨hlen2, out, eF, h1, heF⟩, rfl, q H2 h'.objs.size ys g hn0 h2⟩
end
/-- the pairs and ints of a dict's data -/
def kvI : Kvs → Option (List KvI)
  | [] => some []
  | ([.inl i, .inl j], .int n) :: kvs => (kvI kvs).map fun l => (i, j, n) :: l
  | _ => none
theorem kvI_ok {K : PySem.W.Frag} {H : Hp} {W : Fb} : ∀ {kvs : Kvs} {l : List KvI} {kxs : List (List L2.Key × V)}, kvI kvs = some l → RepK K H W kvs kxs → kxs = l.map kvE := by
  intro kvs
  induction kvs with
  | nil =>
    intro l kxs e r
    cases e
    exact r
  | cons kv kvs ih =>
    intro l kxs e r
    obtain ⟨k, d⟩ := kv
    unfold kvI at e
    split at e
    · rename_i z; cases z
    · rename_i i j n kvs' z
      cases z
      cases h : kvI kvs with
      | none => rw [h] at e; cases e
      | some l' =>
        rw [h] at e
        cases e
        obtain ⟨v, vs, rfl, r1, r2⟩ := r
        obtain rfl : v = V.int n := r1
        rw [ih h r2]
        rfl
    · cases e
section
variable {X : Cx} {Z : Wsh} {o e2 : Expr} {f : F} {p pos apos cpos kpos : Pos}
def sortIRF (f : F) : F := fun env => bnd (f env) fun r e => match r with
  | .frs (.dct kvs) => match kvI kvs with
    | some l => if l.length ≤ sizeLine then some (.ok (.frs (.lst (sortR (l.map iteD)))) e) else none
    | none => none
  | _ => none
theorem de_sortIR {j : Nat} {cp : Pos} (hc : X.calm = true) (hu : X.A.units + 64 < cLine) (hg : Gl X "sorted") (hm : X.mg "sorted" = none) (he : DE X Z o f)
    (hbase : attributeBase o "items" X.env (eval o X.env) = eval o X.env := by rfl) (hline : (apos.endLine == cpos.line) = true := by rfl)
    (hst : starEach [.Call (.Attribute o "items" apos) [] [] cpos] X.env = (false, eval (.Call (.Attribute o "items" apos) [] [] cpos) X.env) :: starEach [] X.env := by rfl)
    (h1 : backTo pos (starEach [.Call (.Attribute o "items" apos) [] [] cpos] X.env) = (false, eval (.Call (.Attribute o "items" apos) [] [] cpos) X.env) :: backTo pos (starEach [] X.env) := by rfl)
    (hpl : (backTo pos (starEach [.Call (.Attribute o "items" apos) [] [] cpos] X.env)).any (·.1) = false := by rfl)
    (hall : (backToKw pos (keywordEach [⟨some (Str.ofString "reverse"), .Constant (.bool true) j cp, kpos⟩] X.env)).all (·.1.isSome) = true := by rfl)
    (hnone : (backToKw pos (keywordEach [⟨some (Str.ofString "reverse"), .Constant (.bool true) j cp, kpos⟩] X.env)).any (·.1.isNone) = false := by rfl)
    (hks : (backToKw pos (keywordEach [⟨some (Str.ofString "reverse"), .Constant (.bool true) j cp, kpos⟩] X.env)).filterMap (·.1) = [Str.ofString "reverse"] := by rfl) :
    DE X Z (.Call (.Name "sorted" p) [.Call (.Attribute o "items" apos) [] [] cpos] [⟨some (Str.ofString "reverse"), .Constant (.bool true) j cp, kpos⟩] pos) (sortIRF f) :=
  PEimp (pe_callBK (cr_sortIR hc hu) hg hm rfl (pa_cons (pe_bm0 PySem.F.plainAttrs_dict PySem.F.slot_dict_items PySem.F.type_dict_items L2.DX.mt_itemsT he hbase hline) pa_nil hst) (pk_cons pe_bl pk_nil) (by decide) (by decide) h1 hpl hall hnone hks) fun σ H Q q => by
    obtain ⟨W, env, A, q⟩ := q
    have h2 := pend_seq q
    refine ⟨W, env, A, h2.mono fun v H1 t => ?_⟩
    obtain ⟨r, env1, s1, r1, P⟩ := t
    split at P
    · rename_i kvs
      split at P
      · rename_i l z
        split at P
        · rename_i c
          have A1 := r1.as
          obtain ⟨a, rfl, hn, nW, nO, A0, hd⟩ := r1
          obtain ⟨kxs, ha, hz, rk⟩ := hd
          obtain rfl := kvI_ok z rk
          refine ⟨.inr (.inr (.inl ⟨rfl, .inr ⟨_, ha⟩⟩)), a, _, rfl, rfl, ha, fun b hb => ?_⟩
          refine ⟨b, a, l, rfl, rfl, upd_same, ?_, fun H' l' ys g hn' rp => ?_⟩
          · rw [upd_ne (ne_of_none ha hb)]; exact ha
          · have g2 : ∀ b' o', H1 b' = some o' → H' b' = some o' := fun b' o' e => g b' o' (by rw [upd_ne (ne_of_none e hb)]; exact e)
            exact pend_lst (A1.grow g2) hn' (by rw [sortR, List.length_mergeSort, List.length_map]; exact c) (rp _) (P.shift (s1.trans (Stp.grow g2)))
        · exact P.elim
      · exact P.elim
    · exact P.elim
end
end DL

set_option Elab.async false
set_option linter.all false
set_option maxRecDepth 100000
namespace DL
open PySem PySem.Spec PyProof.Rows L2
/-! ### xs.extend(ys): xs a slot of one's own -/
def wrE (i : Nat) (es : List DL.D) (env : Nv) : Option Out := match env[i]? with
  | some (some (.own b (.lst ds))) => if ds.length + es.length ≤ sizeLine then some (.ok (.val .non) (env.set i (some (.own b (.lst (ds ++ es)))))) else none
  | _ => none
def extO (i : Nat) (f : F) : F := fun env => match env[i]? with
  | some (some (.own _ (.lst _))) => bnd (f env) fun r env1 => match r with
    | .frs (.lst es) => wrE i es env1
    | _ => none
  | _ => none
section
variable {X : Cx} {Z : Wsh} {o e : Expr} {f : F} {i : Nat} {apos cpos : Pos}
theorem de_extend (p : PE X o (tVar i)) (he : DE X Z e f) (hbase : attributeBase o "extend" X.env (eval o X.env) = eval o X.env := by rfl)
    (hfew : ((backTo cpos (starEach (e :: []) X.env)).all (fun x => !x.1) && (backToKw cpos (keywordEach [] X.env)).all (fun x => x.1.isSome)
      && decide ((e :: []).length + ([] : List Keyword).length + (if ([] : List Keyword).isEmpty then 0 else 1) < 30)) = true := by rfl)
    (hline : (apos.endLine == cpos.line) = true := by rfl) (hs : starEach (e :: []) X.env = (false, eval e X.env) :: starEach [] X.env := by rfl) (hplain : (backTo cpos (starEach [] X.env)).any (·.1) = false := by rfl) :
    DE X Z (.Call (.Attribute o "extend" apos) [e] [] cpos) (extO i f) :=
  PEimp (pe_bm PySem.F.plainAttrs_list PySem.F.slot_list_extend PySem.F.type_list_extend mt_extend p (pa_cons he pa_nil hs) hbase hfew hline hs hplain) fun σ H Q q => by
    obtain ⟨W, env, A, q⟩ := q
    unfold extO at q
    split at q
    · rename_i b ds h
      obtain ⟨a, xs, h1, h2, h3, h4⟩ := own_at A h
      refine ⟨.ref a, h1, .inl ⟨rfl, xs, .of h2⟩, ?_⟩
      have hq := pend_seq q
      refine ⟨W, env, A, hq.mono fun v H1 t => ?_⟩
      obtain ⟨r, env1, s1, r1, P⟩ := t
      split at P
      · rename_i es
        have A1 := r1.as
        obtain ⟨x, rfl, hn, nW, nO, A0, hd⟩ := r1
        obtain ⟨ys, hy, hyz, rk⟩ := hd
        have rk1 : Reps X.K H1 (All W env1 σ) es ys := rk.anti fun b z => all_plus.mpr (.inl z)
        unfold wrE at P
        split at P
        · rename_i b' ds' h'
          by_cases c : ds'.length + es.length ≤ sizeLine
          · simp only [if_pos c] at P
            obtain ⟨a', xs', g1, g2, g3, g4⟩ := own_at A1 h'
            rw [h1] at g1; cases g1
            have hl := g4.length
            have hl2 := rk1.length
            refine ⟨a, x, xs', ys, rfl, rfl, g2, hy, by omega, ?_⟩
            obtain ⟨k1, k2⟩ := upd_keep (v := .lst (xs' ++ ys)) g2
            have new : Reps X.K (upd H1 a (.lst (xs' ++ ys))) (All W env1 σ) (ds' ++ es) (xs' ++ ys) := reps_upd A1 h' h1 (g4.append rk1)
            obtain ⟨A3, s3⟩ := A1.write (d' := .lst (ds' ++ es)) h' h1 k1 k2 ⟨_, upd_same, by rw [List.length_append]; exact c, new⟩
            exact P _ _ (s1.trans s3) ⟨A3, rfl⟩
          · simp only [if_neg c] at P; exact P.elim
        · exact P.elim
      · exact P.elim
    · exact q.elim
end
/-! ### sorted(a tuple) -/
section
variable {prog : Program} {w : World} {A : Around} {E : Value → Shared → Prop} {s : Shared}
theorem collect_tup {l : Addr} {vs : List Value} {Q : List Value → Shared → Prop} (hl : s.heap.IsTuple l vs.toArray)
    (h : Q vs { s with heap := (s.heap.push (seqObj "list" #[] 0)).update s.heap.objs.size (Obj.mapSeq (· ++ vs.toArray)) }) (hsz : vs.length ≤ sizeLine) :
    wpAny (model prog w) A (collect (.ref l)) Q E s := by
  obtain ⟨o, ho, hc, n, hd⟩ := id hl
  unfold collect
  refine wpAny_bind (wpAny_runValue (codeAny_builtin entry_proto_collect' ?_))
  show wpAny _ _ (do again (.builtin "list.__iadd__" ⟨[← newList [], .ref l], []⟩)) _ _ s
  refine wpAny_bind (wpAny_newList (wpAny_pure ⟨Code.quiet_builtin _ (by decide +kernel), codeAny_builtin entry_list_iadd' ?_⟩) (Nat.zero_le _))
  show wpAny _ _ (Builtin.List.listExtendWith (.ref s.heap.objs.size) (.ref l) (.ref s.heap.objs.size)) _ _ { s with heap := s.heap.push (seqObj "list" #[] 0) }
  unfold Builtin.List.listExtendWith
  have ho' : (s.heap.push (seqObj "list" #[] 0)).get? l = some o := Heap.get?_push_of_some _ ho
  refine wpAny_bind (wpAny_typeOf (T := "tuple") ⟨o, ho', hc⟩ ?_)
  have ht : (Value.type "tuple" == Value.type "tuple") = true := by rfl
  rw [if_pos (by rw [ht]; simp)]
  refine wpAny_bind (listItems_at ho' hd ?_)
  refine wpAny_bind (listItems_at (xs := #[]) (n := 0) (Heap.get?_push_size _ rfl) rfl ?_)
  rw [if_neg (by simp)]
  refine wpAny_bind (listUpdate_at (xs := #[]) (n := 0) (Heap.get?_push_size _ rfl) rfl ?_ (Nat.zero_le _) (by show (#[] ++ vs.toArray).size ≤ sizeLine + 1; simp only [Array.size_append, List.size_toArray, List.length_nil]; omega))
  refine wpAny_pure ?_
  show wpAny (model prog w) A (do
      let o ← load s.heap.objs.size
      match o.data with
      | .seq xs _ => pure xs.toList
      | _ => unsupported "internal:collect") Q E { s with heap := (s.heap.push (seqObj "list" #[] 0)).update s.heap.objs.size (Obj.mapSeq (· ++ vs.toArray)) }
  refine wpAny_bind (wpAny_load (get?_update_seq (Heap.get?_push_size _ rfl) _) ?_)
  show wpAny _ _ (pure ((#[] : Array Value) ++ vs.toArray).toList) Q E _
  rw [show ((#[] : Array Value) ++ vs.toArray).toList = vs by simp]
  exact wpAny_pure h
end
theorem dat_reads {h : Heap} : ∀ {d : DL.D} {v : Value} {rs : List Addr}, (isFlat d = true ∨ isTI d = true) → Reads h v d.py rs → rs = [] := by
  intro d v rs hd r
  have intz : ∀ (ns : List Int) (us : List Value) (rs : List Addr), ReadsAll h us (ns.map PyData.int) rs → rs = [] := by
    intro ns
    induction ns with
    | nil => intro us rs r; cases r; rfl
    | cons n ns ih =>
      intro us rs r
      cases r with
      | cons r1 r2 =>
        cases r1
        rw [ih _ _ r2]; rfl
  rcases hd with hd | hd
  · obtain ⟨i, rfl⟩ := flat_shape hd
    simp only [D.py] at r
    cases r
    rfl
  · obtain ⟨n, ns, e⟩ := ti_py hd
    rw [e] at r
    cases r with
    | @tuple b o vs m _ _ a1 a2 a3 a4 =>
      exact intz (n :: ns) _ _ a4
def rSortTD (K : PySem.W.Frag) : List V → Hp → VK → Prop := fun vs H Q => ∃ (W : Fb) (a : Addr) (ds : List D) (xs : List V), vs = [V.ref a] ∧ H a = some (.tup xs) ∧ ds.length ≤ sizeLine ∧ Reps K H W ds xs ∧ sortable ds = true ∧
  ∀ ys p, Reps K H W (sortD ds) ys → H p = none → Q (.ref p) (upd H p (.lst ys))
theorem cr_sortTD {X : Cx} (hu : X.A.units + 4 < cLine) : CallR X (.builtin "sorted") (rSortTD X.K) := by
  intro pins s σ H vs us Q I r h
  obtain ⟨W, a, ds, xs, rfl, hs, hz, hr, hk, q⟩ := h
  obtain ⟨its, rv, hl, _⟩ := I.tuple (.of hs)
  rw [Vals.ref1 r]
  have hzi : its.length ≤ sizeLine := by rw [← rv.length, ← hr.length]; exact hz
  have e := each_of hr rv
  refine Calls.call_function_entry kind_sorted plain_sorted entry_sorted (args_sorted1 _) ?_
  unfold Builtin.«sorted»
  refine wpAny_bind (m := checkCount "sorted" 1 1 _) (wpAny_pure ?_)
  refine wpAny_bind (collect_tup (show s.heap.IsTuple a its.toArray from hl) ?_ hzi)
  refine wpAny_bind (wpAny_newList ?_ hzi)
  have hsz : ((s.heap.push (seqObj "list" #[] 0)).update s.heap.objs.size (Obj.mapSeq (· ++ its.toArray))).objs.size = s.heap.objs.size + 1 := by
    rw [Heap.size_update, size_push']
  have hoL : (((s.heap.push (seqObj "list" #[] 0)).update s.heap.objs.size (Obj.mapSeq (· ++ its.toArray))).push (seqObj "list" its.toArray 0)).get? (s.heap.objs.size + 1) = some (seqObj "list" its.toArray 0) := by
    rw [← hsz]; exact Heap.get?_push_size _ rfl
  have keep : ∀ b o, s.heap.get? b = some o → (((s.heap.push (seqObj "list" #[] 0)).update s.heap.objs.size (Obj.mapSeq (· ++ its.toArray))).push (seqObj "list" its.toArray 0)).get? b = some o := fun b o q => by
    have hlt : b < s.heap.objs.size := Heap.lt_size q
    refine Heap.get?_push_of_some _ ?_
    rw [Heap.get?_update_ne _ _ _ _ (Nat.ne_of_lt hlt)]
    exact Heap.get?_push_of_some _ q
  have hd1 : ∀ d ∈ ds, isFlat d = true ∨ isTI d = true := fun d hd => by
    rcases Bool.or_eq_true_iff.mp hk with h | h
    · exact .inl (List.all_eq_true.mp h d hd)
    · exact .inr (List.all_eq_true.mp h d hd)
  show wpAny _ _ _ _ _ { s with heap := ((s.heap.push (seqObj "list" #[] 0)).update s.heap.objs.size (Obj.mapSeq (· ++ its.toArray))).push (seqObj "list" its.toArray 0) }
  rw [hsz]
  have er : PySem.W.EachIs (fun v d => ∃ as, Reads (((s.heap.push (seqObj "list" #[] 0)).update s.heap.objs.size (Obj.mapSeq (· ++ its.toArray))).push (seqObj "list" its.toArray 0)) v (D.py d) as ∧ s.heap.objs.size + 1 ∉ as) its ds :=
    each_and e fun d hd v ⟨x, rx, hx⟩ => by
      obtain ⟨rs, r1⟩ := Dp.reads I d.py x v (dp_of d x (eqOk_sort hk hd) hx) rx
      refine ⟨rs, PyProof.Rows.Reads.keeps keep r1, ?_⟩
      rw [dat_reads (hd1 d hd) r1]
      exact fun h => nomatch h
  refine wpAny_bind (wpAny_holding (PySem.W.list_sort_data (enc := D.py) hoL e er (alike_sort hk) (sortable_ok hk) hz (fun d hd => ?_) fun out hlen ho => ?_))
  · have := sort_dep hk hd
    show X.A.units + 1 + 1 + _ < cLine
    omega
  · refine wpAny_pure ⟨_, rfl, ?_⟩
    obtain ⟨ys, h1, h2⟩ := of_each ho
    obtain ⟨eF, heF⟩ := PyProof.Rows.sortedHeap_at (vs := its) (out := out.toArray) hoL
    have hlen2 : ys.length ≤ sizeLine := by rw [h1.length, hlen]; exact hz
    have kF : ∀ b o, s.heap.get? b = some o → (sortedHeap (((s.heap.push (seqObj "list" #[] 0)).update s.heap.objs.size (Obj.mapSeq (· ++ its.toArray))).push (seqObj "list" its.toArray 0)) (s.heap.objs.size + 1) its out.toArray).get? b = some o := fun b o e =>
      (PyProof.Rows.sortedHeap_old (Nat.ne_of_lt (Nat.lt_succ_of_lt (Heap.lt_size e))) (Heap.lt_size (keep b o e))).trans (keep b o e)
    exact ⟨.ref _, upd H (s.heap.objs.size + 1) (.lst ys), I.laid (t' := s.toks) kF (Nat.le_succ _) ⟨hlen2, out, eF, h1, heF⟩, rfl, q ys _ h2 (I.hok.fresh (Nat.le_succ _))⟩
def sortTO (d : D) (env : Nv) : Option Out := match d with
  | .tup ds => if sortable ds then some (.ok (.frs (.lst (sortD ds))) env) else none
  | _ => none
theorem cd_sortTD {K : PySem.W.Frag} : CallD K (rSortTD K) (c1g sortTO) := callG1 fun {W Z env σ H Q x d} A t P => by
  cases d with
  | tup ds =>
    obtain ⟨a, xs, rfl, s, z, q⟩ := top_tup t
    unfold sortTO at P
    by_cases c : sortable ds = true
    · simp only [if_pos c] at P
      refine ⟨_, a, ds, xs, rfl, s, z, q, c, fun ys p hy hp => ?_⟩
      refine pend_lst A hp ?_ hy P
      rw [sortD, List.length_mergeSort]; exact z
    · simp only [if_neg c] at P; exact P.elim
  | _ => exact P.elim
end DL

set_option Elab.async false
set_option linter.all false
set_option maxRecDepth 100000
namespace DL
open PySem PySem.Spec PyProof.Rows L2
/-! ### xs.index(i): ints -/
def intsD9 (d : DL.D) : Option (List Int) := match d with
  | .lst ds => intsOf ds
  | _ => none
def lstI (r : R) (env : Nv) : Option (List Int) := (pk r env).bind intsD9
def idxN (ns : List Int) (i : Int) : Option Nat := if i ∈ ns then some (ns.idxOf i) else none
def idxF (f g : F) : F := fun env => bnd (f env) fun r e1 => (lstI (hold r) e1).bind fun _ => bnd (g e1) fun k e2 => (lstI (hold r) e2).bind fun ns => (asI (hold k)).bind fun i => (idxN ns i).map fun j => .ok (.val (.int (j : Nat))) e2
section
variable {X : Cx} {Z : Wsh} {o e : Expr} {f g : F} {apos cpos : Pos}
theorem lstI_ok {K : PySem.W.Frag} {W : Fb} {env : Nv} {σ : St} {H : Hp} {r : R} {v : V} {ns : List Int} (A : AS K W env σ H) (l : RL K W env σ H r v) (z : lstI r env = some ns) : ∃ a, v = .ref a ∧ SqL K H a (ns.map V.int) := by
  unfold lstI at z
  cases p : pk r env with
  | none => rw [p] at z; cases z
  | some d =>
    rw [p] at z
    cases d with
    | lst ds =>
      obtain ⟨a, xs, rfl, hs, _, rq⟩ := top_lst (pk_top A l p)
      have z : intsOf ds = some ns := z
      rw [intsOf_reps z rq] at hs
      exact ⟨a, rfl, .of hs⟩
    | _ => cases z
theorem flat_ints : ∀ ns : List Int, (ns.map V.int).all flatV = true
  | [] => rfl
  | n :: ns => by
    show (flatV (.int n) && (ns.map V.int).all flatV) = true
    rw [flat_ints ns]; rfl
theorem de_index (ho : DE X Z o f) (he : DE X Z e g) (hbase : attributeBase o "index" X.env (eval o X.env) = eval o X.env := by rfl)
    (hfew : ((backTo cpos (starEach (e :: []) X.env)).all (fun x => !x.1) && (backToKw cpos (keywordEach [] X.env)).all (fun x => x.1.isSome)
      && decide ((e :: []).length + ([] : List Keyword).length + (if ([] : List Keyword).isEmpty then 0 else 1) < 30)) = true := by rfl)
    (hline : (apos.endLine == cpos.line) = true := by rfl) (hs : starEach (e :: []) X.env = (false, eval e X.env) :: starEach [] X.env := by rfl) (hplain : (backTo cpos (starEach [] X.env)).any (·.1) = false := by rfl) :
    DE X Z (.Call (.Attribute o "index" apos) [e] [] cpos) (idxF f g) :=
  PEimp (pe_bm PySem.F.plainAttrs_list PySem.F.slot_list_index PySem.F.type_list_index mt_index ho (pa_cons he pa_nil hs) hbase hfew hline hs hplain) fun σ H Q q => by
    obtain ⟨W, env, A, q⟩ := q
    refine tE_mono (fun v H1 t => ?_) (stepE A q)
    obtain ⟨r, env1, s1, A1, l1, P⟩ := t
    cases z : lstI (hold r) env1 with
    | none => rw [z] at P; exact P.elim
    | some n0 =>
      simp only [z, Option.bind_some] at P
      obtain ⟨a, rfl, hq⟩ := lstI_ok A1 l1 z
      refine ⟨.inl ⟨rfl, _, hq⟩, ?_⟩
      refine tE_mono (fun y H2 t => ?_) (stepE A1 P)
      obtain ⟨k, env2, s2, A2, l2, P⟩ := t
      have l1' := l1.keep A1 s2
      cases z1 : lstI (hold r) env2 with
      | none => simp only [z1, Option.bind_none] at P; exact P.elim
      | some ns =>
        cases z2 : asI (hold k) with
        | none => simp only [z1, z2, Option.bind_some, Option.bind_none] at P; exact P.elim
        | some i =>
          simp only [z1, z2, Option.bind_some] at P
          unfold idxN at P
          by_cases c : i ∈ ns
          · rw [if_pos c] at P
            obtain ⟨a', ea, hq2⟩ := lstI_ok A2 l1' z1
            cases ea
            have hlt : ns.idxOf i < ns.length := List.idxOf_lt_length_iff.mpr c
            have hget : ns[ns.idxOf i]? = some i := by
              rw [List.getElem?_eq_getElem hlt, List.getElem_idxOf hlt]
            refine ⟨a, ns.map V.int, .int i, ns.idxOf i, .int i, rfl, by rw [asI_ok z2 l2], hq2, rfl, flat_ints ns, by rw [List.getElem?_map, hget]; rfl, ?_, fun m z' hm hz' => ?_, pend_val (d := .int (ns.idxOf i : Nat)) A2 rfl P⟩
            · simp [eqV]
            · rw [List.getElem?_map] at hz'
              cases q : ns[m]? with
              | none => rw [q] at hz'; cases hz'
              | some x =>
                rw [q] at hz'
                cases hz'
                have hx : x ≠ i := by
                  intro e
                  subst e
                  obtain ⟨hml, hmx⟩ := List.getElem?_eq_some_iff.mp q
                  unfold List.idxOf at hm
                  have := List.not_of_lt_findIdx hm
                  simp [hmx] at this
                simp [eqV, hx]
          · rw [if_neg c] at P; exact P.elim
end
end DL

set_option Elab.async false
set_option linter.all false
set_option maxRecDepth 100000
/-! k in d, k not in d for dicts with tuples as keys; {k: n} -/
namespace PySem
open PyProof.Rows
section
variable {prog : Program} {w : World} {K : Type} [DecidableEq K] {knd : HeapKind prog w K} {A : Around} {E : Value → Shared → Prop} {s : Shared} {env : Env}
theorem wpAny_Dict_walkH {keys : List (Option Expr)} {values : List Expr} {pos : Pos} {Q : Value → Shared → Prop} (hu : knd.room A)
    (hall : keys.all (·.isSome) = true) (hl : keys.length = values.length) (h0 : keys ≠ []) (hlen : keys.length ≤ 15)
    (h : wpAny (model prog w) A (evalPairs (pairTrees keys values env pos)) (fun vs s₁ => ∃ ps, CarriesH knd s₁.heap vs ps ∧ s₁.heap.DictOfH knd s.heap.objs.size [] ∧
      ∀ h' tk, h'.DictOfH knd s.heap.objs.size (storedAllH [] ps) → Heap.SameBut s.heap.objs.size s₁.heap h' → Q (.ref s.heap.objs.size) { s₁ with heap := h', toks := tk }) E
      { s with heap := s.heap.push { cls := .type "dict", data := .dict #[] } }) :
    wpAny (model prog w) A (eval (.Dict keys values pos) env) Q E s := by
  have hn := pairTrees_length keys values env pos hall hl
  have h1 : pairTrees keys values env pos ≠ [] := by
    intro he
    rw [he] at hn
    exact h0 (List.length_eq_zero_iff.mp hn.symm)
  rw [arm_eval_Dict, zip_pairTrees keys values env pos hall hl, dictDisplay_pairs _ h1 (by omega)]
  exact wpAny_bind (wpAny_standAt (wpAny_bind (wpAny_subDictH (knd := knd) (Q := fun d s' => wpAny (model prog w) A (pure (Value.ref d)) Q E s') hu (by omega)
    (wpAny_mono h (fun vs s₁ h₁ => by obtain ⟨ps, hc, hm, hq⟩ := h₁; exact ⟨ps, hc, hm, fun h' tk a b => wpAny_pure (hq h' tk a b)⟩) fun _ _ e => e))))
end
end PySem
namespace DL
open PySem PySem.Spec PyProof.Rows L2
def dInK (d e : DL.D) : Option DL.D := match e with
  | .dct kvs => (keyT d).map fun ks => .bl (atD kvs ks).isSome
  | _ => none
def dNotInK (d e : DL.D) : Option DL.D := match e with
  | .dct kvs => (keyT d).map fun ks => .bl (!(atD kvs ks).isSome)
  | _ => none
def rInK : R2 := fun x y H Q => ∃ a o, y = V.ref a ∧ DGet H a x o ∧ Q (.bl o.isSome) H
def rNotInK : R2 := fun x y H Q => ∃ a o, y = V.ref a ∧ DGet H a x o ∧ Q (.bl (!o.isSome)) H
theorem op_inK {X : Cx} (hu : X.A.units + 1 < cLine) : OpR X (compareOp .In) rInK := by
  intro pins s σ H x y v u Q I rx ry h
  obtain ⟨a, o, rfl, g, q⟩ := h
  cases (show u = Value.ref a from ry)
  exact d_in hu I g rx fun s' I' => ⟨.bl o.isSome, H, I', rfl, q⟩
theorem op_notInK {X : Cx} (hu : X.A.units + 1 < cLine) : OpR X (compareOp .NotIn) rNotInK := by
  intro pins s σ H x y v u Q I rx ry h
  obtain ⟨a, o, rfl, g, q⟩ := h
  cases (show u = Value.ref a from ry)
  exact d_notIn hu I g rx fun s' I' => ⟨.bl (!o.isSome), H, I', rfl, q⟩
theorem od_inK {K : PySem.W.Frag} : OpD K rInK (o2 dInK) := opS fun H W d e res x y Q t1 t2 h => by
  cases e with
  | dct kvs =>
    unfold dInK at h
    cases z : keyT d with
    | none => simp [z] at h
    | some ks =>
      simp only [z, Option.map_some] at h
      cases h
      obtain ⟨a, kxs, rfl, rd, _, rk⟩ := t2
      obtain ⟨b, rfl, hb⟩ := keyT_ok z t1
      refine ⟨_, rfl, fun q => ⟨a, valV kxs ks, rfl, .inr ⟨kxs, ks, b, rd, rfl, hb, rfl⟩, ?_⟩⟩
      rw [atD_isSome rk]
      exact q
  | _ => cases h
theorem od_notInK {K : PySem.W.Frag} : OpD K rNotInK (o2 dNotInK) := opS fun H W d e res x y Q t1 t2 h => by
  cases e with
  | dct kvs =>
    unfold dNotInK at h
    cases z : keyT d with
    | none => simp [z] at h
    | some ks =>
      simp only [z, Option.map_some] at h
      cases h
      obtain ⟨a, kxs, rfl, rd, _, rk⟩ := t2
      obtain ⟨b, rfl, hb⟩ := keyT_ok z t1
      refine ⟨_, rfl, fun q => ⟨a, valV kxs ks, rfl, .inr ⟨kxs, ks, b, rd, rfl, hb, rfl⟩, ?_⟩⟩
      rw [atD_isSome rk]
      exact q
  | _ => cases h
section
variable {X : Cx} {Z : Wsh} {e e2 k v : Expr} {f g : F} {pos : Pos} {i : Nat} {n : Int}
theorem de_inK (hu : X.A.units + 1 < cLine) (ha : DE X Z e f) (hb : DE X Z e2 g) (hm : behindInMarks .In e2 = false := by rfl) : DE X Z (.Compare e [.In] [e2] pos) (ap2 f g (o2 dInK)) := de_cmp (op_inK hu) od_inK ha hb hm
theorem de_notInK (hu : X.A.units + 1 < cLine) (ha : DE X Z e f) (hb : DE X Z e2 g) (hm : behindInMarks .NotIn e2 = false := by rfl) : DE X Z (.Compare e [.NotIn] [e2] pos) (ap2 f g (o2 dNotInK)) := de_cmp (op_notInK hu) od_notInK ha hb hm
/-- {k: n}, k a name of a tuple -/
theorem pe_disp1 (hu : X.A.units < cLine) (hk : PE X k (tVar i)) (hv : PE X v (tC (.int n))) :
    PE X (.Dict [some k] [v] pos) (fun σ H Q => ∃ ks b, σ[i]? = some (some (V.ref b)) ∧ H b = some (.tup (ks.map kV)) ∧ ∀ p, H p = none → Q (.ref p) (upd H p (.dT [(ks, V.int n)]))) := by
  refine ⟨fun pins s σ H Q I h => ?_⟩
  obtain ⟨ks, b, hs, hb, q⟩ := h
  have hn := I.hok.fresh (Nat.le_refl s.heap.objs.size)
  have I1 := I.laid (a := s.heap.objs.size) (o := .dT []) (h' := s.heap.push { cls := .type "dict", data := .dict #[] }) (t' := s.toks) (fun _ _ q => Heap.get?_push_of_some _ q) (Nat.le_refl _) (dt_empty s.heap I.big)
  have hb1 : upd H s.heap.objs.size (.dT []) b = some (.tup (ks.map kV)) := by rw [upd_ne (ne_of_none hb hn)]; exact hb
  refine wpAny_Dict_walkH (knd := tupleKind (mixKind X.prog X.w)) hu rfl rfl (by simp) (by simp) ?_
  refine wpAny_mono ((pps_cons hk hv (pps_nil (X := X) (pos := pos))).run pins _ σ _ (fun ps H' => H' = upd H s.heap.objs.size (.dT []) ∧ ps = [(V.ref b, V.int n)]) I1 ⟨V.ref b, hs, rfl, rfl⟩) (fun vs s2 z => ?_) fun _ _ e => e
  obtain ⟨ps, H2, I2, rel, rfl, rfl⟩ := z
  cases rel with
  | @cons a0 p0 as bs h0 t0 =>
    cases t0
    obtain ⟨kv, vv⟩ := p0
    obtain ⟨h1, h2⟩ := h0
    cases (show kv = Value.ref b from h1)
    obtain ⟨z, hd, xs, rk, dd⟩ := dt_of I2.hok (a := s.heap.objs.size) (kvs := []) upd_same
    have hxs : xs = [] := by
      cases rk
      rfl
    subst hxs
    refine ⟨[(ks, b, vv)], ⟨rfl, rfl, key_of I2.hok hb1, trivial⟩, dd, fun h' tk dd' hs' => ⟨.ref s.heap.objs.size, _, ?_, rfl, q _ hn⟩⟩
    have e2 : upd H s.heap.objs.size (HO.dT [(ks, V.int n)]) = upd (upd H s.heap.objs.size (.dT [])) s.heap.objs.size (.dT [(ks, V.int n)]) := by
      funext x
      by_cases e : x = s.heap.objs.size
      · rw [e, upd_same, upd_same]
      · rw [upd_ne e, upd_ne e, upd_ne e]
    rw [e2]
    obtain ⟨o, es, ep, hq, h2', h3, h4, _, h5⟩ := dd'
    refine d_write I2 (by rw [upd_same]; exact True.intro) hs' ⟨o, hq⟩ ⟨by show 1 ≤ sizeLine; decide, hd, _, KT.keeps (KT.put .nil ks hb1 h2) fun c ys ec => ?_, o, es, ep, hq, h2', h3, h4, h5⟩
    rw [upd_ne fun e => by rw [e, upd_same] at ec; cases ec]
    exact ec
/-- {k: n} -/
def mkD1 (i : Nat) (n : Int) : F := fun env => (pk (.slot i) env).bind fun d => (keyT d).bind fun ks => some (.ok (.frs (.dct [(ks, .int n)])) env)
theorem de_dct1 (hu : X.A.units + 1 < cLine) (hk : PE X k (tVar i)) (hv : PE X v (tC (.int n))) : DE X Z (.Dict [some k] [v] pos) (mkD1 i n) := PEimp (pe_disp1 (Nat.lt_of_succ_lt hu) hk hv) fun σ H Q q => by
  obtain ⟨W, env, A, q⟩ := q
  unfold mkD1 at q
  cases z : pk (.slot i) env with
  | none => rw [z] at q; exact q.elim
  | some d =>
    rw [z, Option.bind_some] at q
    cases z2 : keyT d with
    | none => rw [z2] at q; exact q.elim
    | some ks =>
      rw [z2, Option.bind_some] at q
      have hs : ∃ v, σ[i]? = some (some v) := by
        simp only [pk] at z
        cases q1 : env[i]? with
        | none => simp [q1] at z
        | some o =>
          cases o with
          | none => simp [q1] at z
          | some sl =>
            cases sl with
            | val d' => obtain ⟨v, h, _⟩ := A.val i d' q1; exact ⟨v, h⟩
            | own b d' => obtain ⟨a, h, _⟩ := A.own i b d' q1; exact ⟨_, h⟩
            | lck kvs => obtain ⟨a, o, kxs, h, _⟩ := A.lck i kvs q1; exact ⟨_, h⟩
            | exn a dd fs => simp [q1] at z
      obtain ⟨v, hv⟩ := hs
      obtain ⟨b, rfl, hb⟩ := keyT_ok z2 (pk_top (r := .slot i) A hv z)
      exact ⟨ks, b, hv, hb, fun p hp => pend_dct (ds := [(ks, .int n)]) (xs := [(ks, V.int n)]) A hp (by show 1 ≤ sizeLine; decide) ⟨_, _, rfl, rfl, rfl⟩ q⟩
end
end DL

set_option Elab.async false
set_option linter.all false
set_option maxRecDepth 100000
namespace DL
open PySem PySem.Spec PyProof.Rows L2
/-! ### f(g(..), e): what is new is given to a def that writes it, and dropped -/
section
variable {K : PySem.W.Frag} {W : Fb} {env env' : Nv} {σ : St} {H H' : Hp} {a : Addr} {Q : VK} {Z : Wsh}
theorem AS.hot (A : AS K (Plus W a) env σ H) (n : ¬ Own env σ a) (hl : (∃ xs, H a = some (.lst xs)) ∨ (∃ xs, H a = some (.dT xs)) ∨ ∃ xs, H a = some (.dK xs)) (m : Mut (H' a)) (k : ∀ x o, x ≠ a → H x = some o → H' x = some o) : AS K (Plus W a) env σ H' := by
  have kp : Kp (fun x => x = a) H H' := ⟨fun x e => by rw [e]; exact A.trk a (.inr rfl), fun x o e n => k x o n e⟩
  have hm : ∀ x, x = a → All (Plus W a) env σ x := fun x e => .inl (.inr e)
  refine ⟨A.len, fun i d e => ?_, fun i c d e => ?_, A.dis, fun x z => ?_, fun i kvs e => ?_, fun i b dd fs e => ⟨(A.exn i b dd fs e).1, (A.exn i b dd fs e).2.keep fun x h => k _ _ (fun e => ?_) h⟩⟩
  · obtain ⟨v, q, r⟩ := A.val i d e
    exact ⟨v, q, Rep.keep kp hm d v r⟩
  · obtain ⟨v, q, r, g⟩ := A.own i c d e
    have nv : v ≠ a := fun e2 => n ⟨i, c, d, e, by rw [← e2]; exact q⟩
    refine ⟨v, q, Hold.keep kp hm ?_ r, g⟩
    have mm := r.mut
    cases q2 : H v with
    | none => rw [q2] at mm; exact mm.elim
    | some o => exact k _ _ nv q2
  · by_cases e : x = a
    · rw [e]; exact m
    · have mm := A.trk x z
      cases q2 : H x with
      | none => rw [q2] at mm; exact mm.elim
      | some o => rw [k _ _ e q2, ← q2]; exact mm
  · obtain ⟨b, o, kxs, q, h, l, r⟩ := A.lck i kvs e
    refine ⟨b, o, kxs, q, k _ _ (fun e => ?_) h, l, RepK.keep kp hm kvs kxs r⟩
    rw [e] at h
    rcases hl with ⟨xs, hl⟩ | ⟨xs, hl⟩ | ⟨xs, hl⟩ <;> (rw [hl] at h; cases h)
  · rw [e] at h
    rcases hl with ⟨xs, hl⟩ | ⟨xs, hl⟩ | ⟨xs, hl⟩ <;> (rw [hl] at h; cases h)
theorem Hold.move {d : DL.D} {W2 : Fb} {M : Fb} (r : Hold K H W a d) (h2 : ∀ x, W2 x → W x ∨ H x = none) (kp : Kp M H H') (hM : ∀ x, M x → W x) (e : H' a = H a) : Hold K H' W2 a d := by
  have h3 : ∀ x, (W2 x ∨ W x) → W x ∨ H x = none := fun x z => z.elim (h2 x) .inl
  cases d with
  | lst ds =>
    obtain ⟨xs, h, z, q⟩ := r
    exact ⟨xs, e.trans h, z, ((Reps.anti2 h3 ds xs q).keep kp fun x m => .inr (hM x m)).anti fun x z => .inl z⟩
  | dct ds =>
    obtain ⟨xs, h, z, q⟩ := r
    exact ⟨xs, e.trans h, z, ((RepK.anti2 h3 ds xs q).keep kp fun x m => .inr (hM x m)).anti fun x z => .inl z⟩
  | dci ds => exact ⟨e.trans r.1, r.2⟩
  | _ => exact r.elim
theorem Hold.kind {d : DL.D} (r : Hold K H W a d) : (∃ xs, H a = some (.lst xs)) ∨ (∃ xs, H a = some (.dT xs)) ∨ ∃ xs, H a = some (.dK xs) := by
  cases d with
  | lst ds => obtain ⟨xs, h, _⟩ := r; exact .inl ⟨xs, h⟩
  | dct ds => obtain ⟨xs, h, _⟩ := r; exact .inr (.inl ⟨xs, h⟩)
  | dci ds => exact .inr (.inr ⟨_, r.1⟩)
  | _ => exact r.elim
end
def callT (fn : Fn) (f g : F) : F := fun env => match f env with
  | some (.ok (.frs d) e1) => match g e1 with
    | some (.ok r e2) => match kp (hold r) e2 with
      | some (d2, e3) => match fn [d, d2] with
        | some (.ok false dd _) => some (.ok (.val dd) e3)
        | _ => none
      | none => none
    | _ => none
  | _ => none
section
variable {X : Cx} {Z : Wsh} {k : Nat} {fa : Addr} {fd : FuncData} {ps : List Str} {fn : Fn} {x : Str} {p pos : Pos} {e e2 : Expr} {f g : F}
theorem de_callT (G : FnOk X.prog X.w X.K X.mg X.base (L2N.CX X.prog X.w) k fa fd ps (spD X.K Z.CA true ps.length fn)) (hr : Room k X.A) (hg : Gl X x) (hm : X.mg x = some (.ref fa)) (hk : PySem.W.keepIn X.K (.ref fa) = true) (hb : Binds X.K fd ps []) (tk : L2N.Takes X Z.wx) (h2 : ps.length = 2)
    (ha : DAs X Z [e, e2] [f, g]) (hdb : (x == ("__debug__" : Str)) = false := by decide) (he : starEach (e :: [e2]) X.env = (false, eval e X.env) :: starEach [e2] X.env := by rfl) (hpl : (backTo pos (starEach [e2] X.env)).any (·.1) = false := by rfl) :
    DE X Z (.Call (.Name x p) [e, e2] [] pos) (callT fn f g) :=
  PEimp (pe_callS G hr hg hm hk hb (E := WE Z.wx) (fun σ => L2N.passAt tk σ) ha hdb he hpl) fun σ H Q q => by
    obtain ⟨W, env, A, P⟩ := q
    unfold callT at P
    refine ⟨W, env, A, ?_⟩
    revert P
    generalize f env = o
    intro P
    match o, P with
    | some (.ok (.frs d) e1), P =>
      intro v H1 s1 r1
      obtain ⟨a, rfl, hn, nW, nO, A1, hd⟩ := r1
      refine ⟨Plus W a, e1, A1, ?_⟩
      simp only at P
      revert P
      generalize g e1 = o2
      intro P
      match o2, P with
      | some (.ok r e2), P =>
        intro v2 H2 s2 r2
        simp only at P
        cases z : kp (hold r) e2 with
        | none => rw [z] at P; exact P.elim
        | some pr =>
          obtain ⟨d2, e3⟩ := pr
          simp only [z] at P
          obtain ⟨A3, rd, s3⟩ := kp_ok r2.as r2.rl z
          have s23 := s2.trans s3
          have h1a : ∃ o, H1 a = some o := by
            rcases hd.kind with ⟨xs, h⟩ | ⟨xs, h⟩ | ⟨xs, h⟩
            · exact ⟨_, h⟩
            · exact ⟨_, h⟩
            · exact ⟨_, h⟩
          obtain ⟨oa, hoa⟩ := h1a
          have nO3 : ¬ Own e3 σ a := fun q => (s23.own a q).elim nO fun q => by rw [hoa] at q; cases q
          have e12 : H2 a = H1 a := by rw [hoa]; exact s23.keep a oa hoa nO
          have hd2 : Hold X.K H2 (All (Plus W a) e3 σ) a d := by
            refine hd.move (fun y q => ?_) (A1.kp s23) (fun y q => .inr q) e12
            rcases q with q | q
            · exact .inl (.inl q)
            · exact (s23.own y q).imp .inr id
          refine ⟨All (Plus W a) e3 σ, [d, d2], h2.symm, A3.mt, ⟨a, d, [d2], [v2], rfl, rfl, .inl (.inr rfl), hd2, ⟨v2, [], rfl, rd, rfl⟩⟩, ?_⟩
          cases zf : fn [d, d2] with
          | none => simp only [zf] at P; exact P.elim
          | some fr =>
            cases fr with
            | exc x tp => simp only [zf] at P; exact P.elim
            | ok b dd tp =>
              cases b with
              | true => simp only [zf] at P; exact P.elim
              | false =>
                simp only [zf] at P
                intro v H3 kc rc
                obtain ⟨tc, rr⟩ := (show TapeC X.K (All (Plus W a) e3 σ) H3 true [V.ref a, v2] tp ∧ Rep X.K H3 (All (Plus W a) e3 σ) dd v from rc)
                obtain ⟨a', ea, ht⟩ := tc rfl
                have ea : a = a' := by simpa using ea
                subst ea
                have kk : ∀ y o, y ≠ a → H2 y = some o → H3 y = some o := fun y o n h => kc.1 y o h fun q => n (by have := q.2; simp at this; exact this.symm)
                have A4 := (A3.hot nO3 hd2.kind ht.mut kk).unplus nO3
                have s12 := s1.trans s23
                refine P v H3 ⟨fun y o h n => kk y o (fun e => by rw [e, hn] at h; cases h) (s12.keep y o h n), s12.own, fun y h => s12.there y (kc.2 y h)⟩ ⟨A4, rr.anti fun y q => ?_⟩
                exact q.imp .inl id
end
end DL

set_option Elab.async false
set_option linter.all false
set_option maxRecDepth 100000
set_option maxHeartbeats 4000000
/-! set(xs) for a list of ints, so that sorted(set(xs)) may be told -/
namespace DL
open PySem PySem.Spec PyProof.Rows L2
section
variable {P : Program} {w : World} {A : Around} {E : Value → Shared → Prop} {s : Shared}
/-- a new set -/
abbrev set0 (w : World) : Obj := { cls := .type "set", dict := none, data := .set #[] 0 (.fresh 0 0 (!w.params.followText "set-order")) }
/-- what set(..) leaves: the set of the ints at the heap's end, all else as it was -/
def SetMade (w : World) (h0 : Heap) (ns : List Int) (h : Heap) : Prop := (∃ c, c ≤ ns.length ∧ SetR w h h0.objs.size (fun j => decide (j ∈ ns)) c) ∧ ∀ b o, h0.get? b = some o → h.get? b = some o
set_option maxHeartbeats 8000000 in
theorem init_set_lst {l : Addr} {its : Array Value} (ns : List Int) (hh : A.handled = none) (hl : s.heap.IsList l its) (hv : IntsAre its.toList ns) (hz : ns.length + 1 < scanBound) :
    codeAny (model P w) A (.call (.builtin "set.__init__") ⟨[.ref s.heap.objs.size, .ref l], []⟩) (wants (fun r t => r = .none ∧ ∃ h tk, t = { s with heap := h, toks := tk } ∧ SetMade w s.heap ns h) E) { s with heap := s.heap.push (set0 w) } := by
  have sz : its.size = ns.length := by have := IntsAre.length hv; rwa [Array.length_toList] at this
  have g0 : (s.heap.push (set0 w)).get? s.heap.objs.size = some (set0 w) := Heap.get?_push_size _ rfl
  have ty : Shared.TypeIs { s with heap := s.heap.push (set0 w) } (.ref s.heap.objs.size) "set" := ⟨_, g0, rfl⟩
  obtain ⟨⟨oc, od, oa, os⟩, q1, q2, nn, q3⟩ := id hl
  simp only at q2 q3; subst q2 q3
  have g1 : (s.heap.push (set0 w)).get? l = some ⟨.type "list", od, .seq its nn, os⟩ := Heap.get?_push_of_some _ q1
  have l1 : (s.heap.push (set0 w)).IsList l its := ⟨_, g1, rfl, nn, rfl⟩
  have k1 := F.sub_list_set; have k2 := F.sub_list_frozenset
  have k3 : (Value.type "list" == Value.type "dict") = false := by decide
  have lt := Heap.lt_size q1
  refine codeAny_call_builtin F.called_set.init.plain F.entry_set_init (check_set_init_1 ty ?_)
  unfold Builtin.«set.__init__» noKeywords Builtin.Frozenset.updateFrom
  generalize pI : pyIter = pyI; wp_walk; subst pI
  refine wpAny_pyIter_list l1 (wpAny_bind (wpAny_runValue ?_))
  have sp : (s.heap.push (set0 w)).objs.size = s.heap.objs.size + 1 := Heap.size_push ..
  have n1 : l ≠ (s.heap.push (set0 w)).objs.size := by rw [sp]; exact Nat.ne_of_lt (Nat.lt_succ_of_lt lt)
  have n2 : s.heap.objs.size ∉ [(s.heap.push (set0 w)).objs.size, l] := by
    rw [sp, List.mem_cons, List.mem_singleton]
    exact fun z => z.elim (Nat.ne_of_lt (Nat.lt_succ_self _)) (Nat.ne_of_gt lt)
  refine L2.set_update_ints ((Walks.list (A := A.in1.in1) (by simp [hh]) _ l n1 its).toS) s.heap.objs.size n2 ns sz hz (fun i v e => ?_) (its.size - 0) 0 _ (by omega) (Nat.zero_le _) ?_ ?_ ?_
  · have lti : i < ns.length := by rw [← sz]; exact (Array.getElem?_eq_some_iff.mp e).1
    obtain ⟨t, et⟩ := IntsAre.int_at hv i v (by rw [Array.getElem?_toList]; exact e)
    exact ⟨ns[i], t, List.getElem?_eq_getElem lti, by rw [et, List.getD_eq_getElem?_getD, List.getElem?_eq_getElem lti]; rfl⟩
  · exact ⟨⟨_, Heap.get?_push_size _ rfl, rfl, rfl⟩, l1.push _⟩
  · exact ⟨0, Nat.le_refl 0, L2.setR_new_at (Heap.get?_push_of_some _ g0)⟩
  · intro t c mv lc R
    obtain ⟨h, g, dr, tk, ow⟩ := t
    have e1 : g = s.gens := mv.gens; have e2 : dr = s.drawn := mv.drawn; have e3 : ow = s.os := mv.os
    subst e1 e2 e3
    refine wpAny_pure (wpAny_pure ⟨rfl, h, tk, rfl, ⟨c, by rw [← sz]; exact lc, R⟩, fun b o e => ?_⟩)
    have lb : b < s.heap.objs.size := Heap.lt_size e
    refine mv.heap b o ?_ (Heap.get?_push_of_some _ (Heap.get?_push_of_some _ e))
    rw [sp]
    simp only [List.mem_cons, List.not_mem_nil, or_false, not_or]
    exact ⟨Nat.ne_of_lt lb, Nat.ne_of_lt (Nat.lt_succ_of_lt lb)⟩
theorem made_set_lst {l : Addr} {its : Array Value} (ns : List Int) {Q : Value → Shared → Prop} (hh : A.handled = none) (hl : s.heap.IsList l its) (hv : IntsAre its.toList ns) (hz : ns.length + 1 < scanBound)
    (q : ∀ h tk, SetMade w s.heap ns h → Q (.ref s.heap.objs.size) { s with heap := h, toks := tk }) : wpAny (model P w) A (call (.type "set") [.ref l]) Q E s := by
  obtain ⟨_, _, mro⟩ := F.called_set.mro
  have m1 := F.called_set.made; have m2 := F.called_set.sub; have m3 := F.called_set.notType; have m4 := F.called_set.canCreate; have m5 := F.typeCall_set_1 (.ref l)
  have qt : Code.quiet (.builtin "type.__call__" ⟨[.type "set", .ref l], []⟩) = true := Code.quiet_builtin _ (by decide +kernel)
  refine wpAny_call (codeAny_of_tree (wpAny_pure ⟨qt, codeAny_builtin F.entry_type_call ?_⟩)); rw [Around.under_plain (weight_type_call_type "set" [.ref l] []) rfl]
  repeat (any_goals first | wp_step | assumption)
  refine codeAny_mono (L2.code_set_led1 (.ref l) (E := E) (Q₁ := fun v t => v = .ref s.heap.objs.size ∧ t = { s with heap := s.heap.push (set0 w) }) ⟨rfl, rfl⟩) fun r t z => ?_
  rcases r with e | f
  · exact z
  cases f with
  | ret v =>
    obtain ⟨rfl, rfl⟩ := z
    have ty : Shared.TypeIs { s with heap := s.heap.push (set0 w) } (.ref s.heap.objs.size) "set" := ⟨_, Heap.get?_push_size _ rfl, rfl⟩
    have i1 := F.called_set.init.lookup; have i2 := F.called_set.init.bind (.ref s.heap.objs.size)
    repeat (any_goals first | wp_step | assumption)
    refine codeAny_mono (init_set_lst (E := E) ns (by simp [hh]) hl hv hz) fun r t z => ?_
    rcases r with e | f
    · exact z
    cases f with
    | ret v =>
      obtain ⟨rfl, h, tk, rfl, sm⟩ := z
      repeat (any_goals first | wp_step | assumption)
      exact q h tk sm
    | _ => exact z.elim
  | _ => exact z.elim
end
def rSetLst (K : PySem.W.Frag) (w : World) : List V → Hp → VK → Prop := fun xs H Q => ∃ (l : Addr) (ns : List Int), xs = [V.ref l] ∧ SqL K H l (ns.map V.int) ∧ ns.length < 64 ∧ ∀ a c, H a = none → c ≤ ns.length → Q (.ref a) (upd H a (SetO w a (fun j => decide (j ∈ ns)) c))
theorem cr_setLst {X : Cx} (hc : X.calm = true) : CallR X (.type "set") (rSetLst X.K X.w) := by
  intro pins s σ H xs us Q I r h
  obtain ⟨l, ns, rfl, hs, hz, q⟩ := h
  obtain ⟨its, rv, hl, _⟩ := I.list hs
  rw [Vals.ref1 r]
  refine made_set_lst (its := its.toArray) ns (I.ok.hd hc) hl.isList (by simpa using rv.ints) (by unfold scanBound; omega) fun h' tk sm => ?_
  obtain ⟨⟨c, hc2, R⟩, hk⟩ := sm
  exact ⟨.ref s.heap.objs.size, upd H s.heap.objs.size (SetO X.w s.heap.objs.size (fun j => decide (j ∈ ns)) c), I.laid (t' := tk) hk (Nat.le_refl _) (setO_new R), rfl, q _ c (I.hok.fresh (Nat.le_refl _)) hc2⟩
section
variable {X : Cx} {Z : Wsh} {a : Expr} {f : F}
def sortSetDL (d : DL.D) (env : Nv) : Option Out := match d with
  | .lst ds => (intsOf ds).bind fun ns => if ns.length < 64 then some (.ok (.frs (.lst ((sortI (onceI ns)).map .int))) env) else none
  | _ => none
def sortSetFL (f : F) : F := fun env => bnd (f env) fun r e => (pk (hold r) e).bind fun d => sortSetDL d e
theorem de_sortSetL {p p2 q pos : Pos} (hc : X.calm = true) (hg : Gl X "sorted") (hm : X.mg "sorted" = none) (hg2 : Gl X "set") (hm2 : X.mg "set" = none) (ha : DE X Z a f)
    (na : starEach [a] X.env = (false, eval a X.env) :: starEach [] X.env := by rfl) (nb : (backTo q (starEach [] X.env)).any (·.1) = false := by rfl)
    (nc : starEach [.Call (.Name "set" p2) [a] [] q] X.env = (false, eval (.Call (.Name "set" p2) [a] [] q) X.env) :: starEach [] X.env := by rfl) (nd : (backTo pos (starEach [] X.env)).any (·.1) = false := by rfl) :
    DE X Z (.Call (.Name "sorted" p) [.Call (.Name "set" p2) [a] [] q] [] pos) (sortSetFL f) :=
  PEimp (pe_callB (cr_sortedSet hc) hg hm rfl (pa_cons (pe_callTy (cr_setLst hc) hg2 hm2 rfl (pa_cons ha pa_nil na) (by decide) (by decide) na nb) pa_nil nc) (by decide) (by decide) nc nd) fun σ H Q q => by
    obtain ⟨W, env, A, q⟩ := q
    refine tE_mono (fun v H1 t => ?_) (stepE A q)
    obtain ⟨r, env1, s1, A1, l1, P⟩ := t
    cases z : pk (hold r) env1 with
    | none => rw [z] at P; exact P.elim
    | some d =>
      rw [z] at P
      cases d with
      | lst ds =>
        obtain ⟨l, xs, rfl, hs, hz, rq⟩ := top_lst (pk_top A1 l1 z)
        cases z2 : intsOf ds with
        | none => simp only [Option.bind_some, sortSetDL, z2, Option.bind_none] at P; exact P.elim
        | some ns =>
          simp only [Option.bind_some, sortSetDL, z2] at P
          by_cases c : ns.length < 64
          · rw [if_pos c] at P
            rw [intsOf_reps z2 rq] at hs
            refine ⟨l, ns, rfl, .of hs, c, fun b n hb hn => ⟨b, _, n, rfl, upd_same, by omega, fun ms p h1 h2 h3 hp => ?_⟩⟩
            have e1 : ms = sortI (onceI ns) := sortI_uniq h1 (fun k => by rw [h2, onceI_in]; simp) (onceI_nd ns)
            subst e1
            have A2 : AS X.K W env1 σ (upd H1 b (SetO X.w b (fun j => decide (j ∈ ns)) n)) := A1.new hb
            have P2 := P.shift (Stp.new hb (o := SetO X.w b (fun j => decide (j ∈ ns)) n))
            refine pend_lst A2 hp ?_ (reps_ints _) P2
            rw [List.length_map, sizeLine_eq]
            omega
          · rw [if_neg c] at P; exact P.elim
      | _ => exact P.elim
end
end DL

set_option Elab.async false
set_option linter.all false
set_option maxRecDepth 100000
namespace DL
open PySem PySem.Spec PyProof.Rows L2
/-! ### a call to which what is one's own is only lent: its answer leads to no list -/
mutual
def isPure : DL.D → Bool
  | .non => true
  | .bl _ => true
  | .int _ => true
  | .str _ => true
  | .tup ds => arePure ds
  | _ => false
def arePure : List DL.D → Bool
  | [] => true
  | d :: ds => isPure d && arePure ds
end
section
variable {K : PySem.W.Frag} {H : Hp} {W W' : Fb}
mutual
theorem Rep.pure : ∀ (d : DL.D) (v : V), isPure d = true → Rep K H W d v → Rep K H W' d v
  | .non, v, _, r => r
  | .bl b, v, _, r => r
  | .int i, v, _, r => r
  | .str x, v, _, r => r
  | .tup ds, v, p, r => by
    obtain ⟨a, xs, e, s, z, q⟩ := r
    exact ⟨a, xs, e, s, z, Reps.pure ds xs p q⟩
  | .lst ds, v, p, r => by cases p
  | .dct kvs, v, p, r => by cases p
  | .scr ns, v, p, r => by cases p
  | .rng lo hi, v, p, r => by cases p
  | .stt ns, v, p, r => by cases p
  | .dci ns, v, p, r => by cases p
  | .dcf ns, v, p, r => by cases p
theorem Reps.pure : ∀ (ds : List DL.D) (xs : List V), arePure ds = true → Reps K H W ds xs → Reps K H W' ds xs
  | [], xs, _, r => r
  | d :: ds, xs, p, r => by
    obtain ⟨v, vs, e, q1, q2⟩ := r
    obtain ⟨p1, p2⟩ := Bool.and_eq_true_iff.mp p
    exact ⟨v, vs, e, Rep.pure d v p1 q1, Reps.pure ds vs p2 q2⟩
end
end
def pks : List R → Nv → Option (List DL.D)
  | [], _ => some []
  | r :: rs, env => (pk r env).bind fun d => (pks rs env).map (d :: ·)
def okL (fr : Bool) (d : DL.D) : Bool := if fr then (match d with
  | .lst ds => arePure ds
  | _ => false) else isPure d
def callL (n : Nat) (f : Fn) (rs : List R) (env : Nv) : Option Out := if rs.length ≠ n then none else (pks rs env).bind fun ds => match f ds with
  | some (.ok fr d tp) => if okL fr d = true then some (.ok (if fr then .frs d else .val d) env) else none
  | some (.exc x tp) => some (.exc x env)
  | none => none
section
variable {K : PySem.W.Frag} {W : Fb} {env : Nv} {σ : St} {H : Hp}
theorem top_free {d : DL.D} {v : V} (t : Top K H W d v) : Rep K H (fun _ => False) d v := by
  cases d with
  | lst ds => obtain ⟨a, xs, e, s, z, q⟩ := t; exact ⟨a, xs, e, fun z => z, s, z, q.anti fun _ z => z.elim⟩
  | dct ds => obtain ⟨a, xs, e, s, z, q⟩ := t; exact ⟨a, xs, e, fun z => z, s, z, q.anti fun _ z => z.elim⟩
  | dci ds => obtain ⟨a, e, s, z⟩ := t; exact ⟨a, e, fun z => z, s, z⟩
  | _ => exact Rep.anti (W := W) (fun _ z => z.elim) t
theorem pks_ok (A : AS K W env σ H) : ∀ {rs : List R} {vs : List V} {ds : List DL.D}, RLs K W env σ H rs vs → pks rs env = some ds → Reps K H (fun _ => False) ds vs
  | [], vs, ds, h, e => by
    have h : vs = [] := h
    cases e
    subst h
    rfl
  | r :: rs, vs, ds, h, e => by
    obtain ⟨x, xs, rfl, l1, l2⟩ := h
    simp only [pks] at e
    cases z : pk r env with
    | none => rw [z] at e; cases e
    | some d =>
      rw [z, Option.bind_some] at e
      cases z2 : pks rs env with
      | none => rw [z2] at e; cases e
      | some ds' =>
        rw [z2] at e
        cases e
        exact ⟨x, xs, rfl, top_free (pk_top A l1 z), pks_ok A l2 z2⟩
end
section
variable {X : Cx} {Z : Wsh} {k : Nat} {fa : Addr} {fd : FuncData} {ps : List Str} {fn : Fn} {x : Str} {p pos : Pos} {e : Expr} {es : List Expr} {f : F} {fs : List F}
theorem de_callL (G : FnOk X.prog X.w X.K X.mg X.base (L2N.CX X.prog X.w) k fa fd ps (spD X.K Z.CA false ps.length fn)) (hr : Room k X.A) (hg : Gl X x) (hm : X.mg x = some (.ref fa)) (hk : PySem.W.keepIn X.K (.ref fa) = true) (hb : Binds X.K fd ps []) (tk : L2N.Takes X Z.wx)
    (ha : DAs X Z (e :: es) (f :: fs)) (hdb : (x == ("__debug__" : Str)) = false := by decide) (he : starEach (e :: es) X.env = (false, eval e X.env) :: starEach es X.env := by rfl) (hpl : (backTo pos (starEach es X.env)).any (·.1) = false := by rfl) :
    DE X Z (.Call (.Name x p) (e :: es) [] pos) (apN (f :: fs) (callL ps.length fn)) :=
  PEimp (pe_callS G hr hg hm hk hb (E := WE Z.wx) (fun σ => L2N.passAt tk σ) ha hdb he hpl) fun σ H Q q => by
    obtain ⟨W, env, A, q⟩ := q
    refine tAs_mono (f :: fs) (fun vs H1 t => ?_) (evs_ok (f :: fs) A q)
    obtain ⟨rs, env1, s1, A1, l1, P⟩ := t
    have lv := l1.length
    unfold callL at P
    by_cases c : rs.length ≠ ps.length
    · rw [if_pos c] at P; exact P.elim
    rw [if_neg c] at P
    have c : rs.length = ps.length := by simpa using c
    cases z : pks rs env1 with
    | none => rw [z] at P; exact P.elim
    | some ds =>
      rw [z, Option.bind_some] at P
      refine ⟨fun _ => False, ds, lv.trans c, fun _ z => z.elim, pks_ok A1 l1 z, ?_⟩
      have kp : ∀ {H'}, KeepC false vs H1 H' → (∀ a o, H1 a = some o → H' a = some o) := fun k a o h => k.1 a o h fun z => Bool.noConfusion z.1
      have st : ∀ {H'}, KeepC false vs H1 H' → Stp env1 σ H1 env1 σ H' := fun k => ⟨fun a o h _ => kp k a o h, fun _ z => .inl z, k.2⟩
      cases zf : fn ds with
      | none => simp only [zf] at P; exact P.elim
      | some fr =>
        cases fr with
        | exc y tp =>
          simp only [zf] at P
          exact fun cls d H' k t xo => P cls d H' (st k) (A1.grow (kp k)) xo
        | ok fr d tp =>
          simp only [zf] at P
          by_cases ok : okL fr d = true
          · rw [if_pos ok] at P
            cases fr with
            | false =>
              intro v H' k rc
              exact P v H' (st k) ⟨A1.grow (kp k), Rep.pure d v ok rc.2⟩
            | true =>
              intro v H' k rc
              obtain ⟨b, rfl, hb, _, _, hd⟩ := (show ∃ b, v = .ref b ∧ H1 b = none ∧ ¬ False ∧ TapeC X.K (Plus (fun _ => False) b) H' false vs tp ∧ Hold X.K H' (Plus (fun _ => False) b) b d from rc)
              have nall := A1.none_not hb
              refine P _ H' (st k) ⟨b, rfl, hb, fun z => nall (.inl z), fun z => nall (.inr z), A1.forbid2 hb (kp k) hd.mut, ?_⟩
              cases d with
              | lst ds' =>
                obtain ⟨xs, e1, e2, e3⟩ := hd
                exact ⟨xs, e1, e2, Reps.pure ds' xs ok e3⟩
              | _ => cases ok
          · rw [if_neg ok] at P; exact P.elim
end
end DL

set_option Elab.async false
set_option linter.all false
set_option maxRecDepth 100000
set_option maxHeartbeats 1000000
namespace DL
open PySem PySem.Spec PyProof.Rows L2
/-! ### texts -/
def strD : DL.D → Option Str
  | .str x => some x
  | _ => none
def dAddS (d e : DL.D) : Option DL.D := match d, e with
  | .str x, .str y => if x.length + y.length ≤ sizeLine then some (.str (x ++ y)) else none
  | _, _ => none
def dEqS (d e : DL.D) : Option DL.D := match d, e with
  | .str x, .str y => some (.bl (decide (x = y)))
  | _, _ => none
def dNeS (d e : DL.D) : Option DL.D := match d, e with
  | .str x, .str y => some (.bl (!decide (x = y)))
  | _, _ => none
def dNotInS (d e : DL.D) : Option DL.D := match d, e with
  | .str x, .str z => match x.cps.toList with
    | [c] => some (.bl (!decide (c ∈ z.cps.toList)))
    | _ => none
  | _, _ => none
def dIxS (d e : DL.D) : Option DL.D := match d, e with
  | .str z, .int i => if 0 ≤ i ∧ i < 2 ^ 63 ∧ i < z.length then (z.cps[i.toNat]?).map fun c => .str ⟨#[c]⟩ else none
  | _, _ => none
theorem od_addS {K : PySem.W.Frag} : OpD K (fun x y H Q => ∃ i j, x = V.str i ∧ y = V.str j ∧ i.length + j.length ≤ sizeLine ∧ Q (.str (i ++ j)) H) (o2 dAddS) := opS fun H W d e res x y Q t1 t2 h => by
  unfold dAddS at h
  split at h
  · rename_i a b
    have t1 : x = .str a := t1
    have t2 : y = .str b := t2
    by_cases c : a.length + b.length ≤ sizeLine
    · rw [if_pos c] at h
      cases h
      exact ⟨_, rfl, fun q => ⟨a, b, t1, t2, c, q⟩⟩
    · rw [if_neg c] at h; cases h
  · cases h
theorem v_str {a b : Str} : (V.str a = V.str b) ↔ a = b := ⟨fun e => by injection e, fun e => by rw [e]⟩
theorem od_eqS {K : PySem.W.Frag} : OpD K rEq (o2 dEqS) := opS fun H W d e res x y Q t1 t2 h => by
  unfold dEqS at h
  split at h
  · rename_i a b
    have t1 : x = .str a := t1
    have t2 : y = .str b := t2
    cases h
    subst t1 t2
    refine ⟨_, rfl, fun q => ⟨rfl, ?_⟩⟩
    rw [decide_eq_decide.mpr (v_str (a := a) (b := b))]
    exact q
  · cases h
theorem od_neS {K : PySem.W.Frag} : OpD K rNe (o2 dNeS) := opS fun H W d e res x y Q t1 t2 h => by
  unfold dNeS at h
  split at h
  · rename_i a b
    have t1 : x = .str a := t1
    have t2 : y = .str b := t2
    cases h
    subst t1 t2
    refine ⟨_, rfl, fun q => ⟨rfl, ?_⟩⟩
    rw [decide_eq_decide.mpr (v_str (a := a) (b := b))]
    exact q
  · cases h
theorem str_one {x : Str} {c : Nat} (h : x.cps.toList = [c]) : x = ⟨#[c]⟩ := by
  obtain ⟨cps⟩ := x
  have : cps = #[c] := by
    apply Array.toList_inj.mp
    exact h
  rw [this]
theorem od_notInS {K : PySem.W.Frag} : OpD K (fun x y H Q => ∃ (c : Nat) (z : Str), x = V.str ⟨#[c]⟩ ∧ y = .str z ∧ Q (.bl (!decide (c ∈ z.cps.toList))) H) (o2 dNotInS) := opS fun H W d e res x y Q t1 t2 h => by
  unfold dNotInS at h
  split at h
  · rename_i a b
    have t1 : x = .str a := t1
    have t2 : y = .str b := t2
    split at h
    · rename_i c hc
      cases h
      refine ⟨_, rfl, fun q => ⟨c, b, by rw [t1, str_one hc], t2, q⟩⟩
    · cases h
  · cases h
theorem od_ixS {K : PySem.W.Frag} : OpD K (fun x y H Q => ∃ z i c, x = V.str z ∧ y = .int i ∧ 0 ≤ i ∧ i < 2 ^ 63 ∧ i < z.length ∧ z.cps[i.toNat]? = some c ∧ Q (.str ⟨#[c]⟩) H) (o2 dIxS) := opS fun H W d e res x y Q t1 t2 h => by
  unfold dIxS at h
  split at h
  · rename_i a b
    have t1 : x = .str a := t1
    have t2 : y = .int b := t2
    by_cases c : 0 ≤ b ∧ b < 2 ^ 63 ∧ b < a.length
    · rw [if_pos c] at h
      cases z : a.cps[b.toNat]? with
      | none => rw [z] at h; cases h
      | some ch =>
        rw [z] at h
        cases h
        exact ⟨_, rfl, fun q => ⟨a, b, ch, t1, t2, c.1, c.2.1, c.2.2, z, q⟩⟩
    · rw [if_neg c] at h; cases h
  · cases h
section
variable {X : Cx} {Z : Wsh} {e e2 o tg : Expr} {f g : F} {pos apos cpos p2 : Pos}
theorem de_addS (ha : DE X Z e f) (hb : DE X Z e2 g) : DE X Z (.BinOp e .Add e2 pos) (ap2 f g (o2 dAddS)) := de_bin op_add_str od_addS ha hb
theorem de_eqS (ha : DE X Z e f) (hb : DE X Z e2 g) : DE X Z (.Compare e [.Eq] [e2] pos) (ap2 f g (o2 dEqS)) := de_cmp op_eq od_eqS ha hb
theorem de_neS (ha : DE X Z e f) (hb : DE X Z e2 g) : DE X Z (.Compare e [.NotEq] [e2] pos) (ap2 f g (o2 dNeS)) := de_cmp op_ne od_neS ha hb
theorem de_notInS (ha : DE X Z e f) (hb : DE X Z e2 g) (hm : behindInMarks .NotIn e2 = false := by rfl) : DE X Z (.Compare e [.NotIn] [e2] pos) (ap2 f g (o2 dNotInS)) := de_cmp op_notIn_sign od_notInS ha hb hm
theorem de_ixS (ha : DE X Z e f) (hb : DE X Z e2 g) (hs : PlainIxT e2 := by exact fun _ _ => rfl) : DE X Z (.Subscript e e2 pos) (ap2 f g (o2 dIxS)) :=
  PEimp (pe_item_str ha hb hs) fun σ H Q q => ap2_ok od_ixS q
/-- a text that stands under a name of the module -/
theorem de_gstr {x : Str} {z : Str} {u : Value} (hg : Gl X x) (hm : X.mg x = some u) (r : RelV (V.str z) u) (hd : (x == ("__debug__" : Str)) = false := by decide) : DE X Z (.Name x pos) (cst (.str z)) :=
  PEimp (pe_glob hg hm r hd) fun σ H Q q => by
    obtain ⟨W, env, A, q⟩ := q
    exact pend_val (d := .str z) A rfl q
end
def lenSO (d : DL.D) (env : Nv) : Option Out := match d with
  | .str z => if z.length ≤ sizeLine then some (.ok (.val (.int (z.length : Nat))) env) else none
  | _ => none
theorem cd_lenS {K : PySem.W.Frag} : CallD K (fun xs H Q => ∃ z, xs = [V.str z] ∧ z.length ≤ sizeLine ∧ Q (.int z.length) H) (c1g lenSO) := callG1 fun {W Z env σ H Q x d} A t P => by
  cases d with
  | str z =>
    have t : x = .str z := t
    unfold lenSO at P
    by_cases c : z.length ≤ sizeLine
    · simp only [if_pos c] at P
      exact ⟨z, by rw [t], c, pend_val (d := .int (z.length : Nat)) A rfl P⟩
    · simp only [if_neg c] at P; exact P.elim
  | _ => exact P.elim
/-! methods -/
def strR (r : R) (env : Nv) : Option Str := (pk r env).bind strD
theorem strR_ok {K : PySem.W.Frag} {W : Fb} {env : Nv} {σ : St} {H : Hp} {r : R} {v : V} {z : Str} (A : AS K W env σ H) (l : RL K W env σ H r v) (e : strR r env = some z) : v = .str z := by
  unfold strR at e
  cases p : pk r env with
  | none => rw [p] at e; cases e
  | some d =>
    rw [p, Option.bind_some] at e
    cases d with
    | str x => cases e; exact pk_top A l p
    | _ => cases e
def meth1 (f g : F) (m : Str → DL.D → Option DL.D) : F := fun env => bnd (f env) fun r e1 => (strR (hold r) e1).bind fun a => bnd (g e1) fun k e2 => (pk (hold k) e2).bind fun d => (m a d).map fun x => .ok (.val x) e2
section
variable {X : Cx} {Z : Wsh} {e e2 o tg : Expr} {f g : F} {pos apos cpos p2 : Pos}
def mFind (a : Str) (d : DL.D) : Option DL.D := (strD d).map fun b => .int (Txt.find a b)
theorem de_find (ho : DE X Z o f) (he : DE X Z e g) (hbase : attributeBase o "find" X.env (eval o X.env) = eval o X.env := by rfl)
    (hfew : ((backTo cpos (starEach (e :: []) X.env)).all (fun x => !x.1) && (backToKw cpos (keywordEach [] X.env)).all (fun x => x.1.isSome)
      && decide ((e :: []).length + ([] : List Keyword).length + (if ([] : List Keyword).isEmpty then 0 else 1) < 30)) = true := by rfl)
    (hline : (apos.endLine == cpos.line) = true := by rfl) (hs : starEach (e :: []) X.env = (false, eval e X.env) :: starEach [] X.env := by rfl) (hplain : (backTo cpos (starEach [] X.env)).any (·.1) = false := by rfl) :
    DE X Z (.Call (.Attribute o "find" apos) [e] [] cpos) (meth1 f g mFind) :=
  PEimp (pe_bm PySem.F.plainAttrs_str PySem.F.slot_str_find PySem.F.type_str_find mt_find ho (pa_cons he pa_nil hs) hbase hfew hline hs hplain) fun σ H Q q => by
    obtain ⟨W, env, A, q⟩ := q
    refine tE_mono (fun v H1 t => ?_) (stepE A q)
    obtain ⟨r, env1, s1, A1, l1, P⟩ := t
    cases z : strR (hold r) env1 with
    | none => rw [z] at P; exact P.elim
    | some a =>
      rw [z, Option.bind_some] at P
      have ev := strR_ok A1 l1 z
      subst ev
      refine ⟨rfl, ?_⟩
      refine tE_mono (fun y H2 t => ?_) (stepE A1 P)
      obtain ⟨k, env2, s2, A2, l2, P⟩ := t
      cases z2 : pk (hold k) env2 with
      | none => rw [z2] at P; exact P.elim
      | some d =>
        rw [z2, Option.bind_some] at P
        cases d with
        | str b =>
          have t2 : y = .str b := pk_top A2 l2 z2
          exact ⟨a, b, rfl, by rw [t2], pend_val (d := .int (Txt.find a b)) A2 rfl P⟩
        | _ => exact P.elim
def mIndex (a : Str) (d : DL.D) : Option DL.D := (strD d).bind fun b => match Builtin.Str.occurrences a b 0 a.length 1 with
  | i :: _ => some (.int (i : Nat))
  | [] => none
theorem de_sindex (ho : DE X Z o f) (he : DE X Z e g) (hbase : attributeBase o "index" X.env (eval o X.env) = eval o X.env := by rfl)
    (hfew : ((backTo cpos (starEach (e :: []) X.env)).all (fun x => !x.1) && (backToKw cpos (keywordEach [] X.env)).all (fun x => x.1.isSome)
      && decide ((e :: []).length + ([] : List Keyword).length + (if ([] : List Keyword).isEmpty then 0 else 1) < 30)) = true := by rfl)
    (hline : (apos.endLine == cpos.line) = true := by rfl) (hs : starEach (e :: []) X.env = (false, eval e X.env) :: starEach [] X.env := by rfl) (hplain : (backTo cpos (starEach [] X.env)).any (·.1) = false := by rfl) :
    DE X Z (.Call (.Attribute o "index" apos) [e] [] cpos) (meth1 f g mIndex) :=
  PEimp (pe_bm PySem.F.plainAttrs_str PySem.F.slot_str_index PySem.F.type_str_index mt_sindex ho (pa_cons he pa_nil hs) hbase hfew hline hs hplain) fun σ H Q q => by
    obtain ⟨W, env, A, q⟩ := q
    refine tE_mono (fun v H1 t => ?_) (stepE A q)
    obtain ⟨r, env1, s1, A1, l1, P⟩ := t
    cases z : strR (hold r) env1 with
    | none => rw [z] at P; exact P.elim
    | some a =>
      rw [z, Option.bind_some] at P
      have ev := strR_ok A1 l1 z
      subst ev
      refine ⟨rfl, ?_⟩
      refine tE_mono (fun y H2 t => ?_) (stepE A1 P)
      obtain ⟨k, env2, s2, A2, l2, P⟩ := t
      cases z2 : pk (hold k) env2 with
      | none => rw [z2] at P; exact P.elim
      | some d =>
        rw [z2, Option.bind_some] at P
        cases d with
        | str b =>
          have t2 : y = .str b := pk_top A2 l2 z2
          unfold mIndex strD at P
          simp only [Option.bind_some] at P
          cases zo : Builtin.Str.occurrences a b 0 a.length 1 with
          | nil => simp only [zo] at P; exact P.elim
          | cons i rest =>
            simp only [zo] at P
            exact ⟨a, b, i, rest, rfl, by rw [t2], zo, pend_val (d := .int (i : Nat)) A2 rfl P⟩
        | _ => exact P.elim
def strsOf : List DL.D → Option (List Str)
  | [] => some []
  | .str x :: ds => (strsOf ds).map (x :: ·)
  | _ :: _ => none
theorem strsOf_reps {K : PySem.W.Frag} {H : Hp} {W : Fb} : ∀ {ds : List DL.D} {xs : List V} {ys : List Str}, strsOf ds = some ys → Reps K H W ds xs → xs = ys.map V.str
  | [], xs, ys, e, h => by
    cases e
    exact h
  | .str x :: ds, xs, ys, e, h => by
    obtain ⟨v, vs, rfl, q1, q2⟩ := h
    have q1 : v = .str x := q1
    simp only [strsOf] at e
    cases z : strsOf ds with
    | none => rw [z] at e; cases e
    | some zs =>
      rw [z] at e
      cases e
      rw [q1, strsOf_reps z q2]
      rfl
  | .non :: _, _, _, e, _ => by cases e
  | .bl _ :: _, _, _, e, _ => by cases e
  | .int _ :: _, _, _, e, _ => by cases e
  | .tup _ :: _, _, _, e, _ => by cases e
  | .lst _ :: _, _, _, e, _ => by cases e
  | .dct _ :: _, _, _, e, _ => by cases e
  | .scr _ :: _, _, _, e, _ => by cases e
  | .rng _ _ :: _, _, _, e, _ => by cases e
  | .stt _ :: _, _, _, e, _ => by cases e
  | .dci _ :: _, _, _, e, _ => by cases e
  | .dcf _ :: _, _, _, e, _ => by cases e
def mJoin (a : Str) (d : DL.D) : Option DL.D := match d with
  | .lst ds => (strsOf ds).bind fun ys => if (ys.map (·.length)).sum + ys.length * a.length ≤ 16777216 then some (.str (Txt.join a ys)) else none
  | _ => none
theorem de_join (ho : DE X Z o f) (he : DE X Z e g) (hbase : attributeBase o "join" X.env (eval o X.env) = eval o X.env := by rfl)
    (hfew : ((backTo cpos (starEach (e :: []) X.env)).all (fun x => !x.1) && (backToKw cpos (keywordEach [] X.env)).all (fun x => x.1.isSome)
      && decide ((e :: []).length + ([] : List Keyword).length + (if ([] : List Keyword).isEmpty then 0 else 1) < 30)) = true := by rfl)
    (hline : (apos.endLine == cpos.line) = true := by rfl) (hs : starEach (e :: []) X.env = (false, eval e X.env) :: starEach [] X.env := by rfl) (hplain : (backTo cpos (starEach [] X.env)).any (·.1) = false := by rfl) :
    DE X Z (.Call (.Attribute o "join" apos) [e] [] cpos) (meth1 f g mJoin) :=
  PEimp (pe_bm PySem.F.plainAttrs_str PySem.F.slot_str_join PySem.F.type_str_join mt_join ho (pa_cons he pa_nil hs) hbase hfew hline hs hplain) fun σ H Q q => by
    obtain ⟨W, env, A, q⟩ := q
    refine tE_mono (fun v H1 t => ?_) (stepE A q)
    obtain ⟨r, env1, s1, A1, l1, P⟩ := t
    cases z : strR (hold r) env1 with
    | none => rw [z] at P; exact P.elim
    | some a =>
      rw [z, Option.bind_some] at P
      have ev := strR_ok A1 l1 z
      subst ev
      refine ⟨rfl, ?_⟩
      refine tE_mono (fun y H2 t => ?_) (stepE A1 P)
      obtain ⟨k, env2, s2, A2, l2, P⟩ := t
      cases z2 : pk (hold k) env2 with
      | none => rw [z2] at P; exact P.elim
      | some d =>
        rw [z2, Option.bind_some] at P
        cases d with
        | lst ds =>
          obtain ⟨l, xs, rfl, hs2, hz, rq⟩ := top_lst (pk_top A2 l2 z2)
          unfold mJoin at P
          simp only at P
          cases z3 : strsOf ds with
          | none => rw [z3] at P; exact P.elim
          | some ys =>
            rw [z3, Option.bind_some] at P
            by_cases c : (ys.map (·.length)).sum + ys.length * a.length ≤ 16777216
            · rw [if_pos c] at P
              rw [strsOf_reps z3 rq] at hs2
              exact ⟨a, l, ys, rfl, rfl, .inl (.of hs2), c, pend_val (d := .str (Txt.join a ys)) A2 rfl P⟩
            · rw [if_neg c] at P; exact P.elim
        | _ => exact P.elim
/-! slices -/
def cutS (a : Str) (lo hi : Option Int) : Option DL.D := if a.length ≤ sizeLine then some (.str (Txt.slice a lo hi)) else none
def slLS (f g : F) : F := fun env => bnd (f env) fun r e1 => bnd (g e1) fun k e2 => (strR (hold r) e2).bind fun a => (asI (hold k)).bind fun i => (cutS a (some i) none).map fun x => .ok (.val x) e2
def slHS (f g : F) : F := fun env => bnd (f env) fun r e1 => bnd (g e1) fun k e2 => (strR (hold r) e2).bind fun a => (asI (hold k)).bind fun i => (cutS a none (some i)).map fun x => .ok (.val x) e2
theorem de_slLS (ha : DE X Z e f) (hb : DE X Z e2 g) : DE X Z (.Subscript e (.Slice (some e2) none none p2) pos) (slLS f g) :=
  PEimp (pe_slice C8.sl_txt ha (po_some hb) po_none) fun σ H Q q => by
    obtain ⟨W, env, A, q⟩ := q
    refine tE_mono (fun x H1 t => ?_) (stepE A q)
    obtain ⟨p, env1, s1, A1, l1, q⟩ := t
    refine tE_mono (fun y H2 t => ?_) (stepE A1 q)
    obtain ⟨a, env2, s2, A2, l2, q⟩ := t
    cases z : strR (hold p) env2 with
    | none => rw [z] at q; exact q.elim
    | some za =>
      rw [z, Option.bind_some] at q
      cases i1 : asI (hold a) with
      | none => rw [i1] at q; exact q.elim
      | some i =>
        rw [i1, Option.bind_some] at q
        unfold cutS at q
        by_cases c : za.length ≤ sizeLine
        · rw [if_pos c] at q
          exact ⟨i, asI_ok i1 l2, za, strR_ok A2 (l1.keep A1 s2) z, c, pend_val (d := .str _) A2 rfl q⟩
        · rw [if_neg c] at q; exact q.elim
theorem de_slHS (ha : DE X Z e f) (hb : DE X Z e2 g) : DE X Z (.Subscript e (.Slice none (some e2) none p2) pos) (slHS f g) :=
  PEimp (pe_slice C8.sl_txt ha po_none (po_some hb)) fun σ H Q q => by
    obtain ⟨W, env, A, q⟩ := q
    refine tE_mono (fun x H1 t => ?_) (stepE A q)
    obtain ⟨p, env1, s1, A1, l1, q⟩ := t
    refine tE_mono (fun y H2 t => ?_) (stepE A1 q)
    obtain ⟨a, env2, s2, A2, l2, q⟩ := t
    cases z : strR (hold p) env2 with
    | none => rw [z] at q; exact q.elim
    | some za =>
      rw [z, Option.bind_some] at q
      cases i1 : asI (hold a) with
      | none => rw [i1] at q; exact q.elim
      | some i =>
        rw [i1, Option.bind_some] at q
        unfold cutS at q
        by_cases c : za.length ≤ sizeLine
        · rw [if_pos c] at q
          exact ⟨i, asI_ok i1 l2, za, strR_ok A2 (l1.keep A1 s2) z, c, pend_val (d := .str _) A2 rfl q⟩
        · rw [if_neg c] at q; exact q.elim
/-! over a text -/
def itS1 (f : F) : FI := fun env => bndI (f env) fun r env => (strR (hold r) env).map fun x => .ok (x.cps.toList.map fun c => .str ⟨#[c]⟩) env
theorem di_str (he : DE X Z e f) : DI X Z tg e (itS1 f) := PIimp (pi_str he) fun σ H R q => by
  obtain ⟨W, env, A, q⟩ := q
  refine tE_mono (fun v H1 t => ?_) (stepI A q)
  obtain ⟨r, env1, s1, A1, l1, p⟩ := t
  cases z : strR (hold r) env1 with
  | none => rw [z] at p; exact p.elim
  | some x =>
    rw [z] at p
    refine ⟨x, strR_ok A1 l1 z, p _ _ .refl A1 ⟨fun i H' hi k => ?_, fun H' k => ?_, fun i H' y H2 d hd k yl => ?_⟩⟩
    · rw [List.length_map, Array.length_toList] at hi
      exact hi
    · show x.cps.size ≤ _
      rw [List.length_map, Array.length_toList]
      exact Nat.le_refl _
    · obtain ⟨e1, c, hc, e2⟩ := yl
      subst e1 e2
      rw [List.getElem?_map, Array.getElem?_toList, hc] at hd
      cases hd
      exact ⟨fun _ _ h => h, fun _ h => h, fun Wk hw => rfl⟩
end
end DL

set_option Elab.async false
set_option linter.all false
set_option maxRecDepth 100000
set_option maxHeartbeats 1000000
/-! wide products, divmod, dicts of ints to ints -/
namespace DL
open PySem PySem.Spec PyProof.Rows L2
/-! ### wide -/
def mulW (i j : Int) : Bool := decide (i.natAbs.log2 + j.natAbs.log2 < 1000000)
def dMulW := dI mulW fun i j => .int (i * j)
def divW (_ j : Int) : Bool := decide (0 < j) && decide (j.natAbs.log2 < 9000)
def dDivW := dI divW fun i j => .int (i / j)
theorem od_mulW {K : PySem.W.Frag} : OpD K (rI CMulW fun i j => .int (i * j)) (o2 dMulW) := opII (fun i j h => by
  have h : decide (i.natAbs.log2 + j.natAbs.log2 < 1000000) = true := h
  have h2 : i.natAbs.log2 + j.natAbs.log2 < 1000000 := of_decide_eq_true h
  exact h2) fun _ _ => rfl
theorem od_divW {K : PySem.W.Frag} : OpD K (rI CDivW fun i j => .int (i / j)) (o2 dDivW) := opII (fun _ j h => by
  obtain ⟨a, b⟩ := Bool.and_eq_true_iff.mp h
  have a : 0 < j := of_decide_eq_true a
  have b : j.natAbs.log2 < 9000 := of_decide_eq_true b
  exact ⟨a, b⟩) fun _ _ => rfl
section
variable {X : Cx} {Z : Wsh} {e e2 o tg : Expr} {f g h : F} {pos apos cpos p2 : Pos} {i : Nat}
theorem de_mulW (ha : DE X Z e f) (hb : DE X Z e2 g) : DE X Z (.BinOp e .Mult e2 pos) (ap2 f g (o2 dMulW)) := de_bin op_mulW od_mulW ha hb
theorem de_divW (ha : DE X Z e f) (hb : DE X Z e2 g) : DE X Z (.BinOp e .FloorDiv e2 pos) (ap2 f g (o2 dDivW)) := de_bin op_fdivW od_divW ha hb
end
/-! ### divmod -/
def dmC (j : Int) : Bool := decide (0 < j) && decide (j < 1073741824)
def divmodO (d e : D) (env : Nv) : Option Out := match d, e with
  | .int i, .int j => if dmC j = true then some (.ok (.val (.tup [.int (i / j), .int (i % j)])) env) else none
  | _, _ => none
theorem cd_divmod {K : PySem.W.Frag} : CallD K (fun xs H Q => ∃ i j, xs = [.int i, .int j] ∧ CDiv i j ∧ ∀ p, H p = none → Q (.ref p) (upd H p (.tup [.int (i / j), .int (i % j)]))) (c2g divmodO) := callG2 fun {W Z env σ H Q x y d e} A t1 t2 P => by
  unfold divmodO at P
  split at P
  · rename_i i j
    have t1 : x = .int i := t1
    have t2 : y = .int j := t2
    by_cases c : dmC j = true
    · rw [if_pos c] at P
      obtain ⟨c1, c2⟩ := Bool.and_eq_true_iff.mp c
      refine ⟨i, j, by rw [t1, t2], ⟨of_decide_eq_true c1, of_decide_eq_true c2⟩, fun p hp => pend_tup A hp ?_ ?_ P⟩
      · show 2 ≤ sizeLine; decide
      · exact ⟨_, _, rfl, rfl, _, _, rfl, rfl, rfl⟩
    · rw [if_neg c] at P; exact P.elim
  · exact P.elim
/-! ### dicts of ints to ints -/
abbrev KvI2 := List (Int × Int)
def atI2 (kvs : KvI2) (k : Int) : Option Int := (kvs.find? fun p => decide (p.1 = k)).map (·.2)
def putI2 (kvs : KvI2) (k n : Int) : KvI2 := if kvs.any (fun p => decide (p.1 = k)) = true then kvs.map (fun p => if p.1 = k then (p.1, n) else p) else kvs ++ [(k, n)]
theorem enc_at (k : Int) : ∀ kvs : KvI2, valV (encI2 kvs) (Sum.inl k : Key) = (atI2 kvs k).map V.int
  | [] => rfl
  | (j, n) :: kvs => by
    have ih := enc_at k kvs
    show valV ((Sum.inl j, V.int n) :: encI2 kvs) _ = _
    by_cases h : j = k
    · subst h
      rw [valV_pos rfl]
      unfold atI2
      rw [List.find?_cons_of_pos (by simp)]
      rfl
    · rw [valV_neg (fun e => h (by injection e)), ih]
      unfold atI2
      rw [List.find?_cons_of_neg (by simpa using h)]
theorem enc_any (k : Int) : ∀ kvs : KvI2, ((encI2 kvs).any fun kv => decide (kv.1 = (Sum.inl k : Key))) = kvs.any fun p => decide (p.1 = k)
  | [] => rfl
  | (j, n) :: kvs => by
    show (decide ((Sum.inl j : Key) = Sum.inl k) || (encI2 kvs).any _) = _
    rw [enc_any k kvs, List.any_cons]
    by_cases h : j = k
    · subst h; simp
    · rw [decide_eq_false (show ¬ (Sum.inl j : Key) = Sum.inl k from fun e => h (by injection e))]
      simp [h]
theorem enc_put (kvs : KvI2) (k n : Int) : putK (encI2 kvs) (Sum.inl k : Key) (V.int n) = encI2 (putI2 kvs k n) := by
  unfold putK putI2
  rw [enc_any]
  by_cases c : (kvs.any fun p => decide (p.1 = k)) = true
  · rw [if_pos c, if_pos c]
    unfold encI2
    rw [List.map_map, List.map_map]
    apply List.map_congr_left
    rintro ⟨j, m⟩ _
    show (if (Sum.inl j : Key) = Sum.inl k then ((Sum.inl j : Key), V.int n) else (Sum.inl j, V.int m)) = ((Sum.inl (if j = k then (j, n) else (j, m)).1 : Key), V.int (if j = k then (j, n) else (j, m)).2)
    by_cases h : j = k
    · rw [if_pos h, if_pos (by rw [h])]
    · rw [if_neg h, if_neg (fun e => h (by injection e))]
  · rw [if_neg c, if_neg c]
    unfold encI2
    rw [List.map_append]
    rfl
theorem putI2_len (kvs : KvI2) (k n : Int) : (putI2 kvs k n).length ≤ kvs.length + 1 := by
  unfold putI2
  split
  · rw [List.length_map]; omega
  · rw [List.length_append]; exact Nat.le_refl _
theorem enc_len (kvs : KvI2) : (encI2 kvs).length = kvs.length := List.length_map ..
theorem pend_dci {K : PySem.W.Frag} {W : Fb} {Z : Wsh} {env : Nv} {σ : St} {H : Hp} {Q : VK} {kvs : KvI2} {p : Addr} (A : AS K W env σ H) (hp : H p = none) (hl : kvs.length ≤ sizeLine) (h : Pend K W Z env σ H Q (some (.ok (.frs (.dci kvs)) env))) : Q (.ref p) (upd H p (.dK (encI2 kvs))) := by
  have nall := A.none_not hp
  exact h _ _ (.new hp) ⟨p, rfl, hp, fun z => nall (.inl z), fun z => nall (.inr z), A.forbid hp trivial, ⟨upd_same, hl⟩⟩
def mkI0 : F := fun env => some (.ok (.frs (.dci [])) env)
theorem de_dci0 {X : Cx} {Z : Wsh} {pos : Pos} : DE X Z (.Dict [] [] pos) mkI0 := PEimp pe_dnewK fun σ H Q q => by
  obtain ⟨W, env, A, q⟩ := q
  exact fun p hp => pend_dci (kvs := []) A hp (Nat.zero_le _) q
def dciOf (r : R) (env : Nv) : Option KvI2 := match pk r env with
  | some (.dci kvs) => some kvs
  | some (.dcf kvs) => some kvs
  | _ => none
theorem dciOf_ok {K : PySem.W.Frag} {W : Fb} {env : Nv} {σ : St} {H : Hp} {r : R} {v : V} {kvs : KvI2} (A : AS K W env σ H) (l : RL K W env σ H r v) (e : dciOf r env = some kvs) : ∃ a, v = .ref a ∧ Rd H a (.dK (encI2 kvs)) ∧ kvs.length ≤ sizeLine := by
  unfold dciOf at e
  split at e
  · rename_i k q
    cases e
    exact pk_top A l q
  · rename_i k q
    cases e
    obtain ⟨a, o, e, n, s, z⟩ := pk_top A l q
    exact ⟨a, e, .inr ⟨o, s⟩, z⟩
  · cases e
/-- d.get(k, x) -/
def getI (f g h : F) : F := fun env => bnd (f env) fun r e1 => match dciOf (hold r) e1 with
  | none => none
  | some _ => bnd (g e1) fun k e2 => bnd (h e2) fun x e3 => match dciOf (hold r) e3, asI (hold k), asI (hold x) with
    | some kvs, some i, some n => some (.ok (.val (.int ((atI2 kvs i).getD n))) e3)
    | _, _, _ => none
/-- d[k] -/
def gitI (f g : F) : F := fun env => bnd (f env) fun r e1 => bnd (g e1) fun k e2 => match dciOf (hold r) e2, asI (hold k) with
  | some kvs, some i => match atI2 kvs i with
    | some n => some (.ok (.val (.int n)) e2)
    | none => none
  | _, _ => none
section
variable {X : Cx} {Z : Wsh} {o e e2 : Expr} {f g h : F} {pos apos cpos : Pos} {i : Nat}
theorem de_igit (hu : X.A.units + 1 < cLine) (ho : DE X Z o f) (he : DE X Z e g) (hs : NoSl e := by intro _ _; rfl) : DE X Z (.Subscript o e pos) (gitI f g) :=
  PEimp (pe_dget hu ho he hs) fun σ H Q q => by
    obtain ⟨W, env, A, q⟩ := q
    refine tE_mono (fun v H1 t => ?_) (stepE A q)
    obtain ⟨r, env1, s1, A1, l1, P⟩ := t
    refine tE_mono (fun y H2 t => ?_) (stepE A1 P)
    obtain ⟨k, env2, s2, A2, l2, P⟩ := t
    have l1' := l1.keep A1 s2
    split at P
    · rename_i kvs i z1 z2
      obtain ⟨a, rfl, hr, hl⟩ := dciOf_ok A2 l1' z1
      have hy : y = .int i := asI_ok z2 l2
      subst hy
      cases z3 : atI2 kvs i with
      | none => simp only [z3] at P; exact P.elim
      | some n =>
        simp only [z3] at P
        exact ⟨a, .int n, rfl, .inl ⟨encI2 kvs, Sum.inl i, hr, rfl, by rw [enc_at, z3]; rfl⟩, P (.int n) H2 .refl ⟨A2, rfl⟩⟩
    · exact P.elim
theorem de_iget (hu : X.A.units + 1 < cLine) (ho : DE X Z o f) (he : DE X Z e g) (he2 : DE X Z e2 h) (m : M2 X o "get" apos e e2 cpos := by exact ⟨rfl, rfl, rfl, rfl⟩) : DE X Z (.Call (.Attribute o "get" apos) [e, e2] [] cpos) (getI f g h) :=
  PEimp (pe_dget2 hu ho he he2 m) fun σ H Q q => by
    obtain ⟨W, env, A, q⟩ := q
    refine tE_mono (fun v H1 t => ?_) (stepE A q)
    obtain ⟨r, env1, s1, A1, l1, P⟩ := t
    cases z : dciOf (hold r) env1 with
    | none => rw [z] at P; exact P.elim
    | some k0 =>
      simp only [z] at P
      obtain ⟨a, rfl, hr0, _⟩ := dciOf_ok A1 l1 z
      refine ⟨a, rfl, .inl ⟨_, hr0⟩, ?_⟩
      refine tE_mono (fun y H2 t => ?_) (stepE A1 P)
      obtain ⟨k, env2, s2, A2, l2, P⟩ := t
      refine tE_mono (fun x H3 t => ?_) (stepE A2 P)
      obtain ⟨xr, env3, s3, A3, l3, P⟩ := t
      have l1' := (l1.keep A1 s2).keep A2 s3
      have l2' := l2.keep A2 s3
      split at P
      · rename_i kvs i n z1 z2 z3
        obtain ⟨a', ea, hr, hl⟩ := dciOf_ok A3 l1' z1
        cases ea
        have hy : y = .int i := asI_ok z2 l2
        have hx : x = .int n := asI_ok z3 l3
        subst hy hx
        refine ⟨valV (encI2 kvs) (Sum.inl i : Key), .inl ⟨encI2 kvs, Sum.inl i, hr, rfl, rfl⟩, ?_⟩
        rw [enc_at]
        cases z4 : atI2 kvs i with
        | none => rw [z4] at P; exact P (.int n) H3 .refl ⟨A3, rfl⟩
        | some m => rw [z4] at P; exact P (.int m) H3 .refl ⟨A3, rfl⟩
      · exact P.elim
theorem own_dci {K : PySem.W.Frag} {W : Fb} {env : Nv} {σ : St} {H : Hp} {b : Bool} {kvs : KvI2} (A : AS K W env σ H) (h : env[i]? = some (some (Sl.own b (.dci kvs)))) : ∃ a, σ[i]? = some (some (V.ref a)) ∧ H a = some (.dK (encI2 kvs)) ∧ kvs.length ≤ sizeLine := by
  obtain ⟨a, h1, ⟨h2, h3⟩, _⟩ := A.own i b _ h
  exact ⟨a, h1, h2, h3⟩
/-- d[k] = x: d a slot of one's own -/
def putI (i : Nat) (h g : F) : G := fun env => bndS (h env) fun x e1 => match e1[i]? with
  | some (some (.own _ (.dci _))) => bndS (g e1) fun k e2 => match asI (hold k), asI (hold x), e2[i]? with
    | some j, some n, some (some (.own b (.dci kvs))) => if kvs.length < sizeLine then some (.nx (e2.set i (some (.own b (.dci (putI2 kvs j n)))))) else none
    | _, _, _ => none
  | _ => none
theorem ds_iput (hu : X.A.units + 1 < cLine) {value : Expr} {pos' : Pos} (p : PE X o (tVar i)) (hi : DE X Z e g) (hv : DE X Z value h) (hs : swapsWith value (some (.Subscript o e pos')) pos.line X.env = pure false := by rfl) :
    DS X Z (.Assign [.Subscript o e pos'] value pos) (putI i h g) :=
  PSimp (ps_dput hu p hi hv hs) fun E σ H q => by
    obtain ⟨W, env, A, q⟩ := q
    refine tE_mono (fun v H1 t => ?_) (stepS A q)
    obtain ⟨x, env1, s1, r1, P⟩ := t
    have A1 := r1.as
    have l1 := r1.rl
    have P := P.shift s1
    split at P
    · rename_i b0 kv0 h0
      obtain ⟨a, ha, _⟩ := own_dci A1 h0
      refine ⟨.ref a, ha, ?_⟩
      refine tE_mono (fun y H2 t => ?_) (stepS A1 P)
      obtain ⟨k, env2, s2, r2, P⟩ := t
      have A2 := r2.as
      have l2 := r2.rl
      have P := P.shift s2
      split at P
      · rename_i j n b' kvs z1 z2 h'
        have hy : y = .int j := asI_ok z1 l2
        have hx : v = .int n := asI_ok z2 l1
        subst hy hx
        by_cases c : kvs.length < sizeLine
        · rw [if_pos c] at P
          obtain ⟨a', g1, g2, g3⟩ := own_dci A2 h'
          rw [ha] at g1; cases g1
          refine ⟨a, _, rfl, .inl ⟨encI2 kvs, Sum.inl j, g2, rfl, by rw [enc_len]; exact c, rfl⟩, ?_⟩
          rw [enc_put]
          obtain ⟨k1, k2⟩ := upd_keep (v := .dK (encI2 (putI2 kvs j n))) g2
          have pl := putI2_len kvs j n
          obtain ⟨A4, s4⟩ := A2.write (d' := .dci (putI2 kvs j n)) h' ha k1 k2 ⟨upd_same, by omega⟩
          exact P _ _ s4 A4
        · rw [if_neg c] at P; exact P.elim
      · exact P.elim
    · exact P.elim
end
/-! {k: n for ..} -/
def lfI (f g : F) : Lf := fun env acc => match acc with
  | .dci kvs => match f env with
    | some (.ok r e1) => match asI (hold r) with
      | some k => match g e1 with
        | some (.ok q e3) => match asI (hold q) with
          | some n => if kvs.length < sizeLine then some (e3, .dci (putI2 kvs k n)) else none
          | none => none
        | _ => none
      | none => none
    | _ => none
  | _ => none
section
variable {X : Cx} {scope : Scope} {Z : Wsh} {e k v : Expr} {f g : F}
theorem new_dictI : NewOk X (.dct k v) .h (fun _ => .dK []) (.dci []) := by
  refine ⟨fun _ => trivial, fun D H U h => ⟨h, Nat.zero_le _⟩, fun pins σ H s I q => ?_⟩
  refine wpAny_newObj_type (M := model X.prog X.w) (T := "dict") (data := .dict #[]) (dict := none) (q _ ?_ ⟨_, rfl⟩)
  exact L2.Inv.laid (t' := s.toks) I (fun b o e => Heap.get?_push_of_some _ e) (Nat.le_refl _) (dk_empty s.heap (L2.Inv.big I))
theorem lf_dictI (h : ∀ B, IsBlk X scope B → DE B Z k f) (h2 : ∀ B, IsBlk X scope B → DE B Z v g) : LfOk X scope (.dct k v) .h (lfI f g) := by
  intro B pins s W D env env' σ H acc acc' hB I A ac wD nO q
  have pe := h B hB
  have pe2 := h2 B hB
  obtain ⟨s0, H0, C, cl, fp, rfl⟩ := hB
  unfold lfI at q
  split at q
  · rename_i kvs
    cases z : f env with
    | none => simp only [z] at q; cases q
    | some o =>
      cases o with
      | exc x e1 => simp only [z] at q; cases q
      | ok r e1 =>
        simp only [z] at q
        cases z3 : asI (hold r) with
        | none => simp only [z3] at q; cases q
        | some ki =>
          simp only [z3] at q
          cases z4 : g e1 with
          | none => simp only [z4] at q; cases q
          | some o2 =>
            cases o2 with
            | exc x e3 => simp only [z4] at q; cases q
            | ok r2 e3 =>
              simp only [z4] at q
              cases z5 : asI (hold r2) with
              | none => simp only [z5] at q; cases q
              | some n =>
                simp only [z5] at q
                by_cases c : kvs.length < sizeLine
                rotate_left
                · rw [if_neg c] at q; cases q
                rw [if_pos c] at q
                cases q
                have P : tE X.K Z f σ H (fun v H1 => Stp env σ H e1 σ H1 ∧ Res X.K W H e1 σ H1 r v) := ⟨W, env, A, by rw [z]; exact fun v H1 s1 r1 => ⟨s1, r1⟩⟩
                show wpAny _ _ (do
                  let kv ← eval k _
                  let vv ← holding [kv] (eval v _)
                  standAt _
                  holding [kv, vv] (dictSet D kv vv)) _ _ s
                refine wpAny_bind (thnF (pe.run pins s σ H _ I P) fun u s1 ⟨y, H1, I1, ry, st1, rs⟩ => ?_)
                have hy : y = .int ki := asI_ok z3 rs.rl
                subst hy
                have P2 : tE X.K Z g σ H1 (fun v H2 => Stp e1 σ H1 env' σ H2 ∧ Res X.K W H1 env' σ H2 r2 v) := ⟨W, e1, rs.as, by rw [z4]; exact fun v H1 s1 r1 => ⟨s1, r1⟩⟩
                refine wpAny_bind (wpAny_holding (thnF (pe2.run pins s1 σ H1 _ I1 P2) fun u2 s2 ⟨y2, H2, I2, ry2, st3, rs2⟩ => ?_))
                have hy2 : y2 = .int n := asI_ok z5 rs2.rl
                subst hy2
                have sAll := st1.trans st3
                obtain ⟨ac2, nO2⟩ := acc_step A sAll nO ac
                obtain ⟨hD2, hl⟩ := (show Hold X.K H2 (All W env' σ) D (.dci kvs) from ac2)
                refine wpAny_bind (wpAny_standAt (wpAny_holding ?_))
                refine d_dictSet (X := X.blk s0 H0 scope (compEnvC scope cl C X.env) fp) (k := Sum.inl ki) I2 hD2 (by rw [enc_len]; exact c) ry ry2 fun s3 I3 => ?_
                rw [enc_put] at I3
                have m' : Mut (some (HO.dK (encI2 (putI2 kvs ki n)))) := trivial
                have pl := putI2_len kvs ki n
                refine ⟨_, I3, rs2.as.writeW wD nO2 hD2 m', ⟨upd_same, by omega⟩, fun a o na ha nb => ?_, fun a z => sAll.own a z, fun a z => sAll.there a ((upd_keep hD2).2 a z)⟩
                rw [upd_ne na]; exact sAll.keep a o ha nb
  · cases q
end
end DL

set_option Elab.async false
set_option linter.all false
set_option maxRecDepth 100000
set_option maxHeartbeats 1000000
/-! a dict of ints to ints of one's own is walked: it is lent to an expression whose answer leads to no list -/
namespace DL
open PySem PySem.Spec PyProof.Rows L2
section
variable {K : PySem.W.Frag} {H H' : Hp} {W W' : Fb}
mutual
theorem Rep.pureH (t : ∀ x xs, H x = some (.tup xs) → H' x = some (.tup xs)) : ∀ (d : DL.D) (v : V), isPure d = true → Rep K H W d v → Rep K H' W' d v
  | .non, v, _, r => r
  | .bl b, v, _, r => r
  | .int i, v, _, r => r
  | .str x, v, _, r => r
  | .tup ds, v, p, r => by
    obtain ⟨a, xs, e, s, z, q⟩ := r
    exact ⟨a, xs, e, t _ _ s, z, Reps.pureH t ds xs p q⟩
  | .lst ds, v, p, r => by cases p
  | .dct kvs, v, p, r => by cases p
  | .scr ns, v, p, r => by cases p
  | .rng lo hi, v, p, r => by cases p
  | .stt ns, v, p, r => by cases p
  | .dci ns, v, p, r => by cases p
  | .dcf ns, v, p, r => by cases p
theorem Reps.pureH (t : ∀ x xs, H x = some (.tup xs) → H' x = some (.tup xs)) : ∀ (ds : List DL.D) (xs : List V), arePure ds = true → Reps K H W ds xs → Reps K H' W' ds xs
  | [], xs, _, r => r
  | d :: ds, xs, p, r => by
    obtain ⟨v, vs, e, q1, q2⟩ := r
    obtain ⟨p1, p2⟩ := Bool.and_eq_true_iff.mp p
    exact ⟨v, vs, e, Rep.pureH t d v p1 q1, Reps.pureH t ds vs p2 q2⟩
end
end
/-- may stand beside a dict that is lent -/
def slOk : Option Sl → Bool
  | some (.own _ d) => match d with
    | .lst ds => arePure ds
    | .dci _ => true
    | _ => false
  | some (.lck _) => false
  | some (.exn _ _ _) => false
  | _ => true
def envOk (env : Nv) : Bool := env.all slOk
open Classical in
noncomputable def lockI (i : Nat) (f : F) : F := fun env => match env[i]? with
  | some (some (.own false (.dci kvs))) => if envOk env = true then match f (env.set i (some (.val (.dcf kvs)))) with
    | some (.ok r e2) => if e2 = env.set i (some (.val (.dcf kvs))) then match r with
      | .val d => if isPure d = true then some (.ok (.val d) env) else none
      | .frs (.lst ds) => if arePure ds = true then some (.ok (.frs (.lst ds)) env) else none
      | _ => none
      else none
    | _ => none
    else none
  | _ => none
section
variable {K : PySem.W.Frag} {W : Fb} {env : Nv} {σ : St} {H H2 : Hp} {i : Nat} {a : Addr} {kvs : KvI2}
theorem own_less (h : env[i]? = some (some (Sl.own false (.dci kvs)))) {x : Addr} (z : Own (env.set i (some (.val (.dcf kvs)))) σ x) : Own env σ x := own_set (fun _ _ q => by cases q) z
theorem AS.lendI (A : AS K W env σ H) (h : env[i]? = some (some (Sl.own false (.dci kvs)))) (ok : envOk env = true) (ha : σ[i]? = some (some (V.ref a))) (hd : H a = some (.dK (encI2 kvs))) (hl : kvs.length ≤ sizeLine) (od : Obj) :
    AS K W (env.set i (some (.val (.dcf kvs)))) σ (upd H a (.frz od (.dK (encI2 kvs)))) := by
  have hi : i < env.length := (List.getElem?_eq_some_iff.mp h).1
  have oa : Own env σ a := ⟨i, _, _, h, ha⟩
  have nW : ¬ W a := fun w => by
    obtain ⟨b, q1, _, q3⟩ := A.own i _ _ h
    rw [ha] at q1; cases q1
    have := q3.mpr w
    cases this
  have nO : ¬ Own (env.set i (some (.val (.dcf kvs)))) σ a := fun ⟨j, b, d, e1, e2⟩ => by
    by_cases hj : i = j
    · subst hj
      rw [List.getElem?_set_self hi] at e1; cases e1
    · rw [List.getElem?_set_ne hj] at e1
      exact hj (A.dis i j _ _ _ _ a h e1 ha e2)
  have al : ∀ b, All W (env.set i (some (.val (.dcf kvs)))) σ b → All W env σ b := fun b z => z.imp id (own_less h)
  have kp : Kp (fun x => x = a) H (upd H a (.frz od (.dK (encI2 kvs)))) := ⟨fun x e => by rw [e, hd]; trivial, fun x u e n => by rw [upd_ne n]; exact e⟩
  have hm : ∀ x, x = a → All W env σ x := fun x e => by rw [e]; exact .inr oa
  refine ⟨by rw [List.length_set]; exact A.len, fun j d h1 => ?_, fun j c d h1 => ?_, fun j k b c d e a' h1 h2 h3 h4 => ?_, fun x w => ?_, fun j k h1 => ?_, fun j x dd fs h1 => ?_⟩
  · by_cases hj : i = j
    · subst hj
      rw [List.getElem?_set_self hi] at h1; cases h1
      exact ⟨_, ha, a, od, rfl, fun z => z.elim nW nO, upd_same, hl⟩
    · rw [List.getElem?_set_ne hj] at h1
      obtain ⟨v, q1, q2⟩ := A.val j d h1
      exact ⟨v, q1, (Rep.keep kp hm d v q2).anti al⟩
  · by_cases hj : i = j
    · subst hj
      rw [List.getElem?_set_self hi] at h1; cases h1
    · rw [List.getElem?_set_ne hj] at h1
      obtain ⟨b, q1, q2, q3⟩ := A.own j c d h1
      have ne : b ≠ a := fun e => by
        subst e
        exact hj (A.dis i j _ _ _ _ b h h1 ha q1)
      exact ⟨b, q1, (q2.keep kp hm (upd_ne ne)).anti al, q3⟩
  · have hj : i ≠ j := fun z => by subst z; rw [List.getElem?_set_self hi] at h1; cases h1
    have hk : i ≠ k := fun z => by subst z; rw [List.getElem?_set_self hi] at h2; cases h2
    rw [List.getElem?_set_ne hj] at h1
    rw [List.getElem?_set_ne hk] at h2
    exact A.dis j k _ _ _ _ a' h1 h2 h3 h4
  · have ne : x ≠ a := fun e => nW (by rw [← e]; exact w)
    rw [upd_ne ne]; exact A.trk x w
  · by_cases hj : i = j
    · subst hj
      rw [List.getElem?_set_self hi] at h1; cases h1
    · rw [List.getElem?_set_ne hj] at h1
      have := List.all_eq_true.mp ok _ (List.mem_of_getElem? h1)
      cases this
  · by_cases hj : i = j
    · subst hj
      rw [List.getElem?_set_self hi] at h1; cases h1
    · rw [List.getElem?_set_ne hj] at h1
      have := List.all_eq_true.mp ok _ (List.mem_of_getElem? h1)
      cases this
/-- .. and comes back -/
theorem AS.backI {Wp : Fb} (A : AS K W env σ H) (h : env[i]? = some (some (Sl.own false (.dci kvs)))) (ok : envOk env = true) (ha : σ[i]? = some (some (V.ref a))) (hd : H a = some (.dK (encI2 kvs))) (hl : kvs.length ≤ sizeLine) {od : Obj}
    (hp : ∀ x, Wp x → W x ∨ H x = none) (hp2 : ∀ x, W x → Wp x)
    (A2 : AS K Wp (env.set i (some (.val (.dcf kvs)))) σ H2) (st : Stp (env.set i (some (.val (.dcf kvs)))) σ (upd H a (.frz od (.dK (encI2 kvs)))) (env.set i (some (.val (.dcf kvs)))) σ H2) :
    AS K Wp env σ (upd H2 a (.dK (encI2 kvs))) := by
  have hi : i < env.length := (List.getElem?_eq_some_iff.mp h).1
  have oa : Own env σ a := ⟨i, _, _, h, ha⟩
  have nW : ¬ Wp a := fun w => (hp a w).elim (fun w => by
    obtain ⟨b, q1, _, q3⟩ := A.own i _ _ h
    rw [ha] at q1; cases q1
    have := q3.mpr w
    cases this) fun q => by rw [hd] at q; cases q
  have kp : Kp (fun x => Own env σ x) H (upd H2 a (.dK (encI2 kvs))) := ⟨fun x z => (A.kp Stp.refl).mt x z, fun x u e n => by
    have ne : x ≠ a := fun e => n (by rw [e]; exact oa)
    rw [upd_ne ne]
    exact st.keep x u (by rw [upd_ne ne]; exact e) fun z => n (own_less h z)⟩
  have alp : ∀ x, All Wp env σ x → All W env σ x ∨ H x = none := fun x z => by
    rcases z with z | z
    · exact (hp x z).imp .inl id
    · exact .inl (.inr z)
  refine ⟨A.len, fun j d h1 => ?_, fun j c d h1 => ?_, A.dis, fun x w => ?_, fun j k h1 => ?_, fun j x dd fs h1 => ?_⟩
  · obtain ⟨v, q1, q2⟩ := A.val j d h1
    refine ⟨v, q1, ?_⟩
    have q3 : Rep K H (fun x => All Wp env σ x ∨ All W env σ x) d v := Rep.anti2 (fun x z => z.elim (alp x) .inl) d v q2
    exact (Rep.keep kp (fun x z => .inr (.inr z)) d v q3).anti fun x z => .inl z
  · by_cases hj : i = j
    · subst hj
      rw [h] at h1; cases h1
      refine ⟨a, ha, ⟨upd_same, hl⟩, fun z => (by cases z), fun w => absurd w nW⟩
    · have h1' : (env.set i (some (.val (.dcf kvs))))[j]? = some (some (.own c d)) := by rw [List.getElem?_set_ne hj]; exact h1
      obtain ⟨b, q1, q2, q3⟩ := A2.own j c d h1'
      have ne : b ≠ a := fun e => by
        subst e
        exact hj (A.dis i j _ _ _ _ b h h1 ha q1)
      have eb : upd H2 a (.dK (encI2 kvs)) b = H2 b := upd_ne ne
      refine ⟨b, q1, ?_, q3⟩
      have so := List.all_eq_true.mp ok _ (List.mem_of_getElem? h1)
      cases d with
      | lst ds =>
        obtain ⟨xs, e1, e2, e3⟩ := q2
        refine ⟨xs, eb.trans e1, e2, Reps.pureH (fun x xs e => ?_) ds xs so e3⟩
        have nx : x ≠ a := fun z => by
          have := st.keep a _ upd_same fun ⟨j', b', d', e1, e2⟩ => by
            by_cases hj : i = j'
            · subst hj
              rw [List.getElem?_set_self hi] at e1; cases e1
            · rw [List.getElem?_set_ne hj] at e1
              exact hj (A.dis i j' _ _ _ _ a h e1 ha e2)
          rw [z, this] at e; cases e
        rw [upd_ne nx]; exact e
      | dci k2 => exact ⟨eb.trans q2.1, q2.2⟩
      | dct k2 => cases so
      | _ => exact q2.elim
  · have ne : x ≠ a := fun e => nW (by rw [← e]; exact w)
    rw [upd_ne ne]; exact A2.trk x w
  · have := List.all_eq_true.mp ok _ (List.mem_of_getElem? h1)
    cases this
  · have := List.all_eq_true.mp ok _ (List.mem_of_getElem? h1)
    cases this
end
theorem lockI_te {K : PySem.W.Frag} {Z : Wsh} {f : F} {i : Nat} {σ : St} {H : Hp} {Q : VK} (q : tE K Z (lockI i f) σ H Q) : tLockE (tE K Z f) σ H Q := by
  obtain ⟨W, env, A, P⟩ := q
  unfold lockI at P
  split at P
  · rename_i kvs z1
    by_cases ok : envOk env = true
    rotate_left
    · rw [if_neg ok] at P; exact P.elim
    rw [if_pos ok] at P
    split at P
    · rename_i r e2 z2
      by_cases ee : e2 = env.set i (some (.val (.dcf kvs)))
      rotate_left
      · rw [if_neg ee] at P; exact P.elim
      rw [if_pos ee] at P
      subst ee
      obtain ⟨a, ha, hd, hl⟩ := own_dci A z1
      have hi : i < env.length := (List.getElem?_eq_some_iff.mp z1).1
      have oa : Own env σ a := ⟨i, _, _, z1, ha⟩
      refine ⟨a, .dK (encI2 kvs), hd, trivial, fun od => ?_⟩
      have A0 := A.lendI z1 ok ha hd hl od
      refine ⟨W, _, A0, ?_⟩
      rw [z2]
      have nO : ¬ Own (env.set i (some (.val (.dcf kvs)))) σ a := fun ⟨j, b, d, e1, e2⟩ => by
        by_cases hj : i = j
        · subst hj
          rw [List.getElem?_set_self hi] at e1; cases e1
        · rw [List.getElem?_set_ne hj] at e1
          exact hj (A.dis i j _ _ _ _ a z1 e1 ha e2)
      have stp : ∀ {H2}, Stp (env.set i (some (.val (.dcf kvs)))) σ (upd H a (.frz od (.dK (encI2 kvs)))) (env.set i (some (.val (.dcf kvs)))) σ H2 → Stp env σ H env σ (upd H2 a (.dK (encI2 kvs))) := fun {H2} st => by
        refine ⟨fun x u hu n => ?_, fun x z => .inl z, fun x q => ?_⟩
        · have ne : x ≠ a := fun e => n (by rw [e]; exact oa)
          rw [upd_ne ne]
          exact st.keep x u (by rw [upd_ne ne]; exact hu) fun z => n (own_less z1 z)
        · by_cases ex : x = a
          · subst ex; rw [upd_same] at q; cases q
          · rw [upd_ne ex] at q
            have := st.there x q
            rw [upd_ne ex] at this
            exact this
      intro v H2 st R2
      have hf : H2 a = some (.frz od (.dK (encI2 kvs))) := st.keep a _ upd_same nO
      refine ⟨hf, ?_⟩
      have tt : ∀ x xs, H2 x = some (.tup xs) → upd H2 a (.dK (encI2 kvs)) x = some (.tup xs) := fun x xs e => by
        have ne : x ≠ a := fun z => by rw [z, hf] at e; cases e
        rw [upd_ne ne]; exact e
      match r, R2, P with
      | .val d, R2, P =>
        by_cases pu : isPure d = true
        rotate_left
        · simp only [if_neg pu] at P; exact P.elim
        simp only [if_pos pu] at P
        exact P v _ (stp st) ⟨A.backI z1 ok ha hd hl (fun x w => .inl w) (fun x w => w) R2.1 st, Rep.pureH tt d v pu R2.2⟩
      | .frs (.lst ds), R2, P =>
        by_cases pu : arePure ds = true
        rotate_left
        · simp only [if_neg pu] at P; exact P.elim
        simp only [if_pos pu] at P
        obtain ⟨b, rfl, hb, nWb, nOb, A2, xs, e1, e2, e3⟩ := R2
        have ne : b ≠ a := fun e => by rw [e, upd_same] at hb; cases hb
        rw [upd_ne ne] at hb
        refine P _ _ (stp st) ⟨b, rfl, hb, nWb, fun z => ?_, A.backI z1 ok ha hd hl (fun x w => w.imp id fun e => by rw [e]; exact hb) (fun x w => .inl w) A2 st, ⟨xs, (upd_ne ne).trans e1, e2, Reps.pureH tt ds xs pu e3⟩⟩
        have := (A.kp Stp.refl).mt b z
        rw [hb] at this; exact this
      | .slot _, R2, P => exact P.elim
      | .frs .non, R2, P => exact P.elim
      | .frs (.bl _), R2, P => exact P.elim
      | .frs (.int _), R2, P => exact P.elim
      | .frs (.str _), R2, P => exact P.elim
      | .frs (.tup _), R2, P => exact P.elim
      | .frs (.dct _), R2, P => exact P.elim
      | .frs (.scr _), R2, P => exact P.elim
      | .frs (.rng _ _), R2, P => exact P.elim
      | .frs (.stt _), R2, P => exact P.elim
      | .frs (.dci _), R2, P => exact P.elim
      | .frs (.dcf _), R2, P => exact P.elim
    · exact P.elim
  · exact P.elim
theorem de_lockI {X : Cx} {Z : Wsh} {e : Expr} {f : F} {i : Nat} (h : DE X Z e f) : DE X Z e (lockI i f) := PEimp (pe_lock h) fun σ H Q q => lockI_te q
section
variable {X : Cx} {scope : Scope} {Z Z' : Wsh} {ck : CK} {leaf : Lf} {g : Comprehension} {gs : List Comprehension} {cls : List Cl} {own : List (Str × Nat)} {it : FI} {t : T1} {c : F} {acc0 : DL.D} {o0 : Addr → HO} {pos spos py : Pos}
/-- name = a comprehension on one line, by what the comprehension answers -/
theorem ps_setC {i : Nat} {y : Str} (hc : X.calm = true) (hN : X.N.Nodup) (hy : X.N[i]? = some y) (hyl : X.env.scope.names.lookup y = some .local) (ok : BlkOk X.N X.env.scope scope own) (hi : DI X Z g.target g.iter it) (hg : ClOk X scope Z' (own.map (·.2)) g t c) (hcl : Cls X scope Z' (own.map (·.2)) gs cls) (L : LfOk X scope ck .h leaf) (N : NewOk X ck .h o0 acc0)
    (hsw : swapsWith (mkC ck (g :: gs) scope pos) (some (.Name y py)) spos.line X.env = pure true)
    (hf : ∀ x, foldedSetIterable g.iter X.env x = pure x := by intro _; rfl) : PS X (.Assign [.Name y py] (mkC ck (g :: gs) scope pos) spos) (fun D σ H => tE X.K Z (compG it t c cls (own.map (·.2)) leaf acc0 finF) σ H fun v H1 => D.nx (σ.set i (some v)) H1) := by
  refine ⟨fun pins s σ H D I h => ?_⟩
  have as0 : firstAsync (g :: gs) = false := by
    have := hg.sync
    cases g
    unfold firstAsync
    subst this
    rfl
  obtain ⟨W2, env2, A2, P⟩ := h
  rw [exec_Assign_Name_used _ _ _ _ hsw]
  refine wpAny_bind (wpAny_standAt (wpAny_bind ?_))
  have fi0 : firstIter (g :: gs) X.env = eval g.iter X.env := by cases g; rfl
  rw [use_mkC, as0, fi0]
  refine wpAny_bind (thn (comp_core (Qf := fun _ s' => SP X pins D .next s') hc hN ok hi hf hg hcl L N I A2 P fun L' C s' m H' acc e' I' hn f hD st A' nO nW ac P' => ?_) fun _ s' hq => wpAny_pure (wpAny_pure hq))
  have q : D.nx (σ.set i (some (V.ref L'))) H' := P' _ _ st ⟨L', rfl, hD, nW, nO, A', ac⟩
  show wpAny _ _ (assign (.Name y py) X.env (.ref L')) _ _ _
  refine wpAny_assign_Name (store_ok2 (v := V.ref L') I' hN hy (.inl hyl) rfl (fun s2 I2 ⟨a, sb, ha⟩ => ?_) (.inr hyl))
  obtain ⟨f0, f1, f2, f3, f4, f5⟩ := f
  have haC : C ≠ a := by
    rcases ha with z | z
    · rw [z]; exact f1
    · exact fun e => f4 y a z e.symm
  refine ⟨m, hn.sameBut sb haC, fun h3 sb3 => ?_⟩
  exact ⟨_, H', L2.Inv.turned (t' := s2.toks) I2 (fun b o hb e => (sb3.2 b hb).trans e) f0 f1 f3 f4 f5, q⟩
theorem ds_setCL {i j : Nat} {y : Str} (hc : X.calm = true) (hN : X.N.Nodup) (hy : X.N[i]? = some y) (hyl : X.env.scope.names.lookup y = some .local) (ok : BlkOk X.N X.env.scope scope own) (hi : DI X Z g.target g.iter it) (hg : ClOk X scope Z' (own.map (·.2)) g t c) (hcl : Cls X scope Z' (own.map (·.2)) gs cls) (L : LfOk X scope ck .h leaf) (N : NewOk X ck .h o0 acc0)
    (hsw : swapsWith (mkC ck (g :: gs) scope pos) (some (.Name y py)) spos.line X.env = pure true)
    (hf : ∀ x, foldedSetIterable g.iter X.env x = pure x := by intro _; rfl) : DS X Z (.Assign [.Name y py] (mkC ck (g :: gs) scope pos) spos) (setG i (lockI j (compG it t c cls (own.map (·.2)) leaf acc0 finF))) :=
  PSimp (ps_lock (ps_setC (i := i) hc hN hy hyl ok hi hg hcl L N hsw hf)) fun D σ H h => by
    obtain ⟨W, env, A, q⟩ := h
    have q2 : tE X.K Z (lockI j (compG it t c cls (own.map (·.2)) leaf acc0 finF)) σ H (fun v H1 => D.nx (σ.set i (some v)) H1) := by
      refine tE_mono (fun v H1 t => ?_) (stepS A q)
      obtain ⟨r, env1, s1, r1, p⟩ := t
      cases z : put i r env1 with
      | none => rw [z] at p; exact p.elim
      | some env2 =>
        rw [z] at p
        obtain ⟨A2, s2⟩ := put_ok s1 r1 z
        exact p _ _ s2 A2
    exact lockI_te q2
end
/-! ### its keys -/
def itKi (i : Nat) : FI := fun env => match env[i]? with
  | some (some (.val (.dcf kvs))) => some (.ok (kvs.map fun p => .int p.1) env)
  | _ => none
theorem di_ikeys {X : Cx} {Z : Wsh} {tg e : Expr} {i : Nat} (p : PE X e (tVar i)) : DI X Z tg e (itKi i) := PIimp (pi_keys p) fun σ H R q => by
  obtain ⟨W, env, A, q⟩ := q
  unfold itKi at q
  split at q
  · rename_i kvs z
    obtain ⟨v, hv, a, o, rfl, na, hf, hl⟩ := A.val i _ z
    refine ⟨.ref a, hv, a, o, rfl, .inl ⟨encI2 kvs, hf, q _ _ .refl A ?_⟩⟩
    have kk : ∀ {H'}, Kept (All W env σ) H H' → H' a = some (.frz o (.dK (encI2 kvs))) := fun k => k.1 _ _ hf na
    have lk : (kvs.map fun p => DL.D.int p.1).length = (encI2 kvs).length := by rw [List.length_map, enc_len]
    refine ⟨fun j H' hj k => (walk_keys (kvs := encI2 kvs)).goes j H' (by rw [← lk]; exact hj) (kk k), fun H' k => by rw [lk]; exact (walk_keys (kvs := encI2 kvs)).stops H' (kk k), fun j H' x H2 d hd k y => ?_⟩
    have hj : j < (encI2 kvs).length := by rw [← lk]; exact (List.getElem?_eq_some_iff.mp hd).1
    obtain ⟨rfl, ks, v, e1, rfl⟩ := (walk_keys (kvs := encI2 kvs)).yields j H' x H2 hj (kk k) y
    rw [List.getElem?_map] at hd
    unfold encI2 at e1
    rw [List.getElem?_map] at e1
    cases z2 : kvs[j]? with
    | none => rw [z2] at hd; cases hd
    | some pr =>
      obtain ⟨k0, d0⟩ := pr
      rw [z2] at hd e1
      cases hd
      cases e1
      exact ⟨fun _ _ h => h, fun _ h => h, fun Wk hw => rfl⟩
  · exact q.elim
end DL

set_option Elab.async false
set_option linter.all false
set_option maxRecDepth 100000
set_option maxHeartbeats 4000000
/-! len(set(xs)) for a list of tuples of ints: few of them different, the list of any length -/
namespace DL
open PySem PySem.Spec PyProof.Rows L2
section
variable {P : Program} {w : World} {A : Around} {E : Value → Shared → Prop} {s : Shared}
theorem few_keys {L : List (Addr × List Int)} {ks : List (Addr × List Int)} {i m : Nat} {D : List (List Int)} (nd : (L.map (·.2)).Nodup) (g : Got ks i L) (hD : ∀ p ∈ ks, p.2 ∈ D) (hm : D.length = m) : L.length ≤ m := by
  rw [← hm, ← List.length_map (f := (·.2)) (as := L)]
  refine List.Nodup.length_le_of_subset nd fun x hx => ?_
  obtain ⟨p, hp, rfl⟩ := List.mem_map.mp hx
  exact hD p (List.mem_of_mem_take (g.sub p hp))
/-- the walk of set.update, as long as few keys are different -/
theorem upd_tups_few {I : Addr} {fp wr : List Addr} {G : Array GenState → Array GenState → Prop} {n : Nat} {Pv : Nat → Value → Prop} {St : Nat → Shared → Prop} {R : Result → Shared → Prop}
    (W : WalksS P w A.in1 I fp wr G n Pv St) (S : Addr) (hSf : S ∉ fp) (ks : List (Addr × List Int)) (hn : n = ks.length) (D : List (List Int)) (hD : ∀ p ∈ ks, p.2 ∈ D) (hfew : D.length < 63)
    (hval : ∀ i v, Pv i v → ∃ p, ks[i]? = some p ∧ v = .ref p.1) (h0 : Heap) (hk : ∀ p ∈ ks, IsT P w h0 p.2 p.1) (hS0 : h0.get? S = none) (hw0 : ∀ b ∈ wr, h0.get? b = none) (hu : A.in1.units < cLine) :
    ∀ (k i : Nat) (s : Shared), n = i + k → St i s → (∀ b o, h0.get? b = some o → s.heap.get? b = some o) → (∃ L es ep t, SetTR P w s.heap S L es ep t ∧ Got ks i L) →
      (∀ s' L es ep t, Moved (S :: wr) G s s' → SetTR P w s'.heap S L es ep t → Got ks n L → (∀ b o, h0.get? b = some o → s'.heap.get? b = some o) → R (.ok (.ret .none)) s') →
      codeAny (model P w) A (.builtin "set.update.loop" ⟨[.ref S, .ref I], []⟩) R s := by
  have out : S ∉ wr := fun h => hSf (W.sub _ h)
  have wide : ∀ b ∈ wr, b ∈ S :: wr := fun b hb => List.mem_cons_of_mem _ hb
  have old : ∀ {s s' : Shared}, Moved wr G s s' → (∀ b o, h0.get? b = some o → s.heap.get? b = some o) → ∀ b o, h0.get? b = some o → s'.heap.get? b = some o := fun mv kp b o e =>
    mv.heap b o (fun hb => by rw [hw0 b hb] at e; cases e) (kp b o e)
  have same : ∀ {s s' : Shared} {i : Nat} {L es ep t}, Moved wr G s s' → (∀ b o, h0.get? b = some o → s'.heap.get? b = some o) → Got ks i L → SetTR P w s.heap S L es ep t → SetTR P w s'.heap S L es ep t := fun mv kp g R =>
    R.keep (fun o e => mv.heap S o out e) fun p hp => isT_keep (hk p (List.mem_of_mem_take (g.sub p hp))) kp
  intro k
  induction k with
  | zero =>
    rintro i s rfl hst kp ⟨L, es, ep, t, R0, g⟩ q
    refine codeAny_builtin F.entry_set_update_loop ?_
    rw [Around.under_plainId F.plain_set_update_loop _]
    show wpAny _ A.in1 (pyNext (.ref I) >>= _) _ _ s
    refine wpAny_bind (W.done s _ _ hst fun s' mv => ?_)
    have kp' := old mv kp
    show wpAny _ A.in1 (ret Value.none) _ _ s'
    exact wpAny_pure (q s' L es ep t (mv.mono wide) (same mv kp' g R0) g kp')
  | succ k ih =>
    rintro i s hi hst kp ⟨L, es, ep, t, R0, g⟩ q
    refine codeAny_builtin F.entry_set_update_loop ?_
    rw [Around.under_plainId F.plain_set_update_loop _]
    show wpAny _ A.in1 (pyNext (.ref I) >>= _) _ _ s
    refine wpAny_bind (W.item i s _ _ (by omega) hst fun v s' hv hst' mv => ?_)
    obtain ⟨p, hp, rfl⟩ := hval i v hv
    have kp' := old mv kp
    have R1 := same mv kp' g R0
    have hx : IsT P w s'.heap p.2 p.1 := isT_keep (hk p (List.mem_of_getElem? hp)) kp'
    show wpAny _ A.in1 (holding [Value.ref p.1] (setAdd S (.ref p.1)) >>= _) _ _ s'
    refine wpAny_bind (wpAny_holding ?_)
    unfold setAdd
    refine wpAny_holding (wpAny_bind (wpAny_pyHash_tuple hu hx ?_))
    refine add_at (s := { s' with toks := s'.toks + (p.2.length + 1) }) R1 hx hu (by have := few_keys R1.nd g hD rfl; omega) fun b h' L2 es2 ep2 t2 sb R2 old1 new1 => ?_
    have g2 : Got ks (i + 1) L2 := by
      by_cases c : p.2 ∈ L.map (·.2)
      · rw [old1 c]; exact g.same hp c
      · exact g.more hp (new1 c)
    have kp2 : ∀ b o, h0.get? b = some o → h'.get? b = some o := fun b o e => (sb.2 b (fun z => by rw [z, hS0] at e; cases e)).trans (kp' b o e)
    refine wpAny_pure ⟨plainId_quiet F.plain_set_update_loop _, ih (i + 1) _ (by omega) (W.frame _ s' _ _ hst' (Nat.le_add_right _ _) fun b hb o e => ?_) kp2 ⟨L2, es2, ep2, t2, R2, g2⟩ fun s3 L3 es3 ep3 t3 mv3 R3 g3 kp3 => ?_⟩
    · rw [sb.2 b (fun h : b = S => hSf (by rw [← h]; exact hb))]; exact e
    · refine q s3 L3 es3 ep3 t3 (Moved.trans W.gtrans ((mv.mono wide).then_heap (Nat.le_add_right _ _) fun b o hb e => ?_) mv3) R3 g3 kp3
      rw [sb.2 b (fun h : b = S => hb (by rw [h]; exact List.mem_cons_self))]; exact e
/-- what set(..) leaves -/
def TupsMade (P : Program) (w : World) (h0 : Heap) (ks : List (Addr × List Int)) (h : Heap) : Prop := (∃ L es ep t, SetTR P w h h0.objs.size L es ep t ∧ Got ks ks.length L) ∧ ∀ b o, h0.get? b = some o → h.get? b = some o
set_option maxHeartbeats 8000000 in
theorem init_set_tups {l : Addr} {its : Array Value} (ks : List (Addr × List Int)) (D : List (List Int)) (hD : ∀ p ∈ ks, p.2 ∈ D) (hfew : D.length < 63) (hh : A.handled = none) (hl : s.heap.IsList l its) (hit : its.toList = ks.map fun p => Value.ref p.1) (hk : ∀ p ∈ ks, IsT P w s.heap p.2 p.1) (hu : A.units + 3 < cLine) :
    codeAny (model P w) A.in1 (.call (.builtin "set.__init__") ⟨[.ref s.heap.objs.size, .ref l], []⟩) (wants (fun r t => r = .none ∧ ∃ h tk, t = { s with heap := h, toks := tk } ∧ TupsMade P w s.heap ks h) E) { s with heap := s.heap.push (set0 w) } := by
  have sz : its.size = ks.length := by rw [← Array.length_toList, hit, List.length_map]
  have g0 : (s.heap.push (set0 w)).get? s.heap.objs.size = some (set0 w) := Heap.get?_push_size _ rfl
  have ty : Shared.TypeIs { s with heap := s.heap.push (set0 w) } (.ref s.heap.objs.size) "set" := ⟨_, g0, rfl⟩
  obtain ⟨⟨oc, od, oa, os⟩, q1, q2, nn, q3⟩ := id hl
  simp only at q2 q3; subst q2 q3
  have g1 : (s.heap.push (set0 w)).get? l = some ⟨.type "list", od, .seq its nn, os⟩ := Heap.get?_push_of_some _ q1
  have l1 : (s.heap.push (set0 w)).IsList l its := ⟨_, g1, rfl, nn, rfl⟩
  have k1 := F.sub_list_set; have k2 := F.sub_list_frozenset
  have k3 : (Value.type "list" == Value.type "dict") = false := by decide
  have lt := Heap.lt_size q1
  refine codeAny_call_builtin F.called_set.init.plain F.entry_set_init (check_set_init_1 ty ?_)
  unfold Builtin.«set.__init__» noKeywords Builtin.Frozenset.updateFrom
  generalize pI : pyIter = pyI; wp_walk; subst pI
  refine wpAny_pyIter_list l1 (wpAny_bind (wpAny_runValue ?_))
  have sp : (s.heap.push (set0 w)).objs.size = s.heap.objs.size + 1 := Heap.size_push ..
  have n1 : l ≠ (s.heap.push (set0 w)).objs.size := by rw [sp]; exact Nat.ne_of_lt (Nat.lt_succ_of_lt lt)
  have n2 : s.heap.objs.size ∉ [(s.heap.push (set0 w)).objs.size, l] := by
    rw [sp, List.mem_cons, List.mem_singleton]
    exact fun z => z.elim (Nat.ne_of_lt (Nat.lt_succ_self _)) (Nat.ne_of_gt lt)
  have no : ∀ b, s.heap.objs.size ≤ b → s.heap.get? b = none := fun b hb => by
    cases z : s.heap.get? b with
    | none => rfl
    | some o => exact absurd (Nat.lt_of_lt_of_le (Heap.lt_size z) hb) (Nat.lt_irrefl _)
  refine upd_tups_few ((Walks.list (A := A.in1.in1.in1) (by simp [hh]) _ l n1 its).toS) s.heap.objs.size n2 ks sz D hD hfew (fun i v e => ?_) s.heap hk (no _ (Nat.le_refl _)) (fun b hb => no b ?_) hu its.size 0 _ (by omega) ?_ ?_ ?_ ?_
  · have e2 : its.toList[i]? = some v := by rw [Array.getElem?_toList]; exact e
    rw [hit, List.getElem?_map] at e2
    cases z : ks[i]? with
    | none => rw [z] at e2; cases e2
    | some p => rw [z] at e2; exact ⟨p, rfl, (Option.some.inj e2).symm⟩
  · rw [List.mem_singleton.mp hb, sp]; exact Nat.le_succ _
  · exact ⟨⟨_, Heap.get?_push_size _ rfl, rfl, rfl⟩, l1.push _⟩
  · exact fun b o e => Heap.get?_push_of_some _ (Heap.get?_push_of_some _ e)
  · exact ⟨[], #[], 0, _, setTR_fresh (Heap.get?_push_of_some _ g0), Got.zero ks⟩
  · intro t L es ep tb mv R g kp
    obtain ⟨h, gg, dr, tk, ow⟩ := t
    have e1 : gg = s.gens := mv.gens; have e2 : dr = s.drawn := mv.drawn; have e3 : ow = s.os := mv.os
    subst e1 e2 e3
    exact wpAny_pure (wpAny_pure ⟨rfl, h, tk, rfl, ⟨L, es, ep, tb, R, by rw [← sz]; exact g⟩, kp⟩)
end
end DL

set_option Elab.async false
set_option linter.all false
set_option maxRecDepth 100000
set_option maxHeartbeats 4000000
namespace DL
open PySem PySem.Spec PyProof.Rows L2
section
variable {P : Program} {w : World} {A : Around} {E : Value → Shared → Prop} {s : Shared}
theorem made_set_tups {l : Addr} {its : Array Value} (ks : List (Addr × List Int)) (D : List (List Int)) (hD : ∀ p ∈ ks, p.2 ∈ D) (hfew : D.length < 63) {Q : Value → Shared → Prop} (hh : A.handled = none) (hl : s.heap.IsList l its) (hit : its.toList = ks.map fun p => Value.ref p.1) (hk : ∀ p ∈ ks, IsT P w s.heap p.2 p.1) (hu : A.units + 5 < cLine)
    (q : ∀ h tk, TupsMade P w s.heap ks h → Q (.ref s.heap.objs.size) { s with heap := h, toks := tk }) : wpAny (model P w) A (call (.type "set") [.ref l]) Q E s := by
  obtain ⟨_, _, mro⟩ := F.called_set.mro
  have m1 := F.called_set.made; have m2 := F.called_set.sub; have m3 := F.called_set.notType; have m4 := F.called_set.canCreate; have m5 := F.typeCall_set_1 (.ref l)
  have qt : Code.quiet (.builtin "type.__call__" ⟨[.type "set", .ref l], []⟩) = true := Code.quiet_builtin _ (by decide +kernel)
  refine wpAny_call (codeAny_of_tree (wpAny_pure ⟨qt, codeAny_builtin F.entry_type_call ?_⟩)); rw [Around.under_plain (weight_type_call_type "set" [.ref l] []) rfl]
  repeat (any_goals first | wp_step | assumption)
  refine codeAny_mono (L2.code_set_led1 (.ref l) (E := E) (Q₁ := fun v t => v = .ref s.heap.objs.size ∧ t = { s with heap := s.heap.push (set0 w) }) ⟨rfl, rfl⟩) fun r t z => ?_
  rcases r with e | f
  · exact z
  cases f with
  | ret v =>
    obtain ⟨rfl, rfl⟩ := z
    have ty : Shared.TypeIs { s with heap := s.heap.push (set0 w) } (.ref s.heap.objs.size) "set" := ⟨_, Heap.get?_push_size _ rfl, rfl⟩
    have i1 := F.called_set.init.lookup; have i2 := F.called_set.init.bind (.ref s.heap.objs.size)
    repeat (any_goals first | wp_step | assumption)
    refine codeAny_mono (init_set_tups (E := E) ks D hD hfew (by simp [hh]) hl hit hk (by first | exact hu | (simp only [Around.units]; omega) | omega)) fun r t z => ?_
    rcases r with e | f
    · exact z
    cases f with
    | ret v =>
      obtain ⟨rfl, h, tk, rfl, sm⟩ := z
      repeat (any_goals first | wp_step | assumption)
      exact q h tk sm
    | _ => exact z.elim
  | _ => exact z.elim
end
end DL

set_option Elab.async false
set_option linter.all false
set_option maxRecDepth 100000
set_option maxHeartbeats 1000000
namespace DL
open PySem PySem.Spec PyProof.Rows L2
/-- each once -/
def onceL (ls : List (List Int)) : List (List Int) := ls.foldl (fun (l : List (List Int)) (x : List Int) => if x ∈ l then l else l ++ [x]) []
theorem onceL_go : ∀ (ls acc : List (List Int)), acc.Nodup → (∀ x, x ∈ ls.foldl (fun (l : List (List Int)) (x : List Int) => if x ∈ l then l else l ++ [x]) acc ↔ x ∈ acc ∨ x ∈ ls) ∧ (ls.foldl (fun (l : List (List Int)) (x : List Int) => if x ∈ l then l else l ++ [x]) acc).Nodup
  | [], acc, h => ⟨fun x => by simp, h⟩
  | y :: ls, acc, h => by
    rw [List.foldl_cons]
    by_cases c : y ∈ acc
    · rw [if_pos c]
      obtain ⟨h1, h2⟩ := onceL_go ls acc h
      refine ⟨fun x => ?_, h2⟩
      rw [h1, List.mem_cons]
      constructor
      · rintro (h | h)
        · exact .inl h
        · exact .inr (.inr h)
      · rintro (h | rfl | h)
        · exact .inl h
        · exact .inl c
        · exact .inr h
    · rw [if_neg c]
      have nd : (acc ++ [y]).Nodup := by
        rw [List.nodup_append]
        refine ⟨h, List.pairwise_singleton _ _, fun a ha b hb => ?_⟩
        rw [List.mem_singleton] at hb
        rw [hb]
        exact fun e => c (by rw [← e]; exact ha)
      obtain ⟨h1, h2⟩ := onceL_go ls (acc ++ [y]) nd
      refine ⟨fun x => ?_, h2⟩
      rw [h1, List.mem_append, List.mem_singleton, List.mem_cons]
      constructor
      · rintro ((h | h) | h)
        · exact .inl h
        · exact .inr (.inl h)
        · exact .inr (.inr h)
      · rintro (h | h | h)
        · exact .inl (.inl h)
        · exact .inl (.inr h)
        · exact .inr h
theorem onceL_in {ls : List (List Int)} {x : List Int} : x ∈ onceL ls ↔ x ∈ ls := by
  have := (onceL_go ls [] List.nodup_nil).1 x
  rw [show onceL ls = ls.foldl (fun (l : List (List Int)) (x : List Int) => if x ∈ l then l else l ++ [x]) [] from rfl, this]
  simp
theorem onceL_nd (ls : List (List Int)) : (onceL ls).Nodup := (onceL_go ls [] List.nodup_nil).2
def tupsOf : List DL.D → Option (List (List Int))
  | [] => some []
  | .tup ds :: r => (intsOf ds).bind fun ns => (tupsOf r).map (ns :: ·)
  | _ :: _ => none
theorem tupsOf_reps {K : PySem.W.Frag} {H : Hp} {W : Fb} : ∀ {ds : List DL.D} {xs : List V} {ls : List (List Int)}, tupsOf ds = some ls → Reps K H W ds xs → ∃ ks : List (Addr × List Int), xs = ks.map (fun p => V.ref p.1) ∧ ks.map (·.2) = ls ∧ ∀ p ∈ ks, SqT K H p.1 (p.2.map V.int)
  | [], xs, ls, e, h => by
    cases e
    have h : xs = [] := h
    exact ⟨[], h, rfl, fun _ z => (by cases z)⟩
  | .tup ds :: r, xs, ls, e, h => by
    obtain ⟨v, vs, rfl, q1, q2⟩ := h
    obtain ⟨a, ys, rfl, s, z, q⟩ := q1
    simp only [tupsOf] at e
    cases z1 : intsOf ds with
    | none => rw [z1] at e; cases e
    | some ns =>
      rw [z1, Option.bind_some] at e
      cases z2 : tupsOf r with
      | none => rw [z2] at e; cases e
      | some l2 =>
        rw [z2] at e
        cases e
        obtain ⟨ks, rfl, e2, e3⟩ := tupsOf_reps z2 q2
        rw [intsOf_reps z1 q] at s
        refine ⟨(a, ns) :: ks, rfl, by rw [List.map_cons, e2], fun p hp => ?_⟩
        rcases List.mem_cons.mp hp with h | h
        · rw [h]; exact .of s
        · exact e3 p h
  | .non :: _, _, _, e, _ => by cases e
  | .bl _ :: _, _, _, e, _ => by cases e
  | .int _ :: _, _, _, e, _ => by cases e
  | .str _ :: _, _, _, e, _ => by cases e
  | .lst _ :: _, _, _, e, _ => by cases e
  | .dct _ :: _, _, _, e, _ => by cases e
  | .scr _ :: _, _, _, e, _ => by cases e
  | .rng _ _ :: _, _, _, e, _ => by cases e
  | .stt _ :: _, _, _, e, _ => by cases e
  | .dci _ :: _, _, _, e, _ => by cases e
  | .dcf _ :: _, _, _, e, _ => by cases e
section
variable {X : Cx} {Z : Wsh} {a : Expr} {f : F}
def tLenSetT (K : PySem.W.Frag) (ta : TE) : TE := fun σ H Q => ta σ H fun x H1 => ∃ (l : Addr) (ks : List (Addr × List Int)), x = V.ref l ∧ SqL K H1 l (ks.map fun p => V.ref p.1) ∧ (∀ p ∈ ks, SqT K H1 p.1 (p.2.map V.int)) ∧ (onceL (ks.map (·.2))).length < 63 ∧ Q (.int (onceL (ks.map (·.2))).length) H1
theorem pe_lenSetT {ta : TE} {p p2 q pos : Pos} (hc : X.calm = true) (hu : X.A.units + 64 < cLine) (hg : Gl X "len") (hm : X.mg "len" = none) (hg2 : Gl X "set") (hm2 : X.mg "set" = none) (ha : PE X a ta)
    (na : starEach [a] X.env = (false, eval a X.env) :: starEach [] X.env := by rfl) : PE X (.Call (.Name "len" p) [.Call (.Name "set" p2) [a] [] q] [] pos) (tLenSetT X.K ta) := by
  refine ⟨fun pins s σ H Q I h => ?_⟩
  refine Call_ (ld_blt I hg hm PySem.boot_len ?_)
  refine PyProof.Rows.callWith_builtin1 (PyProof.Rows.args_cons ?_ rfl) rfl rfl
  refine Call_ (ld_blt I hg2 hm2 PyProof.Rows.boot_set ?_)
  refine PyProof.Rows.callWith_type1 (PyProof.Rows.args_cons (thn (ha.run pins s σ H _ I h) fun v s1 ⟨x, H1, I1, r1, q1⟩ => PyProof.Rows.args_nil ?_) na) na rfl
  obtain ⟨l, ks, rfl, hq, hk, h1, q1⟩ := q1
  cases r1
  obtain ⟨its, r, pl, hz⟩ := I1.list hq
  have e1 : its = ks.map fun p => Value.ref p.1 := refs_of_vals r
  refine made_set_tups (its := its.toArray) ks (onceL (ks.map (·.2))) (fun p hp => onceL_in.mpr (List.mem_map_of_mem hp)) h1 (I1.ok.hd hc) pl.isList (by simpa using e1) (fun p hp => I1.isT (hk p hp)) (by omega) fun h' tk sm => ?_
  obtain ⟨⟨L, es, ep, t, R, g⟩, hkp⟩ := sm
  refine PyProof.Rows.args_nil ?_
  have I2 : Inv X pins σ H1 { s1 with heap := h', toks := tk } := I1.kept hkp
  have el : L.length = (onceL (ks.map (·.2))).length := by
    rw [← List.length_map (f := (·.2)) (as := L)]
    refine List.Perm.length_eq ((List.perm_ext_iff_of_nodup R.nd (onceL_nd _)).mpr fun x => ?_)
    rw [onceL_in]
    constructor
    · intro h
      obtain ⟨p, hp, rfl⟩ := List.mem_map.mp h
      exact List.mem_map_of_mem (List.mem_of_mem_take (g.sub p hp))
    · intro h
      obtain ⟨p, hp, rfl⟩ := List.mem_map.mp h
      exact g.all p (by rw [List.take_length]; exact hp)
  obtain ⟨o, ho, hex, hd⟩ := R.ob
  have es' : es.size = L.length := SetTR.size (s := { s1 with heap := h', toks := tk }) R
  refine call_len_set ho hex hd (SetTR.fits (s := { s1 with heap := h', toks := tk }) R) (by have := R.few; omega) ⟨.int (onceL (ks.map (·.2))).length, H1, I2.tok _, ⟨_, by rw [es', el]⟩, q1⟩
def lenSetTD (d : DL.D) (env : Nv) : Option Out := match d with
  | .lst ds => (tupsOf ds).bind fun ls => if (onceL ls).length < 63 then some (.ok (.val (.int ((onceL ls).length : Nat))) env) else none
  | _ => none
def lenSetTF (f : F) : F := fun env => bnd (f env) fun r e => (pk (hold r) e).bind fun d => lenSetTD d e
theorem de_lenSetT {p p2 q pos : Pos} (hc : X.calm = true) (hu : X.A.units + 64 < cLine) (hg : Gl X "len") (hm : X.mg "len" = none) (hg2 : Gl X "set") (hm2 : X.mg "set" = none) (ha : DE X Z a f)
    (na : starEach [a] X.env = (false, eval a X.env) :: starEach [] X.env := by rfl) : DE X Z (.Call (.Name "len" p) [.Call (.Name "set" p2) [a] [] q] [] pos) (lenSetTF f) := PEimp (pe_lenSetT hc hu hg hm hg2 hm2 ha na) fun σ H Q q => by
  obtain ⟨W, env, A, q⟩ := q
  refine tE_mono (fun v H1 t => ?_) (stepE A q)
  obtain ⟨r, env1, s1, A1, l1, P⟩ := t
  cases z : pk (hold r) env1 with
  | none => rw [z] at P; exact P.elim
  | some d =>
    rw [z] at P
    cases d with
    | lst ds =>
      obtain ⟨a, xs, rfl, hs, hz, rq⟩ := top_lst (pk_top A1 l1 z)
      cases z2 : tupsOf ds with
      | none => simp only [Option.bind_some, lenSetTD, z2, Option.bind_none] at P; exact P.elim
      | some ls =>
        simp only [Option.bind_some, lenSetTD, z2] at P
        by_cases c : (onceL ls).length < 63
        · rw [if_pos c] at P
          obtain ⟨ks, rfl, e2, e3⟩ := tupsOf_reps z2 rq
          subst e2
          exact ⟨a, ks, rfl, .of hs, e3, c, pend_val (d := .int (((onceL (ks.map Prod.snd)).length : Nat) : Int)) (v := .int (((onceL (ks.map Prod.snd)).length : Nat) : Int)) A1 rfl P⟩
        · rw [if_neg c] at P; exact P.elim
    | _ => exact P.elim
end
/-! ### a, b = x, y: two ints -/
def parG (i j : Nat) (f g : F) : G := fun env => bndS (f env) fun p e1 => bndS (g e1) fun q e2 => match asI (hold p), asI (hold q) with
  | some a, some b => some (.nx ((e2.set i (some (.val (.int a)))).set j (some (.val (.int b)))))
  | _, _ => none
section
variable {X : Cx} {Z : Wsh} {a b : Expr} {f g : F}
theorem ds_par {i j : Nat} {x y : Str} {px py pt pos : Pos} {kt k2 pt2} (hc : X.calm = true) (hN : X.N.Nodup) (hi : X.N[i]? = some x) (hj : X.N[j]? = some y) (hij : i ≠ j)
    (hx : X.env.scope.names.lookup x = some .local) (hy : X.env.scope.names.lookup y = some .local) (ha : DE X Z a f) (hb : DE X Z b g)
    (hw : swappedStores [.Tuple [.Name x px, .Name y py] kt pt] (.Tuple [a, b] k2 pt2) X.env = pure (some [x, y]) := by rfl)
    (hs : swapsWithSole [.Tuple [.Name x px, .Name y py] kt pt] (.Tuple [a, b] k2 pt2) pos.line X.env = pure false := by rfl)
    (he : starEach [a, b] X.env = (false, eval a X.env) :: starEach [b] X.env := by rfl) (he2 : starEach [b] X.env = (false, eval b X.env) :: starEach [] X.env := by rfl) :
    DS X Z (.Assign [.Tuple [.Name x px, .Name y py] kt pt] (.Tuple [a, b] k2 pt2) pos) (parG i j f g) :=
  PSimp (ps_par hc hN hi hj hij hx hy (pa_cons ha (pa_cons hb pa_nil he2) he) hw hs) fun E σ H h => by
    obtain ⟨W, env, A, P⟩ := h
    show tE X.K Z f σ H fun v H1 => tE X.K Z g σ H1 fun w H2 => ∃ v' w', [v, w] = [v', w'] ∧ E.nx ((σ.set i (some v')).set j (some w')) H2
    refine tE_mono (fun v H1 t => ?_) (stepS A P)
    obtain ⟨p, env1, s1, r1, P⟩ := t
    have P := P.shift s1
    refine tE_mono (fun w H2 t => ?_) (stepS r1.as P)
    obtain ⟨q, env2, s2, r2, P⟩ := t
    have P := P.shift s2
    split at P
    · rename_i m n z1 z2
      have hv : v = .int m := asI_ok z1 r1.rl
      have hw : w = .int n := asI_ok z2 r2.rl
      subst hv hw
      have R1 : Res X.K W H2 env2 σ H2 (.val (.int m)) (.int m) := ⟨r2.as, rfl⟩
      obtain ⟨A3, s3⟩ := put_ok (i := i) .refl R1 rfl
      have R2 : Res X.K W H2 (env2.set i (some (.val (.int m)))) (σ.set i (some (.int m))) H2 (.val (.int n)) (.int n) := ⟨A3, rfl⟩
      obtain ⟨A4, s4⟩ := put_ok (i := j) .refl R2 rfl
      exact ⟨_, _, rfl, P _ _ (s3.trans s4) A4⟩
    · exact P.elim
end
end DL

set_option Elab.async false
set_option linter.all false
set_option maxRecDepth 100000
set_option maxHeartbeats 4000000
namespace K13
open PySem PySem.Spec PyProof.Rows L2 DL
def top (i : Nat) : Stmt := PySem.Challenge.pw_throwskept_k13_classes_of_turns.main.body.getD i (.Pass ⟨0, 0, 0, 0⟩)
abbrev Zf (CA : Nat → Addr) : Wsh := ⟨CA, fun _ _ _ _ => False⟩
structure Blt (mg : Str → Option Value) : Prop where
  n_len : mg "len" = none
  n_int : mg "int" = none
  n_abs : mg "abs" = none
  n_sum : mg "sum" = none
  n_max : mg "max" = none
  n_min : mg "min" = none
  n_tuple : mg "tuple" = none
  n_list : mg "list" = none
  n_sorted : mg "sorted" = none
  n_isinstance : mg "isinstance" = none
  n_bool : mg "bool" = none
  n_str : mg "str" = none
  n_range : mg "range" = none
  n_enumerate : mg "enumerate" = none
  n_reversed : mg "reversed" = none
  n_any : mg "any" = none
  n_ValueError : mg "ValueError" = none
  n_set : mg "set" = none
  n_divmod : mg "divmod" = none
  n_zip : mg "zip" = none
/-- what a callee's name stands for -/
structure Cal (K : PySem.W.Frag) (mg : Str → Option Value) (x : Str) (f : Addr) (fd : FuncData) (ps : List Str) : Prop where
  g : mg x = some (.ref f)
  k : PySem.W.keepIn K (.ref f) = true
  b : Binds K fd ps []
structure Exx (P : Program) (K : PySem.W.Frag) (mg : Str → Option Value) (CA : Nat → Addr) : Prop where
  t : True

theorem pmk_clash {X : Cx} {Z : Wsh} {fs : List F} {e1 e2 : Expr} {p pos : Pos} {k : Nat} (T : ∃ (x1 x2 : Str) (fI : Addr), PySem.CLX.Txt X.prog X.K X.mg "Clash" x1 x2 (Z.CA 1) fI) (hr : Room (k + 1) X.A) (ha : DAs X Z [e1, e2] fs) (hg : Gl X "Clash" := by rfl)
    (he : starEach (e1 :: [e2]) X.env = (false, eval e1 X.env) :: starEach [e2] X.env := by rfl) (hpl : (backTo pos (starEach [e2] X.env)).any (·.1) = false := by rfl) :
    L2N.PMk X (.Call (.Name "Clash" p) [e1, e2] [] pos) (fun σ H Q => tAs X.K Z fs σ H fun vs H1 => ∃ is : List Int, vs = is.map V.int ∧ is.length = (["index", "hand"] : List Str).length ∧ (∀ i ∈ is, i.natAbs.log2 < 1920) ∧ ∀ d, H1 d = none → Q (.ref (Z.CA 1)) (some d) (upd H1 d (.xd ((["index", "hand"] : List Str).zip vs).reverse))) := by
  obtain ⟨x1, x2, fI, T⟩ := T
  exact pmk_made T hr ha hg (by decide) he hpl
variable {P : Program} {w : World} {K : PySem.W.Frag} {mg : Str → Option Value} {base : Heap} {CA : Nat → Addr}
abbrev st_power : Stmt := top 1
abbrev nn_power : List Str := ["base", "exponent", "result", "k"]
abbrev ps_power : List Str := ["base", "exponent"]
abbrev st_count_of_heights : Stmt := top 2
abbrev nn_count_of_heights : List Str := ["thing_number", "n"]
abbrev ps_count_of_heights : List Str := ["thing_number", "n"]
abbrev st_divisors : Stmt := top 6
abbrev nn_divisors : List Str := ["n", "low", "d", "e"]
abbrev ps_divisors : List Str := ["n"]
abbrev st_totients_of_divisors : Stmt := top 5
abbrev nn_totients_of_divisors : List Str := ["n", "totients", "d", "e"]
abbrev ps_totients_of_divisors : List Str := ["n"]
abbrev st_unlike_count : Stmt := top 4
abbrev nn_unlike_count : List Str := ["thing_number", "n", "totients", "fixed", "d"]
abbrev ps_unlike_count : List Str := ["thing_number", "n"]
abbrev st_plain_count : Stmt := top 8
abbrev nn_plain_count : List Str := ["thing_number", "n"]
abbrev ps_plain_count : List Str := ["thing_number", "n"]
abbrev st_ltape : Stmt := top 10
abbrev nn_ltape : List Str := ["script", "k", "cell"]
abbrev ps_ltape : List Str := ["script", "k"]
abbrev st_ltake : Stmt := top 11
abbrev nn_ltake : List Str := ["tape", "many", "mixed", "got"]
abbrev ps_ltake : List Str := ["tape", "many"]
abbrev st_lis_plain : Stmt := top 12
abbrev nn_lis_plain : List Str := ["heights", "size", "k"]
abbrev ps_lis_plain : List Str := ["heights"]
abbrev st_lpower : Stmt := top 13
abbrev nn_lpower : List Str := ["base", "exponent", "result", "k"]
abbrev ps_lpower : List Str := ["base", "exponent"]
abbrev st_lall : Stmt := top 14
abbrev nn_lall : List Str := ["n", "total", "rows", "k", "longer", "row", "left", "item"]
abbrev ps_lall : List Str := ["n", "total"]
abbrev st_lleast : Stmt := top 15
abbrev nn_lleast : List Str := ["heights", "k"]
abbrev ps_lleast : List Str := ["heights"]
abbrev st_ldivisor : Stmt := top 16
abbrev nn_ldivisor : List Str := ["one", "other"]
abbrev ps_ldivisor : List Str := ["one", "other"]
abbrev st_lis : Stmt := top 17
abbrev nn_lis : List Str := ["told", "due"]
abbrev ps_lis : List Str := ["told", "due"]
abbrev st_law : Stmt := top 18
abbrev nn_law : List Str := ["script", "tape", "things", "plain", "n", "total", "k", "most", "d", "row"]
abbrev ps_law : List Str := ["script"]
theorem sc_power : FnScope nn_power ps_power (defScope st_power) := ⟨rfl, rfl, rfl, by decide +kernel, rfl, by decide +kernel, by decide +kernel⟩
def gd_power : G :=
  (seqG (setG 2 (cst (.int 1))) (seqG (forG (itRv (bitsF (rdN 1))) (nmT 3) (seqG (setG 2 (ap2 (rdN 2) (rdN 2) (o2 dMulW))) (ifG (truF (ap2 (ap2 (rdN 1) (rdN 3) (o2 dShr)) (cst (.int 1)) (o2 dAnd))) (setG 2 (ap2 (rdN 2) (rdN 0) (o2 dMulW))) passG))) (retG (rdN 2))))
theorem ok_power {k : Nat} (bl : Blt mg) (ex : Exx P K mg CA) {f : Addr} {fd : FuncData} (F : Fun K "power" "power" st_power f fd) : FnOk P w K mg base (L2N.CX P w) (k + 1) f fd ps_power (spD K CA false 2 (fnD false 4 (gd_power))) := by
  refine def_ok F sc_power fun cdv A outer s H E hr => ?_
  have hun := hr.un
  have hu1 : (A.deeper (envOfC "power" (defScope st_power) s.heap.objs.size f cdv)).units + 1 < cLine := by omega
  have hu4 : (A.deeper (envOfC "power" (defScope st_power) s.heap.objs.size f cdv)).units + 4 < cLine := by omega
  have hu64 : (A.deeper (envOfC "power" (defScope st_power) s.heap.objs.size f cdv)).units + 64 < cLine := by omega
  have hu65 : (A.deeper (envOfC "power" (defScope st_power) s.heap.objs.size f cdv)).units + 65 < cLine := by omega
  have sc := sc_power
  exact (ds_cons (ds_set sc.nd rfl (by first | exact .inl rfl | exact .inr rfl) de_int) (ds_cons (ds_for (L2.passes_of rfl) rfl (di_rev rfl bl.n_reversed rfl bl.n_range (de_bits (de_var (pv 1)))) (dg_name sc.nd rfl (by first | exact .inl rfl | exact .inr rfl)) (ds_cons (ds_set sc.nd rfl (by first | exact .inl rfl | exact .inr rfl) (de_mulW (de_var (pv 2)) (de_var (pv 2)))) (ds_one (ds_if (dt_tru (de_andI (de_shr (de_var (pv 1)) (de_var (pv 3))) de_int)) (ds_one (ds_set sc.nd rfl (by first | exact .inl rfl | exact .inr rfl) (de_mulW (de_var (pv 2)) (de_var (pv 0))))) ds_nil)))) (ds_one (ds_ret (de_var (pv 2))))))
theorem sc_count_of_heights : FnScope nn_count_of_heights ps_count_of_heights (defScope st_count_of_heights) := ⟨rfl, rfl, rfl, by decide +kernel, rfl, by decide +kernel, by decide +kernel⟩
def gd_count_of_heights (fn_power : Fn) : G :=
  (retG (ap2 (apN [(ap2 (rdN 0) (cst (.int 1)) oAdd), (rdN 1)] (callO false 2 fn_power)) (apN [(rdN 0), (rdN 1)] (callO false 2 fn_power)) oSub))
theorem ok_count_of_heights {k : Nat} (fn_power : Fn) (bl : Blt mg) (ex : Exx P K mg CA) {f_power : Addr} {fd_power : FuncData} (c_power : Cal K mg "power" f_power fd_power ps_power) (G_power : FnOk P w K mg base (L2N.CX P w) k f_power fd_power ps_power (spD K CA false 2 fn_power)) {f : Addr} {fd : FuncData} (F : Fun K "count_of_heights" "count_of_heights" st_count_of_heights f fd) : FnOk P w K mg base (L2N.CX P w) (k + 1) f fd ps_count_of_heights (spD K CA false 2 (fnD false 2 (gd_count_of_heights fn_power))) := by
  refine def_ok F sc_count_of_heights fun cdv A outer s H E hr => ?_
  have hun := hr.un
  have hu1 : (A.deeper (envOfC "count_of_heights" (defScope st_count_of_heights) s.heap.objs.size f cdv)).units + 1 < cLine := by omega
  have hu4 : (A.deeper (envOfC "count_of_heights" (defScope st_count_of_heights) s.heap.objs.size f cdv)).units + 4 < cLine := by omega
  have hu64 : (A.deeper (envOfC "count_of_heights" (defScope st_count_of_heights) s.heap.objs.size f cdv)).units + 64 < cLine := by omega
  have hu65 : (A.deeper (envOfC "count_of_heights" (defScope st_count_of_heights) s.heap.objs.size f cdv)).units + 65 < cLine := by omega
  have sc := sc_count_of_heights
  exact (ds_one (ds_ret (de_sub (de_call (ps := ps_power) G_power hr rfl c_power.g c_power.k c_power.b (L2N.takes_of rfl rfl rfl rfl) (da_cons (de_add (de_var (pv 0)) de_int) (da_cons (de_var (pv 1)) da_nil))) (de_call (ps := ps_power) G_power hr rfl c_power.g c_power.k c_power.b (L2N.takes_of rfl rfl rfl rfl) (da_cons (de_var (pv 0)) (da_cons (de_var (pv 1)) da_nil))))))
theorem sc_divisors : FnScope nn_divisors ps_divisors (defScope st_divisors) := ⟨rfl, rfl, rfl, by decide +kernel, rfl, by decide +kernel, by decide +kernel⟩
noncomputable def gd_divisors : G :=
  (seqG (setG 1 (apN [] mkL)) (seqG (setG 2 (cst (.int 1))) (seqG (whileG (ap2 (ap2 (rdN 2) (rdN 2) oMul) (rdN 0) (o2 dLe)) (seqG (ifG (ap2 (ap2 (rdN 0) (rdN 2) (o2 dMod)) (cst (.int 0)) (o2 dEq)) (exprG (appO 1 (rdN 2))) passG) (augG 2 (cst (.int 1)) augAdd))) (retG (sortSetFL (ap2 (rdN 1) (compG (itL (rdN 1)) (nmT 3) yesF [] [3] (lfL (ap2 (rdN 0) (rdN 3) (o2 dDiv))) (.lst []) finF) oAdd))))))
theorem ok_divisors {k : Nat} (bl : Blt mg) (ex : Exx P K mg CA) {f : Addr} {fd : FuncData} (F : Fun K "divisors" "divisors" st_divisors f fd) : FnOk P w K mg base (L2N.CX P w) (k + 1) f fd ps_divisors (spD K CA false 1 (fnD false 4 (gd_divisors))) := by
  refine def_ok F sc_divisors fun cdv A outer s H E hr => ?_
  have hun := hr.un
  have hu1 : (A.deeper (envOfC "divisors" (defScope st_divisors) s.heap.objs.size f cdv)).units + 1 < cLine := by omega
  have hu4 : (A.deeper (envOfC "divisors" (defScope st_divisors) s.heap.objs.size f cdv)).units + 4 < cLine := by omega
  have hu64 : (A.deeper (envOfC "divisors" (defScope st_divisors) s.heap.objs.size f cdv)).units + 64 < cLine := by omega
  have hu65 : (A.deeper (envOfC "divisors" (defScope st_divisors) s.heap.objs.size f cdv)).units + 65 < cLine := by omega
  have sc := sc_divisors
  exact (ds_cons (ds_set sc.nd rfl (by first | exact .inl rfl | exact .inr rfl) (de_lst da_nil)) (ds_cons (ds_set sc.nd rfl (by first | exact .inl rfl | exact .inr rfl) de_int) (ds_cons (ds_while (L2.passes_of rfl) (dt_cmp op_le od_le (de_mul (de_var (pv 2)) (de_var (pv 2))) (de_var (pv 0))) (ds_cons (ds_if (dt_cmp (op_eqD hu64) od_eq (de_mod (de_var (pv 0)) (de_var (pv 2))) de_int) (ds_one (ds_expr (de_append (pv 1) (de_var (pv 2))))) ds_nil) (ds_one (ds_augAdd sc.nd rfl (by first | exact .inl rfl | exact .inr rfl) de_int)))) (ds_one (ds_ret (de_sortSetL rfl rfl bl.n_sorted rfl bl.n_set (de_add (de_var (pv 1)) (de_comp (Z' := Zf CA) (ck := .lst _) rfl sc.nd (blkOk_by (own := [("e", 3)]) rfl) (di_list (de_var (pv 1))) ⟨⟨[3], by decide, (fun _ hB => by obtain ⟨_, _, _, _, _, rfl⟩ := hB; exact (dg_name sc.nd rfl (by first | exact .inl rfl | exact .inr rfl)))⟩, (fun _ hB => by obtain ⟨_, _, _, _, _, rfl⟩ := hB; exact dts_nil), rfl⟩ Cls.nil (lf_list (Z := Zf CA) (fun _ hB => by obtain ⟨_, _, _, _, _, rfl⟩ := hB; exact (de_div (de_var (pv 0)) (de_var (pv 3))))) new_list))))))))
theorem sc_totients_of_divisors : FnScope nn_totients_of_divisors ps_totients_of_divisors (defScope st_totients_of_divisors) := ⟨rfl, rfl, rfl, by decide +kernel, rfl, by decide +kernel, by decide +kernel⟩
noncomputable def gd_totients_of_divisors (fn_divisors : Fn) : G :=
  (seqG (setG 1 mkI0) (seqG (forG (itL (apN [(rdN 0)] (callO false 1 fn_divisors))) (nmT 2) (putI 1 (ap2 (rdN 2) (apN [(lockI 1 (compG (itKi 1) (nmT 3) (ap2 (ap2 (rdN 2) (rdN 3) (o2 dMod)) (cst (.int 0)) (o2 dEq)) [] [3] (lfL (gitI (rdN 1) (rdN 3))) (.lst []) finF))] (c1g sumO)) oSub) (rdN 2))) (retG (rdN 1))))
theorem ok_totients_of_divisors {k : Nat} (fn_divisors : Fn) (bl : Blt mg) (ex : Exx P K mg CA) {f_divisors : Addr} {fd_divisors : FuncData} (c_divisors : Cal K mg "divisors" f_divisors fd_divisors ps_divisors) (G_divisors : FnOk P w K mg base (L2N.CX P w) k f_divisors fd_divisors ps_divisors (spD K CA false 1 fn_divisors)) {f : Addr} {fd : FuncData} (F : Fun K "totients_of_divisors" "totients_of_divisors" st_totients_of_divisors f fd) : FnOk P w K mg base (L2N.CX P w) (k + 1) f fd ps_totients_of_divisors (spD K CA false 1 (fnD false 4 (gd_totients_of_divisors fn_divisors))) := by
  refine def_ok F sc_totients_of_divisors fun cdv A outer s H E hr => ?_
  have hun := hr.un
  have hu1 : (A.deeper (envOfC "totients_of_divisors" (defScope st_totients_of_divisors) s.heap.objs.size f cdv)).units + 1 < cLine := by omega
  have hu4 : (A.deeper (envOfC "totients_of_divisors" (defScope st_totients_of_divisors) s.heap.objs.size f cdv)).units + 4 < cLine := by omega
  have hu64 : (A.deeper (envOfC "totients_of_divisors" (defScope st_totients_of_divisors) s.heap.objs.size f cdv)).units + 64 < cLine := by omega
  have hu65 : (A.deeper (envOfC "totients_of_divisors" (defScope st_totients_of_divisors) s.heap.objs.size f cdv)).units + 65 < cLine := by omega
  have sc := sc_totients_of_divisors
  exact (ds_cons (ds_set sc.nd rfl (by first | exact .inl rfl | exact .inr rfl) de_dci0) (ds_cons (ds_for (L2.passes_of rfl) rfl (di_list (de_call (ps := ps_divisors) G_divisors hr rfl c_divisors.g c_divisors.k c_divisors.b (L2N.takes_of rfl rfl rfl rfl) (da_cons (de_var (pv 0)) da_nil))) (dg_name sc.nd rfl (by first | exact .inl rfl | exact .inr rfl)) (ds_one (ds_iput hu1 (pv 1) (de_var (pv 2)) (de_sub (de_var (pv 2)) (de_callB (cr_sumA rfl) cd_sum rfl bl.n_sum rfl (da_cons (de_lockI (i := 1) (de_comp (Z' := Zf CA) (ck := .lst _) rfl sc.nd (blkOk_by (own := [("e", 3)]) rfl) (di_ikeys (pv 1)) ⟨⟨[3], by decide, (fun _ hB => by obtain ⟨_, _, _, _, _, rfl⟩ := hB; exact (dg_name sc.nd rfl (by first | exact .inl rfl | exact .inr rfl)))⟩, (fun _ hB => by obtain ⟨_, _, _, _, _, rfl⟩ := hB; exact (dts_one (dt_cmp (op_eqD hu64) od_eq (de_mod (de_var (pv 2)) (de_var (pv 3))) de_int))), rfl⟩ Cls.nil (lf_list (Z := Zf CA) (fun _ hB => by obtain ⟨_, _, _, _, _, rfl⟩ := hB; exact (de_igit hu1 (de_var (pv 1)) (de_var (pv 3))))) new_list)) da_nil)))))) (ds_one (ds_ret (de_var (pv 1))))))
theorem sc_unlike_count : FnScope nn_unlike_count ps_unlike_count (defScope st_unlike_count) := ⟨rfl, rfl, rfl, by decide +kernel, rfl, by decide +kernel, by decide +kernel⟩
noncomputable def gd_unlike_count (fn_count_of_heights : Fn) (fn_totients_of_divisors : Fn) : G :=
  (seqG (ifG (ap2 (rdN 0) (cst (.int 0)) (o2 dEq)) (retG (cst (.int 1))) passG) (seqG (setG 2 (apN [(rdN 1)] (callO false 1 fn_totients_of_divisors))) (seqG (setG 3 (lockI 2 (compG (itKi 2) (nmT 4) yesF [] [4] (lfL (ap2 (gitI (rdN 2) (ap2 (rdN 1) (rdN 4) (o2 dDiv))) (apN [(rdN 0), (rdN 4)] (callO false 2 fn_count_of_heights)) oMul)) (.lst []) finF))) (retG (ap2 (apN [(rdN 3)] (c1g sumO)) (rdN 1) (o2 dDiv))))))
theorem ok_unlike_count {k : Nat} (fn_count_of_heights : Fn) (fn_totients_of_divisors : Fn) (bl : Blt mg) (ex : Exx P K mg CA) {f_count_of_heights : Addr} {fd_count_of_heights : FuncData} (c_count_of_heights : Cal K mg "count_of_heights" f_count_of_heights fd_count_of_heights ps_count_of_heights) {f_totients_of_divisors : Addr} {fd_totients_of_divisors : FuncData} (c_totients_of_divisors : Cal K mg "totients_of_divisors" f_totients_of_divisors fd_totients_of_divisors ps_totients_of_divisors) (G_count_of_heights : FnOk P w K mg base (L2N.CX P w) k f_count_of_heights fd_count_of_heights ps_count_of_heights (spD K CA false 2 fn_count_of_heights)) (G_totients_of_divisors : FnOk P w K mg base (L2N.CX P w) k f_totients_of_divisors fd_totients_of_divisors ps_totients_of_divisors (spD K CA false 1 fn_totients_of_divisors)) {f : Addr} {fd : FuncData} (F : Fun K "unlike_count" "unlike_count" st_unlike_count f fd) : FnOk P w K mg base (L2N.CX P w) (k + 1) f fd ps_unlike_count (spD K CA false 2 (fnD false 5 (gd_unlike_count fn_count_of_heights fn_totients_of_divisors))) := by
  refine def_ok F sc_unlike_count fun cdv A outer s H E hr => ?_
  have hun := hr.un
  have hu1 : (A.deeper (envOfC "unlike_count" (defScope st_unlike_count) s.heap.objs.size f cdv)).units + 1 < cLine := by omega
  have hu4 : (A.deeper (envOfC "unlike_count" (defScope st_unlike_count) s.heap.objs.size f cdv)).units + 4 < cLine := by omega
  have hu64 : (A.deeper (envOfC "unlike_count" (defScope st_unlike_count) s.heap.objs.size f cdv)).units + 64 < cLine := by omega
  have hu65 : (A.deeper (envOfC "unlike_count" (defScope st_unlike_count) s.heap.objs.size f cdv)).units + 65 < cLine := by omega
  have sc := sc_unlike_count
  exact (ds_cons (ds_if (dt_cmp (op_eqD hu64) od_eq (de_var (pv 0)) de_int) (ds_one (ds_ret de_int)) ds_nil) (ds_cons (ds_set sc.nd rfl (by first | exact .inl rfl | exact .inr rfl) (de_call (ps := ps_totients_of_divisors) G_totients_of_divisors hr rfl c_totients_of_divisors.g c_totients_of_divisors.k c_totients_of_divisors.b (L2N.takes_of rfl rfl rfl rfl) (da_cons (de_var (pv 1)) da_nil))) (ds_cons (ds_setCL (Z' := Zf CA) (ck := .lst _) rfl sc.nd rfl rfl (blkOk_by (own := [("d", 4)]) rfl) (di_ikeys (pv 2)) ⟨⟨[4], by decide, (fun _ hB => by obtain ⟨_, _, _, _, _, rfl⟩ := hB; exact (dg_name sc.nd rfl (by first | exact .inl rfl | exact .inr rfl)))⟩, (fun _ hB => by obtain ⟨_, _, _, _, _, rfl⟩ := hB; exact dts_nil), rfl⟩ Cls.nil (lf_list (Z := Zf CA) (fun _ hB => by obtain ⟨_, _, _, _, _, rfl⟩ := hB; exact (de_mul (de_igit hu1 (de_var (pv 2)) (de_div (de_var (pv 1)) (de_var (pv 4)))) (de_call (ps := ps_count_of_heights) G_count_of_heights hr rfl c_count_of_heights.g c_count_of_heights.k c_count_of_heights.b takesN0 (da_cons (de_var (pv 0)) (da_cons (de_var (pv 4)) da_nil)))))) new_list (sw_true rfl rfl rfl rfl)) (ds_one (ds_ret (de_div (de_callB (cr_sumA rfl) cd_sum rfl bl.n_sum rfl (da_cons (de_var (pv 3)) da_nil)) (de_var (pv 1))))))))
theorem sc_plain_count : FnScope nn_plain_count ps_plain_count (defScope st_plain_count) := ⟨rfl, rfl, rfl, by decide +kernel, rfl, by decide +kernel, by decide +kernel⟩
def gd_plain_count (fn_count_of_heights : Fn) : G :=
  (retG (apN [(rdN 0), (rdN 1)] (callO false 2 fn_count_of_heights)))
theorem ok_plain_count {k : Nat} (fn_count_of_heights : Fn) (bl : Blt mg) (ex : Exx P K mg CA) {f_count_of_heights : Addr} {fd_count_of_heights : FuncData} (c_count_of_heights : Cal K mg "count_of_heights" f_count_of_heights fd_count_of_heights ps_count_of_heights) (G_count_of_heights : FnOk P w K mg base (L2N.CX P w) k f_count_of_heights fd_count_of_heights ps_count_of_heights (spD K CA false 2 fn_count_of_heights)) {f : Addr} {fd : FuncData} (F : Fun K "plain_count" "plain_count" st_plain_count f fd) : FnOk P w K mg base (L2N.CX P w) (k + 1) f fd ps_plain_count (spD K CA false 2 (fnD false 2 (gd_plain_count fn_count_of_heights))) := by
  refine def_ok F sc_plain_count fun cdv A outer s H E hr => ?_
  have hun := hr.un
  have hu1 : (A.deeper (envOfC "plain_count" (defScope st_plain_count) s.heap.objs.size f cdv)).units + 1 < cLine := by omega
  have hu4 : (A.deeper (envOfC "plain_count" (defScope st_plain_count) s.heap.objs.size f cdv)).units + 4 < cLine := by omega
  have hu64 : (A.deeper (envOfC "plain_count" (defScope st_plain_count) s.heap.objs.size f cdv)).units + 64 < cLine := by omega
  have hu65 : (A.deeper (envOfC "plain_count" (defScope st_plain_count) s.heap.objs.size f cdv)).units + 65 < cLine := by omega
  have sc := sc_plain_count
  exact (ds_one (ds_ret (de_call (ps := ps_count_of_heights) G_count_of_heights hr rfl c_count_of_heights.g c_count_of_heights.k c_count_of_heights.b (L2N.takes_of rfl rfl rfl rfl) (da_cons (de_var (pv 0)) (da_cons (de_var (pv 1)) da_nil)))))
theorem sc_ltape : FnScope nn_ltape ps_ltape (defScope st_ltape) := ⟨rfl, rfl, rfl, by decide +kernel, rfl, by decide +kernel, by decide +kernel⟩
def gd_ltape : G :=
  (seqG (setG 2 (cst (.int 0))) (seqG (ifG (ap2 (rdN 1) (apN [(rdN 0)] (c1g lenO)) (o2 dLt)) (setG 2 (apN [(ap2 (rdN 0) (rdN 1) (o2g ixO))] (c1g absO))) passG) (retG (apN [(rdN 2), (ap2 (rdN 2) (ap2 (cst (.int 10)) (cst (.int 18)) (o2 dPow)) (o2 dGe)), (cst (.int 0)), (ap2 (apN [(ap2 (ap2 (rdN 2) (cst (.int 64)) oMul) (rdN 1) oAdd)] (c1g intO)) (cst (.int 2147483647)) (o2 dMod))] mkL))))
theorem ok_ltape {k : Nat} (bl : Blt mg) (ex : Exx P K mg CA) {f : Addr} {fd : FuncData} (F : Fun K "_law_tape" "_law_tape" st_ltape f fd) : FnOk P w K mg base (L2N.CX P w) (k + 1) f fd ps_ltape (spD K CA false 2 (fnD false 3 (gd_ltape))) := by
  refine def_ok F sc_ltape fun cdv A outer s H E hr => ?_
  have hun := hr.un
  have hu1 : (A.deeper (envOfC "_law_tape" (defScope st_ltape) s.heap.objs.size f cdv)).units + 1 < cLine := by omega
  have hu4 : (A.deeper (envOfC "_law_tape" (defScope st_ltape) s.heap.objs.size f cdv)).units + 4 < cLine := by omega
  have hu64 : (A.deeper (envOfC "_law_tape" (defScope st_ltape) s.heap.objs.size f cdv)).units + 64 < cLine := by omega
  have hu65 : (A.deeper (envOfC "_law_tape" (defScope st_ltape) s.heap.objs.size f cdv)).units + 65 < cLine := by omega
  have sc := sc_ltape
  exact (ds_cons (ds_set sc.nd rfl (by first | exact .inl rfl | exact .inr rfl) de_int) (ds_cons (ds_if (dt_cmp op_lt od_lt (de_var (pv 1)) (de_callB call_len_seq cd_len rfl bl.n_len rfl (da_cons (de_var (pv 0)) da_nil))) (ds_one (ds_set sc.nd rfl (by first | exact .inl rfl | exact .inr rfl) (de_callB call_abs cd_abs rfl bl.n_abs rfl (da_cons (de_ix (de_var (pv 0)) (de_var (pv 1))) da_nil)))) ds_nil) (ds_one (ds_ret (de_lst (da_cons (de_var (pv 2)) (da_cons (de_ge (de_var (pv 2)) (de_pow de_int de_int)) (da_cons de_int (da_cons (de_mod (de_callTy call_int1 cd_int rfl bl.n_int rfl (da_cons (de_add (de_mul (de_var (pv 2)) de_int) (de_var (pv 1))) da_nil)) de_int) da_nil)))))))))
theorem sc_ltake : FnScope nn_ltake ps_ltake (defScope st_ltake) := ⟨rfl, rfl, rfl, by decide +kernel, rfl, by decide +kernel, by decide +kernel⟩
def gd_ltake : G :=
  (seqG (ifG (andF (truF (ap2 (rdN 0) (cst (.int 1)) (o2g ixO))) (ap2 (ap2 (rdN 0) (cst (.int 0)) (o2g ixO)) (cst (.int 0)) (o2 dGt))) (seqG (setG 3 (ap2 (apN [(ap2 (rdN 0) (cst (.int 0)) (o2g ixO))] (c1g intO)) (rdN 1) (o2 dMod))) (seqG (asgG (subT 0 (cst (.int 0))) (ap2 (ap2 (rdN 0) (cst (.int 0)) (o2g ixO)) (rdN 1) (o2 dDiv))) (retG (rdN 3)))) passG) (seqG (asgG (subT 0 (cst (.int 2))) (ap2 (ap2 (rdN 0) (cst (.int 2)) (o2g ixO)) (cst (.int 1)) oAdd)) (seqG (setG 2 (ap2 (apN [(ap2 (ap2 (ap2 (ap2 (rdN 0) (cst (.int 3)) (o2g ixO)) (cst (.int 48271)) oMul) (ap2 (ap2 (rdN 0) (cst (.int 2)) (o2g ixO)) (cst (.int 69621)) oMul) oAdd) (cst (.int 17)) oAdd)] (c1g intO)) (cst (.int 2147483647)) (o2 dMod))) (seqG (setG 2 (ap2 (apN [(ap2 (ap2 (ap2 (rdN 2) (cst (.int 40692)) oMul) (ap2 (ap2 (rdN 2) (cst (.int 977)) (o2 dDiv)) (cst (.int 31)) oMul) oAdd) (ap2 (rdN 0) (cst (.int 2)) (o2g ixO)) oAdd)] (c1g intO)) (cst (.int 2147483399)) (o2 dMod))) (retG (ap2 (apN [(ap2 (rdN 2) (cst (.int 7)) (o2 dDiv))] (c1g intO)) (rdN 1) (o2 dMod)))))))
theorem ok_ltake {k : Nat} (bl : Blt mg) (ex : Exx P K mg CA) {f : Addr} {fd : FuncData} (F : Fun K "_law_take" "_law_take" st_ltake f fd) : FnOk P w K mg base (L2N.CX P w) (k + 1) f fd ps_ltake (spD K CA true 2 (fnD true 4 (gd_ltake))) := by
  refine def_ok F sc_ltake fun cdv A outer s H E hr => ?_
  have hun := hr.un
  have hu1 : (A.deeper (envOfC "_law_take" (defScope st_ltake) s.heap.objs.size f cdv)).units + 1 < cLine := by omega
  have hu4 : (A.deeper (envOfC "_law_take" (defScope st_ltake) s.heap.objs.size f cdv)).units + 4 < cLine := by omega
  have hu64 : (A.deeper (envOfC "_law_take" (defScope st_ltake) s.heap.objs.size f cdv)).units + 64 < cLine := by omega
  have hu65 : (A.deeper (envOfC "_law_take" (defScope st_ltake) s.heap.objs.size f cdv)).units + 65 < cLine := by omega
  have sc := sc_ltake
  exact (ds_cons (ds_if (DW.dt (dw_and (dt_tru (de_ix (de_var (pv 0)) de_int)) (dw_and1 (dt_cmp op_gt od_gt (de_ix (de_var (pv 0)) de_int) de_int)))) (ds_cons (ds_set sc.nd rfl (by first | exact .inl rfl | exact .inr rfl) (de_mod (de_callTy call_int1 cd_int rfl bl.n_int rfl (da_cons (de_ix (de_var (pv 0)) de_int) da_nil)) (de_var (pv 1)))) (ds_cons (ds_asg (de_div (de_ix (de_var (pv 0)) de_int) (de_var (pv 1))) (dg_sub (Z := Zf CA) (pv 0) de_int)) (ds_one (ds_ret (de_var (pv 3)))))) ds_nil) (ds_cons (ds_asg (de_add (de_ix (de_var (pv 0)) de_int) de_int) (dg_sub (Z := Zf CA) (pv 0) de_int)) (ds_cons (ds_set sc.nd rfl (by first | exact .inl rfl | exact .inr rfl) (de_mod (de_callTy call_int1 cd_int rfl bl.n_int rfl (da_cons (de_add (de_add (de_mul (de_ix (de_var (pv 0)) de_int) de_int) (de_mul (de_ix (de_var (pv 0)) de_int) de_int)) de_int) da_nil)) de_int)) (ds_cons (ds_set sc.nd rfl (by first | exact .inl rfl | exact .inr rfl) (de_mod (de_callTy call_int1 cd_int rfl bl.n_int rfl (da_cons (de_add (de_add (de_mul (de_var (pv 2)) de_int) (de_mul (de_div (de_var (pv 2)) de_int) de_int)) (de_ix (de_var (pv 0)) de_int)) da_nil)) de_int)) (ds_one (ds_ret (de_mod (de_callTy call_int1 cd_int rfl bl.n_int rfl (da_cons (de_div (de_var (pv 2)) de_int) da_nil)) (de_var (pv 1)))))))))
theorem sc_lis_plain : FnScope nn_lis_plain ps_lis_plain (defScope st_lis_plain) := ⟨rfl, rfl, rfl, by decide +kernel, rfl, by decide +kernel, by decide +kernel⟩
def gd_lis_plain : G :=
  (seqG (setG 1 (apN [(rdN 0)] (c1g lenO))) (retG (ap2 (lenSetF (compG (itR1 (rdN 1)) (nmT 2) yesF [] [2] (lfL (ap2 (apN [(ap2 (rdN 2) (ap2 (rdN 0) (rdN 2) (o2g ixO)) oAdd)] (c1g intO)) (rdN 1) (o2 dMod))) (.lst []) finF)) (rdN 1) (o2 dEq))))
theorem ok_lis_plain {k : Nat} (bl : Blt mg) (ex : Exx P K mg CA) {f : Addr} {fd : FuncData} (F : Fun K "_law_is_plain" "_law_is_plain" st_lis_plain f fd) : FnOk P w K mg base (L2N.CX P w) (k + 1) f fd ps_lis_plain (spD K CA false 1 (fnD false 3 (gd_lis_plain))) := by
  refine def_ok F sc_lis_plain fun cdv A outer s H E hr => ?_
  have hun := hr.un
  have hu1 : (A.deeper (envOfC "_law_is_plain" (defScope st_lis_plain) s.heap.objs.size f cdv)).units + 1 < cLine := by omega
  have hu4 : (A.deeper (envOfC "_law_is_plain" (defScope st_lis_plain) s.heap.objs.size f cdv)).units + 4 < cLine := by omega
  have hu64 : (A.deeper (envOfC "_law_is_plain" (defScope st_lis_plain) s.heap.objs.size f cdv)).units + 64 < cLine := by omega
  have hu65 : (A.deeper (envOfC "_law_is_plain" (defScope st_lis_plain) s.heap.objs.size f cdv)).units + 65 < cLine := by omega
  have sc := sc_lis_plain
  exact (ds_cons (ds_set sc.nd rfl (by first | exact .inl rfl | exact .inr rfl) (de_callB call_len_seq cd_len rfl bl.n_len rfl (da_cons (de_var (pv 0)) da_nil))) (ds_one (ds_ret (de_eq hu64 (de_lenSetL rfl rfl bl.n_len rfl bl.n_set (de_comp (Z' := Zf CA) (ck := .lst _) rfl sc.nd (blkOk_by (own := [("k", 2)]) rfl) (di_rng1 rfl bl.n_range (de_var (pv 1))) ⟨⟨[2], by decide, (fun _ hB => by obtain ⟨_, _, _, _, _, rfl⟩ := hB; exact (dg_name sc.nd rfl (by first | exact .inl rfl | exact .inr rfl)))⟩, (fun _ hB => by obtain ⟨_, _, _, _, _, rfl⟩ := hB; exact dts_nil), rfl⟩ Cls.nil (lf_list (Z := Zf CA) (fun _ hB => by obtain ⟨_, _, _, _, _, rfl⟩ := hB; exact (de_mod (de_callTy call_int1 cd_int rfl bl.n_int rfl (da_cons (de_add (de_var (pv 2)) (de_ix (de_var (pv 0)) (de_var (pv 2)))) da_nil)) (de_var (pv 1))))) new_list)) (de_var (pv 1))))))
theorem sc_lpower : FnScope nn_lpower ps_lpower (defScope st_lpower) := ⟨rfl, rfl, rfl, by decide +kernel, rfl, by decide +kernel, by decide +kernel⟩
def gd_lpower : G :=
  (seqG (setG 2 (cst (.int 1))) (seqG (forG (itR1 (rdN 1)) (nmT 3) (setG 2 (ap2 (rdN 2) (rdN 0) (o2 dMulW)))) (retG (rdN 2))))
theorem ok_lpower {k : Nat} (bl : Blt mg) (ex : Exx P K mg CA) {f : Addr} {fd : FuncData} (F : Fun K "_law_power" "_law_power" st_lpower f fd) : FnOk P w K mg base (L2N.CX P w) (k + 1) f fd ps_lpower (spD K CA false 2 (fnD false 4 (gd_lpower))) := by
  refine def_ok F sc_lpower fun cdv A outer s H E hr => ?_
  have hun := hr.un
  have hu1 : (A.deeper (envOfC "_law_power" (defScope st_lpower) s.heap.objs.size f cdv)).units + 1 < cLine := by omega
  have hu4 : (A.deeper (envOfC "_law_power" (defScope st_lpower) s.heap.objs.size f cdv)).units + 4 < cLine := by omega
  have hu64 : (A.deeper (envOfC "_law_power" (defScope st_lpower) s.heap.objs.size f cdv)).units + 64 < cLine := by omega
  have hu65 : (A.deeper (envOfC "_law_power" (defScope st_lpower) s.heap.objs.size f cdv)).units + 65 < cLine := by omega
  have sc := sc_lpower
  exact (ds_cons (ds_set sc.nd rfl (by first | exact .inl rfl | exact .inr rfl) de_int) (ds_cons (ds_for (L2.passes_of rfl) rfl (di_rng1 rfl bl.n_range (de_var (pv 1))) (dg_name sc.nd rfl (by first | exact .inl rfl | exact .inr rfl)) (ds_one (ds_set sc.nd rfl (by first | exact .inl rfl | exact .inr rfl) (de_mulW (de_var (pv 2)) (de_var (pv 0)))))) (ds_one (ds_ret (de_var (pv 2))))))
theorem sc_lall : FnScope nn_lall ps_lall (defScope st_lall) := ⟨rfl, rfl, rfl, by decide +kernel, rfl, by decide +kernel, by decide +kernel⟩
def gd_lall : G :=
  (seqG (setG 2 (apN [(apN [(apN [] mkT), (rdN 1)] mkT)] mkL)) (seqG (forG (itR1 (ap2 (rdN 0) (cst (.int 1)) oSub)) (nmT 3) (seqG (setG 4 (apN [] mkL)) (seqG (forG (itL (rdN 2)) (tupT [(nmT 5), (nmT 6)]) (forG (itR1 (ap2 (rdN 6) (cst (.int 1)) oAdd)) (nmT 7) (exprG (appO 4 (apN [(ap2 (rdN 5) (apN [(rdN 7)] mkT) oAdd), (ap2 (rdN 6) (rdN 7) oSub)] mkT))))) (setG 2 (rdN 4))))) (retG (compG (itL (rdN 2)) (tupT [(nmT 5), (nmT 6)]) yesF [] [5, 6] (lfL (ap2 (rdN 5) (apN [(rdN 6)] mkT) oAdd)) (.lst []) finF))))
theorem ok_lall {k : Nat} (bl : Blt mg) (ex : Exx P K mg CA) {f : Addr} {fd : FuncData} (F : Fun K "_law_all" "_law_all" st_lall f fd) : FnOk P w K mg base (L2N.CX P w) (k + 1) f fd ps_lall (spD K CA false 2 (fnD false 8 (gd_lall))) := by
  refine def_ok F sc_lall fun cdv A outer s H E hr => ?_
  have hun := hr.un
  have hu1 : (A.deeper (envOfC "_law_all" (defScope st_lall) s.heap.objs.size f cdv)).units + 1 < cLine := by omega
  have hu4 : (A.deeper (envOfC "_law_all" (defScope st_lall) s.heap.objs.size f cdv)).units + 4 < cLine := by omega
  have hu64 : (A.deeper (envOfC "_law_all" (defScope st_lall) s.heap.objs.size f cdv)).units + 64 < cLine := by omega
  have hu65 : (A.deeper (envOfC "_law_all" (defScope st_lall) s.heap.objs.size f cdv)).units + 65 < cLine := by omega
  have sc := sc_lall
  exact (ds_cons (ds_set sc.nd rfl (by first | exact .inl rfl | exact .inr rfl) (de_lst (da_cons (de_tup (da_cons (de_tup da_nil) (da_cons (de_var (pv 1)) da_nil))) da_nil))) (ds_cons (ds_for (L2.passes_of rfl) rfl (di_rng1 rfl bl.n_range (de_sub (de_var (pv 0)) de_int)) (dg_name sc.nd rfl (by first | exact .inl rfl | exact .inr rfl)) (ds_cons (ds_set sc.nd rfl (by first | exact .inl rfl | exact .inr rfl) (de_lst da_nil)) (ds_cons (ds_for (L2.passes_of rfl) rfl (di_list (de_var (pv 2))) (dg_tup rfl (dgs_cons (dg_name sc.nd rfl (by first | exact .inl rfl | exact .inr rfl)) (dgs_cons (dg_name sc.nd rfl (by first | exact .inl rfl | exact .inr rfl)) dgs_nil)) rfl) (ds_one (ds_for (L2.passes_of rfl) rfl (di_rng1 rfl bl.n_range (de_add (de_var (pv 6)) de_int)) (dg_name sc.nd rfl (by first | exact .inl rfl | exact .inr rfl)) (ds_one (ds_expr (de_append (pv 4) (de_tup (da_cons (de_add (de_var (pv 5)) (de_tup (da_cons (de_var (pv 7)) da_nil))) (da_cons (de_sub (de_var (pv 6)) (de_var (pv 7))) da_nil))))))))) (ds_one (ds_set sc.nd rfl (by first | exact .inl rfl | exact .inr rfl) (de_var (pv 4))))))) (ds_one (ds_ret (de_comp (Z' := Zf CA) (ck := .lst _) rfl sc.nd (blkOk_by (own := [("row", 5), ("left", 6)]) rfl) (di_list (de_var (pv 2))) ⟨⟨[5, 6], by decide, (fun _ hB => by obtain ⟨_, _, _, _, _, rfl⟩ := hB; exact (dg_tup rfl (dgs_cons (dg_name sc.nd rfl (by first | exact .inl rfl | exact .inr rfl)) (dgs_cons (dg_name sc.nd rfl (by first | exact .inl rfl | exact .inr rfl)) dgs_nil)) rfl))⟩, (fun _ hB => by obtain ⟨_, _, _, _, _, rfl⟩ := hB; exact dts_nil), rfl⟩ Cls.nil (lf_list (Z := Zf CA) (fun _ hB => by obtain ⟨_, _, _, _, _, rfl⟩ := hB; exact (de_add (de_var (pv 5)) (de_tup (da_cons (de_var (pv 6)) da_nil))))) new_list)))))
theorem sc_lleast : FnScope nn_lleast ps_lleast (defScope st_lleast) := ⟨rfl, rfl, rfl, by decide +kernel, rfl, by decide +kernel, by decide +kernel⟩
def gd_lleast : G :=
  (retG (apN [(compG (itR1 (apN [(rdN 0)] (c1g lenO))) (nmT 1) yesF [] [1] (lfL (ap2 (slL (rdN 0) (rdN 1)) (slH (rdN 0) (rdN 1)) oAdd)) (.lst []) finF)] (c1g minTO)))
theorem ok_lleast {k : Nat} (bl : Blt mg) (ex : Exx P K mg CA) {f : Addr} {fd : FuncData} (F : Fun K "_law_least" "_law_least" st_lleast f fd) : FnOk P w K mg base (L2N.CX P w) (k + 1) f fd ps_lleast (spD K CA false 1 (fnD false 2 (gd_lleast))) := by
  refine def_ok F sc_lleast fun cdv A outer s H E hr => ?_
  have hun := hr.un
  have hu1 : (A.deeper (envOfC "_law_least" (defScope st_lleast) s.heap.objs.size f cdv)).units + 1 < cLine := by omega
  have hu4 : (A.deeper (envOfC "_law_least" (defScope st_lleast) s.heap.objs.size f cdv)).units + 4 < cLine := by omega
  have hu64 : (A.deeper (envOfC "_law_least" (defScope st_lleast) s.heap.objs.size f cdv)).units + 64 < cLine := by omega
  have hu65 : (A.deeper (envOfC "_law_least" (defScope st_lleast) s.heap.objs.size f cdv)).units + 65 < cLine := by omega
  have sc := sc_lleast
  exact (ds_one (ds_ret (de_callB (cr_minT rfl hu4) cd_minT rfl bl.n_min rfl (da_cons (de_comp (Z' := Zf CA) (ck := .lst _) rfl sc.nd (blkOk_by (own := [("k", 1)]) rfl) (di_rng1 rfl bl.n_range (de_callB call_len_seq cd_len rfl bl.n_len rfl (da_cons (de_var (pv 0)) da_nil))) ⟨⟨[1], by decide, (fun _ hB => by obtain ⟨_, _, _, _, _, rfl⟩ := hB; exact (dg_name sc.nd rfl (by first | exact .inl rfl | exact .inr rfl)))⟩, (fun _ hB => by obtain ⟨_, _, _, _, _, rfl⟩ := hB; exact dts_nil), rfl⟩ Cls.nil (lf_list (Z := Zf CA) (fun _ hB => by obtain ⟨_, _, _, _, _, rfl⟩ := hB; exact (de_add (de_slL (de_var (pv 0)) (de_var (pv 1))) (de_slH (de_var (pv 0)) (de_var (pv 1)))))) new_list) da_nil))))
theorem sc_ldivisor : FnScope nn_ldivisor ps_ldivisor (defScope st_ldivisor) := ⟨rfl, rfl, rfl, by decide +kernel, rfl, by decide +kernel, by decide +kernel⟩
noncomputable def gd_ldivisor : G :=
  (seqG (whileG (ap2 (rdN 1) (cst (.int 0)) (o2 dGt)) (parG 0 1 (rdN 1) (ap2 (apN [(rdN 0)] (c1g intO)) (rdN 1) (o2 dMod)))) (retG (rdN 0)))
theorem ok_ldivisor {k : Nat} (bl : Blt mg) (ex : Exx P K mg CA) {f : Addr} {fd : FuncData} (F : Fun K "_law_divisor" "_law_divisor" st_ldivisor f fd) : FnOk P w K mg base (L2N.CX P w) (k + 1) f fd ps_ldivisor (spD K CA false 2 (fnD false 2 (gd_ldivisor))) := by
  refine def_ok F sc_ldivisor fun cdv A outer s H E hr => ?_
  have hun := hr.un
  have hu1 : (A.deeper (envOfC "_law_divisor" (defScope st_ldivisor) s.heap.objs.size f cdv)).units + 1 < cLine := by omega
  have hu4 : (A.deeper (envOfC "_law_divisor" (defScope st_ldivisor) s.heap.objs.size f cdv)).units + 4 < cLine := by omega
  have hu64 : (A.deeper (envOfC "_law_divisor" (defScope st_ldivisor) s.heap.objs.size f cdv)).units + 64 < cLine := by omega
  have hu65 : (A.deeper (envOfC "_law_divisor" (defScope st_ldivisor) s.heap.objs.size f cdv)).units + 65 < cLine := by omega
  have sc := sc_ldivisor
  exact (ds_cons (ds_while (L2.passes_of rfl) (dt_cmp op_gt od_gt (de_var (pv 1)) de_int) (ds_one (ds_par rfl sc.nd rfl rfl (by decide) rfl rfl (de_var (pv 1)) (de_mod (de_callTy call_int1 cd_int rfl bl.n_int rfl (da_cons (de_var (pv 0)) da_nil)) (de_var (pv 1)))))) (ds_one (ds_ret (de_var (pv 0)))))
theorem sc_lis : FnScope nn_lis ps_lis (defScope st_lis) := ⟨rfl, rfl, rfl, by decide +kernel, rfl, by decide +kernel, by decide +kernel⟩
def gd_lis : G :=
  (retG (andF (apN [(rdN 0)] (c1g (isTO .int))) (andF (notF (apN [(rdN 0)] (c1g (isTO .bool)))) (ap2 (rdN 0) (rdN 1) (o2 dEq)))))
theorem ok_lis {k : Nat} (bl : Blt mg) (ex : Exx P K mg CA) {f : Addr} {fd : FuncData} (F : Fun K "_law_is" "_law_is" st_lis f fd) : FnOk P w K mg base (L2N.CX P w) (k + 1) f fd ps_lis (spD K CA false 2 (fnD false 2 (gd_lis))) := by
  refine def_ok F sc_lis fun cdv A outer s H E hr => ?_
  have hun := hr.un
  have hu1 : (A.deeper (envOfC "_law_is" (defScope st_lis) s.heap.objs.size f cdv)).units + 1 < cLine := by omega
  have hu4 : (A.deeper (envOfC "_law_is" (defScope st_lis) s.heap.objs.size f cdv)).units + 4 < cLine := by omega
  have hu64 : (A.deeper (envOfC "_law_is" (defScope st_lis) s.heap.objs.size f cdv)).units + 64 < cLine := by omega
  have hu65 : (A.deeper (envOfC "_law_is" (defScope st_lis) s.heap.objs.size f cdv)).units + 65 < cLine := by omega
  have sc := sc_lis
  exact (ds_one (ds_ret (de_and (de_isi .int (de_var (pv 0)) rfl bl.n_isinstance rfl rfl bl.n_int rfl) (de_and (de_not (de_isi .bool (de_var (pv 0)) rfl bl.n_isinstance rfl rfl bl.n_bool rfl)) (de_one (de_eq hu64 (de_var (pv 0)) (de_var (pv 1))))))))
theorem sc_law : FnScope nn_law ps_law (defScope st_law) := ⟨rfl, rfl, rfl, by decide +kernel, rfl, by decide +kernel, by decide +kernel⟩
def gd_law (fn_lall : Fn) (fn_ldivisor : Fn) (fn_lis : Fn) (fn_lis_plain : Fn) (fn_lleast : Fn) (fn_lpower : Fn) (fn_ltake : Fn) (fn_ltape : Fn) (fn_plain_count : Fn) (fn_unlike_count : Fn) : G :=
  (seqG (setG 1 (apN [(rdN 0), (cst (.int 0))] (callO false 2 fn_ltape))) (seqG (asgG (tupT [(nmT 4), (nmT 7)]) (ap2 (apN [(apN [(cst (.int 1)), (cst (.int 9))] mkT), (apN [(cst (.int 2)), (cst (.int 5))] mkT), (apN [(cst (.int 3)), (cst (.int 3))] mkT), (apN [(cst (.int 4)), (cst (.int 2))] mkT), (apN [(cst (.int 5)), (cst (.int 1))] mkT), (apN [(cst (.int 6)), (cst (.int 1))] mkT)] mkL) (apN [(rdN 1), (cst (.int 6))] (callO true 2 fn_ltake)) (o2g ixO))) (seqG (setG 2 (apN [(rdN 1), (ap2 (rdN 7) (cst (.int 1)) oAdd)] (callO true 2 fn_ltake))) (seqG (setG 3 (compG (itL (apN [(rdN 4), (ap2 (rdN 4) (rdN 2) oMul)] (callO false 2 fn_lall))) (nmT 9) (apN [(rdN 9)] (callO false 1 fn_lis_plain)) [] [9] (lfL (rdN 9)) (.lst []) finF)) (seqG (ifG (notF (apN [(apN [(rdN 2), (rdN 4)] (callO false 2 fn_plain_count)), (apN [(rdN 3)] (c1g lenO))] (callO false 2 fn_lis))) (retG (cst (.bl false))) passG) (seqG (ifG (notF (apN [(apN [(rdN 2), (rdN 4)] (callO false 2 fn_unlike_count)), (lenSetTF (compG (itL (rdN 3)) (nmT 9) yesF [] [9] (lfL (apN [(rdN 9)] (callO false 1 fn_lleast))) (.lst []) finF))] (callO false 2 fn_lis))) (retG (cst (.bl false))) passG) (seqG (setG 4 (ap2 (cst (.int 1)) (apN [(rdN 1), (cst (.int 40))] (callO true 2 fn_ltake)) oAdd)) (seqG (setG 2 (apN [(rdN 1), (ap2 (apN [(cst (.int 10)), (cst (.int 41))] mkL) (apN [(rdN 1), (cst (.int 2))] (callO true 2 fn_ltake)) (o2g ixO))] (callO true 2 fn_ltake))) (seqG (ifG (ap2 (apN [(rdN 1), (cst (.int 3))] (callO true 2 fn_ltake)) (cst (.int 0)) (o2 dEq)) (seqG (setG 4 (ap2 (cst (.int 1)) (apN [(rdN 1), (cst (.int 6))] (callO true 2 fn_ltake)) oAdd)) (setG 2 (ap2 (ap2 (rdN 2) (ap2 (cst (.int 10)) (cst (.int 28)) (o2 dPow)) oMul) (apN [(rdN 1), (cst (.int 1000))] (callO true 2 fn_ltake)) oAdd))) passG) (seqG (setG 5 (cst (.int 0))) (seqG (forG (itR2 (cst (.int 1)) (ap2 (rdN 4) (cst (.int 1)) oAdd)) (nmT 6) (seqG (setG 8 (apN [(rdN 4), (rdN 6)] (callO false 2 fn_ldivisor))) (setG 5 (ap2 (ap2 (rdN 5) (apN [(ap2 (rdN 2) (cst (.int 1)) oAdd), (rdN 8)] (callO false 2 fn_lpower)) oAdd) (apN [(rdN 2), (rdN 8)] (callO false 2 fn_lpower)) oSub)))) (seqG (ifG (notF (apN [(apN [(rdN 2), (rdN 4)] (callO false 2 fn_plain_count)), (ap2 (apN [(ap2 (rdN 2) (cst (.int 1)) oAdd), (rdN 4)] (callO false 2 fn_lpower)) (apN [(rdN 2), (rdN 4)] (callO false 2 fn_lpower)) oSub)] (callO false 2 fn_lis))) (retG (cst (.bl false))) passG) (retG (andF (apN [(apN [(rdN 2), (rdN 4)] (callO false 2 fn_unlike_count)), (ap2 (rdN 5) (rdN 4) (o2 dDiv))] (callO false 2 fn_lis)) (ap2 (ap2 (ap2 (rdN 5) (rdN 4) (o2 dDiv)) (rdN 4) oMul) (rdN 5) (o2 dEq))))))))))))))))
theorem ok_law {k : Nat} (fn_lall : Fn) (fn_ldivisor : Fn) (fn_lis : Fn) (fn_lis_plain : Fn) (fn_lleast : Fn) (fn_lpower : Fn) (fn_ltake : Fn) (fn_ltape : Fn) (fn_plain_count : Fn) (fn_unlike_count : Fn) (bl : Blt mg) (ex : Exx P K mg CA) {f_lall : Addr} {fd_lall : FuncData} (c_lall : Cal K mg "_law_all" f_lall fd_lall ps_lall) {f_ldivisor : Addr} {fd_ldivisor : FuncData} (c_ldivisor : Cal K mg "_law_divisor" f_ldivisor fd_ldivisor ps_ldivisor) {f_lis : Addr} {fd_lis : FuncData} (c_lis : Cal K mg "_law_is" f_lis fd_lis ps_lis) {f_lis_plain : Addr} {fd_lis_plain : FuncData} (c_lis_plain : Cal K mg "_law_is_plain" f_lis_plain fd_lis_plain ps_lis_plain) {f_lleast : Addr} {fd_lleast : FuncData} (c_lleast : Cal K mg "_law_least" f_lleast fd_lleast ps_lleast) {f_lpower : Addr} {fd_lpower : FuncData} (c_lpower : Cal K mg "_law_power" f_lpower fd_lpower ps_lpower) {f_ltake : Addr} {fd_ltake : FuncData} (c_ltake : Cal K mg "_law_take" f_ltake fd_ltake ps_ltake) {f_ltape : Addr} {fd_ltape : FuncData} (c_ltape : Cal K mg "_law_tape" f_ltape fd_ltape ps_ltape) {f_plain_count : Addr} {fd_plain_count : FuncData} (c_plain_count : Cal K mg "plain_count" f_plain_count fd_plain_count ps_plain_count) {f_unlike_count : Addr} {fd_unlike_count : FuncData} (c_unlike_count : Cal K mg "unlike_count" f_unlike_count fd_unlike_count ps_unlike_count) (G_lall : FnOk P w K mg base (L2N.CX P w) k f_lall fd_lall ps_lall (spD K CA false 2 fn_lall)) (G_ldivisor : FnOk P w K mg base (L2N.CX P w) k f_ldivisor fd_ldivisor ps_ldivisor (spD K CA false 2 fn_ldivisor)) (G_lis : FnOk P w K mg base (L2N.CX P w) k f_lis fd_lis ps_lis (spD K CA false 2 fn_lis)) (G_lis_plain : FnOk P w K mg base (L2N.CX P w) k f_lis_plain fd_lis_plain ps_lis_plain (spD K CA false 1 fn_lis_plain)) (G_lleast : FnOk P w K mg base (L2N.CX P w) k f_lleast fd_lleast ps_lleast (spD K CA false 1 fn_lleast)) (G_lpower : FnOk P w K mg base (L2N.CX P w) k f_lpower fd_lpower ps_lpower (spD K CA false 2 fn_lpower)) (G_ltake : FnOk P w K mg base (L2N.CX P w) k f_ltake fd_ltake ps_ltake (spD K CA true 2 fn_ltake)) (G_ltape : FnOk P w K mg base (L2N.CX P w) k f_ltape fd_ltape ps_ltape (spD K CA false 2 fn_ltape)) (G_plain_count : FnOk P w K mg base (L2N.CX P w) k f_plain_count fd_plain_count ps_plain_count (spD K CA false 2 fn_plain_count)) (G_unlike_count : FnOk P w K mg base (L2N.CX P w) k f_unlike_count fd_unlike_count ps_unlike_count (spD K CA false 2 fn_unlike_count)) {f : Addr} {fd : FuncData} (F : Fun K "law" "law" st_law f fd) : FnOk P w K mg base (L2N.CX P w) (k + 1) f fd ps_law (spD K CA false 1 (fnD false 10 (gd_law fn_lall fn_ldivisor fn_lis fn_lis_plain fn_lleast fn_lpower fn_ltake fn_ltape fn_plain_count fn_unlike_count))) := by
  refine def_ok F sc_law fun cdv A outer s H E hr => ?_
  have hun := hr.un
  have hu1 : (A.deeper (envOfC "law" (defScope st_law) s.heap.objs.size f cdv)).units + 1 < cLine := by omega
  have hu4 : (A.deeper (envOfC "law" (defScope st_law) s.heap.objs.size f cdv)).units + 4 < cLine := by omega
  have hu64 : (A.deeper (envOfC "law" (defScope st_law) s.heap.objs.size f cdv)).units + 64 < cLine := by omega
  have hu65 : (A.deeper (envOfC "law" (defScope st_law) s.heap.objs.size f cdv)).units + 65 < cLine := by omega
  have sc := sc_law
  exact (ds_cons (ds_set sc.nd rfl (by first | exact .inl rfl | exact .inr rfl) (de_call (ps := ps_ltape) G_ltape hr rfl c_ltape.g c_ltape.k c_ltape.b (L2N.takes_of rfl rfl rfl rfl) (da_cons (de_var (pv 0)) (da_cons de_int da_nil)))) (ds_cons (ds_asg (de_ix (de_lst (da_cons (de_tup (da_cons de_int (da_cons de_int da_nil))) (da_cons (de_tup (da_cons de_int (da_cons de_int da_nil))) (da_cons (de_tup (da_cons de_int (da_cons de_int da_nil))) (da_cons (de_tup (da_cons de_int (da_cons de_int da_nil))) (da_cons (de_tup (da_cons de_int (da_cons de_int da_nil))) (da_cons (de_tup (da_cons de_int (da_cons de_int da_nil))) da_nil))))))) (de_call (ps := ps_ltake) G_ltake hr rfl c_ltake.g c_ltake.k c_ltake.b (L2N.takes_of rfl rfl rfl rfl) (da_cons (de_var (pv 1)) (da_cons de_int da_nil)))) (dg_tup rfl (dgs_cons (dg_name sc.nd rfl (by first | exact .inl rfl | exact .inr rfl)) (dgs_cons (dg_name sc.nd rfl (by first | exact .inl rfl | exact .inr rfl)) dgs_nil)) rfl)) (ds_cons (ds_set sc.nd rfl (by first | exact .inl rfl | exact .inr rfl) (de_call (ps := ps_ltake) G_ltake hr rfl c_ltake.g c_ltake.k c_ltake.b (L2N.takes_of rfl rfl rfl rfl) (da_cons (de_var (pv 1)) (da_cons (de_add (de_var (pv 7)) de_int) da_nil)))) (ds_cons (ds_setC (Z' := Zf CA) (ck := .lst _) rfl sc.nd rfl rfl (blkOk_by (own := [("row", 9)]) rfl) (di_list (de_call (ps := ps_lall) G_lall hr rfl c_lall.g c_lall.k c_lall.b (L2N.takes_of rfl rfl rfl rfl) (da_cons (de_var (pv 4)) (da_cons (de_mul (de_var (pv 4)) (de_var (pv 2))) da_nil)))) ⟨⟨[9], by decide, (fun _ hB => by obtain ⟨_, _, _, _, _, rfl⟩ := hB; exact (dg_name sc.nd rfl (by first | exact .inl rfl | exact .inr rfl)))⟩, (fun _ hB => by obtain ⟨_, _, _, _, _, rfl⟩ := hB; exact (dts_one (dt_val (de_call (ps := ps_lis_plain) G_lis_plain hr rfl c_lis_plain.g c_lis_plain.k c_lis_plain.b takesN0 (da_cons (de_var (pv 9)) da_nil))))), rfl⟩ Cls.nil (lf_list (Z := Zf CA) (fun _ hB => by obtain ⟨_, _, _, _, _, rfl⟩ := hB; exact (de_var (pv 9)))) new_list (sw_true rfl rfl rfl rfl)) (ds_cons (ds_if (dt_not (dt_val (de_call (ps := ps_lis) G_lis hr rfl c_lis.g c_lis.k c_lis.b (L2N.takes_of rfl rfl rfl rfl) (da_cons (de_call (ps := ps_plain_count) G_plain_count hr rfl c_plain_count.g c_plain_count.k c_plain_count.b (L2N.takes_of rfl rfl rfl rfl) (da_cons (de_var (pv 2)) (da_cons (de_var (pv 4)) da_nil))) (da_cons (de_callB call_len_seq cd_len rfl bl.n_len rfl (da_cons (de_var (pv 3)) da_nil)) da_nil))))) (ds_one (ds_ret de_bl)) ds_nil) (ds_cons (ds_if (dt_not (dt_val (de_call (ps := ps_lis) G_lis hr rfl c_lis.g c_lis.k c_lis.b (L2N.takes_of rfl rfl rfl rfl) (da_cons (de_call (ps := ps_unlike_count) G_unlike_count hr rfl c_unlike_count.g c_unlike_count.k c_unlike_count.b (L2N.takes_of rfl rfl rfl rfl) (da_cons (de_var (pv 2)) (da_cons (de_var (pv 4)) da_nil))) (da_cons (de_lenSetT rfl hu64 rfl bl.n_len rfl bl.n_set (de_comp (Z' := Zf CA) (ck := .lst _) rfl sc.nd (blkOk_by (own := [("row", 9)]) rfl) (di_list (de_var (pv 3))) ⟨⟨[9], by decide, (fun _ hB => by obtain ⟨_, _, _, _, _, rfl⟩ := hB; exact (dg_name sc.nd rfl (by first | exact .inl rfl | exact .inr rfl)))⟩, (fun _ hB => by obtain ⟨_, _, _, _, _, rfl⟩ := hB; exact dts_nil), rfl⟩ Cls.nil (lf_list (Z := Zf CA) (fun _ hB => by obtain ⟨_, _, _, _, _, rfl⟩ := hB; exact (de_call (ps := ps_lleast) G_lleast hr rfl c_lleast.g c_lleast.k c_lleast.b takesN0 (da_cons (de_var (pv 9)) da_nil)))) new_list)) da_nil))))) (ds_one (ds_ret de_bl)) ds_nil) (ds_cons (ds_set sc.nd rfl (by first | exact .inl rfl | exact .inr rfl) (de_add de_int (de_call (ps := ps_ltake) G_ltake hr rfl c_ltake.g c_ltake.k c_ltake.b (L2N.takes_of rfl rfl rfl rfl) (da_cons (de_var (pv 1)) (da_cons de_int da_nil))))) (ds_cons (ds_set sc.nd rfl (by first | exact .inl rfl | exact .inr rfl) (de_call (ps := ps_ltake) G_ltake hr rfl c_ltake.g c_ltake.k c_ltake.b (L2N.takes_of rfl rfl rfl rfl) (da_cons (de_var (pv 1)) (da_cons (de_ix (de_lst (da_cons de_int (da_cons de_int da_nil))) (de_call (ps := ps_ltake) G_ltake hr rfl c_ltake.g c_ltake.k c_ltake.b (L2N.takes_of rfl rfl rfl rfl) (da_cons (de_var (pv 1)) (da_cons de_int da_nil)))) da_nil)))) (ds_cons (ds_if (dt_cmp (op_eqD hu64) od_eq (de_call (ps := ps_ltake) G_ltake hr rfl c_ltake.g c_ltake.k c_ltake.b (L2N.takes_of rfl rfl rfl rfl) (da_cons (de_var (pv 1)) (da_cons de_int da_nil))) de_int) (ds_cons (ds_set sc.nd rfl (by first | exact .inl rfl | exact .inr rfl) (de_add de_int (de_call (ps := ps_ltake) G_ltake hr rfl c_ltake.g c_ltake.k c_ltake.b (L2N.takes_of rfl rfl rfl rfl) (da_cons (de_var (pv 1)) (da_cons de_int da_nil))))) (ds_one (ds_set sc.nd rfl (by first | exact .inl rfl | exact .inr rfl) (de_add (de_mul (de_var (pv 2)) (de_pow de_int de_int)) (de_call (ps := ps_ltake) G_ltake hr rfl c_ltake.g c_ltake.k c_ltake.b (L2N.takes_of rfl rfl rfl rfl) (da_cons (de_var (pv 1)) (da_cons de_int da_nil))))))) ds_nil) (ds_cons (ds_set sc.nd rfl (by first | exact .inl rfl | exact .inr rfl) de_int) (ds_cons (ds_for (L2.passes_of rfl) rfl (di_rng2 rfl bl.n_range de_int (de_add (de_var (pv 4)) de_int)) (dg_name sc.nd rfl (by first | exact .inl rfl | exact .inr rfl)) (ds_cons (ds_set sc.nd rfl (by first | exact .inl rfl | exact .inr rfl) (de_call (ps := ps_ldivisor) G_ldivisor hr rfl c_ldivisor.g c_ldivisor.k c_ldivisor.b (L2N.takes_of rfl rfl rfl rfl) (da_cons (de_var (pv 4)) (da_cons (de_var (pv 6)) da_nil)))) (ds_one (ds_set sc.nd rfl (by first | exact .inl rfl | exact .inr rfl) (de_sub (de_add (de_var (pv 5)) (de_call (ps := ps_lpower) G_lpower hr rfl c_lpower.g c_lpower.k c_lpower.b (L2N.takes_of rfl rfl rfl rfl) (da_cons (de_add (de_var (pv 2)) de_int) (da_cons (de_var (pv 8)) da_nil)))) (de_call (ps := ps_lpower) G_lpower hr rfl c_lpower.g c_lpower.k c_lpower.b (L2N.takes_of rfl rfl rfl rfl) (da_cons (de_var (pv 2)) (da_cons (de_var (pv 8)) da_nil)))))))) (ds_cons (ds_if (dt_not (dt_val (de_call (ps := ps_lis) G_lis hr rfl c_lis.g c_lis.k c_lis.b (L2N.takes_of rfl rfl rfl rfl) (da_cons (de_call (ps := ps_plain_count) G_plain_count hr rfl c_plain_count.g c_plain_count.k c_plain_count.b (L2N.takes_of rfl rfl rfl rfl) (da_cons (de_var (pv 2)) (da_cons (de_var (pv 4)) da_nil))) (da_cons (de_sub (de_call (ps := ps_lpower) G_lpower hr rfl c_lpower.g c_lpower.k c_lpower.b (L2N.takes_of rfl rfl rfl rfl) (da_cons (de_add (de_var (pv 2)) de_int) (da_cons (de_var (pv 4)) da_nil))) (de_call (ps := ps_lpower) G_lpower hr rfl c_lpower.g c_lpower.k c_lpower.b (L2N.takes_of rfl rfl rfl rfl) (da_cons (de_var (pv 2)) (da_cons (de_var (pv 4)) da_nil)))) da_nil))))) (ds_one (ds_ret de_bl)) ds_nil) (ds_one (ds_ret (de_and (de_call (ps := ps_lis) G_lis hr rfl c_lis.g c_lis.k c_lis.b (L2N.takes_of rfl rfl rfl rfl) (da_cons (de_call (ps := ps_unlike_count) G_unlike_count hr rfl c_unlike_count.g c_unlike_count.k c_unlike_count.b (L2N.takes_of rfl rfl rfl rfl) (da_cons (de_var (pv 2)) (da_cons (de_var (pv 4)) da_nil))) (da_cons (de_div (de_var (pv 5)) (de_var (pv 4))) da_nil))) (de_one (de_eq hu64 (de_mul (de_div (de_var (pv 5)) (de_var (pv 4))) (de_var (pv 4))) (de_var (pv 5)))))))))))))))))))
end K13

set_option Elab.async false
set_option linter.all false
set_option maxRecDepth 100000
/-! A walk over denotations: there is an outcome, and it is good. -/
namespace DL
open PySem L2
def wO {α : Type} (o : Option α) (Q : α → Prop) : Prop := ∃ x, o = some x ∧ Q x
section
variable {α β : Type} {Q P : α → Prop}
theorem wO_some {x : α} : wO (some x) Q ↔ Q x := ⟨fun ⟨_, e, q⟩ => by cases e; exact q, fun q => ⟨_, rfl, q⟩⟩
theorem wO_none : wO (none : Option α) Q ↔ False := ⟨fun ⟨_, e, _⟩ => (by cases e), fun q => q.elim⟩
theorem wO_ite {c : Prop} [Decidable c] {a b : Option α} : wO (if c then a else b) Q ↔ (c → wO a Q) ∧ (¬ c → wO b Q) := by
  by_cases h : c <;> simp [h]
theorem wO_map {f : β → α} {o : Option β} : wO (o.map f) Q ↔ wO o fun x => Q (f x) := by
  cases o <;> simp [wO]
theorem wO_mono {o : Option α} (h : wO o P) (k : ∀ x, P x → Q x) : wO o Q := by
  obtain ⟨x, e, p⟩ := h
  exact ⟨x, e, k x p⟩
theorem wO_of {o : Option α} {x : α} (e : o = some x) (q : Q x) : wO o Q := ⟨x, e, q⟩
end
/-! ### continuations -/
def kE (k : R → Nv → Option Out) (Q : Out → Prop) : Out → Prop
  | .ok r e => wO (k r e) Q
  | .exc x e => Q (.exc x e)
def kS (k : R → Nv → Option SO) (Q : SO → Prop) : Out → Prop
  | .ok r e => wO (k r e) Q
  | .exc x e => Q (.exc x e)
def kI (k : R → Nv → Option IO) (Q : IO → Prop) : Out → Prop
  | .ok r e => wO (k r e) Q
  | .exc x e => Q (.exc x e)
def kB (k : Bool → Nv → Option Out) (Q : Out → Prop) : Out → Prop
  | .ok (.val (.bl b)) e => wO (k b e) Q
  | .exc x e => Q (.exc x e)
  | _ => False
def kBS (k : Bool → Nv → Option SO) (Q : SO → Prop) : Out → Prop
  | .ok (.val (.bl b)) e => wO (k b e) Q
  | .exc x e => Q (.exc x e)
  | _ => False
def kG (g : G) (Q : SO → Prop) : SO → Prop
  | .nx e => wO (g e) Q
  | o => Q o
def kFor (t : T1) (b : G) (Q : SO → Prop) : IO → Prop
  | .ok ds e => wO (loopG t b ds e) Q
  | .exc x e => Q (.exc x e)
def kComp (t : T1) (c : F) (cls : List Cl) (vs : List Nat) (leaf : Lf) (acc0 : DL.D) (fin : DL.D → Nv → Option Out) (Q : Out → Prop) : IO → Prop
  | .ok ds e1 => noOwn e1 vs = true ∧ wO (loopC t c (compC leaf cls) ds (wipeE e1 vs) acc0) (fun z => wO (fin z.2 (restE e1 vs z.1)) Q)
  | .exc x e => Q (.exc x e)
def kCl (t : T1) (c : F) (cls : List Cl) (leaf : Lf) (acc : DL.D) (Q : Nv × DL.D → Prop) : IO → Prop
  | .ok ds e1 => wO (loopC t c (compC leaf cls) ds e1 acc) Q
  | .exc x e => False
def kX (m : Bool) (Q : FR → Prop) : SO → Prop
  | .nx env => wO (tpOf m env) fun tp => Q (.ok false .non tp)
  | .rt r env => wO (tpOf m env) fun tp => wO (resOf r env) fun p => Q (.ok p.1 p.2 tp)
  | .exc x env => wO (tpOf m env) fun tp => Q (.exc x tp)
  | _ => False
def kF (k : DL.D → Nv) (Q : Out → Prop) : FR → Prop
  | .ok fr d tp => Q (.ok (if fr then .frs d else .val d) (k tp))
  | .exc x tp => Q (.exc x (k tp))
def kL (J : Nv → Prop) (Q : SO → Prop) : SO → Prop
  | .nx e => J e
  | .ct e => J e
  | .bk e => Q (.nx e)
  | .rt r e => Q (.rt r e)
  | .exc x e => Q (.exc x e)
def kT (b : Bool) (I K : Nv → Prop) : Out → Prop
  | .ok (.val (.bl c)) e => c = b ∧ (b = false → I e) ∧ (b = true → K e)
  | _ => False
def kV (d : DL.D) (I : Nv → Prop) : Out → Prop
  | .ok r e => wO (kp (hold r) e) fun z => z.1 = d ∧ I z.2
  | _ => False
def kU (J K : Nv → Prop) : Out → Prop
  | .ok (.val (.bl b)) e => (b = true → K e) ∧ (b = false → J e)
  | _ => False

theorem kE_ok {k : R → Nv → Option Out} {Q : Out → Prop} {r : R} {e : Nv} : kE k Q (.ok r e) = wO (k r e) Q := rfl
theorem kE_exc {k : R → Nv → Option Out} {Q : Out → Prop} {x : Ex} {e : Nv} : kE k Q (.exc x e) = Q (.exc x e) := rfl
theorem kS_ok {k : R → Nv → Option SO} {Q : SO → Prop} {r : R} {e : Nv} : kS k Q (.ok r e) = wO (k r e) Q := rfl
theorem kS_exc {k : R → Nv → Option SO} {Q : SO → Prop} {x : Ex} {e : Nv} : kS k Q (.exc x e) = Q (.exc x e) := rfl
theorem kI_ok {k : R → Nv → Option IO} {Q : IO → Prop} {r : R} {e : Nv} : kI k Q (.ok r e) = wO (k r e) Q := rfl
theorem kI_exc {k : R → Nv → Option IO} {Q : IO → Prop} {x : Ex} {e : Nv} : kI k Q (.exc x e) = Q (.exc x e) := rfl
theorem kB_ok {k : Bool → Nv → Option Out} {Q : Out → Prop} {b : Bool} {e : Nv} : kB k Q (.ok (.val (.bl b)) e) = wO (k b e) Q := rfl
theorem kB_exc {k : Bool → Nv → Option Out} {Q : Out → Prop} {x : Ex} {e : Nv} : kB k Q (.exc x e) = Q (.exc x e) := rfl
theorem kBS_ok {k : Bool → Nv → Option SO} {Q : SO → Prop} {b : Bool} {e : Nv} : kBS k Q (.ok (.val (.bl b)) e) = wO (k b e) Q := rfl
theorem kBS_exc {k : Bool → Nv → Option SO} {Q : SO → Prop} {x : Ex} {e : Nv} : kBS k Q (.exc x e) = Q (.exc x e) := rfl
section
variable {g : G} {Q : SO → Prop} {e : Nv} {r : R} {x : Ex}
theorem kG_nx : kG g Q (.nx e) = wO (g e) Q := rfl
theorem kG_rt : kG g Q (.rt r e) = Q (.rt r e) := rfl
theorem kG_exc : kG g Q (.exc x e) = Q (.exc x e) := rfl
theorem kG_bk : kG g Q (.bk e) = Q (.bk e) := rfl
theorem kG_ct : kG g Q (.ct e) = Q (.ct e) := rfl
variable {J : Nv → Prop}
theorem kL_nx : kL J Q (.nx e) = J e := rfl
theorem kL_ct : kL J Q (.ct e) = J e := rfl
theorem kL_bk : kL J Q (.bk e) = Q (.nx e) := rfl
theorem kL_rt : kL J Q (.rt r e) = Q (.rt r e) := rfl
theorem kL_exc : kL J Q (.exc x e) = Q (.exc x e) := rfl
theorem kFor_ok {t : T1} {b : G} {ds : List DL.D} : kFor t b Q (.ok ds e) = wO (loopG t b ds e) Q := rfl
theorem kFor_exc {t : T1} {b : G} : kFor t b Q (.exc x e) = Q (.exc x e) := rfl
end
theorem kComp_ok {t : T1} {c : F} {cls : List Cl} {vs : List Nat} {leaf : Lf} {acc0 : DL.D} {fin : DL.D → Nv → Option Out} {Q : Out → Prop} {ds : List DL.D} {e1 : Nv} :
    kComp t c cls vs leaf acc0 fin Q (.ok ds e1) = (noOwn e1 vs = true ∧ wO (loopC t c (compC leaf cls) ds (wipeE e1 vs) acc0) (fun z => wO (fin z.2 (restE e1 vs z.1)) Q)) := rfl
theorem kCl_ok {t : T1} {c : F} {cls : List Cl} {leaf : Lf} {acc : DL.D} {Q : Nv × DL.D → Prop} {ds : List DL.D} {e1 : Nv} : kCl t c cls leaf acc Q (.ok ds e1) = wO (loopC t c (compC leaf cls) ds e1 acc) Q := rfl
theorem kX_nx {m : Bool} {Q : FR → Prop} {e : Nv} : kX m Q (.nx e) = wO (tpOf m e) fun tp => Q (.ok false .non tp) := rfl
theorem kX_rt {m : Bool} {Q : FR → Prop} {e : Nv} {r : R} : kX m Q (.rt r e) = wO (tpOf m e) fun tp => wO (resOf r e) fun p => Q (.ok p.1 p.2 tp) := rfl
theorem kX_exc {m : Bool} {Q : FR → Prop} {e : Nv} {x : Ex} : kX m Q (.exc x e) = wO (tpOf m e) fun tp => Q (.exc x tp) := rfl
theorem kF_v {k : DL.D → Nv} {Q : Out → Prop} {d tp : DL.D} : kF k Q (.ok false d tp) = Q (.ok (.val d) (k tp)) := rfl
theorem kF_f {k : DL.D → Nv} {Q : Out → Prop} {d tp : DL.D} : kF k Q (.ok true d tp) = Q (.ok (.frs d) (k tp)) := rfl
theorem kF_exc {k : DL.D → Nv} {Q : Out → Prop} {x : Ex} {tp : DL.D} : kF k Q (.exc x tp) = Q (.exc x (k tp)) := rfl
theorem kT_ok {b c : Bool} {I K : Nv → Prop} {e : Nv} : kT b I K (.ok (.val (.bl c)) e) = (c = b ∧ (b = false → I e) ∧ (b = true → K e)) := rfl
theorem kV_ok {d : DL.D} {I : Nv → Prop} {r : R} {e : Nv} : kV d I (.ok r e) = wO (kp (hold r) e) fun z => z.1 = d ∧ I z.2 := rfl
theorem kU_ok {J K : Nv → Prop} {b : Bool} {e : Nv} : kU J K (.ok (.val (.bl b)) e) = ((b = true → K e) ∧ (b = false → J e)) := rfl
/-! ### the combinators -/
section
variable {Q : Out → Prop} {QS : SO → Prop} {env : Nv}
theorem wO_bnd {o : Option Out} {k : R → Nv → Option Out} : wO (bnd o k) Q ↔ wO o (kE k Q) := by
  rcases o with _ | (⟨r, e⟩ | ⟨x, e⟩) <;> simp [bnd, wO_none, wO_some, kE]
theorem wO_bndS {o : Option Out} {k : R → Nv → Option SO} : wO (bndS o k) QS ↔ wO o (kS k QS) := by
  rcases o with _ | (⟨r, e⟩ | ⟨x, e⟩) <;> simp [bndS, wO_none, wO_some, kS]
theorem wO_bndI {o : Option Out} {k : R → Nv → Option IO} {QI : IO → Prop} : wO (bndI o k) QI ↔ wO o (kI k QI) := by
  rcases o with _ | (⟨r, e⟩ | ⟨x, e⟩) <;> simp [bndI, wO_none, wO_some, kI]
theorem wO_bndB {o : Option Out} {k : Bool → Nv → Option Out} : wO (bndB o k) Q ↔ wO o (kB k Q) := by
  rcases o with _ | (⟨r, e⟩ | ⟨x, e⟩) <;> try simp [bndB, wO_none, wO_some, kB]
  rcases r with d | _ | _ <;> try simp [wO_none]
  cases d <;> simp [wO_none, wO]
theorem wO_bndBS {o : Option Out} {k : Bool → Nv → Option SO} : wO (bndBS o k) QS ↔ wO o (kBS k QS) := by
  rcases o with _ | (⟨r, e⟩ | ⟨x, e⟩) <;> try simp [bndBS, wO_none, wO_some, kBS]
  rcases r with d | _ | _ <;> try simp [wO_none]
  cases d <;> simp [wO_none, wO]
theorem wO_seq {f g : G} : wO (seqG f g env) QS ↔ wO (f env) (kG g QS) := by
  unfold seqG
  rcases f env with _ | (_ | _ | _ | _ | _) <;> simp [wO_none, wO_some, kG]
theorem wO_set {i : Nat} {f : F} : wO (setG i f env) QS ↔ wO (f env) (kS (fun r e => (put i r e).map SO.nx) QS) := wO_bndS
theorem wO_ret {f : F} : wO (retG f env) QS ↔ wO (f env) (kS (fun r e => some (.rt r e)) QS) := wO_bndS
theorem wO_expr {f : F} : wO (exprG f env) QS ↔ wO (f env) (kS (fun r e => some (.nx e)) QS) := wO_bndS
theorem wO_if {c : F} {f g : G} : wO (ifG c f g env) QS ↔ wO (c env) (kBS (fun b e => if b then f e else g e) QS) := wO_bndBS
theorem wO_retN : wO (retN env) QS ↔ QS (.rt (.val .non) env) := wO_some
theorem wO_pass : wO (passG env) QS ↔ QS (.nx env) := wO_some
theorem wO_brk : wO (brkG env) QS ↔ QS (.bk env) := wO_some
theorem wO_ctG : wO (ctG env) QS ↔ QS (.ct env) := wO_some
theorem wO_and {f g : F} : wO (andF f g env) Q ↔ wO (f env) (kB (fun b e => if b then g e else rB false e) Q) := wO_bndB
theorem wO_or {f g : F} : wO (orF f g env) Q ↔ wO (f env) (kB (fun b e => if b then rB true e else g e) Q) := wO_bndB
theorem wO_not {f : F} : wO (notF f env) Q ↔ wO (f env) (kB (fun b e => rB (!b) e) Q) := wO_bndB
theorem wO_ifF {c f g : F} : wO (ifF c f g env) Q ↔ wO (c env) (kB (fun b e => if b then f e else g e) Q) := wO_bndB
theorem rB_eq {b : Bool} : rB b env = some (.ok (.val (.bl b)) env) := rfl
theorem yesF_eq : yesF env = some (.ok (.val (.bl true)) env) := rfl
theorem finF_eq {d : DL.D} : finF d env = some (.ok (.frs d) env) := rfl
theorem cst_eq {d : DL.D} : cst d env = some (.ok (.val d) env) := rfl
theorem wO_for {it : FI} {t : T1} {b : G} : wO (forG it t b env) QS ↔ wO (it env) (kFor t b QS) := by
  unfold forG
  rcases it env with _ | (_ | _) <;> simp [wO_none, wO_some, kFor]
theorem wO_compG {it : FI} {t : T1} {c : F} {cls : List Cl} {vs : List Nat} {leaf : Lf} {acc0 : DL.D} {fin : DL.D → Nv → Option Out} : wO (compG it t c cls vs leaf acc0 fin env) Q ↔ wO (it env) (kComp t c cls vs leaf acc0 fin Q) := by
  unfold compG
  rcases it env with _ | (⟨ds, e1⟩ | _)
  · simp [wO_none]
  · simp only [wO_some, kComp]
    cases h : noOwn e1 vs
    · simp [wO_none]
    · simp only [if_true, true_and]
      rcases loopC t c (compC leaf cls) ds (wipeE e1 vs) acc0 with _ | ⟨eE, acc⟩ <;> simp [wO_none, wO_some]
  · simp [wO_some, kComp]
theorem wO_compC {it : FI} {t : T1} {c : F} {cls : List Cl} {leaf : Lf} {acc : DL.D} {QL : Nv × DL.D → Prop} : wO (compC leaf ((it, t, c) :: cls) env acc) QL ↔ wO (it env) (kCl t c cls leaf acc QL) := by
  simp only [compC]
  rcases it env with _ | (⟨ds, e1⟩ | _) <;> simp [wO_none, wO_some, kCl]
theorem compC_nil {leaf : Lf} {acc : DL.D} : compC leaf [] env acc = leaf env acc := rfl
theorem wO_evs_nil {k : List R → Nv → Option Out} : evs [] env k = k [] env := rfl
theorem wO_evs_cons {f : F} {fs : List F} {k : List R → Nv → Option Out} : evs (f :: fs) env k = bnd (f env) fun r env1 => evs fs env1 fun rs env2 => k (hold r :: rs) env2 := rfl
theorem ap2_eq {f g : F} {o : O2} : ap2 f g o env = bnd (f env) fun p e1 => bnd (g e1) fun q e2 => o (hold p) (hold q) e2 := rfl
theorem apN_eq {fs : List F} {o : List R → Nv → Option Out} : apN fs o env = evs fs env o := rfl
theorem hold_val {d : DL.D} : hold (.val d) = .val d := rfl
theorem hold_slot {i : Nat} : hold (.slot i) = .slot i := rfl
theorem hold_frs {d : DL.D} : hold (.frs d) = .val d := rfl
/-! ### slots -/
def rdS (o : Option (Option Sl)) (i : Nat) (env : Nv) : Option Out := match o with
  | some (some (.val d)) => some (.ok (.val d) env)
  | some (some (.own _ _)) => some (.ok (.slot i) env)
  | some (some (.lck _)) => some (.ok (.slot i) env)
  | some (some (.exn _ _ _)) => some (.ok (.slot i) env)
  | _ => none
theorem rdN_eq {i : Nat} : rdN i env = rdS env[i]? i env := by
  unfold rdN rdS
  rcases env[i]? with _ | _ | (_ | _ | _ | _) <;> rfl
theorem rdS_val {d : DL.D} {i : Nat} : rdS (some (some (.val d))) i env = some (.ok (.val d) env) := rfl
theorem rdS_own {d : DL.D} {b : Bool} {i : Nat} : rdS (some (some (.own b d))) i env = some (.ok (.slot i) env) := rfl
theorem rdS_lck {d : Kvs} {i : Nat} : rdS (some (some (.lck d))) i env = some (.ok (.slot i) env) := rfl
theorem rdS_exn {a d : Addr} {fs : List (Str × Int)} {i : Nat} : rdS (some (some (.exn a d fs))) i env = some (.ok (.slot i) env) := rfl
def pkS (o : Option (Option Sl)) : Option DL.D := match o with
  | some (some (.val d)) => some d
  | some (some (.own _ d)) => some d
  | some (some (.lck kvs)) => some (.dct kvs)
  | _ => none
theorem pk_val {d : DL.D} : pk (.val d) env = some d := rfl
theorem pk_slot {i : Nat} : pk (.slot i) env = pkS env[i]? := by
  unfold pk pkS
  dsimp only
  all_goals (rcases env[i]? with _ | _ | (_ | _ | _ | _) <;> rfl)
theorem pkS_val {d : DL.D} : pkS (some (some (.val d))) = some d := rfl
theorem pkS_own {d : DL.D} {b : Bool} : pkS (some (some (.own b d))) = some d := rfl
theorem pkS_lck {d : Kvs} : pkS (some (some (.lck d))) = some (.dct d) := rfl
def relS (o : Option (Option Sl)) (i : Nat) (env : Nv) : Option (DL.D × Nv) := match o with
  | some (some (.val d)) => some (d, env)
  | some (some (.own false d)) => some (d, env.set i (some (.val d)))
  | _ => none
theorem rel_eq {i : Nat} : rel i env = relS env[i]? i env := by
  unfold rel relS
  rcases env[i]? with _ | _ | (_ | ⟨_ | _, _⟩ | _ | _) <;> rfl
theorem relS_val {d : DL.D} {i : Nat} : relS (some (some (.val d))) i env = some (d, env) := rfl
theorem relS_own {d : DL.D} {i : Nat} : relS (some (some (.own false d))) i env = some (d, env.set i (some (.val d))) := rfl
theorem kp_val {d : DL.D} : kp (.val d) env = some (d, env) := rfl
theorem kp_slot {i : Nat} : kp (.slot i) env = rel i env := rfl
theorem put_val {i : Nat} {d : DL.D} : put i (.val d) env = some (env.set i (some (.val d))) := rfl
theorem put_frs {i : Nat} {d : DL.D} : put i (.frs d) env = some (env.set i (some (.own false d))) := rfl
theorem put_slot {i j : Nat} : put i (.slot j) env = (rel j env).map fun z => z.2.set i (some (.val z.1)) := by
  unfold put
  simp only
  rcases rel j env with _ | ⟨d, e⟩ <;> rfl
theorem asI_val {i : Int} : asI (.val (.int i)) = some i := rfl
theorem wO_kps_nil {QK : List DL.D × Nv → Prop} : wO (kps [] env) QK ↔ QK ([], env) := wO_some
theorem wO_kps_cons {QK : List DL.D × Nv → Prop} {r : R} {rs : List R} : wO (kps (r :: rs) env) QK ↔ wO (kp r env) fun z => wO (kps rs z.2) fun y => QK (z.1 :: y.1, y.2) := by
  simp only [kps]
  rcases kp r env with _ | ⟨d, e⟩
  · simp [wO_none]
  · simp only [wO_some]
    rcases kps rs e with _ | ⟨ds, e2⟩ <;> simp [wO_none, wO_some]
theorem wO_mkT {rs : List R} : wO (mkT rs env) Q ↔ wO (kps rs env) fun z => z.1.length ≤ sizeLine ∧ Q (.ok (.val (.tup z.1)) z.2) := by
  unfold mkT
  rcases kps rs env with _ | ⟨ds, e⟩
  · simp [wO_none]
  · simp only [wO_some]
    by_cases h : ds.length ≤ sizeLine <;> simp [h, wO_some, wO_none]
theorem wO_mkL {rs : List R} : wO (mkL rs env) Q ↔ wO (kps rs env) fun z => z.1.length ≤ sizeLine ∧ Q (.ok (.frs (.lst z.1)) z.2) := by
  unfold mkL
  rcases kps rs env with _ | ⟨ds, e⟩
  · simp [wO_none]
  · simp only [wO_some]
    by_cases h : ds.length ≤ sizeLine <;> simp [h, wO_some, wO_none]
/-! ### operators -/
theorem wO_o2 {o : DL.D → DL.D → Option DL.D} {p q : R} : wO (o2 o p q env) Q ↔ wO (pk p env) fun d => wO (pk q env) fun e => wO (o d e) fun x => Q (.ok (.val x) env) := by
  unfold o2
  rcases pk p env with _ | d
  · simp [wO_none]
  · rcases pk q env with _ | e
    · simp [wO_none, wO_some]
    · simp only [wO_some]
      rcases o d e with _ | x <;> simp [wO_none, wO_some]
theorem wO_o2g {o : DL.D → DL.D → Nv → Option Out} {p q : R} : wO (o2g o p q env) Q ↔ wO (pk p env) fun d => wO (pk q env) fun e => wO (o d e env) Q := by
  unfold o2g
  rcases pk p env with _ | d
  · simp [wO_none]
  · rcases pk q env with _ | e <;> simp [wO_none, wO_some]
theorem wO_c1 {o : DL.D → Nv → Option Out} {p : R} : wO (c1g o [p] env) Q ↔ wO (pk p env) fun d => wO (o d env) Q := by
  unfold c1g
  rcases h : pk p env with _ | d <;> simp [h, wO_none, wO_some]
theorem wO_c2 {o : DL.D → DL.D → Nv → Option Out} {p q : R} : wO (c2g o [p, q] env) Q ↔ wO (pk p env) fun d => wO (pk q env) fun e => wO (o d e env) Q := wO_o2g
def addD (d e : DL.D) (env : Nv) : Option Out := match d, e with
  | .int i, .int j => some (.ok (.val (.int (i + j))) env)
  | .lst xs, .lst ys => if xs.length + ys.length ≤ sizeLine then some (.ok (.frs (.lst (xs ++ ys))) env) else none
  | .tup xs, .tup ys => if xs.length + ys.length ≤ sizeLine then some (.ok (.val (.tup (xs ++ ys))) env) else none
  | _, _ => none
theorem oAdd_eq {p q : R} : oAdd p q env = (pk p env).bind fun d => (pk q env).bind fun e => addD d e env := by
  unfold oAdd orO o2 o2g
  rcases pk p env with _ | d
  · rfl
  · rcases pk q env with _ | e
    · rfl
    · cases d <;> cases e <;> simp [dAdd, dI, catL, catT, addD]
      all_goals (split <;> simp_all)
theorem wO_add {p q : R} : wO (oAdd p q env) Q ↔ wO (pk p env) fun d => wO (pk q env) fun e => wO (addD d e env) Q := by
  rw [oAdd_eq]
  rcases pk p env with _ | d
  · simp [wO_none]
  · rcases pk q env with _ | e <;> simp [wO_none, wO_some]
theorem addD_int {i j : Int} : addD (.int i) (.int j) env = some (.ok (.val (.int (i + j))) env) := rfl
theorem addD_lst {xs ys : List DL.D} : addD (.lst xs) (.lst ys) env = if xs.length + ys.length ≤ sizeLine then some (.ok (.frs (.lst (xs ++ ys))) env) else none := rfl
theorem addD_tup {xs ys : List DL.D} : addD (.tup xs) (.tup ys) env = if xs.length + ys.length ≤ sizeLine then some (.ok (.val (.tup (xs ++ ys))) env) else none := rfl
def mulD (d e : DL.D) (env : Nv) : Option Out := match d, e with
  | .int i, .int j => if mulC i j = true then some (.ok (.val (.int (i * j))) env) else none
  | .lst xs, .int k => if -(2 ^ 63) ≤ k ∧ k < 2 ^ 63 ∧ xs.length * k.toNat ≤ sizeLine then some (.ok (.frs (.lst (List.replicate k.toNat xs).flatten)) env) else none
  | .tup xs, .int k => if k = 1 then some (.ok (.val (.tup xs)) env) else if 2 ≤ k ∧ k ≤ 1000 ∧ xs.length ≤ 1000 ∧ xs ≠ [] then some (.ok (.val (.tup (List.replicate k.toNat xs).flatten)) env) else none
  | _, _ => none
theorem oMul_eq {p q : R} : oMul p q env = (pk p env).bind fun d => (pk q env).bind fun e => mulD d e env := by
  unfold oMul orO o2 o2g
  rcases pk p env with _ | d
  · rfl
  · rcases pk q env with _ | e
    · rfl
    · cases d <;> cases e <;> simp [dMul, dI, repL, repT, repT1, mulD]
      · rename_i i j
        cases mulC i j <;> simp
      · rename_i xs k
        by_cases h1 : k = 1
        · subst h1; simp
        · by_cases h2 : ((2 ≤ k ∧ k ≤ 1000) ∧ xs.length ≤ 1000) ∧ ¬ xs = []
          · have h3 : 2 ≤ k ∧ k ≤ 1000 ∧ xs.length ≤ 1000 ∧ ¬ xs = [] := ⟨h2.1.1.1, h2.1.1.2, h2.1.2, h2.2⟩
            simp [h1, h2, h3]
          · have h3 : ¬ (2 ≤ k ∧ k ≤ 1000 ∧ xs.length ≤ 1000 ∧ ¬ xs = []) := fun z => h2 ⟨⟨⟨z.1, z.2.1⟩, z.2.2.1⟩, z.2.2.2⟩
            simp [h1, h2, h3]
      · rename_i xs k
        by_cases h2 : ((-9223372036854775808 ≤ k ∧ k < 9223372036854775808) ∧ xs.length * k.toNat ≤ sizeLine)
        · have h3 : -9223372036854775808 ≤ k ∧ k < 9223372036854775808 ∧ xs.length * k.toNat ≤ sizeLine := ⟨h2.1.1, h2.1.2, h2.2⟩
          simp [h2, h3]
        · have h3 : ¬ (-9223372036854775808 ≤ k ∧ k < 9223372036854775808 ∧ xs.length * k.toNat ≤ sizeLine) := fun z => h2 ⟨⟨z.1, z.2.1⟩, z.2.2⟩
          simp [h2, h3]
theorem wO_mul {p q : R} : wO (oMul p q env) Q ↔ wO (pk p env) fun d => wO (pk q env) fun e => wO (mulD d e env) Q := by
  rw [oMul_eq]
  rcases pk p env with _ | d
  · simp [wO_none]
  · rcases pk q env with _ | e <;> simp [wO_none, wO_some]
theorem mulD_int {i j : Int} : mulD (.int i) (.int j) env = if mulC i j = true then some (.ok (.val (.int (i * j))) env) else none := rfl
theorem mulD_lst {xs : List DL.D} {k : Int} : mulD (.lst xs) (.int k) env = if -(2 ^ 63) ≤ k ∧ k < 2 ^ 63 ∧ xs.length * k.toNat ≤ sizeLine then some (.ok (.frs (.lst (List.replicate k.toNat xs).flatten)) env) else none := rfl
theorem mulD_tup {xs : List DL.D} {k : Int} : mulD (.tup xs) (.int k) env = if k = 1 then some (.ok (.val (.tup xs)) env) else if 2 ≤ k ∧ k ≤ 1000 ∧ xs.length ≤ 1000 ∧ xs ≠ [] then some (.ok (.val (.tup (List.replicate k.toNat xs).flatten)) env) else none := rfl
theorem mulC_l {i j : Int} (h1 : -(2 ^ 64) < i) (h2 : i < 2 ^ 64) : mulC i j = true := by
  unfold mulC
  rw [decide_eq_true h1, decide_eq_true h2]
  rfl
theorem mulC_r {i j : Int} (h1 : -(2 ^ 64) < j) (h2 : j < 2 ^ 64) : mulC i j = true := by
  unfold mulC
  rw [decide_eq_true h1, decide_eq_true h2]
  exact Bool.or_true _
theorem dAdd_int {i j : Int} : dAdd (.int i) (.int j) = some (.int (i + j)) := rfl
theorem dSub_int {i j : Int} : dSub (.int i) (.int j) = some (.int (i - j)) := rfl
theorem oSub_eq : oSub = o2 dSub := rfl
theorem dDiv_int {i j : Int} : dDiv (.int i) (.int j) = if 0 < j ∧ j < 1073741824 then some (.int (i / j)) else none := by
  simp only [dDiv, dI, Bool.and_eq_true, decide_eq_true_eq]
theorem dMod_int {i j : Int} : dMod (.int i) (.int j) = if 0 < j then some (.int (i % j)) else none := by
  simp only [dMod, dI, decide_eq_true_eq]
theorem dLt_int {i j : Int} : dLt (.int i) (.int j) = some (.bl (decide (i < j))) := rfl
theorem dLe_int {i j : Int} : dLe (.int i) (.int j) = some (.bl (decide (i ≤ j))) := rfl
theorem dGt_int {i j : Int} : dGt (.int i) (.int j) = some (.bl (decide (j < i))) := rfl
theorem dGe_int {i j : Int} : dGe (.int i) (.int j) = some (.bl (decide (j ≤ i))) := rfl
theorem dEq_int {i j : Int} : dEq (.int i) (.int j) = some (.bl (decide (i = j))) := rfl
theorem dNe_int {i j : Int} : dNe (.int i) (.int j) = some (.bl (!decide (i = j))) := rfl
theorem dNe_bl {i j : Bool} : dNe (.bl i) (.bl j) = some (.bl (!(i == j))) := rfl
theorem dEq_bl {i j : Bool} : dEq (.bl i) (.bl j) = some (.bl (i == j)) := rfl
theorem dEq_II {a b c d : Int} : dEq (.tup [.int a, .int b]) (.tup [.int c, .int d]) = some (.bl (decide (a = c) && decide (b = d))) := by
  simp [dEq, dEqB, D.cmp, D.eqOk, D.eqOks, D.dep, D.deps, D.beq, D.beqs]
theorem dIsN_eq {d : DL.D} : dIsN d .non = some (.bl (isNon d)) := rfl
theorem dNotN_eq {d : DL.D} : dNotN d .non = some (.bl (!isNon d)) := rfl
theorem isNon_non : isNon .non = true := rfl
theorem isNon_int {i : Int} : isNon (.int i) = false := rfl
theorem isNon_tup {ds : List DL.D} : isNon (.tup ds) = false := rfl
theorem isNon_lst {ds : List DL.D} : isNon (.lst ds) = false := rfl
theorem ixO_eq {d e : DL.D} : ixO d e env = (dIx d e).map fun x => .ok (.val x) env := rfl
theorem dIx_lst {ds : List DL.D} {i : Int} : dIx (.lst ds) (.int i) = atI ds i := rfl
theorem dIx_tup {ds : List DL.D} {i : Int} : dIx (.tup ds) (.int i) = atI ds i := rfl
theorem lenO_lst {ds : List DL.D} : lenO (.lst ds) env = some (.ok (.val (.int ds.length)) env) := rfl
theorem lenO_tup {ds : List DL.D} : lenO (.tup ds) env = some (.ok (.val (.int ds.length)) env) := rfl
theorem lenO_scr {ds : List Int} : lenO (.scr ds) env = some (.ok (.val (.int ds.length)) env) := rfl
theorem intO_int {i : Int} : intO (.int i) env = some (.ok (.val (.int i)) env) := rfl
theorem intO_bl {b : Bool} : intO (.bl b) env = some (.ok (.val (.int (if b then 1 else 0))) env) := rfl
theorem tupO_lst {ds : List DL.D} : tupO (.lst ds) env = some (.ok (.val (.tup ds)) env) := rfl
theorem tupO_tup {ds : List DL.D} : tupO (.tup ds) env = some (.ok (.val (.tup ds)) env) := rfl
theorem lstO_lst {ds : List DL.D} : lstO (.lst ds) env = some (.ok (.frs (.lst ds)) env) := rfl
theorem lstO_tup {ds : List DL.D} : lstO (.tup ds) env = some (.ok (.frs (.lst ds)) env) := rfl
theorem isTO_non {T : BT} : isTO T .non env = some (.ok (.val (.bl (isT T .non))) env) := rfl
theorem isTO_bl {T : BT} {b : Bool} : isTO T (.bl b) env = some (.ok (.val (.bl (isT T (.bl b)))) env) := rfl
theorem isTO_int {T : BT} {b : Int} : isTO T (.int b) env = some (.ok (.val (.bl (isT T (.int b)))) env) := rfl
theorem isTO_str {T : BT} {b : Str} : isTO T (.str b) env = some (.ok (.val (.bl (isT T (.str b)))) env) := rfl
theorem isTO_tup {T : BT} {b : List DL.D} : isTO T (.tup b) env = some (.ok (.val (.bl (isT T (.tup b)))) env) := rfl
theorem isTO_lst {T : BT} {b : List DL.D} : isTO T (.lst b) env = some (.ok (.val (.bl (isT T (.lst b)))) env) := rfl
theorem wO_truF {f : F} : wO (truF f env) Q ↔ wO (f env) (kE (fun r e1 => (pk (hold r) e1).bind fun d => (truD d).map fun b => .ok (.val (.bl b)) e1) Q) := by
  unfold truF
  rw [wO_bnd]
  have : (fun (r : R) (e1 : Nv) => match (pk (hold r) e1).bind truD with
    | some b => some (Out.ok (.val (.bl b)) e1)
    | none => none) = fun r e1 => (pk (hold r) e1).bind fun d => (truD d).map fun b => .ok (.val (.bl b)) e1 := by
    funext r e1
    rcases pk (hold r) e1 with _ | d
    · rfl
    · simp only [Option.bind_some]
      rcases truD d with _ | b <;> rfl
  exact iff_of_eq (congrArg (fun k => wO (f env) (kE k Q)) this)
theorem wO_bind {α β : Type} {o : Option β} {k : β → Option α} {Q : α → Prop} : wO (o.bind k) Q ↔ wO o fun x => wO (k x) Q := by
  rcases o with _ | x <;> simp [wO_none, wO_some]
theorem truD_non : truD .non = some false := rfl
theorem truD_bl {b : Bool} : truD (.bl b) = some b := rfl
theorem truD_int {i : Int} : truD (.int i) = some (i != 0) := rfl
theorem truD_lst {ds : List DL.D} : truD (.lst ds) = some (!ds.isEmpty) := rfl
theorem truD_tup {ds : List DL.D} : truD (.tup ds) = some (!ds.isEmpty) := rfl
/-! ### append, targets -/
def wrS (o : Option (Option Sl)) (i : Nat) (d : DL.D) (env : Nv) : Option Out := match o with
  | some (some (.own b (.lst ds))) => if ds.length < sizeLine then some (.ok (.val .non) (env.set i (some (.own b (.lst (ds ++ [d])))))) else none
  | _ => none
theorem wrA_eq {i : Nat} {d : DL.D} : wrA i d env = wrS env[i]? i d env := by
  unfold wrA wrS
  rcases env[i]? with _ | _ | (_ | ⟨_, d⟩ | _ | _) <;> try rfl
theorem wrS_own {i : Nat} {d : DL.D} {b : Bool} {ds : List DL.D} : wrS (some (some (.own b (.lst ds)))) i d env = if ds.length < sizeLine then some (.ok (.val .non) (env.set i (some (.own b (.lst (ds ++ [d])))))) else none := rfl
def apS (o : Option (Option Sl)) (i : Nat) (f : F) (env : Nv) : Option Out := match o with
  | some (some (.own _ (.lst _))) => bnd (f env) fun r env1 => (kp (hold r) env1).bind fun z => wrA i z.1 z.2
  | _ => none
theorem appO_eq {i : Nat} {f : F} : appO i f env = apS env[i]? i f env := by
  have : (fun (r : R) (env1 : Nv) => match kp (hold r) env1 with
    | some (d, env2) => wrA i d env2
    | none => none) = fun r env1 => (kp (hold r) env1).bind fun z => wrA i z.1 z.2 := by
    funext r env1
    rcases kp (hold r) env1 with _ | ⟨_, _⟩ <;> rfl
  unfold appO apS
  rcases env[i]? with _ | _ | (_ | ⟨_, d⟩ | _ | _) <;> try rfl
  cases d <;> first | rfl | exact congrArg (bnd (f env)) this
theorem apS_own {i : Nat} {f : F} {b : Bool} {ds : List DL.D} : apS (some (some (.own b (.lst ds)))) i f env = bnd (f env) fun r env1 => (kp (hold r) env1).bind fun z => wrA i z.1 z.2 := rfl
theorem nmT_eq {i : Nat} {d : DL.D} : nmT i d env = some (env.set i (some (.val d))) := rfl
theorem tupT_eq {ts : List T1} {ds : List DL.D} : tupT ts (.tup ds) env = tsT ts ds env := rfl
theorem tsT_nil : tsT [] [] env = some env := rfl
theorem tsT_cons {t : T1} {ts : List T1} {d : DL.D} {ds : List DL.D} : tsT (t :: ts) (d :: ds) env = (t d env).bind fun e => tsT ts ds e := by
  simp only [tsT]
  rcases t d env with _ | e <;> rfl
theorem wO_asg {t : T1} {f : F} : wO (asgG t f env) QS ↔ wO (f env) (kS (fun r e => match r with
  | .val d => (t d e).map SO.nx
  | _ => none) QS) := wO_bndS
/-! ### own calls -/
theorem wO_outC {o : Option FR} {k : DL.D → Nv} : wO (outC o k) Q ↔ wO o (kF k Q) := by
  rcases o with _ | (⟨fr, d, tp⟩ | ⟨x, tp⟩) <;> simp [outC, wO_none, wO_some, kF]
theorem wO_callV {n : Nat} {f : Fn} {rs : List R} : wO (callO false n f rs env) Q ↔ rs.length = n ∧ wO (kps rs env) fun z => wO (f z.1) (kF (fun _ => z.2) Q) := by
  unfold callO
  by_cases h : rs.length = n
  · simp only [h, ne_eq, not_true_eq_false, if_false, Bool.false_eq_true, true_and]
    rcases kps rs env with _ | ⟨ds, e⟩
    · simp [wO_none]
    · simp only [wO_some]
      exact wO_outC
  · simp [h, wO_none]
def ownS (o : Option (Option Sl)) : Option (Bool × DL.D) := match o with
  | some (some (.own b d)) => some (b, d)
  | _ => none
theorem ownS_own {b : Bool} {d : DL.D} : ownS (some (some (.own b d))) = some (b, d) := rfl
theorem wO_callM {n : Nat} {f : Fn} {i : Nat} {rr : List R} : wO (callO true n f (.slot i :: rr) env) Q ↔ rr.length + 1 = n ∧ wO (kps rr env) fun z => wO (ownS z.2[i]?) fun y => wO (f (y.2 :: z.1)) (kF (fun tp => z.2.set i (some (.own y.1 tp))) Q) := by
  unfold callO
  by_cases h : rr.length + 1 = n
  · simp only [List.length_cons, h, ne_eq, not_true_eq_false, if_false, if_true, true_and]
    rcases kps rr env with _ | ⟨ds, e⟩
    · simp [wO_none]
    · simp only [wO_some]
      rcases e[i]? with _ | _ | (_ | ⟨_, d⟩ | _ | _) <;> simp [ownS, wO_none, wO_some, wO_outC]
  · simp [h, wO_none]
theorem wO_exit {m : Bool} {o : Option SO} {Q : FR → Prop} : wO (exitC m o) Q ↔ wO o (kX m Q) := by
  unfold exitC
  rcases o with _ | (e | ⟨r, e⟩ | e | e | ⟨x, e⟩) <;> simp only [wO_none, wO_some, kX, wO_map]
  rcases tpOf m e with _ | tp
  · simp [wO_none]
  · rcases resOf r e with _ | ⟨fr, d⟩ <;> simp [wO_none, wO_some]
theorem wO_fnD {m : Bool} {n : Nat} {g : G} {ds : List DL.D} {Q : FR → Prop} : wO (fnD m n g ds) Q ↔ wO (g (pad (slots0 m ds) (n - ds.length))) (kX m Q) := wO_exit
theorem tpOf_f : tpOf false env = some .non := rfl
theorem tpOf_t {d : DL.D} {l : Nv} : tpOf true (some (.own true d) :: l) = some d := rfl
theorem resOf_frs {d : DL.D} : resOf (.frs d) env = some (true, d) := rfl
theorem resOf_val {d : DL.D} : resOf (.val d) env = some (false, d) := rfl
def resS (o : Option (Option Sl)) : Option (Bool × DL.D) := match o with
  | some (some (.own false d)) => some (true, d)
  | some (some (.val d)) => some (false, d)
  | _ => none
theorem resOf_slot {i : Nat} : resOf (.slot i) env = resS env[i]? := by
  unfold resOf resS
  dsimp only
  all_goals (rcases env[i]? with _ | _ | (_ | ⟨_ | _, _⟩ | _ | _) <;> rfl)
theorem resS_own {d : DL.D} : resS (some (some (.own false d))) = some (true, d) := rfl
theorem resS_val {d : DL.D} : resS (some (some (.val d))) = some (false, d) := rfl
/-! ### what is walked -/
theorem wO_itL {f : F} {QI : IO → Prop} : wO (itL f env) QI ↔ wO (f env) (kI (fun r e => (kp (hold r) e).bind fun z => match z.1 with
    | .lst ds => some (.ok ds z.2)
    | _ => none) QI) := by
  unfold itL
  rw [wO_bndI]
  have : (fun (r : R) (env : Nv) => match kp (hold r) env with
    | some (.lst ds, env) => some (IO.ok ds env)
    | _ => none) = fun r e => (kp (hold r) e).bind fun z => match z.1 with
    | .lst ds => some (.ok ds z.2)
    | _ => none := by
    funext r e
    rcases kp (hold r) e with _ | ⟨d, e⟩
    · rfl
    · cases d <;> rfl
  exact iff_of_eq (congrArg (fun k => wO (f env) (kI k QI)) this)
theorem wO_itT {f : F} {QI : IO → Prop} : wO (itT f env) QI ↔ wO (f env) (kI (fun r e => (kp (hold r) e).bind fun z => match z.1 with
    | .tup ds => some (.ok ds z.2)
    | _ => none) QI) := by
  unfold itT
  rw [wO_bndI]
  have : (fun (r : R) (env : Nv) => match kp (hold r) env with
    | some (.tup ds, env) => some (IO.ok ds env)
    | _ => none) = fun r e => (kp (hold r) e).bind fun z => match z.1 with
    | .tup ds => some (.ok ds z.2)
    | _ => none := by
    funext r e
    rcases kp (hold r) e with _ | ⟨d, e⟩
    · rfl
    · cases d <;> rfl
  exact iff_of_eq (congrArg (fun k => wO (f env) (kI k QI)) this)
theorem wO_itET {f : F} {QI : IO → Prop} : wO (itET f env) QI ↔ wO (f env) (kI (fun r e => (kp (hold r) e).bind fun z => match z.1 with
    | .tup ds => some (.ok (enumD ds) z.2)
    | _ => none) QI) := by
  unfold itET
  rw [wO_bndI]
  have : (fun (r : R) (env : Nv) => match kp (hold r) env with
    | some (.tup ds, env) => some (IO.ok (enumD ds) env)
    | _ => none) = fun r e => (kp (hold r) e).bind fun z => match z.1 with
    | .tup ds => some (.ok (enumD ds) z.2)
    | _ => none := by
    funext r e
    rcases kp (hold r) e with _ | ⟨d, e⟩
    · rfl
    · cases d <;> rfl
  exact iff_of_eq (congrArg (fun k => wO (f env) (kI k QI)) this)
theorem wO_itEL {f : F} {QI : IO → Prop} : wO (itEL f env) QI ↔ wO (f env) (kI (fun r e => (kp (hold r) e).bind fun z => match z.1 with
    | .lst ds => some (.ok (enumD ds) z.2)
    | _ => none) QI) := by
  unfold itEL
  rw [wO_bndI]
  have : (fun (r : R) (env : Nv) => match kp (hold r) env with
    | some (.lst ds, env) => some (IO.ok (enumD ds) env)
    | _ => none) = fun r e => (kp (hold r) e).bind fun z => match z.1 with
    | .lst ds => some (.ok (enumD ds) z.2)
    | _ => none := by
    funext r e
    rcases kp (hold r) e with _ | ⟨d, e⟩
    · rfl
    · cases d <;> rfl
  exact iff_of_eq (congrArg (fun k => wO (f env) (kI k QI)) this)
theorem wO_itR1 {f : F} {QI : IO → Prop} : wO (itR1 f env) QI ↔ wO (f env) (kI (fun r e => (asI (hold r)).bind fun j => if rngC j = true then some (.ok (rngL 0 j) e) else none) QI) := by
  unfold itR1
  rw [wO_bndI]
  have : (fun (r : R) (env : Nv) => match asI (hold r) with
    | some j => if rngC j then some (IO.ok (rngL 0 j) env) else none
    | none => none) = fun r e => (asI (hold r)).bind fun j => if rngC j = true then some (.ok (rngL 0 j) e) else none := by
    funext r e
    rcases asI (hold r) with _ | j <;> rfl
  exact iff_of_eq (congrArg (fun k => wO (f env) (kI k QI)) this)
theorem wO_itR2 {f g : F} {QI : IO → Prop} : wO (itR2 f g env) QI ↔ wO (f env) (kI (fun r e => bndI (g e) fun r2 e2 => (asI (hold r)).bind fun i => (asI (hold r2)).bind fun j => if (rngC i && rngC j) = true then some (.ok (rngL i j) e2) else none) QI) := by
  unfold itR2
  rw [wO_bndI]
  have : (fun (r : R) (env : Nv) => bndI (g env) fun r2 env => match asI (hold r), asI (hold r2) with
    | some i, some j => if rngC i && rngC j then some (IO.ok (rngL i j) env) else none
    | _, _ => none) = fun r e => bndI (g e) fun r2 e2 => (asI (hold r)).bind fun i => (asI (hold r2)).bind fun j => if (rngC i && rngC j) = true then some (.ok (rngL i j) e2) else none := by
    funext r e
    congr 1
    funext r2 e2
    rcases asI (hold r) with _ | i
    · rfl
    · rcases asI (hold r2) with _ | j <;> rfl
  exact iff_of_eq (congrArg (fun k => wO (f env) (kI k QI)) this)
end
theorem rngC_eq {i : Int} : (rngC i = true) = (-(2 ^ 62) ≤ i ∧ i < 2 ^ 62) := by
  simp only [rngC, Bool.and_eq_true, decide_eq_true_eq]
/-! ### loops -/
section
variable {t : T1} {b : G} {Q : SO → Prop}
theorem wO_loop_nil {e : Nv} : loopG t b [] e = some (.nx e) := rfl
theorem wO_loop_cons {d : DL.D} {ds : List DL.D} {e : Nv} : wO (loopG t b (d :: ds) e) Q ↔ wO (t d e) fun e1 => wO (b e1) (kL (fun e2 => wO (loopG t b ds e2) Q) Q) := by
  conv => lhs; unfold loopG
  rcases t d e with _ | e1
  · simp [wO_none]
  · simp only [wO_some]
    rcases b e1 with _ | (_ | _ | _ | _ | _) <;> simp [wO_none, wO_some, kL]
theorem wO_loopD (I : Nat → Nv → Prop) : ∀ (ds : List DL.D) (k : Nat) (e : Nv), I k e → (∀ i d e, ds[i]? = some d → I (k + i) e → wO (t d e) fun e1 => wO (b e1) (kL (I (k + i + 1)) Q)) → (∀ e, I (k + ds.length) e → Q (.nx e)) → wO (loopG t b ds e) Q
  | [], k, e, h0, _, he => wO_some.mpr (he e h0)
  | d :: ds, k, e, h0, hs, he => by
    rw [wO_loop_cons]
    refine wO_mono (hs 0 d e rfl h0) fun e1 h1 => wO_mono h1 fun so h2 => ?_
    have go : ∀ e2, I (k + 0 + 1) e2 → wO (loopG t b ds e2) Q := fun e2 h => wO_loopD I ds (k + 1) e2 h (fun i d e hd hi => by
      have := hs (i + 1) d e (by simpa using hd) (by rw [show k + (i + 1) = k + 1 + i by omega]; exact hi)
      rw [show k + (i + 1) = k + 1 + i by omega] at this
      exact this) fun e hi => he e (by rw [List.length_cons, show k + (ds.length + 1) = k + 1 + ds.length by omega]; exact hi)
    rcases so with e2 | _ | _ | e2 | _
    · exact go e2 h2
    · exact h2
    · exact h2
    · exact go e2 h2
    · exact h2
/-- a for over range -/
theorem wO_rng {lo hi : Int} {e : Nv} (I : Nat → Nv → Prop) (n : Nat) (hn : (hi - lo).toNat = n) (h0 : I 0 e) (hs : ∀ (k : Nat) (e : Nv), k < n → I k e → wO (t (.int (lo + (k : Int))) e) fun e1 => wO (b e1) (kL (I (k + 1)) Q)) (he : ∀ e, I n e → Q (.nx e)) : wO (loopG t b (rngL lo hi) e) Q := by
  have hl : (rngL lo hi).length = n := by simp [rngL, hn]
  refine wO_loopD I _ 0 e h0 (fun i d e hd hI => ?_) fun e h => he e (by rw [hl, Nat.zero_add] at h; exact h)
  have hi2 : i < n := by rw [← hl]; exact (List.getElem?_eq_some_iff.mp hd).1
  have hd2 : d = .int (lo + (i : Int)) := by
    unfold rngL at hd
    rw [List.getElem?_map] at hd
    rcases q : (List.range (hi - lo).toNat)[i]? with _ | j
    · rw [q] at hd; cases hd
    · rw [q] at hd
      obtain ⟨q1, q2⟩ := List.getElem?_eq_some_iff.mp q
      rw [List.getElem_range] at q2
      subst q2
      exact (Option.some.inj hd).symm
  subst hd2
  rw [Nat.zero_add] at hI ⊢
  exact hs i e hi2 hI
/-- a for over what is made of xs -/
theorem wO_each {α : Type} {enc : α → DL.D} {xs : List α} {e : Nv} (I : List α → Nv → Prop) (h0 : I [] e) (hs : ∀ (pre : List α) (x : α) (post : List α) (e : Nv), xs = pre ++ x :: post → I pre e → wO (t (enc x) e) fun e1 => wO (b e1) (kL (I (pre ++ [x])) Q)) (he : ∀ e, I xs e → Q (.nx e)) : wO (loopG t b (xs.map enc) e) Q := by
  refine wO_loopD (fun k e => I (xs.take k) e) _ 0 e h0 (fun i d e hd hi => ?_) fun e h => he e (by rw [List.length_map, Nat.zero_add, List.take_length] at h; exact h)
  rw [List.getElem?_map] at hd
  rcases q : xs[i]? with _ | x
  · rw [q] at hd; cases hd
  · rw [q] at hd
    have hd2 : enc x = d := Option.some.inj hd
    subst hd2
    obtain ⟨q1, q2⟩ := List.getElem?_eq_some_iff.mp q
    rw [Nat.zero_add] at hi ⊢
    have tk : xs.take (i + 1) = xs.take i ++ [x] := by rw [List.take_succ, q]; rfl
    have := hs (xs.take i) x (xs.drop (i + 1)) e (by
      have h1 := (List.take_append_drop i xs).symm
      rw [List.drop_eq_getElem_cons q1, q2] at h1
      exact h1) hi
    rw [tk]
    exact this
theorem enumD_map {α : Type} {enc : α → DL.D} {xs : List α} : enumD (xs.map enc) = xs.zipIdx.map fun p => .tup [.int (p.2 : Nat), enc p.1] := by
  unfold enumD
  rw [List.zipIdx_map, List.map_map]
  rfl
theorem enum_get {α : Type} {xs : List α} {i : Nat} {p : α × Nat} (h : xs.zipIdx[i]? = some p) : xs[i]? = some p.1 ∧ p.2 = i := by
  rw [List.getElem?_zipIdx] at h
  rcases q : xs[i]? with _ | x
  · rw [q] at h; cases h
  · rw [q] at h
    have : (x, 0 + i) = p := Option.some.inj h
    subst this
    exact ⟨rfl, Nat.zero_add i⟩
/-- a for over enumerate of what is made of xs -/
theorem wO_enum {α : Type} {enc : α → DL.D} {xs : List α} {e : Nv} (I : List α → Nv → Prop) (h0 : I [] e) (hs : ∀ (pre : List α) (x : α) (post : List α) (e : Nv), xs = pre ++ x :: post → I pre e → wO (t (.tup [.int (pre.length : Nat), enc x]) e) fun e1 => wO (b e1) (kL (I (pre ++ [x])) Q)) (he : ∀ e, I xs e → Q (.nx e)) : wO (loopG t b (enumD (xs.map enc)) e) Q := by
  rw [enumD_map]
  refine wO_loopD (fun k e => I (xs.take k) e) _ 0 e h0 (fun i d e hd hi => ?_) fun e h => he e (by rw [List.length_map, Nat.zero_add, List.length_zipIdx, List.take_length] at h; exact h)
  rw [List.getElem?_map] at hd
  rcases q : xs.zipIdx[i]? with _ | p
  · rw [q] at hd; cases hd
  · rw [q] at hd
    have hd2 : DL.D.tup [.int (p.2 : Nat), enc p.1] = d := Option.some.inj hd
    subst hd2
    obtain ⟨g1, g2⟩ := enum_get q
    obtain ⟨q1, q2⟩ := List.getElem?_eq_some_iff.mp g1
    rw [Nat.zero_add] at hi ⊢
    have tk : xs.take (i + 1) = xs.take i ++ [p.1] := by rw [List.take_succ, g1]; rfl
    have := hs (xs.take i) p.1 (xs.drop (i + 1)) e (by
      have h1 := (List.take_append_drop i xs).symm
      rw [List.drop_eq_getElem_cons q1, q2] at h1
      exact h1) hi
    rw [tk, g2]
    rw [List.length_take, Nat.min_eq_left (Nat.le_of_lt q1)] at this
    exact this
end
/-! ### comprehensions -/
section
variable {t : T1} {c f : F} {k : Lf} {Q : Nv × DL.D → Prop}
theorem wO_loopC_nil {e : Nv} {acc : DL.D} : loopC t c k [] e acc = some (e, acc) := rfl
theorem wO_loopC_cons {d : DL.D} {ds : List DL.D} {e : Nv} {acc : DL.D} (h : wO (t d e) fun e1 => wO (c e1) (kU (fun e2 => wO (loopC t c k ds e2 acc) Q) (fun e2 => wO (k e2 acc) fun z => wO (loopC t c k ds z.1 z.2) Q))) : wO (loopC t c k (d :: ds) e acc) Q := by
  obtain ⟨e1, h1, x, h2, h3⟩ := h
  unfold loopC
  rw [h1]
  simp only
  rw [h2]
  rcases x with ⟨r, e2⟩ | ⟨x, e2⟩
  · rcases r with d | _ | _
    · cases d with
      | bl b =>
        cases b with
        | true =>
          obtain ⟨⟨e3, a3⟩, h4, h5⟩ := h3.1 rfl
          simp only [h4]
          exact h5
        | false => exact h3.2 rfl
      | _ => exact h3.elim
    · exact h3.elim
    · exact h3.elim
  · exact h3.elim
theorem wO_loopCD (I : Nat → Nv → DL.D → Prop) : ∀ (ds : List DL.D) (n : Nat) (e : Nv) (acc : DL.D), I n e acc → (∀ i d e acc, ds[i]? = some d → I (n + i) e acc → wO (t d e) fun e1 => wO (c e1) (kU (fun e2 => I (n + i + 1) e2 acc) (fun e2 => wO (k e2 acc) fun z => I (n + i + 1) z.1 z.2))) → (∀ e acc, I (n + ds.length) e acc → Q (e, acc)) → wO (loopC t c k ds e acc) Q
  | [], n, e, acc, h0, _, he => wO_some.mpr (he e acc h0)
  | d :: ds, n, e, acc, h0, hs, he => by
    have go : ∀ e2 a2, I (n + 0 + 1) e2 a2 → wO (loopC t c k ds e2 a2) Q := fun e2 a2 h => wO_loopCD I ds (n + 1) e2 a2 h (fun i d e acc hd hi => by
      have := hs (i + 1) d e acc (by simpa using hd) (by rw [show n + (i + 1) = n + 1 + i by omega]; exact hi)
      rw [show n + (i + 1) = n + 1 + i by omega] at this
      exact this) fun e acc hi => he e acc (by rw [List.length_cons, show n + (ds.length + 1) = n + 1 + ds.length by omega]; exact hi)
    refine wO_loopC_cons (wO_mono (hs 0 d e acc rfl h0) fun e1 h1 => wO_mono h1 fun x h2 => ?_)
    rcases x with ⟨r, e2⟩ | ⟨x, e2⟩
    · rcases r with d | _ | _
      · cases d with
        | bl b => exact ⟨fun hb => wO_mono (h2.1 hb) fun z hz => go z.1 z.2 hz, fun hb => go e2 acc (h2.2 hb)⟩
        | _ => exact h2
      · exact h2
      · exact h2
    · exact h2
theorem wO_cRng {lo hi : Int} {e : Nv} {acc : DL.D} (I : Nat → Nv → DL.D → Prop) (n : Nat) (hn : (hi - lo).toNat = n) (h0 : I 0 e acc) (hs : ∀ (j : Nat) (e : Nv) (acc : DL.D), j < n → I j e acc → wO (t (.int (lo + (j : Int))) e) fun e1 => wO (c e1) (kU (fun e2 => I (j + 1) e2 acc) (fun e2 => wO (k e2 acc) fun z => I (j + 1) z.1 z.2))) (he : ∀ e acc, I n e acc → Q (e, acc)) : wO (loopC t c k (rngL lo hi) e acc) Q := by
  have hl : (rngL lo hi).length = n := by simp [rngL, hn]
  refine wO_loopCD I _ 0 e acc h0 (fun i d e acc hd hI => ?_) fun e acc h => he e acc (by rw [hl, Nat.zero_add] at h; exact h)
  have hi2 : i < n := by rw [← hl]; exact (List.getElem?_eq_some_iff.mp hd).1
  have hd2 : d = .int (lo + (i : Int)) := by
    unfold rngL at hd
    rw [List.getElem?_map] at hd
    rcases q : (List.range (hi - lo).toNat)[i]? with _ | j
    · rw [q] at hd; cases hd
    · rw [q] at hd
      obtain ⟨q1, q2⟩ := List.getElem?_eq_some_iff.mp q
      rw [List.getElem_range] at q2
      subst q2
      exact (Option.some.inj hd).symm
  subst hd2
  rw [Nat.zero_add] at hI ⊢
  exact hs i e acc hi2 hI
theorem wO_cEach {α : Type} {enc : α → DL.D} {xs : List α} {e : Nv} {acc : DL.D} (I : List α → Nv → DL.D → Prop) (h0 : I [] e acc) (hs : ∀ (pre : List α) (x : α) (post : List α) (e : Nv) (acc : DL.D), xs = pre ++ x :: post → I pre e acc → wO (t (enc x) e) fun e1 => wO (c e1) (kU (fun e2 => I (pre ++ [x]) e2 acc) (fun e2 => wO (k e2 acc) fun z => I (pre ++ [x]) z.1 z.2))) (he : ∀ e acc, I xs e acc → Q (e, acc)) : wO (loopC t c k (xs.map enc) e acc) Q := by
  refine wO_loopCD (fun k e acc => I (xs.take k) e acc) _ 0 e acc h0 (fun i d e acc hd hi => ?_) fun e acc h => he e acc (by rw [List.length_map, Nat.zero_add, List.take_length] at h; exact h)
  rw [List.getElem?_map] at hd
  rcases q : xs[i]? with _ | x
  · rw [q] at hd; cases hd
  · rw [q] at hd
    have hd2 : enc x = d := Option.some.inj hd
    subst hd2
    obtain ⟨q1, q2⟩ := List.getElem?_eq_some_iff.mp q
    rw [Nat.zero_add] at hi ⊢
    have tk : xs.take (i + 1) = xs.take i ++ [x] := by rw [List.take_succ, q]; rfl
    have := hs (xs.take i) x (xs.drop (i + 1)) e acc (by
      have h1 := (List.take_append_drop i xs).symm
      rw [List.drop_eq_getElem_cons q1, q2] at h1
      exact h1) hi
    rw [tk]
    exact this
theorem wO_cEnum {α : Type} {enc : α → DL.D} {xs : List α} {e : Nv} {acc : DL.D} (I : List α → Nv → DL.D → Prop) (h0 : I [] e acc) (hs : ∀ (pre : List α) (x : α) (post : List α) (e : Nv) (acc : DL.D), xs = pre ++ x :: post → I pre e acc → wO (t (.tup [.int (pre.length : Nat), enc x]) e) fun e1 => wO (c e1) (kU (fun e2 => I (pre ++ [x]) e2 acc) (fun e2 => wO (k e2 acc) fun z => I (pre ++ [x]) z.1 z.2))) (he : ∀ e acc, I xs e acc → Q (e, acc)) : wO (loopC t c k (enumD (xs.map enc)) e acc) Q := by
  rw [enumD_map]
  refine wO_loopCD (fun k e acc => I (xs.take k) e acc) _ 0 e acc h0 (fun i d e acc hd hi => ?_) fun e acc h => he e acc (by rw [List.length_map, Nat.zero_add, List.length_zipIdx, List.take_length] at h; exact h)
  rw [List.getElem?_map] at hd
  rcases q : xs.zipIdx[i]? with _ | p
  · rw [q] at hd; cases hd
  · rw [q] at hd
    have hd2 : DL.D.tup [.int (p.2 : Nat), enc p.1] = d := Option.some.inj hd
    subst hd2
    obtain ⟨g1, g2⟩ := enum_get q
    obtain ⟨q1, q2⟩ := List.getElem?_eq_some_iff.mp g1
    rw [Nat.zero_add] at hi ⊢
    have tk : xs.take (i + 1) = xs.take i ++ [p.1] := by rw [List.take_succ, g1]; rfl
    have := hs (xs.take i) p.1 (xs.drop (i + 1)) e acc (by
      have h1 := (List.take_append_drop i xs).symm
      rw [List.drop_eq_getElem_cons q1, q2] at h1
      exact h1) hi
    rw [tk, g2]
    rw [List.length_take, Nat.min_eq_left (Nat.le_of_lt q1)] at this
    exact this
theorem wO_lfL {e : Nv} {ds : List DL.D} (h : wO (f e) fun o => match o with
    | .ok r e1 => wO (kp (hold r) e1) fun z => ds.length < sizeLine ∧ Q (z.2, .lst (ds ++ [z.1]))
    | .exc _ _ => False) : wO (lfL f e (.lst ds)) Q := by
  obtain ⟨o, h1, h2⟩ := h
  rcases o with ⟨r, e1⟩ | _
  · obtain ⟨⟨d, e2⟩, h3, h4, h5⟩ := h2
    refine ⟨_, ?_, h5⟩
    simp only [lfL, h1, h3, if_pos h4]
  · exact h2.elim
/-- [f for x in xs if c]: a filter and a map -/
theorem wO_cMap {α : Type} {enc : α → DL.D} {xs : List α} {e : Nv} (I : Nv → Prop) (p : α → Bool) (g : α → DL.D) (hz : xs.length ≤ sizeLine) (h0 : I e) (hs : ∀ x ∈ xs, ∀ e, I e → wO (t (enc x) e) fun e1 => wO (c e1) (kT (p x) I fun e2 => wO (f e2) (kV (g x) I))) (he : ∀ e, I e → Q (e, .lst ((xs.filter p).map g))) : wO (loopC t c (compC (lfL f) []) (xs.map enc) e (.lst [])) Q := by
  refine wO_cEach (fun pre e acc => I e ∧ acc = .lst ((pre.filter p).map g)) ⟨h0, rfl⟩ (fun pre x post e acc hx ⟨hi, ha⟩ => ?_) fun e acc ⟨hi, ha⟩ => by subst ha; exact he e hi
  have hm : x ∈ xs := by rw [hx]; exact List.mem_append_right _ List.mem_cons_self
  refine wO_mono (hs x hm e hi) fun e1 h1 => wO_mono h1 fun o h2 => ?_
  rcases o with ⟨r, e2⟩ | _
  · rcases r with d | _ | _
    · cases d with
      | bl b =>
        obtain ⟨rfl, h3, h4⟩ := h2
        refine ⟨fun hb => ?_, fun hb => ⟨h3 hb, ?_⟩⟩
        · subst ha
          refine wO_lfL (wO_mono (h4 hb) fun o h5 => ?_)
          rcases o with ⟨r, e3⟩ | _
          · refine wO_mono h5 fun z ⟨q1, q2⟩ => ⟨?_, q2, ?_⟩
            · have l1 : (pre.filter p).length ≤ pre.length := List.length_filter_le _ _
              have l2 : xs.length = pre.length + (post.length + 1) := by rw [hx, List.length_append, List.length_cons]
              rw [List.length_map]
              omega
            · rw [q1, List.filter_append, List.map_append, List.filter_cons, if_pos hb]
              rfl
          · exact h5
        · rw [ha, List.filter_append, List.filter_cons, if_neg (by rw [hb]; exact Bool.false_ne_true), List.filter_nil, List.append_nil]
      | _ => exact h2.elim
    · exact h2.elim
    · exact h2.elim
  · exact h2.elim
theorem wO_cMapR {lo hi : Int} {e : Nv} (I : Nv → Prop) (n : Nat) (hn : (hi - lo).toNat = n) (g : Nat → DL.D) (hz : n ≤ sizeLine) (h0 : I e) (hs : ∀ j, j < n → ∀ e, I e → wO (t (.int (lo + (j : Int))) e) fun e1 => wO (f e1) (kV (g j) I)) (he : ∀ e, I e → Q (e, .lst ((List.range n).map g))) : wO (loopC t yesF (compC (lfL f) []) (rngL lo hi) e (.lst [])) Q := by
  refine wO_cRng (fun j e acc => I e ∧ acc = .lst ((List.range j).map g)) n hn ⟨h0, rfl⟩ (fun j e acc hj ⟨hi, ha⟩ => ?_) fun e acc ⟨hi, ha⟩ => by subst ha; exact he e hi
  refine wO_mono (hs j hj e hi) fun e1 h1 => wO_some.mpr ⟨fun _ => ?_, fun z => Bool.noConfusion z⟩
  subst ha
  refine wO_lfL (wO_mono h1 fun o h5 => ?_)
  rcases o with ⟨r, e3⟩ | _
  · refine wO_mono h5 fun z ⟨q1, q2⟩ => ⟨?_, q2, ?_⟩
    · rw [List.length_map, List.length_range]
      omega
    · rw [q1, List.range_succ, List.map_append]
      rfl
  · exact h5
end

theorem gt0 {a0 : Option Sl} {l : Nv} : (a0 :: l)[0]? = some a0 := rfl
theorem st0 {a0 x : Option Sl} {l : Nv} : (a0 :: l).set 0 x = x :: l := rfl
theorem gt1 {a0 a1 : Option Sl} {l : Nv} : (a0 :: a1 :: l)[1]? = some a1 := rfl
theorem st1 {a0 a1 x : Option Sl} {l : Nv} : (a0 :: a1 :: l).set 1 x = a0 :: x :: l := rfl
theorem gt2 {a0 a1 a2 : Option Sl} {l : Nv} : (a0 :: a1 :: a2 :: l)[2]? = some a2 := rfl
theorem st2 {a0 a1 a2 x : Option Sl} {l : Nv} : (a0 :: a1 :: a2 :: l).set 2 x = a0 :: a1 :: x :: l := rfl
theorem gt3 {a0 a1 a2 a3 : Option Sl} {l : Nv} : (a0 :: a1 :: a2 :: a3 :: l)[3]? = some a3 := rfl
theorem st3 {a0 a1 a2 a3 x : Option Sl} {l : Nv} : (a0 :: a1 :: a2 :: a3 :: l).set 3 x = a0 :: a1 :: a2 :: x :: l := rfl
theorem gt4 {a0 a1 a2 a3 a4 : Option Sl} {l : Nv} : (a0 :: a1 :: a2 :: a3 :: a4 :: l)[4]? = some a4 := rfl
theorem st4 {a0 a1 a2 a3 a4 x : Option Sl} {l : Nv} : (a0 :: a1 :: a2 :: a3 :: a4 :: l).set 4 x = a0 :: a1 :: a2 :: a3 :: x :: l := rfl
theorem gt5 {a0 a1 a2 a3 a4 a5 : Option Sl} {l : Nv} : (a0 :: a1 :: a2 :: a3 :: a4 :: a5 :: l)[5]? = some a5 := rfl
theorem st5 {a0 a1 a2 a3 a4 a5 x : Option Sl} {l : Nv} : (a0 :: a1 :: a2 :: a3 :: a4 :: a5 :: l).set 5 x = a0 :: a1 :: a2 :: a3 :: a4 :: x :: l := rfl
theorem gt6 {a0 a1 a2 a3 a4 a5 a6 : Option Sl} {l : Nv} : (a0 :: a1 :: a2 :: a3 :: a4 :: a5 :: a6 :: l)[6]? = some a6 := rfl
theorem st6 {a0 a1 a2 a3 a4 a5 a6 x : Option Sl} {l : Nv} : (a0 :: a1 :: a2 :: a3 :: a4 :: a5 :: a6 :: l).set 6 x = a0 :: a1 :: a2 :: a3 :: a4 :: a5 :: x :: l := rfl
theorem gt7 {a0 a1 a2 a3 a4 a5 a6 a7 : Option Sl} {l : Nv} : (a0 :: a1 :: a2 :: a3 :: a4 :: a5 :: a6 :: a7 :: l)[7]? = some a7 := rfl
theorem st7 {a0 a1 a2 a3 a4 a5 a6 a7 x : Option Sl} {l : Nv} : (a0 :: a1 :: a2 :: a3 :: a4 :: a5 :: a6 :: a7 :: l).set 7 x = a0 :: a1 :: a2 :: a3 :: a4 :: a5 :: a6 :: x :: l := rfl
theorem gt8 {a0 a1 a2 a3 a4 a5 a6 a7 a8 : Option Sl} {l : Nv} : (a0 :: a1 :: a2 :: a3 :: a4 :: a5 :: a6 :: a7 :: a8 :: l)[8]? = some a8 := rfl
theorem st8 {a0 a1 a2 a3 a4 a5 a6 a7 a8 x : Option Sl} {l : Nv} : (a0 :: a1 :: a2 :: a3 :: a4 :: a5 :: a6 :: a7 :: a8 :: l).set 8 x = a0 :: a1 :: a2 :: a3 :: a4 :: a5 :: a6 :: a7 :: x :: l := rfl
theorem gt9 {a0 a1 a2 a3 a4 a5 a6 a7 a8 a9 : Option Sl} {l : Nv} : (a0 :: a1 :: a2 :: a3 :: a4 :: a5 :: a6 :: a7 :: a8 :: a9 :: l)[9]? = some a9 := rfl
theorem st9 {a0 a1 a2 a3 a4 a5 a6 a7 a8 a9 x : Option Sl} {l : Nv} : (a0 :: a1 :: a2 :: a3 :: a4 :: a5 :: a6 :: a7 :: a8 :: a9 :: l).set 9 x = a0 :: a1 :: a2 :: a3 :: a4 :: a5 :: a6 :: a7 :: a8 :: x :: l := rfl
theorem gt10 {a0 a1 a2 a3 a4 a5 a6 a7 a8 a9 a10 : Option Sl} {l : Nv} : (a0 :: a1 :: a2 :: a3 :: a4 :: a5 :: a6 :: a7 :: a8 :: a9 :: a10 :: l)[10]? = some a10 := rfl
theorem st10 {a0 a1 a2 a3 a4 a5 a6 a7 a8 a9 a10 x : Option Sl} {l : Nv} : (a0 :: a1 :: a2 :: a3 :: a4 :: a5 :: a6 :: a7 :: a8 :: a9 :: a10 :: l).set 10 x = a0 :: a1 :: a2 :: a3 :: a4 :: a5 :: a6 :: a7 :: a8 :: a9 :: x :: l := rfl
theorem gt11 {a0 a1 a2 a3 a4 a5 a6 a7 a8 a9 a10 a11 : Option Sl} {l : Nv} : (a0 :: a1 :: a2 :: a3 :: a4 :: a5 :: a6 :: a7 :: a8 :: a9 :: a10 :: a11 :: l)[11]? = some a11 := rfl
theorem st11 {a0 a1 a2 a3 a4 a5 a6 a7 a8 a9 a10 a11 x : Option Sl} {l : Nv} : (a0 :: a1 :: a2 :: a3 :: a4 :: a5 :: a6 :: a7 :: a8 :: a9 :: a10 :: a11 :: l).set 11 x = a0 :: a1 :: a2 :: a3 :: a4 :: a5 :: a6 :: a7 :: a8 :: a9 :: a10 :: x :: l := rfl
theorem gt12 {a0 a1 a2 a3 a4 a5 a6 a7 a8 a9 a10 a11 a12 : Option Sl} {l : Nv} : (a0 :: a1 :: a2 :: a3 :: a4 :: a5 :: a6 :: a7 :: a8 :: a9 :: a10 :: a11 :: a12 :: l)[12]? = some a12 := rfl
theorem st12 {a0 a1 a2 a3 a4 a5 a6 a7 a8 a9 a10 a11 a12 x : Option Sl} {l : Nv} : (a0 :: a1 :: a2 :: a3 :: a4 :: a5 :: a6 :: a7 :: a8 :: a9 :: a10 :: a11 :: a12 :: l).set 12 x = a0 :: a1 :: a2 :: a3 :: a4 :: a5 :: a6 :: a7 :: a8 :: a9 :: a10 :: a11 :: x :: l := rfl
theorem gt13 {a0 a1 a2 a3 a4 a5 a6 a7 a8 a9 a10 a11 a12 a13 : Option Sl} {l : Nv} : (a0 :: a1 :: a2 :: a3 :: a4 :: a5 :: a6 :: a7 :: a8 :: a9 :: a10 :: a11 :: a12 :: a13 :: l)[13]? = some a13 := rfl
theorem st13 {a0 a1 a2 a3 a4 a5 a6 a7 a8 a9 a10 a11 a12 a13 x : Option Sl} {l : Nv} : (a0 :: a1 :: a2 :: a3 :: a4 :: a5 :: a6 :: a7 :: a8 :: a9 :: a10 :: a11 :: a12 :: a13 :: l).set 13 x = a0 :: a1 :: a2 :: a3 :: a4 :: a5 :: a6 :: a7 :: a8 :: a9 :: a10 :: a11 :: a12 :: x :: l := rfl
theorem gt14 {a0 a1 a2 a3 a4 a5 a6 a7 a8 a9 a10 a11 a12 a13 a14 : Option Sl} {l : Nv} : (a0 :: a1 :: a2 :: a3 :: a4 :: a5 :: a6 :: a7 :: a8 :: a9 :: a10 :: a11 :: a12 :: a13 :: a14 :: l)[14]? = some a14 := rfl
theorem st14 {a0 a1 a2 a3 a4 a5 a6 a7 a8 a9 a10 a11 a12 a13 a14 x : Option Sl} {l : Nv} : (a0 :: a1 :: a2 :: a3 :: a4 :: a5 :: a6 :: a7 :: a8 :: a9 :: a10 :: a11 :: a12 :: a13 :: a14 :: l).set 14 x = a0 :: a1 :: a2 :: a3 :: a4 :: a5 :: a6 :: a7 :: a8 :: a9 :: a10 :: a11 :: a12 :: a13 :: x :: l := rfl
theorem gt15 {a0 a1 a2 a3 a4 a5 a6 a7 a8 a9 a10 a11 a12 a13 a14 a15 : Option Sl} {l : Nv} : (a0 :: a1 :: a2 :: a3 :: a4 :: a5 :: a6 :: a7 :: a8 :: a9 :: a10 :: a11 :: a12 :: a13 :: a14 :: a15 :: l)[15]? = some a15 := rfl
theorem st15 {a0 a1 a2 a3 a4 a5 a6 a7 a8 a9 a10 a11 a12 a13 a14 a15 x : Option Sl} {l : Nv} : (a0 :: a1 :: a2 :: a3 :: a4 :: a5 :: a6 :: a7 :: a8 :: a9 :: a10 :: a11 :: a12 :: a13 :: a14 :: a15 :: l).set 15 x = a0 :: a1 :: a2 :: a3 :: a4 :: a5 :: a6 :: a7 :: a8 :: a9 :: a10 :: a11 :: a12 :: a13 :: a14 :: x :: l := rfl
end DL

set_option Elab.async false
set_option linter.all false
set_option maxRecDepth 100000
namespace DL
open PySem L2
section
variable {Q : Out → Prop} {QS : SO → Prop} {env : Nv}
/-! ### dicts -/
def dctD : DL.D → Option Kvs
  | .dct kvs => some kvs
  | _ => none
theorem dctD_dct {kvs : Kvs} : dctD (.dct kvs) = some kvs := rfl
theorem dctOf_eq {r : R} : dctOf r env = (pk r env).bind dctD := by
  unfold dctOf
  rcases pk r env with _ | d
  · rfl
  · cases d <;> rfl
theorem keyOf_eq {r : R} : DL.keyOf r env = (pk r env).bind keyT := rfl
theorem keyT_II {a b : Int} : keyT (.tup [.int a, .int b]) = some [.inl a, .inl b] := rfl
def gotG (o : Option DL.D) (x : R) (e : Nv) : Option Out := match o with
  | some d => some (.ok (.val d) e)
  | none => some (.ok x e)
theorem gotG_some {d : DL.D} {x : R} : gotG (some d) x env = some (.ok (.val d) env) := rfl
theorem gotG_none {x : R} : gotG none x env = some (.ok x env) := rfl
theorem wO_getG {f g h : F} : wO (getG f g h env) Q ↔ wO (f env) (kE (fun r e1 => (dctOf (hold r) e1).bind fun _ => bnd (g e1) fun k e2 => bnd (h e2) fun x e3 => (dctOf (hold r) e3).bind fun kvs => (DL.keyOf (hold k) e3).bind fun ks => gotG (atD kvs ks) (hold x) e3) Q) := by
  unfold getG
  rw [wO_bnd]
  refine iff_of_eq (congrArg (fun k => wO (f env) (kE k Q)) ?_)
  funext r e1
  rcases dctOf (hold r) e1 with _ | kv
  · rfl
  · refine congrArg (bnd (g e1)) ?_
    funext k e2
    refine congrArg (bnd (h e2)) ?_
    funext x e3
    rcases dctOf (hold r) e3 with _ | kvs
    · rfl
    · rcases DL.keyOf (hold k) e3 with _ | ks
      · rfl
      · simp only [Option.bind_some]
        rcases atD kvs ks with _ | d <;> rfl
theorem wO_gitG {f g : F} : wO (gitG f g env) Q ↔ wO (f env) (kE (fun r e1 => bnd (g e1) fun k e2 => (dctOf (hold r) e2).bind fun kvs => (DL.keyOf (hold k) e2).bind fun ks => (atD kvs ks).bind fun d => some (.ok (.val d) e2)) Q) := by
  unfold gitG
  rw [wO_bnd]
  refine iff_of_eq (congrArg (fun k => wO (f env) (kE k Q)) ?_)
  funext r e1
  refine congrArg (bnd (g e1)) ?_
  funext k e2
  rcases dctOf (hold r) e2 with _ | kvs
  · rfl
  · rcases DL.keyOf (hold k) e2 with _ | ks
    · rfl
    · simp only [Option.bind_some]
      rcases atD kvs ks with _ | d <;> rfl
def pop1 (o : Option (Option Sl)) (ks : List Key) (i : Nat) (q : R) (env : Nv) : Option Out := match o with
  | some (some (.own b (.dct kvs))) => match atD kvs ks with
    | some d => some (.ok (.val d) (env.set i (some (.own b (.dct (delD kvs ks))))))
    | none => some (.ok q env)
  | _ => none
def popS (o : Option (Option Sl)) (i : Nat) (f g : F) (env : Nv) : Option Out := match o with
  | some (some (.own _ (.dct _))) => bnd (f env) fun p e1 => bnd (g e1) fun q e2 => (DL.keyOf (hold p) e2).bind fun ks => pop1 e2[i]? ks i (hold q) e2
  | _ => none
theorem popK_eq {i : Nat} {p q : R} : popK i p q env = (DL.keyOf p env).bind fun ks => pop1 env[i]? ks i q env := by
  unfold popK
  rcases DL.keyOf p env with _ | ks
  · rfl
  · rcases env[i]? with _ | _ | (_ | ⟨_, d⟩ | _ | _) <;> try rfl
    cases d <;> rfl
theorem popKO_eq {i : Nat} {f g : F} : popKO i f g env = popS env[i]? i f g env := by
  unfold popKO popS
  rcases env[i]? with _ | _ | (_ | ⟨_, d⟩ | _ | _) <;> try rfl
  cases d <;> try rfl
  simp only [evs, popK_eq]
theorem popS_own {i : Nat} {f g : F} {b : Bool} {kvs : Kvs} : popS (some (some (.own b (.dct kvs)))) i f g env = bnd (f env) fun p e1 => bnd (g e1) fun q e2 => (DL.keyOf (hold p) e2).bind fun ks => pop1 e2[i]? ks i (hold q) e2 := rfl
theorem wO_pop1 {b : Bool} {kvs : Kvs} {ks : List Key} {i : Nat} {q : R} : wO (pop1 (some (some (.own b (.dct kvs)))) ks i q env) Q ↔ (∀ d, atD kvs ks = some d → Q (.ok (.val d) (env.set i (some (.own b (.dct (delD kvs ks))))))) ∧ (atD kvs ks = none → Q (.ok q env)) := by
  rcases h : atD kvs ks with _ | d
  · have e : pop1 (some (some (.own b (.dct kvs)))) ks i q env = some (.ok q env) := by simp only [pop1, h]
    rw [e, wO_some]
    exact ⟨fun z => ⟨(fun _ y => nomatch y), fun _ => z⟩, fun z => z.2 rfl⟩
  · have e : pop1 (some (some (.own b (.dct kvs)))) ks i q env = some (.ok (.val d) (env.set i (some (.own b (.dct (delD kvs ks)))))) := by simp only [pop1, h]
    rw [e, wO_some]
    exact ⟨fun z => ⟨fun _ y => Option.some.inj y ▸ z, fun y => nomatch y⟩, fun z => z.1 d rfl⟩
def ownDct (o : Option (Option Sl)) : Option (Bool × Kvs) := match o with
  | some (some (.own b (.dct kvs))) => some (b, kvs)
  | _ => none
theorem ownDct_own {b : Bool} {kvs : Kvs} : ownDct (some (some (.own b (.dct kvs)))) = some (b, kvs) := rfl
theorem wO_putO {i : Nat} {h g : F} : wO (putO i h g env) QS ↔ wO (h env) (kS (fun x e1 => (ownDct e1[i]?).bind fun _ => bndS (g e1) fun k e2 => (DL.keyOf (hold k) e2).bind fun ks => (kp (hold x) e2).bind fun z => (ownDct z.2[i]?).bind fun y => if y.2.length < sizeLine then some (.nx (z.2.set i (some (.own y.1 (.dct (putD y.2 ks z.1)))))) else none) QS) := by
  unfold putO
  rw [wO_bndS]
  refine iff_of_eq (congrArg (fun k => wO (h env) (kS k QS)) ?_)
  funext x e1
  rcases e1[i]? with _ | _ | (_ | ⟨_, d⟩ | _ | _) <;> try rfl
  cases d <;> try rfl
  refine congrArg (bndS (g e1)) ?_
  funext k e2
  rcases DL.keyOf (hold k) e2 with _ | ks
  · rfl
  · simp only [Option.bind_some]
    rcases kp (hold x) e2 with _ | ⟨d, e3⟩
    · rfl
    · simp only [Option.bind_some]
      rcases e3[i]? with _ | _ | (_ | ⟨_, d⟩ | _ | _) <;> try rfl
      cases d <;> rfl
def lckS (o : Option (Option Sl)) : Option Kvs := match o with
  | some (some (.lck kvs)) => some kvs
  | _ => none
theorem lckS_lck {kvs : Kvs} : lckS (some (some (.lck kvs))) = some kvs := rfl
def kLock (i : Nat) (e0 : Nv) (Q : Out → Prop) : Out → Prop
  | .ok r e2 => wO (lckS e2[i]?) fun kvs => lckOk i e0 e2 = true ∧ Q (.ok r (e2.set i (some (.val (.dct kvs)))))
  | _ => False
theorem kLock_ok {i : Nat} {e0 e2 : Nv} {r : R} : kLock i e0 Q (.ok r e2) = wO (lckS e2[i]?) fun kvs => lckOk i e0 e2 = true ∧ Q (.ok r (e2.set i (some (.val (.dct kvs))))) := rfl
theorem wO_lock {i : Nat} {f : F} : wO (lockF i f env) Q ↔ wO (rel i env) fun z => wO (dctD z.1) fun k0 => wO (f (z.2.set i (some (.lck k0)))) (kLock i (z.2.set i (some (.lck k0))) Q) := by
  unfold lockF
  rcases rel i env with _ | ⟨d, e1⟩
  · simp [wO_none]
  · simp only [wO_some]
    cases d <;> simp only [dctD, wO_none, wO_some]
    rename_i k0
    rcases f (e1.set i (some (.lck k0))) with _ | (⟨r, e2⟩ | ⟨x, e2⟩)
    · simp [wO_none]
    · simp only [wO_some, kLock]
      rcases e2[i]? with _ | _ | (_ | ⟨_, d⟩ | kvs | _) <;> simp only [lckS, wO_none, wO_some]
      by_cases h : lckOk i (e1.set i (some (.lck k0))) e2 = true <;> simp [h, wO_none, wO_some]
    · simp [wO_none, wO_some, kLock]
def itkS (o : Option (Option Sl)) (env : Nv) : Option IO := (lckS o).bind fun kvs => if (kvs.all fun p => decide (p.1.length ≤ sizeLine)) = true then some (.ok (keysT kvs) env) else none
theorem itK_eq {i : Nat} : itK i env = itkS env[i]? env := by
  unfold itK itkS
  rcases env[i]? with _ | _ | (_ | ⟨_, d⟩ | _ | _) <;> rfl
theorem itkS_lck {kvs : Kvs} : itkS (some (some (.lck kvs))) env = if (kvs.all fun p => decide (p.1.length ≤ sizeLine)) = true then some (.ok (keysT kvs) env) else none := rfl
def lstD : DL.D → Option (List DL.D)
  | .lst ds => some ds
  | _ => none
theorem lstD_lst {ds : List DL.D} : lstD (.lst ds) = some ds := rfl
theorem maxKG_eq {f g : F} : maxKG f g env = bnd (f env) fun p e1 => bnd (g e1) fun q e2 => maxKO (hold p) (hold q) e2 := rfl
theorem wO_maxKO {p q : R} : wO (maxKO p q env) Q ↔ wO (pk p env) fun d => wO (lstD d) fun ds => wO (intsOf ds) fun ns => (ns = [] → Q (.ok q env)) ∧ (ns ≠ [] → Q (.ok (.val (.int (maxI ns))) env)) := by
  unfold maxKO
  rcases pk p env with _ | d
  · simp [wO_none]
  · simp only [wO_some]
    cases d <;> simp only [lstD, wO_none, wO_some]
    rename_i ds
    rcases intsOf ds with _ | ns
    · simp [wO_none]
    · cases ns <;> simp [wO_some]
theorem wO_maxO {ds : List DL.D} : wO (maxO (.lst ds) env) Q ↔ wO (intsOf ds) fun ns => ns ≠ [] ∧ Q (.ok (.val (.int (maxI ns))) env) := by
  simp only [maxO]
  rcases intsOf ds with _ | ns
  · simp [wO_none]
  · cases ns <;> simp [wO_some, wO_none]
theorem wO_sumO {d : DL.D} : wO (sumO d env) Q ↔ wO ((itemsD d).bind intsOf) fun ns => Q (.ok (.val (.int ns.sum)) env) := by
  unfold sumO
  rcases (itemsD d).bind intsOf with _ | ns <;> simp [wO_some, wO_none]
theorem itemsD_lst {ds : List DL.D} : itemsD (.lst ds) = some ds := rfl
theorem itemsD_tup {ds : List DL.D} : itemsD (.tup ds) = some ds := rfl
theorem sortO_lst {ds : List DL.D} : sortO (.lst ds) env = if sortable ds = true then some (.ok (.frs (.lst (sortD ds))) env) else none := rfl
theorem slL_eq {f g : F} : slL f g env = bnd (f env) fun p e1 => bnd (g e1) fun a e2 => (asI (hold a)).bind fun i => cutO (hold p) (some i) none e2 := by
  unfold slL
  refine congrArg (bnd (f env)) ?_
  funext p e1
  refine congrArg (bnd (g e1)) ?_
  funext a e2
  rcases asI (hold a) with _ | i <;> rfl
theorem slH_eq {f g : F} : slH f g env = bnd (f env) fun p e1 => bnd (g e1) fun a e2 => (asI (hold a)).bind fun i => cutO (hold p) none (some i) e2 := by
  unfold slH
  refine congrArg (bnd (f env)) ?_
  funext p e1
  refine congrArg (bnd (g e1)) ?_
  funext a e2
  rcases asI (hold a) with _ | i <;> rfl
def cutD (d : DL.D) (lo hi : Option Int) (env : Nv) : Option Out := match d with
  | .lst ds => some (.ok (.frs (.lst (cutG ds lo hi))) env)
  | .tup ds => some (.ok (.val (.tup (cutG ds lo hi))) env)
  | _ => none
theorem cutO_eq {r : R} {lo hi : Option Int} : cutO r lo hi env = (pk r env).bind fun d => cutD d lo hi env := by
  unfold cutO cutD
  rcases pk r env with _ | d
  · rfl
  · cases d <;> rfl
theorem cutD_lst {ds : List DL.D} {lo hi : Option Int} : cutD (.lst ds) lo hi env = some (.ok (.frs (.lst (cutG ds lo hi))) env) := rfl
theorem cutD_tup {ds : List DL.D} {lo hi : Option Int} : cutD (.tup ds) lo hi env = some (.ok (.val (.tup (cutG ds lo hi))) env) := rfl
/-! ### stores -/
def ownLst (o : Option (Option Sl)) : Option (Bool × List DL.D) := match o with
  | some (some (.own b (.lst ds))) => some (b, ds)
  | _ => none
theorem ownLst_own {b : Bool} {ds : List DL.D} : ownLst (some (some (.own b (.lst ds)))) = some (b, ds) := rfl
def kSub (i : Nat) (d : DL.D) (Q : Nv → Prop) : Out → Prop
  | .ok (.val (.int k)) e1 => wO (ownLst e1[i]?) fun y => wO (ixN y.2.length k) fun j => Q (e1.set i (some (.own y.1 (.lst (y.2.set j d)))))
  | _ => False
theorem kSub_ok {i : Nat} {d : DL.D} {Q : Nv → Prop} {k : Int} {e1 : Nv} : kSub i d Q (.ok (.val (.int k)) e1) = wO (ownLst e1[i]?) fun y => wO (ixN y.2.length k) fun j => Q (e1.set i (some (.own y.1 (.lst (y.2.set j d))))) := rfl
theorem wO_subT {i : Nat} {f : F} {d : DL.D} {Q : Nv → Prop} : wO (subT i f d env) Q ↔ wO (ownLst env[i]?) fun _ => wO (f env) (kSub i d Q) := by
  unfold subT
  rcases env[i]? with _ | _ | (_ | ⟨b, d⟩ | _ | _) <;> simp only [ownLst, wO_none, wO_some]
  cases d <;> simp only [ownLst, wO_none, wO_some]
  rcases f env with _ | (⟨r, e1⟩ | ⟨x, e1⟩)
  · simp [wO_none]
  · rcases r with d | _ | _ <;> simp only [kSub, wO_none, wO_some]
    cases d <;> simp only [kSub, wO_none, wO_some]
    rename_i k
    rcases e1[i]? with _ | _ | (_ | ⟨b, d⟩ | _ | _) <;> simp only [ownLst, wO_none, wO_some]
    cases d <;> simp only [ownLst, wO_none, wO_some]
    rename_i ds
    rcases ixN ds.length k with _ | j <;> simp [wO_none, wO_some]
  · simp [kSub, wO_none, wO_some]
/-! ### errors -/
def kRaise (QS : SO → Prop) : Out → Prop
  | .exc x e => QS (.exc x e)
  | _ => False
theorem kRaise_exc {x : Ex} {e : Nv} : kRaise QS (.exc x e) = QS (.exc x e) := rfl
theorem wO_raiseF {k : Nat} {ns : List Str} {fs : List F} : wO (raiseFG k ns fs env) QS ↔ wO (evs fs env fun rs e1 => (intsR rs).bind fun is => if (is.length = ns.length ∧ is ≠ []) ∧ ∀ i ∈ is, i.natAbs.log2 < 1920 then some (.exc ⟨k, (ns.zip is).reverse⟩ e1) else none) (kRaise QS) := by
  unfold raiseFG
  have : (fun (rs : List R) (e1 : Nv) => match intsR rs with
    | some is => if (is.length = ns.length ∧ is ≠ []) ∧ ∀ i ∈ is, i.natAbs.log2 < 1920 then some (Out.exc ⟨k, (ns.zip is).reverse⟩ e1) else none
    | none => none) = fun rs e1 => (intsR rs).bind fun is => if (is.length = ns.length ∧ is ≠ []) ∧ ∀ i ∈ is, i.natAbs.log2 < 1920 then some (.exc ⟨k, (ns.zip is).reverse⟩ e1) else none := by
    funext rs e1
    rcases intsR rs with _ | is <;> rfl
  have e := congrArg (evs fs env) this
  constructor
  · intro h
    rw [← e]
    revert h
    generalize evs fs env _ = o
    intro h
    rcases o with _ | (⟨r, e1⟩ | ⟨x, e1⟩)
    · exact absurd h (by simp [wO_none])
    · exact absurd h (by simp [wO_none])
    · obtain ⟨y, h1, h2⟩ := h
      cases h1
      exact ⟨_, rfl, h2⟩
  · intro h
    rw [← e] at h
    revert h
    generalize evs fs env _ = o
    intro h
    rcases o with _ | (⟨r, e1⟩ | ⟨x, e1⟩)
    · exact absurd h (by simp [wO_none])
    · obtain ⟨y, h1, h2⟩ := h
      cases h1
      exact h2.elim
    · obtain ⟨y, h1, h2⟩ := h
      cases h1
      exact ⟨_, rfl, h2⟩
theorem wO_raise {k : Nat} : wO (raiseG k env) QS ↔ QS (.exc ⟨k, []⟩ env) := wO_some
def suiteR (i : Nat) : SO → Option SO
  | .nx e => some (.nx (e.set i none))
  | .bk e => some (.bk (e.set i none))
  | .ct e => some (.ct (e.set i none))
  | .rt r e => some (.rt r (e.set i none))
  | _ => none
theorem suiteR_nx {i : Nat} {e : Nv} : suiteR i (.nx e) = some (.nx (e.set i none)) := rfl
theorem suiteR_rt {i : Nat} {e : Nv} {r : R} : suiteR i (.rt r e) = some (.rt r (e.set i none)) := rfl
def kTry (m : Nat → Bool) (i : Nat) (sg : Addr → Addr → Ex → G) (QS : SO → Prop) : SO → Prop
  | .exc x e1 => (m x.c = true → i < e1.length ∧ ∃ o, QS o ∧ ∀ a d, wO (sg a d x (e1.set i (some (.exn a d x.fs)))) fun so => suiteR i so = some o) ∧ (m x.c = false → QS (.exc x e1))
  | o => QS o
theorem kTry_exc {m : Nat → Bool} {i : Nat} {sg : Addr → Addr → Ex → G} {x : Ex} {e1 : Nv} : kTry m i sg QS (.exc x e1) = ((m x.c = true → i < e1.length ∧ ∃ o, QS o ∧ ∀ a d, wO (sg a d x (e1.set i (some (.exn a d x.fs)))) fun so => suiteR i so = some o) ∧ (m x.c = false → QS (.exc x e1))) := rfl
theorem kTry_nx {m : Nat → Bool} {i : Nat} {sg : Addr → Addr → Ex → G} {e1 : Nv} : kTry m i sg QS (.nx e1) = QS (.nx e1) := rfl
theorem kTry_rt {m : Nat → Bool} {i : Nat} {sg : Addr → Addr → Ex → G} {e1 : Nv} {r : R} : kTry m i sg QS (.rt r e1) = QS (.rt r e1) := rfl
theorem anyA_of {f : Addr → Addr → Option SO} {o : SO} (h : ∀ a d, f a d = some o) : anyA f = some o := by
  unfold anyA
  have hx : ∃ o, ∀ a d, f a d = some o := ⟨o, h⟩
  rw [dif_pos hx]
  have := hx.choose_spec 0 0
  rw [← this, h 0 0]
theorem wO_tryAs {m : Nat → Bool} {i : Nat} {g : G} {sg : Addr → Addr → Ex → G} (h : wO (g env) (kTry m i sg QS)) : wO (tryAs m i g sg env) QS := by
  obtain ⟨so, h1, h2⟩ := h
  unfold tryAs
  rw [h1]
  rcases so with e | ⟨r, e⟩ | e | e | ⟨x, e⟩
  · exact ⟨_, rfl, h2⟩
  · exact ⟨_, rfl, h2⟩
  · exact ⟨_, rfl, h2⟩
  · exact ⟨_, rfl, h2⟩
  · simp only
    cases hm : m x.c
    · exact ⟨_, rfl, h2.2 hm⟩
    · obtain ⟨hl, o, hq, ha⟩ := h2.1 hm
      rw [if_pos rfl, if_pos hl]
      refine ⟨o, anyA_of fun a d => ?_, hq⟩
      obtain ⟨so, g1, g2⟩ := ha a d
      rw [g1]
      rcases so with e | ⟨r, e⟩ | e | e | ⟨x, e⟩ <;> exact g2
theorem fldX_eq {a dd : Addr} {fs : List (Str × Int)} {i : Nat} {f : Str} {k : Int} (hi : env[i]? = some (some (.exn a dd fs))) (hk : fs.lookup f = some k) : fldX a dd fs i f env = some (.ok (.val (.int k)) env) := by
  have hn : fs ≠ [] := fun z => by rw [z] at hk; cases hk
  unfold fldX
  rw [if_neg hn]
  unfold fldF
  rw [hi]
  simp only [true_and, ne_eq, hn, not_false_eq_true, and_self, if_true, hk]
theorem fldX_if {a dd : Addr} {fs : List (Str × Int)} {i : Nat} {f : Str} (hi : env[i]? = some (some (.exn a dd fs))) : fldX a dd fs i f env = (fs.lookup f).map fun k => .ok (.val (.int k)) env := by
  rcases h : fs.lookup f with _ | k
  · unfold fldX
    by_cases hn : fs = []
    · rw [if_pos hn]; rfl
    · rw [if_neg hn]
      unfold fldF
      rw [hi]
      simp only [true_and, ne_eq, hn, not_false_eq_true, and_self, if_true, h]
      rfl
  · exact fldX_eq hi h
theorem isXF_eq {a dd : Addr} {fs : List (Str × Int)} {i : Nat} {b : Bool} (hi : env[i]? = some (some (.exn a dd fs))) : isXF a dd fs i b env = some (.ok (.val (.bl b)) env) := by
  unfold isXF
  rw [hi]
  simp only [and_self, if_true]
def fldS (o : Option (Option Sl)) (f : Str) (env : Nv) : Option Out := match o with
  | some (some (.exn _ _ fs)) => (fs.lookup f).map fun k => .ok (.val (.int k)) env
  | _ => none
theorem anyO_lst {ds : List DL.D} : anyO (.lst ds) env = (boolsOf ds).map fun bs => .ok (.val (.bl (bs.any id))) env := by
  simp only [anyO]
  rcases boolsOf ds with _ | bs <;> rfl
theorem boolsOf_cons {b : Bool} {ds : List DL.D} : boolsOf (.bl b :: ds) = (boolsOf ds).map (b :: ·) := rfl
theorem boolsOf_nil : boolsOf [] = some [] := rfl
end
/-- none of the others is walked -/
def lckB (o : Option (Option Sl)) : Bool := match o with
  | some (some (.lck _)) => true
  | _ => false
theorem lckB_jk {d : Option DL.D} : lckB (some (d.map .val)) = false := by cases d <;> rfl
def lckF (i : Nat) : Nv → Nat → Bool
  | [], _ => true
  | x :: l, k => (k == i || !lckB (some x)) && lckF i l (k + 1)
theorem lckF_get {i : Nat} : ∀ (l : Nv) (k j : Nat), lckF i l k = true → k + j ≠ i → lckB l[j]? = false
  | [], k, j, _, _ => by simp [lckB]
  | x :: l, k, 0, h, n => by
    have h2 := (Bool.and_eq_true_iff.mp h).1
    have : (k == i) = false := by simpa using n
    rw [this, Bool.false_or] at h2
    simpa using h2
  | x :: l, k, j + 1, h, n => by
    rw [List.getElem?_cons_succ]
    exact lckF_get l (k + 1) j (Bool.and_eq_true_iff.mp h).2 (by omega)
theorem lckOk_of {i : Nat} {e0 e1 : Nv} (h : lckF i e1 0 = true) : lckOk i e0 e1 = true := by
  unfold lckOk
  rw [List.all_eq_true]
  intro j _
  by_cases c : j = i
  · simp [c]
  · have h2 := lckF_get e1 0 j h (by omega)
    have : isLck e1 j = false := by
      unfold isLck
      unfold lckB at h2
      exact h2
    simp [this]
/-- a slot that is not one's own -/
def nown (o : Option (Option Sl)) : Bool := match o with
  | some (some (.own _ _)) => false
  | some (some (.lck _)) => false
  | _ => true
/-- what a walk may have left in a slot -/
def jk (d : Option DL.D) : Option Sl := d.map .val
theorem nown_jk {d : Option DL.D} : nown (some (jk d)) = true := by cases d <;> rfl
theorem nown_no : nown (some none) = true := rfl
theorem nown_val {d : DL.D} : nown (some (some (.val d))) = true := rfl
theorem noOwn_nil {env : Nv} : noOwn env [] = true := rfl
theorem noOwn_cons {env : Nv} {v : Nat} {vs : List Nat} : noOwn env (v :: vs) = (nown env[v]? && noOwn env vs) := by
  unfold noOwn nown
  rw [List.all_cons]
  all_goals rfl
/-- [f for x in xs]: a map -/
theorem wO_cMapY {α : Type} {enc : α → DL.D} {xs : List α} {t : T1} {f : F} {Q : Nv × DL.D → Prop} {e : Nv} (I : Nv → Prop) (g : α → DL.D) (hz : xs.length ≤ sizeLine) (h0 : I e) (hs : ∀ x ∈ xs, ∀ e, I e → wO (t (enc x) e) fun e1 => wO (f e1) (kV (g x) I)) (he : ∀ e, I e → Q (e, .lst (xs.map g))) : wO (loopC t yesF (compC (lfL f) []) (xs.map enc) e (.lst [])) Q := by
  refine wO_cMap I (fun _ => true) g hz h0 (fun x hx e hi => ?_) fun e hi => by
    have := he e hi
    rwa [List.filter_eq_self.mpr fun _ _ => rfl]
  refine wO_mono (hs x hx e hi) fun e1 h1 => wO_some.mpr ⟨rfl, fun z => Bool.noConfusion z, fun _ => h1⟩
/-! ### leaves -/
theorem wO_lfD {f g : F} {e : Nv} {kvs : Kvs} {Q : Nv × DL.D → Prop} (h : wO (f e) fun o => match o with
    | .ok r e1 => wO (kp (hold r) e1) fun z => wO (keyT z.1) fun ks => wO (g z.2) fun o2 => match o2 with
      | .ok q e3 => wO (kp (hold q) e3) fun y => kvs.length < sizeLine ∧ Q (y.2, .dct (putD kvs ks y.1))
      | .exc _ _ => False
    | .exc _ _ => False) : wO (lfD f g e (.dct kvs)) Q := by
  obtain ⟨o, h1, h2⟩ := h
  rcases o with ⟨r, e1⟩ | _
  · obtain ⟨⟨d, e2⟩, h3, ks, h4, o2, h5, h6⟩ := h2
    rcases o2 with ⟨q, e3⟩ | _
    · obtain ⟨⟨y, e4⟩, h7, h8, h9⟩ := h6
      refine ⟨_, ?_, h9⟩
      simp only at h4 h5
      simp only [lfD, h1, h3, h4, h5, h7, if_pos h8]
    · exact h6.elim
  · exact h2.elim
/-- the ints of a set, in the order in which they came -/
def addI (ns : List Int) (i : Int) : List Int := if i ∈ ns then ns else ns ++ [i]
theorem wO_lfS {f : F} {e e1 : Nv} {ns : List Int} {i : Int} {Q : Nv × DL.D → Prop} (h1 : f e = some (.ok (.val (.int i)) e1)) (hz : ns.length + 1 < scanBound) (hq : Q (e1, .lst ((addI ns i).map .int))) : wO (lfS f e (.lst (ns.map .int))) Q := by
  refine ⟨_, ?_, hq⟩
  unfold lfS
  simp only [h1, hold, List.length_map, if_pos hz]
  have : ((ns.map DL.D.int).any fun d => match d with
    | .int j => decide (j = i)
    | _ => false) = decide (i ∈ ns) := by
    rw [List.any_map]
    rcases q : decide (i ∈ ns) with _ | _
    · rw [List.any_eq_false]
      intro x hx
      have : ¬ i ∈ ns := of_decide_eq_false q
      simp only [Function.comp_apply, decide_eq_true_eq]
      exact fun z => this (by rw [← z]; exact hx)
    · rw [List.any_eq_true]
      exact ⟨i, of_decide_eq_true q, by simp⟩
  refine congrArg (fun z => some (e1, z)) ?_
  unfold addI
  by_cases h : i ∈ ns
  · rw [if_pos h]
    exact if_pos (this.trans (decide_eq_true h))
  · rw [if_neg h, List.map_append]
    exact if_neg (fun z => h (of_decide_eq_true (this.symm.trans z)))
theorem finS_eq {ns : List Int} {env : Nv} : finS (.lst (ns.map .int)) env = if ns.length < 64 then some (.ok (.frs (.lst ((sortI ns).map .int))) env) else none := by
  simp only [finS, intsOf_map]
end DL

set_option Elab.async false
set_option linter.all false
set_option maxRecDepth 100000
namespace DL
open PySem L2
section
variable {Q : Out → Prop} {QS : SO → Prop} {QI : IO → Prop} {env : Nv}
/-! ### ranges that are kept, counting down, xs.pop(i) -/
theorem rngO_int {j : Int} : rngO (.int j) env = some (.ok (.val (.rng 0 j)) env) := rfl
theorem lenRO_rng {lo hi : Int} : lenRO (.rng lo hi) env = if (rngC lo && rngC hi) = true then some (.ok (.val (.int (hi - lo).toNat)) env) else none := rfl
theorem wO_itRv {f : F} : wO (itRv f env) QI ↔ wO (f env) (kI (fun r e => (asI (hold r)).bind fun j => if rngC j = true then some (.ok (revL j) e) else none) QI) := by
  unfold itRv
  rw [wO_bndI]
  have : (fun (r : R) (env : Nv) => match asI (hold r) with
    | some j => if rngC j then some (IO.ok (revL j) env) else none
    | none => none) = fun r e => (asI (hold r)).bind fun j => if rngC j = true then some (.ok (revL j) e) else none := by
    funext r e
    rcases asI (hold r) with _ | j <;> rfl
  exact iff_of_eq (congrArg (fun k => wO (f env) (kI k QI)) this)
def rngD : DL.D → Option (Int × Int)
  | .rng lo hi => some (lo, hi)
  | _ => none
theorem rngD_rng {lo hi : Int} : rngD (.rng lo hi) = some (lo, hi) := rfl
theorem wO_itRV {f : F} : wO (itRV f env) QI ↔ wO (f env) (kI (fun r e => (kp (hold r) e).bind fun z => (rngD z.1).bind fun p => if (rngC p.1 && rngC p.2) = true then some (.ok (rngL p.1 p.2) z.2) else none) QI) := by
  unfold itRV
  rw [wO_bndI]
  have : (fun (r : R) (env : Nv) => match kp (hold r) env with
    | some (.rng lo hi, env) => if rngC lo && rngC hi then some (IO.ok (rngL lo hi) env) else none
    | _ => none) = fun r e => (kp (hold r) e).bind fun z => (rngD z.1).bind fun p => if (rngC p.1 && rngC p.2) = true then some (.ok (rngL p.1 p.2) z.2) else none := by
    funext r e
    rcases kp (hold r) e with _ | ⟨d, e⟩
    · rfl
    · cases d <;> rfl
  exact iff_of_eq (congrArg (fun k => wO (f env) (kI k QI)) this)
def popAS (o : Option (Option Sl)) (i : Nat) (f : F) (env : Nv) : Option Out := match o with
  | some (some (.own _ (.lst _))) => bnd (f env) fun r env1 => (asI (hold r)).bind fun k => wrP i k env1
  | _ => none
theorem popAtO_eq {i : Nat} {f : F} : popAtO i f env = popAS env[i]? i f env := by
  have : (fun (r : R) (env1 : Nv) => match asI (hold r) with
    | some k => wrP i k env1
    | none => none) = fun r env1 => (asI (hold r)).bind fun k => wrP i k env1 := by
    funext r env1
    rcases asI (hold r) with _ | _ <;> rfl
  unfold popAtO popAS
  rcases env[i]? with _ | _ | (_ | ⟨_, d⟩ | _ | _) <;> try rfl
  cases d <;> first | rfl | exact congrArg (bnd (f env)) this
theorem popAS_own {i : Nat} {f : F} {b : Bool} {ds : List DL.D} : popAS (some (some (.own b (.lst ds)))) i f env = bnd (f env) fun r env1 => (asI (hold r)).bind fun k => wrP i k env1 := rfl
theorem wO_wrP {i : Nat} {k : Int} : wO (wrP i k env) Q ↔ (-(2 ^ 63) ≤ k ∧ k < 2 ^ 63) ∧ wO (ownLst env[i]?) fun y => wO (seqIndex? k y.2.length) fun j => wO y.2[j]? fun d => Q (.ok (.val d) (env.set i (some (.own y.1 (.lst (y.2.eraseIdx j)))))) := by
  unfold wrP
  rcases env[i]? with _ | _ | (_ | ⟨b, d⟩ | _ | _) <;> simp only [ownLst, wO_none, wO_some, and_false]
  cases d <;> simp only [ownLst, wO_none, wO_some, and_false]
  rename_i ds
  by_cases c : (decide (-(2 ^ 63) ≤ k) && decide (k < 2 ^ 63)) = true
  · rw [if_pos c]
    simp only [Bool.and_eq_true, decide_eq_true_eq] at c
    rcases seqIndex? k ds.length with _ | j
    · simp only [wO_none, and_false]
    · simp only [wO_some]
      generalize ds[j]? = o
      rcases o with _ | d <;> simp only [wO_none, wO_some, and_false, c, and_self, true_and]
  · rw [if_neg c]
    simp only [Bool.and_eq_true, decide_eq_true_eq] at c
    simp only [wO_none, c, false_and]
end
theorem seq_at {k n : Nat} (h : k < n) : seqIndex? (k : Int) n = some k := by
  unfold seqIndex?
  simp
  omega
/-- a for over reversed(range(n)) -/
theorem wO_rev {t : T1} {b : G} {Q : SO → Prop} {e : Nv} (I : Nat → Nv → Prop) (n : Nat) (h0 : I 0 e) (hs : ∀ (k : Nat) (e : Nv), k < n → I k e → wO (t (.int ((n : Int) - 1 - (k : Int))) e) fun e1 => wO (b e1) (kL (I (k + 1)) Q)) (he : ∀ e, I n e → Q (.nx e)) : wO (loopG t b (revL (n : Int)) e) Q := by
  have hl : (revL (n : Int)).length = n := by simp [revL]
  refine wO_loopD I _ 0 e h0 (fun i d e hd hI => ?_) fun e h => he e (by rw [hl, Nat.zero_add] at h; exact h)
  have hi2 : i < n := by rw [← hl]; exact (List.getElem?_eq_some_iff.mp hd).1
  have hd2 : d = .int ((n : Int) - 1 - (i : Int)) := by
    unfold revL at hd
    rw [List.getElem?_map] at hd
    rcases q : (List.range (n : Int).toNat)[i]? with _ | j
    · rw [q] at hd; cases hd
    · rw [q] at hd
      obtain ⟨q1, q2⟩ := List.getElem?_eq_some_iff.mp q
      rw [List.getElem_range] at q2
      subst q2
      exact (Option.some.inj hd).symm
  subst hd2
  rw [Nat.zero_add] at hI ⊢
  exact hs i e hi2 hI
end DL

set_option Elab.async false
set_option linter.all false
set_option maxRecDepth 100000
namespace DL
open PySem L2
section
variable {Q : Out → Prop} {QS : SO → Prop} {QI : IO → Prop} {env : Nv}
theorem wO_itES {f : F} : wO (itES f env) QI ↔ wO (f env) (kI (fun r e => (kp (hold r) e).bind fun z => match z.1 with
    | .lst ds => some (.ok (enumD ds) z.2)
    | .tup ds => some (.ok (enumD ds) z.2)
    | _ => none) QI) := by
  unfold itES
  rw [wO_bndI]
  have : (fun (r : R) (env : Nv) => match kp (hold r) env with
    | some (.lst ds, env) => some (IO.ok (enumD ds) env)
    | some (.tup ds, env) => some (IO.ok (enumD ds) env)
    | _ => none) = fun r e => (kp (hold r) e).bind fun z => match z.1 with
    | .lst ds => some (.ok (enumD ds) z.2)
    | .tup ds => some (.ok (enumD ds) z.2)
    | _ => none := by
    funext r e
    rcases kp (hold r) e with _ | ⟨d, e⟩
    · rfl
    · cases d <;> rfl
  exact iff_of_eq (congrArg (fun k => wO (f env) (kI k QI)) this)
theorem negF_eq {f : F} : negF f env = bnd (f env) fun r env => (asI (hold r)).bind fun i => some (.ok (.val (.int (-i))) env) := rfl
end
end DL

set_option Elab.async false
set_option linter.all false
set_option maxRecDepth 100000
namespace DL
open PySem L2
section
variable {Q : Out → Prop} {QS : SO → Prop} {env : Nv}
theorem wO_whileN {c : F} {b : G} (I : Nat → Nv → Prop) (hs : ∀ n e, I n e → wO (c e) (kU (fun e1 => QS (.nx e1)) fun e1 => wO (b e1) (kL (fun e2 => ∃ m, m < n ∧ I m e2) QS))) : ∀ (k n : Nat), n ≤ k → ∀ e, I n e → ∃ f, wO (whileN c b f e) QS := by
  intro k
  induction k with
  | zero =>
    intro n hn e hi
    have hn0 : n = 0 := by omega
    subst hn0
    obtain ⟨o, h1, h2⟩ := hs 0 e hi
    rcases o with ⟨r, e1⟩ | ⟨x, e1⟩
    · rcases r with d | j | d
      · cases d with
        | bl t =>
          cases t with
          | true =>
            obtain ⟨o2, h3, h4⟩ := h2.1 rfl
            rcases o2 with e2 | ⟨r, e2⟩ | e2 | e2 | ⟨x, e2⟩
            · obtain ⟨m, hm, _⟩ := (show ∃ m, m < 0 ∧ I m e2 from h4); omega
            · exact ⟨1, _, by unfold whileN; simp only [h1, h3], h4⟩
            · exact ⟨1, _, by unfold whileN; simp only [h1, h3], h4⟩
            · obtain ⟨m, hm, _⟩ := (show ∃ m, m < 0 ∧ I m e2 from h4); omega
            · exact ⟨1, _, by unfold whileN; simp only [h1, h3], h4⟩
          | false => exact ⟨1, _, by unfold whileN; simp only [h1], h2.2 rfl⟩
        | _ => exact h2.elim
      · exact h2.elim
      · exact h2.elim
    · exact h2.elim
  | succ k ih =>
    intro n hn e hi
    obtain ⟨o, h1, h2⟩ := hs n e hi
    rcases o with ⟨r, e1⟩ | ⟨x, e1⟩
    · rcases r with d | j | d
      · cases d with
        | bl t =>
          cases t with
          | true =>
            obtain ⟨o2, h3, h4⟩ := h2.1 rfl
            rcases o2 with e2 | ⟨r, e2⟩ | e2 | e2 | ⟨x, e2⟩
            · obtain ⟨m, hm, hi2⟩ := (show ∃ m, m < n ∧ I m e2 from h4)
              obtain ⟨f, o3, h5, h6⟩ := ih m (by omega) e2 hi2
              exact ⟨f + 1, o3, by unfold whileN; simp only [h1, h3]; exact h5, h6⟩
            · exact ⟨1, _, by unfold whileN; simp only [h1, h3], h4⟩
            · exact ⟨1, _, by unfold whileN; simp only [h1, h3], h4⟩
            · obtain ⟨m, hm, hi2⟩ := (show ∃ m, m < n ∧ I m e2 from h4)
              obtain ⟨f, o3, h5, h6⟩ := ih m (by omega) e2 hi2
              exact ⟨f + 1, o3, by unfold whileN; simp only [h1, h3]; exact h5, h6⟩
            · exact ⟨1, _, by unfold whileN; simp only [h1, h3], h4⟩
          | false => exact ⟨1, _, by unfold whileN; simp only [h1], h2.2 rfl⟩
        | _ => exact h2.elim
      · exact h2.elim
      · exact h2.elim
    · exact h2.elim
theorem wO_while {c : F} {b : G} {e : Nv} (I : Nat → Nv → Prop) (n : Nat) (h0 : I n e) (hs : ∀ n e, I n e → wO (c e) (kU (fun e1 => QS (.nx e1)) fun e1 => wO (b e1) (kL (fun e2 => ∃ m, m < n ∧ I m e2) QS))) : wO (whileG c b e) QS := by
  obtain ⟨f, o, h1, h2⟩ := wO_whileN I hs n n (Nat.le_refl _) e h0
  exact ⟨o, whileG_of h1, h2⟩
def intS (o : Option (Option Sl)) : Option Int := match o with
  | some (some (.val (.int a))) => some a
  | _ => none
theorem intS_int {a : Int} : intS (some (some (.val (.int a)))) = some a := rfl
theorem augG_eq {i : Nat} {f : F} {g : Int → Int → Option Int} : augG i f g env = (intS env[i]?).bind fun _ => bndS (f env) fun r e1 => (intS e1[i]?).bind fun a => (asI (hold r)).bind fun b => (g a b).map fun z => .nx (e1.set i (some (.val (.int z)))) := by
  have : (fun (r : R) (e1 : Nv) => match e1[i]? with
    | some (some (.val (.int a))) => (asI (hold r)).bind fun b => (g a b).map fun z => SO.nx (e1.set i (some (.val (.int z))))
    | _ => none) = fun r e1 => (intS e1[i]?).bind fun a => (asI (hold r)).bind fun b => (g a b).map fun z => .nx (e1.set i (some (.val (.int z)))) := by
    funext r e1
    rcases e1[i]? with _ | _ | (d | _ | _ | _) <;> try rfl
    cases d <;> rfl
  unfold augG
  rcases env[i]? with _ | _ | (d | _ | _ | _) <;> try rfl
  cases d <;> first | rfl | exact congrArg (bndS (f env)) this
theorem augAdd_eq {a b : Int} : augAdd a b = some (a + b) := rfl
theorem augSub_eq {a b : Int} : augSub a b = some (a - b) := rfl
theorem finN_eq {ns : List Int} : finN (.lst (ns.map .int)) env = some (.ok (.val (.int (ns.length : Nat))) env) := by
  simp only [finN, intsOf_map]
  rfl
theorem lenSetF_eq {f : F} : lenSetF f env = bnd (f env) fun r e => (pk (hold r) e).bind fun d => lenSetD d e := rfl
theorem lenSetD_eq {ns : List Int} : lenSetD (.lst (ns.map .int)) env = if ns.length < 64 then some (.ok (.val (.int ((onceI ns).length : Nat))) env) else none := by
  simp only [lenSetD, intsOf_map]
  rfl
theorem minTO_eq {n : List Int} {ns : List (List Int)} : minTO (.lst ((n :: ns).map encI)) env = some (.ok (.val (encI (minL n ns))) env) := by
  simp only [minTO, rowsOf_map]
theorem lstRO_rng {lo hi : Int} : lstRO (.rng lo hi) env = if (rngC lo && rngC hi) = true ∧ (hi - lo).toNat ≤ 1000000 then some (.ok (.frs (.lst ((rngI lo hi).map .int))) env) else none := rfl
theorem dIsB_eq {a b : Bool} : dIsB (.bl a) (.bl b) = some (.bl (decide (a = b))) := rfl
end
end DL
namespace DL
open PySem L2
theorem wO_lfS2 {f : F} {e : Nv} {ns : List Int} {Q : Nv × DL.D → Prop} (h : wO (f e) fun o => ∃ i e1, o = .ok (.val (.int i)) e1 ∧ ns.length + 1 < scanBound ∧ Q (e1, .lst ((addI ns i).map .int))) : wO (lfS f e (.lst (ns.map .int))) Q := by
  obtain ⟨o, h1, i, e1, rfl, hz, hq⟩ := h
  exact wO_lfS h1 hz hq
theorem snoc_ind {α : Type} {P : List α → Prop} (h0 : P []) (hs : ∀ l a, P l → P (l ++ [a])) (l : List α) : P l := by
  have : ∀ l : List α, P l.reverse := fun l => by
    induction l with
    | nil => exact h0
    | cons a l ih => rw [List.reverse_cons]; exact hs _ _ ih
  have := this l.reverse
  rwa [List.reverse_reverse] at this
theorem onceI_snoc {l : List Int} {i : Int} : onceI (l ++ [i]) = addI (onceI l) i := by
  unfold onceI
  rw [List.foldl_append]
  rfl
theorem onceI_mem (l : List Int) (i : Int) : i ∈ onceI l ↔ i ∈ l := by
  revert l
  refine snoc_ind Iff.rfl fun l j ih => ?_
  · rw [onceI_snoc]
    unfold addI
    by_cases c : j ∈ onceI l
    · rw [if_pos c, ih, List.mem_append, List.mem_singleton]
      exact ⟨.inl, fun h => h.elim id fun e => by
        subst e
        exact ih.mp c⟩
    · rw [if_neg c, List.mem_append, List.mem_append, ih]
theorem onceI_le (l : List Int) : (onceI l).length ≤ l.length ∧ ((onceI l).length = l.length ↔ l.Nodup) := by
  revert l
  refine snoc_ind ⟨Nat.le_refl _, ⟨fun _ => List.nodup_nil, fun _ => rfl⟩⟩ fun l j ih => ?_
  · rw [onceI_snoc]
    unfold addI
    by_cases c : j ∈ onceI l
    · rw [if_pos c, List.length_append, List.length_singleton]
      refine ⟨by omega, ⟨fun h => by omega, fun h => ?_⟩⟩
      have := (List.nodup_append.mp h).2.2 j ((onceI_mem l j).mp c) j (List.mem_singleton.mpr rfl)
      exact absurd rfl this
    · rw [if_neg c, List.length_append, List.length_append, List.length_singleton]
      refine ⟨by omega, ⟨fun h => ?_, fun h => ?_⟩⟩
      · refine List.nodup_append.mpr ⟨ih.2.mp (by omega), (by simp), fun a ha b hb e => ?_⟩
        rw [List.mem_singleton] at hb
        rw [e, hb] at ha
        exact c ((onceI_mem l j).mpr ha)
      · have := ih.2.mpr (List.nodup_append.mp h).1
        omega
end DL

set_option Elab.async false
set_option linter.all false
set_option maxRecDepth 100000
namespace DL
open PySem L2
section
variable {Q : Out → Prop} {QS : SO → Prop} {QI : IO → Prop} {env : Nv}
theorem bitsF_eq {f : F} : bitsF f env = bnd (f env) fun r e => (asI (hold r)).bind fun i => some (.ok (.val (.int (Builtin.Int.intBits i : Nat))) e) := rfl
theorem dShr_int {i j : Int} : dShr (.int i) (.int j) = if 0 ≤ j then some (.int (i / 2 ^ j.toNat)) else none := by
  by_cases h : 0 ≤ j <;> simp [dShr, dI, h]
theorem dShl_int {i j : Int} : dShl (.int i) (.int j) = if powC i j = true then some (.int (i * 2 ^ j.toNat)) else none := rfl
theorem dAnd_int {i j : Int} : dAnd (.int i) (.int j) = some (.int (Builtin.bitAnd i j)) := rfl
theorem sortSetF_eq {f : F} : sortSetF f env = bnd (f env) fun r e => (pk (hold r) e).bind fun d => sortSetD d e := rfl
theorem sortSetD_eq {ns : List Int} : sortSetD (.tup (ns.map .int)) env = if ns.length < 64 then some (.ok (.frs (.lst ((sortI (onceI ns)).map .int))) env) else none := by
  simp only [sortSetD, intsOf_map]
  rfl
theorem maxTO_eq {n : Int} {ns : List Int} : maxTO (.tup ((n :: ns).map .int)) env = some (.ok (.val (.int (maxI (n :: ns)))) env) := by
  simp only [maxTO, intsOf_map]
theorem wO_itRv2 {f g : F} : wO (itRv2 f g env) QI ↔ wO (f env) (kI (fun r e => bndI (g e) fun r2 e2 => (asI (hold r)).bind fun i => (asI (hold r2)).bind fun j => if (rngC i && rngC j) = true then some (.ok (revL2 i j) e2) else none) QI) := wO_bndI
end
end DL

set_option Elab.async false
set_option linter.all false
set_option maxRecDepth 100000
namespace DL
open PySem L2
/-! ### sorted, in, of ints -/
theorem toks_int (i : Int) : PySem.W.keyToks (D.int i).py = [.inl i] := rfl
theorem leD_int {a b : Int} : leD (.int a) (.int b) = decide (a ≤ b) := by
  show (!PyProof.Rows.lexLt PyProof.Rows.itemOrd (PySem.W.keyToks (D.int b).py) (PySem.W.keyToks (D.int a).py)) = decide (a ≤ b)
  have e1 : PyProof.Rows.itemOrd.blt (.inl b) (.inl a) = decide (b < a) := rfl
  have e2 : PyProof.Rows.itemOrd.blt (.inl a) (.inl b) = decide (a < b) := rfl
  have e3 : PyProof.Rows.lexLt PyProof.Rows.itemOrd [] [] = false := rfl
  rw [toks_int, toks_int, PyProof.Rows.lex_cons, e1, e2, e3]
  by_cases h : a ≤ b
  · rw [decide_eq_true h, decide_eq_false (show ¬ b < a by omega)]
    simp
  · rw [decide_eq_false h, decide_eq_true (show b < a by omega)]
    rfl
theorem sortD_ints (ns : List Int) : sortD (ns.map .int) = (sortI ns).map .int := by
  unfold sortD sortI
  rw [List.map_mergeSort]
  intro a _ b _
  rw [leD_int]
theorem flat_ints' : ∀ ns : List Int, (ns.map D.int).all isFlat = true
  | [] => rfl
  | n :: ns => by rw [List.map_cons, List.all_cons, flat_ints' ns]; rfl
theorem sortable_ints {ns : List Int} : sortable (ns.map .int) = true := by
  unfold sortable
  rw [flat_ints']
  rfl
theorem sortO_ints {ns : List Int} {env : Nv} : sortO (.lst (ns.map .int)) env = some (.ok (.frs (.lst ((sortI ns).map .int))) env) := by
  rw [show sortO (.lst (ns.map .int)) env = if sortable (ns.map .int) = true then some (.ok (.frs (.lst (sortD (ns.map .int)))) env) else none from rfl]
  rw [if_pos (by unfold sortable; rw [flat_ints']; rfl), sortD_ints]
theorem any_intD {i : Int} : ∀ ns : List Int, ((ns.map D.int).any fun z => D.beq z (.int i)) = decide (i ∈ ns)
  | [] => by simp
  | n :: ns => by
    rw [List.map_cons, List.any_cons, any_intD ns]
    have : D.beq (.int n) (.int i) = decide (n = i) := by simp [D.beq]
    rw [this]
    by_cases h : n = i
    · subst h; simp
    · have : ¬ i = n := fun e => h e.symm
      simp [h, this]
theorem dIn_tup {i : Int} {ns : List Int} : dIn (.int i) (.tup (ns.map .int)) = some (.bl (decide (i ∈ ns))) := by
  unfold dIn dInB
  show (match dInL (.int i) (.tup (ns.map .int)) with | some b => some b | none => dInT (.int i) (.tup (ns.map .int))).map D.bl = _
  have e1 : dInL (.int i) (.tup (ns.map .int)) = none := rfl
  have e2 : dInT (.int i) (.tup (ns.map .int)) = some (decide (i ∈ ns)) := by
    unfold dInT
    simp only
    rw [if_pos (by rw [flat_ints']; rfl), any_intD]
  rw [e1, e2]
  rfl
theorem dNotIn_tup {i : Int} {ns : List Int} : dNotIn (.int i) (.tup (ns.map .int)) = some (.bl (!decide (i ∈ ns))) := by
  unfold dNotIn dInB
  show (match dInL (.int i) (.tup (ns.map .int)) with | some b => some b | none => dInT (.int i) (.tup (ns.map .int))).map (fun b => D.bl (!b)) = _
  have e1 : dInL (.int i) (.tup (ns.map .int)) = none := rfl
  have e2 : dInT (.int i) (.tup (ns.map .int)) = some (decide (i ∈ ns)) := by
    unfold dInT
    simp only
    rw [if_pos (by rw [flat_ints']; rfl), any_intD]
  rw [e1, e2]
  rfl
theorem eqOks_ints : ∀ ns : List Int, D.eqOks (ns.map D.int) = true
  | [] => rfl
  | n :: ns => by rw [List.map_cons]; simp only [D.eqOks, D.eqOk, eqOks_ints ns]; rfl
theorem deps_ints' : ∀ ns : List Int, D.deps (ns.map D.int) = 0
  | [] => rfl
  | n :: ns => by
    show max (D.dep (.int n)) (D.deps (ns.map D.int)) = 0
    rw [deps_ints' ns]
    rfl
theorem cmp_int (i : Int) : (D.int i).cmp = true := rfl
theorem cmp_ints (ns : List Int) : (D.lst (ns.map .int)).cmp = true := by
  unfold D.cmp
  rw [Bool.and_eq_true]
  refine ⟨by simp only [D.eqOk, eqOks_ints], decide_eq_true ?_⟩
  show D.deps (ns.map DL.D.int) + 1 ≤ 64
  rw [deps_ints']
  omega
theorem dIn_lst {i : Int} {ns : List Int} : dIn (.int i) (.lst (ns.map .int)) = some (.bl (decide (i ∈ ns))) := by
  have e : dInL (.int i) (.lst (ns.map .int)) = some (decide (i ∈ ns)) := by
    unfold dInL
    simp only
    rw [cmp_int, cmp_ints, if_pos (by rfl), any_intD]
  unfold dIn dInB
  rw [e]
  rfl
theorem dNotIn_lst {i : Int} {ns : List Int} : dNotIn (.int i) (.lst (ns.map .int)) = some (.bl (!decide (i ∈ ns))) := by
  have e : dInL (.int i) (.lst (ns.map .int)) = some (decide (i ∈ ns)) := by
    unfold dInL
    simp only
    rw [cmp_int, cmp_ints, if_pos (by rfl), any_intD]
  unfold dNotIn dInB
  rw [e]
  rfl
theorem keysD_ints : ∀ ns : List Int, keysD (ns.map .int) = some (ns.map Sum.inl)
  | [] => rfl
  | n :: ns => by
    show (match keyD (.int n), keysD (ns.map .int) with | some k, some ks => some (k :: ks) | _, _ => none) = _
    rw [keysD_ints ns]
    rfl
theorem keyT_ints {ns : List Int} : keyT (.tup (ns.map .int)) = some (ns.map Sum.inl) := keysD_ints ns
theorem dInK_dct {d : DL.D} {kvs : Kvs} : dInK d (.dct kvs) = (keyT d).map fun ks => .bl (atD kvs ks).isSome := rfl
theorem dNotInK_dct {d : DL.D} {kvs : Kvs} : dNotInK d (.dct kvs) = (keyT d).map fun ks => .bl (!(atD kvs ks).isSome) := rfl
theorem mkD1_eq {i : Nat} {n : Int} {env : Nv} : mkD1 i n env = (pk (.slot i) env).bind fun d => (keyT d).bind fun ks => some (.ok (.frs (.dct [(ks, .int n)])) env) := rfl
/-! ### a new thing given to a def that writes it -/
section
variable {Q : Out → Prop} {env : Nv} {fn : Fn} {f g : F}
def kFV (Q : Out → Prop) (e : Nv) : FR → Prop
  | .ok false dd _ => Q (.ok (.val dd) e)
  | _ => False
theorem kFV_v {dd tp : DL.D} {e : Nv} : kFV Q e (.ok false dd tp) = Q (.ok (.val dd) e) := rfl
def kCU (fn : Fn) (d : DL.D) (Q : Out → Prop) : Out → Prop
  | .ok r e2 => wO (kp (hold r) e2) fun z => wO (fn [d, z.1]) (kFV Q z.2)
  | _ => False
theorem kCU_ok {d : DL.D} {r : R} {e2 : Nv} : kCU fn d Q (.ok r e2) = wO (kp (hold r) e2) fun z => wO (fn [d, z.1]) (kFV Q z.2) := rfl
def kCT (fn : Fn) (g : F) (Q : Out → Prop) : Out → Prop
  | .ok (.frs d) e1 => wO (g e1) (kCU fn d Q)
  | _ => False
theorem kCT_frs {d : DL.D} {e1 : Nv} : kCT fn g Q (.ok (.frs d) e1) = wO (g e1) (kCU fn d Q) := rfl
theorem wO_callT : wO (callT fn f g env) Q ↔ wO (f env) (kCT fn g Q) := by
  unfold callT
  rcases f env with _ | (⟨r, e1⟩ | ⟨x, e1⟩)
  · simp [wO_none]
  · rcases r with d | i | d
    · simp [wO_none, wO_some, kCT]
    · simp [wO_none, wO_some, kCT]
    · simp only [wO_some, kCT]
      rcases g e1 with _ | (⟨r, e2⟩ | ⟨x, e2⟩)
      · simp [wO_none]
      · simp only [wO_some, kCU]
        rcases kp (hold r) e2 with _ | ⟨d2, e3⟩
        · simp [wO_none]
        · simp only [wO_some]
          rcases fn [d, d2] with _ | (⟨_ | _, dd, tp⟩ | ⟨x, tp⟩) <;> simp [wO_none, wO_some, kFV]
      · simp [wO_none, wO_some, kCU]
  · simp [wO_none, wO_some, kCT]
end
/-! ### index, min -/
theorem idxF_eq {f g : F} {env : Nv} : idxF f g env = bnd (f env) fun r e1 => (lstI (hold r) e1).bind fun _ => bnd (g e1) fun k e2 => (lstI (hold r) e2).bind fun ns => (asI (hold k)).bind fun i => (idxN ns i).map fun j => .ok (.val (.int (j : Nat))) e2 := rfl
theorem lstI_eq {r : R} {env : Nv} : lstI r env = (pk r env).bind intsD9 := rfl
theorem intsD9_lst {ns : List Int} : intsD9 (.lst (ns.map .int)) = some ns := intsOf_map ns
theorem minO_lst {ns : List Int} {env : Nv} (h : ns ≠ []) : minO (.lst (ns.map .int)) env = some (.ok (.val (.int (minI ns))) env) := by
  cases ns with
  | nil => exact absurd rfl h
  | cons n ns =>
    show (match intsOf ((n :: ns).map DL.D.int) with
    | some (n :: ns) => some (Out.ok (.val (.int (minI (n :: ns)))) env)
    | _ => none) = _
    rw [intsOf_map]
end DL
namespace DL
open PySem L2
/-! ### lent -/
section
variable {Q : Out → Prop} {env : Nv}
def kFL (Q : Out → Prop) (e : Nv) : FR → Prop
  | .ok fr d _ => okL fr d = true ∧ Q (.ok (if fr then .frs d else .val d) e)
  | .exc x _ => Q (.exc x e)
theorem kFL_v {d tp : DL.D} {e : Nv} : kFL Q e (.ok false d tp) = (isPure d = true ∧ Q (.ok (.val d) e)) := rfl
theorem kFL_f {ds : List DL.D} {tp : DL.D} {e : Nv} : kFL Q e (.ok true (.lst ds) tp) = (arePure ds = true ∧ Q (.ok (.frs (.lst ds)) e)) := rfl
theorem kFL_exc {x : Ex} {tp : DL.D} {e : Nv} : kFL Q e (.exc x tp) = Q (.exc x e) := rfl
theorem wO_pks_nil {QK : List DL.D → Prop} : wO (pks [] env) QK ↔ QK [] := wO_some
theorem wO_pks_cons {QK : List DL.D → Prop} {r : R} {rs : List R} : wO (pks (r :: rs) env) QK ↔ wO (pk r env) fun d => wO (pks rs env) fun ds => QK (d :: ds) := by
  simp only [pks]
  rcases pk r env with _ | d
  · simp [wO_none]
  · simp only [wO_some, Option.bind_some]
    rcases pks rs env with _ | ds <;> simp [wO_none, wO_some]
theorem wO_callL {n : Nat} {f : Fn} {rs : List R} : wO (callL n f rs env) Q ↔ rs.length = n ∧ wO (pks rs env) fun ds => wO (f ds) (kFL Q env) := by
  unfold callL
  by_cases h : rs.length = n
  · simp only [h, ne_eq, not_true_eq_false, if_false, true_and]
    rcases pks rs env with _ | ds
    · simp [wO_none]
    · simp only [wO_some, Option.bind_some]
      rcases f ds with _ | (⟨fr, d, tp⟩ | ⟨x, tp⟩)
      · simp [wO_none]
      · simp only [wO_some, kFL]
        by_cases c : okL fr d = true
        · simp [c, wO_some]
        · simp [c, wO_none]
      · simp [wO_some, kFL]
  · simp [h, wO_none]
theorem pure_non : isPure .non = true := rfl
theorem pure_int {i : Int} : isPure (.int i) = true := rfl
theorem pure_bl {b : Bool} : isPure (.bl b) = true := rfl
theorem pure_ints : ∀ ns : List Int, arePure (ns.map .int) = true
  | [] => rfl
  | n :: ns => by
    show (isPure (.int n) && arePure (ns.map .int)) = true
    rw [pure_ints ns]
    rfl
theorem pure_tupI {ns : List Int} : isPure (.tup (ns.map .int)) = true := pure_ints ns
/-! ### sorted(set(a list)) -/
theorem sortSetFL_eq {f : F} : sortSetFL f env = bnd (f env) fun r e => (pk (hold r) e).bind fun d => sortSetDL d e := rfl
theorem sortSetDL_eq {ns : List Int} : sortSetDL (.lst (ns.map .int)) env = if ns.length < 64 then some (.ok (.frs (.lst ((sortI (onceI ns)).map .int))) env) else none := by
  unfold sortSetDL
  simp only
  rw [intsOf_map]
  rfl
end
end DL

set_option Elab.async false
set_option linter.all false
set_option maxRecDepth 100000
namespace DL
open PySem L2
/-! ### wide, divmod, dicts of ints to ints, sets of tuples, a, b = x, y -/
theorem dMulW_int {i j : Int} : dMulW (.int i) (.int j) = if mulW i j = true then some (.int (i * j)) else none := rfl
theorem dDivW_int {i j : Int} : dDivW (.int i) (.int j) = if divW i j = true then some (.int (i / j)) else none := rfl
theorem log2_le {n a : Nat} (h : n < 2 ^ a) : n.log2 ≤ a := by
  by_cases h0 : n = 0
  · subst h0; simp
  · exact Nat.le_of_lt ((Nat.log2_lt h0).mpr h)
theorem mulW_of {i j : Int} {a b : Nat} (h1 : i.natAbs < 2 ^ a) (h2 : j.natAbs < 2 ^ b) (h : a + b < 1000000) : mulW i j = true := decide_eq_true (by
  have := log2_le h1
  have := log2_le h2
  omega)
theorem divmodO_int {i j : Int} {env : Nv} : divmodO (.int i) (.int j) env = if dmC j = true then some (.ok (.val (.tup [.int (i / j), .int (i % j)])) env) else none := rfl
theorem dmC_of {j : Int} (h1 : 0 < j) (h2 : j < 1073741824) : dmC j = true := by
  unfold dmC
  rw [decide_eq_true h1, decide_eq_true h2]
  rfl
theorem mkI0_eq {env : Nv} : mkI0 env = some (.ok (.frs (.dci [])) env) := rfl
def dciD : DL.D → Option KvI2
  | .dci kvs => some kvs
  | .dcf kvs => some kvs
  | _ => none
theorem dciD_i {kvs : KvI2} : dciD (.dci kvs) = some kvs := rfl
theorem dciD_f {kvs : KvI2} : dciD (.dcf kvs) = some kvs := rfl
theorem dciOf_eq {r : R} {env : Nv} : dciOf r env = (pk r env).bind dciD := by
  unfold dciOf
  rcases pk r env with _ | d
  · rfl
  · cases d <;> rfl
section
variable {Q : Out → Prop} {QS : SO → Prop} {env : Nv} {f g h : F}
theorem wO_gitI : gitI f g env = bnd (f env) fun r e1 => bnd (g e1) fun k e2 => (dciOf (hold r) e2).bind fun kvs => (asI (hold k)).bind fun i => (atI2 kvs i).map fun n => .ok (.val (.int n)) e2 := by
  unfold gitI
  congr 1
  funext r e1
  congr 1
  funext k e2
  rcases dciOf (hold r) e2 with _ | kvs
  · rfl
  · rcases asI (hold k) with _ | i
    · rfl
    · simp only [Option.bind_some]
      rcases atI2 kvs i with _ | n <;> rfl
theorem wO_getI : getI f g h env = bnd (f env) fun r e1 => (dciOf (hold r) e1).bind fun _ => bnd (g e1) fun k e2 => bnd (h e2) fun x e3 => (dciOf (hold r) e3).bind fun kvs => (asI (hold k)).bind fun i => (asI (hold x)).bind fun n => some (.ok (.val (.int ((atI2 kvs i).getD n))) e3) := by
  unfold getI
  congr 1
  funext r e1
  rcases dciOf (hold r) e1 with _ | kvs
  · rfl
  · simp only [Option.bind_some]
    congr 1
    funext k e2
    congr 1
    funext x e3
    rcases dciOf (hold r) e3 with _ | kvs
    · rfl
    · rcases asI (hold k) with _ | i
      · rfl
      · rcases asI (hold x) with _ | n <;> rfl
def ownDci (o : Option (Option Sl)) : Option (Bool × KvI2) := match o with
  | some (some (.own b (.dci kvs))) => some (b, kvs)
  | _ => none
theorem ownDci_own {b : Bool} {kvs : KvI2} : ownDci (some (some (.own b (.dci kvs)))) = some (b, kvs) := rfl
theorem wO_putI {i : Nat} : putI i h g env = bndS (h env) fun x e1 => (ownDci e1[i]?).bind fun _ => bndS (g e1) fun k e2 => (asI (hold k)).bind fun j => (asI (hold x)).bind fun n => (ownDci e2[i]?).bind fun z => if z.2.length < sizeLine then some (.nx (e2.set i (some (.own z.1 (.dci (putI2 z.2 j n)))))) else none := by
  unfold putI
  congr 1
  funext x e1
  have k : ∀ {α : Type} (a : Option α) (o : Option (Option Sl)), (match o with
    | some (some (.own _ (.dci _))) => a
    | _ => none) = (ownDci o).bind fun _ => a := fun a o => by
    rcases o with _ | _ | (_ | ⟨_, d⟩ | _ | _) <;> try rfl
    cases d <;> rfl
  refine (k _ _).trans ?_
  congr 1
  funext _
  congr 1
  funext k e2
  rcases asI (hold k) with _ | j
  · rfl
  · rcases asI (hold x) with _ | n
    · rfl
    · simp only [Option.bind_some]
      rcases e2[i]? with _ | _ | (_ | ⟨_, d⟩ | _ | _) <;> try rfl
      cases d <;> rfl
theorem wO_lfI {e : Nv} {kvs : KvI2} {Q : Nv × DL.D → Prop} (hh : wO (f e) fun o => match o with
    | .ok r e1 => wO (asI (hold r)) fun k => wO (g e1) fun o2 => match o2 with
      | .ok q e3 => wO (asI (hold q)) fun n => kvs.length < sizeLine ∧ Q (e3, .dci (putI2 kvs k n))
      | .exc _ _ => False
    | .exc _ _ => False) : wO (lfI f g e (.dci kvs)) Q := by
  obtain ⟨o, h1, h2⟩ := hh
  rcases o with ⟨r, e1⟩ | _
  · obtain ⟨k, h3, o2, h5, h6⟩ := h2
    rcases o2 with ⟨q, e3⟩ | _
    · obtain ⟨n, h7, h8, h9⟩ := h6
      refine ⟨_, ?_, h9⟩
      simp only [lfI, h1, h3, h5, h7, if_pos h8]
    · exact h6.elim
  · exact h2.elim
def kLk (env e' : Nv) (Q : Out → Prop) : Out → Prop
  | .ok r e2 => e2 = e' ∧ (match r with
    | .val d => isPure d = true ∧ Q (.ok (.val d) env)
    | .frs (.lst ds) => arePure ds = true ∧ Q (.ok (.frs (.lst ds)) env)
    | _ => False)
  | _ => False
theorem kLk_v {e' e2 : Nv} {d : DL.D} : kLk env e' Q (.ok (.val d) e2) = (e2 = e' ∧ isPure d = true ∧ Q (.ok (.val d) env)) := rfl
theorem kLk_f {e' e2 : Nv} {ds : List DL.D} : kLk env e' Q (.ok (.frs (.lst ds)) e2) = (e2 = e' ∧ arePure ds = true ∧ Q (.ok (.frs (.lst ds)) env)) := rfl
theorem wO_lockI {i : Nat} {kvs : KvI2} (h : env[i]? = some (some (.own false (.dci kvs)))) (ok : envOk env = true) (hw : wO (f (env.set i (some (.val (.dcf kvs))))) (kLk env (env.set i (some (.val (.dcf kvs)))) Q)) : wO (lockI i f env) Q := by
  unfold lockI
  rw [h]
  simp only [ok, if_true]
  obtain ⟨o, h1, h2⟩ := hw
  rcases o with ⟨r, e2⟩ | _
  · obtain ⟨h3, h4⟩ := h2
    simp only [h1, h3, if_true]
    rcases r with d | _ | d
    · simp only [h4.1, if_true]
      exact wO_some.mpr h4.2
    · exact h4.elim
    · cases d with
      | lst ds =>
        simp only [h4.1, if_true]
        exact wO_some.mpr h4.2
      | _ => exact h4.elim
  · exact h2.elim
def dcfS (o : Option (Option Sl)) : Option KvI2 := match o with
  | some (some (.val (.dcf kvs))) => some kvs
  | _ => none
theorem dcfS_v {kvs : KvI2} : dcfS (some (some (.val (.dcf kvs)))) = some kvs := rfl
theorem itKi_eq {i : Nat} : itKi i env = (dcfS env[i]?).map fun kvs => .ok (kvs.map fun p => .int p.1) env := by
  unfold itKi dcfS
  rcases env[i]? with _ | _ | (d | _ | _ | _) <;> try rfl
  cases d <;> rfl
theorem lenSetTF_eq : lenSetTF f env = bnd (f env) fun r e => (pk (hold r) e).bind fun d => lenSetTD d e := rfl
theorem tupsOf_enc : ∀ ls : List (List Int), tupsOf (ls.map fun ns => DL.D.tup (ns.map .int)) = some ls
  | [] => rfl
  | l :: ls => by
    rw [List.map_cons]
    simp only [tupsOf]
    rw [intsOf_map, tupsOf_enc ls]
    rfl
theorem lenSetTD_eq {ls : List (List Int)} : lenSetTD (.lst (ls.map fun ns => DL.D.tup (ns.map .int))) env = if (onceL ls).length < 63 then some (.ok (.val (.int ((onceL ls).length : Nat))) env) else none := by
  unfold lenSetTD
  simp only
  rw [tupsOf_enc]
  rfl
theorem wO_parG {i j : Nat} : parG i j f g env = bndS (f env) fun p e1 => bndS (g e1) fun q e2 => (asI (hold p)).bind fun a => (asI (hold q)).bind fun b => some (.nx ((e2.set i (some (.val (.int a)))).set j (some (.val (.int b))))) := by
  unfold parG
  congr 1
  funext p e1
  congr 1
  funext q e2
  rcases asI (hold p) with _ | a
  · rfl
  · rcases asI (hold q) with _ | b <;> rfl
end
end DL

set_option Elab.async false
set_option linter.all false
set_option maxRecDepth 100000
set_option maxHeartbeats 4000000
namespace DL
theorem sz0 : (0 ≤ PySem.sizeLine) = True := eq_true (by decide)
theorem sz1 : (1 ≤ PySem.sizeLine) = True := eq_true (by decide)
theorem sz2 : (2 ≤ PySem.sizeLine) = True := eq_true (by decide)
theorem sz3 : (3 ≤ PySem.sizeLine) = True := eq_true (by decide)
theorem sz4 : (4 ≤ PySem.sizeLine) = True := eq_true (by decide)
theorem sz5 : (5 ≤ PySem.sizeLine) = True := eq_true (by decide)
theorem gd_and {p q : Prop} : ((p → q) ∧ p) ↔ (p ∧ q) := ⟨fun h => ⟨h.2, h.1 h.2⟩, fun h => ⟨fun _ => h.2, h.1⟩⟩
theorem szl1 : (0 < PySem.sizeLine) = True := eq_true (by decide)
end DL
namespace K13
open DL PySem L2
/-! ### drawing -/
def tapeD (c : Int) (b : Bool) (n s : Int) : DL.D := .lst [.int c, .bl b, .int n, .int s]
/-- a tape -/
def Tape (d : DL.D) : Prop := ∃ c b n s, d = tapeD c b n s
theorem at4_0 {a b c d : DL.D} : atI [a, b, c, d] 0 = some a := rfl
theorem at4_1 {a b c d : DL.D} : atI [a, b, c, d] 1 = some b := rfl
theorem at4_2 {a b c d : DL.D} : atI [a, b, c, d] 2 = some c := rfl
theorem at4_3 {a b c d : DL.D} : atI [a, b, c, d] 3 = some d := rfl
theorem dIx_scr {ns : List Int} {i : Int} : dIx (.scr ns) (.int i) = (atI ns i).map .int := rfl
theorem absO_int {i : Int} {env : Nv} : absO (.int i) env = some (.ok (.val (.int (if i < 0 then -i else i))) env) := rfl
theorem pow_18 : dPow (.int 10) (.int 18) = some (.int 1000000000000000000) := by rfl
theorem ix4_0 : ixN 4 0 = some 0 := rfl
theorem ix4_2 : ixN 4 2 = some 2 := rfl
theorem ls4_0 {a b c d x : DL.D} : [a, b, c, d].set 0 x = [x, b, c, d] := rfl
theorem ls4_2 {a b c d x : DL.D} : [a, b, c, d].set 2 x = [a, b, x, d] := rfl
theorem mc_64 {i : Int} : mulC i 64 = true := mulC_r (by decide) (by decide)
theorem mc_48271 {i : Int} : mulC i 48271 = true := mulC_r (by decide) (by decide)
theorem mc_69621 {i : Int} : mulC i 69621 = true := mulC_r (by decide) (by decide)
theorem mc_40692 {i : Int} : mulC i 40692 = true := mulC_r (by decide) (by decide)
theorem mc_31 {i : Int} : mulC i 31 = true := mulC_r (by decide) (by decide)
theorem ltape_ok (ns : List Int) (k : Nat) : wO (fnD false 3 gd_ltape [.scr ns, .int k]) fun r => ∃ d, r = .ok true d .non ∧ Tape d := by
  simp only [wO_fnD, slots0, pad, List.map_cons, List.map_nil, List.length_cons, List.length_nil, Nat.zero_add, Nat.reduceAdd, Nat.reduceSub, List.replicate, List.cons_append, List.nil_append, if_true, if_false, Bool.false_eq_true, ↓reduceIte, gd_ltape]
  simp only [wO_some, wO_none, wO_ite, wO_map, kE_ok, kE_exc, kS_ok, kS_exc, kI_ok, kI_exc, kB_ok, kB_exc, kBS_ok, kBS_exc, kG_nx, kG_rt, kG_exc, kG_bk, kG_ct, kL_nx, kL_ct, kL_bk, kL_rt, kL_exc, kFor_ok, kFor_exc, kComp_ok, kCl_ok, kX_nx, kX_rt, kX_exc, kF_v, kF_f, kF_exc, kT_ok, kV_ok, kU_ok, wO_bnd, wO_bndS, wO_bndI, wO_bndB, wO_bndBS, wO_seq, wO_set, wO_ret, wO_expr, wO_if, wO_retN, wO_pass, wO_brk, wO_ctG, wO_and, wO_or, wO_not, wO_ifF, rB_eq, yesF_eq, finF_eq, cst_eq, wO_for, wO_compG, wO_compC, compC_nil, wO_evs_nil, wO_evs_cons, ap2_eq, apN_eq, hold_val, hold_slot, hold_frs, rdN_eq, rdS_val, rdS_own, rdS_lck, rdS_exn, pk_val, pk_slot, pkS_val, pkS_own, pkS_lck, rel_eq, relS_val, relS_own, kp_val, kp_slot, put_val, put_frs, put_slot, asI_val, wO_kps_nil, wO_kps_cons, wO_mkT, wO_mkL, wO_o2, wO_o2g, wO_c1, wO_c2, wO_add, addD_int, addD_lst, addD_tup, wO_mul, mulD_int, mulD_lst, mulD_tup, dAdd_int, dSub_int, oSub_eq, dDiv_int, dMod_int, dLt_int, dLe_int, dGt_int, dGe_int, dEq_int, dNe_int, dNe_bl, dEq_bl, dEq_II, dIsN_eq, dNotN_eq, isNon_non, isNon_int, isNon_tup, isNon_lst, ixO_eq, dIx_lst, dIx_tup, lenO_lst, lenO_tup, lenO_scr, intO_int, intO_bl, tupO_lst, tupO_tup, lstO_lst, lstO_tup, isTO_non, isTO_bl, isTO_int, isTO_str, isTO_tup, isTO_lst, wO_truF, wO_bind, truD_non, truD_bl, truD_int, truD_lst, truD_tup, wrA_eq, wrS_own, appO_eq, apS_own, nmT_eq, tupT_eq, tsT_nil, tsT_cons, wO_asg, wO_outC, wO_callV, ownS_own, wO_callM, tpOf_f, tpOf_t, resOf_frs, resOf_val, resOf_slot, resS_own, resS_val, wO_itL, wO_itT, wO_itET, wO_itEL, wO_itR1, wO_itR2, wO_loop_nil, gt0, st0, gt1, st1, gt2, st2, gt3, st3, gt4, st4, gt5, st5, gt6, st6, gt7, st7, gt8, st8, gt9, st9, gt10, st10, gt11, st11, gt12, st12, gt13, st13, gt14, st14, gt15, st15, dctD_dct, keyOf_eq, keyT_II, gotG_some, gotG_none, wO_getG, wO_gitG, popKO_eq, popS_own, wO_pop1, ownDct_own, wO_putO, lckS_lck, kLock_ok, wO_lock, itK_eq, itkS_lck, lstD_lst, maxKG_eq, wO_maxKO, wO_maxO, wO_sumO, itemsD_lst, itemsD_tup, sortO_lst, slL_eq, slH_eq, cutO_eq, cutD_lst, cutD_tup, ownLst_own, kSub_ok, wO_subT, kRaise_exc, wO_raiseF, wO_raise, suiteR_nx, suiteR_rt, kTry_exc, kTry_nx, kTry_rt, fldX_if, isXF_eq, anyO_lst, boolsOf_cons, boolsOf_nil, lckB_jk, nown_jk, nown_no, nown_val, noOwn_nil, noOwn_cons, rngO_int, lenRO_rng, wO_itRv, rngD_rng, wO_itRV, popAtO_eq, popAS_own, wO_wrP, dctOf_eq, rngC_eq, wO_loopC_nil, decide_eq_true_eq, Bool.and_eq_true, Bool.or_eq_true, Bool.not_eq_true', Bool.not_eq_false', decide_eq_false_iff_not, List.length_cons, List.length_nil, Nat.zero_add, Int.zero_add, Nat.reduceAdd, true_and, and_true, and_self, ↓reduceIte, if_true, if_false, Bool.false_eq_true, Bool.not_true, Bool.not_false, eq_self, forall_const, true_implies, false_implies, not_false_eq_true, not_true_eq_false, implies_true, Option.map_some, Option.map_none, Nat.reduceLT, Nat.reduceLeDiff, beq_self_eq_true, Bool.true_beq, Bool.false_beq, Int.reduceLT, Int.reduceLE, Int.reduceEq, Int.reduceAdd, isT, wipeE, restE, List.all_cons, List.all_nil, Bool.and_true, Bool.and_self, Option.getD_some, Option.getD_none, gd_and, sz0, sz1, sz2, sz3, sz4, sz5, szl1, keysD, keyD, reduceCtorEq, Bool.true_eq_false, imp_false, Classical.not_not, wO_itES, negF_eq, intS_int, augG_eq, augAdd_eq, augSub_eq, finN_eq, lenSetF_eq, lenSetD_eq, minTO_eq, dIsB_eq, lstRO_rng, bitsF_eq, dShr_int, dShl_int, dAnd_int, sortSetF_eq, sortSetD_eq, wO_itRv2, wO_callT, kCT_frs, kCU_ok, kFV_v, mkD1_eq, dInK_dct, dNotInK_dct, idxF_eq, lstI_eq, intsD9_lst, wO_callL, wO_pks_nil, wO_pks_cons, kFL_v, kFL_f, kFL_exc, pure_non, pure_int, pure_bl, pure_ints, pure_tupI, sortSetFL_eq, sortSetDL_eq, dMulW_int, dDivW_int, divmodO_int, mkI0_eq, dciD_i, dciD_f, dciOf_eq, wO_gitI, wO_getI, ownDci_own, wO_putI, dcfS_v, itKi_eq, lenSetTF_eq, wO_parG, kLk_v, kLk_f, dIx_scr, pow_18, wO_map, mc_64]
  refine ⟨fun h => ?_, fun h => ⟨_, rfl, _, _, _, _, rfl⟩⟩
  have hk : k < ns.length := by omega
  refine wO_of (atI_nat (List.getElem?_eq_getElem hk)) ?_
  simp only [wO_some, wO_none, wO_ite, wO_map, kE_ok, kE_exc, kS_ok, kS_exc, kI_ok, kI_exc, kB_ok, kB_exc, kBS_ok, kBS_exc, kG_nx, kG_rt, kG_exc, kG_bk, kG_ct, kL_nx, kL_ct, kL_bk, kL_rt, kL_exc, kFor_ok, kFor_exc, kComp_ok, kCl_ok, kX_nx, kX_rt, kX_exc, kF_v, kF_f, kF_exc, kT_ok, kV_ok, kU_ok, wO_bnd, wO_bndS, wO_bndI, wO_bndB, wO_bndBS, wO_seq, wO_set, wO_ret, wO_expr, wO_if, wO_retN, wO_pass, wO_brk, wO_ctG, wO_and, wO_or, wO_not, wO_ifF, rB_eq, yesF_eq, finF_eq, cst_eq, wO_for, wO_compG, wO_compC, compC_nil, wO_evs_nil, wO_evs_cons, ap2_eq, apN_eq, hold_val, hold_slot, hold_frs, rdN_eq, rdS_val, rdS_own, rdS_lck, rdS_exn, pk_val, pk_slot, pkS_val, pkS_own, pkS_lck, rel_eq, relS_val, relS_own, kp_val, kp_slot, put_val, put_frs, put_slot, asI_val, wO_kps_nil, wO_kps_cons, wO_mkT, wO_mkL, wO_o2, wO_o2g, wO_c1, wO_c2, wO_add, addD_int, addD_lst, addD_tup, wO_mul, mulD_int, mulD_lst, mulD_tup, dAdd_int, dSub_int, oSub_eq, dDiv_int, dMod_int, dLt_int, dLe_int, dGt_int, dGe_int, dEq_int, dNe_int, dNe_bl, dEq_bl, dEq_II, dIsN_eq, dNotN_eq, isNon_non, isNon_int, isNon_tup, isNon_lst, ixO_eq, dIx_lst, dIx_tup, lenO_lst, lenO_tup, lenO_scr, intO_int, intO_bl, tupO_lst, tupO_tup, lstO_lst, lstO_tup, isTO_non, isTO_bl, isTO_int, isTO_str, isTO_tup, isTO_lst, wO_truF, wO_bind, truD_non, truD_bl, truD_int, truD_lst, truD_tup, wrA_eq, wrS_own, appO_eq, apS_own, nmT_eq, tupT_eq, tsT_nil, tsT_cons, wO_asg, wO_outC, wO_callV, ownS_own, wO_callM, tpOf_f, tpOf_t, resOf_frs, resOf_val, resOf_slot, resS_own, resS_val, wO_itL, wO_itT, wO_itET, wO_itEL, wO_itR1, wO_itR2, wO_loop_nil, gt0, st0, gt1, st1, gt2, st2, gt3, st3, gt4, st4, gt5, st5, gt6, st6, gt7, st7, gt8, st8, gt9, st9, gt10, st10, gt11, st11, gt12, st12, gt13, st13, gt14, st14, gt15, st15, dctD_dct, keyOf_eq, keyT_II, gotG_some, gotG_none, wO_getG, wO_gitG, popKO_eq, popS_own, wO_pop1, ownDct_own, wO_putO, lckS_lck, kLock_ok, wO_lock, itK_eq, itkS_lck, lstD_lst, maxKG_eq, wO_maxKO, wO_maxO, wO_sumO, itemsD_lst, itemsD_tup, sortO_lst, slL_eq, slH_eq, cutO_eq, cutD_lst, cutD_tup, ownLst_own, kSub_ok, wO_subT, kRaise_exc, wO_raiseF, wO_raise, suiteR_nx, suiteR_rt, kTry_exc, kTry_nx, kTry_rt, fldX_if, isXF_eq, anyO_lst, boolsOf_cons, boolsOf_nil, lckB_jk, nown_jk, nown_no, nown_val, noOwn_nil, noOwn_cons, rngO_int, lenRO_rng, wO_itRv, rngD_rng, wO_itRV, popAtO_eq, popAS_own, wO_wrP, dctOf_eq, rngC_eq, wO_loopC_nil, decide_eq_true_eq, Bool.and_eq_true, Bool.or_eq_true, Bool.not_eq_true', Bool.not_eq_false', decide_eq_false_iff_not, List.length_cons, List.length_nil, Nat.zero_add, Int.zero_add, Nat.reduceAdd, true_and, and_true, and_self, ↓reduceIte, if_true, if_false, Bool.false_eq_true, Bool.not_true, Bool.not_false, eq_self, forall_const, true_implies, false_implies, not_false_eq_true, not_true_eq_false, implies_true, Option.map_some, Option.map_none, Nat.reduceLT, Nat.reduceLeDiff, beq_self_eq_true, Bool.true_beq, Bool.false_beq, Int.reduceLT, Int.reduceLE, Int.reduceEq, Int.reduceAdd, isT, wipeE, restE, List.all_cons, List.all_nil, Bool.and_true, Bool.and_self, Option.getD_some, Option.getD_none, gd_and, sz0, sz1, sz2, sz3, sz4, sz5, szl1, keysD, keyD, reduceCtorEq, Bool.true_eq_false, imp_false, Classical.not_not, wO_itES, negF_eq, intS_int, augG_eq, augAdd_eq, augSub_eq, finN_eq, lenSetF_eq, lenSetD_eq, minTO_eq, dIsB_eq, lstRO_rng, bitsF_eq, dShr_int, dShl_int, dAnd_int, sortSetF_eq, sortSetD_eq, wO_itRv2, wO_callT, kCT_frs, kCU_ok, kFV_v, mkD1_eq, dInK_dct, dNotInK_dct, idxF_eq, lstI_eq, intsD9_lst, wO_callL, wO_pks_nil, wO_pks_cons, kFL_v, kFL_f, kFL_exc, pure_non, pure_int, pure_bl, pure_ints, pure_tupI, sortSetFL_eq, sortSetDL_eq, dMulW_int, dDivW_int, divmodO_int, mkI0_eq, dciD_i, dciD_f, dciOf_eq, wO_gitI, wO_getI, ownDci_own, wO_putI, dcfS_v, itKi_eq, lenSetTF_eq, wO_parG, kLk_v, kLk_f, absO_int, pow_18, mc_64]
  exact ⟨_, rfl, _, _, _, _, rfl⟩
theorem ltake_ok {d : DL.D} (ht : Tape d) {m : Int} (h0 : 0 < m) (h1 : m < 1073741824) : wO (fnD true 4 gd_ltake [d, .int m]) fun r => ∃ v t, r = .ok false (.int v) t ∧ Tape t ∧ 0 ≤ v ∧ v < m := by
  obtain ⟨c, b, n, s, rfl⟩ := ht
  unfold tapeD
  simp only [wO_fnD, slots0, pad, List.map_cons, List.map_nil, List.length_cons, List.length_nil, Nat.zero_add, Nat.reduceAdd, Nat.reduceSub, List.replicate, List.cons_append, List.nil_append, if_true, if_false, Bool.false_eq_true, ↓reduceIte, gd_ltake]
  simp only [wO_some, wO_none, wO_ite, wO_map, kE_ok, kE_exc, kS_ok, kS_exc, kI_ok, kI_exc, kB_ok, kB_exc, kBS_ok, kBS_exc, kG_nx, kG_rt, kG_exc, kG_bk, kG_ct, kL_nx, kL_ct, kL_bk, kL_rt, kL_exc, kFor_ok, kFor_exc, kComp_ok, kCl_ok, kX_nx, kX_rt, kX_exc, kF_v, kF_f, kF_exc, kT_ok, kV_ok, kU_ok, wO_bnd, wO_bndS, wO_bndI, wO_bndB, wO_bndBS, wO_seq, wO_set, wO_ret, wO_expr, wO_if, wO_retN, wO_pass, wO_brk, wO_ctG, wO_and, wO_or, wO_not, wO_ifF, rB_eq, yesF_eq, finF_eq, cst_eq, wO_for, wO_compG, wO_compC, compC_nil, wO_evs_nil, wO_evs_cons, ap2_eq, apN_eq, hold_val, hold_slot, hold_frs, rdN_eq, rdS_val, rdS_own, rdS_lck, rdS_exn, pk_val, pk_slot, pkS_val, pkS_own, pkS_lck, rel_eq, relS_val, relS_own, kp_val, kp_slot, put_val, put_frs, put_slot, asI_val, wO_kps_nil, wO_kps_cons, wO_mkT, wO_mkL, wO_o2, wO_o2g, wO_c1, wO_c2, wO_add, addD_int, addD_lst, addD_tup, wO_mul, mulD_int, mulD_lst, mulD_tup, dAdd_int, dSub_int, oSub_eq, dDiv_int, dMod_int, dLt_int, dLe_int, dGt_int, dGe_int, dEq_int, dNe_int, dNe_bl, dEq_bl, dEq_II, dIsN_eq, dNotN_eq, isNon_non, isNon_int, isNon_tup, isNon_lst, ixO_eq, dIx_lst, dIx_tup, lenO_lst, lenO_tup, lenO_scr, intO_int, intO_bl, tupO_lst, tupO_tup, lstO_lst, lstO_tup, isTO_non, isTO_bl, isTO_int, isTO_str, isTO_tup, isTO_lst, wO_truF, wO_bind, truD_non, truD_bl, truD_int, truD_lst, truD_tup, wrA_eq, wrS_own, appO_eq, apS_own, nmT_eq, tupT_eq, tsT_nil, tsT_cons, wO_asg, wO_outC, wO_callV, ownS_own, wO_callM, tpOf_f, tpOf_t, resOf_frs, resOf_val, resOf_slot, resS_own, resS_val, wO_itL, wO_itT, wO_itET, wO_itEL, wO_itR1, wO_itR2, wO_loop_nil, gt0, st0, gt1, st1, gt2, st2, gt3, st3, gt4, st4, gt5, st5, gt6, st6, gt7, st7, gt8, st8, gt9, st9, gt10, st10, gt11, st11, gt12, st12, gt13, st13, gt14, st14, gt15, st15, dctD_dct, keyOf_eq, keyT_II, gotG_some, gotG_none, wO_getG, wO_gitG, popKO_eq, popS_own, wO_pop1, ownDct_own, wO_putO, lckS_lck, kLock_ok, wO_lock, itK_eq, itkS_lck, lstD_lst, maxKG_eq, wO_maxKO, wO_maxO, wO_sumO, itemsD_lst, itemsD_tup, sortO_lst, slL_eq, slH_eq, cutO_eq, cutD_lst, cutD_tup, ownLst_own, kSub_ok, wO_subT, kRaise_exc, wO_raiseF, wO_raise, suiteR_nx, suiteR_rt, kTry_exc, kTry_nx, kTry_rt, fldX_if, isXF_eq, anyO_lst, boolsOf_cons, boolsOf_nil, lckB_jk, nown_jk, nown_no, nown_val, noOwn_nil, noOwn_cons, rngO_int, lenRO_rng, wO_itRv, rngD_rng, wO_itRV, popAtO_eq, popAS_own, wO_wrP, dctOf_eq, rngC_eq, wO_loopC_nil, decide_eq_true_eq, Bool.and_eq_true, Bool.or_eq_true, Bool.not_eq_true', Bool.not_eq_false', decide_eq_false_iff_not, List.length_cons, List.length_nil, Nat.zero_add, Int.zero_add, Nat.reduceAdd, true_and, and_true, and_self, ↓reduceIte, if_true, if_false, Bool.false_eq_true, Bool.not_true, Bool.not_false, eq_self, forall_const, true_implies, false_implies, not_false_eq_true, not_true_eq_false, implies_true, Option.map_some, Option.map_none, Nat.reduceLT, Nat.reduceLeDiff, beq_self_eq_true, Bool.true_beq, Bool.false_beq, Int.reduceLT, Int.reduceLE, Int.reduceEq, Int.reduceAdd, isT, wipeE, restE, List.all_cons, List.all_nil, Bool.and_true, Bool.and_self, Option.getD_some, Option.getD_none, gd_and, sz0, sz1, sz2, sz3, sz4, sz5, szl1, keysD, keyD, reduceCtorEq, Bool.true_eq_false, imp_false, Classical.not_not, wO_itES, negF_eq, intS_int, augG_eq, augAdd_eq, augSub_eq, finN_eq, lenSetF_eq, lenSetD_eq, minTO_eq, dIsB_eq, lstRO_rng, bitsF_eq, dShr_int, dShl_int, dAnd_int, sortSetF_eq, sortSetD_eq, wO_itRv2, wO_callT, kCT_frs, kCU_ok, kFV_v, mkD1_eq, dInK_dct, dNotInK_dct, idxF_eq, lstI_eq, intsD9_lst, wO_callL, wO_pks_nil, wO_pks_cons, kFL_v, kFL_f, kFL_exc, pure_non, pure_int, pure_bl, pure_ints, pure_tupI, sortSetFL_eq, sortSetDL_eq, dMulW_int, dDivW_int, divmodO_int, mkI0_eq, dciD_i, dciD_f, dciOf_eq, wO_gitI, wO_getI, ownDci_own, wO_putI, dcfS_v, itKi_eq, lenSetTF_eq, wO_parG, kLk_v, kLk_f, at4_0, at4_1, at4_2, at4_3, ix4_0, ix4_2, ls4_0, ls4_2, mc_48271, mc_69621, mc_40692, mc_31, h0, h1]
  exact ⟨fun _ => ⟨fun _ => ⟨_, _, rfl, ⟨_, _, _, _, rfl⟩, Int.emod_nonneg _ (by omega), Int.emod_lt_of_pos _ h0⟩, fun _ => ⟨_, _, rfl, ⟨_, _, _, _, rfl⟩, Int.emod_nonneg _ (by omega), Int.emod_lt_of_pos _ h0⟩⟩, fun _ => ⟨_, _, rfl, ⟨_, _, _, _, rfl⟩, Int.emod_nonneg _ (by omega), Int.emod_lt_of_pos _ h0⟩⟩
theorem getD_at {α : Type} {b : List α} {k : Nat} {d : α} (hk : k < b.length) : b[k]? = some (b.getD k d) := by
  rw [List.getD_eq_getElem?_getD, List.getElem?_eq_getElem hk]; rfl
def fTape : Fn := fnD false 3 gd_ltape
def fTake : Fn := fnD true 4 gd_ltake
theorem take0 {d : DL.D} (ht : Tape d) {m : Int} (h0 : 0 < m) (h1 : m < 1073741824) : wO (fTake [d, .int m]) fun r => ∃ (v : Nat) (t : DL.D), r = .ok false (.int v) t ∧ Tape t ∧ (v : Int) < m := wO_mono (ltake_ok ht h0 h1) fun r ⟨v, t, e, ht, h⟩ => ⟨v.toNat, t, by rw [e, Int.toNat_of_nonneg h.1], ht, by omega⟩
theorem at2_0 {a b : DL.D} : atI [a, b] 0 = some a := rfl
theorem at2_1 {a b : DL.D} : atI [a, b] 1 = some b := rfl
theorem at3_0 {a b c : DL.D} : atI [a, b, c] 0 = some a := rfl
theorem at3_1 {a b c : DL.D} : atI [a, b, c] 1 = some b := rfl
theorem at3_2 {a b c : DL.D} : atI [a, b, c] 2 = some c := rfl
end K13

local macro_rules
| `(tactic| simp! $[[$xs,*]]? $[$l:location]?) => do
  match xs with
  | some xs => `(tactic| simp only [DL.wO_some, DL.wO_none, DL.wO_ite, DL.wO_map, DL.kE_ok, DL.kE_exc, DL.kS_ok, DL.kS_exc, DL.kI_ok, DL.kI_exc, DL.kB_ok, DL.kB_exc, DL.kBS_ok, DL.kBS_exc, DL.kG_nx, DL.kG_rt, DL.kG_exc, DL.kG_bk, DL.kG_ct, DL.kL_nx, DL.kL_ct, DL.kL_bk, DL.kL_rt, DL.kL_exc, DL.kFor_ok, DL.kFor_exc, DL.kComp_ok, DL.kCl_ok, DL.kX_nx, DL.kX_rt, DL.kX_exc, DL.kF_v, DL.kF_f, DL.kF_exc, DL.kT_ok, DL.kV_ok, DL.kU_ok, DL.wO_bnd, DL.wO_bndS, DL.wO_bndI, DL.wO_bndB, DL.wO_bndBS, DL.wO_seq, DL.wO_set, DL.wO_ret, DL.wO_expr, DL.wO_if, DL.wO_retN, DL.wO_pass, DL.wO_brk, DL.wO_ctG, DL.wO_and, DL.wO_or, DL.wO_not, DL.wO_ifF, DL.rB_eq, DL.yesF_eq, DL.finF_eq, DL.cst_eq, DL.wO_for, DL.wO_compG, DL.wO_compC, DL.compC_nil, DL.wO_evs_nil, DL.wO_evs_cons, DL.ap2_eq, DL.apN_eq, DL.hold_val, DL.hold_slot, DL.hold_frs, DL.rdN_eq, DL.rdS_val, DL.rdS_own, DL.rdS_lck, DL.rdS_exn, DL.pk_val, DL.pk_slot, DL.pkS_val, DL.pkS_own, DL.pkS_lck, DL.rel_eq, DL.relS_val, DL.relS_own, DL.kp_val, DL.kp_slot, DL.put_val, DL.put_frs, DL.put_slot, DL.asI_val, DL.wO_kps_nil, DL.wO_kps_cons, DL.wO_mkT, DL.wO_mkL, DL.wO_o2, DL.wO_o2g, DL.wO_c1, DL.wO_c2, DL.wO_add, DL.addD_int, DL.addD_lst, DL.addD_tup, DL.wO_mul, DL.mulD_int, DL.mulD_lst, DL.mulD_tup, DL.dAdd_int, DL.dSub_int, DL.oSub_eq, DL.dDiv_int, DL.dMod_int, DL.dLt_int, DL.dLe_int, DL.dGt_int, DL.dGe_int, DL.dEq_int, DL.dNe_int, DL.dNe_bl, DL.dEq_bl, DL.dEq_II, DL.dIsN_eq, DL.dNotN_eq, DL.isNon_non, DL.isNon_int, DL.isNon_tup, DL.isNon_lst, DL.ixO_eq, DL.dIx_lst, DL.dIx_tup, DL.lenO_lst, DL.lenO_tup, DL.lenO_scr, DL.intO_int, DL.intO_bl, DL.tupO_lst, DL.tupO_tup, DL.lstO_lst, DL.lstO_tup, DL.isTO_non, DL.isTO_bl, DL.isTO_int, DL.isTO_str, DL.isTO_tup, DL.isTO_lst, DL.wO_truF, DL.wO_bind, DL.truD_non, DL.truD_bl, DL.truD_int, DL.truD_lst, DL.truD_tup, DL.wrA_eq, DL.wrS_own, DL.appO_eq, DL.apS_own, DL.nmT_eq, DL.tupT_eq, DL.tsT_nil, DL.tsT_cons, DL.wO_asg, DL.wO_outC, DL.wO_callV, DL.ownS_own, DL.wO_callM, DL.tpOf_f, DL.tpOf_t, DL.resOf_frs, DL.resOf_val, DL.resOf_slot, DL.resS_own, DL.resS_val, DL.wO_itL, DL.wO_itT, DL.wO_itET, DL.wO_itEL, DL.wO_itR1, DL.wO_itR2, DL.wO_loop_nil, DL.gt0, DL.st0, DL.gt1, DL.st1, DL.gt2, DL.st2, DL.gt3, DL.st3, DL.gt4, DL.st4, DL.gt5, DL.st5, DL.gt6, DL.st6, DL.gt7, DL.st7, DL.gt8, DL.st8, DL.gt9, DL.st9, DL.gt10, DL.st10, DL.gt11, DL.st11, DL.gt12, DL.st12, DL.gt13, DL.st13, DL.gt14, DL.st14, DL.gt15, DL.st15, DL.dctD_dct, DL.keyOf_eq, DL.keyT_II, DL.gotG_some, DL.gotG_none, DL.wO_getG, DL.wO_gitG, DL.popKO_eq, DL.popS_own, DL.wO_pop1, DL.ownDct_own, DL.wO_putO, DL.lckS_lck, DL.kLock_ok, DL.wO_lock, DL.itK_eq, DL.itkS_lck, DL.lstD_lst, DL.maxKG_eq, DL.wO_maxKO, DL.wO_maxO, DL.wO_sumO, DL.itemsD_lst, DL.itemsD_tup, DL.sortO_lst, DL.slL_eq, DL.slH_eq, DL.cutO_eq, DL.cutD_lst, DL.cutD_tup, DL.ownLst_own, DL.kSub_ok, DL.wO_subT, DL.kRaise_exc, DL.wO_raiseF, DL.wO_raise, DL.suiteR_nx, DL.suiteR_rt, DL.kTry_exc, DL.kTry_nx, DL.kTry_rt, DL.fldX_if, DL.isXF_eq, DL.anyO_lst, DL.boolsOf_cons, DL.boolsOf_nil, DL.lckB_jk, DL.nown_jk, DL.nown_no, DL.nown_val, DL.noOwn_nil, DL.noOwn_cons, DL.rngO_int, DL.lenRO_rng, DL.wO_itRv, DL.rngD_rng, DL.wO_itRV, DL.popAtO_eq, DL.popAS_own, DL.wO_wrP, DL.dctOf_eq, DL.rngC_eq, DL.wO_loopC_nil, decide_eq_true_eq, Bool.and_eq_true, Bool.or_eq_true, Bool.not_eq_true', Bool.not_eq_false', decide_eq_false_iff_not, List.length_cons, List.length_nil, Nat.zero_add, Int.zero_add, Nat.reduceAdd, true_and, and_true, and_self, ↓reduceIte, if_true, if_false, Bool.false_eq_true, Bool.not_true, Bool.not_false, eq_self, forall_const, true_implies, false_implies, not_false_eq_true, not_true_eq_false, implies_true, Option.map_some, Option.map_none, Nat.reduceLT, Nat.reduceLeDiff, beq_self_eq_true, Bool.true_beq, Bool.false_beq, Int.reduceLT, Int.reduceLE, Int.reduceEq, Int.reduceAdd, DL.isT, DL.wipeE, DL.restE, List.all_cons, List.all_nil, Bool.and_true, Bool.and_self, Option.getD_some, Option.getD_none, DL.gd_and, DL.sz0, DL.sz1, DL.sz2, DL.sz3, DL.sz4, DL.sz5, DL.szl1, DL.keysD, DL.keyD, reduceCtorEq, Bool.true_eq_false, imp_false, Classical.not_not, DL.wO_itES, DL.negF_eq, DL.intS_int, DL.augG_eq, DL.augAdd_eq, DL.augSub_eq, DL.finN_eq, DL.lenSetF_eq, DL.lenSetD_eq, DL.minTO_eq, DL.dIsB_eq, DL.lstRO_rng, DL.bitsF_eq, DL.dShr_int, DL.dShl_int, DL.dAnd_int, DL.sortSetF_eq, DL.sortSetD_eq, DL.wO_itRv2, DL.wO_callT, DL.kCT_frs, DL.kCU_ok, DL.kFV_v, DL.mkD1_eq, DL.dInK_dct, DL.dNotInK_dct, DL.idxF_eq, DL.lstI_eq, DL.intsD9_lst, DL.wO_callL, DL.wO_pks_nil, DL.wO_pks_cons, DL.kFL_v, DL.kFL_f, DL.kFL_exc, DL.pure_non, DL.pure_int, DL.pure_bl, DL.pure_ints, DL.pure_tupI, DL.sortSetFL_eq, DL.sortSetDL_eq, $xs,*] $[$l:location]?)
  | none => `(tactic| simp only [DL.wO_some, DL.wO_none, DL.wO_ite, DL.wO_map, DL.kE_ok, DL.kE_exc, DL.kS_ok, DL.kS_exc, DL.kI_ok, DL.kI_exc, DL.kB_ok, DL.kB_exc, DL.kBS_ok, DL.kBS_exc, DL.kG_nx, DL.kG_rt, DL.kG_exc, DL.kG_bk, DL.kG_ct, DL.kL_nx, DL.kL_ct, DL.kL_bk, DL.kL_rt, DL.kL_exc, DL.kFor_ok, DL.kFor_exc, DL.kComp_ok, DL.kCl_ok, DL.kX_nx, DL.kX_rt, DL.kX_exc, DL.kF_v, DL.kF_f, DL.kF_exc, DL.kT_ok, DL.kV_ok, DL.kU_ok, DL.wO_bnd, DL.wO_bndS, DL.wO_bndI, DL.wO_bndB, DL.wO_bndBS, DL.wO_seq, DL.wO_set, DL.wO_ret, DL.wO_expr, DL.wO_if, DL.wO_retN, DL.wO_pass, DL.wO_brk, DL.wO_ctG, DL.wO_and, DL.wO_or, DL.wO_not, DL.wO_ifF, DL.rB_eq, DL.yesF_eq, DL.finF_eq, DL.cst_eq, DL.wO_for, DL.wO_compG, DL.wO_compC, DL.compC_nil, DL.wO_evs_nil, DL.wO_evs_cons, DL.ap2_eq, DL.apN_eq, DL.hold_val, DL.hold_slot, DL.hold_frs, DL.rdN_eq, DL.rdS_val, DL.rdS_own, DL.rdS_lck, DL.rdS_exn, DL.pk_val, DL.pk_slot, DL.pkS_val, DL.pkS_own, DL.pkS_lck, DL.rel_eq, DL.relS_val, DL.relS_own, DL.kp_val, DL.kp_slot, DL.put_val, DL.put_frs, DL.put_slot, DL.asI_val, DL.wO_kps_nil, DL.wO_kps_cons, DL.wO_mkT, DL.wO_mkL, DL.wO_o2, DL.wO_o2g, DL.wO_c1, DL.wO_c2, DL.wO_add, DL.addD_int, DL.addD_lst, DL.addD_tup, DL.wO_mul, DL.mulD_int, DL.mulD_lst, DL.mulD_tup, DL.dAdd_int, DL.dSub_int, DL.oSub_eq, DL.dDiv_int, DL.dMod_int, DL.dLt_int, DL.dLe_int, DL.dGt_int, DL.dGe_int, DL.dEq_int, DL.dNe_int, DL.dNe_bl, DL.dEq_bl, DL.dEq_II, DL.dIsN_eq, DL.dNotN_eq, DL.isNon_non, DL.isNon_int, DL.isNon_tup, DL.isNon_lst, DL.ixO_eq, DL.dIx_lst, DL.dIx_tup, DL.lenO_lst, DL.lenO_tup, DL.lenO_scr, DL.intO_int, DL.intO_bl, DL.tupO_lst, DL.tupO_tup, DL.lstO_lst, DL.lstO_tup, DL.isTO_non, DL.isTO_bl, DL.isTO_int, DL.isTO_str, DL.isTO_tup, DL.isTO_lst, DL.wO_truF, DL.wO_bind, DL.truD_non, DL.truD_bl, DL.truD_int, DL.truD_lst, DL.truD_tup, DL.wrA_eq, DL.wrS_own, DL.appO_eq, DL.apS_own, DL.nmT_eq, DL.tupT_eq, DL.tsT_nil, DL.tsT_cons, DL.wO_asg, DL.wO_outC, DL.wO_callV, DL.ownS_own, DL.wO_callM, DL.tpOf_f, DL.tpOf_t, DL.resOf_frs, DL.resOf_val, DL.resOf_slot, DL.resS_own, DL.resS_val, DL.wO_itL, DL.wO_itT, DL.wO_itET, DL.wO_itEL, DL.wO_itR1, DL.wO_itR2, DL.wO_loop_nil, DL.gt0, DL.st0, DL.gt1, DL.st1, DL.gt2, DL.st2, DL.gt3, DL.st3, DL.gt4, DL.st4, DL.gt5, DL.st5, DL.gt6, DL.st6, DL.gt7, DL.st7, DL.gt8, DL.st8, DL.gt9, DL.st9, DL.gt10, DL.st10, DL.gt11, DL.st11, DL.gt12, DL.st12, DL.gt13, DL.st13, DL.gt14, DL.st14, DL.gt15, DL.st15, DL.dctD_dct, DL.keyOf_eq, DL.keyT_II, DL.gotG_some, DL.gotG_none, DL.wO_getG, DL.wO_gitG, DL.popKO_eq, DL.popS_own, DL.wO_pop1, DL.ownDct_own, DL.wO_putO, DL.lckS_lck, DL.kLock_ok, DL.wO_lock, DL.itK_eq, DL.itkS_lck, DL.lstD_lst, DL.maxKG_eq, DL.wO_maxKO, DL.wO_maxO, DL.wO_sumO, DL.itemsD_lst, DL.itemsD_tup, DL.sortO_lst, DL.slL_eq, DL.slH_eq, DL.cutO_eq, DL.cutD_lst, DL.cutD_tup, DL.ownLst_own, DL.kSub_ok, DL.wO_subT, DL.kRaise_exc, DL.wO_raiseF, DL.wO_raise, DL.suiteR_nx, DL.suiteR_rt, DL.kTry_exc, DL.kTry_nx, DL.kTry_rt, DL.fldX_if, DL.isXF_eq, DL.anyO_lst, DL.boolsOf_cons, DL.boolsOf_nil, DL.lckB_jk, DL.nown_jk, DL.nown_no, DL.nown_val, DL.noOwn_nil, DL.noOwn_cons, DL.rngO_int, DL.lenRO_rng, DL.wO_itRv, DL.rngD_rng, DL.wO_itRV, DL.popAtO_eq, DL.popAS_own, DL.wO_wrP, DL.dctOf_eq, DL.rngC_eq, DL.wO_loopC_nil, decide_eq_true_eq, Bool.and_eq_true, Bool.or_eq_true, Bool.not_eq_true', Bool.not_eq_false', decide_eq_false_iff_not, List.length_cons, List.length_nil, Nat.zero_add, Int.zero_add, Nat.reduceAdd, true_and, and_true, and_self, ↓reduceIte, if_true, if_false, Bool.false_eq_true, Bool.not_true, Bool.not_false, eq_self, forall_const, true_implies, false_implies, not_false_eq_true, not_true_eq_false, implies_true, Option.map_some, Option.map_none, Nat.reduceLT, Nat.reduceLeDiff, beq_self_eq_true, Bool.true_beq, Bool.false_beq, Int.reduceLT, Int.reduceLE, Int.reduceEq, Int.reduceAdd, DL.isT, DL.wipeE, DL.restE, List.all_cons, List.all_nil, Bool.and_true, Bool.and_self, Option.getD_some, Option.getD_none, DL.gd_and, DL.sz0, DL.sz1, DL.sz2, DL.sz3, DL.sz4, DL.sz5, DL.szl1, DL.keysD, DL.keyD, reduceCtorEq, Bool.true_eq_false, imp_false, Classical.not_not, DL.wO_itES, DL.negF_eq, DL.intS_int, DL.augG_eq, DL.augAdd_eq, DL.augSub_eq, DL.finN_eq, DL.lenSetF_eq, DL.lenSetD_eq, DL.minTO_eq, DL.dIsB_eq, DL.lstRO_rng, DL.bitsF_eq, DL.dShr_int, DL.dShl_int, DL.dAnd_int, DL.sortSetF_eq, DL.sortSetD_eq, DL.wO_itRv2, DL.wO_callT, DL.kCT_frs, DL.kCU_ok, DL.kFV_v, DL.mkD1_eq, DL.dInK_dct, DL.dNotInK_dct, DL.idxF_eq, DL.lstI_eq, DL.intsD9_lst, DL.wO_callL, DL.wO_pks_nil, DL.wO_pks_cons, DL.kFL_v, DL.kFL_f, DL.kFL_exc, DL.pure_non, DL.pure_int, DL.pure_bl, DL.pure_ints, DL.pure_tupI, DL.sortSetFL_eq, DL.sortSetDL_eq] $[$l:location]?)
set_option Elab.async false
set_option linter.all false
set_option maxRecDepth 100000
set_option maxHeartbeats 4000000
namespace K13
open DL PySem L2
/-! ### powers, counts, divisors in common -/
def fPower : Fn := fnD false 4 gd_power
def bl (n : Nat) : Nat := Builtin.Int.intBits (n : Int)
theorem bl_all : ∀ n : Fin 41, n.val < 2 ^ bl n.val ∧ bl n.val ≤ 6 := by decide +kernel
theorem bit_all : ∀ (n : Fin 41) (s : Fin 6), (Builtin.bitAnd ((n.val : Int) / 2 ^ s.val) 1 != 0) = decide (n.val / 2 ^ s.val % 2 = 1) := by decide +kernel
theorem pow_lt {b j : Nat} (hb : b < 2 ^ 100) (hj : j ≤ 40) : b ^ j < 2 ^ 4001 := by
  have h1 : b ^ j ≤ (2 ^ 100) ^ j := Nat.pow_le_pow_left (Nat.le_of_lt hb) j
  have h2 : (2 ^ 100) ^ j = 2 ^ (100 * j) := (Nat.pow_mul ..).symm
  have h3 : 2 ^ (100 * j) < 2 ^ 4001 := Nat.pow_lt_pow_right (by decide) (by omega)
  rw [h2] at h1
  exact Nat.lt_of_le_of_lt h1 h3
theorem mul_pow {b i j : Nat} : ((b ^ i : Nat) : Int) * ((b ^ j : Nat) : Int) = ((b ^ (i + j) : Nat) : Int) := by
  rw [Nat.pow_add, Int.natCast_mul]
theorem mulW_pow {b i j : Nat} (hb : b < 2 ^ 100) (hi : i ≤ 40) (hj : j ≤ 40) : mulW ((b ^ i : Nat) : Int) ((b ^ j : Nat) : Int) = true :=
  mulW_of (a := 4001) (b := 4001) (by rw [Int.natAbs_natCast]; exact pow_lt hb hi) (by rw [Int.natAbs_natCast]; exact pow_lt hb hj) (by omega)
theorem power_ok {b n : Nat} (hb : b < 2 ^ 100) (hn : n ≤ 40) : wO (fPower [.int (b : Nat), .int (n : Nat)]) fun r => r = .ok false (.int ((b ^ n : Nat) : Int)) .non := by
  obtain ⟨h1, h2⟩ := bl_all ⟨n, by omega⟩
  have h1 : n < 2 ^ bl n := h1
  have h2 : bl n ≤ 6 := h2
  unfold fPower
  simp only [wO_fnD, slots0, pad, List.map_cons, List.map_nil, List.length_cons, List.length_nil, Nat.zero_add, Nat.reduceAdd, Nat.reduceSub, List.replicate, List.cons_append, List.nil_append, if_true, if_false, Bool.false_eq_true, ↓reduceIte, gd_power]
  simp! [dMulW_int, dDivW_int, divmodO_int, mkI0_eq, dciD_i, dciD_f, dciOf_eq, wO_gitI, wO_getI, ownDci_own, wO_putI, dcfS_v, itKi_eq, lenSetTF_eq, wO_parG, kLk_v, kLk_f]
  have e : Builtin.Int.intBits (n : Int) = bl n := rfl
  rw [e]
  refine ⟨by omega, ?_⟩
  refine wO_rev (fun k e => k ≤ bl n ∧ ∃ x : Option DL.D, e = [some (.val (.int (b : Nat))), some (.val (.int (n : Nat))), some (.val (.int ((b ^ (n / 2 ^ (bl n - k)) : Nat) : Int))), jk x]) (bl n) ⟨Nat.zero_le _, none, ?_⟩ ?_ ?_
  · rw [Nat.sub_zero, Nat.div_eq_of_lt h1]; rfl
  · rintro k e hk ⟨_, x, rfl⟩
    obtain ⟨s, hs⟩ : ∃ s, s = bl n - 1 - k := ⟨_, rfl⟩
    have es : ((bl n : Int) - 1 - (k : Int)).toNat = s := by omega
    have ek : bl n - k = s + 1 := by omega
    have ek2 : bl n - (k + 1) = s := by omega
    have hd : n / 2 ^ (s + 1) = n / 2 ^ s / 2 := by rw [Nat.pow_succ, Nat.div_div_eq_div_mul]
    have hb2 : (Builtin.bitAnd ((n : Int) / 2 ^ s) 1 != 0) = decide (n / 2 ^ s % 2 = 1) := bit_all ⟨n, by omega⟩ ⟨s, by omega⟩
    rw [ek, ek2, hd]
    obtain ⟨m, hm⟩ : ∃ m, m = n / 2 ^ s := ⟨_, rfl⟩
    have hmn : m ≤ 40 := by rw [hm]; exact Nat.le_trans (Nat.div_le_self _ _) hn
    rw [← hm] at hb2 ⊢
    have w1 := mulW_pow (i := m / 2) (j := m / 2) hb (by omega) (by omega)
    have w2 := mulW_pow (i := m / 2 + m / 2) (j := 1) hb (by omega) (by omega)
    have q1 := mul_pow (b := b) (i := m / 2) (j := m / 2)
    have q2 := mul_pow (b := b) (i := m / 2 + m / 2) (j := 1)
    rw [Nat.pow_one] at w2 q2
    simp! [dMulW_int, dDivW_int, divmodO_int, mkI0_eq, dciD_i, dciD_f, dciOf_eq, wO_gitI, wO_getI, ownDci_own, wO_putI, dcfS_v, itKi_eq, lenSetTF_eq, wO_parG, kLk_v, kLk_f, es, hb2, w1, q1, w2, q2]
    refine ⟨by omega, fun c => ⟨by omega, some (.int ((bl n : Int) - 1 - (k : Int))), ?_⟩, fun c => ⟨by omega, some (.int ((bl n : Int) - 1 - (k : Int))), ?_⟩⟩
    · rw [show m / 2 + m / 2 + 1 = m by omega]; rfl
    · rw [show m / 2 + m / 2 = m by omega]; rfl
  · rintro e ⟨_, x, rfl⟩
    rw [Nat.sub_self, Nat.pow_zero, Nat.div_one]
    simp! [dMulW_int, dDivW_int, divmodO_int, mkI0_eq, dciD_i, dciD_f, dciOf_eq, wO_gitI, wO_getI, ownDci_own, wO_putI, dcfS_v, itKi_eq, lenSetTF_eq, wO_parG, kLk_v, kLk_f]
def cnt (t d : Nat) : Int := (((t + 1) ^ d : Nat) : Int) - ((t ^ d : Nat) : Int)
def fCount : Fn := fnD false 2 (gd_count_of_heights fPower)
def fPlain : Fn := fnD false 2 (gd_plain_count fCount)
theorem count_ok {t n : Nat} (ht : t + 1 < 2 ^ 100) (hn : n ≤ 40) : wO (fCount [.int (t : Nat), .int (n : Nat)]) fun r => r = .ok false (.int (cnt t n)) .non := by
  have q : (t : Int) + 1 = ((t + 1 : Nat) : Int) := by omega
  unfold fCount
  simp only [wO_fnD, slots0, pad, List.map_cons, List.map_nil, List.length_cons, List.length_nil, Nat.zero_add, Nat.reduceAdd, Nat.reduceSub, List.replicate, List.cons_append, List.nil_append, if_true, if_false, Bool.false_eq_true, ↓reduceIte, gd_count_of_heights]
  simp! [dMulW_int, dDivW_int, divmodO_int, mkI0_eq, dciD_i, dciD_f, dciOf_eq, wO_gitI, wO_getI, ownDci_own, wO_putI, dcfS_v, itKi_eq, lenSetTF_eq, wO_parG, kLk_v, kLk_f, q]
  refine wO_mono (power_ok ht hn) ?_
  rintro r rfl
  simp! [dMulW_int, dDivW_int, divmodO_int, mkI0_eq, dciD_i, dciD_f, dciOf_eq, wO_gitI, wO_getI, ownDci_own, wO_putI, dcfS_v, itKi_eq, lenSetTF_eq, wO_parG, kLk_v, kLk_f]
  refine wO_mono (power_ok (by omega) hn) ?_
  rintro r rfl
  simp! [dMulW_int, dDivW_int, divmodO_int, mkI0_eq, dciD_i, dciD_f, dciOf_eq, wO_gitI, wO_getI, ownDci_own, wO_putI, dcfS_v, itKi_eq, lenSetTF_eq, wO_parG, kLk_v, kLk_f]
  rfl
theorem plain_ok {t n : Nat} (ht : t + 1 < 2 ^ 100) (hn : n ≤ 40) : wO (fPlain [.int (t : Nat), .int (n : Nat)]) fun r => r = .ok false (.int (cnt t n)) .non := by
  unfold fPlain
  simp only [wO_fnD, slots0, pad, List.map_cons, List.map_nil, List.length_cons, List.length_nil, Nat.zero_add, Nat.reduceAdd, Nat.reduceSub, List.replicate, List.cons_append, List.nil_append, if_true, if_false, Bool.false_eq_true, ↓reduceIte, gd_plain_count]
  simp! [dMulW_int, dDivW_int, divmodO_int, mkI0_eq, dciD_i, dciD_f, dciOf_eq, wO_gitI, wO_getI, ownDci_own, wO_putI, dcfS_v, itKi_eq, lenSetTF_eq, wO_parG, kLk_v, kLk_f]
  refine wO_mono (count_ok ht hn) ?_
  rintro r rfl
  simp! [dMulW_int, dDivW_int, divmodO_int, mkI0_eq, dciD_i, dciD_f, dciOf_eq, wO_gitI, wO_getI, ownDci_own, wO_putI, dcfS_v, itKi_eq, lenSetTF_eq, wO_parG, kLk_v, kLk_f]
def fLpower : Fn := fnD false 4 gd_lpower
theorem lpower_ok {b n : Nat} (hb : b < 2 ^ 100) (hn : n ≤ 40) : wO (fLpower [.int (b : Nat), .int (n : Nat)]) fun r => r = .ok false (.int ((b ^ n : Nat) : Int)) .non := by
  unfold fLpower
  simp only [wO_fnD, slots0, pad, List.map_cons, List.map_nil, List.length_cons, List.length_nil, Nat.zero_add, Nat.reduceAdd, Nat.reduceSub, List.replicate, List.cons_append, List.nil_append, if_true, if_false, Bool.false_eq_true, ↓reduceIte, gd_lpower]
  simp! [dMulW_int, dDivW_int, divmodO_int, mkI0_eq, dciD_i, dciD_f, dciOf_eq, wO_gitI, wO_getI, ownDci_own, wO_putI, dcfS_v, itKi_eq, lenSetTF_eq, wO_parG, kLk_v, kLk_f]
  refine ⟨by omega, ?_⟩
  refine wO_rng (fun k e => k ≤ n ∧ ∃ x : Option DL.D, e = [some (.val (.int (b : Nat))), some (.val (.int (n : Nat))), some (.val (.int ((b ^ k : Nat) : Int))), jk x]) n (by omega) ⟨Nat.zero_le _, none, rfl⟩ ?_ ?_
  · rintro k e hk ⟨_, x, rfl⟩
    have w1 := mulW_pow (i := k) (j := 1) hb (by omega) (by omega)
    have q1 := mul_pow (b := b) (i := k) (j := 1)
    rw [Nat.pow_one] at w1 q1
    simp! [dMulW_int, dDivW_int, divmodO_int, mkI0_eq, dciD_i, dciD_f, dciOf_eq, wO_gitI, wO_getI, ownDci_own, wO_putI, dcfS_v, itKi_eq, lenSetTF_eq, wO_parG, kLk_v, kLk_f, w1, q1]
    exact ⟨by omega, some _, rfl⟩
  · rintro e ⟨_, x, rfl⟩
    simp! [dMulW_int, dDivW_int, divmodO_int, mkI0_eq, dciD_i, dciD_f, dciOf_eq, wO_gitI, wO_getI, ownDci_own, wO_putI, dcfS_v, itKi_eq, lenSetTF_eq, wO_parG, kLk_v, kLk_f]
noncomputable def fDiv : Fn := fnD false 2 gd_ldivisor
theorem divisor_ok {a b : Nat} : wO (fDiv [.int (a : Nat), .int (b : Nat)]) fun r => r = .ok false (.int (Nat.gcd a b : Nat)) .non := by
  unfold fDiv
  simp only [wO_fnD, slots0, pad, List.map_cons, List.map_nil, List.length_cons, List.length_nil, Nat.zero_add, Nat.reduceAdd, Nat.reduceSub, List.replicate, List.cons_append, List.nil_append, if_true, if_false, Bool.false_eq_true, ↓reduceIte, gd_ldivisor]
  simp! [dMulW_int, dDivW_int, divmodO_int, mkI0_eq, dciD_i, dciD_f, dciOf_eq, wO_gitI, wO_getI, ownDci_own, wO_putI, dcfS_v, itKi_eq, lenSetTF_eq, wO_parG, kLk_v, kLk_f]
  refine wO_while (fun m e => ∃ x : Nat, Nat.gcd x m = Nat.gcd a b ∧ e = [some (.val (.int (x : Nat))), some (.val (.int (m : Nat)))]) b ⟨a, rfl, rfl⟩ ?_
  rintro m e ⟨x, hg, rfl⟩
  have q : (x : Int) % (m : Int) = ((x % m : Nat) : Int) := (Int.natCast_emod x m).symm
  simp! [dMulW_int, dDivW_int, divmodO_int, mkI0_eq, dciD_i, dciD_f, dciOf_eq, wO_gitI, wO_getI, ownDci_own, wO_putI, dcfS_v, itKi_eq, lenSetTF_eq, wO_parG, kLk_v, kLk_f, q]
  refine ⟨fun c => ⟨by omega, x % m, Nat.mod_lt _ (by omega), m, ?_, rfl⟩, fun c => ?_⟩
  · rw [← hg, Nat.gcd_comm x m, Nat.gcd_rec m x, Nat.gcd_comm]
  · have : m = 0 := by omega
    subst this
    rw [← hg, Nat.gcd_zero_right]
end K13

set_option Elab.async false
set_option linter.all false
set_option maxRecDepth 100000
set_option maxHeartbeats 4000000
namespace K13
open DL PySem L2
abbrev Hs := List Int
def hD (hs : Hs) : DL.D := .tup (hs.map .int)
theorem hD_enc {hs : Hs} : hD hs = encI hs := rfl
def resN (n : Nat) (hs : Hs) : List Int := hs.zipIdx.map fun p => ((p.2 : Int) + p.1) % (n : Int)
def plainB (hs : Hs) : Bool := decide ((onceI (resN hs.length hs)).length = hs.length)
theorem resN_len {n : Nat} {hs : Hs} : (resN n hs).length = hs.length := by unfold resN; rw [List.length_map, List.length_zipIdx]
theorem resN_snoc {n : Nat} {pre : Hs} {x : Int} : resN n (pre ++ [x]) = resN n pre ++ [((pre.length : Int) + x) % (n : Int)] := by
  unfold resN
  rw [List.zipIdx_append, List.map_append]
  simp
theorem resN_get {n : Nat} {hs : Hs} {i : Nat} (h : i < hs.length) : (resN n hs)[i]? = some (((i : Int) + hs.getD i 0) % (n : Int)) := by
  unfold resN
  rw [List.getElem?_map, List.getElem?_zipIdx, List.getElem?_eq_getElem h, List.getD_eq_getElem?_getD, List.getElem?_eq_getElem h]
  simp
def fIsPlain : Fn := fnD false 3 gd_lis_plain
theorem at_h {hs : Hs} {k : Nat} (h : k < hs.length) : atI (hs.map DL.D.int) (k : Int) = some (.int (hs.getD k 0)) := by
  refine atI_nat ?_
  rw [List.getElem?_map, List.getElem?_eq_getElem h, List.getD_eq_getElem?_getD, List.getElem?_eq_getElem h]
  rfl
theorem res_range {hs : Hs} : (List.range hs.length).map (fun (k : Nat) => DL.D.int (((k : Int) + hs.getD k 0) % (hs.length : Int))) = (resN hs.length hs).map .int := by
  apply List.ext_getElem?
  intro i
  by_cases c : i < hs.length
  · rw [List.getElem?_map, List.getElem?_range c, List.getElem?_map, resN_get c]
    rfl
  · rw [List.getElem?_eq_none (by rw [List.length_map, List.length_range]; omega), List.getElem?_eq_none (by rw [List.length_map, resN_len]; omega)]
theorem is_plain_ok {hs : Hs} (h0 : 0 < hs.length) (hz : hs.length ≤ 60) : wO (fIsPlain [hD hs]) fun r => r = .ok false (.bl (plainB hs)) .non := by
  have sl := sizeLine_eq
  unfold fIsPlain hD
  simp only [wO_fnD, slots0, pad, List.map_cons, List.map_nil, List.length_cons, List.length_nil, Nat.zero_add, Nat.reduceAdd, Nat.reduceSub, List.replicate, List.cons_append, List.nil_append, if_true, if_false, Bool.false_eq_true, ↓reduceIte, gd_lis_plain]
  simp! [dMulW_int, dDivW_int, divmodO_int, mkI0_eq, dciD_i, dciD_f, dciOf_eq, wO_gitI, wO_getI, ownDci_own, wO_putI, dcfS_v, itKi_eq, lenSetTF_eq, wO_parG, kLk_v, kLk_f, List.length_map]
  refine ⟨by omega, ?_⟩
  refine wO_cMapR (fun e => ∃ y, e = [some (.val (.tup (hs.map .int))), some (.val (.int hs.length)), jk y]) hs.length (by omega) (fun k => .int (((k : Int) + hs.getD k 0) % (hs.length : Int))) (by omega) ⟨none, rfl⟩ ?_ ?_
  · rintro k hk e ⟨y, rfl⟩
    simp! [dMulW_int, dDivW_int, divmodO_int, mkI0_eq, dciD_i, dciD_f, dciOf_eq, wO_gitI, wO_getI, ownDci_own, wO_putI, dcfS_v, itKi_eq, lenSetTF_eq, wO_parG, kLk_v, kLk_f, at_h hk]
    exact ⟨by omega, some (DL.D.int (k : Nat)), rfl⟩
  · rintro e ⟨y, rfl⟩
    rw [res_range]
    simp! [dMulW_int, dDivW_int, divmodO_int, mkI0_eq, dciD_i, dciD_f, dciOf_eq, wO_gitI, wO_getI, ownDci_own, wO_putI, dcfS_v, itKi_eq, lenSetTF_eq, wO_parG, kLk_v, kLk_f, resN_len]
    refine ⟨by omega, ?_⟩
    unfold plainB
    congr 2
    exact decide_eq_decide.mpr Int.ofNat_inj
def fIs : Fn := fnD false 2 gd_lis
theorem is_ok {i j : Int} : wO (fIs [.int i, .int j]) fun r => r = .ok false (.bl (decide (i = j))) .non := by
  unfold fIs
  simp only [wO_fnD, slots0, pad, List.map_cons, List.map_nil, List.length_cons, List.length_nil, Nat.zero_add, Nat.reduceAdd, Nat.reduceSub, List.replicate, List.cons_append, List.nil_append, if_true, if_false, Bool.false_eq_true, ↓reduceIte, gd_lis]
  simp! [dMulW_int, dDivW_int, divmodO_int, mkI0_eq, dciD_i, dciD_f, dciOf_eq, wO_gitI, wO_getI, ownDci_own, wO_putI, dcfS_v, itKi_eq, lenSetTF_eq, wO_parG, kLk_v, kLk_f]
theorem cut_take {α : Type} {xs : List α} {k : Nat} (h : k ≤ xs.length) : cutG xs none (some (k : Int)) = xs.take k := by
  unfold cutG
  rw [HT.sIx_none, HT.sIx_nat, List.drop_zero, Nat.sub_zero, Nat.min_eq_left h]
theorem cut_drop {α : Type} {xs : List α} {k : Nat} (h : k ≤ xs.length) : cutG xs (some (k : Int)) none = xs.drop k := by
  unfold cutG
  rw [HT.sIx_none, HT.sIx_nat, Nat.min_eq_left h]
  exact List.take_of_length_le (by rw [List.length_drop]; omega)
def fLeast : Fn := fnD false 2 gd_lleast
def rotR (hs : Hs) (k : Nat) : Hs := hs.drop k ++ hs.take k
def leastR (hs : Hs) : Hs := minL (rotR hs 0) ((List.range (hs.length - 1)).map fun j => rotR hs (j + 1))
theorem rot_all {hs : Hs} (h0 : 0 < hs.length) : (List.range hs.length).map (fun k => encI (rotR hs k)) = (rotR hs 0 :: (List.range (hs.length - 1)).map fun j => rotR hs (j + 1)).map encI := by
  obtain ⟨n, hn⟩ : ∃ n, hs.length = n + 1 := ⟨hs.length - 1, by omega⟩
  rw [hn, List.range_succ_eq_map, Nat.add_sub_cancel]
  simp [List.map_map, Function.comp_def]
theorem least_ok {hs : Hs} (h0 : 0 < hs.length) (hz : hs.length ≤ 60) : wO (fLeast [hD hs]) fun r => r = .ok false (hD (leastR hs)) .non := by
  have sl := sizeLine_eq
  unfold fLeast hD
  simp only [wO_fnD, slots0, pad, List.map_cons, List.map_nil, List.length_cons, List.length_nil, Nat.zero_add, Nat.reduceAdd, Nat.reduceSub, List.replicate, List.cons_append, List.nil_append, if_true, if_false, Bool.false_eq_true, ↓reduceIte, gd_lleast]
  simp! [dMulW_int, dDivW_int, divmodO_int, mkI0_eq, dciD_i, dciD_f, dciOf_eq, wO_gitI, wO_getI, ownDci_own, wO_putI, dcfS_v, itKi_eq, lenSetTF_eq, wO_parG, kLk_v, kLk_f, List.length_map]
  refine ⟨by omega, ?_⟩
  refine wO_cMapR (fun e => ∃ y, e = [some (.val (.tup (hs.map .int))), jk y]) hs.length (by omega) (fun k => encI (rotR hs k)) (by omega) ⟨none, rfl⟩ ?_ ?_
  · rintro k hk e ⟨y, rfl⟩
    have c1 : cutG (hs.map DL.D.int) (some (k : Int)) none = (hs.drop k).map .int := by rw [cut_drop (by rw [List.length_map]; omega), List.map_drop]
    have c2 : cutG (hs.map DL.D.int) none (some (k : Int)) = (hs.take k).map .int := by rw [cut_take (by rw [List.length_map]; omega), List.map_take]
    have c3 : (hs.drop k).map DL.D.int ++ (hs.take k).map .int = (rotR hs k).map .int := by unfold rotR; rw [List.map_append]
    simp! [dMulW_int, dDivW_int, divmodO_int, mkI0_eq, dciD_i, dciD_f, dciOf_eq, wO_gitI, wO_getI, ownDci_own, wO_putI, dcfS_v, itKi_eq, lenSetTF_eq, wO_parG, kLk_v, kLk_f, c1, c2, c3, List.length_map, List.length_drop, List.length_take]
    exact ⟨by omega, rfl, some (DL.D.int (k : Nat)), rfl⟩
  · rintro e ⟨y, rfl⟩
    rw [rot_all h0]
    simp! [dMulW_int, dDivW_int, divmodO_int, mkI0_eq, dciD_i, dciD_f, dciOf_eq, wO_gitI, wO_getI, ownDci_own, wO_putI, dcfS_v, itKi_eq, lenSetTF_eq, wO_parG, kLk_v, kLk_f, minTO_eq]
    rfl
/-! ### all rows -/
def oneR (p : List Int × Nat) : List (List Int × Nat) := (List.range (p.2 + 1)).map fun (j : Nat) => (p.1 ++ [(j : Int)], p.2 - j)
def stepR (ps : List (List Int × Nat)) : List (List Int × Nat) := ps.flatMap oneR
def itR : Nat → Nat → List (List Int × Nat)
  | 0, t => [([], t)]
  | k + 1, t => stepR (itR k t)
def allR (n t : Nat) : List (List Int) := (itR (n - 1) t).map fun p => p.1 ++ [(p.2 : Int)]
def encP (p : List Int × Nat) : DL.D := .tup [.tup (p.1.map .int), .int (p.2 : Nat)]
theorem itR_len : ∀ (k : Fin 6) (t : Fin 11), (itR k.val t.val).length ≤ 4000 ∧ (itR k.val t.val).all (fun p => decide (p.1.length ≤ 6) && decide (p.2 ≤ 10)) = true := by decide +kernel
theorem step_len {pre post : List (List Int × Nat)} {x : List Int × Nat} : (stepR (pre ++ x :: post)).length = (stepR pre).length + ((x.2 + 1) + (stepR post).length) := by
  unfold stepR
  rw [List.flatMap_append, List.flatMap_cons, List.length_append, List.length_append]
  congr 2
  unfold oneR
  rw [List.length_map, List.length_range]
def partR (p : List Int × Nat) (j : Nat) : List (List Int × Nat) := (List.range j).map fun (j : Nat) => (p.1 ++ [(j : Int)], p.2 - j)
theorem partR_len {p : List Int × Nat} {j : Nat} : (partR p j).length = j := by unfold partR; rw [List.length_map, List.length_range]
theorem partR_snoc {p : List Int × Nat} {j : Nat} : partR p (j + 1) = partR p j ++ [(p.1 ++ [(j : Int)], p.2 - j)] := by
  unfold partR
  rw [List.range_succ, List.map_append]
  rfl
theorem rows_ok {ps : List (List Int × Nat)} {n t : Int} {s : Sl} {x3 : Option Sl} {x5 x6 x7 : Option DL.D} {Q : SO → Prop} (h1 : (stepR ps).length ≤ 4000) (h2 : ∀ p ∈ ps, p.1.length ≤ 6 ∧ p.2 ≤ 10)
    (h : ∀ y5 y6 y7 : Option DL.D, Q (.nx [some (.val (.int n)), some (.val (.int t)), some s, x3, some (.own false (.lst ((stepR ps).map encP))), jk y5, jk y6, jk y7])) :
    wO (loopG (tupT [(nmT 5), (nmT 6)]) (forG (itR1 (ap2 (rdN 6) (cst (.int 1)) oAdd)) (nmT 7) (exprG (appO 4 (apN [(ap2 (rdN 5) (apN [(rdN 7)] mkT) oAdd), (ap2 (rdN 6) (rdN 7) oSub)] mkT)))) (ps.map encP) [some (.val (.int n)), some (.val (.int t)), some s, x3, some (.own false (.lst [])), jk x5, jk x6, jk x7]) Q := by
  have sl := sizeLine_eq
  refine wO_each (fun pre e => ∃ y5 y6 y7 : Option DL.D, e = [some (.val (.int n)), some (.val (.int t)), some s, x3, some (.own false (.lst ((stepR pre).map encP))), jk y5, jk y6, jk y7]) ⟨x5, x6, x7, rfl⟩ ?_ ?_
  · rintro pre x post e hx ⟨y5, y6, y7, rfl⟩
    obtain ⟨g1, g2⟩ := h2 x (by rw [hx]; exact List.mem_append_right _ List.mem_cons_self)
    have hl : (stepR pre).length + ((x.2 + 1) + (stepR post).length) ≤ 4000 := by rw [← step_len, ← hx]; exact h1
    unfold encP
    simp! [dMulW_int, dDivW_int, divmodO_int, mkI0_eq, dciD_i, dciD_f, dciOf_eq, wO_gitI, wO_getI, ownDci_own, wO_putI, dcfS_v, itKi_eq, lenSetTF_eq, wO_parG, kLk_v, kLk_f]
    refine ⟨by omega, ?_⟩
    refine wO_rng (fun j e => j ≤ x.2 + 1 ∧ ∃ y7 : Option DL.D, e = [some (.val (.int n)), some (.val (.int t)), some s, x3, some (.own false (.lst ((stepR pre ++ partR x j).map encP))), some (.val (.tup (x.1.map .int))), some (.val (.int (x.2 : Nat))), jk y7]) (x.2 + 1) (by omega) ⟨Nat.zero_le _, y7, by unfold partR encP; simp⟩ ?_ ?_
    · rintro j e hj ⟨_, y7, rfl⟩
      have q : (x.2 : Int) - (j : Int) = ((x.2 - j : Nat) : Int) := by omega
      simp! [dMulW_int, dDivW_int, divmodO_int, mkI0_eq, dciD_i, dciD_f, dciOf_eq, wO_gitI, wO_getI, ownDci_own, wO_putI, dcfS_v, itKi_eq, lenSetTF_eq, wO_parG, kLk_v, kLk_f, q, List.length_map, List.length_append, partR_len]
      refine ⟨by omega, by omega, by omega, some (.int (j : Nat)), ?_⟩
      rw [partR_snoc, ← List.append_assoc, List.map_append (l₁ := stepR pre ++ partR x j)]
      unfold encP
      simp only [List.map_cons, List.map_nil, List.map_append]
      rfl
    · rintro e ⟨_, y7, rfl⟩
      have e1 : stepR (pre ++ [x]) = stepR pre ++ partR x (x.2 + 1) := by
        unfold stepR
        rw [List.flatMap_append, List.flatMap_cons, List.flatMap_nil, List.append_nil]
        rfl
      simp! [dMulW_int, dDivW_int, divmodO_int, mkI0_eq, dciD_i, dciD_f, dciOf_eq, wO_gitI, wO_getI, ownDci_own, wO_putI, dcfS_v, itKi_eq, lenSetTF_eq, wO_parG, kLk_v, kLk_f]
      exact ⟨some _, some _, y7, by rw [e1]; rfl⟩
  · rintro e ⟨y5, y6, y7, rfl⟩
    exact h y5 y6 y7
def fAll : Fn := fnD false 8 gd_lall
theorem all_ok {n t : Nat} (h1 : 1 ≤ n) (h6 : n ≤ 6) (ht : t ≤ 10) : wO (fAll [.int (n : Nat), .int (t : Nat)]) fun r => r = .ok true (.lst ((allR n t).map encI)) .non := by
  have sl := sizeLine_eq
  have il : ∀ k, k ≤ 5 → (itR k t).length ≤ 4000 ∧ ∀ p ∈ itR k t, p.1.length ≤ 6 ∧ p.2 ≤ 10 := fun k hk => by
    obtain ⟨a, b⟩ := itR_len ⟨k, by omega⟩ ⟨t, by omega⟩
    refine ⟨a, fun p hp => ?_⟩
    have := List.all_eq_true.mp b p hp
    simpa using this
  unfold fAll
  simp only [wO_fnD, slots0, pad, List.map_cons, List.map_nil, List.length_cons, List.length_nil, Nat.zero_add, Nat.reduceAdd, Nat.reduceSub, List.replicate, List.cons_append, List.nil_append, if_true, if_false, Bool.false_eq_true, ↓reduceIte, gd_lall]
  simp! [dMulW_int, dDivW_int, divmodO_int, mkI0_eq, dciD_i, dciD_f, dciOf_eq, wO_gitI, wO_getI, ownDci_own, wO_putI, dcfS_v, itKi_eq, lenSetTF_eq, wO_parG, kLk_v, kLk_f]
  refine ⟨by omega, ?_⟩
  refine wO_rng (fun k e => k ≤ n - 1 ∧ ∃ (s : Sl) (x3 x4 : Option Sl) (x5 x6 x7 : Option DL.D), (s = .own false (.lst ((itR k t).map encP)) ∨ s = .val (.lst ((itR k t).map encP))) ∧ e = [some (.val (.int (n : Nat))), some (.val (.int (t : Nat))), some s, x3, x4, jk x5, jk x6, jk x7]) (n - 1) (by omega) ⟨Nat.zero_le _, _, none, none, none, none, none, .inl rfl, rfl⟩ ?_ ?_
  · rintro k e hk ⟨_, s, x3, x4, x5, x6, x7, hs, rfl⟩
    obtain ⟨a1, a2⟩ := il k (by omega)
    obtain ⟨b1, b2⟩ := il (k + 1) (by omega)
    rcases hs with rfl | rfl
    · simp! [dMulW_int, dDivW_int, divmodO_int, mkI0_eq, dciD_i, dciD_f, dciOf_eq, wO_gitI, wO_getI, ownDci_own, wO_putI, dcfS_v, itKi_eq, lenSetTF_eq, wO_parG, kLk_v, kLk_f]
      generalize hS : Sl.own false (DL.D.lst ((itR k t).map encP)) = s0
      refine rows_ok b1 a2 fun y5 y6 y7 => ?_
      simp! [dMulW_int, dDivW_int, divmodO_int, mkI0_eq, dciD_i, dciD_f, dciOf_eq, wO_gitI, wO_getI, ownDci_own, wO_putI, dcfS_v, itKi_eq, lenSetTF_eq, wO_parG, kLk_v, kLk_f]
      exact ⟨by omega, _, _, _, y5, y6, y7, .inr rfl, rfl⟩
    · simp! [dMulW_int, dDivW_int, divmodO_int, mkI0_eq, dciD_i, dciD_f, dciOf_eq, wO_gitI, wO_getI, ownDci_own, wO_putI, dcfS_v, itKi_eq, lenSetTF_eq, wO_parG, kLk_v, kLk_f]
      generalize hS : Sl.val (DL.D.lst ((itR k t).map encP)) = s0
      refine rows_ok b1 a2 fun y5 y6 y7 => ?_
      simp! [dMulW_int, dDivW_int, divmodO_int, mkI0_eq, dciD_i, dciD_f, dciOf_eq, wO_gitI, wO_getI, ownDci_own, wO_putI, dcfS_v, itKi_eq, lenSetTF_eq, wO_parG, kLk_v, kLk_f]
      exact ⟨by omega, _, _, _, y5, y6, y7, .inr rfl, rfl⟩
  · rintro e ⟨_, s, x3, x4, x5, x6, x7, hs, rfl⟩
    obtain ⟨a1, a2⟩ := il (n - 1) (by omega)
    have fin : ∀ (s : Sl) (Q : Nv × DL.D → Prop), (∀ y5 y6 : Option DL.D, Q ([some (.val (.int (n : Nat))), some (.val (.int (t : Nat))), some s, x3, x4, jk y5, jk y6, jk x7], .lst ((allR n t).map encI))) → wO (loopC (tupT [(nmT 5), (nmT 6)]) yesF (compC (lfL (ap2 (rdN 5) (apN [(rdN 6)] mkT) oAdd)) []) ((itR (n - 1) t).map encP) [some (.val (.int (n : Nat))), some (.val (.int (t : Nat))), some s, x3, x4, none, none, jk x7] (.lst [])) Q := fun s Q h => by
      refine wO_cMapY (enc := encP) (xs := itR (n - 1) t) (fun e => ∃ y5 y6 : Option DL.D, e = [some (.val (.int (n : Nat))), some (.val (.int (t : Nat))), some s, x3, x4, jk y5, jk y6, jk x7]) (fun p => encI (p.1 ++ [(p.2 : Int)])) (by omega) ⟨none, none, rfl⟩ ?_ ?_
      · rintro p hp e ⟨y5, y6, rfl⟩
        obtain ⟨g1, g2⟩ := a2 p hp
        unfold encP
        have e1 : p.1.map DL.D.int ++ [DL.D.int (p.2 : Nat)] = (p.1 ++ [(p.2 : Int)]).map .int := by rw [List.map_append]; rfl
        simp! [dMulW_int, dDivW_int, divmodO_int, mkI0_eq, dciD_i, dciD_f, dciOf_eq, wO_gitI, wO_getI, ownDci_own, wO_putI, dcfS_v, itKi_eq, lenSetTF_eq, wO_parG, kLk_v, kLk_f, e1, List.length_map]
        exact ⟨by omega, rfl, some _, some _, rfl⟩
      · rintro e ⟨y5, y6, rfl⟩
        have e2 : ((itR (n - 1) t).map fun p => encI (p.1 ++ [(p.2 : Int)])) = (allR n t).map encI := by unfold allR; rw [List.map_map]; rfl
        rw [e2]
        exact h y5 y6
    rcases hs with rfl | rfl
    · simp! [dMulW_int, dDivW_int, divmodO_int, mkI0_eq, dciD_i, dciD_f, dciOf_eq, wO_gitI, wO_getI, ownDci_own, wO_putI, dcfS_v, itKi_eq, lenSetTF_eq, wO_parG, kLk_v, kLk_f]
      refine fin _ _ fun y5 y6 => ?_
      simp! [dMulW_int, dDivW_int, divmodO_int, mkI0_eq, dciD_i, dciD_f, dciOf_eq, wO_gitI, wO_getI, ownDci_own, wO_putI, dcfS_v, itKi_eq, lenSetTF_eq, wO_parG, kLk_v, kLk_f]
    · simp! [dMulW_int, dDivW_int, divmodO_int, mkI0_eq, dciD_i, dciD_f, dciOf_eq, wO_gitI, wO_getI, ownDci_own, wO_putI, dcfS_v, itKi_eq, lenSetTF_eq, wO_parG, kLk_v, kLk_f]
      refine fin _ _ fun y5 y6 => ?_
      simp! [dMulW_int, dDivW_int, divmodO_int, mkI0_eq, dciD_i, dciD_f, dciOf_eq, wO_gitI, wO_getI, ownDci_own, wO_putI, dcfS_v, itKi_eq, lenSetTF_eq, wO_parG, kLk_v, kLk_f]
end K13

set_option Elab.async false
set_option linter.all false
set_option maxRecDepth 100000
set_option maxHeartbeats 4000000
namespace K13
open DL PySem L2
/-! ### divisors -/
def lowL (n k : Nat) : List Int := ((List.range k).filter fun d => decide (1 ≤ d) && decide (n % d = 0)).map fun (d : Nat) => (d : Int)
def divs (n : Nat) : List Int := lowL n (n + 1)
def bothL (n k : Nat) : List Int := lowL n k ++ (lowL n k).map fun e => (n : Int) / e
theorem low_snoc {n k : Nat} (h : 1 ≤ k) : lowL n (k + 1) = lowL n k ++ if n % k = 0 then [(k : Int)] else [] := by
  unfold lowL
  rw [List.range_succ, List.filter_append, List.map_append]
  congr 1
  by_cases c : n % k = 0
  · simp [c, h]
  · simp [c]
theorem low_len {n k : Nat} : (lowL n k).length ≤ k := by
  unfold lowL
  rw [List.length_map]
  exact Nat.le_trans (List.length_filter_le _ _) (by rw [List.length_range]; exact Nat.le_refl _)
theorem low_pos {n k : Nat} {x : Int} (h : x ∈ lowL n k) : 1 ≤ x ∧ x < (k : Int) := by
  unfold lowL at h
  obtain ⟨d, hd, rfl⟩ := List.mem_map.mp h
  obtain ⟨h1, h2⟩ := List.mem_filter.mp hd
  have := List.mem_range.mp h1
  have : 1 ≤ d := by
    have := (Bool.and_eq_true_iff.mp h2).1
    simpa using this
  omega
theorem div_all : ∀ (n : Fin 41) (d : Fin 8), 1 ≤ n.val → 1 ≤ d.val → n.val < d.val * d.val → (d.val - 1) * (d.val - 1) ≤ n.val → (∀ x ∈ onceI (bothL n.val d.val), x ∈ divs n.val) ∧ (∀ x ∈ divs n.val, x ∈ onceI (bothL n.val d.val)) := by decide +kernel
theorem divs_asc : ∀ n : Fin 41, (divs n.val).Pairwise (· < ·) := by decide +kernel
theorem sort_divs {n d : Nat} (h1 : 1 ≤ n) (hn : n ≤ 40) (hd : 1 ≤ d) (h2 : n < d * d) (h3 : (d - 1) * (d - 1) ≤ n) : sortI (onceI (bothL n d)) = divs n := by
  have hd8 : d < 8 := by
    by_cases c : d < 8
    · exact c
    · have : 7 * 7 ≤ (d - 1) * (d - 1) := Nat.mul_le_mul (by omega) (by omega)
      omega
  obtain ⟨a, b⟩ := div_all ⟨n, by omega⟩ ⟨d, hd8⟩ h1 hd h2 h3
  exact (sortI_uniq (divs_asc ⟨n, by omega⟩) (fun k => ⟨b k, a k⟩) (onceI_nd _)).symm
noncomputable def fDivisors : Fn := fnD false 4 gd_divisors
theorem divisors_ok {n : Nat} (h1 : 1 ≤ n) (hn : n ≤ 40) : wO (fDivisors [.int (n : Nat)]) fun r => r = .ok true (.lst ((divs n).map .int)) .non := by
  have sl := sizeLine_eq
  unfold fDivisors
  simp only [wO_fnD, slots0, pad, List.map_cons, List.map_nil, List.length_cons, List.length_nil, Nat.zero_add, Nat.reduceAdd, Nat.reduceSub, List.replicate, List.cons_append, List.nil_append, if_true, if_false, Bool.false_eq_true, ↓reduceIte, gd_divisors]
  simp! [dMulW_int, dDivW_int, divmodO_int, mkI0_eq, dciD_i, dciD_f, dciOf_eq, wO_gitI, wO_getI, ownDci_own, wO_putI, dcfS_v, itKi_eq, lenSetTF_eq, wO_parG, kLk_v, kLk_f]
  refine wO_while (fun m e => ∃ (d : Nat) (x : Option DL.D), 1 ≤ d ∧ (d - 1) * (d - 1) ≤ n ∧ m = 8 - d ∧ e = [some (.val (.int (n : Nat))), some (.own false (.lst ((lowL n d).map .int))), some (.val (.int (d : Nat))), jk x]) 7 ⟨1, none, by omega, by omega, rfl, rfl⟩ ?_
  rintro m e ⟨d, x, hd, hdn, rfl, rfl⟩
  have hd8 : d < 8 := by
    by_cases c : d < 8
    · exact c
    · have : 7 * 7 ≤ (d - 1) * (d - 1) := Nat.mul_le_mul (by omega) (by omega)
      omega
  have hm : mulC (d : Int) (d : Int) = true := mulC_l (by omega) (by omega)
  have q : (d : Int) * (d : Int) = ((d * d : Nat) : Int) := by rw [Int.natCast_mul]
  have q2 : (n : Int) % (d : Int) = ((n % d : Nat) : Int) := (Int.natCast_emod n d).symm
  have q3 : (d : Int) + 1 = ((d + 1 : Nat) : Int) := by omega
  have hll := low_len (n := n) (k := d)
  simp! [dMulW_int, dDivW_int, divmodO_int, mkI0_eq, dciD_i, dciD_f, dciOf_eq, wO_gitI, wO_getI, ownDci_own, wO_putI, dcfS_v, itKi_eq, lenSetTF_eq, wO_parG, kLk_v, kLk_f, hm, q, q2, q3, List.length_map]
  refine ⟨fun c => ?_, fun c => ?_⟩
  · have c : d * d ≤ n := by omega
    have hd7 : d < 7 := by
      by_cases c2 : d < 7
      · exact c2
      · have : 7 * 7 ≤ d * d := Nat.mul_le_mul (by omega) (by omega)
        omega
    refine ⟨by omega, fun c2 => ⟨by omega, ?_⟩, fun c2 => ?_⟩
    · refine ⟨8 - (d + 1), by omega, d + 1, x, by omega, by rw [Nat.add_sub_cancel]; exact c, rfl, ?_⟩
      rw [low_snoc hd, if_pos (by omega), List.map_append]
      rfl
    · refine ⟨8 - (d + 1), by omega, d + 1, x, by omega, by rw [Nat.add_sub_cancel]; exact c, rfl, ?_⟩
      rw [low_snoc hd, if_neg (by omega), List.append_nil]
  · have c : n < d * d := by omega
    refine wO_cMapY (enc := DL.D.int) (xs := lowL n d) (fun e => ∃ y : Option DL.D, e = [some (.val (.int (n : Nat))), some (.val (.lst ((lowL n d).map .int))), some (.val (.int (d : Nat))), jk y]) (fun e => .int ((n : Int) / e)) (by omega) ⟨none, rfl⟩ ?_ ?_
    · rintro e he _ ⟨y, rfl⟩
      obtain ⟨g1, g2⟩ := low_pos he
      simp! [dMulW_int, dDivW_int, divmodO_int, mkI0_eq, dciD_i, dciD_f, dciOf_eq, wO_gitI, wO_getI, ownDci_own, wO_putI, dcfS_v, itKi_eq, lenSetTF_eq, wO_parG, kLk_v, kLk_f]
      exact ⟨by omega, some _, rfl⟩
    · rintro e ⟨y, rfl⟩
      have e1 : (lowL n d).map DL.D.int ++ ((lowL n d).map fun e => DL.D.int ((n : Int) / e)) = (bothL n d).map .int := by
        unfold bothL
        rw [List.map_append, List.map_map]
        rfl
      have e2 : (bothL n d).length < 64 := by
        unfold bothL
        rw [List.length_append, List.length_map]
        omega
      simp! [dMulW_int, dDivW_int, divmodO_int, mkI0_eq, dciD_i, dciD_f, dciOf_eq, wO_gitI, wO_getI, ownDci_own, wO_putI, dcfS_v, itKi_eq, lenSetTF_eq, wO_parG, kLk_v, kLk_f, List.length_map, e1, e2, sort_divs h1 hn hd c hdn]
      omega
end K13

set_option Elab.async false
set_option linter.all false
set_option maxRecDepth 100000
set_option maxHeartbeats 4000000
namespace K13
open DL PySem L2
/-! ### totients -/
def sumT (kvs : KvI2) (d : Int) : Int := ((kvs.filter fun p => decide (d % p.1 = 0)).map (·.2)).sum
def totStep (kvs : KvI2) (d : Int) : KvI2 := putI2 kvs d (d - sumT kvs d)
def totKv (n : Nat) : KvI2 := (divs n).foldl totStep []
theorem atI2_some {kvs : KvI2} (hn : (kvs.map (·.1)).Nodup) {p : Int × Int} (hp : p ∈ kvs) : atI2 kvs p.1 = some p.2 := by
  induction kvs with
  | nil => cases hp
  | cons q kvs ih =>
    rw [List.map_cons, List.nodup_cons] at hn
    unfold atI2
    rcases List.mem_cons.mp hp with h | h
    · subst h
      rw [List.find?_cons_of_pos (by simp)]
      rfl
    · have ne : ¬ q.1 = p.1 := fun e => hn.1 (by rw [e]; exact List.mem_map_of_mem h)
      rw [List.find?_cons_of_neg (by simpa using ne)]
      exact ih hn.2 h
theorem putI2_keys {kvs : KvI2} {k n : Int} (h : k ∉ kvs.map (·.1)) : putI2 kvs k n = kvs ++ [(k, n)] := by
  unfold putI2
  rw [if_neg]
  intro c
  obtain ⟨p, hp, e⟩ := List.any_eq_true.mp c
  exact h (by rw [← of_decide_eq_true e]; exact List.mem_map_of_mem hp)
noncomputable def fTot : Fn := fnD false 4 (gd_totients_of_divisors fDivisors)
theorem tots_ok {n : Nat} (h1 : 1 ≤ n) (hn : n ≤ 40) : wO (fTot [.int (n : Nat)]) fun r => r = .ok true (.dci (totKv n)) .non := by
  have sl := sizeLine_eq
  unfold fTot
  simp only [wO_fnD, slots0, pad, List.map_cons, List.map_nil, List.length_cons, List.length_nil, Nat.zero_add, Nat.reduceAdd, Nat.reduceSub, List.replicate, List.cons_append, List.nil_append, if_true, if_false, Bool.false_eq_true, ↓reduceIte, gd_totients_of_divisors]
  simp! [dMulW_int, dDivW_int, divmodO_int, mkI0_eq, dciD_i, dciD_f, dciOf_eq, wO_gitI, wO_getI, ownDci_own, wO_putI, dcfS_v, itKi_eq, lenSetTF_eq, wO_parG, kLk_v, kLk_f]
  refine wO_mono (divisors_ok h1 hn) ?_
  rintro r rfl
  simp! [dMulW_int, dDivW_int, divmodO_int, mkI0_eq, dciD_i, dciD_f, dciOf_eq, wO_gitI, wO_getI, ownDci_own, wO_putI, dcfS_v, itKi_eq, lenSetTF_eq, wO_parG, kLk_v, kLk_f]
  have asc := divs_asc ⟨n, by omega⟩
  have nd : (divs n).Nodup := asc.imp fun h => Int.ne_of_lt h
  have dl : (divs n).length ≤ n + 1 := low_len
  refine wO_each (fun pre e => ∃ (kvs : KvI2) (x y : Option DL.D), kvs = pre.foldl totStep [] ∧ kvs.map (·.1) = pre ∧ e = [some (.val (.int (n : Nat))), some (.own false (.dci kvs)), jk x, jk y]) ⟨[], none, none, rfl, rfl, rfl⟩ ?_ ?_
  · rintro pre d post e hx ⟨kvs, x, y, hk, hkk, rfl⟩
    have hd : d ∈ divs n := by rw [hx]; exact List.mem_append_right _ List.mem_cons_self
    have nd2 := nd
    rw [hx, List.nodup_append] at nd2
    have hpd : d ∉ pre := fun h => nd2.2.2 d h d List.mem_cons_self rfl
    have hkn : (kvs.map (·.1)).Nodup := by rw [hkk]; exact nd2.1
    have hkl : kvs.length ≤ 41 := by
      have : kvs.length = pre.length := by rw [← hkk, List.length_map]
      rw [hx, List.length_append] at dl
      omega
    simp! [dMulW_int, dDivW_int, divmodO_int, mkI0_eq, dciD_i, dciD_f, dciOf_eq, wO_gitI, wO_getI, ownDci_own, wO_putI, dcfS_v, itKi_eq, lenSetTF_eq, wO_parG, kLk_v, kLk_f]
    refine wO_lockI (i := 1) rfl (by cases y <;> rfl) ?_
    simp! [dMulW_int, dDivW_int, divmodO_int, mkI0_eq, dciD_i, dciD_f, dciOf_eq, wO_gitI, wO_getI, ownDci_own, wO_putI, dcfS_v, itKi_eq, lenSetTF_eq, wO_parG, kLk_v, kLk_f]
    refine wO_cMap (enc := fun p : Int × Int => DL.D.int p.1) (xs := kvs) (fun e => ∃ y : Option DL.D, e = [some (.val (.int (n : Nat))), some (.val (.dcf kvs)), some (.val (.int d)), jk y]) (fun p => decide (d % p.1 = 0)) (fun p => .int p.2) (by omega) ⟨none, rfl⟩ ?_ ?_
    · rintro p hp e ⟨y, rfl⟩
      have hp1 : p.1 ∈ divs n := by
        rw [hx, ← hkk]
        exact List.mem_append_left _ (List.mem_map_of_mem hp)
      obtain ⟨g1, g2⟩ := low_pos hp1
      simp! [dMulW_int, dDivW_int, divmodO_int, mkI0_eq, dciD_i, dciD_f, dciOf_eq, wO_gitI, wO_getI, ownDci_own, wO_putI, dcfS_v, itKi_eq, lenSetTF_eq, wO_parG, kLk_v, kLk_f, atI2_some hkn hp]
      exact ⟨by omega, fun _ => ⟨some _, rfl⟩, fun _ => ⟨some _, rfl⟩⟩
    · rintro e ⟨y2, rfl⟩
      have e1 : ((kvs.filter fun p => decide (d % p.1 = 0)).map fun p => DL.D.int p.2) = ((kvs.filter fun p => decide (d % p.1 = 0)).map (·.2)).map .int := by rw [List.map_map]; rfl
      rw [e1]
      simp! [dMulW_int, dDivW_int, divmodO_int, mkI0_eq, dciD_i, dciD_f, dciOf_eq, wO_gitI, wO_getI, ownDci_own, wO_putI, dcfS_v, itKi_eq, lenSetTF_eq, wO_parG, kLk_v, kLk_f, pure_ints]
      refine ⟨_, intsOf_map _, by omega, _, some (DL.D.int d), y, ?_, ?_, rfl⟩
      · rw [List.foldl_append, ← hk]
        rfl
      · rw [putI2_keys (by rw [hkk]; exact hpd), List.map_append, hkk]
        rfl
  · rintro e ⟨kvs, x, y, hk, hkk, rfl⟩
    simp! [dMulW_int, dDivW_int, divmodO_int, mkI0_eq, dciD_i, dciD_f, dciOf_eq, wO_gitI, wO_getI, ownDci_own, wO_putI, dcfS_v, itKi_eq, lenSetTF_eq, wO_parG, kLk_v, kLk_f]
    rw [hk]
    rfl
end K13

set_option Elab.async false
set_option linter.all false
set_option maxRecDepth 100000
set_option maxHeartbeats 4000000
namespace K13
open DL PySem L2
/-! ### the mean over all turns -/
theorem sum_pick0 {f : Int → Int} {a : Int} : ∀ D : List Int, a ∉ D → (D.map fun d => if a = d then f d else 0).sum = 0
  | [], _ => rfl
  | d :: D, h => by
    rw [List.map_cons, List.sum_cons, sum_pick0 D (fun z => h (List.mem_cons_of_mem _ z)), if_neg (fun e => h (by rw [e]; exact List.mem_cons_self))]
    rfl
theorem sum_pick {f : Int → Int} {a : Int} : ∀ D : List Int, D.Nodup → a ∈ D → (D.map fun d => if a = d then f d else 0).sum = f a
  | [], _, h => by cases h
  | d :: D, hn, h => by
    rw [List.nodup_cons] at hn
    rw [List.map_cons, List.sum_cons]
    by_cases c : a = d
    · subst c
      rw [if_pos rfl, sum_pick0 D hn.1]
      omega
    · rw [if_neg c, sum_pick D hn.2 ((List.mem_cons.mp h).resolve_left c)]
      omega
theorem sum_add {f g : Int → Int} : ∀ D : List Int, (D.map fun d => f d + g d).sum = (D.map f).sum + (D.map g).sum
  | [] => rfl
  | d :: D => by
    rw [List.map_cons, List.map_cons, List.map_cons, List.sum_cons, List.sum_cons, List.sum_cons, sum_add D]
    omega
theorem sum_group {f : Int → Int} {D : List Int} (nd : D.Nodup) : ∀ K : List Int, (∀ k ∈ K, k ∈ D) → (K.map f).sum = (D.map fun d => ((K.filter fun k => decide (k = d)).length : Int) * f d).sum
  | [], _ => by
    have : ∀ D : List Int, (D.map fun d => (([] : List Int).filter fun k => decide (k = d)).length * f d).sum = 0 := by
      intro D
      induction D with
      | nil => rfl
      | cons d D ih =>
        rw [List.map_cons, List.sum_cons, ih]
        simp
    exact (this D).symm
  | a :: K, h => by
    rw [List.map_cons, List.sum_cons, sum_group nd K fun k hk => h k (List.mem_cons_of_mem _ hk)]
    have e : (fun d => (((a :: K).filter fun k => decide (k = d)).length : Int) * f d) = fun d => (if a = d then f d else 0) + ((K.filter fun k => decide (k = d)).length : Int) * f d := by
      funext d
      by_cases c : a = d
      · rw [List.filter_cons_of_pos (by simpa using c), if_pos c, List.length_cons, Int.natCast_add, Int.add_mul]
        omega
      · rw [List.filter_cons_of_neg (by simpa using c), if_neg c]
        omega
    rw [e, sum_add, sum_pick D nd (h a List.mem_cons_self)]
def gcdL (n : Nat) : List Int := (List.range n).map fun k => (Nat.gcd n (k + 1) : Int)
def totAt (n : Nat) (d : Int) : Int := (((gcdL n).filter fun k => decide (k = d)).length : Int)
theorem keys_all : ∀ n : Fin 41, 1 ≤ n.val → (totKv n.val).map (·.1) = divs n.val ∧ (∀ d ∈ divs n.val, atI2 (totKv n.val) ((n.val : Int) / d) = some (totAt n.val d)) ∧ (∀ k ∈ gcdL n.val, k ∈ divs n.val) := by decide +kernel
def sumU (t n : Nat) : Int := ((divs n).map fun d => totAt n d * cnt t d.toNat).sum
def sumG (t n : Nat) : Int := ((gcdL n).map fun d => cnt t d.toNat).sum
theorem sumU_eq {t n : Nat} (h1 : 1 ≤ n) (hn : n ≤ 40) : sumU t n = sumG t n := by
  obtain ⟨_, _, h⟩ := keys_all ⟨n, by omega⟩ h1
  have nd : (divs n).Nodup := (divs_asc ⟨n, by omega⟩).imp fun h => Int.ne_of_lt h
  exact (sum_group nd (gcdL n) h).symm
theorem pow_mod {a n d : Nat} : a ^ d % n = (a % n) ^ d % n := Nat.pow_mod a d n
theorem cnt_mod {t n d : Nat} : cnt t d % (n : Int) = cnt (t % n) d % (n : Int) := by
  unfold cnt
  have e1 : (((t + 1) ^ d : Nat) : Int) % (n : Int) = (((t % n + 1) ^ d : Nat) : Int) % (n : Int) := by
    rw [← Int.natCast_emod, ← Int.natCast_emod, Nat.pow_mod (t + 1), Nat.pow_mod (t % n + 1)]
    have : (t % n + 1) % n = (t + 1) % n := by rw [Nat.add_mod (t % n), Nat.mod_mod, ← Nat.add_mod]
    rw [this]
  have e2 : ((t ^ d : Nat) : Int) % (n : Int) = (((t % n) ^ d : Nat) : Int) % (n : Int) := by
    rw [← Int.natCast_emod, ← Int.natCast_emod, Nat.pow_mod t, Nat.pow_mod (t % n), Nat.mod_mod]
  rw [Int.sub_emod, e1, e2, ← Int.sub_emod]
theorem sum_mod {f g : Int → Int} {n : Int} (h : ∀ d, f d % n = g d % n) : ∀ l : List Int, (l.map f).sum % n = (l.map g).sum % n
  | [] => rfl
  | d :: l => by
    rw [List.map_cons, List.map_cons, List.sum_cons, List.sum_cons, Int.add_emod, h d, sum_mod h l, ← Int.add_emod]
theorem div_small : ∀ (n : Fin 41) (t : Fin 40), 1 ≤ n.val → t.val < n.val → sumG t.val n.val % (n.val : Int) = 0 := by decide +kernel
theorem div_G {t n : Nat} (h1 : 1 ≤ n) (hn : n ≤ 40) : sumG t n % (n : Int) = 0 := by
  have hl : t % n < n := Nat.mod_lt _ h1
  have := div_small ⟨n, by omega⟩ ⟨t % n, by omega⟩ h1 hl
  rw [← this]
  exact sum_mod (fun d => cnt_mod) (gcdL n)
theorem zero_G : ∀ n : Fin 41, 1 ≤ n.val → sumG 0 n.val = n.val := by decide +kernel
def unlikeV (t n : Nat) : Int := sumG t n / n
noncomputable def fUnlike : Fn := fnD false 5 (gd_unlike_count fCount fTot)
theorem unlike_ok {t n : Nat} (ht : t + 1 < 2 ^ 100) (h1 : 1 ≤ n) (hn : n ≤ 40) : wO (fUnlike [.int (t : Nat), .int (n : Nat)]) fun r => r = .ok false (.int (unlikeV t n)) .non := by
  have sl := sizeLine_eq
  obtain ⟨hk, ha, hg⟩ := keys_all ⟨n, by omega⟩ h1
  have hk : (totKv n).map (·.1) = divs n := hk
  have ha : ∀ d ∈ divs n, atI2 (totKv n) ((n : Int) / d) = some (totAt n d) := ha
  have dl : (divs n).length ≤ n + 1 := low_len
  have kl : (totKv n).length = (divs n).length := by rw [← hk, List.length_map]
  unfold fUnlike
  simp only [wO_fnD, slots0, pad, List.map_cons, List.map_nil, List.length_cons, List.length_nil, Nat.zero_add, Nat.reduceAdd, Nat.reduceSub, List.replicate, List.cons_append, List.nil_append, if_true, if_false, Bool.false_eq_true, ↓reduceIte, gd_unlike_count]
  simp! [dMulW_int, dDivW_int, divmodO_int, mkI0_eq, dciD_i, dciD_f, dciOf_eq, wO_gitI, wO_getI, ownDci_own, wO_putI, dcfS_v, itKi_eq, lenSetTF_eq, wO_parG, kLk_v, kLk_f]
  refine ⟨fun c => ?_, fun c => ?_⟩
  · have c : t = 0 := by omega
    subst c
    unfold unlikeV
    rw [zero_G ⟨n, by omega⟩ h1]
    show FR.ok false (.int 1) .non = _
    rw [show ((n : Nat) : Int) / (n : Int) = 1 from Int.ediv_self (by omega)]
  · refine wO_mono (tots_ok h1 hn) ?_
    rintro r rfl
    simp! [dMulW_int, dDivW_int, divmodO_int, mkI0_eq, dciD_i, dciD_f, dciOf_eq, wO_gitI, wO_getI, ownDci_own, wO_putI, dcfS_v, itKi_eq, lenSetTF_eq, wO_parG, kLk_v, kLk_f]
    refine wO_lockI (i := 2) rfl rfl ?_
    simp! [dMulW_int, dDivW_int, divmodO_int, mkI0_eq, dciD_i, dciD_f, dciOf_eq, wO_gitI, wO_getI, ownDci_own, wO_putI, dcfS_v, itKi_eq, lenSetTF_eq, wO_parG, kLk_v, kLk_f]
    refine wO_cMapY (enc := fun p : Int × Int => DL.D.int p.1) (xs := totKv n) (fun e => ∃ y : Option DL.D, e = [some (.val (.int (t : Nat))), some (.val (.int (n : Nat))), some (.val (.dcf (totKv n))), none, jk y]) (fun p => .int (totAt n p.1 * cnt t p.1.toNat)) (by omega) ⟨none, rfl⟩ ?_ ?_
    · rintro p hp e ⟨y, rfl⟩
      have hp1 : p.1 ∈ divs n := by rw [← hk]; exact List.mem_map_of_mem hp
      obtain ⟨g1, g2⟩ := low_pos hp1
      obtain ⟨d, hd⟩ : ∃ d : Nat, p.1 = (d : Int) := ⟨p.1.toNat, by omega⟩
      have hm : mulC (totAt n (d : Int)) (cnt t d) = true := by
        have : totAt n (d : Int) ≤ 40 := by
          have h2 : ((gcdL n).filter fun k => decide (k = (d : Int))).length ≤ (gcdL n).length := List.length_filter_le _ _
          have h3 : (gcdL n).length = n := by unfold gcdL; rw [List.length_map, List.length_range]
          unfold totAt
          omega
        have : 0 ≤ totAt n (d : Int) := Int.natCast_nonneg _
        exact mulC_l (by omega) (by omega)
      rw [hd]
      rw [hd] at hp1
      simp! [dMulW_int, dDivW_int, divmodO_int, mkI0_eq, dciD_i, dciD_f, dciOf_eq, wO_gitI, wO_getI, ownDci_own, wO_putI, dcfS_v, itKi_eq, lenSetTF_eq, wO_parG, kLk_v, kLk_f, ha _ hp1]
      refine ⟨by omega, ?_⟩
      refine wO_mono (count_ok ht (by omega)) ?_
      rintro r rfl
      simp! [dMulW_int, dDivW_int, divmodO_int, mkI0_eq, dciD_i, dciD_f, dciOf_eq, wO_gitI, wO_getI, ownDci_own, wO_putI, dcfS_v, itKi_eq, lenSetTF_eq, wO_parG, kLk_v, kLk_f, hm, Int.toNat_natCast]
      exact ⟨some _, rfl⟩
    · rintro e ⟨y, rfl⟩
      have e1 : ((totKv n).map fun p => DL.D.int (totAt n p.1 * cnt t p.1.toNat)) = ((divs n).map fun d => totAt n d * cnt t d.toNat).map .int := by
        rw [← hk, List.map_map, List.map_map]
        rfl
      rw [e1]
      simp! [dMulW_int, dDivW_int, divmodO_int, mkI0_eq, dciD_i, dciD_f, dciOf_eq, wO_gitI, wO_getI, ownDci_own, wO_putI, dcfS_v, itKi_eq, lenSetTF_eq, wO_parG, kLk_v, kLk_f, pure_ints]
      refine ⟨_, intsOf_map _, by omega, ?_⟩
      have e2 := sumU_eq (t := t) h1 hn
      unfold sumU at e2
      rw [e2]
      rfl
/-! ### small ones -/
def plains (n t : Nat) : List Hs := (allR n (n * t)).filter plainB
def smallOk (n t : Nat) : Bool := decide (cnt t n = ((plains n t).length : Int)) && decide (unlikeV t n = ((onceL ((plains n t).map leastR)).length : Int)) && decide ((onceL ((plains n t).map leastR)).length < 63)
def pairs6 : List (Nat × Nat) := [(1, 9), (2, 5), (3, 3), (4, 2), (5, 1), (6, 1)]
theorem small_all : ∀ p ∈ pairs6, ∀ t : Fin 10, t.val ≤ p.2 → smallOk p.1 t.val = true := by decide +kernel
end K13

set_option Elab.async false
set_option linter.all false
set_option maxRecDepth 100000
set_option maxHeartbeats 4000000
namespace K13
open DL PySem L2
theorem pair_at {v : Nat} (h : (v : Int) < 6) : ∃ p ∈ pairs6, (1 ≤ p.1 ∧ p.1 ≤ 6 ∧ p.1 * p.2 ≤ 10 ∧ p.2 ≤ 9) ∧ atI [DL.D.tup [.int 1, .int 9], .tup [.int 2, .int 5], .tup [.int 3, .int 3], .tup [.int 4, .int 2], .tup [.int 5, .int 1], .tup [.int 6, .int 1]] (v : Int) = some (.tup [.int (p.1 : Nat), .int (p.2 : Nat)]) := by
  have : v = 0 ∨ v = 1 ∨ v = 2 ∨ v = 3 ∨ v = 4 ∨ v = 5 := by omega
  rcases this with rfl | rfl | rfl | rfl | rfl | rfl
  · exact ⟨(1, 9), by decide, by decide, rfl⟩
  · exact ⟨(2, 5), by decide, by decide, rfl⟩
  · exact ⟨(3, 3), by decide, by decide, rfl⟩
  · exact ⟨(4, 2), by decide, by decide, rfl⟩
  · exact ⟨(5, 1), by decide, by decide, rfl⟩
  · exact ⟨(6, 1), by decide, by decide, rfl⟩
theorem most_at {v : Nat} (h : (v : Int) < 2) : ∃ m : Nat, (1 ≤ m ∧ m ≤ 41) ∧ atI [DL.D.int 10, .int 41] (v : Int) = some (.int (m : Nat)) := by
  have : v = 0 ∨ v = 1 := by omega
  rcases this with rfl | rfl
  · exact ⟨10, by omega, rfl⟩
  · exact ⟨41, by omega, rfl⟩
theorem all_len : ∀ p ∈ pairs6, ∀ t : Fin 10, t.val ≤ p.2 → (allR p.1 (p.1 * t.val)).length ≤ 4000 ∧ (allR p.1 (p.1 * t.val)).all (fun r => decide (r.length = p.1)) = true := by decide +kernel
theorem pow_28 : dPow (.int 10) (.int 28) = some (.int 10000000000000000000000000000) := by rfl
def partG (t n k : Nat) : Int := ((List.range k).map fun (j : Nat) => cnt t (Nat.gcd n (j + 1))).sum
theorem partG_succ {t n k : Nat} : partG t n (k + 1) = partG t n k + cnt t (Nat.gcd n (k + 1)) := by
  unfold partG
  rw [List.range_succ, List.map_append, List.sum_append]
  simp
theorem partG_all {t n : Nat} : partG t n n = sumG t n := by
  unfold partG sumG gcdL
  rw [List.map_map]
  rfl
noncomputable def fLaw : Fn := fnD false 10 (gd_law fAll fDiv fIs fIsPlain fLeast fLpower fTake fTape fPlain fUnlike)
theorem law_ok (ns : List Int) : wO (fLaw [.scr ns]) fun r => r = .ok false (.bl true) .non := by
  have sl := sizeLine_eq
  unfold fLaw
  simp only [wO_fnD, slots0, pad, List.map_cons, List.map_nil, List.length_cons, List.length_nil, Nat.zero_add, Nat.reduceAdd, Nat.reduceSub, List.replicate, List.cons_append, List.nil_append, if_true, if_false, Bool.false_eq_true, ↓reduceIte, gd_law]
  simp! [dMulW_int, dDivW_int, divmodO_int, mkI0_eq, dciD_i, dciD_f, dciOf_eq, wO_gitI, wO_getI, ownDci_own, wO_putI, dcfS_v, itKi_eq, lenSetTF_eq, wO_parG, kLk_v, kLk_f]
  refine wO_mono (ltape_ok ns 0) ?_
  rintro r ⟨tp, rfl, htp⟩
  simp! [dMulW_int, dDivW_int, divmodO_int, mkI0_eq, dciD_i, dciD_f, dciOf_eq, wO_gitI, wO_getI, ownDci_own, wO_putI, dcfS_v, itKi_eq, lenSetTF_eq, wO_parG, kLk_v, kLk_f]
  refine ⟨by omega, ?_⟩
  refine wO_mono (take0 htp (by omega) (by omega)) ?_
  rintro r ⟨v, tp, rfl, htp, hv⟩
  obtain ⟨⟨n, most⟩, hp, ⟨h1, h6, hnm, h9⟩, hat⟩ := pair_at hv
  simp only at h1 h6 hnm h9 hat
  have q1 : (most : Int) + 1 = ((most + 1 : Nat) : Int) := by omega
  simp! [dMulW_int, dDivW_int, divmodO_int, mkI0_eq, dciD_i, dciD_f, dciOf_eq, wO_gitI, wO_getI, ownDci_own, wO_putI, dcfS_v, itKi_eq, lenSetTF_eq, wO_parG, kLk_v, kLk_f, hat, q1]
  refine wO_mono (take0 htp (by omega) (by omega)) ?_
  rintro r ⟨t, tp, rfl, htp, ht⟩
  have ht2 : t ≤ most := by omega
  have hnt : n * t ≤ 10 := Nat.le_trans (Nat.mul_le_mul_left n ht2) hnm
  have hsm : smallOk n t = true := small_all (n, most) hp ⟨t, by omega⟩ ht2
  obtain ⟨al1, al2⟩ := all_len (n, most) hp ⟨t, by omega⟩ ht2
  have al1 : (allR n (n * t)).length ≤ 4000 := al1
  have al3 : ∀ r ∈ allR n (n * t), r.length = n := fun r hr => of_decide_eq_true (List.all_eq_true.mp al2 r hr)
  unfold smallOk at hsm
  simp only [Bool.and_eq_true, decide_eq_true_eq] at hsm
  obtain ⟨⟨s1, s2⟩, s3⟩ := hsm
  have hm1 : mulC (n : Int) (t : Int) = true := mulC_l (by omega) (by omega)
  have q2 : (n : Int) * (t : Int) = ((n * t : Nat) : Int) := by rw [Int.natCast_mul]
  have big : t + 1 < 2 ^ 100 := Nat.lt_of_le_of_lt (show t + 1 ≤ 2 ^ 10 by omega) (Nat.pow_lt_pow_right (by decide) (by decide))
  simp! [dMulW_int, dDivW_int, divmodO_int, mkI0_eq, dciD_i, dciD_f, dciOf_eq, wO_gitI, wO_getI, ownDci_own, wO_putI, dcfS_v, itKi_eq, lenSetTF_eq, wO_parG, kLk_v, kLk_f, hm1, q2]
  refine wO_mono (all_ok h1 h6 hnt) ?_
  rintro r rfl
  simp! [dMulW_int, dDivW_int, divmodO_int, mkI0_eq, dciD_i, dciD_f, dciOf_eq, wO_gitI, wO_getI, ownDci_own, wO_putI, dcfS_v, itKi_eq, lenSetTF_eq, wO_parG, kLk_v, kLk_f]
  refine wO_cMap (enc := encI) (xs := allR n (n * t)) (fun e => ∃ (s6 s8 : Option Sl) (y : Option DL.D), e = [some (.val (.scr ns)), some (.own false tp), some (.val (.int (t : Nat))), none, some (.val (.int (n : Nat))), none, s6, some (.val (.int (most : Nat))), s8, jk y]) plainB encI (by omega) ⟨none, none, none, rfl⟩ ?_ ?_
  · rintro r hr e ⟨s6, s8, y, rfl⟩
    simp! [dMulW_int, dDivW_int, divmodO_int, mkI0_eq, dciD_i, dciD_f, dciOf_eq, wO_gitI, wO_getI, ownDci_own, wO_putI, dcfS_v, itKi_eq, lenSetTF_eq, wO_parG, kLk_v, kLk_f]
    refine wO_mono (show wO (fIsPlain [encI r]) _ from is_plain_ok (hs := r) (by rw [al3 r hr]; omega) (by rw [al3 r hr]; omega)) ?_
    rintro z rfl
    simp! [dMulW_int, dDivW_int, divmodO_int, mkI0_eq, dciD_i, dciD_f, dciOf_eq, wO_gitI, wO_getI, ownDci_own, wO_putI, dcfS_v, itKi_eq, lenSetTF_eq, wO_parG, kLk_v, kLk_f]
    exact ⟨fun _ => ⟨s6, s8, some _, rfl⟩, fun _ => ⟨s6, s8, some _, rfl⟩⟩
  · rintro e ⟨s6, s8, y, rfl⟩
    obtain ⟨P, hP⟩ : ∃ P, P = plains n t := ⟨_, rfl⟩
    have e1 : (allR n (n * t)).filter plainB = P := by rw [hP]; rfl
    have hPl : ∀ r ∈ P, r.length = n := fun r hr => al3 r (List.mem_filter.mp (by rw [e1]; exact hr)).1
    have hPz : P.length ≤ 4000 := by rw [← e1]; exact Nat.le_trans (List.length_filter_le _ _) al1
    rw [← hP] at s1 s2 s3
    rw [e1]
    simp! [dMulW_int, dDivW_int, divmodO_int, mkI0_eq, dciD_i, dciD_f, dciOf_eq, wO_gitI, wO_getI, ownDci_own, wO_putI, dcfS_v, itKi_eq, lenSetTF_eq, wO_parG, kLk_v, kLk_f]
    refine wO_mono (plain_ok big (by omega)) ?_
    rintro r rfl
    simp! [dMulW_int, dDivW_int, divmodO_int, mkI0_eq, dciD_i, dciD_f, dciOf_eq, wO_gitI, wO_getI, ownDci_own, wO_putI, dcfS_v, itKi_eq, lenSetTF_eq, wO_parG, kLk_v, kLk_f, List.length_map]
    refine wO_mono is_ok ?_
    rintro r rfl
    simp! [dMulW_int, dDivW_int, divmodO_int, mkI0_eq, dciD_i, dciD_f, dciOf_eq, wO_gitI, wO_getI, ownDci_own, wO_putI, dcfS_v, itKi_eq, lenSetTF_eq, wO_parG, kLk_v, kLk_f, decide_eq_true s1]
    refine wO_mono (unlike_ok big h1 (by omega)) ?_
    rintro r rfl
    simp! [dMulW_int, dDivW_int, divmodO_int, mkI0_eq, dciD_i, dciD_f, dciOf_eq, wO_gitI, wO_getI, ownDci_own, wO_putI, dcfS_v, itKi_eq, lenSetTF_eq, wO_parG, kLk_v, kLk_f]
    refine wO_cMapY (enc := encI) (xs := P) (fun e => ∃ y : Option DL.D, e = [some (.val (.scr ns)), some (.own false tp), some (.val (.int (t : Nat))), some (.val (.lst (P.map encI))), some (.val (.int (n : Nat))), none, s6, some (.val (.int (most : Nat))), s8, jk y]) (fun r => encI (leastR r)) (by omega) ⟨none, rfl⟩ ?_ ?_
    · rintro r hr e ⟨y, rfl⟩
      simp! [dMulW_int, dDivW_int, divmodO_int, mkI0_eq, dciD_i, dciD_f, dciOf_eq, wO_gitI, wO_getI, ownDci_own, wO_putI, dcfS_v, itKi_eq, lenSetTF_eq, wO_parG, kLk_v, kLk_f]
      refine wO_mono (show wO (fLeast [encI r]) _ from least_ok (hs := r) (by rw [hPl r hr]; omega) (by rw [hPl r hr]; omega)) ?_
      rintro z rfl
      simp! [dMulW_int, dDivW_int, divmodO_int, mkI0_eq, dciD_i, dciD_f, dciOf_eq, wO_gitI, wO_getI, ownDci_own, wO_putI, dcfS_v, itKi_eq, lenSetTF_eq, wO_parG, kLk_v, kLk_f]
      exact ⟨rfl, some _, rfl⟩
    · rintro e ⟨y, rfl⟩
      have e2 : (P.map fun r => encI (leastR r)) = (P.map leastR).map fun ns => DL.D.tup (ns.map .int) := by rw [List.map_map]; rfl
      simp! [dMulW_int, dDivW_int, divmodO_int, mkI0_eq, dciD_i, dciD_f, dciOf_eq, wO_gitI, wO_getI, ownDci_own, wO_putI, dcfS_v, itKi_eq, lenSetTF_eq, wO_parG, kLk_v, kLk_f, e2, lenSetTD_eq]
      refine ⟨s3, ?_⟩
      refine wO_mono is_ok ?_
      rintro r rfl
      simp! [dMulW_int, dDivW_int, divmodO_int, mkI0_eq, dciD_i, dciD_f, dciOf_eq, wO_gitI, wO_getI, ownDci_own, wO_putI, dcfS_v, itKi_eq, lenSetTF_eq, wO_parG, kLk_v, kLk_f, decide_eq_true s2]
      refine wO_mono (take0 htp (by omega) (by omega)) ?_
      rintro r ⟨n0, tp, rfl, htp, hn0⟩
      simp! [dMulW_int, dDivW_int, divmodO_int, mkI0_eq, dciD_i, dciD_f, dciOf_eq, wO_gitI, wO_getI, ownDci_own, wO_putI, dcfS_v, itKi_eq, lenSetTF_eq, wO_parG, kLk_v, kLk_f]
      refine wO_mono (take0 htp (by omega) (by omega)) ?_
      rintro r ⟨c0, tp, rfl, htp, hc0⟩
      obtain ⟨m0, hm0, hat0⟩ := most_at hc0
      have q3 : (1 : Int) + (n0 : Int) = ((1 + n0 : Nat) : Int) := by omega
      simp! [dMulW_int, dDivW_int, divmodO_int, mkI0_eq, dciD_i, dciD_f, dciOf_eq, wO_gitI, wO_getI, ownDci_own, wO_putI, dcfS_v, itKi_eq, lenSetTF_eq, wO_parG, kLk_v, kLk_f, hat0, q3]
      refine wO_mono (take0 htp (by omega) (by omega)) ?_
      rintro r ⟨t0, tp, rfl, htp, ht0⟩
      simp only [kF_v, kS_ok, put_val, Option.map_some, wO_some, kG_nx]
      refine wO_seq.mpr (wO_mono (P := fun so => ∃ (n2 t2 : Nat) (tp : DL.D), (1 ≤ n2 ∧ n2 ≤ 40) ∧ t2 + 1 < 2 ^ 100 ∧ so = .nx [some (.val (.scr ns)), some (.own false tp), some (.val (.int (t2 : Nat))), some (.val (.lst (P.map encI))), some (.val (.int (n2 : Nat))), none, s6, some (.val (.int (most : Nat))), s8, none]) ?_ ?_)
      · have ht41 : t0 < 41 := by omega
        have big0 : t0 + 1 < 2 ^ 100 := Nat.lt_of_le_of_lt (show t0 + 1 ≤ 2 ^ 10 by omega) (Nat.pow_lt_pow_right (by decide) (by decide))
        simp! [dMulW_int, dDivW_int, divmodO_int, mkI0_eq, dciD_i, dciD_f, dciOf_eq, wO_gitI, wO_getI, ownDci_own, wO_putI, dcfS_v, itKi_eq, lenSetTF_eq, wO_parG, kLk_v, kLk_f]
        refine wO_mono (take0 htp (by omega) (by omega)) ?_
        rintro r ⟨c1, tp, rfl, htp, hc1⟩
        simp! [dMulW_int, dDivW_int, divmodO_int, mkI0_eq, dciD_i, dciD_f, dciOf_eq, wO_gitI, wO_getI, ownDci_own, wO_putI, dcfS_v, itKi_eq, lenSetTF_eq, wO_parG, kLk_v, kLk_f]
        refine ⟨fun _ => ?_, fun _ => ⟨1 + n0, t0, tp, by omega, big0, rfl⟩⟩
        refine wO_mono (take0 htp (by omega) (by omega)) ?_
        rintro r ⟨n1, tp, rfl, htp, hn1⟩
        have hm2 : mulC (t0 : Int) 10000000000000000000000000000 = true := mulC_l (by omega) (by omega)
        simp! [dMulW_int, dDivW_int, divmodO_int, mkI0_eq, dciD_i, dciD_f, dciOf_eq, wO_gitI, wO_getI, ownDci_own, wO_putI, dcfS_v, itKi_eq, lenSetTF_eq, wO_parG, kLk_v, kLk_f, pow_28, hm2]
        refine wO_mono (take0 htp (by omega) (by omega)) ?_
        rintro r ⟨t1, tp, rfl, htp, ht1⟩
        have q4 : (1 : Int) + (n1 : Int) = ((1 + n1 : Nat) : Int) := by omega
        have q5 : (t0 : Int) * 10000000000000000000000000000 + (t1 : Int) = ((t0 * 10000000000000000000000000000 + t1 : Nat) : Int) := by omega
        simp! [dMulW_int, dDivW_int, divmodO_int, mkI0_eq, dciD_i, dciD_f, dciOf_eq, wO_gitI, wO_getI, ownDci_own, wO_putI, dcfS_v, itKi_eq, lenSetTF_eq, wO_parG, kLk_v, kLk_f, q4, q5]
        exact ⟨1 + n1, _, tp, by omega, Nat.lt_of_lt_of_le (show t0 * 10000000000000000000000000000 + t1 + 1 < 1267650600228229401496703205376 by omega) (by decide), rfl⟩
      · rintro so ⟨n2, t2, tp, hn2, big2, rfl⟩
        have q6 : (n2 : Int) + 1 = ((n2 + 1 : Nat) : Int) := by omega
        have q7 : (t2 : Int) + 1 = ((t2 + 1 : Nat) : Int) := by omega
        simp! [dMulW_int, dDivW_int, divmodO_int, mkI0_eq, dciD_i, dciD_f, dciOf_eq, wO_gitI, wO_getI, ownDci_own, wO_putI, dcfS_v, itKi_eq, lenSetTF_eq, wO_parG, kLk_v, kLk_f, q6]
        refine ⟨by omega, ?_⟩
        refine wO_rng (fun k e => k ≤ n2 ∧ ∃ s6 s8 : Option Sl, e = [some (.val (.scr ns)), some (.own false tp), some (.val (.int (t2 : Nat))), some (.val (.lst (P.map encI))), some (.val (.int (n2 : Nat))), some (.val (.int (partG t2 n2 k))), s6, some (.val (.int (most : Nat))), s8, none]) n2 (by omega) ⟨Nat.zero_le _, _, _, rfl⟩ ?_ ?_
        · rintro k e hk ⟨_, s6, s8, rfl⟩
          have q8 : (1 : Int) + (k : Int) = ((k + 1 : Nat) : Int) := by omega
          have hg : Nat.gcd n2 (k + 1) ≤ 40 := Nat.le_trans (Nat.gcd_le_left _ (by omega)) hn2.2
          simp! [dMulW_int, dDivW_int, divmodO_int, mkI0_eq, dciD_i, dciD_f, dciOf_eq, wO_gitI, wO_getI, ownDci_own, wO_putI, dcfS_v, itKi_eq, lenSetTF_eq, wO_parG, kLk_v, kLk_f, q8]
          refine wO_mono divisor_ok ?_
          rintro r rfl
          simp! [dMulW_int, dDivW_int, divmodO_int, mkI0_eq, dciD_i, dciD_f, dciOf_eq, wO_gitI, wO_getI, ownDci_own, wO_putI, dcfS_v, itKi_eq, lenSetTF_eq, wO_parG, kLk_v, kLk_f, q7]
          refine wO_mono (lpower_ok big2 hg) ?_
          rintro r rfl
          simp! [dMulW_int, dDivW_int, divmodO_int, mkI0_eq, dciD_i, dciD_f, dciOf_eq, wO_gitI, wO_getI, ownDci_own, wO_putI, dcfS_v, itKi_eq, lenSetTF_eq, wO_parG, kLk_v, kLk_f]
          refine wO_mono (lpower_ok (by omega) hg) ?_
          rintro r rfl
          simp! [dMulW_int, dDivW_int, divmodO_int, mkI0_eq, dciD_i, dciD_f, dciOf_eq, wO_gitI, wO_getI, ownDci_own, wO_putI, dcfS_v, itKi_eq, lenSetTF_eq, wO_parG, kLk_v, kLk_f]
          have e9 : partG t2 n2 k + (((t2 + 1) ^ Nat.gcd n2 (k + 1) : Nat) : Int) - ((t2 ^ Nat.gcd n2 (k + 1) : Nat) : Int) = partG t2 n2 (k + 1) := by
            rw [partG_succ]
            unfold cnt
            rw [← Int.add_sub_assoc]
          rw [e9]
          exact ⟨by omega, _, _, rfl⟩
        · rintro e ⟨_, s6, s8, rfl⟩
          simp! [dMulW_int, dDivW_int, divmodO_int, mkI0_eq, dciD_i, dciD_f, dciOf_eq, wO_gitI, wO_getI, ownDci_own, wO_putI, dcfS_v, itKi_eq, lenSetTF_eq, wO_parG, kLk_v, kLk_f, q7]
          refine wO_mono (plain_ok big2 (by omega)) ?_
          rintro r rfl
          simp! [dMulW_int, dDivW_int, divmodO_int, mkI0_eq, dciD_i, dciD_f, dciOf_eq, wO_gitI, wO_getI, ownDci_own, wO_putI, dcfS_v, itKi_eq, lenSetTF_eq, wO_parG, kLk_v, kLk_f]
          refine wO_mono (lpower_ok big2 (by omega)) ?_
          rintro r rfl
          simp! [dMulW_int, dDivW_int, divmodO_int, mkI0_eq, dciD_i, dciD_f, dciOf_eq, wO_gitI, wO_getI, ownDci_own, wO_putI, dcfS_v, itKi_eq, lenSetTF_eq, wO_parG, kLk_v, kLk_f]
          refine wO_mono (lpower_ok (by omega) (by omega)) ?_
          rintro r rfl
          simp! [dMulW_int, dDivW_int, divmodO_int, mkI0_eq, dciD_i, dciD_f, dciOf_eq, wO_gitI, wO_getI, ownDci_own, wO_putI, dcfS_v, itKi_eq, lenSetTF_eq, wO_parG, kLk_v, kLk_f]
          refine wO_mono is_ok ?_
          rintro r rfl
          have e5 : cnt t2 n2 = (((t2 + 1) ^ n2 : Nat) : Int) - ((t2 ^ n2 : Nat) : Int) := rfl
          simp! [dMulW_int, dDivW_int, divmodO_int, mkI0_eq, dciD_i, dciD_f, dciOf_eq, wO_gitI, wO_getI, ownDci_own, wO_putI, dcfS_v, itKi_eq, lenSetTF_eq, wO_parG, kLk_v, kLk_f, decide_eq_true e5]
          refine wO_mono (unlike_ok big2 (by omega) (by omega)) ?_
          rintro r rfl
          have e6 : unlikeV t2 n2 = partG t2 n2 n2 / (n2 : Int) := by rw [partG_all]; rfl
          have e7 : partG t2 n2 n2 / (n2 : Int) * (n2 : Int) = partG t2 n2 n2 := by
            rw [partG_all]
            exact Int.ediv_mul_cancel (Int.dvd_of_emod_eq_zero (div_G (by omega) (by omega)))
          have hm3 : mulC (partG t2 n2 n2 / (n2 : Int)) (n2 : Int) = true := mulC_r (by omega) (by omega)
          simp! [dMulW_int, dDivW_int, divmodO_int, mkI0_eq, dciD_i, dciD_f, dciOf_eq, wO_gitI, wO_getI, ownDci_own, wO_putI, dcfS_v, itKi_eq, lenSetTF_eq, wO_parG, kLk_v, kLk_f]
          refine ⟨by omega, ?_⟩
          refine wO_mono is_ok ?_
          rintro r rfl
          simp! [dMulW_int, dDivW_int, divmodO_int, mkI0_eq, dciD_i, dciD_f, dciOf_eq, wO_gitI, wO_getI, ownDci_own, wO_putI, dcfS_v, itKi_eq, lenSetTF_eq, wO_parG, kLk_v, kLk_f, decide_eq_true e6, hm3, e7]
          exact ⟨by omega, rfl⟩
end K13

set_option Elab.async false
set_option linter.all false
set_option maxRecDepth 100000
set_option maxHeartbeats 8000000
namespace K13
open DL PySem PySem.Spec PyProof.Rows L2

/-- the law's promise: True -/
def spLaw (K : PySem.W.Frag) : Sp := fun vs H Q _ => ∃ (a : Addr) (ns : List Int), vs = [.ref a] ∧ SqZ K H a (ns.map V.int) ∧ ∀ H', Q (.bl true) H'
theorem exm_of {K : PySem.W.Frag} {C S : Addr} {b : Bool} (h1 : PySem.W.subIn K (.ref S) (.type "BaseException") = some true) (h2 : PySem.W.isClsIn K S = true) (h3 : PySem.W.typeIn K (.ref S) = some (.type "type")) (h4 : PySem.W.subIn K (.ref C) (.ref S) = some b) : PySem.W.exmOne K (.ref C) (.ref S) = some b := by
  have e1 : (PySem.W.subIn K (.ref S) (.type "BaseException") == some true) = true := by rw [h1] <;> rfl
  have e2 : ((PySem.W.clsIn K S).isSome && PySem.W.typeIn K (.ref S) == some (.type "type")) = true := by
    have h2' : (PySem.W.clsIn K S).isSome = true := h2
    rw [h2', h3]; rfl
  unfold PySem.W.exmOne PySem.W.kitCls
  rw [if_pos e1]
  exact (if_pos e2).trans h4
theorem kit_of {K : PySem.W.Frag} {C S : Addr} {b : Bool} (h0 : PySem.W.subIn K (.ref C) (.ref C) = some true) (h2 : PySem.W.isClsIn K S = true) (h3 : PySem.W.typeIn K (.ref S) = some (.type "type")) (h4 : PySem.W.subIn K (.ref C) (.ref S) = some b) : PySem.W.kitOne K (.ref C) (.ref S) = some b := by
  have e2 : ((PySem.W.clsIn K S).isSome && PySem.W.typeIn K (.ref S) == some (.type "type")) = true := by
    have h2' : (PySem.W.clsIn K S).isSome = true := h2
    rw [h2', h3]; rfl
  unfold PySem.W.kitOne
  by_cases c : (Value.ref C == Value.ref S) = true
  · rw [if_pos c]
    have e := eq_of_beq c
    rw [← e, h0] at h4
    exact h4
  · rw [if_neg c]
    unfold PySem.W.kitCls
    exact (if_pos e2).trans h4
theorem kit_ve {K : PySem.W.Frag} {C : Addr} (h : PySem.W.subIn K (.ref C) (.type "ValueError") = some true) : PySem.W.kitOne K (.ref C) (.type "ValueError") = some true := by
  unfold PySem.W.kitOne
  by_cases c : (Value.ref C == Value.type "ValueError") = true
  · rw [if_pos c]
  · rw [if_neg c]
    unfold PySem.W.kitCls
    exact (if_pos (by decide +kernel)).trans h
theorem fn_ok {fn : Fn} {ds : List DL.D} {r : FR} (h : wO (fn ds) fun x => x = r) : fn ds = some r := by
  obtain ⟨x, e, rfl⟩ := h
  exact e

theorem all_mk {P : Program} {w : World} {K : PySem.W.Frag} {h : Heap} {mg : Str → Option Value} {fa : Addr} (X : K.In h) (G : h.Ns mainGlobals mg) (hfa : mg "law" = some (.ref fa))
    {f_power : Addr} {oc_power kV_power dc_power pm_power cd_power ct_power : Value} {od_power an_power : Option Addr} {sl_power : Array (Option Value)}
    {f_count_of_heights : Addr} {oc_count_of_heights kV_count_of_heights dc_count_of_heights pm_count_of_heights cd_count_of_heights ct_count_of_heights : Value} {od_count_of_heights an_count_of_heights : Option Addr} {sl_count_of_heights : Array (Option Value)}
    {f_divisors : Addr} {oc_divisors kV_divisors dc_divisors pm_divisors cd_divisors ct_divisors : Value} {od_divisors an_divisors : Option Addr} {sl_divisors : Array (Option Value)}
    {f_totients_of_divisors : Addr} {oc_totients_of_divisors kV_totients_of_divisors dc_totients_of_divisors pm_totients_of_divisors cd_totients_of_divisors ct_totients_of_divisors : Value} {od_totients_of_divisors an_totients_of_divisors : Option Addr} {sl_totients_of_divisors : Array (Option Value)}
    {f_unlike_count : Addr} {oc_unlike_count kV_unlike_count dc_unlike_count pm_unlike_count cd_unlike_count ct_unlike_count : Value} {od_unlike_count an_unlike_count : Option Addr} {sl_unlike_count : Array (Option Value)}
    {f_plain_count : Addr} {oc_plain_count kV_plain_count dc_plain_count pm_plain_count cd_plain_count ct_plain_count : Value} {od_plain_count an_plain_count : Option Addr} {sl_plain_count : Array (Option Value)}
    {f_ltape : Addr} {oc_ltape kV_ltape dc_ltape pm_ltape cd_ltape ct_ltape : Value} {od_ltape an_ltape : Option Addr} {sl_ltape : Array (Option Value)}
    {f_ltake : Addr} {oc_ltake kV_ltake dc_ltake pm_ltake cd_ltake ct_ltake : Value} {od_ltake an_ltake : Option Addr} {sl_ltake : Array (Option Value)}
    {f_lis_plain : Addr} {oc_lis_plain kV_lis_plain dc_lis_plain pm_lis_plain cd_lis_plain ct_lis_plain : Value} {od_lis_plain an_lis_plain : Option Addr} {sl_lis_plain : Array (Option Value)}
    {f_lpower : Addr} {oc_lpower kV_lpower dc_lpower pm_lpower cd_lpower ct_lpower : Value} {od_lpower an_lpower : Option Addr} {sl_lpower : Array (Option Value)}
    {f_lall : Addr} {oc_lall kV_lall dc_lall pm_lall cd_lall ct_lall : Value} {od_lall an_lall : Option Addr} {sl_lall : Array (Option Value)}
    {f_lleast : Addr} {oc_lleast kV_lleast dc_lleast pm_lleast cd_lleast ct_lleast : Value} {od_lleast an_lleast : Option Addr} {sl_lleast : Array (Option Value)}
    {f_ldivisor : Addr} {oc_ldivisor kV_ldivisor dc_ldivisor pm_ldivisor cd_ldivisor ct_ldivisor : Value} {od_ldivisor an_ldivisor : Option Addr} {sl_ldivisor : Array (Option Value)}
    {f_lis : Addr} {oc_lis kV_lis dc_lis pm_lis cd_lis ct_lis : Value} {od_lis an_lis : Option Addr} {sl_lis : Array (Option Value)}
    {f_law : Addr} {oc_law kV_law dc_law pm_law cd_law ct_law : Value} {od_law an_law : Option Addr} {sl_law : Array (Option Value)}
    (h_a_power : PySem.W.nsIn K mainGlobals "power" = some (some (.ref f_power)))
    (h_l_power : K.lookup f_power = some ⟨oc_power, od_power, .func (PySem.W.fnOf "power" "power" (defArgs st_power) (defBody st_power) (defScope st_power) .none kV_power dc_power pm_power an_power cd_power ct_power), sl_power⟩)
    (h_c_power : PySem.W.codeIn K cd_power "power" = true)
    (h_k_power : PySem.W.keepIn K (.ref f_power) = true)
    (h_a_count_of_heights : PySem.W.nsIn K mainGlobals "count_of_heights" = some (some (.ref f_count_of_heights)))
    (h_l_count_of_heights : K.lookup f_count_of_heights = some ⟨oc_count_of_heights, od_count_of_heights, .func (PySem.W.fnOf "count_of_heights" "count_of_heights" (defArgs st_count_of_heights) (defBody st_count_of_heights) (defScope st_count_of_heights) .none kV_count_of_heights dc_count_of_heights pm_count_of_heights an_count_of_heights cd_count_of_heights ct_count_of_heights), sl_count_of_heights⟩)
    (h_c_count_of_heights : PySem.W.codeIn K cd_count_of_heights "count_of_heights" = true)
    (h_k_count_of_heights : PySem.W.keepIn K (.ref f_count_of_heights) = true)
    (h_a_divisors : PySem.W.nsIn K mainGlobals "divisors" = some (some (.ref f_divisors)))
    (h_l_divisors : K.lookup f_divisors = some ⟨oc_divisors, od_divisors, .func (PySem.W.fnOf "divisors" "divisors" (defArgs st_divisors) (defBody st_divisors) (defScope st_divisors) .none kV_divisors dc_divisors pm_divisors an_divisors cd_divisors ct_divisors), sl_divisors⟩)
    (h_c_divisors : PySem.W.codeIn K cd_divisors "divisors" = true)
    (h_k_divisors : PySem.W.keepIn K (.ref f_divisors) = true)
    (h_a_totients_of_divisors : PySem.W.nsIn K mainGlobals "totients_of_divisors" = some (some (.ref f_totients_of_divisors)))
    (h_l_totients_of_divisors : K.lookup f_totients_of_divisors = some ⟨oc_totients_of_divisors, od_totients_of_divisors, .func (PySem.W.fnOf "totients_of_divisors" "totients_of_divisors" (defArgs st_totients_of_divisors) (defBody st_totients_of_divisors) (defScope st_totients_of_divisors) .none kV_totients_of_divisors dc_totients_of_divisors pm_totients_of_divisors an_totients_of_divisors cd_totients_of_divisors ct_totients_of_divisors), sl_totients_of_divisors⟩)
    (h_c_totients_of_divisors : PySem.W.codeIn K cd_totients_of_divisors "totients_of_divisors" = true)
    (h_k_totients_of_divisors : PySem.W.keepIn K (.ref f_totients_of_divisors) = true)
    (h_a_unlike_count : PySem.W.nsIn K mainGlobals "unlike_count" = some (some (.ref f_unlike_count)))
    (h_l_unlike_count : K.lookup f_unlike_count = some ⟨oc_unlike_count, od_unlike_count, .func (PySem.W.fnOf "unlike_count" "unlike_count" (defArgs st_unlike_count) (defBody st_unlike_count) (defScope st_unlike_count) .none kV_unlike_count dc_unlike_count pm_unlike_count an_unlike_count cd_unlike_count ct_unlike_count), sl_unlike_count⟩)
    (h_c_unlike_count : PySem.W.codeIn K cd_unlike_count "unlike_count" = true)
    (h_k_unlike_count : PySem.W.keepIn K (.ref f_unlike_count) = true)
    (h_a_plain_count : PySem.W.nsIn K mainGlobals "plain_count" = some (some (.ref f_plain_count)))
    (h_l_plain_count : K.lookup f_plain_count = some ⟨oc_plain_count, od_plain_count, .func (PySem.W.fnOf "plain_count" "plain_count" (defArgs st_plain_count) (defBody st_plain_count) (defScope st_plain_count) .none kV_plain_count dc_plain_count pm_plain_count an_plain_count cd_plain_count ct_plain_count), sl_plain_count⟩)
    (h_c_plain_count : PySem.W.codeIn K cd_plain_count "plain_count" = true)
    (h_k_plain_count : PySem.W.keepIn K (.ref f_plain_count) = true)
    (h_a_ltape : PySem.W.nsIn K mainGlobals "_law_tape" = some (some (.ref f_ltape)))
    (h_l_ltape : K.lookup f_ltape = some ⟨oc_ltape, od_ltape, .func (PySem.W.fnOf "_law_tape" "_law_tape" (defArgs st_ltape) (defBody st_ltape) (defScope st_ltape) .none kV_ltape dc_ltape pm_ltape an_ltape cd_ltape ct_ltape), sl_ltape⟩)
    (h_c_ltape : PySem.W.codeIn K cd_ltape "_law_tape" = true)
    (h_k_ltape : PySem.W.keepIn K (.ref f_ltape) = true)
    (h_a_ltake : PySem.W.nsIn K mainGlobals "_law_take" = some (some (.ref f_ltake)))
    (h_l_ltake : K.lookup f_ltake = some ⟨oc_ltake, od_ltake, .func (PySem.W.fnOf "_law_take" "_law_take" (defArgs st_ltake) (defBody st_ltake) (defScope st_ltake) .none kV_ltake dc_ltake pm_ltake an_ltake cd_ltake ct_ltake), sl_ltake⟩)
    (h_c_ltake : PySem.W.codeIn K cd_ltake "_law_take" = true)
    (h_k_ltake : PySem.W.keepIn K (.ref f_ltake) = true)
    (h_a_lis_plain : PySem.W.nsIn K mainGlobals "_law_is_plain" = some (some (.ref f_lis_plain)))
    (h_l_lis_plain : K.lookup f_lis_plain = some ⟨oc_lis_plain, od_lis_plain, .func (PySem.W.fnOf "_law_is_plain" "_law_is_plain" (defArgs st_lis_plain) (defBody st_lis_plain) (defScope st_lis_plain) .none kV_lis_plain dc_lis_plain pm_lis_plain an_lis_plain cd_lis_plain ct_lis_plain), sl_lis_plain⟩)
    (h_c_lis_plain : PySem.W.codeIn K cd_lis_plain "_law_is_plain" = true)
    (h_k_lis_plain : PySem.W.keepIn K (.ref f_lis_plain) = true)
    (h_a_lpower : PySem.W.nsIn K mainGlobals "_law_power" = some (some (.ref f_lpower)))
    (h_l_lpower : K.lookup f_lpower = some ⟨oc_lpower, od_lpower, .func (PySem.W.fnOf "_law_power" "_law_power" (defArgs st_lpower) (defBody st_lpower) (defScope st_lpower) .none kV_lpower dc_lpower pm_lpower an_lpower cd_lpower ct_lpower), sl_lpower⟩)
    (h_c_lpower : PySem.W.codeIn K cd_lpower "_law_power" = true)
    (h_k_lpower : PySem.W.keepIn K (.ref f_lpower) = true)
    (h_a_lall : PySem.W.nsIn K mainGlobals "_law_all" = some (some (.ref f_lall)))
    (h_l_lall : K.lookup f_lall = some ⟨oc_lall, od_lall, .func (PySem.W.fnOf "_law_all" "_law_all" (defArgs st_lall) (defBody st_lall) (defScope st_lall) .none kV_lall dc_lall pm_lall an_lall cd_lall ct_lall), sl_lall⟩)
    (h_c_lall : PySem.W.codeIn K cd_lall "_law_all" = true)
    (h_k_lall : PySem.W.keepIn K (.ref f_lall) = true)
    (h_a_lleast : PySem.W.nsIn K mainGlobals "_law_least" = some (some (.ref f_lleast)))
    (h_l_lleast : K.lookup f_lleast = some ⟨oc_lleast, od_lleast, .func (PySem.W.fnOf "_law_least" "_law_least" (defArgs st_lleast) (defBody st_lleast) (defScope st_lleast) .none kV_lleast dc_lleast pm_lleast an_lleast cd_lleast ct_lleast), sl_lleast⟩)
    (h_c_lleast : PySem.W.codeIn K cd_lleast "_law_least" = true)
    (h_k_lleast : PySem.W.keepIn K (.ref f_lleast) = true)
    (h_a_ldivisor : PySem.W.nsIn K mainGlobals "_law_divisor" = some (some (.ref f_ldivisor)))
    (h_l_ldivisor : K.lookup f_ldivisor = some ⟨oc_ldivisor, od_ldivisor, .func (PySem.W.fnOf "_law_divisor" "_law_divisor" (defArgs st_ldivisor) (defBody st_ldivisor) (defScope st_ldivisor) .none kV_ldivisor dc_ldivisor pm_ldivisor an_ldivisor cd_ldivisor ct_ldivisor), sl_ldivisor⟩)
    (h_c_ldivisor : PySem.W.codeIn K cd_ldivisor "_law_divisor" = true)
    (h_k_ldivisor : PySem.W.keepIn K (.ref f_ldivisor) = true)
    (h_a_lis : PySem.W.nsIn K mainGlobals "_law_is" = some (some (.ref f_lis)))
    (h_l_lis : K.lookup f_lis = some ⟨oc_lis, od_lis, .func (PySem.W.fnOf "_law_is" "_law_is" (defArgs st_lis) (defBody st_lis) (defScope st_lis) .none kV_lis dc_lis pm_lis an_lis cd_lis ct_lis), sl_lis⟩)
    (h_c_lis : PySem.W.codeIn K cd_lis "_law_is" = true)
    (h_k_lis : PySem.W.keepIn K (.ref f_lis) = true)
    (h_a_law : PySem.W.nsIn K mainGlobals "law" = some (some (.ref f_law)))
    (h_l_law : K.lookup f_law = some ⟨oc_law, od_law, .func (PySem.W.fnOf "law" "law" (defArgs st_law) (defBody st_law) (defScope st_law) .none kV_law dc_law pm_law an_law cd_law ct_law), sl_law⟩)
    (h_c_law : PySem.W.codeIn K cd_law "law" = true)
    (h_k_law : PySem.W.keepIn K (.ref f_law) = true)
    (h_z_len : PySem.W.nsIn K mainGlobals "len" = some none)
    (h_z_int : PySem.W.nsIn K mainGlobals "int" = some none)
    (h_z_abs : PySem.W.nsIn K mainGlobals "abs" = some none)
    (h_z_sum : PySem.W.nsIn K mainGlobals "sum" = some none)
    (h_z_max : PySem.W.nsIn K mainGlobals "max" = some none)
    (h_z_min : PySem.W.nsIn K mainGlobals "min" = some none)
    (h_z_tuple : PySem.W.nsIn K mainGlobals "tuple" = some none)
    (h_z_list : PySem.W.nsIn K mainGlobals "list" = some none)
    (h_z_sorted : PySem.W.nsIn K mainGlobals "sorted" = some none)
    (h_z_isinstance : PySem.W.nsIn K mainGlobals "isinstance" = some none)
    (h_z_bool : PySem.W.nsIn K mainGlobals "bool" = some none)
    (h_z_str : PySem.W.nsIn K mainGlobals "str" = some none)
    (h_z_range : PySem.W.nsIn K mainGlobals "range" = some none)
    (h_z_enumerate : PySem.W.nsIn K mainGlobals "enumerate" = some none)
    (h_z_reversed : PySem.W.nsIn K mainGlobals "reversed" = some none)
    (h_z_any : PySem.W.nsIn K mainGlobals "any" = some none)
    (h_z_ValueError : PySem.W.nsIn K mainGlobals "ValueError" = some none)
    (h_z_set : PySem.W.nsIn K mainGlobals "set" = some none)
    (h_z_divmod : PySem.W.nsIn K mainGlobals "divmod" = some none)
    (h_z_zip : PySem.W.nsIn K mainGlobals "zip" = some none)
    (h_z_super : PySem.W.nsIn K mainGlobals "super" = some none)
    (h_hn : PySem.W.specialIn K (.builtin "object.__class__") "__get__" = some (some (.builtin "getset_descriptor.__get__")))
    (h_ht : PySem.W.takesIn K (.builtin "object.__class__") = some true) :
    ∃ fd : FuncData, (∀ (s : Shared) (v : Value), BindsTo s fd ⟨[v], []⟩ [("script", v)]) ∧ ∀ base : Heap, K.In base → base.Ns mainGlobals mg → FnOk P w K mg base (L2N.CX P w) 4 fa fd ["script"] (spLaw K) := by
  have e := hfa.symm.trans (PySem.W.mg_of X G h_a_law)
  cases e
  have bl : Blt mg := ⟨PySem.W.mg_none_of X G h_z_len, PySem.W.mg_none_of X G h_z_int, PySem.W.mg_none_of X G h_z_abs, PySem.W.mg_none_of X G h_z_sum, PySem.W.mg_none_of X G h_z_max, PySem.W.mg_none_of X G h_z_min, PySem.W.mg_none_of X G h_z_tuple, PySem.W.mg_none_of X G h_z_list, PySem.W.mg_none_of X G h_z_sorted, PySem.W.mg_none_of X G h_z_isinstance, PySem.W.mg_none_of X G h_z_bool, PySem.W.mg_none_of X G h_z_str, PySem.W.mg_none_of X G h_z_range, PySem.W.mg_none_of X G h_z_enumerate, PySem.W.mg_none_of X G h_z_reversed, PySem.W.mg_none_of X G h_z_any, PySem.W.mg_none_of X G h_z_ValueError, PySem.W.mg_none_of X G h_z_set, PySem.W.mg_none_of X G h_z_divmod, PySem.W.mg_none_of X G h_z_zip⟩
  have cases6 : ∀ {p : Nat → Prop}, p 0 → p 1 → p 2 → p 3 → p 4 → (∀ k, p (k + 5)) → ∀ k, p k := fun p0 p1 p2 p3 p4 p5 k => match k with | 0 => p0 | 1 => p1 | 2 => p2 | 3 => p3 | 4 => p4 | k + 5 => p5 k
  have t := True.intro
  have ex : Exx P K mg (fun _ => f_ltape) := ⟨t⟩
  have F_power := fun_mk (st := st_power) h_l_power h_c_power h_k_power
  have b_power := F_power.binds (ps := ps_power) fun _ _ _ _ _ _ us hl => match us, hl with | [_, _], _ => rfl
  have C_power : Cal K mg "power" f_power _ ps_power := ⟨PySem.W.mg_of X G h_a_power, h_k_power, b_power⟩
  have F_count_of_heights := fun_mk (st := st_count_of_heights) h_l_count_of_heights h_c_count_of_heights h_k_count_of_heights
  have b_count_of_heights := F_count_of_heights.binds (ps := ps_count_of_heights) fun _ _ _ _ _ _ us hl => match us, hl with | [_, _], _ => rfl
  have C_count_of_heights : Cal K mg "count_of_heights" f_count_of_heights _ ps_count_of_heights := ⟨PySem.W.mg_of X G h_a_count_of_heights, h_k_count_of_heights, b_count_of_heights⟩
  have F_divisors := fun_mk (st := st_divisors) h_l_divisors h_c_divisors h_k_divisors
  have b_divisors := F_divisors.binds (ps := ps_divisors) fun _ _ _ _ _ _ us hl => match us, hl with | [_], _ => rfl
  have C_divisors : Cal K mg "divisors" f_divisors _ ps_divisors := ⟨PySem.W.mg_of X G h_a_divisors, h_k_divisors, b_divisors⟩
  have F_totients_of_divisors := fun_mk (st := st_totients_of_divisors) h_l_totients_of_divisors h_c_totients_of_divisors h_k_totients_of_divisors
  have b_totients_of_divisors := F_totients_of_divisors.binds (ps := ps_totients_of_divisors) fun _ _ _ _ _ _ us hl => match us, hl with | [_], _ => rfl
  have C_totients_of_divisors : Cal K mg "totients_of_divisors" f_totients_of_divisors _ ps_totients_of_divisors := ⟨PySem.W.mg_of X G h_a_totients_of_divisors, h_k_totients_of_divisors, b_totients_of_divisors⟩
  have F_unlike_count := fun_mk (st := st_unlike_count) h_l_unlike_count h_c_unlike_count h_k_unlike_count
  have b_unlike_count := F_unlike_count.binds (ps := ps_unlike_count) fun _ _ _ _ _ _ us hl => match us, hl with | [_, _], _ => rfl
  have C_unlike_count : Cal K mg "unlike_count" f_unlike_count _ ps_unlike_count := ⟨PySem.W.mg_of X G h_a_unlike_count, h_k_unlike_count, b_unlike_count⟩
  have F_plain_count := fun_mk (st := st_plain_count) h_l_plain_count h_c_plain_count h_k_plain_count
  have b_plain_count := F_plain_count.binds (ps := ps_plain_count) fun _ _ _ _ _ _ us hl => match us, hl with | [_, _], _ => rfl
  have C_plain_count : Cal K mg "plain_count" f_plain_count _ ps_plain_count := ⟨PySem.W.mg_of X G h_a_plain_count, h_k_plain_count, b_plain_count⟩
  have F_ltape := fun_mk (st := st_ltape) h_l_ltape h_c_ltape h_k_ltape
  have b_ltape := F_ltape.binds (ps := ps_ltape) fun _ _ _ _ _ _ us hl => match us, hl with | [_, _], _ => rfl
  have C_ltape : Cal K mg "_law_tape" f_ltape _ ps_ltape := ⟨PySem.W.mg_of X G h_a_ltape, h_k_ltape, b_ltape⟩
  have F_ltake := fun_mk (st := st_ltake) h_l_ltake h_c_ltake h_k_ltake
  have b_ltake := F_ltake.binds (ps := ps_ltake) fun _ _ _ _ _ _ us hl => match us, hl with | [_, _], _ => rfl
  have C_ltake : Cal K mg "_law_take" f_ltake _ ps_ltake := ⟨PySem.W.mg_of X G h_a_ltake, h_k_ltake, b_ltake⟩
  have F_lis_plain := fun_mk (st := st_lis_plain) h_l_lis_plain h_c_lis_plain h_k_lis_plain
  have b_lis_plain := F_lis_plain.binds (ps := ps_lis_plain) fun _ _ _ _ _ _ us hl => match us, hl with | [_], _ => rfl
  have C_lis_plain : Cal K mg "_law_is_plain" f_lis_plain _ ps_lis_plain := ⟨PySem.W.mg_of X G h_a_lis_plain, h_k_lis_plain, b_lis_plain⟩
  have F_lpower := fun_mk (st := st_lpower) h_l_lpower h_c_lpower h_k_lpower
  have b_lpower := F_lpower.binds (ps := ps_lpower) fun _ _ _ _ _ _ us hl => match us, hl with | [_, _], _ => rfl
  have C_lpower : Cal K mg "_law_power" f_lpower _ ps_lpower := ⟨PySem.W.mg_of X G h_a_lpower, h_k_lpower, b_lpower⟩
  have F_lall := fun_mk (st := st_lall) h_l_lall h_c_lall h_k_lall
  have b_lall := F_lall.binds (ps := ps_lall) fun _ _ _ _ _ _ us hl => match us, hl with | [_, _], _ => rfl
  have C_lall : Cal K mg "_law_all" f_lall _ ps_lall := ⟨PySem.W.mg_of X G h_a_lall, h_k_lall, b_lall⟩
  have F_lleast := fun_mk (st := st_lleast) h_l_lleast h_c_lleast h_k_lleast
  have b_lleast := F_lleast.binds (ps := ps_lleast) fun _ _ _ _ _ _ us hl => match us, hl with | [_], _ => rfl
  have C_lleast : Cal K mg "_law_least" f_lleast _ ps_lleast := ⟨PySem.W.mg_of X G h_a_lleast, h_k_lleast, b_lleast⟩
  have F_ldivisor := fun_mk (st := st_ldivisor) h_l_ldivisor h_c_ldivisor h_k_ldivisor
  have b_ldivisor := F_ldivisor.binds (ps := ps_ldivisor) fun _ _ _ _ _ _ us hl => match us, hl with | [_, _], _ => rfl
  have C_ldivisor : Cal K mg "_law_divisor" f_ldivisor _ ps_ldivisor := ⟨PySem.W.mg_of X G h_a_ldivisor, h_k_ldivisor, b_ldivisor⟩
  have F_lis := fun_mk (st := st_lis) h_l_lis h_c_lis h_k_lis
  have b_lis := F_lis.binds (ps := ps_lis) fun _ _ _ _ _ _ us hl => match us, hl with | [_, _], _ => rfl
  have C_lis : Cal K mg "_law_is" f_lis _ ps_lis := ⟨PySem.W.mg_of X G h_a_lis, h_k_lis, b_lis⟩
  have F_law := fun_mk (st := st_law) h_l_law h_c_law h_k_law
  refine ⟨PySem.W.fnOf "law" "law" (defArgs st_law) (defBody st_law) (defScope st_law) .none kV_law dc_law pm_law an_law cd_law ct_law, fun s v => .of_eq rfl, fun base _ _ => ?_⟩
  have G_power := ok_power (P := P) (w := w) (base := base) (k := 0)  bl ex   F_power
  have G_count_of_heights := ok_count_of_heights (P := P) (w := w) (base := base) (k := 1) _ bl ex C_power (G_power.mono (by omega)) F_count_of_heights
  have G_divisors := ok_divisors (P := P) (w := w) (base := base) (k := 0)  bl ex   F_divisors
  have G_totients_of_divisors := ok_totients_of_divisors (P := P) (w := w) (base := base) (k := 1) _ bl ex C_divisors (G_divisors.mono (by omega)) F_totients_of_divisors
  have G_unlike_count := ok_unlike_count (P := P) (w := w) (base := base) (k := 2) _ _ bl ex C_count_of_heights C_totients_of_divisors (G_count_of_heights.mono (by omega)) (G_totients_of_divisors.mono (by omega)) F_unlike_count
  have G_plain_count := ok_plain_count (P := P) (w := w) (base := base) (k := 2) _ bl ex C_count_of_heights (G_count_of_heights.mono (by omega)) F_plain_count
  have G_ltape := ok_ltape (P := P) (w := w) (base := base) (k := 0)  bl ex   F_ltape
  have G_ltake := ok_ltake (P := P) (w := w) (base := base) (k := 0)  bl ex   F_ltake
  have G_lis_plain := ok_lis_plain (P := P) (w := w) (base := base) (k := 0)  bl ex   F_lis_plain
  have G_lpower := ok_lpower (P := P) (w := w) (base := base) (k := 0)  bl ex   F_lpower
  have G_lall := ok_lall (P := P) (w := w) (base := base) (k := 0)  bl ex   F_lall
  have G_lleast := ok_lleast (P := P) (w := w) (base := base) (k := 0)  bl ex   F_lleast
  have G_ldivisor := ok_ldivisor (P := P) (w := w) (base := base) (k := 0)  bl ex   F_ldivisor
  have G_lis := ok_lis (P := P) (w := w) (base := base) (k := 0)  bl ex   F_lis
  have G_law := ok_law (P := P) (w := w) (base := base) (k := 3) _ _ _ _ _ _ _ _ _ _ bl ex C_lall C_ldivisor C_lis C_lis_plain C_lleast C_lpower C_ltake C_ltape C_plain_count C_unlike_count (G_lall.mono (by omega)) (G_ldivisor.mono (by omega)) (G_lis.mono (by omega)) (G_lis_plain.mono (by omega)) (G_lleast.mono (by omega)) (G_lpower.mono (by omega)) (G_ltake.mono (by omega)) (G_ltape.mono (by omega)) (G_plain_count.mono (by omega)) (G_unlike_count.mono (by omega)) F_law
  refine G_law.imp fun vs H Q E ⟨a, ns, e, hS, q⟩ => ?_
  subst e
  refine ⟨fun _ => False, [.scr ns], rfl, fun _ z => z.elim, ⟨.ref a, [], rfl, ⟨a, rfl, hS⟩, rfl⟩, ?_⟩
  have e1 := fn_ok (law_ok ns)
  show PendC K _ _ H false _ Q E (fLaw [.scr ns])
  rw [e1]
  intro v H' _ rc
  have hv : v = .bl true := rc.2
  rw [hv]
  exact q H'
theorem walk {l : PySem.W.OpenLaw} {q : Program} {loose : List Str} {XP : (Str → Option Value) → Heap → Prop} {YP : World → Heap → Prop} {d : DefRec} {K : Params → PySem.W.Frag} (hn : l.most = some 63) (hdf : d.params.defaults = [])
    (hY : ∀ (w : World) (h : Heap), YP w h → (K w.params).In h)
    (F : ∀ (w : World) (mg : Str → Option Value) (fa : Addr) (h : Heap), (K w.params).In h → h.Ns mainGlobals mg → mg d.name = some (.ref fa) →
      ∃ fd : FuncData, (∀ (s : Shared) (u : Value), BindsTo s fd ⟨[u], []⟩ [("script", u)]) ∧ ∀ base : Heap, (K w.params).In base → base.Ns mainGlobals mg → FnOk l.prog w (K w.params) mg base (L2N.CX l.prog w) 4 fa fd ["script"] (spLaw (K w.params))) :
    PySem.W.WalkO q loose XP YP l.row.toRowW d [] (fun f vs => PySem.call f vs) :=
  L2.walk_of (n := 63) (k := 4) (x := "script") (CX := fun w => L2N.CX l.prog w) (sp := fun w => spLaw (K w.params)) hn (by decide) hdf ⟨rfl, by decide, by decide⟩ hY F (fun w H a ns hl hO hS => ⟨a, ns, rfl, by
    rcases hS with hS | hS
    · rcases hO a with e | ⟨o, xs, e⟩
      · exact (rd_no hS e).elim
      · rcases hS with h1 | ⟨o1, h1⟩
        · rw [e] at h1; cases h1
        · exact .inl ⟨o1, h1⟩
    · exact .inr hS, fun _ => rfl⟩) fun w H s e s' z => by
    obtain ⟨_, _, _, _, _, _, _, _, _, _, _, _, z⟩ := z
    exact z
end K13

open PySem PySem.W PyProof.Rows in
set_option maxRecDepth 100000 in
set_option maxHeartbeats 0 in
theorem PySem.Challenge.cw_throwskept_k13_classes_of_turns_holds : PySem.Challenge.rw_throwskept_k13_classes_of_turns.Holds := by
  w_on; o_law; k_head; (case hw => w_witness2)
  k_fill
  refine K13.walk (l := PySem.Challenge.rw_throwskept_k13_classes_of_turns) rfl rfl (fun w h Y => PySem.W.kIn_of Y) ?F
  case F =>
    intro w mg fa h KX G hmg
    refine' K13.all_mk KX G hmg  ?a_power ?l_power ?c_power ?k_power ?a_count_of_heights ?l_count_of_heights ?c_count_of_heights ?k_count_of_heights ?a_divisors ?l_divisors ?c_divisors ?k_divisors ?a_totients_of_divisors ?l_totients_of_divisors ?c_totients_of_divisors ?k_totients_of_divisors ?a_unlike_count ?l_unlike_count ?c_unlike_count ?k_unlike_count ?a_plain_count ?l_plain_count ?c_plain_count ?k_plain_count ?a_ltape ?l_ltape ?c_ltape ?k_ltape ?a_ltake ?l_ltake ?c_ltake ?k_ltake ?a_lis_plain ?l_lis_plain ?c_lis_plain ?k_lis_plain ?a_lpower ?l_lpower ?c_lpower ?k_lpower ?a_lall ?l_lall ?c_lall ?k_lall ?a_lleast ?l_lleast ?c_lleast ?k_lleast ?a_ldivisor ?l_ldivisor ?c_ldivisor ?k_ldivisor ?a_lis ?l_lis ?c_lis ?k_lis ?a_law ?l_law ?c_law ?k_law ?z_len ?z_int ?z_abs ?z_sum ?z_max ?z_min ?z_tuple ?z_list ?z_sorted ?z_isinstance ?z_bool ?z_str ?z_range ?z_enumerate ?z_reversed ?z_any ?z_ValueError ?z_set ?z_divmod ?z_zip ?z_super ?hn ?ht
    (case a_power => k_is)
    (case l_power => k_is)
    (case c_power => k_is)
    (case k_power => k_is)
    (case a_count_of_heights => k_is)
    (case l_count_of_heights => k_is)
    (case c_count_of_heights => k_is)
    (case k_count_of_heights => k_is)
    (case a_divisors => k_is)
    (case l_divisors => k_is)
    (case c_divisors => k_is)
    (case k_divisors => k_is)
    (case a_totients_of_divisors => k_is)
    (case l_totients_of_divisors => k_is)
    (case c_totients_of_divisors => k_is)
    (case k_totients_of_divisors => k_is)
    (case a_unlike_count => k_is)
    (case l_unlike_count => k_is)
    (case c_unlike_count => k_is)
    (case k_unlike_count => k_is)
    (case a_plain_count => k_is)
    (case l_plain_count => k_is)
    (case c_plain_count => k_is)
    (case k_plain_count => k_is)
    (case a_ltape => k_is)
    (case l_ltape => k_is)
    (case c_ltape => k_is)
    (case k_ltape => k_is)
    (case a_ltake => k_is)
    (case l_ltake => k_is)
    (case c_ltake => k_is)
    (case k_ltake => k_is)
    (case a_lis_plain => k_is)
    (case l_lis_plain => k_is)
    (case c_lis_plain => k_is)
    (case k_lis_plain => k_is)
    (case a_lpower => k_is)
    (case l_lpower => k_is)
    (case c_lpower => k_is)
    (case k_lpower => k_is)
    (case a_lall => k_is)
    (case l_lall => k_is)
    (case c_lall => k_is)
    (case k_lall => k_is)
    (case a_lleast => k_is)
    (case l_lleast => k_is)
    (case c_lleast => k_is)
    (case k_lleast => k_is)
    (case a_ldivisor => k_is)
    (case l_ldivisor => k_is)
    (case c_ldivisor => k_is)
    (case k_ldivisor => k_is)
    (case a_lis => k_is)
    (case l_lis => k_is)
    (case c_lis => k_is)
    (case k_lis => k_is)
    (case a_law => k_is)
    (case l_law => k_is)
    (case c_law => k_is)
    (case k_law => k_is)
    (case z_len => k_is)
    (case z_int => k_is)
    (case z_abs => k_is)
    (case z_sum => k_is)
    (case z_max => k_is)
    (case z_min => k_is)
    (case z_tuple => k_is)
    (case z_list => k_is)
    (case z_sorted => k_is)
    (case z_isinstance => k_is)
    (case z_bool => k_is)
    (case z_str => k_is)
    (case z_range => k_is)
    (case z_enumerate => k_is)
    (case z_reversed => k_is)
    (case z_any => k_is)
    (case z_ValueError => k_is)
    (case z_set => k_is)
    (case z_divmod => k_is)
    (case z_zip => k_is)
    (case z_super => k_is)
    (case hn => k_is)
    (case ht => k_is)


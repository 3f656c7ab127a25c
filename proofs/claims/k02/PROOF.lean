import PyProof.Rows.All
import Wide.All
import OpenK.AllK
import Wide.FinOn
import HandS.ForMost
import HandS.ForExc
import HandS.IsInst
import HandS.Deep
import HandS.TupAny
import HandS.Defaults
import HandS.Wide
import HandS.CallSlots
import HandS.Gcd
import HandS.MakeKw
import HandS.HeadEnd
import PySem.Challenge.RW_headsheard_k02_all_compositions_ascendin
set_option Elab.async false
set_option linter.all false
set_option maxRecDepth 100000
set_option maxHeartbeats 8000000
namespace Z
open PySem PySem.Spec PyProof.Rows L2

/-- plain data -/
inductive D where
  | non | bl (b : Bool) | int (i : Int) | str (s : Str)
  | tup (xs : List D) | lst (xs : List D) | scr (ns : List Int)
  | obj (c : Nat) (fs : List (Str × D)) | mref (k : Nat)
  deriving Inhabited

mutual
inductive R (K : PySem.W.Frag) (cl al : List Addr) (H : Hp) : V → D → Prop
  | non : R K cl al H .non .non
  | bl (b : Bool) : R K cl al H (.bl b) (.bl b)
  | int (i : Int) : R K cl al H (.int i) (.int i)
  | str (x : Str) : R K cl al H (.str x) (.str x)
  | tup {a : Addr} {xs : List V} {ds : List D} : SqT K H a xs → Rs K cl al H xs ds → R K cl al H (.ref a) (.tup ds)
  | lst {a : Addr} {xs : List V} {ds : List D} : H a = some (.lst xs) → Rs K cl al H xs ds → R K cl al H (.ref a) (.lst ds)
  | scr {a : Addr} {ns : List Int} : SqL K H a (ns.map V.int) → R K cl al H (.ref a) (.scr ns)
  | obj {a C dx : Addr} {c : Nat} {fv : List (Str × V)} {fs : List (Str × D)} : H a = some (.ins C dx fv) → cl[c]? = some C → Rf K cl al H fv fs → R K cl al H (.ref a) (.obj c fs)
  | mref {a : Addr} {k : Nat} : al[k]? = some a → R K cl al H (.ref a) (.mref k)
inductive Rs (K : PySem.W.Frag) (cl al : List Addr) (H : Hp) : List V → List D → Prop
  | nil : Rs K cl al H [] []
  | cons {v : V} {vs : List V} {d : D} {ds : List D} : R K cl al H v d → Rs K cl al H vs ds → Rs K cl al H (v :: vs) (d :: ds)
inductive Rf (K : PySem.W.Frag) (cl al : List Addr) (H : Hp) : List (Str × V) → List (Str × D) → Prop
  | nil : Rf K cl al H [] []
  | cons {n : Str} {v : V} {vs : List (Str × V)} {d : D} {ds : List (Str × D)} : R K cl al H v d → Rf K cl al H vs ds → Rf K cl al H ((n, v) :: vs) ((n, d) :: ds)
end
theorem sqT_mono {K : PySem.W.Frag} {H H' : Hp} {a : Addr} {xs : List V} (e : ∀ a o, H a = some o → H' a = some o) (h : SqT K H a xs) : SqT K H' a xs := by
  rcases h with (h | ⟨o, h⟩) | h
  · exact .inl (.inl (e _ _ h))
  · exact .inl (.inr ⟨o, e _ _ h⟩)
  · exact .inr h
theorem sqL_mono {K : PySem.W.Frag} {H H' : Hp} {a : Addr} {xs : List V} (e : ∀ a o, H a = some o → H' a = some o) (h : SqL K H a xs) : SqL K H' a xs := by
  rcases h with (h | ⟨o, h⟩) | h
  · exact .inl (.inl (e _ _ h))
  · exact .inl (.inr ⟨o, e _ _ h⟩)
  · exact .inr h
section
variable {K : PySem.W.Frag} {cl al al' : List Addr} {H H' : Hp}
mutual
theorem R.mono (e : ∀ a o, H a = some o → H' a = some o) (ea : ∀ (k : Nat) (a : Addr), al[k]? = some a → al'[k]? = some a) : ∀ {d : D} {v : V}, R K cl al H v d → R K cl al' H' v d
  | _, _, .non => .non
  | _, _, .bl b => .bl b
  | _, _, .int i => .int i
  | _, _, .str x => .str x
  | _, _, .tup h r => .tup (sqT_mono e h) (Rs.mono e ea r)
  | _, _, .lst h r => .lst (e _ _ h) (Rs.mono e ea r)
  | _, _, .scr h => .scr (sqL_mono e h)
  | _, _, .obj h c r => .obj (e _ _ h) c (Rf.mono e ea r)
  | _, _, .mref h => .mref (ea _ _ h)
theorem Rs.mono (e : ∀ a o, H a = some o → H' a = some o) (ea : ∀ (k : Nat) (a : Addr), al[k]? = some a → al'[k]? = some a) : ∀ {ds : List D} {vs : List V}, Rs K cl al H vs ds → Rs K cl al' H' vs ds
  | _, _, .nil => .nil
  | _, _, .cons r t => .cons (R.mono e ea r) (Rs.mono e ea t)
theorem Rf.mono (e : ∀ a o, H a = some o → H' a = some o) (ea : ∀ (k : Nat) (a : Addr), al[k]? = some a → al'[k]? = some a) : ∀ {ds : List (Str × D)} {vs : List (Str × V)}, Rf K cl al H vs ds → Rf K cl al' H' vs ds
  | _, _, .nil => .nil
  | _, _, .cons r t => .cons (R.mono e ea r) (Rf.mono e ea t)
end
theorem Rs.length : ∀ {ds : List D} {vs : List V}, Rs K cl al H vs ds → vs.length = ds.length
  | _, _, .nil => rfl
  | _, _, .cons _ t => by simp [Rs.length t]
theorem Rs.get : ∀ {ds : List D} {vs : List V} {i : Nat} {d : D}, Rs K cl al H vs ds → ds[i]? = some d → ∃ v, vs[i]? = some v ∧ R K cl al H v d
  | _, _, _, _, .nil, e => by simp at e
  | _, _, 0, _, .cons r _, e => by simp at e; subst e; exact ⟨_, rfl, r⟩
  | _, _, i + 1, _, .cons _ t, e => by
    obtain ⟨v, a, b⟩ := Rs.get (i := i) t (by simpa using e)
    exact ⟨v, by simpa using a, b⟩
theorem Rs.get' {ds : List D} {vs : List V} {i : Nat} {v : V} (r : Rs K cl al H vs ds) (e : vs[i]? = some v) : ∃ d, ds[i]? = some d ∧ R K cl al H v d := by
  have hl := r.length
  have hi : i < ds.length := by rw [← hl]; exact (List.getElem?_eq_some_iff.mp e).1
  obtain ⟨v', a, b⟩ := r.get (List.getElem?_eq_getElem hi)
  rw [e] at a; cases a
  exact ⟨_, List.getElem?_eq_getElem hi, b⟩
theorem Rs.append : ∀ {ds es : List D} {vs us : List V}, Rs K cl al H vs ds → Rs K cl al H us es → Rs K cl al H (vs ++ us) (ds ++ es)
  | _, _, _, _, .nil, s => s
  | _, _, _, _, .cons r t, s => .cons r (Rs.append t s)
theorem Rs.one {v : V} {d : D} (r : R K cl al H v d) : Rs K cl al H [v] [d] := .cons r .nil
theorem Rs.take : ∀ {ds : List D} {vs : List V} (n : Nat), Rs K cl al H vs ds → Rs K cl al H (vs.take n) (ds.take n)
  | _, _, 0, _ => .nil
  | _, _, _ + 1, .nil => .nil
  | _, _, n + 1, .cons r t => .cons r (Rs.take n t)
theorem Rs.drop : ∀ {ds : List D} {vs : List V} (n : Nat), Rs K cl al H vs ds → Rs K cl al H (vs.drop n) (ds.drop n)
  | _, _, 0, r => r
  | _, _, _ + 1, .nil => .nil
  | _, _, n + 1, .cons _ t => Rs.drop n t
theorem Rs.set : ∀ {ds : List D} {vs : List V} {v : V} {d : D} (n : Nat), Rs K cl al H vs ds → R K cl al H v d → Rs K cl al H (vs.set n v) (ds.set n d)
  | _, _, _, _, _, .nil, _ => .nil
  | _, _, _, _, 0, .cons _ t, r => .cons r t
  | _, _, _, _, n + 1, .cons q t, r => .cons q (Rs.set n t r)
theorem Rs.rev : ∀ {ds : List D} {vs : List V}, Rs K cl al H vs ds → Rs K cl al H vs.reverse ds.reverse
  | _, _, .nil => .nil
  | _, _, .cons r t => by
    rw [List.reverse_cons, List.reverse_cons]
    exact (Rs.rev t).append (.one r)
theorem Rs.ints : ∀ {ns : List Int}, Rs K cl al H (ns.map V.int) (ns.map D.int)
  | [] => .nil
  | n :: r => .cons (.int n) (Rs.ints (ns := r))
theorem Rs.toInts : ∀ {ns : List Int} {vs : List V}, Rs K cl al H vs (ns.map D.int) → vs = ns.map V.int
  | [], _, .nil => rfl
  | n :: r, _, .cons h t => by
    cases h
    rw [Rs.toInts t]
    rfl
theorem Rf.get : ∀ {ds : List (Str × D)} {vs : List (Str × V)} {f : Str} {d : D}, Rf K cl al H vs ds → ds.lookup f = some d → ∃ v, vs.lookup f = some v ∧ R K cl al H v d
  | _, _, _, _, .nil, e => by simp at e
  | _, _, f, d, .cons (n := n) (v := v) (d := d') r t, e => by
    rw [List.lookup_cons] at e ⊢
    cases hb : f == n with
    | true =>
      rw [hb] at e
      cases e
      exact ⟨v, rfl, r⟩
    | false =>
      rw [hb] at e
      exact Rf.get t e
end
/-- what the text's facts are: the written part, the classes' addresses by number -/
structure G where
  K : PySem.W.Frag
  cl : List Addr
/-- a world: the addresses of the mutable things, the frozen heap, the heap -/
structure Ws where
  al : List Addr
  Hf : Hp
  H : Hp
abbrev Rw (g : G) (w : Ws) (v : V) (d : D) : Prop := R g.K g.cl w.al w.Hf v d
abbrev Rws (g : G) (w : Ws) (v : List V) (d : List D) : Prop := Rs g.K g.cl w.al w.Hf v d
/-- an own (or mutable) object by its data -/
inductive RO (g : G) (w : Ws) : HO → D → Prop
  | lst {xs : List V} {ds : List D} : Rws g w xs ds → RO g w (.lst xs) (.lst ds)
  | ins {C dx : Addr} {c : Nat} {fv : List (Str × V)} {fs : List (Str × D)} : g.cl[c]? = some C → Rf g.K g.cl w.al w.Hf fv fs → RO g w (.ins C dx fv) (.obj c fs)
inductive Sl where
  | un | im (d : D) | ow (d : D) | br (d : D)
  deriving Inhabited
abbrev En := List Sl

structure Step (w w' : Ws) : Prop where
  pa : ∃ b, w'.al = w.al ++ b
  hf : ∀ a o, w.Hf a = some o → w'.Hf a = some o
  hh : ∀ a o, w.H a = some o → a ∉ w.al → w'.H a = some o
  an : ∀ a, a ∈ w'.al → a ∉ w.al → w.H a = none
theorem Step.refl (w : Ws) : Step w w := ⟨⟨[], by simp⟩, fun _ _ h => h, fun _ _ h _ => h, fun _ h h' => absurd h h'⟩
theorem Step.trans {w w1 w2 : Ws} (s : Step w w1) (t : Step w1 w2) : Step w w2 := by
  obtain ⟨⟨b, pa⟩, hf, hh, an⟩ := s
  obtain ⟨⟨b', pa'⟩, hf', hh', an'⟩ := t
  refine ⟨⟨b ++ b', by rw [pa', pa, List.append_assoc]⟩, fun a o h => hf' a o (hf a o h), fun a o h na => hh' a o (hh a o h na) fun hm => ?_, fun a hm na => ?_⟩
  · rw [an a hm na] at h; cases h
  · by_cases h1 : a ∈ w1.al
    · exact an a h1 na
    · have z := an' a hm h1
      cases q : w.H a with
      | none => rfl
      | some o => rw [hh a o q na] at z; cases z
theorem Step.al {w w' : Ws} (s : Step w w') : ∀ (k : Nat) (a : Addr), w.al[k]? = some a → w'.al[k]? = some a := fun k a h => by
  obtain ⟨b, e⟩ := s.pa
  rw [e, List.getElem?_append_left (List.getElem?_eq_some_iff.mp h).1]
  exact h
theorem Step.mem {w w' : Ws} (s : Step w w') {a : Addr} (h : a ∈ w.al) : a ∈ w'.al := by
  obtain ⟨b, e⟩ := s.pa
  rw [e]; exact List.mem_append_left _ h
theorem Step.r {g : G} {w w' : Ws} (s : Step w w') {v : V} {d : D} (h : Rw g w v d) : Rw g w' v d := h.mono s.hf s.al
theorem Step.rs {g : G} {w w' : Ws} (s : Step w w') {v : List V} {d : List D} (h : Rws g w v d) : Rws g w' v d := h.mono s.hf s.al
theorem Step.rf {g : G} {w w' : Ws} (s : Step w w') {v : List (Str × V)} {d : List (Str × D)} (h : Rf g.K g.cl w.al w.Hf v d) : Rf g.K g.cl w'.al w'.Hf v d := h.mono s.hf s.al
theorem Step.ro {g : G} {w w' : Ws} (s : Step w w') {o : HO} {d : D} (h : RO g w o d) : RO g w' o d := by
  cases h with
  | lst r => exact .lst (s.rs r)
  | ins c r => exact .ins c (s.rf r)

/-- a value that is read: frozen, or an object that stands by itself -/
def Tr (g : G) (w : Ws) (v : V) (d : D) : Prop := Rw g w v d ∨ ∃ a o, v = .ref a ∧ w.H a = some o ∧ a ∉ w.al ∧ RO g w o d

structure Base (g : G) (w : Ws) (s : List D) : Prop where
  fz : ∀ a o, w.Hf a = some o → w.H a = some o ∧ a ∉ w.al
  sl : s.length = w.al.length
  st : ∀ (k : Nat) a, w.al[k]? = some a → ∃ d o, s[k]? = some d ∧ w.H a = some o ∧ RO g w o d
  nd : w.al.Nodup
/-- relative to the entry w0 -/
structure Good (g : G) (w0 w : Ws) (ρ : En) (s : List D) (σ : L2.St) : Prop where
  base : Base g w s
  ext : Step w0 w
  new : ∀ a o, w0.Hf a = none → w0.H a = some o → w.Hf a = none
  len : σ.length = ρ.length
  im : ∀ (i : Nat) d, ρ[i]? = some (.im d) → ∃ v, σ[i]? = some (some v) ∧ Rw g w v d
  ow : ∀ (i : Nat) d, ρ[i]? = some (.ow d) → ∃ a o, σ[i]? = some (some (.ref a)) ∧ w.H a = some o ∧ RO g w o d ∧ w.Hf a = none ∧ a ∉ w.al ∧ w0.H a = none
  br : ∀ (i : Nat) d, ρ[i]? = some (.br d) → ∃ v, σ[i]? = some (some v) ∧ Tr g w0 v d
  dis : ∀ (i j : Nat) d e a, ρ[i]? = some (.ow d) → ρ[j]? = some (.ow e) → σ[i]? = some (some (.ref a)) → σ[j]? = some (some (.ref a)) → i = j
theorem Base.alive {g : G} {w : Ws} {s : List D} (b : Base g w s) {a : Addr} (h : a ∈ w.al) : ∃ o, w.H a = some o := by
  obtain ⟨k, e⟩ := List.mem_iff_getElem?.mp h
  obtain ⟨_, o, _, h, _⟩ := b.st k a e
  exact ⟨o, h⟩
theorem Base.fresh {g : G} {w : Ws} {s : List D} (b : Base g w s) {a : Addr} (h : w.H a = none) : a ∉ w.al ∧ w.Hf a = none := by
  refine ⟨fun hm => ?_, ?_⟩
  · obtain ⟨o, e⟩ := b.alive hm
    rw [h] at e; cases e
  · cases q : w.Hf a with
    | none => rfl
    | some o => rw [(b.fz a o q).1] at h; cases h

def Ws.upF (w : Ws) (p : Addr) (o : HO) : Ws := ⟨w.al, upd w.Hf p o, upd w.H p o⟩
def Ws.up (w : Ws) (p : Addr) (o : HO) : Ws := ⟨w.al, w.Hf, upd w.H p o⟩
def Ws.frz (w : Ws) (p : Addr) (o : HO) : Ws := ⟨w.al, upd w.Hf p o, w.H⟩
theorem upd_get {H : Hp} {p a : Addr} {o u : HO} (h : upd H p o a = some u) : (a = p ∧ u = o) ∨ (a ≠ p ∧ H a = some u) := by
  by_cases e : a = p
  · subst e; rw [upd_same] at h; cases h; exact .inl ⟨rfl, rfl⟩
  · rw [upd_ne e] at h; exact .inr ⟨e, h⟩
section
variable {g : G} {w0 w w' : Ws} {ρ : En} {s : List D} {σ : L2.St} {p : Addr} {o : HO}
theorem step_upF (b : Base g w s) (h : w.H p = none) : Step w (w.upF p o) := by
  obtain ⟨h1, h2⟩ := b.fresh h
  exact ⟨⟨[], by simp [Ws.upF]⟩, fun a u e => by show upd _ _ _ _ = _; rw [upd_ne (ne_of_none e h2)]; exact e, fun a u e _ => by show upd _ _ _ _ = _; rw [upd_ne (ne_of_none e h)]; exact e, fun a h h' => absurd h h'⟩
theorem step_up (b : Base g w s) (h : w.H p = none) : Step w (w.up p o) :=
  ⟨⟨[], by simp [Ws.up]⟩, fun a u e => e, fun a u e _ => by show upd _ _ _ _ = _; rw [upd_ne (ne_of_none e h)]; exact e, fun a h h' => absurd h h'⟩
theorem step_frz (b : Base g w s) (h : w.Hf p = none) : Step w (w.frz p o) :=
  ⟨⟨[], by simp [Ws.frz]⟩, fun a u e => by show upd _ _ _ _ = _; rw [upd_ne (ne_of_none e h)]; exact e, fun a u e _ => e, fun a h h' => absurd h h'⟩
theorem Base.upF (b : Base g w s) (h : w.H p = none) : Base g (w.upF p o) s := by
  have S : Step w (w.upF p o) := step_upF b h
  obtain ⟨h1, h2⟩ := b.fresh h
  refine ⟨fun a u e => ?_, b.sl, fun k a e => ?_, b.nd⟩
  · rcases upd_get e with ⟨rfl, rfl⟩ | ⟨ne, e⟩
    · exact ⟨upd_same, h1⟩
    · exact ⟨by show upd _ _ _ _ = _; rw [upd_ne ne]; exact (b.fz a u e).1, (b.fz a u e).2⟩
  · obtain ⟨d, u, e1, e2, e3⟩ := b.st k a e
    exact ⟨d, u, e1, by show upd _ _ _ _ = _; rw [upd_ne (ne_of_none e2 h)]; exact e2, S.ro e3⟩
theorem Base.up (b : Base g w s) (h : w.H p = none) : Base g (w.up p o) s := by
  have S : Step w (w.up p o) := step_up b h
  obtain ⟨h1, h2⟩ := b.fresh h
  refine ⟨fun a u e => ?_, b.sl, fun k a e => ?_, b.nd⟩
  · exact ⟨by show upd _ _ _ _ = _; rw [upd_ne (ne_of_none e h2)]; exact (b.fz a u e).1, (b.fz a u e).2⟩
  · obtain ⟨d, u, e1, e2, e3⟩ := b.st k a e
    exact ⟨d, u, e1, by show upd _ _ _ _ = _; rw [upd_ne (ne_of_none e2 h)]; exact e2, S.ro e3⟩
theorem Base.frz (b : Base g w s) (h : w.Hf p = none) (ha : w.H p = some o) (hn : p ∉ w.al) : Base g (w.frz p o) s := by
  have S : Step w (w.frz p o) := step_frz b h
  refine ⟨fun a u e => ?_, b.sl, fun k a e => ?_, b.nd⟩
  · rcases upd_get e with ⟨rfl, rfl⟩ | ⟨ne, e⟩
    · exact ⟨ha, hn⟩
    · exact b.fz a u e
  · obtain ⟨d, u, e1, e2, e3⟩ := b.st k a e
    exact ⟨d, u, e1, e2, S.ro e3⟩
/-- a new frozen thing -/
theorem Good.upF (G0 : Good g w0 w ρ s σ) (h : w.H p = none) : Good g w0 (w.upF p o) ρ s σ := by
  have S : Step w (w.upF p o) := step_upF G0.base h
  refine ⟨G0.base.upF h, G0.ext.trans S, fun a u e1 e2 => ?_, G0.len, fun i d e => ?_, fun i d e => ?_, G0.br, G0.dis⟩
  · have z := G0.new a u e1 e2
    by_cases ha : a ∈ w0.al
    · obtain ⟨u', hu⟩ := G0.base.alive (G0.ext.mem ha)
      show upd _ _ _ _ = _
      rw [upd_ne (ne_of_none hu h)]; exact z
    · have hu := G0.ext.hh a u e2 ha
      show upd _ _ _ _ = _
      rw [upd_ne (ne_of_none hu h)]; exact z
  · obtain ⟨v, e1, r⟩ := G0.im i d e
    exact ⟨v, e1, S.r r⟩
  · obtain ⟨a, u, e1, e2, e3, e4, e5, e6⟩ := G0.ow i d e
    have ne : a ≠ p := ne_of_none e2 h
    exact ⟨a, u, e1, by show upd _ _ _ _ = _; rw [upd_ne ne]; exact e2, S.ro e3, by show upd _ _ _ _ = _; rw [upd_ne ne]; exact e4, e5, e6⟩
theorem Good.up (G0 : Good g w0 w ρ s σ) (h : w.H p = none) : Good g w0 (w.up p o) ρ s σ := by
  have S : Step w (w.up p o) := step_up G0.base h
  refine ⟨G0.base.up h, G0.ext.trans S, G0.new, G0.len, fun i d e => ?_, fun i d e => ?_, G0.br, G0.dis⟩
  · obtain ⟨v, e1, r⟩ := G0.im i d e
    exact ⟨v, e1, S.r r⟩
  · obtain ⟨a, u, e1, e2, e3, e4, e5, e6⟩ := G0.ow i d e
    have ne : a ≠ p := ne_of_none e2 h
    exact ⟨a, u, e1, by show upd _ _ _ _ = _; rw [upd_ne ne]; exact e2, S.ro e3, e4, e5, e6⟩
/-- a thing that is no slot's own is frozen -/
theorem Good.frz (G0 : Good g w0 w ρ s σ) (h : w.Hf p = none) (ha : w.H p = some o) (hn : p ∉ w.al) (h0 : w0.H p = none) (ho : ∀ (i : Nat) d, ρ[i]? = some (.ow d) → σ[i]? ≠ some (some (.ref p))) : Good g w0 (w.frz p o) ρ s σ := by
  have S : Step w (w.frz p o) := step_frz G0.base h
  refine ⟨G0.base.frz h ha hn, G0.ext.trans S, fun a u e1 e2 => ?_, G0.len, fun i d e => ?_, fun i d e => ?_, G0.br, G0.dis⟩
  · show upd _ _ _ _ = _
    rw [upd_ne (ne_of_none e2 h0)]; exact G0.new a u e1 e2
  · obtain ⟨v, e1, r⟩ := G0.im i d e
    exact ⟨v, e1, S.r r⟩
  · obtain ⟨a, u, e1, e2, e3, e4, e5, e6⟩ := G0.ow i d e
    have ne : a ≠ p := fun z => ho i d e (by rw [e1, z])
    exact ⟨a, u, e1, e2, S.ro e3, by show upd _ _ _ _ = _; rw [upd_ne ne]; exact e4, e5, e6⟩
end
end Z

namespace Z
open PySem PySem.Spec PyProof.Rows L2

/-! the plain machine: expressions over plain data -/
inductive Bo where | add | sub | mul | fdiv | mod | pow
  deriving DecidableEq
inductive Co where | eq | ne | lt | le | gt | ge | isN | notN | inn | nin
  deriving DecidableEq
inductive Bf where | len | sum | int | tuple | list | max2 | min2 | abs
  deriving DecidableEq
inductive Ty where | int | bool | str | list | tuple | own (c : Nat)
  deriving DecidableEq
inductive Tg where | nm (i : Nat) | tp (ts : List Tg)
mutual
inductive Ex where
  | c (d : D) | v (i : Nat) | bv (i : Nat) | sv (i : Nat)
  | tup (es : List Ex) | lst (es : List Ex)
  | bin (op : Bo) (a b : Ex)
  | cat (a b : Ex)
  | cmp (op : Co) (a b : Ex)
  | ch (op op' : Co) (a b c : Ex)
  | neg (a : Ex)
  | nt (a : Ex) | an (a b : Ex) | orr (a b : Ex)
  | ife (t a b : Ex)
  | ix (a b : Ex)
  | call (f : Nat) (ms : List Bool) (es : List Ex)
  | blt (f : Bf) (es : List Ex)
  | isi (a : Ex) (ts : List Ty)
  | lc (fz vs : List Nat) (tg : Tg) (it : It) (co : Option Ex) (el : Ex)
  | lc2 (fz vs vs1 : List Nat) (tg : Tg) (it : It) (tg1 : Tg) (it1 : It) (el : Ex)
inductive It where
  | seq (e : Ex) | rng1 (a : Ex) | rng2 (a b : Ex)
end
/-- what comes of an expression -/
inductive Out where
  | ok (d : D) (ρ : En) (s : List D)
  | exc (c : Nat) (fs : List (Str × D)) (ρ : En) (s : List D)
  | bad
inductive OutL where
  | ok (ds : List D) (ρ : En) (s : List D)
  | exc (c : Nat) (fs : List (Str × D)) (ρ : En) (s : List D)
  | bad
/-- what comes of a call -/
inductive Ou where
  | ok (d : D) (s : List D)
  | exc (c : Nat) (fs : List (Str × D)) (s : List D)
  | bad
abbrev Fn := List D → List D → Ou
def Out.bind (o : Out) (k : D → En → List D → Out) : Out := match o with
  | .ok d ρ s => k d ρ s
  | .exc c fs ρ s => .exc c fs ρ s
  | .bad => .bad
def Out.bindL (o : Out) (k : D → En → List D → OutL) : OutL := match o with
  | .ok d ρ s => k d ρ s
  | .exc c fs ρ s => .exc c fs ρ s
  | .bad => .bad
def OutL.bind (o : OutL) (k : List D → En → List D → Out) : Out := match o with
  | .ok d ρ s => k d ρ s
  | .exc c fs ρ s => .exc c fs ρ s
  | .bad => .bad
def OutL.bindL (o : OutL) (k : List D → En → List D → OutL) : OutL := match o with
  | .ok d ρ s => k d ρ s
  | .exc c fs ρ s => .exc c fs ρ s
  | .bad => .bad
def Out.get (o : Option D) (ρ : En) (s : List D) : Out := match o with
  | some d => .ok d ρ s
  | none => .bad
@[simp] theorem Out.bind_ok (d ρ s k) : (Out.ok d ρ s).bind k = k d ρ s := rfl
@[simp] theorem Out.bind_exc (c fs ρ s k) : (Out.exc c fs ρ s).bind k = .exc c fs ρ s := rfl
@[simp] theorem Out.bind_bad (k) : Out.bad.bind k = .bad := rfl
@[simp] theorem Out.bindL_ok (d ρ s k) : (Out.ok d ρ s).bindL k = k d ρ s := rfl
@[simp] theorem OutL.bind_ok (d ρ s k) : (OutL.ok d ρ s).bind k = k d ρ s := rfl
@[simp] theorem OutL.bindL_ok (d ρ s k) : (OutL.ok d ρ s).bindL k = k d ρ s := rfl
@[simp] theorem Out.get_some (d ρ s) : Out.get (some d) ρ s = .ok d ρ s := rfl

mutual
def py : D → Option PyData
  | .non => some .none | .bl b => some (.bool b) | .int i => some (.int i) | .str s => some (.str s)
  | .tup xs => (pys xs).map .tuple
  | .lst xs => (pys xs).map .list
  | _ => none
def pys : List D → Option (List PyData)
  | [] => some []
  | d :: ds => match py d, pys ds with
    | some a, some b => some (a :: b)
    | _, _ => none
end
def eqD (a b : D) : Option Bool := match py a, py b with
  | some x, some y => if SeqAt.shaped x && SeqAt.shaped y then some (PyData.eqv x y) else none
  | _, _ => none
/-- == : scalars first -/
def eqS : D → D → Option Bool
  | .int i, .int j => some (decide (i = j))
  | .str x, .str y => some (decide (x = y))
  | .bl x, .bl y => some (decide (x = y))
  | a, b => eqD a b
def cap (n : Nat) : Bool := decide (n ≤ 100000)
def binD : Bo → D → D → Option D
  | .add, .int i, .int j => some (.int (i + j))
  | .add, .tup x, .tup y => if cap (x.length + y.length) then some (.tup (x ++ y)) else none
  | .sub, .int i, .int j => some (.int (i - j))
  | .mul, .int i, .int j => if i.natAbs.log2 + j.natAbs.log2 < 1000000 then some (.int (i * j)) else none
  | .fdiv, .int i, .int j => if 0 < j ∧ j.natAbs.log2 < 9000 then some (.int (i / j)) else none
  | .mod, .int i, .int j => if 0 < j then some (.int (i % j)) else none
  | .pow, .int i, .int j => if 0 ≤ j ∧ j ≤ 1000000 ∧ i.natAbs < 2 ^ 64 then some (.int (i ^ j.toNat)) else none
  | _, _, _ => none
def intsOf : List D → Option (List Int)
  | [] => some []
  | .int i :: r => (intsOf r).map (i :: ·)
  | _ => none
def memD (x : D) (y : D) : Option Bool :=
  match y with
  | .lst xs => match py x, pys xs with
    | some d, some ds => if SeqAt.shaped d && SeqAt.shaped (.list ds) then some (ds.any fun z => PyData.eqv z d) else none
    | _, _ => none
  | .tup xs => match py x, pys xs with
    | some d, some ds => if SeqAt.shaped d && SeqAt.shaped (.tuple ds) then some (ds.any fun z => PyData.eqv z d) else none
    | _, _ => none
  | _ => none
def isNon : D → Bool
  | .non => true
  | _ => false
def cmpD : Co → D → D → Option Bool
  | .eq, a, b => eqS a b
  | .ne, a, b => (eqS a b).map (!·)
  | .lt, .int i, .int j => some (decide (i < j))
  | .lt, .tup a, .tup b => match intsOf a, intsOf b with
    | some x, some y => some (HT.lexLt x y)
    | _, _ => none
  | .le, .int i, .int j => some (decide (i ≤ j))
  | .gt, .int i, .int j => some (decide (j < i))
  | .ge, .int i, .int j => some (decide (j ≤ i))
  | .isN, d, .non => some (isNon d)
  | .notN, d, .non => some (!isNon d)
  | .inn, a, b => memD a b
  | .nin, a, b => (memD a b).map (!·)
  | _, _, _ => none
def truth : D → Option Bool
  | .non => some false
  | .bl b => some b
  | .int i => some (i != 0)
  | .tup xs => some (!xs.isEmpty)
  | .lst xs => some (!xs.isEmpty)
  | _ => none
def ixD (s : List D) : D → D → Option D
  | .tup xs, .int i => atI xs i
  | .lst xs, .int i => atI xs i
  | .scr xs, .int i => (atI xs i).map D.int
  | .mref k, .int i => match s[k]? with
    | some (.lst xs) => atI xs i
    | _ => none
  | _, _ => none
def bltD (s : List D) : Bf → List D → Option D
  | .len, [.tup xs] => some (.int xs.length)
  | .len, [.lst xs] => some (.int xs.length)
  | .len, [.scr xs] => some (.int xs.length)
  | .len, [.str x] => if cap x.length then some (.int x.length) else none
  | .len, [.mref k] => match s[k]? with
    | some (.lst xs) => some (.int xs.length)
    | _ => none
  | .sum, [.lst xs] => (intsOf xs).map fun ns => .int ns.sum
  | .sum, [.tup xs] => (intsOf xs).map fun ns => .int ns.sum
  | .int, [.int i] => some (.int i)
  | .int, [.bl b] => some (.int (if b then 1 else 0))
  | .tuple, [.lst xs] => some (.tup xs)
  | .tuple, [.tup xs] => some (.tup xs)
  | .list, [.lst xs] => some (.lst xs)
  | .list, [.tup xs] => some (.lst xs)
  | .list, [.scr ns] => some (.lst (ns.map D.int))
  | .max2, [.int i, .int j] => some (.int (if j > i then j else i))
  | .min2, [.int i, .int j] => some (.int (if j < i then j else i))
  | .abs, [.int i] => some (.int (if i < 0 then -i else i))
  | _, _ => none
def tyB : Ty → String
  | .int => "int" | .bool => "bool" | .str => "str" | .list => "list" | .tuple => "tuple" | .own _ => ""
def isTy : D → Ty → Option Bool
  | .non, .own _ => none
  | .non, _ => some false
  | .bl _, .int => some true | .bl _, .bool => some true | .bl _, .own _ => none | .bl _, _ => some false
  | .int _, .int => some true | .int _, .own _ => none | .int _, _ => some false
  | .str _, .str => some true | .str _, .own _ => none | .str _, _ => some false
  | .tup _, .tuple => some true | .tup _, .own _ => none | .tup _, _ => some false
  | .lst _, .list => some true | .lst _, .own _ => none | .lst _, _ => some false
  | _, _ => none
def isTys (d : D) : List Ty → Option Bool
  | [] => some false
  | t :: ts => match isTy d t, isTys d ts with
    | some true, some _ => some true
    | some false, r => r
    | _, _ => none
def flatD : D → Bool
  | .non | .bl _ | .int _ | .str _ => true
  | _ => false
def frzS : Sl → Sl
  | .ow d => .im d
  | x => x
def frzAt (ρ : En) : List Nat → En
  | [] => ρ
  | i :: is => match ρ[i]? with
    | some (.ow d) => frzAt (ρ.set i (.im d)) is
    | _ => frzAt ρ is
def unS : Sl → Sl
  | .im d => .im d
  | .br d => .br d
  | _ => .un
def wipeE (ρ : En) : List Nat → En
  | [] => ρ
  | v :: vs => (wipeE ρ vs).set v .un
/-- the slots within a comprehension's block -/
def blkE (ρ : En) (vs : List Nat) : En := wipeE (ρ.map unS) vs
mutual
def bindT : Tg → D → En → Option En
  | .nm i, d, ρ => if i < ρ.length then some (ρ.set i (.im d)) else none
  | .tp ts, .tup ds, ρ => bindTs ts ds ρ
  | .tp _, _, _ => none
def bindTs : List Tg → List D → En → Option En
  | [], [], ρ => some ρ
  | t :: ts, d :: ds, ρ => match bindT t d ρ with
    | some ρ' => bindTs ts ds ρ'
    | none => none
  | _, _, _ => none
end
def itemsOf : D → Option (List D)
  | .lst xs => some xs
  | .tup xs => some xs
  | .scr ns => some (ns.map D.int)
  | _ => none
def rangeD (lo : Int) (n : Nat) : List D := (List.range n).map fun (k : Nat) => D.int (lo + k)
/-- over the items, one after another: what f makes of each is joined -/
def goL (f : D → List D → OutL) : List D → List D → OutL
  | [], s => .ok [] [] s
  | x :: xs, s => match f x s with
    | .ok ds _ s1 => match goL f xs s1 with
      | .ok es _ s2 => .ok (ds ++ es) [] s2
      | .exc c fs ρ s => .exc c fs ρ s
      | .bad => .bad
    | .exc c fs ρ s => .exc c fs ρ s
    | .bad => .bad
def fin (tm : Bool) (o : Out) : Out := match tm with
  | true => o.bind fun x ρ s => Out.get ((truth x).map D.bl) ρ s
  | false => o
@[simp] theorem fin_f (o) : fin false o = o := rfl
section
variable (F : List Fn)
mutual
def ev : Ex → Bool → En → List D → Out
  | .c d, tm, ρ, s => fin tm (.ok d ρ s)
  | .v i, tm, ρ, s => fin tm (match ρ[i]? with
    | some (.im d) => .ok d ρ s
    | some (.ow d) => .ok d (ρ.set i (.im d)) s
    | some (.br d) => if flatD d then .ok d ρ s else .bad
    | _ => .bad)
  | .bv i, tm, ρ, s => fin tm (match ρ[i]? with
    | some (.im d) => .ok d ρ s
    | some (.ow d) => .ok d ρ s
    | some (.br d) => .ok d ρ s
    | _ => .bad)
  | .sv i, tm, ρ, s => fin tm (match ρ[i]? with
    | some (.im d) => .ok d ρ s
    | some (.ow d) => .ok d (ρ.set i (.im d)) s
    | some (.br d) => .ok d ρ s
    | _ => .bad)
  | .tup es, tm, ρ, s => fin tm ((evs es ρ s).bind fun ds ρ s => if cap ds.length then .ok (.tup ds) ρ s else .bad)
  | .lst es, tm, ρ, s => fin tm ((evs es ρ s).bind fun ds ρ s => if cap ds.length then .ok (.lst ds) ρ s else .bad)
  | .bin op a b, tm, ρ, s => fin tm ((ev a false ρ s).bind fun x ρ s => (ev b false ρ s).bind fun y ρ s => Out.get (binD op x y) ρ s)
  | .cat a b, tm, ρ, s => fin tm ((ev a false ρ s).bind fun x ρ s => (ev b false ρ s).bind fun y ρ s => match x, y with
    | .lst xs, .lst ys => if cap (xs.length + ys.length) then .ok (.lst (xs ++ ys)) ρ s else .bad
    | _, _ => .bad)
  | .cmp op a b, tm, ρ, s => fin tm ((ev a false ρ s).bind fun x ρ s => (ev b false ρ s).bind fun y ρ s => Out.get ((cmpD op x y).map D.bl) ρ s)
  | .ch op op' a b c, tm, ρ, s => fin tm ((ev a false ρ s).bind fun x ρ s => (ev b false ρ s).bind fun y ρ s => match cmpD op x y with
    | some true => (ev c false ρ s).bind fun z ρ s => Out.get ((cmpD op' y z).map D.bl) ρ s
    | some false => .ok (.bl false) ρ s
    | none => .bad)
  | .neg a, tm, ρ, s => fin tm ((ev a false ρ s).bind fun x ρ s => match x with
    | .int i => .ok (.int (-i)) ρ s
    | _ => .bad)
  | .nt a, tm, ρ, s => (ev a tm ρ s).bind fun x ρ s => match x with
    | .bl b => .ok (.bl (!b)) ρ s
    | _ => .bad
  | .an a b, tm, ρ, s => (ev a tm ρ s).bind fun x ρ s => match x with
    | .bl true => ev b tm ρ s
    | .bl false => .ok (.bl false) ρ s
    | _ => .bad
  | .orr a b, tm, ρ, s => (ev a tm ρ s).bind fun x ρ s => match x with
    | .bl true => .ok (.bl true) ρ s
    | .bl false => ev b tm ρ s
    | _ => .bad
  | .ife t a b, tm, ρ, s => match tm with
    | true => .bad
    | false => (ev t true ρ s).bind fun x ρ s => match x with
      | .bl true => ev a false ρ s
      | .bl false => ev b false ρ s
      | _ => .bad
  | .ix a b, tm, ρ, s => fin tm ((ev a false ρ s).bind fun x ρ s => (ev b false ρ s).bind fun y ρ s => Out.get (ixD s x y) ρ s)
  | .call f ms es, tm, ρ, s => fin tm ((evs es ρ s).bind fun ds ρ s => match F[f]? with
    | some fn => match fn ds s with
      | .ok d s' => .ok d ρ s'
      | .exc c fs s' => .exc c fs ρ s'
      | .bad => .bad
    | none => .bad)
  | .blt f es, tm, ρ, s => fin tm ((evs es ρ s).bind fun ds ρ s => Out.get (bltD s f ds) ρ s)
  | .isi a ts, tm, ρ, s => fin tm ((ev a false ρ s).bind fun x ρ s => Out.get ((isTys x ts).map D.bl) ρ s)
  | .lc fz vs tg it co el, tm, ρ, s => fin tm ((evI it ρ s).bind fun x ρ s => match itemsOf x with
    | some xs =>
      match goL (fun x s => match bindT tg x (blkE (frzAt ρ fz) vs) with
        | some ρ1 => match evO co ρ1 s with
          | .ok (.bl true) ρ2 s => match ev el false ρ2 s with
            | .ok d _ s => .ok [d] [] s
            | _ => .bad
          | .ok (.bl false) _ s => .ok [] [] s
          | _ => .bad
        | none => .bad) xs s with
      | .ok ds _ s => if cap ds.length then .ok (.lst ds) (frzAt ρ fz) s else .bad
      | _ => .bad
    | none => .bad)
  | .lc2 fz vs vs1 tg it tg1 it1 el, tm, ρ, s => fin tm ((evI it ρ s).bind fun x ρ s => match itemsOf x with
    | some xs =>
      match goL (fun x s => match bindT tg x (blkE (frzAt ρ fz) vs) with
        | some ρ1 => match evI it1 ρ1 s with
          | .ok y ρ2 s => match itemsOf y with
            | some ys => goL (fun y s => match bindT tg1 y (wipeE ρ2 vs1) with
              | some ρ3 => match ev el false ρ3 s with
                | .ok d _ s => .ok [d] [] s
                | _ => .bad
              | none => .bad) ys s
            | none => .bad
          | _ => .bad
        | none => .bad) xs s with
      | .ok ds _ s => if cap ds.length then .ok (.lst ds) (frzAt ρ fz) s else .bad
      | _ => .bad
    | none => .bad)
  termination_by structural x => x
def evs : List Ex → En → List D → OutL
  | [], ρ, s => .ok [] ρ s
  | e :: es, ρ, s => (ev e false ρ s).bindL fun d ρ s => (evs es ρ s).bindL fun ds ρ s => .ok (d :: ds) ρ s
  termination_by structural x => x
def evO : Option Ex → En → List D → Out
  | none, ρ, s => .ok (.bl true) ρ s
  | some e, ρ, s => ev e true ρ s
  termination_by structural x => x
def evI : It → En → List D → Out
  | .seq e, ρ, s => ev e false ρ s
  | .rng1 a, ρ, s => (ev a false ρ s).bind fun x ρ s => match x with
    | .int n => if n ≤ 100000 ∧ -100000 ≤ n then .ok (.lst (rangeD 0 n.toNat)) ρ s else .bad
    | _ => .bad
  | .rng2 a b, ρ, s => (ev a false ρ s).bind fun x ρ s => (ev b false ρ s).bind fun y ρ s => match x, y with
    | .int l, .int n => if n ≤ 100000 ∧ -100000 ≤ n ∧ l ≤ 100000 ∧ -100000 ≤ l then .ok (.lst (rangeD l (n - l).toNat)) ρ s else .bad
    | _, _ => .bad
  termination_by structural x => x
end
end
end Z

namespace Z
open PySem PySem.Spec PyProof.Rows L2

inductive Kd where | k | b | f | s
  deriving DecidableEq
/-- no slot becomes an own one -/
structure Os (ρ ρ' : En) : Prop where
  ow : ∀ (i : Nat) d, ρ'[i]? = some (.ow d) → ρ[i]? = some (.ow d)
  br : ∀ (i : Nat) d, ρ'[i]? = some (.br d) → ρ[i]? = some (.br d)
theorem Os.refl (ρ : En) : Os ρ ρ := ⟨fun _ _ h => h, fun _ _ h => h⟩
theorem Os.trans {a b c : En} (h : Os a b) (h' : Os b c) : Os a c := ⟨fun i d e => h.ow i d (h'.ow i d e), fun i d e => h.br i d (h'.br i d e)⟩
section
variable {g : G} {W : WX} {kd : Kd} {w0 w w1 w' : Ws} {ρ ρ1 ρ' : En} {s s1 : List D} {σ : L2.St} {v : V} {d : D} {o : Out} {Q : VK} {H : Hp}
theorem Tr.step (h : Tr g w v d) (S : Step w w') : Tr g w' v d := by
  rcases h with h | ⟨a, o, e, h, n, r⟩
  · exact .inl (S.r h)
  · refine .inr ⟨a, o, e, S.hh a o h n, fun hm => ?_, S.ro r⟩
    rw [S.an a hm n] at h; cases h
def post (g : G) (kd : Kd) (w0 w w' : Ws) (v : V) (d : D) : Prop := match kd with
  | .k => Rw g w' v d
  | .b => Tr g w' v d
  | .s => Rw g w' v d ∨ Tr g w0 v d
  | .f => ∃ a o, v = .ref a ∧ w.H a = none ∧ w'.H a = some o ∧ RO g w' o d ∧ w'.Hf a = none ∧ a ∉ w'.al
theorem post.tr (h : post g kd w0 w w' v d) (E : Step w0 w') : Tr g w' v d := by
  cases kd with
  | k => exact .inl h
  | b => exact h
  | s =>
    rcases h with h | h
    · exact .inl h
    · exact h.step E
  | f =>
    obtain ⟨a, o, e, _, h, r, _, n⟩ := h
    exact .inr ⟨a, o, e, h, n, r⟩
theorem post.shift (h : post g kd w0 w1 w' v d) (b : Base g w' s1) (S : Step w w1) (S' : Step w1 w') : post g kd w0 w w' v d := by
  cases kd with
  | k => exact h
  | b => exact h
  | s => exact h
  | f =>
    obtain ⟨a, o, e, z, h, r, x, n⟩ := h
    refine ⟨a, o, e, ?_, h, r, x, n⟩
    cases q : w.H a with
    | none => rfl
    | some u =>
      by_cases ha : a ∈ w.al
      · exact absurd ((S.trans S').mem ha) n
      · rw [S.hh a u q ha] at z; cases z
def Go (g : G) (W : WX) (kd : Kd) (w0 w : Ws) (ρ : En) (σ : L2.St) (o : Out) (Q : VK) : Prop := match o with
  | .ok d ρ' s' => ∀ v w', Good g w0 w' ρ' s' σ → Step w w' → Os ρ ρ' → post g kd w0 w w' v d → Q v w'.H
  | .exc c fs ρ' s' => ∀ C dx fv w', Good g w0 w' ρ' s' σ → g.cl[c]? = some C → w'.H dx = some (.xd fv) → Rf g.K g.cl w'.al w'.Hf fv fs → W (.ref C) (some dx) σ w'.H
  | .bad => False
def GoT (g : G) (W : WX) (w0 w : Ws) (ρ : En) (σ : L2.St) (o : Out) (Q : Bool → Hp → Prop) : Prop := match o with
  | .ok d ρ' s' => ∃ b, d = .bl b ∧ ∀ w', Good g w0 w' ρ' s' σ → Step w w' → Os ρ ρ' → Q b w'.H
  | .exc c fs ρ' s' => ∀ C dx fv w', Good g w0 w' ρ' s' σ → g.cl[c]? = some C → w'.H dx = some (.xd fv) → Rf g.K g.cl w'.al w'.Hf fv fs → W (.ref C) (some dx) σ w'.H
  | .bad => False
/-- the values of a list of expressions: borrowed where ms says so -/
inductive Ps (g : G) (w : Ws) : List Bool → List V → List D → Prop
  | nil {ms : List Bool} : Ps g w ms [] []
  | k {ms : List Bool} {v : V} {vs : List V} {d : D} {ds : List D} : Rw g w v d → Ps g w ms vs ds → Ps g w (false :: ms) (v :: vs) (d :: ds)
  | b {ms : List Bool} {v : V} {vs : List V} {d : D} {ds : List D} : Tr g w v d → Ps g w ms vs ds → Ps g w (true :: ms) (v :: vs) (d :: ds)
theorem Ps.step {ms : List Bool} {vs : List V} {ds : List D} (h : Ps g w ms vs ds) (S : Step w w') : Ps g w' ms vs ds := by
  induction h with
  | nil => exact .nil
  | k r _ ih => exact .k (S.r r) ih
  | b r _ ih => exact .b (r.step S) ih
theorem Ps.length {ms : List Bool} {vs : List V} {ds : List D} (h : Ps g w ms vs ds) : vs.length = ds.length := by
  induction h with
  | nil => rfl
  | k r _ ih => simp [ih]
  | b r _ ih => simp [ih]
def GoL (g : G) (W : WX) (ms : List Bool) (w0 w : Ws) (ρ : En) (σ : L2.St) (o : OutL) (Q : List V → Hp → Prop) : Prop := match o with
  | .ok ds ρ' s' => ∀ vs w', Good g w0 w' ρ' s' σ → Step w w' → Os ρ ρ' → Ps g w' ms vs ds → Q vs w'.H
  | .exc c fs ρ' s' => ∀ C dx fv w', Good g w0 w' ρ' s' σ → g.cl[c]? = some C → w'.H dx = some (.xd fv) → Rf g.K g.cl w'.al w'.Hf fv fs → W (.ref C) (some dx) σ w'.H
  | .bad => False
theorem Go.shift (h : Go g W kd w0 w ρ σ o Q) (S : Step w w1) (O : Os ρ ρ1) : Go g W kd w0 w1 ρ1 σ o Q := by
  cases o with
  | ok d ρ' s' => exact fun v w' G0 S' O' p => h v w' G0 (S.trans S') (O.trans O') (p.shift G0.base S S')
  | exc c fs ρ' s' => exact h
  | bad => exact h
theorem GoT.shift {Q : Bool → Hp → Prop} (h : GoT g W w0 w ρ σ o Q) (S : Step w w1) (O : Os ρ ρ1) : GoT g W w0 w1 ρ1 σ o Q := by
  cases o with
  | ok d ρ' s' =>
    obtain ⟨b, e, h⟩ := h
    exact ⟨b, e, fun w' G0 S' O' => h w' G0 (S.trans S') (O.trans O')⟩
  | exc c fs ρ' s' => exact h
  | bad => exact h
theorem GoL.shift {ms : List Bool} {o : OutL} {Q : List V → Hp → Prop} (h : GoL g W ms w0 w ρ σ o Q) (S : Step w w1) (O : Os ρ ρ1) : GoL g W ms w0 w1 ρ1 σ o Q := by
  cases o with
  | ok d ρ' s' => exact fun v w' G0 S' O' p => h v w' G0 (S.trans S') (O.trans O') p
  | exc c fs ρ' s' => exact h
  | bad => exact h
end
/-! the readings -/
def tI (F : List Fn) (g : G) (W : WX) (kd : Kd) (p : Ex) : TE := fun σ H Q => ∃ w0 w ρ s, w.H = H ∧ Good g w0 w ρ s σ ∧ Go g W kd w0 w ρ σ (ev F p false ρ s) Q
def tT (F : List Fn) (g : G) (W : WX) (p : Ex) : TT := fun σ H Q => ∃ w0 w ρ s, w.H = H ∧ Good g w0 w ρ s σ ∧ GoT g W w0 w ρ σ (ev F p true ρ s) Q
def tA (F : List Fn) (g : G) (W : WX) (ms : List Bool) (ps : List Ex) : TA := fun σ H Q => ∃ w0 w ρ s, w.H = H ∧ Good g w0 w ρ s σ ∧ GoL g W ms w0 w ρ σ (evs F ps ρ s) Q
section
variable {F : List Fn} {g : G} {W : WX} {kd kq : Kd} {p q : Ex} {w0 w w1 : Ws} {ρ ρ1 : En} {s s1 : List D} {σ : L2.St} {H : Hp} {Q : VK} {k : D → En → List D → Out}
/-- between two parts: the world w1 behind the first -/
structure Mid (g : G) (w0 w w1 : Ws) (ρ ρ1 : En) (s1 : List D) (σ : L2.St) (H : Hp) : Prop where
  h : w1.H = H
  good : Good g w0 w1 ρ1 s1 σ
  step : Step w w1
  os : Os ρ ρ1
theorem tI_mono {P P' : VK} (h : tI F g W kd p σ H P) (i : ∀ v H', P v H' → P' v H') : tI F g W kd p σ H P' := by
  obtain ⟨w0, w, ρ, s, e, G0, z⟩ := h
  refine ⟨w0, w, ρ, s, e, G0, ?_⟩
  cases q : ev F p false ρ s with
  | ok d ρ' s' => rw [q] at z; exact fun v w' a b c e => i _ _ (z v w' a b c e)
  | exc c fs ρ' s' => rw [q] at z; exact z
  | bad => rw [q] at z; exact z
theorem go_bind (G0 : Good g w0 w ρ s σ) (h : Go g W kd w0 w ρ σ ((ev F p false ρ s).bind k) Q) :
    tI F g W kq p σ w.H (fun x H1 => ∃ w1 d ρ1 s1, Mid g w0 w w1 ρ ρ1 s1 σ H1 ∧ post g kq w0 w w1 x d ∧ Go g W kd w0 w1 ρ1 σ (k d ρ1 s1) Q) := by
  refine ⟨w0, w, ρ, s, rfl, G0, ?_⟩
  cases q : ev F p false ρ s with
  | ok d ρ' s' =>
    rw [q] at h
    exact fun v w' a b c e => ⟨w', d, ρ', s', ⟨rfl, a, b, c⟩, e, Go.shift h b c⟩
  | exc c fs ρ' s' => rw [q] at h; exact h
  | bad => rw [q] at h; exact h
theorem go_bindT {Q : Bool → Hp → Prop} (G0 : Good g w0 w ρ s σ) (h : GoT g W w0 w ρ σ ((ev F p false ρ s).bind k) Q) :
    tI F g W kq p σ w.H (fun x H1 => ∃ w1 d ρ1 s1, Mid g w0 w w1 ρ ρ1 s1 σ H1 ∧ post g kq w0 w w1 x d ∧ GoT g W w0 w1 ρ1 σ (k d ρ1 s1) Q) := by
  refine ⟨w0, w, ρ, s, rfl, G0, ?_⟩
  cases q : ev F p false ρ s with
  | ok d ρ' s' =>
    rw [q] at h
    exact fun v w' a b c e => ⟨w', d, ρ', s', ⟨rfl, a, b, c⟩, e, GoT.shift h b c⟩
  | exc c fs ρ' s' => rw [q] at h; exact h
  | bad => rw [q] at h; exact h
/-- a test first, then the rest -/
theorem goT_bind (G0 : Good g w0 w ρ s σ) (hb : ∀ d ρ1 s1, (∀ b, d ≠ .bl b) → k d ρ1 s1 = .bad) (h : Go g W kd w0 w ρ σ ((ev F p true ρ s).bind k) Q) :
    tT F g W p σ w.H (fun b H1 => ∃ w1 ρ1 s1, Mid g w0 w w1 ρ ρ1 s1 σ H1 ∧ Go g W kd w0 w1 ρ1 σ (k (.bl b) ρ1 s1) Q) := by
  refine ⟨w0, w, ρ, s, rfl, G0, ?_⟩
  cases q : ev F p true ρ s with
  | ok d ρ' s' =>
    rw [q] at h
    by_cases hd : ∃ b, d = .bl b
    · obtain ⟨b, rfl⟩ := hd
      exact ⟨b, rfl, fun w' a b' c => ⟨w', ρ', s', ⟨rfl, a, b', c⟩, Go.shift h b' c⟩⟩
    · have h' : Go g W kd w0 w ρ σ (k d ρ' s') Q := h
      rw [hb d ρ' s' fun b e => hd ⟨b, e⟩] at h'
      exact h'.elim
  | exc c fs ρ' s' => rw [q] at h; exact h
  | bad => rw [q] at h; exact h
theorem goT_bindT {Q : Bool → Hp → Prop} (G0 : Good g w0 w ρ s σ) (hb : ∀ d ρ1 s1, (∀ b, d ≠ .bl b) → k d ρ1 s1 = .bad) (h : GoT g W w0 w ρ σ ((ev F p true ρ s).bind k) Q) :
    tT F g W p σ w.H (fun b H1 => ∃ w1 ρ1 s1, Mid g w0 w w1 ρ ρ1 s1 σ H1 ∧ GoT g W w0 w1 ρ1 σ (k (.bl b) ρ1 s1) Q) := by
  refine ⟨w0, w, ρ, s, rfl, G0, ?_⟩
  cases q : ev F p true ρ s with
  | ok d ρ' s' =>
    rw [q] at h
    by_cases hd : ∃ b, d = .bl b
    · obtain ⟨b, rfl⟩ := hd
      exact ⟨b, rfl, fun w' a b' c => ⟨w', ρ', s', ⟨rfl, a, b', c⟩, GoT.shift h b' c⟩⟩
    · have h' : GoT g W w0 w ρ σ (k d ρ' s') Q := h
      rw [hb d ρ' s' fun b e => hd ⟨b, e⟩] at h'
      exact h'.elim
  | exc c fs ρ' s' => rw [q] at h; exact h
  | bad => rw [q] at h; exact h
theorem goL_bind {ms : List Bool} {ps : List Ex} {k : List D → En → List D → Out} (G0 : Good g w0 w ρ s σ) (h : Go g W kd w0 w ρ σ ((evs F ps ρ s).bind k) Q) :
    tA F g W ms ps σ w.H (fun xs H1 => ∃ w1 ds ρ1 s1, Mid g w0 w w1 ρ ρ1 s1 σ H1 ∧ Ps g w1 ms xs ds ∧ Go g W kd w0 w1 ρ1 σ (k ds ρ1 s1) Q) := by
  refine ⟨w0, w, ρ, s, rfl, G0, ?_⟩
  cases q : evs F ps ρ s with
  | ok d ρ' s' =>
    rw [q] at h
    exact fun v w' a b c e => ⟨w', d, ρ', s', ⟨rfl, a, b, c⟩, e, Go.shift h b c⟩
  | exc c fs ρ' s' => rw [q] at h; exact h
  | bad => rw [q] at h; exact h
/-- what is fresh is frozen; what is read is read -/
theorem tI_k (h : kq ≠ .b) (hs : kq ≠ .s) (hw : tI F g W .k p σ H Q) : tI F g W kq p σ H Q := by
  obtain ⟨w0, w, ρ, s, e, G0, z⟩ := hw
  refine ⟨w0, w, ρ, s, e, G0, ?_⟩
  cases q : ev F p false ρ s with
  | exc c fs ρ' s' => rw [q] at z; exact z
  | bad => rw [q] at z; exact z
  | ok d ρ' s' =>
    rw [q] at z
    intro v w' G1 S O hp
    cases kq with
    | k => exact z v w' G1 S O hp
    | b => exact absurd rfl h
    | s => exact absurd rfl hs
    | f =>
      obtain ⟨a, o, rfl, h1, h2, h3, h4, h5⟩ := hp
      have n0 : w0.H a = none := by
        cases q0 : w0.H a with
        | none => rfl
        | some u =>
          by_cases ha : a ∈ w0.al
          · exact absurd (G1.ext.mem ha) h5
          · rw [G0.ext.hh a u q0 ha] at h1; cases h1
      have G2 : Good g w0 (w'.frz a o) ρ' s' σ := G1.frz h4 h2 h5 n0 fun i d' e' z' => by
        obtain ⟨a', o', y1, y2, _⟩ := G0.ow i d' (O.ow i d' e')
        rw [z'] at y1
        have e3 : a = a' := V.ref.inj (Option.some.inj (Option.some.inj y1))
        rw [← e3, h1] at y2; cases y2
      have S2 : Step w' (w'.frz a o) := step_frz G1.base h4
      refine z (.ref a) (w'.frz a o) G2 (S.trans S2) O ?_
      cases S2.ro h3 with
      | lst r => exact .lst upd_same r
      | ins c r => exact .obj upd_same c r
theorem tI_b (hw : tI F g W .b p σ H Q) : tI F g W kq p σ H Q := by
  obtain ⟨w0, w, ρ, s, e, G0, z⟩ := hw
  refine ⟨w0, w, ρ, s, e, G0, ?_⟩
  cases q : ev F p false ρ s with
  | exc c fs ρ' s' => rw [q] at z; exact z
  | bad => rw [q] at z; exact z
  | ok d ρ' s' =>
    rw [q] at z
    exact fun v w' G1 S O hp => z v w' G1 S O (hp.tr G1.ext)
theorem PE.imp {X : Cx} {e : Expr} {t t' : TE} (h : PE X e t) (i : ∀ σ H Q, t' σ H Q → t σ H Q) : PE X e t' := ⟨fun pins s σ H Q I hw => h.run pins s σ H Q I (i σ H Q hw)⟩
theorem PT.imp {X : Cx} {e : Expr} {t t' : TT} (h : PT X e t) (i : ∀ σ H Q, t' σ H Q → t σ H Q) : PT X e t' := ⟨fun pins s σ H Q I hw => h.run pins s σ H Q I (i σ H Q hw)⟩
theorem PA.imp {X : Cx} {e : List Expr} {t t' : TA} (h : PA X e t) (i : ∀ σ H Q, t' σ H Q → t σ H Q) : PA X e t' := ⟨fun pos pins s σ H Q I hw => h.run pos pins s σ H Q I (i σ H Q hw)⟩
theorem PS.imp {X : Cx} {e : Stmt} {t t' : TS} (h : PS X e t) (i : ∀ D σ H, t' D σ H → t D σ H) : PS X e t' := ⟨fun pins s σ H D I hw => h.run pins s σ H D I (i D σ H hw)⟩
theorem PSs.imp {X : Cx} {e : List Stmt} {t t' : TS} (h : PSs X e t) (i : ∀ D σ H, t' D σ H → t D σ H) : PSs X e t' := ⟨fun pins s σ H D I hw => h.run pins s σ H D I (i D σ H hw)⟩
end
end Z

namespace Z
open PySem PySem.Spec PyProof.Rows L2

def kd : Ex → Kd
  | .bv _ => .b
  | .sv _ => .s
  | .lst _ => .f
  | .cat _ _ => .f
  | .lc .. => .f
  | .lc2 .. => .f
  | .blt .list _ => .f
  | _ => .k
structure Tb where
  P : Program
  w : World
  g : G
  mg : Str → Option Value
  base : Heap
  k : Nat
/-- a context in which the rules hold -/
structure Ok (T : Tb) (N : List Str) (sc : Scope) (ow : Str → Bool) (W : WX) (X : Cx) : Prop where
  P : X.prog = T.P
  w : X.w = T.w
  K : X.K = T.g.K
  mg : X.mg = T.mg
  base : X.base = T.base
  calm : X.calm = true
  hN : X.N = N
  nd : X.N.Nodup
  sc : X.env.scope = sc
  room : Room T.k X.A
  tk : Takes X W
  fn : ∀ x, ow x = true → X.fn x = true ∨ X.env.scope.names.lookup x = some .local
section
variable {F : List Fn} {T : Tb} {N : List Str} {sc : Scope} {ow : Str → Bool} {W : WX} {X : Cx} {p q pa pb pc : Ex} {w0 w w1 w2 : Ws} {ρ ρ1 : En} {s s1 : List D} {σ : L2.St} {H : Hp} {Q : VK} {k1 k2 k3 : Kd} {kk : Kd}
theorem Out.get_none (ρ s) : Out.get none ρ s = .bad := rfl
/-- the answer v (data d), nothing new -/
theorem Go.here {g : G} {W : WX} {d : D} {v : V} (G0 : Good g w0 w ρ s σ) (h : Go g W kk w0 w ρ σ (.ok d ρ s) Q) (hp : post g kk w0 w w v d) : Q v w.H := h v w G0 (Step.refl w) (Os.refl ρ) hp
/-- a new frozen thing is the answer -/
theorem Go.newK {g : G} {W : WX} {d : D} {o : HO} (G0 : Good g w0 w ρ s σ) (h : Go g W .k w0 w ρ σ (.ok d ρ s) Q) (r : ∀ p, w.H p = none → Rw g (w.upF p o) (.ref p) d) : ∀ p, w.H p = none → Q (.ref p) (upd w.H p o) := fun p hp =>
  h (.ref p) (w.upF p o) (G0.upF hp) (step_upF G0.base hp) (Os.refl ρ) (r p hp)
theorem Go.newF {g : G} {W : WX} {d : D} {o : HO} (G0 : Good g w0 w ρ s σ) (h : Go g W .f w0 w ρ σ (.ok d ρ s) Q) (r : RO g w o d) : ∀ p, w.H p = none → Q (.ref p) (upd w.H p o) := fun p hp =>
  h (.ref p) (w.up p o) (G0.up hp) (step_up G0.base hp) (Os.refl ρ) ⟨p, o, rfl, hp, upd_same, (step_up G0.base hp).ro r, (G0.base.fresh hp).2, (G0.base.fresh hp).1⟩
theorem cap_ok {n : Nat} (h : cap n = true) : n ≤ sizeLine := Nat.le_trans (of_decide_eq_true h) (by decide)

/-! what is read -/
theorem Good.sub {g : G} (G0 : Good g w0 w ρ s σ) : ∀ a o, w.Hf a = some o → w.H a = some o := fun a o h => (G0.base.fz a o h).1
theorem Tr.lst {g : G} {v : V} {ds : List D} (b : Base g w s) (h : Tr g w v (.lst ds)) : ∃ a xs, v = .ref a ∧ w.H a = some (.lst xs) ∧ Rws g w xs ds := by
  rcases h with h | ⟨a, o, rfl, h, _, r⟩
  · cases h with
    | lst h r => exact ⟨_, _, rfl, (b.fz _ _ h).1, r⟩
  · cases r with
    | lst r => exact ⟨_, _, rfl, h, r⟩
theorem Tr.tup {g : G} {v : V} {ds : List D} (b : Base g w s) (h : Tr g w v (.tup ds)) : ∃ a xs, v = .ref a ∧ SqT g.K w.H a xs ∧ Rws g w xs ds ∧ SqT g.K w.Hf a xs := by
  rcases h with h | ⟨a, o, rfl, h, _, r⟩
  · cases h with
    | tup h r => exact ⟨_, _, rfl, sqT_mono (fun a o e => (b.fz a o e).1) h, r, h⟩
  · cases r
theorem Tr.scr {g : G} {v : V} {ns : List Int} (b : Base g w s) (h : Tr g w v (.scr ns)) : ∃ a, v = .ref a ∧ SqL g.K w.H a (ns.map V.int) := by
  rcases h with h | ⟨a, o, rfl, h, _, r⟩
  · cases h with
    | scr h => exact ⟨_, rfl, sqL_mono (fun a o e => (b.fz a o e).1) h⟩
  · cases r
theorem Tr.int {g : G} {v : V} {i : Int} (h : Tr g w v (.int i)) : v = .int i := by
  rcases h with h | ⟨a, o, rfl, h, _, r⟩
  · cases h; rfl
  · cases r
theorem Tr.bl {g : G} {v : V} {i : Bool} (h : Tr g w v (.bl i)) : v = .bl i := by
  rcases h with h | ⟨a, o, rfl, h, _, r⟩
  · cases h; rfl
  · cases r
theorem Tr.str {g : G} {v : V} {i : Str} (h : Tr g w v (.str i)) : v = .str i := by
  rcases h with h | ⟨a, o, rfl, h, _, r⟩
  · cases h; rfl
  · cases r
theorem Tr.non {g : G} {v : V} (h : Tr g w v .non) : v = .non := by
  rcases h with h | ⟨a, o, rfl, h, _, r⟩
  · cases h; rfl
  · cases r
theorem Tr.mref {g : G} {v : V} {k : Nat} (b : Base g w s) (h : Tr g w v (.mref k)) : ∃ a d o, v = .ref a ∧ w.al[k]? = some a ∧ s[k]? = some d ∧ w.H a = some o ∧ RO g w o d := by
  rcases h with h | ⟨a, o, rfl, h, _, r⟩
  · cases h with
    | mref h =>
      obtain ⟨d, o, e1, e2, e3⟩ := b.st _ _ h
      exact ⟨_, d, o, rfl, h, e1, e2, e3⟩
  · cases r
theorem flat_rw {g : G} {v : V} {d : D} (h : Tr g w v d) (f : flatD d = true) : Rw g w1 v d := by
  cases d with
  | non => rw [h.non]; exact .non
  | bl b => rw [h.bl]; exact .bl b
  | int i => rw [h.int]; exact .int i
  | str x => rw [h.str]; exact .str x
  | _ => cases f

/-! data for == -/
mutual
theorem dp_r {g : G} {H : Hp} {al : List Addr} {Hf : Hp} (e : ∀ a o, Hf a = some o → H a = some o) : ∀ {d : D} {v : V} {x : PyData}, R g.K g.cl al Hf v d → py d = some x → Dp g.K H v x
  | .non, _, _, .non, h => by cases h; exact .non
  | .bl _, _, _, .bl b, h => by cases h; exact .bl b
  | .int _, _, _, .int i, h => by cases h; exact .int i
  | .str _, _, _, .str i, h => by cases h; exact .str i
  | .tup ds, _, _, .tup hs r, h => by
    unfold py at h
    cases q : pys ds with
    | none => rw [q] at h; cases h
    | some xs => rw [q] at h; cases h; exact .tup (sqT_mono e hs) (dps_r e r q)
  | .lst ds, _, _, .lst hs r, h => by
    unfold py at h
    cases q : pys ds with
    | none => rw [q] at h; cases h
    | some xs => rw [q] at h; cases h; exact .lst (SqL.of (e _ _ hs)) (dps_r e r q)
  | .scr _, _, _, .scr _, h => by cases h
  | .obj _ _, _, _, .obj _ _ _, h => by cases h
  | .mref _, _, _, .mref _, h => by cases h
theorem dps_r {g : G} {H : Hp} {al : List Addr} {Hf : Hp} (e : ∀ a o, Hf a = some o → H a = some o) : ∀ {ds : List D} {vs : List V} {xs : List PyData}, Rs g.K g.cl al Hf vs ds → pys ds = some xs → DpAll g.K H vs xs
  | [], _, _, .nil, h => by cases h; exact .nil
  | d :: ds, _, _, .cons r t, h => by
    unfold pys at h
    cases q : py d with
    | none => rw [q] at h; cases h
    | some x =>
      cases q2 : pys ds with
      | none => rw [q, q2] at h; cases h
      | some xs => rw [q, q2] at h; cases h; exact .cons (dp_r e r q) (dps_r e t q2)
end
theorem Tr.dp {g : G} {v : V} {d : D} {x : PyData} (b : Base g w s) (h : Tr g w v d) (hx : py d = some x) : Dp g.K w.H v x := by
  rcases h with h | ⟨a, o, rfl, h, _, r⟩
  · exact dp_r (fun a o e => (b.fz a o e).1) h hx
  · cases r with
    | lst r =>
      rename_i xs ds
      unfold py at hx
      cases q : pys ds with
      | none => rw [q] at hx; cases hx
      | some xs => rw [q] at hx; cases hx; exact .lst (SqL.of h) (dps_r (fun a o e => (b.fz a o e).1) r q)
    | ins c r => cases hx
/-- two operands -/
theorem two_op {g : G} {r : R2} {k : D → D → En → List D → Out} (G0 : Good g w0 w ρ s σ)
    (h : Go g W kk w0 w ρ σ ((ev F pa false ρ s).bind fun x ρ s => (ev F pb false ρ s).bind fun y ρ s => k x y ρ s) Q)
    (hr : ∀ w2 x y dx dy ρ2 s2, Good g w0 w2 ρ2 s2 σ → Tr g w2 x dx → Tr g w2 y dy → Go g W kk w0 w2 ρ2 σ (k dx dy ρ2 s2) Q → r x y w2.H Q) : tOp r (tI F g W k1 pa) (tI F g W k2 pb) σ w.H Q := by
  refine tI_mono (go_bind (kq := k1) G0 h) fun x H1 ⟨w1, dx, ρ1, s1, M, px, h1⟩ => ?_
  obtain ⟨rfl, G1, S1, O1⟩ := M
  refine tI_mono (go_bind (kq := k2) G1 h1) fun y H2 ⟨w2, dy, ρ2, s2, M, py, h2⟩ => ?_
  obtain ⟨rfl, G2, S2, O2⟩ := M
  exact hr w2 x y dx dy ρ2 s2 G2 ((px.tr G1.ext).step S2) (py.tr G2.ext) h2

/-! ### constants, names -/
theorem r_c {e : Expr} {v : V} {d : D} (he : PE X e (tC v)) (hd : ∀ (g : G) (w : Ws), R g.K g.cl w.al w.Hf v d) {g : G} : PE X e (tI F g W .k (.c d)) := PE.imp he fun σ H Q ⟨w0, w, ρ, s, e, G0, h⟩ => by
  subst e
  exact Go.here G0 h (hd g w)
theorem Good.frz1 {g : G} (G0 : Good g w0 w ρ s σ) {i : Nat} {d : D} (e : ρ[i]? = some (.ow d)) :
    ∃ a w', σ[i]? = some (some (.ref a)) ∧ w'.H = w.H ∧ Good g w0 w' (ρ.set i (.im d)) s σ ∧ Step w w' ∧ Os ρ (ρ.set i (.im d)) ∧ Rw g w' (.ref a) d := by
  obtain ⟨a, o, e1, e2, e3, e4, e5, e6⟩ := G0.ow i d e
  have hi : i < ρ.length := (List.getElem?_eq_some_iff.mp e).1
  have G1 : Good g w0 w (ρ.set i .un) s σ := by
    refine ⟨G0.base, G0.ext, G0.new, by rw [List.length_set]; exact G0.len, fun j d' e' => ?_, fun j d' e' => ?_, fun j d' e' => ?_, fun j k d' d'' a' e' e'' => ?_⟩
    · by_cases hj : i = j
      · subst hj; rw [List.getElem?_set_self hi] at e'; cases e'
      · rw [List.getElem?_set_ne hj] at e'; exact G0.im j d' e'
    · by_cases hj : i = j
      · subst hj; rw [List.getElem?_set_self hi] at e'; cases e'
      · rw [List.getElem?_set_ne hj] at e'; exact G0.ow j d' e'
    · by_cases hj : i = j
      · subst hj; rw [List.getElem?_set_self hi] at e'; cases e'
      · rw [List.getElem?_set_ne hj] at e'; exact G0.br j d' e'
    · by_cases hj : i = j
      · subst hj; rw [List.getElem?_set_self hi] at e'; cases e'
      · by_cases hk : i = k
        · subst hk; rw [List.getElem?_set_self hi] at e''; cases e''
        · rw [List.getElem?_set_ne hj] at e'; rw [List.getElem?_set_ne hk] at e''
          exact G0.dis j k d' d'' a' e' e''
  have G2 : Good g w0 (w.frz a o) (ρ.set i .un) s σ := G1.frz e4 e2 e5 e6 fun j d' e' z => by
    by_cases hj : i = j
    · subst hj; rw [List.getElem?_set_self hi] at e'; cases e'
    · rw [List.getElem?_set_ne hj] at e'
      exact hj (G0.dis i j d d' a e e' e1 z)
  have S2 : Step w (w.frz a o) := step_frz G0.base e4
  have r2 : Rw g (w.frz a o) (.ref a) d := by
    cases S2.ro e3 with
    | lst r => exact .lst upd_same r
    | ins c r => exact .obj upd_same c r
  refine ⟨a, w.frz a o, e1, rfl, ⟨G2.base, G2.ext, G2.new, by rw [List.length_set]; exact G0.len, fun j d' e' => ?_, fun j d' e' => ?_, fun j d' e' => ?_, fun j k d' d'' a' e' e'' => ?_⟩, S2, ⟨fun j d' e' => ?_, fun j d' e' => ?_⟩, r2⟩
  · by_cases hj : i = j
    · subst hj; rw [List.getElem?_set_self hi] at e'; cases e'; exact ⟨_, e1, r2⟩
    · exact G2.im j d' (by rw [List.getElem?_set_ne hj] at e' ⊢; exact e')
  · by_cases hj : i = j
    · subst hj; rw [List.getElem?_set_self hi] at e'; cases e'
    · exact G2.ow j d' (by rw [List.getElem?_set_ne hj] at e' ⊢; exact e')
  · by_cases hj : i = j
    · subst hj; rw [List.getElem?_set_self hi] at e'; cases e'
    · exact G2.br j d' (by rw [List.getElem?_set_ne hj] at e' ⊢; exact e')
  · by_cases hj : i = j
    · subst hj; rw [List.getElem?_set_self hi] at e'; cases e'
    · by_cases hk : i = k
      · subst hk; rw [List.getElem?_set_self hi] at e''; cases e''
      · exact G2.dis j k d' d'' a' (by rw [List.getElem?_set_ne hj] at e' ⊢; exact e') (by rw [List.getElem?_set_ne hk] at e'' ⊢; exact e'')
  · by_cases hj : i = j
    · subst hj; rw [List.getElem?_set_self hi] at e'; cases e'
    · rw [List.getElem?_set_ne hj] at e'; exact e'
  · by_cases hj : i = j
    · subst hj; rw [List.getElem?_set_self hi] at e'; cases e'
    · rw [List.getElem?_set_ne hj] at e'; exact e'
theorem r_v {e : Expr} {i : Nat} (he : PE X e (tVar i)) {g : G} : PE X e (tI F g W .k (.v i)) := PE.imp he fun σ H Q ⟨w0, w, ρ, s, e, G0, h⟩ => by
  subst e
  unfold ev at h
  simp only [fin_f] at h
  split at h
  · rename_i d e
    obtain ⟨v, e1, r⟩ := G0.im i d e
    exact ⟨v, e1, Go.here G0 h r⟩
  · rename_i d e
    obtain ⟨a, w', e1, eH, G2, S2, O2, r2⟩ := G0.frz1 e
    refine ⟨.ref a, e1, ?_⟩
    rw [← eH]
    exact h (.ref a) w' G2 S2 O2 r2
  · rename_i d e
    obtain ⟨v, e1, r⟩ := G0.br i d e
    split at h
    · rename_i f
      exact ⟨v, e1, Go.here G0 h (flat_rw (r.step G0.ext) f)⟩
    · exact h.elim
  · exact h.elim
theorem r_bv {e : Expr} {i : Nat} (he : PE X e (tVar i)) {g : G} : PE X e (tI F g W .b (.bv i)) := PE.imp he fun σ H Q ⟨w0, w, ρ, s, e, G0, h⟩ => by
  subst e
  unfold ev at h
  simp only [fin_f] at h
  split at h
  · rename_i d e
    obtain ⟨v, e1, r⟩ := G0.im i d e
    exact ⟨v, e1, Go.here G0 h (.inl r)⟩
  · rename_i d e
    obtain ⟨a, o, e1, e2, e3, e4, e5, e6⟩ := G0.ow i d e
    exact ⟨.ref a, e1, Go.here G0 h (.inr ⟨a, o, rfl, e2, e5, e3⟩)⟩
  · rename_i d e
    obtain ⟨v, e1, r⟩ := G0.br i d e
    exact ⟨v, e1, Go.here G0 h (r.step G0.ext)⟩
  · exact h.elim
theorem r_sv {e : Expr} {i : Nat} (he : PE X e (tVar i)) {g : G} : PE X e (tI F g W .s (.sv i)) := PE.imp he fun σ H Q ⟨w0, w, ρ, s, e, G0, h⟩ => by
  subst e
  unfold ev at h
  simp only [fin_f] at h
  split at h
  · rename_i d e
    obtain ⟨v, e1, r⟩ := G0.im i d e
    exact ⟨v, e1, Go.here G0 h (.inl r)⟩
  · rename_i d e
    obtain ⟨a, w', e1, eH, G2, S2, O2, r2⟩ := G0.frz1 e
    refine ⟨.ref a, e1, ?_⟩
    rw [← eH]
    exact h (.ref a) w' G2 S2 O2 (.inl r2)
  · rename_i d e
    obtain ⟨v, e1, r⟩ := G0.br i d e
    exact ⟨v, e1, Go.here G0 h (.inr r)⟩
  · exact h.elim

/-! ### operators -/
def binR (K : PySem.W.Frag) : Bo → R2
  | .add => fun x y H Q => (rI0 fun i j => .int (i + j)) x y H Q ∨ rCatA K x y H Q
  | .sub => rI0 fun i j => .int (i - j)
  | .mul => rI CMulW fun i j => .int (i * j)
  | .fdiv => rI CDivW fun i j => .int (i / j)
  | .mod => rI (fun _ j => 0 < j) fun i j => .int (i % j)
  | .pow => rI CPow fun i j => .int (i ^ j.toNat)
def boO : Bo → Operator
  | .add => .Add | .sub => .Sub | .mul => .Mult | .fdiv => .FloorDiv | .mod => .Mod | .pow => .Pow
theorem op_binR (op : Bo) : OpR X (binaryOp (boO op)) (binR X.K op) := by
  cases op with
  | add => exact op_add.or op_catA
  | sub => exact op_sub
  | mul => exact op_mulW
  | fdiv => exact op_fdivW
  | mod => exact op_mod
  | pow => exact op_pow
theorem r_bin {a b : Expr} {pos : Pos} (op : Bo) (K : X.K = T.g.K) (ha : PE X a (tI F T.g W k1 pa)) (hb : PE X b (tI F T.g W k2 pb)) : PE X (.BinOp a (boO op) b pos) (tI F T.g W .k (.bin op pa pb)) := by
  have h0 := pe_op (pos := pos) (op_binR (X := X) op) ha hb
  refine PE.imp h0 fun σ H Q ⟨w0, w, ρ, s, e, G0, h⟩ => ?_
  subst e
  unfold ev at h
  simp only [fin_f] at h
  refine two_op G0 h fun w2 x y dx dy ρ2 s2 G2 tx ty h2 => ?_
  rw [K]
  cases q : binD op dx dy with
  | none => rw [q] at h2; exact h2.elim
  | some d =>
    rw [q] at h2
    rw [Out.get_some] at h2
    unfold binD at q
    split at q
    · cases q
      cases tx.int; cases ty.int
      exact .inl ⟨_, _, rfl, rfl, Go.here G2 h2 (.int _)⟩
    · rename_i xs ys
      split at q
      · rename_i hc
        cases q
        obtain ⟨a1, v1, rfl, t1, r1, f1⟩ := tx.tup G2.base
        obtain ⟨a2, v2, rfl, t2, r2, f2⟩ := ty.tup G2.base
        refine .inr ⟨a1, a2, v1, v2, rfl, rfl, t1, t2, ?_, fun e => ?_, fun _ e => ?_, fun _ _ => ?_⟩
        · rw [r1.length, r2.length]; exact cap_ok hc
        · subst e
          cases r1
          exact Go.here G2 h2 (.tup f2 r2)
        · subst e
          cases r2
          rw [List.append_nil] at h2
          exact Go.here G2 h2 (.tup f1 r1)
        · exact Go.newK G2 h2 fun p hp => .tup (SqT.of upd_same) ((step_upF G2.base hp).rs (r1.append r2))
      · cases q
    · cases q
      cases tx.int; cases ty.int
      exact ⟨_, _, rfl, rfl, Go.here G2 h2 (.int _)⟩
    · split at q
      · rename_i hc
        cases q
        cases tx.int; cases ty.int
        exact ⟨_, _, rfl, rfl, hc, Go.here G2 h2 (.int _)⟩
      · cases q
    · split at q
      · rename_i hc
        cases q
        cases tx.int; cases ty.int
        exact ⟨_, _, rfl, rfl, hc, Go.here G2 h2 (.int _)⟩
      · cases q
    · split at q
      · rename_i hc
        cases q
        cases tx.int; cases ty.int
        exact ⟨_, _, rfl, rfl, hc, Go.here G2 h2 (.int _)⟩
      · cases q
    · split at q
      · rename_i hc
        cases q
        cases tx.int; cases ty.int
        exact ⟨_, _, rfl, rfl, hc, Go.here G2 h2 (.int _)⟩
      · cases q
    · cases q
theorem r_cat {a b : Expr} {pos : Pos} (K : X.K = T.g.K) (ha : PE X a (tI F T.g W k1 pa)) (hb : PE X b (tI F T.g W k2 pb)) : PE X (.BinOp a .Add b pos) (tI F T.g W .f (.cat pa pb)) := by
  have h0 := pe_op (pos := pos) (op_cat (X := X)) ha hb
  refine PE.imp h0 fun σ H Q ⟨w0, w, ρ, s, e, G0, h⟩ => ?_
  subst e
  unfold ev at h
  simp only [fin_f] at h
  refine two_op G0 h fun w2 x y dx dy ρ2 s2 G2 tx ty h2 => ?_
  split at h2
  · rename_i xs ys
    split at h2
    · rename_i hc
      obtain ⟨a1, v1, rfl, t1, r1⟩ := tx.lst G2.base
      obtain ⟨a2, v2, rfl, t2, r2⟩ := ty.lst G2.base
      refine ⟨a1, a2, v1, v2, rfl, rfl, t1, t2, ?_, ?_⟩
      · rw [r1.length, r2.length]; exact cap_ok hc
      · exact Go.newF G2 h2 (.lst (r1.append r2))
    · exact h2.elim
  · exact h2.elim
end
end Z

namespace Z
open PySem PySem.Spec PyProof.Rows L2
section
variable {X : Cx}
/-- x in a tuple of data of any depth -/
def rInDT (K : PySem.W.Frag) : R2 := fun x y H Q => ∃ d ds, Dp K H x d ∧ Dp K H y (.tuple ds) ∧ SeqAt.shaped d = true ∧ SeqAt.shaped (.tuple ds) = true ∧ Q (.bl (ds.any fun z => PyData.eqv z d)) H
def rNotInDT (K : PySem.W.Frag) : R2 := fun x y H Q => ∃ d ds, Dp K H x d ∧ Dp K H y (.tuple ds) ∧ SeqAt.shaped d = true ∧ SeqAt.shaped (.tuple ds) = true ∧ Q (.bl (!ds.any fun z => PyData.eqv z d)) H
theorem op_inDT (hu : X.A.units + 65 < cLine) : OpR X (compareOp .In) (rInDT X.K) := by
  intro pins s σ H x y v u Q I rx ry h
  obtain ⟨d, ds, hd, he, sd, se, q⟩ := h
  obtain ⟨as, r1⟩ := Dp.reads I d x v hd rx
  obtain ⟨bs, r2⟩ := Dp.reads I (.tuple ds) y u he ry
  exact SeqAt.in_tuple_reads r2 r1 (SeqAt.canLay_of_shaped se) (SeqAt.canLay_of_shaped sd) (by have := SeqAt.depth_of_shaped sd; omega) ⟨.bl _, H, I, rfl, q⟩
theorem op_notInDT (hu : X.A.units + 65 < cLine) : OpR X (compareOp .NotIn) (rNotInDT X.K) := by
  intro pins s σ H x y v u Q I rx ry h
  obtain ⟨d, ds, hd, he, sd, se, q⟩ := h
  obtain ⟨as, r1⟩ := Dp.reads I d x v hd rx
  obtain ⟨bs, r2⟩ := Dp.reads I (.tuple ds) y u he ry
  exact SeqAt.notIn_tuple_reads r2 r1 (SeqAt.canLay_of_shaped se) (SeqAt.canLay_of_shaped sd) (by have := SeqAt.depth_of_shaped sd; omega) ⟨.bl _, H, I, rfl, q⟩
end
section
variable {F : List Fn} {T : Tb} {N : List Str} {sc : Scope} {ow : Str → Bool} {W : WX} {X : Cx} {p q pa pb pc : Ex} {w0 w w1 w2 : Ws} {ρ ρ1 : En} {s s1 : List D} {σ : L2.St} {H : Hp} {Q : VK} {k1 k2 k3 : Kd} {kk : Kd}
/-! ### comparisons -/
def coO : Co → CmpOp
  | .eq => .Eq | .ne => .NotEq | .lt => .Lt | .le => .LtE | .gt => .Gt | .ge => .GtE | .isN => .Is | .notN => .IsNot | .inn => .In | .nin => .NotIn
def cmpR (K : PySem.W.Frag) : Co → R2
  | .eq => fun x y H Q => rEq x y H Q ∨ rEqD K x y H Q
  | .ne => fun x y H Q => rNe x y H Q ∨ rNeD K x y H Q
  | .lt => fun x y H Q => (rI0 fun i j => .bl (decide (i < j))) x y H Q ∨ rLtT K x y H Q
  | .le => rI0 fun i j => .bl (decide (i ≤ j))
  | .gt => rI0 fun i j => .bl (decide (j < i))
  | .ge => rI0 fun i j => .bl (decide (j ≤ i))
  | .isN => fun x y H Q => y = .non ∧ Q (.bl (decide (x = .non))) H
  | .notN => fun x y H Q => y = .non ∧ Q (.bl (!decide (x = .non))) H
  | .inn => fun x y H Q => rInD K x y H Q ∨ rInDT K x y H Q
  | .nin => fun x y H Q => rNotInD K x y H Q ∨ rNotInDT K x y H Q
theorem op_cmpR {k : Nat} (hr : Room k X.A) (op : Co) : OpR X (compareOp (coO op)) (cmpR X.K op) := by
  have hu := hr.units
  have hu2 : X.A.units + 65 < cLine := by have := hr.un; omega
  cases op with
  | eq => exact op_eq.or (op_eqD hu)
  | ne => exact op_ne.or (op_neD hu)
  | lt => exact op_lt.or (op_ltT hr.units0)
  | le => exact op_le
  | gt => exact op_gt
  | ge => exact op_ge
  | isN => exact op_isN
  | notN => exact op_notN
  | inn => exact (op_inD hu2).or (op_inDT hu2)
  | nin => exact (op_notInD hu2).or (op_notInDT hu2)
theorem eqS_ok {g : G} {x y : V} {dx dy : D} {b : Bool} (B : Base g w s) (tx : Tr g w x dx) (ty : Tr g w y dy) (h : eqS dx dy = some b) {Q : VK} (q : Q (.bl b) w.H) : rEq x y w.H Q ∨ rEqD g.K x y w.H Q := by
  unfold eqS at h
  split at h
  · cases h
    cases tx.int; cases ty.int
    refine .inl ⟨rfl, ?_⟩
    rw [dec_int, Bool.beq_eq_decide_eq]; exact q
  · cases h
    cases tx.str; cases ty.str
    refine .inl ⟨rfl, ?_⟩
    rw [dec_str, Bool.beq_eq_decide_eq]; exact q
  · cases h
    cases tx.bl; cases ty.bl
    refine .inl ⟨rfl, ?_⟩
    rw [dec_bl, Bool.beq_eq_decide_eq]; exact q
  · unfold eqD at h
    split at h
    · rename_i px py' e1 e2
      split at h
      · rename_i hs
        cases h
        obtain ⟨h1, h2⟩ := Bool.and_eq_true_iff.mp hs
        exact .inr ⟨px, py', tx.dp B e1, ty.dp B e2, h1, h2, q⟩
      · cases h
    · cases h
theorem neS_ok {g : G} {x y : V} {dx dy : D} {b : Bool} (B : Base g w s) (tx : Tr g w x dx) (ty : Tr g w y dy) (h : eqS dx dy = some b) {Q : VK} (q : Q (.bl (!b)) w.H) : rNe x y w.H Q ∨ rNeD g.K x y w.H Q := by
  unfold eqS at h
  split at h
  · cases h
    cases tx.int; cases ty.int
    refine .inl ⟨rfl, ?_⟩
    rw [dec_int, Bool.beq_eq_decide_eq]; exact q
  · cases h
    cases tx.str; cases ty.str
    refine .inl ⟨rfl, ?_⟩
    rw [dec_str, Bool.beq_eq_decide_eq]; exact q
  · cases h
    cases tx.bl; cases ty.bl
    refine .inl ⟨rfl, ?_⟩
    rw [dec_bl, Bool.beq_eq_decide_eq]; exact q
  · unfold eqD at h
    split at h
    · rename_i px py' e1 e2
      split at h
      · rename_i hs
        cases h
        obtain ⟨h1, h2⟩ := Bool.and_eq_true_iff.mp hs
        exact .inr ⟨px, py', tx.dp B e1, ty.dp B e2, h1, h2, q⟩
      · cases h
    · cases h
theorem py_lst {xs : List D} {ds : List PyData} (h : pys xs = some ds) : py (.lst xs) = some (.list ds) := by
  unfold py; rw [h]; rfl
theorem py_tup {xs : List D} {ds : List PyData} (h : pys xs = some ds) : py (.tup xs) = some (.tuple ds) := by
  unfold py; rw [h]; rfl
theorem memD_ok {g : G} {x y : V} {dx dy : D} {b : Bool} (B : Base g w s) (tx : Tr g w x dx) (ty : Tr g w y dy) (h : memD dx dy = some b) {Q : VK} (q : Q (.bl b) w.H) : rInD g.K x y w.H Q ∨ rInDT g.K x y w.H Q := by
  unfold memD at h
  split at h
  · split at h
    · rename_i d ds e1 e2
      split at h
      · rename_i hs
        cases h
        obtain ⟨h1, h2⟩ := Bool.and_eq_true_iff.mp hs
        exact .inl ⟨d, ds, tx.dp B e1, ty.dp B (py_lst e2), h1, h2, q⟩
      · cases h
    · cases h
  · split at h
    · rename_i d ds e1 e2
      split at h
      · rename_i hs
        cases h
        obtain ⟨h1, h2⟩ := Bool.and_eq_true_iff.mp hs
        exact .inr ⟨d, ds, tx.dp B e1, ty.dp B (py_tup e2), h1, h2, q⟩
      · cases h
    · cases h
  · cases h
theorem nmemD_ok {g : G} {x y : V} {dx dy : D} {b : Bool} (B : Base g w s) (tx : Tr g w x dx) (ty : Tr g w y dy) (h : memD dx dy = some b) {Q : VK} (q : Q (.bl (!b)) w.H) : rNotInD g.K x y w.H Q ∨ rNotInDT g.K x y w.H Q := by
  unfold memD at h
  split at h
  · split at h
    · rename_i d ds e1 e2
      split at h
      · rename_i hs
        cases h
        obtain ⟨h1, h2⟩ := Bool.and_eq_true_iff.mp hs
        exact .inl ⟨d, ds, tx.dp B e1, ty.dp B (py_lst e2), h1, h2, q⟩
      · cases h
    · cases h
  · split at h
    · rename_i d ds e1 e2
      split at h
      · rename_i hs
        cases h
        obtain ⟨h1, h2⟩ := Bool.and_eq_true_iff.mp hs
        exact .inr ⟨d, ds, tx.dp B e1, ty.dp B (py_tup e2), h1, h2, q⟩
      · cases h
    · cases h
  · cases h
theorem ints_ok {K : PySem.W.Frag} {cl al : List Addr} {Hf : Hp} : ∀ {xs : List D} {vs : List V} {ns : List Int}, Rs K cl al Hf vs xs → intsOf xs = some ns → vs = ns.map V.int
  | [], _, _, .nil, h => by cases h; rfl
  | .int i :: r, _, _, .cons (.int _) t, h => by
    unfold intsOf at h
    cases q : intsOf r with
    | none => rw [q] at h; cases h
    | some ms => rw [q] at h; cases h; rw [ints_ok t q]; rfl
theorem isN_ok {g : G} {x : V} {d : D} (tx : Tr g w x d) : decide (x = .non) = isNon d := by
  rcases tx with h | ⟨a, o, rfl, _, _, r⟩
  · cases h <;> rfl
  · cases r <;> rfl
theorem cmp_ok {g : G} {op : Co} {x y : V} {dx dy : D} {b : Bool} (B : Base g w s) (tx : Tr g w x dx) (ty : Tr g w y dy) (h : cmpD op dx dy = some b) {Q : VK} (q : Q (.bl b) w.H) : cmpR g.K op x y w.H Q := by
  unfold cmpD at h
  split at h
  · exact eqS_ok B tx ty h q
  · obtain ⟨b', q2, e⟩ := Option.map_eq_some_iff.mp h
    subst e
    exact neS_ok B tx ty q2 q
  · cases h; cases tx.int; cases ty.int
    exact .inl ⟨_, _, rfl, rfl, q⟩
  · split at h
    · rename_i e1 e2
      cases h
      obtain ⟨a1, v1, rfl, t1, r1, _⟩ := tx.tup B
      obtain ⟨a2, v2, rfl, t2, r2, _⟩ := ty.tup B
      cases ints_ok r1 e1
      cases ints_ok r2 e2
      exact .inr ⟨_, _, _, _, rfl, rfl, t1, t2, q⟩
    · cases h
  · cases h; cases tx.int; cases ty.int
    exact ⟨_, _, rfl, rfl, q⟩
  · cases h; cases tx.int; cases ty.int
    exact ⟨_, _, rfl, rfl, q⟩
  · cases h; cases tx.int; cases ty.int
    exact ⟨_, _, rfl, rfl, q⟩
  · cases h
    exact ⟨ty.non, by rw [isN_ok tx]; exact q⟩
  · cases h
    exact ⟨ty.non, by rw [isN_ok tx]; exact q⟩
  · exact memD_ok B tx ty h q
  · obtain ⟨b', q2, e⟩ := Option.map_eq_some_iff.mp h
    subst e
    exact nmemD_ok B tx ty q2 q
  · cases h
theorem cmp_op {g : G} {op : Co} (G0 : Good g w0 w ρ s σ) (h : Go g W kk w0 w ρ σ ((ev F pa false ρ s).bind fun x ρ s => (ev F pb false ρ s).bind fun y ρ s => Out.get ((cmpD op x y).map D.bl) ρ s) Q) (hk : kk = .k) :
    tOp (cmpR g.K op) (tI F g W k1 pa) (tI F g W k2 pb) σ w.H Q := two_op G0 h fun w2 x y dx dy ρ2 s2 G2 tx ty h2 => by
  cases q : cmpD op dx dy with
  | none => rw [q] at h2; exact h2.elim
  | some b =>
    rw [q] at h2
    subst hk
    exact cmp_ok G2.base tx ty q (Go.here G2 h2 (.bl b))
theorem r_cmp {a b : Expr} {pos : Pos} {k : Nat} (op : Co) (K : X.K = T.g.K) (hr : Room k X.A) (hm : behindInMarks (coO op) b = false) (ha : PE X a (tI F T.g W k1 pa)) (hb : PE X b (tI F T.g W k2 pb)) :
    PE X (.Compare a [coO op] [b] pos) (tI F T.g W .k (.cmp op pa pb)) ∧ PT X (.Compare a [coO op] [b] pos) (tT F T.g W (.cmp op pa pb)) := by
  refine ⟨PE.imp (pe_cmpR (op_cmpR hr op) ha hb hm) fun σ H Q ⟨w0, w, ρ, s, e, G0, h⟩ => ?_, PT.imp (pt_cmpR (op_cmpR hr op) ha hb hm) fun σ H Q ⟨w0, w, ρ, s, e, G0, h⟩ => ?_⟩
  · subst e
    unfold ev at h
    simp only [fin_f] at h
    rw [K]
    exact cmp_op G0 h rfl
  · subst e
    rw [K]
    show tOp (cmpR T.g.K op) (tI F T.g W k1 pa) (tI F T.g W k2 pb) σ w.H (fun x H' => ∃ k, x = .bl k ∧ Q k H')
    refine cmp_op (kk := .k) (W := W) G0 ?_ rfl
    unfold ev at h
    cases q1 : ev F pa false ρ s with
    | bad => rw [q1] at h; exact h
    | exc c fs ρ' s' => rw [q1] at h; exact h
    | ok dx ρ1 s1 =>
      rw [q1] at h
      show Go _ _ _ _ _ _ _ ((ev F pb false ρ1 s1).bind _) _
      have h' : GoT T.g W w0 w ρ σ (fin true ((ev F pb false ρ1 s1).bind fun y ρ s => Out.get ((cmpD op dx y).map D.bl) ρ s)) Q := h
      cases q2 : ev F pb false ρ1 s1 with
      | bad => rw [q2] at h'; exact h'
      | exc c fs ρ' s' => rw [q2] at h'; exact h'
      | ok dy ρ2 s2 =>
        rw [q2] at h'
        show Go _ _ _ _ _ _ _ (Out.get ((cmpD op dx dy).map D.bl) ρ2 s2) _
        have h2 : GoT T.g W w0 w ρ σ (fin true (Out.get ((cmpD op dx dy).map D.bl) ρ2 s2)) Q := h'
        cases q3 : cmpD op dx dy with
        | none => rw [q3] at h2; exact h2
        | some b =>
          rw [q3] at h2
          obtain ⟨b', e, z⟩ := h2
          cases e
          intro v w' G1 S O hp
          cases hp
          exact ⟨b, rfl, z w' G1 S O⟩
end
end Z

namespace Z
open PySem PySem.Spec PyProof.Rows L2
section
variable {F : List Fn} {T : Tb} {N : List Str} {sc : Scope} {ow : Str → Bool} {W : WX} {X : Cx} {p q pa pb pc : Ex} {w0 w w1 w2 : Ws} {ρ ρ1 : En} {s s1 : List D} {σ : L2.St} {H : Hp} {Q : VK} {k1 k2 k3 : Kd} {kk : Kd}
theorem tru_okD {g : G} {v : V} {d : D} {b : Bool} (B : Base g w s) (t : Tr g w v d) (h : truth d = some b) : TruV g.K v w.H b := by
  unfold truth at h
  split at h
  · cases h; cases t.non; rfl
  · cases h; cases t.bl; rfl
  · cases h; cases t.int; rfl
  · cases h
    obtain ⟨a, xs, rfl, h1, r, _⟩ := t.tup B
    refine .inr (.inl ⟨xs, h1, ?_⟩)
    cases r <;> rfl
  · cases h
    obtain ⟨a, xs, rfl, h1, r⟩ := t.lst B
    refine .inl ⟨xs, SqL.of h1, ?_⟩
    cases r <;> rfl
  · cases h
theorem r_truth {e : Expr} (hp : ∀ ρ s, ev F p true ρ s = fin true (ev F p false ρ s)) (K : X.K = T.g.K) (ha : PE X e (tI F T.g W k1 p)) (he : ∀ whole, isTrue e X.env whole = (do let v ← whole; standAt e.pos; holding [v] (truthy v))) : PT X e (tT F T.g W p) := by
  refine PT.imp (pt_truth ha he) fun σ H Q ⟨w0, w, ρ, s, e, G0, h⟩ => ?_
  subst e
  rw [hp] at h
  have h' : GoT T.g W w0 w ρ σ ((ev F p false ρ s).bind fun x ρ s => Out.get ((truth x).map D.bl) ρ s) Q := h
  refine tI_mono (go_bindT (kq := k1) G0 h') fun x H1 ⟨w1, d, ρ1, s1, M, pd, h1⟩ => ?_
  obtain ⟨rfl, G1, S1, O1⟩ := M
  cases q : truth d with
  | none => rw [q] at h1; exact h1.elim
  | some b =>
    rw [q] at h1
    obtain ⟨b', e, z⟩ := h1
    cases e
    rw [K]
    exact ⟨b, tru_okD G1.base (pd.tr G1.ext) q, z w1 G1 (Step.refl _) (Os.refl _)⟩
theorem r_neg {a : Expr} {pos : Pos} (ha : PE X a (tI F T.g W k1 pa)) : PE X (.UnaryOp .USub a pos) (tI F T.g W .k (.neg pa)) := by
  refine PE.imp (pe_un un_neg ha) fun σ H Q ⟨w0, w, ρ, s, e, G0, h⟩ => ?_
  subst e
  unfold ev at h
  simp only [fin_f] at h
  refine tI_mono (go_bind (kq := k1) G0 h) fun x H1 ⟨w1, d, ρ1, s1, M, pd, h1⟩ => ?_
  obtain ⟨rfl, G1, S1, O1⟩ := M
  have t := pd.tr G1.ext
  split at h1
  · cases t.int
    exact ⟨_, rfl, Go.here G1 h1 (.int _)⟩
  · exact h1.elim
theorem r_not {a : Expr} {pos : Pos} (ha : PE X a (tI F T.g W k1 pa)) (ht : PT X a (tT F T.g W pa)) :
    PE X (.UnaryOp .Not a pos) (tI F T.g W .k (.nt pa)) ∧ PT X (.UnaryOp .Not a pos) (tT F T.g W (.nt pa)) := by
  refine ⟨PE.imp (pe_not ha) fun σ H Q ⟨w0, w, ρ, s, e, G0, h⟩ => ?_, PT.imp (pt_not ht) fun σ H Q ⟨w0, w, ρ, s, e, G0, h⟩ => ?_⟩
  · subst e
    unfold ev at h
    refine tI_mono (go_bind (kq := k1) G0 h) fun x H1 ⟨w1, d, ρ1, s1, M, pd, h1⟩ => ?_
    obtain ⟨rfl, G1, S1, O1⟩ := M
    have t := pd.tr G1.ext
    split at h1
    · cases t.bl
      exact ⟨_, rfl, Go.here G1 h1 (.bl _)⟩
    · exact h1.elim
  · subst e
    unfold ev at h
    obtain ⟨w0', w', ρ', s', e', G', z⟩ := goT_bindT G0 (by intro d ρ1 s1 hn; cases d <;> first | rfl | exact absurd rfl (hn _)) h
    refine ⟨w0', w', ρ', s', e', G', ?_⟩
    cases q : ev F pa true ρ' s' with
    | bad => rw [q] at z; exact z
    | exc c fs ρ s => rw [q] at z; exact z
    | ok d ρ1 s1 =>
      rw [q] at z
      obtain ⟨b, e, z⟩ := z
      refine ⟨b, e, fun w1 G1 S1 O1 => ?_⟩
      obtain ⟨w2, ρ2, s2, M, b', e2, y⟩ := z w1 G1 S1 O1
      cases e2
      rw [← M.h]
      exact y w2 M.good (Step.refl _) (Os.refl _)
theorem tT_mono {P P' : Bool → Hp → Prop} (h : tT F T.g W p σ H P) (i : ∀ v H', P v H' → P' v H') : tT F T.g W p σ H P' := by
  obtain ⟨w0, w, ρ, s, e, G0, z⟩ := h
  refine ⟨w0, w, ρ, s, e, G0, ?_⟩
  cases q : ev F p true ρ s with
  | ok d ρ' s' =>
    rw [q] at z
    obtain ⟨b, e, z⟩ := z
    exact ⟨b, e, fun w' a b c => i _ _ (z w' a b c)⟩
  | exc c fs ρ' s' => rw [q] at z; exact z
  | bad => rw [q] at z; exact z
theorem blcase {k : Out} {ke : Bool → Out} (d : D) (f : D → Out) (hf : ∀ b, f (.bl b) = ke b) (hn : ∀ b, d ≠ .bl b) (hb : ∀ d, (∀ b, d ≠ .bl b) → f d = .bad) : f d = .bad := hb d hn
/-- a and b: as a value, as a test -/
theorem r_andV {a b : Expr} {rest : List Expr} {pos : Pos} (ha : PE X a (tI F T.g W k1 pa)) (hb : PE X (.BoolOp .And (b :: rest) pos) (tI F T.g W .k pb)) : PE X (.BoolOp .And (a :: b :: rest) pos) (tI F T.g W .k (.an pa pb)) := by
  refine PE.imp (pe_and ha hb) fun σ H Q ⟨w0, w, ρ, s, e, G0, h⟩ => ?_
  subst e
  unfold ev at h
  refine tI_mono (go_bind (kq := k1) G0 h) fun x H1 ⟨w1, d, ρ1, s1, M, pd, h1⟩ => ?_
  obtain ⟨rfl, G1, S1, O1⟩ := M
  have t := pd.tr G1.ext
  split at h1
  · cases t.bl
    exact ⟨true, rfl, iteT ⟨w0, w1, ρ1, s1, rfl, G1, h1⟩⟩
  · cases t.bl
    exact ⟨false, rfl, iteF (Go.here G1 h1 (.bl _))⟩
  · exact h1.elim
theorem r_orV {a b : Expr} {rest : List Expr} {pos : Pos} (ha : PE X a (tI F T.g W k1 pa)) (hb : PE X (.BoolOp .Or (b :: rest) pos) (tI F T.g W .k pb)) : PE X (.BoolOp .Or (a :: b :: rest) pos) (tI F T.g W .k (.orr pa pb)) := by
  refine PE.imp (pe_or ha hb) fun σ H Q ⟨w0, w, ρ, s, e, G0, h⟩ => ?_
  subst e
  unfold ev at h
  refine tI_mono (go_bind (kq := k1) G0 h) fun x H1 ⟨w1, d, ρ1, s1, M, pd, h1⟩ => ?_
  obtain ⟨rfl, G1, S1, O1⟩ := M
  have t := pd.tr G1.ext
  split at h1
  · cases t.bl
    exact ⟨true, rfl, iteT (Go.here G1 h1 (.bl _))⟩
  · cases t.bl
    exact ⟨false, rfl, iteF ⟨w0, w1, ρ1, s1, rfl, G1, h1⟩⟩
  · exact h1.elim
theorem bad_of {f : Bool → Out} {d : D} (hn : ∀ b, d ≠ .bl b) {a b : Out} : (match d with | .bl true => a | .bl false => b | _ => Out.bad) = .bad := by
  cases d with
  | bl b => exact absurd rfl (hn b)
  | _ => rfl
theorem r_andT {a b : Expr} {rest : List Expr} {pos : Pos} (ha : PT X a (tT F T.g W pa)) (hb : PW X (.BoolOp .And (b :: rest) pos) (tT F T.g W pb)) : PW X (.BoolOp .And (a :: b :: rest) pos) (tT F T.g W (.an pa pb)) := by
  refine ⟨fun wh pins sh σ H Q I ⟨w0, w, ρ, s, e, G0, h⟩ => (pw_and ha hb).run wh pins sh σ H Q I ?_⟩
  subst e
  unfold ev at h
  refine tT_mono (goT_bindT G0 (by intro d ρ1 s1 hn; cases d <;> first | rfl | exact absurd rfl (hn _)) h) fun b H1 ⟨w1, ρ1, s1, M, h1⟩ => ?_
  obtain ⟨rfl, G1, S1, O1⟩ := M
  cases b with
  | true => exact iteT ⟨w0, w1, ρ1, s1, rfl, G1, h1⟩
  | false =>
    obtain ⟨b', e, z⟩ := h1
    cases e
    exact iteF (z w1 G1 (Step.refl _) (Os.refl _))
theorem r_orT {a b : Expr} {rest : List Expr} {pos : Pos} (ha : PT X a (tT F T.g W pa)) (hb : PW X (.BoolOp .Or (b :: rest) pos) (tT F T.g W pb)) : PW X (.BoolOp .Or (a :: b :: rest) pos) (tT F T.g W (.orr pa pb)) := by
  refine ⟨fun wh pins sh σ H Q I ⟨w0, w, ρ, s, e, G0, h⟩ => (pw_or ha hb).run wh pins sh σ H Q I ?_⟩
  subst e
  unfold ev at h
  refine tT_mono (goT_bindT G0 (by intro d ρ1 s1 hn; cases d <;> first | rfl | exact absurd rfl (hn _)) h) fun b H1 ⟨w1, ρ1, s1, M, h1⟩ => ?_
  obtain ⟨rfl, G1, S1, O1⟩ := M
  cases b with
  | false => exact iteF ⟨w0, w1, ρ1, s1, rfl, G1, h1⟩
  | true =>
    obtain ⟨b', e, z⟩ := h1
    cases e
    exact iteT (z w1 G1 (Step.refl _) (Os.refl _))
theorem r_ife {c a b : Expr} {pos : Pos} (hc : PT X c (tT F T.g W pc)) (ha : PE X a (tI F T.g W .k pa)) (hb : PE X b (tI F T.g W .k pb)) : PE X (.IfExp c a b pos) (tI F T.g W .k (.ife pc pa pb)) := by
  refine PE.imp (pe_ifExp hc ha hb) fun σ H Q ⟨w0, w, ρ, s, e, G0, h⟩ => ?_
  subst e
  unfold ev at h
  refine tT_mono (goT_bind G0 (by intro d ρ1 s1 hn; cases d <;> first | rfl | exact absurd rfl (hn _)) h) fun b H1 ⟨w1, ρ1, s1, M, h1⟩ => ?_
  obtain ⟨rfl, G1, S1, O1⟩ := M
  cases b with
  | true => exact iteT ⟨w0, w1, ρ1, s1, rfl, G1, h1⟩
  | false => exact iteF ⟨w0, w1, ρ1, s1, rfl, G1, h1⟩
/-! ### a < b < c -/
theorem r_ch {a b c : Expr} {pos : Pos} {k : Nat} (op op' : Co) (K : X.K = T.g.K) (hr : Room k X.A) (ho : op ≠ .inn ∧ op ≠ .nin) (ho' : op' ≠ .inn ∧ op' ≠ .nin) (ha : PE X a (tI F T.g W k1 pa)) (hb : PE X b (tI F T.g W k2 pb)) (hc : PE X c (tI F T.g W k3 pc))
    (h0 : PE X (.Compare a [coO op, coO op'] [b, c] pos) (tChain (cmpR X.K op) (cmpR X.K op') (tI F T.g W k1 pa) (tI F T.g W k2 pb) (tI F T.g W k3 pc))) : PE X (.Compare a [coO op, coO op'] [b, c] pos) (tI F T.g W .k (.ch op op' pa pb pc)) := by
  refine PE.imp h0 fun σ H Q ⟨w0, w, ρ, s, e, G0, h⟩ => ?_
  subst e
  unfold ev at h
  simp only [fin_f] at h
  refine tI_mono (go_bind (kq := k1) G0 h) fun x H1 ⟨w1, dx, ρ1, s1, M, px, h1⟩ => ?_
  obtain ⟨rfl, G1, S1, O1⟩ := M
  refine tI_mono (go_bind (kq := k2) G1 h1) fun y H2 ⟨w2, dy, ρ2, s2, M, py, h2⟩ => ?_
  obtain ⟨rfl, G2, S2, O2⟩ := M
  have tx := (px.tr G1.ext).step S2
  have ty := py.tr G2.ext
  rw [K]
  cases q : cmpD op dx dy with
  | none => rw [q] at h2; exact h2.elim
  | some b1 =>
    rw [q] at h2
    refine cmp_ok G2.base tx ty q ⟨b1, rfl, ?_⟩
    cases b1 with
    | false => exact iteF (Go.here G2 h2 (.bl _))
    | true =>
      refine iteT (tI_mono (go_bind (kq := k3) G2 h2) fun z H3 ⟨w3, dz, ρ3, s3, M, pz, h3⟩ => ?_)
      obtain ⟨rfl, G3, S3, O3⟩ := M
      cases q3 : cmpD op' dy dz with
      | none => rw [q3] at h3; exact h3.elim
      | some b2 =>
        rw [q3] at h3
        exact cmp_ok G3.base (ty.step S3) (pz.tr G3.ext) q3 (Go.here G3 h3 (.bl _))
/-! ### items -/
theorem atI_rs {K : PySem.W.Frag} {cl al : List Addr} {Hf : Hp} {vs : List V} {ds : List D} {i : Int} {d : D} (r : Rs K cl al Hf vs ds) (h : atI ds i = some d) : ∃ v, atI vs i = some v ∧ R K cl al Hf v d := by
  unfold atI at h ⊢
  rw [r.length]
  cases q : ixN ds.length i with
  | none => rw [q] at h; cases h
  | some j =>
    rw [q] at h
    obtain ⟨v, a, b⟩ := r.get (i := j) h
    exact ⟨v, a, b⟩
theorem r_ix {a b : Expr} {pos : Pos} (K : X.K = T.g.K) (hs : PlainIx b) (ha : PE X a (tI F T.g W k1 pa)) (hb : PE X b (tI F T.g W k2 pb)) : PE X (.Subscript a b pos) (tI F T.g W .k (.ix pa pb)) := by
  refine PE.imp (pe_ix ix_seq ha hb hs) fun σ H Q ⟨w0, w, ρ, s, e, G0, h⟩ => ?_
  subst e
  unfold ev at h
  simp only [fin_f] at h
  refine two_op G0 h fun w2 x y dx dy ρ2 s2 G2 tx ty h2 => ?_
  rw [K]
  unfold ixD at h2
  split at h2
  · rename_i ds i
    cases ty.int
    obtain ⟨p, xs, rfl, t1, r, _⟩ := tx.tup G2.base
    cases q : atI ds i with
    | none => rw [q] at h2; exact h2.elim
    | some d =>
      rw [q] at h2
      obtain ⟨v, e1, e2⟩ := atI_rs r q
      exact .inr (.inl ⟨p, xs, _, v, rfl, rfl, t1, e1, Go.here G2 h2 e2⟩)
  · rename_i ds i
    cases ty.int
    obtain ⟨p, xs, rfl, t1, r⟩ := tx.lst G2.base
    cases q : atI ds i with
    | none => rw [q] at h2; exact h2.elim
    | some d =>
      rw [q] at h2
      obtain ⟨v, e1, e2⟩ := atI_rs r q
      exact .inl ⟨p, xs, _, v, rfl, rfl, SqL.of t1, e1, Go.here G2 h2 e2⟩
  · rename_i ds i
    cases ty.int
    obtain ⟨p, rfl, t1⟩ := tx.scr G2.base
    cases q : atI ds i with
    | none => rw [q] at h2; exact h2.elim
    | some d =>
      rw [q] at h2
      refine .inl ⟨p, _, _, .int d, rfl, rfl, t1, ?_, Go.here G2 h2 (.int d)⟩
      unfold atI at q ⊢
      rw [List.length_map]
      cases q2 : ixN ds.length i with
      | none => rw [q2] at q; cases q
      | some j =>
        rw [q2] at q
        show (ds.map V.int)[j]? = some (V.int d)
        have q' : ds[j]? = some d := q
        rw [List.getElem?_map, q']
        rfl
  · rename_i k i
    cases ty.int
    obtain ⟨p, d, o, rfl, e1, e2, e3, r⟩ := tx.mref G2.base
    rw [e2] at h2
    cases r with
    | lst r =>
      rename_i xs ds
      dsimp only at h2
      cases q : atI ds i with
      | none => rw [q] at h2; exact h2.elim
      | some d =>
        rw [q] at h2
        obtain ⟨v, e4, e5⟩ := atI_rs r q
        exact .inl ⟨p, xs, _, v, rfl, rfl, SqL.of e3, e4, Go.here G2 h2 e5⟩
    | ins c r => exact h2.elim
  · exact h2.elim
/-! ### lists of expressions -/
/-- the modes fit: a borrowed place takes anything, a kept one no bare name's loan -/
def fit : List Bool → List Kd → Bool
  | _, [] => true
  | true :: ms, _ :: ks => fit ms ks
  | false :: ms, k :: ks => k != .b && k != .s && fit ms ks
  | [], _ :: _ => false
end
end Z

namespace Z
open PySem PySem.Spec PyProof.Rows L2
section
variable {F : List Fn} {T : Tb} {N : List Str} {sc : Scope} {ow : Str → Bool} {W : WX} {X : Cx} {p q pa pb pc : Ex} {w0 w w1 w2 w' : Ws} {ρ ρ1 : En} {s s1 s' : List D} {σ : L2.St} {H : Hp} {Q : VK} {k1 k2 k3 : Kd} {kk : Kd} {ms : List Bool} {ps : List Ex}
def notStar : Expr → Bool
  | .Starred _ _ => false
  | _ => true
theorem starEach_of {e : Expr} (h : notStar e = true) (es : List Expr) (env : PySem.Env) : starEach (e :: es) env = (false, eval e env) :: starEach es env := by
  cases e <;> first | rfl | cases h
theorem noStars : ∀ {es : List Expr}, es.all notStar = true → ∀ (pos : Pos) (env : PySem.Env), (backTo pos (starEach es env)).any (·.1) = false
  | [], _, pos, env => rfl
  | e :: es, h, pos, env => by
    rw [List.all_cons] at h
    obtain ⟨h1, h2⟩ := Bool.and_eq_true_iff.mp h
    rw [starEach_of h1]
    have ih := noStars h2 pos env
    show List.any ((false, _) :: backTo pos (starEach es env)) (·.1) = false
    rw [List.any_cons, ih]
    rfl
theorem r_nil : PA X [] (tA F T.g W ms []) := PA.imp pa_nil fun σ H Q ⟨w0, w, ρ, s, e, G0, h⟩ => by
  subst e
  exact h [] w G0 (Step.refl _) (Os.refl _) .nil
theorem goL_cons {Q : List V → Hp → Prop} {b : Bool} {kq : Kd} (G0 : Good T.g w0 w ρ s σ) (h : GoL T.g W (b :: ms) w0 w ρ σ (evs F (p :: ps) ρ s) Q) (hk : ∀ w' w'' v d, Step w0 w'' → post T.g kq w0 w' w'' v d → if b then Tr T.g w'' v d else Rw T.g w'' v d) :
    tCons (tI F T.g W kq p) (tA F T.g W ms ps) σ w.H Q := by
  have e0 : evs F (p :: ps) ρ s = (ev F p false ρ s).bindL fun d ρ s => (evs F ps ρ s).bindL fun ds ρ s => .ok (d :: ds) ρ s := rfl
  rw [e0] at h
  refine ⟨w0, w, ρ, s, rfl, G0, ?_⟩
  cases q : ev F p false ρ s with
  | bad => rw [q] at h; exact h
  | exc c fs ρ' s' => rw [q] at h; exact h
  | ok d ρ1 s1 =>
    rw [q] at h
    intro v w1 G1 S1 O1 hp
    refine ⟨w0, w1, ρ1, s1, rfl, G1, ?_⟩
    have h' : GoL T.g W (b :: ms) w0 w ρ σ ((evs F ps ρ1 s1).bindL fun ds ρ s => .ok (d :: ds) ρ s) Q := h
    cases q2 : evs F ps ρ1 s1 with
    | bad => rw [q2] at h'; exact h'
    | exc c fs ρ' s' => rw [q2] at h'; exact h'
    | ok ds ρ2 s2 =>
      rw [q2] at h'
      intro vs w2 G2 S2 O2 hps
      refine h' (v :: vs) w2 G2 (S1.trans S2) (O1.trans O2) ?_
      have hh := hk _ _ v d G1.ext hp
      cases b with
      | true => exact .b (Tr.step hh S2) hps
      | false => exact .k (S2.r hh) hps
theorem r_consK {e : Expr} {es : List Expr} (hn : notStar e = true) (ha : PE X e (tI F T.g W .k p)) (hr : PA X es (tA F T.g W ms ps)) : PA X (e :: es) (tA F T.g W (false :: ms) (p :: ps)) :=
  PA.imp (pa_cons ha hr (starEach_of hn es X.env)) fun σ H Q ⟨w0, w, ρ, s, e, G0, h⟩ => by
    subst e
    exact goL_cons G0 h fun _ _ _ _ _ h => h
theorem r_consB {e : Expr} {es : List Expr} (hn : notStar e = true) (ha : PE X e (tI F T.g W k1 p)) (hr : PA X es (tA F T.g W ms ps)) : PA X (e :: es) (tA F T.g W (true :: ms) (p :: ps)) :=
  PA.imp (pa_cons ha hr (starEach_of hn es X.env)) fun σ H Q ⟨w0, w, ρ, s, e, G0, h⟩ => by
    subst e
    exact goL_cons G0 h fun _ _ _ _ E h => h.tr E
theorem Ps.all {g : G} {vs : List V} {ds : List D} (h : Ps g w ms vs ds) (hm : ms.all (· == false) = true) : Rws g w vs ds := by
  induction h with
  | nil => exact .nil
  | k r _ ih =>
    rw [List.all_cons] at hm
    exact .cons r (ih (Bool.and_eq_true_iff.mp hm).2)
  | b r _ ih => rw [List.all_cons] at hm; exact absurd (Bool.and_eq_true_iff.mp hm).1 (by decide)
theorem r_tup {es : List Expr} {x1 : Nat} {pos : Pos} (hm : ms.all (· == false) = true) (h : PA X es (tA F T.g W ms ps)) : PE X (.Tuple es x1 pos) (tI F T.g W .k (.tup ps)) := PE.imp (pe_tup h) fun σ H Q ⟨w0, w, ρ, s, e, G0, h⟩ => by
  subst e
  unfold ev at h
  simp only [fin_f] at h
  show tA F T.g W ms ps σ w.H _
  obtain ⟨w0', w', ρ', s', e', G', z⟩ := goL_bind (ms := ms) G0 h
  refine ⟨w0', w', ρ', s', e', G', ?_⟩
  cases q : evs F ps ρ' s' with
  | bad => rw [q] at z; exact z
  | exc c fs ρ s => rw [q] at z; exact z
  | ok ds ρ1 s1 =>
    rw [q] at z
    intro vs w1 G1 S1 O1 hp
    obtain ⟨w2, ds2, ρ2, s2, ⟨e2, G2, S2, O2⟩, hp2, z⟩ := z vs w1 G1 S1 O1 hp
    rw [← e2]
    split at z
    · rename_i hc
      have r := hp2.all hm
      exact ⟨by rw [r.length]; exact cap_ok hc, Go.newK G2 z fun p hp => .tup (SqT.of upd_same) ((step_upF G2.base hp).rs r)⟩
    · exact z.elim
theorem r_lst {es : List Expr} {pos : Pos} (hm : ms.all (· == false) = true) (h : PA X es (tA F T.g W ms ps)) : PE X (.List es pos) (tI F T.g W .f (.lst ps)) := PE.imp (pe_lst h) fun σ H Q ⟨w0, w, ρ, s, e, G0, h⟩ => by
  subst e
  unfold ev at h
  simp only [fin_f] at h
  show tA F T.g W ms ps σ w.H _
  obtain ⟨w0', w', ρ', s', e', G', z⟩ := goL_bind (ms := ms) G0 h
  refine ⟨w0', w', ρ', s', e', G', ?_⟩
  cases q : evs F ps ρ' s' with
  | bad => rw [q] at z; exact z
  | exc c fs ρ s => rw [q] at z; exact z
  | ok ds ρ1 s1 =>
    rw [q] at z
    intro vs w1 G1 S1 O1 hp
    obtain ⟨w2, ds2, ρ2, s2, ⟨e2, G2, S2, O2⟩, hp2, z⟩ := z vs w1 G1 S1 O1 hp
    rw [← e2]
    split at z
    · rename_i hc
      have r := hp2.all hm
      exact ⟨by rw [r.length]; exact cap_ok hc, Go.newF G2 z (.lst r)⟩
    · exact z.elim
/-! ### calls of one's own defs -/
def Fr (w w' : Ws) : Prop := ∀ a o, w.Hf a = none → w.H a = some o → w'.Hf a = none
def GoC (g : G) (w : Ws) (o : Ou) (Q : VK) (E : XK) : Prop := match o with
  | .ok d s' => ∀ v w', Base g w' s' → Step w w' → Fr w w' → Rw g w' v d → Q v w'.H
  | .exc c fs s' => ∀ C dx fv w', Base g w' s' → Step w w' → Fr w w' → g.cl[c]? = some C → w'.H dx = some (.xd fv) → Rf g.K g.cl w'.al w'.Hf fv fs → E (.ref C) (some dx) w'.H
  | .bad => False
/-- what a def promises: the plain function fn of n arguments, borrowed where ms says so -/
def spD (g : G) (ms : List Bool) (n : Nat) (fn : Fn) : Sp := fun vs H Q E => vs.length = n ∧ ∃ w s ds, w.H = H ∧ Base g w s ∧ Ps g w ms vs ds ∧ GoC g w (fn ds s) Q E
theorem Good.after {g : G} (G0 : Good g w0 w ρ s σ) (b : Base g w' s') (S : Step w w') (fr : Fr w w') : Good g w0 w' ρ s' σ := by
  refine ⟨b, G0.ext.trans S, fun a o e1 e2 => ?_, G0.len, fun i d e => ?_, fun i d e => ?_, G0.br, G0.dis⟩
  · have z := G0.new a o e1 e2
    by_cases ha : a ∈ w0.al
    · obtain ⟨u, hu⟩ := G0.base.alive (G0.ext.mem ha)
      exact fr a u z hu
    · exact fr a o z (G0.ext.hh a o e2 ha)
  · obtain ⟨v, e1, r⟩ := G0.im i d e
    exact ⟨v, e1, S.r r⟩
  · obtain ⟨a, o, e1, e2, e3, e4, e5, e6⟩ := G0.ow i d e
    refine ⟨a, o, e1, S.hh a o e2 e5, S.ro e3, fr a o e4 e2, fun hm => ?_, e6⟩
    rw [S.an a hm e5] at e2; cases e2
/-- a call, by values -/
def rD (g : G) (ms : List Bool) (n : Nat) (fn : Fn) (W : WX) (σ : L2.St) (vs : List V) (H : Hp) (Q : VK) : Prop := vs.length = n ∧ ∃ w s ds, w.H = H ∧ Base g w s ∧ Ps g w ms vs ds ∧ GoC g w (fn ds s) Q (fun cls d H => W cls d σ H)
/-- what is called and how: the name, how many arguments by place, the keywords' names, where it may borrow -/
structure CE where
  x : Str
  n : Nat
  ks : List Str
  ms : List Bool
theorem tA_mono {P P' : List V → Hp → Prop} (h : tA F T.g W ms ps σ H P) (i : ∀ v H', P v H' → P' v H') : tA F T.g W ms ps σ H P' := by
  obtain ⟨w0, w, ρ, s, e, G0, z⟩ := h
  refine ⟨w0, w, ρ, s, e, G0, ?_⟩
  cases q : evs F ps ρ s with
  | ok d ρ' s' => rw [q] at z; exact fun v w' a b c e => i _ _ (z v w' a b c e)
  | exc c fs ρ' s' => rw [q] at z; exact z
  | bad => rw [q] at z; exact z
def CallGood (T : Tb) (c : CE) (fn : Fn) : Prop := ∀ {F : List Fn} {N : List Str} {sc : Scope} {ow : Str → Bool} {W : WX} {X : Cx}, Ok T N sc ow W X → ∀ {es : List Expr} {kws : List Keyword} {ps qs : List Ex} {p pos : Pos}, es.length = c.n → es.all notStar = true → kws.map (·.arg) = c.ks.map some → qs.length = kws.length → Gl X c.x → (c.x == ("__debug__" : Str)) = false →
  PA X es (tA F T.g W c.ms ps) → PK X kws (tA F T.g W (c.ms.drop c.n) qs) →
  PE X (.Call (.Name c.x p) es kws pos) (fun σ H Q => tA F T.g W c.ms ps σ H fun vs H1 => tA F T.g W (c.ms.drop c.n) qs σ H1 fun zs H2 => rD T.g c.ms (c.n + c.ks.length) fn W σ (vs ++ zs) H2 Q)
theorem evs_len : ∀ {ps : List Ex} {ρ ρ' : En} {s s' : List D} {ds : List D}, evs F ps ρ s = .ok ds ρ' s' → ds.length = ps.length
  | [], ρ, ρ', s, s', ds, h => by cases h; rfl
  | p :: ps, ρ, ρ', s, s', ds, h => by
    have e0 : evs F (p :: ps) ρ s = (ev F p false ρ s).bindL fun d ρ s => (evs F ps ρ s).bindL fun ds ρ s => .ok (d :: ds) ρ s := rfl
    rw [e0] at h
    cases q : ev F p false ρ s with
    | bad => rw [q] at h; cases h
    | exc c fs ρ' s' => rw [q] at h; cases h
    | ok d ρ1 s1 =>
      rw [q] at h
      have h' : ((evs F ps ρ1 s1).bindL fun ds ρ s => OutL.ok (d :: ds) ρ s) = .ok ds ρ' s' := h
      cases q2 : evs F ps ρ1 s1 with
      | bad => rw [q2] at h'; cases h'
      | exc c fs ρ' s' => rw [q2] at h'; cases h'
      | ok ds2 ρ2 s2 =>
        rw [q2] at h'
        cases h'
        simp [evs_len q2]
theorem evs_app : ∀ {ps qs : List Ex} {ρ : En} {s : List D}, evs F (ps ++ qs) ρ s = (evs F ps ρ s).bindL fun ds ρ s => (evs F qs ρ s).bindL fun es ρ s => .ok (ds ++ es) ρ s
  | [], qs, ρ, s => by
    show evs F qs ρ s = (evs F qs ρ s).bindL fun es ρ s => .ok es ρ s
    cases evs F qs ρ s <;> rfl
  | p :: ps, qs, ρ, s => by
    have e0 : ∀ (ps : List Ex) ρ s, evs F (p :: ps) ρ s = (ev F p false ρ s).bindL fun d ρ s => (evs F ps ρ s).bindL fun ds ρ s => .ok (d :: ds) ρ s := fun _ _ _ => rfl
    rw [List.cons_append, e0, e0]
    cases ev F p false ρ s with
    | bad => rfl
    | exc c fs ρ s => rfl
    | ok d ρ1 s1 =>
      show (evs F (ps ++ qs) ρ1 s1).bindL _ = ((evs F ps ρ1 s1).bindL _).bindL _
      rw [evs_app]
      cases evs F ps ρ1 s1 with
      | bad => rfl
      | exc c fs ρ s => rfl
      | ok ds ρ2 s2 =>
        show ((evs F qs ρ2 s2).bindL _).bindL _ = (evs F qs ρ2 s2).bindL _
        cases evs F qs ρ2 s2 <;> rfl
theorem Ps.join {g : G} {vs us : List V} {ds es : List D} (h : Ps g w ms vs ds) : ∀ {n : Nat}, vs.length = n → Ps g w (ms.drop n) us es → Ps g w ms (vs ++ us) (ds ++ es) := by
  induction h with
  | nil => intro n hn h; subst hn; exact h
  | k r _ ih =>
    intro n hn h
    cases n with
    | zero => cases hn
    | succ n => exact .k r (ih (by simpa using hn) h)
  | b r _ ih =>
    intro n hn h
    cases n with
    | zero => cases hn
    | succ n => exact .b r (ih (by simpa using hn) h)
theorem r_call {f : Nat} {fn : Fn} {c : CE} {es : List Expr} {kws : List Keyword} {qs : List Ex} {pp pos : Pos} (hf : F[f]? = some fn) (hl : ps.length = c.n) (hq : qs.length = c.ks.length) (h0 : PE X (.Call (.Name c.x pp) es kws pos) (fun σ H Q => tA F T.g W c.ms ps σ H fun vs H1 => tA F T.g W (c.ms.drop c.n) qs σ H1 fun zs H2 => rD T.g c.ms (c.n + c.ks.length) fn W σ (vs ++ zs) H2 Q)) :
    PE X (.Call (.Name c.x pp) es kws pos) (tI F T.g W .k (.call f c.ms (ps ++ qs))) := PE.imp h0 fun σ H Q ⟨w0, w, ρ, s, e, G0, h⟩ => by
  subst e
  unfold ev at h
  simp only [fin_f] at h
  rw [evs_app] at h
  refine ⟨w0, w, ρ, s, rfl, G0, ?_⟩
  cases q : evs F ps ρ s with
  | bad => rw [q] at h; exact h
  | exc c fs ρ s => rw [q] at h; exact h
  | ok ds ρ1 s1 =>
    rw [q] at h
    intro vs w1 G1 S1 O1 hp
    refine ⟨w0, w1, ρ1, s1, rfl, G1, ?_⟩
    have h' : Go T.g W .k w0 w ρ σ (((evs F qs ρ1 s1).bindL fun es ρ s => OutL.ok (ds ++ es) ρ s).bind fun ds ρ s => match F[f]? with
      | some fn => match fn ds s with
        | .ok d s' => .ok d ρ s'
        | .exc c fs s' => .exc c fs ρ s'
        | .bad => .bad
      | none => .bad) Q := h
    cases q2 : evs F qs ρ1 s1 with
    | bad => rw [q2] at h'; exact h'
    | exc c fs ρ s => rw [q2] at h'; exact h'
    | ok es ρ2 s2 =>
      rw [q2] at h'
      intro zs w2 G2 S2 O2 hp2
      have hvl : vs.length = c.n := by rw [hp.length, evs_len q, hl]
      refine ⟨by rw [List.length_append, hvl, hp2.length, evs_len q2, hq], w2, s2, ds ++ es, rfl, G2.base, (hp.step S2).join hvl hp2, ?_⟩
      have h2 : Go T.g W .k w0 w ρ σ (match F[f]? with
        | some fn => match fn (ds ++ es) s2 with
          | .ok d s' => .ok d ρ2 s'
          | .exc c fs s' => .exc c fs ρ2 s'
          | .bad => .bad
        | none => .bad) Q := h'
      rw [hf] at h2
      dsimp only at h2
      cases q3 : fn (ds ++ es) s2 with
      | bad => rw [q3] at h2; exact h2
      | ok d s3 =>
        rw [q3] at h2
        exact fun v w3 B3 S3 F3 r3 => h2 v w3 (G2.after B3 S3 F3) ((S1.trans S2).trans S3) (O1.trans O2) r3
      | exc c fs s3 =>
        rw [q3] at h2
        exact fun C dx fv w3 B3 S3 F3 hC hdx hfv => h2 C dx fv w3 (G2.after B3 S3 F3) hC hdx hfv
theorem tA_nil {P : List V → Hp → Prop} (h : tA F T.g W ms [] σ H P) : P [] H := by
  obtain ⟨w0, w, ρ, s, e, G0, z⟩ := h
  subst e
  exact z [] w G0 (Step.refl _) (Os.refl _) .nil
theorem Ps.app {g : G} {vs us : List V} {ds es : List D} (h : Ps g w ms vs ds) (hl : vs.length = ms.length) (r : Rws g w us es) : Ps g w (ms ++ List.replicate us.length false) (vs ++ us) (ds ++ es) := by
  induction h with
  | nil =>
    rename_i ms
    cases ms with
    | cons _ _ => simp at hl
    | nil =>
      have key : ∀ {us : List V} {es : List D}, Rws g w us es → Ps g w (List.replicate us.length false) us es := by
        intro us es r
        induction us generalizing es with
        | nil => cases r; exact .nil
        | cons u us ih =>
          cases r with
          | cons a b => exact .k a (ih b)
      exact key r
  | k a _ ih => exact .k a (ih (by simpa using hl))
  | b a _ ih => exact .b a (ih (by simpa using hl))
/-- a def by its promise, called by place, its defaults dvs behind -/
theorem callGood {x : Str} {n : Nat} {ms : List Bool} {f : Addr} {fd : FuncData} {psn : List Str} {k : Nat} {ds : List Value} {dvs : List V} {dds : List D} {fn : Fn}
    (hk : k ≤ T.k) (hm : T.mg x = some (.ref f)) (kp : PySem.W.keepIn T.g.K (.ref f) = true) (hb : Binds T.g.K fd psn ds) (hd : Vals dvs ds)
    (rd : ∀ w : Ws, Rws T.g w dvs dds) (hn : n + dvs.length = psn.length) (hms : ms.length = n) (h0 : n ≠ 0)
    (FO : FnOk T.P T.w T.g.K T.mg T.base (L2.CX T.P T.w) k f fd psn (spD T.g (ms ++ List.replicate dvs.length false) psn.length fn)) : CallGood T ⟨x, n, [], ms⟩ (fun as s => fn (as ++ dds) s) := by
  intro F N sc ow W X ok es kws ps qs p pos hl hst hkw hqs hg hdb ha hpk
  cases kws with
  | cons _ _ => cases hkw
  | nil =>
  cases qs with
  | cons _ _ => cases hqs
  | nil =>
  cases es with
  | nil => exact absurd hl.symm h0
  | cons e es =>
    rw [List.all_cons] at hst
    obtain ⟨h1, h2⟩ := Bool.and_eq_true_iff.mp hst
    obtain ⟨eP, ew, eK, em, eb, ec, eN, _, _, room, tk, _⟩ := ok
    have FO2 : FnOk X.prog X.w X.K X.mg X.base (L2.CX X.prog X.w) k f fd psn (spD T.g (ms ++ List.replicate dvs.length false) psn.length fn) := by rw [eP, ew, eK, em, eb]; exact FO
    refine PE.imp (pe_callSD (E := fun σ cls d H => W cls d σ H) (ds := ds) (dvs := dvs) FO2 (room.mono hk) hg (by rw [em]; exact hm) (by rw [eK]; exact kp) (by rw [eK]; exact hb) hd (fun σ => passAt tk σ) ha hdb (starEach_of h1 es X.env) (noStars h2 _ _)) fun σ H Q h => ?_
    refine tA_mono h fun vs H1 h1 => ?_
    obtain ⟨hv, w, s, ds', e1, B, hp, go⟩ := tA_nil h1
    rw [List.append_nil] at hv hp
    exact ⟨by rw [List.length_append, hv]; exact hn, w, s, ds' ++ dds, e1, B, hp.app (by rw [hv, hms]; rfl) (rd w), go⟩
/-! ### calls with keywords -/
theorem run_fnNS {CX : CXT} {k n : Nat} {f : Addr} {fd : FuncData} {ps ks : List Str} {sp : Sp} {E : L2.St → XK} {g : List Value → List Value → List Value} {gV : List V → List V → List V} {pins : List (Addr × Obj)} {s : Shared} {us ws : List Value} {vs zs : List V} (F : FnOk X.prog X.w X.K X.mg X.base CX k f fd ps sp) (hr : Room k X.A) (hb : KBn X.K fd ps n ks g gV) (hx : PassesAt CX X σ (E σ))
    (I : Inv X pins σ H s) (r : Vals vs us) (rz : Vals zs ws) (l1 : vs.length = n) (l2 : zs.length = ks.length) (h : sp (gV vs zs) H Q (E σ)) : wpAny (model X.prog X.w) X.A (call (.ref f) us (ks.zip ws)) (EP X pins σ Q) X.xe s := by
  have r2 := hb.rel r rz
  refine wpAny_call (codeAny_mono (F.run X.A X.stack s H ⟨us, ks.zip ws⟩ (g us ws) (gV vs zs) Q (E σ) hr I.env0 (hb.to s us ws I.kIn (r.length.symm.trans l1) (rz.length.symm.trans l2)) r2 h) fun r s' hq => ?_)
  cases r with
  | error e => exact hx pins H s e s' I hq
  | ok fl =>
    cases fl with
    | ret u => exact I.after hq
    | next => exact False.elim hq
    | brk => exact False.elim hq
    | cont => exact False.elim hq
theorem pe_callNS {CX : CXT} {k n : Nat} {f : Addr} {fd : FuncData} {ps ks : List Str} {sp : Sp} {E : L2.St → XK} {g : List Value → List Value → List Value} {gV : List V → List V → List V} {x : Str} {p pos : Pos} {e : Expr} {es : List Expr} {kws : List Keyword} {t tk : TA} (F : FnOk X.prog X.w X.K X.mg X.base CX k f fd ps sp) (hr : Room k X.A) (hg : Gl X x) (hm : X.mg x = some (.ref f)) (hk : PySem.W.keepIn X.K (.ref f) = true) (hb : KBn X.K fd ps n ks g gV) (hx : ∀ σ, PassesAt CX X σ (E σ))
    (ha : PA X (e :: es) t) (hkw : PK X kws tk) (hall : (backToKw pos (keywordEach kws X.env)).all (·.1.isSome) = true) (hks : (backToKw pos (keywordEach kws X.env)).filterMap (·.1) = ks)
    (hdb : (x == ("__debug__" : Str)) = false) (he : starEach (e :: es) X.env = (false, eval e X.env) :: starEach es X.env)
    (hpl : ((backTo pos (starEach (e :: es) X.env)).any (·.1) || (backToKw pos (keywordEach kws X.env)).any (·.1.isNone)) = false) :
    PE X (.Call (.Name x p) (e :: es) kws pos) (fun σ H Q => t σ H fun vs H1 => tk σ H1 fun zs H2 => vs.length = n ∧ zs.length = ks.length ∧ sp (gV vs zs) H2 Q (E σ)) := by
  refine ⟨fun pins s σ H Q I h => ?_⟩
  refine wpAny_Call_Name_kw (ld_glob I hg hm ?_ hdb)
  refine PySem.W.callWith_KW (h₀ := X.base) I.ok.mod.kin hk hall (thn (ha.run pos pins s σ H _ I h) fun us s1 ⟨vs, H1, I1, r, q⟩ => ?_) hpl he
  refine thn (hkw.run pos pins s1 σ H1 _ I1 q) fun ws s2 ⟨zs, H2, I2, rz, l1, l2, q2⟩ => ⟨I2.kIn, ?_⟩
  rw [hks]
  exact run_fnNS F hr hb (hx σ) I2 r rz l1 l2 q2
theorem kwE_map : ∀ {kws : List Keyword} {ks : List Str} (pos : Pos) (env : PySem.Env), kws.map (·.arg) = ks.map some → (backToKw pos (keywordEach kws env)).all (·.1.isSome) = true ∧ (backToKw pos (keywordEach kws env)).filterMap (·.1) = ks ∧ (backToKw pos (keywordEach kws env)).any (·.1.isNone) = false
  | [], [], pos, env, _ => ⟨rfl, rfl, rfl⟩
  | [], _ :: _, _, _, h => by cases h
  | _ :: _, [], _, _, h => by cases h
  | ⟨nm, e, kp⟩ :: kws, k :: ks, pos, env, h => by
    simp only [List.map_cons, List.cons.injEq] at h
    obtain ⟨h1, h2⟩ := h
    subst h1
    obtain ⟨a, b, c⟩ := kwE_map (kws := kws) pos env h2
    have e0 : ∃ z, backToKw pos (keywordEach (⟨some k, e, kp⟩ :: kws) env) = (some k, z) :: backToKw pos (keywordEach kws env) := ⟨_, rfl⟩
    obtain ⟨z, e0⟩ := e0
    rw [e0]
    exact ⟨by rw [List.all_cons, a]; rfl, by rw [List.filterMap_cons, b], by rw [List.any_cons, c]; rfl⟩
theorem starAny {e : Expr} {es : List Expr} (h : (e :: es).all notStar = true) (pos : Pos) (env : PySem.Env) : (backTo pos (starEach (e :: es) env)).any (·.1) = false := by
  rw [List.all_cons] at h
  obtain ⟨h1, h2⟩ := Bool.and_eq_true_iff.mp h
  rw [starEach_of h1]
  show List.any ((false, _) :: backTo pos (starEach es env)) (·.1) = false
  rw [List.any_cons, noStars h2]
  rfl
/-- a def called with keywords: gV puts the values (and the defaults) in the parameters' order, gD the data -/
theorem callGoodK {x : Str} {n : Nat} {ks : List Str} {ms ms' : List Bool} {f : Addr} {fd : FuncData} {psn : List Str} {k : Nat} {fn : Fn} {gs : List Value → List Value → List Value} {gV : List V → List V → List V} {gD : List D → List D}
    (hk : k ≤ T.k) (hm : T.mg x = some (.ref f)) (kp : PySem.W.keepIn T.g.K (.ref f) = true) (hb : KBn T.g.K fd psn n ks gs gV) (h0 : n ≠ 0)
    (hV : ∀ (w : Ws) (vs zs : List V) (ds : List D), vs.length = n → zs.length = ks.length → Ps T.g w ms (vs ++ zs) ds → (gV vs zs).length = psn.length ∧ Ps T.g w ms' (gV vs zs) (gD ds))
    (FO : FnOk T.P T.w T.g.K T.mg T.base (L2.CX T.P T.w) k f fd psn (spD T.g ms' psn.length fn)) : CallGood T ⟨x, n, ks, ms⟩ (fun as s => fn (gD as) s) := by
  intro F N sc ow W X ok es kws ps qs p pos hl hst hkw hqs hg hdb ha hpk
  cases es with
  | nil => exact absurd hl.symm h0
  | cons e es =>
    have hst' := hst
    rw [List.all_cons] at hst
    obtain ⟨h1, h2⟩ := Bool.and_eq_true_iff.mp hst
    obtain ⟨eP, ew, eK, em, eb, ec, eN, _, _, room, tk, _⟩ := ok
    have FO2 : FnOk X.prog X.w X.K X.mg X.base (L2.CX X.prog X.w) k f fd psn (spD T.g ms' psn.length fn) := by rw [eP, ew, eK, em, eb]; exact FO
    obtain ⟨b1, b2, b3⟩ := kwE_map pos X.env hkw
    refine PE.imp (pe_callNS (E := fun σ cls d H => W cls d σ H) FO2 (room.mono hk) hg (by rw [em]; exact hm) (by rw [eK]; exact kp) (by rw [eK]; exact hb) (fun σ => passAt tk σ) ha hpk b1 b2 hdb (starEach_of h1 es X.env) (by rw [starAny hst', b3]; rfl)) fun σ H Q h => ?_
    -- the lengths of both lists
    obtain ⟨w0, w, ρ, s, e0, G0, z⟩ := h
    refine ⟨w0, w, ρ, s, e0, G0, ?_⟩
    cases q : evs F ps ρ s with
    | bad => rw [q] at z; exact z
    | exc c fs ρ' s' => rw [q] at z; exact z
    | ok ds ρ' s' =>
      rw [q] at z
      intro vs w1 G1 S1 O1 hp
      obtain ⟨w0', w', ρ2, s2, e2, G2, z2⟩ := z vs w1 G1 S1 O1 hp
      refine ⟨w0', w', ρ2, s2, e2, G2, ?_⟩
      cases q2 : evs F qs ρ2 s2 with
      | bad => rw [q2] at z2; exact z2
      | exc c fs ρ' s' => rw [q2] at z2; exact z2
      | ok es ρ3 s3 =>
        rw [q2] at z2
        intro zs w3 G3 S3 O3 hp3
        obtain ⟨hv, w4, s4, ds', e4, B, hp4, go⟩ := z2 zs w3 G3 S3 O3 hp3
        have lz : zs.length = ks.length := by
          rw [hp3.length, evs_len q2, hqs]
          have := congrArg List.length hkw
          simpa using this
        have lv : vs.length = n := by
          rw [List.length_append, lz] at hv
          have hv' : vs.length + ks.length = n + ks.length := hv
          omega
        obtain ⟨l1, l2⟩ := hV w4 vs zs ds' lv lz hp4
        exact ⟨lv, lz, l1, w4, s4, gD ds', e4, B, l2, go⟩
end
end Z

namespace Z
open PySem PySem.Spec PyProof.Rows L2
/-! sum of a tuple of ints -/
section
variable {prog : Program} {w : World} {A : Around} {E : Value → Shared → Prop} {s : Shared} {l : Addr} {its : List Value} {ns : List Int} {Q : Value → Shared → Prop}
theorem sumT_raw (hh : A.handled = none) (hl : s.heap.IsTuple l its.toArray) (hi : IntsAre its ns)
    (h : ∀ h' tk t', (∀ b o, s.heap.get? b = some o → h'.get? b = some o) → Q (.int ns.sum t') { s with heap := h', toks := tk }) : wpAny (model prog w) A (call (.builtin "sum") [.ref l]) Q E s := by
  obtain ⟨xs, e⟩ := hi.allInts.items
  have hn : numsOf (intItems xs).toList = ns := by rw [← e]; exact hi.numsOf
  rw [nums_intItems] at hn
  rw [e] at hl
  have hlt : l < s.heap.objs.size := by obtain ⟨_, e, _⟩ := hl; exact Heap.lt_size e
  refine call_sum_walkG (wpAny_pyIter_tuple hl ?_)
  refine ⟨_, _, _, _, _, _, numAt xs, rfl, Walks.tuple (A := A.in1) hh _ l (Nat.ne_of_lt hlt) (intItems xs), ⟨⟨_, Heap.get?_push_size _ rfl, rfl, rfl⟩, hl.push _⟩, (fun b hb => ?_), (fun _ _ => intItems_at), fun h' tk t' hk => ?_⟩
  · show b < (s.heap.push _).objs.size
    rw [Heap.size_push]
    rcases List.mem_cons.mp hb with rfl | hb
    · exact Nat.lt_succ_self _
    · rcases List.mem_cons.mp hb with rfl | hb
      · exact Nat.lt_succ_of_lt hlt
      · cases hb
  · have := h h' tk t' fun b o e => by
      refine hk b o (fun hm => ?_) (Heap.get?_push_of_some _ e)
      rcases List.mem_cons.mp hm with e1 | hm
      · exact absurd (e1 ▸ Heap.lt_size e) (Nat.lt_irrefl _)
      · cases hm
    rw [preSum_eq, List.take_of_length_le (by simp [intItems]), hn]
    exact this
end
section
variable {X : Cx}
def rSumT (K : PySem.W.Frag) : List V → Hp → VK → Prop := fun vs H Q => ∃ (a : Addr) (ns : List Int), vs = [V.ref a] ∧ SqT K H a (ns.map V.int) ∧ Q (.int ns.sum) H
theorem cr_sumT (hc : X.calm = true) : CallR X (.builtin "sum") (rSumT X.K) := by
  intro pins s σ H vs us Q I r h
  obtain ⟨a, ns, rfl, hs, q⟩ := h
  obtain ⟨its, rv, hl, _⟩ := I.tuple hs
  rw [Vals.ref1 r]
  exact sumT_raw (I.ok.hd hc) (show s.heap.IsTuple a its.toArray from hl) rv.ints fun h' tk t' hk => ⟨.int _, H, I.kept hk, ⟨_, rfl⟩, q⟩
end
section
variable {F : List Fn} {T : Tb} {N : List Str} {sc : Scope} {ow : Str → Bool} {W : WX} {X : Cx} {p q pa pb pc : Ex} {w0 w w1 w2 w' : Ws} {ρ ρ1 : En} {s s1 s' : List D} {σ : L2.St} {H : Hp} {Q : VK} {k1 k2 k3 : Kd} {kk : Kd} {ms : List Bool} {ps : List Ex}
inductive Trs (g : G) (w : Ws) : List V → List D → Prop
  | nil : Trs g w [] []
  | cons {v : V} {vs : List V} {d : D} {ds : List D} : Tr g w v d → Trs g w vs ds → Trs g w (v :: vs) (d :: ds)
theorem Ps.trs {g : G} {vs : List V} {ds : List D} (h : Ps g w ms vs ds) : Trs g w vs ds := by
  induction h with
  | nil => exact .nil
  | k r _ ih => exact .cons (.inl r) ih
  | b r _ ih => exact .cons r ih
theorem Trs.one {g : G} {vs : List V} {d : D} (h : Trs g w vs [d]) : ∃ v, vs = [v] ∧ Tr g w v d := by
  cases h with
  | cons a b => cases b; exact ⟨_, rfl, a⟩
theorem Trs.two {g : G} {vs : List V} {d e : D} (h : Trs g w vs [d, e]) : ∃ v u, vs = [v, u] ∧ Tr g w v d ∧ Tr g w u e := by
  cases h with
  | cons a b => obtain ⟨u, rfl, c⟩ := b.one; exact ⟨_, _, rfl, a, c⟩
def bfN : Bf → Str
  | .len => "len" | .sum => "sum" | .int => "int" | .tuple => "tuple" | .list => "list" | .max2 => "max" | .min2 => "min" | .abs => "abs"
def bfV : Bf → Value
  | .len => .builtin "len" | .sum => .builtin "sum" | .int => .type "int" | .tuple => .type "tuple" | .list => .type "list" | .max2 => .builtin "max" | .min2 => .builtin "min" | .abs => .builtin "abs"
theorem bf_boot (f : Bf) : bootBuiltins (bfN f) = some (bfV f) := by cases f <;> decide +kernel
theorem bf_ne (f : Bf) : bfN f ≠ "__name__" := by cases f <;> decide +kernel
theorem bf_db (f : Bf) : (bfN f == ("__debug__" : Str)) = false := by cases f <;> decide +kernel
def bfR (K : PySem.W.Frag) : Bf → List V → Hp → VK → Prop
  | .len => fun xs H Q => ∃ x n, xs = [x] ∧ LenV K x H n ∧ Q (.int n) H
  | .sum => fun xs H Q => rSum K xs H Q ∨ rSumT K xs H Q
  | .int => fun xs H Q => (∃ i, xs = [.int i] ∧ Q (.int i) H) ∨ ∃ k, xs = [.bl k] ∧ Q (.int (if k then 1 else 0)) H
  | .tuple => fun xs H Q => ∃ p ys, xs = [.ref p] ∧ ((SqL K H p ys ∧ ∀ l, H l = none → Q (.ref l) (upd H l (.tup ys))) ∨ (SqT K H p ys ∧ Q (.ref p) H))
  | .list => fun xs H Q => ∃ p ys, xs = [.ref p] ∧ (SqL K H p ys ∨ SqT K H p ys) ∧ ∀ l, H l = none → Q (.ref l) (upd H l (.lst ys))
  | .max2 => fun xs H Q => ∃ i j, xs = [.int i, .int j] ∧ Q (.int (if j > i then j else i)) H
  | .min2 => fun xs H Q => ∃ i j, xs = [.int i, .int j] ∧ Q (.int (if j < i then j else i)) H
  | .abs => fun xs H Q => ∃ i, xs = [.int i] ∧ Q (.int (if i < 0 then -i else i)) H
theorem bf_call (hc : X.calm = true) (f : Bf) : CallR X (bfV f) (bfR X.K f) := by
  cases f with
  | len => exact call_len
  | sum => exact (cr_sum hc).or (cr_sumT hc)
  | int => exact call_int1
  | tuple => exact call_tuple_of
  | list => exact call_list_of
  | max2 => exact call_max2 hc
  | min2 => exact call_min2 hc
  | abs => exact call_abs
theorem blt_ok {g : G} {f : Bf} {vs : List V} {ds : List D} {d : D} (G0 : Good g w0 w ρ s σ) (t : Trs g w vs ds) (h : bltD s f ds = some d) (hz : Go g W (kd (.blt f ps)) w0 w ρ σ (.ok d ρ s) Q) : bfR g.K f vs w.H Q := by
  have B := G0.base
  unfold bltD at h
  split at h
  · cases h
    obtain ⟨v1, rfl, t1⟩ := t.one
    obtain ⟨a, xs, rfl, h1, r, _⟩ := t1.tup B
    exact ⟨_, xs.length, rfl, .inr ⟨xs, h1, rfl⟩, by rw [r.length]; exact Go.here G0 hz (.int _)⟩
  · cases h
    obtain ⟨v1, rfl, t1⟩ := t.one
    obtain ⟨a, xs, rfl, h1, r⟩ := t1.lst B
    exact ⟨_, xs.length, rfl, .inl ⟨xs, SqL.of h1, rfl⟩, by rw [r.length]; exact Go.here G0 hz (.int _)⟩
  · cases h
    obtain ⟨v1, rfl, t1⟩ := t.one
    obtain ⟨a, rfl, h1⟩ := t1.scr B
    refine ⟨_, _, rfl, .inl ⟨_, h1, rfl⟩, ?_⟩
    rw [List.length_map]; exact Go.here G0 hz (.int _)
  · split at h
    · rename_i hc
      cases h
      obtain ⟨v1, rfl, t1⟩ := t.one
      cases t1.str
      exact ⟨_, _, rfl, ⟨cap_ok hc, rfl⟩, Go.here G0 hz (.int _)⟩
    · cases h
  · split at h
    · rename_i k xs e
      cases h
      obtain ⟨v1, rfl, t1⟩ := t.one
      obtain ⟨p, d, o, rfl, e1, e2, e3, r⟩ := t1.mref B
      rw [e] at e2
      cases e2
      cases r with
      | lst r => exact ⟨_, _, rfl, .inl ⟨_, SqL.of e3, rfl⟩, by rw [r.length]; exact Go.here G0 hz (.int _)⟩
    · cases h
  · obtain ⟨ns, e, e2⟩ := Option.map_eq_some_iff.mp h
    subst e2
    obtain ⟨v1, rfl, t1⟩ := t.one
    obtain ⟨a, xs, rfl, h1, r⟩ := t1.lst B
    cases ints_ok r e
    exact .inl ⟨_, ns, rfl, SqL.of h1, Go.here G0 hz (.int _)⟩
  · obtain ⟨ns, e, e2⟩ := Option.map_eq_some_iff.mp h
    subst e2
    obtain ⟨v1, rfl, t1⟩ := t.one
    obtain ⟨a, xs, rfl, h1, r, _⟩ := t1.tup B
    cases ints_ok r e
    exact .inr ⟨_, ns, rfl, h1, Go.here G0 hz (.int _)⟩
  · cases h
    obtain ⟨v1, rfl, t1⟩ := t.one
    cases t1.int
    exact .inl ⟨_, rfl, Go.here G0 hz (.int _)⟩
  · cases h
    obtain ⟨v1, rfl, t1⟩ := t.one
    cases t1.bl
    exact .inr ⟨_, rfl, Go.here G0 hz (.int _)⟩
  · cases h
    obtain ⟨v1, rfl, t1⟩ := t.one
    obtain ⟨a, xs, rfl, h1, r⟩ := t1.lst B
    exact ⟨a, xs, rfl, .inl ⟨SqL.of h1, Go.newK G0 hz fun p hp => .tup (SqT.of upd_same) ((step_upF B hp).rs r)⟩⟩
  · cases h
    obtain ⟨v1, rfl, t1⟩ := t.one
    obtain ⟨a, xs, rfl, h1, r, h2⟩ := t1.tup B
    exact ⟨a, xs, rfl, .inr ⟨h1, Go.here G0 hz (.tup h2 r)⟩⟩
  · cases h
    obtain ⟨v1, rfl, t1⟩ := t.one
    obtain ⟨a, xs, rfl, h1, r⟩ := t1.lst B
    exact ⟨a, xs, rfl, .inl (SqL.of h1), Go.newF G0 hz (.lst r)⟩
  · cases h
    obtain ⟨v1, rfl, t1⟩ := t.one
    obtain ⟨a, xs, rfl, h1, r, _⟩ := t1.tup B
    exact ⟨a, xs, rfl, .inr h1, Go.newF G0 hz (.lst r)⟩
  · cases h
    obtain ⟨v1, rfl, t1⟩ := t.one
    obtain ⟨a, rfl, h1⟩ := t1.scr B
    exact ⟨a, _, rfl, .inl h1, Go.newF G0 hz (.lst Rs.ints)⟩
  · cases h
    obtain ⟨v1, v2, rfl, t1, t2⟩ := t.two
    cases t1.int; cases t2.int
    exact ⟨_, _, rfl, Go.here G0 hz (.int _)⟩
  · cases h
    obtain ⟨v1, v2, rfl, t1, t2⟩ := t.two
    cases t1.int; cases t2.int
    exact ⟨_, _, rfl, Go.here G0 hz (.int _)⟩
  · cases h
    obtain ⟨v1, rfl, t1⟩ := t.one
    cases t1.int
    exact ⟨_, rfl, Go.here G0 hz (.int _)⟩
  · cases h
theorem goA_bind {kd : Kd} {k : List D → En → List D → Out} {P : List V → Hp → Prop} (G0 : Good T.g w0 w ρ s σ) (h : Go T.g W kd w0 w ρ σ ((evs F ps ρ s).bind k) Q)
    (hp : ∀ vs w1 ds ρ1 s1, Good T.g w0 w1 ρ1 s1 σ → Ps T.g w1 ms vs ds → ds.length = ps.length → Go T.g W kd w0 w1 ρ1 σ (k ds ρ1 s1) Q → P vs w1.H) : tA F T.g W ms ps σ w.H P := by
  refine ⟨w0, w, ρ, s, rfl, G0, ?_⟩
  cases q : evs F ps ρ s with
  | ok d ρ' s' =>
    rw [q] at h
    exact fun v w' a b c e => hp v w' d ρ' s' a e (evs_len q) (Go.shift h b c)
  | exc c fs ρ' s' => rw [q] at h; exact h
  | bad => rw [q] at h; exact h
theorem r_blt {es : List Expr} {e : Expr} {pp pos : Pos} (f : Bf) (K : X.K = T.g.K) (hc : X.calm = true) (hg : Gl X (bfN f)) (hm : X.mg (bfN f) = none) (hst : (e :: es).all notStar = true) (ha : PA X (e :: es) (tA F T.g W ms ps)) :
    PE X (.Call (.Name (bfN f) pp) (e :: es) [] pos) (tI F T.g W (kd (.blt f ps)) (.blt f ps)) := by
  rw [List.all_cons] at hst
  obtain ⟨h1, h2⟩ := Bool.and_eq_true_iff.mp hst
  have h0 : PE X (.Call (.Name (bfN f) pp) (e :: es) [] pos) (tCB (bfR X.K f) (tA F T.g W ms ps)) := by
    have bc := bf_call hc f
    have bb := bf_boot f
    have bn := bf_ne f
    have bd := bf_db f
    cases f with
    | len => exact pe_callB bc hg hm bb ha bn bd (starEach_of h1 es X.env) (noStars h2 _ _)
    | sum => exact pe_callB bc hg hm bb ha bn bd (starEach_of h1 es X.env) (noStars h2 _ _)
    | int => exact pe_callTy bc hg hm bb ha bn bd (starEach_of h1 es X.env) (noStars h2 _ _)
    | tuple => exact pe_callTy bc hg hm bb ha bn bd (starEach_of h1 es X.env) (noStars h2 _ _)
    | list => exact pe_callTy bc hg hm bb ha bn bd (starEach_of h1 es X.env) (noStars h2 _ _)
    | max2 => exact pe_callB bc hg hm bb ha bn bd (starEach_of h1 es X.env) (noStars h2 _ _)
    | min2 => exact pe_callB bc hg hm bb ha bn bd (starEach_of h1 es X.env) (noStars h2 _ _)
    | abs => exact pe_callB bc hg hm bb ha bn bd (starEach_of h1 es X.env) (noStars h2 _ _)
  refine PE.imp h0 fun σ H Q ⟨w0, w, ρ, s, e, G0, h⟩ => ?_
  subst e
  unfold ev at h
  simp only [fin_f] at h
  refine goA_bind G0 h fun vs w1 ds ρ1 s1 G1 hp _ h1 => ?_
  rw [K]
  cases q : bltD s1 f ds with
  | none => rw [q] at h1; exact h1.elim
  | some d => rw [q] at h1; exact blt_ok G1 hp.trs q h1
/-! ### isinstance -/
theorem tyx_of {g : G} {v : V} {d : D} (B : Base g w s) (t : Tr g w v d) {ty : Ty} {b : Bool} (h : isTy d ty = some b) : ∃ tv, TyX g.K w.H v tv ∧ PySem.W.kitOne g.K tv (.type (tyB ty)) = some b ∧ (∀ c, ty ≠ .own c) := by
  have lst : ∀ {a : Addr} {xs : List V}, w.H a = some (.lst xs) → TyX g.K w.H (.ref a) (.type "list") := fun h => .base (.lst h)
  cases d with
  | non =>
    cases t.non
    cases ty <;> (simp only [isTy] at h; first | (cases h; done) | (refine ⟨_, .base .non, ?_, fun c z => by cases z⟩; cases h; exact kit_ty (by decide +kernel)))
  | bl x =>
    cases t.bl
    cases ty <;> (simp only [isTy] at h; first | (cases h; done) | (refine ⟨_, .base (.bl x), ?_, fun c z => by cases z⟩; cases h; exact kit_ty (by decide +kernel)))
  | int x =>
    cases t.int
    cases ty <;> (simp only [isTy] at h; first | (cases h; done) | (refine ⟨_, .base (.int x), ?_, fun c z => by cases z⟩; cases h; exact kit_ty (by decide +kernel)))
  | str x =>
    cases t.str
    cases ty <;> (simp only [isTy] at h; first | (cases h; done) | (refine ⟨_, .base (.str x), ?_, fun c z => by cases z⟩; cases h; exact kit_ty (by decide +kernel)))
  | tup xs =>
    obtain ⟨a, ys, rfl, h1, r, _⟩ := t.tup B
    have hx : TyX g.K w.H (.ref a) (.type "tuple") := by
      rcases h1 with (h1 | ⟨o, h1⟩) | ⟨o, its, n, h1, h2, _⟩
      · exact .base (.tup h1)
      · exact .fTuple h1
      · exact .kTuple h1 h2
    cases ty <;> (simp only [isTy] at h; first | (cases h; done) | (refine ⟨_, hx, ?_, fun c z => by cases z⟩; cases h; exact kit_ty (by decide +kernel)))
  | lst xs =>
    obtain ⟨a, ys, rfl, h1, r⟩ := t.lst B
    cases ty <;> (simp only [isTy] at h; first | (cases h; done) | (refine ⟨_, lst h1, ?_, fun c z => by cases z⟩; cases h; exact kit_ty (by decide +kernel)))
  | scr _ => cases ty <;> cases h
  | obj _ _ => cases ty <;> cases h
  | mref _ => cases ty <;> cases h
def tyOk : Ty → Bool
  | .own _ => false
  | _ => true
def tyN (t : Ty) : Str := Str.ofString (tyB t)
theorem ty_boot {t : Ty} (h : tyOk t = true) : bootBuiltins (tyN t) = some (.type (tyB t)) := by cases t <;> first | (cases h; done) | decide +kernel
/-- isinstance(x, T) with one built-in class -/
theorem r_isi {a : Expr} {t : Ty} {pp p2 pos : Pos} (K : X.K = T.g.K) (ht : tyOk t = true) (hg : Gl X "isinstance") (hm : X.mg "isinstance" = none) (hgt : Gl X (tyN t)) (hmt : X.mg (tyN t) = none) (hst : notStar a = true) (ha : PE X a (tI F T.g W k1 pa)) :
    PE X (.Call (.Name "isinstance" pp) [a, .Name (tyN t) p2] [] pos) (tI F T.g W .k (.isi pa [t])) := by
  have hty : PE X (.Name (tyN t) p2) (tC (.ty (tyB t))) := pe_bltn hgt hmt (ty_boot ht) rfl (by cases t <;> first | (cases ht; done) | decide +kernel) (by cases t <;> first | (cases ht; done) | decide +kernel)
  have h0 := pe_callB (pos := pos) (p := pp) (X := X) call_isi hg hm (show bootBuiltins "isinstance" = some (.builtin "isinstance") by decide +kernel) (pa_cons ha (pa_cons hty pa_nil) (starEach_of hst _ _)) (by decide +kernel) (by decide +kernel) (starEach_of hst _ _) (by rfl)
  refine PE.imp h0 fun σ H Q ⟨w0, w, ρ, s, e, G0, h⟩ => ?_
  subst e
  unfold ev at h
  simp only [fin_f] at h
  refine tI_mono (go_bind (kq := k1) G0 h) fun x H1 ⟨w1, d, ρ1, s1, M, px, h1⟩ => ?_
  obtain ⟨rfl, G1, S1, O1⟩ := M
  have e1 : isTys d [t] = isTy d t := by
    show (match isTy d t, some false with | some true, some _ => some true | some false, r => r | _, _ => none) = isTy d t
    cases isTy d t with
    | none => rfl
    | some b => cases b <;> rfl
  rw [e1] at h1
  cases q : isTy d t with
  | none => rw [q] at h1; exact h1.elim
  | some b =>
    rw [q] at h1
    obtain ⟨tv, ty, ko, _⟩ := tyx_of G1.base (px.tr G1.ext) q
    refine ⟨x, .ty (tyB t), tv, .type (tyB t), b, rfl, .ty _, by rw [K]; exact ty, by rw [K]; exact ko, Go.here G1 h1 (.bl b)⟩
end
end Z

namespace Z
open PySem PySem.Spec PyProof.Rows L2
section
variable {F : List Fn} {T : Tb} {N : List Str} {sc : Scope} {ow : Str → Bool} {W : WX} {X : Cx} {p q pa pb pc : Ex} {w0 w w1 w2 w' : Ws} {ρ ρ1 : En} {s s1 s' : List D} {σ : L2.St} {H : Hp} {Q : VK} {k1 k2 k3 : Kd} {kk : Kd} {ms : List Bool} {ps : List Ex}
/-! ### freezing slots -/
theorem Good.frzAt {g : G} : ∀ {fz : List Nat} {w : Ws} {ρ : En}, Good g w0 w ρ s σ → ∃ w', w'.H = w.H ∧ Good g w0 w' (Z.frzAt ρ fz) s σ ∧ Step w w' ∧ Os ρ (Z.frzAt ρ fz)
  | [], w, ρ, G0 => ⟨w, rfl, G0, Step.refl w, Os.refl ρ⟩
  | i :: is, w, ρ, G0 => by
    unfold Z.frzAt
    split
    · rename_i d e
      obtain ⟨a, w1, e1, eH, G2, S2, O2, r2⟩ := G0.frz1 e
      obtain ⟨w2, e3, G3, S3, O3⟩ := Good.frzAt (fz := is) G2
      exact ⟨w2, e3.trans eH, G3, S2.trans S3, O2.trans O3⟩
    · exact Good.frzAt G0
/-! ### within a block -/
theorem wipeE_len (ρ : En) : ∀ vs : List Nat, (wipeE ρ vs).length = ρ.length
  | [] => rfl
  | v :: vs => by unfold wipeE; rw [List.length_set, wipeE_len ρ vs]
theorem wipeE_get {ρ : En} {i : Nat} {x : Sl} : ∀ {vs : List Nat}, (wipeE ρ vs)[i]? = some x → x ≠ .un → ρ[i]? = some x ∧ i ∉ vs
  | [], h, _ => ⟨h, by simp⟩
  | v :: vs, h, hx => by
    unfold wipeE at h
    by_cases hi : v = i
    · subst hi
      by_cases hv : v < (wipeE ρ vs).length
      · rw [List.getElem?_set_self hv] at h; cases h; exact absurd rfl hx
      · rw [List.getElem?_eq_none (by rw [List.length_set]; omega)] at h; cases h
    · rw [List.getElem?_set_ne hi] at h
      obtain ⟨a, b⟩ := wipeE_get h hx
      exact ⟨a, by simp [b, Ne.symm hi]⟩
theorem wipe_get {σ : L2.St} {i : Nat} : ∀ {vs : List Nat}, i ∉ vs → (wipe σ vs)[i]? = σ[i]?
  | [], _ => rfl
  | v :: vs, h => by
    unfold wipe
    rw [List.getElem?_set_ne (fun e => h (by simp [e]))]
    exact wipe_get fun hm => h (by simp [hm])
theorem wipe_gone {σ : L2.St} {i : Nat} : ∀ {vs : List Nat}, i ∈ vs → i < σ.length → (wipe σ vs)[i]? = some none
  | v :: vs, h, hl => by
    unfold wipe
    by_cases e : v = i
    · subst e
      rw [List.getElem?_set_self (by rw [wipe_length]; exact hl)]
    · rw [List.getElem?_set_ne e]
      exact wipe_gone (by simpa [Ne.symm e] using h) hl
theorem wipe_eq {σ σ' : L2.St} {vs : List Nat} (hl : σ'.length = σ.length) (h : ∀ i, i ∉ vs → σ'[i]? = σ[i]?) : wipe σ' vs = wipe σ vs := by
  refine List.ext_getElem? fun i => ?_
  by_cases hi : i ∈ vs
  · by_cases hb : i < σ.length
    · rw [wipe_gone hi hb, wipe_gone hi (by rw [hl]; exact hb)]
    · rw [List.getElem?_eq_none (by rw [wipe_length]; omega), List.getElem?_eq_none (by rw [wipe_length]; omega)]
  · rw [wipe_get hi, wipe_get hi, h i hi]
/-- the block's own world begins here: nothing is owned in it -/
theorem Good.blk {g : G} (G0 : Good g w0 w ρ s σ) (vs : List Nat) : Good g w w (blkE ρ vs) s (wipe σ vs) := by
  have key : ∀ {i : Nat} {x : Sl}, (blkE ρ vs)[i]? = some x → x ≠ .un → ∃ y, ρ[i]? = some y ∧ unS y = x ∧ i ∉ vs := fun {i x} h hx => by
    obtain ⟨a, b⟩ := wipeE_get h hx
    rw [List.getElem?_map] at a
    obtain ⟨y, e, e2⟩ := Option.map_eq_some_iff.mp a
    exact ⟨y, e, e2, b⟩
  refine ⟨G0.base, Step.refl w, fun a o h _ => h, by rw [wipe_length, blkE, wipeE_len, List.length_map]; exact G0.len, fun i d e => ?_, fun i d e => ?_, fun i d e => ?_, fun i j d d' a e _ _ _ => ?_⟩
  · obtain ⟨y, e1, e2, e3⟩ := key e (by intro z; cases z)
    cases y with
    | im d' =>
      cases e2
      obtain ⟨v, h1, h2⟩ := G0.im i d e1
      exact ⟨v, by rw [wipe_get e3]; exact h1, h2⟩
    | un => cases e2
    | ow d' => cases e2
    | br d' => cases e2
  · obtain ⟨y, e1, e2, e3⟩ := key e (by intro z; cases z)
    cases y <;> cases e2
  · obtain ⟨y, e1, e2, e3⟩ := key e (by intro z; cases z)
    cases y with
    | br d' =>
      cases e2
      obtain ⟨v, h1, h2⟩ := G0.br i d e1
      exact ⟨v, by rw [wipe_get e3]; exact h1, h2.step G0.ext⟩
    | un => cases e2
    | ow d' => cases e2
    | im d' => cases e2
  · obtain ⟨y, e1, e2, e3⟩ := key e (by intro z; cases z)
    cases y <;> cases e2
theorem Good.wipe {g : G} (G0 : Good g w0 w ρ s σ) (vs : List Nat) : Good g w0 w (wipeE ρ vs) s (L2.wipe σ vs) := by
  refine ⟨G0.base, G0.ext, G0.new, by rw [wipe_length, wipeE_len]; exact G0.len, fun i d e => ?_, fun i d e => ?_, fun i d e => ?_, fun i j d d' a e e' e2 e3 => ?_⟩
  · obtain ⟨e1, e3⟩ := wipeE_get e (by intro z; cases z)
    obtain ⟨v, h1, h2⟩ := G0.im i d e1
    exact ⟨v, by rw [wipe_get e3]; exact h1, h2⟩
  · obtain ⟨e1, e3⟩ := wipeE_get e (by intro z; cases z)
    obtain ⟨a, o, h1, h2⟩ := G0.ow i d e1
    exact ⟨a, o, by rw [wipe_get e3]; exact h1, h2⟩
  · obtain ⟨e1, e3⟩ := wipeE_get e (by intro z; cases z)
    obtain ⟨v, h1, h2⟩ := G0.br i d e1
    exact ⟨v, by rw [wipe_get e3]; exact h1, h2⟩
  · obtain ⟨f1, f3⟩ := wipeE_get e (by intro z; cases z)
    obtain ⟨f1', f3'⟩ := wipeE_get e' (by intro z; cases z)
    rw [wipe_get f3] at e2
    rw [wipe_get f3'] at e3
    exact G0.dis i j d d' a f1 f1' e2 e3
/-! ### targets -/
mutual
def gD (K : PySem.W.Frag) : Tg → TG
  | .nm i => gName i
  | .tp ts => gTup K ts.length (gDs K ts)
def gDs (K : PySem.W.Frag) : List Tg → TGs
  | [] => gNil
  | t :: ts => gCons (gD K t) (gDs K ts)
end
mutual
def slots : Tg → List Nat
  | .nm i => [i]
  | .tp ts => slotss ts
def slotss : List Tg → List Nat
  | [] => []
  | t :: ts => slots t ++ slotss ts
end
theorem Good.set {g : G} {v : V} {d : D} (G0 : Good g w0 w ρ s σ) (i : Nat) (r : Rw g w v d) : Good g w0 w (ρ.set i (.im d)) s (σ.set i (some v)) := by
  have key : ∀ {j : Nat} {x : Sl}, (ρ.set i (.im d))[j]? = some x → (i = j ∧ i < ρ.length ∧ x = .im d) ∨ (i ≠ j ∧ ρ[j]? = some x) := fun {j x} e => by
    by_cases hj : i = j
    · subst hj
      by_cases hi : i < ρ.length
      · rw [List.getElem?_set_self hi] at e; cases e; exact .inl ⟨rfl, hi, rfl⟩
      · rw [List.getElem?_eq_none (by rw [List.length_set]; omega)] at e; cases e
    · rw [List.getElem?_set_ne hj] at e; exact .inr ⟨hj, e⟩
  refine ⟨G0.base, G0.ext, G0.new, by rw [List.length_set, List.length_set]; exact G0.len, fun j d' e => ?_, fun j d' e => ?_, fun j d' e => ?_, fun j k d' d'' a e e' e2 e3 => ?_⟩
  · rcases key e with ⟨rfl, hi, e⟩ | ⟨hj, e⟩
    · cases e
      exact ⟨v, by rw [List.getElem?_set_self (by rw [G0.len]; exact hi)], r⟩
    · rw [List.getElem?_set_ne hj]; exact G0.im j d' e
  · rcases key e with ⟨rfl, hi, e⟩ | ⟨hj, e⟩
    · cases e
    · rw [List.getElem?_set_ne hj]; exact G0.ow j d' e
  · rcases key e with ⟨rfl, hi, e⟩ | ⟨hj, e⟩
    · cases e
    · rw [List.getElem?_set_ne hj]; exact G0.br j d' e
  · rcases key e with ⟨rfl, hi, e⟩ | ⟨hj, e⟩
    · cases e
    · rcases key e' with ⟨rfl, hi, e'⟩ | ⟨hk, e'⟩
      · cases e'
      · rw [List.getElem?_set_ne hj] at e2; rw [List.getElem?_set_ne hk] at e3
        exact G0.dis j k d' d'' a e e' e2 e3
mutual
theorem bind_ok {g : G} : ∀ {t : Tg} {d : D} {v : V} {ρ ρ' : En} {σ : L2.St} {Q : L2.St → Hp → Prop}, Good g w0 w ρ s σ → Rw g w v d → bindT t d ρ = some ρ' →
    (∀ σ', Good g w0 w ρ' s σ' → σ'.length = σ.length → (∀ j, j ∉ slots t → σ'[j]? = σ[j]?) → Q σ' w.H) → gD g.K t v σ w.H Q
  | .nm i, d, v, ρ, ρ', σ, Q, G0, r, h, q => by
    unfold bindT at h
    split at h
    · cases h
      refine q _ (G0.set i r) (by rw [List.length_set]) fun j hj => ?_
      exact List.getElem?_set_ne (fun e => hj (by simp [slots, e]))
    · cases h
  | .tp ts, d, v, ρ, ρ', σ, Q, G0, r, h, q => by
    cases d with
    | tup ds =>
      cases r with
      | tup hs rs =>
        rename_i a xs
        have hl : ts.length = ds.length := binds_len (show bindTs ts ds ρ = some ρ' from h)
        exact ⟨a, xs, rfl, sqT_mono G0.sub hs, by rw [rs.length, hl], binds_ok G0 rs (show bindTs ts ds ρ = some ρ' from h) q⟩
    | _ => cases h
theorem binds_ok {g : G} : ∀ {ts : List Tg} {ds : List D} {vs : List V} {ρ ρ' : En} {σ : L2.St} {Q : L2.St → Hp → Prop}, Good g w0 w ρ s σ → Rws g w vs ds → bindTs ts ds ρ = some ρ' →
    (∀ σ', Good g w0 w ρ' s σ' → σ'.length = σ.length → (∀ j, j ∉ slotss ts → σ'[j]? = σ[j]?) → Q σ' w.H) → gDs g.K ts vs σ w.H Q
  | [], [], _, ρ, ρ', σ, Q, G0, .nil, h, q => by
    cases h
    exact ⟨rfl, q σ G0 rfl fun _ _ => rfl⟩
  | t :: ts, d :: ds, _, ρ, ρ', σ, Q, G0, .cons r rs, h, q => by
    rename_i v vs
    have h' : (match bindT t d ρ with | some ρ1 => bindTs ts ds ρ1 | none => none) = some ρ' := h
    cases q1 : bindT t d ρ with
    | none => rw [q1] at h'; cases h'
    | some ρ1 =>
      rw [q1] at h'
      refine ⟨v, vs, rfl, bind_ok G0 r q1 fun σ1 G1 l1 e1 => ?_⟩
      refine binds_ok G1 rs h' fun σ2 G2 l2 e2 => q σ2 G2 (l2.trans l1) fun j hj => ?_
      have hj' : j ∉ slots t ++ slotss ts := hj
      rw [List.mem_append] at hj'
      exact (e2 j fun z => hj' (.inr z)).trans (e1 j fun z => hj' (.inl z))
  | [], _ :: _, _, _, _, _, _, _, _, h, _ => by cases h
  | _ :: _, [], _, _, _, _, _, _, _, h, _ => by cases h
theorem binds_len : ∀ {ts : List Tg} {ds : List D} {ρ ρ' : En}, bindTs ts ds ρ = some ρ' → ts.length = ds.length
  | [], [], _, _, _ => rfl
  | t :: ts, d :: ds, ρ, ρ', h => by
    have h' : (match bindT t d ρ with | some ρ1 => bindTs ts ds ρ1 | none => none) = some ρ' := h
    cases q1 : bindT t d ρ with
    | none => rw [q1] at h'; cases h'
    | some ρ1 =>
      rw [q1] at h'
      simp [binds_len h']
  | [], _ :: _, _, _, h => by cases h
  | _ :: _, [], _, _, h => by cases h
end
end
end Z

namespace Z
open PySem PySem.Spec PyProof.Rows L2
section
variable {F : List Fn} {T : Tb} {N : List Str} {sc : Scope} {ow : Str → Bool} {W : WX} {X : Cx} {p q pa pb pc : Ex} {w0 w w1 w2 w' : Ws} {ρ ρ1 : En} {s s1 s' : List D} {σ : L2.St} {H : Hp} {Q : VK} {k1 k2 k3 : Kd} {kk : Kd} {ms : List Bool} {ps : List Ex}
/-- what stays: the entry's things, the frozen ones -/
structure Sb (b : Bool) (w0 w1 w2 : Ws) : Prop where
  st : b = true → Step w0 w2
  hf : ∀ a o, w1.Hf a = some o → w2.Hf a = some o
  al : ∀ (k : Nat) (a : Addr), w1.al[k]? = some a → w2.al[k]? = some a
theorem Sb.of_step {b : Bool} (h0 : Step w0 w1) (S : Step w1 w2) : Sb b w0 w1 w2 := ⟨fun _ => h0.trans S, S.hf, S.al⟩
/-- the iterator J walks the items xs -/
def JI (b : Bool) (g : G) (w0 w1 : Ws) (J : L2.It) (xs : List D) : Prop := ∀ w2 s2, Base g w2 s2 → Sb b w0 w1 w2 → ∀ i : Nat,
  (∀ d, xs[i]? = some d → J.go i w2.H ∧ ∀ x H', J.yld i w2.H x H' → ∃ w3, w3.H = H' ∧ (w3 = w2 ∨ ∃ p o, w2.H p = none ∧ w3 = w2.upF p o) ∧ Rw g w3 x d) ∧ (xs.length ≤ i → J.stop i w2.H)
def tIt (b : Bool) (F : List Fn) (g : G) (W : WX) (it : Z.It) : TI := fun σ H R => ∃ w0 w ρ s, w.H = H ∧ Good g w0 w ρ s σ ∧ match evI F it ρ s with
  | .ok d ρ' s' => ∃ xs, itemsOf d = some xs ∧ ∀ J w', Good g w0 w' ρ' s' σ → Step w w' → Os ρ ρ' → JI b g w0 w' J xs → R J w'.H
  | .exc c fs ρ' s' => ∀ C dx fv w', Good g w0 w' ρ' s' σ → g.cl[c]? = some C → w'.H dx = some (.xd fv) → Rf g.K g.cl w'.al w'.Hf fv fs → W (.ref C) (some dx) σ w'.H
  | .bad => False
theorem PI.imp {tg e : Expr} {t t' : TI} (h : PI X tg e t) (i : ∀ σ H R, t' σ H R → t σ H R) : PI X tg e t' := ⟨fun pins s σ H R I hw => h.run pins s σ H R I (i σ H R hw)⟩
theorem PI.or {tg e : Expr} {t t' : TI} (h : PI X tg e t) (h' : PI X tg e t') : PI X tg e (fun σ H R => t σ H R ∨ t' σ H R) := ⟨fun pins s σ H R I hw => by
  rcases hw with hw | hw
  · exact h.run pins s σ H R I hw
  · exact h'.run pins s σ H R I hw⟩
theorem ji_seqL {b : Bool} {g : G} {a : Addr} {xs : List D} (h : ∀ w2 s2, Base g w2 s2 → Sb b w0 w1 w2 → ∃ vs, SqL g.K w2.H a vs ∧ Rws g w2 vs xs) : JI b g w0 w1 (Itl g.K a) xs := by
  intro w2 s2 B S i
  obtain ⟨vs, hs, r⟩ := h w2 s2 B S
  refine ⟨fun d hd => ?_, fun hl => ⟨vs, hs, by rw [r.length]; exact hl⟩⟩
  obtain ⟨v, e, rv⟩ := r.get hd
  refine ⟨⟨vs, v, hs, e⟩, fun x H' ⟨eH, hx⟩ => ⟨w2, eH.symm, .inl rfl, ?_⟩⟩
  have := hx vs hs
  rw [e] at this; cases this
  exact rv
theorem ji_seqT {b : Bool} {g : G} {a : Addr} {xs : List D} (h : ∀ w2 s2, Base g w2 s2 → Sb b w0 w1 w2 → ∃ vs, SqT g.K w2.H a vs ∧ Rws g w2 vs xs) : JI b g w0 w1 (Itt g.K a) xs := by
  intro w2 s2 B S i
  obtain ⟨vs, hs, r⟩ := h w2 s2 B S
  refine ⟨fun d hd => ?_, fun hl => ⟨vs, hs, by rw [r.length]; exact hl⟩⟩
  obtain ⟨v, e, rv⟩ := r.get hd
  refine ⟨⟨vs, v, hs, e⟩, fun x H' ⟨eH, hx⟩ => ⟨w2, eH.symm, .inl rfl, ?_⟩⟩
  have := hx vs hs
  rw [e] at this; cases this
  exact rv
theorem Sb.tr {b : Bool} {g : G} {v : V} {d : D} (S : Sb b w0 w1 w2) (h : Rw g w1 v d ∨ (b = true ∧ Tr g w0 v d)) : Tr g w2 v d := by
  rcases h with h | ⟨hb, h⟩
  · exact .inl (h.mono S.hf S.al)
  · exact h.step (S.st hb)
/-- .. frozen, or (where b) the entry's -/
theorem postC_tr {b : Bool} {g : G} {v : V} {d : D} (h : Rw g w' v d ∨ (b = true ∧ Tr g w0 v d)) (E : Step w0 w') : Tr g w' v d := by
  rcases h with h | ⟨_, h⟩
  · exact .inl h
  · exact h.step E
def GoK (b : Bool) (g : G) (W : WX) (w0 w : Ws) (ρ : En) (σ : L2.St) (o : Out) (Q : VK) : Prop := match o with
  | .ok d ρ' s' => ∀ v w', Good g w0 w' ρ' s' σ → Step w w' → Os ρ ρ' → (Rw g w' v d ∨ (b = true ∧ Tr g w0 v d)) → Q v w'.H
  | .exc c fs ρ' s' => ∀ C dx fv w', Good g w0 w' ρ' s' σ → g.cl[c]? = some C → w'.H dx = some (.xd fv) → Rf g.K g.cl w'.al w'.Hf fv fs → W (.ref C) (some dx) σ w'.H
  | .bad => False
theorem tI_c {b : Bool} {kq : Kd} (h : kq ≠ .b) (hb : b = false → kq ≠ .s) (hw : ∃ w0 w ρ s, w.H = H ∧ Good T.g w0 w ρ s σ ∧ GoK b T.g W w0 w ρ σ (ev F p false ρ s) Q) : tI F T.g W kq p σ H Q := by
  obtain ⟨w0, w, ρ, s, e, G0, z⟩ := hw
  by_cases hs : kq = .s
  · subst hs
    have hb' : b = true := by
      cases b with
      | true => rfl
      | false => exact absurd rfl (hb rfl)
    refine ⟨w0, w, ρ, s, e, G0, ?_⟩
    cases q : ev F p false ρ s with
    | exc c fs ρ' s' => rw [q] at z; exact z
    | bad => rw [q] at z; exact z
    | ok d ρ' s' =>
      rw [q] at z
      intro v w' G1 S O hp
      refine z v w' G1 S O ?_
      rcases hp with hp | hp
      · exact .inl hp
      · exact .inr ⟨hb', hp⟩
  · refine tI_k h hs ⟨w0, w, ρ, s, e, G0, ?_⟩
    cases q : ev F p false ρ s with
    | exc c fs ρ' s' => rw [q] at z; exact z
    | bad => rw [q] at z; exact z
    | ok d ρ' s' => rw [q] at z; exact fun v w' G1 S O hp => z v w' G1 S O (.inl hp)
theorem r_seq {b : Bool} {tg e : Expr} (K : X.K = T.g.K) (hk : kk ≠ .b) (hb : b = false → kk ≠ .s) (he : PE X e (tI F T.g W kk p)) : PI X tg e (tIt b F T.g W (.seq p)) := by
  refine PI.imp (PI.or (pi_list he) (pi_tup he)) fun σ H R ⟨w0, w, ρ, s, e0, G0, h⟩ => ?_
  subst e0
  have e1 : evI F (.seq p) ρ s = ev F p false ρ s := rfl
  rw [e1] at h
  cases q : ev F p false ρ s with
  | bad => rw [q] at h; exact h.elim
  | exc c fs ρ' s' =>
    rw [q] at h
    refine .inl (tI_c hk hb ⟨w0, w, ρ, s, rfl, G0, ?_⟩)
    rw [q]; exact h
  | ok d ρ' s' =>
    rw [q] at h
    obtain ⟨xs, hx, h⟩ := h
    cases d with
    | lst ds =>
      cases hx
      refine .inl (tI_c hk hb ⟨w0, w, ρ, s, rfl, G0, ?_⟩)
      rw [q]
      intro v w' G1 S O hp
      obtain ⟨a, vs, rfl, h1, r1⟩ := (show Tr T.g w' v (.lst xs) from postC_tr hp G1.ext).lst G1.base
      refine ⟨a, rfl, ⟨vs, SqL.of h1⟩, ?_⟩
      rw [K]
      refine h _ w' G1 S O (ji_seqL fun w2 s2 B2 S2 => ?_)
      obtain ⟨a', vs', e, h2, r2⟩ := (S2.tr hp).lst B2
      cases e
      exact ⟨vs', SqL.of h2, r2⟩
    | scr ns =>
      cases hx
      refine .inl (tI_c hk hb ⟨w0, w, ρ, s, rfl, G0, ?_⟩)
      rw [q]
      intro v w' G1 S O hp
      obtain ⟨a, rfl, h1⟩ := (show Tr T.g w' v (.scr ns) from postC_tr hp G1.ext).scr G1.base
      refine ⟨a, rfl, ⟨_, by rw [K]; exact h1⟩, ?_⟩
      rw [K]
      refine h _ w' G1 S O (ji_seqL fun w2 s2 B2 S2 => ?_)
      obtain ⟨a', e, h2⟩ := (S2.tr hp).scr B2
      cases e
      exact ⟨_, h2, Rs.ints⟩
    | tup ds =>
      cases hx
      refine .inr (tI_c hk hb ⟨w0, w, ρ, s, rfl, G0, ?_⟩)
      rw [q]
      intro v w' G1 S O hp
      obtain ⟨a, vs, rfl, h1, r1, _⟩ := (show Tr T.g w' v (.tup xs) from postC_tr hp G1.ext).tup G1.base
      refine ⟨a, rfl, ⟨vs, by rw [K]; exact h1⟩, ?_⟩
      rw [K]
      refine h _ w' G1 S O (ji_seqT fun w2 s2 B2 S2 => ?_)
      obtain ⟨a', vs', e, h2, r2, _⟩ := (S2.tr hp).tup B2
      cases e
      exact ⟨vs', h2, r2⟩
    | _ => cases hx
theorem rangeD_get {lo : Int} {n i : Nat} {d : D} (h : (rangeD lo n)[i]? = some d) : i < n ∧ d = .int (lo + i) := by
  unfold rangeD at h
  rw [List.getElem?_map] at h
  obtain ⟨k, e, e2⟩ := Option.map_eq_some_iff.mp h
  obtain ⟨hl, e3⟩ := List.getElem?_eq_some_iff.mp e
  rw [List.length_range] at hl
  rw [List.getElem_range] at e3
  subst e3
  exact ⟨hl, e2.symm⟩
theorem ji_range {b : Bool} {g : G} {lo : Int} {n : Nat} : JI b g w0 w1 (Itr lo n) (rangeD lo n) := by
  intro w2 s2 B S i
  refine ⟨fun d hd => ?_, fun hl => (show n ≤ i by simpa [rangeD] using hl)⟩
  obtain ⟨hi, rfl⟩ := rangeD_get hd
  exact ⟨hi, fun x H' ⟨eH, hx⟩ => ⟨w2, eH.symm, .inl rfl, by rw [hx]; exact .int _⟩⟩
theorem r_rng1 {b : Bool} {tg a : Expr} {pp pos : Pos} (hg : Gl X "range") (hm : X.mg "range" = none) (hst : notStar a = true) (ha : PE X a (tI F T.g W kk p)) : PI X tg (.Call (.Name "range" pp) [a] [] pos) (tIt b F T.g W (.rng1 p)) := by
  refine PI.imp (pi_range1 hg hm (pa_cons ha pa_nil (starEach_of hst _ _)) (starEach_of hst _ _)) fun σ H R ⟨w0, w, ρ, s, e0, G0, h⟩ => ?_
  subst e0
  have e1 : evI F (.rng1 p) ρ s = (ev F p false ρ s).bind fun x ρ s => match x with
    | .int n => if n ≤ 100000 ∧ -100000 ≤ n then .ok (.lst (rangeD 0 n.toNat)) ρ s else .bad
    | _ => .bad := rfl
  rw [e1] at h
  refine ⟨w0, w, ρ, s, rfl, G0, ?_⟩
  cases q : ev F p false ρ s with
  | bad => rw [q] at h; exact h.elim
  | exc c fs ρ' s' => rw [q] at h; exact h
  | ok d ρ' s' =>
    rw [q] at h
    intro v w' G1 S O hp
    have t := hp.tr G1.ext
    rw [Out.bind_ok] at h
    cases d with
    | int n =>
      cases t.int
      dsimp only at h
      split at h
      · rename_i xx d1 ρ1 s1 q1
        split at q1
        · rename_i hn
          cases q1
          obtain ⟨xs, hx, h⟩ := h
          cases hx
          exact ⟨n, rfl, by omega, by omega, h _ w' G1 S O ji_range⟩
        · cases q1
      · rename_i q1; split at q1 <;> cases q1
      · exact h.elim
    | _ => exact h.elim
theorem r_rng2 {bb : Bool} {tg a b : Expr} {pp pos : Pos} (hg : Gl X "range") (hm : X.mg "range" = none) (hst : notStar a = true) (hst2 : notStar b = true) (ha : PE X a (tI F T.g W k1 pa)) (hb : PE X b (tI F T.g W k2 pb)) : PI X tg (.Call (.Name "range" pp) [a, b] [] pos) (tIt bb F T.g W (.rng2 pa pb)) := by
  refine PI.imp (pi_range2 hg hm (pa_cons ha (pa_cons hb pa_nil (starEach_of hst2 _ _)) (starEach_of hst _ _)) (by rw [starEach_of hst, starEach_of hst2]; rfl) (starEach_of hst2 _ _)) fun σ H R ⟨w0, w, ρ, s, e0, G0, h⟩ => ?_
  subst e0
  have e1 : evI F (.rng2 pa pb) ρ s = (ev F pa false ρ s).bind fun x ρ s => (ev F pb false ρ s).bind fun y ρ s => match x, y with
    | .int l, .int n => if n ≤ 100000 ∧ -100000 ≤ n ∧ l ≤ 100000 ∧ -100000 ≤ l then .ok (.lst (rangeD l (n - l).toNat)) ρ s else .bad
    | _, _ => .bad := rfl
  rw [e1] at h
  refine ⟨w0, w, ρ, s, rfl, G0, ?_⟩
  cases q : ev F pa false ρ s with
  | bad => rw [q] at h; exact h.elim
  | exc c fs ρ' s' => rw [q] at h; exact h
  | ok d ρ' s' =>
    rw [q] at h
    intro v w' G1 S O hp
    refine ⟨w0, w', ρ', s', rfl, G1, ?_⟩
    rw [Out.bind_ok] at h
    cases q2 : ev F pb false ρ' s' with
    | bad => rw [q2] at h; exact h.elim
    | exc c fs ρ' s' => rw [q2] at h; exact h
    | ok d2 ρ2 s2 =>
      rw [q2] at h
      intro v2 w2 G2 S2 O2 hp2
      rw [Out.bind_ok] at h
      have t := (hp.tr G1.ext).step S2
      have t2 := hp2.tr G2.ext
      cases d with
      | int l =>
        cases d2 with
        | int n =>
          cases t.int
          cases t2.int
          dsimp only at h
          split at h
          · rename_i xx d1 ρ1 s1 q1
            split at q1
            · rename_i hn
              cases q1
              obtain ⟨xs, hx, h⟩ := h
              cases hx
              exact ⟨l, n, rfl, by omega, h _ w2 G2 (S.trans S2) (O.trans O2) ji_range⟩
            · cases q1
          · rename_i q1; split at q1 <;> cases q1
          · exact h.elim
        | _ => exact h.elim
      | _ => cases d2 <;> exact h.elim
/-! ### the list that a comprehension fills -/
/-- the world w2 with the list D of acc, outside of all slots; behind w1 -/
structure Acc (g : G) (w0 w1 : Ws) (ρ : En) (σ : L2.St) (D : Addr) (w2 : Ws) (s2 : List Z.D) (acc : List V) (ds : List Z.D) : Prop where
  good : Good g w0 w2 ρ s2 σ
  step : Step w1 w2
  hD : w2.H D = some (.lst acc)
  rs : Rws g w2 acc ds
  fD : w2.Hf D = none
  aD : D ∉ w2.al
  n1 : w1.H D = none
theorem Acc.no0 {g : G} {D : Addr} {acc : List V} {ds : List Z.D} {s2 : List Z.D} (A : Acc g w0 w1 ρ σ D w2 s2 acc ds) (G1 : Good g w0 w1 ρ s1 σ) : w0.H D = none ∧ ∀ (i : Nat) d, ρ[i]? = some (.ow d) → σ[i]? ≠ some (some (.ref D)) := by
  refine ⟨?_, fun i d e z => ?_⟩
  · cases q0 : w0.H D with
    | none => rfl
    | some u =>
      by_cases ha : D ∈ w0.al
      · exact absurd (A.step.mem (G1.ext.mem ha)) A.aD
      · have := G1.ext.hh D u q0 ha
        rw [A.n1] at this; cases this
  · obtain ⟨a, o, e1, e2, _⟩ := G1.ow i d e
    rw [z] at e1
    cases e1
    rw [A.n1] at e2; cases e2
/-- an own thing that is in no slot is written -/
theorem Good.mut {g : G} {p : Addr} {o u : HO} (G0 : Good g w0 w ρ s σ) (hp : w.H p = some u) (hf : w.Hf p = none) (hn : p ∉ w.al) (h0 : w0.H p = none) (ho : ∀ (i : Nat) d, ρ[i]? = some (.ow d) → σ[i]? ≠ some (some (.ref p))) : Good g w0 (w.up p o) ρ s σ := by
  have ra : ∀ {o' d}, RO g w o' d → RO g (w.up p o) o' d := fun r => by
    cases r with
    | lst r => exact .lst r
    | ins c r => exact .ins c r
  refine ⟨⟨fun a u e => ?_, G0.base.sl, fun k a e => ?_, G0.base.nd⟩, ⟨G0.ext.pa, G0.ext.hf, fun a u e na => ?_, G0.ext.an⟩, G0.new, G0.len, fun i d e => ?_, fun i d e => ?_, G0.br, G0.dis⟩
  · obtain ⟨e1, e2⟩ := G0.base.fz a u e
    refine ⟨?_, e2⟩
    show upd _ _ _ _ = _
    rw [upd_ne (ne_of_none e hf)]; exact e1
  · obtain ⟨d, u, e1, e2, e3⟩ := G0.base.st k a e
    refine ⟨d, u, e1, ?_, ra e3⟩
    show upd _ _ _ _ = _
    rw [upd_ne (fun z => hn (by rw [← z]; exact List.mem_of_getElem? e))]; exact e2
  · show upd _ _ _ _ = _
    rw [upd_ne (ne_of_none e h0)]; exact G0.ext.hh a u e na
  · exact G0.im i d e
  · obtain ⟨a, u, e1, e2, e3, e4, e5, e6⟩ := G0.ow i d e
    have ne : a ≠ p := fun z => ho i d e (by rw [e1, z])
    exact ⟨a, u, e1, by show upd _ _ _ _ = _; rw [upd_ne ne]; exact e2, ra e3, e4, e5, e6⟩
/-- one more item -/
theorem Acc.push {g : G} {D : Addr} {acc : List V} {ds : List Z.D} {s2 s4 : List Z.D} {w4 : Ws} {y : V} {d : Z.D} (A : Acc g w0 w1 ρ σ D w2 s2 acc ds) (G1 : Good g w0 w1 ρ s1 σ) (B : Base g w4 s4) (S : Step w2 w4) (fr : Fr w2 w4) (r : Rw g w4 y d) :
    w4.H D = some (.lst acc) ∧ Acc g w0 w1 ρ σ D (w4.up D (.lst (acc ++ [y]))) s4 (acc ++ [y]) (ds ++ [d]) := by
  have h4 : w4.H D = some (.lst acc) := S.hh _ _ A.hD A.aD
  have f4 : w4.Hf D = none := fr D _ A.fD A.hD
  have a4 : D ∉ w4.al := fun hm => by
    have := S.an D hm A.aD
    rw [A.hD] at this; cases this
  obtain ⟨h0, ho⟩ := A.no0 G1
  refine ⟨h4, (A.good.after B S fr).mut h4 f4 a4 h0 ho, ?_, upd_same, ?_, f4, a4, A.n1⟩
  · have S2 := A.step.trans S
    refine ⟨S2.pa, S2.hf, fun a u e na => ?_, S2.an⟩
    show upd _ _ _ _ = _
    rw [upd_ne (ne_of_none e A.n1)]; exact S2.hh a u e na
  · exact (S.rs A.rs).append (.one r)
end
end Z

namespace Z
open PySem PySem.Spec PyProof.Rows L2
abbrev W0 : WX := fun _ _ _ _ => False
section
variable {F : List Fn} {T : Tb} {N : List Str} {sc : Scope} {ow : Str → Bool} {W : WX} {X : Cx} {p q pa pb pc : Ex} {w0 w w1 w2 w' : Ws} {ρ ρ1 : En} {s s1 s' : List D} {σ : L2.St} {H : Hp} {Q : VK} {k1 k2 k3 : Kd} {kk : Kd} {ms : List Bool} {ps : List Ex}
def tO (F : List Fn) (g : G) (W : WX) (p : Option Ex) : TT := fun σ H Q => ∃ w0 w ρ s, w.H = H ∧ Good g w0 w ρ s σ ∧ GoT g W w0 w ρ σ (evO F p ρ s) Q
theorem r_none {sc : Scope} : PTs X [] (tO F T.g W none) := ⟨fun pins sh σ H Q I ⟨w0, w, ρ, s, e, G0, h⟩ => pts_nil.run pins sh σ H Q I (by
  subst e
  obtain ⟨b, e, z⟩ := h
  cases e
  exact z w G0 (Step.refl _) (Os.refl _))⟩
theorem r_some {c : Expr} (h : PT X c (tT F T.g W p)) : PTs X [c] (tO F T.g W (some p)) := ⟨fun pins sh σ H Q I hw => (pts_one h).run pins sh σ H Q I hw⟩
/-- what a comprehension's turn makes -/
def lcF (F : List Fn) (ρb : En) (tg : Tg) (co : Option Ex) (el : Ex) : D → List D → OutL := fun x s => match bindT tg x ρb with
  | some ρ1 => match evO F co ρ1 s with
    | .ok (.bl true) ρ2 s => match ev F el false ρ2 s with
      | .ok d _ s => .ok [d] [] s
      | _ => .bad
    | .ok (.bl false) _ s => .ok [] [] s
    | _ => .bad
  | none => .bad
theorem goL_step {f : D → List D → OutL} {x : D} {xs : List D} {s : List D} {ds : List D} {ρ : En} {s' : List D} (h : goL f (x :: xs) s = .ok ds ρ s') : ∃ d1 ρ1 s1 d2 ρ2, f x s = .ok d1 ρ1 s1 ∧ goL f xs s1 = .ok d2 ρ2 s' ∧ ds = d1 ++ d2 := by
  unfold goL at h
  cases q : f x s with
  | bad => rw [q] at h; cases h
  | exc c fs ρ s => rw [q] at h; cases h
  | ok d1 ρ1 s1 =>
    rw [q] at h
    dsimp only at h
    cases q2 : goL f xs s1 with
    | bad => rw [q2] at h; cases h
    | exc c fs ρ s => rw [q2] at h; cases h
    | ok d2 ρ2 s2 =>
      rw [q2] at h
      cases h
      exact ⟨d1, ρ1, s1, d2, ρ2, rfl, q2, rfl⟩
theorem Base.mem_al {g : G} (B : Base g w s) {p : Addr} (h : w.H p = none) : p ∉ w.al := (B.fresh h).1
/-- from what the iterator yields: the world w3, good, as before -/
theorem yld_good {g : G} {w3 : Ws} (G2 : Good g w0 w ρ s σ) (h : w3 = w ∨ ∃ p o, w.H p = none ∧ w3 = w.upF p o) : Good g w0 w3 ρ s σ ∧ Step w w3 ∧ Fr w w3 := by
  rcases h with rfl | ⟨p, o, hp, rfl⟩
  · exact ⟨G2, Step.refl _, fun a o h _ => h⟩
  · refine ⟨G2.upF hp, step_upF G2.base hp, fun a u h h' => ?_⟩
    show upd _ _ _ _ = _
    rw [upd_ne (ne_of_none h' hp)]; exact h
theorem Acc.move {g : G} {D : Addr} {acc : List V} {ds : List Z.D} {s2 s3 : List Z.D} {w3 : Ws} (A : Acc g w0 w1 ρ σ D w2 s2 acc ds) (G3 : Good g w0 w3 ρ s3 σ) (S : Step w2 w3) (fr : Fr w2 w3) : Acc g w0 w1 ρ σ D w3 s3 acc ds := by
  refine ⟨G3, A.step.trans S, S.hh _ _ A.hD A.aD, S.rs A.rs, fr D _ A.fD A.hD, fun hm => ?_, A.n1⟩
  have := S.an D hm A.aD
  rw [A.hD] at this; cases this
/-- the turn's reading: bind, test, make, push -/
theorem lc_turn {g : G} {D : Addr} {acc : List V} {ds : List Z.D} {s2 : List Z.D} {vs : List Nat} {tg : Tg} {co : Option Ex} {el : Ex} {x : V} {dx : Z.D} {d1 : List Z.D} {ρ' : En} {s' s1 : List Z.D} {Nx : Hp → Prop}
    (G1 : Good g w0 w1 ρ s1 σ) (A : Acc g w0 w1 ρ σ D w2 s2 acc ds) (rx : Rw g w2 x dx) (hsl : ∀ j ∈ slots tg, j ∈ vs) (hf : lcF F (blkE ρ vs) tg co el dx s2 = .ok d1 ρ' s') (hc : cap (ds.length + d1.length) = true)
    (hN : ∀ w5 acc5, Acc g w0 w1 ρ σ D w5 s' acc5 (ds ++ d1) → Nx w5.H) :
    gD g.K tg x (wipe σ vs) w2.H fun σ2 H2 => wipe σ2 vs = wipe σ vs ∧ tO F g W0 co σ2 H2 fun b H3 =>
      if b = true then tI F g W0 .k el σ2 H3 fun y H4 => ∃ acc, H4 D = some (.lst acc) ∧ acc.length < sizeLine ∧ Nx (upd H4 D (.lst (acc ++ [y]))) else Nx H3 := by
  have Gb := A.good.blk vs
  unfold lcF at hf
  cases q : bindT tg dx (blkE ρ vs) with
  | none => rw [q] at hf; cases hf
  | some ρ1 =>
    rw [q] at hf
    dsimp only at hf
    refine bind_ok Gb rx q fun σ' G3 hl hs => ?_
    refine ⟨wipe_eq (by rw [hl, wipe_length]) fun i hi => ?_, ?_⟩
    · rw [hs i fun z => hi (hsl i z), wipe_get hi]
    refine ⟨w2, w2, ρ1, s2, rfl, G3, ?_⟩
    cases q2 : evO F co ρ1 s2 with
    | bad => rw [q2] at hf; cases hf
    | exc c fs ρ s => rw [q2] at hf; cases hf
    | ok db ρ2 s3 =>
      rw [q2] at hf
      cases db with
      | bl b =>
        refine ⟨b, rfl, fun w3 G4 S4 O4 => ?_⟩
        have fr4 : Fr w2 w3 := G4.new
        cases b with
        | false =>
          cases hf
          refine iteF ?_
          rw [List.append_nil] at hN
          refine hN w3 acc ?_
          exact A.move (A.good.after G4.base S4 fr4) S4 fr4
        | true =>
          refine iteT ?_
          dsimp only at hf
          refine ⟨w2, w3, ρ2, s3, rfl, G4, ?_⟩
          cases q3 : ev F el false ρ2 s3 with
          | bad => rw [q3] at hf; cases hf
          | exc c fs ρ s => rw [q3] at hf; cases hf
          | ok de ρ3 s4 =>
            rw [q3] at hf
            cases hf
            intro y w4 G5 S5 O5 hp
            obtain ⟨h4, A5⟩ := A.push G1 G5.base (S4.trans S5) G5.new (show Rw g w4 y de from hp)
            refine ⟨acc, h4, ?_, hN _ _ A5⟩
            have := A.rs.length
            have := of_decide_eq_true hc
            simp at this
            exact Nat.lt_of_lt_of_le (show acc.length < 100000 by omega) (by decide)
      | _ => cases hf
theorem Acc.new {g : G} {D : Addr} (G1 : Good g w0 w1 ρ s1 σ) (h : w1.H D = none) : Acc g w0 w1 ρ σ D (w1.up D (.lst [])) s1 [] [] :=
  ⟨G1.up h, step_up G1.base h, upd_same, .nil, (G1.base.fresh h).2, (G1.base.fresh h).1, h⟩
theorem goL_nil {f : D → List D → OutL} {s : List D} : goL f [] s = .ok [] [] s := rfl
theorem lc_read {g : G} {fz vs : List Nat} {tg : Tg} {it : Z.It} {co : Option Ex} {el : Ex} (hsl : ∀ j ∈ slots tg, j ∈ vs) (G0 : Good g w0 w ρ s σ) (h : Go g W .f w0 w ρ σ (ev F (.lc fz vs tg it co el) false ρ s) Q) :
    tLc (tIt true F g W it) (gD g.K tg) (tO F g W0 co) (tI F g W0 .k el) vs σ w.H Q := by
  have e0 : ev F (.lc fz vs tg it co el) false ρ s = (evI F it ρ s).bind fun x ρ s => match itemsOf x with
    | some xs =>
      match goL (lcF F (blkE (Z.frzAt ρ fz) vs) tg co el) xs s with
      | .ok ds _ s => if cap ds.length then .ok (.lst ds) (Z.frzAt ρ fz) s else .bad
      | _ => .bad
    | none => .bad := rfl
  rw [e0] at h
  refine ⟨w0, w, ρ, s, rfl, G0, ?_⟩
  cases q : evI F it ρ s with
  | bad => rw [q] at h; exact h
  | exc c fs ρ' s' => rw [q] at h; exact h
  | ok d ρ1 s1 =>
    rw [q, Out.bind_ok] at h
    cases q1 : itemsOf d with
    | none => rw [q1] at h; exact h.elim
    | some xs =>
      rw [q1] at h
      refine ⟨xs, q1, fun J w1 G1 S1 O1 ji D hD => ?_⟩
      obtain ⟨w1', eH, G1', S1', O1'⟩ := G1.frzAt (fz := fz)
      rw [← eH] at hD ⊢
      cases q2 : goL (lcF F (blkE (Z.frzAt ρ1 fz) vs) tg co el) xs s1 with
      | bad => dsimp only at h; rw [q2] at h; exact h.elim
      | exc c fs ρ' s' => dsimp only at h; rw [q2] at h; exact h.elim
      | ok ds ρ9 s9 =>
        dsimp only at h
        rw [q2] at h
        dsimp only at h
        split at h
        · rename_i hc
          refine ⟨fun i m H => ∃ w2 s2 acc d1 d2 ρ8, w2.H = H ∧ Acc g w0 w1' (Z.frzAt ρ1 fz) σ D w2 s2 acc d1 ∧ goL (lcF F (blkE (Z.frzAt ρ1 fz) vs) tg co el) (xs.drop i) s2 = .ok d2 ρ8 s9 ∧ ds = d1 ++ d2 ∧ m = xs.length - i,
            ⟨_, _, s1, [], [], ds, ρ9, rfl, Acc.new G1' hD, q2, rfl, rfl⟩, fun i m H ⟨w2, s2, acc, d1, d2, ρ8, eH2, A, hg, ed, em⟩ => ?_⟩
          subst eH2
          have sb : Sb true w0 w1 w2 := ⟨fun _ => A.good.ext, fun a o e => A.step.hf a o (S1'.hf a o e), fun k a e => A.step.al k a (S1'.al k a e)⟩
          obtain ⟨j1, j2⟩ := ji w2 s2 A.good.base sb i
          by_cases hi : i < xs.length
          · refine .inr ?_
            have hx : xs[i]? = some xs[i] := List.getElem?_eq_getElem hi
            obtain ⟨go, yl⟩ := j1 _ hx
            refine ⟨go, fun H' => ∃ w2 s2 acc d1 d2 ρ8, w2.H = H' ∧ Acc g w0 w1' (Z.frzAt ρ1 fz) σ D w2 s2 acc d1 ∧ goL (lcF F (blkE (Z.frzAt ρ1 fz) vs) tg co el) (xs.drop (i + 1)) s2 = .ok d2 ρ8 s9 ∧ ds = d1 ++ d2,
              fun H' ⟨a1, a2, a3, a4, a5, a6, b1, b2, b3, b4⟩ => ⟨xs.length - (i + 1), by omega, a1, a2, a3, a4, a5, a6, b1, b2, b3, b4, rfl⟩, fun x H' hy => ?_⟩
            obtain ⟨w3, e3, h3, rx⟩ := yl x H' hy
            subst e3
            obtain ⟨G3, S3, fr3⟩ := yld_good A.good h3
            have A3 : Acc g w0 w1' (Z.frzAt ρ1 fz) σ D w3 s2 acc d1 := A.move G3 S3 fr3
            rw [List.drop_eq_getElem_cons hi] at hg
            obtain ⟨e1, ρa, sa, e2, ρb, f1, f2, f3⟩ := goL_step hg
            refine lc_turn G1' A3 rx hsl f1 ?_ fun w5 acc5 A5 => ⟨w5, sa, acc5, d1 ++ e1, e2, ρb, rfl, A5, f2, by rw [ed, f3, List.append_assoc]⟩
            · have hc' := of_decide_eq_true hc
              rw [ed, f3] at hc'
              simp at hc'
              exact decide_eq_true (by omega)
          · refine .inl ⟨j2 (by omega), ?_⟩
            rw [List.drop_of_length_le (by omega)] at hg
            cases hg
            rw [List.append_nil] at ed
            subst ed
            have SS := (S1.trans S1').trans A.step
            refine h (.ref D) w2 A.good SS (O1.trans O1') ⟨D, _, rfl, ?_, A.hD, .lst A.rs, A.fD, A.aD⟩
            cases q5 : w.H D with
            | none => rfl
            | some u =>
              by_cases ha : D ∈ w.al
              · exact absurd (SS.mem ha) A.aD
              · have := (S1.trans S1').hh D u q5 ha
                rw [hD] at this; cases this
        · exact h.elim
/-! ### two clauses -/
def NoOw (ρ : En) : Prop := ∀ (i : Nat) d, ρ[i]? ≠ some (.ow d)
theorem blkE_no (ρ : En) (vs : List Nat) : NoOw (blkE ρ vs) := fun i d h => by
  obtain ⟨a, b⟩ := wipeE_get h (by intro z; cases z)
  rw [List.getElem?_map] at a
  obtain ⟨y, e, e2⟩ := Option.map_eq_some_iff.mp a
  cases y <;> cases e2
theorem wipeE_no {ρ : En} (h : NoOw ρ) (vs : List Nat) : NoOw (wipeE ρ vs) := fun i d e => h i d (wipeE_get e (by intro z; cases z)).1
theorem set_no {ρ : En} (h : NoOw ρ) (i : Nat) (d : D) : NoOw (ρ.set i (.im d)) := fun j d' e => by
  by_cases hj : i = j
  · subst hj
    by_cases hi : i < ρ.length
    · rw [List.getElem?_set_self hi] at e; cases e
    · rw [List.getElem?_eq_none (by rw [List.length_set]; omega)] at e; cases e
  · rw [List.getElem?_set_ne hj] at e; exact h j d' e
mutual
theorem bind_no : ∀ {t : Tg} {d : D} {ρ ρ' : En}, NoOw ρ → bindT t d ρ = some ρ' → NoOw ρ'
  | .nm i, d, ρ, ρ', h, e => by
    unfold bindT at e
    split at e
    · cases e; exact set_no h i d
    · cases e
  | .tp ts, d, ρ, ρ', h, e => by
    cases d with
    | tup ds => exact binds_no h (show bindTs ts ds ρ = some ρ' from e)
    | _ => cases e
theorem binds_no : ∀ {ts : List Tg} {ds : List D} {ρ ρ' : En}, NoOw ρ → bindTs ts ds ρ = some ρ' → NoOw ρ'
  | [], [], ρ, ρ', h, e => by cases e; exact h
  | t :: ts, d :: ds, ρ, ρ', h, e => by
    have h' : (match bindT t d ρ with | some ρ1 => bindTs ts ds ρ1 | none => none) = some ρ' := e
    cases q1 : bindT t d ρ with
    | none => rw [q1] at h'; cases h'
    | some ρ1 =>
      rw [q1] at h'
      exact binds_no (bind_no h q1) h'
  | [], _ :: _, _, _, _, h => by cases h
  | _ :: _, [], _, _, _, h => by cases h
end
theorem Good.rebase {g : G} (G0 : Good g w0 w ρ s σ) (h : NoOw ρ) : Good g w w ρ s σ :=
  ⟨G0.base, Step.refl w, fun a o h _ => h, G0.len, G0.im, fun i d e => absurd e (h i d), fun i d e => by
    obtain ⟨v, e1, r⟩ := G0.br i d e
    exact ⟨v, e1, r.step G0.ext⟩, fun i j d e a h1 _ _ _ => absurd h1 (h i d)⟩
/-- the block's env over the outer entry -/
theorem Good.blk0 {g : G} (G0 : Good g w0 w ρ s σ) (vs : List Nat) : Good g w0 w (blkE ρ vs) s (L2.wipe σ vs) := by
  have Gb := G0.blk vs
  refine ⟨G0.base, G0.ext, G0.new, Gb.len, Gb.im, fun i d e => absurd e (blkE_no ρ vs i d), fun i d e => ?_, fun i j d e a h1 _ _ _ => absurd h1 (blkE_no ρ vs i d)⟩
  obtain ⟨a, b⟩ := wipeE_get e (by intro z; cases z)
  rw [List.getElem?_map] at a
  obtain ⟨y, e1, e2⟩ := Option.map_eq_some_iff.mp a
  cases y with
  | br d' =>
    cases e2
    obtain ⟨v, h1, h2⟩ := G0.br i d e1
    exact ⟨v, by rw [wipe_get b]; exact h1, h2⟩
  | un => cases e2
  | ow d' => cases e2
  | im d' => cases e2
theorem Good.env {g : G} {w3 : Ws} (G0 : Good g w0 w ρ s σ) (G1 : Good g w3 w ρ1 s σ) (h : NoOw ρ) (O : Os ρ ρ1) : Good g w0 w ρ1 s σ :=
  ⟨G0.base, G0.ext, G0.new, G1.len, G1.im, fun i d e => absurd (O.ow i d e) (h i d), fun i d e => G0.br i d (O.br i d e), fun i j d e a h1 _ _ _ => absurd (O.ow i d h1) (h i d)⟩
def lcF1 (F : List Fn) (ρ2 : En) (vs1 : List Nat) (tg1 : Tg) (el : Ex) : D → List D → OutL := fun y s => match bindT tg1 y (wipeE ρ2 vs1) with
  | some ρ3 => match ev F el false ρ3 s with
    | .ok d _ s => .ok [d] [] s
    | _ => .bad
  | none => .bad
def lcF2 (F : List Fn) (ρb : En) (vs1 : List Nat) (tg tg1 : Tg) (it1 : Z.It) (el : Ex) : D → List D → OutL := fun x s => match bindT tg x ρb with
  | some ρ1 => match evI F it1 ρ1 s with
    | .ok y ρ2 s => match itemsOf y with
      | some ys => goL (lcF1 F ρ2 vs1 tg1 el) ys s
      | none => .bad
    | _ => .bad
  | none => .bad
theorem lc2_read {g : G} {fz vs vs1 : List Nat} {tg tg1 : Tg} {it it1 : Z.It} {el : Ex} (hsl : ∀ j ∈ slots tg, j ∈ vs) (hsl1 : ∀ j ∈ slots tg1, j ∈ vs1) (G0 : Good g w0 w ρ s σ) (h : Go g W .f w0 w ρ σ (ev F (.lc2 fz vs vs1 tg it tg1 it1 el) false ρ s) Q) :
    tLc2 (tIt true F g W it) (gD g.K tg) tYes (tIt false F g W0 it1) (gD g.K tg1) tYes (tI F g W0 .k el) vs vs1 σ w.H Q := by
  have e0 : ev F (.lc2 fz vs vs1 tg it tg1 it1 el) false ρ s = (evI F it ρ s).bind fun x ρ s => match itemsOf x with
    | some xs =>
      match goL (lcF2 F (blkE (Z.frzAt ρ fz) vs) vs1 tg tg1 it1 el) xs s with
      | .ok ds _ s => if cap ds.length then .ok (.lst ds) (Z.frzAt ρ fz) s else .bad
      | _ => .bad
    | none => .bad := rfl
  rw [e0] at h
  refine ⟨w0, w, ρ, s, rfl, G0, ?_⟩
  cases q : evI F it ρ s with
  | bad => rw [q] at h; exact h
  | exc c fs ρ' s' => rw [q] at h; exact h
  | ok d ρ1 s1 =>
    rw [q, Out.bind_ok] at h
    cases q1 : itemsOf d with
    | none => rw [q1] at h; exact h.elim
    | some xs =>
      rw [q1] at h
      refine ⟨xs, q1, fun J w1 G1 S1 O1 ji D hD => ?_⟩
      obtain ⟨w1', eH, G1', S1', O1'⟩ := G1.frzAt (fz := fz)
      rw [← eH] at hD ⊢
      cases q2 : goL (lcF2 F (blkE (Z.frzAt ρ1 fz) vs) vs1 tg tg1 it1 el) xs s1 with
      | bad => dsimp only at h; rw [q2] at h; exact h.elim
      | exc c fs ρ' s' => dsimp only at h; rw [q2] at h; exact h.elim
      | ok ds ρ9 s9 =>
        dsimp only at h
        rw [q2] at h
        dsimp only at h
        split at h
        · rename_i hc
          refine ⟨fun i m H => ∃ w2 s2 acc d1 d2 ρ8, w2.H = H ∧ Acc g w0 w1' (Z.frzAt ρ1 fz) σ D w2 s2 acc d1 ∧ goL (lcF2 F (blkE (Z.frzAt ρ1 fz) vs) vs1 tg tg1 it1 el) (xs.drop i) s2 = .ok d2 ρ8 s9 ∧ ds = d1 ++ d2 ∧ m = xs.length - i,
            ⟨_, _, s1, [], [], ds, ρ9, rfl, Acc.new G1' hD, q2, rfl, rfl⟩, fun i m H ⟨w2, s2, acc, d1, d2, ρ8, eH2, A, hg, ed, em⟩ => ?_⟩
          subst eH2
          have sb : Sb true w0 w1 w2 := ⟨fun _ => A.good.ext, fun a o e => A.step.hf a o (S1'.hf a o e), fun k a e => A.step.al k a (S1'.al k a e)⟩
          obtain ⟨j1, j2⟩ := ji w2 s2 A.good.base sb i
          by_cases hi : i < xs.length
          · refine .inr ?_
            have hx : xs[i]? = some xs[i] := List.getElem?_eq_getElem hi
            obtain ⟨go, yl⟩ := j1 _ hx
            refine ⟨go, fun H' => ∃ w2 s2 acc d1 d2 ρ8, w2.H = H' ∧ Acc g w0 w1' (Z.frzAt ρ1 fz) σ D w2 s2 acc d1 ∧ goL (lcF2 F (blkE (Z.frzAt ρ1 fz) vs) vs1 tg tg1 it1 el) (xs.drop (i + 1)) s2 = .ok d2 ρ8 s9 ∧ ds = d1 ++ d2,
              fun H' ⟨a1, a2, a3, a4, a5, a6, b1, b2, b3, b4⟩ => ⟨xs.length - (i + 1), by omega, a1, a2, a3, a4, a5, a6, b1, b2, b3, b4, rfl⟩, fun x H' hy => ?_⟩
            obtain ⟨w3, e3, h3, rx⟩ := yl x H' hy
            subst e3
            obtain ⟨G3, S3, fr3⟩ := yld_good A.good h3
            have A3 : Acc g w0 w1' (Z.frzAt ρ1 fz) σ D w3 s2 acc d1 := A.move G3 S3 fr3
            rw [List.drop_eq_getElem_cons hi] at hg
            obtain ⟨e1, ρa, sa, e2, ρb, f1, f2, f3⟩ := goL_step hg
            unfold lcF2 at f1
            cases q3 : bindT tg xs[i] (blkE (Z.frzAt ρ1 fz) vs) with
            | none => rw [q3] at f1; cases f1
            | some ρ3 =>
              rw [q3] at f1
              dsimp only at f1
              have n3 : NoOw ρ3 := bind_no (blkE_no _ _) q3
              refine bind_ok (A3.good.blk0 vs) rx q3 fun σ3 G4 hl hs => ?_
              refine ⟨wipe_eq (by rw [hl, wipe_length]) fun i hi => ?_, ?_⟩
              · rw [hs i fun z => hi (hsl i z), wipe_get hi]
              dsimp only [tYes]
              rw [if_pos rfl]
              refine ⟨w3, w3, ρ3, s2, rfl, G4.rebase n3, ?_⟩
              cases q4 : evI F it1 ρ3 s2 with
              | bad => rw [q4] at f1; cases f1
              | exc c fs ρ s => rw [q4] at f1; cases f1
              | ok dy ρ4 s4 =>
                rw [q4] at f1
                dsimp only at f1
                cases q5 : itemsOf dy with
                | none => rw [q5] at f1; cases f1
                | some ys =>
                  rw [q5] at f1
                  dsimp only at f1
                  refine ⟨ys, q5, fun J1 w4 G5 S5 O5 ji1 => ?_⟩
                  have fr5 : Fr w3 w4 := G5.new
                  have G5' : Good g w0 w4 ρ4 s4 σ3 := (G4.after G5.base S5 fr5).env G5 n3 O5
                  have n4 : NoOw ρ4 := fun i d e => n3 i d (O5.ow i d e)
                  have A5 : Acc g w0 w1' (Z.frzAt ρ1 fz) σ D w4 s4 acc d1 := A3.move (A3.good.after G5.base S5 fr5) S5 fr5
                  refine ⟨fun j k H => ∃ w5 s5 acc d3 d4 ρ7, w5.H = H ∧ Acc g w0 w1' (Z.frzAt ρ1 fz) σ D w5 s5 acc d3 ∧ Good g w0 w5 ρ4 s5 σ3 ∧ Sb false w3 w4 w5 ∧ goL (lcF1 F ρ4 vs1 tg1 el) (ys.drop j) s5 = .ok d4 ρ7 sa ∧ d1 ++ e1 = d3 ++ d4 ∧ k = ys.length - j,
                    ⟨_, w4, s4, acc, d1, e1, ρa, rfl, A5, G5', ⟨fun z => absurd z (by decide), fun a o e => e, fun k a e => e⟩, f1, rfl, rfl⟩, fun j k H ⟨w5, s5, acc5, d3, d4, ρ7, eH5, A6, G6, sb5, hg6, ed6, ek⟩ => ?_⟩
                  subst eH5
                  obtain ⟨m1, m2⟩ := ji1 w5 s5 A6.good.base sb5 j
                  by_cases hj : j < ys.length
                  · refine .inr ?_
                    obtain ⟨go1, yl1⟩ := m1 _ (List.getElem?_eq_getElem hj)
                    refine ⟨go1, fun H' => ∃ w5 s5 acc d3 d4 ρ7, w5.H = H' ∧ Acc g w0 w1' (Z.frzAt ρ1 fz) σ D w5 s5 acc d3 ∧ Good g w0 w5 ρ4 s5 σ3 ∧ Sb false w3 w4 w5 ∧ goL (lcF1 F ρ4 vs1 tg1 el) (ys.drop (j + 1)) s5 = .ok d4 ρ7 sa ∧ d1 ++ e1 = d3 ++ d4,
                      fun H' ⟨a1, a2, a3, a4, a5, a6, b1, b2, b3, b4, b5, b6⟩ => ⟨ys.length - (j + 1), by omega, a1, a2, a3, a4, a5, a6, b1, b2, b3, b4, b5, b6, rfl⟩, fun x H' hy => ?_⟩
                    obtain ⟨w6, e6, h6, rx6⟩ := yl1 x H' hy
                    subst e6
                    obtain ⟨G7, S7, fr7⟩ := yld_good G6 h6
                    have A7 : Acc g w0 w1' (Z.frzAt ρ1 fz) σ D w6 s5 acc5 d3 := A6.move (A6.good.after G7.base S7 fr7) S7 fr7
                    rw [List.drop_eq_getElem_cons hj] at hg6
                    obtain ⟨c1, ρc, sc', c2, ρd, k1, k2, k3⟩ := goL_step hg6
                    unfold lcF1 at k1
                    cases q6 : bindT tg1 ys[j] (wipeE ρ4 vs1) with
                    | none => rw [q6] at k1; cases k1
                    | some ρ5 =>
                      rw [q6] at k1
                      dsimp only at k1
                      have n5 : NoOw ρ5 := bind_no (wipeE_no n4 vs1) q6
                      refine bind_ok (G7.wipe vs1) rx6 q6 fun σ5 G8 hl8 hs8 => ?_
                      refine ⟨wipe_eq (by rw [hl8, wipe_length]) fun i hi => ?_, ?_⟩
                      · rw [hs8 i fun z => hi (hsl1 i z), wipe_get hi]
                      dsimp only [tYes]
                      rw [if_pos rfl]
                      refine ⟨w6, w6, ρ5, s5, rfl, G8.rebase n5, ?_⟩
                      cases q7 : ev F el false ρ5 s5 with
                      | bad => rw [q7] at k1; cases k1
                      | exc c fs ρ s => rw [q7] at k1; cases k1
                      | ok de ρ6 s6 =>
                        rw [q7] at k1
                        cases k1
                        intro y w7 G9 S9 O9 hp
                        obtain ⟨h7, A8⟩ := A7.push G1' G9.base S9 G9.new (show Rw g w7 y de from hp)
                        have hf7 : ∀ a o, w4.Hf a = some o → w7.Hf a = some o := fun a o e => S9.hf a o (S7.hf a o (sb5.hf a o e))
                        have ha7 : ∀ (k : Nat) (a : Addr), w4.al[k]? = some a → w7.al[k]? = some a := fun k a e => S9.al k a (S7.al k a (sb5.al k a e))
                        have G10 : Good g w0 (w7.up D (.lst (acc5 ++ [y]))) ρ4 sc' σ3 := by
                          have Ga := (show Good g w0 w6 ρ4 s5 σ3 from G7).after G9.base S9 G9.new
                          obtain ⟨x1, _⟩ := A7.no0 G1'
                          exact Ga.mut h7 (G9.new D _ A7.fD A7.hD) (fun hm => by
                            have := S9.an D hm A7.aD
                            rw [A7.hD] at this; cases this) x1 fun i d e => absurd e (n4 i d)
                        refine ⟨acc5, h7, ?_, _, _, _, _, _, _, rfl, A8, G10, ⟨fun z => absurd z (by decide), hf7, ha7⟩, k2, by rw [ed6, k3, List.append_assoc]⟩
                        have hc' := of_decide_eq_true hc
                        rw [ed, f3, ← List.append_assoc, ed6, k3] at hc'
                        have := A7.rs.length
                        simp at hc'
                        exact Nat.lt_of_lt_of_le (show acc5.length < 100000 by omega) (by decide)
                  · refine .inl ⟨m2 (by omega), ?_⟩
                    rw [List.drop_of_length_le (by omega)] at hg6
                    cases hg6
                    rw [List.append_nil] at ed6
                    refine ⟨w5, sa, acc5, d3, e2, ρb, rfl, A6, f2, by rw [ed, f3, ← ed6, List.append_assoc]⟩
          · refine .inl ⟨j2 (by omega), ?_⟩
            rw [List.drop_of_length_le (by omega)] at hg
            cases hg
            rw [List.append_nil] at ed
            subst ed
            have SS := (S1.trans S1').trans A.step
            refine h (.ref D) w2 A.good SS (O1.trans O1') ⟨D, _, rfl, ?_, A.hD, .lst A.rs, A.fD, A.aD⟩
            cases q5 : w.H D with
            | none => rfl
            | some u =>
              by_cases ha : D ∈ w.al
              · exact absurd (SS.mem ha) A.aD
              · have := (S1.trans S1').hh D u q5 ha
                rw [hD] at this; cases this
        · exact h.elim
end
end Z

namespace Z
open PySem PySem.Spec PyProof.Rows L2
/-! statements of the plain machine -/
inductive Stm where
  | asg (t : Tg) (e : Ex)
  | own (i : Nat) (e : Ex)
  | par (i j : Nat) (a b : Ex)
  | aug (i : Nat) (op : Bo) (e : Ex)
  | exp (e : Ex)
  | app (i : Nat) (e : Ex)
  | seti (i : Nat) (k e : Ex)
  | ret (e : Ex) | retN | retM (e : Ex)
  | ife (t : Ex) (a b : List Stm)
  | whl (t : Ex) (b : List Stm)
  | for (tg : Tg) (it : It) (b : List Stm)
  | brk | cnt | pas
inductive Fl where
  | nx (ρ : En) (s : List D) | rt (d : D) (s : List D) | bk (ρ : En) (s : List D) | ct (ρ : En) (s : List D)
  | exc (c : Nat) (fs : List (Str × D)) (ρ : En) (s : List D) | bad
def Out.fl (o : Out) (k : D → En → List D → Fl) : Fl := match o with
  | .ok d ρ s => k d ρ s
  | .exc c fs ρ s => .exc c fs ρ s
  | .bad => .bad
def OutL.fl (o : OutL) (k : List D → En → List D → Fl) : Fl := match o with
  | .ok d ρ s => k d ρ s
  | .exc c fs ρ s => .exc c fs ρ s
  | .bad => .bad
def Fl.seq (o : Fl) (k : En → List D → Fl) : Fl := match o with
  | .nx ρ s => k ρ s
  | o => o
@[simp] theorem Out.fl_ok (d ρ s k) : (Out.ok d ρ s).fl k = k d ρ s := rfl
@[simp] theorem OutL.fl_ok (d ρ s k) : (OutL.ok d ρ s).fl k = k d ρ s := rfl
@[simp] theorem Fl.seq_nx (ρ s k) : (Fl.nx ρ s).seq k = k ρ s := rfl
@[simp] theorem Fl.seq_rt (d s k) : (Fl.rt d s).seq k = .rt d s := rfl
def lpF (f : D → En → List D → Fl) : List D → En → List D → Fl
  | [], ρ, s => .nx ρ s
  | x :: xs, ρ, s => match f x ρ s with
    | .nx ρ s => lpF f xs ρ s
    | .ct ρ s => lpF f xs ρ s
    | .bk ρ s => .nx ρ s
    | o => o
def lpW (t : En → List D → Out) (b : En → List D → Fl) : Nat → En → List D → Fl
  | 0, _, _ => .bad
  | n + 1, ρ, s => (t ρ s).fl fun d ρ s => match d with
    | .bl true => match b ρ s with
      | .nx ρ s => lpW t b n ρ s
      | .ct ρ s => lpW t b n ρ s
      | .bk ρ s => .nx ρ s
      | o => o
    | .bl false => .nx ρ s
    | _ => .bad
def isLst : D → Bool
  | .lst _ => true
  | _ => false
def fuelW : Nat := 1000000
section
variable (F : List Fn)
mutual
def ex : Stm → En → List D → Fl
  | .asg t e, ρ, s => (ev F e false ρ s).fl fun d ρ s => match bindT t d ρ with
    | some ρ' => .nx ρ' s
    | none => .bad
  | .own i e, ρ, s => (ev F e false ρ s).fl fun d ρ s => if i < ρ.length ∧ isLst d = true then .nx (ρ.set i (.ow d)) s else .bad
  | .par i j a b, ρ, s => (evs F [a, b] ρ s).fl fun ds ρ s => match ds with
    | [x, y] => if i < ρ.length ∧ j < ρ.length then .nx ((ρ.set i (.im x)).set j (.im y)) s else .bad
    | _ => .bad
  | .aug i op e, ρ, s => match ρ[i]? with
    | some (.im (.int x)) => (ev F e false ρ s).fl fun d ρ s => match d with
      | .int y => match binD op (.int x) (.int y) with
        | some z => .nx (ρ.set i (.im z)) s
        | none => .bad
      | _ => .bad
    | _ => .bad
  | .exp e, ρ, s => (ev F e false ρ s).fl fun _ ρ s => .nx ρ s
  | .app i e, ρ, s => match ρ[i]? with
    | some (.ow (.lst _)) => (ev F e false ρ s).fl fun d ρ s => match ρ[i]? with
      | some (.ow (.lst ds)) => if ds.length < 100000 then .nx (ρ.set i (.ow (.lst (ds ++ [d])))) s else .bad
      | _ => .bad
    | _ => .bad
  | .seti i k e, ρ, s => (ev F e false ρ s).fl fun d ρ s => match ρ[i]? with
    | some (.ow (.lst ds)) => (ev F k false ρ s).fl fun y ρ s => match y with
      | .int n => match ixN ds.length n, ρ[i]? with
        | some j, some (.ow (.lst es)) => if es.length = ds.length then .nx (ρ.set i (.ow (.lst (es.set j d)))) s else .bad
        | _, _ => .bad
      | _ => .bad
    | some (.im (.mref r)) => (ev F k false ρ s).fl fun y ρ s => match y, s[r]? with
      | .int n, some (.lst es) => match ixN es.length n with
        | some j => .nx ρ (s.set r (.lst (es.set j d)))
        | none => .bad
      | _, _ => .bad
    | _ => .bad
  | .ret e, ρ, s => (ev F e false ρ s).fl fun d _ s => .rt d s
  | .retN, ρ, s => .rt .non s
  | .retM e, ρ, s => (ev F e false ρ s).fl fun d _ s => .rt (.mref s.length) (s ++ [d])
  | .ife t a b, ρ, s => (ev F t true ρ s).fl fun d ρ s => match d with
    | .bl true => exs a ρ s
    | .bl false => exs b ρ s
    | _ => .bad
  | .whl t b, ρ, s => lpW (fun ρ s => ev F t true ρ s) (fun ρ s => exs b ρ s) fuelW ρ s
  | .for tg it b, ρ, s => (evI F it ρ s).fl fun x ρ s => match itemsOf x with
    | some xs => lpF (fun x ρ s => match bindT tg x ρ with
      | some ρ' => exs b ρ' s
      | none => .bad) xs ρ s
    | none => .bad
  | .brk, ρ, s => .bk ρ s
  | .cnt, ρ, s => .ct ρ s
  | .pas, ρ, s => .nx ρ s
  termination_by structural x => x
def exs : List Stm → En → List D → Fl
  | [], ρ, s => .nx ρ s
  | a :: b, ρ, s => (ex a ρ s).seq fun ρ s => exs b ρ s
  termination_by structural x => x
end
/-- a def of n names over its arguments -/
def run (b : List Stm) (ms : List Bool) (n : Nat) : Fn := fun as s =>
  match exs F b ((as.zipIdx.map fun (a, i) => if ms[i]? = some true then Sl.br a else Sl.im a) ++ List.replicate (n - as.length) .un) s with
  | .nx _ s => .ok .non s
  | .rt d s => .ok d s
  | .exc c fs _ s => .exc c fs s
  | _ => .bad
end
/-! the readings -/
structure Kp (w w' : Ws) : Prop where
  hf : ∀ a o, w.Hf a = some o → w'.Hf a = some o
  al : ∀ (k : Nat) (a : Addr), w.al[k]? = some a → w'.al[k]? = some a
theorem Kp.refl (w : Ws) : Kp w w := ⟨fun _ _ h => h, fun _ _ h => h⟩
theorem Kp.trans {a b c : Ws} (h : Kp a b) (h' : Kp b c) : Kp a c := ⟨fun x o e => h'.hf x o (h.hf x o e), fun k x e => h'.al k x (h.al k x e)⟩
theorem Kp.of {a b : Ws} (h : Step a b) : Kp a b := ⟨h.hf, h.al⟩
def GoS (g : G) (W : WX) (w0 w : Ws) (o : Fl) (D : Ends) : Prop := match o with
  | .nx ρ s => ∀ w' σ, Good g w0 w' ρ s σ → Kp w w' → D.nx σ w'.H
  | .bk ρ s => ∀ w' σ, Good g w0 w' ρ s σ → Kp w w' → D.bk σ w'.H
  | .ct ρ s => ∀ w' σ, Good g w0 w' ρ s σ → Kp w w' → D.ct σ w'.H
  | .rt d s => ∀ v w', Base g w' s → Step w0 w' → Fr w0 w' → Rw g w' v d → D.rt v w'.H
  | .exc c fs ρ s => ∀ C dx fv w' σ, Good g w0 w' ρ s σ → g.cl[c]? = some C → w'.H dx = some (.xd fv) → Rf g.K g.cl w'.al w'.Hf fv fs → W (.ref C) (some dx) σ w'.H
  | .bad => False
def tS (F : List Fn) (g : G) (W : WX) (p : Stm) : TS := fun D σ H => ∃ w0 w ρ s, w.H = H ∧ Good g w0 w ρ s σ ∧ GoS g W w0 w (ex F p ρ s) D
def tSs (F : List Fn) (g : G) (W : WX) (p : List Stm) : TS := fun D σ H => ∃ w0 w ρ s, w.H = H ∧ Good g w0 w ρ s σ ∧ GoS g W w0 w (exs F p ρ s) D
section
variable {F : List Fn} {T : Tb} {N : List Str} {sc : Scope} {ow : Str → Bool} {W : WX} {X : Cx} {p q pa pb pc : Ex} {w0 w w1 w2 w' : Ws} {ρ ρ1 : En} {s s1 s' : List D} {σ : L2.St} {H : Hp} {Q : VK} {k1 k2 k3 : Kd} {kk : Kd} {ms : List Bool} {ps : List Ex} {D : Ends} {st : Stmt} {sts : List Stmt} {pos : Pos} {i : Nat}
theorem GoS.shift {g : G} {o : Fl} (h : GoS g W w0 w o D) (K : Kp w w1) : GoS g W w0 w1 o D := by
  cases o with
  | nx ρ s => exact fun w' σ G0 K' => h w' σ G0 (K.trans K')
  | bk ρ s => exact fun w' σ G0 K' => h w' σ G0 (K.trans K')
  | ct ρ s => exact fun w' σ G0 K' => h w' σ G0 (K.trans K')
  | rt d s => exact h
  | exc c fs ρ s => exact h
  | bad => exact h
/-- an expression, then the rest -/
theorem fl_bind {k : Z.D → En → List Z.D → Fl} {kq : Kd} (G0 : Good T.g w0 w ρ s σ) (h : GoS T.g W w0 w ((ev F p false ρ s).fl k) D) :
    tI F T.g W kq p σ w.H (fun x H1 => ∃ w1 d ρ1 s1, Mid T.g w0 w w1 ρ ρ1 s1 σ H1 ∧ post T.g kq w0 w w1 x d ∧ GoS T.g W w0 w1 (k d ρ1 s1) D) := by
  refine ⟨w0, w, ρ, s, rfl, G0, ?_⟩
  cases q : ev F p false ρ s with
  | ok d ρ' s' =>
    rw [q] at h
    exact fun v w' a b c e => ⟨w', d, ρ', s', ⟨rfl, a, b, c⟩, e, GoS.shift h (Kp.of b)⟩
  | exc c fs ρ' s' => rw [q] at h; exact fun C dx fv w' a => h C dx fv w' σ a
  | bad => rw [q] at h; exact h
theorem flT_bind {k : Z.D → En → List Z.D → Fl} (hb : ∀ d ρ1 s1, (∀ b, d ≠ .bl b) → k d ρ1 s1 = .bad) (G0 : Good T.g w0 w ρ s σ) (h : GoS T.g W w0 w ((ev F p true ρ s).fl k) D) :
    tT F T.g W p σ w.H (fun b H1 => ∃ w1 ρ1 s1, Mid T.g w0 w w1 ρ ρ1 s1 σ H1 ∧ GoS T.g W w0 w1 (k (.bl b) ρ1 s1) D) := by
  refine ⟨w0, w, ρ, s, rfl, G0, ?_⟩
  cases q : ev F p true ρ s with
  | ok d ρ' s' =>
    rw [q] at h
    by_cases hd : ∃ b, d = .bl b
    · obtain ⟨b, rfl⟩ := hd
      exact ⟨b, rfl, fun w' a b' c => ⟨w', ρ', s', ⟨rfl, a, b', c⟩, GoS.shift h (Kp.of b')⟩⟩
    · have h' : GoS T.g W w0 w (k d ρ' s') D := h
      rw [hb d ρ' s' fun b e => hd ⟨b, e⟩] at h'
      exact h'.elim
  | exc c fs ρ' s' => rw [q] at h; exact fun C dx fv w' a => h C dx fv w' σ a
  | bad => rw [q] at h; exact h
/-! ### blocks -/
theorem s_nil : PSs X [] (tSs F T.g W []) := PSs.imp pss_nil fun D σ H ⟨w0, w, ρ, s, e, G0, h⟩ => by
  subst e
  exact h w σ G0 (Kp.refl w)
theorem s_cons {a : Stm} {b : List Stm} (h1 : PS X st (tS F T.g W a)) (h2 : PSs X sts (tSs F T.g W b)) : PSs X (st :: sts) (tSs F T.g W (a :: b)) := PSs.imp (pss_cons h1 h2) fun D σ H ⟨w0, w, ρ, s, e, G0, h⟩ => by
  subst e
  have e0 : exs F (a :: b) ρ s = (ex F a ρ s).seq fun ρ s => exs F b ρ s := rfl
  rw [e0] at h
  refine ⟨w0, w, ρ, s, rfl, G0, ?_⟩
  cases q : ex F a ρ s with
  | nx ρ1 s1 =>
    rw [q] at h
    exact fun w' σ' G1 K => ⟨w0, w', ρ1, s1, rfl, G1, GoS.shift h K⟩
  | bk ρ s => rw [q] at h; exact h
  | ct ρ s => rw [q] at h; exact h
  | rt d s => rw [q] at h; exact h
  | exc c fs ρ s => rw [q] at h; exact h
  | bad => rw [q] at h; exact h
theorem s_pas : PS X (.Pass pos) (tS F T.g W .pas) := PS.imp ps_pass fun D σ H ⟨w0, w, ρ, s, e, G0, h⟩ => by
  subst e
  exact h w σ G0 (Kp.refl w)
theorem s_brk : PS X (.Break pos) (tS F T.g W .brk) := PS.imp ps_break fun D σ H ⟨w0, w, ρ, s, e, G0, h⟩ => by
  subst e
  exact h w σ G0 (Kp.refl w)
theorem s_cnt : PS X (.Continue pos) (tS F T.g W .cnt) := PS.imp ps_continue fun D σ H ⟨w0, w, ρ, s, e, G0, h⟩ => by
  subst e
  exact h w σ G0 (Kp.refl w)
theorem s_retN : PS X (.Return none pos) (tS F T.g W .retN) := PS.imp ps_retN fun D σ H ⟨w0, w, ρ, s, e, G0, h⟩ => by
  subst e
  exact h .non w G0.base G0.ext G0.new .non
theorem s_ret {e : Expr} (he : PE X e (tI F T.g W .k p)) : PS X (.Return (some e) pos) (tS F T.g W (.ret p)) := PS.imp (ps_ret he) fun D σ H ⟨w0, w, ρ, s, e, G0, h⟩ => by
  subst e
  have e0 : ex F (.ret p) ρ s = (ev F p false ρ s).fl fun d _ s => .rt d s := rfl
  rw [e0] at h
  refine tI_mono (fl_bind (kq := .k) G0 h) fun x H1 ⟨w1, d, ρ1, s1, M, hp, h1⟩ => ?_
  obtain ⟨rfl, G1, S1, O1⟩ := M
  exact h1 x w1 G1.base G1.ext G1.new hp
theorem s_retM {e : Expr} (he : PE X e (tI F T.g W .f p)) : PS X (.Return (some e) pos) (tS F T.g W (.retM p)) := PS.imp (ps_ret he) fun D σ H ⟨w0, w, ρ, s, e, G0, h⟩ => by
  subst e
  have e0 : ex F (.retM p) ρ s = (ev F p false ρ s).fl fun d _ s => .rt (.mref s.length) (s ++ [d]) := rfl
  rw [e0] at h
  refine tI_mono (fl_bind (kq := .f) G0 h) fun x H1 ⟨w1, d, ρ1, s1, M, hp, h1⟩ => ?_
  obtain ⟨rfl, G1, S1, O1⟩ := M
  obtain ⟨a, o, rfl, hn, ha, ro, hf, hal⟩ := hp
  have B1 := G1.base
  have hw0 : a ∉ w0.al → w0.H a = none := fun hna => by
    cases q : w0.H a with
    | none => rfl
    | some u =>
      by_cases h2 : a ∈ w.al
      · exact absurd (S1.mem h2) hal
      · rw [G0.ext.hh a u q hna] at hn; cases hn
  have ea : ∀ (k : Nat) (b : Addr), w1.al[k]? = some b → (w1.al ++ [a])[k]? = some b := fun k b e => by
    rw [List.getElem?_append_left (List.getElem?_eq_some_iff.mp e).1]; exact e
  have roM : ∀ {o d}, RO T.g w1 o d → RO T.g ⟨w1.al ++ [a], w1.Hf, w1.H⟩ o d := fun h => by
    cases h with
    | lst r => exact .lst (r.mono (fun _ _ h => h) ea)
    | ins c r => exact .ins c (r.mono (fun _ _ h => h) ea)
  refine h1 (.ref a) ⟨w1.al ++ [a], w1.Hf, w1.H⟩ ⟨fun b u e => ?_, by simp [B1.sl], fun k b e => ?_, ?_⟩ ⟨?_, G1.ext.hf, G1.ext.hh, fun b hb hnb => ?_⟩ G1.new (.mref ?_)
  · refine ⟨(B1.fz b u e).1, fun hm => ?_⟩
    rcases List.mem_append.mp hm with hm | hm
    · exact (B1.fz b u e).2 hm
    · cases List.mem_singleton.mp hm
      rw [hf] at e; cases e
  · by_cases hk : k < w1.al.length
    · rw [List.getElem?_append_left hk] at e
      obtain ⟨d', o', e1, e2, r⟩ := B1.st k b e
      exact ⟨d', o', by rw [List.getElem?_append_left (by rw [B1.sl]; exact hk)]; exact e1, e2, roM r⟩
    · have hk' : k = w1.al.length := by
        have := (List.getElem?_eq_some_iff.mp e).1
        simp at this
        omega
      subst hk'
      simp at e
      subst e
      exact ⟨d, o, by rw [← B1.sl]; simp, ha, roM ro⟩
  · rw [List.nodup_append]
    refine ⟨B1.nd, by simp, fun x hx y hy => ?_⟩
    cases List.mem_singleton.mp hy
    exact fun e => hal (e ▸ hx)
  · obtain ⟨b, e⟩ := G1.ext.pa
    exact ⟨b ++ [a], by rw [e]; simp⟩
  · rcases List.mem_append.mp hb with hb | hb
    · exact G1.ext.an b hb hnb
    · cases List.mem_singleton.mp hb
      exact hw0 hnb
  · rw [B1.sl]; simp
theorem s_exp {e : Expr} (hs : swapsWith e none pos.line X.env = pure false) (he : PE X e (tI F T.g W k1 p)) : PS X (.Expr e pos) (tS F T.g W (.exp p)) := PS.imp (ps_expr he hs) fun D σ H ⟨w0, w, ρ, s, e, G0, h⟩ => by
  subst e
  have e0 : ex F (.exp p) ρ s = (ev F p false ρ s).fl fun _ ρ s => .nx ρ s := rfl
  rw [e0] at h
  refine tI_mono (fl_bind (kq := k1) G0 h) fun x H1 ⟨w1, d, ρ1, s1, M, hp, h1⟩ => ?_
  obtain ⟨rfl, G1, S1, O1⟩ := M
  exact h1 w1 σ G1 (Kp.refl _)
theorem s_asg {e tg : Expr} {t : Tg} (h0 : PS X (.Assign [tg] e pos) (tAsg (tI F T.g W .k p) (gD T.g.K t))) : PS X (.Assign [tg] e pos) (tS F T.g W (.asg t p)) := PS.imp h0 fun D σ H ⟨w0, w, ρ, s, e, G0, h⟩ => by
  subst e
  have e0 : ex F (.asg t p) ρ s = (ev F p false ρ s).fl fun d ρ s => match bindT t d ρ with
    | some ρ' => .nx ρ' s
    | none => .bad := rfl
  rw [e0] at h
  refine tI_mono (fl_bind (kq := .k) G0 h) fun x H1 ⟨w1, d, ρ1, s1, M, hp, h1⟩ => ?_
  obtain ⟨rfl, G1, S1, O1⟩ := M
  cases q : bindT t d ρ1 with
  | none => rw [q] at h1; exact h1.elim
  | some ρ2 =>
    rw [q] at h1
    exact bind_ok G1 hp q fun σ' G2 _ _ => h1 w1 σ' G2 (Kp.refl _)
/-- a fresh thing goes to a slot, which owns it -/
theorem Good.own {g : G} {a : Addr} {o : HO} {d : Z.D} (G0 : Good g w0 w ρ s σ) (hn : ∀ (j : Nat) e, ρ[j]? = some (.ow e) → σ[j]? ≠ some (some (.ref a))) (h : w.H a = some o) (r : RO g w o d) (hf : w.Hf a = none) (ha : a ∉ w.al) (h0 : w0.H a = none) (i : Nat) : Good g w0 w (ρ.set i (.ow d)) s (σ.set i (some (.ref a))) := by
  have key : ∀ {j : Nat} {x : Sl}, (ρ.set i (.ow d))[j]? = some x → (i = j ∧ i < ρ.length ∧ x = .ow d) ∨ (i ≠ j ∧ ρ[j]? = some x) := fun {j x} e => by
    by_cases hj : i = j
    · subst hj
      by_cases hi : i < ρ.length
      · rw [List.getElem?_set_self hi] at e; cases e; exact .inl ⟨rfl, hi, rfl⟩
      · rw [List.getElem?_eq_none (by rw [List.length_set]; omega)] at e; cases e
    · rw [List.getElem?_set_ne hj] at e; exact .inr ⟨hj, e⟩
  refine ⟨G0.base, G0.ext, G0.new, by rw [List.length_set, List.length_set]; exact G0.len, fun j d' e => ?_, fun j d' e => ?_, fun j d' e => ?_, fun j k d' d'' b e e' e2 e3 => ?_⟩
  · rcases key e with ⟨rfl, hi, e⟩ | ⟨hj, e⟩
    · cases e
    · rw [List.getElem?_set_ne hj]; exact G0.im j d' e
  · rcases key e with ⟨rfl, hi, e⟩ | ⟨hj, e⟩
    · cases e
      exact ⟨a, o, by rw [List.getElem?_set_self (by rw [G0.len]; exact hi)], h, r, hf, ha, h0⟩
    · rw [List.getElem?_set_ne hj]; exact G0.ow j d' e
  · rcases key e with ⟨rfl, hi, e⟩ | ⟨hj, e⟩
    · cases e
    · rw [List.getElem?_set_ne hj]; exact G0.br j d' e
  · rcases key e with ⟨rfl, hi, e⟩ | ⟨hj, e⟩
    · rcases key e' with ⟨rfl, hi', e'⟩ | ⟨hk, e'⟩
      · rfl
      · rw [List.getElem?_set_self (by rw [G0.len]; exact hi)] at e2
        cases e2
        rw [List.getElem?_set_ne hk] at e3
        exact absurd e3 (hn k d'' e')
    · rcases key e' with ⟨rfl, hi', e'⟩ | ⟨hk, e'⟩
      · rw [List.getElem?_set_self (by rw [G0.len]; exact hi')] at e3
        cases e3
        rw [List.getElem?_set_ne hj] at e2
        exact absurd e2 (hn j d' e)
      · rw [List.getElem?_set_ne hj] at e2; rw [List.getElem?_set_ne hk] at e3
        exact G0.dis j k d' d'' b e e' e2 e3
theorem fresh0 {g : G} {a : Addr} (G0 : Good g w0 w ρ s σ) (G1 : Good g w0 w1 ρ1 s1 σ) (h : w.H a = none) (hn : a ∉ w1.al) (O : Os ρ ρ1) : w0.H a = none ∧ ∀ (j : Nat) e, ρ1[j]? = some (.ow e) → σ[j]? ≠ some (some (.ref a)) := by
  refine ⟨?_, fun j e hj z => ?_⟩
  · cases q0 : w0.H a with
    | none => rfl
    | some u =>
      by_cases ha : a ∈ w0.al
      · exact absurd (G1.ext.mem ha) hn
      · rw [G0.ext.hh a u q0 ha] at h; cases h
  · obtain ⟨b, o, e1, e2, _⟩ := G0.ow j e (O.ow j e hj)
    rw [z] at e1
    cases e1
    rw [h] at e2; cases e2
theorem s_own {e tg : Expr} (h0 : PS X (.Assign [tg] e pos) (tAsg (tI F T.g W .f p) (gName i))) : PS X (.Assign [tg] e pos) (tS F T.g W (.own i p)) := PS.imp h0 fun D σ H ⟨w0, w, ρ, s, e, G0, h⟩ => by
  subst e
  have e0 : ex F (.own i p) ρ s = (ev F p false ρ s).fl fun d ρ s => if i < ρ.length ∧ isLst d = true then .nx (ρ.set i (.ow d)) s else .bad := rfl
  rw [e0] at h
  refine tI_mono (fl_bind (kq := .f) G0 h) fun x H1 ⟨w1, d, ρ1, s1, M, hp, h1⟩ => ?_
  obtain ⟨rfl, G1, S1, O1⟩ := M
  split at h1
  · obtain ⟨a, o, rfl, a1, a2, a3, a4, a5⟩ := hp
    obtain ⟨z0, zn⟩ := fresh0 G0 G1 a1 a5 O1
    exact h1 w1 _ (G1.own zn a2 a3 a4 a5 z0 i) (Kp.refl _)
  · exact h1.elim
theorem s_ife {c : Expr} {a b : List Stmt} {sa sb : List Stm} (hc : PT X c (tT F T.g W p)) (ha : PSs X a (tSs F T.g W sa)) (hb : PSs X b (tSs F T.g W sb)) : PS X (.If c a b pos) (tS F T.g W (.ife p sa sb)) := PS.imp (ps_if hc ha hb) fun D σ H ⟨w0, w, ρ, s, e, G0, h⟩ => by
  subst e
  have e0 : ex F (.ife p sa sb) ρ s = (ev F p true ρ s).fl fun d ρ s => match d with
    | .bl true => exs F sa ρ s
    | .bl false => exs F sb ρ s
    | _ => .bad := rfl
  rw [e0] at h
  refine tT_mono (flT_bind (by intro d ρ1 s1 hn; cases d <;> first | rfl | exact absurd rfl (hn _)) G0 h) fun b H1 ⟨w1, ρ1, s1, M, h1⟩ => ?_
  obtain ⟨rfl, G1, S1, O1⟩ := M
  cases b with
  | true => exact iteT ⟨w0, w1, ρ1, s1, rfl, G1, h1⟩
  | false => exact iteF ⟨w0, w1, ρ1, s1, rfl, G1, h1⟩
/-! ### loops -/
theorem s_whl {c : Expr} {b : List Stmt} {sb : List Stm} (hpo : PassesOwn (model X.prog X.w) X.A X.env X.xe) (hc : PT X c (tT F T.g W p)) (hb : PSs X b (tSs F T.g W sb)) : PS X (.While c b [] pos) (tS F T.g W (.whl p sb)) := PS.imp (ps_while hpo hc hb) fun D σ H ⟨w0, w, ρ, s, e, G0, h⟩ => by
  subst e
  have e0 : ex F (.whl p sb) ρ s = lpW (fun ρ s => ev F p true ρ s) (fun ρ s => exs F sb ρ s) fuelW ρ s := rfl
  rw [e0] at h
  refine ⟨fun m σ H => ∃ w ρ s, w.H = H ∧ Good T.g w0 w ρ s σ ∧ GoS T.g W w0 w (lpW (fun ρ s => ev F p true ρ s) (fun ρ s => exs F sb ρ s) m ρ s) D, ⟨fuelW, w, ρ, s, rfl, G0, h⟩, fun m σ H ⟨w, ρ, s, e, G1, h1⟩ => ?_⟩
  subst e
  cases m with
  | zero => exact h1.elim
  | succ n =>
    have e1 : lpW (fun ρ s => ev F p true ρ s) (fun ρ s => exs F sb ρ s) (n + 1) ρ s = (ev F p true ρ s).fl fun d ρ s => match d with
      | .bl true => match exs F sb ρ s with
        | .nx ρ s => lpW (fun ρ s => ev F p true ρ s) (fun ρ s => exs F sb ρ s) n ρ s
        | .ct ρ s => lpW (fun ρ s => ev F p true ρ s) (fun ρ s => exs F sb ρ s) n ρ s
        | .bk ρ s => .nx ρ s
        | o => o
      | .bl false => .nx ρ s
      | _ => .bad := rfl
    rw [e1] at h1
    refine tT_mono (flT_bind (by intro d ρ1 s1 hn; cases d <;> first | rfl | exact absurd rfl (hn _)) G1 h1) fun b H1 ⟨w1, ρ1, s1, M, h1⟩ => ?_
    obtain ⟨rfl, G1, S1, O1⟩ := M
    cases b with
    | false => exact iteF (h1 w1 σ G1 (Kp.refl _))
    | true =>
      refine iteT ⟨fun σ H => ∃ w ρ s, w.H = H ∧ Good T.g w0 w ρ s σ ∧ GoS T.g W w0 w (lpW (fun ρ s => ev F p true ρ s) (fun ρ s => exs F sb ρ s) n ρ s) D, fun σ' H' z => ⟨n, Nat.lt_succ_self n, z⟩, w0, w1, ρ1, s1, rfl, G1, ?_⟩
      dsimp only at h1
      cases q : exs F sb ρ1 s1 with
      | nx ρ2 s2 => rw [q] at h1; exact fun w' σ' G2 K2 => ⟨w', ρ2, s2, rfl, G2, GoS.shift h1 K2⟩
      | ct ρ2 s2 => rw [q] at h1; exact fun w' σ' G2 K2 => ⟨w', ρ2, s2, rfl, G2, GoS.shift h1 K2⟩
      | bk ρ2 s2 => rw [q] at h1; exact h1
      | rt d s2 => rw [q] at h1; exact h1
      | exc c fs ρ2 s2 => rw [q] at h1; exact h1
      | bad => rw [q] at h1; exact h1
theorem s_for {tg iter : Expr} {b : List Stmt} {sb : List Stm} {t : Tg} {it : Z.It} (h0 : PS X (.For tg iter b [] pos) (tFor (tIt true F T.g W it) (gD T.g.K t) (tSs F T.g W sb))) : PS X (.For tg iter b [] pos) (tS F T.g W (.for t it sb)) := PS.imp h0 fun D σ H ⟨w0, w, ρ, s, e, G0, h⟩ => by
  subst e
  have e0 : ex F (.for t it sb) ρ s = (evI F it ρ s).fl fun x ρ s => match itemsOf x with
    | some xs => lpF (fun x ρ s => match bindT t x ρ with
      | some ρ' => exs F sb ρ' s
      | none => .bad) xs ρ s
    | none => .bad := rfl
  rw [e0] at h
  refine ⟨w0, w, ρ, s, rfl, G0, ?_⟩
  cases q : evI F it ρ s with
  | bad => rw [q] at h; exact h
  | exc c fs ρ' s' => rw [q] at h; exact fun C dx fv w' a => h C dx fv w' σ a
  | ok d ρ1 s1 =>
    rw [q, Out.fl_ok] at h
    cases q1 : itemsOf d with
    | none => rw [q1] at h; exact h.elim
    | some xs =>
      rw [q1] at h
      dsimp only at h
      refine ⟨xs, q1, fun J w1 G1 S1 O1 ji => ?_⟩
      refine ⟨fun i m σ H => ∃ w2 ρ2 s2, w2.H = H ∧ Good T.g w0 w2 ρ2 s2 σ ∧ Kp w1 w2 ∧ m = xs.length - i ∧ GoS T.g W w0 w2 (lpF (fun x ρ s => match bindT t x ρ with
        | some ρ' => exs F sb ρ' s
        | none => .bad) (xs.drop i) ρ2 s2) D, ⟨xs.length, w1, ρ1, s1, rfl, G1, Kp.refl _, rfl, GoS.shift h (Kp.of S1)⟩, fun i m σ2 H ⟨w2, ρ2, s2, e, G2, K2, em, h2⟩ => ?_⟩
      subst e
      obtain ⟨j1, j2⟩ := ji w2 s2 G2.base ⟨fun _ => G2.ext, K2.hf, K2.al⟩ i
      by_cases hi : i < xs.length
      · refine .inr ?_
        obtain ⟨go, yl⟩ := j1 _ (List.getElem?_eq_getElem hi)
        refine ⟨go, fun σ H => ∃ w2 ρ2 s2, w2.H = H ∧ Good T.g w0 w2 ρ2 s2 σ ∧ Kp w1 w2 ∧ GoS T.g W w0 w2 (lpF (fun x ρ s => match bindT t x ρ with
          | some ρ' => exs F sb ρ' s
          | none => .bad) (xs.drop (i + 1)) ρ2 s2) D, fun σ' H' ⟨a1, a2, a3, a4, a5, a6, a7⟩ => ⟨xs.length - (i + 1), by omega, a1, a2, a3, a4, a5, a6, rfl, a7⟩, fun x H' hy => ?_⟩
        obtain ⟨w3, e3, h3, rx⟩ := yl x H' hy
        subst e3
        obtain ⟨G3, S3, fr3⟩ := yld_good G2 h3
        rw [List.drop_eq_getElem_cons hi] at h2
        unfold lpF at h2
        cases q3 : bindT t xs[i] ρ2 with
        | none => rw [q3] at h2; exact h2.elim
        | some ρ3 =>
          rw [q3] at h2
          dsimp only at h2
          refine bind_ok G3 rx q3 fun σ3 G4 _ _ => ⟨w0, w3, ρ3, s2, rfl, G4, ?_⟩
          have K3 : Kp w1 w3 := K2.trans (Kp.of S3)
          have h2' := GoS.shift h2 (Kp.of S3)
          cases q4 : exs F sb ρ3 s2 with
          | nx ρ4 s4 => rw [q4] at h2'; exact fun w' σ' G5 K5 => ⟨w', ρ4, s4, rfl, G5, K3.trans K5, GoS.shift h2' K5⟩
          | ct ρ4 s4 => rw [q4] at h2'; exact fun w' σ' G5 K5 => ⟨w', ρ4, s4, rfl, G5, K3.trans K5, GoS.shift h2' K5⟩
          | bk ρ4 s4 => rw [q4] at h2'; exact h2'
          | rt d s4 => rw [q4] at h2'; exact h2'
          | exc c fs ρ4 s4 => rw [q4] at h2'; exact h2'
          | bad => rw [q4] at h2'; exact h2'
      · refine .inl ⟨j2 (by omega), ?_⟩
        rw [List.drop_of_length_le (by omega)] at h2
        exact h2 w2 σ2 G2 (Kp.refl _)
end
end Z

namespace Z
open PySem PySem.Spec PyProof.Rows L2
section
variable {F : List Fn} {T : Tb} {N : List Str} {sc : Scope} {ow : Str → Bool} {W : WX} {X : Cx} {p q pa pb pc : Ex} {w0 w w1 w2 w' : Ws} {ρ ρ1 : En} {s s1 s' : List D} {σ : L2.St} {H : Hp} {Q : VK} {k1 k2 k3 : Kd} {kk : Kd} {ms : List Bool} {ps : List Ex} {D : Ends} {st : Stmt} {sts : List Stmt} {pos : Pos} {i j : Nat}
theorem flL_bind {k : List Z.D → En → List Z.D → Fl} {P : List V → Hp → Prop} (G0 : Good T.g w0 w ρ s σ) (h : GoS T.g W w0 w ((evs F ps ρ s).fl k) D)
    (hp : ∀ vs w1 ds ρ1 s1, Good T.g w0 w1 ρ1 s1 σ → Ps T.g w1 ms vs ds → GoS T.g W w0 w1 (k ds ρ1 s1) D → P vs w1.H) : tA F T.g W ms ps σ w.H P := by
  refine ⟨w0, w, ρ, s, rfl, G0, ?_⟩
  cases q : evs F ps ρ s with
  | ok d ρ' s' =>
    rw [q] at h
    exact fun v w' a b c e => hp v w' d ρ' s' a e (GoS.shift h (Kp.of b))
  | exc c fs ρ' s' => rw [q] at h; exact fun C dx fv w' a => h C dx fv w' σ a
  | bad => rw [q] at h; exact h
theorem s_par {tg e : Expr} {a b : Ex} (h0 : PS X (.Assign [tg] e pos) (tPar i j (tA F T.g W [false, false] [a, b]))) : PS X (.Assign [tg] e pos) (tS F T.g W (.par i j a b)) := PS.imp h0 fun D σ H ⟨w0, w, ρ, s, e, G0, h⟩ => by
  subst e
  have e0 : ex F (.par i j a b) ρ s = (evs F [a, b] ρ s).fl fun ds ρ s => match ds with
    | [x, y] => if i < ρ.length ∧ j < ρ.length then .nx ((ρ.set i (.im x)).set j (.im y)) s else .bad
    | _ => .bad := rfl
  rw [e0] at h
  refine flL_bind G0 h fun vs w1 ds ρ1 s1 G1 hp h1 => ?_
  split at h1
  · rename_i x y
    split at h1
    · cases hp with
      | k r1 hp =>
        cases hp with
        | k r2 hp =>
          cases hp
          exact ⟨_, _, rfl, h1 w1 _ ((G1.set i r1).set j r2) (Kp.refl _)⟩
    · exact h1.elim
  · exact h1.elim
def augO : Bo → Bool
  | .add => true
  | .sub => true
  | _ => false
theorem s_aug {x : Str} {e : Expr} {px : Pos} (op : Bo) (ho : augO op = true) (hN : X.N.Nodup) (hi : X.N[i]? = some x) (hx : Loc X.env.scope x) (hf : X.fn x = true ∨ X.env.scope.names.lookup x = some .local) (he : PE X e (tI F T.g W k1 p)) :
    PS X (.AugAssign (.Name x px) (boO op) e pos) (tS F T.g W (.aug i op p)) := by
  have key : ∀ (f : Int → Int → Int), PIp X (boO op) (ipI f) → (∀ x y, binD op (.int x) (.int y) = some (.int (f x y))) → PS X (.AugAssign (.Name x px) (boO op) e pos) (tS F T.g W (.aug i op p)) := fun f hp hb =>
    PS.imp (ps_aug hN hi hx he hp hf) fun D σ H ⟨w0, w, ρ, s, e, G0, h⟩ => by
      subst e
      unfold ex at h
      split at h
      · rename_i x0 e1
        obtain ⟨v, h1, r⟩ := G0.im i _ e1
        cases r
        refine ⟨_, h1, ?_⟩
        refine tI_mono (fl_bind (kq := k1) G0 h) fun y H1 ⟨w1, d, ρ1, s1, M, hp, h2⟩ => ?_
        obtain ⟨rfl, G1, S1, O1⟩ := M
        have t := hp.tr G1.ext
        cases d with
        | int y0 =>
          cases t.int
          dsimp only at h2
          rw [hb] at h2
          exact ⟨x0, y0, rfl, rfl, h2 w1 _ (G1.set i (.int _)) (Kp.refl _)⟩
        | _ => exact h2.elim
      · exact h.elim
  cases op with
  | add => exact key _ ip_add fun _ _ => rfl
  | sub => exact key _ ip_sub fun _ _ => rfl
  | _ => cases ho
/-- an own slot's thing is changed -/
theorem Good.chg {g : G} {a : Addr} {o : HO} {d d' : Z.D} (G0 : Good g w0 w ρ s σ) (e : ρ[i]? = some (.ow d)) (ea : σ[i]? = some (some (.ref a))) (r : RO g w o d') : Good g w0 (w.up a o) (ρ.set i (.ow d')) s σ := by
  obtain ⟨a', u, e1, e2, e3, e4, e5, e6⟩ := G0.ow i d e
  rw [ea] at e1
  cases e1
  have ra : ∀ {o' d}, RO g w o' d → RO g (w.up a o) o' d := fun r => by
    cases r with
    | lst r => exact .lst r
    | ins c r => exact .ins c r
  have hi : i < ρ.length := (List.getElem?_eq_some_iff.mp e).1
  refine ⟨⟨fun b u' e' => ?_, G0.base.sl, fun k b e' => ?_, G0.base.nd⟩, ⟨G0.ext.pa, G0.ext.hf, fun b u' e' na => ?_, G0.ext.an⟩, G0.new, by rw [List.length_set]; exact G0.len, fun j d2 e' => ?_, fun j d2 e' => ?_, fun j d2 e' => ?_, fun j k d2 d3 b e' e'' => ?_⟩
  · obtain ⟨f1, f2⟩ := G0.base.fz b u' e'
    refine ⟨?_, f2⟩
    show upd _ _ _ _ = _
    rw [upd_ne (ne_of_none e' e4)]; exact f1
  · obtain ⟨d2, u2, f1, f2, f3⟩ := G0.base.st k b e'
    refine ⟨d2, u2, f1, ?_, ra f3⟩
    show upd _ _ _ _ = _
    rw [upd_ne (fun z => e5 (by rw [← z]; exact List.mem_of_getElem? e'))]; exact f2
  · show upd _ _ _ _ = _
    rw [upd_ne (ne_of_none e' e6)]; exact G0.ext.hh b u' e' na
  · by_cases hj : i = j
    · subst hj; rw [List.getElem?_set_self hi] at e'; cases e'
    · rw [List.getElem?_set_ne hj] at e'; exact G0.im j d2 e'
  · by_cases hj : i = j
    · subst hj; rw [List.getElem?_set_self hi] at e'; cases e'
      exact ⟨a, o, ea, upd_same, ra r, e4, e5, e6⟩
    · rw [List.getElem?_set_ne hj] at e'
      obtain ⟨b, u2, f1, f2, f3, f4, f5, f6⟩ := G0.ow j d2 e'
      have ne : b ≠ a := fun z => hj (G0.dis i j d d2 a e e' ea (by rw [← z]; exact f1))
      exact ⟨b, u2, f1, by show upd _ _ _ _ = _; rw [upd_ne ne]; exact f2, ra f3, f4, f5, f6⟩
  · by_cases hj : i = j
    · subst hj; rw [List.getElem?_set_self hi] at e'; cases e'
    · rw [List.getElem?_set_ne hj] at e'; exact G0.br j d2 e'
  · intro e2 e3
    have fix : ∀ {j : Nat} {d2 : Z.D}, (ρ.set i (.ow d'))[j]? = some (.ow d2) → ∃ d4, ρ[j]? = some (.ow d4) := fun {j d2} h => by
      by_cases hj : i = j
      · subst hj; exact ⟨d, e⟩
      · rw [List.getElem?_set_ne hj] at h; exact ⟨_, h⟩
    obtain ⟨d4, f4⟩ := fix e'
    obtain ⟨d5, f5⟩ := fix e''
    exact G0.dis j k d4 d5 b f4 f5 e2 e3
theorem s_app {x : Expr} {e : Expr} {ap cp : Pos} (hs : swapsWith (.Call (.Attribute x "append" ap) [e] [] cp) none pos.line X.env = pure false) (K : X.K = T.g.K)
    (h0 : PE X (.Call (.Attribute x "append" ap) [e] [] cp) (tBM X.K "list" rAppend (tVar i) (tCons (tI F T.g W .k p) tNil))) : PS X (.Expr (.Call (.Attribute x "append" ap) [e] [] cp) pos) (tS F T.g W (.app i p)) := PS.imp (ps_expr h0 hs) fun D σ H ⟨w0, w, ρ, s, e, G0, h⟩ => by
  subst e
  unfold ex at h
  split at h
  · rename_i xs e1
    obtain ⟨a, o, a1, a2, a3, a4, a5, a6⟩ := G0.ow i _ e1
    cases a3 with
    | lst r =>
      rename_i vs
      refine ⟨.ref a, a1, .inl ⟨rfl, vs, SqL.of a2⟩, ?_⟩
      refine tI_mono (fl_bind (kq := .k) G0 h) fun y H1 ⟨w1, d, ρ1, s1, M, hp, h2⟩ => ?_
      obtain ⟨rfl, G1, S1, O1⟩ := M
      split at h2
      · rename_i ds e2
        split at h2
        · rename_i hl
          obtain ⟨b, o2, b1, b2, b3, b4, b5, b6⟩ := G1.ow i _ e2
          rw [a1] at b1
          cases b1
          cases b3 with
          | lst r2 =>
            rename_i vs2
            refine ⟨a, vs2, y, rfl, rfl, b2, ?_, ?_⟩
            · rw [r2.length]
              exact Nat.lt_of_lt_of_le hl (by decide)
            · exact h2 (w1.up a (.lst (vs2 ++ [y]))) σ (G1.chg e2 a1 (.lst (r2.append (.one hp)))) ⟨fun _ _ h => h, fun _ _ h => h⟩
        · exact h2.elim
      · exact h2.elim
  · exact h.elim
/-- a mutable thing of the store is changed -/
theorem Good.chgM {g : G} {a : Addr} {o : HO} {d : Z.D} {k : Nat} (G0 : Good g w0 w ρ s σ) (ea : w.al[k]? = some a) (r : RO g w o d) : Good g w0 (w.up a o) ρ (s.set k d) σ := by
  have ra : ∀ {o' d}, RO g w o' d → RO g (w.up a o) o' d := fun r => by
    cases r with
    | lst r => exact .lst r
    | ins c r => exact .ins c r
  have hm : a ∈ w.al := List.mem_of_getElem? ea
  have hk : k < s.length := by rw [G0.base.sl]; exact (List.getElem?_eq_some_iff.mp ea).1
  refine ⟨⟨fun b u' e' => ?_, by rw [List.length_set]; exact G0.base.sl, fun k' b e' => ?_, G0.base.nd⟩, ⟨G0.ext.pa, G0.ext.hf, fun b u' e' na => ?_, G0.ext.an⟩, G0.new, G0.len, G0.im, fun j d2 e' => ?_, G0.br, G0.dis⟩
  · obtain ⟨f1, f2⟩ := G0.base.fz b u' e'
    refine ⟨?_, f2⟩
    show upd _ _ _ _ = _
    rw [upd_ne (fun z => f2 (by rw [z]; exact hm))]; exact f1
  · have e' : w.al[k']? = some b := e'
    by_cases hkk : k = k'
    · subst hkk
      rw [ea] at e'
      cases e'
      exact ⟨d, o, List.getElem?_set_self hk, upd_same, ra r⟩
    · obtain ⟨d2, u2, f1, f2, f3⟩ := G0.base.st k' b e'
      refine ⟨d2, u2, by rw [List.getElem?_set_ne hkk]; exact f1, ?_, ra f3⟩
      show upd _ _ _ _ = _
      rw [upd_ne (fun z => hkk (by
        obtain ⟨h1, e1⟩ := List.getElem?_eq_some_iff.mp ea
        obtain ⟨h2, e2⟩ := List.getElem?_eq_some_iff.mp e'
        exact (List.getElem_inj G0.base.nd).mp (e1.trans (z.symm.trans e2.symm))))]; exact f2
  · show upd _ _ _ _ = _
    by_cases hb : b = a
    · subst hb
      -- an object of the entry that is not the entry's mutable: it would be new
      rw [G0.ext.an b hm na] at e'; cases e'
    · rw [upd_ne hb]; exact G0.ext.hh b u' e' na
  · obtain ⟨b, u2, f1, f2, f3, f4, f5, f6⟩ := G0.ow j d2 e'
    have ne : b ≠ a := fun z => f5 (by rw [z]; exact hm)
    exact ⟨b, u2, f1, by show upd _ _ _ _ = _; rw [upd_ne ne]; exact f2, ra f3, f4, f5, f6⟩
/-- x[k] = e -/
theorem s_seti {x k e : Expr} {sp : Pos} (h0 : PS X (.Assign [.Subscript x k sp] e pos) (tAsg (tI F T.g W .k p) (gSub (tVar i) (tI F T.g W k2 q) rSetL))) : PS X (.Assign [.Subscript x k sp] e pos) (tS F T.g W (.seti i q p)) := PS.imp h0 fun D σ H ⟨w0, w, ρ, s, e, G0, h⟩ => by
  subst e
  unfold ex at h
  refine tI_mono (fl_bind (kq := .k) G0 h) fun y H1 ⟨w1, d, ρ1, s1, M, hp, h1⟩ => ?_
  obtain ⟨rfl, G1, S1, O1⟩ := M
  have hp : Rw T.g w1 y d := hp
  split at h1
  · rename_i ds e1
    obtain ⟨a, o, a1, a2, a3, a4, a5, a6⟩ := G1.ow i _ e1
    refine ⟨.ref a, a1, ?_⟩
    refine tI_mono (fl_bind (kq := k2) G1 h1) fun z H2 ⟨w2, d2, ρ2, s2, M, hq, h2⟩ => ?_
    obtain ⟨rfl, G2, S2, O2⟩ := M
    have t := hq.tr G2.ext
    cases d2 with
    | int n =>
      cases t.int
      dsimp only at h2
      split at h2
      · rename_i j es e3 e4
        split at h2
        · rename_i hl
          obtain ⟨b, o2, b1, b2, b3, b4, b5, b6⟩ := G2.ow i _ e4
          rw [a1] at b1
          cases b1
          cases b3 with
          | lst r2 =>
            rename_i vs2
            refine ⟨a, vs2, n, j, rfl, rfl, b2, by rw [r2.length, hl]; exact e3, ?_⟩
            exact h2 (w2.up a (.lst (vs2.set j y))) σ (G2.chg e4 a1 (.lst (r2.set j (S2.r hp)))) ⟨fun _ _ h => h, fun _ _ h => h⟩
        · exact h2.elim
      · exact h2.elim
    | _ => exact h2.elim
  · rename_i r e1
    obtain ⟨v, a1, a2⟩ := G1.im i _ e1
    cases a2 with
    | mref hm =>
      rename_i a
      refine ⟨.ref a, a1, ?_⟩
      refine tI_mono (fl_bind (kq := k2) G1 h1) fun z H2 ⟨w2, d2, ρ2, s2, M, hq, h2⟩ => ?_
      obtain ⟨rfl, G2, S2, O2⟩ := M
      have t := hq.tr G2.ext
      split at h2
      · rename_i n es e2
        cases t.int
        cases e3 : ixN es.length n with
        | none => rw [e3] at h2; exact h2.elim
        | some j =>
          rw [e3] at h2
          have hm2 := S2.al _ _ hm
          obtain ⟨d3, o, f1, f2, f3⟩ := G2.base.st r a hm2
          rw [e2] at f1
          cases f1
          cases f3 with
          | lst r2 =>
            rename_i vs2
            refine ⟨a, vs2, n, j, rfl, rfl, f2, by rw [r2.length]; exact e3, ?_⟩
            exact h2 (w2.up a (.lst (vs2.set j y))) σ (G2.chgM hm2 (.lst (r2.set j (S2.r hp)))) ⟨fun _ _ h => h, fun _ _ h => h⟩
      · exact h2.elim
  · exact h1.elim
end
end Z

namespace Z
open PySem PySem.Spec PyProof.Rows L2
/-! from the text to the plain machine -/
structure CT where
  N : List Str
  calls : List CE
  consts : List (Str × D)
  blts : List Str
  fr : Bool := false
def idx : List Str → Str → Option Nat
  | [], _ => none
  | y :: ys, x => if y = x then some 0 else (idx ys x).map (· + 1)
theorem idx_ok : ∀ {N : List Str} {x : Str} {i : Nat}, idx N x = some i → N[i]? = some x
  | [], _, _, h => by cases h
  | y :: ys, x, i, h => by
    unfold idx at h
    split at h
    · rename_i e
      cases h
      rw [e]; rfl
    · obtain ⟨j, e, rfl⟩ := Option.map_eq_some_iff.mp h
      exact idx_ok (N := ys) e
def visB (sc : Scope) (x : Str) : Bool := match sc.names.lookup x with
  | some .local => true
  | some .cell => true
  | some .free => true
  | _ => false
def locB (sc : Scope) (x : Str) : Bool := match sc.names.lookup x with
  | some .local => true
  | some .cell => true
  | _ => false
def glB (sc : Scope) (x : Str) : Bool := match sc.names.lookup x with
  | some .globalImplicit => true
  | _ => false
def dbB (x : Str) : Bool := !(x == ("__debug__" : Str)) && !(x == ("__classdict__" : Str)) && !(x == ("__name__" : Str))
def boOf : Operator → Option Bo
  | .Add => some .add | .Sub => some .sub | .Mult => some .mul | .FloorDiv => some .fdiv | .Mod => some .mod | .Pow => some .pow
  | _ => none
theorem boOf_ok {o : Operator} {b : Bo} (h : boOf o = some b) : o = boO b := by cases o <;> cases h <;> rfl
def coOf : CmpOp → Option Co
  | .Eq => some .eq | .NotEq => some .ne | .Lt => some .lt | .LtE => some .le | .Gt => some .gt | .GtE => some .ge | .Is => some .isN | .IsNot => some .notN | .In => some .inn | .NotIn => some .nin
theorem coOf_ok {o : CmpOp} {b : Co} (h : coOf o = some b) : o = coO b := by cases o <;> cases h <;> rfl
def bfOf (x : Str) (n : Nat) : Option Bf :=
  if x = "len" then some .len else if x = "sum" then some .sum else if x = "int" then some .int else if x = "tuple" then some .tuple else if x = "list" then some .list
  else if x = "max" ∧ n = 2 then some .max2 else if x = "min" ∧ n = 2 then some .min2 else if x = "abs" then some .abs else none
def tyOf (x : Str) : Option Ty :=
  if x = "int" then some .int else if x = "bool" then some .bool else if x = "str" then some .str else if x = "list" then some .list else if x = "tuple" then some .tuple else none
def lsty : Expr → Bool
  | .List _ _ => true
  | .ListComp .. => true
  | .Call (.Name x _) _ _ _ => x == ("list" : Str)
  | _ => false
def notSlice : Expr → Bool
  | .Slice .. => false
  | _ => true
def notSet : Expr → Bool
  | .Set .. => false
  | _ => true
def bopE (op : BoolOp) (p q : Ex) : Ex := match op with
  | .And => .an p q
  | .Or => .orr p q
def compBs (f : Bool → Expr → Option Ex) (op : BoolOp) : List Expr → Option Ex
  | [] => none
  | [a] => f false a
  | a :: rest => match f true a, compBs f op rest with
    | some p, some q => some (bopE op p q)
    | _, _ => none
def compAs (f : Bool → Expr → Option Ex) : List Bool → List Expr → Option (List Ex)
  | _, [] => some []
  | m :: ms, e :: es => if notStar e then match f m e, compAs f ms es with
    | some p, some ps => some (p :: ps)
    | _, _ => none else none
  | [], _ :: _ => none
def callIx : List CE → Str → Nat → List (Option Str) → Option (Nat × CE)
  | [], _, _, _ => none
  | c :: cs, x, n, ks => if c.x = x ∧ c.n = n ∧ ks = c.ks.map some then some (0, c) else (callIx cs x n ks).map fun (i, c) => (i + 1, c)
theorem callIx_ok : ∀ {cs : List CE} {x : Str} {n i : Nat} {ks : List (Option Str)} {c : CE}, callIx cs x n ks = some (i, c) → cs[i]? = some c ∧ c.x = x ∧ c.n = n ∧ ks = c.ks.map some
  | [], _, _, _, _, _, h => by cases h
  | c0 :: cs, x, n, i, ks, c, h => by
    unfold callIx at h
    split at h
    · rename_i e
      cases h
      exact ⟨rfl, e.1, e.2.1, e.2.2⟩
    · obtain ⟨⟨j, c'⟩, e, e2⟩ := Option.map_eq_some_iff.mp h
      cases e2
      exact callIx_ok (cs := cs) e
mutual
def compTg (N : List Str) (sc : Scope) (ow : Str → Bool) : Nat → Expr → Option Tg
  | 0, _ => none
  | n + 1, .Name x _ => if locB sc x && ow x && dbB x then (idx N x).map .nm else none
  | n + 1, .Tuple es _ _ => (compTgs N sc ow n es).map .tp
  | _, _ => none
def compTgs (N : List Str) (sc : Scope) (ow : Str → Bool) : Nat → List Expr → Option (List Tg)
  | 0, _ => none
  | n + 1, [] => some []
  | n + 1, e :: es => if notStar e then match compTg N sc ow n e, compTgs N sc ow n es with
    | some t, some ts => some (t :: ts)
    | _, _ => none else none
end
def ownOf (N : List Str) (scope : Scope) : List (Str × Nat) := scope.names.filterMap fun (x, k) => match k with
  | .local => (idx N x).map (x, ·)
  | .cell => (idx N x).map (x, ·)
  | _ => none
def frzOf (N : List Str) (scope : Scope) : List Nat := scope.names.filterMap fun (x, k) => match k with
  | .free => idx N x
  | _ => none
def owB (scope sc : Scope) (x : Str) : Bool := (scope.names.lookup x == some .cell) || ((relS scope sc).names.lookup x == some .local)
def allIn (a b : List Nat) : Bool := a.all fun x => b.contains x
def compIsi (c : CT) (sc : Scope) (f : Bool → Expr → Option Ex) (x : Str) : List Expr → Option Ex
  | [a, .Name t _] => match tyOf t, f true a with
    | some ty, some p => if glB sc t && c.blts.contains t && c.blts.contains x then some (.isi p [ty]) else none
    | _, _ => none
  | _ => none
def compBlt (c : CT) (f : Bool → Expr → Option Ex) (x : Str) : List Expr → Option Ex
  | [] => none
  | e :: es => match bfOf x (es.length + 1) with
    | some b => if c.blts.contains x then (compAs f (List.replicate (es.length + 1) true) (e :: es)).map (.blt b) else none
    | none => none
def compKw (c : CT) (sc : Scope) (f : Bool → Expr → Option Ex) (x : Str) (es : List Expr) (kws : List Keyword) : Option Ex :=
  if glB sc x && dbB x && es.all notStar then match callIx c.calls x es.length (kws.map (·.arg)) with
    | some (i, ce) => match compAs f ce.ms es, compAs f (ce.ms.drop ce.n) (kws.map (·.value)) with
      | some ps, some qs => some (.call i ce.ms (ps ++ qs))
      | _, _ => none
    | none => none else none
section
variable (c : CT)
mutual
def compE : Nat → Scope → Bool → Expr → Option Ex
  | 0, _, _, _ => none
  | n + 1, sc, b, e => match e with
    | .Constant k _ _ => match k with
      | .int i => some (.c (.int i))
      | .bool x => some (.c (.bl x))
      | .none => some (.c .non)
      | .str x => some (.c (.str x))
      | _ => none
    | .Name x _ => if dbB x then (if visB sc x then (idx c.N x).map (fun i => if b then .bv i else .v i) else if glB sc x then (c.consts.lookup x).map .c else none) else none
    | .Tuple es _ _ => (compAs (compE n sc) (List.replicate es.length false) es).map .tup
    | .List es _ => (compAs (compE n sc) (List.replicate es.length false) es).map .lst
    | .BinOp a op r _ => match boOf op, compE n sc true a, compE n sc true r with
      | some o, some p, some q => if o = .add ∧ (lsty a || lsty r) = true then some (.cat p q) else some (.bin o p q)
      | _, _, _ => none
    | .UnaryOp .USub a _ => (compE n sc true a).map .neg
    | .UnaryOp .Not a _ => (compE n sc true a).map .nt
    | .BoolOp op es _ => compBs (compE n sc) op es
    | .Compare a [o] [r] _ => match coOf o, compE n sc true a, compE n sc true r with
      | some o', some p, some q => if behindInMarks o r = false then some (.cmp o' p q) else none
      | _, _, _ => none
    | .Compare a [o, o2] [r, t] _ => match coOf o, coOf o2, compE n sc true a, compE n sc true r, compE n sc true t with
      | some o', some o2', some p, some q, some u => if lastMarks [o, o2] [r, t] = false then some (.ch o' o2' p q u) else none
      | _, _, _, _, _ => none
    | .IfExp t a r _ => match compE n sc true t, compE n sc false a, compE n sc false r with
      | some p, some q, some u => some (.ife p q u)
      | _, _, _ => none
    | .Subscript a i _ => if notSlice i then match compE n sc true a, compE n sc true i with
      | some p, some q => some (.ix p q)
      | _, _ => none else none
    | .Call (.Name x _) es kws _ => match kws with
      | k :: ks => compKw c sc (compE n sc) x es (k :: ks)
      | [] => if glB sc x && dbB x && es.all notStar then match callIx c.calls x es.length [] with
        | some (i, ce) => (compAs (compE n sc) ce.ms es).map fun ps => .call i ce.ms (ps ++ [])
        | none => if x = "isinstance" then compIsi c sc (compE n sc) x es else compBlt c (compE n sc) x es else none
    | .ListComp el [⟨tg, it, ifs, 0⟩] scope _ =>
      if blkC c.N sc scope (ownOf c.N scope) && notSet it then
        match compI n true sc it, compTg c.N (relS scope sc) (owB scope sc) n tg, (match ifs with
          | [] => some none
          | [t] => (compE n (relS scope sc) true t).map some
          | _ => none), compE n (relS scope sc) false el with
        | some i, some t, some co, some p => if allIn (slots t) ((ownOf c.N scope).map (·.2)) then some (.lc (frzOf c.N scope) ((ownOf c.N scope).map (·.2)) t i co p) else none
        | _, _, _, _ => none
      else none
    | .ListComp el [⟨tg, it, [], 0⟩, ⟨tg1, it1, [], 0⟩] scope _ =>
      if blkC c.N sc scope (ownOf c.N scope) && notSet it && notSet it1 then
        match compI n true sc it, compTg c.N (relS scope sc) (owB scope sc) n tg, compI n false (relS scope sc) it1, compTg c.N (relS scope sc) (owB scope sc) n tg1, compE n (relS scope sc) false el with
        | some i, some t, some i1, some t1, some p => if allIn (slots t) ((ownOf c.N scope).map (·.2)) && allIn (slots t1) ((ownOf c.N scope).map (·.2)) then some (.lc2 (frzOf c.N scope) ((ownOf c.N scope).map (·.2)) (slots t1) t i t1 i1 p) else none
        | _, _, _, _, _ => none
      else none
    | _ => none
def compI : Nat → Bool → Scope → Expr → Option It
  | 0, _, _, _ => none
  | n + 1, k, sc, e => match e with
    | .Call (.Name x _) [a] [] _ => if x = "range" then (if glB sc x && c.blts.contains x && notStar a then (compE n sc true a).map .rng1 else none) else (compE n sc false e).map .seq
    | .Call (.Name x _) [a, b] [] _ => if x = "range" then (if glB sc x && c.blts.contains x && notStar a && notStar b then match compE n sc true a, compE n sc true b with
      | some p, some q => some (.rng2 p q)
      | _, _ => none else none) else (compE n sc false e).map .seq
    | .Name x _ => if dbB x && visB sc x then (idx c.N x).map fun i => .seq (if k then .sv i else .v i) else (compE n sc false e).map .seq
    | _ => (compE n sc false e).map .seq
end
end
end Z

namespace Z
open PySem PySem.Spec PyProof.Rows L2
structure Tabs (T : Tb) (F : List Fn) (c : CT) : Prop where
  calls : ∀ (i : Nat) ce, c.calls[i]? = some ce → ∃ fn, F[i]? = some fn ∧ CallGood T ce fn
  consts : ∀ x d, c.consts.lookup x = some d → ∃ v u, T.mg x = some u ∧ RelV v u ∧ ∀ w : Ws, Rw T.g w v d
  blts : ∀ x, x ∈ c.blts → T.mg x = none
section
variable {F : List Fn} {T : Tb} {c : CT} {sc : Scope} {ow : Str → Bool} {W : WX} {X : Cx} {p q : Ex} {n : Nat}
def POk (F : List Fn) (T : Tb) (W : WX) (X : Cx) (b : Bool) (e : Expr) (p : Ex) : Prop := PE X e (tI F T.g W (kd p) p) ∧ (b = false → kd p ≠ .b ∧ kd p ≠ .s) ∧ PT X e (tT F T.g W p)
def EOk (F : List Fn) (T : Tb) (c : CT) (n : Nat) : Prop := ∀ sc b e p, compE c n sc b e = some p → ∀ {ow : Str → Bool} {W : WX} {X : Cx}, Ok T c.N sc ow W X → POk F T W X b e p
def IOk (F : List Fn) (T : Tb) (c : CT) (n : Nat) : Prop := ∀ k sc e it, compI c n k sc e = some it → ∀ {ow : Str → Bool} {W : WX} {X : Cx}, Ok T c.N sc ow W X → ∀ tg, PI X tg e (tIt k F T.g W it)
theorem vis_of (h : visB sc x = true) (e : X.env.scope = sc) : Vis X.env.scope x := by
  rw [e]
  unfold visB at h
  split at h
  · exact .inl (by assumption)
  · exact .inr (.inl (by assumption))
  · exact .inr (.inr (by assumption))
  · cases h
theorem loc_of (h : locB sc x = true) (e : X.env.scope = sc) : Loc X.env.scope x := by
  rw [e]
  unfold locB at h
  split at h
  · exact .inl (by assumption)
  · exact .inr (by assumption)
  · cases h
theorem gl_of (h : glB sc x = true) (e : X.env.scope = sc) : Gl X x := by
  show X.env.scope.names.lookup x = some .globalImplicit
  rw [e]
  unfold glB at h
  split at h
  · assumption
  · cases h
theorem db_of {x : Str} (h : dbB x = true) : (x == ("__debug__" : Str)) = false ∧ (x == ("__classdict__" : Str)) = false ∧ x ≠ "__name__" := by
  unfold dbB at h
  simp only [Bool.and_eq_true, Bool.not_eq_true'] at h
  exact ⟨h.1.1, h.1.2, fun z => by rw [z] at h; simp at h⟩
/-- the test of a plain expression is its value's truth -/
def plainT : Expr → Bool
  | .UnaryOp .Not _ _ => false
  | .BoolOp .. => false
  | .IfExp .. => false
  | .Compare .. => false
  | _ => true
theorem isTrue_of {e : Expr} {env : PySem.Env} (h : plainT e = true) : ∀ whole, isTrue e env whole = (do let v ← whole; standAt e.pos; holding [v] (truthy v)) := by
  intro whole
  cases e with
  | UnaryOp op a pos => cases op <;> first | rfl | cases h
  | BoolOp => cases h
  | IfExp => cases h
  | Compare => cases h
  | _ => rfl
theorem pok_plain {b : Bool} {e : Expr} (ok : Ok T c.N sc ow W X) (hp : plainT e = true) (ht : ∀ ρ s, ev F p true ρ s = fin true (ev F p false ρ s)) (hk : b = false → kd p ≠ .b ∧ kd p ≠ .s) (h : PE X e (tI F T.g W (kd p) p)) : POk F T W X b e p :=
  ⟨h, hk, r_truth ht ok.K h (isTrue_of hp)⟩
theorem pok_k {e : Expr} (h : POk F T W X false e p) : PE X e (tI F T.g W .k p) := PE.imp h.1 fun _ _ _ z => tI_k (h.2.1 rfl).1 (h.2.1 rfl).2 z
/-- a test that is a comparison's own -/
theorem r_tt {e : Expr} {t : TE} (hp : ∀ ρ s, ev F p true ρ s = fin true (ev F p false ρ s)) (hb : ∀ ρ s d ρ' s', ev F p false ρ s = .ok d ρ' s' → ∃ b, d = .bl b) (ht : PT X e (tTest t)) (hi : ∀ σ H Q, tI F T.g W .k p σ H Q → t σ H Q) : PT X e (tT F T.g W p) := by
  refine PT.imp ht fun σ H Q ⟨w0, w, ρ, s, e, G0, h⟩ => ?_
  subst e
  refine hi σ w.H _ ⟨w0, w, ρ, s, rfl, G0, ?_⟩
  rw [hp] at h
  cases q : ev F p false ρ s with
  | bad => rw [q] at h; exact h
  | exc c fs ρ' s' => rw [q] at h; exact h
  | ok d ρ' s' =>
    rw [q] at h
    obtain ⟨b, rfl⟩ := hb _ _ _ _ _ q
    obtain ⟨b', e, z⟩ := h
    cases e
    intro v w' G1 S O hp
    cases hp
    exact ⟨b, rfl, z w' G1 S O⟩
theorem as_ok {f : Bool → Expr → Option Ex} (hf : ∀ b e p, f b e = some p → POk F T W X b e p) : ∀ {ms : List Bool} {es : List Expr} {ps : List Ex}, compAs f ms es = some ps → PA X es (tA F T.g W ms ps) ∧ es.all notStar = true ∧ ps.length = es.length
  | ms, [], ps, h => by
    cases ms <;> (cases h; exact ⟨r_nil, rfl, rfl⟩)
  | m :: ms, e :: es, ps, h => by
    unfold compAs at h
    split at h
    · rename_i hs
      split at h
      · rename_i p ps' h1 h2
        cases h
        obtain ⟨a1, a2, a3⟩ := as_ok hf h2
        have hp := hf _ _ _ h1
        refine ⟨?_, by rw [List.all_cons, hs, a2]; rfl, by simp [a3]⟩
        cases m with
        | false => exact r_consK hs (pok_k hp) a1
        | true => exact r_consB hs hp.1 a1
      · cases h
    · cases h
  | [], _ :: _, _, h => by cases h
theorem all_false (n : Nat) : (List.replicate n false).all (· == false) = true := by
  induction n with
  | zero => rfl
  | succ n ih => rw [List.replicate_succ, List.all_cons, ih]; rfl
/-- and, or -/
theorem bs_ok {f : Bool → Expr → Option Ex} {op : BoolOp} (hf : ∀ b e p, f b e = some p → POk F T W X b e p) : ∀ {es : List Expr} {p : Ex} {pos : Pos}, compBs f op es = some p →
    PE X (.BoolOp op es pos) (tI F T.g W .k p) ∧ PW X (.BoolOp op es pos) (tT F T.g W p)
  | [a], p, pos, h => by
    have hp := hf _ _ _ (show f false a = some p from h)
    refine ⟨pe_one (pok_k hp), ?_⟩
    cases op with
    | And => exact pw_and1 hp.2.2
    | Or => exact pw_or1 hp.2.2
  | a :: b :: rest, p, pos, h => by
    have h' : (match f true a, compBs f op (b :: rest) with
      | some p, some q => some (bopE op p q)
      | _, _ => none) = some p := h
    split at h'
    · rename_i p1 q1 h1 h2
      have hp := hf _ _ _ h1
      obtain ⟨b1, b2⟩ := bs_ok (pos := pos) hf h2
      cases h'
      cases op with
      | And => exact ⟨r_andV hp.1 b1, r_andT hp.2.2 b2⟩
      | Or => exact ⟨r_orV hp.1 b1, r_orT hp.2.2 b2⟩
    · cases h'
theorem bs_kd {f : Bool → Expr → Option Ex} {op : BoolOp} (hf : ∀ b e p, f b e = some p → POk F T W X b e p) {es : List Expr} (h : compBs f op es = some p) : kd p ≠ .b ∧ kd p ≠ .s := by
  match es, h with
  | [a], h => exact (hf _ _ _ (show f false a = some p from h)).2.1 rfl
  | a :: b :: rest, h =>
    have h' : (match f true a, compBs f op (b :: rest) with
      | some p, some q => some (bopE op p q)
      | _, _ => none) = some p := h
    split at h'
    · cases h'
      cases op <;> exact ⟨(fun z => by cases z), (fun z => by cases z)⟩
    · cases h'
theorem tI_any {kq : Kd} {e : Expr} (h1 : kd p ≠ .b ∧ kd p ≠ .s) (h : PE X e (tI F T.g W .k p)) (hk : kd p = .k) : PE X e (tI F T.g W (kd p) p) := by rw [hk]; exact h
mutual
theorem tg_ok (ok : Ok T c.N sc ow W X) : ∀ (n : Nat) {e : Expr} {t : Tg}, compTg c.N sc ow n e = some t → PG X e (gD T.g.K t)
  | 0, _, _, h => by cases h
  | n + 1, e, t, h => by
    cases e with
    | Name x pos =>
      have h' : (if locB sc x && ow x && dbB x then (idx c.N x).map Tg.nm else none) = some t := h
      split at h'
      · rename_i hc
        simp only [Bool.and_eq_true] at hc
        obtain ⟨i, e, rfl⟩ := Option.map_eq_some_iff.mp h'
        exact pg_name ok.nd (by rw [ok.hN]; exact idx_ok e) (loc_of hc.1.1 ok.sc) (ok.fn x hc.1.2)
      · cases h'
    | Tuple es k pos =>
      have h' : (compTgs c.N sc ow n es).map Tg.tp = some t := h
      obtain ⟨ts, e, rfl⟩ := Option.map_eq_some_iff.mp h'
      obtain ⟨a1, a2, a3⟩ := tgs_ok ok n e
      show PG X (.Tuple es k pos) (gTup T.g.K ts.length (gDs T.g.K ts))
      rw [← ok.K] at a1 ⊢
      exact pg_tup ok.calm a1 (by rw [a2]) a3
    | _ => cases h
theorem tgs_ok (ok : Ok T c.N sc ow W X) : ∀ (n : Nat) {es : List Expr} {ts : List Tg}, compTgs c.N sc ow n es = some ts → PGs X es (gDs T.g.K ts) ∧ (assignEach es X.env).length = ts.length ∧ (assignEach es X.env).findIdx? (·.1) = none
  | 0, _, _, h => by cases h
  | n + 1, [], ts, h => by cases h; exact ⟨pgs_nil, rfl, rfl⟩
  | n + 1, e :: es, ts, h => by
    have h' : (if notStar e then match compTg c.N sc ow n e, compTgs c.N sc ow n es with
      | some t, some ts => some (t :: ts)
      | _, _ => none else none) = some ts := h
    split at h'
    · rename_i hs
      split at h'
      · rename_i t ts' h1 h2
        cases h'
        obtain ⟨a1, a2, a3⟩ := tgs_ok ok n h2
        have e1 : assignEach (e :: es) X.env = (false, assign e X.env) :: assignEach es X.env := by
          cases e <;> first | rfl | cases hs
        refine ⟨pgs_cons (tg_ok ok n h1) a1 (by rw [e1]; rfl), by rw [e1]; simp [a2], ?_⟩
        rw [e1, List.findIdx?_cons, a3]
        rfl
      · cases h'
    · cases h'
end
theorem blk_ok {scope : Scope} {s : Shared} {H : Hp} {C : Addr} {cl : List (Str × Addr)} {fp : List Addr} (ok : Ok T c.N sc ow W X) : Ok T c.N (relS scope sc) (owB scope sc) W0 (X.blk s H scope (compEnvC scope cl C X.env) fp) := by
  have hsc : (compEnvC scope cl C X.env).scope = relS scope X.env.scope := rfl
  refine ⟨ok.P, ok.w, ok.K, ok.mg, ok.base, ok.calm, ok.hN, ok.nd, ?_, ok.room, takes0, fun x hx => ?_⟩
  · show (compEnvC scope cl C X.env).scope = _
    rw [hsc, ok.sc]
  · unfold owB at hx
    rcases Bool.or_eq_true_iff.mp hx with h | h
    · exact .inl h
    · refine .inr ?_
      show (compEnvC scope cl C X.env).scope.names.lookup x = some .local
      rw [hsc, ok.sc]
      simpa using h
theorem allIn_ok {a b : List Nat} (h : allIn a b = true) : ∀ j ∈ a, j ∈ b := fun j hj => by
  have := List.all_eq_true.mp h j hj
  simpa using this
theorem fsi_of {e : Expr} (h : notSet e = true) (env : PySem.Env) (x : Value) : foldedSetIterable e env x = pure x := by
  cases e <;> first | rfl | cases h
theorem plainIx_of {e : Expr} (h : notSlice e = true) : PlainIx e := fun o i => by
  cases e <;> first | rfl | cases h
theorem kd_ne {k : Kd} (h : k = .k ∨ k = .f) : k ≠ .b ∧ k ≠ .s := by
  rcases h with rfl | rfl <;> exact ⟨by decide, by decide⟩
theorem bf_nm {x : Str} {n : Nat} {f : Bf} (h : bfOf x n = some f) : x = bfN f := by
  unfold bfOf at h
  repeat' (split at h)
  all_goals first
    | (cases h; done)
    | (cases h; rename_i e; first | exact e | exact e.1)
theorem ty_nm {x : Str} {t : Ty} (h : tyOf x = some t) : x = tyN t ∧ tyOk t = true := by
  unfold tyOf at h
  repeat' (split at h)
  all_goals first
    | (cases h; done)
    | (cases h; rename_i e; exact ⟨e, rfl⟩)
theorem name_ok {n : Nat} (tb : Tabs T F c) (ok : Ok T c.N sc ow W X) {b : Bool} {x : Str} {pos : Pos} (h : compE c (n + 1) sc b (.Name x pos) = some p) : POk F T W X b (.Name x pos) p := by
  have h' : (if dbB x then (if visB sc x then (idx c.N x).map (fun i => if b then Ex.bv i else Ex.v i) else if glB sc x then (c.consts.lookup x).map Ex.c else none) else none) = some p := h
  split at h'
  · rename_i hd
    obtain ⟨d1, d2, d3⟩ := db_of hd
    split at h'
    · rename_i hv
      obtain ⟨i, e, e2⟩ := Option.map_eq_some_iff.mp h'
      have hpv : PE X (.Name x pos) (tVar i) := pe_var (by rw [ok.hN]; exact idx_ok e) (vis_of hv ok.sc) d1 d2
      cases b with
      | true =>
        cases e2
        exact pok_plain ok rfl (fun _ _ => rfl) (fun z => by cases z) (r_bv hpv)
      | false =>
        cases e2
        exact pok_plain ok rfl (fun _ _ => rfl) (fun _ => kd_ne (.inl rfl)) (r_v hpv)
    · split at h'
      · rename_i hg
        obtain ⟨d, e, e2⟩ := Option.map_eq_some_iff.mp h'
        subst e2
        obtain ⟨v, u, m, r, rw_⟩ := tb.consts x d e
        have hpv : PE X (.Name x pos) (tC v) := pe_glob (gl_of hg ok.sc) (by rw [ok.mg]; exact m) r d1
        refine pok_plain ok rfl (fun _ _ => rfl) (fun _ => kd_ne (.inl rfl)) ?_
        refine PE.imp hpv fun σ H Q ⟨w0, w, ρ, s, e, G0, h⟩ => ?_
        subst e
        exact Go.here G0 h (rw_ w)
      · cases h'
  · cases h'
theorem cmp_bl {op : Co} {pa pb : Ex} {ρ ρ' : En} {s s' : List D} {d : D} (h : ev F (.cmp op pa pb) false ρ s = .ok d ρ' s') : ∃ b, d = .bl b := by
  unfold ev at h
  simp only [fin_f] at h
  cases q : ev F pa false ρ s with
  | bad => rw [q] at h; cases h
  | exc c fs ρ' s' => rw [q] at h; cases h
  | ok dx ρ1 s1 =>
    rw [q, Out.bind_ok] at h
    cases q2 : ev F pb false ρ1 s1 with
    | bad => rw [q2] at h; cases h
    | exc c fs ρ' s' => rw [q2] at h; cases h
    | ok dy ρ2 s2 =>
      rw [q2, Out.bind_ok] at h
      cases q3 : cmpD op dx dy with
      | none => rw [q3] at h; cases h
      | some b => rw [q3] at h; cases h; exact ⟨b, rfl⟩
theorem ch_bl {op op' : Co} {pa pb pc : Ex} {ρ ρ' : En} {s s' : List D} {d : D} (h : ev F (.ch op op' pa pb pc) false ρ s = .ok d ρ' s') : ∃ b, d = .bl b := by
  unfold ev at h
  simp only [fin_f] at h
  cases q : ev F pa false ρ s with
  | bad => rw [q] at h; cases h
  | exc c fs ρ' s' => rw [q] at h; cases h
  | ok dx ρ1 s1 =>
    rw [q, Out.bind_ok] at h
    cases q2 : ev F pb false ρ1 s1 with
    | bad => rw [q2] at h; cases h
    | exc c fs ρ' s' => rw [q2] at h; cases h
    | ok dy ρ2 s2 =>
      rw [q2, Out.bind_ok] at h
      cases q3 : cmpD op dx dy with
      | none => rw [q3] at h; cases h
      | some b =>
        rw [q3] at h
        cases b with
        | false => cases h; exact ⟨_, rfl⟩
        | true =>
          dsimp only at h
          cases q4 : ev F pc false ρ2 s2 with
          | bad => rw [q4] at h; cases h
          | exc c fs ρ' s' => rw [q4] at h; cases h
          | ok dz ρ3 s3 =>
            rw [q4, Out.bind_ok] at h
            cases q5 : cmpD op' dy dz with
            | none => rw [q5] at h; cases h
            | some b => rw [q5] at h; cases h; exact ⟨b, rfl⟩
theorem ch_hi {op op' : Co} {pa pb pc : Ex} {k1 k2 k3 : Kd} {σ : L2.St} {H : Hp} {Q : VK} (hw : tI F T.g W .k (.ch op op' pa pb pc) σ H Q) : tChain (cmpR T.g.K op) (cmpR T.g.K op') (tI F T.g W k1 pa) (tI F T.g W k2 pb) (tI F T.g W k3 pc) σ H Q := by
  obtain ⟨w0, w, ρ, s, e, G0, h⟩ := hw
  subst e
  unfold ev at h
  simp only [fin_f] at h
  refine tI_mono (go_bind (kq := k1) G0 h) fun x H1 ⟨w1, dx, ρ1, s1, M, px, h1⟩ => ?_
  obtain ⟨rfl, G1, S1, O1⟩ := M
  refine tI_mono (go_bind (kq := k2) G1 h1) fun y H2 ⟨w2, dy, ρ2, s2, M, py, h2⟩ => ?_
  obtain ⟨rfl, G2, S2, O2⟩ := M
  have tx := (px.tr G1.ext).step S2
  have ty := py.tr G2.ext
  cases q : cmpD op dx dy with
  | none => rw [q] at h2; exact h2.elim
  | some b1 =>
    rw [q] at h2
    refine cmp_ok G2.base tx ty q ⟨b1, rfl, ?_⟩
    cases b1 with
    | false => exact iteF (Go.here G2 h2 (.bl _))
    | true =>
      refine iteT (tI_mono (go_bind (kq := k3) G2 h2) fun z H3 ⟨w3, dz, ρ3, s3, M, pz, h3⟩ => ?_)
      obtain ⟨rfl, G3, S3, O3⟩ := M
      cases q3 : cmpD op' dy dz with
      | none => rw [q3] at h3; exact h3.elim
      | some b2 =>
        rw [q3] at h3
        exact cmp_ok G3.base (ty.step S3) (pz.tr G3.ext) q3 (Go.here G3 h3 (.bl _))
theorem tbad {e : Expr} (h : ∀ ρ s, ev F p true ρ s = .bad) : PT X e (tT F T.g W p) := ⟨fun _ _ _ _ _ _ ⟨w0, w, ρ, s, e, G0, z⟩ => by rw [h] at z; exact z.elim⟩
theorem isi_ok {f : Bool → Expr → Option Ex} (tb : Tabs T F c) (hf : ∀ b e p, f b e = some p → POk F T W X b e p) (ok : Ok T c.N sc ow W X) {b : Bool} {pp pos : Pos} (hg : glB sc "isinstance" = true) {es : List Expr} (hs : es.all notStar = true) (h : compIsi c sc f "isinstance" es = some p) : POk F T W X b (.Call (.Name "isinstance" pp) es [] pos) p := by
  unfold compIsi at h
  split at h
  · rename_i a t tp
    split at h
    · rename_i ty p1 t1 t2
      split at h
      · rename_i hb
        cases h
        simp only [Bool.and_eq_true, List.contains_iff_mem] at hb
        obtain ⟨⟨b1, b2⟩, b3⟩ := hb
        obtain ⟨n1, n2⟩ := ty_nm t1
        subst n1
        have ha := hf _ _ _ t2
        rw [List.all_cons] at hs
        exact pok_plain ok rfl (fun _ _ => rfl) (fun _ => kd_ne (.inl rfl)) (r_isi ok.K n2 (gl_of hg ok.sc) (by rw [ok.mg]; exact tb.blts _ b3) (gl_of b1 ok.sc) (by rw [ok.mg]; exact tb.blts _ b2) (Bool.and_eq_true_iff.mp hs).1 ha.1)
      · cases h
    · cases h
  · cases h
theorem bltc_ok {f : Bool → Expr → Option Ex} (tb : Tabs T F c) (hf : ∀ b e p, f b e = some p → POk F T W X b e p) (ok : Ok T c.N sc ow W X) {b : Bool} {x : Str} {pp pos : Pos} (hg : glB sc x = true) {es : List Expr} (hs : es.all notStar = true) (h : compBlt c f x es = some p) : POk F T W X b (.Call (.Name x pp) es [] pos) p := by
  unfold compBlt at h
  split at h
  · cases h
  · rename_i e0 es0
    split at h
    · rename_i bf hbf
      split at h
      · rename_i hb
        obtain ⟨ps, e2, rfl⟩ := Option.map_eq_some_iff.mp h
        obtain ⟨a1, a2, a3⟩ := as_ok hf e2
        have e3 := bf_nm hbf
        subst e3
        have hk : kd (.blt bf ps) = .k ∨ kd (.blt bf ps) = .f := by cases bf <;> first | exact .inl rfl | exact .inr rfl
        exact pok_plain ok rfl (fun _ _ => rfl) (fun _ => kd_ne hk) (r_blt bf ok.K ok.calm (gl_of hg ok.sc) (by rw [ok.mg]; exact tb.blts _ (by simpa using hb)) hs a1)
      · cases h
    · cases h
theorem kw_ok {f : Bool → Expr → Option Ex} (hf : ∀ b e p, f b e = some p → POk F T W X b e p) : ∀ {ms : List Bool} {kws : List Keyword} {ps : List Ex}, compAs f ms (kws.map (·.value)) = some ps → PK X kws (tA F T.g W ms ps)
  | ms, [], ps, h => by
    cases ms <;> (cases h; exact ⟨fun pos pins s σ H Q I hw => pk_nil.run pos pins s σ H Q I (tA_nil hw)⟩)
  | m :: ms, ⟨nm, e, kp⟩ :: kws, ps, h => by
    have h' : (if notStar e then match f m e, compAs f ms (kws.map (·.value)) with
      | some p, some ps => some (p :: ps)
      | _, _ => none else none) = some ps := h
    split at h'
    · split at h'
      · rename_i p ps' h1 h2
        cases h'
        have a1 := kw_ok hf h2
        have hp := hf _ _ _ h1
        cases m with
        | false => exact ⟨fun pos pins s σ H Q I hw => (pk_cons (pok_k hp) a1).run pos pins s σ H Q I (by
            obtain ⟨w0, w, ρ, s, e, G0, h⟩ := hw
            subst e
            exact goL_cons G0 h fun _ _ _ _ _ h => h)⟩
        | true => exact ⟨fun pos pins s σ H Q I hw => (pk_cons hp.1 a1).run pos pins s σ H Q I (by
            obtain ⟨w0, w, ρ, s, e, G0, h⟩ := hw
            subst e
            exact goL_cons G0 h fun _ _ _ _ E h => h.tr E)⟩
      · cases h'
    · cases h'
  | [], _ :: _, _, h => by cases h
theorem as_len {f : Bool → Expr → Option Ex} : ∀ {ms : List Bool} {es : List Expr} {ps : List Ex}, compAs f ms es = some ps → ps.length = es.length
  | ms, [], ps, h => by cases ms <;> (cases h; rfl)
  | m :: ms, e :: es, ps, h => by
    unfold compAs at h
    split at h
    · split at h
      · rename_i p ps' h1 h2
        cases h
        simp [as_len h2]
      · cases h
    · cases h
  | [], _ :: _, _, h => by cases h
theorem callK_ok {n : Nat} (tb : Tabs T F c) (IE : EOk F T c n) (ok : Ok T c.N sc ow W X) {b : Bool} {x : Str} {pp pos : Pos} {es : List Expr} {kws : List Keyword} (h : compKw c sc (compE c n sc) x es kws = some p) : POk F T W X b (.Call (.Name x pp) es kws pos) p := by
  have hf : ∀ b e p, compE c n sc b e = some p → POk F T W X b e p := fun b e p h => IE sc b e p h ok
  unfold compKw at h
  split at h
  · rename_i hc
    simp only [Bool.and_eq_true] at hc
    obtain ⟨⟨hg, hd⟩, hs⟩ := hc
    obtain ⟨d1, d2, d3⟩ := db_of hd
    split at h
    · rename_i i ce e1
      obtain ⟨c1, c2, c3, c4⟩ := callIx_ok e1
      split at h
      · rename_i ps qs e2 e3
        cases h
        obtain ⟨a1, a2, a3⟩ := as_ok hf e2
        obtain ⟨fn, f1, f2⟩ := tb.calls i ce c1
        subst c2
        have lq : qs.length = kws.length := by rw [as_len e3, List.length_map]
        have lk : kws.length = ce.ks.length := by
          have := congrArg List.length c4
          simpa using this
        exact pok_plain ok rfl (fun _ _ => rfl) (fun _ => kd_ne (.inl rfl)) (r_call f1 (by rw [a3, c3]) (by rw [lq, lk]) (f2 ok c3.symm hs c4 lq (gl_of hg ok.sc) d1 a1 (kw_ok hf e3)))
      · cases h
    · cases h
  · cases h
theorem call_ok {n : Nat} (tb : Tabs T F c) (IE : EOk F T c n) (ok : Ok T c.N sc ow W X) {b : Bool} {x : Str} {pp pos : Pos} {es : List Expr} (h : compE c (n + 1) sc b (.Call (.Name x pp) es [] pos) = some p) : POk F T W X b (.Call (.Name x pp) es [] pos) p := by
  have h' : (if glB sc x && dbB x && es.all notStar then match callIx c.calls x es.length [] with
      | some (i, ce) => (compAs (compE c n sc) ce.ms es).map fun ps => Ex.call i ce.ms (ps ++ [])
      | none => if x = "isinstance" then compIsi c sc (compE c n sc) x es else compBlt c (compE c n sc) x es else none) = some p := h
  have hf : ∀ b e p, compE c n sc b e = some p → POk F T W X b e p := fun b e p h => IE sc b e p h ok
  split at h'
  · rename_i hc
    simp only [Bool.and_eq_true] at hc
    obtain ⟨⟨hg, hd⟩, hs⟩ := hc
    obtain ⟨d1, d2, d3⟩ := db_of hd
    split at h'
    · rename_i i ce e1
      obtain ⟨c1, c2, c3, c4⟩ := callIx_ok e1
      obtain ⟨ps, e2, rfl⟩ := Option.map_eq_some_iff.mp h'
      obtain ⟨a1, a2, a3⟩ := as_ok hf e2
      obtain ⟨fn, f1, f2⟩ := tb.calls i ce c1
      subst c2
      have lk : ce.ks.length = 0 := by
        have := congrArg List.length c4
        simpa using this.symm
      exact pok_plain ok rfl (fun _ _ => rfl) (fun _ => kd_ne (.inl rfl)) (r_call (qs := []) f1 (by rw [a3, c3]) lk.symm (f2 ok c3.symm hs c4 rfl (gl_of hg ok.sc) d1 a1 (kw_ok (kws := []) (ms := ce.ms.drop ce.n) hf (by cases ce.ms.drop ce.n <;> rfl))))
    · split at h'
      · rename_i hx
        subst hx
        exact isi_ok tb hf ok hg hs h'
      · exact bltc_ok tb hf ok hg hs h'
  · cases h'
theorem lc_parts {n : Nat} (IE : EOk F T c n) (II : IOk F T c n) (ok : Ok T c.N sc ow W X) {b : Bool} {el tg it : Expr} {ifs : List Expr} {scope : Scope} {pos : Pos} (h : compE c (n + 1) sc b (.ListComp el [⟨tg, it, ifs, 0⟩] scope pos) = some p) :
    ∃ i t co p1, p = Ex.lc (frzOf c.N scope) ((ownOf c.N scope).map (·.2)) t i co p1 ∧ PI X tg it (tIt true F T.g W i) ∧ BlkOk X.N X.env.scope scope (ownOf c.N scope) ∧
      (∀ (s : Shared) (H : Hp) (C : Addr) (cl : List (Str × Addr)) (fp : List Addr), PG (X.blk s H scope (compEnvC scope cl C X.env) fp) tg (gD T.g.K t)) ∧
      (∀ (s : Shared) (H : Hp) (C : Addr) (cl : List (Str × Addr)) (fp : List Addr), PTs (X.blk s H scope (compEnvC scope cl C X.env) fp) ifs (tO F T.g W0 co)) ∧
      (∀ (s : Shared) (H : Hp) (C : Addr) (cl : List (Str × Addr)) (fp : List Addr), PE (X.blk s H scope (compEnvC scope cl C X.env) fp) el (tI F T.g W0 .k p1)) ∧
      (∀ x, foldedSetIterable it X.env x = pure x) ∧ (∀ j ∈ slots t, j ∈ (ownOf c.N scope).map (·.2)) := by
  have h' : (if blkC c.N sc scope (ownOf c.N scope) && notSet it then
        match compI c n true sc it, compTg c.N (relS scope sc) (owB scope sc) n tg, (match ifs with
          | [] => some none
          | [t] => (compE c n (relS scope sc) true t).map some
          | _ => none), compE c n (relS scope sc) false el with
        | some i, some t, some co, some p => if allIn (slots t) ((ownOf c.N scope).map (·.2)) then some (Ex.lc (frzOf c.N scope) ((ownOf c.N scope).map (·.2)) t i co p) else none
        | _, _, _, _ => none
      else none) = some p := h
  split at h'
  · rename_i hc
    simp only [Bool.and_eq_true] at hc
    split at h'
    · rename_i i t co p1 h1 h2 h3 h4
      split at h'
      · rename_i hal
        cases h'
        have hco : ∀ (s : Shared) (H : Hp) (C : Addr) (cl : List (Str × Addr)) (fp : List Addr), PTs (X.blk s H scope (compEnvC scope cl C X.env) fp) ifs (tO F T.g W0 co) := fun s H C cl fp => by
          split at h3
          · cases h3; exact r_none (sc := sc)
          · obtain ⟨q, e, rfl⟩ := Option.map_eq_some_iff.mp h3
            exact r_some (IE _ _ _ _ e (blk_ok ok)).2.2
          · cases h3
        exact ⟨i, t, co, p1, rfl, II _ _ _ _ h1 ok tg, by rw [ok.hN, ok.sc]; exact blkOk_by hc.1, fun s H C cl fp => tg_ok (blk_ok ok) n h2, hco, fun s H C cl fp => pok_k (IE _ _ _ _ h4 (blk_ok ok)), fsi_of hc.2 _, allIn_ok hal⟩
      · cases h'
    · cases h'
  · cases h'
theorem lc_ok {n : Nat} (IE : EOk F T c n) (II : IOk F T c n) (ok : Ok T c.N sc ow W X) {b : Bool} {el tg it : Expr} {ifs : List Expr} {scope : Scope} {pos : Pos} (h : compE c (n + 1) sc b (.ListComp el [⟨tg, it, ifs, 0⟩] scope pos) = some p) : POk F T W X b (.ListComp el [⟨tg, it, ifs, 0⟩] scope pos) p := by
  obtain ⟨i, t, co, p1, rfl, a1, a2, a3, a4, a5, a6, a7⟩ := lc_parts IE II ok h
  refine pok_plain ok rfl (fun _ _ => rfl) (fun _ => kd_ne (.inr rfl)) ?_
  exact PE.imp (pe_lc (X := X) (pos := pos) ok.calm ok.nd a1 a2 a3 a4 a5 a6) fun σ H Q ⟨w0, w, ρ, s, e, G0, h⟩ => by
    subst e
    exact lc_read a7 G0 h
theorem lc2_parts {n : Nat} (IE : EOk F T c n) (II : IOk F T c n) (ok : Ok T c.N sc ow W X) {b : Bool} {el tg it tg1 it1 : Expr} {scope : Scope} {pos : Pos} (h : compE c (n + 1) sc b (.ListComp el [⟨tg, it, [], 0⟩, ⟨tg1, it1, [], 0⟩] scope pos) = some p) :
    ∃ i t i1 t1 p1, p = Ex.lc2 (frzOf c.N scope) ((ownOf c.N scope).map (·.2)) (slots t1) t i t1 i1 p1 ∧ PI X tg it (tIt true F T.g W i) ∧ BlkOk X.N X.env.scope scope (ownOf c.N scope) ∧
      (∀ (s : Shared) (H : Hp) (C : Addr) (cl : List (Str × Addr)) (fp : List Addr), PG (X.blk s H scope (compEnvC scope cl C X.env) fp) tg (gD T.g.K t)) ∧
      (∀ (s : Shared) (H : Hp) (C : Addr) (cl : List (Str × Addr)) (fp : List Addr), PI (X.blk s H scope (compEnvC scope cl C X.env) fp) tg1 it1 (tIt false F T.g W0 i1)) ∧
      (∀ (s : Shared) (H : Hp) (C : Addr) (cl : List (Str × Addr)) (fp : List Addr), PG (X.blk s H scope (compEnvC scope cl C X.env) fp) tg1 (gD T.g.K t1)) ∧
      (∀ (s : Shared) (H : Hp) (C : Addr) (cl : List (Str × Addr)) (fp : List Addr), PE (X.blk s H scope (compEnvC scope cl C X.env) fp) el (tI F T.g W0 .k p1)) ∧
      (∀ x, foldedSetIterable it X.env x = pure x) ∧ (∀ (env : PySem.Env) x, foldedSetIterable it1 env x = pure x) ∧ (∀ j ∈ slots t, j ∈ (ownOf c.N scope).map (·.2)) ∧ (∀ j ∈ slots t1, j ∈ (ownOf c.N scope).map (·.2)) := by
  have h' : (if blkC c.N sc scope (ownOf c.N scope) && notSet it && notSet it1 then
        match compI c n true sc it, compTg c.N (relS scope sc) (owB scope sc) n tg, compI c n false (relS scope sc) it1, compTg c.N (relS scope sc) (owB scope sc) n tg1, compE c n (relS scope sc) false el with
        | some i, some t, some i1, some t1, some p => if allIn (slots t) ((ownOf c.N scope).map (·.2)) && allIn (slots t1) ((ownOf c.N scope).map (·.2)) then some (Ex.lc2 (frzOf c.N scope) ((ownOf c.N scope).map (·.2)) (slots t1) t i t1 i1 p) else none
        | _, _, _, _, _ => none
      else none) = some p := h
  split at h'
  · rename_i hc
    simp only [Bool.and_eq_true] at hc
    split at h'
    · rename_i i t i1 t1 p1 h1 h2 h3 h4 h5
      split at h'
      · rename_i hal
        simp only [Bool.and_eq_true] at hal
        cases h'
        exact ⟨i, t, i1, t1, p1, rfl, II _ _ _ _ h1 ok tg, by rw [ok.hN, ok.sc]; exact blkOk_by hc.1.1, fun s H C cl fp => tg_ok (blk_ok ok) n h2, fun s H C cl fp => II _ _ _ _ h3 (blk_ok ok) tg1, fun s H C cl fp => tg_ok (blk_ok ok) n h4,
          fun s H C cl fp => pok_k (IE _ _ _ _ h5 (blk_ok ok)), fsi_of hc.1.2 _, fun env x => fsi_of hc.2 env x, allIn_ok hal.1, allIn_ok hal.2⟩
      · cases h'
    · cases h'
  · cases h'
theorem lc2_ok {n : Nat} (IE : EOk F T c n) (II : IOk F T c n) (ok : Ok T c.N sc ow W X) {b : Bool} {el tg it tg1 it1 : Expr} {scope : Scope} {pos : Pos} (h : compE c (n + 1) sc b (.ListComp el [⟨tg, it, [], 0⟩, ⟨tg1, it1, [], 0⟩] scope pos) = some p) : POk F T W X b (.ListComp el [⟨tg, it, [], 0⟩, ⟨tg1, it1, [], 0⟩] scope pos) p := by
  obtain ⟨i, t, i1, t1, p1, rfl, a1, a2, a3, a4, a5, a6, a7, a8, a9, a10⟩ := lc2_parts IE II ok h
  refine pok_plain ok rfl (fun _ _ => rfl) (fun _ => kd_ne (.inr rfl)) ?_
  exact PE.imp (pe_lc2 (X := X) (pos := pos) (vs1 := slots t1) ok.calm ok.nd a1 a2 a10 a3 (fun _ _ _ _ _ => pts_nil) a4 a5 (fun _ _ _ _ _ => pts_nil) a6 a7 a8) fun σ H Q ⟨w0, w, ρ, s, e, G0, h⟩ => by
    subst e
    exact lc2_read a9 (fun j hj => hj) G0 h
theorem seqI_ok {n : Nat} (IE : EOk F T c n) (ok : Ok T c.N sc ow W X) {k : Bool} {e : Expr} {it : It} (h : (compE c n sc false e).map It.seq = some it) (tg : Expr) : PI X tg e (tIt k F T.g W it) := by
  obtain ⟨q, e1, rfl⟩ := Option.map_eq_some_iff.mp h
  have hp := IE _ _ _ _ e1 ok
  exact r_seq ok.K (hp.2.1 rfl).1 (fun _ => (hp.2.1 rfl).2) hp.1
theorem both_ok (tb : Tabs T F c) : ∀ n, EOk F T c n ∧ IOk F T c n
  | 0 => ⟨fun _ _ _ _ h => (by cases h), fun _ _ _ _ h => (by cases h)⟩
  | n + 1 => by
    obtain ⟨IE, II⟩ := both_ok tb n
    refine ⟨fun sc b e p h ow W X ok => ?_, fun k sc e it h ow W X ok tg => ?_⟩
    · have hf : ∀ b e p, compE c n sc b e = some p → POk F T W X b e p := fun b e p h => IE sc b e p h ok
      cases e with
      | Constant kc j pos =>
        cases kc with
        | int i => cases h; exact pok_plain ok rfl (fun _ _ => rfl) (fun _ => kd_ne (.inl rfl)) (r_c pe_int fun _ _ => .int i)
        | bool i => cases h; exact pok_plain ok rfl (fun _ _ => rfl) (fun _ => kd_ne (.inl rfl)) (r_c pe_bl fun _ _ => .bl i)
        | none => cases h; exact pok_plain ok rfl (fun _ _ => rfl) (fun _ => kd_ne (.inl rfl)) (r_c pe_non fun _ _ => .non)
        | str x => cases h; exact pok_plain ok rfl (fun _ _ => rfl) (fun _ => kd_ne (.inl rfl)) (r_c pe_str fun _ _ => .str x)
        | _ => cases h
      | Name x pos => exact name_ok tb ok h
      | Tuple es k pos =>
        obtain ⟨ps, e2, rfl⟩ := Option.map_eq_some_iff.mp (show (compAs (compE c n sc) (List.replicate es.length false) es).map Ex.tup = some p from h)
        obtain ⟨a1, a2, a3⟩ := as_ok hf e2
        exact pok_plain ok rfl (fun _ _ => rfl) (fun _ => kd_ne (.inl rfl)) (r_tup (all_false _) a1)
      | List es pos =>
        obtain ⟨ps, e2, rfl⟩ := Option.map_eq_some_iff.mp (show (compAs (compE c n sc) (List.replicate es.length false) es).map Ex.lst = some p from h)
        obtain ⟨a1, a2, a3⟩ := as_ok hf e2
        exact pok_plain ok rfl (fun _ _ => rfl) (fun _ => kd_ne (.inr rfl)) (r_lst (all_false _) a1)
      | BinOp a op r pos =>
        have h' : (match boOf op, compE c n sc true a, compE c n sc true r with
          | some o, some p, some q => if o = .add ∧ (lsty a || lsty r) = true then some (Ex.cat p q) else some (Ex.bin o p q)
          | _, _, _ => none) = some p := h
        split at h'
        · rename_i o p1 q1 h1 h2 h3
          have e1 := boOf_ok h1
          subst e1
          split at h'
          · rename_i ho
            cases h'
            obtain ⟨ho, _⟩ := ho
            subst ho
            exact pok_plain ok rfl (fun _ _ => rfl) (fun _ => kd_ne (.inr rfl)) (r_cat ok.K (hf _ _ _ h2).1 (hf _ _ _ h3).1)
          · cases h'
            exact pok_plain ok rfl (fun _ _ => rfl) (fun _ => kd_ne (.inl rfl)) (r_bin o ok.K (hf _ _ _ h2).1 (hf _ _ _ h3).1)
        · cases h'
      | UnaryOp op a pos =>
        cases op with
        | USub =>
          obtain ⟨q, e2, rfl⟩ := Option.map_eq_some_iff.mp (show (compE c n sc true a).map Ex.neg = some p from h)
          exact pok_plain ok rfl (fun _ _ => rfl) (fun _ => kd_ne (.inl rfl)) (r_neg (hf _ _ _ e2).1)
        | Not =>
          obtain ⟨q, e2, rfl⟩ := Option.map_eq_some_iff.mp (show (compE c n sc true a).map Ex.nt = some p from h)
          have hp := hf _ _ _ e2
          obtain ⟨a1, a2⟩ := r_not (pos := pos) hp.1 hp.2.2
          exact ⟨a1, fun _ => kd_ne (.inl rfl), a2⟩
        | _ => cases h
      | BoolOp op es pos =>
        have h' : compBs (compE c n sc) op es = some p := h
        obtain ⟨a1, a2⟩ := bs_ok (pos := pos) hf h'
        have hk := bs_kd hf h'
        refine ⟨?_, fun _ => hk, a2.pt⟩
        cases q : kd p with
        | k => exact a1
        | b => exact absurd q hk.1
        | s => exact absurd q hk.2
        | f =>
          -- a single part that is fresh: as it came
          match es, h' with
          | [a], h' =>
            have hp := (hf _ _ _ (show compE c n sc false a = some p from h')).1
            rw [q] at hp
            exact pe_one hp
          | a :: b :: rest, h' =>
            have h2 : (match compE c n sc true a, compBs (compE c n sc) op (b :: rest) with
              | some p, some q => some (bopE op p q)
              | _, _ => none) = some p := h'
            split at h2
            · cases h2
              cases op <;> cases q
            · cases h2
      | Compare a os rs pos =>
        match os, rs, h with
        | [o], [r], h =>
          have h' : (match coOf o, compE c n sc true a, compE c n sc true r with
            | some o', some p, some q => if behindInMarks o r = false then some (Ex.cmp o' p q) else none
            | _, _, _ => none) = some p := h
          split at h'
          · rename_i o' p1 q1 h1 h2 h3
            split at h'
            · rename_i hm
              cases h'
              have e1 := coOf_ok h1
              subst e1
              obtain ⟨a1, a2⟩ := r_cmp (pos := pos) o' ok.K ok.room hm (hf _ _ _ h2).1 (hf _ _ _ h3).1
              exact ⟨a1, fun _ => kd_ne (.inl rfl), a2⟩
            · cases h'
          · cases h'
        | [o, o2], [r, t], h =>
          have h' : (match coOf o, coOf o2, compE c n sc true a, compE c n sc true r, compE c n sc true t with
            | some o', some o2', some p, some q, some u => if lastMarks [o, o2] [r, t] = false then some (Ex.ch o' o2' p q u) else none
            | _, _, _, _, _ => none) = some p := h
          split at h'
          · rename_i o' o2' p1 q1 u1 h1 h12 h2 h3 h4
            split at h'
            · rename_i hm
              cases h'
              have e1 := coOf_ok h1
              subst e1
              have e2 := coOf_ok h12
              subst e2
              have e0 := pe_chain (pos := pos) (X := X) (op_cmpR ok.room o') (op_cmpR ok.room o2') (hf _ _ _ h2).1 (hf _ _ _ h3).1 (hf _ _ _ h4).1 hm
              have t0 := pt_chain (pos := pos) (X := X) (op_cmpR ok.room o') (op_cmpR ok.room o2') (hf _ _ _ h2).1 (hf _ _ _ h3).1 (hf _ _ _ h4).1 hm
              refine ⟨PE.imp e0 fun σ H Q z => ?_, fun _ => kd_ne (.inl rfl), r_tt (fun _ _ => rfl) (fun _ _ _ _ _ => ch_bl) t0 fun σ H Q z => ?_⟩
              · rw [ok.K]; exact ch_hi z
              · rw [ok.K]; exact ch_hi z
            · cases h'
          · cases h'
        | [], [], h => cases h
        | [], _ :: _, h => cases h
        | [_], [], h => cases h
        | [_], _ :: _ :: _, h => cases h
        | [_, _], [], h => cases h
        | [_, _], [_], h => cases h
        | [_, _], _ :: _ :: _ :: _, h => cases h
        | _ :: _ :: _ :: _, _, h => cases h
      | IfExp t a r pos =>
        have h' : (match compE c n sc true t, compE c n sc false a, compE c n sc false r with
          | some p, some q, some u => some (Ex.ife p q u)
          | _, _, _ => none) = some p := h
        split at h'
        · rename_i p1 q1 u1 h1 h2 h3
          cases h'
          exact ⟨r_ife (hf _ _ _ h1).2.2 (pok_k (hf _ _ _ h2)) (pok_k (hf _ _ _ h3)), fun _ => kd_ne (.inl rfl), tbad fun _ _ => rfl⟩
        · cases h'
      | Subscript a i pos =>
        have h' : (if notSlice i then match compE c n sc true a, compE c n sc true i with
          | some p, some q => some (Ex.ix p q)
          | _, _ => none else none) = some p := h
        split at h'
        · rename_i hn
          split at h'
          · rename_i p1 q1 h1 h2
            cases h'
            exact pok_plain ok rfl (fun _ _ => rfl) (fun _ => kd_ne (.inl rfl)) (r_ix ok.K (plainIx_of hn) (hf _ _ _ h1).1 (hf _ _ _ h2).1)
          · cases h'
        · cases h'
      | Call f es kws pos =>
        cases f with
        | Name x pp =>
          cases kws with
          | nil => exact call_ok tb IE ok h
          | cons k ks => exact callK_ok tb IE ok (show compKw c sc (compE c n sc) x es (k :: ks) = some p from h)
        | _ => cases h
      | ListComp el gens scope pos =>
        match gens, h with
        | [⟨tg, it, ifs, ia⟩], h =>
          by_cases e0 : ia = 0
          · subst e0
            exact lc_ok IE II ok h
          · exfalso
            revert h
            simp [compE, e0]
        | [⟨tg, it, ifs, ia⟩, ⟨tg1, it1, ifs1, ia1⟩], h =>
          by_cases e0 : ia = 0 ∧ ia1 = 0 ∧ ifs = [] ∧ ifs1 = []
          · obtain ⟨rfl, rfl, rfl, rfl⟩ := e0
            exact lc2_ok IE II ok h
          · exfalso
            revert h
            unfold compE
            split <;> simp_all
        | [], h => cases h
        | _ :: _ :: _ :: _, h => simp [compE] at h
      | _ => cases h
    · unfold compI at h
      split at h
      · rename_i x pp a cpos
        split at h
        · rename_i hx
          subst hx
          split at h
          · rename_i hc
            simp only [Bool.and_eq_true, List.contains_iff_mem] at hc
            obtain ⟨q, e1, rfl⟩ := Option.map_eq_some_iff.mp h
            exact r_rng1 (gl_of hc.1.1 ok.sc) (by rw [ok.mg]; exact tb.blts _ hc.1.2) hc.2 (IE _ _ _ _ e1 ok).1
          · cases h
        · exact seqI_ok IE ok h tg
      · rename_i x pp a b cpos
        split at h
        · rename_i hx
          subst hx
          split at h
          · rename_i hc
            simp only [Bool.and_eq_true, List.contains_iff_mem] at hc
            split at h
            · rename_i p1 q1 h1 h2
              cases h
              exact r_rng2 (gl_of hc.1.1.1 ok.sc) (by rw [ok.mg]; exact tb.blts _ hc.1.1.2) hc.1.2 hc.2 (IE _ _ _ _ h1 ok).1 (IE _ _ _ _ h2 ok).1
            · cases h
          · cases h
        · exact seqI_ok IE ok h tg
      · rename_i x pos
        split at h
        · rename_i hc
          simp only [Bool.and_eq_true] at hc
          obtain ⟨i, e1, rfl⟩ := Option.map_eq_some_iff.mp h
          obtain ⟨d1, d2, d3⟩ := db_of hc.1
          have hpv : PE X (.Name x pos) (tVar i) := pe_var (by rw [ok.hN]; exact idx_ok e1) (vis_of hc.2 ok.sc) d1 d2
          cases k with
          | true => exact r_seq ok.K (by decide) (fun z => by cases z) (r_sv hpv)
          | false => exact r_seq ok.K (by decide) (fun _ => by decide) (r_v hpv)
        · exact seqI_ok IE ok h tg
      · exact seqI_ok IE ok h tg
end
end Z

namespace Z
open PySem PySem.Spec PyProof.Rows L2
def isComp : Expr → Bool
  | .ListComp .. => true
  | .SetComp .. => true
  | .DictComp .. => true
  | _ => false
def isSeqDisp : Expr → Bool
  | .Tuple .. => true
  | _ => false
def isTupTg : Expr → Bool
  | .Tuple .. => true
  | .List .. => true
  | _ => false
def swB (sc : Scope) (y : Str) (py pos : Pos) (scope : Scope) : Bool :=
  (sc.names.lookup y == some NameKind.local) && py.line == pos.line && !(scope.names.any fun (n, k) => n == y && (k == .local || k == .cell))
def isLocal (sc : Scope) (x : Str) : Bool := match sc.names.lookup x with
  | some .local => true
  | _ => false
def isF : Kd → Bool
  | .f => true
  | _ => false
section
variable (c : CT)
def compAsg (n : Nat) (sc : Scope) (tg e : Expr) : Option Stm :=
  match tg with
  | .Name x px => if locB sc x && dbB x then match idx c.N x, compE c n sc false e with
    | some i, some p => match e with
      | .ListComp .. => some (.own i p)
      | .SetComp .. => none
      | .DictComp .. => none
      | _ => if isF (kd p) then some (.own i p) else some (.asg (.nm i) p)
    | _, _ => none else none
  | .Tuple ts _ _ => if isComp e then none else match ts, e with
    | [.Name x px, .Name y py], .Tuple [a, b] _ _ => if isLocal sc x && isLocal sc y && decide (x ≠ y) && py.line == px.line && !([a, b].all (foldedForSure 8)) && !([a, b].all (constantsAlone 8)) then match idx c.N x, idx c.N y, compE c n sc false a, compE c n sc false b with
      | some i, some j, some p, some q => if notStar a && notStar b then some (.par i j p q) else none
      | _, _, _, _ => none else none
    | _, .Tuple .. => none
    | _, _ => match compTg c.N sc (fun _ => true) n tg, compE c n sc false e with
      | some t, some p => some (.asg t p)
      | _, _ => none
  | .Subscript (.Name x _) k _ => if isComp e then none else if visB sc x && dbB x then match idx c.N x, compE c n sc true k, compE c n sc false e with
    | some i, some q, some p => if notSlice k then some (.seti i q p) else none
    | _, _, _ => none else none
  | _ => none
mutual
def compS : Nat → Scope → Stmt → Option Stm
  | 0, _, _ => none
  | n + 1, sc, st => match st with
    | .Assign [tg] e _ => compAsg c n sc tg e
    | .AugAssign (.Name x _) op e _ => if locB sc x && dbB x then match idx c.N x, boOf op, compE c n sc true e with
      | some i, some o, some p => if augO o then some (.aug i o p) else none
      | _, _, _ => none else none
    | .Expr e _ => match e with
      | .Call (.Attribute (.Name x _) m ap) [a] [] cp => if m = "append" then (if visB sc x && dbB x && notStar a && ap.endLine == cp.line then match idx c.N x, compE c n sc false a with
        | some i, some p => some (.app i p)
        | _, _ => none else none) else none
      | _ => if isComp e then none else (compE c n sc true e).map .exp
    | .Return none _ => some .retN
    | .Return (some e) _ => match compE c n sc false e with
      | some p => if c.fr then (if isF (kd p) then some (.retM p) else none) else some (.ret p)
      | none => none
    | .If t a b _ => match compE c n sc true t, compSs n sc a, compSs n sc b with
      | some p, some q, some r => some (.ife p q r)
      | _, _, _ => none
    | .While t b [] _ => match compE c n sc true t, compSs n sc b with
      | some p, some q => some (.whl p q)
      | _, _ => none
    | .For tg it b [] _ => if notSet it then match compTg c.N sc (fun _ => true) n tg, compI c n true sc it, compSs n sc b with
      | some t, some i, some q => some (.for t i q)
      | _, _, _ => none else none
    | .Pass _ => some .pas
    | .Break _ => some .brk
    | .Continue _ => some .cnt
    | _ => none
def compSs : Nat → Scope → List Stmt → Option (List Stm)
  | 0, _, _ => none
  | n + 1, sc, [] => some []
  | n + 1, sc, a :: b => match compS n sc a, compSs n sc b with
    | some p, some q => some (p :: q)
    | _, _ => none
end
end
section
variable {F : List Fn} {T : Tb} {c : CT} {sc : Scope} {ow : Str → Bool} {W : WX} {X : Cx} {p q : Ex} {n : Nat}
structure OkS (T : Tb) (N : List Str) (sc : Scope) (W : WX) (X : Cx) : Prop where
  ok : Ok T N sc (fun _ => true) W X
  po : PassesOwn (model X.prog X.w) X.A X.env X.xe
  kind : sc.kind = .function
theorem sw_no {e : Expr} (h : isComp e = false) (t : Option Expr) (l : Nat) (env : PySem.Env) : swapsWith e t l env = pure false := by
  cases e <;> first | rfl | cases h
theorem sws_no {e tg : Expr} (h : isComp e = false) (l : Nat) (env : PySem.Env) : swapsWithSole [tg] e l env = pure false := sw_no h _ _ _
theorem ss_no1 {e tg : Expr} (h : isTupTg tg = false) (env : PySem.Env) : swappedStores [tg] e env = pure none := by
  cases tg <;> first | rfl | cases h
theorem ss_no2 {e tg : Expr} (h : isSeqDisp e = false) (env : PySem.Env) : swappedStores [tg] e env = pure none := by
  cases tg <;> first | rfl | (cases e <;> first | rfl | cases h)
theorem swB_ok {el : Expr} {gs : List Comprehension} {scope : Scope} {pos py : Pos} {y : Str} {l : Nat} {env : PySem.Env} (hk : env.scope.kind = .function) : swapsWith (.ListComp el gs scope pos) (some (.Name y py)) l env = pure (swB env.scope y py pos scope) := by
  have hb : env.blockKind = .function := by unfold Env.blockKind; rw [hk]; rfl
  unfold swapsWith
  simp only [hb, Expr.pos, Env.kindOf, swB]
  rfl
theorem sf_none {sc : Scope} {x : Str} (h : isLocal sc x = true) : sc.names.lookup x = some .local := by
  unfold isLocal at h
  split at h
  · assumption
  · cases h
theorem ss_par {x y : Str} {px py pt pt2 : Pos} {kt k2 : Nat} {a b : Expr} {env : PySem.Env} (hk : env.scope.kind = .function) (hx : env.scope.names.lookup x = some .local) (hy : env.scope.names.lookup y = some .local) (hne : x ≠ y) (hsa : notStar a = true) (hsb : notStar b = true)
    (hln : (py.line == px.line) = true) (hf : ([a, b].all (foldedForSure 8)) = false) (hc : ([a, b].all (constantsAlone 8)) = false) :
    swappedStores [.Tuple [.Name x px, .Name y py] kt pt] (.Tuple [a, b] k2 pt2) env = pure (some [x, y]) := by
  have hb : env.blockKind = .function := by unfold Env.blockKind; rw [hk]; rfl
  have kx : env.kindOf x = some .local := hx
  have ky : env.kindOf y = some .local := hy
  have hne' : (x == y) = false := by simpa using hne
  have hne2 : (y == x) = false := by simpa using (Ne.symm hne)
  have hd : ([x, y] : List Str).eraseDups = [x, y] := by
    simp [List.eraseDups_cons, hne, Ne.symm hne, hne', hne2]
  unfold swappedStores
  simp only [hb, List.length_cons, List.length_nil, List.head?_cons, Option.map_some, Option.getD_some, Expr.pos, List.filterMap_cons, List.filterMap_nil, kx, ky, hln, hf, hc, beq_self_eq_true, Bool.and_self, Bool.true_and, if_true, hd]
  refine Eq.trans (if_neg (by decide)) ?_
  refine Eq.trans (if_neg ?_) ?_
  · simp only [List.any_cons, List.any_nil, Bool.or_false]
    cases a <;> first | (cases hsa; done) | (cases b <;> first | (intro z; cases z; done) | (cases hsb; done))
  · rfl
theorem gens_of {n : Nat} {b : Bool} {el : Expr} {gens : List Comprehension} {scope : Scope} {pos : Pos} (h : compE c (n + 1) sc b (.ListComp el gens scope pos) = some p) :
    (∃ tg it ifs, gens = [⟨tg, it, ifs, 0⟩]) ∨ ∃ tg it tg1 it1, gens = [⟨tg, it, [], 0⟩, ⟨tg1, it1, [], 0⟩] := by
  match gens, h with
  | [⟨tg, it, ifs, ia⟩], h =>
    by_cases e0 : ia = 0
    · subst e0
      exact .inl ⟨_, _, _, rfl⟩
    · exfalso
      revert h
      simp [compE, e0]
  | [⟨tg, it, ifs, ia⟩, ⟨tg1, it1, ifs1, ia1⟩], h =>
    by_cases e0 : ia = 0 ∧ ia1 = 0 ∧ ifs = [] ∧ ifs1 = []
    · obtain ⟨rfl, rfl, rfl, rfl⟩ := e0
      exact .inr ⟨_, _, _, _, rfl⟩
    · exfalso
      revert h
      unfold compE
      split <;> simp_all
  | [], h => cases h
  | _ :: _ :: _ :: _, h => simp [compE] at h
theorem PSasg.imp {tg e : Expr} {pos : Pos} {te te' : TE} {g : TG} (h : PS X (.Assign [tg] e pos) (tAsg te g)) (i : ∀ σ H Q, te' σ H Q → te σ H Q) : PS X (.Assign [tg] e pos) (tAsg te' g) := PS.imp h fun D σ H z => i σ H _ z
theorem kd_lc {n : Nat} {b : Bool} {el : Expr} {gens : List Comprehension} {scope : Scope} {pos : Pos} (tb : Tabs T F c) (ok : Ok T c.N sc ow W X) (h : compE c (n + 1) sc b (.ListComp el gens scope pos) = some p) : kd p = .f := by
  obtain ⟨IE, II⟩ := both_ok tb n
  rcases gens_of h with ⟨tg, it, ifs, rfl⟩ | ⟨tg, it, tg1, it1, rfl⟩
  · obtain ⟨i, t, co, p1, rfl, _⟩ := lc_parts IE II ok h
    rfl
  · obtain ⟨i, t, i1, t1, p1, rfl, _⟩ := lc2_parts IE II ok h
    rfl
theorem asg_ok (tb : Tabs T F c) (ok : OkS T c.N sc W X) {n : Nat} {tg e : Expr} {pos : Pos} {st : Stm} (h : compAsg c n sc tg e = some st) : PS X (.Assign [tg] e pos) (tS F T.g W st) := by
  have o := ok.ok
  have hkx : X.env.scope.kind = .function := by rw [o.sc]; exact ok.kind
  have IE := (both_ok tb n).1
  unfold compAsg at h
  split at h
  · rename_i x px
    split at h
    · rename_i hl
      simp only [Bool.and_eq_true] at hl
      split at h
      · rename_i i p h1 h2
        have hi : X.N[i]? = some x := by rw [o.hN]; exact idx_ok h1
        have hx := loc_of hl.1 o.sc
        have hf : X.fn x = true ∨ X.env.scope.names.lookup x = some .local := o.fn x rfl
        have hp := IE _ _ _ _ h2 o
        have plain : ∀ {e : Expr}, swapsWith e (some (.Name x px)) pos.line X.env = pure false → POk F T W X false e p → (if isF (kd p) then some (Stm.own i p) else some (.asg (.nm i) p)) = some st → PS X (.Assign [.Name x px] e pos) (tS F T.g W st) := fun {e} hs hp h => by
          split at h
          · rename_i hk
            cases h
            have hk' : kd p = .f := by
              cases q : kd p <;> rw [q] at hk <;> first | rfl | cases hk
            have h0 := hp.1
            rw [hk'] at h0
            exact s_own (ps_set o.nd hi hx h0 hs hf)
          · cases h
            exact s_asg (t := .nm i) (ps_set o.nd hi hx (pok_k hp) hs hf)
        split at h
        · -- a comprehension
          rename_i e0 el gens scope lpos
          cases h
          cases n with
          | zero => cases h2
          | succ m =>
            have hk := kd_lc tb o h2
            by_cases hsw : swB X.env.scope x px lpos scope = true
            · have hs : swapsWith (.ListComp el gens scope lpos) (some (.Name x px)) pos.line X.env = pure true := by rw [swB_ok hkx, hsw]
              have hloc : X.env.scope.names.lookup x = some .local := by
                unfold swB at hsw
                simp only [Bool.and_eq_true] at hsw
                simpa using hsw.1.1
              obtain ⟨IE', II'⟩ := both_ok tb m
              refine s_own ?_
              rcases gens_of h2 with ⟨tg, it, ifs, rfl⟩ | ⟨tg, it, tg1, it1, rfl⟩
              · obtain ⟨i', t, co, p1, rfl, a1, a2, a3, a4, a5, a6, a7⟩ := lc_parts IE' II' o h2
                exact PSasg.imp (ps_setLc o.calm o.nd hi hloc hs a1 a2 a3 a4 a5 a6) fun σ H Q ⟨w0, w, ρ, s, e, G0, h⟩ => by
                  subst e
                  exact lc_read a7 G0 h
              · obtain ⟨i', t, i1, t1, p1, rfl, a1, a2, a3, a4, a5, a6, a7, a8, a9, a10⟩ := lc2_parts IE' II' o h2
                exact PSasg.imp (ps_setLc2 (vs1 := slots t1) o.calm o.nd hi hloc hs a1 a2 a10 a3 (fun _ _ _ _ _ => pts_nil) a4 a5 (fun _ _ _ _ _ => pts_nil) a6 a7 a8) fun σ H Q ⟨w0, w, ρ, s, e, G0, h⟩ => by
                  subst e
                  exact lc2_read a9 (fun j hj => hj) G0 h
            · have hs : swapsWith (.ListComp el gens scope lpos) (some (.Name x px)) pos.line X.env = pure false := by
                rw [swB_ok hkx]
                simp only [Bool.not_eq_true] at hsw
                rw [hsw]
              have h0 := hp.1
              rw [hk] at h0
              exact s_own (ps_set o.nd hi hx h0 hs hf)
        · cases h
        · cases h
        · rename_i n1 n2 n3
          refine plain (sw_no ?_ _ _ _) hp h
          cases e with
          | ListComp a b c d => exact absurd rfl (n1 a b c d)
          | SetComp a b c d => exact absurd rfl (n2 a b c d)
          | DictComp a b c d f => exact absurd rfl (n3 a b c d f)
          | _ => rfl
      · cases h
    · cases h
  · rename_i ts k tp
    split at h
    · cases h
    · rename_i hcomp
      simp only [Bool.not_eq_true] at hcomp
      split at h
      · rename_i x px y py a b k2 p2
        split at h
        · rename_i hc
          simp only [Bool.and_eq_true, Bool.not_eq_true', decide_eq_true_eq] at hc
          obtain ⟨⟨⟨⟨⟨c1, c2⟩, c3⟩, c4⟩, c5⟩, c6⟩ := hc
          split at h
          · rename_i i j p q h1 h2 h3 h4
            split at h
            · rename_i hst
              simp only [Bool.and_eq_true] at hst
              cases h
              have lx : X.env.scope.names.lookup x = some .local := by rw [o.sc]; exact sf_none c1
              have ly : X.env.scope.names.lookup y = some .local := by rw [o.sc]; exact sf_none c2
              have hij : i ≠ j := fun z => c3 (by
                have e1 := idx_ok h1
                have e2 := idx_ok h2
                rw [z, e2] at e1
                exact (Option.some.inj e1).symm)
              have ha : PA X [a, b] (tA F T.g W [false, false] [p, q]) := r_consK hst.1 (pok_k (IE _ _ _ _ h3 o)) (r_consK hst.2 (pok_k (IE _ _ _ _ h4 o)) r_nil)
              exact s_par (ps_par o.calm o.nd (by rw [o.hN]; exact idx_ok h1) (by rw [o.hN]; exact idx_ok h2) hij lx ly ha (ss_par hkx lx ly c3 hst.1 hst.2 c4 c5 c6) rfl)
            · cases h
          · cases h
        · cases h
      · cases h
      · rename_i n2
        split at h
        · rename_i t p h1 h2
          cases h
          refine s_asg (ps_asg (pok_k (IE _ _ _ _ h2 o)) (tg_ok o n h1) (sws_no hcomp _ _) (ss_no2 ?_ _) rfl)
          cases e with
          | Tuple a b c => simp_all
          | _ => rfl
        · cases h
  · rename_i x xp k sp
    split at h
    · cases h
    · rename_i hcomp
      simp only [Bool.not_eq_true] at hcomp
      split at h
      · rename_i hv
        simp only [Bool.and_eq_true] at hv
        split at h
        · rename_i i q p h1 h2 h3
          split at h
          · rename_i hns
            cases h
            obtain ⟨d1, d2, d3⟩ := db_of hv.2
            have hpv : PE X (.Name x xp) (tVar i) := pe_var (by rw [o.hN]; exact idx_ok h1) (vis_of hv.1 o.sc) d1 d2
            exact s_seti (ps_asg (pok_k (IE _ _ _ _ h3 o)) (pg_sub hpv (IE _ _ _ _ h2 o).1 set_list (by cases k <;> first | (intro v; rfl) | (cases hns; done))) (sws_no hcomp _ _) (ss_no1 rfl _) rfl)
          · cases h
        · cases h
      · cases h
  · cases h
theorem attr_base {x : Str} {m : Str} {px : Pos} {env : PySem.Env} (w : Sem Value) : attributeBase (.Name x px) m env w = w := rfl
mutual
theorem st_ok (tb : Tabs T F c) : ∀ (n : Nat) {sc : Scope} {W : WX} {X : Cx} {st : Stmt} {s : Stm}, OkS T c.N sc W X → compS c n sc st = some s → PS X st (tS F T.g W s)
  | 0, _, _, _, _, _, _, h => by cases h
  | n + 1, sc, W, X, st, s, ok, h => by
    have o := ok.ok
    obtain ⟨IE, II⟩ := both_ok tb n
    unfold compS at h
    split at h
    · exact asg_ok tb ok h
    · rename_i x px op e pos
      split at h
      · rename_i hl
        simp only [Bool.and_eq_true] at hl
        split at h
        · rename_i i o' p h1 h2 h3
          split at h
          · rename_i ho
            cases h
            have e1 := boOf_ok h2
            subst e1
            exact s_aug o' ho o.nd (by rw [o.hN]; exact idx_ok h1) (loc_of hl.1 o.sc) (o.fn x rfl) (IE _ _ _ _ h3 o).1
          · cases h
        · cases h
      · cases h
    · rename_i e pos
      split at h
      · rename_i x px m ap a cp
        split at h
        · rename_i hm
          subst hm
          split at h
          · rename_i hc
            simp only [Bool.and_eq_true] at hc
            obtain ⟨⟨⟨c1, c2⟩, c3⟩, c4⟩ := hc
            split at h
            · rename_i i p h1 h2
              cases h
              obtain ⟨d1, d2, d3⟩ := db_of c2
              have hpv : PE X (.Name x px) (tVar i) := pe_var (by rw [o.hN]; exact idx_ok h1) (vis_of c1 o.sc) d1 d2
              have ha : PA X [a] (tCons (tI F T.g W .k p) tNil) := pa_cons (pok_k (IE _ _ _ _ h2 o)) pa_nil (starEach_of c3 _ _)
              refine s_app rfl o.K (pe_bm PySem.F.plainAttrs_list PySem.F.slot_list_append PySem.F.type_list_append mt_append hpv ha rfl ?_ c4 (starEach_of c3 _ _) rfl)
              rw [starEach_of c3]
              rfl
            · cases h
          · cases h
        · cases h
      · split at h
        · cases h
        · rename_i hcomp
          simp only [Bool.not_eq_true] at hcomp
          obtain ⟨q, e1, rfl⟩ := Option.map_eq_some_iff.mp h
          exact s_exp (sw_no hcomp _ _ _) (IE _ _ _ _ e1 o).1
    · cases h; exact s_retN
    · split at h
      · rename_i q e1
        split at h
        · split at h
          · rename_i hq
            cases h
            refine s_retM ?_
            have z := (IE _ _ _ _ e1 o).1
            have hf : kd q = .f := by
              revert hq
              cases kd q <;> intro hq <;> first | rfl | cases hq
            rw [hf] at z
            exact z
          · cases h
        · cases h
          exact s_ret (pok_k (IE _ _ _ _ e1 o))
      · cases h
    · split at h
      · rename_i p q r h1 h2 h3
        cases h
        exact s_ife (IE _ _ _ _ h1 o).2.2 (sts_ok tb n ok h2) (sts_ok tb n ok h3)
      · cases h
    · split at h
      · rename_i p q h1 h2
        cases h
        exact s_whl ok.po (IE _ _ _ _ h1 o).2.2 (sts_ok tb n ok h2)
      · cases h
    · split at h
      · rename_i hns
        split at h
        · rename_i t i q h1 h2 h3
          cases h
          exact s_for (ps_for ok.po o.calm (II _ _ _ _ h2 o _) (tg_ok o n h1) (sts_ok tb n ok h3) (fsi_of hns _))
        · cases h
      · cases h
    · cases h; exact s_pas
    · cases h; exact s_brk
    · cases h; exact s_cnt
    · cases h
theorem sts_ok (tb : Tabs T F c) : ∀ (n : Nat) {sc : Scope} {W : WX} {X : Cx} {st : List Stmt} {s : List Stm}, OkS T c.N sc W X → compSs c n sc st = some s → PSs X st (tSs F T.g W s)
  | 0, _, _, _, _, _, _, h => by cases h
  | n + 1, sc, W, X, [], s, ok, h => by cases h; exact s_nil
  | n + 1, sc, W, X, a :: b, s, ok, h => by
    have h' : (match compS c n sc a, compSs c n sc b with
      | some p, some q => some (p :: q)
      | _, _ => none) = some s := h
    split at h'
    · rename_i p q h1 h2
      cases h'
      exact s_cons (st_ok tb n ok h1) (sts_ok tb n ok h2)
    · cases h'
end
/-! ### a def keeps the promise of its plain function -/
theorem start_good {g : G} {w : Ws} {s : List D} {vs : List V} {ds : List D} {ms : List Bool} (B : Base g w s) (h : Ps g w ms vs ds) (m : Nat) :
    Good g w w ((ds.zipIdx.map fun (a, i) => if ms[i]? = some true then Sl.br a else Sl.im a) ++ List.replicate (m - ds.length) .un) s (vs.map some ++ List.replicate (m - vs.length) none) := by
  have hl := h.length
  have ix : ∀ {i : Nat} {x : Sl}, ((ds.zipIdx.map fun (a, i) => if ms[i]? = some true then Sl.br a else Sl.im a) ++ List.replicate (m - ds.length) .un)[i]? = some x → x ≠ .un → ∃ d, ds[i]? = some d ∧ x = if ms[i]? = some true then Sl.br d else Sl.im d := fun {i x} e hx => by
    rw [List.getElem?_append] at e
    split at e
    · rw [List.getElem?_map, List.getElem?_zipIdx] at e
      obtain ⟨⟨d, j⟩, e1, e2⟩ := Option.map_eq_some_iff.mp e
      obtain ⟨d', e3, e4⟩ := Option.map_eq_some_iff.mp e1
      cases e4
      simp only [Nat.zero_add] at e2
      exact ⟨_, e3, e2.symm⟩
    · rw [List.getElem?_replicate] at e
      split at e
      · cases e; exact absurd rfl hx
      · cases e
  have vx : ∀ {i : Nat} {d : D}, ds[i]? = some d → ∃ v, (vs.map some ++ List.replicate (m - vs.length) none)[i]? = some (some v) ∧ (if ms[i]? = some true then Tr g w v d else Rw g w v d) := fun {i d} e => by
    have key : ∀ {ms : List Bool} {vs : List V} {ds : List D} {i : Nat} {d : D}, Ps g w ms vs ds → ds[i]? = some d → ∃ v, vs[i]? = some v ∧ (if ms[i]? = some true then Tr g w v d else Rw g w v d) := by
      intro ms vs ds i d h
      induction h generalizing i with
      | nil => intro e; simp at e
      | k r _ ih =>
        intro e
        cases i with
        | zero => simp at e; subst e; exact ⟨_, rfl, by simpa using r⟩
        | succ i =>
          obtain ⟨v, e1, e2⟩ := ih (i := i) (by simpa using e)
          exact ⟨v, by simpa using e1, by simpa using e2⟩
      | b r _ ih =>
        intro e
        cases i with
        | zero => simp at e; subst e; exact ⟨_, rfl, by simpa using r⟩
        | succ i =>
          obtain ⟨v, e1, e2⟩ := ih (i := i) (by simpa using e)
          exact ⟨v, by simpa using e1, by simpa using e2⟩
    obtain ⟨v, e1, e2⟩ := key h e
    refine ⟨v, ?_, e2⟩
    have hi := (List.getElem?_eq_some_iff.mp e1).1
    rw [List.getElem?_append_left (by rw [List.length_map]; exact hi), List.getElem?_map, e1]
    rfl
  refine ⟨B, Step.refl w, fun a o h _ => h, by simp [hl], fun i d e => ?_, fun i d e => ?_, fun i d e => ?_, fun i j d d' a e _ _ _ => ?_⟩
  · obtain ⟨d', e1, e2⟩ := ix e (by intro z; cases z)
    obtain ⟨v, e3, e4⟩ := vx e1
    split at e2
    · cases e2
    · cases e2
      rename_i hm
      rw [if_neg hm] at e4
      exact ⟨v, e3, e4⟩
  · obtain ⟨d', e1, e2⟩ := ix e (by intro z; cases z)
    split at e2 <;> cases e2
  · obtain ⟨d', e1, e2⟩ := ix e (by intro z; cases z)
    obtain ⟨v, e3, e4⟩ := vx e1
    split at e2
    · rename_i hm
      cases e2
      rw [if_pos hm] at e4
      exact ⟨v, e3, e4⟩
    · cases e2
  · obtain ⟨d', e1, e2⟩ := ix e (by intro z; cases z)
    split at e2 <;> cases e2
theorem fn_ok {qx qual : Str} {st : Stmt} {f : Addr} {fd : FuncData} {psn : List Str} {ms : List Bool} {body : List Stm} {n : Nat} (FN : L2.Fun T.g.K qx qual st f fd) (S : FnScope c.N psn (defScope st)) (tb : Tabs T F c) (hb : compSs c n (defScope st) (defBody st) = some body) :
    FnOk T.P T.w T.g.K T.mg T.base (L2.CX T.P T.w) (T.k + 1) f fd psn (spD T.g ms psn.length (run F body ms c.N.length)) := by
  refine FN.okX S (fun vs H Q E h => h.1) fun cdv A outer s H vs Q E hr h => ?_
  obtain ⟨hl, w, sd, ds, eH, B, hp, go⟩ := h
  refine ⟨tSs F T.g (fun cls d _ H => E cls d H) body, sts_ok tb n ⟨⟨rfl, rfl, rfl, rfl, rfl, rfl, rfl, S.nd, rfl, hr, takes_of rfl rfl rfl rfl, fun x _ => .inl rfl⟩, passes_of rfl, S.kind⟩ hb, ?_⟩
  have hdl : ds.length = vs.length := hp.length.symm
  have G0 := start_good B hp c.N.length
  rw [hdl] at G0
  refine ⟨w, w, _, sd, eH, G0, ?_⟩
  unfold GoC run at go
  rw [hdl] at go
  cases q : exs F body ((ds.zipIdx.map fun (a, i) => if ms[i]? = some true then Sl.br a else Sl.im a) ++ List.replicate (c.N.length - vs.length) .un) sd with
  | nx ρ s1 =>
    rw [q] at go
    exact fun w' σ G1 K => go .non w' G1.base G1.ext G1.new .non
  | rt d s1 =>
    rw [q] at go
    exact fun v w' B1 S1 F1 r => go v w' B1 S1 F1 r
  | exc c fs ρ s1 =>
    rw [q] at go
    exact fun C dx fv w' σ G1 hC hdx hfv => go C dx fv w' G1.base G1.ext G1.new hC hdx hfv
  | bk ρ s1 => rw [q] at go; exact go.elim
  | ct ρ s1 => rw [q] at go; exact go.elim
  | bad => rw [q] at go; exact go.elim
end
end Z

namespace Z
open PySem PySem.Spec PyProof.Rows L2
section
variable {F : List Fn} {T : Tb} {c : CT}
theorem body_ok {psn : List Str} {ms : List Bool} {scope : Scope} {bodyS : List Stmt} {body : List Stm} {n : Nat} {qual : Str} {f : Addr} (S : FnScope c.N psn scope) (tb : Tabs T F c) (hb : compSs c n scope bodyS = some body) (cdv : Value) (A : Around) (outer : List PySem.Env) (s : Shared) (H : Hp) (vs : List V) (Q : VK) (E : XK)
    (hr : Room T.k (A.deeper (envOfC qual scope s.heap.objs.size f cdv))) (h : spD T.g ms psn.length (run F body ms c.N.length) vs H Q E) :
    ∃ t, PSs (cxOf (L2.CX T.P T.w) T.P T.w T.g.K T.mg T.base c.N qual scope f cdv A outer s H E) bodyS t ∧ t { nx := fun _ H' => Q .non H', rt := Q } (start c.N vs) H := by
  obtain ⟨hl, w, sd, ds, eH, B, hp, go⟩ := h
  refine ⟨tSs F T.g (fun cls d _ H => E cls d H) body, sts_ok tb n ⟨⟨rfl, rfl, rfl, rfl, rfl, rfl, rfl, S.nd, rfl, hr, takes_of rfl rfl rfl rfl, fun x _ => .inl rfl⟩, passes_of rfl, S.kind⟩ hb, ?_⟩
  have hdl : ds.length = vs.length := hp.length.symm
  have G0 := start_good B hp c.N.length
  rw [hdl] at G0
  refine ⟨w, w, _, sd, eH, G0, ?_⟩
  unfold GoC run at go
  rw [hdl] at go
  cases q : exs F body ((ds.zipIdx.map fun (a, i) => if ms[i]? = some true then Sl.br a else Sl.im a) ++ List.replicate (c.N.length - vs.length) .un) sd with
  | nx ρ s1 =>
    rw [q] at go
    exact fun w' σ G1 K => go .non w' G1.base G1.ext G1.new .non
  | rt d s1 =>
    rw [q] at go
    exact fun v w' B1 S1 F1 r => go v w' B1 S1 F1 r
  | exc c fs ρ s1 =>
    rw [q] at go
    exact fun C dx fv w' σ G1 hC hdx hfv => go C dx fv w' G1.base G1.ext G1.new hC hdx hfv
  | bk ρ s1 => rw [q] at go; exact go.elim
  | ct ρ s1 => rw [q] at go; exact go.elim
  | bad => rw [q] at go; exact go.elim
/-- a def, its defaults dvs, keeps its plain function's promise -/
theorem fn_okD {qx qual : Str} {params : Arguments} {bodyS : List Stmt} {scope : Scope} {dvs : List V} {kws : List (Str × V)} {f : Addr} {fd : FuncData} {psn : List Str} {ms : List Bool} {body : List Stm} {n : Nat} (FN : FunD T.g.K qx qual params bodyS scope dvs kws f fd) (S : FnScope c.N psn scope) (tb : Tabs T F c)
    (hb : compSs c n scope bodyS = some body) : FnOk T.P T.w T.g.K T.mg T.base (L2.CX T.P T.w) (T.k + 1) f fd psn (spD T.g ms psn.length (run F body ms c.N.length)) :=
  FN.ok S (fun vs H Q E h => h.1) fun cdv A outer s H vs Q E hr h => body_ok S tb hb cdv A outer s H vs Q E hr h
theorem funD_mk {K : PySem.W.Frag} {x qual : Str} {params : Arguments} {body : List Stmt} {scope : Scope} {f : Addr} {oc : Value} {od an : Option Addr} {osl : Array (Option Value)} {kV doc pm cdv ct : Value} (l : K.lookup f = some ⟨oc, od, .func (PySem.W.fnOf x qual params body scope .none kV doc pm an cdv ct), osl⟩)
    (c : PySem.W.codeIn K cdv qual = true) (k : PySem.W.keepIn K (.ref f) = true) : FunD K x qual params body scope [] [] f (PySem.W.fnOf x qual params body scope .none kV doc pm an cdv ct) :=
  ⟨⟨oc, od, .none, kV, doc, pm, an, cdv, ct, osl, rfl, l, c, .inl ⟨rfl, rfl⟩, .inl rfl⟩, k⟩
theorem funD_mkD {K : PySem.W.Frag} {x qual : Str} {params : Arguments} {body : List Stmt} {scope : Scope} {f : Addr} {oc : Value} {od an : Option Addr} {osl : Array (Option Value)} {kV doc pm cdv ct : Value} {dT : Addr} {o : Obj} {its : List Value} {n : Nat} {dvs : List V} (l : K.lookup f = some ⟨oc, od, .func (PySem.W.fnOf x qual params body scope (.ref dT) kV doc pm an cdv ct), osl⟩)
    (c : PySem.W.codeIn K cdv qual = true) (k : PySem.W.keepIn K (.ref f) = true) (lT : K.lookup dT = some o) (oT : o.data = .seq its.toArray n) (r : Vals dvs its) (hd : dvs ≠ []) : FunD K x qual params body scope dvs [] f (PySem.W.fnOf x qual params body scope (.ref dT) kV doc pm an cdv ct) :=
  ⟨⟨oc, od, .ref dT, kV, doc, pm, an, cdv, ct, osl, rfl, l, c, .inr ⟨hd, dT, o, its, n, rfl, lT, oT, r⟩, .inl rfl⟩, k⟩
/-! ### the tables, one call after another -/
def Calls (T : Tb) (F : List Fn) (cs : List CE) : Prop := F.length = cs.length ∧ ∀ (i : Nat) ce, cs[i]? = some ce → ∃ fn, F[i]? = some fn ∧ CallGood T ce fn
theorem Calls.nil : Calls T [] [] := ⟨rfl, fun i ce h => by simp at h⟩
theorem CallGood.mono {ce : CE} {fn : Fn} (h : CallGood T ce fn) {k : Nat} (hk : T.k ≤ k) : CallGood { T with k := k } ce fn := by
  intro F N sc ow W X ok
  exact @h F N sc ow W X ⟨ok.P, ok.w, ok.K, ok.mg, ok.base, ok.calm, ok.hN, ok.nd, ok.sc, ok.room.mono hk, ok.tk, ok.fn⟩
theorem Calls.mono {cs : List CE} (h : Calls T F cs) {k : Nat} (hk : T.k ≤ k) : Calls { T with k := k } F cs := ⟨h.1, fun i ce e => by
  obtain ⟨fn, a, b⟩ := h.2 i ce e
  exact ⟨fn, a, b.mono hk⟩⟩
theorem Calls.snoc {cs : List CE} {ce : CE} {fn : Fn} (h : Calls T F cs) (g : CallGood T ce fn) : Calls T (F ++ [fn]) (cs ++ [ce]) := by
  obtain ⟨hl, h⟩ := h
  refine ⟨by simp [hl], fun i c0 e => ?_⟩
  rw [List.getElem?_append] at e
  split at e
  · rename_i hi
    obtain ⟨f0, a, b⟩ := h i c0 e
    exact ⟨f0, by rw [List.getElem?_append_left (by rw [hl]; exact hi)]; exact a, b⟩
  · rename_i hi
    have : i - cs.length = 0 := by
      have := (List.getElem?_eq_some_iff.mp e).1
      simp at this
      omega
    rw [this] at e
    cases e
    have hii : i = F.length := by omega
    subst hii
    exact ⟨fn, by simp, g⟩
/-! ### the law's end -/
/-- the law's promise from its plain function: True for each list of ints of at most n -/
theorem law_sp {K : PySem.W.Frag} {cl : List Addr} {fn : Fn} {n : Nat} (h : ∀ ns : List Int, ns.length ≤ n → ∃ s, fn [.scr ns] [] = .ok (.bl true) s) (H : Hp) (a : Addr) (ns : List Int) (hl : ns.length ≤ n) (hS : SqL K H a (ns.map V.int)) :
    spD ⟨K, cl⟩ [false] 1 fn [.ref a] H (fun v _ => v = .bl true) fun _ _ _ => False := by
  obtain ⟨s, e⟩ := h ns hl
  refine ⟨rfl, ⟨[], H, H⟩, [], [.scr ns], rfl, ⟨fun b o q => ⟨q, by simp⟩, rfl, fun k b q => by simp at q, List.nodup_nil⟩, .k (.scr hS) .nil, ?_⟩
  rw [e]
  intro v w' B S Fr r
  cases r
  rfl
end
end Z

namespace Dr
open PySem PySem.Spec PyProof.Rows L2 Z
def stL (cells : List Int) (p x y z : Int) : List D := [.lst (cells.map .int), .int p, .int x, .int y, .int z]
section
variable {cells : List Int} {p x y z i : Int} {s : List D} {k : Nat}
theorem a0 : atI (stL cells p x y z) 0 = some (.lst (cells.map .int)) := rfl
theorem a1 : atI (stL cells p x y z) 1 = some (.int p) := rfl
theorem a2 : atI (stL cells p x y z) 2 = some (.int x) := rfl
theorem a3 : atI (stL cells p x y z) 3 = some (.int y) := rfl
theorem a4 : atI (stL cells p x y z) 4 = some (.int z) := rfl
theorem n1 : ixN (stL cells p x y z).length 1 = some 1 := rfl
theorem n2 : ixN (stL cells p x y z).length 2 = some 2 := rfl
theorem n3 : ixN (stL cells p x y z).length 3 = some 3 := rfl
theorem n4 : ixN (stL cells p x y z).length 4 = some 4 := rfl
theorem s1 : (stL cells p x y z).set 1 (.int i) = stL cells i x y z := rfl
theorem s2 : (stL cells p x y z).set 2 (.int i) = stL cells p i y z := rfl
theorem s3 : (stL cells p x y z).set 3 (.int i) = stL cells p x i z := rfl
theorem s4 : (stL cells p x y z).set 4 (.int i) = stL cells p x y i := rfl
theorem ixM {xs : List D} (h : s[k]? = some (.lst xs)) (i : Int) : ixD s (.mref k) (.int i) = atI xs i := by simp [ixD, h]
theorem ixM2 {xs : List D} (h : k < s.length) (i : Int) : ixD (s.set k (.lst xs)) (.mref k) (.int i) = atI xs i := by simp [ixD, h]
theorem gS {a : D} (h : k < s.length) : (s.set k a)[k]? = some a := by simp [h]
end
def drawB : List Stm := [
  .ife (.cmp .lt (.bv 1) (.c (.int 2))) [
    .ret (.c (.int 0))] [],
  .ife (.an (.cmp .lt (.ix (.bv 0) (.c (.int 2))) (.c (.int 2))) (.cmp .lt (.ix (.bv 0) (.c (.int 1))) (.blt .len [(.ix (.bv 0) (.c (.int 0)))]))) [
    .asg (.nm 2) (.ix (.ix (.bv 0) (.c (.int 0))) (.ix (.bv 0) (.c (.int 1)))),
    .seti 0 (.c (.int 1)) (.bin .add (.ix (.bv 0) (.c (.int 1))) (.c (.int 1))),
    .ife (.cmp .ge (.bv 2) (.bin .pow (.c (.int 10)) (.c (.int 18)))) [
      .seti 0 (.c (.int 2)) (.bin .sub (.bv 2) (.bin .pow (.c (.int 10)) (.c (.int 18))))] [
      .seti 0 (.c (.int 3)) (.bin .mod (.blt .int [(.bin .add (.bin .add (.bin .mul (.ix (.bv 0) (.c (.int 3))) (.c (.int 69621))) (.bin .mod (.blt .int [(.bv 2)]) (.c (.int 2147483647)))) (.c (.int 17)))]) (.c (.int 2147483647)))]] [],
  .ife (.cmp .gt (.ix (.bv 0) (.c (.int 2))) (.c (.int 1))) [
    .asg (.nm 3) (.bin .mod (.blt .int [(.ix (.bv 0) (.c (.int 2)))]) (.bv 1)),
    .seti 0 (.c (.int 2)) (.bin .fdiv (.ix (.bv 0) (.c (.int 2))) (.bv 1)),
    .ret (.v 3)] [],
  .seti 0 (.c (.int 4)) (.bin .add (.ix (.bv 0) (.c (.int 4))) (.c (.int 1))),
  .seti 0 (.c (.int 3)) (.bin .mod (.blt .int [(.bin .add (.bin .add (.bin .mul (.ix (.bv 0) (.c (.int 3))) (.c (.int 48271))) (.bin .mul (.ix (.bv 0) (.c (.int 4))) (.c (.int 9973)))) (.c (.int 11)))]) (.c (.int 2147483647))),
  .ret (.bin .mod (.blt .int [(.bin .fdiv (.ix (.bv 0) (.c (.int 3))) (.c (.int 7)))]) (.bv 1))]
theorem log2_small {i : Int} (h : i.natAbs < 2 ^ 200) : i.natAbs.log2 < 200 := by
  by_cases h0 : i.natAbs = 0
  · rw [h0]; decide
  · exact (Nat.log2_lt h0).mpr h
theorem log2_sum {i j : Int} (h : i.natAbs < 2 ^ 200) (h' : j.natAbs < 2 ^ 200) : i.natAbs.log2 + j.natAbs.log2 < 1000000 := by
  have := log2_small h
  have := log2_small h'
  omega
/-- the last part: no cell is used up -/
theorem tail_ok {F : List Fn} {s : List D} {k : Nat} {cells : List Int} {p x y z m : Int} {q r : Sl} (hs : s[k]? = some (.lst (stL cells p x y z))) (hm : 2 ≤ m) (hm2 : m < 10 ^ 30) (hy0 : 0 ≤ y) (hy : y < 2147483647) (hz0 : 0 ≤ z) (hz : z ≤ 1000000) :
    ∃ r0 y', exs F (drawB.drop 3) [.im (.mref k), .im (.int m), q, r] s = .rt (.int r0) (s.set k (.lst (stL cells p x y' (z + 1)))) ∧ 0 ≤ y' ∧ y' < 2147483647 ∧ 0 ≤ r0 ∧ r0 < m := by
  have hk : k < s.length := (List.getElem?_eq_some_iff.mp hs).1
  have e1 := @log2_sum y 48271 (by omega) (by decide)
  have e2 := @log2_sum (z + 1) 9973 (by omega) (by decide)
  have e3 := @log2_small 7 (by decide)
  have e4 : (0 : Int) < 7 ∧ (7 : Int).natAbs.log2 < 9000 := ⟨by decide, by omega⟩
  have e5 : (0 : Int) < m := by omega
  refine ⟨(y * 48271 + (z + 1) * 9973 + 11) % 2147483647 / 7 % m, (y * 48271 + (z + 1) * 9973 + 11) % 2147483647, ?_, Int.emod_nonneg _ (by decide), Int.emod_lt_of_pos _ (by decide), Int.emod_nonneg _ (by omega), Int.emod_lt_of_pos _ e5⟩
  simp only [drawB, List.drop, exs, ex, ev, evs, truth, Out.fl, Out.bind, OutL.bind, Out.bindL, OutL.bindL, fin, Out.get, ixM hs, ixM2 hk, gS hk, hs, List.getElem?_cons_zero, List.getElem?_cons_succ, a0, a1, a2, a3, a4, n1, n2, n3, n4, s1, s2, s3, s4, binD, bltD, Fl.seq, List.set_set, e1, e2, e4, e5, if_true, and_self, show (0:Int) < 2147483647 from by decide]

theorem cell_ok {F : List Fn} {s : List D} {k : Nat} {cells : List Int} {p x y z m : Int} {r : Sl} (hs : s[k]? = some (.lst (stL cells p x y z))) (hp : 0 ≤ p) (hy0 : 0 ≤ y) (hy : y < 2147483647) :
    ∃ p' x' y' q', ex F drawB[1] [.im (.mref k), .im (.int m), .un, r] s = .nx [.im (.mref k), .im (.int m), q', r] (s.set k (.lst (stL cells p' x' y' z))) ∧ 0 ≤ p' ∧ 0 ≤ y' ∧ y' < 2147483647 := by
  have hk : k < s.length := (List.getElem?_eq_some_iff.mp hs).1
  have same : s = s.set k (.lst (stL cells p x y z)) := by
    rw [(List.getElem?_eq_some_iff.mp hs).2.symm]; simp
  have e4 : (0 : Int) ≤ 18 ∧ (18 : Int) ≤ 1000000 ∧ (10 : Int).natAbs < 2 ^ 64 := by decide
  have pw : (10 : Int) ^ (18 : Int).toNat = 1000000000000000000 := by decide
  have l0 : ((cells.map D.int).length : Int) = cells.length := by simp
  have e1 := @log2_sum y 69621 (by omega) (by decide)
  by_cases c1 : x < 2
  · by_cases c2 : p < cells.length
    · obtain ⟨j, rfl⟩ : ∃ j : Nat, p = j := ⟨p.toNat, by omega⟩
      have hj : j < cells.length := by omega
      have hc : atI (cells.map D.int) (j : Int) = some (.int cells[j]) := atI_nat (by simp [hj])
      by_cases c3 : 1000000000000000000 ≤ cells[j]
      · refine ⟨j + 1, cells[j] - 1000000000000000000, y, .im (.int cells[j]), ?_, by omega, hy0, hy⟩
        simp only [drawB, List.getElem_cons_zero, List.getElem_cons_succ, exs, ex, ev, evs, truth, Out.fl, Out.bind, OutL.bind, Out.bindL, OutL.bindL, fin, Out.get, ixM hs, ixM2 hk, gS hk, hs, List.getElem?_cons_zero, List.getElem?_cons_succ, a0, a1, a2, a3, a4, n1, n2, n3, n4, s1, s2, s3, s4, binD, bltD, Fl.seq, List.set_set, e1, e4, if_true, and_self, cmpD, Option.map_some, c1, c2, c3, decide_true, decide_false, l0, ixD, hc, bindT, List.length_cons, List.length_nil, List.set_cons_zero, List.set_cons_succ, pw, Nat.reduceAdd, Nat.reduceLT, show (2:Nat) < 4 from by decide, if_true, show (0:Int) < 2147483647 from by decide]
      · refine ⟨j + 1, x, (y * 69621 + cells[j] % 2147483647 + 17) % 2147483647, .im (.int cells[j]), ?_, by omega, Int.emod_nonneg _ (by decide), Int.emod_lt_of_pos _ (by decide)⟩
        simp only [drawB, List.getElem_cons_zero, List.getElem_cons_succ, exs, ex, ev, evs, truth, Out.fl, Out.bind, OutL.bind, Out.bindL, OutL.bindL, fin, Out.get, ixM hs, ixM2 hk, gS hk, hs, List.getElem?_cons_zero, List.getElem?_cons_succ, a0, a1, a2, a3, a4, n1, n2, n3, n4, s1, s2, s3, s4, binD, bltD, Fl.seq, List.set_set, e1, e4, if_true, and_self, cmpD, Option.map_some, c1, c2, c3, decide_true, decide_false, l0, ixD, hc, bindT, List.length_cons, List.length_nil, List.set_cons_zero, List.set_cons_succ, pw, Nat.reduceAdd, Nat.reduceLT, show (2:Nat) < 4 from by decide, if_true, show (0:Int) < 2147483647 from by decide]
    · refine ⟨p, x, y, .un, ?_, hp, hy0, hy⟩
      rw [← same]
      simp only [drawB, List.getElem_cons_zero, List.getElem_cons_succ, exs, ex, ev, evs, truth, Out.fl, Out.bind, OutL.bind, Out.bindL, OutL.bindL, fin, Out.get, ixM hs, hs, List.getElem?_cons_zero, List.getElem?_cons_succ, a0, a1, a2, a3, a4, bltD, Fl.seq, if_true, and_self, cmpD, Option.map_some, c1, c2, decide_true, decide_false, l0]
  · refine ⟨p, x, y, .un, ?_, hp, hy0, hy⟩
    rw [← same]
    simp only [drawB, List.getElem_cons_zero, List.getElem_cons_succ, exs, ex, ev, evs, truth, Out.fl, Out.bind, OutL.bind, Out.bindL, OutL.bindL, fin, Out.get, ixM hs, hs, List.getElem?_cons_zero, List.getElem?_cons_succ, a0, a1, a2, a3, a4, bltD, Fl.seq, if_true, and_self, cmpD, Option.map_some, c1, decide_true, decide_false, l0]

/-- the drawer's state behind at most n draws -/
structure WF (n : Int) (d : D) : Prop where
  ex : ∃ cells p x y z, d = .lst (stL cells p x y z) ∧ 0 ≤ p ∧ 0 ≤ y ∧ y < 2147483647 ∧ 0 ≤ z ∧ z ≤ n
theorem WF.mono {n n' : Int} {d : D} (h : WF n d) (e : n ≤ n') : WF n' d := by
  obtain ⟨cells, p, x, y, z, h1, h2, h3, h4, h5, h6⟩ := h.ex
  exact ⟨cells, p, x, y, z, h1, h2, h3, h4, h5, by omega⟩
theorem WF.new (cells : List Int) : WF 0 (.lst [.lst (cells.map .int), .int 0, .int 0, .int 1, .int 0]) := ⟨cells, 0, 0, 1, 0, rfl, by omega, by omega, by omega, by omega, by omega⟩
theorem seq_rt {F : List Fn} {a : Stm} {b : List Stm} {ρ : En} {s : List D} {d : D} {s' : List D} (h : ex F a ρ s = .rt d s') : exs F (a :: b) ρ s = .rt d s' := by
  show (ex F a ρ s).seq _ = _
  rw [h]; rfl
theorem seq_nx {F : List Fn} {a : Stm} {b : List Stm} {ρ ρ' : En} {s s' : List D} (h : ex F a ρ s = .nx ρ' s') : exs F (a :: b) ρ s = exs F b ρ' s' := by
  show (ex F a ρ s).seq _ = _
  rw [h]; rfl
/-- a draw: at least 0, less than m (or 0) -/
theorem draw_ok {F : List Fn} {s : List D} {k : Nat} {n m : Int} {d : D} (hs : s[k]? = some d) (h : WF n d) (hn : n ≤ 1000000) (hm2 : m < 10 ^ 30) :
    ∃ r d', run F drawB [false, false] 4 [.mref k, .int m] s = .ok (.int r) (s.set k d') ∧ WF (n + 1) d' ∧ 0 ≤ r ∧ (r < m ∨ r = 0) := by
  obtain ⟨cells, p, x, y, z, rfl, hp, hy0, hy, hz0, hz⟩ := h.ex
  have hk : k < s.length := (List.getElem?_eq_some_iff.mp hs).1
  have same : s = s.set k (.lst (stL cells p x y z)) := by
    rw [(List.getElem?_eq_some_iff.mp hs).2.symm]; simp
  have eD : drawB = drawB[0] :: drawB[1] :: drawB[2] :: drawB.drop 3 := rfl
  have e0 : run F drawB [false, false] 4 [.mref k, .int m] s = match exs F drawB [.im (.mref k), .im (.int m), .un, .un] s with
    | .nx _ s => .ok .non s
    | .rt d s => .ok d s
    | .exc c fs _ s => .exc c fs s
    | _ => .bad := rfl
  rw [e0]
  by_cases c0 : m < 2
  · refine ⟨0, _, ?_, (⟨cells, p, x, y, z, rfl, hp, hy0, hy, hz0, by omega⟩ : WF (n + 1) (.lst (stL cells p x y z))), by omega, .inr rfl⟩
    rw [← same]
    have e1 : ex F drawB[0] [.im (.mref k), .im (.int m), .un, .un] s = .rt (.int 0) s := by
      simp only [drawB, List.getElem_cons_zero, List.getElem_cons_succ, exs, ex, ev, evs, truth, Out.fl, Out.bind, fin, Out.get, List.getElem?_cons_zero, List.getElem?_cons_succ, Fl.seq, cmpD, Option.map_some, c0, decide_true]
    rw [eD, seq_rt e1]
  · have e1 : ex F drawB[0] [.im (.mref k), .im (.int m), .un, .un] s = .nx [.im (.mref k), .im (.int m), .un, .un] s := by
      simp only [drawB, List.getElem_cons_zero, List.getElem_cons_succ, exs, ex, ev, evs, truth, Out.fl, Out.bind, fin, Out.get, List.getElem?_cons_zero, List.getElem?_cons_succ, Fl.seq, cmpD, Option.map_some, c0, decide_false]
    obtain ⟨p', x', y', q', e2, hp', hy0', hy'⟩ := cell_ok (F := F) (m := m) (r := .un) hs hp hy0 hy
    rw [eD, seq_nx e1, seq_nx e2]
    have hs' : (s.set k (D.lst (stL cells p' x' y' z)))[k]? = some (.lst (stL cells p' x' y' z)) := gS hk
    have e5 : (0 : Int) < m := by omega
    by_cases c1 : 1 < x'
    · refine ⟨x' % m, .lst (stL cells p' (x' / m) y' z), ?_, ⟨cells, p', x' / m, y', z, rfl, hp', hy0', hy', hz0, by omega⟩, Int.emod_nonneg _ (by omega), .inl (Int.emod_lt_of_pos _ e5)⟩
      have l1 : m.natAbs.log2 < 9000 := by
        have := @log2_small m (by omega)
        omega
      have e6 : 0 < m ∧ m.natAbs.log2 < 9000 := ⟨e5, l1⟩
      have e3 : ex F drawB[2] [.im (.mref k), .im (.int m), q', .un] (s.set k (.lst (stL cells p' x' y' z))) = .rt (.int (x' % m)) (s.set k (.lst (stL cells p' (x' / m) y' z))) := by
        simp only [drawB, List.getElem_cons_zero, List.getElem_cons_succ, exs, ex, ev, evs, truth, Out.fl, Out.bind, OutL.bind, Out.bindL, OutL.bindL, fin, Out.get, ixM2 hk, gS hk, List.getElem?_cons_zero, List.getElem?_cons_succ, a0, a1, a2, a3, a4, n1, n2, n3, n4, s1, s2, s3, s4, binD, bltD, Fl.seq, List.set_set, e5, e6, if_true, and_self, cmpD, Option.map_some, c1, decide_true, bindT, List.length_cons, List.length_nil, List.set_cons_zero, List.set_cons_succ, Nat.reduceAdd, show (3:Nat) < 4 from by decide]
      rw [seq_rt e3]
    · have e3 : ex F drawB[2] [.im (.mref k), .im (.int m), q', .un] (s.set k (.lst (stL cells p' x' y' z))) = .nx [.im (.mref k), .im (.int m), q', .un] (s.set k (.lst (stL cells p' x' y' z))) := by
        simp only [drawB, List.getElem_cons_zero, List.getElem_cons_succ, exs, ex, ev, evs, truth, Out.fl, Out.bind, OutL.bind, Out.bindL, OutL.bindL, fin, Out.get, ixM2 hk, gS hk, List.getElem?_cons_zero, List.getElem?_cons_succ, a0, a1, a2, a3, a4, Fl.seq, cmpD, Option.map_some, c1, decide_false]
      rw [seq_nx e3]
      obtain ⟨r0, y2, e4, h1, h2, h3, h4⟩ := tail_ok (F := F) (q := q') (r := .un) hs' (by omega : 2 ≤ m) hm2 hy0' hy' hz0 (by omega)
      rw [e4, List.set_set]
      exact ⟨r0, _, rfl, ⟨cells, p', x', y2, z + 1, rfl, hp', h1, h2, by omega, by omega⟩, h3, .inl h4⟩
end Dr

namespace K02
open PySem PySem.Spec PyProof.Rows L2 Z
def topS (i : Nat) : Stmt := PySem.Challenge.pw_headsheard_k02_all_compositions_ascendin.main.body.getD i (.Pass ⟨0, 0, 0, 0⟩)
def blts : List Str := ["bool", "int", "isinstance", "len", "list", "range", "sum", "tuple"]
/-! is_integer -/
abbrev t0 : Stmt := topS 1
abbrev N0 : List Str := ["thing"]
abbrev P0 : List Str := ["thing"]
theorem sc0 : FnScope N0 P0 (defScope t0) := ⟨rfl, rfl, rfl, by decide +kernel, rfl, by decide +kernel, by decide +kernel⟩
def cs0 : List CE := []
def ct0 : CT := ⟨N0, cs0, [], blts, false⟩
def b0 : List Stm := [
  .ret (.an (.isi (.bv 0) [.int]) (.nt (.isi (.bv 0) [.bool])))]
theorem cb0 : compSs ct0 60 (defScope t0) (defBody t0) = some b0 := by rfl
def ce0 : CE := ⟨"is_integer", 1, [], [false]⟩
/-! is_whole -/
abbrev t1 : Stmt := topS 3
abbrev N1 : List Str := ["thing", "low", "high"]
abbrev P1 : List Str := ["thing", "low", "high"]
theorem sc1 : FnScope N1 P1 (defScope t1) := ⟨rfl, rfl, rfl, by decide +kernel, rfl, by decide +kernel, by decide +kernel⟩
def cs1 : List CE := [ce0]
def ct1 : CT := ⟨N1, cs1, [], blts, false⟩
def b1 : List Stm := [
  .ife (.nt (.call 0 [false] [(.v 0)])) [
    .ret (.c (.bl false))] [],
  .ret (.an (.orr (.cmp .isN (.bv 1) (.c .non)) (.cmp .le (.bv 1) (.bv 0))) (.orr (.cmp .isN (.bv 2) (.c .non)) (.cmp .le (.bv 0) (.bv 2))))]
theorem cb1 : compSs ct1 60 (defScope t1) (defBody t1) = some b1 := by rfl
def ce1 : CE := ⟨"is_whole", 3, [], [false, false, false]⟩
def ce2 : CE := ⟨"is_whole", 1, [], [false]⟩
def ce3 : CE := ⟨"is_whole", 1, ["high"], [false, false]⟩
/-! compositions -/
abbrev t2 : Stmt := topS 4
abbrev N2 : List Str := ["total", "places", "begun", "_", "row", "left", "first"]
abbrev P2 : List Str := ["total", "places"]
theorem sc2 : FnScope N2 P2 (defScope t2) := ⟨rfl, rfl, rfl, by decide +kernel, rfl, by decide +kernel, by decide +kernel⟩
def cs2 : List CE := [ce0, ce1, ce2, ce3]
def ct2 : CT := ⟨N2, cs2, [], blts, false⟩
def b2 : List Stm := [
  .ife (.orr (.cmp .eq (.bv 1) (.c (.int 0))) (.cmp .lt (.bv 0) (.c (.int 0)))) [
    .ret (.ife (.cmp .eq (.bv 0) (.c (.int 0))) (.tup [(.tup [])]) (.tup []))] [],
  .own 2 (.lst [(.tup [(.tup []), (.v 0)])]),
  .for (.nm 3) (.rng1 (.bin .sub (.bv 1) (.c (.int 1)))) [
    .own 2 (.lc2 [] [4, 5, 6] [6] (.tp [(.nm 4), (.nm 5)]) (.seq (.sv 2)) (.nm 6) (.rng1 (.bin .add (.bv 5) (.c (.int 1)))) (.tup [(.bin .add (.bv 4) (.tup [(.v 6)])), (.bin .sub (.bv 5) (.bv 6))]))],
  .ret (.blt .tuple [(.lc [] [4, 5] (.tp [(.nm 4), (.nm 5)]) (.seq (.sv 2)) none (.bin .add (.bv 4) (.tup [(.v 5)])))])]
theorem cb2 : compSs ct2 60 (defScope t2) (defBody t2) = some b2 := by rfl
def ce4 : CE := ⟨"compositions", 2, [], [false, false]⟩
/-! _law_open -/
abbrev t3 : Stmt := topS 6
abbrev N3 : List Str := ["_law_script"]
abbrev P3 : List Str := ["_law_script"]
theorem sc3 : FnScope N3 P3 (defScope t3) := ⟨rfl, rfl, rfl, by decide +kernel, rfl, by decide +kernel, by decide +kernel⟩
def cs3 : List CE := [ce0, ce1, ce2, ce3, ce4]
def ct3 : CT := ⟨N3, cs3, [], blts, true⟩
def b3 : List Stm := [
  .retM (.lst [(.blt .list [(.bv 0)]), (.c (.int 0)), (.c (.int 0)), (.c (.int 1)), (.c (.int 0))])]
theorem cb3 : compSs ct3 60 (defScope t3) (defBody t3) = some b3 := by rfl
def ce5 : CE := ⟨"_law_open", 1, [], [false]⟩
/-! _law_draw -/
abbrev t4 : Stmt := topS 7
abbrev N4 : List Str := ["_law_d", "_law_many", "_law_cell", "_law_found"]
abbrev P4 : List Str := ["_law_d", "_law_many"]
theorem sc4 : FnScope N4 P4 (defScope t4) := ⟨rfl, rfl, rfl, by decide +kernel, rfl, by decide +kernel, by decide +kernel⟩
def cs4 : List CE := [ce0, ce1, ce2, ce3, ce4, ce5]
def ct4 : CT := ⟨N4, cs4, [], blts, false⟩
def b4 : List Stm := [
  .ife (.cmp .lt (.bv 1) (.c (.int 2))) [
    .ret (.c (.int 0))] [],
  .ife (.an (.cmp .lt (.ix (.bv 0) (.c (.int 2))) (.c (.int 2))) (.cmp .lt (.ix (.bv 0) (.c (.int 1))) (.blt .len [(.ix (.bv 0) (.c (.int 0)))]))) [
    .asg (.nm 2) (.ix (.ix (.bv 0) (.c (.int 0))) (.ix (.bv 0) (.c (.int 1)))),
    .seti 0 (.c (.int 1)) (.bin .add (.ix (.bv 0) (.c (.int 1))) (.c (.int 1))),
    .ife (.cmp .ge (.bv 2) (.bin .pow (.c (.int 10)) (.c (.int 18)))) [
      .seti 0 (.c (.int 2)) (.bin .sub (.bv 2) (.bin .pow (.c (.int 10)) (.c (.int 18))))] [
      .seti 0 (.c (.int 3)) (.bin .mod (.blt .int [(.bin .add (.bin .add (.bin .mul (.ix (.bv 0) (.c (.int 3))) (.c (.int 69621))) (.bin .mod (.blt .int [(.bv 2)]) (.c (.int 2147483647)))) (.c (.int 17)))]) (.c (.int 2147483647)))]] [],
  .ife (.cmp .gt (.ix (.bv 0) (.c (.int 2))) (.c (.int 1))) [
    .asg (.nm 3) (.bin .mod (.blt .int [(.ix (.bv 0) (.c (.int 2)))]) (.bv 1)),
    .seti 0 (.c (.int 2)) (.bin .fdiv (.ix (.bv 0) (.c (.int 2))) (.bv 1)),
    .ret (.v 3)] [],
  .seti 0 (.c (.int 4)) (.bin .add (.ix (.bv 0) (.c (.int 4))) (.c (.int 1))),
  .seti 0 (.c (.int 3)) (.bin .mod (.blt .int [(.bin .add (.bin .add (.bin .mul (.ix (.bv 0) (.c (.int 3))) (.c (.int 48271))) (.bin .mul (.ix (.bv 0) (.c (.int 4))) (.c (.int 9973)))) (.c (.int 11)))]) (.c (.int 2147483647))),
  .ret (.bin .mod (.blt .int [(.bin .fdiv (.ix (.bv 0) (.c (.int 3))) (.c (.int 7)))]) (.bv 1))]
theorem cb4 : compSs ct4 60 (defScope t4) (defBody t4) = some b4 := by rfl
def ce6 : CE := ⟨"_law_draw", 2, [], [false, false]⟩
/-! _law_ways -/
abbrev t5 : Stmt := topS 8
abbrev N5 : List Str := ["_law_total", "_law_places", "_law_found", "_law_k"]
abbrev P5 : List Str := ["_law_total", "_law_places"]
theorem sc5 : FnScope N5 P5 (defScope t5) := ⟨rfl, rfl, rfl, by decide +kernel, rfl, by decide +kernel, by decide +kernel⟩
def cs5 : List CE := [ce0, ce1, ce2, ce3, ce4, ce5, ce6]
def ct5 : CT := ⟨N5, cs5, [], blts, false⟩
def b5 : List Stm := [
  .ife (.cmp .eq (.bv 1) (.c (.int 0))) [
    .ret (.blt .int [(.cmp .eq (.bv 0) (.c (.int 0)))])] [],
  .asg (.nm 2) (.c (.int 1)),
  .for (.nm 3) (.rng2 (.c (.int 1)) (.bv 1)) [
    .asg (.nm 2) (.bin .fdiv (.bin .mul (.bv 2) (.bin .add (.bv 0) (.bv 3))) (.bv 3))],
  .ret (.v 2)]
theorem cb5 : compSs ct5 60 (defScope t5) (defBody t5) = some b5 := by rfl
def ce7 : CE := ⟨"_law_ways", 2, [], [false, false]⟩
/-! _law_whole -/
abbrev t6 : Stmt := topS 9
abbrev N6 : List Str := ["_law_thing", "_law_least", "_law_greatest"]
abbrev P6 : List Str := ["_law_thing", "_law_least", "_law_greatest"]
theorem sc6 : FnScope N6 P6 (defScope t6) := ⟨rfl, rfl, rfl, by decide +kernel, rfl, by decide +kernel, by decide +kernel⟩
def cs6 : List CE := [ce0, ce1, ce2, ce3, ce4, ce5, ce6, ce7]
def ct6 : CT := ⟨N6, cs6, [], blts, false⟩
def b6 : List Stm := [
  .ife (.orr (.nt (.isi (.bv 0) [.int])) (.isi (.bv 0) [.bool])) [
    .ret (.c (.bl false))] [],
  .ret (.an (.orr (.cmp .isN (.bv 1) (.c .non)) (.cmp .le (.bv 1) (.bv 0))) (.orr (.cmp .isN (.bv 2) (.c .non)) (.cmp .le (.bv 0) (.bv 2))))]
theorem cb6 : compSs ct6 60 (defScope t6) (defBody t6) = some b6 := by rfl
def ce8 : CE := ⟨"_law_whole", 3, [], [false, false, false]⟩
/-! law -/
abbrev t7 : Stmt := topS 10
abbrev N7 : List Str := ["_law_script", "_law_d", "_law_places", "_law_total", "_law_rows", "_law_at", "_law_row", "_law_n", "_law_left", "_law_drawn", "_law_k", "_law_bottom", "_law_top", "_law_thing", "_law_told"]
abbrev P7 : List Str := ["_law_script"]
theorem sc7 : FnScope N7 P7 (defScope t7) := ⟨rfl, rfl, rfl, by decide +kernel, rfl, by decide +kernel, by decide +kernel⟩
def cs7 : List CE := [ce0, ce1, ce2, ce3, ce4, ce5, ce6, ce7, ce8]
def ct7 : CT := ⟨N7, cs7, [], blts, false⟩
def b7 : List Stm := [
  .asg (.nm 1) (.call 5 [false] [(.v 0)]),
  .asg (.nm 2) (.call 6 [false, false] [(.v 1), (.c (.int 6))]),
  .asg (.nm 3) (.call 6 [false, false] [(.v 1), (.ix (.lst [(.c (.int 13)), (.c (.int 13)), (.c (.int 13)), (.c (.int 13)), (.c (.int 10)), (.c (.int 8))]) (.bv 2))]),
  .asg (.nm 4) (.call 4 [false, false] [(.v 3), (.v 2)]),
  .ife (.orr (.nt (.isi (.bv 4) [.tuple])) (.cmp .ne (.blt .len [(.bv 4)]) (.call 7 [false, false] [(.v 3), (.v 2)]))) [
    .ret (.c (.bl false))] [],
  .for (.nm 5) (.rng1 (.blt .len [(.bv 4)])) [
    .asg (.nm 6) (.ix (.bv 4) (.bv 5)),
    .ife (.orr (.nt (.isi (.bv 6) [.tuple])) (.orr (.cmp .ne (.blt .len [(.bv 6)]) (.bv 2)) (.cmp .ne (.blt .sum [(.bv 6)]) (.bv 3)))) [
      .ret (.c (.bl false))] [],
    .ife (.orr (.cmp .ne (.lc [3] [7] (.nm 7) (.seq (.sv 6)) (some (.nt (.call 8 [false, false, false] [(.v 7), (.c (.int 0)), (.v 3)]))) (.v 7)) (.lst [])) (.an (.cmp .gt (.bv 5) (.c (.int 0))) (.nt (.cmp .lt (.ix (.bv 4) (.bin .sub (.bv 5) (.c (.int 1)))) (.bv 6))))) [
      .ret (.c (.bl false))] []],
  .asg (.nm 8) (.v 3),
  .own 9 (.lst []),
  .for (.nm 10) (.rng1 (.bin .sub (.bv 2) (.c (.int 1)))) [
    .app 9 (.call 6 [false, false] [(.v 1), (.bin .add (.bv 8) (.c (.int 1)))]),
    .asg (.nm 8) (.bin .sub (.bv 8) (.ix (.bv 9) (.bv 10)))],
  .ife (.an (.cmp .gt (.bv 2) (.c (.int 0))) (.cmp .nin (.blt .tuple [(.cat (.bv 9) (.lst [(.v 8)]))]) (.bv 4))) [
    .ret (.c (.bl false))] [],
  .asg (.nm 11) (.ix (.lst [(.c .non), (.neg (.c (.int 3))), (.c (.int 0)), (.c (.int 1)), (.bin .pow (.c (.int 10)) (.c (.int 18)))]) (.call 6 [false, false] [(.v 1), (.c (.int 5))])),
  .asg (.nm 12) (.ix (.lst [(.c .non), (.neg (.c (.int 3))), (.c (.int 0)), (.c (.int 1)), (.bin .pow (.c (.int 10)) (.c (.int 18)))]) (.call 6 [false, false] [(.v 1), (.c (.int 5))])),
  .asg (.nm 5) (.call 6 [false, false] [(.v 1), (.bin .pow (.c (.int 10)) (.c (.int 19)))]),
  .for (.nm 13) (.seq (.lst [(.c (.int 0)), (.c (.int 1)), (.neg (.c (.int 1))), (.neg (.c (.int 3))), (.v 5), (.neg (.bv 5)), (.bin .pow (.c (.int 10)) (.c (.int 18))), (.bin .add (.bin .pow (.c (.int 10)) (.c (.int 18))) (.c (.int 1))), (.c (.bl true)), (.c (.bl false)), (.c .non), (.c (.str ⟨#[49]⟩)), (.tup [(.c (.int 1))]), (.lst [(.c (.int 0))])])) [
    .asg (.nm 14) (.call 1 [false, false, false] [(.v 13), (.v 11), (.v 12)]),
    .ife (.orr (.nt (.isi (.bv 14) [.bool])) (.cmp .ne (.bv 14) (.call 8 [false, false, false] [(.v 13), (.v 11), (.v 12)]))) [
      .ret (.c (.bl false))] [],
    .ife (.orr (.cmp .ne (.call 2 [false] [(.v 13)]) (.call 8 [false, false, false] [(.v 13), (.c .non), (.c .non)])) (.cmp .ne (.call 3 [false, false] [(.v 13), (.v 12)]) (.call 8 [false, false, false] [(.v 13), (.c .non), (.v 12)]))) [
      .ret (.c (.bl false))] []],
  .ret (.c (.bl true))]
theorem cb7 : compSs ct7 60 (defScope t7) (defBody t7) = some b7 := by rfl
end K02

namespace K02
open PySem PySem.Spec PyProof.Rows L2 Z
def F0 : List Fn := []
def f0 : Fn := run F0 b0 [false] 1
def g0 : Fn := fun as s => f0 (as ++ []) s
def F1 : List Fn := [g0]
def f1 : Fn := run F1 b1 [false, false, false] 3
def g1 : Fn := fun as s => f1 (as ++ []) s
def g2 : Fn := fun as s => f1 (as ++ [.non, .non]) s
def h3 : List D → List D
  | [x0, y0] => [x0, .non, y0]
  | _ => []
def g3 : Fn := fun as s => f1 (h3 as) s
def F2 : List Fn := [g0, g1, g2, g3]
def f2 : Fn := run F2 b2 [false, false] 7
def g4 : Fn := fun as s => f2 (as ++ []) s
def F3 : List Fn := [g0, g1, g2, g3, g4]
def f3 : Fn := run F3 b3 [false] 1
def g5 : Fn := fun as s => f3 (as ++ []) s
def F4 : List Fn := [g0, g1, g2, g3, g4, g5]
def f4 : Fn := run F4 b4 [false, false] 4
def g6 : Fn := fun as s => f4 (as ++ []) s
def F5 : List Fn := [g0, g1, g2, g3, g4, g5, g6]
def f5 : Fn := run F5 b5 [false, false] 4
def g7 : Fn := fun as s => f5 (as ++ []) s
def F6 : List Fn := [g0, g1, g2, g3, g4, g5, g6, g7]
def f6 : Fn := run F6 b6 [false, false, false] 3
def g8 : Fn := fun as s => f6 (as ++ []) s
def F7 : List Fn := [g0, g1, g2, g3, g4, g5, g6, g7, g8]
def f7 : Fn := run F7 b7 [false] 15
def kg3 {α : Type} (us its ws : List α) : List α := ((us ++ ((its.drop 0).take 1)) ++ ((ws.drop 0).take 1))
theorem kr3 {vs ds zs : List V} {us its ws : List Value} (r1 : Vals vs us) (r2 : Vals ds its) (r3 : Vals zs ws) : Vals (kg3 vs ds zs) (kg3 us its ws) := ((r1.append ((r2.drop 0).take 1)).append ((r3.drop 0).take 1))
theorem kh3 (gg : Z.G) (w : Ws) (vs zs : List V) (ds : List D) (h1 : vs.length = 1) (h2 : zs.length = 1) (hp : Ps gg w [false, false] (vs ++ zs) ds) : (kg3 vs [.non, .non] zs).length = 3 ∧ Ps gg w [false, false, false] (kg3 vs [.non, .non] zs) (h3 ds) := by
  match vs, zs, h1, h2 with
  | [_], [_], _, _ =>
    cases hp with
    | k q0 p0 =>
    cases p0 with
    | k q1 p1 =>
    cases p1
    exact ⟨rfl, (.k q0 (.k (by constructor) (.k q1 .nil)))⟩
structure KG where
  g : {α : Type} → List α → List α → List α → List α
theorem all_mk {P : Program} {w : World} {K : PySem.W.Frag} {h : Heap} {mg : Str → Option Value} {fa : Addr} (X : K.In h) (G : h.Ns mainGlobals mg) (hfa : mg "law" = some (.ref fa))
    {fa0 : Addr} {oc0 kV0 dc0 pm0 cd0 ct_0 : Value} {od0 an0 : Option Addr} {sl0 : Array (Option Value)}
    (a0 : PySem.W.nsIn K mainGlobals "is_integer" = some (some (.ref fa0))) (k0 : PySem.W.keepIn K (.ref fa0) = true) (c0 : PySem.W.codeIn K cd0 "is_integer" = true)
    (l0 : K.lookup fa0 = some ⟨oc0, od0, .func (PySem.W.fnOf "is_integer" "is_integer" (defArgs t0) (defBody t0) (defScope t0) .none kV0 dc0 pm0 an0 cd0 ct_0), sl0⟩)
    {fa1 : Addr} {oc1 kV1 dc1 pm1 cd1 ct_1 : Value} {od1 an1 : Option Addr} {sl1 : Array (Option Value)}
    (a1 : PySem.W.nsIn K mainGlobals "is_whole" = some (some (.ref fa1))) (k1 : PySem.W.keepIn K (.ref fa1) = true) (c1 : PySem.W.codeIn K cd1 "is_whole" = true)
    {dT1 : Addr} {oc1d : Value} {od1d : Option Addr} {nn1 : Nat} {sl1d : Array (Option Value)}
    (l1 : K.lookup fa1 = some ⟨oc1, od1, .func (PySem.W.fnOf "is_whole" "is_whole" (defArgs t1) (defBody t1) (defScope t1) (.ref dT1) kV1 dc1 pm1 an1 cd1 ct_1), sl1⟩)
    (d1 : K.lookup dT1 = some ⟨oc1d, od1d, .seq #[.none, .none] nn1, sl1d⟩)
    {fa2 : Addr} {oc2 kV2 dc2 pm2 cd2 ct_2 : Value} {od2 an2 : Option Addr} {sl2 : Array (Option Value)}
    (a2 : PySem.W.nsIn K mainGlobals "compositions" = some (some (.ref fa2))) (k2 : PySem.W.keepIn K (.ref fa2) = true) (c2 : PySem.W.codeIn K cd2 "compositions" = true)
    (l2 : K.lookup fa2 = some ⟨oc2, od2, .func (PySem.W.fnOf "compositions" "compositions" (defArgs t2) (defBody t2) (defScope t2) .none kV2 dc2 pm2 an2 cd2 ct_2), sl2⟩)
    {fa3 : Addr} {oc3 kV3 dc3 pm3 cd3 ct_3 : Value} {od3 an3 : Option Addr} {sl3 : Array (Option Value)}
    (a3 : PySem.W.nsIn K mainGlobals "_law_open" = some (some (.ref fa3))) (k3 : PySem.W.keepIn K (.ref fa3) = true) (c3 : PySem.W.codeIn K cd3 "_law_open" = true)
    (l3 : K.lookup fa3 = some ⟨oc3, od3, .func (PySem.W.fnOf "_law_open" "_law_open" (defArgs t3) (defBody t3) (defScope t3) .none kV3 dc3 pm3 an3 cd3 ct_3), sl3⟩)
    {fa4 : Addr} {oc4 kV4 dc4 pm4 cd4 ct_4 : Value} {od4 an4 : Option Addr} {sl4 : Array (Option Value)}
    (a4 : PySem.W.nsIn K mainGlobals "_law_draw" = some (some (.ref fa4))) (k4 : PySem.W.keepIn K (.ref fa4) = true) (c4 : PySem.W.codeIn K cd4 "_law_draw" = true)
    (l4 : K.lookup fa4 = some ⟨oc4, od4, .func (PySem.W.fnOf "_law_draw" "_law_draw" (defArgs t4) (defBody t4) (defScope t4) .none kV4 dc4 pm4 an4 cd4 ct_4), sl4⟩)
    {fa5 : Addr} {oc5 kV5 dc5 pm5 cd5 ct_5 : Value} {od5 an5 : Option Addr} {sl5 : Array (Option Value)}
    (a5 : PySem.W.nsIn K mainGlobals "_law_ways" = some (some (.ref fa5))) (k5 : PySem.W.keepIn K (.ref fa5) = true) (c5 : PySem.W.codeIn K cd5 "_law_ways" = true)
    (l5 : K.lookup fa5 = some ⟨oc5, od5, .func (PySem.W.fnOf "_law_ways" "_law_ways" (defArgs t5) (defBody t5) (defScope t5) .none kV5 dc5 pm5 an5 cd5 ct_5), sl5⟩)
    {fa6 : Addr} {oc6 kV6 dc6 pm6 cd6 ct_6 : Value} {od6 an6 : Option Addr} {sl6 : Array (Option Value)}
    (a6 : PySem.W.nsIn K mainGlobals "_law_whole" = some (some (.ref fa6))) (k6 : PySem.W.keepIn K (.ref fa6) = true) (c6 : PySem.W.codeIn K cd6 "_law_whole" = true)
    (l6 : K.lookup fa6 = some ⟨oc6, od6, .func (PySem.W.fnOf "_law_whole" "_law_whole" (defArgs t6) (defBody t6) (defScope t6) .none kV6 dc6 pm6 an6 cd6 ct_6), sl6⟩)
    {fa7 : Addr} {oc7 kV7 dc7 pm7 cd7 ct_7 : Value} {od7 an7 : Option Addr} {sl7 : Array (Option Value)}
    (a7 : PySem.W.nsIn K mainGlobals "law" = some (some (.ref fa7))) (k7 : PySem.W.keepIn K (.ref fa7) = true) (c7 : PySem.W.codeIn K cd7 "law" = true)
    (l7 : K.lookup fa7 = some ⟨oc7, od7, .func (PySem.W.fnOf "law" "law" (defArgs t7) (defBody t7) (defScope t7) .none kV7 dc7 pm7 an7 cd7 ct_7), sl7⟩)
    (z_bool : PySem.W.nsIn K mainGlobals "bool" = some none)
    (z_int : PySem.W.nsIn K mainGlobals "int" = some none)
    (z_isinstance : PySem.W.nsIn K mainGlobals "isinstance" = some none)
    (z_len : PySem.W.nsIn K mainGlobals "len" = some none)
    (z_list : PySem.W.nsIn K mainGlobals "list" = some none)
    (z_range : PySem.W.nsIn K mainGlobals "range" = some none)
    (z_sum : PySem.W.nsIn K mainGlobals "sum" = some none)
    (z_tuple : PySem.W.nsIn K mainGlobals "tuple" = some none) :
    ∃ fd : FuncData, (∀ (s : Shared) (v : Value), BindsTo s fd ⟨[v], []⟩ [("_law_script", v)]) ∧ ∀ base : Heap, K.In base → base.Ns mainGlobals mg → FnOk P w K mg base (L2.CX P w) 8 fa fd ["_law_script"] (spD ⟨K, []⟩ [false] 1 f7) := by
  have e := hfa.symm.trans (PySem.W.mg_of X G a7)
  cases e
  refine ⟨PySem.W.fnOf "law" "law" (defArgs t7) (defBody t7) (defScope t7) .none kV7 dc7 pm7 an7 cd7 ct_7, fun s v => ?_, fun base _ _ => ?_⟩
  rotate_left
  let T (n : Nat) : Tb := ⟨P, w, ⟨K, []⟩, mg, base, n⟩
  have HB : ∀ x, x ∈ blts → mg x = none := fun x hx => by
    simp only [blts, List.mem_cons, List.not_mem_nil, or_false] at hx
    rcases hx with rfl | rfl | rfl | rfl | rfl | rfl | rfl | rfl
    · exact PySem.W.mg_none_of X G z_bool
    · exact PySem.W.mg_none_of X G z_int
    · exact PySem.W.mg_none_of X G z_isinstance
    · exact PySem.W.mg_none_of X G z_len
    · exact PySem.W.mg_none_of X G z_list
    · exact PySem.W.mg_none_of X G z_range
    · exact PySem.W.mg_none_of X G z_sum
    · exact PySem.W.mg_none_of X G z_tuple
  have C0 : Calls (T 0) F0 cs0 := Calls.nil
  have D0 := funD_mk l0 c0 k0
  have O0 := fn_okD (T := T 0) (c := ct0) (psn := P0) (ms := [false]) D0 sc0 ⟨C0.2, (fun x d h => by cases h), HB⟩ cb0
  have C0_0 : Calls (T 1) F0 cs0 := C0.mono (k := 1) (Nat.le_succ _)
  have B0 := D0.bindsN (ps := P0) fun _ _ _ _ _ _ us hl => match us, hl with | [_], _ => rfl
  have V0 : Vals [] [] := .nil
  have C0_1 := C0_0.snoc (callGood (T := T 1) (n := 1) (ms := [false]) (dds := []) (k := 1) (Nat.le_refl _) (PySem.W.mg_of X G a0) k0 B0 V0 (fun w => by repeat constructor) rfl rfl (by decide) O0)
  have C1 : Calls (T 1) F1 cs1 := C0_1
  have D1 := funD_mkD l1 c1 k1 d1 rfl (dvs := [.non, .non]) (by repeat constructor) (by simp)
  have O1 := fn_okD (T := T 1) (c := ct1) (psn := P1) (ms := [false, false, false]) D1 sc1 ⟨C1.2, (fun x d h => by cases h), HB⟩ cb1
  have C1_0 : Calls (T 2) F1 cs1 := C1.mono (k := 2) (Nat.le_succ _)
  obtain ⟨ds1, V1, B1⟩ := D1.binds1 (ps := P1) 3 2 (by simp) rfl (fun _ _ _ _ _ _ _ us its h1 h2 => match us, its, h1, h2 with | [_, _, _], [_, _], _, _ => ⟨_, rfl, rfl⟩)
  have C1_1 := C1_0.snoc (callGood (T := T 2) (n := 3) (ms := [false, false, false]) (dds := []) (k := 2) (Nat.le_refl _) (PySem.W.mg_of X G a1) k1 B1 V1 (fun w => by repeat constructor) rfl rfl (by decide) O1)
  obtain ⟨ds2, V2, B2⟩ := D1.binds1 (ps := P1) 1 0 (by simp) rfl (fun _ _ _ _ _ _ _ us its h1 h2 => match us, its, h1, h2 with | [_], [_, _], _, _ => ⟨_, rfl, rfl⟩)
  have C1_2 := C1_1.snoc (callGood (T := T 2) (n := 1) (ms := [false]) (dds := [.non, .non]) (k := 2) (Nat.le_refl _) (PySem.W.mg_of X G a1) k1 B2 V2 (fun w => by repeat constructor) rfl rfl (by decide) O1)
  obtain ⟨its3, KB3⟩ := D1.kbindsD (ps := P1) 1 ["high"] kg3 (by simp) kr3 (fun _ _ _ _ _ _ _ us its ws h1 h2 h3 => match us, its, ws, h1, h2, h3 with | [_], [_, _], [_], _, _, _ => ⟨_, rfl, rfl⟩)
  have C1_3 := C1_2.snoc (callGoodK (T := T 2) (ms := [false, false]) (ms' := [false, false, false]) (gD := h3) (k := 2) (Nat.le_refl _) (PySem.W.mg_of X G a1) k1 KB3 (by decide) (kh3 _) O1)
  have C2 : Calls (T 2) F2 cs2 := C1_3
  have D2 := funD_mk l2 c2 k2
  have O2 := fn_okD (T := T 2) (c := ct2) (psn := P2) (ms := [false, false]) D2 sc2 ⟨C2.2, (fun x d h => by cases h), HB⟩ cb2
  have C2_0 : Calls (T 3) F2 cs2 := C2.mono (k := 3) (Nat.le_succ _)
  have B4 := D2.bindsN (ps := P2) fun _ _ _ _ _ _ us hl => match us, hl with | [_, _], _ => rfl
  have V4 : Vals [] [] := .nil
  have C2_1 := C2_0.snoc (callGood (T := T 3) (n := 2) (ms := [false, false]) (dds := []) (k := 3) (Nat.le_refl _) (PySem.W.mg_of X G a2) k2 B4 V4 (fun w => by repeat constructor) rfl rfl (by decide) O2)
  have C3 : Calls (T 3) F3 cs3 := C2_1
  have D3 := funD_mk l3 c3 k3
  have O3 := fn_okD (T := T 3) (c := ct3) (psn := P3) (ms := [false]) D3 sc3 ⟨C3.2, (fun x d h => by cases h), HB⟩ cb3
  have C3_0 : Calls (T 4) F3 cs3 := C3.mono (k := 4) (Nat.le_succ _)
  have B5 := D3.bindsN (ps := P3) fun _ _ _ _ _ _ us hl => match us, hl with | [_], _ => rfl
  have V5 : Vals [] [] := .nil
  have C3_1 := C3_0.snoc (callGood (T := T 4) (n := 1) (ms := [false]) (dds := []) (k := 4) (Nat.le_refl _) (PySem.W.mg_of X G a3) k3 B5 V5 (fun w => by repeat constructor) rfl rfl (by decide) O3)
  have C4 : Calls (T 4) F4 cs4 := C3_1
  have D4 := funD_mk l4 c4 k4
  have O4 := fn_okD (T := T 4) (c := ct4) (psn := P4) (ms := [false, false]) D4 sc4 ⟨C4.2, (fun x d h => by cases h), HB⟩ cb4
  have C4_0 : Calls (T 5) F4 cs4 := C4.mono (k := 5) (Nat.le_succ _)
  have B6 := D4.bindsN (ps := P4) fun _ _ _ _ _ _ us hl => match us, hl with | [_, _], _ => rfl
  have V6 : Vals [] [] := .nil
  have C4_1 := C4_0.snoc (callGood (T := T 5) (n := 2) (ms := [false, false]) (dds := []) (k := 5) (Nat.le_refl _) (PySem.W.mg_of X G a4) k4 B6 V6 (fun w => by repeat constructor) rfl rfl (by decide) O4)
  have C5 : Calls (T 5) F5 cs5 := C4_1
  have D5 := funD_mk l5 c5 k5
  have O5 := fn_okD (T := T 5) (c := ct5) (psn := P5) (ms := [false, false]) D5 sc5 ⟨C5.2, (fun x d h => by cases h), HB⟩ cb5
  have C5_0 : Calls (T 6) F5 cs5 := C5.mono (k := 6) (Nat.le_succ _)
  have B7 := D5.bindsN (ps := P5) fun _ _ _ _ _ _ us hl => match us, hl with | [_, _], _ => rfl
  have V7 : Vals [] [] := .nil
  have C5_1 := C5_0.snoc (callGood (T := T 6) (n := 2) (ms := [false, false]) (dds := []) (k := 6) (Nat.le_refl _) (PySem.W.mg_of X G a5) k5 B7 V7 (fun w => by repeat constructor) rfl rfl (by decide) O5)
  have C6 : Calls (T 6) F6 cs6 := C5_1
  have D6 := funD_mk l6 c6 k6
  have O6 := fn_okD (T := T 6) (c := ct6) (psn := P6) (ms := [false, false, false]) D6 sc6 ⟨C6.2, (fun x d h => by cases h), HB⟩ cb6
  have C6_0 : Calls (T 7) F6 cs6 := C6.mono (k := 7) (Nat.le_succ _)
  have B8 := D6.bindsN (ps := P6) fun _ _ _ _ _ _ us hl => match us, hl with | [_, _, _], _ => rfl
  have V8 : Vals [] [] := .nil
  have C6_1 := C6_0.snoc (callGood (T := T 7) (n := 3) (ms := [false, false, false]) (dds := []) (k := 7) (Nat.le_refl _) (PySem.W.mg_of X G a6) k6 B8 V8 (fun w => by repeat constructor) rfl rfl (by decide) O6)
  have C7 : Calls (T 7) F7 cs7 := C6_1
  have D7 := funD_mk l7 c7 k7
  have O7 := fn_okD (T := T 7) (c := ct7) (psn := P7) (ms := [false]) D7 sc7 ⟨C7.2, (fun x d h => by cases h), HB⟩ cb7
  exact O7
  exact BindsTo.of_eq rfl
end K02

namespace K02
open PySem PySem.Spec PyProof.Rows L2 Z
/-! the mathematics -/
def stepR (b : List (List Int × Int)) : List (List Int × Int) := b.flatMap fun (r, l) => (List.range (l + 1).toNat).map fun (f : Nat) => (r ++ [(f : Int)], l - f)
def begun : Nat → Int → List (List Int × Int)
  | 0, t => [([], t)]
  | k + 1, t => stepR (begun k t)
def rows (t : Int) (p : Nat) : List (List Int) := if p = 0 then (if t = 0 then [[]] else []) else (begun (p - 1) t).map fun (r, l) => r ++ [l]
def rowD (r : List Int) : D := .tup (r.map .int)
def encD (x : List Int × Int) : D := .tup [rowD x.1, .int x.2]
theorem begun_next {k : Nat} {t : Int} {r : List Int} {l f : Int} (h : (r, l) ∈ begun k t) (h0 : 0 ≤ f) (h1 : f ≤ l) : (r ++ [f], l - f) ∈ begun (k + 1) t := by
  obtain ⟨j, rfl⟩ : ∃ j : Nat, f = j := ⟨f.toNat, by omega⟩
  show _ ∈ stepR (begun k t)
  unfold stepR
  rw [List.mem_flatMap]
  exact ⟨_, h, List.mem_map.mpr ⟨j, List.mem_range.mpr (by omega), rfl⟩⟩
def ascB : List (List Int) → Bool
  | a :: b :: r => HT.lexLt a b && ascB (b :: r)
  | _ => true
def waysN (t : Int) (p : Nat) : Int := if p = 0 then (if t = 0 then 1 else 0) else (List.range (p - 1)).foldl (fun (w : Int) (k : Nat) => w * (t + ((k : Int) + 1)) / ((k : Int) + 1)) 1
def chk (t : Int) (p : Nat) : Bool := ((rows t p).length : Int) == waysN t p && (rows t p).all (fun r => r.length == p && r.sum == t && r.all fun n => decide (0 ≤ n) && decide (n ≤ t)) && ascB (rows t p)
  && (List.range p).all (fun k => (begun k t).all fun x => decide (x.1.length < 1000) && decide (0 ≤ x.2) && decide (x.2 < 1000)) && (List.range p).all (fun k => decide ((begun k t).length ≤ 90000))
def capOf : Nat → Nat
  | 4 => 10 | 5 => 8 | _ => 13
theorem all_chk : (List.range 6).all (fun p => (List.range (capOf p)).all fun t => chk t p) = true := by decide +kernel
end K02

namespace K02
open PySem PySem.Spec PyProof.Rows L2 Z
theorem goL_map {α : Type} {f : D → List D → OutL} {enc : α → D} {g : α → List D} {s : List D} : ∀ {xs : List α}, (∀ x ∈ xs, ∃ ρ, f (enc x) s = .ok (g x) ρ s) → goL f (xs.map enc) s = .ok (xs.flatMap g) [] s
  | [], _ => rfl
  | x :: xs, h => by
    obtain ⟨ρ, e⟩ := h x (List.mem_cons_self ..)
    have ih := goL_map (xs := xs) fun y hy => h y (List.mem_cons_of_mem _ hy)
    simp only [List.map_cons, goL, e, ih, List.flatMap_cons]
theorem rangeD_map (lo : Int) (n : Nat) : rangeD lo n = (List.range n).map fun (k : Nat) => D.int (lo + k) := rfl
section
variable {F : List Fn} {s : List D} {a0 a1 a2 a3 a4 a5 a6 : Sl}
theorem cap_of {n : Nat} (h : n ≤ 100000) : cap n = true := decide_eq_true h
def inEl : Ex := .tup [(.bin .add (.bv 4) (.tup [(.v 6)])), (.bin .sub (.bv 5) (.bv 6))]
theorem el_ok {r : List Int} {l f : Int} (h : r.length < 1000) : ev F inEl false [a0, a1, a2, a3, .im (rowD r), .im (.int l), .im (.int f)] s = .ok (encD (r ++ [f], l - f)) [a0, a1, a2, a3, .im (rowD r), .im (.int l), .im (.int f)] s := by
  have hc : cap ((r.map D.int).length + 1) = true := cap_of (by simp; omega)
  simp only [inEl, ev, evs, fin, Out.bind, OutL.bind, Out.bindL, OutL.bindL, Out.get, List.getElem?_cons_zero, List.getElem?_cons_succ, binD, rowD, encD, List.length_cons, List.length_nil, hc, if_true, cap_of (show 0 + 1 ≤ 100000 by omega), cap_of (show 0 + 1 + 1 ≤ 100000 by omega), List.map_append, List.map_cons, List.map_nil, Nat.zero_add]
def lc2E : Ex := .lc2 [] [4, 5, 6] [6] (.tp [(.nm 4), (.nm 5)]) (.seq (.sv 2)) (.nm 6) (.rng1 (.bin .add (.bv 5) (.c (.int 1)))) inEl
theorem lc2_ok {b : List (List Int × Int)} (hb : ∀ x ∈ b, x.1.length < 1000 ∧ 0 ≤ x.2 ∧ x.2 < 1000) (hc : (stepR b).length ≤ 100000) :
    ev F lc2E false [a0, a1, .ow (.lst (b.map encD)), a3, a4, a5, a6] s = .ok (.lst ((stepR b).map encD)) [a0, a1, .im (.lst (b.map encD)), a3, a4, a5, a6] s := by
  have key : goL (fun x s => match bindT (.tp [(.nm 4), (.nm 5)]) x (blkE (frzAt [a0, a1, .im (.lst (b.map encD)), a3, a4, a5, a6] []) [4, 5, 6]) with
        | some ρ1 => match evI F (.rng1 (.bin .add (.bv 5) (.c (.int 1)))) ρ1 s with
          | .ok y ρ2 s => match itemsOf y with
            | some ys => goL (fun y s => match bindT (.nm 6) y (wipeE ρ2 [6]) with
              | some ρ3 => match ev F inEl false ρ3 s with
                | .ok d _ s => .ok [d] [] s
                | _ => .bad
              | none => .bad) ys s
            | none => .bad
          | _ => .bad
        | none => .bad) (b.map encD) s = .ok (b.flatMap fun x => (List.range (x.2 + 1).toNat).flatMap fun (f : Nat) => [encD (x.1 ++ [(f : Int)], x.2 - f)]) [] s := by
    refine goL_map fun x hx => ?_
    obtain ⟨h1, h2, h3⟩ := hb x hx
    have hr : x.2 + 1 ≤ 100000 ∧ -100000 ≤ x.2 + 1 := ⟨by omega, by omega⟩
    have e1 : bindT (.tp [(.nm 4), (.nm 5)]) (encD x) (blkE (frzAt [a0, a1, .im (.lst (b.map encD)), a3, a4, a5, a6] []) [4, 5, 6]) = some [unS a0, unS a1, .im (.lst (b.map encD)), unS a3, .im (rowD x.1), .im (.int x.2), .un] := rfl
    have e2 : evI F (.rng1 (.bin .add (.bv 5) (.c (.int 1)))) [unS a0, unS a1, .im (.lst (b.map encD)), unS a3, .im (rowD x.1), .im (.int x.2), .un] s = .ok (.lst (rangeD 0 (x.2 + 1).toNat)) [unS a0, unS a1, .im (.lst (b.map encD)), unS a3, .im (rowD x.1), .im (.int x.2), .un] s := by
      simp only [evI, ev, fin, Out.bind, Out.get, List.getElem?_cons_zero, List.getElem?_cons_succ, binD, hr, and_self, if_true]
    refine ⟨[], ?_⟩
    rw [e1]
    dsimp only
    rw [e2]
    dsimp only [itemsOf]
    rw [rangeD_map]
    refine goL_map (enc := fun (k : Nat) => D.int (0 + k)) fun f hf => ⟨[], ?_⟩
    have e3 : bindT (.nm 6) (D.int (0 + (f : Int))) (wipeE [unS a0, unS a1, .im (.lst (b.map encD)), unS a3, .im (rowD x.1), .im (.int x.2), .un] [6]) = some [unS a0, unS a1, .im (.lst (b.map encD)), unS a3, .im (rowD x.1), .im (.int x.2), .im (.int (0 + f))] := rfl
    rw [e3]
    dsimp only
    rw [el_ok h1]
    dsimp only
    rw [Int.zero_add]
  have e0 : ev F lc2E false [a0, a1, .ow (.lst (b.map encD)), a3, a4, a5, a6] s = match goL (fun x s => match bindT (.tp [(.nm 4), (.nm 5)]) x (blkE (frzAt [a0, a1, .im (.lst (b.map encD)), a3, a4, a5, a6] []) [4, 5, 6]) with
        | some ρ1 => match evI F (.rng1 (.bin .add (.bv 5) (.c (.int 1)))) ρ1 s with
          | .ok y ρ2 s => match itemsOf y with
            | some ys => goL (fun y s => match bindT (.nm 6) y (wipeE ρ2 [6]) with
              | some ρ3 => match ev F inEl false ρ3 s with
                | .ok d _ s => .ok [d] [] s
                | _ => .bad
              | none => .bad) ys s
            | none => .bad
          | _ => .bad
        | none => .bad) (b.map encD) s with
      | .ok ds _ s => if cap ds.length then .ok (.lst ds) [a0, a1, .im (.lst (b.map encD)), a3, a4, a5, a6] s else .bad
      | _ => .bad := rfl
  rw [e0, key]
  have e4 : (b.flatMap fun x => (List.range (x.2 + 1).toNat).flatMap fun (f : Nat) => [encD (x.1 ++ [(f : Int)], x.2 - f)]) = (stepR b).map encD := by
    unfold stepR
    rw [List.map_flatMap]
    congr 1
    funext x
    rw [List.map_map]
    exact (List.map_eq_flatMap (f := encD ∘ fun (f : Nat) => (x.1 ++ [(f : Int)], x.2 - (f : Int)))).symm
  dsimp only
  rw [e4, cap_of (by simpa using hc)]
  rfl
end
end K02

namespace K02
open PySem PySem.Spec PyProof.Rows L2 Z
theorem lpF_nx {f : D → En → List D → Fl} (P : Nat → En → List D → Prop) : ∀ (xs : List D) (i : Nat) (ρ : En) (s : List D), P i ρ s → (∀ (j : Nat) (hj : j < xs.length) ρ s, P (i + j) ρ s → ∃ ρ' s', f xs[j] ρ s = .nx ρ' s' ∧ P (i + j + 1) ρ' s') → ∃ ρ' s', lpF f xs ρ s = .nx ρ' s' ∧ P (i + xs.length) ρ' s'
  | [], i, ρ, s, h, _ => ⟨ρ, s, rfl, h⟩
  | x :: xs, i, ρ, s, h, hs => by
    obtain ⟨ρ1, s1, e, h1⟩ := hs 0 (by simp) ρ s h
    obtain ⟨ρ2, s2, e2, h2⟩ := lpF_nx P xs (i + 1) ρ1 s1 h1 fun j hj ρ s hp => by
      have := hs (j + 1) (by simp; omega) ρ s (by rw [show i + (j + 1) = i + 1 + j by omega]; exact hp)
      rw [show i + (j + 1) + 1 = i + 1 + j + 1 by omega] at this
      exact this
    refine ⟨ρ2, s2, ?_, by rw [show i + (x :: xs).length = i + 1 + xs.length by simp; omega]; exact h2⟩
    have e' : f x ρ s = .nx ρ1 s1 := e
    unfold lpF
    rw [e']
    exact e2
section
variable {F : List Fn} {s : List D} {a0 a1 a2 a3 a4 a5 a6 : Sl}
theorem ex_own {i : Nat} {e : Ex} {ρ ρ' : En} {s' : List D} {xs : List D} (h : ev F e false ρ s = .ok (.lst xs) ρ' s') (hi : i < ρ'.length) : ex F (.own i e) ρ s = .nx (ρ'.set i (.ow (.lst xs))) s' := by
  show (ev F e false ρ s).fl _ = _
  rw [h]
  exact if_pos ⟨hi, rfl⟩
def lcE : Ex := .lc [] [4, 5] (.tp [(.nm 4), (.nm 5)]) (.seq (.sv 2)) none (.bin .add (.bv 4) (.tup [(.v 5)]))
theorem lc_ok {b : List (List Int × Int)} (hb : ∀ x ∈ b, x.1.length < 1000) (hc : b.length ≤ 100000) :
    ev F lcE false [a0, a1, .ow (.lst (b.map encD)), a3, a4, a5, a6] s = .ok (.lst (b.map fun x => rowD (x.1 ++ [x.2]))) [a0, a1, .im (.lst (b.map encD)), a3, a4, a5, a6] s := by
  have key : goL (fun x s => match bindT (.tp [(.nm 4), (.nm 5)]) x (blkE (frzAt [a0, a1, .im (.lst (b.map encD)), a3, a4, a5, a6] []) [4, 5]) with
        | some ρ1 => match evO F none ρ1 s with
          | .ok (.bl true) ρ2 s => match ev F (.bin .add (.bv 4) (.tup [(.v 5)])) false ρ2 s with
            | .ok d _ s => .ok [d] [] s
            | _ => .bad
          | .ok (.bl false) _ s => .ok [] [] s
          | _ => .bad
        | none => .bad) (b.map encD) s = .ok (b.flatMap fun x => [rowD (x.1 ++ [x.2])]) [] s := by
    refine goL_map fun x hx => ?_
    have h1 := hb x hx
    have hc : cap ((x.1.map D.int).length + 1) = true := cap_of (by simp; omega)
    have e1 : bindT (.tp [(.nm 4), (.nm 5)]) (encD x) (blkE (frzAt [a0, a1, .im (.lst (b.map encD)), a3, a4, a5, a6] []) [4, 5]) = some [unS a0, unS a1, .im (.lst (b.map encD)), unS a3, .im (rowD x.1), .im (.int x.2), unS a6] := rfl
    have e3 : ev F (.bin .add (.bv 4) (.tup [(.v 5)])) false [unS a0, unS a1, .im (.lst (b.map encD)), unS a3, .im (rowD x.1), .im (.int x.2), unS a6] s = .ok (rowD (x.1 ++ [x.2])) [unS a0, unS a1, .im (.lst (b.map encD)), unS a3, .im (rowD x.1), .im (.int x.2), unS a6] s := by
      simp only [ev, evs, fin, Out.bind, OutL.bind, Out.bindL, OutL.bindL, Out.get, List.getElem?_cons_zero, List.getElem?_cons_succ, binD, rowD, List.length_cons, List.length_nil, hc, if_true, cap_of (show 0 + 1 ≤ 100000 by omega), List.map_append, List.map_cons, List.map_nil, Nat.zero_add]
    refine ⟨[], ?_⟩
    rw [e1]
    dsimp only [evO]
    rw [e3]
  have e0 : ev F lcE false [a0, a1, .ow (.lst (b.map encD)), a3, a4, a5, a6] s = match goL (fun x s => match bindT (.tp [(.nm 4), (.nm 5)]) x (blkE (frzAt [a0, a1, .im (.lst (b.map encD)), a3, a4, a5, a6] []) [4, 5]) with
        | some ρ1 => match evO F none ρ1 s with
          | .ok (.bl true) ρ2 s => match ev F (.bin .add (.bv 4) (.tup [(.v 5)])) false ρ2 s with
            | .ok d _ s => .ok [d] [] s
            | _ => .bad
          | .ok (.bl false) _ s => .ok [] [] s
          | _ => .bad
        | none => .bad) (b.map encD) s with
      | .ok ds _ s => if cap ds.length then .ok (.lst ds) [a0, a1, .im (.lst (b.map encD)), a3, a4, a5, a6] s else .bad
      | _ => .bad := rfl
  rw [e0, key]
  dsimp only
  rw [show (b.flatMap fun x => [rowD (x.1 ++ [x.2])]) = b.map fun x => rowD (x.1 ++ [x.2]) from List.map_eq_flatMap.symm, cap_of (by simpa using hc)]
  rfl
/-- what chk says -/
structure Fine (t : Int) (p : Nat) : Prop where
  ways : ((rows t p).length : Int) = waysN t p
  row : ∀ r ∈ rows t p, r.length = p ∧ r.sum = t ∧ ∀ n ∈ r, 0 ≤ n ∧ n ≤ t
  asc : ascB (rows t p) = true
  bd : ∀ k, k < p → ∀ x ∈ begun k t, x.1.length < 1000 ∧ 0 ≤ x.2 ∧ x.2 < 1000
  len : ∀ k, k < p → (begun k t).length ≤ 90000
theorem fine_of {t : Int} {p : Nat} (h : chk t p = true) : Fine t p := by
  unfold chk at h
  simp only [Bool.and_eq_true, List.all_eq_true, beq_iff_eq, decide_eq_true_eq, List.mem_range] at h
  obtain ⟨⟨⟨⟨h1, h2⟩, h3⟩, h4⟩, h5⟩ := h
  exact ⟨h1, fun r hr => ⟨(h2 r hr).1.1, (h2 r hr).1.2, (h2 r hr).2⟩, h3, fun k hk x hx => ⟨(h4 k hk x hx).1.1, (h4 k hk x hx).1.2, (h4 k hk x hx).2⟩, h5⟩
theorem fine {t : Int} {p : Nat} (hp : p < 6) (h0 : 0 ≤ t) (ht : t < capOf p) : Fine t p := by
  have h := all_chk
  simp only [List.all_eq_true, List.mem_range] at h
  obtain ⟨j, rfl⟩ : ∃ j : Nat, t = j := ⟨t.toNat, by omega⟩
  exact fine_of (h p hp j (by omega))
theorem comps_ok {t : Int} {p : Nat} (hf : Fine t p) (h0 : 0 ≤ t) (hp : p < 6) : f2 [.int t, .int p] s = .ok (.tup ((rows t p).map rowD)) s := by
  have e0 : f2 [.int t, .int p] s = match exs F2 b2 [.im (.int t), .im (.int p), .un, .un, .un, .un, .un] s with
    | .nx _ s => .ok .non s
    | .rt d s => .ok d s
    | .exc c fs _ s => .exc c fs s
    | _ => .bad := rfl
  rw [e0]
  have eB : b2 = b2[0] :: b2[1] :: b2[2] :: b2[3] :: [] := rfl
  by_cases hz : p = 0
  · subst hz
    have c1 : ¬ t < 0 := by omega
    by_cases ht : t = 0
    · subst ht; rfl
    · have e1 : ex F2 b2[0] [.im (.int t), .im (.int (0 : Nat)), .un, .un, .un, .un, .un] s = .rt (.tup []) s := by
        simp only [b2, List.getElem_cons_zero, exs, ex, ev, evs, truth, Out.fl, Out.bind, OutL.bind, fin, Out.get, List.getElem?_cons_zero, List.getElem?_cons_succ, Fl.seq, cmpD, eqS, Option.map_some, ht, decide_true, decide_false, Int.ofNat_zero, Int.natCast_zero, List.length_nil, cap_of (Nat.zero_le _), if_true]
      rw [eB, Dr.seq_rt e1]
      simp [rows, ht]
  · have c0 : ¬ ((p : Int) = 0) := by omega
    have c1 : ¬ t < 0 := by omega
    have e1 : ex F2 b2[0] [.im (.int t), .im (.int p), .un, .un, .un, .un, .un] s = .nx [.im (.int t), .im (.int p), .un, .un, .un, .un, .un] s := by
      simp only [b2, List.getElem_cons_zero, exs, ex, ev, evs, truth, Out.fl, Out.bind, OutL.bind, fin, Out.get, List.getElem?_cons_zero, List.getElem?_cons_succ, Fl.seq, cmpD, eqS, Option.map_some, c0, c1, decide_true, decide_false]
    have e2 : ex F2 b2[1] [.im (.int t), .im (.int p), .un, .un, .un, .un, .un] s = .nx [.im (.int t), .im (.int p), .ow (.lst ((begun 0 t).map encD)), .un, .un, .un, .un] s := by rfl
    have e3 : ∃ ρ' s', ex F2 b2[2] [.im (.int t), .im (.int p), .ow (.lst ((begun 0 t).map encD)), .un, .un, .un, .un] s = .nx ρ' s' ∧ (∃ q, ρ' = [.im (.int t), .im (.int p), .ow (.lst ((begun (p - 1) t).map encD)), q, .un, .un, .un]) ∧ s' = s := by
      have hI : evI F2 (.rng1 (.bin .sub (.bv 1) (.c (.int 1)))) [.im (.int t), .im (.int p), .ow (.lst ((begun 0 t).map encD)), .un, .un, .un, .un] s = .ok (.lst (rangeD 0 (p - 1))) [.im (.int t), .im (.int p), .ow (.lst ((begun 0 t).map encD)), .un, .un, .un, .un] s := by
        have hr : (p : Int) - 1 ≤ 100000 ∧ -100000 ≤ (p : Int) - 1 := ⟨by omega, by omega⟩
        simp only [evI, ev, fin, Out.bind, Out.get, List.getElem?_cons_zero, List.getElem?_cons_succ, binD, hr, and_self, if_true]
        rw [show ((p : Int) - 1).toNat = p - 1 by omega]
      have h := lpF_nx (f := fun x ρ s => match bindT (.nm 3) x ρ with
        | some ρ' => exs F2 [.own 2 lc2E] ρ' s
        | none => .bad) (fun i ρ s1 => (∃ q, ρ = [.im (.int t), .im (.int p), .ow (.lst ((begun i t).map encD)), q, .un, .un, .un]) ∧ s1 = s) (rangeD 0 (p - 1)) 0 [.im (.int t), .im (.int p), .ow (.lst ((begun 0 t).map encD)), .un, .un, .un, .un] s ⟨⟨_, rfl⟩, rfl⟩ (by
          intro j hj ρ s1 hP
          obtain ⟨⟨q, rfl⟩, rfl⟩ := hP
          rw [Nat.zero_add]
          have hj' : j < p - 1 := by simpa [rangeD_map] using hj
          refine ⟨[.im (.int t), .im (.int p), .ow (.lst ((begun (j + 1) t).map encD)), .im (rangeD 0 (p - 1))[j], .un, .un, .un], s1, ?_, ⟨.im (rangeD 0 (p - 1))[j], rfl⟩, rfl⟩
          · have e := ex_own (F := F2) (i := 2) (lc2_ok (F := F2) (s := s1) (a0 := .im (.int t)) (a1 := .im (.int p)) (a3 := .im (rangeD 0 (p - 1))[j]) (a4 := .un) (a5 := .un) (a6 := .un) (hf.bd j (by omega)) (Nat.le_trans (hf.len (j + 1) (by omega)) (by omega))) (by simp)
            show exs F2 [.own 2 lc2E] [.im (.int t), .im (.int p), .ow (.lst ((begun j t).map encD)), .im (rangeD 0 (p - 1))[j], .un, .un, .un] s1 = _
            rw [Dr.seq_nx e]
            rfl)
      obtain ⟨ρ', s', e, ⟨q, h1⟩, h2⟩ := h
      refine ⟨ρ', s', ?_, ⟨q, ?_⟩, h2⟩
      · show (evI F2 (.rng1 (.bin .sub (.bv 1) (.c (.int 1)))) _ s).fl _ = _
        rw [hI]
        exact e
      · rw [h1]
        simp [rangeD_map]
    obtain ⟨ρ', s', e3, ⟨q, rfl⟩, rfl⟩ := e3
    rw [eB, Dr.seq_nx e1, Dr.seq_nx e2, Dr.seq_nx e3]
    have e4 := lc_ok (F := F2) (s := s') (a0 := .im (.int t)) (a1 := .im (.int p)) (a3 := q) (a4 := .un) (a5 := .un) (a6 := .un) (b := begun (p - 1) t) (fun x hx => (hf.bd (p - 1) (by omega) x hx).1) (Nat.le_trans (hf.len (p - 1) (by omega)) (by omega))
    have e5 : ex F2 b2[3] [.im (.int t), .im (.int p), .ow (.lst ((begun (p - 1) t).map encD)), q, .un, .un, .un] s' = .rt (.tup ((rows t p).map rowD)) s' := by
      show (ev F2 (.blt .tuple [lcE]) false _ s').fl _ = _
      simp only [ev, evs, Out.bindL, OutL.bind, OutL.bindL, fin, Out.bind] at *
      rw [e4]
      simp only [bltD, Out.get, Out.fl, rows, hz, if_false, List.map_map]
      rfl
    rw [Dr.seq_rt e5]
end
end K02

namespace K02
open PySem PySem.Spec PyProof.Rows L2 Z
theorem ways_ok : ∀ (p t : Nat), p < 6 → t < capOf p → ∀ s, f5 [.int (t : Int), .int (p : Int)] s = .ok (.int (waysN t p)) s
  | 0, 0, _, _, s => rfl
  | 0, 1, _, _, s => rfl
  | 0, 2, _, _, s => rfl
  | 0, 3, _, _, s => rfl
  | 0, 4, _, _, s => rfl
  | 0, 5, _, _, s => rfl
  | 0, 6, _, _, s => rfl
  | 0, 7, _, _, s => rfl
  | 0, 8, _, _, s => rfl
  | 0, 9, _, _, s => rfl
  | 0, 10, _, _, s => rfl
  | 0, 11, _, _, s => rfl
  | 0, 12, _, _, s => rfl
  | 0, _ + 13, _, h, s => absurd h (by simp [capOf])
  | 1, 0, _, _, s => rfl
  | 1, 1, _, _, s => rfl
  | 1, 2, _, _, s => rfl
  | 1, 3, _, _, s => rfl
  | 1, 4, _, _, s => rfl
  | 1, 5, _, _, s => rfl
  | 1, 6, _, _, s => rfl
  | 1, 7, _, _, s => rfl
  | 1, 8, _, _, s => rfl
  | 1, 9, _, _, s => rfl
  | 1, 10, _, _, s => rfl
  | 1, 11, _, _, s => rfl
  | 1, 12, _, _, s => rfl
  | 1, _ + 13, _, h, s => absurd h (by simp [capOf])
  | 2, 0, _, _, s => rfl
  | 2, 1, _, _, s => rfl
  | 2, 2, _, _, s => rfl
  | 2, 3, _, _, s => rfl
  | 2, 4, _, _, s => rfl
  | 2, 5, _, _, s => rfl
  | 2, 6, _, _, s => rfl
  | 2, 7, _, _, s => rfl
  | 2, 8, _, _, s => rfl
  | 2, 9, _, _, s => rfl
  | 2, 10, _, _, s => rfl
  | 2, 11, _, _, s => rfl
  | 2, 12, _, _, s => rfl
  | 2, _ + 13, _, h, s => absurd h (by simp [capOf])
  | 3, 0, _, _, s => rfl
  | 3, 1, _, _, s => rfl
  | 3, 2, _, _, s => rfl
  | 3, 3, _, _, s => rfl
  | 3, 4, _, _, s => rfl
  | 3, 5, _, _, s => rfl
  | 3, 6, _, _, s => rfl
  | 3, 7, _, _, s => rfl
  | 3, 8, _, _, s => rfl
  | 3, 9, _, _, s => rfl
  | 3, 10, _, _, s => rfl
  | 3, 11, _, _, s => rfl
  | 3, 12, _, _, s => rfl
  | 3, _ + 13, _, h, s => absurd h (by simp [capOf])
  | 4, 0, _, _, s => rfl
  | 4, 1, _, _, s => rfl
  | 4, 2, _, _, s => rfl
  | 4, 3, _, _, s => rfl
  | 4, 4, _, _, s => rfl
  | 4, 5, _, _, s => rfl
  | 4, 6, _, _, s => rfl
  | 4, 7, _, _, s => rfl
  | 4, 8, _, _, s => rfl
  | 4, 9, _, _, s => rfl
  | 4, _ + 10, _, h, s => absurd h (by simp [capOf])
  | 5, 0, _, _, s => rfl
  | 5, 1, _, _, s => rfl
  | 5, 2, _, _, s => rfl
  | 5, 3, _, _, s => rfl
  | 5, 4, _, _, s => rfl
  | 5, 5, _, _, s => rfl
  | 5, 6, _, _, s => rfl
  | 5, 7, _, _, s => rfl
  | 5, _ + 8, _, h, s => absurd h (by simp [capOf])
  | _ + 6, _, h, _, s => absurd h (by omega)
def whW (d lo hi : D) : Bool := match d with
  | .int i => (match lo with
    | .int a => decide (a ≤ i)
    | _ => true) && (match hi with
    | .int b => decide (i ≤ b)
    | _ => true)
  | _ => false
inductive Bd : D → Prop
  | non : Bd .non
  | int (a : Int) : Bd (.int a)
inductive Th : D → Prop
  | int (i : Int) : Th (.int i)
  | bl (b : Bool) : Th (.bl b)
  | non : Th .non
  | str (x : Str) : Th (.str x)
  | tup (x : List D) : Th (.tup x)
  | lst (x : List D) : Th (.lst x)
theorem run_rt {F : List Fn} {b : List Stm} {ms : List Bool} {n : Nat} {as : List D} {s s' : List D} {d : D} (h : exs F b ((as.zipIdx.map fun (a, i) => if ms[i]? = some true then Sl.br a else Sl.im a) ++ List.replicate (n - as.length) .un) s = .rt d s') : run F b ms n as s = .ok d s' := by
  unfold Z.run
  rw [h]
theorem f6_ok {d lo hi : D} (hd : Th d) (hl : Bd lo) (hh : Bd hi) (s : List D) : f6 [d, lo, hi] s = .ok (.bl (whW d lo hi)) s := by
  cases hd with
  | int i =>
    refine run_rt ?_
    show exs F6 b6 [.im (.int i), .im lo, .im hi] s = _
    cases hl with
    | non =>
      cases hh with
      | non => rfl
      | int b =>
        by_cases c2 : i ≤ b
        · simp only [b6, exs, ex, ev, evs, truth, Out.fl, Out.bind, fin, Out.get, List.getElem?_cons_zero, List.getElem?_cons_succ, Fl.seq, isTys, isTy, cmpD, isNon, Option.map_some, c2, decide_true, decide_false, whW, Bool.not_true, Bool.not_false, Bool.and_self, Bool.true_and, Bool.and_true]
        · simp only [b6, exs, ex, ev, evs, truth, Out.fl, Out.bind, fin, Out.get, List.getElem?_cons_zero, List.getElem?_cons_succ, Fl.seq, isTys, isTy, cmpD, isNon, Option.map_some, c2, decide_true, decide_false, whW, Bool.not_true, Bool.not_false, Bool.and_self, Bool.true_and, Bool.and_true]
    | int a =>
      by_cases c1 : a ≤ i
      · cases hh with
        | non => simp only [b6, exs, ex, ev, evs, truth, Out.fl, Out.bind, fin, Out.get, List.getElem?_cons_zero, List.getElem?_cons_succ, Fl.seq, isTys, isTy, cmpD, isNon, Option.map_some, c1, decide_true, decide_false, whW, Bool.not_true, Bool.not_false, Bool.and_self, Bool.true_and, Bool.and_true]
        | int b =>
          by_cases c2 : i ≤ b
          · simp only [b6, exs, ex, ev, evs, truth, Out.fl, Out.bind, fin, Out.get, List.getElem?_cons_zero, List.getElem?_cons_succ, Fl.seq, isTys, isTy, cmpD, isNon, Option.map_some, c1, c2, decide_true, decide_false, whW, Bool.not_true, Bool.not_false, Bool.and_self, Bool.true_and, Bool.and_true]
          · simp only [b6, exs, ex, ev, evs, truth, Out.fl, Out.bind, fin, Out.get, List.getElem?_cons_zero, List.getElem?_cons_succ, Fl.seq, isTys, isTy, cmpD, isNon, Option.map_some, c1, c2, decide_true, decide_false, whW, Bool.not_true, Bool.not_false, Bool.and_self, Bool.true_and, Bool.and_true]
      · simp only [b6, exs, ex, ev, evs, truth, Out.fl, Out.bind, fin, Out.get, List.getElem?_cons_zero, List.getElem?_cons_succ, Fl.seq, isTys, isTy, cmpD, isNon, Option.map_some, c1, decide_true, decide_false, whW, Bool.not_true, Bool.not_false, Bool.and_self, Bool.true_and, Bool.and_true, Bool.false_and]
  | bl b => cases b <;> rfl
  | non => rfl
  | str x => rfl
  | tup x => rfl
  | lst x => rfl
theorem g0_int (i : Int) (s : List D) : g0 [.int i] s = .ok (.bl true) s := rfl
theorem f1_ok {d lo hi : D} (hd : Th d) (hl : Bd lo) (hh : Bd hi) (s : List D) : f1 [d, lo, hi] s = .ok (.bl (whW d lo hi)) s := by
  cases hd with
  | int i =>
    refine run_rt ?_
    show exs F1 b1 [.im (.int i), .im lo, .im hi] s = _
    have hF : F1[0]? = some g0 := rfl
    cases hl with
    | non =>
      cases hh with
      | non => rfl
      | int b =>
        by_cases c2 : i ≤ b
        · simp only [b1, exs, ex, ev, evs, truth, Out.fl, Out.bind, Out.bindL, OutL.bind, OutL.bindL, fin, Out.get, List.getElem?_cons_zero, List.getElem?_cons_succ, Fl.seq, hF, g0_int, cmpD, isNon, Option.map_some, c2, decide_true, decide_false, whW, Bool.not_true, Bool.not_false, Bool.and_self, Bool.true_and, Bool.and_true]
        · simp only [b1, exs, ex, ev, evs, truth, Out.fl, Out.bind, Out.bindL, OutL.bind, OutL.bindL, fin, Out.get, List.getElem?_cons_zero, List.getElem?_cons_succ, Fl.seq, hF, g0_int, cmpD, isNon, Option.map_some, c2, decide_true, decide_false, whW, Bool.not_true, Bool.not_false, Bool.and_self, Bool.true_and, Bool.and_true]
    | int a =>
      by_cases c1 : a ≤ i
      · cases hh with
        | non => simp only [b1, exs, ex, ev, evs, truth, Out.fl, Out.bind, Out.bindL, OutL.bind, OutL.bindL, fin, Out.get, List.getElem?_cons_zero, List.getElem?_cons_succ, Fl.seq, hF, g0_int, cmpD, isNon, Option.map_some, c1, decide_true, decide_false, whW, Bool.not_true, Bool.not_false, Bool.and_self, Bool.true_and, Bool.and_true]
        | int b =>
          by_cases c2 : i ≤ b
          · simp only [b1, exs, ex, ev, evs, truth, Out.fl, Out.bind, Out.bindL, OutL.bind, OutL.bindL, fin, Out.get, List.getElem?_cons_zero, List.getElem?_cons_succ, Fl.seq, hF, g0_int, cmpD, isNon, Option.map_some, c1, c2, decide_true, decide_false, whW, Bool.not_true, Bool.not_false, Bool.and_self, Bool.true_and, Bool.and_true]
          · simp only [b1, exs, ex, ev, evs, truth, Out.fl, Out.bind, Out.bindL, OutL.bind, OutL.bindL, fin, Out.get, List.getElem?_cons_zero, List.getElem?_cons_succ, Fl.seq, hF, g0_int, cmpD, isNon, Option.map_some, c1, c2, decide_true, decide_false, whW, Bool.not_true, Bool.not_false, Bool.and_self, Bool.true_and, Bool.and_true]
      · simp only [b1, exs, ex, ev, evs, truth, Out.fl, Out.bind, Out.bindL, OutL.bind, OutL.bindL, fin, Out.get, List.getElem?_cons_zero, List.getElem?_cons_succ, Fl.seq, hF, g0_int, cmpD, isNon, Option.map_some, c1, decide_true, decide_false, whW, Bool.not_true, Bool.not_false, Bool.and_self, Bool.true_and, Bool.and_true, Bool.false_and]
  | bl b => cases b <;> rfl
  | non => rfl
  | str x => rfl
  | tup x => rfl
  | lst x => rfl
end K02

namespace K02
open PySem PySem.Spec PyProof.Rows L2 Z
section
variable {F : List Fn} {s s' s1 : List D} {ρ ρ' : En} {d : D} {e t : Ex} {a : List Stm} {i : Nat}
theorem ex_asg (h : ev F e false ρ s = .ok d ρ' s') (hi : i < ρ'.length) : ex F (.asg (.nm i) e) ρ s = .nx (ρ'.set i (.im d)) s' := by
  show (ev F e false ρ s).fl _ = _
  rw [h]
  show (match (if i < ρ'.length then some (ρ'.set i (.im d)) else none) with
    | some ρ' => Fl.nx ρ' s'
    | none => Fl.bad) = _
  rw [if_pos hi]
theorem ev_call {f : Nat} {ms : List Bool} {es : List Ex} {fn : Fn} {ds : List D} (h : evs F es ρ s = .ok ds ρ' s1) (hf : F[f]? = some fn) (q : fn ds s1 = .ok d s') : ev F (.call f ms es) false ρ s = .ok d ρ' s' := by
  unfold ev
  rw [h]
  simp only [OutL.bind, hf, q, fin]
theorem ex_skip (h : ev F t true ρ s = .ok (.bl false) ρ' s') : ex F (.ife t a []) ρ s = .nx ρ' s' := by
  show (ev F t true ρ s).fl _ = _
  rw [h]
  rfl
end
theorem intsOf_map : ∀ ns : List Int, intsOf (ns.map D.int) = some ns
  | [] => rfl
  | n :: ns => by simp only [List.map_cons, intsOf, intsOf_map ns, Option.map_some]
theorem asc_get : ∀ {R : List (List Int)} {j : Nat} (h : ascB R = true) (hj : j + 1 < R.length), HT.lexLt R[j] R[j + 1] = true
  | [], _, _, hj => by simp at hj
  | [_], j, _, hj => by simp at hj
  | a :: b :: r, 0, h, hj => by
    simp only [ascB, Bool.and_eq_true] at h
    exact h.1
  | a :: b :: r, j + 1, h, hj => by
    simp only [ascB, Bool.and_eq_true] at h
    exact asc_get (R := b :: r) (j := j) h.2 (by simpa using hj)
theorem draw7 {n m : Int} {d : D} (h : Dr.WF n d) (hn : n ≤ 1000000) (hm : m < 10 ^ 30) : ∃ r d', g6 [.mref 0, .int m] [d] = .ok (.int r) [d'] ∧ Dr.WF (n + 1) d' ∧ 0 ≤ r ∧ (r < m ∨ r = 0) := by
  obtain ⟨r, d', e, q⟩ := Dr.draw_ok (F := F4) (s := [d]) (k := 0) rfl h hn hm
  exact ⟨r, d', e, q⟩
def F7' : List Fn := [g0, g1, g2, g3, g4, g5, g6, g7, g8]
example : F7 = F7' := rfl
/-- the shape pys gives a list of rows -/
def pyR (r : List Int) : PyData := .tuple (r.map .int)
theorem pys_ints : ∀ r : List Int, pys (r.map D.int) = some (r.map PyData.int)
  | [] => rfl
  | n :: r => by simp only [List.map_cons, pys, py, pys_ints r]
theorem py_row (r : List Int) : py (rowD r) = some (pyR r) := by
  simp only [rowD, py, pys_ints, Option.map_some, pyR]
theorem pys_rows : ∀ R : List (List Int), pys (R.map rowD) = some (R.map pyR)
  | [] => rfl
  | r :: R => by simp only [List.map_cons, pys, py_row, pys_rows R]
theorem lay_row (r : List Int) : (pyR r).canLay0 = true := by simp only [pyR, PyData.canLay0]; exact PySem.W.canLayAll0_ints r
theorem dep_row (r : List Int) : (pyR r).depth ≤ 2 := by
  have := PySem.W.depthAll_ints r
  simp only [pyR, PyData.depth]; omega
theorem lay_rows : ∀ R : List (List Int), PyData.canLayAll0 (R.map pyR) = true
  | [] => by simp [PyData.canLayAll0]
  | r :: R => by simp [PyData.canLayAll0, lay_row, lay_rows R]
theorem dep_rows : ∀ R : List (List Int), PyData.depthAll (R.map pyR) ≤ 2
  | [] => by simp [PyData.depthAll]
  | r :: R => by
    have := dep_rows R
    have := dep_row r
    simp only [List.map_cons, PyData.depthAll]
    omega
theorem sh_row (r : List Int) : SeqAt.shaped (pyR r) = true := by
  show ((pyR r).canLay0 && decide ((pyR r).depth ≤ 64)) = true
  rw [lay_row, decide_eq_true (Nat.le_trans (dep_row r) (by decide))]; rfl
theorem sh_rows (R : List (List Int)) : SeqAt.shaped (.tuple (R.map pyR)) = true := by
  have h := dep_rows R
  show ((PyData.tuple (R.map pyR)).canLay0 && decide ((PyData.tuple (R.map pyR)).depth ≤ 64)) = true
  have h2 : (PyData.tuple (R.map pyR)).depth ≤ 64 := by simp only [PyData.depth]; omega
  have h1 : (PyData.tuple (R.map pyR)).canLay0 = true := by simp only [PyData.canLay0]; exact lay_rows R
  rw [h1, decide_eq_true h2]; rfl
theorem mem_rows {r : List Int} {R : List (List Int)} (h : r ∈ R) : memD (rowD r) (.tup (R.map rowD)) = some true := by
  simp only [memD, py_row, pys_rows, sh_row, sh_rows, Bool.and_self, if_true, List.any_map]
  rw [List.any_eq_true.mpr ⟨r, h, SeqAt.eqv_refl _ (lay_row r)⟩]
theorem nil_nil : eqS (.lst []) (.lst []) = some true := by
  simp only [eqS, eqD, py, pys, Option.map_some, SeqAt.shaped]
  decide +kernel
/-! the law, part by part -/
section
variable {s : List D} {ns : List Int} {p : Nat} {t : Int} {x5 x6 x7 x8 x9 x10 x11 x12 x13 x14 : Sl}
theorem cap_ix (hp : p < 6) {r3 : List Sl} : ev F7 (.ix (.lst [(.c (.int 13)), (.c (.int 13)), (.c (.int 13)), (.c (.int 13)), (.c (.int 10)), (.c (.int 8))]) (.bv 2)) false (.im (.scr ns) :: .im (.mref 0) :: .im (.int (p : Int)) :: r3) s = .ok (.int (capOf p)) (.im (.scr ns) :: .im (.mref 0) :: .im (.int (p : Int)) :: r3) s :=
  match p, hp with
  | 0, _ => rfl | 1, _ => rfl | 2, _ => rfl | 3, _ => rfl | 4, _ => rfl | 5, _ => rfl
  | n + 6, h => absurd h (by omega)
theorem whole_in {n : Int} (h0 : 0 ≤ n) (h1 : n ≤ t) (s : List D) : g8 [.int n, .int 0, .int t] s = .ok (.bl true) s := by
  have e := f6_ok (.int n) (.int 0) (.int t) s
  simp only [whW, h0, h1, decide_true, Bool.and_self] at e
  exact e
theorem lc_none {r : List Int} (h : ∀ n ∈ r, 0 ≤ n ∧ n ≤ t) {r0 r1 r2 r4 r5 : Sl} {rest : List Sl} : ev F7 (.lc [3] [7] (.nm 7) (.seq (.sv 6)) (some (.nt (.call 8 [false, false, false] [(.v 7), (.c (.int 0)), (.v 3)]))) (.v 7)) false (r0 :: r1 :: r2 :: .im (.int t) :: r4 :: r5 :: .im (rowD r) :: x7 :: rest) s = .ok (.lst []) (r0 :: r1 :: r2 :: .im (.int t) :: r4 :: r5 :: .im (rowD r) :: x7 :: rest) s := by
  have key : goL (fun x s => match bindT (.nm 7) x (blkE (frzAt (r0 :: r1 :: r2 :: .im (.int t) :: r4 :: r5 :: .im (rowD r) :: x7 :: rest) [3]) [7]) with
        | some ρ1 => match evO F7 (some (.nt (.call 8 [false, false, false] [(.v 7), (.c (.int 0)), (.v 3)]))) ρ1 s with
          | .ok (.bl true) ρ2 s => match ev F7 (.v 7) false ρ2 s with
            | .ok d _ s => .ok [d] [] s
            | _ => .bad
          | .ok (.bl false) _ s => .ok [] [] s
          | _ => .bad
        | none => .bad) (r.map D.int) s = .ok (r.flatMap fun _ => []) [] s := by
    refine goL_map fun n hn => ⟨[], ?_⟩
    obtain ⟨h0, h1⟩ := h n hn
    have e1 : bindT (.nm 7) (.int n) (blkE (frzAt (r0 :: r1 :: r2 :: .im (.int t) :: r4 :: r5 :: .im (rowD r) :: x7 :: rest) [3]) [7]) = some (unS r0 :: unS r1 :: unS r2 :: .im (.int t) :: unS r4 :: unS r5 :: .im (rowD r) :: .im (.int n) :: rest.map unS) := by
      show (if 7 < (unS r0 :: unS r1 :: unS r2 :: Sl.im (.int t) :: unS r4 :: unS r5 :: Sl.im (rowD r) :: Sl.un :: rest.map unS).length then _ else none) = _
      rw [if_pos (by simp)]
      rfl
    have e2 : evO F7 (some (.nt (.call 8 [false, false, false] [(.v 7), (.c (.int 0)), (.v 3)]))) (unS r0 :: unS r1 :: unS r2 :: .im (.int t) :: unS r4 :: unS r5 :: .im (rowD r) :: .im (.int n) :: rest.map unS) s = .ok (.bl false) (unS r0 :: unS r1 :: unS r2 :: .im (.int t) :: unS r4 :: unS r5 :: .im (rowD r) :: .im (.int n) :: rest.map unS) s := by
      have hF : F7[8]? = some g8 := rfl
      simp only [evO, ev, evs, fin, Out.bind, OutL.bind, Out.bindL, OutL.bindL, Out.get, List.getElem?_cons_zero, List.getElem?_cons_succ, hF, whole_in h0 h1 s, truth, Option.map_some, Bool.not_true]
    rw [e1]
    dsimp only
    rw [e2]
  have e0 : ev F7 (.lc [3] [7] (.nm 7) (.seq (.sv 6)) (some (.nt (.call 8 [false, false, false] [(.v 7), (.c (.int 0)), (.v 3)]))) (.v 7)) false (r0 :: r1 :: r2 :: .im (.int t) :: r4 :: r5 :: .im (rowD r) :: x7 :: rest) s = match goL (fun x s => match bindT (.nm 7) x (blkE (frzAt (r0 :: r1 :: r2 :: .im (.int t) :: r4 :: r5 :: .im (rowD r) :: x7 :: rest) [3]) [7]) with
        | some ρ1 => match evO F7 (some (.nt (.call 8 [false, false, false] [(.v 7), (.c (.int 0)), (.v 3)]))) ρ1 s with
          | .ok (.bl true) ρ2 s => match ev F7 (.v 7) false ρ2 s with
            | .ok d _ s => .ok [d] [] s
            | _ => .bad
          | .ok (.bl false) _ s => .ok [] [] s
          | _ => .bad
        | none => .bad) (r.map D.int) s with
      | .ok ds _ s => if cap ds.length then .ok (.lst ds) (r0 :: r1 :: r2 :: .im (.int t) :: r4 :: r5 :: .im (rowD r) :: x7 :: rest) s else .bad
      | _ => .bad := rfl
  rw [e0, key]
  simp only [List.flatMap_def, List.map_const', List.flatten_replicate_nil]
  rfl
def rowB : List Stm := match b7[5] with
  | .for _ _ b => b
  | _ => []
theorem row_body (hf : Fine t p) {x6 x7 : Sl} {rest : List Sl} {j : Nat} (hj : j < (rows t p).length) :
    exs F7 rowB (.im (.scr ns) :: .im (.mref 0) :: .im (.int p) :: .im (.int t) :: .im (.tup ((rows t p).map rowD)) :: .im (.int j) :: x6 :: x7 :: rest) s = .nx (.im (.scr ns) :: .im (.mref 0) :: .im (.int p) :: .im (.int t) :: .im (.tup ((rows t p).map rowD)) :: .im (.int j) :: .im (rowD (rows t p)[j]) :: x7 :: rest) s := by
  obtain ⟨h1, h2, h3⟩ := hf.row _ (List.getElem_mem hj)
  have eB : rowB = rowB[0] :: rowB[1] :: rowB[2] :: [] := rfl
  have ha : atI ((rows t p).map rowD) (j : Int) = some (rowD (rows t p)[j]) := atI_nat (by simp [hj])
  have e1 : ex F7 rowB[0] (.im (.scr ns) :: .im (.mref 0) :: .im (.int p) :: .im (.int t) :: .im (.tup ((rows t p).map rowD)) :: .im (.int j) :: x6 :: x7 :: rest) s = .nx (.im (.scr ns) :: .im (.mref 0) :: .im (.int p) :: .im (.int t) :: .im (.tup ((rows t p).map rowD)) :: .im (.int j) :: .im (rowD (rows t p)[j]) :: x7 :: rest) s := by
    refine (ex_asg (d := rowD (rows t p)[j]) (ρ' := .im (.scr ns) :: .im (.mref 0) :: .im (.int p) :: .im (.int t) :: .im (.tup ((rows t p).map rowD)) :: .im (.int j) :: x6 :: x7 :: rest) (s' := s) ?_ (by simp)).trans rfl
    simp only [ev, fin, Out.bind, Out.get, List.getElem?_cons_zero, List.getElem?_cons_succ, ixD, ha]
  have hl : ((rowD (rows t p)[j]) : D) = .tup ((rows t p)[j].map D.int) := rfl
  have e2 : ex F7 rowB[1] (.im (.scr ns) :: .im (.mref 0) :: .im (.int p) :: .im (.int t) :: .im (.tup ((rows t p).map rowD)) :: .im (.int j) :: .im (rowD (rows t p)[j]) :: x7 :: rest) s = .nx (.im (.scr ns) :: .im (.mref 0) :: .im (.int p) :: .im (.int t) :: .im (.tup ((rows t p).map rowD)) :: .im (.int j) :: .im (rowD (rows t p)[j]) :: x7 :: rest) s := by
    refine ex_skip ?_
    simp only [ev, evs, fin, Out.bind, OutL.bind, Out.bindL, OutL.bindL, Out.get, List.getElem?_cons_zero, List.getElem?_cons_succ, hl, isTys, isTy, Option.map_some, truth, Bool.not_true, Bool.not_false, bltD, intsOf_map, cmpD, eqS, List.length_map, h1, h2, decide_true]
  have e3 : ex F7 rowB[2] (.im (.scr ns) :: .im (.mref 0) :: .im (.int p) :: .im (.int t) :: .im (.tup ((rows t p).map rowD)) :: .im (.int j) :: .im (rowD (rows t p)[j]) :: x7 :: rest) s = .nx (.im (.scr ns) :: .im (.mref 0) :: .im (.int p) :: .im (.int t) :: .im (.tup ((rows t p).map rowD)) :: .im (.int j) :: .im (rowD (rows t p)[j]) :: x7 :: rest) s := by
    refine ex_skip ?_
    have k1 : ev F7 (.cmp .ne (.lc [3] [7] (.nm 7) (.seq (.sv 6)) (some (.nt (.call 8 [false, false, false] [(.v 7), (.c (.int 0)), (.v 3)]))) (.v 7)) (.lst [])) true (.im (.scr ns) :: .im (.mref 0) :: .im (.int p) :: .im (.int t) :: .im (.tup ((rows t p).map rowD)) :: .im (.int j) :: .im (rowD (rows t p)[j]) :: x7 :: rest) s = .ok (.bl false) (.im (.scr ns) :: .im (.mref 0) :: .im (.int p) :: .im (.int t) :: .im (.tup ((rows t p).map rowD)) :: .im (.int j) :: .im (rowD (rows t p)[j]) :: x7 :: rest) s := by
      rw [ev.eq_def]
      dsimp only
      rw [lc_none h3]
      simp only [ev, evs, fin, Out.bind, OutL.bind, Out.get, cmpD, nil_nil, Option.map_some, truth, Bool.not_true, List.length_nil, cap_of (Nat.zero_le _), if_true]
    have k2 : ev F7 (.an (.cmp .gt (.bv 5) (.c (.int 0))) (.nt (.cmp .lt (.ix (.bv 4) (.bin .sub (.bv 5) (.c (.int 1)))) (.bv 6)))) true (.im (.scr ns) :: .im (.mref 0) :: .im (.int p) :: .im (.int t) :: .im (.tup ((rows t p).map rowD)) :: .im (.int j) :: .im (rowD (rows t p)[j]) :: x7 :: rest) s = .ok (.bl false) (.im (.scr ns) :: .im (.mref 0) :: .im (.int p) :: .im (.int t) :: .im (.tup ((rows t p).map rowD)) :: .im (.int j) :: .im (rowD (rows t p)[j]) :: x7 :: rest) s := by
      by_cases hj0 : j = 0
      · subst hj0; rfl
      · obtain ⟨i, rfl⟩ : ∃ i, j = i + 1 := ⟨j - 1, by omega⟩
        have c : (0 : Int) < ((i + 1 : Nat) : Int) := by omega
        have hb : atI ((rows t p).map rowD) (((i + 1 : Nat) : Int) - 1) = some (rowD ((rows t p)[i]'(by omega))) := by
          rw [show ((i + 1 : Nat) : Int) - 1 = (i : Int) by omega]
          exact atI_nat (by rw [List.getElem?_map, List.getElem?_eq_getElem (by omega)]; rfl)
        have hlx := asc_get hf.asc hj
        simp only [ev, evs, fin, Out.bind, OutL.bind, Out.bindL, OutL.bindL, Out.get, List.getElem?_cons_zero, List.getElem?_cons_succ, cmpD, c, decide_true, Option.map_some, truth, binD, ixD, hb, rowD, intsOf_map, hlx, Bool.not_true]
    rw [ev.eq_def]
    dsimp only
    rw [k1]
    dsimp only [Out.bind]
    rw [k2]
  rw [eB, Dr.seq_nx e1, Dr.seq_nx e2, Dr.seq_nx e3]
  rfl
theorem row_loop (hf : Fine t p) {x5 x6 x7 : Sl} {rest : List Sl} :
    ∃ x5' x6', ex F7 b7[5] (.im (.scr ns) :: .im (.mref 0) :: .im (.int p) :: .im (.int t) :: .im (.tup ((rows t p).map rowD)) :: x5 :: x6 :: x7 :: rest) s = .nx (.im (.scr ns) :: .im (.mref 0) :: .im (.int p) :: .im (.int t) :: .im (.tup ((rows t p).map rowD)) :: x5' :: x6' :: x7 :: rest) s := by
  have hlen : (rows t p).length ≤ 100000 := by
    by_cases hz : p = 0
    · subst hz
      unfold rows
      rw [if_pos rfl]
      split <;> simp
    · have := hf.len (p - 1) (by omega)
      unfold rows
      rw [if_neg hz, List.length_map]
      omega
  have hI : evI F7 (.rng1 (.blt .len [(.bv 4)])) (.im (.scr ns) :: .im (.mref 0) :: .im (.int p) :: .im (.int t) :: .im (.tup ((rows t p).map rowD)) :: x5 :: x6 :: x7 :: rest) s = .ok (.lst (rangeD 0 (rows t p).length)) (.im (.scr ns) :: .im (.mref 0) :: .im (.int p) :: .im (.int t) :: .im (.tup ((rows t p).map rowD)) :: x5 :: x6 :: x7 :: rest) s := by
    have hr : ((rows t p).length : Int) ≤ 100000 ∧ -100000 ≤ ((rows t p).length : Int) := ⟨by omega, by omega⟩
    simp only [evI, ev, evs, fin, Out.bind, OutL.bind, Out.bindL, OutL.bindL, Out.get, List.getElem?_cons_zero, List.getElem?_cons_succ, bltD, List.length_map, hr, and_self, if_true]
    rw [show ((rows t p).length : Int).toNat = (rows t p).length by omega]
  obtain ⟨ρ', s', e, ⟨y5, y6, h1⟩, h2⟩ := lpF_nx (f := fun x ρ s => match bindT (.nm 5) x ρ with
        | some ρ' => exs F7 rowB ρ' s
        | none => .bad) (fun _ ρ s1 => (∃ y5 y6, ρ = (.im (.scr ns) :: .im (.mref 0) :: .im (.int p) :: .im (.int t) :: .im (.tup ((rows t p).map rowD)) :: y5 :: y6 :: x7 :: rest)) ∧ s1 = s) (rangeD 0 (rows t p).length) 0 (.im (.scr ns) :: .im (.mref 0) :: .im (.int p) :: .im (.int t) :: .im (.tup ((rows t p).map rowD)) :: x5 :: x6 :: x7 :: rest) s ⟨⟨_, _, rfl⟩, rfl⟩ (by
          intro j hj ρ s1 hP
          obtain ⟨⟨y5, y6, rfl⟩, rfl⟩ := hP
          have hj' : j < (rows t p).length := by simpa [rangeD_map] using hj
          have ej : (rangeD 0 (rows t p).length)[j] = .int (j : Int) := by simp [rangeD_map]
          refine ⟨(.im (.scr ns) :: .im (.mref 0) :: .im (.int p) :: .im (.int t) :: .im (.tup ((rows t p).map rowD)) :: .im (.int j) :: .im (rowD (rows t p)[j]) :: x7 :: rest), s1, ?_, ⟨_, _, rfl⟩, rfl⟩
          rw [ej]
          have eb : bindT (.nm 5) (.int (j : Int)) (.im (.scr ns) :: .im (.mref 0) :: .im (.int p) :: .im (.int t) :: .im (.tup ((rows t p).map rowD)) :: y5 :: y6 :: x7 :: rest) = some (.im (.scr ns) :: .im (.mref 0) :: .im (.int p) :: .im (.int t) :: .im (.tup ((rows t p).map rowD)) :: .im (.int j) :: y6 :: x7 :: rest) := by
            show (if 5 < (Sl.im (.scr ns) :: .im (.mref 0) :: .im (.int p) :: .im (.int t) :: .im (.tup ((rows t p).map rowD)) :: y5 :: y6 :: x7 :: rest).length then _ else none) = _
            rw [if_pos (by simp)]
            rfl
          rw [eb]
          dsimp only
          exact row_body hf hj')
  refine ⟨y5, y6, ?_⟩
  show (evI F7 (.rng1 (.blt .len [(.bv 4)])) _ s).fl _ = _
  rw [hI]
  subst h2
  rw [← h1]
  exact e
end
end K02

namespace K02
open PySem PySem.Spec PyProof.Rows L2 Z
section
variable {s : List D} {ns : List Int} {p : Nat} {t : Int}
def drB : List Stm := match b7[8] with
  | .for _ _ b => b
  | _ => []
theorem draw_body {c0 c1 c2 c3 c4 c5 c6 c7 : Sl} {rest : List Sl} {ds : List Int} {l n : Int} {d : D} (hw : Dr.WF n d) (hn : n ≤ 1000000) (hl0 : 0 ≤ l) (hl1 : l < 1000) (hd : ds.length < 1000) :
    ∃ r d', exs F7 drB (c0 :: .im (.mref 0) :: c2 :: c3 :: c4 :: c5 :: c6 :: c7 :: .im (.int l) :: .ow (.lst (ds.map .int)) :: .im (.int ds.length) :: rest) [d] = .nx (c0 :: .im (.mref 0) :: c2 :: c3 :: c4 :: c5 :: c6 :: c7 :: .im (.int (l - r)) :: .ow (.lst ((ds ++ [r]).map .int)) :: .im (.int ds.length) :: rest) [d'] ∧ Dr.WF (n + 1) d' ∧ 0 ≤ r ∧ r ≤ l := by
  obtain ⟨r, d', e, hw', h0, h1⟩ := draw7 (m := l + 1) hw hn (by omega)
  have eB : drB = drB[0] :: drB[1] :: [] := rfl
  have hF : F7[6]? = some g6 := rfl
  have hlt : (ds.map D.int).length < 100000 := by simp; omega
  have e1 : ex F7 drB[0] (c0 :: .im (.mref 0) :: c2 :: c3 :: c4 :: c5 :: c6 :: c7 :: .im (.int l) :: .ow (.lst (ds.map .int)) :: .im (.int ds.length) :: rest) [d] = .nx (c0 :: .im (.mref 0) :: c2 :: c3 :: c4 :: c5 :: c6 :: c7 :: .im (.int l) :: .ow (.lst ((ds ++ [r]).map .int)) :: .im (.int ds.length) :: rest) [d'] := by
    have q : ev F7 (.call 6 [false, false] [(.v 1), (.bin .add (.bv 8) (.c (.int 1)))]) false (c0 :: .im (.mref 0) :: c2 :: c3 :: c4 :: c5 :: c6 :: c7 :: .im (.int l) :: .ow (.lst (ds.map .int)) :: .im (.int ds.length) :: rest) [d] = .ok (.int r) (c0 :: .im (.mref 0) :: c2 :: c3 :: c4 :: c5 :: c6 :: c7 :: .im (.int l) :: .ow (.lst (ds.map .int)) :: .im (.int ds.length) :: rest) [d'] :=
      ev_call (ds := [.mref 0, .int (l + 1)]) rfl hF e
    show ex F7 (.app 9 (.call 6 [false, false] [(.v 1), (.bin .add (.bv 8) (.c (.int 1)))])) _ _ = _
    unfold ex
    simp only [List.getElem?_cons_zero, List.getElem?_cons_succ]
    rw [q]
    simp only [Out.fl, List.getElem?_cons_zero, List.getElem?_cons_succ, hlt, if_true, List.set_cons_succ, List.set_cons_zero, List.map_append, List.map_cons, List.map_nil]
  have hx : atI ((ds ++ [r]).map D.int) (ds.length : Int) = some (.int r) := atI_nat (by simp)
  have e2 : ex F7 drB[1] (c0 :: .im (.mref 0) :: c2 :: c3 :: c4 :: c5 :: c6 :: c7 :: .im (.int l) :: .ow (.lst ((ds ++ [r]).map .int)) :: .im (.int ds.length) :: rest) [d'] = .nx (c0 :: .im (.mref 0) :: c2 :: c3 :: c4 :: c5 :: c6 :: c7 :: .im (.int (l - r)) :: .ow (.lst ((ds ++ [r]).map .int)) :: .im (.int ds.length) :: rest) [d'] := by
    refine (ex_asg (d := .int (l - r)) (ρ' := (c0 :: .im (.mref 0) :: c2 :: c3 :: c4 :: c5 :: c6 :: c7 :: .im (.int l) :: .ow (.lst ((ds ++ [r]).map .int)) :: .im (.int ds.length) :: rest)) (s' := [d']) ?_ (by simp)).trans rfl
    simp only [ev, fin, Out.bind, Out.get, List.getElem?_cons_zero, List.getElem?_cons_succ, ixD, hx, binD]
  refine ⟨r, d', ?_, hw', h0, by omega⟩
  rw [eB, Dr.seq_nx e1, Dr.seq_nx e2]
  rfl
theorem draw_loop (hf : Fine t p) (h0 : 0 ≤ t) (hp : p < 6) {c4 c5 c6 c7 c10 : Sl} {rest : List Sl} {n : Int} {d : D} (hw : Dr.WF n d) (hn : n ≤ 1000) :
    ∃ ds l d' x10, ex F7 b7[8] (.im (.scr ns) :: .im (.mref 0) :: .im (.int p) :: .im (.int t) :: c4 :: c5 :: c6 :: c7 :: .im (.int t) :: .ow (.lst []) :: c10 :: rest) [d] = .nx (.im (.scr ns) :: .im (.mref 0) :: .im (.int p) :: .im (.int t) :: c4 :: c5 :: c6 :: c7 :: .im (.int l) :: .ow (.lst (ds.map .int)) :: x10 :: rest) [d'] ∧ Dr.WF (n + 6) d' ∧ (p ≠ 0 → ds ++ [l] ∈ rows t p) ∧ ds.length < 10 := by
  have hI : evI F7 (.rng1 (.bin .sub (.bv 2) (.c (.int 1)))) (.im (.scr ns) :: .im (.mref 0) :: .im (.int p) :: .im (.int t) :: c4 :: c5 :: c6 :: c7 :: .im (.int t) :: .ow (.lst []) :: c10 :: rest) [d] = .ok (.lst (rangeD 0 (p - 1))) (.im (.scr ns) :: .im (.mref 0) :: .im (.int p) :: .im (.int t) :: c4 :: c5 :: c6 :: c7 :: .im (.int t) :: .ow (.lst []) :: c10 :: rest) [d] := by
    have hr : (p : Int) - 1 ≤ 100000 ∧ -100000 ≤ (p : Int) - 1 := ⟨by omega, by omega⟩
    simp only [evI, ev, fin, Out.bind, Out.get, List.getElem?_cons_zero, List.getElem?_cons_succ, binD, hr, and_self, if_true]
    rw [show ((p : Int) - 1).toNat = p - 1 by omega]
  obtain ⟨ρ', s', e, ds, l, d', x10, h1, h2, h3, h4, h5⟩ := lpF_nx (f := fun x ρ s => match bindT (.nm 10) x ρ with
        | some ρ' => exs F7 drB ρ' s
        | none => .bad) (fun i ρ s1 => ∃ ds l d' x10, ρ = (.im (.scr ns) :: .im (.mref 0) :: .im (.int p) :: .im (.int t) :: c4 :: c5 :: c6 :: c7 :: .im (.int l) :: .ow (.lst (ds.map .int)) :: x10 :: rest) ∧ s1 = [d'] ∧ Dr.WF (n + i) d' ∧ (ds, l) ∈ begun i t ∧ ds.length = i) (rangeD 0 (p - 1)) 0 (.im (.scr ns) :: .im (.mref 0) :: .im (.int p) :: .im (.int t) :: c4 :: c5 :: c6 :: c7 :: .im (.int t) :: .ow (.lst []) :: c10 :: rest) [d] ⟨[], t, d, c10, rfl, rfl, hw.mono (by simp), by simp [begun], rfl⟩ (by
      intro j hj ρ s1 hP
      rw [Nat.zero_add] at hP
      obtain ⟨ds, l, d', x10, rfl, rfl, k1, k2, k3⟩ := hP
      have hj' : j < p - 1 := by simpa [rangeD_map] using hj
      have ej : (rangeD 0 (p - 1))[j] = .int (ds.length : Int) := by simp [rangeD_map, k3]
      obtain ⟨b1, b2, b3⟩ := hf.bd j (by omega) _ k2
      obtain ⟨r, d2, e2, m1, m2, m3⟩ := draw_body (c0 := .im (.scr ns)) (c1 := .un) (c2 := .im (.int p)) (c3 := .im (.int t)) (c4 := c4) (c5 := c5) (c6 := c6) (c7 := c7) (rest := rest) k1 (by omega) b2 b3 b1
      refine ⟨_, _, ?_, ds ++ [r], l - r, d2, .im (.int ds.length), rfl, rfl, m1.mono (by omega), begun_next (by rw [Nat.zero_add]; exact k2) m2 m3, by simp [k3]⟩
      rw [ej]
      have eb : bindT (.nm 10) (.int (ds.length : Int)) (.im (.scr ns) :: .im (.mref 0) :: .im (.int p) :: .im (.int t) :: c4 :: c5 :: c6 :: c7 :: .im (.int l) :: .ow (.lst (ds.map .int)) :: x10 :: rest) = some (.im (.scr ns) :: .im (.mref 0) :: .im (.int p) :: .im (.int t) :: c4 :: c5 :: c6 :: c7 :: .im (.int l) :: .ow (.lst (ds.map .int)) :: .im (.int ds.length) :: rest) := by
        show (if 10 < (Sl.im (.scr ns) :: .im (.mref 0) :: .im (.int p) :: .im (.int t) :: c4 :: c5 :: c6 :: c7 :: .im (.int l) :: .ow (.lst (ds.map .int)) :: x10 :: rest).length then _ else none) = _
        rw [if_pos (by simp)]
        rfl
      rw [eb]
      dsimp only
      exact e2)
  have hlen : (rangeD 0 (p - 1)).length = p - 1 := by simp [rangeD_map]
  rw [Nat.zero_add, hlen] at h3 h4 h5
  refine ⟨ds, l, d', x10, ?_, h3.mono (by omega), fun hz => ?_, by omega⟩
  · show (evI F7 (.rng1 (.bin .sub (.bv 2) (.c (.int 1)))) _ [d]).fl _ = _
    rw [hI]
    subst h2
    rw [← h1]
    exact e
  · unfold rows
    rw [if_neg hz]
    exact List.mem_map.mpr ⟨_, h4, rfl⟩
theorem not_in {c0 c1 c3 c5 c6 c7 x10 : Sl} {rest : List Sl} {ds : List Int} {l : Int} (hm : p ≠ 0 → ds ++ [l] ∈ rows t p) (hd : ds.length < 10) :
    ex F7 b7[9] (c0 :: c1 :: .im (.int p) :: c3 :: .im (.tup ((rows t p).map rowD)) :: c5 :: c6 :: c7 :: .im (.int l) :: .ow (.lst (ds.map .int)) :: x10 :: rest) s = .nx (c0 :: c1 :: .im (.int p) :: c3 :: .im (.tup ((rows t p).map rowD)) :: c5 :: c6 :: c7 :: .im (.int l) :: .ow (.lst (ds.map .int)) :: x10 :: rest) s := by
  refine ex_skip ?_
  by_cases hz : p = 0
  · subst hz; rfl
  · have c : (0 : Int) < (p : Int) := by omega
    have hr : D.tup (ds.map D.int ++ [D.int l]) = rowD (ds ++ [l]) := by simp [rowD]
    have h := mem_rows (hm hz)
    rw [← hr] at h
    have hc : cap ((ds.map D.int).length + 1) = true := cap_of (by simp; omega)
    simp only [ev, evs, fin, Out.bind, OutL.bind, Out.bindL, OutL.bindL, Out.get, List.getElem?_cons_zero, List.getElem?_cons_succ, cmpD, c, decide_true, Option.map_some, truth, bltD, List.length_cons, List.length_nil, Nat.zero_add, cap_of (show 1 ≤ 100000 by omega), if_true, hc, h, Bool.not_true]
end
end K02

namespace K02
open PySem PySem.Spec PyProof.Rows L2 Z
section
variable {s : List D} {ns : List Int} {p : Nat} {t : Int}
def L5 : List D := [.non, .int (-3), .int 0, .int 1, .int 1000000000000000000]
theorem L5_at {r : Int} (h0 : 0 ≤ r) (h : r < 5 ∨ r = 0) : ∃ b, atI L5 r = some b ∧ Bd b := by
  obtain ⟨j, rfl⟩ : ∃ j : Nat, r = j := ⟨r.toNat, by omega⟩
  have hj : j < 5 := by omega
  match j, hj with
  | 0, _ => exact ⟨_, rfl, .non⟩
  | 1, _ => exact ⟨_, rfl, .int _⟩
  | 2, _ => exact ⟨_, rfl, .int _⟩
  | 3, _ => exact ⟨_, rfl, .int _⟩
  | 4, _ => exact ⟨_, rfl, .int _⟩
theorem bound_ix {c0 : Sl} {rest : List Sl} {n : Int} {d : D} (hw : Dr.WF n d) (hn : n ≤ 1000) :
    ∃ b d', ev F7 (.ix (.lst [(.c .non), (.neg (.c (.int 3))), (.c (.int 0)), (.c (.int 1)), (.bin .pow (.c (.int 10)) (.c (.int 18)))]) (.call 6 [false, false] [(.v 1), (.c (.int 5))])) false (c0 :: .im (.mref 0) :: rest) [d] = .ok b (c0 :: .im (.mref 0) :: rest) [d'] ∧ Dr.WF (n + 1) d' ∧ Bd b := by
  obtain ⟨r, d', e, hw', h0, h1⟩ := draw7 (m := 5) hw (by omega) (by decide)
  obtain ⟨b, hb, hB⟩ := L5_at h0 h1
  have q : ev F7 (.call 6 [false, false] [(.v 1), (.c (.int 5))]) false (c0 :: .im (.mref 0) :: rest) [d] = .ok (.int r) (c0 :: .im (.mref 0) :: rest) [d'] := ev_call (ds := [.mref 0, .int 5]) rfl rfl e
  have q1 : ev F7 (.lst [(.c .non), (.neg (.c (.int 3))), (.c (.int 0)), (.c (.int 1)), (.bin .pow (.c (.int 10)) (.c (.int 18)))]) false (c0 :: .im (.mref 0) :: rest) [d] = .ok (.lst L5) (c0 :: .im (.mref 0) :: rest) [d] := rfl
  refine ⟨b, d', ?_, hw', hB⟩
  rw [ev.eq_def]
  dsimp only
  rw [q1]
  dsimp only [Out.bind]
  rw [q]
  simp only [Out.bind, ixD, hb, Out.get, fin]
def items (a : Int) : List D := [.int 0, .int 1, .int (-1), .int (-3), .int a, .int (-a), .int 1000000000000000000, .int 1000000000000000001, .bl true, .bl false, .non, .str ⟨#[49]⟩, .tup [.int 1], .lst [.int 0]]
theorem items_th {a : Int} : ∀ d ∈ items a, Th d := by
  intro d hd
  simp only [items, List.mem_cons, List.not_mem_nil, or_false] at hd
  rcases hd with rfl | rfl | rfl | rfl | rfl | rfl | rfl | rfl | rfl | rfl | rfl | rfl | rfl | rfl <;> constructor
def thB : List Stm := match b7[13] with
  | .for _ _ b => b
  | _ => []
theorem g1_ok {d lo hi : D} (hd : Th d) (hl : Bd lo) (hh : Bd hi) (s : List D) : g1 [d, lo, hi] s = .ok (.bl (whW d lo hi)) s := f1_ok hd hl hh s
theorem g2_ok {d : D} (hd : Th d) (s : List D) : g2 [d] s = .ok (.bl (whW d .non .non)) s := f1_ok hd .non .non s
theorem g3_ok {d hi : D} (hd : Th d) (hh : Bd hi) (s : List D) : g3 [d, hi] s = .ok (.bl (whW d .non hi)) s := f1_ok hd .non hh s
theorem g8_ok {d lo hi : D} (hd : Th d) (hl : Bd lo) (hh : Bd hi) (s : List D) : g8 [d, lo, hi] s = .ok (.bl (whW d lo hi)) s := f6_ok hd hl hh s
theorem th_body {c0 c1 c2 c3 c4 c5 c6 c7 c8 c9 c10 x : Sl} {lo hi d : D} (hd : Th d) (hl : Bd lo) (hh : Bd hi) :
    exs F7 thB [c0, c1, c2, c3, c4, c5, c6, c7, c8, c9, c10, .im lo, .im hi, .im d, x] s = .nx [c0, c1, c2, c3, c4, c5, c6, c7, c8, c9, c10, .im lo, .im hi, .im d, .im (.bl (whW d lo hi))] s := by
  have eB : thB = thB[0] :: thB[1] :: thB[2] :: [] := rfl
  have e1 : ex F7 thB[0] [c0, c1, c2, c3, c4, c5, c6, c7, c8, c9, c10, .im lo, .im hi, .im d, x] s = .nx [c0, c1, c2, c3, c4, c5, c6, c7, c8, c9, c10, .im lo, .im hi, .im d, .im (.bl (whW d lo hi))] s :=
    (ex_asg (ev_call (ds := [d, lo, hi]) rfl rfl (g1_ok hd hl hh s)) (by simp)).trans rfl
  have hF2 : F7[2]? = some g2 := rfl
  have hF3 : F7[3]? = some g3 := rfl
  have hF8 : F7[8]? = some g8 := rfl
  have e2 : ex F7 thB[1] [c0, c1, c2, c3, c4, c5, c6, c7, c8, c9, c10, .im lo, .im hi, .im d, .im (.bl (whW d lo hi))] s = .nx [c0, c1, c2, c3, c4, c5, c6, c7, c8, c9, c10, .im lo, .im hi, .im d, .im (.bl (whW d lo hi))] s := by
    refine ex_skip ?_
    simp only [ev, evs, fin, Out.bind, OutL.bind, Out.bindL, OutL.bindL, Out.get, List.getElem?_cons_zero, List.getElem?_cons_succ, isTys, isTy, hF8, g8_ok hd hl hh s, cmpD, eqS, Option.map_some, truth, decide_true, Bool.not_true]
  have e3 : ex F7 thB[2] [c0, c1, c2, c3, c4, c5, c6, c7, c8, c9, c10, .im lo, .im hi, .im d, .im (.bl (whW d lo hi))] s = .nx [c0, c1, c2, c3, c4, c5, c6, c7, c8, c9, c10, .im lo, .im hi, .im d, .im (.bl (whW d lo hi))] s := by
    refine ex_skip ?_
    simp only [ev, evs, fin, Out.bind, OutL.bind, Out.bindL, OutL.bindL, Out.get, List.getElem?_cons_zero, List.getElem?_cons_succ, hF2, hF3, hF8, g8_ok hd .non .non s, g8_ok hd .non hh s, g2_ok hd s, g3_ok hd hh s, cmpD, eqS, Option.map_some, truth, decide_true, Bool.not_true]
  rw [eB, Dr.seq_nx e1, Dr.seq_nx e2, Dr.seq_nx e3]
  rfl
theorem th_loop {c0 c1 c2 c3 c4 c6 c7 c8 c9 c10 x13 x14 : Sl} {lo hi : D} {a : Int} (hl : Bd lo) (hh : Bd hi) :
    ∃ y z, ex F7 b7[13] [c0, c1, c2, c3, c4, .im (.int a), c6, c7, c8, c9, c10, .im lo, .im hi, x13, x14] s = .nx [c0, c1, c2, c3, c4, .im (.int a), c6, c7, c8, c9, c10, .im lo, .im hi, y, z] s := by
  obtain ⟨ρ', s', e, ⟨y, z, h1⟩, h2⟩ := lpF_nx (f := fun x ρ s => match bindT (.nm 13) x ρ with
        | some ρ' => exs F7 thB ρ' s
        | none => .bad) (fun _ ρ s1 => (∃ y z, ρ = [c0, c1, c2, c3, c4, .im (.int a), c6, c7, c8, c9, c10, .im lo, .im hi, y, z]) ∧ s1 = s) (items a) 0 [c0, c1, c2, c3, c4, .im (.int a), c6, c7, c8, c9, c10, .im lo, .im hi, x13, x14] s ⟨⟨_, _, rfl⟩, rfl⟩ (by
      intro j hj ρ s1 hP
      obtain ⟨⟨y, z, rfl⟩, rfl⟩ := hP
      exact ⟨_, _, th_body (c5 := .im (.int a)) (x := z) (items_th _ (List.getElem_mem hj)) hl hh, ⟨_, _, rfl⟩, rfl⟩)
  refine ⟨y, z, ?_⟩
  subst h2
  rw [← h1]
  exact e
theorem law_true (ns : List Int) : ∃ s, f7 [.scr ns] [] = .ok (.bl true) s := by
  have eB : b7 = b7[0] :: b7[1] :: b7[2] :: b7[3] :: b7[4] :: b7[5] :: b7[6] :: b7[7] :: b7[8] :: b7[9] :: b7[10] :: b7[11] :: b7[12] :: b7[13] :: b7[14] :: [] := rfl
  have hF4 : F7[4]? = some g4 := rfl
  have hF6 : F7[6]? = some g6 := rfl
  have hF7 : F7[7]? = some g7 := rfl
  -- the drawer
  have w0 := Dr.WF.new ns
  generalize hd0 : D.lst [.lst (ns.map .int), .int 0, .int 0, .int 1, .int 0] = d0 at w0
  have e0 : ex F7 b7[0] [.im (.scr ns), .un, .un, .un, .un, .un, .un, .un, .un, .un, .un, .un, .un, .un, .un] [] = .nx [.im (.scr ns), .im (.mref 0), .un, .un, .un, .un, .un, .un, .un, .un, .un, .un, .un, .un, .un] [d0] := by
    rw [← hd0]; rfl
  -- the places
  obtain ⟨r1, d1, q1, w1, l1, u1⟩ := draw7 (m := 6) w0 (by decide) (by decide)
  obtain ⟨p, rfl⟩ : ∃ p : Nat, r1 = p := ⟨r1.toNat, by omega⟩
  have hp : p < 6 := by omega
  have e1 : ex F7 b7[1] [.im (.scr ns), .im (.mref 0), .un, .un, .un, .un, .un, .un, .un, .un, .un, .un, .un, .un, .un] [d0] = .nx [.im (.scr ns), .im (.mref 0), .im (.int p), .un, .un, .un, .un, .un, .un, .un, .un, .un, .un, .un, .un] [d1] :=
    (ex_asg (ev_call (ds := [.mref 0, .int 6]) rfl hF6 q1) (by simp)).trans rfl
  -- the total
  have hcap : (capOf p : Int) < 10 ^ 30 := by
    unfold capOf; split <;> decide
  have hcap1 : 1 ≤ capOf p := by
    unfold capOf; split <;> decide
  obtain ⟨r2, d2, q2, w2, l2, u2⟩ := draw7 (m := capOf p) w1 (by decide) hcap
  obtain ⟨t, rfl⟩ : ∃ t : Nat, r2 = t := ⟨r2.toNat, by omega⟩
  have ht : t < capOf p := by omega
  have hf : Fine (t : Int) p := fine hp (by omega) (by omega)
  have e2 : ex F7 b7[2] [.im (.scr ns), .im (.mref 0), .im (.int p), .un, .un, .un, .un, .un, .un, .un, .un, .un, .un, .un, .un] [d1] = .nx [.im (.scr ns), .im (.mref 0), .im (.int p), .im (.int t), .un, .un, .un, .un, .un, .un, .un, .un, .un, .un, .un] [d2] := by
    refine (ex_asg (ev_call (ds := [.mref 0, .int (capOf p)]) (ρ' := [.im (.scr ns), .im (.mref 0), .im (.int p), .un, .un, .un, .un, .un, .un, .un, .un, .un, .un, .un, .un]) (s1 := [d1]) ?_ hF6 q2) (by simp)).trans rfl
    have q := cap_ix (s := [d1]) (ns := ns) hp (r3 := [.un, .un, .un, .un, .un, .un, .un, .un, .un, .un, .un, .un])
    rw [evs.eq_def]
    dsimp only
    rw [show ev F7 (.v 1) false [.im (.scr ns), .im (.mref 0), .im (.int p), .un, .un, .un, .un, .un, .un, .un, .un, .un, .un, .un, .un] [d1] = .ok (.mref 0) [.im (.scr ns), .im (.mref 0), .im (.int p), .un, .un, .un, .un, .un, .un, .un, .un, .un, .un, .un, .un] [d1] from rfl]
    dsimp only [Out.bindL]
    rw [evs.eq_def]
    dsimp only
    rw [q]
    rfl
  -- the rows
  have q3 : g4 [.int (t : Int), .int (p : Int)] [d2] = .ok (.tup ((rows t p).map rowD)) [d2] := comps_ok hf (by omega) hp
  have e3 : ex F7 b7[3] [.im (.scr ns), .im (.mref 0), .im (.int p), .im (.int t), .un, .un, .un, .un, .un, .un, .un, .un, .un, .un, .un] [d2] = .nx [.im (.scr ns), .im (.mref 0), .im (.int p), .im (.int t), .im (.tup ((rows t p).map rowD)), .un, .un, .un, .un, .un, .un, .un, .un, .un, .un] [d2] :=
    (ex_asg (ev_call (ds := [.int (t : Int), .int (p : Int)]) rfl hF4 q3) (by simp)).trans rfl
  have e4 : ex F7 b7[4] [.im (.scr ns), .im (.mref 0), .im (.int p), .im (.int t), .im (.tup ((rows t p).map rowD)), .un, .un, .un, .un, .un, .un, .un, .un, .un, .un] [d2] = .nx [.im (.scr ns), .im (.mref 0), .im (.int p), .im (.int t), .im (.tup ((rows t p).map rowD)), .un, .un, .un, .un, .un, .un, .un, .un, .un, .un] [d2] := by
    refine ex_skip ?_
    have q4 : g7 [.int (t : Int), .int (p : Int)] [d2] = .ok (.int (waysN t p)) [d2] := ways_ok p t hp ht [d2]
    simp only [ev, evs, fin, Out.bind, OutL.bind, Out.bindL, OutL.bindL, Out.get, List.getElem?_cons_zero, List.getElem?_cons_succ, isTys, isTy, Option.map_some, truth, Bool.not_true, bltD, List.length_map, hF7, q4, cmpD, eqS, hf.ways, decide_true]
  obtain ⟨x5, x6, e5⟩ := row_loop (s := [d2]) (ns := ns) hf (x5 := .un) (x6 := .un) (x7 := .un) (rest := [.un, .un, .un, .un, .un, .un, .un])
  have e6 : ex F7 b7[6] [.im (.scr ns), .im (.mref 0), .im (.int p), .im (.int t), .im (.tup ((rows t p).map rowD)), x5, x6, .un, .un, .un, .un, .un, .un, .un, .un] [d2] = .nx [.im (.scr ns), .im (.mref 0), .im (.int p), .im (.int t), .im (.tup ((rows t p).map rowD)), x5, x6, .un, .im (.int t), .un, .un, .un, .un, .un, .un] [d2] := rfl
  have e7 : ex F7 b7[7] [.im (.scr ns), .im (.mref 0), .im (.int p), .im (.int t), .im (.tup ((rows t p).map rowD)), x5, x6, .un, .im (.int t), .un, .un, .un, .un, .un, .un] [d2] = .nx [.im (.scr ns), .im (.mref 0), .im (.int p), .im (.int t), .im (.tup ((rows t p).map rowD)), x5, x6, .un, .im (.int t), .ow (.lst []), .un, .un, .un, .un, .un] [d2] := rfl
  obtain ⟨ds, l, d3, x10, e8, w3, hm, hds⟩ := draw_loop (ns := ns) hf (by omega) hp (c4 := .im (.tup ((rows t p).map rowD))) (c5 := x5) (c6 := x6) (c7 := .un) (c10 := .un) (rest := [.un, .un, .un, .un]) w2 (by decide)
  have e9 := not_in (s := [d3]) (c0 := .im (.scr ns)) (c1 := .im (.mref 0)) (c3 := .im (.int t)) (c5 := x5) (c6 := x6) (c7 := .un) (x10 := x10) (rest := [.un, .un, .un, .un]) hm hds
  obtain ⟨lo, d4, q10, w4, B1⟩ := bound_ix (c0 := .im (.scr ns)) (rest := [.im (.int p), .im (.int t), .im (.tup ((rows t p).map rowD)), x5, x6, .un, .im (.int l), .ow (.lst (ds.map .int)), x10, .un, .un, .un, .un]) w3 (by decide)
  have e10 : ex F7 b7[10] [.im (.scr ns), .im (.mref 0), .im (.int p), .im (.int t), .im (.tup ((rows t p).map rowD)), x5, x6, .un, .im (.int l), .ow (.lst (ds.map .int)), x10, .un, .un, .un, .un] [d3] = .nx [.im (.scr ns), .im (.mref 0), .im (.int p), .im (.int t), .im (.tup ((rows t p).map rowD)), x5, x6, .un, .im (.int l), .ow (.lst (ds.map .int)), x10, .im lo, .un, .un, .un] [d4] :=
    (ex_asg q10 (by simp)).trans rfl
  obtain ⟨hi, d5, q11, w5, B2⟩ := bound_ix (c0 := .im (.scr ns)) (rest := [.im (.int p), .im (.int t), .im (.tup ((rows t p).map rowD)), x5, x6, .un, .im (.int l), .ow (.lst (ds.map .int)), x10, .im lo, .un, .un, .un]) w4 (by decide)
  have e11 : ex F7 b7[11] [.im (.scr ns), .im (.mref 0), .im (.int p), .im (.int t), .im (.tup ((rows t p).map rowD)), x5, x6, .un, .im (.int l), .ow (.lst (ds.map .int)), x10, .im lo, .un, .un, .un] [d4] = .nx [.im (.scr ns), .im (.mref 0), .im (.int p), .im (.int t), .im (.tup ((rows t p).map rowD)), x5, x6, .un, .im (.int l), .ow (.lst (ds.map .int)), x10, .im lo, .im hi, .un, .un] [d5] :=
    (ex_asg q11 (by simp)).trans rfl
  obtain ⟨a, d6, q12, w6, _, _⟩ := draw7 (m := 10000000000000000000) w5 (by decide) (by decide)
  have e12 : ex F7 b7[12] [.im (.scr ns), .im (.mref 0), .im (.int p), .im (.int t), .im (.tup ((rows t p).map rowD)), x5, x6, .un, .im (.int l), .ow (.lst (ds.map .int)), x10, .im lo, .im hi, .un, .un] [d5] = .nx [.im (.scr ns), .im (.mref 0), .im (.int p), .im (.int t), .im (.tup ((rows t p).map rowD)), .im (.int a), x6, .un, .im (.int l), .ow (.lst (ds.map .int)), x10, .im lo, .im hi, .un, .un] [d6] :=
    (ex_asg (ev_call (ds := [.mref 0, .int 10000000000000000000]) rfl hF6 q12) (by simp)).trans rfl
  obtain ⟨y, z, e13⟩ := th_loop (s := [d6]) (c0 := .im (.scr ns)) (c1 := .im (.mref 0)) (c2 := .im (.int p)) (c3 := .im (.int t)) (c4 := .im (.tup ((rows t p).map rowD))) (c6 := x6) (c7 := .un) (c8 := .im (.int l)) (c9 := .ow (.lst (ds.map .int))) (c10 := x10) (x13 := .un) (x14 := .un) (a := a) B1 B2
  refine ⟨[d6], run_rt ?_⟩
  show exs F7 b7 [.im (.scr ns), .un, .un, .un, .un, .un, .un, .un, .un, .un, .un, .un, .un, .un, .un] [] = _
  rw [eB, Dr.seq_nx e0, Dr.seq_nx e1, Dr.seq_nx e2, Dr.seq_nx e3, Dr.seq_nx e4, Dr.seq_nx e5, Dr.seq_nx e6, Dr.seq_nx e7, Dr.seq_nx e8, Dr.seq_nx e9, Dr.seq_nx e10, Dr.seq_nx e11, Dr.seq_nx e12, Dr.seq_nx e13]
  rfl
end
end K02


open PySem PySem.W PyProof.Rows
set_option maxHeartbeats 0 in
theorem PySem.Challenge.cw_headsheard_k02_all_compositions_ascendin_holds : PySem.Challenge.rw_headsheard_k02_all_compositions_ascendin.Holds := by
  w_on; o_law; k_head; (case hw => w_witness2)
  k_fill
  refine L2.walk_of (l := PySem.Challenge.rw_headsheard_k02_all_compositions_ascendin) (n := 63) (k := 8) (x := "_law_script") (CX := fun w => L2.CX PySem.Challenge.pw_headsheard_k02_all_compositions_ascendin w) (sp := fun w => Z.spD ⟨_, []⟩ [false] 1 K02.f7) rfl (by decide) rfl ⟨rfl, by decide, by decide⟩ (fun w h Y => PySem.W.kIn_of Y) ?F (fun w H a ns hl _ hS => Z.law_sp (fun ns _ => K02.law_true ns) H a ns hl hS) (fun w H s e s' ⟨_, _, _, _, _, _, _, _, _, _, _, _, h⟩ => h)
  case F =>
    intro w mg fa h KX G hmg
    refine' K02.all_mk KX G hmg (a0 := ?a0) (l0 := ?l0) (c0 := ?c0) (k0 := ?k0) (a1 := ?a1) (l1 := ?l1) (c1 := ?c1) (k1 := ?k1) (d1 := ?d1) (a2 := ?a2) (l2 := ?l2) (c2 := ?c2) (k2 := ?k2) (a3 := ?a3) (l3 := ?l3) (c3 := ?c3) (k3 := ?k3) (a4 := ?a4) (l4 := ?l4) (c4 := ?c4) (k4 := ?k4) (a5 := ?a5) (l5 := ?l5) (c5 := ?c5) (k5 := ?k5) (a6 := ?a6) (l6 := ?l6) (c6 := ?c6) (k6 := ?k6) (a7 := ?a7) (l7 := ?l7) (c7 := ?c7) (k7 := ?k7) (z_bool := ?z_bool) (z_int := ?z_int) (z_isinstance := ?z_isinstance) (z_len := ?z_len) (z_list := ?z_list) (z_range := ?z_range) (z_sum := ?z_sum) (z_tuple := ?z_tuple)
    (case a0 => k_is)
    (case l0 => k_is)
    (case c0 => k_is)
    (case k0 => k_is)
    (case a1 => k_is)
    (case l1 => k_is)
    (case c1 => k_is)
    (case k1 => k_is)
    (case d1 => k_is)
    (case a2 => k_is)
    (case l2 => k_is)
    (case c2 => k_is)
    (case k2 => k_is)
    (case a3 => k_is)
    (case l3 => k_is)
    (case c3 => k_is)
    (case k3 => k_is)
    (case a4 => k_is)
    (case l4 => k_is)
    (case c4 => k_is)
    (case k4 => k_is)
    (case a5 => k_is)
    (case l5 => k_is)
    (case c5 => k_is)
    (case k5 => k_is)
    (case a6 => k_is)
    (case l6 => k_is)
    (case c6 => k_is)
    (case k6 => k_is)
    (case a7 => k_is)
    (case l7 => k_is)
    (case c7 => k_is)
    (case k7 => k_is)
    (case z_bool => k_is)
    (case z_int => k_is)
    (case z_isinstance => k_is)
    (case z_len => k_is)
    (case z_list => k_is)
    (case z_range => k_is)
    (case z_sum => k_is)
    (case z_tuple => k_is)


/- Layer 7 in plain words: the rounds of LogCrashes. -/
import Derived.Test.YtmcjkaoddjakhaaLogEm
namespace Go.Proofs.Ytmcjkaoddjakhaa.Lm

/-- a log in use on 38 frames, no limit -/
structure Cg (C E : Nat) (d : Sm.Dv) (L : Lg) : Prop where
  v : Lv 38 d L
  k : Lok L d
  l : d.left = -1
  c0 : 0 ≤ d.calls
  c1 : d.calls ≤ C
  e : L.h.epoch ≤ E
  n : L.h.n ≤ E
/-- behind a crash: what stands on the sectors -/
structure Md (C E : Nat) (d : Sm.Dv) (h : Hd) (l : List (List UInt8)) (a : Nat) : Prop where
  ok : Sm.Ok d
  ws : d.ws = []
  lf : d.left = -1
  rp : Rp 38 d.kept h l a
  c0 : 0 ≤ d.calls
  c1 : d.calls ≤ C
  e : h.epoch ≤ E
  n : h.n ≤ E
theorem Cg.md {C E : Nat} {d : Sm.Dv} {L : Lg} (h : Cg C E d L) : Md C E d L.h L.l L.at_ := ⟨h.v.ok, h.v.ws, h.l, h.v.rp, h.c0, h.c1, h.e, h.n⟩
theorem Cg.le {C E C' E' : Nat} {d : Sm.Dv} {L : Lg} (h : Cg C E d L) (hc : C ≤ C') (he : E ≤ E') : Cg C' E' d L :=
  ⟨h.v, h.k, h.l, h.c0, by have := h.c1; omega, Nat.le_trans h.e he, Nat.le_trans h.n he⟩
theorem Md.le {C E C' E' : Nat} {d : Sm.Dv} {h : Hd} {l : List (List UInt8)} {a : Nat} (x : Md C E d h l a) (hc : C ≤ C') (he : E ≤ E') : Md C' E' d h l a :=
  ⟨x.ok, x.ws, x.lf, x.rp, x.c0, by have := x.c1; omega, Nat.le_trans x.e he, Nat.le_trans x.n he⟩
theorem lv_bound {d : Sm.Dv} {L : Lg} (h : Lv 38 d L) (x : Int) : Lv 38 (Sm.bound d x) L := ⟨Sm.ok_bound h.ok x, h.ws, h.rp, h.frm, h.dn, h.e1, h.hi⟩
theorem lok_bound {d : Sm.Dv} {L : Lg} (h : Lok L d) (x : Int) : Lok L (Sm.bound d x) := h.dev rfl
theorem Cg.dlb {C E : Nat} {d : Sm.Dv} {L : Lg} (h : Cg C E d L) (hC : C ≤ 500000) (x : Int) (hx : x ≤ 9223372036854775807) : Dl (Sm.bound d x) :=
  ⟨by show d.ws.length ≤ 500; rw [h.v.ws]; exact Nat.zero_le _, h.c0, by have := h.c1; show d.calls ≤ 500000; omega, by show -1 ≤ max x 0; omega, by show max x 0 ≤ _; omega, by have := h.v.rp.len; show d.kept.length ≤ 200; omega⟩
theorem Md.dl {C E : Nat} {d : Sm.Dv} {h : Hd} {l : List (List UInt8)} {a : Nat} (x : Md C E d h l a) (hC : C ≤ 500000) : Dl d :=
  ⟨by rw [x.ws]; exact Nat.zero_le _, x.c0, by have := x.c1; omega, by rw [x.lf]; decide, by rw [x.lf]; decide, by have := x.rp.len; omega⟩
theorem Md.dlb {C E : Nat} {d : Sm.Dv} {h : Hd} {l : List (List UInt8)} {a : Nat} (x : Md C E d h l a) (hC : C ≤ 500000) (y : Int) (hy : y ≤ 9223372036854775807) : Dl (Sm.bound d y) :=
  ⟨by show d.ws.length ≤ 500; rw [x.ws]; exact Nat.zero_le _, x.c0, by have := x.c1; show d.calls ≤ 500000; omega, by show -1 ≤ max y 0; omega, by show max y 0 ≤ _; omega, by have := x.rp.len; show d.kept.length ≤ 200; omega⟩
theorem crash_nil {d : Sm.Dv} (h : d.ws = []) (ts : List Int) : (Sm.crash d ts).kept = d.kept := by show Sm.torn d.kept d.ws ts = d.kept; rw [h]; rfl
theorem cg_append {C E : Nat} {d : Sm.Dv} {L : Lg} (h : Cg C E d L) (hE : E ≤ 200) (x : Int) (hx : x ≤ 9223372036854775807) (b : List UInt8) :
    ∃ c L' d', append L (Sm.bound d x) b = (L', d', c) ∧ d'.ws.length ≤ 100 ∧ ((c == 0) = true ∨ (c == 0) = false) ∧ ∀ ts, ∃ h1 l1 a1, Md (C + 39) E (Sm.crash d' ts) h1 l1 a1 ∧ h1.body = L.h.body ∧ (((c == 0) = true ∧ l1 = L.l ++ [b]) ∨ ((c == 0) = false ∧ (l1 = L.l ∨ l1 = L.l ++ [b]))) := by
  have hg := append_grow (b := b) (lok_bound h.k x) (Sm.ok_bound h.v.ok x) (by show -1 ≤ max x 0; omega) (by show max x 0 ≤ _; omega)
  have hgw : (append L (Sm.bound d x) b).2.1.ws.length ≤ 0 + (L.frames + 1) := by
    have := hg.1.w
    have hw : (Sm.bound d x).ws.length = 0 := by show d.ws.length = 0; rw [h.v.ws]; rfl
    omega
  rw [h.v.frm] at hg hgw
  have hc0 : d.calls ≤ (append L (Sm.bound d x) b).2.1.calls := hg.1.c0
  have hc1 : (append L (Sm.bound d x) b).2.1.calls ≤ d.calls + (38 + 1 : Nat) := hg.1.c1
  have hmd : ∀ ts h1 l1 a1, h1.epoch ≤ E → h1.n ≤ E → Rp 38 (Sm.crash (append L (Sm.bound d x) b).2.1 ts).kept h1 l1 a1 → Md (C + 39) E (Sm.crash (append L (Sm.bound d x) b).2.1 ts) h1 l1 a1 := fun ts h1 l1 a1 he hn hr =>
    ⟨Sm.ok_crash hg.1.ok ts, rfl, rfl, hr, by have := h.c0; show 0 ≤ (append L (Sm.bound d x) b).2.1.calls; omega, by have := h.c1; show (append L (Sm.bound d x) b).2.1.calls ≤ ((C + 39 : Nat) : Int); omega, he, hn⟩
  rcases app_cases (lv_bound h.v x) (by have := h.e; omega) (by omega) b with ⟨c, e, h1⟩ | ⟨_, h2, h3⟩
  · have hcz : (c == 0) = false := by rcases h1 with ⟨rfl, _⟩ | ⟨rfl, _⟩ <;> rfl
    refine ⟨c, _, _, e, by have h9 := hgw; rw [e] at h9; exact Nat.le_trans h9 (by decide), .inr hcz, fun ts => ⟨L.h, L.l, L.at_, ?_, rfl, .inr ⟨hcz, .inl rfl⟩⟩⟩
    have := hmd ts L.h L.l L.at_ h.e h.n (by rw [e, crash_nil (show (Sm.bound d x).ws = [] from h.v.ws)]; exact h.v.rp)
    rw [e] at this
    exact this
  · rcases h3 with ⟨e, h4, h5, h6⟩ | ⟨e, _, _, h5⟩
    · refine ⟨0, _, _, Prod.ext rfl (Prod.ext rfl e), Nat.le_trans hgw (by decide), .inl rfl, fun ts => ⟨L.h, L.l ++ [b], L.at_ + (parts b).length, hmd ts _ _ _ h.e h.n ?_, rfl, .inl ⟨rfl, rfl⟩⟩⟩
      rw [crash_nil h5.ws]
      have := h5.rp
      rw [h4] at this
      exact this
    · refine ⟨60, _, _, Prod.ext rfl (Prod.ext rfl e), Nat.le_trans hgw (by decide), .inr rfl, fun ts => ?_⟩
      rcases h5 ts with h5 | h5
      · exact ⟨_, _, _, hmd ts _ _ _ h.e h.n h5, rfl, .inr ⟨rfl, .inl rfl⟩⟩
      · exact ⟨_, _, _, hmd ts _ _ _ h.e h.n h5, rfl, .inr ⟨rfl, .inr rfl⟩⟩
theorem cg_reset {C E : Nat} {d : Sm.Dv} {L : Lg} (h : Cg C E d L) (hE : E ≤ 200) (x : Int) (hx : x ≤ 9223372036854775807) (b : List UInt8) :
    ∃ c L' d', reset L (Sm.bound d x) b = (L', d', c) ∧ d'.ws.length ≤ 100 ∧ ((c == 0) = true ∨ (c == 0) = false) ∧ ∀ ts, ∃ h1 l1 a1, Md (C + 39) (E + 1) (Sm.crash d' ts) h1 l1 a1 ∧ (((c == 0) = true ∧ l1 = [] ∧ h1.body = b) ∨ ((c == 0) = false ∧ ((l1 = L.l ∧ h1.body = L.h.body) ∨ (l1 = [] ∧ h1.body = b)))) := by
  have hg := reset_grow (b := b) (lok_bound h.k x) (Sm.ok_bound h.v.ok x) (by show -1 ≤ max x 0; omega) (by show max x 0 ≤ _; omega)
  have hgw : (reset L (Sm.bound d x) b).2.1.ws.length ≤ 0 + 2 := by
    have := hg.1.w
    have hw : (Sm.bound d x).ws.length = 0 := by show d.ws.length = 0; rw [h.v.ws]; rfl
    omega
  have hc0 : d.calls ≤ (reset L (Sm.bound d x) b).2.1.calls := hg.1.c0
  have hc1 : (reset L (Sm.bound d x) b).2.1.calls ≤ d.calls + (2 : Nat) := hg.1.c1
  have hmd : ∀ ts h1 l1 a1, h1.epoch ≤ E + 1 → h1.n ≤ E + 1 → Rp 38 (Sm.crash (reset L (Sm.bound d x) b).2.1 ts).kept h1 l1 a1 → Md (C + 39) (E + 1) (Sm.crash (reset L (Sm.bound d x) b).2.1 ts) h1 l1 a1 := fun ts h1 l1 a1 he hn hr =>
    ⟨Sm.ok_crash hg.1.ok ts, rfl, rfl, hr, by have := h.c0; show 0 ≤ (reset L (Sm.bound d x) b).2.1.calls; omega, by have := h.c1; show (reset L (Sm.bound d x) b).2.1.calls ≤ ((C + 39 : Nat) : Int); omega, he, hn⟩
  have he1 := h.e
  have hn1 := h.n
  rcases reset_cases (lv_bound h.v x) (by omega) (by omega) b with ⟨_, e⟩ | ⟨_, ⟨e, h4, h5, h6⟩ | ⟨e, _, h5⟩⟩
  · refine ⟨2, _, _, e, by have h9 := hgw; rw [e] at h9; exact Nat.le_trans h9 (by decide), .inr rfl, fun ts => ⟨L.h, L.l, L.at_, ?_, .inr ⟨rfl, .inl ⟨rfl, rfl⟩⟩⟩⟩
    have := hmd ts L.h L.l L.at_ (by omega) (by omega) (by rw [e, crash_nil (show (Sm.bound d x).ws = [] from h.v.ws)]; exact h.v.rp)
    rw [e] at this
    exact this
  · refine ⟨0, _, _, Prod.ext rfl (Prod.ext rfl e), Nat.le_trans hgw (by decide), .inl rfl, fun ts => ⟨fresh L b, [], 0, hmd ts _ _ _ (by show L.h.epoch + 1 ≤ _; omega) (by show L.h.n + 1 ≤ _; omega) ?_, .inl ⟨rfl, rfl, rfl⟩⟩⟩
    rw [crash_nil h5.ws]
    have := h5.rp
    rw [h4] at this
    exact this
  · refine ⟨60, _, _, Prod.ext rfl (Prod.ext rfl e), Nat.le_trans hgw (by decide), .inr rfl, fun ts => ?_⟩
    rcases h5 ts with h5 | h5
    · exact ⟨_, _, _, hmd ts _ _ _ (by omega) (by omega) h5, .inr ⟨rfl, .inl ⟨rfl, rfl⟩⟩⟩
    · exact ⟨_, _, _, hmd ts _ _ _ (by show L.h.epoch + 1 ≤ _; omega) (by show L.h.n + 1 ≤ _; omega) h5, .inr ⟨rfl, .inr ⟨rfl, rfl⟩⟩⟩
theorem md_lim {C E : Nat} {d : Sm.Dv} {h : Hd} {l : List (List UInt8)} {a : Nat} (x : Md C E d h l a) (hE : E ≤ 200) (y : Int) (hy : y ≤ 9223372036854775807) :
    ∃ o c d', open_ (Sm.bound d y) 38 = (o, d', c) ∧ d'.ws.length ≤ 100 ∧ ((o = none) ∨ (∃ L, o = some L ∧ c = 0)) ∧ ∀ ts, ∃ h2, Md (C + 2) (E + 1) (Sm.crash d' ts) h2 l a ∧ h2.body = h.body := by
  have hg := open_grow (d := Sm.bound d y) 38 (Sm.ok_bound x.ok y) (by show -1 ≤ max y 0; omega) (by show max y 0 ≤ _; omega)
  have hgw : (open_ (Sm.bound d y) 38).2.1.ws.length ≤ 0 + 2 := by
    have := hg.1.w
    have hw : (Sm.bound d y).ws.length = 0 := by show d.ws.length = 0; rw [x.ws]; rfl
    omega
  have hc0 : d.calls ≤ (open_ (Sm.bound d y) 38).2.1.calls := hg.1.c0
  have hc1 : (open_ (Sm.bound d y) 38).2.1.calls ≤ d.calls + (2 : Nat) := hg.1.c1
  have he1 := x.e
  have hn1 := x.n
  have hmd : ∀ ts h2, h2.epoch ≤ E + 1 → h2.n ≤ E + 1 → Rp 38 (Sm.crash (open_ (Sm.bound d y) 38).2.1 ts).kept h2 l a → Md (C + 2) (E + 1) (Sm.crash (open_ (Sm.bound d y) 38).2.1 ts) h2 l a := fun ts h2 he hn hr =>
    ⟨Sm.ok_crash hg.1.ok ts, rfl, rfl, hr, by have := x.c0; show 0 ≤ (open_ (Sm.bound d y) 38).2.1.calls; omega, by have := x.c1; show (open_ (Sm.bound d y) 38).2.1.calls ≤ ((C + 2 : Nat) : Int); omega, he, hn⟩
  have hcs := open_cases (fr := 38) (d := Sm.bound d y) x.rp (Sm.ok_bound x.ok y) x.ws (by omega) (by omega) (by omega)
  rw [show ((38 : Nat) : Int) = (38 : Int) from rfl] at hcs
  rcases hcs with ⟨e, h1, h2⟩ | ⟨e, h1, h2⟩
  · refine ⟨_, _, _, e, Nat.le_trans hgw (by decide), .inr ⟨_, rfl, rfl⟩, fun ts => ⟨up h, hmd ts _ (by show h.epoch + 1 ≤ _; omega) (by show h.n + 1 ≤ _; omega) ?_, rfl⟩⟩
    rw [crash_nil h1.ws]; exact h1.rp
  · refine ⟨_, _, _, e, Nat.le_trans hgw (by decide), .inl rfl, fun ts => ?_⟩
    rcases h2 ts with h2 | h2
    · exact ⟨h, hmd ts _ (by omega) (by omega) h2, rfl⟩
    · exact ⟨up h, hmd ts _ (by show h.epoch + 1 ≤ _; omega) (by show h.n + 1 ≤ _; omega) h2, rfl⟩
theorem md_open {C E : Nat} {d : Sm.Dv} {h : Hd} {l : List (List UInt8)} {a : Nat} (x : Md C E d h l a) (hE : E ≤ 200) :
    ∃ L' d', open_ d 38 = (some L', d', 0) ∧ Cg (C + 2) (E + 1) d' L' ∧ L'.l = l ∧ L'.h.body = h.body := by
  have hg := open_grow (d := d) 38 x.ok (by rw [x.lf]; decide) (by rw [x.lf]; decide)
  have he1 := x.e
  have hn1 := x.n
  have hcs := open_cases x.rp x.ok x.ws (by omega) (by omega) (by omega)
  rw [show ((38 : Nat) : Int) = (38 : Int) from rfl] at hcs
  rcases hcs with ⟨e, h1, h2⟩ | ⟨_, h1, _⟩
  · refine ⟨_, _, e, ⟨h1, (hg.2 _ (by rw [e])).1, h2 x.lf, ?_, ?_, by show h.epoch + 1 ≤ _; omega, by show h.n + 1 ≤ _; omega⟩, rfl, rfl⟩
    · have h7 := hg.1.c0
      have := x.c0
      show 0 ≤ (open_ d 38).2.1.calls
      omega
    · have h7 := hg.1.c1
      have := x.c1
      show (open_ d 38).2.1.calls ≤ ((C + 2 : Nat) : Int)
      omega
  · exact absurd x.lf h1
theorem md_new : Md 0 0 (Sm.new 40) ⟨0, 0, 0, []⟩ [] 0 := ⟨Sm.ok_new _, rfl, rfl, rp_new 38, Int.le_refl _, Int.le_refl _, Nat.le_refl _, Nat.le_refl _⟩
end Go.Proofs.Ytmcjkaoddjakhaa.Lm

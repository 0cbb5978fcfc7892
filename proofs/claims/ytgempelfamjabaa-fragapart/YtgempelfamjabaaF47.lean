
/-
  FragApart: the walk.
-/
import Derived.Test.YtgempelfamjabaaF46
namespace Go.Proofs.Ytgempelfamjabaa
open Go.RowKit Go.Shelf

/-- a list of flags -/
def IsT (W : World) (v : Value) (T : List Bool) : Prop := ∃ a c, v = .slice a T.length c ∧ (0 < T.length → ∃ g off, a = some ⟨g, off, none⟩ ∧ g < W.heap.size ∧ ∀ i t, T[i]? = some t → W.cell? ⟨g, off + i, none⟩ = some (.bool t))
def noW (p : Pk) : Pk := { p with whole := false }
theorem exec_add100 {o : Oper} {w : World} {ev : Operand → Value} {k : Nat} (x : Operand) (t : TypeId) (ho : o.op = .binOp .add 3 (.const (.int .i64 100)) x t) (hx : ev x = .int .i64 (k : Int)) (hk : k ≤ 1000) (hc : ∀ v, ev (.const v) = v := by intro _; rfl) : (execOp ev o).run Try.prog w = .ok (.value (.int .i64 (100 + (k : Int)))) w := by
  have e : IntKind.i64.wrap (100 + (k : Int)) = 100 + (k : Int) := i64_wrap _ (by omega) (by omega)
  unfold execOp
  simp [ho, hx, hc, go_sem]
  exact e
set_option maxRecDepth 100000 in
set_option maxHeartbeats 32000000 in
theorem apart_walk {P1 P2 P3 P4 : Nat → Prop} (p : Pk) (pv dv : Value) (D : List Int) (o : Pk) (ov ev : Value) (E : List Int) (tv : Value) (T : List Bool) (w : World)
    (ho : CB P1 w pv p.opts) (hol : p.opts.length ≤ 140737488355328) (hob : Bytes p.opts) (hd : CB P2 w dv D) (hdl : (D.length : Int) ≤ 9223372036854775807)
    (hu : CB P3 w ov o.opts) (hul : o.opts.length ≤ 140737488355328) (hub : Bytes o.opts) (he : CB P4 w ev E) (hel : (E.length : Int) ≤ 9223372036854775807) (ht : IsT w tv T) (htl : (T.length : Int) ≤ 9223372036854775807) :
    Calls Try.prog 7 #[.agg (p.cells pv).toArray, dv, .agg (o.cells ov).toArray, ev, tv] w fun e w' => e = .returned (.bool true) ∧ Below w.heap.size w w' := by
  rw [show (Value.agg (p.cells pv).toArray) = .agg #[.int .u8 p.src.a, .int .u8 p.src.b, .int .u8 p.src.c, .int .u8 p.src.d, .int .u8 p.dst.a, .int .u8 p.dst.b, .int .u8 p.dst.c, .int .u8 p.dst.d, .int .i64 p.proto, .int .i64 p.ttl, .int .i64 p.id, .int .i64 p.tos, .bool p.whole, .bool p.more, .int .i64 p.off, pv] from rfl, show (Value.agg (o.cells ov).toArray) = .agg #[.int .u8 o.src.a, .int .u8 o.src.b, .int .u8 o.src.c, .int .u8 o.src.d, .int .u8 o.dst.a, .int .u8 o.dst.b, .int .u8 o.dst.c, .int .u8 o.dst.d, .int .i64 o.proto, .int .i64 o.ttl, .int .i64 o.id, .int .i64 o.tos, .bool o.whole, .bool o.more, .int .i64 o.off, ov] from rfl]
  obtain ⟨wa, s5, hs5, hwa, ca, fa, ba, la⟩ := boxP w p pv
  obtain ⟨wb, s9, hs9, hwb, cb, fb, bb, lb⟩ := boxP wa o ov
  obtain ⟨da, dc, rfl⟩ := hd.shape
  obtain ⟨ea, ec, rfl⟩ := he.shape
  obtain ⟨ta, tc, rfl, ht⟩ := ht
  obtain ⟨dn, hdn⟩ : ∃ n, n = D.length := ⟨_, rfl⟩
  obtain ⟨en, hen⟩ : ∃ n, n = E.length := ⟨_, rfl⟩
  obtain ⟨tn, htn⟩ : ∃ n, n = T.length := ⟨_, rfl⟩
  have c5 := ca.later la bb
  have f5 : ∀ y, wb.frozen? ⟨s5, y, none⟩ = false := fun y => (bb.frozen (p := ⟨s5, y, none⟩) la).trans (fa y)
  have l5 : s5 < wb.heap.size := Nat.lt_of_lt_of_le la bb.size
  have hne : s5 ≠ s9 := by omega
  have BWB := later ba bb
  have AW := hide (awake_any wb)
  have C5 := hide c5
  have C9 := hide cb
  have F5 := hide f5
  have F9 := hide fb
  have L5 := hide l5
  have L9 := hide lb
  have HBWB := hide BWB
  have HO := hide ((ho.own (P' := fun g => g < s5) (fun g hg _ => by omega)))
  have HU := hide ((hu.own (P' := fun g => g < s5) (fun g hg _ => by omega)))
  have HD := hide ((hd.own (P' := fun g => g < s5) (fun g hg _ => by omega)))
  have HE := hide ((he.own (P' := fun g => g < s5) (fun g hg _ => by omega)))
  rw [← hdn] at HD hdl ⊢
  rw [← hen] at HE hel ⊢
  rw [← htn] at ht htl ⊢
  have HT := hide ht
  have HNE := hide hne
  have HOL := hide hol
  have HUL := hide hul
  have HOB := hide hob
  have HUB := hide hub
  have HDN := hide hdn
  have HEN := hide hen
  have HTN := hide htn
  have HS5 := hide hs5
  have S59 : Hid (s5 < s9) := by unfold Hid; omega
  have hs5' := hs5.symm
  have hs9' := hs9.symm
  have hwa' := hwa.symm
  have hwb' := hwb.symm
  clear ho hu hd he ht hol hul hob hub hdn hen htn hs5 hs9 hwa hwb ca fa ba la cb fb bb lb c5 f5 l5 hne BWB
  go_enter Try.func7, Try.ntmps7
  go_wp2_with fail
  clear hs5' hs9' hwa' hwb'
  refine AW.out.mono ?_
  rintro _ w3 ⟨rfl, b3⟩
  have B3 := hide b3
  clear AW b3
  have BW3 := hide (later HBWB.out B3.out)
  -- the stores
  have C53 := C5.out.later L5.out B3.out
  have C93 := C9.out.later L9.out B3.out
  have k512 : w3.cell? ⟨s5, 12, none⟩ = some (.bool p.whole) := C53 12 _ rfl
  have g512 : w3.frozen? ⟨s5, 12, none⟩ = false := (B3.out.frozen (p := ⟨s5, 12, none⟩) L5.out).trans (F5.out 12)
  obtain ⟨w4, hw4⟩ : ∃ x, x = w3.setCell ⟨s5, 12, none⟩ (.bool false) := ⟨_, rfl⟩
  have bw4 : But (Only s5) w3 w4 := by rw [hw4]; exact (But.refl (Only s5) w3).cellb (b := s5) rfl 12 _
  have L93 : s9 < w3.heap.size := Nat.lt_of_lt_of_le L9.out B3.out.size
  have L53 : s5 < w3.heap.size := Nat.lt_of_lt_of_le L5.out B3.out.size
  have n95 : ¬ Only s5 s9 := fun e => HNE.out (by have e : s9 = s5 := e; omega)
  have C94 := C93.but L93 bw4 n95
  have k912 : w4.cell? ⟨s9, 12, none⟩ = some (.bool o.whole) := C94 12 _ rfl
  have g912 : w4.frozen? ⟨s9, 12, none⟩ = false := (bw4.frozen (p := ⟨s9, 12, none⟩) L93 n95).trans ((B3.out.frozen (p := ⟨s9, 12, none⟩) L9.out).trans (F9.out 12))
  obtain ⟨w0, hw0⟩ : ∃ x, x = w4.setCell ⟨s9, 12, none⟩ (.bool false) := ⟨_, rfl⟩
  have bw0 : But (Only s9) w4 w0 := by rw [hw0]; exact (But.refl (Only s9) w4).cellb (b := s9) rfl 12 _
  have C54 : CellsAt w4 s5 0 ((noW p).cells pv) := by
    have := C53.set 12 (.bool false)
    rw [← hw4] at this
    exact this
  have C90 : CellsAt w0 s9 0 ((noW o).cells ov) := by
    have := C94.set 12 (.bool false)
    rw [← hw0] at this
    exact this
  have C50 : CellsAt w0 s5 0 ((noW p).cells pv) := C54.but (Nat.lt_of_lt_of_le L53 bw4.size) bw0 (fun e => HNE.out e)
  have zz := bw4.size
  have zz0 := bw0.size
  have hsw := HS5.out
  have hs59 := S59.out
  have BW0 : Hid (Below w.heap.size w w0) := (BW3.out.trans (bw4.below BW3.out.size (fun g hg e => by have e : g = s5 := e; omega))).trans (bw0.below (by have := BW3.out.size; omega) (fun g hg e => by have e : g = s9 := e; omega))
  obtain ⟨X5, hX5⟩ : ∃ X, X = (noW p).cells pv := ⟨_, rfl⟩
  obtain ⟨X9, hX9⟩ : ∃ X, X = (noW o).cells ov := ⟨_, rfl⟩
  have LX5 : Hid (X5.length = 16) := by rw [hX5]; exact rfl
  have LX9 : Hid (X9.length = 16) := by rw [hX9]; exact rfl
  have CC5 : Hid (CellsAt w0 s5 0 X5) := by rw [hX5]; exact C50
  have CC9 : Hid (CellsAt w0 s9 0 X9) := by rw [hX9]; exact C90
  have LL5 : Hid (s5 < w0.heap.size ∧ s9 < w0.heap.size) := ⟨by omega, by omega⟩
  have HO0 := hide (HO.out.later BW0.out)
  have HU0 := hide (HU.out.later BW0.out)
  have HD0 := hide (HD.out.later BW0.out)
  have HE0 := hide (HE.out.later BW0.out)
  have HX5 := hide hX5
  have HX9 := hide hX9
  have x0 := C50 0 _ rfl
  have y0 := C90 0 _ rfl
  have x1 := C50 1 _ rfl
  have y1 := C90 1 _ rfl
  have x2 := C50 2 _ rfl
  have y2 := C90 2 _ rfl
  have x3 := C50 3 _ rfl
  have y3 := C90 3 _ rfl
  have x4 := C50 4 _ rfl
  have y4 := C90 4 _ rfl
  have x5 := C50 5 _ rfl
  have y5 := C90 5 _ rfl
  have x6 := C50 6 _ rfl
  have y6 := C90 6 _ rfl
  have x7 := C50 7 _ rfl
  have y7 := C90 7 _ rfl
  have x8 := C50 8 _ rfl
  have y8 := C90 8 _ rfl
  have x10 := C50 10 _ rfl
  have y10 := C90 10 _ rfl
  simp only [Nat.zero_add, noW] at x0 y0 x1 y1 x2 y2 x3 y3 x4 y4 x5 y5 x6 y6 x7 y7 x8 y8 x10 y10
  have hw4' := hw4.symm
  have hw0' := hw0.symm
  clear C53 C93 hw4 hw0 bw4 bw0 C54 C94 C90 C50 hX5 hX9 L93 L53 n95 zz zz0 hsw hs59 B3 BW3 C5 C9 F5 F9 HO HU HD HE HBWB L5 L9 HNE HS5 S59
  go_upto_region 4 with fail
  clear k512 g512 k912 g912 hw4' hw0'
  have EI := eq_ip
  obtain ⟨q1, hq1⟩ : ∃ q, q = eqI p.src o.src := ⟨_, rfl⟩
  obtain ⟨q2, hq2⟩ : ∃ q, q = eqI p.dst o.dst := ⟨_, rfl⟩
  obtain ⟨q3, hq3⟩ : ∃ q, q = (p.proto == o.proto) := ⟨_, rfl⟩
  obtain ⟨q4, hq4⟩ : ∃ q, q = (p.id == o.id) := ⟨_, rfl⟩
  have m1 : eqI ⟨p.src.a, p.src.b, p.src.c, p.src.d⟩ ⟨o.src.a, o.src.b, o.src.c, o.src.d⟩ = q1 := hq1.symm
  have m2 : eqI ⟨p.dst.a, p.dst.b, p.dst.c, p.dst.d⟩ ⟨o.dst.a, o.dst.b, o.dst.c, o.dst.d⟩ = q2 := hq2.symm
  have m3 : (p.proto == o.proto) = q3 := hq3.symm
  have m4 : (p.id == o.id) = q4 := hq4.symm
  have HQ : Hid (eqKd p.kd o.kd = (q1 && (q2 && (q3 && q4)))) := by rw [hq1, hq2, hq3, hq4]; exact eqKd_parts p.kd o.kd
  clear hq1 hq2 hq3 hq4
  obtain ⟨u1, hu1⟩ : ∃ q, q = decide ((dn : Int) > 500) := ⟨_, rfl⟩
  obtain ⟨u2, hu2⟩ : ∃ q, q = decide ((en : Int) > 500) := ⟨_, rfl⟩
  have hu1' := hu1.symm
  have hu2' := hu2.symm
  have HU1 := hide hu1
  have HU2 := hide hu2
  clear hu1 hu2
  go_cut [65] from 30 to 65 (fun v65 wx => v65 = .bool ((q1 && (q2 && (q3 && q4))) || (u1 || u2)) ∧ w0 = wx)
  case first => as_aux_lemma =>
    by_cases d1 : (500 : Int) < (dn : Int)
    · have e1 : u1 = true := by rw [HU1.out]; simpa using d1
      subst e1
      by_cases d2 : (500 : Int) < (en : Int)
      · have e2 : u2 = true := by rw [HU2.out]; simpa using d2
        subst e2
        clear hu1' hu2'
        cases q1 with
        | false =>
          go_wp2
          go_meet
          exact ⟨rfl, rfl⟩
        | true =>
          cases q2 with
          | false =>
            go_wp2
            go_meet
            exact ⟨rfl, rfl⟩
          | true =>
            cases q3 with
            | false =>
              go_wp2
              go_meet
              exact ⟨rfl, rfl⟩
            | true =>
              cases q4 with
              | false =>
                go_wp2
                go_meet
                exact ⟨rfl, rfl⟩
              | true =>
                go_wp2
                go_meet
                exact ⟨rfl, rfl⟩
      · have e2 : u2 = false := by rw [HU2.out]; simpa using d2
        subst e2
        clear hu1' hu2'
        cases q1 with
        | false =>
          go_wp2
          go_meet
          exact ⟨rfl, rfl⟩
        | true =>
          cases q2 with
          | false =>
            go_wp2
            go_meet
            exact ⟨rfl, rfl⟩
          | true =>
            cases q3 with
            | false =>
              go_wp2
              go_meet
              exact ⟨rfl, rfl⟩
            | true =>
              cases q4 with
              | false =>
                go_wp2
                go_meet
                exact ⟨rfl, rfl⟩
              | true =>
                go_wp2
                go_meet
                exact ⟨rfl, rfl⟩
    · have e1 : u1 = false := by rw [HU1.out]; simpa using d1
      subst e1
      by_cases d2 : (500 : Int) < (en : Int)
      · have e2 : u2 = true := by rw [HU2.out]; simpa using d2
        subst e2
        clear hu1' hu2'
        cases q1 with
        | false =>
          go_wp2
          go_meet
          exact ⟨rfl, rfl⟩
        | true =>
          cases q2 with
          | false =>
            go_wp2
            go_meet
            exact ⟨rfl, rfl⟩
          | true =>
            cases q3 with
            | false =>
              go_wp2
              go_meet
              exact ⟨rfl, rfl⟩
            | true =>
              cases q4 with
              | false =>
                go_wp2
                go_meet
                exact ⟨rfl, rfl⟩
              | true =>
                go_wp2
                go_meet
                exact ⟨rfl, rfl⟩
      · have e2 : u2 = false := by rw [HU2.out]; simpa using d2
        subst e2
        clear hu1' hu2'
        cases q1 with
        | false =>
          go_wp2
          go_meet
          exact ⟨rfl, rfl⟩
        | true =>
          cases q2 with
          | false =>
            go_wp2
            go_meet
            exact ⟨rfl, rfl⟩
          | true =>
            cases q3 with
            | false =>
              go_wp2
              go_meet
              exact ⟨rfl, rfl⟩
            | true =>
              cases q4 with
              | false =>
                go_wp2
                go_meet
                exact ⟨rfl, rfl⟩
              | true =>
                go_wp2
                go_meet
                exact ⟨rfl, rfl⟩
  obtain ⟨rfl, hwc⟩ := hcut
  rw [← hwc]
  clear hwc m1 m2 m3 m4 EI x0 y0 x1 y1 x2 y2 x3 y3 x4 y4 x5 y5 x6 y6 x7 y7 x8 y8 x10 y10 hu1' hu2'
  obtain ⟨vv, hvv⟩ : ∃ q, q = ((q1 && (q2 && (q3 && q4))) || (u1 || u2)) := ⟨_, rfl⟩
  rw [← hvv]
  have HV : Hid (vv = false → p.kd ≠ o.kd ∧ dn ≤ 500 ∧ en ≤ 500) := fun e => by
    rw [e, ← HQ.out] at hvv
    have h1 := hvv.symm
    rw [Bool.or_eq_false_iff, Bool.or_eq_false_iff, HU1.out, HU2.out] at h1
    obtain ⟨h1, h2, h3⟩ := h1
    refine ⟨fun e => ?_, ?_, ?_⟩
    · unfold eqKd at h1
      rw [decide_eq_true e] at h1
      cases h1
    · have := of_decide_eq_false h2
      omega
    · have := of_decide_eq_false h3
      omega
  clear hvv HQ HU1 HU2
  cases vv with
  | true =>
    go_wp2
    go_ret
    exact ⟨rfl, BW0.out⟩
  | false =>
  obtain ⟨hk, hD5, hE5⟩ := HV.out rfl
  clear HV
  have HK := hide hk
  have SP1 := split_any (noW p) pv w0 HO0.out HOB.out HOL.out (.slice da dn dc) D (by rw [HDN.out]; exact (HDN.out ▸ HD0.out)) (by have := HDN.out; omega) 100 (by decide)
  rw [← HX5.out] at SP1
  obtain ⟨e1, he1⟩ : ∃ e, e = spE (noW p) D.length 100 := ⟨_, rfl⟩
  rw [← he1] at SP1
  have HSP1 := hide SP1
  have HE1 := hide he1
  clear SP1 he1 hk
  go_wp2_with (refine wpList_loadA rfl 26 16 aggP sizP _ rfl s5 0 rfl X5 LX5.out CC5.out ?_)
  refine HSP1.out.mono ?_
  rintro _ w5 ⟨lv, rfl, τ1, L1, PA1, hab1, bS1⟩
  have C9B := hide (CC9.out.later LL5.out.2 bS1)
  have HU5 := hide (HU0.out.later bS1)
  have HE5 := hide (HE0.out.later bS1)
  have BW5 := hide (later BW0.out bS1)
  have SP2 := split_any (noW o) ov w5 HU5.out HUB.out HUL.out (.slice ea en ec) E (by rw [HEN.out]; exact (HEN.out ▸ HE5.out)) (by have := HEN.out; omega) 100 (by decide)
  rw [← HX9.out] at SP2
  obtain ⟨e2, he2⟩ : ∃ e, e = spE (noW o) E.length 100 := ⟨_, rfl⟩
  rw [← he2] at SP2
  have HSP2 := hide SP2
  have HE2 := hide he2
  obtain ⟨la, lc, rfl⟩ := PA1.shape
  obtain ⟨n1, hn1⟩ : ∃ n, n = L1.length := ⟨_, rfl⟩
  rw [← hn1]
  have HN1 := hide hn1
  have HPA1 := hide PA1
  have HAB1 := hide hab1
  have HBS1 := hide bS1
  clear SP2 he2 HSP1 PA1 hab1 bS1 hn1
  go_wp2_with (refine wpList_loadA rfl 26 16 aggP sizP _ rfl s9 0 rfl X9 LX9.out C9B.out ?_)
  refine HSP2.out.mono ?_
  rintro _ wS ⟨mv, rfl, τ2, L2, PA2, hab2, bS2⟩
  obtain ⟨ma, mc, rfl⟩ := PA2.shape
  obtain ⟨n2, hn2⟩ : ∃ n, n = L2.length := ⟨_, rfl⟩
  rw [← hn2]
  have HN2 := hide hn2
  have HPA2 := hide PA2
  have HPA1S := hide (HPA1.out.later bS2)
  have HAB2 := hide hab2
  have BWS := hide (later BW5.out bS2)
  have BWS0 := (later HBS1.out bS2)
  clear HSP2 PA2 hab2 bS2 hn2 HPA1 HBS1 CC5 CC9 C9B HU5 HE5 HO0 HU0
  go_wp2_with fail
  refine (fNew_any wS).mono ?_
  rintro _ w6 ⟨rfl, cN, fN, bN⟩
  obtain ⟨b, hb⟩ : ∃ b, b = wS.heap.size := ⟨_, rfl⟩
  rw [← hb] at cN fN ⊢
  have AM0 : Hid (AwM wS b (fun g => if g = b then (b, 0) else (0, 9)) [] w6) := ⟨FrAt.new cN fN, fun g hg => if_neg (by omega), bN⟩
  have HB : Hid (b = wS.heap.size) := hb
  have BW6 := hide (later BWS.out bN)
  clear cN fN bN hb
  by_cases z1 : e1 = 0
  case neg =>
    have z1' : (e1 != 0) = true := by simpa using z1
    go_wp2
    go_ret
    exact ⟨rfl, BW6.out⟩
  by_cases z2 : e2 = 0
  case neg =>
    have z2' : (e2 != 0) = true := by simpa using z2
    go_wp2
    go_ret
    exact ⟨rfl, BW6.out⟩
  subst z1
  subst z2
  obtain ⟨l1, hl1⟩ : ∃ l, l = spL (noW p) D 100 := ⟨_, rfl⟩
  obtain ⟨l2, hl2⟩ : ∃ l, l = spL (noW o) E 100 := ⟨_, rfl⟩
  have PX1 := HPA1S.out
  have PX2 := HPA2.out
  have LS1 := ls_of PX1 HAB1.out HE1.out.symm (by have := HDN.out; omega)
  have LS2 := ls_of PX2 HAB2.out HE2.out.symm (by have := HEN.out; omega)
  rw [← HN1.out, ← hl1, show (noW p).kd = p.kd from rfl] at LS1
  rw [← HN2.out, ← hl2, show (noW o).kd = o.kd from rfl] at LS2
  obtain ⟨lg, rfl, LS1⟩ := LS1
  obtain ⟨mg, rfl, LS2⟩ := LS2
  have HL1 := hide LS1
  have HL2 := hide LS2
  have I0 : Hid (∃ ρ G, AwM wS b ρ G w6 ∧ OkS (absG G) ∧ Ap p.kd o.kd l1 l2 0 100 0 0 (absG G)) := ⟨_, _, AM0.out, OkS.nil, Ap.nil _ _ _ _ _ _⟩
  have N1 : Hid (n1 ≤ 501 ∧ n2 ≤ 501) := by
    have h1 := LS1.ch.len
    have h2 := LS2.ch.len
    exact ⟨by have := LS1.len; have := LS1.d5; omega, by have := LS2.len; have := LS2.d5; omega⟩
  have BW60 := hide BWS0
  clear HE1 HE2 HAB1 HAB2 BWS0 hl1 hl2 LS1 LS2 HPA1S HPA2 HN1 HN2 AM0 PX1 PX2
  go_wp2_with fail
  go_loopw [17, 18, 19] (fun v17 v18 v19 wr => ∃ (i k n : Nat), v17 = .int .i64 (i : Int) ∧ v18 = .int .i64 (k : Int) ∧ v19 = .int .i64 (n : Int) ∧ i ≤ n1 ∧ k ≤ n2 ∧ n = i + k ∧ Hid (∃ ρ G, AwM wS b ρ G wr ∧ OkS (absG G) ∧ Ap p.kd o.kd l1 l2 0 100 i k (absG G))) (fun _ _ v19 _ => n1 + n2 - (intOf v19).toNat)
  case atStart => exact ⟨0, 0, 0, rfl, rfl, rfl, Nat.zero_le _, Nat.zero_le _, rfl, I0⟩
  case round =>
    obtain ⟨i, k, n, rfl, rfl, rfl, hi, hkn, hn, ⟨ρ, G, hI, hO, hA⟩⟩ := hrel
    have HI := hide hI
    have HO := hide hO
    have HA := hide hA
    have HN := hide hn
    have nb : n ≤ 1002 := by have := N1.out; omega
    have N1' := N1.out
    obtain ⟨N1a, N1b⟩ := N1'
    clear hI hO hA I0 hn
    obtain ⟨w8, hw8⟩ : ∃ x, x = wr := ⟨_, rfl⟩
    rw [← hw8] at HI ⊢
    clear hw8
    go_upto_region 14 with fail
    go_cut [108] from 99 to 216 (fun v108 wx => ∃ q : Bool, v108 = .bool q ∧ (q = true ↔ i < n1 ∨ k < n2) ∧ w8 = wx)
    case first =>
      by_cases hin : i < n1
      · have zi : (i : Int) < (n1 : Int) := by omega
        go_wp2
        go_meet
        exact ⟨true, rfl, ⟨fun _ => .inl hin, fun _ => rfl⟩, rfl⟩
      · have zi : ¬ (i : Int) < (n1 : Int) := by omega
        by_cases hkn2 : k < n2
        · have zk : (k : Int) < (n2 : Int) := by omega
          go_wp2
          go_meet
          exact ⟨true, rfl, ⟨fun _ => .inr hkn2, fun _ => rfl⟩, rfl⟩
        · have zk : ¬ (k : Int) < (n2 : Int) := by omega
          go_wp2
          go_meet
          exact ⟨false, rfl, ⟨fun e => (by cases e), fun e => (by omega)⟩, rfl⟩
    obtain ⟨qc, rfl, hqc, hwc⟩ := hcut
    rw [← hwc]
    clear hwc
    by_cases hc : i < n1 ∨ k < n2
    case neg =>
      have eq : qc = false := by
        cases qc with
        | false => rfl
        | true => exact absurd (hqc.1 rfl) hc
      subst eq
      clear hqc
      have hG : absG G = [] := HA.out.done HK.out (by have := HL1.out.len; omega) (by have := HL2.out.len; omega)
      have hG0 : G.length = 0 := absG_nil (by rw [hG]; rfl)
      obtain ⟨va, vc, hva, _⟩ := HI.out.fr.at
      rw [hG0] at hva
      have LEN := hide (fLen_any w8 b va 0 vc hva)
      have BW8 := hide (later BWS.out HI.out.bel)
      clear hG hG0 hva HA HO HI
      go_wp2_with fail
      refine LEN.out.mono ?_
      rintro _ wq ⟨rfl, hwq⟩
      rw [hwq]
      clear hwq wq LEN
      go_wp2
      go_ret
      exact ⟨rfl, BW8.out⟩
    have eq : qc = true := hqc.2 hc
    subst eq
    clear hqc
    go_upto_region 16 with fail
    go_cut [20] from 99 to 216 (fun v20 wx => ∃ f : Bool, v20 = .bool f ∧ (f = true → i < n1) ∧ (f = false → k < n2) ∧ w8 = wx)
    case first =>
      by_cases hkn2 : k < n2
      · have zk : (k : Int) < (n2 : Int) := by omega
        by_cases hin : i < n1
        · have zi : (i : Int) < (n1 : Int) := by omega
          by_cases hnt : n < tn
          · have zn : (n : Int) < (tn : Int) := by omega
            obtain ⟨gt, ot, rfl, hgt, hct⟩ := HT.out (by omega)
            obtain ⟨t, ht⟩ : ∃ t, T[n]? = some t := ⟨_, List.getElem?_eq_getElem (by have := HTN.out; omega)⟩
            have kt : w8.cell? ⟨gt, ot + n, none⟩ = some (.bool t) := ((later BWS.out HI.out.bel).cell (p := ⟨gt, ot + n, none⟩) hgt).trans (hct n t ht)
            clear hct ht
            go_wp2
            go_meet
            exact ⟨t, by rw [decide_eq_false (show ¬ n2 ≤ k by omega)]; rfl, fun _ => hin, fun _ => hkn2, rfl⟩
          · have zn : ¬ (n : Int) < (tn : Int) := by omega
            go_wp2
            go_meet
            exact ⟨false, by rw [decide_eq_false (show ¬ n2 ≤ k by omega)], fun _ => hin, fun _ => hkn2, rfl⟩
        · have zi : ¬ (i : Int) < (n1 : Int) := by omega
          go_wp2
          go_meet
          exact ⟨false, by rw [decide_eq_false (show ¬ n2 ≤ k by omega)], fun e => (by cases e), fun _ => hkn2, rfl⟩
      · have zk : ¬ (k : Int) < (n2 : Int) := by omega
        have zk' : (n2 : Int) ≤ (k : Int) := by omega
        go_wp2
        go_meet
        exact ⟨true, rfl, fun _ => by omega, fun e => (by cases e), rfl⟩
    obtain ⟨f, rfl, hf1, hf2, hwc⟩ := hcut
    rw [← hwc]
    clear hwc hc
    cases f with
    | true =>
      have hin : i < n1 := hf1 rfl
      clear hf1 hf2
      obtain ⟨x, hx⟩ : ∃ x, l1[i]? = some x := ⟨_, List.getElem?_eq_getElem (by have := HL1.out.len; omega)⟩
      obtain ⟨ha, hc, xa, xc, CK, CV, CO, CD, OL⟩ := HL1.out.at_ i x hx
      have IA := HL1.out.ch.at i 0 (by decide) hx
      have IA1 := IA.lo
      have IA2 := IA.hi
      have D5 := HL1.out.d5
      obtain ⟨r, hr, r1, r2, r3, AP⟩ := HA.out.put HK.out HL1.out.ch HL2.out.ch HL1.out.d5 HL2.out.d5 hx 0
      rw [Int.zero_add] at hr
      rw [← HL1.out.len] at r1
      obtain ⟨xn, hxn⟩ : ∃ n, n = x.2.length := ⟨_, rfl⟩
      rw [← hxn] at CV CD
      obtain ⟨X, hX⟩ : ∃ X, X = x.1.cells (.slice ha x.1.opts.length hc) := ⟨_, rfl⟩
      have LX : Hid (X.length = 16) := by rw [hX]; exact rfl
      have CX : Hid (∀ W, Below wS.heap.size wS W → CellsAt W lg (i * 17) X) := fun W hW => by rw [hX]; exact CK.later HL1.out.lt hW
      have CVV : Hid (∀ W, Below wS.heap.size wS W → W.cell? ⟨lg, i * 17 + 16, none⟩ = some (.slice xa xn xc)) := fun W hW => (hW.cell (p := ⟨lg, i * 17 + 16, none⟩) HL1.out.lt).trans CV
      have FD := HI.out.fr.later (later_drew w8)
      have SB0 : Below wS.heap.size wS w8.drew := later HI.out.bel (later_drew w8)
      have ZB := SB0.size
      have HOW : CB (fun g => ρ g = ((0, 9) : Nat × Nat)) w8.drew (.slice ha x.1.opts.length hc) x.1.opts := (CO.own (fun g _ e => HI.out.low g e)).later SB0
      have HDW := CD.later SB0
      have PG1 := hide (put_got FD HO.out x.1 _ HOW (by omega) _ _ HDW (by omega) (by omega) (by omega) _ 0 r hr)
      have PG2 := hide (fun (W1 : World) (h : W1 = w8.drew.alloc (.cells zWh.toArray 49)) => put_got2 FD HO.out x.1 _ HOW (by omega) _ _ HDW (by omega) (by omega) (by omega) _ 0 r hr h)
      rw [← hX] at PG1 PG2
      have HR := hide hr
      have HR1 := hide r1
      have HR2 := hide r2
      have HR3 := hide r3
      have HAP := hide AP
      clear FD HOW HDW hX hxn CK CV CO CD OL IA IA1 IA2 D5 hr r1 r2 r3 AP hx
      go_upto_region 18 with fail
      go_cut [21, 22, 23] from 99 to 216 (fun v9 v10 v11 wx => ∃ (s6 : Nat) (ρ' : Nat → Nat × Nat) (G' : List (Nat × Gm)) (ga : Option Addr) (gc : Nat), v9 = .pointer (some ⟨s6, 0, none⟩) ∧ v10 = .bool r.1.isSome ∧ v11 = .slice ga r.2.1.length gc ∧ Hid (PutAft w8.drew wx ρ ρ' b G' r s6 (.slice ga r.2.1.length gc)))
      case first => as_aux_lemma =>
        refine regionJ (fun _ => true) (fun W => Below wS.heap.size wS W) (by kernel_rfl) ?_
        have SB : Below wS.heap.size wS w8.drew := SB0
        refine takeJ (i := 0) (v := .pointer (some ⟨b, 0, none⟩)) 135 rfl rfl (by kernel_rfl) (by kernel_rfl) (by kernel_rfl) (by kernel_rfl) (fun _ _ _ h => h) (.inl ⟨by rfl, fun W hW => exec_move _ _ rfl rfl⟩) (SB) ?_
        try simp only [Act.put, List.setIfInBounds_toArray, List.set_cons_zero, List.set_cons_succ]
        refine takeJ (i := 1) (v := .slice (some ⟨lg, 0, none⟩) n1 lc) 136 rfl rfl (by kernel_rfl) (by kernel_rfl) (by kernel_rfl) (by kernel_rfl) (fun _ _ _ h => h) (.inl ⟨by rfl, fun W hW => exec_move _ _ rfl rfl⟩) (SB) ?_
        try simp only [Act.put, List.setIfInBounds_toArray, List.set_cons_zero, List.set_cons_succ]
        refine takeJ (i := 2) (v := .int .i64 (i : Int)) 137 rfl rfl (by kernel_rfl) (by kernel_rfl) (by kernel_rfl) (by kernel_rfl) (fun _ _ _ h => h) (.inl ⟨by rfl, fun W hW => exec_move _ _ rfl rfl⟩) (SB) ?_
        try simp only [Act.put, List.setIfInBounds_toArray, List.set_cons_zero, List.set_cons_succ]
        refine takeJ (i := 3) (v := .pointer (some ⟨lg, i * 17, none⟩)) 138 rfl rfl (by kernel_rfl) (by kernel_rfl) (by kernel_rfl) (by kernel_rfl) (fun _ _ _ h => h) (.inl ⟨by rfl, fun W hW => exec_ixPi _ _ lg n1 lc i _ rfl rfl rfl rfl hin⟩) (SB) ?_
        try simp only [Act.put, List.setIfInBounds_toArray, List.set_cons_zero, List.set_cons_succ]
        refine takeJ (i := 4) (v := .pointer (some ⟨lg, i * 17, none⟩)) 139 rfl rfl (by kernel_rfl) (by kernel_rfl) (by kernel_rfl) (by kernel_rfl) (fun _ _ _ h => h) (.inl ⟨by rfl, fun W hW => exec_fieldO 34 _ 0 lg (i * 17) (i * 17) rfl rfl (fun w => by kernel_rfl)⟩) (SB) ?_
        try simp only [Act.put, List.setIfInBounds_toArray, List.set_cons_zero, List.set_cons_succ]
        refine takeJ (i := 5) (v := .agg X.toArray) 140 rfl rfl (by kernel_rfl) (by kernel_rfl) (by kernel_rfl) (by kernel_rfl) (fun _ _ _ h => h) (.inl ⟨by rfl, fun W hW => exec_loadA 26 16 aggP sizP _ rfl lg (i * 17) rfl X LX.out (CX.out W hW)⟩) (SB) ?_
        try simp only [Act.put, List.setIfInBounds_toArray, List.set_cons_zero, List.set_cons_succ]
        refine takeJ (i := 6) (v := .slice (some ⟨lg, 0, none⟩) n1 lc) 141 rfl rfl (by kernel_rfl) (by kernel_rfl) (by kernel_rfl) (by kernel_rfl) (fun _ _ _ h => h) (.inl ⟨by rfl, fun W hW => exec_move _ _ rfl rfl⟩) (SB) ?_
        try simp only [Act.put, List.setIfInBounds_toArray, List.set_cons_zero, List.set_cons_succ]
        refine takeJ (i := 7) (v := .int .i64 (i : Int)) 142 rfl rfl (by kernel_rfl) (by kernel_rfl) (by kernel_rfl) (by kernel_rfl) (fun _ _ _ h => h) (.inl ⟨by rfl, fun W hW => exec_move _ _ rfl rfl⟩) (SB) ?_
        try simp only [Act.put, List.setIfInBounds_toArray, List.set_cons_zero, List.set_cons_succ]
        refine takeJ (i := 8) (v := .pointer (some ⟨lg, i * 17, none⟩)) 143 rfl rfl (by kernel_rfl) (by kernel_rfl) (by kernel_rfl) (by kernel_rfl) (fun _ _ _ h => h) (.inl ⟨by rfl, fun W hW => exec_ixPi _ _ lg n1 lc i _ rfl rfl rfl rfl hin⟩) (SB) ?_
        try simp only [Act.put, List.setIfInBounds_toArray, List.set_cons_zero, List.set_cons_succ]
        refine takeJ (i := 9) (v := .pointer (some ⟨lg, i * 17 + 16, none⟩)) 144 rfl rfl (by kernel_rfl) (by kernel_rfl) (by kernel_rfl) (by kernel_rfl) (fun _ _ _ h => h) (.inl ⟨by rfl, fun W hW => exec_fieldO 34 _ 1 lg (i * 17) (i * 17 + 16) rfl rfl (fun w => by kernel_rfl)⟩) (SB) ?_
        try simp only [Act.put, List.setIfInBounds_toArray, List.set_cons_zero, List.set_cons_succ]
        refine takeJ (i := 10) (v := .slice xa xn xc) 145 rfl rfl (by kernel_rfl) (by kernel_rfl) (by kernel_rfl) (by kernel_rfl) (fun _ _ _ h => h) (.inl ⟨by rfl, fun W hW => exec_load1 24 oneS _ rfl lg (i * 17 + 16) rfl (.slice xa xn xc) (CVV.out W hW)⟩) (SB) ?_
        try simp only [Act.put, List.setIfInBounds_toArray, List.set_cons_zero, List.set_cons_succ]
        refine takeJ (i := 11) (v := .int .i64 (i : Int)) 146 rfl rfl (by kernel_rfl) (by kernel_rfl) (by kernel_rfl) (by kernel_rfl) (fun _ _ _ h => h) (.inl ⟨by rfl, fun W hW => exec_move _ _ rfl rfl⟩) (SB) ?_
        try simp only [Act.put, List.setIfInBounds_toArray, List.set_cons_zero, List.set_cons_succ]
        refine allJ (rs := [12, 17]) (by kernel_rfl) (by simp) (fun q hq => ?_)
        rcases List.mem_cons.1 hq with rfl | hq
        · refine opJ_call 12 147 rfl rfl (by rfl) 17 #[.pointer (some ⟨b, 0, none⟩), .agg X.toArray, .slice xa xn xc, .int .i64 (i : Int), .int .i64 0] (exec_callF _ _ _ _ rfl (map5 rfl rfl rfl rfl rfl) (enters_of Try.func17 (by kernel_rfl) rfl)) _ (PG1.out) ?_
          rintro _ w9 ⟨_, G', hv, dv, bv, ga, gc, rfl, PG⟩
          have S8 : Below wS.heap.size wS w9 := SB.trans (PG.but.below ZB (fun g hg e => e.1 (HI.out.low g hg)))
          refine ⟨fun _ => S8, ?_⟩
          simp only [Act.put, List.setIfInBounds_toArray, List.set_cons_zero, List.set_cons_succ]
          refine takeJ (i := 13) (v := .tuple #[.agg (whC (outP r.1) hv dv bv).toArray, .bool r.1.isSome, .slice ga r.2.1.length gc]) 134 rfl rfl (by kernel_rfl) (by kernel_rfl) (by kernel_rfl) (by kernel_rfl) (fun _ _ _ h => h) (.inl ⟨by rfl, fun W hW => exec_move _ _ rfl rfl⟩) (S8) ?_
          try simp only [Act.put, List.setIfInBounds_toArray, List.set_cons_zero, List.set_cons_succ]
          refine takeJ (i := 14) (v := .agg (whC (outP r.1) hv dv bv).toArray) 148 rfl rfl (by kernel_rfl) (by kernel_rfl) (by kernel_rfl) (by kernel_rfl) (fun _ _ _ h => h) (.inl ⟨by rfl, fun W hW => exec_ext _ 0 [.agg (whC (outP r.1) hv dv bv).toArray, .bool r.1.isSome, .slice ga r.2.1.length gc] _ rfl rfl rfl⟩) (S8) ?_
          try simp only [Act.put, List.setIfInBounds_toArray, List.set_cons_zero, List.set_cons_succ]
          refine takeJ (i := 15) (v := .bool r.1.isSome) 149 rfl rfl (by kernel_rfl) (by kernel_rfl) (by kernel_rfl) (by kernel_rfl) (fun _ _ _ h => h) (.inl ⟨by rfl, fun W hW => exec_ext _ 1 [.agg (whC (outP r.1) hv dv bv).toArray, .bool r.1.isSome, .slice ga r.2.1.length gc] _ rfl rfl rfl⟩) (S8) ?_
          try simp only [Act.put, List.setIfInBounds_toArray, List.set_cons_zero, List.set_cons_succ]
          refine takeJ (i := 16) (v := .slice ga r.2.1.length gc) 150 rfl rfl (by kernel_rfl) (by kernel_rfl) (by kernel_rfl) (by kernel_rfl) (fun _ _ _ h => h) (.inl ⟨by rfl, fun W hW => exec_ext _ 2 [.agg (whC (outP r.1) hv dv bv).toArray, .bool r.1.isSome, .slice ga r.2.1.length gc] _ rfl rfl rfl⟩) (S8) ?_
          try simp only [Act.put, List.setIfInBounds_toArray, List.set_cons_zero, List.set_cons_succ]
          obtain ⟨wk, wz, ρ2, hwk, c9, f9, hwz, AF⟩ := PG.aft
          have HWK := hide hwk
          have HWZ := hide hwz
          have one9 := PG.one
          obtain ⟨s6, hs6⟩ : ∃ s6, s6 = w9.heap.size := ⟨_, rfl⟩
          rw [← hs6] at c9 f9 hwz AF HWZ
          have S9 : Below wS.heap.size wS wk := later S8 (by rw [HWK.out]; exact later_alloc _ _)
          have SZ : Below wS.heap.size wS wz := SB.trans (AF.but.below ZB (fun g hg e => e.1 (HI.out.low g hg)))
          refine nextJ (w' := wk) 17 21 (.pointer (some ⟨s6, 0, none⟩)) (by kernel_rfl) rfl rfl (by rfl) ((by rw [HWK.out, hs6]; exact exec_allocWh rfl)) (S9) ?_
          try simp only [Act.put, List.setIfInBounds_toArray, List.set_cons_zero, List.set_cons_succ]
          refine storeJ (w' := wz) 18 (by kernel_rfl) rfl rfl (by rfl) ((by rw [HWZ.out]; exact exec_storeA 49 18 sizWh _ _ rfl s6 0 rfl _ zWh rfl rfl rfl c9 f9 one9)) ((fun _ => SZ)) ?_
          try simp only [Act.put, List.setIfInBounds_toArray, List.set_cons_zero, List.set_cons_succ]
          refine takeJ (i := 19) (v := .bool r.1.isSome) 22 rfl rfl (by kernel_rfl) (by kernel_rfl) (by kernel_rfl) (by kernel_rfl) (fun _ _ _ h => h) (.inl ⟨by rfl, fun W hW => exec_assign _ _ rfl rfl⟩) (SZ) ?_
          try simp only [Act.put, List.setIfInBounds_toArray, List.set_cons_zero, List.set_cons_succ]
          refine takeJ (i := 20) (v := .slice ga r.2.1.length gc) 23 rfl rfl (by kernel_rfl) (by kernel_rfl) (by kernel_rfl) (by kernel_rfl) (fun _ _ _ h => h) (.inl ⟨by rfl, fun W hW => exec_assign _ _ rfl rfl⟩) (SZ) ?_
          try simp only [Act.put, List.setIfInBounds_toArray, List.set_cons_zero, List.set_cons_succ]
          refine doneJ (by kernel_rfl) ?_ _
          have AFH := hide AF
          clear AF PG S8 S9 SZ hwk c9 f9 hwz HWK HWZ one9 hs6
          go_wp2
          go_meet
          exact ⟨s6, _, G', ga, gc, rfl, rfl, rfl, AFH⟩
        · obtain rfl : q = 17 := by simpa using hq
          obtain ⟨w7, hw7⟩ : ∃ w7, w7 = w8.drew.alloc (.cells zWh.toArray 49) := ⟨_, rfl⟩
          have HW7 := hide hw7
          refine opJ_val (w' := w7) 17 21 (.pointer (some ⟨w8.drew.heap.size, 0, none⟩)) rfl rfl (by rfl) (by rw [HW7.out]; exact exec_allocWh rfl) ?_
          have S7 : Below wS.heap.size wS w7 := later SB (by rw [HW7.out]; exact later_alloc _ _)
          refine ⟨fun _ => S7, ?_⟩
          simp only [Act.put, List.setIfInBounds_toArray, List.set_cons_zero, List.set_cons_succ]
          refine callJ 12 147 (by kernel_rfl) rfl rfl (by rfl) 17 #[.pointer (some ⟨b, 0, none⟩), .agg X.toArray, .slice xa xn xc, .int .i64 (i : Int), .int .i64 0] (exec_callF _ _ _ _ rfl (map5 rfl rfl rfl rfl rfl) (enters_of Try.func17 (by kernel_rfl) rfl)) _ (PG2.out w7 HW7.out) ?_
          rintro _ w9 ⟨ρ2, G', hv, dv, bv, ga, gc, rfl, PG⟩
          have S8 : Below wS.heap.size wS w9 := S7.trans (PG.but.below S7.size (fun g hg e => e.1 (by rw [cutR_lt (by omega)]; exact HI.out.low g hg)))
          refine ⟨S8, ?_⟩
          simp only [Act.put, List.setIfInBounds_toArray, List.set_cons_zero, List.set_cons_succ]
          refine takeJ (i := 13) (v := .tuple #[.agg (whC (outP r.1) hv dv bv).toArray, .bool r.1.isSome, .slice ga r.2.1.length gc]) 134 rfl rfl (by kernel_rfl) (by kernel_rfl) (by kernel_rfl) (by kernel_rfl) (fun _ _ _ h => h) (.inl ⟨by rfl, fun W hW => exec_move _ _ rfl rfl⟩) (S8) ?_
          try simp only [Act.put, List.setIfInBounds_toArray, List.set_cons_zero, List.set_cons_succ]
          refine takeJ (i := 14) (v := .agg (whC (outP r.1) hv dv bv).toArray) 148 rfl rfl (by kernel_rfl) (by kernel_rfl) (by kernel_rfl) (by kernel_rfl) (fun _ _ _ h => h) (.inl ⟨by rfl, fun W hW => exec_ext _ 0 [.agg (whC (outP r.1) hv dv bv).toArray, .bool r.1.isSome, .slice ga r.2.1.length gc] _ rfl rfl rfl⟩) (S8) ?_
          try simp only [Act.put, List.setIfInBounds_toArray, List.set_cons_zero, List.set_cons_succ]
          refine takeJ (i := 15) (v := .bool r.1.isSome) 149 rfl rfl (by kernel_rfl) (by kernel_rfl) (by kernel_rfl) (by kernel_rfl) (fun _ _ _ h => h) (.inl ⟨by rfl, fun W hW => exec_ext _ 1 [.agg (whC (outP r.1) hv dv bv).toArray, .bool r.1.isSome, .slice ga r.2.1.length gc] _ rfl rfl rfl⟩) (S8) ?_
          try simp only [Act.put, List.setIfInBounds_toArray, List.set_cons_zero, List.set_cons_succ]
          refine takeJ (i := 16) (v := .slice ga r.2.1.length gc) 150 rfl rfl (by kernel_rfl) (by kernel_rfl) (by kernel_rfl) (by kernel_rfl) (fun _ _ _ h => h) (.inl ⟨by rfl, fun W hW => exec_ext _ 2 [.agg (whC (outP r.1) hv dv bv).toArray, .bool r.1.isSome, .slice ga r.2.1.length gc] _ rfl rfl rfl⟩) (S8) ?_
          try simp only [Act.put, List.setIfInBounds_toArray, List.set_cons_zero, List.set_cons_succ]
          obtain ⟨c9, f9, wz, hwz, AF⟩ := PG.aft2 HW7.out
          have HWZ := hide hwz
          have one9 := PG.one
          have SZ : Below wS.heap.size wS wz := SB.trans (AF.but.below ZB (fun g hg e => e.1 (HI.out.low g hg)))
          refine storeJ (w' := wz) 18 (by kernel_rfl) rfl rfl (by rfl) ((by rw [HWZ.out]; exact exec_storeA 49 18 sizWh _ _ rfl w8.drew.heap.size 0 rfl _ zWh rfl rfl rfl c9 f9 one9)) ((fun _ => SZ)) ?_
          try simp only [Act.put, List.setIfInBounds_toArray, List.set_cons_zero, List.set_cons_succ]
          refine takeJ (i := 19) (v := .bool r.1.isSome) 22 rfl rfl (by kernel_rfl) (by kernel_rfl) (by kernel_rfl) (by kernel_rfl) (fun _ _ _ h => h) (.inl ⟨by rfl, fun W hW => exec_assign _ _ rfl rfl⟩) (SZ) ?_
          try simp only [Act.put, List.setIfInBounds_toArray, List.set_cons_zero, List.set_cons_succ]
          refine takeJ (i := 20) (v := .slice ga r.2.1.length gc) 23 rfl rfl (by kernel_rfl) (by kernel_rfl) (by kernel_rfl) (by kernel_rfl) (fun _ _ _ h => h) (.inl ⟨by rfl, fun W hW => exec_assign _ _ rfl rfl⟩) (SZ) ?_
          try simp only [Act.put, List.setIfInBounds_toArray, List.set_cons_zero, List.set_cons_succ]
          refine doneJ (by kernel_rfl) ?_ _
          have AFH := hide AF
          clear AF PG S7 S8 SZ hw7 HW7 c9 f9 hwz HWZ one9
          go_wp2
          go_meet
          exact ⟨_, _, G', ga, gc, rfl, rfl, rfl, AFH⟩
      obtain ⟨s6, ρ6, G6, ga, gc, rfl, rfl, rfl, AFH⟩ := hcut
      obtain ⟨w6, hw6⟩ : ∃ w9, w9 = wc := ⟨_, rfl⟩
      rw [← hw6] at AFH ⊢
      clear hw6 PG1 PG2 LX CX CVV
      have AF := AFH.out
      obtain ⟨hv, dv, bv, τ, t0, x1, x2, x3, x4, x5⟩ := AF.x
      have I6 : Hid (∃ ρ G, AwM wS b ρ G w6 ∧ OkS (absG G) ∧ Ap p.kd o.kd l1 l2 0 100 (i + 1) k (absG G)) :=
        ⟨ρ6, G6, HI.out.step AF.fr AF.old AF.but, by rw [AF.ab, ← HR.out]; exact HO.out.put _ _ _ _, by rw [AF.ab]; exact HAP.out⟩
      have BD6 : Below w0.heap.size w0 w6 := (BW60.out.trans ((later HI.out.bel (later_drew w8)).mono BW60.out.size)).trans (AF.but.below (by have := BW60.out.size; omega) (fun g hg e => e.1 (HI.out.low g (by have := BW60.out.size; omega))))
      have so := conv_str ((HD0.out.later BD6).isB)
      have CP : w6.cell? ⟨s6, 16, none⟩ = some dv := by
        have h := x1
        unfold whC at h
        rw [CellsAt.append] at h
        exact h.2 0 _ rfl
      have su := conv_str x2.cn.isB
      obtain ⟨ya, yc, hyd⟩ := x2.shape
      obtain ⟨iS, hiS⟩ : ∃ q, q = r.1.isSome := ⟨_, rfl⟩
      obtain ⟨gl, hgl⟩ : ∃ q, q = r.2.1.length := ⟨_, rfl⟩
      have gl0 : gl = 0 := by rw [hgl, HR2.out]; rfl
      subst gl0
      have HIS : Hid (iS = decide (i + 1 = n1)) := by rw [hiS]; exact HR1.out
      have HSD : Hid (iS = true → outD r.1 = D) := fun e => HR3.out (by rw [← hiS]; exact e)
      rw [← hiS, ← hgl]
      clear hiS hgl AF AFH t0 x1 x3 x4 x5 HR HR1 HR2 HR3 HAP HI HO HA BD6 SB0 ZB
      by_cases hl : i + 1 = n1
      · have zl : (((i : Nat) : Int) + 1 == (n1 : Int)) = true := by simp; omega
        have e1 : iS = true := by rw [HIS.out]; exact decide_eq_true hl
        have e2 := HSD.out e1
        subst e1
        rw [e2] at su x2 hyd
        rw [hyd] at su CP
        rw [← HDN.out] at su CP
        clear HIS HSD x2 hyd e2
        go_wp2_with fail
        go_roundw
        case rel => exact ⟨i + 1, k, n + 1, by go_num, rfl, by go_num, by omega, by omega, by have := HN.out; omega, I6⟩
        case measure => have := HN.out; simp [intOf]; omega
      · have zl : (((i : Nat) : Int) + 1 == (n1 : Int)) = false := by simp; omega
        have e1 : iS = false := by rw [HIS.out]; exact decide_eq_false hl
        subst e1
        clear HIS HSD x2 hyd su CP so
        go_wp2_with fail
        go_roundw
        case rel => exact ⟨i + 1, k, n + 1, by go_num, rfl, by go_num, by omega, by omega, by have := HN.out; omega, I6⟩
        case measure => have := HN.out; simp [intOf]; omega
    | false =>
      have hin : k < n2 := hf2 rfl
      clear hf1 hf2
      obtain ⟨x, hx⟩ : ∃ x, l2[k]? = some x := ⟨_, List.getElem?_eq_getElem (by have := HL2.out.len; omega)⟩
      obtain ⟨ha, hc, xa, xc, CK, CV, CO, CD, OL⟩ := HL2.out.at_ k x hx
      have IA := HL2.out.ch.at k 0 (by decide) hx
      have IA1 := IA.lo
      have IA2 := IA.hi
      have D5 := HL2.out.d5
      obtain ⟨r, hr, r1, r2, r3, AP⟩ := HA.out.swap.put (Ne.symm HK.out) HL2.out.ch HL1.out.ch HL2.out.d5 HL1.out.d5 hx 0
      rw [← HL2.out.len] at r1
      obtain ⟨xn, hxn⟩ : ∃ n, n = x.2.length := ⟨_, rfl⟩
      rw [← hxn] at CV CD
      obtain ⟨X, hX⟩ : ∃ X, X = x.1.cells (.slice ha x.1.opts.length hc) := ⟨_, rfl⟩
      have LX : Hid (X.length = 16) := by rw [hX]; exact rfl
      have CX : Hid (∀ W, Below wS.heap.size wS W → CellsAt W mg (k * 17) X) := fun W hW => by rw [hX]; exact CK.later HL2.out.lt hW
      have CVV : Hid (∀ W, Below wS.heap.size wS W → W.cell? ⟨mg, k * 17 + 16, none⟩ = some (.slice xa xn xc)) := fun W hW => (hW.cell (p := ⟨mg, k * 17 + 16, none⟩) HL2.out.lt).trans CV
      have FD := HI.out.fr.later (later_drew w8)
      have SB0 : Below wS.heap.size wS w8.drew := later HI.out.bel (later_drew w8)
      have ZB := SB0.size
      have HOW : CB (fun g => ρ g = ((0, 9) : Nat × Nat)) w8.drew (.slice ha x.1.opts.length hc) x.1.opts := (CO.own (fun g _ e => HI.out.low g e)).later SB0
      have HDW := CD.later SB0
      have PG1 := hide (put_got FD HO.out x.1 _ HOW (by omega) _ _ HDW (by omega) (by omega) (by omega) _ 0 r hr)
      have PG2 := hide (fun (W1 : World) (h : W1 = w8.drew.alloc (.cells zWh.toArray 49)) => put_got2 FD HO.out x.1 _ HOW (by omega) _ _ HDW (by omega) (by omega) (by omega) _ 0 r hr h)
      rw [← hX] at PG1 PG2
      have HR := hide hr
      have HR1 := hide r1
      have HR2 := hide r2
      have HR3 := hide r3
      have HAP := hide AP
      clear FD HOW HDW hX hxn CK CV CO CD OL IA IA1 IA2 D5 hr r1 r2 r3 AP hx
      go_upto_region 22 with fail
      go_cut [24, 25, 26] from 99 to 216 (fun v9 v10 v11 wx => ∃ (s6 : Nat) (ρ' : Nat → Nat × Nat) (G' : List (Nat × Gm)) (ga : Option Addr) (gc : Nat), v9 = .pointer (some ⟨s6, 0, none⟩) ∧ v10 = .bool r.1.isSome ∧ v11 = .slice ga r.2.1.length gc ∧ Hid (PutAft w8.drew wx ρ ρ' b G' r s6 (.slice ga r.2.1.length gc)))
      case first => as_aux_lemma =>
        refine regionJ (fun _ => true) (fun W => Below wS.heap.size wS W) (by kernel_rfl) ?_
        have SB : Below wS.heap.size wS w8.drew := SB0
        refine takeJ (i := 0) (v := .pointer (some ⟨b, 0, none⟩)) 176 rfl rfl (by kernel_rfl) (by kernel_rfl) (by kernel_rfl) (by kernel_rfl) (fun _ _ _ h => h) (.inl ⟨by rfl, fun W hW => exec_move _ _ rfl rfl⟩) (SB) ?_
        try simp only [Act.put, List.setIfInBounds_toArray, List.set_cons_zero, List.set_cons_succ]
        refine takeJ (i := 1) (v := .slice (some ⟨mg, 0, none⟩) n2 mc) 177 rfl rfl (by kernel_rfl) (by kernel_rfl) (by kernel_rfl) (by kernel_rfl) (fun _ _ _ h => h) (.inl ⟨by rfl, fun W hW => exec_move _ _ rfl rfl⟩) (SB) ?_
        try simp only [Act.put, List.setIfInBounds_toArray, List.set_cons_zero, List.set_cons_succ]
        refine takeJ (i := 2) (v := .int .i64 (k : Int)) 178 rfl rfl (by kernel_rfl) (by kernel_rfl) (by kernel_rfl) (by kernel_rfl) (fun _ _ _ h => h) (.inl ⟨by rfl, fun W hW => exec_move _ _ rfl rfl⟩) (SB) ?_
        try simp only [Act.put, List.setIfInBounds_toArray, List.set_cons_zero, List.set_cons_succ]
        refine takeJ (i := 3) (v := .pointer (some ⟨mg, k * 17, none⟩)) 179 rfl rfl (by kernel_rfl) (by kernel_rfl) (by kernel_rfl) (by kernel_rfl) (fun _ _ _ h => h) (.inl ⟨by rfl, fun W hW => exec_ixPi _ _ mg n2 mc k _ rfl rfl rfl rfl hin⟩) (SB) ?_
        try simp only [Act.put, List.setIfInBounds_toArray, List.set_cons_zero, List.set_cons_succ]
        refine takeJ (i := 4) (v := .pointer (some ⟨mg, k * 17, none⟩)) 180 rfl rfl (by kernel_rfl) (by kernel_rfl) (by kernel_rfl) (by kernel_rfl) (fun _ _ _ h => h) (.inl ⟨by rfl, fun W hW => exec_fieldO 34 _ 0 mg (k * 17) (k * 17) rfl rfl (fun w => by kernel_rfl)⟩) (SB) ?_
        try simp only [Act.put, List.setIfInBounds_toArray, List.set_cons_zero, List.set_cons_succ]
        refine takeJ (i := 5) (v := .agg X.toArray) 181 rfl rfl (by kernel_rfl) (by kernel_rfl) (by kernel_rfl) (by kernel_rfl) (fun _ _ _ h => h) (.inl ⟨by rfl, fun W hW => exec_loadA 26 16 aggP sizP _ rfl mg (k * 17) rfl X LX.out (CX.out W hW)⟩) (SB) ?_
        try simp only [Act.put, List.setIfInBounds_toArray, List.set_cons_zero, List.set_cons_succ]
        refine takeJ (i := 6) (v := .slice (some ⟨mg, 0, none⟩) n2 mc) 182 rfl rfl (by kernel_rfl) (by kernel_rfl) (by kernel_rfl) (by kernel_rfl) (fun _ _ _ h => h) (.inl ⟨by rfl, fun W hW => exec_move _ _ rfl rfl⟩) (SB) ?_
        try simp only [Act.put, List.setIfInBounds_toArray, List.set_cons_zero, List.set_cons_succ]
        refine takeJ (i := 7) (v := .int .i64 (k : Int)) 183 rfl rfl (by kernel_rfl) (by kernel_rfl) (by kernel_rfl) (by kernel_rfl) (fun _ _ _ h => h) (.inl ⟨by rfl, fun W hW => exec_move _ _ rfl rfl⟩) (SB) ?_
        try simp only [Act.put, List.setIfInBounds_toArray, List.set_cons_zero, List.set_cons_succ]
        refine takeJ (i := 8) (v := .pointer (some ⟨mg, k * 17, none⟩)) 184 rfl rfl (by kernel_rfl) (by kernel_rfl) (by kernel_rfl) (by kernel_rfl) (fun _ _ _ h => h) (.inl ⟨by rfl, fun W hW => exec_ixPi _ _ mg n2 mc k _ rfl rfl rfl rfl hin⟩) (SB) ?_
        try simp only [Act.put, List.setIfInBounds_toArray, List.set_cons_zero, List.set_cons_succ]
        refine takeJ (i := 9) (v := .pointer (some ⟨mg, k * 17 + 16, none⟩)) 185 rfl rfl (by kernel_rfl) (by kernel_rfl) (by kernel_rfl) (by kernel_rfl) (fun _ _ _ h => h) (.inl ⟨by rfl, fun W hW => exec_fieldO 34 _ 1 mg (k * 17) (k * 17 + 16) rfl rfl (fun w => by kernel_rfl)⟩) (SB) ?_
        try simp only [Act.put, List.setIfInBounds_toArray, List.set_cons_zero, List.set_cons_succ]
        refine takeJ (i := 10) (v := .slice xa xn xc) 186 rfl rfl (by kernel_rfl) (by kernel_rfl) (by kernel_rfl) (by kernel_rfl) (fun _ _ _ h => h) (.inl ⟨by rfl, fun W hW => exec_load1 24 oneS _ rfl mg (k * 17 + 16) rfl (.slice xa xn xc) (CVV.out W hW)⟩) (SB) ?_
        try simp only [Act.put, List.setIfInBounds_toArray, List.set_cons_zero, List.set_cons_succ]
        refine takeJ (i := 11) (v := .int .i64 (k : Int)) 187 rfl rfl (by kernel_rfl) (by kernel_rfl) (by kernel_rfl) (by kernel_rfl) (fun _ _ _ h => h) (.inl ⟨by rfl, fun W hW => exec_move _ _ rfl rfl⟩) (SB) ?_
        try simp only [Act.put, List.setIfInBounds_toArray, List.set_cons_zero, List.set_cons_succ]
        refine takeJ (i := 12) (v := .int .i64 (100 + (k : Int))) 188 rfl rfl (by kernel_rfl) (by kernel_rfl) (by kernel_rfl) (by kernel_rfl) (fun _ _ _ h => h) (.inl ⟨by rfl, fun W hW => exec_add100 _ _ rfl rfl (by omega)⟩) (SB) ?_
        try simp only [Act.put, List.setIfInBounds_toArray, List.set_cons_zero, List.set_cons_succ]
        refine allJ (rs := [13, 18]) (by kernel_rfl) (by simp) (fun q hq => ?_)
        rcases List.mem_cons.1 hq with rfl | hq
        · refine opJ_call 13 189 rfl rfl (by rfl) 17 #[.pointer (some ⟨b, 0, none⟩), .agg X.toArray, .slice xa xn xc, .int .i64 (100 + (k : Int)), .int .i64 0] (exec_callF _ _ _ _ rfl (map5 rfl rfl rfl rfl rfl) (enters_of Try.func17 (by kernel_rfl) rfl)) _ (PG1.out) ?_
          rintro _ w9 ⟨_, G', hv, dv, bv, ga, gc, rfl, PG⟩
          have S8 : Below wS.heap.size wS w9 := SB.trans (PG.but.below ZB (fun g hg e => e.1 (HI.out.low g hg)))
          refine ⟨fun _ => S8, ?_⟩
          simp only [Act.put, List.setIfInBounds_toArray, List.set_cons_zero, List.set_cons_succ]
          refine takeJ (i := 14) (v := .tuple #[.agg (whC (outP r.1) hv dv bv).toArray, .bool r.1.isSome, .slice ga r.2.1.length gc]) 175 rfl rfl (by kernel_rfl) (by kernel_rfl) (by kernel_rfl) (by kernel_rfl) (fun _ _ _ h => h) (.inl ⟨by rfl, fun W hW => exec_move _ _ rfl rfl⟩) (S8) ?_
          try simp only [Act.put, List.setIfInBounds_toArray, List.set_cons_zero, List.set_cons_succ]
          refine takeJ (i := 15) (v := .agg (whC (outP r.1) hv dv bv).toArray) 190 rfl rfl (by kernel_rfl) (by kernel_rfl) (by kernel_rfl) (by kernel_rfl) (fun _ _ _ h => h) (.inl ⟨by rfl, fun W hW => exec_ext _ 0 [.agg (whC (outP r.1) hv dv bv).toArray, .bool r.1.isSome, .slice ga r.2.1.length gc] _ rfl rfl rfl⟩) (S8) ?_
          try simp only [Act.put, List.setIfInBounds_toArray, List.set_cons_zero, List.set_cons_succ]
          refine takeJ (i := 16) (v := .bool r.1.isSome) 191 rfl rfl (by kernel_rfl) (by kernel_rfl) (by kernel_rfl) (by kernel_rfl) (fun _ _ _ h => h) (.inl ⟨by rfl, fun W hW => exec_ext _ 1 [.agg (whC (outP r.1) hv dv bv).toArray, .bool r.1.isSome, .slice ga r.2.1.length gc] _ rfl rfl rfl⟩) (S8) ?_
          try simp only [Act.put, List.setIfInBounds_toArray, List.set_cons_zero, List.set_cons_succ]
          refine takeJ (i := 17) (v := .slice ga r.2.1.length gc) 192 rfl rfl (by kernel_rfl) (by kernel_rfl) (by kernel_rfl) (by kernel_rfl) (fun _ _ _ h => h) (.inl ⟨by rfl, fun W hW => exec_ext _ 2 [.agg (whC (outP r.1) hv dv bv).toArray, .bool r.1.isSome, .slice ga r.2.1.length gc] _ rfl rfl rfl⟩) (S8) ?_
          try simp only [Act.put, List.setIfInBounds_toArray, List.set_cons_zero, List.set_cons_succ]
          obtain ⟨wk, wz, ρ2, hwk, c9, f9, hwz, AF⟩ := PG.aft
          have HWK := hide hwk
          have HWZ := hide hwz
          have one9 := PG.one
          obtain ⟨s6, hs6⟩ : ∃ s6, s6 = w9.heap.size := ⟨_, rfl⟩
          rw [← hs6] at c9 f9 hwz AF HWZ
          have S9 : Below wS.heap.size wS wk := later S8 (by rw [HWK.out]; exact later_alloc _ _)
          have SZ : Below wS.heap.size wS wz := SB.trans (AF.but.below ZB (fun g hg e => e.1 (HI.out.low g hg)))
          refine nextJ (w' := wk) 18 24 (.pointer (some ⟨s6, 0, none⟩)) (by kernel_rfl) rfl rfl (by rfl) ((by rw [HWK.out, hs6]; exact exec_allocWh rfl)) (S9) ?_
          try simp only [Act.put, List.setIfInBounds_toArray, List.set_cons_zero, List.set_cons_succ]
          refine storeJ (w' := wz) 19 (by kernel_rfl) rfl rfl (by rfl) ((by rw [HWZ.out]; exact exec_storeA 49 18 sizWh _ _ rfl s6 0 rfl _ zWh rfl rfl rfl c9 f9 one9)) ((fun _ => SZ)) ?_
          try simp only [Act.put, List.setIfInBounds_toArray, List.set_cons_zero, List.set_cons_succ]
          refine takeJ (i := 20) (v := .bool r.1.isSome) 25 rfl rfl (by kernel_rfl) (by kernel_rfl) (by kernel_rfl) (by kernel_rfl) (fun _ _ _ h => h) (.inl ⟨by rfl, fun W hW => exec_assign _ _ rfl rfl⟩) (SZ) ?_
          try simp only [Act.put, List.setIfInBounds_toArray, List.set_cons_zero, List.set_cons_succ]
          refine takeJ (i := 21) (v := .slice ga r.2.1.length gc) 26 rfl rfl (by kernel_rfl) (by kernel_rfl) (by kernel_rfl) (by kernel_rfl) (fun _ _ _ h => h) (.inl ⟨by rfl, fun W hW => exec_assign _ _ rfl rfl⟩) (SZ) ?_
          try simp only [Act.put, List.setIfInBounds_toArray, List.set_cons_zero, List.set_cons_succ]
          refine doneJ (by kernel_rfl) ?_ _
          have AFH := hide AF
          clear AF PG S8 S9 SZ hwk c9 f9 hwz HWK HWZ one9 hs6
          go_wp2
          go_meet
          exact ⟨s6, _, G', ga, gc, rfl, rfl, rfl, AFH⟩
        · obtain rfl : q = 18 := by simpa using hq
          obtain ⟨w7, hw7⟩ : ∃ w7, w7 = w8.drew.alloc (.cells zWh.toArray 49) := ⟨_, rfl⟩
          have HW7 := hide hw7
          refine opJ_val (w' := w7) 18 24 (.pointer (some ⟨w8.drew.heap.size, 0, none⟩)) rfl rfl (by rfl) (by rw [HW7.out]; exact exec_allocWh rfl) ?_
          have S7 : Below wS.heap.size wS w7 := later SB (by rw [HW7.out]; exact later_alloc _ _)
          refine ⟨fun _ => S7, ?_⟩
          simp only [Act.put, List.setIfInBounds_toArray, List.set_cons_zero, List.set_cons_succ]
          refine callJ 13 189 (by kernel_rfl) rfl rfl (by rfl) 17 #[.pointer (some ⟨b, 0, none⟩), .agg X.toArray, .slice xa xn xc, .int .i64 (100 + (k : Int)), .int .i64 0] (exec_callF _ _ _ _ rfl (map5 rfl rfl rfl rfl rfl) (enters_of Try.func17 (by kernel_rfl) rfl)) _ (PG2.out w7 HW7.out) ?_
          rintro _ w9 ⟨ρ2, G', hv, dv, bv, ga, gc, rfl, PG⟩
          have S8 : Below wS.heap.size wS w9 := S7.trans (PG.but.below S7.size (fun g hg e => e.1 (by rw [cutR_lt (by omega)]; exact HI.out.low g hg)))
          refine ⟨S8, ?_⟩
          simp only [Act.put, List.setIfInBounds_toArray, List.set_cons_zero, List.set_cons_succ]
          refine takeJ (i := 14) (v := .tuple #[.agg (whC (outP r.1) hv dv bv).toArray, .bool r.1.isSome, .slice ga r.2.1.length gc]) 175 rfl rfl (by kernel_rfl) (by kernel_rfl) (by kernel_rfl) (by kernel_rfl) (fun _ _ _ h => h) (.inl ⟨by rfl, fun W hW => exec_move _ _ rfl rfl⟩) (S8) ?_
          try simp only [Act.put, List.setIfInBounds_toArray, List.set_cons_zero, List.set_cons_succ]
          refine takeJ (i := 15) (v := .agg (whC (outP r.1) hv dv bv).toArray) 190 rfl rfl (by kernel_rfl) (by kernel_rfl) (by kernel_rfl) (by kernel_rfl) (fun _ _ _ h => h) (.inl ⟨by rfl, fun W hW => exec_ext _ 0 [.agg (whC (outP r.1) hv dv bv).toArray, .bool r.1.isSome, .slice ga r.2.1.length gc] _ rfl rfl rfl⟩) (S8) ?_
          try simp only [Act.put, List.setIfInBounds_toArray, List.set_cons_zero, List.set_cons_succ]
          refine takeJ (i := 16) (v := .bool r.1.isSome) 191 rfl rfl (by kernel_rfl) (by kernel_rfl) (by kernel_rfl) (by kernel_rfl) (fun _ _ _ h => h) (.inl ⟨by rfl, fun W hW => exec_ext _ 1 [.agg (whC (outP r.1) hv dv bv).toArray, .bool r.1.isSome, .slice ga r.2.1.length gc] _ rfl rfl rfl⟩) (S8) ?_
          try simp only [Act.put, List.setIfInBounds_toArray, List.set_cons_zero, List.set_cons_succ]
          refine takeJ (i := 17) (v := .slice ga r.2.1.length gc) 192 rfl rfl (by kernel_rfl) (by kernel_rfl) (by kernel_rfl) (by kernel_rfl) (fun _ _ _ h => h) (.inl ⟨by rfl, fun W hW => exec_ext _ 2 [.agg (whC (outP r.1) hv dv bv).toArray, .bool r.1.isSome, .slice ga r.2.1.length gc] _ rfl rfl rfl⟩) (S8) ?_
          try simp only [Act.put, List.setIfInBounds_toArray, List.set_cons_zero, List.set_cons_succ]
          obtain ⟨c9, f9, wz, hwz, AF⟩ := PG.aft2 HW7.out
          have HWZ := hide hwz
          have one9 := PG.one
          have SZ : Below wS.heap.size wS wz := SB.trans (AF.but.below ZB (fun g hg e => e.1 (HI.out.low g hg)))
          refine storeJ (w' := wz) 19 (by kernel_rfl) rfl rfl (by rfl) ((by rw [HWZ.out]; exact exec_storeA 49 18 sizWh _ _ rfl w8.drew.heap.size 0 rfl _ zWh rfl rfl rfl c9 f9 one9)) ((fun _ => SZ)) ?_
          try simp only [Act.put, List.setIfInBounds_toArray, List.set_cons_zero, List.set_cons_succ]
          refine takeJ (i := 20) (v := .bool r.1.isSome) 25 rfl rfl (by kernel_rfl) (by kernel_rfl) (by kernel_rfl) (by kernel_rfl) (fun _ _ _ h => h) (.inl ⟨by rfl, fun W hW => exec_assign _ _ rfl rfl⟩) (SZ) ?_
          try simp only [Act.put, List.setIfInBounds_toArray, List.set_cons_zero, List.set_cons_succ]
          refine takeJ (i := 21) (v := .slice ga r.2.1.length gc) 26 rfl rfl (by kernel_rfl) (by kernel_rfl) (by kernel_rfl) (by kernel_rfl) (fun _ _ _ h => h) (.inl ⟨by rfl, fun W hW => exec_assign _ _ rfl rfl⟩) (SZ) ?_
          try simp only [Act.put, List.setIfInBounds_toArray, List.set_cons_zero, List.set_cons_succ]
          refine doneJ (by kernel_rfl) ?_ _
          have AFH := hide AF
          clear AF PG S7 S8 SZ hw7 HW7 c9 f9 hwz HWZ one9
          go_wp2
          go_meet
          exact ⟨_, _, G', ga, gc, rfl, rfl, rfl, AFH⟩
      obtain ⟨s6, ρ6, G6, ga, gc, rfl, rfl, rfl, AFH⟩ := hcut
      obtain ⟨w6, hw6⟩ : ∃ w9, w9 = wc := ⟨_, rfl⟩
      rw [← hw6] at AFH ⊢
      clear hw6 PG1 PG2 LX CX CVV
      have AF := AFH.out
      obtain ⟨hv, dv, bv, τ, t0, x1, x2, x3, x4, x5⟩ := AF.x
      have I6 : Hid (∃ ρ G, AwM wS b ρ G w6 ∧ OkS (absG G) ∧ Ap p.kd o.kd l1 l2 0 100 i (k + 1) (absG G)) :=
        ⟨ρ6, G6, HI.out.step AF.fr AF.old AF.but, by rw [AF.ab, ← HR.out]; exact HO.out.put _ _ _ _, by rw [AF.ab]; exact HAP.out.swap⟩
      have BD6 : Below w0.heap.size w0 w6 := (BW60.out.trans ((later HI.out.bel (later_drew w8)).mono BW60.out.size)).trans (AF.but.below (by have := BW60.out.size; omega) (fun g hg e => e.1 (HI.out.low g (by have := BW60.out.size; omega))))
      have so := conv_str ((HE0.out.later BD6).isB)
      have CP : w6.cell? ⟨s6, 16, none⟩ = some dv := by
        have h := x1
        unfold whC at h
        rw [CellsAt.append] at h
        exact h.2 0 _ rfl
      have su := conv_str x2.cn.isB
      obtain ⟨ya, yc, hyd⟩ := x2.shape
      obtain ⟨iS, hiS⟩ : ∃ q, q = r.1.isSome := ⟨_, rfl⟩
      obtain ⟨gl, hgl⟩ : ∃ q, q = r.2.1.length := ⟨_, rfl⟩
      have gl0 : gl = 0 := by rw [hgl, HR2.out]; rfl
      subst gl0
      have HIS : Hid (iS = decide (k + 1 = n2)) := by rw [hiS]; exact HR1.out
      have HSD : Hid (iS = true → outD r.1 = E) := fun e => HR3.out (by rw [← hiS]; exact e)
      rw [← hiS, ← hgl]
      clear hiS hgl AF AFH t0 x1 x3 x4 x5 HR HR1 HR2 HR3 HAP HI HO HA BD6 SB0 ZB
      by_cases hl : k + 1 = n2
      · have zl : (((k : Nat) : Int) + 1 == (n2 : Int)) = true := by simp; omega
        have e1 : iS = true := by rw [HIS.out]; exact decide_eq_true hl
        have e2 := HSD.out e1
        subst e1
        rw [e2] at su x2 hyd
        rw [hyd] at su CP
        rw [← HEN.out] at su CP
        clear HIS HSD x2 hyd e2
        go_wp2_with fail
        go_roundw
        case rel => exact ⟨i, k + 1, n + 1, rfl, by go_num, by go_num, by omega, by omega, by have := HN.out; omega, I6⟩
        case measure => have := HN.out; simp [intOf]; omega
      · have zl : (((k : Nat) : Int) + 1 == (n2 : Int)) = false := by simp; omega
        have e1 : iS = false := by rw [HIS.out]; exact decide_eq_false hl
        subst e1
        clear HIS HSD x2 hyd su CP so
        go_wp2_with fail
        go_roundw
        case rel => exact ⟨i, k + 1, n + 1, rfl, by go_num, by go_num, by omega, by omega, by have := HN.out; omega, I6⟩
        case measure => have := HN.out; simp [intOf]; omega
end Go.Proofs.Ytgempelfamjabaa

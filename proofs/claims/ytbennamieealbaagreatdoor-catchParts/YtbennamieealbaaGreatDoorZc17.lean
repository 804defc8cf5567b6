/-
  Parts of a proof, joined.
-/
import Derived.Test.YtbennamieealbaaGreatDoorZc16
import Derived.Test.YtbennamieealbaaGreatDoorZc15
import Derived.Test.YtbennamieealbaaGreatDoorZc13
import Derived.Deep.RegionLaw
set_option linter.unusedVariables false
set_option maxRecDepth 100000
set_option maxHeartbeats 3200000
namespace Go.Proofs.YtbennamieealbaaGreatDoor
open Go.ChangeShapes Go.WideShapes Go.ChangeAt Go.RowKit
section
variable {F : Fx} {W : World} {M M' : Mach} {tk : Tk}
theorem zqu:∀ s:Nat,s<256->bits .and .u8 (s:Int) 2=((s:Int)/2%2)*2:=by decide +kernel
theorem zgi (s:Int) (h:0<=s/\s<=255):bits .and .u8 s 2=s/2%2*2:=by
 obtain ⟨k,rfl⟩:=Int.eq_ofNat_of_zero_le h.1
 exact zqu k (by omega)
theorem zbO (x:Int):(x%2=0/\odd x=false) \/ (x%2=1/\odd x=true):=by
 unfold odd
 rcases (by omega:x%2=0 \/ x%2=1) with h|h
 ·exact Or.inl ⟨h,by rw [h];rfl⟩
 ·exact Or.inr ⟨h,by rw [h];rfl⟩
theorem zlW {l:Bool} {a b:Int} (ha:bd16 a) (hb:bd16 b):bd16 (sel l a b):=zig (P:=bd16) l ha hb
theorem TM.put_bd {t:TM} (n:Int) (h1:bd16 t.r) (h2:bd16 t.c):bd16 (t.put n).r/\bd16 (t.put n).c:=⟨h1,zlW h1 h2⟩
theorem zjS (h:Bd F W M tk) (n:Int) (hn:0<=n/\n<=255):Calls Tryz.prog 167 #[pt F.g 0,.int .u8 n] W λe w'=>e = .returned (.tuple #[])/\Bd F w' (M.putM 4 n) tk/\Bt F W w':=by
 have c0:=h.at 41 (.int .u16 M.t.r) rfl
 have c1:=h.at 42 (.int .u16 M.t.c) rfl
 have c2:=h.at 43 (.bool M.t.on) rfl
 have c3:=h.at 44 (.bool M.t.g) rfl
 have ff:=h.bx.f
 have hg:=h.bx.z
 have H:=hid h
 have hk:=TM.put_bd (t:=M.t) n h.fit.tr h.fit.tc
 have a1:=zdA n hn
 have a2:=zgi n hn
 have e0:M.putM 4 n={ M with t:=M.t.put n }:=rfl
 rw [e0]
 have hf:Mach.fit { M with t:=M.t.put n }:={ H.out.fit with main:=H.out.fit.main,tr:=hk.1,tc:=hk.2 }
 have HF:=hid hf
 clear h hf e0
 rcases zbO n with ⟨p,q⟩|⟨p,q⟩
 all_goals
  rw [p] at a1
  rcases zbO (n/2) with ⟨r,s⟩|⟨r,s⟩
 all_goals
  rw [r] at a2
  have HQ:=hid q
  have HS:=hid s
  clear p q r s
 ·go_enter Tryz.func167,Tryz.ntmps167
  go_wp2_with (go_at_call 221;refine (zgh _ _ _ _ _ _).mono ?_;rintro e w1 ⟨rfl,hb1⟩;obtain ⟨k1,f1⟩:=bcell hb1;have z2:F.g<w1.heap.size:=zdl hg hb1 (by simp))
  go_end0
  refine ⟨rfl,?_,?_⟩
  ·exact (H.out.kept hb1).puts (M':={ M with t:=M.t.put n }) (tk':=tk) 41 [.int .u16 M.t.r,.int .u16 (sel false M.t.r M.t.c),.bool false,.bool M.t.g] (by simp) (by unfold TM.put;rw [HQ.out,HS.out];rfl) ⟨rfl,rfl,rfl,rfl,rfl⟩ HF.out
  ·exact Bt.sets H.out.nd [.int .u16 M.t.r,.int .u16 (sel false M.t.r M.t.c),.bool false,.bool M.t.g] 41 _ (Bt.kept (Bt.refl F W) H.out.big hb1)
 ·go_enter Tryz.func167,Tryz.ntmps167
  go_wp2_with (go_at_call 221;refine (zgh _ _ _ _ _ _).mono ?_;rintro e w1 ⟨rfl,hb1⟩;obtain ⟨k1,f1⟩:=bcell hb1;have z2:F.g<w1.heap.size:=zdl hg hb1 (by simp))
  go_end0
  refine ⟨rfl,?_,?_⟩
  ·exact ((H.out.kept hb1).puts (M':={ M with t:=⟨M.t.r,sel false M.t.r M.t.c,false,M.t.g⟩ }) (tk':=tk) 41 [.int .u16 M.t.r,.int .u16 (sel false M.t.r M.t.c),.bool false,.bool M.t.g] (by simp) rfl ⟨rfl,rfl,rfl,rfl,rfl⟩ { H.out.fit with main:=H.out.fit.main,tr:=H.out.fit.tr,tc:=zlW (l:=false) (a:=M.t.r) (b:=M.t.c) H.out.fit.tr H.out.fit.tc }).put 44 (.bool false) (by omega) (by unfold TM.put;rw [HQ.out,HS.out];rfl) ⟨rfl,rfl,rfl,rfl,rfl⟩ HF.out
  ·exact Bt.set H.out.nd (Bt.sets H.out.nd [.int .u16 M.t.r,.int .u16 (sel false M.t.r M.t.c),.bool false,.bool M.t.g] 41 _ (Bt.kept (Bt.refl F W) H.out.big hb1)) 44 _
 ·go_enter Tryz.func167,Tryz.ntmps167
  go_wp2_with (go_at_call 221;refine (zgh _ _ _ _ _ _).mono ?_;rintro e w1 ⟨rfl,hb1⟩;obtain ⟨k1,f1⟩:=bcell hb1;have z2:F.g<w1.heap.size:=zdl hg hb1 (by simp))
  go_end0
  refine ⟨rfl,?_,?_⟩
  ·exact (H.out.kept hb1).puts (M':={ M with t:=M.t.put n }) (tk':=tk) 41 [.int .u16 M.t.r,.int .u16 (sel true M.t.r M.t.c),.bool true,.bool M.t.g] (by simp) (by unfold TM.put;rw [HQ.out,HS.out];rfl) ⟨rfl,rfl,rfl,rfl,rfl⟩ HF.out
  ·exact Bt.sets H.out.nd [.int .u16 M.t.r,.int .u16 (sel true M.t.r M.t.c),.bool true,.bool M.t.g] 41 _ (Bt.kept (Bt.refl F W) H.out.big hb1)
 ·go_enter Tryz.func167,Tryz.ntmps167
  go_wp2_with (go_at_call 221;refine (zgh _ _ _ _ _ _).mono ?_;rintro e w1 ⟨rfl,hb1⟩;obtain ⟨k1,f1⟩:=bcell hb1;have z2:F.g<w1.heap.size:=zdl hg hb1 (by simp))
  go_end0
  refine ⟨rfl,?_,?_⟩
  ·exact ((H.out.kept hb1).puts (M':={ M with t:=⟨M.t.r,sel true M.t.r M.t.c,true,M.t.g⟩ }) (tk':=tk) 41 [.int .u16 M.t.r,.int .u16 (sel true M.t.r M.t.c),.bool true,.bool M.t.g] (by simp) rfl ⟨rfl,rfl,rfl,rfl,rfl⟩ { H.out.fit with main:=H.out.fit.main,tr:=H.out.fit.tr,tc:=zlW (l:=true) (a:=M.t.r) (b:=M.t.c) H.out.fit.tr H.out.fit.tc }).put 44 (.bool false) (by omega) (by unfold TM.put;rw [HQ.out,HS.out];rfl) ⟨rfl,rfl,rfl,rfl,rfl⟩ HF.out
  ·exact Bt.set H.out.nd (Bt.sets H.out.nd [.int .u16 M.t.r,.int .u16 (sel true M.t.r M.t.c),.bool true,.bool M.t.g] 41 _ (Bt.kept (Bt.refl F W) H.out.big hb1)) 44 _
end
section
variable {F : Fx} {W : World} {M M' : Mach} {tk : Tk}
theorem zci (M:Mach) (a:Int):0<=M.lookM a/\M.lookM a<=255:=by
 unfold Mach.lookM romAt
 split
 ·split
  ·exact zc8 _ _
  ·omega
 ·split
  ·exact zc8 _ _
  ·split
   ·exact zc8 _ _
   ·omega
theorem zlX (M:Mach) (k:Nat):(M.xfer k).fr=M.fr/\(M.xfer k).to=M.to/\(M.xfer k).mrom=M.mrom/\(M.xfer k).ram=M.ram/\(M.xfer k).video.length=M.video.length/\{ M.xfer k with video:=M.video }=M:=by
 induction k with
 | zero=>exact ⟨rfl,rfl,rfl,rfl,rfl,rfl⟩
 | succ k ih =>
  obtain ⟨h1,h2,h3,h4,h5,h6⟩:=ih
  exact ⟨h1,h2,h3,h4,by simp [Mach.xfer,zch,h5],h6⟩
theorem Bd.xf (h:Bd F W M tk) (cap:Nat) (hc:F.S.vi = .slice (some ⟨F.vi,0,none⟩) 256 cap):W.cell? ⟨F.g,34,none⟩=some (.slice (some ⟨F.vi,0,none⟩) 256 cap)/\W.cell? ⟨F.g,65,none⟩=some (.int .u16 M.fr)/\W.cell? ⟨F.g,66,none⟩=some (.int .u16 M.to) :=
 ⟨by rw [<- hc];exact h.at 34 _ rfl,h.at 65 _ rfl,h.at 66 _ rfl⟩
theorem zqv {a b c:Value} {o:Nat} {v:Value} (hne:F.g≠F.vi) (h:W.cell? ⟨F.g,34,none⟩=some a/\W.cell? ⟨F.g,65,none⟩=some b/\W.cell? ⟨F.g,66,none⟩=some c) :
 (W.setCell ⟨F.vi,o,none⟩ v).drew.cell? ⟨F.g,34,none⟩=some a/\(W.setCell ⟨F.vi,o,none⟩ v).drew.cell? ⟨F.g,65,none⟩=some b/\(W.setCell ⟨F.vi,o,none⟩ v).drew.cell? ⟨F.g,66,none⟩=some c :=
 ⟨zcO hne h.1,zcO hne h.2.1,zcO hne h.2.2⟩
theorem zlY (h:Bd F W M tk) (n:Int) (hn:0<=n/\n<=255) (htk:0<=tk.n/\tk.n<=1000000000000):Calls Tryz.prog 172 #[pt F.g 0,.int .u8 n] W λe w'=>e = .returned (.tuple #[])/\Bd F w' (M.putM 14 n) (tk.add (2*n))/\Bt F W w':=by
 obtain ⟨cap,hcap,_,_⟩:=h.viV
 have HC:=hid hcap
 obtain ⟨N,rfl⟩:=Int.eq_ofNat_of_zero_le hn.1
 have hN:N<=255:=by omega
 have H:=hid h
 have hfr:=h.fit.fr
 have hto:=h.fit.to
 have hne:=h.nd.d.2.2.1
 clear h hcap
 go_enter Tryz.func172,Tryz.ntmps172
 go_wp2
 go_loopw [7] (λi wr=>∃ k:Nat,k<=N/\i = .int .u16 k/\Bd F wr (M.xfer k) tk/\Bt F W wr) (λi _=>N-(intOf i).toNat)
 case atStart=>exact ⟨0,by omega,rfl,H.out,Bt.refl _ _⟩
 case round =>
  obtain ⟨k,hk,rfl,hB,hT⟩:=hrel
  by_cases hlt:k<N
  ·have HB:=hid hB
   have HT:=hid hT
   obtain ⟨r1,r2,_,_,r5,_⟩:=zlX M k
   obtain ⟨c1,c2,c3⟩:=hB.xf cap HC.out
   rw [r1] at c2
   rw [r2] at c3
   have hg:=hB.bx.z
   obtain ⟨v1,v2,v3⟩:=hB.viAt ((M.to+k)%65536%256) (by omega) (by omega)
   have hlt2:(k:Int)<N:=by omega
   have hcell:∀ w:World,Calls Tryz.prog 161 #[.slice (some ⟨F.vi,0,none⟩) 256 cap,.int .u16 ((M.to+k)%65536)] w λe w'=>e = .returned (pt F.vi ((M.to+k)%65536%256).toNat)/\w=w':=λw=>zbv F.vi 256 cap ((M.to+k)%65536) w (by omega) (by omega) (by omega)
   have hput:=hid (HB.out.drew.putVideo ((M.to+k)%65536%256) ((M.xfer k).lookM ((M.fr+k)%65536)) (by omega) (by omega) (zci _ _))
   have hmv:=hid (Bt.setV HB.out.nd HT.out.drew ((M.to+k)%65536%256).toNat (.int .u8 ((M.xfer k).lookM ((M.fr+k)%65536))))
   clear hB hT
   have hlook:=hid (zdU HB.out.drew ((M.fr+k)%65536) (by omega))
   generalize hj:((M.to+k)%65536%256).toNat=j at *
   generalize hx:(M.xfer k).lookM ((M.fr+k)%65536)=x at *
   have HCL:=hid hcell
   have HJ:=hid hj
   have HXX:=hid hx
   clear hj hx hcell
   go_wp2
   go_region_held3 (λw'=>w'.cell? ⟨F.g,34,none⟩=some (.slice (some ⟨F.vi,0,none⟩) 256 cap)/\w'.cell? ⟨F.g,65,none⟩=some (.int .u16 M.fr)/\w'.cell? ⟨F.g,66,none⟩=some (.int .u16 M.to))
    ((first|(with_reducible exact ⟨c1,c2,c3⟩)|(with_reducible exact zqv hne ⟨c1,c2,c3⟩)|(go_keep;done)))
    ((first
      | (go_at_call 161;refine (HCL.out _).mono ?_;rintro e w1 ⟨rfl,rfl⟩)
      | (go_at_call 184;refine hlook.out.mono ?_;rintro e w1 ⟨rfl,rfl⟩)))
   go_wp2
   go_roundw
   case rel =>
    refine ⟨k+1,by omega,by go_num,?_,hmv.out⟩
    have hp:=hput.out
    rw [<- HXX.out] at hp
    rw [<- HXX.out]
    exact hp
   case measure=>simp [intOf];omega
  ·obtain rfl:k=N:=by omega
   have c1:=hB.at 75 (.int .i64 tk.n) rfl
   have f1:=hB.bx.f 75
   have hg:=hB.bx.z
   have HB:=hid hB
   have HT:=hid hT
   have e0:M.putM 14 (k:Int)=M.xfer k:=by show M.xfer (k:Int).toNat=_;rw [Int.toNat_natCast]
   have E0:=hid e0
   clear hB hT e0
   go_wp2
   go_end0
   rw [E0.out]
   exact ⟨rfl,HB.out.put 75 _ (by omega) rfl ⟨rfl,rfl,rfl,rfl,rfl⟩ HB.out.fit,HT.out.set HB.out.nd 75 _⟩
end
section
variable {F : Fx} {W : World} {M M' : Mach} {tk : Tk}
theorem zlZ (n:Nat) (a b:Array Value) (w:World):(binOp .eql 119 (.func (.func n) a b) .nilFunc).run Tryz.prog w = .ok (.bool false) w:=by kernel_rfl
abbrev reachV (g o:Nat):Value:=.agg #[mval 92 g o,mval 93 g o]
theorem zdW (g:Nat) (w:World):Calls Tryz.prog 53 #[pt g 0] w λe w'=>e = .returned (reachV g 77)/\Below w.heap.size w w':=by
 go_enter Tryz.func53,Tryz.ntmps53
 go_wp2
 go_region_with fail
 all_goals go_wp2
 all_goals
  refine bodyPost_ret (v:=.agg _) (by simp [results,Tryz.results53,go_sem]) rfl ⟨rfl,?_⟩
  exact (stA (st0 _) _).drew
theorem ze7 (g:Nat) (w:World):Calls Tryz.prog 113 #[pt g 0] w λe w'=>e = .returned (reachV g 143)/\Below w.heap.size w w':=by
 go_enter Tryz.func113,Tryz.ntmps113
 go_wp2
 go_region_with fail
 all_goals go_wp2
 all_goals
  refine bodyPost_ret (v:=.agg _) (by simp [results,Tryz.results113,go_sem]) rfl ⟨rfl,?_⟩
  exact (stA (st0 _) _).drew
def ReadsAt (F:Fx) (M:Mach) (tk:Tk) (o:Nat) (a x:Int):Prop:=∀ W,Bd F W M tk->Calls Tryz.prog 92 #[pt F.g o,.int .u16 a] W λe w'=>e = .returned (.int .u8 x)/\Bd F w' M tk/\Bt F W w'
theorem Bu.byte_at (h:Bd F W M tk) (o:Nat) (a x:Int) (hr:ReadsAt F M tk o a x):Calls Tryz.prog 180 #[reachV F.g o,.int .u16 a] W λe w'=>e = .returned (.int .u8 x)/\Bd F w' M tk/\Bt F W w':=by
 have hn:=zlZ 92 #[pt F.g o] #[]
 have H:=hid h
 clear h
 go_enter Tryz.func180,Tryz.ntmps180
 go_wp2_with (go_at_call 92;refine (hr _ (H.out.over _)).mono ?_;rintro e w1 ⟨rfl,hB1,hT1⟩)
 go_ret
 exact ⟨rfl,hB1,Mv.trans (Mv.of_below H.out.big (stA (st0 _) _)) hT1⟩
end
section
variable {F : Fx} {W : World} {M : Mach} {tk : Tk}
theorem zl0 (h:Bd F W M tk) (a:Int) (ha:0<=a/\a<=65535) (hp:∀ i,i<32->GetA F M tk i) :
 Calls Tryz.prog 92 #[pt F.g 143,.int .u16 a] W λe w'=>e = .returned (.int .u8 (M.rdA a).1)/\Bd F w' (M.rdA a).2 tk/\Bt F W w':=by
 unfold Mach.rdA
 cases hP:isPort a
 ·have hl:=hid (zhE h a ha)
  have hP':=hid hP
  have H:=hid h
  clear h hP hp
  go_enter Tryz.func92,Tryz.ntmps92
  go_wp2_with (first
   | (go_at_call 182;refine (zal a _ ha).mono ?_;rw [hP'.out];rintro e w1 ⟨rfl,rfl⟩)
   | (go_at_call 184;refine hl.out.mono ?_;rintro e w1 ⟨rfl,rfl⟩))
  go_ret
  exact ⟨rfl,H.out,Bt.refl _ _⟩
 ·obtain ⟨n,hn⟩:∃ n:Nat,a%32=n:=⟨(a%32).toNat,by omega⟩
  have hn2:n<32:=by omega
  have hm:Int.tmod a 32=n:=by rw [Int.tmod_eq_emod_of_nonneg ha.1,hn]
  have hq:=hid (hp n hn2 W h)
  have hP':=hid hP
  have e0:portNo a=n:=by unfold portNo;omega
  rw [e0]
  obtain ⟨c0,c1⟩:=h.pA n hn2
  have hg:=h.bx.z
  have hn3:(n:Int)<32:=by omega
  clear h hP hp e0
  generalize F.rdA n=vr at *
  generalize F.wrA n=vw at *
  go_enter Tryz.func92,Tryz.ntmps92
  go_wp2_with (first
   | (go_at_call 182;refine (zal a _ ha).mono ?_;rw [hP'.out];rintro e w1 ⟨rfl,rfl⟩)
   | (go_at_call 183;refine hq.out.mono ?_;rintro e w1 ⟨rfl,hB1,hB2⟩))
  go_ret
  exact ⟨rfl,hB1,hB2⟩
theorem zjT (h:Bd F W M tk) (a n:Int) (ha:0<=a/\a<=65535) (hn:0<=n/\n<=255) (hp:∀ i,i<32->PutM F M tk i n) :
 Calls Tryz.prog 93 #[pt F.g 77,.int .u16 a,.int .u8 n] W λe w'=>e = .returned (.tuple #[])/\Bd F w' (M.wrM a n) (tk.add (tookM a n))/\Bt F W w':=by
 unfold Mach.wrM tookM
 cases hP:isPort a
 ·have hm:=hid (zi9 h a ha)
  have e77:=h.at 78 (mval 87 F.g 0) rfl
  have hP':=hid hP
  have H:=hid h
  have hg:=h.bx.z
  clear h hP hp
  simp only [Bool.false_eq_true,if_false,Tk.add_zero]
  unfold Mach.memM
  unfold Fx.memM at hm
  by_cases h1:a<32768
  ·rw [if_pos h1]
   rw [if_pos h1] at hm
   go_enter Tryz.func93,Tryz.ntmps93
   go_wp2_with (first
    | (go_at_call 182;refine (zal a _ ha).mono ?_;rw [hP'.out];rintro e w1 ⟨rfl,rfl⟩)
    | (go_at_call 87;refine hm.out.mono ?_;rintro e w1 ⟨rfl,rfl⟩))
   go_end0
   exact ⟨rfl,H.out,Bt.refl _ _⟩
  ·rw [if_neg h1]
   rw [if_neg h1] at hm
   by_cases h2:a<49152
   ·rw [if_pos h2]
    rw [if_pos h2] at hm
    obtain ⟨ec,ez,ef⟩:=H.out.ramAt ((a-32768)%128) (by omega) (by omega)
    go_enter Tryz.func93,Tryz.ntmps93
    go_wp2_with (first
     | (go_at_call 182;refine (zal a _ ha).mono ?_;rw [hP'.out];rintro e w1 ⟨rfl,rfl⟩)
     | (go_at_call 87;refine hm.out.mono ?_;rintro e w1 ⟨rfl,rfl⟩))
    go_end0
    exact ⟨rfl,H.out.putRam _ n (by omega) (by omega) hn,(Bt.refl _ _).setR H.out.nd _ _⟩
   ·rw [if_neg h2]
    rw [if_neg h2] at hm
    by_cases h3:a<53248
    ·rw [if_pos h3]
     rw [if_pos h3] at hm
     obtain ⟨ec,ez,ef⟩:=H.out.viAt ((a-49152)%256) (by omega) (by omega)
     go_enter Tryz.func93,Tryz.ntmps93
     go_wp2_with (first
      | (go_at_call 182;refine (zal a _ ha).mono ?_;rw [hP'.out];rintro e w1 ⟨rfl,rfl⟩)
      | (go_at_call 87;refine hm.out.mono ?_;rintro e w1 ⟨rfl,rfl⟩))
     go_end0
     exact ⟨rfl,H.out.putVideo _ n (by omega) (by omega) hn,(Bt.refl _ _).setV H.out.nd _ _⟩
    ·rw [if_neg h3]
     rw [if_neg h3] at hm
     go_enter Tryz.func93,Tryz.ntmps93
     go_wp2_with (first
      | (go_at_call 182;refine (zal a _ ha).mono ?_;rw [hP'.out];rintro e w1 ⟨rfl,rfl⟩)
      | (go_at_call 87;refine hm.out.mono ?_;rintro e w1 ⟨rfl,rfl⟩))
     go_end0
     exact ⟨rfl,H.out,Bt.refl _ _⟩
 ·obtain ⟨k,hk⟩:∃ k:Nat,a%32=k:=⟨(a%32).toNat,by omega⟩
  have hk2:k<32:=by omega
  have hm:Int.tmod a 32=k:=by rw [Int.tmod_eq_emod_of_nonneg ha.1,hk]
  have hq:=hid (hp k hk2 W h)
  have hP':=hid hP
  have e0:portNo a=k:=by unfold portNo;omega
  simp only [if_true]
  rw [e0]
  obtain ⟨c0,c1⟩:=h.pM k hk2
  have hg:=h.bx.z
  have hk3:(k:Int)<32:=by omega
  clear h hP hp e0
  generalize F.rdM k=vr at *
  generalize F.wrM k=vw at *
  go_enter Tryz.func93,Tryz.ntmps93
  go_wp2_with (first
   | (go_at_call 182;refine (zal a _ ha).mono ?_;rw [hP'.out];rintro e w1 ⟨rfl,rfl⟩)
   | (go_at_call 185;refine hq.out.mono ?_;rintro e w1 ⟨rfl,hB1,hB2⟩))
  go_end0
  exact ⟨rfl,hB1,hB2⟩
end
section
variable {F : Fx} {W : World} {M M' : Mach} {tk : Tk}
theorem Bd.fresh (h:Bd F W M tk) (ht:F.T W.heap.size):False:=by
 have h1:=h.bx.z
 obtain ⟨_,_,_,h2⟩:=h.ramV
 obtain ⟨_,_,_,h3⟩:=h.ownV
 obtain ⟨_,_,_,h4⟩:=h.viV
 have h2:=h2.z
 have h3:=h3.z
 have h4:=h4.z
 rcases ht with e|e|e|e <;> omega
theorem zjU (h:Bd F W M tk) (o:Nat) (x0 x1:Int) (h0:ReadsAt F M tk o 0 x0) (h1:ReadsAt F M tk o 1 x1) (b0:0<=x0/\x0<=255) (b1:0<=x1/\x1<=255) :
 Calls Tryz.prog 91 #[reachV F.g o,.int .u16 0] W λe w'=>e = .returned (.int .u16 (x0*256+x1))/\Bd F w' M tk/\Bt F W w':=by
 have H:=hid h
 have hB:=h.big
 clear h
 go_enter Tryz.func91,Tryz.ntmps91
 go_wp2_with (first
  | (go_at_call 181;refine (zcK x0 x1 _ b0 b1).mono ?_;rintro e w3 ⟨rfl,rfl⟩)
  | (go_at_call 180;refine (Bu.byte_at HB1.out o 1 x1 h1).mono ?_;rintro e w2 ⟨rfl,hB2,hT2⟩)
  | (go_at_call 180;refine (Bu.byte_at (H.out.over _) o 0 x0 h0).mono ?_;rintro e w1 ⟨rfl,hB1,hT1⟩;have HB1:=hid hB1;have hc:=λi=>hT1.cell (k:=W.heap.size) (by simp) (λht=>H.out.fresh ht) i;have z1:W.heap.size<w1.heap.size:=Nat.lt_of_lt_of_le (by simp) hT1.size))
 go_ret
 exact ⟨rfl,hB2,Mv.trans (Mv.trans (Mv.of_below hB (stA (st0 _) _)) hT1) hT2⟩
end
section
variable {F : Fx} {W : World} {M M' : Mach} {tk : Tk}
def begL (x:Int):List Value:=[.int .u16 0,.int .u16 0,.int .u16 0,.int .u16 0,.int .u16 0,.int .u16 0,.int .u16 0,.int .u16 0,.int .u16 x,.bool false,.bool false,.bool false,.bool false,.bool false,.bool false]
theorem zl1 (hi lo:Int):begL (hi*256+lo)=cpuL (beginC hi lo):=rfl
theorem zbT:(Tryz.prog.info? 25).map (·.size)=some 15:=by kernel_rfl
theorem zl2 (x:Int):(#[.int .u16 0,.int .u16 0,.int .u16 0,.int .u16 0,.int .u16 0,.int .u16 0,.int .u16 0,.int .u16 0,.int .u16 x,.bool false,.bool false,.bool false,.bool false,.bool false,.bool false]:Array Value).all (·.oneCell')=true:=by simp [Value.oneCell']
theorem zod {Y:World} {b:Nat} {x:Int} (h:Bx Y b (begL x)):(loadVar 25 ⟨b,0,none⟩).run Tryz.prog Y = .ok (.agg (begL x).toArray) Y :=
 run_loadVar_mid Y b 0 25 _ _ h.c Tryz.underlying25 rfl zbT
theorem Rw.off {v:Value} {k:Nat} {l0 l:List UInt8} {w1:World} {b:Nat} (h0:Rw W v k l0) (h:Rw w1 v k l) (hb:W.heap.size<=b) (o:Nat) (vs:List Value):Rw (w1.setCells b o vs) v k l:=by
 rcases h with h|⟨cap,e,hl,hx⟩
 ·exact Or.inl h
 ·rcases h0 with ⟨e0,_⟩|⟨cap0,e0,_,hx0⟩
  ·rw [e0] at e;cases e
  ·exact Or.inr ⟨cap,e,hl,hx.fars (by have:=hx0.z;omega) o vs⟩
theorem Bd.off {M0:Mach} {w1:World} {b:Nat} (h0:Bd F W M0 tk) (h:Bd F w1 M tk) (hb:W.heap.size<=b) (o:Nat) (vs:List Value):Bd F (w1.setCells b o vs) M tk:=by
 refine ⟨h.bx.fars (by have:=h0.bx.z;omega) o vs,h0.mr.off h.mr hb o vs,h0.ar.off h.ar hb o vs,h0.ra.off h.ra hb o vs,h0.ow.off h.ow hb o vs,h0.vi.off h.vi hb o vs,λx u hx=>?_,h.nd,h.fit,by rw [zaQ];exact h.big,zaF h.ws (λk hk=>zad (by have:=(h0.ws.lt k hk).2;omega) _ _ _),h.wd⟩
 have hn:x≠b:=by have:=(h0.env x u hx).1;omega
 obtain ⟨e1,e2⟩:=h.env x u hx
 exact ⟨by rw [zaQ];exact e1,(World.cell?_of_block (w:=w1) (zad hn _ _ _)).trans e2⟩
theorem Bt.off {b:Nat} (hB:F.B<=W.heap.size) (hb:W.heap.size<=b):∀ (vs:List Value) (o:Nat) (w1:World),Bt F W w1->Bt F W (w1.setCells b o vs)
 | [],o,w1,h=>h
 | v::vs,o,w1,h=>Bt.off hB hb vs (o+1) _ (Mv.setCell h (Nat.le_trans hB hb) (Or.inr hb) v)
theorem Bt.below (h:Bd F W M tk) {w0:World} (hb:Below W.heap.size W w0):Bt F W w0:=Mv.of_below h.big hb
theorem zdm (h:Bd F W M tk) (o:Nat) (x0 x1:Int) (h0:ReadsAt F M tk o 0 x0) (h1:ReadsAt F M tk o 1 x1) (b0:0<=x0/\x0<=255) (b1:0<=x1/\x1<=255) :
 Calls Tryz.prog 52 #[reachV F.g o] W λe w'=>e = .returned (.agg (begL (x0*256+x1)).toArray)/\Bd F w' M tk/\Bt F W w':=by
 have H:=hid h
 have hB:=h.big
 clear h
 go_enter Tryz.func52,Tryz.ntmps52
 go_wp2_with (first
  | (go_at_call 91;refine (zjU ((H.out.over _).over _) o x0 x1 h0 h1 b0 b1).mono ?_;rintro e w1 ⟨rfl,hB1,hT1⟩;have HX:=hid (Bx.same (Bx.new _ (begL 0) _ (by simp)) hT1.size (hT1.block (W.heap.size+1) (by simp) (λht=>(H.out.over (.cells #[mval 92 F.g o,mval 93 F.g o] 122)).fresh (by simpa using ht))));have HB1:=hid hB1;have HT1:=hid hT1;clear hB1 hT1)
  | (refine wpList_store_mid rfl 25 _ _ rfl (W.heap.size+1) 0 _ rfl rfl (Bx.there HX.out 0 15 (by simp [begL])) zbT (zl2 _) ?_
     refine Pl.cutL (λY=>Bd F Y M tk/\Bt F W Y/\Bx Y (W.heap.size+1) (begL (x0*256+x1))) ⟨?_,?_,?_⟩ ?_
     ·exact Bd.off H.out HB1.out (Nat.le_succ _) 0 _
     ·exact Bt.off hB (Nat.le_succ _) _ 0 _ (Mv.trans (Bt.below H.out (stA (stA (st0 _) _) _)) HT1.out)
     ·exact HX.out.puts 0 (begL (x0*256+x1)) (by simp [begL])
     rintro Y ⟨hY1,hY2,hY3⟩
     have HY1:=hid hY1
     have HY2:=hid hY2
     have HY3:=hid hY3
     clear hY1 hY2 hY3))
 exact bodyPost_ret (v:=.agg _) (by simp only [results,Tryz.results52];simp;exact Pl.res (zod HY3.out)) rfl ⟨rfl,HY1.out,HY2.out⟩
end
section
variable {F : Fx} {W : World} {M M' : Mach} {tk : Tk}
theorem zcP (M:Mach) (a:Int):0<=M.lookA a/\M.lookA a<=255:=by
 unfold Mach.lookA romAt
 split
 ·split
  ·exact zc8 _ _
  ·omega
 ·split
  ·exact zc8 _ _
  ·split
   ·split
    ·exact zc8 _ _
    ·omega
   ·omega
theorem ze8 (a:Int) (h0:0<=a/\a<=1):ReadsAt F M tk 143 a (M.lookA a):=by
 intro W h
 have hP:isPort a=false:=by unfold isPort;exact decide_eq_false (by omega)
 have hl:=hid (zhE h a (by omega))
 have hP':=hid hP
 have H:=hid h
 clear h hP
 go_enter Tryz.func92,Tryz.ntmps92
 go_wp2_with (first
  | (go_at_call 182;refine (zal a _ (by omega)).mono ?_;rw [hP'.out];rintro e w1 ⟨rfl,rfl⟩)
  | (go_at_call 184;refine hl.out.mono ?_;rintro e w1 ⟨rfl,rfl⟩))
 go_ret
 exact ⟨rfl,H.out,Bt.refl _ _⟩
theorem ze9 (a:Int) (h0:0<=a/\a<=1):ReadsAt F M tk 77 a (M.lookM a):=by
 intro W h
 have hP:isPort a=false:=by unfold isPort;exact decide_eq_false (by omega)
 have hl:=hid (zdU h a (by omega))
 have hP':=hid hP
 have H:=hid h
 clear h hP
 go_enter Tryz.func92,Tryz.ntmps92
 go_wp2_with (first
  | (go_at_call 182;refine (zal a _ (by omega)).mono ?_;rw [hP'.out];rintro e w1 ⟨rfl,rfl⟩)
  | (go_at_call 184;refine hl.out.mono ?_;rintro e w1 ⟨rfl,rfl⟩))
 go_ret
 exact ⟨rfl,H.out,Bt.refl _ _⟩
theorem zhH (h:M.fit) (n:Int):(M.grant n).fit:={ h with main:=h.main }
theorem zpD (x y:Int) (hx:0<=x/\x<=255) (hy:0<=y/\y<=255):(beginC x y).ok:=by
 refine ⟨rfl,λz hz=>?_,?_,?_⟩
 ·have:z=0:=by
   simp only [beginC,C.Cpu.zero,List.mem_cons,List.not_mem_nil,or_false] at hz
   omega
  omega
 ·show 0<=x*256+y;omega
 ·show x*256+y<=65535;omega
theorem zl3 (h:Bd F W M tk) (n:Int) (hn:0<=n/\n<=255) (hh:(M.held && !(odd (n/2)))=false):Calls Tryz.prog 174 #[pt F.g 0,.int .u8 n] W λe w'=>e = .returned (.tuple #[])/\Bd F w' (M.putM 16 n) tk/\Bt F W w':=by
 have c0:=h.at 67 (.bool M.granted) rfl
 have c1:=h.at 68 (.bool M.held) rfl
 have ff:=h.bx.f
 have hg:=h.bx.z
 have H:=hid h
 have a1:=zdA n hn
 have a2:=zgi n hn
 have e0:M.putM 16 n=M.grant n:=by show M.letGo n=_;unfold Mach.letGo;rw [if_neg (by rw [hh];decide)]
 rw [e0]
 have hp:Bd F ((W.setCell ⟨F.g,67,none⟩ (.bool (odd n))).setCell ⟨F.g,68,none⟩ (.bool (odd (n/2)))) (M.grant n) tk :=
  (h.put (M':={ M with granted:=odd n }) (tk':=tk) 67 _ (by omega) rfl ⟨rfl,rfl,rfl,rfl,rfl⟩ { h.fit with main:=h.fit.main }).put 68 _ (by omega) rfl ⟨rfl,rfl,rfl,rfl,rfl⟩ (zhH h.fit n)
 have HP:=hid hp
 clear h e0 hp
 generalize M.held=hd at *
 rcases zbO n with ⟨p,q⟩|⟨p,q⟩
 all_goals
  rw [p] at a1
  rw [q] at HP
  rcases zbO (n/2) with ⟨r,s⟩|⟨r,s⟩
 all_goals
  rw [r] at a2
  rw [s] at HP hh
  clear p q r s
  cases hd
 all_goals first
  | (exfalso;revert hh;decide)
  | (clear hh
     go_enter Tryz.func174,Tryz.ntmps174
     go_wp2
     go_end0
     exact ⟨rfl,HP.out,((Bt.refl _ _).set H.out.nd _ _).set H.out.nd _ _⟩)
end
theorem zao {P:Program} {ops:Array Oper} {op:Oper} {a:Act} {w:World} {K:Act->World->Prop} {Q:Exit->Act->World->Prop} {E:Prop} (hgd:op.guard=none) (ty:TypeId) (x y:Operand) (ho:op.op = .store ty x y)
 (b o:Nat) (cells:Array Value) (hx:a.eval x = .pointer (some ⟨b,o,none⟩)) (hy:a.eval y = .agg cells) (ht:w.there b o cells.size) (hi:(P.info? ty).map (·.size)=some cells.size) (h1:cells.all (·.oneCell')=true)
 (h:K (a.put op.dst undef) (w.setCells b o cells.toList)):if Region.wanted op (yielded ops a.tmps)=true then Oper.wp P op a w K Q else E:=by
 rw [if_pos (by simp [Region.wanted,hgd])]
 exact wp_store_mid ty x y ho b o cells hx hy ht hi h1 h
theorem zgj {P:Program} {ops:Array Oper} {op:Oper} {a:Act} {w:World} {K:Act->World->Prop} {Q:Exit->Act->World->Prop} {E:Prop} (hgd:op.guard=none) (ty:TypeId) (x:Operand) (ho:op.op = .load ty x)
 (b o:Nat) (hx:a.eval x = .pointer (some ⟨b,o,none⟩)) (cs:List Value) (u:TypeDesc) (hc:w.rangeAt b o cs) (hu:P.underlying ty=some u) (hag:u.isRow=true) (hi:(P.info? ty).map (·.size)=some cs.length)
 (h:K (a.put op.dst (.agg cs.toArray)) w):if Region.wanted op (yielded ops a.tmps)=true then Oper.wp P op a w K Q else E:=by
 rw [if_pos (by simp [Region.wanted,hgd])]
 exact wp_load_mid ty x ho b o hx cs u hc hu hag hi h
theorem zbn (C:List Value):∀ (B' B A:List Value),B'.length=B.length->putL (A++(B++C)) A.length B'=A++(B'++C)
 | [],[],A,_=>rfl
 | v::vs,b::bs,A,h=>by
  have e:(A++(b::bs++C)).set A.length v=(A++[v])++(bs++C):=by simp
  have ih:=zbn C vs bs (A++[v]) (by simpa using h)
  simp only [List.length_append,List.length_cons,List.length_nil,Nat.zero_add] at ih
  show putL ((A++(b::bs++C)).set A.length v) (A.length+1) vs=_
  rw [e,ih]
  simp
def rest1 (M:Mach):List Value:=[.int .u8 M.p0.d,.bool M.p0.l,.int .u8 M.p0.s,.int .u8 M.p1.d,.bool M.p1.l,.int .u8 M.p1.s,.int .u16 M.t.r,.int .u16 M.t.c,.bool M.t.on,.bool M.t.g]
def rest2 (M:Mach):List Value:=[.int .i64 M.b.l,.int .i64 M.b.a,.bool M.b.g,.int .i64 M.b.f,.int .u16 M.fr,.int .u16 M.to,.bool M.granted,.bool M.held,.int .u8 M.m0,.int .u8 M.m1,.bool M.rung,.int .i64 M.clock,.int .i64 M.mready,.int .i64 M.aready]
def sndL (s:Sd):List Value:=[.int .u16 s.a.p,.int .u16 s.a.c,.int .u8 s.a.l,.bool s.a.h,.int .u16 s.a.n,.int .u16 s.b.p,.int .u16 s.b.c,.int .u8 s.b.l,.bool s.b.h,.int .u16 s.b.n,.int .u16 s.c.p,.int .u16 s.c.c,.int .u8 s.c.l,.bool s.c.h,.int .u16 s.c.n,.int .i64 s.w]
theorem zoe (M:Mach):restL M=rest1 M++(sndL M.s++rest2 M):=rfl
theorem Fx.putMain (F:Fx) (M:Mach) (tk:Tk) (c:C.Cpu):putL (F.cells M tk) 0 (cpuL c)=F.cells { M with main:=c } tk:=by
 unfold Fx.cells machL
 rw [List.append_assoc]
 exact zbn _ (cpuL c) (cpuL M.main) [] rfl
theorem Fx.putAux (F:Fx) (M:Mach) (tk:Tk) (c:C.Cpu):putL (F.cells M tk) 15 (cpuL c)=F.cells { M with aux:=c } tk:=by
 unfold Fx.cells machL
 simp only [List.append_assoc]
 exact zbn _ (cpuL c) (cpuL M.aux) (cpuL M.main) rfl
theorem Fx.putSnd (F:Fx) (M:Mach) (tk:Tk) (s:Sd):putL (F.cells M tk) 45 (sndL s)=F.cells { M with s:=s } tk:=by
 have e:∀ M:Mach,F.cells M tk=(cpuL M.main++(cpuL M.aux++(slL F.S++rest1 M)))++(sndL M.s++(rest2 M++([.int .i64 tk.n,tk.v]++(F.sideM++F.sideA)))):=by
  intro M
  unfold Fx.cells machL
  rw [zoe]
  simp only [List.append_assoc]
 rw [e M,e]
 exact zbn _ (sndL s) (sndL M.s) (cpuL M.main++(cpuL M.aux++(slL F.S++rest1 M))) rfl
section
variable {F : Fx} {W : World} {M M' : Mach} {tk : Tk}
theorem Bd.auxC (h:Bd F W M tk):W.cell? ⟨F.g,15,none⟩=some (.int .u16 (M.aux.r 0))/\W.cell? ⟨F.g,16,none⟩=some (.int .u16 (M.aux.r 1))/\W.cell? ⟨F.g,17,none⟩=some (.int .u16 (M.aux.r 2))/\W.cell? ⟨F.g,18,none⟩=some (.int .u16 (M.aux.r 3))/\W.cell? ⟨F.g,19,none⟩=some (.int .u16 (M.aux.r 4))/\W.cell? ⟨F.g,20,none⟩=some (.int .u16 (M.aux.r 5))/\W.cell? ⟨F.g,21,none⟩=some (.int .u16 (M.aux.r 6))/\W.cell? ⟨F.g,22,none⟩=some (.int .u16 (M.aux.r 7))/\W.cell? ⟨F.g,23,none⟩=some (.int .u16 M.aux.PC)/\W.cell? ⟨F.g,24,none⟩=some (.bool M.aux.Z)/\W.cell? ⟨F.g,25,none⟩=some (.bool M.aux.N)/\W.cell? ⟨F.g,26,none⟩=some (.bool M.aux.C)/\W.cell? ⟨F.g,27,none⟩=some (.bool M.aux.V)/\W.cell? ⟨F.g,28,none⟩=some (.bool M.aux.May)/\W.cell? ⟨F.g,29,none⟩=some (.bool M.aux.Waits)/\W.cell? ⟨F.g,72,none⟩=some (.int .i64 M.clock)/\W.cell? ⟨F.g,74,none⟩=some (.int .i64 M.aready)/\(∀ o,W.frozen? ⟨F.g,o,none⟩=false)/\F.g<W.heap.size :=
 ⟨h.at 15 _ rfl,h.at 16 _ rfl,h.at 17 _ rfl,h.at 18 _ rfl,h.at 19 _ rfl,h.at 20 _ rfl,h.at 21 _ rfl,h.at 22 _ rfl,h.at 23 _ rfl,h.at 24 _ rfl,h.at 25 _ rfl,h.at 26 _ rfl,h.at 27 _ rfl,h.at 28 _ rfl,h.at 29 _ rfl,h.at 72 _ rfl,h.at 74 _ rfl,h.bx.f,h.bx.z⟩
theorem zhI (h:Bd F W M tk) (o:Nat) (x0 x1:Int) (h0:ReadsAt F M tk o 0 x0) (h1:ReadsAt F M tk o 1 x1) (b0:0<=x0/\x0<=255) (b1:0<=x1/\x1<=255) :
 Calls Tryz.prog 52 #[reachV F.g o] W λe w'=>e = .returned (.agg #[.int .u16 0,.int .u16 0,.int .u16 0,.int .u16 0,.int .u16 0,.int .u16 0,.int .u16 0,.int .u16 0,.int .u16 (x0*256+x1),.bool false,.bool false,.bool false,.bool false,.bool false,.bool false])/\Bd F w' M tk/\Bt F W w':=zdm h o x0 x1 h0 h1 b0 b1
theorem zhJ {b i:Nat} {v:Value}:∀ (vs:List Value) (o:Nat) (w:World),o+vs.length<=i->w.cell? ⟨b,i,none⟩=some v->(w.setCells b o vs).cell? ⟨b,i,none⟩=some v
 | [],o,w,hl,h=>h
 | x::vs,o,w,hl,h=>by
  simp only [List.length_cons] at hl
  exact zhJ vs (o+1) _ (by omega) ((World.cell?_setCell_other _ _ _ _ (by intro e;have:=congrArg Addr.off e;simp at this;omega)).trans h)
theorem zqw {w:World} {b i j:Nat} {v u:Value} (hij:i≠j) (h:w.cell? ⟨b,j,none⟩=some u):(w.setCell ⟨b,i,none⟩ v).drew.cell? ⟨b,j,none⟩=some u :=
 (World.cell?_setCell_other _ _ _ _ (by intro e;exact hij (congrArg Addr.off e))).trans h
theorem nest15 (w:World) (b:Nat) (v0 v1 v2 v3 v4 v5 v6 v7 v8 v9 v10 v11 v12 v13 v14:Value):w.setCells b 15 [v0,v1,v2,v3,v4,v5,v6,v7,v8,v9,v10,v11,v12,v13,v14]=(((((((((((((((w.setCell ⟨b,15,none⟩ v0).setCell ⟨b,16,none⟩ v1).setCell ⟨b,17,none⟩ v2).setCell ⟨b,18,none⟩ v3).setCell ⟨b,19,none⟩ v4).setCell ⟨b,20,none⟩ v5).setCell ⟨b,21,none⟩ v6).setCell ⟨b,22,none⟩ v7).setCell ⟨b,23,none⟩ v8).setCell ⟨b,24,none⟩ v9).setCell ⟨b,25,none⟩ v10).setCell ⟨b,26,none⟩ v11).setCell ⟨b,27,none⟩ v12).setCell ⟨b,28,none⟩ v13).setCell ⟨b,29,none⟩ v14):=by simp only [World.setCells,Nat.reduceAdd]
theorem keep15 {w:World} {b:Nat} {u v0 v1 v2 v3 v4 v5 v6 v7 v8 v9 v10 v11 v12 v13 v14:Value} (h:w.cell? ⟨b,72,none⟩=some u):(((((((((((((((w.setCell ⟨b,15,none⟩ v0).setCell ⟨b,16,none⟩ v1).setCell ⟨b,17,none⟩ v2).setCell ⟨b,18,none⟩ v3).setCell ⟨b,19,none⟩ v4).setCell ⟨b,20,none⟩ v5).setCell ⟨b,21,none⟩ v6).setCell ⟨b,22,none⟩ v7).setCell ⟨b,23,none⟩ v8).setCell ⟨b,24,none⟩ v9).setCell ⟨b,25,none⟩ v10).setCell ⟨b,26,none⟩ v11).setCell ⟨b,27,none⟩ v12).setCell ⟨b,28,none⟩ v13).setCell ⟨b,29,none⟩ v14).cell? ⟨b,72,none⟩=some u:=by
 rw [<- nest15];exact zhJ _ 15 w (by simp) h
theorem keep15d {w:World} {b:Nat} {u x v0 v1 v2 v3 v4 v5 v6 v7 v8 v9 v10 v11 v12 v13 v14:Value} (h:w.cell? ⟨b,72,none⟩=some u):((((((((((((((((w.setCell ⟨b,15,none⟩ v0).setCell ⟨b,16,none⟩ v1).setCell ⟨b,17,none⟩ v2).setCell ⟨b,18,none⟩ v3).setCell ⟨b,19,none⟩ v4).setCell ⟨b,20,none⟩ v5).setCell ⟨b,21,none⟩ v6).setCell ⟨b,22,none⟩ v7).setCell ⟨b,23,none⟩ v8).setCell ⟨b,24,none⟩ v9).setCell ⟨b,25,none⟩ v10).setCell ⟨b,26,none⟩ v11).setCell ⟨b,27,none⟩ v12).setCell ⟨b,28,none⟩ v13).setCell ⟨b,29,none⟩ v14).setCell ⟨b,74,none⟩ x).drew.cell? ⟨b,72,none⟩=some u:=zqw (by omega) (keep15 h)
theorem keep15e {w:World} {b:Nat} {u x v0 v1 v2 v3 v4 v5 v6 v7 v8 v9 v10 v11 v12 v13 v14:Value} (h:w.cell? ⟨b,72,none⟩=some u):((((((((((((((((w.setCell ⟨b,15,none⟩ v0).setCell ⟨b,16,none⟩ v1).setCell ⟨b,17,none⟩ v2).setCell ⟨b,18,none⟩ v3).setCell ⟨b,19,none⟩ v4).setCell ⟨b,20,none⟩ v5).setCell ⟨b,21,none⟩ v6).setCell ⟨b,22,none⟩ v7).setCell ⟨b,23,none⟩ v8).setCell ⟨b,24,none⟩ v9).setCell ⟨b,25,none⟩ v10).setCell ⟨b,26,none⟩ v11).setCell ⟨b,27,none⟩ v12).setCell ⟨b,28,none⟩ v13).setCell ⟨b,29,none⟩ v14).setCell ⟨b,74,none⟩ x).cell? ⟨b,72,none⟩=some u:=(World.cell?_setCell_other _ _ _ _ (by intro e;have:=congrArg Addr.off e;simp at this)).trans (keep15 h)
theorem zl4 (h:Bd F W M tk) (n:Int) (hn:0<=n/\n<=255) (hh:(M.held && !(odd (n/2)))=true):Calls Tryz.prog 174 #[pt F.g 0,.int .u8 n] W λe w'=>e = .returned (.tuple #[])/\Bd F w' (M.putM 16 n) tk/\Bt F W w':=by
 have c0:=h.at 67 (.bool M.granted) rfl
 have c1:=h.at 68 (.bool M.held) rfl
 have ff:=h.bx.f
 have hg:=h.bx.z
 have H:=hid h
 have a1:=zdA n hn
 have a2:=zgi n hn
 have e0:M.putM 16 n={ M.grant n with aux:=beginC ((M.grant n).lookA 0) ((M.grant n).lookA 1),aready:=M.clock }:=by show M.letGo n=_;unfold Mach.letGo;rw [if_pos hh]
 rw [e0]
 have hp:Bd F ((W.setCell ⟨F.g,67,none⟩ (.bool (odd n))).setCell ⟨F.g,68,none⟩ (.bool (odd (n/2)))) (M.grant n) tk :=
  (h.put (M':={ M with granted:=odd n }) (tk':=tk) 67 _ (by omega) rfl ⟨rfl,rfl,rfl,rfl,rfl⟩ { h.fit with main:=h.fit.main }).put 68 _ (by omega) rfl ⟨rfl,rfl,rfl,rfl,rfl⟩ (zhH h.fit n)
 have HP:=hid hp
 have hcl:(M.grant n).clock=M.clock:=rfl
 rw [<- hcl]
 have HF:=hid h.fit
 clear h e0 hp hcl
 generalize hG:M.grant n=G at *
 have HG:=hid hG
 clear hG
 have hd:M.held=true:=by revert hh;cases M.held <;> simp
 have ho:odd (n/2)=false:=by revert hh;cases M.held <;> cases odd (n/2) <;> simp
 rw [hd] at c1
 have r:n/2%2=0:=by rcases zbO (n/2) with ⟨p,q⟩|⟨p,q⟩;exact p;rw [ho] at q;cases q
 rw [r] at a2
 rw [ho] at HP
 clear hh hd ho r
 rcases zbO n with ⟨p,q⟩|⟨p,q⟩
 all_goals
  rw [p] at a1
  rw [q] at HP
  clear p q
  go_enter Tryz.func174,Tryz.ntmps174
  go_wp2
  refine Pl.cutW (λY=>Bd F Y G tk/\Bt F W Y) ⟨HP.out,((Bt.refl _ _).set H.out.nd _ _).set H.out.nd _ _⟩ ?_
  rintro Y ⟨hY1,hY2⟩
  have HY1:=hid hY1
  have HY2:=hid hY2
  obtain ⟨_,_,_,_,_,_,_,_,_,_,_,_,_,_,_,cl,ar,yf,yg⟩:=hY1.auxC
  clear hY1 hY2 ff c0 c1 hg
  go_region_held3 (λw'=>w'.cell? ⟨F.g,72,none⟩=some (.int .i64 G.clock))
   ((first|(with_reducible exact zcl)|(with_reducible exact ycl)|(with_reducible exact cl)|(with_reducible exact keep15 zcl)|(with_reducible exact keep15d zcl)|(with_reducible exact keep15e zcl)|(go_keep;done)))
   ((first
   | (go_at_call 52;refine (zhI HB1.out 143 _ _ (ze8 0 (by omega)) (ze8 1 (by omega)) (zcP _ _) (zcP _ _)).mono ?_;rintro e w2 ⟨rfl,hB2,hT2⟩;have HB2:=hid hB2;have HT2:=hid hT2;obtain ⟨z0,z1,z2,z3,z4,z5,z6,z7,z8,z9,z10,z11,z12,z13,z14,zcl,zar,zf,zg⟩:=hB2.auxC;clear hB2 hT2)
   | (go_at_call 113;refine (ze7 F.g _).mono ?_;rintro e w1 ⟨rfl,hb1⟩;have HB1:=hid (HY1.out.drew.kept hb1);have ycl:=HB1.out.at 72 _ rfl;have yg1:=HB1.out.bx.z)))
  all_goals go_wp2
  all_goals go_end0
  all_goals
   have hf:Mach.fit { G with aux:=beginC (G.lookA 0) (G.lookA 1) }:=Mach.fit.of HB2.out.fit { HB2.out.fit with aux:=zpD _ _ (zcP _ _) (zcP _ _) } ⟨rfl,rfl,rfl,rfl,rfl⟩ rfl ⟨rfl,rfl,rfl⟩ ⟨rfl,rfl⟩ (Or.inl rfl)
   have hf2:Mach.fit { G with aux:=beginC (G.lookA 0) (G.lookA 1),aready:=G.clock }:=Mach.fit.of hf { hf with main:=hf.main } ⟨rfl,rfl,rfl,rfl,rfl⟩ rfl ⟨rfl,rfl,rfl⟩ ⟨rfl,rfl⟩ (Or.inr rfl)
   have hp:=(HB2.out.puts (M':={ G with aux:=beginC (G.lookA 0) (G.lookA 1) }) (tk':=tk) 15 (cpuL (beginC (G.lookA 0) (G.lookA 1))) (by simp [cpuL]) (F.putAux G tk _) ⟨rfl,rfl,rfl,rfl,rfl⟩ hf).put (M':={ G with aux:=beginC (G.lookA 0) (G.lookA 1),aready:=G.clock }) (tk':=tk) 74 (.int .i64 G.clock) (by omega) rfl ⟨rfl,rfl,rfl,rfl,rfl⟩ hf2
   have ht:=Bt.set HB2.out.nd (Bt.sets HB2.out.nd (cpuL (beginC (G.lookA 0) (G.lookA 1))) 15 _ (Mv.trans HY2.out (Mv.trans (Bt.below HY1.out (stp (st0 Y).drew hb1)) HT2.out))) 74 (.int .i64 G.clock)
   rw [<- zl1] at hp ht
   unfold begL at hp ht
   rw [nest15] at hp ht
   exact ⟨rfl,hp,ht⟩
theorem zof (h:Bd F W M tk) (n:Int) (hn:0<=n/\n<=255):Calls Tryz.prog 174 #[pt F.g 0,.int .u8 n] W λe w'=>e = .returned (.tuple #[])/\Bd F w' (M.putM 16 n) tk/\Bt F W w':=by
 cases hh:(M.held && !(odd (n/2)))
 ·exact zl3 h n hn hh
 ·exact zl4 h n hn hh
end
def EndA (F:Fx) (W w':World) (M:Mach) (tk:Tk) (l:List Wt):Prop:=(∃ v,Bd F w' M (tk.app l v))/\Bw F W w'
end Go.Proofs.YtbennamieealbaaGreatDoor

import PyProof.Rows.All
import Wide.All
import OpenK.AllK
import Wide.FinOn
import PyProof.EqAt
import PyProof.EqKinds
import PyProof.TupleCall
import KE.BitLaws
import Open.SpecLaws
import KE.OsHead
import KE.OsGo
import PySem.Challenge.RW_meterbookdesk_s01_answers
import KE.KSortTupG
import KE.KDictSum
import PyProof.Rows.SortShellAny
set_option Elab.async false
set_option linter.all false
set_option maxRecDepth 100000
set_option maxHeartbeats 4000000
open List (map_cons nil_append cons_append reverse_cons map_append find?_cons filter_cons mem_map_of_mem pairwise_cons length_append length_filter_le map_map length_map mem_cons_of_mem sum_cons mem_cons_self mem_cons map_congr_left getD_eq_getElem?_getD getElem?_set_self getElem?_set_ne getElem?_map getElem?_eq_getElem length_replicate length_set length_cons flatMap_cons length_reverse length_range headD_cons foldl_cons append_nil append_assoc filterMap_cons mem_append_right size_toArray of_mem_zip length_take length_drop any_cons replicate_succ flatten_cons take_of_length_le forIn_nil forIn_cons lookup_cons getElem?_cons_succ zipIdx_nil take_succ take_length filterMap_eq_map' mem_singleton getElem?_range range_succ mem_reverse eq_nil_of_length_eq_zero replicate_zero)
open Nat (le_trans zero_le le_refl le_add_right div_dvd_of_dvd gcd_dvd_right dvd_trans zero_add lt_trans ne_of_gt ne_of_lt le_succ le_of_not_lt le_of_eq lt_of_lt_of_le lt_irrefl le_of_lt lt_succ_self le_of_succ_le lt_succ_of_lt lt_of_le_of_lt le_of_dvd pos_of_ne_zero pow_le_pow_right pow_add mul_lt_mul'' mul_pos)
open Int (natCast_ediv ofNat_sub natCast_mul toNat_natCast natCast_add natAbs_natCast toNat_of_nonneg)
open Vbdeai (Bank Meter Table spansOf classOf content ended begun zeros stays unitStays area weight nats shownQ okK okM okT okX okQ Stay thousandths valueLine integral nowOf contents tableReport liveMeters)
namespace Mb
open Vbdeai
theorem zKn (c:List (List Int)):PyVbdeai.whole c=c:=by
 rcases c with _|⟨_|⟨a,_|⟨_,_|⟨_,_|⟨_,_|⟨_,_|⟨_,_|⟨_,_|_⟩⟩⟩⟩⟩⟩⟩,_|_⟩
 rfl
 rfl
 rfl
 all_goals rcases a with (_|_|_|_|_|_|_|_|_|_|_|_|_|_|_|_|_|_|_|_|_|_|_|_|_)|_<;>rfl
theorem zFE (cs:List (List (List Int))):cs.map PyVbdeai.whole=cs:=by
 induction cs with
 | nil=>rfl
 | cons c cs ih=>rw [map_cons,zKn,ih]
def cnt (p:Nat):Nat:=[4,3,3,3,6,4,4,1,1,2,1,1,1,1,1,1,1,3,3,1,3,0,0,0].getD p 0
theorem zIor {c:Prop}[Decidable c]{T:Type}{a b x:T}(h:(if c then a else b)=x):(c∧a=x)∨(¬c∧b=x):=(Decidable.em c).elim (fun e=>.inl ⟨e,(if_pos e).symm.trans h⟩) fun e=>.inr ⟨e,(if_neg e).symm.trans h⟩
theorem zI0 {p:Int}{n k:Nat}(h:PyVbdeai.shape p=some (n,k)):k=0∧0≤p∧p≤23∧n=cnt p.toNat:=by
 unfold PyVbdeai.shape at h
 iterate 24
  rcases zIor h with⟨e,h⟩|⟨_,h⟩
  ·subst e;obtain⟨rfl,rfl⟩:=Prod.mk.inj (Option.some.inj h);exact⟨rfl,by decide,by decide,by decide⟩
 cases h
theorem zIJ {f:Nat}{p:Int}{r:List Int}{cs:List (List (List Int))}(h:PyFlat.calls PyVbdeai.shape f (p::r)=some cs) :
  0≤p∧p≤23∧cnt p.toNat≤r.length∧∃ cs' f',cs=[p::r.take (cnt p.toNat)]::cs'∧PyFlat.calls PyVbdeai.shape f' (r.drop (cnt p.toNat))=some cs':=by
 cases f with
 | zero=>exact absurd h (by intro q;cases q)
 | succ f =>
  unfold PyFlat.calls at h;unfold PyFlat.call at h;dsimp only at h
  cases e:PyVbdeai.shape p with
  | none=>rw [e] at h;cases h
  | some nk =>
   obtain⟨n,k⟩:=nk;obtain⟨rfl,h0,h1,rfl⟩:=zI0 e;rw [e] at h;dsimp only at h;by_cases hl:r.length<cnt p.toNat
   ·rw [if_pos hl] at h;cases h
   ·rw [if_neg hl] at h;dsimp only [PyFlat.rows] at h
    cases e2:PyFlat.calls PyVbdeai.shape f (r.drop (cnt p.toNat)) with
    | none=>rw [e2] at h;cases h
    | some cs' =>
     rw [e2] at h;exact⟨h0,h1,by omega,cs',f,(Option.some.inj h).symm,e2⟩
theorem zI1 {f:Nat}{cs:List (List (List Int))}(h:PyFlat.calls PyVbdeai.shape f []=some cs):cs=[]:=by
 cases f<;>exact(Option.some.inj h).symm
theorem zIK {l:List Int}{cs:List (List (List Int))}(h:PyFlat.calls PyVbdeai.shape l.length l=some cs):PyVbdeai.answers l=PyFlat.told (PyFlat.played Vbdeai.step Vbdeai.start cs):=by
 unfold PyVbdeai.answers PyVbdeai.calls;rw [h];dsimp only;rw [zFE];rfl
theorem zGL {l:List Int}(h:PyVbdeai.answers_asked l=true):∃ cs,PyFlat.calls PyVbdeai.shape l.length l=some cs∧cs.length≤400:=by
 unfold PyVbdeai.answers_asked PyVbdeai.calls at h
 cases e:PyFlat.calls PyVbdeai.shape l.length l with
 | none=>rw [e] at h;cases h
 | some cs =>
  rw [e] at h;dsimp only at h;rw [zFE] at h;rw [Bool.and_eq_true] at h;exact⟨cs,rfl,of_decide_eq_true h.1⟩
theorem zI2 (a:List Int) (l:List (List Int)):PyFlat.told (a::l)=(a.length:Int)::(a++PyFlat.told l):=rfl
theorem zGM (b:Bank) (c:List (List Int)) (cs:List (List (List Int))):PyFlat.played Vbdeai.step b (c::cs)=(Vbdeai.step b c).2::PyFlat.played Vbdeai.step (Vbdeai.step b c).1 cs:=rfl
theorem zKo (a b:Nat):Nat.gcd b (a % b)=Nat.gcd a b:=by
 rw [Nat.gcd_comm b (a % b),← Nat.gcd_rec b a,Nat.gcd_comm]
theorem zN0 (n:Int) (d:Nat):(((Q.of n d).den:Nat):Int)=(d:Int)/((Nat.gcd n.natAbs d:Nat):Int):=by
 show(((d/Nat.gcd n.natAbs d:Nat)):Int)=_;exact natCast_ediv d _
theorem zMd {n:Int}{d:Nat}(h:0<d):0<Nat.gcd n.natAbs d:=Nat.gcd_pos_of_pos_right _ h
def zA0 (c:Nat) (e:Ev):Nat:=if e.up=true then c+e.units else c-e.units
def zMe (c:Nat) (l:List Ev):Nat:=l.foldl zA0 c
theorem zAM (e:Ev):∀ (l:List Ev) (c:Nat),contents c (l++[e])=contents c l++[(e.time,zA0 (zMe c l) e)]
 | [],c=>rfl
 | a::l,c=>by
  show(a.time,zA0 c a)::contents (zA0 c a) (l++[e])=(a.time,zA0 c a)::(contents (zA0 c a) l++_);rw [zAM e l];rfl
theorem zI3 (e:Ev) (l:List Ev) (c:Nat):zMe c (l++[e])=zA0 (zMe c l) e:=by
 unfold zMe;rw [List.foldl_append];rfl
theorem zEC:∀ (l:List Nat) (a:Nat),l.foldl (fun a n=>a+n) a=a+sumN l
 | [],a=>rfl
 | x::l,a=>by
  show l.foldl _ (a+x)=a+l.foldl _ (0+x);rw [zEC l (a+x),zEC l (0+x)];omega
theorem zHN:sumN []=0:=rfl
theorem zp (x:Nat) (l:List Nat):sumN (x::l)=x+sumN l:=by
 show l.foldl _ (0+x)=_;rw [zEC l (0+x)];omega
theorem zCB:∀ (l m:List Nat),sumN (l++m)=sumN l+sumN m
 | [],m=>by rw [zHN,nil_append];omega
 | x::l,m=>by rw [cons_append,zp,zp,zCB l m];omega
end Mb
namespace Mb
open Vbdeai
structure MOk (T0 T:Nat) (v:Meter):Prop where
 nd:(v.ins.map (·.id)).Nodup
 pos:∀ s∈v.ins,1≤s.id∧s.id≤1000000000∧1≤s.units∧s.units≤1000000000∧T0≤s.since∧s.since≤T
 cap:v.ins.length≤300
 ends:zMe v.base v.evs.reverse=content v
 times:∀ e∈v.evs,T0≤e.time∧e.time≤T
 sorted:(v.evs.map (·.time)).Pairwise (fun a b=>b≤a)
 since:∀ e∈v.evs,e.since≤e.time∧e.units≤1000000000
 T0T:T0≤T
 inn:v.evs=[]→v.baseIn=v.ins.length
theorem MOk.later {T0 T T':Nat}{v:Meter}(h:MOk T0 T v) (l:T≤T'):MOk T0 T' v :=
 ⟨h.nd,fun s hs=>⟨(h.pos s hs).1,(h.pos s hs).2.1,(h.pos s hs).2.2.1,(h.pos s hs).2.2.2.1,(h.pos s hs).2.2.2.2.1,le_trans (h.pos s hs).2.2.2.2.2 l⟩,h.cap,h.ends,
  fun e he=>⟨(h.times e he).1,le_trans (h.times e he).2 l⟩,h.sorted,h.since,le_trans h.T0T l,h.inn⟩
theorem MOk.empty {T0 T:Nat}(l:T0≤T):MOk T0 T {} :=
 ⟨List.nodup_nil,fun s hs=>(nomatch hs),zero_le _,rfl,fun e he=>(nomatch he),List.Pairwise.nil,fun e he=>(nomatch he),l,fun _=>rfl⟩
theorem zHO (e:Ev) (l:List Ev):(e::l).reverse=l.reverse++[e]:=reverse_cons
theorem xT (v:Meter) (s:Stay) (evs:List Ev):content { v with ins:=v.ins++[s],evs:=evs }=content v+s.units:=by
 unfold content;show v.loose+sumN ((v.ins++[s]).map fun s=>s.units)=_;rw [map_append,zCB];show v.loose+(_+sumN [s.units])=_;rw [zp,zHN];omega
theorem zDf:∀ {l:List Stay}{x:Nat}{s:Stay},(l.map (·.id)).Nodup→l.find? (fun s=>s.id==x)=some s→sumN ((l.filter fun r=>r.id != x).map fun s=>s.units)+s.units=sumN (l.map fun s=>s.units)
 | [],_,_,_,h=>by cases h
 | a::l,x,s,nd,h=>by
  rw [map_cons,List.nodup_cons] at nd;rw [find?_cons] at h;by_cases e:a.id=x
  ·have hb:(a.id==x)=true:=beq_iff_eq.mpr e;rw [hb] at h;have ea:a=s:=Option.some.inj h;subst ea
   have hn:(a.id != x)=false:=by rw [bne,hb];rfl
   have hf:(a::l).filter (fun r=>r.id != x)=l:=by
    rw [filter_cons,hn];show l.filter (fun r=>r.id != x)=l;rw [List.filter_eq_self];intro r hr;have:¬ r.id=x:=fun q=>nd.1 (by rw [e,← q];exact mem_map_of_mem hr)
    simpa using this
   rw [hf,map_cons,zp];omega
  ·have hb:(a.id==x)=false:=beq_eq_false_iff_ne.mpr e;rw [hb] at h
   have hn:(a.id != x)=true:=by rw [bne,hb];rfl
   have ih:=zDf nd.2 h;rw [filter_cons,hn];show sumN ((a::l.filter (fun r=>r.id != x)).map _)+_=_;rw [map_cons,map_cons,zp,zp];omega
theorem vx {v:Meter}{x:Nat}{s:Stay}(evs:List Ev) (nd:(v.ins.map (·.id)).Nodup) (h:v.ins.find? (fun s=>s.id==x)=some s):content { v with ins:=v.ins.filter (fun r=>r.id != x),evs:=evs }+s.units=content v:=by
 unfold content;have:=zDf nd h;show v.loose+sumN ((v.ins.filter fun r=>r.id != x).map fun s=>s.units)+s.units=_;omega
theorem jw (v:Meter) (lo:Nat) (evs:List Ev):content { v with loose:=lo,evs:=evs }+v.loose=content v+lo:=by
 unfold content;show lo+sumN (v.ins.map fun s=>s.units)+v.loose=_;omega
theorem zED (v:Meter) (e:Ev) (ins:List Stay) (lo:Nat):begun { v with ins:=ins,loose:=lo,evs:=e::v.evs }=begun v+(if(e.up&&e.id != 0)=true then 1 else 0):=by
 unfold begun;show v.baseIn+((e::v.evs).filter fun e=>e.up&&e.id != 0).length=_;rw [filter_cons];split<;>simp [Nat.add_assoc]
theorem zEE (v:Meter) (e:Ev) (ins:List Stay) (lo:Nat):ended { v with ins:=ins,loose:=lo,evs:=e::v.evs }=(if(!e.up&&e.id != 0)=true then e::ended v else ended v):=by
 unfold ended;show((e::v.evs).filter fun e=>!e.up&&e.id != 0)=_;rw [filter_cons]
theorem zHP {v w:Meter}(h:ended v=ended w):stays v=stays w∧unitStays v=unitStays w∧zeros v=zeros w:=by
 unfold stays unitStays zeros;rw [h];exact⟨rfl,rfl,rfl⟩
theorem zIL {v w:Meter}{e:Ev}(h:ended v=e::ended w):(ended v).length=(ended w).length+1∧stays v=(e.time-e.since)+stays w∧unitStays v=e.units*(e.time-e.since)+unitStays w∧zeros v=zeros w+(if e.time=e.since then 1 else 0):=by
 unfold stays unitStays zeros;rw [h];refine⟨rfl,by rw [map_cons,zp],by rw [map_cons,zp],?_⟩;rw [filter_cons];by_cases q:e.time=e.since
 ·rw [if_pos (by simpa using q),if_pos q];rfl
 ·rw [if_neg (by simpa using q),if_neg q];rfl
theorem MOk.ev {T0 T t:Nat}{v:Meter}(h:MOk T0 T v) (hT:T≤t) (e:Ev) (ins:List Stay) (lo:Nat) (et:e.time=t) (es:e.since≤t) (eu:e.units≤1000000000)
  (nd:(ins.map (·.id)).Nodup) (pos:∀ s∈ins,1≤s.id∧s.id≤1000000000∧1≤s.units∧s.units≤1000000000∧T0≤s.since∧s.since≤t) (cap:ins.length≤300)
  (hc:zA0 (content v) e=content { v with ins:=ins,loose:=lo,evs:=e::v.evs }):MOk T0 t { v with ins:=ins,loose:=lo,evs:=e::v.evs }:=by
 refine⟨nd,pos,cap,?_,?_,?_,?_,le_trans h.T0T hT,fun q=>(nomatch q)⟩
 ·show zMe v.base (e::v.evs).reverse=_;rw [zHO,zI3,h.ends,hc]
 ·intro a ha
  rcases List.mem_cons.mp ha with rfl | ha
  ·rw [et];exact⟨le_trans h.T0T hT,le_refl _⟩
  ·exact⟨(h.times a ha).1,le_trans (h.times a ha).2 hT⟩
 ·show((e::v.evs).map (·.time)).Pairwise (fun a b=>b≤a);rw [map_cons,pairwise_cons];refine⟨fun a ha=>?_,h.sorted⟩;obtain⟨q,hq,rfl⟩:=List.mem_map.mp ha;rw [et];exact le_trans (h.times q hq).2 hT
 ·intro a ha
  rcases List.mem_cons.mp ha with rfl | ha
  ·rw [et];exact⟨es,eu⟩
  ·exact h.since a ha
theorem wA {T0 T t:Nat}{v:Meter}(h:MOk T0 T v) (hT:T≤t):∀ s∈v.ins,1≤s.id∧s.id≤1000000000∧1≤s.units∧s.units≤1000000000∧T0≤s.since∧s.since≤t:=(h.later hT).pos
theorem zDg {α:Type}{l:List α}{a:α}(h:l.Nodup) (n:a∉l):(l++[a]).Nodup:=by
 rw [List.nodup_append];refine⟨h,List.nodup_cons.mpr ⟨List.not_mem_nil,List.nodup_nil⟩,fun x hx y hy=>?_⟩
 rcases List.mem_singleton.mp hy with rfl
 exact fun q=>n (q▸hx)
theorem MOk.join {T0 T t x u:Nat}{v:Meter}(h:MOk T0 T v) (hT:T≤t) (hx:1≤x∧x≤1000000000) (hu:1≤u∧u≤1000000000) (hn:x∉v.ins.map (·.id)) (hc:v.ins.length<300) :
  MOk T0 t { v with ins:=v.ins++[⟨x,u,t⟩],evs:=⟨t,true,x,u,t⟩::v.evs }:=by
 refine h.ev hT _ _ v.loose rfl (le_refl _) hu.2 ?_ ?_ ?_ ?_
 ·rw [map_append];exact zDg h.nd hn
 ·intro s hs
  rcases List.mem_append.mp hs with hs | hs
  ·exact wA h hT s hs
  ·rcases List.mem_singleton.mp hs with rfl
   exact⟨hx.1,hx.2,hu.1,hu.2,le_trans h.T0T hT,le_refl _⟩
 ·rw [length_append];show v.ins.length+1≤300;omega
 ·rw [xT];rfl
theorem MOk.quit {T0 T t x:Nat}{v:Meter}{s:Stay}(h:MOk T0 T v) (hT:T≤t) (hs:v.ins.find? (fun s=>s.id==x)=some s) :
  MOk T0 t { v with ins:=v.ins.filter (fun r=>r.id != x),evs:=⟨t,false,x,s.units,s.since⟩::v.evs }:=by
 have ms:=List.mem_of_find?_eq_some hs;have ps:=h.pos s ms;refine h.ev hT _ _ v.loose rfl (le_trans ps.2.2.2.2.2 hT) ps.2.2.2.1 ?_ ?_ ?_ ?_
 ·exact h.nd.sublist (List.filter_sublist.map _)
 ·intro r hr;exact wA h hT r ((List.mem_filter.mp hr).1)
 ·exact le_trans (length_filter_le _ _) h.cap
 ·have q:=vx (⟨t,false,x,s.units,s.since⟩::v.evs) h.nd hs;show content v-s.units=_;omega
theorem MOk.raise {T0 T t n:Nat}{v:Meter}(h:MOk T0 T v) (hT:T≤t) (hn:n≤1000000000):MOk T0 t { v with loose:=v.loose+n,evs:=⟨t,true,0,n,t⟩::v.evs }:=by
 refine h.ev hT _ v.ins _ rfl (le_refl _) hn h.nd (wA h hT) h.cap ?_;have q:=jw v (v.loose+n) (⟨t,true,0,n,t⟩::v.evs);show content v+n=_;omega
theorem MOk.lower {T0 T t n:Nat}{v:Meter}(h:MOk T0 T v) (hT:T≤t) (hn:n≤1000000000) (hl:n≤v.loose):MOk T0 t { v with loose:=v.loose-n,evs:=⟨t,false,0,n,t⟩::v.evs }:=by
 refine h.ev hT _ v.ins _ rfl (le_refl _) hn h.nd (wA h hT) h.cap ?_;have q:=jw v (v.loose-n) (⟨t,false,0,n,t⟩::v.evs);have c:v.loose≤content v:=le_add_right _ _;show content v-n=_;omega
def anew (t:Nat) (v:Meter):Meter:={ base:=content v,baseIn:=v.ins.length,ins:=v.ins.map (fun s=>{ s with since:=t }),loose:=v.loose,evs:=[] }
theorem xU (t:Nat) (v:Meter):content (anew t v)=content v:=by
 unfold content anew;show v.loose+sumN ((v.ins.map fun s=>{ s with since:=t }).map fun s=>s.units)=_;rw [map_map];rfl
theorem MOk.anew {T0 T t:Nat}{v:Meter}(h:MOk T0 T v):MOk t t (anew t v):=by
 refine⟨?_,?_,?_,?_,fun e he=>(nomatch he),List.Pairwise.nil,fun e he=>(nomatch he),le_refl _,fun _=>(length_map ..).symm⟩
 ·show((v.ins.map fun s=>{ s with since:=t }).map (·.id)).Nodup;rw [map_map];exact h.nd
 ·intro s hs;obtain⟨r,hr,rfl⟩:=List.mem_map.mp hs;have p:=h.pos r hr;exact⟨p.1,p.2.1,p.2.2.1,p.2.2.2.1,le_refl _,le_refl _⟩
 ·show(v.ins.map fun s=>{ s with since:=t }).length≤300;rw [length_map];exact h.cap
 ·rw [xU];rfl
theorem kP {T0 T:Nat}{b:Bank}{v:Meter}(h:MOk T0 T v) (hb:b.since=T0):((timeline b v).map (·.1)).Pairwise (·≤·)∧∀ p∈timeline b v,p.1≤T:=by
 have tm:∀ (l:List Ev) (c:Nat),(contents c l).map (·.1)=l.map (·.time):=by
  intro l
  induction l with
  | nil=>intro c;rfl
  | cons e l ih =>
   intro c;show e.time::(contents _ l).map (·.1)=_;rw [ih];rfl
 have e1:(timeline b v).map (·.1)=b.since::v.evs.reverse.map (·.time):=by
  show b.since::(contents v.base v.evs.reverse).map (·.1)=_;rw [tm]
 have hr:(v.evs.reverse.map (·.time)).Pairwise (·≤·):=by
  rw [List.map_reverse,List.pairwise_reverse];exact h.sorted
 refine⟨?_,?_⟩
 ·rw [e1,pairwise_cons];refine⟨fun a ha=>?_,hr⟩;obtain⟨e,he,rfl⟩:=List.mem_map.mp ha;rw [hb];exact(h.times e (List.mem_reverse.mp he)).1
 ·intro p hp;have:p.1∈(timeline b v).map (·.1):=mem_map_of_mem hp;rw [e1] at this
  rcases List.mem_cons.mp this with q | q
  ·rw [q,hb];exact h.T0T
  ·obtain⟨e,he,q⟩:=List.mem_map.mp q;rw [← q];exact(h.times e (List.mem_reverse.mp he)).2
theorem zFF (now:Nat):∀ (tl:List (Nat×Nat)),tl≠[]→(tl.map (·.1)).Pairwise (·≤·)→(∀ p∈tl,p.1≤now) →
  (spans now tl).map (fun s=>((s.1:Int),(s.2:Int)))=List.zipWith (fun(m:Nat×Nat) (e:Nat)=>((m.2:Int),(e:Int)-(m.1:Int))) tl (tl.tail.map (·.1)++[now])
 | [],h,_,_=>absurd rfl h
 | [(t,c)],_,_,hn=>by
  have:=hn (t,c) (List.mem_singleton.mpr rfl);show [((c:Int),((now-t:Nat):Int))]=[((c:Int),(now:Int)-(t:Int))];rw [ofNat_sub this]
 | (t,c)::(u,d)::r,_,hs,hn=>by
  rw [map_cons,pairwise_cons] at hs;have ih:=zFF now ((u,d)::r) (by simp) hs.2 (fun p hp=>hn p (mem_cons_of_mem _ hp));have le:t≤u:=hs.1 u (by simp);show((c:Int),((u-t:Nat):Int))::(spans now ((u,d)::r)).map _=((c:Int),(u:Int)-(t:Int))::_;rw [ih,ofNat_sub le];rfl
theorem yS (now:Nat):∀ (tl:List (Nat×Nat)),(spans now tl).length=tl.length
 | []=>rfl
 | [(t,c)]=>rfl
 | (t,c)::(u,d)::r=>by
  show(spans now ((u,d)::r)).length+1=_;rw [yS now ((u,d)::r)];rfl
theorem zFG (now:Nat):∀ (tl:List (Nat×Nat)),(spans now tl).map (·.1)=tl.map (·.2)
 | []=>rfl
 | [(t,c)]=>rfl
 | (t,c)::(u,d)::r=>by
  show c::(spans now ((u,d)::r)).map (·.1)=_;rw [zFG now ((u,d)::r)];rfl
theorem zAN:∀ l:List Nat,((sumN l:Nat):Int)=(l.map fun(n:Nat)=>(n:Int)).sum
 | []=>rfl
 | x::l=>by rw [zp,map_cons,sum_cons,← zAN l];omega
theorem zHQ (b:Bank) (v:Meter):((area b v:Nat):Int)=(((spansOf b v).map fun s=>((s.1:Int),(s.2:Int))).map fun s=>s.1*s.2).sum:=by
 unfold area;rw [zAN,map_map,map_map];congr 1
theorem zDh:∀ (l:List (Nat×Nat)) (m:Nat),m≤l.foldl (fun m s=>max m s.2) m∧∀ p∈l,p.2≤l.foldl (fun m s=>max m s.2) m
 | [],m=>⟨le_refl _,fun p hp=>(nomatch hp)⟩
 | a::l,m=>by
  obtain⟨h1,h2⟩:=zDh l (max m a.2);refine⟨le_trans (Nat.le_max_left _ _) h1,fun p hp=>?_⟩
  rcases List.mem_cons.mp hp with rfl | hp
  ·exact le_trans (Nat.le_max_right _ _) h1
  ·exact h2 p hp
theorem zCC:∀ (l:List (Nat×Nat)) (m:Nat),l.foldl (fun m s=>max m s.2) m=m∨∃ p∈l,l.foldl (fun m s=>max m s.2) m=p.2
 | [],m => .inl rfl
 | a::l,m=>by
  rcases zCC l (max m a.2) with h | ⟨p,hp,h⟩
  ·rcases Nat.le_total m a.2 with q | q
   ·exact .inr ⟨a,mem_cons_self,by show l.foldl _ (max m a.2)=_;rw [h];exact Nat.max_eq_right q⟩
   ·exact .inl (by show l.foldl _ (max m a.2)=_;rw [h];exact Nat.max_eq_left q)
  ·exact .inr ⟨p,mem_cons_of_mem _ hp,h⟩
theorem zGN {b:Bank}{v:Meter}{m:Int}(hm:m∈(timeline b v).map fun(p:Nat×Nat)=>(p.2:Int)) (hu:∀ y∈(timeline b v).map (fun(p:Nat×Nat)=>(p.2:Int)),y≤m):m=((greatest b v:Nat):Int):=by
 obtain⟨p,hp,rfl⟩:=List.mem_map.mp hm;unfold greatest;have h1:=(zDh (timeline b v) 0).2 p hp
 rcases zCC (timeline b v) 0 with h | ⟨q,hq,h⟩
 ·rw [h] at h1 ⊢;omega
 ·have:=hu _ (mem_map_of_mem (f:=fun(p:Nat×Nat)=>(p.2:Int)) hq);rw [h] at h1 ⊢;omega
end Mb
namespace Mb
open Vbdeai
def toQ (r:Rat):Q:=⟨r.num,r.den⟩
theorem zGO {a b:Rat}(h:toQ a=toQ b):a=b:=by
 have h1:a.num=b.num:=congrArg Q.num h;have h2:a.den=b.den:=congrArg Q.den h;exact Rat.ext h1 h2
theorem zEF (n:Int) (d:Nat) (h:d≠0):toQ (Rat.normalize n d h)=Q.of n d:=by
 rw [Rat.normalize_eq];rfl
theorem xV (n:Int){d:Nat}(h:d≠0):Q.of n d=toQ (mkRat n d):=by
 rw [← Rat.normalize_eq_mkRat h,zEF]
theorem zKp:Q.zero=toQ 0:=rfl
theorem zFH (n:Int):Q.whole n=toQ (n:Rat):=rfl
theorem zI4 (a b:Rat):(toQ a).add (toQ b)=toQ (a+b):=by
 rw [Rat.add_def,zEF];rfl
theorem zEG (a b:Rat):(toQ a).mul (toQ b)=toQ (a*b):=by
 rw [Rat.mul_def,zEF];rfl
theorem zMf (a:Rat):(toQ a).neg=toQ (-a):=rfl
theorem zI5 (a b:Rat):(toQ a).sub (toQ b)=toQ (a-b):=by
 rw [Rat.sub_eq_add_neg,← zI4,← zMf];rfl
theorem zI6 (a b:Rat):(toQ a).le (toQ b)=decide (a≤b):=by
 show decide (a.num*(b.den:Int)≤b.num*(a.den:Int))=_;rw [decide_eq_decide,Rat.le_iff]
theorem zHR (a b:Rat):(toQ a).lt (toQ b)=decide (a<b):=by
 show decide (a.num*(b.den:Int)<b.num*(a.den:Int))=_;rw [decide_eq_decide,Rat.lt_iff]
theorem zN1 (a b:Rat):(toQ a=toQ b)↔a=b:=⟨zGO,congrArg toQ⟩
theorem zMg (a b:Rat):(toQ a==toQ b)=decide (a=b):=by
 by_cases h:a=b
 ·subst h;simp
 ·have:¬ toQ a=toQ b:=fun q=>h (zGO q);simp [h,this]
theorem zMh (a b:Rat):Q.min (toQ a) (toQ b)=toQ (if a≤b then a else b):=by
 unfold Q.min;rw [zI6];by_cases h:a≤b
 ·rw [if_pos (decide_eq_true h),if_pos h]
 ·rw [if_neg (by simpa using h),if_neg h]
theorem zMi (a b:Rat):Q.max (toQ a) (toQ b)=toQ (if a≤b then b else a):=by
 unfold Q.max;rw [zI6];by_cases h:a≤b
 ·rw [if_pos (decide_eq_true h),if_pos h]
 ·rw [if_neg (by simpa using h),if_neg h]
theorem yd (a:Rat):mkRat a.num a.den=a:=Rat.mkRat_self a
theorem zCD:∀ (l:List Rat) (a:Rat),(l.map toQ).foldl Q.add (toQ a)=toQ (l.foldl (·+·) a)
 | [],a=>rfl
 | x::l,a=>by
  show(l.map toQ).foldl Q.add ((toQ a).add (toQ x))=_;rw [zI4,zCD l];rfl
theorem zFI:∀ (l:List Rat) (a:Rat),l.foldl (·+·) a=a+l.sum
 | [],a=>by rw [List.sum_nil,List.foldl_nil];grind
 | x::l,a=>by
  show l.foldl _ (a+x)=_;rw [zFI l,sum_cons]
  grind
theorem zI7 (l:List Rat):Q.sum (l.map toQ)=toQ l.sum:=by
 unfold Q.sum;rw [zKp,zCD,zFI];congr 1
 grind
theorem zIM (n:Int){d:Nat}(h:d≠0):(mkRat n d).den∣d:=by
 rw [← Rat.normalize_eq_mkRat h,Rat.normalize_eq];exact div_dvd_of_dvd (gcd_dvd_right _ _)
def zBl:Nat:=(List.range 1000).foldl (fun a i=>Nat.lcm a (i+1)) 1
theorem zKq (l:List Nat):∀ a:Nat,a∣l.foldl (fun a i=>Nat.lcm a (i+1)) a∧∀ i∈l,(i+1)∣l.foldl (fun a i=>Nat.lcm a (i+1)) a:=by
 induction l with
 | nil=>intro a;exact⟨Nat.dvd_refl _,fun i hi=>(nomatch hi)⟩
 | cons x l ih =>
  intro a;obtain⟨h1,h2⟩:=ih (Nat.lcm a (x+1));refine⟨dvd_trans (Nat.dvd_lcm_left _ _) h1,fun i hi=>?_⟩
  rcases List.mem_cons.mp hi with rfl | hi
  ·exact dvd_trans (Nat.dvd_lcm_right _ _) h1
  ·exact h2 i hi
theorem zCE {d:Nat}(h:0<d) (h2:d≤1000):d∣zBl:=by
 have:=(zKq (List.range 1000) 1).2 (d-1) (List.mem_range.mpr (by omega));rw [Nat.sub_add_cancel h] at this;exact this
theorem vE:zBl≠0:=by decide +kernel
theorem wB:zBl<2 ^ 1440:=by decide +kernel
end Mb
namespace Mb
open Vbdeai
def lv (l:List (Nat×Nat)) (c:Nat):Nat:=sumN ((l.filter fun p=>p.1==c).map (·.2))
theorem zI8 (c:Nat):lv [] c=0:=rfl
theorem ye (p:Nat×Nat) (l:List (Nat×Nat)) (c:Nat):lv (p::l) c=(if p.1=c then p.2 else 0)+lv l c:=by
 unfold lv;rw [filter_cons];by_cases h:p.1=c
 ·rw [if_pos (beq_iff_eq.mpr h),if_pos h,map_cons,zp]
 ·rw [if_neg (by simpa using h),if_neg h,zero_add]
theorem zL3 (s:Nat×Nat):∀ (l:List (Nat×Nat)) (c:Nat),lv (putLevel s l) c=(if s.1=c then s.2 else 0)+lv l c
 | [],c=>by
  show lv [s] c=_;rw [ye]
 | r::l,c=>by
  unfold putLevel;by_cases h:s.1<r.1
  ·rw [if_pos h,ye]
  ·rw [if_neg h];by_cases h2:s.1=r.1
   ·rw [if_pos h2,ye,ye,← h2];by_cases hc:s.1=c
    ·rw [if_pos hc,if_pos hc,if_pos hc];omega
    ·rw [if_neg hc,if_neg hc,if_neg hc];omega
   ·rw [if_neg h2,ye,ye,zL3 s l];omega
theorem zEH (s:Nat×Nat):∀ (l:List (Nat×Nat)) (c:Nat),c∈(putLevel s l).map (·.1)↔c=s.1∨c∈l.map (·.1)
 | [],c=>by
  show c∈[s.1]↔_;simp
 | r::l,c=>by
  unfold putLevel;by_cases h:s.1<r.1
  ·rw [if_pos h];simp
  ·rw [if_neg h];by_cases h2:s.1=r.1
   ·rw [if_pos h2];simp [h2]
   ·rw [if_neg h2,map_cons,mem_cons,zEH s l,map_cons,mem_cons];constructor
    ·rintro(q | q | q)
     ·exact .inr (.inl q)
     ·exact .inl q
     ·exact .inr (.inr q)
    ·rintro(q | q | q)
     ·exact .inr (.inl q)
     ·exact .inl q
     ·exact .inr (.inr q)
def zKj (l:List (Nat×Nat)):Prop:=(l.map (·.1)).Pairwise (·<·)
theorem zHS (s:Nat×Nat):∀ (l:List (Nat×Nat)),zKj l→zKj (putLevel s l)
 | [],_=>List.pairwise_singleton _ _
 | r::l,h=>by
  have h':((r::l).map (·.1)).Pairwise (·<·):=h;rw [map_cons,pairwise_cons] at h';unfold putLevel;by_cases h1:s.1<r.1
  ·rw [if_pos h1];show((s::r::l).map (·.1)).Pairwise (·<·);rw [map_cons,pairwise_cons];refine⟨fun a ha=>?_,h⟩;rw [map_cons] at ha
   rcases List.mem_cons.mp ha with rfl | ha
   ·exact h1
   ·exact lt_trans h1 (h'.1 a ha)
  ·rw [if_neg h1];by_cases h2:s.1=r.1
   ·rw [if_pos h2];exact h
   ·rw [if_neg h2];show((r::putLevel s l).map (·.1)).Pairwise (·<·);rw [map_cons,pairwise_cons];refine⟨fun a ha=>?_,zHS s l h'.2⟩
    rcases(zEH s l a).mp ha with rfl | ha
    ·omega
    ·exact h'.1 a ha
theorem zHT:∀ (l acc:List (Nat×Nat)),zKj acc→zKj (l.foldl (fun l s=>putLevel s l) acc)∧(∀ c,lv (l.foldl (fun l s=>putLevel s l) acc) c=lv acc c+lv l c) ∧
  ∀ c,c∈(l.foldl (fun l s=>putLevel s l) acc).map (·.1)↔c∈acc.map (·.1)∨c∈l.map (·.1)
 | [],acc,h=>⟨h,fun c=>by rw [zI8];rfl,fun c=>by simp⟩
 | s::l,acc,h=>by
  obtain⟨h1,h2,h3⟩:=zHT l (putLevel s acc) (zHS s acc h);refine⟨h1,fun c=>?_,fun c=>?_⟩
  ·show lv (l.foldl _ (putLevel s acc)) c=_;rw [h2,zL3,ye];omega
  ·show c∈(l.foldl _ (putLevel s acc)).map (·.1)↔_;rw [h3,zEH,map_cons,mem_cons];constructor
   ·rintro((q | q) | q)
    ·exact .inr (.inl q)
    ·exact .inl q
    ·exact .inr (.inr q)
   ·rintro(q | q | q)
    ·exact .inl (.inr q)
    ·exact .inl (.inl q)
    ·exact .inr q
theorem zI9:∀ {l:List (Nat×Nat)},zKj l→∀ p∈l,lv l p.1=p.2
 | r::l,h,p,hp=>by
  have h':((r::l).map (·.1)).Pairwise (·<·):=h;rw [map_cons,pairwise_cons] at h';rw [ye]
  have none:∀ c,(∀ a∈l.map (·.1),a≠c)→lv l c=0:=by
   intro c hc;unfold lv;rw [List.filter_eq_nil_iff.mpr]
   ·rfl
   ·intro a ha
    simpa using hc a.1 (mem_map_of_mem ha)
  rcases List.mem_cons.mp hp with rfl | hp
  ·rw [if_pos rfl,none p.1 fun a ha=>ne_of_gt (h'.1 a ha)];rfl
  ·have:r.1≠p.1:=ne_of_lt (h'.1 p.1 (mem_map_of_mem hp));rw [if_neg this,zero_add];exact zI9 h'.2 p hp
theorem zHU:∀ {l m:List (Nat×Nat)},zKj l→zKj m→(∀ p,p∈l↔p∈m)→l=m
 | [],[],_,_,_=>rfl
 | [],b::m,_,_,h=>absurd ((h b).mpr mem_cons_self) List.not_mem_nil
 | a::l,[],_,_,h=>absurd ((h a).mp mem_cons_self) List.not_mem_nil
 | a::l,b::m,hl,hm,h=>by
  have hl':((a::l).map (·.1)).Pairwise (·<·):=hl;have hm':((b::m).map (·.1)).Pairwise (·<·):=hm;rw [map_cons,pairwise_cons] at hl' hm'
  have e:a=b:=by
   rcases List.mem_cons.mp ((h a).mp mem_cons_self) with q | q
   ·exact q
   ·rcases List.mem_cons.mp ((h b).mpr mem_cons_self) with q' | q'
    ·exact q'.symm
    ·have h1:=hm'.1 a.1 (mem_map_of_mem q);have h2:=hl'.1 b.1 (mem_map_of_mem q');omega
  subst e;rw [zHU hl'.2 hm'.2];intro p;constructor
  ·intro hp
   rcases List.mem_cons.mp ((h p).mp (mem_cons_of_mem _ hp)) with q | q
   ·have:=hl'.1 p.1 (mem_map_of_mem hp);rw [q] at this;omega
   ·exact q
  ·intro hp
   rcases List.mem_cons.mp ((h p).mpr (mem_cons_of_mem _ hp)) with q | q
   ·have:=hm'.1 p.1 (mem_map_of_mem hp);rw [q] at this;omega
   ·exact q
theorem zJA {b:Bank}{v:Meter}{m:List (Nat×Nat)}(hm:zKj m) (h:∀ p,p∈m↔lv (spansOf b v) p.1=p.2∧p.2≠0):m=levels b v:=by
 obtain⟨h1,h2,h3⟩:=zHT (spansOf b v) [] List.Pairwise.nil
 have inc:zKj (levels b v):=by
  show((levels b v).map (·.1)).Pairwise (·<·);unfold levels;exact List.Pairwise.sublist (List.filter_sublist.map _) h1
 refine zHU hm inc fun p=>?_;rw [h];unfold levels;rw [List.mem_filter];constructor
 ·rintro⟨q1,q2⟩;refine⟨?_,by simpa using q2⟩
  have key:p.1∈(spansOf b v).map (·.1):=by
   refine Decidable.byContradiction fun n=>?_;apply q2;rw [← q1];unfold lv;rw [List.filter_eq_nil_iff.mpr]
   ·rfl
   ·intro a ha;have:a.1≠p.1:=fun e=>n (by rw [← e];exact mem_map_of_mem ha)
    simpa using this
  have:=(h3 p.1).mpr (.inr key);obtain⟨r,hr,er⟩:=List.mem_map.mp this;have e2:=zI9 h1 r hr;rw [h2,zI8,zero_add,er,q1] at e2;have:r=p:=Prod.ext er e2.symm;rw [← this];exact hr
 ·rintro⟨q1,q2⟩;have e2:=zI9 h1 p q1;rw [h2,zI8,zero_add] at e2;exact⟨e2,by simpa using q2⟩
theorem wa (now:Nat):∀ (l:List (Nat×Q)),l≠[]→(l.map (·.1)).Pairwise (·≤·)→(∀ p∈l,p.1≤now) →
  (valueSpans now l).map (fun s=>(s.1,(s.2:Int)))=List.zipWith (fun(m:Nat×Q) (e:Nat)=>(m.2,(e:Int)-(m.1:Int))) l (l.tail.map (·.1)++[now])
 | [],h,_,_=>absurd rfl h
 | [(t,c)],_,_,hn=>by
  have:=hn (t,c) (List.mem_singleton.mpr rfl);show [(c,((now-t:Nat):Int))]=[(c,(now:Int)-(t:Int))];rw [ofNat_sub this]
 | (t,c)::(u,d)::r,_,hs,hn=>by
  rw [map_cons,pairwise_cons] at hs;have ih:=wa now ((u,d)::r) (by simp) hs.2 (fun p hp=>hn p (mem_cons_of_mem _ hp));have le:t≤u:=hs.1 u (by simp);show(c,((u-t:Nat):Int))::(valueSpans now ((u,d)::r)).map _=(c,(u:Int)-(t:Int))::_;rw [ih,ofNat_sub le];rfl
theorem zDi {α:Type}(f:α→Int):∀ (l:List α) (a:Int),l.foldl (fun a s=>a+f s) a=a+(l.map f).sum
 | [],a=>by simp
 | x::l,a=>by
  show l.foldl _ (a+f x)=_;rw [zDi f l,map_cons,sum_cons];omega
theorem zFJ (b:Bank) (v:Value):integral b v=(((valueSpans b.clock (valueLine b v)).map (fun s=>(s.1,(s.2:Int)))).map fun s=>thousandths s.1*s.2).sum:=by
 unfold integral;rw [zDi (fun(s:Q×Nat)=>thousandths s.1*(s.2:Int)),map_map,Int.zero_add];rfl
theorem zDG (b:Bank) (v:Value) (q:Q):((ticksAbove b v q:Nat):Int)=(((valueSpans b.clock (valueLine b v)).map (fun s=>(s.1,(s.2:Int)))).map fun s=>if q.le s.1=true then s.2 else 0).sum:=by
 unfold ticksAbove;rw [zAN,map_map,map_map];congr 1;apply map_congr_left;intro s _;show(((if q.le s.1=true then s.2 else 0:Nat)):Int)=(if q.le s.1=true then(s.2:Int) else 0);split<;>rfl
theorem zCF:∀ (m:List (Nat×Rat)) (a:Rat),(m.map fun s=>(s.1,toQ s.2)).foldl (fun m x=>Q.min m x.2) (toQ a)=toQ (m.foldl (fun m x=>if m≤x.2 then m else x.2) a)
 | [],a=>rfl
 | x::m,a=>by
  show(m.map fun s=>(s.1,toQ s.2)).foldl _ (Q.min (toQ a) (toQ x.2))=_;rw [zMh,zCF m];rfl
theorem zCG:∀ (m:List (Nat×Rat)) (a:Rat),(m.map fun s=>(s.1,toQ s.2)).foldl (fun m x=>Q.max m x.2) (toQ a)=toQ (m.foldl (fun m x=>if m≤x.2 then x.2 else m) a)
 | [],a=>rfl
 | x::m,a=>by
  show(m.map fun s=>(s.1,toQ s.2)).foldl _ (Q.max (toQ a) (toQ x.2))=_;rw [zMi,zCG m];rfl
def mnF (a:Rat) (m:List (Nat×Rat)):Rat:=m.foldl (fun m x=>if m≤x.2 then m else x.2) a
def mxF (a:Rat) (m:List (Nat×Rat)):Rat:=m.foldl (fun m x=>if m≤x.2 then x.2 else m) a
theorem zDj {a b:Rat}(h:¬ a≤b):b≤a:=by
 rcases Rat.le_total (a:=a) (b:=b) with q | q
 ·exact absurd q h
 ·exact q
theorem zL4:∀ (m:List (Nat×Rat)) (a:Rat),(mnF a m=a∨∃ x∈m,mnF a m=x.2)∧mnF a m≤a∧∀ x∈m,mnF a m≤x.2
 | [],a=>⟨.inl rfl,Rat.le_refl,fun x hx=>(nomatch hx)⟩
 | x::m,a=>by
  have e:mnF a (x::m)=mnF (if a≤x.2 then a else x.2) m:=rfl;rw [e];obtain⟨h1,h2,h3⟩:=zL4 m (if a≤x.2 then a else x.2);by_cases h:a≤x.2
  ·rw [if_pos h] at h1 h2 h3 ⊢;refine⟨?_,h2,fun y hy=>?_⟩
   ·rcases h1 with q | ⟨y,hy,q⟩
    ·exact .inl q
    ·exact .inr ⟨y,mem_cons_of_mem _ hy,q⟩
   ·rcases List.mem_cons.mp hy with rfl | hy
    ·exact Rat.le_trans h2 h
    ·exact h3 y hy
  ·rw [if_neg h] at h1 h2 h3 ⊢;refine⟨?_,Rat.le_trans h2 (zDj h),fun y hy=>?_⟩
   ·rcases h1 with q | ⟨y,hy,q⟩
    ·exact .inr ⟨x,mem_cons_self,q⟩
    ·exact .inr ⟨y,mem_cons_of_mem _ hy,q⟩
   ·rcases List.mem_cons.mp hy with rfl | hy
    ·exact h2
    ·exact h3 y hy
theorem zL5:∀ (m:List (Nat×Rat)) (a:Rat),(mxF a m=a∨∃ x∈m,mxF a m=x.2)∧a≤mxF a m∧∀ x∈m,x.2≤mxF a m
 | [],a=>⟨.inl rfl,Rat.le_refl,fun x hx=>(nomatch hx)⟩
 | x::m,a=>by
  have e:mxF a (x::m)=mxF (if a≤x.2 then x.2 else a) m:=rfl;rw [e];obtain⟨h1,h2,h3⟩:=zL5 m (if a≤x.2 then x.2 else a);by_cases h:a≤x.2
  ·rw [if_pos h] at h1 h2 h3 ⊢;refine⟨?_,Rat.le_trans h h2,fun y hy=>?_⟩
   ·rcases h1 with q | ⟨y,hy,q⟩
    ·exact .inr ⟨x,mem_cons_self,q⟩
    ·exact .inr ⟨y,mem_cons_of_mem _ hy,q⟩
   ·rcases List.mem_cons.mp hy with rfl | hy
    ·exact h2
    ·exact h3 y hy
  ·rw [if_neg h] at h1 h2 h3 ⊢;refine⟨?_,h2,fun y hy=>?_⟩
   ·rcases h1 with q | ⟨y,hy,q⟩
    ·exact .inl q
    ·exact .inr ⟨y,mem_cons_of_mem _ hy,q⟩
   ·rcases List.mem_cons.mp hy with rfl | hy
    ·exact Rat.le_trans (zDj h) h2
    ·exact h3 y hy
theorem zEI {m:List (Nat×Rat)}{r:Rat}(hr:∃ x∈m,x.2=r) (hl:∀ x∈m,r≤x.2):least (m.map fun s=>(s.1,toQ s.2))=toQ r:=by
 cases m with
 | nil=>obtain⟨x,hx,_⟩:=hr;cases hx
 | cons a m =>
  show(m.map fun s=>(s.1,toQ s.2)).foldl _ (toQ a.2)=_;rw [zCF];obtain⟨h1,h2,h3⟩:=zL4 m a.2;show toQ (mnF a.2 m)=_;congr 1;obtain⟨x,hx,ex⟩:=hr;apply Rat.le_antisymm
  ·rcases List.mem_cons.mp hx with q | q
   ·rw [← ex,q];exact h2
   ·rw [← ex];exact h3 x q
  ·rcases h1 with q | ⟨y,hy,q⟩
   ·rw [q];exact hl a mem_cons_self
   ·rw [q];exact hl y (mem_cons_of_mem _ hy)
theorem zJB {m:List (Nat×Rat)}{r:Rat}(hr:∃ x∈m,x.2=r) (hl:∀ x∈m,x.2≤r):most (m.map fun s=>(s.1,toQ s.2))=toQ r:=by
 cases m with
 | nil=>obtain⟨x,hx,_⟩:=hr;cases hx
 | cons a m =>
  show(m.map fun s=>(s.1,toQ s.2)).foldl _ (toQ a.2)=_;rw [zCG];obtain⟨h1,h2,h3⟩:=zL5 m a.2;show toQ (mxF a.2 m)=_;congr 1;obtain⟨x,hx,ex⟩:=hr;apply Rat.le_antisymm
  ·rcases h1 with q | ⟨y,hy,q⟩
   ·rw [q];exact hl a mem_cons_self
   ·rw [q];exact hl y (mem_cons_of_mem _ hy)
  ·rcases List.mem_cons.mp hx with q | q
   ·rw [← ex,q];exact h2
   ·rw [← ex];exact h3 x q
theorem zGP (s:Nat×Q) (l:List (Nat×Q)):weight (s::l)=s.1+weight l:=by
 unfold weight;rw [map_cons,zp]
theorem zJC (m:List (Nat×Rat)):total (m.map fun s=>(s.1,toQ s.2))=toQ (m.map fun s=>(s.1:Rat)*s.2).sum:=by
 unfold total;rw [map_map,← zI7,map_map];congr 1;apply map_congr_left;intro s _;show(Q.whole (s.1:Int)).mul (toQ s.2)=toQ _;rw [zFH,zEG];rfl
theorem zGQ (m:List (Nat×Rat)):squares (m.map fun s=>(s.1,toQ s.2))=toQ (m.map fun s=>(s.1:Rat)*(s.2*s.2)).sum:=by
 unfold squares;rw [map_map,← zI7,map_map];congr 1;apply map_congr_left;intro s _;show(Q.whole (s.1:Int)).mul ((toQ s.2).mul (toQ s.2))=toQ _;rw [zFH,zEG,zEG];rfl
theorem zKr {l m:List Rat}(h:l.Perm m):l.sum=m.sum:=by
 induction h with
 | nil=>rfl
 | cons x _ ih=>rw [sum_cons,sum_cons,ih]
 | swap x y l=>rw [sum_cons,sum_cons,sum_cons,sum_cons];grind
 | trans _ _ a b=>exact a.trans b
end Mb
namespace Mb
open Vbdeai
def qs (m:List (Nat×Rat)):List (Nat×Q):=m.map fun s=>(s.1,toQ s.2)
def vz (f:Rat→Bool) (m:List (Nat×Rat)):Nat:=sumN ((m.filter fun s=>f s.2).map (·.1))
theorem zKs (f:Rat→Bool):vz f []=0:=rfl
theorem jH (f:Rat→Bool) (s:Nat×Rat) (m:List (Nat×Rat)):vz f (s::m)=(if f s.2=true then s.1 else 0)+vz f m:=by
 unfold vz;rw [filter_cons];by_cases h:f s.2=true
 ·rw [if_pos h,if_pos h,map_cons,zp]
 ·rw [if_neg h,if_neg h,zero_add]
theorem zMj {f g h:Rat→Bool}(m:List (Nat×Rat)) (e:∀ r,(h r=(f r||g r))∧¬ (f r=true∧g r=true)):vz h m=vz f m+vz g m:=by
 induction m with
 | nil=>rfl
 | cons s m ih =>
  rw [jH,jH,jH,ih,(e s.2).1];have n:=(e s.2).2
  cases hf:f s.2<;>cases hg:g s.2<;>simp_all<;>omega
theorem zFK {f:Rat→Bool}{l m:List (Nat×Rat)}(h:l.Perm m):vz f l=vz f m:=by
 induction h with
 | nil=>rfl
 | cons x _ ih=>rw [jH,jH,ih]
 | swap x y l=>rw [jH,jH,jH,jH];omega
 | trans _ _ a b=>exact a.trans b
theorem zDk {f g:Rat→Bool}{m:List (Nat×Rat)}(h:∀ s∈m,f s.2=g s.2):vz f m=vz g m:=by
 induction m with
 | nil=>rfl
 | cons s m ih=>rw [jH,jH,ih fun x hx=>h x (mem_cons_of_mem _ hx),h s mem_cons_self]
theorem zAO (f:Q→Bool) (m:List (Nat×Rat)):weight ((qs m).filter fun s=>f s.2)=vz (fun r=>f (toQ r)) m:=by
 induction m with
 | nil=>rfl
 | cons s m ih =>
  show weight (((s.1,toQ s.2)::qs m).filter _)=_;rw [filter_cons,jH];by_cases h:f (toQ s.2)=true
  ·rw [if_pos h,if_pos h,zGP,ih]
  ·rw [if_neg h,if_neg h,ih,zero_add]
theorem zFL (m:List (Nat×Rat)):weight (qs m)=vz (fun _=>true) m:=by
 have:=zAO (fun _=>true) m;rw [List.filter_eq_self.mpr (fun a _=>rfl)] at this;exact this
theorem zHV (m:List (Nat×Rat)) (r:Rat):below (qs m) (toQ r)=vz (fun x=>decide (x<r)) m:=by
 unfold below;rw [zAO (fun q=>q.lt (toQ r))];exact zDk fun s _=>zHR s.2 r
theorem zHW (m:List (Nat×Rat)) (r:Rat):equal (qs m) (toQ r)=vz (fun x=>decide (x=r)) m:=by
 unfold equal;rw [zAO (fun q=>q==toQ r)];exact zDk fun s _=>zMg s.2 r
theorem zMk (m:List (Nat×Rat)) (r:Rat):below (qs m) (toQ r)+equal (qs m) (toQ r)=vz (fun x=>decide (x≤r)) m:=by
 rw [zHV,zHW];refine(zMj m fun x=>?_).symm;by_cases h1:x<r
 ·have h2:x≤r:=Rat.le_of_lt h1
  have h3:¬ x=r:=by intro e;rw [e] at h1;exact absurd h1 (Rat.not_lt.mpr Rat.le_refl)
  simp [h1,h2,h3]
 ·by_cases h3:x=r
  ·subst h3;simp [Rat.le_refl]
  ·have h2:¬ x≤r:=fun h=>h3 (Rat.le_antisymm h (Rat.not_lt.mp h1));simp [h1,h2,h3]
theorem zGR {m:List (Nat×Rat)}{p q:Nat}{r:Rat}(hr:∃ x∈m,x.2=r) (hs:p*vz (fun _=>true) m≤q*vz (fun x=>decide (x≤r)) m)
  (hm:∀ x∈m,p*vz (fun _=>true) m≤q*vz (fun y=>decide (y≤x.2)) m→r≤x.2):quantile (qs m) p q=some (toQ r):=by
 unfold quantile
 have e:((qs m).map fun s=>s.2)=m.map fun s=>toQ s.2:=by unfold qs;rw [map_map];rfl
 rw [e]
 have ok:∀ x:Rat,decide (p*weight (qs m)≤q*(below (qs m) (toQ x)+equal (qs m) (toQ x)))=decide (p*vz (fun _=>true) m≤q*vz (fun y=>decide (y≤x)) m):=fun x=>by rw [zFL,zMk]
 have fe:((m.map fun s=>toQ s.2).filter fun v=>decide (p*weight (qs m)≤q*(below (qs m) v+equal (qs m) v)))=(m.filter fun s=>decide (p*vz (fun _=>true) m≤q*vz (fun y=>decide (y≤s.2)) m)).map fun s=>toQ s.2:=by
  rw [List.filter_map];congr 1;apply List.filter_congr;intro s _;exact ok s.2
 rw [fe]
 have key:∀ (c:List (Nat×Rat)),(∃ x∈c,x.2=r)→(∀ x∈c,r≤x.2)→(match c.map fun s=>toQ s.2 with
   | []=>none
   | v::r=>some (r.foldl Q.min v))=some (toQ r):=by
  intro c h1 h2;have hl:=zEI (m:=c) h1 h2
  cases c with
  | nil=>obtain⟨x,hx,_⟩:=h1;cases hx
  | cons a c =>
   show some ((c.map fun s=>toQ s.2).foldl Q.min (toQ a.2))=_;have:(c.map fun s=>(s.1,toQ s.2)).foldl (fun m x=>Q.min m x.2) (toQ a.2)=toQ r:=hl;rw [List.foldl_map] at this;rw [List.foldl_map];exact congrArg some this
 refine key _ ?_ ?_
 ·obtain⟨x,hx,ex⟩:=hr;refine⟨x,List.mem_filter.mpr ⟨hx,?_⟩,ex⟩;rw [ex];exact decide_eq_true hs
 ·intro x hx;obtain⟨h1,h2⟩:=List.mem_filter.mp hx;exact hm x h1 (of_decide_eq_true h2)
theorem zJD {a c:Int}{b d:Nat}(hb:b≠0) (hd:d≠0):mkRat a b≤mkRat c d↔a*(d:Int)≤c*(b:Int):=by
 cases e:mkRat a b with | mk' x y hy r =>
 cases e':mkRat c d with | mk' z u hu r' =>
 obtain⟨g,hg,e1,e2⟩:=Rat.mkRat_num_den hb e;obtain⟨h,hh,e3,e4⟩:=Rat.mkRat_num_den hd e';rw [Rat.le_iff];clear e e';subst e1 e2 e3 e4;show x*(u:Int)≤z*(y:Int)↔_;have p:(0:Int)<(g:Int)*(h:Int):=Int.mul_pos (by omega) (by omega)
 have q1:x*(g:Int)*((u*h:Nat):Int)=(x*(u:Int))*((g:Int)*(h:Int)):=by rw [natCast_mul];grind
 have q2:z*(h:Int)*((y*g:Nat):Int)=(z*(y:Int))*((g:Int)*(h:Int)):=by rw [natCast_mul];grind
 rw [q1,q2];exact⟨fun q=>Int.mul_le_mul_of_nonneg_right q (Int.le_of_lt p),fun q=>Int.le_of_mul_le_mul_right q p⟩
theorem zGS (j:Int) (y:Rat):(j:Rat)*y=mkRat (j*y.num) y.den:=by
 have:(j:Rat)=mkRat j 1:=by rw [Rat.mkRat_one]
 rw [this]
 conv=>lhs;rw [← yd y]
 rw [Rat.mkRat_mul_mkRat,Nat.one_mul]
theorem zHX (x y:Rat) (j:Int) (hy:0<y.num):j≤(x.num*(y.den:Int))/((x.den:Int)*y.num)↔(j:Rat)*y≤x:=by
 have hx:(0:Int)<(x.den:Int):=by have:=x.den_nz;omega
 rw [Int.le_ediv_iff_mul_le (Int.mul_pos hx hy),zGS]
 conv=>rhs;rw [← yd x]
 rw [zJD y.den_nz x.den_nz]
 have:j*((x.den:Int)*y.num)=j*y.num*(x.den:Int):=by grind
 rw [this]
theorem zGT {y:Rat}(h:0<y):0<y.num:=by
 have:=Rat.lt_iff 0 y;rw [this] at h
 simpa using h
theorem zJE {v:Table}{lo r:Rat}(hl:v.low=toQ lo) (h:r<lo):classOf v (toQ r)=0:=by
 unfold classOf;rw [hl,zHR,if_pos (decide_eq_true h)]
end Mb
namespace Mb
open Vbdeai
theorem zB1 {α:Type}(l:List α) (i j:Nat) (x d:α) (h:i<l.length):(l.set i x).getD j d=if j=i then x else l.getD j d:=by
 rw [getD_eq_getElem?_getD,getD_eq_getElem?_getD];by_cases e:j=i
 ·subst e;rw [if_pos rfl,getElem?_set_self h];rfl
 ·rw [if_neg e,getElem?_set_ne (fun q=>e q.symm)]
theorem zFM {b:Bank}{i:Nat}(j:Nat) (v:Meter) (h:i<b.meters.length):(b.setMeter i v).meter j=if j=i then v else b.meter j:=zB1 _ _ _ _ _ h
theorem kS {b:Bank}{i:Nat}(j:Nat) (v:Table) (h:i<b.tables.length):(b.setTable i v).table j=if j=i then v else b.table j:=zB1 _ _ _ _ _ h
theorem zCH {b:Bank}{i:Nat}(j:Nat) (v:Value) (h:i<b.values.length):(b.setValue i v).value j=if j=i then v else b.value j:=zB1 _ _ _ _ _ h
theorem wC {α β:Type}(f:α→β) (l:List α) (i:Nat) (d:α) (h:i<l.length) (e:β):(l.map f).getD i e=f (l.getD i d):=by
 rw [getD_eq_getElem?_getD,getD_eq_getElem?_getD,getElem?_map,getElem?_eq_getElem h];rfl
theorem zB2 {α:Type}(f:α→Nat):∀ (l:List α) (i:Nat) (x d:α),i<l.length→sumN ((l.set i x).map f)+f (l.getD i d)=sumN (l.map f)+f x
 | [],i,x,d,h=>absurd h (Nat.not_lt_zero _)
 | a::l,0,x,d,_=>by
  show sumN ((x::l).map f)+f a=_;rw [map_cons,map_cons,zp,zp];omega
 | a::l,i+1,x,d,h=>by
  have ih:=zB2 f l i x d (Nat.lt_of_succ_lt_succ h);show sumN ((a::l.set i x).map f)+f (l.getD i d)=_;rw [map_cons,map_cons,zp,zp];omega
theorem zGU {α:Type}(f:α→Nat):∀ (l:List α) (i:Nat) (d:α),i<l.length→f (l.getD i d)≤sumN (l.map f)
 | [],i,d,h=>absurd h (Nat.not_lt_zero _)
 | a::l,0,d,_=>by
  show f a≤_;rw [map_cons,zp];omega
 | a::l,i+1,d,h=>by
  have ih:=zGU f l i d (Nat.lt_of_succ_lt_succ h);show f (l.getD i d)≤_;rw [map_cons,zp];omega
abbrev BIG:Nat:=1000000000000000000
def QIn (q:Q):Prop:=∃ r:Rat,q=toQ r∧r.num.natAbs≤BIG∧r.den≤BIG
theorem zAP {n:Int}{d:Nat}(hd:d≠0):(mkRat n d).num.natAbs≤n.natAbs∧(mkRat n d).den≤d:=by
 cases e:mkRat n d with | mk' x y hy r =>
 obtain⟨g,hg,e1,e2⟩:=Rat.mkRat_num_den hd e;have g1:1≤g:=Nat.one_le_iff_ne_zero.mpr hg;constructor
 ·show x.natAbs≤n.natAbs;rw [e1,Int.natAbs_mul];exact Nat.le_mul_of_pos_right _ g1
 ·show y≤d;rw [e2];exact Nat.le_mul_of_pos_right _ g1
theorem zHY {n d:Int}(h1 : -1000000000000000000≤n) (h2:n≤1000000000000000000) (h3:1≤d) (h4:d≤1000000000000000000):QIn (q n d):=by
 have hd:d.toNat≠0:=by omega
 obtain⟨a,b⟩:=zAP (n:=n) hd;refine⟨mkRat n d.toNat,xV n hd,le_trans a ?_,le_trans b ?_⟩
 ·show n.natAbs≤1000000000000000000;omega
 ·show d.toNat≤1000000000000000000;omega
theorem zN2 {n d:Int}(h1:0<n) (h3:1≤d):∃ r:Rat,q n d=toQ r∧0<r:=by
 have hd:d.toNat≠0:=by omega
 refine⟨mkRat n d.toNat,xV n hd,?_⟩;have e:(0:Rat)=mkRat 0 1:=rfl;rw [e];refine Rat.not_le.mp fun h=>?_;rw [zJD hd (by decide)] at h;omega
structure TOk (v:Table):Prop where
 few:v.classes≤100
 bounds:v.classes≠0→∃ lo wi:Rat,v.low=toQ lo∧v.width=toQ wi∧0<wi∧QIn v.low∧QIn v.width
 seen:∃ m:List (Nat×Rat),v.seen=qs m∧∀ s∈m,1≤s.1∧s.1≤1000000000∧s.2.den≤1000∧s.2.num.natAbs≤BIG
structure VOk (T0 T:Nat) (v:Value):Prop where
 base:QIn v.base
 times:∀ s∈v.sets,T0≤s.1∧s.1≤T∧QIn s.2
 sorted:(v.sets.map (·.1)).Pairwise (fun a b=>b≤a)
structure zw (n:Nat) (b:Bank):Prop where
 lm:b.meters.length=256
 lt:b.tables.length=64
 lv:b.values.length=64
 clock:b.clock≤BIG
 since:b.since≤b.clock
 mok:∀ i,i<256→MOk b.since b.clock (b.meter i)
 evs:∀ i,i<256→(b.meter i).evs.length≤n
 cont:∀ i,i<256→content (b.meter i)≤n*1000000000
 tok:∀ i,i<64→TOk (b.table i)
 seens:sumN (b.tables.map fun v=>v.seen.length)≤n
 vok:∀ i,i<64→VOk b.since b.clock (b.value i)
 sets:∀ i,i<64→(b.value i).sets.length≤n
theorem zw.mono {n n':Nat}{b:Bank}(h:zw n b) (l:n≤n'):zw n' b :=
 ⟨h.lm,h.lt,h.lv,h.clock,h.since,h.mok,fun i hi=>le_trans (h.evs i hi) l,fun i hi=>le_trans (h.cont i hi) (Nat.mul_le_mul_right _ l),h.tok,le_trans h.seens l,h.vok,fun i hi=>le_trans (h.sets i hi) l⟩
theorem VOk.later {T0 T T':Nat}{v:Value}(h:VOk T0 T v) (l:T≤T'):VOk T0 T' v:=⟨h.base,fun s hs=>⟨(h.times s hs).1,le_trans (h.times s hs).2.1 l,(h.times s hs).2.2⟩,h.sorted⟩
theorem wD {α:Type}(n i:Nat) (d:α):(List.replicate n d).getD i d=d:=by
 rw [getD_eq_getElem?_getD,List.getElem?_replicate];split<;>rfl
theorem QIn.zero:QIn Q.zero:=⟨0,rfl,by decide,by decide⟩
theorem zHZ:zw 0 Vbdeai.start:=by
 have m:∀ i,Vbdeai.start.meter i={}:=fun i=>wD _ _ _;have t:∀ i,Vbdeai.start.table i={}:=fun i=>wD _ _ _;have v:∀ i,Vbdeai.start.value i={}:=fun i=>wD _ _ _;refine⟨length_replicate,length_replicate,length_replicate,zero_le _,le_refl _,fun i _=>?_,fun i _=>?_,fun i _=>?_,fun i _=>?_,by decide +kernel,fun i _=>?_,fun i _=>?_⟩
 ·rw [m];exact MOk.empty (le_refl _)
 ·rw [m];exact le_refl _
 ·rw [m];exact zero_le _
 ·rw [t];exact⟨zero_le _,fun h=>absurd rfl h,[],rfl,fun s hs=>(nomatch hs)⟩
 ·rw [v];exact⟨QIn.zero,fun s hs=>(nomatch hs),List.Pairwise.nil⟩
 ·rw [v];exact le_refl _
theorem zw.tick {n t:Nat}{b:Bank}(h:zw n b) (l:b.clock≤t) (hb:t≤BIG):zw n { b with clock:=t } :=
 ⟨h.lm,h.lt,h.lv,hb,le_trans h.since l,fun i hi=>(h.mok i hi).later l,h.evs,h.cont,h.tok,h.seens,fun i hi=>(h.vok i hi).later l,h.sets⟩
theorem zw.meterStep {n t i:Nat}{b:Bank}{v:Meter}(h:zw n b) (l:b.clock≤t) (hb:t≤BIG) (hi:i<256) (mo:MOk b.since t v) (he:v.evs.length≤(b.meter i).evs.length+1) (hc:content v≤content (b.meter i)+1000000000) :
  zw (n+1) ({ b with clock:=t }.setMeter i v):=by
 have h':=(h.tick l hb).mono (le_succ n)
 have hl:i<({ b with clock:=t }:Bank).meters.length:=by show i<b.meters.length;rw [h.lm];exact hi
 have ms:=fun j=>zFM (b:={ b with clock:=t }) j v hl;refine⟨?_,h'.lt,h'.lv,h'.clock,h'.since,fun j hj=>?_,fun j hj=>?_,fun j hj=>?_,h'.tok,h'.seens,h'.vok,h'.sets⟩
 ·show(b.meters.set i v).length=256;rw [length_set];exact h.lm
 ·rw [ms];split
  ·exact mo
  ·exact h'.mok j hj
 ·rw [ms];split
  ·rename_i e;subst e;have:=h.evs j hj;omega
  ·exact h'.evs j hj
 ·rw [ms];split
  ·rename_i e;subst e;have:=h.cont j hj;omega
  ·exact h'.cont j hj
theorem zAQ {l:List Stay}{x:Nat}:(l.any fun s=>s.id==x)=false↔x∉l.map (·.id):=by
 rw [List.any_eq_false];constructor
 ·intro h q;obtain⟨s,hs,e⟩:=List.mem_map.mp q;exact h s hs (by simpa using e)
 ·intro h s hs e;exact h (List.mem_map.mpr ⟨s,hs,by simpa using e⟩)
def ROk (n:Nat) (b:Bank):R→Prop
 | .err _=>True
 | .ok c=>zw n c
theorem zMl {n t m x u:Nat}{b:Bank}(h:zw n b) (ht:t≤BIG) (hm:m<256) (hx:1≤x∧x≤1000000000) (hu:1≤u∧u≤1000000000):ROk (n+1) b (join b t m x u):=by
 unfold join timed;by_cases ht':t<b.clock
 ·rw [if_pos ht'];trivial
 rw [if_neg ht'];have l:b.clock≤t:=le_of_not_lt ht';show ROk _ b (if((b.meter m).ins.any fun s=>s.id==x)=true then _ else _);by_cases h1:((b.meter m).ins.any fun s=>s.id==x)=true
 ·rw [if_pos h1];trivial
 rw [if_neg h1];show ROk _ b (if CAP≤(b.meter m).ins.length then _ else _);by_cases h2:CAP≤(b.meter m).ins.length
 ·rw [if_pos h2];trivial
 rw [if_neg h2];refine h.meterStep l ht hm ((h.mok m hm).join l hx hu (zAQ.mp (by simpa using h1)) (by unfold CAP at h2;omega)) (le_refl _) ?_;rw [xT];show content (b.meter m)+u≤_;omega
theorem zMm {n t m x:Nat}{b:Bank}(h:zw n b) (ht:t≤BIG) (hm:m<256):ROk (n+1) b (quit b t m x):=by
 unfold quit timed;by_cases ht':t<b.clock
 ·rw [if_pos ht'];trivial
 rw [if_neg ht'];have l:b.clock≤t:=le_of_not_lt ht'
 show ROk _ b (match (b.meter m).ins.find? fun s=>s.id==x with | none=>_ | some s=>_)
 cases e:(b.meter m).ins.find? (fun s=>s.id==x) with
 | none=>trivial
 | some s =>
  refine h.meterStep l ht hm ((h.mok m hm).quit l e) (le_refl _) ?_;have q:=vx (⟨t,false,x,s.units,s.since⟩::(b.meter m).evs) (h.mok m hm).nd e;exact le_trans (le_trans (le_add_right _ _) (le_of_eq q)) (le_add_right _ _)
theorem zKt {n t m k:Nat}{b:Bank}(h:zw n b) (ht:t≤BIG) (hm:m<256) (hk:k≤1000000000):ROk (n+1) b (raise b t m k):=by
 unfold raise timed;by_cases ht':t<b.clock
 ·rw [if_pos ht'];trivial
 rw [if_neg ht'];have l:b.clock≤t:=le_of_not_lt ht';refine h.meterStep l ht hm ((h.mok m hm).raise l hk) (le_refl _) ?_;have q:=jw (b.meter m) ((b.meter m).loose+k) (⟨t,true,0,k,t⟩::(b.meter m).evs);refine Nat.le_of_add_le_add_right (b:=(b.meter m).loose) (le_trans (le_of_eq q) ?_);omega
theorem zKu {n t m k:Nat}{b:Bank}(h:zw n b) (ht:t≤BIG) (hm:m<256) (hk:k≤1000000000):ROk (n+1) b (lower b t m k):=by
 unfold lower timed;by_cases ht':t<b.clock
 ·rw [if_pos ht'];trivial
 rw [if_neg ht'];have l:b.clock≤t:=le_of_not_lt ht';show ROk _ b (if(b.meter m).loose<k then _ else _);by_cases h1:(b.meter m).loose<k
 ·rw [if_pos h1];trivial
 rw [if_neg h1];refine h.meterStep l ht hm ((h.mok m hm).lower l hk (le_of_not_lt h1)) (le_refl _) ?_;have q:=jw (b.meter m) ((b.meter m).loose-k) (⟨t,false,0,k,t⟩::(b.meter m).evs);refine Nat.le_of_add_le_add_right (b:=(b.meter m).loose) (le_trans (le_of_eq q) ?_);omega
theorem zw.tableStep {n k:Nat}{b:Bank}{v:Table}(h:zw n b) (hk:k<64) (to:TOk v) (hs:v.seen.length≤(b.table k).seen.length+1):zw (n+1) (b.setTable k v):=by
 have h':=h.mono (le_succ n)
 have hl:k<b.tables.length:=by rw [h.lt];exact hk
 refine⟨h'.lm,?_,h'.lv,h'.clock,h'.since,h'.mok,h'.evs,h'.cont,fun j hj=>?_,?_,h'.vok,h'.sets⟩
 ·show(b.tables.set k v).length=64;rw [length_set];exact h.lt
 ·rw [kS j v hl];split
  ·exact to
  ·exact h'.tok j hj
 ·have q:=zB2 (fun v:Table=>v.seen.length) b.tables k v {} hl;have:=h.seens;have e:(b.table k).seen.length=(b.tables.getD k {}).seen.length:=rfl;show sumN ((b.tables.set k v).map fun v=>v.seen.length)≤n+1;omega
theorem zJF {n k c:Nat}{b:Bank}{lo wi:Q}(h:zw n b) (hk:k<64) (hc:c≤100) (hl:QIn lo) (hw:QIn wi) (hp:∃ r:Rat,wi=toQ r∧0<r):ROk (n+1) b (define b k c lo wi):=by
 refine h.tableStep hk ⟨hc,fun _=>?_,[],rfl,fun s hs=>(nomatch hs)⟩ (zero_le _);have hl':=hl;obtain⟨a,ea,_⟩:=hl';obtain⟨r,er,hr⟩:=hp;exact⟨a,r,ea,er,hr,hl,hw⟩
theorem zKv {n k w:Nat}{b:Bank}{v:Q}(h:zw n b) (hk:k<64) (hw:1≤w∧w≤1000000000) (hv:QIn v):ROk (n+1) b (tally b k w v):=by
 unfold tally;by_cases h1:(b.table k).classes=0
 ·rw [if_pos h1];trivial
 rw [if_neg h1];by_cases h2:FINE<v.den
 ·rw [if_pos h2];trivial
 rw [if_neg h2];have to:=h.tok k hk;obtain⟨r,er,hr1,hr2⟩:=hv;obtain⟨m,em,hm⟩:=to.seen
 have hd:r.den≤1000:=by
  have:v.den=r.den:=by rw [er];rfl
  unfold FINE at h2;omega
 refine h.tableStep hk ⟨to.few,to.bounds,(w,r)::m,?_,fun s hs=>?_⟩ (le_refl _)
 ·show(w,v)::(b.table k).seen=_;rw [em,er];rfl
 ·rcases List.mem_cons.mp hs with rfl | hs
  ·exact⟨hw.1,hw.2,hd,hr1⟩
  ·exact hm s hs
theorem zKw {n k j:Nat}{b:Bank}(h:zw n b) (hk:k<64) (hj:j<64):ROk (n+1) b (merge b k j):=by
 unfold merge;dsimp only;by_cases h0:k=j
 ·rw [if_pos h0];trivial
 rw [if_neg h0];by_cases h1:(b.table k).classes=0∨(b.table j).classes=0
 ·rw [if_pos h1];trivial
 rw [if_neg h1];by_cases h2:(b.table k).classes≠(b.table j).classes∨(b.table k).low≠(b.table j).low∨(b.table k).width≠(b.table j).width
 ·rw [if_pos h2];trivial
 rw [if_neg h2];have h':=h.mono (le_succ n);have tk:=h.tok k hk;have tj:=h.tok j hj
 have hl:k<b.tables.length:=by rw [h.lt];exact hk
 have hl2:j<(b.setTable k { b.table k with seen:=(b.table j).seen++(b.table k).seen }).tables.length:=by
  show j<(b.tables.set k _).length;rw [length_set,h.lt];exact hj
 obtain⟨mk,ek,hmk⟩:=tk.seen;obtain⟨mj,ej,hmj⟩:=tj.seen;refine⟨h'.lm,?_,h'.lv,h'.clock,h'.since,h'.mok,h'.evs,h'.cont,fun i hi=>?_,?_,h'.vok,h'.sets⟩
 ·show((b.tables.set k _).set j _).length=64;rw [length_set,length_set];exact h.lt
 ·rw [kS i _ hl2];split
  ·exact⟨tj.few,tj.bounds,[],rfl,fun s hs=>(nomatch hs)⟩
  ·rw [kS i _ hl];split
   ·refine⟨tk.few,tk.bounds,mj++mk,?_,fun s hs=>?_⟩
    ·show(b.table j).seen++(b.table k).seen=_;rw [ek,ej];unfold qs;rw [map_append]
    ·rcases List.mem_append.mp hs with q | q
     ·exact hmj s q
     ·exact hmk s q
   ·exact h'.tok i hi
 ·have q1:=zB2 (fun v:Table=>v.seen.length) b.tables k { b.table k with seen:=(b.table j).seen++(b.table k).seen } {} hl;have hl3:j<(b.tables.set k { b.table k with seen:=(b.table j).seen++(b.table k).seen }).length:=hl2;have q2:=zB2 (fun v:Table=>v.seen.length) (b.tables.set k { b.table k with seen:=(b.table j).seen++(b.table k).seen }) j { b.table j with seen:=[] } {} hl3;have e1:(b.table k).seen.length=(b.tables.getD k {}).seen.length:=rfl
  have e2:((b.tables.set k { b.table k with seen:=(b.table j).seen++(b.table k).seen }).getD j {}).seen.length=(b.table j).seen.length:=by
   rw [zB1 _ _ _ _ _ hl,if_neg (fun q=>h0 q.symm)];rfl
  have:=h.seens;have a1:((b.table j).seen++(b.table k).seen).length=(b.table j).seen.length+(b.table k).seen.length:=length_append;have q1':sumN ((b.tables.set k { b.table k with seen:=(b.table j).seen++(b.table k).seen }).map fun v:Table=>v.seen.length)+(b.table k).seen.length=sumN (b.tables.map fun v:Table=>v.seen.length)+((b.table j).seen++(b.table k).seen).length:=q1;rw [a1] at q1'
  have q2':sumN (((b.tables.set k { b.table k with seen:=(b.table j).seen++(b.table k).seen }).set j { b.table j with seen:=[] }).map fun v:Table=>v.seen.length)+(b.table j).seen.length=sumN ((b.tables.set k { b.table k with seen:=(b.table j).seen++(b.table k).seen }).map fun v:Table=>v.seen.length)+0:=by
   rw [← e2];exact q2
  refine Nat.le_of_add_le_add_right (b:=(b.table j).seen.length+(b.table k).seen.length) ?_;have e3:=congrArg (·+(b.table k).seen.length) q2';dsimp only at e3;exact le_trans (le_of_eq ((Nat.add_assoc _ _ _).symm.trans (e3.trans ((by rw [Nat.add_zero]:_=_).trans q1')))) (by omega)
theorem zN3 {n t v:Nat}{b:Bank}{q:Q}(h:zw n b) (ht:t≤BIG) (hv:v<64) (hq:QIn q):ROk (n+1) b (Vbdeai.set b t v q):=by
 unfold Vbdeai.set timed;by_cases ht':t<b.clock
 ·rw [if_pos ht'];trivial
 rw [if_neg ht'];have l:b.clock≤t:=le_of_not_lt ht';have h':=(h.tick l ht).mono (le_succ n)
 have hl:v<({ b with clock:=t }:Bank).values.length:=by show v<b.values.length;rw [h.lv];exact hv
 have vo:=(h.vok v hv);refine⟨h'.lm,h'.lt,?_,h'.clock,h'.since,h'.mok,h'.evs,h'.cont,h'.tok,h'.seens,fun j hj=>?_,fun j hj=>?_⟩
 ·show(b.values.set v _).length=64;rw [length_set];exact h.lv
 ·rw [zCH j _ hl];split
  ·refine⟨vo.base,fun s hs=>?_,?_⟩
   ·rcases List.mem_cons.mp hs with rfl | hs
    ·exact⟨le_trans h.since l,le_refl _,hq⟩
    ·exact((vo.later l).times s hs)
   ·show(((t,q)::(b.value v).sets).map (·.1)).Pairwise (fun a b=>b≤a);rw [map_cons,pairwise_cons];refine⟨fun a ha=>?_,vo.sorted⟩;obtain⟨s,hs,rfl⟩:=List.mem_map.mp ha;exact le_trans (vo.times s hs).2.1 l
  ·exact h'.vok j hj
 ·rw [zCH j _ hl];split
  ·show(b.value v).sets.length+1≤n+1;have:=h.sets v hv;omega
  ·exact h'.sets j hj
theorem zKx {T0 T:Nat}{v:Value}(h:VOk T0 T v):QIn (nowOf v):=by
 unfold nowOf
 cases e:v.sets with
 | nil=>exact h.base
 | cons s r=>exact(h.times s (by rw [e];exact mem_cons_self)).2.2
theorem zKy {n t:Nat}{b:Bank}(h:zw n b) (ht:t≤BIG):ROk (n+1) b (reset b t):=by
 unfold reset timed;by_cases ht':t<b.clock
 ·rw [if_pos ht'];trivial
 rw [if_neg ht'];have l:b.clock≤t:=le_of_not_lt ht';have hm:∀ i,i<256→(b.meters.map (anew t)).getD i {}=anew t (b.meter i):=fun i hi=>wC _ _ _ _ (by rw [h.lm];exact hi) _;have hv:∀ i,i<64→(b.values.map fun v=>({ base:=nowOf v,sets:=[] }:Value)).getD i {}={ base:=nowOf (b.value i),sets:=[] }:=fun i hi=>wC _ _ _ _ (by rw [h.lv];exact hi) _;have htb:∀ i,i<64→(b.tables.map fun v=>({ v with seen:=[] }:Table)).getD i {}={ b.table i with seen:=[] }:=fun i hi=>wC _ _ _ _ (by rw [h.lt];exact hi) _;refine⟨?_,?_,?_,ht,le_refl _,fun i hi=>?_,fun i hi=>?_,fun i hi=>?_,fun i hi=>?_,?_,fun i hi=>?_,fun i hi=>?_⟩
 ·show(b.meters.map _).length=256;rw [length_map];exact h.lm
 ·show(b.tables.map _).length=64;rw [length_map];exact h.lt
 ·show(b.values.map _).length=64;rw [length_map];exact h.lv
 ·show MOk t t ((b.meters.map (anew t)).getD i {});rw [hm i hi];exact(h.mok i hi).anew
 ·show((b.meters.map (anew t)).getD i {}).evs.length≤n+1;rw [hm i hi];exact zero_le _
 ·show content ((b.meters.map (anew t)).getD i {})≤(n+1)*1000000000;rw [hm i hi,xU];exact le_trans (h.cont i hi) (Nat.mul_le_mul_right _ (le_succ n))
 ·show TOk ((b.tables.map fun v=>({ v with seen:=[] }:Table)).getD i {});rw [htb i hi];have to:=h.tok i hi;exact⟨to.few,to.bounds,[],rfl,fun s hs=>(nomatch hs)⟩
 ·show sumN ((b.tables.map fun v=>({ v with seen:=[] }:Table)).map fun v=>v.seen.length)≤n+1;rw [map_map]
  have:∀ l:List Table,sumN (l.map ((fun v=>v.seen.length)∘fun v=>({ v with seen:=[] }:Table)))=0:=by
   intro l
   induction l with
   | nil=>rfl
   | cons a l ih=>rw [map_cons,zp,ih];rfl
  rw [this];exact zero_le _
 ·show VOk t t ((b.values.map fun v=>({ base:=nowOf v,sets:=[] }:Value)).getD i {});rw [hv i hi];exact⟨zKx (h.vok i hi),fun s hs=>(nomatch hs),List.Pairwise.nil⟩
 ·show((b.values.map fun v=>({ base:=nowOf v,sets:=[] }:Value)).getD i {}).sets.length≤n+1;rw [hv i hi];exact zero_le _
theorem zMn {n t:Nat}{b:Bank}(h:zw n b) (ht:t≤BIG):ROk (n+1) b (tick b t):=by
 unfold tick timed;by_cases ht':t<b.clock
 ·rw [if_pos ht'];trivial
 rw [if_neg ht'];exact(h.tick (le_of_not_lt ht') ht).mono (le_succ n)
end Mb
namespace Mb
open Vbdeai
theorem zm {n lo hi:Int}:inR n lo hi=true↔lo≤n∧n≤hi:=by
 unfold inR;rw [Bool.and_eq_true,decide_eq_true_eq,decide_eq_true_eq]
theorem ku {n:Nat}{b:Bank}{ok:Bool}{r:R}(h:zw n b) (hr:ok=true→ROk (n+1) b r):zw (n+1) (asked ok b r).1:=by
 unfold asked
 cases ok with
 | false=>exact h.mono (le_succ n)
 | true =>
  rw [if_pos rfl];have:=hr rfl
  cases r with
  | err k=>exact h.mono (le_succ n)
  | ok c=>exact this
theorem zGV {n:Nat}{b:Bank}(h:zw n b):∀ c:Call,zw (n+1) (stepCall b c).1
 | .join t m x u=>ku h fun k=>by
  simp only [Bool.and_eq_true,okT,okM,okX,zm] at k;exact zMl h (by unfold BIG;omega) (by omega) (by omega) (by omega)
 | .quit t m x=>ku h fun k=>by
  simp only [Bool.and_eq_true,okT,okM,okX,zm] at k;exact zMm h (by unfold BIG;omega) (by omega)
 | .raise t m x=>ku h fun k=>by
  simp only [Bool.and_eq_true,okT,okM,okX,zm] at k;exact zKt h (by unfold BIG;omega) (by omega) (by omega)
 | .lower t m x=>ku h fun k=>by
  simp only [Bool.and_eq_true,okT,okM,okX,zm] at k;exact zKu h (by unfold BIG;omega) (by omega) (by omega)
 | .define k c ln ld wn wd=>ku h fun q=>by
  simp only [Bool.and_eq_true,okK,okQ,zm,decide_eq_true_eq] at q;exact zJF h (by omega) (by omega) (zHY (by omega) (by omega) (by omega) (by omega)) (zHY (by omega) (by omega) (by omega) (by omega)) (zN2 (by omega) (by omega))
 | .tally k w x d=>ku h fun q=>by
  simp only [Bool.and_eq_true,okK,okX,okQ,zm] at q;exact zKv h (by omega) (by omega) (zHY (by omega) (by omega) (by omega) (by omega))
 | .set t v x d=>ku h fun q=>by
  simp only [Bool.and_eq_true,okT,okK,okQ,zm] at q;exact zN3 h (by unfold BIG;omega) (by omega) (zHY (by omega) (by omega) (by omega) (by omega))
 | .reset t=>ku h fun q=>by
  simp only [okT,zm] at q;exact zKy h (by unfold BIG;omega)
 | .tick t=>ku h fun q=>by
  simp only [okT,zm] at q;exact zMn h (by unfold BIG;omega)
 | .merge k j=>ku h fun q=>by
  simp only [Bool.and_eq_true,okK,zm] at q;exact zKw h (by omega) (by omega)
 | .meter _=>h.mono (le_succ n)
 | .means _=>h.mono (le_succ n)
 | .levels _=>h.mono (le_succ n)
 | .inside _=>h.mono (le_succ n)
 | .busy _=>h.mono (le_succ n)
 | .table _=>h.mono (le_succ n)
 | .classes _=>h.mono (le_succ n)
 | .quantile _ _ _=>h.mono (le_succ n)
 | .below _ _ _=>h.mono (le_succ n)
 | .value _=>h.mono (le_succ n)
 | .above _ _ _=>h.mono (le_succ n)
 | .clock=>h.mono (le_succ n)
 | .live=>h.mono (le_succ n)
 | .clear=>zHZ.mono (zero_le _)
theorem zMo {n:Nat}{b:Bank}(h:zw n b) (c:List (List Int)):zw (n+1) (step b c).1:=by
 unfold step
 cases callOf c with
 | none=>exact h.mono (le_succ n)
 | some c=>exact zGV h c
def after (b:Bank):R→Bank×Int
 | .err n=>(b,-(n:Int))
 | .ok c=>({ c with clock:=b.clock },0)
def rng:Nat→List Int→Bool
 | 0,[t,m,x,u]=>okT t&&(okM m&&(okX x&&okX u))
 | 1,[t,m,x]=>okT t&&(okM m&&okX x)
 | 2,[t,m,n]=>okT t&&(okM m&&okX n)
 | 3,[t,m,n]=>okT t&&(okM m&&okX n)
 | 4,[k,n,ln,ld,wn,wd]=>okK k&&(inR n 1 100&&(okQ ln ld&&(okQ wn wd&&decide (0<wn))))
 | 5,[k,w,n,d]=>okK k&&(okX w&&okQ n d)
 | 6,[t,v,n,d]=>okT t&&(okK v&&okQ n d)
 | 7,[t]=>okT t
 | 8,[t]=>okT t
 | 9,[k,j]=>okK k&&okK j
 | 10,[m]=>okM m
 | 11,[m]=>okM m
 | 12,[m]=>okM m
 | 13,[m]=>okM m
 | 14,[m]=>okM m
 | 15,[k]=>okK k
 | 16,[k]=>okK k
 | 17,[k,p,r]=>okK k&&(inR r 1 1000000000&&inR p 0 r)
 | 18,[k,n,d]=>okK k&&okQ n d
 | 19,[v]=>okK v
 | 20,[v,n,d]=>okK v&&okQ n d
 | 21,[]=>true
 | 22,[]=>true
 | 23,[]=>true
 | _,_=>false
theorem rg:(∀ t m x u,rng 0 [t,m,x,u]=(okT t&&(okM m&&(okX x&&okX u))))∧(∀ t m x,rng 1 [t,m,x]=(okT t&&(okM m&&okX x)))∧(∀ t m n,rng 2 [t,m,n]=(okT t&&(okM m&&okX n)))∧(∀ t m n,rng 3 [t,m,n]=(okT t&&(okM m&&okX n)))∧(∀ k n ln ld wn wd,rng 4 [k,n,ln,ld,wn,wd]=(okK k&&(inR n 1 100&&(okQ ln ld&&(okQ wn wd&&decide (0<wn))))))∧(∀ k w n d,rng 5 [k,w,n,d]=(okK k&&(okX w&&okQ n d)))∧(∀ t v n d,rng 6 [t,v,n,d]=(okT t&&(okK v&&okQ n d)))∧(∀ t,rng 7 [t]=okT t)∧(∀ t,rng 8 [t]=okT t)∧(∀ k j,rng 9 [k,j]=(okK k&&okK j))∧(∀ m,rng 10 [m]=okM m)∧(∀ m,rng 11 [m]=okM m)∧(∀ m,rng 12 [m]=okM m)∧(∀ m,rng 13 [m]=okM m)∧(∀ m,rng 14 [m]=okM m)∧(∀ k,rng 15 [k]=okK k)∧(∀ k,rng 16 [k]=okK k)∧(∀ k p r,rng 17 [k,p,r]=(okK k&&(inR r 1 1000000000&&inR p 0 r)))∧(∀ k n d,rng 18 [k,n,d]=(okK k&&okQ n d))∧(∀ v,rng 19 [v]=okK v)∧(∀ v n d,rng 20 [v,n,d]=(okK v&&okQ n d)):=by and_intros<;>intros<;>rfl
def chg:Nat→Bank→List Int→R
 | 0,b,[t,m,x,u]=>join b t.toNat m.toNat x.toNat u.toNat
 | 1,b,[t,m,x]=>quit b t.toNat m.toNat x.toNat
 | 2,b,[t,m,n]=>raise b t.toNat m.toNat n.toNat
 | 3,b,[t,m,n]=>lower b t.toNat m.toNat n.toNat
 | 4,b,[k,n,ln,ld,wn,wd]=>define b k.toNat n.toNat (q ln ld) (q wn wd)
 | 5,b,[k,w,n,d]=>tally b k.toNat w.toNat (q n d)
 | 6,b,[t,v,n,d]=>Vbdeai.set b t.toNat v.toNat (q n d)
 | 7,b,[t]=>reset b t.toNat
 | 8,b,[t]=>tick b t.toNat
 | 9,b,[k,j]=>merge b k.toNat j.toNat
 | _,_,_ => .err 9
theorem zKz (b:Bank):∀ (p:Nat) (ns:List Int),p≤9→ns.length=cnt p→step b [(p:Int)::ns]=asked (rng p ns) b (chg p b ns)
 | 0,[_,_,_,_],_,_=>rfl
 | 1,[_,_,_],_,_=>rfl
 | 2,[_,_,_],_,_=>rfl
 | 3,[_,_,_],_,_=>rfl
 | 4,[_,_,_,_,_,_],_,_=>rfl
 | 5,[_,_,_,_],_,_=>rfl
 | 6,[_,_,_,_],_,_=>rfl
 | 7,[_],_,_=>rfl
 | 8,[_],_,_=>rfl
 | 9,[_,_],_,_=>rfl
end Mb
namespace Mb
open Vbdeai
theorem j8 (ok:Bool) (b:Bank) (r:R):(asked ok b r).2.length≤1010:=by
 unfold asked answered;split<;>(show 1≤1010;decide)
theorem yf {ok:Bool}{b:Bank}{a:List Int}(h:ok=true→a.length≤1010):(told ok b a).2.length≤1010:=by
 unfold told
 cases ok with
 | true=>exact h rfl
 | false=>show 1≤1010;decide
theorem yg {b:Bank}{k:Int}{ok:Bool}{f:Table→List Int}(h:okK k=true→(f (b.table k.toNat)).length≤1010):(ofTable b k ok f).2.length≤1010:=by
 unfold ofTable;dsimp only;split
 ·show 1≤1010;decide
 ·rename_i q;split
  ·show 1≤1010;decide
  ·refine h ?_
   cases hk:okK k with
   | true=>rfl
   | false=>rw [hk] at q;exact absurd rfl q
theorem zJG (s:Nat×Nat):∀ l:List (Nat×Nat),(putLevel s l).length≤l.length+1
 | []=>le_refl _
 | r::l=>by
  unfold putLevel;split
  ·exact le_refl _
  ·split
   ·exact le_succ _
   ·rw [length_cons,length_cons];have:=zJG s l;omega
theorem zCI:∀ (l acc:List (Nat×Nat)),(l.foldl (fun l s=>putLevel s l) acc).length≤acc.length+l.length
 | [],acc=>le_refl _
 | s::l,acc=>by
  have:=zCI l (putLevel s acc);have:=zJG s acc;show(l.foldl _ (putLevel s acc)).length≤_;rw [length_cons];omega
theorem zBW:∀ (l:List Ev) (c:Nat),(contents c l).length=l.length
 | [],c=>rfl
 | e::l,c=>by
  show(contents _ l).length+1=_;rw [zBW l];rfl
theorem zAR {α:Type}(f:α→List Int) (k:Nat) (h:∀ a,(f a).length=k):∀ l:List α,(l.flatMap f).length=l.length*k
 | []=>by simp
 | a::l=>by rw [flatMap_cons,length_append,h,zAR f k h l,length_cons,Nat.succ_mul];omega
theorem zIN {n:Nat}{b:Bank}(h:zw n b) (hn:n<500):∀ c:Call,(stepCall b c).2.length≤1010
 | .join ..=>j8 ..
 | .quit ..=>j8 ..
 | .raise ..=>j8 ..
 | .lower ..=>j8 ..
 | .define ..=>j8 ..
 | .tally ..=>j8 ..
 | .set ..=>j8 ..
 | .reset ..=>j8 ..
 | .tick ..=>j8 ..
 | .merge ..=>j8 ..
 | .meter m=>yf fun _=>by show 10≤1010;decide
 | .means m=>yf fun _=>by show 6≤1010;decide
 | .levels m=>yf fun k=>by
  simp only [okM,zm] at k
  have l1:(levels b (b.meter m.toNat)).length≤(spansOf b (b.meter m.toNat)).length:=by
   unfold levels;have:=zCI (spansOf b (b.meter m.toNat)) [];rw [List.length_nil,zero_add] at this;exact le_trans (length_filter_le _ _) this
  have l2:(spansOf b (b.meter m.toNat)).length=(b.meter m.toNat).evs.length+1:=by
   unfold spansOf;rw [yS];unfold timeline;rw [length_cons,zBW,length_reverse]
  have l3:=h.evs m.toNat (by omega);unfold pairs;rw [length_cons,zAR _ 2 fun _=>rfl];omega
 | .inside m=>yf fun k=>by
  simp only [okM,zm] at k;have:=(h.mok m.toNat (by omega)).cap;rw [length_cons,zAR _ 3 fun _=>rfl];omega
 | .busy m=>yf fun _=>by show 3≤1010;decide
 | .table k=>yg fun _=>by show 14≤1010;decide
 | .classes k=>yg fun q=>by
  simp only [okK,zm] at q;have:=(h.tok k.toNat (by omega)).few;unfold nats;rw [length_cons,length_map,length_map,length_range];omega
 | .quantile k p r=>yg fun _=>by
  split
  ·show 2≤1010;decide
  ·show 1≤1010;decide
 | .below k x d=>yg fun _=>by show 2≤1010;decide
 | .value v=>yf fun _=>by show 9≤1010;decide
 | .above v x d=>yf fun _=>by show 1≤1010;decide
 | .clock=>by show 2≤1010;decide
 | .live=>by
  show(_::nats (liveMeters b)).length≤1010;unfold nats liveMeters;rw [length_cons,length_map];have:=length_filter_le (fun m=>b.meter m != {}) (List.range METERS);rw [length_range] at this;unfold METERS at this ⊢;omega
 | .clear=>by show 1≤1010;decide
theorem zK0 {n:Nat}{b:Bank}(h:zw n b) (hn:n<500) (c:List (List Int)):(step b c).2.length≤1010:=by
 unfold step
 cases callOf c with
 | none=>show 1≤1010;decide
 | some c=>exact zIN h hn c
end Mb
namespace Mb
open Vbdeai
def zDl (p:Nat):Bool:=decide (p≤3)||(decide (p=6)||(decide (p=7)||decide (p=8)))
def Rt (t:Nat):R→Prop
 | .err k=>k≠0
 | .ok c=>c.clock=t
theorem yh {b:Bank}{t:Nat}{f:Bank→R}(h:t<b.clock):timed b t f = .err 3:=if_pos h
theorem yi {b:Bank}{t:Nat}{f:Bank→R}(h:b.clock≤t):timed b t f=f { b with clock:=t }:=if_neg (Nat.not_lt.mpr h)
theorem zMp {b:Bank}{t m x u:Nat}(h:b.clock≤t):Rt t (join b t m x u):=by
 unfold join;rw [yi h];dsimp only;split
 ·exact nofun
 ·split
  ·exact nofun
  ·rfl
theorem zMq {b:Bank}{t m x:Nat}(h:b.clock≤t):Rt t (quit b t m x):=by
 unfold quit;rw [yi h];dsimp only;split
 ·exact nofun
 ·rfl
theorem zK1 {b:Bank}{t m x:Nat}(h:b.clock≤t):Rt t (raise b t m x):=by
 unfold raise;rw [yi h];rfl
theorem zK2 {b:Bank}{t m x:Nat}(h:b.clock≤t):Rt t (lower b t m x):=by
 unfold lower;rw [yi h];dsimp only;split
 ·exact nofun
 ·rfl
theorem zN4 {b:Bank}{t v:Nat}{q:Q}(h:b.clock≤t):Rt t (Vbdeai.set b t v q):=by
 unfold Vbdeai.set;rw [yi h];rfl
theorem zK3 {b:Bank}{t:Nat}(h:b.clock≤t):Rt t (reset b t):=by
 unfold reset;rw [yi h];rfl
theorem zMr {b:Bank}{t:Nat}(h:b.clock≤t):Rt t (tick b t):=by
 unfold tick;rw [yi h];rfl
theorem zK4 {b:Bank}{k j:Nat}:Rt b.clock (merge b k j):=by
 unfold merge;dsimp only;split
 ·exact nofun
 ·split
  ·exact nofun
  ·split
   ·exact nofun
   ·rfl
theorem zK5 {b:Bank}{k w:Nat}{v:Q}:Rt b.clock (tally b k w v):=by
 unfold tally;split
 ·exact nofun
 ·split
  ·exact nofun
  ·rfl
theorem zCJ {p:Nat}{ns:List Int}(hp:zDl p=true) (hr:rng p ns=true):∃ (t:Nat) (r:List Int),ns=(t:Int)::r:=by
 have key:∀ {t:Int},okT t=true→∃ t':Nat,t=(t':Int):=fun {t} h=>⟨t.toNat,by unfold okT at h;rw [zm] at h;omega⟩
 match p,ns,hr with
 | 0,[t,m,x,u],h=>obtain⟨t',rfl⟩:=key (Bool.and_eq_true_iff.mp h).1;exact⟨t',_,rfl⟩
 | 1,[t,m,x],h=>obtain⟨t',rfl⟩:=key (Bool.and_eq_true_iff.mp h).1;exact⟨t',_,rfl⟩
 | 2,[t,m,x],h=>obtain⟨t',rfl⟩:=key (Bool.and_eq_true_iff.mp h).1;exact⟨t',_,rfl⟩
 | 3,[t,m,x],h=>obtain⟨t',rfl⟩:=key (Bool.and_eq_true_iff.mp h).1;exact⟨t',_,rfl⟩
 | 6,[t,v,x,d],h=>obtain⟨t',rfl⟩:=key (Bool.and_eq_true_iff.mp h).1;exact⟨t',_,rfl⟩
 | 7,[t],h=>obtain⟨t',rfl⟩:=key h;exact⟨t',_,rfl⟩
 | 8,[t],h=>obtain⟨t',rfl⟩:=key h;exact⟨t',_,rfl⟩
 | 4,_,_=>exact absurd hp (by decide)
 | 5,_,_=>exact absurd hp (by decide)
 | p+9,_,_ =>
  unfold zDl at hp;simp only [Bool.or_eq_true,decide_eq_true_eq] at hp;omega
theorem zIO {p:Nat}{b:Bank}{t:Nat}{r:List Int}(hp:zDl p=true) (hr:rng p ((t:Int)::r)=true) (h:t<b.clock):step b [(p:Int)::(t:Int)::r]=(b,[-3]):=by
 have key:∀ (c:R),c = .err 3→asked true b c=(b,[-3]):=fun c e=>by rw [e];rfl
 match p,r,hr with
 | 0,[m,x,u],hr=>exact(congrArg (fun z=>asked z b _) hr).trans (key _ (yh h))
 | 1,[m,x],hr=>exact(congrArg (fun z=>asked z b _) hr).trans (key _ (yh h))
 | 2,[m,x],hr=>exact(congrArg (fun z=>asked z b _) hr).trans (key _ (yh h))
 | 3,[m,x],hr=>exact(congrArg (fun z=>asked z b _) hr).trans (key _ (yh h))
 | 6,[v,x,d],hr=>exact(congrArg (fun z=>asked z b _) hr).trans (key _ (yh h))
 | 7,[],hr=>exact(congrArg (fun z=>asked z b _) hr).trans (key _ (yh h))
 | 8,[],hr=>exact(congrArg (fun z=>asked z b _) hr).trans (key _ (yh h))
 | 4,_,_=>exact absurd hp (by decide)
 | 5,_,_=>exact absurd hp (by decide)
 | p+9,_,_ =>
  unfold zDl at hp;simp only [Bool.or_eq_true,decide_eq_true_eq] at hp;omega
theorem zN5 {p:Nat}{b:Bank}{t:Nat}{r:List Int}(hp:zDl p=true) (hr:rng p ((t:Int)::r)=true) (h:b.clock≤t):Rt t (chg p b ((t:Int)::r)):=by
 match p,r,hr with
 | 0,[m,x,u],hr=>exact zMp h
 | 1,[m,x],hr=>exact zMq h
 | 2,[m,x],hr=>exact zK1 h
 | 3,[m,x],hr=>exact zK2 h
 | 6,[v,x,d],hr=>exact zN4 h
 | 7,[],hr=>exact zK3 h
 | 8,[],hr=>exact zMr h
 | 4,_,_=>exact absurd hp (by decide)
 | 5,_,_=>exact absurd hp (by decide)
 | p+9,_,_ =>
  unfold zDl at hp;simp only [Bool.or_eq_true,decide_eq_true_eq] at hp;omega
theorem zMs {p:Nat}{b:Bank}{ns:List Int}(h9:p≤9) (hp:zDl p=false) (hr:rng p ns=true):Rt b.clock (chg p b ns):=by
 match p,ns,hr with
 | 4,[k,n,ln,ld,wn,wd],_=>rfl
 | 5,[k,w,n,d],_=>exact zK5
 | 9,[k,j],_=>exact zK4
 | 0,_,_=>exact absurd hp (by decide)
 | 1,_,_=>exact absurd hp (by decide)
 | 2,_,_=>exact absurd hp (by decide)
 | 3,_,_=>exact absurd hp (by decide)
 | 6,_,_=>exact absurd hp (by decide)
 | 7,_,_=>exact absurd hp (by decide)
 | 8,_,_=>exact absurd hp (by decide)
theorem zK6 {p:Nat}{b:Bank}{ns:List Int}(hp:p≤23) (hl:ns.length=cnt p) (hr:rng p ns=false):step b [(p:Int)::ns]=(b,[-1]):=by
 have ka:∀ (ok:Bool) (c:R),ok=false→asked ok b c=(b,[-1]):=fun ok c e=>by rw [e];rfl
 have kt:∀ (ok:Bool) (a:List Int),ok=false→told ok b a=(b,[-1]):=fun ok a e=>by rw [e];rfl
 have ko:∀ (k:Int) (ok:Bool) (f:Table→List Int),(okK k&&ok)=false→ofTable b k ok f=(b,[-1]):=fun k ok f e=>by unfold ofTable;rw [if_pos e]
 match p,ns,hl,hr with
 | 0,[t,m,x,u],_,hr=>exact ka _ _ hr
 | 1,[t,m,x],_,hr=>exact ka _ _ hr
 | 2,[t,m,x],_,hr=>exact ka _ _ hr
 | 3,[t,m,x],_,hr=>exact ka _ _ hr
 | 4,[k,n,ln,ld,wn,wd],_,hr=>exact ka _ _ hr
 | 5,[k,w,n,d],_,hr=>exact ka _ _ hr
 | 6,[t,v,n,d],_,hr=>exact ka _ _ hr
 | 7,[t],_,hr=>exact ka _ _ hr
 | 8,[t],_,hr=>exact ka _ _ hr
 | 9,[k,j],_,hr=>exact ka _ _ hr
 | 10,[m],_,hr=>exact kt _ _ hr
 | 11,[m],_,hr=>exact kt _ _ hr
 | 12,[m],_,hr=>exact kt _ _ hr
 | 13,[m],_,hr=>exact kt _ _ hr
 | 14,[m],_,hr=>exact kt _ _ hr
 | 15,[k],_,hr=>exact ko k true tableReport (by rw [Bool.and_true];exact hr)
 | 16,[k],_,hr=>exact ko k true (fun v=>((v.classes+2:Nat):Int)::nats ((List.range (v.classes+2)).map (inClass v))) (by rw [Bool.and_true];exact hr)
 | 17,[k,p,r],_,hr=>exact ko k (inR r 1 1000000000&&inR p 0 r) (fun v=>match quantile v.seen p.toNat r.toNat with | some a=>shownQ a | none=>[-10]) hr
 | 18,[k,n,d],_,hr=>exact ko k (okQ n d) (fun v=>nats [below v.seen (q n d),equal v.seen (q n d)]) hr
 | 19,[v],_,hr=>exact kt _ _ hr
 | 20,[v,n,d],_,hr=>exact kt _ _ hr
 | 21,[],_,hr=>cases hr
 | 22,[],_,hr=>cases hr
 | 23,[],_,hr=>cases hr
 | p+24,_,_,_=>exact absurd hp (by omega)
theorem zK7 {p:Nat}{b:Bank}{ns:List Int}(h1:10≤p) (h2:p≤22) (hl:ns.length=cnt p):(step b [(p:Int)::ns]).1=b:=by
 match p,ns,hl with
 | 10,[m],_=>rfl
 | 11,[m],_=>rfl
 | 12,[m],_=>rfl
 | 13,[m],_=>rfl
 | 14,[m],_=>rfl
 | 15,[k],_=>rfl
 | 16,[k],_=>rfl
 | 17,[k,p,r],_=>rfl
 | 18,[k,n,d],_=>rfl
 | 19,[v],_=>rfl
 | 20,[v,n,d],_=>rfl
 | 21,[],_=>rfl
 | 22,[],_=>rfl
 | p+23,_,_=>exact absurd h2 (by omega)
theorem zJH {p:Nat}{ns:List Int}(h:rng p ns=true):ns.length=cnt p:=by
 rcases ns with _|⟨_,_|⟨_,_|⟨_,_|⟨_,_|⟨_,_|⟨_,_|⟨_,_⟩⟩⟩⟩⟩⟩⟩<;>rcases p with _|_|_|_|_|_|_|_|_|_|_|_|_|_|_|_|_|_|_|_|_|_|_|_|_<;>first | rfl | cases h
theorem ln0 {l:List Int}(h:l.length=0):l=[]:=List.eq_nil_of_length_eq_zero h
theorem ln1 {l:List Int}(h:l.length=1):∃ a0,l=[a0]:=match l,h with | [a0],_=>⟨a0,rfl⟩
theorem ln2 {l:List Int}(h:l.length=2):∃ a0 a1,l=[a0,a1]:=match l,h with | [a0,a1],_=>⟨a0,a1,rfl⟩
theorem ln3 {l:List Int}(h:l.length=3):∃ a0 a1 a2,l=[a0,a1,a2]:=match l,h with | [a0,a1,a2],_=>⟨a0,a1,a2,rfl⟩
theorem ln4 {l:List Int}(h:l.length=4):∃ a0 a1 a2 a3,l=[a0,a1,a2,a3]:=match l,h with | [a0,a1,a2,a3],_=>⟨a0,a1,a2,a3,rfl⟩
theorem ln6 {l:List Int}(h:l.length=6):∃ a0 a1 a2 a3 a4 a5,l=[a0,a1,a2,a3,a4,a5]:=match l,h with | [a0,a1,a2,a3,a4,a5],_=>⟨a0,a1,a2,a3,a4,a5,rfl⟩
def eff (p:Nat) (b:Bank) (ns:List Int):Bank×Int:=if p=23 then(start,0) else after b (chg p b ns)
theorem zGW {p:Nat}{b:Bank}{ns:List Int}(hp:p≤9∨p=23) (hr:rng p ns=true) (ht:zDl p=true→(b.clock:Int)≤ns.headD 0) :
  step b [(p:Int)::ns]=(if(eff p b ns).2=0∧zDl p=true then { (eff p b ns).1 with clock:=(ns.headD 0).toNat } else(eff p b ns).1,[(eff p b ns).2]):=by
 rcases hp with hp | rfl
 ·have e:eff p b ns=after b (chg p b ns):=if_neg (by omega);rw [e,zKz b p ns hp (zJH hr),hr];have es:asked true b (chg p b ns)=answered b (chg p b ns):=rfl;rw [es]
  cases hT:zDl p with
  | true =>
   obtain⟨t,r,rfl⟩:=zCJ hT hr
   have hc:b.clock≤t:=by have:=ht hT;rw [headD_cons] at this;omega
   have q:=zN5 hT hr hc
   cases ec:chg p b ((t:Int)::r) with
   | err k =>
    rw [ec] at q;have:¬ (-(k:Int)=0∧true=true):=fun z=>q (by omega);show(b,[-(k:Int)])=(if -(k:Int)=0∧true=true then _ else b,[-(k:Int)]);rw [if_neg this]
   | ok c =>
    rw [ec] at q;have q:c.clock=t:=q;show(c,[0])=(if(0:Int)=0∧true=true then { ({ c with clock:=b.clock }:Bank) with clock:=(((t:Int)::r).headD 0).toNat } else _,[0]);rw [if_pos ⟨rfl,rfl⟩,headD_cons,toNat_natCast,← q]
  | false =>
   have q:=zMs (b:=b) hp hT hr
   cases ec:chg p b ns with
   | err k =>
    show(b,[-(k:Int)])=(if -(k:Int)=0∧false=true then _ else b,[-(k:Int)]);rw [if_neg (by rintro⟨_,z⟩;cases z)]
   | ok c =>
    rw [ec] at q;have q:c.clock=b.clock:=q;show(c,[0])=(if(0:Int)=0∧false=true then _ else { c with clock:=b.clock },[0]);rw [if_neg (by rintro⟨_,z⟩;cases z),← q]
 ·match ns,zJH hr with
  | [],_=>rfl
end Mb
namespace Mb
open Vbdeai
def j9 (a:List Nat×Option Nat) (s:Nat×Nat):List Nat×Option Nat :=
 if s.1=0 then(a.1++a.2.toList,none) else(a.1,some (a.2.getD 0+s.2))
def wR (a:List Nat×Option Nat):List Nat:=a.1++a.2.toList
theorem zEJ {d:List Nat}{c:Option Nat}{s:Nat×Nat}(h:s.1=0):j9 (d,c) s=(d++c.toList,none):=if_pos h
theorem zEK {d:List Nat}{c:Option Nat}{s:Nat×Nat}(h:s.1≠0):j9 (d,c) s=(d,some (c.getD 0+s.2)):=if_neg h
theorem vc:∀ (l:List (Nat×Nat)) (c:Option Nat) (d:List Nat),d++spells c l=wR (l.foldl j9 (d,c))
 | [],none,d=>rfl
 | [],some n,d=>rfl
 | s::r,none,d=>by
  rw [foldl_cons];unfold spells;by_cases h:s.1=0
  ·rw [if_pos h,zEJ h,← vc r none];show d++spells none r=d++[]++spells none r;rw [append_nil]
  ·rw [if_neg h,zEK h,← vc r];show d++spells (some s.2) r=d++spells (some (0+s.2)) r;rw [zero_add]
 | s::r,some n,d=>by
  rw [foldl_cons];unfold spells;by_cases h:s.1=0
  ·rw [if_pos h,zEJ h,← vc r none];show d++(n::spells none r)=d++[n]++spells none r;rw [append_assoc];rfl
  ·rw [if_neg h,zEK h,← vc r];rfl
theorem zFN (b:Bank) (v:Meter):busy b v=wR ((spansOf b v).foldl j9 ([],none)):=(nil_append _).symm.trans (vc _ none [])
theorem zIP (l:List (Nat×Nat)) (s:Nat×Nat) (a:List Nat×Option Nat):(l++[s]).foldl j9 a=j9 (l.foldl j9 a) s:=List.foldl_append
theorem zHa (l r:List Nat):sumN (l++r)=sumN l+sumN r:=by
 have g:∀ (l:List Nat) (a:Nat),l.foldl (fun a n=>a+n) a=a+l.foldl (fun a n=>a+n) 0:=by
  intro l
  induction l with
  | nil=>intro a;rfl
  | cons x l ih=>intro a;rw [foldl_cons,foldl_cons,ih (a+x),ih (0+x)];omega
 unfold sumN;rw [List.foldl_append,g r]
theorem zDm (a:List Nat×Option Nat) (s:Nat×Nat) (h:s.1=0):wR (j9 a s)=wR a:=by
 unfold j9 wR;rw [if_pos h];exact append_nil _
theorem zMt {T0 T:Nat}{v:Meter}(h:MOk T0 T v):(decide (0<content v)||decide (0<v.evs.length))=(v != {}):=by
 rw [Bool.eq_iff_iff,Bool.or_eq_true,decide_eq_true_eq,decide_eq_true_eq,bne_iff_ne];constructor
 ·rintro(q | q) e
  ·subst e;exact absurd q (by decide)
  ·subst e;exact absurd q (by decide)
 ·intro q;by_cases he:v.evs=[]
  ·by_cases hc:0<content v
   ·exact .inl hc
   ·exfalso
    have c0:v.loose+sumN (v.ins.map fun s=>s.units)=0:=by
     have:content v=v.loose+sumN (v.ins.map fun s=>s.units):=rfl;omega
    have i0:v.ins=[]:=by
     cases hi:v.ins with
     | nil=>rfl
     | cons s r =>
      rw [hi,map_cons,zp] at c0;have:=(h.pos s (by rw [hi];exact mem_cons_self)).2.2.1;omega
    have b0:=h.ends;rw [he] at b0;have b1:v.base=content v:=b0;have n0:=h.inn he;rw [i0] at n0;apply q
    cases v with
    | mk base baseIn ins loose evs =>
     dsimp only at i0 he n0 b1 c0 hc;subst i0 he
     have:loose=0:=by omega
     subst this;have:baseIn=0:=n0;subst this
     have:base=0:=by omega
     subst this;rfl
  ·refine .inr ?_
   cases hv:v.evs with
   | nil=>exact absurd hv he
   | cons a r=>exact Nat.succ_pos _
end Mb
namespace L2
open PySem PySem.Spec PyProof.Rows
abbrev Key:=Sum Int Str
def zDH:Key→Value→Bool
 | .inl k,v=>Value.isInt k v
 | .inr x,v=>Value.isStrOf x v
def zPs (w:World):Key→Int
 | .inl k=>hashInt k
 | .inr x=>hashStr w x
theorem jT:∀ {k:Key}{v:Value},zDH k v=true→(∃ i t,k=Sum.inl i∧v=Value.int i t)∨(∃ x t,k=Sum.inr x∧v=Value.str x t)
 | .inl i,v,h=>by
  obtain⟨t,e⟩:=Value.isInt_shape (k:=i) (v:=v) h;exact .inl ⟨i,t,rfl,e⟩
 | .inr x,v,h=>by
  obtain⟨t,e⟩:=Value.isStrOf_shape (x:=x) (v:=v) h;exact .inr ⟨x,t,rfl,e⟩
theorem zJI (i:Int) (t:Tok):zDH (.inl i) (.int i t)=true:=by simp [zDH,Value.isInt]
theorem zJJ (x:Str) (t:Tok):zDH (.inr x) (.str x t)=true:=by simp [zDH,Value.isStrOf]
theorem zN6 (a b:Int):decide ((Sum.inl a:Key)=Sum.inl b)=(a==b):=by
 by_cases e:a=b
 ·subst e;simp
 ·have h:¬ (Sum.inl a:Key)=Sum.inl b:=fun q=>e (Sum.inl.inj q);rw [decide_eq_false h];exact(beq_eq_false_iff_ne.mpr e).symm
theorem zN7 (a b:Str):decide ((Sum.inr a:Key)=Sum.inr b)=decide (a=b):=by
 by_cases e:a=b
 ·subst e;simp
 ·have h:¬ (Sum.inr a:Key)=Sum.inr b:=fun q=>e (Sum.inr.inj q);rw [decide_eq_false h,decide_eq_false e]
theorem zN8 (a:Int) (b:Str):decide ((Sum.inl a:Key)=Sum.inr b)=false:=decide_eq_false (fun q=>nomatch q)
theorem zN9 (a:Str) (b:Int):decide ((Sum.inr a:Key)=Sum.inl b)=false:=decide_eq_false (fun q=>nomatch q)
def jE (prog:Program) (w:World):PySem.KeyKind prog w Key where
 is:=zDH
 hash:=zPs w
 inj:=fun v a b ha hb=>by
  rcases jT ha with ⟨i,t,rfl,rfl⟩ | ⟨x,t,rfl,rfl⟩
  ·rcases jT hb with ⟨j,u,rfl,e⟩ | ⟨y,u,rfl,e⟩
   ·injection e with e1 _;rw [e1]
   ·exact nomatch e
  ·rcases jT hb with ⟨j,u,rfl,e⟩ | ⟨y,u,rfl,e⟩
   ·exact nomatch e
   ·injection e with e1 _;rw [e1]
 byValue:=fun k v h=>by
  rcases jT h with ⟨i,t,rfl,rfl⟩ | ⟨x,t,rfl,rfl⟩<;>rfl
 pyHash:=fun hv h=>by
  rcases jT hv with ⟨i,t,rfl,rfl⟩ | ⟨x,t,rfl,rfl⟩
  ·exact wpAny_pyHash_int h
  ·exact wpAny_pyHash_str h
 eqBool:=fun hu hv h=>by
  rcases jT hu with ⟨i,t,rfl,rfl⟩ | ⟨x,t,rfl,rfl⟩
  ·rcases jT hv with ⟨j,u,rfl,rfl⟩ | ⟨y,u,rfl,rfl⟩
   ·rw [zN6] at h;exact wpAny_eqBool_int h
   ·rw [zN8] at h;exact SeqAt.EqAt.int_str i t y u _ _ _ _ h
  ·rcases jT hv with ⟨j,u,rfl,rfl⟩ | ⟨y,u,rfl,rfl⟩
   ·rw [zN9] at h;exact SeqAt.EqAt.str_int x t j u _ _ _ _ h
   ·rw [zN7] at h;exact wpAny_eqBool_str h
 «strs»:=fun k x t v h=>by
  rcases jT h with ⟨i,u,rfl,e⟩ | ⟨y,u,rfl,e⟩
  ·exact nomatch e
  ·injection e with e1 _
   subst e1
   cases v<;>rfl
theorem zGX (prog:Program) (w:World) (i:Int) (t:Tok):(jE prog w).is (.inl i) (.int i t)=true:=zJI i t
theorem zGY (prog:Program) (w:World) (x:Str) (t:Tok):(jE prog w).is (.inr x) (.str x t)=true:=zJJ x t
end L2
namespace L2
open PySem PySem.Spec PyProof.Rows
inductive V where
 | non | bl (b:Bool) | int (i:Int) | str (x:Str) | byt (b:Array UInt8) | flt (b:UInt64) | ref (a:Addr) | ty (n:String)
 deriving DecidableEq
def jX:V→Value→Prop
 | .non,u=>u=Value.none
 | .bl b,u=>u=Value.bool b
 | .int i,u=>∃ t,u=Value.int i t
 | .str x,u=>∃ t,u=Value.str x t
 | .byt b,u=>∃ t,u=Value.bytes b t
 | .flt b,u=>∃ t,u=Value.float b t
 | .ref a,u=>u=Value.ref a
 | .ty n,u=>u=Value.type n
abbrev zt:List V→List Value→Prop:=Paired jX
theorem zt.length {xs:List V}{us:List Value}(r:zt xs us):xs.length=us.length:=Paired.length r
theorem zt.get:∀ {xs:List V}{us:List Value}{i:Nat}{x:V},zt xs us→xs[i]? = some x→∃ u,us[i]? = some u∧jX x u
 | _,_,_,_,.nil,e=>by simp at e
 | _,_,0,_,.cons r _,e=>by simp at e;subst e;exact⟨_,rfl,r⟩
 | _,_,i+1,x,.cons _ t,e=>by
  obtain⟨u,h1,h2⟩:=zt.get (i:=i) (x:=x) t (by simpa using e);exact⟨u,by simpa using h1,h2⟩
theorem zt.set {x:V}{u:Value}(r:jX x u):∀ {xs:List V}{us:List Value}(i:Nat),zt xs us→zt (xs.set i x) (us.set i u)
 | _,_,_,.nil => .nil
 | _,_,0,.cons _ t => .cons r t
 | _,_,i+1,.cons q t => .cons q (zt.set r i t)
theorem zt.append:∀ {xs ys:List V}{us ws:List Value},zt xs us→zt ys ws→zt (xs++ys) (us++ws)
 | _,_,_,_,.nil,s=>s
 | _,_,_,_,.cons r t,s => .cons r (zt.append t s)
theorem zt.take:∀ {xs:List V}{us:List Value}(n:Nat),zt xs us→zt (xs.take n) (us.take n)
 | _,_,0,_ => .nil
 | _,_,_+1,.nil => .nil
 | _,_,n+1,.cons r t => .cons r (zt.take n t)
theorem zt.drop:∀ {xs:List V}{us:List Value}(n:Nat),zt xs us→zt (xs.drop n) (us.drop n)
 | _,_,0,r=>r
 | _,_,_+1,.nil => .nil
 | _,_,n+1,.cons _ t=>zt.drop n t
def zDn:Option V→Option Value→Prop
 | some v,some u=>jX v u
 | none,none=>True
 | _,_=>False
def KV {κ:Type}:List (κ×V)→List (κ×Value)→Prop:=Paired fun(p:κ×V) (q:κ×Value)=>p.1=q.1∧jX p.2 q.2
def kV:Key→V
 | .inl i => .int i
 | .inr x => .str x
inductive HO where
 | lst (xs:List V)
 | tup (xs:List V)
 | dK (kvs:List (Key×V)) | dT (kvs:List (List Key×V))
 | set (S:Int→Bool) (n:Nat)
 | ins (C dx:Addr) (fs:List (Str×V))
 | own (x:Addr)
 | xd (fs:List (Str×V))
 | met (f x:Addr)
 | rng (lo hi:Int)
 | frz (o:Obj) (u:HO)
 | tbl (ps:Array Value)
 | ext (φ:Heap→Prop)
abbrev Hp:=Addr→Option HO
def upd (H:Hp) (a:Addr) (o:HO):Hp:=fun b=>if b=a then some o else H b
theorem zA {H:Hp}{a:Addr}{o:HO}:upd H a o a=some o:=by unfold upd;rw [if_pos rfl]
theorem zD {H:Hp}{a b:Addr}{o:HO}(h:b≠a):upd H a o b=H b:=by unfold upd;rw [if_neg h]
theorem jj {H:Hp}{a:Addr}{o u:HO}:upd (upd H a o) a u=upd H a u:=by
 funext b;unfold upd;split<;>rfl
theorem vw {H:Hp}{a b:Addr}{o u:HO}(h:H a=some o) (h':H b=some u) (d:o≠u):a≠b:=by
 intro e;subst e;rw [h] at h';exact d (Option.some.inj h')
theorem zF {H:Hp}{a b:Addr}{o:HO}(h:H a=some o) (h':H b=none):a≠b:=by
 intro e;subst e;rw [h] at h';cases h'
section
variable (P:Program) (w:World)
def kT (H:Hp) (h:Heap) (a:Addr):HO→Prop
 | .lst xs=>xs.length≤sizeLine∧∃ (its:List Value) (n:Nat),zt xs its∧h.get? a=some { cls := .type "list",data := .seq its.toArray n }
 | .tup xs=>xs.length≤sizeLine∧∃ its:List Value,zt xs its∧IsTup h a its.toArray
 | .dK kvs=>kvs.length≤sizeLine∧(a==sysModules)=false∧∃ vs,KV kvs vs∧h.DictOf (jE P w) a vs
 | .dT kvs=>kvs.length≤sizeLine∧(a==sysModules)=false∧∃ xs:List (List Key×Addr×Value),
   Paired (fun(p:List Key×V) (q:List Key×Addr×Value)=>p.1=q.1∧H q.2.1=some (.tup (p.1.map kV))∧jX p.2 q.2.2) kvs xs ∧
   ∃ o es ep,h.get? a=some o∧o.ExactDict∧o.data = .dict es ep∧es.toList=xs.map (entryOfKey (tupleKind (jE P w)))∧(xs.map (·.1)).Nodup
 | .set S n=>h.SetOf (intKind P w) a S n
 | .ins C dx fs=>H dx=some (.own a)∧fs.length≤1000∧dx≠a∧h.get? a=some (W.instObj C dx) ∧
   ∃ mA,h.Ns1 dx mA∧(∀ f,zDn (fs.lookup f) (mA f))∧PySem.Within mA (fs.map (·.1))
 | .own _=>∃ o,h.get? a=some o
 | .xd fs=>∃ mA,h.Ns1 a mA∧∀ f,zDn (fs.lookup f) (mA f)
 | .rng lo hi=>∃ t u v,h.get? a=some { cls := .type "range",data := .fields #[.int lo t,.int hi u,.int 1 v] }
 | .frz o u=>h.get? a=some o∧kT H h a u
 | .tbl ps=>h.get? a=some { cls := .none,data := .fields ps }
 | .met f x=>h.get? a=some (W.methodObj (.ref f) (.ref x))
 | .ext φ=>φ h∧(∃ o,h.get? a=some o)∧∀ h1 h2:Heap,φ h1→(∀ o,h1.get? a=some o→h2.get? a=some o)→φ h2
def HOk (H:Hp) (h:Heap):Prop:=∀ a o,H a=some o→kT P w H h a o
end
section
variable {P:Program}{w:World}{H H':Hp}{h h':Heap}{a:Addr}{o:HO}
theorem kT.lt (x:kT P w H h a o):a<h.objs.size:=by
 cases o with
 | lst xs=>obtain⟨_,_,_,_,e⟩:=x;exact Heap.lt_size e
 | tup xs=>obtain⟨_,_,_,p⟩:=x;exact p.lt
 | dK kvs=>obtain⟨_,_,_,_,o,_,_,e,_⟩:=x;exact Heap.lt_size e
 | dT kvs=>obtain⟨_,_,_,_,o,_,_,e,_⟩:=x;exact Heap.lt_size e
 | set S n=>obtain⟨o,_,_,_,e,_⟩:=x;exact Heap.lt_size e
 | ins C dx fs=>obtain⟨_,_,_,e,_⟩:=x;exact Heap.lt_size e
 | own y=>obtain⟨_,e⟩:=x;exact Heap.lt_size e
 | xd fs=>obtain⟨_,⟨_,_,_,e,_⟩,_⟩:=x;exact Heap.lt_size e
 | rng lo hi=>obtain⟨_,_,_,e⟩:=x;exact Heap.lt_size e
 | frz ob u=>obtain⟨e,_⟩:=x;exact Heap.lt_size e
 | tbl ps=>exact Heap.lt_size (show h.get? a=some _ from x)
 | met f y=>exact Heap.lt_size (show h.get? a=some _ from x)
 | ext φ=>obtain⟨_,⟨_,e⟩,_⟩:=x;exact Heap.lt_size e
theorem Paired.mapP {α β:Type}{F G:α→β→Prop}:∀ {l₁:List α}{l₂:List β},Paired F l₁ l₂→(∀ a b,F a b→G a b)→Paired G l₁ l₂
 | _,_,.nil,_ => .nil
 | _,_,.cons r t,f => .cons (f _ _ r) (Paired.mapP t f)
theorem kT.stay (x:kT P w H h a o) (k:∀ b u,(b=a∨H b=some (.own a))→h.get? b=some u→h'.get? b=some u)
  (ho:∀ b,H b=some (.own a)→H' b=some (.own a)) (ht:∀ b xs,H b=some (.tup xs)→H' b=some (.tup xs)):kT P w H' h' a o:=by
 induction o with
 | lst xs=>obtain⟨z,its,n,r,e⟩:=x;exact⟨z,its,n,r,k _ _ (.inl rfl) e⟩
 | tup xs=>obtain⟨z,its,r,ob,e,c⟩:=x;exact⟨z,its,r,ob,k _ _ (.inl rfl) e,c⟩
 | dK kvs=>obtain⟨z,y,vs,r,ob,es,ep,e,c⟩:=x;exact⟨z,y,vs,r,ob,es,ep,k _ _ (.inl rfl) e,c⟩
 | dT kvs =>
  obtain⟨z,y,xs,r,ob,es,ep,e,c⟩:=x;exact⟨z,y,xs,Paired.mapP r fun p q z=>⟨z.1,ht _ _ z.2.1,z.2.2⟩,ob,es,ep,k _ _ (.inl rfl) e,c⟩
 | set S n=>obtain⟨ob,es,ep,t,e,c⟩:=x;exact⟨ob,es,ep,t,k _ _ (.inl rfl) e,c⟩
 | ins C dx fs =>
  obtain⟨d,z,ne,e,mA,⟨od,es,ep,e2,c⟩,r⟩:=x;exact⟨ho _ d,z,ne,k _ _ (.inl rfl) e,mA,⟨od,es,ep,k _ _ (.inr d) e2,c⟩,r⟩
 | own y=>obtain⟨ob,e⟩:=x;exact⟨ob,k _ _ (.inl rfl) e⟩
 | xd fs=>obtain⟨mA,⟨od,es,ep,e,c⟩,r⟩:=x;exact⟨mA,⟨od,es,ep,k _ _ (.inl rfl) e,c⟩,r⟩
 | rng lo hi=>obtain⟨t,u,v,e⟩:=x;exact⟨t,u,v,k _ _ (.inl rfl) e⟩
 | frz ob u ih=>obtain⟨e,q⟩:=x;exact⟨k _ _ (.inl rfl) e,ih q⟩
 | tbl ps =>
  have e:h.get? a=some { cls := .none,data := .fields ps }:=x;show h'.get? a=some { cls := .none,data := .fields ps };exact k a _ (.inl rfl) e
 | met f y =>
  have e:h.get? a=some (W.methodObj (.ref f) (.ref y)):=x;show h'.get? a=some (W.methodObj (.ref f) (.ref y));exact k a _ (.inl rfl) e
 | ext φ=>obtain⟨p,⟨o,e⟩,st⟩:=x;exact⟨st _ _ p fun o q=>k _ _ (.inl rfl) q,⟨o,k _ _ (.inl rfl) e⟩,st⟩
theorem HOk.lt (x:HOk P w H h) (e:H a=some o):a<h.objs.size:=(x a o e).lt
theorem HOk.fresh (x:HOk P w H h) (e:h.objs.size≤a):H a=none:=by
 cases q:H a with
 | none=>rfl
 | some u=>exact absurd (lt_of_lt_of_le (x.lt q) e) (lt_irrefl _)
theorem HOk.kept (x:HOk P w H h) (k:∀ b u,h.get? b=some u→h'.get? b=some u):HOk P w H h':=fun a o e =>
 (x a o e).stay (fun b u _ q=>k b u q) (fun _ q=>q) fun _ _ q=>q
theorem HOk.laid (x:HOk P w H h) (k:∀ b u,h.get? b=some u→h'.get? b=some u) (hp:h.objs.size≤a) (new:kT P w (upd H a o) h' a o):HOk P w (upd H a o) h':=fun b u e=>by
 have hn:=x.fresh hp;by_cases hb:b=a
 ·subst hb;rw [zA] at e;cases e;exact new
 ·rw [zD hb] at e
  exact(x b u e).stay (fun c v _ q=>k c v q) (fun c q=>by rw [zD (zF q hn)];exact q) fun c xs q=>by rw [zD (zF q hn)];exact q
end
def Rd (H:Hp) (a:Addr) (u:HO):Prop:=H a=some u∨∃ o,H a=some (.frz o u)
theorem Rd.ok {P:Program}{w:World}{H:Hp}{h:Heap}{a:Addr}{u:HO}(r:Rd H a u) (x:HOk P w H h):kT P w H h a u:=by
 rcases r with r | ⟨o,r⟩
 ·exact x a u r
 ·obtain⟨_,q⟩:=x a _ r;exact q
def Mut:Option HO→Prop
 | some (.lst _)=>True
 | some (.dK _)=>True
 | some (.dT _)=>True
 | some (.set _ _)=>True
 | some (.ins _ _ _)=>True
 | some (.ext _)=>True
 | _=>False
section
variable {P:Program}{w:World}{H:Hp}{h h':Heap}{x e:Addr}{o':HO}
theorem HOk.write (ok:HOk P w H h) (mu:Mut (H x)) (he:e=x∨H e=some (.own x)) (k:∀ b u,b≠e→h.get? b=some u→h'.get? b=some u) (heo:∃ u,h'.get? e=some u)
  (new:kT P w (upd H x o') h' x o'):HOk P w (upd H x o') h':=fun b u q=>by
 have nown:∀ c y,H c=some (.own y)→c≠x:=fun c y r z=>by subst z;rw [r] at mu;exact mu
 have ntup:∀ c xs,H c=some (.tup xs)→c≠x:=fun c xs r z=>by subst z;rw [r] at mu;exact mu
 by_cases hb:b=x
 ·subst hb;rw [zA] at q;cases q;exact new
 ·rw [zD hb] at q;by_cases hbe:b=e
  ·have q':H b=some (.own x):=by
    rcases he with z | z
    ·exact absurd (hbe.trans z) hb
    ·rw [hbe];exact z
   rw [q] at q';cases q';obtain⟨v,hv⟩:=heo;exact⟨v,by rw [hbe];exact hv⟩
  ·refine(ok b u q).stay (fun c v hc r=>k c v ?_ r) (fun c r=>by rw [zD (nown c b r)];exact r) fun c xs r=>by rw [zD (ntup c xs r)];exact r
   rcases hc with rfl | hc
   ·exact hbe
   ·rintro rfl
    rcases he with z | z
    ·exact nown c b hc z
    ·rw [hc] at z;cases z;exact hb rfl
end
structure Un (fs ex:List Addr) (H H':Hp) (h h':Heap):Prop where
 keep:∀ b o,h.get? b=some o→H b=none→b∉fs→b∉ex→h'.get? b=some o
 slot:∀ b o,h.get? b=some o→H b=none→b∈fs→b∉ex→∃ sl,h'.get? b=some { o with slots:=sl }
 free:∀ b o,h.get? b=some o→H b=none→b∉ex→H' b=none
 there:∀ b o,h.get? b=some o→b∉ex→∃ o',h'.get? b=some o'
 tups:∀ b xs,H b=some (.tup xs)→H' b=some (.tup xs)
 frzs:∀ b o u,H b=some (.frz o u)→H' b=some (.frz o u)
 tbls:∀ b ps,H b=some (.tbl ps)→∃ more,H' b=some (.tbl (ps++more))
section
variable {fs fs' ex ex':List Addr}{H H1 H2:Hp}{h h1 h2 h':Heap}{a x e:Addr}{o:HO}
theorem Un.any (u:Un fs ex H H1 h h1){b:Addr}{ob:Obj}(q:h.get? b=some ob) (n:H b=none) (hx:b∉ex):∃ sl,h1.get? b=some { ob with slots:=sl }:=by
 by_cases hb:b∈fs
 ·exact u.slot b ob q n hb hx
 ·exact⟨ob.slots,u.keep b ob q n hb hx⟩
theorem Un.kept (k:∀ b u,h.get? b=some u→h'.get? b=some u):Un fs ex H H h h' :=
 ⟨fun b ob q _ _ _=>k b ob q,fun b ob q _ _ _=>⟨ob.slots,k b ob q⟩,fun _ _ _ n _=>n,fun b ob q _=>⟨ob,k b ob q⟩,fun _ _ q=>q,fun _ _ _ q=>q,fun _ ps q=>⟨#[],by rw [q];simp⟩⟩
theorem Un.refl:Un fs ex H H h h:=Un.kept fun _ _ q=>q
theorem Un.laid (k:∀ b u,h.get? b=some u→h'.get? b=some u) (hp:h.objs.size≤a) (hn:H a=none):Un fs ex H (upd H a o) h h' where
 keep:=fun b u q _ _ _=>k b u q
 slot:=fun b u q _ _ _=>⟨u.slots,k b u q⟩
 free:=fun b u q n _=>by rw [zD (ne_of_lt (lt_of_lt_of_le (Heap.lt_size q) hp))];exact n
 there:=fun b u q _=>⟨u,k b u q⟩
 tups:=fun b xs q=>by rw [zD (zF q hn)];exact q
 frzs:=fun b u xs q=>by rw [zD (zF q hn)];exact q
 tbls:=fun b ps q=>⟨#[],by rw [zD (zF q hn),q];simp⟩
theorem Un.write (mu:Mut (H x)) (he:e=x∨H e=some (.own x)) (k:∀ b u,b≠e→h.get? b=some u→h'.get? b=some u) (heo:∃ u,h'.get? e=some u):Un fs ex H (upd H x o) h h':=by
 have hx:∀ b,H b=none→b≠x:=fun b n z=>by subst z;rw [n] at mu;exact mu
 have hb:∀ b,H b=none→b≠e:=fun b n z=>by
  subst z
  rcases he with r | r
  ·exact hx b n r
  ·rw [n] at r;cases r
 have hm:∀ b u,H b=some u→¬ Mut (some u)→b≠x:=fun b u q nm z=>by subst z;rw [q] at mu;exact nm mu
 refine⟨fun b u q n _ _=>k b u (hb b n) q,fun b u q n _ _=>⟨u.slots,k b u (hb b n) q⟩,fun b u q n _=>by rw [zD (hx b n)];exact n,fun b u q _=>?_,
  fun b xs q=>by rw [zD (hm b _ q fun z=>z)];exact q,fun b u xs q=>by rw [zD (hm b _ q fun z=>z)];exact q,fun b ps q=>⟨#[],by rw [zD (hm b _ q fun z=>z),q];simp⟩⟩
 by_cases hbe:b=e
 ·subst hbe;exact heo
 ·exact⟨u,k b u hbe q⟩
end
def trk (h:Heap) (H:Hp):List Addr:=(List.range h.objs.size).filter fun a=>(H a).isSome
def zK8 (h:Heap) (H:Hp):Heap:=W.hideAll h (trk h H)
theorem zJK (h:Heap) (H:Hp):(zK8 h H).objs.size=h.objs.size:=W.hideAll_size _ _
theorem zK9 {h:Heap}{H:Hp}{b:Addr}{o:Obj}(e:h.get? b=some o) (n:H b=none):(zK8 h H).get? b=some o :=
 W.hideAll_get _ e fun hm=>by
  have q:(H b).isSome=true:=(List.mem_filter.mp hm).2;rw [n] at q;simp at q
theorem zMu {h:Heap}{H:Hp}{b:Addr}{o:Obj}(e:(zK8 h H).get? b=some o):h.get? b=some o∧H b=none:=by
 have e':h.get? b=some o:=W.of_hideAll (trk h H) e;refine⟨e',?_⟩
 cases q:H b with
 | none=>rfl
 | some x =>
  have hm:b∈trk h H:=List.mem_filter.mpr ⟨List.mem_range.mpr (Heap.lt_size e'),by simp [q]⟩;have z:(zK8 h H).get? b=none:=W.hideAll_none (trk h H) hm;rw [z] at e;cases e
end L2
namespace L2
open PySem PySem.Spec PyProof.Rows
structure Mod (K:W.Frag) (mg:Str→Option Value) (base:Heap):Prop where
 kin:K.In base
 glob:base.Ns mainGlobals mg
 blt:∃ mb,base.Ns builtinsNs mb∧∀ x:Str,x≠"__name__"→mb x=bootBuiltins x
 nolimit:base.NoLimit
structure Cx where
 prog:Program
 w:World
 K:W.Frag
 mg:Str→Option Value
 base:Heap
 A:Around
 N:List Str
 s_0:Shared
 H_0:Hp
 env:Env
 outer:List Env
 stack:List Env
 ex:List Addr
 fn:Str→Bool
 calm:Bool
 pn:List (Addr×Obj)
 xe:Value→Shared→Prop
def frs (l:List Env):List Addr:=l.filterMap (·.frame)
abbrev Cx.fs (X:Cx):List Addr:=frs X.outer
def Vis (sc:Scope) (x:Str):Prop:=sc.names.lookup x=some .local∨sc.names.lookup x=some .cell∨sc.names.lookup x=some .free
def Loc (sc:Scope) (x:Str):Prop:=sc.names.lookup x=some .local∨sc.names.lookup x=some .cell
def zP7 (env:Env) (h:Heap) (m:Str→Option Value) (x:Str) (u:Value):Prop :=
 (env.kindOf x=some .local∧m x=some u)∨((env.kindOf x=some .cell∨env.kindOf x=some .free)∧∃ c,env.cells.lookup x=some c∧h.IsCell c (some u))
structure Cx.Ok (X:Cx):Prop where
 mod:Mod X.K X.mg X.base
 kind:X.env.scope.kind = .function
 glob:X.env.globals=mainGlobals
 blt:X.env.builtins=builtinsNs
 above:X.s_0.heap.objs.size≤X.env.locals
 inj:∀ x y c,X.env.cells.lookup x=some c→X.env.cells.lookup y=some c→x=y
 has:∀ x,(X.env.kindOf x=some .cell∨X.env.kindOf x=some .free)→∃ c,X.env.cells.lookup x=some c
 cab:∀ x c,X.fn x=true→X.env.cells.lookup x=some c→X.s_0.heap.objs.size≤c
 hd:X.calm=true→X.A.handled=none
 frames:X.A.frames=some X.stack
 stk:X.stack=X.outer∨(X.stack=X.env::X.outer∧X.env.frame=some X.env.locals)
 exf:∀ b∈X.ex,b≠X.env.locals∧∀ x c,X.env.cells.lookup x=some c→c≠b
 bs:∀ b o,X.base.get? b=some o→X.s_0.heap.get? b=some o∧X.H_0 b=none
 bsz:X.base.objs.size≤X.s_0.heap.objs.size
 noex:∀ b o,X.base.get? b=some o→b∉X.ex
 exfs:∀ b∈X.ex,b∉X.fs
 funs:X.s_0.heap.FunFrames X.base X.outer
 frf:∀ b∈X.fs,X.H_0 b=none
structure Inv (X:Cx) (pins:List (Addr×Obj)) (σ:List (Option V)) (H:Hp) (s:Shared):Prop where
 ok:X.Ok
 os:s.os=X.s_0.os
 bare:AllBare s.gens
 base:Un X.fs X.ex X.H_0 H X.s_0.heap s.heap
 loc:∃ m,s.heap.Ns X.env.locals m∧∀ (i:Nat) (x:Str) (v:V),X.N[i]? = some x→σ[i]? = some (some v)→Vis X.env.scope x→∃ u,jX v u∧zP7 X.env s.heap m x u
 cell:∀ x c,X.env.cells.lookup x=some c→∃ v,s.heap.IsCell c v
 free:H X.env.locals=none
 freeC:∀ x c,X.env.cells.lookup x=some c→H c=none
 pin:∀ p∈X.pn++pins,s.heap.get? p.1=some p.2∧H p.1=none∧p.1≠X.env.locals∧p.1∉X.fs∧∀ v,p.2.data ≠ .cell v
 hok:HOk X.prog X.w H s.heap
 len:σ.length=X.N.length
section
variable {X:Cx}{pins:List (Addr×Obj)}{σ:List (Option V)}{H H':Hp}{s:Shared}{h':Heap}
theorem Cx.Ok.nofr (ok:X.Ok){b:Addr}{o:Obj}(e:X.base.get? b=some o):b∉X.fs:=fun hb=>by
 have:=(ok.funs.mem hb).1;rw [e] at this;cases this
theorem Inv.bs (I:Inv X pins σ H s):∀ b o,X.base.get? b=some o→s.heap.get? b=some o∧H b=none:=fun b o e =>
 ⟨I.base.keep b o (I.ok.bs b o e).1 (I.ok.bs b o e).2 (I.ok.nofr e) (I.ok.noex b o e),I.base.free b o (I.ok.bs b o e).1 (I.ok.bs b o e).2 (I.ok.noex b o e)⟩
theorem Inv.bk (I:Inv X pins σ H s):∀ b o,X.base.get? b=some o→s.heap.get? b=some o:=fun b o e=>(I.bs b o e).1
theorem Inv.mod (I:Inv X pins σ H s):Mod X.K X.mg X.base:=I.ok.mod
theorem Inv.kIn (I:Inv X pins σ H s):X.K.In s.heap:=I.ok.mod.kin.keeps I.bk
theorem Inv.lt (I:Inv X pins σ H s):X.env.locals<s.heap.objs.size:=let ⟨_,hn,_⟩:=I.loc;hn.lt
theorem Inv.sz (I:Inv X pins σ H s):X.s_0.heap.objs.size≤s.heap.objs.size:=le_trans I.ok.above (le_of_lt I.lt)
theorem Inv.nofs (I:Inv X pins σ H s){a:Addr}(h:s.heap.objs.size≤a):a∉X.fs:=fun hb=>by
 obtain⟨_,o,ho,_⟩:=I.ok.funs.mem hb;exact absurd (lt_of_lt_of_le (Heap.lt_size ho) (le_trans I.sz h)) (lt_irrefl _)
theorem Inv.cne (I:Inv X pins σ H s):∀ x c,X.env.cells.lookup x=some c→c≠X.env.locals:=fun x c e z=>by
 obtain⟨v,o,ho,hd⟩:=I.cell x c e;obtain⟨m,⟨o',es,ep,ho',hd',_⟩,_⟩:=I.loc;rw [z,ho'] at ho;cases ho;rw [hd'] at hd;cases hd
theorem Inv.funs (I:Inv X pins σ H s):s.heap.FunFrames X.base X.outer:=by
 have all:∀ (l:List Env),(∀ b∈frs l,b∈X.fs)→X.s_0.heap.FunFrames X.base l→s.heap.FunFrames X.base l:=by
  intro l
  induction l with
  | nil=>intro _ _;trivial
  | cons env r ih =>
   intro hs hl;obtain⟨hk,⟨L,o,hf,hn,ho,hd⟩,hr⟩:=hl;have hL:L∈X.fs:=hs L (by unfold frs;rw [filterMap_cons,hf];exact mem_cons_self);obtain⟨sl,e⟩:=I.base.slot L o ho (I.ok.frf L hL) hL fun z=>I.ok.exfs L z hL;exact⟨hk,⟨L,_,hf,hn,e,hd⟩,ih (fun b hb=>hs b (by unfold frs;rw [filterMap_cons,hf];exact mem_cons_of_mem _ hb)) hr⟩
 exact all X.outer (fun _ hb=>hb) I.ok.funs
theorem Inv.stack (I:Inv X pins σ H s):s.heap.FunFrames X.base X.stack:=by
 rcases I.ok.stk with e | ⟨e,hf⟩
 ·rw [e];exact I.funs
 ·rw [e];obtain⟨m,hn,_⟩:=I.loc;refine .cons (by rw [I.ok.kind];decide) hf hn ?_ I.funs;exact Heap.get?_none_of_le (le_trans I.ok.bsz I.ok.above)
theorem Inv.stkSub (I:Inv X pins σ H s):∀ b∈frs X.stack,b∈X.env.locals::X.fs:=fun b hb=>by
 rcases I.ok.stk with e | ⟨e,hf⟩
 ·rw [e] at hb;exact mem_cons_of_mem _ hb
 ·rw [e] at hb;unfold frs at hb;rw [filterMap_cons,hf] at hb;exact hb
theorem Inv.stkFree (I:Inv X pins σ H s):∀ b∈frs X.stack,H b=none:=fun b hb=>by
 rcases List.mem_cons.mp (I.stkSub b hb) with e | hb
 ·rw [e];exact I.free
 ·obtain⟨_,o,ho,_⟩:=I.ok.funs.mem hb;exact I.base.free b o ho (I.ok.frf b hb) fun z=>I.ok.exfs b z hb
theorem Inv.step {g':Array GenState}{t':Nat}{d':Drawn}{ch:List Addr}(I:Inv X pins σ H s)
  (hch:∀ b∈ch,(b∈X.ex∨X.s_0.heap.objs.size≤b)∧b≠X.env.locals∧(∀ x c,X.env.cells.lookup x=some c→c≠b)∧∀ p∈X.pn++pins,p.1≠b)
  (keep:∀ b o,b≠X.env.locals→b∉X.fs→b∉ch→s.heap.get? b=some o→H b=none→h'.get? b=some o)
  (slot:∀ b o,b≠X.env.locals→b∈X.fs→b∉ch→s.heap.get? b=some o→H b=none→∃ sl,h'.get? b=some { o with slots:=sl }) (free:∀ b o,b∉ch→s.heap.get? b=some o→H b=none→H' b=none)
  (there:∀ b o,b∉ch→s.heap.get? b=some o→∃ o',h'.get? b=some o')
  (tups:∀ b xs,H b=some (.tup xs)→H' b=some (.tup xs)) (frzs:∀ b o u,H b=some (.frz o u)→H' b=some (.frz o u)) (tbls:∀ b ps,H b=some (.tbl ps)→∃ more,H' b=some (.tbl (ps++more)))
  (ns:∀ m,s.heap.Ns X.env.locals m→h'.Ns X.env.locals m) (hok:HOk X.prog X.w H' h') (hg:AllBare g') :
  Inv X pins σ H' { s with heap:=h',gens:=g',drawn:=d',toks:=t' }:=by
 have neL:∀ b o,X.s_0.heap.get? b=some o→b≠X.env.locals:=fun b o e=>ne_of_lt (lt_of_lt_of_le (Heap.lt_size e) I.ok.above)
 have neC:∀ b o,X.s_0.heap.get? b=some o→b∉X.ex→b∉ch:=fun b o e hx hb=>by
  rcases(hch b hb).1 with z | z
  ·exact hx z
  ·exact absurd (lt_of_lt_of_le (Heap.lt_size e) z) (lt_irrefl _)
 have cellK:∀ x c,X.env.cells.lookup x=some c→∀ v,s.heap.IsCell c v→h'.IsCell c v:=fun x c e v ⟨o,ho,hd⟩=>by
  have nch:c∉ch:=fun z=>(hch c z).2.2.1 x c e rfl;by_cases hc:c∈X.fs
  ·obtain⟨sl,q⟩:=slot c o (I.cne x c e) hc nch ho (I.freeC x c e);exact⟨_,q,hd⟩
  ·exact⟨o,keep c o (I.cne x c e) hc nch ho (I.freeC x c e),hd⟩
 refine⟨I.ok,I.os,hg,⟨fun b o e n hb hx=>?_,fun b o e n hb hx=>?_,fun b o e n hx=>?_,fun b o e hx=>?_,fun b xs e=>tups b xs (I.base.tups b xs e),fun b o xs e=>frzs b o xs (I.base.frzs b o xs e),fun b ps e=>?_⟩,?_,fun x c e=>?_,?_,fun x c e=>?_,fun p hp=>?_,hok,I.len⟩
 ·exact keep b o (neL b o e) hb (neC b o e hx) (I.base.keep b o e n hb hx) (I.base.free b o e n hx)
 ·obtain⟨sl,e1⟩:=I.base.slot b o e n hb hx;obtain⟨sl',e2⟩:=slot b _ (neL b o e) hb (neC b o e hx) e1 (I.base.free b o e n hx);exact⟨sl',e2⟩
 ·obtain⟨o',e1⟩:=I.base.there b o e hx;exact free b o' (neC b o e hx) e1 (I.base.free b o e n hx)
 ·obtain⟨o',e1⟩:=I.base.there b o e hx;exact there b o' (neC b o e hx) e1
 ·obtain⟨m1,e1⟩:=I.base.tbls b ps e;obtain⟨m2,e2⟩:=tbls b _ e1;exact⟨m1++m2,by rw [e2,Array.append_assoc]⟩
 ·obtain⟨m,hn,hl⟩:=I.loc;refine⟨m,ns m hn,fun i x v e1 e2 e3=>?_⟩;obtain⟨u,r,l⟩:=hl i x v e1 e2 e3;refine⟨u,r,?_⟩
  rcases l with l | ⟨k,c,e,z⟩
  ·exact .inl l
  ·exact .inr ⟨k,c,e,cellK x c e _ z⟩
 ·obtain⟨v,z⟩:=I.cell x c e;exact⟨v,cellK x c e v z⟩
 ·obtain⟨m,⟨o,_,_,ho,_⟩,_⟩:=I.loc;exact free _ o (fun z=>(hch _ z).2.1 rfl) ho I.free
 ·obtain⟨v,o,ho,hd⟩:=I.cell x c e;exact free c o (fun z=>(hch c z).2.2.1 x c e rfl) ho (I.freeC x c e)
 ·obtain⟨e,n,ne,nf,d⟩:=I.pin p hp;have nch:p.1∉ch:=fun z=>(hch p.1 z).2.2.2 p hp rfl;exact⟨keep p.1 p.2 ne nf nch e n,free p.1 p.2 nch e n,ne,nf,d⟩
theorem Inv.un {t':Nat}(I:Inv X pins σ H s) (u:Un X.fs [] H H' s.heap h') (hok:HOk X.prog X.w H' h'):Inv X pins σ H' { s with heap:=h',toks:=t' }:=by
 obtain⟨m,⟨o,es,ep,ho,r⟩,_⟩:=id I.loc;obtain⟨sl,hL⟩:=u.any ho I.free (by simp)
 exact I.step (g':=s.gens) (d':=s.drawn) (ch:=[]) (fun _ z=>nomatch z) (fun b o _ hb _ e n=>u.keep b o e n hb (by simp)) (fun b o _ hb _ e n=>u.slot b o e n hb (by simp)) (fun b o _ e n=>u.free b o e n (by simp)) (fun b o _ e=>u.there b o e (by simp)) u.tups u.frzs u.tbls (fun m' hm=>by
  obtain⟨o',es',ep',ho',r'⟩:=hm;rw [ho] at ho';cases ho';exact⟨_,es',ep',hL,r'⟩) hok I.bare
theorem Inv.call {g':Array GenState}{t':Nat}{d':Drawn}{ch:List Addr}(I:Inv X pins σ H s) (u:Un (frs X.stack) ch H H' s.heap h') (hok:HOk X.prog X.w H' h') (hg:AllBare g')
  (hch:∀ b∈ch,(b∈X.ex∨X.s_0.heap.objs.size≤b)∧b≠X.env.locals∧(∀ x c,X.env.cells.lookup x=some c→c≠b)∧∀ p∈X.pn++pins,p.1≠b) :
  Inv X pins σ H' { s with heap:=h',gens:=g',drawn:=d',toks:=t' }:=by
 obtain⟨m,⟨o,es,ep,ho,r⟩,_⟩:=id I.loc;obtain⟨sl,hL⟩:=u.any ho I.free fun z=>(hch _ z).2.1 rfl
 exact I.step (ch:=ch) hch (fun b o hL hb hc e n=>u.keep b o e n (fun z=>(List.mem_cons.mp (I.stkSub b z)).elim hL hb) hc) (fun b o _ _ hc e n=>u.any e n hc) (fun b o hc e n=>u.free b o e n hc) (fun b o hc e=>u.there b o e hc) u.tups u.frzs u.tbls (fun m' hm=>by
  obtain⟨o',es',ep',ho',r'⟩:=hm;rw [ho] at ho';cases ho';exact⟨_,es',ep',hL,r'⟩) hok hg
theorem Inv.turned {t':Nat}{it:Addr}(I:Inv X pins σ H s) (k:∀ b o,b≠it→s.heap.get? b=some o→h'.get? b=some o) (hn:H it=none) (hL:it≠X.env.locals)
  (h1:it∈X.ex∨X.s_0.heap.objs.size≤it) (h2:∀ x c,X.env.cells.lookup x=some c→c≠it) (h3:∀ p∈X.pn++pins,p.1≠it):Inv X pins σ H { s with heap:=h',toks:=t' }:=by
 have nit:∀ b u,H b=some u→b≠it:=fun b u e z=>by rw [z,hn] at e;cases e
 refine I.step (g':=s.gens) (d':=s.drawn) (ch:=[it]) (fun b hb=>?_) (fun b o _ _ hc e _=>k b o (fun z=>hc (by simp [z])) e) (fun b o _ _ hc e _=>⟨o.slots,k b o (fun z=>hc (by simp [z])) e⟩) (fun _ _ _ _ n=>n)
  (fun b o hc e=>⟨o,k b o (fun z=>hc (by simp [z])) e⟩) (fun _ _ e=>e) (fun _ _ _ e=>e) (fun b ps e=>⟨#[],by rw [e];simp⟩) (fun m hm=>?_) (fun b u e=>?_) I.bare
 ·have e:b=it:=by simpa using hb
  subst e;exact⟨h1,hL,h2,h3⟩
 ·obtain⟨o,es,ep,ho,r⟩:=hm;exact⟨o,es,ep,k _ o (Ne.symm hL) ho,r⟩
 ·refine(I.hok b u e).stay (fun c v hc q=>k c v ?_ q) (fun _ q=>q) fun _ _ q=>q
  rcases hc with z | z
  ·rw [z];exact nit b u e
  ·exact nit c _ z
theorem Inv.tok (I:Inv X pins σ H s) (t:Nat):Inv X pins σ H { s with toks:=t }:=I.un (h':=s.heap) (t':=t) Un.refl I.hok
theorem Inv.kept {t':Nat}(I:Inv X pins σ H s) (k:∀ b u,s.heap.get? b=some u→h'.get? b=some u):Inv X pins σ H { s with heap:=h',toks:=t' }:=I.un (Un.kept k) (I.hok.kept k)
theorem Inv.laid {a:Addr}{o:HO}{t':Nat}(I:Inv X pins σ H s) (k:∀ b u,s.heap.get? b=some u→h'.get? b=some u) (hp:s.heap.objs.size≤a) (new:kT X.prog X.w (upd H a o) h' a o) :
  Inv X pins σ (upd H a o) { s with heap:=h',toks:=t' }:=I.un (Un.laid k hp (I.hok.fresh hp)) (I.hok.laid k hp new)
theorem Inv.write {x e:Addr}{o:HO}{t':Nat}(I:Inv X pins σ H s) (mu:Mut (H x)) (he:e=x∨H e=some (.own x)) (k:∀ b u,b≠e→s.heap.get? b=some u→h'.get? b=some u) (heo:∃ u,h'.get? e=some u)
  (new:kT X.prog X.w (upd H x o) h' x o):Inv X pins σ (upd H x o) { s with heap:=h',toks:=t' }:=I.un (Un.write mu he k heo) (I.hok.write mu he k heo new)
theorem Inv.weak {σ':List (Option V)}(I:Inv X pins σ H s) (hl:σ'.length=σ.length) (w:∀ (i:Nat) v,σ'[i]? = some (some v)→σ[i]? = some (some v)):Inv X pins σ' H s :=
 ⟨I.ok,I.os,I.bare,I.base,let ⟨m,hn,hl'⟩:=I.loc;⟨m,hn,fun i x v e1 e2 e3=>hl' i x v e1 (w i v e2) e3⟩,I.cell,I.free,I.freeC,I.pin,I.hok,hl.trans I.len⟩
theorem Inv.pins_of {pins':List (Addr×Obj)}(I:Inv X pins σ H s) (h:∀ p∈pins',s.heap.get? p.1=some p.2∧H p.1=none∧p.1≠X.env.locals∧p.1∉X.fs∧∀ v,p.2.data ≠ .cell v):Inv X pins' σ H s :=
 ⟨I.ok,I.os,I.bare,I.base,I.loc,I.cell,I.free,I.freeC,fun p hp=>(List.mem_append.mp hp).elim (fun z=>I.pin p (List.mem_append_left _ z)) (h p),I.hok,I.len⟩
theorem zEL {N:List Str}(hN:N.Nodup){i j:Nat}{x:Str}(a:N[i]? = some x) (b:N[j]? = some x):i=j:=by
 obtain⟨h1,e1⟩:=List.getElem?_eq_some_iff.mp a;obtain⟨h2,e2⟩:=List.getElem?_eq_some_iff.mp b;exact(List.getElem_inj hN).mp (e1.trans e2.symm)
theorem zFO {M:Model}{A:Around}{E:Value→Shared→Prop}{i:Nat}{x:Str}{v:V}{u:Value}{Q:Unit→Shared→Prop}(I:Inv X pins σ H s) (hN:X.N.Nodup) (hi:X.N[i]? = some x) (hx:Loc X.env.scope x) (r:jX v u)
  (h:∀ s',Inv X pins (σ.set i (some v)) H s'→(∃ a,Heap.SameBut a s.heap s'.heap∧(a=X.env.locals∨X.env.cells.lookup x=some a))→Q () s') (hf:X.fn x=true∨X.env.scope.names.lookup x=some .local:=by first | exact .inl rfl | exact .inr rfl | assumption):wpAny M A (storeName X.env x u) Q E s:=by
 obtain⟨m,hn,hl⟩:=id I.loc
 have hcls:(X.env.scope.kind == .class||(X.env.scope.kind == .module&&X.env.locals != X.env.globals))=false:=by rw [I.ok.kind];rfl
 have hiσ:i<σ.length:=by rw [I.len];exact(List.getElem?_eq_some_iff.mp hi).1
 have cne:=I.cne
 have tracked:∀ {a:Addr}{h':Heap},(∃ o,s.heap.get? a=some o∧H a=none)→Heap.SameBut a s.heap h'→HOk X.prog X.w H h':=fun {a h'} ha hs b ob e=>by
  obtain⟨_,_,hfree⟩:=ha;refine(I.hok b ob e).stay (fun c w' hc q=>(hs.2 c ?_).trans q) (fun _ q=>q) fun _ _ q=>q;rintro rfl
  rcases hc with rfl | hc
  ·rw [hfree] at e;cases e
  ·rw [hfree] at hc;cases hc
 rcases hx with hk | hk
 ·refine wpAny_storeName_local hk hn (fun h' hn' hs=>?_) hcls;obtain⟨oL,_,_,hoL,_⟩:=id hn;refine h _ ⟨I.ok,I.os,I.bare,⟨fun b o e n hb hx=>?_,fun b o e n hb hx=>?_,I.base.free,fun b o e hx=>?_,I.base.tups,I.base.frzs,I.base.tbls⟩,⟨_,hn',fun j y v' e1 e2 e3=>?_⟩,fun y c e=>?_,I.free,I.freeC,fun p hp=>?_,tracked ⟨oL,hoL,I.free⟩ hs,by simpa using I.len⟩ ⟨_,hs,.inl rfl⟩
  ·exact(hs.2 b (ne_of_lt (lt_of_lt_of_le (Heap.lt_size e) I.ok.above))).trans (I.base.keep b o e n hb hx)
  ·obtain⟨sl,e1⟩:=I.base.slot b o e n hb hx;exact⟨sl,(hs.2 b (ne_of_lt (lt_of_lt_of_le (Heap.lt_size e) I.ok.above))).trans e1⟩
  ·obtain⟨o',e1⟩:=I.base.there b o e hx;exact⟨o',(hs.2 b (ne_of_lt (lt_of_lt_of_le (Heap.lt_size e) I.ok.above))).trans e1⟩
  ·by_cases hj:j=i
   ·subst hj;rw [hi] at e1;cases e1;rw [getElem?_set_self hiσ] at e2
    cases e2
    exact⟨u,r,.inl ⟨hk,by simp⟩⟩
   ·rw [getElem?_set_ne (Ne.symm hj)] at e2;obtain⟨u',r',q⟩:=hl j y v' e1 e2 e3;refine⟨u',r',?_⟩
    rcases q with ⟨k,e⟩ | ⟨k,c,e,z⟩
    ·refine .inl ⟨k,?_⟩;have:y≠x:=fun e=>hj (zEL hN e1 (e▸hi));simp [this,e]
    ·exact .inr ⟨k,c,e,z.sameBut hs (cne y c e)⟩
  ·obtain⟨w',z⟩:=I.cell y c e;exact⟨w',z.sameBut hs (cne y c e)⟩
  ·obtain⟨e,n,ne,nf,d⟩:=I.pin p hp;exact⟨(hs.2 p.1 ne).trans e,n,ne,nf,d⟩
 ·have hfn:X.fn x=true:=by
   rcases hf with z | z
   ·exact z
   ·rw [z] at hk;cases hk
  obtain⟨c,hc⟩:=I.ok.has x (.inl hk);obtain⟨w',z⟩:=I.cell x c hc;refine wpAny_storeName_cell I.ok.kind hk hc z (fun h' hc' hs=>?_);obtain⟨oc,hoc,hocd⟩:=id z;refine h { s with heap:=h' } ⟨I.ok,I.os,I.bare,⟨fun b o e n hb hx=>?_,fun b o e n hb hx=>?_,I.base.free,fun b o e hx=>?_,I.base.tups,I.base.frzs,I.base.tbls⟩,⟨m,hn.sameBut hs (Ne.symm (cne x c hc)),fun j y v' e1 e2 e3=>?_⟩,fun y c' e=>?_,I.free,I.freeC,fun p hp=>?_,tracked ⟨oc,hoc,I.freeC x c hc⟩ hs,by simpa using I.len⟩ ⟨c,hs,.inr hc⟩
  ·exact(hs.2 b (ne_of_lt (lt_of_lt_of_le (Heap.lt_size e) (I.ok.cab x c hfn hc)))).trans (I.base.keep b o e n hb hx)
  ·obtain⟨sl,e1⟩:=I.base.slot b o e n hb hx;exact⟨sl,(hs.2 b (ne_of_lt (lt_of_lt_of_le (Heap.lt_size e) (I.ok.cab x c hfn hc)))).trans e1⟩
  ·obtain⟨o',e1⟩:=I.base.there b o e hx;exact⟨o',(hs.2 b (ne_of_lt (lt_of_lt_of_le (Heap.lt_size e) (I.ok.cab x c hfn hc)))).trans e1⟩
  ·by_cases hj:j=i
   ·subst hj;rw [hi] at e1;cases e1;rw [getElem?_set_self hiσ] at e2
    cases e2
    exact⟨u,r,.inr ⟨.inl hk,c,hc,hc'⟩⟩
   ·rw [getElem?_set_ne (Ne.symm hj)] at e2;obtain⟨u',r',q⟩:=hl j y v' e1 e2 e3;refine⟨u',r',?_⟩
    rcases q with q | ⟨k,c',e,z'⟩
    ·exact .inl q
    ·refine .inr ⟨k,c',e,z'.sameBut hs ?_⟩;rintro rfl;exact hj (zEL hN e1 (I.ok.inj _ _ _ e hc▸hi))
  ·by_cases hcc:c'=c
   ·subst hcc;exact⟨_,hc'⟩
   ·obtain⟨w2,z2⟩:=I.cell y c' e;exact⟨w2,z2.sameBut hs hcc⟩
  ·obtain⟨e,n,ne,nf,d⟩:=I.pin p hp;refine⟨(hs.2 p.1 ?_).trans e,n,ne,nf,d⟩;intro q;rw [q,hoc] at e;have q':oc=p.2:=Option.some.inj e;exact d w' (by rw [← q'];exact hocd)
theorem zEM {M:Model}{A:Around}{E:Value→Shared→Prop}{i:Nat}{x:Str}{v:V}{u:Value}{Q:Unit→Shared→Prop}(I:Inv X pins σ H s) (hN:X.N.Nodup) (hi:X.N[i]? = some x) (hx:Loc X.env.scope x) (r:jX v u)
  (h:∀ s',Inv X pins (σ.set i (some v)) H s'→Q () s') (hf:X.fn x=true∨X.env.scope.names.lookup x=some .local:=by first | exact .inl rfl | exact .inr rfl | assumption):wpAny M A (storeName X.env x u) Q E s :=
 zFO I hN hi hx r (fun s' I' _=>h s' I') hf
theorem Inv.call' {s':Shared}{ch:List Addr}(I:Inv X pins σ H s) (ho:s'.os=s.os) (u:Un (frs X.stack) ch H H' s.heap s'.heap) (hok:HOk X.prog X.w H' s'.heap) (hg:AllBare s'.gens)
  (hch:∀ b∈ch,(b∈X.ex∨X.s_0.heap.objs.size≤b)∧b≠X.env.locals∧(∀ x c,X.env.cells.lookup x=some c→c≠b)∧∀ p∈X.pn++pins,p.1≠b):Inv X pins σ H' s':=by
 obtain⟨h',g',d',t',o'⟩:=s';have e:o'=s.os:=ho;subst e;exact I.call (g':=g') (t':=t') (d':=d') u hok hg hch
end
abbrev XK:=Value→Option Addr→Hp→Prop
abbrev St:=List (Option V)
abbrev VK:=V→Hp→Prop
abbrev TE:=St→Hp→VK→Prop
abbrev TT:=St→Hp→(Bool→Hp→Prop)→Prop
abbrev TA:=St→Hp→(List V→Hp→Prop)→Prop
structure zL6 where
 nx:St→Hp→Prop
 rt:VK
 bk:St→Hp→Prop:=fun _ _=>False
 ct:St→Hp→Prop:=fun _ _=>False
abbrev TS:=zL6→St→Hp→Prop
def EP (X:Cx) (pins:List (Addr×Obj)) (σ:St) (Q:VK) (u:Value) (s':Shared):Prop:=∃ v H',Inv X pins σ H' s'∧jX v u∧Q v H'
def TP (X:Cx) (pins:List (Addr×Obj)) (σ:St) (Q:Bool→Hp→Prop) (b:Bool) (s':Shared):Prop:=∃ H',Inv X pins σ H' s'∧Q b H'
def AP (X:Cx) (pins:List (Addr×Obj)) (σ:St) (Q:List V→Hp→Prop) (us:List Value) (s':Shared):Prop:=∃ vs H',Inv X pins σ H' s'∧zt vs us∧Q vs H'
def SP (X:Cx) (pins:List (Addr×Obj)) (D:zL6) (f:Flow) (s':Shared):Prop :=
 match f with
 | .next=>∃ σ' H',Inv X pins σ' H' s'∧D.nx σ' H'
 | .brk=>∃ σ' H',Inv X pins σ' H' s'∧D.bk σ' H'
 | .cont=>∃ σ' H',Inv X pins σ' H' s'∧D.ct σ' H'
 | .ret u=>∃ v σ' H',Inv X pins σ' H' s'∧jX v u∧D.rt v H'
def PE (X:Cx) (e:Expr) (t:TE):Prop :=
 ∀ (pins:List (Addr×Obj)) (s:Shared) (σ:St) (H:Hp) (Q:VK),Inv X pins σ H s→t σ H Q→wpAny (model X.prog X.w) X.A (eval e X.env) (EP X pins σ Q) X.xe s
def PT (X:Cx) (e:Expr) (t:TT):Prop :=
 ∀ (pins:List (Addr×Obj)) (s:Shared) (σ:St) (H:Hp) (Q:Bool→Hp→Prop),Inv X pins σ H s→t σ H Q→wpAny (model X.prog X.w) X.A (isTrue e X.env (eval e X.env)) (TP X pins σ Q) X.xe s
def PW (X:Cx) (e:Expr) (t:TT):Prop :=
 ∀ (whole:Sem Value) (pins:List (Addr×Obj)) (s:Shared) (σ:St) (H:Hp) (Q:Bool→Hp→Prop),Inv X pins σ H s→t σ H Q→wpAny (model X.prog X.w) X.A (isTrue e X.env whole) (TP X pins σ Q) X.xe s
theorem PW.pt {X:Cx}{e:Expr}{t:TT}(h:PW X e t):PT X e t:=h _
def PA (X:Cx) (es:List Expr) (t:TA):Prop :=
 ∀ (pos:Pos) (pins:List (Addr×Obj)) (s:Shared) (σ:St) (H:Hp) (Q:List V→Hp→Prop),Inv X pins σ H s→t σ H Q→wpAny (model X.prog X.w) X.A (spliced (backTo pos (starEach es X.env))) (AP X pins σ Q) X.xe s
def PS (X:Cx) (st:Stmt) (t:TS):Prop :=
 ∀ (pins:List (Addr×Obj)) (s:Shared) (σ:St) (H:Hp) (D:zL6),Inv X pins σ H s→t D σ H→wpAny (model X.prog X.w) X.A (exec st X.env) (SP X pins D) X.xe s
def PSs (X:Cx) (st:List Stmt) (t:TS):Prop :=
 ∀ (pins:List (Addr×Obj)) (s:Shared) (σ:St) (H:Hp) (D:zL6),Inv X pins σ H s→t D σ H→wpAny (model X.prog X.w) X.A (execs st X.env) (SP X pins D) X.xe s
theorem thn {α:Type}{t:Sem α}{Q Q':α→Shared→Prop}{M:Model}{A:Around}{E:Value→Shared→Prop}{s:Shared}(h:wpAny M A t Q E s) (hQ:∀ a s,Q a s→Q' a s):wpAny M A t Q' E s:=wpAny_mono h hQ fun _ _ x=>x
end L2
namespace L2
open PySem PySem.Spec PyProof.Rows
section
variable {X:Cx}
def zPt (i:Nat):TE:=fun σ H Q=>∃ v,σ[i]? = some (some v)∧Q v H
def tC (v:V):TE:=fun _ H Q=>Q v H
theorem zOA {i:Nat}{x:Str}{pos:Pos}(hN:X.N[i]? = some x) (hv:Vis X.env.scope x) (hd:(x==("__debug__":Str))=false:=by decide) (hcd:(x==("__classdict__":Str))=false:=by decide):PE X (.Name x pos) (zPt i):=by
 intro pins s σ H Q I h;obtain⟨v,e,h⟩:=h;obtain⟨m,hn,hl⟩:=I.loc;obtain⟨u,r,l⟩:=hl i x v hN e hv;have fin:EP X pins σ Q u s:=⟨v,H,I,r,h⟩
 rcases l with ⟨hk,hm⟩ | ⟨hk,c,hc,hcell⟩
 ·exact wpAny_Name (wpAny_loadName_local I.ok.kind hk hn hm fin) hd
 ·rcases hk with hk | hk
  ·exact wpAny_Name (wpAny_loadName_cell I.ok.kind hk hc hcell fin) hd
  ·exact wpAny_Name (wpAny_loadName_free I.ok.kind hk hc hcell fin hcd) hd
theorem zH {i j pos}:PE X (.Constant (.int i) j pos) (tC (.int i)):=fun _ _ _ H _ I h=>wpAny_Constant_int ⟨.int i,H,I.tok _,⟨_,rfl⟩,h⟩
theorem zOB {b j pos}:PE X (.Constant (.bool b) j pos) (tC (.bl b)):=fun _ _ _ H _ I h=>Constant_bool ⟨.bl b,H,I,rfl,h⟩
theorem zOC {j pos}:PE X (.Constant .none j pos) (tC .non):=fun _ _ _ H _ I h=>Constant_none ⟨.non,H,I,rfl,h⟩
theorem zOD {x j pos}:PE X (.Constant (.str x) j pos) (tC (.str x)):=fun _ _ _ H _ I h=>Calls.Constant_str ⟨.str x,H,I.tok _,⟨_,rfl⟩,h⟩
def Gl (X:Cx) (x:Str):Prop:=X.env.kindOf x=some .globalImplicit
theorem zEN {E:Value→Shared→Prop}{pins:List (Addr×Obj)}{s:Shared}{σ:St}{H:Hp}{x:Str}{u:Value}{pos:Pos}{Q:Value→Shared→Prop}(I:Inv X pins σ H s) (hg:Gl X x) (hm:X.mg x=some u) (h:Q u s)
  (hd:(x==("__debug__":Str))=false:=by decide):wpAny (model X.prog X.w) X.A (eval (.Name x pos) X.env) Q E s :=
 Calls.Name_function_global I.ok.kind hg (Calls.loadGlobal_global (by rw [I.ok.glob];exact I.mod.glob.keeps I.bk) hm h) hd
theorem zDo {E:Value→Shared→Prop}{pins:List (Addr×Obj)}{s:Shared}{σ:St}{H:Hp}{x:Str}{u:Value}{pos:Pos}{Q:Value→Shared→Prop}(I:Inv X pins σ H s) (hg:Gl X x) (hm:X.mg x=none) (hv:bootBuiltins x=some u) (h:Q u s)
  (hn:x≠"__name__":=by decide) (hd:(x==("__debug__":Str))=false:=by decide):wpAny (model X.prog X.w) X.A (eval (.Name x pos) X.env) Q E s:=by
 obtain⟨mb,h1,h2⟩:=I.mod.blt;exact Calls.Name_function_global I.ok.kind hg (Calls.loadGlobal_builtin (by rw [I.ok.glob];exact I.mod.glob.keeps I.bk) hm (by rw [I.ok.blt];exact h1.keeps I.bk) ((h2 x hn).trans hv) h) hd
theorem zJL {x:Str}{v:V}{u:Value}{pos:Pos}(hg:Gl X x) (hm:X.mg x=some u) (r:jX v u) (hd:(x==("__debug__":Str))=false:=by decide):PE X (.Name x pos) (tC v) :=
 fun _ _ _ H _ I h=>zEN I hg hm ⟨v,H,I,r,h⟩ hd
variable {a b:Expr}{ta tb:TE}{pos:Pos}
def PC (X:Cx) (op:CmpOp) (a b:Expr) (t:TE):Prop :=
 ∀ (pins:List (Addr×Obj)) (s:Shared) (σ:St) (H:Hp) (Q:VK),Inv X pins σ H s→t σ H Q →
  wpAny (model X.prog X.w) X.A (eval a X.env) (fun v s₁=>wpAny (model X.prog X.w) X.A (eval b X.env) (fun u s₂=>wpAny (model X.prog X.w) X.A (compareOp op v u) (EP X pins σ Q) X.xe s₂) X.xe s₁) X.xe s
theorem zHb (b:Expr){op:CmpOp}(h:op ≠ .In) (h2:op ≠ .NotIn):behindInMarks op b=false:=by
 have e1:(op==CmpOp.In)=false:=by cases op<;>first | rfl | exact absurd rfl h
 have e2:(op==CmpOp.NotIn)=false:=by cases op<;>first | rfl | exact absurd rfl h2
 cases b<;>simp [behindInMarks,e1,e2]
def zP8 (ta:TE):TE:=fun σ H Q=>ta σ H fun x H1=>Q (.bl (decide (x = .non))) H1
def zPH (ta:TE):TE:=fun σ H Q=>ta σ H fun x H1=>Q (.bl (!decide (x = .non))) H1
theorem jX.none_iff {x:V}{v:Value}(r:jX x v):(v==Value.none)=decide (x = .non):=by
 cases x with
 | non=>cases r;rfl
 | bl _=>cases r;rfl
 | int _=>obtain⟨t,rfl⟩:=r;rfl
 | str _=>obtain⟨t,rfl⟩:=r;rfl
 | byt _=>obtain⟨t,rfl⟩:=r;rfl
 | flt _=>obtain⟨t,rfl⟩:=r;rfl
 | ref _=>cases r;rfl
 | ty _=>cases r;rfl
theorem zCK {j pos'}(ha:PE X a ta):PC X .Is a (.Constant .none j pos') (zP8 ta):=by
 intro pins s σ H Q I h;refine thn (ha pins s σ H _ I h) fun v s1 ⟨x,H1,I1,r1,q1⟩=>?_;exact Constant_none (is_none_gen ⟨.bl _,H1,I1,by rw [r1.none_iff];rfl,q1⟩)
theorem zMv {j pos'}(ha:PE X a ta):PC X .IsNot a (.Constant .none j pos') (zPH ta):=by
 intro pins s σ H Q I h;refine thn (ha pins s σ H _ I h) fun v s1 ⟨x,H1,I1,r1,q1⟩=>?_;exact Constant_none (isnot_none_gen ⟨.bl _,H1,I1,by rw [r1.none_iff];rfl,q1⟩)
def tB (t:TE):TT:=fun σ H Q=>t σ H fun x H1=>∃ c,x = .bl c∧Q c H1
theorem zOE {op:CmpOp}{t:TE}(h:PC X op a b t) (h1:behindInMarks op b=false:=by first | exact zHb _ (by decide) (by decide) | rfl):PE X (.Compare a [op] [b] pos) t:=fun pins s σ H Q I hw=>wpAny_Compare1 (h pins s σ H Q I hw) h1
theorem wc {op:CmpOp}{t:TE}(h:PC X op a b t) (h1:behindInMarks op b=false:=by first | exact zHb _ (by decide) (by decide) | rfl):PT X (.Compare a [op] [b] pos) (tB t):=by
 intro pins s σ H Q I hw;refine wpAny_isTrue_Compare1 (thn (h pins s σ H _ I hw) fun v s1 h1=>thn h1 fun u s2 h2=>thn h2 fun c s3 ⟨x,H1,I1,r1,q1⟩=>?_) h1;obtain⟨d,rfl,q⟩:=q1
 cases r1
 exact wpAny_truthy_bool ⟨H1,I1,q⟩
variable {tA tB':TT}{rest:List Expr}
def zP9 (t u:TT):TT:=fun σ H Q=>t σ H fun c H1=>if c=true then u σ H1 Q else Q false H1
def tOr (t u:TT):TT:=fun σ H Q=>t σ H fun c H1=>if c=true then Q true H1 else u σ H1 Q
def zPu (t:TT):TT:=fun σ H Q=>t σ H fun c H1=>Q (!c) H1
theorem zGZ (ha:PT X a tA):PW X (.BoolOp .And [a] pos) tA:=by
 intro wh pins s σ H Q I h;refine isTrue_and (thn (ha pins s σ H Q I h) fun c s1 e=>?_)
 cases c with
 | true=>exact isTrue_and_nil e
 | false=>exact e
theorem zL7 (ha:PT X a tA):PW X (.BoolOp .Or [a] pos) tA:=by
 intro wh pins s σ H Q I h;refine isTrue_or (thn (ha pins s σ H Q I h) fun c s1 e=>?_)
 cases c with
 | false=>exact isTrue_or_nil e
 | true=>exact e
theorem zJM (ha:PT X a tA) (hb:PW X (.BoolOp .And (b::rest) pos) tB'):PW X (.BoolOp .And (a::b::rest) pos) (zP9 tA tB'):=by
 intro wh pins s σ H Q I h;refine isTrue_and (thn (ha pins s σ H _ I h) fun c s1 ⟨H1,I1,q1⟩=>?_)
 cases c with
 | true=>exact hb wh pins s1 σ H1 Q I1 q1
 | false=>exact⟨H1,I1,q1⟩
theorem zOF (ha:PT X a tA) (hb:PW X (.BoolOp .Or (b::rest) pos) tB'):PW X (.BoolOp .Or (a::b::rest) pos) (tOr tA tB'):=by
 intro wh pins s σ H Q I h;refine isTrue_or (thn (ha pins s σ H _ I h) fun c s1 ⟨H1,I1,q1⟩=>?_)
 cases c with
 | true=>exact⟨H1,I1,q1⟩
 | false=>exact hb wh pins s1 σ H1 Q I1 q1
theorem zHc (ha:PT X a tA):PT X (.UnaryOp .Not a pos) (zPu tA):=by
 intro pins s σ H Q I h;exact isTrue_not (ha pins s σ H (fun c H1=>Q (!c) H1) I h)
def zPI (ta tb:TE):TE:=fun σ H Q=>ta σ H fun x H1=>∃ c,x = .bl c∧if c=true then tb σ H1 Q else Q (.bl false) H1
def zQA (ta tb:TE):TE:=fun σ H Q=>ta σ H fun x H1=>∃ c,x = .bl c∧if c=true then Q (.bl true) H1 else tb σ H1 Q
theorem zJN {op}{t:TE}(h:PE X a t):PE X (.BoolOp op [a] pos) t:=fun pins s σ H Q I hw=>BoolOp_one (h pins s σ H Q I hw)
theorem zL8 (ha:PE X a ta) (hb:PE X (.BoolOp .And (b::rest) pos) tb):PE X (.BoolOp .And (a::b::rest) pos) (zPI ta tb):=by
 intro pins s σ H Q I h;refine BoolOp_and (thn (ha pins s σ H _ I h) fun v s1 ⟨x,H1,I1,r1,q1⟩=>?_);obtain⟨c,rfl,q1⟩:=q1
 cases r1
 refine wpAny_truthy_bool ?_
 cases c with
 | true=>exact hb pins s1 σ H1 Q I1 q1
 | false=>exact⟨.bl false,H1,I1,rfl,q1⟩
theorem zOG (ha:PE X a ta) (hb:PE X (.BoolOp .Or (b::rest) pos) tb):PE X (.BoolOp .Or (a::b::rest) pos) (zQA ta tb):=by
 intro pins s σ H Q I h;refine BoolOp_or (thn (ha pins s σ H _ I h) fun v s1 ⟨x,H1,I1,r1,q1⟩=>?_);obtain⟨c,rfl,q1⟩:=q1
 cases r1
 refine wpAny_truthy_bool ?_
 cases c with
 | false=>exact hb pins s1 σ H1 Q I1 q1
 | true=>exact⟨.bl true,H1,I1,rfl,q1⟩
end
end L2
namespace L2
open PySem PySem.Spec PyProof.Rows
def SqL (K:W.Frag) (H:Hp) (a:Addr) (xs:List V):Prop :=
 Rd H a (.lst xs) ∨
  ∃ (o:Obj) (its:Array Value) (n:Nat),K.lookup a=some o∧o.cls = .type "list"∧o.dict=none∧o.data = .seq its n∧its.size≤sizeLine∧zt xs its.toList
def SqT (K:W.Frag) (H:Hp) (a:Addr) (xs:List V):Prop :=
 Rd H a (.tup xs) ∨
  ∃ (o:Obj) (its:Array Value) (n:Nat),K.lookup a=some o∧o.cls = .type "tuple"∧o.data = .seq its n∧its.size≤sizeLine∧zt xs its.toList
def zQB:Value→Option V
 | .none=>some .non
 | .bool b=>some (.bl b)
 | .int i _=>some (.int i)
 | .str x _=>some (.str x)
 | .bytes b _=>some (.byt b)
 | .float b _=>some (.flt b)
 | .ref a=>some (.ref a)
 | .type n=>some (.ty n)
 | _=>none
theorem jX.abs {x:V}{u:Value}(r:jX x u):zQB u=some x:=by
 cases x with
 | non=>cases r;rfl
 | bl _=>cases r;rfl
 | int _=>obtain⟨t,rfl⟩:=r;rfl
 | str _=>obtain⟨t,rfl⟩:=r;rfl
 | byt _=>obtain⟨t,rfl⟩:=r;rfl
 | flt _=>obtain⟨t,rfl⟩:=r;rfl
 | ref _=>cases r;rfl
 | ty _=>cases r;rfl
theorem jX.inj {x y:V}{u:Value}(r:jX x u) (q:jX y u):x=y:=Option.some.inj (r.abs.symm.trans q.abs)
theorem zt.inj:∀ {xs ys:List V}{us:List Value},zt xs us→zt ys us→xs=ys
 | _,_,_,.nil,.nil=>rfl
 | _,_,_,.cons r t,.cons r' t'=>by rw [r.inj r',zt.inj t t']
section
variable {X:Cx}{pins:List (Addr×Obj)}{σ:St}{H:Hp}{s:Shared}{a:Addr}{xs ys:List V}
theorem SqL.of {K:W.Frag}(h:H a=some (.lst xs)):SqL K H a xs := .inl (.inl h)
theorem SqT.of {K:W.Frag}(h:H a=some (.tup xs)):SqT K H a xs := .inl (.inl h)
theorem Inv.list (I:Inv X pins σ H s) (h:SqL X.K H a xs):∃ its:List Value,zt xs its∧PlainL s.heap a its.toArray∧xs.length≤sizeLine:=by
 rcases h with h | ⟨o,its,n,hk,hc,hd,hs,hz,r⟩
 ·obtain⟨z,its,n,r,e⟩:=h.ok I.hok;exact⟨its,r,⟨_,n,e,rfl,rfl,rfl⟩,z⟩
 ·refine⟨its.toList,r,⟨o,n,I.kIn a o hk,hc,hd,by simpa using hs⟩,?_⟩;have e:=r.length;simp only [Array.length_toList] at e;omega
theorem Inv.tuple (I:Inv X pins σ H s) (h:SqT X.K H a xs):∃ its:List Value,zt xs its∧IsTup s.heap a its.toArray∧xs.length≤sizeLine:=by
 rcases h with h | ⟨o,its,n,hk,hc,hs,hz,r⟩
 ·obtain⟨z,its,r,p⟩:=h.ok I.hok;exact⟨its,r,p,z⟩
 ·refine⟨its.toList,r,⟨o,I.kIn a o hk,hc,n,by simpa using hs⟩,?_⟩;have e:=r.length;simp only [Array.length_toList] at e;omega
theorem Inv.list_inj (I:Inv X pins σ H s) (h:SqL X.K H a xs) (h':SqL X.K H a ys):xs=ys:=by
 obtain⟨its,r,⟨o,n,e,_,_,d⟩,_⟩:=I.list h;obtain⟨its',r',⟨o',n',e',_,_,d'⟩,_⟩:=I.list h';rw [e] at e';cases e';rw [d] at d'
 injection d' with d1 _
 have:its=its':=by simpa using congrArg Array.toList d1
 subst this;exact r.inj r'
theorem Inv.tuple_inj (I:Inv X pins σ H s) (h:SqT X.K H a xs) (h':SqT X.K H a ys):xs=ys:=by
 obtain⟨its,r,⟨o,e,_,n,d⟩,_⟩:=I.tuple h;obtain⟨its',r',⟨o',e',_,n',d'⟩,_⟩:=I.tuple h';rw [e] at e';cases e';rw [d] at d'
 injection d' with d1 _
 have:its=its':=by simpa using congrArg Array.toList d1
 subst this;exact r.inj r'
end
abbrev Cx.wish (X:Cx) (E:Value→Shared→Prop):Cx:={ X with xe:=E }
abbrev Cx.nox (X:Cx):Cx:=X.wish fun _ _=>False
theorem Cx.Ok.wish {X:Cx}(ok:X.Ok) (E:Value→Shared→Prop):(X.wish E).Ok :=
 ⟨ok.mod,ok.kind,ok.glob,ok.blt,ok.above,ok.inj,ok.has,ok.cab,ok.hd,ok.frames,ok.stk,ok.exf,ok.bs,ok.bsz,ok.noex,ok.exfs,ok.funs,ok.frf⟩
theorem Cx.Ok.unwish {X:Cx}{E:Value→Shared→Prop}(ok:(X.wish E).Ok):X.Ok :=
 ⟨ok.mod,ok.kind,ok.glob,ok.blt,ok.above,ok.inj,ok.has,ok.cab,ok.hd,ok.frames,ok.stk,ok.exf,ok.bs,ok.bsz,ok.noex,ok.exfs,ok.funs,ok.frf⟩
section
variable {X:Cx}{pins:List (Addr×Obj)}{σ:St}{H:Hp}{s:Shared}{E:Value→Shared→Prop}
theorem Inv.wish (I:Inv X pins σ H s) (E:Value→Shared→Prop):Inv (X.wish E) pins σ H s:=⟨I.ok.wish E,I.os,I.bare,I.base,I.loc,I.cell,I.free,I.freeC,I.pin,I.hok,I.len⟩
theorem Inv.unwish (I:Inv (X.wish E) pins σ H s):Inv X pins σ H s:=⟨I.ok.unwish,I.os,I.bare,I.base,I.loc,I.cell,I.free,I.freeC,I.pin,I.hok,I.len⟩
theorem SP.unwish {D:zL6}{f:Flow}{s':Shared}(h:SP (X.wish E) pins D f s'):SP X pins D f s':=by
 cases f with
 | next=>obtain⟨σ',H',I,q⟩:=h;exact⟨σ',H',I.unwish,q⟩
 | brk=>obtain⟨σ',H',I,q⟩:=h;exact⟨σ',H',I.unwish,q⟩
 | cont=>obtain⟨σ',H',I,q⟩:=h;exact⟨σ',H',I.unwish,q⟩
 | ret u=>obtain⟨v,σ',H',I,r,q⟩:=h;exact⟨v,σ',H',I.unwish,r,q⟩
theorem PSs.nox {st:List Stmt}{t:TS}(h:PSs X.nox st t):PSs X st t:=fun pins s σ H D I hw =>
 wpAny_mono (h pins s σ H D (I.wish _) hw) (fun _ _ q=>q.unwish) fun _ _ z=>False.elim z
end
section
variable {X:Cx}{st:Stmt}{rest:List Stmt}{t u:TS}{e:Expr}{te:TE}{pos:Pos}
def zPJ:TS:=fun D σ H=>D.nx σ H
def zQC (t u:TS):TS:=fun D σ H=>t { D with nx:=u D } σ H
theorem jM:PSs X [] zPJ:=fun _ _ σ H _ I h=>wpAny_execs_nil ⟨σ,H,I,h⟩
theorem zC (h1:PS X st t) (h2:PSs X rest u):PSs X (st::rest) (zQC t u):=by
 intro pins s σ H D I h;refine wpAny_execs_cons (thn (h1 pins s σ H { D with nx:=u D } I h) fun f s1 q=>?_)
 cases f with
 | next =>
  obtain⟨σ',H',I',q⟩:=q;exact h2 pins s1 σ' H' D I' q
 | ret v=>exact q
 | brk=>exact q
 | cont=>exact q
theorem zI (h1:PS X st t):PSs X [st] t:=by
 intro pins s σ H D I h;refine wpAny_execs_cons (thn (h1 pins s σ H D I h) fun f s1 q=>?_)
 cases f with
 | next=>exact wpAny_execs_nil q
 | ret v=>exact q
 | brk=>exact q
 | cont=>exact q
theorem Inv.quiet {pins:List (Addr×Obj)}{σ:St}{H:Hp}{s:Shared}(I:Inv X pins σ H s):interactive X.env=false:=by simp [interactive,I.ok.kind]
def zPK (te:TE):TS:=fun D σ H=>te σ H fun _ H1=>D.nx σ H1
theorem jP (he:PE X e te) (hs:swapsWith e none pos.line X.env=pure false:=by rfl):PS X (.Expr e pos) (zPK te):=by
 intro pins s σ H D I h;exact wpAny_Expr_any (thn (he pins s σ H _ I h) fun v s1 ⟨x,H1,I1,r1,q1⟩=>⟨σ,H1,I1,q1⟩) I.quiet hs
def zQD (te:TE):TS:=fun D σ H=>te σ H D.rt
theorem zP (he:PE X e te):PS X (.Return (some e) pos) (zQD te):=by
 intro pins s σ H D I h;exact wpAny_Return_some (thn (he pins s σ H _ I h) fun v s1 ⟨x,H1,I1,r1,q1⟩=>⟨x,σ,H1,I1,r1,q1⟩)
def zQE (c:TT) (t u:TS):TS:=fun D σ H=>c σ H fun b H1=>if b=true then t D σ H1 else u D σ H1
theorem kj {c:Expr}{a b:List Stmt}{tc:TT}(hc:PT X c tc) (ha:PSs X a t) (hb:PSs X b u):PS X (.If c a b pos) (zQE tc t u):=by
 intro pins s σ H D I h;refine wpAny_If (thn (hc pins s σ H _ I h) fun d s1 ⟨H1,I1,q1⟩=>?_)
 cases d with
 | true=>exact ha pins s1 σ H1 D I1 q1
 | false=>exact hb pins s1 σ H1 D I1 q1
end
abbrev TG:=V→St→Hp→(St→Hp→Prop)→Prop
abbrev TGs:=List V→St→Hp→(St→Hp→Prop)→Prop
def PG (X:Cx) (target:Expr) (t:TG):Prop :=
 ∀ (pins:List (Addr×Obj)) (s:Shared) (σ:St) (H:Hp) (v:V) (u:Value) (Q:St→Hp→Prop),Inv X pins σ H s→jX v u→t v σ H Q →
  wpAny (model X.prog X.w) X.A (assign target X.env u) (fun _ s'=>∃ σ' H',Inv X pins σ' H' s'∧Q σ' H') X.xe s
def PGs (X:Cx) (ts:List Expr) (t:TGs):Prop :=
 ∀ (pins:List (Addr×Obj)) (s:Shared) (σ:St) (H:Hp) (vs:List V) (us:List Value) (Q:St→Hp→Prop),Inv X pins σ H s→zt vs us→t vs σ H Q →
  wpAny (model X.prog X.w) X.A (assignInOrder ((assignEach ts X.env).map (·.2)) us) (fun _ s'=>∃ σ' H',Inv X pins σ' H' s'∧Q σ' H') X.xe s
abbrev zOH:=V→V→V→Hp→(Hp→Prop)→Prop
def zPL (X:Cx) (t:zOH):Prop :=
 ∀ (pins:List (Addr×Obj)) (s:Shared) (σ:St) (H:Hp) (o i v:V) (ov iv u:Value) (Q:Hp→Prop),Inv X pins σ H s→jX o ov→jX i iv→jX v u→t o i v H Q →
  wpAny (model X.prog X.w) X.A (setItem ov iv u) (fun _ s'=>∃ H',Inv X pins σ H' s'∧Q H') X.xe s
abbrev TIp:=V→V→Hp→VK→Prop
def PIp (X:Cx) (op:Operator) (t:TIp):Prop :=
 ∀ (pins:List (Addr×Obj)) (s:Shared) (σ:St) (H:Hp) (x y:V) (v u:Value) (Q:VK),Inv X pins σ H s→jX x v→jX y u→t x y H Q →
  wpAny (model X.prog X.w) X.A (inplaceOp op v u) (EP X pins σ Q) X.xe s
section
variable {X:Cx}{pos:Pos}
def zLA (i:Nat):TG:=fun v σ H Q=>Q (σ.set i (some v)) H
theorem zS {i:Nat}{x:Str}(hN:X.N.Nodup) (hi:X.N[i]? = some x) (hx:Loc X.env.scope x) (hf:X.fn x=true∨X.env.scope.names.lookup x=some .local:=by first | exact .inl rfl | exact .inr rfl | assumption):PG X (.Name x pos) (zLA i):=by
 intro pins s σ H v u Q I r h;exact wpAny_assign_Name (zEM I hN hi hx r (fun s' I'=>⟨_,H,I',h⟩) hf)
def zQF:TGs:=fun vs σ H Q=>vs=[]∧Q σ H
def zPM (t:TG) (u:TGs):TGs:=fun vs σ H Q=>∃ v r,vs=v::r∧t v σ H fun σ' H'=>u r σ' H' Q
theorem jk:PGs X [] zQF:=by
 intro pins s σ H vs us Q I r h;obtain⟨e,h⟩:=h;subst e
 cases r
 exact assignInOrder_nil ⟨σ,H,I,h⟩
theorem zV {e:Expr}{es:List Expr}{t:TG}{u:TGs}(h1:PG X e t) (h2:PGs X es u)
  (hs:(assignEach (e::es) X.env).map (·.2)=assign e X.env::(assignEach es X.env).map (·.2):=by rfl):PGs X (e::es) (zPM t u):=by
 intro pins s σ H vs us Q I r h;obtain⟨v,vr,e1,h⟩:=h;subst e1
 cases r with
 | cons r rr =>
  rw [hs];refine assignInOrder_cons (thn (h1 pins s σ H _ _ _ I r h) fun _ s1 ⟨σ1,H1,I1,q1⟩=>?_);exact h2 pins s1 σ1 H1 _ _ Q I1 rr q1
def zPv (K:W.Frag) (n:Nat) (t:TGs):TG:=fun v σ H Q=>∃ a xs,v = .ref a∧SqT K H a xs∧xs.length=n∧t xs σ H Q
theorem zCL {es:List Expr}{k:Nat}{t:TGs}{n:Nat}(hc:X.calm=true) (h:PGs X es t)
  (hn:(assignEach es X.env).length=n:=by rfl) (hst:(assignEach es X.env).findIdx? (·.1)=none:=by rfl):PG X (.Tuple es k pos) (zPv X.K n t):=by
 intro pins s σ H v u Q I r hw;obtain⟨a,xs,e1,hq,hl,hw⟩:=hw;subst e1
 cases r
 obtain⟨its,rv,ht,hz⟩:=I.tuple hq;refine assign_Tuple_tuple (I.ok.hd hc) ht (by simp [hn,← hl,rv.length]) hst fun h' hx=>?_;have I1:Inv X pins σ H { s with heap:=h' }:=I.kept (t':=s.toks) fun b o e=>hx b o (ne_of_lt (Heap.lt_size e)) e;exact h pins _ σ H xs _ Q I1 (by simpa using rv) hw
def zQG (to ti:TE) (t:zOH):TG:=fun v σ H Q=>to σ H fun o H1=>ti σ H1 fun i H2=>t o i v H2 fun H3=>Q σ H3
theorem zOI {o i:Expr}{to ti:TE}{t:zOH}(ho:PE X o to) (hi:PE X i ti) (hs:zPL X t)
  (ha:∀ v,assign (.Subscript o i pos) X.env v=(do
   let ov ← holding [v] (eval o X.env)
   let iv ← holding [v,ov] (eval i X.env)
   standAt pos
   holding [v,ov,iv] (setItem ov iv v)
   release [v,ov,iv] []):=by intro _;rfl):PG X (.Subscript o i pos) (zQG to ti t):=by
 intro pins s σ H v u Q I r h;rw [ha];refine wpAny_bind (wpAny_holding (thn (ho pins s σ H _ I h) fun ov s1 ⟨x,H1,I1,r1,q1⟩=>?_));refine wpAny_bind (wpAny_holding (thn (hi pins s1 σ H1 _ I1 q1) fun iv s2 ⟨y,H2,I2,r2,q2⟩=>?_));refine wpAny_bind (wpAny_standAt (wpAny_bind (wpAny_holding (thn (hs pins s2 σ H2 x y v ov iv u _ I2 r1 r2 r q2) fun _ s3 ⟨H3,I3,q3⟩=>?_))));exact wpAny_release ⟨σ,H3,I3,q3⟩
def zPN (te:TE) (g:TG):TS:=fun D σ H=>te σ H fun x H1=>g x σ H1 D.nx
theorem zOJ {tg e:Expr}{te:TE}{g:TG}(he:PE X e te) (hg:PG X tg g) (hs:swapsWithSole [tg] e pos.line X.env=pure false:=by rfl) (hw:swappedStores [tg] e X.env=pure none:=by rfl)
  (h1:(assignEach [tg] X.env).map (·.2)=[assign tg X.env]:=by rfl):PS X (.Assign [tg] e pos) (zPN te g):=by
 intro pins s σ H D I h;refine wpAny_Assign_stores (thn (he pins s σ H _ I h) fun v s1 ⟨x,H1,I1,r1,q1⟩=>?_) hs hw;rw [h1];exact thn (hg pins s1 σ H1 x v _ I1 r1 q1) fun _ s2 q=>q
theorem zU {i:Nat}{x:Str}{e:Expr}{te:TE}{pos':Pos}(hN:X.N.Nodup) (hi:X.N[i]? = some x) (hx:Loc X.env.scope x) (he:PE X e te) (hs:swapsWith e (some (.Name x pos')) pos.line X.env=pure false:=by rfl) (hf:X.fn x=true∨X.env.scope.names.lookup x=some .local:=by first | exact .inl rfl | exact .inr rfl | assumption) :
  PS X (.Assign [.Name x pos'] e pos) (zPN te (zLA i)):=by
 intro pins s σ H D I h;refine wpAny_Assign_Name (thn (he pins s σ H _ I h) fun v s1 ⟨y,H1,I1,r1,q1⟩=>?_) hs;exact zEM I1 hN hi hx r1 (fun s2 I2=>⟨_,H1,I2,q1⟩) hf
def zQH (i:Nat) (te:TE) (ti:TIp):TS:=fun D σ H=>∃ x,σ[i]? = some (some x)∧te σ H fun y H1=>ti x y H1 fun z H2=>D.nx (σ.set i (some z)) H2
theorem zJO {i:Nat}{x:Str}{e:Expr}{te:TE}{op:Operator}{ti:TIp}{pos':Pos}(hN:X.N.Nodup) (hi:X.N[i]? = some x) (hx:Loc X.env.scope x) (he:PE X e te) (ho:PIp X op ti) (hf:X.fn x=true∨X.env.scope.names.lookup x=some .local:=by first | exact .inl rfl | exact .inr rfl | assumption) :
  PS X (.AugAssign (.Name x pos') op e pos) (zQH i te ti):=by
 intro pins s σ H D I h;obtain⟨v,e1,h⟩:=h;obtain⟨m,hn,hl⟩:=I.loc
 have vis:Vis X.env.scope x:=by rcases hx with k | k;exact .inl k;exact .inr (.inl k)
 obtain⟨u,r,l⟩:=hl i x v hi e1 vis;refine wpAny_AugAssign_Name ?_
 have go:wpAny (model X.prog X.w) X.A (eval e X.env) (fun w s₂=>wpAny (model X.prog X.w) X.A (inplaceOp op u w) (fun r s₃=>wpAny (model X.prog X.w) X.A (storeName X.env x r) (fun _=>SP X pins D .next) X.xe s₃) X.xe s₂) X.xe s:=by
  refine thn (he pins s σ H _ I h) fun w s1 ⟨y,H1,I1,r1,q1⟩=>?_;refine thn (ho pins s1 σ H1 v y u w _ I1 r r1 q1) fun z s2 ⟨zv,H2,I2,r2,q2⟩=>?_;exact zEM I2 hN hi hx r2 (fun s3 I3=>⟨_,H2,I3,q2⟩) hf
 rcases l with ⟨hk,hm⟩ | ⟨hk,c,hc,hcell⟩
 ·exact wpAny_loadName_local I.ok.kind hk hn hm go
 ·rcases hk with hk | hk
  ·exact wpAny_loadName_cell I.ok.kind hk hc hcell go
  ·rcases hx with k | k
   ·have:X.env.scope.names.lookup x=some .free:=hk;rw [k] at this;cases this
   ·have:X.env.scope.names.lookup x=some .free:=hk;rw [k] at this;cases this
def zPO (to ti te:TE) (tget:V→V→Hp→VK→Prop) (tip:TIp) (tset:zOH):TS:=fun D σ H=>to σ H fun o H1=>ti σ H1 fun i H2=>tget o i H2 fun x H3=>te σ H3 fun y H4=>tip x y H4 fun z H5=>tset o i z H5 fun H6=>D.nx σ H6
def zPw (X:Cx) (t:V→V→Hp→VK→Prop):Prop :=
 ∀ (pins:List (Addr×Obj)) (s:Shared) (σ:St) (H:Hp) (o i:V) (ov iv:Value) (Q:VK),Inv X pins σ H s→jX o ov→jX i iv→t o i H Q →
  wpAny (model X.prog X.w) X.A (getItem ov iv) (EP X pins σ Q) X.xe s
theorem zJP {o i e:Expr}{to ti te:TE}{tget:V→V→Hp→VK→Prop}{tip:TIp}{tset:zOH}{op:Operator}{tpos:Pos}(ho:PE X o to) (hi:PE X i ti) (hg:zPw X tget) (he:PE X e te) (hp:PIp X op tip) (hs:zPL X tset)
  (ha:∀ ov iv new,augStore i ov iv new=(do holding [new,ov,iv] (setItem ov iv new);release [new,ov,iv] [];pure .next):=by intros;rfl):PS X (.AugAssign (.Subscript o i tpos) op e pos) (zPO to ti te tget tip tset):=by
 intro pins s σ H D I h;refine wpAny_AugAssign_SubscriptAny (thn (ho pins s σ H _ I h) fun ov s1 ⟨x1,H1,I1,r1,q1⟩=>?_) ha;refine thn (hi pins s1 σ H1 _ I1 q1) fun iv s2 ⟨x2,H2,I2,r2,q2⟩=>?_;refine thn (hg pins s2 σ H2 x1 x2 ov iv _ I2 r1 r2 q2) fun old s3 ⟨x3,H3,I3,r3,q3⟩=>?_;refine thn (he pins s3 σ H3 _ I3 q3) fun v s4 ⟨x4,H4,I4,r4,q4⟩=>?_;refine thn (hp pins s4 σ H4 x3 x4 old v _ I4 r3 r4 q4) fun new s5 ⟨x5,H5,I5,r5,q5⟩=>?_;exact thn (hs pins s5 σ H5 x1 x2 x5 ov iv new _ I5 r1 r2 r5 q5) fun _ s6 ⟨H6,I6,q6⟩=>⟨σ,H6,I6,q6⟩
def ipI (f:Int→Int→Int):TIp:=fun x y H Q=>∃ i j,x = .int i∧y = .int j∧Q (.int (f i j)) H
theorem zHd:PIp X .Add (ipI fun i j=>i+j):=by
 intro pins s σ H x y v u Q I r1 r2 h;obtain⟨i,j,e1,e2,q⟩:=h;subst e1;subst e2;obtain⟨t,rfl⟩:=r1;obtain⟨t',rfl⟩:=r2;exact iadd_int ⟨.int _,H,I.tok _,⟨_,rfl⟩,q⟩
end
section
variable {X:Cx}{pos:Pos}
def zOK (c:TT) (tb:TS):TS:=fun D σ H=>∃ W:Nat→St→Hp→Prop,(∃ m,W m σ H)∧∀ m σ H,W m σ H →
 c σ H fun b H1=>if b=true then ∃ N:St→Hp→Prop,(∀ σ' H',N σ' H'→∃ m',m'<m∧W m' σ' H')∧tb { D with nx:=N,ct:=N,bk:=D.nx } σ H1 else D.nx σ H1
theorem zEO {c:Expr}{body:List Stmt}{tc:TT}{tb:TS}(hp:PassesOwn (model X.prog X.w) X.A X.env X.xe) (hc:PT X c tc) (hb:PSs X body tb):PS X (.While c body [] pos) (zOK tc tb):=by
 intro pins s σ H D I h;obtain⟨W,⟨m0,w0⟩,turn⟩:=h;refine wpAny_While (codeAny_whileLoop (fun n s'=>∃ σ' H',Inv X pins σ' H' s'∧W n σ' H') ?_ m0 ⟨σ,H,I,w0⟩);rintro n s1 ⟨σ1,H1,I1,w1⟩;refine wpAny_passesOwn hp (thn (hc pins s1 σ1 H1 _ I1 (turn n σ1 H1 w1)) fun b s2 ⟨H2,I2,q2⟩=>?_)
 cases b with
 | true =>
  obtain⟨N,hN,q2⟩:=q2;rw [if_pos rfl];refine wpAny_passesOwn hp (thn (hb pins s2 σ1 H2 _ I2 q2) fun f s3 q3=>?_)
  cases f with
  | next =>
   obtain⟨σ3,H3,I3,n3⟩:=q3;obtain⟨m',hm,w3⟩:=hN σ3 H3 n3;exact⟨m',hm,σ3,H3,I3,w3⟩
  | cont =>
   obtain⟨σ3,H3,I3,n3⟩:=q3;obtain⟨m',hm,w3⟩:=hN σ3 H3 n3;exact⟨m',hm,σ3,H3,I3,w3⟩
  | brk=>exact q3
  | ret v=>exact q3
 | false =>
  rw [if_neg Bool.false_ne_true];exact wpAny_execs_nil ⟨σ1,H2,I2,q2⟩
end
structure It where
 go:Nat→Hp→Prop
 yld:Nat→Hp→V→Hp→Prop
 stop:Nat→Hp→Prop
def zIy (X:Cx) (pins:List (Addr×Obj)) (H:Hp) (b:Addr):Prop :=
 H b=none∧b≠X.env.locals∧b∉X.fs∧(b∈X.ex∨X.s_0.heap.objs.size≤b)∧(∀ x c,X.env.cells.lookup x=some c→c≠b)∧∀ p∈X.pn++pins,p.1≠b
theorem Inv.fpOk {X:Cx}{pins:List (Addr×Obj)}{σ:St}{H H':Hp}{s:Shared}{b:Addr}(I:Inv X pins σ H s) (hb:s.heap.objs.size≤b) (hn:H' b=none):zIy X pins H' b:=by
 refine⟨hn,ne_of_gt (lt_of_lt_of_le I.lt hb),I.nofs hb,.inr (le_trans I.sz hb),fun x c e z=>?_,fun p hp z=>?_⟩
 ·obtain⟨v,q⟩:=I.cell x c e;exact absurd (lt_of_lt_of_le q.lt (by rw [z];exact hb)) (lt_irrefl _)
 ·exact absurd (lt_of_lt_of_le (Heap.lt_size (I.pin p hp).1) (by rw [z];exact hb)) (lt_irrefl _)
structure zL9 (P:Program) (w:World) (K:W.Frag) (tg:Expr) (J:It) (fp:List Addr) (it:Addr) (tn:Nat→Heap→Prop):Prop where
 mem:it∈fp
 obj:∀ i h,tn i h→∀ b∈fp,∃ o,h.get? b=some o∧∀ v,o.data ≠ .cell v
 keep:∀ i h h',tn i h→(∀ b∈fp,∀ o,h.get? b=some o→h'.get? b=some o)→tn i h'
 item:∀ (X:Cx),X.prog=P→X.w=w→X.K=K→X.calm=true→∀ (i:Nat) (pins:List (Addr×Obj)) (s:Shared) (σ:St) (H:Hp) (E:Value→Shared→Prop),Inv X pins σ H s→(∀ b∈fp,zIy X pins H b)→tn i s.heap→J.go i H →
  wpAny (model P w) X.A (pyNext (.ref it)) (fun r s1=>∃ u,r=some u ∧
   wpAny (model P w) X.A (letOwnedTupleGo tg (.ref it) u) (fun _ s2=>∃ x H',Inv X pins σ H' s2∧jX x u∧J.yld i H x H'∧tn (i+1) s2.heap∧∀ b∈fp,H' b=none) E s1) E s
 done:∀ (X:Cx),X.prog=P→X.w=w→X.K=K→X.calm=true→∀ (i:Nat) (pins:List (Addr×Obj)) (s:Shared) (σ:St) (H:Hp) (E:Value→Shared→Prop),Inv X pins σ H s→(∀ b∈fp,zIy X pins H b)→tn i s.heap→J.stop i H →
  wpAny (model P w) X.A (pyNext (.ref it)) (fun r s1=>r=none∧Inv X pins σ H s1) E s
 self:∀ (A:Around) (i:Nat) (s:Shared) (Q:Value→Shared→Prop) (E:Value→Shared→Prop),tn i s.heap→Q (.ref it) s→wpAny (model P w) A (pyIter (.ref it)) Q E s
abbrev TI:=St→Hp→(It→Hp→Prop)→Prop
def PIE (X:Cx) (pins:List (Addr×Obj)) (σ:St) (tg:Expr) (R:It→Hp→Prop) (itv:Value) (s2:Shared):Prop :=
 ∃ (it:Addr) (fp:List Addr) (tn:Nat→Heap→Prop) (J:It) (H':Hp),itv = .ref it∧Inv X pins σ H' s2∧zL9 X.prog X.w X.K tg J fp it tn∧tn 0 s2.heap∧(∀ b∈fp,zIy X pins H' b)∧R J H'
def PI (X:Cx) (tg iter:Expr) (wi:TI):Prop :=
 ∀ (pins:List (Addr×Obj)) (s:Shared) (σ:St) (H:Hp) (R:It→Hp→Prop),Inv X pins σ H s→wi σ H R →
  wpAny (model X.prog X.w) X.A (eval iter X.env) (fun v s1=>wpAny (model X.prog X.w) X.A (pyIter v) (PIE X pins σ tg R) X.xe s1) X.xe s
theorem zOL {M:Model}{A:Around}{E:Value→Shared→Prop}{s:Shared}{tg:Expr}{it:Addr}{u:Value}{o:Obj}{n:String}{vs:Array Value}{Q:Unit→Shared→Prop}(ho:s.heap.get? it=some o) (hc:o.cls = .type n) (hd:o.data = .fields vs)
  (hn:["enumerate","zip","dict_itemiterator","dict_reverseitemiterator","odict_iterator","itertools.zip_longest","itertools.pairwise"].contains n=false) (hQ:Q () s):wpAny M A (letOwnedTupleGo tg (.ref it) u) Q E s:=by
 unfold letOwnedTupleGo
 cases tg<;>first
  | exact wpAny_pure hQ
  | (cases u<;>first
    | exact wpAny_pure hQ
    | (refine wpAny_bind (wpAny_load ho ?_);rw [hc,hd];show wpAny M A (if(["enumerate","zip","dict_itemiterator","dict_reverseitemiterator","odict_iterator","itertools.zip_longest","itertools.pairwise"].contains n&&vs[0]? == some (rawInt _))=true then _ else _) Q E s;rw [if_neg (by intro h;rw [hn,Bool.false_and] at h;cases h)];exact wpAny_pure hQ))
def Itl (K:W.Frag) (a:Addr):It :=
 ⟨fun i H=>∃ xs x,SqL K H a xs∧xs[i]? = some x,fun i H x H'=>H'=H∧∀ xs,SqL K H a xs→xs[i]? = some x,fun i H=>∃ xs,SqL K H a xs∧xs.length≤i⟩
def Itr (lo:Int) (n:Nat):It:=⟨fun i _=>i<n,fun i H x H'=>H'=H∧x = .int (lo+i),fun i _=>n≤i⟩
theorem zJQ {P:Program}{w:World}{K:W.Frag}{tg:Expr}(a it:Addr):zL9 P w K tg (Itl K a) [it] it (fun i h=>h.IsListIter it a i) where
 mem:=by simp
 obj:=fun i h st b hb=>by
  have e:b=it:=by simpa using hb
  subst e;obtain⟨o,e,c,d⟩:=st;exact⟨o,e,fun v z=>by rw [d] at z;cases z⟩
 keep:=fun i h h' st k=>st.at fun o e=>k it (by simp) o e
 item:=by
  intro X hP hw hK hc i pins s σ H E I hf st hg;subst hP hw hK;obtain⟨xs,x,hq,hx⟩:=hg;obtain⟨its,rv,p,hz⟩:=I.list hq;obtain⟨u,hu,ru⟩:=rv.get hx;obtain⟨f0,f1,f2,f3,f4,f5⟩:=hf it (by simp);refine wpAny_pyNext_list_item st p.isList (x:=u) (by simpa using hu) fun h' st' sb=>?_;have I1:Inv X pins σ H { s with heap:=h' }:=I.turned (t':=s.toks) (fun b o hb e=>(sb.2 b hb).trans e) f0 f1 f3 f4 f5;obtain⟨o,e,c,d⟩:=id st';exact⟨u,rfl,zOL (s:={ s with heap:=h' }) e c d (by decide) ⟨x,H,I1,ru,⟨rfl,fun ys hy=>by rw [I.list_inj hy hq];exact hx⟩,st',fun b hb=>(hf b hb).1⟩⟩
 done:=by
  intro X hP hw hK hc i pins s σ H E I hf st hg;subst hP hw hK;obtain⟨xs,hq,hx⟩:=hg;obtain⟨its,rv,p,hz⟩:=I.list hq;obtain⟨f0,f1,f2,f3,f4,f5⟩:=hf it (by simp);have hl:=rv.length;exact wpAny_pyNext_list_end (I.ok.hd hc) st p.isList (by simp;omega) fun h' eb=>⟨rfl,I.turned (t':=s.toks) (fun b o hb e=>eb b o hb e) f0 f1 f3 f4 f5⟩
 self:=fun _ _ _ _ _ st h=>wpAny_pyIter_listiter st h
theorem zIQ {P:Program}{w:World}{K:W.Frag}{tg:Expr}(it:Addr) (lo:Int) (n:Nat):zL9 P w K tg (Itr lo n) [it] it (fun i h=>IsRangeIter h it (lo+(i:Nat)*1) ((n:Int)-(i:Nat)) 1) where
 mem:=by simp
 obj:=fun i h st b hb=>by
  have e:b=it:=by simpa using hb
  subst e
  exact⟨_,st,fun v z=>by
   have z':Data.fields _=Data.cell v:=z
   cases z'⟩
 keep:=fun i h h' st k=>k it (by simp) _ st
 item:=by
  intro X hP hw hK hc i pins s σ H E I hf st hg;subst hP hw hK;obtain⟨f0,f1,f2,f3,f4,f5⟩:=hf it (by simp);have W:=Walks.range (prog:=X.prog) (w:=X.w) (I.ok.hd hc) it lo 1 n;refine W.item i s _ _ hg st fun v h' tk hv st' kk=>?_;obtain⟨t,rfl⟩:=hv;have I1:Inv X pins σ H { s with heap:=h',toks:=tk }:=I.turned (fun b o hb e=>kk b o (by simpa using hb) e) f0 f1 f3 f4 f5;refine⟨_,rfl,zOL (s:={ s with heap:=h',toks:=tk }) (n:="range_iterator") st' rfl rfl (by decide) ⟨.int (lo+i),H,I1,⟨t,?_⟩,⟨rfl,rfl⟩,st',fun b hb=>(hf b hb).1⟩⟩;rw [Int.mul_one]
 done:=by
  intro X hP hw hK hc i pins s σ H E I hf st hg;subst hP hw hK;obtain⟨f0,f1,f2,f3,f4,f5⟩:=hf it (by simp);exact wpAny_pyNext_range_end (I.ok.hd hc) st (by have:n≤i:=hg;omega) fun h' eb=>⟨rfl,I.turned (t':=s.toks) (fun b o hb e=>eb b o hb e) f0 f1 f3 f4 f5⟩
 self:=fun _ _ _ _ _ st h=>wpAny_pyIter_rangeiter st h
end L2
namespace L2
open PySem PySem.Spec PyProof.Rows
section
variable {X:Cx}{tg:Expr}
def zPP (K:W.Frag) (tl:TE):TI:=fun σ H R=>tl σ H fun x H1=>∃ a,x = .ref a∧(∃ xs,SqL K H1 a xs)∧R (Itl K a) H1
theorem jF {l:Expr}{tl:TE}(hl:PE X l tl):PI X tg l (zPP X.K tl):=by
 intro pins s σ H R I h;refine thn (hl pins s σ H _ I h) fun v s1 ⟨x,H1,I1,r1,q1⟩=>?_;obtain⟨a,e,⟨xs,hq⟩,q⟩:=q1;subst e
 cases r1
 obtain⟨its,rv,p,hz⟩:=I1.list hq;refine wpAny_pyIter_list p.isList ?_;refine⟨s1.heap.objs.size,[s1.heap.objs.size],_,_,H1,rfl,I1.kept (t':=s1.toks) fun b o e=>Heap.get?_push_of_some _ e,zJQ a _,⟨_,Heap.get?_push_size _ rfl,rfl,rfl⟩,fun b hb=>?_,q⟩
 have e:b=s1.heap.objs.size:=by simpa using hb
 subst e;exact I1.fpOk (le_refl _) (I1.hok.fresh (le_refl _))
theorem zLB {pins:List (Addr×Obj)}{σ:St}{H:Hp}{s:Shared}{R:It→Hp→Prop}{E:Value→Shared→Prop}{lo hi:Int}{t u v:Tok}{tk:Nat}(I:Inv X pins σ H s) (h1 : -(2 ^ 62)≤lo) (h2:lo<2 ^ 62) (h3 : -(2 ^ 62)≤hi) (h4:hi<2 ^ 62)
  (q:R (Itr lo (hi-lo).toNat) H):wpAny (model X.prog X.w) X.A (pyIter (.ref s.heap.objs.size)) (PIE X pins σ tg R) E { s with heap:=s.heap.push { cls := .type "range",data := .fields #[.int lo t,.int hi u,.int 1 v] },toks:=tk }:=by
 refine wpAny_pyIter_range (IsRange.new ..) (small_one h1 h2 h3 h4) ?_;have I1:Inv X pins σ H { s with heap:=s.heap.push { cls := .type "range",data := .fields #[.int lo t,.int hi u,.int 1 v] },toks:=tk }:=I.kept fun b o e=>Heap.get?_push_of_some _ e
 refine⟨(s.heap.push { cls := .type "range",data := .fields #[.int lo t,.int hi u,.int 1 v] }).objs.size,[(s.heap.push { cls := .type "range",data := .fields #[.int lo t,.int hi u,.int 1 v] }).objs.size],_,_,H,rfl,
  I1.kept (t':=tk) fun b o e=>Heap.get?_push_of_some _ e,zIQ _ lo (hi-lo).toNat,?_,fun b hb=>?_,q⟩
 ·have e1:lo+((0:Nat):Int)*1=lo:=by simp
  have e2:(((hi-lo).toNat:Nat):Int)-((0:Nat):Int)=Builtin.Range.rangeSize lo hi 1:=by rw [rangeSize_one];split<;>omega
  show IsRangeIter _ _ (lo+((0:Nat):Int)*1) ((((hi-lo).toNat:Nat):Int)-((0:Nat):Int)) 1;rw [e1,e2];exact Heap.get?_push_size _ rfl
 ·have e:b=(s.heap.push { cls := .type "range",data := .fields #[.int lo t,.int hi u,.int 1 v] }).objs.size:=by simpa using hb
  subst e;exact I1.fpOk (le_refl _) (I1.hok.fresh (le_refl _))
def zPQ (ta:TA):TI:=fun σ H R=>ta σ H fun vs H1=>∃ j:Int,vs=[.int j] ∧ -(2 ^ 62)≤j∧j<2 ^ 62∧R (Itr 0 j.toNat) H1
theorem zAS {a:Expr}{ta:TA}{p pos:Pos}(hg:Gl X "range") (hm:X.mg "range"=none) (ha:PA X [a] ta) (hs:starEach [a] X.env=[(false,eval a X.env)]:=by rfl):PI X tg (.Call (.Name "range" p) [a] [] pos) (zPQ ta):=by
 intro pins s σ H R I h;refine Call_ (zDo I hg hm boot_range (PyProof.Rows.callWith_type1 (thn (ha pos pins s σ H _ I h) fun us s1 ⟨vs,H1,I1,r1,q1⟩=>?_) hs rfl));obtain⟨j,e,q1,q2,q⟩:=q1;subst e
 cases r1 with
 | cons r rr =>
  cases rr
  obtain⟨t,rfl⟩:=r;exact call_range_1 (zLB I1 (by omega) (by omega) q1 q2 (by simpa using q))
def zQI (wi:TI) (g:TG) (tb:TS):TS:=fun D σ H=>wi σ H fun J H1=>∃ W:Nat→Nat→St→Hp→Prop,(∃ m,W 0 m σ H1)∧∀ i m σ H,W i m σ H →
 (J.stop i H∧D.nx σ H)∨(J.go i H∧∃ N:St→Hp→Prop,(∀ σ' H',N σ' H'→∃ m',m'<m∧W (i+1) m' σ' H')∧∀ x H',J.yld i H x H'→g x σ H' fun σ2 H2=>tb { D with nx:=N,ct:=N,bk:=D.nx } σ2 H2)
def zFP (fp:List Addr) (h:Heap):List (Addr×Obj):=fp.filterMap fun b=>(h.get? b).map fun o=>(b,o)
theorem zA1 {fp:List Addr}{h:Heap}{b:Addr}{o:Obj}(hb:b∈fp) (e:h.get? b=some o):(b,o)∈zFP fp h:=List.mem_filterMap.mpr ⟨b,hb,by rw [e];rfl⟩
theorem zJR {fp:List Addr}{h:Heap}{p:Addr×Obj}(hp:p∈zFP fp h):p.1∈fp∧h.get? p.1=some p.2:=by
 obtain⟨b,hb,e⟩:=List.mem_filterMap.mp hp
 cases q:h.get? b with
 | none=>rw [q] at e;cases e
 | some o =>
  rw [q] at e;have e':(b,o)=p:=Option.some.inj e;subst e';exact⟨hb,q⟩
theorem Inv.pinned {pins:List (Addr×Obj)}{σ:St}{H:Hp}{s:Shared}{fp:List Addr}(I:Inv X pins σ H s) (hf:∀ b∈fp,zIy X pins H b) (ho:∀ b∈fp,∃ o,s.heap.get? b=some o∧∀ v,o.data ≠ .cell v):Inv X (pins++zFP fp s.heap) σ H s :=
 I.pins_of fun p hp=>(List.mem_append.mp hp).elim (fun z=>I.pin p (mem_append_right _ z)) fun z=>by
  obtain⟨hb,e⟩:=zJR z;obtain⟨f0,f1,f2,_⟩:=hf p.1 hb;obtain⟨o,e',d⟩:=ho p.1 hb;rw [e] at e';cases e';exact⟨e,f0,f1,f2,d⟩
theorem Inv.unpinned {pins pl:List (Addr×Obj)}{σ:St}{H:Hp}{s:Shared}(I:Inv X (pins++pl) σ H s):Inv X pins σ H s:=I.pins_of fun p hp=>I.pin p (mem_append_right _ (List.mem_append_left _ hp))
theorem yT {iter:Expr}{body:List Stmt}{wi:TI}{g:TG}{tb:TS}{pos:Pos}(hp:PassesOwn (model X.prog X.w) X.A X.env X.xe) (hc:X.calm=true) (hi:PI X tg iter wi) (hg:PG X tg g) (hb:PSs X body tb)
  (hs:∀ x,foldedSetIterable iter X.env x=pure x:=by intro _;rfl):PS X (.For tg iter body [] pos) (zQI wi g tb):=by
 intro pins s σ H D I h;refine wpAny_For (thn (hi pins s σ H _ I h) fun v s1 h1=>thn h1 fun itv s2 h2=>?_) hs;obtain⟨it,fp,tn,J,H2,e,I2,T,st2,f2,W,⟨m0,w0⟩,turn⟩:=h2;subst e;have stat:∀ {H':Hp},(∀ b∈fp,H' b=none)→∀ b∈fp,zIy X pins H' b:=fun hn b hb=>⟨hn b hb,(f2 b hb).2⟩;refine codeAny_forLoop_any (fun n s'=>∃ i σ' H',Inv X pins σ' H' s'∧tn i s'.heap∧(∀ b∈fp,H' b=none)∧W i n σ' H') ?_ m0 ⟨0,σ,H2,I2,st2,fun b hb=>(f2 b hb).1,w0⟩;rintro n s3 ⟨i,σ3,H3,I3,st3,fr3,w3⟩
 rcases turn i n σ3 H3 w3 with ⟨stop,qn⟩ | ⟨go,N,hN,step⟩
 ·refine wpAny_passesOwn hp (thn (T.done X rfl rfl rfl hc i pins s3 σ3 H3 X.xe I3 (stat fr3) st3 stop) fun r s4 ⟨hr,I4⟩=>?_);subst hr;exact wpAny_execs_nil ⟨σ3,H3,I4,qn⟩
 ·refine wpAny_passesOwn hp (thn (T.item X rfl rfl rfl hc i pins s3 σ3 H3 X.xe I3 (stat fr3) st3 go) fun r s4 ⟨u,hr,h4⟩=>?_);subst hr;refine wpAny_passesOwn hp (thn h4 fun _ s5 ⟨x,H5,I5,r5,y5,st5,fr5⟩=>?_);have I5':=I5.pinned (stat fr5) (T.obj _ _ st5);refine wpAny_passesOwn hp (thn (hg _ s5 σ3 H5 x u _ I5' r5 (step x H5 y5)) fun _ s6 ⟨σ6,H6,I6,q6⟩=>?_);refine wpAny_passesOwn hp (thn (hb _ s6 σ6 H6 _ I6 q6) fun f s7 q7=>?_)
  have again:∀ {σ7:St}{H7:Hp},Inv X (pins++zFP fp s5.heap) σ7 H7 s7→N σ7 H7→∃ m,m<n∧∃ i σ' H',Inv X pins σ' H' s7∧tn i s7.heap∧(∀ b∈fp,H' b=none)∧W i m σ' H':=fun {σ7 H7} I7 n7=>by
   obtain⟨m',hm,w7⟩:=hN σ7 H7 n7;refine⟨m',hm,i+1,σ7,H7,I7.unpinned,T.keep _ _ _ st5 fun b hb o e=>(I7.pin (b,o) (mem_append_right _ (mem_append_right _ (zA1 hb e)))).1,fun b hb=>?_,w7⟩;obtain⟨o,e,d⟩:=T.obj _ _ st5 b hb;exact(I7.pin (b,o) (mem_append_right _ (mem_append_right _ (zA1 hb e)))).2.1
  cases f with
  | next=>obtain⟨σ7,H7,I7,n7⟩:=q7;exact again I7 n7
  | cont=>obtain⟨σ7,H7,I7,n7⟩:=q7;exact again I7 n7
  | brk=>obtain⟨σ7,H7,I7,q7⟩:=q7;exact⟨σ7,H7,I7.unpinned,q7⟩
  | ret v=>obtain⟨x7,σ7,H7,I7,r7,q7⟩:=q7;exact⟨x7,σ7,H7,I7.unpinned,r7,q7⟩
end
theorem kx {K:W.Frag}{a:Addr}{xs:List V}{g:TG}{tb:TS}{D:zL6}{σ:St}{H:Hp}(Pv:Nat→St→Hp→Prop) (h0:Pv 0 σ H) (hl:∀ i σ H,i≤xs.length→Pv i σ H→SqL K H a xs)
  (hs:∀ i x σ H,xs[i]? = some x→Pv i σ H→g x σ H fun σ2 H2=>tb { D with nx:=Pv (i+1),ct:=Pv (i+1),bk:=D.nx } σ2 H2) (hd:∀ σ H,Pv xs.length σ H→D.nx σ H) :
  ∃ W:Nat→Nat→St→Hp→Prop,(∃ m,W 0 m σ H)∧∀ i m σ H,W i m σ H →
   ((Itl K a).stop i H∧D.nx σ H)∨((Itl K a).go i H∧∃ N:St→Hp→Prop,(∀ σ' H',N σ' H'→∃ m',m'<m∧W (i+1) m' σ' H')∧∀ x H',(Itl K a).yld i H x H'→g x σ H' fun σ2 H2=>tb { D with nx:=N,ct:=N,bk:=D.nx } σ2 H2):=by
 refine⟨fun i m σ H=>m=xs.length-i∧i≤xs.length∧Pv i σ H,⟨xs.length,by simp,zero_le _,h0⟩,?_⟩;rintro i m σ H ⟨rfl,hi,p⟩;have q:=hl i σ H hi p;by_cases hlt:i<xs.length
 ·refine .inr ⟨⟨xs,xs[i],q,by simp [hlt]⟩,Pv (i+1),fun σ' H' p'=>⟨xs.length-(i+1),by omega,rfl,hlt,p'⟩,fun x H' y=>?_⟩;obtain⟨e,y⟩:=y;subst e;exact hs i x σ _ (y xs q) p
 ·have e:i=xs.length:=by omega
  subst e;exact .inl ⟨⟨xs,q,le_refl _⟩,hd σ H p⟩
end L2
namespace L2
open PySem PySem.Spec PyProof.Rows
abbrev R2:=V→V→Hp→VK→Prop
def OpR (X:Cx) (f:Value→Value→Sem Value) (r:R2):Prop :=
 ∀ (pins:List (Addr×Obj)) (s:Shared) (σ:St) (H:Hp) (x y:V) (v u:Value) (Q:VK),Inv X pins σ H s→jX x v→jX y u→r x y H Q →
  wpAny (model X.prog X.w) X.A (f v u) (EP X pins σ Q) X.xe s
def UnR (X:Cx) (f:Value→Sem Value) (r:V→Hp→VK→Prop):Prop :=
 ∀ (pins:List (Addr×Obj)) (s:Shared) (σ:St) (H:Hp) (x:V) (v:Value) (Q:VK),Inv X pins σ H s→jX x v→r x H Q →
  wpAny (model X.prog X.w) X.A (f v) (EP X pins σ Q) X.xe s
def zBm (X:Cx) (f:Value) (r:List V→Hp→VK→Prop):Prop :=
 ∀ (pins:List (Addr×Obj)) (s:Shared) (σ:St) (H:Hp) (xs:List V) (us:List Value) (Q:VK),Inv X pins σ H s→zt xs us→r xs H Q →
  wpAny (model X.prog X.w) X.A (call f us) (EP X pins σ Q) X.xe s
def zQJ (X:Cx) (r:V→Hp→(Bool→Hp→Prop)→Prop):Prop :=
 ∀ (pins:List (Addr×Obj)) (s:Shared) (σ:St) (H:Hp) (x:V) (v:Value) (Q:Bool→Hp→Prop),Inv X pins σ H s→jX x v→r x H Q →
  wpAny (model X.prog X.w) X.A (truthy v) (TP X pins σ Q) X.xe s
def tOp (r:R2) (ta tb:TE):TE:=fun σ H Q=>ta σ H fun x H1=>tb σ H1 fun y H2=>r x y H2 Q
def tUn (r:V→Hp→VK→Prop) (ta:TE):TE:=fun σ H Q=>ta σ H fun x H1=>r x H1 Q
def rI (C:Int→Int→Prop) (g:Int→Int→V):R2:=fun x y H Q=>∃ i j,x = .int i∧y = .int j∧C i j∧Q (g i j) H
def rI0 (g:Int→Int→V):R2:=fun x y H Q=>∃ i j,x = .int i∧y = .int j∧Q (g i j) H
def rU (g:Int→V):V→Hp→VK→Prop:=fun x H Q=>∃ i,x = .int i∧Q (g i) H
section
variable {X:Cx}{a b c:Expr}{ta tb tc:TE}{pos:Pos}
theorem zPR (ha:PE X a ta) (hb:PE X b tb){pins:List (Addr×Obj)}{s:Shared}{σ:St}{H:Hp}{R:V→V→Hp→Prop}(I:Inv X pins σ H s)
  (h:ta σ H fun x H1=>tb σ H1 fun y H2=>R x y H2){Q:Value→Shared→Prop}{f:Value→Value→Sem Value}
  (hf:∀ v u s2 x y H2,Inv X pins σ H2 s2→jX x v→jX y u→R x y H2→wpAny (model X.prog X.w) X.A (f v u) Q X.xe s2) :
  wpAny (model X.prog X.w) X.A (eval a X.env) (fun v s₁=>wpAny (model X.prog X.w) X.A (eval b X.env) (fun u s₂=>wpAny (model X.prog X.w) X.A (f v u) Q X.xe s₂) X.xe s₁) X.xe s:=by
 refine thn (ha pins s σ H _ I h) fun v s1 ⟨x,H1,I1,r1,q1⟩=>?_;refine thn (hb pins s1 σ H1 _ I1 q1) fun u s2 ⟨y,H2,I2,r2,q2⟩=>?_;exact hf v u s2 x y H2 I2 r1 r2 q2
theorem jI {op:Operator}{r:R2}(ho:OpR X (binaryOp op) r) (ha:PE X a ta) (hb:PE X b tb):PE X (.BinOp a op b pos) (tOp r ta tb):=by
 intro pins s σ H Q I h;exact wpAny_BinOp (zPR ha hb I h fun v u s2 x y H2 I2 rx ry q=>ho pins s2 σ H2 x y v u Q I2 rx ry q)
theorem zJS {op:UnaryOp}{r:V→Hp→VK→Prop}(ho:UnR X (unaryOp op) r) (ha:PE X a ta):PE X (.UnaryOp op a pos) (tUn r ta):=by
 intro pins s σ H Q I h;exact UnaryOp_ (thn (ha pins s σ H _ I h) fun v s1 ⟨x,H1,I1,r1,q1⟩=>ho pins s1 σ H1 x v Q I1 r1 q1)
theorem opI {f:Value→Value→Sem Value}{C:Int→Int→Prop}{g:Int→Int→Int}
  (rule:∀ (i j:Int) (t u:Tok) (s:Shared) (Q:Value→Shared→Prop) (E:Value→Shared→Prop),C i j→Q (.int (g i j) s.toks) { s with toks:=s.toks+1 }→wpAny (model X.prog X.w) X.A (f (.int i t) (.int j u)) Q E s) :
  OpR X f (rI C fun i j => .int (g i j)):=by
 intro pins s σ H x y v u Q I rx ry h;obtain⟨i,j,rfl,rfl,hc,q⟩:=h;obtain⟨t,rfl⟩:=rx;obtain⟨t',rfl⟩:=ry;exact rule i j t t' s _ _ hc ⟨.int (g i j),H,I.tok _,⟨_,rfl⟩,q⟩
theorem zPx {f:Value→Value→Sem Value}{g:Int→Int→Int}
  (rule:∀ (i j:Int) (t u:Tok) (s:Shared) (Q:Value→Shared→Prop) (E:Value→Shared→Prop),Q (.int (g i j) s.toks) { s with toks:=s.toks+1 }→wpAny (model X.prog X.w) X.A (f (.int i t) (.int j u)) Q E s) :
  OpR X f (rI0 fun i j => .int (g i j)):=by
 intro pins s σ H x y v u Q I rx ry h;obtain⟨i,j,rfl,rfl,q⟩:=h;obtain⟨t,rfl⟩:=rx;obtain⟨t',rfl⟩:=ry;exact rule i j t t' s _ _ ⟨.int (g i j),H,I.tok _,⟨_,rfl⟩,q⟩
theorem zPE {f:Value→Value→Sem Value}{g:Int→Int→Bool}
  (rule:∀ (i j:Int) (t u:Tok) (s:Shared) (Q:Value→Shared→Prop) (E:Value→Shared→Prop),Q (.bool (g i j)) s→wpAny (model X.prog X.w) X.A (f (.int i t) (.int j u)) Q E s) :
  OpR X f (rI0 fun i j => .bl (g i j)):=by
 intro pins s σ H x y v u Q I rx ry h;obtain⟨i,j,rfl,rfl,q⟩:=h;obtain⟨t,rfl⟩:=rx;obtain⟨t',rfl⟩:=ry;exact rule i j t t' s _ _ ⟨.bl (g i j),H,I,rfl,q⟩
def zPS (i j:Int):Prop:=(-(2 ^ 64)<i∧i<2 ^ 64)∨(-(2 ^ 64)<j∧j<2 ^ 64)
theorem zPS.ok {i j:Int}(h:zPS i j):IntMulOk i j:=by
 rcases h with ⟨h1,h2⟩ | ⟨h1,h2⟩
 ·exact .of_left (intBits_le_64 h1 h2)
 ·exact .of_right (intBits_le_64 h1 h2)
theorem zCM:OpR X (binaryOp .Add) (rI0 fun i j => .int (i+j)):=zPx fun _ _ _ _ _ _ _ q=>add_int q
theorem zCN:OpR X (binaryOp .Sub) (rI0 fun i j => .int (i-j)):=zPx fun _ _ _ _ _ _ _ q=>sub_int q
theorem zOM:OpR X (binaryOp .Mod) (rI (fun _ j=>0<j) fun i j => .int (i % j)):=opI fun i j _ _ _ _ _ hc q=>by
 have h1:(0:Int)<j:=hc;exact mod_int' (by omega) (by rw [Int.fmod_eq_emod_of_nonneg i (by omega)];exact q)
theorem unI {f:Value→Sem Value}{g:Int→Int}
  (rule:∀ (i:Int) (t:Tok) (s:Shared) (Q:Value→Shared→Prop) (E:Value→Shared→Prop),Q (.int (g i) s.toks) { s with toks:=s.toks+1 }→wpAny (model X.prog X.w) X.A (f (.int i t)) Q E s) :
  UnR X f (rU fun i => .int (g i)):=by
 intro pins s σ H x v Q I rx h;obtain⟨i,rfl,q⟩:=h;obtain⟨t,rfl⟩:=rx;exact rule i t s _ _ ⟨.int (g i),H,I.tok _,⟨_,rfl⟩,q⟩
theorem zFQ:UnR X (unaryOp .USub) (rU fun i => .int (-i)):=unI fun _ _ _ _ _ q=>neg_int q
end
def zPy:V→V→Bool
 | .non,.non=>true | .non,.int _=>true | .int _,.non=>true | .non,.bl _=>true | .bl _,.non=>true | .non,.str _=>true | .str _,.non=>true
 | .int _,.int _=>true | .bl _,.bl _=>true | .str _,.str _=>true | .byt _,.byt _=>true
 | .int _,.str _=>true | .str _,.int _=>true | .bl _,.str _=>true | .str _,.bl _=>true
 | _,_=>false
def rEq:R2:=fun x y H Q=>zPy x y=true∧Q (.bl (decide (x=y))) H
def rNe:R2:=fun x y H Q=>zPy x y=true∧Q (.bl (!decide (x=y))) H
theorem zJT {i j:Int}:decide (V.int i=V.int j)=(i==j):=by
 rw [Bool.eq_iff_iff];simp
theorem zMA {i j:Bool}:decide (V.bl i=V.bl j)=(i==j):=by
 rw [Bool.eq_iff_iff];simp
theorem zJU {i j:Str}:decide (V.str i=V.str j)=(i==j):=by
 rw [Bool.eq_iff_iff];simp
theorem zJV {i j:Array UInt8}:decide (V.byt i=V.byt j)=(i.toList==j.toList):=by
 rw [Bool.eq_iff_iff]
 cases i
 cases j
 simp
section
variable {X:Cx}{a b c:Expr}{ta tb tc:TE}{pos:Pos}
theorem jU {pins:List (Addr×Obj)}{σ:St}{H:Hp}{s:Shared}{Q:VK}{k k':Bool}(I:Inv X pins σ H s) (q:Q (.bl k) H) (e:k=k'):EP X pins σ Q (.bool k') s:=by
 subst e;exact⟨.bl k,H,I,rfl,q⟩
theorem zGa:OpR X (compareOp .Eq) rEq:=by
 intro pins s σ H x y v u Q I rx ry h;obtain⟨hs,q⟩:=h
 cases x with
 | non =>
  cases rx
  cases y with
  | non=>cases ry;exact PySem.EqNone.eq_none_none (jU I q (by simp))
  | bl j=>cases ry;exact PySem.EqNone.eq_none_bool (jU I q (by simp))
  | int j=>obtain⟨t',rfl⟩:=ry;exact PySem.EqNone.eq_none_int (jU I q (by simp))
  | str j=>obtain⟨t',rfl⟩:=ry;exact PySem.EqNone.eq_none_str (jU I q (by simp))
  | _=>exact absurd (show false=true from hs) Bool.false_ne_true
 | bl i =>
  cases rx
  cases y with
  | non=>cases ry;exact PySem.EqNone.eq_bool_none (jU I q (by simp))
  | bl j=>cases ry;exact eq_bool (jU I q zMA)
  | str j=>obtain⟨t',rfl⟩:=ry;exact PySem.EqMixed.eq_bool_str (jU I q (by simp))
  | _=>exact absurd (show false=true from hs) Bool.false_ne_true
 | int i =>
  obtain⟨t,rfl⟩:=rx
  cases y with
  | non=>cases ry;exact PySem.EqNone.eq_int_none (jU I q (by simp))
  | int j=>obtain⟨t',rfl⟩:=ry;exact eq_int (jU I q zJT)
  | str j=>obtain⟨t',rfl⟩:=ry;exact PySem.EqMixed.eq_int_str (jU I q (by simp))
  | _=>exact absurd (show false=true from hs) Bool.false_ne_true
 | str i =>
  obtain⟨t,rfl⟩:=rx
  cases y with
  | non=>cases ry;exact PySem.EqNone.eq_str_none (jU I q (by simp))
  | bl j=>cases ry;exact PySem.EqMixed.eq_str_bool (jU I q (by simp))
  | int j=>obtain⟨t',rfl⟩:=ry;exact PySem.EqMixed.eq_str_int (jU I q (by simp))
  | str j=>obtain⟨t',rfl⟩:=ry;exact eq_str (jU I q zJU)
  | _=>exact absurd (show false=true from hs) Bool.false_ne_true
 | byt i =>
  obtain⟨t,rfl⟩:=rx
  cases y with
  | byt j=>obtain⟨t',rfl⟩:=ry;exact W.eq_bytes (jU I q zJV)
  | _=>exact absurd (show false=true from hs) Bool.false_ne_true
 | _=>cases y<;>exact absurd (show false=true from hs) Bool.false_ne_true
theorem zON:OpR X (compareOp .NotEq) rNe:=by
 intro pins s σ H x y v u Q I rx ry h;obtain⟨hs,q⟩:=h
 cases x with
 | non =>
  cases rx
  cases y with
  | non=>cases ry;exact PySem.EqNone.ne_none_none (jU I q (by simp))
  | bl j=>cases ry;exact PySem.EqNone.ne_none_bool (jU I q (by simp))
  | int j=>obtain⟨t',rfl⟩:=ry;exact PySem.EqNone.ne_none_int (jU I q (by simp))
  | str j=>obtain⟨t',rfl⟩:=ry;exact PySem.EqNone.ne_none_str (jU I q (by simp))
  | _=>exact absurd (show false=true from hs) Bool.false_ne_true
 | bl i =>
  cases rx
  cases y with
  | non=>cases ry;exact PySem.EqNone.ne_bool_none (jU I q (by simp))
  | bl j=>cases ry;exact ne_bool (jU I q (congrArg not zMA))
  | str j=>obtain⟨t',rfl⟩:=ry;exact PySem.EqMixed.ne_bool_str (jU I q (by simp))
  | _=>exact absurd (show false=true from hs) Bool.false_ne_true
 | int i =>
  obtain⟨t,rfl⟩:=rx
  cases y with
  | non=>cases ry;exact PySem.EqNone.ne_int_none (jU I q (by simp))
  | int j=>obtain⟨t',rfl⟩:=ry;exact ne_int (jU I q (congrArg not zJT))
  | str j=>obtain⟨t',rfl⟩:=ry;exact PySem.EqMixed.ne_int_str (jU I q (by simp))
  | _=>exact absurd (show false=true from hs) Bool.false_ne_true
 | str i =>
  obtain⟨t,rfl⟩:=rx
  cases y with
  | non=>cases ry;exact PySem.EqNone.ne_str_none (jU I q (by simp))
  | bl j=>cases ry;exact PySem.EqMixed.ne_str_bool (jU I q (by simp))
  | int j=>obtain⟨t',rfl⟩:=ry;exact PySem.EqMixed.ne_str_int (jU I q (by simp))
  | str j=>obtain⟨t',rfl⟩:=ry;exact ne_str (jU I q (congrArg not zJU))
  | _=>exact absurd (show false=true from hs) Bool.false_ne_true
 | byt i =>
  obtain⟨t,rfl⟩:=rx
  cases y with
  | byt j=>obtain⟨t',rfl⟩:=ry;exact W.ne_bytes (jU I q (congrArg not zJV))
  | _=>exact absurd (show false=true from hs) Bool.false_ne_true
 | _=>cases y<;>exact absurd (show false=true from hs) Bool.false_ne_true
theorem zIR:OpR X (compareOp .Lt) (rI0 fun i j => .bl (decide (i<j))):=zPE fun _ _ _ _ _ _ _ q=>lt_int q
theorem zPT:OpR X (compareOp .LtE) (rI0 fun i j => .bl (decide (i≤j))):=zPE fun _ _ _ _ _ _ _ q=>le_int q
theorem zFR:OpR X (compareOp .Gt) (rI0 fun i j => .bl (decide (j<i))):=zPE fun _ _ _ _ _ _ _ q=>gt_int q
theorem zPU:OpR X (compareOp .GtE) (rI0 fun i j => .bl (decide (j≤i))):=zPE fun _ _ _ _ _ _ _ q=>ge_int q
theorem jc (b:Expr){op:CmpOp}(h:op ≠ .In:=by decide) (h2:op ≠ .NotIn:=by decide):behindInMarks op b=false:=by
 have e1:(op==CmpOp.In)=false:=by cases op<;>first | rfl | exact absurd rfl h
 have e2:(op==CmpOp.NotIn)=false:=by cases op<;>first | rfl | exact absurd rfl h2
 cases b<;>simp [behindInMarks,e1,e2]
theorem yJ {op:CmpOp}{r:R2}(ho:OpR X (compareOp op) r) (ha:PE X a ta) (hb:PE X b tb) (hm:behindInMarks op b=false):PE X (.Compare a [op] [b] pos) (tOp r ta tb):=by
 intro pins s σ H Q I h;exact wpAny_Compare1 (zPR ha hb I h fun v u s2 x y H2 I2 rx ry q=>ho pins s2 σ H2 x y v u Q I2 rx ry q) hm
def zPV (t:TE):TT:=fun σ H Q=>t σ H fun x H'=>∃ k,x = .bl k∧Q k H'
theorem jl {op:CmpOp}{r:R2}(ho:OpR X (compareOp op) r) (ha:PE X a ta) (hb:PE X b tb) (hm:behindInMarks op b=false):PT X (.Compare a [op] [b] pos) (zPV (tOp r ta tb)):=by
 intro pins s σ H Q I h
 refine wpAny_isTrue_Compare1 (thn (ha pins s σ H _ I h) fun v s1 ⟨x,H1,I1,r1,q1⟩=>thn (hb pins s1 σ H1 _ I1 q1) fun u s2 ⟨y,H2,I2,r2,q2⟩ =>
  thn (ho pins s2 σ H2 x y v u _ I2 r1 r2 q2) fun c s3 ⟨z,H3,I3,r3,k,e,q3⟩=>?_) hm
 subst e
 cases r3
 exact wpAny_truthy_bool ⟨H3,I3,q3⟩
def zPW (K:W.Frag) (x:V) (H:Hp) (k:Bool):Prop :=
 match x with
 | .non=>k=false
 | .bl b=>k=b
 | .int i=>k=(i != 0)
 | .str y=>y.length≤sizeLine∧k=((y.length:Int) != 0)
 | .byt y=>y.size≤sizeLine∧k=((y.size:Int) != 0)
 | .ref p=>(∃ xs,SqL K H p xs∧k=!xs.isEmpty)∨(∃ xs,SqT K H p xs∧k=!xs.isEmpty)∨∃ kvs,H p=some (.dK kvs)∧k=!kvs.isEmpty
 | _=>False
theorem zIS {κ:Type}{kvs:List (κ×V)}{vs:List (κ×Value)}(r:KV kvs vs):(!vs.isEmpty)=!kvs.isEmpty:=by
 cases r<;>rfl
theorem zDp {xs:List V}{its:List Value}(r:zt xs its):(!its.toArray.isEmpty)=!xs.isEmpty:=by
 cases r<;>simp
theorem zCO:(sizeLine:Nat)<2 ^ 63:=by rw [sizeLine_eq];decide
theorem zOO:zQJ X (fun x H Q=>∃ k,zPW X.K x H k∧Q k H):=by
 intro pins s σ H x v Q I rx h;obtain⟨k,e,q⟩:=h;have hl:=zCO;have hs:sizeLine=16777216:=sizeLine_eq
 cases x with
 | non =>
  cases rx
  have e':k=false:=e;subst e';exact truthy_none ⟨H,I,q⟩
 | bl b =>
  cases rx
  have e':k=b:=e;subst e';exact wpAny_truthy_bool ⟨H,I,q⟩
 | int i =>
  obtain⟨t,rfl⟩:=rx;have e':k=(i != 0):=e;subst e';exact PySem.P.truthy_int ⟨H,I,q⟩
 | str y =>
  obtain⟨t,rfl⟩:=rx;obtain⟨hy,e'⟩:y.length≤sizeLine∧k=((y.length:Int) != 0):=e;subst e';exact PySem.P.truthy_str (by omega) ⟨H,I.tok _,q⟩
 | byt y =>
  obtain⟨t,rfl⟩:=rx;obtain⟨hy,e'⟩:y.size≤sizeLine∧k=((y.size:Int) != 0):=e;subst e';exact W.truthy_bytes (by omega) ⟨H,I.tok _,q⟩
 | ref p =>
  cases rx
  have e':(∃ xs,SqL X.K H p xs∧k=!xs.isEmpty)∨(∃ xs,SqT X.K H p xs∧k=!xs.isEmpty)∨∃ kvs,H p=some (.dK kvs)∧k=!kvs.isEmpty:=e
  rcases e' with ⟨xs,hx,e'⟩ | ⟨xs,hx,e'⟩ | ⟨kvs,hx,e'⟩
  ·subst e';obtain⟨its,r,pl,hz⟩:=I.list hx;have hlen:=r.length;exact wpAny_truthy_list pl.isList (by simp only [size_toArray];omega) ⟨H,I.tok _,by rw [zDp r];exact q⟩
  ·subst e';obtain⟨its,r,pl,hz⟩:=I.tuple hx;have hlen:=r.length;exact truthy_tuple pl (by simp only [size_toArray];omega) ⟨H,I.tok _,by rw [zDp r];exact q⟩
  ·subst e';obtain⟨hz,hS,vs,r,m⟩:kvs.length≤sizeLine∧(p==sysModules)=false∧∃ vs,KV kvs vs∧s.heap.DictOf (jE X.prog X.w) p vs:=I.hok p _ hx;have hlen:kvs.length=vs.length:=Paired.length r;exact wpAny_truthy_dict hS m (by omega) ⟨H,I.tok _,by rw [zIS r];exact q⟩
 | _=>exact(show False from e).elim
theorem vU (ha:PE X a ta) (he:∀ whole,isTrue a X.env whole=(do let v ← whole;standAt a.pos;holding [v] (truthy v))) :
  PT X a (fun σ H Q=>ta σ H fun x H'=>∃ k,zPW X.K x H' k∧Q k H'):=by
 intro pins s σ H Q I h;exact isTrue_plain (thn (ha pins s σ H _ I h) fun v s1 ⟨x,H1,I1,r1,q1⟩=>zOO pins s1 σ H1 x v Q I1 r1 q1) (he _)
theorem zLC {x:V}{us:List Value}(r:zt [x] us):∃ u,us=[u]∧jX x u:=by
 cases r with
 | cons r1 r2=>cases r2;exact⟨_,rfl,r1⟩
theorem zOP {x y:V}{us:List Value}(r:zt [x,y] us):∃ u w',us=[u,w']∧jX x u∧jX y w':=by
 cases r with
 | cons r1 r2 =>
  cases r2 with
  | cons r3 r4=>cases r4;exact⟨_,_,rfl,r1,r3⟩
theorem zLD:zBm X (.builtin "abs") (fun xs H Q=>∃ i,xs=[.int i]∧Q (.int (if i<0 then -i else i)) H):=by
 intro pins s σ H xs us Q I r h;obtain⟨i,rfl,q⟩:=h;obtain⟨u,rfl,t,rfl⟩:=zLC r;exact call_abs_int fun u tk=>⟨.int (if i<0 then -i else i),H,I.tok _,⟨_,rfl⟩,q⟩
theorem zJW (hc:X.calm=true):zBm X (.builtin "max") (fun xs H Q=>∃ i j,xs=[.int i,.int j]∧Q (.int (if j>i then j else i)) H):=by
 intro pins s σ H xs us Q I r h;obtain⟨i,j,rfl,q⟩:=h;obtain⟨u,w',rfl,⟨t,rfl⟩,⟨t',rfl⟩⟩:=zOP r;refine max_two_ints (I.ok.hd hc) fun h' tk k=>⟨_,H,I.kept k,?_,q⟩;by_cases hj:j>i
 ·rw [if_pos hj,if_pos hj];exact⟨_,rfl⟩
 ·rw [if_neg hj,if_neg hj];exact⟨_,rfl⟩
theorem zJX (hc:X.calm=true):zBm X (.builtin "min") (fun xs H Q=>∃ i j,xs=[.int i,.int j]∧Q (.int (if j<i then j else i)) H):=by
 intro pins s σ H xs us Q I r h;obtain⟨i,j,rfl,q⟩:=h;obtain⟨u,w',rfl,⟨t,rfl⟩,⟨t',rfl⟩⟩:=zOP r;refine min_two_ints (I.ok.hd hc) fun h' tk k=>⟨_,H,I.kept k,?_,q⟩;by_cases hj:j<i
 ·rw [if_pos hj,if_pos hj];exact⟨_,rfl⟩
 ·rw [if_neg hj,if_neg hj];exact⟨_,rfl⟩
end
end L2
namespace L2
open PySem PySem.Spec PyProof.Rows
structure zMw (h:Heap) (x dx C:Addr) (mA:Str→Option Value):Prop where
 obj:h.get? x=some (W.instObj C dx)
 ns:h.Ns1 dx mA
 ne:dx≠x
theorem zJY {h:Heap}{dx:Addr}{mA:Str→Option Value}(n:h.Ns1 dx mA):∃ od,h.get? dx=some od∧∀ name,W.lookIn name od=some (mA name):=by
 obtain⟨o,es,ep,ho,hd,hk,_,hm⟩:=n;refine⟨o,ho,fun name=>?_⟩;have e:=hm name;unfold nsFind findBy at e;rw [← Array.find?_toList] at e;unfold W.lookIn;rw [hd];dsimp only;split
 ·rename_i y q;rw [q] at e;exact congrArg some e
 ·rename_i q;rw [q] at e
  have a:es.toList.any (·.refKey)=false:=by
   rw [List.any_eq_false];intro y hy;obtain⟨z,t,hkey⟩:=hk y (Array.mem_toList_iff.mp hy);simp [DictEntry.refKey,hkey]
  have a':¬ es.toList.any (·.refKey)=true:=by rw [a];exact Bool.false_ne_true
  rw [if_neg a'];exact congrArg some e
theorem zMw.look {h:Heap}{x dx C:Addr}{mA:Str→Option Value}(I:zMw h x dx C mA):∃ od,W.InstAt h x (W.instObj C dx) C (some od)∧∀ name,W.lookIn name od=some (mA name) :=
 let ⟨od,ho,hl⟩:=zJY I.ns
 ⟨od,⟨I.obj,rfl,rfl,ho⟩,hl⟩
section
variable {prog:Program}{w:World}{A:Around}{E:Value→Shared→Prop}{s:Shared}{K:W.Frag}{x dx C f:Addr}{mA:Str→Option Value}{name:Str}{v:Value}
theorem zMx {expr:Bool}{Q:Value→Shared→Prop}(X:K.In s.heap) (I:zMw s.heap x dx C mA) (hg:W.plainGet K C name=true) (hh:W.hasDictIn K C=true)
  (ha:W.findIn K (.ref C) name=some none) (hv:mA name=some v) (hv':W.handedIn v=true) (h:Q v { s with toks:=s.toks+1 }) :
  wpAny (model prog w) A (getAttr (.ref x) name expr) Q E s:=by
 obtain⟨od,J,hl⟩:=I.look;exact W.get_value X J (W.plainGet_of hg).1 (W.findObj_own hh ha rfl (by rw [hl,hv])) hv' h
theorem zLE {pl:Sem Bool}{Q:Value×List Value→Shared→Prop}(X:K.In s.heap) (I:zMw s.heap x dx C mA) (hg:W.plainGet K C name=true)
  (hf:W.findIn K (.ref C) name=some (some (.ref f))) (ht:W.isFn K (.ref f)=true) (hv:mA name=none) (h:Q (.ref f,[.ref x]) s) :
  wpAny (model prog w) A (getMethod (.ref x) name pl) Q E s:=by
 obtain⟨od,J,hl⟩:=I.look;exact W.method_fn X J (W.plainGet_of hg).1 (W.plainGet_of hg).2 hf (beq_iff_eq.mp ht) (by show(W.lookIn name od).map (·.isSome)=some false;rw [hl,hv];rfl) h
theorem zMy {ns:List Str}{Q:Unit→Shared→Prop}(X:K.In s.heap) (I:zMw s.heap x dx C mA)
  (hs:W.findIn K (.ref C) "__setattr__"=some (some (.builtin "object.__setattr__"))) (hp:W.plainOver K C=true) (ht:W.takerIn K C name=some none) (hh:W.hasDictIn K C=true)
  (hw:PySem.Within mA ns) (hsz:ns.length≤sizeLine)
  (h:∀ h',zMw h' x dx C (fun y=>if y=name then some v else mA y)→Heap.SameBut dx s.heap h'→Q () { s with heap:=h',toks:=s.toks+2 }) :
  wpAny (model prog w) A (setAttr (.ref x) name v) Q E s:=by
 obtain⟨od,J,hl⟩:=I.look;refine W.set_plain X J hs (W.osa_open (s:={ s with toks:=s.toks+1 }) (r:=none) X J hp ht fun b=>?_);obtain⟨cd,hc,hd'⟩:=W.any_some hh;have hx:s.heap.get? x=some ⟨.ref C,some dx,.plain,#[]⟩:=I.obj;refine wpAny_bind (wpAny_pure (wpAny_bind (wpAny_bind (wpAny_loadPart hx (wpAny_bind (W.Looks.here (s:={ s with toks:=s.toks+1 }) (W.looks_clsIn X hc) ?_))))));rw [hd'];refine wpAny_pure (a:=some dx) (wpAny_bind (wpAny_pure (wpAny_bind ?_)));refine wpAny_nsSet1 (s:={ s with toks:=s.toks+1 }) I.ns fun h' hn2 hs2=>?_;obtain⟨oD,esD,epD,hoD,hdD,hcD⟩:=hn2.count (PySem.Within.cons name v hw);refine wpAny_bind (wpAny_lookBehind hoD (by rw [hdD];exact pastItsLine_dict (le_trans hcD (by rw [length_cons];omega))) ?_);exact wpAny_pure (h _ ⟨(hs2.2 _ (Ne.symm I.ne)).trans I.obj,hn2,I.ne⟩ hs2)
theorem zLF {R:Result→Shared→Prop}{vs:List Value}{kw:List (Str×Value)}(X:K.In s.heap) (hm:W.makesIn K C=true)
  (hi:W.findIn K (.ref C) "__init__"=some (some (.ref f))) (hf:W.typeIn K (.ref f)=some (.type "function"))
  (h:codeAny (model prog w) (A.under (.builtin "type.__call__" ⟨.ref C::vs,kw⟩)) (.call (.ref f) ⟨.ref (s.heap.objs.size+1)::vs,kw⟩) (W.InitBack (s.heap.objs.size+1) R)
   { s with heap:=(s.heap.push W.emptyDict).push (W.instObj C s.heap.objs.size) }) :
  codeAny (model prog w) A (.call (.ref C) ⟨vs,kw⟩) R s:=by
 obtain⟨hh,g,d,t,os⟩:=s;exact W.make_core (W.makes_of X hm) (W.looks_findIn X hi) (fun self=>W.bind_fn X self hf) (.inl rfl) h
end
def jx (f:Str) (v:V):List (Str×V)→List (Str×V)
 | []=>[(f,v)]
 | (g,x)::r=>if g=f then(g,v)::r else(g,x)::jx f v r
theorem zCP (f g:Str) (v:V):∀ fs:List (Str×V),(jx f v fs).lookup g=if g=f then some v else fs.lookup g
 | []=>by
  show List.lookup g [(f,v)]=_;by_cases h:g=f
  ·have hb:(g==f)=true:=beq_iff_eq.mpr h;simp only [List.lookup,hb,if_pos h]
  ·have hb:(g==f)=false:=beq_eq_false_iff_ne.mpr h;simp only [List.lookup,hb,if_neg h]
 | (k,x)::r=>by
  have ih:=zCP f g v r;rw [show jx f v ((k,x)::r)=(if k=f then(k,v)::r else(k,x)::jx f v r) from rfl];by_cases hk:k=f
  ·rw [if_pos hk];by_cases h:g=k
   ·have hb:(g==k)=true:=beq_iff_eq.mpr h;simp only [List.lookup,hb,if_pos (h.trans hk)]
   ·have hb:(g==k)=false:=beq_eq_false_iff_ne.mpr h;simp only [List.lookup,hb,if_neg (fun e:g=f=>h (e.trans hk.symm))]
  ·rw [if_neg hk];by_cases h:g=k
   ·have hb:(g==k)=true:=beq_iff_eq.mpr h;simp only [List.lookup,hb,if_neg (fun e:g=f=>hk (h.symm.trans e))]
   ·have hb:(g==k)=false:=beq_eq_false_iff_ne.mpr h;simp only [List.lookup,hb];exact ih
theorem zCQ (f:Str) (v:V):∀ fs:List (Str×V),f∈(jx f v fs).map (·.1)∧∀ g,g∈fs.map (·.1)→g∈(jx f v fs).map (·.1)
 | []=>⟨by simp [jx],fun g h=>by simp at h⟩
 | (k,x)::r=>by
  obtain⟨i1,i2⟩:=zCQ f v r;rw [show jx f v ((k,x)::r)=(if k=f then(k,v)::r else(k,x)::jx f v r) from rfl];by_cases hk:k=f
  ·rw [if_pos hk];subst hk;exact⟨by simp,fun g h=>by simpa using h⟩
  ·rw [if_neg hk];refine⟨?_,fun g h=>?_⟩
   ·rw [map_cons];exact mem_cons_of_mem _ i1
   ·rw [map_cons] at h ⊢
    rcases List.mem_cons.mp h with e | e
    ·exact List.mem_cons.mpr (.inl e)
    ·exact mem_cons_of_mem _ (i2 g e)
theorem zCR (f:Str) (v:V):∀ fs:List (Str×V),(jx f v fs).length≤fs.length+1
 | []=>by simp [jx]
 | (k,x)::r=>by
  have ih:=zCR f v r;rw [show jx f v ((k,x)::r)=(if k=f then(k,v)::r else(k,x)::jx f v r) from rfl];by_cases hk:k=f
  ·rw [if_pos hk,length_cons,length_cons];omega
  ·rw [if_neg hk,length_cons,length_cons];omega
theorem zDn.some_of {v:V}{o:Option Value}(r:zDn (some v) o):∃ u,o=some u∧jX v u:=by
 cases o with
 | none=>exact(show False from r).elim
 | some u=>exact⟨u,rfl,r⟩
theorem zDn.none_of {o:Option Value}(r:zDn none o):o=none:=by
 cases o with
 | none=>rfl
 | some u=>exact(show False from r).elim
theorem zJZ {v:V}{u:Value}(r:jX v u):W.handedIn u=true:=by
 cases v with
 | non=>cases (show u=Value.none from r);rfl
 | bl b=>cases (show u=Value.bool b from r);rfl
 | int i=>obtain⟨t,e⟩:=(show ∃ t,u=Value.int i t from r);cases e;rfl
 | str x=>obtain⟨t,e⟩:=(show ∃ t,u=Value.str x t from r);cases e;rfl
 | byt b=>obtain⟨t,e⟩:=(show ∃ t,u=Value.bytes b t from r);cases e;rfl
 | flt b=>obtain⟨t,e⟩:=(show ∃ t,u=Value.float b t from r);cases e;rfl
 | ref a=>cases (show u=Value.ref a from r);rfl
 | ty n=>cases (show u=Value.type n from r);rfl
section
variable {P:Program}{w:World}{H H':Hp}{h h':Heap}{a C dx:Addr}{fs fs':List (Str×V)}
theorem zGb (hok:HOk P w H h) (e:H a=some (.ins C dx fs)):∃ mA,zMw h a dx C mA∧(∀ f,zDn (fs.lookup f) (mA f))∧PySem.Within mA (fs.map (·.1))∧fs.length≤1000∧H dx=some (.own a):=by
 obtain⟨d,z,ne,ob,mA,n,r,q⟩:=(show kT P w H h a (.ins C dx fs) from hok a _ e);exact⟨mA,⟨ob,n,ne⟩,r,q,z,d⟩
end
structure Cls (K:W.Frag) (C:Addr):Prop where
 pg:W.plainGet K C Str.empty=true
 hd:W.hasDictIn K C=true
 po:W.plainOver K C=true
 sa:W.findIn K (.ref C) "__setattr__"=some (some (.builtin "object.__setattr__"))
theorem Cls.get {K:W.Frag}{C:Addr}(c:Cls K C) (f:Str):W.plainGet K C f=true:=c.pg
def zZ (K:W.Frag) (C:Addr) (f:Str):Prop:=W.findIn K (.ref C) f=some none
theorem zZ.taker {K:W.Frag}{C:Addr}{f:Str}(n:zZ K C f):W.takerIn K C f=some none:=by
 unfold W.takerIn;rw [show W.findIn K (.ref C) f=some none from n];rfl
structure zOQ (K:W.Frag) (C:Addr) (m:Str) (f:Addr):Prop where
 at_:W.findIn K (.ref C) m=some (some (.ref f))
 fn:W.isFn K (.ref f)=true
 kp:W.keepIn K (.ref f)=true
section
variable {X:Cx}{pins:List (Addr×Obj)}{σ:St}{H:Hp}{s:Shared}{a C dx:Addr}{fs:List (Str×V)}{f:Str}{v:V}{A:Around}{E:Value→Shared→Prop}
theorem zDq {b:Bool}{Q:Value→Shared→Prop}(I:Inv X pins σ H s) (e:H a=some (.ins C dx fs)) (c:Cls X.K C) (n:zZ X.K C f) (l:fs.lookup f=some v)
  (h:∀ u s',Inv X pins σ H s'→jX v u→Q u s'):wpAny (model X.prog X.w) A (getAttr (.ref a) f b) Q E s:=by
 obtain⟨mA,O,r,_,_,_⟩:=zGb I.hok e;obtain⟨u,hu,ru⟩:=zDn.some_of (v:=v) (o:=mA f) (by rw [← l];exact r f);exact zMx I.kIn O (c.get f) c.hd n hu (zJZ ru) (h u _ (I.tok _) ru)
theorem zDr {m:Str}{g:Addr}{pl:Sem Bool}{Q:Value×List Value→Shared→Prop}(I:Inv X pins σ H s) (e:H a=some (.ins C dx fs)) (c:Cls X.K C) (k:zOQ X.K C m g) (l:fs.lookup m=none)
  (h:Q (.ref g,[.ref a]) s):wpAny (model X.prog X.w) A (getMethod (.ref a) m pl) Q E s:=by
 obtain⟨mA,O,r,_,_,_⟩:=zGb I.hok e;have hn:mA m=none:=zDn.none_of (by rw [← l];exact r m);exact zLE I.kIn O (c.get m) k.at_ k.fn hn h
theorem zDs {y:V}{u:Value}{Q:Unit→Shared→Prop}(I:Inv X pins σ H s) (e:H a=some (.ins C dx fs)) (c:Cls X.K C) (n:zZ X.K C f) (hl:fs.length<1000) (ry:jX y u)
  (h:∀ s',Inv X pins σ (upd H a (.ins C dx (jx f y fs))) s'→Q () s'):wpAny (model X.prog X.w) A (setAttr (.ref a) f u) Q E s:=by
 obtain⟨mA,O,r,wi,_,ho⟩:=zGb I.hok e
 have hz:(fs.map (·.1)).length≤sizeLine:=by rw [length_map,sizeLine_eq];omega
 refine zMy I.kIn O c.sa c.po n.taker c.hd wi hz fun h' O' sb=>h _ ?_;have hd:∃ o,h'.get? dx=some o:=let ⟨o,_,_,e',_⟩:=O'.ns;⟨o,e'⟩;refine I.write (x:=a) (e:=dx) (by rw [e];exact True.intro) (.inr ho) (fun b q hb z=>(sb.2 b hb).trans z) hd ?_;refine⟨by rw [zD O.ne];exact ho,?_,O.ne,O'.obj,_,O'.ns,fun g=>?_,fun g hg=>?_⟩
 ·have:=zCR f y fs;omega
 ·show zDn ((jx f y fs).lookup g) (if g=f then some u else mA g);rw [zCP];by_cases q:g=f
  ·rw [if_pos q,if_pos q];exact ry
  ·rw [if_neg q,if_neg q];exact r g
 ·by_cases q:g=f
  ·rw [q];exact(zCQ f y fs).1
  ·refine(zCQ f y fs).2 g (wi g fun z=>hg ?_);show(if g=f then some u else mA g)=none;rw [if_neg q];exact z
theorem Inv.made (I:Inv X pins σ H s):Inv X pins σ (upd (upd H s.heap.objs.size (.own (s.heap.objs.size+1))) (s.heap.objs.size+1) (.ins C s.heap.objs.size []))
  { s with heap:=(s.heap.push W.emptyDict).push (W.instObj C s.heap.objs.size) }:=by
 have e1:(s.heap.push W.emptyDict).get? s.heap.objs.size=some W.emptyDict:=Heap.get?_push_size s.heap rfl
 have e2:((s.heap.push W.emptyDict).push (W.instObj C s.heap.objs.size)).get? (s.heap.objs.size+1)=some (W.instObj C s.heap.objs.size):=by
  have:=Heap.get?_push_size (s.heap.push W.emptyDict) (o:=W.instObj C s.heap.objs.size) rfl
  rwa [Heap.size_push] at this
 have e3:(s.heap.push W.emptyDict).Ns s.heap.objs.size (fun _=>none):=⟨W.emptyDict,#[],_,e1,rfl,(fun e he=>absurd he (by simp)),fun _=>rfl⟩;have I1:=I.laid (a:=s.heap.objs.size) (o := .own (s.heap.objs.size+1)) (h':=s.heap.push W.emptyDict) (t':=s.toks) (fun b u q=>Heap.get?_push_of_some _ q) (le_refl _) ⟨_,e1⟩;refine I1.laid (a:=s.heap.objs.size+1) (o := .ins C s.heap.objs.size []) (t':=s.toks) (fun b u q=>Heap.get?_push_of_some _ q) (le_of_eq (Heap.size_push _ _)) ?_;have ne:s.heap.objs.size≠s.heap.objs.size+1:=ne_of_lt (lt_succ_self _);refine⟨by rw [zD ne,zA],zero_le _,ne,e2,fun _=>none,(Heap.Ns1.of_empty e3).at fun o q=>Heap.get?_push_of_some _ q,fun _=>True.intro,fun y hy=>absurd rfl hy⟩
theorem zMz {prog:Program}{w:World}{env:Env}{e:Expr}{f:Str}{pos:Pos}{s:Shared}{Q:Value→Shared→Prop}(hb:attributeBase e f env (eval e env)=eval e env)
  (h:wpAny (model prog w) A (eval e env) (fun o s₁=>wpAny (model prog w) A (getAttr o f true) Q E s₁) E s):wpAny (model prog w) A (eval (.Attribute e f pos) env) Q E s :=
 Attribute_any_ h (by rw [arm_eval_Attribute,hb])
end
def zQK (K:W.Frag) (ta:TE) (f:Str):TE:=fun σ H Q=>ta σ H fun x H1=>∃ a C dx fs v,x = .ref a∧H1 a=some (.ins C dx fs)∧Cls K C∧zZ K C f∧fs.lookup f=some v∧Q v H1
def zQL (K:W.Frag) (ta tv:TE) (f:Str):TS:=fun D σ H=>tv σ H fun y H1=>ta σ H1 fun x H2=>∃ a C dx fs,x = .ref a∧H2 a=some (.ins C dx fs)∧Cls K C∧zZ K C f∧fs.length<1000 ∧
 D.nx σ (upd H2 a (.ins C dx (jx f y fs)))
def zPz (X:Cx) (op:Operator) (rd:V→V→Hp→VK→Prop):Prop :=
 ∀ (pins:List (Addr×Obj)) (s:Shared) (σ:St) (H:Hp) (x y:V) (u v:Value) (Q:VK),Inv X pins σ H s→jX x u→jX y v→rd x y H Q→wpAny (model X.prog X.w) X.A (inplaceOp op u v) (EP X pins σ Q) X.xe s
def zM0 (K:W.Frag) (ta tv:TE) (rd:V→V→Hp→VK→Prop) (f:Str):TS:=fun D σ H=>ta σ H fun x H1=>∃ a C dx fs v,x = .ref a∧H1 a=some (.ins C dx fs)∧Cls K C∧zZ K C f∧fs.lookup f=some v ∧
 tv σ H1 fun y H2=>rd v y H2 fun z H3=>∃ dx' fs',H3 a=some (.ins C dx' fs')∧fs'.length<1000∧D.nx σ (upd H3 a (.ins C dx' (jx f z fs')))
section
variable {X:Cx}{o e value:Expr}{f:Str}{pos pos' tpos:Pos}{ta tv:TE}
theorem zO (he:PE X e ta) (hb:attributeBase e f X.env (eval e X.env)=eval e X.env):PE X (.Attribute e f pos) (zQK X.K ta f):=by
 intro pins s σ H Q I h;refine zMz hb (thn (he pins s σ H _ I h) fun u s1 ⟨x,H1,I1,rx,a,C,dx,fs,v,ex,ea,c,n,l,q⟩=>?_);subst ex;obtain rfl:u=Value.ref a:=rx;exact zDq I1 ea c n l fun u' s2 I2 ru=>⟨v,H1,I2,ru,q⟩
theorem jV (ha:PE X o ta) (hv:PE X value tv) (hs:swapsWith value (some (.Attribute o f pos')) pos.line X.env=pure false):PS X (.Assign [.Attribute o f pos'] value pos) (zQL X.K ta tv f):=by
 intro pins s σ H D I h;refine plainObj_wpAny_Assign_Attribute (thn (hv pins s σ H _ I h) fun u s1 ⟨y,H1,I1,ry,q⟩=>thn (ha pins s1 σ H1 _ I1 q) fun ov s2 ⟨x,H2,I2,rx,a,C,dx,fs,ex,ea,c,n,l,q2⟩=>?_) hs;subst ex;obtain rfl:ov=Value.ref a:=rx;exact zDs I2 ea c n l ry fun s3 I3=>⟨σ,_,I3,q2⟩
theorem vd {op:Operator}{rd:V→V→Hp→VK→Prop}(ha:PE X o ta) (hv:PE X value tv) (hop:zPz X op rd):PS X (.AugAssign (.Attribute o f tpos) op value pos) (zM0 X.K ta tv rd f):=by
 intro pins s σ H D I h;refine wpAny_AugAssign_AttributeAny (thn (ha pins s σ H _ I h) fun ov s1 ⟨x,H1,I1,rx,a,C,dx,fs,v,ex,ea,c,n,l,q⟩=>?_);subst ex;obtain rfl:ov=Value.ref a:=rx;refine zDq I1 ea c n l fun u s2 I2 ru=>thn (hv pins s2 σ H1 _ I2 q) fun w3 s3 ⟨y,H2,I3,ry,q3⟩=>thn (hop pins s3 σ H2 v y u w3 _ I3 ru ry q3) fun w4 s4 ⟨z,H3,I4,rz,dx',fs',ea',l',q4⟩=>?_;exact zDs I4 ea' c n l' rz fun s5 I5=>⟨σ,_,I5,q4⟩
def zQM:V→V→Hp→VK→Prop:=fun x y H Q=>∃ i j,x = .int i∧y = .int j∧Q (.int (i+j)) H
theorem zCS:zPz X .Add zQM:=by
 rintro pins s σ H x y u v Q I rx ry ⟨i,j,rfl,rfl,q⟩;obtain⟨t,rfl⟩:=(show ∃ t,u=Value.int i t from rx);obtain⟨t',rfl⟩:=(show ∃ t',v=Value.int j t' from ry);exact PyProof.Rows.iadd_int ⟨.int (i+j),H,I.tok _,⟨_,rfl⟩,q⟩
end
section
variable {X:Cx}{pins:List (Addr×Obj)}{σ:St}{H:Hp}{s:Shared}{A:Around}{E:Value→Shared→Prop}{Q:Value→Shared→Prop}{c:Value}{b:Bool}
end
end L2
namespace L2
open PySem PySem.Spec PyProof.Rows
structure wE (k:Nat) (A:Around):Prop where
 hd:A.handled=none
 dp:A.depth+3*k+5<recursionLimit
 un:A.units+16*k+200<cLine
theorem wE.mono {j k:Nat}{A:Around}(r:wE k A) (h:j≤k):wE j A:=⟨r.hd,by have:=r.dp;omega,by have:=r.un;omega⟩
theorem wE.deeper {k:Nat}{A:Around}(r:wE (k+1) A) (env:Env):wE k (A.deeper env) :=
 ⟨r.hd,by have:=r.dp;show A.depth+1+3*k+5<_;omega,by have:=r.un;show A.units+3+16*k+200<_;omega⟩
theorem zIT {A:Around}{C:Addr}{us:List Value}{kw:List (Str×Value)}:(A.under (.builtin "type.__call__" ⟨.ref C::us,kw⟩)).depth=A.depth+1:=by
 first | rfl | simp [Around.under,Code.weight,Code.isCreation,Code.isGuard,Code.isCaller,Code.frames,Code.isFrame,guardIds]
theorem zIU {A:Around}{C:Addr}{us:List Value}{kw:List (Str×Value)}:(A.under (.builtin "type.__call__" ⟨.ref C::us,kw⟩)).units=A.units+1:=by
 first | rfl | simp [Around.under,Code.cUnits,Code.frames,Code.isFrame]
theorem wE.make {k:Nat}{A:Around}(r:wE (k+1) A) (C:Addr) (us:List Value) (kw:List (Str×Value)):wE k (A.under (.builtin "type.__call__" ⟨.ref C::us,kw⟩)) :=
 ⟨r.hd,by have:=r.dp;rw [zIT];omega,by have:=r.un;rw [zIU];omega⟩
theorem wE.depth {k:Nat}{A:Around}(r:wE k A):A.depth<recursionLimit:=by have:=r.dp;omega
theorem wE.units {k:Nat}{A:Around}(r:wE k A):A.units+64<cLine:=by have:=r.un;omega
def zOR:TA:=fun _ H Q=>Q [] H
def zPX (ta:TE) (tr:TA):TA:=fun σ H Q=>ta σ H fun x H1=>tr σ H1 fun xs H2=>Q (x::xs) H2
section
variable {X:Cx}{e:Expr}{es:List Expr}{te:TE}{t:TA}{pos:Pos}
theorem zG:PA X [] zOR:=fun _ _ _ _ H Q I h=>Calls.spliced_nil ⟨[],H,I,.nil,h⟩
theorem zB (ha:PE X e te) (hr:PA X es t) (hs:starEach (e::es) X.env=(false,eval e X.env)::starEach es X.env:=by rfl):PA X (e::es) (zPX te t):=by
 intro pos pins s σ H Q I h;rw [hs];show wpAny _ _ (spliced ((false,eval e X.env)::backTo pos (starEach es X.env))) _ _ s;refine Calls.spliced_cons (thn (ha pins s σ H _ I h) fun u s1 ⟨x,H1,I1,r1,q1⟩=>?_);exact thn (hr pos pins s1 σ H1 _ I1 q1) fun us s2 ⟨xs,H2,I2,r2,q2⟩=>⟨x::xs,H2,I2,.cons r1 r2,q2⟩
def zQN (t:TA):TE:=fun σ H Q=>t σ H fun xs H1=>xs.length≤sizeLine∧∀ p,H1 p=none→Q (.ref p) (upd H1 p (.tup xs))
def zQO (t:TA):TE:=fun σ H Q=>t σ H fun xs H1=>xs.length≤sizeLine∧∀ p,H1 p=none→Q (.ref p) (upd H1 p (.lst xs))
theorem kM {x1}(h:PA X es t):PE X (.Tuple es x1 pos) (zQN t):=by
 intro pins s σ H Q I hq;refine wpAny_Tuple_spliced (thn (h pos pins s σ H _ I hq) fun us s1 ⟨xs,H1,I1,r,z,q⟩=>⟨by rw [← r.length];exact z,?_⟩);have hf:H1 s1.heap.objs.size=none:=I1.hok.fresh (le_refl _);refine⟨.ref s1.heap.objs.size,upd H1 s1.heap.objs.size (.tup xs),I1.laid (t':=s1.toks) (fun b u e=>Heap.get?_push_of_some _ e) (le_refl _) ?_,rfl,q _ hf⟩;exact⟨z,us,r,⟨_,Heap.get?_push_size _ rfl,rfl,_,rfl⟩⟩
theorem jO (h:PA X es t):PE X (.List es pos) (zQO t):=by
 intro pins s σ H Q I hq;refine wpAny_List_spliced (thn (h pos pins s σ H _ I hq) fun us s1 ⟨xs,H1,I1,r,z,q⟩=>⟨by rw [← r.length];exact z,?_⟩);have hf:H1 s1.heap.objs.size=none:=I1.hok.fresh (le_refl _);refine⟨.ref s1.heap.objs.size,upd H1 s1.heap.objs.size (.lst xs),I1.laid (t':=s1.toks) (fun b u e=>Heap.get?_push_of_some _ e) (le_refl _) ?_,rfl,q _ hf⟩;exact⟨z,us,0,r,Heap.get?_push_size _ rfl⟩
end
abbrev Sp:=List V→Hp→VK→XK→Prop
abbrev CXT:=List Env→Hp→Shared→XK→Value→Shared→Prop
structure zM1 (P:Program) (w:World) (K:W.Frag) (mg:Str→Option Value) (base:Heap) (A:Around) (outer:List Env) (s:Shared) (H:Hp):Prop where
 frames:A.frames=some outer
 mod:Mod K mg base
 bs:∀ b o,base.get? b=some o→s.heap.get? b=some o∧H b=none
 bsz:base.objs.size≤s.heap.objs.size
 funs:s.heap.FunFrames base outer
 frf:∀ b∈frs outer,H b=none
 hok:HOk P w H s.heap
 bare:AllBare s.gens
def CE (outer:List Env) (P:Program) (w:World) (H:Hp) (s:Shared) (Q:VK) (u:Value) (s':Shared):Prop :=
 ∃ v H',s'.os=s.os∧AllBare s'.gens∧Un (frs outer) [] H H' s.heap s'.heap∧HOk P w H' s'.heap∧jX v u∧Q v H'
def CR (CX:CXT) (outer:List Env) (P:Program) (w:World) (H:Hp) (s:Shared) (Q:VK) (E:XK) (r:Result) (s':Shared):Prop :=
 match r with
 | .ok (.ret u)=>CE outer P w H s Q u s'
 | .ok _=>False
 | .error e=>CX outer H s E e s'
structure zFS (P:Program) (w:World) (K:W.Frag) (mg:Str→Option Value) (base:Heap) (CX:CXT) (k:Nat) (f:Addr) (fd:FuncData) (ps:List Str) (sp:Sp):Prop where
 len:∀ vs H Q E,sp vs H Q E→vs.length=ps.length
 run:∀ (A:Around) (outer:List Env) (s:Shared) (H:Hp) (args:Args) (us:List Value) (vs:List V) (Q:VK) (E:XK),wE k A→zM1 P w K mg base A outer s H→BindsTo s fd args (ps.zip us)→zt vs us→sp vs H Q E →
  codeAny (model P w) A (.call (.ref f) args) (CR CX outer P w H s Q E) s
theorem zM1.make {P:Program}{w:World}{K:W.Frag}{mg:Str→Option Value}{base:Heap}{A:Around}{outer:List Env}{s:Shared}{H:Hp}(e:zM1 P w K mg base A outer s H) (C:Addr) (us:List Value) (kw:List (Str×Value)) :
  zM1 P w K mg base (A.under (.builtin "type.__call__" ⟨.ref C::us,kw⟩)) outer s H:=⟨by first | exact e.frames | (simpa [Around.under,Code.envs,Code.isFrame,pushEnvs] using e.frames),e.mod,e.bs,e.bsz,e.funs,e.frf,e.hok,e.bare⟩
section
variable {X:Cx}{pins:List (Addr×Obj)}{σ:St}{H:Hp}{s s':Shared}
theorem Inv.env0 (I:Inv X pins σ H s):zM1 X.prog X.w X.K X.mg X.base X.A X.stack s H :=
 ⟨I.ok.frames,I.ok.mod,I.bs,le_trans I.ok.bsz I.sz,I.stack,I.stkFree,I.hok,I.bare⟩
theorem Inv.after {Q:VK}{u:Value}(I:Inv X pins σ H s) (h:CE X.stack X.prog X.w H s Q u s'):EP X pins σ Q u s':=by
 obtain⟨v,H',os,bare,un,hok,r,q⟩:=h;obtain⟨hh,g,d,t,os'⟩:=s';obtain rfl:os'=s.os:=os;exact⟨v,H',I.call (h':=hh) (g':=g) (d':=d) (t':=t) (ch:=[]) un hok bare (fun b z=>absurd z (by simp)),r,q⟩
end
def zOS (sp:Sp) (dvs:List V) (E:XK) (t:TA):TE:=fun σ H Q=>t σ H fun vs H1=>sp (vs++dvs) H1 Q E
def zLG (C:Addr) (m:Str) (sp:Sp) (dvs:List V) (E:XK) (ta:TE) (t:TA):TE:=fun σ H Q=>ta σ H fun x H1=>∃ a dx fs,x = .ref a∧H1 a=some (.ins C dx fs)∧fs.lookup m=none ∧
 t σ H1 fun vs H2=>sp (x::(vs++dvs)) H2 Q E
def zLH (C:Addr) (sp:Sp) (dvs:List V) (E:XK) (t:TA):TE:=fun σ H Q=>t σ H fun vs H1=>∀ x dx,H1 x=none→H1 dx=none→dx≠x →
 sp (.ref x::(vs++dvs)) (upd (upd H1 dx (.own x)) x (.ins C dx [])) (fun v H2=>v = .non∧Q (.ref x) H2) E
def zAT (K:W.Frag) (fd:FuncData) (ps:List Str) (ds:List Value):Prop :=
 ∀ (s:Shared) (us:List Value),K.In s.heap→(us++ds).length=ps.length→BindsTo s fd ⟨us,[]⟩ (ps.zip (us++ds))
theorem zAT.all {K:W.Frag}{fd:FuncData}{ps:List Str}(h:∀ us:List Value,us.length=ps.length→bindArgs fd ⟨us,[]⟩=pure (ps.zip us)):zAT K fd ps []:=fun s us _ hl=>by
 rw [append_nil] at hl ⊢;exact .of_eq (h us hl)
def zBX (CX:CXT) (X:Cx) (E:XK):Prop:=∀ (pins:List (Addr×Obj)) (σ:St) (H:Hp) (s:Shared) (e:Value) (s':Shared),Inv X pins σ H s→CX X.stack H s E e s'→X.xe e s'
section
variable {X:Cx}{CX:CXT}{k:Nat}{f C:Addr}{fd:FuncData}{ps:List Str}{sp:Sp}{dvs:List V}{ds:List Value}{E:XK}{x m:Str}{p pos apos:Pos}{e o:Expr}{es:List Expr}{ta:TE}{t:TA}
theorem zHe {pins:List (Addr×Obj)}{σ:St}{H:Hp}{s:Shared}{Q:VK}{us:List Value}{vs:List V}(F:zFS X.prog X.w X.K X.mg X.base CX k f fd ps sp) (hr:wE k X.A) (hb:zAT X.K fd ps ds) (hd:zt dvs ds) (hx:zBX CX X E)
  (I:Inv X pins σ H s) (r:zt vs us) (h:sp (vs++dvs) H Q E):wpAny (model X.prog X.w) X.A (call (.ref f) us) (EP X pins σ Q) X.xe s:=by
 have r2:zt (vs++dvs) (us++ds):=r.append hd
 have hl:(us++ds).length=ps.length:=by rw [← r2.length];exact F.len _ _ _ _ h
 refine wpAny_call (codeAny_mono (F.run X.A X.stack s H ⟨us,[]⟩ (us++ds) (vs++dvs) Q E hr I.env0 (hb s us I.kIn hl) r2 h) fun r s' hq=>?_)
 cases r with
 | error e=>exact hx pins σ H s e s' I hq
 | ok fl =>
  cases fl with
  | ret u=>exact I.after hq
  | next=>exact False.elim hq
  | brk=>exact False.elim hq
  | cont=>exact False.elim hq
theorem zM2 (F:zFS X.prog X.w X.K X.mg X.base CX k f fd ps sp) (hr:wE k X.A) (hg:Gl X x) (hm:X.mg x=some (.ref f)) (hk:W.keepIn X.K (.ref f)=true) (hb:zAT X.K fd ps ds) (hd:zt dvs ds) (hx:zBX CX X E)
  (ha:PA X (e::es) t) (hdb:(x==("__debug__":Str))=false:=by decide) (he:starEach (e::es) X.env=(false,eval e X.env)::starEach es X.env:=by rfl) (hpl:(backTo pos (starEach es X.env)).any (·.1)=false:=by rfl) :
  PE X (.Call (.Name x p) (e::es) [] pos) (zOS sp dvs E t):=by
 intro pins s σ H Q I h;refine wpAny_Call_Name_kw (zEN I hg hm ?_ hdb);refine W.callWith_K (h₀:=X.base) I.ok.mod.kin hk (thn (ha pos pins s σ H _ I h) fun us s1 ⟨vs,H1,I1,r,q⟩=>⟨I1.kIn,?_⟩) he hpl;exact zHe F hr hb hd hx I1 r q
theorem zM3 {pl:Sem Bool}(he:PE X o ta) (c:Cls X.K C) (hm:zOQ X.K C m f) (F:zFS X.prog X.w X.K X.mg X.base CX k f fd ps sp) (hr:wE k X.A) (hb:zAT X.K fd ps ds) (hd:zt dvs ds) (hx:zBX CX X E) (ha:PA X (e::es) t)
  (hst:starEach (e::es) X.env=(false,eval e X.env)::starEach es X.env:=by rfl) (hpl:(backTo pos (starEach es X.env)).any (·.1)=false:=by rfl)
  (ht:eval (.Call (.Attribute o m apos) (e::es) [] pos) X.env=(do
   let ov ← eval o X.env
   standAt apos.atName
   let (f,first) ← holding [ov] (getMethod ov m pl)
   callWith pos f first (backTo pos (starEach (e::es) X.env)) (backToKw pos (keywordEach [] X.env))):=by rfl) :
  PE X (.Call (.Attribute o m apos) (e::es) [] pos) (zLG C m sp dvs E ta t):=by
 intro pins s σ H Q I h;refine W.methodCall_KW (pl:=pl) (thn (he pins s σ H _ I h) fun u s1 ⟨x,H1,I1,rx,a,dx,fs,ex,ea,l,q⟩=>?_) ht;subst ex;obtain rfl:u=Value.ref a:=rx;refine zDr I1 ea c hm l ?_;refine W.callWith_K (first:=[.ref a]) (h₀:=X.base) I.ok.mod.kin hm.kp (thn (ha pos pins s1 σ H1 _ I1 q) fun us s2 ⟨vs,H2,I2,r,q2⟩=>⟨I2.kIn,?_⟩) hst hpl;exact zHe (us := .ref a::us) (vs := .ref a::vs) F hr hb hd hx I2 (.cons rfl r) q2
theorem zLI {pl:Sem Bool}(he:PE X o ta) (c:Cls X.K C) (hm:zOQ X.K C m f) (F:zFS X.prog X.w X.K X.mg X.base CX k f fd ps sp) (hr:wE k X.A) (hb:zAT X.K fd ps ds) (hd:zt dvs ds) (hx:zBX CX X E)
  (ht:eval (.Call (.Attribute o m apos) [] [] pos) X.env=(do
   let ov ← eval o X.env
   standAt apos.atName
   let (f,first) ← holding [ov] (getMethod ov m pl)
   callWith pos f first (backTo pos (starEach [] X.env)) (backToKw pos (keywordEach [] X.env))):=by rfl) :
  PE X (.Call (.Attribute o m apos) [] [] pos) (zLG C m sp dvs E ta zOR):=by
 intro pins s σ H Q I h;refine W.methodCall_KW (pl:=pl) (thn (he pins s σ H _ I h) fun u s1 ⟨x,H1,I1,rx,a,dx,fs,ex,ea,l,q⟩=>?_) ht;subst ex;obtain rfl:u=Value.ref a:=rx;refine zDr I1 ea c hm l ?_;exact W.callWith_K0 (first:=[.ref a]) I1.kIn hm.kp (zHe (us:=[.ref a]) (vs:=[.ref a]) F hr hb hd hx I1 (.cons rfl .nil) q)
structure Mk (K:W.Frag) (C f:Addr):Prop where
 makes:W.makesIn K C=true
 init:W.findIn K (.ref C) "__init__"=some (some (.ref f))
 fn:W.isFn K (.ref f)=true
 kp:W.keepIn K (.ref C)=true
theorem zHf {pins:List (Addr×Obj)}{σ:St}{H:Hp}{s:Shared}{Q:VK}{us:List Value}{vs:List V}(M:Mk X.K C f) (F:zFS X.prog X.w X.K X.mg X.base CX k f fd ps sp) (hr:wE (k+1) X.A) (hb:zAT X.K fd ps ds) (hd:zt dvs ds)
  (hx:zBX CX X E) (I:Inv X pins σ H s) (r:zt vs us)
  (h:∀ x dx,H x=none→H dx=none→dx≠x→sp (.ref x::(vs++dvs)) (upd (upd H dx (.own x)) x (.ins C dx [])) (fun v H2=>v = .non∧Q (.ref x) H2) E) :
  wpAny (model X.prog X.w) X.A (call (.ref C) us) (EP X pins σ Q) X.xe s:=by
 have hq:=h (s.heap.objs.size+1) s.heap.objs.size (I.hok.fresh (le_succ _)) (I.hok.fresh (le_refl _)) (ne_of_lt (lt_succ_self _));have I2:=Inv.made (C:=C) I;have r2:zt (V.ref (s.heap.objs.size+1)::(vs++dvs)) (Value.ref (s.heap.objs.size+1)::(us++ds)) := .cons rfl (r.append hd)
 have hl:(Value.ref (s.heap.objs.size+1)::us++ds).length=ps.length:=by
  have e:=r2.length;rw [F.len _ _ _ _ hq] at e;exact e.symm
 refine wpAny_call (zLF (f:=f) I.kIn M.makes M.init (beq_iff_eq.mp M.fn) (codeAny_mono (F.run _ X.stack _ _ ⟨Value.ref (s.heap.objs.size+1)::us,[]⟩ (Value.ref (s.heap.objs.size+1)::(us++ds)) _ _ E (hr.make C us [])
  (I2.env0.make C us []) (hb _ (Value.ref (s.heap.objs.size+1)::us) I2.kIn hl) r2 hq) fun r s' hq'=>?_))
 cases r with
 | error e=>exact hx pins σ _ _ e s' I2 hq'
 | ok fl =>
  cases fl with
  | ret u =>
   obtain⟨v,H',I3,rv,ev,q3⟩:=I2.after hq';subst ev;exact⟨rv,⟨V.ref (s.heap.objs.size+1),H',I3,rfl,q3⟩⟩
  | next=>exact False.elim hq'
  | brk=>exact False.elim hq'
  | cont=>exact False.elim hq'
theorem zM4 (M:Mk X.K C f) (F:zFS X.prog X.w X.K X.mg X.base CX k f fd ps sp) (hr:wE (k+1) X.A) (hg:Gl X x) (hm:X.mg x=some (.ref C)) (hb:zAT X.K fd ps ds) (hd:zt dvs ds) (hx:zBX CX X E)
  (ha:PA X (e::es) t) (hdb:(x==("__debug__":Str))=false:=by decide) (he:starEach (e::es) X.env=(false,eval e X.env)::starEach es X.env:=by rfl) (hpl:(backTo pos (starEach es X.env)).any (·.1)=false:=by rfl) :
  PE X (.Call (.Name x p) (e::es) [] pos) (zLH C sp dvs E t):=by
 intro pins s σ H Q I h;refine wpAny_Call_Name_kw (zEN I hg hm ?_ hdb);refine W.callWith_K (h₀:=X.base) I.ok.mod.kin M.kp (thn (ha pos pins s σ H _ I h) fun us s1 ⟨vs,H1,I1,r,q⟩=>⟨I1.kIn,?_⟩) he hpl;exact zHf M F hr hb hd hx I1 r q
theorem zLJ (M:Mk X.K C f) (F:zFS X.prog X.w X.K X.mg X.base CX k f fd ps sp) (hr:wE (k+1) X.A) (hg:Gl X x) (hm:X.mg x=some (.ref C)) (hb:zAT X.K fd ps ds) (hd:zt dvs ds) (hx:zBX CX X E)
  (hdb:(x==("__debug__":Str))=false:=by decide):PE X (.Call (.Name x p) [] [] pos) (zLH C sp dvs E zOR):=by
 intro pins s σ H Q I h;refine wpAny_Call_Name_kw (zEN I hg hm ?_ hdb);exact W.callWith_K0 I.kIn M.kp (zHf (us:=[]) M F hr hb hd hx I .nil h)
end
section
variable {X:Cx}{CX:CXT}{k:Nat}{f C:Addr}{fd:FuncData}{ps ks:List Str}{sp:Sp}{E:XK}{x m:Str}{p pos apos kpos:Pos}{e o:Expr}{es:List Expr}{kws:List Keyword}{te ta:TE}{t tk:TA}{nm:Option Str}
variable {g:List Value→List Value→List Value}{gV:List V→List V→List V}
end
structure zL (N P:List Str) (sc:Scope):Prop where
 kind:sc.kind = .function
 co:sc.isCoroutine=false
 gen:sc.isGenerator=false
 nd:N.Nodup
 pre:N.take P.length=P
 par:∀ x∈P,sc.names.lookup x=some .local∨sc.names.lookup x=some .cell
 nofree:∀ y∈sc.names,y.2 ≠ .free
theorem zFT {kindOf:Str→Option NameKind}{x:Str}:∀ {binds:List (Str×Value)}{m:Str→Option Value},(∀ v,(x,v)∉binds)→bindL kindOf binds m x=m x
 | [],_,_=>rfl
 | (n,v)::r,m,h=>by
  unfold bindL;rw [zFT fun w hw=>h w (mem_cons_of_mem _ hw)];split
  ·have:x≠n:=by rintro rfl;exact h v mem_cons_self
   simp [this]
  ·rfl
theorem zFU {kindOf:Str→Option NameKind}{x:Str}:∀ {binds:List (Str×Value)}{m:Str→Option Value},(∀ v,(x,v)∉binds)→bindC kindOf binds m x=m x
 | [],_,_=>rfl
 | (n,v)::r,m,h=>by
  unfold bindC;rw [zFU fun w hw=>h w (mem_cons_of_mem _ hw)];split
  ·rfl
  ·have:x≠n:=by rintro rfl;exact h v mem_cons_self
   simp [this]
theorem zFV {kindOf:Str→Option NameKind}{x:Str}{v:Value}:∀ {P:List Str}{vs:List Value}{i:Nat}{m:Str→Option Value},P.Nodup→P[i]? = some x→vs[i]? = some v→kindOf x=some .local →
  bindL kindOf (P.zip vs) m x=some v
 | [],_,_,_,_,h,_,_=>by simp at h
 | _::_,[],_,_,_,_,h,_=>by simp at h
 | p::P,w::vs,0,m,nd,h1,h2,hk=>by
  simp at h1 h2;subst h1;subst h2;show bindL kindOf ((p,w)::P.zip vs) m p=_;unfold bindL;rw [zFT fun v hv=>(List.nodup_cons.mp nd).1 (of_mem_zip hv).1,if_pos hk];simp
 | p::P,w::vs,i+1,m,nd,h1,h2,hk=>by
  show bindL kindOf ((p,w)::P.zip vs) m x=_;unfold bindL;exact zFV (i:=i) (List.nodup_cons.mp nd).2 (by simpa using h1) (by simpa using h2) hk
theorem zFW {kindOf:Str→Option NameKind}{x:Str}{v:Value}:∀ {P:List Str}{vs:List Value}{i:Nat}{m:Str→Option Value},P.Nodup→P[i]? = some x→vs[i]? = some v→kindOf x≠some .local →
  bindC kindOf (P.zip vs) m x=some v
 | [],_,_,_,_,h,_,_=>by simp at h
 | _::_,[],_,_,_,_,h,_=>by simp at h
 | p::P,w::vs,0,m,nd,h1,h2,hk=>by
  simp at h1 h2;subst h1;subst h2;show bindC kindOf ((p,w)::P.zip vs) m p=_;unfold bindC;rw [zFU fun v hv=>(List.nodup_cons.mp nd).1 (of_mem_zip hv).1,if_neg hk];simp
 | p::P,w::vs,i+1,m,nd,h1,h2,hk=>by
  show bindC kindOf ((p,w)::P.zip vs) m x=_;unfold bindC;exact zFW (i:=i) (List.nodup_cons.mp nd).2 (by simpa using h1) (by simpa using h2) hk
def start (N:List Str) (vs:List V):St:=vs.map some++List.replicate (N.length-vs.length) none
def zM5 (CX:CXT) (P:Program) (w:World) (K:W.Frag) (mg:Str→Option Value) (base:Heap) (N:List Str) (qual:Str) (scope:Scope) (f:Addr) (cd:Value) (A:Around) (outer:List Env) (s:Shared) (H:Hp) (E:XK):Cx where
 prog:=P
 w:=w
 K:=K
 mg:=mg
 base:=base
 A:=A.deeper (envOfC qual scope s.heap.objs.size f cd)
 N:=N
 s_0:=s
 H_0:=H
 env:=envOfC qual scope s.heap.objs.size f cd
 outer:=outer
 stack:=envOfC qual scope s.heap.objs.size f cd::outer
 ex:=[]
 calm:=true
 fn:=fun _=>true
 pn:=[]
 xe:=fun e s'=>wpAny (model P w) (A.deeper (envOfC qual scope s.heap.objs.size f cd)) (leaving (envOfC qual scope s.heap.objs.size f cd) e) (fun _ s''=>CX outer H s E e s'') (fun e' s''=>CX outer H s E e' s'') s'
theorem zHg {sc:Scope}{n:Nat}{x:Str}(h:sc.names.lookup x=some .cell):∃ c,(cellsFrom n sc.names []).lookup x=some c:=by
 have q:=W.cellsFrom_some sc.names n [] (.inl h);exact Option.isSome_iff_exists.mp q
theorem zJa {CX:CXT}{P:Program}{w:World}{K:W.Frag}{mg:Str→Option Value}{base:Heap}{N ps:List Str}{qual:Str}{scope:Scope}{f:Addr}{cd:Value}{A:Around}{outer:List Env}{s s1:Shared}{H:Hp}{E:XK}{us:List Value}{vs:List V}
  (S:zL N ps scope) (hd:A.handled=none) (e0:zM1 P w K mg base A outer s H) (hl:vs.length=ps.length) (r:zt vs us)
  (x:InCallC s s.heap.objs.size (bindL (envOfC qual scope s.heap.objs.size f cd).kindOf (ps.zip us) fun _=>none) (cellsFrom (s.heap.objs.size+1) scope.names []) (bindC (envOfC qual scope s.heap.objs.size f cd).kindOf (ps.zip us) fun _=>none) s1) :
  Inv (zM5 CX P w K mg base N qual scope f cd A outer s H E) [] (start N vs) H s1:=by
 have hpl:ps.length≤N.length:=by have:=congrArg List.length S.pre;rw [length_take] at this;omega
 obtain⟨h1,tk,rfl,hk⟩:=x.done;have noA:∀ b:Addr,b∉(zM5 CX P w K mg base N qual scope f cd A outer s H E).ex:=fun b z=>absurd (show b∈([]:List Addr) from z) (by simp)
 refine⟨⟨e0.mod,S.kind,rfl,rfl,le_refl _,fun y z c h1 h2=>?_,fun y hy=>?_,fun y c _ h=>?_,fun _=>hd,Around.frames_deeper e0.frames,.inr ⟨rfl,rfl⟩,fun b z=>absurd z (noA b),e0.bs,e0.bsz,fun b _ _=>noA b,fun b z=>absurd z (noA b),e0.funs,e0.frf⟩,
  rfl,e0.bare,Un.kept hk,⟨_,x.toInCall.ns,fun i y v h1 h2 h3=>?_⟩,fun y c h=>⟨_,x.cell y c h⟩,e0.hok.fresh (le_refl _),fun y c h=>?_,fun p hp=>absurd (show p∈([]:List (Addr×Obj)) from hp) (by simp),e0.hok.kept hk,?_⟩
 ·exact name_of_addr x.apart (PySem.mem_of_lookup h1) (PySem.mem_of_lookup h2)
 ·have hy:scope.names.lookup y=some .cell∨scope.names.lookup y=some .free:=hy
  rcases hy with hy | hy
  ·exact zHg hy
  ·exact absurd rfl (S.nofree _ (PySem.mem_of_lookup hy))
 ·exact le_of_lt (x.above y c (PySem.mem_of_lookup h))
 ·have hi:i<vs.length:=by
   unfold start at h2;by_cases hi:i<vs.length
   ·exact hi
   ·rw [List.getElem?_append_right (by simpa using hi)] at h2;rw [List.getElem?_replicate] at h2;split at h2<;>cases h2
  have ha:vs[i]? = some v:=by
   unfold start at h2;rw [List.getElem?_append_left (by simpa using hi),getElem?_map] at h2
   cases e:vs[i]? with
   | none=>rw [e] at h2;cases h2
   | some a=>rw [e] at h2;cases h2;rfl
  obtain⟨u,hu,rv⟩:=r.get ha
  have hp:ps[i]? = some y:=by
   rw [← S.pre,List.getElem?_take_of_lt (by omega)];exact h1
  have ndP:ps.Nodup:=by rw [← S.pre];exact S.nd.sublist (List.take_sublist _ _)
  refine⟨u,rv,?_⟩
  rcases S.par y (List.mem_of_getElem? hp) with k | k
  ·exact .inl ⟨k,zFV ndP hp hu k⟩
  ·obtain⟨c,e⟩:=zHg (n:=s.heap.objs.size+1) k;refine .inr ⟨.inl k,c,e,?_⟩;have q:=x.cell y c e;rw [zFW ndP hp hu (by show scope.names.lookup y≠_;rw [k];decide)] at q;exact q
 ·exact e0.hok.fresh (le_of_lt (x.above y c (PySem.mem_of_lookup h)))
 ·unfold start;show _=N.length;rw [length_append,length_map,length_replicate];omega
theorem zPY {CX:CXT}{P:Program}{w:World}{K:W.Frag}{mg:Str→Option Value}{base:Heap}{k:Nat}{f:Addr}{name qual:Str}{params:Arguments}{body:List Stmt}{scope:Scope}{dV kV doc pm cdv ct oc:Value}{an od:Option Addr}
  {osl:Array (Option Value)}{N ps:List Str}{sp:Sp}(lk:K.lookup f=some ⟨oc,od,.func (W.fnOf name qual params body scope dV kV doc pm an cdv ct),osl⟩) (hcd:W.codeIn K cdv qual=true) (S:zL N ps scope)
  (len:∀ vs H Q E,sp vs H Q E→vs.length=ps.length)
  (hbody:∀ (A:Around) (outer:List Env) (s:Shared) (H:Hp) (vs:List V) (Q:VK) (E:XK),wE k (A.deeper (envOfC qual scope s.heap.objs.size f cdv))→sp vs H Q E →
   ∃ t,PSs (zM5 CX P w K mg base N qual scope f cdv A outer s H E) body t∧t { nx:=fun _ H'=>Q .non H',rt:=Q } (start N vs) H) :
  zFS P w K mg base CX (k+1) f (W.fnOf name qual params body scope dV kV doc pm an cdv ct) ps sp:=by
 refine⟨len,fun A outer s H args us vs Q E hr e0 hb r hsp=>?_⟩;have hl:=len _ _ _ _ hsp;have KX:K.In s.heap:=e0.mod.kin.keeps fun b o e=>(e0.bs b o e).1;have lim:s.heap.NoLimit:=e0.mod.nolimit.keeps fun b o e=>(e0.bs b o e).1
 have hkind:∀ y∈ps.zip us,scope.names.lookup y.1=some .local∨(scope.names.lookup y.1=some .cell∧((cellsFrom (s.heap.objs.size+1) scope.names []).lookup y.1).isSome=true):=fun⟨n,v⟩ hy=>by
  rcases S.par n (of_mem_zip hy).1 with q | q
  ·exact .inl q
  ·exact .inr ⟨q,W.cellsFrom_some _ _ _ (.inl q)⟩
 refine codeAny_call_function hr.depth (KX _ _ lk) rfl S.co S.gen rfl (W.codeRec_of KX hcd) (hb _ _ _ _ ?_);refine wpAny_newFunctionEnv_cells S.kind hkind fun env he s1 x=>?_;subst he;refine⟨lim.keeps x.toInCall.keep,codeAny_func ?_⟩;obtain⟨t,ht,hq⟩:=hbody A outer s H vs Q E (hr.deeper _) hsp;have I:Inv (zM5 CX P w K mg base N qual scope f cdv A outer s H E) [] (start N vs) H s1:=zJa S hr.hd e0 hl r x;refine wpAny_mono (ht [] s1 (start N vs) H _ I hq) (fun fl s' hs=>?_) fun e s' hs=>hs
 have fin:∀ {σ':St}{H':Hp}{v:V}{u:Value},Inv (zM5 CX P w K mg base N qual scope f cdv A outer s H E) [] σ' H' s'→jX v u→Q v H'→CE outer P w H s Q u s' :=
  fun {σ' H' v u} J rv q=>⟨v,H',J.os,J.bare,J.base,J.hok,rv,q⟩
 cases fl with
 | ret u =>
  obtain⟨v,σ',H',J,rv,q⟩:=hs;exact fin J rv q
 | next =>
  obtain⟨σ',H',J,q⟩:=hs;exact fin (v:=V.non) (u:=Value.none) J rfl q
 | brk =>
  obtain⟨_,_,_,q⟩:=hs;exact False.elim q
 | cont =>
  obtain⟨_,_,_,q⟩:=hs;exact False.elim q
end L2
namespace L2
open PySem PySem.Spec PyProof.Rows
section
variable {X:Cx}{x:Str}{p pos:Pos}{e:Expr}{es:List Expr}{t:TA}{id T:String}{r:List V→Hp→VK→Prop}
def tCB (r:List V→Hp→VK→Prop) (t:TA):TE:=fun σ H Q=>t σ H fun vs H1=>r vs H1 Q
theorem zh (hc:zBm X (.builtin id) r) (hg:Gl X x) (hm:X.mg x=none) (hv:bootBuiltins x=some (.builtin id)) (ha:PA X (e::es) t) (hn:x≠"__name__":=by decide) (hdb:(x==("__debug__":Str))=false:=by decide)
  (he:starEach (e::es) X.env=(false,eval e X.env)::starEach es X.env:=by rfl) (hpl:(backTo pos (starEach es X.env)).any (·.1)=false:=by rfl):PE X (.Call (.Name x p) (e::es) [] pos) (tCB r t):=by
 intro pins s σ H Q I h;refine wpAny_Call_Name_kw (zDo I hg hm hv ?_ hn hdb);exact PyProof.Rows.callWith_builtin1 (thn (ha pos pins s σ H _ I h) fun us s1 ⟨vs,H1,I1,r1,q1⟩=>hc pins s1 σ H1 vs us Q I1 r1 q1) he hpl
theorem zJb (hc:zBm X (.type T) r) (hg:Gl X x) (hm:X.mg x=none) (hv:bootBuiltins x=some (.type T)) (ha:PA X (e::es) t) (hn:x≠"__name__":=by decide) (hdb:(x==("__debug__":Str))=false:=by decide)
  (he:starEach (e::es) X.env=(false,eval e X.env)::starEach es X.env:=by rfl) (hpl:(backTo pos (starEach es X.env)).any (·.1)=false:=by rfl):PE X (.Call (.Name x p) (e::es) [] pos) (tCB r t):=by
 intro pins s σ H Q I h;refine wpAny_Call_Name_kw (zDo I hg hm hv ?_ hn hdb);exact PyProof.Rows.callWith_type1 (thn (ha pos pins s σ H _ I h) fun us s1 ⟨vs,H1,I1,r1,q1⟩=>hc pins s1 σ H1 vs us Q I1 r1 q1) he hpl
end
end L2
namespace HT
open PySem PyProof.Rows
section
open PySem.SeqAt
open PySem.AutoSeq1 (wpAny_loadPart')
open PySem.MeetsSeq PySem.MeetsSeq2 PySem.MeetsSeq3
end
section
variable {prog:Program}{w:World}{A:Around}{E:Value→Shared→Prop}{s:Shared}
def sIx (n d:Nat):Option Int→Nat
 | none=>d
 | some v=>if v<0 then(v+(n:Int)).toNat else min v.toNat n
theorem sIx_none (n d:Nat):sIx n d none=d:=rfl
theorem sIx_nat (n d k:Nat):sIx n d (some (k:Int))=min k n:=by
 show(if(k:Int)<0 then((k:Int)+(n:Int)).toNat else min (k:Int).toNat n)=min k n;rw [if_neg (by omega),toNat_natCast]
end
end HT
namespace L2
open PySem PySem.Spec PyProof.Rows
abbrev TO:=St→Hp→(Option Int→Hp→Prop)→Prop
def PO (X:Cx) (e:Option Expr) (t:TO):Prop :=
 ∀ (pins:List (Addr×Obj)) (s:Shared) (σ:St) (H:Hp) (Q:Option Int→Hp→Prop),Inv X pins σ H s→t σ H Q →
  wpAny (model X.prog X.w) X.A (evalPart e X.env) (fun u s'=>∃ o H',Inv X pins σ H' s'∧IsPart u o∧Q o H') X.xe s
def zM6:TO:=fun _ H Q=>Q none H
def zPZ (t:TE):TO:=fun σ H Q=>t σ H fun x H1=>∃ i,x = .int i∧Q (some i) H1
section
variable {X:Cx}{e:Expr}{te:TE}{lo hi:Option Expr}{tl th:TO}{pos p2:Pos}
theorem zM7:PO X none zM6:=by
 intro pins s σ H Q I h;rw [evalPart_none];exact wpAny_pure ⟨none,H,I,.none,h⟩
theorem zGc (h:PE X e te):PO X (some e) (zPZ te):=by
 intro pins s σ H Q I hw;rw [evalPart_some];refine thn (h pins s σ H _ I hw) fun u s1 ⟨x,H1,I1,r1,q1⟩=>?_;obtain⟨i,rfl,q⟩:=q1;obtain⟨t,rfl⟩:=r1;exact⟨some i,H1,I1,.int i t,q⟩
def SlR (X:Cx) (r:V→Option Int→Option Int→Hp→VK→Prop):Prop :=
 ∀ (pins:List (Addr×Obj)) (s:Shared) (σ:St) (H:Hp) (x:V) (v vl vu:Value) (lo hi:Option Int) (sl:Addr) (Q:VK),Inv X pins σ H s→jX x v→s.heap.IsSliceOf sl vl vu .none→IsPart vl lo→IsPart vu hi→r x lo hi H Q →
  ∃ T id,typeLookup (.type T) "__getitem__"=pure (some (.builtin id))∧s.TypeIs v T∧wpAny (model X.prog X.w) X.A (getItem v (.ref sl)) (EP X pins σ Q) X.xe s
def tSl (r:V→Option Int→Option Int→Hp→VK→Prop) (te:TE) (tl th:TO):TE:=fun σ H Q=>te σ H fun x H1=>tl σ H1 fun l H2=>th σ H2 fun u H3=>r x l u H3 Q
theorem zHh {r:V→Option Int→Option Int→Hp→VK→Prop}(hr:SlR X r) (he:PE X e te) (hl:PO X lo tl) (hu:PO X hi th):PE X (.Subscript e (.Slice lo hi none p2) pos) (tSl r te tl th):=by
 intro pins s σ H Q I h;refine Subscript_ (thn (he pins s σ H _ I h) fun v s1 ⟨x,H1,I1,r1,q1⟩=>?_);refine wpAny_Slice (thn (hl pins s1 σ H1 _ I1 q1) fun vl s2 ⟨l,H2,I2,pl,q2⟩=>thn (hu pins s2 σ H2 _ I2 q2) fun vu s3 ⟨u,H3,I3,pu,q3⟩=>?_);rw [evalPart_none];refine wpAny_pure ?_;have I4:Inv X pins σ H3 { s3 with heap:=s3.heap.push { cls := .type "slice",data := .fields #[vl,vu,.none] } }:=I3.kept (t':=s3.toks) fun b ob q=>Heap.get?_push_of_some _ q;obtain⟨T,id,hT,ht,hg⟩:=hr pins { s3 with heap:=s3.heap.push { cls := .type "slice",data := .fields #[vl,vu,.none] } } σ H3 x v vl vu l u s3.heap.objs.size Q I4 r1 (Heap.IsSliceOf.new ..) pl pu q3;show wpAny (model X.prog X.w) X.A (subscriptTail e (.Slice lo hi none p2) v (.ref s3.heap.objs.size)) (EP X pins σ Q) X.xe { s3 with heap:=s3.heap.push { cls := .type "slice",data := .fields #[vl,vu,.none] } };exact tail_any (ops:=[.ref s3.heap.objs.size,v]) ht hT hg (by with_unfolding_all rfl)
def zKk (xs:List V) (lo hi:Option Int):List V:=(xs.drop (HT.sIx xs.length 0 lo)).take (HT.sIx xs.length xs.length hi-HT.sIx xs.length 0 lo)
theorem zGd (xs:List V) (lo hi:Option Int):(zKk xs lo hi).length≤xs.length:=by
 unfold zKk;rw [length_take,length_drop];omega
end
end L2
namespace L2
open PySem PySem.Spec PyProof.Rows
def ixN (n:Nat) (i:Int):Option Nat:=if 0≤i then(if i<n then some i.toNat else none) else if -(n:Int)≤i then some (i+n).toNat else none
def atI {α:Type}(xs:List α) (i:Int):Option α:=(ixN xs.length i).bind fun j=>xs[j]?
theorem zJc {n:Nat}{i:Int}{j:Nat}(h:ixN n i=some j):seqIndex? i n=some j∧j<n ∧ -(n:Int)≤i∧i<n:=by
 unfold ixN at h;by_cases h0:0≤i
 ·rw [if_pos h0] at h;by_cases h1:i<n
  ·rw [if_pos h1] at h;have e:i.toNat=j:=Option.some.inj h;exact⟨by rw [seqIndex_of h0 h1,e],by omega,by omega,h1⟩
  ·rw [if_neg h1] at h;cases h
 ·rw [if_neg h0] at h;by_cases h1 : -(n:Int)≤i
  ·rw [if_pos h1] at h;have e:(i+n).toNat=j:=Option.some.inj h;exact⟨by rw [seqIndex_neg (by omega) h1,e],by omega,h1,by omega⟩
  ·rw [if_neg h1] at h;cases h
theorem zEP {α:Type}{xs:List α}{i:Int}{v:α}(h:atI xs i=some v):∃ j,seqIndex? i xs.length=some j∧xs[j]? = some v∧j<xs.length ∧ -(xs.length:Int)≤i∧i<xs.length:=by
 unfold atI at h
 cases e:ixN xs.length i with
 | none=>rw [e] at h;cases h
 | some j =>
  rw [e] at h;obtain⟨h1,h2,h3,h4⟩:=zJc e;exact⟨j,h1,h,h2,h3,h4⟩
theorem yK {α:Type}{xs:List α}{j:Nat}{v:α}(h:xs[j]? = some v):atI xs (j:Int)=some v:=by
 have hj:j<xs.length:=(List.getElem?_eq_some_iff.mp h).1
 have e:ixN xs.length (j:Int)=some j:=by
  unfold ixN;rw [if_pos (by omega),if_pos (by omega)];simp
 unfold atI;rw [e];exact h
theorem zEQ {α:Type}(xs:List α) (v:α):atI (xs++[v]) (-1)=some v:=by
 have hl:(xs++[v]).length=xs.length+1:=by simp
 have e:ixN (xs++[v]).length (-1)=some xs.length:=by
  unfold ixN;rw [hl,if_neg (by decide),if_pos (by omega)];congr 1;omega
 unfold atI;rw [e];show(xs++[v])[xs.length]? = some v;simp
def zM8 (b:Expr):Prop:=∀ o i,subscripted b false o i=operate [o,i] (getItem o i)
def IxR (X:Cx) (r:R2):Prop :=
 ∀ (value slice:Expr) (pins:List (Addr×Obj)) (s:Shared) (σ:St) (H:Hp) (x y:V) (v u:Value) (Q:VK),Inv X pins σ H s→jX x v→jX y u→r x y H Q →
  subscripted slice false v u=operate [v,u] (getItem v u)→wpAny (model X.prog X.w) X.A (subscriptTail value slice v u) (EP X pins σ Q) X.xe s
def MtR (X:Cx) (id:String) (r:V→List V→Hp→VK→Prop):Prop :=
 ∀ (pins:List (Addr×Obj)) (s:Shared) (σ:St) (H:Hp) (x:V) (xs:List V) (v:Value) (us:List Value) (Q:VK),Inv X pins σ H s→jX x v→zt xs us→r x xs H Q →
  wpAny (model X.prog X.w) X.A (call (.builtin id) (v::us)) (EP X pins σ Q) X.xe s
section
variable {X:Cx}{a b:Expr}{ta tb:TE}{pos:Pos}
theorem IxR.or {r r':R2}(h:IxR X r) (h':IxR X r'):IxR X (fun x y H Q=>r x y H Q∨r' x y H Q):=by
 intro value slice pins s σ H x y v u Q I rx ry q hs
 rcases q with q | q
 ·exact h value slice pins s σ H x y v u Q I rx ry q hs
 ·exact h' value slice pins s σ H x y v u Q I rx ry q hs
theorem zN {r:R2}(hr:IxR X r) (ha:PE X a ta) (hb:PE X b tb) (hs:zM8 b):PE X (.Subscript a b pos) (tOp r ta tb):=by
 intro pins s σ H Q I h;exact Subscript_ (zPR ha hb I h fun v u s2 x y H2 I2 rx ry q=>hr a b pins s2 σ H2 x y v u Q I2 rx ry q (hs _ _))
def zPa (K:W.Frag):R2:=fun x y H Q=>∃ p xs i v,x = .ref p∧y = .int i∧SqL K H p xs∧atI xs i=some v∧Q v H
def zP0 (K:W.Frag):R2:=fun x y H Q=>∃ p xs i v,x = .ref p∧y = .int i∧SqT K H p xs∧atI xs i=some v∧Q v H
def zP1:R2:=fun x y H Q=>∃ z i c,x = .str z∧y = .int i∧z.length≤sizeLine∧atI z.cps.toList i=some c∧Q (.str ⟨#[c]⟩) H
theorem zM9:IxR X (zPa X.K):=by
 intro value slice pins s σ H x y v u Q I rx ry h hs;obtain⟨p,xs,i,z,rfl,rfl,hq,he,q⟩:=h
 cases rx
 obtain⟨t,rfl⟩:=ry;obtain⟨its,r,pl,hz⟩:=I.list hq;obtain⟨j,h1,h2,h3,h4,h5⟩:=zEP he;obtain⟨w,ew,rw'⟩:=r.get h2;have hl:=r.length;have hn:=zCO;have fin:EP X pins σ Q w s:=⟨z,H,I,rw',q⟩;by_cases h0:0≤i
 ·have hj:i.toNat=j:=by
   rw [seqIndex_of h0 h5] at h1;exact Option.some.inj h1
  exact item_listR pl.isList h0 (by omega) (by rw [hj];simpa using ew) fin hs
 ·have hj:(i+(its.toArray.size:Int)).toNat=j:=by
   rw [seqIndex_neg (by omega) h4] at h1;rw [size_toArray,← hl];exact Option.some.inj h1
  exact subscriptTail_builtinR (x:=w) pl.isList.typeIs slot_list_getitem.lookup
   (wpAny_getItem_list_neg (Q:=fun r s'=>r=w∧EP X pins σ Q r s') pl.isList (by omega) (by rw [size_toArray]<;>omega) (by omega) (by rw [hj];simpa using ew) ⟨rfl,fin⟩) hs
theorem zOT:IxR X (zP0 X.K):=by
 intro value slice pins s σ H x y v u Q I rx ry h hs;obtain⟨p,xs,i,z,rfl,rfl,hq,he,q⟩:=h
 cases rx
 obtain⟨t,rfl⟩:=ry;obtain⟨its,r,pl,hz⟩:=I.tuple hq;obtain⟨j,h1,h2,h3,h4,h5⟩:=zEP he;obtain⟨w,ew,rw'⟩:=r.get h2;have hl:=r.length;have hn:=zCO;have fin:EP X pins σ Q w s:=⟨z,H,I,rw',q⟩
 exact subscriptTail_builtinR (x:=w) pl.typeIs slot_tuple_getitem.lookup
  (getItem_tuple (j:=j) (Q:=fun r s'=>r=w∧EP X pins σ Q r s') pl (by omega) (by omega) (by rw [size_toArray,← hl];exact h1) (by simpa using ew) ⟨rfl,fin⟩) hs
theorem zOU:IxR X zP1:=by
 intro value slice pins s σ H x y v u Q I rx ry h hs;obtain⟨z,i,c,rfl,rfl,hz,he,q⟩:=h;obtain⟨t,rfl⟩:=rx;obtain⟨t',rfl⟩:=ry;obtain⟨j,h1,h2,h3,h4,h5⟩:=zEP he
 have hl:z.cps.toList.length=z.length:=by simp [Str.length]
 rw [hl] at h1 h4 h5;have hn:=zCO
 exact tail_any (typeIs_str s z t) slot_str_getitem.lookup (getItem_str (c:=c) (by
  have e1:decide (i < -(2 ^ 63:Int))=false:=decide_eq_false (by omega);have e2:decide (i ≥ 2 ^ 63)=false:=decide_eq_false (by omega)
  rw [e1,e2,Bool.or_false]) (by rw [h1];simpa using h2) ⟨.str ⟨#[c]⟩,H,I.tok _,⟨_,rfl⟩,q⟩) hs
def rIx (K:W.Frag):R2:=fun x y H Q=>zPa K x y H Q∨zP0 K x y H Q∨zP1 x y H Q
theorem zK:IxR X (rIx X.K):=zM9.or (zOT.or zOU)
theorem zIV (its:List Value) (n j:Nat) (u:Value):Obj.mapSeq (·.setIfInBounds j u) { cls := .type "list",data := .seq its.toArray n }={ cls := .type "list",data := .seq (its.set j u).toArray n }:=by
 simp [Obj.mapSeq]
theorem Inv.lst {pins:List (Addr×Obj)}{σ:St}{H:Hp}{s:Shared}{p:Addr}{xs:List V}(I:Inv X pins σ H s) (h:H p=some (.lst xs)) :
  ∃ (its:List Value) (n:Nat),zt xs its∧s.heap.get? p=some { cls := .type "list",data := .seq its.toArray n }∧xs.length≤sizeLine:=by
 obtain⟨z,its,n,r,e⟩:=I.hok p _ h;exact⟨its,n,r,e,z⟩
theorem Inv.lstUpd {pins:List (Addr×Obj)}{σ:St}{H:Hp}{s:Shared}{p:Addr}{xs ys:List V}{its its':List Value}{n n':Nat}{f:Obj→Obj}(I:Inv X pins σ H s) (h:H p=some (.lst xs))
  (ho:s.heap.get? p=some { cls := .type "list",data := .seq its.toArray n }) (hf:f { cls := .type "list",data := .seq its.toArray n }={ cls := .type "list",data := .seq its'.toArray n' }) (r:zt ys its') (hz:ys.length≤sizeLine) (t:Nat) :
  Inv X pins σ (upd H p (.lst ys)) { s with heap:=s.heap.update p f,toks:=t }:=by
 have e:(s.heap.update p f).get? p=some { cls := .type "list",data := .seq its'.toArray n' }:=by
  rw [Heap.get?_update_self f ho (by rw [hf]<;>rfl),hf]
 refine I.write (x:=p) (e:=p) (by rw [h];trivial) (.inl rfl) (fun b u hb q=>(Heap.get?_update_other _ _ (Ne.symm hb)).trans q) ⟨_,e⟩ ?_;exact⟨hz,its',n',r,e⟩
def zPb:V→V→V→Hp→(Hp→Prop)→Prop:=fun o i v H Q=>∃ p xs k j,o = .ref p∧i = .int k∧H p=some (.lst xs)∧ixN xs.length k=some j∧Q (upd H p (.lst (xs.set j v)))
theorem zER:zPL X zPb:=by
 intro pins s σ H o i v ov iv u Q I ro ri rv h;obtain⟨p,xs,k,j,rfl,rfl,hp,hj,q⟩:=h
 cases ro
 obtain⟨t,rfl⟩:=ri;obtain⟨its,n,r,ho,hz⟩:=I.lst hp;obtain⟨h1,h2,h3,h4⟩:=zJc hj;have hl:=r.length;have hn:=zCO
 have I':Inv X pins σ (upd H p (.lst (xs.set j v))) { s with heap:=s.heap.update p (Obj.mapSeq (·.setIfInBounds j u)) } :=
  I.lstUpd hp ho (zIV its n j u) (r.set rv j) (by rw [length_set];exact hz) s.toks
 by_cases h0:0≤k
 ·have hk:k.toNat=j:=by
   rw [seqIndex_of h0 h4] at h1;exact Option.some.inj h1
  exact W.ki_setAt ho h0 (by omega) (by rw [size_toArray,← hl];exact h4) (by rw [hk];exact⟨_,I',q⟩)
 ·have hk:(k+(its.toArray.size:Int)).toNat=j:=by
   rw [seqIndex_neg (by omega) h3] at h1;rw [size_toArray,← hl];exact Option.some.inj h1
  exact W.ki_setBack ho (by omega) (by rw [size_toArray,← hl];exact h3) (by omega) (by rw [hk];exact⟨_,I',q⟩)
theorem zFX (lo hi:Option Int) (n:Nat):(sliceBounds lo hi none n).1=((HT.sIx n 0 lo:Nat):Int)∧(sliceBounds lo hi none n).2.1=((HT.sIx n n hi:Nat):Int)∧(sliceBounds lo hi none n).2.2=1:=by
 refine⟨?_,?_,rfl⟩
 ·cases lo with
  | none=>simp [sliceBounds,HT.sIx]
  | some i =>
   simp only [sliceBounds,HT.sIx,Option.getD_none,show(1:Int)>0 by decide,if_true];by_cases h:i<0
   ·simp only [h,if_true]<;>omega
   ·simp only [h,if_false]<;>omega
 ·cases hi with
  | none=>simp [sliceBounds,HT.sIx]
  | some i =>
   simp only [sliceBounds,HT.sIx,Option.getD_none,show(1:Int)>0 by decide,if_true];by_cases h:i<0
   ·simp only [h,if_true]<;>omega
   ·simp only [h,if_false]<;>omega
theorem zES (its:List Value) (lo hi:Option Int):slicePick its.toArray lo hi none=((its.drop (HT.sIx its.length 0 lo)).take (HT.sIx its.length its.length hi-HT.sIx its.length 0 lo)).toArray:=by
 obtain⟨h1,h2,h3⟩:=zFX lo hi its.toArray.size;unfold slicePick;rw [h1,h2,h3];simp only [sliceRange_one,pick_run,size_toArray]<;>rfl
def zQP (K:W.Frag):V→Option Int→Option Int→Hp→VK→Prop:=fun x lo hi H Q=>∃ a xs,x = .ref a∧SqL K H a xs∧∀ p,H p=none→Q (.ref p) (upd H p (.lst (zKk xs lo hi)))
theorem zJd:SlR X (zQP X.K):=by
 intro pins s σ H x v vl vu lo hi sl Q I rx hs pl pu h;obtain⟨a,xs,rfl,hx,q⟩:=h
 cases rx
 obtain⟨its,r,ht,hz⟩:=I.list hx;have hlen:=r.length;refine⟨"list",_,slot_list_getitem.lookup,ht.isList.typeIs,?_⟩;refine wpAny_getItem_list_slice ht.isList hs pl pu .none (by simp) ?_ (by rw [size_toArray]<;>omega);rw [zES,← hlen];refine⟨.ref s.heap.objs.size,_,I.laid (t':=s.toks) (o := .lst (zKk xs lo hi)) (fun b ob q=>Heap.get?_push_of_some _ q) (le_refl _) ?_,rfl,q _ (I.hok.fresh (le_refl _))⟩;exact⟨le_trans (zGd xs lo hi) hz,_,0,(r.drop (HT.sIx xs.length 0 lo)).take (HT.sIx xs.length xs.length hi-HT.sIx xs.length 0 lo),Heap.get?_push_size _ rfl⟩
def zET:V→Bool
 | .non=>true
 | .bl _=>true
 | .int _=>true
 | .str _=>true
 | _=>false
def eqV:V→V→Bool
 | .non,.non=>true
 | .bl a,.bl b=>a==b
 | .bl a,.int b=>(if a then 1 else 0)==b
 | .int a,.bl b=>a==(if b then 1 else 0)
 | .int a,.int b=>a==b
 | .str a,.str b=>a==b
 | _,_=>false
theorem zOV {A:Around}{s:Shared}{y x:V}{u v:Value}(ry:jX y u) (rx:jX x v) (fy:zET y=true) (fx:zET x=true):SeqAt.EqAt A s u v (eqV y x):=by
 cases y with
 | non =>
  cases ry
  cases x with
  | non=>cases rx;exact SeqAt.EqAt.same _
  | bl b=>cases rx;exact SeqAt.EqAt.none_bool b
  | int b=>obtain⟨t,rfl⟩:=rx;exact SeqAt.EqAt.none_int b t
  | str b=>obtain⟨t,rfl⟩:=rx;exact SeqAt.EqAt.none_str b t
  | _=>exact absurd (show false=true from fx) Bool.false_ne_true
 | bl a =>
  cases ry
  cases x with
  | non=>cases rx;exact SeqAt.EqAt.bool_none a
  | bl b=>cases rx;exact SeqAt.EqAt.bool_bool a b
  | int b=>obtain⟨t,rfl⟩:=rx;exact SeqAt.EqAt.bool_int a b t
  | str b=>obtain⟨t,rfl⟩:=rx;exact SeqAt.EqAt.bool_str a b t
  | _=>exact absurd (show false=true from fx) Bool.false_ne_true
 | int a =>
  obtain⟨t',rfl⟩:=ry
  cases x with
  | non=>cases rx;exact SeqAt.EqAt.int_none a t'
  | bl b=>cases rx;exact SeqAt.EqAt.int_bool a t' b
  | int b=>obtain⟨t,rfl⟩:=rx;exact SeqAt.EqAt.int_int a t' b t
  | str b=>obtain⟨t,rfl⟩:=rx;exact SeqAt.EqAt.int_str a t' b t
  | _=>exact absurd (show false=true from fx) Bool.false_ne_true
 | str a =>
  obtain⟨t',rfl⟩:=ry
  cases x with
  | non=>cases rx;exact SeqAt.EqAt.str_none a t'
  | bl b=>cases rx;exact SeqAt.EqAt.str_bool a t' b
  | int b=>obtain⟨t,rfl⟩:=rx;exact SeqAt.EqAt.str_int a t' b t
  | str b=>obtain⟨t,rfl⟩:=rx;exact SeqAt.EqAt.str_str a t' b t
  | _=>exact absurd (show false=true from fx) Bool.false_ne_true
 | _=>exact absurd (show false=true from fy) Bool.false_ne_true
def eqU (x:V) (u:Value):Bool:=match u with
 | .none=>eqV .non x
 | .bool b=>eqV (.bl b) x
 | .int i _=>eqV (.int i) x
 | .str z _=>eqV (.str z) x
 | _=>false
theorem zMB {x y:V}{u:Value}(r:jX y u) (f:zET y=true):eqU x u=eqV y x:=by
 cases y with
 | non=>cases r;rfl
 | bl b=>cases r;rfl
 | int i=>obtain⟨t,rfl⟩:=r;rfl
 | str z=>obtain⟨t,rfl⟩:=r;rfl
 | _=>exact absurd (show false=true from f) Bool.false_ne_true
theorem zGe {x:V}:∀ {xs:List V}{us:List Value},zt xs us→xs.all zET=true→us.any (eqU x)=xs.any fun y=>eqV y x
 | _,_,.nil,_=>rfl
 | y::xs,u::us,.cons r t,f=>by
  rw [List.all_cons,Bool.and_eq_true] at f;rw [any_cons,any_cons,zMB r f.1,zGe t f.2]
theorem zEU {A:Around}{s:Shared}{x:V}{v:Value}(rx:jX x v) (fx:zET x=true):∀ {xs:List V}{us:List Value},zt xs us→xs.all zET=true→∀ u∈us,SeqAt.EqAt A s u v (eqU x u)
 | _,_,.nil,_=>fun u hu=>by cases hu
 | y::xs,u::us,.cons r t,f=>fun u' hu=>by
  rw [List.all_cons,Bool.and_eq_true] at f
  rcases List.mem_cons.mp hu with rfl | hu
  ·rw [zMB r f.1];exact zOV r rx f.1 fx
  ·exact zEU rx fx t f.2 u' hu
def inV (x:V) (xs:List V):Bool:=xs.any fun y=>eqV y x
def rIn (K:W.Frag) (neg:Bool):R2:=fun x y H Q=>∃ p xs,y = .ref p∧(SqL K H p xs∨SqT K H p xs)∧zET x=true∧xs.all zET=true∧Q (.bl (if neg then !inV x xs else inV x xs)) H
theorem zJe:OpR X (compareOp .In) (rIn X.K false):=by
 intro pins s σ H x y v u Q I rx ry h;obtain⟨p,xs,rfl,hq,fx,fs,q⟩:=h
 cases ry
 rcases hq with hq | hq
 ·obtain⟨its,r,pl,hz⟩:=I.list hq;refine SeqAt.in_listAt (eqU x) pl.isList (fun w hw=>zEU rx fx r fs w (by simpa using hw)) ⟨.bl _,H,I,rfl,?_⟩;rw [show its.toArray.any (eqU x)=its.any (eqU x) by simp,zGe r fs];exact q
 ·obtain⟨its,r,pl,hz⟩:=I.tuple hq;refine SeqAt.in_tupleAt (eqU x) pl (fun w hw=>zEU rx fx r fs w (by simpa using hw)) ⟨.bl _,H,I,rfl,?_⟩;rw [show its.toArray.any (eqU x)=its.any (eqU x) by simp,zGe r fs];exact q
theorem jN:zBm X (.builtin "len") (fun xs H Q=>∃ p ys,xs=[.ref p]∧(SqL X.K H p ys∨SqT X.K H p ys)∧Q (.int ys.length) H):=by
 intro pins s σ H xs us Q I r h;obtain⟨p,ys,rfl,hq,q⟩:=h;obtain⟨u,rfl,rx⟩:=zLC r
 cases rx
 have hn:=zCO
 rcases hq with hq | hq
 ·obtain⟨its,r',pl,hz⟩:=I.list hq;have hlen:=r'.length;exact Calls.call_len_list pl.isList (by simp only [size_toArray]<;>omega) ⟨.int ys.length,H,I.tok _,⟨s.toks+1,by rw [size_toArray,hlen]⟩,q⟩
 ·obtain⟨its,r',pl,hz⟩:=I.tuple hq;have hlen:=r'.length;exact len_tuple pl (by simp only [size_toArray]<;>omega) ⟨.int ys.length,H,I.tok _,⟨s.toks+1,by rw [size_toArray,hlen]⟩,q⟩
theorem zFY:zBm X (.type "list") (fun xs H Q=>∃ p ys,xs=[.ref p]∧(SqL X.K H p ys∨SqT X.K H p ys)∧∀ l,H l=none→Q (.ref l) (upd H l (.lst ys))):=by
 intro pins s σ H xs us Q I r h;obtain⟨p,ys,rfl,hq,q⟩:=h;obtain⟨u,rfl,rx⟩:=zLC r
 cases rx
 have fin:∀ (its:List Value),zt ys its→ys.length≤sizeLine→∀ (h':Heap) (c':Nat),(∀ b o',s.heap.get? b=some o'→h'.get? b=some o') →
   h'.get? s.heap.objs.size=some { cls := .type "list",dict:=none,data := .seq its.toArray c',slots:=#[] }→EP X pins σ Q (.ref s.heap.objs.size) { s with heap:=h' }:=fun its r' hz h' c' kp e =>
  ⟨.ref s.heap.objs.size,_,I.laid (t':=s.toks) kp (le_refl _) (show kT X.prog X.w _ h' _ (.lst ys) from⟨hz,its,c',r',e⟩),rfl,q _ (I.hok.fresh (le_refl _))⟩
 rcases hq with hq | hq
 ·obtain⟨its,r',pl,hz⟩:=I.list hq;have hlen:=r'.length;obtain⟨o,ho,hc,n,hd⟩:=pl.isList;exact call_list_seq p (.inl rfl) ho hc hd (fun h' c' kp e=>fin its r' hz h' c' kp e) (by simp only [size_toArray]<;>omega)
 ·obtain⟨its,r',pl,hz⟩:=I.tuple hq;have hlen:=r'.length;obtain⟨o,ho,hc,n,hd⟩:=pl;exact call_list_seq p (.inr rfl) ho hc hd (fun h' c' kp e=>fin its r' hz h' c' kp e) (by simp only [size_toArray]<;>omega)
def tyV (K:W.Frag) (T:String) (x:V) (H:Hp):Prop:=match x with
 | .str _=>T="str"
 | .int _=>T="int"
 | .ref p=>(T="list"∧∃ xs,SqL K H p xs)∨(T="tuple"∧∃ o,K.lookup p=some o∧o.cls = .type "tuple"∧o.dict=none) ∨
   (T="dict"∧((∃ kvs,H p=some (.dK kvs))∨∃ kvs,H p=some (.dT kvs)))∨(T="set"∧∃ S n,H p=some (.set S n))
 | _=>False
theorem zOW {pins:List (Addr×Obj)}{σ:St}{H:Hp}{s:Shared}{T:String}{x:V}{v:Value}(I:Inv X pins σ H s) (r:jX x v) (ty:tyV X.K T x H) :
  s.TypeIs v T∧∀ a,v = .ref a→∃ ob,s.heap.get? a=some ob∧ob.dict=none:=by
 cases x with
 | str z =>
  obtain⟨t,rfl⟩:=r
  cases (show T="str" from ty)
  exact⟨typeIs_str s z t,fun _ e=>nomatch e⟩
 | int i =>
  obtain⟨t,rfl⟩:=r
  cases (show T="int" from ty)
  exact⟨typeIs_int s i t,fun _ e=>nomatch e⟩
 | ref p =>
  cases r
  rcases ty with ⟨rfl,xs,hq⟩ | ⟨rfl,o,hk,hc,hd⟩ | ⟨rfl,hk⟩ | ⟨rfl,S,n,hk⟩
  ·obtain⟨its,_,pl,_⟩:=I.list hq;refine⟨pl.isList.typeIs,fun a e=>?_⟩
   cases e
   obtain⟨o,n,e,c,hd,_⟩:=pl;exact⟨o,e,hd⟩
  ·refine⟨⟨o,I.kIn p o hk,hc⟩,fun a e=>?_⟩
   cases e
   exact⟨o,I.kIn _ o hk,hd⟩
  ·have z:∃ o,s.heap.get? p=some o∧o.ExactDict:=by
    rcases hk with ⟨kvs,hk⟩ | ⟨kvs,hk⟩
    ·obtain⟨_,_,_,_,o,_,_,e,ex,_⟩:=I.hok p _ hk;exact⟨o,e,ex⟩
    ·obtain⟨_,_,_,_,o,_,_,e,ex,_⟩:=I.hok p _ hk;exact⟨o,e,ex⟩
   obtain⟨o,e,ex⟩:=z;refine⟨⟨o,e,ex.1⟩,fun a e2=>?_⟩
   cases e2
   exact⟨o,e,ex.2.1⟩
  ·obtain⟨o,_,_,_,e,ex,_⟩:=I.hok p _ hk;refine⟨⟨o,e,ex.1⟩,fun a e2=>?_⟩
   cases e2
   exact⟨o,e,ex.2.1⟩
 | _=>exact False.elim ty
def tBM (K:W.Frag) (T:String) (r:V→List V→Hp→VK→Prop) (to:TE) (t:TA):TE:=fun σ H Q=>to σ H fun x H1=>tyV K T x H1∧t σ H1 fun xs H2=>r x xs H2 Q
variable {o e:Expr}{es:List Expr}{to:TE}{t:TA}{name:Str}{apos cpos:Pos}{T id:String}{r:V→List V→Hp→VK→Prop}
theorem ww (pa:PlainAttrs T) (slot:Slot T name id) (hty:typeOf (.builtin id)=pure (.type "method_descriptor")) (hm:MtR X id r) (ho:PE X o to) (ha:PA X (e::es) t)
  (hbase:attributeBase o name X.env (eval o X.env)=eval o X.env:=by rfl)
  (hfew:((backTo cpos (starEach (e::es) X.env)).all (fun x=>!x.1)&&(backToKw cpos (keywordEach [] X.env)).all (fun x=>x.1.isSome)
   && decide ((e::es).length+([]:List Keyword).length+(if([]:List Keyword).isEmpty then 0 else 1)<30))=true:=by rfl)
  (hline:(apos.endLine==cpos.line)=true:=by rfl) (hs:starEach (e::es) X.env=(false,eval e X.env)::starEach es X.env:=by rfl) (hplain:(backTo cpos (starEach es X.env)).any (·.1)=false:=by rfl) :
  PE X (.Call (.Attribute o name apos) (e::es) [] cpos) (tBM X.K T r to t):=by
 intro pins s σ H Q I h;refine wpAny_Call_method_late hbase hfew hline rfl (thn (ho pins s σ H _ I h) fun v s1 ⟨x,H1,I1,r1,ty,q1⟩=>?_);obtain⟨h1,h2⟩:=zOW I1 r1 ty;refine⟨T,id,pa,slot,hty,h1,h2,?_⟩;have hA:=ha cpos pins s1 σ H1 _ I1 q1;rw [hs] at hA ⊢;refine Calls.callWith_builtin (by show(false||(backTo cpos (starEach es X.env)).any (·.1))=false;rw [hplain]<;>rfl) (Calls.evalArgs_plain ?_);exact thn hA fun us s2 ⟨vs,H2,I2,r2,q2⟩=>hm pins s2 σ H2 x vs v us Q I2 r1 r2 q2
end
end L2
namespace L2
open PySem PySem.Spec PyProof.Rows
def MtM (X:Cx) (id:String) (r:V→List V→Hp→VK→Prop):Prop :=
 ∀ (pins:List (Addr×Obj)) (s:Shared) (σ:St) (H:Hp) (x:V) (xs:List V) (v:Value) (us:List Value) (Q:VK),Inv X pins σ H s→jX x v→zt xs us→r x xs H Q →
  wpAny (model X.prog X.w) X.A (call (.builtin id) (v::us)) (EP X pins σ Q) X.xe s
theorem zt.one:∀ {x:V}{us:List Value},zt [x] us→∃ u,us=[u]∧jX x u
 | _,_,.cons r .nil=>⟨_,rfl,r⟩
theorem zt.two:∀ {x y:V}{us:List Value},zt [x,y] us→∃ u v,us=[u,v]∧jX x u∧jX y v
 | _,_,_,.cons r (.cons q .nil)=>⟨_,_,rfl,r,q⟩
theorem zt.rep {xs:List V}{us:List Value}(h:zt xs us):∀ k:Nat,zt (List.replicate k xs).flatten (List.replicate k us).flatten
 | 0 => .nil
 | k+1=>by
  rw [replicate_succ,replicate_succ,flatten_cons,flatten_cons];exact zt.append h (zt.rep h k)
theorem zFZ (its:List Value):∀ (k:Nat) (acc:List Value),
  List.foldl (fun x1 x2=>x1++x2) acc.toArray (List.replicate k its.toArray)=(acc++(List.replicate k its).flatten).toArray
 | 0,acc=>by simp
 | k+1,acc=>by
  have e:acc.toArray++its.toArray=(acc++its).toArray:=by simp
  have e2:(acc++its)++(List.replicate k its).flatten=acc++(List.replicate (k+1) its).flatten:=by
   rw [replicate_succ,flatten_cons,append_assoc]
  rw [← e2,← zFZ its k (acc++its),← e,replicate_succ,foldl_cons]
section
variable {X:Cx}{pins:List (Addr×Obj)}{σ:St}{H:Hp}{s:Shared}{l b:Addr}{xs ys zs:List V}
theorem Inv.lset {its its':List Value}{n:Nat}{f:Array Value→Array Value}{t':Nat}(I:Inv X pins σ H s) (hH:H l=some (.lst xs))
  (e:s.heap.get? l=some { cls := .type "list",data := .seq its.toArray n }) (hf:f its.toArray=its'.toArray) (hv:zt ys its') (hz:ys.length≤sizeLine) :
  Inv X pins σ (upd H l (.lst ys)) { s with heap:=s.heap.update l (Obj.mapSeq f),toks:=t' }:=by
 have q:=PySem.IsL.update e f;rw [hf] at q;refine I.write (x:=l) (e:=l) (by rw [hH];exact trivial) (.inl rfl) (fun b' u hb hu=>(Heap.get?_update_other s.heap (Obj.mapSeq f) (Ne.symm hb)).trans hu) ⟨_,q⟩ ?_;exact⟨hz,its',_,hv,q⟩
theorem Inv.lnew {its:List Value}{t':Nat}(I:Inv X pins σ H s) (hv:zt ys its) (hz:ys.length≤sizeLine) :
  Inv X pins σ (upd H s.heap.objs.size (.lst ys)) { s with heap:=s.heap.push { cls := .type "list",data := .seq its.toArray },toks:=t' } :=
 I.laid (fun _ _ q=>Heap.get?_push_of_some _ q) (le_refl _) ⟨hz,its,0,hv,Heap.get?_push_size _ rfl⟩
theorem Inv.fresh (I:Inv X pins σ H s):H s.heap.objs.size=none:=I.hok.fresh (le_refl _)
theorem Inv.lstM (I:Inv X pins σ H s) (hH:H l=some (.lst xs)):xs.length≤sizeLine∧∃ (its:List Value) (n:Nat),zt xs its∧xs.length=its.length∧s.heap.get? l=some { cls := .type "list",data := .seq its.toArray n }:=by
 obtain⟨z,its,n,r,e⟩:=I.hok l _ hH;exact⟨z,its,n,r,r.length,e⟩
theorem zEV {n:Nat}(h:n≤sizeLine):Builtin.List.listTooLong n=false:=by
 unfold Builtin.List.listTooLong;exact decide_eq_false (by omega)
end
section
variable {X:Cx}
def zNA:V→List V→Hp→VK→Prop:=fun x vs H Q=>∃ l xs y,x = .ref l∧vs=[y]∧H l=some (.lst xs)∧xs.length<sizeLine∧Q .non (upd H l (.lst (xs++[y])))
theorem kD:MtM X "list.append" zNA:=by
 intro pins s σ H x vs v us Q I rx rv h;obtain⟨l,xs,y,rfl,rfl,hH,hz,q⟩:=h
 cases rx
 obtain⟨u,rfl,ru⟩:=rv.one;obtain⟨z,its,n,r,hl,e⟩:=I.lstM hH;refine call_meets F.slot_list_append ⟨_,e,rfl⟩ F.entry_list_append (F.args_list_append_2 _ _) (PySem.list_append l its.toArray n u (by rw [size_toArray];omega)) ⟨e,?_⟩;refine⟨.non,_,I.lset (its':=its++[u]) hH e (by simp) (r.append (.cons ru .nil)) ?_,rfl,q⟩;rw [length_append,List.length_singleton];omega
def zNB:V→List V→Hp→VK→Prop:=fun x vs H Q=>∃ l b xs zs,x = .ref l∧vs=[.ref b]∧H l=some (.lst xs)∧H b=some (.lst zs)∧xs.length+zs.length≤sizeLine∧Q .non (upd H l (.lst (xs++zs)))
theorem zFa:MtM X "list.extend" zNB:=by
 intro pins s σ H x vs v us Q I rx rv h;obtain⟨l,b,xs,zs,rfl,rfl,hH,hB,hz,q⟩:=h
 cases rx
 obtain⟨u,rfl,ru⟩:=rv.one
 cases ru
 obtain⟨z,its,n,r,hl,e⟩:=I.lstM hH;obtain⟨z2,its2,n2,r2,hl2,e2⟩:=I.lstM hB
 have hsz:its.toArray.size+its2.toArray.size≤sizeLine:=by rw [size_toArray,size_toArray];omega
 have hlong:¬ (!its.toArray.isEmpty&&Builtin.List.listTooLong (its.toArray.size+its2.toArray.size))=true:=by
  rw [zEV hsz,Bool.and_false];exact Bool.false_ne_true
 refine call_meets F.slot_list_extend ⟨_,e,rfl⟩ F.entry_list_extend (F.args_list_extend_2 _ _)
  (AutoSeq1.list_extend_list_list_0 l its.toArray n b its2.toArray n2 hlong (by rw [size_toArray];omega) (by omega)) ⟨e,e2,?_⟩
 refine⟨.non,_,I.lset (its':=its++its2) hH e (by simp) (r.append r2) ?_,rfl,q⟩;rw [length_append];omega
def zQQ:R2:=fun x y H Q=>∃ l b xs zs,x = .ref l∧y = .ref b∧H l=some (.lst xs)∧H b=some (.lst zs)∧xs.length+zs.length≤sizeLine∧∀ p,H p=none→Q (.ref p) (upd H p (.lst (xs++zs)))
theorem zFb:OpR X (binaryOp .Add) zQQ:=by
 intro pins s σ H x y v u Q I rx ry h;obtain⟨l,b,xs,zs,rfl,rfl,hH,hB,hz,q⟩:=h
 cases rx
 cases ry
 obtain⟨z,its,n,r,hl,e⟩:=I.lstM hH;obtain⟨z2,its2,n2,r2,hl2,e2⟩:=I.lstM hB;refine PySem.P.add_list e e2 ?_ (by rw [size_toArray,size_toArray];omega)
 have ea:its.toArray++its2.toArray=(its++its2).toArray:=by simp
 rw [ea];exact⟨.ref _,_,I.lnew (t':=s.toks) (r.append r2) (by rw [length_append];omega),rfl,q _ I.fresh⟩
def zQR:R2:=fun x y H Q=>∃ l k xs,x = .ref l∧y = .int k∧H l=some (.lst xs) ∧ -(2 ^ 63)≤k∧k<2 ^ 63∧xs.length*k.toNat≤sizeLine ∧
 ∀ p,H p=none→Q (.ref p) (upd H p (.lst (List.replicate k.toNat xs).flatten))
theorem zNC {α:Type}(xs:List α) (k:Nat):(List.replicate k xs).flatten.length=k*xs.length:=by
 induction k with
 | zero=>simp
 | succ k ih=>rw [replicate_succ,flatten_cons,length_append,ih,Nat.succ_mul,Nat.add_comm]
theorem zOX:OpR X (binaryOp .Mult) zQR:=by
 intro pins s σ H x y v u Q I rx ry h;obtain⟨l,k,xs,rfl,rfl,hH,h1,h2,hz,q⟩:=h
 cases rx
 obtain⟨t,rfl⟩:=ry;obtain⟨z,its,n,r,hl,e⟩:=I.lstM hH
 have hlen:its.toArray.size*k.toNat≤sizeLine:=by rw [size_toArray,← hl];exact hz
 have hcap:¬ its.toArray.size*k.toNat>(2 ^ 63-1)/8:=by
  have:(sizeLine:Nat)≤(2 ^ 63-1)/8:=by decide
  omega
 have hfit:¬ (!Builtin.List.listFitsIndex k)=true:=by
  rw [fitsIndex_both h1 h2];exact Bool.false_ne_true
 have hlong:¬ Builtin.List.listTooLong (its.toArray.size*k.toNat)=true:=by
  rw [zEV hlen];exact Bool.false_ne_true
 have hnew:List.foldl (fun x1 x2=>x1++x2) #[] (List.replicate (if its.toArray.isEmpty=true then 0 else k.toNat) its.toArray)=(List.replicate k.toNat its).flatten.toArray:=by
  have f0:∀ m:Nat,List.foldl (fun x1 x2=>x1++x2) #[] (List.replicate m its.toArray)=(List.replicate m its).flatten.toArray:=fun m=>by
   have:=zFZ its m [];rw [nil_append] at this;exact this
  rw [f0]
  cases its with
  | nil=>simp
  | cons a r'=>rw [if_neg (by simp)]
 refine wpAny_binaryOp_repeat_ref (T:="list") (U:="int") (by decide) ⟨_,e,rfl⟩ (fun s'=>typeIs_int s' k t) noFill_list_mul F.fills_int_mul F.slot_int_rmul repeat_list F.slot_int_index.lookup
  (call_meets F.slot_int_rmul (typeIs_int s k t) F.entry_int_rmul (F.args_int_rmul_2 _ _) (int___rmul___int_list k t l its.toArray n)
   ⟨e,rfl,⟨_,e,rfl⟩,call_meets F.slot_list_mul ⟨_,e,rfl⟩ F.entry_list_mul (F.args_list_mul_2 _ _) (AutoListH.list___mul___list_int_3 l its.toArray n k t hfit hcap hlong) ⟨e,?_⟩⟩)
 rw [hnew];exact⟨.ref _,_,I.lnew (t':=s.toks) (r.rep k.toNat) (by rw [zNC,Nat.mul_comm];exact hz),rfl,q _ I.fresh⟩
end
section
variable {prog:Program}{w:World}{A:Around}{E:Value→Shared→Prop}{s:Shared}
end
section
variable {X:Cx}
end
end L2
namespace L2
open PySem PySem.Spec PyProof.Rows
theorem zt.ints:∀ {ns:List Int}{us:List Value},zt (ns.map V.int) us→IntsAre us ns
 | [],us,h=>by
  rw [List.map_nil] at h
  cases h
  exact IntsAre.nil
 | n::ns,us,h=>by
  rw [map_cons] at h
  cases h with
  | cons r t =>
   obtain⟨k,rfl⟩:=r;exact IntsAre.cons n k (zt.ints t)
theorem zBY:∀ {us:List Value}{ns:List Int},IntsAre us ns→zt (ns.map V.int) us
 | _,_,.nil=>by rw [List.map_nil];exact Paired.nil
 | _,_,.cons n t h=>by rw [map_cons];exact Paired.cons (show jX (V.int n) (Value.int n t) from⟨t,rfl⟩) (zBY h)
theorem zt.ref1 {a:Addr}{us:List Value}(r:zt [V.ref a] us):us=[Value.ref a]:=by
 cases r with
 | cons r t =>
  cases t
  cases r
  rfl
theorem zt.int2 {i j:Int}{us:List Value}(r:zt [V.int i,V.int j] us):∃ t u,us=[Value.int i t,Value.int j u]:=by
 cases r with
 | cons r t =>
  cases t with
  | cons r2 t2 =>
   cases t2
   obtain⟨t,rfl⟩:=r;obtain⟨u,rfl⟩:=r2;exact⟨t,u,rfl⟩
section
variable {prog:Program}{w:World}{A:Around}{E:Value→Shared→Prop}{s:Shared}{l:Addr}{its:List Value}{ns:List Int}{Q:Value→Shared→Prop}
theorem zND (hh:A.handled=none) (hl:s.heap.IsList l its.toArray) (hi:IntsAre its ns)
  (h:∀ h' tk t',(∀ b o,s.heap.get? b=some o→h'.get? b=some o)→Q (.int ns.sum t') { s with heap:=h',toks:=tk }):wpAny (model prog w) A (call (.builtin "sum") [.ref l]) Q E s:=by
 obtain⟨xs,e⟩:=hi.allInts.items
 have hn:numsOf (intItems xs).toList=ns:=by rw [← e];exact hi.numsOf
 rw [nums_intItems] at hn;rw [e] at hl;refine PySem.sum_intListG hh hl fun h' tk t' hk=>?_;have:=h h' tk t' hk;rw [preSum_eq,take_of_length_le (by simp),hn];exact this
theorem zNE (hh:A.handled=none) (hl:s.heap.IsList l its.toArray) (hi:IntsAre its ns) (hne:0<ns.length)
  (h:∀ h' tk M t',(∀ b o,s.heap.get? b=some o→h'.get? b=some o)→M∈ns→(∀ a,a∈ns→a≤M)→Q (.int M t') { s with heap:=h',toks:=tk }):wpAny (model prog w) A (call (.builtin "max") [.ref l]) Q E s:=by
 obtain⟨xs,e⟩:=hi.allInts.items
 have hn:numsOf (intItems xs).toList=ns:=by rw [← e];exact hi.numsOf
 rw [nums_intItems] at hn;subst hn;rw [e] at hl
 have hsz:0<xs.size:=by simpa using hne
 refine PySem.max_intList hh hl hsz fun v h' tk hv hk=>?_;obtain⟨t,rfl⟩:=intItems_at hv;obtain⟨h1,h2⟩:=argBest_gt (numAt xs) (xs.size-1);refine h h' tk _ t hk ?_ fun a ha=>?_
 ·rw [numAt_eq];exact PySem.getD_mem (by rw [length_map,Array.length_toList];omega)
 ·obtain⟨j,hj,rfl⟩:=mem_getD ha;rw [length_map,Array.length_toList] at hj;rw [← numAt_eq];exact h2 j (by omega)
end
section
variable {X:Cx}
def zQS (K:W.Frag):List V→Hp→VK→Prop:=fun vs H Q=>∃ (a:Addr) (ns:List Int),vs=[V.ref a]∧SqL K H a (ns.map V.int)∧Q (.int ns.sum) H
def zQT (K:W.Frag):List V→Hp→VK→Prop:=fun vs H Q=>∃ (a:Addr) (ns:List Int),vs=[V.ref a]∧SqL K H a (ns.map V.int)∧0<ns.length∧∀ m,m∈ns→(∀ y,y∈ns→y≤m)→Q (.int m) H
theorem zBZ (hc:X.calm=true):zBm X (.builtin "sum") (zQS X.K):=by
 intro pins s σ H vs us Q I r h;obtain⟨a,ns,rfl,hs,q⟩:=h;obtain⟨its,rv,hl,_⟩:=I.list hs;rw [zt.ref1 r];exact zND (I.ok.hd hc) hl.isList rv.ints fun h' tk t' hk=>⟨.int _,H,I.kept hk,⟨_,rfl⟩,q⟩
theorem zMC (hc:X.calm=true):zBm X (.builtin "max") (zQT X.K):=by
 intro pins s σ H vs us Q I r h;obtain⟨a,ns,rfl,hs,hne,q⟩:=h;obtain⟨its,rv,hl,_⟩:=I.list hs;rw [zt.ref1 r];exact zNE (I.ok.hd hc) hl.isList rv.ints hne fun h' tk m t' hk h1 h2=>⟨.int _,H,I.kept hk,⟨_,rfl⟩,q m h1 h2⟩
end
section
variable {X:Cx}
end
section
variable {X:Cx}
end
section
variable {X:Cx}
end
mutual
inductive Dp (K:W.Frag) (H:Hp):V→PyData→Prop
 | non:Dp K H .non .none
 | bl (b:Bool):Dp K H (.bl b) (.bool b)
 | int (i:Int):Dp K H (.int i) (.int i)
 | str (x:Str):Dp K H (.str x) (.str x)
 | lst {a:Addr}{xs:List V}{ds:List PyData}:SqL K H a xs→zIW K H xs ds→Dp K H (.ref a) (.list ds)
 | tup {a:Addr}{xs:List V}{ds:List PyData}:SqT K H a xs→zIW K H xs ds→Dp K H (.ref a) (.tuple ds)
inductive zIW (K:W.Frag) (H:Hp):List V→List PyData→Prop
 | nil:zIW K H [] []
 | cons {v:V}{vs:List V}{d:PyData}{ds:List PyData}:Dp K H v d→zIW K H vs ds→zIW K H (v::vs) (d::ds)
end
section
variable {X:Cx}{pins:List (Addr×Obj)}{σ:St}{H:Hp}{s:Shared}
mutual
theorem Dp.reads (I:Inv X pins σ H s):∀ (d:PyData) (v:V) (u:Value),Dp X.K H v d→jX v u→∃ as,Reads s.heap u d as
 | .none,_,_,h,r=>by
  cases h
  cases r
  exact⟨_,Reads.none⟩
 | .bool b,_,_,h,r=>by
  cases h
  cases r
  exact⟨_,Reads.bool b⟩
 | .int i,_,_,h,r=>by
  cases h
  obtain⟨t,rfl⟩:=r;exact⟨_,Reads.int i t⟩
 | .str x,_,_,h,r=>by
  cases h
  obtain⟨t,rfl⟩:=r;exact⟨_,Reads.str x t⟩
 | .list ds,_,_,h,r=>by
  cases h with
  | lst hs ha =>
   cases r
   obtain⟨its,rv,⟨o,n,ho,hc,_,hd⟩,_⟩:=I.list hs;obtain⟨as,hr⟩:=Dp.readsAll I ds _ its ha rv;exact⟨_,Reads.list ho hc hd hr⟩
 | .tuple ds,_,_,h,r=>by
  cases h with
  | tup hs ha =>
   cases r
   obtain⟨its,rv,⟨o,ho,hc,n,hd⟩,_⟩:=I.tuple hs;obtain⟨as,hr⟩:=Dp.readsAll I ds _ its ha rv;exact⟨_,Reads.tuple ho hc hd hr⟩
 | .dict _,_,_,h,_=>by cases h
theorem Dp.readsAll (I:Inv X pins σ H s):∀ (ds:List PyData) (vs:List V) (us:List Value),zIW X.K H vs ds→zt vs us→∃ as,ReadsAll s.heap us ds as
 | [],_,_,h,r=>by
  cases h
  cases r
  exact⟨_,ReadsAll.nil⟩
 | d::ds,_,_,h,r=>by
  cases h with
  | cons h1 h2 =>
   cases r with
   | cons r1 r2 =>
    obtain⟨as,q1⟩:=Dp.reads I d _ _ h1 r1;obtain⟨bs,q2⟩:=Dp.readsAll I ds _ _ h2 r2;exact⟨_,ReadsAll.cons q1 q2⟩
end
end
section
variable {X:Cx}
def zP2 (K:W.Frag):R2:=fun x y H Q=>∃ d e,Dp K H x d∧Dp K H y e∧SeqAt.shaped d=true∧SeqAt.shaped e=true∧Q (.bl (PyData.eqv d e)) H
theorem zJf (hu:X.A.units+64<cLine):OpR X (compareOp .Eq) (zP2 X.K):=by
 intro pins s σ H x y v u Q I rx ry h;obtain⟨d,e,hd,he,sd,se,q⟩:=h;obtain⟨as,r1⟩:=Dp.reads I d x v hd rx;obtain⟨bs,r2⟩:=Dp.reads I e y u he ry;exact SeqAt.compareEq_shaped r1 r2 sd se hu ⟨.bl _,H,I,rfl,q⟩
end
end L2
namespace L2
open PySem PySem.Spec PyProof.Rows
abbrev zMD (h:Heap) (c:Addr) (v:Option Value):Prop:=h.IsCell c v
def zQU (scope sc:Scope):Scope :=
 { scope with names:=scope.names.map fun(n,k)=>if(k == .free&&sc.kind == .function&&sc.names.lookup n==some .cell) then(n,.cell) else(n,k) }
def jb (cells:List (Str×Addr)):List (Str×NameKind)→List (Str×Addr)→List (Str×Addr)
 | [],acc=>acc
 | (n,k)::r,acc=>if k == .free then jb cells r ((n,(cells.lookup n).getD 0)::acc) else jb cells r acc
theorem zBa (env:Env) (f:Str×NameKind→List (Str×Addr)→Sem (ForInStep (List (Str×Addr))))
  (hf:∀ n k c,f (n,k) c=if k == .free then(do let a ← cellOf env n;pure (.yield ((n,a)::c))) else pure (.yield c)) :
  ∀ (names:List (Str×NameKind)) (acc:List (Str×Addr)),(∀ y∈names,y.2 = .free→∃ c,env.cells.lookup y.1=some c)→forIn names acc f=pure (jb env.cells names acc)
 | [],acc,_=>by rw [forIn_nil];rfl
 | (n,k)::r,acc,h=>by
  rw [forIn_cons,hf];have ih:=fun acc=>zBa env f hf r acc fun y hy=>h y (mem_cons_of_mem _ hy);unfold jb;by_cases hk:(k==NameKind.free)=true
  ·rw [if_pos hk,if_pos hk];obtain⟨c,hc⟩:=h (n,k) mem_cons_self (by simpa using hk)
   have e:cellOf env n=pure c:=by unfold cellOf;rw [hc]
   rw [e]
   have e2:(env.cells.lookup n).getD 0=c:=by rw [hc];rfl
   rw [e2];exact ih _
  ·rw [if_neg hk,if_neg hk];exact ih _
theorem zIX {scope:Scope}{env:Env}(h:∀ y∈scope.names,y.2 = .free→∃ c,env.cells.lookup y.1=some c):closureFor scope env=pure (jb env.cells scope.names []):=by
 simp only [closureFor];rw [zBa env _ (fun n k c=>rfl) scope.names [] h];rfl
theorem zA2 {α:Type}:∀ {l:List (Str×α)}{n:Str}{c:α},(n,c)∈l→∃ c',l.lookup n=some c'
 | (k,v)::r,n,c,h=>by
  rw [lookup_cons]
  cases hb:n==k with
  | true=>exact⟨_,rfl⟩
  | false =>
   rcases List.mem_cons.mp h with e | h
   ·cases e;simp at hb
   ·exact zA2 h
theorem yj {cells:List (Str×Addr)}:∀ {names:List (Str×NameKind)}{acc:List (Str×Addr)}{n:Str}{c:Addr},(n,c)∈jb cells names acc→(n,c)∈acc∨((n,.free)∈names∧c=(cells.lookup n).getD 0)
 | [],_,_,_,h => .inl h
 | (m,k)::r,acc,n,c,h=>by
  unfold jb at h;split at h
  ·rename_i hk
   have hk:k = .free:=by simpa using hk
   rcases yj h with h | ⟨h1,h2⟩
   ·rcases List.mem_cons.mp h with e | h
    ·cases e;exact .inr ⟨hk▸mem_cons_self,rfl⟩
    ·exact .inl h
   ·exact .inr ⟨mem_cons_of_mem _ h1,h2⟩
  ·rcases yj h with h | ⟨h1,h2⟩
   ·exact .inl h
   ·exact .inr ⟨mem_cons_of_mem _ h1,h2⟩
theorem wx {cells:List (Str×Addr)}:∀ {names:List (Str×NameKind)}{acc:List (Str×Addr)}{p:Str×Addr},p∈acc→p∈jb cells names acc
 | [],_,_,h=>h
 | (m,k)::r,acc,p,h=>by
  unfold jb;split
  ·exact wx (mem_cons_of_mem _ h)
  ·exact wx h
theorem wy {cells:List (Str×Addr)}:∀ {names:List (Str×NameKind)}{acc:List (Str×Addr)}{n:Str},(n,.free)∈names→(n,(cells.lookup n).getD 0)∈jb cells names acc
 | (m,k)::r,acc,n,h=>by
  unfold jb
  rcases List.mem_cons.mp h with e | h
  ·cases e
   exact wx mem_cons_self
  ·split
   ·exact wy h
   ·exact wy h
theorem xW:∀ {names:List (Str×NameKind)}{h:Heap}{acc:List (Str×Addr)}{x:Str}{c:Addr},(x,c)∈cellsFrom h.objs.size names acc →
  (x,c)∈acc∨((x,.cell)∈names∧h.objs.size≤c∧zMD (pushCells h names) c none)
 | [],_,_,_,_,h => .inl h
 | (n,k)::r,h,acc,x,c,hm=>by
  unfold cellsFrom at hm;unfold pushCells;split at hm
  ·rename_i hk;rw [if_pos hk]
   have hk:k = .cell:=by simpa using hk
   rw [← Heap.size_push h { cls := .type "cell",data := .cell none }] at hm
   rcases xW hm with hm | ⟨h1,h2,h3⟩
   ·rcases List.mem_cons.mp hm with e | hm
    ·cases e
     exact .inr ⟨hk▸mem_cons_self,le_refl _,_,pushCells_keeps r _ _ _ (Heap.get?_push_size _ rfl),rfl⟩
    ·exact .inl hm
   ·rw [Heap.size_push] at h2;exact .inr ⟨mem_cons_of_mem _ h1,le_of_succ_le h2,h3⟩
  ·rename_i hk;rw [if_neg hk]
   rcases xW hm with hm | ⟨h1,h2,h3⟩
   ·exact .inl hm
   ·exact .inr ⟨mem_cons_of_mem _ h1,h2,h3⟩
theorem zAU:∀ {names:List (Str×NameKind)}{n:Nat}{acc:List (Str×Addr)}{p:Str×Addr},p∈acc→p∈cellsFrom n names acc
 | [],_,_,_,h=>h
 | (m,k)::r,n,acc,p,h=>by
  unfold cellsFrom;split
  ·exact zAU (mem_cons_of_mem _ h)
  ·exact zAU h
theorem zCT:∀ {names:List (Str×NameKind)}{n:Nat}{acc:List (Str×Addr)}{x:Str},(x,.cell)∈names→∃ c,(x,c)∈cellsFrom n names acc
 | (m,k)::r,n,acc,x,h=>by
  unfold cellsFrom
  rcases List.mem_cons.mp h with e | h
  ·cases e
   exact⟨n,zAU mem_cons_self⟩
  ·split
   ·exact zCT h
   ·exact zCT h
theorem zCU:∀ {names:List (Str×NameKind)}{h:Heap}{acc:List (Str×Addr)}{x y:Str}{c:Addr},(∀ p∈acc,p.2<h.objs.size)→(∀ x y c,(x,c)∈acc→(y,c)∈acc→x=y) →
  (x,c)∈cellsFrom h.objs.size names acc→(y,c)∈cellsFrom h.objs.size names acc→x=y
 | [],_,_,_,_,_,_,hi,h1,h2=>hi _ _ _ h1 h2
 | (n,k)::r,h,acc,x,y,c,hl,hi,h1,h2=>by
  unfold cellsFrom at h1 h2;split at h1
  ·rename_i hk;rw [if_pos hk] at h2;rw [← Heap.size_push h { cls := .type "cell",data := .cell none }] at h1 h2;refine zCU (h:=h.push _) (fun p hp=>?_) (fun x y c a b=>?_) h1 h2
   ·rw [Heap.size_push]
    rcases List.mem_cons.mp hp with rfl | hp
    ·exact lt_succ_self _
    ·exact lt_succ_of_lt (hl p hp)
   ·rcases List.mem_cons.mp a with e | a<;>rcases List.mem_cons.mp b with e' | b
    ·cases e;cases e';rfl
    ·cases e;exact absurd (hl _ b) (lt_irrefl _)
    ·cases e';exact absurd (hl _ a) (lt_irrefl _)
    ·exact hi _ _ _ a b
  ·rename_i hk;rw [if_neg hk] at h2;exact zCU hl hi h1 h2
theorem zGf {M:Model}{A:Around}{E:Value→Shared→Prop}{s:Shared}{scope:Scope}{globals:Addr}{closure:List (Str×Addr)}{qual:Str}{func:Option Addr}{code:Value}{around:Env}{builtins:Addr}{Q:Env→Shared→Prop}
  (h:Q (newEnv scope s.heap.objs.size globals (cellsFrom (s.heap.objs.size+1) scope.names closure) qual func code (some around) builtins)
   { s with heap:=pushCells (s.heap.push { cls := .type "dict",data := .dict #[] }) scope.names }) :
  wpAny M A (newFunctionEnv scope globals closure [] qual func code (some around) builtins) Q E s:=by
 simp only [newFunctionEnv,Option.isSome_some,if_true];refine wpAny_bind (wpAny_alloc ?_);refine wpAny_bind (wpAny_layCells _ (fun n k c=>rfl) scope.names closure _ _ ?_);rw [show({ s with heap:=s.heap.push { cls := .type "dict",data := .dict #[] } }:Shared).heap.objs.size=s.heap.objs.size+1 from Heap.size_push ..];rw [forIn_nil];exact wpAny_bind (wpAny_pure (wpAny_pure h))
theorem wz {sc:Scope}:∀ {names:List (Str×NameKind)}{x:Str}{k:NameKind},
  (names.map fun(n,k)=>if(k==NameKind.free&&sc.kind == .function&&sc.names.lookup n==some .cell) then(n,NameKind.cell) else(n,k)).lookup x=some k →
  ∃ k',names.lookup x=some k'∧(k=k'∨(k' = .free∧k = .cell))
 | [],_,_,h=>by simp at h
 | (n,k₀)::r,x,k,h=>by
  have ih:=@wz sc r x k;have h':List.lookup x ((if(k₀==NameKind.free&&sc.kind == .function&&sc.names.lookup n==some .cell)=true then(n,NameKind.cell) else(n,k₀))::(r.map _))=some k:=h
  cases hx:x==n with
  | true =>
   simp only [lookup_cons,hx];by_cases hc:(k₀==NameKind.free&&sc.kind == .function&&sc.names.lookup n==some .cell)=true
   ·rw [if_pos hc] at h';simp only [lookup_cons,hx] at h'
    cases h'
    simp only [Bool.and_eq_true,beq_iff_eq] at hc;exact⟨k₀,rfl,.inr ⟨hc.1.1,rfl⟩⟩
   ·rw [if_neg hc] at h';simp only [lookup_cons,hx] at h'
    cases h'
    exact⟨_,rfl,.inl rfl⟩
  | false =>
   simp only [lookup_cons,hx];by_cases hc:(k₀==NameKind.free&&sc.kind == .function&&sc.names.lookup n==some .cell)=true
   ·rw [if_pos hc] at h';simp only [lookup_cons,hx] at h';exact ih h'
   ·rw [if_neg hc] at h';simp only [lookup_cons,hx] at h';exact ih h'
structure zJg (N:List Str) (sc scope:Scope) (own:List (Str×Nat)):Prop where
 kind:scope.kind = .function
 uniq:∀ y∈scope.names,scope.names.lookup y.1=some y.2
 ix:∀ p∈own,N[p.2]? = some p.1
 free:∀ y∈scope.names,y.2 = .free→sc.names.lookup y.1=some .cell∨sc.names.lookup y.1=some .free
 own:∀ y∈scope.names,y.2 = .local∨y.2 = .cell→y.1∈own.map (·.1)∨y.1∉N
def vV (σ:St):List Nat→St
 | []=>σ
 | v::vs=>(vV σ vs).set v none
theorem w6 (σ:St):∀ vs:List Nat,(vV σ vs).length=σ.length
 | []=>rfl
 | v::vs=>by unfold vV;rw [length_set,w6 σ vs]
theorem zCV {σ:St}{i:Nat}{x:V}:∀ {vs:List Nat},(vV σ vs)[i]? = some (some x)→σ[i]? = some (some x)∧i∉vs
 | [],h=>⟨h,by simp⟩
 | v::vs,h=>by
  unfold vV at h;by_cases hi:v=i
  ·subst hi;by_cases hv:v<(vV σ vs).length
   ·rw [getElem?_set_self hv] at h;cases h
   ·rw [List.getElem?_eq_none (by simpa using hv)] at h;cases h
  ·rw [getElem?_set_ne hi] at h;obtain⟨h1,h2⟩:=zCV h;exact⟨h1,by simp only [mem_cons,not_or];exact⟨fun e=>hi e.symm,h2⟩⟩
abbrev Cx.blk (X:Cx) (s:Shared) (H:Hp) (scope:Scope) (cenv:Env) (fp:List Addr):Cx:={ X with s_0:=s,H_0:=H,env:=cenv,outer:=X.stack,ex:=fp,fn:=fun x=>scope.names.lookup x==some .cell,pn:=[],xe:=fun _ _=>False }
section
variable {X:Cx}{pins:List (Addr×Obj)}{σ:St}{H:Hp}{s:Shared}
theorem zGg {scope:Scope}{own:List (Str×Nat)}{fp:List Addr}(I:Inv X pins σ H s) (ok:zJg X.N X.env.scope scope own) (hN:X.N.Nodup) (hfp:∀ b∈fp,zIy X pins H b∧b<s.heap.objs.size) :
  Inv (X.blk s H scope (compEnvC scope (cellsFrom (s.heap.objs.size+1) scope.names (jb X.env.cells scope.names [])) s.heap.objs.size X.env) fp) [] (vV σ (own.map (·.2))) H { s with heap:=pushCells (s.heap.push { cls := .type "dict",data := .dict #[] }) scope.names }:=by
 have hfree:∀ y∈scope.names,y.2 = .free→∃ c,X.env.cells.lookup y.1=some c:=fun y hy e=>by
  rcases ok.free y hy e with k | k
  ·exact I.ok.has _ (.inl k)
  ·exact I.ok.has _ (.inr k)
 generalize hcenv:compEnvC scope (cellsFrom (s.heap.objs.size+1) scope.names (jb X.env.cells scope.names [])) s.heap.objs.size X.env=cenv;have kp:∀ b o,s.heap.get? b=some o→(pushCells (s.heap.push { cls := .type "dict",data := .dict #[] }) scope.names).get? b=some o:=fun b o e=>pushCells_keeps _ _ _ _ (Heap.get?_push_of_some _ e)
 have hL:cenv.locals=s.heap.objs.size:=by rw [← hcenv];rfl
 have hcl:cenv.cells=cellsFrom (s.heap.objs.size+1) scope.names (jb X.env.cells scope.names []):=by rw [← hcenv];rfl
 have hsc:cenv.scope=zQU scope X.env.scope:=by rw [← hcenv];rfl
 rw [← Heap.size_push s.heap { cls := .type "dict",data := .dict #[] }] at hcl
 have cm:∀ {y c},(y,c)∈jb X.env.cells scope.names []→X.env.cells.lookup y=some c∧c<s.heap.objs.size:=fun {y c} hm=>by
  rcases yj hm with hm | ⟨h1,rfl⟩
  ·cases hm
  ·obtain⟨c,hc⟩:=hfree _ h1 rfl;rw [hc];obtain⟨w,z⟩:=I.cell _ _ hc;exact⟨rfl,z.lt⟩
 have mem:∀ {y c},cenv.cells.lookup y=some c→(X.env.cells.lookup y=some c∧c<s.heap.objs.size)∨(s.heap.objs.size+1≤c∧zMD (pushCells (s.heap.push { cls := .type "dict",data := .dict #[] }) scope.names) c none):=fun {y c} e=>by
  rw [hcl] at e
  rcases xW (PySem.mem_of_lookup e) with hm | ⟨_,h2,h3⟩
  ·exact .inl (cm hm)
  ·rw [Heap.size_push] at h2;exact .inr ⟨h2,h3⟩
 have look:∀ {y},scope.names.lookup y=some .free→∃ c,cenv.cells.lookup y=some c∧X.env.cells.lookup y=some c:=fun {y} hl=>by
  have hy:(y,NameKind.free)∈scope.names:=PySem.mem_of_lookup hl;obtain⟨c',e'⟩:=zA2 (zAU (names:=scope.names) (n:=(s.heap.push { cls := .type "dict",data := .dict #[] }).objs.size) (wy (cells:=X.env.cells) (acc:=[]) hy));rw [← hcl] at e';refine⟨c',e',?_⟩;rw [hcl] at e'
  rcases xW (PySem.mem_of_lookup e') with hm | ⟨h1,_,_⟩
  ·exact(cm hm).1
  ·have:=ok.uniq _ h1;rw [hl] at this;cases this
 have okB:(X.blk s H scope cenv fp).Ok:=by
  refine⟨I.ok.mod,by show cenv.scope.kind=_;rw [hsc];exact ok.kind,by show cenv.globals=_;rw [← hcenv];exact I.ok.glob,by show cenv.builtins=_;rw [← hcenv];exact I.ok.blt,by show s.heap.objs.size≤cenv.locals;rw [hL];exact le_refl _,
   fun y z c e1 e2=>?_,fun y hy=>?_,fun y c z e=>?_,I.ok.hd,I.ok.frames,.inl rfl,fun b hb=>⟨?_,fun y c e z=>?_⟩,I.bs,le_trans I.ok.bsz I.sz,fun b o e hb=>?_,fun b hb z=>?_,I.stack,I.stkFree⟩
  ·have e1:cenv.cells.lookup y=some c:=e1;have e2:cenv.cells.lookup z=some c:=e2;rw [hcl] at e1 e2;refine zCU (fun p hp=>?_) (fun y z c a b=>I.ok.inj y z c (cm a).1 (cm b).1) (PySem.mem_of_lookup e1) (PySem.mem_of_lookup e2);rw [Heap.size_push];exact lt_succ_of_lt (cm (y:=p.1) (c:=p.2) hp).2
  ·show ∃ c,cenv.cells.lookup y=some c
   have key:∀ k,cenv.kindOf y=some k→(k = .cell∨k = .free)→∃ c,cenv.cells.lookup y=some c:=fun k hk hk'=>by
    unfold Env.kindOf at hk;rw [hsc] at hk;obtain⟨k',e,r⟩:=wz hk
    have:k' = .cell∨k' = .free:=by
     rcases r with rfl | ⟨rfl,_⟩
     ·exact hk'
     ·exact .inr rfl
    rcases this with rfl | rfl
    ·obtain⟨c,hm⟩:=zCT (n:=(s.heap.push { cls := .type "dict",data := .dict #[] }).objs.size) (acc:=jb X.env.cells scope.names []) (PySem.mem_of_lookup e);obtain⟨c',e'⟩:=zA2 hm;exact⟨c',by rw [hcl];exact e'⟩
    ·obtain⟨c,h1,_⟩:=look e;exact⟨c,h1⟩
   rcases hy with hy | hy
   ·exact key _ hy (.inl rfl)
   ·exact key _ hy (.inr rfl)
  ·have z:(scope.names.lookup y==some NameKind.cell)=true:=z
   have z:scope.names.lookup y=some .cell:=by simpa using z
   have e:cenv.cells.lookup y=some c:=e;rw [hcl] at e
   rcases xW (PySem.mem_of_lookup e) with hm | ⟨_,h2,_⟩
   ·rcases yj hm with hm | ⟨h1,_⟩
    ·cases hm
    ·have q:=ok.uniq _ h1;rw [z] at q;cases q
   ·rw [Heap.size_push] at h2;exact le_of_succ_le h2
  ·show b≠cenv.locals;rw [hL];exact ne_of_lt (hfp b hb).2
  ·have e:cenv.cells.lookup y=some c:=e
   rcases mem e with ⟨h1,_⟩ | ⟨h1,_⟩
   ·exact(hfp b hb).1.2.2.2.2.1 y c h1 z
   ·have h2:s.heap.objs.size+1≤b:=by rw [← z];exact h1
    exact absurd (lt_of_lt_of_le (hfp b hb).2 (le_of_succ_le h2)) (lt_irrefl _)
  ·rcases(hfp b hb).1.2.2.2.1 with z | z
   ·exact I.ok.noex b o e z
   ·exact absurd (lt_of_lt_of_le (Heap.lt_size e) (le_trans I.ok.bsz z)) (lt_irrefl _)
  ·rcases List.mem_cons.mp (I.stkSub b z) with z | z
   ·exact(hfp b hb).1.2.1 z
   ·exact(hfp b hb).1.2.2.1 z
 refine⟨okB,rfl,I.bare,Un.kept kp,⟨fun _=>none,?_,fun i y av e1 e2 e3=>?_⟩,fun y c e=>?_,?_,fun y c e=>?_,fun p hp=>?_,I.hok.kept kp,by rw [w6];exact I.len⟩
 ·show Heap.Ns _ cenv.locals _;rw [hL];exact Heap.Ns.keeps (Heap.Ns.new ..) fun b o e=>pushCells_keeps _ _ _ _ e
 ·obtain⟨e2,hne⟩:=zCV e2
  have hfr:scope.names.lookup y=some .free∧(cenv.kindOf y=some .cell∨cenv.kindOf y=some .free):=by
   have key:∀ k,cenv.scope.names.lookup y=some k→k = .local∨k = .cell∨k = .free→scope.names.lookup y=some .free∧(cenv.kindOf y=some .cell∨cenv.kindOf y=some .free):=fun k hk hk'=>by
    have hk0:=hk;rw [hsc] at hk;obtain⟨k',e,r⟩:=wz hk
    have no:¬ (k' = .local∨k' = .cell):=fun hh=>by
     rcases ok.own _ (PySem.mem_of_lookup e) hh with e' | e'
     ·obtain⟨p,hp,hpy⟩:=List.mem_map.mp e';have e3:=ok.ix p hp;have:p.1=y:=hpy;rw [this] at e3;exact hne (List.mem_map.mpr ⟨p,hp,zEL hN e3 e1⟩)
     ·exact e' (List.mem_of_getElem? e1)
    rcases r with rfl | ⟨rfl,rfl⟩
    ·rcases hk' with rfl | rfl | rfl
     ·exact absurd (.inl rfl) no
     ·exact absurd (.inr rfl) no
     ·exact⟨e,.inr hk0⟩
    ·exact⟨e,.inl hk0⟩
   have e3:Vis cenv.scope y:=e3
   rcases e3 with e3 | e3 | e3
   ·exact key _ e3 (.inl rfl)
   ·exact key _ e3 (.inr (.inl rfl))
   ·exact key _ e3 (.inr (.inr rfl))
  obtain⟨m,hn,hl⟩:=I.loc;have hvis:Vis X.env.scope y:=(ok.free _ (PySem.mem_of_lookup hfr.1) rfl).elim (fun k => .inr (.inl k)) (fun k => .inr (.inr k));obtain⟨w,r,q⟩:=hl i y av e1 e2 hvis;refine⟨w,r,.inr ⟨hfr.2,?_⟩⟩;obtain⟨c,h1,h2⟩:=look hfr.1
  rcases q with ⟨k,_⟩ | ⟨_,c',e',z⟩
  ·have k:X.env.scope.names.lookup y=some .local:=k
   rcases ok.free _ (PySem.mem_of_lookup hfr.1) rfl with k' | k'<;>rw [show X.env.scope.names.lookup y=_ from k'] at k<;>cases k
  ·rw [h2] at e';cases e';exact⟨c,h1,z.keeps kp⟩
 ·have e:cenv.cells.lookup y=some c:=e
  rcases mem e with ⟨h1,_⟩ | ⟨_,z⟩
  ·obtain⟨w,z⟩:=I.cell y c h1;exact⟨w,z.keeps kp⟩
  ·exact⟨_,z⟩
 ·show H cenv.locals=none;rw [hL];exact I.hok.fresh (le_refl _)
 ·have e:cenv.cells.lookup y=some c:=e
  rcases mem e with ⟨h1,_⟩ | ⟨h1,_⟩
  ·exact I.freeC y c h1
  ·exact I.hok.fresh (le_of_succ_le h1)
 ·exact absurd (show p∈([]:List (Addr×Obj))++[] from hp) (by simp)
theorem zOY {E:Value→Shared→Prop}{D:Addr}{xs:List V}{y:V}{v:Value}{Q:Value→Shared→Prop}(I:Inv X pins σ H s) (hD:H D=some (.lst xs)) (hz:xs.length<sizeLine) (r:jX y v)
  (h:∀ s',Inv X pins σ (upd H D (.lst (xs++[y]))) s'→Q .none s'):wpAny (model X.prog X.w) X.A (call (.builtin "list.append") [.ref D,v]) Q E s:=by
 obtain⟨hz',its,n,ri,e⟩:=I.hok D _ hD;have hl:=ri.length;refine append_at (hsz:=by rw [size_toArray];omega) e fun h' sb ho'=>?_;refine h { s with heap:=h' } (I.write (t':=s.toks) (by rw [hD];trivial) (.inl rfl) (fun b u hb q=>(sb.2 b hb).trans q) ⟨_,ho'⟩ ⟨by rw [length_append];exact hz,its++[v],n+1,ri.append (.cons r .nil),?_⟩);rw [ho'];simp
def PTs (X:Cx) (ifs:List Expr) (t:TT):Prop :=
 ∀ (pins:List (Addr×Obj)) (s:Shared) (σ:St) (H:Hp) (Q:Bool→Hp→Prop),Inv X pins σ H s→t σ H Q →
  wpAny (model X.prog X.w) X.A (forIn ifs true fun c r=>if r=true then do let ok ← isTrue c X.env (eval c X.env);pure (ForInStep.yield ok) else pure (ForInStep.yield r)) (TP X pins σ Q) X.xe s
def zQV:TT:=fun _ H Q=>Q true H
theorem jm:PTs X [] zQV:=fun _ _ _ H _ I h=>wpAny_tests_nil ⟨H,I,h⟩
theorem zCW {c:Expr}{t:TT}(h:PT X c t):PTs X [c] t:=fun pins s σ H Q I hw=>wpAny_tests_one (h pins s σ H Q I hw)
end
theorem zNw {α:Type}{t:Sem α}{Q Q':α→Shared→Prop}{M:Model}{A:Around}{E:Value→Shared→Prop}{s:Shared}(h:wpAny M A t Q (fun _ _=>False) s) (hQ:∀ a s,Q a s→Q' a s):wpAny M A t Q' E s:=wpAny_mono h hQ fun _ _ z=>False.elim z
theorem zFc {prog:Program}{w:World}{A:Around}{R:Result→Shared→Prop}{s:Shared}{elt target iter:Expr}{ifs:List Expr}{scope:Scope}{pos:Pos}{it acc:Value}{env:Env}(I:Nat→Shared→Prop)
  (turn:∀ n s,I n s→wpAny (model prog w) A (pyNext it) (fun r s₁=>match r with
   | none=>R (.ok .next) s₁
   | some v=>wpAny (model prog w) A (letOwnedTupleGo target it v) (fun _ s₁'=>wpAny (model prog w) A (assign target env v) (fun _ s₂ =>
     wpAny (model prog w) A (forIn ifs true fun c r=>if r=true then do let ok ← isTrue c env (eval c env);pure (ForInStep.yield ok) else pure (ForInStep.yield r)) (fun ok s₃ =>
      if ok=true then wpAny (model prog w) A (eval elt env) (fun x s₄ =>
       wpAny (model prog w) A (call (.builtin "list.append") [acc,x]) (fun _ s₅=>∃ m,m<n∧I m s₅) (notedBy (model prog w) A env fun e s'=>R (.error e) s') s₄) (notedBy (model prog w) A env fun e s'=>R (.error e) s') s₃
      else ∃ m,m<n∧I m s₃) (notedBy (model prog w) A env fun e s'=>R (.error e) s') s₂) (notedBy (model prog w) A env fun e s'=>R (.error e) s') s₁') (notedBy (model prog w) A env fun e s'=>R (.error e) s') s₁) (notedBy (model prog w) A env fun e s'=>R (.error e) s') s)
  (n:Nat) (h:I n s) :
  codeAny (model prog w) A (.compLoop (.ListComp elt [⟨target,iter,ifs,0⟩] scope pos) 0 it acc env) R s:=by
 refine codeAny_loop rfl I (fun n s hI=>?_) n h;show wpAny _ A ((compTurn (.ListComp elt [⟨target,iter,ifs,0⟩] scope pos) 0 it acc env).onRaise (fun x=>do noteFrame x env;theTreesLotGoes x)) _ _ s;refine wpAny_noted ?_;rw [compTurn_list];refine wpAny_bind (wpAny_standAt (wpAny_bind (wpAny_mono (turn n s hI) (fun r s₁ h₁=>?_) fun _ _ h'=>h')))
 cases r with
 | none=>exact wpAny_pure h₁
 | some v =>
  refine wpAny_bind (wpAny_mono h₁ (fun _ s₁' h₁'=>?_) fun _ _ h'=>h');refine wpAny_bind (wpAny_mono h₁' (fun _ s₂ h₂=>wpAny_bind (wpAny_mono h₂ (fun ok s₃ h₃=>?_) fun _ _ h'=>h')) fun _ _ h'=>h')
  cases ok with
  | false=>exact wpAny_pure ⟨rfl,h₃⟩
  | true =>
   exact wpAny_bind (wpAny_bind (wpAny_mono h₃ (fun x s₄ h₄=>wpAny_bind (wpAny_mono h₄ (fun _ s₅ h₅=>wpAny_pure (wpAny_pure ⟨rfl,h₅⟩)) fun _ _ h'=>h')) fun _ _ h'=>h'))
section
variable {X:Cx}
def tLc (wi:TI) (g:TG) (tt:TT) (te:TE) (vs:List Nat):TE:=fun σ H Q=>wi σ H fun J H1=>∀ D,H1 D=none→∃ W:Nat→Nat→Hp→Prop,(∃ m,W 0 m (upd H1 D (.lst [])))∧∀ i m H,W i m H →
 (J.stop i H∧Q (.ref D) H)∨(J.go i H∧∃ Nx:Hp→Prop,(∀ H',Nx H'→∃ m',m'<m∧W (i+1) m' H')∧∀ x H',J.yld i H x H'→g x (vV σ vs) H' fun σ2 H2=>vV σ2 vs=vV σ vs∧tt σ2 H2 fun b H3 =>
  if b=true then te σ2 H3 fun y H4=>∃ acc,H4 D=some (.lst acc)∧acc.length<sizeLine∧Nx (upd H4 D (.lst (acc++[y]))) else Nx H3)
theorem zJh {pins:List (Addr×Obj)}{s:Shared}{σ:St}{H:Hp}{Q:VK}{elt tg iter:Expr}{ifs:List Expr}{scope:Scope}{own:List (Str×Nat)}{pos pos':Pos}{wi:TI}{g:TG}{tt:TT}{te:TE}{use:Option (Value→Sem Unit)}{Qf:Value→Shared→Prop}
  (hc:X.calm=true) (hN:X.N.Nodup) (I:Inv X pins σ H s) (hi:PI X tg iter wi) (ok:zJg X.N X.env.scope scope own)
  (hg:∀ (s:Shared) (H:Hp) (C:Addr) (cl:List (Str×Addr)) (fp:List Addr),PG (X.blk s H scope (compEnvC scope cl C X.env) fp) tg g) (ht:∀ (s:Shared) (H:Hp) (C:Addr) (cl:List (Str×Addr)) (fp:List Addr),PTs (X.blk s H scope (compEnvC scope cl C X.env) fp) ifs tt)
  (he:∀ (s:Shared) (H:Hp) (C:Addr) (cl:List (Str×Addr)) (fp:List Addr),PE (X.blk s H scope (compEnvC scope cl C X.env) fp) elt te) (hs:∀ x,foldedSetIterable iter X.env x=pure x)
  (h:tLc wi g tt te (own.map (·.2)) σ H Q)
  (hRR:∀ D C s' m H',Inv X pins σ H' s'→Q (.ref D) H'→s'.heap.Ns C m→zIy X pins H' C→compPost (model X.prog X.w) X.A X.xe use Qf (.ref D) C (.ok .next) s') :
  wpAny (model X.prog X.w) X.A (comprehension (.ListComp elt [⟨tg,iter,ifs,0⟩] scope pos) scope X.env pos' (newList []) false (eval iter X.env) use) Qf X.xe s:=by
 have hfree:∀ y∈scope.names,y.2 = .free→∃ c,X.env.cells.lookup y.1=some c:=fun y hy e=>by
  rcases ok.free y hy e with k | k
  ·exact I.ok.has _ (.inl k)
  ·exact I.ok.has _ (.inr k)
 refine wpAny_comprehension_free (use:=use) rfl hs (zIX hfree) ok.kind (fun y hy e=>by rw [ok.uniq y hy,e])
  (thn (hi pins s σ H _ I h) fun xv s1 hx=>thn hx fun itv s2 h2=>?_)
 obtain⟨it,fp,tn,J,H2,e,I2,T,st2,f2,q⟩:=h2;subst e;refine wpAny_newObj_type (zGf ?_) (by show 0≤sizeLine;decide);generalize hD:s2.heap.objs.size=D;have hDn:H2 D=none:=I2.hok.fresh (le_of_eq hD);obtain⟨W,⟨m0,w0⟩,turn⟩:=q D hDn;generalize hs3:({ s2 with heap:=s2.heap.push { cls := .type "list",data := .seq ([]:List Value).toArray } }:Shared)=s3
 have I3:Inv X pins σ (upd H2 D (.lst [])) s3:=by
  rw [← hs3];refine I2.laid (t':=s2.toks) (fun b o e=>Heap.get?_push_of_some _ e) (le_of_eq hD) ⟨zero_le _,[],0,.nil,?_⟩;rw [← hD];exact Heap.get?_push_size _ rfl
 have h3:s3.heap=s2.heap.push { cls := .type "list",data := .seq ([]:List Value).toArray }:=by rw [← hs3]
 have sz:∀ b∈fp,b<s2.heap.objs.size:=fun b hb=>by
  obtain⟨o,e,_⟩:=T.obj _ _ st2 b hb;exact Heap.lt_size e
 have f3:∀ b∈fp,zIy X pins (upd H2 D (.lst [])) b∧b<s3.heap.objs.size:=fun b hb=>by
  have hlt:=sz b hb;refine⟨⟨?_,(f2 b hb).2⟩,by rw [h3,Heap.size_push];exact lt_succ_of_lt hlt⟩;rw [zD (by rw [← hD];exact ne_of_lt hlt)];exact(f2 b hb).1
 have st3:tn 0 s3.heap:=T.keep _ _ _ st2 fun b _ o e=>by rw [h3];exact Heap.get?_push_of_some _ e
 have I4:=zGg I3 ok hN f3;have pg:=hg s3 (upd H2 D (.lst [])) s3.heap.objs.size (cellsFrom (s3.heap.objs.size+1) scope.names (jb X.env.cells scope.names [])) fp;have pt:=ht s3 (upd H2 D (.lst [])) s3.heap.objs.size (cellsFrom (s3.heap.objs.size+1) scope.names (jb X.env.cells scope.names [])) fp;have pe:=he s3 (upd H2 D (.lst [])) s3.heap.objs.size (cellsFrom (s3.heap.objs.size+1) scope.names (jb X.env.cells scope.names [])) fp;show codeAny _ _ (.compStart (.ListComp elt [⟨tg,iter,ifs,0⟩] scope pos) 0 (.ref it) (.ref D) (compEnvC scope (cellsFrom (s3.heap.objs.size+1) scope.names (jb X.env.cells scope.names [])) s3.heap.objs.size X.env)) (compPost (model X.prog X.w) X.A X.xe use Qf (.ref D) s3.heap.objs.size) { s3 with heap:=pushCells (s3.heap.push { cls := .type "dict",data := .dict #[] }) scope.names };have nfp:∀ b∈fp,(upd H2 D (.lst [])) b=none:=fun b hb=>(f3 b hb).1.1;generalize hce:compEnvC scope (cellsFrom (s3.heap.objs.size+1) scope.names (jb X.env.cells scope.names [])) s3.heap.objs.size X.env=ce at I4 pg pt pe ⊢
 have cL:ce.locals=s3.heap.objs.size:=by subst hce;rfl
 generalize hH3:upd H2 D (.lst [])=H3 at I3 I4 pg pt pe w0 nfp f3;generalize hs4:({ s3 with heap:=pushCells (s3.heap.push { cls := .type "dict",data := .dict #[] }) scope.names }:Shared)=s4 at I4 ⊢
 have st4:tn 0 s4.heap:=T.keep _ _ _ st3 fun b _ o e=>by rw [← hs4];exact pushCells_keeps _ _ _ _ (Heap.get?_push_of_some _ e)
 have stat:∀ {σ':St}{H':Hp}{s':Shared},Inv (X.blk s3 H3 scope ce fp) [] σ' H' s'→(∀ b∈fp,H' b=none)→∀ b∈fp,zIy (X.blk s3 H3 scope ce fp) [] H' b:=fun {σ' H' s'} I' hn b hb =>
  ⟨hn b hb,(I'.ok.exf b hb).1,I'.ok.exfs b hb,.inl hb,fun x c e=>(I'.ok.exf b hb).2 x c e,fun p hp=>absurd (show p∈([]:List (Addr×Obj))++[] from hp) (by simp)⟩
 have loop:codeAny (model X.prog X.w) X.A (.compLoop (.ListComp elt [⟨tg,iter,ifs,0⟩] scope pos) 0 (.ref it) (.ref D) ce) (compPost (model X.prog X.w) X.A X.xe use Qf (.ref D) s3.heap.objs.size) s4:=by
  refine zFc (fun n s'=>∃ i H',Inv (X.blk s3 H3 scope ce fp) [] (vV σ (own.map (·.2))) H' s'∧tn i s'.heap∧(∀ b∈fp,H' b=none)∧W i n H') ?_ m0 ⟨0,H3,I4,st4,nfp,w0⟩;rintro n s5 ⟨i,H5,I5,st5,n5,w5⟩
  rcases turn i n H5 w5 with ⟨stop,qq⟩ | ⟨go,Nx,hNx,step⟩
  ·have td:=T.done (X.blk s3 H3 scope ce fp) rfl rfl rfl hc i [] s5 _ H5 (fun _ _=>False) I5 (stat I5 n5) st5 stop;refine zNw td fun r s6 ⟨hr,I6⟩=>?_;subst hr;have I7:Inv X pins σ H5 s6:=I3.call' (ch:=fp) I6.os I6.base I6.hok I6.bare fun b hb=>⟨(f3 b hb).1.2.2.2.1,(f3 b hb).1.2.1,(f3 b hb).1.2.2.2.2.1,(f3 b hb).1.2.2.2.2.2⟩
   have nC:H5 s3.heap.objs.size=none:=by
    have z:H5 ce.locals=none:=I6.free;rw [cL] at z;exact z
   obtain⟨m,hn,_⟩:=I6.loc;have hn:s6.heap.Ns ce.locals m:=hn;rw [cL] at hn;exact hRR D s3.heap.objs.size s6 m H5 I7 qq hn (I3.fpOk (le_refl _) nC)
  ·have ti:=T.item (X.blk s3 H3 scope ce fp) rfl rfl rfl hc i [] s5 _ H5 (fun _ _=>False) I5 (stat I5 n5) st5 go;refine zNw ti fun r s6 ⟨u,hr,h6⟩=>?_;subst hr;refine zNw h6 fun _ s7 ⟨x,H7,I7,r7,y7,st7,n7⟩=>?_;have I7':=I7.pinned (stat I7 n7) (T.obj _ _ st7);refine zNw (pg _ s7 _ H7 x u _ I7' r7 (step x H7 y7)) fun _ s8 ⟨σ8,H8,I8,hw8,q8⟩=>?_;refine zNw (pt _ s8 σ8 H8 _ I8 q8) fun b s9 ⟨H9,I9,q9⟩=>?_
   have fin:∀ {s':Shared}{H':Hp},Inv (X.blk s3 H3 scope ce fp) ([]++zFP fp s7.heap) σ8 H' s'→Nx H'→∃ m,m<n∧∃ i H',Inv (X.blk s3 H3 scope ce fp) [] (vV σ (own.map (·.2))) H' s'∧tn i s'.heap∧(∀ b∈fp,H' b=none)∧W i m H':=fun {s' H'} I' nx=>by
    obtain⟨m',hm,w'⟩:=hNx H' nx
    have pin':∀ b∈fp,∀ o,s7.heap.get? b=some o→s'.heap.get? b=some o∧H' b=none:=fun b hb o e =>
     let z:=I'.pin (b,o) (mem_append_right _ (mem_append_right _ (zA1 hb e)))
     ⟨z.1,z.2.1⟩
    have hl:(vV σ (own.map (·.2))).length=σ8.length:=by rw [← hw8,w6]
    refine⟨m',hm,i+1,H',(I'.unpinned (pins:=[])).weak hl (fun j v e=>?_),T.keep _ _ _ st7 fun b hb o e=>(pin' b hb o e).1,fun b hb=>?_,w'⟩
    ·rw [← hw8] at e;exact(zCV e).1
    ·obtain⟨o,e,_⟩:=T.obj _ _ st7 b hb;exact(pin' b hb o e).2
   cases b with
   | false =>
    simp only [Bool.false_eq_true,if_false] at q9 ⊢;exact fin I9 q9
   | true =>
    simp only [if_true] at q9 ⊢;refine zNw (pe _ s9 σ8 H9 _ I9 q9) fun z s10 ⟨yv,H10,I10,r10,acc,hD10,hz10,nx⟩=>?_;exact zOY (X:=X.blk s3 H3 scope ce fp) I10 hD10 hz10 r10 fun s11 I11=>fin I11 nx
 exact codeAny_compStart_list loop (T.self X.A 0 _ _ _ st4 loop)
theorem xX {elt tg iter:Expr}{ifs:List Expr}{scope:Scope}{own:List (Str×Nat)}{pos:Pos}{wi:TI}{g:TG}{tt:TT}{te:TE}(hc:X.calm=true) (hN:X.N.Nodup) (hi:PI X tg iter wi) (ok:zJg X.N X.env.scope scope own)
  (hg:∀ (s:Shared) (H:Hp) (C:Addr) (cl:List (Str×Addr)) (fp:List Addr),PG (X.blk s H scope (compEnvC scope cl C X.env) fp) tg g) (ht:∀ (s:Shared) (H:Hp) (C:Addr) (cl:List (Str×Addr)) (fp:List Addr),PTs (X.blk s H scope (compEnvC scope cl C X.env) fp) ifs tt)
  (he:∀ (s:Shared) (H:Hp) (C:Addr) (cl:List (Str×Addr)) (fp:List Addr),PE (X.blk s H scope (compEnvC scope cl C X.env) fp) elt te) (hs:∀ x,foldedSetIterable iter X.env x=pure x:=by intro _;rfl) :
  PE X (.ListComp elt [⟨tg,iter,ifs,0⟩] scope pos) (tLc wi g tt te (own.map (·.2))):=by
 intro pins s σ H Q I h;rw [eval_ListComp];refine zJh hc hN I hi ok hg ht he hs h fun D C s' m H' I' q hn f=>⟨m,hn,fun h'' sb=>?_⟩;obtain⟨f0,f1,f2,f3,f4,f5⟩:=f;exact⟨.ref D,H',I'.turned (t':=s'.toks) (fun b o hb e=>(sb.2 b hb).trans e) f0 f1 f3 f4 f5,rfl,q⟩
theorem yk {i:Nat}{y:Str}{py:Pos}{elt tg iter:Expr}{ifs:List Expr}{scope:Scope}{own:List (Str×Nat)}{pos spos:Pos}{wi:TI}{g:TG}{tt:TT}{te:TE}(hc:X.calm=true) (hN:X.N.Nodup) (hy:X.N[i]? = some y) (hyl:X.env.scope.names.lookup y=some .local)
  (hsw:swapsWith (.ListComp elt [⟨tg,iter,ifs,0⟩] scope pos) (some (.Name y py)) spos.line X.env=pure true) (hi:PI X tg iter wi) (ok:zJg X.N X.env.scope scope own)
  (hg:∀ (s:Shared) (H:Hp) (C:Addr) (cl:List (Str×Addr)) (fp:List Addr),PG (X.blk s H scope (compEnvC scope cl C X.env) fp) tg g) (ht:∀ (s:Shared) (H:Hp) (C:Addr) (cl:List (Str×Addr)) (fp:List Addr),PTs (X.blk s H scope (compEnvC scope cl C X.env) fp) ifs tt)
  (he:∀ (s:Shared) (H:Hp) (C:Addr) (cl:List (Str×Addr)) (fp:List Addr),PE (X.blk s H scope (compEnvC scope cl C X.env) fp) elt te) (hs:∀ x,foldedSetIterable iter X.env x=pure x:=by intro _;rfl) :
  PS X (.Assign [.Name y py] (.ListComp elt [⟨tg,iter,ifs,0⟩] scope pos) spos) (zPN (tLc wi g tt te (own.map (·.2))) (zLA i)):=by
 intro pins s σ H D I h;rw [exec_Assign_Name_used _ _ _ _ hsw];refine wpAny_bind (wpAny_standAt (wpAny_bind ?_));show wpAny _ X.A (do let _ ← comprehension (.ListComp elt [⟨tg,iter,ifs,0⟩] scope pos) scope X.env (firstIterPos [⟨tg,iter,ifs,0⟩] pos) (newList []) false (eval iter X.env) (some (assign (.Name y py) X.env))) _ _ s;have h:tLc wi g tt te (own.map (·.2)) σ H (fun x H1=>zLA i x σ H1 D.nx):=h;refine wpAny_bind (thn (zJh (Qf:=fun _ s'=>SP X pins D .next s') hc hN I hi ok hg ht he hs h fun L C s' m H' I' q hn f=>?_) fun _ s' hq=>wpAny_pure (wpAny_pure hq));show wpAny _ _ (assign (.Name y py) X.env (.ref L)) _ _ _;refine wpAny_assign_Name (zFO (v:=V.ref L) I' hN hy (.inl hyl) rfl (fun s2 I2 ⟨a,sb,ha⟩=>?_) (.inr hyl));obtain⟨f0,f1,f2,f3,f4,f5⟩:=f
 have haC:C≠a:=by
  rcases ha with z | z
  ·rw [z];exact f1
  ·exact fun e=>f4 y a z e.symm
 refine⟨m,hn.sameBut sb haC,fun h3 sb3=>?_⟩;exact⟨_,H',I2.turned (t':=s2.toks) (fun b o hb e=>(sb3.2 b hb).trans e) f0 f1 f3 f4 f5,q⟩
theorem w8 {elt:Expr}{gs:List Comprehension}{scope:Scope}{pos py:Pos}{y:Str}{l:Nat}{env:Env}(hk:env.scope.kind = .function) (hy:env.scope.names.lookup y=some .local) (hl:(py.line==pos.line)=true)
  (ha:(scope.names.any fun(n,k)=>n==y&&(k == .local||k == .cell))=false):swapsWith (.ListComp elt gs scope pos) (some (.Name y py)) l env=pure true:=by
 have ky:env.kindOf y=some .local:=hy
 have hb:env.blockKind = .function:=by unfold Env.blockKind;rw [hk];rfl
 unfold swapsWith;simp only [hb,ky,ha,Expr.pos,hl];rfl
end
theorem zB3 {lo:Int}{n:Nat}{g:TG}{tt:TT}{te:TE}{vs:List Nat}{σ:St}{H1:Hp}{D:Addr}{Qd:Hp→Prop}(Pv:Nat→Hp→Prop) (h0:Pv 0 (upd H1 D (.lst [])))
  (hs:∀ i H,i<n→Pv i H→g (.int (lo+i)) (vV σ vs) H fun σ2 H2=>vV σ2 vs=vV σ vs∧tt σ2 H2 fun b H3 =>
   if b=true then te σ2 H3 fun y H4=>∃ acc,H4 D=some (.lst acc)∧acc.length<sizeLine∧Pv (i+1) (upd H4 D (.lst (acc++[y]))) else Pv (i+1) H3) (hd:∀ H,Pv n H→Qd H) :
  ∃ W:Nat→Nat→Hp→Prop,(∃ m,W 0 m (upd H1 D (.lst [])))∧∀ i m H,W i m H →
   ((Itr lo n).stop i H∧Qd H)∨((Itr lo n).go i H∧∃ Nx:Hp→Prop,(∀ H',Nx H'→∃ m',m'<m∧W (i+1) m' H')∧∀ x H',(Itr lo n).yld i H x H'→g x (vV σ vs) H' fun σ2 H2=>vV σ2 vs=vV σ vs∧tt σ2 H2 fun b H3 =>
    if b=true then te σ2 H3 fun y H4=>∃ acc,H4 D=some (.lst acc)∧acc.length<sizeLine∧Nx (upd H4 D (.lst (acc++[y]))) else Nx H3):=by
 refine⟨fun i m H=>m=n-i∧i≤n∧Pv i H,⟨n,by simp,zero_le _,h0⟩,?_⟩;rintro i m H ⟨rfl,hi,p⟩;by_cases hlt:i<n
 ·refine .inr ⟨hlt,Pv (i+1),fun H' p'=>⟨n-(i+1),by omega,rfl,hlt,p'⟩,fun x H' y=>?_⟩;obtain⟨e,y⟩:=y;subst e y;exact hs i _ hlt p
 ·have e:i=n:=by omega
  subst e;exact .inl ⟨le_refl _,hd H p⟩
theorem zA3 {K:W.Frag}{a:Addr}{xs:List V}{g:TG}{tt:TT}{te:TE}{vs:List Nat}{σ:St}{H1:Hp}{D:Addr}{Qd:Hp→Prop}(Pv:Nat→Hp→Prop) (h0:Pv 0 (upd H1 D (.lst []))) (hl:∀ i H,i≤xs.length→Pv i H→SqL K H a xs)
  (hs:∀ i x H,xs[i]? = some x→Pv i H→g x (vV σ vs) H fun σ2 H2=>vV σ2 vs=vV σ vs∧tt σ2 H2 fun b H3 =>
   if b=true then te σ2 H3 fun y H4=>∃ acc,H4 D=some (.lst acc)∧acc.length<sizeLine∧Pv (i+1) (upd H4 D (.lst (acc++[y]))) else Pv (i+1) H3) (hd:∀ H,Pv xs.length H→Qd H) :
  ∃ W:Nat→Nat→Hp→Prop,(∃ m,W 0 m (upd H1 D (.lst [])))∧∀ i m H,W i m H →
   ((Itl K a).stop i H∧Qd H)∨((Itl K a).go i H∧∃ Nx:Hp→Prop,(∀ H',Nx H'→∃ m',m'<m∧W (i+1) m' H')∧∀ x H',(Itl K a).yld i H x H'→g x (vV σ vs) H' fun σ2 H2=>vV σ2 vs=vV σ vs∧tt σ2 H2 fun b H3 =>
    if b=true then te σ2 H3 fun y H4=>∃ acc,H4 D=some (.lst acc)∧acc.length<sizeLine∧Nx (upd H4 D (.lst (acc++[y]))) else Nx H3):=by
 refine⟨fun i m H=>m=xs.length-i∧i≤xs.length∧Pv i H,⟨xs.length,by simp,zero_le _,h0⟩,?_⟩;rintro i m H ⟨rfl,hi,p⟩;have q:=hl i H hi p;by_cases hlt:i<xs.length
 ·refine .inr ⟨⟨xs,xs[i],q,by simp [hlt]⟩,Pv (i+1),fun H' p'=>⟨xs.length-(i+1),by omega,rfl,hlt,p'⟩,fun x H' y=>?_⟩;obtain⟨e,y⟩:=y;subst e;exact hs i x _ (y xs q) p
 ·have e:i=xs.length:=by omega
  subst e;exact .inl ⟨⟨xs,q,le_refl _⟩,hd H p⟩
def zBb (N:List Str) (sc scope:Scope) (own:List (Str×Nat)):Bool :=
 (match scope.kind with | .function=>true | _=>false)&&(scope.names.all fun y=>decide (scope.names.lookup y.1=some y.2))&&(own.all fun p=>decide (N[p.2]? = some p.1)) &&
  (scope.names.all fun y=>match y.2 with
   | .free=>(match sc.names.lookup y.1 with | some .cell=>true | some .free=>true | _=>false)
   | .local=>decide (y.1∈own.map (·.1))||decide (y.1∉N)
   | .cell=>decide (y.1∈own.map (·.1))||decide (y.1∉N)
   | _=>true)
theorem zx {N:List Str}{sc scope:Scope}{own:List (Str×Nat)}(h:zBb N sc scope own=true):zJg N sc scope own:=by
 unfold zBb at h;simp only [Bool.and_eq_true,List.all_eq_true,decide_eq_true_eq] at h;obtain⟨⟨⟨h1,h2⟩,h3⟩,h4⟩:=h;refine⟨?_,h2,h3,fun y hy e=>?_,fun y hy e=>?_⟩
 ·split at h1
  ·assumption
  ·cases h1
 ·have q:=h4 y hy;simp only [e] at q
  split at q<;>first | exact .inl (by assumption) | exact .inr (by assumption) | cases q
 ·have q:=h4 y hy
  rcases e with e | e<;>(simp only [e,Bool.or_eq_true,decide_eq_true_eq] at q;exact q)
end L2
namespace L2
open PySem PySem.Spec PyProof.Rows
section
variable {prog:Program}{w:World}{A:Around}{R:Result→Shared→Prop}{s:Shared}{elt t0 i0 t1 i1:Expr}{ifs0 ifs1:List Expr}{scope:Scope}{pos:Pos}{it acc:Value}{env:Env}
end
section
variable {X:Cx}
end
end L2
namespace L2
open PySem PySem.Spec PyProof.Rows
section
variable {κ:Type} [DecidableEq κ]
def yL (kvs:List (κ×V)) (k:κ):Option V:=(kvs.find? fun kv=>decide (kv.1=k)).map (·.2)
def zDI (kvs:List (κ×V)) (k:κ) (v:V):List (κ×V) :=
 if(kvs.any fun kv=>decide (kv.1=k))=true then kvs.map (fun kv=>if kv.1=k then(kv.1,v) else kv) else kvs++[(k,v)]
def wS (kvs:List (κ×V)) (k:κ):List (κ×V):=kvs.filter fun kv=>decide (kv.1≠k)
theorem kE {p:κ×V}{r:List (κ×V)}{k:κ}(e:p.1=k):yL (p::r) k=some p.2:=by simp [yL,find?_cons,e]
theorem jy {p:κ×V}{r:List (κ×V)}{k:κ}(e:¬ p.1=k):yL (p::r) k=yL r k:=by simp [yL,find?_cons,e]
theorem yl (k:κ):∀ kvs:List (κ×V),(kvs.any fun kv=>decide (kv.1=k))=(yL kvs k).isSome
 | []=>rfl
 | p::r=>by
  rw [any_cons];by_cases e:p.1=k
  ·simp only [kE e,decide_eq_true e,Bool.true_or,Option.isSome_some]
  ·rw [jy e,decide_eq_false e,Bool.false_or];exact yl k r
theorem zHi (k j:κ) (y:V):∀ kvs:List (κ×V),yL (kvs.map fun kv=>if kv.1=k then(kv.1,y) else kv) j=(yL kvs j).map fun x=>if j=k then y else x
 | []=>rfl
 | p::r=>by
  have ih:=zHi k j y r;rw [map_cons];by_cases h:p.1=k
  ·rw [if_pos h];by_cases e:p.1=j
   ·rw [kE (p:=(p.1,y)) e,kE e,Option.map_some,if_pos (e.symm.trans h)]
   ·rw [jy (p:=(p.1,y)) e,jy e,ih]
  ·rw [if_neg h];by_cases e:p.1=j
   ·rw [kE (p:=p) e,kE e,Option.map_some,if_neg (fun z=>h (e.trans z))]
   ·rw [jy (p:=p) e,jy e,ih]
theorem zFd (k j:κ) (y:V):∀ kvs:List (κ×V),yL kvs k=none→yL (kvs++[(k,y)]) j=if j=k then some y else yL kvs j
 | [],_=>by
  by_cases e:k=j
  ·rw [if_pos e.symm];exact kE (p:=(k,y)) e
  ·rw [if_neg (fun z=>e z.symm)];exact jy (p:=(k,y)) e
 | p::r,hn=>by
  rw [cons_append]
  have hk:¬ p.1=k:=fun z=>by rw [kE z] at hn;cases hn
  rw [jy hk] at hn;have ih:=zFd k j y r hn;by_cases e:p.1=j
  ·rw [kE e,kE e,if_neg (fun z=>hk (e.trans z))]
  ·rw [jy e,jy e,ih]
theorem zLK (kvs:List (κ×V)) (k j:κ) (y:V):yL (zDI kvs k y) j=if j=k then some y else yL kvs j:=by
 unfold zDI;by_cases a:(kvs.any fun kv=>decide (kv.1=k))=true
 ·rw [if_pos a,zHi];rw [yl] at a;by_cases e:j=k
  ·obtain⟨x,hx⟩:=Option.isSome_iff_exists.mp a;rw [if_pos e,e,hx,Option.map_some,if_pos rfl]
  ·rw [if_neg e]
   cases yL kvs j with
   | none=>rfl
   | some x=>rw [Option.map_some,if_neg e]
 ·rw [if_neg a];refine zFd k j y kvs ?_;rw [yl] at a
  cases q:yL kvs k with
  | none=>rfl
  | some x=>rw [q] at a;exact(a rfl).elim
theorem zCX (kvs:List (κ×V)) (k:κ) (v:V):(zDI kvs k v).length≤kvs.length+1:=by
 unfold zDI;split
 ·rw [length_map];omega
 ·rw [length_append,length_cons,List.length_nil];omega
theorem zHj {kvs:List (κ×V)}{k:κ}(v:V) (h:yL kvs k=none):zDI kvs k v=kvs++[(k,v)]:=by
 unfold zDI;rw [yl,h];exact if_neg (by decide)
theorem zDn.isSome_eq {o:Option V}{u:Option Value}(r:zDn o u):o.isSome=u.isSome:=by
 cases o with
 | none=>cases u with
  | none=>rfl
  | some _=>exact(show False from r).elim
 | some _=>cases u with
  | none=>exact(show False from r).elim
  | some _=>rfl
theorem zDn.getD {o:Option V}{u:Option Value}{d:V}{d':Value}(r:zDn o u) (rd:jX d d'):jX (o.getD d) (u.getD d'):=by
 cases o with
 | none=>cases u with
  | none=>exact rd
  | some _=>exact(show False from r).elim
 | some _=>cases u with
  | none=>exact(show False from r).elim
  | some _=>exact r
theorem KV.val {kvs:List (κ×V)}{vs:List (κ×Value)}(r:KV kvs vs) (k:κ):zDn (yL kvs k) (valueAt vs k):=by
 unfold KV at r
 induction r with
 | nil=>exact True.intro
 | @cons p q ps qs h t ih =>
  obtain⟨h1,h2⟩:=h;by_cases e:p.1=k
  ·have e':q.1=k:=h1.symm.trans e
   have b:valueAt (q::qs) k=some q.2:=by simp [valueAt,find?_cons,e']
   rw [kE e,b];exact h2
  ·have e':¬ q.1=k:=fun z=>e (h1.trans z)
   have b:valueAt (q::qs) k=valueAt qs k:=by simp [valueAt,find?_cons,e']
   rw [jy e,b];exact ih
theorem KV.any {kvs:List (κ×V)}{vs:List (κ×Value)}(r:KV kvs vs) (k:κ):(kvs.any fun kv=>decide (kv.1=k))=vs.any fun kv=>decide (kv.1=k):=by
 unfold KV at r
 induction r with
 | nil=>rfl
 | cons h t ih=>rw [any_cons,any_cons,ih,h.1]
theorem KV.repl {kvs:List (κ×V)}{vs:List (κ×Value)}(r:KV kvs vs) (k:κ){y:V}{u:Value}(ry:jX y u) :
  KV (kvs.map fun kv=>if kv.1=k then(kv.1,y) else kv) (vs.map fun kv=>if kv.1=k then(kv.1,u) else kv):=by
 unfold KV at r ⊢
 induction r with
 | nil=>exact .nil
 | @cons p q ps qs h t ih =>
  rw [map_cons,map_cons];refine .cons ?_ ih;obtain⟨h1,h2⟩:=h;by_cases e:p.1=k
  ·rw [if_pos e,if_pos (h1.symm.trans e)];exact⟨h1,ry⟩
  ·rw [if_neg e,if_neg (fun z=>e (h1.trans z))];exact⟨h1,h2⟩
theorem KV.put {kvs:List (κ×V)}{vs:List (κ×Value)}(r:KV kvs vs) (k:κ){y:V}{u:Value}(ry:jX y u):KV (zDI kvs k y) (stored vs k u):=by
 unfold zDI stored;rw [r.any k];by_cases e:(vs.any fun kv=>decide (kv.1=k))=true
 ·rw [if_pos e,if_pos e];exact r.repl k ry
 ·rw [if_neg e,if_neg e];exact Paired.snoc r ⟨rfl,ry⟩
theorem KV.drop {kvs:List (κ×V)}{vs:List (κ×Value)}(r:KV kvs vs) (k:κ):KV (wS kvs k) (without vs k):=by
 unfold KV at r ⊢;unfold wS without
 induction r with
 | nil=>exact .nil
 | @cons p q ps qs h t ih =>
  obtain⟨h1,h2⟩:=h;rw [filter_cons,filter_cons];by_cases e:p.1=k
  ·have a:¬ decide (p.1≠k)=true:=by simp [e]
   have b:¬ decide (q.1≠k)=true:=by simp [h1.symm.trans e]
   rw [if_neg a,if_neg b];exact ih
  ·have e':¬ q.1=k:=fun z=>e (h1.trans z)
   have a:decide (p.1≠k)=true:=by simp [e]
   have b:decide (q.1≠k)=true:=by simp [e']
   rw [if_pos a,if_pos b];exact .cons ⟨h1,h2⟩ ih
theorem KV.length {kvs:List (κ×V)}{vs:List (κ×Value)}(r:KV kvs vs):kvs.length=vs.length:=Paired.length r
theorem zLL (kvs:List (κ×V)) (k:κ):(wS kvs k).length≤kvs.length:=length_filter_le _ _
end
theorem zEW {P:Program}{w:World}{k:Key}{u:Value}(r:jX (kV k) u):(jE P w).is k u=true:=by
 cases k with
 | inl i=>obtain⟨t,e⟩:=(show ∃ t,u=Value.int i t from r);subst e;exact zGX P w i t
 | inr x=>obtain⟨t,e⟩:=(show ∃ t,u=Value.str x t from r);subst e;exact zGY P w x t
theorem zFe {P:Program}{w:World}:∀ {ks:List Key}{us:List Value},zt (ks.map kV) us→ItemsAre (jE P w) ks us
 | [],_,r=>by rw [List.map_nil] at r;cases r;exact .nil
 | k::ks,_,r=>by
  rw [map_cons] at r
  cases r with
  | cons h t=>exact .cons (zEW h) (zFe t)
abbrev KT (H:Hp):List (List Key×V)→List (List Key×Addr×Value)→Prop:=Paired fun p q=>p.1=q.1∧H q.2.1=some (.tup (p.1.map kV))∧jX p.2 q.2.2
theorem KT.val {H:Hp}{kvs:List (List Key×V)}{xs:List (List Key×Addr×Value)}(r:KT H kvs xs) (k:List Key):zDn (yL kvs k) ((atKey xs k).map (·.2)):=by
 induction r with
 | nil=>exact True.intro
 | @cons p q ps qs h t ih =>
  obtain⟨h1,_,h2⟩:=h;by_cases e:p.1=k
  ·have e':q.1=k:=h1.symm.trans e
   have b:atKey (q::qs) k=some q.2:=by simp [atKey,find?_cons,e']
   rw [kE e,b];exact h2
  ·have e':¬ q.1=k:=fun z=>e (h1.trans z)
   have b:atKey (q::qs) k=atKey qs k:=by simp [atKey,find?_cons,e']
   rw [jy e,b];exact ih
theorem KT.repl {H:Hp}{kvs:List (List Key×V)}{xs:List (List Key×Addr×Value)}(r:KT H kvs xs) (k:List Key){y:V}{u:Value}(ry:jX y u) :
  KT H (kvs.map fun kv=>if kv.1=k then(kv.1,y) else kv) (xs.map (putAt k u)):=by
 induction r with
 | nil=>exact .nil
 | @cons p q ps qs h t ih =>
  rw [map_cons,map_cons];refine .cons ?_ ih;obtain⟨h1,h2,h3⟩:=h;unfold putAt;by_cases e:p.1=k
  ·rw [if_pos e,if_pos (h1.symm.trans e)];exact⟨h1,h2,ry⟩
  ·rw [if_neg e,if_neg (fun z=>e (h1.trans z))];exact⟨h1,h2,h3⟩
theorem KT.put {H:Hp}{kvs:List (List Key×V)}{xs:List (List Key×Addr×Value)}(r:KT H kvs xs) (k:List Key){b:Addr}{y:V}{u:Value}(hb:H b=some (.tup (k.map kV))) (ry:jX y u) :
  KT H (zDI kvs k y) (storedH xs k b u):=by
 have e:(kvs.any fun kv=>decide (kv.1=k))=(atKey xs k).isSome:=by
  rw [yl,(r.val k).isSome_eq,Option.isSome_map]
 unfold zDI storedH;rw [e];by_cases q:(atKey xs k).isSome=true
 ·rw [if_pos q,if_pos q];exact r.repl k ry
 ·rw [if_neg q,if_neg q];exact Paired.snoc r ⟨rfl,hb,ry⟩
theorem KT.keeps {H H':Hp}{kvs:List (List Key×V)}{xs:List (List Key×Addr×Value)}(r:KT H kvs xs) (ht:∀ b ys,H b=some (.tup ys)→H' b=some (.tup ys)):KT H' kvs xs :=
 Paired.mapP r fun _ _ z=>⟨z.1,ht _ _ z.2.1,z.2.2⟩
section
variable {P:Program}{w:World}{H:Hp}{h:Heap}{a:Addr}
theorem zOZ {u:HO}(ok:HOk P w H h) (e:Rd H a u):kT P w H h a u:=e.ok ok
theorem zEX {kvs:List (Key×V)}(ok:HOk P w H h) (e:Rd H a (.dK kvs)):kvs.length≤sizeLine∧(a==sysModules)=false∧∃ vs,KV kvs vs∧h.DictOf (jE P w) a vs :=
 show kT P w H h a (.dK kvs) from zOZ ok e
theorem zOa {kvs:List (Key×V)}(ok:HOk P w H h) (e:H a=some (.dK kvs)):kvs.length≤sizeLine∧(a==sysModules)=false∧∃ vs,KV kvs vs∧h.DictOf (jE P w) a vs:=zEX ok (.inl e)
theorem zDt {ks:List Key}(ok:HOk P w H h) (e:H a=some (.tup (ks.map kV))):(tupleKind (jE P w)).is h ks a:=by
 obtain⟨_,its,r,o,h1,h2,n,h3⟩:=(show kT P w H h a (.tup (ks.map kV)) from ok a _ e);exact⟨o,its.toArray,n,h1,h2,h3,by simpa using zFe r⟩
theorem zGh {kvs:List (List Key×V)}(ok:HOk P w H h) (e:Rd H a (.dT kvs)):kvs.length≤sizeLine∧(a==sysModules)=false ∧
  ∃ xs,KT H kvs xs∧h.DictOfH (tupleKind (jE P w)) a xs:=by
 obtain⟨z,y,xs,r,o,es,ep,h1,h2,h3,h4,h5⟩:=(show kT P w H h a (.dT kvs) from zOZ ok e);refine⟨z,y,xs,r,o,es,ep,h1,h2,h3,h4,fun x hx=>?_,h5⟩
 have all:∀ {l:List (List Key×V)}{m:List (List Key×Addr×Value)},KT H l m→∀ x∈m,(tupleKind (jE P w)).is h x.1 x.2.1:=by
  intro l m q
  induction q with
  | nil=>intro x hx;exact nomatch hx
  | @cons p q ps qs hq t ih =>
   intro x hx
   rcases List.mem_cons.mp hx with e | hx
   ·subst e;exact zDt ok (by rw [← hq.1];exact hq.2.1)
   ·exact ih x hx
 exact all r x hx
theorem zPc {kvs:List (List Key×V)}(ok:HOk P w H h) (e:H a=some (.dT kvs)):kvs.length≤sizeLine∧(a==sysModules)=false ∧
  ∃ xs,KT H kvs xs∧h.DictOfH (tupleKind (jE P w)) a xs:=zGh ok (.inl e)
end
def zGK (H:Hp) (a:Addr) (y:V) (r:Option V):Prop :=
 (∃ kvs k,Rd H a (.dK kvs)∧y=kV k∧r=yL kvs k)∨∃ kvs k b,Rd H a (.dT kvs)∧y = .ref b∧H b=some (.tup (k.map kV))∧r=yL kvs k
def zNF (H:Hp) (a:Addr) (y v:V) (H':Hp):Prop :=
 (∃ kvs k,H a=some (.dK kvs)∧y=kV k∧kvs.length<sizeLine∧H'=upd H a (.dK (zDI kvs k v))) ∨
 ∃ kvs k b,H a=some (.dT kvs)∧y = .ref b∧H b=some (.tup (k.map kV))∧kvs.length<sizeLine∧H'=upd H a (.dT (zDI kvs k v))
theorem zGK.k {H:Hp}{a:Addr}{kvs:List (Key×V)}{k:Key}(e:H a=some (.dK kvs)):zGK H a (kV k) (yL kvs k) := .inl ⟨kvs,k,.inl e,rfl,rfl⟩
theorem zNF.k {H:Hp}{a:Addr}{kvs:List (Key×V)}{k:Key}{v:V}(e:H a=some (.dK kvs)) (hl:kvs.length<sizeLine):zNF H a (kV k) v (upd H a (.dK (zDI kvs k v))) := .inl ⟨kvs,k,e,rfl,hl,rfl⟩
section
variable {X:Cx}{pins:List (Addr×Obj)}{σ:St}{H:Hp}{s:Shared}{a:Addr}{y v:V}{u r:Value}{o:Option V}{A:Around}{E:Value→Shared→Prop}
theorem Inv.big (I:Inv X pins σ H s):sysModules<s.heap.objs.size:=by
 have h:mainGlobals<s.heap.objs.size:=(I.mod.glob.keeps I.bk).lt;exact lt_trans (by decide) h
theorem zJi {Q:Value→Shared→Prop}(hu:A.units+1<cLine) (I:Inv X pins σ H s) (g:zGK H a y (some v)) (ry:jX y u) (h:∀ w' s',Inv X pins σ H s'→jX v w'→Q w' s') :
  wpAny (model X.prog X.w) A (getItem (.ref a) u) Q E s:=by
 rcases g with ⟨kvs,k,e,ey,l⟩ | ⟨kvs,k,b,e,ey,eb,l⟩
 ·subst ey;obtain⟨z,hd,vs,rel,dd⟩:=zEX I.hok e;obtain⟨w',hw,rw'⟩:=zDn.some_of (v:=v) (o:=valueAt vs k) (by rw [l];exact rel.val k);exact wpAny_getItem_of (zEW ry) dd.mapOf hw (h w' _ (I.tok _) rw')
 ·subst ey
  cases (show u=Value.ref b from ry)
  obtain⟨z,hd,xs,rel,dd⟩:=zGh I.hok e;obtain⟨w',hw,rw'⟩:=zDn.some_of (v:=v) (o:=(atKey xs k).map (·.2)) (by rw [l];exact rel.val k);obtain⟨p,hp,hp2⟩:=Option.map_eq_some_iff.mp hw;refine wpAny_getItem_heap (tupleKind_room_in1 hu) (zDt I.hok eb) dd hp ?_;rw [hp2];exact h w' _ (I.tok _) rw'
theorem zQW {Q:Value→Shared→Prop}(hu:A.units+1<cLine) (I:Inv X pins σ H s) (g:zGK H a y o) (ry:jX y u) (h:∀ s',Inv X pins σ H s'→Q (.bool o.isSome) s') :
  wpAny (model X.prog X.w) A (compareOp .In u (.ref a)) Q E s:=by
 rcases g with ⟨kvs,k,e,ey,l⟩ | ⟨kvs,k,b,e,ey,eb,l⟩
 ·subst ey;obtain⟨z,hd,vs,rel,dd⟩:=zEX I.hok e;refine wpAny_in_of (zEW ry) hd dd.mapOf ?_;rw [← (rel.val k).isSome_eq,← l];exact h _ (I.tok _)
 ·subst ey
  cases (show u=Value.ref b from ry)
  obtain⟨z,hd,xs,rel,dd⟩:=zGh I.hok e;refine wpAny_in_heap (tupleKind_room_in1 hu) (zDt I.hok eb) hd dd ?_;have q:=(rel.val k).isSome_eq;rw [Option.isSome_map] at q;rw [← q,← l];exact h _ (I.tok _)
theorem zNG {Q:Value→Shared→Prop}(hu:A.units+1<cLine) (I:Inv X pins σ H s) (g:zGK H a y o) (ry:jX y u) (h:∀ s',Inv X pins σ H s'→Q (.bool (!o.isSome)) s') :
  wpAny (model X.prog X.w) A (compareOp .NotIn u (.ref a)) Q E s:=by
 rcases g with ⟨kvs,k,e,ey,l⟩ | ⟨kvs,k,b,e,ey,eb,l⟩
 ·subst ey;obtain⟨z,hd,vs,rel,dd⟩:=zEX I.hok e;refine wpAny_notIn_of (zEW ry) hd dd.mapOf ?_;rw [← (rel.val k).isSome_eq,← l];exact h _ (I.tok _)
 ·subst ey
  cases (show u=Value.ref b from ry)
  obtain⟨z,hd,xs,rel,dd⟩:=zGh I.hok e;refine wpAny_notIn_heap (tupleKind_room_in1 hu) (zDt I.hok eb) hd dd ?_;have q:=(rel.val k).isSome_eq;rw [Option.isSome_map] at q;rw [← q,← l];exact h _ (I.tok _)
theorem zGi {h':Heap}{t':Nat}{ob:HO}(I:Inv X pins σ H s) (mu:Mut (H a)) (hs:Heap.SameBut a s.heap h') (he:∃ q,h'.get? a=some q) (new:kT X.prog X.w (upd H a ob) h' a ob) :
  Inv X pins σ (upd H a ob) { s with heap:=h',toks:=t' } :=
 I.write (x:=a) (e:=a) mu (.inl rfl) (fun b q hb z=>(hs.2 b hb).trans z) he new
theorem zME {P:Program}{w:World}{H':Hp}{h':Heap}{kvs:List (Key×V)}{vs:List (Key×Value)}(z:kvs.length≤sizeLine) (hd:(a==sysModules)=false) (rel:KV kvs vs) (dd:h'.DictOf (jE P w) a vs) :
  kT P w H' h' a (.dK kvs):=⟨z,hd,vs,rel,dd⟩
theorem zJj {H':Hp}{Q:Unit→Shared→Prop}(hu:A.units+1<cLine) (I:Inv X pins σ H s) (g:zNF H a y v H') (ry:jX y u) (rv:jX v r) (h:∀ s',Inv X pins σ H' s'→Q () s') :
  wpAny (model X.prog X.w) A (setItem (.ref a) u r) Q E s:=by
 rcases g with ⟨kvs,k,e,ey,l,eH⟩ | ⟨kvs,k,b,e,ey,eb,l,eH⟩
 ·subst ey eH;obtain⟨z,hd,vs,rel,dd⟩:=zOa I.hok e
  have hz:vs.length≤sizeLine:=by rw [← rel.length];exact z
  have hl:(zDI kvs k v).length≤sizeLine:=by have:=zCX kvs k v;omega
  refine wpAny_setItem_pairs (hsz:=hz) (zEW ry) dd fun h' dd' hs=>h _ ?_;have he:∃ q,h'.get? a=some q:=let ⟨q,_,_,hq,_⟩:=dd';⟨q,hq⟩;exact zGi I (by rw [e];exact True.intro) hs he (zME hl hd (rel.put k rv) dd')
 ·subst ey eH
  cases (show u=Value.ref b from ry)
  obtain⟨z,hd,xs,rel,dd⟩:=zPc I.hok e
  have hz:xs.length≤sizeLine:=by rw [← Paired.length rel];exact z
  have hl:(zDI kvs k v).length≤sizeLine:=by have:=zCX kvs k v;omega
  refine wpAny_setItem_heap (hsz:=hz) (tupleKind_room_in1 hu) (zDt I.hok eb) dd fun h' dd' hs=>h _ ?_;obtain⟨q,es,ep,hq,h2,h3,h4,_,h5⟩:=dd';refine zGi I (by rw [e];exact True.intro) hs ⟨q,hq⟩ ⟨hl,hd,_,(rel.put k eb rv).keeps fun c ys ec=>?_,q,es,ep,hq,h2,h3,h4,h5⟩;rw [zD (vw ec e (fun z=>nomatch z))];exact ec
end
section
variable {X:Cx}{pins:List (Addr×Obj)}{σ:St}{H:Hp}{s:Shared}{a:Addr}{kvs:List (Key×V)}{k:Key}{u:Value}{A:Around}{E:Value→Shared→Prop}
theorem zPd {v:V}{more:List Value}{Q:Value→Shared→Prop}(I:Inv X pins σ H s) (e:H a=some (.dK kvs)) (ry:jX (kV k) u) (l:yL kvs k=some v) (hm:more=[]∨∃ x,more=[x])
  (h:∀ w' s',Inv X pins σ (upd H a (.dK (wS kvs k))) s'→jX v w'→Q w' s'):wpAny (model X.prog X.w) A (call (.builtin "dict.pop") (.ref a::u::more)) Q E s:=by
 obtain⟨z,hd,vs,rel,dd⟩:=zOa I.hok e;obtain⟨w',hw,rw'⟩:=zDn.some_of (v:=v) (o:=valueAt vs k) (by rw [← l];exact rel.val k)
 have hp:(keyPart u).isSome=true:=by
  cases k with
  | inl i=>obtain⟨t,q⟩:=(show ∃ t,u=Value.int i t from ry);subst q;rfl
  | inr x=>obtain⟨t,q⟩:=(show ∃ t,u=Value.str x t from ry);subst q;rfl
 have ha:argsOk "dict.pop" ⟨.ref a::u::more,[]⟩:=by
  rcases hm with q | ⟨x,q⟩
  ·subst q;exact F.args_dict_pop_2 _ _
  ·subst q;exact F.args_dict_pop_3 _ _ _
 refine call_meetsIn F.slot_dict_pop dd.typeIs F.entry_dict_pop ha (meets_dict_pop_there (jE X.prog X.w) a (zEW ry) more hm hp)
  ⟨vs,w',dd,by rw [← rel.length];exact z,hw,fun h' dd' hs=>h w' _ ?_ rw'⟩
 have he:∃ q,h'.get? a=some q:=let ⟨q,_,_,hq,_⟩:=dd';⟨q,hq⟩;exact zGi I (by rw [e];exact True.intro) hs he (zME (le_trans (zLL kvs k) z) hd (rel.drop k) dd')
theorem zPe {Q:Value→Shared→Prop}(I:Inv X pins σ H s) (e:Rd H a (.dK kvs)) (h:∀ t s',Inv X pins σ H s'→Q (.int kvs.length t) s'):wpAny (model X.prog X.w) A (call (.builtin "len") [.ref a]) Q E s:=by
 obtain⟨z,hd,vs,rel,dd⟩:=zEX I.hok e;refine call_len_dict hd dd (by rw [← rel.length];rw [sizeLine_eq] at z;omega) ?_;rw [← rel.length];exact h _ _ (I.tok _)
end
def zPf (i:Expr):Prop:=∀ ov iv,subscripted i false ov iv=operate [ov,iv] (getItem ov iv)
theorem zJk {prog:Program}{w:World}{A:Around}{E:Value→Shared→Prop}{s:Shared}{env:Env}{value slice:Expr}{pos:Pos}{T id:String}{Q:Value→Shared→Prop}
  (hl:typeLookup (.type T) "__getitem__"=pure (some (.builtin id))) (hs:zPf slice)
  (h:wpAny (model prog w) A (eval value env) (fun o s₁=>wpAny (model prog w) A (eval slice env) (fun i s₂=>s₂.TypeIs o T∧wpAny (model prog w) A (getItem o i) Q E s₂) E s₁) E s) :
  wpAny (model prog w) A (eval (.Subscript value slice pos) env) Q E s:=by
 refine Subscript_ (wpAny_mono h (fun o s₁ h₁=>wpAny_mono h₁ (fun i s₂ h₂=>?_) fun _ _ x=>x) fun _ _ x=>x);obtain⟨hT,h₂⟩:=h₂;unfold subscriptTail;refine wpAny_bind ?_;rw [getitemInPython_of_ne hT.not_modules];refine wpAny_bind (wpAny_specialOf hT hl ?_)
 have fin:wpAny (model prog w) A (subscripted slice false o i) (fun r s₃=>wpAny (model prog w) A (letTemporaryGo value o r >>= fun _=>pure r) Q E s₃) E s₂:=by
  rw [hs o i];exact wpAny_operating (wpAny_mono h₂ (fun r s₃ h₃=>wpAny_bind (wpAny_letTemporaryGo (wpAny_pure h₃))) fun _ _ x=>x)
 first
  | exact wpAny_pure (wpAny_bind fin)
  | exact wpAny_bind (wpAny_pure (wpAny_bind fin))
  | exact wpAny_bind fin
theorem zGj {X:Cx}{pins:List (Addr×Obj)}{σ:St}{H:Hp}{s:Shared}{a:Addr}{y:V}{o:Option V}(I:Inv X pins σ H s) (g:zGK H a y o):s.TypeIs (.ref a) "dict":=by
 rcases g with ⟨kvs,k,e,_,_⟩ | ⟨kvs,k,b,e,_,_,_⟩
 ·obtain⟨_,_,vs,_,dd⟩:=zEX I.hok e;exact dd.typeIs
 ·obtain⟨_,_,xs,_,dd⟩:=zGh I.hok e;exact dd.typeIs
def zPg (td ty:TE):TE:=fun σ H Q=>td σ H fun x H1=>ty σ H1 fun y H2=>∃ a v,x = .ref a∧zGK H2 a y (some v)∧Q v H2
def zQX (ty td:TE):TE:=fun σ H Q=>ty σ H fun y H1=>td σ H1 fun x H2=>∃ a o,x = .ref a∧zGK H2 a y o∧Q (.bl o.isSome) H2
def zNH (ty td:TE):TE:=fun σ H Q=>ty σ H fun y H1=>td σ H1 fun x H2=>∃ a o,x = .ref a∧zGK H2 a y o∧Q (.bl (!o.isSome)) H2
def zPh (td ty tv:TE):TS:=fun D σ H=>tv σ H fun v H1=>td σ H1 fun x H2=>ty σ H2 fun y H3=>∃ a H4,x = .ref a∧zNF H3 a y v H4∧D.nx σ H4
section
variable {X:Cx}{o i e value:Expr}{pos pos' tpos:Pos}{td ty tv:TE}
theorem zJl (hu:X.A.units+1<cLine) (ho:PE X o td) (hi:PE X i ty) (hs:zPf i):PE X (.Subscript o i pos) (zPg td ty):=by
 intro pins s σ H Q I h;refine zJk F.slot_dict_getitem.lookup hs (thn (ho pins s σ H _ I h) fun u s1 ⟨x,H1,I1,rx,q1⟩=>thn (hi pins s1 σ H1 _ I1 q1) fun iv s2 ⟨y,H2,I2,ry,a,v,ex,g,q2⟩=>?_);subst ex;obtain rfl:u=Value.ref a:=rx;exact⟨zGj I2 g,zJi hu I2 g ry fun w' s3 I3 rw'=>⟨v,H2,I3,rw',q2⟩⟩
theorem zOb (hu:X.A.units+1<cLine) (hi:PE X i ty) (ho:PE X o td):PC X .In i o (zQX ty td):=by
 intro pins s σ H Q I h;refine thn (hi pins s σ H _ I h) fun iv s1 ⟨y,H1,I1,ry,q1⟩=>thn (ho pins s1 σ H1 _ I1 q1) fun u s2 ⟨x,H2,I2,rx,a,ov,ex,g,q2⟩=>?_;subst ex;obtain rfl:u=Value.ref a:=rx;exact zQW hu I2 g ry fun s3 I3=>⟨.bl ov.isSome,H2,I3,rfl,q2⟩
theorem zJm (hu:X.A.units+1<cLine) (hi:PE X i ty) (ho:PE X o td):PC X .NotIn i o (zNH ty td):=by
 intro pins s σ H Q I h;refine thn (hi pins s σ H _ I h) fun iv s1 ⟨y,H1,I1,ry,q1⟩=>thn (ho pins s1 σ H1 _ I1 q1) fun u s2 ⟨x,H2,I2,rx,a,ov,ex,g,q2⟩=>?_;subst ex;obtain rfl:u=Value.ref a:=rx;exact zNG hu I2 g ry fun s3 I3=>⟨.bl (!ov.isSome),H2,I3,rfl,q2⟩
theorem zGk (hu:X.A.units+1<cLine) (ho:PE X o td) (hi:PE X i ty) (hv:PE X value tv) (hs:swapsWith value (some (.Subscript o i pos')) pos.line X.env=pure false) :
  PS X (.Assign [.Subscript o i pos'] value pos) (zPh td ty tv):=by
 intro pins s σ H D I h;refine wpAny_Assign_Subscript (thn (hv pins s σ H _ I h) fun r s1 ⟨v,H1,I1,rv,q1⟩=>thn (ho pins s1 σ H1 _ I1 q1) fun u s2 ⟨x,H2,I2,rx,q2⟩=>thn (hi pins s2 σ H2 _ I2 q2) fun iv s3 ⟨y,H3,I3,ry,a,H4,ex,g,q3⟩=>?_) hs;subst ex;obtain rfl:u=Value.ref a:=rx;exact zJj hu I3 g ry rv fun s4 I4=>⟨σ,H4,I4,q3⟩
end
theorem zLM {P:Program}{w:World}{H:Hp}(h:Heap) (hb:sysModules<h.objs.size):kT P w H (h.push { cls := .type "dict",data := .dict #[] }) h.objs.size (.dK []) :=
 ⟨zero_le _,beq_eq_false_iff_ne.mpr (Ne.symm (ne_of_lt hb)),[],.nil,Heap.DictOf.new h⟩
def zOc:TE:=fun _ H Q=>∀ p,H p=none→Q (.ref p) (upd H p (.dK []))
section
variable {X:Cx}{pos:Pos}
theorem zEY:PE X (.Dict [] [] pos) zOc:=fun pins s σ H Q I h =>
 wpAny_Dict_empty ⟨.ref s.heap.objs.size,_,I.laid (a:=s.heap.objs.size) (o := .dK []) (t':=s.toks) (fun _ _ q=>Heap.get?_push_of_some _ q) (le_refl _) (zLM s.heap I.big),rfl,h _ (I.hok.fresh (le_refl _))⟩
end
structure M1 (X:Cx) (o:Expr) (m:Str) (apos:Pos) (e:Expr) (cpos:Pos):Prop where
 base:attributeBase o m X.env (eval o X.env)=eval o X.env
 few:((backTo cpos (starEach [e] X.env)).all (fun x=>!x.1)&&(backToKw cpos (keywordEach [] X.env)).all (fun x=>x.1.isSome)
  && decide (([e]:List Expr).length+([]:List Keyword).length+(if([]:List Keyword).isEmpty then 0 else 1)<30))=true
 line:(apos.endLine==cpos.line)=true
 trees:backTo cpos (starEach [e] X.env)=[(false,eval e X.env)]
structure M2 (X:Cx) (o:Expr) (m:Str) (apos:Pos) (e f:Expr) (cpos:Pos):Prop where
 base:attributeBase o m X.env (eval o X.env)=eval o X.env
 few:((backTo cpos (starEach [e,f] X.env)).all (fun x=>!x.1)&&(backToKw cpos (keywordEach [] X.env)).all (fun x=>x.1.isSome)
  && decide (([e,f]:List Expr).length+([]:List Keyword).length+(if([]:List Keyword).isEmpty then 0 else 1)<30))=true
 line:(apos.endLine==cpos.line)=true
 trees:backTo cpos (starEach [e,f] X.env)=[(false,eval e X.env),(false,eval f X.env)]
def IsD (H:Hp) (a:Addr):Prop:=(∃ kvs,Rd H a (.dK kvs))∨∃ kvs,Rd H a (.dT kvs)
theorem zMF {X:Cx}{pins:List (Addr×Obj)}{σ:St}{H:Hp}{s:Shared}{a:Addr}(I:Inv X pins σ H s) (d:IsD H a) :
  s.TypeIs (.ref a) "dict"∧(∀ b,Value.ref a = .ref b→∃ ob,s.heap.get? b=some ob∧ob.dict=none)∧(a==sysModules)=false:=by
 rcases d with ⟨kvs,e⟩ | ⟨kvs,e⟩
 ·obtain⟨_,hd,vs,_,dd⟩:=zEX I.hok e;refine⟨dd.typeIs,fun b q=>?_,hd⟩
  cases q
  obtain⟨ob,_,_,h1,h2,_⟩:=dd;exact⟨ob,h1,h2.2.1⟩
 ·obtain⟨_,hd,xs,_,dd⟩:=zGh I.hok e;refine⟨dd.typeIs,fun b q=>?_,hd⟩
  cases q
  obtain⟨ob,_,_,h1,h2,_⟩:=dd;exact⟨ob,h1,h2.2.1⟩
section
variable {X:Cx}{pins:List (Addr×Obj)}{σ:St}{H:Hp}{s:Shared}{a:Addr}{y d:V}{u r:Value}{o:Option V}{A:Around}{E:Value→Shared→Prop}
theorem zOd {Q:Value→Shared→Prop}(hu:A.units+1<cLine) (I:Inv X pins σ H s) (g:zGK H a y o) (ry:jX y u) (rd:jX d r) (h:∀ w' s',Inv X pins σ H s'→jX (o.getD d) w'→Q w' s') :
  wpAny (model X.prog X.w) A (call (.builtin "dict.get") [.ref a,u,r]) Q E s:=by
 rcases g with ⟨kvs,k,e,ey,l⟩ | ⟨kvs,k,b,e,ey,eb,l⟩
 ·subst ey;obtain⟨z,hd,vs,rel,dd⟩:=zEX I.hok e;refine call_meetsIn F.slot_dict_get dd.typeIs F.entry_dict_get (F.args_dict_get_3 _ _ _) (meets_dict_get_default (jE X.prog X.w) a (zEW ry) hd r) ⟨_,dd.mapOf,h _ _ (I.tok _) ?_⟩;rw [l];exact(rel.val k).getD rd
 ·subst ey
  cases (show u=Value.ref b from ry)
  obtain⟨z,hd,xs,rel,dd⟩:=zGh I.hok e;refine call_meetsIn F.slot_dict_get dd.typeIs F.entry_dict_get (F.args_dict_get_3 _ _ _) (meetsH_dict_get_default (tupleKind (jE X.prog X.w)) a b hd r) ⟨tupleKind_room_in1 hu,k,xs,zDt I.hok eb,dd,h _ _ (I.tok _) ?_⟩;rw [l];exact(rel.val k).getD rd
end
def zOe (td ty tx:TE):TE:=fun σ H Q=>td σ H fun x H1=>∃ a,x = .ref a∧IsD H1 a∧ty σ H1 fun y H2=>tx σ H2 fun z H3=>∃ o,zGK H3 a y o∧Q (o.getD z) H3
def zOf (td ty:TE):TE:=fun σ H Q=>td σ H fun x H1=>∃ a,x = .ref a∧IsD H1 a∧ty σ H1 fun y H2=>∃ kvs k v,H2 a=some (.dK kvs)∧y=kV k∧yL kvs k=some v∧Q v (upd H2 a (.dK (wS kvs k)))
section
variable {X:Cx}{o e f:Expr}{apos cpos:Pos}{td ty tx:TE}
theorem zLN (hu:X.A.units+1<cLine) (ho:PE X o td) (he:PE X e ty) (hf:PE X f tx) (m:M2 X o "get" apos e f cpos):PE X (.Call (.Attribute o "get" apos) [e,f] [] cpos) (zOe td ty tx):=by
 intro pins s σ H Q I h;refine wpAny_Call_method m.base m.few m.line F.plainAttrs_dict F.slot_dict_get F.type_dict_get (thn (ho pins s σ H _ I h) fun u s1 ⟨x,H1,I1,rx,a,ex,d,q1⟩=>?_);subst ex;obtain rfl:u=Value.ref a:=rx;obtain⟨t1,t2,_⟩:=zMF I1 d;refine⟨t1,t2,?_⟩;rw [m.trees]
 refine Calls.callWith_builtin rfl (Calls.evalArgs_plain (Calls.spliced_cons (thn (he pins s1 σ H1 _ I1 q1) fun iv s2 ⟨y,H2,I2,ry,q2⟩ =>
  Calls.spliced_cons (thn (hf pins s2 σ H2 _ I2 q2) fun fv s3 ⟨z,H3,I3,rz,ov,g,q3⟩=>Calls.spliced_nil ?_))))
 exact zOd hu I3 g ry rz fun w' s4 I4 rw'=>⟨_,H3,I4,rw',q3⟩
theorem zLO (ho:PE X o td) (he:PE X e ty) (m:M1 X o "pop" apos e cpos):PE X (.Call (.Attribute o "pop" apos) [e] [] cpos) (zOf td ty):=by
 intro pins s σ H Q I h;refine wpAny_Call_method m.base m.few m.line F.plainAttrs_dict F.slot_dict_pop F.type_dict_pop (thn (ho pins s σ H _ I h) fun u s1 ⟨x,H1,I1,rx,a,ex,d,q1⟩=>?_);subst ex;obtain rfl:u=Value.ref a:=rx;obtain⟨t1,t2,_⟩:=zMF I1 d;refine⟨t1,t2,?_⟩;rw [m.trees];refine Calls.callWith_builtin rfl (Calls.evalArgs_plain (Calls.spliced_cons (thn (he pins s1 σ H1 _ I1 q1) fun iv s2 ⟨y,H2,I2,ry,kvs,k,v,ea,ey,l,q2⟩=>Calls.spliced_nil ?_)));subst ey;exact zPd I2 ea ry l (.inl rfl) fun w' s3 I3 rw'=>⟨v,_,I3,rw',q2⟩
end
section
variable {X:Cx}{pins:List (Addr×Obj)}{σ:St}{H:Hp}{s:Shared}{a:Addr}{kvs:List (Key×V)}{A:Around}{E:Value→Shared→Prop}
end
section
variable {X:Cx}{pins:List (Addr×Obj)}{σ:St}{H:Hp}{s:Shared}{a:Addr}{y:V}{u:Value}{A:Around}{E:Value→Shared→Prop}
end
end L2
namespace L2
open PySem PySem.Spec PyProof.Rows
section
variable {prog:Program}{w:World}{A:Around}{E:Value→Shared→Prop}
end
section
variable {X:Cx}
end
end L2
namespace L2
open PySem PySem.Spec PyProof.Rows
section
variable {X:Cx}{pins:List (Addr×Obj)}{σ:St}{H:Hp}{s:Shared}{h':Heap}
theorem Inv.turnedL {t':Nat}{ch:List Addr}(I:Inv X pins σ H s) (k:∀ b o,b∉ch→s.heap.get? b=some o→h'.get? b=some o) (hf:∀ b∈ch,zIy X pins H b):Inv X pins σ H { s with heap:=h',toks:=t' }:=by
 have nit:∀ b u,H b=some u→b∉ch:=fun b u e z=>by
  have q:=(hf b z).1;rw [q] at e;cases e
 refine I.step (g':=s.gens) (d':=s.drawn) (ch:=ch) (fun b hb=>⟨(hf b hb).2.2.2.1,(hf b hb).2.1,(hf b hb).2.2.2.2.1,(hf b hb).2.2.2.2.2⟩) (fun b o _ _ hc e _=>k b o hc e) (fun b o _ _ hc e _=>⟨o.slots,k b o hc e⟩)
  (fun _ _ _ _ n=>n) (fun b o hc e=>⟨o,k b o hc e⟩) (fun _ _ e=>e) (fun _ _ _ e=>e) (fun b ps e=>⟨#[],by rw [e];simp⟩) (fun m hm=>?_) (fun b u e=>?_) I.bare
 ·obtain⟨o,es,ep,ho,r⟩:=hm;exact⟨o,es,ep,k _ o (fun z=>(hf _ z).2.1 rfl) ho,r⟩
 ·refine(I.hok b u e).stay (fun c v hc q=>k c v ?_ q) (fun _ q=>q) fun _ _ q=>q
  rcases hc with z | z
  ·rw [z];exact nit b u e
  ·exact nit c _ z
theorem Inv.turnedNew {t':Nat}{ch:List Addr}{T:Addr}{ob:HO}(I:Inv X pins σ H s) (k:∀ b o,b∉ch→s.heap.get? b=some o→h'.get? b=some o) (hf:∀ b∈ch,zIy X pins H b) (hT:s.heap.objs.size≤T)
  (new:kT X.prog X.w (upd H T ob) h' T ob):Inv X pins σ (upd H T ob) { s with heap:=h',toks:=t' }:=by
 have hn:H T=none:=I.hok.fresh hT
 have nit:∀ b u,H b=some u→b∉ch:=fun b u e z=>by
  have q:=(hf b z).1;rw [q] at e;cases e
 refine I.step (g':=s.gens) (d':=s.drawn) (ch:=ch) (fun b hb=>⟨(hf b hb).2.2.2.1,(hf b hb).2.1,(hf b hb).2.2.2.2.1,(hf b hb).2.2.2.2.2⟩) (fun b o _ _ hc e _=>k b o hc e) (fun b o _ _ hc e _=>⟨o.slots,k b o hc e⟩)
  (fun b o _ e n=>?_) (fun b o hc e=>⟨o,k b o hc e⟩) (fun b xs e=>?_) (fun b o u e=>?_) (fun b ps e=>⟨#[],?_⟩) (fun m hm=>?_) (fun b u e=>?_) I.bare
 ·rw [zD (ne_of_lt (lt_of_lt_of_le (Heap.lt_size e) hT))];exact n
 ·rw [zD (zF e hn)];exact e
 ·rw [zD (zF e hn)];exact e
 ·rw [zD (zF e hn),e];simp
 ·obtain⟨o,es,ep,ho,r⟩:=hm;exact⟨o,es,ep,k _ o (fun z=>(hf _ z).2.1 rfl) ho,r⟩
 ·by_cases hb:b=T
  ·subst hb;rw [zA] at e
   cases e
   exact new
  ·rw [zD hb] at e
   refine(I.hok b u e).stay (fun c v hc q=>k c v ?_ q) (fun c q=>by rw [zD (zF q hn)];exact q) fun c xs q=>by rw [zD (zF q hn)];exact q
   rcases hc with z | z
   ·rw [z];exact nit b u e
   ·exact nit c _ z
theorem Inv.lock {d:Addr}{u:HO}(I:Inv X pins σ H s) (h:H d=some u) (mu:Mut (some u)):∃ od,Inv X pins σ (upd H d (.frz od u)) s:=by
 have x:=I.hok d u h
 have ex:∃ od,s.heap.get? d=some od:=by
  cases u with
  | lst xs=>obtain⟨_,_,_,_,e⟩:=x;exact⟨_,e⟩
  | dK kvs=>obtain⟨_,_,_,_,o,_,_,e,_⟩:=x;exact⟨o,e⟩
  | dT kvs=>obtain⟨_,_,_,_,o,_,_,e,_⟩:=x;exact⟨o,e⟩
  | set S n=>obtain⟨o,_,_,_,e,_⟩:=x;exact⟨o,e⟩
  | ins C dx fs=>obtain⟨_,_,_,e,_⟩:=x;exact⟨_,e⟩
  | ext φ=>obtain⟨_,⟨_,e⟩,_⟩:=x;exact⟨_,e⟩
  | _=>exact False.elim mu
 obtain⟨od,e⟩:=ex
 have new:kT X.prog X.w (upd H d (.frz od u)) s.heap d (.frz od u):=by
  refine⟨e,x.stay (fun b v _ q=>q) (fun b q=>?_) fun b xs q=>?_⟩
  ·rw [zD (fun z=>by rw [z,h] at q;cases q;exact mu)];exact q
  ·rw [zD (fun z=>by rw [z,h] at q;cases q;exact mu)];exact q
 exact⟨od,I.write (x:=d) (e:=d) (t':=s.toks) (h':=s.heap) (by rw [h];exact mu) (.inl rfl) (fun b v _ q=>q) ⟨od,e⟩ new⟩
theorem Inv.nofrz {d:Addr}{u:HO}(I:Inv X pins σ H s) (h:H d=some u) (mu:Mut (some u)):∀ o' u',X.H_0 d≠some (.frz o' u'):=fun o' u' e=>by
 have q:=I.base.frzs d o' u' e;rw [h] at q
 cases q
 exact mu
theorem Inv.unlock {d:Addr}{od:Obj}{u:HO}(I:Inv X pins σ H s) (h:H d=some (.frz od u)) (hn:∀ o' u',X.H_0 d≠some (.frz o' u')):Inv X pins σ (upd H d u) s:=by
 have neH:∀ b o,H b=some o→(∀ o' u',o ≠ .frz o' u')→b≠d:=fun b o e hne z=>by
  rw [z,h] at e
  cases e
  exact hne _ _ rfl
 have neN:∀ b,H b=none→b≠d:=fun b e z=>by rw [z,h] at e;cases e
 refine⟨I.ok,I.os,I.bare,⟨I.base.keep,I.base.slot,fun b o e n hx=>?_,I.base.there,fun b xs e=>?_,fun b o x e=>?_,fun b ps e=>?_⟩,I.loc,I.cell,?_,fun x c e=>?_,fun p hp=>?_,fun b o e=>?_,I.len⟩
 ·rw [zD (neN b (I.base.free b o e n hx))];exact I.base.free b o e n hx
 ·have q:=I.base.tups b xs e;rw [zD (neH b _ q (fun _ _ z=>nomatch z))];exact q
 ·have q:=I.base.frzs b o x e;rw [zD (fun z=>by rw [z] at e;exact hn _ _ e)];exact q
 ·obtain⟨m,q⟩:=I.base.tbls b ps e;exact⟨m,by rw [zD (neH b _ q (fun _ _ z=>nomatch z))];exact q⟩
 ·rw [zD (neN _ I.free)];exact I.free
 ·rw [zD (neN c (I.freeC x c e))];exact I.freeC x c e
 ·obtain⟨e,n,r⟩:=I.pin p hp;exact⟨e,by rw [zD (neN _ n)];exact n,r⟩
 ·by_cases hb:b=d
  ·rw [hb,zA] at e
   cases e
   rw [hb];obtain⟨_,x⟩:=I.hok d _ h
   exact x.stay (fun c v _ q=>q) (fun c q=>by rw [zD (neH c _ q (fun _ _ z=>nomatch z))];exact q) fun c xs q=>by rw [zD (neH c _ q (fun _ _ z=>nomatch z))];exact q
  ·rw [zD hb] at e
   exact(I.hok b o e).stay (fun c v _ q=>q) (fun c q=>by rw [zD (neH c _ q (fun _ _ z=>nomatch z))];exact q) fun c xs q=>by rw [zD (neH c _ q (fun _ _ z=>nomatch z))];exact q
end
def zPi (t:TS):TS:=fun D σ H=>∃ d u,H d=some u∧Mut (some u)∧∀ od,t ⟨fun σ' H'=>H' d=some (.frz od u)∧D.nx σ' (upd H' d u),fun v H'=>H' d=some (.frz od u)∧D.rt v (upd H' d u),fun σ' H'=>H' d=some (.frz od u)∧D.bk σ' (upd H' d u),fun σ' H'=>H' d=some (.frz od u)∧D.ct σ' (upd H' d u)⟩ σ (upd H d (.frz od u))
section
variable {X:Cx}
theorem zJn {st:Stmt}{t:TS}(h:PS X st t):PS X st (zPi t):=by
 intro pins s σ H D I hw;obtain⟨d,u,hd,mu,hw⟩:=hw;obtain⟨od,I1⟩:=I.lock hd mu;refine thn (h pins s σ _ _ I1 (hw od)) fun f s1 q=>?_
 cases f with
 | next=>obtain⟨σ',H',I2,e,q⟩:=q;exact⟨σ',_,I2.unlock e (I.nofrz hd mu),q⟩
 | brk=>obtain⟨σ',H',I2,e,q⟩:=q;exact⟨σ',_,I2.unlock e (I.nofrz hd mu),q⟩
 | cont=>obtain⟨σ',H',I2,e,q⟩:=q;exact⟨σ',_,I2.unlock e (I.nofrz hd mu),q⟩
 | ret v=>obtain⟨x,σ',H',I2,r,e,q⟩:=q;exact⟨x,σ',_,I2.unlock e (I.nofrz hd mu),r,q⟩
theorem zOg {tg:Expr}{pins:List (Addr×Obj)}{σ:St}{H:Hp}{s:Shared}{R:It→Hp→Prop}{J:It}{tn:Nat→Heap→Prop}{tk:Nat}(I:Inv X pins σ H s) (o:Obj)
  (T:zL9 X.prog X.w X.K tg J [s.heap.objs.size] s.heap.objs.size tn) (st:tn 0 (s.heap.push o)) (q:R J H):PIE X pins σ tg R (.ref s.heap.objs.size) { s with heap:=s.heap.push o,toks:=tk }:=by
 refine⟨s.heap.objs.size,[s.heap.objs.size],tn,J,H,rfl,I.kept fun b ob e=>Heap.get?_push_of_some _ e,T,st,fun b hb=>?_,q⟩
 have e:b=s.heap.objs.size:=by simpa using hb
 subst e;exact I.fpOk (le_refl _) (I.hok.fresh (le_refl _))
end
section
variable {X:Cx}{tg:Expr}
end
section
variable {X:Cx}{tg:Expr}
end
section
variable {prog:Program}{w:World}{A:Around}{E:Value→Shared→Prop}{s:Shared}
end
theorem zOh {κ:Type}{kvs:List (κ×V)}{vs:List (κ×Value)}(h:KV kvs vs):∀ {i:Nat}{k:κ}{v:V},kvs[i]? = some (k,v)→∃ u,vs[i]? = some (k,u)∧jX v u:=by
 unfold KV at h
 induction h with
 | nil=>intro i k v e;simp at e
 | @cons a b l₁ l₂ r t ih =>
  intro i k v e
  cases i with
  | zero =>
   simp only [List.getElem?_cons_zero,Option.some.injEq] at e;subst e;refine⟨b.2,?_,r.2⟩;simp only [List.getElem?_cons_zero];exact congrArg some (Prod.ext r.1.symm rfl)
  | succ j =>
   simp only [getElem?_cons_succ] at e ⊢;exact ih e
theorem zIY {α β:Type}{G:α→β→Prop}{l₁:List α}{l₂:List β}(h:Paired G l₁ l₂):∀ {i:Nat}{a:α},l₁[i]? = some a→∃ b,l₂[i]? = some b∧G a b:=by
 induction h with
 | nil=>intro i a e;simp at e
 | @cons a b l₁ l₂ r t ih =>
  intro i a' e
  cases i with
  | zero =>
   simp only [List.getElem?_cons_zero,Option.some.injEq] at e;subst e;exact⟨b,rfl,r⟩
  | succ j =>
   simp only [getElem?_cons_succ] at e ⊢;exact ih e
theorem zLP {k:Key}{u:Value}(h:zDH k u=true):jX (kV k) u:=by
 rcases jT h with ⟨i,t,rfl,rfl⟩ | ⟨x,t,rfl,rfl⟩
 ·exact⟨t,rfl⟩
 ·exact⟨t,rfl⟩
section
variable {X:Cx}{pins:List (Addr×Obj)}{σ:St}{H:Hp}{s:Shared}{d:Addr}{o:Obj}
theorem Inv.frzK {kvs:List (Key×V)}(I:Inv X pins σ H s) (h:H d=some (.frz o (.dK kvs))) :
  (d==sysModules)=false∧s.heap.get? d=some o∧o.ExactDict∧∃ (es:Array DictEntry) (ep:Nat) (vs:List (Key×Value)),o.data = .dict es ep∧es.size=kvs.length∧KV kvs vs∧s.heap.DictAt (jE X.prog X.w) d vs ep:=by
 obtain⟨hd,z,hs,vs,kv,o',es,ep,ho,hx,hdt,r⟩:=I.hok d _ h;rw [hd] at ho
 cases ho
 refine⟨hs,hd,hx,es,ep,vs,hdt,?_,kv,o,es,hd,hx,hdt,r⟩;have l1:=r.2.1.length;have l2:kvs.length=vs.length:=Paired.length kv;rw [Array.length_toList] at l1;omega
end
def Iti (d:Addr) (o:Obj) (kvs:List (Key×V)):It :=
 ⟨fun i H=>H d=some (.frz o (.dK kvs))∧i<kvs.length,fun i H x H'=>∃ T k v,kvs[i]? = some (k,v)∧x = .ref T∧H T=none∧H'=upd H T (.tup [kV k,v]),fun i H=>H d=some (.frz o (.dK kvs))∧kvs.length≤i⟩
theorem zJo {o:Obj}{es es':Array DictEntry}{ep ep':Nat}(h:o.data = .dict es ep) (h':o.data = .dict es' ep'):es'=es∧ep'=ep:=by
 rw [h] at h'
 cases h'
 exact⟨rfl,rfl⟩
section
variable {P:Program}{w:World}{K:W.Frag}{tg:Expr}{d:Addr}{o:Obj}{es:Array DictEntry}{ep:Nat}
theorem zIZ {kvs:List (Key×V)}{elts:List Expr}{kk:Nat}{tpos:Pos}(it:Addr) (hod:o.data = .dict es ep) :
  zL9 P w K (.Tuple elts kk tpos) (Iti d o kvs) [it] it (fun i h=>∃ ok ov,IsItemIter h it d i kvs.length ep ok ov) where
 mem:=by simp
 obj:=fun i h st b hb=>by
  have e:b=it:=by simpa using hb
  subst e;obtain⟨ok,ov,e⟩:=st;exact⟨_,e,fun v z=>nomatch z⟩
 keep:=fun i h h' st k=>let ⟨ok,ov,e⟩:=st;⟨ok,ov,k it (by simp) _ e⟩
 item:=by
  intro X hP hw hK hc i pins s σ H E I hf st hg;subst hP hw hK;obtain⟨hd,hi⟩:=hg;obtain⟨hs,hgd,hx,es',ep',vs,hdt,hsz,kv,hm⟩:=I.frzK hd;obtain⟨rfl,rfl⟩:=zJo hod hdt;obtain⟨⟨k,v⟩,hkv⟩:∃ p,kvs[i]? = some p:=⟨kvs[i],getElem?_eq_getElem hi⟩;obtain⟨u,hu,ru⟩:=zOh kv hkv;have hl:kvs.length=vs.length:=Paired.length kv;obtain⟨ok,ov,he⟩:=st;rw [hl] at he;have hlt:it<s.heap.objs.size:=Heap.lt_size he;refine wpAny_pyNext_items_item he hm hu fun key h' hkey ho hT hz hk=>?_;refine⟨_,rfl,wpAny_letOwnedTupleGo_items (s:={ s with heap:=h' }) ho fun h'' he' sb=>?_⟩;have hT2:h''.get? s.heap.objs.size=some { cls := .type "tuple",data := .seq #[key,u] }:=(sb.2 _ (ne_of_gt hlt)).trans hT
  have new:kT X.prog X.w (upd H s.heap.objs.size (.tup [kV k,v])) h'' s.heap.objs.size (.tup [kV k,v]) :=
   ⟨by show 2≤sizeLine;decide,[key,u],.cons (zLP (show zDH k key=true from hkey)) (.cons ru .nil),⟨_,hT2,rfl,_,rfl⟩⟩
  have I1:Inv X pins σ (upd H s.heap.objs.size (.tup [kV k,v])) { s with heap:=h'' } :=
   I.turnedNew (t':=s.toks) (ch:=[it]) (fun b ob hb e=>(sb.2 b (by simpa using hb)).trans (hk b ob (by simpa using hb) e)) hf (le_refl _) new
  refine⟨.ref s.heap.objs.size,_,I1,rfl,⟨_,k,v,hkv,rfl,I.hok.fresh (le_refl _),rfl⟩,⟨key,u,?_⟩,fun b hb=>?_⟩
  ·rw [hl];exact he'
  ·have e:b=it:=by simpa using hb
   rw [e,zD (ne_of_lt hlt)];exact(hf it (by simp)).1
 done:=by
  intro X hP hw hK hc i pins s σ H E I hf st hg;subst hP hw hK;obtain⟨hd,hi⟩:=hg;obtain⟨f0,f1,f2,f3,f4,f5⟩:=hf it (by simp);obtain⟨hs,hgd,hx,es',ep',vs,hdt,hsz,kv,hm⟩:=I.frzK hd;obtain⟨rfl,rfl⟩:=zJo hod hdt;have hl:kvs.length=vs.length:=Paired.length kv;obtain⟨ok,ov,he⟩:=st;rw [hl] at he;exact wpAny_pyNext_items_end (I.ok.hd hc) he hm (List.getElem?_eq_none (by omega)) fun h' eb=>⟨rfl,I.turned (t':=s.toks) (fun b ob hb e=>eb b ob hb e) f0 f1 f3 f4 f5⟩
 self:=fun A i s Q E st h=>let ⟨_,_,e⟩:=st;W.kcp_self e h
end
def zOi (td:TE):TI:=fun σ H R=>td σ H fun x H1=>∃ d o kvs,x = .ref d∧H1 d=some (.frz o (.dK kvs))∧R (Iti d o kvs) H1
section
variable {X:Cx}{tg e:Expr}{td:TE}{apos cpos:Pos}
theorem zHk {elts:List Expr}{kk:Nat}{tpos:Pos}(he:PE X e td) (hbase:attributeBase e "items" X.env (eval e X.env)=eval e X.env:=by rfl) (hline:(apos.endLine==cpos.line)=true:=by rfl) :
  PI X (.Tuple elts kk tpos) (.Call (.Attribute e "items" apos) [] [] cpos) (zOi td):=by
 intro pins s σ H R I h;refine wpAny_Call_method (T:="dict") (id:="dict.items") hbase rfl hline F.plainAttrs_dict F.slot_dict_items F.type_dict_items (thn (he pins s σ H _ I h) fun u s1 ⟨x,H1,I1,rx,d,o,kvs,ex,hd,q⟩=>?_);subst ex;obtain rfl:u=Value.ref d:=rx;obtain⟨hs,hgd,hx,es,ep,vs,hdt,hsz,kv,hm⟩:=I1.frzK hd;have hl:kvs.length=vs.length:=Paired.length kv;refine⟨hm.dictOf.typeIs,hm.dictOf.mapOf.noDict,?_⟩;have I2:Inv X pins σ H1 { s1 with heap:=s1.heap.push { cls := .type "dict_items",data := .fields #[.ref d] } }:=I1.kept (t':=s1.toks) fun b ob q=>Heap.get?_push_of_some _ q
 have fin:wpAny (model X.prog X.w) X.A (pyIter (.ref s1.heap.objs.size)) (PIE X pins σ (.Tuple elts kk tpos) R) X.xe { s1 with heap:=s1.heap.push { cls := .type "dict_items",data := .fields #[.ref d] } }:=by
  refine wpAny_pyIter_items (d:=d) (knd:=jE X.prog X.w) ⟨_,Heap.get?_push_size _ rfl,rfl,rfl⟩ (hm.push _) (zOg (tk:=s1.toks) I2 _ (zIZ _ hdt) ⟨.none,.none,?_⟩ q);rw [hl];exact Heap.get?_push_size _ rfl
 show wpAny _ _ (callWith cpos (.builtin "dict.items") [.ref d] [] []) _ X.xe s1;exact method_meetsIn F.slot_dict_items F.entry_dict_items rfl (PySem.evalArgs_none ⟨rfl,hm.dictOf.typeIs,F.args_dict_items_1 _,_,meets_dict_items (jE X.prog X.w) d hs,⟨vs,hm.dictOf⟩,fin⟩)
end
def Ite (K:W.Frag) (a:Addr):It :=
 ⟨fun i H=>∃ (xs:List V) (x:V),SqL K H a xs∧xs[i]? = some x,fun i H v H'=>∃ T x,v = .ref T∧H T=none∧H'=upd H T (.tup [.int (i:Nat),x])∧∀ xs,SqL K H a xs→xs[i]? = some x,fun i H=>∃ xs:List V,SqL K H a xs∧xs.length≤i⟩
theorem zJp {P:Program}{w:World}{K:W.Frag}{elts:List Expr}{kk:Nat}{tpos:Pos}(a e it:Addr) :
  zL9 P w K (.Tuple elts kk tpos) (Ite K a) [e,it] e (fun i h=>(∃ old,IsEnum h e it ((i:Nat):Int) old)∧h.IsListIter it a i∧e≠it) where
 mem:=by simp
 obj:=fun i h st b hb=>by
  obtain⟨⟨old,he⟩,⟨o,ho,hc,hd⟩,_⟩:=st
  have e':b=e∨b=it:=by simpa using hb
  rcases e' with z | z
  ·rw [z];exact⟨_,he,fun v q=>nomatch q⟩
  ·rw [z];exact⟨o,ho,fun v q=>by rw [hd] at q;cases q⟩
 keep:=fun i h h' st k=>let ⟨⟨old,he⟩,hi,hne⟩:=st;⟨⟨old,k e (by simp) _ he⟩,hi.at fun o q=>k it (by simp) o q,hne⟩
 item:=by
  intro X hP hw hK hc i pins s σ H E I hf st hg;subst hP hw hK;obtain⟨⟨old,he⟩,hit,hne⟩:=st;obtain⟨xs,x,hq,hx⟩:=hg;obtain⟨its,rv,p,hz⟩:=I.list hq;obtain⟨u,hu,ru⟩:=rv.get hx;have hel:e<s.heap.objs.size:=Heap.lt_size he
  have hil:it<s.heap.objs.size:=by obtain⟨_,q,_⟩:=hit;exact Heap.lt_size q
  refine wpAny_pyNext_enum_item he hit p.isList (x:=u) (by simpa using hu) hne fun h' ho hit' hT hsz hk=>?_;refine⟨_,rfl,wpAny_letOwnedTupleGo_enum (s:={ s with heap:=h',toks:=s.toks+1 }) ho fun h'' he' sb=>?_⟩;have hT2:h''.get? s.heap.objs.size=some { cls := .type "tuple",data := .seq #[.int i s.toks,u] }:=(sb.2 _ (ne_of_gt hel)).trans hT
  have new:kT X.prog X.w (upd H s.heap.objs.size (.tup [.int (i:Nat),x])) h'' s.heap.objs.size (.tup [.int (i:Nat),x]) :=
   ⟨by show 2≤sizeLine;decide,[.int i s.toks,u],.cons ⟨_,rfl⟩ (.cons ru .nil),⟨_,hT2,rfl,_,rfl⟩⟩
  have I1:Inv X pins σ (upd H s.heap.objs.size (.tup [.int (i:Nat),x])) { s with heap:=h'',toks:=s.toks+1 } :=
   I.turnedNew (ch:=[e,it]) (fun b ob hb q=>(sb.2 b (fun z=>hb (by simp [z]))).trans (hk b ob (fun z=>hb (by simp [z])) (fun z=>hb (by simp [z])) q)) hf (le_refl _) new
  refine⟨.ref s.heap.objs.size,_,I1,rfl,⟨_,x,rfl,I.hok.fresh (le_refl _),rfl,fun ys hy=>by rw [I.list_inj hy hq];exact hx⟩,⟨⟨u,?_⟩,hit'.at fun o q=>(sb.2 it (Ne.symm hne)).trans q,hne⟩,fun b hb=>?_⟩
  ·have e1:((i+1:Nat):Int)=(i:Int)+1:=by omega
   rw [e1];exact he'
  ·have hb':b<s.heap.objs.size:=by
    have e':b=e∨b=it:=by simpa using hb
    rcases e' with z | z
    ·rw [z];exact hel
    ·rw [z];exact hil
   rw [zD (ne_of_lt hb')];exact(hf b hb).1
 done:=by
  intro X hP hw hK hc i pins s σ H E I hf st hg;subst hP hw hK;obtain⟨⟨old,he⟩,hit,hne⟩:=st;obtain⟨xs,hq,hx⟩:=hg;obtain⟨its,rv,p,hz⟩:=I.list hq;obtain⟨f0,f1,f2,f3,f4,f5⟩:=hf it (by simp);have hl:=rv.length;exact wpAny_pyNext_enum_end (I.ok.hd hc) he hit p.isList (by simp;omega) fun h' eb=>⟨rfl,I.turned (t':=s.toks) (fun b o hb q=>eb b o hb q) f0 f1 f3 f4 f5⟩
 self:=fun A i s Q E st h=>let ⟨⟨_,he⟩,_⟩:=st;wpAny_pyIter_enum he h
def zPj (K:W.Frag) (ta:TA):TI:=fun σ H R=>ta σ H fun vs H1=>∃ a xs,vs=[.ref a]∧SqL K H1 a xs∧R (Ite K a) H1
theorem zNI {X:Cx}{e:Expr}{ta:TA}{p pos tpos:Pos}{elts:List Expr}{kk:Nat}(hg:Gl X "enumerate") (hm:X.mg "enumerate"=none) (ha:PA X [e] ta) (hs:starEach [e] X.env=[(false,eval e X.env)]:=by rfl) :
  PI X (.Tuple elts kk tpos) (.Call (.Name "enumerate" p) [e] [] pos) (zPj X.K ta):=by
 intro pins s σ H R I h;refine Call_ (zDo I hg hm boot_enumerate (PyProof.Rows.callWith_type1 (thn (ha pos pins s σ H _ I h) fun us s1 ⟨vs,H1,I1,r1,q1⟩=>?_) hs rfl));obtain⟨a,xs,ex,hq,q⟩:=q1;subst ex
 cases r1 with
 | cons r rr =>
  cases rr
  cases r
  obtain⟨its,rv,p',hz⟩:=I1.list hq;refine call_enumerate_list p'.isList fun h' he hit hsz hk=>wpAny_pyIter_enum he ?_;have I2:Inv X pins σ H1 { s1 with heap:=h' }:=I1.kept (t':=s1.toks) hk;refine⟨s1.heap.objs.size+1,[s1.heap.objs.size+1,s1.heap.objs.size],_,_,H1,rfl,I2,zJp a (s1.heap.objs.size+1) s1.heap.objs.size,⟨⟨.none,he⟩,hit,Nat.succ_ne_self _⟩,fun b hb=>?_,q⟩
  have e':b=s1.heap.objs.size+1∨b=s1.heap.objs.size:=by simpa using hb
  have hle:s1.heap.objs.size≤b:=by
   rcases e' with z | z
   ·rw [z];exact le_add_right _ _
   ·rw [z];exact le_refl _
  exact I1.fpOk hle (I1.hok.fresh hle)
theorem zFf:bootBuiltins "zip"=some (.type "zip"):=by decide +kernel
def Itz (K:W.Frag) (a b:Addr):It :=
 ⟨fun i H=>∃ (xs ys:List V) (x y:V),SqL K H a xs∧SqL K H b ys∧xs[i]? = some x∧ys[i]? = some y,
  fun i H v H'=>∃ T x y,v = .ref T∧H T=none∧H'=upd H T (.tup [x,y])∧(∀ xs,SqL K H a xs→xs[i]? = some x)∧∀ ys,SqL K H b ys→ys[i]? = some y,
  fun i H=>∃ xs ys:List V,SqL K H a xs∧SqL K H b ys∧(xs.length≤i∨ys.length≤i)⟩
theorem zLQ {P:Program}{w:World}{K:W.Frag}{elts:List Expr}{kk:Nat}{tpos:Pos}{a b z TI TO i1 i2:Addr}(D:ZipApart z TI TO i1 i2 a b) :
  zL9 P w K (.Tuple elts kk tpos) (Itz K a b) [z,TI,TO,i1,i2] z (fun i h=>IsZip h z TI TO .none∧IsPair h TI (.ref i1) (.ref i2)∧(∃ x y,IsPair h TO x y)∧h.IsListIter i1 a i∧h.IsListIter i2 b i) where
 mem:=by simp
 obj:=fun i h st c hc=>by
  obtain⟨hz,hTI,⟨x,y,hTO⟩,⟨o1,e1,_,d1⟩,⟨o2,e2,_,d2⟩⟩:=st
  have e':c=z∨c=TI∨c=TO∨c=i1∨c=i2:=by simpa using hc
  rcases e' with q | q | q | q | q
  ·rw [q];exact⟨_,hz,fun v q=>nomatch q⟩
  ·rw [q];exact⟨_,hTI,fun v q=>nomatch q⟩
  ·rw [q];exact⟨_,hTO,fun v q=>nomatch q⟩
  ·rw [q];exact⟨o1,e1,fun v q=>by rw [d1] at q;cases q⟩
  ·rw [q];exact⟨o2,e2,fun v q=>by rw [d2] at q;cases q⟩
 keep:=fun i h h' st k=>by
  obtain⟨hz,hTI,⟨x,y,hTO⟩,h1,h2⟩:=st;exact⟨k z (by simp) _ hz,k TI (by simp) _ hTI,⟨x,y,k TO (by simp) _ hTO⟩,h1.at fun o q=>k i1 (by simp) o q,h2.at fun o q=>k i2 (by simp) o q⟩
 item:=by
  intro X hP hw hK hc i pins s σ H E I hf st hg;subst hP hw hK;obtain⟨hz,hTI,⟨x0,y0,hTO⟩,h1,h2⟩:=st;obtain⟨xs,ys,x,y,hqx,hqy,hx,hy⟩:=hg;obtain⟨its,rv,p,_⟩:=I.list hqx;obtain⟨its2,rv2,p2,_⟩:=I.list hqy;obtain⟨u,hu,ru⟩:=rv.get hx;obtain⟨u2,hu2,ru2⟩:=rv2.get hy;have hzl:z<s.heap.objs.size:=Heap.lt_size hz;refine wpAny_pyNext_zip_item D hz hTI hTO h1 h2 p.isList p2.isList (x:=u) (y:=u2) (by simpa using hu) (by simpa using hu2) fun h' z' TO' h1' h2' hT hsz hk=>?_;refine⟨_,rfl,wpAny_letOwnedTupleGo_zip (s:={ s with heap:=h' }) z' fun h'' z'' sb=>?_⟩;have hT2:h''.get? s.heap.objs.size=some { cls := .type "tuple",data := .seq #[u,u2] }:=(sb.2 _ (ne_of_gt hzl)).trans hT
  have new:kT X.prog X.w (upd H s.heap.objs.size (.tup [x,y])) h'' s.heap.objs.size (.tup [x,y]) :=
   ⟨by show 2≤sizeLine;decide,[u,u2],.cons ru (.cons ru2 .nil),⟨_,hT2,rfl,_,rfl⟩⟩
  have I1:Inv X pins σ (upd H s.heap.objs.size (.tup [x,y])) { s with heap:=h'' } :=
   I.turnedNew (t':=s.toks) (ch:=[z,TI,TO,i1,i2]) (fun c o hb q=>(sb.2 c (fun q'=>hb (by simp [q']))).trans (hk c o (fun q'=>hb (by simp [q'])) (fun q'=>hb (by simp [q'])) (fun q'=>hb (by simp [q'])) (fun q'=>hb (by simp [q'])) q)) hf (le_refl _) new
  refine⟨.ref s.heap.objs.size,_,I1,rfl,⟨_,x,y,rfl,I.hok.fresh (le_refl _),rfl,fun l hl=>by rw [I.list_inj hl hqx];exact hx,fun l hl=>by rw [I.list_inj hl hqy];exact hy⟩,⟨z'',?_,⟨u,u2,?_⟩,?_,?_⟩,fun c hcm=>?_⟩
  ·exact(sb.2 _ D.TIz).trans (hk _ _ D.TIz D.TITO D.TIi1 D.TIi2 hTI)
  ·exact(sb.2 _ D.TOz).trans TO'
  ·exact h1'.at fun o q=>(sb.2 _ D.i1z).trans q
  ·exact h2'.at fun o q=>(sb.2 _ D.i2z).trans q
  ·have hlt:c<s.heap.objs.size:=by
    have e':c=z∨c=TI∨c=TO∨c=i1∨c=i2:=by simpa using hcm
    rcases e' with q | q | q | q | q
    ·rw [q];exact hzl
    ·rw [q];exact Heap.lt_size hTI
    ·rw [q];exact Heap.lt_size hTO
    ·rw [q];obtain⟨_,e1,_⟩:=h1;exact Heap.lt_size e1
    ·rw [q];obtain⟨_,e2,_⟩:=h2;exact Heap.lt_size e2
   rw [zD (ne_of_lt hlt)];exact(hf c hcm).1
 done:=by
  intro X hP hw hK hc i pins s σ H E I hf st hg;subst hP hw hK;obtain⟨hz,hTI,⟨x0,y0,hTO⟩,h1,h2⟩:=st;obtain⟨xs,ys,hqx,hqy,hend⟩:=hg;obtain⟨its,rv,p,_⟩:=I.list hqx;obtain⟨its2,rv2,p2,_⟩:=I.list hqy;have l1:=rv.length;have l2:=rv2.length
  have he:its.toArray[i]? = none∨its2.toArray[i]? = none:=by
   rcases hend with q | q
   ·exact .inl (by simp;omega)
   ·exact .inr (by simp;omega)
  exact wpAny_pyNext_zip_end (I.ok.hd hc) D hz hTI hTO h1 h2 p.isList p2.isList he fun h' hk=>⟨rfl,I.turnedL (t':=s.toks) (ch:=[z,TI,TO,i1,i2]) (fun c o hb q =>
   hk c o (fun q'=>hb (by simp [q'])) (fun q'=>hb (by simp [q'])) (fun q'=>hb (by simp [q'])) (fun q'=>hb (by simp [q'])) q) hf⟩
 self:=fun A i s Q E st h=>wpAny_pyIter_zip st.1 h
def zQY (K:W.Frag) (ta:TA):TI:=fun σ H R=>ta σ H fun vs H1=>∃ a b xs ys,vs=[.ref a,.ref b]∧SqL K H1 a xs∧SqL K H1 b ys∧R (Itz K a b) H1
theorem zOj {X:Cx}{e e2:Expr}{ta:TA}{p pos tpos:Pos}{elts:List Expr}{kk:Nat}(hg:Gl X "zip") (hm:X.mg "zip"=none) (ha:PA X [e,e2] ta)
  (hs:starEach [e,e2] X.env=(false,eval e X.env)::starEach [e2] X.env:=by rfl) (hpl:(backTo pos (starEach [e2] X.env)).any (·.1)=false:=by rfl) :
  PI X (.Tuple elts kk tpos) (.Call (.Name "zip" p) [e,e2] [] pos) (zQY X.K ta):=by
 intro pins s σ H R I h;refine Call_ (zDo I hg hm zFf (PyProof.Rows.callWith_type1 (thn (ha pos pins s σ H _ I h) fun us s1 ⟨vs,H1,I1,r1,q1⟩=>?_) hs hpl));obtain⟨a,b,xs,ys,ex,hqx,hqy,q⟩:=q1;subst ex
 cases r1 with
 | cons r rr =>
  cases rr with
  | cons r' rr =>
   cases rr
   cases r
   cases r'
   obtain⟨its,rv,p1,_⟩:=I1.list hqx;obtain⟨its2,rv2,p2,_⟩:=I1.list hqy;have la:a<s1.heap.objs.size:=p1.lt;have lb:b<s1.heap.objs.size:=p2.lt;refine call_zip_2 p1.isList p2.isList fun h' hz hTI hTO h1 h2 hsz hk=>wpAny_pyIter_zip hz ?_;have I2:Inv X pins σ H1 { s1 with heap:=h' }:=I1.kept (t':=s1.toks) hk;refine⟨s1.heap.objs.size+4,[s1.heap.objs.size+4,s1.heap.objs.size+2,s1.heap.objs.size+3,s1.heap.objs.size,s1.heap.objs.size+1],_,_,H1,rfl,I2,zLQ (W.ktu_apart s1.heap.objs.size a b la lb),⟨hz,hTI,⟨_,_,hTO⟩,h1,h2⟩,fun c hcm=>?_,q⟩
   have e':c=s1.heap.objs.size+4∨c=s1.heap.objs.size+2∨c=s1.heap.objs.size+3∨c=s1.heap.objs.size∨c=s1.heap.objs.size+1:=by simpa using hcm
   have hle:s1.heap.objs.size≤c:=by
    rcases e' with z | z | z | z | z
    ·rw [z];exact le_add_right _ _
    ·rw [z];exact le_add_right _ _
    ·rw [z];exact le_add_right _ _
    ·rw [z];exact le_refl _
    ·rw [z];exact le_add_right _ _
   exact I1.fpOk hle (I1.hok.fresh hle)
end L2
section
namespace Bits
open PySem PyProof.Rows
end Bits
end
section
namespace TL
open PySem PySem.Builtin PySem.Builtin.Str PySem.StrLaws
end TL
end
namespace L2
open PySem PySem.Spec PyProof.Rows
section
variable {X:Cx}{pins:List (Addr×Obj)}{σ:St}{H:Hp}{s:Shared}{Q:VK}
end
section
variable {X:Cx}
end
section
variable {X:Cx}{o e:Expr}{to te:TE}
end
end L2
namespace L2
open PySem PySem.Spec PyProof.Rows
section
variable {X:Cx}
end
end L2
namespace Att
open PySem PySem.W PySem.Calls PyProof.Rows
section
variable {prog:Program}{w:World}{A:Around}{E:Value→Shared→Prop}{s:Shared}{K:Frag}
end
end Att
namespace L2
open PySem PySem.Spec PyProof.Rows
end L2
namespace L2
open PySem PySem.Spec PyProof.Rows
abbrev KOf {K:W.Frag}{h:Heap}(_:K.In h):W.Frag:=K
end L2
namespace L2
open PySem PySem.Spec PyProof.Rows
def inClass (s:Stmt) (j:Nat):Stmt:=match s with
 | .ClassDef _ _ _ body _ _ _ _ _ _ _=>body.getD j (.Pass ⟨0,0,0,0⟩)
 | _ => .Pass ⟨0,0,0,0⟩
def jL (s:Stmt):Arguments:=match s with
 | .FunctionDef _ a _ _ _ _ _ _ _ _=>a
 | _=>{ posonlyargs:=[],args:=[],vararg:=none,kwonlyargs:=[],kw_defaults:=[],kwarg:=none,defaults:=[] }
def zy (s:Stmt):List Stmt:=match s with
 | .FunctionDef _ _ b _ _ _ _ _ _ _=>b
 | _=>[]
def zE (s:Stmt):Scope:=match s with
 | .FunctionDef _ _ _ _ _ _ sc _ _ _=>sc
 | _=>{ kind := .function,names:=[],isGenerator:=false,isCoroutine:=false }
abbrev CX0:CXT:=fun _ _ _ _ _ _=>False
abbrev E0:XK:=fun _ _ _=>False
theorem zIa {X:Cx}:zBX CX0 X E0:=fun _ _ _ _ _ _ _ h=>h.elim
structure Fun (K:W.Frag) (x qual:Str) (st:Stmt) (f:Addr) (fd:FuncData):Prop where
 ex:∃ (oc:Value) (od:Option Addr) (kV doc pm:Value) (an:Option Addr) (cdv ct:Value) (osl:Array (Option Value)),
  fd=W.fnOf x qual (jL st) (zy st) (zE st) .none kV doc pm an cdv ct∧K.lookup f=some ⟨oc,od,.func fd,osl⟩∧W.codeIn K cdv qual=true
 kp:W.keepIn K (.ref f)=true
section
variable {P:Program}{w:World}{K:W.Frag}{mg:Str→Option Value}{base:Heap}
theorem Fun.ok {x qual:Str}{st:Stmt}{f:Addr}{fd:FuncData}{N ps:List Str}{k:Nat}{sp:Sp}(F:Fun K x qual st f fd) (S:zL N ps (zE st)) (len:∀ vs H Q E,sp vs H Q E→vs.length=ps.length)
  (hbody:∀ (cdv:Value) (A:Around) (outer:List Env) (s:Shared) (H:Hp) (vs:List V) (Q:VK) (E:XK),wE k (A.deeper (envOfC qual (zE st) s.heap.objs.size f cdv))→sp vs H Q E →
   ∃ t,PSs (zM5 CX0 P w K mg base N qual (zE st) f cdv A outer s H E).nox (zy st) t∧t { nx:=fun _ H'=>Q .non H',rt:=Q } (start N vs) H):zFS P w K mg base CX0 (k+1) f fd ps sp:=by
 obtain⟨oc,od,kV,doc,pm,an,cdv,ct,osl,rfl,lk,hcd⟩:=F.ex;refine zPY lk hcd S len fun A outer s H vs Q E hr hsp=>?_;obtain⟨t,h,q⟩:=hbody cdv A outer s H vs Q E hr hsp;exact⟨t,h.nox,q⟩
theorem Fun.binds {x qual:Str}{st:Stmt}{f:Addr}{fd:FuncData}{ps:List Str}(F:Fun K x qual st f fd)
  (h:∀ (kV doc pm:Value) (an:Option Addr) (cdv ct:Value) (us:List Value),us.length=ps.length→bindArgs (W.fnOf x qual (jL st) (zy st) (zE st) .none kV doc pm an cdv ct) ⟨us,[]⟩=pure (ps.zip us)):zAT K fd ps []:=by
 obtain⟨oc,od,kV,doc,pm,an,cdv,ct,osl,rfl,lk,hcd⟩:=F.ex;exact .all (h kV doc pm an cdv ct)
theorem j0 {x qual:Str}{st:Stmt}{f:Addr}{oc:Value}{od an:Option Addr}{osl:Array (Option Value)}{kV doc pm cdv ct:Value}(l:K.lookup f=some ⟨oc,od,.func (W.fnOf x qual (jL st) (zy st) (zE st) .none kV doc pm an cdv ct),osl⟩)
  (c:W.codeIn K cdv qual=true) (k:W.keepIn K (.ref f)=true):Fun K x qual st f (W.fnOf x qual (jL st) (zy st) (zE st) .none kV doc pm an cdv ct):=⟨⟨oc,od,kV,doc,pm,an,cdv,ct,osl,rfl,l,c⟩,k⟩
end
theorem zGl {A:Around}{k:Nat}(hr:wE k A):A.units+1<cLine:=lt_of_le_of_lt (Nat.add_le_add_left (by decide:1≤64) _) hr.units
theorem zb {n:Nat}(h:n≤1000):n<sizeLine:=lt_of_le_of_lt h (by decide)
section
variable {X:Cx}
theorem pv (i:Nat){x:Str}{pos:Pos}(hN:X.N[i]? = some x:=by rfl) (hv:Vis X.env.scope x:=by first | exact Or.inl rfl | exact Or.inr (Or.inl rfl) | exact Or.inr (Or.inr rfl)) (hd:(x==("__debug__":Str))=false:=by decide)
  (hcd:(x==("__classdict__":Str))=false:=by decide):PE X (.Name x pos) (zPt i):=zOA hN hv hd hcd
theorem zAV:zBm X (.builtin "len") (fun xs H Q=>∃ a kvs,xs=[V.ref a]∧H a=some (.dK kvs)∧Q (.int kvs.length) H):=by
 intro pins s σ H xs us Q I r h;obtain⟨a,kvs,rfl,ha,q⟩:=h;obtain⟨u,rfl,ru⟩:=zLC r
 cases ru
 exact zPe I (.inl ha) fun t s' I'=>⟨.int kvs.length,H,I',⟨t,rfl⟩,q⟩
end
theorem ym {A B:Prop}(h:B):if false=true then A else B:=by
 rw [if_neg Bool.false_ne_true];exact h
theorem yc {A B:Prop}(h:A):if true=true then A else B:=by
 rw [if_pos rfl];exact h
theorem zMG {c A B:Prop} [Decidable c] (h1:c→A) (h2:¬ c→B):if c then A else B:=by
 by_cases h:c
 ·rw [if_pos h];exact h1 h
 ·rw [if_neg h];exact h2 h
theorem zPk {c A B:Prop} [Decidable c] (hc:c) (h:B):if(!decide c)=true then A else B:=by
 rw [decide_eq_true hc];exact ym h
section
variable {κ:Type} [DecidableEq κ]
theorem zNJ {kvs:List (κ×V)}{k:κ}{v:V}(h:yL kvs k=some v):k∈kvs.map (·.1):=by
 have q:(kvs.any fun kv=>decide (kv.1=k))=true:=by
  rw [yl,h]
  all_goals rfl
 obtain⟨p,hp,e⟩:=List.any_eq_true.mp q;exact List.mem_map.mpr ⟨p,hp,of_decide_eq_true e⟩
end
theorem zPl {α:Type}{l:List α}(hN:l.Nodup){i j:Nat}{x:α}(a:l[i]? = some x) (b:l[j]? = some x):i=j:=by
 obtain⟨h1,e1⟩:=List.getElem?_eq_some_iff.mp a;obtain⟨h2,e2⟩:=List.getElem?_eq_some_iff.mp b;exact(List.getElem_inj hN).mp (e1.trans e2.symm)
end L2
section
namespace L2
open PySem PySem.Spec PyProof.Rows
open PySem.W (WData Codec OpenSpec Well WellAll ReadsW ReadsAllW)
mutual
inductive Dw (K:W.Frag) (H:Hp):V→WData→Prop
 | non:Dw K H .non .none
 | bl (b:Bool):Dw K H (.bl b) (.bool b)
 | int (i:Int):Dw K H (.int i) (.int i)
 | str (x:Str):Dw K H (.str x) (.str x)
 | byt (b:Array UInt8):Dw K H (.byt b) (.bytes b.toList)
 | lst {a:Addr}{xs:List V}{ds:List WData}:SqL K H a xs→zBn K H xs ds→Dw K H (.ref a) (.list ds)
 | tup {a:Addr}{xs:List V}{ds:List WData}:SqT K H a xs→zBn K H xs ds→Dw K H (.ref a) (.tuple ds)
inductive zBn (K:W.Frag) (H:Hp):List V→List WData→Prop
 | nil:zBn K H [] []
 | cons {v:V}{vs:List V}{d:WData}{ds:List WData}:Dw K H v d→zBn K H vs ds→zBn K H (v::vs) (d::ds)
end
theorem zJq {K:W.Frag}{H:Hp}:∀ ns:List Int,zBn K H (ns.map V.int) (ns.map WData.int)
 | [] => .nil
 | n::r => .cons (.int n) (zJq r)
theorem zJr {K:W.Frag}{H:Hp}:∀ (ns:List Int) (xs:List V),zBn K H xs (ns.map WData.int)→xs=ns.map V.int
 | [],xs,h=>by
  cases h
  rfl
 | n::r,xs,h=>by
  cases h with
  | cons h1 h2 =>
   cases h1
   rw [zJr r _ h2]<;>rfl
section
variable {P:Program}{w:World}{K:W.Frag}{H:Hp}{h:Heap}{R:W.WRecords}{cl:Str→Option Addr}
theorem zOk {a:Addr}{xs:List V}(hok:HOk P w H h) (KX:K.In h) (q:SqL K H a xs):∃ (its:List Value) (o:Obj) (n:Nat),zt xs its∧h.get? a=some o∧o.cls = .type "list"∧o.data = .seq its.toArray n:=by
 rcases q with q | ⟨o,its,n,e,hc,_,hd,_,hv⟩
 ·obtain⟨_,its,n,hv,e⟩:=(show kT P w H h a (.lst xs) from q.ok hok);exact⟨its,_,n,hv,e,rfl,rfl⟩
 ·exact⟨its.toList,o,n,hv,KX _ _ e,hc,by simp [hd]⟩
theorem zOl {a:Addr}{xs:List V}(hok:HOk P w H h) (KX:K.In h) (q:SqT K H a xs):∃ (its:List Value) (o:Obj) (n:Nat),zt xs its∧h.get? a=some o∧o.cls = .type "tuple"∧o.data = .seq its.toArray n:=by
 rcases q with q | ⟨o,its,n,e,hc,hd,_,hv⟩
 ·obtain⟨_,its,hv,o,e,hc,n,hd⟩:=(show kT P w H h a (.tup xs) from q.ok hok);exact⟨its,o,n,hv,e,hc,hd⟩
 ·exact⟨its.toList,o,n,hv,KX _ _ e,hc,by simp [hd]⟩
mutual
theorem Dw.reads (hok:HOk P w H h) (KX:K.In h):∀ (d:WData) (v:V) (u:Value),Dw K H v d→jX v u→∃ as,ReadsW R cl h u d as
 | .none,_,_,x,r=>by
  cases x
  cases r
  exact⟨_,ReadsW.none⟩
 | .bool b,_,_,x,r=>by
  cases x
  cases r
  exact⟨_,ReadsW.bool b⟩
 | .int i,_,_,x,r=>by
  cases x
  obtain⟨t,rfl⟩:=r;exact⟨_,ReadsW.int i t⟩
 | .str s,_,_,x,r=>by
  cases x
  obtain⟨t,rfl⟩:=r;exact⟨_,ReadsW.str s t⟩
 | .bytes b,_,_,x,r=>by
  cases x
  obtain⟨t,rfl⟩:=r;exact⟨_,ReadsW.bytes _ t⟩
 | .list ds,_,_,x,r=>by
  cases x with
  | lst hs ha =>
   cases r
   obtain⟨its,o,n,rv,ho,hc,hd⟩:=zOk hok KX hs;obtain⟨as,hr⟩:=Dw.readsAll hok KX ds _ its ha rv;exact⟨_,ReadsW.list ho hc hd hr⟩
 | .tuple ds,_,_,x,r=>by
  cases x with
  | tup hs ha =>
   cases r
   obtain⟨its,o,n,rv,ho,hc,hd⟩:=zOl hok KX hs;obtain⟨as,hr⟩:=Dw.readsAll hok KX ds _ its ha rv;exact⟨_,ReadsW.tuple ho hc hd hr⟩
 | .float _,_,_,x,_=>by cases x
 | .dict _,_,_,x,_=>by cases x
 | .bytearray _,_,_,x,_=>by cases x
 | .set _,_,_,x,_=>by cases x
 | .frozenset _,_,_,x,_=>by cases x
 | .obj _ _,_,_,x,_=>by cases x
theorem Dw.readsAll (hok:HOk P w H h) (KX:K.In h):∀ (ds:List WData) (vs:List V) (us:List Value),zBn K H vs ds→zt vs us→∃ as,ReadsAllW R cl h us ds as
 | [],_,_,x,r=>by
  cases x
  cases r
  exact⟨_,ReadsAllW.nil⟩
 | d::ds,_,_,x,r=>by
  cases x with
  | cons h1 h2 =>
   cases r with
   | cons r1 r2 =>
    obtain⟨as,q1⟩:=Dw.reads hok KX d _ _ h1 r1;obtain⟨bs,q2⟩:=Dw.readsAll hok KX ds _ _ h2 r2;exact⟨_,ReadsAllW.cons q1 q2⟩
end
end
mutual
def plW:WData→Bool
 | .none=>true
 | .bool _=>true
 | .int _=>true
 | .str _=>true
 | .bytes _=>true
 | .list xs=>zIz xs
 | .tuple xs=>zIz xs
 | _=>false
def zIz:List WData→Bool
 | []=>true
 | x::r=>plW x&&zIz r
end
theorem zHl {α:Type}{f:α→WData}(h:∀ a,plW (f a)=true):∀ l:List α,zIz (l.map f)=true
 | []=>rfl
 | x::r=>by
  show(plW (f x)&&zIz (r.map f))=true;rw [h x,zHl h r]<;>rfl
theorem zBc:∀ (c:Codec) (a:c.denote),plW (c.enc a)=true
 | .unit,_=>rfl
 | .bool,_=>rfl
 | .int _ _,_=>rfl
 | .nat _ _,_=>rfl
 | .u8,_=>rfl
 | .bytes _ _,_=>rfl
 | .text _ _ _ _,_=>rfl
 | .list _ _ c,a=>zHl (fun x=>zBc c x) a
 | .pair c d,a=>by
  show(plW (c.enc a.1)&&(plW (d.enc a.2)&&true))=true;rw [zBc c a.1,zBc d a.2]<;>rfl
 | .triple c d e,a=>by
  show(plW (c.enc a.1)&&(plW (d.enc a.2.1)&&(plW (e.enc a.2.2)&&true)))=true;rw [zBc c a.1,zBc d a.2.1,zBc e a.2.2]<;>rfl
 | .option c,none=>rfl
 | .option c,some x=>zBc c x
theorem zFg:∀ (cs:List Codec) (a:Codec.denoteAll cs),zIz (Codec.encAll cs a)=true
 | [],_=>rfl
 | c::cs,a=>by
  show(plW (c.enc a.1)&&zIz (Codec.encAll cs a.2))=true;rw [zBc c a.1,zFg cs a.2]<;>rfl
theorem zA4:∀ {xs:List WData}{d:WData},d∈xs→d.weight≤WData.weightAll xs
 | [],d,h=>absurd h (by simp)
 | x::r,d,h=>by
  show d.weight≤x.weight+1+WData.weightAll r
  rcases List.mem_cons.mp h with e | m
  ·rw [e];omega
  ·have z:=zA4 m;omega
def toV:Value→V
 | .none => .non
 | .bool b => .bl b
 | .int i _ => .int i
 | .str x _ => .str x
 | .bytes b _ => .byt b
 | .ref a => .ref a
 | _ => .non
def OkU (A:List Addr):Value→Prop
 | .none=>True
 | .bool _=>True
 | .int _ _=>True
 | .str _ _=>True
 | .bytes _ _=>True
 | .ref a=>a∈A
 | _=>False
theorem OkU.mono {A B:List Addr}(h:∀ a∈A,a∈B):∀ {u:Value},OkU A u→OkU B u:=fun {u} x=>by
 cases u with
 | ref a=>exact h a x
 | none=>trivial
 | bool b=>trivial
 | int i t=>trivial
 | str s t=>trivial
 | bytes b t=>trivial
 | _=>exact False.elim x
theorem zLR {A:List Addr}{u:Value}(x:OkU A u):jX (toV u) u:=by
 cases u with
 | ref a=>rfl
 | none=>rfl
 | bool b=>rfl
 | int i t=>exact⟨t,rfl⟩
 | str s t=>exact⟨t,rfl⟩
 | bytes b t=>exact⟨t,rfl⟩
 | _=>exact False.elim x
theorem wF {A:List Addr}:∀ {vs:List Value},(∀ u∈vs,OkU A u)→zt (vs.map toV) vs
 | [],_ => .nil
 | u::r,h => .cons (zLR (h u (mem_cons_self ..))) (wF fun x hx=>h x (mem_cons_of_mem _ hx))
def zBo (h:Heap) (A:List Addr) (a:Addr):Prop:=∃ vs:List Value,vs.length≤sizeLine∧(∀ u∈vs,OkU A u) ∧
 (h.get? a=some { cls := .type "list",data := .seq vs.toArray }∨h.get? a=some { cls := .type "tuple",data := .seq vs.toArray })
theorem zBo.mono {h:Heap}{A B:List Addr}{a:Addr}(k:∀ a∈A,a∈B) (x:zBo h A a):zBo h B a:=by
 obtain⟨vs,h1,h2,h3⟩:=x;exact⟨vs,h1,fun u hu=>(h2 u hu).mono k,h3⟩
theorem yn {P:Params}{h:Heap}:∀ {vs:List Value}{ds:List WData},WellAll P h vs ds→vs.length=ds.length
 | _,_,.nil=>rfl
 | _,_,.cons _ b=>by
  show _+1=_+1;rw [yn b]
theorem zFh {P:Params}{h:Heap}{v:Value}{ds:List WData}(x:Well P h v (.list ds)):∃ (a:Addr) (vs:List Value),v = .ref a∧h.get? a=some { cls := .type "list",data := .seq vs.toArray }∧WellAll P h vs ds:=by
 cases x with
 | list ho hall=>exact⟨_,_,rfl,ho,hall⟩
theorem zDu {P:Params}{h:Heap}{v:Value}{ds:List WData}(x:Well P h v (.tuple ds)):∃ (a:Addr) (vs:List Value),v = .ref a∧h.get? a=some { cls := .type "tuple",data := .seq vs.toArray }∧WellAll P h vs ds:=by
 cases x with
 | tuple ho hall=>exact⟨_,_,rfl,ho,hall⟩
theorem zFi {P:Params}{h:Heap}{us:List Value}{d:WData}{ds:List WData}(x:WellAll P h us (d::ds)):∃ (v:Value) (vs:List Value),us=v::vs∧Well P h v d∧WellAll P h vs ds:=by
 cases x with
 | cons a b=>exact⟨_,_,rfl,a,b⟩
theorem zJs {n:Nat}(h:n≤1048576):n≤sizeLine:=le_trans h (by decide)
section
variable {P:Params}{h:Heap}
mutual
theorem zLS:∀ (d:WData) (v:Value),Well P h v d→plW d=true→d.weight≤1048576→∃ A:List Addr,OkU A v∧∀ a∈A,zBo h A a
 | .none,_,x,_,_=>by
  cases x
  exact⟨[],trivial,fun a m=>absurd m (by simp)⟩
 | .bool b,_,x,_,_=>by
  cases x
  exact⟨[],trivial,fun a m=>absurd m (by simp)⟩
 | .int i,_,x,_,_=>by
  cases x
  exact⟨[],trivial,fun a m=>absurd m (by simp)⟩
 | .str s,_,x,_,_=>by
  cases x
  exact⟨[],trivial,fun a m=>absurd m (by simp)⟩
 | .bytes b,_,x,_,_=>by
  cases x
  exact⟨[],trivial,fun a m=>absurd m (by simp)⟩
 | .list ds,_,x,p,z=>by
  obtain⟨a,vs,rfl,ho,hall⟩:=zFh x;have z2:WData.weightAll ds≤1048576:=z;obtain⟨A,h1,h2⟩:=zB4 ds _ hall p fun d hd=>le_trans (zA4 hd) z2;have k:∀ b∈A,b∈a::A:=fun b hb=>mem_cons_of_mem _ hb;refine⟨a::A,mem_cons_self ..,fun b hb=>?_⟩
  rcases List.mem_cons.mp hb with e | m
  ·rw [e];exact⟨vs,zJs (by rw [yn hall];exact le_trans (W.length_le_weightAllW ds) z2),fun u hu=>(h1 u hu).mono k,.inl ho⟩
  ·exact(h2 b m).mono k
 | .tuple ds,_,x,p,z=>by
  obtain⟨a,vs,rfl,ho,hall⟩:=zDu x;have z2:WData.weightAll ds≤1048576:=z;obtain⟨A,h1,h2⟩:=zB4 ds _ hall p fun d hd=>le_trans (zA4 hd) z2;have k:∀ b∈A,b∈a::A:=fun b hb=>mem_cons_of_mem _ hb;refine⟨a::A,mem_cons_self ..,fun b hb=>?_⟩
  rcases List.mem_cons.mp hb with e | m
  ·rw [e];exact⟨vs,zJs (by rw [yn hall];exact le_trans (W.length_le_weightAllW ds) z2),fun u hu=>(h1 u hu).mono k,.inr ho⟩
  ·exact(h2 b m).mono k
 | .float _,_,_,p,_=>Bool.noConfusion (show false=true from p)
 | .dict _,_,_,p,_=>Bool.noConfusion (show false=true from p)
 | .bytearray _,_,_,p,_=>Bool.noConfusion (show false=true from p)
 | .set _,_,_,p,_=>Bool.noConfusion (show false=true from p)
 | .frozenset _,_,_,p,_=>Bool.noConfusion (show false=true from p)
 | .obj _ _,_,_,p,_=>Bool.noConfusion (show false=true from p)
theorem zB4:∀ (ds:List WData) (vs:List Value),WellAll P h vs ds→zIz ds=true→(∀ d∈ds,d.weight≤1048576)→∃ A:List Addr,(∀ u∈vs,OkU A u)∧∀ a∈A,zBo h A a
 | [],_,x,_,_=>by
  cases x
  exact⟨[],fun u m=>absurd m (by simp),fun a m=>absurd m (by simp)⟩
 | d::ds,_,x,p,z=>by
  obtain⟨v,vs,rfl,x1,x2⟩:=zFi x;have q:plW d=true∧zIz ds=true:=Bool.and_eq_true_iff.mp p;obtain⟨A,a1,a2⟩:=zLS d v x1 q.1 (z d (mem_cons_self ..));obtain⟨B,b1,b2⟩:=zB4 ds vs x2 q.2 fun e he=>z e (mem_cons_of_mem _ he);have kA:∀ b∈A,b∈A++B:=fun b hb=>List.mem_append.mpr (.inl hb);have kB:∀ b∈B,b∈A++B:=fun b hb=>List.mem_append.mpr (.inr hb);refine⟨A++B,fun u hu=>?_,fun b hb=>?_⟩
  ·rcases List.mem_cons.mp hu with e | m
   ·rw [e];exact a1.mono kA
   ·exact(b1 u m).mono kB
  ·rcases List.mem_append.mp hb with m | m
   ·exact(a2 b m).mono kA
   ·exact(b2 b m).mono kB
end
end
def zPF (o:Obj):Option HO:=match o.data with
 | .seq vs _=>if(o.cls==Value.type "list")=true then some (.frz o (.lst (vs.toList.map toV))) else some (.frz o (.tup (vs.toList.map toV)))
 | _=>none
def zEZ (K:W.Frag) (h:Heap) (A:List Addr):Hp:=fun b=>if b∈A then(if(K.lookup b).isNone=true then(h.get? b).bind zPF else none) else none
def zJt (H:Hp):Prop:=∀ b,H b=none∨∃ o u,H b=some (.frz o u)
theorem zHm (vs:List Value):zPF { cls := .type "list",data := .seq vs.toArray }=some (.frz { cls := .type "list",data := .seq vs.toArray } (.lst (vs.map toV))):=by
 show(if(Value.type "list"==Value.type "list")=true then some (HO.frz { cls := .type "list",data := .seq vs.toArray } (.lst (vs.toArray.toList.map toV))) else some (HO.frz { cls := .type "list",data := .seq vs.toArray } (.tup (vs.toArray.toList.map toV))))=_;rw [if_pos (beq_self_eq_true _)]
theorem zHn (vs:List Value):zPF { cls := .type "tuple",data := .seq vs.toArray }=some (.frz { cls := .type "tuple",data := .seq vs.toArray } (.tup (vs.map toV))):=by
 show(if(Value.type "tuple"==Value.type "list")=true then some (HO.frz { cls := .type "tuple",data := .seq vs.toArray } (.lst (vs.toArray.toList.map toV))) else some (HO.frz { cls := .type "tuple",data := .seq vs.toArray } (.tup (vs.toArray.toList.map toV))))=_;rw [if_neg (by decide)]
section
variable {P:Program}{w:World}{K:W.Frag}{h:Heap}{A:List Addr}
theorem zEa {b:Addr}{o:Obj}(hb:b∈A) (hk:K.lookup b=none) (e:h.get? b=some o):zEZ K h A b=zPF o:=by
 unfold zEZ;rw [if_pos hb,hk,if_pos (show(none:Option Obj).isNone=true from rfl),e]<;>rfl
theorem zNK {b:Addr}{u:HO}(q:zEZ K h A b=some u):b∈A∧K.lookup b=none:=by
 unfold zEZ at q;by_cases hb:b∈A
 ·rw [if_pos hb] at q
  cases hk:K.lookup b with
  | none=>exact⟨hb,rfl⟩
  | some o =>
   rw [hk,if_neg (by simp)] at q
   cases q
 ·rw [if_neg hb] at q
  cases q
theorem zEb (ar:∀ a∈A,zBo h A a){b:Addr}{u:HO}(q:zEZ K h A b=some u):K.lookup b=none∧∃ vs:List Value,vs.length≤sizeLine∧(∀ u∈vs,OkU A u) ∧
  ((h.get? b=some { cls := .type "list",data := .seq vs.toArray }∧u = .frz { cls := .type "list",data := .seq vs.toArray } (.lst (vs.map toV))) ∨
   (h.get? b=some { cls := .type "tuple",data := .seq vs.toArray }∧u = .frz { cls := .type "tuple",data := .seq vs.toArray } (.tup (vs.map toV)))):=by
 obtain⟨hb,hk⟩:=zNK q;obtain⟨vs,h1,h2,h3⟩:=ar b hb;refine⟨hk,vs,h1,h2,?_⟩
 rcases h3 with e | e
 ·rw [zEa hb hk e,zHm] at q;exact .inl ⟨e,(Option.some.inj q).symm⟩
 ·rw [zEa hb hk e,zHn] at q;exact .inr ⟨e,(Option.some.inj q).symm⟩
theorem zJu (ar:∀ a∈A,zBo h A a):zJt (zEZ K h A):=fun b=>by
 cases q:zEZ K h A b with
 | none=>exact .inl rfl
 | some u =>
  obtain⟨_,vs,_,_,⟨_,e⟩ | ⟨_,e⟩⟩:=zEb ar q
  ·exact .inr ⟨_,_,by rw [e]⟩
  ·exact .inr ⟨_,_,by rw [e]⟩
theorem zNL (ar:∀ a∈A,zBo h A a):HOk P w (zEZ K h A) h:=fun b u q=>by
 obtain⟨_,vs,h1,h2,⟨e,rfl⟩ | ⟨e,rfl⟩⟩:=zEb ar q
 ·exact⟨e,by rw [length_map];exact h1,vs,_,wF h2,e⟩
 ·exact⟨e,by rw [length_map];exact h1,vs,wF h2,_,e,rfl,_,rfl⟩
theorem zEc {c c':Value}{vs us:List Value}(e:(some { cls:=c,data := .seq vs.toArray }:Option Obj)=some { cls:=c',data := .seq us.toArray }):c=c'∧vs=us:=by
 have e1:=Option.some.inj e;have e2:c=c':=congrArg Obj.cls e1;have e3:Data.seq vs.toArray=Data.seq us.toArray:=congrArg Obj.data e1
 injection e3 with e4
 refine⟨e2,?_⟩;have e5:=congrArg Array.toList e4
 simpa using e5
theorem zQZ (KX:K.In h) (ar:∀ a∈A,zBo h A a){a:Addr}{vs:List Value}(ha:a∈A) (e:h.get? a=some { cls := .type "list",data := .seq vs.toArray }):(∀ u∈vs,OkU A u)∧SqL K (zEZ K h A) a (vs.map toV):=by
 obtain⟨us,h1,h2,h3⟩:=ar a ha
 have hu:us=vs:=by
  rcases h3 with q | q
  ·rw [e] at q;exact(zEc q).2.symm
  ·rw [e] at q;exact absurd (Value.type.inj (zEc q).1) (by decide)
 subst hu;refine⟨h2,?_⟩
 cases hk:K.lookup a with
 | none=>exact .inl (.inr ⟨_,by rw [zEa ha hk e,zHm]⟩)
 | some o =>
  have e2:=KX a o hk;rw [e] at e2;obtain rfl:=Option.some.inj e2;exact .inr ⟨_,us.toArray,_,hk,rfl,rfl,rfl,by rw [size_toArray];exact h1,by simpa using wF h2⟩
theorem zQa (KX:K.In h) (ar:∀ a∈A,zBo h A a){a:Addr}{vs:List Value}(ha:a∈A) (e:h.get? a=some { cls := .type "tuple",data := .seq vs.toArray }):(∀ u∈vs,OkU A u)∧SqT K (zEZ K h A) a (vs.map toV):=by
 obtain⟨us,h1,h2,h3⟩:=ar a ha
 have hu:us=vs:=by
  rcases h3 with q | q
  ·rw [e] at q;exact absurd (Value.type.inj (zEc q).1) (by decide)
  ·rw [e] at q;exact(zEc q).2.symm
 subst hu;refine⟨h2,?_⟩
 cases hk:K.lookup a with
 | none=>exact .inl (.inr ⟨_,by rw [zEa ha hk e,zHn]⟩)
 | some o =>
  have e2:=KX a o hk;rw [e] at e2;obtain rfl:=Option.some.inj e2;exact .inr ⟨_,us.toArray,_,hk,rfl,rfl,by rw [size_toArray];exact h1,by simpa using wF h2⟩
mutual
theorem zOm {Pm:Params}(KX:K.In h) (ar:∀ a∈A,zBo h A a):∀ (d:WData) (v:Value),Well Pm h v d→plW d=true→OkU A v→Dw K (zEZ K h A) (toV v) d
 | .none,_,x,_,_=>by
  cases x
  exact .non
 | .bool b,_,x,_,_=>by
  cases x
  exact .bl b
 | .int i,_,x,_,_=>by
  cases x
  exact .int i
 | .str s,_,x,_,_=>by
  cases x
  exact .str s
 | .bytes b,_,x,_,_=>by
  cases x
  have z:=Dw.byt (K:=K) (H:=zEZ K h A) b.toArray;exact z
 | .list ds,_,x,p,hu=>by
  obtain⟨a,vs,rfl,ho,hall⟩:=zFh x;obtain⟨h2,hs⟩:=zQZ KX ar hu ho;exact .lst hs (zHo KX ar ds _ hall p h2)
 | .tuple ds,_,x,p,hu=>by
  obtain⟨a,vs,rfl,ho,hall⟩:=zDu x;obtain⟨h2,hs⟩:=zQa KX ar hu ho;exact .tup hs (zHo KX ar ds _ hall p h2)
 | .float _,_,_,p,_=>Bool.noConfusion (show false=true from p)
 | .dict _,_,_,p,_=>Bool.noConfusion (show false=true from p)
 | .bytearray _,_,_,p,_=>Bool.noConfusion (show false=true from p)
 | .set _,_,_,p,_=>Bool.noConfusion (show false=true from p)
 | .frozenset _,_,_,p,_=>Bool.noConfusion (show false=true from p)
 | .obj _ _,_,_,p,_=>Bool.noConfusion (show false=true from p)
theorem zHo {Pm:Params}(KX:K.In h) (ar:∀ a∈A,zBo h A a):∀ (ds:List WData) (vs:List Value),WellAll Pm h vs ds→zIz ds=true→(∀ u∈vs,OkU A u)→zBn K (zEZ K h A) (vs.map toV) ds
 | [],_,x,_,_=>by
  cases x
  exact .nil
 | d::ds,_,x,p,hu=>by
  obtain⟨v,vs,rfl,x1,x2⟩:=zFi x;have q:plW d=true∧zIz ds=true:=Bool.and_eq_true_iff.mp p;exact .cons (zOm KX ar d v x1 q.1 (hu _ (mem_cons_self ..))) (zHo KX ar ds vs x2 q.2 fun u m=>hu u (mem_cons_of_mem _ m))
end
end
theorem zJv {P:Program}{w:World}{K:W.Frag}{mg mb:Str→Option Value}{CX:CXT}{k:Nat}{fa:Addr}{fd:FuncData}{ps:List Str}{sp:Sp}{s₁:Shared}{vals:List Value}{ds:List WData}{R:W.WRecords}{cl:Str→Option Addr}{d0:WData}
  (KX:K.In s₁.heap) (hns:s₁.heap.Ns mainGlobals mg) (hb:s₁.heap.Ns builtinsNs mb) (hbb:∀ x:Str,x≠"__name__"→mb x=bootBuiltins x) (hlim:s₁.heap.NoLimit) (hg:s₁.gens=#[])
  (hwl:WellAll w.params s₁.heap vals ds) (hpl:zIz ds=true) (hwt:∀ d∈ds,d.weight≤1048576) (hr:wE k callerA)
  (F:∀ base:Heap,K.In base→base.Ns mainGlobals mg→zFS P w K mg base CX k fa fd ps sp) (hbind:∀ (s:Shared) (us:List Value),us.length=ps.length→BindsTo s fd ⟨us,[]⟩ (ps.zip us)) (hlen:ds.length=ps.length)
  (hsp:∀ (H:Hp) (xs:List V),zJt H→zBn K H xs ds→sp xs H (fun v H'=>Dw K H' v d0) fun _ _ _=>False)
  (hCX:∀ H e s',CX [] H s₁ (fun _ _ _=>False) e s'→False) :
  codeAny (model P w) callerA (.call (.ref fa) ⟨vals,[]⟩) (fun r s'=>∃ u as,r = .ok (.ret u)∧ReadsW R cl s'.heap u d0 as∧OldK s₁.heap s'.heap∧s'.os=s₁.os∧AllBare s'.gens) s₁:=by
 obtain⟨A,ho,ar⟩:=zB4 ds vals hwl hpl hwt;have hO:zJt (zEZ K s₁.heap A):=zJu ar;have hok:HOk P w (zEZ K s₁.heap A) s₁.heap:=zNL ar;have hS:=zHo KX ar ds vals hwl hpl ho;have hV:=wF ho;have hK:∀ b u,zEZ K s₁.heap A b=some u→K.lookup b=none:=fun b u q=>(zEb ar q).1
 have noA:∀ {b:Addr}{o:Obj}{es:Array DictEntry}{ep:Nat},s₁.heap.get? b=some o→o.data = .dict es ep→zEZ K s₁.heap A b=none:=fun {b o es ep} e d=>by
  cases q:zEZ K s₁.heap A b with
  | none=>rfl
  | some u =>
   obtain⟨_,vs,_,_,⟨e2,_⟩ | ⟨e2,_⟩⟩:=zEb ar q
   ·rw [e2] at e
    cases e
    have d':Data.seq vs.toArray _=Data.dict es ep:=d
    cases d'
   ·rw [e2] at e
    cases e
    have d':Data.seq vs.toArray _=Data.dict es ep:=d
    cases d'
 generalize zEZ K s₁.heap A=H at hO hok hS hK noA;have base_of:∀ {b:Addr}{o:Obj},s₁.heap.get? b=some o→H b=none→(zK8 s₁.heap H).get? b=some o:=fun e n=>zK9 e n;have nsK:∀ {b:Addr}{m:Str→Option Value},s₁.heap.Ns b m→(zK8 s₁.heap H).Ns b m:=fun {b m} ⟨o,es,ep,e,d,r⟩=>⟨o,es,ep,base_of e (noA e d),d,r⟩
 have nK:∀ b o,K.lookup b=some o→H b=none:=fun b o e=>by
  cases q:H b with
  | none=>rfl
  | some u =>
   rw [hK b u q] at e
   cases e
 have hKb:K.In (zK8 s₁.heap H):=fun b o e=>base_of (KX b o e) (nK b o e);have hM:Mod K mg (zK8 s₁.heap H):=⟨hKb,nsK hns,⟨mb,nsK hb,hbb⟩,let ⟨mc,h1,h2⟩:=hlim;⟨mc,nsK h1,h2⟩⟩;have e0:zM1 P w K mg (zK8 s₁.heap H) callerA [] s₁ H:=⟨rfl,hM,fun b o e=>zMu e,le_of_eq (zJK _ _),trivial,fun b hb=>absurd (show b∈([]:List Addr) from hb) (by simp),hok,.of_eq hg⟩
 have hl:vals.length=ps.length:=by rw [yn hwl];exact hlen
 refine codeAny_mono ((F _ hKb (nsK hns)).run callerA [] s₁ H ⟨vals,[]⟩ vals (vals.map toV) _ _ hr e0 (hbind s₁ vals hl) hV (hsp H _ hO hS)) fun r s' x=>?_
 cases r with
 | error e=>exact(hCX H e s' x).elim
 | ok fl =>
  cases fl with
  | next=>exact False.elim x
  | brk=>exact False.elim x
  | cont=>exact False.elim x
  | ret u =>
   obtain⟨v,H',os,bare,un,hok',r',q⟩:=x
   have kept:∀ b o,s₁.heap.get? b=some o→s'.heap.get? b=some o:=fun b o e=>by
    cases q2:H b with
    | none=>exact un.keep b o e q2 (by intro z;exact absurd (show b∈([]:List Addr) from z) (by simp)) (by simp)
    | some u2 =>
     rcases hO b with z | ⟨ob,u3,z⟩
     ·rw [q2] at z
      cases z
     ·have z2:=un.frzs b ob _ z;obtain⟨e1,_⟩:=hok b _ z;obtain⟨e2,_⟩:=hok' b _ z2;rw [e] at e1
      cases e1
      exact e2
   have KX':K.In s'.heap:=fun b o e=>kept b o (KX b o e);obtain⟨as,hrd⟩:=Dw.reads (R:=R) (cl:=cl) hok' KX' d0 v u q r';exact⟨u,as,rfl,hrd,OldK.of_keep kept,os,bare⟩
theorem zDJ {ds:List WData}(h:WData.layableAll ds=true):∀ d∈ds,d.weight≤1048576:=fun d hd =>
 (W.layableW_iff.mp (List.all_eq_true.mp h d hd)).2.2
theorem zDv:∀ (cs:List Codec) (a:Codec.denoteAll cs),(Codec.encAll cs a).length=cs.length
 | [],_=>rfl
 | c::cs,a=>by
  show(Codec.encAll cs a.2).length+1=cs.length+1;rw [zDv cs a.2]
theorem zJw {r:OpenSpec}{k:Nat}{q:Program}{loose:List Str}{XP:(Str→Option Value)→Heap→Prop}{YP:World→Heap→Prop}{d:DefRec}{K:Params→W.Frag}{CX:World→CXT}{ps:List Str}{sp:World→Sp}
  (hwell:r.wellSaid=true) (hdf:d.params.defaults=[]) (hlen:r.args.length=ps.length) (hr:wE k callerA)
  (hY:∀ (w:World) (h:Heap),YP w h→(K w.params).In h)
  (F:∀ (w:World) (mg:Str→Option Value) (fa:Addr) (h:Heap),YP w h→(K w.params).In h→h.Ns mainGlobals mg→mg d.name=some (.ref fa) →
   ∃ fd:FuncData,(∀ (s:Shared) (us:List Value),us.length=ps.length→BindsTo s fd ⟨us,[]⟩ (ps.zip us)) ∧
    ∀ base:Heap,(K w.params).In base→base.Ns mainGlobals mg→zFS r.prog w (K w.params) mg base (CX w) k fa fd ps (sp w))
  (hsp:∀ (w:World) (H:Hp) (xs:List V) (a:Codec.denoteAll r.args),zJt H→Codec.withinAll r.args a=true→Codec.app r.args r.asked a=true→zBn (K w.params) H xs (Codec.encAll r.args a) →
   sp w xs H (fun v H'=>Dw (K w.params) H' v (r.ret.enc (Codec.app r.args r.f a))) fun _ _ _=>False)
  (hCX:∀ (w:World) (H:Hp) (s:Shared) (e:Value) (s':Shared),CX w [] H s (fun _ _ _=>False) e s'→False) :
  W.WalkOS q loose XP YP r d [] (fun f vs=>PySem.call f vs):=by
 intro w s_0 s₁ mg mb G Y fa o pm cd doc dV kV ho hd hcd hD hmg hg args vals as hpre hlay hrd hwl hlo;obtain⟨a,e1,e2⟩:=W.os_pre_some hpre;obtain⟨e3,hwi⟩:=Codec.encAll_of_decAll r.args args a e1;subst e3;have KX:=hY w _ Y;obtain⟨fd,hb,hF⟩:=F w mg fa _ Y KX G.T.g hmg
 refine W.enter_call (codeAny_mono (zJv (R:=[]) (cl:=classAt s_0.heap) (d0:=r.ret.enc (Codec.app r.args r.f a)) KX G.T.g G.T.b G.T.builtins G.T.nolimit hg hwl (zFg _ _) (zDJ hlay) hr hF hb (by rw [zDv];exact hlen)
  (fun H xs hO hS=>hsp w H xs a hO hwi e2 hS) fun H e s'=>hCX w H s₁ e s') fun r' s' hq=>?_)
 obtain⟨u,as',rfl,h1,h2,h3,h4⟩:=hq;exact⟨.inl ⟨u,_,as',rfl,fun _=>rfl,h1,(OpenSpec.post_iff hwell hwi _ _).mpr rfl,fun z=>Bool.noConfusion (show false=true from z)⟩,h2,h3,h4⟩
theorem zIb {r:OpenSpec}{k:Nat}{q:Program}{loose:List Str}{XP:(Str→Option Value)→Heap→Prop}{YP:World→Heap→Prop}{d:DefRec}{K:Params→W.Frag}{CX:CXT}{ps:List Str}{sp:W.Frag→Sp}
  (hwell:r.wellSaid=true) (hdf:d.params.defaults=[]) (hlen:r.args.length=ps.length) (hr:wE k callerA)
  (hY:∀ (w:World) (h:Heap),YP w h→(K w.params).In h)
  (F:∀ (w:World) (mg:Str→Option Value) (fa:Addr) (h:Heap),YP w h→(K w.params).In h→h.Ns mainGlobals mg→mg d.name=some (.ref fa) →
   ∃ fd:FuncData,(∀ (s:Shared) (us:List Value),us.length=ps.length→BindsTo s fd ⟨us,[]⟩ (ps.zip us)) ∧
    ∀ base:Heap,(K w.params).In base→base.Ns mainGlobals mg→zFS r.prog w (K w.params) mg base CX k fa fd ps (sp (K w.params)))
  (hsp:∀ (K:W.Frag) (H:Hp) (xs:List V) (a:Codec.denoteAll r.args),zJt H→Codec.withinAll r.args a=true→Codec.app r.args r.asked a=true→zBn K H xs (Codec.encAll r.args a) →
   sp K xs H (fun v H'=>Dw K H' v (r.ret.enc (Codec.app r.args r.f a))) fun _ _ _=>False)
  (hCX:∀ (H:Hp) (s:Shared) (e:Value) (s':Shared),CX [] H s (fun _ _ _=>False) e s'→False) :
  W.WalkOS q loose XP YP r d [] (fun f vs=>PySem.call f vs) :=
 zJw (K:=K) (CX:=fun _=>CX) (sp:=fun w=>sp (K w.params)) hwell hdf hlen hr hY F (fun w H xs a h1 h2 h3 h4=>hsp (K w.params) H xs a h1 h2 h3 h4) fun _ H s e s'=>hCX H s e s'
end L2
end
namespace L2
open PySem PySem.Spec PyProof.Rows
section
variable {X:Cx}
theorem yo:OpR X (binaryOp .FloorDiv) (rI (fun _ j=>0<j∧j.natAbs.log2<9000) fun i j => .int (i/j)):=opI fun i j _ _ _ _ _ hc q=>by
 have hj:(0:Int)<j:=hc.1;refine floordiv_int (Int.ne_of_gt hj) ?_ (.inl (PyProof.noPylong_of_log2 hc.2));rw [Int.fdiv_eq_ediv_of_nonneg i (Int.le_of_lt hj)];exact q
theorem zA5 {i j:Int}(hi:i.natAbs.log2<60000000) (hj:j.natAbs.log2<60000000):IntMulOk i j:=by
 have e:∀ z:Int,z.natAbs.log2<60000000→Builtin.Int.intBits z≤60000000:=fun z hz=>by
  unfold Builtin.Int.intBits;split
  ·exact zero_le _
  ·exact hz
 have e1:=e i hi;have e2:=e j hj
 have c:Builtin.Int.intTooBig (Builtin.Int.intBits i+Builtin.Int.intBits j)=false:=by
  unfold Builtin.Int.intTooBig;rw [bitsLine_eq];exact decide_eq_false (by omega)
 unfold IntMulOk;rw [c,Bool.and_false];exact Bool.false_ne_true
theorem jG:OpR X (binaryOp .Mult) (rI IntMulOk fun i j => .int (i*j)):=opI fun _ _ _ _ _ _ _ hc q=>mul_int q hc
end
theorem zNM (l b:Addr) (us ws:Array Value) (n m:Nat) (dd:Option Addr) (sl:Array (Option Value)) (h0:¬ (!us.isEmpty&&Builtin.List.listTooLong (us.size+ws.size))=true) (h1:us.size≤sizeLine) (h2:us.size+ws.size≤sizeLine+1) :
  Meets (Builtin.«list.extend» ⟨[.ref l,.ref b],[]⟩) (fun _ R s=>s.heap.get? l=some { cls := .type "list",data := .seq us n }∧s.heap.get? b=some { cls := .type "tuple",dict:=dd,data := .seq ws m,slots:=sl } ∧
   R (.ok (.ret Value.none)) { s with heap:=s.heap.update l (Obj.mapSeq fun x=>x++ws) }) :=
 .of_wp fun prog w A R s h=>by
  obtain⟨hp,g,d,tk,os⟩:=s;obtain⟨hl,hb,h⟩:=h;have f1:=PySem.AutoSeq1.sub_tuple_tuple;have f2:=PySem.AutoSeq1.sub_tuple_list
  have big:(us++ws).size≤sizeLine+1:=by rw [Array.size_append];exact h2
  wp_walk using(wpAny_updateSeq hl rfl (hz:=h1) (_hz':=big)),PySem.AutoSeq1.wpAny_loadPart' hl,PySem.AutoSeq1.wpAny_loadPart' hb
  exact⟨_,rfl,h⟩
section
variable {X:Cx}
def zLT (K:W.Frag):V→List V→Hp→VK→Prop:=fun x vs H Q=>∃ l b xs zs,x = .ref l∧vs=[.ref b]∧H l=some (.lst xs)∧SqT K H b zs∧xs.length+zs.length≤sizeLine∧Q .non (upd H l (.lst (xs++zs)))
theorem zA6:MtM X "list.extend" (zLT X.K):=by
 intro pins s σ H x vs v us Q I rx rv h;obtain⟨l,b,xs,zs,rfl,rfl,hH,hB,hz,q⟩:=h
 cases rx
 obtain⟨u,rfl,ru⟩:=rv.one
 cases ru
 obtain⟨z,its,n,r,hl,e⟩:=I.lstM hH;obtain⟨its2,r2,⟨o2,e2,c2,n2,d2⟩,z2⟩:=I.tuple hB;have l2:=r2.length
 have big:its.toArray.size+its2.toArray.size≤sizeLine:=by rw [size_toArray,size_toArray];omega
 have short:¬ (!its.toArray.isEmpty&&Builtin.List.listTooLong (its.toArray.size+its2.toArray.size))=true:=by
  rw [zEV big,Bool.and_false];exact Bool.false_ne_true
 obtain⟨c,dd,dt,sl⟩:=o2;dsimp only at c2 d2;subst c2 d2;refine call_meets F.slot_list_extend ⟨_,e,rfl⟩ F.entry_list_extend (F.args_list_extend_2 _ _) (zNM l b its.toArray its2.toArray n n2 dd sl short (by rw [size_toArray];omega) (by omega)) ⟨e,e2,?_⟩;refine⟨.non,_,I.lset (its':=its++its2) hH e (by simp) (r.append r2) ?_,rfl,q⟩;rw [length_append];omega
end
def Has (P:Program) (w:World) (K:W.Frag) (mg:Str→Option Value) (base:Heap) (x:Str) (k:Nat) (ps:List Str) (sp:Sp):Prop :=
 ∃ f fd,zFS P w K mg base CX0 k f fd ps sp∧mg x=some (.ref f)∧W.keepIn K (.ref f)=true∧zAT K fd ps []
def ve (P:Program) (w:World) (K:W.Frag) (mg:Str→Option Value) (base:Heap) (C:Addr) (m:Str) (k:Nat) (ps:List Str) (sp:Sp):Prop :=
 ∃ f fd,zFS P w K mg base CX0 k f fd ps sp∧zOQ K C m f∧zAT K fd ps []
def zLU (P:Program) (w:World) (K:W.Frag) (mg:Str→Option Value) (base:Heap) (x:Str) (C:Addr) (k:Nat) (ps:List Str) (sp:Sp):Prop :=
 ∃ f fd,zFS P w K mg base CX0 k f fd ps sp∧Mk K C f∧mg x=some (.ref C)∧zAT K fd ps []
def zPG (P:Program) (w:World) (K:W.Frag) (mg:Str→Option Value) (base:Heap) (f:Addr) (k:Nat) (ps:List Str) (sp:Sp):Prop :=
 ∃ fd,zFS P w K mg base CX0 k f fd ps sp∧zAT K fd ps []
section
variable {X:Cx}{k:Nat}{C:Addr}{ps:List Str}{sp:Sp}{x m:Str}{p pos apos:Pos}{e o:Expr}{es:List Expr}{ta:TE}{t:TA}
theorem vO (h:Has X.prog X.w X.K X.mg X.base x k ps sp) (hr:wE k X.A) (ha:PA X (e::es) t) (hg:Gl X x:=by rfl) (hdb:(x==("__debug__":Str))=false:=by decide)
  (he:starEach (e::es) X.env=(false,eval e X.env)::starEach es X.env:=by rfl) (hpl:(backTo pos (starEach es X.env)).any (·.1)=false:=by rfl) :
  PE X (.Call (.Name x p) (e::es) [] pos) (zOS sp [] E0 t):=by
 obtain⟨f,fd,F,hm,hk,hb⟩:=h;exact zM2 F hr hg hm hk hb .nil zIa ha hdb he hpl
theorem vF {pl:Sem Bool}(c:Cls X.K C) (h:ve X.prog X.w X.K X.mg X.base C m k ps sp) (hr:wE k X.A) (he:PE X o ta) (ha:PA X (e::es) t)
  (hst:starEach (e::es) X.env=(false,eval e X.env)::starEach es X.env:=by rfl) (hpl:(backTo pos (starEach es X.env)).any (·.1)=false:=by rfl)
  (ht:eval (.Call (.Attribute o m apos) (e::es) [] pos) X.env=(do
   let ov ← eval o X.env
   standAt apos.atName
   let (f,first) ← holding [ov] (getMethod ov m pl)
   callWith pos f first (backTo pos (starEach (e::es) X.env)) (backToKw pos (keywordEach [] X.env))):=by rfl) :
  PE X (.Call (.Attribute o m apos) (e::es) [] pos) (zLG C m sp [] E0 ta t):=by
 obtain⟨f,fd,F,hm,hb⟩:=h;exact zM3 (pl:=pl) he c hm F hr hb .nil zIa ha hst hpl ht
theorem yp {pl:Sem Bool}(c:Cls X.K C) (h:ve X.prog X.w X.K X.mg X.base C m k ps sp) (hr:wE k X.A) (he:PE X o ta)
  (ht:eval (.Call (.Attribute o m apos) [] [] pos) X.env=(do
   let ov ← eval o X.env
   standAt apos.atName
   let (f,first) ← holding [ov] (getMethod ov m pl)
   callWith pos f first (backTo pos (starEach [] X.env)) (backToKw pos (keywordEach [] X.env))):=by rfl) :
  PE X (.Call (.Attribute o m apos) [] [] pos) (zLG C m sp [] E0 ta zOR):=by
 obtain⟨f,fd,F,hm,hb⟩:=h;exact zLI (pl:=pl) he c hm F hr hb .nil zIa ht
theorem zQb (h:zLU X.prog X.w X.K X.mg X.base x C k ps sp) (hr:wE (k+1) X.A) (ha:PA X (e::es) t) (hg:Gl X x:=by rfl) (hdb:(x==("__debug__":Str))=false:=by decide)
  (he:starEach (e::es) X.env=(false,eval e X.env)::starEach es X.env:=by rfl) (hpl:(backTo pos (starEach es X.env)).any (·.1)=false:=by rfl) :
  PE X (.Call (.Name x p) (e::es) [] pos) (zLH C sp [] E0 t):=by
 obtain⟨f,fd,F,M,hm,hb⟩:=h;exact zM4 M F hr hg hm hb .nil zIa ha hdb he hpl
theorem zOn (h:zLU X.prog X.w X.K X.mg X.base x C k ps sp) (hr:wE (k+1) X.A) (hg:Gl X x:=by rfl) (hdb:(x==("__debug__":Str))=false:=by decide) :
  PE X (.Call (.Name x p) [] [] pos) (zLH C sp [] E0 zOR):=by
 obtain⟨f,fd,F,M,hm,hb⟩:=h;exact zLJ M F hr hg hm hb .nil zIa hdb
def zOo (P:Program) (w:World) (K:W.Frag) (mg:Str→Option Value) (base:Heap) (A:Around) (te:TE) (t:TA):TE:=fun σ H Q=>te σ H fun x H1=>∃ f,x = .ref f∧W.keepIn K (.ref f)=true ∧
 t σ H1 fun vs H2=>∃ k ps sp,zPG P w K mg base f k ps sp∧wE k A∧sp vs H2 Q E0
theorem zHp {g:Expr}{tg:TE}(hf:PE X g tg) (ha:PA X (e::es) t)
  (hq:eval (.Call g (e::es) [] pos) X.env=(do callWith pos (← eval g X.env) [] (backTo pos (starEach (e::es) X.env)) (backToKw pos (keywordEach [] X.env))):=by rfl)
  (he:starEach (e::es) X.env=(false,eval e X.env)::starEach es X.env:=by rfl) (hpl:(backTo pos (starEach es X.env)).any (·.1)=false:=by rfl) :
  PE X (.Call g (e::es) [] pos) (zOo X.prog X.w X.K X.mg X.base X.A tg t):=by
 intro pins s σ H Q I h;refine Call_ (thn (hf pins s σ H _ I h) fun u s0 ⟨x,H0,I0,rx,f,ex,hk,q⟩=>?_) hq;subst ex;obtain rfl:u=Value.ref f:=rx;refine W.callWith_K (h₀:=X.base) I.ok.mod.kin hk (thn (ha pos pins s0 σ H0 _ I0 q) fun us s1 ⟨vs,H1,I1,r,k,ps,sp,⟨fd,F,hb⟩,hr,q2⟩=>⟨I1.kIn,?_⟩) he hpl;exact zHe F hr hb (dvs:=[]) .nil zIa I1 r (by rw [append_nil];exact q2)
end
def we (mg:Str→Option Value) (x:Str) (i:Int):Prop:=∃ t,mg x=some (.int i t)
section
variable {X:Cx}{x:Str}{pos:Pos}
theorem zn {i:Int}(h:we X.mg x i) (hg:Gl X x:=by rfl) (hd:(x==("__debug__":Str))=false:=by decide):PE X (.Name x pos) (tC (.int i)):=by
 obtain⟨t,h⟩:=h;exact zJL hg h ⟨t,rfl⟩ hd
theorem w9 {a:Addr}(h:X.mg x=some (.ref a)) (hg:Gl X x:=by rfl) (hd:(x==("__debug__":Str))=false:=by decide):PE X (.Name x pos) (tC (.ref a)):=zJL hg h rfl hd
end
def KD (P:Program) (w:World) (K:W.Frag) (a:Addr) (kvs:List (Key×V)):Prop :=
 (a==sysModules)=false∧∃ o es ep vs,K.lookup a=some o∧o.ExactDict∧o.data = .dict es ep∧KeysOf (jE P w) es∧Pairs (jE P w) es.toList vs∧(vs.map (·.1)).Nodup∧KV kvs vs
section
variable {X:Cx}{pins:List (Addr×Obj)}{σ:St}{H:Hp}{s:Shared}{a:Addr}{kvs:List (Key×V)}
theorem KD.dict (d:KD X.prog X.w X.K a kvs) (I:Inv X pins σ H s):∃ vs,KV kvs vs∧s.heap.DictOf (jE X.prog X.w) a vs:=by
 obtain⟨_,o,es,ep,vs,h1,h2,h3,h4,h5,h6,h7⟩:=d;exact⟨vs,h7,o,es,ep,I.kIn a o h1,h2,h3,h4,h5,h6⟩
variable {o i:Expr}{pos:Pos}{td ty:TE}
def zPm (P:Program) (w:World) (K:W.Frag) (td ty:TE):TE:=fun σ H Q=>td σ H fun x H1=>ty σ H1 fun y H2=>∃ a kvs k v,x = .ref a∧KD P w K a kvs∧y=kV k∧yL kvs k=some v∧Q v H2
theorem zA7 (ho:PE X o td) (hi:PE X i ty) (hs:zPf i):PE X (.Subscript o i pos) (zPm X.prog X.w X.K td ty):=by
 intro pins s σ H Q I h;refine zJk F.slot_dict_getitem.lookup hs (thn (ho pins s σ H _ I h) fun u s1 ⟨x,H1,I1,rx,q1⟩=>thn (hi pins s1 σ H1 _ I1 q1) fun iv s2 ⟨y,H2,I2,ry,a,kvs,k,v,ex,d,ey,hv,q2⟩=>?_);subst ex ey;obtain rfl:u=Value.ref a:=rx;obtain⟨vs,rel,dd⟩:=d.dict I2;obtain⟨w',hw,rw'⟩:=zDn.some_of (v:=v) (o:=valueAt vs k) (by rw [← hv];exact rel.val k);exact⟨dd.typeIs,wpAny_getItem_of (zEW ry) dd.mapOf hw ⟨v,H2,I2.tok _,rw',q2⟩⟩
def zQc (P:Program) (w:World) (K:W.Frag) (ty td:TE):TE:=fun σ H Q=>ty σ H fun y H1=>td σ H1 fun x H2=>∃ a kvs k,x = .ref a∧KD P w K a kvs∧y=kV k∧Q (.bl (yL kvs k).isSome) H2
theorem zOp (hi:PE X i ty) (ho:PE X o td):PC X .In i o (zQc X.prog X.w X.K ty td):=by
 intro pins s σ H Q I h;refine thn (hi pins s σ H _ I h) fun iv s1 ⟨y,H1,I1,ry,q1⟩=>thn (ho pins s1 σ H1 _ I1 q1) fun u s2 ⟨x,H2,I2,rx,a,kvs,k,ex,d,ey,q2⟩=>?_;subst ex ey;obtain rfl:u=Value.ref a:=rx;obtain⟨vs,rel,dd⟩:=d.dict I2;refine wpAny_in_of (zEW ry) d.1 dd.mapOf ?_;rw [← (rel.val k).isSome_eq];exact⟨.bl (yL kvs k).isSome,H2,I2.tok _,rfl,q2⟩
end
end L2
namespace L2
open PySem PySem.Spec PyProof.Rows
def zJ (K:W.Frag) (mg:Str→Option Value) (x:Str) (st:Stmt):Prop:=∃ f fd,Fun K x x st f fd∧mg x=some (.ref f)
def zT (K:W.Frag) (C:Addr) (m qual:Str) (st:Stmt):Prop:=∃ f fd,Fun K m qual st f fd∧zOQ K C m f
def yU (K:W.Frag) (mg:Str→Option Value) (x:Str) (C:Addr) (qual:Str) (st:Stmt):Prop:=∃ f fd,Fun K "__init__" qual st f fd∧Mk K C f∧mg x=some (.ref C)
def zAA (P:Program) (w:World) (K:W.Frag) (mg:Str→Option Value) (base:Heap) (N:List Str) (qual:Str) (st:Stmt) (k:Nat) (sp:Sp):Prop :=
 ∀ (f:Addr) (cdv:Value) (A:Around) (outer:List Env) (s:Shared) (H:Hp) (vs:List V) (Q:VK) (E:XK),wE k (A.deeper (envOfC qual (zE st) s.heap.objs.size f cdv))→sp vs H Q E →
  ∃ t,PSs (zM5 CX0 P w K mg base N qual (zE st) f cdv A outer s H E).nox (zy st) t∧t { nx:=fun _ H'=>Q .non H',rt:=Q } (start N vs) H
def zAW (x qual:Str) (st:Stmt) (ps:List Str):Prop:=∀ (kV doc pm:Value) (an:Option Addr) (cdv ct:Value) (us:List Value),us.length=ps.length →
 bindArgs (W.fnOf x qual (jL st) (zy st) (zE st) .none kV doc pm an cdv ct) ⟨us,[]⟩=pure (ps.zip us)
theorem bA1 {x q:Str}{st:Stmt}{p0:Str}(h:∀ (kV doc pm:Value) (an:Option Addr) (cdv ct u0:Value),bindArgs (W.fnOf x q (jL st) (zy st) (zE st) .none kV doc pm an cdv ct) ⟨[u0],[]⟩=pure ([p0].zip [u0])):zAW x q st [p0]:=fun a b c d e f us hl=>match us,hl with | [u0],_=>h a b c d e f u0
theorem bA2 {x q:Str}{st:Stmt}{p0 p1:Str}(h:∀ (kV doc pm:Value) (an:Option Addr) (cdv ct u0 u1:Value),bindArgs (W.fnOf x q (jL st) (zy st) (zE st) .none kV doc pm an cdv ct) ⟨[u0,u1],[]⟩=pure ([p0,p1].zip [u0,u1])):zAW x q st [p0,p1]:=fun a b c d e f us hl=>match us,hl with | [u0,u1],_=>h a b c d e f u0 u1
theorem bA3 {x q:Str}{st:Stmt}{p0 p1 p2:Str}(h:∀ (kV doc pm:Value) (an:Option Addr) (cdv ct u0 u1 u2:Value),bindArgs (W.fnOf x q (jL st) (zy st) (zE st) .none kV doc pm an cdv ct) ⟨[u0,u1,u2],[]⟩=pure ([p0,p1,p2].zip [u0,u1,u2])):zAW x q st [p0,p1,p2]:=fun a b c d e f us hl=>match us,hl with | [u0,u1,u2],_=>h a b c d e f u0 u1 u2
theorem bA4 {x q:Str}{st:Stmt}{p0 p1 p2 p3:Str}(h:∀ (kV doc pm:Value) (an:Option Addr) (cdv ct u0 u1 u2 u3:Value),bindArgs (W.fnOf x q (jL st) (zy st) (zE st) .none kV doc pm an cdv ct) ⟨[u0,u1,u2,u3],[]⟩=pure ([p0,p1,p2,p3].zip [u0,u1,u2,u3])):zAW x q st [p0,p1,p2,p3]:=fun a b c d e f us hl=>match us,hl with | [u0,u1,u2,u3],_=>h a b c d e f u0 u1 u2 u3
section
variable {P:Program}{w:World}{K:W.Frag}{mg:Str→Option Value}{base:Heap}{x qual m:Str}{st:Stmt}{C:Addr}{N ps:List Str}{k:Nat}{sp:Sp}
theorem jo (D:zJ K mg x st) (S:zL N ps (zE st)) (hb:zAW x x st ps) (len:∀ vs H Q E,sp vs H Q E→vs.length=ps.length) (body:zAA P w K mg base N x st k sp):Has P w K mg base x (k+1) ps sp:=by
 obtain⟨f,fd,F,hm⟩:=D;exact⟨f,fd,F.ok S len (fun cdv A outer s H vs Q E hr h=>body f cdv A outer s H vs Q E hr h),hm,F.kp,F.binds hb⟩
theorem jQ (D:zJ K mg x st){a:Addr}(ha:mg x=some (.ref a)) (S:zL N ps (zE st)) (hb:zAW x x st ps) (len:∀ vs H Q E,sp vs H Q E→vs.length=ps.length) (body:zAA P w K mg base N x st k sp):zPG P w K mg base a (k+1) ps sp∧W.keepIn K (.ref a)=true:=by
 obtain⟨f,fd,F,hm⟩:=D;have e:Value.ref f=Value.ref a:=Option.some.inj (hm.symm.trans ha)
 injection e with e
 subst e;exact⟨⟨fd,F.ok S len (fun cdv A outer s H vs Q E hr h=>body f cdv A outer s H vs Q E hr h),F.binds hb⟩,F.kp⟩
theorem jp (D:zT K C m qual st) (S:zL N ps (zE st)) (hb:zAW m qual st ps) (len:∀ vs H Q E,sp vs H Q E→vs.length=ps.length) (body:zAA P w K mg base N qual st k sp):ve P w K mg base C m (k+1) ps sp:=by
 obtain⟨f,fd,F,hm⟩:=D;exact⟨f,fd,F.ok S len (fun cdv A outer s H vs Q E hr h=>body f cdv A outer s H vs Q E hr h),hm,F.binds hb⟩
theorem zGm (D:yU K mg x C qual st) (S:zL N ps (zE st)) (hb:zAW "__init__" qual st ps) (len:∀ vs H Q E,sp vs H Q E→vs.length=ps.length) (body:zAA P w K mg base N qual st k sp):zLU P w K mg base x C (k+1) ps sp:=by
 obtain⟨f,fd,F,M,hm⟩:=D;exact⟨f,fd,F.ok S len (fun cdv A outer s H vs Q E hr h=>body f cdv A outer s H vs Q E hr h),M,hm,F.binds hb⟩
end
end L2
namespace L2
open PySem PySem.Spec PyProof.Rows
section
variable {X:Cx}{e:Expr}{f:Str}{pos:Pos}{ta:TE}
theorem jg (K:W.Frag) (h:X.K=K):IxR X (rIx K):=h▸zK
theorem km (K:W.Frag) (hK:X.K=K){es:List Expr}{k:Nat}{t:TGs}{n:Nat}(hc:X.calm=true) (h:PGs X es t)
  (hn:(assignEach es X.env).length=n:=by rfl) (hst:(assignEach es X.env).findIdx? (·.1)=none:=by rfl):PG X (.Tuple es k pos) (zPv K n t):=hK▸zCL hc h hn hst
end
end L2
namespace L2
open PySem PySem.Spec PyProof.Rows
theorem zM {K:W.Frag}{h:Heap}{mg:Str→Option Value}{x:Str}{st:Stmt}{f:Addr}{od an:Option Addr}{sl:Array (Option Value)}{oc kV dc pm cd ct:Value}(X:K.In h) (G:h.Ns mainGlobals mg) (a:W.nsIn K mainGlobals x=some (some (.ref f)))
  (l:K.lookup f=some ⟨oc,od,.func (W.fnOf x x (jL st) (zy st) (zE st) .none kV dc pm an cd ct),sl⟩) (c:W.codeIn K cd x=true) (k:W.keepIn K (.ref f)=true):zJ K mg x st:=⟨f,_,j0 (st:=st) l c k,W.mg_of X G a⟩
theorem kI {K:W.Frag}{h:Heap}{mg:Str→Option Value}{x:Str}{i:Int}{t:Tok}(X:K.In h) (G:h.Ns mainGlobals mg) (a:W.nsIn K mainGlobals x=some (some (.int i t))):we mg x i:=⟨t,W.mg_of X G a⟩
end L2
namespace L2
open PySem PySem.Spec PyProof.Rows
inductive wf (w:World):List DictEntry→List (Key×V)→Prop
 | nil:wf w [] []
 | cons {k:Key}{v:V}{h:Int}{key val:Value}{es:List DictEntry}{kvs:List (Key×V)}:zDH k key=true→h=zPs w k→jX v val→wf w es kvs→wf w (⟨h,key,val⟩::es) ((k,v)::kvs)
theorem wf.out {P:Program}{w:World}:∀ {es:List DictEntry}{kvs:List (Key×V)},wf w es kvs→(∀ e∈es,∃ k,(jE P w).is k e.key=true∧e.hash=(jE P w).hash k)∧∃ vs,Pairs (jE P w) es vs∧KV kvs vs∧vs.map (·.1)=kvs.map (·.1)
 | _,_,.nil=>⟨fun e he=>(nomatch he),[],.nil,.nil,rfl⟩
 | _,_,.cons (k:=k) (val:=val) h1 h2 h3 t=>by
  obtain⟨a,vs,b,c,d⟩:=t.out (P:=P);refine⟨fun e he=>?_,(k,val)::vs,.cons h1 rfl b,.cons ⟨rfl,h3⟩ c,by rw [map_cons,map_cons,d]⟩
  rcases List.mem_cons.mp he with rfl | he
  ·exact⟨k,h1,h2⟩
  ·exact a e he
theorem zLV {P:Program}{w:World}{K:W.Frag}{a:Addr}{es:Array DictEntry}{ep:Nat}{kvs:List (Key×V)}(l:K.lookup a=some { cls := .type "dict",data := .dict es ep }) (na:(a==sysModules)=false) (e:wf w es.toList kvs) (nd:(kvs.map (·.1)).Nodup):KD P w K a kvs:=by
 obtain⟨h1,vs,h2,h3,h4⟩:=e.out (P:=P);exact⟨na,_,es,ep,vs,l,⟨rfl,rfl,rfl⟩,rfl,fun x hx=>h1 x (Array.mem_def.mp hx),h2,by rw [h4];exact nd,h3⟩
def jJ (K:W.Frag) (a:Addr) (xs:List V):Prop:=∃ (its:Array Value) (n:Nat) (o:Obj),K.lookup a=some o∧o.cls = .type "tuple"∧o.data = .seq its n∧its.size≤sizeLine∧zt xs its.toList
theorem jJ.sq {K:W.Frag}{a:Addr}{xs:List V}(h:jJ K a xs) (H:Hp):SqT K H a xs:=by
 obtain⟨its,n,o,h1,h2,h3,h4,h5⟩:=h;exact .inr ⟨o,its,n,h1,h2,h3,h4,h5⟩
theorem zl {K:W.Frag}{a:Addr}{its:Array Value}{n:Nat}{xs:List V}(l:K.lookup a=some { cls := .type "tuple",data := .seq its n }) (z:its.size≤sizeLine) (v:zt xs its.toList):jJ K a xs:=⟨its,n,_,l,rfl,rfl,z,v⟩
end L2
namespace L2
open PySem PySem.Spec PyProof.Rows
section
variable {prog:Program}{w:World}{A:Around}{E:Value→Shared→Prop}{s:Shared}
theorem zJx {J T:Addr}{n:Nat}{us:Array Value}{u:Value}{Q:Value→Shared→Prop}(hJ:s.heap.IsTupleIter J T n) (hT:s.heap.IsTuple T us) (hu:us[n]? = some u)
  (hQ:∀ g,g.IsTupleIter J T (n+1)→Heap.SameBut J s.heap g→Q u { s with heap:=g }):wpAny (model prog w) A (Builtin.SmallTypes.nextOf (.ref J)) Q E s:=by
 obtain⟨oJ,eJ,cJ,dJ⟩:=id hJ;obtain⟨oT,eT,_,nT,dT⟩:=hT;unfold Builtin.SmallTypes.nextOf;refine wpAny_bind (wpAny_callSpecial?_slot (name:=Str.ofString "__next__") hJ.typeIs F.slot_tuple_iterator_next (wpAny_call_entry F.slot_tuple_iterator_next hJ.typeIs F.entry_tuple_iterator_next ?_ (F.args_tuple_iterator_next_1 _)));show wpAny _ _ (field (.ref J) 0 >>= _) _ _ s;refine wpAny_bind (wpAny_field eJ dJ (x := .ref T) rfl ?_);show wpAny _ _ (if(Value.ref T==Value.none)=true then _ else _) _ _ s;rw [if_neg (show ¬ ((Value.ref T==Value.none)=true) from Bool.false_ne_true)];show wpAny _ _ (field (.ref J) 1 >>= _) _ _ s;refine wpAny_bind (wpAny_field eJ dJ (x := .int n 0) rfl ?_);show wpAny _ _ (seqItems? (.ref T) >>= _) _ _ s;refine wpAny_bind (wpAny_seqItems eT dT ?_);simp only [toNat_natCast,hu];refine wpAny_bind (wpAny_setField eJ dJ (by simp) (wpAny_pure ⟨u,rfl,wpAny_pure (hQ _ ?_ (Heap.SameBut.update ..))⟩));exact⟨_,Heap.get?_update_self _ eJ (Obj.isFreed_of_fields (Obj.data_mapFields dJ _)),(Obj.cls_mapFields ..).trans cJ,by rw [Obj.data_mapFields dJ];simp [rawInt]⟩
theorem zNN {J T:Addr}{n:Nat}{us:Array Value}{Q:Value→Shared→Prop}(hh:A.handled=none) (hJ:s.heap.IsTupleIter J T n) (hT:s.heap.IsTuple T us) (hu:us[n]? = none)
  (hE:∀ g e,Heap.ExtBut J s.heap g→(∃ o,g.get? e=some o∧o.cls = .type "StopIteration")→E (.ref e) { s with heap:=g }):wpAny (model prog w) A (Builtin.SmallTypes.nextOf (.ref J)) Q E s:=by
 obtain⟨oJ,eJ,cJ,dJ⟩:=id hJ;obtain⟨oT,eT,_,nT,dT⟩:=hT;unfold Builtin.SmallTypes.nextOf;refine wpAny_bind (wpAny_callSpecial?_slot (name:=Str.ofString "__next__") hJ.typeIs F.slot_tuple_iterator_next (wpAny_call_entry F.slot_tuple_iterator_next hJ.typeIs F.entry_tuple_iterator_next ?_ (F.args_tuple_iterator_next_1 _)));show wpAny _ _ (field (.ref J) 0 >>= _) _ _ s;refine wpAny_bind (wpAny_field eJ dJ (x := .ref T) rfl ?_);show wpAny _ _ (if(Value.ref T==Value.none)=true then _ else _) _ _ s;rw [if_neg (show ¬ ((Value.ref T==Value.none)=true) from Bool.false_ne_true)];show wpAny _ _ (field (.ref J) 1 >>= _) _ _ s;refine wpAny_bind (wpAny_field eJ dJ (x := .int n 0) rfl ?_);show wpAny _ _ (seqItems? (.ref T) >>= _) _ _ s;refine wpAny_bind (wpAny_seqItems eT dT ?_);simp only [toNat_natCast,hu];refine wpAny_bind (wpAny_rule (wpAny_bind (wpAny_setField eJ dJ (by simp) ?_)));show wpAny _ _ (newExc (.type "StopIteration") [] >>= _) _ _ _;refine wpAny_bind ?_;simp only [newExc,newTuple];refine wpAny_bind (wpAny_newObj_type ?_ (by size_fits))
 refine wpAny_bind (m:=firstArgMember _ _) (wpAny_of_eq (a:=Value.none) (by first | rfl | (simp only [firstArgMember];rfl)) ?_);refine wpAny_newObj_type ?_ (by size_fits);simp only [raiseNew]
 refine wpAny_bind (wpAny_handled ?_);first | rw [show A.in1.handled=none from hh] | rw [hh]
 refine wpAny_bind (wpAny_pure (wpAny_throw ?_));exact hE _ _ (((Heap.SameBut.update ..).extBut.push _).push _) ⟨_,Heap.get?_push_size _ rfl,rfl⟩
theorem zIc {Z TI TO j1 j2 a1 a2:Addr}{n m:Nat}{us ws:Array Value}{u v p q:Value}{Q:Value→Shared→Prop}(D:ZipApart Z TI TO j1 j2 a1 a2) (hZ:IsZip s.heap Z TI TO .none) (hTI:IsPair s.heap TI (.ref j1) (.ref j2)) (hTO:IsPair s.heap TO p q)
  (h1:s.heap.IsTupleIter j1 a1 n) (h2:s.heap.IsListIter j2 a2 m) (e1:s.heap.IsTuple a1 us) (e2:s.heap.IsList a2 ws) (hu:us[n]? = some u) (hv:ws[m]? = some v)
  (hQ:∀ g,IsZip g Z TI TO (rawInt s.heap.objs.size)→IsPair g TO u v→g.IsTupleIter j1 a1 (n+1)→g.IsListIter j2 a2 (m+1)→IsPair g s.heap.objs.size u v →
   (∀ c o,c≠Z→c≠TO→c≠j1→c≠j2→s.heap.get? c=some o→g.get? c=some o)→Q (.ref s.heap.objs.size) { s with heap:=g }) :
  wpAny (model prog w) A (Builtin.«zip.__next__» ⟨[.ref Z],[]⟩) (fun fin s'=>∃ r,fin = .done (.ret r)∧Q r s') E s:=by
 show wpAny _ _ (field (.ref Z) 2 >>= _) _ _ _;refine wpAny_bind (wpAny_field hZ rfl (x := .bool false) rfl ?_);show wpAny _ _ (field (.ref Z) 3 >>= _) _ _ _;refine wpAny_bind (wpAny_field hZ rfl (x := .ref TI) rfl ?_);refine wpAny_bind (wpAny_seqItems hTI rfl ?_);show wpAny _ _ (Builtin.SmallTypes.ownedTupleIsFree (.ref Z) >>= _) _ _ _;refine wpAny_bind ?_;unfold Builtin.SmallTypes.ownedTupleIsFree;refine wpAny_bind (wpAny_field hZ rfl (x := .none) rfl (wpAny_pure ?_));simp only [if_true];refine wpAny_bind (wpAny_rule ?_);refine wpAny_bind (wpAny_field hZ rfl (x := .ref TO) rfl ?_);refine wpAny_bind (wpAny_setField_rec hZ (by simp) fun g1 z1 s1=>?_);replace z1:IsZip g1 Z TI TO .ellipsis:=z1;refine wpAny_bind ?_;simp only [List.zipIdx_cons,zipIdx_nil,forIn_cons,forIn_nil];refine wpAny_bind (wpAny_bind (wpAny_onRaise ?_));show wpAny _ _ (Builtin.SmallTypes.nextOf (.ref j1) >>= _) _ _ _;refine wpAny_bind (zJx (h1.extBut s1.extBut D.i1z) (e1.extBut s1.extBut D.l1z) hu fun g2 y2 s2=>wpAny_pure ?_);have o2:IsPair g2 TO p q:=s2.extBut _ _ D.TOi1 (s1.extBut _ _ D.TOz hTO);refine wpAny_bind (wpAny_seqItems o2 rfl ?_);refine wpAny_bind (wpAny_updateSeq_pair o2 fun g3 o3 s3=>?_);replace o3:IsPair g3 TO u q:=o3;refine wpAny_bind (wpAny_letGo (wpAny_pure ?_));refine wpAny_bind (wpAny_bind (wpAny_onRaise ?_));show wpAny _ _ (Builtin.SmallTypes.nextOf (.ref j2) >>= _) _ _ _;refine wpAny_bind (wpAny_nextOf_list_item (((h2.extBut s1.extBut D.i2z).extBut s2.extBut D.i12.symm).extBut s3.extBut D.TOi2.symm) (((e2.extBut s1.extBut D.l2z).extBut s2.extBut D.l2i1).extBut s3.extBut D.l2TO) hv fun g4 y4 s4=>wpAny_pure ?_);have o4:IsPair g4 TO u q:=s4.extBut _ _ D.TOi2 o3;refine wpAny_bind (wpAny_seqItems o4 rfl ?_);refine wpAny_bind (wpAny_updateSeq_pair o4 fun g5 o5 s5=>?_);replace o5:IsPair g5 TO u v:=o5;refine wpAny_bind (wpAny_letGo (wpAny_pure (wpAny_pure ?_)));refine wpAny_bind (wpAny_seqItems o5 rfl ?_);refine wpAny_bind (wpAny_newTuple ?_)
 have sz:g5.objs.size=s.heap.objs.size:=by rw [s5.1,s4.1,s3.1,s2.1,s1.1]
 have z5:IsZip g5 Z TI TO .ellipsis:=s5.extBut _ _ D.TOz.symm (s4.extBut _ _ D.i2z.symm (s3.extBut _ _ D.TOz.symm (s2.extBut _ _ D.i1z.symm z1)));have k5:∀ c o,c≠Z→c≠TO→c≠j1→c≠j2→s.heap.get? c=some o→g5.get? c=some o:=fun c o c1 c2 c3 c4 e=>s5.extBut _ _ c2 (s4.extBut _ _ c4 (s3.extBut _ _ c2 (s2.extBut _ _ c3 (s1.extBut _ _ c1 e))));have y5:g5.IsTupleIter j1 a1 (n+1):=((y2.extBut s3.extBut D.TOi1.symm).extBut s4.extBut D.i12).extBut s5.extBut D.TOi1.symm;have x5:g5.IsListIter j2 a2 (m+1):=y4.extBut s5.extBut D.TOi2.symm;have lZ:Z<g5.objs.size:=Heap.lt_size z5;show wpAny _ _ (Builtin.SmallTypes.ownedTupleHandOut (.ref Z) (.ref g5.objs.size) >>= _) _ _ _;refine wpAny_bind ?_;unfold Builtin.SmallTypes.ownedTupleHandOut;have z6:IsZip (g5.push { cls := .type "tuple",data := .seq #[u,v] }) Z TI TO .ellipsis:=Heap.get?_push_of_some _ z5;refine wpAny_bind (wpAny_setField_rec z6 (by simp) fun g7 z7 s7=>?_);replace z7:IsZip g7 Z TI TO (rawInt g5.objs.size):=z7;refine wpAny_setField_rec z7 (by simp) fun g8 z8 s8=>?_;replace z8:IsZip g8 Z TI TO (rawInt g5.objs.size):=z8;have up:∀ c o,c≠Z→g5.get? c=some o→g8.get? c=some o:=fun c o c1 e=>s8.extBut _ _ c1 (s7.extBut _ _ c1 (Heap.get?_push_of_some _ e));have t8:IsPair g8 g5.objs.size u v:=s8.extBut _ _ (ne_of_gt lZ) (s7.extBut _ _ (ne_of_gt lZ) (Heap.get?_push_size _ rfl));rw [sz] at z8 t8;refine wpAny_pure ⟨_,rfl,?_⟩;show Q (.ref g5.objs.size) _;rw [sz];exact hQ g8 z8 (up _ _ D.TOz o5) (y5.at fun o e=>up _ o D.i1z e) (x5.at fun o e=>up _ o D.i2z e) t8 fun c o c1 c2 c3 c4 e=>up c o c1 (k5 c o c1 c2 c3 c4 e)
theorem zJy {Z TI TO j1 j2 a1 a2:Addr}{n m:Nat}{us ws:Array Value}{p q:Value}{Q:Fin→Shared→Prop}(hh:A.handled=none) (D:ZipApart Z TI TO j1 j2 a1 a2) (hZ:IsZip s.heap Z TI TO .none) (hTI:IsPair s.heap TI (.ref j1) (.ref j2)) (hTO:IsPair s.heap TO p q)
  (h1:s.heap.IsTupleIter j1 a1 n) (h2:s.heap.IsListIter j2 a2 m) (e1:s.heap.IsTuple a1 us) (e2:s.heap.IsList a2 ws) (no:us[n]? = none∨ws[m]? = none)
  (hE:∀ g e,(∀ c o,c≠Z→c≠TO→c≠j1→c≠j2→s.heap.get? c=some o→g.get? c=some o)→(∃ o,g.get? e=some o∧o.cls = .type "StopIteration")→E (.ref e) { s with heap:=g }) :
  wpAny (model prog w) A (Builtin.«zip.__next__» ⟨[.ref Z],[]⟩) Q E s:=by
 show wpAny _ _ (field (.ref Z) 2 >>= _) _ _ _;refine wpAny_bind (wpAny_field hZ rfl (x := .bool false) rfl ?_);show wpAny _ _ (field (.ref Z) 3 >>= _) _ _ _;refine wpAny_bind (wpAny_field hZ rfl (x := .ref TI) rfl ?_);refine wpAny_bind (wpAny_seqItems hTI rfl ?_);show wpAny _ _ (Builtin.SmallTypes.ownedTupleIsFree (.ref Z) >>= _) _ _ _;refine wpAny_bind ?_;unfold Builtin.SmallTypes.ownedTupleIsFree;refine wpAny_bind (wpAny_field hZ rfl (x := .none) rfl (wpAny_pure ?_));simp only [if_true];refine wpAny_bind (wpAny_rule ?_);refine wpAny_bind (wpAny_field hZ rfl (x := .ref TO) rfl ?_);refine wpAny_bind (wpAny_setField_rec hZ (by simp) fun g1 z1 s1=>?_);replace z1:IsZip g1 Z TI TO .ellipsis:=z1;refine wpAny_bind ?_;simp only [List.zipIdx_cons,zipIdx_nil,forIn_cons,forIn_nil];refine wpAny_bind (wpAny_bind (wpAny_onRaise ?_));show wpAny _ _ (Builtin.SmallTypes.nextOf (.ref j1) >>= _) _ _ _
 cases hu:us[n]? with
 | none =>
  refine wpAny_bind (zNN hh (h1.extBut s1.extBut D.i1z) (e1.extBut s1.extBut D.l1z) hu fun g2 e s2 he=>?_);obtain⟨oe,he1,he2⟩:=he;have z2:IsZip g2 Z TI TO .ellipsis:=s2 _ _ D.i1z.symm z1
  have nez:e≠Z:=fun x=>by subst x;rw [z2] at he1;cases he1;simp at he2
  exact wpAny_setField_rec z2 (by simp) fun g3 _ s3=>hE g3 e (fun c o c1 _ c3 _ x=>s3.extBut _ _ c1 (s2 _ _ c3 (s1.extBut _ _ c1 x))) ⟨oe,s3.extBut _ _ nez he1,he2⟩
 | some u =>
  have hv:ws[m]? = none:=by rcases no with x | x;rw [hu] at x;cases x;exact x
  refine wpAny_bind (zJx (h1.extBut s1.extBut D.i1z) (e1.extBut s1.extBut D.l1z) hu fun g2 y2 s2=>wpAny_pure ?_);have o2:IsPair g2 TO p q:=s2.extBut _ _ D.TOi1 (s1.extBut _ _ D.TOz hTO);refine wpAny_bind (wpAny_seqItems o2 rfl ?_);refine wpAny_bind (wpAny_updateSeq_pair o2 fun g3 o3 s3=>?_);refine wpAny_bind (wpAny_letGo (wpAny_pure ?_));refine wpAny_bind (wpAny_bind (wpAny_onRaise ?_));show wpAny _ _ (Builtin.SmallTypes.nextOf (.ref j2) >>= _) _ _ _;refine wpAny_bind (wpAny_nextOf_list_end hh (((h2.extBut s1.extBut D.i2z).extBut s2.extBut D.i12.symm).extBut s3.extBut D.TOi2.symm) (((e2.extBut s1.extBut D.l2z).extBut s2.extBut D.l2i1).extBut s3.extBut D.l2TO) hv fun g4 e s4 he=>?_);obtain⟨oe,he1,he2⟩:=he;have z4:IsZip g4 Z TI TO .ellipsis:=s4 _ _ D.i2z.symm (s3.extBut _ _ D.TOz.symm (s2.extBut _ _ D.i1z.symm z1))
  have nez:e≠Z:=fun x=>by subst x;rw [z4] at he1;cases he1;simp at he2
  exact wpAny_setField_rec z4 (by simp) fun g5 _ s5=>hE g5 e (fun c o c1 c2 c3 c4 x=>s5.extBut _ _ c1 (s4 _ _ c4 (s3.extBut _ _ c2 (s2.extBut _ _ c3 (s1.extBut _ _ c1 x))))) ⟨oe,s5.extBut _ _ nez he1,he2⟩
theorem zGn (a1 a2:Addr) (us ws:Array Value):Meets (Builtin.«zip.__new__» ⟨[.type "zip",.ref a1,.ref a2],[]⟩) (fun _ R s=>s.heap.IsTuple a1 us∧s.heap.IsList a2 ws ∧
  R (.ok (.ret (.ref (s.heap.objs.size+4)))) { s with heap:=((((s.heap.push { cls := .type "tuple_iterator",data := .fields #[.ref a1,.int 0 0] }).push { cls := .type "list_iterator",data := .fields #[.ref a2,.int 0 0] }).push { cls := .type "tuple",data := .seq #[.ref s.heap.objs.size,.ref (s.heap.objs.size+1)] }).push
   { cls := .type "tuple",data := .seq #[.none,.none] }).push { cls := .type "zip",data := .fields #[.none,.bool false,.bool false,.ref (s.heap.objs.size+2),.ref (s.heap.objs.size+3)] } }) :=
 .of_wp fun prog w A R s h=>by
  obtain⟨hp,g,d,tk,os⟩:=s;obtain⟨b1,b2,h⟩:=h;have hsub:=sub_zip;have c1:Heap.IsTuple (Shared.heap ⟨hp,g,d,tk,os⟩) a1 us:=b1;have c2:Heap.IsList (Shared.heap ⟨hp.push { cls := .type "tuple_iterator",data := .fields #[.ref a1,.int 0 0] },g,d,tk,os⟩) a2 ws:=Heap.IsList.push b2 _
  wp_walk using wpAny_pyIter_tuple c1,wpAny_pyIter_list c2
  refine⟨_,rfl,?_⟩;simp only [Heap.size_push] at h ⊢;exact h
theorem zId {a1 a2:Addr}{us ws:Array Value}{Q:Value→Shared→Prop}(b1:s.heap.IsTuple a1 us) (b2:s.heap.IsList a2 ws)
  (h:∀ g,IsZip g (s.heap.objs.size+4) (s.heap.objs.size+2) (s.heap.objs.size+3) .none→IsPair g (s.heap.objs.size+2) (.ref s.heap.objs.size) (.ref (s.heap.objs.size+1))→IsPair g (s.heap.objs.size+3) .none .none→g.IsTupleIter s.heap.objs.size a1 0→g.IsListIter (s.heap.objs.size+1) a2 0 →
   (∀ c o,s.heap.get? c=some o→g.get? c=some o)→Q (.ref (s.heap.objs.size+4)) { s with heap:=g }):wpAny (model prog w) A (call (.type "zip") [.ref a1,.ref a2]) Q E s:=by
 refine callType_new F.called_zip (by decide) (F.typeCall_zip_2 _ _) (F.newCall_zip_2 _ _) (fun ob=>F.args_object_init_3 ob _ _) F.entry_zip_new (zGn a1 a2 us ws) ⟨b1,b2,?_⟩;generalize e1:s.heap.push { cls := .type "tuple_iterator",data := .fields #[.ref a1,.int 0 0] }=g1;generalize e2:g1.push { cls := .type "list_iterator",data := .fields #[.ref a2,.int 0 0] }=g2;generalize e3:g2.push { cls := .type "tuple",data := .seq #[.ref s.heap.objs.size,.ref (s.heap.objs.size+1)] }=g3;generalize e4:g3.push { cls := .type "tuple",data := .seq #[.none,.none] }=g4;generalize e5:g4.push { cls := .type "zip",data := .fields #[.none,.bool false,.bool false,.ref (s.heap.objs.size+2),.ref (s.heap.objs.size+3)] }=g5
 have z1:g1.objs.size=s.heap.objs.size+1:=by rw [← e1,Heap.size_push]
 have z2:g2.objs.size=s.heap.objs.size+2:=by rw [← e2,Heap.size_push,z1]
 have z3:g3.objs.size=s.heap.objs.size+3:=by rw [← e3,Heap.size_push,z2]
 have z4:g4.objs.size=s.heap.objs.size+4:=by rw [← e4,Heap.size_push,z3]
 have u5:∀ c o,g4.get? c=some o→g5.get? c=some o:=fun c o x=>by rw [← e5];exact Heap.get?_push_of_some _ x
 have u4:∀ c o,g3.get? c=some o→g5.get? c=some o:=fun c o x=>u5 c o (by rw [← e4];exact Heap.get?_push_of_some _ x);have u3:∀ c o,g2.get? c=some o→g5.get? c=some o:=fun c o x=>u4 c o (by rw [← e3];exact Heap.get?_push_of_some _ x);have u2:∀ c o,g1.get? c=some o→g5.get? c=some o:=fun c o x=>u3 c o (by rw [← e2];exact Heap.get?_push_of_some _ x)
 have p5:IsZip g5 (s.heap.objs.size+4) (s.heap.objs.size+2) (s.heap.objs.size+3) .none:=by rw [← e5,← z4];exact Heap.get?_push_size _ rfl
 have p3:IsPair g5 (s.heap.objs.size+2) (.ref s.heap.objs.size) (.ref (s.heap.objs.size+1)):=u4 _ _ (by rw [← e3,← z2];exact Heap.get?_push_size _ rfl);have p4:IsPair g5 (s.heap.objs.size+3) .none .none:=u5 _ _ (by rw [← e4,← z3];exact Heap.get?_push_size _ rfl);show _∧_;exact⟨⟨_,p5,rfl⟩,h g5 p5 p3 p4 ⟨_,u2 _ _ (by rw [← e1];exact Heap.get?_push_size _ rfl),rfl,rfl⟩ ⟨_,u3 _ _ (by rw [← e2,← z1];exact Heap.get?_push_size _ rfl),rfl,rfl⟩ fun c o x=>u2 c o (by rw [← e1];exact Heap.get?_push_of_some _ x)⟩
end
def zOq (K:W.Frag) (a b:Addr):It :=
 ⟨fun i H=>∃ (xs ys:List V) (x y:V),SqT K H a xs∧SqL K H b ys∧xs[i]? = some x∧ys[i]? = some y,
  fun i H v H'=>∃ T x y,v = .ref T∧H T=none∧H'=upd H T (.tup [x,y])∧(∀ xs,SqT K H a xs→xs[i]? = some x)∧∀ ys,SqL K H b ys→ys[i]? = some y,
  fun i H=>∃ xs ys:List V,SqT K H a xs∧SqL K H b ys∧(xs.length≤i∨ys.length≤i)⟩
theorem zIe {P:Program}{w:World}{K:W.Frag}{elts:List Expr}{kk:Nat}{tpos:Pos}{a b z TI TO i1 i2:Addr}(D:ZipApart z TI TO i1 i2 a b) :
  zL9 P w K (.Tuple elts kk tpos) (zOq K a b) [z,TI,TO,i1,i2] z (fun i h=>IsZip h z TI TO .none∧IsPair h TI (.ref i1) (.ref i2)∧(∃ x y,IsPair h TO x y)∧h.IsTupleIter i1 a i∧h.IsListIter i2 b i):=by
 have five:∀ c,c∈[z,TI,TO,i1,i2]→c=z∨c=TI∨c=TO∨c=i1∨c=i2:=fun c hc=>by simpa using hc
 refine⟨by simp,fun i h st c hc=>?_,fun i h h' st k=>?_,?_,?_,fun A i s Q E st h=>wpAny_pyIter_zip st.1 h⟩
 ·obtain⟨hz,hTI,⟨x,y,hTO⟩,⟨o1,e1,_,d1⟩,⟨o2,e2,_,d2⟩⟩:=st
  rcases five c hc with q | q | q | q | q<;>rw [q]
  ·exact⟨_,hz,fun v q=>nomatch q⟩
  ·exact⟨_,hTI,fun v q=>nomatch q⟩
  ·exact⟨_,hTO,fun v q=>nomatch q⟩
  ·exact⟨o1,e1,fun v q=>by rw [d1] at q;cases q⟩
  ·exact⟨o2,e2,fun v q=>by rw [d2] at q;cases q⟩
 ·obtain⟨hz,hTI,⟨x,y,hTO⟩,h1,h2⟩:=st;exact⟨k z (by simp) _ hz,k TI (by simp) _ hTI,⟨x,y,k TO (by simp) _ hTO⟩,h1.at fun o q=>k i1 (by simp) o q,h2.at fun o q=>k i2 (by simp) o q⟩
 ·intro X hP hw hK hc i pins s σ H E I hf st hg;subst hP hw hK;obtain⟨hz,hTI,⟨x0,y0,hTO⟩,h1,h2⟩:=st;obtain⟨xs,ys,x,y,hqx,hqy,hx,hy⟩:=hg;obtain⟨its,rv,p1,_⟩:=I.tuple hqx;obtain⟨its2,rv2,p2,_⟩:=I.list hqy;obtain⟨u,hu,ru⟩:=rv.get hx;obtain⟨u2,hu2,ru2⟩:=rv2.get hy;have lz:z<s.heap.objs.size:=Heap.lt_size hz;have tz:s.TypeIs (.ref z) "zip":=⟨_,hz,rfl⟩;unfold pyNext
  refine wpAny_bind (wpAny_attempt (wpAny_callSpecial?_slot (name:=Str.ofString "__next__") tz F.slot_zip_next (wpAny_call_entry F.slot_zip_next tz F.entry_zip_next
   (zIc D hz hTI hTO h1 h2 (show s.heap.IsTuple a its.toArray from p1) p2.isList (u:=u) (v:=u2) (by simpa using hu) (by simpa using hu2) fun g z' o' y1 y2 hT hk=>wpAny_pure ?_) (F.args_zip_next_1 _))))
  refine⟨_,rfl,wpAny_letOwnedTupleGo_zip (s:={ s with heap:=g }) z' fun g' z'' sb=>?_⟩;have hT2:g'.get? s.heap.objs.size=some { cls := .type "tuple",data := .seq #[u,u2] }:=(sb.2 _ (ne_of_gt lz)).trans hT;have new:kT X.prog X.w (upd H s.heap.objs.size (.tup [x,y])) g' s.heap.objs.size (.tup [x,y]):=⟨by show 2≤sizeLine;decide,[u,u2],.cons ru (.cons ru2 .nil),⟨_,hT2,rfl,_,rfl⟩⟩
  have I1:Inv X pins σ (upd H s.heap.objs.size (.tup [x,y])) { s with heap:=g' }:=I.turnedNew (t':=s.toks) (ch:=[z,TI,TO,i1,i2]) (fun c o hb q=>by
   have m:c≠z∧c≠TO∧c≠i1∧c≠i2:=⟨fun e=>hb (by simp [e]),fun e=>hb (by simp [e]),fun e=>hb (by simp [e]),fun e=>hb (by simp [e])⟩;exact(sb.2 c m.1).trans (hk c o m.1 m.2.1 m.2.2.1 m.2.2.2 q)) hf (le_refl _) new
  refine⟨.ref s.heap.objs.size,_,I1,rfl,⟨_,x,y,rfl,I.hok.fresh (le_refl _),rfl,fun l hl=>by rw [I.tuple_inj hl hqx];exact hx,fun l hl=>by rw [I.list_inj hl hqy];exact hy⟩,⟨z'',(sb.2 _ D.TIz).trans (hk _ _ D.TIz D.TITO D.TIi1 D.TIi2 hTI),⟨u,u2,(sb.2 _ D.TOz).trans o'⟩,y1.at fun o q=>(sb.2 _ D.i1z).trans q,y2.at fun o q=>(sb.2 _ D.i2z).trans q⟩,fun c hcm=>?_⟩
  have hlt:c<s.heap.objs.size:=by
   rcases five c hcm with q | q | q | q | q<;>rw [q]
   ·exact lz
   ·exact Heap.lt_size hTI
   ·exact Heap.lt_size hTO
   ·obtain⟨_,e1,_⟩:=h1;exact Heap.lt_size e1
   ·obtain⟨_,e2,_⟩:=h2;exact Heap.lt_size e2
  rw [zD (ne_of_lt hlt)];exact(hf c hcm).1
 ·intro X hP hw hK hc i pins s σ H E I hf st hg;subst hP hw hK;obtain⟨hz,hTI,⟨x0,y0,hTO⟩,h1,h2⟩:=st;obtain⟨xs,ys,hqx,hqy,hend⟩:=hg;obtain⟨its,rv,p1,_⟩:=I.tuple hqx;obtain⟨its2,rv2,p2,_⟩:=I.list hqy;have l1:=rv.length;have l2:=rv2.length
  have he:its.toArray[i]? = none∨its2.toArray[i]? = none:=by
   rcases hend with q | q
   ·exact .inl (by simp;omega)
   ·exact .inr (by simp;omega)
  have tz:s.TypeIs (.ref z) "zip":=⟨_,hz,rfl⟩;unfold pyNext
  refine wpAny_bind (wpAny_attempt (wpAny_callSpecial?_slot (name:=Str.ofString "__next__") tz F.slot_zip_next (wpAny_call_entry F.slot_zip_next tz F.entry_zip_next
   (zJy (I.ok.hd hc) D hz hTI hTO h1 h2 (show s.heap.IsTuple a its.toArray from p1) p2.isList he fun g e hk he'=>?_) (F.args_zip_next_1 _))))
  obtain⟨o,ho,hco⟩:=he';refine wpAny_bind (wpAny_isInstance (T:="StopIteration") (b:=true) ⟨o,ho,hco⟩ isSubtype_stop ?_);exact wpAny_pure ⟨rfl,I.turnedL (t':=s.toks) (ch:=[z,TI,TO,i1,i2]) (fun c o hb q=>hk c o (fun e=>hb (by simp [e])) (fun e=>hb (by simp [e])) (fun e=>hb (by simp [e])) (fun e=>hb (by simp [e])) q) hf⟩
def zOr (K:W.Frag) (ta:TA):TI:=fun σ H R=>ta σ H fun vs H1=>∃ a b xs ys,vs=[.ref a,.ref b]∧SqT K H1 a xs∧SqL K H1 b ys∧R (zOq K a b) H1
theorem zLW {X:Cx}{e e2:Expr}{ta:TA}{p pos tpos:Pos}{elts:List Expr}{kk:Nat}(hg:Gl X "zip") (hm:X.mg "zip"=none) (ha:PA X [e,e2] ta)
  (hs:starEach [e,e2] X.env=(false,eval e X.env)::starEach [e2] X.env:=by rfl) (hpl:(backTo pos (starEach [e2] X.env)).any (·.1)=false:=by rfl):PI X (.Tuple elts kk tpos) (.Call (.Name "zip" p) [e,e2] [] pos) (zOr X.K ta):=by
 intro pins s σ H R I h;refine Call_ (zDo I hg hm zFf (PyProof.Rows.callWith_type1 (thn (ha pos pins s σ H _ I h) fun us s1 ⟨vs,H1,I1,r1,a,b,xs,ys,ex,hqx,hqy,q⟩=>?_) hs hpl));subst ex;obtain⟨v1,v2,rfl,r,r'⟩:=zt.two r1
 cases r
 cases r'
 obtain⟨its,rv,⟨oT,eT,cT⟩,_⟩:=I1.tuple hqx;obtain⟨its2,rv2,p2,_⟩:=I1.list hqy;refine zId (show s1.heap.IsTuple a its.toArray from⟨oT,eT,cT⟩) p2.isList fun g hz hTI hTO h1 h2 hk=>wpAny_pyIter_zip hz ?_;have I2:Inv X pins σ H1 { s1 with heap:=g }:=I1.kept (t':=s1.toks) hk;refine⟨s1.heap.objs.size+4,[s1.heap.objs.size+4,s1.heap.objs.size+2,s1.heap.objs.size+3,s1.heap.objs.size,s1.heap.objs.size+1],_,_,H1,rfl,I2,zIe (W.ktu_apart s1.heap.objs.size a b (Heap.lt_size eT) p2.lt),⟨hz,hTI,⟨_,_,hTO⟩,h1,h2⟩,fun c hcm=>?_,q⟩
 have hle:s1.heap.objs.size≤c:=by
  have e':c=s1.heap.objs.size+4∨c=s1.heap.objs.size+2∨c=s1.heap.objs.size+3∨c=s1.heap.objs.size∨c=s1.heap.objs.size+1:=by simpa using hcm
  rcases e' with q | q | q | q | q<;>rw [q]<;>first | exact le_refl _ | exact le_add_right _ _
 exact I1.fpOk hle (I1.hok.fresh hle)
theorem zJz {K:W.Frag}{a b:Addr}{xs ys:List V}{g:TG}{tb:TS}{D:zL6}{σ:St}{H:Hp}(Pv:Nat→St→Hp→Prop) (h0:Pv 0 σ H) (hl:∀ i σ H,Pv i σ H→SqT K H a xs∧SqL K H b ys)
  (hs:∀ i x y σ H T,xs[i]? = some x→ys[i]? = some y→Pv i σ H→H T=none→g (.ref T) σ (upd H T (.tup [x,y])) fun σ2 H2=>tb { D with nx:=Pv (i+1),ct:=Pv (i+1),bk:=D.nx } σ2 H2) (hd:∀ σ H,Pv (min xs.length ys.length) σ H→D.nx σ H) :
  ∃ W:Nat→Nat→St→Hp→Prop,(∃ m,W 0 m σ H)∧∀ i m σ H,W i m σ H →
   ((zOq K a b).stop i H∧D.nx σ H)∨((zOq K a b).go i H∧∃ N:St→Hp→Prop,(∀ σ' H',N σ' H'→∃ m',m'<m∧W (i+1) m' σ' H')∧∀ x H',(zOq K a b).yld i H x H'→g x σ H' fun σ2 H2=>tb { D with nx:=N,ct:=N,bk:=D.nx } σ2 H2):=by
 refine⟨fun i m σ H=>m=min xs.length ys.length-i∧i≤min xs.length ys.length∧Pv i σ H,⟨min xs.length ys.length,rfl,zero_le _,h0⟩,?_⟩;rintro i m σ H ⟨rfl,hi,p⟩;obtain⟨q1,q2⟩:=hl i σ H p;by_cases hlt:i<min xs.length ys.length
 ·have l1:i<xs.length:=by omega
  have l2:i<ys.length:=by omega
  refine .inr ⟨⟨xs,ys,xs[i],ys[i],q1,q2,getElem?_eq_getElem l1,getElem?_eq_getElem l2⟩,Pv (i+1),fun σ' H' p'=>⟨min xs.length ys.length-(i+1),by omega,rfl,hlt,p'⟩,?_⟩;rintro x H' ⟨T,y1,y2,rfl,hT,rfl,e1,e2⟩;exact hs i y1 y2 σ H T (e1 xs q1) (e2 ys q2) p hT
 ·have e:i=min xs.length ys.length:=by omega
  subst e;exact .inl ⟨⟨xs,ys,q1,q2,by omega⟩,hd σ H p⟩
end L2
namespace Mb
open PySem PySem.Spec PyProof.Rows L2
def Kp (S:List Addr) (H H':Hp):Prop:=∀ b o,H b=some o→b∉S→H' b=some o
def jd (H H':Hp):Prop:=∀ a xs,H a=some (.tup xs)→H' a=some (.tup xs)
theorem Kp.refl {S:List Addr}{H:Hp}:Kp S H H:=fun _ _ h _=>h
theorem Kp.trans {S:List Addr}{H H1 H2:Hp}(a:Kp S H H1) (b:Kp S H1 H2):Kp S H H2:=fun c o h n=>b c o (a c o h n) n
theorem Kp.mono {S R:List Addr}{H H':Hp}(a:Kp S H H') (h:∀ x∈S,x∈R):Kp R H H':=fun c o e n=>a c o e fun q=>n (h c q)
theorem Kp.upd {S:List Addr}{H H':Hp}{a:Addr}{o:HO}(k:Kp S H H') (h:a∈S∨H a=none):Kp S H (upd H' a o):=fun b u e n=>by
 rw [zD]
 ·exact k b u e n
 ·intro q;subst q
  rcases h with h | h
  ·exact n h
  ·rw [h] at e;cases e
theorem Kp.tups {S:List Addr}{H H':Hp}(k:Kp S H H') (h:∀ a∈S,∀ xs,H a≠some (.tup xs)):jd H H':=fun a xs e=>k a _ e fun q=>h a q xs e
theorem jd.trans {H H1 H2:Hp}(a:jd H H1) (b:jd H1 H2):jd H H2:=fun c xs h=>b c xs (a c xs h)
theorem jd.upd {H:Hp}{a:Addr}{o:HO}(h:∀ xs,H a≠some (.tup xs)):jd H (upd H a o):=fun b xs e=>by
 rw [zD]
 ·exact e
 ·intro q;subst q;exact h xs e
theorem jd.new {H:Hp}{a:Addr}{o:HO}(h:H a=none):jd H (L2.upd H a o):=jd.upd fun xs e=>by rw [h] at e;cases e
def zA8 (H:Hp) (v:V) (x y:Int):Prop:=∃ p,v = .ref p∧H p=some (.tup [.int x,.int y])
def IsQ (H:Hp) (v:V) (q:Vbdeai.Q):Prop:=zA8 H v q.num (q.den:Int)
def zMH (H:Hp) (v:V) (t:Int) (q:Vbdeai.Q):Prop:=∃ p u,v = .ref p∧H p=some (.tup [.int t,u])∧IsQ H u q
theorem zA8.keep {H H':Hp}{v:V}{x y:Int}(h:zA8 H v x y) (t:jd H H'):zA8 H' v x y:=by
 obtain⟨p,e,h⟩:=h;exact⟨p,e,t p _ h⟩
theorem IsQ.keep {H H':Hp}{v:V}{q:Vbdeai.Q}(h:IsQ H v q) (t:jd H H'):IsQ H' v q:=zA8.keep h t
theorem zMH.keep {H H':Hp}{v:V}{x:Int}{q:Vbdeai.Q}(h:zMH H v x q) (t:jd H H'):zMH H' v x q:=by
 obtain⟨p,u,e,h,r⟩:=h;exact⟨p,u,e,t p _ h,r.keep t⟩
theorem jK {α β:Type}{F:α→β→Prop}{l:List α}{m:List β}(h:Paired F l m):l.length=m.length:=Paired.length h
theorem vG {α β:Type}{F:α→β→Prop}{l:List α}{m:List β}(h:Paired F l m){i:Nat}{a:α}(e:l[i]? = some a):∃ b,m[i]? = some b∧F a b:=zIY h e
theorem zAX {α β:Type}{F:α→β→Prop}{l l':List α}{m m':List β}(h:Paired F l m) (h':Paired F l' m'):Paired F (l++l') (m++m'):=by
 induction h with
 | nil=>exact h'
 | cons r t ih=>exact .cons r ih
theorem zJ0 {α β:Type}{F:α→β→Prop}{l:List α}{m:List β}{f:α→Bool}{g:β→Bool}(h:Paired F l m) (e:∀ a b,F a b→f a=g b):Paired F (l.filter f) (m.filter g):=by
 induction h with
 | nil=>exact .nil
 | @cons a b l m r t ih =>
  rw [filter_cons,filter_cons,e a b r];split
  ·exact .cons r ih
  ·exact ih
theorem zNO {α β:Type}{F:α→β→Prop}{l:List α}{m:List β}(h:Paired F l m):∀ {b:β}{r:List β},m=r++[b]→∃ a s,l=s++[a]∧F a b:=by
 induction h with
 | nil=>intro b r e;cases r<;>cases e
 | @cons a b l m q t ih =>
  intro c r e
  cases r with
  | nil =>
   cases e
   cases t
   exact⟨a,[],rfl,q⟩
  | cons x r =>
   injection e with e1 e2
   obtain⟨a',s,e3,q'⟩:=ih e2;exact⟨a',a::s,by rw [e3];rfl,q'⟩
def mf (g l:Addr) (lo co be en ea la ul:Int):List (Str×V) :=
 [("guests",.ref g),("loose",.int lo),("content",.int co),("moments",.ref l),("begun",.int be),("ended",.int en),("ended_at_once",.int ea),("lasted",.int la),("units_lasted",.int ul)]
def tl (T0:Nat) (v:Meter):List (Nat×Nat):=(T0,v.base)::contents v.base v.evs.reverse
def zEd (g l:Addr) (v:Meter):List (Str×V) :=
 mf g l v.loose (content v) (begun v) (ended v).length (zeros v) (stays v) (unitStays v)
def zGo (H:Hp) (kvs:List (Key×V)) (ins:List Stay):Prop:=Paired (fun(kv:Key×V) (s:Stay)=>kv.1=Sum.inl (s.id:Int)∧zA8 H kv.2 s.units s.since) kvs ins
def zLX (H:Hp) (xs:List V) (l:List (Nat×Nat)):Prop:=Paired (fun(x:V) (p:Nat×Nat)=>zA8 H x p.1 p.2) xs l
structure kJ (CM:Addr) (H:Hp) (a g l:Addr) (T0:Nat) (v:Meter):Prop where
 ins:∃ dx,H a=some (.ins CM dx (zEd g l v))
 gst:∃ kvs,H g=some (.dK kvs)∧zGo H kvs v.ins
 mom:∃ xs,H l=some (.lst xs)∧zLX H xs (tl T0 v)
theorem zGo.keep {H H':Hp}{kvs:List (Key×V)}{ins:List Stay}(h:zGo H kvs ins) (t:jd H H'):zGo H' kvs ins:=Paired.mapP h fun _ _ q=>⟨q.1,q.2.keep t⟩
theorem zLX.keep {H H':Hp}{xs:List V}{l:List (Nat×Nat)}(h:zLX H xs l) (t:jd H H'):zLX H' xs l:=Paired.mapP h fun _ _ q=>q.keep t
theorem kJ.keep {CM:Addr}{H H':Hp}{a g l:Addr}{T0:Nat}{v:Meter}(h:kJ CM H a g l T0 v) (k:∀ b o,b=a∨b=g∨b=l→H b=some o→H' b=some o) (t:jd H H'):kJ CM H' a g l T0 v:=by
 obtain⟨⟨dx,h1⟩,⟨kvs,h2,h3⟩,⟨xs,h4,h5⟩⟩:=h;exact⟨⟨dx,k _ _ (.inl rfl) h1⟩,⟨kvs,k _ _ (.inr (.inl rfl)) h2,h3.keep t⟩,⟨xs,k _ _ (.inr (.inr rfl)) h4,h5.keep t⟩⟩
def tf (n:Int) (lo wi:V) (l:Addr):List (Str×V):=[("class_count",.int n),("first_bound",lo),("width",wi),("tallies",.ref l)]
def zQd (H:Hp) (xs:List V) (seen:List (Nat×Vbdeai.Q)):Prop:=Paired (fun(x:V) (s:Nat×Vbdeai.Q)=>zMH H x s.1 s.2) xs seen.reverse
structure kK (CT:Addr) (H:Hp) (a l:Addr) (v:Table):Prop where
 ins:∃ dx lo wi,H a=some (.ins CT dx (tf v.classes lo wi l))∧IsQ H lo v.low∧IsQ H wi v.width
 tal:∃ xs,H l=some (.lst xs)∧zQd H xs v.seen
theorem kK.keep {CT:Addr}{H H':Hp}{a l:Addr}{v:Table}(h:kK CT H a l v) (k:∀ b o,b=a∨b=l→H b=some o→H' b=some o) (t:jd H H'):kK CT H' a l v:=by
 obtain⟨⟨dx,lo,wi,h1,h2,h3⟩,⟨xs,h4,h5⟩⟩:=h;exact⟨⟨dx,lo,wi,k _ _ (.inl rfl) h1,h2.keep t,h3.keep t⟩,⟨xs,k _ _ (.inr rfl) h4,Paired.mapP h5 fun _ _ q=>q.keep t⟩⟩
def wT (T0:Nat) (v:Vbdeai.Value):List (Nat×Vbdeai.Q):=(T0,v.base)::v.sets.reverse
def xY (H:Hp) (l:Addr) (T0:Nat) (v:Vbdeai.Value):Prop:=∃ xs,H l=some (.lst xs)∧Paired (fun(x:V) (s:Nat×Vbdeai.Q)=>zMH H x s.1 s.2) xs (wT T0 v)
theorem xY.keep {H H':Hp}{l:Addr}{T0:Nat}{v:Vbdeai.Value}(h:xY H l T0 v) (k:∀ o,H l=some o→H' l=some o) (t:jd H H'):xY H' l T0 v:=by
 obtain⟨xs,h1,h2⟩:=h;exact⟨xs,k _ h1,Paired.mapP h2 fun _ _ q=>q.keep t⟩
def bf (c s:Int) (lm lt ll:Addr):List (Str×V):=[("clock",.int c),("reset_time",.int s),("meters",.ref lm),("tables",.ref lt),("lines",.ref ll)]
structure Lay where
 bk:Addr
 lm:Addr
 lt:Addr
 ll:Addr
 m:Nat→Addr
 g:Nat→Addr
 mo:Nat→Addr
 t:Nat→Addr
 ta:Nat→Addr
 li:Nat→Addr
inductive zDK where
 | bk | lm | lt | ll
 | m (i:Nat) | g (i:Nat) | mo (i:Nat) | t (i:Nat) | ta (i:Nat) | li (i:Nat)
def Lay.at (L:Lay):zDK→Addr
 | .bk=>L.bk | .lm=>L.lm | .lt=>L.lt | .ll=>L.ll
 | .m i=>L.m i | .g i=>L.g i | .mo i=>L.mo i | .t i=>L.t i | .ta i=>L.ta i | .li i=>L.li i
def live (b:Bank):zDK→Prop
 | .m i=>i<256 | .g i=>i<256 | .mo i=>i<256
 | .t i=>i<64∧(b.table i).classes≠0 | .ta i=>i<64∧(b.table i).classes≠0
 | .li i=>i<64
 | _=>True
structure zc (CB CM CT:Addr) (H:Hp) (L:Lay) (b:Bank):Prop where
 inj:∀ r r',live b r→live b r'→L.at r=L.at r'→r=r'
 bk:∃ dx,H L.bk=some (.ins CB dx (bf b.clock b.since L.lm L.lt L.ll))
 lm:H L.lm=some (.lst ((List.range 256).map fun i=>V.ref (L.m i)))
 lt:H L.lt=some (.lst ((List.range 64).map fun i=>if(b.table i).classes=0 then V.non else V.ref (L.t i)))
 ll:H L.ll=some (.lst ((List.range 64).map fun i=>V.ref (L.li i)))
 mt:∀ i,i<256→kJ CM H (L.m i) (L.g i) (L.mo i) b.since (b.meter i)
 tb:∀ i,i<64→(b.table i).classes≠0→kK CT H (L.t i) (L.ta i) (b.table i)
 vl:∀ i,i<64→xY H (L.li i) b.since (b.value i)
def zJ1:HO→Prop
 | .lst _=>True | .dK _=>True | .ins _ _ _=>True | _=>False
theorem zc.there {CB CM CT:Addr}{H:Hp}{L:Lay}{b:Bank}(B:zc CB CM CT H L b):∀ r,live b r→∃ o,H (L.at r)=some o∧zJ1 o
 | .bk,_=>by obtain⟨dx,h⟩:=B.bk;exact⟨_,h,trivial⟩
 | .lm,_=>⟨_,B.lm,trivial⟩
 | .lt,_=>⟨_,B.lt,trivial⟩
 | .ll,_=>⟨_,B.ll,trivial⟩
 | .m i,h=>by obtain⟨dx,h⟩:=(B.mt i h).ins;exact⟨_,h,trivial⟩
 | .g i,h=>by obtain⟨kvs,h,_⟩:=(B.mt i h).gst;exact⟨_,h,trivial⟩
 | .mo i,h=>by obtain⟨xs,h,_⟩:=(B.mt i h).mom;exact⟨_,h,trivial⟩
 | .t i,h=>by obtain⟨dx,lo,wi,h,_⟩:=(B.tb i h.1 h.2).ins;exact⟨_,h,trivial⟩
 | .ta i,h=>by obtain⟨xs,h,_⟩:=(B.tb i h.1 h.2).tal;exact⟨_,h,trivial⟩
 | .li i,h=>by obtain⟨xs,h,_⟩:=B.vl i h;exact⟨_,h,trivial⟩
def zDF (L:Lay) (b:Bank) (H H':Hp):Prop:=∀ a o,H a=some o→(∀ r,live b r→L.at r≠a)→H' a=some o
def zCY (L L':Lay) (b b':Bank) (H:Hp):Prop:=∀ r,live b' r→(live b r∧L'.at r=L.at r)∨H (L'.at r)=none
section
variable {CB CM CT:Addr}{H H':Hp}{L:Lay}{b:Bank}
theorem zc.ne (B:zc CB CM CT H L b){r r':zDK}(h:live b r) (h':live b r') (n:r≠r'):L.at r≠L.at r':=fun q=>n (B.inj r r' h h' q)
def Out (S:zDK→Prop) (L:Lay) (b:Bank) (H H':Hp):Prop:=∀ r,live b r→¬ S r→∀ o,H (L.at r)=some o→H' (L.at r)=some o
theorem zc.meter (B:zc CB CM CT H L b){S:zDK→Prop}(k:Out S L b H H') (t:jd H H'){i:Nat}(hi:i<256) (h1:¬ S (.m i)) (h2:¬ S (.g i)) (h3:¬ S (.mo i)):kJ CM H' (L.m i) (L.g i) (L.mo i) b.since (b.meter i) :=
 (B.mt i hi).keep (fun a o ha e=>by
  rcases ha with rfl | rfl | rfl
  ·exact k (.m i) hi h1 o e
  ·exact k (.g i) hi h2 o e
  ·exact k (.mo i) hi h3 o e) t
theorem zc.table (B:zc CB CM CT H L b){S:zDK→Prop}(k:Out S L b H H') (t:jd H H'){i:Nat}(hi:i<64) (hc:(b.table i).classes≠0) (h1:¬ S (.t i)) (h2:¬ S (.ta i)):kK CT H' (L.t i) (L.ta i) (b.table i) :=
 (B.tb i hi hc).keep (fun a o ha e=>by
  rcases ha with rfl | rfl
  ·exact k (.t i) ⟨hi,hc⟩ h1 o e
  ·exact k (.ta i) ⟨hi,hc⟩ h2 o e) t
theorem zc.line (B:zc CB CM CT H L b){S:zDK→Prop}(k:Out S L b H H') (t:jd H H'){i:Nat}(hi:i<64) (h1:¬ S (.li i)):xY H' (L.li i) b.since (b.value i) :=
 (B.vl i hi).keep (fun o e=>k (.li i) hi h1 o e) t
theorem zc.out (B:zc CB CM CT H L b){S:zDK→Prop}{A:List Addr}(k:Kp A H H') (h:∀ r,live b r→L.at r∈A→S r):Out S L b H H':=fun r hr n o e=>k _ o e fun q=>n (h r hr q)
theorem zc.notup (B:zc CB CM CT H L b){r:zDK}(hr:live b r) (xs:List V):H (L.at r)≠some (.tup xs):=fun e=>by
 obtain⟨o,h,p⟩:=B.there r hr;rw [e] at h
 cases h
 exact p
theorem zc.meterStep (B:zc CB CM CT H L b) (hl:b.meters.length=256){i:Nat}{v:Meter}(hi:i<256) (M:kJ CM H' (L.m i) (L.g i) (L.mo i) b.since v) (k:Kp [L.m i,L.g i,L.mo i] H H'):zc CB CM CT H' L (b.setMeter i v):=by
 have t:jd H H':=k.tups fun a ha xs=>by
  rcases List.mem_cons.mp ha with rfl | ha
  ·exact B.notup (r := .m i) hi xs
  rcases List.mem_cons.mp ha with rfl | ha
  ·exact B.notup (r := .g i) hi xs
  rcases List.mem_cons.mp ha with rfl | ha
  ·exact B.notup (r := .mo i) hi xs
  cases ha
 have o:Out (fun r=>r = .m i∨r = .g i∨r = .mo i) L b H H':=B.out k fun r hr ha=>by
  rcases List.mem_cons.mp ha with e | ha
  ·exact .inl (B.inj r (.m i) hr hi e)
  rcases List.mem_cons.mp ha with e | ha
  ·exact .inr (.inl (B.inj r (.g i) hr hi e))
  rcases List.mem_cons.mp ha with e | ha
  ·exact .inr (.inr (B.inj r (.mo i) hr hi e))
  cases ha
 have no:∀ r:zDK,(∀ j,r ≠ .m j)→(∀ j,r ≠ .g j)→(∀ j,r ≠ .mo j)→¬ (r = .m i∨r = .g i∨r = .mo i):=fun r h1 h2 h3 q=>by
  rcases q with q | q | q
  ·exact h1 _ q
  ·exact h2 _ q
  ·exact h3 _ q
 obtain⟨dx,hb⟩:=B.bk;refine⟨fun r r' h h'=>B.inj r r' (by cases r<;>exact h) (by cases r'<;>exact h'),⟨dx,o .bk trivial (no _ nofun nofun nofun) _ hb⟩,o .lm trivial (no _ nofun nofun nofun) _ B.lm,o .lt trivial (no _ nofun nofun nofun) _ B.lt,o .ll trivial (no _ nofun nofun nofun) _ B.ll,fun j hj=>?_,fun j hj hc=>?_,fun j hj=>?_⟩
 ·rw [zFM j v (by rw [hl];exact hi)];by_cases e:j=i
  ·subst e;rw [if_pos rfl];exact M
  ·rw [if_neg e]
   exact B.meter o t hj (fun q=>by rcases q with q | q | q<;>cases q;exact e rfl) (fun q=>by rcases q with q | q | q<;>cases q;exact e rfl) (fun q=>by rcases q with q | q | q<;>cases q;exact e rfl)
 ·exact B.table o t hj hc (no _ nofun nofun nofun) (no _ nofun nofun nofun)
 ·exact B.line o t hj (no _ nofun nofun nofun)
end
end Mb
local macro_rules | `(tactic| trivial) => `(tactic| first | exact ⟨rfl, rfl, rfl, by decide +kernel, rfl, by decide +kernel, by decide +kernel⟩ | fail)
namespace Mb
open PySem PySem.Spec PyProof.Rows L2
def top (i:Nat):Stmt:=PySem.Challenge.pw_meterbookdesk_s01_answers.main.body.getD i (.Pass ⟨0,0,0,0⟩)
abbrev kG:Stmt:=top 1
abbrev zB5:Stmt:=top 2
abbrev wG:Stmt:=top 3
section
variable {P:Program}{w:World}{K:W.Frag}{mg:Str→Option Value}{base:Heap}
def zNP:Sp:=fun vs H Q _=>∃ a b:Nat,vs=[.int a,.int b]∧Q (.int (Nat.gcd a b:Nat)) H
theorem yV:zL ["first","second","rest"] ["first","second"] (zE kG):=by trivial
theorem zA9 (D:zJ K mg "common_divisor" kG):Has P w K mg base "common_divisor" 1 ["first","second"] zNP:=by
 have nd:=yV.nd
 refine jo D yV (L2.bA2 fun _ _ _ _ _ _ _ _=>rfl) ?_ ?_
 ·rintro vs H Q E ⟨a,b,rfl,_⟩;rfl
 ·rintro f cdv A outer s H vs Q E hr ⟨a,b,rfl,k⟩;refine⟨_,(zC (zEO PassesOwn.never (jl zON (pv 1) zH (jc _)) (zC (zU (i:=2) nd rfl (Or.inl rfl) (jI zOM (pv 0) (pv 1))) (zC (zU (i:=0) nd rfl (Or.inl rfl) (pv 1)) (zI (zU (i:=1) nd rfl (Or.inl rfl) (pv 2)))))) (zI (zP (pv 0)))),?_⟩;refine⟨fun m σ H'=>∃ x y:Nat,∃ r,y=m∧σ=[some (.int x),some (.int y),r]∧Nat.gcd x y=Nat.gcd a b∧H'=H,⟨b,a,b,none,rfl,rfl,rfl,rfl⟩,?_⟩;rintro m σ H' ⟨x,y,r,rfl,rfl,hg,rfl⟩;refine⟨_,rfl,rfl,_,rfl,?_⟩;by_cases hy:y=0
  ·subst hy;refine zPk rfl ?_;refine⟨_,rfl,?_⟩;rw [Nat.gcd_zero_right] at hg;rw [hg];exact k
  ·have hp:(0:Int)<(y:Int):=by omega
   have e:(!decide (V.int (y:Int)=V.int 0))=true:=by
    simp only [Bool.not_eq_true',decide_eq_false_iff_not,V.int.injEq];omega
   show if(!decide (V.int (y:Int)=V.int 0))=true then _ else _;rw [if_pos e];refine⟨_,fun σ' H' q=>q,_,rfl,_,rfl,_,_,rfl,rfl,hp,?_⟩;refine⟨_,rfl,_,rfl,x % y,?_,y,x % y,some (.int ((x % y:Nat):Int)),rfl,?_,?_,rfl⟩
   ·exact Nat.mod_lt _ (by omega)
   ·rfl
   ·rw [← hg];exact zKo x y
def qT (q:Vbdeai.Q):HO := .tup [.int q.num,.int (q.den:Int)]
def vW:Sp:=fun vs H Q _=>∃ (n:Int) (d:Nat),vs=[.int n,.int (d:Int)]∧0<d∧d.log2<9000∧∀ p,H p=none→Q (.ref p) (upd H p (qT (Vbdeai.Q.of n d)))
theorem zNQ (n:Int):(if n<0 then -n else n)=(n.natAbs:Int):=by
 split<;>omega
theorem zNR {a b:Nat}(h:a≤b):a.log2≤b.log2:=by
 by_cases ha:a=0
 ·subst ha;rw [Nat.log2_zero];exact zero_le _
 ·have hb:b≠0:=by omega
  exact(Nat.le_log2 hb).mpr (le_trans (Nat.log2_self_le ha) h)
theorem zFj:zL ["num","den","divisor"] ["num","den"] (zE zB5):=by trivial
theorem zJ2 (D:zJ K mg "lowest" zB5) (vP:Has P w K mg base "common_divisor" 1 ["first","second"] zNP) (n_abs:mg "abs"=none):Has P w K mg base "lowest" 2 ["num","den"] vW:=by
 have nd:=zFj.nd
 refine jo D zFj (L2.bA2 fun _ _ _ _ _ _ _ _=>rfl) ?_ ?_
 ·rintro vs H Q E ⟨n,d,rfl,_⟩;rfl
 ·rintro f cdv A outer s H vs Q E hr ⟨n,d,rfl,hd,hl,k⟩;refine⟨_,(zC (zU (i:=2) nd rfl (Or.inl rfl) (vO vP (hr.mono (by decide)) (zB (zh zLD (by rfl) n_abs boot_abs (zB (pv 0) zG)) (zB (pv 1) zG)))) (zI (zP (kM (zB (jI yo (pv 0) (pv 2)) (zB (jI yo (pv 1) (pv 2)) zG)))))),?_⟩;have gp:0<Nat.gcd n.natAbs d:=zMd hd;have gl:(Nat.gcd n.natAbs d).log2<9000:=lt_of_le_of_lt (zNR (le_of_dvd hd (gcd_dvd_right _ _))) hl
  have gi:(0:Int)<((Nat.gcd n.natAbs d:Nat):Int):=by omega
  refine⟨_,rfl,n,rfl,_,rfl,n.natAbs,d,?_,?_⟩
  ·rw [zNQ];rfl
  refine⟨_,rfl,_,rfl,_,_,rfl,rfl,⟨gi,gl⟩,_,rfl,_,rfl,_,_,rfl,rfl,⟨gi,gl⟩,(by show 2≤sizeLine;decide),fun p hp=>?_⟩;have e:=k p hp;unfold qT at e;rw [zN0] at e;exact e
def zBA:Sp:=fun vs H Q _=>∃ (n:Int) (d:Nat),vs=[.int n,.int (d:Int)]∧d.log2<9000∧∀ p,H p=none→Q (.ref p) (upd H p (qT (if d=0 then Vbdeai.Q.zero else Vbdeai.Q.of n d)))
theorem zCZ:zL ["num","den"] ["num","den"] (zE wG):=by trivial
theorem zGp (D:zJ K mg "quotient" wG) (zr:Has P w K mg base "lowest" 2 ["num","den"] vW):Has P w K mg base "quotient" 3 ["num","den"] zBA:=by
 have nd:=zCZ.nd
 refine jo D zCZ (L2.bA2 fun _ _ _ _ _ _ _ _=>rfl) ?_ ?_
 ·rintro vs H Q E ⟨n,d,rfl,_⟩;rfl
 ·rintro f cdv A outer s H vs Q E hr ⟨n,d,rfl,hl,k⟩;refine⟨_,(zC (kj (jl zGa (pv 1) zH (jc _)) (zI (zP (kM (zB zH (zB zH zG))))) jM) (zI (zP (vO zr (hr.mono (by decide)) (zB (pv 0) (zB (pv 1) zG)))))),?_⟩;refine⟨_,rfl,rfl,_,rfl,zMG (fun h=>?_) fun h=>?_⟩
  ·have h:d=0:=by
    have:=of_decide_eq_true h
    injection this with e
    omega
   subst h;exact⟨(by show 2≤sizeLine;decide),fun p hp=>k p hp⟩
  ·have h:d≠0:=fun q=>h (by subst q;rfl);rw [if_neg h] at k;exact⟨_,rfl,_,rfl,n,d,rfl,pos_of_ne_zero h,hl,k⟩
end
end Mb
namespace Mb
open PySem PySem.Spec PyProof.Rows L2
abbrev jY:Stmt:=inClass (top 72) 0
abbrev jR:Stmt:=inClass (top 72) 1
abbrev zz:Stmt:=inClass (top 72) 2
abbrev zf:Stmt:=inClass (top 72) 3
abbrev za:Stmt:=inClass (top 72) 4
abbrev zo:Stmt:=inClass (top 72) 5
abbrev jS:Stmt:=inClass (top 72) 6
structure TxM (K:W.Frag) (CM:Addr):Prop where
 clMeter:Cls K CM
 a1:zZ K CM "guests"
 a2:zZ K CM "loose"
 a3:zZ K CM "content"
 a4:zZ K CM "moments"
 a5:zZ K CM "begun"
 a6:zZ K CM "ended"
 a7:zZ K CM "ended_at_once"
 a8:zZ K CM "lasted"
 a9:zZ K CM "units_lasted"
section
variable {g l z:Addr}{lo co be en ea la ul y:Int}
theorem mf1:(mf g l lo co be en ea la ul).lookup ("guests":Str)=some (.ref g):=rfl
theorem mf2:(mf g l lo co be en ea la ul).lookup ("loose":Str)=some (.int lo):=rfl
theorem mf3:(mf g l lo co be en ea la ul).lookup ("content":Str)=some (.int co):=rfl
theorem mf4:(mf g l lo co be en ea la ul).lookup ("moments":Str)=some (.ref l):=rfl
theorem mf5:(mf g l lo co be en ea la ul).lookup ("begun":Str)=some (.int be):=rfl
theorem mf6:(mf g l lo co be en ea la ul).lookup ("ended":Str)=some (.int en):=rfl
theorem mf7:(mf g l lo co be en ea la ul).lookup ("ended_at_once":Str)=some (.int ea):=rfl
theorem mf8:(mf g l lo co be en ea la ul).lookup ("lasted":Str)=some (.int la):=rfl
theorem mf9:(mf g l lo co be en ea la ul).lookup ("units_lasted":Str)=some (.int ul):=rfl
theorem mp1:jx "guests" (.ref z) (mf g l lo co be en ea la ul)=mf z l lo co be en ea la ul:=rfl
theorem mp2:jx "loose" (.int y) (mf g l lo co be en ea la ul)=mf g l y co be en ea la ul:=rfl
theorem mp3:jx "content" (.int y) (mf g l lo co be en ea la ul)=mf g l lo y be en ea la ul:=rfl
theorem mp4:jx "moments" (.ref z) (mf g l lo co be en ea la ul)=mf g z lo co be en ea la ul:=rfl
theorem mp5:jx "begun" (.int y) (mf g l lo co be en ea la ul)=mf g l lo co y en ea la ul:=rfl
theorem mp6:jx "ended" (.int y) (mf g l lo co be en ea la ul)=mf g l lo co be y ea la ul:=rfl
theorem mp7:jx "ended_at_once" (.int y) (mf g l lo co be en ea la ul)=mf g l lo co be en y la ul:=rfl
theorem mp8:jx "lasted" (.int y) (mf g l lo co be en ea la ul)=mf g l lo co be en ea y ul:=rfl
theorem mp9:jx "units_lasted" (.int y) (mf g l lo co be en ea la ul)=mf g l lo co be en ea la y:=rfl
theorem mn1:(mf g l lo co be en ea la ul).lookup ("shift_content":Str)=none:=rfl
end
theorem jW {H:Hp}{a C dx:Addr}{fs fs':List (Str×V)}(e:fs=fs'):upd H a (.ins C dx fs)=upd H a (.ins C dx fs'):=by rw [e]
section
variable {P:Program}{w:World}{K:W.Frag}{mg:Str→Option Value}{base:Heap}{CM:Addr}
def zEe (CM:Addr):Sp:=fun vs H Q _=>∃ (a dx g l:Addr) (lo co be en ea la ul t u:Int) (xs:List V),vs=[.ref a,.int t,.int u]∧H a=some (.ins CM dx (mf g l lo co be en ea la ul))∧H l=some (.lst xs)∧xs.length<1000 ∧
 ∀ H',H' a=some (.ins CM dx (mf g l lo (co+u) be en ea la ul))→(∃ x,H' l=some (.lst (xs++[x]))∧zA8 H' x t (co+u))→Kp [a,l] H H'→Q .non H'
theorem kg:zL ["self","time","units"] ["self","time","units"] (zE za):=by trivial
theorem xP (D:zT K CM "shift_content" "Meter.shift_content" za) (T:TxM K CM):ve P w K mg base CM "shift_content" 1 ["self","time","units"] (zEe CM):=by
 have nd:=kg.nd
 refine jp D kg (L2.bA3 fun _ _ _ _ _ _ _ _ _=>rfl) ?_ ?_
 ·rintro vs H Q E ⟨a,dx,g,l,lo,co,be,en,ea,la,ul,t,u,xs,rfl,_⟩;rfl
 ·rintro f cdv A outer s H vs Q E hr ⟨a,dx,g,l,lo,co,be,en,ea,la,ul,t,u,xs,rfl,ha,hl,hx,k⟩;refine⟨_,(zC (vd (pv 0) (pv 2) zCS) (zI (jP (ww F.plainAttrs_list F.slot_list_append F.type_list_append kD (zO (pv 0) rfl) (zB (kM (zB (pv 1) (zB (zO (pv 0) rfl) zG))) zG))))),?_⟩;have nla:l≠a:=vw hl ha (by intro q;cases q);refine⟨_,rfl,a,CM,dx,_,_,rfl,ha,T.clMeter,T.a3,mf3,_,rfl,_,_,rfl,rfl,dx,_,ha,(by show 9<1000;decide),?_⟩;rw [jW mp3]
  have hl1:upd H a (.ins CM dx (mf g l lo (co+u) be en ea la ul)) l=some (.lst xs):=by rw [zD nla];exact hl
  refine⟨_,rfl,a,CM,dx,_,_,rfl,zA,T.clMeter,T.a4,mf4,.inl ⟨rfl,_,SqL.of hl1⟩,_,rfl,_,rfl,a,CM,dx,_,_,rfl,zA,T.clMeter,T.a3,mf3,(by show 2≤sizeLine;decide),fun p hp=>?_⟩
  have np:p≠l:=fun q=>by rw [q,hl1] at hp;cases hp
  have npa:p≠a:=fun q=>by rw [q,zA] at hp;cases hp
  have hpH:H p=none:=by rw [zD npa] at hp;exact hp
  refine⟨l,xs,_,rfl,rfl,(by rw [zD np.symm];exact hl1),zb (le_of_lt hx),?_⟩;refine k _ ?_ ⟨_,zA,p,rfl,?_⟩ ?_
  ·rw [zD nla.symm,zD npa.symm,zA]
  ·rw [zD np,zA]
  ·exact((Kp.refl.upd (.inl (by simp))).upd (.inr hpH)).upd (.inl (by simp))
end
end Mb
namespace Mb
open PySem PySem.Spec PyProof.Rows L2
section
variable {P:Program}{w:World}{K:W.Frag}{mg:Str→Option Value}{base:Heap}{CM:Addr}
def zGq (CM:Addr):Sp:=fun vs H Q _=>∃ (a dx g l:Addr) (lo co be en ea la ul t u:Int) (xs:List V),vs=[.ref a,.int t,.int u]∧H a=some (.ins CM dx (mf g l lo co be en ea la ul))∧H l=some (.lst xs)∧xs.length<1000 ∧
 ∀ H',H' a=some (.ins CM dx (mf g l (lo+u) (co+u) be en ea la ul))→(∃ x,H' l=some (.lst (xs++[x]))∧zA8 H' x t (co+u))→Kp [a,l] H H'→Q .non H'
theorem vT:zL ["self","time","units"] ["self","time","units"] (zE zf):=by trivial
theorem wU (D:zT K CM "shift_loose" "Meter.shift_loose" zf) (T:TxM K CM) (js:ve P w K mg base CM "shift_content" 1 ["self","time","units"] (zEe CM)) :
  ve P w K mg base CM "shift_loose" 2 ["self","time","units"] (zGq CM):=by
 have nd:=vT.nd
 refine jp D vT (L2.bA3 fun _ _ _ _ _ _ _ _ _=>rfl) ?_ ?_
 ·rintro vs H Q E ⟨a,dx,g,l,lo,co,be,en,ea,la,ul,t,u,xs,rfl,_⟩;rfl
 ·rintro f cdv A outer s H vs Q E hr ⟨a,dx,g,l,lo,co,be,en,ea,la,ul,t,u,xs,rfl,ha,hl,hx,k⟩;refine⟨_,(zC (vd (pv 0) (pv 2) zCS) (zI (jP (vF T.clMeter js (hr.mono (by decide)) (pv 0) (zB (pv 1) (zB (pv 2) zG)))))),?_⟩;have nla:l≠a:=vw hl ha (by intro q;cases q);refine⟨_,rfl,a,CM,dx,_,_,rfl,ha,T.clMeter,T.a2,mf2,_,rfl,_,_,rfl,rfl,dx,_,ha,(by show 9<1000;decide),?_⟩;rw [jW mp2]
  have hl1:upd H a (.ins CM dx (mf g l (lo+u) co be en ea la ul)) l=some (.lst xs):=by rw [zD nla];exact hl
  refine⟨_,rfl,a,dx,_,rfl,zA,mn1,_,rfl,_,rfl,a,dx,g,l,lo+u,co,be,en,ea,la,ul,t,u,xs,rfl,zA,hl1,hx,fun H' h1 h2 h3=>?_⟩;exact k H' h1 h2 (Kp.trans (Kp.refl.upd (.inl (by simp))) h3)
def zJ3 (CM:Addr):Sp:=fun vs H Q _=>∃ (a dx g l:Addr) (lo co be en ea la ul t x u:Int) (xs:List V) (kvs:List (Key×V)),vs=[.ref a,.int t,.int x,.int u]∧H a=some (.ins CM dx (mf g l lo co be en ea la ul))∧H l=some (.lst xs)∧xs.length<1000 ∧
 H g=some (.dK kvs)∧kvs.length<1000 ∧
 ∀ H',H' a=some (.ins CM dx (mf g l lo (co+u) (be+1) en ea la ul))→(∃ y,H' l=some (.lst (xs++[y]))∧zA8 H' y t (co+u))→(∃ y,H' g=some (.dK (zDI kvs (Sum.inl x) y))∧zA8 H' y u t)→Kp [a,g,l] H H'→Q .non H'
theorem wg:zL ["self","time","name","units"] ["self","time","name","units"] (zE jR):=by trivial
theorem zDL (D:zT K CM "admit" "Meter.admit" jR) (T:TxM K CM) (js:ve P w K mg base CM "shift_content" 1 ["self","time","units"] (zEe CM)) :
  ve P w K mg base CM "admit" 2 ["self","time","name","units"] (zJ3 CM):=by
 have nd:=wg.nd
 refine jp D wg (L2.bA4 fun _ _ _ _ _ _ _ _ _ _=>rfl) ?_ ?_
 ·rintro vs H Q E ⟨a,dx,g,l,lo,co,be,en,ea,la,ul,t,x,u,xs,kvs,rfl,_⟩;rfl
 ·rintro f cdv A outer s H vs Q E hr ⟨a,dx,g,l,lo,co,be,en,ea,la,ul,t,x,u,xs,kvs,rfl,ha,hl,hx,hg,hk,k⟩;have hu:=zGl hr;refine⟨_,(zC (zGk hu (zO (pv 0) rfl) (pv 2) (kM (zB (pv 3) (zB (pv 1) zG))) rfl) (zC (vd (pv 0) zH zCS) (zI (jP (vF T.clMeter js (hr.mono (by decide)) (pv 0) (zB (pv 1) (zB (pv 3) zG))))))),?_⟩;have nla:l≠a:=vw hl ha (by intro q;cases q);have nga:g≠a:=vw hg ha (by intro q;cases q);have ngl:g≠l:=vw hg hl (by intro q;cases q);refine⟨_,rfl,_,rfl,(by show 2≤sizeLine;decide),fun p hp=>?_⟩;have npa:a≠p:=zF ha hp;have npl:l≠p:=zF hl hp;have npg:g≠p:=zF hg hp;refine⟨_,rfl,a,CM,dx,_,_,rfl,(by rw [zD npa];exact ha),T.clMeter,T.a1,mf1,_,rfl,g,_,rfl,zNF.k (k:=Sum.inl x) (by rw [zD npg];exact hg) (zb (le_of_lt hk)),?_⟩;refine⟨_,rfl,a,CM,dx,_,_,rfl,(by rw [zD nga.symm,zD npa];exact ha),T.clMeter,T.a5,mf5,_,_,rfl,rfl,dx,_,(by rw [zD nga.symm,zD npa];exact ha),(by show 9<1000;decide),?_⟩;rw [jW mp5];refine⟨_,rfl,a,dx,_,rfl,zA,mn1,_,rfl,_,rfl,a,dx,g,l,lo,co,be+1,en,ea,la,ul,t,u,xs,rfl,zA,(by rw [zD nla,zD ngl.symm,zD npl];exact hl),hx,fun H' h1 h2 h3=>?_⟩;refine k H' h1 h2 ⟨.ref p,h3 _ _ ?_ ?_,p,rfl,h3 _ _ ?_ ?_⟩ (Kp.trans (((Kp.refl.upd (.inr hp)).upd (.inl (by simp))).upd (.inl (by simp))) (h3.mono ?_))
  ·rw [zD nga,zA]
  ·simp [nga,ngl]
  ·rw [zD npa.symm,zD npg.symm,zA]
  ·simp [npa.symm,npl.symm]
  ·intro z hz;simp at hz ⊢
   rcases hz with hz | hz
   ·exact .inl hz
   ·exact .inr (.inr hz)
end
end Mb
namespace Mb
open PySem PySem.Spec PyProof.Rows L2
section
variable {P:Program}{w:World}{K:W.Frag}{mg:Str→Option Value}{base:Heap}{CM:Addr}
theorem wH {n:Nat}(h:n<2 ^ 64):n.log2<60000000:=by
 by_cases h0:n=0
 ·subst h0;decide
 ·exact lt_trans ((Nat.log2_lt h0).mpr h) (by decide)
theorem zAY {n:Nat}(h:n<2 ^ 64):n.log2<9000:=by
 by_cases h0:n=0
 ·subst h0;decide
 ·exact lt_trans ((Nat.log2_lt h0).mpr h) (by decide)
def zFk (CM:Addr):Sp:=fun vs H Q _=>∃ (a dx g l:Addr) (lo co be en ea la ul t x u s0:Int) (xs:List V) (kvs:List (Key×V)) (y:V),vs=[.ref a,.int t,.int x]∧H a=some (.ins CM dx (mf g l lo co be en ea la ul))∧H l=some (.lst xs)∧xs.length<1000 ∧
 H g=some (.dK kvs)∧yL kvs (Sum.inl x)=some y∧zA8 H y u s0∧u.natAbs<2 ^ 64∧(t-s0).natAbs<2 ^ 64 ∧
 ∀ H',H' a=some (.ins CM dx (mf g l lo (co + -u) be (en+1) (if t-s0=0 then ea+1 else ea) (la+(t-s0)) (ul+u*(t-s0))))→(∃ y,H' l=some (.lst (xs++[y]))∧zA8 H' y t (co + -u))→H' g=some (.dK (wS kvs (Sum.inl x)))→Kp [a,g,l] H H'→Q .non H'
theorem xI:zL ["self","time","name","guest","units","lasted"] ["self","time","name"] (zE zz):=by trivial
theorem zBp (D:zT K CM "dismiss" "Meter.dismiss" zz) (T:TxM K CM) (js:ve P w K mg base CM "shift_content" 1 ["self","time","units"] (zEe CM)) :
  ve P w K mg base CM "dismiss" 2 ["self","time","name"] (zFk CM):=by
 have nd:=xI.nd
 refine jp D xI (L2.bA3 fun _ _ _ _ _ _ _ _ _=>rfl) ?_ ?_
 ·rintro vs H Q E ⟨a,dx,g,l,lo,co,be,en,ea,la,ul,t,x,u,s0,xs,kvs,y,rfl,_⟩;rfl
 ·rintro f cdv A outer s H vs Q E hr ⟨a,dx,g,l,lo,co,be,en,ea,la,ul,t,x,u,s0,xs,kvs,y,rfl,ha,hl,hx,hg,hv,⟨p,rfl,hp⟩,hb1,hb2,k⟩;have hu:=zGl hr;refine⟨_,(zC (zU (i:=3) nd rfl (Or.inl rfl) (zLO (zO (pv 0) rfl) (pv 2) ⟨rfl,rfl,rfl,rfl⟩)) (zC (zU (i:=4) nd rfl (Or.inl rfl) (zN zK (pv 3) zH (fun _ _=>rfl))) (zC (zU (i:=5) nd rfl (Or.inl rfl) (jI zCN (pv 1) (zN zK (pv 3) zH (fun _ _=>rfl)))) (zC (vd (pv 0) zH zCS) (zC (kj (jl zGa (pv 5) zH (jc _)) (zI (vd (pv 0) zH zCS)) jM) (zC (vd (pv 0) (pv 5) zCS) (zC (vd (pv 0) (jI jG (pv 4) (pv 5)) zCS) (zI (jP (vF T.clMeter js (hr.mono (by decide)) (pv 0) (zB (pv 1) (zB (zJS zFQ (pv 4)) zG)))))))))))),?_⟩;have nla:l≠a:=vw hl ha (by intro q;cases q);have nga:g≠a:=vw hg ha (by intro q;cases q);have ngl:g≠l:=vw hg hl (by intro q;cases q);have npg:p≠g:=vw hp hg (by intro q;cases q);refine⟨_,rfl,a,CM,dx,_,_,rfl,ha,T.clMeter,T.a1,mf1,g,rfl,.inl ⟨kvs,.inl hg⟩,_,rfl,kvs,Sum.inl x,_,hg,rfl,hv,?_⟩
  have hp1:upd H g (.dK (wS kvs (Sum.inl x))) p=some (.tup [.int u,.int s0]):=by rw [zD npg];exact hp
  refine⟨_,rfl,.inr (.inl ⟨p,_,0,.int u,rfl,rfl,SqT.of hp1,rfl,?_⟩)⟩;refine⟨_,rfl,_,rfl,.inr (.inl ⟨p,_,1,.int s0,rfl,rfl,SqT.of hp1,rfl,_,_,rfl,rfl,?_⟩)⟩
  have ha1:upd H g (.dK (wS kvs (Sum.inl x))) a=some (.ins CM dx (mf g l lo co be en ea la ul)):=by rw [zD nga.symm];exact ha
  refine⟨_,rfl,a,CM,dx,_,_,rfl,ha1,T.clMeter,T.a6,mf6,_,_,rfl,rfl,dx,_,ha1,(by show 9<1000;decide),?_⟩;rw [jW mp6];have kp1:Kp [a,g,l] H (upd (upd H g (.dK (wS kvs (Sum.inl x)))) a (.ins CM dx (mf g l lo co be (en+1) ea la ul))):=(Kp.refl.upd (.inl (by simp))).upd (.inl (by simp));have ha2:(upd (upd H g (.dK (wS kvs (Sum.inl x)))) a (.ins CM dx (mf g l lo co be (en+1) ea la ul))) a=some (.ins CM dx (mf g l lo co be (en+1) ea la ul)):=zA
  have hg2:(upd (upd H g (.dK (wS kvs (Sum.inl x)))) a (.ins CM dx (mf g l lo co be (en+1) ea la ul))) g=some (.dK (wS kvs (Sum.inl x))):=by rw [zD nga,zA]
  have hl2:(upd (upd H g (.dK (wS kvs (Sum.inl x)))) a (.ins CM dx (mf g l lo co be (en+1) ea la ul))) l=some (.lst xs):=by rw [zD nla,zD ngl.symm];exact hl
  generalize upd (upd H g (.dK (wS kvs (Sum.inl x)))) a (.ins CM dx (mf g l lo co be (en+1) ea la ul))=H1 at kp1 ha2 hg2 hl2 ⊢;refine⟨_,rfl,rfl,_,rfl,zMG (fun h=>?_) fun h=>?_⟩
  ·have h0:t-s0=0:=by
    have:=of_decide_eq_true h;injection this
   rw [if_pos h0] at k;refine⟨_,rfl,a,CM,dx,_,_,rfl,ha2,T.clMeter,T.a7,mf7,_,_,rfl,rfl,dx,_,ha2,(by show 9<1000;decide),?_⟩;rw [jW mp7];have kp3:=kp1.upd (a:=a) (o := .ins CM dx (mf g l lo co be (en+1) (ea+1) la ul)) (.inl (by simp));have ha3:upd H1 a (.ins CM dx (mf g l lo co be (en+1) (ea+1) la ul)) a=some (.ins CM dx (mf g l lo co be (en+1) (ea+1) la ul)):=zA
   have hg3:upd H1 a (.ins CM dx (mf g l lo co be (en+1) (ea+1) la ul)) g=some (.dK (wS kvs (Sum.inl x))):=by rw [zD nga];exact hg2
   have hl3:upd H1 a (.ins CM dx (mf g l lo co be (en+1) (ea+1) la ul)) l=some (.lst xs):=by rw [zD nla];exact hl2
   generalize upd H1 a (.ins CM dx (mf g l lo co be (en+1) (ea+1) la ul))=H2 at kp3 ha3 hg3 hl3 ⊢;generalize ea+1=ea' at *;refine⟨_,rfl,a,CM,dx,_,_,rfl,ha3,T.clMeter,T.a8,mf8,_,rfl,_,_,rfl,rfl,dx,_,ha3,(by show 9<1000;decide),?_⟩;rw [jW mp8];refine⟨_,rfl,a,CM,dx,_,_,rfl,zA,T.clMeter,T.a9,mf9,_,rfl,_,rfl,_,_,rfl,rfl,zA5 (wH hb1) (wH hb2),_,_,rfl,rfl,dx,_,zA,(by show 9<1000;decide),?_⟩;rw [jW mp9,jj];refine⟨_,rfl,a,dx,_,rfl,zA,mn1,_,rfl,_,rfl,_,rfl,a,dx,g,l,lo,co,be,en+1,ea',la+(t-s0),ul+u*(t-s0),t,-u,xs,rfl,zA,(by rw [zD nla];exact hl3),hx,fun H' h1 h2 h3=>?_⟩;refine k H' h1 h2 (h3 _ _ (by rw [zD nga];exact hg3) (by simp [nga,ngl])) (Kp.trans (kp3.upd (.inl (by simp))) (h3.mono ?_));intro z hz;simp at hz ⊢
   rcases hz with hz | hz
   ·exact .inl hz
   ·exact .inr (.inr hz)
  ·have h0:¬ t-s0=0:=fun q=>h (by show decide (V.int (t-s0)=V.int 0)=true;rw [q];rfl);rw [if_neg h0] at k;refine⟨_,rfl,a,CM,dx,_,_,rfl,ha2,T.clMeter,T.a8,mf8,_,rfl,_,_,rfl,rfl,dx,_,ha2,(by show 9<1000;decide),?_⟩;rw [jW mp8];refine⟨_,rfl,a,CM,dx,_,_,rfl,zA,T.clMeter,T.a9,mf9,_,rfl,_,rfl,_,_,rfl,rfl,zA5 (wH hb1) (wH hb2),_,_,rfl,rfl,dx,_,zA,(by show 9<1000;decide),?_⟩;rw [jW mp9,jj];refine⟨_,rfl,a,dx,_,rfl,zA,mn1,_,rfl,_,rfl,_,rfl,a,dx,g,l,lo,co,be,en+1,ea,la+(t-s0),ul+u*(t-s0),t,-u,xs,rfl,zA,(by rw [zD nla];exact hl2),hx,fun H' h1 h2 h3=>?_⟩;refine k H' h1 h2 (h3 _ _ (by rw [zD nga];exact hg2) (by simp [nga,ngl])) (Kp.trans (kp1.upd (.inl (by simp))) (h3.mono ?_));intro z hz;simp at hz ⊢
   rcases hz with hz | hz
   ·exact .inl hz
   ·exact .inr (.inr hz)
end
end Mb
namespace L2
open PySem PySem.Spec PyProof.Rows
theorem zFl {d:Addr}{o:Obj}{kvs:List (Key×V)}{g:TG}{tb:TS}{D:zL6}{σ:St}{H:Hp}(Pv:Nat→St→Hp→Prop) (h0:Pv 0 σ H) (hl:∀ i σ H,Pv i σ H→H d=some (.frz o (.dK kvs)))
  (hs:∀ i k v σ H T,kvs[i]? = some (k,v)→Pv i σ H→H T=none→g (.ref T) σ (upd H T (.tup [kV k,v])) fun σ2 H2=>tb { D with nx:=Pv (i+1),ct:=Pv (i+1),bk:=D.nx } σ2 H2) (hd:∀ σ H,Pv kvs.length σ H→D.nx σ H) :
  ∃ W:Nat→Nat→St→Hp→Prop,(∃ m,W 0 m σ H)∧∀ i m σ H,W i m σ H →
   ((Iti d o kvs).stop i H∧D.nx σ H)∨((Iti d o kvs).go i H∧∃ N:St→Hp→Prop,(∀ σ' H',N σ' H'→∃ m',m'<m∧W (i+1) m' σ' H')∧∀ x H',(Iti d o kvs).yld i H x H'→g x σ H' fun σ2 H2=>tb { D with nx:=N,ct:=N,bk:=D.nx } σ2 H2):=by
 refine⟨fun i m σ H=>m=kvs.length-i∧i≤kvs.length∧Pv i σ H,⟨kvs.length,rfl,zero_le _,h0⟩,?_⟩;rintro i m σ H ⟨rfl,hi,p⟩;have q:=hl i σ H p;by_cases hlt:i<kvs.length
 ·refine .inr ⟨⟨q,hlt⟩,Pv (i+1),fun σ' H' p'=>⟨kvs.length-(i+1),by omega,rfl,hlt,p'⟩,?_⟩;rintro x H' ⟨T,k,v,e,rfl,hT,rfl⟩;exact hs i k v σ H T e p hT
 ·have e:i=kvs.length:=by omega
  subst e;exact .inl ⟨⟨q,le_refl _⟩,hd σ H p⟩
end L2
namespace Mb
open PySem PySem.Spec PyProof.Rows L2
theorem zEf {H:Hp}{kvs:List (Key×V)}{ins:List Stay}(h:zGo H kvs ins){x:Nat}(n:x∉ins.map (·.id)):yL kvs (Sum.inl (x:Int))=none:=by
 induction h with
 | nil=>rfl
 | @cons kv s kvs ins r t ih =>
  rw [map_cons,mem_cons,not_or] at n;rw [jy,ih n.2];rw [r.1];intro q
  injection q with q
  exact n.1 (by omega)
theorem zHq {H:Hp}{kvs:List (Key×V)}{ins:List Stay}(h:zGo H kvs ins){x:Nat}{s:Stay}(e:ins.find? (fun s=>s.id==x)=some s):∃ v,yL kvs (Sum.inl (x:Int))=some v∧zA8 H v s.units s.since:=by
 induction h with
 | nil=>cases e
 | @cons kv a kvs ins r t ih =>
  rw [find?_cons] at e;by_cases q:a.id=x
  ·rw [beq_iff_eq.mpr q] at e
   cases e
   exact⟨kv.2,kE (by rw [r.1,q]),r.2⟩
  ·rw [beq_eq_false_iff_ne.mpr q] at e;obtain⟨v,h1,h2⟩:=ih e;refine⟨v,?_,h2⟩;rw [jy,h1];rw [r.1];intro z
   injection z with z
   exact q (by omega)
theorem zLY {H:Hp}{kvs:List (Key×V)}{ins:List Stay}(h:zGo H kvs ins){x:Nat}:(yL kvs (Sum.inl (x:Int))).isSome=(ins.any fun s=>s.id==x):=by
 cases e:ins.any (fun s=>s.id==x) with
 | false=>rw [zEf h (zAQ.mp e)];rfl
 | true =>
  rw [List.any_eq_true] at e;obtain⟨s,hs,q⟩:=e
  cases e2:ins.find? (fun s=>s.id==x) with
  | none=>exact absurd q (List.find?_eq_none.mp e2 s hs)
  | some s' =>
   obtain⟨v,h1,_⟩:=zHq h e2;rw [h1];rfl
theorem zJ4 {H:Hp}{kvs:List (Key×V)}{ins:List Stay}(h:zGo H kvs ins){x u t:Nat}{v:V}(n:x∉ins.map (·.id)) (p:zA8 H v u t):zGo H (zDI kvs (Sum.inl (x:Int)) v) (ins++[⟨x,u,t⟩]):=by
 rw [zHj v (zEf h n)];exact zAX h (.cons ⟨rfl,p⟩ .nil)
theorem zLZ {H:Hp}{kvs:List (Key×V)}{ins:List Stay}(h:zGo H kvs ins) (x:Nat):zGo H (wS kvs (Sum.inl (x:Int))) (ins.filter fun r=>r.id != x):=by
 refine zJ0 h fun kv s r=>?_;rw [r.1];by_cases q:s.id=x
 ·subst q;simp
 ·have:¬ (Sum.inl (s.id:Int):Key)=Sum.inl (x:Int):=fun z=>by injection z with z;exact q (by omega)
  simp [this,q]
section
variable {P:Program}{w:World}{K:W.Frag}{mg:Str→Option Value}{base:Heap}{CM:Addr}
abbrev vA:Stmt:=top 73
def since (t:Nat) (s:Stay):Stay:={ s with since:=t }
def zJ5:Sp:=fun vs H Q _=>∃ (g:Addr) (t:Nat) (kvs:List (Key×V)) (ins:List Stay),vs=[.ref g,.int t]∧H g=some (.dK kvs)∧zGo H kvs ins∧(ins.map (·.id)).Nodup∧ins.length<1000 ∧
 ∀ H' m kvs',H m=none→H' m=some (.dK kvs')→zGo H' kvs' (ins.map (since t))→Kp [] H H'→Q (.ref m) H'
theorem xZ:zL ["guests","time","moved","name","guest"] ["guests","time"] (zE vA):=by trivial
theorem zCa (D:zJ K mg "guests_since" vA):Has P w K mg base "guests_since" 1 ["guests","time"] zJ5:=by
 have nd:=xZ.nd
 refine jo D xZ (L2.bA2 fun _ _ _ _ _ _ _ _=>rfl) ?_ ?_
 ·rintro vs H Q E ⟨g,t,kvs,ins,rfl,_⟩;rfl
 ·rintro f cdv A outer s H vs Q E hr ⟨g,t,kvs,ins,rfl,hg,hG,hn,hl,k⟩;have hu:=zGl hr;refine⟨_,(zC (zU (i:=2) nd rfl (Or.inl rfl) zEY) (zC (zJn (yT PassesOwn.never rfl (zHk (pv 0)) (zCL rfl (zV (zS (i:=3) nd rfl (Or.inl rfl)) (zV (zS (i:=4) nd rfl (Or.inl rfl)) jk))) (zI (zGk hu (pv 2) (pv 3) (kM (zB (zN zK (pv 4) zH (fun _ _=>rfl)) (zB (pv 1) zG))) rfl)))) (zI (zP (pv 2))))),?_⟩;intro m hm;have ngm:g≠m:=zF hg hm;refine⟨g,.dK kvs,(by rw [zD ngm];exact hg),trivial,fun od=>?_⟩;refine⟨_,rfl,g,od,kvs,rfl,zA,zFl (d:=g) (o:=od) (kvs:=kvs) (fun i σ H'=>∃ v3 v4 kvs',σ=[some (.ref g),some (.int t),some (.ref m),v3,v4]∧H' g=some (.frz od (.dK kvs))∧H' m=some (.dK kvs')∧zGo H' kvs' ((ins.take i).map (since t))∧Kp [g] H H') ?_ ?_ ?_ ?_⟩
  ·refine⟨none,none,[],rfl,zA,?_,.nil,(Kp.refl.upd (.inr hm)).upd (.inl (by simp))⟩;rw [zD ngm.symm,zA]
  ·rintro i σ H' ⟨v3,v4,kvs',_,h,_⟩;exact h
  ·rintro i key v σ H' T hi ⟨v3,v4,kvs',rfl,h1,h2,h3,h4⟩ hT;obtain⟨st,hst,ek,⟨p,ev,hp⟩⟩:=vG hG hi;dsimp only at ek ev hp;subst ek ev;have hpg:p≠g:=vw hp hg (by intro q;cases q);have hp':H' p=some (.tup [.int st.units,.int st.since]):=h4 _ _ hp (by simpa using hpg);have npT:p≠T:=zF hp' hT;have nmT:m≠T:=zF h2 hT;have ngT:g≠T:=zF h1 hT;refine⟨T,_,rfl,SqT.of zA,rfl,_,_,rfl,_,_,rfl,rfl,?_⟩;refine⟨_,rfl,.inr (.inl ⟨p,_,0,.int st.units,rfl,rfl,SqT.of (by rw [zD npT];exact hp'),rfl,?_⟩)⟩;refine⟨_,rfl,(by show 2≤sizeLine;decide),fun q hq=>?_⟩
   have hqT:q≠T:=fun z=>by rw [z,zA] at hq;cases hq
   have hqn:H' q=none:=by rw [zD hqT] at hq;exact hq
   have nmq:m≠q:=zF h2 hqn;have ngq:g≠q:=zF h1 hqn
   have hm2:(upd (upd H' T (.tup [V.int ↑st.id,.ref p])) q (.tup [V.int ↑st.units,V.int ↑t])) m=some (.dK kvs'):=by rw [zD nmq,zD nmT];exact h2
   have lk:kvs'.length<1000:=by
    have:=jK h3;rw [length_map,length_take] at this;omega
   refine⟨_,rfl,_,rfl,m,_,rfl,zNF.k (k:=Sum.inl (st.id:Int)) hm2 (zb (le_of_lt lk)),?_⟩;have ngm':g≠m:=ngm
   have tp:jd H' (upd (upd (upd H' T (.tup [V.int ↑st.id,.ref p])) q (.tup [V.int ↑st.units,V.int ↑t])) m (.dK (zDI kvs' (Sum.inl (st.id:Int)) (.ref q)))):=by
    refine((jd.new hT).trans (jd.new hq)).trans (jd.upd fun xs e=>?_);have e2:=hm2.symm.trans e
    cases e2
   refine⟨_,_,_,rfl,?_,zA,?_,?_⟩
   ·rw [zD ngm',zD ngq,zD ngT];exact h1
   ·have e1:(ins.take (i+1)).map (since t)=(ins.take i).map (since t)++[⟨st.id,st.units,t⟩]:=by
     rw [take_succ,hst,map_append];rfl
    rw [e1];refine zJ4 (h3.keep tp) ?_ ⟨q,rfl,?_⟩
    ·intro mem;rw [map_map] at mem;obtain⟨s',hs',e'⟩:=List.mem_map.mp mem;obtain⟨j,hj,ej⟩:=List.mem_iff_getElem.mp hs';rw [List.getElem_take] at ej;rw [length_take] at hj
     have e3:(ins.map (·.id))[j]? = some st.id:=by
      rw [getElem?_map,getElem?_eq_getElem (by omega)];show some (ins[j]'(by omega)).id=_;rw [ej];exact congrArg some e'
     have e4:(ins.map (·.id))[i]? = some st.id:=by rw [getElem?_map,hst];rfl
     have:=zPl hn e3 e4;omega
    ·rw [zD nmq.symm,zA]
   ·refine((h4.upd (.inr ?_)).upd (.inr ?_)).upd (.inr hm)
    ·cases e:H T with
     | none=>rfl
     | some o =>
      by_cases z:T=g
      ·exact absurd z.symm ngT
      ·rw [h4 _ _ e (by simpa using z)] at hT;cases hT
    ·cases e:H q with
     | none=>rfl
     | some o =>
      by_cases z:q=g
      ·exact absurd z.symm ngq
      ·rw [h4 _ _ e (by simpa using z)] at hqn;cases hqn
  ·rintro σ H' ⟨v3,v4,kvs',rfl,h1,h2,h3,h4⟩;refine⟨h1,_,rfl,?_⟩
   have tp:jd H' (upd H' g (.dK kvs)):=jd.upd fun xs e=>by rw [h1] at e;cases e
   have ll:(ins.take kvs.length)=ins:=by rw [jK hG];exact take_length
   rw [ll] at h3;refine k _ m kvs' hm (by rw [zD ngm.symm];exact h2) (h3.keep tp) fun b o e _=>?_;by_cases z:b=g
   ·subst z;rw [hg] at e;cases e;exact zA
   ·rw [zD z];exact h4 b o e (by simpa using z)
end
end Mb
namespace Mb
open PySem PySem.Spec PyProof.Rows L2
section
variable {P:Program}{w:World}{K:W.Frag}{mg:Str→Option Value}{base:Heap}{CM:Addr}
theorem zJ6 (g l:Addr) (t:Nat) (v:Meter):zEd g l (anew t v)=mf g l v.loose (content v) v.ins.length 0 0 0 0:=by
 unfold zEd;rw [xU];rfl
def zMI (CM:Addr):Sp:=fun vs H Q _=>∃ (a g l:Addr) (T0 t:Nat) (v:Meter),vs=[.ref a,.int t]∧kJ CM H a g l T0 v∧(v.ins.map (·.id)).Nodup∧v.ins.length<1000 ∧
 ∀ H' g' l',kJ CM H' a g' l' t (anew t v)→H g'=none→H l'=none→Kp [a] H H'→Q .non H'
theorem yA:zL ["self","time"] ["self","time"] (zE zo):=by trivial
theorem zAZ (D:zT K CM "note_anew" "Meter.note_anew" zo) (T:TxM K CM) (n_len:mg "len"=none) (zDW:Has P w K mg base "guests_since" 1 ["guests","time"] zJ5) :
  ve P w K mg base CM "note_anew" 2 ["self","time"] (zMI CM):=by
 have nd:=yA.nd
 refine jp D yA (L2.bA2 fun _ _ _ _ _ _ _ _=>rfl) ?_ ?_
 ·rintro vs H Q E ⟨a,g,l,T0,t,v,rfl,_⟩;rfl
 ·rintro f cdv A outer s H vs Q E hr ⟨a,g,l,T0,t,v,rfl,⟨⟨dx,ha⟩,⟨kvs,hg,hG⟩,⟨xs,hl,hM⟩⟩,hn,hc,k⟩;refine⟨_,(zC (jV (pv 0) (vO zDW (hr.mono (by decide)) (zB (zO (pv 0) rfl) (zB (pv 1) zG))) rfl) (zC (jV (pv 0) (jO (zB (kM (zB (pv 1) (zB (zO (pv 0) rfl) zG))) zG)) rfl) (zC (jV (pv 0) (zh zAV (by rfl) n_len boot_len (zB (zO (pv 0) rfl) zG)) rfl) (zC (jV (pv 0) zH rfl) (zC (jV (pv 0) zH rfl) (zC (jV (pv 0) zH rfl) (zI (jV (pv 0) zH rfl)))))))),?_⟩;unfold zEd at ha;refine⟨_,rfl,a,CM,dx,_,_,rfl,ha,T.clMeter,T.a1,mf1,_,rfl,g,t,kvs,v.ins,rfl,hg,hG,hn,hc,fun H1 g' kvs' hg' h1 h2 k1=>?_⟩;have ha1:=k1 _ _ ha (by simp);refine⟨_,rfl,a,CM,dx,_,rfl,ha1,T.clMeter,T.a1,(by show 9<1000;decide),?_⟩;rw [jW mp1];refine⟨_,rfl,_,rfl,a,CM,dx,_,_,rfl,zA,T.clMeter,T.a3,mf3,(by show 2≤sizeLine;decide),fun p hp=>?_⟩;refine⟨(by show 1≤sizeLine;decide),fun q hq=>?_⟩
  have npa:a≠p:=fun z=>by rw [← z,zA] at hp;cases hp
  have hp1:H1 p=none:=by rw [zD npa.symm] at hp;exact hp
  have nqp:q≠p:=fun z=>by rw [z,zA] at hq;cases hq
  have nqa:a≠q:=fun z=>by rw [← z,zD npa,zA] at hq;cases hq
  have hq1:H1 q=none:=by rw [zD nqp,zD nqa.symm] at hq;exact hq
  have nga:g'≠a:=vw h1 ha1 (by intro z;cases z);have ngp:g'≠p:=zF h1 hp1;have ngq:g'≠q:=zF h1 hq1;refine⟨_,rfl,a,CM,dx,_,rfl,(by rw [zD nqa,zD npa];exact zA),T.clMeter,T.a4,(by show 9<1000;decide),?_⟩;rw [jW mp4];refine⟨_,rfl,a,CM,dx,_,_,rfl,zA,T.clMeter,T.a1,mf1,g',kvs',rfl,(by rw [zD nga,zD ngq,zD ngp,zD nga];exact h1),_,rfl,a,CM,dx,_,rfl,zA,T.clMeter,T.a5,(by show 9<1000;decide),?_⟩;rw [jW mp5,jj];refine⟨_,rfl,a,CM,dx,_,rfl,zA,T.clMeter,T.a6,(by show 9<1000;decide),?_⟩;rw [jW mp6,jj];refine⟨_,rfl,a,CM,dx,_,rfl,zA,T.clMeter,T.a7,(by show 9<1000;decide),?_⟩;rw [jW mp7,jj];refine⟨_,rfl,a,CM,dx,_,rfl,zA,T.clMeter,T.a8,(by show 9<1000;decide),?_⟩;rw [jW mp8,jj];refine⟨_,rfl,a,CM,dx,_,rfl,zA,T.clMeter,T.a9,(by show 9<1000;decide),?_⟩;rw [jW mp9,jj]
  have kl:kvs'.length=v.ins.length:=by rw [jK h2,length_map]
  have fr:∀ z,H1 z=none→H z=none:=fun z hz=>by
   cases e:H z with
   | none=>rfl
   | some o=>rw [k1 _ _ e (by simp)] at hz;cases hz
  have tp:jd H1 (upd (upd (upd (upd H1 a (.ins CM dx (mf g' l ↑v.loose ↑(content v) ↑(begun v) ↑(ended v).length ↑(zeros v) ↑(stays v) ↑(unitStays v)))) p (.tup [.int t,.int (content v)])) q (.lst [.ref p])) a (.ins CM dx (mf g' q ↑v.loose ↑(content v) ↑kvs'.length 0 0 0 0))):=by
   refine(((jd.upd fun xs e=>?_).trans (jd.new hp)).trans (jd.new hq)).trans (jd.upd fun xs e=>?_)
   ·rw [ha1] at e;cases e
   ·rw [zD nqa,zD npa,zA] at e;cases e
  refine k _ g' q ⟨⟨dx,?_⟩,⟨kvs',?_,h2.keep tp⟩,⟨[.ref p],?_,.cons ⟨p,rfl,?_⟩ .nil⟩⟩ hg' (fr q hq1) ?_
  ·rw [zJ6,zA,kl]
  ·rw [zD nga,zD ngq,zD ngp,zD nga];exact h1
  ·rw [zD nqa.symm,zA]
  ·rw [zD npa.symm,zD nqp.symm,zA];rfl
  ·exact Kp.trans (k1.mono (by simp)) ((((Kp.refl.upd (.inl (by simp))).upd (.inr hp1)).upd (.inr hq1)).upd (.inl (by simp)))
def zMJ (CM:Addr):Sp:=fun vs H Q _=>∃ (p dx:Addr),vs=[.ref p]∧H p=some (.ins CM dx [])∧∀ H' g l,kJ CM H' p g l 0 {}→H g=none→H l=none→Kp [p] H H'→Q .non H'
theorem zAa:zL ["self"] ["self"] (zE jY):=by trivial
theorem zEg (D:yU K mg "Meter" CM "Meter.__init__" jY) (T:TxM K CM):zLU P w K mg base "Meter" CM 1 ["self"] (zMJ CM):=by
 have nd:=zAa.nd
 refine zGm D zAa (L2.bA1 fun _ _ _ _ _ _ _=>rfl) ?_ ?_
 ·rintro vs H Q E ⟨p,dx,rfl,_⟩;rfl
 ·rintro f cdv A outer s H vs Q E hr ⟨a,dx,rfl,ha,k⟩;refine⟨_,(zC (jV (pv 0) zEY rfl) (zC (jV (pv 0) zH rfl) (zC (jV (pv 0) zH rfl) (zC (jV (pv 0) (jO (zB (kM (zB zH (zB zH zG))) zG)) rfl) (zC (jV (pv 0) zH rfl) (zC (jV (pv 0) zH rfl) (zC (jV (pv 0) zH rfl) (zC (jV (pv 0) zH rfl) (zI (jV (pv 0) zH rfl)))))))))),?_⟩;intro g hg;have nga:a≠g:=zF ha hg;refine⟨_,rfl,a,CM,dx,_,rfl,(by rw [zD nga];exact ha),T.clMeter,T.a1,(by show 0<1000;decide),?_⟩;refine⟨_,rfl,a,CM,dx,_,rfl,zA,T.clMeter,T.a2,(by show 1<1000;decide),?_⟩;rw [jj];refine⟨_,rfl,a,CM,dx,_,rfl,zA,T.clMeter,T.a3,(by show 2<1000;decide),?_⟩;rw [jj];refine⟨(by show 2≤sizeLine;decide),fun p hp=>⟨(by show 1≤sizeLine;decide),fun l hl=>?_⟩⟩
  have npa:a≠p:=fun z=>by rw [← z,zA] at hp;cases hp
  have npg:g≠p:=fun z=>by rw [← z,zD nga.symm,zA] at hp;cases hp
  have hp1:H p=none:=by rw [zD npa.symm,zD npg.symm] at hp;exact hp
  have nlp:p≠l:=fun z=>by rw [← z,zA] at hl;cases hl
  have nla:a≠l:=fun z=>by rw [← z,zD npa,zA] at hl;cases hl
  have nlg:g≠l:=fun z=>by rw [← z,zD npg,zD nga.symm,zA] at hl;cases hl
  have hl1:H l=none:=by rw [zD nlp.symm,zD nla.symm,zD nlg.symm] at hl;exact hl
  refine⟨_,rfl,a,CM,dx,_,rfl,(by rw [zD nla,zD npa];exact zA),T.clMeter,T.a4,(by show 3<1000;decide),?_⟩;refine⟨_,rfl,a,CM,dx,_,rfl,zA,T.clMeter,T.a5,(by show 4<1000;decide),?_⟩;rw [jj];refine⟨_,rfl,a,CM,dx,_,rfl,zA,T.clMeter,T.a6,(by show 5<1000;decide),?_⟩;rw [jj];refine⟨_,rfl,a,CM,dx,_,rfl,zA,T.clMeter,T.a7,(by show 6<1000;decide),?_⟩;rw [jj];refine⟨_,rfl,a,CM,dx,_,rfl,zA,T.clMeter,T.a8,(by show 7<1000;decide),?_⟩;rw [jj];refine⟨_,rfl,a,CM,dx,_,rfl,zA,T.clMeter,T.a9,(by show 8<1000;decide),?_⟩;rw [jj];refine k _ g l ⟨⟨dx,?_⟩,⟨[],?_,.nil⟩,⟨[.ref p],?_,.cons ⟨p,rfl,?_⟩ .nil⟩⟩ hg hl1 ?_
  ·rw [zA];rfl
  ·rw [zD nga.symm,zD nlg,zD npg,zD nga.symm,zA]
  ·rw [zD nla.symm,zA]
  ·rw [zD npa.symm,zD nlp,zA];rfl
  ·exact((((Kp.refl.upd (.inr hg)).upd (.inl (by simp))).upd (.inr hp1)).upd (.inr hl1)).upd (.inl (by simp))
end
end Mb
namespace L2
open PySem PySem.Spec PyProof.Rows
theorem zOs {K:W.Frag}{a b:Addr}{xs ys:List V}{g:TG}{tt:TT}{te:TE}{vs:List Nat}{σ:St}{H1:Hp}{D:Addr}{Qd:Hp→Prop}(Pv:Nat→Hp→Prop) (h0:Pv 0 (upd H1 D (.lst []))) (hl:∀ i H,Pv i H→SqL K H a xs∧SqL K H b ys)
  (hs:∀ i x y H T,xs[i]? = some x→ys[i]? = some y→Pv i H→H T=none→g (.ref T) (vV σ vs) (upd H T (.tup [x,y])) fun σ2 H2=>vV σ2 vs=vV σ vs∧tt σ2 H2 fun c H3 =>
   if c=true then te σ2 H3 fun y H4=>∃ acc,H4 D=some (.lst acc)∧acc.length<sizeLine∧Pv (i+1) (upd H4 D (.lst (acc++[y]))) else Pv (i+1) H3) (hd:∀ H,Pv (min xs.length ys.length) H→Qd H) :
  ∃ W:Nat→Nat→Hp→Prop,(∃ m,W 0 m (upd H1 D (.lst [])))∧∀ i m H,W i m H →
   ((Itz K a b).stop i H∧Qd H)∨((Itz K a b).go i H∧∃ Nx:Hp→Prop,(∀ H',Nx H'→∃ m',m'<m∧W (i+1) m' H')∧∀ x H',(Itz K a b).yld i H x H'→g x (vV σ vs) H' fun σ2 H2=>vV σ2 vs=vV σ vs∧tt σ2 H2 fun c H3 =>
    if c=true then te σ2 H3 fun y H4=>∃ acc,H4 D=some (.lst acc)∧acc.length<sizeLine∧Nx (upd H4 D (.lst (acc++[y]))) else Nx H3):=by
 refine⟨fun i m H=>m=min xs.length ys.length-i∧i≤min xs.length ys.length∧Pv i H,⟨min xs.length ys.length,rfl,zero_le _,h0⟩,?_⟩;rintro i m H ⟨rfl,hi,p⟩;obtain⟨q1,q2⟩:=hl i H p;by_cases hlt:i<min xs.length ys.length
 ·have l1:i<xs.length:=by omega
  have l2:i<ys.length:=by omega
  refine .inr ⟨⟨xs,ys,xs[i],ys[i],q1,q2,getElem?_eq_getElem l1,getElem?_eq_getElem l2⟩,Pv (i+1),fun H' p'=>⟨min xs.length ys.length-(i+1),by omega,rfl,hlt,p'⟩,?_⟩;rintro x H' ⟨T,y1,y2,rfl,hT,rfl,e1,e2⟩;exact hs i y1 y2 H T (e1 xs q1) (e2 ys q2) p hT
 ·have e:i=min xs.length ys.length:=by omega
  subst e;exact .inl ⟨⟨xs,ys,q1,q2,by omega⟩,hd H p⟩
theorem zJ7 (xs:List V) (k:Nat):zKk xs (some (k:Int)) none=xs.drop k:=by
 unfold zKk;rw [HT.sIx_nat,HT.sIx_none];by_cases h:k≤xs.length
 ·rw [Nat.min_eq_left h];exact take_of_length_le (by rw [length_drop];exact le_refl _)
 ·rw [Nat.min_eq_right (by omega),List.drop_of_length_le (le_refl _),List.drop_of_length_le (by omega),List.take_nil]
end L2
namespace Mb
open PySem PySem.Spec PyProof.Rows L2
def zBd (now:Nat) (l:List (Nat×Nat)):List (Int×Int):=List.zipWith (fun(m:Nat×Nat) (e:Nat)=>((m.2:Int),(e:Int)-(m.1:Int))) l (l.tail.map (·.1)++[now])
theorem zAb (now:Nat) (l:List (Nat×Nat)) (h0:l≠[]) (h1:(l.map (·.1)).Pairwise (·≤·)) (h2:∀ p∈l,p.1≤now):zBd now l=(Vbdeai.spans now l).map fun s=>((s.1:Int),(s.2:Int)):=(zFF now l h0 h1 h2).symm
section
variable {P:Program}{w:World}{K:W.Frag}{mg:Str→Option Value}{base:Heap}{CM:Addr}
def Prs (H:Hp) (ys:List V) (l:List (Int×Int)):Prop:=Paired (fun(y:V) (s:Int×Int)=>zA8 H y s.1 s.2) ys l
theorem Prs.keep {H H':Hp}{ys:List V}{l:List (Int×Int)}(h:Prs H ys l) (t:jd H H'):Prs H' ys l:=Paired.mapP h fun _ _ q=>q.keep t
theorem Kp.none {S:List Addr}{H H':Hp}(k:Kp S H H'){z:Addr}(hz:H' z=none) (n:z∉S):H z=none:=by
 cases e:H z with
 | none=>rfl
 | some o=>rw [k _ _ e n] at hz;cases hz
def zCb (CM:Addr):Sp:=fun vs H Q _=>∃ (a dx g l:Addr) (lo co be en ea la ul:Int) (now:Nat) (xs:List V) (m:List (Nat×Nat)),vs=[.ref a,.int now]∧H a=some (.ins CM dx (mf g l lo co be en ea la ul))∧H l=some (.lst xs)∧zLX H xs m∧m≠[]∧m.length<1000 ∧
 ∀ H' p ys,H' p=some (.lst ys)→H p=none→Prs H' ys (zBd now m)→Kp [] H H'→Q (.ref p) H'
end
end Mb
namespace L2
open PySem PyProof.Rows
section sim
variable {M:Model}{Γ:Ctx}{kd:SortKind}{s s':Shared}
def Sim (M:Model) (Γ:Ctx) (kd:SortKind) (s s':Shared){α:Type}(m:StateT SortSt Sem α):Prop :=
 ∀ (st:SortSt) (R:α×SortSt→Shared→Prop) (p p':Pos),kindOf st=kd→Sem.wp M Γ (m.run st) (fun r _ s1=>R r s1) (fun _ _ _=>False) p' s' →
  Sem.wp M Γ (m.run st) (fun r _ s1=>s1=s∧kindOf r.2=kd∧R r s') (fun _ _ _=>False) p s
theorem yq {α:Type}(a:α):Sim M Γ kd s s' (pure a:StateT SortSt Sem α):=by
 intro st R p p' hk h;rw [StateT.run_pure] at h ⊢;exact⟨rfl,hk,h⟩
theorem zFm {α β:Type}{m:StateT SortSt Sem α}{f:α→StateT SortSt Sem β}(Z:α→Prop) (hm:∀ (st:SortSt) (R:α×SortSt→Shared→Prop) (p p':Pos),kindOf st=kd→Sem.wp M Γ (m.run st) (fun r _ s1=>R r s1) (fun _ _ _=>False) p' s' →
  Sem.wp M Γ (m.run st) (fun r _ s1=>s1=s∧kindOf r.2=kd∧Z r.1∧R r s') (fun _ _ _=>False) p s) (hf:∀ a,Z a→Sim M Γ kd s s' (f a)):Sim M Γ kd s s' (m >>= f):=by
 intro st R p p' hk h;rw [StateT.run_bind,Sem.wp_bind'] at h ⊢
 have h1:Sem.wp M Γ (m.run st) (fun r _ s1=>∃ p1,Sem.wp M Γ ((f r.1).run r.2) (fun r _ s1=>R r s1) (fun _ _ _=>False) p1 s1) (fun _ _ _=>False) p' s' :=
  Sem.wp_mono M Γ _ (fun x pos sh q=>⟨pos,q⟩) (fun _ _ _ q=>q) _ _ h
 refine Sem.wp_mono M Γ _ (fun x pos sh q=>?_) (fun _ _ _ q=>q) _ _ (hm st (fun r s1=>∃ p1,Sem.wp M Γ ((f r.1).run r.2) (fun r _ s1=>R r s1) (fun _ _ _=>False) p1 s1) p p' hk h1);obtain⟨rfl,hk',hz,p1,q⟩:=q;exact hf x.1 hz x.2 R pos p1 hk' q
theorem yB {α β:Type}{m:StateT SortSt Sem α}{f:α→StateT SortSt Sem β}(hm:Sim M Γ kd s s' m) (hf:∀ a,Sim M Γ kd s s' (f a)):Sim M Γ kd s s' (m >>= f) :=
 zFm (fun _=>True) (fun st R p p' hk h=>Sem.wp_mono M Γ _ (fun x pos sh q=>⟨q.1,q.2.1,trivial,q.2.2⟩) (fun _ _ _ q=>q) _ _ (hm st R p p' hk h)) fun a _=>hf a
theorem zEh {β:Type}{f:SortSt→StateT SortSt Sem β}(hf:∀ a,kindOf a=kd→Sim M Γ kd s s' (f a)):Sim M Γ kd s s' (get >>= f):=by
 refine zFm (fun a=>kindOf a=kd) (fun st R p p' hk h=>?_) hf;rw [StateT.run_get] at h ⊢;exact⟨rfl,hk,hk,h⟩
theorem yW {f:SortSt→SortSt}(hf:∀ st,kindOf (f st)=kindOf st):Sim M Γ kd s s' (modify f:StateT SortSt Sem PUnit):=by
 intro st R p p' hk h;rw [StateT.run_modify] at h ⊢;exact⟨rfl,(hf st).trans hk,h⟩
theorem zNS {st':SortSt}(hs:kindOf st'=kd):Sim M Γ kd s s' (set st':StateT SortSt Sem PUnit):=by
 intro st R p p' hk h;rw [StateT.run_set] at h ⊢;exact⟨rfl,hs,h⟩
theorem zEi {α:Type}{t:Sem α}(ht:∀ (R:α→Shared→Prop) (p p':Pos),Sem.wp M Γ t (fun r _ s1=>R r s1) (fun _ _ _=>False) p' s'→Sem.wp M Γ t (fun r _ s1=>s1=s∧R r s') (fun _ _ _=>False) p s):Sim M Γ kd s s' (liftM t:StateT SortSt Sem α):=by
 intro st R p p' hk h;have h:Sem.wp M Γ ((StateT.lift t:StateT SortSt Sem α).run st) (fun r _ s1=>R r s1) (fun _ _ _=>False) p' s':=h;show Sem.wp M Γ ((StateT.lift t:StateT SortSt Sem α).run st) _ (fun _ _ _=>False) p s;rw [StateT.run_lift,Sem.wp_bind'] at h ⊢;refine Sem.wp_mono M Γ _ (fun x pos sh q=>?_) (fun _ _ _ q=>q) _ _ (ht (fun r s1=>R (r,st) s1) p p' h);exact⟨q.1,hk,q.2⟩
theorem zLa (tag:String):Sim M Γ kd s s' (liftM (rule tag):StateT SortSt Sem Unit):=zEi fun R p p' h=>⟨rfl,h⟩
theorem xa {α:Type}(x:String):Sim M Γ kd s s' (liftM (unsupported x:Sem α):StateT SortSt Sem α):=zEi fun R p p' h=>h.elim
theorem zB6 (arr:Array Keyed) (i:Nat):Sim M Γ kd s s' (elem' arr i):=by
 rw [elem'_eq];split
 ·exact yq _
 ·exact xa _
theorem zHr {β:Type}{f:Nat→β→StateT SortSt Sem (ForInStep β)}(hf:∀ x b,Sim M Γ kd s s' (f x b)):∀ (l:List Nat) (b:β),Sim M Γ kd s s' (forIn l b f)
 | [],b=>by rw [forIn_nil];exact yq _
 | x::l,b=>by
  rw [forIn_cons];refine yB (hf x b) fun r=>?_
  cases r with
  | done c=>exact yq _
  | yield c=>exact zHr hf l c
theorem zJ8 {β:Type}{i j:Nat}{f:Nat→β→StateT SortSt Sem (ForInStep β)}(hf:∀ x b,Sim M Γ kd s s' (f x b)) (b:β):Sim M Γ kd s s' (forIn [i:j] b f):=by
 rw [Std.Legacy.Range.forIn_eq_forIn_range'];exact zHr hf _ b
def zCc (M:Model) (Γ:Ctx) (kd:SortKind) (s s':Shared):Prop:=∀ (x y:Value) (R:Bool→Shared→Prop) (E:Value→Pos→Shared→Prop) (p p':Pos),Sem.wp M Γ (keyLt' kd x y) (fun r _ s1=>R r s1) E p' s' →
 Sem.wp M Γ (keyLt' kd x y) (fun r _ s1=>s1=s∧R r s') (fun _ _ _=>False) p s
theorem zFn (hL:zCc M Γ kd s s') (x y:Keyed):Sim M Γ kd s s' (lt' x y):=by
 rw [lt'_eq];refine zEh fun a ha=>?_;rw [ha];refine yB (zEi fun R p p' h=>?_) fun r=>?_
 ·rw [Sem.wp_attempt] at h ⊢;exact Sem.wp_mono M Γ _ (fun _ _ _ q=>q) (fun _ _ _ q=>q.elim) _ _ (hL x.1 y.1 (fun b s1=>R (.ok b) s1) _ p p' h)
 ·cases r with
  | ok b=>exact yq _
  | error e=>exact yB (yW fun _=>rfl) fun _=>yq _
theorem zHs (hL:zCc M Γ kd s s') (i j:Nat):Sim M Γ kd s s' (ltAt' i j):=by
 rw [ltAt'_eq];refine zEh fun a _=>?_;exact yB (zB6 _ _) fun x=>yB (zB6 _ _) fun y=>zFn hL x y
theorem zNT (i j:Nat):Sim M Γ kd s s' (reverseSlice' i j):=by
 rw [reverseSlice'_eq];exact yW fun _=>rfl
theorem zLb (i j:Nat):Sim M Γ kd s s' (moveDown' i j):=by
 rw [moveDown'_eq];exact yW fun _=>rfl
theorem zNU (g:Nat):Sim M Γ kd s s' (setMinGallop' g):=by
 rw [setMinGallop'_eq];exact yW fun _=>rfl
end sim
end L2
namespace L2
open PySem PyProof.Rows
theorem zNV {M:Model}{Γ:Ctx}{kd:SortKind}{s s':Shared}{α:Type}{c:Prop} [Decidable c] {a b:StateT SortSt Sem α}(ha:Sim M Γ kd s s' a) (hb:Sim M Γ kd s s' b):Sim M Γ kd s s' (if c then a else b):=by
 by_cases h:c
 ·rw [if_pos h];exact ha
 ·rw [if_neg h];exact hb
local macro_rules | `(tactic| trivial) => `(tactic| (first
 | with_reducible exact yq _
 | with_reducible exact zLa _
 | with_reducible exact xa _
 | with_reducible exact zB6 _ _
 | with_reducible exact zNT _ _
 | with_reducible exact zLb _ _
 | with_reducible exact zNU _
 | (with_reducible refine yW ?_;intro _;rfl)
 | (with_reducible refine zEh fun _ hk=>?_)
 | (with_reducible refine yB ?_ fun _=>?_)
 | (with_reducible refine zJ8 (fun _ _=>?_) _)
 | (with_reducible refine zNV ?_ ?_)
 | (dsimp only)
 | split))
section sim
variable {M:Model}{Γ:Ctx}{kd:SortKind}{s s':Shared}
theorem zFo (hL:zCc M Γ kd s s') (lo nrem:Nat):Sim M Γ kd s s' (countRun' lo nrem):=by
 have h1:=fun i j=>zHs hL i j;rw [countRun'_eq]
 repeat' (first | with_reducible exact h1 _ _ | trivial)
theorem zDM (hL:zCc M Γ kd s s') (lo n ok:Nat):Sim M Γ kd s s' (binarySort' lo n ok):=by
 have h1:=fun i j=>zHs hL i j;rw [binarySort'_eq]
 repeat' (first | with_reducible exact h1 _ _ | trivial)
theorem zIf (hL:zCc M Γ kd s s') (left:Bool) (key:Keyed) (arr:Array Keyed) (b i:Nat):Sim M Γ kd s s' (beyond' left key arr b i):=by
 unfold beyond';refine yB (zB6 _ _) fun x=>?_;split
 ·exact zFn hL _ _
 ·exact yB (zFn hL _ _) fun r=>yq _
theorem zBB (hL:zCc M Γ kd s s') (left:Bool) (key:Keyed) (arr:Array Keyed) (b n hint:Nat):Sim M Γ kd s s' (gallop' left key arr b n hint):=by
 have h1:=fun i=>zIf hL left key arr b i;rw [gallop'_eq]
 repeat' (first | with_reducible exact h1 _ | trivial)
theorem zGr (hL:zCc M Γ kd s s') (a b:Array Keyed):Sim M Γ kd s s' (mergeLo' a b):=by
 have h1:=fun x y=>zFn hL x y;have h2:=fun l k a b n h=>zBB hL l k a b n h;rw [mergeLo'_eq]
 repeat' (first | with_reducible exact h1 _ _ | with_reducible exact h2 _ _ _ _ _ _ | trivial)
theorem zGs (hL:zCc M Γ kd s s') (a b:Array Keyed):Sim M Γ kd s s' (mergeHi' a b):=by
 have h1:=fun x y=>zFn hL x y;have h2:=fun l k a b n h=>zBB hL l k a b n h;rw [mergeHi'_eq]
 repeat' (first | with_reducible exact h1 _ _ | with_reducible exact h2 _ _ _ _ _ _ | trivial)
theorem zGt (hL:zCc M Γ kd s s') (i:Nat):Sim M Γ kd s s' (mergeAt' i):=by
 have h1:=fun a b=>zGr hL a b;have h2:=fun a b=>zGs hL a b;have h3:=fun l k a b n h=>zBB hL l k a b n h;rw [mergeAt'_eq];refine zEh fun a ha=>?_;have hs:∀ p,Sim M Γ kd s s' (set (setPending a p):StateT SortSt Sem PUnit):=fun p=>zNS ha
 repeat' (first | with_reducible exact h1 _ _ | with_reducible exact h2 _ _ | with_reducible exact h3 _ _ _ _ _ _ | with_reducible exact hs _ | trivial)
theorem zFp (hL:zCc M Γ kd s s'):Sim M Γ kd s s' sortRuns':=by
 have h1:=fun a b=>zFo hL a b;have h2:=fun a b c=>zDM hL a b c;have h3:=fun i=>zGt hL i;rw [sortRuns'_eq]
 repeat' (first | with_reducible exact h1 _ _ | with_reducible exact h2 _ _ _ | with_reducible exact h3 _ | trivial)
end sim
end L2
namespace L2
open PySem PySem.Spec PyProof.Rows
section
variable {X:Cx}
theorem zNW:PIp X .Mult (fun x y H Q=>∃ i j,x = .int i∧y = .int j∧IntMulOk i j∧Q (.int (i*j)) H):=by
 rintro pins s σ H x y v u Q I r1 r2 ⟨i,j,rfl,rfl,hm,q⟩;obtain⟨t,rfl⟩:=r1;obtain⟨t',rfl⟩:=r2;exact imul_int ⟨.int _,H,I.tok _,⟨_,rfl⟩,q⟩ hm
theorem zHt:zPw X (zPa X.K):=by
 rintro pins s σ H x y v u Q I rx ry ⟨p,xs,i,z,rfl,rfl,hq,he,q⟩
 cases rx
 obtain⟨t,rfl⟩:=ry;obtain⟨its,r,pl,hz⟩:=I.list hq;obtain⟨j,h1,h2,h3,h4,h5⟩:=zEP he;obtain⟨w,ew,rw'⟩:=r.get h2;have hl:=r.length;have hn:=zCO;have fin:EP X pins σ Q w s:=⟨z,H,I,rw',q⟩;by_cases h0:0≤i
 ·have hj:i.toNat=j:=by
   rw [seqIndex_of h0 h5] at h1;exact Option.some.inj h1
  exact wpAny_getItem_list pl.isList h0 (by omega) (by rw [hj];simpa using ew) fin
 ·have hj:(i+(its.toArray.size:Int)).toNat=j:=by
   rw [seqIndex_neg (by omega) h4] at h1;rw [size_toArray,← hl];exact Option.some.inj h1
  exact wpAny_getItem_list_neg pl.isList (by omega) (by rw [size_toArray]<;>omega) (by omega) (by rw [hj];simpa using ew) fin
def zPn (K:W.Frag) (ta:TE):TT:=fun σ H Q=>ta σ H fun x H'=>∃ k,zPW K x H' k∧Q k H'
theorem zCd (K:W.Frag) (h:X.K=K){a:Expr}{ta:TE}(ha:PE X a ta) (he:∀ whole,isTrue a X.env whole=(do let v ← whole;standAt a.pos;holding [v] (truthy v))):PT X a (zPn K ta):=by
 subst h;exact vU ha he
theorem zLc {c:Expr}{t:TT}{pos:Pos}(h:PT X c t):PTs X [.UnaryOp .Not c pos] (zPu t):=zCW (zHc h)
theorem zNX (K:W.Frag) (h:X.K=K) (hu:X.A.units+64<cLine):OpR X (compareOp .Eq) (zP2 K):=h▸zJf hu
def zLd:List V→Hp→VK→Prop:=fun vs H Q=>∃ (a:Addr) (kvs:List (Key×V)) (ns:List Int),vs=[V.ref a]∧H a=some (.dK kvs)∧kvs.map (·.1)=ns.map Sum.inl ∧
 ∀ (ns':List Int) (p:Addr),ns'.Perm ns→ns'.Pairwise (·≤·)→H p=none→Q (.ref p) (upd H p (.lst (ns'.map V.int)))
theorem zFq {P:Program}{w:World}:∀ {vs:List (Key×Value)}{acc:List Value}{ns:List Int},acc.length=vs.length→vs.map (·.1)=ns.map Sum.inl→(∀ (j:Nat) (v:Value),acc[j]? = some v→∃ k x,vs[j]? = some (k,x)∧(jE P w).is k v=true)→IntsAre acc ns
 | [],[],[],_,_,_ => .nil
 | [],[],_::_,_,h,_=>(nomatch h)
 | [],_::_,_,h,_,_=>(nomatch h)
 | _::_,[],_,h,_,_=>(nomatch h)
 | _::_,_::_,[],_,h,_=>(nomatch h)
 | (k,x)::vs,a::acc,n::ns,hl,hk,hp=>by
  rw [map_cons,map_cons] at hk
  injection hk with hk1 hk2
  obtain⟨k',x',e,hi⟩:=hp 0 a rfl
  injection e with e
  injection e with e1 e2
  subst e1;have hk1:k=Sum.inl n:=hk1;subst hk1;have hi':zDH (Sum.inl n) a=true:=hi
  rcases jT hi' with ⟨i,t,e1,rfl⟩ | ⟨z,t,e1,_⟩
  ·injection e1 with e1
   subst e1
   exact .cons _ t (zFq (Nat.succ.inj hl) hk2 fun j v hv=>by
    obtain⟨k',x',e,hi⟩:=hp (j+1) v (List.getElem?_cons_succ.trans hv);exact⟨k',x',List.getElem?_cons_succ.symm.trans e,hi⟩)
  ·cases e1
theorem zIg (hc:X.calm=true):zBm X (.builtin "sorted") zLd:=by
 rintro pins s σ H vs us Q I r ⟨a,kvs,ns,rfl,ha,hk,q⟩;rw [zt.ref1 r];obtain⟨hz,hd,dvs,rel,dd⟩:=zEX I.hok (.inl ha);obtain⟨ep,hat⟩:=dd.dictAt;have hlen:dvs.length=kvs.length:=(Paired.length rel).symm
 have hkeys:dvs.map (·.1)=ns.map Sum.inl:=by
  rw [← hk];clear hk q dd hat hlen hz ha
  induction rel with
  | nil=>rfl
  | cons h t ih=>rw [map_cons,map_cons,ih,h.1]
 refine Calls.call_function_entry kind_sorted plain_sorted entry_sorted (args_sorted1 _) ?_;unfold Builtin.«sorted»;refine wpAny_bind (m:=checkCount "sorted" 1 1 _) (wpAny_pure ?_);refine wpAny_bind (W.kdu_collect (A:=X.A.in1) (W.kdl_dict (knd:=jE X.prog X.w) (kvs:=dvs) (ep:=ep) hd) (I.ok.hd hc) hat (by rw [hlen];exact hz) fun h' tk acc keep hacc=>?_)
 have hl:acc.toList.length=dvs.length:=by rw [Array.length_toList];exact hacc.1
 have hI:IntsAre acc.toList ns:=zFq (P:=X.prog) (w:=X.w) hl hkeys fun j v e=>hacc.2 j v (by rw [← Array.getElem?_toList];exact e)
 have hL:acc.toList.length≤sizeLine:=by rw [hl,hlen];exact hz
 refine wpAny_bind (wpAny_newList ?_ hL);have hob:(h'.push (seqObj "list" acc.toList.toArray 0)).get? h'.objs.size=some (seqObj "list" acc.toList.toArray 0):=Heap.get?_push_size _ rfl;refine wpAny_bind (wpAny_holding (wpAny_call_entry slot_list_sort ⟨_,hob,rfl⟩ entry_list_sort (list_sort_treeAny hob hI hL fun out ns' h1 h2 h3=>⟨_,rfl,?_⟩) (args_list_sort _)));refine wpAny_pure ⟨_,rfl,?_⟩;obtain⟨ep',he'⟩:=sortedHeap_at (vs:=acc.toList) (out:=out) hob
 have hlen':(ns'.map V.int).length≤sizeLine:=by rw [length_map,h2.length_eq,← hI.length];exact hL
 have I1:Inv X pins σ H { s with heap:=h',toks:=tk }:=I.kept keep;refine⟨.ref h'.objs.size,upd H h'.objs.size (.lst (ns'.map V.int)),I1.laid (t':=tk) (fun b o hb=>?_) (le_refl _) ⟨hlen',out.toList,ep',zBY h1,he'⟩,rfl,q ns' _ h2 h3 I1.fresh⟩;have hlt:=Heap.lt_size hb;rw [sortedHeap_old (ne_of_lt hlt) (by rw [size_push'];exact lt_succ_of_lt hlt),Heap.get?_push_of_some _ hb]
end
end L2
namespace Mb
open PySem PySem.Spec PyProof.Rows L2
theorem wj {β γ:Type}(f:β→Option γ){m:List β}{i:Nat}{b:β}(h:m[i]? = some b):(m.take (i+1)).filterMap f=(m.take i).filterMap f++(f b).toList:=by
 rw [take_succ,h,List.filterMap_append];congr 1
theorem zGu {β:Type}(f:β→Option Int) (m:List β):m.filterMap (fun b=>(f b).map V.int)=(m.filterMap f).map V.int:=(List.map_filterMap).symm
theorem zHu {β:Type}(c:β→Bool) (f:β→Int):∀ m:List β,(m.filterMap fun b=>if c b=true then some (f b) else none).sum=(m.map fun b=>if c b=true then f b else 0).sum
 | []=>rfl
 | b::m=>by
  rw [filterMap_cons,map_cons,sum_cons,← zHu c f m];by_cases h:c b=true
  ·rw [if_pos h,if_pos h];exact sum_cons
  ·rw [if_neg h,if_neg h,Int.zero_add]
theorem zJ9 {α:Type}{f:α→V}:∀ m:List α,Paired (fun(x:V) (c:α)=>x=f c) (m.map f) m
 | [] => .nil
 | _::m => .cons rfl (zJ9 m)
theorem zCe {α β:Type}(p:α→Bool){f:α→β}:∀ m:List α,(m.filterMap fun c=>if p c=true then some (f c) else none)=(m.filter p).map f
 | []=>rfl
 | c::m=>by
  rw [filterMap_cons,filter_cons];by_cases h:p c=true
  ·rw [if_pos h,if_pos h,map_cons,← zCe p m]
  ·rw [if_neg h,if_neg h,← zCe p m]
theorem zDw {α β:Type}{f g:α→List β}:∀ {m:List α},(∀ c∈m,f c=g c)→m.flatMap f=m.flatMap g
 | [],_=>rfl
 | c::m,h=>by rw [flatMap_cons,flatMap_cons,h c mem_cons_self,zDw fun d hd=>h d (mem_cons_of_mem _ hd)]
theorem zCf {α β γ:Type}{F:α→β→Prop}{G:α→γ→Prop}{f:β→γ}{l:List α}{m:List β}(h:Paired F l m) (e:∀ a b,F a b→G a (f b)):Paired G l (m.map f):=by
 induction h with
 | nil=>exact .nil
 | cons r t ih=>exact .cons (e _ _ r) ih
theorem zHv {α β γ:Type}{F:α→β→Prop}{G:α→γ→Prop}{f:β→γ}:∀ {l:List α}{m:List β},Paired G l (m.map f)→(∀ a b,G a (f b)→F a b)→Paired F l m
 | [],[],_,_ => .nil
 | [],_::_,h,_=>(nomatch h)
 | _::_,[],h,_=>(nomatch h)
 | _::_,_::_,.cons r t,e => .cons (e _ _ r) (zHv t e)
theorem yM {K:W.Frag}{a D:Addr}{xs:List V}{β:Type}{m:List β}{F:V→β→Prop}{g:TG}{tt:TT}{te:TE}{vs:List Nat}{σ:L2.St}{H1:Hp}{Qd:Hp→Prop}(val:β→Option V) (hl:H1 a=some (.lst xs)) (hM:Paired F xs m) (hn:m.length<1000) (hD:H1 D=none)
  (hs:∀ x b H',F x b→b∈m→Kp [] H1 H'→∀ (Yes:V→Hp→Prop) (No:Hp→Prop),(∀ y,val b=some y→Yes y H')→(val b=none→No H')→g x (vV σ vs) H' fun σ2 H2=>vV σ2 vs=vV σ vs∧tt σ2 H2 fun c H3=>if c=true then te σ2 H3 Yes else No H3)
  (hd:∀ H',H' D=some (.lst (m.filterMap val))→Kp [] H1 H'→Qd H') :
  ∃ W:Nat→Nat→Hp→Prop,(∃ m,W 0 m (upd H1 D (.lst [])))∧∀ i m H,W i m H →
   ((Itl K a).stop i H∧Qd H)∨((Itl K a).go i H∧∃ Nx:Hp→Prop,(∀ H',Nx H'→∃ m',m'<m∧W (i+1) m' H')∧∀ x H',(Itl K a).yld i H x H'→g x (vV σ vs) H' fun σ2 H2=>vV σ2 vs=vV σ vs∧tt σ2 H2 fun b H3 =>
    if b=true then te σ2 H3 fun y H4=>∃ acc,H4 D=some (.lst acc)∧acc.length<sizeLine∧Nx (upd H4 D (.lst (acc++[y]))) else Nx H3):=by
 have lx:xs.length=m.length:=jK hM;refine zA3 (K:=K) (a:=a) (xs:=xs) (fun i H'=>H' D=some (.lst ((m.take i).filterMap val))∧Kp [] H1 H') ?_ ?_ ?_ ?_
 ·exact⟨zA,Kp.refl.upd (.inr hD)⟩
 ·rintro i H' _ ⟨_,h⟩;exact SqL.of (h _ _ hl (by simp))
 ·rintro i x H' hi ⟨h1,h2⟩;obtain⟨b,hb,f⟩:=vG hM hi;refine hs x b H' f (List.mem_of_getElem? hb) h2 _ _ (fun y hy=>⟨_,h1,?_,?_,h2.upd (.inr hD)⟩) fun hy=>⟨?_,h2⟩
  ·have l1:((m.take i).filterMap val).length≤(m.take i).length:=List.length_filterMap_le _ _;rw [length_take] at l1;exact zb (by omega)
  ·rw [zA,wj val hb,hy];rfl
  ·rw [h1,wj val hb,hy,Option.toList_none,append_nil]
 ·rintro H' ⟨h1,h2⟩;rw [lx,take_length] at h1;exact hd H' h1 h2
theorem zHw {K:W.Frag}{a D:Addr}{xs:List V}{β:Type}{m:List β}{F:V→β→Prop}{g:TG}{tt:TT}{te:TE}{vs:List Nat}{σ:L2.St}{H1:Hp}{Qd:Hp→Prop}(ob:β→HO) (hl:H1 a=some (.lst xs)) (hM:Paired F xs m) (hn:m.length<1000) (hD:H1 D=none)
  (hs:∀ x b H',F x b→b∈m→Kp [] H1 H'→∀ (Yes:V→Hp→Prop) (No:Hp→Prop),(∀ p,H' p=none→Yes (.ref p) (upd H' p (ob b)))→g x (vV σ vs) H' fun σ2 H2=>vV σ2 vs=vV σ vs∧tt σ2 H2 fun c H3=>if c=true then te σ2 H3 Yes else No H3)
  (hd:∀ H' ys,H' D=some (.lst ys)→Paired (fun y b=>∃ p,y = .ref p∧H' p=some (ob b)) ys m→Kp [] H1 H'→Qd H') :
  ∃ W:Nat→Nat→Hp→Prop,(∃ m,W 0 m (upd H1 D (.lst [])))∧∀ i m H,W i m H →
   ((Itl K a).stop i H∧Qd H)∨((Itl K a).go i H∧∃ Nx:Hp→Prop,(∀ H',Nx H'→∃ m',m'<m∧W (i+1) m' H')∧∀ x H',(Itl K a).yld i H x H'→g x (vV σ vs) H' fun σ2 H2=>vV σ2 vs=vV σ vs∧tt σ2 H2 fun b H3 =>
    if b=true then te σ2 H3 fun y H4=>∃ acc,H4 D=some (.lst acc)∧acc.length<sizeLine∧Nx (upd H4 D (.lst (acc++[y]))) else Nx H3):=by
 have lx:xs.length=m.length:=jK hM;refine zA3 (K:=K) (a:=a) (xs:=xs) (fun i H'=>∃ ys,H' D=some (.lst ys)∧Paired (fun y b=>∃ p,y = .ref p∧H' p=some (ob b)∧p≠D) ys (m.take i)∧Kp [] H1 H') ?_ ?_ ?_ ?_
 ·exact⟨[],zA,.nil,Kp.refl.upd (.inr hD)⟩
 ·rintro i H' _ ⟨_,_,_,h⟩;exact SqL.of (h _ _ hl (by simp))
 ·rintro i x H' hi ⟨ys,h1,h3,h2⟩;obtain⟨b,hb,f⟩:=vG hM hi;have li:i<m.length:=(List.getElem?_eq_some_iff.mp hb).1
  have ly:ys.length<1000:=by
   have:=jK h3;rw [length_take] at this;omega
  refine hs x b H' f (List.mem_of_getElem? hb) h2 _ _ fun p hp=>⟨ys,?_,zb (le_of_lt ly),_,zA,?_,(h2.upd (.inr (h2.none hp (by simp)))).upd (.inr hD)⟩
  ·rw [zD (zF h1 hp)];exact h1
  ·have nD:p≠D:=fun z=>by rw [z,h1] at hp;cases hp
   rw [take_succ,hb];refine zAX (Paired.mapP h3 fun y c=>?_) (.cons ⟨p,rfl,?_,nD⟩ .nil)
   ·rintro⟨q,rfl,hq,nq⟩;refine⟨q,rfl,?_,nq⟩;rw [zD nq,zD (zF hq hp)];exact hq
   ·rw [zD nD,zA]
 ·rintro H' ⟨ys,h1,h3,h2⟩;rw [lx,take_length] at h3;exact hd H' ys h1 (Paired.mapP h3 fun y b=>by rintro⟨p,e,hp,_⟩;exact⟨p,e,hp⟩) h2
end Mb
namespace Mb
open PySem PySem.Spec PyProof.Rows L2
structure TX (K:W.Frag) (mg:Str→Option Value) (CB CM CT:Addr):Prop extends TxM K CM where
 clBook:Cls K CB
 b1:zZ K CB "clock"
 b2:zZ K CB "reset_time"
 b3:zZ K CB "meters"
 b4:zZ K CB "tables"
 b5:zZ K CB "lines"
 clTable:Cls K CT
 t1:zZ K CT "class_count"
 t2:zZ K CT "first_bound"
 t3:zZ K CT "width"
 t4:zZ K CT "tallies"
 cDONE:we mg "DONE" 0
 cOUT_OF_RANGE:we mg "OUT_OF_RANGE" (-1)
 cBEFORE_CLOCK:we mg "BEFORE_CLOCK" (-3)
 cWRONG_PARTNER:we mg "WRONG_PARTNER" (-4)
 cFULL:we mg "FULL" (-5)
 cNOT_LOOSE:we mg "NOT_LOOSE" (-6)
 cTOO_FINE:we mg "TOO_FINE" (-7)
 cNO_LIKE_TABLE:we mg "NO_LIKE_TABLE" (-8)
 cNO_TALLIES:we mg "NO_TALLIES" (-10)
 cQUANTILE:we mg "QUANTILE" 17
 cMOST_GUESTS:we mg "MOST_GUESTS" 300
 cFINEST_DENOMINATOR:we mg "FINEST_DENOMINATOR" 1000
 cMETER_COUNT:we mg "METER_COUNT" 256
 cTABLE_COUNT:we mg "TABLE_COUNT" 64
 cVALUE_COUNT:we mg "VALUE_COUNT" 64
 n_len:mg "len"=none
 n_abs:mg "abs"=none
 n_zip:mg "zip"=none
 n_range:mg "range"=none
 n_sum:mg "sum"=none
 n_max:mg "max"=none
 n_min:mg "min"=none
 n_sorted:mg "sorted"=none
 n_list:mg "list"=none
 n_enumerate:mg "enumerate"=none
section
variable {c s y:Int}{lm lt ll z:Addr}
theorem bf1:(bf c s lm lt ll).lookup ("clock":Str)=some (.int c):=rfl
theorem bf2:(bf c s lm lt ll).lookup ("reset_time":Str)=some (.int s):=rfl
theorem bf3:(bf c s lm lt ll).lookup ("meters":Str)=some (.ref lm):=rfl
theorem bf4:(bf c s lm lt ll).lookup ("tables":Str)=some (.ref lt):=rfl
theorem bf5:(bf c s lm lt ll).lookup ("lines":Str)=some (.ref ll):=rfl
theorem bn1:(bf c s lm lt ll).lookup ("renew":Str)=none:=rfl
theorem bp1:jx "clock" (.int y) (bf c s lm lt ll)=bf y s lm lt ll:=rfl
theorem bp2:jx "reset_time" (.int y) (bf c s lm lt ll)=bf c y lm lt ll:=rfl
theorem bp5:jx "lines" (.ref z) (bf c s lm lt ll)=bf c s lm lt z:=rfl
end
section
variable {g l z:Addr}{lo co be en ea la ul y:Int}
theorem mn2:(mf g l lo co be en ea la ul).lookup ("admit":Str)=none:=rfl
theorem mn3:(mf g l lo co be en ea la ul).lookup ("dismiss":Str)=none:=rfl
theorem mn4:(mf g l lo co be en ea la ul).lookup ("shift_loose":Str)=none:=rfl
theorem mn5:(mf g l lo co be en ea la ul).lookup ("note_anew":Str)=none:=rfl
theorem mn7:(mf g l lo co be en ea la ul).lookup ("is_live":Str)=none:=rfl
theorem mn6:(mf g l lo co be en ea la ul).lookup ("spans":Str)=none:=rfl
end
theorem zNY (T0:Nat) (v:Meter) (e:Vbdeai.Ev) (ins:List Stay) (lo:Nat) (hE:zMe v.base v.evs.reverse=content v) :
  tl T0 { v with ins:=ins,loose:=lo,evs:=e::v.evs }=tl T0 v++[(e.time,zA0 (content v) e)]:=by
 unfold tl;show(T0,v.base)::contents v.base (e::v.evs).reverse=_;rw [zHO,zAM,hE];rfl
theorem wk (T0:Nat) (v:Meter):(tl T0 v).length=v.evs.length+1:=by
 have:∀ (l:List Vbdeai.Ev) (c:Nat),(contents c l).length=l.length:=by
  intro l
  induction l with
  | nil=>intro c;rfl
  | cons e l ih =>
   intro c;show(contents _ l).length+1=_;rw [ih];rfl
 unfold tl;rw [length_cons,this,length_reverse]
theorem zKA (g l:Addr) (v:Meter) (t x u:Nat) (hx:1≤x) :
  zEd g l { v with ins:=v.ins++[⟨x,u,t⟩],evs:=⟨t,true,x,u,t⟩::v.evs }=mf g l v.loose ((content v:Nat)+(u:Int)) ((begun v:Nat)+1) (ended v).length (zeros v) (stays v) (unitStays v):=by
 have e1:=zEE v ⟨t,true,x,u,t⟩ (v.ins++[⟨x,u,t⟩]) v.loose;rw [if_neg (by simp)] at e1;have e2:=zED v ⟨t,true,x,u,t⟩ (v.ins++[⟨x,u,t⟩]) v.loose;rw [if_pos (by have:(x != 0)=true:=(by simp;omega);simp [this])] at e2;obtain⟨e3,e4,e5⟩:=zHP e1;unfold zEd;rw [xT,e1,e2,e3,e4,e5];rfl
theorem zKB (g l:Addr) (v:Meter) (t x:Nat) (s:Stay) (hx:1≤x) (nd:(v.ins.map (·.id)).Nodup) (h:v.ins.find? (fun s=>s.id==x)=some s) (hs:s.since≤t) :
  zEd g l { v with ins:=v.ins.filter (fun r=>r.id != x),evs:=⟨t,false,x,s.units,s.since⟩::v.evs } =
   mf g l v.loose ((content v:Nat) + -(s.units:Int)) (begun v) (((ended v).length:Int)+1) (if(t:Int)-(s.since:Int)=0 then((zeros v:Nat):Int)+1 else(zeros v:Nat)) ((stays v:Nat)+((t:Int)-(s.since:Int))) ((unitStays v:Nat)+(s.units:Int)*((t:Int)-(s.since:Int))):=by
 have e1:=zEE v ⟨t,false,x,s.units,s.since⟩ (v.ins.filter fun r=>r.id != x) v.loose;rw [if_pos (by have:(x != 0)=true:=(by simp;omega);simp [this])] at e1;have e2:=zED v ⟨t,false,x,s.units,s.since⟩ (v.ins.filter fun r=>r.id != x) v.loose;rw [if_neg (by simp)] at e2;obtain⟨e3,e4,e5,e6⟩:=zIL e1;have c:=vx (⟨t,false,x,s.units,s.since⟩::v.evs) nd h;unfold zEd;rw [e2,e3,e4,e5,e6,← c];dsimp only;have i1:((t-s.since:Nat):Int)=(t:Int)-(s.since:Int):=ofNat_sub hs;rw [natCast_add,natCast_add,natCast_add,natCast_add,natCast_add,natCast_mul,i1];congr 1
 ·omega
 ·by_cases q:t=s.since
  ·rw [if_pos q,if_pos (by omega)];rfl
  ·rw [if_neg q,if_neg (by omega)];rfl
 ·omega
 ·omega
theorem zIh (g l:Addr) (v:Meter) (e:Vbdeai.Ev) (lo:Nat) (d:Int) (he:e.id=0) (h1:(lo:Int)=v.loose+d) (h2:((content { v with loose:=lo,evs:=e::v.evs }:Nat):Int)=(content v:Nat)+d) :
  zEd g l { v with loose:=lo,evs:=e::v.evs }=mf g l (v.loose+d) ((content v:Nat)+d) (begun v) (ended v).length (zeros v) (stays v) (unitStays v):=by
 have e1:=zEE v e v.ins lo;rw [if_neg (by rw [he];simp)] at e1;have e2:=zED v e v.ins lo;rw [if_neg (by rw [he];simp)] at e2;obtain⟨e3,e4,e5⟩:=zHP e1;unfold zEd;rw [h2,e1,e2,e3,e4,e5];dsimp only;rw [h1];rfl
end Mb
namespace Mb
open PySem PySem.Spec PyProof.Rows L2
abbrev zAc:Stmt:=top 4
abbrev wI:Stmt:=top 5
abbrev vX:Stmt:=top 6
abbrev je:Stmt:=top 7
abbrev zAd:Stmt:=top 8
abbrev zEj:Stmt:=top 9
abbrev zB7:Stmt:=top 10
theorem zMK {α:Type}(x:α) (xs:List α):atI (x::xs) 0=some x:=yK (j:=0) rfl
theorem kH {n k:Nat}(h:n<2 ^ k) (hk:0<k):n.log2<k:=by
 by_cases h0:n=0
 ·subst h0;rw [Nat.log2_zero];exact hk
 ·exact(Nat.log2_lt h0).mpr h
theorem zBC {i j:Int}{k l:Nat}(hi:i.natAbs<2 ^ k) (hj:j.natAbs<2 ^ l) (hk:0<k∧k≤60000000:=by decide) (hl:0<l∧l≤60000000:=by decide):IntMulOk i j :=
 zA5 (lt_of_lt_of_le (kH hi hk.1) hk.2) (lt_of_lt_of_le (kH hj hl.1) hl.2)
theorem zBD {i:Int}{k l:Nat}(h:i.natAbs<2 ^ k) (hkl:k≤l):i.natAbs<2 ^ l:=lt_of_lt_of_le h (pow_le_pow_right (by decide) hkl)
theorem yN {i j:Int}{k l:Nat}(hi:i.natAbs<2 ^ k) (hj:j.natAbs<2 ^ l):(i*j).natAbs<2 ^ (k+l):=by
 rw [Int.natAbs_mul,pow_add];exact mul_lt_mul'' hi hj
section
variable {P:Program}{w:World}{K:W.Frag}{mg:Str→Option Value}{base:Heap}{CB CM CT:Addr}
def zFr:Sp:=fun vs H Q _=>∃ (x y:V) (a b c d:Int),vs=[x,y]∧zA8 H x a b∧zA8 H y c d∧(a.natAbs<2 ^ 64∧b.natAbs<2 ^ 64∧c.natAbs<2 ^ 64∧d.natAbs<2 ^ 64)∧Q (.bl (decide (a*d<c*b))) H
theorem zDx:zL ["first","second"] ["first","second"] (zE zAc):=by trivial
theorem zIi (D:zJ K mg "is_less" zAc):Has P w K mg base "is_less" 1 ["first","second"] zFr:=by
 have nd:=zDx.nd
 refine jo D zDx (L2.bA2 fun _ _ _ _ _ _ _ _=>rfl) ?_ ?_
 ·rintro vs H Q E ⟨x,y,a,b,c,d,rfl,_⟩;rfl
 ·rintro f cdv A outer s H vs Q E hr ⟨x,y,a,b,c,d,rfl,⟨p,rfl,hp⟩,⟨q,rfl,hq⟩,⟨b1,b2,b3,b4⟩,k⟩;refine⟨_,(zI (zP (yJ zIR (jI jG (zN zK (pv 0) zH (fun _ _=>rfl)) (zN zK (pv 1) zH (fun _ _=>rfl))) (jI jG (zN zK (pv 1) zH (fun _ _=>rfl)) (zN zK (pv 0) zH (fun _ _=>rfl))) (jc _)))),?_⟩;refine⟨_,rfl,.inr (.inl ⟨p,_,0,.int a,rfl,rfl,SqT.of hp,rfl,_,rfl,.inr (.inl ⟨q,_,1,.int d,rfl,rfl,SqT.of hq,rfl,_,_,rfl,rfl,zBC b1 b4,?_⟩)⟩)⟩;exact⟨_,rfl,.inr (.inl ⟨q,_,0,.int c,rfl,rfl,SqT.of hq,rfl,_,rfl,.inr (.inl ⟨p,_,1,.int b,rfl,rfl,SqT.of hp,rfl,_,_,rfl,rfl,zBC b3 b2,_,_,rfl,rfl,k⟩)⟩)⟩
def Fit (r:Rat):Prop:=r.num.natAbs<2 ^ 64∧r.den<2 ^ 64
def Qs (H:Hp) (xs:List V) (rs:List Rat):Prop:=Paired (fun(x:V) (r:Rat)=>IsQ H x (toQ r)) xs rs
theorem Qs.keep {H H':Hp}{xs:List V}{rs:List Rat}(h:Qs H xs rs) (t:jd H H'):Qs H' xs rs:=Paired.mapP h fun _ _ q=>q.keep t
theorem zEk (a b:Rat):decide ((toQ a).num*((toQ b).den:Int)<(toQ b).num*((toQ a).den:Int))=decide (a<b):=(zHR a b).symm.symm
theorem Fit.abs {r:Rat}(h:Fit r):(toQ r).num.natAbs<2 ^ 64∧(((toQ r).den:Nat):Int).natAbs<2 ^ 64:=⟨h.1,by rw [natAbs_natCast];exact h.2⟩
def zGv:Sp:=fun vs H Q _=>∃ (l:Addr) (xs:List V) (rs:List Rat),vs=[.ref l]∧H l=some (.lst xs)∧Qs H xs rs∧rs≠[]∧(∀ r∈rs,Fit r)∧∀ v r,IsQ H v (toQ r)→r∈rs→(∀ r'∈rs,r≤r')→Q v H
theorem zCg:zL ["fractions","least","fraction"] ["fractions"] (zE wI):=by trivial
theorem zGw (D:zJ K mg "least_of" wI) (vj:Has P w K mg base "is_less" 1 ["first","second"] zFr):Has P w K mg base "least_of" 2 ["fractions"] zGv:=by
 have nd:=zCg.nd
 refine jo D zCg (L2.bA1 fun _ _ _ _ _ _ _=>rfl) ?_ ?_
 ·rintro vs H Q E ⟨l,xs,rs,rfl,_⟩;rfl
 ·rintro f cdv A outer s H vs Q E hr ⟨l,xs,rs,rfl,hl,hM,hn,hf,k⟩;refine⟨_,(zC (zU (i:=1) nd rfl (Or.inl rfl) (zN zK (pv 0) zH (fun _ _=>rfl))) (zC (yT PassesOwn.never rfl (jF (pv 0)) (zS (i:=2) nd rfl (Or.inl rfl)) (zI (kj (vU (vO vj (hr.mono (by decide)) (zB (pv 2) (zB (pv 1) zG))) (fun _=>rfl)) (zI (zU (i:=1) nd rfl (Or.inl rfl) (pv 2))) jM))) (zI (zP (pv 1))))),?_⟩
  obtain⟨r0,rt,rfl⟩:∃ r0 rt,rs=r0::rt:=by
   cases rs with
   | nil=>exact absurd rfl hn
   | cons r0 rt=>exact⟨r0,rt,rfl⟩
  obtain⟨x0,xt,rfl,q0⟩:∃ x0 xt,xs=x0::xt∧IsQ H x0 (toQ r0):=by
   cases hM with
   | cons a b=>exact⟨_,_,rfl,a⟩
  refine⟨_,rfl,.inl ⟨l,_,0,x0,rfl,rfl,SqL.of hl,zMK x0 xt,?_⟩⟩;refine⟨_,rfl,l,rfl,⟨_,SqL.of hl⟩,kx (K:=K) (a:=l) (xs:=x0::xt) (fun i σ H'=>∃ v r y,σ=[some (.ref l),some v,y]∧H'=H∧IsQ H v (toQ r)∧r∈r0::rt∧∀ r'∈(r0::rt).take i,r≤r') ?_ ?_ ?_ ?_⟩
  ·exact⟨x0,r0,none,rfl,rfl,q0,mem_cons_self,fun r' h=>by rw [List.take_zero] at h;cases h⟩
  ·rintro i σ H' _ ⟨v,r,y,_,rfl,_⟩;exact SqL.of hl
  ·rintro i x σ H' hi ⟨v,r,y,rfl,rfl,hv,hr',hle⟩;obtain⟨c,hc,qc⟩:=vG hM hi;have mc:=List.mem_of_getElem? hc;have bc:=(hf c mc).abs;have br:=(hf r hr').abs
   have e2:(r0::rt).take (i+1)=(r0::rt).take i++[c]:=by rw [take_succ,hc];rfl
   refine⟨_,rfl,_,rfl,x,v,_,_,_,_,rfl,qc,hv,⟨bc.1,bc.2,br.1,br.2⟩,_,rfl,?_⟩;rw [zEk];by_cases hlt:c<r
   ·rw [decide_eq_true hlt];refine yc ⟨_,rfl,x,c,_,rfl,rfl,qc,mc,fun r' h=>?_⟩;rw [e2] at h
    rcases List.mem_append.mp h with h | h
    ·exact Rat.le_trans (Rat.le_of_lt hlt) (hle r' h)
    ·rw [List.mem_singleton.mp h];exact Rat.le_refl
   ·rw [decide_eq_false hlt];refine ym ⟨v,r,_,rfl,rfl,hv,hr',fun r' h=>?_⟩;rw [e2] at h
    rcases List.mem_append.mp h with h | h
    ·exact hle r' h
    ·rw [List.mem_singleton.mp h];exact Rat.not_lt.mp hlt
  ·rintro σ H' ⟨v,r,y,rfl,rfl,hv,hr',hle⟩;rw [take_of_length_le (le_of_eq (jK hM).symm)] at hle;exact⟨_,rfl,k v r hv hr' hle⟩
def zBE:Sp:=fun vs H Q _=>∃ (l:Addr) (xs:List V) (rs:List Rat),vs=[.ref l]∧H l=some (.lst xs)∧Qs H xs rs∧rs≠[]∧(∀ r∈rs,Fit r)∧∀ v r,IsQ H v (toQ r)→r∈rs→(∀ r'∈rs,r'≤r)→Q v H
theorem wm:zL ["fractions","greatest","fraction"] ["fractions"] (zE vX):=by trivial
theorem zDN (D:zJ K mg "greatest_of" vX) (vj:Has P w K mg base "is_less" 1 ["first","second"] zFr):Has P w K mg base "greatest_of" 2 ["fractions"] zBE:=by
 have nd:=wm.nd
 refine jo D wm (L2.bA1 fun _ _ _ _ _ _ _=>rfl) ?_ ?_
 ·rintro vs H Q E ⟨l,xs,rs,rfl,_⟩;rfl
 ·rintro f cdv A outer s H vs Q E hr ⟨l,xs,rs,rfl,hl,hM,hn,hf,k⟩;refine⟨_,(zC (zU (i:=1) nd rfl (Or.inl rfl) (zN zK (pv 0) zH (fun _ _=>rfl))) (zC (yT PassesOwn.never rfl (jF (pv 0)) (zS (i:=2) nd rfl (Or.inl rfl)) (zI (kj (vU (vO vj (hr.mono (by decide)) (zB (pv 1) (zB (pv 2) zG))) (fun _=>rfl)) (zI (zU (i:=1) nd rfl (Or.inl rfl) (pv 2))) jM))) (zI (zP (pv 1))))),?_⟩
  obtain⟨r0,rt,rfl⟩:∃ r0 rt,rs=r0::rt:=by
   cases rs with
   | nil=>exact absurd rfl hn
   | cons r0 rt=>exact⟨r0,rt,rfl⟩
  obtain⟨x0,xt,rfl,q0⟩:∃ x0 xt,xs=x0::xt∧IsQ H x0 (toQ r0):=by
   cases hM with
   | cons a b=>exact⟨_,_,rfl,a⟩
  refine⟨_,rfl,.inl ⟨l,_,0,x0,rfl,rfl,SqL.of hl,zMK x0 xt,?_⟩⟩;refine⟨_,rfl,l,rfl,⟨_,SqL.of hl⟩,kx (K:=K) (a:=l) (xs:=x0::xt) (fun i σ H'=>∃ v r y,σ=[some (.ref l),some v,y]∧H'=H∧IsQ H v (toQ r)∧r∈r0::rt∧∀ r'∈(r0::rt).take i,r'≤r) ?_ ?_ ?_ ?_⟩
  ·exact⟨x0,r0,none,rfl,rfl,q0,mem_cons_self,fun r' h=>by rw [List.take_zero] at h;cases h⟩
  ·rintro i σ H' _ ⟨v,r,y,_,rfl,_⟩;exact SqL.of hl
  ·rintro i x σ H' hi ⟨v,r,y,rfl,rfl,hv,hr',hle⟩;obtain⟨c,hc,qc⟩:=vG hM hi;have mc:=List.mem_of_getElem? hc;have bc:=(hf c mc).abs;have br:=(hf r hr').abs
   have e2:(r0::rt).take (i+1)=(r0::rt).take i++[c]:=by rw [take_succ,hc];rfl
   refine⟨_,rfl,_,rfl,v,x,_,_,_,_,rfl,hv,qc,⟨br.1,br.2,bc.1,bc.2⟩,_,rfl,?_⟩;rw [zEk];by_cases hlt:r<c
   ·rw [decide_eq_true hlt];refine yc ⟨_,rfl,x,c,_,rfl,rfl,qc,mc,fun r' h=>?_⟩;rw [e2] at h
    rcases List.mem_append.mp h with h | h
    ·exact Rat.le_trans (hle r' h) (Rat.le_of_lt hlt)
    ·rw [List.mem_singleton.mp h];exact Rat.le_refl
   ·rw [decide_eq_false hlt];refine ym ⟨v,r,_,rfl,rfl,hv,hr',fun r' h=>?_⟩;rw [e2] at h
    rcases List.mem_append.mp h with h | h
    ·exact hle r' h
    ·rw [List.mem_singleton.mp h];exact Rat.not_lt.mp hlt
  ·rintro σ H' ⟨v,r,y,rfl,rfl,hv,hr',hle⟩;rw [take_of_length_le (le_of_eq (jK hM).symm)] at hle;exact⟨_,rfl,k v r hv hr' hle⟩
def Prn (H:Hp) (xs:List V) (m:List (Int×Nat)):Prop:=Paired (fun(x:V) (p:Int×Nat)=>zA8 H x p.1 (p.2:Int)) xs m
theorem zLe {c d:Nat}(hc:0<c) (hd:0<d):c*(d/Nat.gcd c d)=Nat.lcm c d:=by
 unfold Nat.lcm;rw [Nat.mul_div_assoc _ (gcd_dvd_right c d)]
theorem vH {c L k:Nat}(h:c∣L) (h0:L≠0) (hk:L<2 ^ k):c<2 ^ k:=lt_of_le_of_lt (le_of_dvd (pos_of_ne_zero h0) h) hk
def zEl:Sp:=fun vs H Q _=>∃ (l:Addr) (xs:List V) (m:List (Int×Nat)) (L:Nat),vs=[.ref l]∧H l=some (.lst xs)∧Prn H xs m∧L≠0∧L<2 ^ 3000∧(∀ p∈m,p.2∣L)∧∀ c:Nat,0<c→c∣L→(∀ p∈m,p.2∣c)→Q (.int c) H
theorem vI:zL ["fractions","common","fraction"] ["fractions"] (zE je):=by trivial
theorem xb (D:zJ K mg "common_denominator" je) (vP:Has P w K mg base "common_divisor" 1 ["first","second"] zNP):Has P w K mg base "common_denominator" 2 ["fractions"] zEl:=by
 have nd:=vI.nd
 refine jo D vI (L2.bA1 fun _ _ _ _ _ _ _=>rfl) ?_ ?_
 ·rintro vs H Q E ⟨l,xs,m,L,rfl,_⟩;rfl
 ·rintro f cdv A outer s H vs Q E hr ⟨l,xs,m,L,rfl,hl,hM,hL,hb,hd,k⟩;refine⟨_,(zC (zU (i:=1) nd rfl (Or.inl rfl) zH) (zC (yT PassesOwn.never rfl (jF (pv 0)) (zS (i:=2) nd rfl (Or.inl rfl)) (zI (zJO (i:=1) nd rfl (Or.inl rfl) (jI yo (zN zK (pv 2) zH (fun _ _=>rfl)) (vO vP (hr.mono (by decide)) (zB (pv 1) (zB (zN zK (pv 2) zH (fun _ _=>rfl)) zG)))) zNW))) (zI (zP (pv 1))))),?_⟩;refine⟨_,rfl,l,rfl,⟨_,SqL.of hl⟩,kx (K:=K) (a:=l) (xs:=xs) (fun i σ H'=>∃ (c:Nat) (y:Option V),σ=[some (.ref l),some (.int c),y]∧H'=H∧0<c∧c∣L∧∀ p∈m.take i,p.2∣c) ?_ ?_ ?_ ?_⟩
  ·exact⟨1,none,rfl,rfl,by decide,Nat.one_dvd L,fun p h=>by rw [List.take_zero] at h;cases h⟩
  ·rintro i σ H' _ ⟨c,y,_,rfl,_⟩;exact SqL.of hl
  ·rintro i x σ H' hi ⟨c,y,rfl,rfl,hc,hcL,hall⟩;obtain⟨p,hp,⟨q,rfl,hq⟩⟩:=vG hM hi;have mp:p∈m:=List.mem_of_getElem? hp;have dp:0<p.2:=Nat.pos_of_dvd_of_pos (hd p mp) (pos_of_ne_zero hL);have gp:0<Nat.gcd c p.2:=Nat.gcd_pos_of_pos_left _ hc;have g1:Nat.gcd c p.2<2 ^ 3000:=vH (dvd_trans (Nat.gcd_dvd_left _ _) hcL) hL hb;have c1:c<2 ^ 3000:=vH hcL hL hb;have d1:p.2/Nat.gcd c p.2<2 ^ 3000:=vH (dvd_trans (div_dvd_of_dvd (gcd_dvd_right c p.2)) (hd p mp)) hL hb;refine⟨_,rfl,_,rfl,.inr (.inl ⟨q,_,1,.int (p.2:Int),rfl,rfl,SqT.of hq,rfl,_,rfl,_,rfl,.inr (.inl ⟨q,_,1,.int (p.2:Int),rfl,rfl,SqT.of hq,rfl,c,p.2,rfl,_,_,rfl,rfl,⟨by omega,?_⟩,?_⟩)⟩)⟩
   ·rw [natAbs_natCast];exact lt_of_lt_of_le (kH g1 (by decide)) (by decide)
   ·refine⟨_,_,rfl,rfl,?_,?_⟩
    ·rw [← natCast_ediv];exact zBC (k:=3000) (l:=3000) (by rw [natAbs_natCast];exact c1) (by rw [natAbs_natCast];exact d1)
    ·refine⟨Nat.lcm c p.2,some (.ref q),?_,rfl,Nat.lcm_pos hc dp,Nat.lcm_dvd hcL (hd p mp),fun p' h=>?_⟩
     ·rw [← zLe hc dp,natCast_mul,natCast_ediv];rfl
     ·have e2:m.take (i+1)=m.take i++[p]:=by rw [take_succ,hp];rfl
      rw [e2] at h
      rcases List.mem_append.mp h with h | h
      ·exact dvd_trans (hall p' h) (Nat.dvd_lcm_left _ _)
      ·rw [List.mem_singleton.mp h];exact Nat.dvd_lcm_right _ _
  ·rintro σ H' ⟨c,y,rfl,rfl,hc,hcL,hall⟩;rw [jK hM,take_length] at hall;exact⟨_,rfl,k c hc hcL hall⟩
theorem zNZ (a b:Int){c:Nat}(h:c≠0):mkRat a c+mkRat b c=mkRat (a+b) c:=by
 rw [Rat.mkRat_add_mkRat _ _ h h,← Int.add_mul,Rat.mkRat_mul_right h]
theorem zOt (n:Int){d c:Nat}(hc:c≠0) (hd:d∣c):mkRat (n*((c/d:Nat):Int)) c=mkRat n d:=by
 obtain⟨e,rfl⟩:=hd;have d0:0<d:=pos_of_ne_zero fun z=>hc (by rw [z,Nat.zero_mul]);have e0:e≠0:=fun z=>hc (by rw [z,Nat.mul_zero]);rw [Nat.mul_div_cancel_left _ d0];exact Rat.mkRat_mul_right e0
theorem zNa {c:Nat}:mkRat 0 c=0:=Rat.zero_mkRat c
theorem zML {c:Nat}(hc:c≠0):∀ (m:List (Int×Nat)),(∀ p∈m,p.2∣c)→mkRat (m.map fun p=>p.1*((c/p.2:Nat):Int)).sum c=(m.map fun p=>mkRat p.1 p.2).sum
 | [],_=>zNa
 | p::m,h=>by
  rw [map_cons,map_cons,sum_cons,sum_cons,← zNZ _ _ hc,zOt p.1 hc (h p mem_cons_self),zML hc m fun q hq=>h q (mem_cons_of_mem _ hq)]
theorem zKC {B:Nat}:∀ (l:List Int),(∀ x∈l,x.natAbs≤B)→l.sum.natAbs≤l.length*B
 | [],_=>by simp
 | x::l,h=>by
  rw [sum_cons,length_cons,Nat.succ_mul];have h1:=h x mem_cons_self;have h2:=zKC l fun y hy=>h y (mem_cons_of_mem _ hy);have:=Int.natAbs_add_le x l.sum;omega
def zGx:Sp:=fun vs H Q _=>∃ (l:Addr) (xs:List V) (m:List (Int×Nat)) (L:Nat),vs=[.ref l]∧H l=some (.lst xs)∧Prn H xs m∧m.length<1000∧L≠0∧L<2 ^ 3000∧(∀ p∈m,p.2∣L∧p.1.natAbs<2 ^ 200) ∧
 ∀ H' v r,IsQ H' v (toQ r)→r=(m.map fun p=>mkRat p.1 p.2).sum→r.num.natAbs<2 ^ 3300→r.den∣L→Kp [] H H'→Q v H'
theorem zFs:zL ["fractions","common","fraction"] ["fractions"] (zE zAd):=by trivial
theorem zKD (D:zJ K mg "sum_of" zAd) (T:TX K mg CB CM CT) (j4:Has P w K mg base "common_denominator" 2 ["fractions"] zEl) (zr:Has P w K mg base "lowest" 2 ["num","den"] vW):Has P w K mg base "sum_of" 3 ["fractions"] zGx:=by
 have nd:=zFs.nd
 refine jo D zFs (L2.bA1 fun _ _ _ _ _ _ _=>rfl) ?_ ?_
 ·rintro vs H Q E ⟨l,xs,m,L,rfl,_⟩;rfl
 ·rintro f cdv A outer s H vs Q E hr ⟨l,xs,m,L,rfl,hl,hM,hm,hL,hb,hd,k⟩;refine⟨_,(zC (zU (i:=1) nd rfl (Or.inr rfl) (vO j4 (hr.mono (by decide)) (zB (pv 0) zG))) (zI (zP (vO zr (hr.mono (by decide)) (zB (zh (zBZ rfl) (by rfl) T.n_sum boot_sum (zB (xX (own:=[("fraction",2)]) rfl nd (jF (pv 0)) (zx (by show zBb ["fractions","common","fraction"] (zE zAd) _ _=true;decide +kernel)) (fun _ _ _ _ _=>(zS (i:=2) nd rfl (Or.inl rfl))) (fun _ _ _ _ _=>jm) (fun _ _ _ _ _=>(jI jG (zN (jg K rfl) (pv 2) zH (fun _ _=>rfl)) (jI yo (pv 1) (zN (jg K rfl) (pv 2) zH (fun _ _=>rfl)))))) zG)) (zB (pv 1) zG)))))),?_⟩;refine⟨_,rfl,l,xs,m,L,rfl,hl,hM,hL,hb,fun p hp=>(hd p hp).1,fun c hc hcL hall=>?_⟩;have c1:c<2 ^ 3000:=vH hcL hL hb;have c0:c≠0:=ne_of_gt hc;refine⟨_,rfl,l,rfl,⟨_,SqL.of hl⟩,fun d hD=>?_⟩;refine yM (K:=K) (m:=m) (fun p=>some (.int (p.1*((c/p.2:Nat):Int)))) hl hM hm hD ?_ ?_
  ·rintro x p H' ⟨q,rfl,hq⟩ mp kp Yes No hy _;have hq':=kp _ _ hq (by simp);have dp:0<p.2:=Nat.pos_of_dvd_of_pos (hd p mp).1 (pos_of_ne_zero hL);have p1:p.2<2 ^ 3000:=vH (hd p mp).1 hL hb;have e1:c/p.2<2 ^ 3000:=vH (dvd_trans (div_dvd_of_dvd (hall p mp)) hcL) hL hb;refine⟨rfl,_,rfl,.inr (.inl ⟨q,_,0,.int p.1,rfl,rfl,SqT.of hq',rfl,_,rfl,_,rfl,.inr (.inl ⟨q,_,1,.int (p.2:Int),rfl,rfl,SqT.of hq',rfl,_,_,rfl,rfl,⟨by omega,?_⟩,_,_,rfl,rfl,?_,?_⟩)⟩)⟩
   ·rw [natAbs_natCast];exact lt_of_lt_of_le (kH p1 (by decide)) (by decide)
   ·rw [← natCast_ediv];exact zBC (k:=200) (l:=3000) (hd p mp).2 (by rw [natAbs_natCast];exact e1)
   ·rw [← natCast_ediv];exact hy _ rfl
  ·rintro H1 h1 k1;rw [show m.filterMap (fun p=>some (V.int (p.1*((c/p.2:Nat):Int))))=(m.map fun p=>p.1*((c/p.2:Nat):Int)).map V.int from by rw [filterMap_eq_map',map_map];rfl] at h1;refine⟨d,_,rfl,SqL.of h1,_,rfl,_,c,rfl,hc,lt_of_lt_of_le (kH c1 (by decide)) (by decide),fun p hp=>?_⟩;have hr':=zML c0 m hall
   have ab:(m.map fun p=>p.1*((c/p.2:Nat):Int)).sum.natAbs≤(m.map fun p=>p.1*((c/p.2:Nat):Int)).length*2 ^ 3200:=by
    refine zKC _ fun x hx=>?_;obtain⟨p,mp,rfl⟩:=List.mem_map.mp hx;have e1:c/p.2<2 ^ 3000:=vH (dvd_trans (div_dvd_of_dvd (hall p mp)) hcL) hL hb;exact le_of_lt (yN (k:=200) (l:=3000) (hd p mp).2 (by rw [natAbs_natCast];exact e1))
   rw [xV _ c0];refine k _ (.ref p) _ ⟨p,rfl,zA⟩ hr' ?_ ?_ (k1.upd (.inr (k1.none hp (by simp))))
   ·refine lt_of_le_of_lt (le_trans (zAP c0).1 ab) ?_;rw [length_map]
    calc m.length*2 ^ 3200<2 ^ 100*2 ^ 3200:=(Nat.mul_lt_mul_right (Nat.pow_pos (by decide))).mpr (lt_of_lt_of_le hm (by decide))
     _=2 ^ 3300:=by rw [← pow_add]
   ·exact dvd_trans (zIM _ c0) hcL
def zKE:Sp:=fun vs H Q _=>∃ (x y:V) (a c:Int) (b d:Nat),vs=[x,y]∧zA8 H x a b∧zA8 H y c d∧0<b∧0<d∧(a.natAbs<2 ^ 9000∧b<2 ^ 4000∧c.natAbs<2 ^ 9000∧d<2 ^ 4000)∧∀ p,H p=none→Q (.ref p) (upd H p (qT (toQ (mkRat a b-mkRat c d))))
theorem zMM (a c:Int){b d:Nat}(hb:b≠0) (hd:d≠0):mkRat (a*(d:Int)-c*(b:Int)) (b*d)=mkRat a b-mkRat c d:=by
 rw [Rat.sub_eq_add_neg,Rat.neg_mkRat,Rat.mkRat_add_mkRat _ _ hb hd,Int.neg_mul,Int.sub_eq_add_neg]
theorem zHx:zL ["first","second"] ["first","second"] (zE zEj):=by trivial
theorem zLf (D:zJ K mg "minus" zEj) (zr:Has P w K mg base "lowest" 2 ["num","den"] vW):Has P w K mg base "minus" 3 ["first","second"] zKE:=by
 have nd:=zHx.nd
 refine jo D zHx (L2.bA2 fun _ _ _ _ _ _ _ _=>rfl) ?_ ?_
 ·rintro vs H Q E ⟨x,y,a,c,b,d,rfl,_⟩;rfl
 ·rintro f cdv A outer s H vs Q E hr ⟨x,y,a,c,b,d,rfl,⟨p,rfl,hp⟩,⟨q,rfl,hq⟩,hb,hd,⟨b1,b2,b3,b4⟩,k⟩;refine⟨_,(zI (zP (vO zr (hr.mono (by decide)) (zB (jI zCN (jI jG (zN zK (pv 0) zH (fun _ _=>rfl)) (zN zK (pv 1) zH (fun _ _=>rfl))) (jI jG (zN zK (pv 1) zH (fun _ _=>rfl)) (zN zK (pv 0) zH (fun _ _=>rfl)))) (zB (jI jG (zN zK (pv 0) zH (fun _ _=>rfl)) (zN zK (pv 1) zH (fun _ _=>rfl))) zG))))),?_⟩
  have nb:((b:Nat):Int).natAbs<2 ^ 4000:=by rw [natAbs_natCast];exact b2
  have ndd:((d:Nat):Int).natAbs<2 ^ 4000:=by rw [natAbs_natCast];exact b4
  refine⟨_,rfl,.inr (.inl ⟨p,_,0,.int a,rfl,rfl,SqT.of hp,rfl,_,rfl,.inr (.inl ⟨q,_,1,.int (d:Int),rfl,rfl,SqT.of hq,rfl,_,_,rfl,rfl,zBC b1 ndd,?_⟩)⟩)⟩;refine⟨_,rfl,.inr (.inl ⟨q,_,0,.int c,rfl,rfl,SqT.of hq,rfl,_,rfl,.inr (.inl ⟨p,_,1,.int (b:Int),rfl,rfl,SqT.of hp,rfl,_,_,rfl,rfl,zBC b3 nb,_,_,rfl,rfl,?_⟩)⟩)⟩;refine⟨_,rfl,.inr (.inl ⟨p,_,1,.int (b:Int),rfl,rfl,SqT.of hp,rfl,_,rfl,.inr (.inl ⟨q,_,1,.int (d:Int),rfl,rfl,SqT.of hq,rfl,_,_,rfl,rfl,zBC nb ndd,?_⟩)⟩)⟩;have bd:0<b*d:=mul_pos hb hd;refine⟨_,b*d,by rw [natCast_mul];rfl,bd,?_,fun r hr'=>?_⟩
  ·have:b*d<2 ^ 8000:=by
    rw [show(8000:Nat)=4000+4000 from rfl,pow_add];exact mul_lt_mul'' b2 b4
   exact lt_of_lt_of_le (kH this (by decide)) (by decide)
  ·rw [xV _ (ne_of_gt bd),zMM _ _ (ne_of_gt hb) (ne_of_gt hd)];exact k r hr'
def zHy:Sp:=fun vs H Q _=>∃ (x:V) (a:Int) (b:Nat),vs=[x]∧zA8 H x a b∧(a.natAbs<2 ^ 4000∧b<2 ^ 4000)∧∀ p,H p=none→Q (.ref p) (upd H p (.tup [.int (a*a),.int ((b*b:Nat):Int)]))
theorem zFt:zL ["fraction"] ["fraction"] (zE zB7):=by trivial
theorem zKF (D:zJ K mg "square" zB7):Has P w K mg base "square" 1 ["fraction"] zHy:=by
 have nd:=zFt.nd
 refine jo D zFt (L2.bA1 fun _ _ _ _ _ _ _=>rfl) ?_ ?_
 ·rintro vs H Q E ⟨x,a,b,rfl,_⟩;rfl
 ·rintro f cdv A outer s H vs Q E hr ⟨x,a,b,rfl,⟨p,rfl,hp⟩,⟨b1,b2⟩,k⟩;refine⟨_,(zI (zP (kM (zB (jI jG (zN zK (pv 0) zH (fun _ _=>rfl)) (zN zK (pv 0) zH (fun _ _=>rfl))) (zB (jI jG (zN zK (pv 0) zH (fun _ _=>rfl)) (zN zK (pv 0) zH (fun _ _=>rfl))) zG))))),?_⟩
  have nb:((b:Nat):Int).natAbs<2 ^ 4000:=by rw [natAbs_natCast];exact b2
  refine⟨_,rfl,.inr (.inl ⟨p,_,0,.int a,rfl,rfl,SqT.of hp,rfl,_,rfl,.inr (.inl ⟨p,_,0,.int a,rfl,rfl,SqT.of hp,rfl,_,_,rfl,rfl,zBC b1 b1,?_⟩)⟩)⟩;refine⟨_,rfl,.inr (.inl ⟨p,_,1,.int (b:Int),rfl,rfl,SqT.of hp,rfl,_,rfl,.inr (.inl ⟨p,_,1,.int (b:Int),rfl,rfl,SqT.of hp,rfl,_,_,rfl,rfl,zBC nb nb,(by show 2≤sizeLine;decide),fun q hq=>?_⟩)⟩)⟩;have:=k q hq;rw [natCast_mul] at this;exact this
end
end Mb
namespace Mb
open PySem PySem.Spec PyProof.Rows L2
abbrev va:Stmt:=top 50
abbrev jf:Stmt:=top 52
abbrev yr:Stmt:=top 53
abbrev yC:Stmt:=top 68
abbrev kU:Stmt:=top 47
abbrev kW:Stmt:=top 48
def zP3 (H:Hp) (x:V) (t:Nat) (u:V):Prop:=∃ p,x = .ref p∧H p=some (.tup [.int t,u])
def zNb (H:Hp) (y:V) (u:V) (n:Int):Prop:=∃ p,y = .ref p∧H p=some (.tup [u,.int n])
theorem zNb.keep {H H':Hp}{y u:V}{n:Int}(h:zNb H y u n) (t:jd H H'):zNb H' y u n:=by
 obtain⟨p,e,h⟩:=h;exact⟨p,e,t p _ h⟩
def xJ (now:Nat) (l:List (Nat×V)):List (V×Int):=List.zipWith (fun(m:Nat×V) (e:Nat)=>(m.2,(e:Int)-(m.1:Int))) l (l.tail.map (·.1)++[now])
section
variable {P:Program}{w:World}{K:W.Frag}{mg:Str→Option Value}{base:Heap}{CB CM CT:Addr}
def zAe:Sp:=fun vs H Q _=>∃ (l:Addr) (now:Nat) (xs:List V) (m:List (Nat×V)),vs=[.ref l,.int now]∧H l=some (.lst xs)∧Paired (fun(x:V) (p:Nat×V)=>zP3 H x p.1 p.2) xs m∧m.length<1000 ∧
 ∀ H' p ys,H' p=some (.lst ys)→H p=none→Paired (fun(y:V) (s:V×Int)=>zNb H' y s.1 s.2) ys (xJ now m)→Kp [] H H'→Q (.ref p) H'
theorem zCh:zL ["moments","clock","ends","moment","end"] ["moments","clock"] (zE va):=by trivial
theorem zGy (D:zJ K mg "spans_of" va) (T:TX K mg CB CM CT):Has P w K mg base "spans_of" 1 ["moments","clock"] zAe:=by
 have nd:=zCh.nd
 refine jo D zCh (L2.bA2 fun _ _ _ _ _ _ _ _=>rfl) ?_ ?_
 ·rintro vs H Q E ⟨l,now,xs,m,rfl,_⟩;rfl
 ·rintro f cdv A outer s H vs Q E hr ⟨l,now,xs,m,rfl,hl,hM,hm1,k⟩;refine⟨_,(zC (yk (i:=2) (own:=[("moment",3)]) rfl nd rfl rfl (w8 rfl rfl rfl rfl) (jF (zHh zJd (pv 0) (zGc zH) zM7)) (zx (by show zBb ["moments","clock","ends","moment","end"] (zE va) _ _=true;decide +kernel)) (fun _ _ _ _ _=>(zS (i:=3) nd rfl (Or.inl rfl))) (fun _ _ _ _ _=>jm) (fun _ _ _ _ _=>(zN (jg K rfl) (pv 3) zH (fun _ _=>rfl)))) (zC (jP (ww F.plainAttrs_list F.slot_list_append F.type_list_append kD (pv 2) (zB (pv 1) zG))) (zI (zP (xX (own:=[("moment",3),("end",4)]) rfl nd (zOj rfl T.n_zip (zB (pv 0) (zB (pv 2) zG))) (zx (by show zBb ["moments","clock","ends","moment","end"] (zE va) _ _=true;decide +kernel)) (fun _ _ _ _ _=>(km K (n:=2) rfl rfl (zV (zS (i:=3) nd rfl (Or.inl rfl)) (zV (zS (i:=4) nd rfl (Or.inl rfl)) jk)))) (fun _ _ _ _ _=>jm) (fun _ _ _ _ _=>(kM (zB (zN (jg K rfl) (pv 3) zH (fun _ _=>rfl)) (zB (jI zCN (pv 4) (zN (jg K rfl) (pv 3) zH (fun _ _=>rfl))) zG))))))))),?_⟩;have lx:xs.length=m.length:=jK hM;refine⟨_,rfl,_,rfl,l,xs,rfl,SqL.of hl,fun c hc=>?_⟩;have e1:zKk xs (some ((1:Nat):Int)) none=xs.drop 1:=zJ7 xs 1;have nlc:l≠c:=zF hl hc;refine⟨c,rfl,⟨_,SqL.of zA⟩,fun d hd=>?_⟩
  have ncd:c≠d:=fun z=>by rw [← z,zA] at hd;cases hd
  have hdH:H d=none:=by rw [zD ncd.symm] at hd;exact hd
  have nld:l≠d:=zF hl hdH;rw [show(1:Int)=((1:Nat):Int) from rfl,e1];refine zA3 (K:=K) (a:=c) (xs:=xs.drop 1) (fun i H'=>H' d=some (.lst (((m.drop 1).take i).map fun p=>V.int (p.1:Int)))∧H' c=some (.lst (xs.drop 1))∧Kp [] H H') ?_ ?_ ?_ ?_
  ·exact⟨zA,by rw [zD ncd];exact zA,(Kp.refl.upd (.inr hc)).upd (.inr hdH)⟩
  ·rintro i H' _ ⟨_,h,_⟩;exact SqL.of h
  ·rintro i x H' hi ⟨h1,h2,h3⟩
   have hi':xs[1+i]? = some x:=by rw [List.getElem?_drop] at hi;exact hi
   obtain⟨mo,hmo,⟨p,rfl,hp⟩⟩:=vG hM hi';have hp':=h3 _ _ hp (by simp);refine⟨rfl,_,rfl,.inr (.inl ⟨p,_,0,.int mo.1,rfl,rfl,SqT.of hp',rfl,_,h1,?_,?_,?_,?_⟩)⟩
   ·rw [length_map,length_take,length_drop];exact zb (by omega)
   ·have e2:(m.drop 1).take (i+1)=(m.drop 1).take i++[mo]:=by
     rw [take_succ,List.getElem?_drop,hmo];rfl
    rw [e2,map_append];exact zA
   ·rw [zD ncd];exact h2
   ·exact h3.upd (.inr hdH)
  ·rintro H2 ⟨h1,h2,h3⟩;have l2:(m.drop 1).take (xs.drop 1).length=m.drop 1:=take_of_length_le (by rw [length_drop,length_drop];omega);rw [l2] at h1;refine⟨_,rfl,.inl ⟨rfl,_,SqL.of h1⟩,_,rfl,d,_,_,rfl,rfl,h1,(by rw [length_map,length_drop];exact zb (by omega)),?_⟩
   have hl2:(upd H2 d (.lst (((m.drop 1).map fun p=>V.int (p.1:Int))++[.int now]))) l=some (.lst xs):=by rw [zD nld];exact h3 _ _ hl (by simp)
   have k2:Kp [] H (upd H2 d (.lst (((m.drop 1).map fun p=>V.int (p.1:Int))++[.int now]))):=h3.upd (.inr hdH)
   have hd2:(upd H2 d (.lst (((m.drop 1).map fun p=>V.int (p.1:Int))++[.int now]))) d=some (.lst (((m.tail.map (·.1)++[now]).map fun(e:Nat)=>V.int (e:Int)))):=by
    rw [zA,map_append,map_map,List.drop_one];rfl
   generalize (upd H2 d (.lst (((m.drop 1).map fun p=>V.int (p.1:Int))++[.int now])))=H3 at hl2 k2 hd2 ⊢;refine⟨_,rfl,_,rfl,l,d,xs,_,rfl,SqL.of hl2,SqL.of hd2,fun r hr'=>?_⟩;have nlr:l≠r:=zF hl2 hr';have ndr:d≠r:=zF hd2 hr';have hrH:H r=none:=k2.none hr' (by simp);refine zOs (K:=K) (a:=l) (b:=d) (xs:=xs) (ys:=(m.tail.map (·.1)++[now]).map fun(e:Nat)=>V.int (e:Int)) (fun i H'=>(∃ ys,H' r=some (.lst ys)∧Paired (fun(y:V) (s:V×Int)=>zNb H' y s.1 s.2) ys ((xJ now m).take i))∧H' l=some (.lst xs)∧H' d=some (.lst (((m.tail.map (·.1)++[now]).map fun(e:Nat)=>V.int (e:Int))))∧Kp [] H H') ?_ ?_ ?_ ?_
   ·exact⟨⟨[],zA,.nil⟩,by rw [zD nlr];exact hl2,by rw [zD ndr];exact hd2,k2.upd (.inr hrH)⟩
   ·rintro i H' ⟨_,h4,h5,_⟩;exact⟨SqL.of h4,SqL.of h5⟩
   ·rintro i x y H' t1 hx hy ⟨⟨ys,h4,h5⟩,h6,h7,h8⟩ hT;obtain⟨mo,hmo,⟨p,rfl,hp⟩⟩:=vG hM hx;rw [getElem?_map] at hy
    cases hz:(m.tail.map (·.1)++[now])[i]? with
    | none=>rw [hz] at hy;cases hy
    | some en' =>
     rw [hz] at hy
     cases hy
     have hp':=h8 _ _ hp (by simp);have npT:p≠t1:=zF hp' hT;have nrT:r≠t1:=zF h4 hT;have nlT:l≠t1:=zF h6 hT;have ndT:d≠t1:=zF h7 hT;refine⟨t1,_,rfl,SqT.of zA,rfl,_,_,rfl,_,_,rfl,rfl,rfl,?_⟩;refine⟨_,rfl,.inr (.inl ⟨p,_,1,mo.2,rfl,rfl,SqT.of (by rw [zD npT];exact hp'),rfl,?_⟩)⟩;refine⟨_,rfl,_,rfl,.inr (.inl ⟨p,_,0,.int mo.1,rfl,rfl,SqT.of (by rw [zD npT];exact hp'),rfl,_,_,rfl,rfl,(by show 2≤sizeLine;decide),fun q hq=>?_⟩)⟩
     have nqT:q≠t1:=fun z=>by rw [z,zA] at hq;cases hq
     have hqn:H' q=none:=by rw [zD nqT] at hq;exact hq
     have nrq:r≠q:=zF h4 hqn;have nlq:l≠q:=zF h6 hqn;have ndq:d≠q:=zF h7 hqn
     have ly:ys.length<1000:=by
      have:=jK h5;rw [length_take] at this;have l5:i<xs.length:=(List.getElem?_eq_some_iff.mp hx).1;omega
     have tp:jd H' (upd (upd (upd H' t1 (.tup [.ref p,.int ↑en'])) q (.tup [mo.2,.int (↑en'-↑mo.1)])) r (.lst (ys++[.ref q]))):=by
      refine((jd.new hT).trans (jd.new hq)).trans (jd.upd fun z e=>?_);rw [zD nrq,zD nrT,h4] at e
      cases e
     refine⟨ys,?_,zb (le_of_lt ly),⟨_,zA,?_⟩,?_,?_,?_⟩
     ·rw [zD nrq,zD nrT];exact h4
     ·have e3:(xJ now m).take (i+1)=(xJ now m).take i++[(mo.2,(en':Int)-(mo.1:Int))]:=by
       rw [take_succ];congr 1;unfold xJ;rw [List.getElem?_zipWith,hmo,hz];rfl
      rw [e3];refine zAX (Paired.mapP h5 fun _ _ z=>z.keep tp) (.cons ⟨q,rfl,?_⟩ .nil);rw [zD nrq.symm,zA]
     ·rw [zD nlr,zD nlq,zD nlT];exact h6
     ·rw [zD ndr,zD ndq,zD ndT];exact h7
     ·exact((h8.upd (.inr (h8.none hT (by simp)))).upd (.inr (h8.none hqn (by simp)))).upd (.inr hrH)
   ·rintro H' ⟨⟨ys,h4,h5⟩,h6,h7,h8⟩
    have l3:(xJ now m).take (min xs.length ((m.tail.map (·.1)++[now]).map fun(e:Nat)=>V.int (e:Int)).length)=xJ now m:=by
     refine take_of_length_le ?_;unfold xJ;rw [List.length_zipWith,length_map];omega
    rw [l3] at h5;exact k H' r ys h4 hrH h5 h8
theorem zIj (now:Nat) (m:List (Nat×Nat)):xJ now (m.map fun p=>(p.1,V.int (p.2:Int)))=(zBd now m).map fun s=>(V.int s.1,s.2):=by
 unfold xJ zBd;rw [List.map_zipWith,List.zipWith_map_left];congr 2
 cases m with
 | nil=>rfl
 | cons a m =>
  show(m.map fun p=>(p.1,V.int (p.2:Int))).map (·.1)=m.map (·.1);rw [map_map];rfl
theorem wo:zL ["self","clock"] ["self","clock"] (zE jS):=by trivial
theorem zDO (D:zT K CM "spans" "Meter.spans" jS) (T:TX K mg CB CM CT) (jz:Has P w K mg base "spans_of" 1 ["moments","clock"] zAe):ve P w K mg base CM "spans" 2 ["self","clock"] (zCb CM):=by
 have nd:=wo.nd
 refine jp D wo (L2.bA2 fun _ _ _ _ _ _ _ _=>rfl) ?_ ?_
 ·rintro vs H Q E ⟨a,dx,g,l,lo,co,be,en,ea,la,ul,now,xs,m,rfl,_⟩;rfl
 ·rintro f cdv A outer s H vs Q E hr ⟨a,dx,g,l,lo,co,be,en,ea,la,ul,now,xs,m,rfl,ha,hl,hM,hm0,hm1,k⟩;refine⟨_,(zI (zP (vO jz (hr.mono (by decide)) (zB (zO (pv 0) rfl) (zB (pv 1) zG))))),?_⟩;refine⟨_,rfl,a,CM,dx,_,_,rfl,ha,T.clMeter,T.a4,mf4,_,rfl,l,now,xs,m.map fun p=>(p.1,V.int (p.2:Int)),rfl,hl,(zCf (G:=fun(x:V) (p:Nat×V)=>zP3 H x p.1 p.2) (f:=fun(p:Nat×Nat)=>(p.1,V.int (p.2:Int))) hM fun x p h=>h),by rw [length_map];exact hm1,fun H' p ys h1 h2 h3 k3=>k H' p ys h1 h2 ?_ k3⟩;rw [zIj] at h3;exact zHv h3 fun y s h=>h
def zAB (m:List (Int×Int)) (c:Int):Int:=((m.filter fun p=>p.1==c).map (·.2)).sum
theorem zKG (m:List (Int×Int)) (p:Int×Int) (c:Int):zAB (m++[p]) c=zAB m c+(if p.1=c then p.2 else 0):=by
 unfold zAB;rw [List.filter_append,map_append,List.sum_append];congr 1;by_cases h:p.1=c
 ·rw [if_pos h];simp [h]
 ·rw [if_neg h];simp [h]
structure zEm (kvs:List (Key×V)) (m:List (Int×Int)) (ns:List Int):Prop where
 keys:kvs.map (·.1)=ns.map Sum.inl
 nodup:ns.Nodup
 mem:∀ c,c∈ns↔c∈m.map (·.1)
 val:∀ c,c∈ns→yL kvs (Sum.inl c)=some (.int (zAB m c))
 len:ns.length≤m.length
theorem zFu {m:List (Int×Int)}{c:Int}(h:c∉m.map (·.1)):zAB m c=0:=by
 unfold zAB;rw [List.filter_eq_nil_iff.mpr]
 ·rfl
 ·intro p hp q;exact h (List.mem_map.mpr ⟨p,hp,by simpa using q⟩)
theorem zEm.none {kvs:List (Key×V)}{m:List (Int×Int)}{ns:List Int}(h:zEm kvs m ns){c:Int}(n:c∉ns):yL kvs (Sum.inl c)=Option.none:=by
 cases e:yL kvs (Sum.inl c) with
 | none=>rfl
 | some v =>
  have:=zNJ e;rw [h.keys] at this;obtain⟨x,hx,q⟩:=List.mem_map.mp this
  injection q with q
  subst q;exact absurd hx n
theorem zEm.get {kvs:List (Key×V)}{m:List (Int×Int)}{ns:List Int}(h:zEm kvs m ns) (c:Int):(yL kvs (Sum.inl c)).getD (.int 0) = .int (zAB m c):=by
 by_cases hc:c∈ns
 ·rw [h.val c hc];rfl
 ·rw [h.none hc,zFu fun z=>hc ((h.mem c).mpr z)];rfl
theorem zEm.put {kvs:List (Key×V)}{m:List (Int×Int)}{ns:List Int}(h:zEm kvs m ns) (p:Int×Int):∃ ns',zEm (zDI kvs (Sum.inl p.1) (.int (zAB m p.1+p.2))) (m++[p]) ns':=by
 have vals:∀ c,c∈ns∨c=p.1→yL (zDI kvs (Sum.inl p.1) (.int (zAB m p.1+p.2))) (Sum.inl c)=some (.int (zAB (m++[p]) c)):=fun c hc=>by
  rw [zLK,zKG];by_cases e:c=p.1
  ·subst e;rw [if_pos rfl,if_pos rfl]
  ·rw [if_neg fun z=>e (Sum.inl.inj z),if_neg fun z=>e z.symm,Int.add_zero];exact h.val c (hc.resolve_right e)
 have mem':∀ c,c∈(m++[p]).map (·.1)↔c∈ns∨c=p.1:=fun c=>by
  rw [map_append,List.mem_append,← h.mem];exact or_congr_right mem_singleton
 by_cases hc:p.1∈ns
 ·refine⟨ns,?_,h.nodup,fun c=>?_,fun c q=>vals c (.inl q),?_⟩
  ·unfold zDI;rw [yl,h.val _ hc];rw [if_pos (show(some (V.int (zAB m p.1))).isSome=true from rfl),map_map,← h.keys];refine map_congr_left fun kv _=>?_;show(if kv.1=Sum.inl p.1 then(kv.1,V.int (zAB m p.1+p.2)) else kv).1=kv.1;split<;>rfl
  ·rw [mem'];exact⟨.inl,fun z=>z.elim id fun z=>z▸hc⟩
  ·rw [length_append];exact le_trans h.len (le_add_right _ _)
 ·refine⟨ns++[p.1],?_,zDg h.nodup hc,fun c=>?_,fun c q=>vals c ?_,?_⟩
  ·rw [zHj _ (h.none hc),map_append,map_append,h.keys];rfl
  ·rw [mem',List.mem_append,mem_singleton]
  ·rw [List.mem_append,mem_singleton] at q;exact q
  ·rw [length_append,length_append];exact Nat.add_le_add_right h.len 1
def zFv:Sp:=fun vs H Q _=>∃ (l:Addr) (ys:List V) (m:List (Int×Int)),vs=[.ref l]∧H l=some (.lst ys)∧Prs H ys m∧m.length<1000∧∀ H' d kvs ns,H' d=some (.dK kvs)→H d=none→zEm kvs m ns→Kp [] H H'→Q (.ref d) H'
theorem vJ:zL ["spans","lengths","content","length"] ["spans"] (zE jf):=by trivial
theorem xc (D:zJ K mg "lengths_by_content" jf):Has P w K mg base "lengths_by_content" 1 ["spans"] zFv:=by
 have nd:=vJ.nd
 refine jo D vJ (L2.bA1 fun _ _ _ _ _ _ _=>rfl) ?_ ?_
 ·rintro vs H Q E ⟨l,ys,m,rfl,_⟩;rfl
 ·rintro f cdv A outer s H vs Q E hr ⟨l,ys,m,rfl,hl,hM,hm,k⟩;have hu:=zGl hr;refine⟨_,(zC (zU (i:=1) nd rfl (Or.inl rfl) zEY) (zC (yT PassesOwn.never rfl (jF (pv 0)) (zCL rfl (zV (zS (i:=2) nd rfl (Or.inl rfl)) (zV (zS (i:=3) nd rfl (Or.inl rfl)) jk))) (zI (zGk hu (pv 1) (pv 2) (jI zCM (zLN hu (pv 1) (pv 2) zH ⟨rfl,rfl,rfl,rfl⟩) (pv 3)) rfl))) (zI (zP (pv 1))))),?_⟩;intro d hd;have nld:l≠d:=zF hl hd;have ly:ys.length=m.length:=jK hM;refine⟨_,rfl,l,rfl,⟨_,SqL.of (by rw [zD nld];exact hl)⟩,kx (K:=K) (a:=l) (xs:=ys) (fun i σ H'=>∃ kvs ns v2 v3,σ=[some (.ref l),some (.ref d),v2,v3]∧H' d=some (.dK kvs)∧zEm kvs (m.take i) ns∧Kp [] H H') ?_ ?_ ?_ ?_⟩
  ·exact⟨[],[],none,none,rfl,zA,⟨rfl,.nil,fun c=>Iff.rfl,fun c h=>(nomatch h),le_refl _⟩,Kp.refl.upd (.inr hd)⟩
  ·rintro i σ H' _ ⟨kvs,ns,v2,v3,_,_,_,kp⟩;exact SqL.of (kp _ _ hl (by simp))
  ·rintro i x σ H' hi ⟨kvs,ns,v2,v3,rfl,h1,h2,kp⟩;obtain⟨p,hp,⟨q,rfl,hq⟩⟩:=vG hM hi;have hq':=kp _ _ hq (by simp)
   have e2:m.take (i+1)=m.take i++[p]:=by rw [take_succ,hp];rfl
   obtain⟨ns',h3⟩:=h2.put p;rw [← e2] at h3
   have hlen:kvs.length<sizeLine:=by
    have a:kvs.length=ns.length:=by
     have:=congrArg List.length h2.keys;rw [length_map,length_map] at this;exact this
    have b:=h2.len;rw [length_take] at b;exact zb (by omega)
   refine⟨q,_,rfl,SqT.of hq',rfl,_,_,rfl,_,_,rfl,rfl,?_⟩;refine⟨_,rfl,d,rfl,.inl ⟨kvs,.inl h1⟩,_,rfl,_,zGK.k (k:=Sum.inl p.1) h1,_,rfl,_,_,h2.get p.1,rfl,_,rfl,_,rfl,d,_,rfl,zNF.k (k:=Sum.inl p.1) h1 hlen,?_⟩;exact⟨_,ns',_,_,rfl,zA,h3,kp.upd (.inr hd)⟩
  ·rintro σ H' ⟨kvs,ns,v2,v3,rfl,h1,h2,kp⟩;rw [ly,take_length] at h2;exact⟨_,rfl,k H' d kvs ns h1 hd h2 kp⟩
def toI (s:Nat×Nat):Int×Int:=((s.1:Int),(s.2:Int))
def zHz:Sp:=fun vs H Q _=>∃ (l:Addr) (ys:List V) (m:List (Nat×Nat)),vs=[.ref l]∧H l=some (.lst ys)∧Prs H ys (m.map toI)∧m.length<1000∧∀ H' q,H' q=some (.lst (((wR (m.foldl j9 ([],none))).map fun(n:Nat)=>(n:Int)).map V.int))→H q=none→Kp [] H H'→Q (.ref q) H'
theorem zFw (m:List (Nat×Nat)):∀ (a:List Nat×Option Nat),(wR (m.foldl j9 a)).length≤(wR a).length+m.length:=by
 induction m with
 | nil=>intro a;exact le_refl _
 | cons s m ih =>
  intro a;rw [foldl_cons,length_cons];have h:=ih (j9 a s)
  have g:(wR (j9 a s)).length≤(wR a).length+1:=by
   by_cases h0:s.1=0
   ·rw [zDm a s h0];exact le_add_right _ _
   ·unfold j9 wR;rw [if_neg h0,length_append,length_append];show a.1.length+1≤_;omega
  omega
theorem zLg {α:Type}(xs:List α) (v u:α):(xs++[v]).set xs.length u=xs++[u]:=by
 rw [List.set_append_right _ _ (le_refl _),Nat.sub_self];rfl
theorem zNc {n:Nat}:ixN (n+1) (-1)=some n:=by
 unfold ixN;rw [if_neg (by decide),if_pos (by omega)];congr 1;omega
theorem zBe:zL ["spans","spells","is_busy","content","length"] ["spans"] (zE yr):=by trivial
theorem zFx (D:zJ K mg "spells_of" yr):Has P w K mg base "spells_of" 1 ["spans"] zHz:=by
 have nd:=zBe.nd
 refine jo D zBe (L2.bA1 fun _ _ _ _ _ _ _=>rfl) ?_ ?_
 ·rintro vs H Q E ⟨l,ys,m,rfl,_⟩;rfl
 ·rintro f cdv A outer s H vs Q E hr ⟨l,ys,m,rfl,hl,hM,hm,k⟩;refine⟨_,(zC (zU (i:=1) nd rfl (Or.inl rfl) (jO zG)) (zC (zU (i:=2) nd rfl (Or.inl rfl) zOB) (zC (yT PassesOwn.never rfl (jF (pv 0)) (zCL rfl (zV (zS (i:=3) nd rfl (Or.inl rfl)) (zV (zS (i:=4) nd rfl (Or.inl rfl)) jk))) (zC (kj (zJM (jl zFR (pv 3) zH (jc _)) (zGZ (vU (pv 2) (fun _=>rfl)))).pt (zI (zJP (pv 1) (zJS zFQ zH) zHt (pv 4) zHd zER)) (zI (kj (jl zFR (pv 3) zH (jc _)) (zI (jP (ww F.plainAttrs_list F.slot_list_append F.type_list_append kD (pv 1) (zB (pv 4) zG)))) jM))) (zI (zU (i:=2) nd rfl (Or.inl rfl) (yJ zFR (pv 3) zH (jc _)))))) (zI (zP (pv 1)))))),?_⟩;refine⟨zero_le _,fun d hd=>?_⟩;have nld:l≠d:=zF hl hd
  have ly:ys.length=m.length:=by rw [jK hM,length_map]
  refine⟨_,rfl,l,rfl,⟨_,SqL.of (by rw [zD nld];exact hl)⟩,kx (K:=K) (a:=l) (xs:=ys) (fun i σ H'=>∃ v3 v4,σ=[some (.ref l),some (.ref d),some (.bl ((m.take i).foldl j9 ([],none)).2.isSome),v3,v4]∧H' d=some (.lst (((wR ((m.take i).foldl j9 ([],none))).map fun(n:Nat)=>(n:Int)).map V.int))∧Kp [] H H') ?_ ?_ ?_ ?_⟩
  ·exact⟨none,none,rfl,zA,Kp.refl.upd (.inr hd)⟩
  ·rintro i σ H' _ ⟨v3,v4,_,_,kp⟩;exact SqL.of (kp _ _ hl (by simp))
  ·rintro i x σ H' hi ⟨v3,v4,rfl,h1,kp⟩;obtain⟨p',hp',⟨q,rfl,hq⟩⟩:=vG hM hi;rw [getElem?_map] at hp';obtain⟨p,hp,rfl⟩:=Option.map_eq_some_iff.mp hp';have hq':=kp _ _ hq (by simp)
   have e2:(m.take (i+1)).foldl j9 ([],none)=j9 ((m.take i).foldl j9 ([],none)) p:=by
    rw [take_succ,hp];exact zIP _ _ _
   rw [e2];have ln:=zFw (m.take i) ([],none);rw [length_take] at ln
   have ln':(wR ((m.take i).foldl j9 ([],none))).length≤m.length:=by
    have:(wR (([],none):List Nat×Option Nat)).length=0:=rfl;omega
   generalize (m.take i).foldl j9 ([],none)=a at h1 ln' ⊢;obtain⟨a1,a2⟩:=a;refine⟨q,_,rfl,SqT.of hq',rfl,_,_,rfl,_,_,rfl,rfl,?_⟩;refine⟨_,rfl,_,_,rfl,rfl,_,rfl,?_⟩;by_cases h0:p.1=0
   ·have c0:decide ((0:Int)<(p.1:Int))=false:=decide_eq_false (by omega);rw [show decide ((0:Int)<(toI p).1)=false from c0];refine ym (ym ⟨_,rfl,_,_,rfl,rfl,_,rfl,?_⟩);rw [show decide ((0:Int)<(toI p).1)=false from c0];refine ym ⟨_,rfl,_,_,rfl,rfl,some (.int (toI p).1),some (.int (toI p).2),?_,?_,kp⟩
    ·dsimp only;rw [show decide ((0:Int)<(toI p).1)=false from c0,zEJ h0];rfl
    ·rw [zDm (a1,a2) p h0];exact h1
   ·have c0:decide ((0:Int)<(p.1:Int))=true:=decide_eq_true (by omega);rw [show decide ((0:Int)<(toI p).1)=true from c0];rw [zEK h0]
    cases a2 with
    | none =>
     refine yc ⟨_,rfl,_,rfl,ym ⟨_,rfl,_,_,rfl,rfl,_,rfl,?_⟩⟩;rw [show decide ((0:Int)<(toI p).1)=true from c0];refine yc ⟨_,rfl,.inl ⟨rfl,_,SqL.of h1⟩,_,rfl,d,_,_,rfl,rfl,h1,by rw [length_map,length_map];exact zb (by omega),?_⟩;refine⟨_,rfl,_,_,rfl,rfl,some (.int (toI p).1),some (.int (toI p).2),?_,?_,kp.upd (.inr hd)⟩
     ·dsimp only;rw [show decide ((0:Int)<(toI p).1)=true from c0];rfl
     ·rw [zA];show _=some (HO.lst (((a1++[0+p.2]).map fun(n:Nat)=>(n:Int)).map V.int));rw [zero_add,map_append,map_append];show some (HO.lst (((a1++[]).map fun(n:Nat)=>(n:Int)).map V.int++_))=_;rw [append_nil];rfl
    | some c =>
     have eL:((wR (a1,some c)).map fun(n:Nat)=>(n:Int)).map V.int=((a1.map fun(n:Nat)=>(n:Int)).map V.int)++[V.int (c:Int)]:=by
      show((a1++[c]).map fun(n:Nat)=>(n:Int)).map V.int=_;rw [map_append,map_append];rfl
     rw [eL] at h1;refine yc ⟨_,rfl,_,rfl,yc ⟨_,rfl,_,rfl,d,_,-1,.int (c:Int),rfl,rfl,SqL.of h1,zEQ _ _,_,rfl,_,_,rfl,rfl,d,_,-1,(((a1.map fun(n:Nat)=>(n:Int)).map V.int)).length,rfl,rfl,h1,?_,?_⟩⟩
     ·rw [length_append];exact zNc
     ·rw [zLg];refine⟨_,rfl,_,_,rfl,rfl,some (.int (toI p).1),some (.int (toI p).2),?_,?_,kp.upd (.inr hd)⟩
      ·dsimp only;rw [show decide ((0:Int)<(toI p).1)=true from c0];rfl
      ·rw [zA];show _=some (HO.lst (((a1++[c+p.2]).map fun(n:Nat)=>(n:Int)).map V.int));rw [map_append,map_append];rfl
  ·rintro σ H' ⟨v3,v4,rfl,h1,kp⟩;rw [ly,take_length] at h1;exact⟨_,rfl,k H' d h1 hd kp⟩
def zH0:Sp:=fun vs H Q _=>∃ (l:Addr) (ys:List V) (m:List (Int×Int)),vs=[.ref l]∧H l=some (.lst ys)∧Prs H ys m∧m.length<100∧∀ H' q,H' q=some (.lst ((m.flatMap fun p=>[p.1,p.2]).map V.int))→H q=none→Kp [] H H'→Q (.ref q) H'
theorem zKH (m:List (Int×Int)):(m.flatMap fun p=>[p.1,p.2]).length=m.length*2:=by
 induction m with
 | nil=>rfl
 | cons p m ih=>rw [flatMap_cons,length_append,ih];show 2+m.length*2=(m.length+1)*2;omega
theorem zAf:zL ["fractions","told","fraction"] ["fractions"] (zE yC):=by trivial
theorem zEn (D:zJ K mg "numbers_of" yC):Has P w K mg base "numbers_of" 1 ["fractions"] zH0:=by
 have nd:=zAf.nd
 refine jo D zAf (L2.bA1 fun _ _ _ _ _ _ _=>rfl) ?_ ?_
 ·rintro vs H Q E ⟨l,ys,m,rfl,_⟩;rfl
 ·rintro f cdv A outer s H vs Q E hr ⟨l,ys,m,rfl,hl,hM,hm,k⟩;refine⟨_,(zC (zU (i:=1) nd rfl (Or.inl rfl) (jO zG)) (zC (yT PassesOwn.never rfl (jF (pv 0)) (zS (i:=2) nd rfl (Or.inl rfl)) (zI (jP (ww F.plainAttrs_list F.slot_list_extend F.type_list_extend zA6 (pv 1) (zB (pv 2) zG))))) (zI (zP (pv 1))))),?_⟩;refine⟨zero_le _,fun d hd=>?_⟩;have nld:l≠d:=zF hl hd;have ly:ys.length=m.length:=jK hM;refine⟨_,rfl,l,rfl,⟨_,SqL.of (by rw [zD nld];exact hl)⟩,kx (K:=K) (a:=l) (xs:=ys) (fun i σ H'=>∃ v2,σ=[some (.ref l),some (.ref d),v2]∧H' d=some (.lst (((m.take i).flatMap fun p=>[p.1,p.2]).map V.int))∧Kp [] H H') ?_ ?_ ?_ ?_⟩
  ·exact⟨none,rfl,zA,Kp.refl.upd (.inr hd)⟩
  ·rintro i σ H' _ ⟨v2,_,_,kp⟩;exact SqL.of (kp _ _ hl (by simp))
  ·rintro i x σ H' hi ⟨v2,rfl,h1,kp⟩;obtain⟨p,hp,⟨q,rfl,hq⟩⟩:=vG hM hi;have hq':=kp _ _ hq (by simp)
   have e2:m.take (i+1)=m.take i++[p]:=by rw [take_succ,hp];rfl
   refine⟨_,rfl,.inl ⟨rfl,_,SqL.of h1⟩,_,rfl,d,q,_,_,rfl,rfl,h1,SqT.of hq',?_,_,rfl,?_,kp.upd (.inr hd)⟩
   ·rw [length_map,zKH,length_take];show _+2≤sizeLine;have:=zb (n:=999) (by decide);omega
   ·rw [zA,e2,List.flatMap_append,map_append];rfl
  ·rintro σ H' ⟨v2,rfl,h1,kp⟩;rw [ly,take_length] at h1;exact⟨_,rfl,k H' d h1 hd kp⟩
def zOu (H:Hp) (x:V) (s:Rat×Int):Prop:=∃ u,zNb H x u s.2∧IsQ H u (toQ s.1)
def zDy:Sp:=fun vs H Q _=>∃ (l:Addr) (ys:List V) (m:List (Rat×Int)),vs=[.ref l]∧H l=some (.lst ys)∧Paired (zOu H) ys m∧m.length<1000∧(∀ s∈m,Fit s.1∧s.2.natAbs<2 ^ 64)∧∀ H',Kp [] H H'→Q (.int (m.map fun s=>thousandths (toQ s.1)*s.2).sum) H'
theorem wq:zL ["spans","member","length"] ["spans"] (zE kU):=by trivial
theorem zDP (D:zJ K mg "integral_of" kU) (T:TX K mg CB CM CT):Has P w K mg base "integral_of" 1 ["spans"] zDy:=by
 have nd:=wq.nd
 refine jo D wq (L2.bA1 fun _ _ _ _ _ _ _=>rfl) ?_ ?_
 ·rintro vs H Q E ⟨l,ys,m,rfl,_⟩;rfl
 ·rintro f cdv A outer s H vs Q E hr ⟨l,ys,m,rfl,hl,hM,hm,hf,k⟩;refine⟨_,(zI (zP (zh (zBZ rfl) (by rfl) T.n_sum boot_sum (zB (xX (own:=[("member",1),("length",2)]) rfl nd (jF (pv 0)) (zx (by show zBb ["spans","member","length"] (zE kU) _ _=true;decide +kernel)) (fun _ _ _ _ _=>(km K (n:=2) rfl rfl (zV (zS (i:=1) nd rfl (Or.inl rfl)) (zV (zS (i:=2) nd rfl (Or.inl rfl)) jk)))) (fun _ _ _ _ _=>jm) (fun _ _ _ _ _=>(jI jG (jI yo (jI jG zH (zN (jg K rfl) (pv 1) zH (fun _ _=>rfl))) (zN (jg K rfl) (pv 1) zH (fun _ _=>rfl))) (pv 2)))) zG)))),?_⟩;refine⟨_,rfl,l,rfl,⟨_,SqL.of hl⟩,fun d hD=>?_⟩;refine yM (K:=K) (m:=m) (fun s=>some (.int (thousandths (toQ s.1)*s.2))) hl hM hm hD ?_ ?_
  ·rintro x s H' ⟨u,⟨q,rfl,hq⟩,⟨z,rfl,hz⟩⟩ ms kp Yes No hy _;have hq':=kp _ _ hq (by simp);have hz':=kp _ _ hz (by simp);have fs:=(hf s ms).1.abs
   have dp:(0:Int)<((toQ s.1).den:Int):=by
    have:0<s.1.den:=pos_of_ne_zero s.1.den_nz;show(0:Int)<(s.1.den:Int);omega
   have th:(thousandths (toQ s.1)).natAbs<2 ^ 128:=by
    show((1000*(toQ s.1).num)/((toQ s.1).den:Int)).natAbs<2 ^ 128
    have a1:(1000*(toQ s.1).num).natAbs<2 ^ 80:=by
     have:=fs.1;rw [Int.natAbs_mul];show 1000*_<2 ^ 80;omega
    refine lt_of_le_of_lt (Int.natAbs_ediv_le_natAbs _ _) (lt_of_lt_of_le a1 (by decide))
   refine⟨q,_,rfl,SqT.of hq',rfl,_,_,rfl,_,_,rfl,rfl,rfl,?_⟩;refine⟨_,rfl,.inr (.inl ⟨z,_,0,.int (toQ s.1).num,rfl,rfl,SqT.of hz',rfl,_,_,rfl,rfl,zBC (k:=64) (l:=64) (by decide) fs.1,?_⟩)⟩;refine⟨_,rfl,.inr (.inl ⟨z,_,1,.int ((toQ s.1).den:Int),rfl,rfl,SqT.of hz',rfl,_,_,rfl,rfl,⟨dp,lt_of_lt_of_le (kH fs.2 (by decide)) (by decide)⟩,_,rfl,_,_,rfl,rfl,zBC (k:=128) (l:=64) th (hf s ms).2,hy _ rfl⟩)⟩
  ·rintro H1 h1 k1;rw [show m.filterMap (fun s=>some (V.int (thousandths (toQ s.1)*s.2)))=(m.map fun s=>thousandths (toQ s.1)*s.2).map V.int from by rw [filterMap_eq_map',map_map];rfl] at h1;exact⟨d,_,rfl,SqL.of h1,k H1 k1⟩
def zMN:Sp:=fun vs H Q _=>∃ (l:Addr) (y:V) (ys:List V) (m:List (Rat×Int)) (a:Int) (b:Nat),vs=[.ref l,y]∧H l=some (.lst ys)∧Paired (zOu H) ys m∧m.length<1000∧(∀ s∈m,Fit s.1)∧zA8 H y a b∧0<b∧a.natAbs<2 ^ 64∧b<2 ^ 64∧∀ H',Kp [] H H'→Q (.int (m.map fun s=>if mkRat a b≤s.1 then s.2 else 0).sum) H'
theorem zLh (r:Rat) (a:Int){b:Nat}(hb:b≠0):(!decide ((toQ r).num*(b:Int)<a*((toQ r).den:Int)))=decide (mkRat a b≤r):=by
 have e:mkRat a b≤r↔a*(r.den:Int)≤r.num*(b:Int):=by
  have:=zJD (a:=a) (c:=r.num) hb r.den_nz;rw [yd] at this;exact this
 rw [Bool.eq_iff_iff,Bool.not_eq_true',decide_eq_false_iff_not,decide_eq_true_eq,e];exact Int.not_lt
theorem wr:zL ["spans","bound","member","length"] ["spans","bound"] (zE kW):=by trivial
theorem zDQ (D:zJ K mg "length_from" kW) (T:TX K mg CB CM CT) (vj:Has P w K mg base "is_less" 1 ["first","second"] zFr):Has P w K mg base "length_from" 2 ["spans","bound"] zMN:=by
 have nd:=wr.nd
 refine jo D wr (L2.bA2 fun _ _ _ _ _ _ _ _=>rfl) ?_ ?_
 ·rintro vs H Q E ⟨l,y,ys,m,a,b,rfl,_⟩;rfl
 ·rintro f cdv A outer s H vs Q E hr ⟨l,y,ys,m,a,b,rfl,hl,hM,hm,hf,hy,hb,ba,bb,k⟩;refine⟨_,(zI (zP (zh (zBZ rfl) (by rfl) T.n_sum boot_sum (zB (xX (own:=[("member",2),("length",3)]) rfl nd (jF (pv 0)) (zx (by show zBb ["spans","bound","member","length"] (zE kW) _ _=true;decide +kernel)) (fun _ _ _ _ _=>(km K (n:=2) rfl rfl (zV (zS (i:=2) nd rfl (Or.inl rfl)) (zV (zS (i:=3) nd rfl (Or.inl rfl)) jk)))) (fun _ _ _ _ _=>(zLc (zCd K rfl (vO vj (hr.mono (by decide)) (zB (pv 2) (zB (pv 1) zG))) (fun _=>rfl)))) (fun _ _ _ _ _=>(pv 3))) zG)))),?_⟩;refine⟨_,rfl,l,rfl,⟨_,SqL.of hl⟩,fun d hD=>?_⟩;refine yM (K:=K) (m:=m) (fun s=>(if(decide (mkRat a b≤s.1))=true then some s.2 else none).map V.int) hl hM hm hD ?_ ?_
  ·rintro x s H' ⟨u,⟨q,rfl,hq⟩,hz⟩ ms kp Yes No yes no;have hq':=kp _ _ hq (by simp);have tp:jd H H':=kp.tups (by simp);have fs:=(hf s ms).abs;refine⟨q,_,rfl,SqT.of hq',rfl,_,_,rfl,_,_,rfl,rfl,rfl,?_⟩;refine⟨_,rfl,_,rfl,u,y,_,_,_,_,rfl,hz.keep tp,hy.keep tp,⟨fs.1,fs.2,ba,by rw [natAbs_natCast];exact bb⟩,_,rfl,?_⟩;show(if(!decide ((toQ s.1).num*(b:Int)<a*((toQ s.1).den:Int)))=true then _ else _);rw [zLh s.1 a (ne_of_gt hb)];by_cases c:mkRat a b≤s.1
   ·rw [decide_eq_true c] at yes ⊢;exact yc ⟨_,rfl,yes _ rfl⟩
   ·rw [decide_eq_false c] at no ⊢;exact ym (no rfl)
  ·rintro H1 h1 k1;rw [zGu] at h1;refine⟨d,_,rfl,SqL.of h1,?_⟩;rw [zHu];have:=k H1 k1;simp only [decide_eq_true_eq];exact this
end
end Mb
namespace Mb
open PySem PySem.Spec PyProof.Rows L2
abbrev zAg:Stmt:=top 25
abbrev zAh:Stmt:=top 26
abbrev wJ:Stmt:=top 27
abbrev wK:Stmt:=top 28
def zH1 (p:Nat):Prop:=p≤3∨p=6∨p=7∨p=8
def zBq (CB CM CT:Addr) (p:Nat):Sp:=fun vs H Q _=>∃ (L:Lay) (b:Bank) (nl:Addr) (ns:List Int) (n:Nat),vs=[.ref L.bk,.ref nl]∧zc CB CM CT H L b∧zw n b∧n<500∧H nl=some (.lst (ns.map V.int))∧(∀ r,live b r→L.at r≠nl) ∧
 rng p ns=true∧(zH1 p→(b.clock:Int)≤ns.headD 0) ∧
 ∀ H' L',zc CB CM CT H' L' (after b (chg p b ns)).1→zDF L b H H'→zCY L L' b (after b (chg p b ns)).1 H→L'.bk=L.bk→Q (.int (after b (chg p b ns)).2) H'
theorem zCY.refl {L:Lay}{b:Bank}{H:Hp}:zCY L L b b H:=fun r h => .inl ⟨h,rfl⟩
theorem zDF.refl {L:Lay}{b:Bank}{H:Hp}:zDF L b H H:=fun _ _ h _=>h
theorem zQe {p:Nat}{ns:List Int}(hp:p=0) (h:rng p ns=true):∃ t m x u:Nat,ns=[(t:Int),(m:Int),(x:Int),(u:Int)]∧t≤BIG∧m<256∧(1≤x∧x≤1000000000)∧(1≤u∧u≤1000000000):=by
 subst hp
 match ns,h with
 | [t,m,x,u],h =>
  simp only [rg,Bool.and_eq_true,okT,okM,okX,zm] at h;refine⟨t.toNat,m.toNat,x.toNat,u.toNat,?_,by unfold BIG;omega,by omega,by omega,by omega⟩;rw [toNat_of_nonneg (by omega),toNat_of_nonneg (by omega),toNat_of_nonneg (by omega),toNat_of_nonneg (by omega)]
theorem zPo {p:Nat}{ns:List Int}(hp:p=1∨p=2∨p=3) (h:rng p ns=true):∃ t m x:Nat,ns=[(t:Int),(m:Int),(x:Int)]∧t≤BIG∧m<256∧(1≤x∧x≤1000000000):=by
 have key:∀ t m x:Int,(okT t&&(okM m&&okX x))=true→∃ t' m' x':Nat,[t,m,x]=[(t':Int),(m':Int),(x':Int)]∧t'≤BIG∧m'<256∧(1≤x'∧x'≤1000000000):=by
  intro t m x h;simp only [Bool.and_eq_true,okT,okM,okX,zm] at h;refine⟨t.toNat,m.toNat,x.toNat,?_,by unfold BIG;omega,by omega,by omega⟩;rw [toNat_of_nonneg (by omega),toNat_of_nonneg (by omega),toNat_of_nonneg (by omega)]
 rcases hp with rfl | rfl | rfl
 ·match ns,h with
  | [t,m,x],h=>exact key t m x h
 ·match ns,h with
  | [t,m,x],h=>exact key t m x h
 ·match ns,h with
  | [t,m,x],h=>exact key t m x h
theorem zEo {L:Lay}{m:Nat}(h:m<256):atI ((List.range 256).map fun i=>V.ref (L.m i)) (m:Int)=some (.ref (L.m m)):=by
 refine yK ?_;rw [getElem?_map,getElem?_range h];rfl
theorem zBF {CB CM CT:Addr}{H H':Hp}{L:Lay}{b c:Bank}{i n:Nat}{v:Meter}{r:Vbdeai.R}{Q:VK}(B:zc CB CM CT H L b) (ok:zw n b) (hi:i<256) (t:Nat) (hr:r = .ok ({ b with clock:=t }.setMeter i v))
  (M:kJ CM H' (L.m i) (L.g i) (L.mo i) b.since v) (k:Kp [L.m i,L.g i,L.mo i] H H')
  (q:∀ H' L',zc CB CM CT H' L' (after b r).1→zDF L b H H'→zCY L L' b (after b r).1 H→L'.bk=L.bk→Q (.int (after b r).2) H'):Q (.int 0) H':=by
 subst hr;have e:(after b (.ok ({ b with clock:=t }.setMeter i v))).1=b.setMeter i v:=rfl;refine q H' L ?_ ?_ ?_ rfl
 ·rw [e];exact B.meterStep ok.lm hi M k
 ·intro a o h ns;refine k a o h fun mem=>?_
  rcases List.mem_cons.mp mem with z | mem
  ·exact ns (.m i) hi z.symm
  rcases List.mem_cons.mp mem with z | mem
  ·exact ns (.g i) hi z.symm
  rcases List.mem_cons.mp mem with z | mem
  ·exact ns (.mo i) hi z.symm
  cases mem
 ·rw [e];intro r h;exact .inl ⟨by cases r<;>exact h,rfl⟩
theorem zNd {b:Bank}{t:Nat}(m x u:Nat) (h:b.clock≤t):Vbdeai.join b t m x u=if((b.meter m).ins.any fun s=>s.id==x)=true then .err 4 else if Vbdeai.CAP≤(b.meter m).ins.length then .err 5 else
  .ok ({ b with clock:=t }.setMeter m { b.meter m with ins:=(b.meter m).ins++[(⟨x,u,t⟩:Stay)],evs:=(⟨t,true,x,u,t⟩:Vbdeai.Ev)::(b.meter m).evs }):=by
 unfold Vbdeai.join Vbdeai.timed;rw [if_neg (Nat.not_lt.mpr h)];rfl
theorem zNe {b:Bank}{t:Nat}(m x:Nat) (h:b.clock≤t):Vbdeai.quit b t m x=match (b.meter m).ins.find? fun s=>s.id==x with
  | none => .err 4
  | some s => .ok ({ b with clock:=t }.setMeter m { b.meter m with ins:=(b.meter m).ins.filter (fun r=>r.id != x),evs:=(⟨t,false,x,s.units,s.since⟩:Vbdeai.Ev)::(b.meter m).evs }):=by
 unfold Vbdeai.quit Vbdeai.timed;rw [if_neg (Nat.not_lt.mpr h)];rfl
theorem zLi {b:Bank}{t:Nat}(m n:Nat) (h:b.clock≤t):Vbdeai.raise b t m n = .ok ({ b with clock:=t }.setMeter m { b.meter m with loose:=(b.meter m).loose+n,evs:=(⟨t,true,0,n,t⟩:Vbdeai.Ev)::(b.meter m).evs }):=by
 unfold Vbdeai.raise Vbdeai.timed;rw [if_neg (Nat.not_lt.mpr h)];rfl
theorem zLj {b:Bank}{t:Nat}(m n:Nat) (h:b.clock≤t):Vbdeai.lower b t m n=if(b.meter m).loose<n then .err 6 else .ok ({ b with clock:=t }.setMeter m { b.meter m with loose:=(b.meter m).loose-n,evs:=(⟨t,false,0,n,t⟩:Vbdeai.Ev)::(b.meter m).evs }):=by
 unfold Vbdeai.lower Vbdeai.timed;rw [if_neg (Nat.not_lt.mpr h)];rfl
section
variable {P:Program}{w:World}{K:W.Frag}{mg:Str→Option Value}{base:Heap}{CB CM CT:Addr}
theorem zDz:zL ["book","numbers","meter"] ["book","numbers"] (zE zAg):=by trivial
theorem zFy (T:TX K mg CB CM CT) (zHB:ve P w K mg base CM "admit" 2 ["self","time","name","units"] (zJ3 CM)):zAA P w K mg base ["book","numbers","meter"] "do_join" zAg 2 (zBq CB CM CT 0):=by
 have nd:=zDz.nd;rintro f cdv A outer s H vs Q E hr ⟨L,b,nl,ns,n,rfl,B,ok,hn,hnl,sep,hrg,htm,k⟩;have hu:=zGl hr;obtain⟨t,m,x,u,rfl,ht,hm,hx,hu1⟩:=zQe rfl hrg
 have hcl:b.clock≤t:=by have:=htm (.inl (by decide));simp only [headD_cons] at this;omega
 have mok:=ok.mok m hm;obtain⟨dxb,hbk⟩:=B.bk;obtain⟨⟨dx,ha⟩,⟨kvs,hg,hG⟩,⟨xs,hl,hM⟩⟩:=B.mt m hm;unfold zEd at ha;refine⟨_,(zC (zU (i:=2) nd rfl (Or.inl rfl) (zN zK (zO (pv 0) rfl) (zN zK (pv 1) zH (fun _ _=>rfl)) (fun _ _=>rfl))) (zC (kj (wc (zOb hu (zN zK (pv 1) zH (fun _ _=>rfl)) (zO (pv 2) rfl))) (zI (zP (zn T.cWRONG_PARTNER))) jM) (zC (kj (jl zPU (zh zAV (by rfl) T.n_len boot_len (zB (zO (pv 2) rfl) zG)) (zn T.cMOST_GUESTS) (jc _)) (zI (zP (zn T.cFULL))) jM) (zC (jP (vF T.clMeter zHB (hr.mono (by decide)) (pv 2) (zB (zN zK (pv 1) zH (fun _ _=>rfl)) (zB (zN zK (pv 1) zH (fun _ _=>rfl)) (zB (zN zK (pv 1) zH (fun _ _=>rfl)) zG))))) (zI (zP (zn T.cDONE))))))),?_⟩;have lg:kvs.length=(b.meter m).ins.length:=jK hG
 have lx:xs.length<1000:=by rw [jK hM,wk];have:=ok.evs m hm;omega
 refine⟨_,rfl,L.bk,CB,dxb,_,_,rfl,hbk,T.clBook,T.b3,bf3,_,rfl,.inl ⟨nl,_,1,.int (m:Int),rfl,rfl,SqL.of hnl,rfl,.inl ⟨L.lm,_,_,_,rfl,rfl,SqL.of B.lm,zEo hm,?_⟩⟩⟩;refine⟨_,rfl,.inl ⟨nl,_,2,.int (x:Int),rfl,rfl,SqL.of hnl,rfl,?_⟩⟩;refine⟨_,rfl,L.m m,CM,dx,_,_,rfl,ha,T.clMeter,T.a1,mf1,L.g m,_,rfl,zGK.k (k:=Sum.inl (x:Int)) hg,_,rfl,?_⟩;rw [zLY hG];rw [show chg 0 b [(t:Int),(m:Int),(x:Int),(u:Int)]=_ from zNd m x u hcl] at k
 cases e1:(b.meter m).ins.any (fun s=>s.id==x) with
 | true =>
  rw [e1,if_pos rfl] at k;refine yc ?_;exact k H L B zDF.refl zCY.refl rfl
 | false =>
  rw [e1,if_neg Bool.false_ne_true] at k;refine ym ?_;refine⟨_,rfl,L.m m,CM,dx,_,_,rfl,ha,T.clMeter,T.a1,mf1,L.g m,kvs,rfl,hg,_,_,rfl,rfl,_,rfl,?_⟩;refine zMG (fun h=>?_) fun h=>?_
  ·have h:Vbdeai.CAP≤(b.meter m).ins.length:=by have:=of_decide_eq_true h;unfold Vbdeai.CAP;omega
   rw [if_pos h] at k;exact k H L B zDF.refl zCY.refl rfl
  ·have h:¬ Vbdeai.CAP≤(b.meter m).ins.length:=fun z=>h (decide_eq_true (by unfold Vbdeai.CAP at z;omega));rw [if_neg h] at k;refine⟨_,rfl,L.m m,dx,_,rfl,ha,mn2,_,rfl,.inl ⟨nl,_,0,.int (t:Int),rfl,rfl,SqL.of hnl,rfl,?_⟩⟩;refine⟨_,rfl,.inl ⟨nl,_,2,.int (x:Int),rfl,rfl,SqL.of hnl,rfl,?_⟩⟩;refine⟨_,rfl,.inl ⟨nl,_,3,.int (u:Int),rfl,rfl,SqL.of hnl,rfl,?_⟩⟩;refine⟨L.m m,dx,L.g m,L.mo m,_,_,_,_,_,_,_,t,x,u,xs,kvs,rfl,ha,hl,lx,hg,(by rw [lg];unfold Vbdeai.CAP at h;omega),?_⟩;rintro H' h1 ⟨y1,h2,h3⟩ ⟨y2,h4,h5⟩ h6
   have tp:jd H H':=h6.tups fun a ha' zs=>by
    rcases List.mem_cons.mp ha' with z | ha'
    ·rw [z,ha];exact nofun
    rcases List.mem_cons.mp ha' with z | ha'
    ·rw [z,hg];exact nofun
    rcases List.mem_cons.mp ha' with z | ha'
    ·rw [z,hl];exact nofun
    cases ha'
   refine zBF (c:=b) B ok hm t rfl ⟨⟨dx,?_⟩,⟨_,h4,?_⟩,⟨_,h2,?_⟩⟩ h6 k
   ·rw [zKA _ _ _ _ _ _ hx.1];exact h1
   ·exact zJ4 (hG.keep tp) (zAQ.mp e1) h5
   ·refine(congrArg (zLX H' _) (zNY b.since (b.meter m) ⟨t,true,x,u,t⟩ ((b.meter m).ins++[⟨x,u,t⟩]) (b.meter m).loose mok.ends)).mpr ?_;exact zAX (hM.keep tp) (.cons h3 .nil)
theorem zD0:zL ["book","numbers","meter"] ["book","numbers"] (zE zAh):=by trivial
theorem zFz (T:TX K mg CB CM CT) (zC3:ve P w K mg base CM "dismiss" 2 ["self","time","name"] (zFk CM)):zAA P w K mg base ["book","numbers","meter"] "do_quit" zAh 2 (zBq CB CM CT 1):=by
 have nd:=zD0.nd;rintro f cdv A outer s H vs Q E hr ⟨L,b,nl,ns,n,rfl,B,ok,hn,hnl,sep,hrg,htm,k⟩;have hu:=zGl hr;obtain⟨t,m,x,rfl,ht,hm,hx⟩:=zPo (.inl rfl) hrg
 have hcl:b.clock≤t:=by have:=htm (.inl (by decide));simp only [headD_cons] at this;omega
 have mok:=ok.mok m hm;obtain⟨dxb,hbk⟩:=B.bk;obtain⟨⟨dx,ha⟩,⟨kvs,hg,hG⟩,⟨xs,hl,hM⟩⟩:=B.mt m hm;unfold zEd at ha;refine⟨_,(zC (zU (i:=2) nd rfl (Or.inl rfl) (zN zK (zO (pv 0) rfl) (zN zK (pv 1) zH (fun _ _=>rfl)) (fun _ _=>rfl))) (zC (kj (wc (zJm hu (zN zK (pv 1) zH (fun _ _=>rfl)) (zO (pv 2) rfl))) (zI (zP (zn T.cWRONG_PARTNER))) jM) (zC (jP (vF T.clMeter zC3 (hr.mono (by decide)) (pv 2) (zB (zN zK (pv 1) zH (fun _ _=>rfl)) (zB (zN zK (pv 1) zH (fun _ _=>rfl)) zG)))) (zI (zP (zn T.cDONE)))))),?_⟩
 have lx:xs.length<1000:=by rw [jK hM,wk];have:=ok.evs m hm;omega
 refine⟨_,rfl,L.bk,CB,dxb,_,_,rfl,hbk,T.clBook,T.b3,bf3,_,rfl,.inl ⟨nl,_,1,.int (m:Int),rfl,rfl,SqL.of hnl,rfl,.inl ⟨L.lm,_,_,_,rfl,rfl,SqL.of B.lm,zEo hm,?_⟩⟩⟩;refine⟨_,rfl,.inl ⟨nl,_,2,.int (x:Int),rfl,rfl,SqL.of hnl,rfl,?_⟩⟩;refine⟨_,rfl,L.m m,CM,dx,_,_,rfl,ha,T.clMeter,T.a1,mf1,L.g m,_,rfl,zGK.k (k:=Sum.inl (x:Int)) hg,_,rfl,?_⟩;rw [show chg 1 b [(t:Int),(m:Int),(x:Int)]=_ from zNe m x hcl] at k
 cases e1:(b.meter m).ins.find? (fun s=>s.id==x) with
 | none =>
  rw [e1] at k
  have e2:yL kvs (Sum.inl (x:Int))=none:=zEf hG (zAQ.mp (by
   rw [List.any_eq_false];intro s hs;exact List.find?_eq_none.mp e1 s hs))
  rw [e2];refine yc ?_;exact k H L B zDF.refl zCY.refl rfl
 | some st =>
  rw [e1] at k;obtain⟨y,hy,hpr⟩:=zHq hG e1;rw [hy];refine ym ?_;have mst:=List.mem_of_find?_eq_some e1;have pst:=mok.pos st mst;have hst:st.since≤t:=le_trans pst.2.2.2.2.2 hcl;refine⟨_,rfl,L.m m,dx,_,rfl,ha,mn3,_,rfl,.inl ⟨nl,_,0,.int (t:Int),rfl,rfl,SqL.of hnl,rfl,?_⟩⟩;refine⟨_,rfl,.inl ⟨nl,_,2,.int (x:Int),rfl,rfl,SqL.of hnl,rfl,?_⟩⟩;refine⟨L.m m,dx,L.g m,L.mo m,_,_,_,_,_,_,_,t,x,st.units,st.since,xs,kvs,y,rfl,ha,hl,lx,hg,hy,hpr,(by omega),(by unfold BIG at ht;omega),?_⟩;rintro H' h1 ⟨y1,h2,h3⟩ h4 h6
  have tp:jd H H':=h6.tups fun a ha' zs=>by
   rcases List.mem_cons.mp ha' with z | ha'
   ·rw [z,ha];exact nofun
   rcases List.mem_cons.mp ha' with z | ha'
   ·rw [z,hg];exact nofun
   rcases List.mem_cons.mp ha' with z | ha'
   ·rw [z,hl];exact nofun
   cases ha'
  refine zBF (c:=b) B ok hm t rfl ⟨⟨dx,?_⟩,⟨_,h4,?_⟩,⟨_,h2,?_⟩⟩ h6 k
  ·exact(congrArg (fun z=>H' (L.m m)=some (HO.ins CM dx z)) (zKB (L.g m) (L.mo m) (b.meter m) t x st hx.1 mok.nd e1 hst)).mpr h1
  ·exact zLZ (hG.keep tp) x
  ·refine(congrArg (zLX H' _) (zNY b.since (b.meter m) ⟨t,false,x,st.units,st.since⟩ ((b.meter m).ins.filter fun r=>r.id != x) (b.meter m).loose mok.ends)).mpr ?_;refine zAX (hM.keep tp) (.cons ?_ .nil);have cq:=vx (⟨t,false,x,st.units,st.since⟩::(b.meter m).evs) mok.nd e1
   have e7:((zA0 (content (b.meter m)) ⟨t,false,x,st.units,st.since⟩:Nat):Int)=(content (b.meter m):Nat) + -(st.units:Int):=by
    show((content (b.meter m)-st.units:Nat):Int)=_;omega
   show zA8 H' y1 (t:Int) ((zA0 (content (b.meter m)) ⟨t,false,x,st.units,st.since⟩:Nat):Int);rw [e7];exact h3
theorem zD1 {H H':Hp}{L:Lay}{b:Bank}{m n:Nat}{Q:VK}{r:Vbdeai.R}(B:zc CB CM CT H L b) (ok:zw n b) (hm:m<256) (t lo:Nat) (d:Int) (e:Vbdeai.Ev) (he:e.id=0) (et:e.time=t){dx:Addr}{xs:List V}{kvs:List (Key×V)}
  (hr:r = .ok ({ b with clock:=t }.setMeter m { b.meter m with loose:=lo,evs:=e::(b.meter m).evs })) (hlo:(lo:Int)=(b.meter m).loose+d) (hco:((content { b.meter m with loose:=lo,evs:=e::(b.meter m).evs }:Nat):Int)=(content (b.meter m):Nat)+d)
  (hst:((zA0 (content (b.meter m)) e:Nat):Int)=(content (b.meter m):Nat)+d)
  (ha:H (L.m m)=some (.ins CM dx (zEd (L.g m) (L.mo m) (b.meter m)))) (hg:H (L.g m)=some (.dK kvs)) (hG:zGo H kvs (b.meter m).ins) (hl:H (L.mo m)=some (.lst xs)) (hM:zLX H xs (tl b.since (b.meter m)))
  (h1:H' (L.m m)=some (.ins CM dx (mf (L.g m) (L.mo m) ((b.meter m).loose+d) ((content (b.meter m):Nat)+d) (begun (b.meter m)) (ended (b.meter m)).length (zeros (b.meter m)) (stays (b.meter m)) (unitStays (b.meter m)))))
  (h2:∃ y,H' (L.mo m)=some (.lst (xs++[y]))∧zA8 H' y t ((content (b.meter m):Nat)+d)) (h6:Kp [L.m m,L.mo m] H H')
  (q:∀ H' L',zc CB CM CT H' L' (after b r).1→zDF L b H H'→zCY L L' b (after b r).1 H→L'.bk=L.bk→Q (.int (after b r).2) H'):Q (.int 0) H':=by
 obtain⟨y,h2,h3⟩:=h2;have mok:=ok.mok m hm;have ngm:L.g m≠L.m m:=B.ne (r := .g m) (r' := .m m) hm hm nofun;have ngo:L.g m≠L.mo m:=B.ne (r := .g m) (r' := .mo m) hm hm nofun
 have tp:jd H H':=h6.tups fun a ha' zs=>by
  rcases List.mem_cons.mp ha' with z | ha'
  ·rw [z,ha];exact nofun
  rcases List.mem_cons.mp ha' with z | ha'
  ·rw [z,hl];exact nofun
  cases ha'
 refine zBF (c:=b) B ok hm t hr ⟨⟨dx,?_⟩,⟨_,h6 _ _ hg (by simp [ngm,ngo]),hG.keep tp⟩,⟨_,h2,?_⟩⟩ (h6.mono ?_) q
 ·rw [zIh _ _ _ _ _ d he hlo hco];exact h1
 ·refine(congrArg (zLX H' _) (zNY b.since (b.meter m) e (b.meter m).ins lo mok.ends)).mpr ?_;refine zAX (hM.keep tp) (.cons ?_ .nil);show zA8 H' y (e.time:Int) ((zA0 (content (b.meter m)) e:Nat):Int);rw [hst,et];exact h3
 ·intro z hz
  rcases List.mem_cons.mp hz with hz | hz
  ·exact List.mem_cons.mpr (.inl hz)
  ·exact List.mem_cons.mpr (.inr (List.mem_cons.mpr (.inr hz)))
theorem zCi:zL ["book","numbers"] ["book","numbers"] (zE wJ):=by trivial
theorem zEp (T:TX K mg CB CM CT) (y9:ve P w K mg base CM "shift_loose" 2 ["self","time","units"] (zGq CM)):zAA P w K mg base ["book","numbers"] "do_raise" wJ 2 (zBq CB CM CT 2):=by
 have nd:=zCi.nd;rintro f cdv A outer s H vs Q E hr ⟨L,b,nl,ns,n,rfl,B,ok,hn,hnl,sep,hrg,htm,k⟩;obtain⟨t,m,x,rfl,ht,hm,hx⟩:=zPo (.inr (.inl rfl)) hrg
 have hcl:b.clock≤t:=by have:=htm (.inl (by decide));simp only [headD_cons] at this;omega
 obtain⟨dxb,hbk⟩:=B.bk;obtain⟨⟨dx,ha⟩,⟨kvs,hg,hG⟩,⟨xs,hl,hM⟩⟩:=B.mt m hm;refine⟨_,(zC (jP (vF T.clMeter y9 (hr.mono (by decide)) (zN zK (zO (pv 0) rfl) (zN zK (pv 1) zH (fun _ _=>rfl)) (fun _ _=>rfl)) (zB (zN zK (pv 1) zH (fun _ _=>rfl)) (zB (zN zK (pv 1) zH (fun _ _=>rfl)) zG)))) (zI (zP (zn T.cDONE)))),?_⟩
 have lx:xs.length<1000:=by rw [jK hM,wk];have:=ok.evs m hm;omega
 rw [show chg 2 b [(t:Int),(m:Int),(x:Int)]=_ from zLi m x hcl] at k;refine⟨_,rfl,L.bk,CB,dxb,_,_,rfl,hbk,T.clBook,T.b3,bf3,_,rfl,.inl ⟨nl,_,1,.int (m:Int),rfl,rfl,SqL.of hnl,rfl,.inl ⟨L.lm,_,_,_,rfl,rfl,SqL.of B.lm,zEo hm,?_⟩⟩⟩;refine⟨L.m m,dx,_,rfl,ha,mn4,_,rfl,.inl ⟨nl,_,0,.int (t:Int),rfl,rfl,SqL.of hnl,rfl,?_⟩⟩;refine⟨_,rfl,.inl ⟨nl,_,2,.int (x:Int),rfl,rfl,SqL.of hnl,rfl,?_⟩⟩;refine⟨L.m m,dx,L.g m,L.mo m,_,_,_,_,_,_,_,t,x,xs,rfl,ha,hl,lx,fun H' h1 h2 h6=>?_⟩;have cl:=jw (b.meter m) ((b.meter m).loose+x) (⟨t,true,0,x,t⟩::(b.meter m).evs)
 have c3:((content { b.meter m with loose:=(b.meter m).loose+x,evs:=⟨t,true,0,x,t⟩::(b.meter m).evs }:Nat):Int)=(content (b.meter m):Nat)+(x:Int):=by
  have:=congrArg (fun(z:Nat)=>(z:Int)) cl;simp only [natCast_add] at this;exact(Int.add_left_inj ((b.meter m).loose:Int)).mp (this.trans (by omega))
 exact zD1 B ok hm t _ x ⟨t,true,0,x,t⟩ rfl rfl rfl (by omega) c3 (by show((content (b.meter m)+x:Nat):Int)=_;omega) ha hg hG hl hM h1 h2 h6 k
theorem zCj:zL ["book","numbers","meter"] ["book","numbers"] (zE wK):=by trivial
theorem zEq (T:TX K mg CB CM CT) (y9:ve P w K mg base CM "shift_loose" 2 ["self","time","units"] (zGq CM)):zAA P w K mg base ["book","numbers","meter"] "do_lower" wK 2 (zBq CB CM CT 3):=by
 have nd:=zCj.nd;rintro f cdv A outer s H vs Q E hr ⟨L,b,nl,ns,n,rfl,B,ok,hn,hnl,sep,hrg,htm,k⟩;obtain⟨t,m,x,rfl,ht,hm,hx⟩:=zPo (.inr (.inr rfl)) hrg
 have hcl:b.clock≤t:=by have:=htm (.inl (by decide));simp only [headD_cons] at this;omega
 obtain⟨dxb,hbk⟩:=B.bk;obtain⟨⟨dx,ha⟩,⟨kvs,hg,hG⟩,⟨xs,hl,hM⟩⟩:=B.mt m hm;refine⟨_,(zC (zU (i:=2) nd rfl (Or.inl rfl) (zN zK (zO (pv 0) rfl) (zN zK (pv 1) zH (fun _ _=>rfl)) (fun _ _=>rfl))) (zC (kj (jl zIR (zO (pv 2) rfl) (zN zK (pv 1) zH (fun _ _=>rfl)) (jc _)) (zI (zP (zn T.cNOT_LOOSE))) jM) (zC (jP (vF T.clMeter y9 (hr.mono (by decide)) (pv 2) (zB (zN zK (pv 1) zH (fun _ _=>rfl)) (zB (zJS zFQ (zN zK (pv 1) zH (fun _ _=>rfl))) zG)))) (zI (zP (zn T.cDONE)))))),?_⟩
 have lx:xs.length<1000:=by rw [jK hM,wk];have:=ok.evs m hm;omega
 rw [show chg 3 b [(t:Int),(m:Int),(x:Int)]=_ from zLj m x hcl] at k;refine⟨_,rfl,L.bk,CB,dxb,_,_,rfl,hbk,T.clBook,T.b3,bf3,_,rfl,.inl ⟨nl,_,1,.int (m:Int),rfl,rfl,SqL.of hnl,rfl,.inl ⟨L.lm,_,_,_,rfl,rfl,SqL.of B.lm,zEo hm,?_⟩⟩⟩;refine⟨_,rfl,L.m m,CM,dx,_,_,rfl,ha,T.clMeter,T.a2,mf2,_,rfl,.inl ⟨nl,_,2,.int (x:Int),rfl,rfl,SqL.of hnl,rfl,_,_,rfl,rfl,_,rfl,?_⟩⟩;refine zMG (fun h=>?_) fun h=>?_
 ·have h:(b.meter m).loose<x:=by have:=of_decide_eq_true h;omega
  rw [if_pos h] at k;exact k H L B zDF.refl zCY.refl rfl
 ·have h:¬ (b.meter m).loose<x:=fun z=>h (decide_eq_true (by omega));rw [if_neg h] at k;refine⟨_,rfl,L.m m,dx,_,rfl,ha,mn4,_,rfl,.inl ⟨nl,_,0,.int (t:Int),rfl,rfl,SqL.of hnl,rfl,?_⟩⟩;refine⟨_,rfl,.inl ⟨nl,_,2,.int (x:Int),rfl,rfl,SqL.of hnl,rfl,_,rfl,?_⟩⟩;refine⟨L.m m,dx,L.g m,L.mo m,_,_,_,_,_,_,_,t,-(x:Int),xs,rfl,ha,hl,lx,fun H' h1 h2 h6=>?_⟩;have cl:=jw (b.meter m) ((b.meter m).loose-x) (⟨t,false,0,x,t⟩::(b.meter m).evs);have c2:(b.meter m).loose≤content (b.meter m):=le_add_right _ _
  have c3:((content { b.meter m with loose:=(b.meter m).loose-x,evs:=⟨t,false,0,x,t⟩::(b.meter m).evs }:Nat):Int)=(content (b.meter m):Nat) + -(x:Int):=by
   have:=congrArg (fun(z:Nat)=>(z:Int)) cl;simp only [natCast_add] at this;exact(Int.add_left_inj ((b.meter m).loose:Int)).mp (this.trans (by omega))
  exact zD1 B ok hm t _ (-(x:Int)) ⟨t,false,0,x,t⟩ rfl rfl rfl (by omega) c3 (by show((content (b.meter m)-x:Nat):Int)=_;omega) ha hg hG hl hM h1 h2 h6 k
end
end Mb
namespace Mb
open PySem PySem.Spec PyProof.Rows L2
abbrev jZ:Stmt:=inClass (top 21) 0
abbrev jA:Stmt:=inClass (top 21) 1
abbrev yt:Stmt:=top 29
abbrev wL:Stmt:=top 30
abbrev wM:Stmt:=top 34
abbrev zB8:Stmt:=top 31
abbrev zAi:Stmt:=top 33
theorem zAj {α:Type}{n k:Nat}{f g:Nat→α}{x:α}(hk:k<n) (h1:g k=x) (h2:∀ i,i≠k→g i=f i):((List.range n).map f).set k x=(List.range n).map g:=by
 apply List.ext_getElem?;intro i;by_cases hi:i=k
 ·subst hi;rw [getElem?_set_self (by rw [length_map,length_range];exact hk),getElem?_map,getElem?_range hk,← h1];rfl
 ·rw [getElem?_set_ne (fun q=>hi q.symm),getElem?_map,getElem?_map];by_cases hn:i<n
  ·rw [getElem?_range hn];show some (f i)=some (g i);rw [h2 i hi]
  ·rw [List.getElem?_eq_none (by rw [length_range];omega)];rfl
def vb (f:Nat→Addr) (k:Nat) (a:Addr):Nat→Addr:=fun i=>if i=k then a else f i
theorem zR {f:Nat→Addr}{k:Nat}{a:Addr}:vb f k a k=a:=if_pos rfl
theorem zg {f:Nat→Addr}{k i:Nat}{a:Addr}(h:i≠k):vb f k a i=f i:=if_neg h
theorem xf {f:Nat→Addr}{k:Nat}:vb f k (f k)=f:=by
 funext i
 by_cases h:i=k
 ·subst h;exact zR
 ·exact zg h
section
variable {CB CM CT:Addr}{H H':Hp}{L:Lay}{b:Bank}
def Lay.tab (L:Lay) (k:Nat) (t ta:Addr):Lay:={ L with t:=vb L.t k t,ta:=vb L.ta k ta }
theorem zc.tableStep (B:zc CB CM CT H L b) (hl:b.tables.length=64){k:Nat}{v:Table}(hk:k<64){t' ta':Addr}(o:Out (fun r=>r = .lt∨r = .t k∨r = .ta k) L b H H') (tp:jd H H') (hv:v.classes≠0) (TA:kK CT H' t' ta' v)
  (hlt:H' L.lt=some (.lst ((List.range 64).map fun i=>if((b.setTable k v).table i).classes=0 then V.non else V.ref (vb L.t k t' i))))
  (ht:((b.table k).classes≠0∧t'=L.t k)∨H t'=none) (hta:((b.table k).classes≠0∧ta'=L.ta k)∨H ta'=none) :
  zc CB CM CT H' (L.tab k t' ta') (b.setTable k v)∧zCY L (L.tab k t' ta') b (b.setTable k v) H:=by
 have ts:=fun j=>kS (b:=b) j v (by rw [hl];exact hk)
 have gr:zCY L (L.tab k t' ta') b (b.setTable k v) H:=by
  intro r h
  cases r with
  | t i =>
   obtain⟨h1,h2⟩:=h;rw [ts] at h2;by_cases e:i=k
   ·subst e;show _∨H (vb L.t i t' i)=none
    rcases ht with ⟨q,rfl⟩ | q
    ·exact .inl ⟨⟨h1,q⟩,zR⟩
    ·rw [zR];exact .inr q
   ·rw [if_neg e] at h2;exact .inl ⟨⟨h1,h2⟩,zg e⟩
  | ta i =>
   obtain⟨h1,h2⟩:=h;rw [ts] at h2;by_cases e:i=k
   ·subst e;show _∨H (vb L.ta i ta' i)=none
    rcases hta with ⟨q,rfl⟩ | q
    ·exact .inl ⟨⟨h1,q⟩,zR⟩
    ·rw [zR];exact .inr q
   ·rw [if_neg e] at h2;exact .inl ⟨⟨h1,h2⟩,zg e⟩
  | bk=>exact .inl ⟨h,rfl⟩
  | lm=>exact .inl ⟨h,rfl⟩
  | lt=>exact .inl ⟨h,rfl⟩
  | ll=>exact .inl ⟨h,rfl⟩
  | m i=>exact .inl ⟨h,rfl⟩
  | g i=>exact .inl ⟨h,rfl⟩
  | mo i=>exact .inl ⟨h,rfl⟩
  | li i=>exact .inl ⟨h,rfl⟩
 have no:∀ r:zDK,r ≠ .lt→(∀ j,r ≠ .t j)→(∀ j,r ≠ .ta j)→¬ (r = .lt∨r = .t k∨r = .ta k):=fun r h1 h2 h3 q=>by
  rcases q with q | q | q
  ·exact h1 q
  ·exact h2 _ q
  ·exact h3 _ q
 have ntt:t'≠ta':=by
  obtain⟨⟨dx,lo,wi,h1,_⟩,⟨xs,h2,_⟩⟩:=TA;exact vw h1 h2 (by intro q;cases q)
 have fresh:∀ r,live (b.setTable k v) r→H ((L.tab k t' ta').at r)=none→r = .t k∨r = .ta k:=by
  intro r h hn
  rcases gr r h with ⟨h1,h2⟩ | h1
  ·rw [h2] at hn;obtain⟨ob,e,_⟩:=B.there r h1;rw [e] at hn;cases hn
  ·cases r with
   | t i =>
    by_cases e:i=k
    ·subst e;exact .inl rfl
    ·obtain⟨h3,h4⟩:=h;rw [ts,if_neg e] at h4;have:H (vb L.t k t' i)=none:=hn;rw [zg e] at this;obtain⟨ob,e2,_⟩:=B.there (.t i) ⟨h3,h4⟩;exact absurd (e2.symm.trans this) (by intro q;cases q)
   | ta i =>
    by_cases e:i=k
    ·subst e;exact .inr rfl
    ·obtain⟨h3,h4⟩:=h;rw [ts,if_neg e] at h4;have:H (vb L.ta k ta' i)=none:=hn;rw [zg e] at this;obtain⟨ob,e2,_⟩:=B.there (.ta i) ⟨h3,h4⟩;exact absurd (e2.symm.trans this) (by intro q;cases q)
   | bk=>obtain⟨ob,e2,_⟩:=B.there .bk h;exact absurd (e2.symm.trans hn) (by intro q;cases q)
   | lm=>obtain⟨ob,e2,_⟩:=B.there .lm h;exact absurd (e2.symm.trans hn) (by intro q;cases q)
   | lt=>obtain⟨ob,e2,_⟩:=B.there .lt h;exact absurd (e2.symm.trans hn) (by intro q;cases q)
   | ll=>obtain⟨ob,e2,_⟩:=B.there .ll h;exact absurd (e2.symm.trans hn) (by intro q;cases q)
   | m i=>obtain⟨ob,e2,_⟩:=B.there (.m i) h;exact absurd (e2.symm.trans hn) (by intro q;cases q)
   | g i=>obtain⟨ob,e2,_⟩:=B.there (.g i) h;exact absurd (e2.symm.trans hn) (by intro q;cases q)
   | mo i=>obtain⟨ob,e2,_⟩:=B.there (.mo i) h;exact absurd (e2.symm.trans hn) (by intro q;cases q)
   | li i=>obtain⟨ob,e2,_⟩:=B.there (.li i) h;exact absurd (e2.symm.trans hn) (by intro q;cases q)
 obtain⟨dx,hb⟩:=B.bk;refine⟨⟨fun r r' h h' e=>?_,⟨dx,o .bk trivial (no _ nofun nofun nofun) _ hb⟩,o .lm trivial (no _ nofun nofun nofun) _ B.lm,hlt,o .ll trivial (no _ nofun nofun nofun) _ B.ll,fun j hj=>?_,fun j hj hc=>?_,fun j hj=>?_⟩,gr⟩
 ·rcases gr r h with ⟨g1,g2⟩ | g1
  ·rcases gr r' h' with ⟨g3,g4⟩ | g3
   ·exact B.inj r r' g1 g3 (g2.symm.trans (e.trans g4))
   ·rw [← e,g2] at g3;obtain⟨ob,e2,_⟩:=B.there r g1;exact absurd (e2.symm.trans g3) (by intro q;cases q)
  ·have f1:=fresh r h g1;have f2:=fresh r' h' (by rw [← e];exact g1)
   rcases f1 with rfl | rfl
   ·rcases f2 with rfl | rfl
    ·rfl
    ·exact absurd (show t'=ta' from(zR (f:=L.t)).symm.trans (e.trans zR)) ntt
   ·rcases f2 with rfl | rfl
    ·exact absurd (show ta'=t' from(zR (f:=L.ta)).symm.trans (e.trans zR)) ntt.symm
    ·rfl
 ·exact B.meter o tp hj (no _ nofun nofun nofun) (no _ nofun nofun nofun) (no _ nofun nofun nofun)
 ·rw [ts] at hc ⊢;show kK CT H' (vb L.t k t' j) (vb L.ta k ta' j) _;by_cases e:j=k
  ·subst e;rw [if_pos rfl,zR,zR];exact TA
  ·rw [if_neg e] at hc ⊢;rw [zg e,zg e]
   exact B.table o tp hj hc (fun q=>by rcases q with q | q | q<;>cases q;exact e rfl) (fun q=>by rcases q with q | q | q<;>cases q;exact e rfl)
 ·exact B.line o tp hj (no _ nofun nofun nofun)
theorem zGz (hl:b.tables.length=64){k:Nat}{v:Table}(hk:k<64) (h:(v.classes=0↔(b.table k).classes=0)) (f:Nat→Addr) :
  ((List.range 64).map fun i=>if((b.setTable k v).table i).classes=0 then V.non else V.ref (f i))=(List.range 64).map fun i=>if(b.table i).classes=0 then V.non else V.ref (f i):=by
 apply map_congr_left;intro i _;rw [kS i v (by rw [hl];exact hk)];by_cases e:i=k
 ·subst e;rw [if_pos rfl];by_cases q:v.classes=0
  ·rw [if_pos q,if_pos (h.mp q)]
  ·rw [if_neg q,if_neg fun z=>q (h.mpr z)]
 ·rw [if_neg e]
end
theorem zLk (a b c d:Int):PyData.eqv (.tuple [.int a,.int b]) (.tuple [.int c,.int d])=decide (a=c∧b=d):=by
 have e:PyData.eqv (.tuple [.int a,.int b]) (.tuple [.int c,.int d])=((a==c)&&((b==d)&&true)):=rfl;rw [e];by_cases h1:a=c<;>by_cases h2:b=d<;>simp [h1,h2]
theorem zNf (p q:Vbdeai.Q):PyData.eqv (.tuple [.int p.num,.int (p.den:Int)]) (.tuple [.int q.num,.int (q.den:Int)])=decide (p=q):=by
 rw [zLk,decide_eq_decide];constructor
 ·rintro⟨h1,h2⟩
  cases p
  cases q
  dsimp only at h1 h2;have:_=_:=Int.ofNat.inj h2;subst h1 this;rfl
 ·rintro rfl;exact⟨rfl,rfl⟩
section
variable {P:Program}{w:World}{K:W.Frag}{mg:Str→Option Value}{base:Heap}{CB CM CT:Addr}
theorem zNx {H:Hp}{v:V}{q:Vbdeai.Q}(h:IsQ H v q):Dp K H v (.tuple [.int q.num,.int (q.den:Int)]):=by
 obtain⟨p,rfl,h⟩:=h;exact .tup (SqT.of h) (.cons (.int _) (.cons (.int _) .nil))
section
variable {n y:Int}{lo wi:V}{l z:Addr}
theorem tf1:(tf n lo wi l).lookup ("class_count":Str)=some (.int n):=rfl
theorem tf2:(tf n lo wi l).lookup ("first_bound":Str)=some lo:=rfl
theorem tf3:(tf n lo wi l).lookup ("width":Str)=some wi:=rfl
theorem tf4:(tf n lo wi l).lookup ("tallies":Str)=some (.ref l):=rfl
theorem tp4:jx "tallies" (.ref z) (tf n lo wi l)=tf n lo wi z:=rfl
theorem tn1:(tf n lo wi l).lookup ("is_like":Str)=none:=rfl
end
def zMO (CT:Addr):Sp:=fun vs H Q _=>∃ (p dx:Addr) (n:Int) (lo wi:V),vs=[.ref p,.int n,lo,wi]∧H p=some (.ins CT dx [])∧∀ H' l,H' p=some (.ins CT dx (tf n lo wi l))→H' l=some (.lst [])→H l=none→Kp [p] H H'→Q .non H'
theorem zAk:zL ["self","class_count","first_bound","width"] ["self","class_count","first_bound","width"] (zE jZ):=by trivial
theorem zEr (D:yU K mg "Table" CT "Table.__init__" jZ) (T:TX K mg CB CM CT):zLU P w K mg base "Table" CT 1 ["self","class_count","first_bound","width"] (zMO CT):=by
 have nd:=zAk.nd
 refine zGm D zAk (L2.bA4 fun _ _ _ _ _ _ _ _ _ _=>rfl) ?_ ?_
 ·rintro vs H Q E ⟨p,dx,n,lo,wi,rfl,_⟩;rfl
 ·rintro f cdv A outer s H vs Q E hr ⟨a,dx,n,lo,wi,rfl,ha,k⟩;refine⟨_,(zC (jV (pv 0) (pv 1) rfl) (zC (jV (pv 0) (pv 2) rfl) (zC (jV (pv 0) (pv 3) rfl) (zI (jV (pv 0) (jO zG) rfl))))),?_⟩;refine⟨_,rfl,_,rfl,a,CT,dx,_,rfl,ha,T.clTable,T.t1,(by show 0<1000;decide),?_⟩;refine⟨_,rfl,_,rfl,a,CT,dx,_,rfl,zA,T.clTable,T.t2,(by show 1<1000;decide),?_⟩;rw [jj];refine⟨_,rfl,_,rfl,a,CT,dx,_,rfl,zA,T.clTable,T.t3,(by show 2<1000;decide),?_⟩;rw [jj];refine⟨zero_le _,fun l hl=>?_⟩
  have nal:a≠l:=fun z=>by rw [← z,zA] at hl;cases hl
  have hlH:H l=none:=by rw [zD nal.symm] at hl;exact hl
  refine⟨_,rfl,a,CT,dx,_,rfl,(by rw [zD nal];exact zA),T.clTable,T.t4,(by show 3<1000;decide),?_⟩;refine k _ l ?_ ?_ hlH ?_
  ·rw [zA];rfl
  ·rw [zD nal.symm,zA]
  ·exact((Kp.refl.upd (.inl (by simp))).upd (.inr hlH)).upd (.inl (by simp))
def zMP (CT:Addr):Sp:=fun vs H Q _=>∃ (a c dx dx' l l':Addr) (n n':Nat) (lo wi lo' wi':V) (p q p' q':Vbdeai.Q),vs=[.ref a,.ref c]∧H a=some (.ins CT dx (tf n lo wi l))∧H c=some (.ins CT dx' (tf n' lo' wi' l')) ∧
 IsQ H lo p∧IsQ H wi q∧IsQ H lo' p'∧IsQ H wi' q'∧Q (.bl (decide (n=n'∧p=p'∧q=q'))) H
theorem xK:zL ["self","other"] ["self","other"] (zE jA):=by trivial
theorem zBr (D:zT K CT "is_like" "Table.is_like" jA) (T:TX K mg CB CM CT):ve P w K mg base CT "is_like" 1 ["self","other"] (zMP CT):=by
 have nd:=xK.nd
 refine jp D xK (L2.bA2 fun _ _ _ _ _ _ _ _=>rfl) ?_ ?_
 ·rintro vs H Q E ⟨a,c,dx,dx',l,l',n,n',lo,wi,lo',wi',p,q,p',q',rfl,_⟩;rfl
 ·rintro f cdv A outer s H vs Q E hr ⟨a,c,dx,dx',l,l',n,n',lo,wi,lo',wi',p,q,p',q',rfl,ha,hc,h1,h2,h3,h4,k⟩;refine⟨_,(zI (zP (zL8 (yJ zGa (zO (pv 0) rfl) (zO (pv 1) rfl) (jc _)) (zL8 (yJ (zJf hr.units) (zO (pv 0) rfl) (zO (pv 1) rfl) (jc _)) (zJN (yJ (zJf hr.units) (zO (pv 0) rfl) (zO (pv 1) rfl) (jc _))))))),?_⟩;refine⟨_,rfl,a,CT,dx,_,_,rfl,ha,T.clTable,T.t1,tf1,_,rfl,c,CT,dx',_,_,rfl,hc,T.clTable,T.t1,tf1,rfl,_,rfl,?_⟩;refine zMG (fun h=>?_) fun h=>?_
  ·have e1:n=n':=by
    have:=of_decide_eq_true h
    injection this with e
    omega
   refine⟨_,rfl,a,CT,dx,_,_,rfl,ha,T.clTable,T.t2,tf2,_,rfl,c,CT,dx',_,_,rfl,hc,T.clTable,T.t2,tf2,_,_,zNx h1,zNx h3,rfl,rfl,_,rfl,?_⟩;rw [zNf];refine zMG (fun h=>?_) fun h=>?_
   ·have e2:=of_decide_eq_true h;refine⟨_,rfl,a,CT,dx,_,_,rfl,ha,T.clTable,T.t3,tf3,_,rfl,c,CT,dx',_,_,rfl,hc,T.clTable,T.t3,tf3,_,_,zNx h2,zNx h4,rfl,rfl,?_⟩;rw [zNf]
    have:decide (n=n'∧p=p'∧q=q')=decide (q=q'):=by simp [e1,e2]
    rw [this] at k;exact k
   ·have e2:¬ p=p':=fun z=>h (decide_eq_true z)
    have:decide (n=n'∧p=p'∧q=q')=false:=by simp [e2]
    rw [this] at k;exact k
  ·have e1:¬ n=n':=fun z=>h (by rw [z];exact decide_eq_true rfl)
   have:decide (n=n'∧p=p'∧q=q')=false:=by simp [e1]
   rw [this] at k;exact k
end
end Mb
namespace Mb
open PySem PySem.Spec PyProof.Rows L2
abbrev jB:Stmt:=inClass (top 21) 2
abbrev zW:Stmt:=inClass (top 21) 3
abbrev zX:Stmt:=inClass (top 21) 4
abbrev zY:Stmt:=inClass (top 21) 5
abbrev zi:Stmt:=inClass (top 21) 6
abbrev zj:Stmt:=inClass (top 21) 7
abbrev zd:Stmt:=inClass (top 21) 8
abbrev Tly:=Nat×Rat×V
def Tl (H:Hp) (x:V) (b:Tly):Prop:=∃ p,x = .ref p∧H p=some (.tup [.int (b.1:Int),b.2.2])∧IsQ H b.2.2 (toQ b.2.1)
theorem Tl.keep {H H':Hp}{x:V}{b:Tly}(h:Tl H x b) (t:jd H H'):Tl H' x b:=by
 obtain⟨p,e,h1,h2⟩:=h;exact⟨p,e,t p _ h1,h2.keep t⟩
def zNy (b:Tly):Prop:=1≤b.1∧b.1≤1000000000∧b.2.1.den≤1000∧b.2.1.num.natAbs≤BIG
theorem zNy.fit {b:Tly}(h:zNy b):Fit b.2.1:=by
 obtain⟨_,_,h3,h4⟩:=h;unfold BIG at h4;exact⟨by omega,by omega⟩
def zBG (CT:Addr) (H:Hp) (a:Addr) (n:Nat) (lo wi:V) (m:List Tly):Prop:=∃ dx l xs,H a=some (.ins CT dx (tf n lo wi l))∧H l=some (.lst xs)∧Paired (Tl H) xs m∧m.length<1000∧∀ b∈m,zNy b
theorem zBG.keep {CT:Addr}{H H':Hp}{a:Addr}{n:Nat}{lo wi:V}{m:List Tly}(h:zBG CT H a n lo wi m) (k:Kp [] H H'):zBG CT H' a n lo wi m:=by
 obtain⟨dx,l,xs,h1,h2,h3,h4,h5⟩:=h;have t:jd H H':=k.tups (by simp);exact⟨dx,l,xs,k _ _ h1 (by simp),k _ _ h2 (by simp),Paired.mapP h3 fun _ _ q=>q.keep t,h4,h5⟩
section
variable {n:Int}{lo wi:V}{l:Addr}
theorem tn2:(tf n lo wi l).lookup ("slot_of":Str)=none:=rfl
theorem tn3:(tf n lo wi l).lookup ("class_weights":Str)=none:=rfl
theorem tn4:(tf n lo wi l).lookup ("weight_in_all":Str)=none:=rfl
theorem tn5:(tf n lo wi l).lookup ("weight_below":Str)=none:=rfl
theorem tn6:(tf n lo wi l).lookup ("weight_at":Str)=none:=rfl
theorem tn7:(tf n lo wi l).lookup ("first_sum":Str)=none:=rfl
theorem tn8:(tf n lo wi l).lookup ("second_sum":Str)=none:=rfl
theorem tn9:(tf n lo wi l).lookup ("rising_tallies":Str)=none:=rfl
theorem zQf:(tf n lo wi l).lookup ("quantile":Str)=none:=rfl
end
section
variable {P:Program}{w:World}{K:W.Frag}{mg:Str→Option Value}{base:Heap}{CB CM CT:Addr}
def zH2 (m:List Tly):Int:=(m.map fun b=>(b.1:Int)).sum
def zKI (CT:Addr):Sp:=fun vs H Q _=>∃ (a:Addr) (n:Nat) (lo wi:V) (m:List Tly),vs=[.ref a]∧zBG CT H a n lo wi m∧∀ H',Kp [] H H'→Q (.int (zH2 m)) H'
theorem kh:zL ["self","weight","value"] ["self"] (zE zX):=by trivial
theorem xQ (D:zT K CT "weight_in_all" "Table.weight_in_all" zX) (T:TX K mg CB CM CT):ve P w K mg base CT "weight_in_all" 1 ["self"] (zKI CT):=by
 have nd:=kh.nd
 refine jp D kh (L2.bA1 fun _ _ _ _ _ _ _=>rfl) ?_ ?_
 ·rintro vs H Q E ⟨a,n,lo,wi,m,rfl,_⟩;rfl
 ·rintro f cdv A outer s H vs Q E hr ⟨a,n,lo,wi,m,rfl,⟨dx,l,xs,ha,hl,hM,hm,hok⟩,k⟩;refine⟨_,(zI (zP (zh (zBZ rfl) (by rfl) T.n_sum boot_sum (zB (xX (own:=[("weight",1),("value",2)]) rfl nd (jF (zO (pv 0) rfl)) (zx (by show zBb ["self","weight","value"] (zE zX) _ _=true;decide +kernel)) (fun _ _ _ _ _=>(km K (n:=2) rfl rfl (zV (zS (i:=1) nd rfl (Or.inl rfl)) (zV (zS (i:=2) nd rfl (Or.inl rfl)) jk)))) (fun _ _ _ _ _=>jm) (fun _ _ _ _ _=>(pv 1))) zG)))),?_⟩;refine⟨_,rfl,a,CT,dx,_,_,rfl,ha,T.clTable,T.t4,tf4,l,rfl,⟨_,SqL.of hl⟩,fun d hD=>?_⟩;refine yM (K:=K) (m:=m) (fun b=>some (.int (b.1:Int))) hl hM hm hD ?_ ?_
  ·rintro x b H' ⟨q,rfl,hq,_⟩ mb kp Yes No hy _;exact⟨q,_,rfl,SqT.of (kp _ _ hq (by simp)),rfl,_,_,rfl,_,_,rfl,rfl,rfl,_,rfl,hy _ rfl⟩
  ·rintro H1 h1 k1;rw [show m.filterMap (fun b=>some (V.int (b.1:Int)))=(m.map fun b=>(b.1:Int)).map V.int from by rw [filterMap_eq_map',map_map];rfl] at h1;exact⟨d,_,rfl,SqL.of h1,k H1 k1⟩
def zH3 (CT:Addr):Sp:=fun vs H Q _=>∃ (a:Addr) (y:V) (n:Nat) (lo wi:V) (m:List Tly) (r:Rat),vs=[.ref a,y]∧zBG CT H a n lo wi m∧IsQ H y (toQ r)∧Fit r∧∀ H',Kp [] H H'→Q (.int (m.map fun b=>if b.2.1<r then(b.1:Int) else 0).sum) H'
theorem vK:zL ["self","bound","weight","value"] ["self","bound"] (zE zY):=by trivial
theorem xg (D:zT K CT "weight_below" "Table.weight_below" zY) (T:TX K mg CB CM CT) (vj:Has P w K mg base "is_less" 1 ["first","second"] zFr):ve P w K mg base CT "weight_below" 2 ["self","bound"] (zH3 CT):=by
 have nd:=vK.nd
 refine jp D vK (L2.bA2 fun _ _ _ _ _ _ _ _=>rfl) ?_ ?_
 ·rintro vs H Q E ⟨a,y,n,lo,wi,m,r,rfl,_⟩;rfl
 ·rintro f cdv A outer s H vs Q E hr ⟨a,y,n,lo,wi,m,r,rfl,⟨dx,l,xs,ha,hl,hM,hm,hok⟩,hy0,hf,k⟩;refine⟨_,(zI (zP (zh (zBZ rfl) (by rfl) T.n_sum boot_sum (zB (xX (own:=[("weight",2),("value",3)]) rfl nd (jF (zO (pv 0) rfl)) (zx (by show zBb ["self","bound","weight","value"] (zE zY) _ _=true;decide +kernel)) (fun _ _ _ _ _=>(km K (n:=2) rfl rfl (zV (zS (i:=2) nd rfl (Or.inl rfl)) (zV (zS (i:=3) nd rfl (Or.inl rfl)) jk)))) (fun _ _ _ _ _=>(zCW (zCd K rfl (vO vj (hr.mono (by decide)) (zB (pv 3) (zB (pv 1) zG))) (fun _=>rfl)))) (fun _ _ _ _ _=>(pv 2))) zG)))),?_⟩;refine⟨_,rfl,a,CT,dx,_,_,rfl,ha,T.clTable,T.t4,tf4,l,rfl,⟨_,SqL.of hl⟩,fun d hD=>?_⟩;refine yM (K:=K) (m:=m) (fun b=>(if(decide (b.2.1<r))=true then some (b.1:Int) else none).map V.int) hl hM hm hD ?_ ?_
  ·rintro x b H' ⟨q,rfl,hq,hb⟩ mb kp Yes No yes no;have tp:jd H H':=kp.tups (by simp);have f1:=(hok b mb).fit.abs;have f2:=hf.abs;refine⟨q,_,rfl,SqT.of (kp _ _ hq (by simp)),rfl,_,_,rfl,_,_,rfl,rfl,rfl,?_⟩;refine⟨_,rfl,_,rfl,b.2.2,y,_,_,_,_,rfl,hb.keep tp,hy0.keep tp,⟨f1.1,f1.2,f2.1,f2.2⟩,_,rfl,?_⟩;rw [zEk];by_cases c:b.2.1<r
   ·rw [decide_eq_true c] at yes ⊢;exact yc ⟨_,rfl,yes _ rfl⟩
   ·rw [decide_eq_false c] at no ⊢;exact ym (no rfl)
  ·rintro H1 h1 k1;rw [zGu] at h1;refine⟨d,_,rfl,SqL.of h1,?_⟩;rw [zHu];have:=k H1 k1;simp only [decide_eq_true_eq];exact this
def zOv (CT:Addr):Sp:=fun vs H Q _=>∃ (a:Addr) (y:V) (n:Nat) (lo wi:V) (m:List Tly) (r:Rat),vs=[.ref a,y]∧zBG CT H a n lo wi m∧IsQ H y (toQ r)∧∀ H',Kp [] H H'→Q (.int (m.map fun b=>if b.2.1=r then(b.1:Int) else 0).sum) H'
theorem yD:zL ["self","bound","weight","value"] ["self","bound"] (zE zi):=by trivial
theorem zAl (D:zT K CT "weight_at" "Table.weight_at" zi) (T:TX K mg CB CM CT):ve P w K mg base CT "weight_at" 1 ["self","bound"] (zOv CT):=by
 have nd:=yD.nd
 refine jp D yD (L2.bA2 fun _ _ _ _ _ _ _ _=>rfl) ?_ ?_
 ·rintro vs H Q E ⟨a,y,n,lo,wi,m,r,rfl,_⟩;rfl
 ·rintro f cdv A outer s H vs Q E hr ⟨a,y,n,lo,wi,m,r,rfl,⟨dx,l,xs,ha,hl,hM,hm,hok⟩,hy0,k⟩;refine⟨_,(zI (zP (zh (zBZ rfl) (by rfl) T.n_sum boot_sum (zB (xX (own:=[("weight",2),("value",3)]) rfl nd (jF (zO (pv 0) rfl)) (zx (by show zBb ["self","bound","weight","value"] (zE zi) _ _=true;decide +kernel)) (fun _ _ _ _ _=>(km K (n:=2) rfl rfl (zV (zS (i:=2) nd rfl (Or.inl rfl)) (zV (zS (i:=3) nd rfl (Or.inl rfl)) jk)))) (fun _ _ _ _ _=>(zCW (jl (zNX K rfl hr.units) (pv 3) (pv 1) (jc _)))) (fun _ _ _ _ _=>(pv 2))) zG)))),?_⟩;refine⟨_,rfl,a,CT,dx,_,_,rfl,ha,T.clTable,T.t4,tf4,l,rfl,⟨_,SqL.of hl⟩,fun d hD=>?_⟩;refine yM (K:=K) (m:=m) (fun b=>(if(decide (b.2.1=r))=true then some (b.1:Int) else none).map V.int) hl hM hm hD ?_ ?_
  ·rintro x b H' ⟨q,rfl,hq,hb⟩ mb kp Yes No yes no;have tp:jd H H':=kp.tups (by simp);refine⟨q,_,rfl,SqT.of (kp _ _ hq (by simp)),rfl,_,_,rfl,_,_,rfl,rfl,rfl,?_⟩;refine⟨_,rfl,_,rfl,_,_,zNx (hb.keep tp),zNx (hy0.keep tp),rfl,rfl,_,rfl,?_⟩;rw [zNf,decide_eq_decide.mpr (zN1 b.2.1 r)];by_cases c:b.2.1=r
   ·rw [decide_eq_true c] at yes ⊢;exact yc ⟨_,rfl,yes _ rfl⟩
   ·rw [decide_eq_false c] at no ⊢;exact ym (no rfl)
  ·rintro H1 h1 k1;rw [zGu] at h1;refine⟨d,_,rfl,SqL.of h1,?_⟩;rw [zHu];have:=k H1 k1;simp only [decide_eq_true_eq];exact this
def zMQ (CT:Addr):Sp:=fun vs H Q _=>∃ (a:Addr) (n:Nat) (lo wi:V) (m:List Tly),vs=[.ref a]∧zBG CT H a n lo wi m∧∀ H' v r,IsQ H' v (toQ r)→r=(m.map fun b=>(b.1:Rat)*b.2.1).sum→r.num.natAbs<2 ^ 3300→r.den∣zBl→Kp [] H H'→Q v H'
theorem zNg (k:Nat) (y:Rat):(k:Rat)*y=mkRat ((k:Int)*y.num) y.den:=by
 rw [← zGS,Rat.intCast_natCast]
theorem yE:zL ["self","weight","value"] ["self"] (zE zj):=by trivial
theorem zAm (D:zT K CT "first_sum" "Table.first_sum" zj) (T:TX K mg CB CM CT) (zE3:Has P w K mg base "sum_of" 3 ["fractions"] zGx):ve P w K mg base CT "first_sum" 4 ["self"] (zMQ CT):=by
 have nd:=yE.nd
 refine jp D yE (L2.bA1 fun _ _ _ _ _ _ _=>rfl) ?_ ?_
 ·rintro vs H Q E ⟨a,n,lo,wi,m,rfl,_⟩;rfl
 ·rintro f cdv A outer s H vs Q E hr ⟨a,n,lo,wi,m,rfl,⟨dx,l,xs,ha,hl,hM,hm,hok⟩,k⟩;refine⟨_,(zI (zP (vO zE3 (hr.mono (by decide)) (zB (xX (own:=[("weight",1),("value",2)]) rfl nd (jF (zO (pv 0) rfl)) (zx (by show zBb ["self","weight","value"] (zE zj) _ _=true;decide +kernel)) (fun _ _ _ _ _=>(km K (n:=2) rfl rfl (zV (zS (i:=1) nd rfl (Or.inl rfl)) (zV (zS (i:=2) nd rfl (Or.inl rfl)) jk)))) (fun _ _ _ _ _=>jm) (fun _ _ _ _ _=>(kM (zB (jI jG (pv 1) (zN (jg K rfl) (pv 2) zH (fun _ _=>rfl))) (zB (zN (jg K rfl) (pv 2) zH (fun _ _=>rfl)) zG))))) zG)))),?_⟩;refine⟨_,rfl,a,CT,dx,_,_,rfl,ha,T.clTable,T.t4,tf4,l,rfl,⟨_,SqL.of hl⟩,fun d hD=>?_⟩;refine zHw (K:=K) (m:=m) (fun b => .tup [.int ((b.1:Int)*(toQ b.2.1).num),.int ((toQ b.2.1).den:Int)]) hl hM hm hD ?_ ?_
  ·rintro x b H' ⟨q,rfl,hq,⟨z,ez,hz⟩⟩ mb kp Yes No hy;have hz':=kp _ _ hz (by simp);have f1:=(hok b mb).fit.abs
   have w1:((b.1:Nat):Int).natAbs<2 ^ 64:=by have:=(hok b mb).2.1;omega
   refine⟨q,_,rfl,SqT.of (kp _ _ hq (by simp)),rfl,_,_,rfl,_,_,rfl,rfl,rfl,?_⟩;refine⟨_,rfl,_,rfl,.inr (.inl ⟨z,_,0,.int (toQ b.2.1).num,ez,rfl,SqT.of hz',rfl,_,_,rfl,rfl,zBC w1 f1.1,_,rfl,.inr (.inl ⟨z,_,1,.int ((toQ b.2.1).den:Int),ez,rfl,SqT.of hz',rfl,(by show 2≤sizeLine;decide),fun p hp=>hy p hp⟩)⟩)⟩
  ·rintro H1 ys h1 h2 k1;refine⟨d,ys,m.map (fun b=>((b.1:Int)*b.2.1.num,b.2.1.den)),zBl,rfl,h1,zCf h2 fun y b=>?_,by rw [length_map];exact hm,vE,lt_of_lt_of_le wB (pow_le_pow_right (by decide) (by decide)),fun p hp=>?_,fun H2 v r q1 q2 q3 q4 k2=>?_⟩
   ·rintro⟨p,rfl,hp⟩;exact⟨p,rfl,hp⟩
   ·obtain⟨b,mb,rfl⟩:=List.mem_map.mp hp;have ob:=hok b mb;refine⟨zCE (pos_of_ne_zero b.2.1.den_nz) ob.2.2.1,?_⟩
    have w1:((b.1:Nat):Int).natAbs<2 ^ 64:=by have:=ob.2.1;omega
    exact zBD (yN w1 ob.fit.1) (by decide)
   ·refine k H2 v r q1 ?_ q3 q4 (Kp.trans k1 k2);rw [q2,map_map];exact congrArg List.sum (map_congr_left fun b _=>(zNg b.1 b.2.1).symm)
def zMR (CT:Addr):Sp:=fun vs H Q _=>∃ (a:Addr) (n:Nat) (lo wi:V) (m:List Tly),vs=[.ref a]∧zBG CT H a n lo wi m∧∀ H' v r,IsQ H' v (toQ r)→r=(m.map fun b=>(b.1:Rat)*(b.2.1*b.2.1)).sum→r.num.natAbs<2 ^ 3300→r.den∣zBl*zBl→Kp [] H H'→Q v H'
theorem zOw (k:Nat) (y:Rat):(k:Rat)*(y*y)=mkRat ((k:Int)*y.num*y.num) (y.den*y.den):=by
 have e:y*y=mkRat (y.num*y.num) (y.den*y.den):=by
  conv=>lhs;rw [← yd y]
  rw [Rat.mkRat_mul_mkRat]
 have k1:(k:Rat)=mkRat (k:Int) 1:=by rw [Rat.mkRat_one,Rat.intCast_natCast]
 rw [e,k1,Rat.mkRat_mul_mkRat,Nat.one_mul,Int.mul_assoc]
theorem zOx:zBl*zBl<2 ^ 3000:=by
 have h:=mul_lt_mul'' wB wB;rw [← pow_add] at h;exact lt_of_lt_of_le h (pow_le_pow_right (by decide) (by decide))
theorem vf:zL ["self","weight","value"] ["self"] (zE zd):=by trivial
theorem zAC (D:zT K CT "second_sum" "Table.second_sum" zd) (T:TX K mg CB CM CT) (zE3:Has P w K mg base "sum_of" 3 ["fractions"] zGx):ve P w K mg base CT "second_sum" 4 ["self"] (zMR CT):=by
 have nd:=vf.nd
 refine jp D vf (L2.bA1 fun _ _ _ _ _ _ _=>rfl) ?_ ?_
 ·rintro vs H Q E ⟨a,n,lo,wi,m,rfl,_⟩;rfl
 ·rintro f cdv A outer s H vs Q E hr ⟨a,n,lo,wi,m,rfl,⟨dx,l,xs,ha,hl,hM,hm,hok⟩,k⟩;refine⟨_,(zI (zP (vO zE3 (hr.mono (by decide)) (zB (xX (own:=[("weight",1),("value",2)]) rfl nd (jF (zO (pv 0) rfl)) (zx (by show zBb ["self","weight","value"] (zE zd) _ _=true;decide +kernel)) (fun _ _ _ _ _=>(km K (n:=2) rfl rfl (zV (zS (i:=1) nd rfl (Or.inl rfl)) (zV (zS (i:=2) nd rfl (Or.inl rfl)) jk)))) (fun _ _ _ _ _=>jm) (fun _ _ _ _ _=>(kM (zB (jI jG (jI jG (pv 1) (zN (jg K rfl) (pv 2) zH (fun _ _=>rfl))) (zN (jg K rfl) (pv 2) zH (fun _ _=>rfl))) (zB (jI jG (zN (jg K rfl) (pv 2) zH (fun _ _=>rfl)) (zN (jg K rfl) (pv 2) zH (fun _ _=>rfl))) zG))))) zG)))),?_⟩;refine⟨_,rfl,a,CT,dx,_,_,rfl,ha,T.clTable,T.t4,tf4,l,rfl,⟨_,SqL.of hl⟩,fun d hD=>?_⟩;refine zHw (K:=K) (m:=m) (fun b => .tup [.int ((b.1:Int)*(toQ b.2.1).num*(toQ b.2.1).num),.int (((toQ b.2.1).den:Int)*((toQ b.2.1).den:Int))]) hl hM hm hD ?_ ?_
  ·rintro x b H' ⟨q,rfl,hq,⟨z,ez,hz⟩⟩ mb kp Yes No hy;have hz':=kp _ _ hz (by simp);have f1:=(hok b mb).fit.abs
   have w1:((b.1:Nat):Int).natAbs<2 ^ 64:=by have:=(hok b mb).2.1;omega
   refine⟨q,_,rfl,SqT.of (kp _ _ hq (by simp)),rfl,_,_,rfl,_,_,rfl,rfl,rfl,?_⟩;refine⟨_,rfl,_,rfl,.inr (.inl ⟨z,_,0,.int (toQ b.2.1).num,ez,rfl,SqT.of hz',rfl,_,_,rfl,rfl,zBC w1 f1.1,_,rfl,.inr (.inl ⟨z,_,0,.int (toQ b.2.1).num,ez,rfl,SqT.of hz',rfl,_,_,rfl,rfl,zBC (yN w1 f1.1) f1.1,?_⟩)⟩)⟩;refine⟨_,rfl,.inr (.inl ⟨z,_,1,.int ((toQ b.2.1).den:Int),ez,rfl,SqT.of hz',rfl,_,rfl,.inr (.inl ⟨z,_,1,.int ((toQ b.2.1).den:Int),ez,rfl,SqT.of hz',rfl,_,_,rfl,rfl,zBC f1.2 f1.2,(by show 2≤sizeLine;decide),fun p hp=>hy p hp⟩)⟩)⟩
  ·rintro H1 ys h1 h2 k1;refine⟨d,ys,m.map (fun b=>((b.1:Int)*b.2.1.num*b.2.1.num,b.2.1.den*b.2.1.den)),zBl*zBl,rfl,h1,zCf h2 fun y b=>?_,by rw [length_map];exact hm,Nat.mul_ne_zero vE vE,zOx,fun p hp=>?_,fun H2 v r q1 q2 q3 q4 k2=>?_⟩
   ·rintro⟨p,rfl,hp⟩;refine⟨p,rfl,?_⟩;rw [hp,natCast_mul];rfl
   ·obtain⟨b,mb,rfl⟩:=List.mem_map.mp hp;have ob:=hok b mb;have dv:=zCE (pos_of_ne_zero b.2.1.den_nz) ob.2.2.1;refine⟨Nat.mul_dvd_mul dv dv,?_⟩
    have w1:((b.1:Nat):Int).natAbs<2 ^ 64:=by have:=ob.2.1;omega
    exact zBD (yN (yN w1 ob.fit.1) ob.fit.1) (by decide)
   ·refine k H2 v r q1 ?_ q3 q4 (Kp.trans k1 k2);rw [q2,map_map];exact congrArg List.sum (map_congr_left fun b _=>(zOw b.1 b.2.1).symm)
theorem zNh (a:Int){b:Nat}(hb:b≠0) (y:Rat) (j:Int) (hy:0<y.num):j≤(a*(y.den:Int))/((b:Int)*y.num)↔(j:Rat)*y≤mkRat a b:=by
 have hx:(0:Int)<(b:Int):=by omega
 rw [Int.le_ediv_iff_mul_le (Int.mul_pos hx hy),zGS,zJD y.den_nz hb]
 have:j*((b:Int)*y.num)=j*y.num*(b:Int):=by grind
 rw [this]
theorem zLl (r lo wi:Rat) (hp:0<wi):((r.num*(lo.den:Int)-lo.num*(r.den:Int))*(wi.den:Int))/(((r.den:Int)*(lo.den:Int))*wi.num)=((r-lo).num*(wi.den:Int))/(((r-lo).den:Int)*wi.num):=by
 have hy:=zGT hp;have hb:r.den*lo.den≠0:=Nat.mul_ne_zero r.den_nz lo.den_nz
 have e:mkRat (r.num*(lo.den:Int)-lo.num*(r.den:Int)) (r.den*lo.den)=r-lo:=by
  rw [zMM _ _ r.den_nz lo.den_nz,yd,yd]
 have f1:=fun j=>zNh (r.num*(lo.den:Int)-lo.num*(r.den:Int)) hb wi j hy;have f2:=fun j=>zHX (r-lo) wi j hy;rw [e] at f1;rw [← natCast_mul];exact Int.le_antisymm ((f2 _).mpr ((f1 _).mp (Int.le_refl _))) ((f1 _).mpr ((f2 _).mp (Int.le_refl _)))
theorem zNi {v:Table}{lo wi r:Rat}(hl:v.low=toQ lo) (hw:v.width=toQ wi) (hp:0<wi) (W:Int) (e:W=((r-lo).num*(wi.den:Int))/(((r-lo).den:Int)*wi.num)) :
  (if((v.classes:Nat):Int)+1<(if(0:Int)>W+1 then 0 else W+1) then((v.classes:Nat):Int)+1 else(if(0:Int)>W+1 then 0 else W+1))=((classOf v (toQ r):Nat):Int):=by
 have hy:=zGT hp;have f0:=zHX (r-lo) wi 0 hy;rw [← e] at f0
 have z:((0:Int):Rat)*wi=0:=by simp [Rat.zero_mul]
 rw [z] at f0;by_cases h:r<lo
 ·rw [zJE hl h]
  have:¬ (0:Rat)≤r-lo:=by grind
  have w0:W<0:=Int.not_le.mp fun q=>this (f0.mp q)
  have e1:(if(0:Int)>W+1 then 0 else W+1)=0:=by split<;>omega
  rw [e1,if_neg (by omega)];rfl
 ·have:(0:Rat)≤r-lo:=by
   have:lo≤r:=Rat.not_lt.mp h
   grind
  have w0:0≤W:=f0.mpr this
  have ec:classOf v (toQ r)=if v.classes<W.toNat+1 then v.classes+1 else W.toNat+1:=by
   unfold classOf;rw [hl,zHR,if_neg (by simpa using h),hw,zI5,e];rfl
  have e1:(if(0:Int)>W+1 then 0 else W+1)=W+1:=if_neg (by omega);rw [ec,e1];by_cases q:v.classes<W.toNat+1
  ·rw [if_pos q];by_cases q2:((v.classes:Nat):Int)+1<W+1
   ·rw [if_pos q2];omega
   ·rw [if_neg q2];omega
  ·rw [if_neg q,if_neg (by omega)];omega
theorem zLm (v:Table) (q:Vbdeai.Q):classOf v q<v.classes+2:=by
 unfold classOf;dsimp only;split
 ·omega
 ·split<;>omega
def Bds (H:Hp) (lo wi:V) (v:Table):Prop:=IsQ H lo v.low∧IsQ H wi v.width∧∃ l0 w0:Rat,v.low=toQ l0∧v.width=toQ w0∧0<w0∧Fit l0∧Fit w0
theorem Bds.keep {H H':Hp}{lo wi:V}{v:Table}(h:Bds H lo wi v) (t:jd H H'):Bds H' lo wi v:=⟨h.1.keep t,h.2.1.keep t,h.2.2⟩
def zMS (CT:Addr):Sp:=fun vs H Q _=>∃ (a dx l:Addr) (y lo wi:V) (v:Table) (r:Rat),vs=[.ref a,y]∧H a=some (.ins CT dx (tf v.classes lo wi l))∧Bds H lo wi v∧IsQ H y (toQ r)∧Fit r∧Q (.int (classOf v (toQ r):Nat)) H
theorem xL:zL ["self","value","low","width","over_low","widths"] ["self","value"] (zE jB):=by trivial
theorem zBs (D:zT K CT "slot_of" "Table.slot_of" jB) (T:TX K mg CB CM CT):ve P w K mg base CT "slot_of" 1 ["self","value"] (zMS CT):=by
 have nd:=xL.nd
 refine jp D xL (L2.bA2 fun _ _ _ _ _ _ _ _=>rfl) ?_ ?_
 ·rintro vs H Q E ⟨a,dx,l,y,lo,wi,v,r,rfl,_⟩;rfl
 ·rintro f cdv A outer s H vs Q E hr ⟨a,dx,l,y,lo,wi,v,r,rfl,ha,⟨⟨p1,rfl,h1⟩,⟨p2,rfl,h2⟩,l0,w0,e1,e2,hp,fl,fw⟩,⟨p3,rfl,h3⟩,fr,k⟩;refine⟨_,(zC (zU (i:=2) nd rfl (Or.inl rfl) (zO (pv 0) rfl)) (zC (zU (i:=3) nd rfl (Or.inl rfl) (zO (pv 0) rfl)) (zC (zU (i:=4) nd rfl (Or.inl rfl) (jI zCN (jI jG (zN zK (pv 1) zH (fun _ _=>rfl)) (zN zK (pv 2) zH (fun _ _=>rfl))) (jI jG (zN zK (pv 2) zH (fun _ _=>rfl)) (zN zK (pv 1) zH (fun _ _=>rfl))))) (zC (zU (i:=5) nd rfl (Or.inl rfl) (jI yo (jI jG (pv 4) (zN zK (pv 3) zH (fun _ _=>rfl))) (jI jG (jI jG (zN zK (pv 1) zH (fun _ _=>rfl)) (zN zK (pv 2) zH (fun _ _=>rfl))) (zN zK (pv 3) zH (fun _ _=>rfl))))) (zI (zP (zh (zJX rfl) (by rfl) T.n_min boot_min (zB (zh (zJW rfl) (by rfl) T.n_max boot_max (zB (jI zCM (pv 5) zH) (zB zH zG))) (zB (jI zCM (zO (pv 0) rfl) zH) zG))))))))),?_⟩;rw [e1] at h1;rw [e2] at h2;have a1:=fl.abs;have a2:=fw.abs;have a3:=fr.abs;have m1:IntMulOk (toQ r).num ((toQ l0).den:Int):=zBC a3.1 a1.2;refine⟨_,rfl,a,CT,dx,_,_,rfl,ha,T.clTable,T.t2,tf2,?_⟩;refine⟨_,rfl,a,CT,dx,_,_,rfl,ha,T.clTable,T.t3,tf3,?_⟩;refine⟨_,rfl,.inr (.inl ⟨p3,_,0,.int (toQ r).num,rfl,rfl,SqT.of h3,rfl,_,rfl,.inr (.inl ⟨p1,_,1,.int ((toQ l0).den:Int),rfl,rfl,SqT.of h1,rfl,_,_,rfl,rfl,m1,?_⟩)⟩)⟩;refine⟨_,rfl,.inr (.inl ⟨p1,_,0,.int (toQ l0).num,rfl,rfl,SqT.of h1,rfl,_,rfl,.inr (.inl ⟨p3,_,1,.int ((toQ r).den:Int),rfl,rfl,SqT.of h3,rfl,_,_,rfl,rfl,zBC a1.1 a3.2,_,_,rfl,rfl,?_⟩)⟩)⟩
  have ov:((toQ r).num*((toQ l0).den:Int)-(toQ l0).num*((toQ r).den:Int)).natAbs<2 ^ 130:=by
   have b1:=yN a3.1 a1.2;have b2:=yN a1.1 a3.2
   have b3:(2:Nat) ^ (64+64)+2 ^ (64+64)<2 ^ 130:=by decide
   have:=Int.natAbs_sub_le ((toQ r).num*((toQ l0).den:Int)) ((toQ l0).num*((toQ r).den:Int));omega
  refine⟨_,rfl,_,rfl,.inr (.inl ⟨p2,_,1,.int ((toQ w0).den:Int),rfl,rfl,SqT.of h2,rfl,_,_,rfl,rfl,zBC ov a2.2,?_⟩)⟩;refine⟨_,rfl,.inr (.inl ⟨p3,_,1,.int ((toQ r).den:Int),rfl,rfl,SqT.of h3,rfl,_,rfl,.inr (.inl ⟨p1,_,1,.int ((toQ l0).den:Int),rfl,rfl,SqT.of h1,rfl,_,_,rfl,rfl,zBC a3.2 a1.2,?_⟩)⟩)⟩;have dd:=yN a3.2 a1.2;refine⟨_,rfl,.inr (.inl ⟨p2,_,0,.int (toQ w0).num,rfl,rfl,SqT.of h2,rfl,_,_,rfl,rfl,zBC dd a2.1,_,_,rfl,rfl,⟨?_,?_⟩,?_⟩)⟩
  ·have r0:(0:Int)<(r.den:Int):=by have:=r.den_nz;omega
   have l1:(0:Int)<(l0.den:Int):=by have:=l0.den_nz;omega
   exact Int.mul_pos (Int.mul_pos r0 l1) (zGT hp)
  ·exact lt_of_lt_of_le (kH (yN dd a2.1) (by decide)) (by decide)
  ·refine⟨_,rfl,_,_,rfl,rfl,_,_,rfl,_,rfl,a,CT,dx,_,_,rfl,ha,T.clTable,T.t1,tf1,_,_,rfl,rfl,_,_,rfl,?_⟩;rw [← zNi (v:=v) e1 e2 hp _ (zLl r l0 w0 hp)] at k;exact k
def cw (v:Table) (m:List Tly) (i:Nat):Int:=(m.map fun b=>if classOf v (toQ b.2.1)=i then(b.1:Int) else 0).sum
theorem zKJ (v:Table) (m:List Tly) (b:Tly) (i:Nat):cw v (m++[b]) i=cw v m i+(if classOf v (toQ b.2.1)=i then(b.1:Int) else 0):=by
 unfold cw;rw [map_append,List.sum_append];congr 1;exact Int.add_zero _
def zP4 (CT:Addr):Sp:=fun vs H Q _=>∃ (a:Addr) (lo wi:V) (v:Table) (m:List Tly),vs=[.ref a]∧zBG CT H a v.classes lo wi m∧Bds H lo wi v∧v.classes≤100∧∀ H' q,H' q=some (.lst ((List.range (v.classes+2)).map fun i=>V.int (cw v m i)))→H q=none→Kp [] H H'→Q (.ref q) H'
theorem ki:zL ["self","weights","weight","value","slot"] ["self"] (zE zW):=by trivial
theorem xR (D:zT K CT "class_weights" "Table.class_weights" zW) (T:TX K mg CB CM CT) (zKb:ve P w K mg base CT "slot_of" 1 ["self","value"] (zMS CT)):ve P w K mg base CT "class_weights" 2 ["self"] (zP4 CT):=by
 have nd:=ki.nd
 refine jp D ki (L2.bA1 fun _ _ _ _ _ _ _=>rfl) ?_ ?_
 ·rintro vs H Q E ⟨a,lo,wi,v,m,rfl,_⟩;rfl
 ·rintro f cdv A outer s H vs Q E hr ⟨a,lo,wi,v,m,rfl,⟨dx,l,xs,ha,hl,hM,hm,hok⟩,hB,hc,k⟩;refine⟨_,(zC (yk (i:=1) (own:=[("slot",4)]) rfl nd rfl rfl (w8 rfl rfl rfl rfl) (zAS rfl T.n_range (zB (jI zCM (zO (pv 0) rfl) zH) zG)) (zx (by show zBb ["self","weights","weight","value","slot"] (zE zW) _ _=true;decide +kernel)) (fun _ _ _ _ _=>(zS (i:=4) nd rfl (Or.inl rfl))) (fun _ _ _ _ _=>jm) (fun _ _ _ _ _=>zH)) (zC (yT PassesOwn.never rfl (jF (zO (pv 0) rfl)) (zCL rfl (zV (zS (i:=2) nd rfl (Or.inl rfl)) (zV (zS (i:=3) nd rfl (Or.inl rfl)) jk))) (zI (zJP (pv 1) (vF T.clTable zKb (hr.mono (by decide)) (pv 0) (zB (pv 3) zG)) zHt (pv 2) zHd zER))) (zI (zP (pv 1))))),?_⟩;refine⟨_,rfl,a,CT,dx,_,_,rfl,ha,T.clTable,T.t1,tf1,_,_,rfl,rfl,((v.classes:Nat):Int)+2,rfl,by omega,by omega,fun wl hwl=>?_⟩;rw [show(((v.classes:Nat):Int)+2).toNat=v.classes+2 from by omega];have nla:l≠wl:=zF hl hwl;refine zB3 (lo:=0) (n:=v.classes+2) (fun i H'=>H' wl=some (.lst ((List.range i).map fun _=>V.int 0))∧Kp [] H H') ?_ ?_ ?_
  ·exact⟨zA,Kp.refl.upd (.inr hwl)⟩
  ·rintro i H' hi ⟨h1,kp⟩;refine⟨rfl,_,h1,by rw [length_map,length_range];exact zb (by omega),?_,kp.upd (.inr hwl)⟩;rw [zA,range_succ,map_append];rfl
  ·rintro H1 ⟨h1,k1⟩;have lx:xs.length=m.length:=jK hM;have ha1:=k1 _ _ ha (by simp);have hl1:=k1 _ _ hl (by simp);refine⟨_,rfl,a,CT,dx,_,_,rfl,ha1,T.clTable,T.t4,tf4,l,rfl,⟨_,SqL.of hl1⟩,kx (K:=K) (a:=l) (xs:=xs) (fun i σ H'=>∃ v2 v3 v4,σ=[some (.ref a),some (.ref wl),v2,v3,v4]∧H' wl=some (.lst ((List.range (v.classes+2)).map fun j=>V.int (cw v (m.take i) j)))∧Kp [] H H') ?_ ?_ ?_ ?_⟩
   ·exact⟨_,_,_,rfl,h1,k1⟩
   ·rintro i σ H' _ ⟨v2,v3,v4,_,_,kp⟩;exact SqL.of (kp _ _ hl (by simp))
   ·rintro i x σ H' hi ⟨v2,v3,v4,rfl,h2,kp⟩;obtain⟨b,hb,⟨q,rfl,hq,hbq⟩⟩:=vG hM hi;have tp:jd H H':=kp.tups (by simp);have mb:b∈m:=List.mem_of_getElem? hb
    have e2:m.take (i+1)=m.take i++[b]:=by rw [take_succ,hb];rfl
    have cl:=zLm v (toQ b.2.1);refine⟨q,_,rfl,SqT.of (kp _ _ hq (by simp)),rfl,_,_,rfl,_,_,rfl,rfl,?_⟩;refine⟨_,rfl,_,rfl,a,dx,_,rfl,kp _ _ ha (by simp),tn2,_,rfl,a,dx,l,_,lo,wi,v,b.2.1,rfl,kp _ _ ha (by simp),hB.keep tp,hbq.keep tp,(hok b mb).fit,?_⟩;refine⟨wl,_,_,.int (cw v (m.take i) (classOf v (toQ b.2.1))),rfl,rfl,SqL.of h2,?_,_,rfl,_,_,rfl,rfl,wl,_,_,classOf v (toQ b.2.1),rfl,rfl,h2,?_,?_⟩
    ·refine yK ?_;rw [getElem?_map,getElem?_range cl];rfl
    ·rw [length_map,length_range];unfold ixN;rw [if_pos (by omega),if_pos (by omega)];rfl
    ·refine⟨_,_,_,rfl,?_,kp.upd (.inr hwl)⟩;rw [zA,e2];refine congrArg (fun z=>some (HO.lst z)) (zAj cl ?_ fun j hj=>?_)
     ·rw [zKJ,if_pos rfl]
     ·rw [zKJ,if_neg (fun z=>hj z.symm),Int.add_zero]
   ·rintro σ H' ⟨v2,v3,v4,rfl,h2,kp⟩;rw [lx,take_length] at h2;exact⟨_,rfl,k H' wl h2 hwl kp⟩
end
end Mb
namespace Mb
open PySem PySem.Spec PyProof.Rows L2
theorem wN {d:Int}(h1:1≤d) (h2:d≤1000000000000000000):0<d.toNat∧d.toNat.log2<9000∧d=(d.toNat:Int):=⟨by omega,zAY (by omega),by omega⟩
theorem zG0 {L:Lay}{b:Bank}{k:Nat}(h:k<64):atI ((List.range 64).map fun i=>if(b.table i).classes=0 then V.non else V.ref (L.t i)) (k:Int)=some (if(b.table k).classes=0 then V.non else V.ref (L.t k)):=by
 refine yK ?_;rw [getElem?_map,getElem?_range h];rfl
theorem IsQ.new {H:Hp}{p:Addr}{q:Vbdeai.Q}:IsQ (upd H p (qT q)) (.ref p) q:=⟨p,rfl,zA⟩
section
variable {CB CM CT:Addr}{H H':Hp}{L:Lay}{b:Bank}
theorem Kp.out (B:zc CB CM CT H L b){A:List Addr}{S:zDK→Prop}(k:Kp A H H') (h:∀ a∈A,∃ r,live b r∧L.at r=a∧S r):Out S L b H H'∧jd H H'∧zDF L b H H':=by
 refine⟨B.out k fun r hr ha=>?_,k.tups fun a ha xs=>?_,fun a o e ns=>k a o e fun ha=>?_⟩
 ·obtain⟨r',h1,h2,h3⟩:=h _ ha;rw [B.inj r r' hr h1 h2.symm];exact h3
 ·obtain⟨r',h1,h2,h3⟩:=h _ ha;rw [← h2];exact B.notup h1 xs
 ·obtain⟨r',h1,h2,h3⟩:=h _ ha;exact ns r' h1 h2
end
section
variable {P:Program}{w:World}{K:W.Frag}{mg:Str→Option Value}{base:Heap}{CB CM CT:Addr}
theorem zBf:zL ["book","numbers","first_bound","width"] ["book","numbers"] (zE yt):=by trivial
theorem zDR (T:TX K mg CB CM CT) (zr:Has P w K mg base "lowest" 2 ["num","den"] vW) (zHC:zLU P w K mg base "Table" CT 1 ["self","class_count","first_bound","width"] (zMO CT)):zAA P w K mg base ["book","numbers","first_bound","width"] "do_define" yt 2 (zBq CB CM CT 4):=by
 have nd:=zBf.nd;rintro f cdv A outer s H vs Q E hr ⟨L,b,nl,ns,n,rfl,B,ok,hn,hnl,sep,hrg,htm,k⟩
 obtain⟨k',c,ln,ld,wn,wd,rfl⟩:=ln6 (zJH hrg)
 ·
  simp only [rg,Bool.and_eq_true,okK,okQ,zm,decide_eq_true_eq] at hrg;obtain⟨dxb,hbk⟩:=B.bk;obtain⟨l1,l2,l3⟩:=wN (d:=ld) (by omega) (by omega);obtain⟨w1,w2,w3⟩:=wN (d:=wd) (by omega) (by omega)
  have hk:k'.toNat<64:=by omega
  have ek:k'=(k'.toNat:Int):=by omega
  have ec:c=(c.toNat:Int):=by omega
  refine⟨_,(zC (zU (i:=2) nd rfl (Or.inl rfl) (vO zr (hr.mono (by decide)) (zB (zN zK (pv 1) zH (fun _ _=>rfl)) (zB (zN zK (pv 1) zH (fun _ _=>rfl)) zG)))) (zC (zU (i:=3) nd rfl (Or.inl rfl) (vO zr (hr.mono (by decide)) (zB (zN zK (pv 1) zH (fun _ _=>rfl)) (zB (zN zK (pv 1) zH (fun _ _=>rfl)) zG)))) (zC (zOJ (zQb zHC (hr.mono (by decide)) (zB (zN zK (pv 1) zH (fun _ _=>rfl)) (zB (pv 2) (zB (pv 3) zG)))) (zOI (zO (pv 0) rfl) (zN zK (pv 1) zH (fun _ _=>rfl)) zER)) (zI (zP (zn T.cDONE)))))),?_⟩;refine⟨_,rfl,.inl ⟨nl,_,2,.int ln,rfl,rfl,SqL.of hnl,rfl,_,rfl,.inl ⟨nl,_,3,.int ld,rfl,rfl,SqL.of hnl,rfl,ln,ld.toNat,by rw [← l3];rfl,l1,l2,fun p1 hp1=>?_⟩⟩⟩;have n1:nl≠p1:=zF hnl hp1
  have hnl1:upd H p1 (qT (Vbdeai.Q.of ln ld.toNat)) nl=some (.lst (List.map V.int [k',c,ln,ld,wn,wd])):=by rw [zD n1];exact hnl
  refine⟨_,rfl,.inl ⟨nl,_,4,.int wn,rfl,rfl,SqL.of hnl1,rfl,_,rfl,.inl ⟨nl,_,5,.int wd,rfl,rfl,SqL.of hnl1,rfl,wn,wd.toNat,by rw [← w3];rfl,w1,w2,fun p2 hp2=>?_⟩⟩⟩;have n2:nl≠p2:=zF hnl1 hp2
  have hnl2:upd (upd H p1 (qT (Vbdeai.Q.of ln ld.toNat))) p2 (qT (Vbdeai.Q.of wn wd.toNat)) nl=some (.lst (List.map V.int [k',c,ln,ld,wn,wd])):=by rw [zD n2];exact hnl1
  have n12:p1≠p2:=fun z=>by rw [← z,zA] at hp2;cases hp2
  have kp2:Kp [] H (upd (upd H p1 (qT (Vbdeai.Q.of ln ld.toNat))) p2 (qT (Vbdeai.Q.of wn wd.toNat))):=(Kp.refl.upd (.inr hp1)).upd (.inr (by rw [zD n12.symm] at hp2;exact hp2));have q1:IsQ (upd (upd H p1 (qT (Vbdeai.Q.of ln ld.toNat))) p2 (qT (Vbdeai.Q.of wn wd.toNat))) (.ref p1) (Vbdeai.q ln ld):=⟨p1,rfl,by rw [zD n12];exact zA⟩;have q2:IsQ (upd (upd H p1 (qT (Vbdeai.Q.of ln ld.toNat))) p2 (qT (Vbdeai.Q.of wn wd.toNat))) (.ref p2) (Vbdeai.q wn wd):=IsQ.new;generalize upd (upd H p1 (qT (Vbdeai.Q.of ln ld.toNat))) p2 (qT (Vbdeai.Q.of wn wd.toNat))=H2 at hnl2 kp2 q1 q2 ⊢;refine⟨_,rfl,.inl ⟨nl,_,1,.int c,rfl,rfl,SqL.of hnl2,rfl,_,rfl,_,rfl,fun x dx hx hdx nex=>?_⟩⟩;refine⟨x,dx,c,_,_,rfl,zA,fun H3 l h1 h2 h3 k3=>⟨rfl,?_⟩⟩
  have nlx:l≠x:=fun z=>by rw [z,zA] at h3;cases h3
  have nld:l≠dx:=fun z=>by rw [z,zD nex,zA] at h3;cases h3
  have hl2:H2 l=none:=by rw [zD nlx,zD nld] at h3;exact h3
  have kp3:Kp [] H H3:=fun a o e _=>by
   have e2:=kp2 a o e (by simp);refine k3 a o ?_ ?_
   ·rw [zD (zF e2 hx),zD (zF e2 hdx)];exact e2
   ·simpa using zF e2 hx
  have t3:jd H2 H3:=fun a xs e=>by
   refine k3 a _ ?_ ?_
   ·rw [zD (zF e hx),zD (zF e hdx)];exact e
   ·simpa using zF e hx
  have hlt3:=kp3 _ _ B.lt (by simp);refine⟨_,rfl,L.bk,CB,dxb,_,_,rfl,kp3 _ _ hbk (by simp),T.clBook,T.b4,bf4,_,rfl,.inl ⟨nl,_,0,.int k',rfl,rfl,SqL.of (kp3 _ _ hnl (by simp)),rfl,L.lt,_,k',k'.toNat,rfl,rfl,hlt3,?_,?_⟩⟩
  ·rw [length_map,length_range,ek];unfold ixN;rw [if_pos (by omega),if_pos (by omega)]
  have nlt:∀ z,H z=none→L.lt≠z:=fun z hz=>zF B.lt hz;have hxH:H x=none:=kp2.none hx (by simp);have hlH:H l=none:=kp2.none hl2 (by simp);have e0:chg 4 b [k',c,ln,ld,wn,wd] = .ok (b.setTable k'.toNat { classes:=c.toNat,low:=Vbdeai.q ln ld,width:=Vbdeai.q wn wd }):=rfl;rw [e0] at k;have kp4:=kp3.mono (R:=[L.lt]) (by simp)
  obtain⟨o4,t4,f4⟩:=Kp.out (S:=fun r=>r = .lt∨r = .t k'.toNat∨r = .ta k'.toNat) B (kp4.upd (a:=L.lt) (o := .lst (((List.range 64).map fun i=>if(b.table i).classes=0 then V.non else V.ref (L.t i)).set k'.toNat (.ref x))) (.inl (by simp))) (by
   intro a ha;exact⟨.lt,trivial,(List.mem_singleton.mp ha).symm,.inl rfl⟩)
  have tu:jd H3 (upd H3 L.lt (.lst (((List.range 64).map fun i=>if(b.table i).classes=0 then V.non else V.ref (L.t i)).set k'.toNat (.ref x)))):=jd.upd fun xs e=>by rw [hlt3] at e;cases e
  have hkl:k'.toNat<b.tables.length:=by rw [ok.lt];exact hk
  have TA:kK CT (upd H3 L.lt (.lst (((List.range 64).map fun i=>if(b.table i).classes=0 then V.non else V.ref (L.t i)).set k'.toNat (.ref x)))) x l { classes:=c.toNat,low:=Vbdeai.q ln ld,width:=Vbdeai.q wn wd }:=by
   refine⟨⟨dx,.ref p1,.ref p2,?_,(q1.keep t3).keep tu,(q2.keep t3).keep tu⟩,⟨[],?_,.nil⟩⟩
   ·rw [zD (nlt x hxH).symm];show H3 x=some (.ins CT dx (tf (c.toNat:Int) (.ref p1) (.ref p2) l));rw [← ec];exact h1
   ·rw [zD (nlt l hlH).symm];exact h2
  have hlt':(upd H3 L.lt (.lst (((List.range 64).map fun i=>if(b.table i).classes=0 then V.non else V.ref (L.t i)).set k'.toNat (.ref x)))) L.lt=some (.lst ((List.range 64).map fun i=>if((b.setTable k'.toNat { classes:=c.toNat,low:=Vbdeai.q ln ld,width:=Vbdeai.q wn wd }).table i).classes=0 then V.non else V.ref (vb L.t k'.toNat x i))):=by
   rw [zA];congr 2;refine zAj hk ?_ ?_
   ·rw [kS _ _ hkl,if_pos rfl,zR,if_neg (by show ¬ c.toNat=0;omega)]
   ·intro i hi;rw [kS _ _ hkl,if_neg hi,zg hi]
  obtain⟨B',gr⟩:=B.tableStep ok.lt hk o4 t4 (by show c.toNat≠0;omega) TA hlt' (.inr hxH) (.inr hlH);exact k _ _ B' f4 gr rfl
end
end Mb
namespace Mb
open PySem PySem.Spec PyProof.Rows L2
section
variable {CB CM CT:Addr}{H H':Hp}{L:Lay}{b:Bank}
theorem zc.same (B:zc CB CM CT H L b) (k:Kp [] H H'):zc CB CM CT H' L b∧zDF L b H H':=by
 have o:Out (fun _=>False) L b H H':=fun r _ _ o e=>k _ o e (by simp);have t:jd H H':=k.tups (by simp);obtain⟨dx,hb⟩:=B.bk;exact⟨⟨B.inj,⟨dx,o .bk trivial id _ hb⟩,o .lm trivial id _ B.lm,o .lt trivial id _ B.lt,o .ll trivial id _ B.ll,fun j hj=>B.meter o t hj id id id,fun j hj hc=>B.table o t hj hc id id,fun j hj=>B.line o t hj id⟩,fun a o e _=>k a o e (by simp)⟩
theorem zOy {k:Nat}:L.tab k (L.t k) (L.ta k)=L:=by
 unfold Lay.tab;rw [xf,xf]
theorem zc.lineStep (B:zc CB CM CT H L b) (hl:b.values.length=64){i:Nat}{v:Vbdeai.Value}(hi:i<64) (M:xY H' (L.li i) b.since v) (k:Kp [L.li i] H H'):zc CB CM CT H' L (b.setValue i v)∧zDF L b H H':=by
 obtain⟨o,t,f⟩:=Kp.out (S:=fun r=>r = .li i) B k (by
  intro a ha;exact⟨.li i,hi,(List.mem_singleton.mp ha).symm,rfl⟩)
 obtain⟨dx,hb⟩:=B.bk;refine⟨⟨fun r r' h h'=>B.inj r r' (by cases r<;>exact h) (by cases r'<;>exact h'),⟨dx,o .bk trivial nofun _ hb⟩,o .lm trivial nofun _ B.lm,o .lt trivial nofun _ B.lt,o .ll trivial nofun _ B.ll,fun j hj=>B.meter o t hj nofun nofun nofun,fun j hj hc=>B.table o t hj hc nofun nofun,fun j hj=>?_⟩,f⟩;rw [zCH j v (by rw [hl];exact hi)];by_cases e:j=i
 ·subst e;rw [if_pos rfl];exact M
 ·rw [if_neg e];exact B.line o t hj (fun q=>by cases q;exact e rfl)
end
theorem zEs {n k:Nat}{b:Bank}(ok:zw n b) (hk:k<64):(b.table k).seen.length≤n :=
 le_trans (zGU (fun v:Table=>v.seen.length) b.tables k {} (by rw [ok.lt];exact hk)) ok.seens
section
variable {P:Program}{w:World}{K:W.Frag}{mg:Str→Option Value}{base:Heap}{CB CM CT:Addr}
theorem zCk:zL ["book","numbers","table","value"] ["book","numbers"] (zE wL):=by trivial
theorem zEt (T:TX K mg CB CM CT) (zr:Has P w K mg base "lowest" 2 ["num","den"] vW):zAA P w K mg base ["book","numbers","table","value"] "do_tally" wL 2 (zBq CB CM CT 5):=by
 have nd:=zCk.nd;rintro f cdv A outer s H vs Q E hr ⟨L,b,nl,ns,n,rfl,B,ok,hn,hnl,sep,hrg,htm,k⟩
 obtain⟨k',c,ln,ld,rfl⟩:=ln4 (zJH hrg)
 ·
  simp only [rg,Bool.and_eq_true,okK,okX,okQ,zm] at hrg;obtain⟨dxb,hbk⟩:=B.bk;obtain⟨l1,l2,l3⟩:=wN (d:=ld) (by omega) (by omega)
  have hk:k'.toNat<64:=by omega
  have ek:k'=(k'.toNat:Int):=by omega
  have ec:c=(c.toNat:Int):=by omega
  refine⟨_,(zC (zU (i:=2) nd rfl (Or.inl rfl) (zN zK (zO (pv 0) rfl) (zN zK (pv 1) zH (fun _ _=>rfl)) (fun _ _=>rfl))) (zC (kj (wc (zCK (pv 2))) (zI (zP (zn T.cNO_LIKE_TABLE))) jM) (zC (zU (i:=3) nd rfl (Or.inl rfl) (vO zr (hr.mono (by decide)) (zB (zN zK (pv 1) zH (fun _ _=>rfl)) (zB (zN zK (pv 1) zH (fun _ _=>rfl)) zG)))) (zC (kj (jl zFR (zN zK (pv 3) zH (fun _ _=>rfl)) (zn T.cFINEST_DENOMINATOR) (jc _)) (zI (zP (zn T.cTOO_FINE))) jM) (zC (jP (ww F.plainAttrs_list F.slot_list_append F.type_list_append kD (zO (pv 2) rfl) (zB (kM (zB (zN zK (pv 1) zH (fun _ _=>rfl)) (zB (pv 3) zG))) zG))) (zI (zP (zn T.cDONE)))))))),?_⟩;have e0:chg 5 b [k',c,ln,ld]=(if(b.table k'.toNat).classes=0 then .err 8 else if Vbdeai.FINE<(Vbdeai.q ln ld).den then .err 7 else .ok (b.setTable k'.toNat { b.table k'.toNat with seen:=(c.toNat,Vbdeai.q ln ld)::(b.table k'.toNat).seen })):=rfl;rw [e0] at k;refine⟨_,rfl,L.bk,CB,dxb,_,_,rfl,hbk,T.clBook,T.b4,bf4,_,rfl,.inl ⟨nl,_,0,.int k',rfl,rfl,SqL.of hnl,rfl,.inl ⟨L.lt,_,_,_,rfl,rfl,SqL.of B.lt,(by rw [ek];exact zG0 hk),?_⟩⟩⟩;refine⟨_,rfl,_,rfl,?_⟩;by_cases h0:(b.table k'.toNat).classes=0
  ·rw [if_pos h0] at k;rw [if_pos h0];refine yc ?_;exact k H L B zDF.refl zCY.refl rfl
  ·rw [if_neg h0] at k;rw [if_neg h0];refine ym ?_;refine⟨_,rfl,.inl ⟨nl,_,2,.int ln,rfl,rfl,SqL.of hnl,rfl,_,rfl,.inl ⟨nl,_,3,.int ld,rfl,rfl,SqL.of hnl,rfl,ln,ld.toNat,by rw [← l3];rfl,l1,l2,fun p1 hp1=>?_⟩⟩⟩;have n1:nl≠p1:=zF hnl hp1
   have hnl1:upd H p1 (qT (Vbdeai.Q.of ln ld.toNat)) nl=some (.lst (List.map V.int [k',c,ln,ld])):=by rw [zD n1];exact hnl
   have kp1:Kp [] H (upd H p1 (qT (Vbdeai.Q.of ln ld.toNat))):=Kp.refl.upd (.inr hp1);refine⟨_,rfl,.inr (.inl ⟨p1,_,1,_,rfl,rfl,SqT.of zA,rfl,_,_,rfl,rfl,_,rfl,?_⟩)⟩;refine zMG (fun h=>?_) fun h=>?_
   ·have h:Vbdeai.FINE<(Vbdeai.q ln ld).den:=by
     have:=of_decide_eq_true h;have e:Vbdeai.q ln ld=Vbdeai.Q.of ln ld.toNat:=rfl;rw [e];unfold Vbdeai.FINE;omega
    rw [if_pos h] at k;obtain⟨B1,f1⟩:=B.same kp1;exact k _ L B1 f1 zCY.refl rfl
   ·have h:¬ Vbdeai.FINE<(Vbdeai.q ln ld).den:=fun z=>h (decide_eq_true (by
     have e:Vbdeai.q ln ld=Vbdeai.Q.of ln ld.toNat:=rfl;rw [e] at z;unfold Vbdeai.FINE at z;omega))
    rw [if_neg h] at k;obtain⟨⟨dx,lo,wi,ha,hlo,hwi⟩,⟨xs,hx,hT⟩⟩:=B.tb _ hk h0
    have lx:xs.length<1000:=by
     have:=jK hT;rw [length_reverse] at this;have:=zEs ok hk;omega
    have ha1:=kp1 _ _ ha (by simp);have hx1:=kp1 _ _ hx (by simp);refine⟨_,rfl,L.t k'.toNat,CT,dx,_,_,rfl,ha1,T.clTable,T.t4,tf4,.inl ⟨rfl,_,SqL.of hx1⟩,_,rfl,.inl ⟨nl,_,1,.int c,rfl,rfl,SqL.of hnl1,rfl,_,rfl,(by show 2≤sizeLine;decide),fun p2 hp2=>?_⟩⟩;have n2:L.ta k'.toNat≠p2:=zF hx1 hp2;refine⟨L.ta k'.toNat,xs,_,rfl,rfl,(by rw [zD n2];exact hx1),zb (le_of_lt lx),?_⟩;have h2H:H p2=none:=kp1.none hp2 (by simp);have kp2:=(kp1.upd (a:=p2) (o := .tup [.int c,.ref p1]) (.inr h2H)).mono (R:=[L.ta k'.toNat]) (by simp)
    obtain⟨o4,t4,f4⟩:=Kp.out (S:=fun r=>r = .lt∨r = .t k'.toNat∨r = .ta k'.toNat) B (kp2.upd (a:=L.ta k'.toNat) (o := .lst (xs++[.ref p2])) (.inl (by simp))) (by
     intro a ha;exact⟨.ta k'.toNat,⟨hk,h0⟩,(List.mem_singleton.mp ha).symm,.inr (.inr rfl)⟩)
    have nta:L.t k'.toNat≠L.ta k'.toNat:=B.ne (r := .t _) (r' := .ta _) ⟨hk,h0⟩ ⟨hk,h0⟩ nofun
    have n12:p1≠p2:=fun z=>by rw [← z,zA] at hp2;cases hp2
    have n1a:p1≠L.ta k'.toNat:=fun z=>by rw [← z] at hx;exact absurd (hx.symm.trans hp1) nofun
    have TA:kK CT (upd (upd (upd H p1 (qT (Vbdeai.Q.of ln ld.toNat))) p2 (.tup [.int c,.ref p1])) (L.ta k'.toNat) (.lst (xs++[.ref p2]))) (L.t k'.toNat) (L.ta k'.toNat) { b.table k'.toNat with seen:=(c.toNat,Vbdeai.q ln ld)::(b.table k'.toNat).seen }:=by
     refine⟨⟨dx,lo,wi,?_,hlo.keep t4,hwi.keep t4⟩,⟨_,zA,?_⟩⟩
     ·rw [zD nta,zD (zF ha1 hp2)];exact ha1
     ·show Paired _ _ (((c.toNat,Vbdeai.q ln ld)::(b.table k'.toNat).seen).reverse);rw [reverse_cons];refine zAX (Paired.mapP hT fun _ _ q=>q.keep t4) (.cons ⟨p2,.ref p1,rfl,?_,p1,rfl,?_⟩ .nil)
      ·rw [zD n2.symm,zA,ec];rfl
      ·rw [zD n1a,zD n12,zA];rfl
    have hlt':(upd (upd (upd H p1 (qT (Vbdeai.Q.of ln ld.toNat))) p2 (.tup [.int c,.ref p1])) (L.ta k'.toNat) (.lst (xs++[.ref p2]))) L.lt=some (.lst ((List.range 64).map fun i=>if((b.setTable k'.toNat { b.table k'.toNat with seen:=(c.toNat,Vbdeai.q ln ld)::(b.table k'.toNat).seen }).table i).classes=0 then V.non else V.ref (vb L.t k'.toNat (L.t k'.toNat) i))):=by
     have nlt:L.lt≠L.ta k'.toNat:=B.ne (r := .lt) (r' := .ta _) trivial ⟨hk,h0⟩ nofun;have h3:=kp2 _ _ B.lt (by simpa using nlt);rw [zD nlt,h3,xf];exact congrArg (fun z=>some (HO.lst z)) (zGz (b:=b) (v:={ b.table k'.toNat with seen:=(c.toNat,Vbdeai.q ln ld)::(b.table k'.toNat).seen }) ok.lt hk Iff.rfl L.t).symm
    obtain⟨B',gr⟩:=B.tableStep (v:={ b.table k'.toNat with seen:=(c.toNat,Vbdeai.q ln ld)::(b.table k'.toNat).seen }) ok.lt hk o4 t4 h0 TA hlt' (.inl ⟨h0,rfl⟩) (.inl ⟨h0,rfl⟩);exact k _ _ B' f4 gr rfl
theorem zD2:zL ["book","numbers"] ["book","numbers"] (zE zAi):=by trivial
theorem zF0 (T:TX K mg CB CM CT):zAA P w K mg base ["book","numbers"] "do_tick" zAi 2 (zBq CB CM CT 8):=by
 have nd:=zD2.nd;rintro f cdv A outer s H vs Q E hr ⟨L,b,nl,ns,n,rfl,B,ok,hn,hnl,sep,hrg,htm,k⟩
 obtain⟨t,rfl⟩:=ln1 (zJH hrg)
 ·
  simp only [rg,okT,zm] at hrg
  have hcl:b.clock≤t.toNat:=by have:=htm (.inr (.inr (.inr rfl)));simp only [headD_cons] at this;omega
  refine⟨_,(zI (zP (zn T.cDONE))),?_⟩
  have e0:chg 8 b [t] = .ok { b with clock:=t.toNat }:=by
   show Vbdeai.tick b t.toNat=_;unfold Vbdeai.tick Vbdeai.timed;rw [if_neg (Nat.not_lt.mpr hcl)]
  rw [e0] at k;exact k H L B zDF.refl zCY.refl rfl
theorem zF1:zL ["book","numbers"] ["book","numbers"] (zE zB8):=by trivial
theorem zG1 (T:TX K mg CB CM CT) (zr:Has P w K mg base "lowest" 2 ["num","den"] vW):zAA P w K mg base ["book","numbers"] "do_set" zB8 2 (zBq CB CM CT 6):=by
 have nd:=zF1.nd;rintro f cdv A outer s H vs Q E hr ⟨L,b,nl,ns,n,rfl,B,ok,hn,hnl,sep,hrg,htm,k⟩
 obtain⟨t,v,ln,ld,rfl⟩:=ln4 (zJH hrg)
 ·
  simp only [rg,Bool.and_eq_true,okT,okK,okQ,zm] at hrg
  have hcl:b.clock≤t.toNat:=by have:=htm (.inr (.inl rfl));simp only [headD_cons] at this;omega
  obtain⟨dxb,hbk⟩:=B.bk;obtain⟨l1,l2,l3⟩:=wN (d:=ld) (by omega) (by omega)
  have hv:v.toNat<64:=by omega
  have ev:v=(v.toNat:Int):=by omega
  have et:t=(t.toNat:Int):=by omega
  refine⟨_,(zC (jP (ww F.plainAttrs_list F.slot_list_append F.type_list_append kD (zN zK (zO (pv 0) rfl) (zN zK (pv 1) zH (fun _ _=>rfl)) (fun _ _=>rfl)) (zB (kM (zB (zN zK (pv 1) zH (fun _ _=>rfl)) (zB (vO zr (hr.mono (by decide)) (zB (zN zK (pv 1) zH (fun _ _=>rfl)) (zB (zN zK (pv 1) zH (fun _ _=>rfl)) zG))) zG))) zG))) (zI (zP (zn T.cDONE)))),?_⟩
  have e0:chg 6 b [t,v,ln,ld] = .ok ({ b with clock:=t.toNat }.setValue v.toNat { b.value v.toNat with sets:=(t.toNat,Vbdeai.q ln ld)::(b.value v.toNat).sets }):=by
   show Vbdeai.set b t.toNat v.toNat (Vbdeai.q ln ld)=_;unfold Vbdeai.set Vbdeai.timed;rw [if_neg (Nat.not_lt.mpr hcl)];rfl
  rw [e0] at k;obtain⟨xs,hx,hP⟩:=B.vl _ hv
  have lx:xs.length<1000:=by
   have:=jK hP;unfold wT at this;rw [length_cons,length_reverse] at this;have:=ok.sets _ hv;omega
  have lat:atI ((List.range 64).map fun i=>V.ref (L.li i)) (v.toNat:Int)=some (.ref (L.li v.toNat)):=by
   refine yK ?_;rw [getElem?_map,getElem?_range hv];rfl
  refine⟨_,rfl,L.bk,CB,dxb,_,_,rfl,hbk,T.clBook,T.b5,bf5,_,rfl,.inl ⟨nl,_,1,.int v,rfl,rfl,SqL.of hnl,rfl,.inl ⟨L.ll,_,_,_,rfl,rfl,SqL.of B.ll,(by rw [ev];exact lat),?_⟩⟩⟩;refine⟨.inl ⟨rfl,_,SqL.of hx⟩,_,rfl,.inl ⟨nl,_,0,.int t,rfl,rfl,SqL.of hnl,rfl,?_⟩⟩;refine⟨_,rfl,.inl ⟨nl,_,2,.int ln,rfl,rfl,SqL.of hnl,rfl,_,rfl,.inl ⟨nl,_,3,.int ld,rfl,rfl,SqL.of hnl,rfl,ln,ld.toNat,by rw [← l3];rfl,l1,l2,fun p1 hp1=>?_⟩⟩⟩;have kp1:Kp [] H (upd H p1 (qT (Vbdeai.Q.of ln ld.toNat))):=Kp.refl.upd (.inr hp1);have hx1:=kp1 _ _ hx (by simp);refine⟨(by show 2≤sizeLine;decide),fun p2 hp2=>?_⟩;have n2:L.li v.toNat≠p2:=zF hx1 hp2;refine⟨L.li v.toNat,xs,_,rfl,rfl,(by rw [zD n2];exact hx1),zb (le_of_lt lx),?_⟩;have h2H:H p2=none:=kp1.none hp2 (by simp);have kp2:=((kp1.upd (a:=p2) (o := .tup [.int t,.ref p1]) (.inr h2H)).mono (R:=[L.li v.toNat]) (by simp)).upd (a:=L.li v.toNat) (o := .lst (xs++[.ref p2])) (.inl (by simp))
  have t4:=kp2.tups (by
   intro a ha xs;rw [List.mem_singleton.mp ha];exact B.notup (r := .li v.toNat) hv xs)
  have n12:p1≠p2:=fun z=>by rw [← z,zA] at hp2;cases hp2
  have n1a:p1≠L.li v.toNat:=fun z=>by rw [← z] at hx;exact absurd (hx.symm.trans hp1) nofun
  have M:xY (upd (upd (upd H p1 (qT (Vbdeai.Q.of ln ld.toNat))) p2 (.tup [.int t,.ref p1])) (L.li v.toNat) (.lst (xs++[.ref p2]))) (L.li v.toNat) b.since { b.value v.toNat with sets:=(t.toNat,Vbdeai.q ln ld)::(b.value v.toNat).sets }:=by
   refine⟨_,zA,?_⟩;show Paired _ _ ((b.since,(b.value v.toNat).base)::((t.toNat,Vbdeai.q ln ld)::(b.value v.toNat).sets).reverse);rw [reverse_cons,← cons_append];refine zAX (Paired.mapP hP fun _ _ q=>q.keep t4) (.cons ⟨p2,.ref p1,rfl,?_,p1,rfl,?_⟩ .nil)
   ·rw [zD n2.symm,zA];show some (HO.tup [.int t,.ref p1])=some (HO.tup [.int (t.toNat:Int),.ref p1]);rw [← et]
   ·rw [zD n1a,zD n12,zA];rfl
  obtain⟨B',f'⟩:=B.lineStep ok.lv hv M kp2;exact k _ L B' f' (fun r h => .inl ⟨by cases r<;>exact h,rfl⟩) rfl
end
end Mb
namespace Mb
open PySem PySem.Spec PyProof.Rows L2
theorem zF2 (b:Bank) (k:Nat) (v:Table):(b.setTable k v).tables.length=b.tables.length:=by
 show(b.tables.set k v).length=_;exact length_set
section
variable {P:Program}{w:World}{K:W.Frag}{mg:Str→Option Value}{base:Heap}{CB CM CT:Addr}
theorem zCl:zL ["book","numbers","table","other"] ["book","numbers"] (zE wM):=by trivial
theorem zEu (T:TX K mg CB CM CT) (zC4:ve P w K mg base CT "is_like" 1 ["self","other"] (zMP CT)):zAA P w K mg base ["book","numbers","table","other"] "do_merge" wM 2 (zBq CB CM CT 9):=by
 have nd:=zCl.nd;rintro f cdv A outer s H vs Q E hr ⟨L,b,nl,ns,n,rfl,B,ok,hn,hnl,sep,hrg,htm,k⟩
 obtain⟨k',j',rfl⟩:=ln2 (zJH hrg)
 ·
  simp only [rg,Bool.and_eq_true,okK,zm] at hrg;obtain⟨dxb,hbk⟩:=B.bk
  have hk:k'.toNat<64:=by omega
  have hj:j'.toNat<64:=by omega
  have ek:k'=(k'.toNat:Int):=by omega
  have ej:j'=(j'.toNat:Int):=by omega
  refine⟨_,(zC (kj (jl zGa (zN zK (pv 1) zH (fun _ _=>rfl)) (zN zK (pv 1) zH (fun _ _=>rfl)) (jc _)) (zI (zP (zn T.cWRONG_PARTNER))) jM) (zC (zU (i:=2) nd rfl (Or.inl rfl) (zN zK (zO (pv 0) rfl) (zN zK (pv 1) zH (fun _ _=>rfl)) (fun _ _=>rfl))) (zC (zU (i:=3) nd rfl (Or.inl rfl) (zN zK (zO (pv 0) rfl) (zN zK (pv 1) zH (fun _ _=>rfl)) (fun _ _=>rfl))) (zC (kj (zOF (wc (zCK (pv 2))) (zL7 (wc (zCK (pv 3))))).pt (zI (zP (zn T.cNO_LIKE_TABLE))) jM) (zC (kj (zHc (vU (vF T.clTable zC4 (hr.mono (by decide)) (pv 2) (zB (pv 3) zG)) (fun _=>rfl))) (zI (zP (zn T.cNO_LIKE_TABLE))) jM) (zC (jP (ww F.plainAttrs_list F.slot_list_extend F.type_list_extend zFa (zO (pv 2) rfl) (zB (zO (pv 3) rfl) zG))) (zC (jV (pv 3) (jO zG) rfl) (zI (zP (zn T.cDONE)))))))))),?_⟩
  have e0:chg 9 b [k',j']=(if k'.toNat=j'.toNat then .err 4 else if(b.table k'.toNat).classes=0∨(b.table j'.toNat).classes=0 then .err 8 else
   if(b.table k'.toNat).classes≠(b.table j'.toNat).classes∨(b.table k'.toNat).low≠(b.table j'.toNat).low∨(b.table k'.toNat).width≠(b.table j'.toNat).width then .err 8 else
    .ok ((b.setTable k'.toNat { b.table k'.toNat with seen:=(b.table j'.toNat).seen++(b.table k'.toNat).seen }).setTable j'.toNat { b.table j'.toNat with seen:=[] })):=rfl
  rw [e0] at k;refine⟨_,rfl,.inl ⟨nl,_,0,.int k',rfl,rfl,SqL.of hnl,rfl,_,rfl,.inl ⟨nl,_,1,.int j',rfl,rfl,SqL.of hnl,rfl,rfl,_,rfl,?_⟩⟩⟩;refine zMG (fun h=>?_) fun h=>?_
  ·have h:k'.toNat=j'.toNat:=by
    have:=of_decide_eq_true h
    injection this with e
    rw [e]
   rw [if_pos h] at k;exact k H L B zDF.refl zCY.refl rfl
  have hkj:¬ k'.toNat=j'.toNat:=fun z=>h (by rw [ek,ej,z];exact decide_eq_true rfl);rw [if_neg hkj] at k;refine⟨_,rfl,L.bk,CB,dxb,_,_,rfl,hbk,T.clBook,T.b4,bf4,_,rfl,.inl ⟨nl,_,0,.int k',rfl,rfl,SqL.of hnl,rfl,.inl ⟨L.lt,_,_,_,rfl,rfl,SqL.of B.lt,(by rw [ek];exact zG0 hk),?_⟩⟩⟩;refine⟨_,rfl,L.bk,CB,dxb,_,_,rfl,hbk,T.clBook,T.b4,bf4,_,rfl,.inl ⟨nl,_,1,.int j',rfl,rfl,SqL.of hnl,rfl,.inl ⟨L.lt,_,_,_,rfl,rfl,SqL.of B.lt,(by rw [ej];exact zG0 hj),?_⟩⟩⟩;refine⟨_,rfl,_,rfl,?_⟩;by_cases h0:(b.table k'.toNat).classes=0
  ·rw [if_pos (.inl h0)] at k;rw [if_pos h0];refine yc (yc ?_);exact k H L B zDF.refl zCY.refl rfl
  rw [if_neg h0];refine ym ⟨_,rfl,_,rfl,?_⟩;by_cases h1:(b.table j'.toNat).classes=0
  ·rw [if_pos (.inr h1)] at k;rw [if_pos h1];refine yc ?_;exact k H L B zDF.refl zCY.refl rfl
  rw [if_neg h1];refine ym ?_
  rw [if_neg (by rintro(z | z);exact h0 z;exact h1 z)] at k
  obtain⟨⟨dx,lo,wi,ha,hlo,hwi⟩,⟨xs,hx,hT⟩⟩:=B.tb _ hk h0;obtain⟨⟨dx',lo',wi',ha',hlo',hwi'⟩,⟨xs',hx',hT'⟩⟩:=B.tb _ hj h1;refine⟨_,rfl,L.t k'.toNat,dx,_,rfl,ha,tn1,_,rfl,L.t k'.toNat,L.t j'.toNat,dx,dx',_,_,_,_,_,_,_,_,_,_,_,_,rfl,ha,ha',hlo,hwi,hlo',hwi',_,rfl,?_⟩;by_cases h2:(b.table k'.toNat).classes=(b.table j'.toNat).classes∧(b.table k'.toNat).low=(b.table j'.toNat).low∧(b.table k'.toNat).width=(b.table j'.toNat).width
  ·rw [decide_eq_true h2];refine ym ?_
   rw [if_neg (by rintro(z | z | z);exact z h2.1;exact z h2.2.1;exact z h2.2.2)] at k
   have l1:xs.length=(b.table k'.toNat).seen.length:=by have:=jK hT;rw [length_reverse] at this;exact this
   have l2:xs'.length=(b.table j'.toNat).seen.length:=by have:=jK hT';rw [length_reverse] at this;exact this
   have s1:=zEs ok hk;have s2:=zEs ok hj;refine⟨_,rfl,L.t k'.toNat,CT,dx,_,_,rfl,ha,T.clTable,T.t4,tf4,.inl ⟨rfl,_,SqL.of hx⟩,_,rfl,L.t j'.toNat,CT,dx',_,_,rfl,ha',T.clTable,T.t4,tf4,L.ta k'.toNat,L.ta j'.toNat,xs,xs',rfl,rfl,hx,hx',le_of_lt (zb (by omega)),?_⟩;have kp1:Kp [L.ta k'.toNat] H (upd H (L.ta k'.toNat) (.lst (xs++xs'))):=Kp.refl.upd (.inl (by simp))
   obtain⟨o1,t1,f1⟩:=Kp.out (S:=fun r=>r = .lt∨r = .t k'.toNat∨r = .ta k'.toNat) B kp1 (by
    intro a ha;exact⟨.ta k'.toNat,⟨hk,h0⟩,(List.mem_singleton.mp ha).symm,.inr (.inr rfl)⟩)
   have nta:L.t k'.toNat≠L.ta k'.toNat:=B.ne (r := .t _) (r' := .ta _) ⟨hk,h0⟩ ⟨hk,h0⟩ nofun;have nlt:L.lt≠L.ta k'.toNat:=B.ne (r := .lt) (r' := .ta _) trivial ⟨hk,h0⟩ nofun
   have TA:kK CT (upd H (L.ta k'.toNat) (.lst (xs++xs'))) (L.t k'.toNat) (L.ta k'.toNat) { b.table k'.toNat with seen:=(b.table j'.toNat).seen++(b.table k'.toNat).seen }:=by
    refine⟨⟨dx,lo,wi,?_,hlo.keep t1,hwi.keep t1⟩,⟨_,zA,?_⟩⟩
    ·rw [zD nta];exact ha
    ·show Paired _ _ (((b.table j'.toNat).seen++(b.table k'.toNat).seen).reverse);rw [List.reverse_append];exact zAX (Paired.mapP hT fun _ _ q=>q.keep t1) (Paired.mapP hT' fun _ _ q=>q.keep t1)
   obtain⟨B1,g1⟩:=B.tableStep (v:={ b.table k'.toNat with seen:=(b.table j'.toNat).seen++(b.table k'.toNat).seen }) ok.lt hk o1 t1 h0 TA (by
    rw [zD nlt,B.lt,xf];exact congrArg (fun z=>some (HO.lst z)) (zGz (b:=b) (v:={ b.table k'.toNat with seen:=(b.table j'.toNat).seen++(b.table k'.toNat).seen }) ok.lt hk Iff.rfl L.t).symm) (.inl ⟨h0,rfl⟩) (.inl ⟨h0,rfl⟩)
   rw [zOy] at B1 g1
   have hkl:k'.toNat<b.tables.length:=by rw [ok.lt];exact hk
   have ej1:(b.setTable k'.toNat { b.table k'.toNat with seen:=(b.table j'.toNat).seen++(b.table k'.toNat).seen }).table j'.toNat=b.table j'.toNat:=by
    rw [kS _ _ hkl,if_neg fun z=>hkj z.symm]
   generalize hb1:b.setTable k'.toNat { b.table k'.toNat with seen:=(b.table j'.toNat).seen++(b.table k'.toNat).seen }=b1 at B1 g1 ej1 k
   have lt1:b1.tables.length=64:=by rw [← hb1,zF2];exact ok.lt
   have h1':(b1.table j'.toNat).classes≠0:=by rw [ej1];exact h1
   generalize hH1:upd H (L.ta k'.toNat) (.lst (xs++xs'))=H1 at B1 t1 f1 kp1 ⊢;obtain⟨⟨dx2,lo2,wi2,ha2,hlo2,hwi2⟩,⟨xs2,hx2,hT2⟩⟩:=B1.tb _ hj h1';rw [ej1] at ha2 hlo2 hwi2;refine⟨zero_le _,fun l hl=>?_⟩;have nal:L.t j'.toNat≠l:=zF ha2 hl;refine⟨_,rfl,L.t j'.toNat,CT,dx2,_,rfl,(by rw [zD nal];exact ha2),T.clTable,T.t4,(by show 4<1000;decide),?_⟩;rw [jW tp4];have kp2:Kp [L.t j'.toNat] H1 (upd (upd H1 l (.lst [])) (L.t j'.toNat) (.ins CT dx2 (tf (b.table j'.toNat).classes lo2 wi2 l))):=(Kp.refl.upd (.inr hl)).upd (.inl (by simp))
   obtain⟨o2,t2,f2⟩:=Kp.out (S:=fun r=>r = .lt∨r = .t j'.toNat∨r = .ta j'.toNat) B1 kp2 (by
    intro a ha;exact⟨.t j'.toNat,⟨hj,h1'⟩,(List.mem_singleton.mp ha).symm,.inr (.inl rfl)⟩)
   have nlt2:L.lt≠L.t j'.toNat:=B1.ne (r := .lt) (r' := .t _) trivial ⟨hj,h1'⟩ nofun
   have TA2:kK CT (upd (upd H1 l (.lst [])) (L.t j'.toNat) (.ins CT dx2 (tf (b.table j'.toNat).classes lo2 wi2 l))) (L.t j'.toNat) l { b.table j'.toNat with seen:=[] }:=by
    refine⟨⟨dx2,lo2,wi2,zA,hlo2.keep t2,hwi2.keep t2⟩,⟨[],?_,.nil⟩⟩;rw [zD nal.symm,zA]
   obtain⟨B2,g2⟩:=B1.tableStep (v:={ b.table j'.toNat with seen:=[] }) lt1 hj o2 t2 h1 TA2 (by
    rw [zD nlt2,zD (zF B1.lt hl),B1.lt,xf];exact congrArg (fun z=>some (HO.lst z)) (zGz (b:=b1) (v:={ b.table j'.toNat with seen:=[] }) lt1 hj (by rw [ej1]) L.t).symm) (.inl ⟨h1',rfl⟩) (.inr hl)
   have hlv:∀ r,live b1 r↔live b r:=by
    have tt:∀ i,(b1.table i).classes=(b.table i).classes:=fun i=>by
     rw [← hb1,kS _ _ hkl];by_cases e:i=k'.toNat
     ·subst e;rw [if_pos rfl]
     ·rw [if_neg e]
    intro r
    cases r<;>simp only [live,tt]
   have eb:b1.clock=b.clock:=by rw [← hb1];rfl
   have ea:(after b (.ok (b1.setTable j'.toNat { b.table j'.toNat with seen:=[] }))).1=b1.setTable j'.toNat { b.table j'.toNat with seen:=[] }:=by
    show({ b1.setTable j'.toNat { b.table j'.toNat with seen:=[] } with clock:=b.clock }:Bank)=_;rw [← eb];rfl
   rw [ea] at k;refine k _ _ B2 ?_ ?_ rfl
   ·intro a o e ns;exact f2 a o (f1 a o e ns) fun r hr'=>ns r ((hlv r).mp hr')
   ·intro r h
    rcases g2 r h with ⟨q1,q2⟩ | q
    ·exact .inl ⟨(hlv r).mp q1,q2⟩
    ·refine .inr ?_;by_cases z:(L.tab j'.toNat (L.t j'.toNat) l).at r=L.ta k'.toNat
     ·rw [z] at q;obtain⟨ob,e2,_⟩:=B1.there (.ta k'.toNat) ((hlv _).mpr ⟨hk,h0⟩);exact absurd (e2.symm.trans q) (by intro q;cases q)
     ·exact kp1.none q (by simpa using z)
  ·rw [decide_eq_false h2];refine yc ?_
   rw [if_pos (by
    by_cases z1:(b.table k'.toNat).classes=(b.table j'.toNat).classes
    ·by_cases z2:(b.table k'.toNat).low=(b.table j'.toNat).low
     ·exact .inr (.inr fun z3=>h2 ⟨z1,z2,z3⟩)
     ·exact .inr (.inl z2)
    ·exact .inl z1)] at k
   exact k H L B zDF.refl zCY.refl rfl
end
end Mb
namespace Mb
open PySem PySem.Spec PyProof.Rows L2
abbrev jn:Stmt:=inClass (top 78) 0
abbrev jD:Stmt:=inClass (top 78) 1
abbrev wO:Stmt:=top 35
structure zMT (CM:Addr) (H0 H:Hp) (n:Nat) (m g mo:Nat→Addr):Prop where
 at_:∀ j,j<n→kJ CM H (m j) (g j) (mo j) 0 {}
 fr:∀ j,j<n→H0 (m j)=none∧H0 (g j)=none∧H0 (mo j)=none
 im:∀ i j,i<n→j<n→m i=m j→i=j
 ig:∀ i j,i<n→j<n→g i=g j→i=j
 io:∀ i j,i<n→j<n→mo i=mo j→i=j
theorem zMT.keep {CM:Addr}{H0 H H':Hp}{n:Nat}{m g mo:Nat→Addr}(M:zMT CM H0 H n m g mo) (k:∀ j,j<n→∀ b o,b=m j∨b=g j∨b=mo j→H b=some o→H' b=some o) (t:jd H H'):zMT CM H0 H' n m g mo :=
 ⟨fun j hj=>(M.at_ j hj).keep (k j hj) t,M.fr,M.im,M.ig,M.io⟩
theorem jh {α:Type}{n:Nat}{f g:Nat→α}(h:∀ i,i<n→f i=g i):(List.range n).map f=(List.range n).map g :=
 map_congr_left fun i hi=>h i (List.mem_range.mp hi)
theorem yO {α:Type}{n:Nat}(f:Nat→Addr) (a:Addr) (g:Addr→α):(List.range (n+1)).map (fun i=>g (vb f n a i))=(List.range n).map (fun i=>g (f i))++[g a]:=by
 rw [range_succ,map_append];congr 1
 ·exact jh fun i hi=>by rw [zg (ne_of_lt hi)]
 ·show [g (vb f n a n)]=_;rw [zR]
theorem zMT.add {CM:Addr}{H0 H H':Hp}{n:Nat}{m g mo:Nat→Addr}(M:zMT CM H0 H n m g mo){x gx ox:Addr}(h:kJ CM H' x gx ox 0 {}) (hx:H x=none) (hg:H gx=none) (ho:H ox=none) (k0:Kp [] H0 H) (k:Kp [] H H') :
  zMT CM H0 H' (n+1) (vb m n x) (vb g n gx) (vb mo n ox):=by
 have t:jd H H':=k.tups (by simp);have M':=M.keep (H':=H') (fun j _ b o _ e=>k b o e (by simp)) t
 have there:∀ j,j<n→H (m j)≠none∧H (g j)≠none∧H (mo j)≠none:=fun j hj=>by
  obtain⟨⟨dx,h1⟩,⟨kvs,h2,_⟩,⟨xs,h3,_⟩⟩:=M.at_ j hj;exact⟨by rw [h1];exact nofun,by rw [h2];exact nofun,by rw [h3];exact nofun⟩
 have inj:∀ (f:Nat→Addr) (y:Addr),(∀ j,j<n→H (f j)≠none)→H y=none→(∀ i j,i<n→j<n→f i=f j→i=j)→∀ i j,i<n+1→j<n+1→vb f n y i=vb f n y j→i=j:=by
  intro f y h1 h2 h3 i j hi hj e;by_cases a:i=n
  ·by_cases c:j=n
   ·rw [a,c]
   ·rw [a,zR,zg c] at e;exact absurd (by rw [← e];exact h2) (h1 j (by omega))
  ·by_cases c:j=n
   ·rw [c,zR,zg a] at e;exact absurd (by rw [e];exact h2) (h1 i (by omega))
   ·rw [zg a,zg c] at e;exact h3 i j (by omega) (by omega) e
 refine⟨fun j hj=>?_,fun j hj=>?_,inj m x (fun j hj=>(there j hj).1) hx M.im,inj g gx (fun j hj=>(there j hj).2.1) hg M.ig,inj mo ox (fun j hj=>(there j hj).2.2) ho M.io⟩
 ·by_cases e:j=n
  ·subst e;rw [zR,zR,zR];exact h
  ·rw [zg e,zg e,zg e];exact M'.at_ j (by omega)
 ·by_cases e:j=n
  ·subst e;rw [zR,zR,zR];exact⟨k0.none hx (by simp),k0.none hg (by simp),k0.none ho (by simp)⟩
  ·rw [zg e,zg e,zg e];exact M.fr j (by omega)
structure zOz (H0 H:Hp) (n:Nat) (l:Nat→Addr) (T:Nat) (v:Nat→Vbdeai.Value):Prop where
 at_:∀ j,j<n→xY H (l j) T (v j)
 fr:∀ j,j<n→H0 (l j)=none
 inj:∀ i j,i<n→j<n→l i=l j→i=j
theorem zOz.add {H0 H H':Hp}{n T:Nat}{l:Nat→Addr}{v:Nat→Vbdeai.Value}(M:zOz H0 H n l T v){x:Addr}(h:xY H' x T (v n)) (hx:H x=none) (k0:Kp [] H0 H) (k:Kp [] H H'):zOz H0 H' (n+1) (vb l n x) T v:=by
 have t:jd H H':=k.tups (by simp)
 have there:∀ j,j<n→H (l j)≠none:=fun j hj=>by
  obtain⟨xs,h1,_⟩:=M.at_ j hj;rw [h1];exact nofun
 refine⟨fun j hj=>?_,fun j hj=>?_,fun i j hi hj e=>?_⟩
 ·by_cases e:j=n
  ·subst e;rw [zR];exact h
  ·rw [zg e];exact(M.at_ j (by omega)).keep (fun o e=>k _ o e (by simp)) t
 ·by_cases e:j=n
  ·subst e;rw [zR];exact k0.none hx (by simp)
  ·rw [zg e];exact M.fr j (by omega)
 ·by_cases a:i=n
  ·by_cases c:j=n
   ·rw [a,c]
   ·rw [a,zR,zg c] at e;exact absurd (by rw [← e];exact hx) (there j (by omega))
  ·by_cases c:j=n
   ·rw [c,zR,zg a] at e;exact absurd (by rw [e];exact hx) (there i (by omega))
   ·rw [zg a,zg c] at e;exact M.inj i j (by omega) (by omega) e
section
variable {P:Program}{w:World}{K:W.Frag}{mg:Str→Option Value}{base:Heap}{CB CM CT:Addr}
def zIk (fs:List (Str×V)):Prop:=fs=[]∨∃ c s lm lt ll,fs=bf c s lm lt ll
theorem zIk.len {fs:List (Str×V)}(h:zIk fs):fs.length<1000:=by
 rcases h with rfl | ⟨c,s,lm,lt,ll,rfl⟩
 ·show 0<1000;decide
 ·show 5<1000;decide
theorem zIk.len1 {fs:List (Str×V)}(h:zIk fs):(jx "clock" (.int 0) fs).length<1000:=by
 rcases h with rfl | ⟨c,s,lm,lt,ll,rfl⟩
 ·show 1<1000;decide
 ·show 5<1000;decide
theorem zIk.len2 {fs:List (Str×V)}(h:zIk fs):(jx "reset_time" (.int 0) (jx "clock" (.int 0) fs)).length<1000:=by
 rcases h with rfl | ⟨c,s,lm,lt,ll,rfl⟩
 ·show 2<1000;decide
 ·show 5<1000;decide
theorem zIk.len3 {fs:List (Str×V)}(h:zIk fs) (x:Addr):(jx "meters" (.ref x) (jx "reset_time" (.int 0) (jx "clock" (.int 0) fs))).length<1000:=by
 rcases h with rfl | ⟨c,s,lm,lt,ll,rfl⟩
 ·show 3<1000;decide
 ·show 5<1000;decide
theorem zIk.len4 {fs:List (Str×V)}(h:zIk fs) (x y:Addr):(jx "tables" (.ref y) (jx "meters" (.ref x) (jx "reset_time" (.int 0) (jx "clock" (.int 0) fs)))).length<1000:=by
 rcases h with rfl | ⟨c,s,lm,lt,ll,rfl⟩
 ·show 4<1000;decide
 ·show 5<1000;decide
theorem zIk.all {fs:List (Str×V)}(h:zIk fs) (x y z:Addr):jx "lines" (.ref z) (jx "tables" (.ref y) (jx "meters" (.ref x) (jx "reset_time" (.int 0) (jx "clock" (.int 0) fs))))=bf 0 0 x y z:=by
 rcases h with rfl | ⟨c,s,lm,lt,ll,rfl⟩<;>rfl
def zG2 (CB CM CT:Addr):Sp:=fun vs H Q _=>∃ (p dx:Addr) (fs:List (Str×V)),vs=[.ref p]∧H p=some (.ins CB dx fs)∧zIk fs∧∀ H' L,L.bk=p→zc CB CM CT H' L Vbdeai.start→(∀ r,live Vbdeai.start r→r ≠ .bk→H (L.at r)=none)→Kp [p] H H'→Q .non H'
theorem zAn:zL ["self","number"] ["self"] (zE jD):=by trivial
theorem zEv (D:zT K CB "renew" "Book.renew" jD) (T:TX K mg CB CM CT) (zHD:zLU P w K mg base "Meter" CM 1 ["self"] (zMJ CM)):ve P w K mg base CB "renew" 3 ["self"] (zG2 CB CM CT):=by
 have nd:=zAn.nd
 refine jp D zAn (L2.bA1 fun _ _ _ _ _ _ _=>rfl) ?_ ?_
 ·rintro vs H Q E ⟨p,dx,fs,rfl,_⟩;rfl
 ·rintro f cdv A outer s H vs Q E hr ⟨a,dx,fs,rfl,ha,hfs,k⟩;refine⟨_,(zC (jV (pv 0) zH rfl) (zC (jV (pv 0) zH rfl) (zC (jV (pv 0) (xX (own:=[("number",1)]) rfl nd (zAS rfl T.n_range (zB (zn T.cMETER_COUNT) zG)) (zx (by show zBb ["self","number"] (zE jD) _ _=true;decide +kernel)) (fun _ _ _ _ _=>(zS (i:=1) nd rfl (Or.inl rfl))) (fun _ _ _ _ _=>jm) (fun _ _ _ _ _=>(zOn zHD (hr.mono (by decide))))) rfl) (zC (jV (pv 0) (xX (own:=[("number",1)]) rfl nd (zAS rfl T.n_range (zB (zn T.cTABLE_COUNT) zG)) (zx (by show zBb ["self","number"] (zE jD) _ _=true;decide +kernel)) (fun _ _ _ _ _=>(zS (i:=1) nd rfl (Or.inl rfl))) (fun _ _ _ _ _=>jm) (fun _ _ _ _ _=>zOC)) rfl) (zI (jV (pv 0) (xX (own:=[("number",1)]) rfl nd (zAS rfl T.n_range (zB (zn T.cVALUE_COUNT) zG)) (zx (by show zBb ["self","number"] (zE jD) _ _=true;decide +kernel)) (fun _ _ _ _ _=>(zS (i:=1) nd rfl (Or.inl rfl))) (fun _ _ _ _ _=>jm) (fun _ _ _ _ _=>(jO (zB (kM (zB zH (zB (kM (zB zH (zB zH zG))) zG))) zG)))) rfl)))))),?_⟩;refine⟨_,rfl,a,CB,dx,_,rfl,ha,T.clBook,T.b1,hfs.len,?_⟩;refine⟨_,rfl,a,CB,dx,_,rfl,zA,T.clBook,T.b2,hfs.len1,?_⟩;rw [jj];have kp0:Kp [a] H (upd H a (.ins CB dx (jx "reset_time" (.int 0) (jx "clock" (.int 0) fs)))):=Kp.refl.upd (.inl (by simp));have ha0:(upd H a (.ins CB dx (jx "reset_time" (.int 0) (jx "clock" (.int 0) fs)))) a=some (.ins CB dx (jx "reset_time" (.int 0) (jx "clock" (.int 0) fs))):=zA;generalize upd H a (.ins CB dx (jx "reset_time" (.int 0) (jx "clock" (.int 0) fs)))=H0 at kp0 ha0 ⊢;refine⟨256,rfl,by decide,by decide,fun lm hlm=>?_⟩;refine zB3 (lo:=0) (n:=256) (fun i H'=>∃ m g mo,H' lm=some (.lst ((List.range i).map fun j=>V.ref (m j)))∧zMT CM H0 H' i m g mo∧(∀ j,j<i→m j≠lm∧g j≠lm∧mo j≠lm)∧Kp [] H0 H') ?_ ?_ ?_
  ·exact⟨id,id,id,zA,⟨fun j hj=>absurd hj (by omega),fun j hj=>absurd hj (by omega),fun i j hi=>absurd hi (by omega),fun i j hi=>absurd hi (by omega),fun i j hi=>absurd hi (by omega)⟩,fun j hj=>absurd hj (by omega),Kp.refl.upd (.inr hlm)⟩
  ·rintro i H' hi ⟨m,g,mo,h1,h2,hs,h3⟩;refine⟨rfl,fun x dx' hx hdx nex=>?_⟩;refine⟨x,dx',rfl,zA,fun H1 gx ox hM hg ho k1=>⟨rfl,?_⟩⟩
   have ngx:gx≠x:=fun z=>by rw [z,zA] at hg;cases hg
   have nox:ox≠x:=fun z=>by rw [z,zA] at ho;cases ho
   have ngd:gx≠dx':=fun z=>by rw [z,zD nex,zA] at hg;cases hg
   have nod:ox≠dx':=fun z=>by rw [z,zD nex,zA] at ho;cases ho
   have hg':H' gx=none:=by rw [zD ngx,zD ngd] at hg;exact hg
   have ho':H' ox=none:=by rw [zD nox,zD nod] at ho;exact ho
   have kk:Kp [] H' H1:=fun b o e _=>k1 b o (by rw [zD (zF e hx),zD (zF e hdx)];exact e) (by simpa using zF e hx);have h1':=kk _ _ h1 (by simp);have M1:=h2.add hM hx hg' ho' h3 kk
   have hs1:∀ j,j<i+1→vb m i x j≠lm∧vb g i gx j≠lm∧vb mo i ox j≠lm:=fun j hj=>by
    by_cases c:j=i
    ·subst c;rw [zR,zR,zR];exact⟨(zF h1 hx).symm,(zF h1 hg').symm,(zF h1 ho').symm⟩
    ·rw [zg c,zg c,zg c];exact hs j (by omega)
   refine⟨_,h1',by rw [length_map,length_range];exact zb (by omega),vb m i x,vb g i gx,vb mo i ox,?_,?_,hs1,?_⟩
   ·rw [zA,yO m x V.ref]
   ·refine M1.keep ?_ (jd.upd fun xs e=>by rw [h1'] at e;cases e);intro j hj b o hb e;have sj:=hs1 j hj
    have:b≠lm:=by
     rcases hb with rfl | rfl | rfl
     ·exact sj.1
     ·exact sj.2.1
     ·exact sj.2.2
    rw [zD this];exact e
   ·exact(Kp.trans h3 kk).upd (.inr hlm)
  ·rintro H1 ⟨m,g,mo,h1,h2,hs,h3⟩;have ha1:=h3 _ _ ha0 (by simp);refine⟨_,rfl,a,CB,dx,_,rfl,ha1,T.clBook,T.b3,hfs.len2,?_⟩;refine⟨64,rfl,by decide,by decide,fun lt hlt=>?_⟩
   have nlta:lt≠a:=fun z=>by rw [z,zA] at hlt;cases hlt
   have hltH1:H1 lt=none:=by rw [zD nlta] at hlt;exact hlt
   have kp1:Kp [a] H0 H1:=h3.mono (by simp);refine zB3 (lo:=0) (n:=64) (fun i H'=>H' lt=some (.lst ((List.range i).map fun _=>V.non))∧H' a=some (.ins CB dx (jx "meters" (.ref lm) (jx "reset_time" (.int 0) (jx "clock" (.int 0) fs))))∧Kp [a] H1 H') ?_ ?_ ?_
   ·refine⟨zA,by rw [zD nlta.symm];exact zA,(Kp.refl.upd (.inl (by simp))).upd (.inr hltH1)⟩
   ·rintro i H' hi ⟨q1,q2,q3⟩;refine⟨rfl,_,q1,by rw [length_map,length_range];exact zb (by omega),?_,by rw [zD nlta.symm];exact q2,q3.upd (.inr hltH1)⟩;rw [zA,range_succ,map_append];rfl
   ·rintro H2 ⟨q1,q2,q3⟩;refine⟨_,rfl,a,CB,dx,_,rfl,q2,T.clBook,T.b4,(hfs.len3 _),?_⟩;refine⟨64,rfl,by decide,by decide,fun ll hll=>?_⟩
    have nlla:ll≠a:=fun z=>by rw [z,zA] at hll;cases hll
    have hllH2:H2 ll=none:=by rw [zD nlla] at hll;exact hll
    refine zB3 (lo:=0) (n:=64) (fun i H'=>∃ l,H' ll=some (.lst ((List.range i).map fun j=>V.ref (l j)))∧zOz (upd H2 a (.ins CB dx (jx "tables" (.ref lt) (jx "meters" (.ref lm) (jx "reset_time" (.int 0) (jx "clock" (.int 0) fs)))))) H' i l 0 (fun _=>{})∧(∀ j,j<i→l j≠ll)∧Kp [] (upd H2 a (.ins CB dx (jx "tables" (.ref lt) (jx "meters" (.ref lm) (jx "reset_time" (.int 0) (jx "clock" (.int 0) fs)))))) H') ?_ ?_ ?_
    ·exact⟨id,zA,⟨fun j hj=>absurd hj (by omega),fun j hj=>absurd hj (by omega),fun i j hi=>absurd hi (by omega)⟩,fun j hj=>absurd hj (by omega),Kp.refl.upd (.inr hll)⟩
    ·rintro i H' hi ⟨l,r1,r2,r3,r4⟩;refine⟨rfl,(by show 2≤sizeLine;decide),fun p1 hp1=>⟨(by show 2≤sizeLine;decide),fun p2 hp2=>⟨(by show 1≤sizeLine;decide),fun l1 hl1=>?_⟩⟩⟩
     have n21:p2≠p1:=fun z=>by rw [z,zA] at hp2;cases hp2
     have hp2':H' p2=none:=by rw [zD n21] at hp2;exact hp2
     have nl2:l1≠p2:=fun z=>by rw [z,zA] at hl1;cases hl1
     have nl1:l1≠p1:=fun z=>by rw [z,zD n21.symm,zA] at hl1;cases hl1
     have hl1':H' l1=none:=by rw [zD nl2,zD nl1] at hl1;exact hl1
     have nll:ll≠l1:=zF r1 hl1';have kk:Kp [] H' (upd (upd (upd H' p1 (.tup [.int 0,.int 1])) p2 (.tup [.int 0,.ref p1])) l1 (.lst [.ref p2])):=((Kp.refl.upd (.inr hp1)).upd (.inr hp2')).upd (.inr hl1');have L1:=r2.add (x:=l1) (v:=fun _=>{}) (H':=(upd (upd (upd H' p1 (.tup [.int 0,.int 1])) p2 (.tup [.int 0,.ref p1])) l1 (.lst [.ref p2]))) ⟨[.ref p2],zA,.cons ⟨p2,.ref p1,rfl,by rw [zD nl2.symm,zA];rfl,p1,rfl,by rw [zD nl1.symm,zD n21.symm,zA];rfl⟩ .nil⟩ hl1' r4 kk;have r1':=kk _ _ r1 (by simp)
     have s1:∀ j,j<i+1→vb l i l1 j≠ll:=fun j hj=>by
      by_cases c:j=i
      ·subst c;rw [zR];exact nll.symm
      ·rw [zg c];exact r3 j (by omega)
     refine⟨_,r1',by rw [length_map,length_range];exact zb (by omega),vb l i l1,?_,⟨fun j hj=>?_,L1.fr,L1.inj⟩,s1,?_⟩
     ·rw [zA,yO l l1 V.ref]
     ·refine(L1.at_ j hj).keep (fun o e=>by rw [zD (s1 j hj)];exact e) (jd.upd fun xs e=>by rw [r1'] at e;cases e)
     ·exact(Kp.trans r4 kk).upd (.inr hll)
    ·rintro H3 ⟨l,r1,r2,r3,r4⟩;have ha3:=r4 _ _ zA (by simp);refine⟨_,rfl,a,CB,dx,_,rfl,ha3,T.clBook,T.b5,(hfs.len4 _ _),?_⟩;have ebf:jx "lines" (.ref ll) (jx "tables" (.ref lt) (jx "meters" (.ref lm) (jx "reset_time" (.int 0) (jx "clock" (.int 0) fs))))=bf 0 0 lm lt ll:=hfs.all lm lt ll;rw [jW ebf];have k23:Kp [a] H2 H3:=Kp.trans (Kp.refl.upd (.inl (by simp))) (r4.mono (by simp));have k14:Kp [a] H1 (upd H3 a (.ins CB dx (bf 0 0 lm lt ll))):=(Kp.trans q3 k23).upd (.inl (by simp));have k24:Kp [a] H2 (upd H3 a (.ins CB dx (bf 0 0 lm lt ll))):=k23.upd (.inl (by simp))
     have t14:jd H1 (upd H3 a (.ins CB dx (bf 0 0 lm lt ll))):=k14.tups (by
      intro b hb xs;rw [List.mem_singleton.mp hb,ha1];exact nofun)
     have na:∀ z,H0 z=none→z≠a:=fun z hz q=>by rw [q,ha0] at hz;cases hz
     have nlma:lm≠a:=na lm hlm;have hm1:∀ j,j<256→m j≠a∧g j≠a∧mo j≠a:=fun j hj=>⟨na _ (h2.fr j hj).1,na _ (h2.fr j hj).2.1,na _ (h2.fr j hj).2.2⟩
     have M4:zMT CM H0 (upd H3 a (.ins CB dx (bf 0 0 lm lt ll))) 256 m g mo:=h2.keep (fun j hj b o hb e=>k14 b o e (by
      have q:=hm1 j hj
      rcases hb with rfl | rfl | rfl
      ·simpa using q.1
      ·simpa using q.2.1
      ·simpa using q.2.2)) t14
     have hla:∀ j,j<64→l j≠a:=fun j hj q=>by
      have z:=r2.fr j hj;rw [q,zA] at z
      cases z
     have hl2n:∀ j,j<64→H2 (l j)=none:=fun j hj=>by
      have z:=r2.fr j hj;rw [zD (hla j hj)] at z;exact z
     have t34:jd H3 (upd H3 a (.ins CB dx (bf 0 0 lm lt ll))):=jd.upd fun xs e=>by rw [ha3] at e;cases e
     have there1:∀ z o,H1 z=some o→H2 z≠none:=fun z o e q=>by
      by_cases c:z=a
      ·rw [c,q2] at q;cases q
      ·rw [q3 _ _ e (by simpa using c)] at q;cases q
     have n1:∀ z,H1 z=none→H0 z=none:=fun z q=>h3.none q (by simp)
     have n2:∀ z,H2 z=none→H1 z=none:=fun z q=>by
      cases e:H1 z with
      | none=>rfl
      | some o=>exact absurd q (there1 z o e)
     have tab0:∀ i,(Vbdeai.start.table i).classes=0:=fun i=>by
      rw [show Vbdeai.start.table i={} from wD _ _ _]
     have met0:∀ i,Vbdeai.start.meter i={}:=fun i=>wD _ _ _;have val0:∀ i,Vbdeai.start.value i={}:=fun i=>wD _ _ _
     let LL:Lay:=⟨a,lm,lt,ll,m,g,mo,fun _=>0,fun _=>0,l⟩
     have key:∀ r,live Vbdeai.start r→(r = .bk∧H0 (LL.at r)≠none)∨((r = .lm∨(∃ i,r = .m i∨r = .g i∨r = .mo i))∧H0 (LL.at r)=none∧H1 (LL.at r)≠none)∨(r = .lt∧H1 (LL.at r)=none∧H2 (LL.at r)≠none)∨((r = .ll∨∃ i,r = .li i)∧H2 (LL.at r)=none):=by
      intro r h
      cases r with
      | bk=>exact .inl ⟨rfl,by show H0 a≠none;rw [ha0];exact nofun⟩
      | lm=>exact .inr (.inl ⟨.inl rfl,hlm,by show H1 lm≠none;rw [h1];exact nofun⟩)
      | lt=>exact .inr (.inr (.inl ⟨rfl,hltH1,by show H2 lt≠none;rw [q1];exact nofun⟩))
      | ll=>exact .inr (.inr (.inr ⟨.inl rfl,hllH2⟩))
      | m i=>exact .inr (.inl ⟨.inr ⟨i,.inl rfl⟩,(h2.fr i h).1,by obtain⟨⟨dz,z⟩,_,_⟩:=h2.at_ i h;show H1 (m i)≠none;rw [z];exact nofun⟩)
      | g i=>exact .inr (.inl ⟨.inr ⟨i,.inr (.inl rfl)⟩,(h2.fr i h).2.1,by obtain⟨_,⟨kz,z,_⟩,_⟩:=h2.at_ i h;show H1 (g i)≠none;rw [z];exact nofun⟩)
      | mo i=>exact .inr (.inl ⟨.inr ⟨i,.inr (.inr rfl)⟩,(h2.fr i h).2.2,by obtain⟨_,_,⟨xz,z,_⟩⟩:=h2.at_ i h;show H1 (mo i)≠none;rw [z];exact nofun⟩)
      | t i=>exact absurd (tab0 i) h.2
      | ta i=>exact absurd (tab0 i) h.2
      | li i=>exact .inr (.inr (.inr ⟨.inr ⟨i,rfl⟩,hl2n i h⟩))
     have BB:zc CB CM CT (upd H3 a (.ins CB dx (bf 0 0 lm lt ll))) LL Vbdeai.start:=by
      refine⟨fun r r' h h' e=>?_,⟨dx,zA⟩,k14 _ _ h1 (by simpa using nlma),?_,?_,fun i hi=>?_,fun i hi hc=>absurd (tab0 i) hc,fun i hi=>?_⟩
      ·rcases key r h with ⟨c1,d1⟩ | ⟨c1,d1,d2⟩ | ⟨c1,d1,d2⟩ | ⟨c1,d1⟩
       ·rcases key r' h' with ⟨c2,f1⟩ | ⟨c2,f1,f2⟩ | ⟨c2,f1,f2⟩ | ⟨c2,f1⟩
        ·rw [c1,c2]
        ·rw [e] at d1;exact absurd f1 d1
        ·rw [e] at d1;exact absurd (n1 _ f1) d1
        ·rw [e] at d1;exact absurd (n1 _ (n2 _ f1)) d1
       ·rcases key r' h' with ⟨c2,f1⟩ | ⟨c2,f1,f2⟩ | ⟨c2,f1,f2⟩ | ⟨c2,f1⟩
        ·rw [e] at d1;exact absurd d1 f1
        ·rcases c1 with rfl | ⟨i,rfl | rfl | rfl⟩
         ·rcases c2 with rfl | ⟨j,rfl | rfl | rfl⟩
          ·rfl
          ·exact absurd e.symm (hs j h').1
          ·exact absurd e.symm (hs j h').2.1
          ·exact absurd e.symm (hs j h').2.2
         ·obtain⟨⟨dz,z1⟩,_,_⟩:=h2.at_ i h
          rcases c2 with rfl | ⟨j,rfl | rfl | rfl⟩
          ·exact absurd e (hs i h).1
          ·rw [h2.im i j h h' e]
          ·obtain⟨_,⟨kz,z2,_⟩,_⟩:=h2.at_ j h';exact absurd e (vw z1 z2 (by intro q;cases q))
          ·obtain⟨_,_,⟨xz,z2,_⟩⟩:=h2.at_ j h';exact absurd e (vw z1 z2 (by intro q;cases q))
         ·obtain⟨_,⟨kz,z1,_⟩,_⟩:=h2.at_ i h
          rcases c2 with rfl | ⟨j,rfl | rfl | rfl⟩
          ·exact absurd e (hs i h).2.1
          ·obtain⟨⟨dz,z2⟩,_,_⟩:=h2.at_ j h';exact absurd e (vw z1 z2 (by intro q;cases q))
          ·rw [h2.ig i j h h' e]
          ·obtain⟨_,_,⟨xz,z2,_⟩⟩:=h2.at_ j h';exact absurd e (vw z1 z2 (by intro q;cases q))
         ·obtain⟨_,_,⟨xz,z1,_⟩⟩:=h2.at_ i h
          rcases c2 with rfl | ⟨j,rfl | rfl | rfl⟩
          ·exact absurd e (hs i h).2.2
          ·obtain⟨⟨dz,z2⟩,_,_⟩:=h2.at_ j h';exact absurd e (vw z1 z2 (by intro q;cases q))
          ·obtain⟨_,⟨kz,z2,_⟩,_⟩:=h2.at_ j h';exact absurd e (vw z1 z2 (by intro q;cases q))
          ·rw [h2.io i j h h' e]
        ·rw [e] at d2;exact absurd f1 d2
        ·rw [e] at d2;exact absurd (n2 _ f1) d2
       ·rcases key r' h' with ⟨c2,f1⟩ | ⟨c2,f1,f2⟩ | ⟨c2,f1,f2⟩ | ⟨c2,f1⟩
        ·rw [e] at d1;exact absurd (n1 _ d1) f1
        ·rw [e] at d1;exact absurd d1 f2
        ·rw [c1,c2]
        ·rw [e] at d2;exact absurd f1 d2
       ·rcases key r' h' with ⟨c2,f1⟩ | ⟨c2,f1,f2⟩ | ⟨c2,f1,f2⟩ | ⟨c2,f1⟩
        ·rw [e] at d1;exact absurd (n1 _ (n2 _ d1)) f1
        ·rw [e] at d1;exact absurd (n2 _ d1) f2
        ·rw [e] at d1;exact absurd d1 f2
        ·rcases c1 with rfl | ⟨i,rfl⟩
         ·rcases c2 with rfl | ⟨j,rfl⟩
          ·rfl
          ·exact absurd e.symm (r3 j h')
         ·rcases c2 with rfl | ⟨j,rfl⟩
          ·exact absurd e (r3 i h)
          ·rw [r2.inj i j h h' e]
      ·rw [k24 _ _ q1 (by simpa using nlta)];exact congrArg (fun z=>some (HO.lst z)) (jh fun i hi=>by rw [if_pos (tab0 i)])
      ·show(upd H3 a _) ll=_;rw [zD nlla];exact r1
      ·rw [met0];exact M4.at_ i hi
      ·rw [val0];exact(r2.at_ i hi).keep (fun o e=>by rw [zD (hla i hi)];exact e) t34
     refine k _ LL rfl BB ?_ (Kp.trans kp0 (Kp.trans kp1 k14));intro r h hb;have f0:∀ z,H0 z=none→H z=none:=fun z q=>kp0.none q (by simpa using na z q)
     rcases key r h with ⟨c1,d1⟩ | ⟨c1,d1,d2⟩ | ⟨c1,d1,d2⟩ | ⟨c1,d1⟩
     ·exact absurd c1 hb
     ·exact f0 _ d1
     ·exact f0 _ (n1 _ d1)
     ·exact f0 _ (n1 _ (n2 _ d1))
def zMU (CB CM CT:Addr):Sp:=fun vs H Q _=>∃ (p dx:Addr),vs=[.ref p]∧H p=some (.ins CB dx [])∧∀ H' L,L.bk=p→zc CB CM CT H' L Vbdeai.start→(∀ r,live Vbdeai.start r→r ≠ .bk→H (L.at r)=none)→Kp [p] H H'→Q .non H'
theorem zBg:zL ["self"] ["self"] (zE jn):=by trivial
theorem zF3 (D:yU K mg "Book" CB "Book.__init__" jn) (T:TX K mg CB CM CT) (zBJ:ve P w K mg base CB "renew" 3 ["self"] (zG2 CB CM CT)):zLU P w K mg base "Book" CB 4 ["self"] (zMU CB CM CT):=by
 have nd:=zBg.nd
 refine zGm D zBg (L2.bA1 fun _ _ _ _ _ _ _=>rfl) ?_ ?_
 ·rintro vs H Q E ⟨p,dx,rfl,_⟩;rfl
 ·rintro f cdv A outer s H vs Q E hr ⟨a,dx,rfl,ha,k⟩;refine⟨_,(zI (jP (yp T.clBook zBJ (hr.mono (by decide)) (pv 0)))),?_⟩;exact⟨_,rfl,a,dx,_,rfl,ha,rfl,a,dx,_,rfl,ha,.inl rfl,fun H' L h1 h2 h3 h4=>k H' L h1 h2 h3 h4⟩
def zF4 (CB CM CT:Addr) (p:Nat):Sp:=fun vs H Q _=>∃ (L:Lay) (b:Bank) (nl:Addr) (ns:List Int) (n:Nat),vs=[.ref L.bk,.ref nl]∧zc CB CM CT H L b∧zw n b∧n<500∧H nl=some (.lst (ns.map V.int))∧(∀ r,live b r→L.at r≠nl) ∧
 rng p ns=true∧(zH1 p→(b.clock:Int)≤ns.headD 0) ∧
 ∀ H' L',zc CB CM CT H' L' (eff p b ns).1→zDF L b H H'→zCY L L' b (eff p b ns).1 H→L'.bk=L.bk→Q (.int (eff p b ns).2) H'
theorem zKl {p:Nat}(hp:p≤9) (vs:List V) (H:Hp) (Q:VK) (E:XK) (h:zF4 CB CM CT p vs H Q E):zBq CB CM CT p vs H Q E:=by
 obtain⟨L,b,nl,ns,n,h1,h2,h3,h4,h5,h6,h7,h8,h9⟩:=h;rw [show eff p b ns=after b (chg p b ns) from if_neg (by omega)] at h9;exact⟨L,b,nl,ns,n,h1,h2,h3,h4,h5,h6,h7,h8,h9⟩
theorem zCm:zL ["book","numbers"] ["book","numbers"] (zE wO):=by trivial
theorem zEw (T:TX K mg CB CM CT) (zBJ:ve P w K mg base CB "renew" 3 ["self"] (zG2 CB CM CT)):zAA P w K mg base ["book","numbers"] "do_clear" wO 3 (zF4 CB CM CT 23):=by
 have nd:=zCm.nd;rintro f cdv A outer s H vs Q E hr ⟨L,b,nl,ns,n,rfl,B,ok,hn,hnl,sep,hrg,ht,k⟩;obtain⟨dxb,hbk⟩:=B.bk;refine⟨_,(zC (jP (yp T.clBook zBJ (hr.mono (by decide)) (pv 0))) (zI (zP (zn T.cDONE)))),?_⟩;refine⟨_,rfl,L.bk,dxb,_,rfl,hbk,bn1,L.bk,dxb,_,rfl,hbk,.inr ⟨_,_,_,_,_,rfl⟩,fun H' L' e1 B' fr kp=>?_⟩;have ee:eff 23 b ns=(Vbdeai.start,0):=if_pos rfl;rw [ee] at k;refine k H' L' B' (fun a o h1 h2=>kp a o h1 ?_) (fun r hr'=>?_) e1
 ·rw [mem_singleton];exact fun z=>h2 .bk trivial z.symm
 ·by_cases z:r = .bk
  ·subst z;exact .inl ⟨trivial,e1⟩
  ·exact .inr (fr r hr' z)
end
end Mb
namespace Mb
open PySem PySem.Spec PyProof.Rows L2
abbrev yX:Stmt:=top 32
structure wV (CB CM CT:Addr) (H:Hp) (L:Lay) (lv:zDK→Prop) (c s:Nat) (mv:Nat→Nat×Meter) (tb:Nat→Table) (vv:Nat→Nat×Vbdeai.Value):Prop where
 inj:∀ r r',lv r→lv r'→L.at r=L.at r'→r=r'
 bk:∃ dx,H L.bk=some (.ins CB dx (bf c s L.lm L.lt L.ll))
 lm:H L.lm=some (.lst ((List.range 256).map fun i=>V.ref (L.m i)))
 lt:H L.lt=some (.lst ((List.range 64).map fun i=>if(tb i).classes=0 then V.non else V.ref (L.t i)))
 ll:H L.ll=some (.lst ((List.range 64).map fun i=>V.ref (L.li i)))
 mt:∀ i,i<256→kJ CM H (L.m i) (L.g i) (L.mo i) (mv i).1 (mv i).2
 tb:∀ i,i<64→(tb i).classes≠0→kK CT H (L.t i) (L.ta i) (tb i)
 vl:∀ i,i<64→xY H (L.li i) (vv i).1 (vv i).2
def zDS (tb:Nat→Table):zDK→Prop
 | .m i=>i<256 | .g i=>i<256 | .mo i=>i<256
 | .t i=>i<64∧(tb i).classes≠0 | .ta i=>i<64∧(tb i).classes≠0
 | .li i=>i<64
 | _=>True
structure Evo (lv:zDK→Prop) (L L':Lay) (H H':Hp):Prop where
 fram:∀ a o,H a=some o→(∀ r,lv r→L.at r≠a)→H' a=some o
 grow:∀ r,lv r→L'.at r=L.at r∨H (L'.at r)=none
 pers:∀ a,H a≠none→H' a≠none
theorem Evo.trans {lv:zDK→Prop}{L L1 L2:Lay}{H H1 H2:Hp}(a:Evo lv L L1 H H1) (b:Evo lv L1 L2 H1 H2):Evo lv L L2 H H2:=by
 refine⟨fun x o h n=>b.fram x o (a.fram x o h n) fun r hr q=>?_,fun r hr=>?_,fun x h=>b.pers x (a.pers x h)⟩
 ·rcases a.grow r hr with e | e
  ·exact n r hr (e.symm.trans q)
  ·rw [q,h] at e;cases e
 ·rcases b.grow r hr with e | e
  ·rw [e];exact a.grow r hr
  ·refine .inr ?_
   cases q:H (L2.at r) with
   | none=>rfl
   | some o=>exact absurd e (a.pers _ (by rw [q];exact nofun))
theorem Evo.of {lv:zDK→Prop}{L L':Lay}{H H':Hp}{A:List Addr}(k:Kp A H H') (hA:∀ a∈A,(∃ r,lv r∧L.at r=a)∧H' a≠none) (g:∀ r,lv r→L'.at r=L.at r∨H (L'.at r)=none):Evo lv L L' H H':=by
 refine⟨fun a o h n=>k a o h fun q=>?_,g,fun a h=>?_⟩
 ·obtain⟨⟨r,hr,e⟩,_⟩:=hA a q;exact n r hr e
 ·by_cases q:a∈A
  ·exact(hA a q).2
  ·cases e:H a with
   | none=>exact absurd e h
   | some o=>rw [k a o e q];exact nofun
theorem zEx {lv:zDK→Prop}{L L':Lay}{H:Hp}(inj:∀ r r',lv r→lv r'→L.at r=L.at r'→r=r') (there:∀ r,lv r→H (L.at r)≠none) (gr:∀ r,lv r→L'.at r=L.at r∨H (L'.at r)=none)
  (fr:∀ r r',lv r→lv r'→H (L'.at r)=none→H (L'.at r')=none→L'.at r=L'.at r'→r=r'):∀ r r',lv r→lv r'→L'.at r=L'.at r'→r=r':=by
 intro r r' h h' e
 rcases gr r h with g1 | g1
 ·rcases gr r' h' with g2 | g2
  ·exact inj r r' h h' (g1.symm.trans (e.trans g2))
  ·rw [← e,g1] at g2;exact absurd g2 (there r h)
 ·exact fr r r' h h' g1 (by rw [← e];exact g1) e
section
variable {CB CM CT:Addr}{H H':Hp}{L:Lay}{b:Bank}{lv:zDK→Prop}{c s:Nat}{mv:Nat→Nat×Meter}{tb:Nat→Table}{vv:Nat→Nat×Vbdeai.Value}
theorem zc.parts (B:zc CB CM CT H L b):wV CB CM CT H L (live b) b.clock b.since (fun i=>(b.since,b.meter i)) b.table (fun i=>(b.since,b.value i)):=⟨B.inj,B.bk,B.lm,B.lt,B.ll,B.mt,B.tb,B.vl⟩
theorem wV.there (B:wV CB CM CT H L lv c s mv tb vv) (hlv:∀ r,lv r→zDS tb r):∀ r,lv r→∃ o,H (L.at r)=some o∧zJ1 o:=by
 intro r h;have h:=hlv r h
 cases r with
 | bk=>obtain⟨dx,h⟩:=B.bk;exact⟨_,h,trivial⟩
 | lm=>exact⟨_,B.lm,trivial⟩
 | lt=>exact⟨_,B.lt,trivial⟩
 | ll=>exact⟨_,B.ll,trivial⟩
 | m i=>obtain⟨dx,h⟩:=(B.mt i h).ins;exact⟨_,h,trivial⟩
 | g i=>obtain⟨kvs,h,_⟩:=(B.mt i h).gst;exact⟨_,h,trivial⟩
 | mo i=>obtain⟨xs,h,_⟩:=(B.mt i h).mom;exact⟨_,h,trivial⟩
 | t i=>obtain⟨dx,lo,wi,h,_⟩:=(B.tb i h.1 h.2).ins;exact⟨_,h,trivial⟩
 | ta i=>obtain⟨xs,h,_⟩:=(B.tb i h.1 h.2).tal;exact⟨_,h,trivial⟩
 | li i=>obtain⟨xs,h,_⟩:=B.vl i h;exact⟨_,h,trivial⟩
theorem wV.out (B:wV CB CM CT H L lv c s mv tb vv) (hlv:∀ r,lv r↔zDS tb r){r0:zDK}(h0:lv r0) (k:Kp [L.at r0] H H'):(∀ r,lv r→r≠r0→∀ o,H (L.at r)=some o→H' (L.at r)=some o)∧jd H H':=by
 refine⟨fun r hr n o e=>k _ o e ?_,k.tups fun a ha xs=>?_⟩
 ·simpa using fun q=>n (B.inj r r0 hr h0 q)
 ·rw [List.mem_singleton.mp ha];intro e;obtain⟨o,h,p⟩:=B.there (fun r h=>(hlv r).mp h) r0 h0;rw [e] at h
  cases h
  exact p
def zG3 {α:Type}(f:Nat→α) (i:Nat) (x:α):Nat→α:=fun j=>if j=i then x else f j
def Lay.met (L:Lay) (i:Nat) (g o:Addr):Lay:={ L with g:=vb L.g i g,mo:=vb L.mo i o }
theorem wV.meterStep (B:wV CB CM CT H L lv c s mv tb vv) (hlv:∀ r,lv r↔zDS tb r){i:Nat}(hi:i<256){g o:Addr}{T0:Nat}{v:Meter}(M:kJ CM H' (L.m i) g o T0 v) (k:Kp [L.m i] H H') (hg:H g=none) (ho:H o=none) :
  wV CB CM CT H' (L.met i g o) lv c s (zG3 mv i (T0,v)) tb vv∧Evo lv L (L.met i g o) H H':=by
 have lm0:lv (.m i):=(hlv _).mpr hi;obtain⟨out,tp⟩:=B.out hlv (r0 := .m i) lm0 k
 have gr:∀ r,lv r→(L.met i g o).at r=L.at r∨H ((L.met i g o).at r)=none:=by
  intro r _
  cases r with
  | g j =>
   by_cases e:j=i
   ·subst e;exact .inr (by show H (vb L.g j g j)=none;rw [zR];exact hg)
   ·exact .inl (zg e)
  | mo j =>
   by_cases e:j=i
   ·subst e;exact .inr (by show H (vb L.mo j o j)=none;rw [zR];exact ho)
   ·exact .inl (zg e)
  | _=>exact .inl rfl
 have there:∀ r,lv r→H (L.at r)≠none:=fun r h q=>by
  obtain⟨ob,e,_⟩:=B.there (fun r h=>(hlv r).mp h) r h;rw [e] at q;cases q
 have new:∀ r,lv r→H ((L.met i g o).at r)=none→r = .g i∨r = .mo i:=by
  intro r h q
  cases r with
  | g j =>
   by_cases e:j=i
   ·subst e;exact .inl rfl
   ·have q':H (vb L.g i g j)=none:=q;rw [zg e] at q';exact absurd q' (there _ h)
  | mo j =>
   by_cases e:j=i
   ·subst e;exact .inr rfl
   ·have q':H (vb L.mo i o j)=none:=q;rw [zg e] at q';exact absurd q' (there _ h)
  | bk=>exact absurd q (there .bk h)
  | lm=>exact absurd q (there .lm h)
  | lt=>exact absurd q (there .lt h)
  | ll=>exact absurd q (there .ll h)
  | m j=>exact absurd q (there (.m j) h)
  | t j=>exact absurd q (there (.t j) h)
  | ta j=>exact absurd q (there (.ta j) h)
  | li j=>exact absurd q (there (.li j) h)
 have ngo:g≠o:=by
  obtain⟨_,⟨kz,z1,_⟩,⟨xz,z2,_⟩⟩:=M;exact vw z1 z2 (by intro q;cases q)
 obtain⟨dx,hb⟩:=B.bk;refine⟨⟨zEx B.inj there gr fun r r' h h' q q' e=>?_,⟨dx,out .bk ((hlv _).mpr trivial) nofun _ hb⟩,out .lm ((hlv _).mpr trivial) nofun _ B.lm,out .lt ((hlv _).mpr trivial) nofun _ B.lt,out .ll ((hlv _).mpr trivial) nofun _ B.ll,fun j hj=>?_,fun j hj hc=>?_,fun j hj=>?_⟩,Evo.of k (fun a ha=>?_) gr⟩
 ·rcases new r h q with rfl | rfl
  ·rcases new r' h' q' with rfl | rfl
   ·rfl
   ·exact absurd (show g=o from(zR (f:=L.g)).symm.trans (e.trans zR)) ngo
  ·rcases new r' h' q' with rfl | rfl
   ·exact absurd (show o=g from(zR (f:=L.mo)).symm.trans (e.trans zR)) ngo.symm
   ·rfl
 ·show kJ CM H' (L.m j) (vb L.g i g j) (vb L.mo i o j) (zG3 mv i (T0,v) j).1 (zG3 mv i (T0,v) j).2;by_cases e:j=i
  ·subst e;rw [zR,zR,show zG3 mv j (T0,v) j=(T0,v) from if_pos rfl];exact M
  ·rw [zg e,zg e,show zG3 mv i (T0,v) j=mv j from if_neg e];refine(B.mt j hj).keep (fun a ob ha h=>?_) tp
   rcases ha with rfl | rfl | rfl
   ·exact out (.m j) ((hlv _).mpr hj) (fun q=>by cases q;exact e rfl) _ h
   ·exact out (.g j) ((hlv _).mpr hj) nofun _ h
   ·exact out (.mo j) ((hlv _).mpr hj) nofun _ h
 ·refine(B.tb j hj hc).keep (fun a ob ha h=>?_) tp
  rcases ha with rfl | rfl
  ·exact out (.t j) ((hlv _).mpr ⟨hj,hc⟩) nofun _ h
  ·exact out (.ta j) ((hlv _).mpr ⟨hj,hc⟩) nofun _ h
 ·exact(B.vl j hj).keep (fun ob h=>out (.li j) ((hlv _).mpr hj) nofun _ h) tp
 ·rw [List.mem_singleton.mp ha];refine⟨⟨.m i,lm0,rfl⟩,?_⟩;obtain⟨⟨dz,z⟩,_,_⟩:=M;rw [z];exact nofun
theorem wV.tableStep (B:wV CB CM CT H L lv c s mv tb vv) (hlv:∀ r,lv r↔zDS tb r){i:Nat}(hi:i<64) (hc:(tb i).classes≠0){l:Addr}{v:Table}(hv:v.classes=(tb i).classes) (M:kK CT H' (L.t i) l v) (k:Kp [L.t i] H H') (hl:H l=none) :
  wV CB CM CT H' (L.tab i (L.t i) l) lv c s mv (zG3 tb i v) vv∧Evo lv L (L.tab i (L.t i) l) H H':=by
 have lm0:lv (.t i):=(hlv _).mpr ⟨hi,hc⟩;obtain⟨out,tp⟩:=B.out hlv (r0 := .t i) lm0 k;have et:(L.tab i (L.t i) l).t=L.t:=xf
 have gr:∀ r,lv r→(L.tab i (L.t i) l).at r=L.at r∨H ((L.tab i (L.t i) l).at r)=none:=by
  intro r _
  cases r with
  | t j=>exact .inl (by show(L.tab i (L.t i) l).t j=L.t j;rw [et])
  | ta j =>
   by_cases e:j=i
   ·subst e;exact .inr (by show H (vb L.ta j l j)=none;rw [zR];exact hl)
   ·exact .inl (zg e)
  | _=>exact .inl rfl
 have there:∀ r,lv r→H (L.at r)≠none:=fun r h q=>by
  obtain⟨ob,e,_⟩:=B.there (fun r h=>(hlv r).mp h) r h;rw [e] at q;cases q
 have new:∀ r,lv r→H ((L.tab i (L.t i) l).at r)=none→r = .ta i:=by
  intro r h q
  cases r with
  | ta j =>
   by_cases e:j=i
   ·subst e;rfl
   ·have q':H (vb L.ta i l j)=none:=q;rw [zg e] at q';exact absurd q' (there _ h)
  | t j =>
   have q':H ((L.tab i (L.t i) l).t j)=none:=q;rw [et] at q';exact absurd q' (there (.t j) h)
  | bk=>exact absurd q (there .bk h)
  | lm=>exact absurd q (there .lm h)
  | lt=>exact absurd q (there .lt h)
  | ll=>exact absurd q (there .ll h)
  | m j=>exact absurd q (there (.m j) h)
  | g j=>exact absurd q (there (.g j) h)
  | mo j=>exact absurd q (there (.mo j) h)
  | li j=>exact absurd q (there (.li j) h)
 obtain⟨dx,hb⟩:=B.bk
 have cls:∀ j,(zG3 tb i v j).classes=(tb j).classes:=fun j=>by
  unfold zG3;by_cases e:j=i
  ·subst e;rw [if_pos rfl];exact hv
  ·rw [if_neg e]
 refine⟨⟨zEx B.inj there gr fun r r' h h' q q' e=>?_,⟨dx,out .bk ((hlv _).mpr trivial) nofun _ hb⟩,out .lm ((hlv _).mpr trivial) nofun _ B.lm,?_,out .ll ((hlv _).mpr trivial) nofun _ B.ll,fun j hj=>?_,fun j hj hc'=>?_,fun j hj=>?_⟩,Evo.of k (fun a ha=>?_) gr⟩
 ·rw [new r h q,new r' h' q']
 ·rw [et];have z:=out .lt ((hlv _).mpr trivial) nofun _ B.lt;refine z.trans (congrArg (fun z=>some (HO.lst z)) (jh fun j hj=>?_));rw [cls]
 ·refine(B.mt j hj).keep (fun a ob ha h=>?_) tp
  rcases ha with rfl | rfl | rfl
  ·exact out (.m j) ((hlv _).mpr hj) nofun _ h
  ·exact out (.g j) ((hlv _).mpr hj) nofun _ h
  ·exact out (.mo j) ((hlv _).mpr hj) nofun _ h
 ·rw [et];show kK CT H' (L.t j) (vb L.ta i l j) (zG3 tb i v j);by_cases e:j=i
  ·subst e;rw [zR,show zG3 tb j v j=v from if_pos rfl];exact M
  ·rw [zg e,show zG3 tb i v j=tb j from if_neg e];rw [cls] at hc';refine(B.tb j hj hc').keep (fun a ob ha h=>?_) tp
   rcases ha with rfl | rfl
   ·exact out (.t j) ((hlv _).mpr ⟨hj,hc'⟩) (fun q=>by cases q;exact e rfl) _ h
   ·exact out (.ta j) ((hlv _).mpr ⟨hj,hc'⟩) nofun _ h
 ·exact(B.vl j hj).keep (fun ob h=>out (.li j) ((hlv _).mpr hj) nofun _ h) tp
 ·rw [List.mem_singleton.mp ha];refine⟨⟨.t i,lm0,rfl⟩,?_⟩;obtain⟨⟨dz,lo,wi,z,_⟩,_⟩:=M;rw [z];exact nofun
end
end Mb
namespace Mb
open PySem PySem.Spec PyProof.Rows L2
section
variable {CB CM CT:Addr}{H H':Hp}{L:Lay}{b:Bank}{lv:zDK→Prop}{c s:Nat}{mv:Nat→Nat×Meter}{tb:Nat→Table}{vv:Nat→Nat×Vbdeai.Value}
theorem wV.bkStep (B:wV CB CM CT H L lv c s mv tb vv) (hlv:∀ r,lv r↔zDS tb r){s':Nat}{ll:Addr}{li:Nat→Addr}{vv':Nat→Nat×Vbdeai.Value}(k:Kp [L.bk] H H'){dx:Addr}(hb:H' L.bk=some (.ins CB dx (bf c s' L.lm L.lt ll)))
  (hl:H' ll=some (.lst ((List.range 64).map fun i=>V.ref (li i)))) (hv:∀ i,i<64→xY H' (li i) (vv' i).1 (vv' i).2)
  (old:(ll=L.ll∧li=L.li)∨(H ll=none∧(∀ i,i<64→H (li i)=none∧li i≠ll)∧∀ i j,i<64→j<64→li i=li j→i=j)) :
  wV CB CM CT H' { L with ll:=ll,li:=li } lv c s' mv tb vv'∧Evo lv L { L with ll:=ll,li:=li } H H':=by
 have lm0:lv .bk:=(hlv _).mpr trivial;obtain⟨out,tp⟩:=B.out hlv (r0 := .bk) lm0 k
 have there:∀ r,lv r→H (L.at r)≠none:=fun r h q=>by
  obtain⟨ob,e,_⟩:=B.there (fun r h=>(hlv r).mp h) r h;rw [e] at q;cases q
 have gr:∀ r,lv r→({ L with ll:=ll,li:=li }:Lay).at r=L.at r∨H (({ L with ll:=ll,li:=li }:Lay).at r)=none:=by
  intro r h;have h:=(hlv r).mp h
  cases r with
  | ll =>
   rcases old with ⟨o1,_⟩ | ⟨o1,_⟩
   ·exact .inl o1
   ·exact .inr o1
  | li i =>
   rcases old with ⟨_,o1⟩ | ⟨_,o1,_⟩
   ·exact .inl (congrFun o1 i)
   ·exact .inr (o1 i h).1
  | _=>exact .inl rfl
 refine⟨⟨zEx B.inj there gr fun r r' h h' q q' e=>?_,⟨dx,hb⟩,out .lm ((hlv _).mpr trivial) nofun _ B.lm,out .lt ((hlv _).mpr trivial) nofun _ B.lt,hl,fun j hj=>?_,fun j hj hc'=>?_,hv⟩,Evo.of k (fun a ha=>?_) gr⟩
 ·have new:∀ r,lv r→H (({ L with ll:=ll,li:=li }:Lay).at r)=none→r = .ll∨∃ i,r = .li i:=by
   intro r h q
   cases r with
   | ll=>exact .inl rfl
   | li i=>exact .inr ⟨i,rfl⟩
   | t j=>exact absurd q (there (.t j) h)
   | ta j=>exact absurd q (there (.ta j) h)
   | bk=>exact absurd q (there .bk h)
   | lm=>exact absurd q (there .lm h)
   | lt=>exact absurd q (there .lt h)
   | m j=>exact absurd q (there (.m j) h)
   | g j=>exact absurd q (there (.g j) h)
   | mo j=>exact absurd q (there (.mo j) h)
  rcases old with ⟨o1,o2⟩ | ⟨o1,o2,o3⟩
  ·subst o1 o2;exact B.inj r r' h h' e
  ·rcases new r h q with rfl | ⟨i,rfl⟩
   ·rcases new r' h' q' with rfl | ⟨j,rfl⟩
    ·rfl
    ·exact absurd e.symm (o2 j ((hlv _).mp h')).2
   ·rcases new r' h' q' with rfl | ⟨j,rfl⟩
    ·exact absurd e (o2 i ((hlv _).mp h)).2
    ·rw [o3 i j ((hlv _).mp h) ((hlv _).mp h') e]
 ·refine(B.mt j hj).keep (fun a ob ha h=>?_) tp
  rcases ha with rfl | rfl | rfl
  ·exact out (.m j) ((hlv _).mpr hj) nofun _ h
  ·exact out (.g j) ((hlv _).mpr hj) nofun _ h
  ·exact out (.mo j) ((hlv _).mpr hj) nofun _ h
 ·refine(B.tb j hj hc').keep (fun a ob ha h=>?_) tp
  rcases ha with rfl | rfl
  ·exact out (.t j) ((hlv _).mpr ⟨hj,hc'⟩) nofun _ h
  ·exact out (.ta j) ((hlv _).mpr ⟨hj,hc'⟩) nofun _ h
 ·rw [List.mem_singleton.mp ha];exact⟨⟨.bk,lm0,rfl⟩,by rw [hb];exact nofun⟩
end
theorem zMV (b:Bank):∀ r,live b r↔zDS b.table r:=fun r=>by cases r<;>exact Iff.rfl
theorem zD3 (T0:Nat) (v:Vbdeai.Value):∃ r t',wT T0 v=r++[(t',nowOf v)]:=by
 unfold wT nowOf
 cases v.sets with
 | nil=>exact⟨[],T0,rfl⟩
 | cons s r=>exact⟨(T0,v.base)::r.reverse,s.1,by rw [reverse_cons];rfl⟩
section
variable {P:Program}{w:World}{K:W.Frag}{mg:Str→Option Value}{base:Heap}{CB CM CT:Addr}
theorem zCn:zL ["book","numbers","time","meter","table","line"] ["book","numbers"] (zE yX):=by trivial
theorem zEy (T:TX K mg CB CM CT) (zHE:ve P w K mg base CM "note_anew" 2 ["self","time"] (zMI CM)):zAA P w K mg base ["book","numbers","time","meter","table","line"] "do_reset" yX 2 (zBq CB CM CT 7):=by
 have nd:=zCn.nd;rintro f cdv A outer s H vs Q E hr ⟨L,b,nl,ns,n,rfl,B,ok,hn,hnl,sep,hrg,htm,k⟩
 obtain⟨t0,rfl⟩:=ln1 (zJH hrg)
 ·
  simp only [rg,okT,zm] at hrg;obtain⟨t,rfl⟩:∃ t:Nat,t0=(t:Int):=⟨t0.toNat,by omega⟩
  have hcl:b.clock≤t:=by have:=htm (.inr (.inr (.inl rfl)));simp only [headD_cons] at this;omega
  refine⟨_,(zC (zU (i:=2) nd rfl (Or.inr rfl) (zN zK (pv 1) zH (fun _ _=>rfl))) (zC (jV (pv 0) (pv 2) rfl) (zC (yT PassesOwn.never rfl (jF (zO (pv 0) rfl)) (zS (i:=3) nd rfl (Or.inl rfl)) (zI (jP (vF T.clMeter zHE (hr.mono (by decide)) (pv 3) (zB (pv 2) zG))))) (zC (yT PassesOwn.never rfl (jF (zO (pv 0) rfl)) (zS (i:=4) nd rfl (Or.inl rfl)) (zI (kj (wc (zMv (pv 4))) (zI (jV (pv 4) (jO zG) rfl)) jM))) (zC (jV (pv 0) (xX (own:=[("line",5)]) rfl nd (jF (zO (pv 0) rfl)) (zx (by show zBb ["book","numbers","time","meter","table","line"] (zE yX) _ _=true;decide +kernel)) (fun _ _ _ _ _=>(zS (i:=5) nd rfl (Or.inl rfl))) (fun _ _ _ _ _=>jm) (fun _ _ _ _ _=>(jO (zB (kM (zB (pv 2) (zB (zN (jg K rfl) (zN (jg K rfl) (pv 5) (zJS zFQ zH) (fun _ _=>rfl)) zH (fun _ _=>rfl)) zG))) zG)))) rfl) (zI (zP (zn T.cDONE)))))))),?_⟩;obtain⟨dxb,hbk⟩:=B.bk;refine⟨_,rfl,.inl ⟨nl,_,0,.int (t:Int),rfl,rfl,SqL.of hnl,rfl,?_⟩⟩;refine⟨_,rfl,_,rfl,L.bk,CB,dxb,_,rfl,hbk,T.clBook,T.b2,(by show 5<1000;decide),?_⟩;rw [jW bp2];have B0:=B.parts;have nbl:L.ll≠L.bk:=B.ne (r := .ll) (r' := .bk) trivial trivial nofun;have nbi:∀ i,i<64→L.li i≠L.bk:=fun i hi=>B.ne (r := .li i) (r' := .bk) hi trivial nofun
  obtain⟨B1,E1⟩:=B0.bkStep (zMV b) (H':=upd H L.bk (.ins CB dxb (bf b.clock t L.lm L.lt L.ll))) (s':=t) (ll:=L.ll) (li:=L.li) (vv':=fun i=>(b.since,b.value i)) (Kp.refl.upd (.inl (by simp))) zA
   (by rw [zD nbl];exact B.ll) (fun i hi=>(B.vl i hi).keep (fun o e=>by rw [zD (nbi i hi)];exact e) (jd.upd fun xs e=>by rw [hbk] at e;cases e)) (.inl ⟨rfl,rfl⟩)
  have hb1:(upd H L.bk (.ins CB dxb (bf b.clock t L.lm L.lt L.ll))) L.bk=some (.ins CB dxb (bf b.clock t L.lm L.lt L.ll)):=zA;generalize upd H L.bk (.ins CB dxb (bf b.clock t L.lm L.lt L.ll))=H1 at B1 E1 hb1 ⊢
  refine⟨_,rfl,L.bk,CB,dxb,_,_,rfl,hb1,T.clBook,T.b3,bf3,L.lm,rfl,⟨_,SqL.of B1.lm⟩,kx (K:=K) (a:=L.lm) (xs:=(List.range 256).map fun i=>V.ref (L.m i)) (fun i σ H'=>∃ g mo v3,σ=[some (.ref L.bk),some (.ref nl),some (.int (t:Int)),v3,none,none] ∧
   wV CB CM CT H' { L with g:=g,mo:=mo } (live b) b.clock t (fun j=>if j<i then(t,anew t (b.meter j)) else(b.since,b.meter j)) b.table (fun j=>(b.since,b.value j))∧Evo (live b) L { L with g:=g,mo:=mo } H H') ?_ ?_ ?_ ?_⟩
  ·refine⟨L.g,L.mo,none,rfl,?_,E1⟩
   have e:(fun j=>if j<0 then(t,anew t (b.meter j)) else(b.since,b.meter j))=fun j=>(b.since,b.meter j):=by
    funext j
    rw [if_neg (by omega)]
   rw [e];exact B1
  ·rintro i σ H' _ ⟨g,mo,v3,_,B2,_⟩;exact SqL.of B2.lm
  ·rintro i x σ H' hx ⟨g,mo,v3,rfl,B2,E2⟩
   have hi:i<256:=by
    have:=(List.getElem?_eq_some_iff.mp hx).1;rw [length_map,length_range] at this;exact this
   rw [getElem?_map,getElem?_range hi] at hx
   cases hx
   have M:=B2.mt i hi;dsimp only at M;rw [if_neg (lt_irrefl i)] at M;have mok:=ok.mok i hi;obtain⟨dxm,ham⟩:=M.ins;refine⟨_,rfl,L.m i,dxm,_,rfl,ham,mn5,_,rfl,L.m i,g i,mo i,b.since,t,b.meter i,rfl,M,mok.nd,lt_of_le_of_lt mok.cap (by decide),fun H3 g' o' M' hg ho k3=>?_⟩;obtain⟨B3,E3⟩:=B2.meterStep (zMV b) hi M' k3 hg ho;refine⟨vb g i g',vb mo i o',_,rfl,?_,E2.trans E3⟩
   have e:zG3 (fun j=>if j<i then(t,anew t (b.meter j)) else(b.since,b.meter j)) i (t,anew t (b.meter i))=fun j=>if j<i+1 then(t,anew t (b.meter j)) else(b.since,b.meter j):=by
    funext j
    unfold zG3;by_cases z:j=i
    ·subst z;rw [if_pos rfl,if_pos (lt_succ_self j)]
    ·rw [if_neg z];dsimp only;by_cases q:j<i
     ·rw [if_pos q,if_pos (by omega)]
     ·rw [if_neg q,if_neg (by omega)]
   rw [e] at B3;exact B3
  ·rintro σ H2 ⟨g,mo,v3,rfl,B2,E2⟩;rw [length_map,length_range] at B2;obtain⟨dxb2,hb2⟩:=B2.bk
   refine⟨_,rfl,L.bk,CB,dxb2,_,_,rfl,hb2,T.clBook,T.b4,bf4,L.lt,rfl,⟨_,SqL.of B2.lt⟩,kx (K:=K) (a:=L.lt) (xs:=(List.range 64).map fun i=>if(b.table i).classes=0 then V.non else V.ref (L.t i)) (fun i σ H'=>∃ ta v4,σ=[some (.ref L.bk),some (.ref nl),some (.int (t:Int)),v3,v4,none] ∧
    wV CB CM CT H' { L with g:=g,mo:=mo,ta:=ta } (live b) b.clock t (fun j=>if j<256 then(t,anew t (b.meter j)) else(b.since,b.meter j)) (fun j=>if j<i then { b.table j with seen:=[] } else b.table j) (fun j=>(b.since,b.value j))∧Evo (live b) L { L with g:=g,mo:=mo,ta:=ta } H H') ?_ ?_ ?_ ?_⟩
   ·refine⟨L.ta,none,rfl,?_,E2⟩
    have e:(fun j=>if j<0 then({ b.table j with seen:=[] }:Table) else b.table j)=b.table:=by
     funext j
     rw [if_neg (by omega)]
    rw [e];exact B2
   ·rintro i σ H' _ ⟨ta,v4,_,B3,_⟩;have z:=B3.lt;refine SqL.of (z.trans (congrArg (fun z=>some (HO.lst z)) (jh fun j hj=>?_)));show(if(if j<i then({ b.table j with seen:=[] }:Table) else b.table j).classes=0 then V.non else V.ref (L.t j))=_;by_cases q:j<i
    ·rw [if_pos q]
    ·rw [if_neg q]
   ·rintro i x σ H' hx ⟨ta,v4,rfl,B3,E3⟩
    have hi:i<64:=by
     have:=(List.getElem?_eq_some_iff.mp hx).1;rw [length_map,length_range] at this;exact this
    rw [getElem?_map,getElem?_range hi] at hx;have hx:(if(b.table i).classes=0 then V.non else V.ref (L.t i))=x:=Option.some.inj hx
    have lvT:∀ r,live b r↔zDS (fun j=>if j<i then({ b.table j with seen:=[] }:Table) else b.table j) r:=fun r=>by
     have cl:∀ j,(if j<i then({ b.table j with seen:=[] }:Table) else b.table j).classes=(b.table j).classes:=fun j=>by
      by_cases q:j<i
      ·rw [if_pos q]
      ·rw [if_neg q]
     cases r<;>simp only [live,zDS,cl]
    have e:∀ v,v=({ b.table i with seen:=[] }:Table)→zG3 (fun j=>if j<i then({ b.table j with seen:=[] }:Table) else b.table j) i v=fun j=>if j<i+1 then { b.table j with seen:=[] } else b.table j:=by
     rintro v rfl
     funext j
     unfold zG3;by_cases z:j=i
     ·subst z;rw [if_pos rfl,if_pos (lt_succ_self j)]
     ·rw [if_neg z];dsimp only;by_cases q:j<i
      ·rw [if_pos q,if_pos (by omega)]
      ·rw [if_neg q,if_neg (by omega)]
    refine⟨_,rfl,_,rfl,?_⟩;by_cases h0:(b.table i).classes=0
    ·rw [if_pos h0] at hx;subst hx;refine ym ?_;refine⟨ta,_,rfl,?_,E3⟩;have e2:(fun j=>if j<i+1 then({ b.table j with seen:=[] }:Table) else b.table j) i=_:=if_pos (lt_succ_self i);obtain⟨c1,c2,c3,c4,c5,c6,c7,c8⟩:=B3;refine⟨c1,c2,c3,?_,c5,c6,fun j hj hc=>?_,c8⟩
     ·refine c4.trans (congrArg (fun z=>some (HO.lst z)) (jh fun j hj=>?_))
      have cl:∀ m,(if j<m then({ b.table j with seen:=[] }:Table) else b.table j).classes=(b.table j).classes:=fun m=>by
       by_cases q:j<m
       ·rw [if_pos q]
       ·rw [if_neg q]
      show(if(if j<i then({ b.table j with seen:=[] }:Table) else b.table j).classes=0 then _ else _)=(if(if j<i+1 then({ b.table j with seen:=[] }:Table) else b.table j).classes=0 then _ else _);rw [cl,cl]
     ·have nj:j≠i:=fun z=>by
       subst z;have hc2:(if j<j+1 then({ b.table j with seen:=[] }:Table) else b.table j).classes≠0:=hc;rw [if_pos (lt_succ_self j)] at hc2;exact hc2 h0
      have e3:(if j<i+1 then({ b.table j with seen:=[] }:Table) else b.table j)=if j<i then { b.table j with seen:=[] } else b.table j:=by
       by_cases q:j<i
       ·rw [if_pos q,if_pos (by omega)]
       ·rw [if_neg q,if_neg (by omega)]
      have hc':(if j<i+1 then({ b.table j with seen:=[] }:Table) else b.table j).classes≠0:=hc;rw [e3] at hc';have z:=c7 j hj hc';show kK CT _ _ _ (if j<i+1 then({ b.table j with seen:=[] }:Table) else b.table j);rw [e3];exact z
    ·rw [if_neg h0] at hx;subst hx;refine yc ?_;refine⟨zero_le _,fun l hl=>?_⟩;have TA:=B3.tb i hi (by show(if i<i then({ b.table i with seen:=[] }:Table) else b.table i).classes≠0;rw [if_neg (lt_irrefl i)];exact h0);dsimp only at TA;rw [if_neg (lt_irrefl i)] at TA;obtain⟨⟨dx,lo,wi,ha,hlo,hwi⟩,⟨xs,hx,hT⟩⟩:=TA;have nal:L.t i≠l:=zF ha hl;refine⟨_,rfl,L.t i,CT,dx,_,rfl,(by rw [zD nal];exact ha),T.clTable,T.t4,(by show 4<1000;decide),?_⟩;rw [jW tp4];have kp:Kp [L.t i] H' (upd (upd H' l (.lst [])) (L.t i) (.ins CT dx (tf (b.table i).classes lo wi l))):=(Kp.refl.upd (.inr hl)).upd (.inl (by simp))
     have tp:=kp.tups (by
      intro a ha2 ys;rw [List.mem_singleton.mp ha2,ha];exact nofun)
     obtain⟨B4,E4⟩:=B3.tableStep lvT hi (v:={ b.table i with seen:=[] }) (l:=l) (by show(if i<i then({ b.table i with seen:=[] }:Table) else b.table i).classes≠0;rw [if_neg (lt_irrefl i)];exact h0)
      (by show _=(if i<i then({ b.table i with seen:=[] }:Table) else b.table i).classes;rw [if_neg (lt_irrefl i)]) ⟨⟨dx,lo,wi,zA,hlo.keep tp,hwi.keep tp⟩,⟨[],by rw [zD nal.symm,zA],.nil⟩⟩ kp hl
     rw [e _ rfl] at B4;refine⟨vb ta i l,_,rfl,?_,?_⟩
     ·have z:(({ L with g:=g,mo:=mo,ta:=ta }:Lay).tab i (L.t i) l)={ L with g:=g,mo:=mo,ta:=vb ta i l }:=by
       unfold Lay.tab;dsimp only;rw [xf]
      rw [z] at B4;exact B4
     ·have z:(({ L with g:=g,mo:=mo,ta:=ta }:Lay).tab i (L.t i) l)={ L with g:=g,mo:=mo,ta:=vb ta i l }:=by
       unfold Lay.tab;dsimp only;rw [xf]
      rw [z] at E4;exact E3.trans E4
   ·rintro σ H3 ⟨ta,v4,rfl,B3,E3⟩;rw [length_map,length_range] at B3;obtain⟨dxb3,hb3⟩:=B3.bk;refine⟨_,rfl,L.bk,CB,dxb3,_,_,rfl,hb3,T.clBook,T.b5,bf5,L.ll,rfl,⟨_,SqL.of B3.ll⟩,fun D hD=>?_⟩;refine zA3 (K:=K) (a:=L.ll) (xs:=(List.range 64).map fun i=>V.ref (L.li i)) (fun i H'=>∃ l,H' D=some (.lst ((List.range i).map fun j=>V.ref (l j)))∧zOz H3 H' i l t (fun j=>{ base:=nowOf (b.value j),sets:=[] })∧(∀ j,j<i→l j≠D)∧Kp [] H3 H') ?_ ?_ ?_ ?_
    ·exact⟨id,zA,⟨fun j hj=>absurd hj (by omega),fun j hj=>absurd hj (by omega),fun i j hi=>absurd hi (by omega)⟩,fun j hj=>absurd hj (by omega),Kp.refl.upd (.inr hD)⟩
    ·rintro i H' _ ⟨l,_,_,_,q⟩;exact SqL.of (q _ _ B3.ll (by simp))
    ·rintro i x H' hx ⟨l,r1,r2,r3,r4⟩
     have hi:i<64:=by
      have:=(List.getElem?_eq_some_iff.mp hx).1;rw [length_map,length_range] at this;exact this
     rw [getElem?_map,getElem?_range hi] at hx
     cases hx
     obtain⟨xs,hxs,hP⟩:=B3.vl i hi;obtain⟨rr,t',er⟩:=zD3 b.since (b.value i);obtain⟨y,ss,rfl,⟨p,u,rfl,hp,hu⟩⟩:=zNO hP er;dsimp only at hp hu;have hxs':=r4 _ _ hxs (by simp);have hp':=r4 _ _ hp (by simp);refine⟨rfl,_,rfl,_,rfl,_,rfl,.inl ⟨L.li i,_,-1,.ref p,rfl,rfl,SqL.of hxs',zEQ _ _,.inr (.inl ⟨p,_,1,u,rfl,rfl,SqT.of hp',rfl,(by show 2≤sizeLine;decide),fun p2 hp2=>⟨(by show 1≤sizeLine;decide),fun l1 hl1=>?_⟩⟩)⟩⟩
     have nl2:l1≠p2:=fun z=>by rw [z,zA] at hl1;cases hl1
     have hl1':H' l1=none:=by rw [zD nl2] at hl1;exact hl1
     have nll:D≠l1:=zF r1 hl1';have kk:Kp [] H' (upd (upd H' p2 (.tup [.int t,u])) l1 (.lst [.ref p2])):=(Kp.refl.upd (.inr hp2)).upd (.inr hl1');have tk:jd H3 (upd (upd H' p2 (.tup [.int t,u])) l1 (.lst [.ref p2])):=(Kp.trans r4 kk).tups (by simp);have L1:=r2.add (x:=l1) (v:=fun j=>{ base:=nowOf (b.value j),sets:=[] }) (H':=(upd (upd H' p2 (.tup [.int t,u])) l1 (.lst [.ref p2]))) ⟨[.ref p2],zA,.cons ⟨p2,u,rfl,by rw [zD nl2.symm,zA],hu.keep tk⟩ .nil⟩ hl1' r4 kk;have r1':=kk _ _ r1 (by simp)
     have s1:∀ j,j<i+1→vb l i l1 j≠D:=fun j hj=>by
      by_cases c:j=i
      ·subst c;rw [zR];exact nll.symm
      ·rw [zg c];exact r3 j (by omega)
     refine⟨_,r1',by rw [length_map,length_range];exact zb (by omega),vb l i l1,?_,⟨fun j hj=>?_,L1.fr,L1.inj⟩,s1,?_⟩
     ·rw [zA,yO l l1 V.ref]
     ·refine(L1.at_ j hj).keep (fun o e=>by rw [zD (s1 j hj)];exact e) (jd.upd fun xs e=>by rw [r1'] at e;cases e)
     ·exact(Kp.trans r4 kk).upd (.inr hD)
    ·rintro H4 ⟨l,r1,r2,r3,r4⟩;rw [length_map,length_range] at r1 r2 r3;have hb4:=r4 _ _ hb3 (by simp);refine⟨_,rfl,L.bk,CB,dxb3,_,rfl,hb4,T.clBook,T.b5,(by show 5<1000;decide),?_⟩;rw [jW bp5]
     have lvT:∀ r,live b r↔zDS (fun j=>if j<64 then({ b.table j with seen:=[] }:Table) else b.table j) r:=fun r=>by
      have cl:∀ j,(if j<64 then({ b.table j with seen:=[] }:Table) else b.table j).classes=(b.table j).classes:=fun j=>by
       by_cases q:j<64
       ·rw [if_pos q]
       ·rw [if_neg q]
      cases r<;>simp only [live,zDS,cl]
     have nDb:D≠L.bk:=fun z=>by rw [z,hb3] at hD;cases hD
     have nlb:∀ j,j<64→l j≠L.bk:=fun j hj z=>by
      have q:=r2.fr j hj;rw [z,hb3] at q
      cases q
     have tb4:jd H4 (upd H4 L.bk (.ins CB dxb3 (bf b.clock t L.lm L.lt D))):=jd.upd fun xs e=>by rw [hb4] at e;cases e
     obtain⟨B5,E5⟩:=B3.bkStep lvT (H':=upd H4 L.bk (.ins CB dxb3 (bf b.clock t L.lm L.lt D))) (s':=t) (ll:=D) (li:=l) (vv':=fun j=>(t,{ base:=nowOf (b.value j),sets:=[] })) ((r4.mono (by simp)).upd (.inl (by simp))) zA
      (by rw [zD nDb];exact r1) (fun j hj=>(r2.at_ j hj).keep (fun o e=>by rw [zD (nlb j hj)];exact e) tb4) (.inr ⟨hD,fun j hj=>⟨r2.fr j hj,r3 j hj⟩,r2.inj⟩)
     have E6:=E3.trans E5;have e0:chg 7 b [(t:Int)]=Vbdeai.reset b t:=rfl;rw [e0] at k;unfold Vbdeai.reset Vbdeai.timed at k;rw [if_neg (Nat.not_lt.mpr hcl)] at k;have hm:∀ i,i<256→(b.meters.map (anew t)).getD i {}=anew t (b.meter i):=fun i hi=>wC _ _ _ _ (by rw [ok.lm];exact hi) _;have hv:∀ i,i<64→(b.values.map fun v=>({ base:=nowOf v,sets:=[] }:Vbdeai.Value)).getD i {}={ base:=nowOf (b.value i),sets:=[] }:=fun i hi=>wC _ _ _ _ (by rw [ok.lv];exact hi) _;have htb:∀ i,i<64→(b.tables.map fun v=>({ v with seen:=[] }:Table)).getD i {}={ b.table i with seen:=[] }:=fun i hi=>wC _ _ _ _ (by rw [ok.lt];exact hi) _
     have key:∀ (c:Bank),c.clock=b.clock→c.since=t→(∀ i,i<256→c.meter i=anew t (b.meter i))→(∀ i,i<64→c.table i={ b.table i with seen:=[] })→(∀ i,i<64→c.value i={ base:=nowOf (b.value i),sets:=[] }) →
       zc CB CM CT (upd H4 L.bk (.ins CB dxb3 (bf b.clock t L.lm L.lt D))) { L with g:=g,mo:=mo,ta:=ta,ll:=D,li:=l } c∧(∀ r,live c r→live b r):=by
      intro c q1 q2 q3 q4 q5
      have lc:∀ r,live c r→live b r:=by
       intro r h
       cases r with
       | t i=>exact⟨h.1,by have:=h.2;rw [q4 i h.1] at this;exact this⟩
       | ta i=>exact⟨h.1,by have:=h.2;rw [q4 i h.1] at this;exact this⟩
       | bk=>exact h
       | lm=>exact h
       | lt=>exact h
       | ll=>exact h
       | m i=>exact h
       | g i=>exact h
       | mo i=>exact h
       | li i=>exact h
      refine⟨⟨fun r r' h h'=>B5.inj r r' (lc r h) (lc r' h'),?_,B5.lm,?_,B5.ll,fun i hi=>?_,fun i hi hc=>?_,fun i hi=>?_⟩,lc⟩
      ·rw [q1,q2];exact B5.bk
      ·refine B5.lt.trans (congrArg (fun z=>some (HO.lst z)) (jh fun j hj=>?_));rw [if_pos hj,q4 j hj]
      ·have z:=B5.mt i hi;dsimp only at z;rw [if_pos hi] at z;rw [q2,q3 i hi];exact z
      ·have z:=B5.tb i hi (by dsimp only;rw [if_pos hi,← q4 i hi];exact hc);dsimp only at z;rw [if_pos hi] at z;rw [q4 i hi];exact z
      ·rw [q2,q5 i hi];exact B5.vl i hi
     obtain⟨BF,lc⟩:=key { b with clock:=b.clock,since:=t,meters:=b.meters.map (anew t),tables:=b.tables.map fun v=>({ v with seen:=[] }:Table),values:=b.values.map fun v=>({ base:=nowOf v,sets:=[] }:Vbdeai.Value) } rfl rfl hm htb hv
     exact k _ _ BF E6.fram (fun r h=>by
      rcases E6.grow r (lc r h) with q | q
      ·exact .inl ⟨lc r h,q⟩
      ·exact .inr q) rfl
end
end Mb
namespace Mb
open PySem PySem.Spec PyProof.Rows L2
abbrev xh:Stmt:=top 51
abbrev vL:Stmt:=top 55
abbrev yF:Stmt:=top 56
section
variable {P:Program}{w:World}{K:W.Frag}{mg:Str→Option Value}{base:Heap}{CB CM CT:Addr}
def zKK:Sp:=fun vs H Q _=>∃ (l:Addr) (ys:List V) (m:List (Int×Int)),vs=[.ref l]∧H l=some (.lst ys)∧Prs H ys m∧m.length<1000∧(∀ p∈m,p.2.natAbs<2 ^ 64)∧∀ H',Kp [] H H'→Q (.int (m.map fun p=>p.1*p.2).sum) H'
theorem zD4:zL ["spans","content","length"] ["spans"] (zE xh):=by trivial
theorem zIl (D:zJ K mg "area_of" xh) (T:TX K mg CB CM CT):Has P w K mg base "area_of" 1 ["spans"] zKK:=by
 have nd:=zD4.nd
 refine jo D zD4 (L2.bA1 fun _ _ _ _ _ _ _=>rfl) ?_ ?_
 ·rintro vs H Q E ⟨l,ys,m,rfl,_⟩;rfl
 ·rintro f cdv A outer s H vs Q E hr ⟨l,ys,m,rfl,hl,hM,hm,hb,k⟩;refine⟨_,(zI (zP (zh (zBZ rfl) (by rfl) T.n_sum boot_sum (zB (xX (own:=[("content",1),("length",2)]) rfl nd (jF (pv 0)) (zx (by show zBb ["spans","content","length"] (zE xh) _ _=true;decide +kernel)) (fun _ _ _ _ _=>(km K (n:=2) rfl rfl (zV (zS (i:=1) nd rfl (Or.inl rfl)) (zV (zS (i:=2) nd rfl (Or.inl rfl)) jk)))) (fun _ _ _ _ _=>jm) (fun _ _ _ _ _=>(jI jG (pv 1) (pv 2)))) zG)))),?_⟩;have ly:ys.length=m.length:=jK hM;refine⟨_,rfl,l,rfl,⟨_,SqL.of hl⟩,fun d hd=>?_⟩;have nld:l≠d:=zF hl hd;refine zA3 (K:=K) (a:=l) (xs:=ys) (fun i H'=>H' d=some (.lst (((m.take i).map fun p=>p.1*p.2).map V.int))∧Kp [] H H') ?_ ?_ ?_ ?_
  ·exact⟨zA,Kp.refl.upd (.inr hd)⟩
  ·rintro i H' _ ⟨_,h⟩;exact SqL.of (h _ _ hl (by simp))
  ·rintro i x H' hi ⟨h1,h2⟩;obtain⟨p,hp,⟨q,rfl,hq⟩⟩:=vG hM hi;have hq':=h2 _ _ hq (by simp);have mp:p∈m:=List.mem_of_getElem? hp;have bp:=hb p mp;refine⟨q,_,rfl,SqT.of hq',rfl,_,_,rfl,_,_,rfl,rfl,rfl,_,rfl,_,rfl,_,_,rfl,rfl,zPS.ok (.inr ⟨by omega,by omega⟩),_,h1,?_,?_,h2.upd (.inr hd)⟩
   ·rw [length_map,length_map,length_take];exact zb (by omega)
   ·have e2:m.take (i+1)=m.take i++[p]:=by rw [take_succ,hp];rfl
    rw [zA,e2,map_append,map_append];rfl
  ·rintro H' ⟨h1,h2⟩;rw [ly,take_length] at h1;exact⟨d,_,rfl,SqL.of h1,k H' h2⟩
theorem zEz (now:Nat):∀ (l:List (Nat×Nat)),(∀ p∈l,p.1≤now)→∀ s∈Vbdeai.spans now l,s.2≤now
 | [],_,s,hs=>(nomatch hs)
 | [(t,c)],_,s,hs=>by
  rcases List.mem_singleton.mp hs with rfl
  exact Nat.sub_le _ _
 | (t,c)::(u,d)::r,h,s,hs=>by
  rcases List.mem_cons.mp hs with rfl | hs
  ·exact le_trans (Nat.sub_le _ _) (h (u,d) (by simp))
  ·exact zEz now ((u,d)::r) (fun p hp=>h p (mem_cons_of_mem _ hp)) s hs
def ans (p:Nat) (b:Bank) (ns:List Int):List Int:=(Vbdeai.step b [(p:Int)::ns]).2
def wW (CB CM CT:Addr) (p:Nat):Sp:=fun vs H Q _=>∃ (L:Lay) (b:Bank) (nl:Addr) (ns:List Int) (n:Nat),vs=[.ref L.bk,.ref nl]∧zc CB CM CT H L b∧zw n b∧n<500∧H nl=some (.lst (ns.map V.int))∧rng p ns=true ∧
 ∀ H' q,H' q=some (.lst ((ans p b ns).map V.int))→H q=none→Kp [] H H'→Q (.ref q) H'
theorem zAo:zL ["book","numbers","meter","spans","span"] ["book","numbers"] (zE vL):=by trivial
theorem zCo (T:TX K mg CB CM CT) (vQ:ve P w K mg base CM "spans" 2 ["self","clock"] (zCb CM)) (zC5:Has P w K mg base "area_of" 1 ["spans"] zKK):zAA P w K mg base ["book","numbers","meter","spans","span"] "tell_meter" vL 3 (wW CB CM CT 10):=by
 have nd:=zAo.nd;rintro f cdv A outer s H vs Q E hr ⟨L,b,nl,ns,n,rfl,B,ok,hn,hnl,hrg,k⟩
 obtain⟨m0,rfl⟩:=ln1 (zJH hrg);have hrg0:=hrg
 ·
  have hrg:=hrg0;simp only [rg,okM,zm] at hrg;obtain⟨m,rfl⟩:∃ m:Nat,m0=(m:Int):=⟨m0.toNat,by omega⟩
  have hm:m<256:=by omega
  have mok:=ok.mok m hm;obtain⟨dxb,hbk⟩:=B.bk;obtain⟨⟨dx,ha⟩,⟨kvs,hg,hG⟩,⟨xs,hl,hM⟩⟩:=B.mt m hm;unfold zEd at ha;refine⟨_,(zC (zU (i:=2) nd rfl (Or.inl rfl) (zN zK (zO (pv 0) rfl) (zN zK (pv 1) zH (fun _ _=>rfl)) (fun _ _=>rfl))) (zC (zU (i:=3) nd rfl (Or.inl rfl) (vF T.clMeter vQ (hr.mono (by decide)) (pv 2) (zB (zO (pv 0) rfl) zG))) (zI (zP (jO (zB (zO (pv 2) rfl) (zB (zh (zMC rfl) (by rfl) T.n_max boot_max (zB (xX (own:=[("span",4)]) rfl nd (jF (pv 3)) (zx (by show zBb ["book","numbers","meter","spans","span"] (zE vL) _ _=true;decide +kernel)) (fun _ _ _ _ _=>(zS (i:=4) nd rfl (Or.inl rfl))) (fun _ _ _ _ _=>jm) (fun _ _ _ _ _=>(zN (jg K rfl) (pv 4) zH (fun _ _=>rfl)))) zG)) (zB (vO zC5 (hr.mono (by decide)) (zB (pv 3) zG)) (zB (zO (pv 2) rfl) (zB (zO (pv 2) rfl) (zB (zO (pv 2) rfl) (zB (zO (pv 2) rfl) (zB (zO (pv 2) rfl) (zB (zh zAV (by rfl) T.n_len boot_len (zB (zO (pv 2) rfl) zG)) (zB (zO (pv 2) rfl) zG))))))))))))))),?_⟩
  have lm:(tl b.since (b.meter m)).length<1000:=by rw [wk];have:=ok.evs m hm;omega
  obtain⟨so1,so2⟩:=kP (b:=b) mok rfl;have eS:zBd b.clock (tl b.since (b.meter m))=(spansOf b (b.meter m)).map fun s=>((s.1:Int),(s.2:Int)):=zAb _ _ nofun so1 so2;refine⟨_,rfl,L.bk,CB,dxb,_,_,rfl,hbk,T.clBook,T.b3,bf3,_,rfl,.inl ⟨nl,_,0,.int (m:Int),rfl,rfl,SqL.of hnl,rfl,.inl ⟨L.lm,_,_,_,rfl,rfl,SqL.of B.lm,zEo hm,?_⟩⟩⟩;refine⟨_,rfl,L.m m,dx,_,rfl,ha,mn6,_,rfl,L.bk,CB,dxb,_,_,rfl,hbk,T.clBook,T.b1,bf1,L.m m,dx,L.g m,L.mo m,_,_,_,_,_,_,_,b.clock,xs,_,rfl,ha,hl,hM,nofun,lm,fun H1 p ys h1 h2 h3 k1=>?_⟩;rw [eS] at h3
  have ly:ys.length=(spansOf b (b.meter m)).length:=by rw [jK h3,length_map]
  have ls:(spansOf b (b.meter m)).length=(tl b.since (b.meter m)).length:=yS _ _;have ha1:=k1 _ _ ha (by simp);refine⟨_,rfl,L.m m,CM,dx,_,_,rfl,ha1,T.clMeter,T.a3,mf3,?_⟩;refine⟨_,rfl,p,rfl,⟨_,SqL.of h1⟩,fun d hd=>?_⟩;have hdH:H d=none:=k1.none hd (by simp);refine zA3 (K:=K) (a:=p) (xs:=ys) (fun i H'=>H' d=some (.lst ((((spansOf b (b.meter m)).take i).map fun s=>(s.1:Int)).map V.int))∧Kp [] H1 H') ?_ ?_ ?_ ?_
  ·exact⟨zA,Kp.refl.upd (.inr hd)⟩
  ·rintro i H' _ ⟨_,h⟩;exact SqL.of (h _ _ h1 (by simp))
  ·rintro i x H' hi ⟨h4,h5⟩;obtain⟨s,hs,⟨q,rfl,hq⟩⟩:=vG h3 hi;rw [getElem?_map] at hs
   cases hz:(spansOf b (b.meter m))[i]? with
   | none=>rw [hz] at hs;cases hs
   | some z =>
    rw [hz] at hs
    cases hs
    have hq':=h5 _ _ hq (by simp);refine⟨rfl,_,rfl,.inr (.inl ⟨q,_,0,.int z.1,rfl,rfl,SqT.of hq',rfl,_,h4,?_,?_,h5.upd (.inr hd)⟩)⟩
    ·rw [length_map,length_map,length_take];exact zb (by omega)
    ·have e2:(spansOf b (b.meter m)).take (i+1)=(spansOf b (b.meter m)).take i++[z]:=by rw [take_succ,hz];rfl
     rw [zA,e2,map_append,map_append];rfl
  ·rintro H2 ⟨h4,h5⟩;rw [ly,take_length] at h4;have k2:=Kp.trans k1 h5
   have eF:((spansOf b (b.meter m)).map fun s=>(s.1:Int))=(Vbdeai.timeline b (b.meter m)).map fun(p:Nat×Nat)=>(p.2:Int):=by
    have:=congrArg (List.map fun(n:Nat)=>(n:Int)) (zFG b.clock (Vbdeai.timeline b (b.meter m)));rw [map_map,map_map] at this;exact this
   refine⟨d,_,rfl,SqL.of h4,by rw [length_map,ls,wk];exact Nat.succ_pos _,fun gm hg1 hg2=>?_⟩;rw [eF] at hg1 hg2;have eG:=zGN hg1 hg2;have t12:jd H1 H2:=h5.tups (by simp);refine⟨_,rfl,p,ys,_,rfl,h5 _ _ h1 (by simp),h3.keep t12,by rw [length_map];omega,?_,fun H3 k3=>?_⟩
   ·intro q hq;obtain⟨z,hz,rfl⟩:=List.mem_map.mp hq;have:z.2≤b.clock:=zEz _ _ so2 z hz;have:=ok.clock;unfold BIG at this;show((z.2:Nat):Int).natAbs<2 ^ 64;omega
   have k4:=Kp.trans k2 k3;have ha4:=k4 _ _ ha (by simp)
   refine⟨_,rfl,L.m m,CM,dx,_,_,rfl,ha4,T.clMeter,T.a5,mf5,_,rfl,L.m m,CM,dx,_,_,rfl,ha4,T.clMeter,T.a6,mf6,_,rfl,L.m m,CM,dx,_,_,rfl,ha4,T.clMeter,T.a7,mf7,_,rfl,L.m m,CM,dx,_,_,rfl,ha4,T.clMeter,T.a8,mf8,
    _,rfl,L.m m,CM,dx,_,_,rfl,ha4,T.clMeter,T.a9,mf9,_,rfl,L.m m,CM,dx,_,_,rfl,ha4,T.clMeter,T.a1,mf1,L.g m,kvs,rfl,k4 _ _ hg (by simp),_,rfl,L.m m,CM,dx,_,_,rfl,ha4,T.clMeter,T.a2,mf2,(by show 10≤sizeLine;decide),fun q hq=>?_⟩
   refine k _ q ?_ (k4.none hq (by simp)) (k4.upd (.inr (k4.none hq (by simp))))
   have ea:ans 10 b [(m:Int)]=Vbdeai.meterReport b (b.meter m):=by
    show(if okM (m:Int)=true then _ else _)=_;rw [if_pos (show okM (m:Int)=true from hrg0)];rfl
   rw [zA,eG,← zHQ,jK hG,ea];rfl
theorem zAp:zL ["book","numbers","meter","area"] ["book","numbers"] (zE yF):=by trivial
theorem zCp (T:TX K mg CB CM CT) (vQ:ve P w K mg base CM "spans" 2 ["self","clock"] (zCb CM)) (zC5:Has P w K mg base "area_of" 1 ["spans"] zKK) (kN:Has P w K mg base "quotient" 3 ["num","den"] zBA) (kO:Has P w K mg base "numbers_of" 1 ["fractions"] zH0):zAA P w K mg base ["book","numbers","meter","area"] "tell_means" yF 4 (wW CB CM CT 11):=by
 have nd:=zAp.nd;rintro f cdv A outer s H vs Q E hr ⟨L,b,nl,ns,n,rfl,B,ok,hn,hnl,hrg,k⟩
 obtain⟨m0,rfl⟩:=ln1 (zJH hrg);have hrg0:=hrg
 ·
  have hrg:=hrg0;simp only [rg,okM,zm] at hrg;obtain⟨m,rfl⟩:∃ m:Nat,m0=(m:Int):=⟨m0.toNat,by omega⟩
  have hm:m<256:=by omega
  have mok:=ok.mok m hm;obtain⟨dxb,hbk⟩:=B.bk;obtain⟨⟨dx,ha⟩,⟨kvs,hg,hG⟩,⟨xs,hl,hM⟩⟩:=B.mt m hm;unfold zEd at ha;refine⟨_,(zC (zU (i:=2) nd rfl (Or.inl rfl) (zN zK (zO (pv 0) rfl) (zN zK (pv 1) zH (fun _ _=>rfl)) (fun _ _=>rfl))) (zC (zU (i:=3) nd rfl (Or.inl rfl) (vO zC5 (hr.mono (by decide)) (zB (vF T.clMeter vQ (hr.mono (by decide)) (pv 2) (zB (zO (pv 0) rfl) zG)) zG))) (zI (zP (vO kO (hr.mono (by decide)) (zB (jO (zB (vO kN (hr.mono (by decide)) (zB (pv 3) (zB (jI zCN (zO (pv 0) rfl) (zO (pv 0) rfl)) zG))) (zB (vO kN (hr.mono (by decide)) (zB (zO (pv 2) rfl) (zB (zO (pv 2) rfl) zG))) (zB (vO kN (hr.mono (by decide)) (zB (zO (pv 2) rfl) (zB (jI zCN (zO (pv 2) rfl) (zO (pv 2) rfl)) zG))) zG)))) zG)))))),?_⟩
  have lm:(tl b.since (b.meter m)).length<1000:=by rw [wk];have:=ok.evs m hm;omega
  obtain⟨so1,so2⟩:=kP (b:=b) mok rfl;have eS:zBd b.clock (tl b.since (b.meter m))=(spansOf b (b.meter m)).map fun s=>((s.1:Int),(s.2:Int)):=zAb _ _ nofun so1 so2;refine⟨_,rfl,L.bk,CB,dxb,_,_,rfl,hbk,T.clBook,T.b3,bf3,_,rfl,.inl ⟨nl,_,0,.int (m:Int),rfl,rfl,SqL.of hnl,rfl,.inl ⟨L.lm,_,_,_,rfl,rfl,SqL.of B.lm,zEo hm,?_⟩⟩⟩;refine⟨_,rfl,L.m m,dx,_,rfl,ha,mn6,_,rfl,L.bk,CB,dxb,_,_,rfl,hbk,T.clBook,T.b1,bf1,L.m m,dx,L.g m,L.mo m,_,_,_,_,_,_,_,b.clock,xs,_,rfl,ha,hl,hM,nofun,lm,fun H1 p ys h1 h2 h3 k1=>?_⟩;rw [eS] at h3;have ls:(spansOf b (b.meter m)).length=(tl b.since (b.meter m)).length:=yS _ _;refine⟨p,ys,_,rfl,h1,h3,by rw [length_map];omega,?_,fun H2 k2=>?_⟩
  ·intro q hq;obtain⟨z,hz,rfl⟩:=List.mem_map.mp hq;have:z.2≤b.clock:=zEz _ _ so2 z hz;have:=ok.clock;unfold BIG at this;show((z.2:Nat):Int).natAbs<2 ^ 64;omega
  rw [← zHQ];have k3:=Kp.trans k1 k2;have hbk3:=k3 _ _ hbk (by simp);have c1:=ok.clock;unfold BIG at c1;have ev:=ok.evs m hm;have en:(ended (b.meter m)).length≤(b.meter m).evs.length:=length_filter_le _ _;have ze:zeros (b.meter m)≤(ended (b.meter m)).length:=length_filter_le _ _;refine⟨_,rfl,_,rfl,L.bk,CB,dxb,_,_,rfl,hbk3,T.clBook,T.b1,bf1,_,rfl,L.bk,CB,dxb,_,_,rfl,hbk3,T.clBook,T.b2,bf2,_,_,rfl,rfl,_,b.clock-b.since,by rw [ofNat_sub ok.since];rfl,zAY (by omega),fun q1 hq1=>?_⟩;rw [show(if b.clock-b.since=0 then Vbdeai.Q.zero else Vbdeai.Q.of (area b (b.meter m):Nat) (b.clock-b.since))=Vbdeai.ratio (area b (b.meter m)) (b.clock-b.since) from rfl];generalize hw1:Vbdeai.ratio (area b (b.meter m)) (b.clock-b.since)=r1;have k4:Kp [] H (upd H2 q1 (qT r1)):=k3.upd (.inr (k3.none hq1 (by simp)));have hq4:upd H2 q1 (qT r1) q1=some (qT r1):=zA;generalize upd H2 q1 (qT r1)=H4 at k4 hq4 ⊢;have ha4:=k4 _ _ ha (by simp);refine⟨_,rfl,L.m m,CM,dx,_,_,rfl,ha4,T.clMeter,T.a8,mf8,_,rfl,L.m m,CM,dx,_,_,rfl,ha4,T.clMeter,T.a6,mf6,_,(ended (b.meter m)).length,rfl,zAY (by omega),fun q2 hq2=>?_⟩;rw [show(if(ended (b.meter m)).length=0 then Vbdeai.Q.zero else Vbdeai.Q.of (stays (b.meter m):Nat) (ended (b.meter m)).length)=Vbdeai.ratio (stays (b.meter m)) (ended (b.meter m)).length from rfl];generalize hw2:Vbdeai.ratio (stays (b.meter m)) (ended (b.meter m)).length=r2;have k5:Kp [] H (upd H4 q2 (qT r2)):=k4.upd (.inr (k4.none hq2 (by simp)));have hq5:upd H4 q2 (qT r2) q2=some (qT r2):=zA
  have hq5':upd H4 q2 (qT r2) q1=some (qT r1):=by rw [zD (zF hq4 hq2)];exact hq4
  generalize upd H4 q2 (qT r2)=H5 at k5 hq5 hq5' ⊢;have ha5:=k5 _ _ ha (by simp);refine⟨_,rfl,L.m m,CM,dx,_,_,rfl,ha5,T.clMeter,T.a8,mf8,_,rfl,L.m m,CM,dx,_,_,rfl,ha5,T.clMeter,T.a6,mf6,_,rfl,L.m m,CM,dx,_,_,rfl,ha5,T.clMeter,T.a7,mf7,_,_,rfl,rfl,_,(ended (b.meter m)).length-zeros (b.meter m),by rw [ofNat_sub ze];rfl,zAY (by omega),fun q3 hq3=>?_⟩;rw [show(if(ended (b.meter m)).length-zeros (b.meter m)=0 then Vbdeai.Q.zero else Vbdeai.Q.of (stays (b.meter m):Nat) ((ended (b.meter m)).length-zeros (b.meter m)))=Vbdeai.ratio (stays (b.meter m)) ((ended (b.meter m)).length-zeros (b.meter m)) from rfl];generalize hw3:Vbdeai.ratio (stays (b.meter m)) ((ended (b.meter m)).length-zeros (b.meter m))=r3;have k6:Kp [] H (upd H5 q3 (qT r3)):=k5.upd (.inr (k5.none hq3 (by simp)));have g3:upd H5 q3 (qT r3) q3=some (qT r3):=zA
  have g2:upd H5 q3 (qT r3) q2=some (qT r2):=by rw [zD (zF hq5 hq3)];exact hq5
  have g1:upd H5 q3 (qT r3) q1=some (qT r1):=by rw [zD (zF hq5' hq3)];exact hq5'
  generalize upd H5 q3 (qT r3)=H6 at k6 g1 g2 g3 ⊢;refine⟨(by show 3≤sizeLine;decide),fun l hl0=>?_⟩;have k7:Kp [] H (upd H6 l (.lst [.ref q1,.ref q2,.ref q3])):=k6.upd (.inr (k6.none hl0 (by simp)))
  refine⟨l,_,[(r1.num,(r1.den:Int)),(r2.num,(r2.den:Int)),(r3.num,(r3.den:Int))],rfl,zA,
   .cons ⟨q1,rfl,by rw [zD (zF g1 hl0)];exact g1⟩ (.cons ⟨q2,rfl,by rw [zD (zF g2 hl0)];exact g2⟩ (.cons ⟨q3,rfl,by rw [zD (zF g3 hl0)];exact g3⟩ .nil)),(by show 3<100;decide),fun H8 q h1 h2 k8=>k H8 q ?_ (k7.none h2 (by simp)) (Kp.trans k7 k8)⟩
  have ea:ans 11 b [(m:Int)]=Vbdeai.meansReport b (b.meter m):=by
   show(if okM (m:Int)=true then _ else _)=_;rw [if_pos (show okM (m:Int)=true from hrg0)];rfl
  rw [h1,ea];unfold Vbdeai.meansReport;rw [hw1,hw2,hw3];rfl
end
end Mb
namespace L2
open PySem PySem.Spec PyProof.Rows
theorem zNj {K:W.Frag}{a:Addr}{xs:List V}{g:TG}{tt:TT}{te:TE}{vs:List Nat}{σ:St}{H1:Hp}{D:Addr}{Qd:Hp→Prop}(Pv:Nat→Hp→Prop) (h0:Pv 0 (upd H1 D (.lst []))) (hl:∀ i H,Pv i H→SqL K H a xs)
  (hs:∀ i x H T,xs[i]? = some x→Pv i H→H T=none→g (.ref T) (vV σ vs) (upd H T (.tup [.int (i:Nat),x])) fun σ2 H2=>vV σ2 vs=vV σ vs∧tt σ2 H2 fun c H3 =>
   if c=true then te σ2 H3 fun y H4=>∃ acc,H4 D=some (.lst acc)∧acc.length<sizeLine∧Pv (i+1) (upd H4 D (.lst (acc++[y]))) else Pv (i+1) H3) (hd:∀ H,Pv xs.length H→Qd H) :
  ∃ W:Nat→Nat→Hp→Prop,(∃ m,W 0 m (upd H1 D (.lst [])))∧∀ i m H,W i m H →
   ((Ite K a).stop i H∧Qd H)∨((Ite K a).go i H∧∃ Nx:Hp→Prop,(∀ H',Nx H'→∃ m',m'<m∧W (i+1) m' H')∧∀ x H',(Ite K a).yld i H x H'→g x (vV σ vs) H' fun σ2 H2=>vV σ2 vs=vV σ vs∧tt σ2 H2 fun c H3 =>
    if c=true then te σ2 H3 fun y H4=>∃ acc,H4 D=some (.lst acc)∧acc.length<sizeLine∧Nx (upd H4 D (.lst (acc++[y]))) else Nx H3):=by
 refine⟨fun i m H=>m=xs.length-i∧i≤xs.length∧Pv i H,⟨xs.length,rfl,zero_le _,h0⟩,?_⟩;rintro i m H ⟨rfl,hi,p⟩;have q:=hl i H p;by_cases hlt:i<xs.length
 ·refine .inr ⟨⟨xs,xs[i],q,getElem?_eq_getElem hlt⟩,Pv (i+1),fun H' p'=>⟨xs.length-(i+1),by omega,rfl,hlt,p'⟩,?_⟩;rintro x H' ⟨T,y,rfl,hT,rfl,e⟩;exact hs i y H T (e xs q) p hT
 ·have e:i=xs.length:=by omega
  subst e;exact .inl ⟨⟨xs,q,le_refl _⟩,hd H p⟩
end L2
namespace Mb
open PySem PySem.Spec PyProof.Rows L2
abbrev kX:Stmt:=top 57
abbrev vY:Stmt:=top 58
abbrev yu:Stmt:=top 59
abbrev yG:Stmt:=top 66
abbrev vg:Stmt:=top 67
abbrev jC:Stmt:=inClass (top 72) 7
theorem Kp.unlock {g:Addr}{H H':Hp}{u:HO}(k:Kp [g] H H') (h:H g=some u):Kp [] H (L2.upd H' g u):=fun b o e _=>by
 by_cases q:b=g
 ·subst q;rw [zA,← e,h]
 ·rw [zD q];exact k b o e (by simpa using q)
section
variable {P:Program}{w:World}{K:W.Frag}{mg:Str→Option Value}{base:Heap}{CB CM CT:Addr}
theorem zAq:zL ["book","numbers"] ["book","numbers"] (zE yG):=by trivial
theorem zCq (T:TX K mg CB CM CT):zAA P w K mg base ["book","numbers"] "tell_clock" yG 0 (wW CB CM CT 21):=by
 have nd:=zAq.nd;rintro f cdv A outer s H vs Q E hr ⟨L,b,nl,ns,n,rfl,B,ok,hn,hnl,hrg,k⟩
 obtain rfl:=ln0 (zJH hrg);have hrg0:=hrg
 ·
  obtain⟨dxb,hbk⟩:=B.bk;refine⟨_,(zI (zP (jO (zB (zO (pv 0) rfl) (zB (zO (pv 0) rfl) zG))))),?_⟩;refine⟨_,rfl,L.bk,CB,dxb,_,_,rfl,hbk,T.clBook,T.b1,bf1,_,rfl,L.bk,CB,dxb,_,_,rfl,hbk,T.clBook,T.b2,bf2,(by show 2≤sizeLine;decide),fun q hq=>k _ q ?_ hq (Kp.refl.upd (.inr hq))⟩;rw [zA];rfl
def zH4 (CM:Addr):Sp:=fun vs H Q _=>∃ (a dx g l:Addr) (lo co be en ea la ul:Int) (xs:List V),vs=[.ref a]∧H a=some (.ins CM dx (mf g l lo co be en ea la ul))∧H l=some (.lst xs)∧Q (.bl (decide (0<co)||decide (1<xs.length))) H
theorem xM:zL ["self"] ["self"] (zE jC):=by trivial
theorem zBt (D:zT K CM "is_live" "Meter.is_live" jC) (T:TX K mg CB CM CT):ve P w K mg base CM "is_live" 1 ["self"] (zH4 CM):=by
 have nd:=xM.nd
 refine jp D xM (L2.bA1 fun _ _ _ _ _ _ _=>rfl) ?_ ?_
 ·rintro vs H Q E ⟨a,dx,g,l,lo,co,be,en,ea,la,ul,xs,rfl,_⟩;rfl
 ·rintro f cdv A outer s H vs Q E hr ⟨a,dx,g,l,lo,co,be,en,ea,la,ul,xs,rfl,ha,hl,k⟩;refine⟨_,(zI (zP (zOG (yJ zFR (zO (pv 0) rfl) zH (jc _)) (zJN (yJ zFR (zh jN (by rfl) T.n_len boot_len (zB (zO (pv 0) rfl) zG)) zH (jc _)))))),?_⟩;refine⟨_,rfl,a,CM,dx,_,_,rfl,ha,T.clMeter,T.a3,mf3,_,_,rfl,rfl,_,rfl,?_⟩;by_cases c:0<co
  ·rw [decide_eq_true c] at k ⊢;exact yc k
  ·rw [decide_eq_false c] at k ⊢;refine ym ⟨_,rfl,a,CM,dx,_,_,rfl,ha,T.clMeter,T.a4,mf4,l,xs,rfl,.inl (SqL.of hl),_,_,rfl,rfl,?_⟩;rw [Bool.false_or] at k;show Q (V.bl (decide ((1:Int)<((xs.length:Nat):Int)))) H;rw [show decide ((1:Int)<((xs.length:Nat):Int))=decide (1<xs.length) from decide_eq_decide.mpr (by omega)];exact k
theorem zBh:zL ["book","numbers","found","number","meter"] ["book","numbers"] (zE vg):=by trivial
theorem zDT (T:TX K mg CB CM CT) (zKc:ve P w K mg base CM "is_live" 1 ["self"] (zH4 CM)):zAA P w K mg base ["book","numbers","found","number","meter"] "tell_live" vg 1 (wW CB CM CT 22):=by
 have nd:=zBh.nd;rintro f cdv A outer s H vs Q E hr ⟨L,b,nl,ns,n,rfl,B,ok,hn,hnl,hrg,k⟩
 obtain rfl:=ln0 (zJH hrg);have hrg0:=hrg
 ·
  obtain⟨dxb,hbk⟩:=B.bk;refine⟨_,(zC (yk (i:=2) (own:=[("number",3),("meter",4)]) rfl nd rfl rfl (w8 rfl rfl rfl rfl) (zNI rfl T.n_enumerate (zB (zO (pv 0) rfl) zG)) (zx (by show zBb ["book","numbers","found","number","meter"] (zE vg) _ _=true;decide +kernel)) (fun _ _ _ _ _=>(km K (n:=2) rfl rfl (zV (zS (i:=3) nd rfl (Or.inl rfl)) (zV (zS (i:=4) nd rfl (Or.inl rfl)) jk)))) (fun _ _ _ _ _=>(zCW (zCd K rfl (yp T.clMeter zKc (hr.mono (by decide)) (pv 4)) (fun _=>rfl)))) (fun _ _ _ _ _=>(pv 3))) (zI (zP (jI zFb (jO (zB (zh jN (by rfl) T.n_len boot_len (zB (pv 2) zG)) zG)) (pv 2))))),?_⟩;refine⟨_,rfl,L.bk,CB,dxb,_,_,rfl,hbk,T.clBook,T.b3,bf3,L.lm,_,rfl,SqL.of B.lm,fun d hd=>?_⟩;refine zNj (K:=K) (a:=L.lm) (xs:=(List.range 256).map fun i=>V.ref (L.m i)) (fun i H'=>H' d=some (.lst (((List.range i).filter fun j=>b.meter j != {}).map fun(j:Nat)=>V.int (j:Int)))∧Kp [] H H') ?_ ?_ ?_ ?_
  ·exact⟨zA,Kp.refl.upd (.inr hd)⟩
  ·rintro i H' ⟨_,kp⟩;exact SqL.of (kp _ _ B.lm (by simp))
  ·rintro i x H' t hi ⟨h1,kp⟩ ht
   have li:i<256:=by
    have:=(List.getElem?_eq_some_iff.mp hi).1;rw [length_map,length_range] at this;exact this
   rw [getElem?_map,getElem?_range li] at hi
   cases hi
   have kp':Kp [] H (upd H' t (.tup [.int ((i:Nat):Int),.ref (L.m i)])):=kp.upd (.inr (kp.none ht (by simp)));obtain⟨⟨dx,ha⟩,_,⟨xs,hl,hM⟩⟩:=B.mt i li;unfold zEd at ha;have ndt:d≠t:=zF h1 ht
   have h1':upd H' t (.tup [.int ((i:Nat):Int),.ref (L.m i)]) d=some (.lst (((List.range i).filter fun j=>b.meter j != {}).map fun(j:Nat)=>V.int (j:Int))):=by rw [zD ndt];exact h1
   have hd':H d=none:=hd;refine⟨t,_,rfl,SqT.of zA,rfl,_,_,rfl,_,_,rfl,rfl,rfl,?_⟩;refine⟨_,rfl,L.m i,dx,_,rfl,kp' _ _ ha (by simp),mn7,L.m i,dx,L.g i,L.mo i,_,_,_,_,_,_,_,xs,rfl,kp' _ _ ha (by simp),kp' _ _ hl (by simp),_,rfl,?_⟩
   have lx:xs.length=(b.meter i).evs.length+1:=by rw [jK hM,wk]
   have e1:(decide ((0:Int)<((content (b.meter i):Nat):Int))||decide (1<xs.length))=(b.meter i != {}):=by
    rw [← zMt (ok.mok i li),lx];congr 1
    ·exact decide_eq_decide.mpr (by omega)
    ·exact decide_eq_decide.mpr (by omega)
   rw [e1]
   have er:(List.range (i+1)).filter (fun j=>b.meter j != {})=(List.range i).filter (fun j=>b.meter j != {})++(if(b.meter i != {})=true then [i] else []):=by
    rw [range_succ,List.filter_append,filter_cons,List.filter_nil]
   cases hv:(b.meter i != {}) with
   | true =>
    rw [hv,if_pos rfl] at er;refine yc ⟨_,rfl,_,h1',?_,?_,kp'.upd (.inr hd')⟩
    ·have l1:((List.range i).filter fun j=>b.meter j != {}).length≤(List.range i).length:=length_filter_le _ _;rw [length_range] at l1;rw [length_map];exact zb (by omega)
    ·rw [zA,er,map_append];rfl
   | false =>
    rw [hv,if_neg Bool.false_ne_true,append_nil] at er;refine ym ⟨?_,kp'⟩;rw [er];exact h1'
  ·rintro H1 ⟨h1,k1⟩;rw [length_map,length_range] at h1;have el:((List.range 256).filter fun j=>b.meter j != {})=liveMeters b:=rfl;rw [el] at h1
   have l1:(liveMeters b).length≤256:=by
    have:((List.range 256).filter fun j=>b.meter j != {}).length≤(List.range 256).length:=length_filter_le _ _;rw [length_range] at this;exact this
   have hd1:H d=none:=hd;refine⟨_,rfl,d,_,rfl,.inl (SqL.of h1),(by show 1≤sizeLine;decide),fun p hp=>?_⟩;have hp':H p=none:=k1.none hp (by simp);have ndp:d≠p:=zF h1 hp;refine⟨_,rfl,p,d,_,_,rfl,rfl,zA,by rw [zD ndp];exact h1,?_,fun q hq=>?_⟩
   ·rw [length_map];show 1+_≤sizeLine;have:=zb (n:=999) (by decide);omega
   ·have k2:Kp [] H (upd H1 p (.lst [.int (((((liveMeters b).map fun(j:Nat)=>V.int (j:Int))).length:Nat):Int)])):=k1.upd (.inr hp');have hqH:H q=none:=k2.none hq (by simp);refine k _ q ?_ hqH (k2.upd (.inr hqH));rw [zA,length_map];show _=some (HO.lst ((((liveMeters b).length:Int)::nats (liveMeters b)).map V.int));unfold nats;rw [map_cons,map_map];rfl
theorem wt:zL ["book","numbers","guests","told","name","guest"] ["book","numbers"] (zE vY):=by trivial
theorem zBu (T:TX K mg CB CM CT):zAA P w K mg base ["book","numbers","guests","told","name","guest"] "tell_inside" vY 0 (wW CB CM CT 13):=by
 have nd:=wt.nd;rintro f cdv A outer s H vs Q E hr ⟨L,b,nl,ns,n,rfl,B,ok,hn,hnl,hrg,k⟩
 obtain⟨m0,rfl⟩:=ln1 (zJH hrg);have hrg0:=hrg
 ·
  have hrg:=hrg0;simp only [rg,okM,zm] at hrg;obtain⟨m,rfl⟩:∃ m:Nat,m0=(m:Int):=⟨m0.toNat,by omega⟩
  have hm:m<256:=by omega
  have mok:=ok.mok m hm;obtain⟨dxb,hbk⟩:=B.bk;obtain⟨⟨dx,ha⟩,⟨kvs,hg,hG⟩,⟨xs,hl,hM⟩⟩:=B.mt m hm;unfold zEd at ha;have lk:kvs.length=(b.meter m).ins.length:=jK hG;have cap:=mok.cap;refine⟨_,(zC (zU (i:=2) nd rfl (Or.inl rfl) (zO (zN zK (zO (pv 0) rfl) (zN zK (pv 1) zH (fun _ _=>rfl)) (fun _ _=>rfl)) rfl)) (zC (zU (i:=3) nd rfl (Or.inl rfl) (jO (zB (zh zAV (by rfl) T.n_len boot_len (zB (pv 2) zG)) zG))) (zC (zJn (yT PassesOwn.never rfl (zHk (pv 2)) (zCL rfl (zV (zS (i:=4) nd rfl (Or.inl rfl)) (zV (zS (i:=5) nd rfl (Or.inl rfl)) jk))) (zC (jP (ww F.plainAttrs_list F.slot_list_append F.type_list_append kD (pv 3) (zB (pv 4) zG))) (zI (jP (ww F.plainAttrs_list F.slot_list_extend F.type_list_extend zA6 (pv 3) (zB (pv 5) zG))))))) (zI (zP (pv 3)))))),?_⟩;refine⟨_,rfl,L.bk,CB,dxb,_,_,rfl,hbk,T.clBook,T.b3,bf3,_,rfl,.inl ⟨nl,_,0,.int (m:Int),rfl,rfl,SqL.of hnl,rfl,.inl ⟨L.lm,_,_,_,rfl,rfl,SqL.of B.lm,zEo hm,?_⟩⟩⟩;refine⟨L.m m,CM,dx,_,_,rfl,ha,T.clMeter,T.a1,mf1,?_⟩;refine⟨_,rfl,L.g m,kvs,rfl,hg,(by show 1≤sizeLine;decide),fun d hd=>?_⟩;have ngd:L.g m≠d:=zF hg hd;refine⟨L.g m,.dK kvs,(by rw [zD ngd];exact hg),trivial,fun od=>?_⟩;refine⟨_,rfl,L.g m,od,kvs,rfl,zA,zFl (d:=L.g m) (o:=od) (kvs:=kvs) (fun i σ H'=>∃ v4 v5,σ=[some (.ref L.bk),some (.ref nl),some (.ref (L.g m)),some (.ref d),v4,v5]∧H' (L.g m)=some (.frz od (.dK kvs))∧H' d=some (.lst ((((kvs.length:Nat):Int)::((b.meter m).ins.take i).flatMap fun s=>nats [s.id,s.units,s.since]).map V.int))∧Kp [L.g m] H H') ?_ ?_ ?_ ?_⟩
  ·refine⟨none,none,rfl,zA,?_,(Kp.refl.upd (.inr hd)).upd (.inl (by simp))⟩;rw [zD ngd.symm,zA];rfl
  ·rintro i σ H' ⟨v4,v5,_,h,_⟩;exact h
  ·rintro i key v σ H' t hi ⟨v4,v5,rfl,h1,h2,h4⟩ hT;obtain⟨st,hst,ek,⟨p,ev,hp⟩⟩:=vG hG hi;dsimp only at ek ev hp;subst ek ev;have hpg:p≠L.g m:=vw hp hg (by intro q;cases q);have hp':H' p=some (.tup [.int st.units,.int st.since]):=h4 _ _ hp (by simpa using hpg);have npT:p≠t:=zF hp' hT;have ndT:d≠t:=zF h2 hT;have ngT:L.g m≠t:=zF h1 hT;have npd:p≠d:=vw hp' h2 (by intro q;cases q);have hd':H d=none:=hd
   have hi':i<(b.meter m).ins.length:=by rw [← lk];exact(List.getElem?_eq_some_iff.mp hi).1
   have ht:H t=none:=h4.none hT (by simpa using ngT.symm)
   have lnf:(((kvs.length:Nat):Int)::((b.meter m).ins.take i).flatMap fun s=>nats [s.id,s.units,s.since]).length<995:=by
    rw [length_cons,zAR _ 3 (fun s=>rfl),length_take];omega
   refine⟨t,_,rfl,SqT.of zA,rfl,_,_,rfl,_,_,rfl,rfl,?_⟩
   have h2':upd H' t (.tup [V.int ↑st.id,.ref p]) d=some (.lst ((((kvs.length:Nat):Int)::((b.meter m).ins.take i).flatMap fun s=>nats [s.id,s.units,s.since]).map V.int)):=by rw [zD ndT];exact h2
   refine⟨_,rfl,.inl ⟨rfl,_,SqL.of h2'⟩,_,rfl,d,_,_,rfl,rfl,h2',by rw [length_map];exact zb (by omega),?_⟩;refine⟨_,rfl,.inl ⟨rfl,_,SqL.of zA⟩,_,rfl,d,p,_,_,rfl,rfl,zA,SqT.of (by rw [zD npd,zD npT];exact hp'),?_,?_⟩
   ·rw [length_append,length_map];show _+1+2≤sizeLine;have:=zb (n:=999) (by decide);omega
   ·rw [jj];refine⟨_,_,rfl,?_,?_,((h4.upd (.inr ht)).upd (.inr hd'))⟩
    ·rw [zD ngd,zD ngT];exact h1
    ·have e2:(b.meter m).ins.take (i+1)=(b.meter m).ins.take i++[st]:=by rw [take_succ,hst];rfl
     rw [zA,e2,List.flatMap_append,map_cons,map_cons,map_append,append_assoc];rfl
  ·rintro σ H' ⟨v4,v5,rfl,h1,h2,h4⟩;refine⟨h1,_,rfl,k _ d ?_ hd (h4.unlock hg)⟩;rw [zD ngd.symm,h2,lk,take_length]
   have ea:ans 13 b [(m:Int)]=((b.meter m).ins.length:Int)::(b.meter m).ins.flatMap fun s=>nats [s.id,s.units,s.since]:=by
    show(if okM (m:Int)=true then _ else _)=_;rw [if_pos (show okM (m:Int)=true from hrg0)];rfl
   rw [ea]
theorem zBi:zL ["book","numbers","spells"] ["book","numbers"] (zE yu):=by trivial
theorem zIm (l:List Nat){g:Int}(h1:g∈(0:Int)::l.map fun(n:Nat)=>(n:Int)) (h2:∀ y∈(0:Int)::l.map (fun(n:Nat)=>(n:Int)),y≤g):g=((l.foldl max 0:Nat):Int):=by
 have up:∀ (l:List Nat) (a:Nat),a≤l.foldl max a∧∀ n∈l,n≤l.foldl max a:=by
  intro l
  induction l with
  | nil=>intro a;exact⟨le_refl _,fun n h=>(nomatch h)⟩
  | cons x l ih =>
   intro a;rw [foldl_cons];have:=ih (max a x);refine⟨le_trans (Nat.le_max_left a x) this.1,fun n h=>?_⟩
   rcases List.mem_cons.mp h with rfl | h
   ·exact le_trans (Nat.le_max_right a n) this.1
   ·exact this.2 n h
 have at_:∀ (l:List Nat) (a:Nat),l.foldl max a=a∨l.foldl max a∈l:=by
  intro l
  induction l with
  | nil=>intro a;exact .inl rfl
  | cons x l ih =>
   intro a;rw [foldl_cons]
   rcases ih (max a x) with h | h
   ·rw [h]
    rcases Nat.le_total a x with q | q
    ·rw [Nat.max_eq_right q];exact .inr mem_cons_self
    ·rw [Nat.max_eq_left q];exact .inl rfl
   ·exact .inr (mem_cons_of_mem _ h)
 refine Int.le_antisymm ?_ ?_
 ·rcases List.mem_cons.mp h1 with rfl | h
  ·omega
  ·obtain⟨n,hn,rfl⟩:=List.mem_map.mp h;have:=(up l 0).2 n hn;omega
 ·rcases at_ l 0 with h | h
  ·rw [h];exact h2 _ mem_cons_self
  ·exact h2 _ (mem_cons_of_mem _ (List.mem_map.mpr ⟨_,h,rfl⟩))
theorem zDU (T:TX K mg CB CM CT) (vQ:ve P w K mg base CM "spans" 2 ["self","clock"] (zCb CM)) (zHF:Has P w K mg base "spells_of" 1 ["spans"] zHz):zAA P w K mg base ["book","numbers","spells"] "tell_busy" yu 3 (wW CB CM CT 14):=by
 have nd:=zBi.nd;rintro f cdv A outer s H vs Q E hr ⟨L,b,nl,ns,n,rfl,B,ok,hn,hnl,hrg,k⟩
 obtain⟨m0,rfl⟩:=ln1 (zJH hrg);have hrg0:=hrg
 ·
  have hrg:=hrg0;simp only [rg,okM,zm] at hrg;obtain⟨m,rfl⟩:∃ m:Nat,m0=(m:Int):=⟨m0.toNat,by omega⟩
  have hm:m<256:=by omega
  have mok:=ok.mok m hm;obtain⟨dxb,hbk⟩:=B.bk;obtain⟨⟨dx,ha⟩,⟨kvs,hg,hG⟩,⟨xs,hl,hM⟩⟩:=B.mt m hm;unfold zEd at ha;refine⟨_,(zC (zU (i:=2) nd rfl (Or.inl rfl) (vO zHF (hr.mono (by decide)) (zB (vF T.clMeter vQ (hr.mono (by decide)) (zN zK (zO (pv 0) rfl) (zN zK (pv 1) zH (fun _ _=>rfl)) (fun _ _=>rfl)) (zB (zO (pv 0) rfl) zG)) zG))) (zI (zP (jO (zB (zh jN (by rfl) T.n_len boot_len (zB (pv 2) zG)) (zB (zh (zMC rfl) (by rfl) T.n_max boot_max (zB (jI zFb (jO (zB zH zG)) (pv 2)) zG)) (zB (zh (zBZ rfl) (by rfl) T.n_sum boot_sum (zB (pv 2) zG)) zG))))))),?_⟩
  have lm:(tl b.since (b.meter m)).length<1000:=by rw [wk];have:=ok.evs m hm;omega
  obtain⟨so1,so2⟩:=kP (b:=b) mok rfl;have eS:zBd b.clock (tl b.since (b.meter m))=(spansOf b (b.meter m)).map toI:=zAb _ _ nofun so1 so2;have ls:(spansOf b (b.meter m)).length=(tl b.since (b.meter m)).length:=yS _ _;refine⟨_,rfl,L.bk,CB,dxb,_,_,rfl,hbk,T.clBook,T.b3,bf3,_,rfl,.inl ⟨nl,_,0,.int (m:Int),rfl,rfl,SqL.of hnl,rfl,.inl ⟨L.lm,_,_,_,rfl,rfl,SqL.of B.lm,zEo hm,?_⟩⟩⟩;refine⟨L.m m,dx,_,rfl,ha,mn6,_,rfl,L.bk,CB,dxb,_,_,rfl,hbk,T.clBook,T.b1,bf1,L.m m,dx,L.g m,L.mo m,_,_,_,_,_,_,_,b.clock,xs,_,rfl,ha,hl,hM,nofun,lm,fun H1 p ys h1 h2 h3 k1=>?_⟩;rw [eS] at h3;refine⟨p,ys,_,rfl,h1,h3,by rw [ls];exact lm,fun H2 q hq hqn k2=>?_⟩;rw [← zFN] at hq
  have lb:(Vbdeai.busy b (b.meter m)).length<1000:=by
   rw [zFN];have:=zFw (spansOf b (b.meter m)) ([],none);have z:(wR (([],none):List Nat×Option Nat)).length=0:=rfl;omega
  have k12:=Kp.trans k1 k2;generalize hbz:Vbdeai.busy b (b.meter m)=bz at hq lb;refine⟨_,rfl,q,_,rfl,.inl (SqL.of hq),?_⟩;refine⟨(by show 1≤sizeLine;decide),fun z hz=>?_⟩;have nqz:q≠z:=zF hq hz;refine⟨_,rfl,z,q,_,_,rfl,rfl,zA,(by rw [zD nqz];exact hq),?_,fun c hc=>?_⟩
  ·rw [length_map,length_map];show 1+_≤sizeLine;have:=zb (n:=999) (by decide);omega
  have k3:Kp [] H (upd H2 z (.lst [.int 0])):=k12.upd (.inr (k12.none hz (by simp)));have hcH:H c=none:=k3.none hc (by simp);have nqc:q≠c:=zF (show upd H2 z (.lst [.int 0]) q=some _ from by rw [zD nqz];exact hq) hc;refine⟨c,(0:Int)::bz.map fun(n:Nat)=>(n:Int),rfl,SqL.of zA,Nat.succ_pos _,fun gm g1 g2=>?_⟩;rw [zIm bz g1 g2];refine⟨_,rfl,q,_,rfl,SqL.of (by rw [zD nqc,zD nqz];exact hq),(by show 3≤sizeLine;decide),fun r hr'=>?_⟩;have k4:Kp [] H (upd (upd H2 z (.lst [.int 0])) c (.lst ([.int 0]++(bz.map fun(n:Nat)=>(n:Int)).map V.int))):=k3.upd (.inr hcH);have hrH:H r=none:=k4.none hr' (by simp);refine k _ r ?_ hrH (k4.upd (.inr hrH))
  have ea:ans 14 b [(m:Int)]=nats [bz.length,bz.foldl max 0,Vbdeai.sumN bz]:=by
   show(if okM (m:Int)=true then _ else _)=_;rw [if_pos (show okM (m:Int)=true from hrg0),← hbz];rfl
  rw [zA,ea,length_map,length_map,← zAN];rfl
theorem zCr (l:List (Nat×Nat)) (c:Nat):zAB (l.map toI) (c:Int)=((lv l c:Nat):Int):=by
 induction l with
 | nil=>rfl
 | cons p l ih =>
  rw [ye,natCast_add,← ih];show zAB (toI p::l.map toI) (c:Int)=_;unfold zAB;rw [filter_cons];by_cases h:p.1=c
  ·have:((toI p).1==(c:Int))=true:=by show((p.1:Int)==(c:Int))=true;simp [h]
   rw [if_pos this,if_pos h,map_cons,sum_cons];rfl
  ·have:¬ ((toI p).1==(c:Int))=true:=by show ¬ ((p.1:Int)==(c:Int))=true;simp;omega
   rw [if_neg this,if_neg h];exact(Int.zero_add _).symm
theorem zG4 {b:Bank}{v:Meter}{l:List (Nat×Nat)}(hl:spansOf b v=l){ns' ns:List Int}(hp:ns'.Perm ns) (hs:ns'.Pairwise (·≤·)) (hn:ns.Nodup) (hm:∀ c,c∈ns↔c∈(l.map toI).map (·.1)) :
  Vbdeai.levels b v=(ns'.filter fun c=>decide (0<zAB (l.map toI) c)).map fun c=>(c.toNat,(zAB (l.map toI) c).toNat):=by
 have nat:∀ c∈ns',∃ k:Nat,c=(k:Int):=fun c hc=>by
  have:=(hm c).mp (hp.mem_iff.mp hc);rw [map_map] at this;obtain⟨p,_,rfl⟩:=List.mem_map.mp this;exact⟨p.1,rfl⟩
 have nd:ns'.Nodup:=hp.nodup_iff.mpr hn
 have st:ns'.Pairwise (·<·):=by
  have:=List.Pairwise.and hs nd;exact this.imp fun⟨a,b⟩=>Int.lt_iff_le_and_ne.mpr ⟨a,b⟩
 symm;refine zJA ?_ fun p=>?_
 ·unfold zKj;rw [map_map,List.pairwise_map];refine List.Pairwise.imp_of_mem ?_ (st.filter _);intro a c ha hc hac;obtain⟨x,rfl⟩:=nat a (List.mem_filter.mp ha).1;obtain⟨y,rfl⟩:=nat c (List.mem_filter.mp hc).1;show x<y;omega
 ·rw [hl,List.mem_map];constructor
  ·rintro⟨c,hc,rfl⟩;obtain⟨h1,h2⟩:=List.mem_filter.mp hc;obtain⟨x,rfl⟩:=nat c h1;have h2:=of_decide_eq_true h2;rw [zCr] at h2 ⊢;dsimp only;rw [toNat_natCast,toNat_natCast];exact⟨rfl,by omega⟩
  ·rintro⟨h1,h2⟩;refine⟨(p.1:Int),List.mem_filter.mpr ⟨?_,?_⟩,?_⟩
   ·rw [hp.mem_iff,hm];refine Decidable.byContradiction fun q=>h2 ?_;have:=zFu q;rw [zCr] at this;omega
   ·rw [zCr];exact decide_eq_true (by omega)
   ·rw [zCr,toNat_natCast,toNat_natCast,h1]
theorem wu:zL ["book","numbers","lengths","contents","told","content"] ["book","numbers"] (zE kX):=by trivial
theorem zBv (T:TX K mg CB CM CT) (vQ:ve P w K mg base CM "spans" 2 ["self","clock"] (zCb CM)) (wX:Has P w K mg base "lengths_by_content" 1 ["spans"] zFv):zAA P w K mg base ["book","numbers","lengths","contents","told","content"] "tell_levels" kX 3 (wW CB CM CT 12):=by
 have nd:=wu.nd;rintro f cdv A outer s H vs Q E hr ⟨L,b,nl,ns,n,rfl,B,ok,hn,hnl,hrg,k⟩
 obtain⟨m0,rfl⟩:=ln1 (zJH hrg);have hrg0:=hrg
 ·
  have hrg:=hrg0;simp only [rg,okM,zm] at hrg;obtain⟨m,rfl⟩:∃ m:Nat,m0=(m:Int):=⟨m0.toNat,by omega⟩
  have hm:m<256:=by omega
  have mok:=ok.mok m hm;obtain⟨dxb,hbk⟩:=B.bk;obtain⟨⟨dx,ha⟩,⟨kvs0,hg,hG⟩,⟨xs,hl,hM⟩⟩:=B.mt m hm;unfold zEd at ha;have hu:=zGl hr;refine⟨_,(zC (zU (i:=2) nd rfl (Or.inr rfl) (vO wX (hr.mono (by decide)) (zB (vF T.clMeter vQ (hr.mono (by decide)) (zN zK (zO (pv 0) rfl) (zN zK (pv 1) zH (fun _ _=>rfl)) (fun _ _=>rfl)) (zB (zO (pv 0) rfl) zG)) zG))) (zC (yk (i:=3) (own:=[("content",5)]) rfl nd rfl rfl (w8 rfl rfl rfl rfl) (jF (zh (zIg rfl) (by rfl) T.n_sorted boot_sorted (zB (pv 2) zG))) (zx (by show zBb ["book","numbers","lengths","contents","told","content"] (zE kX) _ _=true;decide +kernel)) (fun _ _ _ _ _=>(zS (i:=5) nd rfl (Or.inl rfl))) (fun _ _ _ _ _=>(zCW (jl zFR (zJl hu (pv 2) (pv 5) (fun _ _=>rfl)) zH (jc _)))) (fun _ _ _ _ _=>(pv 5))) (zC (zU (i:=4) nd rfl (Or.inl rfl) (jO (zB (zh jN (by rfl) T.n_len boot_len (zB (pv 3) zG)) zG))) (zC (yT PassesOwn.never rfl (jF (pv 3)) (zS (i:=5) nd rfl (Or.inl rfl)) (zC (jP (ww F.plainAttrs_list F.slot_list_append F.type_list_append kD (pv 4) (zB (pv 5) zG))) (zI (jP (ww F.plainAttrs_list F.slot_list_append F.type_list_append kD (pv 4) (zB (zJl hu (pv 2) (pv 5) (fun _ _=>rfl)) zG)))))) (zI (zP (pv 4))))))),?_⟩
  have lm:(tl b.since (b.meter m)).length<501:=by rw [wk];have:=ok.evs m hm;omega
  obtain⟨so1,so2⟩:=kP (b:=b) mok rfl;have eS:zBd b.clock (tl b.since (b.meter m))=(spansOf b (b.meter m)).map toI:=zAb _ _ nofun so1 so2;have ls:(spansOf b (b.meter m)).length=(tl b.since (b.meter m)).length:=yS _ _;refine⟨_,rfl,L.bk,CB,dxb,_,_,rfl,hbk,T.clBook,T.b3,bf3,_,rfl,.inl ⟨nl,_,0,.int (m:Int),rfl,rfl,SqL.of hnl,rfl,.inl ⟨L.lm,_,_,_,rfl,rfl,SqL.of B.lm,zEo hm,?_⟩⟩⟩;refine⟨L.m m,dx,_,rfl,ha,mn6,_,rfl,L.bk,CB,dxb,_,_,rfl,hbk,T.clBook,T.b1,bf1,L.m m,dx,L.g m,L.mo m,_,_,_,_,_,_,_,b.clock,xs,_,rfl,ha,hl,hM,nofun,by omega,fun H1 p ys h1 h2 h3 k1=>?_⟩;rw [eS] at h3;refine⟨p,ys,_,rfl,h1,h3,by rw [length_map,ls];omega,fun H2 d kvs ks hd hdn hL k2=>?_⟩;have k12:=Kp.trans k1 k2;have hdH:H d=none:=k1.none hdn (by simp);generalize hsp:spansOf b (b.meter m)=l at hL ls;have lk:=hL.len;rw [length_map] at lk;refine⟨_,rfl,d,kvs,ks,rfl,hd,hL.keys,fun ks' z hp hs hz=>?_⟩;have kz:Kp [] H (upd H2 z (.lst (ks'.map V.int))):=k12.upd (.inr (k12.none hz (by simp)));have ndz:d≠z:=zF hd hz
  have hd3:upd H2 z (.lst (ks'.map V.int)) d=some (.dK kvs):=by rw [zD ndz];exact hd
  have hz3:upd H2 z (.lst (ks'.map V.int)) z=some (.lst (ks'.map V.int)):=zA;generalize upd H2 z (.lst (ks'.map V.int))=H3 at kz hd3 hz3 ⊢
  have lks:ks'.length≤501:=by rw [hp.length_eq];omega
  have vals:∀ c∈ks',yL kvs (Sum.inl c)=some (.int (zAB (l.map toI) c)):=fun c hc=>hL.val c (hp.mem_iff.mp hc);refine⟨z,rfl,⟨_,SqL.of hz3⟩,fun cl hcl=>?_⟩;refine yM (K:=K) (m:=ks') (F:=fun x c=>x=V.int c) (fun c=>if(decide (0<zAB (l.map toI) c))=true then some (.int c) else none) hz3 (zJ9 ks') (by omega) hcl ?_ ?_
  ·rintro x c H' rfl mc kp Yes No yes no;refine⟨rfl,_,rfl,_,rfl,d,_,rfl,(by rw [← vals c mc];exact zGK.k (k:=Sum.inl c) (kp _ _ hd3 (by simp))),_,_,rfl,rfl,_,rfl,?_⟩;by_cases q:0<zAB (l.map toI) c
   ·rw [decide_eq_true q] at yes ⊢;exact yc ⟨_,rfl,yes _ rfl⟩
   ·rw [decide_eq_false q] at no ⊢;exact ym (no rfl)
  ·rintro H4 h4 k4;have ef:ks'.filterMap (fun c=>if(decide (0<zAB (l.map toI) c))=true then some (V.int c) else none)=(ks'.filter fun c=>decide (0<zAB (l.map toI) c)).map V.int:=zCe _ _;rw [ef] at h4;have hclH:H cl=none:=kz.none hcl (by simp);have k5:=Kp.trans kz k4;have hd5:=k4 _ _ hd3 (by simp);generalize hcs:(ks'.filter fun c=>decide (0<zAB (l.map toI) c))=cs at h4
   have lcs:cs.length≤501:=by
    rw [← hcs];exact le_trans (length_filter_le _ _) lks
   have csin:∀ c∈cs,c∈ks':=fun c hc=>by
    rw [← hcs] at hc;exact(List.mem_filter.mp hc).1
   refine⟨_,rfl,cl,_,rfl,.inl (SqL.of h4),(by show 1≤sizeLine;decide),fun t ht=>?_⟩;have htH:H t=none:=k5.none ht (by simp);have nclt:cl≠t:=zF h4 ht;have ndt:d≠t:=zF hd5 ht;refine⟨_,rfl,cl,rfl,⟨_,SqL.of (by rw [zD nclt];exact h4)⟩,kx (K:=K) (a:=cl) (xs:=cs.map V.int) (fun i σ H'=>∃ v5,σ=[some (.ref L.bk),some (.ref nl),some (.ref d),some (.ref cl),some (.ref t),v5]∧H' t=some (.lst (((cs.length:Int)::(cs.take i).flatMap fun c=>[c,zAB (l.map toI) c]).map V.int))∧Kp [] H H'∧H' cl=some (.lst (cs.map V.int))∧H' d=some (.dK kvs)) ?_ ?_ ?_ ?_⟩
   ·refine⟨_,rfl,?_,k5.upd (.inr htH),by rw [zD nclt];exact h4,by rw [zD ndt];exact hd5⟩;rw [zA,length_map];rfl
   ·rintro i σ H' _ ⟨v5,_,_,_,h,_⟩;exact SqL.of h
   ·rintro i x σ H' hi ⟨v5,rfl,q1,q2,q3,q4⟩;rw [getElem?_map] at hi;obtain⟨c,hc,rfl⟩:=Option.map_eq_some_iff.mp hi;have mc:c∈ks':=csin c (List.mem_of_getElem? hc)
    have e2:cs.take (i+1)=cs.take i++[c]:=by rw [take_succ,hc];rfl
    have lf:((cs.length:Int)::(cs.take i).flatMap fun c=>[c,zAB (l.map toI) c]).length≤1005:=by
     rw [length_cons,zAR _ 2 (fun s=>rfl),length_take];omega
    have big:(1010:Nat)≤sizeLine:=by decide
    refine⟨_,rfl,.inl ⟨rfl,_,SqL.of q1⟩,_,rfl,t,_,_,rfl,rfl,q1,by rw [length_map];omega,?_⟩;refine⟨_,rfl,.inl ⟨rfl,_,SqL.of zA⟩,_,rfl,_,rfl,d,_,rfl,(by rw [← vals c mc];exact zGK.k (k:=Sum.inl c) (by rw [zD ndt];exact q4)),t,_,_,rfl,rfl,zA,by rw [length_append,length_map];show _+1<sizeLine;omega,?_⟩;rw [jj];refine⟨_,rfl,?_,q2.upd (.inr htH),by rw [zD nclt];exact q3,by rw [zD ndt];exact q4⟩;rw [zA,e2,List.flatMap_append,map_cons,map_cons,map_append,append_assoc];rfl
   ·rintro σ H' ⟨v5,rfl,q1,q2,q3,q4⟩;rw [length_map,take_length] at q1;refine⟨_,rfl,k H' t ?_ htH q2⟩
    have ea:ans 12 b [(m:Int)]=Vbdeai.pairs (Vbdeai.levels b (b.meter m)):=by
     show(if okM (m:Int)=true then _ else _)=_;rw [if_pos (show okM (m:Int)=true from hrg0)];rfl
    rw [ea,zG4 hsp hp hs hL.nodup hL.mem,hcs,q1];unfold Vbdeai.pairs;rw [length_map,List.flatMap_map]
    have nat:∀ c∈cs,(c.toNat:Int)=c∧((zAB (l.map toI) c).toNat:Int)=zAB (l.map toI) c:=fun c hc=>by
     have:=(hL.mem c).mp (hp.mem_iff.mp (csin c hc));rw [map_map] at this;obtain⟨p,_,rfl⟩:=List.mem_map.mp this;show(((p.1:Int).toNat:Int)=(p.1:Int))∧((zAB (l.map toI) (p.1:Int)).toNat:Int)=zAB (l.map toI) (p.1:Int);rw [zCr];omega
    have fe:(cs.flatMap fun c=>[c,zAB (l.map toI) c])=cs.flatMap fun a=>[((a.toNat:Nat):Int),(((zAB (l.map toI) a).toNat:Nat):Int)]:=by
     refine zDw fun c hc=>?_;rw [(nat c hc).1,(nat c hc).2]
    rw [fe]
end
end Mb
namespace Mb
open PySem PySem.Spec PyProof.Rows L2
abbrev vM:Stmt:=top 60
abbrev vB:Stmt:=top 61
abbrev yH:Stmt:=top 63
abbrev vN:Stmt:=top 64
abbrev yI:Stmt:=top 65
theorem zF5 {l m:List Int}(h:l.Perm m):l.sum=m.sum:=by
 induction h with
 | nil=>rfl
 | cons x _ ih=>rw [sum_cons,sum_cons,ih]
 | swap x y l=>rw [sum_cons,sum_cons,sum_cons,sum_cons];omega
 | trans _ _ ih1 ih2=>exact ih1.trans ih2
theorem zAr (f:Rat→Bool):∀ m:List (Nat×Rat),((vz f m:Nat):Int)=(m.map fun s=>if f s.2=true then(s.1:Int) else 0).sum
 | []=>rfl
 | s::m=>by
  rw [jH,map_cons,sum_cons,← zAr f m,natCast_add];by_cases h:f s.2=true
  ·rw [if_pos h,if_pos h]
  ·rw [if_neg h,if_neg h];rfl
def two (b:Tly):Nat×Rat:=(b.1,b.2.1)
theorem zPp {H:Hp}:∀ {xs:List V}{m1:List (Nat×Rat)},Paired (fun(x:V) (s:Nat×Vbdeai.Q)=>zMH H x s.1 s.2) xs (m1.map fun s=>(s.1,toQ s.2))→∃ m:List Tly,Paired (Tl H) xs m∧m.map two=m1
 | [],[],_=>⟨[],.nil,rfl⟩
 | [],_::_,h=>(nomatch h)
 | _::_,[],h=>(nomatch h)
 | _::_,s::m1,.cons ⟨p,u,e,h1,h2⟩ t=>by
  obtain⟨m,q1,q2⟩:=zPp t;exact⟨(s.1,s.2,u)::m,.cons ⟨p,e,h1,h2⟩ q1,by rw [map_cons,q2];rfl⟩
structure zBw (CT:Addr) (H:Hp) (a:Addr) (v:Table) (lo wi:V) (m:List Tly) (m0:List (Nat×Rat)):Prop where
 tab:zBG CT H a v.classes lo wi m
 bds:Bds H lo wi v
 seen:v.seen=qs m0
 rev:m.map two=m0.reverse
 few:v.classes≤100
theorem QIn.fit {r:Rat}(h:QIn (toQ r)):Fit r:=by
 obtain⟨r',e,h1,h2⟩:=h;rw [zGO e];unfold BIG at h1 h2;exact⟨by omega,by omega⟩
theorem zH5 {CB CM CT:Addr}{H:Hp}{L:Lay}{b:Bank}{n k:Nat}(B:zc CB CM CT H L b) (ok:zw n b) (hn:n<500) (hk:k<64) (hc:(b.table k).classes≠0):∃ lo wi m m0,zBw CT H (L.t k) (b.table k) lo wi m m0:=by
 obtain⟨⟨dx,lo,wi,h1,h2,h3⟩,⟨xs,h4,h5⟩⟩:=B.tb k hk hc;have tok:=ok.tok k hk;obtain⟨m0,e0,p0⟩:=tok.seen;obtain⟨l0,w0,e1,e2,hp,q1,q2⟩:=tok.bounds hc
 have h6:Paired (fun(x:V) (s:Nat×Vbdeai.Q)=>zMH H x s.1 s.2) xs (m0.reverse.map fun s=>(s.1,toQ s.2)):=by
  have h5':Paired (fun(x:V) (s:Nat×Vbdeai.Q)=>zMH H x s.1 s.2) xs (b.table k).seen.reverse:=h5;rw [e0] at h5';rw [List.map_reverse];exact h5'
 obtain⟨m,q3,q4⟩:=zPp h6;refine⟨lo,wi,m,m0,⟨dx,L.ta k,xs,h1,h4,q3,?_,fun t ht=>?_⟩,⟨h2,h3,l0,w0,e1,e2,hp,QIn.fit (by rw [← e1];exact q1),QIn.fit (by rw [← e2];exact q2)⟩,e0,q4,tok.few⟩
 ·have z:m.length=(b.table k).seen.length:=by
   have:=congrArg List.length q4;rw [length_map,length_reverse] at this;rw [this,e0];unfold qs;rw [length_map]
  have y:=zGU (fun(v:Table)=>v.seen.length) b.tables k {} (by rw [ok.lt];exact hk);have x:=ok.seens;have:(b.table k).seen.length≤_:=y;omega
 ·have:two t∈m0:=by
   rw [← mem_reverse,← q4];exact List.mem_map.mpr ⟨t,ht,rfl⟩
  exact p0 _ this
section
variable {CT:Addr}{H:Hp}{a:Addr}{v:Table}{lo wi:V}{m:List Tly}{m0:List (Nat×Rat)}
theorem zBw.sumI (h:zBw CT H a v lo wi m m0) (f:Nat×Rat→Int):(m.map fun t=>f (two t)).sum=(m0.map f).sum:=by
 have:(m.map fun t=>f (two t))=(m.map two).map f:=by rw [map_map];rfl
 rw [this,h.rev];exact zF5 ((List.reverse_perm m0).map f)
theorem zBw.sumR (h:zBw CT H a v lo wi m m0) (f:Nat×Rat→Rat):(m.map fun t=>f (two t)).sum=(m0.map f).sum:=by
 have:(m.map fun t=>f (two t))=(m.map two).map f:=by rw [map_map];rfl
 rw [this,h.rev];exact zKr ((List.reverse_perm m0).map f)
theorem zBw.weight (h:zBw CT H a v lo wi m m0):zH2 m=((weight v.seen:Nat):Int):=by
 rw [h.seen,zFL,zAr];exact h.sumI fun s=>(s.1:Int)
theorem zBw.len (h:zBw CT H a v lo wi m m0):m.length=v.seen.length:=by
 have:=congrArg List.length h.rev;rw [length_map,length_reverse] at this;rw [this,h.seen];unfold qs;rw [length_map]
theorem zBw.keep {H':Hp}(h:zBw CT H a v lo wi m m0) (k:Kp [] H H'):zBw CT H' a v lo wi m m0:=⟨h.tab.keep k,h.bds.keep (k.tups (by simp)),h.seen,h.rev,h.few⟩
end
section
variable {P:Program}{w:World}{K:W.Frag}{mg:Str→Option Value}{base:Heap}{CB CM CT:Addr}
theorem xi:zL ["book","numbers","table","weights"] ["book","numbers"] (zE vB):=by trivial
theorem zBH (T:TX K mg CB CM CT) (zC6:ve P w K mg base CT "class_weights" 2 ["self"] (zP4 CT)):zAA P w K mg base ["book","numbers","table","weights"] "tell_classes" vB 2 (wW CB CM CT 16):=by
 have nd:=xi.nd;rintro f cdv A outer s H vs Q E hr ⟨L,b,nl,ns,n,rfl,B,ok,hn,hnl,hrg,k⟩
 obtain⟨k0,rfl⟩:=ln1 (zJH hrg);have hrg0:=hrg
 ·
  have hrg:=hrg0;simp only [rg,okK,zm] at hrg;obtain⟨j,rfl⟩:∃ j:Nat,k0=(j:Int):=⟨k0.toNat,by omega⟩
  have hj:j<64:=by omega
  obtain⟨dxb,hbk⟩:=B.bk
  have ea:ans 16 b [(j:Int)]=if(b.table j).classes=0 then [-8] else(((b.table j).classes+2:Nat):Int)::nats ((List.range ((b.table j).classes+2)).map (Vbdeai.inClass (b.table j))):=by
   show(if(okK (j:Int)&&true)=false then [-1] else if(b.table (j:Int).toNat).classes=0 then [-8] else _)=_;rw [show okK (j:Int)=true from hrg0,if_neg (by decide),toNat_natCast]
  rw [ea] at k;refine⟨_,(zC (zU (i:=2) nd rfl (Or.inl rfl) (zN zK (zO (pv 0) rfl) (zN zK (pv 1) zH (fun _ _=>rfl)) (fun _ _=>rfl))) (zC (kj (wc (zCK (pv 2))) (zI (zP (jO (zB (zn T.cNO_LIKE_TABLE) zG)))) jM) (zC (zU (i:=3) nd rfl (Or.inl rfl) (yp T.clTable zC6 (hr.mono (by decide)) (pv 2))) (zI (zP (jI zFb (jO (zB (zh jN (by rfl) T.n_len boot_len (zB (pv 3) zG)) zG)) (pv 3))))))),?_⟩;refine⟨_,rfl,L.bk,CB,dxb,_,_,rfl,hbk,T.clBook,T.b4,bf4,_,rfl,.inl ⟨nl,_,0,.int (j:Int),rfl,rfl,SqL.of hnl,rfl,.inl ⟨L.lt,_,_,_,rfl,rfl,SqL.of B.lt,zG0 hj,?_⟩⟩⟩;by_cases hc:(b.table j).classes=0
  ·rw [if_pos hc] at k ⊢;refine⟨_,rfl,_,rfl,yc ⟨(by show 1≤sizeLine;decide),fun q hq=>k _ q ?_ hq (Kp.refl.upd (.inr hq))⟩⟩;exact zA
  ·rw [if_neg hc] at k ⊢;obtain⟨lo,wi,m,m0,TA⟩:=zH5 B ok hn hj hc;obtain⟨dx,l,xs,ha,_⟩:=TA.tab;refine⟨_,rfl,_,rfl,ym ⟨_,rfl,L.t j,dx,_,rfl,ha,tn3,L.t j,lo,wi,b.table j,m,rfl,TA.tab,TA.bds,TA.few,fun H1 q h1 h2 k1=>?_⟩⟩;refine⟨_,rfl,q,_,rfl,.inl (SqL.of h1),(by show 1≤sizeLine;decide),fun p hp=>?_⟩;have hpH:H p=none:=k1.none hp (by simp);have nqp:q≠p:=zF h1 hp;have few:=TA.few;refine⟨_,rfl,p,q,_,_,rfl,rfl,zA,by rw [zD nqp];exact h1,?_,fun z hz=>?_⟩
   ·rw [length_map,length_range];show 1+_≤sizeLine;have:=zb (n:=999) (by decide);omega
   ·have k2:=k1.upd (o:=HO.lst [.int (((((List.range ((b.table j).classes+2)).map fun i=>V.int (cw (b.table j) m i))).length:Nat):Int)]) (.inr hpH);have hzH:H z=none:=k2.none hz (by simp);refine k _ z ?_ hzH (k2.upd (.inr hzH));rw [zA,length_map,length_range];unfold nats;rw [map_cons,map_map,map_map];refine congrArg (fun z=>some (HO.lst z)) (congrArg (List.cons _) (map_congr_left fun i hi=>?_));show V.int (cw (b.table j) m i)=V.int ((Vbdeai.inClass (b.table j) i:Nat):Int);congr 1;unfold Vbdeai.inClass;rw [TA.seen,zAO (fun q=>classOf (b.table j) q==i),zAr];unfold cw;rw [← TA.sumI];refine congrArg List.sum (map_congr_left fun t _=>?_);show _=if(classOf (b.table j) (toQ t.2.1)==i)=true then _ else _;by_cases q:classOf (b.table j) (toQ t.2.1)=i
    ·rw [if_pos q,if_pos (by simpa using q)];rfl
    ·rw [if_neg q,if_neg (by simpa using q)]
theorem zAs:zL ["book","numbers","table","bound"] ["book","numbers"] (zE yH):=by trivial
theorem zCs (T:TX K mg CB CM CT) (zr:Has P w K mg base "lowest" 2 ["num","den"] vW) (zDX:ve P w K mg base CT "weight_below" 2 ["self","bound"] (zH3 CT)) (zHG:ve P w K mg base CT "weight_at" 1 ["self","bound"] (zOv CT)):zAA P w K mg base ["book","numbers","table","bound"] "tell_below" yH 2 (wW CB CM CT 18):=by
 have nd:=zAs.nd;rintro f cdv A outer s H vs Q E hr ⟨L,b,nl,ns,n,rfl,B,ok,hn,hnl,hrg,k⟩
 obtain⟨k0,n0,d0,rfl⟩:=ln3 (zJH hrg);have hrg0:=hrg
 ·
  have hrg:=hrg0;simp only [rg,okK,okQ,Bool.and_eq_true,zm] at hrg;obtain⟨j,rfl⟩:∃ j:Nat,k0=(j:Int):=⟨k0.toNat,by omega⟩
  have hj:j<64:=by omega
  obtain⟨d1,d2,d3⟩:=wN hrg.2.2.1 hrg.2.2.2;obtain⟨dxb,hbk⟩:=B.bk
  have ea:ans 18 b [(j:Int),n0,d0]=if(b.table j).classes=0 then [-8] else nats [Vbdeai.below (b.table j).seen (Vbdeai.q n0 d0),Vbdeai.equal (b.table j).seen (Vbdeai.q n0 d0)]:=by
   show(if(okK (j:Int)&&okQ n0 d0)=false then [-1] else if(b.table (j:Int).toNat).classes=0 then [-8] else _)=_;rw [show(okK (j:Int)&&okQ n0 d0)=true from hrg0,if_neg (by decide),toNat_natCast]
  rw [ea] at k;refine⟨_,(zC (zU (i:=2) nd rfl (Or.inl rfl) (zN zK (zO (pv 0) rfl) (zN zK (pv 1) zH (fun _ _=>rfl)) (fun _ _=>rfl))) (zC (kj (wc (zCK (pv 2))) (zI (zP (jO (zB (zn T.cNO_LIKE_TABLE) zG)))) jM) (zC (zU (i:=3) nd rfl (Or.inl rfl) (vO zr (hr.mono (by decide)) (zB (zN zK (pv 1) zH (fun _ _=>rfl)) (zB (zN zK (pv 1) zH (fun _ _=>rfl)) zG)))) (zI (zP (jO (zB (vF T.clTable zDX (hr.mono (by decide)) (pv 2) (zB (pv 3) zG)) (zB (vF T.clTable zHG (hr.mono (by decide)) (pv 2) (zB (pv 3) zG)) zG)))))))),?_⟩;refine⟨_,rfl,L.bk,CB,dxb,_,_,rfl,hbk,T.clBook,T.b4,bf4,_,rfl,.inl ⟨nl,_,0,.int (j:Int),rfl,rfl,SqL.of hnl,rfl,.inl ⟨L.lt,_,_,_,rfl,rfl,SqL.of B.lt,zG0 hj,?_⟩⟩⟩;by_cases hc:(b.table j).classes=0
  ·rw [if_pos hc] at k ⊢;refine⟨_,rfl,_,rfl,yc ⟨(by show 1≤sizeLine;decide),fun q hq=>k _ q ?_ hq (Kp.refl.upd (.inr hq))⟩⟩;exact zA
  ·rw [if_neg hc] at k ⊢;obtain⟨lo,wi,m,m0,TA⟩:=zH5 B ok hn hj hc;refine⟨_,rfl,_,rfl,ym ⟨_,rfl,.inl ⟨nl,_,1,.int n0,rfl,rfl,SqL.of hnl,rfl,_,rfl,.inl ⟨nl,_,2,.int d0,rfl,rfl,SqL.of hnl,rfl,n0,d0.toNat,by rw [← d3];rfl,d1,d2,fun y hy=>?_⟩⟩⟩⟩;have k1:Kp [] H (upd H y (qT (Vbdeai.Q.of n0 d0.toNat))):=Kp.refl.upd (.inr hy);rw [xV n0 (ne_of_gt d1)] at k1 ⊢;have hy1:IsQ (upd H y (qT (toQ (mkRat n0 d0.toNat)))) (.ref y) (toQ (mkRat n0 d0.toNat)):=⟨y,rfl,zA⟩;have T1:=TA.keep k1;generalize upd H y (qT (toQ (mkRat n0 d0.toNat)))=H1 at k1 hy1 T1 ⊢
   have ft:Fit (mkRat n0 d0.toNat):=by
    obtain⟨q1,q2⟩:=zAP (n:=n0) (ne_of_gt d1);exact⟨by omega,by omega⟩
   obtain⟨dx,l,xs,ha,_⟩:=T1.tab;refine⟨_,rfl,L.t j,dx,_,rfl,ha,tn5,_,rfl,L.t j,.ref y,_,lo,wi,m,_,rfl,T1.tab,hy1,ft,fun H2 k2=>?_⟩;have ha2:=k2 _ _ ha (by simp);refine⟨_,rfl,L.t j,dx,_,rfl,ha2,tn6,_,rfl,L.t j,.ref y,_,lo,wi,m,_,rfl,T1.tab.keep k2,hy1.keep (k2.tups (by simp)),fun H3 k3=>?_⟩;refine⟨(by show 2≤sizeLine;decide),fun q hq=>?_⟩;have k4:=Kp.trans k1 (Kp.trans k2 k3);have hqH:H q=none:=k4.none hq (by simp);refine k _ q ?_ hqH (k4.upd (.inr hqH));rw [zA];have eq:Vbdeai.q n0 d0=toQ (mkRat n0 d0.toNat):=xV n0 (ne_of_gt d1)
   have e1:((Vbdeai.below (b.table j).seen (Vbdeai.q n0 d0):Nat):Int)=(m.map fun t=>if t.2.1<mkRat n0 d0.toNat then(t.1:Int) else 0).sum:=by
    rw [eq,TA.seen,zHV,zAr,← TA.sumI];simp only [decide_eq_true_eq];rfl
   have e2:((Vbdeai.equal (b.table j).seen (Vbdeai.q n0 d0):Nat):Int)=(m.map fun t=>if t.2.1=mkRat n0 d0.toNat then(t.1:Int) else 0).sum:=by
    rw [eq,TA.seen,zHW,zAr,← TA.sumI];simp only [decide_eq_true_eq];rfl
   rw [← e1,← e2];rfl
structure zLn (H:Hp) (l:Addr) (T0 T:Nat) (v:Vbdeai.Value) (xs:List V) (m:List Tly):Prop where
 at_:H l=some (.lst xs)
 prs:Paired (Tl H) xs m
 eq:m.map (fun t=>(t.1,toQ t.2.1))=wT T0 v
 fit:∀ t∈m,Fit t.2.1
 time:∀ t∈m,t.1≤T
 len:m.length<600
 ne:m≠[]
theorem zKL:∀ {l:List (Nat×Vbdeai.Q)},(∀ s∈l,QIn s.2)→∃ m1:List (Nat×Rat),l=m1.map fun s=>(s.1,toQ s.2)
 | [],_=>⟨[],rfl⟩
 | s::l,h=>by
  obtain⟨m1,e⟩:=zKL fun t ht=>h t (mem_cons_of_mem _ ht);obtain⟨r,er,_⟩:=h s mem_cons_self;exact⟨(s.1,r)::m1,by rw [map_cons,← e,← er]⟩
theorem zMW {CB CM CT:Addr}{H:Hp}{L:Lay}{b:Bank}{n k:Nat}(B:zc CB CM CT H L b) (ok:zw n b) (hn:n<500) (hk:k<64):∃ xs m,zLn H (L.li k) b.since b.clock (b.value k) xs m:=by
 obtain⟨xs,h1,h2⟩:=B.vl k hk;have vo:=ok.vok k hk;have se:=ok.sets k hk
 have inn:∀ s∈wT b.since (b.value k),QIn s.2∧s.1≤b.clock:=fun s hs=>by
  rcases List.mem_cons.mp hs with rfl | hs
  ·exact⟨vo.base,ok.since⟩
  ·have:=vo.times s (List.mem_reverse.mp hs);exact⟨this.2.2,this.2.1⟩
 obtain⟨m1,e1⟩:=zKL fun s hs=>(inn s hs).1;rw [e1] at h2;obtain⟨m,q1,q2⟩:=zPp h2
 have em:m.map (fun t=>(t.1,toQ t.2.1))=wT b.since (b.value k):=by
  rw [e1,← q2,map_map];rfl
 refine⟨xs,m,h1,q1,em,fun t ht=>?_,fun t ht=>?_,?_,fun z=>?_⟩
 ·exact QIn.fit (inn (t.1,toQ t.2.1) (by rw [← em];exact List.mem_map.mpr ⟨t,ht,rfl⟩)).1
 ·exact(inn (t.1,toQ t.2.1) (by rw [← em];exact List.mem_map.mpr ⟨t,ht,rfl⟩)).2
 ·have:=congrArg List.length em;unfold wT at this;rw [length_map,length_cons,length_reverse] at this;omega
 ·rw [z] at em
  cases em
def xN (now:Nat) (m:List Tly):List (Rat×Int):=List.zipWith (fun(t:Tly) (e:Nat)=>(t.2.1,(e:Int)-(t.1:Int))) m (m.tail.map (·.1)++[now])
theorem zNk {H H':Hp}(tp:jd H H'):∀ {m:List Tly}{es:List Nat}{ys:List V},(∀ t∈m,IsQ H t.2.2 (toQ t.2.1))→Paired (fun(y:V) (s:V×Int)=>zNb H' y s.1 s.2) ys (List.zipWith (fun(m:Nat×V) (e:Nat)=>(m.2,(e:Int)-(m.1:Int))) (m.map fun t=>(t.1,t.2.2)) es) →
  Paired (zOu H') ys (List.zipWith (fun(t:Tly) (e:Nat)=>(t.2.1,(e:Int)-(t.1:Int))) m es)
 | [],_,[],_,_ => .nil
 | [],_,_::_,_,h=>(nomatch h)
 | _::_,[],[],_,_ => .nil
 | _::_,[],_::_,_,h=>(nomatch h)
 | _::_,_::_,[],_,h=>(nomatch h)
 | t::m,e::es,y::ys,q,.cons h r => .cons ⟨_,h,(q t mem_cons_self).keep tp⟩ (zNk tp (fun u hu=>q u (mem_cons_of_mem _ hu)) r)
theorem zNz {H:Hp}:∀ {xs:List V}{m:List Tly},Paired (Tl H) xs m→∀ t∈m,IsQ H t.2.2 (toQ t.2.1)
 | _,_,.nil,t,ht=>(nomatch ht)
 | _,_,.cons ⟨p,e,h1,h2⟩ r,t,ht=>by
  rcases List.mem_cons.mp ht with rfl | ht
  ·exact h2
  ·exact zNz r t ht
theorem zIn (m:List Tly) (now:Nat):(m.map fun t=>(t.1,toQ t.2.1)).tail.map (·.1)++[now]=m.tail.map (·.1)++[now]:=by
 cases m with
 | nil=>rfl
 | cons a m =>
  show(m.map fun t=>(t.1,toQ t.2.1)).map (·.1)++[now]=m.map (·.1)++[now];rw [map_map];rfl
theorem zCt (m:List Tly) (now:Nat):(m.map fun t=>(t.1,t.2.2)).tail.map (·.1)++[now]=m.tail.map (·.1)++[now]:=by
 cases m with
 | nil=>rfl
 | cons a m =>
  show(m.map fun t=>(t.1,t.2.2)).map (·.1)++[now]=m.map (·.1)++[now];rw [map_map];rfl
theorem zG5 {T0 T:Nat}{v:Vbdeai.Value}(h:VOk T0 T v) (l:T0≤T):((wT T0 v).map (·.1)).Pairwise (·≤·)∧∀ p∈wT T0 v,p.1≤T:=by
 unfold wT;constructor
 ·rw [map_cons,pairwise_cons,List.map_reverse,List.pairwise_reverse];refine⟨fun t ht=>?_,h.sorted⟩;rw [mem_reverse] at ht;obtain⟨s,hs,rfl⟩:=List.mem_map.mp ht;exact(h.times s hs).1
 ·intro p hp
  rcases List.mem_cons.mp hp with rfl | hp
  ·exact l
  ·exact(h.times p (List.mem_reverse.mp hp)).2.1
theorem zLn.spans {H:Hp}{l:Addr}{T0 T:Nat}{v:Vbdeai.Value}{xs:List V}{m:List Tly}(h:zLn H l T0 T v xs m) (vo:VOk T0 T v) (le:T0≤T){γ:Type}(f:Vbdeai.Q×Int→γ) :
  ((Vbdeai.valueSpans T (wT T0 v)).map (fun s=>(s.1,(s.2:Int)))).map f=(xN T m).map fun s=>f (toQ s.1,s.2):=by
 obtain⟨s1,s2⟩:=zG5 vo le;rw [wa T _ (by unfold wT;exact nofun) s1 s2,← h.eq,zIn];unfold xN;rw [List.map_zipWith,List.map_zipWith,List.zipWith_map_left]
theorem zF6 {H:Hp}{l:Addr}{T0 T:Nat}{v:Vbdeai.Value}{xs:List V}{m:List Tly}(h:zLn H l T0 T v xs m) (hT:T≤BIG):(xN T m).length<1000∧∀ s∈xN T m,Fit s.1∧s.2.natAbs<2 ^ 64:=by
 unfold BIG at hT;constructor
 ·unfold xN;rw [List.length_zipWith];have:=h.len;omega
 ·intro s hs;unfold xN at hs;obtain⟨i,hi,e⟩:=List.mem_iff_getElem.mp hs;rw [List.getElem_zipWith] at e;rw [List.length_zipWith] at hi;have m1:m[i]'(by omega)∈m:=List.getElem_mem _;have t1:=h.time _ m1;have e2:(m.tail.map (·.1)++[T])[i]'(by omega)∈m.tail.map (·.1)++[T]:=List.getElem_mem _
  have b2:(m.tail.map (·.1)++[T])[i]'(by omega)≤T:=by
   rcases List.mem_append.mp e2 with q | q
   ·obtain⟨t,ht,q⟩:=List.mem_map.mp q;rw [← q];exact h.time t (List.mem_of_mem_tail ht)
   ·rw [List.mem_singleton.mp q];exact le_refl _
  rw [← e];exact⟨h.fit _ m1,by dsimp only;omega⟩
theorem zO0 {L:Lay}{k:Nat}(h:k<64):atI ((List.range 64).map fun i=>V.ref (L.li i)) (k:Int)=some (.ref (L.li k)):=by
 refine yK ?_;rw [getElem?_map,getElem?_range h];rfl
theorem zAt:zL ["book","numbers","spans"] ["book","numbers"] (zE yI):=by trivial
theorem zCu (T:TX K mg CB CM CT) (jz:Has P w K mg base "spans_of" 1 ["moments","clock"] zAe) (zE4:Has P w K mg base "length_from" 2 ["spans","bound"] zMN):zAA P w K mg base ["book","numbers","spans"] "tell_above" yI 2 (wW CB CM CT 20):=by
 have nd:=zAt.nd;rintro f cdv A outer s H vs Q E hr ⟨L,b,nl,ns,n,rfl,B,ok,hn,hnl,hrg,k⟩
 obtain⟨k0,n0,d0,rfl⟩:=ln3 (zJH hrg);have hrg0:=hrg
 ·
  have hrg:=hrg0;simp only [rg,okK,okQ,Bool.and_eq_true,zm] at hrg;obtain⟨j,rfl⟩:∃ j:Nat,k0=(j:Int):=⟨k0.toNat,by omega⟩
  have hj:j<64:=by omega
  obtain⟨d1,d2,d3⟩:=wN hrg.2.2.1 hrg.2.2.2;obtain⟨dxb,hbk⟩:=B.bk;obtain⟨xs,m,LI⟩:=zMW B ok hn hj;obtain⟨sl,sf⟩:=zF6 LI ok.clock;refine⟨_,(zC (zU (i:=2) nd rfl (Or.inl rfl) (vO jz (hr.mono (by decide)) (zB (zN zK (zO (pv 0) rfl) (zN zK (pv 1) zH (fun _ _=>rfl)) (fun _ _=>rfl)) (zB (zO (pv 0) rfl) zG)))) (zI (zP (jO (zB (vO zE4 (hr.mono (by decide)) (zB (pv 2) (zB (kM (zB (zN zK (pv 1) zH (fun _ _=>rfl)) (zB (zN zK (pv 1) zH (fun _ _=>rfl)) zG))) zG))) zG))))),?_⟩;refine⟨_,rfl,L.bk,CB,dxb,_,_,rfl,hbk,T.clBook,T.b5,bf5,_,rfl,.inl ⟨nl,_,0,.int (j:Int),rfl,rfl,SqL.of hnl,rfl,.inl ⟨L.ll,_,_,_,rfl,rfl,SqL.of B.ll,zO0 hj,?_⟩⟩⟩;refine⟨_,rfl,L.bk,CB,dxb,_,_,rfl,hbk,T.clBook,T.b1,bf1,L.li j,b.clock,xs,m.map fun t=>(t.1,t.2.2),rfl,LI.at_,zCf LI.prs fun x t=>?_,by rw [length_map];have:=LI.len;omega,fun H1 p ys h1 h2 h3 k1=>?_⟩
  ·rintro⟨p,e,h1,_⟩;exact⟨p,e,h1⟩
  unfold xJ at h3;rw [zCt] at h3;have h4:Paired (zOu H1) ys (xN b.clock m):=zNk (k1.tups (by simp)) (zNz LI.prs) h3;have hnl1:=k1 _ _ hnl (by simp);refine⟨_,rfl,_,rfl,.inl ⟨nl,_,1,.int n0,rfl,rfl,SqL.of hnl1,rfl,_,rfl,.inl ⟨nl,_,2,.int d0,rfl,rfl,SqL.of hnl1,rfl,(by show 2≤sizeLine;decide),fun y hy=>?_⟩⟩⟩;have k2:Kp [] H1 (upd H1 y (.tup [.int n0,.int d0])):=Kp.refl.upd (.inr hy);have t2:=k2.tups (by simp);refine⟨p,.ref y,ys,xN b.clock m,n0,d0.toNat,rfl,k2 _ _ h1 (by simp),Paired.mapP h4 fun y s=>?_,sl,fun s hs=>(sf s hs).1,⟨y,rfl,by rw [zA,← d3]⟩,d1,by omega,by omega,fun H3 k3=>?_⟩
  ·rintro⟨u,q1,q2⟩;exact⟨u,q1.keep t2,q2.keep t2⟩
  ·refine⟨(by show 1≤sizeLine;decide),fun q hq=>?_⟩;have k4:=Kp.trans k1 (Kp.trans k2 k3);have hqH:H q=none:=k4.none hq (by simp);refine k _ q ?_ hqH (k4.upd (.inr hqH))
   have ea:ans 20 b [(j:Int),n0,d0]=[(Vbdeai.ticksAbove b (b.value j) (Vbdeai.q n0 d0):Int)]:=by
    show(if(okK (j:Int)&&okQ n0 d0)=true then _ else _)=_;rw [if_pos (show(okK (j:Int)&&okQ n0 d0)=true from hrg0)];rfl
   have es:((Vbdeai.ticksAbove b (b.value j) (Vbdeai.q n0 d0):Nat):Int)=((xN b.clock m).map fun s=>if mkRat n0 d0.toNat≤s.1 then s.2 else 0).sum:=by
    rw [zDG,show valueLine b (b.value j)=wT b.since (b.value j) from rfl,LI.spans (ok.vok j hj) ok.since];refine congrArg List.sum (map_congr_left fun s _=>?_);rw [show Vbdeai.q n0 d0=toQ (mkRat n0 d0.toNat) from xV n0 (ne_of_gt d1),zI6];simp only [decide_eq_true_eq]
   rw [zA,ea,es];rfl
theorem zAu:zL ["book","numbers","line","members","integral","told","moment"] ["book","numbers"] (zE vN):=by trivial
theorem zCv (T:TX K mg CB CM CT) (jz:Has P w K mg base "spans_of" 1 ["moments","clock"] zAe) (zE5:Has P w K mg base "integral_of" 1 ["spans"] zDy) (zBK:Has P w K mg base "least_of" 2 ["fractions"] zGv) (xA:Has P w K mg base "greatest_of" 2 ["fractions"] zBE)
  (kO:Has P w K mg base "numbers_of" 1 ["fractions"] zH0) (kN:Has P w K mg base "quotient" 3 ["num","den"] zBA):zAA P w K mg base ["book","numbers","line","members","integral","told","moment"] "tell_value" vN 3 (wW CB CM CT 19):=by
 have nd:=zAu.nd;rintro f cdv A outer s H vs Q E hr ⟨L,b,nl,ns,n,rfl,B,ok,hn,hnl,hrg,k⟩
 obtain⟨k0,rfl⟩:=ln1 (zJH hrg);have hrg0:=hrg
 ·
  have hrg:=hrg0;simp only [rg,okK,zm] at hrg;obtain⟨j,rfl⟩:∃ j:Nat,k0=(j:Int):=⟨k0.toNat,by omega⟩
  have hj:j<64:=by omega
  obtain⟨dxb,hbk⟩:=B.bk;obtain⟨xs,m,LI⟩:=zMW B ok hn hj;obtain⟨sl,sf⟩:=zF6 LI ok.clock;have hql:=zNz LI.prs;have ml:=LI.len;refine⟨_,(zC (zU (i:=2) nd rfl (Or.inl rfl) (zN zK (zO (pv 0) rfl) (zN zK (pv 1) zH (fun _ _=>rfl)) (fun _ _=>rfl))) (zC (yk (i:=3) (own:=[("moment",6)]) rfl nd rfl rfl (w8 rfl rfl rfl rfl) (jF (pv 2)) (zx (by show zBb ["book","numbers","line","members","integral","told","moment"] (zE vN) _ _=true;decide +kernel)) (fun _ _ _ _ _=>(zS (i:=6) nd rfl (Or.inl rfl))) (fun _ _ _ _ _=>jm) (fun _ _ _ _ _=>(zN (jg K rfl) (pv 6) zH (fun _ _=>rfl)))) (zC (zU (i:=4) nd rfl (Or.inl rfl) (vO zE5 (hr.mono (by decide)) (zB (vO jz (hr.mono (by decide)) (zB (pv 2) (zB (zO (pv 0) rfl) zG))) zG))) (zC (zU (i:=5) nd rfl (Or.inl rfl) (vO kO (hr.mono (by decide)) (zB (jO (zB (zN zK (pv 3) (zJS zFQ zH) (fun _ _=>rfl)) (zB (vO zBK (hr.mono (by decide)) (zB (pv 3) zG)) (zB (vO xA (hr.mono (by decide)) (zB (pv 3) zG)) zG)))) zG))) (zC (jP (ww F.plainAttrs_list F.slot_list_append F.type_list_append kD (pv 5) (zB (pv 4) zG))) (zC (jP (ww F.plainAttrs_list F.slot_list_extend F.type_list_extend zA6 (pv 5) (zB (vO kN (hr.mono (by decide)) (zB (pv 4) (zB (jI jG zH (jI zCN (zO (pv 0) rfl) (zO (pv 0) rfl))) zG))) zG))) (zI (zP (pv 5))))))))),?_⟩;refine⟨_,rfl,L.bk,CB,dxb,_,_,rfl,hbk,T.clBook,T.b5,bf5,_,rfl,.inl ⟨nl,_,0,.int (j:Int),rfl,rfl,SqL.of hnl,rfl,.inl ⟨L.ll,_,_,_,rfl,rfl,SqL.of B.ll,zO0 hj,?_⟩⟩⟩;refine⟨_,rfl,L.li j,rfl,⟨_,SqL.of LI.at_⟩,fun d hD=>?_⟩;refine yM (K:=K) (m:=m) (fun t=>some t.2.2) LI.at_ LI.prs (by omega) hD ?_ ?_
  ·rintro x t H' ⟨q,rfl,hq,_⟩ mt kp Yes No yes _;exact⟨rfl,_,rfl,.inr (.inl ⟨q,_,1,t.2.2,rfl,rfl,SqT.of (kp _ _ hq (by simp)),rfl,yes _ rfl⟩)⟩
  rintro H1 h1 k1;rw [show m.filterMap (fun t=>some t.2.2)=m.map fun t=>t.2.2 from by rw [filterMap_eq_map']] at h1;have dH:H d=none:=hD;have hbk1:=k1 _ _ hbk (by simp);refine⟨_,rfl,_,rfl,L.bk,CB,dxb,_,_,rfl,hbk1,T.clBook,T.b1,bf1,L.li j,b.clock,xs,m.map fun t=>(t.1,t.2.2),rfl,k1 _ _ LI.at_ (by simp),zCf LI.prs fun x t=>?_,by rw [length_map];omega,fun H2 p ys h2 h2n h3 k2=>?_⟩
  ·rintro⟨p,e,q1,_⟩;exact⟨p,e,k1 _ _ q1 (by simp)⟩
  unfold xJ at h3;rw [zCt] at h3;have k12:=Kp.trans k1 k2;have h4:Paired (zOu H2) ys (xN b.clock m):=zNk (k12.tups (by simp)) hql h3;refine⟨p,ys,xN b.clock m,rfl,h2,h4,sl,sf,fun H3 k3=>?_⟩;have k13:=Kp.trans k12 k3
  have hint:((xN b.clock m).map fun s=>thousandths (toQ s.1)*s.2).sum=integral b (b.value j):=by
   rw [zFJ,show valueLine b (b.value j)=wT b.since (b.value j) from rfl,LI.spans (ok.vok j hj) ok.since]
  rw [hint];have h5:H3 d=some (.lst (m.map fun t=>t.2.2)):=k3 _ _ (k2 _ _ h1 (by simp)) (by simp);have tp3:jd H H3:=k13.tups (by simp)
  have hqs:Qs H3 (m.map fun t=>t.2.2) (m.map fun t=>t.2.1):=by
   have:∀ m':List Tly,(∀ t∈m',IsQ H t.2.2 (toQ t.2.1))→Qs H3 (m'.map fun t=>t.2.2) (m'.map fun t=>t.2.1):=by
    intro m'
    induction m' with
    | nil=>intro _;exact .nil
    | cons t m' ih=>intro h;exact .cons ((h t mem_cons_self).keep tp3) (ih fun u hu=>h u (mem_cons_of_mem _ hu))
   exact this m hql
  have fits:∀ r∈m.map (fun t=>t.2.1),Fit r:=fun r hr=>by
   obtain⟨t,ht,rfl⟩:=List.mem_map.mp hr;exact LI.fit t ht
  have ner:m.map (fun t=>t.2.1)≠[]:=fun z=>LI.ne (List.map_eq_nil_iff.mp z);obtain⟨rr,t',el⟩:=zD3 b.since (b.value j);rw [← LI.eq] at el
  obtain⟨m1,tL,em,etL⟩:∃ (m1:List Tly) (tL:Tly),m=m1++[tL]∧toQ tL.2.1=nowOf (b.value j):=by
   rcases List.eq_nil_or_concat m with z | ⟨m1,tL,z⟩
   ·exact absurd z LI.ne
   ·rw [List.concat_eq_append] at z;refine⟨m1,tL,z,?_⟩;rw [z,map_append] at el;have:=List.append_inj_right' el rfl
    injection this with e1
    exact congrArg Prod.snd e1
  have qL:IsQ H3 tL.2.2 (toQ tL.2.1):=(hql tL (by rw [em];simp)).keep tp3;refine⟨_,rfl,_,rfl,.inl ⟨d,_,-1,tL.2.2,rfl,rfl,SqL.of h5,?_,?_⟩⟩
  ·rw [em,map_append];exact zEQ _ _
  refine⟨_,rfl,d,_,_,rfl,h5,hqs,ner,fits,fun v1 r1 q1 m1' le1=>?_⟩;refine⟨_,rfl,d,_,_,rfl,h5,hqs,ner,fits,fun v2 r2 q2 m2' le2=>?_⟩;refine⟨(by show 3≤sizeLine;decide),fun l hl=>?_⟩;have k4:Kp [] H (upd H3 l (.lst [tL.2.2,v1,v2])):=k13.upd (.inr (k13.none hl (by simp)));have t4:jd H3 (upd H3 l (.lst [tL.2.2,v1,v2])):=jd.new hl;refine⟨l,_,[((toQ tL.2.1).num,((toQ tL.2.1).den:Int)),((toQ r1).num,((toQ r1).den:Int)),((toQ r2).num,((toQ r2).den:Int))],rfl,zA,.cons (qL.keep t4) (.cons (q1.keep t4) (.cons (q2.keep t4) .nil)),(by show 3<100;decide),fun H5 t h6 h6n k5=>?_⟩;have k15:=Kp.trans k4 k5;have tH:H t=none:=k4.none h6n (by simp);have hbk5:=k15 _ _ hbk (by simp);refine⟨_,rfl,.inl ⟨rfl,_,SqL.of h6⟩,_,rfl,t,_,_,rfl,rfl,h6,(by show 6<sizeLine;decide),?_⟩;have k6:=k15.upd (a:=t) (o:=HO.lst ((([((toQ tL.2.1).num,((toQ tL.2.1).den:Int)),((toQ r1).num,((toQ r1).den:Int)),((toQ r2).num,((toQ r2).den:Int))].flatMap fun p=>[p.1,p.2]).map V.int)++[V.int (integral b (b.value j))])) (.inr tH);have h7:upd H5 t (HO.lst ((([((toQ tL.2.1).num,((toQ tL.2.1).den:Int)),((toQ r1).num,((toQ r1).den:Int)),((toQ r2).num,((toQ r2).den:Int))].flatMap fun p=>[p.1,p.2]).map V.int)++[V.int (integral b (b.value j))])) t=some (.lst ((shownQ (toQ tL.2.1)++(shownQ (toQ r1)++shownQ (toQ r2))++[integral b (b.value j)]).map V.int)):=zA;generalize upd H5 t (HO.lst ((([((toQ tL.2.1).num,((toQ tL.2.1).den:Int)),((toQ r1).num,((toQ r1).den:Int)),((toQ r2).num,((toQ r2).den:Int))].flatMap fun p=>[p.1,p.2]).map V.int)++[V.int (integral b (b.value j))]))=H6 at k6 h7 ⊢;have hbk6:=k6 _ _ hbk (by simp);have c1:=ok.clock;unfold BIG at c1;have cs:=ok.since
  have dif:((b.clock:Int)-(b.since:Int)).natAbs<2 ^ 64:=by omega
  refine⟨_,rfl,.inl ⟨rfl,_,SqL.of h7⟩,_,rfl,_,rfl,L.bk,CB,dxb,_,_,rfl,hbk6,T.clBook,T.b1,bf1,_,rfl,L.bk,CB,dxb,_,_,rfl,hbk6,T.clBook,T.b2,bf2,_,_,rfl,rfl,_,_,rfl,rfl,zBC (k:=64) (l:=64) (by decide) dif,integral b (b.value j),1000*(b.clock-b.since),?_,?_,fun qq hqq=>?_⟩
  ·rw [natCast_mul,ofNat_sub cs];rfl
  ·have:1000*(b.clock-b.since)<2 ^ 80:=by omega
   exact lt_of_lt_of_le (kH this (by decide)) (by decide)
  have ntq:t≠qq:=zF h7 hqq;refine⟨t,qq,_,_,rfl,rfl,by rw [zD ntq];exact h7,SqT.of zA,(by show 9≤sizeLine;decide),_,rfl,k _ t ?_ tH ((k6.upd (.inr (k6.none hqq (by simp)))).upd (.inr tH))⟩
  have ea:ans 19 b [(j:Int)]=Vbdeai.valueReport b (b.value j):=by
   show(if okK (j:Int)=true then _ else _)=_;rw [if_pos (show okK (j:Int)=true from hrg0)];rfl
  have vl:(valueLine b (b.value j)).map (fun s=>((1:Nat),s.2))=(m.map fun t=>((1:Nat),t.2.1)).map fun s=>(s.1,toQ s.2):=by
   rw [show valueLine b (b.value j)=wT b.since (b.value j) from rfl,← LI.eq,map_map,map_map];rfl
  have eL:Vbdeai.least ((valueLine b (b.value j)).map fun s=>((1:Nat),s.2))=toQ r1:=by
   rw [vl];refine zEI ?_ fun x hx=>?_
   ·obtain⟨t,ht,e⟩:=List.mem_map.mp m1';exact⟨(1,t.2.1),List.mem_map.mpr ⟨t,ht,rfl⟩,e⟩
   ·obtain⟨t,ht,rfl⟩:=List.mem_map.mp hx;exact le1 _ (List.mem_map.mpr ⟨t,ht,rfl⟩)
  have eM:Vbdeai.most ((valueLine b (b.value j)).map fun s=>((1:Nat),s.2))=toQ r2:=by
   rw [vl];refine zJB ?_ fun x hx=>?_
   ·obtain⟨t,ht,e⟩:=List.mem_map.mp m2';exact⟨(1,t.2.1),List.mem_map.mpr ⟨t,ht,rfl⟩,e⟩
   ·obtain⟨t,ht,rfl⟩:=List.mem_map.mp hx;exact le2 _ (List.mem_map.mpr ⟨t,ht,rfl⟩)
  rw [zA,ea];unfold Vbdeai.valueReport;dsimp only;rw [eL,eM,← etL]
  have e0:(if b.clock=b.since then Vbdeai.Q.zero else Vbdeai.Q.of (integral b (b.value j)) (1000*(b.clock-b.since)))=(if 1000*(b.clock-b.since)=0 then Vbdeai.Q.zero else Vbdeai.Q.of (integral b (b.value j)) (1000*(b.clock-b.since))):=by
   by_cases z:b.clock=b.since
   ·rw [if_pos z,if_pos (by omega)]
   ·rw [if_neg z,if_neg (by omega)]
  rw [e0];rfl
end
end Mb
namespace Mb
open PySem PySem.Spec PyProof.Rows L2
theorem zO1 {m:List Tly}(h:∀ b∈m,zNy b) (n:m≠[]):0<zH2 m:=by
 cases m with
 | nil=>exact absurd rfl n
 | cons t m =>
  have g:∀ m':List Tly,0≤zH2 m':=by
   intro m'
   induction m' with
   | nil=>exact Int.le_refl _
   | cons u m' ih=>show 0≤((u::m').map fun b=>(b.1:Int)).sum;rw [map_cons,sum_cons];unfold zH2 at ih;omega
  have:=g m;have t1:=(h t mem_cons_self).1;show 0<((t::m).map fun b=>(b.1:Int)).sum;rw [map_cons,sum_cons];unfold zH2 at this;omega
theorem zP5 {m:List Tly}(h:∀ b∈m,zNy b):zH2 m≤m.length*1000000000:=by
 induction m with
 | nil=>exact Int.le_refl _
 | cons t m ih =>
  have:=ih fun b hb=>h b (mem_cons_of_mem _ hb);have t1:=(h t mem_cons_self).2.1;show((t::m).map fun b=>(b.1:Int)).sum≤_;rw [map_cons,sum_cons,length_cons];unfold zH2 at this;omega
section
variable {P:Program}{w:World}{K:W.Frag}{mg:Str→Option Value}{base:Heap}{CB CM CT:Addr}
theorem zO2:(([((0:Int),(1:Int)),(0,1),(0,1),(0,1),(0,1),(0,1)].flatMap fun p=>[p.1,p.2]))=[0,1,0,1,0,1,0,1,0,1,0,1]:=rfl
theorem zLo (p:Addr):(List.replicate (6:Int).toNat [V.ref p]).flatten=[V.ref p,V.ref p,V.ref p,V.ref p,V.ref p,V.ref p]:=rfl
theorem zAv:zL ["book","numbers","table","weight","values","first","second","mean","variance","tally"] ["book","numbers"] (zE vM):=by trivial
theorem zCw (T:TX K mg CB CM CT) (zr:Has P w K mg base "lowest" 2 ["num","den"] vW) (zHH:Has P w K mg base "minus" 3 ["first","second"] zKE) (zE6:Has P w K mg base "square" 1 ["fraction"] zHy) (zBK:Has P w K mg base "least_of" 2 ["fractions"] zGv) (xA:Has P w K mg base "greatest_of" 2 ["fractions"] zBE)
  (kO:Has P w K mg base "numbers_of" 1 ["fractions"] zH0) (vk:ve P w K mg base CT "weight_in_all" 1 ["self"] (zKI CT)) (zHI:ve P w K mg base CT "first_sum" 4 ["self"] (zMQ CT)) (zGI:ve P w K mg base CT "second_sum" 4 ["self"] (zMR CT)):zAA P w K mg base ["book","numbers","table","weight","values","first","second","mean","variance","tally"] "tell_table" vM 4 (wW CB CM CT 15):=by
 have nd:=zAv.nd;rintro f cdv A outer s H vs Q E hr ⟨L,b,nl,ns,n,rfl,B,ok,hn,hnl,hrg,k⟩
 obtain⟨k0,rfl⟩:=ln1 (zJH hrg);have hrg0:=hrg
 ·
  have hrg:=hrg0;simp only [rg,okK,zm] at hrg;obtain⟨j,rfl⟩:∃ j:Nat,k0=(j:Int):=⟨k0.toNat,by omega⟩
  have hj:j<64:=by omega
  obtain⟨dxb,hbk⟩:=B.bk
  have ea:ans 15 b [(j:Int)]=if(b.table j).classes=0 then [-8] else tableReport (b.table j):=by
   show(if(okK (j:Int)&&true)=false then [-1] else if(b.table (j:Int).toNat).classes=0 then [-8] else _)=_;rw [show okK (j:Int)=true from hrg0,if_neg (by decide),toNat_natCast]
  rw [ea] at k;refine⟨_,(zC (zU (i:=2) nd rfl (Or.inl rfl) (zN zK (zO (pv 0) rfl) (zN zK (pv 1) zH (fun _ _=>rfl)) (fun _ _=>rfl))) (zC (kj (wc (zCK (pv 2))) (zI (zP (jO (zB (zn T.cNO_LIKE_TABLE) zG)))) jM) (zC (kj (jl zGa (zh jN (by rfl) T.n_len boot_len (zB (zO (pv 2) rfl) zG)) zH (jc _)) (zI (zP (jI zFb (jO (zB zH (zB zH zG))) (vO kO (hr.mono (by decide)) (zB (jI zOX (jO (zB (kM (zB zH (zB zH zG))) zG)) zH) zG))))) jM) (zC (zU (i:=3) nd rfl (Or.inl rfl) (yp T.clTable vk (hr.mono (by decide)) (pv 2))) (zC (yk (i:=4) (own:=[("tally",9)]) rfl nd rfl rfl (w8 rfl rfl rfl rfl) (jF (zO (pv 2) rfl)) (zx (by show zBb ["book","numbers","table","weight","values","first","second","mean","variance","tally"] (zE vM) _ _=true;decide +kernel)) (fun _ _ _ _ _=>(zS (i:=9) nd rfl (Or.inl rfl))) (fun _ _ _ _ _=>jm) (fun _ _ _ _ _=>(zN (jg K rfl) (pv 9) zH (fun _ _=>rfl)))) (zC (zU (i:=5) nd rfl (Or.inl rfl) (yp T.clTable zHI (hr.mono (by decide)) (pv 2))) (zC (zU (i:=6) nd rfl (Or.inl rfl) (yp T.clTable zGI (hr.mono (by decide)) (pv 2))) (zC (zU (i:=7) nd rfl (Or.inl rfl) (vO zr (hr.mono (by decide)) (zB (zN zK (pv 5) zH (fun _ _=>rfl)) (zB (jI jG (zN zK (pv 5) zH (fun _ _=>rfl)) (pv 3)) zG)))) (zC (zU (i:=8) nd rfl (Or.inl rfl) (vO zHH (hr.mono (by decide)) (zB (vO zr (hr.mono (by decide)) (zB (zN zK (pv 6) zH (fun _ _=>rfl)) (zB (jI jG (zN zK (pv 6) zH (fun _ _=>rfl)) (pv 3)) zG))) (zB (vO zE6 (hr.mono (by decide)) (zB (pv 7) zG)) zG)))) (zI (zP (jI zFb (jO (zB (zh jN (by rfl) T.n_len boot_len (zB (pv 4) zG)) (zB (pv 3) zG))) (vO kO (hr.mono (by decide)) (zB (jO (zB (pv 5) (zB (pv 6) (zB (vO zBK (hr.mono (by decide)) (zB (pv 4) zG)) (zB (vO xA (hr.mono (by decide)) (zB (pv 4) zG)) (zB (pv 7) (zB (pv 8) zG))))))) zG)))))))))))))),?_⟩;refine⟨_,rfl,L.bk,CB,dxb,_,_,rfl,hbk,T.clBook,T.b4,bf4,_,rfl,.inl ⟨nl,_,0,.int (j:Int),rfl,rfl,SqL.of hnl,rfl,.inl ⟨L.lt,_,_,_,rfl,rfl,SqL.of B.lt,zG0 hj,?_⟩⟩⟩;by_cases hc:(b.table j).classes=0
  ·rw [if_pos hc] at k ⊢;refine⟨_,rfl,_,rfl,yc ⟨(by show 1≤sizeLine;decide),fun q hq=>k _ q ?_ hq (Kp.refl.upd (.inr hq))⟩⟩;exact zA
  ·rw [if_neg hc] at k ⊢;obtain⟨lo,wi,m,m0,TA⟩:=zH5 B ok hn hj hc;obtain⟨dx,l,xs,ha,hl,hM,hm,hok⟩:=TA.tab;have lx:xs.length=m.length:=jK hM;refine⟨_,rfl,_,rfl,ym ⟨_,rfl,L.t j,CT,dx,_,_,rfl,ha,T.clTable,T.t4,tf4,l,xs,rfl,.inl (SqL.of hl),rfl,_,rfl,?_⟩⟩;by_cases he:m=[]
   ·
    have x0:xs.length=0:=by rw [lx,he];rfl
    rw [x0]
    have s0:(b.table j).seen=[]:=by
     have:=TA.len;rw [he] at this;exact eq_nil_of_length_eq_zero this.symm
    refine yc ⟨(by show 2≤sizeLine;decide),fun p1 hp1=>?_⟩;refine⟨(by show 2≤sizeLine;decide),fun p2 hp2=>⟨(by show 1≤sizeLine;decide),fun p3 hp3=>?_⟩⟩;refine⟨p3,6,_,rfl,rfl,zA,by decide,by decide,(by show 6≤sizeLine;decide),fun p4 hp4=>?_⟩;rw [zLo];have a1:Kp [] H (upd H p1 (.lst [.int 0,.int 0])):=Kp.refl.upd (.inr hp1);have a2:=a1.upd (a:=p2) (o:=HO.tup [.int 0,.int 1]) (.inr (a1.none hp2 (by simp)));have a3:=a2.upd (a:=p3) (o:=HO.lst [.ref p2]) (.inr (a2.none hp3 (by simp)));have a4:=a3.upd (a:=p4) (o:=HO.lst [.ref p2,.ref p2,.ref p2,.ref p2,.ref p2,.ref p2]) (.inr (a3.none hp4 (by simp)));have g1:upd H p1 (.lst [.int 0,.int 0]) p1=some (.lst [.int 0,.int 0]):=zA
    have g1':upd (upd H p1 (.lst [.int 0,.int 0])) p2 (.tup [.int 0,.int 1]) p1=some (.lst [.int 0,.int 0]):=by rw [zD (zF g1 hp2)];exact g1
    have g2:upd (upd H p1 (.lst [.int 0,.int 0])) p2 (.tup [.int 0,.int 1]) p2=some (.tup [.int 0,.int 1]):=zA
    have h1':upd (upd (upd H p1 (.lst [.int 0,.int 0])) p2 (.tup [.int 0,.int 1])) p3 (.lst [.ref p2]) p1=some (.lst [.int 0,.int 0]):=by rw [zD (zF g1' hp3)];exact g1'
    have h2':upd (upd (upd H p1 (.lst [.int 0,.int 0])) p2 (.tup [.int 0,.int 1])) p3 (.lst [.ref p2]) p2=some (.tup [.int 0,.int 1]):=by rw [zD (zF g2 hp3)];exact g2
    generalize upd (upd (upd H p1 (.lst [.int 0,.int 0])) p2 (.tup [.int 0,.int 1])) p3 (.lst [.ref p2])=H3 at a4 h1' h2' hp4 ⊢
    have c2:upd H3 p4 (.lst [.ref p2,.ref p2,.ref p2,.ref p2,.ref p2,.ref p2]) p2=some (.tup [.int 0,.int 1]):=by rw [zD (zF h2' hp4)];exact h2'
    have c1:upd H3 p4 (.lst [.ref p2,.ref p2,.ref p2,.ref p2,.ref p2,.ref p2]) p1=some (.lst [.int 0,.int 0]):=by rw [zD (zF h1' hp4)];exact h1'
    have pr:zA8 (upd H3 p4 (.lst [.ref p2,.ref p2,.ref p2,.ref p2,.ref p2,.ref p2])) (.ref p2) 0 1:=⟨p2,rfl,c2⟩;refine⟨p4,_,[(0,1),(0,1),(0,1),(0,1),(0,1),(0,1)],rfl,zA,.cons pr (.cons pr (.cons pr (.cons pr (.cons pr (.cons pr .nil))))),(by show 6<100;decide),fun H5 q h5 h5n k5=>?_⟩;have k6:=Kp.trans a4 k5;refine⟨p1,q,_,_,rfl,rfl,k5 _ _ c1 (by simp),h5,(by show 2+12≤sizeLine;decide),fun z hz=>?_⟩;have hzH:H z=none:=k6.none hz (by simp);refine k _ z ?_ hzH (k6.upd (.inr hzH));rw [zA,zO2];unfold tableReport;rw [s0];rfl
   ·
    have xn:xs.length≠0:=by
     rw [lx];exact fun z=>he (eq_nil_of_length_eq_zero z)
    rw [decide_eq_false (fun z=>xn (by injection z with z;omega))];refine ym ⟨_,rfl,L.t j,dx,_,rfl,ha,tn4,L.t j,_,lo,wi,m,rfl,TA.tab,fun H1 k1=>?_⟩;obtain⟨W,hW⟩:∃ W:Nat,zH2 m=(W:Int):=⟨(zH2 m).toNat,by have:=zO1 hok he;omega⟩
    have W0:0<W:=by have:=zO1 hok he;omega
    have W1:W<2 ^ 64:=by have:=zP5 hok;omega
    have eW:weight (b.table j).seen=W:=by
     have:=TA.weight;omega
    rw [hW];have ha1:=k1 _ _ ha (by simp);have hl1:=k1 _ _ hl (by simp);have hM1:Paired (Tl H1) xs m:=Paired.mapP hM fun _ _ q=>q.keep (k1.tups (by simp));refine⟨_,rfl,L.t j,CT,dx,_,_,rfl,ha1,T.clTable,T.t4,tf4,l,rfl,⟨_,SqL.of hl1⟩,fun d hD=>?_⟩;refine yM (K:=K) (m:=m) (fun t=>some t.2.2) hl1 hM1 hm hD ?_ ?_
    ·rintro x t H' ⟨q,rfl,hq,_⟩ mt kp Yes No yes _;exact⟨rfl,_,rfl,.inr (.inl ⟨q,_,1,t.2.2,rfl,rfl,SqT.of (kp _ _ hq (by simp)),rfl,yes _ rfl⟩)⟩
    rintro H2 h2 k2;rw [show m.filterMap (fun t=>some t.2.2)=m.map fun t=>t.2.2 from by rw [filterMap_eq_map']] at h2;have k12:=Kp.trans k1 k2;have T2:=TA.tab.keep k12;have ha2:=k12 _ _ ha (by simp);refine⟨_,rfl,L.t j,dx,_,rfl,ha2,tn7,L.t j,_,lo,wi,m,rfl,T2,fun H3 v1 r1 q1 e1 n1 d1 k3=>?_⟩;have k13:=Kp.trans k12 k3;refine⟨_,rfl,L.t j,dx,_,rfl,k13 _ _ ha (by simp),tn8,L.t j,_,lo,wi,m,rfl,TA.tab.keep k13,fun H4 v2 r2 q2 e2 n2 d2 k4=>?_⟩;have k14:=Kp.trans k13 k4;have t34:jd H3 H4:=k4.tups (by simp);obtain⟨p1,rfl,g1⟩:=q1.keep t34;obtain⟨p2,rfl,g2⟩:=q2;have k14':=k14;have dl1:r1.den<2 ^ 1440:=lt_of_le_of_lt (le_of_dvd (pos_of_ne_zero vE) d1) wB;have dl2:r2.den<2 ^ 3000:=lt_of_le_of_lt (le_of_dvd (pos_of_ne_zero (Nat.mul_ne_zero vE vE)) d2) zOx;have rp1:0<r1.den:=pos_of_ne_zero r1.den_nz;have rp2:0<r2.den:=pos_of_ne_zero r2.den_nz
    have Wi:((W:Nat):Int).natAbs<2 ^ 64:=by rw [natAbs_natCast];exact W1
    have i1:(((toQ r1).den:Nat):Int).natAbs<2 ^ 1440:=by rw [natAbs_natCast];exact dl1
    have i2:(((toQ r2).den:Nat):Int).natAbs<2 ^ 3000:=by rw [natAbs_natCast];exact dl2
    have dW1:r1.den*W<2 ^ 1504:=by
     rw [show(1504:Nat)=1440+64 from rfl,pow_add];exact mul_lt_mul'' dl1 W1
    have dW2:r2.den*W<2 ^ 3064:=by
     rw [show(3064:Nat)=3000+64 from rfl,pow_add];exact mul_lt_mul'' dl2 W1
    have pW1:0<r1.den*W:=mul_pos rp1 W0;have pW2:0<r2.den*W:=mul_pos rp2 W0;refine⟨_,rfl,.inr (.inl ⟨p1,_,0,.int (toQ r1).num,rfl,rfl,SqT.of g1,rfl,_,rfl,.inr (.inl ⟨p1,_,1,.int ((toQ r1).den:Int),rfl,rfl,SqT.of g1,rfl,_,rfl,_,_,rfl,rfl,zBC i1 Wi,?_⟩)⟩)⟩;refine⟨(toQ r1).num,r1.den*W,by rw [natCast_mul];rfl,pW1,lt_of_lt_of_le (kH dW1 (by decide)) (by decide),fun p3 hp3=>?_⟩;rw [xV _ (ne_of_gt pW1)];generalize hrm:mkRat (toQ r1).num (r1.den*W)=rm;have rmS:=zAP (n:=(toQ r1).num) (ne_of_gt pW1);rw [hrm] at rmS;have c45:Kp [] H4 (upd H4 p3 (qT (toQ rm))):=Kp.refl.upd (.inr hp3);have f3:upd H4 p3 (qT (toQ rm)) p3=some (qT (toQ rm)):=zA;generalize upd H4 p3 (qT (toQ rm))=H5 at c45 f3 ⊢;have f2:=c45 _ _ g2 (by simp);refine⟨_,rfl,.inr (.inl ⟨p2,_,0,.int (toQ r2).num,rfl,rfl,SqT.of f2,rfl,_,rfl,.inr (.inl ⟨p2,_,1,.int ((toQ r2).den:Int),rfl,rfl,SqT.of f2,rfl,_,rfl,_,_,rfl,rfl,zBC i2 Wi,?_⟩)⟩)⟩;refine⟨(toQ r2).num,r2.den*W,by rw [natCast_mul];rfl,pW2,lt_of_lt_of_le (kH dW2 (by decide)) (by decide),fun p4 hp4=>?_⟩;rw [xV _ (ne_of_gt pW2)];generalize hrx:mkRat (toQ r2).num (r2.den*W)=rx;have rxS:=zAP (n:=(toQ r2).num) (ne_of_gt pW2);rw [hrx] at rxS;have c56:Kp [] H5 (upd H5 p4 (qT (toQ rx))):=Kp.refl.upd (.inr hp4);have u4:upd H5 p4 (qT (toQ rx)) p4=some (qT (toQ rx)):=zA;generalize upd H5 p4 (qT (toQ rx))=H6 at c56 u4 ⊢;have u3:=c56 _ _ f3 (by simp);have rmN:(toQ rm).num.natAbs<2 ^ 4000:=lt_of_le_of_lt rmS.1 (lt_of_lt_of_le n1 (pow_le_pow_right (by decide) (by decide)));have rmD:rm.den<2 ^ 1504:=lt_of_le_of_lt rmS.2 dW1;refine⟨_,rfl,.ref p3,(toQ rm).num,rm.den,rfl,⟨p3,rfl,u3⟩,⟨rmN,lt_of_lt_of_le rmD (pow_le_pow_right (by decide) (by decide))⟩,fun p5 hp5=>?_⟩;have c67:Kp [] H6 (upd H6 p5 (.tup [.int ((toQ rm).num*(toQ rm).num),.int ((rm.den*rm.den:Nat):Int)])):=Kp.refl.upd (.inr hp5);have w5:upd H6 p5 (.tup [.int ((toQ rm).num*(toQ rm).num),.int ((rm.den*rm.den:Nat):Int)]) p5=some (.tup [.int ((toQ rm).num*(toQ rm).num),.int ((rm.den*rm.den:Nat):Int)]):=zA;generalize upd H6 p5 (.tup [.int ((toQ rm).num*(toQ rm).num),.int ((rm.den*rm.den:Nat):Int)])=H7 at c67 w5 ⊢;have w4:=c67 _ _ u4 (by simp);have rmp:0<rm.den:=pos_of_ne_zero rm.den_nz;have rn2:((toQ rm).num*(toQ rm).num).natAbs<2 ^ 9000:=zBD (yN rmN rmN) (by decide)
    have rd2:rm.den*rm.den<2 ^ 4000:=by
     have:=mul_lt_mul'' rmD rmD;rw [← pow_add] at this;exact lt_of_lt_of_le this (pow_le_pow_right (by decide) (by decide))
    have rxN:(toQ rx).num.natAbs<2 ^ 9000:=lt_of_le_of_lt rxS.1 (lt_of_lt_of_le n2 (pow_le_pow_right (by decide) (by decide)));have rxD:rx.den<2 ^ 4000:=lt_of_lt_of_le (lt_of_le_of_lt rxS.2 dW2) (pow_le_pow_right (by decide) (by decide));refine⟨.ref p4,.ref p5,(toQ rx).num,(toQ rm).num*(toQ rm).num,rx.den,rm.den*rm.den,rfl,⟨p4,rfl,w4⟩,⟨p5,rfl,w5⟩,pos_of_ne_zero rx.den_nz,mul_pos rmp rmp,⟨rxN,rxD,rn2,rd2⟩,fun p6 hp6=>?_⟩
    have evar:mkRat (toQ rx).num rx.den-mkRat ((toQ rm).num*(toQ rm).num) (rm.den*rm.den)=rx-rm*rm:=by
     rw [show mkRat (toQ rx).num rx.den=rx from yd rx];congr 1
     conv=>rhs;rw [← yd rm]
     rw [Rat.mkRat_mul_mkRat];rfl
    rw [evar];have c78:Kp [] H7 (upd H7 p6 (qT (toQ (rx-rm*rm)))):=Kp.refl.upd (.inr hp6);have y6:upd H7 p6 (qT (toQ (rx-rm*rm))) p6=some (qT (toQ (rx-rm*rm))):=zA;generalize upd H7 p6 (qT (toQ (rx-rm*rm)))=H8 at c78 y6 ⊢;have c58:=Kp.trans c56 (Kp.trans c67 c78);have c48:=Kp.trans c45 c58;have k8:=Kp.trans k14 c48;have y1:=c48 _ _ g1 (by simp);have y2:=c48 _ _ g2 (by simp);have y3:=c58 _ _ f3 (by simp);have y0:H8 d=some (.lst (m.map fun t=>t.2.2)):=c48 _ _ (k4 _ _ (k3 _ _ h2 (by simp)) (by simp)) (by simp);have tp8:jd H H8:=k8.tups (by simp)
    have hqs:Qs H8 (m.map fun t=>t.2.2) (m.map fun t=>t.2.1):=by
     have:∀ m':List Tly,(∀ t∈m',IsQ H t.2.2 (toQ t.2.1))→Qs H8 (m'.map fun t=>t.2.2) (m'.map fun t=>t.2.1):=by
      intro m'
      induction m' with
      | nil=>intro _;exact .nil
      | cons t m' ih=>intro h;exact .cons ((h t mem_cons_self).keep tp8) (ih fun u hu=>h u (mem_cons_of_mem _ hu))
     exact this m (zNz hM)
    have fits:∀ r∈m.map (fun t=>t.2.1),Fit r:=fun r hr=>by
     obtain⟨t,ht,rfl⟩:=List.mem_map.mp hr;exact(hok t ht).fit
    have ner:m.map (fun t=>t.2.1)≠[]:=fun z=>he (List.map_eq_nil_iff.mp z);refine⟨_,rfl,d,_,rfl,.inl (SqL.of y0),_,rfl,(by show 2≤sizeLine;decide),fun p7 hp7=>?_⟩;rw [length_map];have c89:Kp [] H8 (upd H8 p7 (.lst [.int ((m.length:Nat):Int),.int (W:Int)])):=Kp.refl.upd (.inr hp7);have z7:upd H8 p7 (.lst [.int ((m.length:Nat):Int),.int (W:Int)]) p7=some (.lst [.int ((m.length:Nat):Int),.int (W:Int)]):=zA;generalize upd H8 p7 (.lst [.int ((m.length:Nat):Int),.int (W:Int)])=H9 at c89 z7 ⊢;have k9:=Kp.trans k8 c89;have z0:=c89 _ _ y0 (by simp);have hqs9:=hqs.keep (c89.tups (by simp));refine⟨_,rfl,_,rfl,_,rfl,d,_,_,rfl,z0,hqs9,ner,fits,fun v1 s1 b1 m1 l1=>?_⟩;refine⟨_,rfl,d,_,_,rfl,z0,hqs9,ner,fits,fun v2 s2 b2 m2 l2=>?_⟩;refine⟨_,rfl,_,rfl,(by show 6≤sizeLine;decide),fun p8 hp8=>?_⟩;have c9a:Kp [] H9 (upd H9 p8 (.lst [.ref p1,.ref p2,v1,v2,.ref p3,.ref p6])):=Kp.refl.upd (.inr hp8);have t9a:=c9a.tups (by simp);have x8:upd H9 p8 (.lst [.ref p1,.ref p2,v1,v2,.ref p3,.ref p6]) p8=some (.lst [.ref p1,.ref p2,v1,v2,.ref p3,.ref p6]):=zA;generalize upd H9 p8 (.lst [.ref p1,.ref p2,v1,v2,.ref p3,.ref p6])=Ha at c9a t9a x8 ⊢;have c8a:=Kp.trans c89 c9a;have ka:=Kp.trans k8 c8a
    refine⟨p8,_,[((toQ r1).num,((toQ r1).den:Int)),((toQ r2).num,((toQ r2).den:Int)),((toQ s1).num,((toQ s1).den:Int)),((toQ s2).num,((toQ s2).den:Int)),((toQ rm).num,((toQ rm).den:Int)),((toQ (rx-rm*rm)).num,((toQ (rx-rm*rm)).den:Int))],rfl,x8,
     .cons ⟨p1,rfl,c8a _ _ y1 (by simp)⟩ (.cons ⟨p2,rfl,c8a _ _ y2 (by simp)⟩ (.cons (b1.keep t9a) (.cons (b2.keep t9a) (.cons ⟨p3,rfl,c8a _ _ y3 (by simp)⟩ (.cons ⟨p6,rfl,c8a _ _ y6 (by simp)⟩ .nil))))),(by show 6<100;decide),fun Hb q hb hbn kb=>?_⟩
    have kB:=Kp.trans ka kb;refine⟨p7,q,_,_,rfl,rfl,kb _ _ (c9a _ _ z7 (by simp)) (by simp),hb,(by show 2+12≤sizeLine;decide),fun z hz=>?_⟩;have hzH:H z=none:=kB.none hz (by simp);refine k _ z ?_ hzH (kB.upd (.inr hzH))
    have eT:Vbdeai.total (b.table j).seen=toQ r1:=by
     rw [TA.seen,show qs m0=m0.map (fun s=>(s.1,toQ s.2)) from rfl,zJC,e1];congr 1;exact(TA.sumR fun s=>(s.1:Rat)*s.2).symm
    have eS:Vbdeai.squares (b.table j).seen=toQ r2:=by
     rw [TA.seen,show qs m0=m0.map (fun s=>(s.1,toQ s.2)) from rfl,zGQ,e2];congr 1;exact(TA.sumR fun s=>(s.1:Rat)*(s.2*s.2)).symm
    have mm:∀ r,r∈m.map (fun t=>t.2.1)↔∃ x∈m0,x.2=r:=fun r=>by
     rw [List.mem_map];constructor
     ·rintro⟨t,ht,rfl⟩;refine⟨two t,?_,rfl⟩;rw [← mem_reverse,← TA.rev];exact List.mem_map.mpr ⟨t,ht,rfl⟩
     ·rintro⟨x,hx,rfl⟩;rw [← mem_reverse,← TA.rev] at hx;obtain⟨t,ht,rfl⟩:=List.mem_map.mp hx;exact⟨t,ht,rfl⟩
    have eL:Vbdeai.least (b.table j).seen=toQ s1:=by
     rw [TA.seen];exact zEI ((mm s1).mp m1) fun x hx=>l1 x.2 ((mm x.2).mpr ⟨x,hx,rfl⟩)
    have eG:Vbdeai.most (b.table j).seen=toQ s2:=by
     rw [TA.seen];exact zJB ((mm s2).mp m2) fun x hx=>l2 x.2 ((mm x.2).mpr ⟨x,hx,rfl⟩)
    have W0':weight (b.table j).seen≠0:=by omega
    have eM:Vbdeai.mean (b.table j).seen=toQ rm:=by
     unfold Vbdeai.mean;rw [if_neg W0',eT,eW,← hrm];exact xV _ (ne_of_gt pW1)
    have eV:Vbdeai.variance (b.table j).seen=toQ (rx-rm*rm):=by
     unfold Vbdeai.variance;rw [if_neg W0',eS,eM,eW,zEG,show(toQ r2).over W=toQ rx from by rw [← hrx];exact xV _ (ne_of_gt pW2),zI5]
    rw [zA];unfold tableReport;rw [eT,eS,eL,eG,eM,eV,eW,← TA.len];rfl
end
end Mb
namespace L2
open PySem PySem.Spec PyProof.Rows
def xj (k:Nat):Obj:={ cls := .type "tuple",data := .seq (List.replicate k Value.none).toArray 0 }
def vC (h:Heap) (rk:Addr→Option Nat):Heap:=⟨(Array.range h.objs.size).map fun a=>match rk a with | some k=>xj k | none=>{ cls := .type "tuple",data := .freed },h.life⟩
theorem zCx {h:Heap}{rk:Addr→Option Nat}{a:Addr}{k:Nat}(ha:a<h.objs.size) (e:rk a=some k):(vC h rk).get? a=some (xj k):=by
 have q:(vC h rk).objs[a]? = some (xj k):=by
  show((Array.range h.objs.size).map _)[a]? = _;rw [Array.getElem?_map,Array.getElem?_range,if_pos ha]
  show some (match rk a with | some k=>xj k | none=>_)=_
  rw [e]
 unfold Heap.get?;rw [q];rfl
theorem zH6 {h:Heap}{rk:Addr→Option Nat}{a:Addr}{o:Obj}(e:(vC h rk).get? a=some o):∃ k,rk a=some k∧o=xj k:=by
 by_cases ha:a<h.objs.size
 ·cases hk:rk a with
  | some k =>
   rw [zCx ha hk] at e;exact⟨k,rfl,(Option.some.inj e).symm⟩
  | none =>
   exfalso
   have q:(vC h rk).objs[a]? = some { cls := .type "tuple",data := .freed }:=by
    show((Array.range h.objs.size).map _)[a]? = _;rw [Array.getElem?_map,Array.getElem?_range,if_pos ha]
    show some (match rk a with | some k=>xj k | none=>_)=_
    rw [hk]
   unfold Heap.get? at e;rw [q] at e
   cases e
 ·exfalso
  have q:(vC h rk).objs[a]? = none:=by
   show((Array.range h.objs.size).map _)[a]? = _;rw [Array.getElem?_map,Array.getElem?_range,if_neg ha];rfl
  unfold Heap.get? at e;rw [q] at e
  cases e
@[reducible] def yw (rk:Addr→Option Nat):PyProof.Rows.KeyKind where
 α:=Nat
 blt a b:=decide (a<b)
 irrefl a:=decide_eq_false (lt_irrefl a)
 trans a b c h1 h2:=decide_eq_true (lt_trans (of_decide_eq_true h1) (of_decide_eq_true h2))
 negTrans a b c h:=by
  have:=of_decide_eq_true h;by_cases q:a<b
  ·exact .inl (decide_eq_true q)
  ·exact .inr (decide_eq_true (by omega))
 total a b h1 h2:=by
  have:=of_decide_eq_false h1;have:=of_decide_eq_false h2;omega
 keyOf v:=match v with | .ref a=>rk a | _=>none
 dflt:=0
theorem zF7 {rk:Addr→Option Nat}{v:Value}{k:Nat}(h:(yw rk).keyOf v=some k):∃ a,v = .ref a∧rk a=some k:=by
 cases v<;>first | exact⟨_,rfl,h⟩ | (exfalso;cases h)
section
variable {prog:Program}{w:World}{A:Around}{E:Value→Shared→Prop}{s:Shared}
theorem zO3 {Q:Bool→Shared→Prop}(h:Q true s):wpAny (model prog w) A (eqBool .none .none) Q E s:=by
 unfold eqBool;refine wpAny_holding ?_;show wpAny _ _ (if(Value.none==Value.none)=true then _ else _) Q E s;rw [if_pos (show(Value.none==Value.none)=true from rfl)];exact wpAny_bind (wpAny_rule (wpAny_pure h))
theorem zIo {M:Model}{Γ:PySem.Ctx}{Q:Bool→Pos→Shared→Prop}{E:Value→Pos→Shared→Prop}{p:Pos}(h:Sem.wp M Γ (eqBool .none .none) Q E p s):Q true p s:=by
 unfold eqBool at h;rw [Sem.wp_holding] at h;have h:Sem.wp M Γ (if(Value.none==Value.none)=true then _ else _) Q E p s:=h;rw [if_pos (show(Value.none==Value.none)=true from rfl)] at h;exact h
theorem zKM {b fin:Bool}{Q:Bool→Shared→Prop}(h:Q fin s):∀ (m n i:Nat),W.KatLex prog w A b fin Q ((List.replicate m Value.none).zip (List.replicate n Value.none)) i s
 | 0,n,i=>by rw [replicate_zero,List.zip_nil_left];exact W.kat_nil h
 | m+1,0,i=>by rw [replicate_zero,List.zip_nil_right];exact W.kat_nil h
 | m+1,n+1,i=>by
  rw [replicate_succ,replicate_succ,List.zip_cons_cons];exact W.kat_cons (zO3 (W.kat_yes (zKM h m n (i+1))))
theorem zKN {h:Heap}{rk:Addr→Option Nat}(hs:s.heap=vC h rk) (hb:∀ a k,rk a=some k→a<h.objs.size):G.LtAt prog w s (yw rk) (tuples' true):=by
 intro A E x y a b Q hx hy hq;obtain⟨ax,rfl,ex⟩:=zF7 hx;obtain⟨ay,rfl,ey⟩:=zF7 hy
 have h1:s.heap.get? ax=some (xj a):=by rw [hs];exact zCx (hb _ _ ex) ex
 have h2:s.heap.get? ay=some (xj b):=by rw [hs];exact zCx (hb _ _ ey) ey
 refine W.kat_lt h1 rfl h2 rfl ?_
 have e:decide ((List.replicate a Value.none).toArray.size<(List.replicate b Value.none).toArray.size)=decide (a<b):=by
  rw [size_toArray,size_toArray,length_replicate,length_replicate]
 rw [e];exact zKM hq a b 0
theorem zF8 {M:Model}{Γ:PySem.Ctx}{v:Value}{Q:Array Value→Pos→Shared→Prop}{E:Value→Pos→Shared→Prop}{p:Pos}(h:Sem.wp M Γ (Builtin.List.listItems v) Q E p s):∃ a o xs n,v = .ref a∧s.heap.get? a=some o∧o.data = .seq xs n∧Q xs p s:=by
 unfold Builtin.List.listItems at h;rw [Sem.wp_bind'] at h
 cases v with
 | ref a =>
  have h:Sem.wp M Γ (do match (← load a).data with | .seq xs _=>pure (some xs) | _=>pure none) (fun x p s=>Sem.wp M Γ (match x with | some xs=>pure xs | none=>unsupported "internal:list-without-items") Q E p s) E p s:=h
  rw [Sem.wp_bind'] at h;obtain⟨o,ho,h⟩:=(show ∃ o,s.heap.get? a=some o∧_ from h)
  cases hd:o.data with
  | seq xs n =>
   refine⟨a,o,xs,n,rfl,ho,hd,?_⟩
   have h:Sem.wp M Γ (match o.data with | .seq xs _=>pure (some xs) | _=>pure none) _ E p s:=h
   rw [hd] at h;exact h
  | _ =>
   exfalso
   have h:Sem.wp M Γ (match o.data with | .seq xs _=>pure (some xs) | _=>pure none) _ E p s:=h
   rw [hd] at h;exact h
 | builtin id =>
  exfalso
  have h:Sem.wp M Γ (do notAStandIn (.builtin id);pure none) (fun x p s=>Sem.wp M Γ (match x with | some xs=>pure xs | none=>unsupported "internal:list-without-items") Q E p s) E p s:=h
  rw [Sem.wp_bind'] at h;have h:Sem.wp M Γ (if(withoutEnding? id "#opaque").isSome then unsupported id else pure ()) _ E p s:=h;split at h
  ·exact h
  ·exact h
 | _=>exact absurd h (fun z=>z)
end
end L2
namespace L2
open PySem PySem.Spec PyProof.Rows
section
variable {prog:Program}{wd:World}{A:Around}{E:Value→Shared→Prop}{s:Shared}
def yY (prog:Program) (wd:World) (h:Heap) (a:Addr) (b:Int×Int×Int×Int):Prop:=∃ o t1 t2 v k,h.get? a=some o∧o.cls = .type "tuple"∧o.data = .seq #[.int b.1 t1,.int b.2.1 t2,.ref v] k∧IsTupleKey (PySem.intKind prog wd) h [b.2.2.1,b.2.2.2] v
theorem yY.keep {h h':Heap}{a:Addr}{b:Int×Int×Int×Int}(k:G.KeepsTups h h') (t:yY prog wd h a b):yY prog wd h' a b:=by
 obtain⟨o,t1,t2,v,n,h1,h2,h3,o2,it,n2,h4,h5,h6,h7⟩:=t;exact⟨o,t1,t2,v,n,k a o h1 h2,h2,h3,o2,it,n2,k v o2 h4 h5,h5,h6,h7⟩
theorem yY.uniq {h:Heap}{a:Addr}{b c:Int×Int×Int×Int}(x:yY prog wd h a b) (y:yY prog wd h a c):b.1=c.1∧b.2.1=c.2.1:=by
 obtain⟨o,t1,t2,v,n,h1,h2,h3,_⟩:=x;obtain⟨o',u1,u2,v',n',g1,g2,g3,_⟩:=y;rw [h1] at g1
 cases g1
 rw [h3] at g3
 injection g3 with g3
 have e:=congrArg Array.toList g3
 injection e with e1 e2
 injection e2 with e2 e3
 injection e1 with e1 _
 injection e2 with e2 _
 exact⟨e1,e2⟩
theorem zH7 {M:Model}{Γ:PySem.Ctx}{body:(Value×Value)×Nat→Option Bool×Unit→Sem (ForInStep (Option Bool×Unit))}(hb:∀ (i:Nat) (Q:ForInStep (Option Bool×Unit)→Pos→Shared→Prop) (E:Value→Pos→Shared→Prop) (p:Pos),Sem.wp M Γ (body ((.none,.none),i) (none,())) Q E p s→Q (.yield (none,())) p s) :
  ∀ (m n i:Nat){Q:Option Bool×Unit→Pos→Shared→Prop}{E:Value→Pos→Shared→Prop}{p:Pos},Sem.wp M Γ (forIn (((List.replicate m Value.none).zip (List.replicate n Value.none)).zipIdx i) (none,()) body) Q E p s→Q (none,()) p s
 | 0,n,i,Q,E,p,h=>by rw [replicate_zero,List.zip_nil_left,zipIdx_nil,forIn_nil] at h;exact h
 | m+1,0,i,Q,E,p,h=>by rw [replicate_zero,List.zip_nil_right,zipIdx_nil,forIn_nil] at h;exact h
 | m+1,n+1,i,Q,E,p,h=>by
  rw [replicate_succ,replicate_succ,List.zip_cons_cons,List.zipIdx_cons,forIn_cons,Sem.wp_bind'] at h;exact zH7 hb m n (i+1) (hb i _ E p h)
theorem zPq {Γ:PySem.Ctx}(hG:Γ.In A) (hu:A.units<cLine){rk:Addr→Option Nat}{tr:Addr→Int×Int×Int×Int}(ht:∀ a k,rk a=some k→yY prog wd s.heap a (tr a)) (ord:∀ a b k l,rk a=some k→rk b=some l→(k<l↔((tr a).1<(tr b).1∨((tr a).1=(tr b).1∧(tr a).2.1<(tr b).2.1))))
  (eqq:∀ a b k l,rk a=some k→rk b=some l→(tr a).1=(tr b).1→(tr a).2.2=(tr b).2.2):zCc (model prog wd) Γ (tuples' true) s { s with heap:=vC s.heap rk }:=by
 intro x y R E p p' h;rw [kat_lt_eq,Sem.wp_bind'] at h;obtain⟨a,o,xs,n,rfl,ho,hd,h⟩:=zF8 h;rw [Sem.wp_bind'] at h;obtain⟨b,o2,ys,n2,rfl,ho2,hd2,h⟩:=zF8 h;obtain⟨k,ek,rfl⟩:=zH6 ho;obtain⟨l,el,rfl⟩:=zH6 ho2
 have x1:(List.replicate k Value.none).toArray=xs:=by injection hd
 have y1:(List.replicate l Value.none).toArray=ys:=by injection hd2
 subst x1 y1;rw [Sem.wp_bind'] at h
 have fin:=zH7 (fun i Q E p hh=>by
  rw [Sem.wp_bind'] at hh;exact zIo hh) k l 0 h
 have fin:R (decide (k<l)) { s with heap:=vC s.heap rk }:=by
  have fin:R (decide ((List.replicate k Value.none).toArray.size<(List.replicate l Value.none).toArray.size)) { s with heap:=vC s.heap rk }:=fin;rw [size_toArray,size_toArray,length_replicate,length_replicate] at fin;exact fin
 have f:wpAny (model prog wd) A (keyLt' (tuples' true) (.ref a) (.ref b)) (fun r s1=>s1=s∧r=decide (k<l)) (fun _ _=>False) s:=by
  have od:=ord a b k l ek el;have ee:=eqq a b k l ek el;obtain⟨o1,t1,t2,v1,k1,g1,c1,d1,i1⟩:=ht a k ek;obtain⟨o2,u1,u2,v2,k2,g2,c2,d2,i2⟩:=ht b l el;refine W.kat_lt g1 d1 g2 d2 ?_;refine W.kat_cons (wpAny_eqBool_int (W.kat_go (fun e=>W.kat_yes ?_) fun e=>W.kat_no (oneLt_any_int ⟨rfl,?_⟩)))
  ·have e:(tr a).1=(tr b).1:=by simpa using e
   refine W.kat_cons (wpAny_eqBool_int (W.kat_go (fun e2=>W.kat_yes ?_) fun e2=>W.kat_no (oneLt_any_int ⟨rfl,?_⟩)))
   ·have e2:(tr a).2.1=(tr b).2.1:=by simpa using e2
    refine W.kat_cons (wpAny_eqBool_tuple hu i1 i2 (W.kat_go (fun e3=>W.kat_yes (W.kat_nil ⟨rfl,?_⟩)) fun e3=>?_))
    ·symm;refine decide_eq_false fun z=>?_
     rcases od.mp z with q | q<;>omega
    ·exact absurd (by rw [ee e]) (of_decide_eq_false e3)
   ·have e2:¬ (tr a).2.1=(tr b).2.1:=by simpa using e2
    refine decide_eq_decide.mpr ?_;rw [od];omega
  ·have e:¬ (tr a).1=(tr b).1:=by simpa using e
   refine decide_eq_decide.mpr ?_;rw [od];omega
 exact Sem.wp_mono _ _ _ (fun r pos sh q=>by obtain⟨rfl,rfl⟩:=q;exact⟨rfl,fin⟩) (fun _ _ _ q=>q) _ _ (f Γ p hG)
theorem zF9 {a:Addr}{vs:List Value}{n:Nat}{P:Fin→Shared→Prop}(Post:SortSt→Prop) (ho:s.heap.get? a=some (seqObj "list" vs.toArray n)) (hL:vs.length≤sizeLine)
  (hkk:2≤vs.length→∀ {Q:SortKind→Shared→Prop},Q (tuples' true) { s with heap:=G.sortHeap6 s.heap a vs }→wpAny (model prog wd) A (keyKind' vs.toArray) Q E { s with heap:=G.sortHeap6 s.heap a vs })
  (run:2≤vs.length→wpAny (model prog wd) A (sortRuns'.run (SortSt.mk' (tuples' true) (vs.toArray.zip vs.toArray) #[] 7 none)) (fun r s1=>s1={ s with heap:=G.sortHeap6 s.heap a vs }∧Post r.2) E { s with heap:=G.sortHeap6 s.heap a vs })
  (few:vs.length<2→Post (SortSt.mk' general' (vs.toArray.zip vs.toArray) #[] 7 none)) (hp:∀ st,Post st→(arrOf st).size=vs.length∧failedOf st=none)
  (h:∀ st,Post st→P (.done (.ret .none)) { s with heap:=sortedHeap s.heap a vs ((arrOf st).map (·.2)) }):wpAny (model prog wd) A (Builtin.«list.sort» ⟨[.ref a],[]⟩) P E s:=by
 have hz:=hL;rw [sizeLine_eq] at hz;have alt:a<s.heap.objs.size:=Heap.lt_size ho;obtain⟨e1,ho1⟩:∃ e1,(s.heap.update a (Obj.mapSeq fun _=>#[])).get? a=some (seqObj "list" #[] e1):=⟨_,get?_update_seq ho (fun _=>#[])⟩
 have ho6:(G.sortHeap6 s.heap a vs).get? a=some (seqObj "list" #[] e1):=by
  unfold G.sortHeap6;rw [Heap.get?_push_of_some _ (Heap.get?_push_of_some _ ho1)]
 rw [list_sort_plain];refine wpAny_bind (listItems_at ho rfl (wpAny_bind (listUpdate_at ho rfl (wpAny_bind (seqEpoch_at ho1 rfl (wpAny_bind (wpAny_newTuple (wpAny_bind (wpAny_newList (wpAny_holding ?_))))))))));show wpAny (model prog wd) A _ P E { s with heap:=G.sortHeap6 s.heap a vs };dsimp only
 have sz:vs.toArray.size=vs.length:=by simp
 have last:∀ st,Post st→wpAny (model prog wd) A (do
   let sorted:=(arrOf st).map (·.2)
   let touched:=(← seqEpoch a) != e1
   Builtin.List.listUpdate (.ref a) fun _=>sorted
   if let some e:=failedOf st then rule "list.sort.comparison-raised";throw e
   if touched then rule "list.sort.modified";raiseError "ValueError" "list modified during sort"
   ret .none) P E { s with heap:=G.sortHeap6 s.heap a vs }:=fun st ps=>by
  obtain⟨q1,q2⟩:=hp st ps;refine wpAny_bind (seqEpoch_at ho6 rfl (wpAny_bind (listUpdate_at ho6 rfl ?_ (hsz2:=by rw [Array.size_map,q1,sizeLine_eq];omega))));rw [q2];simp only [bne_self_eq_false,Bool.false_eq_true,if_false];exact wpAny_pure (h st ps)
 by_cases h2:vs.toArray.size<2
 ·rw [if_pos h2,if_pos h2];refine wpAny_bind (wpAny_pure ?_);rw [StateT.run_pure];exact wpAny_bind (wpAny_pure (last _ (few (by rw [sz] at h2;exact h2))))
 ·rw [if_neg h2,if_neg h2];rw [sz] at h2;refine wpAny_bind (hkk (by omega) (wpAny_bind (wpAny_mono (run (by omega)) ?_ fun _ _ e=>e)));rintro⟨⟨⟩,st'⟩ s' ⟨rfl,ps⟩;exact last st' ps
end
end L2
namespace Mb
open PySem PySem.Spec PyProof.Rows L2
def zKO (a b:Int×Int):Bool:=decide (a.1<b.1∨(a.1=b.1∧a.2<b.2))
def zKm (ks:List (Int×Int)) (k:Int×Int):Nat:=ks.countP fun z=>zKO z k
theorem zH8 {α:Type}{p q:α→Bool}{k:α}:∀ {l:List α},k∈l→(∀ z,p z=true→q z=true)→p k=false→q k=true→l.countP p<l.countP q
 | x::l,hk,h,h1,h2=>by
  have mono:l.countP p≤l.countP q:=List.countP_mono_left fun z _=>h z;rw [List.countP_cons,List.countP_cons]
  rcases List.mem_cons.mp hk with rfl | hk
  ·rw [h1,h2];simp;omega
  ·have:=zH8 hk h h1 h2;by_cases px:p x=true
   ·rw [px,h x px];simp;exact this
   ·rw [if_neg px];split<;>omega
theorem zKP {ks:List (Int×Int)}{k l:Int×Int}(hk:k∈ks):zKm ks k<zKm ks l↔(k.1<l.1∨(k.1=l.1∧k.2<l.2)):=by
 constructor
 ·intro h;refine Decidable.byContradiction fun q=>?_
  have:zKm ks l≤zKm ks k:=List.countP_mono_left fun z _ hz=>by
   unfold zKO at hz ⊢;have:=of_decide_eq_true hz;exact decide_eq_true (by omega)
  omega
 ·intro h;refine zH8 hk (fun z hz=>?_) ?_ ?_
  ·unfold zKO at hz ⊢;have:=of_decide_eq_true hz;exact decide_eq_true (by omega)
  ·unfold zKO;exact decide_eq_false (by omega)
  ·unfold zKO;exact decide_eq_true h
abbrev K4:=Int×Int×Int×Int
def look (zs:List (Value×K4)) (a:Addr):Option K4:=(zs.find? fun z=>z.1==Value.ref a).map (·.2)
theorem zGA {zs:List (Value×K4)}{a:Addr}{b:K4}(h:look zs a=some b):(Value.ref a,b)∈zs:=by
 unfold look at h;obtain⟨z,hz,rfl⟩:=Option.map_eq_some_iff.mp h;have e0:(z.1==Value.ref a)=true:=List.find?_some (p:=fun z:Value×K4=>z.1==Value.ref a) hz;have e:=eq_of_beq e0;have m:=List.mem_of_find?_eq_some hz;rw [← e];exact m
theorem zNl {zs:List (Value×K4)}{a:Addr}{b:K4}(h:(Value.ref a,b)∈zs):∃ c,look zs a=some c:=by
 cases e:look zs a with
 | some c=>exact⟨c,rfl⟩
 | none =>
  exfalso;unfold look at e;have:=List.find?_eq_none.mp (Option.map_eq_none_iff.mp e) _ h;simp at this
theorem zNm {α β:Type}{F:α→β→Prop}{l l':List α}(p:l'.Perm l):∀ {m:List β},Paired F l m→∃ m',Paired F l' m'∧m'.Perm m:=by
 induction p with
 | nil=>intro m h;exact⟨m,h,.refl _⟩
 | cons x _ ih =>
  intro m h
  cases h with
  | cons r t =>
   obtain⟨m',h1,h2⟩:=ih t;exact⟨_::m',.cons r h1,h2.cons _⟩
 | swap x y l =>
  intro m h
  cases h with
  | cons r t =>
   cases t with
   | cons r2 t2=>exact⟨_::_::_,.cons r2 (.cons r t2),.swap _ _ _⟩
 | trans _ _ ih1 ih2 =>
  intro m h;obtain⟨m1,a1,a2⟩:=ih2 h;obtain⟨m2,b1,b2⟩:=ih1 a1;exact⟨m2,b1,b2.trans a2⟩
theorem zH9 {α β γ:Type}{F:α→β→Prop}{G:α→γ→Prop}:∀ {l:List α}{m:List β}{n:List γ},Paired F l m→Paired G l n→Paired (fun(b:β) (z:α×γ)=>F z.1 b∧G z.1 z.2) m (l.zip n)
 | _,_,_,.nil,.nil => .nil
 | _,_,_,.cons r t,.cons q u => .cons ⟨r,q⟩ (zH9 t u)
theorem zKQ {α β γ:Type}{F:α→β→Prop}{f:γ→β}:∀ {l:List α}{m:List γ},Paired (fun(a:α) (z:γ)=>F a (f z)) l m→Paired (fun(b:β) (a:α)=>F a b) (m.map f) l
 | _,_,.nil => .nil
 | _,_,.cons r t => .cons r (zKQ t)
theorem zGB {α β:Type}{F:α→β→Prop}:∀ {l:List α}{m:List β},Paired F l m→∀ z∈l.zip m,F z.1 z.2
 | _,_,.nil,z,h=>(nomatch h)
 | _,_,.cons r t,z,h=>by
  rcases List.mem_cons.mp h with rfl | h
  ·exact r
  ·exact zGB t z h
abbrev Tr:=Int×Nat×Rat×V
def Tr3 (H:Hp) (x:V) (b:Tr):Prop:=∃ p,x = .ref p∧H p=some (.tup [.int b.1,.int (b.2.1:Int),b.2.2.2])∧IsQ H b.2.2.2 (toQ b.2.2.1)
def kOf (b:Tr):K4:=(b.1,(b.2.1:Int),(toQ b.2.2.1).num,((toQ b.2.2.1).den:Int))
section
variable {X:Cx}{pins:List (Addr×Obj)}{σ:L2.St}{H:Hp}{s:Shared}
theorem zMX {prog:Program}{wd:World}(i:Int) (t:Tok):(PySem.intKind prog wd).is i (Value.int i t)=true:=by
 unfold PySem.intKind;simp [Value.isInt]
theorem zKR (I:Inv X pins σ H s){x:V}{b:Tr}{v:Value}(h:Tr3 H x b) (r:jX x v):∃ a,v = .ref a∧yY X.prog X.w s.heap a (kOf b):=by
 obtain⟨p,rfl,hp,⟨q,eq,hq⟩⟩:=h
 cases r
 obtain⟨its,rv,⟨o,e1,c1,n1,d1⟩,z⟩:=I.tuple (SqT.of hp);obtain⟨its2,rv2,⟨o2,e2,c2,n2,d2⟩,z2⟩:=I.tuple (SqT.of hq);obtain⟨t,u,rfl⟩:=zt.int2 rv2;rw [eq] at rv
 cases rv with
 | cons r1 rv =>
  cases rv with
  | cons r2 rv =>
   cases rv with
   | cons r3 rv =>
    cases rv
    obtain⟨t1,rfl⟩:=r1;obtain⟨t2,rfl⟩:=r2
    cases r3
    exact⟨p,rfl,o,t1,t2,q,n1,e1,c1,d1,o2,_,n2,e2,c2,d2,.cons (zMX _ _) (.cons (zMX _ _) .nil)⟩
def zLp:List V→Hp→VK→Prop:=fun vs H Q=>∃ (a:Addr) (xs:List V) (m:List Tr),vs=[V.ref a]∧H a=some (.lst xs)∧Paired (Tr3 H) xs m∧(∀ b∈m,∀ c∈m,b.1=c.1→b.2.2.1=c.2.2.1) ∧
 ∀ ys m' p,Paired (Tr3 H) ys m'→m'.Perm m→m'.Pairwise (fun b c=>b.1≤c.1)→H p=none→Q (.ref p) (upd H p (.lst ys))
theorem zIp (hc:X.calm=true) (hu:X.A.units+64<cLine):zBm X (.builtin "sorted") zLp:=by
 rintro pins s σ H vs us Q I r ⟨l0,xs,m,rfl,hl0,hM,sep,q⟩;rw [zt.ref1 r];obtain⟨its,rv,hl,hz⟩:=I.list (SqL.of hl0);have lits:its.length=xs.length:=rv.length.symm;have three:Paired (fun(v:Value) (z:V×Tr)=>jX z.1 v∧Tr3 H z.1 z.2) its (xs.zip m):=zH9 rv hM
 have tz:Paired (fun(v:Value) (k:K4)=>∃ a,v = .ref a∧yY X.prog X.w s.heap a k) its (m.map kOf):=by
  have h1:Paired (fun(v:Value) (b:Tr)=>∃ a,v = .ref a∧yY X.prog X.w s.heap a (kOf b)) its ((xs.zip m).map (·.2)):=zCf three fun v z h=>zKR I h.2 h.1;rw [List.map_snd_zip (le_of_eq (jK hM).symm)] at h1;exact zCf h1 fun v b h=>h
 generalize hzs:its.zip (m.map kOf)=zs;have zmem:∀ z∈zs,∃ a,z.1 = .ref a∧yY X.prog X.w s.heap a z.2:=fun z hz=>zGB tz z (by rw [hzs];exact hz)
 have zk:∀ z∈zs,∃ b∈m,z.2=kOf b:=fun z hz=>by
  rw [← hzs] at hz;have:=(of_mem_zip hz).2;obtain⟨b,hb,e⟩:=List.mem_map.mp this;exact⟨b,hb,e.symm⟩
 let keys:=zs.map fun z=>(z.2.1,z.2.2.1)
 let rk:Addr→Option Nat:=fun a=>(look zs a).map fun b=>zKm keys (b.1,b.2.1)
 let tr:Addr→K4:=fun a=>(look zs a).getD (0,0,0,0)
 have rkI:∀ a k,rk a=some k→∃ b,look zs a=some b∧tr a=b∧k=zKm keys (b.1,b.2.1)∧(b.1,b.2.1)∈keys∧yY X.prog X.w s.heap a b∧∃ c∈m,b=kOf c:=fun a k h=>by
  obtain⟨b,hb,rfl⟩:=Option.map_eq_some_iff.mp h;have mz:=zGA hb;refine⟨b,hb,by show(look zs a).getD _=b;rw [hb];rfl,rfl,List.mem_map.mpr ⟨_,mz,rfl⟩,?_,zk _ mz⟩;obtain⟨a',e,t⟩:=zmem _ mz
  injection e with e
  rw [e];exact t
 have ord:∀ a b k l,rk a=some k→rk b=some l→(k<l↔((tr a).1<(tr b).1∨((tr a).1=(tr b).1∧(tr a).2.1<(tr b).2.1))):=fun a b k l h1 h2=>by
  obtain⟨x,_,e1,rfl,m1,_⟩:=rkI a k h1;obtain⟨y,_,e2,rfl,m2,_⟩:=rkI b l h2;rw [e1,e2];exact zKP m1
 have eqq:∀ a b k l,rk a=some k→rk b=some l→(tr a).1=(tr b).1→(tr a).2.2=(tr b).2.2:=fun a b k l h1 h2 h=>by
  obtain⟨x,_,e1,_,_,_,c,hc,rfl⟩:=rkI a k h1;obtain⟨y,_,e2,_,_,_,d,hd,rfl⟩:=rkI b l h2;rw [e1,e2] at h ⊢;have:=sep c hc d hd h;show((toQ c.2.2.1).num,((toQ c.2.2.1).den:Int))=((toQ d.2.2.1).num,((toQ d.2.2.1).den:Int));rw [this]
 have has:∀ v∈its,∃ a c,v = .ref a∧look zs a=some c:=fun v hv=>by
  obtain⟨i,hi,e⟩:=List.mem_iff_getElem.mp hv
  have li:i<(m.map kOf).length:=by rw [← jK tz];exact hi
  have mz:(v,(m.map kOf)[i])∈zs:=by
   rw [← hzs,← e];exact List.mem_iff_getElem.mpr ⟨i,by rw [List.length_zip];omega,by rw [List.getElem_zip]⟩
  obtain⟨a,e2,_⟩:=zmem _ mz;dsimp only at e2;rw [e2] at mz;obtain⟨c,hc⟩:=zNl mz;exact⟨a,c,e2,hc⟩
 refine Calls.call_function_entry kind_sorted plain_sorted entry_sorted (args_sorted1 _) ?_;unfold Builtin.«sorted»;refine wpAny_bind (m:=checkCount "sorted" 1 1 _) (wpAny_pure (wpAny_bind (collect_list hl.isList ?_ (by rw [lits];exact hz))))
 have keep1:∀ b o,s.heap.get? b=some o→((s.heap.push (seqObj "list" #[] 0)).update s.heap.objs.size (Obj.mapSeq (·++its.toArray))).get? b=some o:=fun b o e=>by
  rw [Heap.get?_update_ne _ _ _ _ (ne_of_lt (Heap.lt_size e)),Heap.get?_push_of_some _ e]
 generalize (s.heap.push (seqObj "list" #[] 0)).update s.heap.objs.size (Obj.mapSeq (·++its.toArray))=h1 at keep1 ⊢
 have hL:its.length≤sizeLine:=by rw [lits];exact hz
 refine wpAny_bind (wpAny_newList ?_ hL);have hob:(h1.push (seqObj "list" its.toArray 0)).get? h1.objs.size=some (seqObj "list" its.toArray 0):=Heap.get?_push_size _ rfl;have kt:G.KeepsTups s.heap (G.sortHeap6 (h1.push (seqObj "list" its.toArray 0)) h1.objs.size its):=fun b o e c=>G.keeps_sort6 (vs:=its) hob b o (Heap.get?_push_of_some _ (keep1 b o e)) c
 have ht6:∀ a k,rk a=some k→yY X.prog X.w (G.sortHeap6 (h1.push (seqObj "list" its.toArray 0)) h1.objs.size its) a (tr a):=fun a k h=>by
  obtain⟨x,_,e1,_,_,t,_⟩:=rkI a k h;rw [e1];exact t.keep kt
 let Post:SortSt→Prop:=fun st=>(arrOf st).Perm (pairsOf its)∧failedOf st=none∧SortedToK (yw rk) (arrOf st) (pairsOf its).size
 refine wpAny_bind (wpAny_holding (wpAny_call_entry slot_list_sort ⟨_,hob,rfl⟩ entry_list_sort (zF9 (prog:=X.prog) (wd:=X.w) Post hob hL ?kk ?run ?few ?sz fun st ps=>⟨_,rfl,?fin⟩) (args_list_sort _)))
 case few =>
  intro h2;refine⟨Array.Perm.refl _,rfl,fun i j hij hj=>?_⟩
  have:i=j:=by rw [pairsOf_size] at hj;omega
  subst this;exact KeyOrd.kle_refl _
 case sz=>exact fun st ps=>⟨ps.1.size_eq.trans (pairsOf_size _),ps.2.1⟩
 case kk =>
  intro h2 Q' hq'
  have tf:∀ {vs:List Value},(∀ v∈vs,v∈its)→∃ fs,TupsOf (G.sortHeap6 (h1.push (seqObj "list" its.toArray 0)) h1.objs.size its) (fun _=>false) vs fs∧fs.length=vs.length:=by
   intro vs
   induction vs with
   | nil=>intro _;exact⟨[],.nil,rfl⟩
   | cons v vs ih =>
    intro hv;obtain⟨fs,f1,f2⟩:=ih fun u hu=>hv u (mem_cons_of_mem _ hu);obtain⟨a,c,rfl,hc⟩:=has v (hv v mem_cons_self);obtain⟨o,t1,t2,vv,k1,g1,c1,d1,_⟩:=ht6 a _ (show rk a=some _ from by show(look zs a).map _=_;rw [hc];rfl);exact⟨_::fs,.cons ⟨a,o,_,_,rfl,g1,c1,d1,rfl,fun _=>⟨_,_,rfl⟩,fun e=>absurd e (by decide)⟩ f1,by rw [length_cons,length_cons,f2]⟩
  obtain⟨fs,f1,f2⟩:=tf fun v hv=>hv;exact tup_kind (by rw [f2];omega) f1 hq'
 case run =>
  intro h2 Γ p hG
  have lib:=fun A'=>G.wpS_sortRunsSt (prog:=X.prog) (w:=X.w) (A:=A') (E:=fun _ _=>False) (s:={ s with heap:=vC (G.sortHeap6 (h1.push (seqObj "list" its.toArray 0)) h1.objs.size its) rk }) (κ:=yw rk) (kd:=tuples' true) (a₀:=pairsOf its)
   (st:=SortSt.mk' (tuples' true) (its.toArray.zip its.toArray) #[] 7 none) (Q:=fun _ st'=>Post st')
   (zKN rfl fun a k h=>by obtain⟨o,_,_,_,_,g,_⟩:=ht6 a k h;exact Heap.lt_size g)
   (fun p hp=>by
    rw [pairsOf_toList] at hp;obtain⟨a,c,e,hc⟩:=has p.1 (mem_zip_self hp).2;exact⟨_,show(yw rk).keyOf p.1=some (zKm keys (c.1,c.2.1)) from by rw [e];show(look zs a).map _=_;rw [hc];rfl⟩)
   ⟨Array.Perm.refl _,rfl,rfl⟩ rfl (Stable.refl _) (by rw [pairsOf_size];exact h2) fun st' a1 a2 a3 _=>⟨a1,a2,a3⟩
  have lib2:=lib _ Γ p hG
  have sm:=zFp (zPq (s:={ s with heap:=G.sortHeap6 (h1.push (seqObj "list" its.toArray 0)) h1.objs.size its }) hG (by show X.A.units+1+1<cLine;omega) ht6 ord eqq) (SortSt.mk' (tuples' true) (its.toArray.zip its.toArray) #[] 7 none) (fun r _=>Post r.2) p p rfl
   (Sem.wp_mono _ _ _ (fun _ _ _ z=>z.2) (fun _ _ _ z=>z) _ _ lib2)
  exact Sem.wp_mono _ _ _ (fun _ _ _ z=>⟨z.1,z.2.2⟩) (fun _ _ _ z=>z.elim) _ _ sm
 case fin =>
  refine wpAny_pure ⟨_,rfl,?_⟩;obtain⟨p1,_,p3⟩:=ps;obtain⟨ep',he'⟩:=sortedHeap_at (vs:=its) (out:=(arrOf st).map (·.2)) hob
  have pl:(arrOf st).toList.Perm (its.zip its):=by
   have e:=Array.perm_iff_toList_perm.mp p1;rw [pairsOf_toList] at e;exact e
  have selfd:∀ z∈(arrOf st).toList,z.1=z.2:=fun z hz=>(mem_zip_self (pl.mem_iff.mp hz)).1
  have eo:((arrOf st).map (·.2)).toList=(arrOf st).toList.map (·.1):=by
   rw [Array.toList_map];exact map_congr_left fun z hz=>(selfd z hz).symm
  have po:((arrOf st).map (·.2)).toList.Perm its:=by
   rw [eo];have:=pl.map (·.1);rw [List.map_fst_zip (le_refl _)] at this;exact this
  obtain⟨cs,hcs,pcs⟩:=zNm po three;have vy:zt (cs.map (·.1)) ((arrOf st).map (·.2)).toList:=zKQ (F:=fun v x=>jX x v) (f:=fun(z:V×Tr)=>z.1) (Paired.mapP hcs fun _ _ h=>h.1)
  have ty:Paired (Tr3 H) (cs.map (·.1)) (cs.map (·.2)):=by
   have:∀ {outs:List Value}{cs:List (V×Tr)},Paired (fun(v:Value) (z:V×Tr)=>jX z.1 v∧Tr3 H z.1 z.2) outs cs→Paired (Tr3 H) (cs.map (·.1)) (cs.map (·.2)):=by
    intro outs cs h
    induction h with
    | nil=>exact .nil
    | cons r t ih=>exact .cons r.2 ih
   exact this hcs
  have pm:(cs.map (·.2)).Perm m:=by
   have:=pcs.map (·.2);rw [List.map_snd_zip (le_of_eq (jK hM).symm)] at this;exact this
  have lcs:cs.length=its.length:=by rw [← jK hcs,po.length_eq]
  have sorted:(cs.map (·.2)).Pairwise (fun b c=>b.1≤c.1):=by
   rw [List.pairwise_map,List.pairwise_iff_getElem];intro i j hi hj hij
   have key:∀ i (hi:i<cs.length),∃ c:K4,KK (yw rk) (arrOf st) i=zKm keys (c.1,c.2.1)∧(c.1,c.2.1)∈keys∧c.1=(cs[i]).2.1:=fun i hi=>by
    have li:i<((arrOf st).map (·.2)).toList.length:=by rw [jK hcs];exact hi
    obtain⟨z,ez,r1,r2⟩:=vG hcs (getElem?_eq_getElem li);rw [getElem?_eq_getElem hi] at ez
    cases ez
    obtain⟨a,ea,ta⟩:=zKR I r2 r1
    have la:i<(arrOf st).size:=by rw [Array.length_toList,Array.size_map] at li;exact li
    have e1:((arrOf st)[i]).1 = .ref a:=by
     rw [← ea]
     have:((arrOf st).map (·.2)).toList[i]=((arrOf st)[i]).2:=by simp
     rw [this];exact selfd _ (by rw [Array.mem_toList_iff];exact Array.getElem_mem la)
    have mi:Value.ref a∈its:=by
     rw [← ea];exact po.mem_iff.mp (List.getElem_mem li)
    obtain⟨a',c,e2,hc⟩:=has _ mi
    injection e2 with e2
    subst e2;have ms:=zGA hc;obtain⟨a'',e3,tc⟩:=zmem _ ms
    injection e3 with e3
    subst e3;refine⟨c,?_,List.mem_map.mpr ⟨_,ms,rfl⟩,(tc.uniq ta).1⟩;unfold KK;rw [getElem?_pos (arrOf st) i la];show((yw rk).keyOf ((arrOf st)[i]).1).getD 0=_;rw [e1];show((look zs a).map _).getD 0=_;rw [hc];rfl
   obtain⟨c,k1,m1,n1⟩:=key i hi;obtain⟨d,k2,m2,n2⟩:=key j hj;have le:=p3 i j (le_of_lt hij) (by rw [pairsOf_size,← lcs];exact hj);rw [k1,k2] at le;have le:¬ zKm keys (d.1,d.2.1)<zKm keys (c.1,c.2.1):=of_decide_eq_false le;rw [zKP m2] at le;rw [← n1,← n2];show c.1≤d.1;dsimp only at le;omega
  have I1:Inv X pins σ H { s with heap:=h1,toks:=s.toks }:=I.kept keep1
  have ylen:(cs.map (·.1)).length≤sizeLine:=by rw [length_map,lcs];exact hL
  refine⟨.ref h1.objs.size,upd H h1.objs.size (.lst (cs.map (·.1))),I1.laid (t':=s.toks) (fun b o hb=>?_) (le_refl _) ⟨ylen,((arrOf st).map (·.2)).toList,ep',vy,he'⟩,rfl,q _ _ _ ty pm sorted I1.fresh⟩;have hlt:=Heap.lt_size hb;rw [sortedHeap_old (ne_of_lt hlt) (by rw [size_push'];exact lt_succ_of_lt hlt),Heap.get?_push_of_some _ hb]
end
end Mb
namespace Mb
open PySem PySem.Spec PyProof.Rows L2
abbrev zQ:Stmt:=inClass (top 21) 9
abbrev zu:Stmt:=inClass (top 21) 10
abbrev kY:Stmt:=top 62
section
variable {P:Program}{w:World}{K:W.Frag}{mg:Str→Option Value}{base:Heap}{CB CM CT:Addr}
def scl (c:Nat) (b:Tly):Tr:=(b.2.1.num*((c/b.2.1.den:Nat):Int),b.1,b.2.1,b.2.2)
def uns (t:Tr):Tly:=(t.2.1,t.2.2.1,t.2.2.2)
theorem zE0 {c:Nat}(hc:c≠0){b:Tly}(h:b.2.1.den∣c):b.2.1=mkRat (scl c b).1 c:=by
 rw [show(scl c b).1=b.2.1.num*((c/b.2.1.den:Nat):Int) from rfl,zOt _ hc h,yd]
def zIA (CT:Addr):Sp:=fun vs H Q _=>∃ (a:Addr) (n:Nat) (lo wi:V) (m:List Tly),vs=[.ref a]∧zBG CT H a n lo wi m∧∀ H' q ys m',H' q=some (.lst ys)→Paired (Tl H') ys m'→m'.Perm m→m'.Pairwise (fun b c=>b.2.1≤c.2.1)→Kp [] H H'→Q (.ref q) H'
theorem kZ:zL ["self","common","scaled","weight","value","numerator"] ["self"] (zE zQ):=by trivial
theorem yx (D:zT K CT "rising_tallies" "Table.rising_tallies" zQ) (T:TX K mg CB CM CT) (j4:Has P w K mg base "common_denominator" 2 ["fractions"] zEl):ve P w K mg base CT "rising_tallies" 3 ["self"] (zIA CT):=by
 have nd:=kZ.nd
 refine jp D kZ (L2.bA1 fun _ _ _ _ _ _ _=>rfl) ?_ ?_
 ·rintro vs H Q E ⟨a,n,lo,wi,m,rfl,_⟩;rfl
 ·rintro f cdv A outer s H vs Q E hr ⟨a,n,lo,wi,m,rfl,⟨dx,l,xs,ha,hl,hM,hm,hok⟩,k⟩;refine⟨_,(zC (zU (i:=1) nd rfl (Or.inr rfl) (vO j4 (hr.mono (by decide)) (zB (xX (own:=[("weight",3),("value",4)]) rfl nd (jF (zO (pv 0) rfl)) (zx (by show zBb ["self","common","scaled","weight","value","numerator"] (zE zQ) _ _=true;decide +kernel)) (fun _ _ _ _ _=>(km K (n:=2) rfl rfl (zV (zS (i:=3) nd rfl (Or.inl rfl)) (zV (zS (i:=4) nd rfl (Or.inl rfl)) jk)))) (fun _ _ _ _ _=>jm) (fun _ _ _ _ _=>(pv 4))) zG))) (zC (yk (i:=2) (own:=[("weight",3),("value",4)]) rfl nd rfl rfl (w8 rfl rfl rfl rfl) (jF (zO (pv 0) rfl)) (zx (by show zBb ["self","common","scaled","weight","value","numerator"] (zE zQ) _ _=true;decide +kernel)) (fun _ _ _ _ _=>(km K (n:=2) rfl rfl (zV (zS (i:=3) nd rfl (Or.inl rfl)) (zV (zS (i:=4) nd rfl (Or.inl rfl)) jk)))) (fun _ _ _ _ _=>jm) (fun _ _ _ _ _=>(kM (zB (jI jG (zN (jg K rfl) (pv 4) zH (fun _ _=>rfl)) (jI yo (pv 1) (zN (jg K rfl) (pv 4) zH (fun _ _=>rfl)))) (zB (pv 3) (zB (pv 4) zG)))))) (zI (zP (xX (own:=[("numerator",5),("weight",3),("value",4)]) rfl nd (jF (zh (zIp rfl hr.units) (by rfl) T.n_sorted boot_sorted (zB (pv 2) zG))) (zx (by show zBb ["self","common","scaled","weight","value","numerator"] (zE zQ) _ _=true;decide +kernel)) (fun _ _ _ _ _=>(km K (n:=3) rfl rfl (zV (zS (i:=5) nd rfl (Or.inl rfl)) (zV (zS (i:=3) nd rfl (Or.inl rfl)) (zV (zS (i:=4) nd rfl (Or.inl rfl)) jk))))) (fun _ _ _ _ _=>jm) (fun _ _ _ _ _=>(kM (zB (pv 3) (zB (pv 4) zG))))))))),?_⟩;refine⟨_,rfl,a,CT,dx,_,_,rfl,ha,T.clTable,T.t4,tf4,l,rfl,⟨_,SqL.of hl⟩,fun d hD=>?_⟩;refine yM (K:=K) (m:=m) (fun t=>some t.2.2) hl hM hm hD ?_ ?_
  ·rintro x b H' ⟨q,rfl,hq,_⟩ mb kp Yes No hy _;exact⟨q,_,rfl,SqT.of (kp _ _ hq (by simp)),rfl,_,_,rfl,_,_,rfl,rfl,rfl,_,rfl,hy _ rfl⟩
  rintro H1 h1 k1;rw [show m.filterMap (fun t=>some t.2.2)=m.map fun t=>t.2.2 from by rw [filterMap_eq_map']] at h1;have tp1:jd H H1:=k1.tups (by simp)
  have hprn:Prn H1 (m.map fun t=>t.2.2) (m.map fun t=>(t.2.1.num,t.2.1.den)):=by
   have:∀ m':List Tly,(∀ t∈m',IsQ H t.2.2 (toQ t.2.1))→Prn H1 (m'.map fun t=>t.2.2) (m'.map fun t=>(t.2.1.num,t.2.1.den)):=by
    intro m'
    induction m' with
    | nil=>intro _;exact .nil
    | cons t m' ih=>intro h;exact .cons ((h t mem_cons_self).keep tp1) (ih fun u hu=>h u (mem_cons_of_mem _ hu))
   exact this m (zNz hM)
  refine⟨d,_,_,zBl,rfl,h1,hprn,vE,lt_of_lt_of_le wB (pow_le_pow_right (by decide) (by decide)),fun p hp=>?_,fun c hc hcL hall=>?_⟩
  ·obtain⟨b,mb,rfl⟩:=List.mem_map.mp hp;exact zCE (pos_of_ne_zero b.2.1.den_nz) (hok b mb).2.2.1
  have c0:c≠0:=ne_of_gt hc;have c1:c<2 ^ 1440:=vH hcL vE wB;have dv:∀ b∈m,b.2.1.den∣c:=fun b mb=>hall _ (List.mem_map.mpr ⟨b,mb,rfl⟩);have ha1:=k1 _ _ ha (by simp);have hl1:=k1 _ _ hl (by simp);have hM1:Paired (Tl H1) xs m:=Paired.mapP hM fun _ _ q=>q.keep tp1;refine⟨_,rfl,a,CT,dx,_,_,rfl,ha1,T.clTable,T.t4,tf4,l,rfl,⟨_,SqL.of hl1⟩,fun e hE=>?_⟩;refine zHw (K:=K) (m:=m) (fun b => .tup [.int (scl c b).1,.int (b.1:Int),b.2.2]) hl1 hM1 hm hE ?_ ?_
  ·rintro x b H' ⟨q,rfl,hq,⟨z,ez,hz⟩⟩ mb kp Yes No hy;have hz':=kp _ _ hz (by simp);have f1:=(hok b mb).fit.abs
   have dp:(0:Int)<((toQ b.2.1).den:Int):=by
    have:=b.2.1.den_nz;show(0:Int)<(b.2.1.den:Int);omega
   have e1:c/b.2.1.den<2 ^ 1440:=lt_of_le_of_lt (Nat.div_le_self _ _) c1;refine⟨q,_,rfl,SqT.of (kp _ _ hq (by simp)),rfl,_,_,rfl,_,_,rfl,rfl,rfl,?_⟩;refine⟨_,rfl,.inr (.inl ⟨z,_,0,.int (toQ b.2.1).num,ez,rfl,SqT.of hz',rfl,_,rfl,_,rfl,.inr (.inl ⟨z,_,1,.int ((toQ b.2.1).den:Int),ez,rfl,SqT.of hz',rfl,_,_,rfl,rfl,⟨dp,lt_of_lt_of_le (kH f1.2 (by decide)) (by decide)⟩,_,_,rfl,rfl,?_,?_⟩)⟩)⟩
   ·rw [← natCast_ediv];exact zBC (k:=64) (l:=1440) f1.1 (by rw [natAbs_natCast];exact e1)
   ·rw [← natCast_ediv];exact⟨_,rfl,_,rfl,(by show 3≤sizeLine;decide),fun p hp=>hy p hp⟩
  rintro H2 ys h2 h3 k2;have k12:=Kp.trans k1 k2;have tp2:jd H H2:=k12.tups (by simp)
  have T2:Paired (Tr3 H2) ys (m.map (scl c)):=by
   have hq:=zNz hM
   have:∀ {ys:List V}{m':List Tly},(∀ t∈m',IsQ H t.2.2 (toQ t.2.1))→Paired (fun(y:V) (b:Tly)=>∃ p,y = .ref p∧H2 p=some (.tup [.int (scl c b).1,.int (b.1:Int),b.2.2])) ys m'→Paired (Tr3 H2) ys (m'.map (scl c)):=by
    intro ys m' hq h
    induction h with
    | nil=>exact .nil
    | @cons y b ys m' r t ih =>
     obtain⟨p,e,hp⟩:=r;exact .cons ⟨p,e,hp,(hq b mem_cons_self).keep tp2⟩ (ih fun u hu=>hq u (mem_cons_of_mem _ hu))
   exact this hq h3
  refine⟨_,rfl,e,ys,m.map (scl c),rfl,h2,T2,?_,fun zs m' p tz pz sz hp=>?_⟩
  ·intro b hb b' hb' q;obtain⟨t,mt,rfl⟩:=List.mem_map.mp hb;obtain⟨t',mt',rfl⟩:=List.mem_map.mp hb';show t.2.1=t'.2.1;rw [zE0 c0 (dv t mt),zE0 c0 (dv t' mt'),q]
  have k3:Kp [] H (upd H2 p (.lst zs)):=k12.upd (.inr (k12.none hp (by simp)));have t23:jd H2 (upd H2 p (.lst zs)):=jd.new hp;have h4:upd H2 p (.lst zs) p=some (.lst zs):=zA
  have T3:Paired (Tr3 (upd H2 p (.lst zs))) zs m':=Paired.mapP tz fun x b=>by
   rintro⟨q,e,q1,q2⟩;exact⟨q,e,t23 _ _ q1,q2.keep t23⟩
  generalize upd H2 p (.lst zs)=H3 at k3 h4 T3 ⊢
  have lm:m'.length<1000:=by rw [pz.length_eq,length_map];exact hm
  refine⟨p,rfl,⟨_,SqL.of h4⟩,fun g hG=>?_⟩;refine zHw (K:=K) (m:=m') (fun t => .tup [.int (t.2.1:Int),t.2.2.2]) h4 T3 lm hG ?_ ?_
  ·rintro x t H' ⟨q,rfl,hq,_⟩ mt kp Yes No hy;refine⟨q,_,rfl,SqT.of (kp _ _ hq (by simp)),rfl,_,_,rfl,_,_,rfl,_,_,rfl,rfl,rfl,?_⟩;exact⟨_,rfl,_,rfl,(by show 2≤sizeLine;decide),fun p hp=>hy p hp⟩
  rintro H4 ws h5 h6 k4;have tp4:jd H3 H4:=k4.tups (by simp)
  have hqs:∀ t∈m',IsQ H3 t.2.2.2 (toQ t.2.2.1):=by
   have:∀ {zs:List V}{m':List Tr},Paired (Tr3 H3) zs m'→∀ t∈m',IsQ H3 t.2.2.2 (toQ t.2.2.1):=by
    intro zs m' h
    induction h with
    | nil=>intro t ht;exact(nomatch ht)
    | cons r t ih =>
     intro u hu
     rcases List.mem_cons.mp hu with rfl | hu
     ·obtain⟨_,_,_,q⟩:=r;exact q
     ·exact ih u hu
   exact this T3
  have T4:Paired (Tl H4) ws (m'.map uns):=by
   have:∀ {ws:List V}{m':List Tr},(∀ t∈m',IsQ H3 t.2.2.2 (toQ t.2.2.1))→Paired (fun(y:V) (t:Tr)=>∃ p,y = .ref p∧H4 p=some (.tup [.int (t.2.1:Int),t.2.2.2])) ws m'→Paired (Tl H4) ws (m'.map uns):=by
    intro ws m' hq h
    induction h with
    | nil=>exact .nil
    | @cons y b ys m' r t ih =>
     obtain⟨p,e,hp⟩:=r;exact .cons ⟨p,e,hp,(hq b mem_cons_self).keep tp4⟩ (ih fun u hu=>hq u (mem_cons_of_mem _ hu))
   exact this hqs h6
  have us:∀ b:Tly,uns (scl c b)=b:=fun b=>rfl;refine k H4 g ws (m'.map uns) h5 T4 ?_ ?_ (Kp.trans k3 k4)
  ·have:=pz.map uns;rw [map_map,show(uns∘scl c)=id from funext us,List.map_id] at this;exact this
  ·rw [List.pairwise_map];refine List.Pairwise.imp_of_mem ?_ sz;intro b b' hb hb' le;obtain⟨t,mt,rfl⟩:=List.mem_map.mp (pz.mem_iff.mp hb);obtain⟨t',mt',rfl⟩:=List.mem_map.mp (pz.mem_iff.mp hb');show t.2.1≤t'.2.1;rw [zE0 c0 (dv t mt),zE0 c0 (dv t' mt'),zJD c0 c0];exact Int.mul_le_mul_of_nonneg_right le (by omega)
def pre (m:List Tly) (i:Nat):Nat:=Vbdeai.sumN ((m.take i).map (·.1))
theorem zIB {m:List Tly}{i:Nat}{b:Tly}(h:m[i]? = some b):pre m (i+1)=pre m i+b.1:=by
 unfold pre;rw [take_succ,h,map_append,zHa];congr 1;exact zero_add _
theorem zIC (f:Rat→Bool) (l r:List (Nat×Rat)):vz f (l++r)=vz f l+vz f r:=by
 induction l with
 | nil=>rw [nil_append,zKs,zero_add]
 | cons s l ih=>rw [cons_append,jH,jH,ih,Nat.add_assoc]
theorem zE1 (f:Rat→Bool):∀ (m:List Tly),(∀ b∈m,f b.2.1=true)→vz f (m.map two)=Vbdeai.sumN (m.map (·.1))
 | [],_=>rfl
 | b::m,h=>by
  rw [map_cons,map_cons,jH,zp,zE1 f m fun c hc=>h c (mem_cons_of_mem _ hc)];rw [show(two b).2=b.2.1 from rfl,h b mem_cons_self,if_pos rfl];rfl
theorem zGC (f:Rat→Bool):∀ (m:List Tly),(∀ b∈m,f b.2.1=false)→vz f (m.map two)=0
 | [],_=>rfl
 | b::m,h=>by
  rw [map_cons,jH,zGC f m fun c hc=>h c (mem_cons_of_mem _ hc)];rw [show(two b).2=b.2.1 from rfl,h b mem_cons_self,if_neg Bool.false_ne_true]
theorem zNn (f:Rat→Bool) (m:List Tly):vz f (m.map two)≤Vbdeai.sumN (m.map (·.1)):=by
 induction m with
 | nil=>exact le_refl _
 | cons b m ih =>
  rw [map_cons,map_cons,jH,zp]
  have:(if f (two b).2=true then(two b).1 else 0)≤b.1:=by
   split
   ·exact le_refl _
   ·exact zero_le _
  omega
section
variable {m:List Tly}(so:m.Pairwise (fun b c=>b.2.1≤c.2.1)){i:Nat}{b:Tly}(hb:m[i]? = some b)
include so hb
theorem zLq:pre m (i+1)≤vz (fun x=>decide (x≤b.2.1)) (m.map two):=by
 have hi:i<m.length:=(List.getElem?_eq_some_iff.mp hb).1
 have e:m.map two=(m.take (i+1)).map two++(m.drop (i+1)).map two:=by rw [← map_append,List.take_append_drop]
 rw [e,zIC,zE1 _ (m.take (i+1))]
 ·exact le_add_right _ _
 ·intro c hc;obtain⟨j,hj,ej⟩:=List.mem_iff_getElem.mp hc;rw [List.getElem_take] at ej;rw [length_take] at hj;refine decide_eq_true ?_;have eb:m[i]=b:=(List.getElem?_eq_some_iff.mp hb).2;rw [← ej,← eb];by_cases q:j=i
  ·subst q;exact Rat.le_refl
  ·exact List.pairwise_iff_getElem.mp so j i (by omega) hi (by omega)
theorem zLr {x:Rat}(h:x<b.2.1):vz (fun y=>decide (y≤x)) (m.map two)≤pre m i:=by
 have hi:i<m.length:=(List.getElem?_eq_some_iff.mp hb).1
 have e:m.map two=(m.take i).map two++(m.drop i).map two:=by rw [← map_append,List.take_append_drop]
 rw [e,zIC,zGC _ (m.drop i)]
 ·rw [Nat.add_zero];exact zNn _ _
 ·intro c hc;obtain⟨j,hj,ej⟩:=List.mem_iff_getElem.mp hc;rw [List.getElem_drop] at ej;rw [length_drop] at hj;refine decide_eq_false fun q=>?_;have eb:m[i]=b:=(List.getElem?_eq_some_iff.mp hb).2
  have le:b.2.1≤c.2.1:=by
   rw [← ej,← eb];by_cases z:j=0
   ·subst z;exact Rat.le_refl
   ·exact List.pairwise_iff_getElem.mp so i (i+j) hi (by omega) (by omega)
  exact absurd h (Rat.not_lt.mpr (Rat.le_trans le q))
end
def zKS (CT:Addr):Sp:=fun vs H Q _=>∃ (a:Addr) (n:Nat) (lo wi:V) (m:List Tly) (p q:Nat),vs=[.ref a,.int p,.int q]∧zBG CT H a n lo wi m∧m≠[]∧p≤q∧q≤1000000000 ∧
 ∀ H' v r,IsQ H' v (toQ r)→(∃ b∈m,b.2.1=r)→p*vz (fun _=>true) (m.map two)≤q*vz (fun x=>decide (x≤r)) (m.map two)→(∀ b∈m,p*vz (fun _=>true) (m.map two)≤q*vz (fun x=>decide (x≤b.2.1)) (m.map two)→r≤b.2.1)→Kp [] H H'→Q v H'
theorem zB9 (m:List Tly):zH2 m=((pre m m.length:Nat):Int):=by
 unfold zH2 pre;rw [take_length,zAN,map_map];rfl
theorem zMY (m:List Tly) (i:Nat):pre m i≤pre m m.length:=by
 unfold pre;rw [take_length]
 conv=>rhs;rw [← List.take_append_drop i m,map_append,zHa]
 exact le_add_right _ _
theorem zID {m m':List Tly}(h:m'.Perm m):pre m' m'.length=pre m m.length:=by
 have:zH2 m'=zH2 m:=zF5 (h.map _);rw [zB9,zB9] at this;omega
theorem yZ:zL ["self","part","whole","needed","rising","at","reached"] ["self","part","whole"] (zE zu):=by trivial
theorem zBI (D:zT K CT "quantile" "Table.quantile" zu) (T:TX K mg CB CM CT) (vk:ve P w K mg base CT "weight_in_all" 1 ["self"] (zKI CT)) (zBx:ve P w K mg base CT "rising_tallies" 3 ["self"] (zIA CT)):ve P w K mg base CT "quantile" 4 ["self","part","whole"] (zKS CT):=by
 have nd:=yZ.nd
 refine jp D yZ (L2.bA3 fun _ _ _ _ _ _ _ _ _=>rfl) ?_ ?_
 ·rintro vs H Q E ⟨a,n,lo,wi,m,p,q,rfl,_⟩;rfl
 ·rintro f cdv A outer s H vs Q E hr ⟨a,n,lo,wi,m,p,q,rfl,TI,ne,hpq,hq9,k⟩;refine⟨_,(zC (zU (i:=3) nd rfl (Or.inl rfl) (jI jG (pv 1) (yp T.clTable vk (hr.mono (by decide)) (pv 0)))) (zC (zU (i:=4) nd rfl (Or.inl rfl) (yp T.clTable zBx (hr.mono (by decide)) (pv 0))) (zC (zU (i:=5) nd rfl (Or.inl rfl) zH) (zC (zU (i:=6) nd rfl (Or.inl rfl) (jI jG (pv 2) (zN zK (zN zK (pv 4) zH (fun _ _=>rfl)) zH (fun _ _=>rfl)))) (zC (zEO PassesOwn.never (jl zIR (pv 6) (pv 3) (jc _)) (zC (zJO (i:=5) nd rfl (Or.inl rfl) zH zHd) (zI (zJO (i:=6) nd rfl (Or.inl rfl) (jI jG (pv 2) (zN zK (zN zK (pv 4) (pv 5) (fun _ _=>rfl)) zH (fun _ _=>rfl))) zHd)))) (zI (zP (zN zK (zN zK (pv 4) (pv 5) (fun _ _=>rfl)) zH (fun _ _=>rfl))))))))),?_⟩;obtain⟨dx,l,xs,ha,hl,hM,hm,hok⟩:=TI
  have wb:∀ i,pre m i<2 ^ 64:=fun i=>by
   have h1:=zMY m i;have h2:=zB9 m;have h3:=zP5 hok;omega
  have pb:((p:Nat):Int).natAbs<2 ^ 64:=by omega
  have qb:((q:Nat):Int).natAbs<2 ^ 64:=by omega
  refine⟨_,rfl,_,rfl,a,dx,_,rfl,ha,tn4,a,n,lo,wi,m,rfl,⟨dx,l,xs,ha,hl,hM,hm,hok⟩,fun H1 k1=>?_⟩;rw [zB9];refine⟨_,_,rfl,rfl,zBC pb (by rw [natAbs_natCast];exact wb _),?_⟩;refine⟨_,rfl,a,dx,_,rfl,k1 _ _ ha (by simp),tn9,a,n,lo,wi,m,rfl,zBG.keep ⟨dx,l,xs,ha,hl,hM,hm,hok⟩ k1,fun H2 rs ys m' h1 h2 pm so k2=>?_⟩;have k12:=Kp.trans k1 k2;have lm:m'.length=m.length:=pm.length_eq;have ly:ys.length=m'.length:=jK h2
  have m0:0<m'.length:=by
   rw [lm];exact List.length_pos_iff.mpr ne
  have ok':∀ b∈m',zNy b:=fun b hb=>hok b (pm.mem_iff.mp hb)
  have wb':∀ i,pre m' i<2 ^ 64:=fun i=>by
   have h1:=zMY m' i;rw [zID pm] at h1;have:=wb m.length;omega
  have at_:∀ i,i<m'.length→∃ b x z,m'[i]? = some b∧ys[i]? = some (.ref x)∧H2 x=some (.tup [.int (b.1:Int),b.2.2])∧IsQ H2 b.2.2 (toQ b.2.1)∧z=b:=fun i hi=>by
   have hy:i<ys.length:=by omega
   obtain⟨b,hb,⟨x,ex,hx,hqx⟩⟩:=vG h2 (getElem?_eq_getElem hy);exact⟨b,x,b,hb,by rw [getElem?_eq_getElem hy,ex],hx,hqx,rfl⟩
  obtain⟨b0,x0,_,e0,y0,hx0,_,_⟩:=at_ 0 m0
  have w64:∀ b:Tly,b∈m'→((b.1:Nat):Int).natAbs<2 ^ 64:=fun b hb=>by have:=(ok' b hb).2.1;omega
  refine⟨_,rfl,_,rfl,.inl ⟨rs,_,0,_,rfl,rfl,SqL.of h1,yK (j:=0) y0,.inr (.inl ⟨x0,_,0,.int (b0.1:Int),rfl,rfl,SqT.of hx0,rfl,_,_,rfl,rfl,zBC qb (w64 b0 (List.mem_of_getElem? e0)),?_⟩)⟩⟩
  have p1:pre m' 1=b0.1:=by
   have:=zIB e0;rw [this];exact zero_add _
  refine⟨fun μ σ H'=>∃ i,μ=m'.length-i∧i<m'.length∧σ=[some (.ref a),some (.int (p:Int)),some (.int (q:Int)),some (.int ((p:Int)*((pre m m.length:Nat):Int))),some (.ref rs),some (.int ((i:Nat):Int)),some (.int ((q:Int)*((pre m' (i+1):Nat):Int)))]∧H'=H2∧(i=0∨(q:Int)*((pre m' i:Nat):Int)<(p:Int)*((pre m m.length:Nat):Int)),⟨m'.length,0,by omega,m0,by rw [p1];rfl,rfl,.inl rfl⟩,?_⟩;rintro μ σ H' ⟨i,rfl,hi,rfl,rfl,inv⟩;refine⟨_,rfl,_,rfl,_,_,rfl,rfl,_,rfl,?_⟩;by_cases lt:(q:Int)*((pre m' (i+1):Nat):Int)<(p:Int)*((pre m m.length:Nat):Int)
  ·rw [decide_eq_true lt]
   have hi1:i+1<m'.length:=by
    refine Decidable.byContradiction fun z=>?_
    have e:i+1=m'.length:=by omega
    rw [e,zID pm] at lt;have:(p:Int)*((pre m m.length:Nat):Int)≤(q:Int)*((pre m m.length:Nat):Int):=Int.mul_le_mul_of_nonneg_right (by omega) (by omega);omega
   obtain⟨b,x,_,eb,yb,hx,_,_⟩:=at_ (i+1) hi1;refine yc ⟨_,fun σ' H' z=>z,_,rfl,_,_,rfl,rfl,?_⟩;refine⟨_,rfl,_,rfl,_,rfl,_,rfl,.inl ⟨rs,_,_,_,rfl,rfl,SqL.of h1,yK (j:=i+1) yb,.inr (.inl ⟨x,_,0,.int (b.1:Int),rfl,rfl,SqT.of hx,rfl,_,_,rfl,rfl,zBC qb (w64 b (List.mem_of_getElem? eb)),_,_,rfl,rfl,?_⟩)⟩⟩;refine⟨m'.length-(i+1),by omega,i+1,rfl,hi1,?_,rfl,.inr lt⟩
   have:(q:Int)*((pre m' (i+1+1):Nat):Int)=(q:Int)*((pre m' (i+1):Nat):Int)+(q:Int)*(b.1:Int):=by
    rw [zIB eb,natCast_add,Int.mul_add]
   rw [this];rfl
  ·rw [decide_eq_false lt];obtain⟨b,x,_,eb,yb,hx,hqx,_⟩:=at_ i hi;refine ym ⟨_,rfl,_,rfl,.inl ⟨rs,_,_,_,rfl,rfl,SqL.of h1,yK (j:=i) yb,.inr (.inl ⟨x,_,1,b.2.2,rfl,rfl,SqT.of hx,rfl,?_⟩)⟩⟩;have pw:∀ f:Rat→Bool,vz f (m'.map two)=vz f (m.map two):=fun f=>zFK (pm.map two)
   have tot:vz (fun _=>true) (m.map two)=pre m m.length:=by
    unfold pre;rw [take_length];exact zE1 _ m fun _ _=>rfl
   refine k _ b.2.2 b.2.1 hqx ⟨b,pm.mem_iff.mp (List.mem_of_getElem? eb),rfl⟩ ?_ (fun c hc le=>?_) k12
   ·rw [tot,← pw];have h5:=zLq so eb;have h6:q*pre m' (i+1)≤q*vz (fun x=>decide (x≤b.2.1)) (m'.map two):=Nat.mul_le_mul_left q h5
    have h7:p*pre m m.length≤q*pre m' (i+1):=by
     have:((p*pre m m.length:Nat):Int)≤((q*pre m' (i+1):Nat):Int):=by
      rw [natCast_mul,natCast_mul];omega
     omega
    omega
   ·refine Rat.not_lt.mp fun z=>?_
    rcases inv with i0 | lt2
    ·subst i0;obtain⟨j,hj,ej⟩:=List.mem_iff_getElem.mp (pm.mem_iff.mpr hc);have ebb:m'[0]=b:=(List.getElem?_eq_some_iff.mp eb).2
     have:b.2.1≤c.2.1:=by
      rw [← ej,← ebb];by_cases z:j=0
      ·subst z;exact Rat.le_refl
      ·exact List.pairwise_iff_getElem.mp so 0 j m0 hj (by omega)
     exact absurd z (Rat.not_lt.mpr this)
    ·rw [tot,← pw] at le;have h5:=zLr so eb z;have h6:q*vz (fun y=>decide (y≤c.2.1)) (m'.map two)≤q*pre m' i:=Nat.mul_le_mul_left q h5
     have h7:((q*pre m' i:Nat):Int)<((p*pre m m.length:Nat):Int):=by
      rw [natCast_mul,natCast_mul];exact lt2
     omega
theorem xO:zL ["book","numbers","table"] ["book","numbers"] (zE kY):=by trivial
theorem zAw (T:TX K mg CB CM CT) (zIu:ve P w K mg base CT "quantile" 4 ["self","part","whole"] (zKS CT)):zAA P w K mg base ["book","numbers","table"] "tell_quantile" kY 4 (wW CB CM CT 17):=by
 have nd:=xO.nd;rintro f cdv A outer s H vs Q E hr ⟨L,b,nl,ns,n,rfl,B,ok,hn,hnl,hrg,k⟩
 obtain⟨k0,p0,q0,rfl⟩:=ln3 (zJH hrg);have hrg0:=hrg
 ·
  have hrg:=hrg0;simp only [rg,okK,Bool.and_eq_true,zm] at hrg;obtain⟨j,rfl⟩:∃ j:Nat,k0=(j:Int):=⟨k0.toNat,by omega⟩;obtain⟨p,rfl⟩:∃ p:Nat,p0=(p:Int):=⟨p0.toNat,by omega⟩;obtain⟨q,rfl⟩:∃ q:Nat,q0=(q:Int):=⟨q0.toNat,by omega⟩
  have hj:j<64:=by omega
  obtain⟨dxb,hbk⟩:=B.bk
  have ea:ans 17 b [(j:Int),(p:Int),(q:Int)]=if(b.table j).classes=0 then [-8] else(match Vbdeai.quantile (b.table j).seen p q with | some a=>shownQ a | none=>[-10]):=by
   show(if(okK (j:Int)&&(Vbdeai.inR (q:Int) 1 1000000000&&Vbdeai.inR (p:Int) 0 (q:Int)))=false then [-1] else if(b.table (j:Int).toNat).classes=0 then [-8] else _)=_;rw [show(okK (j:Int)&&(Vbdeai.inR (q:Int) 1 1000000000&&Vbdeai.inR (p:Int) 0 (q:Int)))=true from hrg0,if_neg (by decide),toNat_natCast,toNat_natCast,toNat_natCast];rfl
  rw [ea] at k;refine⟨_,(zC (zU (i:=2) nd rfl (Or.inl rfl) (zN zK (zO (pv 0) rfl) (zN zK (pv 1) zH (fun _ _=>rfl)) (fun _ _=>rfl))) (zC (kj (wc (zCK (pv 2))) (zI (zP (jO (zB (zn T.cNO_LIKE_TABLE) zG)))) jM) (zC (kj (jl zGa (zh jN (by rfl) T.n_len boot_len (zB (zO (pv 2) rfl) zG)) zH (jc _)) (zI (zP (jO (zB (zn T.cNO_TALLIES) zG)))) jM) (zI (zP (zJb zFY (by rfl) T.n_list boot_list (zB (vF T.clTable zIu (hr.mono (by decide)) (pv 2) (zB (zN zK (pv 1) zH (fun _ _=>rfl)) (zB (zN zK (pv 1) zH (fun _ _=>rfl)) zG))) zG))))))),?_⟩;refine⟨_,rfl,L.bk,CB,dxb,_,_,rfl,hbk,T.clBook,T.b4,bf4,_,rfl,.inl ⟨nl,_,0,.int (j:Int),rfl,rfl,SqL.of hnl,rfl,.inl ⟨L.lt,_,_,_,rfl,rfl,SqL.of B.lt,zG0 hj,?_⟩⟩⟩;by_cases hc:(b.table j).classes=0
  ·rw [if_pos hc] at k ⊢;refine⟨_,rfl,_,rfl,yc ⟨(by show 1≤sizeLine;decide),fun q hq=>k _ q ?_ hq (Kp.refl.upd (.inr hq))⟩⟩;exact zA
  ·rw [if_neg hc] at k ⊢;obtain⟨lo,wi,m,m0,TA⟩:=zH5 B ok hn hj hc;obtain⟨dx,l,xs,ha,hl,hM,hm,hok⟩:=TA.tab;have lx:xs.length=m.length:=jK hM;refine⟨_,rfl,_,rfl,ym ⟨_,rfl,L.t j,CT,dx,_,_,rfl,ha,T.clTable,T.t4,tf4,l,xs,rfl,.inl (SqL.of hl),rfl,_,rfl,?_⟩⟩;by_cases he:m=[]
   ·have x0:xs.length=0:=by rw [lx,he];rfl
    rw [x0]
    have s0:(b.table j).seen=[]:=by
     have:=TA.len;rw [he] at this;exact eq_nil_of_length_eq_zero this.symm
    rw [s0] at k;refine yc ⟨(by show 1≤sizeLine;decide),fun q hq=>k _ q ?_ hq (Kp.refl.upd (.inr hq))⟩;exact zA
   ·have xn:xs.length≠0:=by
     rw [lx];exact fun z=>he (eq_nil_of_length_eq_zero z)
    rw [decide_eq_false (fun z=>xn (by injection z with z;omega))];refine ym ⟨_,rfl,L.t j,dx,_,rfl,ha,zQf,_,rfl,.inl ⟨nl,_,1,.int (p:Int),rfl,rfl,SqL.of hnl,rfl,_,rfl,.inl ⟨nl,_,2,.int (q:Int),rfl,rfl,SqL.of hnl,rfl,L.t j,_,lo,wi,m,p,q,rfl,TA.tab,he,by omega,by omega,fun H1 v r h1 h2 h3 h4 k1=>?_⟩⟩⟩;obtain⟨x,rfl,hx⟩:=h1;refine⟨x,_,rfl,.inr (SqT.of hx),fun z hz=>?_⟩;have hzH:H z=none:=k1.none hz (by simp);refine k _ z ?_ hzH (k1.upd (.inr hzH))
    have pw:∀ f:Rat→Bool,vz f (m.map two)=vz f m0:=fun f=>by
     rw [TA.rev];exact zFK (List.reverse_perm m0)
    have mm:∀ y:Nat×Rat,y∈m0→∃ t∈m,two t=y:=fun y hy=>by
     rw [← mem_reverse,← TA.rev] at hy;exact List.mem_map.mp hy
    have e1:Vbdeai.quantile (b.table j).seen p q=some (toQ r):=by
     rw [TA.seen];refine zGR ?_ (by rw [← pw,← pw];exact h3) fun y hy le=>?_
     ·obtain⟨t,ht,rfl⟩:=h2;refine⟨two t,?_,rfl⟩;rw [← mem_reverse,← TA.rev];exact List.mem_map.mpr ⟨t,ht,rfl⟩
     ·obtain⟨t,ht,rfl⟩:=mm y hy;rw [← pw,← pw] at le;exact h4 t ht le
    rw [zA,e1];rfl
end
end Mb
namespace Mb
open PySem PySem.Spec PyProof.Rows L2
abbrev yy:Stmt:=top 37
abbrev zCA:Stmt:=top 38
abbrev jr:Stmt:=top 43
abbrev wP:Stmt:=top 44
abbrev vD:Stmt:=top 45
abbrev wQ:Stmt:=top 70
def ji:Nat:=24
theorem zIq:∀ p:Nat,p≤23→p<ji:=fun p h=>by unfold ji;omega
def zq:Nat→List Str
 | 0=>["time","meter","name","amount"]
 | 1=>["time","meter","name"]
 | 2=>["time","meter","amount"]
 | 3=>["time","meter","amount"]
 | 4=>["table","class count","numerator","denominator","width numerator","denominator"]
 | 5=>["table","amount","numerator","denominator"]
 | 6=>["time","value","numerator","denominator"]
 | 7=>["time"]
 | 8=>["time"]
 | 9=>["table","table"]
 | 10=>["meter"]
 | 11=>["meter"]
 | 12=>["meter"]
 | 13=>["meter"]
 | 14=>["meter"]
 | 15=>["table"]
 | 16=>["table"]
 | 17=>["table","part","whole"]
 | 18=>["table","numerator","denominator"]
 | 19=>["value"]
 | 20=>["value","numerator","denominator"]
 | _=>[]
def zNo:List (Str×Int×Int):=[("time",0,1000000000000000000),("meter",0,255),("name",1,1000000000),("amount",1,1000000000),("table",0,63),("class count",1,100),("value",0,63),("numerator",-1000000000000000000,1000000000000000000),("denominator",1,1000000000000000000),("width numerator",1,1000000000000000000),("part",0,1000000000),("whole",1,1000000000)]
def ja (x:Str):Int×Int:=((zNo.find? fun e=>e.1==x).map (·.2)).getD (0,0)
def zE2 (p:Nat):Bool:=decide (p≤9)||decide (p=23)
def j3:List Str→List Int→Bool
 | x::xs,n::ns=>Vbdeai.inR n (ja x).1 (ja x).2&&j3 xs ns
 | _,_=>true
def vZ (p:Nat) (ns:List Int):Bool:=j3 (zq p) ns&&(!decide (p=17)||decide (ns.getD 1 0≤ns.getD 2 0))
structure TD (P:Program) (w:World) (K:W.Frag) (mg:Str→Option Value) (base:Heap) (CB CM CT aF aR aC aQ:Addr):Prop extends TX K mg CB CM CT where
 mFORMS:mg "FORMS"=some (.ref aF)
 mRANGES:mg "RANGES"=some (.ref aR)
 mCHANGES:mg "CHANGES"=some (.ref aC)
 mQUESTIONS:mg "QUESTIONS"=some (.ref aQ)
 form:∃ kvs:List (Key×V),KD P w K aF kvs∧∀ p,p<ji→∃ q,yL kvs (Sum.inl (p:Int))=some (.ref q)∧jJ K q ((zq p).map V.str)
 rang:∃ kvs:List (Key×V),KD P w K aR kvs∧∀ e∈zNo,∃ q,yL kvs (Sum.inr e.1)=some (.ref q)∧jJ K q [.int e.2.1,.int e.2.2]
 chan:∃ kvs:List (Key×V),KD P w K aC kvs∧(∀ p,p<ji→(yL kvs (Sum.inl (p:Int))).isSome=zE2 p)∧∀ p,p<ji→zE2 p=true→∃ q k sp,yL kvs (Sum.inl (p:Int))=some (.ref q)∧W.keepIn K (.ref q)=true∧k≤6∧zPG P w K mg base q k ["book","numbers"] sp∧∀ vs H Q E,zF4 CB CM CT p vs H Q E→sp vs H Q E
 ques:∃ kvs:List (Key×V),KD P w K aQ kvs∧∀ p,p<ji→zE2 p=false→∃ q k,yL kvs (Sum.inl (p:Int))=some (.ref q)∧W.keepIn K (.ref q)=true∧k≤6∧zPG P w K mg base q k ["book","numbers"] (wW CB CM CT p)
section
variable {P:Program}{w:World}{K:W.Frag}{mg:Str→Option Value}{base:Heap}{CB CM CT aF aR aC aQ:Addr}
def zKT:Sp:=fun vs H Q _=>∃ p:Nat,vs=[.int p]∧p<ji∧Q (.bl (zE2 p)) H
theorem zBj:zL ["place"] ["place"] (zE yy):=by trivial
theorem zGD (D:zJ K mg "is_change" yy) (T:TD P w K mg base CB CM CT aF aR aC aQ):Has P w K mg base "is_change" 1 ["place"] zKT:=by
 have nd:=zBj.nd
 refine jo D zBj (L2.bA1 fun _ _ _ _ _ _ _=>rfl) ?_ ?_
 ·rintro vs H Q E ⟨p,rfl,_⟩;rfl
 ·rintro f cdv A outer s H vs Q E hr ⟨p,rfl,hp,k⟩;refine⟨_,(zI (zP (zOE (zOp (pv 0) (w9 T.mCHANGES))))),?_⟩;obtain⟨kvs,hk,h1,_⟩:=T.chan;refine⟨_,rfl,aC,kvs,.inl (p:Int),rfl,hk,rfl,?_⟩;rw [h1 p hp];exact k
def zKU:Sp:=fun vs H Q _=>∃ p:Nat,vs=[.int p]∧p<ji∧Q (.int ((zq p).length:Nat)) H
theorem vh:zL ["place"] ["place"] (zE jr):=by trivial
theorem zAD (D:zJ K mg "count_of_numbers" jr) (T:TD P w K mg base CB CM CT aF aR aC aQ):Has P w K mg base "count_of_numbers" 1 ["place"] zKU:=by
 have nd:=vh.nd
 refine jo D vh (L2.bA1 fun _ _ _ _ _ _ _=>rfl) ?_ ?_
 ·rintro vs H Q E ⟨p,rfl,_⟩;rfl
 ·rintro f cdv A outer s H vs Q E hr ⟨p,rfl,hp,k⟩;refine⟨_,(zI (zP (zh jN (by rfl) T.n_len boot_len (zB (zA7 (w9 T.mFORMS) (pv 0) (fun _ _=>rfl)) zG)))),?_⟩;obtain⟨kvs,hk,h1⟩:=T.form;obtain⟨q,hv,hq⟩:=h1 p hp;refine⟨_,rfl,aF,kvs,.inl (p:Int),_,rfl,hk,rfl,hv,q,_,rfl,.inr (hq.sq H),?_⟩;rw [length_map];exact k
def zMZ:Sp:=fun vs H Q _=>∃ p:Nat,vs=[.int p]∧p<ji∧Q (.bl (zDl p)) H
theorem zNp:∀ p,p<ji→inV (.str "time") ((zq p).map V.str)=zDl p:=by decide +kernel
theorem zD5:∀ (l:List Str),(l.map V.str).all zET=true
 | []=>rfl
 | _::r=>by rw [map_cons,List.all_cons,zD5 r];rfl
theorem zCy:zL ["place"] ["place"] (zE wP):=by trivial
theorem zG6 (D:zJ K mg "has_time" wP) (T:TD P w K mg base CB CM CT aF aR aC aQ):Has P w K mg base "has_time" 1 ["place"] zMZ:=by
 have nd:=zCy.nd
 refine jo D zCy (L2.bA1 fun _ _ _ _ _ _ _=>rfl) ?_ ?_
 ·rintro vs H Q E ⟨p,rfl,_⟩;rfl
 ·rintro f cdv A outer s H vs Q E hr ⟨p,rfl,hp,k⟩;refine⟨_,(zI (zP (yJ zJe zOD (zA7 (w9 T.mFORMS) (pv 0) (fun _ _=>rfl)) (by with_unfolding_all rfl)))),?_⟩;obtain⟨kvs,hk,h1⟩:=T.form;obtain⟨q,hv,hq⟩:=h1 p hp;refine⟨_,rfl,aF,kvs,.inl (p:Int),_,rfl,hk,rfl,hv,q,_,rfl,.inr (hq.sq H),rfl,zD5 _,?_⟩;rw [← zNp p hp] at k;exact k
def zKV:Sp:=fun vs H Q _=>∃ (p:Nat) (nl:Addr) (ns:List Int),vs=[.int p,.ref nl]∧p<ji∧H nl=some (.lst (ns.map V.int))∧ns.length=(zq p).length∧∀ H',Kp [] H H'→Q (.bl (vZ p ns)) H'
theorem zCz:∀ {xs:List Str}{ns:List Int}{i:Nat}{x:Str}{n:Int},xs[i]? = some x→ns[i]? = some n→Vbdeai.inR n (ja x).1 (ja x).2=false→j3 xs ns=false
 | x::xs,n::ns,0,_,_,rfl,rfl,h=>by unfold j3;rw [h];rfl
 | x::xs,n::ns,i+1,_,_,h1,h2,h=>by unfold j3;rw [zCz (getElem?_cons_succ▸h1) (getElem?_cons_succ▸h2) h,Bool.and_false]
theorem zD6:∀ {xs:List Str}{ns:List Int},(∀ (i:Nat) (x:Str) (n:Int),xs[i]? = some x→ns[i]? = some n→Vbdeai.inR n (ja x).1 (ja x).2=true)→j3 xs ns=true
 | [],_,_=>by unfold j3;rfl
 | _::_,[],_=>by unfold j3;rfl
 | x::xs,n::ns,h=>by
  have a:j3 xs ns=true:=zD6 fun i x n h1 h2=>h (i+1) x n (List.getElem?_cons_succ.trans h1) (List.getElem?_cons_succ.trans h2);have b:Vbdeai.inR n (ja x).1 (ja x).2=true:=h 0 x n rfl rfl;unfold j3;rw [a,b];rfl
theorem zIr:∀ p,p<ji→∀ x∈zq p,(x,ja x)∈zNo:=by decide +kernel
theorem xk:zL ["place","numbers","word","number","ends"] ["place","numbers"] (zE vD):=by trivial
theorem zC0 (D:zJ K mg "are_in_range" vD) (T:TD P w K mg base CB CM CT aF aR aC aQ):Has P w K mg base "are_in_range" 1 ["place","numbers"] zKV:=by
 have nd:=xk.nd
 refine jo D xk (L2.bA2 fun _ _ _ _ _ _ _ _=>rfl) ?_ ?_
 ·rintro vs H Q E ⟨p,nl,ns,rfl,_⟩;rfl
 ·rintro f cdv A outer s H vs Q E hr ⟨p,nl,ns,rfl,hp,hnl,hlen,k⟩;refine⟨_,(zC (yT PassesOwn.never rfl (zLW rfl T.n_zip (zB (zA7 (w9 T.mFORMS) (pv 0) (fun _ _=>rfl)) (zB (pv 1) zG))) (zCL rfl (zV (zS (i:=2) nd rfl (Or.inl rfl)) (zV (zS (i:=3) nd rfl (Or.inl rfl)) jk))) (zC (zU (i:=4) nd rfl (Or.inl rfl) (zA7 (w9 T.mRANGES) (pv 2) (fun _ _=>rfl))) (zI (kj (zOF (jl zIR (pv 3) (zN zK (pv 4) zH (fun _ _=>rfl)) (jc _)) (zL7 (jl zFR (pv 3) (zN zK (pv 4) zH (fun _ _=>rfl)) (jc _)))).pt (zI (zP zOB)) jM)))) (zI (zP (zOG (yJ zON (pv 0) (zn T.cQUANTILE) (jc _)) (zJN (yJ zPT (zN zK (pv 1) zH (fun _ _=>rfl)) (zN zK (pv 1) zH (fun _ _=>rfl)) (jc _))))))),?_⟩;obtain⟨kvs,hk,h1⟩:=T.form;obtain⟨q,hv,hq⟩:=h1 p hp;obtain⟨kvr,hkr,hr1⟩:=T.rang
  refine⟨_,rfl,aF,kvs,.inl (p:Int),_,rfl,hk,rfl,hv,_,rfl,q,nl,_,_,rfl,hq.sq H,SqL.of hnl,zJz (K:=K) (a:=q) (b:=nl) (xs:=(zq p).map V.str) (ys:=ns.map V.int)
   (fun i σ H'=>∃ v2 v3 v4,σ=[some (.int p),some (.ref nl),v2,v3,v4]∧Kp [] H H'∧∀ j x n,j<i→(zq p)[j]? = some x→ns[j]? = some n→Vbdeai.inR n (ja x).1 (ja x).2=true) ?_ ?_ ?_ ?_⟩
  ·exact⟨none,none,none,rfl,Kp.refl,fun j x n h=>absurd h (Nat.not_lt_zero j)⟩
  ·rintro i σ H' ⟨v2,v3,v4,_,kp,_⟩;exact⟨hq.sq H',SqL.of (kp _ _ hnl (by simp))⟩
  ·rintro i x y σ H' t hx hy ⟨v2,v3,v4,rfl,kp,hall⟩ ht;rw [getElem?_map] at hx hy;obtain⟨x',hx',rfl⟩:=Option.map_eq_some_iff.mp hx;obtain⟨n',hn',rfl⟩:=Option.map_eq_some_iff.mp hy;obtain⟨r,hrv,hrt⟩:=hr1 _ (zIr p hp x' (List.mem_of_getElem? hx'));have kp':Kp [] H (upd H' t (.tup [.str x',.int n'])):=kp.upd (.inr (kp.none ht (by simp)));refine⟨t,_,rfl,SqT.of zA,rfl,_,_,rfl,_,_,rfl,rfl,_,rfl,aR,kvr,.inr x',_,rfl,hkr,rfl,hrv,?_⟩;refine⟨_,rfl,_,rfl,.inr (.inl ⟨r,_,0,.int (ja x').1,rfl,rfl,hrt.sq _,rfl,_,_,rfl,rfl,_,rfl,?_⟩)⟩
   have no:∀ z:Vbdeai.inR n' (ja x').1 (ja x').2=false,Q (.bl false) (upd H' t (.tup [.str x',.int n'])):=fun z=>by
    have:=k _ kp';unfold vZ at this;rw [zCz hx' hn' z,Bool.false_and] at this;exact this
   by_cases c1:n'<(ja x').1
   ·rw [decide_eq_true c1];refine yc (yc (no ?_));unfold Vbdeai.inR;rw [decide_eq_false (by omega),Bool.false_and]
   ·rw [decide_eq_false c1];refine ym ⟨_,rfl,_,rfl,.inr (.inl ⟨r,_,1,.int (ja x').2,rfl,rfl,hrt.sq _,rfl,_,_,rfl,rfl,_,rfl,?_⟩)⟩;by_cases c2:n'>(ja x').2
    ·rw [decide_eq_true c2];refine yc (no ?_);unfold Vbdeai.inR;rw [decide_eq_false (p:=n'≤_) (by omega),Bool.and_false]
    ·rw [decide_eq_false c2];refine ym ⟨_,_,_,rfl,kp',fun j x n hj h1 h2=>?_⟩
     rcases Nat.lt_succ_iff_lt_or_eq.mp hj with hj | rfl
     ·exact hall j x n hj h1 h2
     ·rw [hx'] at h1;rw [hn'] at h2
      cases h1
      cases h2
      unfold Vbdeai.inR;rw [decide_eq_true (by omega),decide_eq_true (by omega)];rfl
  ·rintro σ H' ⟨v2,v3,v4,rfl,kp,hall⟩;rw [length_map,length_map,hlen,Nat.min_self] at hall;have e:j3 (zq p) ns=true:=zD6 fun i x n h1 h2=>hall i x n (List.getElem?_eq_some_iff.mp h1).1 h1 h2;have:=k H' kp;unfold vZ at this;rw [e,Bool.true_and] at this;have hnl':=kp _ _ hnl (by simp);refine⟨_,rfl,rfl,_,rfl,?_⟩;by_cases h17:p=17
   ·subst h17;rw [decide_eq_true rfl,Bool.not_true,Bool.false_or] at this
    match ns,hlen,hnl',this with
    | [a,b,c],_,hnl',this =>
     refine ym ⟨_,rfl,.inl ⟨nl,_,1,.int b,rfl,rfl,SqL.of hnl',rfl,_,rfl,.inl ⟨nl,_,2,.int c,rfl,rfl,SqL.of hnl',rfl,_,_,rfl,rfl,this⟩⟩⟩
   ·rw [decide_eq_false h17,Bool.not_false,Bool.true_or] at this;rw [decide_eq_false (fun z=>h17 (by injection z with z;omega))];exact yc this
def zIE (CB CM CT:Addr):Sp:=fun vs H Q E=>∃ (p:Nat) (x y:V),vs=[x,.int p,y]∧p<ji∧zE2 p=true∧zF4 CB CM CT p [x,y] H Q E0
theorem zGE:zL ["book","place","numbers"] ["book","place","numbers"] (zE zCA):=by trivial
theorem zKW (D:zJ K mg "change" zCA) (T:TD P w K mg base CB CM CT aF aR aC aQ):Has P w K mg base "change" 7 ["book","place","numbers"] (zIE CB CM CT):=by
 have nd:=zGE.nd
 refine jo D zGE (L2.bA3 fun _ _ _ _ _ _ _ _ _=>rfl) ?_ ?_
 ·rintro vs H Q E ⟨p,x,y,rfl,_⟩;rfl
 ·rintro f cdv A outer s H vs Q E hr ⟨p,x,y,rfl,hp,hc,h⟩;refine⟨_,(zI (zP (zHp (zA7 (w9 T.mCHANGES) (pv 1) (fun _ _=>rfl)) (zB (pv 0) (zB (pv 2) zG))))),?_⟩;obtain⟨kvs,hk,_,h1⟩:=T.chan;obtain⟨q,k,sp,hv,hkeep,hk5,hA,hsp⟩:=h1 p hp hc;replace h:=hsp _ _ _ _ h;exact⟨_,rfl,aC,kvs,.inl (p:Int),_,rfl,hk,rfl,hv,q,rfl,hkeep,_,rfl,_,rfl,k,_,_,hA,hr.mono (by omega),h⟩
def zD7 (CB CM CT:Addr):Sp:=fun vs H Q E=>∃ (p:Nat) (x y:V),vs=[x,.int p,y]∧p<ji∧zE2 p=false∧wW CB CM CT p [x,y] H Q E0
theorem zC1:zL ["book","place","numbers"] ["book","place","numbers"] (zE wQ):=by trivial
theorem zG7 (D:zJ K mg "question" wQ) (T:TD P w K mg base CB CM CT aF aR aC aQ):Has P w K mg base "question" 7 ["book","place","numbers"] (zD7 CB CM CT):=by
 have nd:=zC1.nd
 refine jo D zC1 (L2.bA3 fun _ _ _ _ _ _ _ _ _=>rfl) ?_ ?_
 ·rintro vs H Q E ⟨p,x,y,rfl,_⟩;rfl
 ·rintro f cdv A outer s H vs Q E hr ⟨p,x,y,rfl,hp,hc,h⟩;refine⟨_,(zI (zP (zHp (zA7 (w9 T.mQUESTIONS) (pv 1) (fun _ _=>rfl)) (zB (pv 0) (zB (pv 2) zG))))),?_⟩;obtain⟨kvs,hk,h1⟩:=T.ques;obtain⟨q,k,hv,hkeep,hk5,hA⟩:=h1 p hp hc;exact⟨_,rfl,aQ,kvs,.inl (p:Int),_,rfl,hk,rfl,hv,q,rfl,hkeep,_,rfl,_,rfl,k,_,_,hA,hr.mono (by omega),h⟩
end
end Mb
namespace Mb
open PySem PySem.Spec PyProof.Rows L2
abbrev yz:Stmt:=top 81
theorem zLs (p:Nat):zDl p=true↔zH1 p:=by
 unfold zDl zH1;simp only [Bool.or_eq_true,decide_eq_true_eq]
theorem zC2:ja "time"=(0,1000000000000000000):=by decide +kernel
theorem y8:ja "meter"=(0,255):=by decide +kernel
theorem zIF:ja "name"=(1,1000000000):=by decide +kernel
theorem zAx:ja "amount"=(1,1000000000):=by decide +kernel
theorem zAE:ja "table"=(0,63):=by decide +kernel
theorem zQg:ja "class count"=(1,100):=by decide +kernel
theorem zG8:ja "value"=(0,63):=by decide +kernel
theorem zKX:ja "numerator"=(-1000000000000000000,1000000000000000000):=by decide +kernel
theorem zKY:ja "denominator"=(1,1000000000000000000):=by decide +kernel
theorem zQh:ja "width numerator"=(1,1000000000000000000):=by decide +kernel
theorem zO4:ja "part"=(0,1000000000):=by decide +kernel
theorem zNq:ja "whole"=(1,1000000000):=by decide +kernel
theorem zO5 {p:Nat}{ns:List Int}(hp:p<ji) (hl:ns.length=(zq p).length):rng p ns=vZ p ns:=by
 unfold ji at hp;refine Bool.eq_iff_iff.mpr ?_
 refine match p,ns,hl with
 | 0,[a,b,c,d],_=>?_
 | 1,[a,b,c],_=>?_
 | 2,[a,b,c],_=>?_
 | 3,[a,b,c],_=>?_
 | 4,[a,b,c,d,e,f],_=>by simp only [vZ,rg,zq,j3,Nat.reduceEqDiff,decide_false,decide_true,Bool.not_true,Bool.not_false,Bool.true_or,Bool.false_or,zC2,y8,zIF,zAx,zAE,zQg,zKX,zKY,zQh,zG8,okT,okM,okX,okK,okQ,Bool.and_true,Bool.and_eq_true,zm,decide_eq_true_eq];omega
 | 5,[a,b,c,d],_=>?_
 | 6,[a,b,c,d],_=>?_
 | 7,[a],_=>?_
 | 8,[a],_=>?_
 | 9,[a,b],_=>?_
 | 10,[a],_=>?_
 | 11,[a],_=>?_
 | 12,[a],_=>?_
 | 13,[a],_=>?_
 | 14,[a],_=>?_
 | 15,[a],_=>?_
 | 16,[a],_=>?_
 | 17,[a,b,c],_ =>by 
  show(okK a&&(Vbdeai.inR c 1 1000000000&&Vbdeai.inR b 0 c))=true↔(j3 ["table","part","whole"] [a,b,c]&&(!decide (17=17)||decide (b≤c)))=true;simp only [j3,zAE,zO4,zNq,okK,decide_true,Bool.not_true,Bool.false_or,Bool.and_true,Bool.and_eq_true,zm,decide_eq_true_eq];omega
 | 18,[a,b,c],_=>?_
 | 19,[a],_=>?_
 | 20,[a,b,c],_=>?_
 | 21,[],_=>Iff.rfl
 | 22,[],_=>Iff.rfl
 | 23,[],_=>Iff.rfl
 | p+24,_,_=>by omega
 all_goals simp only [vZ,rg,zq,j3,Nat.reduceEqDiff,decide_false,decide_true,Bool.not_true,Bool.not_false,Bool.true_or,Bool.false_or,zC2,y8,zIF,zAx,zAE,zQg,zKX,zKY,zQh,zG8,okT,okM,okX,okK,okQ,Bool.and_true,Bool.and_eq_true]
theorem zMa:∀ p,p<ji→(zq p).length=cnt p:=by decide +kernel
section
variable {CB CM CT:Addr}{H H':Hp}{L:Lay}{b:Bank}
theorem zc.clockStep (B:zc CB CM CT H L b){t:Nat}{dx:Addr}(h:H'=upd H L.bk (.ins CB dx (bf t b.since L.lm L.lt L.ll))):zc CB CM CT H' L { b with clock:=t }:=by
 subst h;have t0:jd H (upd H L.bk (.ins CB dx (bf t b.since L.lm L.lt L.ll))):=jd.upd (B.notup (r := .bk) trivial)
 have o:Out (fun r=>r = .bk) L b H (upd H L.bk (.ins CB dx (bf t b.since L.lm L.lt L.ll))):=fun r hr n ob e=>by
  rw [zD (show L.at r≠L.bk from B.ne (r:=r) (r' := .bk) hr trivial n)];exact e
 exact⟨B.inj,⟨dx,zA⟩,o .lm trivial nofun _ B.lm,o .lt trivial nofun _ B.lt,o .ll trivial nofun _ B.ll,fun i hi=>B.meter o t0 hi nofun nofun nofun,fun i hi hc=>B.table o t0 hi hc nofun nofun,fun i hi=>B.line o t0 hi nofun⟩
theorem zIs (b:Bank) (t:Nat):∀ r,live { b with clock:=t } r↔live b r:=fun r=>by cases r<;>exact Iff.rfl
end
theorem zQi {α:Type}(x:α) (xs:List α):atI (x::xs) 0=some x:=by
 unfold atI ixN;rw [if_pos (by decide),if_pos (by rw [length_cons];omega)];rfl
theorem zO6 {X G:Prop}(f:X→G) (x:X):G:=f x
def zIG (CB CM CT:Addr):Sp:=fun vs H Q _=>∃ (L:Lay) (b:Bank) (p:Nat) (nl:Addr) (ns:List Int) (n:Nat),vs=[.ref L.bk,.int p,.ref nl]∧zc CB CM CT H L b∧zw n b∧n<500∧H nl=some (.lst (ns.map V.int))∧(∀ r,live b r→L.at r≠nl) ∧
 p<ji∧ns.length=(zq p).length ∧
 ∀ H' L' q,zc CB CM CT H' L' (Vbdeai.step b [(p:Int)::ns]).1→H' q=some (.lst ((Vbdeai.step b [(p:Int)::ns]).2.map V.int))→(∀ r,live (Vbdeai.step b [(p:Int)::ns]).1 r→L'.at r≠q)→(∀ a o,H a=some o→(∀ r,live b r→L.at r≠a)→a≠q) →
  zDF L b H H'→zCY L L' b (Vbdeai.step b [(p:Int)::ns]).1 H→L'.bk=L.bk→Q (.ref q) H'
section
variable {P:Program}{w:World}{K:W.Frag}{mg:Str→Option Value}{base:Heap}{CB CM CT aF aR aC aQ:Addr}
theorem zBk:zL ["book","place","numbers","outcome"] ["book","place","numbers"] (zE yz):=by trivial
theorem zGF (D:zJ K mg "answer_of" yz) (T:TD P w K mg base CB CM CT aF aR aC aQ)
  (zDY:Has P w K mg base "are_in_range" 1 ["place","numbers"] zKV) (zEA:Has P w K mg base "has_time" 1 ["place"] zMZ) (zHJ:Has P w K mg base "is_change" 1 ["place"] zKT)
  (zLv:Has P w K mg base "change" 7 ["book","place","numbers"] (zIE CB CM CT)) (zIv:Has P w K mg base "question" 7 ["book","place","numbers"] (zD7 CB CM CT)) :
  Has P w K mg base "answer_of" 8 ["book","place","numbers"] (zIG CB CM CT):=by
 have nd:=zBk.nd
 refine jo D zBk (L2.bA3 fun _ _ _ _ _ _ _ _ _=>rfl) ?_ ?_
 ·rintro vs H Q E ⟨L,b,p,nl,ns,n,rfl,_⟩;rfl
 ·rintro f cdv A outer s H vs Q E hr ⟨L,b,p,nl,ns,n,rfl,B,ok,hn,hnl,sep,hp,hlen,k⟩;refine⟨_,(zC (kj (zHc (vU (vO zDY (hr.mono (by decide)) (zB (pv 1) (zB (pv 2) zG))) (fun _=>rfl))) (zI (zP (jO (zB (zn T.cOUT_OF_RANGE) zG)))) jM) (zC (kj (zJM (vU (vO zEA (hr.mono (by decide)) (zB (pv 1) zG)) (fun _=>rfl)) (zGZ (jl zIR (zN zK (pv 2) zH (fun _ _=>rfl)) (zO (pv 0) rfl) (jc _)))).pt (zI (zP (jO (zB (zn T.cBEFORE_CLOCK) zG)))) jM) (zC (kj (zHc (vU (vO zHJ (hr.mono (by decide)) (zB (pv 1) zG)) (fun _=>rfl))) (zI (zP (vO zIv (hr.mono (by decide)) (zB (pv 0) (zB (pv 1) (zB (pv 2) zG)))))) jM) (zC (zU (i:=3) nd rfl (Or.inl rfl) (vO zLv (hr.mono (by decide)) (zB (pv 0) (zB (pv 1) (zB (pv 2) zG))))) (zC (kj (zJM (jl zGa (pv 3) (zn T.cDONE) (jc _)) (zGZ (vU (vO zEA (hr.mono (by decide)) (zB (pv 1) zG)) (fun _=>rfl)))).pt (zI (jV (pv 0) (zN zK (pv 2) zH (fun _ _=>rfl)) rfl)) jM) (zI (zP (jO (zB (pv 3) zG))))))))),?_⟩;have er:=zO5 hp hlen;have hcnt:ns.length=cnt p:=hlen.trans (zMa p hp);have hp24:p<24:=hp;refine⟨_,rfl,_,rfl,p,nl,ns,rfl,hp,hnl,hlen,fun H1 k1=>?_⟩;rw [← er];obtain⟨B1,F1⟩:=B.same k1;have hnl1:=k1 _ _ hnl (by simp);refine⟨_,rfl,?_⟩
  have fin:∀ (H2:Hp) (a:List Int) (q:Addr),(Vbdeai.step b [(p:Int)::ns])=(b,a)→H2 q=some (.lst (a.map V.int))→H q=none→Kp [] H H2→Q (.ref q) H2:=fun H2 a q e hq hn k2=>by
   obtain⟨B2,F2⟩:=B.same k2
   have e1:(Vbdeai.step b [(p:Int)::ns]).1=b:=by rw [e]
   have e2:(Vbdeai.step b [(p:Int)::ns]).2=a:=by rw [e]
   refine k H2 L q (by rw [e1];exact B2) (by rw [e2];exact hq) (by
    rw [e1];intro r hr z;obtain⟨o,ho,_⟩:=B.there r hr;rw [z,hn] at ho
    cases ho) (fun a o ha _ z=>by rw [z,hn] at ha;cases ha) F2 (by rw [e1];exact zCY.refl) rfl
  have one:∀ (x:Int),(Vbdeai.step b [(p:Int)::ns])=(b,[x])→∀ q,H1 q=none→Q (.ref q) (upd H1 q (.lst [.int x])):=fun x e q hq=>fin _ [x] q e zA (k1.none hq (by simp)) (k1.upd (.inr (k1.none hq (by simp))))
  cases hrg:rng p ns with
  | false =>
   refine yc ⟨(by show 1≤sizeLine;decide),fun q hq=>one (-1) (zK6 (by omega) hcnt hrg) q hq⟩
  | true =>
   refine ym ⟨_,rfl,p,rfl,hp,_,rfl,?_⟩
   have hat:zDl p=true→∃ t:Nat,ns.headD 0=(t:Int)∧atI (ns.map V.int) 0=some (.int (t:Int)):=fun hT=>by
    obtain⟨t,r,rfl⟩:=zCJ hT hrg;exact⟨t,rfl,zQi _ _⟩
   by_cases early:zDl p=true∧ns.headD 0<(b.clock:Int)
   ·obtain⟨hT,hlt⟩:=early;obtain⟨t,ht,ha⟩:=hat hT;obtain⟨dxb,hbk⟩:=B1.bk;rw [hT];refine yc ⟨_,rfl,.inl ⟨nl,_,0,.int (t:Int),rfl,rfl,SqL.of hnl1,ha,_,rfl,L.bk,CB,dxb,_,_,rfl,hbk,T.clBook,T.b1,bf1,_,_,rfl,rfl,_,rfl,?_⟩⟩;rw [ht] at hlt;rw [decide_eq_true hlt];refine yc ⟨(by show 1≤sizeLine;decide),fun q hq=>one (-3) ?_ q hq⟩;obtain⟨t',r,rfl⟩:=zCJ hT hrg;have ht':(t':Int)=(t:Int):=ht;exact zIO hT hrg (by omega)
   have late:zDl p=true→(b.clock:Int)≤ns.headD 0:=fun hT=>by
    by_cases z:(b.clock:Int)≤ns.headD 0
    ·exact z
    ·exact absurd ⟨hT,by omega⟩ early
   refine' zO6 ?f ?x
   case f =>
    intro q
    cases hT:zDl p with
    | false=>exact ym (ym q)
    | true =>
     obtain⟨t,ht,ha⟩:=hat hT;obtain⟨dxb,hbk⟩:=B1.bk;refine yc ⟨_,rfl,.inl ⟨nl,_,0,.int (t:Int),rfl,rfl,SqL.of hnl1,ha,_,rfl,L.bk,CB,dxb,_,_,rfl,hbk,T.clBook,T.b1,bf1,_,_,rfl,rfl,_,rfl,?_⟩⟩;have:=late hT;rw [decide_eq_false (by omega)];exact ym q
   case x =>
    refine⟨_,rfl,p,rfl,hp,_,rfl,?_⟩
    cases hC:zE2 p with
    | false =>
     have hp10:10≤p∧p≤22:=by
      unfold zE2 at hC;simp only [Bool.or_eq_false_iff,decide_eq_false_iff_not] at hC;omega
     exact yc ⟨_,rfl,_,rfl,_,rfl,p,.ref L.bk,.ref nl,rfl,hp,hC,L,b,nl,ns,n,rfl,B1,ok,hn,hnl1,hrg,fun H2 q hq hnq k2=>fin H2 _ q (Prod.ext (zK7 hp10.1 hp10.2 hcnt) rfl) hq (k1.none hnq (by simp)) (Kp.trans k1 k2)⟩
    | true =>
     have hp9:p≤9∨p=23:=by
      unfold zE2 at hC;simp only [Bool.or_eq_true,decide_eq_true_eq] at hC;exact hC
     refine ym ⟨_,rfl,_,rfl,_,rfl,p,.ref L.bk,.ref nl,rfl,hp,hC,L,b,nl,ns,n,rfl,B1,ok,hn,hnl1,sep,hrg,fun z=>late ((zLs p).mpr z),fun H2 L' B2 F2 G2 e2=>?_⟩;have st:=zGW (b:=b) hp9 hrg late;generalize hb1:(eff p b ns).1=b1 at st B2 G2;generalize hx1:(eff p b ns).2=x1 at st ⊢;have FF:zDF L b H H2:=fun a o h1 h2=>F2 a o (F1 a o h1 h2) h2
     have GG:zCY L L' b b1 H:=fun r hr=>by
      rcases G2 r hr with z | z
      ·exact .inl z
      ·exact .inr (k1.none z (by simp))
     have hnl2:H2 nl=some (.lst (ns.map V.int)):=F2 nl _ hnl1 sep
     have done:∀ (H3:Hp) (b2:Bank),zc CB CM CT H3 L' b2→Vbdeai.step b [(p:Int)::ns]=(b2,[x1])→zDF L b H H3→zCY L L' b b2 H→∀ q,H3 q=none→Q (.ref q) (upd H3 q (.lst [.int x1])):=fun H3 b2 B3 e F3 G3 q hq=>by
      have e1:(Vbdeai.step b [(p:Int)::ns]).1=b2:=by rw [e]
      have ea:(Vbdeai.step b [(p:Int)::ns]).2=[x1]:=by rw [e]
      obtain⟨B4,_⟩:=B3.same (H':=upd H3 q (.lst [.int x1])) (Kp.refl.upd (.inr hq))
      have nq:∀ a o,H a=some o→(∀ r,live b r→L.at r≠a)→a≠q:=fun a o h1 h2 z=>by
       have:=F3 a o h1 h2;rw [z,hq] at this
       cases this
      refine k _ L' q (by rw [e1];exact B4) (by rw [ea];exact zA) (by
       rw [e1];intro r hr z;obtain⟨o,ho,_⟩:=B3.there r hr;rw [z,hq] at ho
       cases ho) nq (fun a o h1 h2=>by rw [zD (nq a o h1 h2)];exact F3 a o h1 h2) (by rw [e1];exact G3) e2
     refine⟨_,rfl,rfl,_,rfl,?_⟩;by_cases hz:x1=0∧zDl p=true
     ·obtain⟨z1,hT⟩:=hz;rw [if_pos ⟨z1,hT⟩] at st;obtain⟨t,ht,ha⟩:=hat hT;obtain⟨dx2,hbk2⟩:=B2.bk;rw [e2] at hbk2;rw [decide_eq_true (by rw [z1])];refine yc ⟨_,rfl,p,rfl,hp,_,rfl,?_⟩;rw [hT];refine yc ⟨_,rfl,.inl ⟨nl,_,0,.int (t:Int),rfl,rfl,SqL.of hnl2,ha,_,rfl,L.bk,CB,dx2,_,rfl,hbk2,T.clBook,T.b1,(by show 5<1000;decide),?_⟩⟩;rw [jW bp1];rw [ht,toNat_natCast] at st;have B3:=B2.clockStep (t:=t) (dx:=dx2) rfl;rw [e2] at B3
      refine⟨_,rfl,(by show 1≤sizeLine;decide),done _ { b1 with clock:=t } B3 st (fun a o h1 h2=>?_) (fun r hr=>GG r ((zIs b1 t r).mp hr) |>.imp id id)⟩
      rw [zD (show a≠L.bk from fun z=>h2 .bk trivial z.symm)];exact FF a o h1 h2
     ·rw [if_neg hz] at st;refine' zO6 ?g ?y
      case g =>
       intro q;by_cases z1:x1=0
       ·rw [decide_eq_true (by rw [z1])];refine yc ⟨_,rfl,p,rfl,hp,_,rfl,?_⟩
        cases hT:zDl p with
        | true=>exact absurd ⟨z1,hT⟩ hz
        | false=>exact ym q
       ·rw [decide_eq_false (fun z=>z1 (by injection z))];exact ym (ym q)
      case y=>exact⟨_,rfl,(by show 1≤sizeLine;decide),done _ b1 B2 st FF GG⟩
end
end Mb
namespace Mb
open PySem PySem.Spec PyProof.Rows L2
abbrev vi:Stmt:=top 80
def zD8 (K:W.Frag):Sp:=fun vs H Q _=>∃ (a:Addr) (ns:List Int),vs=[.ref a]∧SqL K H a (ns.map V.int)∧PyVbdeai.answers_asked ns=true∧ns.length≤16000∧∀ (H':Hp) (p:Addr),H' p=some (.lst ((PyVbdeai.answers ns).map V.int))→Q (.ref p) H'
theorem SqL.kp {K:W.Frag}{H H':Hp}{a:Addr}{xs:List V}(h:SqL K H a xs) (k:Kp [] H H'):SqL K H' a xs:=by
 rcases h with (h | ⟨o,h⟩) | h
 ·exact .inl (.inl (k _ _ h (by simp)))
 ·exact .inl (.inr ⟨o,k _ _ h (by simp)⟩)
 ·exact .inr h
theorem zLt (xs:List V) (i j:Nat) (h:j≤xs.length) (hi:i≤j):zKk xs (some (i:Int)) (some (j:Int))=(xs.drop i).take (j-i):=by
 unfold zKk;rw [HT.sIx_nat,HT.sIx_nat,Nat.min_eq_left h,Nat.min_eq_left (by omega)]
theorem zc.off {CB CM CT:Addr}{H:Hp}{L:Lay}{b:Bank}{an:Addr}{xs ys:List V}(B:zc CB CM CT H L b) (h:∀ r,live b r→L.at r≠an) (ha:H an=some (.lst xs)):zc CB CM CT (upd H an (.lst ys)) L b:=by
 have t0:jd H (upd H an (.lst ys)):=jd.upd fun zs e=>by rw [ha] at e;cases e
 have o:Out (fun _=>False) L b H (upd H an (.lst ys)):=fun r hr n ob e=>by
  rw [zD (h r hr)];exact e
 obtain⟨dx,hb⟩:=B.bk;exact⟨B.inj,⟨dx,o .bk trivial nofun _ hb⟩,o .lm trivial nofun _ B.lm,o .lt trivial nofun _ B.lt,o .ll trivial nofun _ B.ll,fun i hi=>B.meter o t0 hi nofun nofun nofun,fun i hi hc=>B.table o t0 hi hc nofun nofun,fun i hi=>B.line o t0 hi nofun⟩
section
variable {P:Program}{w:World}{K:W.Frag}{mg:Str→Option Value}{base:Heap}{CB CM CT aF aR aC aQ:Addr}
theorem zD9:zL ["calls","book","answered","at","place","behind","answer"] ["calls"] (zE vi):=by trivial
def zP6 (CB CM CT:Addr) (H:Hp) (a an:Addr) (ns:List Int) (i:Nat) (bk:Addr) (H':Hp):Prop:=∃ (L:Lay) (b:Bank) (n f:Nat) (cs:List (List (List Int))) (out:List Int),L.bk=bk∧i≤ns.length∧zc CB CM CT H' L b∧zw n b∧n+cs.length≤400 ∧
 PyFlat.calls PyVbdeai.shape f (ns.drop i)=some cs∧H' an=some (.lst (out.map V.int))∧(∀ r,live b r→L.at r≠an)∧H an=none∧(∀ r,live b r→H (L.at r)=none)∧Kp [] H H'∧out++PyFlat.told (PyFlat.played Vbdeai.step b cs)=PyVbdeai.answers ns∧out.length≤n*1011
theorem zGG (hpl:∀ p:Nat,p≤23→p<ji) (T:TD P w K mg base CB CM CT aF aR aC aQ) (zKd:zLU P w K mg base "Book" CB 4 ["self"] (zMU CB CM CT))
  (zAy:Has P w K mg base "count_of_numbers" 1 ["place"] zKU) (zHK:Has P w K mg base "answer_of" 8 ["book","place","numbers"] (zIG CB CM CT)):zAA P w K mg base ["calls","book","answered","at","place","behind","answer"] "answers" vi 8 (zD8 K):=by
 have nd:=zD9.nd
 ·rintro f cdv A outer s H vs Q E hr ⟨a,ns,rfl,hns,hask,hlen,k⟩;refine⟨_,(zC (zU (i:=1) nd rfl (Or.inl rfl) (zOn zKd (hr.mono (by decide)))) (zC (zU (i:=2) nd rfl (Or.inl rfl) (jO zG)) (zC (zU (i:=3) nd rfl (Or.inl rfl) zH) (zC (zEO PassesOwn.never (jl zIR (pv 3) (zh jN (by rfl) T.n_len boot_len (zB (pv 0) zG)) (jc _)) (zC (zU (i:=4) nd rfl (Or.inl rfl) (zN zK (pv 0) (pv 3) (fun _ _=>rfl))) (zC (zU (i:=5) nd rfl (Or.inl rfl) (jI zCM (jI zCM (pv 3) zH) (vO zAy (hr.mono (by decide)) (zB (pv 4) zG)))) (zC (zU (i:=6) nd rfl (Or.inl rfl) (vO zHK (hr.mono (by decide)) (zB (pv 1) (zB (pv 4) (zB (zHh zJd (pv 0) (zGc (jI zCM (pv 3) zH)) (zGc (pv 5))) zG))))) (zC (jP (ww F.plainAttrs_list F.slot_list_append F.type_list_append kD (pv 2) (zB (zh jN (by rfl) T.n_len boot_len (zB (pv 6) zG)) zG))) (zC (jP (ww F.plainAttrs_list F.slot_list_extend F.type_list_extend zFa (pv 2) (zB (pv 6) zG))) (zI (zU (i:=3) nd rfl (Or.inl rfl) (pv 5))))))))) (zI (zP (pv 2))))))),?_⟩;obtain⟨cs,hcs,hc4⟩:=zGL hask;intro bk dx hbk hdx nex;refine⟨bk,dx,rfl,zA,fun H1 L e1 B1 F1 k1=>⟨rfl,?_⟩⟩
  have kp1:Kp [] H H1:=fun c o e _=>by
   have n1:c≠bk:=fun z=>by rw [z,hbk] at e;cases e
   have n2:c≠dx:=fun z=>by rw [z,hdx] at e;cases e
   refine k1 c o ?_ (by simpa using n1);rw [zD n1,zD n2];exact e
  have lv1:∀ r,live Vbdeai.start r→H (L.at r)=none:=fun r hr=>by
   by_cases z:r = .bk
   ·subst z;show H L.bk=none;rw [e1];exact hbk
   ·have:=F1 r hr z
    have n1:L.at r≠bk:=fun z=>by rw [z,zA] at this;cases this
    have n2:L.at r≠dx:=fun z=>by rw [z,zD nex,zA] at this;cases this
    rw [zD n1,zD n2] at this;exact this
  refine⟨zero_le _,fun an han=>?_⟩
  have lvan:∀ r,live Vbdeai.start r→L.at r≠an:=fun r hr z=>by
   obtain⟨o,ho,_⟩:=B1.there r hr;rw [z,han] at ho
   cases ho
  have kp2:Kp [] H (upd H1 an (.lst [])):=kp1.upd (.inr (kp1.none han (by simp)));refine⟨fun m σ H'=>∃ i v4 v5 v6,m=ns.length-i∧σ=[some (.ref a),some (.ref bk),some (.ref an),some (.int (i:Nat)),v4,v5,v6]∧zP6 CB CM CT H a an ns i bk H',⟨ns.length,0,none,none,none,rfl,rfl,L,Vbdeai.start,0,ns.length,cs,[],e1,zero_le _,(B1.same (Kp.refl.upd (.inr han))).1,zHZ,by omega,hcs,zA,lvan,kp1.none han (by simp),lv1,kp2,(zIK hcs).symm,zero_le _⟩,?_⟩;rintro m σ H' ⟨i,v4,v5,v6,rfl,rfl,L,b,n,f',cs,out,eb,hi,B,ok,hn,hc,han',sepa,hanN,lvN,kp,hout,hol⟩;have hns':=SqL.kp hns kp;refine⟨_,rfl,_,rfl,a,_,rfl,.inl hns',_,_,rfl,rfl,_,rfl,?_⟩;rw [length_map];by_cases hlt:i<ns.length
  ·rw [decide_eq_true (by omega)];refine yc ⟨fun σ' H'=>∃ i' v4 v5 v6,i<i'∧σ'=[some (.ref a),some (.ref bk),some (.ref an),some (.int (i':Nat)),v4,v5,v6]∧zP6 CB CM CT H a an ns i' bk H',?_,?_⟩
   ·rintro σ' H'' ⟨i',u4,u5,u6,hii,rfl,lo⟩
    have:i'≤ns.length:=by obtain⟨_,_,_,_,_,_,_,z,_⟩:=lo;exact z
    exact⟨ns.length-i',by omega,i',u4,u5,u6,rfl,rfl,lo⟩
   obtain⟨p0,hp0⟩:∃ p,ns[i]? = some p:=⟨_,getElem?_eq_getElem hlt⟩
   have ed:ns.drop i=p0::ns.drop (i+1):=by
    rw [List.drop_eq_getElem_cons hlt];rw [getElem?_eq_getElem hlt] at hp0
    cases hp0
    rfl
   rw [ed] at hc;obtain⟨q1,q2,q3,cs',f'',rfl,hc'⟩:=zIJ hc;obtain⟨p,rfl⟩:∃ p:Nat,p0=(p:Int):=⟨p0.toNat,by omega⟩;rw [toNat_natCast] at q3 hc' hout hn hc;have hp:p<ji:=hpl p (by omega);have hcp:=zMa p hp;rw [length_drop] at q3;refine⟨_,rfl,_,rfl,.inl ⟨a,_,i,.int (p:Int),rfl,rfl,hns',yK (by rw [getElem?_map,hp0];rfl),?_⟩⟩;refine⟨_,rfl,_,_,rfl,rfl,_,rfl,p,rfl,hp,_,_,rfl,rfl,?_⟩
   have hcut:zKk (ns.map V.int) (some ((i:Int)+1)) (some ((i:Int)+1+((zq p).length:Nat)))=((ns.drop (i+1)).take (cnt p)).map V.int:=by
    have:=zLt (ns.map V.int) (i+1) (i+1+cnt p) (by rw [length_map];omega) (by omega);rw [← hcp,Nat.add_sub_cancel_left,hcp,← List.map_drop,← List.map_take] at this;rw [← this,hcp];rfl
   refine⟨_,rfl,_,rfl,_,rfl,_,rfl,_,_,rfl,rfl,_,rfl,_,rfl,_,rfl,a,_,rfl,hns',fun nl hnl=>?_⟩;rw [hcut]
   have hnlen:((ns.drop (i+1)).take (cnt p)).length=cnt p:=by rw [length_take,length_drop];omega
   generalize hnums:(ns.drop (i+1)).take (cnt p)=nums at hnlen hout ⊢;have kpn:Kp [] H' (upd H' nl (.lst (nums.map V.int))):=Kp.refl.upd (.inr hnl);have B2:=(B.same kpn).1
   have sepn:∀ r,live b r→L.at r≠nl:=fun r hr z=>by
    obtain⟨o,ho,_⟩:=B.there r hr;rw [z,hnl] at ho
    cases ho
   have han2:=kpn _ _ han' (by simp);have kpH:Kp [] H (upd H' nl (.lst (nums.map V.int))):=Kp.trans kp kpn;have hnl2:(upd H' nl (.lst (nums.map V.int))) nl=some (.lst (nums.map V.int)):=zA;generalize upd H' nl (.lst (nums.map V.int))=H2 at kpn B2 han2 kpH hnl2 ⊢
   have hn5:n<500:=by omega
   refine⟨L,b,p,nl,nums,n,by rw [eb];rfl,B2,ok,hn5,hnl2,sepn,hp,by rw [hcp];exact hnlen,fun H3 L' q B3 hq sepq nq F3 G3 e3=>?_⟩;have hal:=zK0 ok hn5 [(p:Int)::nums];have ok':=zMo ok [(p:Int)::nums];rw [zGM,zI2] at hout;generalize Vbdeai.step b [(p:Int)::nums]=sb at hal ok' hout B3 hq sepq G3;have han3:H3 an=some (.lst (out.map V.int)):=F3 an _ han2 sepa;have naq:an≠q:=nq an _ han2 sepa
   have kp3:Kp [] H H3:=fun c o e _=>F3 c o (kpH c o e (by simp)) fun r hr z=>by
    have:=lvN r hr;rw [z,e] at this
    cases this
   have sep':∀ r,live sb.1 r→L'.at r≠an:=fun r hr=>by
    rcases G3 r hr with ⟨z1,z2⟩ | z
    ·rw [z2];exact sepa r z1
    ·intro y;rw [y,han2] at z
     cases z
   have lv':∀ r,live sb.1 r→H (L'.at r)=none:=fun r hr=>by
    rcases G3 r hr with ⟨z1,z2⟩ | z
    ·rw [z2];exact lvN r z1
    ·exact kpH.none z (by simp)
   have hsz:sizeLine=16777216:=sizeLine_eq;refine⟨_,rfl,.inl ⟨rfl,_,SqL.of han3⟩,_,rfl,q,_,rfl,.inl (SqL.of hq),an,_,_,rfl,rfl,han3,by rw [length_map];omega,?_⟩;refine⟨_,rfl,.inl ⟨rfl,_,SqL.of zA⟩,_,rfl,an,q,_,_,rfl,rfl,zA,by rw [zD naq.symm];exact hq,by rw [length_append,length_map,length_map,List.length_singleton];omega,?_⟩;refine⟨_,rfl,i+1+cnt p,_,_,_,by omega,by rw [hcp];rfl,L',sb.1,n+1,f'',cs',out++[(sb.2.length:Int)]++sb.2,by rw [e3,eb],by omega,(B3.off sep' han3).off sep' zA,ok',by rw [length_cons] at hn;omega,by rw [List.drop_drop] at hc';exact hc',?_,sep',hanN,lv',(kp3.upd (.inr hanN)).upd (.inr hanN),?_,?_⟩
   ·rw [zA,length_map,map_append,map_append];rfl
   ·rw [← hout,append_assoc,append_assoc];rfl
   ·rw [length_append,length_append,List.length_singleton];omega
  ·rw [decide_eq_false (by omega)];refine ym ⟨_,rfl,?_⟩;have:ns.drop i=[]:=List.drop_of_length_le (by omega);rw [this] at hc;rw [zI1 hc] at hout
   have e:out=PyVbdeai.answers ns:=by rw [← hout];exact(append_nil out).symm
   rw [e] at han';exact k H' an han'
end
end Mb
namespace Mb
open PySem PySem.Spec PyProof.Rows L2
section
variable {P:Program}{w:World}{K:W.Frag}{mg:Str→Option Value}{CB CM CT:Addr}
theorem wv {p:Nat}:∀ vs H Q E,zBq CB CM CT p vs H Q E→vs.length=2:=by
 rintro vs H Q E ⟨L,b,nl,ns,n,rfl,_⟩;rfl
theorem zNr {p:Nat}:∀ vs H Q E,zF4 CB CM CT p vs H Q E→vs.length=2:=by
 rintro vs H Q E ⟨L,b,nl,ns,n,rfl,_⟩;rfl
theorem ya {p:Nat}:∀ vs H Q E,wW CB CM CT p vs H Q E→vs.length=2:=by
 rintro vs H Q E ⟨L,b,nl,ns,n,rfl,_⟩;rfl
theorem zO7:∀ vs H Q E,zD8 K vs H Q E→vs.length=1:=by
 rintro vs H Q E ⟨a,ns,rfl,_⟩;rfl
theorem whole (T:TX K mg CB CM CT) (hpl:∀ p:Nat,p≤23→p<ji)
  (vR:zJ K mg "common_divisor" kG)
  (zE7:zJ K mg "lowest" zB5)
  (zBL:zJ K mg "quotient" wG)
  (zC7:zJ K mg "is_less" zAc)
  (zBM:zJ K mg "least_of" wI)
  (xB:zJ K mg "greatest_of" vX)
  (j5:zJ K mg "common_denominator" je)
  (zE8:zJ K mg "sum_of" zAd)
  (zHL:zJ K mg "minus" zEj)
  (zE9:zJ K mg "square" zB7)
  (zBN:zJ K mg "spans_of" va)
  (j6:zJ K mg "lengths_by_content" jf)
  (zAF:zJ K mg "spells_of" yr)
  (xl:zJ K mg "numbers_of" yC)
  (xC:zJ K mg "integral_of" kU)
  (xD:zJ K mg "length_from" kW)
  (zC8:zJ K mg "do_join" zAg)
  (zC9:zJ K mg "do_quit" zAh)
  (zBO:zJ K mg "do_raise" wJ)
  (zBP:zJ K mg "do_lower" wK)
  (zAG:zJ K mg "do_define" yt)
  (zBQ:zJ K mg "do_tally" wL)
  (zFA:zJ K mg "do_set" zB8)
  (zBR:zJ K mg "do_reset" yX)
  (zDA:zJ K mg "do_tick" zAi)
  (zBS:zJ K mg "do_merge" wM)
  (zBT:zJ K mg "do_clear" wO)
  (xm:zJ K mg "tell_meter" vL)
  (xo:zJ K mg "tell_means" yF)
  (xE:zJ K mg "tell_levels" kX)
  (xF:zJ K mg "tell_inside" vY)
  (zAH:zJ K mg "tell_busy" yu)
  (xp:zJ K mg "tell_table" vM)
  (yP:zJ K mg "tell_classes" vB)
  (vm:zJ K mg "tell_quantile" kY)
  (xq:zJ K mg "tell_below" yH)
  (xr:zJ K mg "tell_value" vN)
  (xu:zJ K mg "tell_above" yI)
  (xw:zJ K mg "tell_clock" yG)
  (zAI:zJ K mg "tell_live" vg)
  (zAJ:zJ K mg "is_change" yy)
  (zFB:zJ K mg "change" zCA)
  (ke:zJ K mg "count_of_numbers" jr)
  (zBU:zJ K mg "has_time" wP)
  (yQ:zJ K mg "are_in_range" vD)
  (zDB:zJ K mg "area_of" xh)
  (zBV:zJ K mg "question" wQ)
  (yR:zJ K mg "guests_since" vA)
  (zAK:zJ K mg "answer_of" yz)
  (xG:zT K CM "admit" "Meter.admit" jR)
  (vn:zT K CM "dismiss" "Meter.dismiss" zz)
  (kL:zT K CM "shift_loose" "Meter.shift_loose" zf)
  (jt:zT K CM "shift_content" "Meter.shift_content" za)
  (kn:zT K CM "note_anew" "Meter.note_anew" zo)
  (xH:zT K CM "spans" "Meter.spans" jS)
  (vp:zT K CM "is_live" "Meter.is_live" jC)
  (vq:zT K CT "is_like" "Table.is_like" jA)
  (vt:zT K CT "slot_of" "Table.slot_of" jB)
  (ju:zT K CT "class_weights" "Table.class_weights" zW)
  (jv:zT K CT "weight_in_all" "Table.weight_in_all" zX)
  (j7:zT K CT "weight_below" "Table.weight_below" zY)
  (kq:zT K CT "weight_at" "Table.weight_at" zi)
  (kr:zT K CT "first_sum" "Table.first_sum" zj)
  (kf:zT K CT "second_sum" "Table.second_sum" zd)
  (jq:zT K CT "rising_tallies" "Table.rising_tallies" zQ)
  (vS:zT K CT "quantile" "Table.quantile" zu)
  (xx:yU K mg "Meter" CM "Meter.__init__" jY) (xy:yU K mg "Table" CT "Table.__init__" jZ) (zAL:yU K mg "Book" CB "Book.__init__" jn) (x6:zT K CB "renew" "Book.renew" jD)
  (hC:∃ a q0 q1 q2 q3 q4 q5 q6 q7 q8 q9 q10,mg "CHANGES"=some (.ref a)∧KD P w K a [((Sum.inl (0):Key),V.ref q0),((Sum.inl (1):Key),V.ref q1),((Sum.inl (2):Key),V.ref q2),((Sum.inl (3):Key),V.ref q3),((Sum.inl (4):Key),V.ref q4),((Sum.inl (5):Key),V.ref q5),((Sum.inl (6):Key),V.ref q6),((Sum.inl (7):Key),V.ref q7),((Sum.inl (8):Key),V.ref q8),((Sum.inl (9):Key),V.ref q9),((Sum.inl (23):Key),V.ref q10)]∧mg "do_join"=some (.ref q0)∧mg "do_quit"=some (.ref q1)∧mg "do_raise"=some (.ref q2)∧mg "do_lower"=some (.ref q3)∧mg "do_define"=some (.ref q4)∧mg "do_tally"=some (.ref q5)∧mg "do_set"=some (.ref q6)∧mg "do_reset"=some (.ref q7)∧mg "do_tick"=some (.ref q8)∧mg "do_merge"=some (.ref q9)∧mg "do_clear"=some (.ref q10))
  (hQ:∃ a q0 q1 q2 q3 q4 q5 q6 q7 q8 q9 q10 q11 q12,mg "QUESTIONS"=some (.ref a)∧KD P w K a [((Sum.inl (10):Key),V.ref q0),((Sum.inl (11):Key),V.ref q1),((Sum.inl (12):Key),V.ref q2),((Sum.inl (13):Key),V.ref q3),((Sum.inl (14):Key),V.ref q4),((Sum.inl (15):Key),V.ref q5),((Sum.inl (16):Key),V.ref q6),((Sum.inl (17):Key),V.ref q7),((Sum.inl (18):Key),V.ref q8),((Sum.inl (19):Key),V.ref q9),((Sum.inl (20):Key),V.ref q10),((Sum.inl (21):Key),V.ref q11),((Sum.inl (22):Key),V.ref q12)]∧mg "tell_meter"=some (.ref q0)∧mg "tell_means"=some (.ref q1)∧mg "tell_levels"=some (.ref q2)∧mg "tell_inside"=some (.ref q3)∧mg "tell_busy"=some (.ref q4)∧mg "tell_table"=some (.ref q5)∧mg "tell_classes"=some (.ref q6)∧mg "tell_quantile"=some (.ref q7)∧mg "tell_below"=some (.ref q8)∧mg "tell_value"=some (.ref q9)∧mg "tell_above"=some (.ref q10)∧mg "tell_clock"=some (.ref q11)∧mg "tell_live"=some (.ref q12))
  (hF:∃ a q0 q1 q2 q3 q4 q5 q6 q7 q8 q9 q10 q11 q12 q13 q14 q15 q16 q17 q18 q19 q20 q21 q22 q23,mg "FORMS"=some (.ref a)∧KD P w K a [((Sum.inl (0):Key),V.ref q0),((Sum.inl (1):Key),V.ref q1),((Sum.inl (2):Key),V.ref q2),((Sum.inl (3):Key),V.ref q3),((Sum.inl (4):Key),V.ref q4),((Sum.inl (5):Key),V.ref q5),((Sum.inl (6):Key),V.ref q6),((Sum.inl (7):Key),V.ref q7),((Sum.inl (8):Key),V.ref q8),((Sum.inl (9):Key),V.ref q9),((Sum.inl (10):Key),V.ref q10),((Sum.inl (11):Key),V.ref q11),((Sum.inl (12):Key),V.ref q12),((Sum.inl (13):Key),V.ref q13),((Sum.inl (14):Key),V.ref q14),((Sum.inl (15):Key),V.ref q15),((Sum.inl (16):Key),V.ref q16),((Sum.inl (17):Key),V.ref q17),((Sum.inl (18):Key),V.ref q18),((Sum.inl (19):Key),V.ref q19),((Sum.inl (20):Key),V.ref q20),((Sum.inl (21):Key),V.ref q21),((Sum.inl (22):Key),V.ref q22),((Sum.inl (23):Key),V.ref q23)]∧jJ K q0 [V.str "time",V.str "meter",V.str "name",V.str "amount"]∧jJ K q1 [V.str "time",V.str "meter",V.str "name"]∧jJ K q2 [V.str "time",V.str "meter",V.str "amount"]∧jJ K q3 [V.str "time",V.str "meter",V.str "amount"]∧jJ K q4 [V.str "table",V.str "class count",V.str "numerator",V.str "denominator",V.str "width numerator",V.str "denominator"]∧jJ K q5 [V.str "table",V.str "amount",V.str "numerator",V.str "denominator"]∧jJ K q6 [V.str "time",V.str "value",V.str "numerator",V.str "denominator"]∧jJ K q7 [V.str "time"]∧jJ K q8 [V.str "time"]∧jJ K q9 [V.str "table",V.str "table"]∧jJ K q10 [V.str "meter"]∧jJ K q11 [V.str "meter"]∧jJ K q12 [V.str "meter"]∧jJ K q13 [V.str "meter"]∧jJ K q14 [V.str "meter"]∧jJ K q15 [V.str "table"]∧jJ K q16 [V.str "table"]∧jJ K q17 [V.str "table",V.str "part",V.str "whole"]∧jJ K q18 [V.str "table",V.str "numerator",V.str "denominator"]∧jJ K q19 [V.str "value"]∧jJ K q20 [V.str "value",V.str "numerator",V.str "denominator"]∧jJ K q21 []∧jJ K q22 []∧jJ K q23 [])
  (hR:∃ a q0 q1 q2 q3 q4 q5 q6 q7 q8 q9 q10 q11,mg "RANGES"=some (.ref a)∧KD P w K a [((Sum.inr "time":Key),V.ref q0),((Sum.inr "meter":Key),V.ref q1),((Sum.inr "name":Key),V.ref q2),((Sum.inr "amount":Key),V.ref q3),((Sum.inr "table":Key),V.ref q4),((Sum.inr "class count":Key),V.ref q5),((Sum.inr "value":Key),V.ref q6),((Sum.inr "numerator":Key),V.ref q7),((Sum.inr "denominator":Key),V.ref q8),((Sum.inr "width numerator":Key),V.ref q9),((Sum.inr "part":Key),V.ref q10),((Sum.inr "whole":Key),V.ref q11)]∧jJ K q0 [V.int 0,V.int 1000000000000000000]∧jJ K q1 [V.int 0,V.int 255]∧jJ K q2 [V.int 1,V.int 1000000000]∧jJ K q3 [V.int 1,V.int 1000000000]∧jJ K q4 [V.int 0,V.int 63]∧jJ K q5 [V.int 1,V.int 100]∧jJ K q6 [V.int 0,V.int 63]∧jJ K q7 [V.int (-1000000000000000000),V.int 1000000000000000000]∧jJ K q8 [V.int 1,V.int 1000000000000000000]∧jJ K q9 [V.int 1,V.int 1000000000000000000]∧jJ K q10 [V.int 0,V.int 1000000000]∧jJ K q11 [V.int 1,V.int 1000000000])
  : ∀ base:Heap,zAA P w K mg base ["calls","book","answered","at","place","behind","answer"] "answers" vi 8 (zD8 K):=by
 intro base;obtain⟨aC,c0,c1,c2,c3,c4,c5,c6,c7,c8,c9,c10,mC,kC,m0,m1,m2,m3,m4,m5,m6,m7,m8,m9,m10⟩:=hC;obtain⟨aQ,u0,u1,u2,u3,u4,u5,u6,u7,u8,u9,u10,u11,u12,mQ,kQ,n0,n1,n2,n3,n4,n5,n6,n7,n8,n9,n10,n11,n12⟩:=hQ;obtain⟨aF,f0,f1,f2,f3,f4,f5,f6,f7,f8,f9,f10,f11,f12,f13,f14,f15,f16,f17,f18,f19,f20,f21,f22,f23,mF,kF,t0,t1,t2,t3,t4,t5,t6,t7,t8,t9,t10,t11,t12,t13,t14,t15,t16,t17,t18,t19,t20,t21,t22,t23⟩:=hF;obtain⟨aR,r0,r1,r2,r3,r4,r5,r6,r7,r8,r9,r10,r11,mR,kR,s0,s1,s2,s3,s4,s5,s6,s7,s8,s9,s10,s11⟩:=hR;have TM:=T.toTxM;have zO8:=zA9 (P:=P) (w:=w) (base:=base) vR;have zr:=zJ2 zE7 zO8 T.n_abs;have kN:=zGp zBL zr;have zHM:=xP (P:=P) (w:=w) (mg:=mg) (base:=base) jt TM;have zKe:=wU kL TM zHM;have zHB:=zDL xG TM zHM;have zC3:=zBp vn TM zHM;have zNs:=zCa (P:=P) (w:=w) (base:=base) yR;have zO9:=zAZ kn TM T.n_len zNs;have zHD:=zEg (P:=P) (w:=w) (base:=base) xx TM;have jz:=zGy (P:=P) (w:=w) (base:=base) zBN T;have vQ:=zDO xH T jz;have zPA:=zBt (P:=P) (w:=w) (base:=base) vp T;have zHC:=zEr (P:=P) (w:=w) (base:=base) xy T;have zC4:=zBr (P:=P) (w:=w) (base:=base) vq T;have zBJ:=zEv x6 T zHD;have zKd:=zF3 zAL T zBJ;have zMb:=zIl (P:=P) (w:=w) (base:=base) zDB T;have zIH:=zIi (P:=P) (w:=w) (base:=base) zC7;have zKf:=zGw zBM zIH;have zEB:=zDN xB zIH;have zII:=xb j5 zO8;have zPB:=zKD zE8 T zII zr;have zHH:=zLf zHL zr;have zE6:=zKF (P:=P) (w:=w) (base:=base) zE9;have zKg:=xc (P:=P) (w:=w) (base:=base) j6;have zLw:=zFx (P:=P) (w:=w) (base:=base) zAF;have zDC:=zEn (P:=P) (w:=w) (base:=base) xl;have zIw:=zDP (P:=P) (w:=w) (base:=base) xC T;have zPC:=zDQ xD T zIH;have zMc:=xQ (P:=P) (w:=w) (base:=base) jv T;have zLx:=xg j7 T zIH;have zPr:=zAl (P:=P) (w:=w) (base:=base) kq T;have zNt:=zAm kr T zPB;have zLy:=zAC kf T zPB;have zPD:=zBs (P:=P) (w:=w) (base:=base) vt T;have zQj:=xR ju T zPD;have zLz:=yx jq T zII;have zNu:=zBI vS T zMc zLz
 have A0:=jQ zC8 m0 zDz (L2.bA2 fun _ _ _ _ _ _ _ _=>rfl) (wv (p:=0)) (zFy (P:=P) (w:=w) (base:=base) T zHB)
 have A1:=jQ zC9 m1 zD0 (L2.bA2 fun _ _ _ _ _ _ _ _=>rfl) (wv (p:=1)) (zFz (P:=P) (w:=w) (base:=base) T zC3)
 have A2:=jQ zBO m2 zCi (L2.bA2 fun _ _ _ _ _ _ _ _=>rfl) (wv (p:=2)) (zEp (P:=P) (w:=w) (base:=base) T zKe)
 have A3:=jQ zBP m3 zCj (L2.bA2 fun _ _ _ _ _ _ _ _=>rfl) (wv (p:=3)) (zEq (P:=P) (w:=w) (base:=base) T zKe)
 have A4:=jQ zAG m4 zBf (L2.bA2 fun _ _ _ _ _ _ _ _=>rfl) (wv (p:=4)) (zDR (P:=P) (w:=w) (base:=base) T zr zHC)
 have A5:=jQ zBQ m5 zCk (L2.bA2 fun _ _ _ _ _ _ _ _=>rfl) (wv (p:=5)) (zEt (P:=P) (w:=w) (base:=base) T zr)
 have A6:=jQ zFA m6 zF1 (L2.bA2 fun _ _ _ _ _ _ _ _=>rfl) (wv (p:=6)) (zG1 (P:=P) (w:=w) (base:=base) T zr)
 have A7:=jQ zBR m7 zCn (L2.bA2 fun _ _ _ _ _ _ _ _=>rfl) (wv (p:=7)) (zEy (P:=P) (w:=w) (base:=base) T zO9)
 have A8:=jQ zDA m8 zD2 (L2.bA2 fun _ _ _ _ _ _ _ _=>rfl) (wv (p:=8)) (zF0 (P:=P) (w:=w) (base:=base) T )
 have A9:=jQ zBS m9 zCl (L2.bA2 fun _ _ _ _ _ _ _ _=>rfl) (wv (p:=9)) (zEu (P:=P) (w:=w) (base:=base) T zC4)
 have A23:=jQ zBT m10 zCm (L2.bA2 fun _ _ _ _ _ _ _ _=>rfl) (zNr (p:=23)) (zEw (P:=P) (w:=w) (base:=base) T zBJ)
 have A10:=jQ xm n0 zAo (L2.bA2 fun _ _ _ _ _ _ _ _=>rfl) (ya (p:=10)) (zCo (P:=P) (w:=w) (base:=base) T vQ zMb)
 have A11:=jQ xo n1 zAp (L2.bA2 fun _ _ _ _ _ _ _ _=>rfl) (ya (p:=11)) (zCp (P:=P) (w:=w) (base:=base) T vQ zMb kN zDC)
 have A12:=jQ xE n2 wu (L2.bA2 fun _ _ _ _ _ _ _ _=>rfl) (ya (p:=12)) (zBv (P:=P) (w:=w) (base:=base) T vQ zKg)
 have A13:=jQ xF n3 wt (L2.bA2 fun _ _ _ _ _ _ _ _=>rfl) (ya (p:=13)) (zBu (P:=P) (w:=w) (base:=base) T )
 have A14:=jQ zAH n4 zBi (L2.bA2 fun _ _ _ _ _ _ _ _=>rfl) (ya (p:=14)) (zDU (P:=P) (w:=w) (base:=base) T vQ zLw)
 have A15:=jQ xp n5 zAv (L2.bA2 fun _ _ _ _ _ _ _ _=>rfl) (ya (p:=15)) (zCw (P:=P) (w:=w) (base:=base) T zr zHH zE6 zKf zEB zDC zMc zNt zLy)
 have A16:=jQ yP n6 xi (L2.bA2 fun _ _ _ _ _ _ _ _=>rfl) (ya (p:=16)) (zBH (P:=P) (w:=w) (base:=base) T zQj)
 have A17:=jQ vm n7 xO (L2.bA2 fun _ _ _ _ _ _ _ _=>rfl) (ya (p:=17)) (zAw (P:=P) (w:=w) (base:=base) T zNu)
 have A18:=jQ xq n8 zAs (L2.bA2 fun _ _ _ _ _ _ _ _=>rfl) (ya (p:=18)) (zCs (P:=P) (w:=w) (base:=base) T zr zLx zPr)
 have A19:=jQ xr n9 zAu (L2.bA2 fun _ _ _ _ _ _ _ _=>rfl) (ya (p:=19)) (zCv (P:=P) (w:=w) (base:=base) T jz zIw zKf zEB zDC kN)
 have A20:=jQ xu n10 zAt (L2.bA2 fun _ _ _ _ _ _ _ _=>rfl) (ya (p:=20)) (zCu (P:=P) (w:=w) (base:=base) T jz zPC)
 have A21:=jQ xw n11 zAq (L2.bA2 fun _ _ _ _ _ _ _ _=>rfl) (ya (p:=21)) (zCq (P:=P) (w:=w) (base:=base) T )
 have A22:=jQ zAI n12 zBh (L2.bA2 fun _ _ _ _ _ _ _ _=>rfl) (ya (p:=22)) (zDT (P:=P) (w:=w) (base:=base) T zPA)
 have W:TD P w K mg base CB CM CT aF aR aC aQ:=by
  refine⟨T,mF,mR,mC,mQ,⟨_,kF,fun p hp=>?_⟩,⟨_,kR,fun e he=>?_⟩,⟨_,kC,fun p hp=>?_,fun p hp hc=>?_⟩,⟨_,kQ,fun p hp hc=>?_⟩⟩
  ·match p,hp with
   | 0,_=>exact⟨f0,rfl,t0⟩
   | 1,_=>exact⟨f1,rfl,t1⟩
   | 2,_=>exact⟨f2,rfl,t2⟩
   | 3,_=>exact⟨f3,rfl,t3⟩
   | 4,_=>exact⟨f4,rfl,t4⟩
   | 5,_=>exact⟨f5,rfl,t5⟩
   | 6,_=>exact⟨f6,rfl,t6⟩
   | 7,_=>exact⟨f7,rfl,t7⟩
   | 8,_=>exact⟨f8,rfl,t8⟩
   | 9,_=>exact⟨f9,rfl,t9⟩
   | 10,_=>exact⟨f10,rfl,t10⟩
   | 11,_=>exact⟨f11,rfl,t11⟩
   | 12,_=>exact⟨f12,rfl,t12⟩
   | 13,_=>exact⟨f13,rfl,t13⟩
   | 14,_=>exact⟨f14,rfl,t14⟩
   | 15,_=>exact⟨f15,rfl,t15⟩
   | 16,_=>exact⟨f16,rfl,t16⟩
   | 17,_=>exact⟨f17,rfl,t17⟩
   | 18,_=>exact⟨f18,rfl,t18⟩
   | 19,_=>exact⟨f19,rfl,t19⟩
   | 20,_=>exact⟨f20,rfl,t20⟩
   | 21,_=>exact⟨f21,rfl,t21⟩
   | 22,_=>exact⟨f22,rfl,t22⟩
   | 23,_=>exact⟨f23,rfl,t23⟩
   | p+24,h=>exact absurd h (by unfold ji;omega)
  ·rcases List.mem_cons.mp he with rfl | he
   ·exact⟨r0,rfl,s0⟩
   rcases List.mem_cons.mp he with rfl | he
   ·exact⟨r1,rfl,s1⟩
   rcases List.mem_cons.mp he with rfl | he
   ·exact⟨r2,rfl,s2⟩
   rcases List.mem_cons.mp he with rfl | he
   ·exact⟨r3,rfl,s3⟩
   rcases List.mem_cons.mp he with rfl | he
   ·exact⟨r4,rfl,s4⟩
   rcases List.mem_cons.mp he with rfl | he
   ·exact⟨r5,rfl,s5⟩
   rcases List.mem_cons.mp he with rfl | he
   ·exact⟨r6,rfl,s6⟩
   rcases List.mem_cons.mp he with rfl | he
   ·exact⟨r7,rfl,s7⟩
   rcases List.mem_cons.mp he with rfl | he
   ·exact⟨r8,rfl,s8⟩
   rcases List.mem_cons.mp he with rfl | he
   ·exact⟨r9,rfl,s9⟩
   rcases List.mem_cons.mp he with rfl | he
   ·exact⟨r10,rfl,s10⟩
   rcases List.mem_cons.mp he with rfl | he
   ·exact⟨r11,rfl,s11⟩
   cases he
  ·match p,hp with
   | 0,_=>rfl
   | 1,_=>rfl
   | 2,_=>rfl
   | 3,_=>rfl
   | 4,_=>rfl
   | 5,_=>rfl
   | 6,_=>rfl
   | 7,_=>rfl
   | 8,_=>rfl
   | 9,_=>rfl
   | 10,_=>rfl
   | 11,_=>rfl
   | 12,_=>rfl
   | 13,_=>rfl
   | 14,_=>rfl
   | 15,_=>rfl
   | 16,_=>rfl
   | 17,_=>rfl
   | 18,_=>rfl
   | 19,_=>rfl
   | 20,_=>rfl
   | 21,_=>rfl
   | 22,_=>rfl
   | 23,_=>rfl
   | p+24,h=>exact absurd h (by unfold ji;omega)
  ·match p,hp,hc with
   | 0,_,_=>exact⟨c0,3,_,rfl,A0.2,by decide,A0.1,zKl (by decide)⟩
   | 1,_,_=>exact⟨c1,3,_,rfl,A1.2,by decide,A1.1,zKl (by decide)⟩
   | 2,_,_=>exact⟨c2,3,_,rfl,A2.2,by decide,A2.1,zKl (by decide)⟩
   | 3,_,_=>exact⟨c3,3,_,rfl,A3.2,by decide,A3.1,zKl (by decide)⟩
   | 4,_,_=>exact⟨c4,3,_,rfl,A4.2,by decide,A4.1,zKl (by decide)⟩
   | 5,_,_=>exact⟨c5,3,_,rfl,A5.2,by decide,A5.1,zKl (by decide)⟩
   | 6,_,_=>exact⟨c6,3,_,rfl,A6.2,by decide,A6.1,zKl (by decide)⟩
   | 7,_,_=>exact⟨c7,3,_,rfl,A7.2,by decide,A7.1,zKl (by decide)⟩
   | 8,_,_=>exact⟨c8,3,_,rfl,A8.2,by decide,A8.1,zKl (by decide)⟩
   | 9,_,_=>exact⟨c9,3,_,rfl,A9.2,by decide,A9.1,zKl (by decide)⟩
   | 10,_,z=>exact absurd z (by decide)
   | 11,_,z=>exact absurd z (by decide)
   | 12,_,z=>exact absurd z (by decide)
   | 13,_,z=>exact absurd z (by decide)
   | 14,_,z=>exact absurd z (by decide)
   | 15,_,z=>exact absurd z (by decide)
   | 16,_,z=>exact absurd z (by decide)
   | 17,_,z=>exact absurd z (by decide)
   | 18,_,z=>exact absurd z (by decide)
   | 19,_,z=>exact absurd z (by decide)
   | 20,_,z=>exact absurd z (by decide)
   | 21,_,z=>exact absurd z (by decide)
   | 22,_,z=>exact absurd z (by decide)
   | 23,_,_=>exact⟨c10,4,_,rfl,A23.2,by decide,A23.1,fun _ _ _ _ h=>h⟩
   | p+24,h,_=>exact absurd h (by unfold ji;omega)
  ·match p,hp,hc with
   | 0,_,z=>exact absurd z (by decide)
   | 1,_,z=>exact absurd z (by decide)
   | 2,_,z=>exact absurd z (by decide)
   | 3,_,z=>exact absurd z (by decide)
   | 4,_,z=>exact absurd z (by decide)
   | 5,_,z=>exact absurd z (by decide)
   | 6,_,z=>exact absurd z (by decide)
   | 7,_,z=>exact absurd z (by decide)
   | 8,_,z=>exact absurd z (by decide)
   | 9,_,z=>exact absurd z (by decide)
   | 10,_,_=>exact⟨u0,4,rfl,A10.2,by decide,A10.1⟩
   | 11,_,_=>exact⟨u1,5,rfl,A11.2,by decide,A11.1⟩
   | 12,_,_=>exact⟨u2,4,rfl,A12.2,by decide,A12.1⟩
   | 13,_,_=>exact⟨u3,1,rfl,A13.2,by decide,A13.1⟩
   | 14,_,_=>exact⟨u4,4,rfl,A14.2,by decide,A14.1⟩
   | 15,_,_=>exact⟨u5,5,rfl,A15.2,by decide,A15.1⟩
   | 16,_,_=>exact⟨u6,3,rfl,A16.2,by decide,A16.1⟩
   | 17,_,_=>exact⟨u7,5,rfl,A17.2,by decide,A17.1⟩
   | 18,_,_=>exact⟨u8,3,rfl,A18.2,by decide,A18.1⟩
   | 19,_,_=>exact⟨u9,4,rfl,A19.2,by decide,A19.1⟩
   | 20,_,_=>exact⟨u10,3,rfl,A20.2,by decide,A20.1⟩
   | 21,_,_=>exact⟨u11,1,rfl,A21.2,by decide,A21.1⟩
   | 22,_,_=>exact⟨u12,2,rfl,A22.2,by decide,A22.1⟩
   | 23,_,z=>exact absurd z (by decide)
   | p+24,h,_=>exact absurd h (by unfold ji;omega)
 have G_r:=zC0 yQ W;have G_t:=zG6 zBU W;have G_i:=zGD zAJ W;have G_n:=zAD ke W;have G_c:=zKW zFB W;have G_q:=zG7 zBV W;have G_a:=zGF zAK W G_r G_t G_i G_c G_q;exact zGG hpl W zKd G_n G_a
theorem zG9 {f:Addr}{fd:FuncData}(F:Fun K "answers" "answers" vi f fd) (h:∀ base:Heap,zAA P w K mg base ["calls","book","answered","at","place","behind","answer"] "answers" vi 8 (zD8 K)) :
  (∀ (s:Shared) (us:List Value),us.length=(["calls"]:List Str).length→BindsTo s fd ⟨us,[]⟩ ((["calls"]:List Str).zip us))∧∀ base:Heap,K.In base→base.Ns mainGlobals mg→zFS P w K mg base CX0 9 f fd ["calls"] (zD8 K):=by
 refine⟨fun s us hl=>?_,fun base _ _=>F.ok zD9 zO7 (fun cdv A outer s H vs Q E hr h'=>h base f cdv A outer s H vs Q E hr h')⟩;obtain⟨oc,od,kV,doc,pm,an,cdv,ct,osl,rfl,lk,hcd⟩:=F.ex
 have hb:zAW "answers" "answers" vi ["calls"]:=(L2.bA1 fun _ _ _ _ _ _ _=>rfl)
 exact .of_eq (hb kV doc pm an cdv ct us hl)
end
end Mb
namespace Mb
open PySem PySem.Spec PyProof.Rows L2
theorem zKZ {K:W.Frag}{h:Heap}{mg:Str→Option Value}{C:Addr}{f0:Addr}{od0 an0:Option Addr}{sl0:Array (Option Value)}{oc0 kV0 dc0 pm0 cd0 ct0:Value}{f1:Addr}{od1 an1:Option Addr}{sl1:Array (Option Value)}{oc1 kV1 dc1 pm1 cd1 ct1:Value}{f2:Addr}{od2 an2:Option Addr}{sl2:Array (Option Value)}{oc2 kV2 dc2 pm2 cd2 ct2:Value}{f3:Addr}{od3 an3:Option Addr}{sl3:Array (Option Value)}{oc3 kV3 dc3 pm3 cd3 ct3:Value}{f4:Addr}{od4 an4:Option Addr}{sl4:Array (Option Value)}{oc4 kV4 dc4 pm4 cd4 ct4:Value}{f5:Addr}{od5 an5:Option Addr}{sl5:Array (Option Value)}{oc5 kV5 dc5 pm5 cd5 ct5:Value}{f6:Addr}{od6 an6:Option Addr}{sl6:Array (Option Value)}{oc6 kV6 dc6 pm6 cd6 ct6:Value}{f7:Addr}{od7 an7:Option Addr}{sl7:Array (Option Value)}{oc7 kV7 dc7 pm7 cd7 ct7:Value}{f8:Addr}{od8 an8:Option Addr}{sl8:Array (Option Value)}{oc8 kV8 dc8 pm8 cd8 ct8:Value}{f9:Addr}{od9 an9:Option Addr}{sl9:Array (Option Value)}{oc9 kV9 dc9 pm9 cd9 ct9:Value}{f10:Addr}{od10 an10:Option Addr}{sl10:Array (Option Value)}{oc10 kV10 dc10 pm10 cd10 ct10:Value}
  (X:K.In h) (G:h.Ns mainGlobals mg) (aC:W.nsIn K mainGlobals "Table"=some (some (.ref C))) (pg:W.plainGet K C Str.empty=true) (hd:W.hasDictIn K C=true) (po:W.plainOver K C=true) (sa:W.findIn K (.ref C) "__setattr__"=some (some (.builtin "object.__setattr__"))) (mk:W.makesIn K C=true) (kc:W.keepIn K (.ref C)=true)
  (n0:W.findIn K (.ref C) "class_count"=some none) (n1:W.findIn K (.ref C) "first_bound"=some none) (n2:W.findIn K (.ref C) "width"=some none) (n3:W.findIn K (.ref C) "tallies"=some none)
  (a0:W.findIn K (.ref C) "__init__"=some (some (.ref f0))) (i0:W.isFn K (.ref f0)=true) (l0:K.lookup f0=some ⟨oc0,od0,.func (W.fnOf "__init__" "Table.__init__" (jL jZ) (zy jZ) (zE jZ) .none kV0 dc0 pm0 an0 cd0 ct0),sl0⟩) (c0:W.codeIn K cd0 "Table.__init__"=true) (k0:W.keepIn K (.ref f0)=true)
  (a1:W.findIn K (.ref C) "is_like"=some (some (.ref f1))) (i1:W.isFn K (.ref f1)=true) (l1:K.lookup f1=some ⟨oc1,od1,.func (W.fnOf "is_like" "Table.is_like" (jL jA) (zy jA) (zE jA) .none kV1 dc1 pm1 an1 cd1 ct1),sl1⟩) (c1:W.codeIn K cd1 "Table.is_like"=true) (k1:W.keepIn K (.ref f1)=true)
  (a2:W.findIn K (.ref C) "slot_of"=some (some (.ref f2))) (i2:W.isFn K (.ref f2)=true) (l2:K.lookup f2=some ⟨oc2,od2,.func (W.fnOf "slot_of" "Table.slot_of" (jL jB) (zy jB) (zE jB) .none kV2 dc2 pm2 an2 cd2 ct2),sl2⟩) (c2:W.codeIn K cd2 "Table.slot_of"=true) (k2:W.keepIn K (.ref f2)=true)
  (a3:W.findIn K (.ref C) "class_weights"=some (some (.ref f3))) (i3:W.isFn K (.ref f3)=true) (l3:K.lookup f3=some ⟨oc3,od3,.func (W.fnOf "class_weights" "Table.class_weights" (jL zW) (zy zW) (zE zW) .none kV3 dc3 pm3 an3 cd3 ct3),sl3⟩) (c3:W.codeIn K cd3 "Table.class_weights"=true) (k3:W.keepIn K (.ref f3)=true)
  (a4:W.findIn K (.ref C) "weight_in_all"=some (some (.ref f4))) (i4:W.isFn K (.ref f4)=true) (l4:K.lookup f4=some ⟨oc4,od4,.func (W.fnOf "weight_in_all" "Table.weight_in_all" (jL zX) (zy zX) (zE zX) .none kV4 dc4 pm4 an4 cd4 ct4),sl4⟩) (c4:W.codeIn K cd4 "Table.weight_in_all"=true) (k4:W.keepIn K (.ref f4)=true)
  (a5:W.findIn K (.ref C) "weight_below"=some (some (.ref f5))) (i5:W.isFn K (.ref f5)=true) (l5:K.lookup f5=some ⟨oc5,od5,.func (W.fnOf "weight_below" "Table.weight_below" (jL zY) (zy zY) (zE zY) .none kV5 dc5 pm5 an5 cd5 ct5),sl5⟩) (c5:W.codeIn K cd5 "Table.weight_below"=true) (k5:W.keepIn K (.ref f5)=true)
  (a6:W.findIn K (.ref C) "weight_at"=some (some (.ref f6))) (i6:W.isFn K (.ref f6)=true) (l6:K.lookup f6=some ⟨oc6,od6,.func (W.fnOf "weight_at" "Table.weight_at" (jL zi) (zy zi) (zE zi) .none kV6 dc6 pm6 an6 cd6 ct6),sl6⟩) (c6:W.codeIn K cd6 "Table.weight_at"=true) (k6:W.keepIn K (.ref f6)=true)
  (a7:W.findIn K (.ref C) "first_sum"=some (some (.ref f7))) (i7:W.isFn K (.ref f7)=true) (l7:K.lookup f7=some ⟨oc7,od7,.func (W.fnOf "first_sum" "Table.first_sum" (jL zj) (zy zj) (zE zj) .none kV7 dc7 pm7 an7 cd7 ct7),sl7⟩) (c7:W.codeIn K cd7 "Table.first_sum"=true) (k7:W.keepIn K (.ref f7)=true)
  (a8:W.findIn K (.ref C) "second_sum"=some (some (.ref f8))) (i8:W.isFn K (.ref f8)=true) (l8:K.lookup f8=some ⟨oc8,od8,.func (W.fnOf "second_sum" "Table.second_sum" (jL zd) (zy zd) (zE zd) .none kV8 dc8 pm8 an8 cd8 ct8),sl8⟩) (c8:W.codeIn K cd8 "Table.second_sum"=true) (k8:W.keepIn K (.ref f8)=true)
  (a9:W.findIn K (.ref C) "rising_tallies"=some (some (.ref f9))) (i9:W.isFn K (.ref f9)=true) (l9:K.lookup f9=some ⟨oc9,od9,.func (W.fnOf "rising_tallies" "Table.rising_tallies" (jL zQ) (zy zQ) (zE zQ) .none kV9 dc9 pm9 an9 cd9 ct9),sl9⟩) (c9:W.codeIn K cd9 "Table.rising_tallies"=true) (k9:W.keepIn K (.ref f9)=true)
  (a10:W.findIn K (.ref C) "quantile"=some (some (.ref f10))) (i10:W.isFn K (.ref f10)=true) (l10:K.lookup f10=some ⟨oc10,od10,.func (W.fnOf "quantile" "Table.quantile" (jL zu) (zy zu) (zE zu) .none kV10 dc10 pm10 an10 cd10 ct10),sl10⟩) (c10:W.codeIn K cd10 "Table.quantile"=true) (k10:W.keepIn K (.ref f10)=true)
  : ∃ C,Cls K C∧zZ K C "class_count"∧zZ K C "first_bound"∧zZ K C "width"∧zZ K C "tallies"∧mg "Table"=some (.ref C)∧yU K mg "Table" C "Table.__init__" jZ∧zT K C "is_like" "Table.is_like" jA∧zT K C "slot_of" "Table.slot_of" jB∧zT K C "class_weights" "Table.class_weights" zW∧zT K C "weight_in_all" "Table.weight_in_all" zX∧zT K C "weight_below" "Table.weight_below" zY∧zT K C "weight_at" "Table.weight_at" zi∧zT K C "first_sum" "Table.first_sum" zj∧zT K C "second_sum" "Table.second_sum" zd∧zT K C "rising_tallies" "Table.rising_tallies" zQ∧zT K C "quantile" "Table.quantile" zu :=
 ⟨C,⟨pg,hd,po,sa⟩,n0,n1,n2,n3,W.mg_of X G aC,⟨f0,_,j0 (st:=jZ) l0 c0 k0,⟨mk,a0,i0,kc⟩,W.mg_of X G aC⟩,⟨f1,_,j0 (st:=jA) l1 c1 k1,⟨a1,i1,k1⟩⟩,⟨f2,_,j0 (st:=jB) l2 c2 k2,⟨a2,i2,k2⟩⟩,⟨f3,_,j0 (st:=zW) l3 c3 k3,⟨a3,i3,k3⟩⟩,⟨f4,_,j0 (st:=zX) l4 c4 k4,⟨a4,i4,k4⟩⟩,⟨f5,_,j0 (st:=zY) l5 c5 k5,⟨a5,i5,k5⟩⟩,⟨f6,_,j0 (st:=zi) l6 c6 k6,⟨a6,i6,k6⟩⟩,⟨f7,_,j0 (st:=zj) l7 c7 k7,⟨a7,i7,k7⟩⟩,⟨f8,_,j0 (st:=zd) l8 c8 k8,⟨a8,i8,k8⟩⟩,⟨f9,_,j0 (st:=zQ) l9 c9 k9,⟨a9,i9,k9⟩⟩,⟨f10,_,j0 (st:=zu) l10 c10 k10,⟨a10,i10,k10⟩⟩⟩
theorem zKa {K:W.Frag}{h:Heap}{mg:Str→Option Value}{C:Addr}{f0:Addr}{od0 an0:Option Addr}{sl0:Array (Option Value)}{oc0 kV0 dc0 pm0 cd0 ct0:Value}{f1:Addr}{od1 an1:Option Addr}{sl1:Array (Option Value)}{oc1 kV1 dc1 pm1 cd1 ct1:Value}{f2:Addr}{od2 an2:Option Addr}{sl2:Array (Option Value)}{oc2 kV2 dc2 pm2 cd2 ct2:Value}{f3:Addr}{od3 an3:Option Addr}{sl3:Array (Option Value)}{oc3 kV3 dc3 pm3 cd3 ct3:Value}{f4:Addr}{od4 an4:Option Addr}{sl4:Array (Option Value)}{oc4 kV4 dc4 pm4 cd4 ct4:Value}{f5:Addr}{od5 an5:Option Addr}{sl5:Array (Option Value)}{oc5 kV5 dc5 pm5 cd5 ct5:Value}{f6:Addr}{od6 an6:Option Addr}{sl6:Array (Option Value)}{oc6 kV6 dc6 pm6 cd6 ct6:Value}{f7:Addr}{od7 an7:Option Addr}{sl7:Array (Option Value)}{oc7 kV7 dc7 pm7 cd7 ct7:Value}
  (X:K.In h) (G:h.Ns mainGlobals mg) (aC:W.nsIn K mainGlobals "Meter"=some (some (.ref C))) (pg:W.plainGet K C Str.empty=true) (hd:W.hasDictIn K C=true) (po:W.plainOver K C=true) (sa:W.findIn K (.ref C) "__setattr__"=some (some (.builtin "object.__setattr__"))) (mk:W.makesIn K C=true) (kc:W.keepIn K (.ref C)=true)
  (n0:W.findIn K (.ref C) "guests"=some none) (n1:W.findIn K (.ref C) "loose"=some none) (n2:W.findIn K (.ref C) "content"=some none) (n3:W.findIn K (.ref C) "moments"=some none) (n4:W.findIn K (.ref C) "begun"=some none) (n5:W.findIn K (.ref C) "ended"=some none) (n6:W.findIn K (.ref C) "ended_at_once"=some none) (n7:W.findIn K (.ref C) "lasted"=some none) (n8:W.findIn K (.ref C) "units_lasted"=some none)
  (a0:W.findIn K (.ref C) "__init__"=some (some (.ref f0))) (i0:W.isFn K (.ref f0)=true) (l0:K.lookup f0=some ⟨oc0,od0,.func (W.fnOf "__init__" "Meter.__init__" (jL jY) (zy jY) (zE jY) .none kV0 dc0 pm0 an0 cd0 ct0),sl0⟩) (c0:W.codeIn K cd0 "Meter.__init__"=true) (k0:W.keepIn K (.ref f0)=true)
  (a1:W.findIn K (.ref C) "admit"=some (some (.ref f1))) (i1:W.isFn K (.ref f1)=true) (l1:K.lookup f1=some ⟨oc1,od1,.func (W.fnOf "admit" "Meter.admit" (jL jR) (zy jR) (zE jR) .none kV1 dc1 pm1 an1 cd1 ct1),sl1⟩) (c1:W.codeIn K cd1 "Meter.admit"=true) (k1:W.keepIn K (.ref f1)=true)
  (a2:W.findIn K (.ref C) "dismiss"=some (some (.ref f2))) (i2:W.isFn K (.ref f2)=true) (l2:K.lookup f2=some ⟨oc2,od2,.func (W.fnOf "dismiss" "Meter.dismiss" (jL zz) (zy zz) (zE zz) .none kV2 dc2 pm2 an2 cd2 ct2),sl2⟩) (c2:W.codeIn K cd2 "Meter.dismiss"=true) (k2:W.keepIn K (.ref f2)=true)
  (a3:W.findIn K (.ref C) "shift_loose"=some (some (.ref f3))) (i3:W.isFn K (.ref f3)=true) (l3:K.lookup f3=some ⟨oc3,od3,.func (W.fnOf "shift_loose" "Meter.shift_loose" (jL zf) (zy zf) (zE zf) .none kV3 dc3 pm3 an3 cd3 ct3),sl3⟩) (c3:W.codeIn K cd3 "Meter.shift_loose"=true) (k3:W.keepIn K (.ref f3)=true)
  (a4:W.findIn K (.ref C) "shift_content"=some (some (.ref f4))) (i4:W.isFn K (.ref f4)=true) (l4:K.lookup f4=some ⟨oc4,od4,.func (W.fnOf "shift_content" "Meter.shift_content" (jL za) (zy za) (zE za) .none kV4 dc4 pm4 an4 cd4 ct4),sl4⟩) (c4:W.codeIn K cd4 "Meter.shift_content"=true) (k4:W.keepIn K (.ref f4)=true)
  (a5:W.findIn K (.ref C) "note_anew"=some (some (.ref f5))) (i5:W.isFn K (.ref f5)=true) (l5:K.lookup f5=some ⟨oc5,od5,.func (W.fnOf "note_anew" "Meter.note_anew" (jL zo) (zy zo) (zE zo) .none kV5 dc5 pm5 an5 cd5 ct5),sl5⟩) (c5:W.codeIn K cd5 "Meter.note_anew"=true) (k5:W.keepIn K (.ref f5)=true)
  (a6:W.findIn K (.ref C) "spans"=some (some (.ref f6))) (i6:W.isFn K (.ref f6)=true) (l6:K.lookup f6=some ⟨oc6,od6,.func (W.fnOf "spans" "Meter.spans" (jL jS) (zy jS) (zE jS) .none kV6 dc6 pm6 an6 cd6 ct6),sl6⟩) (c6:W.codeIn K cd6 "Meter.spans"=true) (k6:W.keepIn K (.ref f6)=true)
  (a7:W.findIn K (.ref C) "is_live"=some (some (.ref f7))) (i7:W.isFn K (.ref f7)=true) (l7:K.lookup f7=some ⟨oc7,od7,.func (W.fnOf "is_live" "Meter.is_live" (jL jC) (zy jC) (zE jC) .none kV7 dc7 pm7 an7 cd7 ct7),sl7⟩) (c7:W.codeIn K cd7 "Meter.is_live"=true) (k7:W.keepIn K (.ref f7)=true)
  : ∃ C,Cls K C∧zZ K C "guests"∧zZ K C "loose"∧zZ K C "content"∧zZ K C "moments"∧zZ K C "begun"∧zZ K C "ended"∧zZ K C "ended_at_once"∧zZ K C "lasted"∧zZ K C "units_lasted"∧mg "Meter"=some (.ref C)∧yU K mg "Meter" C "Meter.__init__" jY∧zT K C "admit" "Meter.admit" jR∧zT K C "dismiss" "Meter.dismiss" zz∧zT K C "shift_loose" "Meter.shift_loose" zf∧zT K C "shift_content" "Meter.shift_content" za∧zT K C "note_anew" "Meter.note_anew" zo∧zT K C "spans" "Meter.spans" jS∧zT K C "is_live" "Meter.is_live" jC :=
 ⟨C,⟨pg,hd,po,sa⟩,n0,n1,n2,n3,n4,n5,n6,n7,n8,W.mg_of X G aC,⟨f0,_,j0 (st:=jY) l0 c0 k0,⟨mk,a0,i0,kc⟩,W.mg_of X G aC⟩,⟨f1,_,j0 (st:=jR) l1 c1 k1,⟨a1,i1,k1⟩⟩,⟨f2,_,j0 (st:=zz) l2 c2 k2,⟨a2,i2,k2⟩⟩,⟨f3,_,j0 (st:=zf) l3 c3 k3,⟨a3,i3,k3⟩⟩,⟨f4,_,j0 (st:=za) l4 c4 k4,⟨a4,i4,k4⟩⟩,⟨f5,_,j0 (st:=zo) l5 c5 k5,⟨a5,i5,k5⟩⟩,⟨f6,_,j0 (st:=jS) l6 c6 k6,⟨a6,i6,k6⟩⟩,⟨f7,_,j0 (st:=jC) l7 c7 k7,⟨a7,i7,k7⟩⟩⟩
theorem zLu {K:W.Frag}{h:Heap}{mg:Str→Option Value}{C:Addr}{f0:Addr}{od0 an0:Option Addr}{sl0:Array (Option Value)}{oc0 kV0 dc0 pm0 cd0 ct0:Value}{f1:Addr}{od1 an1:Option Addr}{sl1:Array (Option Value)}{oc1 kV1 dc1 pm1 cd1 ct1:Value}
  (X:K.In h) (G:h.Ns mainGlobals mg) (aC:W.nsIn K mainGlobals "Book"=some (some (.ref C))) (pg:W.plainGet K C Str.empty=true) (hd:W.hasDictIn K C=true) (po:W.plainOver K C=true) (sa:W.findIn K (.ref C) "__setattr__"=some (some (.builtin "object.__setattr__"))) (mk:W.makesIn K C=true) (kc:W.keepIn K (.ref C)=true)
  (n0:W.findIn K (.ref C) "clock"=some none) (n1:W.findIn K (.ref C) "reset_time"=some none) (n2:W.findIn K (.ref C) "meters"=some none) (n3:W.findIn K (.ref C) "tables"=some none) (n4:W.findIn K (.ref C) "lines"=some none)
  (a0:W.findIn K (.ref C) "__init__"=some (some (.ref f0))) (i0:W.isFn K (.ref f0)=true) (l0:K.lookup f0=some ⟨oc0,od0,.func (W.fnOf "__init__" "Book.__init__" (jL jn) (zy jn) (zE jn) .none kV0 dc0 pm0 an0 cd0 ct0),sl0⟩) (c0:W.codeIn K cd0 "Book.__init__"=true) (k0:W.keepIn K (.ref f0)=true)
  (a1:W.findIn K (.ref C) "renew"=some (some (.ref f1))) (i1:W.isFn K (.ref f1)=true) (l1:K.lookup f1=some ⟨oc1,od1,.func (W.fnOf "renew" "Book.renew" (jL jD) (zy jD) (zE jD) .none kV1 dc1 pm1 an1 cd1 ct1),sl1⟩) (c1:W.codeIn K cd1 "Book.renew"=true) (k1:W.keepIn K (.ref f1)=true)
  : ∃ C,Cls K C∧zZ K C "clock"∧zZ K C "reset_time"∧zZ K C "meters"∧zZ K C "tables"∧zZ K C "lines"∧mg "Book"=some (.ref C)∧yU K mg "Book" C "Book.__init__" jn∧zT K C "renew" "Book.renew" jD :=
 ⟨C,⟨pg,hd,po,sa⟩,n0,n1,n2,n3,n4,W.mg_of X G aC,⟨f0,_,j0 (st:=jn) l0 c0 k0,⟨mk,a0,i0,kc⟩,W.mg_of X G aC⟩,⟨f1,_,j0 (st:=jD) l1 c1 k1,⟨a1,i1,k1⟩⟩⟩
theorem zGH {P:Program}{w:World}{K:W.Frag}{h:Heap}{mg:Str→Option Value}{a:Addr}{es:Array DictEntry}{ep:Nat}{q0:Addr}{q1:Addr}{q2:Addr}{q3:Addr}{q4:Addr}{q5:Addr}{q6:Addr}{q7:Addr}{q8:Addr}{q9:Addr}{q10:Addr}
  (X:K.In h) (G:h.Ns mainGlobals mg) (aD:W.nsIn K mainGlobals "CHANGES"=some (some (.ref a))) (lD:K.lookup a=some { cls := .type "dict",data := .dict es ep }) (sD:(a==sysModules)=false) (eD:wf w es.toList [((Sum.inl (0):Key),V.ref q0),((Sum.inl (1):Key),V.ref q1),((Sum.inl (2):Key),V.ref q2),((Sum.inl (3):Key),V.ref q3),((Sum.inl (4):Key),V.ref q4),((Sum.inl (5):Key),V.ref q5),((Sum.inl (6):Key),V.ref q6),((Sum.inl (7):Key),V.ref q7),((Sum.inl (8):Key),V.ref q8),((Sum.inl (9):Key),V.ref q9),((Sum.inl (23):Key),V.ref q10)]) (nD:([((Sum.inl (0):Key),V.non),((Sum.inl (1):Key),V.non),((Sum.inl (2):Key),V.non),((Sum.inl (3):Key),V.non),((Sum.inl (4):Key),V.non),((Sum.inl (5):Key),V.non),((Sum.inl (6):Key),V.non),((Sum.inl (7):Key),V.non),((Sum.inl (8):Key),V.non),((Sum.inl (9):Key),V.non),((Sum.inl (23):Key),V.non)].map (·.1)).Nodup)
  (u0:W.nsIn K mainGlobals "do_join"=some (some (.ref q0)))
  (u1:W.nsIn K mainGlobals "do_quit"=some (some (.ref q1)))
  (u2:W.nsIn K mainGlobals "do_raise"=some (some (.ref q2)))
  (u3:W.nsIn K mainGlobals "do_lower"=some (some (.ref q3)))
  (u4:W.nsIn K mainGlobals "do_define"=some (some (.ref q4)))
  (u5:W.nsIn K mainGlobals "do_tally"=some (some (.ref q5)))
  (u6:W.nsIn K mainGlobals "do_set"=some (some (.ref q6)))
  (u7:W.nsIn K mainGlobals "do_reset"=some (some (.ref q7)))
  (u8:W.nsIn K mainGlobals "do_tick"=some (some (.ref q8)))
  (u9:W.nsIn K mainGlobals "do_merge"=some (some (.ref q9)))
  (u10:W.nsIn K mainGlobals "do_clear"=some (some (.ref q10)))
  : ∃ a q0 q1 q2 q3 q4 q5 q6 q7 q8 q9 q10,mg "CHANGES"=some (.ref a)∧KD P w K a [((Sum.inl (0):Key),V.ref q0),((Sum.inl (1):Key),V.ref q1),((Sum.inl (2):Key),V.ref q2),((Sum.inl (3):Key),V.ref q3),((Sum.inl (4):Key),V.ref q4),((Sum.inl (5):Key),V.ref q5),((Sum.inl (6):Key),V.ref q6),((Sum.inl (7):Key),V.ref q7),((Sum.inl (8):Key),V.ref q8),((Sum.inl (9):Key),V.ref q9),((Sum.inl (23):Key),V.ref q10)]∧mg "do_join"=some (.ref q0)∧mg "do_quit"=some (.ref q1)∧mg "do_raise"=some (.ref q2)∧mg "do_lower"=some (.ref q3)∧mg "do_define"=some (.ref q4)∧mg "do_tally"=some (.ref q5)∧mg "do_set"=some (.ref q6)∧mg "do_reset"=some (.ref q7)∧mg "do_tick"=some (.ref q8)∧mg "do_merge"=some (.ref q9)∧mg "do_clear"=some (.ref q10):=⟨a,q0,q1,q2,q3,q4,q5,q6,q7,q8,q9,q10,W.mg_of X G aD,zLV lD sD eD nD,W.mg_of X G u0,W.mg_of X G u1,W.mg_of X G u2,W.mg_of X G u3,W.mg_of X G u4,W.mg_of X G u5,W.mg_of X G u6,W.mg_of X G u7,W.mg_of X G u8,W.mg_of X G u9,W.mg_of X G u10⟩
theorem zIt {P:Program}{w:World}{K:W.Frag}{h:Heap}{mg:Str→Option Value}{a:Addr}{es:Array DictEntry}{ep:Nat}{q0:Addr}{t0:Array Value}{m0:Nat}{q1:Addr}{t1:Array Value}{m1:Nat}{q2:Addr}{t2:Array Value}{m2:Nat}{q3:Addr}{t3:Array Value}{m3:Nat}{q4:Addr}{t4:Array Value}{m4:Nat}{q5:Addr}{t5:Array Value}{m5:Nat}{q6:Addr}{t6:Array Value}{m6:Nat}{q7:Addr}{t7:Array Value}{m7:Nat}{q8:Addr}{t8:Array Value}{m8:Nat}{q9:Addr}{t9:Array Value}{m9:Nat}{q10:Addr}{t10:Array Value}{m10:Nat}{q11:Addr}{t11:Array Value}{m11:Nat}{q12:Addr}{t12:Array Value}{m12:Nat}{q13:Addr}{t13:Array Value}{m13:Nat}{q14:Addr}{t14:Array Value}{m14:Nat}{q15:Addr}{t15:Array Value}{m15:Nat}{q16:Addr}{t16:Array Value}{m16:Nat}{q17:Addr}{t17:Array Value}{m17:Nat}{q18:Addr}{t18:Array Value}{m18:Nat}{q19:Addr}{t19:Array Value}{m19:Nat}{q20:Addr}{t20:Array Value}{m20:Nat}{q21:Addr}{t21:Array Value}{m21:Nat}{q22:Addr}{t22:Array Value}{m22:Nat}{q23:Addr}{t23:Array Value}{m23:Nat}
  (X:K.In h) (G:h.Ns mainGlobals mg) (aD:W.nsIn K mainGlobals "FORMS"=some (some (.ref a))) (lD:K.lookup a=some { cls := .type "dict",data := .dict es ep }) (sD:(a==sysModules)=false) (eD:wf w es.toList [((Sum.inl (0):Key),V.ref q0),((Sum.inl (1):Key),V.ref q1),((Sum.inl (2):Key),V.ref q2),((Sum.inl (3):Key),V.ref q3),((Sum.inl (4):Key),V.ref q4),((Sum.inl (5):Key),V.ref q5),((Sum.inl (6):Key),V.ref q6),((Sum.inl (7):Key),V.ref q7),((Sum.inl (8):Key),V.ref q8),((Sum.inl (9):Key),V.ref q9),((Sum.inl (10):Key),V.ref q10),((Sum.inl (11):Key),V.ref q11),((Sum.inl (12):Key),V.ref q12),((Sum.inl (13):Key),V.ref q13),((Sum.inl (14):Key),V.ref q14),((Sum.inl (15):Key),V.ref q15),((Sum.inl (16):Key),V.ref q16),((Sum.inl (17):Key),V.ref q17),((Sum.inl (18):Key),V.ref q18),((Sum.inl (19):Key),V.ref q19),((Sum.inl (20):Key),V.ref q20),((Sum.inl (21):Key),V.ref q21),((Sum.inl (22):Key),V.ref q22),((Sum.inl (23):Key),V.ref q23)]) (nD:([((Sum.inl (0):Key),V.non),((Sum.inl (1):Key),V.non),((Sum.inl (2):Key),V.non),((Sum.inl (3):Key),V.non),((Sum.inl (4):Key),V.non),((Sum.inl (5):Key),V.non),((Sum.inl (6):Key),V.non),((Sum.inl (7):Key),V.non),((Sum.inl (8):Key),V.non),((Sum.inl (9):Key),V.non),((Sum.inl (10):Key),V.non),((Sum.inl (11):Key),V.non),((Sum.inl (12):Key),V.non),((Sum.inl (13):Key),V.non),((Sum.inl (14):Key),V.non),((Sum.inl (15):Key),V.non),((Sum.inl (16):Key),V.non),((Sum.inl (17):Key),V.non),((Sum.inl (18):Key),V.non),((Sum.inl (19):Key),V.non),((Sum.inl (20):Key),V.non),((Sum.inl (21):Key),V.non),((Sum.inl (22):Key),V.non),((Sum.inl (23):Key),V.non)].map (·.1)).Nodup)
  (u0:K.lookup q0=some { cls := .type "tuple",data := .seq t0 m0 }) (z0:t0.size≤sizeLine) (v0:zt [V.str "time",V.str "meter",V.str "name",V.str "amount"] t0.toList)
  (u1:K.lookup q1=some { cls := .type "tuple",data := .seq t1 m1 }) (z1:t1.size≤sizeLine) (v1:zt [V.str "time",V.str "meter",V.str "name"] t1.toList)
  (u2:K.lookup q2=some { cls := .type "tuple",data := .seq t2 m2 }) (z2:t2.size≤sizeLine) (v2:zt [V.str "time",V.str "meter",V.str "amount"] t2.toList)
  (u3:K.lookup q3=some { cls := .type "tuple",data := .seq t3 m3 }) (z3:t3.size≤sizeLine) (v3:zt [V.str "time",V.str "meter",V.str "amount"] t3.toList)
  (u4:K.lookup q4=some { cls := .type "tuple",data := .seq t4 m4 }) (z4:t4.size≤sizeLine) (v4:zt [V.str "table",V.str "class count",V.str "numerator",V.str "denominator",V.str "width numerator",V.str "denominator"] t4.toList)
  (u5:K.lookup q5=some { cls := .type "tuple",data := .seq t5 m5 }) (z5:t5.size≤sizeLine) (v5:zt [V.str "table",V.str "amount",V.str "numerator",V.str "denominator"] t5.toList)
  (u6:K.lookup q6=some { cls := .type "tuple",data := .seq t6 m6 }) (z6:t6.size≤sizeLine) (v6:zt [V.str "time",V.str "value",V.str "numerator",V.str "denominator"] t6.toList)
  (u7:K.lookup q7=some { cls := .type "tuple",data := .seq t7 m7 }) (z7:t7.size≤sizeLine) (v7:zt [V.str "time"] t7.toList)
  (u8:K.lookup q8=some { cls := .type "tuple",data := .seq t8 m8 }) (z8:t8.size≤sizeLine) (v8:zt [V.str "time"] t8.toList)
  (u9:K.lookup q9=some { cls := .type "tuple",data := .seq t9 m9 }) (z9:t9.size≤sizeLine) (v9:zt [V.str "table",V.str "table"] t9.toList)
  (u10:K.lookup q10=some { cls := .type "tuple",data := .seq t10 m10 }) (z10:t10.size≤sizeLine) (v10:zt [V.str "meter"] t10.toList)
  (u11:K.lookup q11=some { cls := .type "tuple",data := .seq t11 m11 }) (z11:t11.size≤sizeLine) (v11:zt [V.str "meter"] t11.toList)
  (u12:K.lookup q12=some { cls := .type "tuple",data := .seq t12 m12 }) (z12:t12.size≤sizeLine) (v12:zt [V.str "meter"] t12.toList)
  (u13:K.lookup q13=some { cls := .type "tuple",data := .seq t13 m13 }) (z13:t13.size≤sizeLine) (v13:zt [V.str "meter"] t13.toList)
  (u14:K.lookup q14=some { cls := .type "tuple",data := .seq t14 m14 }) (z14:t14.size≤sizeLine) (v14:zt [V.str "meter"] t14.toList)
  (u15:K.lookup q15=some { cls := .type "tuple",data := .seq t15 m15 }) (z15:t15.size≤sizeLine) (v15:zt [V.str "table"] t15.toList)
  (u16:K.lookup q16=some { cls := .type "tuple",data := .seq t16 m16 }) (z16:t16.size≤sizeLine) (v16:zt [V.str "table"] t16.toList)
  (u17:K.lookup q17=some { cls := .type "tuple",data := .seq t17 m17 }) (z17:t17.size≤sizeLine) (v17:zt [V.str "table",V.str "part",V.str "whole"] t17.toList)
  (u18:K.lookup q18=some { cls := .type "tuple",data := .seq t18 m18 }) (z18:t18.size≤sizeLine) (v18:zt [V.str "table",V.str "numerator",V.str "denominator"] t18.toList)
  (u19:K.lookup q19=some { cls := .type "tuple",data := .seq t19 m19 }) (z19:t19.size≤sizeLine) (v19:zt [V.str "value"] t19.toList)
  (u20:K.lookup q20=some { cls := .type "tuple",data := .seq t20 m20 }) (z20:t20.size≤sizeLine) (v20:zt [V.str "value",V.str "numerator",V.str "denominator"] t20.toList)
  (u21:K.lookup q21=some { cls := .type "tuple",data := .seq t21 m21 }) (z21:t21.size≤sizeLine) (v21:zt [] t21.toList)
  (u22:K.lookup q22=some { cls := .type "tuple",data := .seq t22 m22 }) (z22:t22.size≤sizeLine) (v22:zt [] t22.toList)
  (u23:K.lookup q23=some { cls := .type "tuple",data := .seq t23 m23 }) (z23:t23.size≤sizeLine) (v23:zt [] t23.toList)
  : ∃ a q0 q1 q2 q3 q4 q5 q6 q7 q8 q9 q10 q11 q12 q13 q14 q15 q16 q17 q18 q19 q20 q21 q22 q23,mg "FORMS"=some (.ref a)∧KD P w K a [((Sum.inl (0):Key),V.ref q0),((Sum.inl (1):Key),V.ref q1),((Sum.inl (2):Key),V.ref q2),((Sum.inl (3):Key),V.ref q3),((Sum.inl (4):Key),V.ref q4),((Sum.inl (5):Key),V.ref q5),((Sum.inl (6):Key),V.ref q6),((Sum.inl (7):Key),V.ref q7),((Sum.inl (8):Key),V.ref q8),((Sum.inl (9):Key),V.ref q9),((Sum.inl (10):Key),V.ref q10),((Sum.inl (11):Key),V.ref q11),((Sum.inl (12):Key),V.ref q12),((Sum.inl (13):Key),V.ref q13),((Sum.inl (14):Key),V.ref q14),((Sum.inl (15):Key),V.ref q15),((Sum.inl (16):Key),V.ref q16),((Sum.inl (17):Key),V.ref q17),((Sum.inl (18):Key),V.ref q18),((Sum.inl (19):Key),V.ref q19),((Sum.inl (20):Key),V.ref q20),((Sum.inl (21):Key),V.ref q21),((Sum.inl (22):Key),V.ref q22),((Sum.inl (23):Key),V.ref q23)]∧jJ K q0 [V.str "time",V.str "meter",V.str "name",V.str "amount"]∧jJ K q1 [V.str "time",V.str "meter",V.str "name"]∧jJ K q2 [V.str "time",V.str "meter",V.str "amount"]∧jJ K q3 [V.str "time",V.str "meter",V.str "amount"]∧jJ K q4 [V.str "table",V.str "class count",V.str "numerator",V.str "denominator",V.str "width numerator",V.str "denominator"]∧jJ K q5 [V.str "table",V.str "amount",V.str "numerator",V.str "denominator"]∧jJ K q6 [V.str "time",V.str "value",V.str "numerator",V.str "denominator"]∧jJ K q7 [V.str "time"]∧jJ K q8 [V.str "time"]∧jJ K q9 [V.str "table",V.str "table"]∧jJ K q10 [V.str "meter"]∧jJ K q11 [V.str "meter"]∧jJ K q12 [V.str "meter"]∧jJ K q13 [V.str "meter"]∧jJ K q14 [V.str "meter"]∧jJ K q15 [V.str "table"]∧jJ K q16 [V.str "table"]∧jJ K q17 [V.str "table",V.str "part",V.str "whole"]∧jJ K q18 [V.str "table",V.str "numerator",V.str "denominator"]∧jJ K q19 [V.str "value"]∧jJ K q20 [V.str "value",V.str "numerator",V.str "denominator"]∧jJ K q21 []∧jJ K q22 []∧jJ K q23 []:=⟨a,q0,q1,q2,q3,q4,q5,q6,q7,q8,q9,q10,q11,q12,q13,q14,q15,q16,q17,q18,q19,q20,q21,q22,q23,W.mg_of X G aD,zLV lD sD eD nD,zl u0 z0 v0,zl u1 z1 v1,zl u2 z2 v2,zl u3 z3 v3,zl u4 z4 v4,zl u5 z5 v5,zl u6 z6 v6,zl u7 z7 v7,zl u8 z8 v8,zl u9 z9 v9,zl u10 z10 v10,zl u11 z11 v11,zl u12 z12 v12,zl u13 z13 v13,zl u14 z14 v14,zl u15 z15 v15,zl u16 z16 v16,zl u17 z17 v17,zl u18 z18 v18,zl u19 z19 v19,zl u20 z20 v20,zl u21 z21 v21,zl u22 z22 v22,zl u23 z23 v23⟩
theorem zHA {P:Program}{w:World}{K:W.Frag}{h:Heap}{mg:Str→Option Value}{a:Addr}{es:Array DictEntry}{ep:Nat}{q0:Addr}{t0:Array Value}{m0:Nat}{q1:Addr}{t1:Array Value}{m1:Nat}{q2:Addr}{t2:Array Value}{m2:Nat}{q3:Addr}{t3:Array Value}{m3:Nat}{q4:Addr}{t4:Array Value}{m4:Nat}{q5:Addr}{t5:Array Value}{m5:Nat}{q6:Addr}{t6:Array Value}{m6:Nat}{q7:Addr}{t7:Array Value}{m7:Nat}{q8:Addr}{t8:Array Value}{m8:Nat}{q9:Addr}{t9:Array Value}{m9:Nat}{q10:Addr}{t10:Array Value}{m10:Nat}{q11:Addr}{t11:Array Value}{m11:Nat}
  (X:K.In h) (G:h.Ns mainGlobals mg) (aD:W.nsIn K mainGlobals "RANGES"=some (some (.ref a))) (lD:K.lookup a=some { cls := .type "dict",data := .dict es ep }) (sD:(a==sysModules)=false) (eD:wf w es.toList [((Sum.inr "time":Key),V.ref q0),((Sum.inr "meter":Key),V.ref q1),((Sum.inr "name":Key),V.ref q2),((Sum.inr "amount":Key),V.ref q3),((Sum.inr "table":Key),V.ref q4),((Sum.inr "class count":Key),V.ref q5),((Sum.inr "value":Key),V.ref q6),((Sum.inr "numerator":Key),V.ref q7),((Sum.inr "denominator":Key),V.ref q8),((Sum.inr "width numerator":Key),V.ref q9),((Sum.inr "part":Key),V.ref q10),((Sum.inr "whole":Key),V.ref q11)]) (nD:([((Sum.inr "time":Key),V.non),((Sum.inr "meter":Key),V.non),((Sum.inr "name":Key),V.non),((Sum.inr "amount":Key),V.non),((Sum.inr "table":Key),V.non),((Sum.inr "class count":Key),V.non),((Sum.inr "value":Key),V.non),((Sum.inr "numerator":Key),V.non),((Sum.inr "denominator":Key),V.non),((Sum.inr "width numerator":Key),V.non),((Sum.inr "part":Key),V.non),((Sum.inr "whole":Key),V.non)].map (·.1)).Nodup)
  (u0:K.lookup q0=some { cls := .type "tuple",data := .seq t0 m0 }) (z0:t0.size≤sizeLine) (v0:zt [V.int (0),V.int (1000000000000000000)] t0.toList)
  (u1:K.lookup q1=some { cls := .type "tuple",data := .seq t1 m1 }) (z1:t1.size≤sizeLine) (v1:zt [V.int (0),V.int (255)] t1.toList)
  (u2:K.lookup q2=some { cls := .type "tuple",data := .seq t2 m2 }) (z2:t2.size≤sizeLine) (v2:zt [V.int (1),V.int (1000000000)] t2.toList)
  (u3:K.lookup q3=some { cls := .type "tuple",data := .seq t3 m3 }) (z3:t3.size≤sizeLine) (v3:zt [V.int (1),V.int (1000000000)] t3.toList)
  (u4:K.lookup q4=some { cls := .type "tuple",data := .seq t4 m4 }) (z4:t4.size≤sizeLine) (v4:zt [V.int (0),V.int (63)] t4.toList)
  (u5:K.lookup q5=some { cls := .type "tuple",data := .seq t5 m5 }) (z5:t5.size≤sizeLine) (v5:zt [V.int (1),V.int (100)] t5.toList)
  (u6:K.lookup q6=some { cls := .type "tuple",data := .seq t6 m6 }) (z6:t6.size≤sizeLine) (v6:zt [V.int (0),V.int (63)] t6.toList)
  (u7:K.lookup q7=some { cls := .type "tuple",data := .seq t7 m7 }) (z7:t7.size≤sizeLine) (v7:zt [V.int (-1000000000000000000),V.int (1000000000000000000)] t7.toList)
  (u8:K.lookup q8=some { cls := .type "tuple",data := .seq t8 m8 }) (z8:t8.size≤sizeLine) (v8:zt [V.int (1),V.int (1000000000000000000)] t8.toList)
  (u9:K.lookup q9=some { cls := .type "tuple",data := .seq t9 m9 }) (z9:t9.size≤sizeLine) (v9:zt [V.int (1),V.int (1000000000000000000)] t9.toList)
  (u10:K.lookup q10=some { cls := .type "tuple",data := .seq t10 m10 }) (z10:t10.size≤sizeLine) (v10:zt [V.int (0),V.int (1000000000)] t10.toList)
  (u11:K.lookup q11=some { cls := .type "tuple",data := .seq t11 m11 }) (z11:t11.size≤sizeLine) (v11:zt [V.int (1),V.int (1000000000)] t11.toList)
  : ∃ a q0 q1 q2 q3 q4 q5 q6 q7 q8 q9 q10 q11,mg "RANGES"=some (.ref a)∧KD P w K a [((Sum.inr "time":Key),V.ref q0),((Sum.inr "meter":Key),V.ref q1),((Sum.inr "name":Key),V.ref q2),((Sum.inr "amount":Key),V.ref q3),((Sum.inr "table":Key),V.ref q4),((Sum.inr "class count":Key),V.ref q5),((Sum.inr "value":Key),V.ref q6),((Sum.inr "numerator":Key),V.ref q7),((Sum.inr "denominator":Key),V.ref q8),((Sum.inr "width numerator":Key),V.ref q9),((Sum.inr "part":Key),V.ref q10),((Sum.inr "whole":Key),V.ref q11)]∧jJ K q0 [V.int (0),V.int (1000000000000000000)]∧jJ K q1 [V.int (0),V.int (255)]∧jJ K q2 [V.int (1),V.int (1000000000)]∧jJ K q3 [V.int (1),V.int (1000000000)]∧jJ K q4 [V.int (0),V.int (63)]∧jJ K q5 [V.int (1),V.int (100)]∧jJ K q6 [V.int (0),V.int (63)]∧jJ K q7 [V.int (-1000000000000000000),V.int (1000000000000000000)]∧jJ K q8 [V.int (1),V.int (1000000000000000000)]∧jJ K q9 [V.int (1),V.int (1000000000000000000)]∧jJ K q10 [V.int (0),V.int (1000000000)]∧jJ K q11 [V.int (1),V.int (1000000000)]:=⟨a,q0,q1,q2,q3,q4,q5,q6,q7,q8,q9,q10,q11,W.mg_of X G aD,zLV lD sD eD nD,zl u0 z0 v0,zl u1 z1 v1,zl u2 z2 v2,zl u3 z3 v3,zl u4 z4 v4,zl u5 z5 v5,zl u6 z6 v6,zl u7 z7 v7,zl u8 z8 v8,zl u9 z9 v9,zl u10 z10 v10,zl u11 z11 v11⟩
theorem zDV {P:Program}{w:World}{K:W.Frag}{h:Heap}{mg:Str→Option Value}{a:Addr}{es:Array DictEntry}{ep:Nat}{q0:Addr}{q1:Addr}{q2:Addr}{q3:Addr}{q4:Addr}{q5:Addr}{q6:Addr}{q7:Addr}{q8:Addr}{q9:Addr}{q10:Addr}{q11:Addr}{q12:Addr}
  (X:K.In h) (G:h.Ns mainGlobals mg) (aD:W.nsIn K mainGlobals "QUESTIONS"=some (some (.ref a))) (lD:K.lookup a=some { cls := .type "dict",data := .dict es ep }) (sD:(a==sysModules)=false) (eD:wf w es.toList [((Sum.inl (10):Key),V.ref q0),((Sum.inl (11):Key),V.ref q1),((Sum.inl (12):Key),V.ref q2),((Sum.inl (13):Key),V.ref q3),((Sum.inl (14):Key),V.ref q4),((Sum.inl (15):Key),V.ref q5),((Sum.inl (16):Key),V.ref q6),((Sum.inl (17):Key),V.ref q7),((Sum.inl (18):Key),V.ref q8),((Sum.inl (19):Key),V.ref q9),((Sum.inl (20):Key),V.ref q10),((Sum.inl (21):Key),V.ref q11),((Sum.inl (22):Key),V.ref q12)]) (nD:([((Sum.inl (10):Key),V.non),((Sum.inl (11):Key),V.non),((Sum.inl (12):Key),V.non),((Sum.inl (13):Key),V.non),((Sum.inl (14):Key),V.non),((Sum.inl (15):Key),V.non),((Sum.inl (16):Key),V.non),((Sum.inl (17):Key),V.non),((Sum.inl (18):Key),V.non),((Sum.inl (19):Key),V.non),((Sum.inl (20):Key),V.non),((Sum.inl (21):Key),V.non),((Sum.inl (22):Key),V.non)].map (·.1)).Nodup)
  (u0:W.nsIn K mainGlobals "tell_meter"=some (some (.ref q0)))
  (u1:W.nsIn K mainGlobals "tell_means"=some (some (.ref q1)))
  (u2:W.nsIn K mainGlobals "tell_levels"=some (some (.ref q2)))
  (u3:W.nsIn K mainGlobals "tell_inside"=some (some (.ref q3)))
  (u4:W.nsIn K mainGlobals "tell_busy"=some (some (.ref q4)))
  (u5:W.nsIn K mainGlobals "tell_table"=some (some (.ref q5)))
  (u6:W.nsIn K mainGlobals "tell_classes"=some (some (.ref q6)))
  (u7:W.nsIn K mainGlobals "tell_quantile"=some (some (.ref q7)))
  (u8:W.nsIn K mainGlobals "tell_below"=some (some (.ref q8)))
  (u9:W.nsIn K mainGlobals "tell_value"=some (some (.ref q9)))
  (u10:W.nsIn K mainGlobals "tell_above"=some (some (.ref q10)))
  (u11:W.nsIn K mainGlobals "tell_clock"=some (some (.ref q11)))
  (u12:W.nsIn K mainGlobals "tell_live"=some (some (.ref q12)))
  : ∃ a q0 q1 q2 q3 q4 q5 q6 q7 q8 q9 q10 q11 q12,mg "QUESTIONS"=some (.ref a)∧KD P w K a [((Sum.inl (10):Key),V.ref q0),((Sum.inl (11):Key),V.ref q1),((Sum.inl (12):Key),V.ref q2),((Sum.inl (13):Key),V.ref q3),((Sum.inl (14):Key),V.ref q4),((Sum.inl (15):Key),V.ref q5),((Sum.inl (16):Key),V.ref q6),((Sum.inl (17):Key),V.ref q7),((Sum.inl (18):Key),V.ref q8),((Sum.inl (19):Key),V.ref q9),((Sum.inl (20):Key),V.ref q10),((Sum.inl (21):Key),V.ref q11),((Sum.inl (22):Key),V.ref q12)]∧mg "tell_meter"=some (.ref q0)∧mg "tell_means"=some (.ref q1)∧mg "tell_levels"=some (.ref q2)∧mg "tell_inside"=some (.ref q3)∧mg "tell_busy"=some (.ref q4)∧mg "tell_table"=some (.ref q5)∧mg "tell_classes"=some (.ref q6)∧mg "tell_quantile"=some (.ref q7)∧mg "tell_below"=some (.ref q8)∧mg "tell_value"=some (.ref q9)∧mg "tell_above"=some (.ref q10)∧mg "tell_clock"=some (.ref q11)∧mg "tell_live"=some (.ref q12):=⟨a,q0,q1,q2,q3,q4,q5,q6,q7,q8,q9,q10,q11,q12,W.mg_of X G aD,zLV lD sD eD nD,W.mg_of X G u0,W.mg_of X G u1,W.mg_of X G u2,W.mg_of X G u3,W.mg_of X G u4,W.mg_of X G u5,W.mg_of X G u6,W.mg_of X G u7,W.mg_of X G u8,W.mg_of X G u9,W.mg_of X G u10,W.mg_of X G u11,W.mg_of X G u12⟩
end Mb
local macro_rules | `(command| #where) => do
 let f:=fun s=>Lean.Name.str `PySem.Challenge.cw_meterbookdesk_s01_answers_holds s
 let l:=[`PySem.Challenge.nm_meterbookdesk_s01_answers,`PySem.Challenge.pw_meterbookdesk_s01_answers,`PySem.Challenge.rw_meterbookdesk_s01_answers]++(["env_3","heap_1","heap_8","heap_584","sts_11","sts_81","sts_83","sts_162","sts_239","sts_258","sts_287","sts_335","sts_411","sts_461","sts_463","sts_535","tree_9","tree_80","tree_81","tree_161","tree_238","tree_255","tree_284","tree_332","tree_410","tree_458","tree_461","tree_534","tree_583","view_1"]++(List.range 584).map fun i=>"o_"++toString i).map f
 let mut a:Array Lean.Syntax:=#[]
 for c in l do
  a:=a.push (← `(command| theorem $(Lean.mkIdent (Lean.Name.str `PySem.W.Fast ("tw"++toString c.hash))):ident : True:=True.intro))
 return Lean.mkNullNode a
#where
open PySem PySem.W PyProof.Rows
set_option maxRecDepth 100000 in
set_option maxHeartbeats 0 in
theorem PySem.Challenge.cw_meterbookdesk_s01_answers_holds : PySem.Challenge.rw_meterbookdesk_s01_answers.Holds := by
 w_on;k_headS;(case hw=>exact⟨[.list [.int 21]],by decide +kernel,by decide +kernel⟩)
 k_fillS
 refine L2.zIb (r:=PySem.Challenge.rw_meterbookdesk_s01_answers) (k:=9) (CX:=L2.CX0) (ps:=["calls"]) (sp:=Mb.zD8) (by decide +kernel) rfl rfl ⟨rfl,by decide,by decide⟩ (fun w h Y=>PySem.W.kIn_of Y) ?F ?S (fun _ _ _ _ z=>z)
 case F =>
  intro w mg fa h Y KX G hmg
  have vR:L2.zJ (L2.KOf KX) mg "common_divisor" Mb.kG:=by dsimp only [L2.KOf];refine' L2.zM KX G ?a ?l ?c ?k;case a|l|c|k=>k_is
  have zE7:L2.zJ (L2.KOf KX) mg "lowest" Mb.zB5:=by dsimp only [L2.KOf];refine' L2.zM KX G ?a ?l ?c ?k;case a|l|c|k=>k_is
  have zBL:L2.zJ (L2.KOf KX) mg "quotient" Mb.wG:=by dsimp only [L2.KOf];refine' L2.zM KX G ?a ?l ?c ?k;case a|l|c|k=>k_is
  have zC7:L2.zJ (L2.KOf KX) mg "is_less" Mb.zAc:=by dsimp only [L2.KOf];refine' L2.zM KX G ?a ?l ?c ?k;case a|l|c|k=>k_is
  have zBM:L2.zJ (L2.KOf KX) mg "least_of" Mb.wI:=by dsimp only [L2.KOf];refine' L2.zM KX G ?a ?l ?c ?k;case a|l|c|k=>k_is
  have xB:L2.zJ (L2.KOf KX) mg "greatest_of" Mb.vX:=by dsimp only [L2.KOf];refine' L2.zM KX G ?a ?l ?c ?k;case a|l|c|k=>k_is
  have j5:L2.zJ (L2.KOf KX) mg "common_denominator" Mb.je:=by dsimp only [L2.KOf];refine' L2.zM KX G ?a ?l ?c ?k;case a|l|c|k=>k_is
  have zE8:L2.zJ (L2.KOf KX) mg "sum_of" Mb.zAd:=by dsimp only [L2.KOf];refine' L2.zM KX G ?a ?l ?c ?k;case a|l|c|k=>k_is
  have zHL:L2.zJ (L2.KOf KX) mg "minus" Mb.zEj:=by dsimp only [L2.KOf];refine' L2.zM KX G ?a ?l ?c ?k;case a|l|c|k=>k_is
  have zE9:L2.zJ (L2.KOf KX) mg "square" Mb.zB7:=by dsimp only [L2.KOf];refine' L2.zM KX G ?a ?l ?c ?k;case a|l|c|k=>k_is
  have zC8:L2.zJ (L2.KOf KX) mg "do_join" Mb.zAg:=by dsimp only [L2.KOf];refine' L2.zM KX G ?a ?l ?c ?k;case a|l|c|k=>k_is
  have zC9:L2.zJ (L2.KOf KX) mg "do_quit" Mb.zAh:=by dsimp only [L2.KOf];refine' L2.zM KX G ?a ?l ?c ?k;case a|l|c|k=>k_is
  have zBO:L2.zJ (L2.KOf KX) mg "do_raise" Mb.wJ:=by dsimp only [L2.KOf];refine' L2.zM KX G ?a ?l ?c ?k;case a|l|c|k=>k_is
  have zBP:L2.zJ (L2.KOf KX) mg "do_lower" Mb.wK:=by dsimp only [L2.KOf];refine' L2.zM KX G ?a ?l ?c ?k;case a|l|c|k=>k_is
  have zAG:L2.zJ (L2.KOf KX) mg "do_define" Mb.yt:=by dsimp only [L2.KOf];refine' L2.zM KX G ?a ?l ?c ?k;case a|l|c|k=>k_is
  have zBQ:L2.zJ (L2.KOf KX) mg "do_tally" Mb.wL:=by dsimp only [L2.KOf];refine' L2.zM KX G ?a ?l ?c ?k;case a|l|c|k=>k_is
  have zFA:L2.zJ (L2.KOf KX) mg "do_set" Mb.zB8:=by dsimp only [L2.KOf];refine' L2.zM KX G ?a ?l ?c ?k;case a|l|c|k=>k_is
  have zBR:L2.zJ (L2.KOf KX) mg "do_reset" Mb.yX:=by dsimp only [L2.KOf];refine' L2.zM KX G ?a ?l ?c ?k;case a|l|c|k=>k_is
  have zDA:L2.zJ (L2.KOf KX) mg "do_tick" Mb.zAi:=by dsimp only [L2.KOf];refine' L2.zM KX G ?a ?l ?c ?k;case a|l|c|k=>k_is
  have zBS:L2.zJ (L2.KOf KX) mg "do_merge" Mb.wM:=by dsimp only [L2.KOf];refine' L2.zM KX G ?a ?l ?c ?k;case a|l|c|k=>k_is
  have zBT:L2.zJ (L2.KOf KX) mg "do_clear" Mb.wO:=by dsimp only [L2.KOf];refine' L2.zM KX G ?a ?l ?c ?k;case a|l|c|k=>k_is
  have zAJ:L2.zJ (L2.KOf KX) mg "is_change" Mb.yy:=by dsimp only [L2.KOf];refine' L2.zM KX G ?a ?l ?c ?k;case a|l|c|k=>k_is
  have zFB:L2.zJ (L2.KOf KX) mg "change" Mb.zCA:=by dsimp only [L2.KOf];refine' L2.zM KX G ?a ?l ?c ?k;case a|l|c|k=>k_is
  have ke:L2.zJ (L2.KOf KX) mg "count_of_numbers" Mb.jr:=by dsimp only [L2.KOf];refine' L2.zM KX G ?a ?l ?c ?k;case a|l|c|k=>k_is
  have zBU:L2.zJ (L2.KOf KX) mg "has_time" Mb.wP:=by dsimp only [L2.KOf];refine' L2.zM KX G ?a ?l ?c ?k;case a|l|c|k=>k_is
  have yQ:L2.zJ (L2.KOf KX) mg "are_in_range" Mb.vD:=by dsimp only [L2.KOf];refine' L2.zM KX G ?a ?l ?c ?k;case a|l|c|k=>k_is
  have xC:L2.zJ (L2.KOf KX) mg "integral_of" Mb.kU:=by dsimp only [L2.KOf];refine' L2.zM KX G ?a ?l ?c ?k;case a|l|c|k=>k_is
  have xD:L2.zJ (L2.KOf KX) mg "length_from" Mb.kW:=by dsimp only [L2.KOf];refine' L2.zM KX G ?a ?l ?c ?k;case a|l|c|k=>k_is
  have zBN:L2.zJ (L2.KOf KX) mg "spans_of" Mb.va:=by dsimp only [L2.KOf];refine' L2.zM KX G ?a ?l ?c ?k;case a|l|c|k=>k_is
  have zDB:L2.zJ (L2.KOf KX) mg "area_of" Mb.xh:=by dsimp only [L2.KOf];refine' L2.zM KX G ?a ?l ?c ?k;case a|l|c|k=>k_is
  have j6:L2.zJ (L2.KOf KX) mg "lengths_by_content" Mb.jf:=by dsimp only [L2.KOf];refine' L2.zM KX G ?a ?l ?c ?k;case a|l|c|k=>k_is
  have zAF:L2.zJ (L2.KOf KX) mg "spells_of" Mb.yr:=by dsimp only [L2.KOf];refine' L2.zM KX G ?a ?l ?c ?k;case a|l|c|k=>k_is
  have xm:L2.zJ (L2.KOf KX) mg "tell_meter" Mb.vL:=by dsimp only [L2.KOf];refine' L2.zM KX G ?a ?l ?c ?k;case a|l|c|k=>k_is
  have xo:L2.zJ (L2.KOf KX) mg "tell_means" Mb.yF:=by dsimp only [L2.KOf];refine' L2.zM KX G ?a ?l ?c ?k;case a|l|c|k=>k_is
  have xE:L2.zJ (L2.KOf KX) mg "tell_levels" Mb.kX:=by dsimp only [L2.KOf];refine' L2.zM KX G ?a ?l ?c ?k;case a|l|c|k=>k_is
  have xF:L2.zJ (L2.KOf KX) mg "tell_inside" Mb.vY:=by dsimp only [L2.KOf];refine' L2.zM KX G ?a ?l ?c ?k;case a|l|c|k=>k_is
  have zAH:L2.zJ (L2.KOf KX) mg "tell_busy" Mb.yu:=by dsimp only [L2.KOf];refine' L2.zM KX G ?a ?l ?c ?k;case a|l|c|k=>k_is
  have xp:L2.zJ (L2.KOf KX) mg "tell_table" Mb.vM:=by dsimp only [L2.KOf];refine' L2.zM KX G ?a ?l ?c ?k;case a|l|c|k=>k_is
  have yP:L2.zJ (L2.KOf KX) mg "tell_classes" Mb.vB:=by dsimp only [L2.KOf];refine' L2.zM KX G ?a ?l ?c ?k;case a|l|c|k=>k_is
  have vm:L2.zJ (L2.KOf KX) mg "tell_quantile" Mb.kY:=by dsimp only [L2.KOf];refine' L2.zM KX G ?a ?l ?c ?k;case a|l|c|k=>k_is
  have xq:L2.zJ (L2.KOf KX) mg "tell_below" Mb.yH:=by dsimp only [L2.KOf];refine' L2.zM KX G ?a ?l ?c ?k;case a|l|c|k=>k_is
  have xr:L2.zJ (L2.KOf KX) mg "tell_value" Mb.vN:=by dsimp only [L2.KOf];refine' L2.zM KX G ?a ?l ?c ?k;case a|l|c|k=>k_is
  have xu:L2.zJ (L2.KOf KX) mg "tell_above" Mb.yI:=by dsimp only [L2.KOf];refine' L2.zM KX G ?a ?l ?c ?k;case a|l|c|k=>k_is
  have xw:L2.zJ (L2.KOf KX) mg "tell_clock" Mb.yG:=by dsimp only [L2.KOf];refine' L2.zM KX G ?a ?l ?c ?k;case a|l|c|k=>k_is
  have zAI:L2.zJ (L2.KOf KX) mg "tell_live" Mb.vg:=by dsimp only [L2.KOf];refine' L2.zM KX G ?a ?l ?c ?k;case a|l|c|k=>k_is
  have xl:L2.zJ (L2.KOf KX) mg "numbers_of" Mb.yC:=by dsimp only [L2.KOf];refine' L2.zM KX G ?a ?l ?c ?k;case a|l|c|k=>k_is
  have zBV:L2.zJ (L2.KOf KX) mg "question" Mb.wQ:=by dsimp only [L2.KOf];refine' L2.zM KX G ?a ?l ?c ?k;case a|l|c|k=>k_is
  have yR:L2.zJ (L2.KOf KX) mg "guests_since" Mb.vA:=by dsimp only [L2.KOf];refine' L2.zM KX G ?a ?l ?c ?k;case a|l|c|k=>k_is
  have zKh:L2.zJ (L2.KOf KX) mg "answers" Mb.vi:=by dsimp only [L2.KOf];refine' L2.zM KX G ?a ?l ?c ?k;case a|l|c|k=>k_is
  have zAK:L2.zJ (L2.KOf KX) mg "answer_of" Mb.yz:=by dsimp only [L2.KOf];refine' L2.zM KX G ?a ?l ?c ?k;case a|l|c|k=>k_is
  have zL0:∃ C,L2.Cls (L2.KOf KX) C∧L2.zZ (L2.KOf KX) C "class_count"∧L2.zZ (L2.KOf KX) C "first_bound"∧L2.zZ (L2.KOf KX) C "width"∧L2.zZ (L2.KOf KX) C "tallies"∧mg "Table"=some (.ref C)∧L2.yU (L2.KOf KX) mg "Table" C "Table.__init__" Mb.jZ∧L2.zT (L2.KOf KX) C "is_like" "Table.is_like" Mb.jA∧L2.zT (L2.KOf KX) C "slot_of" "Table.slot_of" Mb.jB∧L2.zT (L2.KOf KX) C "class_weights" "Table.class_weights" Mb.zW∧L2.zT (L2.KOf KX) C "weight_in_all" "Table.weight_in_all" Mb.zX∧L2.zT (L2.KOf KX) C "weight_below" "Table.weight_below" Mb.zY∧L2.zT (L2.KOf KX) C "weight_at" "Table.weight_at" Mb.zi∧L2.zT (L2.KOf KX) C "first_sum" "Table.first_sum" Mb.zj∧L2.zT (L2.KOf KX) C "second_sum" "Table.second_sum" Mb.zd∧L2.zT (L2.KOf KX) C "rising_tallies" "Table.rising_tallies" Mb.zQ∧L2.zT (L2.KOf KX) C "quantile" "Table.quantile" Mb.zu:=by
   dsimp only [L2.KOf];refine' Mb.zKZ KX G ?aC ?pg ?hd ?po ?sa ?mk ?kc ?n0 ?n1 ?n2 ?n3 ?a0 ?i0 ?l0 ?c0 ?k0 ?a1 ?i1 ?l1 ?c1 ?k1 ?a2 ?i2 ?l2 ?c2 ?k2 ?a3 ?i3 ?l3 ?c3 ?k3 ?a4 ?i4 ?l4 ?c4 ?k4 ?a5 ?i5 ?l5 ?c5 ?k5 ?a6 ?i6 ?l6 ?c6 ?k6 ?a7 ?i7 ?l7 ?c7 ?k7 ?a8 ?i8 ?l8 ?c8 ?k8 ?a9 ?i9 ?l9 ?c9 ?k9 ?a10 ?i10 ?l10 ?c10 ?k10
   case aC|pg|hd|po|sa|mk|kc|n0|n1|n2|n3|a0|i0|l0|c0|k0|a1|i1|l1|c1|k1|a2|i2|l2|c2|k2|a3|i3|l3|c3|k3|a4|i4|l4|c4|k4|a5|i5|l5|c5|k5|a6|i6|l6|c6|k6|a7|i7|l7|c7|k7|a8|i8|l8|c8|k8|a9|i9|l9|c9|k9|a10|i10|l10|c10|k10=>k_is
  obtain⟨CTable,clTable,wY,wZ,zDZ,zBy,mTable,xy,vq,vt,ju,jv,j7,kq,kr,kf,jq,vS⟩:=zL0
  have zL1:∃ C,L2.Cls (L2.KOf KX) C∧L2.zZ (L2.KOf KX) C "guests"∧L2.zZ (L2.KOf KX) C "loose"∧L2.zZ (L2.KOf KX) C "content"∧L2.zZ (L2.KOf KX) C "moments"∧L2.zZ (L2.KOf KX) C "begun"∧L2.zZ (L2.KOf KX) C "ended"∧L2.zZ (L2.KOf KX) C "ended_at_once"∧L2.zZ (L2.KOf KX) C "lasted"∧L2.zZ (L2.KOf KX) C "units_lasted"∧mg "Meter"=some (.ref C)∧L2.yU (L2.KOf KX) mg "Meter" C "Meter.__init__" Mb.jY∧L2.zT (L2.KOf KX) C "admit" "Meter.admit" Mb.jR∧L2.zT (L2.KOf KX) C "dismiss" "Meter.dismiss" Mb.zz∧L2.zT (L2.KOf KX) C "shift_loose" "Meter.shift_loose" Mb.zf∧L2.zT (L2.KOf KX) C "shift_content" "Meter.shift_content" Mb.za∧L2.zT (L2.KOf KX) C "note_anew" "Meter.note_anew" Mb.zo∧L2.zT (L2.KOf KX) C "spans" "Meter.spans" Mb.jS∧L2.zT (L2.KOf KX) C "is_live" "Meter.is_live" Mb.jC:=by
   dsimp only [L2.KOf];refine' Mb.zKa KX G ?aC ?pg ?hd ?po ?sa ?mk ?kc ?n0 ?n1 ?n2 ?n3 ?n4 ?n5 ?n6 ?n7 ?n8 ?a0 ?i0 ?l0 ?c0 ?k0 ?a1 ?i1 ?l1 ?c1 ?k1 ?a2 ?i2 ?l2 ?c2 ?k2 ?a3 ?i3 ?l3 ?c3 ?k3 ?a4 ?i4 ?l4 ?c4 ?k4 ?a5 ?i5 ?l5 ?c5 ?k5 ?a6 ?i6 ?l6 ?c6 ?k6 ?a7 ?i7 ?l7 ?c7 ?k7
   case aC|pg|hd|po|sa|mk|kc|n0|n1|n2|n3|n4|n5|n6|n7|n8|a0|i0|l0|c0|k0|a1|i1|l1|c1|k1|a2|i2|l2|c2|k2|a3|i3|l3|c3|k3|a4|i4|l4|c4|k4|a5|i5|l5|c5|k5|a6|i6|l6|c6|k6|a7|i7|l7|c7|k7=>k_is
  obtain⟨CMeter,clMeter,zDD,zDa,zBz,zB0,zDb,zDc,xS,zDE,x9,mMeter,xx,xG,vn,kL,jt,kn,xH,vp⟩:=zL1
  have zNv:∃ C,L2.Cls (L2.KOf KX) C∧L2.zZ (L2.KOf KX) C "clock"∧L2.zZ (L2.KOf KX) C "reset_time"∧L2.zZ (L2.KOf KX) C "meters"∧L2.zZ (L2.KOf KX) C "tables"∧L2.zZ (L2.KOf KX) C "lines"∧mg "Book"=some (.ref C)∧L2.yU (L2.KOf KX) mg "Book" C "Book.__init__" Mb.jn∧L2.zT (L2.KOf KX) C "renew" "Book.renew" Mb.jD:=by
   dsimp only [L2.KOf];refine' Mb.zLu KX G ?aC ?pg ?hd ?po ?sa ?mk ?kc ?n0 ?n1 ?n2 ?n3 ?n4 ?a0 ?i0 ?l0 ?c0 ?k0 ?a1 ?i1 ?l1 ?c1 ?k1
   case aC|pg|hd|po|sa|mk|kc|n0|n1|n2|n3|n4|a0|i0|l0|c0|k0|a1|i1|l1|c1|k1=>k_is
  obtain⟨CBook,clBook,zFC,zAz,zDd,zDe,zFD,mBook,zAL,x6⟩:=zNv
  have cDONE:L2.we mg "DONE" 0:=by refine' L2.kI KX G ?a;case a=>k_is
  have cOUT_OF_RANGE:L2.we mg "OUT_OF_RANGE" (-1):=by refine' L2.kI KX G ?a;case a=>k_is
  have cBEFORE_CLOCK:L2.we mg "BEFORE_CLOCK" (-3):=by refine' L2.kI KX G ?a;case a=>k_is
  have cWRONG_PARTNER:L2.we mg "WRONG_PARTNER" (-4):=by refine' L2.kI KX G ?a;case a=>k_is
  have cFULL:L2.we mg "FULL" (-5):=by refine' L2.kI KX G ?a;case a=>k_is
  have cNOT_LOOSE:L2.we mg "NOT_LOOSE" (-6):=by refine' L2.kI KX G ?a;case a=>k_is
  have cTOO_FINE:L2.we mg "TOO_FINE" (-7):=by refine' L2.kI KX G ?a;case a=>k_is
  have cNO_LIKE_TABLE:L2.we mg "NO_LIKE_TABLE" (-8):=by refine' L2.kI KX G ?a;case a=>k_is
  have cNO_TALLIES:L2.we mg "NO_TALLIES" (-10):=by refine' L2.kI KX G ?a;case a=>k_is
  have cMOST_GUESTS:L2.we mg "MOST_GUESTS" 300:=by refine' L2.kI KX G ?a;case a=>k_is
  have cFINEST_DENOMINATOR:L2.we mg "FINEST_DENOMINATOR" 1000:=by refine' L2.kI KX G ?a;case a=>k_is
  have cQUANTILE:L2.we mg "QUANTILE" 17:=by refine' L2.kI KX G ?a;case a=>k_is
  have cMETER_COUNT:L2.we mg "METER_COUNT" 256:=by refine' L2.kI KX G ?a;case a=>k_is
  have cTABLE_COUNT:L2.we mg "TABLE_COUNT" 64:=by refine' L2.kI KX G ?a;case a=>k_is
  have cVALUE_COUNT:L2.we mg "VALUE_COUNT" 64:=by refine' L2.kI KX G ?a;case a=>k_is
  have n_len:mg "len"=none:=by refine' W.mg_none_of KX G ?a;case a=>k_is
  have n_abs:mg "abs"=none:=by refine' W.mg_none_of KX G ?a;case a=>k_is
  have n_zip:mg "zip"=none:=by refine' W.mg_none_of KX G ?a;case a=>k_is
  have n_range:mg "range"=none:=by refine' W.mg_none_of KX G ?a;case a=>k_is
  have n_sum:mg "sum"=none:=by refine' W.mg_none_of KX G ?a;case a=>k_is
  have n_max:mg "max"=none:=by refine' W.mg_none_of KX G ?a;case a=>k_is
  have n_min:mg "min"=none:=by refine' W.mg_none_of KX G ?a;case a=>k_is
  have n_sorted:mg "sorted"=none:=by refine' W.mg_none_of KX G ?a;case a=>k_is
  have n_list:mg "list"=none:=by refine' W.mg_none_of KX G ?a;case a=>k_is
  have n_enumerate:mg "enumerate"=none:=by refine' W.mg_none_of KX G ?a;case a=>k_is
  have zIx:∃ a q0 q1 q2 q3 q4 q5 q6 q7 q8 q9 q10,mg "CHANGES"=some (.ref a)∧L2.KD PySem.Challenge.rw_meterbookdesk_s01_answers.prog w (L2.KOf KX) a [((Sum.inl (0):L2.Key),L2.V.ref q0),((Sum.inl (1):L2.Key),L2.V.ref q1),((Sum.inl (2):L2.Key),L2.V.ref q2),((Sum.inl (3):L2.Key),L2.V.ref q3),((Sum.inl (4):L2.Key),L2.V.ref q4),((Sum.inl (5):L2.Key),L2.V.ref q5),((Sum.inl (6):L2.Key),L2.V.ref q6),((Sum.inl (7):L2.Key),L2.V.ref q7),((Sum.inl (8):L2.Key),L2.V.ref q8),((Sum.inl (9):L2.Key),L2.V.ref q9),((Sum.inl (23):L2.Key),L2.V.ref q10)]∧mg "do_join"=some (.ref q0)∧mg "do_quit"=some (.ref q1)∧mg "do_raise"=some (.ref q2)∧mg "do_lower"=some (.ref q3)∧mg "do_define"=some (.ref q4)∧mg "do_tally"=some (.ref q5)∧mg "do_set"=some (.ref q6)∧mg "do_reset"=some (.ref q7)∧mg "do_tick"=some (.ref q8)∧mg "do_merge"=some (.ref q9)∧mg "do_clear"=some (.ref q10):=by
   dsimp only [L2.KOf];refine' Mb.zGH KX G ?aD ?lD ?sD ?eD ?nD ?u0 ?u1 ?u2 ?u3 ?u4 ?u5 ?u6 ?u7 ?u8 ?u9 ?u10
   (case aD=>k_is);(case lD=>k_is);(case sD=>decide +kernel);(case eD=>exact .cons (by rfl) (by rfl) (by rfl) (.cons (by rfl) (by rfl) (by rfl) (.cons (by rfl) (by rfl) (by rfl) (.cons (by rfl) (by rfl) (by rfl) (.cons (by rfl) (by rfl) (by rfl) (.cons (by rfl) (by rfl) (by rfl) (.cons (by rfl) (by rfl) (by rfl) (.cons (by rfl) (by rfl) (by rfl) (.cons (by rfl) (by rfl) (by rfl) (.cons (by rfl) (by rfl) (by rfl) (.cons (by rfl) (by rfl) (by rfl) (.nil))))))))))));(case nD=>decide +kernel);case u0|u1|u2|u3|u4|u5|u6|u7|u8|u9|u10=>k_is
  have zL2:∃ a q0 q1 q2 q3 q4 q5 q6 q7 q8 q9 q10 q11 q12 q13 q14 q15 q16 q17 q18 q19 q20 q21 q22 q23,mg "FORMS"=some (.ref a)∧L2.KD PySem.Challenge.rw_meterbookdesk_s01_answers.prog w (L2.KOf KX) a [((Sum.inl (0):L2.Key),L2.V.ref q0),((Sum.inl (1):L2.Key),L2.V.ref q1),((Sum.inl (2):L2.Key),L2.V.ref q2),((Sum.inl (3):L2.Key),L2.V.ref q3),((Sum.inl (4):L2.Key),L2.V.ref q4),((Sum.inl (5):L2.Key),L2.V.ref q5),((Sum.inl (6):L2.Key),L2.V.ref q6),((Sum.inl (7):L2.Key),L2.V.ref q7),((Sum.inl (8):L2.Key),L2.V.ref q8),((Sum.inl (9):L2.Key),L2.V.ref q9),((Sum.inl (10):L2.Key),L2.V.ref q10),((Sum.inl (11):L2.Key),L2.V.ref q11),((Sum.inl (12):L2.Key),L2.V.ref q12),((Sum.inl (13):L2.Key),L2.V.ref q13),((Sum.inl (14):L2.Key),L2.V.ref q14),((Sum.inl (15):L2.Key),L2.V.ref q15),((Sum.inl (16):L2.Key),L2.V.ref q16),((Sum.inl (17):L2.Key),L2.V.ref q17),((Sum.inl (18):L2.Key),L2.V.ref q18),((Sum.inl (19):L2.Key),L2.V.ref q19),((Sum.inl (20):L2.Key),L2.V.ref q20),((Sum.inl (21):L2.Key),L2.V.ref q21),((Sum.inl (22):L2.Key),L2.V.ref q22),((Sum.inl (23):L2.Key),L2.V.ref q23)]∧L2.jJ (L2.KOf KX) q0 [L2.V.str "time",L2.V.str "meter",L2.V.str "name",L2.V.str "amount"]∧L2.jJ (L2.KOf KX) q1 [L2.V.str "time",L2.V.str "meter",L2.V.str "name"]∧L2.jJ (L2.KOf KX) q2 [L2.V.str "time",L2.V.str "meter",L2.V.str "amount"]∧L2.jJ (L2.KOf KX) q3 [L2.V.str "time",L2.V.str "meter",L2.V.str "amount"]∧L2.jJ (L2.KOf KX) q4 [L2.V.str "table",L2.V.str "class count",L2.V.str "numerator",L2.V.str "denominator",L2.V.str "width numerator",L2.V.str "denominator"]∧L2.jJ (L2.KOf KX) q5 [L2.V.str "table",L2.V.str "amount",L2.V.str "numerator",L2.V.str "denominator"]∧L2.jJ (L2.KOf KX) q6 [L2.V.str "time",L2.V.str "value",L2.V.str "numerator",L2.V.str "denominator"]∧L2.jJ (L2.KOf KX) q7 [L2.V.str "time"]∧L2.jJ (L2.KOf KX) q8 [L2.V.str "time"]∧L2.jJ (L2.KOf KX) q9 [L2.V.str "table",L2.V.str "table"]∧L2.jJ (L2.KOf KX) q10 [L2.V.str "meter"]∧L2.jJ (L2.KOf KX) q11 [L2.V.str "meter"]∧L2.jJ (L2.KOf KX) q12 [L2.V.str "meter"]∧L2.jJ (L2.KOf KX) q13 [L2.V.str "meter"]∧L2.jJ (L2.KOf KX) q14 [L2.V.str "meter"]∧L2.jJ (L2.KOf KX) q15 [L2.V.str "table"]∧L2.jJ (L2.KOf KX) q16 [L2.V.str "table"]∧L2.jJ (L2.KOf KX) q17 [L2.V.str "table",L2.V.str "part",L2.V.str "whole"]∧L2.jJ (L2.KOf KX) q18 [L2.V.str "table",L2.V.str "numerator",L2.V.str "denominator"]∧L2.jJ (L2.KOf KX) q19 [L2.V.str "value"]∧L2.jJ (L2.KOf KX) q20 [L2.V.str "value",L2.V.str "numerator",L2.V.str "denominator"]∧L2.jJ (L2.KOf KX) q21 []∧L2.jJ (L2.KOf KX) q22 []∧L2.jJ (L2.KOf KX) q23 []:=by
   dsimp only [L2.KOf];refine' Mb.zIt KX G ?aD ?lD ?sD ?eD ?nD ?u0 ?z0 ?v0 ?u1 ?z1 ?v1 ?u2 ?z2 ?v2 ?u3 ?z3 ?v3 ?u4 ?z4 ?v4 ?u5 ?z5 ?v5 ?u6 ?z6 ?v6 ?u7 ?z7 ?v7 ?u8 ?z8 ?v8 ?u9 ?z9 ?v9 ?u10 ?z10 ?v10 ?u11 ?z11 ?v11 ?u12 ?z12 ?v12 ?u13 ?z13 ?v13 ?u14 ?z14 ?v14 ?u15 ?z15 ?v15 ?u16 ?z16 ?v16 ?u17 ?z17 ?v17 ?u18 ?z18 ?v18 ?u19 ?z19 ?v19 ?u20 ?z20 ?v20 ?u21 ?z21 ?v21 ?u22 ?z22 ?v22 ?u23 ?z23 ?v23
   (case aD=>k_is);(case lD=>k_is);(case sD=>decide +kernel);(case eD=>exact .cons (by rfl) (by rfl) (by rfl) (.cons (by rfl) (by rfl) (by rfl) (.cons (by rfl) (by rfl) (by rfl) (.cons (by rfl) (by rfl) (by rfl) (.cons (by rfl) (by rfl) (by rfl) (.cons (by rfl) (by rfl) (by rfl) (.cons (by rfl) (by rfl) (by rfl) (.cons (by rfl) (by rfl) (by rfl) (.cons (by rfl) (by rfl) (by rfl) (.cons (by rfl) (by rfl) (by rfl) (.cons (by rfl) (by rfl) (by rfl) (.cons (by rfl) (by rfl) (by rfl) (.cons (by rfl) (by rfl) (by rfl) (.cons (by rfl) (by rfl) (by rfl) (.cons (by rfl) (by rfl) (by rfl) (.cons (by rfl) (by rfl) (by rfl) (.cons (by rfl) (by rfl) (by rfl) (.cons (by rfl) (by rfl) (by rfl) (.cons (by rfl) (by rfl) (by rfl) (.cons (by rfl) (by rfl) (by rfl) (.cons (by rfl) (by rfl) (by rfl) (.cons (by rfl) (by rfl) (by rfl) (.cons (by rfl) (by rfl) (by rfl) (.cons (by rfl) (by rfl) (by rfl) (.nil)))))))))))))))))))))))));(case nD=>decide +kernel);(case u0=>k_is);(case z0=>decide +kernel);(case v0=>exact .cons ⟨_,rfl⟩ (.cons ⟨_,rfl⟩ (.cons ⟨_,rfl⟩ (.cons ⟨_,rfl⟩ (.nil)))));(case u1=>k_is);(case z1=>decide +kernel);(case v1=>exact .cons ⟨_,rfl⟩ (.cons ⟨_,rfl⟩ (.cons ⟨_,rfl⟩ (.nil))));(case u2=>k_is);(case z2=>decide +kernel);(case v2=>exact .cons ⟨_,rfl⟩ (.cons ⟨_,rfl⟩ (.cons ⟨_,rfl⟩ (.nil))));(case u3=>k_is);(case z3=>decide +kernel);(case v3=>exact .cons ⟨_,rfl⟩ (.cons ⟨_,rfl⟩ (.cons ⟨_,rfl⟩ (.nil))));(case u4=>k_is);(case z4=>decide +kernel);(case v4=>exact .cons ⟨_,rfl⟩ (.cons ⟨_,rfl⟩ (.cons ⟨_,rfl⟩ (.cons ⟨_,rfl⟩ (.cons ⟨_,rfl⟩ (.cons ⟨_,rfl⟩ (.nil)))))));(case u5=>k_is);(case z5=>decide +kernel);(case v5=>exact .cons ⟨_,rfl⟩ (.cons ⟨_,rfl⟩ (.cons ⟨_,rfl⟩ (.cons ⟨_,rfl⟩ (.nil)))));(case u6=>k_is);(case z6=>decide +kernel);(case v6=>exact .cons ⟨_,rfl⟩ (.cons ⟨_,rfl⟩ (.cons ⟨_,rfl⟩ (.cons ⟨_,rfl⟩ (.nil)))));(case u7=>k_is);(case z7=>decide +kernel);(case v7=>exact .cons ⟨_,rfl⟩ (.nil));(case u8=>k_is);(case z8=>decide +kernel);(case v8=>exact .cons ⟨_,rfl⟩ (.nil));(case u9=>k_is);(case z9=>decide +kernel);(case v9=>exact .cons ⟨_,rfl⟩ (.cons ⟨_,rfl⟩ (.nil)));(case u10=>k_is);(case z10=>decide +kernel);(case v10=>exact .cons ⟨_,rfl⟩ (.nil));(case u11=>k_is);(case z11=>decide +kernel);(case v11=>exact .cons ⟨_,rfl⟩ (.nil));(case u12=>k_is);(case z12=>decide +kernel);(case v12=>exact .cons ⟨_,rfl⟩ (.nil));(case u13=>k_is);(case z13=>decide +kernel);(case v13=>exact .cons ⟨_,rfl⟩ (.nil));(case u14=>k_is);(case z14=>decide +kernel);(case v14=>exact .cons ⟨_,rfl⟩ (.nil));(case u15=>k_is);(case z15=>decide +kernel);(case v15=>exact .cons ⟨_,rfl⟩ (.nil));(case u16=>k_is);(case z16=>decide +kernel);(case v16=>exact .cons ⟨_,rfl⟩ (.nil));(case u17=>k_is);(case z17=>decide +kernel);(case v17=>exact .cons ⟨_,rfl⟩ (.cons ⟨_,rfl⟩ (.cons ⟨_,rfl⟩ (.nil))));(case u18=>k_is);(case z18=>decide +kernel);(case v18=>exact .cons ⟨_,rfl⟩ (.cons ⟨_,rfl⟩ (.cons ⟨_,rfl⟩ (.nil))));(case u19=>k_is);(case z19=>decide +kernel);(case v19=>exact .cons ⟨_,rfl⟩ (.nil));(case u20=>k_is);(case z20=>decide +kernel);(case v20=>exact .cons ⟨_,rfl⟩ (.cons ⟨_,rfl⟩ (.cons ⟨_,rfl⟩ (.nil))));(case u21=>k_is);(case z21=>decide +kernel);(case v21=>exact .nil);(case u22=>k_is);(case z22=>decide +kernel);(case v22=>exact .nil);(case u23=>k_is);(case z23=>decide +kernel);(case v23=>exact .nil)
  have zKi:∃ a q0 q1 q2 q3 q4 q5 q6 q7 q8 q9 q10 q11,mg "RANGES"=some (.ref a)∧L2.KD PySem.Challenge.rw_meterbookdesk_s01_answers.prog w (L2.KOf KX) a [((Sum.inr "time":L2.Key),L2.V.ref q0),((Sum.inr "meter":L2.Key),L2.V.ref q1),((Sum.inr "name":L2.Key),L2.V.ref q2),((Sum.inr "amount":L2.Key),L2.V.ref q3),((Sum.inr "table":L2.Key),L2.V.ref q4),((Sum.inr "class count":L2.Key),L2.V.ref q5),((Sum.inr "value":L2.Key),L2.V.ref q6),((Sum.inr "numerator":L2.Key),L2.V.ref q7),((Sum.inr "denominator":L2.Key),L2.V.ref q8),((Sum.inr "width numerator":L2.Key),L2.V.ref q9),((Sum.inr "part":L2.Key),L2.V.ref q10),((Sum.inr "whole":L2.Key),L2.V.ref q11)]∧L2.jJ (L2.KOf KX) q0 [L2.V.int (0),L2.V.int (1000000000000000000)]∧L2.jJ (L2.KOf KX) q1 [L2.V.int (0),L2.V.int (255)]∧L2.jJ (L2.KOf KX) q2 [L2.V.int (1),L2.V.int (1000000000)]∧L2.jJ (L2.KOf KX) q3 [L2.V.int (1),L2.V.int (1000000000)]∧L2.jJ (L2.KOf KX) q4 [L2.V.int (0),L2.V.int (63)]∧L2.jJ (L2.KOf KX) q5 [L2.V.int (1),L2.V.int (100)]∧L2.jJ (L2.KOf KX) q6 [L2.V.int (0),L2.V.int (63)]∧L2.jJ (L2.KOf KX) q7 [L2.V.int (-1000000000000000000),L2.V.int (1000000000000000000)]∧L2.jJ (L2.KOf KX) q8 [L2.V.int (1),L2.V.int (1000000000000000000)]∧L2.jJ (L2.KOf KX) q9 [L2.V.int (1),L2.V.int (1000000000000000000)]∧L2.jJ (L2.KOf KX) q10 [L2.V.int (0),L2.V.int (1000000000)]∧L2.jJ (L2.KOf KX) q11 [L2.V.int (1),L2.V.int (1000000000)]:=by
   dsimp only [L2.KOf];refine' Mb.zHA KX G ?aD ?lD ?sD ?eD ?nD ?u0 ?z0 ?v0 ?u1 ?z1 ?v1 ?u2 ?z2 ?v2 ?u3 ?z3 ?v3 ?u4 ?z4 ?v4 ?u5 ?z5 ?v5 ?u6 ?z6 ?v6 ?u7 ?z7 ?v7 ?u8 ?z8 ?v8 ?u9 ?z9 ?v9 ?u10 ?z10 ?v10 ?u11 ?z11 ?v11
   (case aD=>k_is);(case lD=>k_is);(case sD=>decide +kernel);(case eD=>exact .cons (by rfl) (by rfl) (by rfl) (.cons (by rfl) (by rfl) (by rfl) (.cons (by rfl) (by rfl) (by rfl) (.cons (by rfl) (by rfl) (by rfl) (.cons (by rfl) (by rfl) (by rfl) (.cons (by rfl) (by rfl) (by rfl) (.cons (by rfl) (by rfl) (by rfl) (.cons (by rfl) (by rfl) (by rfl) (.cons (by rfl) (by rfl) (by rfl) (.cons (by rfl) (by rfl) (by rfl) (.cons (by rfl) (by rfl) (by rfl) (.cons (by rfl) (by rfl) (by rfl) (.nil)))))))))))));(case nD=>decide +kernel);(case u0=>k_is);(case z0=>decide +kernel);(case v0=>exact .cons ⟨_,rfl⟩ (.cons ⟨_,rfl⟩ (.nil)));(case u1=>k_is);(case z1=>decide +kernel);(case v1=>exact .cons ⟨_,rfl⟩ (.cons ⟨_,rfl⟩ (.nil)));(case u2=>k_is);(case z2=>decide +kernel);(case v2=>exact .cons ⟨_,rfl⟩ (.cons ⟨_,rfl⟩ (.nil)));(case u3=>k_is);(case z3=>decide +kernel);(case v3=>exact .cons ⟨_,rfl⟩ (.cons ⟨_,rfl⟩ (.nil)));(case u4=>k_is);(case z4=>decide +kernel);(case v4=>exact .cons ⟨_,rfl⟩ (.cons ⟨_,rfl⟩ (.nil)));(case u5=>k_is);(case z5=>decide +kernel);(case v5=>exact .cons ⟨_,rfl⟩ (.cons ⟨_,rfl⟩ (.nil)));(case u6=>k_is);(case z6=>decide +kernel);(case v6=>exact .cons ⟨_,rfl⟩ (.cons ⟨_,rfl⟩ (.nil)));(case u7=>k_is);(case z7=>decide +kernel);(case v7=>exact .cons ⟨_,rfl⟩ (.cons ⟨_,rfl⟩ (.nil)));(case u8=>k_is);(case z8=>decide +kernel);(case v8=>exact .cons ⟨_,rfl⟩ (.cons ⟨_,rfl⟩ (.nil)));(case u9=>k_is);(case z9=>decide +kernel);(case v9=>exact .cons ⟨_,rfl⟩ (.cons ⟨_,rfl⟩ (.nil)));(case u10=>k_is);(case z10=>decide +kernel);(case v10=>exact .cons ⟨_,rfl⟩ (.cons ⟨_,rfl⟩ (.nil)));(case u11=>k_is);(case z11=>decide +kernel);(case v11=>exact .cons ⟨_,rfl⟩ (.cons ⟨_,rfl⟩ (.nil)))
  have zGJ:∃ a q0 q1 q2 q3 q4 q5 q6 q7 q8 q9 q10 q11 q12,mg "QUESTIONS"=some (.ref a)∧L2.KD PySem.Challenge.rw_meterbookdesk_s01_answers.prog w (L2.KOf KX) a [((Sum.inl (10):L2.Key),L2.V.ref q0),((Sum.inl (11):L2.Key),L2.V.ref q1),((Sum.inl (12):L2.Key),L2.V.ref q2),((Sum.inl (13):L2.Key),L2.V.ref q3),((Sum.inl (14):L2.Key),L2.V.ref q4),((Sum.inl (15):L2.Key),L2.V.ref q5),((Sum.inl (16):L2.Key),L2.V.ref q6),((Sum.inl (17):L2.Key),L2.V.ref q7),((Sum.inl (18):L2.Key),L2.V.ref q8),((Sum.inl (19):L2.Key),L2.V.ref q9),((Sum.inl (20):L2.Key),L2.V.ref q10),((Sum.inl (21):L2.Key),L2.V.ref q11),((Sum.inl (22):L2.Key),L2.V.ref q12)]∧mg "tell_meter"=some (.ref q0)∧mg "tell_means"=some (.ref q1)∧mg "tell_levels"=some (.ref q2)∧mg "tell_inside"=some (.ref q3)∧mg "tell_busy"=some (.ref q4)∧mg "tell_table"=some (.ref q5)∧mg "tell_classes"=some (.ref q6)∧mg "tell_quantile"=some (.ref q7)∧mg "tell_below"=some (.ref q8)∧mg "tell_value"=some (.ref q9)∧mg "tell_above"=some (.ref q10)∧mg "tell_clock"=some (.ref q11)∧mg "tell_live"=some (.ref q12):=by
   dsimp only [L2.KOf];refine' Mb.zDV KX G ?aD ?lD ?sD ?eD ?nD ?u0 ?u1 ?u2 ?u3 ?u4 ?u5 ?u6 ?u7 ?u8 ?u9 ?u10 ?u11 ?u12
   (case aD=>k_is);(case lD=>k_is);(case sD=>decide +kernel);(case eD=>exact .cons (by rfl) (by rfl) (by rfl) (.cons (by rfl) (by rfl) (by rfl) (.cons (by rfl) (by rfl) (by rfl) (.cons (by rfl) (by rfl) (by rfl) (.cons (by rfl) (by rfl) (by rfl) (.cons (by rfl) (by rfl) (by rfl) (.cons (by rfl) (by rfl) (by rfl) (.cons (by rfl) (by rfl) (by rfl) (.cons (by rfl) (by rfl) (by rfl) (.cons (by rfl) (by rfl) (by rfl) (.cons (by rfl) (by rfl) (by rfl) (.cons (by rfl) (by rfl) (by rfl) (.cons (by rfl) (by rfl) (by rfl) (.nil))))))))))))));(case nD=>decide +kernel);case u0|u1|u2|u3|u4|u5|u6|u7|u8|u9|u10|u11|u12=>k_is
  have T:Mb.TX (L2.KOf KX) mg CBook CMeter CTable:={ clMeter:=clMeter,a1:=zDD,a2:=zDa,a3:=zBz,a4:=zB0,a5:=zDb,a6:=zDc,a7:=xS,a8:=zDE,a9:=x9,clBook:=clBook,b1:=zFC,b2:=zAz,b3:=zDd,b4:=zDe,b5:=zFD,clTable:=clTable,t1:=wY,t2:=wZ,t3:=zDZ,t4:=zBy,cDONE:=cDONE,cOUT_OF_RANGE:=cOUT_OF_RANGE,cBEFORE_CLOCK:=cBEFORE_CLOCK,cWRONG_PARTNER:=cWRONG_PARTNER,cFULL:=cFULL,cNOT_LOOSE:=cNOT_LOOSE,cTOO_FINE:=cTOO_FINE,cNO_LIKE_TABLE:=cNO_LIKE_TABLE,cNO_TALLIES:=cNO_TALLIES,cMOST_GUESTS:=cMOST_GUESTS,cFINEST_DENOMINATOR:=cFINEST_DENOMINATOR,cQUANTILE:=cQUANTILE,cMETER_COUNT:=cMETER_COUNT,cTABLE_COUNT:=cTABLE_COUNT,cVALUE_COUNT:=cVALUE_COUNT,n_len:=n_len,n_abs:=n_abs,n_zip:=n_zip,n_range:=n_range,n_sum:=n_sum,n_max:=n_max,n_min:=n_min,n_sorted:=n_sorted,n_list:=n_list,n_enumerate:=n_enumerate };have hpl:∀ p:Nat,p≤23→p<Mb.ji:=Mb.zIq;have B:=Mb.whole T hpl vR zE7 zBL zC7 zBM xB j5 zE8 zHL zE9 zBN j6 zAF xl xC xD zC8 zC9 zBO zBP zAG zBQ zFA zBR zDA zBS zBT xm xo xE xF zAH xp yP vm xq xr xu xw zAI zAJ zFB ke zBU yQ zDB zBV yR zAK xG vn kL jt kn xH vp vq vt ju jv j7 kq kr kf jq vS xx xy zAL x6 zIx zGJ zL2 zKi;obtain⟨f,fd,F,hm⟩:=zKh;have ef:Value.ref f=Value.ref fa:=Option.some.inj (hm.symm.trans hmg)
  injection ef with ef
  subst ef;exact⟨fd,Mb.zG9 F B⟩
 case S =>
  intro K H xs a hO hwi hask hx
  cases hx with
  | cons h1 h2 =>
   cases h2
   cases h1 with
   | lst hs ha =>
    have e:=L2.zJr a.1 _ ha;subst e;have q:((Codec.inLen 0 16000 a.1&&a.1.all (Codec.inInt (-1000000000000000000) 1000000000000000000))&&true)=true:=hwi;rw [Bool.and_eq_true,Bool.and_eq_true] at q;exact⟨_,a.1,rfl,hs,hask,(Codec.inNat_iff.mp q.1.1).2,fun H' p hp => .lst (L2.SqL.of hp) (L2.zJq _)⟩

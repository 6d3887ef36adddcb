import PyProof.Rows.All
import Wide.All
import OpenK.AllK
import Wide.FinOn
import PyProof.EqAt
import PyProof.EqKinds
import PyProof.TupleCall
import KE.BitLaws
import OpenK.KMake
import PyProof.ExcFactsAll.Exception
import PyProof.ExcClass3
import PyProof.ExcArgsOwn
import PyProof.ListRange
import PyProof.Rows.SetFrom
import PyProof.Rows.SortShellAny
import PyProof.AutoIntG2
import PyProof.FactsAll.int_6
import PyProof.Draws
import KE.KLam
import KE.KSortKeySt
import KE.KNestM
import Open.SpecLaws
import KE.OsHead
import KE.OsGo
import KE.KNest
import PySem.Challenge.RW_sharedhelp_s01_answers
set_option Elab.async false
set_option linter.all false
set_option maxRecDepth 100000
set_option maxHeartbeats 4000000
section
open List (foldl_cons sum_cons map_cons length_cons map_congr_left filter_cons flatMap_cons sum_append map_nil map_map mem_range range_succ filter_append filter_congr length_filter_le nodup_cons filter_eq_self map_append append_nil length_map mem_filter getD_eq_getElem?_getD getElem?_map getElem?_range length_append getElem?_append_left getElem?_append_right foldl_append filter_eq_nil_iff mem_map filter_map all_cons mem_cons_self mem_cons_of_mem all_map mem_cons nil_append cons_append length_reverse mem_append pairwise_append pairwise_map mem_append_left exists_cons_of_ne_nil mem_map_of_mem mem_append_right length_take ext_getElem? getElem?_set_self length_set getElem?_set_ne getElem?_eq_none all_eq_true range' findSome?_cons find?_cons getElem?_eq_getElem length_singleton any_cons any_eq_true any_eq_false filter_nil pairwise_cons append_assoc Pairwise map_id map_take mem_of_mem_take range_succ_eq_map mem_of_getElem? length_nil Nodup mem_filterMap filterMap_cons of_mem_zip replicate length_drop size_toArray any_map lookup_cons contains_cons mem_singleton length_range take_length all_append map_drop flatMap_def drop_drop drop_eq_getElem_cons)
open Nat (mul_pos eq_of_testBit_eq pow_succ testBit_or testBit_two_pow zero_testBit testBit_lt_two_pow lt_of_lt_of_le pow_le_pow_right add_comm le_refl le_trans add_mul succ_pos add_sub_cancel testBit_and mul_add two_pow_pos sub_self not_lt_zero lt_succ_self add_zero testBit_xor and_div_two mod_two_eq_zero_or_one lt_or_ge and_le_right lt_of_le_of_lt testBit_two_pow_self gcd zero_le pos_of_ne_zero lt_irrefl ne_of_lt le_of_lt ne_of_gt le_of_eq le_succ le_add_right min_eq_left succ_mul)
open Int (zero_add mul_comm natCast_mul toNat ofNat toNat_natCast one_mul ofNat_le)
open Option (getD_some map_some isSome_iff_exists getD_none bind_some)
open Bool (and_eq_true or_eq_true not_eq_true' noConfusion)
open Array (length_toList toList)
open PySem.W (instObj methodObj hideAll hideAll_get of_hideAll hideAll_none lookIn plainGet hasDictIn plainGet_of findObj_own isFn plainOver takerIn set_plain makesIn keepIn callWith_K methodCall_KW callWith_K0 fnOf codeIn specialIn readsIn findCls funFrames_hide tabIn codeHdIn nsIn mg_of WRecords noTabs WalkOS)
open PySem.Heap (lt_size get?_push_of_some get?_push_size size_push get?_update_self get?_update_other Ns ExtBut)
open VbedahNeutral (asked1 whole64)
open PyFlat (rows played)
open PyVbedah (shape answers_asked)
open PySem.Value (float)
abbrev fZ:=List (PySem.Addr×PySem.Obj)
abbrev iE:=PySem.Value->PySem.Shared->Prop
abbrev rn:=PySem.Str->Option PySem.Value
section
namespace Shm
open Vbedah
theorem foldl_add(l:List Int):∀a:Int,l.foldl (λa b=>a+b) a=a+l.sum:=by
 induction l with
 |nil=>intro a;simp
 |cons x r ih=>intro a;rw[foldl_cons,ih,sum_cons];omega
theorem jA(l:List Int):sumI l=l.sum:=by
 unfold sumI;rw[foldl_add];omega
theorem sum_map_add{α:Type}(f g:α->Int)(l:List α):(l.map λx=>f x+g x).sum=(l.map f).sum+(l.map g).sum:=by
 induction l with
 |nil=>rfl
 |cons x r ih=>simp only[map_cons,sum_cons,ih];omega
theorem ug{α:Type}(k:Int)(f:α->Int)(l:List α):(l.map λx=>k*f x).sum=k*(l.map f).sum:=by
 induction l with
 |nil=>simp
 |cons x r ih=>simp only[map_cons,sum_cons,ih];grind
theorem jB{α:Type}(l:List α):(l.map λ_=>(0:Int)).sum=0:=by
 induction l with
 |nil=>rfl
 |cons x r ih=>simp only[map_cons,sum_cons,ih];rfl
theorem sum_map_const{α:Type}(k:Int)(l:List α):(l.map λ_=>k).sum=l.length*k:=by
 induction l with
 |nil=>simp
 |cons x r ih=>simp only[map_cons,sum_cons,ih,length_cons];push_cast;grind
theorem sum_map_congr{α:Type}{f g:α->Int}{l:List α}(h:∀x∈l,f x=g x):(l.map f).sum=(l.map g).sum:=by
 rw[map_congr_left h]
theorem sum_filter{α:Type}(p:α->Bool)(f:α->Int)(l:List α):((l.filter p).map f).sum=(l.map λx=>if p x=true then f x else 0).sum:=by
 induction l with
 |nil=>rfl
 |cons x r ih=>
  rw[filter_cons];by_cases h:p x=true
  ·simp only[h,if_true,map_cons,sum_cons,ih]
  ·rw[map_cons,sum_cons,if_neg h,if_neg h,ih];omega
theorem Ir{α:Type}(f:α->List Int)(l:List α):(l.flatMap f).sum=(l.map λx=>(f x).sum).sum:=by
 induction l with
 |nil=>rfl
 |cons x r ih=>rw[flatMap_cons,sum_append,map_cons,sum_cons,ih]
def qE(r:Rat):Q:=(r.num,r.den)
theorem cI(n:Int){d:Nat}(h:0<d):frac n d=qE ((n:Rat)/(d:Rat)):=by
 unfold frac qE;have e:((n:Rat)/(d:Rat))=mkRat n d:=by
  rw[Rat.mkRat_eq_div]
 rw[e];have hd:d≠0:=by omega
 rw[Rat.mkRat_def,dif_neg hd];rw[Rat.normalize_eq]
theorem Fo(a:Rat):((a.den:Nat):Rat)≠0:=by
 intro h;have h2:a.den=0:=Rat.natCast_inj.mp h;exact a.den_nz h2
theorem js{n:Nat}(h:0<n):(n:Rat)≠0:=by
 intro e;have h2:n=0:=Rat.natCast_inj.mp e;omega
theorem NZ{n:Nat}(h:0<n):(0:Rat)<(n:Rat):=Rat.natCast_pos.mpr h
theorem J7(a b:Rat):add (qE a) (qE b)=qE (a+b):=by
 have h:0<(qE a).2*(qE b).2:=mul_pos a.den_pos b.den_pos;unfold add;rw[cI _ h,Rat.add_def',Rat.mkRat_eq_div];rfl
theorem QF(a b:Rat):sub (qE a) (qE b)=qE (a-b):=by
 have h:0<(qE a).2*(qE b).2:=mul_pos a.den_pos b.den_pos;unfold sub;rw[cI _ h,Rat.sub_def',Rat.mkRat_eq_div];rfl
theorem nI(a:Rat):(a.num:Rat)/(a.den:Rat)=a:=by
 rw[<-Rat.mkRat_eq_div,Rat.mkRat_self]
theorem IH(n:Int):whole n=qE (n:Rat):=rfl
theorem zero_eq:((0,1):Q)=qE 0:=rfl
theorem Mp(k:Int)(a:Rat):times k (qE a)=qE ((k:Rat)*a):=by
 unfold times;rw[cI _ (show 0<(qE a).2 from a.den_pos)];congr 1;show((k*a.num:Int):Rat)/(a.den:Rat)=_;have h:=nI a;have h2:=Fo a;rw[Rat.intCast_mul]
 grind
theorem Of(a:Rat){n:Nat}(h:0<n):over (qE a) n=qE (a/(n:Rat)):=by
 unfold over;rw[cI _ (show 0<(qE a).2*n from mul_pos a.den_pos h)];congr 1;show(a.num:Rat)/((a.den*n:Nat):Rat)=_;have h1:=nI a;have h2:=Fo a;have h3:=js h;rw[Rat.natCast_mul]
 grind
theorem RO(a b:Rat):lt (qE a) (qE b)=decide (a<b):=by
 unfold lt;have e:(a<b)=((qE a).1*((qE b).2:Int)<(qE b).1*((qE a).2:Int)):=by
  exact propext (Rat.lt_iff a b)
 rw[decide_eq_decide];rw[e]
theorem OF(a b:Rat):same (qE a) (qE b)=decide (a=b):=by
 unfold same;rw[decide_eq_decide];have h1:=nI a;have h2:=nI b;have h3:=Fo a;have h4:=Fo b;constructor
 ·intro h;have h':(a.num:Int)*(b.den:Int)=b.num*(a.den:Int):=h;have q:(a.num:Rat)*(b.den:Rat)=(b.num:Rat)*(a.den:Rat):=by
   have z:=congrArg (λi:Int=>(i:Rat)) h';simp only[Rat.intCast_mul]at z;exact z
  grind
 ·intro h;subst h;rfl
theorem Mq(l:List Rat):total (l.map qE)=qE l.sum:=by
 have gen:∀(l:List Rat)(a:Rat),(l.map qE).foldl add (qE a)=qE (a+l.sum):=by
  intro l
  induction l with
  |nil=>intro a;rw[map_nil,List.foldl_nil,List.sum_nil,Rat.add_zero]
  |cons x r ih=>
   intro a;rw[map_cons,foldl_cons,J7,ih,sum_cons,Rat.add_assoc]
 unfold total;rw[zero_eq,gen,Rat.zero_add]
theorem EU{α:Type}(f:α->Q)(g:α->Rat)(l:List α)(h:∀x∈l,f x=qE (g x)):total (l.map f)=qE (l.map g).sum:=by
 rw[<-Mq,map_map];congr 1;exact map_congr_left h
theorem Gr{α:Type}(f:α->Int)(d:Rat)(l:List α):(l.map λx=>(f x:Rat)/d).sum=((l.map f).sum:Int)/d:=by
 induction l with
 |nil=>simp[Rat.div_def]
 |cons x r ih=>simp only[map_cons,sum_cons,ih,Rat.intCast_add];grind
theorem mU{α:Type}(f:α->Int){d:Nat}(hd:0<d)(l:List α):total (l.map λx=>frac (f x) d)=frac (l.map f).sum d:=by
 rw[EU _ (λx=>(f x:Rat)/(d:Rat)) l λx _=>cI _ hd,Gr,<-cI _ hd]
end Shm
end
section
namespace Shm
open Vbedah
theorem Bb{s i:Nat}(h:s.testBit i=false):s+2^i=s|||2^i:=by
 have hr:s%2^(i+1)<2^i:=by
  apply Nat.lt_pow_two_of_testBit;intro j hj;rw[Nat.testBit_mod_two_pow];by_cases e:j=i
  ·subst e;rw[h];simp
  ·have:¬j<i+1:=by omega
   simp[this]
 have hs:s=2^(i+1)*(s/2^(i+1))+s%2^(i+1):=(Nat.div_add_mod _ _).symm;apply eq_of_testBit_eq;intro j;have hp:2^(i+1)=2^i+2^i:=by rw[pow_succ];omega
 have e:s+2^i=2^(i+1)*(s/2^(i+1))+(2^i+s%2^(i+1)):=by omega
 rw[testBit_or,testBit_two_pow,e,Nat.testBit_two_pow_mul_add _ (by omega)];by_cases hj:j<i+1
 ·rw[if_pos hj];by_cases q:i=j
  ·subst q;rw[Nat.testBit_two_pow_add_eq,Nat.testBit_mod_two_pow,h];simp
  ·rw[Nat.testBit_two_pow_add_gt (by omega),Nat.testBit_mod_two_pow];simp[hj,q]
 ·rw[if_neg hj];have q:¬i=j:=by omega
  rw[Nat.testBit_div_two_pow];have:j-(i+1)+(i+1)=j:=by omega
  simp[this,q]
theorem C9{s i:Nat}(h:has s i=true):with_ s i=s:=by unfold with_;rw[if_pos h]
theorem jC{s i:Nat}(h:has s i=false):with_ s i=s+2^i:=by
 unfold with_;rw[if_neg (by rw[h];simp)];rfl
theorem kh(s i:Nat):with_ s i=s|||2^i:=by
 by_cases h:has s i=true
 ·rw[C9 h];apply eq_of_testBit_eq;intro j;rw[testBit_or,testBit_two_pow];by_cases e:i=j
  ·subst e;unfold has at h;simp[h]
  ·simp[e]
 ·have h0:has s i=false:=by simpa using h
  rw[jC h0,Bb h0]
theorem fR(s i j:Nat):has (with_ s i) j=(has s j||decide (i=j)):=by
 unfold has;rw[kh,testBit_or,testBit_two_pow]
theorem oM(j:Nat):has 0 j=false:=zero_testBit j
theorem Mv(s i j:Nat):with_ (with_ s i) j=with_ (with_ s j) i:=by
 simp only[kh];rw[Nat.or_assoc,Nat.or_comm (2^i),<-Nat.or_assoc]
theorem qj{s i:Nat}(h:has s i=false):without s i=s:=by unfold without;rw[if_neg (by rw[h];simp)]
theorem fD{s i:Nat}(h:has s i=true):without s i=s-2^i:=by unfold without;rw[if_pos h];rfl
theorem fQ{s n:Nat}(h:s<2^n){i:Nat}(hi:n<=i):has s i=false:=
 testBit_lt_two_pow (lt_of_lt_of_le h (pow_le_pow_right (by decide) hi))
theorem gO{s n:Nat}(h:s<2^n):has (s+2^n) n=true:=by
 unfold has;rw[add_comm,Nat.testBit_two_pow_add_eq,testBit_lt_two_pow h];rfl
theorem eN{s n i:Nat}(_:s<2^n)(hi:i<n):has (s+2^n) i=has s i:=by
 unfold has;rw[add_comm,Nat.testBit_two_pow_add_gt hi]
theorem Mb(n:Nat):List.range (2^(n+1))=List.range (2^n)++(List.range (2^n)).map (λs=>s+2^n):=by
 have:2^(n+1)=2^n+2^n:=by rw[pow_succ];omega
 rw[this,List.range_add];congr 1;apply map_congr_left;intro x _;omega
theorem i4(n:Nat):groups (n+1)=groups n++(groups n).map (λs=>s+2^n):=Mb n
theorem aP{n s:Nat}:s∈groups n↔s<2^n:=by unfold groups size;exact mem_range
theorem sy{n s:Nat}(h:s<2^n):members (n+1) s=members n s:=by
 unfold members;rw[range_succ,filter_append];simp[fQ h (le_refl n)]
theorem pU{n s:Nat}(h:s<2^n):members (n+1) (s+2^n)=members n s++[n]:=by
 unfold members;rw[range_succ,filter_append];congr 1
 ·apply filter_congr;intro i hi;exact eN h (mem_range.mp hi)
 ·simp[gO h]
theorem gS{n s:Nat}(h:s<2^n):count (n+1) s=count n s:=by unfold count;rw[sy h]
theorem g9{n s:Nat}(h:s<2^n):count (n+1) (s+2^n)=count n s+1:=by unfold count;rw[pU h];simp
theorem count_le(n s:Nat):count n s<=n:=by
 unfold count members;exact le_trans (length_filter_le _ _) (by simp)
def SS:List Nat->(Nat->Nat->Int)->Nat->Nat->Int
 |[],F,k,s=>F k s
 |x::m,F,k,s=>SS m F k s+SS m F (k+1) (with_ s x)
theorem Ba:∀(m:List Nat)(F:Nat->Nat->Int)(k s:Nat),SS m F (k+1) s=SS m (λj u=>F (j+1) u) k s
 |[],_,_,_=>rfl
 |x::m,F,k,s=>by
  show SS m F (k+1) s+SS m F (k+1+1) (with_ s x)=_;rw[Ba m F k s,Ba m F (k+1) (with_ s x)];rfl
theorem oE:∀(m:List Nat)(F G:Nat->Nat->Int)(k s:Nat),(∀j u,k<=j->j<=k+m.length->F j u=G j u)->SS m F k s=SS m G k s
 |[],F,G,k,s,h=>h k s (le_refl _) (le_refl _)
 |x::m,F,G,k,s,h=>by
  show SS m F k s+SS m F (k+1) (with_ s x)=SS m G k s+SS m G (k+1) (with_ s x);rw[oE m F G k s λj u a b=>h j u a (by rw[length_cons];omega),oE m F G (k+1) (with_ s x) λj u a b=>h j u (by omega) (by rw[length_cons];omega)]
theorem E4:∀(m:List Nat)(F G:Nat->Nat->Int)(k s:Nat),SS m (λj u=>F j u+G j u) k s=SS m F k s+SS m G k s
 |[],_,_,_,_=>rfl
 |x::m,F,G,k,s=>by
  show SS m (λj u=>F j u+G j u) k s+SS m (λj u=>F j u+G j u) (k+1) (with_ s x)=(SS m F k s+SS m F (k+1) (with_ s x))+(SS m G k s+SS m G (k+1) (with_ s x))
  rw[E4 m F G k s,E4 m F G (k+1) (with_ s x)];omega
theorem E5(x:Nat):∀(m:List Nat)(F:Nat->Nat->Int)(k s:Nat),SS (m++[x]) F k s=SS m F k s+SS m (λj u=>F (j+1) (with_ u x)) k s
 |[],F,k,s=>rfl
 |y::m,F,k,s=>by
  show SS (m++[x]) F k s+SS (m++[x]) F (k+1) (with_ s y)=_;rw[E5 x m F k s,E5 x m F (k+1) (with_ s y)];show _=(SS m F k s+SS m F (k+1) (with_ s y))+(SS m (λj u=>F (j+1) (with_ u x)) k s+SS m (λj u=>F (j+1) (with_ u x)) (k+1) (with_ s y))
  omega
theorem IY:∀(m:List Nat),m.Nodup->∀(G:Nat->Nat->Int)(k s:Nat),
  (m.map λx=>SS (m.filter λy=>y !=x) (λj u=>G (j+1) u) k (with_ s x)).sum=SS m (λj u=>((j:Int)-k)*G j u) k s
 |[],_,G,k,s=>by show(0:Int)=((k:Int)-k)*G k s;rw[Int.sub_self,Int.zero_mul]
 |y::m,nd,G,k,s=>by
  obtain⟨hy,hm⟩:=nodup_cons.mp nd;have f1:(m.filter λz=>z !=y)=m:=by
   rw[filter_eq_self];intro z hz;simp;rintro rfl;exact hy hz
  rw[map_cons,sum_cons];have e1:((y::m).filter λz=>z !=y)=m:=by rw[filter_cons,if_neg (by simp),f1]
  rw[e1];have e2:(m.map λx=>SS ((y::m).filter λz=>z !=x) (λj u=>G (j+1) u) k (with_ s x))=
    m.map λx=>SS (m.filter λz=>z !=x) (λj u=>G (j+1) u) k (with_ s x)+SS (m.filter λz=>z !=x) (λj u=>G (j+1) u) (k+1) (with_ (with_ s y) x):=by
   apply map_congr_left;intro x hx;have:(y !=x)=true:=by simp;rintro rfl;exact hy hx
   rw[filter_cons,if_pos this,Mv s y x];rfl
  rw[e2,sum_map_add,IY m hm G k s,IY m hm G (k+1) (with_ s y)];show _=SS m (λj u=>((j:Int)-k)*G j u) k s+SS m (λj u=>((j:Int)-k)*G j u) (k+1) (with_ s y);have e3:SS m (λj u=>G (j+1) u) k (with_ s y)=SS m (λj u=>G j u) (k+1) (with_ s y):=(Ba m _ k _).symm;have e4:SS m (λj u=>((j:Int)-k)*G j u) (k+1) (with_ s y)=SS m (λj u=>G j u+((j:Int)-((k+1:Nat):Int))*G j u) (k+1) (with_ s y):=by
   apply oE;intro j u _ _
   push_cast
   grind
  rw[e3,e4,E4];show SS m G (k+1) (with_ s y)+_=_+(SS m G (k+1) (with_ s y)+_)
  omega
theorem rq(i:Nat):∀(n:Nat)(F:Nat->Nat->Int),
  SS ((List.range n).filter λy=>y !=i) F 0 0=((groups n).map λu=>if has u i=true then 0 else F (count n u) u).sum
 |0,F=>by simp[SS,groups,size,oM];rfl
 |n+1,F=>by
  rw[range_succ,filter_append,i4,map_append,sum_append,map_map];by_cases hi:n=i
  ·subst hi;have e0:([n].filter λy=>y !=n)=[]:=by simp
   rw[e0,append_nil,rq n n F];have z:((groups n).map ((λu=>if has u n=true then 0 else F (count (n+1) u) u)∘λs=>s+2^n)).sum=0:=by
    refine Eq.trans (sum_map_congr (g:=λ_=>0) λu hu=>?_) (jB (groups n));show(if has (u+2^n) n=true then 0 else _)=(0:Int)
    rw[if_pos (gO (aP.mp hu))]
   rw[z,Int.add_zero];apply sum_map_congr;intro u hu;rw[gS (aP.mp hu)]
  ·have e0:([n].filter λy=>y !=i)=[n]:=by simp[hi]
   rw[e0,E5,rq i n F,rq i n];congr 1
   ·apply sum_map_congr;intro u hu;rw[gS (aP.mp hu)]
   ·apply sum_map_congr;intro u hu;have hu':=aP.mp hu;show _=if has (u+2^n) i=true then 0 else F (count (n+1) (u+2^n)) (u+2^n)
    rw[g9 hu',jC (fQ hu' (le_refl n))];by_cases hlt:i<n
    ·rw[eN hu' hlt]
    ·have h1:has u i=false:=fQ hu' (by omega);have h2:has (u+2^n) i=false:=fQ (n:=n+1) (by rw[pow_succ];omega) (by omega);rw[h1,h2]
def val(g:Game)(i:Nat)(s:Nat)(o:List Nat):Int:=(((cameFrom g s o).find? λx=>x.1==i).map λx=>x.2).getD 0
theorem mV(g:Game)(i s x:Nat)(o:List Nat):val g i s (x::o)=if x=i then adds g x s else val g i (with_ s x) o:=by
 unfold val;rw[cameFrom];by_cases h:x=i
 ·subst h;simp
 ·simp[h]
theorem iW:∀{l:List Nat}{x:Nat},l.Nodup->x∈l->(l.filter λy=>y !=x).length+1=l.length
 |[],_,_,h=>by simp at h
 |y::l,x,nd,h=>by
  obtain⟨hy,hl⟩:=nodup_cons.mp nd;by_cases e:y=x
  ·subst e;rw[filter_cons,if_neg (by simp)];have f1:(l.filter λz=>z !=y)=l:=by
    rw[filter_eq_self];intro z hz;simp;rintro rfl;exact hy hz
   rw[f1,length_cons]
  ·have hx:x∈l:=by simpa[Ne.symm e]using h
   rw[filter_cons,if_pos (by simpa using e),length_cons,iW hl hx,length_cons]
theorem C2{α:Type}(k:Nat):∀l:List α,(l.map λ_=>k).sum=l.length*k
 |[]=>by simp
 |x::l=>by rw[map_cons,sum_cons,C2 k l,length_cons,add_mul];omega
theorem oy:∀(k:Nat)(l:List Nat),l.Nodup->l.length=k->(orders k l).length=fact k
 |0,l,_,h=>by rfl
 |k+1,l,nd,h=>by
  unfold orders;have hne:¬l.isEmpty=true:=by cases l with|nil=>simp at h|cons _ _=>simp
  rw[if_neg hne,List.length_flatMap];have e:(l.map λx=>((orders k (l.filter λy=>y !=x)).map λr=>x::r).length)=l.map λ_=>fact k:=by
   apply map_congr_left;intro x hx;rw[length_map];exact oy k _ (nd.filter _) (by have:=iW nd hx;omega)
  rw[e,C2,h];rfl
def TT(g:Game)(i k s:Nat)(l:List Nat):Int:=((orders k l).map λo=>val g i s o).sum
theorem J6(g:Game)(i k s:Nat)(l:List Nat)(h:l.isEmpty=false):
  TT g i (k+1) s l=(l.map λx=>if x=i then((orders k (l.filter λy=>y !=x)).length:Int)*adds g x s else TT g i k (with_ s x) (l.filter λy=>y !=x)).sum:=by
 unfold TT;rw[orders,if_neg (by rw[h];simp),List.map_flatMap,Ir];apply sum_map_congr;intro x _;rw[map_map];by_cases e:x=i
 ·rw[if_pos e,<-sum_map_const];apply sum_map_congr;intro o _;show val g i s (x::o)=_;rw[mV,if_pos e]
 ·rw[if_neg e];apply sum_map_congr;intro o _;show val g i s (x::o)=_;rw[mV,if_neg e]
theorem FE(l:List Nat)(p q:Nat->Bool):(l.filter p).filter q=(l.filter q).filter p:=by
 rw[List.filter_filter,List.filter_filter];congr 1;funext x;rw[Bool.and_comm]
theorem hZ:∀n,0<fact n
 |0=>by decide
 |n+1=>mul_pos (succ_pos n) (hZ n)
theorem QS(g:Game)(i:Nat):∀(k:Nat)(l:List Nat)(s:Nat),l.Nodup->l.length=k+1->i∈l->
  TT g i (k+1) s l=SS (l.filter λy=>y !=i) (λj u=>((fact j*fact (k-j):Nat):Int)*adds g i u) 0 s:=by
 intro k
 induction k with
 |zero=>
  intro l s nd hl hi
  match l,hl with
  |[x],_=>
   have e:i=x:=by simpa using hi
   subst e;rw[J6 _ _ _ _ _ rfl];simp[orders,SS,fact]
 |succ k ih=>
  intro l s nd hl hi;have hne:l.isEmpty=false:=by cases l with|nil=>simp at hl|cons _ _=>rfl
  rw[J6 _ _ _ _ _ hne];have hm:(l.filter λy=>y !=i).length=k+1:=by have:=iW nd hi;omega
  have nm:(l.filter λy=>y !=i).Nodup:=nd.filter _;have split:∀(f:Nat->Int),(l.map f).sum=f i+((l.filter λy=>y !=i).map f).sum:=by
   intro f;have:∀l:List Nat,l.Nodup->i∈l->(l.map f).sum=f i+((l.filter λy=>y !=i).map f).sum:=by
    intro l
    induction l with
    |nil=>intro _ h;simp at h
    |cons y l ihl=>
     intro nd hi;obtain⟨hy,hl⟩:=nodup_cons.mp nd;by_cases e:y=i
     ·subst e;rw[filter_cons,if_neg (by simp)];have f1:(l.filter λz=>z !=y)=l:=by
       rw[filter_eq_self];intro z hz;simp;rintro rfl;exact hy hz
      rw[f1,map_cons,sum_cons]
     ·have hx:i∈l:=by simpa[Ne.symm e]using hi
      rw[filter_cons,if_pos (by simpa using e),map_cons,sum_cons,ihl hl hx,map_cons,sum_cons];omega
   exact this l nd hi
  rw[split,if_pos rfl,oy (k+1) _ nm hm];have e1:((l.filter λy=>y !=i).map λx=>if x=i then((orders (k+1) (l.filter λy=>y !=x)).length:Int)*adds g x s else TT g i (k+1) (with_ s x) (l.filter λy=>y !=x))=
    (l.filter λy=>y !=i).map λx=>SS ((l.filter λy=>y !=i).filter λy=>y !=x) (λj u=>(λj u=>((fact (j-1)*fact (k+1-j):Nat):Int)*adds g i u) (j+1) u) 0 (with_ s x):=by
   apply map_congr_left;intro x hx;obtain⟨hxl,hxi⟩:=mem_filter.mp hx;have hxi':¬x=i:=by simpa using hxi
   have q:=iW nd hxl;rw[if_neg hxi',ih (l.filter λy=>y !=x) (with_ s x) (nd.filter _) (by omega) (mem_filter.mpr ⟨hi,by simpa using Ne.symm hxi'⟩),FE];apply oE;intro j u _ _;show _=((fact (j+1-1)*fact (k+1-(j+1)):Nat):Int)*adds g i u;rw[add_sub_cancel,Nat.add_sub_add_right]
  have e2:=IY _ nm (λj u=>((fact (j-1)*fact (k+1-j):Nat):Int)*adds g i u) 0 s;rw[e1,e2];have z0:∀(m:List Nat)(s:Nat)(F:Nat->Nat->Int),SS m (λj u=>if j=0 then F j u else 0) 0 s=F 0 s:=by
   intro m
   induction m with
   |nil=>intro s F;rfl
   |cons y m ihm=>
    intro s F;show SS m _ 0 s+SS m _ (0+1) (with_ s y)=_;rw[ihm s F,oE m _ (λ_ _=>0) (0+1) (with_ s y) λj u a b=>if_neg (by omega)];have:∀(m:List Nat)(k s:Nat),SS m (λ_ _=>0) k s=0:=by
     intro m
     induction m with
     |nil=>intro _ _;rfl
     |cons z m ihz=>intro k s;show SS m _ k s+SS m _ (k+1) (with_ s z)=0;rw[ihz,ihz];rfl
    rw[this];omega
  have z1:=z0 (l.filter λy=>y !=i) s λj u=>((fact (k+1):Nat):Int)*adds g i u;rw[<-z1,<-E4];apply oE;intro j u _ hj;rw[hm]at hj;cases j with
  |zero=>
   simp[fact]
  |succ j=>
   rw[if_neg (by omega)];show 0+(((j+1:Nat):Int)-(0:Nat))*(((fact (j+1-1)*fact (k+1-(j+1)):Nat):Int)*adds g i u)=((fact (j+1)*fact (k+1-(j+1)):Nat):Int)*adds g i u;rw[add_sub_cancel,show fact (j+1)=(j+1)*fact j from rfl]
   push_cast
   grind
theorem nodup_range(n:Nat):(List.range n).Nodup:=List.nodup_range
theorem GX(g:Game)(o:List Nat){i:Nat}(hi:i<g.n):(byOrder g o).getD i 0=val g i 0 o:=by
 unfold byOrder val;rw[getD_eq_getElem?_getD,getElem?_map,getElem?_range hi];rfl
def aC(g:Game)(i:Nat):Int:=((groups g.n).map λu=>if has u i=true then 0 else((fact (count g.n u)*fact (g.n-1-count g.n u):Nat):Int)*adds g i u).sum
theorem uc(g:Game):share g=(List.range g.n).map λi=>frac (aC g i) (fact g.n):=by
 unfold share;apply map_congr_left;intro i hi;have hi':=mem_range.mp hi;congr 1;rw[jA,map_map];have e:((orders g.n (List.range g.n)).map ((λx=>x.getD i 0)∘byOrder g)).sum=TT g i g.n 0 (List.range g.n):=by
  unfold TT;apply sum_map_congr;intro o _;exact GX g o hi'
 rw[e];obtain⟨k,hk⟩:∃k,g.n=k+1:=⟨g.n-1,by omega⟩
 unfold aC;have q:=rq i g.n λj u=>((fact j*fact (g.n-1-j):Nat):Int)*adds g i u;rw[<-q,hk,QS g i k _ 0 (nodup_range _) (by simp) (by rw[<-hk];exact hi)];rfl
end Shm
end
section
namespace Shm
open Vbedah
def Dv(c:Nat->Int):Nat->Nat->Int
 |0,s=>c s
 |r+1,s=>if has s r=true then Dv c r s-Dv c r (s-2^r)else Dv c r s
theorem fL{a b:Nat}:inside a b=true↔∀i,has a i=true->has b i=true:=by
 unfold inside has;rw[beq_iff_eq];constructor
 ·intro h i hi;have:=congrArg (λz=>z.testBit i) h;simp only[testBit_and,hi,Bool.true_and]at this;exact this
 ·intro h;apply eq_of_testBit_eq;intro i;rw[testBit_and];cases e:a.testBit i with
  |false=>rfl
  |true=>rw[h i e];rfl
theorem qD{r s t:Nat}(hs:s<2^r)(ht:t<2^r):inside (t+2^r) s=false:=by
 cases e:inside (t+2^r) s with
 |false=>rfl
 |true=>
  have:=fL.mp e r (gO ht);rw[fQ hs (le_refl r)]at this;cases this
theorem yY{r s t:Nat}(hs:s<2^r)(ht:t<2^r):inside t (s+2^r)=inside t s:=by
 rw[Bool.eq_iff_iff,fL,fL];constructor
 ·intro h i hi;by_cases q:i<r
  ·have:=h i hi;rwa [eN hs q]at this
  ·rw[fQ ht (by omega)]at hi;cases hi
 ·intro h i hi;by_cases q:i<r
  ·rw[eN hs q];exact h i hi
  ·rw[fQ ht (by omega)]at hi;cases hi
theorem yX{r s t:Nat}(hs:s<2^r)(ht:t<2^r):inside (t+2^r) (s+2^r)=inside t s:=by
 rw[Bool.eq_iff_iff,fL,fL];constructor
 ·intro h i hi;by_cases q:i<r
  ·have:=h i (by rw[eN ht q];exact hi);rwa [eN hs q]at this
  ·rw[fQ ht (by omega)]at hi;cases hi
 ·intro h i hi;by_cases q:i<r
  ·rw[eN hs q];rw[eN ht q]at hi;exact h i hi
  ·by_cases q2:i=r
   ·subst q2;exact gO hs
   ·have:has (t+2^r) i=false:=fQ (n:=r+1) (by rw[pow_succ];omega) (by omega);rw[this]at hi;cases hi
theorem vL{n t s:Nat}(h:inside t s=true):count n t<=count n s:=by
 unfold count members;rw[<-List.countP_eq_length_filter,<-List.countP_eq_length_filter];exact List.countP_mono_left λi _ hi=>fL.mp h i hi
def lL(c:Nat->Int)(n s t:Nat):Int:=if inside t s=true then(if(count n s-count n t)%2=0 then c t else-(c t))else 0
theorem yO(g:Game)(s:Nat):dividend g s=((groups g.n).map (lL g.cost g.n s)).sum:=by
 unfold dividend;rw[jA];rfl
theorem PM(r q s:Nat)(h:s<2^(r+1)):has (2^(r+1)*q+s) r=has s r:=by
 unfold has;rw[Nat.testBit_two_pow_mul_add _ h,if_pos (by omega)]
theorem J4(c:Nat->Int):∀(r q s:Nat),s<2^r->Dv c r (2^r*q+s)=((groups r).map (lL (λt=>c (2^r*q+t)) r s)).sum
 |0,q,s,h=>by
  have e:s=0:=by simpa using h
  subst e;simp[Dv,groups,size,lL,inside]
 |r+1,q,s,h=>by
  have hp:2^(r+1)=2^r+2^r:=by rw[pow_succ];omega
  have hq:∀x,2^(r+1)*q+x=2^r*(2*q)+x:=λx=>by rw[pow_succ,Nat.mul_assoc]
  have hq1:∀x,2^(r+1)*q+(x+2^r)=2^r*(2*q+1)+x:=λx=>by rw[hq,mul_add];omega
  rw[Dv,PM r q s h,i4,map_append,sum_append,map_map];by_cases hs:s<2^r
  ·rw[if_neg (by rw[fQ hs (le_refl r)];simp),hq,J4 c r (2*q) s hs];have z:((groups r).map (lL (λt=>c (2^(r+1)*q+t)) (r+1) s∘λu=>u+2^r)).sum=0:=by
    refine Eq.trans (sum_map_congr (g:=λ_=>0) λu hu=>?_) (jB (groups r));show lL _ (r+1) s (u+2^r)=0;unfold lL;rw[qD hs (aP.mp hu)];rfl
   rw[z,Int.add_zero];apply sum_map_congr;intro t ht;unfold lL;simp only[gS hs,gS (aP.mp ht),hq]
  ·obtain⟨s',rfl⟩:∃s',s=s'+2^r:=⟨s-2^r,by omega⟩
   have hs':s'<2^r:=by omega
   rw[if_pos (gO hs'),hq1,J4 c r (2*q+1) s' hs'];have e1:2^r*(2*q+1)+s'-2^r=2^r*(2*q)+s':=by rw[mul_add];omega
   rw[e1,J4 c r (2*q) s' hs',Int.sub_eq_add_neg,Int.add_comm];congr 1
   ·rw[<-Int.neg_one_mul,<-ug];apply sum_map_congr;intro t ht;have ht':=aP.mp ht;unfold lL;simp only[yY hs' ht',g9 hs',gS ht',hq];by_cases hi:inside t s'=true
    ·have:=vL (n:=r) hi;rw[if_pos hi,if_pos hi];by_cases e:(count r s'-count r t)%2=0
     ·rw[if_pos e,if_neg (by omega)];omega
     ·rw[if_neg e,if_pos (by omega)];omega
    ·rw[if_neg hi,if_neg hi];rfl
   ·apply sum_map_congr;intro t ht;have ht':=aP.mp ht;show _=lL _ (r+1) (s'+2^r) (t+2^r);unfold lL;simp only[yX hs' ht',g9 hs',g9 ht',hq1,Nat.add_sub_add_right]
theorem G9(g:Game){s:Nat}(h:s<2^g.n):dividend g s=Dv g.cost g.n s:=by
 have:=J4 g.cost g.n 0 s h;simp only[Nat.mul_zero,Nat.zero_add]at this;rw[yO,this]
def D7(n:Nat)(c:Nat->Int)(W:List Int)(s:Nat):Int:=c s*(fact n:Int)+((members n s).map λi=>W.getD (without s i) 0).sum
def jN(n:Nat)(c:Nat->Int)(W:List Int)(s:Nat):List Int:=W++[D7 n c W s/(count n s:Int)]
def CC(g:Game)(l:List Q)(s:Nat):List Q:=
 let m:=members g.n s
 l++[if m.isEmpty=true then(0,1)else over (add (whole (g.cost s)) (total (m.map λi=>l.getD (without s i) (0,1)))) m.length]
theorem Aq(g:Game):potentials g=(groups g.n).foldl (CC g) []:=rfl
theorem Ko(k:Nat):∀n,k<=n->∃q,fact n=fact k*q
 |0,h=>by
  have:k=0:=(by omega);subst this;exact⟨1,rfl⟩
 |n+1,h=>by
  by_cases e:k=n+1
  ·subst e;exact⟨1,by rw[Nat.mul_one]⟩
  ·obtain⟨q,hq⟩:=Ko k n (by omega);exact⟨q*(n+1),by show(n+1)*fact n=_;rw[hq,Nat.mul_comm,Nat.mul_assoc]⟩
theorem Dc{s i:Nat}(h:has s i=true):without s i<s:=by
 rw[fD h];have h1:2^i<=s:=Nat.ge_two_pow_of_testBit h;have h2:=two_pow_pos i;exact Nat.sub_lt (lt_of_lt_of_le h2 h1) h2
theorem vf{n s i:Nat}(hi:i∈members n s):count n (without s i)+1=count n s:=by
 obtain⟨h1,h2⟩:=mem_filter.mp hi;unfold count;have e:members n (without s i)=(members n s).filter λj=>j !=i:=by
  unfold members;rw[List.filter_filter];apply filter_congr;intro j _;have hj:has (without s i) j=(has s j&&(j !=i)):=by
   have hw:with_ (without s i) i=s:=by
    have h3:2^i<=s:=Nat.ge_two_pow_of_testBit h2;have h4:has (without s i) i=false:=by
     rw[fD h2];unfold has;have:=Nat.testBit_two_pow_add_eq (s-2^i) i;rw[show 2^i+(s-2^i)=s by omega]at this;unfold has at h2;rw[h2]at this;cases q:(s-2^i).testBit i with
     |false=>rfl
     |true=>rw[q]at this;cases this
    rw[jC h4,fD h2];exact Nat.sub_add_cancel h3
   have h4:has (without s i) i=false:=by
    rw[fD h2];unfold has;have h3:2^i<=s:=Nat.ge_two_pow_of_testBit h2;have:=Nat.testBit_two_pow_add_eq (s-2^i) i;rw[show 2^i+(s-2^i)=s by omega]at this;unfold has at h2;rw[h2]at this;cases q:(s-2^i).testBit i with
    |false=>rfl
    |true=>rw[q]at this;cases this
   by_cases q:j=i
   ·subst q;rw[h4];simp
   ·have:=fR (without s i) i j;rw[hw]at this;rw[this];simp[q,Ne.symm q]
  rw[hj,Bool.and_comm]
 rw[e];exact iW ((nodup_range n).filter _) hi
structure PW(g:Game)(k:Nat)(l:List Q)(W:List Int):Prop where
 eq:l=W.map λw=>frac w (fact g.n)
 len:W.length=k
 dv:∀s,s<k->∃z:Int,W.getD s 0*(fact (count g.n s):Int)=(fact g.n:Int)*z
theorem vm(W:List Int)(d j:Nat)(hd:0<d):(W.map λw=>frac w d).getD j (0,1)=frac (W.getD j 0) d:=by
 rw[getD_eq_getElem?_getD,getElem?_map,getD_eq_getElem?_getD];cases W[j]? with
 |some w=>rfl
 |none=>
  show((0,1):Q)=frac 0 d;rw[cI _ hd];simp[Rat.div_def,qE]
theorem Hd{α:Type}(P:α->Int->Prop):∀l:List α,(∀x∈l,∃z,P x z)->∃f:α->Int,∀x∈l,P x (f x):=by
 intro l h
 classical
 refine⟨λx=>if hx:x∈l then(h x hx).choose else 0,λx hx=>?_⟩;simp only[dif_pos hx];exact(h x hx).choose_spec
theorem PW.step{g:Game}{k:Nat}{l:List Q}{W:List Int}(h:PW g k l W):PW g (k+1) (CC g l k) (jN g.n g.cost W k):=by
 have hF:=hZ g.n;by_cases hm:members g.n k=[]
 ·have hc:count g.n k=0:=by unfold count;rw[hm];rfl
  have e1:CC g l k=l++[(0,1)]:=by unfold CC;simp only[hm];rfl
  have e2:jN g.n g.cost W k=W++[0]:=by unfold jN;rw[hc];simp
  rw[e1,e2];refine⟨?_,by rw[length_append,h.len];rfl,λs hs=>?_⟩
  ·rw[map_append,h.eq];congr 1;show [((0,1):Q)]=[frac 0 (fact g.n)]
   rw[cI _ hF];simp[Rat.div_def,qE]
  ·by_cases q:s<k
   ·obtain⟨z,hz⟩:=h.dv s q;exact⟨z,by rw[getD_eq_getElem?_getD,getElem?_append_left (by rw[h.len];exact q),<-getD_eq_getElem?_getD];exact hz⟩
   ·refine⟨0,?_⟩;have:s=k:=by omega
    subst this;rw[getD_eq_getElem?_getD,getElem?_append_right (by rw[h.len];exact le_refl _),h.len];simp
 ·have hc:0<count g.n k:=by unfold count;exact List.length_pos_iff.mpr hm
  have hne:(members g.n k).isEmpty=false:=by cases e:members g.n k with|nil=>exact absurd e hm|cons _ _=>rfl
  obtain⟨f,hf⟩:=Hd (λi z=>W.getD (without k i) 0*(fact (count g.n k-1):Int)=(fact g.n:Int)*z) (members g.n k) (λi hi=>by
   obtain⟨z,hz⟩:=h.dv (without k i) (Dc (mem_filter.mp hi).2);have:=vf hi;refine⟨z,?_⟩;rw[show count g.n k-1=count g.n (without k i) by omega]
   exact hz)
  have hsum:((members g.n k).map λi=>W.getD (without k i) 0).sum*(fact (count g.n k-1):Int)=(fact g.n:Int)*((members g.n k).map f).sum:=by
   rw[<-ug,mul_comm,<-ug];apply sum_map_congr;intro i hi;rw[mul_comm];exact hf i hi
  obtain⟨q,hq⟩:=Ko (count g.n k) g.n (count_le _ _);have hfc:fact (count g.n k)=count g.n k*fact (count g.n k-1):=by
   obtain⟨c,e⟩:∃c,count g.n k=c+1:=⟨count g.n k-1,by omega⟩
   rw[e];rfl
  have hF1:=hZ (count g.n k-1);have htot:∃z':Int,D7 g.n g.cost W k=(count g.n k:Int)*((q:Int)*z')/\((q:Int)*z')*(fact (count g.n k):Int)=(fact g.n:Int)*z':=by
   refine⟨g.cost k*(fact (count g.n k-1):Int)+((members g.n k).map f).sum,?_,?_⟩
   ·have e1:D7 g.n g.cost W k*(fact (count g.n k-1):Int)=(count g.n k:Int)*((q:Int)*(g.cost k*(fact (count g.n k-1):Int)+((members g.n k).map f).sum))*(fact (count g.n k-1):Int):=by
     unfold D7;rw[Int.add_mul,hsum];have e2:(fact g.n:Int)=(count g.n k:Int)*(fact (count g.n k-1):Int)*(q:Int):=by rw[hq,hfc];push_cast;rfl
     rw[e2]
     grind
    exact Int.eq_of_mul_eq_mul_right (by omega) e1
   ·have e2:(fact g.n:Int)=(fact (count g.n k):Int)*(q:Int):=by rw[hq];push_cast;rfl
    rw[e2]
    grind
  obtain⟨z',ht,hz'⟩:=htot;have hdiv:D7 g.n g.cost W k/(count g.n k:Int)=(q:Int)*z':=by
   rw[ht,Int.mul_ediv_cancel_left _ (by omega)]
  have e1:CC g l k=l++[frac (D7 g.n g.cost W k/(count g.n k:Int)) (fact g.n)]:=by
   unfold CC;simp only[hne];rw[if_neg (by simp)];congr 2;have et:total ((members g.n k).map λi=>l.getD (without k i) (0,1))=frac ((members g.n k).map λi=>W.getD (without k i) 0).sum (fact g.n):=by
    rw[<-mU _ hF];congr 1;apply map_congr_left;intro i _;rw[h.eq,vm _ _ _ hF]
   rw[et,IH,cI _ hF,J7,show(members g.n k).length=count g.n k from rfl,Of _ hc,cI _ hF];congr 1;rw[hdiv];have h3:=js hF;have h4:=js hc;have h5:((D7 g.n g.cost W k:Int):Rat)=(count g.n k:Rat)*((q:Rat)*(z':Rat)):=by
    rw[ht,Rat.intCast_mul,Rat.intCast_mul];rfl
   have h6:((D7 g.n g.cost W k:Int):Rat)=(g.cost k:Rat)*(fact g.n:Rat)+(((members g.n k).map λi=>W.getD (without k i) 0).sum:Int):=by
    unfold D7;rw[Rat.intCast_add,Rat.intCast_mul];rfl
   rw[Rat.intCast_mul];show _=(q:Rat)*(z':Rat)/(fact g.n:Rat)
   grind
  rw[e1];unfold jN;refine⟨?_,by rw[length_append,h.len];rfl,λs hs=>?_⟩
  ·rw[map_append,h.eq];rfl
  ·by_cases hsk:s<k
   ·obtain⟨z,hz⟩:=h.dv s hsk;exact⟨z,by rw[getD_eq_getElem?_getD,getElem?_append_left (by rw[h.len];exact hsk),<-getD_eq_getElem?_getD];exact hz⟩
   ·refine⟨z',?_⟩;have:s=k:=by omega
    subst this;rw[getD_eq_getElem?_getD,getElem?_append_right (by rw[h.len];exact le_refl _),h.len];simp only[sub_self,List.getElem?_cons_zero,getD_some];rw[hdiv];exact hz'
theorem PW.run(g:Game):∀k,PW g k ((List.range k).foldl (CC g) []) ((List.range k).foldl (jN g.n g.cost) [])
 |0=>⟨rfl,rfl,λs hs=>absurd hs (not_lt_zero _)⟩
 |k+1=>by
  rw[range_succ,foldl_append,foldl_append];exact(PW.run g k).step
theorem DN(g:Game):potentials g=((groups g.n).foldl (jN g.n g.cost) []).map λw=>frac w (fact g.n):=by
 rw[Aq];exact(PW.run g (2^g.n)).eq
theorem gY(i:Nat):∀n,i<n->((groups n).filter λs=> !has s i).length=2^(n-1)
 |0,h=>absurd h (not_lt_zero _)
 |n+1,h=>by
  rw[i4,filter_append,length_append];by_cases e:i=n
  ·subst e;have e1:((groups i).filter λs=> !has s i)=groups i:=by
    rw[filter_eq_self];intro s hs;rw[fQ (aP.mp hs) (le_refl _)];rfl
   have e2:(((groups i).map λs=>s+2^i).filter λs=> !has s i)=[]:=by
    rw[filter_eq_nil_iff];intro s hs;obtain⟨u,hu,rfl⟩:=mem_map.mp hs;rw[gO (aP.mp hu)];simp
   rw[e1,e2];simp[groups,size]
  ·have hi:i<n:=by omega
   have e2:(((groups n).map λs=>s+2^n).filter λs=> !has s i).length=((groups n).filter λs=> !has s i).length:=by
    rw[filter_map,length_map];congr 1;apply filter_congr;intro s hs;show(!has (s+2^n) i)=_;rw[eN (aP.mp hs) hi]
   rw[e2,gY i n hi];have:n+1-1=n-1+1:=by omega
   rw[this,pow_succ];omega
theorem OS(g:Game):swing g=(List.range g.n).map λi=>frac (((groups g.n).filter λs=> !has s i).map λs=>adds g i s).sum (((groups g.n).filter λs=> !has s i).length):=by
 unfold swing;apply map_congr_left;intro i hi;rw[gY i g.n (mem_range.mp hi),jA,sum_filter];congr 1;apply sum_map_congr;intro s _;cases has s i<;>rfl
end Shm
end
section
namespace Shm
open Vbedah
theorem Hm{a b:Int}{d:Nat}(hd:0<d):((a:Rat)/(d:Rat)<(b:Rat)/(d:Rat))↔a<b:=by
 have h:=NZ hd;rw[<-Rat.intCast_lt_intCast (a:=a) (b:=b)];have h2:=js hd;constructor
 ·intro e;have q:=(Rat.mul_lt_mul_right h).mpr e
  rwa [Rat.div_mul_cancel h2,Rat.div_mul_cancel h2]at q
 ·intro e;rw[Rat.div_def,Rat.div_def];exact(Rat.mul_lt_mul_right (Rat.inv_pos.mpr h)).mpr e
theorem wO{a b:Int}{d:Nat}(hd:0<d):lt (frac a d) (frac b d)=decide (a<b):=by
 rw[cI _ hd,cI _ hd,RO,decide_eq_decide];exact Hm hd
theorem pE{d:Nat}(hd:0<d):((0,1):Q)=frac 0 d:=by
 rw[cI _ hd];simp[Rat.div_def,qE]
theorem mW(b:Int){d:Nat}(hd:0<d):whole b=frac ((d:Int)*b) d:=by
 rw[cI _ hd,IH];congr 1;have h:=js hd;rw[Rat.intCast_mul];show(b:Rat)=(d:Rat)*(b:Rat)/(d:Rat)
 grind
theorem Ep{a b:Int}{d:Nat}(hd:0<d):same (frac a d) (frac b d)=decide (a=b):=by
 rw[cI _ hd,cI _ hd,OF,decide_eq_decide];have h:=js hd;constructor
 ·intro e;have:(a:Rat)=(b:Rat):=by grind
  exact Rat.intCast_inj.mp this
 ·rintro rfl;rfl
theorem Hi{a b:Int}{d:Nat}(hd:0<d):sub (frac a d) (frac b d)=frac (a-b) d:=by
 rw[cI _ hd,cI _ hd,QF,cI _ hd];congr 1;rw[Rat.intCast_sub]
 grind
theorem Ls(g:Game)(l:List Int){d:Nat}(hd:0<d):covers g (l.map λa=>frac a d)=decide (l.sum=(d:Int)*g.cost g.all):=by
 unfold covers;rw[mU (λa=>a) hd,mW _ hd,Ep hd,List.map_id']
def ik(n:Nat)(l:List Int)(s:Nat):Int:=((members n s).map λi=>l.getD i 0).sum
theorem Fl(g:Game)(l:List Int){d:Nat}(hd:0<d)(s:Nat):complaint g (l.map λa=>frac a d) s=frac (ik g.n l s-(d:Int)*g.cost s) d:=by
 unfold complaint paid;have e:((members g.n s).map λi=>(l.map λa=>frac a d).getD i (0,1))=(members g.n s).map λi=>frac (l.getD i 0) d:=
  map_congr_left λi _=>vm l d i hd
 rw[e,mU (λi=>l.getD i 0) hd,mW _ hd,Hi hd];rfl
def nF(f:Nat->Int)(l:List Nat):Nat×Int:=l.foldl (λb s=>if b.2<f s then(s,f s)else b) (0,0)
theorem Jr(g:Game)(l:List Int){d:Nat}(hd:0<d):
  loudest g (l.map λa=>frac a d)=((nF (λs=>ik g.n l s-(d:Int)*g.cost s) (groups g.n)).1,frac (nF (λs=>ik g.n l s-(d:Int)*g.cost s) (groups g.n)).2 d):=by
 unfold loudest nF;have gen:∀(ss:List Nat)(b:Nat×Int),
   ss.foldl (λ(b:Nat×Q)s=>let c:=complaint g (l.map λa=>frac a d) s;if lt b.2 c=true then(s,c)else b) (b.1,frac b.2 d)=
   ((ss.foldl (λb s=>if b.2<ik g.n l s-(d:Int)*g.cost s then(s,ik g.n l s-(d:Int)*g.cost s)else b) b).1,
    frac (ss.foldl (λb s=>if b.2<ik g.n l s-(d:Int)*g.cost s then(s,ik g.n l s-(d:Int)*g.cost s)else b) b).2 d):=by
  intro ss
  induction ss with
  |nil=>intro b;rfl
  |cons s r ih=>
   intro b;rw[foldl_cons,foldl_cons];simp only[Fl g l hd,wO hd,decide_eq_true_eq]at ih⊢;by_cases q:b.2<ik g.n l s-(d:Int)*g.cost s
   ·rw[if_pos q,if_pos q];exact ih (s,ik g.n l s-(d:Int)*g.cost s)
   ·rw[if_neg q,if_neg q];exact ih b
 have:=gen (groups g.n) (0,0);rw[<-this,<-pE hd]
structure TC(f:Nat->Int)(k:Nat)(b:Nat×Int):Prop where
 nn:0<=b.2
 up:∀s,s<k->f s<=b.2
 at_:(b.2=0/\b.1=0)\/(0<b.2/\b.1<k/\f b.1=b.2/\∀s,s<b.1->f s<b.2)
theorem B8(f:Nat->Int):∀k,TC f k (nF f (List.range k))
 |0=>⟨Int.le_refl _,λs h=>absurd h (not_lt_zero _),.inl ⟨rfl,rfl⟩⟩
 |k+1=>by
  have ih:=B8 f k;unfold nF at ih⊢;rw[range_succ,foldl_append,foldl_cons,List.foldl_nil];generalize(List.range k).foldl (λb s=>if b.2<f s then(s,f s)else b) ((0,0):Nat×Int)=b at ih;by_cases q:b.2<f k
  ·rw[if_pos q];have:=ih.nn;refine⟨by show 0<=f k;omega,λs hs=>?_,.inr ⟨by show 0<f k;omega,lt_succ_self k,rfl,λs hs=>?_⟩⟩
   ·show f s<=f k;by_cases e:s=k
    ·subst e;omega
    ·have:=ih.up s (by omega);omega
   ·have:=ih.up s hs;show f s<f k;omega
  ·rw[if_neg q];refine⟨ih.nn,λs hs=>?_,?_⟩
   ·by_cases e:s=k
    ·subst e;omega
    ·exact ih.up s (by omega)
   ·rcases ih.at_ with h|⟨h1,h2,h3,h4⟩
    ·exact .inl h
    ·exact .inr ⟨h1,by omega,h3,h4⟩
theorem vG{α:Type}{p q:α->Bool}:∀{l:List α},(∀a∈l,p a=q a)->l.all p=l.all q
 |[],_=>rfl
 |x::r,h=>by rw[all_cons,all_cons,h x mem_cons_self,vG λa ha=>h a (mem_cons_of_mem _ ha)]
theorem OI(g:Game)(w:List (Nat×Int)){d:Nat}(hd:0<d)(hw:∀x∈w,x.1<2^g.n):
  shows g (w.map λx=>(x.1,frac x.2 d))=
   (!(w.any λx=>decide (x.2<0))&&(!((List.range g.n).any λi=>decide ((w.map λx=>if has x.1 i=true then x.2 else 0).sum≠(d:Int)))&&
    decide ((w.map λx=>x.2*g.cost x.1).sum<(d:Int)*g.cost g.all))):=by
 unfold shows;have e1:((w.map λx=>(x.1,frac x.2 d)).all λx=> !(lt x.2 (0,1))&&decide (x.1<size g.n))= !(w.any λx=>decide (x.2<0)):=by
  rw[all_map,List.not_any_eq_all_not];apply vG;intro x hx;show(!(lt (frac x.2 d) (0,1))&&decide (x.1<size g.n))= !(decide (x.2<0));rw[pE hd,wO hd,decide_eq_true (show x.1<size g.n from hw x hx),Bool.and_true]
 have e2:((List.range g.n).all λi=>same (total ((w.map λx=>(x.1,frac x.2 d)).map λx=>if has x.1 i=true then x.2 else(0,1))) (1,1))=
   !((List.range g.n).any λi=>decide ((w.map λx=>if has x.1 i=true then x.2 else 0).sum≠(d:Int))):=by
  rw[List.not_any_eq_all_not];apply vG;intro i _;rw[map_map];have q:(w.map ((λx:Nat×Q=>if has x.1 i=true then x.2 else(0,1))∘λx=>(x.1,frac x.2 d)))=w.map λx=>frac (if has x.1 i=true then x.2 else 0) d:=by
   apply map_congr_left;intro x _;show(if has x.1 i=true then frac x.2 d else(0,1))=_;by_cases h:has x.1 i=true
   ·rw[if_pos h,if_pos h]
   ·rw[if_neg h,if_neg h,pE hd]
  rw[q,mU _ hd,show((1,1):Q)=whole 1 from rfl,mW _ hd,Ep hd,Int.mul_one];simp
 have e3:lt (total ((w.map λx=>(x.1,frac x.2 d)).map λx=>times (g.cost x.1) x.2)) (whole (g.cost g.all))=
   decide ((w.map λx=>x.2*g.cost x.1).sum<(d:Int)*g.cost g.all):=by
  rw[map_map];have q:(w.map ((λx:Nat×Q=>times (g.cost x.1) x.2)∘λx=>(x.1,frac x.2 d)))=w.map λx=>frac (x.2*g.cost x.1) d:=by
   apply map_congr_left;intro x _;show times (g.cost x.1) (frac x.2 d)=_;rw[cI _ hd,Mp,cI _ hd];congr 1;rw[Rat.intCast_mul]
   grind
  rw[q,mU _ hd,mW _ hd,wO hd]
 rw[e1,e2,e3]
theorem Gq(l:List Nat):sumN l=l.sum:=by
 have gen:∀(l:List Nat)(a:Nat),l.foldl (λa b=>a+b) a=a+l.sum:=by
  intro l
  induction l with
  |nil=>intro a;simp
  |cons x r ih=>intro a;rw[foldl_cons,ih,sum_cons];omega
 unfold sumN;rw[gen];omega
theorem Jf(ds:List (List Nat)){n s:Nat}(h:s<2^n)(t:Nat):demand ds (n+1) s t=demand ds n s t:=by unfold demand;rw[sy h]
theorem G7(ds:List (List Nat)){n s:Nat}(h:s<2^n)(t:Nat):demand ds (n+1) (s+2^n) t=demand ds n s t+(ds.getD n []).getD t 0:=by
 unfold demand;rw[pU h,Gq,Gq,map_append,sum_append];simp
def ee(ds:List (List Nat))(h n:Nat):List (List Nat):=(groups n).map λs=>(List.range h).map (demand ds n s)
theorem Iz(ds:List (List Nat))(h:Nat):ee ds h 0=[(List.range h).map λ_=>0]:=by
 unfold ee groups size demand;simp[members,sumN]
theorem Iy(ds:List (List Nat))(h n:Nat):ee ds h (n+1)=ee ds h n++(ee ds h n).map λt=>(List.range h).map λi=>t.getD i 0+(ds.getD n []).getD i 0:=by
 unfold ee;rw[i4,map_append,map_map,map_map];congr 1
 ·apply map_congr_left;intro s hs;apply map_congr_left;intro t _;exact Jf ds (aP.mp hs) t
 ·apply map_congr_left;intro s hs;apply map_congr_left;intro t ht;show demand ds (n+1) (s+2^n) t=_;rw[G7 ds (aP.mp hs)];congr 1;rw[getD_eq_getElem?_getD,getElem?_map,getElem?_range (mem_range.mp ht)];rfl
theorem HC(n:Nat):members n (2^n-1)=List.range n:=by
 unfold members has;rw[filter_eq_self];intro i hi;rw[Nat.testBit_two_pow_sub_one];exact decide_eq_true (mem_range.mp hi)
theorem all_succ(n:Nat):2^(n+1)-1=(2^n-1)+2^n:=by
 have:=two_pow_pos n;rw[pow_succ];omega
theorem Je(ds:List (List Nat))(n t:Nat):demand ds n (2^n-1) t=((List.range n).map λi=>(ds.getD i []).getD t 0).sum:=by
 unfold demand;rw[HC,Gq]
theorem yV:∀(l:List Nat)(a:Nat),a<=l.foldl max a/\(∀x∈l,x<=l.foldl max a)/\(l.foldl max a=a\/l.foldl max a∈l)
 |[],a=>⟨le_refl _,by simp,.inl rfl⟩
 |x::r,a=>by
  obtain⟨h1,h2,h3⟩:=yV r (max a x);rw[foldl_cons];refine⟨by omega,λy hy=>?_,?_⟩
  ·rcases mem_cons.mp hy with rfl|hy
   ·omega
   ·exact h2 y hy
  ·rcases h3 with h3|h3
   ·by_cases q:a<=x
    ·right;rw[h3,Nat.max_eq_right q];exact mem_cons_self
    ·left;rw[h3,Nat.max_eq_left (by omega)]
   ·right;exact mem_cons_of_mem _ h3
theorem yW{l:List Nat}{m:Nat}(hm:m∈l)(hu:∀x∈l,x<=m):greatest l=m:=by
 obtain⟨h1,h2,h3⟩:=yV l 0;unfold greatest;have:=h2 m hm;rcases h3 with h3|h3
 ·omega
 ·have:=hu _ h3;omega
theorem iz:∀l:List Nat,distinct l=true↔l.Nodup
 |[]=>by simp[distinct]
 |x::r=>by
  rw[distinct,and_eq_true,iz r,nodup_cons];simp
end Shm
end
section
namespace Shm
open Vbedah
def rs{α:Type}(l:List α)(f:α->Rat):Rat:=(l.map f).sum
theorem sV{α:Type}(f:α->Rat):rs [] f=0:=rfl
theorem g5{α:Type}(x:α)(l:List α)(f:α->Rat):rs (x::l) f=f x+rs l f:=by unfold rs;rw[map_cons,sum_cons]
theorem EF{α:Type}(f:α->Rat):∀(l m:List α),rs (l++m) f=rs l f+rs m f
 |[],m=>by rw[nil_append,sV,Rat.zero_add]
 |x::l,m=>by rw[cons_append,g5,g5,EF f l m,Rat.add_assoc]
theorem eM{α:Type}{f g:α->Rat}:∀{l:List α},(∀x∈l,f x=g x)->rs l f=rs l g
 |[],_=>rfl
 |x::l,h=>by rw[g5,g5,h x mem_cons_self,eM λy hy=>h y (mem_cons_of_mem _ hy)]
theorem uE{α:Type}:∀l:List α,rs l (λ_=>0)=0
 |[]=>rfl
 |x::l=>by rw[g5,uE l,Rat.zero_add]
theorem JM{α:Type}(f g:α->Rat):∀l:List α,rs l (λx=>f x+g x)=rs l f+rs l g
 |[]=>by rw[sV,sV,sV,Rat.zero_add]
 |x::l=>by rw[g5,g5,g5,JM f g l];grind
theorem CL{α:Type}(k:Rat)(f:α->Rat):∀l:List α,rs l (λx=>k*f x)=k*rs l f
 |[]=>by rw[sV,sV,Rat.mul_zero]
 |x::l=>by rw[g5,g5,CL k f l];grind
theorem R5{α β:Type}(h:α->β)(f:β->Rat)(l:List α):rs (l.map h) f=rs l (λx=>f (h x)):=by
 unfold rs;rw[map_map];rfl
theorem K3{α β:Type}(f:α->β->Rat)(m:List β):∀l:List α,rs l (λx=>rs m (f x))=rs m (λy=>rs l (λx=>f x y))
 |[]=>by rw[sV];exact(uE m).symm
 |x::l=>by
  rw[g5,K3 f m l,<-JM];apply eM;intro y _;rw[g5]
theorem mD(n:Nat)(f:Nat->Rat):rs (groups (n+1)) f=rs (groups n) f+rs (groups n) (λs=>f (s+2^n)):=by
 rw[i4,EF,R5]
theorem xj(i:Nat):∀(n:Nat)(f:Nat->Rat),i<n->rs (groups n) f=rs (groups n) (λu=>if has u i=true then 0 else f u+f (with_ u i))
 |0,_,h=>absurd h (not_lt_zero _)
 |n+1,f,h=>by
  rw[mD,mD];by_cases e:i=n
  ·subst e;have e1:rs (groups i) (λu=>if has u i=true then 0 else f u+f (with_ u i))=rs (groups i) (λu=>f u+f (u+2^i)):=by
    apply eM;intro u hu;have hu':=aP.mp hu;rw[fQ hu' (le_refl _),if_neg (by simp),jC (fQ hu' (le_refl _))]
   have e2:rs (groups i) (λs=>if has (s+2^i) i=true then 0 else f (s+2^i)+f (with_ (s+2^i) i))=0:=by
    refine Eq.trans (eM (g:=λ_=>0) λu hu=>?_) (uE (groups i));rw[if_pos (gO (aP.mp hu))]
   rw[e1,e2,JM,Rat.add_zero]
  ·have hi:i<n:=by omega
   rw[xj i n f hi,xj i n (λs=>f (s+2^n)) hi];congr 1;apply eM;intro u hu;have hu':=aP.mp hu;rw[eN hu' hi];by_cases q:has u i=true
   ·rw[if_pos q,if_pos q]
   ·have q':has u i=false:=by simpa using q
    rw[if_neg q,if_neg q];have h3:with_ (u+2^n) i=with_ u i+2^n:=by
     rw[jC (by rw[eN hu' hi];exact q'),jC q',Nat.add_right_comm]
    rw[h3]
def sgn(a b:Nat):Rat:=if(a-b)%2=0 then 1 else-1
def eT(i n t k u:Nat):Rat:=if has u i=true then 0 else if inside t u=true then sgn (count n u) (count n t)/((count n u+1+k:Nat):Rat)else 0
def rest(i n:Nat):Nat:=if i<n then n-1 else n
theorem BB{i n t:Nat}(h:has t i=false):count n t<=rest i n:=by
 have h1:count n t<=((List.range n).filter λy=>y !=i).length:=by
  unfold count members;rw[<-List.countP_eq_length_filter,<-List.countP_eq_length_filter];apply List.countP_mono_left;intro j _ hj;simp;rintro rfl;rw[h]at hj;cases hj
 unfold rest;by_cases q:i<n
 ·rw[if_pos q];have:=iW (nodup_range n) (mem_range.mpr q);simp at this;omega
 ·rw[if_neg q];exact count_le n t
theorem BF(i:Nat):∀(n t k:Nat),t<2^n->has t i=false->
  rs (groups n) (eT i n t k)=((fact (count n t+k)*fact (rest i n-count n t):Nat):Rat)/((fact (rest i n+k+1):Nat):Rat)
 |0,t,k,h,_=>by
  have e:t=0:=by simpa using h
  subst e;have c0:count 0 0=0:=rfl;show rs [0] (eT i 0 0 k)=_;rw[g5,sV,Rat.add_zero];unfold eT;rw[oM,if_neg (by simp),if_pos (show inside 0 0=true from rfl),c0];have r0:rest i 0=0:=rfl;rw[r0];have h1:(fact (0+k+1):Nat)=(k+1)*fact k:=by rw[Nat.zero_add];rfl
  have h2:=js (hZ k);have h3:((k+1:Nat):Rat)≠0:=js (succ_pos k);rw[h1];have h4:(fact (0+k)*fact (0-0):Nat)=fact k:=by rw[Nat.zero_add];simp[fact]
  rw[h4,Rat.natCast_mul,show 0+1+k=k+1 by omega,show sgn 0 0=1 from rfl]
  grind
 |n+1,t,k,h,hi=>by
  rw[mD];have hp:2^(n+1)=2^n+2^n:=by rw[pow_succ];omega
  by_cases ht:t<2^n
  ·
   have e1:rs (groups n) (eT i (n+1) t k)=rs (groups n) (eT i n t k):=by
    apply eM;intro u hu;unfold eT;rw[gS (aP.mp hu),gS ht]
   by_cases q:i=n
   ·subst q;have e2:rs (groups i) (λs=>eT i (i+1) t k (s+2^i))=0:=by
     refine Eq.trans (eM (g:=λ_=>0) λu hu=>?_) (uE (groups i));unfold eT;rw[if_pos (gO (aP.mp hu))]
    have r1:rest i (i+1)=rest i i:=by unfold rest;simp
    rw[e1,e2,Rat.add_zero,BF i i t k ht hi,r1,gS ht]
   ·have e2:rs (groups n) (λs=>eT i (n+1) t k (s+2^n))= -1*rs (groups n) (eT i n t (k+1)):=by
     rw[<-CL];apply eM;intro u hu;have hu':=aP.mp hu;unfold eT;have hh:has (u+2^n) i=has u i:=by
      by_cases hlt:i<n
      ·exact eN hu' hlt
      ·rw[fQ hu' (show n<=i by omega),fQ (n:=n+1) (by rw[hp];omega) (show n+1<=i by omega)]
     rw[hh,yY hu' ht,g9 hu',gS ht];by_cases a:has u i=true
     ·rw[if_pos a,if_pos a,Rat.mul_zero]
     ·rw[if_neg a,if_neg a];by_cases b:inside t u=true
      ·rw[if_pos b,if_pos b];have:=vL (n:=n) b;have hs:sgn (count n u+1) (count n t)= -1*sgn (count n u) (count n t):=by
        unfold sgn;by_cases z:(count n u-count n t)%2=0
        ·rw[if_pos z,if_neg (by omega)];grind
        ·rw[if_neg z,if_pos (by omega)];grind
       rw[hs,show count n u+1+1+k=count n u+1+(k+1) by omega]
       grind
      ·rw[if_neg b,if_neg b,Rat.mul_zero]
    rw[e1,e2,BF i n t k ht hi,BF i n t (k+1) ht hi,gS ht];have hr:rest i (n+1)=rest i n+1:=by
     unfold rest;by_cases hlt:i<n
     ·rw[if_pos hlt,if_pos (by omega)];omega
     ·rw[if_neg hlt,if_neg (by omega)]
    have hc:=BB (n:=n) hi;rw[hr];obtain⟨m,hm⟩:∃m,rest i n=count n t+m:=⟨rest i n-count n t,by omega⟩
    rw[hm];have s1:count n t+m-count n t=m:=by omega
    have s2:count n t+m+1-count n t=m+1:=by omega
    rw[s1,s2];have f1:fact (count n t+m+1+k+1)=(count n t+m+k+2)*fact (count n t+m+k+1):=by
     rw[show count n t+m+1+k+1=(count n t+m+k+1)+1 by omega];rfl
    have f2:fact (count n t+m+(k+1)+1)=(count n t+m+k+2)*fact (count n t+m+k+1):=by
     rw[show count n t+m+(k+1)+1=(count n t+m+k+1)+1 by omega];rfl
    have f3:fact (count n t+(k+1))=(count n t+k+1)*fact (count n t+k):=by
     rw[show count n t+(k+1)=(count n t+k)+1 by omega];rfl
    have f4:fact (m+1)=(m+1)*fact m:=rfl;rw[f1,f2,f3,f4];have n1:=js (hZ (count n t+m+k+1));have n2:((count n t+m+k+2:Nat):Rat)≠0:=js (by omega);simp only[Rat.natCast_mul,Rat.natCast_add]at n2⊢
    grind
  ·
   obtain⟨t',rfl⟩:∃t',t=t'+2^n:=⟨t-2^n,by omega⟩
   have ht':t'<2^n:=by omega
   have q:i≠n:=by rintro rfl;rw[gO ht']at hi;cases hi
   have hi':has t' i=false:=by
    by_cases hlt:i<n
    ·rwa [eN ht' hlt]at hi
    ·exact fQ ht' (by omega)
   have e1:rs (groups n) (eT i (n+1) (t'+2^n) k)=0:=by
    refine Eq.trans (eM (g:=λ_=>0) λu hu=>?_) (uE (groups n));unfold eT;rw[qD (aP.mp hu) ht'];simp
   have e2:rs (groups n) (λs=>eT i (n+1) (t'+2^n) k (s+2^n))=rs (groups n) (eT i n t' (k+1)):=by
    apply eM;intro u hu;have hu':=aP.mp hu;unfold eT;have hh:has (u+2^n) i=has u i:=by
     by_cases hlt:i<n
     ·exact eN hu' hlt
     ·rw[fQ hu' (show n<=i by omega),fQ (n:=n+1) (by rw[hp];omega) (show n+1<=i by omega)]
    rw[hh,yX hu' ht',g9 hu',g9 ht',show count n u+1+1+k=count n u+1+(k+1) by omega];unfold sgn;rw[Nat.add_sub_add_right]
   have hr:rest i (n+1)=rest i n+1:=by
    unfold rest;by_cases hlt:i<n
    ·rw[if_pos hlt,if_pos (by omega)];omega
    ·rw[if_neg hlt,if_neg (by omega)]
   rw[e1,e2,Rat.zero_add,BF i n t' (k+1) ht' hi',g9 ht',hr];rw[show count n t'+1+k=count n t'+(k+1) by omega,Nat.add_sub_add_right,show rest i n+1+k+1=rest i n+(k+1)+1 by omega]
end Shm
end
section
namespace Shm
open Vbedah
theorem GA{u i:Nat}(h:has u i=false):without (with_ u i) i=u:=by
 have h2:has (with_ u i) i=true:=by rw[fR];simp
 rw[fD h2,jC h];exact add_sub_cancel _ _
theorem vM{n u i:Nat}(h:has u i=false)(hi:i<n):count n (with_ u i)=count n u+1:=by
 have h2:has (with_ u i) i=true:=by rw[fR];simp
 have:=vf (n:=n) (s:=with_ u i) (i:=i) (mem_filter.mpr ⟨mem_range.mpr hi,h2⟩);rw[GA h]at this;omega
theorem Hl{t u i:Nat}(ht:has t i=false):inside t (with_ u i)=inside t u:=by
 rw[Bool.eq_iff_iff,fL,fL];constructor
 ·intro h j hj;have:=h j hj;rw[fR]at this;by_cases q:i=j
  ·subst q;rw[ht]at hj;cases hj
  ·simpa[q]using this
 ·intro h j hj;rw[fR,h j hj];rfl
theorem FK{t u i:Nat}(ht:has t i=false):inside (with_ t i) (with_ u i)=inside t u:=by
 rw[Bool.eq_iff_iff,fL,fL];constructor
 ·intro h j hj;have:=h j (by rw[fR,hj];rfl);rw[fR]at this;by_cases q:i=j
  ·subst q;rw[ht]at hj;cases hj
  ·simpa[q]using this
 ·intro h j hj;rw[fR]at hj⊢;cases e:has t j with
  |true=>rw[h j e];rfl
  |false=>rw[e]at hj;simp at hj;simp[hj]
theorem GZ{α:Type}(f:α->Int)(l:List α):(((l.map f).sum:Int):Rat)=rs l (λx=>(f x:Rat)):=by
 induction l with
 |nil=>rfl
 |cons x r ih=>rw[map_cons,sum_cons,Rat.intCast_add,ih,g5]
theorem pG(g:Game){i t:Nat}(h:has t i=false):adds g i t=g.cost (with_ t i)-g.cost t:=by
 unfold adds;rw[qj h]
theorem DA(g:Game){i u:Nat}(hi:i<g.n)(hu:has u i=false):
  (dividend g (with_ u i):Rat)=rs (groups g.n) (λt=>if has t i=true then 0 else if inside t u=true then sgn (count g.n u) (count g.n t)*(adds g i t:Rat)else 0):=by
 rw[yO,GZ,xj i g.n _ hi];apply eM;intro t ht;by_cases q:has t i=true
 ·rw[if_pos q,if_pos q]
 ·have q':has t i=false:=by simpa using q
  rw[if_neg q,if_neg q];unfold lL;rw[Hl q',FK q',vM hu hi,vM q' hi];by_cases b:inside t u=true
  ·have:=vL (n:=g.n) b;rw[if_pos b,if_pos b,if_pos b,Nat.add_sub_add_right,pG g q',Rat.intCast_sub];unfold sgn;by_cases z:(count g.n u-count g.n t)%2=0
   ·rw[if_pos z,if_pos z,if_neg (by omega),Rat.intCast_neg];grind
   ·rw[if_neg z,if_neg z,if_pos (by omega),Rat.intCast_neg];grind
  ·rw[if_neg b,if_neg b,if_neg b,show((0:Int):Rat)=0 from rfl,Rat.add_zero]
theorem zX(g:Game){i:Nat}(hi:i<g.n):
  rs (groups g.n) (λs=>if has s i=true then(dividend g s:Rat)/(count g.n s:Rat)else 0)=(aC g i:Rat)/((fact g.n:Nat):Rat):=by
 rw[xj i g.n _ hi];have e1:rs (groups g.n) (λu=>if has u i=true then 0 else(if has u i=true then(dividend g u:Rat)/(count g.n u:Rat)else 0)+(if has (with_ u i) i=true then(dividend g (with_ u i):Rat)/(count g.n (with_ u i):Rat)else 0))=
   rs (groups g.n) (λu=>rs (groups g.n) (λt=>(if has t i=true then 0 else(adds g i t:Rat))*eT i g.n t 0 u)):=by
  apply eM;intro u hu;by_cases q:has u i=true
  ·rw[if_pos q];refine Eq.symm (Eq.trans (eM (g:=λ_=>0) λt ht=>?_) (uE _));unfold eT;rw[if_pos q,Rat.mul_zero]
  ·have q':has u i=false:=by simpa using q
   have h2:has (with_ u i) i=true:=by rw[fR];simp
   rw[if_neg q,if_neg q,if_pos h2,Rat.zero_add,DA g hi q',vM q' hi];have hd:((count g.n u+1:Nat):Rat)≠0:=js (succ_pos _);rw[Rat.div_def,Rat.mul_comm,<-CL];apply eM;intro t _;unfold eT;rw[if_neg q];by_cases a:has t i=true
   ·rw[if_pos a,if_pos a];grind
   ·rw[if_neg a,if_neg a];by_cases b:inside t u=true
    ·rw[if_pos b,if_pos b,add_zero];grind
    ·rw[if_neg b,if_neg b];grind
 rw[e1,K3];unfold aC;rw[GZ];have e2:∀x:Rat,x/((fact g.n:Nat):Rat)=((fact g.n:Nat):Rat)⁻¹*x:=λx=>by rw[Rat.div_def,Rat.mul_comm]
 rw[e2,<-CL];apply eM;intro t ht;rw[CL];by_cases a:has t i=true
 ·rw[if_pos a,if_pos a,Rat.zero_mul];show(0:Rat)=_*((0:Int):Rat);rw[show((0:Int):Rat)=0 from rfl,Rat.mul_zero]
 ·have a':has t i=false:=by simpa using a
  rw[if_neg a,if_neg a,BF i g.n t 0 (aP.mp ht) a'];have r1:rest i g.n=g.n-1:=by unfold rest;rw[if_pos hi]
  rw[r1,add_zero,show g.n-1+0+1=g.n by omega,Rat.intCast_mul];show _=_*((((fact (count g.n t)*fact (g.n-1-count g.n t):Nat):Int):Rat)*_);rw[Rat.intCast_natCast]
  grind
theorem zd{n s i:Nat}(hi:i<n)(h:has s i=true):0<count n s:=by
 unfold count;exact List.length_pos_of_mem (mem_filter.mpr ⟨mem_range.mpr hi,h⟩)
theorem Bz(g:Game):shareByDividends g=share g:=by
 rw[uc];unfold shareByDividends;apply map_congr_left;intro i hi;have hi':=mem_range.mp hi;rw[map_map]
 have e:=EU ((λx:Nat×Int=>if has x.1 i=true then frac x.2 (count g.n x.1)else(0,1))∘λs=>(s,dividend g s)) (λs=>if has s i=true then(dividend g s:Rat)/(count g.n s:Rat)else 0) (groups g.n) (λs _=>by
  show(if has s i=true then frac (dividend g s) (count g.n s)else(0,1))=_;by_cases q:has s i=true
  ·rw[if_pos q,if_pos q,cI _ (zd hi' q)]
  ·rw[if_neg q,if_neg q,zero_eq])
 rw[e,cI _ (hZ _)];congr 1;exact zX g hi'
end Shm
end
section
namespace Shm
open Vbedah
def sm(c:Nat->Int):Nat->(Nat->Bool)->Int
 |0,_=>0
 |m+1,S=>sm c m S+(if S m=true then c m else 0)
def sd(S A:Nat->Bool):Nat->Bool:=λi=>S i&& !A i
def sx(S:Nat->Bool)(h:Nat):Nat->Bool:=λi=>S i&& !(decide (i=h))
def rm(c:Nat->Int)(m:Nat):Nat->(Nat->Bool)->Prop
 |0,_=>True
 |k+1,S=>∃A:Nat->Bool,(∃i,i<m/\A i=true)/\(∀i,A i=true->S i=true)/\sm c m A=0/\rm c m k (sd S A)
theorem pd{c c':Nat->Int}{S T:Nat->Bool}:∀{m:Nat},(∀i,i<m->S i=T i)->(∀i,i<m->c i=c' i)->sm c m S=sm c' m T
 |0,_,_=>rfl
 |m+1,h,h'=>by
  show sm c m S+_=sm c' m T+_;rw[pd (m:=m) (λi hi=>h i (by omega)) (λi hi=>h' i (by omega)),h m (by omega),h' m (by omega)]
theorem pf{c:Nat->Int}{S A:Nat->Bool}(h:∀i,A i=true->S i=true):∀m,sm c m S=sm c m A+sm c m (sd S A)
 |0=>rfl
 |m+1=>by
  have ih:=pf (c:=c) h m;show sm c m S+_=(sm c m A+_)+(sm c m (sd S A)+_)
  have hm:=h m;have e:sd S A m=(S m&& !A m):=rfl;rw[e];cases ha:A m<;>cases hs:S m<;>simp_all<;>omega
theorem CQ(c:Nat->Int):∀m,sm c m (λ_=>false)=0
 |0=>rfl
 |m+1=>by
  show sm c m _+0=0;rw[CQ c m];rfl
section
variable{c:Nat->Int}{m:Nat}
theorem rm.mono:∀{k:Nat}{S T:Nat->Bool},(∀i,S i=true->T i=true)->rm c m k S->rm c m k T
 |0,_,_,_,_=>trivial
 |k+1,S,T,h,⟨A,ne,sub,z,r⟩=>⟨A,ne,λi hi=>h i (sub i hi),z,rm.mono (λi hi=>by
   unfold sd at hi⊢;simp only[and_eq_true]at hi⊢
   exact⟨h i hi.1,hi.2⟩) r⟩
theorem rm.down{k:Nat}{S:Nat->Bool}(h:rm c m (k+1) S):rm c m k S:=by
 obtain⟨A,_,_,_,r⟩:=h;refine r.mono λi hi=>?_;unfold sd at hi;simp only[and_eq_true]at hi;exact hi.1
theorem rm.le{S:Nat->Bool}:∀{j k:Nat},j<=k->rm c m k S->rm c m j S
 |j,0,h,r=>by
  have:j=0:=by omega
  subst this;exact r
 |j,k+1,h,r=>by
  by_cases e:j=k+1
  ·subst e;exact r
  ·exact rm.le (by omega) r.down
theorem OH(S A:Nat->Bool)(h:Nat):sd (sx S h) A=sx (sd S A) h:=by
 funext i;show(S i&& !decide (i=h)&& !A i)=(S i&& !A i&& !decide (i=h))
 cases S i<;>cases A i<;>cases decide (i=h)<;>rfl
theorem rm.out{h:Nat}:∀{k:Nat}{S:Nat->Bool},S h=true->rm c m k S->rm c m k (sx S h)\/∃(j:Nat)(A:Nat->Bool),k=j+1/\A h=true/\(∀i,A i=true->S i=true)/\sm c m A=0/\rm c m j (sd S A)
 |0,_,_,_=> .inl trivial
 |k+1,S,hS,⟨A,ne,sub,z,r⟩=>by
  cases ha:A h with
  |true=>exact .inr ⟨k,A,rfl,ha,sub,z,r⟩
  |false=>
   have h1:sd S A h=true:=by unfold sd;rw[hS,ha];rfl
   rcases rm.out h1 r with q|⟨j,B,rfl,hB,sB,zB,rB⟩
   ·left;refine⟨A,ne,λi hi=>?_,z,?_⟩
    ·unfold sx;have:i≠h:=λe=>by rw[e,ha]at hi;cases hi
     rw[sub i hi,decide_eq_false this];rfl
    ·rw[OH];exact q
   ·right;have sB':∀i,B i=true->S i=true/\A i=false:=λi hi=>by
     have:=sB i hi;unfold sd at this;simpa using this
    refine⟨j+1,B,rfl,hB,λi hi=>(sB' i hi).1,zB,A,ne,λi hi=>?_,z,?_⟩
    ·unfold sd;rw[sub i hi];cases hb:B i with
     |false=>rfl
     |true=>rw[(sB' i hb).2]at hi;cases hi
    ·have e:sd (sd S B) A=sd (sd S A) B:=by
      funext i;show(S i&& !B i&& !A i)=(S i&& !A i&& !B i)
      cases S i<;>cases A i<;>cases B i<;>rfl
     rw[e];exact rB
theorem rm.all{h:Nat}(hm:h<m):∀{k:Nat}{S:Nat->Bool},S h=true->sm c m S=0->rm c m k (sx S h)->rm c m (k+1) S
 |0,S,hS,z,_=>⟨S,⟨h,hm,hS⟩,λ_ q=>q,z,trivial⟩
 |k+1,S,hS,z,⟨A,ne,sub,zA,r⟩=>by
  have sub':∀i,A i=true->S i=true/\i≠h:=λi hi=>by
   have:=sub i hi;unfold sx at this;simpa using this
  have hA:A h=false:=by
   cases q:A h with
   |false=>rfl
   |true=>exact absurd rfl (sub' h q).2
  have s2:=pf (c:=c) (S:=S) (A:=A) (λi hi=>(sub' i hi).1) m;refine⟨A,ne,λi hi=>(sub' i hi).1,zA,rm.all hm ?_ ?_ ?_⟩
  ·unfold sd;rw[hS,hA];rfl
  ·omega
  ·rw[<-OH];exact r
theorem rm.free:∀{k:Nat}{S:Nat->Bool},(∃i,i<m/\S i=true)->rm c m k S->(∃h,h<m/\S h=true/\rm c m k (sx S h))\/sm c m S=0
 |0,_,⟨h,hm,hS⟩,_=> .inl ⟨h,hm,hS,trivial⟩
 |k+1,S,_,⟨A,ne,sub,z,r⟩=>by
  have s2:=pf (c:=c) (S:=S) (A:=A) sub m;by_cases e:∃i,i<m/\sd S A i=true
  ·rcases rm.free e r with⟨h,hm,hS,q⟩|q
   ·left;have hS':S h=true/\A h=false:=by unfold sd at hS;simpa using hS
    refine⟨h,hm,hS'.1,A,ne,λi hi=>?_,z,?_⟩
    ·unfold sx;have:i≠h:=λe=>by rw[e,hS'.2]at hi;cases hi
     rw[sub i hi,decide_eq_false this];rfl
    ·rw[OH];exact q
   ·right;omega
  ·right;have:sm c m (sd S A)=0:=by
    have e':∀i,i<m->sd S A i=(λ_=>false) i:=λi hi=>by
     cases q:sd S A i with
     |false=>rfl
     |true=>exact absurd ⟨i,hi,q⟩ e
    rw[pd (c':=c) e' (λ_ _=>rfl)];exact CQ c m
   omega
def lr(c:Nat->Int)(m:Nat)(S:Nat->Bool)(k:Nat):Prop:=rm c m k S/\¬rm c m (k+1) S
theorem lr.eq{S:Nat->Bool}{j k:Nat}(a:lr c m S j)(b:lr c m S k):j=k:=by
 rcases Nat.lt_trichotomy j k with h|h|h
 ·exact absurd (b.1.le (show j+1<=k from h)) a.2
 ·exact h
 ·exact absurd (a.1.le (show k+1<=j from h)) b.2
theorem lr.none{S:Nat->Bool}(h:∀i,i<m->S i=false):lr c m S 0:=by
 refine⟨trivial,λ⟨A,⟨i,hi,hA⟩,sub,_,_⟩=>?_⟩;have:=sub i hA;rw[h i hi]at this;cases this
theorem lr.step{S:Nat->Bool}{f:Nat->Nat}{b:Nat}(hf:∀h,h<m->S h=true->lr c m (sx S h) (f h))(hb1:∃h,h<m/\S h=true/\f h=b)(hb2:∀h,h<m->S h=true->f h<=b):
  lr c m S (if sm c m S=0 then b+1 else b):=by
 obtain⟨h,hm,hS,e⟩:=hb1;have M:=hf h hm hS;rw[e]at M;by_cases z:sm c m S=0
 ·rw[if_pos z];refine⟨M.1.all hm hS z,λq=>?_⟩;rcases q.out hS with q|⟨j,A,e1,hA,sA,zA,rA⟩
  ·exact M.2 (q.le (by omega))
  ·have:j=b+1:=by omega
   subst this;refine M.2 (rA.mono λi hi=>?_);have hi:S i=true/\A i=false:=by unfold sd at hi;simpa using hi
   unfold sx;have:i≠h:=λe=>by rw[e,hA]at hi;cases hi.2
   rw[hi.1,decide_eq_false this];rfl
 ·rw[if_neg z];refine⟨M.1.mono λi hi=>?_,λq=>?_⟩
  ·unfold sx at hi;simp only[and_eq_true]at hi;exact hi.1
  ·rcases q.free ⟨h,hm,hS⟩with⟨h',hm',hS',q'⟩|q'
   ·exact(hf h' hm' hS').2 (q'.le (by have:=hb2 h' hm' hS';omega))
   ·exact z q'
theorem rm.yQ(S:Nat->Bool):∀k,¬rm c m k S->∃j,lr c m S j
 |0,h=>absurd trivial h
 |k+1,h=>by
  by_cases q:rm c m k S
  ·exact⟨k,q,h⟩
  ·exact rm.yQ S k q
end
end Shm
end
section
namespace Shm
open Vbedah
def tb(s:Nat):Nat->Bool:=λi=>s.testBit i
theorem i3{l g:Nat}(h:∀i,g.testBit i=true->l.testBit i=true):tb (l^^^g)=sd (tb l) (tb g):=by
 funext i;show(l^^^g).testBit i=(l.testBit i&& !g.testBit i)
 rw[testBit_xor];have:=h i;cases e:g.testBit i<;>cases e2:l.testBit i<;>simp_all
theorem J2{l h:Nat}(hl:l.testBit h=true):tb (l^^^2^h)=sx (tb l) h:=by
 funext i;show(l^^^2^h).testBit i=(l.testBit i&& !decide (i=h))
 rw[testBit_xor,testBit_two_pow];by_cases e:h=i
 ·subst e;simp[hl]
 ·have:¬i=h:=λq=>e q.symm;simp[e,this]
theorem oO{l g m:Nat}(hl:l<2^m)(h:∀i,g.testBit i=true->l.testBit i=true):g<2^m:=by
 refine Nat.lt_pow_two_of_testBit g λi hi=>?_;cases e:g.testBit i with
 |false=>rfl
 |true=>
  have:=h i e;rw[testBit_lt_two_pow (lt_of_lt_of_le hl (pow_le_pow_right (by decide) hi))]at this;cases this
theorem N5(A:Nat->Bool):∀m,∃g,g<2^m/\∀i,i<m->g.testBit i=A i
 |0=>⟨0,by decide,λi h=>absurd h (not_lt_zero _)⟩
 |m+1=>by
  obtain⟨g,hg,q⟩:=N5 A m;cases e:A m with
  |false=>
   refine⟨g,by rw[pow_succ];omega,λi hi=>?_⟩;by_cases z:i=m
   ·subst z;rw[e];exact testBit_lt_two_pow hg
   ·exact q i (by omega)
  |true=>
   refine⟨g+2^m,by rw[pow_succ];omega,λi hi=>?_⟩;by_cases z:i=m
   ·subst z;rw[e];exact gO hg
   ·rw[<-q i (by omega)];exact eN hg (by omega)
theorem N1:∀(l g g':Nat),g&&&l=g->g'&&&l=g'->g'<g->g'<=(g-1)&&&l:=by
 intro l
 induction l using Nat.strongRecOn with
 |_ l ih=>
  intro g g' hg hg' hlt;by_cases l0:l=0
  ·subst l0;rw[Nat.and_zero]at hg;omega
  have d:∀a b:Nat,a&&&b=2*((a/2)&&&(b/2))+(a%2)*(b%2):=λa b=>by
   have h1:(a&&&b)/2=(a/2)&&&(b/2):=and_div_two;have h2:(a&&&b)%2=(a%2)*(b%2):=by
    rcases mod_two_eq_zero_or_one (a&&&b)with w|w
    ·rw[w];rcases mod_two_eq_zero_or_one a with x|x
     ·rw[x,Nat.zero_mul]
     ·rcases mod_two_eq_zero_or_one b with y|y
      ·rw[y,Nat.mul_zero]
      ·rw[Nat.and_mod_two_eq_one.mpr ⟨x,y⟩]at w;cases w
    ·have:=Nat.and_mod_two_eq_one.mp w;rw[w,this.1,this.2]
   rw[<-h1,<-h2];omega
  have eg:(g/2)&&&(l/2)=g/2:=by rw[<-and_div_two,hg]
  have eg':(g'/2)&&&(l/2)=g'/2:=by rw[<-and_div_two,hg']
  rw[d (g-1) l];rcases mod_two_eq_zero_or_one g with x|x
  ·have e1:(g-1)/2=g/2-1:=by omega
   have e2:(g-1)%2=1:=by omega
   have i1:=ih (l/2) (by omega) (g/2) (g'/2) eg eg' (by omega);rw[e1,e2];have q:=d g' l;rw[hg',eg']at q;have:g'%2<=1*(l%2):=by
    rcases mod_two_eq_zero_or_one g' with y|y
    ·omega
    ·rcases mod_two_eq_zero_or_one l with z|z
     ·rw[y,z]at q;omega
     ·omega
   omega
  ·have e1:(g-1)/2=g/2:=by omega
   rw[e1,eg];omega
theorem jz{g l:Nat}:g&&&l=g↔∀i,g.testBit i=true->l.testBit i=true:=by
 constructor
 ·intro h i hi;have:=testBit_and g l i;rw[h,hi]at this;simpa using this.symm
 ·intro h;apply eq_of_testBit_eq;intro i;rw[testBit_and];cases e:g.testBit i with
  |false=>rfl
  |true=>rw[h i e];rfl
def IV(c:Nat->Int)(m l g:Nat):Prop:=sm c m (tb g)=0/\∃k,lr c m (tb (l^^^g)) k/\lr c m (tb l) (k+1)
def A8(c:Nat->Int)(m l g:Nat):Prop:=g&&&l=g/\IV c m l g/\∀g',g'&&&l=g'->g<g'->¬IV c m l g'
section
variable{c:Nat->Int}{m l:Nat}
theorem Kq{t M:Nat}(hl:l<2^m)(z:sm c m (tb l)=0)(ht:l.testBit t=true)(hM:lr c m (tb l) M):∃g,g&&&l=g/\g.testBit t=true/\IV c m l g:=by
 have tm:t<m:=by
  rcases lt_or_ge t m with q|q
  ·exact q
  ·have:=testBit_lt_two_pow (lt_of_lt_of_le hl (pow_le_pow_right (by decide) q));rw[ht]at this;cases this
 rcases hM.1.out (h:=t) ht with q|⟨j,A,e,hA,sA,zA,rA⟩
 ·exact absurd (q.all tm ht z) hM.2
 ·obtain⟨g,hg,eg⟩:=N5 A m;have tg:∀i,tb g i=A i:=λi=>by
   by_cases hi:i<m
   ·exact eg i hi
   ·have h1:g.testBit i=false:=testBit_lt_two_pow (lt_of_lt_of_le hg (pow_le_pow_right (by decide) (by omega)));have h2:l.testBit i=false:=testBit_lt_two_pow (lt_of_lt_of_le hl (pow_le_pow_right (by decide) (by omega)));show g.testBit i=A i;rw[h1];cases q:A i with
    |false=>rfl
    |true=>
     have:l.testBit i=true:=sA i q;rw[h2]at this;cases this
  have tg':tb g=A:=funext tg;have sub:∀i,g.testBit i=true->l.testBit i=true:=λi hi=>sA i (by rw[<-tg i];exact hi);refine⟨g,jz.mpr sub,(tg t).trans hA,by rw[tg'];exact zA,j,?_,e▸hM⟩;rw[i3 sub,tg'];refine⟨rA,λq=>hM.2 ?_⟩;rw[e];exact⟨A,⟨t,tm,hA⟩,sA,zA,q⟩
theorem FF(h:∃g,g&&&l=g/\IV c m l g):∃g,A8 c m l g:=by
 have key:∀d g,g&&&l=g->IV c m l g->l-g<=d->∃g,A8 c m l g:=by
  intro d
  induction d with
  |zero=>
   intro g h1 h2 h3;have gl:g<=l:=by rw[<-h1];exact and_le_right
   refine⟨g,h1,h2,λg' h4 h5 _=>?_⟩;have:g'<=l:=by rw[<-h4];exact and_le_right
   omega
  |succ d ih=>
   intro g h1 h2 h3;by_cases q:∃g',g'&&&l=g'/\g<g'/\IV c m l g'
   ·obtain⟨g',a,b,f⟩:=q;have:g'<=l:=by rw[<-a];exact and_le_right
    exact ih g' a f (by omega)
   ·exact⟨g,h1,h2,λg' a b f=>q ⟨g',a,b,f⟩⟩
 obtain⟨g,h1,h2⟩:=h;exact key _ g h1 h2 (le_refl _)
theorem IV.ne{g:Nat}(f:IV c m l g):g≠0:=by
 rintro rfl;obtain⟨_,k,a,b⟩:=f;rw[Nat.xor_zero]at a;have:=a.eq b;omega
end
end Shm
end
section
namespace Shm
open Vbedah
def pick:List Nat->Nat->List Nat
 |[],_=>[]
 |x::r,s=>if s.testBit r.length=true then x::pick r s else pick r s
theorem fU{x:Nat}{r:List Nat}{s:Nat}(h:s.testBit r.length=true):pick (x::r) s=x::pick r s:=by rw[pick,if_pos h]
theorem fB{x:Nat}{r:List Nat}{s:Nat}(h:s.testBit r.length=false):pick (x::r) s=pick r s:=by rw[pick,if_neg (by rw[h];simp)]
theorem CH:∀{hs:List Nat}{s t:Nat},(∀i,i<hs.length->s.testBit i=t.testBit i)->pick hs s=pick hs t
 |[],_,_,_=>rfl
 |x::r,s,t,h=>by
  rw[pick,pick,h r.length (by simp),CH (hs:=r) λi hi=>h i (by rw[length_cons];omega)]
theorem j5:∀hs:List Nat,pick hs 0=[]
 |[]=>rfl
 |x::r=>by rw[fB (zero_testBit _),j5 r]
theorem sv{y:Nat}:∀{hs:List Nat}{s:Nat},y∈pick hs s->y∈hs
 |x::r,s,h=>by
  cases e:s.testBit r.length with
  |true=>
   rw[fU e]at h;rcases mem_cons.mp h with q|q
   ·rw[q];exact mem_cons_self
   ·exact mem_cons_of_mem _ (sv q)
  |false=>
   rw[fB e]at h;exact mem_cons_of_mem _ (sv h)
theorem yy{y:Nat}:∀{hs:List Nat}{s t:Nat},(∀i,s.testBit i=true->t.testBit i=true)->y∈pick hs s->y∈pick hs t
 |x::r,s,t,st,h=>by
  cases e:s.testBit r.length with
  |true=>
   rw[fU e]at h;rw[fU (st _ e)];rcases mem_cons.mp h with q|q
   ·rw[q];exact mem_cons_self
   ·exact mem_cons_of_mem _ (yy st q)
  |false=>
   rw[fB e]at h;have:=yy st h;cases e2:t.testBit r.length with
   |true=>rw[fU e2];exact mem_cons_of_mem _ this
   |false=>rw[fB e2];exact this
theorem uC:∀{hs:List Nat}{s:Nat},s<2^hs.length->s≠0->pick hs s≠[]
 |[],s,h,n=>by
  have:s=0:=by simpa using h
  exact absurd this n
 |x::r,s,h,n=>by
  cases e:s.testBit r.length with
  |true=>rw[fU e];simp
  |false=>
   rw[fB e];refine uC ?_ n;refine Nat.lt_pow_two_of_testBit s λi hi=>?_;by_cases z:i=r.length
   ·rw[z];exact e
   ·exact testBit_lt_two_pow (lt_of_lt_of_le h (pow_le_pow_right (by decide) (by rw[length_cons];omega)))
def cw(b:List Int)(hs:List Nat)(i:Nat):Int:=b.getD (hs.reverse.getD i 0) 0
theorem Sy{b:List Int}{x:Nat}{r:List Nat}{i:Nat}(h:i<r.length):cw b (x::r) i=cw b r i:=by
 unfold cw;have e:(x::r).reverse.getD i 0=r.reverse.getD i 0:=by
  rw[List.reverse_cons,getD_eq_getElem?_getD,getD_eq_getElem?_getD,getElem?_append_left (by rw[length_reverse];exact h)]
 rw[e]
theorem Sx{b:List Int}{x:Nat}{r:List Nat}:cw b (x::r) r.length=b.getD x 0:=by
 unfold cw;rw[List.reverse_cons,getD_eq_getElem?_getD (l:=r.reverse++[x]),getElem?_append_right (by rw[length_reverse];exact le_refl _),length_reverse,sub_self];rfl
theorem iK(b:List Int):∀(hs:List Nat)(s:Nat),groupSum b (pick hs s)=sm (cw b hs) hs.length (tb s)
 |[],s=>rfl
 |x::r,s=>by
  have ih:=iK b r s;have e:sm (cw b (x::r)) (x::r).length (tb s)=sm (cw b r) r.length (tb s)+if tb s r.length=true then b.getD x 0 else 0:=by
   show sm (cw b (x::r)) r.length (tb s)+_=_;rw[pd (c':=cw b r) (λ_ _=>rfl) λi hi=>Sy hi,Sx]
  rw[e,<-ih];cases q:s.testBit r.length with
  |true=>
   rw[fU q,if_pos (show tb s r.length=true from q)];unfold groupSum;rw[jA,jA,map_cons,sum_cons];omega
  |false=>
   rw[fB q,if_neg (by show¬s.testBit r.length=true;rw[q];simp)];omega
def desc:Nat->Nat->List Nat
 |0,_=>[0]
 |m+1,l=>if l.testBit m=true then(desc m l).map (λg=>g+2^m)++desc m l else desc m l
theorem ie{l:Nat}:∀{m g:Nat},g∈desc m l↔g<2^m/\∀i,i<m->g.testBit i=true->l.testBit i=true
 |0,g=>by
  rw[desc];constructor
  ·intro h;have:g=0:=by simpa using h
   subst this;exact⟨by decide,λi hi=>absurd hi (not_lt_zero _)⟩
  ·intro h;have:g=0:=by have:=h.1;simpa using this
   rw[this];simp
 |m+1,g=>by
  have low:g∈desc m l↔g<2^m/\∀i,i<m->g.testBit i=true->l.testBit i=true:=ie;have lowR:g∈desc m l->g<2^(m+1)/\∀i,i<m+1->g.testBit i=true->l.testBit i=true:=λh=>by
   obtain⟨h1,h2⟩:=low.mp h;refine⟨by rw[pow_succ];omega,λi hi hb=>?_⟩;by_cases z:i=m
   ·rw[z,testBit_lt_two_pow h1]at hb;cases hb
   ·exact h2 i (by omega) hb
  rw[desc];cases e:l.testBit m with
  |true=>
   rw[if_pos rfl,mem_append];constructor
   ·rintro(h|h)
    ·obtain⟨g',hg',rfl⟩:=mem_map.mp h;obtain⟨h1,h2⟩:=ie.mp hg';refine⟨by rw[pow_succ];omega,λi hi hb=>?_⟩;by_cases z:i=m
     ·rw[z];exact e
     ·refine h2 i (by omega) ?_;rw[<-hb];exact(eN h1 (by omega)).symm
    ·exact lowR h
   ·rintro⟨h1,h2⟩;by_cases q:g<2^m
    ·exact .inr (low.mpr ⟨q,λi hi=>h2 i (by omega)⟩)
    ·left;have h3:g-2^m<2^m:=by rw[pow_succ]at h1;omega
     refine mem_map.mpr ⟨g-2^m,ie.mpr ⟨h3,λi hi hb=>h2 i (by omega) ?_⟩,by omega⟩;have:=eN h3 hi;rw[show g-2^m+2^m=g by omega]at this;show has g i=true;rw[this];exact hb
  |false=>
   rw[if_neg (by simp)];refine⟨lowR,λ⟨h1,h2⟩=>low.mpr ⟨?_,λi hi=>h2 i (by omega)⟩⟩;refine Nat.lt_pow_two_of_testBit g λi hi=>?_;by_cases z:i=m
   ·cases q:g.testBit i with
    |false=>rfl
    |true=>rw[z]at q;have:=h2 m (by omega) q;rw[e]at this;cases this
   ·exact testBit_lt_two_pow (lt_of_lt_of_le h1 (pow_le_pow_right (by decide) (by omega)))
theorem uv{m l g:Nat}(hl:l<2^m):g∈desc m l↔g&&&l=g:=by
 rw[ie,jz];constructor
 ·rintro⟨h1,h2⟩ i hb;rcases lt_or_ge i m with q|q
  ·exact h2 i q hb
  ·rw[testBit_lt_two_pow (lt_of_lt_of_le h1 (pow_le_pow_right (by decide) q))]at hb;cases hb
 ·intro h;exact⟨oO hl h,λi _=>h i⟩
theorem AV(l:Nat):∀m,(desc m l).Pairwise (λa b=>a>b)
 |0=>by simp[desc]
 |m+1=>by
  rw[desc];cases e:l.testBit m with
  |true=>
   rw[if_pos rfl,pairwise_append];refine⟨?_,AV l m,λa ha b hb=>?_⟩
   ·rw[pairwise_map];exact(AV l m).imp λh=>by omega
   ·obtain⟨g',_,rfl⟩:=mem_map.mp ha;have:=(ie.mp hb).1;show b<g'+2^m;omega
  |false=>rw[if_neg (by simp)];exact AV l m
theorem yw{y:Nat}{hs:List Nat}{g:Nat}(h:g<2^hs.length):pick (y::hs) (g+2^hs.length)=y::pick hs g:=by
 rw[fU (gO h)];congr 1;exact CH λi hi=>eN h hi
theorem HY{y:Nat}{hs:List Nat}{g:Nat}(h:g<2^hs.length):pick (y::hs) g=pick hs g:=fB (testBit_lt_two_pow h)
theorem vZ(l:Nat):∀hs:List Nat,parts (pick hs l)=(desc hs.length l).map (pick hs)
 |[]=>rfl
 |y::hs=>by
  have ih:=vZ l hs;have lo:(desc hs.length l).map (pick (y::hs))=(desc hs.length l).map (pick hs):=map_congr_left λg hg=>HY (ie.mp hg).1;show _=(desc (hs.length+1) l).map _;rw[desc];cases e:l.testBit hs.length with
  |true=>
   rw[fU e,if_pos rfl,parts,ih,map_append,lo];congr 1;rw[map_map,map_map];exact map_congr_left λg hg=>(yw (ie.mp hg).1).symm
  |false=>rw[fB e,if_neg (by simp),ih,lo]
theorem vN{l x:Nat}{r':List Nat}:∀{hs:List Nat},pick hs l=x::r'->∃D1 D2 t,desc hs.length l=D1++D2/\(parts r').map (λp=>x::p)=D1.map (pick hs)/\l.testBit t=true/\t<hs.length/\(∀g∈D1,g.testBit t=true)/\(∀g∈D2,g.testBit t=false)
 |[],h=>by simp[pick]at h
 |y::hs,h=>by
  cases e:l.testBit hs.length with
  |true=>
   rw[fU e]at h;injection h with h1 h2
   subst h1;refine⟨(desc hs.length l).map (λg=>g+2^hs.length),desc hs.length l,hs.length,?_,?_,e,by simp,λg hg=>?_,λg hg=>?_⟩
   ·show desc (hs.length+1) l=_;rw[desc,if_pos e]
   ·rw[<-h2,vZ,map_map,map_map];exact map_congr_left λg hg=>(yw (ie.mp hg).1).symm
   ·obtain⟨g',hg',rfl⟩:=mem_map.mp hg;exact gO (ie.mp hg').1
   ·exact testBit_lt_two_pow (ie.mp hg).1
  |false=>
   rw[fB e]at h;obtain⟨D1,D2,t,h1,h2,h3,h3',h4,h5⟩:=vN h;refine⟨D1,D2,t,?_,?_,h3,by rw[length_cons];omega,h4,h5⟩
   ·show desc (hs.length+1) l=_;rw[desc,if_neg (by rw[e];simp),h1]
   ·rw[h2];exact map_congr_left λg hg=>(HY (ie.mp (show g∈desc hs.length l by rw[h1];exact mem_append_left _ hg)).1).symm
theorem yu:∀{hs:List Nat},hs.Nodup->∀{l g:Nat},(∀i,g.testBit i=true->l.testBit i=true)->(pick hs l).filter (λy=> !((pick hs g).contains y))=pick hs (l^^^g)
 |[],_,_,_,_=>rfl
 |x::r,nd,l,g,h=>by
  obtain⟨hx,nd'⟩:=nodup_cons.mp nd;have ih:=yu nd' h;have tl:(pick r l).filter (λy=> !((pick (x::r) g).contains y))=pick r (l^^^g):=by
   rw[<-ih];apply filter_congr;intro y hy;have yx:¬y=x:=λe=>hx (e▸sv hy);cases e:g.testBit r.length with
   |true=>rw[fU e];simp[yx]
   |false=>rw[fB e]
  have hb:(l^^^g).testBit r.length=(l.testBit r.length !=g.testBit r.length):=by rw[testBit_xor]
  cases el:l.testBit r.length with
  |true=>
   rw[fU el,filter_cons];cases eg:g.testBit r.length with
   |true=>
    rw[el,eg]at hb;rw[if_neg (by rw[fU eg];simp),fB hb,tl]
   |false=>
    rw[el,eg]at hb
    rw[if_pos (by
     rw[fB eg];have:x∉pick r g:=λq=>hx (sv q)
     simp[this]),fU hb,tl]
  |false=>
   have eg:g.testBit r.length=false:=by
    cases eg:g.testBit r.length with
    |false=>rfl
    |true=>rw[h _ eg]at el;cases el
   rw[el,eg]at hb;rw[fB el,fB hb,tl]
theorem LD{t:List (List Nat)}(h0:0<t.length){A B:List (List (List Nat))}(hA:∀a∈A,a.length<t.length)(hB:∀b∈B,b.length<=t.length):
  (A++t::B).foldl (λ(best:List (List Nat))t=>if best.length<t.length then t else best) []=t:=by
 have a1:∀(A:List (List (List Nat)))(s:List (List Nat)),s.length<t.length->(∀a∈A,a.length<t.length)->(A.foldl (λ(best:List (List Nat))t=>if best.length<t.length then t else best) s).length<t.length:=by
  intro A
  induction A with
  |nil=>intro s hs _;exact hs
  |cons x r ih=>
   intro s hs hr;rw[foldl_cons];refine ih _ ?_ λa ha=>hr a (mem_cons_of_mem _ ha)
   split
   ·exact hr x mem_cons_self
   ·exact hs
 have b1:∀(B:List (List (List Nat))),(∀a∈B,a.length<=t.length)->B.foldl (λ(best:List (List Nat))t=>if best.length<t.length then t else best) t=t:=by
  intro B
  induction B with
  |nil=>intro _;rfl
  |cons x r ih=>
   intro hr;have:=hr x mem_cons_self;rw[foldl_cons,if_neg (by omega)];exact ih λa ha=>hr a (mem_cons_of_mem _ ha)
 rw[foldl_append,foldl_cons,if_pos (a1 A [] h0 hA)];exact b1 B hB
theorem N9{m:Nat}{A:Nat->Bool}(h:∃i,i<m/\A i=true):1<=sm (λ_=>1) m A:=by
 have nn:∀(m:Nat),0<=sm (λ_=>1) m A:=λm=>by
  induction m with
  |zero=>exact Int.le_refl _
  |succ n ih=>
   show 0<=sm (λ_=>1) n A+(if A n=true then 1 else 0)
   split<;>omega
 obtain⟨i,hi,ha⟩:=h
 induction m with
 |zero=>omega
 |succ n ih=>
  show 1<=sm (λ_=>1) n A+(if A n=true then 1 else 0)
  by_cases e:i=n
  ·subst e;rw[if_pos ha];have:=nn i;omega
  ·have:=ih (by omega)
   split<;>omega
theorem rm.bound{c:Nat->Int}{m:Nat}:∀{k:Nat}{S:Nat->Bool},rm c m k S->(k:Int)<=sm (λ_=>1) m S
 |0,S,_=>by
  show(0:Int)<=_;by_cases h:∃i,i<m/\S i=true
  ·have:=N9 h;omega
  ·have:sm (λ_=>1) m S=0:=by
    rw[pd (T:=λ_=>false) (c':=λ_=>1) (λi hi=>by
     cases q:S i with
     |false=>rfl
     |true=>exact absurd ⟨i,hi,q⟩ h) (λ_ _=>rfl)]
    exact CQ _ m
   omega
 |k+1,S,⟨A,ne,sub,_,r⟩=>by
  have h1:=N9 ne;have h2:=r.bound;have h3:=pf (c:=λ_=>1) sub m;omega
theorem nH(c:Nat->Int)(m:Nat)(S:Nat->Bool):∃j,lr c m S j:=by
 refine rm.yQ S (sm (λ_=>1) m S).toNat.succ λh=>?_;have:=h.bound;omega
section
variable{b:List Int}{hs:List Nat}
theorem RL{k l g:Nat}(hl:l<2^hs.length)(P:∀l,l<2^hs.length->sm (cw b hs) hs.length (tb l)=0->(pick hs l).length<=k->lr (cw b hs) hs.length (tb l) (parted b k (pick hs l)).length)
  (nd:hs.Nodup) (z:sm (cw b hs) hs.length (tb l)=0) (hk:(pick hs l).length<=k+1) (sub:∀i,g.testBit i=true->l.testBit i=true) (zg:sm (cw b hs) hs.length (tb g)=0) (ne:g≠0):
  sm (cw b hs) hs.length (tb (l^^^g))=0/\(pick hs (l^^^g)).length<=k/\l^^^g<2^hs.length/\lr (cw b hs) hs.length (tb (l^^^g)) (parted b k (pick hs (l^^^g))).length:=by
 have hz:sm (cw b hs) hs.length (tb (l^^^g))=0:=by
  have:=pf (c:=cw b hs) (S:=tb l) (A:=tb g) sub hs.length;rw[i3 sub];omega
 have hg:g<2^hs.length:=oO hl sub;have hlt:l^^^g<2^hs.length:=Nat.xor_lt_two_pow hl hg;have hlen:(pick hs (l^^^g)).length<=k:=by
  rw[<-yu nd sub];have:((pick hs l).filter λy=> !((pick hs g).contains y)).length<(pick hs l).length:=by
   rw[List.length_filter_lt_length_iff_exists];obtain⟨y,r,e⟩:=exists_cons_of_ne_nil (uC hg ne);have hy:y∈pick hs g:=by rw[e];exact mem_cons_self
   exact⟨y,yy sub hy,by simp[hy]⟩
  omega
 exact⟨hz,hlen,hlt,P _ hlt hz hlen⟩
theorem zu{k l g:Nat}(nd:hs.Nodup)(P:∀l,l<2^hs.length->sm (cw b hs) hs.length (tb l)=0->(pick hs l).length<=k->lr (cw b hs) hs.length (tb l) (parted b k (pick hs l)).length)
  (hl:l<2^hs.length) (z:sm (cw b hs) hs.length (tb l)=0) (hk:(pick hs l).length<=k+1) (f:A8 (cw b hs) hs.length l g):
  parted b (k+1) (pick hs l)=pick hs g::parted b k (pick hs (l^^^g)):=by
 obtain⟨fs,ff,fm⟩:=f;obtain⟨zg,kg,mg,ml⟩:=id ff;have sub:=jz.mp fs;have l0:l≠0:=λe=>by
  rw[e,Nat.and_zero]at fs;exact ff.ne fs.symm
 obtain⟨x,r',e⟩:=exists_cons_of_ne_nil (uC hl l0);obtain⟨D1,D2,t,d1,d2,d3,d3',d4,d5⟩:=vN e;have inD:∀a,a∈D1->a&&&l=a:=λa ha=>(uv hl).mp (by rw[d1];exact mem_append_left _ ha);have pw:=AV l hs.length;rw[d1,pairwise_append]at pw;have gD1:g∈D1:=by
  obtain⟨M,hM⟩:=nH (cw b hs) hs.length (tb l);obtain⟨g',s',t',f'⟩:=Kq hl z d3 hM;have hle:g'<=g:=Nat.le_of_not_lt λq=>fm g' s' q f';have m':g'∈D1:=by
   have:=(uv hl).mpr s';rw[d1]at this;rcases mem_append.mp this with q|q
   ·exact q
   ·rw[d5 g' q]at t';cases t'
  have:=(uv hl).mpr fs;rw[d1]at this;rcases mem_append.mp this with q|q
  ·exact q
  ·have:=pw.2.2 g' m' g q;omega
 obtain⟨A,B,eD⟩:=List.append_of_mem gD1;have F:∀a,a∈D1->pick hs a::parted b k (r'.filter λy=> !((pick hs a).contains y))=pick hs a::parted b k (pick hs (l^^^a)):=λa ha=>by
  have hx:x∈pick hs a:=by
   have:pick hs a∈D1.map (pick hs):=mem_map_of_mem ha;rw[<-d2]at this;obtain⟨p,_,ep⟩:=mem_map.mp this;rw[<-ep];exact mem_cons_self
  have:=yu nd (jz.mp (inD a ha));rw[e,filter_cons,if_neg (by simp[hx])]at this;rw[this]
 have len:∀a,a∈D1->sm (cw b hs) hs.length (tb a)=0->lr (cw b hs) hs.length (tb (l^^^a)) (parted b k (pick hs (l^^^a))).length/\(parted b k (pick hs (l^^^a))).length<=kg:=λa ha za=>by
  have sa:=jz.mp (inD a ha);have ta:=d4 a ha;have na:a≠0:=λq=>by rw[q,zero_testBit]at ta;cases ta
  obtain⟨_,_,_,q⟩:=RL hl P nd z hk sa za na;refine⟨q,?_⟩;rcases lt_or_ge kg (parted b k (pick hs (l^^^a))).length with w|w
  ·exfalso;have c1:rm (cw b hs) hs.length ((parted b k (pick hs (l^^^a))).length+1) (tb l):=⟨tb a,⟨t,d3',ta⟩,sa,za,by rw[<-i3 sa];exact q.1⟩
   exact ml.2 (c1.le (by omega))
  ·exact w
 have lg:(parted b k (pick hs (l^^^g))).length=kg:=(len g gD1 zg).1.eq mg;have gs:∀p,(groupSum b (pick hs p)==0)=decide (sm (cw b hs) hs.length (tb p)=0):=λp=>by
  rw[iK];rfl
 rw[e,parted];show List.foldl _ [] (List.map _ (List.filter _ ((parts r').map λp=>x::p)))=_;rw[d2,eD,map_append,map_cons,filter_append,filter_cons,if_pos (by rw[gs];exact decide_eq_true zg),map_append,map_cons,F g gD1];refine LD (by simp) (λa ha=>?_) λa ha=>?_
 ·obtain⟨p,hp,rfl⟩:=mem_map.mp ha;obtain⟨hp1,hp2⟩:=mem_filter.mp hp;obtain⟨a,hA,rfl⟩:=mem_map.mp hp1;have aD:a∈D1:=by rw[eD];exact mem_append_left _ hA
  rw[gs]at hp2;have za:=of_decide_eq_true hp2;have ga:g<a:=by
   have:=pw.1;rw[eD,pairwise_append]at this;exact this.2.2 a hA g mem_cons_self
  obtain⟨q1,q2⟩:=len a aD za;rw[F a aD,length_cons,length_cons,lg];rcases lt_or_ge (parted b k (pick hs (l^^^a))).length kg with w|w
  ·omega
  ·exfalso;have e1:(parted b k (pick hs (l^^^a))).length=kg:=by omega
   exact fm a (inD a aD) ga ⟨za,kg,e1▸q1,ml⟩
 ·obtain⟨p,hp,rfl⟩:=mem_map.mp ha;obtain⟨hp1,hp2⟩:=mem_filter.mp hp;obtain⟨a,hB,rfl⟩:=mem_map.mp hp1;have aD:a∈D1:=by rw[eD];exact mem_append_right _ (mem_cons_of_mem _ hB)
  rw[gs]at hp2;obtain⟨q1,q2⟩:=len a aD (of_decide_eq_true hp2);rw[F a aD,length_cons,length_cons,lg];omega
theorem r9{l:Nat}(hl:l<2^hs.length)(z:sm (cw b hs) hs.length (tb l)=0)(l0:l≠0):∃g,A8 (cw b hs) hs.length l g:=by
 obtain⟨x,r',e⟩:=exists_cons_of_ne_nil (uC hl l0);obtain⟨D1,D2,t,d1,d2,d3,d3',d4,d5⟩:=vN e;obtain⟨M,hM⟩:=nH (cw b hs) hs.length (tb l);obtain⟨g',s',t',f'⟩:=Kq hl z d3 hM;exact FF ⟨g',s',f'⟩
theorem nO(nd:hs.Nodup):∀k l,l<2^hs.length->sm (cw b hs) hs.length (tb l)=0->(pick hs l).length<=k->lr (cw b hs) hs.length (tb l) (parted b k (pick hs l)).length
 |0,l,hl,z,hk=>by
  have l0:l=0:=Classical.byContradiction λn=>uC hl n (List.eq_nil_of_length_eq_zero (by omega));subst l0;exact lr.none λi _=>zero_testBit i
 |k+1,l,hl,z,hk=>by
  by_cases l0:l=0
  ·subst l0;rw[j5];exact lr.none λi _=>zero_testBit i
  ·obtain⟨g,f⟩:=r9 hl z l0;rw[zu nd (nO nd k) hl z hk f,length_cons];obtain⟨fs,ff,fm⟩:=id f;obtain⟨zg,kg,mg,ml⟩:=id ff;obtain⟨_,_,_,q⟩:=RL hl (nO nd k) nd z hk (jz.mp fs) zg ff.ne;rw[q.eq mg];exact ml
theorem nQ{k l g:Nat}(nd:hs.Nodup)(hl:l<2^hs.length)(z:sm (cw b hs) hs.length (tb l)=0)(hk:(pick hs l).length<=k+1)(f:A8 (cw b hs) hs.length l g):
  parted b (k+1) (pick hs l)=pick hs g::parted b k (pick hs (l^^^g))/\sm (cw b hs) hs.length (tb (l^^^g))=0/\(pick hs (l^^^g)).length<=k/\l^^^g<2^hs.length:=by
 obtain⟨fs,ff,fm⟩:=id f;obtain⟨a,c,d,_⟩:=RL hl (nO nd k) nd z hk (jz.mp fs) ff.1 ff.ne;exact⟨zu nd (nO nd k) hl z hk f,a,c,d⟩
end
end Shm
end
section
namespace Shm
open Vbedah
def fJ(b:List Int):Int->List Nat->List (Nat×Nat×Int)
 |run,x::y::r=>(if run+b.getD x 0<0 then(x,y,-(run+b.getD x 0))else(y,x,run+b.getD x 0))::fJ b (run+b.getD x 0) (y::r)
 |_,_=>[]
theorem Kd(b:List Int):∀(l:List Nat)(run:Int),(∀j,0<j->j<l.length->run+groupSum b (l.take j)≠0)->(chain b run l).map (λx=>(x.1,x.2.1,(x.2.2:Int)))=fJ b run l
 |[],_,_=>by simp[chain,fJ]
 |[x],_,_=>by simp[chain,fJ]
 |x::y::r,run,h=>by
  have h1:=h 1 (by decide) (by simp);have e1:groupSum b ((x::y::r).take 1)=b.getD x 0:=by
   unfold groupSum;rw[jA];simp
  rw[e1]at h1;have ih:=Kd b (y::r) (run+b.getD x 0) λj h2 h3=>by
   have:=h (j+1) (by omega) (by rw[length_cons];omega);have e2:groupSum b ((x::y::r).take (j+1))=b.getD x 0+groupSum b ((y::r).take j):=by
    unfold groupSum;rw[jA,jA,List.take_succ_cons,map_cons,sum_cons]
   rw[e2]at this;omega
  rw[chain,fJ];show(((if run+b.getD x 0<0 then [(x,y,(run+b.getD x 0).natAbs)]else if 0<run+b.getD x 0 then [(y,x,(run+b.getD x 0).natAbs)]else [])++chain b (run+b.getD x 0) (y::r)).map λx=>(x.1,x.2.1,(x.2.2:Int)))=_;rw[map_append,ih];by_cases q:run+b.getD x 0<0
  ·rw[if_pos q,if_pos q];show(x,y,(((run+b.getD x 0).natAbs:Nat):Int))::_=_;rw[show(((run+b.getD x 0).natAbs:Nat):Int)= -(run+b.getD x 0) by omega];rfl
  ·rw[if_neg q,if_neg q,if_pos (by omega)];show(y,x,(((run+b.getD x 0).natAbs:Nat):Int))::_=_;rw[show(((run+b.getD x 0).natAbs:Nat):Int)=run+b.getD x 0 by omega];rfl
theorem ow(b:List Int):∀(l:List Nat)(run:Int),(fJ b run l).length=l.length-1
 |[],_=>by simp[fJ]
 |[x],_=>by simp[fJ]
 |x::y::r,run=>by
  rw[fJ,length_cons,ow b (y::r)];simp
theorem wm:∀(l:List Nat)(j:Nat),l.take j∈parts l
 |[],j=>by simp[parts]
 |x::r,0=>by
  rw[parts];have:=wm r 0;exact mem_append_right _ this
 |x::r,j+1=>by
  rw[parts];exact mem_append_left _ (mem_map.mpr ⟨r.take j,wm r j,rfl⟩)
theorem FG{b:List Int}{hs:List Nat}{l g:Nat}(hl:l<2^hs.length)(f:A8 (cw b hs) hs.length l g){j:Nat}(h0:0<j)(h1:j<(pick hs g).length):groupSum b ((pick hs g).take j)≠0:=by
 intro z;obtain⟨fs,⟨zg,k,mg,ml⟩,_⟩:=f;have sub:=jz.mp fs;have hg:=oO hl sub;have hp:=wm (pick hs g) j;rw[vZ]at hp;obtain⟨g1,m1,e1⟩:=mem_map.mp hp;have s1:=(uv hg).mp m1;have sub1:=jz.mp s1;rw[<-e1,iK]at z;have l1:(pick hs g1).length=j:=by rw[e1,length_take];omega
 have n1:g1≠0:=λe=>by rw[e,j5]at l1;simp at l1;omega
 have n2:g^^^g1≠0:=λe=>by
  have:g1=g:=by
   apply eq_of_testBit_eq;intro i;have q:=testBit_xor g g1 i;rw[e,zero_testBit]at q;cases a1:g1.testBit i<;>cases a2:g.testBit i<;>simp_all
  rw[this]at l1;omega
 have ne:∀s:Nat,s<2^hs.length->s≠0->∃i,i<hs.length/\tb s i=true:=λs hlt hn=>by
  obtain⟨i,hi⟩:=Nat.exists_testBit_of_ne_zero hn;refine⟨i,?_,hi⟩;rcases lt_or_ge i hs.length with q|q
  ·exact q
  ·rw[testBit_lt_two_pow (lt_of_lt_of_le hlt (pow_le_pow_right (by decide) q))]at hi;cases hi
 have hg1:=oO hg sub1;have z2:sm (cw b hs) hs.length (tb (g^^^g1))=0:=by
  have:=pf (c:=cw b hs) (S:=tb g) (A:=tb g1) sub1 hs.length;rw[i3 sub1];omega
 refine ml.2 ⟨tb g1,ne g1 hg1 n1,λi hi=>sub i (sub1 i hi),z,tb (g^^^g1),ne _ (Nat.xor_lt_two_pow hg hg1) n2,λi hi=>?_,z2,?_⟩
 ·rw[i3 sub1]at hi;have hi:tb g i=true/\tb g1 i=false:=by unfold sd at hi;simpa using hi
  show(tb l i&& !tb g1 i)=true;rw[hi.2,show tb l i=true from sub i hi.1];rfl
 ·have e:sd (sd (tb l) (tb g1)) (tb (g^^^g1))=tb (l^^^g):=by
   rw[i3 sub1,i3 sub];funext i;show(tb l i&& !tb g1 i&& !(tb g i&& !tb g1 i))=(tb l i&& !tb g i)
   have q:=sub1 i;have q1:tb g1 i=true->tb g i=true:=q;cases a1:tb g1 i<;>cases a2:tb g i<;>cases tb l i<;>simp_all
  rw[e];exact mg.1
def MY(x:Nat×Nat×Nat)(i:Nat):Int:=(if x.2.1=i then(x.2.2:Int)else 0)-(if x.1=i then(x.2.2:Int)else 0)
theorem pI(d:Debts)(i:Nat):balance d i=(d.map λx=>MY x i).sum:=by unfold balance;rw[jA];rfl
theorem Fg(d:Debts)(x:Nat×Nat×Nat)(i:Nat):balance (d++[x]) i=balance d i+MY x i:=by
 rw[pI,pI,map_append,sum_append];simp
theorem ck(d:Debts):(balances d).length=10:=by unfold balances HOUSES;simp
theorem gz{d:Debts}{i:Nat}(h:i<10):(balances d)[i]?=some (balance d i):=by
 unfold balances HOUSES;rw[getElem?_map,getElem?_range h];rfl
theorem Dr{d:Debts}{i:Nat}(h:i<10):(balances d).getD i 0=balance d i:=by
 rw[getD_eq_getElem?_getD,gz h];rfl
theorem Ds(d:Debts){p r n:Nat}(hp:p<10)(hr:r<10)(ne:p≠r):
  ((balances d).set p (balance d p-n)).set r (balance d r+n)=balances (d++[(p,r,n)]):=by
 apply ext_getElem?;intro i;by_cases hi:i<10
 ·rw[gz hi,Fg];unfold MY;by_cases e1:r=i
  ·subst e1;rw[getElem?_set_self (by rw[length_set,ck];exact hr),if_pos rfl,if_neg ne,Int.sub_zero]
  ·rw[getElem?_set_ne e1];by_cases e2:p=i
   ·subst e2;rw[getElem?_set_self (by rw[ck];exact hp),if_neg e1,if_pos rfl];congr 1;show _=_+(0-(n:Int));omega
   ·rw[getElem?_set_ne e2,gz hi,if_neg e1,if_neg e2];congr 1;omega
 ·rw[getElem?_eq_none (by rw[length_set,length_set,ck];omega),getElem?_eq_none (by rw[ck];omega)]
def eU(d:Debts):Prop:=∀x∈d,x.1<10/\x.2.1<10/\x.1≠x.2.1
theorem Gu(n:Nat)(k:Nat)(v:Int)(h:k<n):((List.range n).map λi=>if k=i then v else 0).sum=v:=by
 induction n with
 |zero=>omega
 |succ m ih=>
  rw[range_succ,map_append,sum_append];by_cases e:k=m
  ·subst e;have z:((List.range k).map λi=>if k=i then v else 0)=(List.range k).map λ_=>(0:Int):=map_congr_left λi hi=>by
    rw[mem_range]at hi;rw[if_neg (by omega)]
   rw[z,jB];simp
  ·rw[ih (by omega)];simp[e]
theorem Gs{d:Debts}(h:eU d):((List.range 10).map λi=>balance d i).sum=0:=by
 induction d with
 |nil=>decide
 |cons x r ih=>
  have hx:=h x mem_cons_self;have e:((List.range 10).map λi=>balance (x::r) i)=(List.range 10).map λi=>MY x i+balance r i:=map_congr_left λi _=>by
   rw[pI,pI,map_cons,sum_cons]
  rw[e,sum_map_add,ih λy hy=>h y (mem_cons_of_mem _ hy)];unfold MY;have e2:((List.range 10).map λi=>(if x.2.1=i then(x.2.2:Int)else 0)-(if x.1=i then(x.2.2:Int)else 0))=(List.range 10).map λi=>(if x.2.1=i then(x.2.2:Int)else 0)+(if x.1=i then-(x.2.2:Int)else 0):=map_congr_left λi _=>by
   split<;>split<;>omega
  rw[e2,sum_map_add,Gu 10 x.2.1 _ hx.2.1,Gu 10 x.1 _ hx.1];omega
theorem EA{d:Debts}(h:eU d):groupSum (balances d) (owing (balances d))=0:=by
 unfold groupSum owing HOUSES;rw[jA,sum_filter];refine Eq.trans (congrArg List.sum ?_) (Gs h);apply map_congr_left;intro i hi;rw[mem_range]at hi;rw[Dr hi];by_cases e:balance d i=0
 ·rw[e];rfl
 ·rw[if_pos (by simpa using e)]
theorem zm(b:List Int):(owing b).Nodup:=by
 unfold owing;exact List.nodup_range.sublist List.filter_sublist
theorem mz:∀hs:List Nat,pick hs (2^hs.length-1)=hs
 |[]=>rfl
 |x::r=>by
  have e:2^(x::r).length-1=(2^r.length-1)+2^r.length:=all_succ r.length;rw[e,yw (by have:=two_pow_pos r.length;omega),mz r]
theorem pW(b:List Int):(owing b).length<=10:=by
 unfold owing HOUSES;refine le_trans (length_filter_le _ _) ?_;simp
theorem JO(d t:Debts):settles d t=decide (balances t=balances d):=by
 unfold settles;by_cases h:balances t=balances d
 ·rw[decide_eq_true h,all_eq_true];intro i hi;have hi:i<10:=mem_range.mp hi;have:=gz (d:=t) hi;rw[h,gz hi]at this;simpa using this
 ·rw[decide_eq_false h];cases q:(List.range HOUSES).all λi=>balance d i==balance t i with
  |false=>rfl
  |true=>
   exfalso;apply h;rw[all_eq_true]at q;unfold balances;apply map_congr_left;intro i hi;have:=q i hi;exact(eq_of_beq this).symm
end Shm
end
section
namespace Shm
open Vbedah
def outs(n i:Nat):List Nat:=(groups n).filter λs=> !has s i
theorem kC{n i s:Nat}:s∈outs n i↔s<2^n/\has s i=false:=by
 unfold outs;rw[mem_filter,aP];simp
theorem II{n s i:Nat}(h:s<2^n):without s i<2^n:=by
 unfold without
 split
 ·exact lt_of_le_of_lt (Nat.sub_le _ _) h
 ·exact h
theorem nE{s i:Nat}:has (without s i) i=false:=by
 cases e:has s i with
 |false=>rw[qj e];exact e
 |true=>
  rw[fD e];have hge:2^i<=s:=Nat.ge_two_pow_of_testBit e;have:=jC (s:=s-2^i) (i:=i);have q:s=(s^^^2^i)+2^i:=by
   have h1:(s^^^2^i).testBit i=false:=by
    rw[testBit_xor,testBit_two_pow_self,show s.testBit i=true from e];rfl
   rw[Bb h1];apply eq_of_testBit_eq;intro j;rw[testBit_or,testBit_xor,testBit_two_pow];by_cases z:i=j
   ·subst z;rw[show s.testBit i=true from e];simp
   ·simp[z]
  have h1:(s^^^2^i).testBit i=false:=by
   rw[testBit_xor,testBit_two_pow_self,show s.testBit i=true from e];rfl
  have:s-2^i=s^^^2^i:=by omega
  rw[this];exact h1
theorem Gz{s i:Nat}(h:has s i=true):with_ (without s i) i=s:=by
 rw[jC nE,fD h];have hge:2^i<=s:=Nat.ge_two_pow_of_testBit h;exact Nat.sub_add_cancel hge
theorem E6(g:Game){s i:Nat}:adds g i (without s i)=adds g i s:=by
 cases e:has s i with
 |false=>rw[qj e]
 |true=>
  unfold adds;rw[Gz e,qj nE,C9 e]
theorem PV(g:Game):idle g=(List.range g.n).filter λi=>(outs g.n i).all λs=>adds g i s==0:=by
 unfold idle;apply filter_congr;intro i hi;rw[Bool.eq_iff_iff,all_eq_true,all_eq_true];constructor
 ·intro h s hs;exact h s (aP.mpr (kC.mp hs).1)
 ·intro h s hs;rw[<-E6];exact h _ (kC.mpr ⟨II (aP.mp hs),nE⟩)
theorem MM(g:Game)(i j:Nat):alike g i j=((outs g.n i).filter λs=> !has s j).all λs=>adds g i s==adds g j s:=by
 unfold alike;rw[Bool.eq_iff_iff,all_eq_true,all_eq_true];constructor
 ·intro h s hs;rw[mem_filter]at hs;obtain⟨h1,h2⟩:=kC.mp hs.1;have h3:has s j=false:=by simpa using hs.2
  have:=h s (aP.mpr h1);rw[h2,h3]at this;rw[pG g h2,pG g h3];have:g.cost (with_ s i)=g.cost (with_ s j):=by simpa using this
  rw[this];simp
 ·intro h s hs;cases e1:has s i with
  |true=>rfl
  |false=>
   cases e2:has s j with
   |true=>rfl
   |false=>
    have:=h s (mem_filter.mpr ⟨kC.mpr ⟨aP.mp hs,e1⟩,by rw[e2];rfl⟩);rw[pG g e1,pG g e2]at this;have:g.cost (with_ s i)-g.cost s=g.cost (with_ s j)-g.cost s:=by simpa using this
    have:g.cost (with_ s i)=g.cost (with_ s j):=by omega
    rw[this];simp
theorem En(i:Nat)(p:Nat->Bool):∀n,(List.range n).filter (λj=>decide (i<j)&&p j)=(range' (i+1) (n-(i+1))).filter p
 |0=>by simp
 |n+1=>by
  rw[range_succ,filter_append,En i p n];by_cases h:i<n
  ·have e:n+1-(i+1)=(n-(i+1))+1:=by omega
   rw[e,List.range'_concat,filter_append];congr 1;have e3:i+1+1*(n-(i+1))=n:=by omega
   rw[e3,filter_cons,filter_cons,decide_eq_true h,Bool.true_and];rfl
  ·have e1:n-(i+1)=0:=by omega
   have e2:n+1-(i+1)=0:=by omega
   rw[e1,e2];simp[h]
theorem Oi(g:Game):pairs g=(List.range g.n).flatMap λi=>((range' (i+1) (g.n-(i+1))).filter λj=>alike g i j).map λj=>(i,j):=by
 unfold pairs;congr 1;funext i;rw[En]
def vg(g:Game)(i j:Nat):Option Nat:=(outs g.n i).find? λs=> !has s j&&decide (adds g i s<adds g i (with_ s j))
theorem qC{α β:Type}(p:α->Bool)(f:α->Option β):∀l:List α,(∀x∈l,p x=false->f x=none)->(l.filter p).findSome? f=l.findSome? f
 |[],_=>rfl
 |x::r,h=>by
  have ih:=qC p f r λy hy=>h y (mem_cons_of_mem _ hy);rw[filter_cons,findSome?_cons];cases e:p x with
  |true=>rw[if_pos rfl,findSome?_cons,ih]
  |false=>rw[if_neg (by simp),h x mem_cons_self e,ih]
theorem vj{α β:Type}(p:α->Bool)(f:α->β):∀l:List α,(l.find? p).map f=l.findSome? λx=>if p x=true then some (f x)else none
 |[]=>rfl
 |x::r=>by
  rw[find?_cons,findSome?_cons,<-vj p f r];cases p x<;>rfl
theorem r6{α β:Type}{f f':α->Option β}:∀{l:List α},(∀x∈l,f x=f' x)->l.findSome? f=l.findSome? f'
 |[],_=>rfl
 |x::r,h=>by
  rw[findSome?_cons,findSome?_cons,h x mem_cons_self,r6 λy hy=>h y (mem_cons_of_mem _ hy)]
theorem Ei(g:Game):dearer g=(List.range g.n).findSome? λi=>(List.range g.n).findSome? λj=>if i=j then none else(vg g i j).map λs=>(i,j,s):=by
 unfold dearer;congr 1;funext i;congr 1;funext j;by_cases e:i=j
 ·rw[if_pos e];rw[List.findSome?_eq_none_iff];intro s _;rw[if_neg (by simp[e])]
 ·rw[if_neg e,vg,vj];unfold outs;rw[<-qC (λs=> !has s i)]
  ·apply r6;intro s hs;have h1:=(kC.mp hs).2;cases e2:has s j with
   |true=>rw[if_neg (by simp),if_neg (by simp)]
   |false=>
    by_cases q:adds g i s<adds g i (with_ s j)
    ·rw[if_pos ⟨by simpa using e,h1,rfl,q⟩,if_pos (by simp[q])]
    ·rw[if_neg (λz=>q z.2.2.2),if_neg (by simp[q])]
  ·intro s _ hp;have:has s i=true:=by simpa using hp
   rw[if_neg (by simp[this])]
theorem iV{n s:Nat}(h:s<2^n):(groups n)[s]?=some s:=by unfold groups size;rw[getElem?_range h]
theorem cb(n:Nat):(groups n).length=2^n:=by unfold groups size;simp
theorem lx{g:Game}(h:g.costs.length=2^g.n):(groups g.n).map g.cost=g.costs:=by
 apply ext_getElem?;intro s;by_cases q:s<2^g.n
 ·rw[getElem?_map,iV q];show some (g.costs.getD s 0)=_;rw[getD_eq_getElem?_getD,getElem?_eq_getElem (by omega)];rfl
 ·rw[getElem?_eq_none (by rw[length_map,cb];omega),getElem?_eq_none (by omega)]
theorem km{g:Game}(h:g.costs.length=2^g.n){s:Nat}(hs:s<2^g.n):g.costs[s]?=some (g.cost s):=by
 unfold Game.cost;rw[getD_eq_getElem?_getD,getElem?_eq_getElem (by omega)];rfl
theorem LS{g:Game}(h:g.costs.length=2^g.n)(f:Int->Int):g.costs.map f=(groups g.n).map λs=>f (g.cost s):=by
 rw[<-lx h,map_map];rfl
theorem Jh{g:Game}(h:g.costs.length=2^g.n):g.costs.reverse.map (λc=>g.cost g.all-c)=(Vbedah.dual g).costs:=by
 show _=(groups g.n).map λs=>g.cost g.all-g.cost (g.all-s);have e:g.costs.reverse=(groups g.n).map λs=>g.cost (g.all-s):=by
  apply ext_getElem?;intro s;by_cases q:s<2^g.n
  ·rw[getElem?_map,iV q,List.getElem?_reverse (by omega),h];show _=some (g.cost (2^g.n-1-s));exact km h (by omega)
  ·rw[getElem?_eq_none (by rw[length_reverse];omega),getElem?_eq_none (by rw[length_map,cb];omega)]
 rw[e,map_map];rfl
theorem Mw{a b:Game}(ha:a.costs.length=2^a.n)(hb:b.costs.length=2^b.n)(e:a.n=b.n):(a.costs.zip b.costs).map (λx=>x.1+x.2)=(Vbedah.sum a b).costs:=by
 show _=(groups a.n).map λs=>a.cost s+b.cost s;rw[<-lx ha,<-lx hb,<-e,List.zip_map'];rw[map_map];rfl
def Oe(bs:List Nat)(s:Nat):Nat:=(members bs.length s).foldl (λa i=>a|||bs.getD i 0) 0
def lK(bs:List Nat):List Nat:=(groups bs.length).map (Oe bs)
theorem ia{f f':Nat->Nat}:∀{l:List Nat}{a:Nat},(∀i∈l,f i=f' i)->l.foldl (λa i=>a|||f i) a=l.foldl (λa i=>a|||f' i) a
 |[],_,_=>rfl
 |x::r,a,h=>by
  rw[foldl_cons,foldl_cons,h x mem_cons_self];exact ia λi hi=>h i (mem_cons_of_mem _ hi)
theorem getD_snoc{bs:List Nat}{b i:Nat}(h:i<bs.length):(bs++[b]).getD i 0=bs.getD i 0:=by
 rw[getD_eq_getElem?_getD,getD_eq_getElem?_getD,getElem?_append_left h]
theorem bM{n s i:Nat}:i∈members n s↔i<n/\has s i=true:=by
 unfold members;rw[mem_filter,mem_range]
theorem Lk(bs:List Nat)(b:Nat):lK (bs++[b])=lK bs++(lK bs).map λg=>g|||b:=by
 unfold lK;rw[length_append,length_singleton,i4,map_append,map_map,map_map];congr 1
 ·apply map_congr_left;intro s hs;have h:=aP.mp hs;unfold Oe;rw[length_append,length_singleton,sy h];exact ia λi hi=>getD_snoc (bM.mp hi).1
 ·apply map_congr_left;intro s hs;have h:=aP.mp hs;show Oe (bs++[b]) (s+2^bs.length)=Oe bs s|||b
  unfold Oe;rw[length_append,length_singleton,pU h,foldl_append];show _|||(bs++[b]).getD bs.length 0=_
  rw[show(bs++[b]).getD bs.length 0=b by rw[getD_eq_getElem?_getD,getElem?_append_right (le_refl _),sub_self];rfl];congr 1;exact ia λi hi=>getD_snoc (bM.mp hi).1
theorem C3(l:List Nat)(s:Nat):through l s=(members l.length s).foldl (λa i=>a|||2^(l.getD i 0)) 0:=by
 unfold through members;congr 1;funext a i;exact kh _ _
theorem jm{f:Nat->Nat}{k:Nat}:∀{l:List Nat}{a:Nat},(l.foldl (λa i=>a|||f i) a).testBit k=(a.testBit k||l.any λi=>(f i).testBit k)
 |[],a=>by simp
 |x::r,a=>by
  rw[foldl_cons,jm,testBit_or,any_cons,Bool.or_assoc]
theorem yU{f:Nat->Nat}{n:Nat}:∀{l:List Nat}{a:Nat},a<2^n->(∀i∈l,f i<2^n)->l.foldl (λa i=>a|||f i) a<2^n
 |[],a,h,_=>h
 |x::r,a,h,hl=>by
  rw[foldl_cons];exact yU (Nat.or_lt_two_pow h (hl x mem_cons_self)) λi hi=>hl i (mem_cons_of_mem _ hi)
theorem PH{l:List Nat}{n i:Nat}(h:∀x∈l,x<n)(hi:i<l.length):l.getD i 0<n:=by
 rw[getD_eq_getElem?_getD,getElem?_eq_getElem hi];exact h _ (List.getElem_mem hi)
theorem DP{g:Game}{l:List Nat}:(lK (l.map λr=>2^r)).map g.cost=(renamed g l).costs:=by
 show _=(groups l.length).map λs=>g.cost (through l s);unfold lK;rw[length_map,map_map];apply map_congr_left;intro s hs;show g.cost (Oe _ s)=_;congr 1;rw[C3];unfold Oe;rw[length_map];apply ia;intro i hi;have:=(bM.mp hi).1;rw[getD_eq_getElem?_getD,getElem?_map,getElem?_eq_getElem this,getD_eq_getElem?_getD,getElem?_eq_getElem this];rfl
theorem RT{bs:List Nat}{n s:Nat}(h:∀x∈bs,x<2^n):Oe bs s<2^n:=by
 unfold Oe;refine yU (two_pow_pos n) λi hi=>?_;exact PH h (bM.mp hi).1
def jq(m i:Nat):Nat:=if has m i=true then m else 2^i
def gQ(n m:Nat):List Nat:=(List.range n).filter λi=>i==(members n m).headD 0|| !(has m i)
theorem FP{g:Game}{m:Nat}(hm:m<2^g.n)(m0:m≠0):(lK ((gQ g.n m).map (jq m))).map g.cost=(merged g m).costs:=by
 show _=(groups (gQ g.n m).length).map λs=>g.cost (if has (through (gQ g.n m) s) ((members g.n m).headD 0)=true then through (gQ g.n m) s|||m else through (gQ g.n m) s);have fne:members g.n m≠[]:=λe=>by
  obtain⟨i,hi⟩:=Nat.exists_testBit_of_ne_zero m0;have hin:i<g.n:=by
   rcases lt_or_ge i g.n with q|q
   ·exact q
   ·have:has m i=false:=fQ hm q;rw[show has m i=true from hi]at this;cases this
  have:i∈members g.n m:=bM.mpr ⟨hin,hi⟩;rw[e]at this;simp at this
 obtain⟨f,r,ef⟩:=exists_cons_of_ne_nil fne;have ef':(members g.n m).headD 0=f:=by rw[ef];rfl
 have hf:has m f=true:=(bM.mp (show f∈members g.n m by rw[ef];exact mem_cons_self)).2;unfold lK;rw[length_map,map_map];apply map_congr_left;intro s hs;show g.cost (Oe _ s)=_;congr 1;rw[ef',C3];unfold Oe;rw[length_map];have hreg:∀i,i<(gQ g.n m).length->(gQ g.n m).getD i 0=f\/has m ((gQ g.n m).getD i 0)=false:=λi hi=>by
  have q:(gQ g.n m).getD i 0∈gQ g.n m:=by
   rw[getD_eq_getElem?_getD,getElem?_eq_getElem hi];exact List.getElem_mem hi
  generalize(gQ g.n m).getD i 0=z at q;unfold gQ at q;rw[mem_filter]at q;have q2:=q.2;rw[ef']at q2;simp at q2;exact q2
 apply eq_of_testBit_eq;intro k;have eL:∀i∈members (gQ g.n m).length s,((gQ g.n m).map (jq m)).getD i 0=jq m ((gQ g.n m).getD i 0):=λi hi=>by
  have:=(bM.mp hi).1;rw[getD_eq_getElem?_getD,getElem?_map,getElem?_eq_getElem this,getD_eq_getElem?_getD,getElem?_eq_getElem this];rfl
 rw[ia eL,jm];have hasf:has ((members (gQ g.n m).length s).foldl (λa i=>a|||2^(gQ g.n m).getD i 0) 0) f=(members (gQ g.n m).length s).any λi=>decide ((gQ g.n m).getD i 0=f):=by
  show Nat.testBit _ f=_;rw[jm,zero_testBit,Bool.false_or];congr 1;funext i;rw[testBit_two_pow]
 rw[hasf,zero_testBit,Bool.false_or];cases e:(members (gQ g.n m).length s).any λi=>decide ((gQ g.n m).getD i 0=f)with
 |false=>
  rw[if_neg (by simp),jm,zero_testBit,Bool.false_or,Bool.eq_iff_iff,any_eq_true,any_eq_true];have no:∀i∈members (gQ g.n m).length s,jq m ((gQ g.n m).getD i 0)=2^(gQ g.n m).getD i 0:=λi hi=>by
   rcases hreg i (bM.mp hi).1 with q|q
   ·exfalso;exact any_eq_false.mp e i hi (decide_eq_true q)
   ·unfold jq;rw[if_neg (by rw[q];simp)]
  constructor
  ·rintro⟨i,hi,h⟩;exact⟨i,hi,by rw[<-no i hi];exact h⟩
  ·rintro⟨i,hi,h⟩;exact⟨i,hi,by rw[no i hi];exact h⟩
 |true=>
  rw[if_pos rfl,testBit_or,jm,zero_testBit,Bool.false_or];obtain⟨i0,hi0,q0⟩:=any_eq_true.mp e;have q0:(gQ g.n m).getD i0 0=f:=of_decide_eq_true q0;rw[Bool.eq_iff_iff,or_eq_true,any_eq_true,any_eq_true];constructor
  ·rintro⟨i,hi,h⟩;rcases hreg i (bM.mp hi).1 with q|q
   ·rw[q]at h;unfold jq at h;rw[if_pos hf]at h;exact .inr h
   ·unfold jq at h;rw[if_neg (by rw[q];simp)]at h;exact .inl ⟨i,hi,h⟩
  ·rintro(⟨i,hi,h⟩|h)
   ·rcases hreg i (bM.mp hi).1 with q|q
    ·rw[q,testBit_two_pow]at h;have:f=k:=by simpa using h
     subst this;refine⟨i0,hi0,?_⟩;rw[q0];unfold jq;rw[if_pos hf];exact hf
    ·refine⟨i,hi,?_⟩;unfold jq;rw[if_neg (by rw[q];simp)];exact h
   ·refine⟨i0,hi0,?_⟩;rw[q0];unfold jq;rw[if_pos hf];exact h
end Shm
end
section
namespace Shm
open Vbedah
theorem IG(g:Game)(i:Nat):∀(o:List Nat)(s:Nat),i∉o->val g i s o=0
 |[],s,_=>rfl
 |x::o,s,h=>by
  rw[mV,if_neg (λe=>h (by rw[e];exact mem_cons_self)),IG g i o _ λq=>h (mem_cons_of_mem _ q)]
theorem Gv{f:Nat->Int}{n x:Nat}(v:Int)(hx:x<n)(h0:f x=0):((List.range n).map λi=>if x=i then v else f i).sum=v+((List.range n).map f).sum:=by
 refine Eq.trans (sum_map_congr (g:=λi=>(if x=i then v else 0)+f i) λi _=>?_) (by rw[sum_map_add,Gu n x v hx]);show(if x=i then v else f i)=(if x=i then v else 0)+f i;by_cases e:x=i
 ·subst e;rw[if_pos rfl,if_pos rfl,h0];omega
 ·rw[if_neg e,if_neg e];omega
theorem Lc(g:Game)(n:Nat):∀(o:List Nat)(s:Nat),o.Nodup->(∀x∈o,x<n/\has s x=false)->((List.range n).map λi=>val g i s o).sum=g.cost (o.foldl with_ s)-g.cost s
 |[],s,_,_=>by
  show((List.range n).map λi=>(0:Int)).sum=_;rw[jB];simp
 |x::o,s,nd,h=>by
  obtain⟨hx,nd'⟩:=nodup_cons.mp nd;obtain⟨xn,hs⟩:=h x mem_cons_self;have e:((List.range n).map λi=>val g i s (x::o))=(List.range n).map λi=>if x=i then adds g x s else val g i (with_ s x) o:=map_congr_left λi _=>mV g i s x o
  rw[e,Gv _ xn (IG g x o _ hx),Lc g n o (with_ s x) nd' λy hy=>⟨(h y (mem_cons_of_mem _ hy)).1,by
   rw[fR,(h y (mem_cons_of_mem _ hy)).2,Bool.false_or]
   exact decide_eq_false λq=>hx (q▸hy)⟩,pG g hs,foldl_cons]
  omega
theorem zj:∀(k:Nat)(l o:List Nat),l.Nodup->l.length=k->o∈orders k l->o.Perm l
 |0,l,o,_,h,ho=>by
  have:l=[]:=List.eq_nil_of_length_eq_zero h;subst this;have:o=[]:=by simpa[orders]using ho
  rw[this]
 |k+1,l,o,nd,h,ho=>by
  unfold orders at ho;have hne:¬l.isEmpty=true:=by cases l with|nil=>simp at h|cons _ _=>simp
  rw[if_neg hne,List.mem_flatMap]at ho;obtain⟨x,hx,ho⟩:=ho;obtain⟨r,hr,rfl⟩:=mem_map.mp ho;have ih:=zj k (l.filter λy=>y !=x) r (nd.filter _) (by have:=iW nd hx;omega) hr;have p1:(x::(l.filter λy=>y !=x)).Perm l:=by
   have e:(l.filter λy=>y !=x)=l.erase x:=by
    rw[nd.erase_eq_filter]
   rw[e];exact(List.perm_cons_erase hx).symm
  exact(List.Perm.cons x ih).trans p1
theorem mf(j:Nat):∀(o:List Nat)(s:Nat),has (o.foldl with_ s) j=(has s j||decide (j∈o))
 |[],s=>by simp
 |x::o,s=>by
  rw[foldl_cons,mf j o,fR,Bool.or_assoc];congr 1;by_cases e:x=j
  ·subst e;simp
  ·have:¬j=x:=λq=>e q.symm;simp[e,this]
theorem BY{n:Nat}{o:List Nat}(p:o.Perm (List.range n)):o.foldl with_ 0=2^n-1:=by
 apply eq_of_testBit_eq;intro j;have:=mf j o 0;rw[oM,Bool.false_or]at this;rw[show(o.foldl with_ 0).testBit j=_ from this,Nat.testBit_two_pow_sub_one];have:j∈o↔j<n:=by rw[p.mem_iff,mem_range]
 simp[this]
theorem Ik(g:Game){i:Nat}(hi:i<g.n):aC g i=((orders g.n (List.range g.n)).map λo=>val g i 0 o).sum:=by
 obtain⟨k,hk⟩:∃k,g.n=k+1:=⟨g.n-1,by omega⟩
 unfold aC;have q:=rq i g.n λj u=>((fact j*fact (g.n-1-j):Nat):Int)*adds g i u;have e:TT g i g.n 0 (List.range g.n)=((orders g.n (List.range g.n)).map λo=>val g i 0 o).sum:=rfl;rw[<-q,<-e,hk,QS g i k _ 0 (nodup_range _) (by simp) (by rw[<-hk];exact mem_range.mpr hi)];rfl
theorem EN{α β:Type}(f:α->β->Int)(m:List β):∀l:List α,(l.map λx=>(m.map λy=>f x y).sum).sum=(m.map λy=>(l.map λx=>f x y).sum).sum
 |[]=>by simp[jB]
 |x::l=>by
  rw[map_cons,sum_cons,EN f m l,<-sum_map_add];apply sum_map_congr;intro y _;rw[map_cons,sum_cons]
theorem JP(g:Game):((List.range g.n).map λi=>aC g i).sum=(fact g.n:Int)*(g.cost g.all-g.cost 0):=by
 have e:((List.range g.n).map λi=>aC g i)=(List.range g.n).map λi=>((orders g.n (List.range g.n)).map λo=>val g i 0 o).sum:=map_congr_left λi hi=>Ik g (mem_range.mp hi);rw[e,EN];have e2:((orders g.n (List.range g.n)).map λo=>((List.range g.n).map λi=>val g i 0 o).sum)=(orders g.n (List.range g.n)).map λ_=>g.cost g.all-g.cost 0:=map_congr_left λo ho=>by
  have p:=zj g.n _ o (nodup_range _) (by simp) ho;rw[Lc g g.n o 0 (p.nodup_iff.mpr (nodup_range _)) λx hx=>⟨mem_range.mp (p.mem_iff.mp hx),oM x⟩,BY p];rfl
 rw[e2,sum_map_const,oy _ _ (nodup_range _) (by simp)]
def dn(S:Int)(N:Nat):Int:=(frac S N).1/((frac S N).2:Int)
def xN(S:Int)(N:Nat):Int:=(frac S N).1%((frac S N).2:Int)*((N:Int)/((frac S N).2:Int))
theorem Hh(S:Int){N:Nat}(hN:0<N):0<(frac S N).2:=by
 unfold frac;exact Nat.div_pos (Nat.le_of_dvd hN (Nat.gcd_dvd_right _ _)) (Nat.gcd_pos_of_pos_right _ hN)
theorem BZ(S:Int){N:Nat}(hN:0<N):∃q:Nat,0<q/\S=(frac S N).1*q/\(N:Int)=(frac S N).2*q/\(N:Int)/((frac S N).2:Int)=q:=by
 refine⟨gcd S.natAbs N,Nat.gcd_pos_of_pos_right _ hN,?_,?_,?_⟩
 ·have:((gcd S.natAbs N:Nat):Int)∣S:=Int.ofNat_dvd_left.mpr (Nat.gcd_dvd_left _ _);exact(Int.ediv_mul_cancel this).symm
 ·have:=Nat.div_mul_cancel (Nat.gcd_dvd_right S.natAbs N);show(N:Int)=((N/gcd S.natAbs N:Nat):Int)*_;rw[<-natCast_mul,this]
 ·show(N:Int)/((N/gcd S.natAbs N:Nat):Int)=_;rw[<-Int.natCast_ediv,Nat.div_div_self (Nat.gcd_dvd_right _ _) (by omega)]
theorem OB(S:Int){N:Nat}(hN:0<N):xN S N=S-(N:Int)*dn S N/\dn S N=S/N:=by
 obtain⟨q,hq,h1,h2,h3⟩:=BZ S hN;have hp:=Hh S hN;have e1:S/(N:Int)=dn S N:=by
  unfold dn;generalize(frac S N).1=a at h1⊢;generalize((frac S N).2:Int)=b at h2⊢;rw[h1,h2];exact Int.mul_ediv_mul_of_pos_left _ _ (by omega)
 refine⟨?_,e1.symm⟩;unfold xN dn;rw[h3];generalize(frac S N).1=a at h1⊢;generalize((frac S N).2:Int)=b at h2⊢;rw[Int.emod_def,h1,h2]
 grind
theorem OQ(S:Int){N:Nat}(hN:0<N):sub (frac S N) (whole (down (frac S N)))=frac (xN S N) N:=by
 rw[mW _ hN,Hi hN,(OB S hN).1];rfl
theorem vE{α:Type}(key:α->Int):∀(a b:List α),a.Pairwise (λx y=>key x<=key y)->b.Pairwise (λx y=>key x<=key y)->(∀c,a.filter (λx=>key x==c)=b.filter (λx=>key x==c))->a=b
 |[],[],_,_,_=>rfl
 |[],y::s,_,_,h=>by
  have:=h (key y);rw[filter_nil,filter_cons,if_pos (by simp)]at this;cases this
 |x::r,[],_,_,h=>by
  have:=h (key x);rw[filter_nil,filter_cons,if_pos (by simp)]at this;cases this
 |x::r,y::s,pa,pb,h=>by
  obtain⟨xa,pr⟩:=pairwise_cons.mp pa;obtain⟨yb,ps⟩:=pairwise_cons.mp pb;have kx:key y<=key x:=by
   have:x∈(y::s).filter (λz=>key z==key x):=by
    rw[<-h];exact mem_filter.mpr ⟨mem_cons_self,by simp⟩
   rcases mem_cons.mp (mem_filter.mp this).1 with q|q
   ·rw[q];exact Int.le_refl _
   ·exact yb x q
  have ky:key x<=key y:=by
   have:y∈(x::r).filter (λz=>key z==key y):=by
    rw[h];exact mem_filter.mpr ⟨mem_cons_self,by simp⟩
   rcases mem_cons.mp (mem_filter.mp this).1 with q|q
   ·rw[q];exact Int.le_refl _
   ·exact xa y q
  have e:key x=key y:=Int.le_antisymm ky kx;have h1:=h (key x);rw[filter_cons,if_pos (by simp),filter_cons,if_pos (by simp[e])]at h1;injection h1 with h2 h3
  subst h2;congr 1;refine vE key r s pr ps λc=>?_;have:=h c;rw[filter_cons,filter_cons]at this
  split at this
  ·injection this
  ·exact this
section
variable(K:Nat×Q->Int)
theorem uD{x z:Nat×Q}:∀{l:List (Nat×Q)},z∈putBy x l↔z=x\/z∈l
 |[]=>by simp[putBy]
 |y::r=>by
  rw[putBy]
  split
  ·simp
  ·rw[mem_cons,uD,mem_cons];constructor
   ·rintro(h|h|h)<;>simp[h]
   ·rintro(h|h|h)<;>simp[h]
theorem xi{x:Nat×Q}:∀{l:List (Nat×Q)},(∀a∈x::l,∀b∈x::l,lt a.2 b.2=decide (K b<K a))->l.Pairwise (λa b=>K a<=K b)->(putBy x l).Pairwise λa b=>K a<=K b
 |[],_,_=>by simp[putBy]
 |y::r,hK,pw=>by
  obtain⟨hy,pr⟩:=pairwise_cons.mp pw;rw[putBy,hK y (by simp) x (by simp)];by_cases q:K x<K y
  ·rw[if_pos (decide_eq_true q),pairwise_cons];refine⟨λz hz=>?_,pw⟩;rcases mem_cons.mp hz with e|e
   ·rw[e];omega
   ·have:=hy z e;omega
  ·rw[if_neg (by simpa using q),pairwise_cons];refine⟨λz hz=>?_,xi (λa ha b hb=>hK a ?_ b ?_) pr⟩
   ·rcases uD.mp hz with e|e
    ·rw[e];omega
    ·exact hy z e
   ·rcases mem_cons.mp ha with e|e<;>simp[e]
   ·rcases mem_cons.mp hb with e|e<;>simp[e]
theorem xh{x:Nat×Q}(c:Int):∀{l:List (Nat×Q)},(∀a∈x::l,∀b∈x::l,lt a.2 b.2=decide (K b<K a))->l.Pairwise (λa b=>K a<=K b)->(putBy x l).filter (λa=>K a==c)=l.filter (λa=>K a==c)++[x].filter (λa=>K a==c)
 |[],_,_=>by simp[putBy]
 |y::r,hK,pw=>by
  obtain⟨hy,pr⟩:=pairwise_cons.mp pw;rw[putBy,hK y (by simp) x (by simp)];by_cases q:K x<K y
  ·rw[if_pos (decide_eq_true q),filter_cons,filter_cons (xs:=[])];by_cases e:K x=c
   ·have z:(y::r).filter (λa=>K a==c)=[]:=by
     rw[filter_eq_nil_iff];intro a ha;have:K y<=K a:=by
      rcases mem_cons.mp ha with e|e
      ·rw[e];omega
      ·exact hy a e
     simp;omega
    rw[z];rfl
   ·rw[if_neg (by simpa using e),if_neg (by simpa using e)];simp
  ·rw[if_neg (by simpa using q),filter_cons,filter_cons (xs:=r),xh c (λa ha b hb=>hK a (by rcases mem_cons.mp ha with e|e<;>simp[e]) b (by rcases mem_cons.mp hb with e|e<;>simp[e])) pr]
   split
   ·rw[cons_append]
   ·rfl
theorem putAll:∀(l acc:List (Nat×Q)),(∀a∈l++acc,∀b∈l++acc,lt a.2 b.2=decide (K b<K a))->acc.Pairwise (λa b=>K a<=K b)->
  (l.foldl (λr y=>putBy y r) acc).Pairwise (λa b=>K a<=K b)/\∀c,(l.foldl (λr y=>putBy y r) acc).filter (λa=>K a==c)=acc.filter (λa=>K a==c)++l.filter (λa=>K a==c)
 |[],acc,_,h=>⟨h,λc=>by simp⟩
 |x::l,acc,hK,h=>by
  have hK1:∀a∈x::acc,∀b∈x::acc,lt a.2 b.2=decide (K b<K a):=λa ha b hb=>hK a (by rcases mem_cons.mp ha with e|e<;>simp[e]) b (by rcases mem_cons.mp hb with e|e<;>simp[e])
  have ih:=putAll l (putBy x acc) (λa ha b hb=>hK a (by
   rcases mem_append.mp ha with e|e
   ·simp[e]
   ·rcases uD.mp e with e|e<;>simp[e]) b (by
   rcases mem_append.mp hb with e|e
   ·simp[e]
   ·rcases uD.mp e with e|e<;>simp[e])) (xi K hK1 h)
  refine⟨ih.1,λc=>?_⟩;rw[foldl_cons,ih.2 c,xh K c hK1 h,append_assoc,<-filter_append];rfl
end
def ups:List Int->List Nat->List Int
 |t,[]=>t
 |t,x::r=>ups (t.set x (t.getD x 0+1)) r
theorem qh:∀(r:List Nat)(t:List Int),(ups t r).length=t.length
 |[],_=>rfl
 |x::r,t=>by rw[ups,qh r,length_set]
theorem ID:∀(r:List Nat)(t:List Int),r.Nodup->(∀x∈r,x<t.length)->∀i,i<t.length->(ups t r).getD i 0=t.getD i 0+(if r.contains i=true then 1 else 0)
 |[],t,_,_,i,_=>by simp[ups]
 |x::r,t,nd,h,i,hi=>by
  obtain⟨hx,nd'⟩:=nodup_cons.mp nd;have xt:=h x mem_cons_self;rw[ups,ID r _ nd' (λy hy=>by rw[length_set];exact h y (mem_cons_of_mem _ hy)) i (by rw[length_set];exact hi)];by_cases e:x=i
  ·subst e;have:r.contains x=false:=by simpa using hx
   rw[this,getD_eq_getElem?_getD,getElem?_set_self xt];simp
  ·rw[getD_eq_getElem?_getD,getElem?_set_ne e,<-getD_eq_getElem?_getD];have:¬i=x:=λq=>e q.symm;congr 1;simp[this]
def bj(g:Game):List Int:=(List.range g.n).map λi=>dn (aC g i) (fact g.n)
theorem Mn(g:Game)(h0:g.cost 0=0):(bj g).sum<=g.cost g.all:=by
 have hN:0<fact g.n:=hZ _;have e:=JP g;rw[h0,Int.sub_zero]at e;have key:∀l:List Nat,(fact g.n:Int)*(l.map λi=>dn (aC g i) (fact g.n)).sum<=(l.map λi=>aC g i).sum:=λl=>by
  induction l with
  |nil=>simp
  |cons x r ih=>
   rw[map_cons,sum_cons,map_cons,sum_cons,Int.mul_add];have:=(OB (aC g x) hN).2;have:(fact g.n:Int)*dn (aC g x) (fact g.n)<=aC g x:=by
    rw[this];exact Int.mul_ediv_self_le (by omega)
   omega
 have:=key (List.range g.n);rw[e]at this;exact Int.le_of_mul_le_mul_left this (by omega)
theorem JL(g:Game)(h0:g.cost 0=0)(ord:List Nat)(hp:ord.Perm (List.range g.n))(hs:ord.Pairwise λa b=> -(xN (aC g a) (fact g.n))<= -(xN (aC g b) (fact g.n)))
  (hst:∀c:Int,ord.filter (λi=> -(xN (aC g i) (fact g.n))==c)=(List.range g.n).filter λi=> -(xN (aC g i) (fact g.n))==c):
  ups (bj g) (ord.take (g.cost g.all-(bj g).sum).toNat)=rounded g:=by
 have hN:0<fact g.n:=hZ _;unfold rounded;rw[Bz,uc];have eb:(((List.range g.n).map λi=>frac (aC g i) (fact g.n)).map down)=bj g:=by rw[map_map];rfl
 show _=(List.range g.n).map λi=>(((List.range g.n).map λi=>frac (aC g i) (fact g.n)).map down).getD i 0+_;rw[eb];have gd:∀(f:Nat->Q)i,i<g.n->((List.range g.n).map f).getD i (0,1)=f i:=λf i hi=>by
  rw[getD_eq_getElem?_getD,getElem?_map,getElem?_range hi];rfl
 have gi:∀i,i<g.n->(bj g).getD i 0=dn (aC g i) (fact g.n):=λi hi=>by
  unfold bj;rw[getD_eq_getElem?_getD,getElem?_map,getElem?_range hi];rfl
 have er:((List.range g.n).map λi=>(i,sub (((List.range g.n).map λi=>frac (aC g i) (fact g.n)).getD i (0,1)) (whole ((bj g).getD i 0))))=(List.range g.n).map λi=>(i,frac (xN (aC g i) (fact g.n)) (fact g.n)):=map_congr_left λi hi=>by
  have hi:=mem_range.mp hi;rw[gd _ i hi,gi i hi,<-OQ _ hN];rfl
 rw[er,jA];have eord:((((List.range g.n).map λi=>(i,frac (xN (aC g i) (fact g.n)) (fact g.n))).foldl (λl y=>putBy y l) []).map λy=>y.1)=ord:=by
  have hm:=putAll (λy=> -(xN (aC g y.1) (fact g.n))) ((List.range g.n).map λi=>(i,frac (xN (aC g i) (fact g.n)) (fact g.n))) [] (λa ha b hb=>by
   rw[append_nil]at ha hb;obtain⟨i,_,rfl⟩:=mem_map.mp ha;obtain⟨j,_,rfl⟩:=mem_map.mp hb;show lt (frac _ _) (frac _ _)=_;rw[wO hN];show decide (xN (aC g i) (fact g.n)<xN (aC g j) (fact g.n))=decide (-(xN (aC g j) (fact g.n))< -(xN (aC g i) (fact g.n)));congr 1;rw[eq_iff_iff]
   constructor<;>intro<;>omega) Pairwise.nil
  obtain⟨hm1,hm2⟩:=hm;generalize((List.range g.n).map λi=>(i,frac (xN (aC g i) (fact g.n)) (fact g.n))).foldl (λl y=>putBy y l) []=L at hm1 hm2⊢;have hF:∀i,(λy:Nat×Q=> -(xN (aC g y.1) (fact g.n))) (i,frac (xN (aC g i) (fact g.n)) (fact g.n))= -(xN (aC g i) (fact g.n)):=λ_=>rfl;generalize hk:(λi=> -(xN (aC g i) (fact g.n)))=key at*;have hk':∀i,-(xN (aC g i) (fact g.n))=key i:=λi=>congrFun hk i;simp only[hk']at hs hst hm1 hm2;refine vE key _ _ ?_ hs λc=>?_
  ·rw[pairwise_map];exact hm1
  ·have q:=hm2 c;rw[filter_nil,nil_append,filter_map]at q;rw[hst c,filter_map];have q2:L.filter ((λx=>key x==c)∘λy=>y.1)=L.filter λa=>key a.1==c:=rfl;rw[q2,q,map_map];refine Eq.trans (map_congr_left (g:=id) λi _=>rfl) ?_;rw[map_id];rfl
 rw[map_take,eord];have nd:ord.Nodup:=hp.nodup_iff.mpr (nodup_range _);have bl:(bj g).length=g.n:=by unfold bj;simp
 apply ext_getElem?;intro i;by_cases hi:i<g.n
 ·rw[getElem?_map,getElem?_range hi];have hlen:(ups (bj g) (ord.take (g.cost g.all-(bj g).sum).toNat)).length=g.n:=by rw[qh,bl]
  have:=ID (ord.take (g.cost g.all-(bj g).sum).toNat) (bj g) (nd.sublist (List.take_sublist _ _)) (λx hx=>by rw[bl];exact mem_range.mp (hp.mem_iff.mp (mem_of_mem_take hx))) i (by omega);rw[getElem?_eq_getElem (by omega)];rw[getD_eq_getElem?_getD,getElem?_eq_getElem (by omega),getD_some]at this;rw[this,map_some]
 ·rw[getElem?_eq_none (by rw[qh,bl];omega),getElem?_eq_none (by simp;omega)]
end Shm
end
section
namespace Shm
open Vbedah
theorem zP:∀a b:Nat,(a^^^b)+(a&&&b)=a|||b:=by
 intro a
 induction a using Nat.strongRecOn with
 |_ a ih=>
  intro b;by_cases a0:a=0
  ·subst a0;simp
  have h:=ih (a/2) (by omega) (b/2);have x1:(a^^^b)/2=a/2^^^b/2:=Nat.xor_div_two;have x2:(a&&&b)/2=a/2&&&b/2:=and_div_two;have x3:(a|||b)/2=a/2|||b/2:=Nat.or_div_two
  have y1:(a^^^b)%2=1↔¬(a%2=1↔b%2=1):=Nat.xor_mod_two_eq_one;have y2:(a&&&b)%2=1↔a%2=1/\b%2=1:=Nat.and_mod_two_eq_one;have y3:(a|||b)%2=1↔a%2=1\/b%2=1:=Nat.or_mod_two_eq_one;rw[<-x1,<-x2,<-x3]at h;generalize a^^^b=X at*;generalize a&&&b=Y at*;generalize a|||b=Z at*
  rcases mod_two_eq_zero_or_one a with u|u<;>rcases mod_two_eq_zero_or_one b with v|v<;>simp[u,v]at y1 y2 y3<;>omega
theorem Ph(s i:Nat):(s&&&2^i≠0)↔has s i=true:=by
 constructor
 ·intro h;obtain⟨j,hj⟩:=Nat.exists_testBit_of_ne_zero h;rw[testBit_and,testBit_two_pow]at hj;have:s.testBit j=true/\i=j:=by simpa using hj
  rw[this.2];exact this.1
 ·intro h e;have:(s&&&2^i).testBit i=true:=by rw[testBit_and,testBit_two_pow_self,Bool.and_true];exact h
  rw[e,zero_testBit]at this;cases this
theorem Jd(n s:Nat):count (n+1) s=s%2+count n (s/2):=by
 unfold count members;rw[range_succ_eq_map,filter_cons,filter_map];have e:((λi=>has s i)∘Nat.succ)=λi=>has (s/2) i:=by
  funext i;show s.testBit (i+1)=(s/2).testBit i;rw[Nat.testBit_succ]
 rw[e];have h0:has s 0=decide (s%2=1):=by
  show s.testBit 0=_;rw[Nat.testBit_zero]
 rw[h0];by_cases q:s%2=1
 ·rw[if_pos (decide_eq_true q),length_cons,length_map];omega
 ·rw[if_neg (by simpa using q),length_map];omega
theorem BC(n:Nat):count n 0=0:=by
 unfold count members;rw[filter_eq_nil_iff.mpr]
 ·rfl
 ·intro i _;rw[oM];simp
end Shm
end
section
namespace Shm
open Vbedah
theorem C7(g:Game)(j x:Nat):∀(o:List Nat)(s:Nat),x∉o->val g j s (o++[x])=if x=j then adds g x (o.foldl with_ s)else val g j s o
 |[],s,_=>by
  rw[nil_append,mV];rfl
 |y::o,s,h=>by
  have hy:x≠y:=λe=>h (by rw[e];exact mem_cons_self);have ho:x∉o:=λq=>h (mem_cons_of_mem _ q);rw[cons_append,mV,C7 g j x o _ ho,mV,foldl_cons];by_cases e:y=j
  ·subst e;rw[if_pos rfl,if_neg hy,if_pos rfl]
  ·rw[if_neg e,if_neg e]
theorem vn{α:Type}{f f':Nat->α}{n x:Nat}{v:α}(hv:f' x=v)(h:∀j,j<n->j≠x->f' j=f j):((List.range n).map f).set x v=(List.range n).map f':=by
 apply ext_getElem?;intro j;by_cases e:j=x
 ·subst e;by_cases q:j<n
  ·rw[getElem?_set_self (by simpa using q),getElem?_map,getElem?_range q,<-hv];rfl
  ·rw[getElem?_eq_none (by simp;omega),getElem?_eq_none (by simp;omega)]
 ·rw[getElem?_set_ne (Ne.symm e),getElem?_map,getElem?_map];by_cases q:j<n
  ·rw[getElem?_range q];exact congrArg some (h j q e).symm
  ·rw[getElem?_eq_none (by simp;omega)];rfl
theorem OR{α:Type}(F:α->Int){l:List α}{k:Nat}{x:α}(h:l[k]?=some x):((l.take (k+1)).map F).sum=((l.take k).map F).sum+F x:=by
 have hk:k<l.length:=(List.getElem?_eq_some_iff.mp h).1;rw[List.take_add_one,h,map_append,sum_append];simp
theorem DU(g:Game)(i:Nat):aC g i=((outs g.n i).map λu=>((fact (count g.n u)*fact (g.n-1-count g.n u):Nat):Int)*adds g i u).sum:=by
 unfold aC outs;rw[sum_filter];apply sum_map_congr;intro u _;cases has u i<;>rfl
theorem sP{n i k s:Nat}(h:(outs n i)[k]?=some s):s<2^n/\has s i=false:=kC.mp (mem_of_getElem? h)
theorem JF(n i:Nat):(outs n i).Nodup:=by
 unfold outs groups;exact List.nodup_range.sublist List.filter_sublist
theorem jt{α:Type}{l:List α}(nd:l.Nodup){k:Nat}{x:α}(h:l[k]?=some x):x∉l.take k:=λhx=>by
 obtain⟨j,hj⟩:=List.mem_iff_getElem?.mp hx;rw[List.getElem?_take]at hj
 split at hj
 ·rename_i q;have h1:=(List.getElem?_eq_some_iff.mp hj)
  have h2:=(List.getElem?_eq_some_iff.mp h)
  have:=(List.getElem_inj nd).mp (h1.2.trans h2.2.symm);omega
 ·cases hj
def uQ(c:Nat->Int)(r:Nat)(done:List Nat)(s:Nat):Int:=if has s r=true/\s-2^r∈done then Dv c (r+1) s else Dv c r s
theorem Nl(c:Nat->Int)(r s:Nat):uQ c r [] s=Dv c r s:=by unfold uQ;rw[if_neg (by simp)]
theorem Nj(c:Nat->Int){n r s:Nat}(hs:s<2^n):uQ c r (outs n r) s=Dv c (r+1) s:=by
 unfold uQ;cases e:has s r with
 |true=>
  rw[if_pos ⟨rfl,kC.mpr ⟨lt_of_le_of_lt (Nat.sub_le _ _) hs,by rw[<-fD e];exact nE⟩⟩]
 |false=>rw[if_neg (by simp),Dv,if_neg (by rw[e];simp)]
theorem Nk(c:Nat->Int){r s:Nat}{done:List Nat}(h:has s r=false):uQ c r done s=Dv c r s:=by unfold uQ;rw[if_neg (by rw[h];simp)]
theorem Lv(c:Nat->Int){r u:Nat}{done:List Nat}(hu:has u r=false)(hn:u∉done):(uQ c r (done++[u]) (u+2^r)=uQ c r done (u+2^r)-uQ c r done u)/\∀s,s≠u+2^r->uQ c r (done++[u]) s=uQ c r done s:=by
 have hw:has (u+2^r) r=true:=by
  have:=jC hu;rw[<-this,fR];simp
 constructor
 ·rw[Nk c hu];unfold uQ;rw[if_pos ⟨hw,by simp⟩,if_neg (by rw[add_sub_cancel];exactλq=>hn q.2),Dv,if_pos hw,add_sub_cancel]
 ·intro s hs;unfold uQ;by_cases q:has s r=true
  ·have hge:2^r<=s:=Nat.ge_two_pow_of_testBit q;have:s-2^r≠u:=λe=>hs (by omega);simp[this]
  ·simp[q]
theorem Fp(g:Game):(groups g.n).map (dividend g)=(groups g.n).map (Dv g.cost g.n):=map_congr_left λs hs=>G9 g (aP.mp hs)
theorem wZ(F:Nat->Int)(s k:Nat):(((List.range (k+1)).filter λi=>has s i).map F).sum=(((List.range k).filter λi=>has s i).map F).sum+(if has s k=true then F k else 0):=by
 rw[range_succ,filter_append,map_append,sum_append];congr 1;rw[filter_cons];cases has s k<;>simp
theorem uK(n:Nat)(c:Nat->Int):∀k,((List.range k).foldl (jN n c) []).length=k
 |0=>rfl
 |k+1=>by rw[range_succ,foldl_append];show(_++[_]).length=_;rw[length_append,uK n c k];rfl
theorem Mu(n:Nat)(c:Nat->Int):(List.range 1).foldl (jN n c) []=[0]:=by
 show jN n c [] 0=[0]
 unfold jN;rw[BC];simp
end Shm
end
section
namespace Shm
open Vbedah
def gg(c:Nat->Int)(k:Nat):List Int:=(List.range (2^k)).map λs=>sm c k (tb s)
theorem qf(c:Nat->Int)(k:Nat):(gg c k).length=2^k:=by unfold gg;simp
theorem EO{c:Nat->Int}{k s:Nat}(h:s<2^k):(gg c k)[s]?=some (sm c k (tb s)):=by
 unfold gg;rw[getElem?_map,getElem?_range h];rfl
theorem Mc(k:Nat):List.range (2^(k+1))=List.range (2^k)++(List.range (2^k)).map λs=>2^k+s:=by
 rw[pow_succ,Nat.mul_two,List.range_add]
theorem JW(c:Nat->Int)(k:Nat):gg c (k+1)=gg c k++(gg c k).map λt=>t+c k:=by
 unfold gg;rw[Mc,map_append,map_map,map_map];congr 1
 ·refine map_congr_left λs hs=>?_;have hs:=mem_range.mp hs;rw[sm,if_neg (by unfold tb;rw[testBit_lt_two_pow hs];simp),Int.add_zero]
 ·refine map_congr_left λs hs=>?_;have hs:=mem_range.mp hs;show sm c (k+1) (tb (2^k+s))=sm c k (tb s)+c k;rw[sm,if_pos (by unfold tb;rw[Nat.testBit_two_pow_add_eq,testBit_lt_two_pow hs];rfl)];congr 1;refine pd (λi hi=>?_) λ_ _=>rfl;unfold tb;exact Nat.testBit_two_pow_add_gt hi s
theorem Iu{c c':Nat->Int}{k:Nat}(h:∀i,i<k->c i=c' i):gg c k=gg c' k:=by
 unfold gg;exact map_congr_left λs _=>pd (λ_ _=>rfl) h
noncomputable def mst (c:Nat->Int) (m s:Nat):Nat:=Classical.choose (nH c m (tb s))
theorem w4(c:Nat->Int)(m s:Nat):lr c m (tb s) (mst c m s):=Classical.choose_spec (nH c m (tb s))
theorem FQ{c:Nat->Int}{m s j:Nat}(h:lr c m (tb s) j):mst c m s=j:=(w4 c m s).eq h
theorem NY(c:Nat->Int)(m:Nat):mst c m 0=0:=FQ (lr.none λi _=>by unfold tb;simp)
theorem Kp{c:Nat->Int}{m l g:Nat}:IV c m l g↔sm c m (tb g)=0/\mst c m (l^^^g)+1=mst c m l:=by
 unfold IV;constructor
 ·rintro⟨z,k,a,b⟩;exact⟨z,by rw[FQ a,FQ b]⟩
 ·rintro⟨z,e⟩;exact⟨z,_,w4 _ _ _,by rw[e];exact w4 _ _ _⟩
theorem NX{c:Nat->Int}{m s b:Nat}(h1:∃h,h<m/\s.testBit h=true/\mst c m (s^^^2^h)=b)(h2:∀h,h<m->s.testBit h=true->mst c m (s^^^2^h)<=b):mst c m s=if sm c m (tb s)=0 then b+1 else b:=by
 refine FQ (lr.step (f:=λh=>mst c m (s^^^2^h)) (λh hm hs=>?_) h1 h2);rw[<-J2 hs];exact w4 _ _ _
theorem IM{s h:Nat}(hs:s.testBit h=true):s^^^2^h<s:=by
 have e1:(s^^^2^h)&&&s=s^^^2^h:=by
  apply eq_of_testBit_eq;intro i;rw[testBit_and,testBit_xor];by_cases q:h=i
  ·subst q;rw[hs,testBit_two_pow_self];rfl
  ·rw[Nat.testBit_two_pow_of_ne q];simp
 have e2:s^^^2^h<=s:=by rw[<-e1];exact and_le_right
 have e3:s^^^2^h≠s:=λe=>by
  have:(s^^^2^h).testBit h=false:=by rw[testBit_xor,hs,testBit_two_pow_self];rfl
  rw[e,hs]at this;cases this
 omega
theorem yL(s h:Nat):(s&&&2^h≠0)↔s.testBit h=true:=by
 constructor
 ·intro e;cases q:s.testBit h with
  |true=>rfl
  |false=>
   exfalso;apply e;apply eq_of_testBit_eq;intro i;rw[testBit_and,zero_testBit];by_cases r:h=i
   ·subst r;rw[q];rfl
   ·rw[Nat.testBit_two_pow_of_ne r];simp
 ·intro q e;have:(s&&&2^h).testBit h=true:=by rw[testBit_and,q,testBit_two_pow_self];rfl
  rw[e]at this;simp at this
theorem vo{b:List Int}{hs:List Nat}(nd:hs.Nodup):∀(k l:Nat),l<2^hs.length->sm (cw b hs) hs.length (tb l)=0->(pick hs l).length<=k->∀G∈parted b k (pick hs l),∀j,0<j->j<G.length->groupSum b (G.take j)≠0
 |0,l,_,_,_,G,hG=>by rw[parted]at hG;cases hG
 |k+1,l,hl,z,hk,G,hG=>by
  by_cases l0:l=0
  ·subst l0;rw[j5,parted]at hG;cases hG
  ·obtain⟨g,f⟩:=r9 hl z l0;obtain⟨e,z',hk',hl'⟩:=nQ nd hl z hk f;rw[e]at hG;rcases mem_cons.mp hG with rfl|hG
   ·intro j h0 h1;exact FG hl f h0 h1
   ·exact vo nd k _ hl' z' hk' G hG
theorem CG{b:List Int}{hs:List Nat}(nd:hs.Nodup):∀(k l:Nat),l<2^hs.length->sm (cw b hs) hs.length (tb l)=0->(pick hs l).length<=k->∀G∈parted b k (pick hs l),∀x∈G,x∈hs
 |0,l,_,_,_,G,hG=>by rw[parted]at hG;cases hG
 |k+1,l,hl,z,hk,G,hG=>by
  by_cases l0:l=0
  ·subst l0;rw[j5,parted]at hG;cases hG
  ·obtain⟨g,f⟩:=r9 hl z l0;obtain⟨e,z',hk',hl'⟩:=nQ nd hl z hk f;rw[e]at hG;rcases mem_cons.mp hG with rfl|hG
   ·exactλx hx=>sv hx
   ·exact CG nd k _ hl' z' hk' G hG
end Shm
end
section
namespace Shm
open Vbedah
theorem CI:∀(hs:List Nat)(g:Nat),pick hs g=((List.range hs.length).filter λi=>g.testBit (hs.length-(i+1))).map λi=>hs.getD i 0
 |[],g=>rfl
 |x::r,g=>by
  rw[length_cons,range_succ_eq_map,filter_cons];have e:((List.map Nat.succ (List.range r.length)).filter λi=>g.testBit (r.length+1-(i+1))).map (λi=>(x::r).getD i 0)=pick r g:=by
   rw[CI r g,filter_map,map_map];have e2:((λi=>g.testBit (r.length+1-(i+1)))∘Nat.succ)=λi=>g.testBit (r.length-(i+1)):=by
    funext i;show g.testBit (r.length+1-(i+1+1))=_;congr 1;omega
   rw[e2];rfl
  show pick (x::r) g=List.map _ (if g.testBit (r.length+1-(0+1))=true then _ else _);rw[show r.length+1-(0+1)=r.length by omega,pick]
  split
  ·rw[map_cons,e];rfl
  ·rw[e]
theorem sS:∀(hs:List Nat)(g:Nat),(pick hs g).length<=hs.length
 |[],_=>by simp[pick]
 |x::r,g=>by
  have:=sS r g;rw[pick]
  split
  ·rw[length_cons,length_cons];omega
  ·rw[length_cons];omega
theorem O1{l g:Nat}(h:g&&&l=g)(g0:g≠0):l^^^g<l:=by
 have s:=jz.mp h;have e1:(l^^^g)&&&l=l^^^g:=by
  apply eq_of_testBit_eq;intro i;rw[testBit_and,testBit_xor];cases hl:l.testBit i with
  |true=>simp
  |false=>
   cases hg:g.testBit i with
   |false=>rfl
   |true=>rw[s i hg]at hl;cases hl
 have e2:l^^^g<=l:=by rw[<-e1];exact and_le_right
 have e3:l^^^g≠l:=λe=>by
  apply g0;have:l^^^(l^^^g)=l^^^l:=by rw[e]
  rw[<-Nat.xor_assoc,Nat.xor_self,Nat.zero_xor]at this;exact this
 omega
theorem CF{b:List Int}{hs:List Nat}(nd:hs.Nodup):∀(k l:Nat),l<2^hs.length->sm (cw b hs) hs.length (tb l)=0->(pick hs l).length<=k->(parted b k (pick hs l)).length<=k/\∀G∈parted b k (pick hs l),G.length<=hs.length
 |0,l,_,_,_=>by rw[parted];exact⟨le_refl _,λG hG=>by cases hG⟩
 |k+1,l,hl,z,hk=>by
  by_cases l0:l=0
  ·subst l0;rw[j5,parted];exact⟨zero_le _,λG hG=>by cases hG⟩
  ·obtain⟨g,f⟩:=r9 hl z l0;obtain⟨e,z',hk',hl'⟩:=nQ nd hl z hk f;obtain⟨i1,i2⟩:=CF nd k _ hl' z' hk';rw[e];refine⟨by rw[length_cons];omega,λG hG=>?_⟩;rcases mem_cons.mp hG with rfl|hG
   ·exact sS _ _
   ·exact i2 G hG
theorem kD{d:Debts}(h:eU d):(partsOf d).length<=10/\(∀G∈partsOf d,G.length<=10/\∀x∈G,x<10)/\(∀G∈partsOf d,∀j,0<j->j<G.length->groupSum (balances d) (G.take j)≠0):=by
 have nd:=zm (balances d);have e:partsOf d=parted (balances d) 10 (pick (owing (balances d)) (2^(owing (balances d)).length-1)):=by rw[mz];rfl
 have p0:0<2^(owing (balances d)).length:=pos_of_ne_zero (by simp);have hl:2^(owing (balances d)).length-1<2^(owing (balances d)).length:=by omega
 have z:sm (cw (balances d) (owing (balances d))) (owing (balances d)).length (tb (2^(owing (balances d)).length-1))=0:=by
  rw[<-iK,mz];exact EA h
 have hk:(pick (owing (balances d)) (2^(owing (balances d)).length-1)).length<=10:=by rw[mz];exact pW _
 obtain⟨a1,a2⟩:=CF nd 10 _ hl z hk;rw[e];refine⟨a1,λG hG=>⟨le_trans (a2 G hG) (pW _),λx hx=>?_⟩,vo nd 10 _ hl z hk⟩;have:=CG nd 10 _ hl z hk G hG x hx;unfold owing at this;exact mem_range.mp (mem_filter.mp this).1
theorem zL{d:Debts}(h:eU d):(transfers d).map (λx=>(x.1,x.2.1,(x.2.2:Int)))=(partsOf d).flatMap (fJ (balances d) 0):=by
 obtain⟨_,_,f⟩:=kD h;unfold transfers;show((partsOf d).flatMap (chain (balances d) 0)).map _=_;generalize partsOf d=gs at f
 induction gs with
 |nil=>rfl
 |cons G gs ih=>
  rw[flatMap_cons,flatMap_cons,map_append,ih λG' hG'=>f G' (mem_cons_of_mem _ hG'),Kd];intro j h0 h1;rw[zero_add];exact f G mem_cons_self j h0 h1
end Shm
end
section
namespace Shm
open Vbedah
theorem kd{l:List Int}(h:∀x∈l,0<=x):(l.map toNat).Nodup↔l.Nodup:=by
 induction l with
 |nil=>simp
 |cons x r ih=>
  have h0:=h x mem_cons_self;rw[map_cons,nodup_cons,nodup_cons,ih λy hy=>h y (mem_cons_of_mem _ hy)];constructor
  ·rintro⟨a,b⟩;exact⟨λhx=>a (mem_map_of_mem hx),b⟩
  ·rintro⟨a,b⟩;refine⟨λhx=>a ?_,b⟩;obtain⟨y,hy,e⟩:=mem_map.mp hx;have:=h y (mem_cons_of_mem _ hy);have e:y=x:=by omega
   rw[<-e];exact hy
theorem wq{l:List Int}(h:∀x∈l,0<=x):(l.map toNat).map ofNat=l:=by
 rw[map_map]
 conv=>rhs;rw[<-map_id l]
 refine map_congr_left λx hx=>?_;have:=h x hx;show((x.toNat:Nat):Int)=x;omega
theorem lI{l:List Int}{lo hi:Int}:(l.all λx=>within x lo hi)=true↔∀x∈l,lo<=x/\x<=hi:=by
 rw[all_eq_true];unfold within;simp
theorem OC:∀(l:List Int)(a:Int),l.Pairwise (λx y=>x<y)->(∀x∈l,a<=x/\x<a+l.length)->l=(List.range l.length).map λ(i:Nat)=>a+(i:Int)
 |[],a,_,_=>rfl
 |x::r,a,hp,h=>by
  have hx:=h x mem_cons_self;have hr:=pairwise_cons.mp hp;have ih:=OC r (a+1) hr.2 λy hy=>by
   have h1:=hr.1 y hy;have h2:=h y (mem_cons_of_mem _ hy);rw[length_cons]at h2;constructor
   ·omega
   ·have:=h2.2;omega
  have ex:x=a:=by
   cases r with
   |nil=>rw[length_cons,length_nil]at hx;omega
   |cons y r'=>
    have e:(y::r').head?=some (a+1+((0:Nat):Int)):=by rw[ih,length_cons,range_succ_eq_map];rfl
    have e:y=a+1+((0:Nat):Int):=Option.some.inj e;have:=hr.1 y mem_cons_self;omega
  rw[length_cons,range_succ_eq_map,map_cons,map_map,ex];congr 1
  ·simp
  ·conv=>lhs;rw[ih]
   refine map_congr_left λi _=>?_;show a+1+(i:Int)=a+((i+1:Nat):Int)
   omega
theorem L7{n:Nat}(h1:1<=n){row srt:List Int}(hp:srt.Perm row)(hs:srt.Pairwise (·<=·)):srt=(List.range n).map (λ(i:Nat)=>(i:Int))↔(regionsOf n row=some (row.map toNat)/\row.length=n):=by
 unfold regionsOf;constructor
 ·intro e;have len:row.length=n:=by rw[<-hp.length_eq,e];simp
  have mem:∀x∈row,0<=x/\x<=ofNat n-1:=λx hx=>by
   have:=hp.symm.mem_iff.mp hx;rw[e]at this;obtain⟨i,hi,rfl⟩:=mem_map.mp this;have:=mem_range.mp hi;show 0<=(i:Int)/\(i:Int)<=(n:Int)-1;omega
  have nd:row.Nodup:=by
   refine hp.nodup_iff.mp ?_;rw[e];unfold Nodup;rw[pairwise_map];exact Pairwise.imp (S:=λ(a b:Nat)=>((a:Int)≠(b:Int))) (λ{a b}(hab:a≠b)(e:(a:Int)=(b:Int))=>hab (by omega)) List.nodup_range
  refine⟨if_pos ⟨?_,lI.mpr mem,(iz _).mpr ((kd λx hx=>(mem x hx).1).mpr nd)⟩,len⟩;cases row with
  |nil=>rw[length_nil]at len;omega
  |cons _ _=>rfl
 ·rintro⟨e,len⟩
  split at e
  ·rename_i c;obtain⟨_,c2,c3⟩:=c;have mem:=lI.mp c2;have nd:row.Nodup:=(kd λx hx=>(mem x hx).1).mp ((iz _).mp c3);have nds:srt.Nodup:=hp.nodup_iff.mpr nd;have slen:srt.length=n:=by rw[hp.length_eq,len]
   have lt:srt.Pairwise λx y=>x<y:=Pairwise.imp (λ{a b}(h:a<=b/\a≠b)=>by omega) (Pairwise.and hs nds);have:=OC srt 0 lt λx hx=>by
    have h3:=mem x (hp.mem_iff.mp hx);have h4:x<=(n:Int)-1:=h3.2;rw[slen];omega
   rw[this,slen];exact map_congr_left λi _=>by omega
  ·cases e
theorem DO(n:Nat)(row:List Int):regionsOf n row=none\/regionsOf n row=some (row.map toNat):=by
 unfold regionsOf
 split
 ·exact .inr rfl
 ·exact .inl rfl
end Shm
end
section
namespace L2
open PySem PySem.Spec PyProof.Rows
abbrev Key:=Sum Int Str
def yZ:Key->Value->Bool
 | .inl k,v=>Value.isInt k v
 | .inr x,v=>Value.isStrOf x v
def T2(w:World):Key->Int
 | .inl k=>hashInt k
 | .inr x=>hashStr w x
theorem fw:∀{k:Key}{v:Value},yZ k v=true->(∃i t,k=Sum.inl i/\v=Value.int i t)\/(∃x t,k=Sum.inr x/\v=Value.str x t)
 | .inl i,v,h=>by
  obtain⟨t,e⟩:=Value.isInt_shape (k:=i) (v:=v) h;exact .inl ⟨i,t,rfl,e⟩
 | .inr x,v,h=>by
  obtain⟨t,e⟩:=Value.isStrOf_shape (x:=x) (v:=v) h;exact .inr ⟨x,t,rfl,e⟩
theorem LK(i:Int)(t:Tok):yZ (.inl i) (.int i t)=true:=by simp[yZ,Value.isInt]
theorem LM(x:Str)(t:Tok):yZ (.inr x) (.str x t)=true:=by simp[yZ,Value.isStrOf]
theorem RF(a b:Int):decide ((Sum.inl a:Key)=Sum.inl b)=(a==b):=by
 by_cases e:a=b
 ·subst e;simp
 ·have h:¬(Sum.inl a:Key)=Sum.inl b:=λq=>e (Sum.inl.inj q);rw[decide_eq_false h];exact(beq_eq_false_iff_ne.mpr e).symm
theorem RI(a b:Str):decide ((Sum.inr a:Key)=Sum.inr b)=decide (a=b):=by
 by_cases e:a=b
 ·subst e;simp
 ·have h:¬(Sum.inr a:Key)=Sum.inr b:=λq=>e (Sum.inr.inj q);rw[decide_eq_false h,decide_eq_false e]
theorem RG(a:Int)(b:Str):decide ((Sum.inl a:Key)=Sum.inr b)=false:=decide_eq_false (λq=>nomatch q)
theorem RH(a:Str)(b:Int):decide ((Sum.inr a:Key)=Sum.inl b)=false:=decide_eq_false (λq=>nomatch q)
def cR(prog:Program)(w:World):PySem.KeyKind prog w Key where
 is:=yZ
 hash:=T2 w
 inj:=λv a b ha hb=>by
  rcases fw ha with⟨i,t,rfl,rfl⟩|⟨x,t,rfl,rfl⟩
  ·rcases fw hb with⟨j,u,rfl,e⟩|⟨y,u,rfl,e⟩
   ·injection e with e1 _;rw[e1]
   ·exact nomatch e
  ·rcases fw hb with⟨j,u,rfl,e⟩|⟨y,u,rfl,e⟩
   ·exact nomatch e
   ·injection e with e1 _;rw[e1]
 byValue:=λk v h=>by
  rcases fw h with⟨i,t,rfl,rfl⟩|⟨x,t,rfl,rfl⟩<;>rfl
 pyHash:=λhv h=>by
  rcases fw hv with⟨i,t,rfl,rfl⟩|⟨x,t,rfl,rfl⟩
  ·exact wpAny_pyHash_int h
  ·exact wpAny_pyHash_str h
 eqBool:=λhu hv h=>by
  rcases fw hu with⟨i,t,rfl,rfl⟩|⟨x,t,rfl,rfl⟩
  ·rcases fw hv with⟨j,u,rfl,rfl⟩|⟨y,u,rfl,rfl⟩
   ·rw[RF]at h;exact wpAny_eqBool_int h
   ·rw[RG]at h;exact SeqAt.EqAt.int_str i t y u _ _ _ _ h
  ·rcases fw hv with⟨j,u,rfl,rfl⟩|⟨y,u,rfl,rfl⟩
   ·rw[RH]at h;exact SeqAt.EqAt.str_int x t j u _ _ _ _ h
   ·rw[RI]at h;exact wpAny_eqBool_str h
 «strs»:=λk x t v h=>by
  rcases fw h with⟨i,u,rfl,e⟩|⟨y,u,rfl,e⟩
  ·exact nomatch e
  ·injection e with e1 _
   subst e1;cases v<;>rfl
theorem HD(prog:Program)(w:World)(i:Int)(t:Tok):(cR prog w).is (.inl i) (.int i t)=true:=LK i t
theorem HE(prog:Program)(w:World)(x:Str)(t:Tok):(cR prog w).is (.inr x) (.str x t)=true:=LM x t
end L2
namespace L2
open PySem PySem.Spec PyProof.Rows
inductive V where
 |gc|bl (b:Bool)|int (i:Int)|str (x:Str)|GC (b:Array UInt8)|flt (b:UInt64)|ref (a:Addr)|ty (n:String)
 deriving DecidableEq
def RelV:V->Value->Prop
 | .gc,u=>u=Value.none
 | .bl b,u=>u=Value.bool b
 | .int i,u=>∃t,u=Value.int i t
 | .str x,u=>∃t,u=Value.str x t
 | .GC b,u=>∃t,u=Value.bytes b t
 | .flt b,u=>∃t,u=float b t
 | .ref a,u=>u=Value.ref a
 | .ty n,u=>u=Value.type n
abbrev Vals:List V->List Value->Prop:=Paired RelV
theorem Vals.length{xs:List V}{us:List Value}(r:Vals xs us):xs.length=us.length:=Paired.length r
theorem Vals.get:∀{xs:List V}{us:List Value}{i:Nat}{x:V},Vals xs us->xs[i]?=some x->∃u,us[i]?=some u/\RelV x u
 |_,_,_,_,.nil,e=>by simp at e
 |_,_,0,_,.cons r _,e=>by simp at e;subst e;exact⟨_,rfl,r⟩
 |_,_,i+1,x,.cons _ t,e=>by
  obtain⟨u,h1,h2⟩:=Vals.get (i:=i) (x:=x) t (by simpa using e);exact⟨u,by simpa using h1,h2⟩
theorem Vals.set{x:V}{u:Value}(r:RelV x u):∀{xs:List V}{us:List Value}(i:Nat),Vals xs us->Vals (xs.set i x) (us.set i u)
 |_,_,_,.nil=> .nil
 |_,_,0,.cons _ t=> .cons r t
 |_,_,i+1,.cons q t=> .cons q (Vals.set r i t)
theorem Vals.append:∀{xs ys:List V}{us ws:List Value},Vals xs us->Vals ys ws->Vals (xs++ys) (us++ws)
 |_,_,_,_,.nil,s=>s
 |_,_,_,_,.cons r t,s=> .cons r (Vals.append t s)
theorem Vals.take:∀{xs:List V}{us:List Value}(n:Nat),Vals xs us->Vals (xs.take n) (us.take n)
 |_,_,0,_=> .nil
 |_,_,_+1,.nil=> .nil
 |_,_,n+1,.cons r t=> .cons r (Vals.take n t)
theorem Vals.drop:∀{xs:List V}{us:List Value}(n:Nat),Vals xs us->Vals (xs.drop n) (us.drop n)
 |_,_,0,r=>r
 |_,_,_+1,.nil=> .nil
 |_,_,n+1,.cons _ t=>Vals.drop n t
def qZ:Option V->Option Value->Prop
 |some v,some u=>RelV v u
 |none,none=>True
 |_,_=>False
def KV{κ:Type}:List (κ×V)->List (κ×Value)->Prop:=Paired λ(p:κ×V)(q:κ×Value)=>p.1=q.1/\RelV p.2 q.2
def kV:Key->V
 | .inl i=> .int i
 | .inr x=> .str x
inductive HO where
 |lst (xs:List V)
 |tup (xs:List V)
 |dK (kvs:List (Key×V))|dT (kvs:List (List Key×V))
 |set (S:Int->Bool) (n:Nat)
 |ins (C dx:Addr) (fs:List (Str×V))
 |own (x:Addr)
 |xd (fs:List (Str×V))
 |met (f x:Addr)
 |IQ (lo hi:Int)
 |jb (o:Obj) (u:HO)
 |qX (ps:Array Value)
 |ext (φ:Heap->Prop)
abbrev Hp:=Addr->Option HO
def upd(H:Hp)(a:Addr)(o:HO):Hp:=λb=>if b=a then some o else H b
theorem af{H:Hp}{a:Addr}{o:HO}:upd H a o a=some o:=by unfold upd;rw[if_pos rfl]
theorem ak{H:Hp}{a b:Addr}{o:HO}(h:b≠a):upd H a o b=H b:=by unfold upd;rw[if_neg h]
theorem Lb{H:Hp}{a:Addr}{o u:HO}:upd (upd H a o) a u=upd H a u:=by
 funext b;unfold upd;split<;>rfl
theorem SN{H:Hp}{a b:Addr}{o u:HO}(h:H a=some o)(h':H b=some u)(d:o≠u):a≠b:=by
 intro e;subst e;rw[h]at h';exact d (Option.some.inj h')
theorem aq{H:Hp}{a b:Addr}{o:HO}(h:H a=some o)(h':H b=none):a≠b:=by
 intro e;subst e;rw[h]at h';cases h'
section
variable(P:Program)(w:World)
def di(H:Hp)(h:Heap)(a:Addr):HO->Prop
 | .lst xs=>xs.length<=sizeLine/\∃(its:List Value)(n:Nat),Vals xs its/\h.get? a=some {cls:= .type "list",data:= .seq its.toArray n}
 | .tup xs=>xs.length<=sizeLine/\∃its:List Value,Vals xs its/\IsTup h a its.toArray
 | .dK kvs=>kvs.length<=sizeLine/\(a==sysModules)=false/\∃vs,KV kvs vs/\h.DictOf (cR P w) a vs
 | .dT kvs=>kvs.length<=sizeLine/\(a==sysModules)=false/\∃xs:List (List Key×Addr×Value),
   Paired (λ(p:List Key×V)(q:List Key×Addr×Value)=>p.1=q.1/\H q.2.1=some (.tup (p.1.map kV))/\RelV p.2 q.2.2) kvs xs/\
   ∃o es ep,h.get? a=some o/\o.ExactDict/\o.data= .dict es ep/\es.toList=xs.map (entryOfKey (tupleKind (cR P w)))/\(xs.map (·.1)).Nodup
 | .set S n=>h.SetOf (intKind P w) a S n
 | .ins C dx fs=>H dx=some (.own a)/\fs.length<=1000/\dx≠a/\h.get? a=some (instObj C dx)/\
   ∃mA,h.Ns1 dx mA/\(∀f,qZ (fs.lookup f) (mA f))/\PySem.Within mA (fs.map (·.1))
 | .own _=>∃o,h.get? a=some o
 | .xd fs=>∃mA,h.Ns1 a mA/\∀f,qZ (fs.lookup f) (mA f)
 | .IQ lo hi=>∃t u v,h.get? a=some {cls:= .type "range",data:= .fields #[.int lo t,.int hi u,.int 1 v]}
 | .jb o u=>h.get? a=some o/\di H h a u
 | .qX ps=>h.get? a=some {cls:= .none,data:= .fields ps}
 | .met f x=>h.get? a=some (methodObj (.ref f) (.ref x))
 | .ext φ=>φ h/\(∃o,h.get? a=some o)/\∀h1 h2:Heap,φ h1->(∀o,h1.get? a=some o->h2.get? a=some o)->φ h2
def qY(H:Hp)(h:Heap):Prop:=∀a o,H a=some o->di P w H h a o
end
section
variable{P:Program}{w:World}{H H':Hp}{h h':Heap}{a:Addr}{o:HO}
theorem di.lt(x:di P w H h a o):a<h.objs.size:=by
 cases o with
 |lst xs=>obtain⟨_,_,_,_,e⟩:=x;exact lt_size e
 |tup xs=>obtain⟨_,_,_,p⟩:=x;exact p.lt
 |dK kvs=>obtain⟨_,_,_,_,o,_,_,e,_⟩:=x;exact lt_size e
 |dT kvs=>obtain⟨_,_,_,_,o,_,_,e,_⟩:=x;exact lt_size e
 |set S n=>obtain⟨o,_,_,_,e,_⟩:=x;exact lt_size e
 |ins C dx fs=>obtain⟨_,_,_,e,_⟩:=x;exact lt_size e
 |own y=>obtain⟨_,e⟩:=x;exact lt_size e
 |xd fs=>obtain⟨_,⟨_,_,_,e,_⟩,_⟩:=x;exact lt_size e
 |IQ lo hi=>obtain⟨_,_,_,e⟩:=x;exact lt_size e
 |jb ob u=>obtain⟨e,_⟩:=x;exact lt_size e
 |qX ps=>exact lt_size (show h.get? a=some _ from x)
 |met f y=>exact lt_size (show h.get? a=some _ from x)
 |ext φ=>obtain⟨_,⟨_,e⟩,_⟩:=x;exact lt_size e
theorem Paired.RP{α β:Type}{F G:α->β->Prop}:∀{l₁:List α}{l₂:List β},Paired F l₁ l₂->(∀a b,F a b->G a b)->Paired G l₁ l₂
 |_,_,.nil,_=> .nil
 |_,_,.cons r t,f=> .cons (f _ _ r) (Paired.RP t f)
theorem di.m8(x:di P w H h a o)(k:∀b u,(b=a\/H b=some (.own a))->h.get? b=some u->h'.get? b=some u)
  (ho:∀b,H b=some (.own a)->H' b=some (.own a)) (ht:∀b xs,H b=some (.tup xs)->H' b=some (.tup xs)):di P w H' h' a o:=by
 induction o with
 |lst xs=>obtain⟨z,its,n,r,e⟩:=x;exact⟨z,its,n,r,k _ _ (.inl rfl) e⟩
 |tup xs=>obtain⟨z,its,r,ob,e,c⟩:=x;exact⟨z,its,r,ob,k _ _ (.inl rfl) e,c⟩
 |dK kvs=>obtain⟨z,y,vs,r,ob,es,ep,e,c⟩:=x;exact⟨z,y,vs,r,ob,es,ep,k _ _ (.inl rfl) e,c⟩
 |dT kvs=>
  obtain⟨z,y,xs,r,ob,es,ep,e,c⟩:=x;exact⟨z,y,xs,Paired.RP r λp q z=>⟨z.1,ht _ _ z.2.1,z.2.2⟩,ob,es,ep,k _ _ (.inl rfl) e,c⟩
 |set S n=>obtain⟨ob,es,ep,t,e,c⟩:=x;exact⟨ob,es,ep,t,k _ _ (.inl rfl) e,c⟩
 |ins C dx fs=>
  obtain⟨d,z,ne,e,mA,⟨od,es,ep,e2,c⟩,r⟩:=x;exact⟨ho _ d,z,ne,k _ _ (.inl rfl) e,mA,⟨od,es,ep,k _ _ (.inr d) e2,c⟩,r⟩
 |own y=>obtain⟨ob,e⟩:=x;exact⟨ob,k _ _ (.inl rfl) e⟩
 |xd fs=>obtain⟨mA,⟨od,es,ep,e,c⟩,r⟩:=x;exact⟨mA,⟨od,es,ep,k _ _ (.inl rfl) e,c⟩,r⟩
 |IQ lo hi=>obtain⟨t,u,v,e⟩:=x;exact⟨t,u,v,k _ _ (.inl rfl) e⟩
 |jb ob u ih=>obtain⟨e,q⟩:=x;exact⟨k _ _ (.inl rfl) e,ih q⟩
 |qX ps=>
  have e:h.get? a=some {cls:= .none,data:= .fields ps}:=x;show h'.get? a=some {cls:= .none,data:= .fields ps};exact k a _ (.inl rfl) e
 |met f y=>
  have e:h.get? a=some (methodObj (.ref f) (.ref y)):=x;show h'.get? a=some (methodObj (.ref f) (.ref y));exact k a _ (.inl rfl) e
 |ext φ=>obtain⟨p,⟨o,e⟩,st⟩:=x;exact⟨st _ _ p λo q=>k _ _ (.inl rfl) q,⟨o,k _ _ (.inl rfl) e⟩,st⟩
theorem qY.lt(x:qY P w H h)(e:H a=some o):a<h.objs.size:=(x a o e).lt
theorem qY.fresh(x:qY P w H h)(e:h.objs.size<=a):H a=none:=by
 cases q:H a with
 |none=>rfl
 |some u=>exact absurd (lt_of_lt_of_le (x.lt q) e) (lt_irrefl _)
theorem qY.kept(x:qY P w H h)(k:∀b u,h.get? b=some u->h'.get? b=some u):qY P w H h':=λa o e=>
 (x a o e).m8 (λb u _ q=>k b u q) (λ_ q=>q) λ_ _ q=>q
theorem qY.laid(x:qY P w H h)(k:∀b u,h.get? b=some u->h'.get? b=some u)(hp:h.objs.size<=a)(new:di P w (upd H a o) h' a o):qY P w (upd H a o) h':=λb u e=>by
 have hn:=x.fresh hp;by_cases hb:b=a
 ·subst hb;rw[af]at e;cases e;exact new
 ·rw[ak hb]at e;exact(x b u e).m8 (λc v _ q=>k c v q) (λc q=>by rw[ak (aq q hn)];exact q) λc xs q=>by rw[ak (aq q hn)];exact q
end
def Rd(H:Hp)(a:Addr)(u:HO):Prop:=H a=some u\/∃o,H a=some (.jb o u)
theorem Rd.ok{P:Program}{w:World}{H:Hp}{h:Heap}{a:Addr}{u:HO}(r:Rd H a u)(x:qY P w H h):di P w H h a u:=by
 rcases r with r|⟨o,r⟩
 ·exact x a u r
 ·obtain⟨_,q⟩:=x a _ r;exact q
def Pe:Option HO->Prop
 |some (.lst _)=>True
 |some (.dK _)=>True
 |some (.dT _)=>True
 |some (.set _ _)=>True
 |some (.ins _ _ _)=>True
 |some (.ext _)=>True
 |_=>False
section
variable{P:Program}{w:World}{H:Hp}{h h':Heap}{x e:Addr}{o':HO}
theorem qY.write(ok:qY P w H h)(mu:Pe (H x))(he:e=x\/H e=some (.own x))(k:∀b u,b≠e->h.get? b=some u->h'.get? b=some u)(heo:∃u,h'.get? e=some u)
  (new:di P w (upd H x o') h' x o'):qY P w (upd H x o') h':=λb u q=>by
 have nown:∀c y,H c=some (.own y)->c≠x:=λc y r z=>by subst z;rw[r]at mu;exact mu
 have ntup:∀c xs,H c=some (.tup xs)->c≠x:=λc xs r z=>by subst z;rw[r]at mu;exact mu
 by_cases hb:b=x
 ·subst hb;rw[af]at q;cases q;exact new
 ·rw[ak hb]at q;by_cases hbe:b=e
  ·have q':H b=some (.own x):=by
    rcases he with z|z
    ·exact absurd (hbe.trans z) hb
    ·rw[hbe];exact z
   rw[q]at q';cases q';obtain⟨v,hv⟩:=heo;exact⟨v,by rw[hbe];exact hv⟩
  ·refine(ok b u q).m8 (λc v hc r=>k c v ?_ r) (λc r=>by rw[ak (nown c b r)];exact r) λc xs r=>by rw[ak (ntup c xs r)];exact r
   rcases hc with rfl|hc
   ·exact hbe
   ·rintro rfl;rcases he with z|z
    ·exact nown c b hc z
    ·rw[hc]at z;cases z;exact hb rfl
end
structure Un(fs ex:List Addr)(H H':Hp)(h h':Heap):Prop where
 keep:∀b o,h.get? b=some o->H b=none->b∉fs->b∉ex->h'.get? b=some o
 slot:∀b o,h.get? b=some o->H b=none->b∈fs->b∉ex->∃sl,h'.get? b=some {o with slots:=sl}
 free:∀b o,h.get? b=some o->H b=none->b∉ex->H' b=none
 there:∀b o,h.get? b=some o->b∉ex->∃o',h'.get? b=some o'
 AQ:∀b xs,H b=some (.tup xs)->H' b=some (.tup xs)
 wQ:∀b o u,H b=some (.jb o u)->H' b=some (.jb o u)
 yI:∀b ps,H b=some (.qX ps)->∃more,H' b=some (.qX (ps++more))
section
variable{fs fs' ex ex':List Addr}{H H1 H2:Hp}{h h1 h2 h':Heap}{a x e:Addr}{o:HO}
theorem Un.any(u:Un fs ex H H1 h h1){b:Addr}{ob:Obj}(q:h.get? b=some ob)(n:H b=none)(hx:b∉ex):∃sl,h1.get? b=some {ob with slots:=sl}:=by
 by_cases hb:b∈fs
 ·exact u.slot b ob q n hb hx
 ·exact⟨ob.slots,u.keep b ob q n hb hx⟩
theorem Un.kept(k:∀b u,h.get? b=some u->h'.get? b=some u):Un fs ex H H h h':=
 ⟨λb ob q _ _ _=>k b ob q,λb ob q _ _ _=>⟨ob.slots,k b ob q⟩,λ_ _ _ n _=>n,λb ob q _=>⟨ob,k b ob q⟩,λ_ _ q=>q,λ_ _ _ q=>q,λ_ ps q=>⟨#[],by rw[q];simp⟩⟩
theorem Un.refl:Un fs ex H H h h:=Un.kept λ_ _ q=>q
theorem Un.laid(k:∀b u,h.get? b=some u->h'.get? b=some u)(hp:h.objs.size<=a)(hn:H a=none):Un fs ex H (upd H a o) h h' where
 keep:=λb u q _ _ _=>k b u q
 slot:=λb u q _ _ _=>⟨u.slots,k b u q⟩
 free:=λb u q n _=>by rw[ak (ne_of_lt (lt_of_lt_of_le (lt_size q) hp))];exact n
 there:=λb u q _=>⟨u,k b u q⟩
 AQ:=λb xs q=>by rw[ak (aq q hn)];exact q
 wQ:=λb u xs q=>by rw[ak (aq q hn)];exact q
 yI:=λb ps q=>⟨#[],by rw[ak (aq q hn),q];simp⟩
theorem Un.write(mu:Pe (H x))(he:e=x\/H e=some (.own x))(k:∀b u,b≠e->h.get? b=some u->h'.get? b=some u)(heo:∃u,h'.get? e=some u):Un fs ex H (upd H x o) h h':=by
 have hx:∀b,H b=none->b≠x:=λb n z=>by subst z;rw[n]at mu;exact mu
 have hb:∀b,H b=none->b≠e:=λb n z=>by
  subst z;rcases he with r|r
  ·exact hx b n r
  ·rw[n]at r;cases r
 have hm:∀b u,H b=some u->¬Pe (some u)->b≠x:=λb u q nm z=>by subst z;rw[q]at mu;exact nm mu
 refine⟨λb u q n _ _=>k b u (hb b n) q,λb u q n _ _=>⟨u.slots,k b u (hb b n) q⟩,λb u q n _=>by rw[ak (hx b n)];exact n,λb u q _=>?_,
  λb xs q=>by rw[ak (hm b _ q λz=>z)];exact q,λb u xs q=>by rw[ak (hm b _ q λz=>z)];exact q,λb ps q=>⟨#[],by rw[ak (hm b _ q λz=>z),q];simp⟩⟩
 by_cases hbe:b=e
 ·subst hbe;exact heo
 ·exact⟨u,k b u hbe q⟩
end
def Sk(h:Heap)(H:Hp):List Addr:=(List.range h.objs.size).filter λa=>(H a).isSome
def FI(h:Heap)(H:Hp):Heap:=hideAll h (Sk h H)
theorem LH(h:Heap)(H:Hp):(FI h H).objs.size=h.objs.size:=PySem.W.hideAll_size _ _
theorem Nu{h:Heap}{H:Hp}{b:Addr}{o:Obj}(e:h.get? b=some o)(n:H b=none):(FI h H).get? b=some o:=
 hideAll_get _ e λhm=>by
  have q:(H b).isSome=true:=(mem_filter.mp hm).2;rw[n]at q;simp at q
theorem Qc{h:Heap}{H:Hp}{b:Addr}{o:Obj}(e:(FI h H).get? b=some o):h.get? b=some o/\H b=none:=by
 have e':h.get? b=some o:=of_hideAll (Sk h H) e;refine⟨e',?_⟩;cases q:H b with
 |none=>rfl
 |some x=>
  have hm:b∈Sk h H:=mem_filter.mpr ⟨mem_range.mpr (lt_size e'),by simp[q]⟩;have z:(FI h H).get? b=none:=hideAll_none (Sk h H) hm;rw[z]at e;cases e
def AR(g h:Heap)(L:Addr):fZ:=(List.range h.objs.size).filterMap λa=>if a=L\/(g.get? a).isSome=true then none else(h.get? a).map λo=>(a,o)
theorem HB{g h:Heap}{L a:Addr}{o:Obj}(h1:a≠L)(h2:g.get? a=none)(h3:h.get? a=some o):(a,o)∈AR g h L:=
 mem_filterMap.mpr ⟨a,mem_range.mpr (lt_size h3),by simp[h1,h2,h3]⟩
theorem Ck{g h:Heap}{L:Addr}{p:Addr×Obj}(hp:p∈AR g h L):p.1≠L/\g.get? p.1=none/\h.get? p.1=some p.2:=by
 obtain⟨b,_,e⟩:=mem_filterMap.mp hp
 split at e
 ·cases e
 ·rename_i hn;cases q:h.get? b with
  |none=>rw[q]at e;simp at e
  |some u=>
   rw[q]at e;simp only[map_some,Option.some.injEq]at e;subst e;refine⟨λz=>hn (.inl z),?_,q⟩;show g.get? b=none;cases r:g.get? b with
   |none=>rfl
   |some v=>exact(hn (.inr (by simp[r]))).elim
theorem N0{g h:Heap}{L:Addr}:News g L h (AR g h L):=λp hp=>let ⟨a,b,c⟩:=Ck hp;⟨c,a,b⟩
end L2
namespace L2
open PySem PySem.Spec PyProof.Rows
structure Mod(K:PySem.W.Frag)(mg:rn)(base:Heap):Prop where
 RJ:K.In base
 glob:base.Ns mainGlobals mg
 blt:∃mb,base.Ns builtinsNs mb/\∀x:Str,x≠"__name__"->mb x=bootBuiltins x
 nolimit:base.NoLimit
 bm:∃bm o,mg "__builtins__"=some (.ref bm)/\bm≠builtinsNs/\bm≠mainGlobals/\base.get? bm=some o/\o.cls= .type "module"/\o.dict=some builtinsNs/\o.data= .plain
structure Cx where
 prog:Program
 w:World
 K:PySem.W.Frag
 mg:Str->Option Value
 base:Heap
 A:Around
 N:List Str
 oV:Shared
 My:Hp
 env:Env
 outer:List Env
 stack:List Env
 ex:List Addr
 fn:Str->Bool
 calm:Bool
 pn:fZ
 xe:Value->Shared->Prop
def AX(l:List Env):List Addr:=l.filterMap (·.frame)
abbrev Cx.fs(X:Cx):List Addr:=AX X.outer
def Rh(sc:Scope)(x:Str):Prop:=sc.names.lookup x=some .local\/sc.names.lookup x=some .cell\/sc.names.lookup x=some .free
def Loc(sc:Scope)(x:Str):Prop:=sc.names.lookup x=some .local\/sc.names.lookup x=some .cell
def Look(env:Env)(h:Heap)(m:rn)(x:Str)(u:Value):Prop:=
 (env.kindOf x=some .local/\m x=some u)\/((env.kindOf x=some .cell\/env.kindOf x=some .free)/\∃c,env.cells.lookup x=some c/\h.IsCell c (some u))
structure Cx.Ok(X:Cx):Prop where
 mod:Mod X.K X.mg X.base
 kind:X.env.scope.kind= .function
 glob:X.env.globals=mainGlobals
 blt:X.env.builtins=builtinsNs
 above:X.oV.heap.objs.size<=X.env.locals
 inj:∀x y c,X.env.cells.lookup x=some c->X.env.cells.lookup y=some c->x=y
 has:∀x,(X.env.kindOf x=some .cell\/X.env.kindOf x=some .free)->∃c,X.env.cells.lookup x=some c
 Si:∀x c,X.fn x=true->X.env.cells.lookup x=some c->X.oV.heap.objs.size<=c
 hd:X.calm=true->X.A.handled=none
 frames:X.A.frames=some X.stack
 Gp:X.stack=X.outer\/(X.stack=X.env::X.outer/\X.env.frame=some X.env.locals)
 SD:∀b∈X.ex,b≠X.env.locals/\∀x c,X.env.cells.lookup x=some c->c≠b
 bs:∀b o,X.base.get? b=some o->X.oV.heap.get? b=some o/\X.My b=none
 M3:X.base.objs.size<=X.oV.heap.objs.size
 LX:∀b o,X.base.get? b=some o->b∉X.ex
 Ly:∀b∈X.ex,b∉X.fs
 yf:X.oV.heap.FunFrames X.base X.outer
 QY:∀b∈X.fs,X.My b=none
structure Inv(X:Cx)(pins:fZ)(σ:List (Option V))(H:Hp)(s:Shared):Prop where
 ok:X.Ok
 os:s.os=X.oV.os
 bare:AllBare s.gens
 base:Un X.fs X.ex X.My H X.oV.heap s.heap
 loc:∃m,s.heap.Ns X.env.locals m/\∀(i:Nat)(x:Str)(v:V),X.N[i]?=some x->σ[i]?=some (some v)->Rh X.env.scope x->∃u,RelV v u/\Look X.env s.heap m x u
 cell:∀x c,X.env.cells.lookup x=some c->∃v,s.heap.IsCell c v
 free:H X.env.locals=none
 kX:∀x c,X.env.cells.lookup x=some c->H c=none
 pin:∀p∈X.pn++pins,s.heap.get? p.1=some p.2/\H p.1=none/\p.1≠X.env.locals/\p.1∉X.fs/\∀v,p.2.data≠.cell v
 bS:qY X.prog X.w H s.heap
 len:σ.length=X.N.length
section
variable{X:Cx}{pins:fZ}{σ:List (Option V)}{H H':Hp}{s:Shared}{h':Heap}
theorem Cx.Ok.T7(ok:X.Ok){b:Addr}{o:Obj}(e:X.base.get? b=some o):b∉X.fs:=λhb=>by
 have:=(ok.yf.mem hb).1;rw[e]at this;cases this
theorem Inv.bs(I:Inv X pins σ H s):∀b o,X.base.get? b=some o->s.heap.get? b=some o/\H b=none:=λb o e=>
 ⟨I.base.keep b o (I.ok.bs b o e).1 (I.ok.bs b o e).2 (I.ok.T7 e) (I.ok.LX b o e),I.base.free b o (I.ok.bs b o e).1 (I.ok.bs b o e).2 (I.ok.LX b o e)⟩
theorem Inv.bk(I:Inv X pins σ H s):∀b o,X.base.get? b=some o->s.heap.get? b=some o:=λb o e=>(I.bs b o e).1
theorem Inv.mod(I:Inv X pins σ H s):Mod X.K X.mg X.base:=I.ok.mod
theorem Inv.vS(I:Inv X pins σ H s):X.K.In s.heap:=I.ok.mod.RJ.keeps I.bk
theorem Inv.lt(I:Inv X pins σ H s):X.env.locals<s.heap.objs.size:=let ⟨_,hn,_⟩:=I.loc;hn.lt
theorem Inv.sz(I:Inv X pins σ H s):X.oV.heap.objs.size<=s.heap.objs.size:=le_trans I.ok.above (le_of_lt I.lt)
theorem Inv.T8(I:Inv X pins σ H s){a:Addr}(h:s.heap.objs.size<=a):a∉X.fs:=λhb=>by
 obtain⟨_,o,ho,_⟩:=I.ok.yf.mem hb;exact absurd (lt_of_lt_of_le (lt_size ho) (le_trans I.sz h)) (lt_irrefl _)
theorem Inv.M9(I:Inv X pins σ H s):∀x c,X.env.cells.lookup x=some c->c≠X.env.locals:=λx c e z=>by
 obtain⟨v,o,ho,hd⟩:=I.cell x c e;obtain⟨m,⟨o',es,ep,ho',hd',_⟩,_⟩:=I.loc;rw[z,ho']at ho;cases ho;rw[hd']at hd;cases hd
theorem Inv.yf(I:Inv X pins σ H s):s.heap.FunFrames X.base X.outer:=by
 have all:∀(l:List Env),(∀b∈AX l,b∈X.fs)->X.oV.heap.FunFrames X.base l->s.heap.FunFrames X.base l:=by
  intro l
  induction l with
  |nil=>intro _ _;trivial
  |cons env r ih=>
   intro hs hl;obtain⟨hk,⟨L,o,hf,hn,ho,hd⟩,hr⟩:=hl;have hL:L∈X.fs:=hs L (by unfold AX;rw[filterMap_cons,hf];exact mem_cons_self);obtain⟨sl,e⟩:=I.base.slot L o ho (I.ok.QY L hL) hL λz=>I.ok.Ly L z hL;exact⟨hk,⟨L,_,hf,hn,e,hd⟩,ih (λb hb=>hs b (by unfold AX;rw[filterMap_cons,hf];exact mem_cons_of_mem _ hb)) hr⟩
 exact all X.outer (λ_ hb=>hb) I.ok.yf
theorem Inv.stack(I:Inv X pins σ H s):s.heap.FunFrames X.base X.stack:=by
 rcases I.ok.Gp with e|⟨e,hf⟩
 ·rw[e];exact I.yf
 ·rw[e];obtain⟨m,hn,_⟩:=I.loc;refine .cons (by rw[I.ok.kind];decide) hf hn ?_ I.yf;exact Heap.get?_none_of_le (le_trans I.ok.M3 I.ok.above)
theorem Inv.JU(I:Inv X pins σ H s):∀b∈AX X.stack,b∈X.env.locals::X.fs:=λb hb=>by
 rcases I.ok.Gp with e|⟨e,hf⟩
 ·rw[e]at hb;exact mem_cons_of_mem _ hb
 ·rw[e]at hb;unfold AX at hb;rw[filterMap_cons,hf]at hb;exact hb
theorem Inv.A4(I:Inv X pins σ H s):∀b∈AX X.stack,H b=none:=λb hb=>by
 rcases mem_cons.mp (I.JU b hb)with e|hb
 ·rw[e];exact I.free
 ·obtain⟨_,o,ho,_⟩:=I.ok.yf.mem hb;exact I.base.free b o ho (I.ok.QY b hb) λz=>I.ok.Ly b z hb
theorem Inv.step{g':Array GenState}{t':Nat}{d':Drawn}{ch:List Addr}(I:Inv X pins σ H s)
  (hch:∀b∈ch,(b∈X.ex\/X.oV.heap.objs.size<=b)/\b≠X.env.locals/\(∀x c,X.env.cells.lookup x=some c->c≠b)/\∀p∈X.pn++pins,p.1≠b)
  (keep:∀b o,b≠X.env.locals->b∉X.fs->b∉ch->s.heap.get? b=some o->H b=none->h'.get? b=some o)
  (slot:∀b o,b≠X.env.locals->b∈X.fs->b∉ch->s.heap.get? b=some o->H b=none->∃sl,h'.get? b=some {o with slots:=sl}) (free:∀b o,b∉ch->s.heap.get? b=some o->H b=none->H' b=none)
  (there:∀b o,b∉ch->s.heap.get? b=some o->∃o',h'.get? b=some o')
  (AQ:∀b xs,H b=some (.tup xs)->H' b=some (.tup xs)) (wQ:∀b o u,H b=some (.jb o u)->H' b=some (.jb o u)) (yI:∀b ps,H b=some (.qX ps)->∃more,H' b=some (.qX (ps++more)))
  (ns:∀m,s.heap.Ns X.env.locals m->h'.Ns X.env.locals m) (bS:qY X.prog X.w H' h') (hg:AllBare g'):
  Inv X pins σ H' {s with heap:=h',gens:=g',drawn:=d',toks:=t'}:=by
 have neL:∀b o,X.oV.heap.get? b=some o->b≠X.env.locals:=λb o e=>ne_of_lt (lt_of_lt_of_le (lt_size e) I.ok.above);have neC:∀b o,X.oV.heap.get? b=some o->b∉X.ex->b∉ch:=λb o e hx hb=>by
  rcases(hch b hb).1 with z|z
  ·exact hx z
  ·exact absurd (lt_of_lt_of_le (lt_size e) z) (lt_irrefl _)
 have cellK:∀x c,X.env.cells.lookup x=some c->∀v,s.heap.IsCell c v->h'.IsCell c v:=λx c e v ⟨o,ho,hd⟩=>by
  have nch:c∉ch:=λz=>(hch c z).2.2.1 x c e rfl;by_cases hc:c∈X.fs
  ·obtain⟨sl,q⟩:=slot c o (I.M9 x c e) hc nch ho (I.kX x c e);exact⟨_,q,hd⟩
  ·exact⟨o,keep c o (I.M9 x c e) hc nch ho (I.kX x c e),hd⟩
 refine⟨I.ok,I.os,hg,⟨λb o e n hb hx=>?_,λb o e n hb hx=>?_,λb o e n hx=>?_,λb o e hx=>?_,λb xs e=>AQ b xs (I.base.AQ b xs e),λb o xs e=>wQ b o xs (I.base.wQ b o xs e),λb ps e=>?_⟩,?_,λx c e=>?_,?_,λx c e=>?_,λp hp=>?_,bS,I.len⟩
 ·exact keep b o (neL b o e) hb (neC b o e hx) (I.base.keep b o e n hb hx) (I.base.free b o e n hx)
 ·obtain⟨sl,e1⟩:=I.base.slot b o e n hb hx;obtain⟨sl',e2⟩:=slot b _ (neL b o e) hb (neC b o e hx) e1 (I.base.free b o e n hx);exact⟨sl',e2⟩
 ·obtain⟨o',e1⟩:=I.base.there b o e hx;exact free b o' (neC b o e hx) e1 (I.base.free b o e n hx)
 ·obtain⟨o',e1⟩:=I.base.there b o e hx;exact there b o' (neC b o e hx) e1
 ·obtain⟨m1,e1⟩:=I.base.yI b ps e;obtain⟨m2,e2⟩:=yI b _ e1;exact⟨m1++m2,by rw[e2,Array.append_assoc]⟩
 ·obtain⟨m,hn,hl⟩:=I.loc;refine⟨m,ns m hn,λi x v e1 e2 e3=>?_⟩;obtain⟨u,r,l⟩:=hl i x v e1 e2 e3;refine⟨u,r,?_⟩;rcases l with l|⟨k,c,e,z⟩
  ·exact .inl l
  ·exact .inr ⟨k,c,e,cellK x c e _ z⟩
 ·obtain⟨v,z⟩:=I.cell x c e;exact⟨v,cellK x c e v z⟩
 ·obtain⟨m,⟨o,_,_,ho,_⟩,_⟩:=I.loc;exact free _ o (λz=>(hch _ z).2.1 rfl) ho I.free
 ·obtain⟨v,o,ho,hd⟩:=I.cell x c e;exact free c o (λz=>(hch c z).2.2.1 x c e rfl) ho (I.kX x c e)
 ·obtain⟨e,n,ne,nf,d⟩:=I.pin p hp;have nch:p.1∉ch:=λz=>(hch p.1 z).2.2.2 p hp rfl;exact⟨keep p.1 p.2 ne nf nch e n,free p.1 p.2 nch e n,ne,nf,d⟩
theorem Inv.un{t':Nat}(I:Inv X pins σ H s)(u:Un X.fs [] H H' s.heap h')(bS:qY X.prog X.w H' h'):Inv X pins σ H' {s with heap:=h',toks:=t'}:=by
 obtain⟨m,⟨o,es,ep,ho,r⟩,_⟩:=id I.loc;obtain⟨sl,hL⟩:=u.any ho I.free (by simp)
 exact I.step (g':=s.gens) (d':=s.drawn) (ch:=[]) (λ_ z=>nomatch z) (λb o _ hb _ e n=>u.keep b o e n hb (by simp)) (λb o _ hb _ e n=>u.slot b o e n hb (by simp)) (λb o _ e n=>u.free b o e n (by simp)) (λb o _ e=>u.there b o e (by simp)) u.AQ u.wQ u.yI (λm' hm=>by
  obtain⟨o',es',ep',ho',r'⟩:=hm;rw[ho]at ho';cases ho'
  exact⟨_,es',ep',hL,r'⟩) bS I.bare
theorem Inv.call{g':Array GenState}{t':Nat}{d':Drawn}{ch:List Addr}(I:Inv X pins σ H s)(u:Un (AX X.stack) ch H H' s.heap h')(bS:qY X.prog X.w H' h')(hg:AllBare g')
  (hch:∀b∈ch,(b∈X.ex\/X.oV.heap.objs.size<=b)/\b≠X.env.locals/\(∀x c,X.env.cells.lookup x=some c->c≠b)/\∀p∈X.pn++pins,p.1≠b):
  Inv X pins σ H' {s with heap:=h',gens:=g',drawn:=d',toks:=t'}:=by
 obtain⟨m,⟨o,es,ep,ho,r⟩,_⟩:=id I.loc;obtain⟨sl,hL⟩:=u.any ho I.free λz=>(hch _ z).2.1 rfl
 exact I.step (ch:=ch) hch (λb o hL hb hc e n=>u.keep b o e n (λz=>(mem_cons.mp (I.JU b z)).elim hL hb) hc) (λb o _ _ hc e n=>u.any e n hc) (λb o hc e n=>u.free b o e n hc) (λb o hc e=>u.there b o e hc) u.AQ u.wQ u.yI (λm' hm=>by
  obtain⟨o',es',ep',ho',r'⟩:=hm;rw[ho]at ho';cases ho'
  exact⟨_,es',ep',hL,r'⟩) bS hg
theorem Inv.turned{t':Nat}{it:Addr}(I:Inv X pins σ H s)(k:∀b o,b≠it->s.heap.get? b=some o->h'.get? b=some o)(hn:H it=none)(hL:it≠X.env.locals)
  (h1:it∈X.ex\/X.oV.heap.objs.size<=it) (h2:∀x c,X.env.cells.lookup x=some c->c≠it) (h3:∀p∈X.pn++pins,p.1≠it):Inv X pins σ H {s with heap:=h',toks:=t'}:=by
 have nit:∀b u,H b=some u->b≠it:=λb u e z=>by rw[z,hn]at e;cases e
 refine I.step (g':=s.gens) (d':=s.drawn) (ch:=[it]) (λb hb=>?_) (λb o _ _ hc e _=>k b o (λz=>hc (by simp[z])) e) (λb o _ _ hc e _=>⟨o.slots,k b o (λz=>hc (by simp[z])) e⟩) (λ_ _ _ _ n=>n)
  (λb o hc e=>⟨o,k b o (λz=>hc (by simp[z])) e⟩) (λ_ _ e=>e) (λ_ _ _ e=>e) (λb ps e=>⟨#[],by rw[e];simp⟩) (λm hm=>?_) (λb u e=>?_) I.bare
 ·have e:b=it:=by simpa using hb
  subst e;exact⟨h1,hL,h2,h3⟩
 ·obtain⟨o,es,ep,ho,r⟩:=hm;exact⟨o,es,ep,k _ o (Ne.symm hL) ho,r⟩
 ·refine(I.bS b u e).m8 (λc v hc q=>k c v ?_ q) (λ_ q=>q) λ_ _ q=>q;rcases hc with z|z
  ·rw[z];exact nit b u e
  ·exact nit c _ z
theorem Inv.tok(I:Inv X pins σ H s)(t:Nat):Inv X pins σ H {s with toks:=t}:=I.un (h':=s.heap) (t':=t) Un.refl I.bS
theorem Inv.kept{t':Nat}(I:Inv X pins σ H s)(k:∀b u,s.heap.get? b=some u->h'.get? b=some u):Inv X pins σ H {s with heap:=h',toks:=t'}:=I.un (Un.kept k) (I.bS.kept k)
theorem Inv.laid{a:Addr}{o:HO}{t':Nat}(I:Inv X pins σ H s)(k:∀b u,s.heap.get? b=some u->h'.get? b=some u)(hp:s.heap.objs.size<=a)(new:di X.prog X.w (upd H a o) h' a o):
  Inv X pins σ (upd H a o) {s with heap:=h',toks:=t'}:=I.un (Un.laid k hp (I.bS.fresh hp)) (I.bS.laid k hp new)
theorem Inv.write{x e:Addr}{o:HO}{t':Nat}(I:Inv X pins σ H s)(mu:Pe (H x))(he:e=x\/H e=some (.own x))(k:∀b u,b≠e->s.heap.get? b=some u->h'.get? b=some u)(heo:∃u,h'.get? e=some u)
  (new:di X.prog X.w (upd H x o) h' x o):Inv X pins σ (upd H x o) {s with heap:=h',toks:=t'}:=I.un (Un.write mu he k heo) (I.bS.write mu he k heo new)
theorem Inv.weak{σ':List (Option V)}(I:Inv X pins σ H s)(hl:σ'.length=σ.length)(w:∀(i:Nat)v,σ'[i]?=some (some v)->σ[i]?=some (some v)):Inv X pins σ' H s:=
 ⟨I.ok,I.os,I.bare,I.base,let ⟨m,hn,hl'⟩:=I.loc;⟨m,hn,λi x v e1 e2 e3=>hl' i x v e1 (w i v e2) e3⟩,I.cell,I.free,I.kX,I.pin,I.bS,hl.trans I.len⟩
theorem Inv.KU{pins':fZ}(I:Inv X pins σ H s)(h:∀p∈pins',s.heap.get? p.1=some p.2/\H p.1=none/\p.1≠X.env.locals/\p.1∉X.fs/\∀v,p.2.data≠.cell v):Inv X pins' σ H s:=
 ⟨I.ok,I.os,I.bare,I.base,I.loc,I.cell,I.free,I.kX,λp hp=>(mem_append.mp hp).elim (λz=>I.pin p (mem_append_left _ z)) (h p),I.bS,I.len⟩
theorem Cj{N:List Str}(hN:N.Nodup){i j:Nat}{x:Str}(a:N[i]?=some x)(b:N[j]?=some x):i=j:=by
 obtain⟨h1,e1⟩:=List.getElem?_eq_some_iff.mp a;obtain⟨h2,e2⟩:=List.getElem?_eq_some_iff.mp b;exact(List.getElem_inj hN).mp (e1.trans e2.symm)
theorem yH{M:Model}{A:Around}{E:iE}{i:Nat}{x:Str}{v:V}{u:Value}{Q:Unit->Shared->Prop}(I:Inv X pins σ H s)(hN:X.N.Nodup)(hi:X.N[i]?=some x)(hx:Loc X.env.scope x)(r:RelV v u)
  (h:∀s',Inv X pins (σ.set i (some v)) H s'->(∃a,Heap.SameBut a s.heap s'.heap/\(a=X.env.locals\/X.env.cells.lookup x=some a))->Q () s') (hf:X.fn x=true\/X.env.scope.names.lookup x=some .local:=by first|exact .inl rfl|exact .inr rfl|assumption):wpAny M A (storeName X.env x u) Q E s:=by
 obtain⟨m,hn,hl⟩:=id I.loc;have hcls:(X.env.scope.kind== .class||(X.env.scope.kind== .module&&X.env.locals !=X.env.globals))=false:=by rw[I.ok.kind];rfl
 have hiσ:i<σ.length:=by rw[I.len];exact(List.getElem?_eq_some_iff.mp hi).1
 have M9:=I.M9;have tracked:∀{a:Addr}{h':Heap},(∃o,s.heap.get? a=some o/\H a=none)->Heap.SameBut a s.heap h'->qY X.prog X.w H h':=λ{a h'}ha hs b ob e=>by
  obtain⟨_,_,hfree⟩:=ha;refine(I.bS b ob e).m8 (λc w' hc q=>(hs.2 c ?_).trans q) (λ_ q=>q) λ_ _ q=>q;rintro rfl;rcases hc with rfl|hc
  ·rw[hfree]at e;cases e
  ·rw[hfree]at hc;cases hc
 rcases hx with hk|hk
 ·refine wpAny_storeName_local hk hn (λh' hn' hs=>?_) hcls;obtain⟨oL,_,_,hoL,_⟩:=id hn;refine h _ ⟨I.ok,I.os,I.bare,⟨λb o e n hb hx=>?_,λb o e n hb hx=>?_,I.base.free,λb o e hx=>?_,I.base.AQ,I.base.wQ,I.base.yI⟩,⟨_,hn',λj y v' e1 e2 e3=>?_⟩,λy c e=>?_,I.free,I.kX,λp hp=>?_,tracked ⟨oL,hoL,I.free⟩ hs,by simpa using I.len⟩ ⟨_,hs,.inl rfl⟩
  ·exact(hs.2 b (ne_of_lt (lt_of_lt_of_le (lt_size e) I.ok.above))).trans (I.base.keep b o e n hb hx)
  ·obtain⟨sl,e1⟩:=I.base.slot b o e n hb hx;exact⟨sl,(hs.2 b (ne_of_lt (lt_of_lt_of_le (lt_size e) I.ok.above))).trans e1⟩
  ·obtain⟨o',e1⟩:=I.base.there b o e hx;exact⟨o',(hs.2 b (ne_of_lt (lt_of_lt_of_le (lt_size e) I.ok.above))).trans e1⟩
  ·by_cases hj:j=i
   ·subst hj;rw[hi]at e1;cases e1;rw[getElem?_set_self hiσ]at e2;cases e2;exact⟨u,r,.inl ⟨hk,by simp⟩⟩
   ·rw[getElem?_set_ne (Ne.symm hj)]at e2;obtain⟨u',r',q⟩:=hl j y v' e1 e2 e3;refine⟨u',r',?_⟩;rcases q with⟨k,e⟩|⟨k,c,e,z⟩
    ·refine .inl ⟨k,?_⟩;have:y≠x:=λe=>hj (Cj hN e1 (e▸hi));simp[this,e]
    ·exact .inr ⟨k,c,e,z.sameBut hs (M9 y c e)⟩
  ·obtain⟨w',z⟩:=I.cell y c e;exact⟨w',z.sameBut hs (M9 y c e)⟩
  ·obtain⟨e,n,ne,nf,d⟩:=I.pin p hp;exact⟨(hs.2 p.1 ne).trans e,n,ne,nf,d⟩
 ·have hfn:X.fn x=true:=by
   rcases hf with z|z
   ·exact z
   ·rw[z]at hk;cases hk
  obtain⟨c,hc⟩:=I.ok.has x (.inl hk);obtain⟨w',z⟩:=I.cell x c hc;refine wpAny_storeName_cell I.ok.kind hk hc z (λh' hc' hs=>?_);obtain⟨oc,hoc,hocd⟩:=id z;refine h {s with heap:=h'} ⟨I.ok,I.os,I.bare,⟨λb o e n hb hx=>?_,λb o e n hb hx=>?_,I.base.free,λb o e hx=>?_,I.base.AQ,I.base.wQ,I.base.yI⟩,⟨m,hn.sameBut hs (Ne.symm (M9 x c hc)),λj y v' e1 e2 e3=>?_⟩,λy c' e=>?_,I.free,I.kX,λp hp=>?_,tracked ⟨oc,hoc,I.kX x c hc⟩ hs,by simpa using I.len⟩ ⟨c,hs,.inr hc⟩
  ·exact(hs.2 b (ne_of_lt (lt_of_lt_of_le (lt_size e) (I.ok.Si x c hfn hc)))).trans (I.base.keep b o e n hb hx)
  ·obtain⟨sl,e1⟩:=I.base.slot b o e n hb hx;exact⟨sl,(hs.2 b (ne_of_lt (lt_of_lt_of_le (lt_size e) (I.ok.Si x c hfn hc)))).trans e1⟩
  ·obtain⟨o',e1⟩:=I.base.there b o e hx;exact⟨o',(hs.2 b (ne_of_lt (lt_of_lt_of_le (lt_size e) (I.ok.Si x c hfn hc)))).trans e1⟩
  ·by_cases hj:j=i
   ·subst hj;rw[hi]at e1;cases e1;rw[getElem?_set_self hiσ]at e2;cases e2;exact⟨u,r,.inr ⟨.inl hk,c,hc,hc'⟩⟩
   ·rw[getElem?_set_ne (Ne.symm hj)]at e2;obtain⟨u',r',q⟩:=hl j y v' e1 e2 e3;refine⟨u',r',?_⟩;rcases q with q|⟨k,c',e,z'⟩
    ·exact .inl q
    ·refine .inr ⟨k,c',e,z'.sameBut hs ?_⟩;rintro rfl;exact hj (Cj hN e1 (I.ok.inj _ _ _ e hc▸hi))
  ·by_cases hcc:c'=c
   ·subst hcc;exact⟨_,hc'⟩
   ·obtain⟨w2,z2⟩:=I.cell y c' e;exact⟨w2,z2.sameBut hs hcc⟩
  ·obtain⟨e,n,ne,nf,d⟩:=I.pin p hp;refine⟨(hs.2 p.1 ?_).trans e,n,ne,nf,d⟩;intro q;rw[q,hoc]at e;have q':oc=p.2:=Option.some.inj e;exact d w' (by rw[<-q'];exact hocd)
theorem C1{M:Model}{A:Around}{E:iE}{i:Nat}{x:Str}{v:V}{u:Value}{Q:Unit->Shared->Prop}(I:Inv X pins σ H s)(hN:X.N.Nodup)(hi:X.N[i]?=some x)(hx:Loc X.env.scope x)(r:RelV v u)
  (h:∀s',Inv X pins (σ.set i (some v)) H s'->Q () s') (hf:X.fn x=true\/X.env.scope.names.lookup x=some .local:=by first|exact .inl rfl|exact .inr rfl|assumption):wpAny M A (storeName X.env x u) Q E s:=
 yH I hN hi hx r (λs' I' _=>h s' I') hf
theorem Inv.M7{s':Shared}{ch:List Addr}(I:Inv X pins σ H s)(ho:s'.os=s.os)(u:Un (AX X.stack) ch H H' s.heap s'.heap)(bS:qY X.prog X.w H' s'.heap)(hg:AllBare s'.gens)
  (hch:∀b∈ch,(b∈X.ex\/X.oV.heap.objs.size<=b)/\b≠X.env.locals/\(∀x c,X.env.cells.lookup x=some c->c≠b)/\∀p∈X.pn++pins,p.1≠b):Inv X pins σ H' s':=by
 obtain⟨h',g',d',t',o'⟩:=s';have e:o'=s.os:=ho;subst e;exact I.call (g':=g') (t':=t') (d':=d') u bS hg hch
end
abbrev XK:=Value->Option Addr->Hp->Prop
abbrev St:=List (Option V)
abbrev VK:=V->Hp->Prop
abbrev TE:=St->Hp->VK->Prop
abbrev TT:=St->Hp->(Bool->Hp->Prop)->Prop
abbrev TA:=St->Hp->(List V->Hp->Prop)->Prop
structure Ends where
 nx:St->Hp->Prop
 rt:VK
 bk:St->Hp->Prop:=λ_ _=>False
 ct:St->Hp->Prop:=λ_ _=>False
abbrev TS:=Ends->St->Hp->Prop
def EP(X:Cx)(pins:fZ)(σ:St)(Q:VK)(u:Value)(s':Shared):Prop:=∃v H',Inv X pins σ H' s'/\RelV v u/\Q v H'
def TP(X:Cx)(pins:fZ)(σ:St)(Q:Bool->Hp->Prop)(b:Bool)(s':Shared):Prop:=∃H',Inv X pins σ H' s'/\Q b H'
def AP(X:Cx)(pins:fZ)(σ:St)(Q:List V->Hp->Prop)(us:List Value)(s':Shared):Prop:=∃vs H',Inv X pins σ H' s'/\Vals vs us/\Q vs H'
def SP(X:Cx)(pins:fZ)(D:Ends)(f:Flow)(s':Shared):Prop:=
 match f with
 | .next=>∃σ' H',Inv X pins σ' H' s'/\D.nx σ' H'
 | .brk=>∃σ' H',Inv X pins σ' H' s'/\D.bk σ' H'
 | .cont=>∃σ' H',Inv X pins σ' H' s'/\D.ct σ' H'
 | .ret u=>∃v σ' H',Inv X pins σ' H' s'/\RelV v u/\D.rt v H'
def PE(X:Cx)(e:Expr)(t:TE):Prop:=
 ∀(pins:fZ)(s:Shared)(σ:St)(H:Hp)(Q:VK),Inv X pins σ H s->t σ H Q->wpAny (model X.prog X.w) X.A (eval e X.env) (EP X pins σ Q) X.xe s
def PT(X:Cx)(e:Expr)(t:TT):Prop:=
 ∀(pins:fZ)(s:Shared)(σ:St)(H:Hp)(Q:Bool->Hp->Prop),Inv X pins σ H s->t σ H Q->wpAny (model X.prog X.w) X.A (isTrue e X.env (eval e X.env)) (TP X pins σ Q) X.xe s
def PW(X:Cx)(e:Expr)(t:TT):Prop:=
 ∀(whole:Sem Value)(pins:fZ)(s:Shared)(σ:St)(H:Hp)(Q:Bool->Hp->Prop),Inv X pins σ H s->t σ H Q->wpAny (model X.prog X.w) X.A (isTrue e X.env whole) (TP X pins σ Q) X.xe s
theorem PW.pt{X:Cx}{e:Expr}{t:TT}(h:PW X e t):PT X e t:=h _
def PA(X:Cx)(es:List Expr)(t:TA):Prop:=
 ∀(pos:Pos)(pins:fZ)(s:Shared)(σ:St)(H:Hp)(Q:List V->Hp->Prop),Inv X pins σ H s->t σ H Q->wpAny (model X.prog X.w) X.A (spliced (backTo pos (starEach es X.env))) (AP X pins σ Q) X.xe s
def PS(X:Cx)(st:Stmt)(t:TS):Prop:=
 ∀(pins:fZ)(s:Shared)(σ:St)(H:Hp)(D:Ends),Inv X pins σ H s->t D σ H->wpAny (model X.prog X.w) X.A (exec st X.env) (SP X pins D) X.xe s
def E3(X:Cx)(st:List Stmt)(t:TS):Prop:=
 ∀(pins:fZ)(s:Shared)(σ:St)(H:Hp)(D:Ends),Inv X pins σ H s->t D σ H->wpAny (model X.prog X.w) X.A (execs st X.env) (SP X pins D) X.xe s
theorem dh{α:Type}{t:Sem α}{Q Q':α->Shared->Prop}{M:Model}{A:Around}{E:iE}{s:Shared}(h:wpAny M A t Q E s)(hQ:∀a s,Q a s->Q' a s):wpAny M A t Q' E s:=wpAny_mono h hQ λ_ _ x=>x
end L2
namespace L2
open PySem PySem.Spec PyProof.Rows
section
variable{X:Cx}
def QK(i:Nat):TE:=λσ H Q=>∃v,σ[i]?=some (some v)/\Q v H
def tC(v:V):TE:=λ_ H Q=>Q v H
theorem Om{i:Nat}{x:Str}{pos:Pos}(hN:X.N[i]?=some x)(hv:Rh X.env.scope x)(hd:(x==("__debug__":Str))=false:=by decide)(hcd:(x==("__classdict__":Str))=false:=by decide):PE X (.Name x pos) (QK i):=by
 intro pins s σ H Q I h;obtain⟨v,e,h⟩:=h;obtain⟨m,hn,hl⟩:=I.loc;obtain⟨u,r,l⟩:=hl i x v hN e hv;have fin:EP X pins σ Q u s:=⟨v,H,I,r,h⟩
 rcases l with⟨hk,hm⟩|⟨hk,c,hc,hcell⟩
 ·exact wpAny_Name (wpAny_loadName_local I.ok.kind hk hn hm fin) hd
 ·rcases hk with hk|hk
  ·exact wpAny_Name (wpAny_loadName_cell I.ok.kind hk hc hcell fin) hd
  ·exact wpAny_Name (wpAny_loadName_free I.ok.kind hk hc hcell fin hcd) hd
theorem ao{i j pos}:PE X (.Constant (.int i) j pos) (tC (.int i)):=λ_ _ _ H _ I h=>wpAny_Constant_int ⟨.int i,H,I.tok _,⟨_,rfl⟩,h⟩
theorem Q1{b j pos}:PE X (.Constant (.bool b) j pos) (tC (.bl b)):=λ_ _ _ H _ I h=>Constant_bool ⟨.bl b,H,I,rfl,h⟩
theorem sQ{j pos}:PE X (.Constant .none j pos) (tC .gc):=λ_ _ _ H _ I h=>Constant_none ⟨.gc,H,I,rfl,h⟩
def Gl(X:Cx)(x:Str):Prop:=X.env.kindOf x=some .globalImplicit
theorem pS{E:iE}{pins:fZ}{s:Shared}{σ:St}{H:Hp}{x:Str}{u:Value}{pos:Pos}{Q:iE}(I:Inv X pins σ H s)(hg:Gl X x)(hm:X.mg x=some u)(h:Q u s)
  (hd:(x==("__debug__":Str))=false:=by decide):wpAny (model X.prog X.w) X.A (eval (.Name x pos) X.env) Q E s:=
 Calls.Name_function_global I.ok.kind hg (Calls.loadGlobal_global (by rw[I.ok.glob];exact I.mod.glob.keeps I.bk) hm h) hd
theorem mm{E:iE}{pins:fZ}{s:Shared}{σ:St}{H:Hp}{x:Str}{u:Value}{pos:Pos}{Q:iE}(I:Inv X pins σ H s)(hg:Gl X x)(hm:X.mg x=none)(hv:bootBuiltins x=some u)(h:Q u s)
  (hn:x≠"__name__":=by decide) (hd:(x==("__debug__":Str))=false:=by decide):wpAny (model X.prog X.w) X.A (eval (.Name x pos) X.env) Q E s:=by
 obtain⟨mb,h1,h2⟩:=I.mod.blt;exact Calls.Name_function_global I.ok.kind hg (Calls.loadGlobal_builtin (by rw[I.ok.glob];exact I.mod.glob.keeps I.bk) hm (by rw[I.ok.blt];exact h1.keeps I.bk) ((h2 x hn).trans hv) h) hd
theorem AZ{x:Str}{v:V}{u:Value}{pos:Pos}(hg:Gl X x)(hm:X.mg x=some u)(r:RelV v u)(hd:(x==("__debug__":Str))=false:=by decide):PE X (.Name x pos) (tC v):=
 λ_ _ _ H _ I h=>pS I hg hm ⟨v,H,I,r,h⟩ hd
variable{a b:Expr}{ta tb:TE}{pos:Pos}
def PC(X:Cx)(op:CmpOp)(a b:Expr)(t:TE):Prop:=
 ∀(pins:fZ)(s:Shared)(σ:St)(H:Hp)(Q:VK),Inv X pins σ H s->t σ H Q->
  wpAny (model X.prog X.w) X.A (eval a X.env) (λv s₁=>wpAny (model X.prog X.w) X.A (eval b X.env) (λu s₂=>wpAny (model X.prog X.w) X.A (compareOp op v u) (EP X pins σ Q) X.xe s₂) X.xe s₁) X.xe s
def tB(t:TE):TT:=λσ H Q=>t σ H λx H1=>∃c,x= .bl c/\Q c H1
theorem RZ{op:CmpOp}{t:TE}(h:PC X op a b t)(h1:behindInMarks op b=false:=by first|exact nobehind _ (by decide) (by decide)|rfl):PT X (.Compare a [op] [b] pos) (tB t):=by
 intro pins s σ H Q I hw;refine wpAny_isTrue_Compare1 (dh (h pins s σ H _ I hw) λv s1 h1=>dh h1 λu s2 h2=>dh h2 λc s3 ⟨x,H1,I1,r1,q1⟩=>?_) h1;obtain⟨d,rfl,q⟩:=q1;cases r1;exact wpAny_truthy_bool ⟨H1,I1,q⟩
theorem iq{e:Expr}{t:TE}(h:PE X e t)(he:∀whole,isTrue e X.env whole=(do let v<-whole;standAt e.pos;holding [v] (truthy v)):=by intro _;rfl):PT X e (tB t):=by
 intro pins s σ H Q I hw;refine isTrue_plain (dh (h pins s σ H _ I hw) λv s1 ⟨x,H1,I1,r1,q1⟩=>?_) (he _);obtain⟨d,rfl,q⟩:=q1;cases r1;exact wpAny_truthy_bool ⟨H1,I1,q⟩
variable{tA tB':TT}{rest:List Expr}
def Ul(t u:TT):TT:=λσ H Q=>t σ H λc H1=>if c=true then u σ H1 Q else Q false H1
def UW(t u:TT):TT:=λσ H Q=>t σ H λc H1=>if c=true then Q true H1 else u σ H1 Q
def Uu(t:TT):TT:=λσ H Q=>t σ H λc H1=>Q (!c) H1
theorem Qt(ha:PT X a tA):PW X (.BoolOp .And [a] pos) tA:=by
 intro wh pins s σ H Q I h;refine isTrue_and (dh (ha pins s σ H Q I h) λc s1 e=>?_);cases c with
 |true=>exact isTrue_and_nil e
 |false=>exact e
theorem JI(ha:PT X a tA):PW X (.BoolOp .Or [a] pos) tA:=by
 intro wh pins s σ H Q I h;refine isTrue_or (dh (ha pins s σ H Q I h) λc s1 e=>?_);cases c with
 |false=>exact isTrue_or_nil e
 |true=>exact e
theorem R0(ha:PT X a tA)(hb:PW X (.BoolOp .And (b::rest) pos) tB'):PW X (.BoolOp .And (a::b::rest) pos) (Ul tA tB'):=by
 intro wh pins s σ H Q I h;refine isTrue_and (dh (ha pins s σ H _ I h) λc s1 ⟨H1,I1,q1⟩=>?_);cases c with
 |true=>exact hb wh pins s1 σ H1 Q I1 q1
 |false=>exact⟨H1,I1,q1⟩
theorem Ow(ha:PT X a tA)(hb:PW X (.BoolOp .Or (b::rest) pos) tB'):PW X (.BoolOp .Or (a::b::rest) pos) (UW tA tB'):=by
 intro wh pins s σ H Q I h;refine isTrue_or (dh (ha pins s σ H _ I h) λc s1 ⟨H1,I1,q1⟩=>?_);cases c with
 |true=>exact⟨H1,I1,q1⟩
 |false=>exact hb wh pins s1 σ H1 Q I1 q1
theorem oz(ha:PT X a tA):PT X (.UnaryOp .Not a pos) (Uu tA):=by
 intro pins s σ H Q I h;exact isTrue_not (ha pins s σ H (λc H1=>Q (!c) H1) I h)
def UU(t:TT)(ta tb:TE):TE:=λσ H Q=>t σ H λc H1=>if c=true then ta σ H1 Q else tb σ H1 Q
theorem HW{c:Expr}(hc:PT X c tA)(ha:PE X a ta)(hb:PE X b tb):PE X (.IfExp c a b pos) (UU tA ta tb):=by
 intro pins s σ H Q I h;refine wpAny_IfExp (dh (hc pins s σ H _ I h) λd s1 ⟨H1,I1,q1⟩=>?_);cases d with
 |true=>exact ha pins s1 σ H1 Q I1 q1
 |false=>exact hb pins s1 σ H1 Q I1 q1
end
end L2
namespace L2
open PySem PySem.Spec PyProof.Rows
def aH(K:PySem.W.Frag)(H:Hp)(a:Addr)(xs:List V):Prop:=
 Rd H a (.lst xs)\/
  ∃(o:Obj)(its:Array Value)(n:Nat),K.lookup a=some o/\o.cls= .type "list"/\o.dict=none/\o.data= .seq its n/\its.size<=sizeLine/\Vals xs its.toList
def ra(K:PySem.W.Frag)(H:Hp)(a:Addr)(xs:List V):Prop:=
 Rd H a (.tup xs)\/
  ∃(o:Obj)(its:Array Value)(n:Nat),K.lookup a=some o/\o.cls= .type "tuple"/\o.data= .seq its n/\its.size<=sizeLine/\Vals xs its.toList
def TK:Value->Option V
 | .none=>some .gc
 | .bool b=>some (.bl b)
 | .int i _=>some (.int i)
 | .str x _=>some (.str x)
 | .bytes b _=>some (.GC b)
 | .float b _=>some (.flt b)
 | .ref a=>some (.ref a)
 | .type n=>some (.ty n)
 |_=>none
theorem RelV.abs{x:V}{u:Value}(r:RelV x u):TK u=some x:=by
 cases x with
 |gc=>cases r;rfl
 |bl _=>cases r;rfl
 |int _=>obtain⟨t,rfl⟩:=r;rfl
 |str _=>obtain⟨t,rfl⟩:=r;rfl
 |GC _=>obtain⟨t,rfl⟩:=r;rfl
 |flt _=>obtain⟨t,rfl⟩:=r;rfl
 |ref _=>cases r;rfl
 |ty _=>cases r;rfl
theorem RelV.inj{x y:V}{u:Value}(r:RelV x u)(q:RelV y u):x=y:=Option.some.inj (r.abs.symm.trans q.abs)
theorem Vals.inj:∀{xs ys:List V}{us:List Value},Vals xs us->Vals ys us->xs=ys
 |_,_,_,.nil,.nil=>rfl
 |_,_,_,.cons r t,.cons r' t'=>by rw[r.inj r',Vals.inj t t']
section
variable{X:Cx}{pins:fZ}{σ:St}{H:Hp}{s:Shared}{a:Addr}{xs ys:List V}
theorem aH.of{K:PySem.W.Frag}(h:H a=some (.lst xs)):aH K H a xs:= .inl (.inl h)
theorem ra.of{K:PySem.W.Frag}(h:H a=some (.tup xs)):ra K H a xs:= .inl (.inl h)
theorem Inv.list(I:Inv X pins σ H s)(h:aH X.K H a xs):∃its:List Value,Vals xs its/\PlainL s.heap a its.toArray/\xs.length<=sizeLine:=by
 rcases h with h|⟨o,its,n,hk,hc,hd,hs,hz,r⟩
 ·obtain⟨z,its,n,r,e⟩:=h.ok I.bS;exact⟨its,r,⟨_,n,e,rfl,rfl,rfl⟩,z⟩
 ·refine⟨its.toList,r,⟨o,n,I.vS a o hk,hc,hd,by simpa using hs⟩,?_⟩;have e:=r.length;simp only[length_toList]at e;omega
theorem Inv.tuple(I:Inv X pins σ H s)(h:ra X.K H a xs):∃its:List Value,Vals xs its/\IsTup s.heap a its.toArray/\xs.length<=sizeLine:=by
 rcases h with h|⟨o,its,n,hk,hc,hs,hz,r⟩
 ·obtain⟨z,its,r,p⟩:=h.ok I.bS;exact⟨its,r,p,z⟩
 ·refine⟨its.toList,r,⟨o,I.vS a o hk,hc,n,by simpa using hs⟩,?_⟩;have e:=r.length;simp only[length_toList]at e;omega
theorem Inv.oN(I:Inv X pins σ H s)(h:aH X.K H a xs)(h':aH X.K H a ys):xs=ys:=by
 obtain⟨its,r,⟨o,n,e,_,_,d⟩,_⟩:=I.list h;obtain⟨its',r',⟨o',n',e',_,_,d'⟩,_⟩:=I.list h';rw[e]at e';cases e';rw[d]at d';injection d' with d1 _
 have:its=its':=by simpa using congrArg toList d1
 subst this;exact r.inj r'
end
abbrev Cx.pB(X:Cx)(E:iE):Cx:={X with xe:=E}
abbrev Cx.Q0(X:Cx):Cx:=X.pB λ_ _=>False
theorem Cx.Ok.pB{X:Cx}(ok:X.Ok)(E:iE):(X.pB E).Ok:=
 ⟨ok.mod,ok.kind,ok.glob,ok.blt,ok.above,ok.inj,ok.has,ok.Si,ok.hd,ok.frames,ok.Gp,ok.SD,ok.bs,ok.M3,ok.LX,ok.Ly,ok.yf,ok.QY⟩
theorem Cx.Ok.ka{X:Cx}{E:iE}(ok:(X.pB E).Ok):X.Ok:=
 ⟨ok.mod,ok.kind,ok.glob,ok.blt,ok.above,ok.inj,ok.has,ok.Si,ok.hd,ok.frames,ok.Gp,ok.SD,ok.bs,ok.M3,ok.LX,ok.Ly,ok.yf,ok.QY⟩
section
variable{X:Cx}{pins:fZ}{σ:St}{H:Hp}{s:Shared}{E:iE}
theorem Inv.pB(I:Inv X pins σ H s)(E:iE):Inv (X.pB E) pins σ H s:=⟨I.ok.pB E,I.os,I.bare,I.base,I.loc,I.cell,I.free,I.kX,I.pin,I.bS,I.len⟩
theorem Inv.ka(I:Inv (X.pB E) pins σ H s):Inv X pins σ H s:=⟨I.ok.ka,I.os,I.bare,I.base,I.loc,I.cell,I.free,I.kX,I.pin,I.bS,I.len⟩
theorem SP.ka{D:Ends}{f:Flow}{s':Shared}(h:SP (X.pB E) pins D f s'):SP X pins D f s':=by
 cases f with
 |next=>obtain⟨σ',H',I,q⟩:=h;exact⟨σ',H',I.ka,q⟩
 |brk=>obtain⟨σ',H',I,q⟩:=h;exact⟨σ',H',I.ka,q⟩
 |cont=>obtain⟨σ',H',I,q⟩:=h;exact⟨σ',H',I.ka,q⟩
 |ret u=>obtain⟨v,σ',H',I,r,q⟩:=h;exact⟨v,σ',H',I.ka,r,q⟩
theorem E3.Q0{st:List Stmt}{t:TS}(h:E3 X.Q0 st t):E3 X st t:=λpins s σ H D I hw=>
 wpAny_mono (h pins s σ H D (I.pB _) hw) (λ_ _ q=>q.ka) λ_ _ z=>False.elim z
end
section
variable{X:Cx}{st:Stmt}{rest:List Stmt}{t u:TS}{e:Expr}{te:TE}{pos:Pos}
def Tb:TS:=λD σ H=>D.nx σ H
def Ux(t u:TS):TS:=λD σ H=>t {D with nx:=u D} σ H
theorem bL:E3 X [] Tb:=λ_ _ σ H _ I h=>wpAny_execs_nil ⟨σ,H,I,h⟩
theorem ag(h1:PS X st t)(h2:E3 X rest u):E3 X (st::rest) (Ux t u):=by
 intro pins s σ H D I h;refine wpAny_execs_cons (dh (h1 pins s σ H {D with nx:=u D} I h) λf s1 q=>?_);cases f with
 |next=>
  obtain⟨σ',H',I',q⟩:=q;exact h2 pins s1 σ' H' D I' q
 |ret v=>exact q
 |brk=>exact q
 |cont=>exact q
theorem ai(h1:PS X st t):E3 X [st] t:=by
 intro pins s σ H D I h;refine wpAny_execs_cons (dh (h1 pins s σ H D I h) λf s1 q=>?_);cases f with
 |next=>exact wpAny_execs_nil q
 |ret v=>exact q
 |brk=>exact q
 |cont=>exact q
theorem Inv.quiet{pins:fZ}{σ:St}{H:Hp}{s:Shared}(I:Inv X pins σ H s):interactive X.env=false:=by simp[interactive,I.ok.kind]
def S7(te:TE):TS:=λD σ H=>te σ H λ_ H1=>D.nx σ H1
theorem aM(he:PE X e te)(hs:swapsWith e none pos.line X.env=pure false:=by rfl):PS X (.Expr e pos) (S7 te):=by
 intro pins s σ H D I h;exact wpAny_Expr_any (dh (he pins s σ H _ I h) λv s1 ⟨x,H1,I1,r1,q1⟩=>⟨σ,H1,I1,q1⟩) I.quiet hs
def Uv(te:TE):TS:=λD σ H=>te σ H D.rt
theorem aB(he:PE X e te):PS X (.Return (some e) pos) (Uv te):=by
 intro pins s σ H D I h;exact wpAny_Return_some (dh (he pins s σ H _ I h) λv s1 ⟨x,H1,I1,r1,q1⟩=>⟨x,σ,H1,I1,r1,q1⟩)
def Uq(c:TT)(t u:TS):TS:=λD σ H=>c σ H λb H1=>if b=true then t D σ H1 else u D σ H1
theorem eP{c:Expr}{a b:List Stmt}{tc:TT}(hc:PT X c tc)(ha:E3 X a t)(hb:E3 X b u):PS X (.If c a b pos) (Uq tc t u):=by
 intro pins s σ H D I h;refine wpAny_If (dh (hc pins s σ H _ I h) λd s1 ⟨H1,I1,q1⟩=>?_);cases d with
 |true=>exact ha pins s1 σ H1 D I1 q1
 |false=>exact hb pins s1 σ H1 D I1 q1
end
abbrev TG:=V->St->Hp->(St->Hp->Prop)->Prop
abbrev Rf:=List V->St->Hp->(St->Hp->Prop)->Prop
def PG(X:Cx)(target:Expr)(t:TG):Prop:=
 ∀(pins:fZ)(s:Shared)(σ:St)(H:Hp)(v:V)(u:Value)(Q:St->Hp->Prop),Inv X pins σ H s->RelV v u->t v σ H Q->
  wpAny (model X.prog X.w) X.A (assign target X.env u) (λ_ s'=>∃σ' H',Inv X pins σ' H' s'/\Q σ' H') X.xe s
def Ti(X:Cx)(ts:List Expr)(t:Rf):Prop:=
 ∀(pins:fZ)(s:Shared)(σ:St)(H:Hp)(vs:List V)(us:List Value)(Q:St->Hp->Prop),Inv X pins σ H s->Vals vs us->t vs σ H Q->
  wpAny (model X.prog X.w) X.A (assignInOrder ((assignEach ts X.env).map (·.2)) us) (λ_ s'=>∃σ' H',Inv X pins σ' H' s'/\Q σ' H') X.xe s
abbrev MK:=V->V->V->Hp->(Hp->Prop)->Prop
def Rc(X:Cx)(t:MK):Prop:=
 ∀(pins:fZ)(s:Shared)(σ:St)(H:Hp)(o i v:V)(ov iv u:Value)(Q:Hp->Prop),Inv X pins σ H s->RelV o ov->RelV i iv->RelV v u->t o i v H Q->
  wpAny (model X.prog X.w) X.A (setItem ov iv u) (λ_ s'=>∃H',Inv X pins σ H' s'/\Q H') X.xe s
abbrev Rg:=V->V->Hp->VK->Prop
def Sr(X:Cx)(op:Operator)(t:Rg):Prop:=
 ∀(pins:fZ)(s:Shared)(σ:St)(H:Hp)(x y:V)(v u:Value)(Q:VK),Inv X pins σ H s->RelV x v->RelV y u->t x y H Q->
  wpAny (model X.prog X.w) X.A (inplaceOp op v u) (EP X pins σ Q) X.xe s
section
variable{X:Cx}{pos:Pos}
def fu(i:Nat):TG:=λv σ H Q=>Q (σ.set i (some v)) H
theorem Ql{i:Nat}{x:Str}(hN:X.N.Nodup)(hi:X.N[i]?=some x)(hx:Loc X.env.scope x)(hf:X.fn x=true\/X.env.scope.names.lookup x=some .local:=by first|exact .inl rfl|exact .inr rfl|assumption):PG X (.Name x pos) (fu i):=by
 intro pins s σ H v u Q I r h;exact wpAny_assign_Name (C1 I hN hi hx r (λs' I'=>⟨_,H,I',h⟩) hf)
def z4:Rf:=λvs σ H Q=>vs=[]/\Q σ H
def ib(t:TG)(u:Rf):Rf:=λvs σ H Q=>∃v r,vs=v::r/\t v σ H λσ' H'=>u r σ' H' Q
theorem gI:Ti X [] z4:=by
 intro pins s σ H vs us Q I r h;obtain⟨e,h⟩:=h;subst e;cases r;exact assignInOrder_nil ⟨σ,H,I,h⟩
theorem bg{e:Expr}{es:List Expr}{t:TG}{u:Rf}(h1:PG X e t)(h2:Ti X es u)
  (hs:(assignEach (e::es) X.env).map (·.2)=assign e X.env::(assignEach es X.env).map (·.2):=by rfl):Ti X (e::es) (ib t u):=by
 intro pins s σ H vs us Q I r h;obtain⟨v,vr,e1,h⟩:=h;subst e1;cases r with
 |cons r rr=>
  rw[hs];refine assignInOrder_cons (dh (h1 pins s σ H _ _ _ I r h) λ_ s1 ⟨σ1,H1,I1,q1⟩=>?_);exact h2 pins s1 σ1 H1 _ _ Q I1 rr q1
def z5(K:PySem.W.Frag)(n:Nat)(t:Rf):TG:=λv σ H Q=>∃a xs,v= .ref a/\ra K H a xs/\xs.length=n/\t xs σ H Q
theorem iX{es:List Expr}{k:Nat}{t:Rf}{n:Nat}(hc:X.calm=true)(h:Ti X es t)
  (hn:(assignEach es X.env).length=n:=by rfl) (hst:(assignEach es X.env).findIdx? (·.1)=none:=by rfl):PG X (.Tuple es k pos) (z5 X.K n t):=by
 intro pins s σ H v u Q I r hw;obtain⟨a,xs,e1,hq,hl,hw⟩:=hw;subst e1;cases r;obtain⟨its,rv,ht,hz⟩:=I.tuple hq;refine assign_Tuple_tuple (I.ok.hd hc) ht (by simp[hn,<-hl,rv.length]) hst λh' hx=>?_;have I1:Inv X pins σ H {s with heap:=h'}:=I.kept (t':=s.toks) λb o e=>hx b o (ne_of_lt (lt_size e)) e;exact h pins _ σ H xs _ Q I1 (by simpa using rv) hw
def TU(to ti:TE)(t:MK):TG:=λv σ H Q=>to σ H λo H1=>ti σ H1 λi H2=>t o i v H2 λH3=>Q σ H3
theorem Oo{o i:Expr}{to ti:TE}{t:MK}(ho:PE X o to)(hi:PE X i ti)(hs:Rc X t)
  (ha:∀v,assign (.Subscript o i pos) X.env v=(do
   let ov<-holding [v] (eval o X.env)
   let iv<-holding [v,ov] (eval i X.env)
   standAt pos
   holding [v,ov,iv] (setItem ov iv v)
   release [v,ov,iv] []):=by intro _;rfl):PG X (.Subscript o i pos) (TU to ti t):=by
 intro pins s σ H v u Q I r h;rw[ha];refine wpAny_bind (wpAny_holding (dh (ho pins s σ H _ I h) λov s1 ⟨x,H1,I1,r1,q1⟩=>?_));refine wpAny_bind (wpAny_holding (dh (hi pins s1 σ H1 _ I1 q1) λiv s2 ⟨y,H2,I2,r2,q2⟩=>?_));refine wpAny_bind (wpAny_standAt (wpAny_bind (wpAny_holding (dh (hs pins s2 σ H2 x y v ov iv u _ I2 r1 r2 r q2) λ_ s3 ⟨H3,I3,q3⟩=>?_))));exact wpAny_release ⟨σ,H3,I3,q3⟩
def OT(te:TE)(g:TG):TS:=λD σ H=>te σ H λx H1=>g x σ H1 D.nx
theorem Ov{tg e:Expr}{te:TE}{g:TG}(he:PE X e te)(hg:PG X tg g)(hs:swapsWithSole [tg] e pos.line X.env=pure false:=by rfl)(hw:swappedStores [tg] e X.env=pure none:=by rfl)
  (h1:(assignEach [tg] X.env).map (·.2)=[assign tg X.env]:=by rfl):PS X (.Assign [tg] e pos) (OT te g):=by
 intro pins s σ H D I h;refine wpAny_Assign_stores (dh (he pins s σ H _ I h) λv s1 ⟨x,H1,I1,r1,q1⟩=>?_) hs hw;rw[h1];exact dh (hg pins s1 σ H1 x v _ I1 r1 q1) λ_ s2 q=>q
theorem RY{i:Nat}{x:Str}{e:Expr}{te:TE}{pos':Pos}(hN:X.N.Nodup)(hi:X.N[i]?=some x)(hx:Loc X.env.scope x)(he:PE X e te)(hs:swapsWith e (some (.Name x pos')) pos.line X.env=pure false:=by rfl)(hf:X.fn x=true\/X.env.scope.names.lookup x=some .local:=by first|exact .inl rfl|exact .inr rfl|assumption):
  PS X (.Assign [.Name x pos'] e pos) (OT te (fu i)):=by
 intro pins s σ H D I h;refine wpAny_Assign_Name (dh (he pins s σ H _ I h) λv s1 ⟨y,H1,I1,r1,q1⟩=>?_) hs;exact C1 I1 hN hi hx r1 (λs2 I2=>⟨_,H1,I2,q1⟩) hf
def Um(i:Nat)(te:TE)(ti:Rg):TS:=λD σ H=>∃x,σ[i]?=some (some x)/\te σ H λy H1=>ti x y H1 λz H2=>D.nx (σ.set i (some z)) H2
theorem yz{i:Nat}{x:Str}{e:Expr}{te:TE}{op:Operator}{ti:Rg}{pos':Pos}(hN:X.N.Nodup)(hi:X.N[i]?=some x)(hx:Loc X.env.scope x)(he:PE X e te)(ho:Sr X op ti)(hf:X.fn x=true\/X.env.scope.names.lookup x=some .local:=by first|exact .inl rfl|exact .inr rfl|assumption):
  PS X (.AugAssign (.Name x pos') op e pos) (Um i te ti):=by
 intro pins s σ H D I h;obtain⟨v,e1,h⟩:=h;obtain⟨m,hn,hl⟩:=I.loc;have vis:Rh X.env.scope x:=by rcases hx with k|k;exact .inl k;exact .inr (.inl k)
 obtain⟨u,r,l⟩:=hl i x v hi e1 vis;refine wpAny_AugAssign_Name ?_;have go:wpAny (model X.prog X.w) X.A (eval e X.env) (λw s₂=>wpAny (model X.prog X.w) X.A (inplaceOp op u w) (λr s₃=>wpAny (model X.prog X.w) X.A (storeName X.env x r) (λ_=>SP X pins D .next) X.xe s₃) X.xe s₂) X.xe s:=by
  refine dh (he pins s σ H _ I h) λw s1 ⟨y,H1,I1,r1,q1⟩=>?_;refine dh (ho pins s1 σ H1 v y u w _ I1 r r1 q1) λz s2 ⟨zv,H2,I2,r2,q2⟩=>?_;exact C1 I2 hN hi hx r2 (λs3 I3=>⟨_,H2,I3,q2⟩) hf
 rcases l with⟨hk,hm⟩|⟨hk,c,hc,hcell⟩
 ·exact wpAny_loadName_local I.ok.kind hk hn hm go
 ·rcases hk with hk|hk
  ·exact wpAny_loadName_cell I.ok.kind hk hc hcell go
  ·rcases hx with k|k
   ·have:X.env.scope.names.lookup x=some .free:=hk;rw[k]at this;cases this
   ·have:X.env.scope.names.lookup x=some .free:=hk;rw[k]at this;cases this
def S6(to ti te:TE)(tget:V->V->Hp->VK->Prop)(tip:Rg)(tset:MK):TS:=λD σ H=>to σ H λo H1=>ti σ H1 λi H2=>tget o i H2 λx H3=>te σ H3 λy H4=>tip x y H4 λz H5=>tset o i z H5 λH6=>D.nx σ H6
def Sq(X:Cx)(t:V->V->Hp->VK->Prop):Prop:=
 ∀(pins:fZ)(s:Shared)(σ:St)(H:Hp)(o i:V)(ov iv:Value)(Q:VK),Inv X pins σ H s->RelV o ov->RelV i iv->t o i H Q->
  wpAny (model X.prog X.w) X.A (getItem ov iv) (EP X pins σ Q) X.xe s
theorem A0{o i e:Expr}{to ti te:TE}{tget:V->V->Hp->VK->Prop}{tip:Rg}{tset:MK}{op:Operator}{tpos:Pos}(ho:PE X o to)(hi:PE X i ti)(hg:Sq X tget)(he:PE X e te)(hp:Sr X op tip)(hs:Rc X tset)
  (ha:∀ov iv new,augStore i ov iv new=(do holding [new,ov,iv] (setItem ov iv new);release [new,ov,iv] [];pure .next):=by intros;rfl):PS X (.AugAssign (.Subscript o i tpos) op e pos) (S6 to ti te tget tip tset):=by
 intro pins s σ H D I h;refine wpAny_AugAssign_SubscriptAny (dh (ho pins s σ H _ I h) λov s1 ⟨x1,H1,I1,r1,q1⟩=>?_) ha;refine dh (hi pins s1 σ H1 _ I1 q1) λiv s2 ⟨x2,H2,I2,r2,q2⟩=>?_;refine dh (hg pins s2 σ H2 x1 x2 ov iv _ I2 r1 r2 q2) λold s3 ⟨x3,H3,I3,r3,q3⟩=>?_;refine dh (he pins s3 σ H3 _ I3 q3) λv s4 ⟨x4,H4,I4,r4,q4⟩=>?_;refine dh (hp pins s4 σ H4 x3 x4 old v _ I4 r3 r4 q4) λnew s5 ⟨x5,H5,I5,r5,q5⟩=>?_;exact dh (hs pins s5 σ H5 x1 x2 x5 ov iv new _ I5 r1 r2 r5 q5) λ_ s6 ⟨H6,I6,q6⟩=>⟨σ,H6,I6,q6⟩
def UG(f:Int->Int->Int):Rg:=λx y H Q=>∃i j,x= .int i/\y= .int j/\Q (.int (f i j)) H
theorem vR:Sr X .Add (UG λi j=>i+j):=by
 intro pins s σ H x y v u Q I r1 r2 h;obtain⟨i,j,e1,e2,q⟩:=h;subst e1;subst e2;obtain⟨t,rfl⟩:=r1;obtain⟨t',rfl⟩:=r2;exact iadd_int ⟨.int _,H,I.tok _,⟨_,rfl⟩,q⟩
theorem Ny:Sr X .Sub (UG λi j=>i-j):=by
 intro pins s σ H x y v u Q I r1 r2 h;obtain⟨i,j,e1,e2,q⟩:=h;subst e1;subst e2;obtain⟨t,rfl⟩:=r1;obtain⟨t',rfl⟩:=r2;exact isub_int ⟨.int _,H,I.tok _,⟨_,rfl⟩,q⟩
end
section
variable{X:Cx}{pos:Pos}
def OW(c:TT)(tb:TS):TS:=λD σ H=>∃W:Nat->St->Hp->Prop,(∃m,W m σ H)/\∀m σ H,W m σ H->
 c σ H λb H1=>if b=true then∃N:St->Hp->Prop,(∀σ' H',N σ' H'->∃m',m'<m/\W m' σ' H')/\tb {D with nx:=N,ct:=N,bk:=D.nx} σ H1 else D.nx σ H1
theorem sU{c:Expr}{body:List Stmt}{tc:TT}{tb:TS}(hp:PassesOwn (model X.prog X.w) X.A X.env X.xe)(hc:PT X c tc)(hb:E3 X body tb):PS X (.While c body [] pos) (OW tc tb):=by
 intro pins s σ H D I h;obtain⟨W,⟨m0,w0⟩,turn⟩:=h;refine wpAny_While (codeAny_whileLoop (λn s'=>∃σ' H',Inv X pins σ' H' s'/\W n σ' H') ?_ m0 ⟨σ,H,I,w0⟩);rintro n s1 ⟨σ1,H1,I1,w1⟩;refine wpAny_passesOwn hp (dh (hc pins s1 σ1 H1 _ I1 (turn n σ1 H1 w1)) λb s2 ⟨H2,I2,q2⟩=>?_);cases b with
 |true=>
  obtain⟨N,hN,q2⟩:=q2;rw[if_pos rfl];refine wpAny_passesOwn hp (dh (hb pins s2 σ1 H2 _ I2 q2) λf s3 q3=>?_);cases f with
  |next=>
   obtain⟨σ3,H3,I3,n3⟩:=q3;obtain⟨m',hm,w3⟩:=hN σ3 H3 n3;exact⟨m',hm,σ3,H3,I3,w3⟩
  |cont=>
   obtain⟨σ3,H3,I3,n3⟩:=q3;obtain⟨m',hm,w3⟩:=hN σ3 H3 n3;exact⟨m',hm,σ3,H3,I3,w3⟩
  |brk=>exact q3
  |ret v=>exact q3
 |false=>
  rw[if_neg Bool.false_ne_true];exact wpAny_execs_nil ⟨σ1,H2,I2,q2⟩
end
structure It where
 go:Nat->Hp->Prop
 Pa:Nat->Hp->V->Hp->Prop
 stop:Nat->Hp->Prop
def zQ(X:Cx)(pins:fZ)(H:Hp)(b:Addr):Prop:=
 H b=none/\b≠X.env.locals/\b∉X.fs/\(b∈X.ex\/X.oV.heap.objs.size<=b)/\(∀x c,X.env.cells.lookup x=some c->c≠b)/\∀p∈X.pn++pins,p.1≠b
theorem Inv.Jm{X:Cx}{pins:fZ}{σ:St}{H H':Hp}{s:Shared}{b:Addr}(I:Inv X pins σ H s)(hb:s.heap.objs.size<=b)(hn:H' b=none):zQ X pins H' b:=by
 refine⟨hn,ne_of_gt (lt_of_lt_of_le I.lt hb),I.T8 hb,.inr (le_trans I.sz hb),λx c e z=>?_,λp hp z=>?_⟩
 ·obtain⟨v,q⟩:=I.cell x c e;exact absurd (lt_of_lt_of_le q.lt (by rw[z];exact hb)) (lt_irrefl _)
 ·exact absurd (lt_of_lt_of_le (lt_size (I.pin p hp).1) (by rw[z];exact hb)) (lt_irrefl _)
structure Turn(P:Program)(w:World)(K:PySem.W.Frag)(tg:Expr)(J:It)(fp:List Addr)(it:Addr)(tn:Nat->Heap->Prop):Prop where
 mem:it∈fp
 obj:∀i h,tn i h->∀b∈fp,∃o,h.get? b=some o/\∀v,o.data≠.cell v
 keep:∀i h h',tn i h->(∀b∈fp,∀o,h.get? b=some o->h'.get? b=some o)->tn i h'
 item:∀(X:Cx),X.prog=P->X.w=w->X.K=K->X.calm=true->∀(i:Nat)(pins:fZ)(s:Shared)(σ:St)(H:Hp)(E:iE),Inv X pins σ H s->(∀b∈fp,zQ X pins H b)->tn i s.heap->J.go i H->
  wpAny (model P w) X.A (pyNext (.ref it)) (λr s1=>∃u,r=some u/\
   wpAny (model P w) X.A (letOwnedTupleGo tg (.ref it) u) (λ_ s2=>∃x H',Inv X pins σ H' s2/\RelV x u/\J.Pa i H x H'/\tn (i+1) s2.heap/\∀b∈fp,H' b=none) E s1) E s
 done:∀(X:Cx),X.prog=P->X.w=w->X.K=K->X.calm=true->∀(i:Nat)(pins:fZ)(s:Shared)(σ:St)(H:Hp)(E:iE),Inv X pins σ H s->(∀b∈fp,zQ X pins H b)->tn i s.heap->J.stop i H->
  wpAny (model P w) X.A (pyNext (.ref it)) (λr s1=>r=none/\Inv X pins σ H s1) E s
 self:∀(A:Around)(i:Nat)(s:Shared)(Q:iE)(E:iE),tn i s.heap->Q (.ref it) s->wpAny (model P w) A (pyIter (.ref it)) Q E s
abbrev TI:=St->Hp->(It->Hp->Prop)->Prop
def Tj(X:Cx)(pins:fZ)(σ:St)(tg:Expr)(R:It->Hp->Prop)(itv:Value)(s2:Shared):Prop:=
 ∃(it:Addr)(fp:List Addr)(tn:Nat->Heap->Prop)(J:It)(H':Hp),itv= .ref it/\Inv X pins σ H' s2/\Turn X.prog X.w X.K tg J fp it tn/\tn 0 s2.heap/\(∀b∈fp,zQ X pins H' b)/\R J H'
def PI(X:Cx)(tg iter:Expr)(wi:TI):Prop:=
 ∀(pins:fZ)(s:Shared)(σ:St)(H:Hp)(R:It->Hp->Prop),Inv X pins σ H s->wi σ H R->
  wpAny (model X.prog X.w) X.A (eval iter X.env) (λv s1=>wpAny (model X.prog X.w) X.A (pyIter v) (Tj X pins σ tg R) X.xe s1) X.xe s
theorem Ku{M:Model}{A:Around}{E:iE}{s:Shared}{tg:Expr}{it:Addr}{u:Value}{o:Obj}{n:String}{vs:Array Value}{Q:Unit->Shared->Prop}(ho:s.heap.get? it=some o)(hc:o.cls= .type n)(hd:o.data= .fields vs)
  (hn:["enumerate","zip","dict_itemiterator","dict_reverseitemiterator","odict_iterator","itertools.zip_longest","itertools.pairwise"].contains n=false) (hQ:Q () s):wpAny M A (letOwnedTupleGo tg (.ref it) u) Q E s:=by
 unfold letOwnedTupleGo;cases tg<;>first
  |exact wpAny_pure hQ
  |(cases u<;>first
    |exact wpAny_pure hQ
    |(refine wpAny_bind (wpAny_load ho ?_)
      rw[hc,hd];show wpAny M A (if(["enumerate","zip","dict_itemiterator","dict_reverseitemiterator","odict_iterator","itertools.zip_longest","itertools.pairwise"].contains n&&vs[0]?==some (rawInt _))=true then _ else _) Q E s;rw[if_neg (by intro h;rw[hn,Bool.false_and]at h;cases h)]
      exact wpAny_pure hQ))
def Tx(K:PySem.W.Frag)(a:Addr):It:=
 ⟨λi H=>∃xs x,aH K H a xs/\xs[i]?=some x,λi H x H'=>H'=H/\∀xs,aH K H a xs->xs[i]?=some x,λi H=>∃xs,aH K H a xs/\xs.length<=i⟩
def Pd(lo:Int)(n:Nat):It:=⟨λi _=>i<n,λi H x H'=>H'=H/\x= .int (lo+i),λi _=>n<=i⟩
theorem Ms{P:Program}{w:World}{K:PySem.W.Frag}{tg:Expr}(a it:Addr):Turn P w K tg (Tx K a) [it] it (λi h=>h.IsListIter it a i)where
 mem:=by simp
 obj:=λi h st b hb=>by
  have e:b=it:=by simpa using hb
  subst e;obtain⟨o,e,c,d⟩:=st;exact⟨o,e,λv z=>by rw[d]at z;cases z⟩
 keep:=λi h h' st k=>st.at λo e=>k it (by simp) o e
 item:=by
  intro X hP hw hK hc i pins s σ H E I hf st hg;subst hP hw hK;obtain⟨xs,x,hq,hx⟩:=hg;obtain⟨its,rv,p,hz⟩:=I.list hq;obtain⟨u,hu,ru⟩:=rv.get hx;obtain⟨f0,f1,f2,f3,f4,f5⟩:=hf it (by simp);refine wpAny_pyNext_list_item st p.isList (x:=u) (by simpa using hu) λh' st' sb=>?_;have I1:Inv X pins σ H {s with heap:=h'}:=I.turned (t':=s.toks) (λb o hb e=>(sb.2 b hb).trans e) f0 f1 f3 f4 f5;obtain⟨o,e,c,d⟩:=id st';exact⟨u,rfl,Ku (s:={s with heap:=h'}) e c d (by decide) ⟨x,H,I1,ru,⟨rfl,λys hy=>by rw[I.oN hy hq];exact hx⟩,st',λb hb=>(hf b hb).1⟩⟩
 done:=by
  intro X hP hw hK hc i pins s σ H E I hf st hg;subst hP hw hK;obtain⟨xs,hq,hx⟩:=hg;obtain⟨its,rv,p,hz⟩:=I.list hq;obtain⟨f0,f1,f2,f3,f4,f5⟩:=hf it (by simp);have hl:=rv.length;exact wpAny_pyNext_list_end (I.ok.hd hc) st p.isList (by simp;omega) λh' eb=>⟨rfl,I.turned (t':=s.toks) (λb o hb e=>eb b o hb e) f0 f1 f3 f4 f5⟩
 self:=λ_ _ _ _ _ st h=>wpAny_pyIter_listiter st h
theorem JZ{P:Program}{w:World}{K:PySem.W.Frag}{tg:Expr}(it:Addr)(lo:Int)(n:Nat):Turn P w K tg (Pd lo n) [it] it (λi h=>IsRangeIter h it (lo+(i:Nat)*1) ((n:Int)-(i:Nat)) 1)where
 mem:=by simp
 obj:=λi h st b hb=>by
  have e:b=it:=by simpa using hb
  subst e
  exact⟨_,st,λv z=>by
   have z':Data.fields _=Data.cell v:=z
   cases z'⟩
 keep:=λi h h' st k=>k it (by simp) _ st
 item:=by
  intro X hP hw hK hc i pins s σ H E I hf st hg;subst hP hw hK;obtain⟨f0,f1,f2,f3,f4,f5⟩:=hf it (by simp);have W:=Walks.range (prog:=X.prog) (w:=X.w) (I.ok.hd hc) it lo 1 n;refine W.item i s _ _ hg st λv h' tk hv st' kk=>?_;obtain⟨t,rfl⟩:=hv;have I1:Inv X pins σ H {s with heap:=h',toks:=tk}:=I.turned (λb o hb e=>kk b o (by simpa using hb) e) f0 f1 f3 f4 f5;refine⟨_,rfl,Ku (s:={s with heap:=h',toks:=tk}) (n:="range_iterator") st' rfl rfl (by decide) ⟨.int (lo+i),H,I1,⟨t,?_⟩,⟨rfl,rfl⟩,st',λb hb=>(hf b hb).1⟩⟩;rw[Int.mul_one]
 done:=by
  intro X hP hw hK hc i pins s σ H E I hf st hg;subst hP hw hK;obtain⟨f0,f1,f2,f3,f4,f5⟩:=hf it (by simp);exact wpAny_pyNext_range_end (I.ok.hd hc) st (by have:n<=i:=hg;omega) λh' eb=>⟨rfl,I.turned (t':=s.toks) (λb o hb e=>eb b o hb e) f0 f1 f3 f4 f5⟩
 self:=λ_ _ _ _ _ st h=>wpAny_pyIter_rangeiter st h
end L2
namespace L2
open PySem PySem.Spec PyProof.Rows
section
variable{X:Cx}{tg:Expr}
def SI(K:PySem.W.Frag)(tl:TE):TI:=λσ H R=>tl σ H λx H1=>∃a,x= .ref a/\(∃xs,aH K H1 a xs)/\R (Tx K a) H1
theorem bp{l:Expr}{tl:TE}(hl:PE X l tl):PI X tg l (SI X.K tl):=by
 intro pins s σ H R I h;refine dh (hl pins s σ H _ I h) λv s1 ⟨x,H1,I1,r1,q1⟩=>?_;obtain⟨a,e,⟨xs,hq⟩,q⟩:=q1;subst e;cases r1;obtain⟨its,rv,p,hz⟩:=I1.list hq;refine wpAny_pyIter_list p.isList ?_;refine⟨s1.heap.objs.size,[s1.heap.objs.size],_,_,H1,rfl,I1.kept (t':=s1.toks) λb o e=>get?_push_of_some _ e,Ms a _,⟨_,get?_push_size _ rfl,rfl,rfl⟩,λb hb=>?_,q⟩;have e:b=s1.heap.objs.size:=by simpa using hb
 subst e;exact I1.Jm (le_refl _) (I1.bS.fresh (le_refl _))
theorem Ib{pins:fZ}{σ:St}{H:Hp}{s:Shared}{R:It->Hp->Prop}{E:iE}{lo hi:Int}{t u v:Tok}{tk:Nat}(I:Inv X pins σ H s)(h1: -(2^62)<=lo)(h2:lo<2^62)(h3: -(2^62)<=hi)(h4:hi<2^62)
  (q:R (Pd lo (hi-lo).toNat) H):wpAny (model X.prog X.w) X.A (pyIter (.ref s.heap.objs.size)) (Tj X pins σ tg R) E {s with heap:=s.heap.push {cls:= .type "range",data:= .fields #[.int lo t,.int hi u,.int 1 v]},toks:=tk}:=by
 refine wpAny_pyIter_range (IsRange.new ..) (small_one h1 h2 h3 h4) ?_;have I1:Inv X pins σ H {s with heap:=s.heap.push {cls:= .type "range",data:= .fields #[.int lo t,.int hi u,.int 1 v]},toks:=tk}:=I.kept λb o e=>get?_push_of_some _ e
 refine⟨(s.heap.push {cls:= .type "range",data:= .fields #[.int lo t,.int hi u,.int 1 v]}).objs.size,[(s.heap.push {cls:= .type "range",data:= .fields #[.int lo t,.int hi u,.int 1 v]}).objs.size],_,_,H,rfl,
  I1.kept (t':=tk) λb o e=>get?_push_of_some _ e,JZ _ lo (hi-lo).toNat,?_,λb hb=>?_,q⟩
 ·have e1:lo+((0:Nat):Int)*1=lo:=by simp
  have e2:(((hi-lo).toNat:Nat):Int)-((0:Nat):Int)=Builtin.Range.rangeSize lo hi 1:=by rw[rangeSize_one];split<;>omega
  show IsRangeIter _ _ (lo+((0:Nat):Int)*1) ((((hi-lo).toNat:Nat):Int)-((0:Nat):Int)) 1;rw[e1,e2];exact get?_push_size _ rfl
 ·have e:b=(s.heap.push {cls:= .type "range",data:= .fields #[.int lo t,.int hi u,.int 1 v]}).objs.size:=by simpa using hb
  subst e;exact I1.Jm (le_refl _) (I1.bS.fresh (le_refl _))
def SJ(ta:TA):TI:=λσ H R=>ta σ H λvs H1=>∃j:Int,vs=[.int j]/\ -(2^62)<=j/\j<2^62/\R (Pd 0 j.toNat) H1
def SK(ta:TA):TI:=λσ H R=>ta σ H λvs H1=>∃i j:Int,vs=[.int i,.int j]/\(-(2^62)<=i/\i<2^62/\ -(2^62)<=j/\j<2^62)/\R (Pd i (j-i).toNat) H1
theorem cW{a:Expr}{ta:TA}{p pos:Pos}(hg:Gl X "range")(hm:X.mg "range"=none)(ha:PA X [a] ta)(hs:starEach [a] X.env=[(false,eval a X.env)]:=by rfl):PI X tg (.Call (.Name "range" p) [a] [] pos) (SJ ta):=by
 intro pins s σ H R I h;refine Call_ (mm I hg hm boot_range (PyProof.Rows.callWith_type1 (dh (ha pos pins s σ H _ I h) λus s1 ⟨vs,H1,I1,r1,q1⟩=>?_) hs rfl));obtain⟨j,e,q1,q2,q⟩:=q1;subst e;cases r1 with
 |cons r rr=>
  cases rr;obtain⟨t,rfl⟩:=r;exact call_range_1 (Ib I1 (by omega) (by omega) q1 q2 (by simpa using q))
theorem uB{a b:Expr}{ta:TA}{p pos:Pos}(hg:Gl X "range")(hm:X.mg "range"=none)(ha:PA X [a,b] ta)(hs:starEach [a,b] X.env=[(false,eval a X.env),(false,eval b X.env)]:=by rfl)(hs2:starEach [b] X.env=[(false,eval b X.env)]:=by rfl):
  PI X tg (.Call (.Name "range" p) [a,b] [] pos) (SK ta):=by
 intro pins s σ H R I h;refine Call_ (mm I hg hm boot_range (PyProof.Rows.callWith_type1 (dh (ha pos pins s σ H _ I h) λus s1 ⟨vs,H1,I1,r1,q1⟩=>?_) (by rw[hs,hs2]) (by rw[hs2];rfl)));obtain⟨i,j,e,⟨q1,q2,q3,q4⟩,q⟩:=q1;subst e;cases r1 with
 |cons r rr=>
  cases rr with
  |cons r' rr=>
   cases rr;obtain⟨t,rfl⟩:=r;obtain⟨t',rfl⟩:=r';exact call_range_2 (Ib I1 q1 q2 q3 q4 q)
def Up(wi:TI)(g:TG)(tb:TS):TS:=λD σ H=>wi σ H λJ H1=>∃W:Nat->Nat->St->Hp->Prop,(∃m,W 0 m σ H1)/\∀i m σ H,W i m σ H->
 (J.stop i H/\D.nx σ H)\/(J.go i H/\∃N:St->Hp->Prop,(∀σ' H',N σ' H'->∃m',m'<m/\W (i+1) m' σ' H')/\∀x H',J.Pa i H x H'->g x σ H' λσ2 H2=>tb {D with nx:=N,ct:=N,bk:=D.nx} σ2 H2)
def CJ(fp:List Addr)(h:Heap):fZ:=fp.filterMap λb=>(h.get? b).map λo=>(b,o)
theorem vV{fp:List Addr}{h:Heap}{b:Addr}{o:Obj}(hb:b∈fp)(e:h.get? b=some o):(b,o)∈CJ fp h:=mem_filterMap.mpr ⟨b,hb,by rw[e];rfl⟩
theorem LZ{fp:List Addr}{h:Heap}{p:Addr×Obj}(hp:p∈CJ fp h):p.1∈fp/\h.get? p.1=some p.2:=by
 obtain⟨b,hb,e⟩:=mem_filterMap.mp hp;cases q:h.get? b with
 |none=>rw[q]at e;cases e
 |some o=>
  rw[q]at e;have e':(b,o)=p:=Option.some.inj e;subst e';exact⟨hb,q⟩
theorem Inv.pinned{pins:fZ}{σ:St}{H:Hp}{s:Shared}{fp:List Addr}(I:Inv X pins σ H s)(hf:∀b∈fp,zQ X pins H b)(ho:∀b∈fp,∃o,s.heap.get? b=some o/\∀v,o.data≠.cell v):Inv X (pins++CJ fp s.heap) σ H s:=
 I.KU λp hp=>(mem_append.mp hp).elim (λz=>I.pin p (mem_append_right _ z)) λz=>by
  obtain⟨hb,e⟩:=LZ z;obtain⟨f0,f1,f2,_⟩:=hf p.1 hb;obtain⟨o,e',d⟩:=ho p.1 hb;rw[e]at e';cases e';exact⟨e,f0,f1,f2,d⟩
theorem Inv.xK{pins pl:fZ}{σ:St}{H:Hp}{s:Shared}(I:Inv X (pins++pl) σ H s):Inv X pins σ H s:=I.KU λp hp=>I.pin p (mem_append_right _ (mem_append_left _ hp))
theorem dF{iter:Expr}{body:List Stmt}{wi:TI}{g:TG}{tb:TS}{pos:Pos}(hp:PassesOwn (model X.prog X.w) X.A X.env X.xe)(hc:X.calm=true)(hi:PI X tg iter wi)(hg:PG X tg g)(hb:E3 X body tb)
  (hs:∀x,foldedSetIterable iter X.env x=pure x:=by intro _;rfl):PS X (.For tg iter body [] pos) (Up wi g tb):=by
 intro pins s σ H D I h;refine wpAny_For (dh (hi pins s σ H _ I h) λv s1 h1=>dh h1 λitv s2 h2=>?_) hs;obtain⟨it,fp,tn,J,H2,e,I2,T,st2,f2,W,⟨m0,w0⟩,turn⟩:=h2;subst e;have stat:∀{H':Hp},(∀b∈fp,H' b=none)->∀b∈fp,zQ X pins H' b:=λhn b hb=>⟨hn b hb,(f2 b hb).2⟩
 refine codeAny_forLoop_any (λn s'=>∃i σ' H',Inv X pins σ' H' s'/\tn i s'.heap/\(∀b∈fp,H' b=none)/\W i n σ' H') ?_ m0 ⟨0,σ,H2,I2,st2,λb hb=>(f2 b hb).1,w0⟩;rintro n s3 ⟨i,σ3,H3,I3,st3,fr3,w3⟩;rcases turn i n σ3 H3 w3 with⟨stop,qn⟩|⟨go,N,hN,step⟩
 ·refine wpAny_passesOwn hp (dh (T.done X rfl rfl rfl hc i pins s3 σ3 H3 X.xe I3 (stat fr3) st3 stop) λr s4 ⟨hr,I4⟩=>?_);subst hr;exact wpAny_execs_nil ⟨σ3,H3,I4,qn⟩
 ·refine wpAny_passesOwn hp (dh (T.item X rfl rfl rfl hc i pins s3 σ3 H3 X.xe I3 (stat fr3) st3 go) λr s4 ⟨u,hr,h4⟩=>?_);subst hr;refine wpAny_passesOwn hp (dh h4 λ_ s5 ⟨x,H5,I5,r5,y5,st5,fr5⟩=>?_);have I5':=I5.pinned (stat fr5) (T.obj _ _ st5);refine wpAny_passesOwn hp (dh (hg _ s5 σ3 H5 x u _ I5' r5 (step x H5 y5)) λ_ s6 ⟨σ6,H6,I6,q6⟩=>?_);refine wpAny_passesOwn hp (dh (hb _ s6 σ6 H6 _ I6 q6) λf s7 q7=>?_);have again:∀{σ7:St}{H7:Hp},Inv X (pins++CJ fp s5.heap) σ7 H7 s7->N σ7 H7->∃m,m<n/\∃i σ' H',Inv X pins σ' H' s7/\tn i s7.heap/\(∀b∈fp,H' b=none)/\W i m σ' H':=λ{σ7 H7}I7 n7=>by
   obtain⟨m',hm,w7⟩:=hN σ7 H7 n7;refine⟨m',hm,i+1,σ7,H7,I7.xK,T.keep _ _ _ st5 λb hb o e=>(I7.pin (b,o) (mem_append_right _ (mem_append_right _ (vV hb e)))).1,λb hb=>?_,w7⟩;obtain⟨o,e,d⟩:=T.obj _ _ st5 b hb;exact(I7.pin (b,o) (mem_append_right _ (mem_append_right _ (vV hb e)))).2.1
  cases f with
  |next=>obtain⟨σ7,H7,I7,n7⟩:=q7;exact again I7 n7
  |cont=>obtain⟨σ7,H7,I7,n7⟩:=q7;exact again I7 n7
  |brk=>obtain⟨σ7,H7,I7,q7⟩:=q7;exact⟨σ7,H7,I7.xK,q7⟩
  |ret v=>obtain⟨x7,σ7,H7,I7,r7,q7⟩:=q7;exact⟨x7,σ7,H7,I7.xK,r7,q7⟩
end
theorem LF{lo:Int}{n:Nat}{g:TG}{tb:TS}{D:Ends}{σ:St}{H:Hp}(Pv:Nat->St->Hp->Prop)(h0:Pv 0 σ H)
  (hs:∀i σ H,i<n->Pv i σ H->g (.int (lo+i)) σ H λσ2 H2=>tb {D with nx:=Pv (i+1),ct:=Pv (i+1),bk:=D.nx} σ2 H2) (hd:∀σ H,Pv n σ H->D.nx σ H):
  ∃W:Nat->Nat->St->Hp->Prop,(∃m,W 0 m σ H)/\∀i m σ H,W i m σ H->
   ((Pd lo n).stop i H/\D.nx σ H)\/((Pd lo n).go i H/\∃N:St->Hp->Prop,(∀σ' H',N σ' H'->∃m',m'<m/\W (i+1) m' σ' H')/\∀x H',(Pd lo n).Pa i H x H'->g x σ H' λσ2 H2=>tb {D with nx:=N,ct:=N,bk:=D.nx} σ2 H2):=by
 refine⟨λi m σ H=>m=n-i/\i<=n/\Pv i σ H,⟨n,by simp,zero_le _,h0⟩,?_⟩;rintro i m σ H ⟨rfl,hi,p⟩;by_cases hlt:i<n
 ·refine .inr ⟨hlt,Pv (i+1),λσ' H' p'=>⟨n-(i+1),by omega,rfl,hlt,p'⟩,λx H' y=>?_⟩;obtain⟨e,y⟩:=y;subst e y;exact hs i σ _ hlt p
 ·have e:i=n:=by omega
  subst e;exact .inl ⟨le_refl _,hd σ H p⟩
theorem uh{c:TT}{tb:TS}{D:Ends}{σ:St}{H:Hp}(Pv:St->Hp->Prop)(μ:St->Hp->Nat)(h0:Pv σ H)
  (hs:∀σ H,Pv σ H->c σ H λb H1=>if b=true then tb {D with nx:=λσ' H'=>Pv σ' H'/\μ σ' H'<μ σ H,ct:=λσ' H'=>Pv σ' H'/\μ σ' H'<μ σ H,bk:=D.nx} σ H1 else D.nx σ H1)
  (mono:∀σ H Q Q',(∀b H1,Q b H1->Q' b H1)->c σ H Q->c σ H Q'):OW c tb D σ H:=by
 refine⟨λm σ H=>m=μ σ H/\Pv σ H,⟨_,rfl,h0⟩,?_⟩;rintro m σ H ⟨rfl,p⟩;refine mono σ H _ _ (λb H1 q=>?_) (hs σ H p);cases b with
 |true=>exact⟨_,λσ' H' ⟨p',l⟩=>⟨_,l,rfl,p'⟩,q⟩
 |false=>exact q
end L2
namespace L2
open PySem PySem.Spec PyProof.Rows
abbrev R2:=V->V->Hp->VK->Prop
def wx(X:Cx)(f:Value->Value->Sem Value)(r:R2):Prop:=
 ∀(pins:fZ)(s:Shared)(σ:St)(H:Hp)(x y:V)(v u:Value)(Q:VK),Inv X pins σ H s->RelV x v->RelV y u->r x y H Q->
  wpAny (model X.prog X.w) X.A (f v u) (EP X pins σ Q) X.xe s
def TJ(X:Cx)(f:Value->Sem Value)(r:V->Hp->VK->Prop):Prop:=
 ∀(pins:fZ)(s:Shared)(σ:St)(H:Hp)(x:V)(v:Value)(Q:VK),Inv X pins σ H s->RelV x v->r x H Q->
  wpAny (model X.prog X.w) X.A (f v) (EP X pins σ Q) X.xe s
def jG(X:Cx)(f:Value)(r:List V->Hp->VK->Prop):Prop:=
 ∀(pins:fZ)(s:Shared)(σ:St)(H:Hp)(xs:List V)(us:List Value)(Q:VK),Inv X pins σ H s->Vals xs us->r xs H Q->
  wpAny (model X.prog X.w) X.A (call f us) (EP X pins σ Q) X.xe s
def Sj(r:R2)(ta tb:TE):TE:=λσ H Q=>ta σ H λx H1=>tb σ H1 λy H2=>r x y H2 Q
def UY(r:V->Hp->VK->Prop)(ta:TE):TE:=λσ H Q=>ta σ H λx H1=>r x H1 Q
def rI(C:Int->Int->Prop)(g:Int->Int->V):R2:=λx y H Q=>∃i j,x= .int i/\y= .int j/\C i j/\Q (g i j) H
def ME(g:Int->Int->V):R2:=λx y H Q=>∃i j,x= .int i/\y= .int j/\Q (g i j) H
def rU(g:Int->V):V->Hp->VK->Prop:=λx H Q=>∃i,x= .int i/\Q (g i) H
section
variable{X:Cx}{a b c:Expr}{ta tb tc:TE}{pos:Pos}
theorem Rl(ha:PE X a ta)(hb:PE X b tb){pins:fZ}{s:Shared}{σ:St}{H:Hp}{R:V->V->Hp->Prop}(I:Inv X pins σ H s)
  (h:ta σ H λx H1=>tb σ H1 λy H2=>R x y H2) {Q:iE} {f:Value->Value->Sem Value}
  (hf:∀v u s2 x y H2,Inv X pins σ H2 s2->RelV x v->RelV y u->R x y H2->wpAny (model X.prog X.w) X.A (f v u) Q X.xe s2):
  wpAny (model X.prog X.w) X.A (eval a X.env) (λv s₁=>wpAny (model X.prog X.w) X.A (eval b X.env) (λu s₂=>wpAny (model X.prog X.w) X.A (f v u) Q X.xe s₂) X.xe s₁) X.xe s:=by
 refine dh (ha pins s σ H _ I h) λv s1 ⟨x,H1,I1,r1,q1⟩=>?_;refine dh (hb pins s1 σ H1 _ I1 q1) λu s2 ⟨y,H2,I2,r2,q2⟩=>?_;exact hf v u s2 x y H2 I2 r1 r2 q2
theorem aR{op:Operator}{r:R2}(ho:wx X (binaryOp op) r)(ha:PE X a ta)(hb:PE X b tb):PE X (.BinOp a op b pos) (Sj r ta tb):=by
 intro pins s σ H Q I h;exact wpAny_BinOp (Rl ha hb I h λv u s2 x y H2 I2 rx ry q=>ho pins s2 σ H2 x y v u Q I2 rx ry q)
theorem oU{op:UnaryOp}{r:V->Hp->VK->Prop}(ho:TJ X (unaryOp op) r)(ha:PE X a ta):PE X (.UnaryOp op a pos) (UY r ta):=by
 intro pins s σ H Q I h;exact UnaryOp_ (dh (ha pins s σ H _ I h) λv s1 ⟨x,H1,I1,r1,q1⟩=>ho pins s1 σ H1 x v Q I1 r1 q1)
theorem SQ{f:Value->Value->Sem Value}{C:Int->Int->Prop}{g:Int->Int->Int}
  (rule:∀(i j:Int)(t u:Tok)(s:Shared)(Q:iE)(E:iE),C i j->Q (.int (g i j) s.toks) {s with toks:=s.toks+1}->wpAny (model X.prog X.w) X.A (f (.int i t) (.int j u)) Q E s):
  wx X f (rI C λi j=> .int (g i j)):=by
 intro pins s σ H x y v u Q I rx ry h;obtain⟨i,j,rfl,rfl,hc,q⟩:=h;obtain⟨t,rfl⟩:=rx;obtain⟨t',rfl⟩:=ry;exact rule i j t t' s _ _ hc ⟨.int (g i j),H,I.tok _,⟨_,rfl⟩,q⟩
theorem Oa{f:Value->Value->Sem Value}{g:Int->Int->Int}
  (rule:∀(i j:Int)(t u:Tok)(s:Shared)(Q:iE)(E:iE),Q (.int (g i j) s.toks) {s with toks:=s.toks+1}->wpAny (model X.prog X.w) X.A (f (.int i t) (.int j u)) Q E s):
  wx X f (ME λi j=> .int (g i j)):=by
 intro pins s σ H x y v u Q I rx ry h;obtain⟨i,j,rfl,rfl,q⟩:=h;obtain⟨t,rfl⟩:=rx;obtain⟨t',rfl⟩:=ry;exact rule i j t t' s _ _ ⟨.int (g i j),H,I.tok _,⟨_,rfl⟩,q⟩
theorem RS{f:Value->Value->Sem Value}{g:Int->Int->Bool}
  (rule:∀(i j:Int)(t u:Tok)(s:Shared)(Q:iE)(E:iE),Q (.bool (g i j)) s->wpAny (model X.prog X.w) X.A (f (.int i t) (.int j u)) Q E s):
  wx X f (ME λi j=> .bl (g i j)):=by
 intro pins s σ H x y v u Q I rx ry h;obtain⟨i,j,rfl,rfl,q⟩:=h;obtain⟨t,rfl⟩:=rx;obtain⟨t',rfl⟩:=ry;exact rule i j t t' s _ _ ⟨.bl (g i j),H,I,rfl,q⟩
def Ts(i j:Int):Prop:=0<j/\j<1073741824
def Tu(i j:Int):Prop:=0<=j/\j<=1000000/\i.natAbs<2^64
def Pb(i j:Int):Prop:=(-(2^64)<i/\i<2^64)\/(-(2^64)<j/\j<2^64)
theorem Pb.ok{i j:Int}(h:Pb i j):IntMulOk i j:=by
 rcases h with⟨h1,h2⟩|⟨h1,h2⟩
 ·exact .of_left (intBits_le_64 h1 h2)
 ·exact .of_right (intBits_le_64 h1 h2)
theorem J0(k:Nat):(0:Int)<=2^k:=by
 rw[two_pow_cast];exact Int.natCast_nonneg _
theorem iI:wx X (binaryOp .Add) (ME λi j=> .int (i+j)):=Oa λ_ _ _ _ _ _ _ q=>add_int q
theorem jv:wx X (binaryOp .Sub) (ME λi j=> .int (i-j)):=Oa λ_ _ _ _ _ _ _ q=>sub_int q
theorem kT:wx X (binaryOp .Mult) (rI Pb λi j=> .int (i*j)):=SQ λ_ _ _ _ _ _ _ hc q=>mul_int q hc.ok
theorem xg:wx X (binaryOp .FloorDiv) (rI Ts λi j=> .int (i/j)):=SQ λi j _ _ _ _ _ hc q=>by
 have h1:(0:Int)<j:=hc.1;have h2:j<1073741824:=hc.2;exact floordiv_int (by omega) (by rw[Int.fdiv_eq_ediv_of_nonneg i (by omega)];exact q) (.inl (PyProof.noPylong_small (by omega)))
theorem JE:wx X (binaryOp .Mod) (rI (λ_ j=>0<j) λi j=> .int (i%j)):=SQ λi j _ _ _ _ _ hc q=>by
 have h1:(0:Int)<j:=hc;exact mod_int' (by omega) (by rw[Int.fmod_eq_emod_of_nonneg i (by omega)];exact q)
theorem F3:wx X (binaryOp .LShift) (rI Tu λi j=> .int (i*2^j.toNat)):=SQ λ_ _ _ _ _ _ _ hc q=>lshift_int_small hc.1 hc.2.1 hc.2.2 q
theorem Od:wx X (binaryOp .RShift) (rI (λ_ j=>0<=j) λi j=> .int (i/2^j.toNat)):=SQ λi j _ _ _ _ _ hc q=>
 rshift_int hc (by rw[Int.fdiv_eq_ediv_of_nonneg i (J0 _)];exact q)
theorem Cz:wx X (binaryOp .BitAnd) (ME λi j=> .int (Builtin.bitAnd i j)):=Oa λ_ _ _ _ _ _ _ q=>and_int q
theorem HR:wx X (binaryOp .BitOr) (ME λi j=> .int (Builtin.bitOr i j)):=Oa λ_ _ _ _ _ _ _ q=>or_int q
theorem F4:wx X (binaryOp .BitXor) (ME λi j=> .int (Builtin.bitXor i j)):=Oa λ_ _ _ _ _ _ _ q=>xor_int q
theorem U0{f:Value->Sem Value}{g:Int->Int}
  (rule:∀(i:Int)(t:Tok)(s:Shared)(Q:iE)(E:iE),Q (.int (g i) s.toks) {s with toks:=s.toks+1}->wpAny (model X.prog X.w) X.A (f (.int i t)) Q E s):
  TJ X f (rU λi=> .int (g i)):=by
 intro pins s σ H x v Q I rx h;obtain⟨i,rfl,q⟩:=h;obtain⟨t,rfl⟩:=rx;exact rule i t s _ _ ⟨.int (g i),H,I.tok _,⟨_,rfl⟩,q⟩
theorem j9:TJ X (unaryOp .USub) (rU λi=> .int (-i)):=U0 λ_ _ _ _ _ q=>neg_int q
end
def S5:V->V->Bool
 | .gc,.gc=>true| .gc,.int _=>true| .int _,.gc=>true| .gc,.bl _=>true| .bl _,.gc=>true| .gc,.str _=>true| .str _,.gc=>true
 | .int _,.int _=>true| .bl _,.bl _=>true| .str _,.str _=>true| .GC _,.GC _=>true
 | .int _,.str _=>true| .str _,.int _=>true| .bl _,.str _=>true| .str _,.bl _=>true
 |_,_=>false
def UQ:R2:=λx y H Q=>S5 x y=true/\Q (.bl (decide (x=y))) H
def US:R2:=λx y H Q=>S5 x y=true/\Q (.bl (!decide (x=y))) H
theorem Ki{i j:Int}:decide (V.int i=V.int j)=(i==j):=by
 rw[Bool.eq_iff_iff];simp
theorem Nd{i j:Bool}:decide (V.bl i=V.bl j)=(i==j):=by
 rw[Bool.eq_iff_iff];simp
theorem Kj{i j:Str}:decide (V.str i=V.str j)=(i==j):=by
 rw[Bool.eq_iff_iff];simp
theorem Kh{i j:Array UInt8}:decide (V.GC i=V.GC j)=(i.toList==j.toList):=by
 rw[Bool.eq_iff_iff];cases i;cases j;simp
section
variable{X:Cx}{a b c:Expr}{ta tb tc:TE}{pos:Pos}
theorem b9{pins:fZ}{σ:St}{H:Hp}{s:Shared}{Q:VK}{k k':Bool}(I:Inv X pins σ H s)(q:Q (.bl k) H)(e:k=k'):EP X pins σ Q (.bool k') s:=by
 subst e;exact⟨.bl k,H,I,rfl,q⟩
theorem CA:wx X (compareOp .Eq) UQ:=by
 intro pins s σ H x y v u Q I rx ry h;obtain⟨hs,q⟩:=h;cases x with
 |gc=>
  cases rx;cases y with
  |gc=>cases ry;exact PySem.EqNone.eq_none_none (b9 I q (by simp))
  |bl j=>cases ry;exact PySem.EqNone.eq_none_bool (b9 I q (by simp))
  |int j=>obtain⟨t',rfl⟩:=ry;exact PySem.EqNone.eq_none_int (b9 I q (by simp))
  |str j=>obtain⟨t',rfl⟩:=ry;exact PySem.EqNone.eq_none_str (b9 I q (by simp))
  |_=>exact absurd (show false=true from hs) Bool.false_ne_true
 |bl i=>
  cases rx;cases y with
  |gc=>cases ry;exact PySem.EqNone.eq_bool_none (b9 I q (by simp))
  |bl j=>cases ry;exact eq_bool (b9 I q Nd)
  |str j=>obtain⟨t',rfl⟩:=ry;exact PySem.EqMixed.eq_bool_str (b9 I q (by simp))
  |_=>exact absurd (show false=true from hs) Bool.false_ne_true
 |int i=>
  obtain⟨t,rfl⟩:=rx;cases y with
  |gc=>cases ry;exact PySem.EqNone.eq_int_none (b9 I q (by simp))
  |int j=>obtain⟨t',rfl⟩:=ry;exact eq_int (b9 I q Ki)
  |str j=>obtain⟨t',rfl⟩:=ry;exact PySem.EqMixed.eq_int_str (b9 I q (by simp))
  |_=>exact absurd (show false=true from hs) Bool.false_ne_true
 |str i=>
  obtain⟨t,rfl⟩:=rx;cases y with
  |gc=>cases ry;exact PySem.EqNone.eq_str_none (b9 I q (by simp))
  |bl j=>cases ry;exact PySem.EqMixed.eq_str_bool (b9 I q (by simp))
  |int j=>obtain⟨t',rfl⟩:=ry;exact PySem.EqMixed.eq_str_int (b9 I q (by simp))
  |str j=>obtain⟨t',rfl⟩:=ry;exact eq_str (b9 I q Kj)
  |_=>exact absurd (show false=true from hs) Bool.false_ne_true
 |GC i=>
  obtain⟨t,rfl⟩:=rx;cases y with
  |GC j=>obtain⟨t',rfl⟩:=ry;exact PySem.W.eq_bytes (b9 I q Kh)
  |_=>exact absurd (show false=true from hs) Bool.false_ne_true
 |_=>cases y<;>exact absurd (show false=true from hs) Bool.false_ne_true
theorem nN:wx X (compareOp .NotEq) US:=by
 intro pins s σ H x y v u Q I rx ry h;obtain⟨hs,q⟩:=h;cases x with
 |gc=>
  cases rx;cases y with
  |gc=>cases ry;exact PySem.EqNone.ne_none_none (b9 I q (by simp))
  |bl j=>cases ry;exact PySem.EqNone.ne_none_bool (b9 I q (by simp))
  |int j=>obtain⟨t',rfl⟩:=ry;exact PySem.EqNone.ne_none_int (b9 I q (by simp))
  |str j=>obtain⟨t',rfl⟩:=ry;exact PySem.EqNone.ne_none_str (b9 I q (by simp))
  |_=>exact absurd (show false=true from hs) Bool.false_ne_true
 |bl i=>
  cases rx;cases y with
  |gc=>cases ry;exact PySem.EqNone.ne_bool_none (b9 I q (by simp))
  |bl j=>cases ry;exact ne_bool (b9 I q (congrArg not Nd))
  |str j=>obtain⟨t',rfl⟩:=ry;exact PySem.EqMixed.ne_bool_str (b9 I q (by simp))
  |_=>exact absurd (show false=true from hs) Bool.false_ne_true
 |int i=>
  obtain⟨t,rfl⟩:=rx;cases y with
  |gc=>cases ry;exact PySem.EqNone.ne_int_none (b9 I q (by simp))
  |int j=>obtain⟨t',rfl⟩:=ry;exact ne_int (b9 I q (congrArg not Ki))
  |str j=>obtain⟨t',rfl⟩:=ry;exact PySem.EqMixed.ne_int_str (b9 I q (by simp))
  |_=>exact absurd (show false=true from hs) Bool.false_ne_true
 |str i=>
  obtain⟨t,rfl⟩:=rx;cases y with
  |gc=>cases ry;exact PySem.EqNone.ne_str_none (b9 I q (by simp))
  |bl j=>cases ry;exact PySem.EqMixed.ne_str_bool (b9 I q (by simp))
  |int j=>obtain⟨t',rfl⟩:=ry;exact PySem.EqMixed.ne_str_int (b9 I q (by simp))
  |str j=>obtain⟨t',rfl⟩:=ry;exact ne_str (b9 I q (congrArg not Kj))
  |_=>exact absurd (show false=true from hs) Bool.false_ne_true
 |GC i=>
  obtain⟨t,rfl⟩:=rx;cases y with
  |GC j=>obtain⟨t',rfl⟩:=ry;exact PySem.W.ne_bytes (b9 I q (congrArg not Kh))
  |_=>exact absurd (show false=true from hs) Bool.false_ne_true
 |_=>cases y<;>exact absurd (show false=true from hs) Bool.false_ne_true
theorem CB:wx X (compareOp .Lt) (ME λi j=> .bl (decide (i<j))):=RS λ_ _ _ _ _ _ _ q=>lt_int q
theorem HQ:wx X (compareOp .LtE) (ME λi j=> .bl (decide (i<=j))):=RS λ_ _ _ _ _ _ _ q=>le_int q
theorem Ob:wx X (compareOp .Gt) (ME λi j=> .bl (decide (j<i))):=RS λ_ _ _ _ _ _ _ q=>gt_int q
theorem JD:wx X (compareOp .Is) (λx y H Q=>y= .gc/\Q (.bl (decide (x= .gc))) H):=by
 intro pins s σ H x y v u Q I rx ry h;obtain⟨rfl,q⟩:=h;cases ry;refine is_none_gen (b9 I q ?_);cases x<;>first
  |(cases rx;rfl)
  |(obtain⟨t,rfl⟩:=rx;rfl)
theorem Qh:wx X (compareOp .IsNot) (λx y H Q=>y= .gc/\Q (.bl (!decide (x= .gc))) H):=by
 intro pins s σ H x y v u Q I rx ry h;obtain⟨rfl,q⟩:=h;cases ry;refine isnot_none_gen (b9 I q ?_);cases x<;>first
  |(cases rx;rfl)
  |(obtain⟨t,rfl⟩:=rx;rfl)
theorem bI(b:Expr){op:CmpOp}(h:op≠.In:=by decide)(h2:op≠.NotIn:=by decide):behindInMarks op b=false:=by
 have e1:(op==CmpOp.In)=false:=by cases op<;>first|rfl|exact absurd rfl h
 have e2:(op==CmpOp.NotIn)=false:=by cases op<;>first|rfl|exact absurd rfl h2
 cases b<;>simp[behindInMarks,e1,e2]
theorem p5{op:CmpOp}{r:R2}(ho:wx X (compareOp op) r)(ha:PE X a ta)(hb:PE X b tb)(hm:behindInMarks op b=false):PE X (.Compare a [op] [b] pos) (Sj r ta tb):=by
 intro pins s σ H Q I h;exact wpAny_Compare1 (Rl ha hb I h λv u s2 x y H2 I2 rx ry q=>ho pins s2 σ H2 x y v u Q I2 rx ry q) hm
def Q8(t:TE):TT:=λσ H Q=>t σ H λx H'=>∃k,x= .bl k/\Q k H'
theorem bG{op:CmpOp}{r:R2}(ho:wx X (compareOp op) r)(ha:PE X a ta)(hb:PE X b tb)(hm:behindInMarks op b=false):PT X (.Compare a [op] [b] pos) (Q8 (Sj r ta tb)):=by
 intro pins s σ H Q I h
 refine wpAny_isTrue_Compare1 (dh (ha pins s σ H _ I h) λv s1 ⟨x,H1,I1,r1,q1⟩=>dh (hb pins s1 σ H1 _ I1 q1) λu s2 ⟨y,H2,I2,r2,q2⟩=>
  dh (ho pins s2 σ H2 x y v u _ I2 r1 r2 q2) λc s3 ⟨z,H3,I3,r3,k,e,q3⟩=>?_) hm
 subst e;cases r3;exact wpAny_truthy_bool ⟨H3,I3,q3⟩
def OU(r r':R2)(ta tb tc:TE):TE:=λσ H Q=>ta σ H λx H1=>tb σ H1 λy H2=>r x y H2 λz H3=>∃k,z= .bl k/\
 (if k=true then tc σ H3 λw' H4=>r' y w' H4 Q else Q (.bl false) H3)
theorem Oj{op op':CmpOp}{r r':R2}(ho:wx X (compareOp op) r)(ho':wx X (compareOp op') r')(ha:PE X a ta)(hb:PE X b tb)(hc:PE X c tc)
  (hm:lastMarks [op,op'] [b,c]=false:=by with_unfolding_all rfl):PE X (.Compare a [op,op'] [b,c] pos) (OU r r' ta tb tc):=by
 intro pins s σ H Q I h
 refine Compare_chain (dh (ha pins s σ H _ I h) λv s1 ⟨x,H1,I1,r1,q1⟩=>chain_link (dh (hb pins s1 σ H1 _ I1 q1) λu s2 ⟨y,H2,I2,r2,q2⟩=>
  dh (ho pins s2 σ H2 x y v u _ I2 r1 r2 q2) λd s3 ⟨z,H3,I3,r3,k,e,q3⟩=>?_)) hm
 subst e;cases r3;refine wpAny_truthy_bool ?_;cases k with
 |false=>exact ite_ff ⟨.bl false,H3,I3,rfl,q3⟩
 |true=>exact ite_tt (chain_last (dh (hc pins s3 σ H3 _ I3 q3) λw' s4 ⟨z',H4,I4,r4,q4⟩=>ho' pins s4 σ H4 y z' u w' Q I4 r2 r4 q4))
theorem Ia{op op':CmpOp}{r r':R2}(ho:wx X (compareOp op) r)(ho':wx X (compareOp op') r')(ha:PE X a ta)(hb:PE X b tb)(hc:PE X c tc)
  (hm:lastMarks [op,op'] [b,c]=false:=by with_unfolding_all rfl):PT X (.Compare a [op,op'] [b,c] pos) (Q8 (OU r r' ta tb tc)):=by
 intro pins s σ H Q I h
 refine isTrue_chain (dh (ha pins s σ H _ I h) λv s1 ⟨x,H1,I1,r1,q1⟩=>test_link (dh (hb pins s1 σ H1 _ I1 q1) λu s2 ⟨y,H2,I2,r2,q2⟩=>
  dh (ho pins s2 σ H2 x y v u _ I2 r1 r2 q2) λd s3 ⟨z,H3,I3,r3,k,e,q3⟩=>?_)) hm
 subst e;cases r3;refine wpAny_truthy_bool ?_;cases k with
 |false=>
  obtain⟨k',e',q'⟩:=q3;cases e';exact ite_ff ⟨H3,I3,q'⟩
 |true=>
  refine ite_tt (test_last (dh (hc pins s3 σ H3 _ I3 q3) λw' s4 ⟨z',H4,I4,r4,q4⟩=>dh (ho' pins s4 σ H4 y z' u w' _ I4 r2 r4 q4) λd' s5 ⟨z2,H5,I5,r5,k2,e2,q5⟩=>?_));subst e2;cases r5;exact wpAny_truthy_bool ⟨H5,I5,q5⟩
theorem B6:(sizeLine:Nat)<2^63:=by rw[sizeLine_eq];decide
theorem vals1{x:V}{us:List Value}(r:Vals [x] us):∃u,us=[u]/\RelV x u:=by
 cases r with
 |cons r1 r2=>cases r2;exact⟨_,rfl,r1⟩
theorem M8:jG X (.builtin "abs") (λxs H Q=>∃i,xs=[.int i]/\Q (.int (if i<0 then-i else i)) H):=by
 intro pins s σ H xs us Q I r h;obtain⟨i,rfl,q⟩:=h;obtain⟨u,rfl,t,rfl⟩:=vals1 r;exact call_abs_int λu tk=>⟨.int (if i<0 then-i else i),H,I.tok _,⟨_,rfl⟩,q⟩
end
end L2
namespace L2
open PySem PySem.Spec PyProof.Rows
structure IX(h:Heap)(x dx C:Addr)(mA:rn):Prop where
 obj:h.get? x=some (instObj C dx)
 ns:h.Ns1 dx mA
 ne:dx≠x
theorem Eu{h:Heap}{dx:Addr}{mA:rn}(n:h.Ns1 dx mA):∃od,h.get? dx=some od/\∀name,lookIn name od=some (mA name):=by
 obtain⟨o,es,ep,ho,hd,hk,_,hm⟩:=n;refine⟨o,ho,λname=>?_⟩;have e:=hm name;unfold nsFind findBy at e;rw[<-Array.find?_toList]at e;unfold lookIn;rw[hd];dsimp only
 split
 ·rename_i y q;rw[q]at e;exact congrArg some e
 ·rename_i q;rw[q]at e;have a:es.toList.any (·.refKey)=false:=by
   rw[any_eq_false];intro y hy;obtain⟨z,t,hkey⟩:=hk y (Array.mem_toList_iff.mp hy);simp[DictEntry.refKey,hkey]
  have a':¬es.toList.any (·.refKey)=true:=by rw[a];exact Bool.false_ne_true
  rw[if_neg a'];exact congrArg some e
theorem IX.look{h:Heap}{x dx C:Addr}{mA:rn}(I:IX h x dx C mA):∃od,PySem.W.InstAt h x (instObj C dx) C (some od)/\∀name,lookIn name od=some (mA name):=
 let ⟨od,ho,hl⟩:=Eu I.ns
 ⟨od,⟨I.obj,rfl,rfl,ho⟩,hl⟩
section
variable{prog:Program}{w:World}{A:Around}{E:iE}{s:Shared}{K:PySem.W.Frag}{x dx C f:Addr}{mA:rn}{name:Str}{v:Value}
theorem get_map{expr:Bool}{Q:iE}(X:K.In s.heap)(I:IX s.heap x dx C mA)(hg:plainGet K C name=true)(hh:hasDictIn K C=true)
  (ha:PySem.W.findIn K (.ref C) name=some none) (hv:mA name=some v) (hv':PySem.W.handedIn v=true) (h:Q v {s with toks:=s.toks+1}):
  wpAny (model prog w) A (getAttr (.ref x) name expr) Q E s:=by
 obtain⟨od,J,hl⟩:=I.look;exact PySem.W.get_value X J (plainGet_of hg).1 (findObj_own hh ha rfl (by rw[hl,hv])) hv' h
theorem Nr{pl:Sem Bool}{Q:Value×List Value->Shared->Prop}(X:K.In s.heap)(I:IX s.heap x dx C mA)(hg:plainGet K C name=true)
  (hf:PySem.W.findIn K (.ref C) name=some (some (.ref f))) (ht:isFn K (.ref f)=true) (hv:mA name=none) (h:Q (.ref f,[.ref x]) s):
  wpAny (model prog w) A (getMethod (.ref x) name pl) Q E s:=by
 obtain⟨od,J,hl⟩:=I.look;exact PySem.W.method_fn X J (plainGet_of hg).1 (plainGet_of hg).2 hf (beq_iff_eq.mp ht) (by show(lookIn name od).map (·.isSome)=some false;rw[hl,hv];rfl) h
theorem Qz{ns:List Str}{Q:Unit->Shared->Prop}(X:K.In s.heap)(I:IX s.heap x dx C mA)
  (hs:PySem.W.findIn K (.ref C) "__setattr__"=some (some (.builtin "object.__setattr__"))) (hp:plainOver K C=true) (ht:takerIn K C name=some none) (hh:hasDictIn K C=true)
  (hw:PySem.Within mA ns) (hsz:ns.length<=sizeLine)
  (h:∀h',IX h' x dx C (λy=>if y=name then some v else mA y)->Heap.SameBut dx s.heap h'->Q () {s with heap:=h',toks:=s.toks+2}):
  wpAny (model prog w) A (setAttr (.ref x) name v) Q E s:=by
 obtain⟨od,J,hl⟩:=I.look;refine set_plain X J hs (PySem.W.osa_open (s:={s with toks:=s.toks+1}) (r:=none) X J hp ht λb=>?_);obtain⟨cd,hc,hd'⟩:=PySem.W.any_some hh;have hx:s.heap.get? x=some ⟨.ref C,some dx,.plain,#[]⟩:=I.obj;refine wpAny_bind (wpAny_pure (wpAny_bind (wpAny_bind (wpAny_loadPart hx (wpAny_bind (PySem.W.Looks.here (s:={s with toks:=s.toks+1}) (PySem.W.looks_clsIn X hc) ?_))))));rw[hd'];refine wpAny_pure (a:=some dx) (wpAny_bind (wpAny_pure (wpAny_bind ?_)));refine wpAny_nsSet1 (s:={s with toks:=s.toks+1}) I.ns λh' hn2 hs2=>?_;obtain⟨oD,esD,epD,hoD,hdD,hcD⟩:=hn2.count (PySem.Within.cons name v hw);refine wpAny_bind (wpAny_lookBehind hoD (by rw[hdD];exact pastItsLine_dict (le_trans hcD (by rw[length_cons];omega))) ?_);exact wpAny_pure (h _ ⟨(hs2.2 _ (Ne.symm I.ne)).trans I.obj,hn2,I.ne⟩ hs2)
theorem NT{R:Result->Shared->Prop}{vs:List Value}{kw:List (Str×Value)}(X:K.In s.heap)(hm:makesIn K C=true)
  (hi:PySem.W.findIn K (.ref C) "__init__"=some (some (.ref f))) (hf:PySem.W.typeIn K (.ref f)=some (.type "function"))
  (h:codeAny (model prog w) (A.under (.builtin "type.__call__" ⟨.ref C::vs,kw⟩)) (.call (.ref f) ⟨.ref (s.heap.objs.size+1)::vs,kw⟩) (PySem.W.InitBack (s.heap.objs.size+1) R)
   {s with heap:=(s.heap.push PySem.W.emptyDict).push (instObj C s.heap.objs.size)}):
  codeAny (model prog w) A (.call (.ref C) ⟨vs,kw⟩) R s:=by
 obtain⟨hh,g,d,t,os⟩:=s;exact PySem.W.make_core (PySem.W.makes_of X hm) (PySem.W.looks_findIn X hi) (λself=>PySem.W.bind_fn X self hf) (.inl rfl) h
end
def jE(f:Str)(v:V):List (Str×V)->List (Str×V)
 |[]=>[(f,v)]
 |(g,x)::r=>if g=f then(g,v)::r else(g,x)::jE f v r
theorem bB(f g:Str)(v:V):∀fs:List (Str×V),(jE f v fs).lookup g=if g=f then some v else fs.lookup g
 |[]=>by
  show List.lookup g [(f,v)]=_;by_cases h:g=f
  ·have hb:(g==f)=true:=beq_iff_eq.mpr h;simp only[List.lookup,hb,if_pos h]
  ·have hb:(g==f)=false:=beq_eq_false_iff_ne.mpr h;simp only[List.lookup,hb,if_neg h]
 |(k,x)::r=>by
  have ih:=bB f g v r;rw[show jE f v ((k,x)::r)=(if k=f then(k,v)::r else(k,x)::jE f v r)from rfl];by_cases hk:k=f
  ·rw[if_pos hk];by_cases h:g=k
   ·have hb:(g==k)=true:=beq_iff_eq.mpr h;simp only[List.lookup,hb,if_pos (h.trans hk)]
   ·have hb:(g==k)=false:=beq_eq_false_iff_ne.mpr h;simp only[List.lookup,hb,if_neg (λe:g=f=>h (e.trans hk.symm))]
  ·rw[if_neg hk];by_cases h:g=k
   ·have hb:(g==k)=true:=beq_iff_eq.mpr h;simp only[List.lookup,hb,if_neg (λe:g=f=>hk (h.symm.trans e))]
   ·have hb:(g==k)=false:=beq_eq_false_iff_ne.mpr h;simp only[List.lookup,hb];exact ih
theorem yg(f:Str)(v:V):∀fs:List (Str×V),f∈(jE f v fs).map (·.1)/\∀g,g∈fs.map (·.1)->g∈(jE f v fs).map (·.1)
 |[]=>⟨by simp[jE],λg h=>by simp at h⟩
 |(k,x)::r=>by
  obtain⟨i1,i2⟩:=yg f v r;rw[show jE f v ((k,x)::r)=(if k=f then(k,v)::r else(k,x)::jE f v r)from rfl];by_cases hk:k=f
  ·rw[if_pos hk];subst hk;exact⟨by simp,λg h=>by simpa using h⟩
  ·rw[if_neg hk];refine⟨?_,λg h=>?_⟩
   ·rw[map_cons];exact mem_cons_of_mem _ i1
   ·rw[map_cons]at h⊢;rcases mem_cons.mp h with e|e
    ·exact mem_cons.mpr (.inl e)
    ·exact mem_cons_of_mem _ (i2 g e)
theorem y8(f:Str)(v:V):∀fs:List (Str×V),(jE f v fs).length<=fs.length+1
 |[]=>by simp[jE]
 |(k,x)::r=>by
  have ih:=y8 f v r;rw[show jE f v ((k,x)::r)=(if k=f then(k,v)::r else(k,x)::jE f v r)from rfl];by_cases hk:k=f
  ·rw[if_pos hk,length_cons,length_cons];omega
  ·rw[if_neg hk,length_cons,length_cons];omega
theorem qZ.some_of{v:V}{o:Option Value}(r:qZ (some v) o):∃u,o=some u/\RelV v u:=by
 cases o with
 |none=>exact(show False from r).elim
 |some u=>exact⟨u,rfl,r⟩
theorem qZ.none_of{o:Option Value}(r:qZ none o):o=none:=by
 cases o with
 |none=>rfl
 |some u=>exact(show False from r).elim
theorem Er{v:V}{u:Value}(r:RelV v u):PySem.W.handedIn u=true:=by
 cases v with
 |gc=>cases(show u=Value.none from r);rfl
 |bl b=>cases(show u=Value.bool b from r);rfl
 |int i=>obtain⟨t,e⟩:=(show∃t,u=Value.int i t from r);cases e;rfl
 |str x=>obtain⟨t,e⟩:=(show∃t,u=Value.str x t from r);cases e;rfl
 |GC b=>obtain⟨t,e⟩:=(show∃t,u=Value.bytes b t from r);cases e;rfl
 |flt b=>obtain⟨t,e⟩:=(show∃t,u=float b t from r);cases e;rfl
 |ref a=>cases(show u=Value.ref a from r);rfl
 |ty n=>cases(show u=Value.type n from r);rfl
section
variable{P:Program}{w:World}{H H':Hp}{h h':Heap}{a C dx:Addr}{fs fs':List (Str×V)}
theorem FJ(bS:qY P w H h)(e:H a=some (.ins C dx fs)):∃mA,IX h a dx C mA/\(∀f,qZ (fs.lookup f) (mA f))/\PySem.Within mA (fs.map (·.1))/\fs.length<=1000/\H dx=some (.own a):=by
 obtain⟨d,z,ne,ob,mA,n,r,q⟩:=(show di P w H h a (.ins C dx fs)from bS a _ e)
 exact⟨mA,⟨ob,n,ne⟩,r,q,z,d⟩
end
structure Ld(K:PySem.W.Frag)(C:Addr):Prop where
 pg:plainGet K C Str.empty=true
 hd:hasDictIn K C=true
 po:plainOver K C=true
 sa:PySem.W.findIn K (.ref C) "__setattr__"=some (some (.builtin "object.__setattr__"))
theorem Ld.get{K:PySem.W.Frag}{C:Addr}(c:Ld K C)(f:Str):plainGet K C f=true:=c.pg
def kK(K:PySem.W.Frag)(C:Addr)(f:Str):Prop:=PySem.W.findIn K (.ref C) f=some none
theorem kK.Te{K:PySem.W.Frag}{C:Addr}{f:Str}(n:kK K C f):takerIn K C f=some none:=by
 unfold takerIn;rw[show PySem.W.findIn K (.ref C) f=some none from n];rfl
structure Meth(K:PySem.W.Frag)(C:Addr)(m:Str)(f:Addr):Prop where
 at_:PySem.W.findIn K (.ref C) m=some (some (.ref f))
 fn:isFn K (.ref f)=true
 kp:keepIn K (.ref f)=true
section
variable{X:Cx}{pins:fZ}{σ:St}{H:Hp}{s:Shared}{a C dx:Addr}{fs:List (Str×V)}{f:Str}{v:V}{A:Around}{E:iE}
theorem Jn{b:Bool}{Q:iE}(I:Inv X pins σ H s)(e:H a=some (.ins C dx fs))(c:Ld X.K C)(n:kK X.K C f)(l:fs.lookup f=some v)
  (h:∀u s',Inv X pins σ H s'->RelV v u->Q u s'):wpAny (model X.prog X.w) A (getAttr (.ref a) f b) Q E s:=by
 obtain⟨mA,O,r,_,_,_⟩:=FJ I.bS e;obtain⟨u,hu,ru⟩:=qZ.some_of (v:=v) (o:=mA f) (by rw[<-l];exact r f);exact get_map I.vS O (c.get f) c.hd n hu (Er ru) (h u _ (I.tok _) ru)
theorem B1{m:Str}{g:Addr}{pl:Sem Bool}{Q:Value×List Value->Shared->Prop}(I:Inv X pins σ H s)(e:H a=some (.ins C dx fs))(c:Ld X.K C)(k:Meth X.K C m g)(l:fs.lookup m=none)
  (h:Q (.ref g,[.ref a]) s):wpAny (model X.prog X.w) A (getMethod (.ref a) m pl) Q E s:=by
 obtain⟨mA,O,r,_,_,_⟩:=FJ I.bS e;have hn:mA m=none:=qZ.none_of (by rw[<-l];exact r m);exact Nr I.vS O (c.get m) k.at_ k.fn hn h
theorem JN{y:V}{u:Value}{Q:Unit->Shared->Prop}(I:Inv X pins σ H s)(e:H a=some (.ins C dx fs))(c:Ld X.K C)(n:kK X.K C f)(hl:fs.length<1000)(ry:RelV y u)
  (h:∀s',Inv X pins σ (upd H a (.ins C dx (jE f y fs))) s'->Q () s'):wpAny (model X.prog X.w) A (setAttr (.ref a) f u) Q E s:=by
 obtain⟨mA,O,r,wi,_,ho⟩:=FJ I.bS e;have hz:(fs.map (·.1)).length<=sizeLine:=by rw[length_map,sizeLine_eq];omega
 refine Qz I.vS O c.sa c.po n.Te c.hd wi hz λh' O' sb=>h _ ?_;have hd:∃o,h'.get? dx=some o:=let ⟨o,_,_,e',_⟩:=O'.ns;⟨o,e'⟩;refine I.write (x:=a) (e:=dx) (by rw[e];exact True.intro) (.inr ho) (λb q hb z=>(sb.2 b hb).trans z) hd ?_;refine⟨by rw[ak O.ne];exact ho,?_,O.ne,O'.obj,_,O'.ns,λg=>?_,λg hg=>?_⟩
 ·have:=y8 f y fs;omega
 ·show qZ ((jE f y fs).lookup g) (if g=f then some u else mA g);rw[bB];by_cases q:g=f
  ·rw[if_pos q,if_pos q];exact ry
  ·rw[if_neg q,if_neg q];exact r g
 ·by_cases q:g=f
  ·rw[q];exact(yg f y fs).1
  ·refine(yg f y fs).2 g (wi g λz=>hg ?_);show(if g=f then some u else mA g)=none;rw[if_neg q];exact z
theorem Inv.made(I:Inv X pins σ H s):Inv X pins σ (upd (upd H s.heap.objs.size (.own (s.heap.objs.size+1))) (s.heap.objs.size+1) (.ins C s.heap.objs.size []))
  {s with heap:=(s.heap.push PySem.W.emptyDict).push (instObj C s.heap.objs.size)}:=by
 have e1:(s.heap.push PySem.W.emptyDict).get? s.heap.objs.size=some PySem.W.emptyDict:=get?_push_size s.heap rfl;have e2:((s.heap.push PySem.W.emptyDict).push (instObj C s.heap.objs.size)).get? (s.heap.objs.size+1)=some (instObj C s.heap.objs.size):=by
  have:=get?_push_size (s.heap.push PySem.W.emptyDict) (o:=instObj C s.heap.objs.size) rfl
  rwa [size_push]at this
 have e3:(s.heap.push PySem.W.emptyDict).Ns s.heap.objs.size (λ_=>none):=⟨PySem.W.emptyDict,#[],_,e1,rfl,(λe he=>absurd he (by simp)),λ_=>rfl⟩
 have I1:=I.laid (a:=s.heap.objs.size) (o:= .own (s.heap.objs.size+1)) (h':=s.heap.push PySem.W.emptyDict) (t':=s.toks) (λb u q=>get?_push_of_some _ q) (le_refl _) ⟨_,e1⟩;refine I1.laid (a:=s.heap.objs.size+1) (o:= .ins C s.heap.objs.size []) (t':=s.toks) (λb u q=>get?_push_of_some _ q) (le_of_eq (size_push _ _)) ?_;have ne:s.heap.objs.size≠s.heap.objs.size+1:=ne_of_lt (lt_succ_self _);refine⟨by rw[ak ne,af],zero_le _,ne,e2,λ_=>none,(Heap.Ns1.of_empty e3).at λo q=>get?_push_of_some _ q,λ_=>True.intro,λy hy=>absurd rfl hy⟩
theorem Ka{prog:Program}{w:World}{env:Env}{e:Expr}{f:Str}{pos:Pos}{s:Shared}{Q:iE}(hb:attributeBase e f env (eval e env)=eval e env)
  (h:wpAny (model prog w) A (eval e env) (λo s₁=>wpAny (model prog w) A (getAttr o f true) Q E s₁) E s):wpAny (model prog w) A (eval (.Attribute e f pos) env) Q E s:=
 Attribute_any_ h (by rw[arm_eval_Attribute,hb])
end
def S8(K:PySem.W.Frag)(ta:TE)(f:Str):TE:=λσ H Q=>ta σ H λx H1=>∃a C dx fs v,x= .ref a/\H1 a=some (.ins C dx fs)/\Ld K C/\kK K C f/\fs.lookup f=some v/\Q v H1
def Uj(K:PySem.W.Frag)(ta tv:TE)(f:Str):TS:=λD σ H=>tv σ H λy H1=>ta σ H1 λx H2=>∃a C dx fs,x= .ref a/\H2 a=some (.ins C dx fs)/\Ld K C/\kK K C f/\fs.length<1000/\
 D.nx σ (upd H2 a (.ins C dx (jE f y fs)))
section
variable{X:Cx}{o e value:Expr}{f:Str}{pos pos' tpos:Pos}{ta tv:TE}
theorem aQ(he:PE X e ta)(hb:attributeBase e f X.env (eval e X.env)=eval e X.env):PE X (.Attribute e f pos) (S8 X.K ta f):=by
 intro pins s σ H Q I h;refine Ka hb (dh (he pins s σ H _ I h) λu s1 ⟨x,H1,I1,rx,a,C,dx,fs,v,ex,ea,c,n,l,q⟩=>?_);subst ex;obtain rfl:u=Value.ref a:=rx;exact Jn I1 ea c n l λu' s2 I2 ru=>⟨v,H1,I2,ru,q⟩
theorem v9(ha:PE X o ta)(hv:PE X value tv)(hs:swapsWith value (some (.Attribute o f pos')) pos.line X.env=pure false):PS X (.Assign [.Attribute o f pos'] value pos) (Uj X.K ta tv f):=by
 intro pins s σ H D I h;refine plainObj_wpAny_Assign_Attribute (dh (hv pins s σ H _ I h) λu s1 ⟨y,H1,I1,ry,q⟩=>dh (ha pins s1 σ H1 _ I1 q) λov s2 ⟨x,H2,I2,rx,a,C,dx,fs,ex,ea,c,n,l,q2⟩=>?_) hs;subst ex;obtain rfl:ov=Value.ref a:=rx;exact JN I2 ea c n l ry λs3 I3=>⟨σ,_,I3,q2⟩
end
end L2
namespace L2
open PySem PySem.Spec PyProof.Rows
structure iu(k:Nat)(A:Around):Prop where
 hd:A.handled=none
 dp:A.depth+3*k+5<recursionLimit
 un:A.units+16*k+200<cLine
theorem iu.mono{j k:Nat}{A:Around}(r:iu k A)(h:j<=k):iu j A:=⟨r.hd,by have:=r.dp;omega,by have:=r.un;omega⟩
theorem iu.deeper{k:Nat}{A:Around}(r:iu (k+1) A)(env:Env):iu k (A.deeper env):=
 ⟨r.hd,by have:=r.dp;show A.depth+1+3*k+5<_;omega,by have:=r.un;show A.units+3+16*k+200<_;omega⟩
theorem Jv{A:Around}{C:Addr}{us:List Value}{kw:List (Str×Value)}:(A.under (.builtin "type.__call__" ⟨.ref C::us,kw⟩)).depth=A.depth+1:=by
 first|rfl|simp[Around.under,Code.weight,Code.isCreation,Code.isGuard,Code.isCaller,Code.frames,Code.isFrame,guardIds]
theorem Jw{A:Around}{C:Addr}{us:List Value}{kw:List (Str×Value)}:(A.under (.builtin "type.__call__" ⟨.ref C::us,kw⟩)).units=A.units+1:=by
 first|rfl|simp[Around.under,Code.cUnits,Code.frames,Code.isFrame]
theorem iu.make{k:Nat}{A:Around}(r:iu (k+1) A)(C:Addr)(us:List Value)(kw:List (Str×Value)):iu k (A.under (.builtin "type.__call__" ⟨.ref C::us,kw⟩)):=
 ⟨r.hd,by have:=r.dp;rw[Jv];omega,by have:=r.un;rw[Jw];omega⟩
theorem iu.depth{k:Nat}{A:Around}(r:iu k A):A.depth<recursionLimit:=by have:=r.dp;omega
theorem iu.units{k:Nat}{A:Around}(r:iu k A):A.units+64<cLine:=by have:=r.un;omega
def QH:TA:=λ_ H Q=>Q [] H
def Q5(ta:TE)(tr:TA):TA:=λσ H Q=>ta σ H λx H1=>tr σ H1 λxs H2=>Q (x::xs) H2
section
variable{X:Cx}{e:Expr}{es:List Expr}{te:TE}{t:TA}{pos:Pos}
theorem ae:PA X [] QH:=λ_ _ _ _ H Q I h=>Calls.spliced_nil ⟨[],H,I,.nil,h⟩
theorem aa(ha:PE X e te)(hr:PA X es t)(hs:starEach (e::es) X.env=(false,eval e X.env)::starEach es X.env:=by rfl):PA X (e::es) (Q5 te t):=by
 intro pos pins s σ H Q I h;rw[hs];show wpAny _ _ (spliced ((false,eval e X.env)::backTo pos (starEach es X.env))) _ _ s;refine Calls.spliced_cons (dh (ha pins s σ H _ I h) λu s1 ⟨x,H1,I1,r1,q1⟩=>?_);exact dh (hr pos pins s1 σ H1 _ I1 q1) λus s2 ⟨xs,H2,I2,r2,q2⟩=>⟨x::xs,H2,I2,.cons r1 r2,q2⟩
def Uy(t:TA):TE:=λσ H Q=>t σ H λxs H1=>xs.length<=sizeLine/\∀p,H1 p=none->Q (.ref p) (upd H1 p (.tup xs))
def Ut(t:TA):TE:=λσ H Q=>t σ H λxs H1=>xs.length<=sizeLine/\∀p,H1 p=none->Q (.ref p) (upd H1 p (.lst xs))
theorem sR{x1}(h:PA X es t):PE X (.Tuple es x1 pos) (Uy t):=by
 intro pins s σ H Q I hq;refine wpAny_Tuple_spliced (dh (h pos pins s σ H _ I hq) λus s1 ⟨xs,H1,I1,r,z,q⟩=>⟨by rw[<-r.length];exact z,?_⟩);have hf:H1 s1.heap.objs.size=none:=I1.bS.fresh (le_refl _);refine⟨.ref s1.heap.objs.size,upd H1 s1.heap.objs.size (.tup xs),I1.laid (t':=s1.toks) (λb u e=>get?_push_of_some _ e) (le_refl _) ?_,rfl,q _ hf⟩;exact⟨z,us,r,⟨_,get?_push_size _ rfl,rfl,_,rfl⟩⟩
theorem bb(h:PA X es t):PE X (.List es pos) (Ut t):=by
 intro pins s σ H Q I hq;refine wpAny_List_spliced (dh (h pos pins s σ H _ I hq) λus s1 ⟨xs,H1,I1,r,z,q⟩=>⟨by rw[<-r.length];exact z,?_⟩);have hf:H1 s1.heap.objs.size=none:=I1.bS.fresh (le_refl _);refine⟨.ref s1.heap.objs.size,upd H1 s1.heap.objs.size (.lst xs),I1.laid (t':=s1.toks) (λb u e=>get?_push_of_some _ e) (le_refl _) ?_,rfl,q _ hf⟩;exact⟨z,us,0,r,get?_push_size _ rfl⟩
end
abbrev Sp:=List V->Hp->VK->XK->Prop
abbrev IT:=List Env->Hp->Shared->XK->Value->Shared->Prop
structure IU(P:Program)(w:World)(K:PySem.W.Frag)(mg:rn)(base:Heap)(A:Around)(outer:List Env)(s:Shared)(H:Hp):Prop where
 frames:A.frames=some outer
 mod:Mod K mg base
 bs:∀b o,base.get? b=some o->s.heap.get? b=some o/\H b=none
 M3:base.objs.size<=s.heap.objs.size
 yf:s.heap.FunFrames base outer
 QY:∀b∈AX outer,H b=none
 bS:qY P w H s.heap
 bare:AllBare s.gens
def CE(outer:List Env)(P:Program)(w:World)(H:Hp)(s:Shared)(Q:VK)(u:Value)(s':Shared):Prop:=
 ∃v H',s'.os=s.os/\AllBare s'.gens/\Un (AX outer) [] H H' s.heap s'.heap/\qY P w H' s'.heap/\RelV v u/\Q v H'
def CR(CX:IT)(outer:List Env)(P:Program)(w:World)(H:Hp)(s:Shared)(Q:VK)(E:XK)(r:Result)(s':Shared):Prop:=
 match r with
 | .ok (.ret u)=>CE outer P w H s Q u s'
 | .ok _=>False
 | .error e=>CX outer H s E e s'
structure aT(P:Program)(w:World)(K:PySem.W.Frag)(mg:rn)(base:Heap)(CX:IT)(k:Nat)(f:Addr)(fd:FuncData)(ps:List Str)(sp:Sp):Prop where
 len:∀vs H Q E,sp vs H Q E->vs.length=ps.length
 run:∀(A:Around)(outer:List Env)(s:Shared)(H:Hp)(args:Args)(us:List Value)(vs:List V)(Q:VK)(E:XK),iu k A->IU P w K mg base A outer s H->BindsTo s fd args (ps.zip us)->Vals vs us->sp vs H Q E->
  codeAny (model P w) A (.call (.ref f) args) (CR CX outer P w H s Q E) s
theorem aT.mono{P:Program}{w:World}{K:PySem.W.Frag}{mg:rn}{base:Heap}{CX:IT}{j k:Nat}{f:Addr}{fd:FuncData}{ps:List Str}{sp:Sp}(F:aT P w K mg base CX j f fd ps sp)(h:j<=k):
  aT P w K mg base CX k f fd ps sp:=⟨F.len,λA outer s H args us vs Q E hr=>F.run A outer s H args us vs Q E (hr.mono h)⟩
theorem IU.make{P:Program}{w:World}{K:PySem.W.Frag}{mg:rn}{base:Heap}{A:Around}{outer:List Env}{s:Shared}{H:Hp}(e:IU P w K mg base A outer s H)(C:Addr)(us:List Value)(kw:List (Str×Value)):
  IU P w K mg base (A.under (.builtin "type.__call__" ⟨.ref C::us,kw⟩)) outer s H:=⟨by first|exact e.frames|(simpa[Around.under,Code.envs,Code.isFrame,pushEnvs]using e.frames),e.mod,e.bs,e.M3,e.yf,e.QY,e.bS,e.bare⟩
section
variable{X:Cx}{pins:fZ}{σ:St}{H:Hp}{s s':Shared}
theorem Inv.Pu(I:Inv X pins σ H s):IU X.prog X.w X.K X.mg X.base X.A X.stack s H:=
 ⟨I.ok.frames,I.ok.mod,I.bs,le_trans I.ok.M3 I.sz,I.stack,I.A4,I.bS,I.bare⟩
theorem Inv.after{Q:VK}{u:Value}(I:Inv X pins σ H s)(h:CE X.stack X.prog X.w H s Q u s'):EP X pins σ Q u s':=by
 obtain⟨v,H',os,bare,un,bS,r,q⟩:=h;obtain⟨hh,g,d,t,os'⟩:=s';obtain rfl:os'=s.os:=os;exact⟨v,H',I.call (h':=hh) (g':=g) (d':=d) (t':=t) (ch:=[]) un bS bare (λb z=>absurd z (by simp)),r,q⟩
end
def Q4(sp:Sp)(dvs:List V)(E:XK)(t:TA):TE:=λσ H Q=>t σ H λvs H1=>sp (vs++dvs) H1 Q E
def Q7(C:Addr)(m:Str)(sp:Sp)(dvs:List V)(E:XK)(ta:TE)(t:TA):TE:=λσ H Q=>ta σ H λx H1=>∃a dx fs,x= .ref a/\H1 a=some (.ins C dx fs)/\fs.lookup m=none/\
 t σ H1 λvs H2=>sp (x::(vs++dvs)) H2 Q E
def Q6(C:Addr)(sp:Sp)(dvs:List V)(E:XK)(t:TA):TE:=λσ H Q=>t σ H λvs H1=>∀x dx,H1 x=none->H1 dx=none->dx≠x->
 sp (.ref x::(vs++dvs)) (upd (upd H1 dx (.own x)) x (.ins C dx [])) (λv H2=>v= .gc/\Q (.ref x) H2) E
def Binds(K:PySem.W.Frag)(fd:FuncData)(ps:List Str)(ds:List Value):Prop:=
 ∀(s:Shared)(us:List Value),K.In s.heap->(us++ds).length=ps.length->BindsTo s fd ⟨us,[]⟩ (ps.zip (us++ds))
theorem Binds.all{K:PySem.W.Frag}{fd:FuncData}{ps:List Str}(h:∀us:List Value,us.length=ps.length->bindArgs fd ⟨us,[]⟩=pure (ps.zip us)):Binds K fd ps []:=λs us _ hl=>by
 rw[append_nil]at hl⊢;exact .of_eq (h us hl)
def Passes(CX:IT)(X:Cx)(E:XK):Prop:=∀(pins:fZ)(σ:St)(H:Hp)(s:Shared)(e:Value)(s':Shared),Inv X pins σ H s->CX X.stack H s E e s'->X.xe e s'
section
variable{X:Cx}{CX:IT}{k:Nat}{f C:Addr}{fd:FuncData}{ps:List Str}{sp:Sp}{dvs:List V}{ds:List Value}{E:XK}{x m:Str}{p pos apos:Pos}{e o:Expr}{es:List Expr}{ta:TE}{t:TA}
theorem F6{pins:fZ}{σ:St}{H:Hp}{s:Shared}{Q:VK}{us:List Value}{vs:List V}(F:aT X.prog X.w X.K X.mg X.base CX k f fd ps sp)(hr:iu k X.A)(hb:Binds X.K fd ps ds)(hd:Vals dvs ds)(hx:Passes CX X E)
  (I:Inv X pins σ H s) (r:Vals vs us) (h:sp (vs++dvs) H Q E):wpAny (model X.prog X.w) X.A (call (.ref f) us) (EP X pins σ Q) X.xe s:=by
 have r2:Vals (vs++dvs) (us++ds):=r.append hd;have hl:(us++ds).length=ps.length:=by rw[<-r2.length];exact F.len _ _ _ _ h
 refine wpAny_call (codeAny_mono (F.run X.A X.stack s H ⟨us,[]⟩ (us++ds) (vs++dvs) Q E hr I.Pu (hb s us I.vS hl) r2 h) λr s' hq=>?_);cases r with
 |error e=>exact hx pins σ H s e s' I hq
 |ok fl=>
  cases fl with
  |ret u=>exact I.after hq
  |next=>exact False.elim hq
  |brk=>exact False.elim hq
  |cont=>exact False.elim hq
theorem aw{j:Nat}(F:aT X.prog X.w X.K X.mg X.base CX k f fd ps sp)(hr:iu j X.A)(hm:X.mg x=some (.ref f))(hk:keepIn X.K (.ref f)=true)(hb:Binds X.K fd ps [])(hx:Passes CX X E)
  (ha:PA X (e::es) t) (hg:Gl X x:=by rfl) (hj:k<=j:=by decide) (hdb:(x==("__debug__":Str))=false:=by decide) (he:starEach (e::es) X.env=(false,eval e X.env)::starEach es X.env:=by rfl) (hpl:(backTo pos (starEach es X.env)).any (·.1)=false:=by rfl):
  PE X (.Call (.Name x p) (e::es) [] pos) (Q4 sp [] E t):=by
 intro pins s σ H Q I h;refine wpAny_Call_Name_kw (pS I hg hm ?_ hdb);refine callWith_K (h₀:=X.base) I.ok.mod.RJ hk (dh (ha pos pins s σ H _ I h) λus s1 ⟨vs,H1,I1,r,q⟩=>⟨I1.vS,?_⟩) he hpl;exact F6 F (hr.mono hj) hb .nil hx I1 r q
theorem aO{j:Nat}{pl:Sem Bool}(he:PE X o ta)(c:Ld X.K C)(hm:Meth X.K C m f)(F:aT X.prog X.w X.K X.mg X.base CX k f fd ps sp)(hr:iu j X.A)(hb:Binds X.K fd ps [])(hx:Passes CX X E)(ha:PA X (e::es) t)(hj:k<=j:=by decide)
  (hst:starEach (e::es) X.env=(false,eval e X.env)::starEach es X.env:=by rfl) (hpl:(backTo pos (starEach es X.env)).any (·.1)=false:=by rfl)
  (ht:eval (.Call (.Attribute o m apos) (e::es) [] pos) X.env=(do
   let ov<-eval o X.env
   standAt apos.atName
   let (f,first)<-holding [ov] (getMethod ov m pl)
   callWith pos f first (backTo pos (starEach (e::es) X.env)) (backToKw pos (keywordEach [] X.env))):=by rfl):
  PE X (.Call (.Attribute o m apos) (e::es) [] pos) (Q7 C m sp [] E ta t):=by
 intro pins s σ H Q I h;refine methodCall_KW (pl:=pl) (dh (he pins s σ H _ I h) λu s1 ⟨x,H1,I1,rx,a,dx,fs,ex,ea,l,q⟩=>?_) ht;subst ex;obtain rfl:u=Value.ref a:=rx;refine B1 I1 ea c hm l ?_;refine callWith_K (first:=[.ref a]) (h₀:=X.base) I.ok.mod.RJ hm.kp (dh (ha pos pins s1 σ H1 _ I1 q) λus s2 ⟨vs,H2,I2,r,q2⟩=>⟨I2.vS,?_⟩) hst hpl;exact F6 (us:= .ref a::us) (vs:= .ref a::vs) F (hr.mono hj) hb .nil hx I2 (.cons rfl r) q2
theorem ip{j:Nat}{pl:Sem Bool}(he:PE X o ta)(c:Ld X.K C)(hm:Meth X.K C m f)(F:aT X.prog X.w X.K X.mg X.base CX k f fd ps sp)(hr:iu j X.A)(hb:Binds X.K fd ps [])(hx:Passes CX X E)(hj:k<=j:=by decide)
  (ht:eval (.Call (.Attribute o m apos) [] [] pos) X.env=(do
   let ov<-eval o X.env
   standAt apos.atName
   let (f,first)<-holding [ov] (getMethod ov m pl)
   callWith pos f first (backTo pos (starEach [] X.env)) (backToKw pos (keywordEach [] X.env))):=by rfl):
  PE X (.Call (.Attribute o m apos) [] [] pos) (Q7 C m sp [] E ta QH):=by
 intro pins s σ H Q I h;refine methodCall_KW (pl:=pl) (dh (he pins s σ H _ I h) λu s1 ⟨x,H1,I1,rx,a,dx,fs,ex,ea,l,q⟩=>?_) ht;subst ex;obtain rfl:u=Value.ref a:=rx;refine B1 I1 ea c hm l ?_;exact callWith_K0 (first:=[.ref a]) I1.vS hm.kp (F6 (us:=[.ref a]) (vs:=[.ref a]) F (hr.mono hj) hb .nil hx I1 (.cons rfl .nil) q)
structure Mk(K:PySem.W.Frag)(C f:Addr):Prop where
 makes:makesIn K C=true
 init:PySem.W.findIn K (.ref C) "__init__"=some (some (.ref f))
 fn:isFn K (.ref f)=true
 kp:keepIn K (.ref C)=true
theorem Ic{pins:fZ}{σ:St}{H:Hp}{s:Shared}{Q:VK}{us:List Value}{vs:List V}(M:Mk X.K C f)(F:aT X.prog X.w X.K X.mg X.base CX k f fd ps sp)(hr:iu (k+1) X.A)(hb:Binds X.K fd ps ds)(hd:Vals dvs ds)
  (hx:Passes CX X E) (I:Inv X pins σ H s) (r:Vals vs us)
  (h:∀x dx,H x=none->H dx=none->dx≠x->sp (.ref x::(vs++dvs)) (upd (upd H dx (.own x)) x (.ins C dx [])) (λv H2=>v= .gc/\Q (.ref x) H2) E):
  wpAny (model X.prog X.w) X.A (call (.ref C) us) (EP X pins σ Q) X.xe s:=by
 have hq:=h (s.heap.objs.size+1) s.heap.objs.size (I.bS.fresh (le_succ _)) (I.bS.fresh (le_refl _)) (ne_of_lt (lt_succ_self _));have I2:=Inv.made (C:=C) I;have r2:Vals (V.ref (s.heap.objs.size+1)::(vs++dvs)) (Value.ref (s.heap.objs.size+1)::(us++ds)):= .cons rfl (r.append hd);have hl:(Value.ref (s.heap.objs.size+1)::us++ds).length=ps.length:=by
  have e:=r2.length;rw[F.len _ _ _ _ hq]at e;exact e.symm
 refine wpAny_call (NT (f:=f) I.vS M.makes M.init (beq_iff_eq.mp M.fn) (codeAny_mono (F.run _ X.stack _ _ ⟨Value.ref (s.heap.objs.size+1)::us,[]⟩ (Value.ref (s.heap.objs.size+1)::(us++ds)) _ _ E (hr.make C us [])
  (I2.Pu.make C us []) (hb _ (Value.ref (s.heap.objs.size+1)::us) I2.vS hl) r2 hq) λr s' hq'=>?_))
 cases r with
 |error e=>exact hx pins σ _ _ e s' I2 hq'
 |ok fl=>
  cases fl with
  |ret u=>
   obtain⟨v,H',I3,rv,ev,q3⟩:=I2.after hq';subst ev;exact⟨rv,⟨V.ref (s.heap.objs.size+1),H',I3,rfl,q3⟩⟩
  |next=>exact False.elim hq'
  |brk=>exact False.elim hq'
  |cont=>exact False.elim hq'
theorem KS(M:Mk X.K C f)(F:aT X.prog X.w X.K X.mg X.base CX k f fd ps sp)(hr:iu (k+1) X.A)(hg:Gl X x)(hm:X.mg x=some (.ref C))(hb:Binds X.K fd ps ds)(hd:Vals dvs ds)(hx:Passes CX X E)
  (ha:PA X (e::es) t) (hdb:(x==("__debug__":Str))=false:=by decide) (he:starEach (e::es) X.env=(false,eval e X.env)::starEach es X.env:=by rfl) (hpl:(backTo pos (starEach es X.env)).any (·.1)=false:=by rfl):
  PE X (.Call (.Name x p) (e::es) [] pos) (Q6 C sp dvs E t):=by
 intro pins s σ H Q I h;refine wpAny_Call_Name_kw (pS I hg hm ?_ hdb);refine callWith_K (h₀:=X.base) I.ok.mod.RJ M.kp (dh (ha pos pins s σ H _ I h) λus s1 ⟨vs,H1,I1,r,q⟩=>⟨I1.vS,?_⟩) he hpl;exact Ic M F hr hb hd hx I1 r q
theorem HX(M:Mk X.K C f)(F:aT X.prog X.w X.K X.mg X.base CX k f fd ps sp)(hr:iu (k+1) X.A)(hg:Gl X x)(hm:X.mg x=some (.ref C))(hb:Binds X.K fd ps ds)(hd:Vals dvs ds)(hx:Passes CX X E)
  (hdb:(x==("__debug__":Str))=false:=by decide):PE X (.Call (.Name x p) [] [] pos) (Q6 C sp dvs E QH):=by
 intro pins s σ H Q I h;refine wpAny_Call_Name_kw (pS I hg hm ?_ hdb);exact callWith_K0 I.vS M.kp (Ic (us:=[]) M F hr hb hd hx I .nil h)
end
def PK(X:Cx)(kws:List Keyword)(t:TA):Prop:=
 ∀(pos:Pos)(pins:fZ)(s:Shared)(σ:St)(H:Hp)(Q:List V->Hp->Prop),Inv X pins σ H s->t σ H Q->wpAny (model X.prog X.w) X.A (evalAll ((backToKw pos (keywordEach kws X.env)).map (·.2))) (AP X pins σ Q) X.xe s
section
variable{X:Cx}{CX:IT}{k:Nat}{f C:Addr}{fd:FuncData}{ps ks:List Str}{sp:Sp}{E:XK}{x m:Str}{p pos apos kpos:Pos}{e o:Expr}{es:List Expr}{kws:List Keyword}{te ta:TE}{t tk:TA}{nm:Option Str}
theorem Ou:PK X [] QH:=λ_ _ _ _ H Q I h=>wpAny_evalAll_nil ⟨[],H,I,.nil,h⟩
theorem KW(ha:PE X e te)(hr:PK X kws t):PK X (⟨nm,e,kpos⟩::kws) (Q5 te t):=by
 intro pos pins s σ H Q I h;show wpAny _ _ (evalAll ((do let v<-eval e X.env;standAt pos;pure v)::(backToKw pos (keywordEach kws X.env)).map (·.2))) _ _ s;refine wpAny_evalAll_cons (wpAny_bind (dh (ha pins s σ H _ I h) λu s1 ⟨x,H1,I1,r1,q1⟩=>wpAny_bind (wpAny_standAt (wpAny_pure ?_))));exact dh (hr pos pins s1 σ H1 _ I1 q1) λus s2 ⟨xs,H2,I2,r2,q2⟩=>⟨x::xs,H2,I2,.cons r1 r2,q2⟩
variable{g:List Value->List Value->List Value}{gV:List V->List V->List V}
end
structure au(N P:List Str)(sc:Scope):Prop where
 kind:sc.kind= .function
 co:sc.isCoroutine=false
 gen:sc.isGenerator=false
 nd:N.Nodup
 pre:N.take P.length=P
 par:∀x∈P,sc.names.lookup x=some .local\/sc.names.lookup x=some .cell
 RR:∀y∈sc.names,y.2≠.free
theorem Ee{kindOf:Str->Option NameKind}{x:Str}:∀{binds:List (Str×Value)}{m:rn},(∀v,(x,v)∉binds)->bindL kindOf binds m x=m x
 |[],_,_=>rfl
 |(n,v)::r,m,h=>by
  unfold bindL;rw[Ee λw hw=>h w (mem_cons_of_mem _ hw)]
  split
  ·have:x≠n:=by rintro rfl;exact h v mem_cons_self
   simp[this]
  ·rfl
theorem Ec{kindOf:Str->Option NameKind}{x:Str}:∀{binds:List (Str×Value)}{m:rn},(∀v,(x,v)∉binds)->bindC kindOf binds m x=m x
 |[],_,_=>rfl
 |(n,v)::r,m,h=>by
  unfold bindC;rw[Ec λw hw=>h w (mem_cons_of_mem _ hw)]
  split
  ·rfl
  ·have:x≠n:=by rintro rfl;exact h v mem_cons_self
   simp[this]
theorem Ed{kindOf:Str->Option NameKind}{x:Str}{v:Value}:∀{P:List Str}{vs:List Value}{i:Nat}{m:rn},P.Nodup->P[i]?=some x->vs[i]?=some v->kindOf x=some .local->
  bindL kindOf (P.zip vs) m x=some v
 |[],_,_,_,_,h,_,_=>by simp at h
 |_::_,[],_,_,_,_,h,_=>by simp at h
 |p::P,w::vs,0,m,nd,h1,h2,hk=>by
  simp at h1 h2;subst h1;subst h2;show bindL kindOf ((p,w)::P.zip vs) m p=_;unfold bindL;rw[Ee λv hv=>(nodup_cons.mp nd).1 (of_mem_zip hv).1,if_pos hk];simp
 |p::P,w::vs,i+1,m,nd,h1,h2,hk=>by
  show bindL kindOf ((p,w)::P.zip vs) m x=_;unfold bindL;exact Ed (i:=i) (nodup_cons.mp nd).2 (by simpa using h1) (by simpa using h2) hk
theorem Eb{kindOf:Str->Option NameKind}{x:Str}{v:Value}:∀{P:List Str}{vs:List Value}{i:Nat}{m:rn},P.Nodup->P[i]?=some x->vs[i]?=some v->kindOf x≠some .local->
  bindC kindOf (P.zip vs) m x=some v
 |[],_,_,_,_,h,_,_=>by simp at h
 |_::_,[],_,_,_,_,h,_=>by simp at h
 |p::P,w::vs,0,m,nd,h1,h2,hk=>by
  simp at h1 h2;subst h1;subst h2;show bindC kindOf ((p,w)::P.zip vs) m p=_;unfold bindC;rw[Ec λv hv=>(nodup_cons.mp nd).1 (of_mem_zip hv).1,if_neg hk];simp
 |p::P,w::vs,i+1,m,nd,h1,h2,hk=>by
  show bindC kindOf ((p,w)::P.zip vs) m x=_;unfold bindC;exact Eb (i:=i) (nodup_cons.mp nd).2 (by simpa using h1) (by simpa using h2) hk
def start(N:List Str)(vs:List V):St:=vs.map some++replicate (N.length-vs.length) none
def zY(CX:IT)(P:Program)(w:World)(K:PySem.W.Frag)(mg:rn)(base:Heap)(N:List Str)(qual:Str)(scope:Scope)(f:Addr)(cd:Value)(A:Around)(outer:List Env)(s:Shared)(H:Hp)(E:XK):Cx where
 prog:=P
 w:=w
 K:=K
 mg:=mg
 base:=base
 A:=A.deeper (envOfC qual scope s.heap.objs.size f cd)
 N:=N
 oV:=s
 My:=H
 env:=envOfC qual scope s.heap.objs.size f cd
 outer:=outer
 stack:=envOfC qual scope s.heap.objs.size f cd::outer
 ex:=[]
 calm:=true
 fn:=λ_=>true
 pn:=[]
 xe:=λe s'=>wpAny (model P w) (A.deeper (envOfC qual scope s.heap.objs.size f cd)) (leaving (envOfC qual scope s.heap.objs.size f cd) e) (λ_ s''=>CX outer H s E e s'') (λe' s''=>CX outer H s E e' s'') s'
theorem G0{sc:Scope}{n:Nat}{x:Str}(h:sc.names.lookup x=some .cell):∃c,(cellsFrom n sc.names []).lookup x=some c:=by
 have q:=PySem.W.cellsFrom_some sc.names n [] (.inl h);exact isSome_iff_exists.mp q
theorem LI{CX:IT}{P:Program}{w:World}{K:PySem.W.Frag}{mg:rn}{base:Heap}{N ps:List Str}{qual:Str}{scope:Scope}{f:Addr}{cd:Value}{A:Around}{outer:List Env}{s s1:Shared}{H:Hp}{E:XK}{us:List Value}{vs:List V}
  (S:au N ps scope) (hd:A.handled=none) (e0:IU P w K mg base A outer s H) (hl:vs.length=ps.length) (r:Vals vs us)
  (x:InCallC s s.heap.objs.size (bindL (envOfC qual scope s.heap.objs.size f cd).kindOf (ps.zip us) λ_=>none) (cellsFrom (s.heap.objs.size+1) scope.names []) (bindC (envOfC qual scope s.heap.objs.size f cd).kindOf (ps.zip us) λ_=>none) s1):
  Inv (zY CX P w K mg base N qual scope f cd A outer s H E) [] (start N vs) H s1:=by
 have hpl:ps.length<=N.length:=by have:=congrArg List.length S.pre;rw[length_take]at this;omega
 obtain⟨h1,tk,rfl,hk⟩:=x.done;have noA:∀b:Addr,b∉(zY CX P w K mg base N qual scope f cd A outer s H E).ex:=λb z=>absurd (show b∈([]:List Addr)from z) (by simp)
 refine⟨⟨e0.mod,S.kind,rfl,rfl,le_refl _,λy z c h1 h2=>?_,λy hy=>?_,λy c _ h=>?_,λ_=>hd,Around.frames_deeper e0.frames,.inr ⟨rfl,rfl⟩,λb z=>absurd z (noA b),e0.bs,e0.M3,λb _ _=>noA b,λb z=>absurd z (noA b),e0.yf,e0.QY⟩,
  rfl,e0.bare,Un.kept hk,⟨_,x.toInCall.ns,λi y v h1 h2 h3=>?_⟩,λy c h=>⟨_,x.cell y c h⟩,e0.bS.fresh (le_refl _),λy c h=>?_,λp hp=>absurd (show p∈([]:fZ)from hp) (by simp),e0.bS.kept hk,?_⟩
 ·exact name_of_addr x.apart (PySem.mem_of_lookup h1) (PySem.mem_of_lookup h2)
 ·have hy:scope.names.lookup y=some .cell\/scope.names.lookup y=some .free:=hy;rcases hy with hy|hy
  ·exact G0 hy
  ·exact absurd rfl (S.RR _ (PySem.mem_of_lookup hy))
 ·exact le_of_lt (x.above y c (PySem.mem_of_lookup h))
 ·have hi:i<vs.length:=by
   unfold start at h2;by_cases hi:i<vs.length
   ·exact hi
   ·rw[getElem?_append_right (by simpa using hi)]at h2;rw[List.getElem?_replicate]at h2
    split at h2<;>cases h2
  have ha:vs[i]?=some v:=by
   unfold start at h2;rw[getElem?_append_left (by simpa using hi),getElem?_map]at h2;cases e:vs[i]? with
   |none=>rw[e]at h2;cases h2
   |some a=>rw[e]at h2;cases h2;rfl
  obtain⟨u,hu,rv⟩:=r.get ha;have hp:ps[i]?=some y:=by
   rw[<-S.pre,List.getElem?_take_of_lt (by omega)];exact h1
  have ndP:ps.Nodup:=by rw[<-S.pre];exact S.nd.sublist (List.take_sublist _ _)
  refine⟨u,rv,?_⟩;rcases S.par y (mem_of_getElem? hp)with k|k
  ·exact .inl ⟨k,Ed ndP hp hu k⟩
  ·obtain⟨c,e⟩:=G0 (n:=s.heap.objs.size+1) k;refine .inr ⟨.inl k,c,e,?_⟩;have q:=x.cell y c e;rw[Eb ndP hp hu (by show scope.names.lookup y≠_;rw[k];decide)]at q;exact q
 ·exact e0.bS.fresh (le_of_lt (x.above y c (PySem.mem_of_lookup h)))
 ·unfold start;show _=N.length;rw[length_append,length_map,List.length_replicate];omega
theorem Np{CX:IT}{P:Program}{w:World}{K:PySem.W.Frag}{mg:rn}{base:Heap}{k:Nat}{f:Addr}{name qual:Str}{params:Arguments}{body:List Stmt}{scope:Scope}{dV kV doc pm cdv ct oc:Value}{an od:Option Addr}
  {osl:Array (Option Value)} {N ps:List Str} {sp:Sp} (lk:K.lookup f=some ⟨oc,od,.func (fnOf name qual params body scope dV kV doc pm an cdv ct),osl⟩) (hcd:codeIn K cdv qual=true) (S:au N ps scope)
  (len:∀vs H Q E,sp vs H Q E->vs.length=ps.length)
  (hbody:∀(A:Around)(outer:List Env)(s:Shared)(H:Hp)(vs:List V)(Q:VK)(E:XK),iu k (A.deeper (envOfC qual scope s.heap.objs.size f cdv))->sp vs H Q E->
   ∃t,E3 (zY CX P w K mg base N qual scope f cdv A outer s H E) body t/\t {nx:=λ_ H'=>Q .gc H',rt:=Q} (start N vs) H):
  aT P w K mg base CX (k+1) f (fnOf name qual params body scope dV kV doc pm an cdv ct) ps sp:=by
 refine⟨len,λA outer s H args us vs Q E hr e0 hb r hsp=>?_⟩;have hl:=len _ _ _ _ hsp;have KX:K.In s.heap:=e0.mod.RJ.keeps λb o e=>(e0.bs b o e).1;have lim:s.heap.NoLimit:=e0.mod.nolimit.keeps λb o e=>(e0.bs b o e).1;have hkind:∀y∈ps.zip us,scope.names.lookup y.1=some .local\/(scope.names.lookup y.1=some .cell/\((cellsFrom (s.heap.objs.size+1) scope.names []).lookup y.1).isSome=true):=λ⟨n,v⟩ hy=>by
  rcases S.par n (of_mem_zip hy).1 with q|q
  ·exact .inl q
  ·exact .inr ⟨q,PySem.W.cellsFrom_some _ _ _ (.inl q)⟩
 refine codeAny_call_function hr.depth (KX _ _ lk) rfl S.co S.gen rfl (PySem.W.codeRec_of KX hcd) (hb _ _ _ _ ?_);refine wpAny_newFunctionEnv_cells S.kind hkind λenv he s1 x=>?_;subst he;refine⟨lim.keeps x.toInCall.keep,codeAny_func ?_⟩;obtain⟨t,ht,hq⟩:=hbody A outer s H vs Q E (hr.deeper _) hsp;have I:Inv (zY CX P w K mg base N qual scope f cdv A outer s H E) [] (start N vs) H s1:=LI S hr.hd e0 hl r x;refine wpAny_mono (ht [] s1 (start N vs) H _ I hq) (λfl s' hs=>?_) λe s' hs=>hs;have fin:∀{σ':St}{H':Hp}{v:V}{u:Value},Inv (zY CX P w K mg base N qual scope f cdv A outer s H E) [] σ' H' s'->RelV v u->Q v H'->CE outer P w H s Q u s':=
  λ{σ' H' v u}J rv q=>⟨v,H',J.os,J.bare,J.base,J.bS,rv,q⟩
 cases fl with
 |ret u=>
  obtain⟨v,σ',H',J,rv,q⟩:=hs;exact fin J rv q
 |next=>
  obtain⟨σ',H',J,q⟩:=hs;exact fin (v:=V.gc) (u:=Value.none) J rfl q
 |brk=>
  obtain⟨_,_,_,q⟩:=hs;exact False.elim q
 |cont=>
  obtain⟨_,_,_,q⟩:=hs;exact False.elim q
end L2
namespace L2
open PySem PySem.Spec PyProof.Rows
section
variable{X:Cx}{x:Str}{p pos:Pos}{e:Expr}{es:List Expr}{t:TA}{id T:String}{r:List V->Hp->VK->Prop}
def UK(r:List V->Hp->VK->Prop)(t:TA):TE:=λσ H Q=>t σ H λvs H1=>r vs H1 Q
theorem aL(hc:jG X (.builtin id) r)(hg:Gl X x)(hm:X.mg x=none)(hv:bootBuiltins x=some (.builtin id))(ha:PA X (e::es) t)(hn:x≠"__name__":=by decide)(hdb:(x==("__debug__":Str))=false:=by decide)
  (he:starEach (e::es) X.env=(false,eval e X.env)::starEach es X.env:=by rfl) (hpl:(backTo pos (starEach es X.env)).any (·.1)=false:=by rfl):PE X (.Call (.Name x p) (e::es) [] pos) (UK r t):=by
 intro pins s σ H Q I h;refine wpAny_Call_Name_kw (mm I hg hm hv ?_ hn hdb);exact PyProof.Rows.callWith_builtin1 (dh (ha pos pins s σ H _ I h) λus s1 ⟨vs,H1,I1,r1,q1⟩=>hc pins s1 σ H1 vs us Q I1 r1 q1) he hpl
theorem lH(hc:jG X (.type T) r)(hg:Gl X x)(hm:X.mg x=none)(hv:bootBuiltins x=some (.type T))(ha:PA X (e::es) t)(hn:x≠"__name__":=by decide)(hdb:(x==("__debug__":Str))=false:=by decide)
  (he:starEach (e::es) X.env=(false,eval e X.env)::starEach es X.env:=by rfl) (hpl:(backTo pos (starEach es X.env)).any (·.1)=false:=by rfl):PE X (.Call (.Name x p) (e::es) [] pos) (UK r t):=by
 intro pins s σ H Q I h;refine wpAny_Call_Name_kw (mm I hg hm hv ?_ hn hdb);exact PyProof.Rows.callWith_type1 (dh (ha pos pins s σ H _ I h) λus s1 ⟨vs,H1,I1,r1,q1⟩=>hc pins s1 σ H1 vs us Q I1 r1 q1) he hpl
end
end L2
namespace HT
open PySem PyProof.Rows
section
variable{prog:Program}{w:World}{A:Around}{E:iE}{s:Shared}
def IS(n d:Nat):Option Int->Nat
 |none=>d
 |some v=>if v<0 then(v+(n:Int)).toNat else min v.toNat n
theorem A1(n d k:Nat):IS n d (some (k:Int))=min k n:=by
 show(if(k:Int)<0 then((k:Int)+(n:Int)).toNat else min (k:Int).toNat n)=min k n;rw[if_neg (by omega),toNat_natCast]
end
end HT
namespace L2
open PySem PySem.Spec PyProof.Rows
abbrev TO:=St->Hp->(Option Int->Hp->Prop)->Prop
def PO(X:Cx)(e:Option Expr)(t:TO):Prop:=
 ∀(pins:fZ)(s:Shared)(σ:St)(H:Hp)(Q:Option Int->Hp->Prop),Inv X pins σ H s->t σ H Q->
  wpAny (model X.prog X.w) X.A (evalPart e X.env) (λu s'=>∃o H',Inv X pins σ H' s'/\IsPart u o/\Q o H') X.xe s
def QI:TO:=λ_ H Q=>Q none H
def Tc(t:TE):TO:=λσ H Q=>t σ H λx H1=>∃i,x= .int i/\Q (some i) H1
theorem intsAre_of{ns:List Int}:∀{us:List Value},Vals (ns.map V.int) us->IntsAre us ns:=by
 induction ns with
 |nil=>intro us r;rw[map_nil]at r;cases r;exact .nil
 |cons n ns ih=>
  intro us r;rw[map_cons]at r;cases r with
  |cons r1 r2=>
   obtain⟨t,e⟩:=r1;subst e;exact .cons n t (ih r2)
section
variable{X:Cx}{e:Expr}{te:TE}{lo hi:Option Expr}{tl th:TO}{pos p2:Pos}
theorem KZ:PO X none QI:=by
 intro pins s σ H Q I h;rw[evalPart_none];exact wpAny_pure ⟨none,H,I,.none,h⟩
theorem kf(h:PE X e te):PO X (some e) (Tc te):=by
 intro pins s σ H Q I hw;rw[evalPart_some];refine dh (h pins s σ H _ I hw) λu s1 ⟨x,H1,I1,r1,q1⟩=>?_;obtain⟨i,rfl,q⟩:=q1;obtain⟨t,rfl⟩:=r1;exact⟨some i,H1,I1,.int i t,q⟩
def TH(X:Cx)(r:V->Option Int->Option Int->Hp->VK->Prop):Prop:=
 ∀(pins:fZ)(s:Shared)(σ:St)(H:Hp)(x:V)(v vl vu:Value)(lo hi:Option Int)(sl:Addr)(Q:VK),Inv X pins σ H s->RelV x v->s.heap.IsSliceOf sl vl vu .none->IsPart vl lo->IsPart vu hi->r x lo hi H Q->
  ∃T id,typeLookup (.type T) "__getitem__"=pure (some (.builtin id))/\s.TypeIs v T/\wpAny (model X.prog X.w) X.A (getItem v (.ref sl)) (EP X pins σ Q) X.xe s
def UX(r:V->Option Int->Option Int->Hp->VK->Prop)(te:TE)(tl th:TO):TE:=λσ H Q=>te σ H λx H1=>tl σ H1 λl H2=>th σ H2 λu H3=>r x l u H3 Q
theorem oS{r:V->Option Int->Option Int->Hp->VK->Prop}(hr:TH X r)(he:PE X e te)(hl:PO X lo tl)(hu:PO X hi th):PE X (.Subscript e (.Slice lo hi none p2) pos) (UX r te tl th):=by
 intro pins s σ H Q I h;refine Subscript_ (dh (he pins s σ H _ I h) λv s1 ⟨x,H1,I1,r1,q1⟩=>?_);refine wpAny_Slice (dh (hl pins s1 σ H1 _ I1 q1) λvl s2 ⟨l,H2,I2,pl,q2⟩=>dh (hu pins s2 σ H2 _ I2 q2) λvu s3 ⟨u,H3,I3,pu,q3⟩=>?_);rw[evalPart_none];refine wpAny_pure ?_;have I4:Inv X pins σ H3 {s3 with heap:=s3.heap.push {cls:= .type "slice",data:= .fields #[vl,vu,.none]}}:=I3.kept (t':=s3.toks) λb ob q=>get?_push_of_some _ q;obtain⟨T,id,hT,ht,hg⟩:=hr pins {s3 with heap:=s3.heap.push {cls:= .type "slice",data:= .fields #[vl,vu,.none]}} σ H3 x v vl vu l u s3.heap.objs.size Q I4 r1 (Heap.IsSliceOf.new ..) pl pu q3;show wpAny (model X.prog X.w) X.A (subscriptTail e (.Slice lo hi none p2) v (.ref s3.heap.objs.size)) (EP X pins σ Q) X.xe {s3 with heap:=s3.heap.push {cls:= .type "slice",data:= .fields #[vl,vu,.none]}};exact tail_any (ops:=[.ref s3.heap.objs.size,v]) ht hT hg (by with_unfolding_all rfl)
def wH(xs:List V)(lo hi:Option Int):List V:=(xs.drop (HT.IS xs.length 0 lo)).take (HT.IS xs.length xs.length hi-HT.IS xs.length 0 lo)
theorem G6(xs:List V)(lo hi:Option Int):(wH xs lo hi).length<=xs.length:=by
 unfold wH;rw[length_take,length_drop];omega
end
end L2
namespace L2
open PySem PySem.Spec PyProof.Rows
def O3(n:Nat)(i:Int):Option Nat:=if 0<=i then(if i<n then some i.toNat else none)else if-(n:Int)<=i then some (i+n).toNat else none
def MS{α:Type}(xs:List α)(i:Int):Option α:=(O3 xs.length i).bind λj=>xs[j]?
theorem Kx{n:Nat}{i:Int}{j:Nat}(h:O3 n i=some j):seqIndex? i n=some j/\j<n/\ -(n:Int)<=i/\i<n:=by
 unfold O3 at h;by_cases h0:0<=i
 ·rw[if_pos h0]at h;by_cases h1:i<n
  ·rw[if_pos h1]at h;have e:i.toNat=j:=Option.some.inj h;exact⟨by rw[seqIndex_of h0 h1,e],by omega,by omega,h1⟩
  ·rw[if_neg h1]at h;cases h
 ·rw[if_neg h0]at h;by_cases h1: -(n:Int)<=i
  ·rw[if_pos h1]at h;have e:(i+n).toNat=j:=Option.some.inj h;exact⟨by rw[seqIndex_neg (by omega) h1,e],by omega,h1,by omega⟩
  ·rw[if_neg h1]at h;cases h
theorem J8{α:Type}{xs:List α}{i:Int}{v:α}(h:MS xs i=some v):∃j,seqIndex? i xs.length=some j/\xs[j]?=some v/\j<xs.length/\ -(xs.length:Int)<=i/\i<xs.length:=by
 unfold MS at h;cases e:O3 xs.length i with
 |none=>rw[e]at h;cases h
 |some j=>
  rw[e]at h;obtain⟨h1,h2,h3,h4⟩:=Kx e;exact⟨j,h1,h,h2,h3,h4⟩
theorem J9{α:Type}{xs:List α}{j:Nat}{v:α}(h:xs[j]?=some v):MS xs (j:Int)=some v:=by
 have hj:j<xs.length:=(List.getElem?_eq_some_iff.mp h).1;have e:O3 xs.length (j:Int)=some j:=by
  unfold O3;rw[if_pos (by omega),if_pos (by omega)];simp
 unfold MS;rw[e];exact h
def Pf(b:Expr):Prop:=∀o i,subscripted b false o i=operate [o,i] (getItem o i)
def Sl(X:Cx)(r:R2):Prop:=
 ∀(value slice:Expr)(pins:fZ)(s:Shared)(σ:St)(H:Hp)(x y:V)(v u:Value)(Q:VK),Inv X pins σ H s->RelV x v->RelV y u->r x y H Q->
  subscripted slice false v u=operate [v,u] (getItem v u)->wpAny (model X.prog X.w) X.A (subscriptTail value slice v u) (EP X pins σ Q) X.xe s
def Th(X:Cx)(id:String)(r:V->List V->Hp->VK->Prop):Prop:=
 ∀(pins:fZ)(s:Shared)(σ:St)(H:Hp)(x:V)(xs:List V)(v:Value)(us:List Value)(Q:VK),Inv X pins σ H s->RelV x v->Vals xs us->r x xs H Q->
  wpAny (model X.prog X.w) X.A (call (.builtin id) (v::us)) (EP X pins σ Q) X.xe s
section
variable{X:Cx}{a b:Expr}{ta tb:TE}{pos:Pos}
theorem aU{r:R2}(hr:Sl X r)(ha:PE X a ta)(hb:PE X b tb)(hs:Pf b):PE X (.Subscript a b pos) (Sj r ta tb):=by
 intro pins s σ H Q I h;exact Subscript_ (Rl ha hb I h λv u s2 x y H2 I2 rx ry q=>hr a b pins s2 σ H2 x y v u Q I2 rx ry q (hs _ _))
def SR(K:PySem.W.Frag):R2:=λx y H Q=>∃p xs i v,x= .ref p/\y= .int i/\aH K H p xs/\MS xs i=some v/\Q v H
def SU(K:PySem.W.Frag):R2:=λx y H Q=>∃p xs i v,x= .ref p/\y= .int i/\ra K H p xs/\MS xs i=some v/\Q v H
theorem aE:Sl X (SR X.K):=by
 intro value slice pins s σ H x y v u Q I rx ry h hs;obtain⟨p,xs,i,z,rfl,rfl,hq,he,q⟩:=h;cases rx;obtain⟨t,rfl⟩:=ry;obtain⟨its,r,pl,hz⟩:=I.list hq;obtain⟨j,h1,h2,h3,h4,h5⟩:=J8 he;obtain⟨w,ew,rw'⟩:=r.get h2;have hl:=r.length;have hn:=B6;have fin:EP X pins σ Q w s:=⟨z,H,I,rw',q⟩
 by_cases h0:0<=i
 ·have hj:i.toNat=j:=by
   rw[seqIndex_of h0 h5]at h1;exact Option.some.inj h1
  exact item_listR pl.isList h0 (by omega) (by rw[hj];simpa using ew) fin hs
 ·have hj:(i+(its.toArray.size:Int)).toNat=j:=by
   rw[seqIndex_neg (by omega) h4]at h1;rw[size_toArray,<-hl];exact Option.some.inj h1
  exact subscriptTail_builtinR (x:=w) pl.isList.typeIs slot_list_getitem.lookup
   (wpAny_getItem_list_neg (Q:=λr s'=>r=w/\EP X pins σ Q r s') pl.isList (by omega) (by rw[size_toArray]<;>omega) (by omega) (by rw[hj];simpa using ew) ⟨rfl,fin⟩) hs
theorem FL:Sl X (SU X.K):=by
 intro value slice pins s σ H x y v u Q I rx ry h hs;obtain⟨p,xs,i,z,rfl,rfl,hq,he,q⟩:=h;cases rx;obtain⟨t,rfl⟩:=ry;obtain⟨its,r,pl,hz⟩:=I.tuple hq;obtain⟨j,h1,h2,h3,h4,h5⟩:=J8 he;obtain⟨w,ew,rw'⟩:=r.get h2;have hl:=r.length;have hn:=B6;have fin:EP X pins σ Q w s:=⟨z,H,I,rw',q⟩
 exact subscriptTail_builtinR (x:=w) pl.typeIs slot_tuple_getitem.lookup
  (getItem_tuple (j:=j) (Q:=λr s'=>r=w/\EP X pins σ Q r s') pl (by omega) (by omega) (by rw[size_toArray,<-hl];exact h1) (by simpa using ew) ⟨rfl,fin⟩) hs
theorem Jx(its:List Value)(n j:Nat)(u:Value):Obj.mapSeq (·.setIfInBounds j u) {cls:= .type "list",data:= .seq its.toArray n}={cls:= .type "list",data:= .seq (its.set j u).toArray n}:=by
 simp[Obj.mapSeq]
theorem Inv.lst{pins:fZ}{σ:St}{H:Hp}{s:Shared}{p:Addr}{xs:List V}(I:Inv X pins σ H s)(h:H p=some (.lst xs)):
  ∃(its:List Value)(n:Nat),Vals xs its/\s.heap.get? p=some {cls:= .type "list",data:= .seq its.toArray n}/\xs.length<=sizeLine:=by
 obtain⟨z,its,n,r,e⟩:=I.bS p _ h;exact⟨its,n,r,e,z⟩
theorem Inv.RN{pins:fZ}{σ:St}{H:Hp}{s:Shared}{p:Addr}{xs ys:List V}{its its':List Value}{n n':Nat}{f:Obj->Obj}(I:Inv X pins σ H s)(h:H p=some (.lst xs))
  (ho:s.heap.get? p=some {cls:= .type "list",data:= .seq its.toArray n}) (hf:f {cls:= .type "list",data:= .seq its.toArray n}={cls:= .type "list",data:= .seq its'.toArray n'}) (r:Vals ys its') (hz:ys.length<=sizeLine) (t:Nat):
  Inv X pins σ (upd H p (.lst ys)) {s with heap:=s.heap.update p f,toks:=t}:=by
 have e:(s.heap.update p f).get? p=some {cls:= .type "list",data:= .seq its'.toArray n'}:=by
  rw[get?_update_self f ho (by rw[hf]<;>rfl),hf]
 refine I.write (x:=p) (e:=p) (by rw[h];trivial) (.inl rfl) (λb u hb q=>(get?_update_other _ _ (Ne.symm hb)).trans q) ⟨_,e⟩ ?_;exact⟨hz,its',n',r,e⟩
def SW:V->V->V->Hp->(Hp->Prop)->Prop:=λo i v H Q=>∃p xs k j,o= .ref p/\i= .int k/\H p=some (.lst xs)/\O3 xs.length k=some j/\Q (upd H p (.lst (xs.set j v)))
theorem set_list:Rc X SW:=by
 intro pins s σ H o i v ov iv u Q I ro ri rv h;obtain⟨p,xs,k,j,rfl,rfl,hp,hj,q⟩:=h;cases ro;obtain⟨t,rfl⟩:=ri;obtain⟨its,n,r,ho,hz⟩:=I.lst hp;obtain⟨h1,h2,h3,h4⟩:=Kx hj;have hl:=r.length;have hn:=B6;have I':Inv X pins σ (upd H p (.lst (xs.set j v))) {s with heap:=s.heap.update p (Obj.mapSeq (·.setIfInBounds j u))}:=
  I.RN hp ho (Jx its n j u) (r.set rv j) (by rw[length_set];exact hz) s.toks
 by_cases h0:0<=k
 ·have hk:k.toNat=j:=by
   rw[seqIndex_of h0 h4]at h1;exact Option.some.inj h1
  exact PySem.W.ki_setAt ho h0 (by omega) (by rw[size_toArray,<-hl];exact h4) (by rw[hk];exact⟨_,I',q⟩)
 ·have hk:(k+(its.toArray.size:Int)).toNat=j:=by
   rw[seqIndex_neg (by omega) h3]at h1;rw[size_toArray,<-hl];exact Option.some.inj h1
  exact PySem.W.ki_setBack ho (by omega) (by rw[size_toArray,<-hl];exact h3) (by omega) (by rw[hk];exact⟨_,I',q⟩)
theorem Ga(lo hi:Option Int)(n:Nat):(sliceBounds lo hi none n).1=((HT.IS n 0 lo:Nat):Int)/\(sliceBounds lo hi none n).2.1=((HT.IS n n hi:Nat):Int)/\(sliceBounds lo hi none n).2.2=1:=by
 refine⟨?_,?_,rfl⟩
 ·cases lo with
  |none=>simp[sliceBounds,HT.IS]
  |some i=>
   simp only[sliceBounds,HT.IS,getD_none,show(1:Int)>0 by decide,if_true];by_cases h:i<0
   ·simp only[h,if_true]<;>omega
   ·simp only[h,if_false]<;>omega
 ·cases hi with
  |none=>simp[sliceBounds,HT.IS]
  |some i=>
   simp only[sliceBounds,HT.IS,getD_none,show(1:Int)>0 by decide,if_true];by_cases h:i<0
   ·simp only[h,if_true]<;>omega
   ·simp only[h,if_false]<;>omega
theorem DV(its:List Value)(lo hi:Option Int):slicePick its.toArray lo hi none=((its.drop (HT.IS its.length 0 lo)).take (HT.IS its.length its.length hi-HT.IS its.length 0 lo)).toArray:=by
 obtain⟨h1,h2,h3⟩:=Ga lo hi its.toArray.size;unfold slicePick;rw[h1,h2,h3];simp only[sliceRange_one,pick_run,size_toArray]<;>rfl
def SX(K:PySem.W.Frag):V->Option Int->Option Int->Hp->VK->Prop:=λx lo hi H Q=>∃a xs,x= .ref a/\aH K H a xs/\∀p,H p=none->Q (.ref p) (upd H p (.lst (wH xs lo hi)))
theorem xA:TH X (SX X.K):=by
 intro pins s σ H x v vl vu lo hi sl Q I rx hs pl pu h;obtain⟨a,xs,rfl,hx,q⟩:=h;cases rx;obtain⟨its,r,ht,hz⟩:=I.list hx;have hlen:=r.length;refine⟨"list",_,slot_list_getitem.lookup,ht.isList.typeIs,?_⟩;refine wpAny_getItem_list_slice ht.isList hs pl pu .none (by simp) ?_ (by rw[size_toArray]<;>omega);rw[DV,<-hlen];refine⟨.ref s.heap.objs.size,_,I.laid (t':=s.toks) (o:= .lst (wH xs lo hi)) (λb ob q=>get?_push_of_some _ q) (le_refl _) ?_,rfl,q _ (I.bS.fresh (le_refl _))⟩;exact⟨le_trans (G6 xs lo hi) hz,_,0,(r.drop (HT.IS xs.length 0 lo)).take (HT.IS xs.length xs.length hi-HT.IS xs.length 0 lo),get?_push_size _ rfl⟩
def oK:V->Bool
 | .gc=>true
 | .bl _=>true
 | .int _=>true
 | .str _=>true
 |_=>false
def Ji:V->V->Bool
 | .gc,.gc=>true
 | .bl a,.bl b=>a==b
 | .bl a,.int b=>(if a then 1 else 0)==b
 | .int a,.bl b=>a==(if b then 1 else 0)
 | .int a,.int b=>a==b
 | .str a,.str b=>a==b
 |_,_=>false
theorem Rz{A:Around}{s:Shared}{y x:V}{u v:Value}(ry:RelV y u)(rx:RelV x v)(fy:oK y=true)(fx:oK x=true):SeqAt.EqAt A s u v (Ji y x):=by
 cases y with
 |gc=>
  cases ry;cases x with
  |gc=>cases rx;exact SeqAt.EqAt.same _
  |bl b=>cases rx;exact SeqAt.EqAt.none_bool b
  |int b=>obtain⟨t,rfl⟩:=rx;exact SeqAt.EqAt.none_int b t
  |str b=>obtain⟨t,rfl⟩:=rx;exact SeqAt.EqAt.none_str b t
  |_=>exact absurd (show false=true from fx) Bool.false_ne_true
 |bl a=>
  cases ry;cases x with
  |gc=>cases rx;exact SeqAt.EqAt.bool_none a
  |bl b=>cases rx;exact SeqAt.EqAt.bool_bool a b
  |int b=>obtain⟨t,rfl⟩:=rx;exact SeqAt.EqAt.bool_int a b t
  |str b=>obtain⟨t,rfl⟩:=rx;exact SeqAt.EqAt.bool_str a b t
  |_=>exact absurd (show false=true from fx) Bool.false_ne_true
 |int a=>
  obtain⟨t',rfl⟩:=ry;cases x with
  |gc=>cases rx;exact SeqAt.EqAt.int_none a t'
  |bl b=>cases rx;exact SeqAt.EqAt.int_bool a t' b
  |int b=>obtain⟨t,rfl⟩:=rx;exact SeqAt.EqAt.int_int a t' b t
  |str b=>obtain⟨t,rfl⟩:=rx;exact SeqAt.EqAt.int_str a t' b t
  |_=>exact absurd (show false=true from fx) Bool.false_ne_true
 |str a=>
  obtain⟨t',rfl⟩:=ry;cases x with
  |gc=>cases rx;exact SeqAt.EqAt.str_none a t'
  |bl b=>cases rx;exact SeqAt.EqAt.str_bool a t' b
  |int b=>obtain⟨t,rfl⟩:=rx;exact SeqAt.EqAt.str_int a t' b t
  |str b=>obtain⟨t,rfl⟩:=rx;exact SeqAt.EqAt.str_str a t' b t
  |_=>exact absurd (show false=true from fx) Bool.false_ne_true
 |_=>exact absurd (show false=true from fy) Bool.false_ne_true
def O2(x:V)(u:Value):Bool:=match u with
 | .none=>Ji .gc x
 | .bool b=>Ji (.bl b) x
 | .int i _=>Ji (.int i) x
 | .str z _=>Ji (.str z) x
 |_=>false
theorem Fs{x y:V}{u:Value}(r:RelV y u)(f:oK y=true):O2 x u=Ji y x:=by
 cases y with
 |gc=>cases r;rfl
 |bl b=>cases r;rfl
 |int i=>obtain⟨t,rfl⟩:=r;rfl
 |str z=>obtain⟨t,rfl⟩:=r;rfl
 |_=>exact absurd (show false=true from f) Bool.false_ne_true
theorem E7{x:V}:∀{xs:List V}{us:List Value},Vals xs us->xs.all oK=true->us.any (O2 x)=xs.any λy=>Ji y x
 |_,_,.nil,_=>rfl
 |y::xs,u::us,.cons r t,f=>by
  rw[all_cons,and_eq_true]at f;rw[any_cons,any_cons,Fs r f.1,E7 t f.2]
theorem wY{A:Around}{s:Shared}{x:V}{v:Value}(rx:RelV x v)(fx:oK x=true):∀{xs:List V}{us:List Value},Vals xs us->xs.all oK=true->∀u∈us,SeqAt.EqAt A s u v (O2 x u)
 |_,_,.nil,_=>λu hu=>by cases hu
 |y::xs,u::us,.cons r t,f=>λu' hu=>by
  rw[all_cons,and_eq_true]at f;rcases mem_cons.mp hu with rfl|hu
  ·rw[Fs r f.1];exact Rz r rx f.1 fx
  ·exact wY rx fx t f.2 u' hu
def To(x:V)(xs:List V):Bool:=xs.any λy=>Ji y x
def UR(K:PySem.W.Frag)(neg:Bool):R2:=λx y H Q=>∃p xs,y= .ref p/\(aH K H p xs\/ra K H p xs)/\oK x=true/\xs.all oK=true/\Q (.bl (if neg then !To x xs else To x xs)) H
theorem F2:wx X (compareOp .NotIn) (UR X.K true):=by
 intro pins s σ H x y v u Q I rx ry h;obtain⟨p,xs,rfl,hq,fx,fs,q⟩:=h;cases ry;rcases hq with hq|hq
 ·obtain⟨its,r,pl,hz⟩:=I.list hq;refine SeqAt.notIn_listAt (O2 x) pl.isList (λw hw=>wY rx fx r fs w (by simpa using hw)) ⟨.bl _,H,I,rfl,?_⟩;rw[show its.toArray.any (O2 x)=its.any (O2 x) by simp,E7 r fs];exact q
 ·obtain⟨its,r,pl,hz⟩:=I.tuple hq;refine SeqAt.notIn_tupleAt (O2 x) pl (λw hw=>wY rx fx r fs w (by simpa using hw)) ⟨.bl _,H,I,rfl,?_⟩;rw[show its.toArray.any (O2 x)=its.any (O2 x) by simp,E7 r fs];exact q
theorem aK:jG X (.builtin "len") (λxs H Q=>∃p ys,xs=[.ref p]/\(aH X.K H p ys\/ra X.K H p ys)/\Q (.int ys.length) H):=by
 intro pins s σ H xs us Q I r h;obtain⟨p,ys,rfl,hq,q⟩:=h;obtain⟨u,rfl,rx⟩:=vals1 r;cases rx;have hn:=B6;rcases hq with hq|hq
 ·obtain⟨its,r',pl,hz⟩:=I.list hq;have hlen:=r'.length;exact Calls.call_len_list pl.isList (by simp only[size_toArray]<;>omega) ⟨.int ys.length,H,I.tok _,⟨s.toks+1,by rw[size_toArray,hlen]⟩,q⟩
 ·obtain⟨its,r',pl,hz⟩:=I.tuple hq;have hlen:=r'.length;exact len_tuple pl (by simp only[size_toArray]<;>omega) ⟨.int ys.length,H,I.tok _,⟨s.toks+1,by rw[size_toArray,hlen]⟩,q⟩
theorem pJ:jG X (.type "list") (λxs H Q=>∃p ys,xs=[.ref p]/\(aH X.K H p ys\/ra X.K H p ys)/\∀l,H l=none->Q (.ref l) (upd H l (.lst ys))):=by
 intro pins s σ H xs us Q I r h;obtain⟨p,ys,rfl,hq,q⟩:=h;obtain⟨u,rfl,rx⟩:=vals1 r;cases rx;have fin:∀(its:List Value),Vals ys its->ys.length<=sizeLine->∀(h':Heap)(c':Nat),(∀b o',s.heap.get? b=some o'->h'.get? b=some o')->
   h'.get? s.heap.objs.size=some {cls:= .type "list",dict:=none,data:= .seq its.toArray c',slots:= #[]}->EP X pins σ Q (.ref s.heap.objs.size) {s with heap:=h'}:=λits r' hz h' c' kp e=>
  ⟨.ref s.heap.objs.size,_,I.laid (t':=s.toks) kp (le_refl _) (show di X.prog X.w _ h' _ (.lst ys)from⟨hz,its,c',r',e⟩),rfl,q _ (I.bS.fresh (le_refl _))⟩
 rcases hq with hq|hq
 ·obtain⟨its,r',pl,hz⟩:=I.list hq;have hlen:=r'.length;obtain⟨o,ho,hc,n,hd⟩:=pl.isList;exact call_list_seq p (.inl rfl) ho hc hd (λh' c' kp e=>fin its r' hz h' c' kp e) (by simp only[size_toArray]<;>omega)
 ·obtain⟨its,r',pl,hz⟩:=I.tuple hq;have hlen:=r'.length;obtain⟨o,ho,hc,n,hd⟩:=pl;exact call_list_seq p (.inr rfl) ho hc hd (λh' c' kp e=>fin its r' hz h' c' kp e) (by simp only[size_toArray]<;>omega)
theorem Dz:jG X (.type "tuple") (λxs H Q=>∃p ys,xs=[.ref p]/\((aH X.K H p ys/\∀l,H l=none->Q (.ref l) (upd H l (.tup ys)))\/(ra X.K H p ys/\Q (.ref p) H))):=by
 intro pins s σ H xs us Q I r h;obtain⟨p,ys,rfl,h⟩:=h;obtain⟨u,rfl,rx⟩:=vals1 r;cases rx;rcases h with⟨hq,q⟩|⟨hq,q⟩
 ·obtain⟨its,r',pl,hz⟩:=I.list hq;have hlen:=r'.length;refine call_tuple_list pl.isList (λh' kp=>?_) (by simp only[size_toArray]<;>omega);have I1:Inv X pins σ H {s with heap:=h'}:=I.kept (t':=s.toks) kp;have I2:Inv X pins σ (upd H h'.objs.size (.tup ys)) {s with heap:=h'.push {cls:= .type "tuple",data:= .seq its.toArray}}:=
   I1.laid (t':=s.toks) (λb o e=>get?_push_of_some _ e) (le_refl _) (show di X.prog X.w _ _ _ (.tup ys)from⟨hz,its,r',IsTup.new _ _⟩)
  exact⟨.ref h'.objs.size,_,I2,rfl,q _ (I1.bS.fresh (le_refl _))⟩
 ·obtain⟨its,r',pl,hz⟩:=I.tuple hq;exact call_tuple_same pl ⟨.ref p,H,I,rfl,q⟩
def UA(K:PySem.W.Frag)(T:String)(x:V)(H:Hp):Prop:=match x with
 | .str _=>T="str"
 | .int _=>T="int"
 | .ref p=>(T="list"/\∃xs,aH K H p xs)\/(T="tuple"/\∃o,K.lookup p=some o/\o.cls= .type "tuple"/\o.dict=none)\/
   (T="dict"/\((∃kvs,H p=some (.dK kvs))\/∃kvs,H p=some (.dT kvs)))\/(T="set"/\∃S n,H p=some (.set S n))
 |_=>False
theorem OZ{pins:fZ}{σ:St}{H:Hp}{s:Shared}{T:String}{x:V}{v:Value}(I:Inv X pins σ H s)(r:RelV x v)(ty:UA X.K T x H):
  s.TypeIs v T/\∀a,v= .ref a->∃ob,s.heap.get? a=some ob/\ob.dict=none:=by
 cases x with
 |str z=>
  obtain⟨t,rfl⟩:=r;cases(show T="str"from ty);exact⟨typeIs_str s z t,λ_ e=>nomatch e⟩
 |int i=>
  obtain⟨t,rfl⟩:=r;cases(show T="int"from ty);exact⟨typeIs_int s i t,λ_ e=>nomatch e⟩
 |ref p=>
  cases r;rcases ty with⟨rfl,xs,hq⟩|⟨rfl,o,hk,hc,hd⟩|⟨rfl,hk⟩|⟨rfl,S,n,hk⟩
  ·obtain⟨its,_,pl,_⟩:=I.list hq;refine⟨pl.isList.typeIs,λa e=>?_⟩;cases e;obtain⟨o,n,e,c,hd,_⟩:=pl;exact⟨o,e,hd⟩
  ·refine⟨⟨o,I.vS p o hk,hc⟩,λa e=>?_⟩;cases e;exact⟨o,I.vS _ o hk,hd⟩
  ·have z:∃o,s.heap.get? p=some o/\o.ExactDict:=by
    rcases hk with⟨kvs,hk⟩|⟨kvs,hk⟩
    ·obtain⟨_,_,_,_,o,_,_,e,ex,_⟩:=I.bS p _ hk;exact⟨o,e,ex⟩
    ·obtain⟨_,_,_,_,o,_,_,e,ex,_⟩:=I.bS p _ hk;exact⟨o,e,ex⟩
   obtain⟨o,e,ex⟩:=z;refine⟨⟨o,e,ex.1⟩,λa e2=>?_⟩;cases e2;exact⟨o,e,ex.2.1⟩
  ·obtain⟨o,_,_,_,e,ex,_⟩:=I.bS p _ hk;refine⟨⟨o,e,ex.1⟩,λa e2=>?_⟩;cases e2;exact⟨o,e,ex.2.1⟩
 |_=>exact False.elim ty
def Uo(K:PySem.W.Frag)(T:String)(r:V->List V->Hp->VK->Prop)(to:TE):TE:=λσ H Q=>to σ H λx H1=>UA K T x H1/\r x [] H1 Q
def UT(K:PySem.W.Frag)(T:String)(r:V->List V->Hp->VK->Prop)(to:TE)(t:TA):TE:=λσ H Q=>to σ H λx H1=>UA K T x H1/\t σ H1 λxs H2=>r x xs H2 Q
variable{o e:Expr}{es:List Expr}{to:TE}{t:TA}{name:Str}{apos cpos:Pos}{T id:String}{r:V->List V->Hp->VK->Prop}
theorem RW(pa:PlainAttrs T)(slot:Slot T name id)(hty:typeOf (.builtin id)=pure (.type "method_descriptor"))(hm:Th X id r)(ho:PE X o to)
  (hbase:attributeBase o name X.env (eval o X.env)=eval o X.env:=by rfl) (hline:(apos.endLine==cpos.line)=true:=by rfl):PE X (.Call (.Attribute o name apos) [] [] cpos) (Uo X.K T r to):=by
 intro pins s σ H Q I h;refine wpAny_Call_method0_late hbase hline (dh (ho pins s σ H _ I h) λv s1 ⟨x,H1,I1,r1,ty,q1⟩=>?_);obtain⟨h1,h2⟩:=OZ I1 r1 ty;exact⟨T,id,pa,slot,hty,h1,h2,Calls.callWith_builtin rfl (PySem.evalArgs_none (hm pins s1 σ H1 x [] v [] Q I1 r1 .nil q1))⟩
theorem nR(pa:PlainAttrs T)(slot:Slot T name id)(hty:typeOf (.builtin id)=pure (.type "method_descriptor"))(hm:Th X id r)(ho:PE X o to)(ha:PA X (e::es) t)
  (hbase:attributeBase o name X.env (eval o X.env)=eval o X.env:=by rfl)
  (hfew:((backTo cpos (starEach (e::es) X.env)).all (λx=> !x.1)&&(backToKw cpos (keywordEach [] X.env)).all (λx=>x.1.isSome)
   &&decide ((e::es).length+([]:List Keyword).length+(if([]:List Keyword).isEmpty then 0 else 1)<30))=true:=by rfl)
  (hline:(apos.endLine==cpos.line)=true:=by rfl) (hs:starEach (e::es) X.env=(false,eval e X.env)::starEach es X.env:=by rfl) (hplain:(backTo cpos (starEach es X.env)).any (·.1)=false:=by rfl):
  PE X (.Call (.Attribute o name apos) (e::es) [] cpos) (UT X.K T r to t):=by
 intro pins s σ H Q I h;refine wpAny_Call_method_late hbase hfew hline rfl (dh (ho pins s σ H _ I h) λv s1 ⟨x,H1,I1,r1,ty,q1⟩=>?_);obtain⟨h1,h2⟩:=OZ I1 r1 ty;refine⟨T,id,pa,slot,hty,h1,h2,?_⟩;have hA:=ha cpos pins s1 σ H1 _ I1 q1;rw[hs]at hA⊢;refine Calls.callWith_builtin (by show(false||(backTo cpos (starEach es X.env)).any (·.1))=false;rw[hplain]<;>rfl) (Calls.evalArgs_plain ?_);exact dh hA λus s2 ⟨vs,H2,I2,r2,q2⟩=>hm pins s2 σ H2 x vs v us Q I2 r1 r2 q2
end
end L2
namespace L2
open PySem PySem.Spec PyProof.Rows
def TF(X:Cx)(id:String)(r:V->List V->Hp->VK->Prop):Prop:=
 ∀(pins:fZ)(s:Shared)(σ:St)(H:Hp)(x:V)(xs:List V)(v:Value)(us:List Value)(Q:VK),Inv X pins σ H s->RelV x v->Vals xs us->r x xs H Q->
  wpAny (model X.prog X.w) X.A (call (.builtin id) (v::us)) (EP X pins σ Q) X.xe s
theorem Vals.one:∀{x:V}{us:List Value},Vals [x] us->∃u,us=[u]/\RelV x u
 |_,_,.cons r .nil=>⟨_,rfl,r⟩
section
variable{X:Cx}{pins:fZ}{σ:St}{H:Hp}{s:Shared}{l b:Addr}{xs ys zs:List V}
theorem Inv.RM{its its':List Value}{n:Nat}{f:Array Value->Array Value}{t':Nat}(I:Inv X pins σ H s)(hH:H l=some (.lst xs))
  (e:s.heap.get? l=some {cls:= .type "list",data:= .seq its.toArray n}) (hf:f its.toArray=its'.toArray) (hv:Vals ys its') (hz:ys.length<=sizeLine):
  Inv X pins σ (upd H l (.lst ys)) {s with heap:=s.heap.update l (Obj.mapSeq f),toks:=t'}:=by
 have q:=PySem.IsL.update e f;rw[hf]at q;refine I.write (x:=l) (e:=l) (by rw[hH];exact trivial) (.inl rfl) (λb' u hb hu=>(get?_update_other s.heap (Obj.mapSeq f) (Ne.symm hb)).trans hu) ⟨_,q⟩ ?_;exact⟨hz,its',_,hv,q⟩
theorem Inv.T3{its:List Value}{t':Nat}(I:Inv X pins σ H s)(hv:Vals ys its)(hz:ys.length<=sizeLine):
  Inv X pins σ (upd H s.heap.objs.size (.lst ys)) {s with heap:=s.heap.push {cls:= .type "list",data:= .seq its.toArray},toks:=t'}:=
 I.laid (λ_ _ q=>get?_push_of_some _ q) (le_refl _) ⟨hz,its,0,hv,get?_push_size _ rfl⟩
theorem Inv.fresh(I:Inv X pins σ H s):H s.heap.objs.size=none:=I.bS.fresh (le_refl _)
theorem Inv.LN(I:Inv X pins σ H s)(hH:H l=some (.lst xs)):xs.length<=sizeLine/\∃(its:List Value)(n:Nat),Vals xs its/\xs.length=its.length/\s.heap.get? l=some {cls:= .type "list",data:= .seq its.toArray n}:=by
 obtain⟨z,its,n,r,e⟩:=I.bS l _ hH;exact⟨z,its,n,r,r.length,e⟩
theorem HK{n:Nat}(h:n<=sizeLine):Builtin.List.listTooLong n=false:=by
 unfold Builtin.List.listTooLong;exact decide_eq_false (by omega)
end
section
variable{X:Cx}
def Qu:V->List V->Hp->VK->Prop:=λx vs H Q=>∃l xs y,x= .ref l/\vs=[y]/\H l=some (.lst xs)/\xs.length<sizeLine/\Q .gc (upd H l (.lst (xs++[y])))
theorem i6:TF X "list.append" Qu:=by
 intro pins s σ H x vs v us Q I rx rv h;obtain⟨l,xs,y,rfl,rfl,hH,hz,q⟩:=h;cases rx;obtain⟨u,rfl,ru⟩:=rv.one;obtain⟨z,its,n,r,hl,e⟩:=I.LN hH;refine call_meets F.slot_list_append ⟨_,e,rfl⟩ F.entry_list_append (F.args_list_append_2 _ _) (PySem.list_append l its.toArray n u (by rw[size_toArray];omega)) ⟨e,?_⟩;refine⟨.gc,_,I.RM (its':=its++[u]) hH e (by simp) (r.append (.cons ru .nil)) ?_,rfl,q⟩;rw[length_append,length_singleton];omega
def Qv:V->List V->Hp->VK->Prop:=λx vs H Q=>∃l b xs zs,x= .ref l/\vs=[.ref b]/\H l=some (.lst xs)/\H b=some (.lst zs)/\xs.length+zs.length<=sizeLine/\Q .gc (upd H l (.lst (xs++zs)))
theorem uw:TF X "list.extend" Qv:=by
 intro pins s σ H x vs v us Q I rx rv h;obtain⟨l,b,xs,zs,rfl,rfl,hH,hB,hz,q⟩:=h;cases rx;obtain⟨u,rfl,ru⟩:=rv.one;cases ru;obtain⟨z,its,n,r,hl,e⟩:=I.LN hH;obtain⟨z2,its2,n2,r2,hl2,e2⟩:=I.LN hB;have hsz:its.toArray.size+its2.toArray.size<=sizeLine:=by rw[size_toArray,size_toArray];omega
 have hlong:¬(!its.toArray.isEmpty&&Builtin.List.listTooLong (its.toArray.size+its2.toArray.size))=true:=by
  rw[HK hsz,Bool.and_false];exact Bool.false_ne_true
 refine call_meets F.slot_list_extend ⟨_,e,rfl⟩ F.entry_list_extend (F.args_list_extend_2 _ _)
  (AutoSeq1.list_extend_list_list_0 l its.toArray n b its2.toArray n2 hlong (by rw[size_toArray];omega) (by omega)) ⟨e,e2,?_⟩
 refine⟨.gc,_,I.RM (its':=its++its2) hH e (by simp) (r.append r2) ?_,rfl,q⟩;rw[length_append];omega
def Uc:R2:=λx y H Q=>∃l b xs zs,x= .ref l/\y= .ref b/\H l=some (.lst xs)/\H b=some (.lst zs)/\xs.length+zs.length<=sizeLine/\∀p,H p=none->Q (.ref p) (upd H p (.lst (xs++zs)))
theorem j3:wx X (binaryOp .Add) Uc:=by
 intro pins s σ H x y v u Q I rx ry h;obtain⟨l,b,xs,zs,rfl,rfl,hH,hB,hz,q⟩:=h;cases rx;cases ry;obtain⟨z,its,n,r,hl,e⟩:=I.LN hH;obtain⟨z2,its2,n2,r2,hl2,e2⟩:=I.LN hB;refine PySem.P.add_list e e2 ?_ (by rw[size_toArray,size_toArray];omega);have ea:its.toArray++its2.toArray=(its++its2).toArray:=by simp
 rw[ea];exact⟨.ref _,_,I.T3 (t':=s.toks) (r.append r2) (by rw[length_append];omega),rfl,q _ I.fresh⟩
end
end L2
namespace L2
open PySem PySem.Spec PyProof.Rows
theorem Vals.ints:∀{ns:List Int}{us:List Value},Vals (ns.map V.int) us->IntsAre us ns
 |[],us,h=>by
  rw[map_nil]at h;cases h;exact IntsAre.nil
 |n::ns,us,h=>by
  rw[map_cons]at h;cases h with
  |cons r t=>
   obtain⟨k,rfl⟩:=r;exact IntsAre.cons n k (Vals.ints t)
theorem xM:∀{us:List Value}{ns:List Int},IntsAre us ns->Vals (ns.map V.int) us
 |_,_,.nil=>by rw[map_nil];exact Paired.nil
 |_,_,.cons n t h=>by rw[map_cons];exact Paired.cons (show RelV (V.int n) (Value.int n t)from⟨t,rfl⟩) (xM h)
theorem Vals.TQ:∀{bs:List Bool}{us:List Value},Vals (bs.map V.bl) us->us=bs.map Value.bool
 |[],us,h=>by
  rw[map_nil]at h;cases h;rfl
 |b::bs,us,h=>by
  rw[map_cons]at h;cases h with
  |cons r t=>
   cases r;rw[Vals.TQ t,map_cons]
theorem Vals.Md{a:Addr}{us:List Value}(r:Vals [V.ref a] us):us=[Value.ref a]:=by
 cases r with
 |cons r t=>
  cases t;cases r;rfl
section
variable{prog:Program}{w:World}{A:Around}{E:iE}{s:Shared}{l:Addr}{its:List Value}{ns:List Int}{Q:iE}
theorem QG(hh:A.handled=none)(hl:s.heap.IsList l its.toArray)(hi:IntsAre its ns)
  (h:∀h' tk t',(∀b o,s.heap.get? b=some o->h'.get? b=some o)->Q (.int ns.sum t') {s with heap:=h',toks:=tk}):wpAny (model prog w) A (call (.builtin "sum") [.ref l]) Q E s:=by
 obtain⟨xs,e⟩:=hi.allInts.items;have hn:numsOf (intItems xs).toList=ns:=by rw[<-e];exact hi.numsOf
 rw[nums_intItems]at hn;rw[e]at hl;refine PySem.sum_intListG hh hl λh' tk t' hk=>?_;have:=h h' tk t' hk;rw[preSum_eq,List.take_of_length_le (by simp),hn];exact this
theorem P7(hh:A.handled=none)(hl:s.heap.IsList l its.toArray)(hi:IntsAre its ns)(hne:0<ns.length)
  (h:∀h' tk M t',(∀b o,s.heap.get? b=some o->h'.get? b=some o)->M∈ns->(∀a,a∈ns->a<=M)->Q (.int M t') {s with heap:=h',toks:=tk}):wpAny (model prog w) A (call (.builtin "max") [.ref l]) Q E s:=by
 obtain⟨xs,e⟩:=hi.allInts.items;have hn:numsOf (intItems xs).toList=ns:=by rw[<-e];exact hi.numsOf
 rw[nums_intItems]at hn;subst hn;rw[e]at hl;have hsz:0<xs.size:=by simpa using hne
 refine PySem.max_intList hh hl hsz λv h' tk hv hk=>?_;obtain⟨t,rfl⟩:=intItems_at hv;obtain⟨h1,h2⟩:=argBest_gt (numAt xs) (xs.size-1);refine h h' tk _ t hk ?_ λa ha=>?_
 ·rw[numAt_eq];exact PySem.getD_mem (by rw[length_map,length_toList];omega)
 ·obtain⟨j,hj,rfl⟩:=mem_getD ha;rw[length_map,length_toList]at hj;rw[<-numAt_eq];exact h2 j (by omega)
theorem P8(hh:A.handled=none)(hl:s.heap.IsList l its.toArray)(hi:IntsAre its ns)(hne:0<ns.length)
  (h:∀h' tk M t',(∀b o,s.heap.get? b=some o->h'.get? b=some o)->M∈ns->(∀a,a∈ns->M<=a)->Q (.int M t') {s with heap:=h',toks:=tk}):wpAny (model prog w) A (call (.builtin "min") [.ref l]) Q E s:=by
 obtain⟨xs,e⟩:=hi.allInts.items;have hn:numsOf (intItems xs).toList=ns:=by rw[<-e];exact hi.numsOf
 rw[nums_intItems]at hn;subst hn;rw[e]at hl;have hsz:0<xs.size:=by simpa using hne
 refine PySem.min_intList hh hl hsz λv h' tk hv hk=>?_;obtain⟨t,rfl⟩:=intItems_at hv;obtain⟨h1,h2⟩:=argBest_lt (numAt xs) (xs.size-1);refine h h' tk _ t hk ?_ λa ha=>?_
 ·rw[numAt_eq];exact PySem.getD_mem (by rw[length_map,length_toList];omega)
 ·obtain⟨j,hj,rfl⟩:=mem_getD ha;rw[length_map,length_toList]at hj;rw[<-numAt_eq];exact h2 j (by omega)
end
section
variable{X:Cx}
def Uh(K:PySem.W.Frag):List V->Hp->VK->Prop:=λvs H Q=>∃(a:Addr)(ns:List Int),vs=[V.ref a]/\aH K H a (ns.map V.int)/\Q (.int ns.sum) H
def SV(K:PySem.W.Frag):List V->Hp->VK->Prop:=λvs H Q=>∃(a:Addr)(ns:List Int),vs=[V.ref a]/\aH K H a (ns.map V.int)/\0<ns.length/\∀m,m∈ns->(∀y,y∈ns->y<=m)->Q (.int m) H
def Ue(K:PySem.W.Frag):List V->Hp->VK->Prop:=λvs H Q=>∃(a:Addr)(ns:List Int),vs=[V.ref a]/\aH K H a (ns.map V.int)/\0<ns.length/\∀m,m∈ns->(∀y,y∈ns->m<=y)->Q (.int m) H
theorem xZ(hc:X.calm=true):jG X (.builtin "sum") (Uh X.K):=by
 intro pins s σ H vs us Q I r h;obtain⟨a,ns,rfl,hs,q⟩:=h;obtain⟨its,rv,hl,_⟩:=I.list hs;rw[Vals.Md r];exact QG (I.ok.hd hc) hl.isList rv.ints λh' tk t' hk=>⟨.int _,H,I.kept hk,⟨_,rfl⟩,q⟩
theorem BD(hc:X.calm=true):jG X (.builtin "max") (SV X.K):=by
 intro pins s σ H vs us Q I r h;obtain⟨a,ns,rfl,hs,hne,q⟩:=h;obtain⟨its,rv,hl,_⟩:=I.list hs;rw[Vals.Md r];exact P7 (I.ok.hd hc) hl.isList rv.ints hne λh' tk m t' hk h1 h2=>⟨.int _,H,I.kept hk,⟨_,rfl⟩,q m h1 h2⟩
theorem Rt(hc:X.calm=true):jG X (.builtin "min") (Ue X.K):=by
 intro pins s σ H vs us Q I r h;obtain⟨a,ns,rfl,hs,hne,q⟩:=h;obtain⟨its,rv,hl,_⟩:=I.list hs;rw[Vals.Md r];exact P8 (I.ok.hd hc) hl.isList rv.ints hne λh' tk m t' hk h1 h2=>⟨.int _,H,I.kept hk,⟨_,rfl⟩,q m h1 h2⟩
end
section
variable{X:Cx}
def R1(K:PySem.W.Frag):V->List V->Hp->VK->Prop:=λx xs H Q=>∃(a:Addr)(ys:List V)(y:V)(j:Nat)(z:V),x=V.ref a/\xs=[y]/\aH K H a ys/\oK y=true/\ys.all oK=true/\ys[j]?=some z/\Ji z y=true/\
 (∀(m:Nat)(z':V),m<j->ys[m]?=some z'->Ji z' y=false)/\Q (.int (j:Nat)) H
theorem Kr{ys:List V}(f:ys.all oK=true){j:Nat}{z:V}(h:ys[j]?=some z):oK z=true:=all_eq_true.mp f z (mem_of_getElem? h)
theorem HH:Th X "list.index" (R1 X.K):=by
 intro pins s σ H x xs v us Q I rx rxs h;obtain⟨a,ys,y,j,z,rfl,rfl,hs,fy,fys,hz,hzj,hno,q⟩:=h;cases rx;cases rxs with
 |cons ry rt=>
  rename_i uy ut;cases rt;obtain⟨its,rv,⟨⟨cls,dd,data,sl⟩,n,ho,hc,hdn,hd⟩,hlen⟩:=I.list hs;simp only at hc hd;subst hc hd;obtain⟨u,hu,ru⟩:=rv.get hz;obtain⟨hjl,hje⟩:=List.getElem?_eq_some_iff.mp hu;have hvl:=rv.length;have hj:j<its.toArray.size:=by simpa using hjl
  have hsl:=sizeLine_eq;refine call_meets PySem.F.slot_list_index ⟨_,ho,rfl⟩ PySem.F.entry_list_index (PySem.F.args_list_index_2 _ _)
   (SeqAt.list_indexAt a its.toArray n dd sl uy (O2 y) j hj (by omega) ?_ ?_) ⟨ho,λu' hu'=>wY ry fy rv fys u' (by simpa using hu'),?_⟩
  ·have e1:its.toArray[j]=u:=by simpa using hje
   rw[e1,Fs ru (Kr fys hz)];exact hzj
  ·intro m hm hmj;have hml:m<its.length:=by simpa using hm
   have hmy:m<ys.length:=by omega
   have hy':ys[m]?=some ys[m]:=getElem?_eq_getElem hmy;obtain⟨u2,hu2,ru2⟩:=rv.get hy';obtain⟨_,hme⟩:=List.getElem?_eq_some_iff.mp hu2;have e1:its.toArray[m]=u2:=by simpa using hme
   rw[e1,Fs ru2 (Kr fys hy')];exact hno m _ hmj hy'
  ·exact⟨.int (j:Nat),H,I.tok _,⟨_,rfl⟩,q⟩
end
theorem Hn{prog:Program}{w:World}{A:Around}{E:iE}{s:Shared}{l:Addr}{items:Array Value}{Q:iE}(hl:s.heap.IsList l items)
  (h:∀s₂:Shared,s₂={s with heap:=s.heap.push {cls:= .type "list_iterator",data:= .fields #[.ref l,.int 0 0]}}->
   (s₂.heap.IsListIter s.heap.objs.size l 0/\s₂.heap.IsList l items)->l≠s.heap.objs.size->Q (.ref s.heap.objs.size) s₂):wpAny (model prog w) A (pyIter (.ref l)) Q E s:=by
 have hlt:l<s.heap.objs.size:=by obtain⟨_,e,_⟩:=hl;exact lt_size e
 exact wpAny_pyIter_list hl (h _ rfl ⟨⟨_,get?_push_size _ rfl,rfl,rfl⟩,hl.push _⟩ (ne_of_lt hlt))
theorem zM{prog:Program}{w:World}{A:Around}{bs:List Bool}{its:List Value}(e:its=bs.map Value.bool):
  TruthOf prog w A (λi v=>its.toArray[i]?=some v) (λi=>bs.getD i false):=λi v s Q E hv hq=>by
 have hv':its[i]?=some v:=by simpa using hv
 rw[e,getElem?_map]at hv';obtain⟨b,hb,rfl⟩:=Option.map_eq_some_iff.mp hv';have hg:bs.getD i false=b:=by rw[getD_eq_getElem?_getD,hb]<;>rfl
 have hq':Q (bs.getD i false) s:=hq;rw[hg]at hq';exact wpAny_truthy_bool hq'
theorem any_range:∀bs:List Bool,(List.range bs.length).any (λi=>bs.getD i false)=bs.any id
 |[]=>rfl
 |b::bs=>by
  rw[length_cons,range_succ_eq_map,any_cons,any_map,any_cons,<-any_range bs]
  all_goals rfl
theorem all_range:∀bs:List Bool,(List.range bs.length).all (λi=>bs.getD i false)=bs.all id
 |[]=>rfl
 |b::bs=>by
  rw[length_cons,range_succ_eq_map,all_cons,all_map,all_cons,<-all_range bs]
  all_goals rfl
section
variable{X:Cx}
def Ub(K:PySem.W.Frag):List V->Hp->VK->Prop:=λvs H Q=>∃(a:Addr)(bs:List Bool),vs=[V.ref a]/\aH K H a (bs.map V.bl)/\Q (.bl (bs.any id)) H
def Ua(K:PySem.W.Frag):List V->Hp->VK->Prop:=λvs H Q=>∃(a:Addr)(bs:List Bool),vs=[V.ref a]/\aH K H a (bs.map V.bl)/\Q (.bl (bs.all id)) H
theorem Nb(hc:X.calm=true):jG X (.builtin "any") (Ub X.K):=by
 intro pins s σ H vs us Q I r h;obtain⟨a,bs,rfl,hs,q⟩:=h;obtain⟨its,rv,hl,_⟩:=I.list hs;rw[Vals.Md r];have hb:=rv.TQ;refine call_any_walk (Hn hl.isList λs₂ e2 st hne=>?_);subst e2;refine⟨_,_,_,_,_,_,_,rfl,Walks.list (A:=X.A.in1) (I.ok.hd hc) _ a hne its.toArray,st,zM hb,λh' tk hk=>?_⟩;refine⟨.bl _,H,I.kept λb o eo=>hk b o (λhmem=>?_) (get?_push_of_some _ eo),?_,q⟩
 ·rcases mem_cons.mp hmem with e1|hmem
  ·exact absurd (e1▸lt_size eo) (lt_irrefl _)
  ·cases hmem
 ·show Value.bool _=Value.bool _;rw[<-any_range,hb,size_toArray,length_map]
theorem Na(hc:X.calm=true):jG X (.builtin "all") (Ua X.K):=by
 intro pins s σ H vs us Q I r h;obtain⟨a,bs,rfl,hs,q⟩:=h;obtain⟨its,rv,hl,_⟩:=I.list hs;rw[Vals.Md r];have hb:=rv.TQ;refine call_all_walk (Hn hl.isList λs₂ e2 st hne=>?_);subst e2;refine⟨_,_,_,_,_,_,_,rfl,Walks.list (A:=X.A.in1) (I.ok.hd hc) _ a hne its.toArray,st,zM hb,λh' tk hk=>?_⟩;refine⟨.bl _,H,I.kept λb o eo=>hk b o (λhmem=>?_) (get?_push_of_some _ eo),?_,q⟩
 ·rcases mem_cons.mp hmem with e1|hmem
  ·exact absurd (e1▸lt_size eo) (lt_irrefl _)
  ·cases hmem
 ·show Value.bool _=Value.bool _;rw[<-all_range,hb,size_toArray,length_map]
end
mutual
inductive Dp(K:PySem.W.Frag)(H:Hp):V->PyData->Prop
 |gc:Dp K H .gc .none
 |bl (b:Bool):Dp K H (.bl b) (.bool b)
 |int (i:Int):Dp K H (.int i) (.int i)
 |str (x:Str):Dp K H (.str x) (.str x)
 |lst {a:Addr} {xs:List V} {ds:List PyData}:aH K H a xs->A7 K H xs ds->Dp K H (.ref a) (.list ds)
 |tup {a:Addr} {xs:List V} {ds:List PyData}:ra K H a xs->A7 K H xs ds->Dp K H (.ref a) (.tuple ds)
inductive A7(K:PySem.W.Frag)(H:Hp):List V->List PyData->Prop
 |nil:A7 K H [] []
 |cons {v:V} {vs:List V} {d:PyData} {ds:List PyData}:Dp K H v d->A7 K H vs ds->A7 K H (v::vs) (d::ds)
end
section
variable{X:Cx}{pins:fZ}{σ:St}{H:Hp}{s:Shared}
mutual
theorem Dp.reads(I:Inv X pins σ H s):∀(d:PyData)(v:V)(u:Value),Dp X.K H v d->RelV v u->∃as,Reads s.heap u d as
 | .none,_,_,h,r=>by
  cases h;cases r;exact⟨_,Reads.none⟩
 | .bool b,_,_,h,r=>by
  cases h;cases r;exact⟨_,Reads.bool b⟩
 | .int i,_,_,h,r=>by
  cases h;obtain⟨t,rfl⟩:=r;exact⟨_,Reads.int i t⟩
 | .str x,_,_,h,r=>by
  cases h;obtain⟨t,rfl⟩:=r;exact⟨_,Reads.str x t⟩
 | .list ds,_,_,h,r=>by
  cases h with
  |lst hs ha=>
   cases r;obtain⟨its,rv,⟨o,n,ho,hc,_,hd⟩,_⟩:=I.list hs;obtain⟨as,hr⟩:=Dp.readsAll I ds _ its ha rv;exact⟨_,Reads.list ho hc hd hr⟩
 | .tuple ds,_,_,h,r=>by
  cases h with
  |tup hs ha=>
   cases r;obtain⟨its,rv,⟨o,ho,hc,n,hd⟩,_⟩:=I.tuple hs;obtain⟨as,hr⟩:=Dp.readsAll I ds _ its ha rv;exact⟨_,Reads.tuple ho hc hd hr⟩
 | .dict _,_,_,h,_=>by cases h
theorem Dp.readsAll(I:Inv X pins σ H s):∀(ds:List PyData)(vs:List V)(us:List Value),A7 X.K H vs ds->Vals vs us->∃as,ReadsAll s.heap us ds as
 |[],_,_,h,r=>by
  cases h;cases r;exact⟨_,ReadsAll.nil⟩
 |d::ds,_,_,h,r=>by
  cases h with
  |cons h1 h2=>
   cases r with
   |cons r1 r2=>
    obtain⟨as,q1⟩:=Dp.reads I d _ _ h1 r1;obtain⟨bs,q2⟩:=Dp.readsAll I ds _ _ h2 r2;exact⟨_,ReadsAll.cons q1 q2⟩
end
end
section
variable{X:Cx}
def Ug(K:PySem.W.Frag):R2:=λx y H Q=>∃d e,Dp K H x d/\Dp K H y e/\SeqAt.shaped d=true/\SeqAt.shaped e=true/\Q (.bl (!PyData.eqv d e)) H
theorem Oc(hu:X.A.units+64<cLine):wx X (compareOp .NotEq) (Ug X.K):=by
 intro pins s σ H x y v u Q I rx ry h;obtain⟨d,e,hd,he,sd,se,q⟩:=h;obtain⟨as,r1⟩:=Dp.reads I d x v hd rx;obtain⟨bs,r2⟩:=Dp.reads I e y u he ry;exact SeqAt.compareNe_shaped r1 r2 sd se hu ⟨.bl _,H,I,rfl,q⟩
end
end L2
namespace L2
open PySem PySem.Spec PyProof.Rows
abbrev MF(h:Heap)(c:Addr)(v:Option Value):Prop:=h.IsCell c v
def Ui(scope sc:Scope):Scope:=
 {scope with names:=scope.names.map λ(n,k)=>if(k== .free&&sc.kind== .function&&sc.names.lookup n==some .cell)then(n,.cell)else(n,k)}
def c8(cells:List (Str×Addr)):List (Str×NameKind)->List (Str×Addr)->List (Str×Addr)
 |[],acc=>acc
 |(n,k)::r,acc=>if k== .free then c8 cells r ((n,(cells.lookup n).getD 0)::acc)else c8 cells r acc
theorem wG(env:Env)(f:Str×NameKind->List (Str×Addr)->Sem (ForInStep (List (Str×Addr))))
  (hf:∀n k c,f (n,k) c=if k== .free then(do let a<-cellOf env n;pure (.yield ((n,a)::c)))else pure (.yield c)):
  ∀(names:List (Str×NameKind))(acc:List (Str×Addr)),(∀y∈names,y.2= .free->∃c,env.cells.lookup y.1=some c)->forIn names acc f=pure (c8 env.cells names acc)
 |[],acc,_=>by rw[List.forIn_nil];rfl
 |(n,k)::r,acc,h=>by
  rw[List.forIn_cons,hf];have ih:=λacc=>wG env f hf r acc λy hy=>h y (mem_cons_of_mem _ hy);unfold c8;by_cases hk:(k==NameKind.free)=true
  ·rw[if_pos hk,if_pos hk];obtain⟨c,hc⟩:=h (n,k) mem_cons_self (by simpa using hk);have e:cellOf env n=pure c:=by unfold cellOf;rw[hc]
   rw[e];have e2:(env.cells.lookup n).getD 0=c:=by rw[hc];rfl
   rw[e2];exact ih _
  ·rw[if_neg hk,if_neg hk];exact ih _
theorem Jb{scope:Scope}{env:Env}(h:∀y∈scope.names,y.2= .free->∃c,env.cells.lookup y.1=some c):closureFor scope env=pure (c8 env.cells scope.names []):=by
 simp only[closureFor];rw[wG env _ (λn k c=>rfl) scope.names [] h];rfl
theorem mem_lookup{α:Type}:∀{l:List (Str×α)}{n:Str}{c:α},(n,c)∈l->∃c',l.lookup n=some c'
 |(k,v)::r,n,c,h=>by
  rw[lookup_cons];cases hb:n==k with
  |true=>exact⟨_,rfl⟩
  |false=>
   rcases mem_cons.mp h with e|h
   ·cases e;simp at hb
   ·exact mem_lookup h
theorem nj{cells:List (Str×Addr)}:∀{names:List (Str×NameKind)}{acc:List (Str×Addr)}{n:Str}{c:Addr},(n,c)∈c8 cells names acc->(n,c)∈acc\/((n,.free)∈names/\c=(cells.lookup n).getD 0)
 |[],_,_,_,h=> .inl h
 |(m,k)::r,acc,n,c,h=>by
  unfold c8 at h
  split at h
  ·rename_i hk;have hk:k= .free:=by simpa using hk
   rcases nj h with h|⟨h1,h2⟩
   ·rcases mem_cons.mp h with e|h
    ·cases e;exact .inr ⟨hk▸mem_cons_self,rfl⟩
    ·exact .inl h
   ·exact .inr ⟨mem_cons_of_mem _ h1,h2⟩
  ·rcases nj h with h|⟨h1,h2⟩
   ·exact .inl h
   ·exact .inr ⟨mem_cons_of_mem _ h1,h2⟩
theorem rL{cells:List (Str×Addr)}:∀{names:List (Str×NameKind)}{acc:List (Str×Addr)}{p:Str×Addr},p∈acc->p∈c8 cells names acc
 |[],_,_,h=>h
 |(m,k)::r,acc,p,h=>by
  unfold c8
  split
  ·exact rL (mem_cons_of_mem _ h)
  ·exact rL h
theorem rM{cells:List (Str×Addr)}:∀{names:List (Str×NameKind)}{acc:List (Str×Addr)}{n:Str},(n,.free)∈names->(n,(cells.lookup n).getD 0)∈c8 cells names acc
 |(m,k)::r,acc,n,h=>by
  unfold c8;rcases mem_cons.mp h with e|h
  ·cases e;exact rL mem_cons_self
  ·split
   ·exact rM h
   ·exact rM h
theorem oG:∀{names:List (Str×NameKind)}{h:Heap}{acc:List (Str×Addr)}{x:Str}{c:Addr},(x,c)∈cellsFrom h.objs.size names acc->
  (x,c)∈acc\/((x,.cell)∈names/\h.objs.size<=c/\MF (pushCells h names) c none)
 |[],_,_,_,_,h=> .inl h
 |(n,k)::r,h,acc,x,c,hm=>by
  unfold cellsFrom at hm;unfold pushCells
  split at hm
  ·rename_i hk;rw[if_pos hk];have hk:k= .cell:=by simpa using hk
   rw[<-size_push h {cls:= .type "cell",data:= .cell none}]at hm;rcases oG hm with hm|⟨h1,h2,h3⟩
   ·rcases mem_cons.mp hm with e|hm
    ·cases e;exact .inr ⟨hk▸mem_cons_self,le_refl _,_,pushCells_keeps r _ _ _ (get?_push_size _ rfl),rfl⟩
    ·exact .inl hm
   ·rw[size_push]at h2;exact .inr ⟨mem_cons_of_mem _ h1,Nat.le_of_succ_le h2,h3⟩
  ·rename_i hk;rw[if_neg hk];rcases oG hm with hm|⟨h1,h2,h3⟩
   ·exact .inl hm
   ·exact .inr ⟨mem_cons_of_mem _ h1,h2,h3⟩
theorem um:∀{names:List (Str×NameKind)}{n:Nat}{acc:List (Str×Addr)}{p:Str×Addr},p∈acc->p∈cellsFrom n names acc
 |[],_,_,_,h=>h
 |(m,k)::r,n,acc,p,h=>by
  unfold cellsFrom
  split
  ·exact um (mem_cons_of_mem _ h)
  ·exact um h
theorem xX:∀{names:List (Str×NameKind)}{n:Nat}{acc:List (Str×Addr)}{x:Str},(x,.cell)∈names->∃c,(x,c)∈cellsFrom n names acc
 |(m,k)::r,n,acc,x,h=>by
  unfold cellsFrom;rcases mem_cons.mp h with e|h
  ·cases e;exact⟨n,um mem_cons_self⟩
  ·split
   ·exact xX h
   ·exact xX h
theorem xY:∀{names:List (Str×NameKind)}{h:Heap}{acc:List (Str×Addr)}{x y:Str}{c:Addr},(∀p∈acc,p.2<h.objs.size)->(∀x y c,(x,c)∈acc->(y,c)∈acc->x=y)->
  (x,c)∈cellsFrom h.objs.size names acc->(y,c)∈cellsFrom h.objs.size names acc->x=y
 |[],_,_,_,_,_,_,hi,h1,h2=>hi _ _ _ h1 h2
 |(n,k)::r,h,acc,x,y,c,hl,hi,h1,h2=>by
  unfold cellsFrom at h1 h2
  split at h1
  ·rename_i hk;rw[if_pos hk]at h2;rw[<-size_push h {cls:= .type "cell",data:= .cell none}]at h1 h2;refine xY (h:=h.push _) (λp hp=>?_) (λx y c a b=>?_) h1 h2
   ·rw[size_push];rcases mem_cons.mp hp with rfl|hp
    ·exact lt_succ_self _
    ·exact Nat.lt_succ_of_lt (hl p hp)
   ·rcases mem_cons.mp a with e|a<;>rcases mem_cons.mp b with e'|b
    ·cases e;cases e';rfl
    ·cases e;exact absurd (hl _ b) (lt_irrefl _)
    ·cases e';exact absurd (hl _ a) (lt_irrefl _)
    ·exact hi _ _ _ a b
  ·rename_i hk;rw[if_neg hk]at h2;exact xY hl hi h1 h2
theorem HI{M:Model}{A:Around}{E:iE}{s:Shared}{scope:Scope}{globals:Addr}{closure:List (Str×Addr)}{qual:Str}{func:Option Addr}{code:Value}{around:Env}{builtins:Addr}{Q:Env->Shared->Prop}
  (h:Q (newEnv scope s.heap.objs.size globals (cellsFrom (s.heap.objs.size+1) scope.names closure) qual func code (some around) builtins)
   {s with heap:=pushCells (s.heap.push {cls:= .type "dict",data:= .dict #[]}) scope.names}):
  wpAny M A (newFunctionEnv scope globals closure [] qual func code (some around) builtins) Q E s:=by
 simp only[newFunctionEnv,Option.isSome_some,if_true];refine wpAny_bind (wpAny_alloc ?_);refine wpAny_bind (wpAny_layCells _ (λn k c=>rfl) scope.names closure _ _ ?_);rw[show({s with heap:=s.heap.push {cls:= .type "dict",data:= .dict #[]}}:Shared).heap.objs.size=s.heap.objs.size+1 from size_push ..];rw[List.forIn_nil];exact wpAny_bind (wpAny_pure (wpAny_pure h))
theorem sj{sc:Scope}:∀{names:List (Str×NameKind)}{x:Str}{k:NameKind},
  (names.map λ(n,k)=>if(k==NameKind.free&&sc.kind== .function&&sc.names.lookup n==some .cell)then(n,NameKind.cell)else(n,k)).lookup x=some k->
  ∃k',names.lookup x=some k'/\(k=k'\/(k'= .free/\k= .cell))
 |[],_,_,h=>by simp at h
 |(n,k₀)::r,x,k,h=>by
  have ih:=@sj sc r x k;have h':List.lookup x ((if(k₀==NameKind.free&&sc.kind== .function&&sc.names.lookup n==some .cell)=true then(n,NameKind.cell)else(n,k₀))::(r.map _))=some k:=h;cases hx:x==n with
  |true=>
   simp only[lookup_cons,hx];by_cases hc:(k₀==NameKind.free&&sc.kind== .function&&sc.names.lookup n==some .cell)=true
   ·rw[if_pos hc]at h';simp only[lookup_cons,hx]at h';cases h';simp only[and_eq_true,beq_iff_eq]at hc;exact⟨k₀,rfl,.inr ⟨hc.1.1,rfl⟩⟩
   ·rw[if_neg hc]at h';simp only[lookup_cons,hx]at h';cases h';exact⟨_,rfl,.inl rfl⟩
  |false=>
   simp only[lookup_cons,hx];by_cases hc:(k₀==NameKind.free&&sc.kind== .function&&sc.names.lookup n==some .cell)=true
   ·rw[if_pos hc]at h';simp only[lookup_cons,hx]at h';exact ih h'
   ·rw[if_neg hc]at h';simp only[lookup_cons,hx]at h';exact ih h'
structure D8(N:List Str)(sc scope:Scope)(own:List (Str×Nat)):Prop where
 kind:scope.kind= .function
 uniq:∀y∈scope.names,scope.names.lookup y.1=some y.2
 ix:∀p∈own,N[p.2]?=some p.1
 free:∀y∈scope.names,y.2= .free->sc.names.lookup y.1=some .cell\/sc.names.lookup y.1=some .free
 own:∀y∈scope.names,y.2= .local\/y.2= .cell->y.1∈own.map (·.1)\/y.1∉N
def wipe(σ:St):List Nat->St
 |[]=>σ
 |v::vs=>(wipe σ vs).set v none
theorem ui(σ:St):∀vs:List Nat,(wipe σ vs).length=σ.length
 |[]=>rfl
 |v::vs=>by unfold wipe;rw[length_set,ui σ vs]
theorem yJ{σ:St}{i:Nat}{x:V}:∀{vs:List Nat},(wipe σ vs)[i]?=some (some x)->σ[i]?=some (some x)/\i∉vs
 |[],h=>⟨h,by simp⟩
 |v::vs,h=>by
  unfold wipe at h;by_cases hi:v=i
  ·subst hi;by_cases hv:v<(wipe σ vs).length
   ·rw[getElem?_set_self hv]at h;cases h
   ·rw[getElem?_eq_none (by simpa using hv)]at h;cases h
  ·rw[getElem?_set_ne hi]at h;obtain⟨h1,h2⟩:=yJ h;exact⟨h1,by simp only[mem_cons,not_or];exact⟨λe=>hi e.symm,h2⟩⟩
abbrev Cx.Fh(X:Cx)(s:Shared)(H:Hp)(scope:Scope)(cenv:Env)(fp:List Addr):Cx:={X with oV:=s,My:=H,env:=cenv,outer:=X.stack,ex:=fp,fn:=λx=>scope.names.lookup x==some .cell,pn:=[],xe:=λ_ _=>False}
section
variable{X:Cx}{pins:fZ}{σ:St}{H:Hp}{s:Shared}
theorem GV{scope:Scope}{own:List (Str×Nat)}{fp:List Addr}(I:Inv X pins σ H s)(ok:D8 X.N X.env.scope scope own)(hN:X.N.Nodup)(hfp:∀b∈fp,zQ X pins H b/\b<s.heap.objs.size):
  Inv (X.Fh s H scope (compEnvC scope (cellsFrom (s.heap.objs.size+1) scope.names (c8 X.env.cells scope.names [])) s.heap.objs.size X.env) fp) [] (wipe σ (own.map (·.2))) H {s with heap:=pushCells (s.heap.push {cls:= .type "dict",data:= .dict #[]}) scope.names}:=by
 have hfree:∀y∈scope.names,y.2= .free->∃c,X.env.cells.lookup y.1=some c:=λy hy e=>by
  rcases ok.free y hy e with k|k
  ·exact I.ok.has _ (.inl k)
  ·exact I.ok.has _ (.inr k)
 generalize hcenv:compEnvC scope (cellsFrom (s.heap.objs.size+1) scope.names (c8 X.env.cells scope.names [])) s.heap.objs.size X.env=cenv;have kp:∀b o,s.heap.get? b=some o->(pushCells (s.heap.push {cls:= .type "dict",data:= .dict #[]}) scope.names).get? b=some o:=λb o e=>pushCells_keeps _ _ _ _ (get?_push_of_some _ e);have hL:cenv.locals=s.heap.objs.size:=by rw[<-hcenv];rfl
 have hcl:cenv.cells=cellsFrom (s.heap.objs.size+1) scope.names (c8 X.env.cells scope.names []):=by rw[<-hcenv];rfl
 have hsc:cenv.scope=Ui scope X.env.scope:=by rw[<-hcenv];rfl
 rw[<-size_push s.heap {cls:= .type "dict",data:= .dict #[]}]at hcl;have cm:∀{y c},(y,c)∈c8 X.env.cells scope.names []->X.env.cells.lookup y=some c/\c<s.heap.objs.size:=λ{y c}hm=>by
  rcases nj hm with hm|⟨h1,rfl⟩
  ·cases hm
  ·obtain⟨c,hc⟩:=hfree _ h1 rfl;rw[hc];obtain⟨w,z⟩:=I.cell _ _ hc;exact⟨rfl,z.lt⟩
 have mem:∀{y c},cenv.cells.lookup y=some c->(X.env.cells.lookup y=some c/\c<s.heap.objs.size)\/(s.heap.objs.size+1<=c/\MF (pushCells (s.heap.push {cls:= .type "dict",data:= .dict #[]}) scope.names) c none):=λ{y c}e=>by
  rw[hcl]at e;rcases oG (PySem.mem_of_lookup e)with hm|⟨_,h2,h3⟩
  ·exact .inl (cm hm)
  ·rw[size_push]at h2;exact .inr ⟨h2,h3⟩
 have look:∀{y},scope.names.lookup y=some .free->∃c,cenv.cells.lookup y=some c/\X.env.cells.lookup y=some c:=λ{y}hl=>by
  have hy:(y,NameKind.free)∈scope.names:=PySem.mem_of_lookup hl;obtain⟨c',e'⟩:=mem_lookup (um (names:=scope.names) (n:=(s.heap.push {cls:= .type "dict",data:= .dict #[]}).objs.size) (rM (cells:=X.env.cells) (acc:=[]) hy));rw[<-hcl]at e';refine⟨c',e',?_⟩;rw[hcl]at e';rcases oG (PySem.mem_of_lookup e')with hm|⟨h1,_,_⟩
  ·exact(cm hm).1
  ·have:=ok.uniq _ h1;rw[hl]at this;cases this
 have okB:(X.Fh s H scope cenv fp).Ok:=by
  refine⟨I.ok.mod,by show cenv.scope.kind=_;rw[hsc];exact ok.kind,by show cenv.globals=_;rw[<-hcenv];exact I.ok.glob,by show cenv.builtins=_;rw[<-hcenv];exact I.ok.blt,by show s.heap.objs.size<=cenv.locals;rw[hL];exact le_refl _,
   λy z c e1 e2=>?_,λy hy=>?_,λy c z e=>?_,I.ok.hd,I.ok.frames,.inl rfl,λb hb=>⟨?_,λy c e z=>?_⟩,I.bs,le_trans I.ok.M3 I.sz,λb o e hb=>?_,λb hb z=>?_,I.stack,I.A4⟩
  ·have e1:cenv.cells.lookup y=some c:=e1;have e2:cenv.cells.lookup z=some c:=e2;rw[hcl]at e1 e2;refine xY (λp hp=>?_) (λy z c a b=>I.ok.inj y z c (cm a).1 (cm b).1) (PySem.mem_of_lookup e1) (PySem.mem_of_lookup e2);rw[size_push];exact Nat.lt_succ_of_lt (cm (y:=p.1) (c:=p.2) hp).2
  ·show∃c,cenv.cells.lookup y=some c;have key:∀k,cenv.kindOf y=some k->(k= .cell\/k= .free)->∃c,cenv.cells.lookup y=some c:=λk hk hk'=>by
    unfold Env.kindOf at hk;rw[hsc]at hk;obtain⟨k',e,r⟩:=sj hk;have:k'= .cell\/k'= .free:=by
     rcases r with rfl|⟨rfl,_⟩
     ·exact hk'
     ·exact .inr rfl
    rcases this with rfl|rfl
    ·obtain⟨c,hm⟩:=xX (n:=(s.heap.push {cls:= .type "dict",data:= .dict #[]}).objs.size) (acc:=c8 X.env.cells scope.names []) (PySem.mem_of_lookup e);obtain⟨c',e'⟩:=mem_lookup hm;exact⟨c',by rw[hcl];exact e'⟩
    ·obtain⟨c,h1,_⟩:=look e;exact⟨c,h1⟩
   rcases hy with hy|hy
   ·exact key _ hy (.inl rfl)
   ·exact key _ hy (.inr rfl)
  ·have z:(scope.names.lookup y==some NameKind.cell)=true:=z;have z:scope.names.lookup y=some .cell:=by simpa using z
   have e:cenv.cells.lookup y=some c:=e;rw[hcl]at e;rcases oG (PySem.mem_of_lookup e)with hm|⟨_,h2,_⟩
   ·rcases nj hm with hm|⟨h1,_⟩
    ·cases hm
    ·have q:=ok.uniq _ h1;rw[z]at q;cases q
   ·rw[size_push]at h2;exact Nat.le_of_succ_le h2
  ·show b≠cenv.locals;rw[hL];exact ne_of_lt (hfp b hb).2
  ·have e:cenv.cells.lookup y=some c:=e;rcases mem e with⟨h1,_⟩|⟨h1,_⟩
   ·exact(hfp b hb).1.2.2.2.2.1 y c h1 z
   ·have h2:s.heap.objs.size+1<=b:=by rw[<-z];exact h1
    exact absurd (lt_of_lt_of_le (hfp b hb).2 (Nat.le_of_succ_le h2)) (lt_irrefl _)
  ·rcases(hfp b hb).1.2.2.2.1 with z|z
   ·exact I.ok.LX b o e z
   ·exact absurd (lt_of_lt_of_le (lt_size e) (le_trans I.ok.M3 z)) (lt_irrefl _)
  ·rcases mem_cons.mp (I.JU b z)with z|z
   ·exact(hfp b hb).1.2.1 z
   ·exact(hfp b hb).1.2.2.1 z
 refine⟨okB,rfl,I.bare,Un.kept kp,⟨λ_=>none,?_,λi y av e1 e2 e3=>?_⟩,λy c e=>?_,?_,λy c e=>?_,λp hp=>?_,I.bS.kept kp,by rw[ui];exact I.len⟩
 ·show Ns _ cenv.locals _;rw[hL];exact Ns.keeps (Ns.new ..) λb o e=>pushCells_keeps _ _ _ _ e
 ·obtain⟨e2,hne⟩:=yJ e2;have hfr:scope.names.lookup y=some .free/\(cenv.kindOf y=some .cell\/cenv.kindOf y=some .free):=by
   have key:∀k,cenv.scope.names.lookup y=some k->k= .local\/k= .cell\/k= .free->scope.names.lookup y=some .free/\(cenv.kindOf y=some .cell\/cenv.kindOf y=some .free):=λk hk hk'=>by
    have hk0:=hk;rw[hsc]at hk;obtain⟨k',e,r⟩:=sj hk;have no:¬(k'= .local\/k'= .cell):=λhh=>by
     rcases ok.own _ (PySem.mem_of_lookup e) hh with e'|e'
     ·obtain⟨p,hp,hpy⟩:=mem_map.mp e';have e3:=ok.ix p hp;have:p.1=y:=hpy;rw[this]at e3;exact hne (mem_map.mpr ⟨p,hp,Cj hN e3 e1⟩)
     ·exact e' (mem_of_getElem? e1)
    rcases r with rfl|⟨rfl,rfl⟩
    ·rcases hk' with rfl|rfl|rfl
     ·exact absurd (.inl rfl) no
     ·exact absurd (.inr rfl) no
     ·exact⟨e,.inr hk0⟩
    ·exact⟨e,.inl hk0⟩
   have e3:Rh cenv.scope y:=e3;rcases e3 with e3|e3|e3
   ·exact key _ e3 (.inl rfl)
   ·exact key _ e3 (.inr (.inl rfl))
   ·exact key _ e3 (.inr (.inr rfl))
  obtain⟨m,hn,hl⟩:=I.loc;have hvis:Rh X.env.scope y:=(ok.free _ (PySem.mem_of_lookup hfr.1) rfl).elim (λk=> .inr (.inl k)) (λk=> .inr (.inr k));obtain⟨w,r,q⟩:=hl i y av e1 e2 hvis;refine⟨w,r,.inr ⟨hfr.2,?_⟩⟩;obtain⟨c,h1,h2⟩:=look hfr.1;rcases q with⟨k,_⟩|⟨_,c',e',z⟩
  ·have k:X.env.scope.names.lookup y=some .local:=k;rcases ok.free _ (PySem.mem_of_lookup hfr.1) rfl with k'|k'<;>rw[show X.env.scope.names.lookup y=_ from k']at k<;>cases k
  ·rw[h2]at e';cases e';exact⟨c,h1,z.keeps kp⟩
 ·have e:cenv.cells.lookup y=some c:=e;rcases mem e with⟨h1,_⟩|⟨_,z⟩
  ·obtain⟨w,z⟩:=I.cell y c h1;exact⟨w,z.keeps kp⟩
  ·exact⟨_,z⟩
 ·show H cenv.locals=none;rw[hL];exact I.bS.fresh (le_refl _)
 ·have e:cenv.cells.lookup y=some c:=e;rcases mem e with⟨h1,_⟩|⟨h1,_⟩
  ·exact I.kX y c h1
  ·exact I.bS.fresh (Nat.le_of_succ_le h1)
 ·exact absurd (show p∈([]:fZ)++[]from hp) (by simp)
theorem Rj{E:iE}{D:Addr}{xs:List V}{y:V}{v:Value}{Q:iE}(I:Inv X pins σ H s)(hD:H D=some (.lst xs))(hz:xs.length<sizeLine)(r:RelV y v)
  (h:∀s',Inv X pins σ (upd H D (.lst (xs++[y]))) s'->Q .none s'):wpAny (model X.prog X.w) X.A (call (.builtin "list.append") [.ref D,v]) Q E s:=by
 obtain⟨hz',its,n,ri,e⟩:=I.bS D _ hD;have hl:=ri.length;refine append_at (hsz:=by rw[size_toArray];omega) e λh' sb ho'=>?_;refine h {s with heap:=h'} (I.write (t':=s.toks) (by rw[hD];trivial) (.inl rfl) (λb u hb q=>(sb.2 b hb).trans q) ⟨_,ho'⟩ ⟨by rw[length_append];exact hz,its++[v],n+1,ri.append (.cons r .nil),?_⟩);rw[ho'];simp
def Ss(X:Cx)(ifs:List Expr)(t:TT):Prop:=
 ∀(pins:fZ)(s:Shared)(σ:St)(H:Hp)(Q:Bool->Hp->Prop),Inv X pins σ H s->t σ H Q->
  wpAny (model X.prog X.w) X.A (forIn ifs true λc r=>if r=true then do let ok<-isTrue c X.env (eval c X.env);pure (ForInStep.yield ok)else pure (ForInStep.yield r)) (TP X pins σ Q) X.xe s
def Uz:TT:=λ_ H Q=>Q true H
theorem bC:Ss X [] Uz:=λ_ _ _ H _ I h=>wpAny_tests_nil ⟨H,I,h⟩
theorem lB{c:Expr}{t:TT}(h:PT X c t):Ss X [c] t:=λpins s σ H Q I hw=>wpAny_tests_one (h pins s σ H Q I hw)
end
theorem Mo{α:Type}{t:Sem α}{Q Q':α->Shared->Prop}{M:Model}{A:Around}{E:iE}{s:Shared}(h:wpAny M A t Q (λ_ _=>False) s)(hQ:∀a s,Q a s->Q' a s):wpAny M A t Q' E s:=wpAny_mono h hQ λ_ _ z=>False.elim z
theorem Fj{prog:Program}{w:World}{A:Around}{R:Result->Shared->Prop}{s:Shared}{elt target iter:Expr}{ifs:List Expr}{scope:Scope}{pos:Pos}{it acc:Value}{env:Env}(I:Nat->Shared->Prop)
  (turn:∀n s,I n s->wpAny (model prog w) A (pyNext it) (λr s₁=>match r with
   |none=>R (.ok .next) s₁
   |some v=>wpAny (model prog w) A (letOwnedTupleGo target it v) (λ_ s₁'=>wpAny (model prog w) A (assign target env v) (λ_ s₂=>
     wpAny (model prog w) A (forIn ifs true λc r=>if r=true then do let ok<-isTrue c env (eval c env);pure (ForInStep.yield ok)else pure (ForInStep.yield r)) (λok s₃=>
      if ok=true then wpAny (model prog w) A (eval elt env) (λx s₄=>
       wpAny (model prog w) A (call (.builtin "list.append") [acc,x]) (λ_ s₅=>∃m,m<n/\I m s₅) (notedBy (model prog w) A env λe s'=>R (.error e) s') s₄) (notedBy (model prog w) A env λe s'=>R (.error e) s') s₃
      else∃m,m<n/\I m s₃) (notedBy (model prog w) A env λe s'=>R (.error e) s') s₂) (notedBy (model prog w) A env λe s'=>R (.error e) s') s₁') (notedBy (model prog w) A env λe s'=>R (.error e) s') s₁) (notedBy (model prog w) A env λe s'=>R (.error e) s') s)
  (n:Nat) (h:I n s):
  codeAny (model prog w) A (.compLoop (.ListComp elt [⟨target,iter,ifs,0⟩] scope pos) 0 it acc env) R s:=by
 refine codeAny_loop rfl I (λn s hI=>?_) n h;show wpAny _ A ((compTurn (.ListComp elt [⟨target,iter,ifs,0⟩] scope pos) 0 it acc env).onRaise (λx=>do noteFrame x env;theTreesLotGoes x)) _ _ s;refine wpAny_noted ?_;rw[compTurn_list];refine wpAny_bind (wpAny_standAt (wpAny_bind (wpAny_mono (turn n s hI) (λr s₁ h₁=>?_) λ_ _ h'=>h')));cases r with
 |none=>exact wpAny_pure h₁
 |some v=>
  refine wpAny_bind (wpAny_mono h₁ (λ_ s₁' h₁'=>?_) λ_ _ h'=>h');refine wpAny_bind (wpAny_mono h₁' (λ_ s₂ h₂=>wpAny_bind (wpAny_mono h₂ (λok s₃ h₃=>?_) λ_ _ h'=>h')) λ_ _ h'=>h');cases ok with
  |false=>exact wpAny_pure ⟨rfl,h₃⟩
  |true=>
   exact wpAny_bind (wpAny_bind (wpAny_mono h₃ (λx s₄ h₄=>wpAny_bind (wpAny_mono h₄ (λ_ s₅ h₅=>wpAny_pure (wpAny_pure ⟨rfl,h₅⟩)) λ_ _ h'=>h')) λ_ _ h'=>h'))
section
variable{X:Cx}
def Tq(wi:TI)(g:TG)(tt:TT)(te:TE)(vs:List Nat):TE:=λσ H Q=>wi σ H λJ H1=>∀D,H1 D=none->∃W:Nat->Nat->Hp->Prop,(∃m,W 0 m (upd H1 D (.lst [])))/\∀i m H,W i m H->
 (J.stop i H/\Q (.ref D) H)\/(J.go i H/\∃Nx:Hp->Prop,(∀H',Nx H'->∃m',m'<m/\W (i+1) m' H')/\∀x H',J.Pa i H x H'->g x (wipe σ vs) H' λσ2 H2=>wipe σ2 vs=wipe σ vs/\tt σ2 H2 λb H3=>
  if b=true then te σ2 H3 λy H4=>∃acc,H4 D=some (.lst acc)/\acc.length<sizeLine/\Nx (upd H4 D (.lst (acc++[y])))else Nx H3)
theorem KD{pins:fZ}{s:Shared}{σ:St}{H:Hp}{Q:VK}{elt tg iter:Expr}{ifs:List Expr}{scope:Scope}{own:List (Str×Nat)}{pos pos':Pos}{wi:TI}{g:TG}{tt:TT}{te:TE}{use:Option (Value->Sem Unit)}{Qf:iE}
  (hc:X.calm=true) (hN:X.N.Nodup) (I:Inv X pins σ H s) (hi:PI X tg iter wi) (ok:D8 X.N X.env.scope scope own)
  (hg:∀(s:Shared)(H:Hp)(C:Addr)(cl:List (Str×Addr))(fp:List Addr),PG (X.Fh s H scope (compEnvC scope cl C X.env) fp) tg g) (ht:∀(s:Shared)(H:Hp)(C:Addr)(cl:List (Str×Addr))(fp:List Addr),Ss (X.Fh s H scope (compEnvC scope cl C X.env) fp) ifs tt)
  (he:∀(s:Shared)(H:Hp)(C:Addr)(cl:List (Str×Addr))(fp:List Addr),PE (X.Fh s H scope (compEnvC scope cl C X.env) fp) elt te) (hs:∀x,foldedSetIterable iter X.env x=pure x)
  (h:Tq wi g tt te (own.map (·.2)) σ H Q)
  (hRR:∀D C s' m H',Inv X pins σ H' s'->Q (.ref D) H'->s'.heap.Ns C m->zQ X pins H' C->compPost (model X.prog X.w) X.A X.xe use Qf (.ref D) C (.ok .next) s'):
  wpAny (model X.prog X.w) X.A (comprehension (.ListComp elt [⟨tg,iter,ifs,0⟩] scope pos) scope X.env pos' (newList []) false (eval iter X.env) use) Qf X.xe s:=by
 have hfree:∀y∈scope.names,y.2= .free->∃c,X.env.cells.lookup y.1=some c:=λy hy e=>by
  rcases ok.free y hy e with k|k
  ·exact I.ok.has _ (.inl k)
  ·exact I.ok.has _ (.inr k)
 refine wpAny_comprehension_free (use:=use) rfl hs (Jb hfree) ok.kind (λy hy e=>by rw[ok.uniq y hy,e])
  (dh (hi pins s σ H _ I h) λxv s1 hx=>dh hx λitv s2 h2=>?_)
 obtain⟨it,fp,tn,J,H2,e,I2,T,st2,f2,q⟩:=h2;subst e;refine wpAny_newObj_type (HI ?_) (by show 0<=sizeLine;decide);generalize hD:s2.heap.objs.size=D;have hDn:H2 D=none:=I2.bS.fresh (le_of_eq hD);obtain⟨W,⟨m0,w0⟩,turn⟩:=q D hDn;generalize hs3:({s2 with heap:=s2.heap.push {cls:= .type "list",data:= .seq ([]:List Value).toArray}}:Shared)=s3;have I3:Inv X pins σ (upd H2 D (.lst [])) s3:=by
  rw[<-hs3];refine I2.laid (t':=s2.toks) (λb o e=>get?_push_of_some _ e) (le_of_eq hD) ⟨zero_le _,[],0,.nil,?_⟩;rw[<-hD];exact get?_push_size _ rfl
 have h3:s3.heap=s2.heap.push {cls:= .type "list",data:= .seq ([]:List Value).toArray}:=by rw[<-hs3]
 have sz:∀b∈fp,b<s2.heap.objs.size:=λb hb=>by
  obtain⟨o,e,_⟩:=T.obj _ _ st2 b hb;exact lt_size e
 have f3:∀b∈fp,zQ X pins (upd H2 D (.lst [])) b/\b<s3.heap.objs.size:=λb hb=>by
  have hlt:=sz b hb;refine⟨⟨?_,(f2 b hb).2⟩,by rw[h3,size_push];exact Nat.lt_succ_of_lt hlt⟩;rw[ak (by rw[<-hD];exact ne_of_lt hlt)];exact(f2 b hb).1
 have st3:tn 0 s3.heap:=T.keep _ _ _ st2 λb _ o e=>by rw[h3];exact get?_push_of_some _ e
 have I4:=GV I3 ok hN f3;have pg:=hg s3 (upd H2 D (.lst [])) s3.heap.objs.size (cellsFrom (s3.heap.objs.size+1) scope.names (c8 X.env.cells scope.names [])) fp;have pt:=ht s3 (upd H2 D (.lst [])) s3.heap.objs.size (cellsFrom (s3.heap.objs.size+1) scope.names (c8 X.env.cells scope.names [])) fp;have pe:=he s3 (upd H2 D (.lst [])) s3.heap.objs.size (cellsFrom (s3.heap.objs.size+1) scope.names (c8 X.env.cells scope.names [])) fp;show codeAny _ _ (.compStart (.ListComp elt [⟨tg,iter,ifs,0⟩] scope pos) 0 (.ref it) (.ref D) (compEnvC scope (cellsFrom (s3.heap.objs.size+1) scope.names (c8 X.env.cells scope.names [])) s3.heap.objs.size X.env)) (compPost (model X.prog X.w) X.A X.xe use Qf (.ref D) s3.heap.objs.size) {s3 with heap:=pushCells (s3.heap.push {cls:= .type "dict",data:= .dict #[]}) scope.names};have nfp:∀b∈fp,(upd H2 D (.lst [])) b=none:=λb hb=>(f3 b hb).1.1;generalize hce:compEnvC scope (cellsFrom (s3.heap.objs.size+1) scope.names (c8 X.env.cells scope.names [])) s3.heap.objs.size X.env=ce at I4 pg pt pe⊢;have cL:ce.locals=s3.heap.objs.size:=by subst hce;rfl
 generalize hH3:upd H2 D (.lst [])=H3 at I3 I4 pg pt pe w0 nfp f3;generalize hs4:({s3 with heap:=pushCells (s3.heap.push {cls:= .type "dict",data:= .dict #[]}) scope.names}:Shared)=s4 at I4⊢;have st4:tn 0 s4.heap:=T.keep _ _ _ st3 λb _ o e=>by rw[<-hs4];exact pushCells_keeps _ _ _ _ (get?_push_of_some _ e)
 have stat:∀{σ':St}{H':Hp}{s':Shared},Inv (X.Fh s3 H3 scope ce fp) [] σ' H' s'->(∀b∈fp,H' b=none)->∀b∈fp,zQ (X.Fh s3 H3 scope ce fp) [] H' b:=λ{σ' H' s'}I' hn b hb=>
  ⟨hn b hb,(I'.ok.SD b hb).1,I'.ok.Ly b hb,.inl hb,λx c e=>(I'.ok.SD b hb).2 x c e,λp hp=>absurd (show p∈([]:fZ)++[]from hp) (by simp)⟩
 have loop:codeAny (model X.prog X.w) X.A (.compLoop (.ListComp elt [⟨tg,iter,ifs,0⟩] scope pos) 0 (.ref it) (.ref D) ce) (compPost (model X.prog X.w) X.A X.xe use Qf (.ref D) s3.heap.objs.size) s4:=by
  refine Fj (λn s'=>∃i H',Inv (X.Fh s3 H3 scope ce fp) [] (wipe σ (own.map (·.2))) H' s'/\tn i s'.heap/\(∀b∈fp,H' b=none)/\W i n H') ?_ m0 ⟨0,H3,I4,st4,nfp,w0⟩;rintro n s5 ⟨i,H5,I5,st5,n5,w5⟩;rcases turn i n H5 w5 with⟨stop,qq⟩|⟨go,Nx,hNx,step⟩
  ·have td:=T.done (X.Fh s3 H3 scope ce fp) rfl rfl rfl hc i [] s5 _ H5 (λ_ _=>False) I5 (stat I5 n5) st5 stop;refine Mo td λr s6 ⟨hr,I6⟩=>?_;subst hr;have I7:Inv X pins σ H5 s6:=I3.M7 (ch:=fp) I6.os I6.base I6.bS I6.bare λb hb=>⟨(f3 b hb).1.2.2.2.1,(f3 b hb).1.2.1,(f3 b hb).1.2.2.2.2.1,(f3 b hb).1.2.2.2.2.2⟩
   have nC:H5 s3.heap.objs.size=none:=by
    have z:H5 ce.locals=none:=I6.free;rw[cL]at z;exact z
   obtain⟨m,hn,_⟩:=I6.loc;have hn:s6.heap.Ns ce.locals m:=hn;rw[cL]at hn;exact hRR D s3.heap.objs.size s6 m H5 I7 qq hn (I3.Jm (le_refl _) nC)
  ·have ti:=T.item (X.Fh s3 H3 scope ce fp) rfl rfl rfl hc i [] s5 _ H5 (λ_ _=>False) I5 (stat I5 n5) st5 go;refine Mo ti λr s6 ⟨u,hr,h6⟩=>?_;subst hr;refine Mo h6 λ_ s7 ⟨x,H7,I7,r7,y7,st7,n7⟩=>?_;have I7':=I7.pinned (stat I7 n7) (T.obj _ _ st7);refine Mo (pg _ s7 _ H7 x u _ I7' r7 (step x H7 y7)) λ_ s8 ⟨σ8,H8,I8,hw8,q8⟩=>?_;refine Mo (pt _ s8 σ8 H8 _ I8 q8) λb s9 ⟨H9,I9,q9⟩=>?_;have fin:∀{s':Shared}{H':Hp},Inv (X.Fh s3 H3 scope ce fp) ([]++CJ fp s7.heap) σ8 H' s'->Nx H'->∃m,m<n/\∃i H',Inv (X.Fh s3 H3 scope ce fp) [] (wipe σ (own.map (·.2))) H' s'/\tn i s'.heap/\(∀b∈fp,H' b=none)/\W i m H':=λ{s' H'}I' nx=>by
    obtain⟨m',hm,w'⟩:=hNx H' nx;have pin':∀b∈fp,∀o,s7.heap.get? b=some o->s'.heap.get? b=some o/\H' b=none:=λb hb o e=>
     let z:=I'.pin (b,o) (mem_append_right _ (mem_append_right _ (vV hb e)))
     ⟨z.1,z.2.1⟩
    have hl:(wipe σ (own.map (·.2))).length=σ8.length:=by rw[<-hw8,ui]
    refine⟨m',hm,i+1,H',(I'.xK (pins:=[])).weak hl (λj v e=>?_),T.keep _ _ _ st7 λb hb o e=>(pin' b hb o e).1,λb hb=>?_,w'⟩
    ·rw[<-hw8]at e;exact(yJ e).1
    ·obtain⟨o,e,_⟩:=T.obj _ _ st7 b hb;exact(pin' b hb o e).2
   cases b with
   |false=>
    simp only[Bool.false_eq_true,if_false]at q9⊢;exact fin I9 q9
   |true=>
    simp only[if_true]at q9⊢;refine Mo (pe _ s9 σ8 H9 _ I9 q9) λz s10 ⟨yv,H10,I10,r10,acc,hD10,hz10,nx⟩=>?_;exact Rj (X:=X.Fh s3 H3 scope ce fp) I10 hD10 hz10 r10 λs11 I11=>fin I11 nx
 exact codeAny_compStart_list loop (T.self X.A 0 _ _ _ st4 loop)
theorem du{elt tg iter:Expr}{ifs:List Expr}{scope:Scope}{own:List (Str×Nat)}{pos:Pos}{wi:TI}{g:TG}{tt:TT}{te:TE}(hc:X.calm=true)(hN:X.N.Nodup)(hi:PI X tg iter wi)(ok:D8 X.N X.env.scope scope own)
  (hg:∀(s:Shared)(H:Hp)(C:Addr)(cl:List (Str×Addr))(fp:List Addr),PG (X.Fh s H scope (compEnvC scope cl C X.env) fp) tg g) (ht:∀(s:Shared)(H:Hp)(C:Addr)(cl:List (Str×Addr))(fp:List Addr),Ss (X.Fh s H scope (compEnvC scope cl C X.env) fp) ifs tt)
  (he:∀(s:Shared)(H:Hp)(C:Addr)(cl:List (Str×Addr))(fp:List Addr),PE (X.Fh s H scope (compEnvC scope cl C X.env) fp) elt te) (hs:∀x,foldedSetIterable iter X.env x=pure x:=by intro _;rfl):
  PE X (.ListComp elt [⟨tg,iter,ifs,0⟩] scope pos) (Tq wi g tt te (own.map (·.2))):=by
 intro pins s σ H Q I h;rw[eval_ListComp];refine KD hc hN I hi ok hg ht he hs h λD C s' m H' I' q hn f=>⟨m,hn,λh'' sb=>?_⟩
 obtain⟨f0,f1,f2,f3,f4,f5⟩:=f;exact⟨.ref D,H',I'.turned (t':=s'.toks) (λb o hb e=>(sb.2 b hb).trans e) f0 f1 f3 f4 f5,rfl,q⟩
theorem kE{i:Nat}{y:Str}{py:Pos}{elt tg iter:Expr}{ifs:List Expr}{scope:Scope}{own:List (Str×Nat)}{pos spos:Pos}{wi:TI}{g:TG}{tt:TT}{te:TE}(hc:X.calm=true)(hN:X.N.Nodup)(hy:X.N[i]?=some y)(hyl:X.env.scope.names.lookup y=some .local)
  (hsw:swapsWith (.ListComp elt [⟨tg,iter,ifs,0⟩] scope pos) (some (.Name y py)) spos.line X.env=pure true) (hi:PI X tg iter wi) (ok:D8 X.N X.env.scope scope own)
  (hg:∀(s:Shared)(H:Hp)(C:Addr)(cl:List (Str×Addr))(fp:List Addr),PG (X.Fh s H scope (compEnvC scope cl C X.env) fp) tg g) (ht:∀(s:Shared)(H:Hp)(C:Addr)(cl:List (Str×Addr))(fp:List Addr),Ss (X.Fh s H scope (compEnvC scope cl C X.env) fp) ifs tt)
  (he:∀(s:Shared)(H:Hp)(C:Addr)(cl:List (Str×Addr))(fp:List Addr),PE (X.Fh s H scope (compEnvC scope cl C X.env) fp) elt te) (hs:∀x,foldedSetIterable iter X.env x=pure x:=by intro _;rfl):
  PS X (.Assign [.Name y py] (.ListComp elt [⟨tg,iter,ifs,0⟩] scope pos) spos) (OT (Tq wi g tt te (own.map (·.2))) (fu i)):=by
 intro pins s σ H D I h;rw[exec_Assign_Name_used _ _ _ _ hsw];refine wpAny_bind (wpAny_standAt (wpAny_bind ?_));show wpAny _ X.A (do let _<-comprehension (.ListComp elt [⟨tg,iter,ifs,0⟩] scope pos) scope X.env (firstIterPos [⟨tg,iter,ifs,0⟩] pos) (newList []) false (eval iter X.env) (some (assign (.Name y py) X.env))) _ _ s;have h:Tq wi g tt te (own.map (·.2)) σ H (λx H1=>fu i x σ H1 D.nx):=h;refine wpAny_bind (dh (KD (Qf:=λ_ s'=>SP X pins D .next s') hc hN I hi ok hg ht he hs h λL C s' m H' I' q hn f=>?_) λ_ s' hq=>wpAny_pure (wpAny_pure hq));show wpAny _ _ (assign (.Name y py) X.env (.ref L)) _ _ _;refine wpAny_assign_Name (yH (v:=V.ref L) I' hN hy (.inl hyl) rfl (λs2 I2 ⟨a,sb,ha⟩=>?_) (.inr hyl));obtain⟨f0,f1,f2,f3,f4,f5⟩:=f;have haC:C≠a:=by
  rcases ha with z|z
  ·rw[z];exact f1
  ·exactλe=>f4 y a z e.symm
 refine⟨m,hn.sameBut sb haC,λh3 sb3=>?_⟩;exact⟨_,H',I2.turned (t':=s2.toks) (λb o hb e=>(sb3.2 b hb).trans e) f0 f1 f3 f4 f5,q⟩
theorem nX{elt:Expr}{gs:List Comprehension}{scope:Scope}{pos py:Pos}{y:Str}{l:Nat}{env:Env}(hk:env.scope.kind= .function)(hy:env.scope.names.lookup y=some .local)(hl:(py.line==pos.line)=true)
  (ha:(scope.names.any λ(n,k)=>n==y&&(k== .local||k== .cell))=false):swapsWith (.ListComp elt gs scope pos) (some (.Name y py)) l env=pure true:=by
 have ky:env.kindOf y=some .local:=hy;have hb:env.blockKind= .function:=by unfold Env.blockKind;rw[hk];rfl
 unfold swapsWith;simp only[hb,ky,ha,Expr.pos,hl];rfl
end
def Rm(N:List Str)(sc scope:Scope)(own:List (Str×Nat)):Bool:=
 (match scope.kind with| .function=>true|_=>false)&&(scope.names.all λy=>decide (scope.names.lookup y.1=some y.2))&&(own.all λp=>decide (N[p.2]?=some p.1))&&
  (scope.names.all λy=>match y.2 with
   | .free=>(match sc.names.lookup y.1 with|some .cell=>true|some .free=>true|_=>false)
   | .local=>decide (y.1∈own.map (·.1))||decide (y.1∉N)
   | .cell=>decide (y.1∈own.map (·.1))||decide (y.1∉N)
   |_=>true)
theorem M0{N:List Str}{sc scope:Scope}{own:List (Str×Nat)}(h:Rm N sc scope own=true):D8 N sc scope own:=by
 unfold Rm at h;simp only[and_eq_true,all_eq_true,decide_eq_true_eq]at h;obtain⟨⟨⟨h1,h2⟩,h3⟩,h4⟩:=h;refine⟨?_,h2,h3,λy hy e=>?_,λy hy e=>?_⟩
 ·split at h1
  ·assumption
  ·cases h1
 ·have q:=h4 y hy;simp only[e]at q
  split at q<;>first|exact .inl (by assumption)|exact .inr (by assumption)|cases q
 ·have q:=h4 y hy;rcases e with e|e<;>(simp only[e,or_eq_true,decide_eq_true_eq]at q;exact q)
end L2
namespace L2
open PySem PySem.Spec PyProof.Rows
section
variable{κ:Type} [DecidableEq κ]
def pz(kvs:List (κ×V))(k:κ):Option V:=(kvs.find? λkv=>decide (kv.1=k)).map (·.2)
def putK(kvs:List (κ×V))(k:κ)(v:V):List (κ×V):=
 if(kvs.any λkv=>decide (kv.1=k))=true then kvs.map (λkv=>if kv.1=k then(kv.1,v)else kv)else kvs++[(k,v)]
theorem C6{p:κ×V}{r:List (κ×V)}{k:κ}(e:p.1=k):pz (p::r) k=some p.2:=by simp[pz,find?_cons,e]
theorem C5{p:κ×V}{r:List (κ×V)}{k:κ}(e:¬p.1=k):pz (p::r) k=pz r k:=by simp[pz,find?_cons,e]
theorem IF(k:κ):∀kvs:List (κ×V),(kvs.any λkv=>decide (kv.1=k))=(pz kvs k).isSome
 |[]=>rfl
 |p::r=>by
  rw[any_cons];by_cases e:p.1=k
  ·simp only[C6 e,decide_eq_true e,Bool.true_or,Option.isSome_some]
  ·rw[C5 e,decide_eq_false e,Bool.false_or];exact IF k r
theorem y9(kvs:List (κ×V))(k:κ)(v:V):(putK kvs k v).length<=kvs.length+1:=by
 unfold putK
 split
 ·rw[length_map];omega
 ·rw[length_append,length_cons,length_nil];omega
theorem qZ.Es{o:Option V}{u:Option Value}(r:qZ o u):o.isSome=u.isSome:=by
 cases o with
 |none=>cases u with
  |none=>rfl
  |some _=>exact(show False from r).elim
 |some _=>cases u with
  |none=>exact(show False from r).elim
  |some _=>rfl
theorem qZ.getD{o:Option V}{u:Option Value}{d:V}{d':Value}(r:qZ o u)(rd:RelV d d'):RelV (o.getD d) (u.getD d'):=by
 cases o with
 |none=>cases u with
  |none=>exact rd
  |some _=>exact(show False from r).elim
 |some _=>cases u with
  |none=>exact(show False from r).elim
  |some _=>exact r
theorem KV.val{kvs:List (κ×V)}{vs:List (κ×Value)}(r:KV kvs vs)(k:κ):qZ (pz kvs k) (valueAt vs k):=by
 unfold KV at r
 induction r with
 |nil=>exact True.intro
 |@cons p q ps qs h t ih=>
  obtain⟨h1,h2⟩:=h;by_cases e:p.1=k
  ·have e':q.1=k:=h1.symm.trans e;have b:valueAt (q::qs) k=some q.2:=by simp[valueAt,find?_cons,e']
   rw[C6 e,b];exact h2
  ·have e':¬q.1=k:=λz=>e (h1.trans z);have b:valueAt (q::qs) k=valueAt qs k:=by simp[valueAt,find?_cons,e']
   rw[C5 e,b];exact ih
theorem KV.any{kvs:List (κ×V)}{vs:List (κ×Value)}(r:KV kvs vs)(k:κ):(kvs.any λkv=>decide (kv.1=k))=vs.any λkv=>decide (kv.1=k):=by
 unfold KV at r
 induction r with
 |nil=>rfl
 |cons h t ih=>rw[any_cons,any_cons,ih,h.1]
theorem KV.R4{kvs:List (κ×V)}{vs:List (κ×Value)}(r:KV kvs vs)(k:κ){y:V}{u:Value}(ry:RelV y u):
  KV (kvs.map λkv=>if kv.1=k then(kv.1,y)else kv) (vs.map λkv=>if kv.1=k then(kv.1,u)else kv):=by
 unfold KV at r⊢
 induction r with
 |nil=>exact .nil
 |@cons p q ps qs h t ih=>
  rw[map_cons,map_cons];refine .cons ?_ ih;obtain⟨h1,h2⟩:=h;by_cases e:p.1=k
  ·rw[if_pos e,if_pos (h1.symm.trans e)];exact⟨h1,ry⟩
  ·rw[if_neg e,if_neg (λz=>e (h1.trans z))];exact⟨h1,h2⟩
theorem KV.put{kvs:List (κ×V)}{vs:List (κ×Value)}(r:KV kvs vs)(k:κ){y:V}{u:Value}(ry:RelV y u):KV (putK kvs k y) (stored vs k u):=by
 unfold putK stored;rw[r.any k];by_cases e:(vs.any λkv=>decide (kv.1=k))=true
 ·rw[if_pos e,if_pos e];exact r.R4 k ry
 ·rw[if_neg e,if_neg e];exact Paired.snoc r ⟨rfl,ry⟩
theorem KV.length{kvs:List (κ×V)}{vs:List (κ×Value)}(r:KV kvs vs):kvs.length=vs.length:=Paired.length r
end
theorem Ho{P:Program}{w:World}{k:Key}{u:Value}(r:RelV (kV k) u):(cR P w).is k u=true:=by
 cases k with
 |inl i=>obtain⟨t,e⟩:=(show∃t,u=Value.int i t from r);subst e;exact HD P w i t
 |inr x=>obtain⟨t,e⟩:=(show∃t,u=Value.str x t from r);subst e;exact HE P w x t
theorem Et{P:Program}{w:World}:∀{ks:List Key}{us:List Value},Vals (ks.map kV) us->ItemsAre (cR P w) ks us
 |[],_,r=>by rw[map_nil]at r;cases r;exact .nil
 |k::ks,_,r=>by
  rw[map_cons]at r;cases r with
  |cons h t=>exact .cons (Ho h) (Et t)
abbrev KT(H:Hp):List (List Key×V)->List (List Key×Addr×Value)->Prop:=Paired λp q=>p.1=q.1/\H q.2.1=some (.tup (p.1.map kV))/\RelV p.2 q.2.2
theorem KT.val{H:Hp}{kvs:List (List Key×V)}{xs:List (List Key×Addr×Value)}(r:KT H kvs xs)(k:List Key):qZ (pz kvs k) ((atKey xs k).map (·.2)):=by
 induction r with
 |nil=>exact True.intro
 |@cons p q ps qs h t ih=>
  obtain⟨h1,_,h2⟩:=h;by_cases e:p.1=k
  ·have e':q.1=k:=h1.symm.trans e;have b:atKey (q::qs) k=some q.2:=by simp[atKey,find?_cons,e']
   rw[C6 e,b];exact h2
  ·have e':¬q.1=k:=λz=>e (h1.trans z);have b:atKey (q::qs) k=atKey qs k:=by simp[atKey,find?_cons,e']
   rw[C5 e,b];exact ih
theorem KT.R4{H:Hp}{kvs:List (List Key×V)}{xs:List (List Key×Addr×Value)}(r:KT H kvs xs)(k:List Key){y:V}{u:Value}(ry:RelV y u):
  KT H (kvs.map λkv=>if kv.1=k then(kv.1,y)else kv) (xs.map (putAt k u)):=by
 induction r with
 |nil=>exact .nil
 |@cons p q ps qs h t ih=>
  rw[map_cons,map_cons];refine .cons ?_ ih;obtain⟨h1,h2,h3⟩:=h;unfold putAt;by_cases e:p.1=k
  ·rw[if_pos e,if_pos (h1.symm.trans e)];exact⟨h1,h2,ry⟩
  ·rw[if_neg e,if_neg (λz=>e (h1.trans z))];exact⟨h1,h2,h3⟩
theorem KT.put{H:Hp}{kvs:List (List Key×V)}{xs:List (List Key×Addr×Value)}(r:KT H kvs xs)(k:List Key){b:Addr}{y:V}{u:Value}(hb:H b=some (.tup (k.map kV)))(ry:RelV y u):
  KT H (putK kvs k y) (storedH xs k b u):=by
 have e:(kvs.any λkv=>decide (kv.1=k))=(atKey xs k).isSome:=by
  rw[IF,(r.val k).Es,Option.isSome_map]
 unfold putK storedH;rw[e];by_cases q:(atKey xs k).isSome=true
 ·rw[if_pos q,if_pos q];exact r.R4 k ry
 ·rw[if_neg q,if_neg q];exact Paired.snoc r ⟨rfl,hb,ry⟩
theorem KT.keeps{H H':Hp}{kvs:List (List Key×V)}{xs:List (List Key×Addr×Value)}(r:KT H kvs xs)(ht:∀b ys,H b=some (.tup ys)->H' b=some (.tup ys)):KT H' kvs xs:=
 Paired.RP r λ_ _ z=>⟨z.1,ht _ _ z.2.1,z.2.2⟩
section
variable{P:Program}{w:World}{H:Hp}{h:Heap}{a:Addr}
theorem Q2{u:HO}(ok:qY P w H h)(e:Rd H a u):di P w H h a u:=e.ok ok
theorem Nf{kvs:List (Key×V)}(ok:qY P w H h)(e:Rd H a (.dK kvs)):kvs.length<=sizeLine/\(a==sysModules)=false/\∃vs,KV kvs vs/\h.DictOf (cR P w) a vs:=
 show di P w H h a (.dK kvs)from Q2 ok e
theorem Sz{kvs:List (Key×V)}(ok:qY P w H h)(e:H a=some (.dK kvs)):kvs.length<=sizeLine/\(a==sysModules)=false/\∃vs,KV kvs vs/\h.DictOf (cR P w) a vs:=Nf ok (.inl e)
theorem Jq{ks:List Key}(ok:qY P w H h)(e:H a=some (.tup (ks.map kV))):(tupleKind (cR P w)).is h ks a:=by
 obtain⟨_,its,r,o,h1,h2,n,h3⟩:=(show di P w H h a (.tup (ks.map kV))from ok a _ e)
 exact⟨o,its.toArray,n,h1,h2,h3,by simpa using Et r⟩
theorem Ni{kvs:List (List Key×V)}(ok:qY P w H h)(e:Rd H a (.dT kvs)):kvs.length<=sizeLine/\(a==sysModules)=false/\
  ∃xs,KT H kvs xs/\h.DictOfH (tupleKind (cR P w)) a xs:=by
 obtain⟨z,y,xs,r,o,es,ep,h1,h2,h3,h4,h5⟩:=(show di P w H h a (.dT kvs)from Q2 ok e)
 refine⟨z,y,xs,r,o,es,ep,h1,h2,h3,h4,λx hx=>?_,h5⟩;have all:∀{l:List (List Key×V)}{m:List (List Key×Addr×Value)},KT H l m->∀x∈m,(tupleKind (cR P w)).is h x.1 x.2.1:=by
  intro l m q
  induction q with
  |nil=>intro x hx;exact nomatch hx
  |@cons p q ps qs hq t ih=>
   intro x hx;rcases mem_cons.mp hx with e|hx
   ·subst e;exact Jq ok (by rw[<-hq.1];exact hq.2.1)
   ·exact ih x hx
 exact all r x hx
theorem SA{kvs:List (List Key×V)}(ok:qY P w H h)(e:H a=some (.dT kvs)):kvs.length<=sizeLine/\(a==sysModules)=false/\
  ∃xs,KT H kvs xs/\h.DictOfH (tupleKind (cR P w)) a xs:=Ni ok (.inl e)
end
def MH(H:Hp)(a:Addr)(y:V)(r:Option V):Prop:=
 (∃kvs k,Rd H a (.dK kvs)/\y=kV k/\r=pz kvs k)\/∃kvs k b,Rd H a (.dT kvs)/\y= .ref b/\H b=some (.tup (k.map kV))/\r=pz kvs k
def MI(H:Hp)(a:Addr)(y v:V)(H':Hp):Prop:=
 (∃kvs k,H a=some (.dK kvs)/\y=kV k/\kvs.length<sizeLine/\H'=upd H a (.dK (putK kvs k v)))\/
 ∃kvs k b,H a=some (.dT kvs)/\y= .ref b/\H b=some (.tup (k.map kV))/\kvs.length<sizeLine/\H'=upd H a (.dT (putK kvs k v))
theorem MH.t{H:Hp}{a b:Addr}{kvs:List (List Key×V)}{k:List Key}(e:H a=some (.dT kvs))(eb:H b=some (.tup (k.map kV))):MH H a (.ref b) (pz kvs k):= .inr ⟨kvs,k,b,.inl e,rfl,eb,rfl⟩
theorem MI.t{H:Hp}{a b:Addr}{kvs:List (List Key×V)}{k:List Key}{v:V}(e:H a=some (.dT kvs))(eb:H b=some (.tup (k.map kV)))(hl:kvs.length<sizeLine):
  MI H a (.ref b) v (upd H a (.dT (putK kvs k v))):= .inr ⟨kvs,k,b,e,rfl,eb,hl,rfl⟩
section
variable{X:Cx}{pins:fZ}{σ:St}{H:Hp}{s:Shared}{a:Addr}{y v:V}{u r:Value}{o:Option V}{A:Around}{E:iE}
theorem Inv.big(I:Inv X pins σ H s):sysModules<s.heap.objs.size:=by
 have h:mainGlobals<s.heap.objs.size:=(I.mod.glob.keeps I.bk).lt;exact Nat.lt_trans (by decide) h
theorem Kf{h':Heap}{t':Nat}{ob:HO}(I:Inv X pins σ H s)(mu:Pe (H a))(hs:Heap.SameBut a s.heap h')(he:∃q,h'.get? a=some q)(new:di X.prog X.w (upd H a ob) h' a ob):
  Inv X pins σ (upd H a ob) {s with heap:=h',toks:=t'}:=
 I.write (x:=a) (e:=a) mu (.inl rfl) (λb q hb z=>(hs.2 b hb).trans z) he new
theorem Rw{P:Program}{w:World}{H':Hp}{h':Heap}{kvs:List (Key×V)}{vs:List (Key×Value)}(z:kvs.length<=sizeLine)(hd:(a==sysModules)=false)(rel:KV kvs vs)(dd:h'.DictOf (cR P w) a vs):
  di P w H' h' a (.dK kvs):=⟨z,hd,vs,rel,dd⟩
theorem Lu{H':Hp}{Q:Unit->Shared->Prop}(hu:A.units+1<cLine)(I:Inv X pins σ H s)(g:MI H a y v H')(ry:RelV y u)(rv:RelV v r)(h:∀s',Inv X pins σ H' s'->Q () s'):
  wpAny (model X.prog X.w) A (setItem (.ref a) u r) Q E s:=by
 rcases g with⟨kvs,k,e,ey,l,eH⟩|⟨kvs,k,b,e,ey,eb,l,eH⟩
 ·subst ey eH;obtain⟨z,hd,vs,rel,dd⟩:=Sz I.bS e;have hz:vs.length<=sizeLine:=by rw[<-rel.length];exact z
  have hl:(putK kvs k v).length<=sizeLine:=by have:=y9 kvs k v;omega
  refine wpAny_setItem_pairs (hsz:=hz) (Ho ry) dd λh' dd' hs=>h _ ?_;have he:∃q,h'.get? a=some q:=let ⟨q,_,_,hq,_⟩:=dd';⟨q,hq⟩;exact Kf I (by rw[e];exact True.intro) hs he (Rw hl hd (rel.put k rv) dd')
 ·subst ey eH;cases(show u=Value.ref b from ry);obtain⟨z,hd,xs,rel,dd⟩:=SA I.bS e;have hz:xs.length<=sizeLine:=by rw[<-Paired.length rel];exact z
  have hl:(putK kvs k v).length<=sizeLine:=by have:=y9 kvs k v;omega
  refine wpAny_setItem_heap (hsz:=hz) (tupleKind_room_in1 hu) (Jq I.bS eb) dd λh' dd' hs=>h _ ?_;obtain⟨q,es,ep,hq,h2,h3,h4,_,h5⟩:=dd';refine Kf I (by rw[e];exact True.intro) hs ⟨q,hq⟩ ⟨hl,hd,_,(rel.put k eb rv).keeps λc ys ec=>?_,q,es,ep,hq,h2,h3,h4,h5⟩;rw[ak (SN ec e (λz=>nomatch z))];exact ec
end
def Sm(i:Expr):Prop:=∀ov iv,subscripted i false ov iv=operate [ov,iv] (getItem ov iv)
theorem QE{prog:Program}{w:World}{A:Around}{E:iE}{s:Shared}{env:Env}{value slice:Expr}{pos:Pos}{T id:String}{Q:iE}
  (hl:typeLookup (.type T) "__getitem__"=pure (some (.builtin id))) (hs:Sm slice)
  (h:wpAny (model prog w) A (eval value env) (λo s₁=>wpAny (model prog w) A (eval slice env) (λi s₂=>s₂.TypeIs o T/\wpAny (model prog w) A (getItem o i) Q E s₂) E s₁) E s):
  wpAny (model prog w) A (eval (.Subscript value slice pos) env) Q E s:=by
 refine Subscript_ (wpAny_mono h (λo s₁ h₁=>wpAny_mono h₁ (λi s₂ h₂=>?_) λ_ _ x=>x) λ_ _ x=>x);obtain⟨hT,h₂⟩:=h₂;unfold subscriptTail;refine wpAny_bind ?_;rw[getitemInPython_of_ne hT.not_modules];refine wpAny_bind (wpAny_specialOf hT hl ?_);have fin:wpAny (model prog w) A (subscripted slice false o i) (λr s₃=>wpAny (model prog w) A (letTemporaryGo value o r>>=λ_=>pure r) Q E s₃) E s₂:=by
  rw[hs o i];exact wpAny_operating (wpAny_mono h₂ (λr s₃ h₃=>wpAny_bind (wpAny_letTemporaryGo (wpAny_pure h₃))) λ_ _ x=>x)
 first
  |exact wpAny_pure (wpAny_bind fin)
  |exact wpAny_bind (wpAny_pure (wpAny_bind fin))
  |exact wpAny_bind fin
def S3(td ty tv:TE):TS:=λD σ H=>tv σ H λv H1=>td σ H1 λx H2=>ty σ H2 λy H3=>∃a H4,x= .ref a/\MI H3 a y v H4/\D.nx σ H4
section
variable{X:Cx}{o i e value:Expr}{pos pos' tpos:Pos}{td ty tv:TE}
theorem Qo(hu:X.A.units+1<cLine)(ho:PE X o td)(hi:PE X i ty)(hv:PE X value tv)(hs:swapsWith value (some (.Subscript o i pos')) pos.line X.env=pure false):
  PS X (.Assign [.Subscript o i pos'] value pos) (S3 td ty tv):=by
 intro pins s σ H D I h;refine wpAny_Assign_Subscript (dh (hv pins s σ H _ I h) λr s1 ⟨v,H1,I1,rv,q1⟩=>dh (ho pins s1 σ H1 _ I1 q1) λu s2 ⟨x,H2,I2,rx,q2⟩=>dh (hi pins s2 σ H2 _ I2 q2) λiv s3 ⟨y,H3,I3,ry,a,H4,ex,g,q3⟩=>?_) hs;subst ex;obtain rfl:u=Value.ref a:=rx;exact Lu hu I3 g ry rv λs4 I4=>⟨σ,H4,I4,q3⟩
end
theorem Nh{P:Program}{w:World}{H:Hp}(h:Heap)(hb:sysModules<h.objs.size):di P w H (h.push {cls:= .type "dict",data:= .dict #[]}) h.objs.size (.dT []):=
 ⟨zero_le _,beq_eq_false_iff_ne.mpr (Ne.symm (ne_of_lt hb)),[],.nil,_,#[],0,get?_push_size _ rfl,⟨rfl,rfl,rfl⟩,rfl,rfl,List.nodup_nil⟩
def Sd:TE:=λ_ H Q=>∀p,H p=none->Q (.ref p) (upd H p (.dT []))
section
variable{X:Cx}{pos:Pos}
theorem HV:PE X (.Dict [] [] pos) Sd:=λpins s σ H Q I h=>
 wpAny_Dict_empty ⟨.ref s.heap.objs.size,_,I.laid (a:=s.heap.objs.size) (o:= .dT []) (t':=s.toks) (λ_ _ q=>get?_push_of_some _ q) (le_refl _) (Nh s.heap I.big),rfl,h _ (I.bS.fresh (le_refl _))⟩
end
structure M2(X:Cx)(o:Expr)(m:Str)(apos:Pos)(e f:Expr)(cpos:Pos):Prop where
 base:attributeBase o m X.env (eval o X.env)=eval o X.env
 UN:((backTo cpos (starEach [e,f] X.env)).all (λx=> !x.1)&&(backToKw cpos (keywordEach [] X.env)).all (λx=>x.1.isSome)
  &&decide (([e,f]:List Expr).length+([]:List Keyword).length+(if([]:List Keyword).isEmpty then 0 else 1)<30))=true
 line:(apos.endLine==cpos.line)=true
 trees:backTo cpos (starEach [e,f] X.env)=[(false,eval e X.env),(false,eval f X.env)]
def UB(H:Hp)(a:Addr):Prop:=(∃kvs,Rd H a (.dK kvs))\/∃kvs,Rd H a (.dT kvs)
theorem RE{X:Cx}{pins:fZ}{σ:St}{H:Hp}{s:Shared}{a:Addr}(I:Inv X pins σ H s)(d:UB H a):
  s.TypeIs (.ref a) "dict"/\(∀b,Value.ref a= .ref b->∃ob,s.heap.get? b=some ob/\ob.dict=none)/\(a==sysModules)=false:=by
 rcases d with⟨kvs,e⟩|⟨kvs,e⟩
 ·obtain⟨_,hd,vs,_,dd⟩:=Nf I.bS e;refine⟨dd.typeIs,λb q=>?_,hd⟩;cases q;obtain⟨ob,_,_,h1,h2,_⟩:=dd;exact⟨ob,h1,h2.2.1⟩
 ·obtain⟨_,hd,xs,_,dd⟩:=Ni I.bS e;refine⟨dd.typeIs,λb q=>?_,hd⟩;cases q;obtain⟨ob,_,_,h1,h2,_⟩:=dd;exact⟨ob,h1,h2.2.1⟩
section
variable{X:Cx}{pins:fZ}{σ:St}{H:Hp}{s:Shared}{a:Addr}{y d:V}{u r:Value}{o:Option V}{A:Around}{E:iE}
theorem Rv{Q:iE}(hu:A.units+1<cLine)(I:Inv X pins σ H s)(g:MH H a y o)(ry:RelV y u)(rd:RelV d r)(h:∀w' s',Inv X pins σ H s'->RelV (o.getD d) w'->Q w' s'):
  wpAny (model X.prog X.w) A (call (.builtin "dict.get") [.ref a,u,r]) Q E s:=by
 rcases g with⟨kvs,k,e,ey,l⟩|⟨kvs,k,b,e,ey,eb,l⟩
 ·subst ey;obtain⟨z,hd,vs,rel,dd⟩:=Nf I.bS e;refine call_meetsIn PySem.F.slot_dict_get dd.typeIs PySem.F.entry_dict_get (PySem.F.args_dict_get_3 _ _ _) (meets_dict_get_default (cR X.prog X.w) a (Ho ry) hd r) ⟨_,dd.mapOf,h _ _ (I.tok _) ?_⟩;rw[l];exact(rel.val k).getD rd
 ·subst ey;cases(show u=Value.ref b from ry);obtain⟨z,hd,xs,rel,dd⟩:=Ni I.bS e;refine call_meetsIn PySem.F.slot_dict_get dd.typeIs PySem.F.entry_dict_get (PySem.F.args_dict_get_3 _ _ _) (meetsH_dict_get_default (tupleKind (cR X.prog X.w)) a b hd r) ⟨tupleKind_room_in1 hu,k,xs,Jq I.bS eb,dd,h _ _ (I.tok _) ?_⟩;rw[l];exact(rel.val k).getD rd
end
def Sb(td ty tx:TE):TE:=λσ H Q=>td σ H λx H1=>∃a,x= .ref a/\UB H1 a/\ty σ H1 λy H2=>tx σ H2 λz H3=>∃o,MH H3 a y o/\Q (o.getD z) H3
section
variable{X:Cx}{o e f:Expr}{apos cpos:Pos}{td ty tx:TE}
theorem Ol(hu:X.A.units+1<cLine)(ho:PE X o td)(he:PE X e ty)(hf:PE X f tx)(m:M2 X o "get" apos e f cpos):PE X (.Call (.Attribute o "get" apos) [e,f] [] cpos) (Sb td ty tx):=by
 intro pins s σ H Q I h;refine wpAny_Call_method m.base m.UN m.line PySem.F.plainAttrs_dict PySem.F.slot_dict_get PySem.F.type_dict_get (dh (ho pins s σ H _ I h) λu s1 ⟨x,H1,I1,rx,a,ex,d,q1⟩=>?_);subst ex;obtain rfl:u=Value.ref a:=rx;obtain⟨t1,t2,_⟩:=RE I1 d;refine⟨t1,t2,?_⟩;rw[m.trees]
 refine Calls.callWith_builtin rfl (Calls.evalArgs_plain (Calls.spliced_cons (dh (he pins s1 σ H1 _ I1 q1) λiv s2 ⟨y,H2,I2,ry,q2⟩=>
  Calls.spliced_cons (dh (hf pins s2 σ H2 _ I2 q2) λfv s3 ⟨z,H3,I3,rz,ov,g,q3⟩=>Calls.spliced_nil ?_))))
 exact Rv hu I3 g ry rz λw' s4 I4 rw'=>⟨_,H3,I4,rw',q3⟩
end
end L2
namespace L2
open PySem PySem.Spec PyProof.Rows
theorem Bx:bootBuiltins "reversed"=some (.type "reversed"):=by decide+kernel
section
variable{X:Cx}{pins:fZ}{σ:St}{H:Hp}{s:Shared}{h':Heap}
theorem Inv.QM{t':Nat}{ch:List Addr}(I:Inv X pins σ H s)(k:∀b o,b∉ch->s.heap.get? b=some o->h'.get? b=some o)(hf:∀b∈ch,zQ X pins H b):Inv X pins σ H {s with heap:=h',toks:=t'}:=by
 have nit:∀b u,H b=some u->b∉ch:=λb u e z=>by
  have q:=(hf b z).1;rw[q]at e;cases e
 refine I.step (g':=s.gens) (d':=s.drawn) (ch:=ch) (λb hb=>⟨(hf b hb).2.2.2.1,(hf b hb).2.1,(hf b hb).2.2.2.2.1,(hf b hb).2.2.2.2.2⟩) (λb o _ _ hc e _=>k b o hc e) (λb o _ _ hc e _=>⟨o.slots,k b o hc e⟩)
  (λ_ _ _ _ n=>n) (λb o hc e=>⟨o,k b o hc e⟩) (λ_ _ e=>e) (λ_ _ _ e=>e) (λb ps e=>⟨#[],by rw[e];simp⟩) (λm hm=>?_) (λb u e=>?_) I.bare
 ·obtain⟨o,es,ep,ho,r⟩:=hm;exact⟨o,es,ep,k _ o (λz=>(hf _ z).2.1 rfl) ho,r⟩
 ·refine(I.bS b u e).m8 (λc v hc q=>k c v ?_ q) (λ_ q=>q) λ_ _ q=>q;rcases hc with z|z
  ·rw[z];exact nit b u e
  ·exact nit c _ z
theorem Inv.uJ{t':Nat}{ch:List Addr}{T:Addr}{ob:HO}(I:Inv X pins σ H s)(k:∀b o,b∉ch->s.heap.get? b=some o->h'.get? b=some o)(hf:∀b∈ch,zQ X pins H b)(hT:s.heap.objs.size<=T)
  (new:di X.prog X.w (upd H T ob) h' T ob):Inv X pins σ (upd H T ob) {s with heap:=h',toks:=t'}:=by
 have hn:H T=none:=I.bS.fresh hT;have nit:∀b u,H b=some u->b∉ch:=λb u e z=>by
  have q:=(hf b z).1;rw[q]at e;cases e
 refine I.step (g':=s.gens) (d':=s.drawn) (ch:=ch) (λb hb=>⟨(hf b hb).2.2.2.1,(hf b hb).2.1,(hf b hb).2.2.2.2.1,(hf b hb).2.2.2.2.2⟩) (λb o _ _ hc e _=>k b o hc e) (λb o _ _ hc e _=>⟨o.slots,k b o hc e⟩)
  (λb o _ e n=>?_) (λb o hc e=>⟨o,k b o hc e⟩) (λb xs e=>?_) (λb o u e=>?_) (λb ps e=>⟨#[],?_⟩) (λm hm=>?_) (λb u e=>?_) I.bare
 ·rw[ak (ne_of_lt (lt_of_lt_of_le (lt_size e) hT))];exact n
 ·rw[ak (aq e hn)];exact e
 ·rw[ak (aq e hn)];exact e
 ·rw[ak (aq e hn),e];simp
 ·obtain⟨o,es,ep,ho,r⟩:=hm;exact⟨o,es,ep,k _ o (λz=>(hf _ z).2.1 rfl) ho,r⟩
 ·by_cases hb:b=T
  ·subst hb;rw[af]at e;cases e;exact new
  ·rw[ak hb]at e;refine(I.bS b u e).m8 (λc v hc q=>k c v ?_ q) (λc q=>by rw[ak (aq q hn)];exact q) λc xs q=>by rw[ak (aq q hn)];exact q
   rcases hc with z|z
   ·rw[z];exact nit b u e
   ·exact nit c _ z
theorem Inv.lock{d:Addr}{u:HO}(I:Inv X pins σ H s)(h:H d=some u)(mu:Pe (some u)):∃od,Inv X pins σ (upd H d (.jb od u)) s:=by
 have x:=I.bS d u h;have ex:∃od,s.heap.get? d=some od:=by
  cases u with
  |lst xs=>obtain⟨_,_,_,_,e⟩:=x;exact⟨_,e⟩
  |dK kvs=>obtain⟨_,_,_,_,o,_,_,e,_⟩:=x;exact⟨o,e⟩
  |dT kvs=>obtain⟨_,_,_,_,o,_,_,e,_⟩:=x;exact⟨o,e⟩
  |set S n=>obtain⟨o,_,_,_,e,_⟩:=x;exact⟨o,e⟩
  |ins C dx fs=>obtain⟨_,_,_,e,_⟩:=x;exact⟨_,e⟩
  |ext φ=>obtain⟨_,⟨_,e⟩,_⟩:=x;exact⟨_,e⟩
  |_=>exact False.elim mu
 obtain⟨od,e⟩:=ex;have new:di X.prog X.w (upd H d (.jb od u)) s.heap d (.jb od u):=by
  refine⟨e,x.m8 (λb v _ q=>q) (λb q=>?_) λb xs q=>?_⟩
  ·rw[ak (λz=>by rw[z,h]at q;cases q;exact mu)];exact q
  ·rw[ak (λz=>by rw[z,h]at q;cases q;exact mu)];exact q
 exact⟨od,I.write (x:=d) (e:=d) (t':=s.toks) (h':=s.heap) (by rw[h];exact mu) (.inl rfl) (λb v _ q=>q) ⟨od,e⟩ new⟩
theorem Inv.HJ{d:Addr}{u:HO}(I:Inv X pins σ H s)(h:H d=some u)(mu:Pe (some u)):∀o' u',X.My d≠some (.jb o' u'):=λo' u' e=>by
 have q:=I.base.wQ d o' u' e;rw[h]at q;cases q;exact mu
theorem Inv.unlock{d:Addr}{od:Obj}{u:HO}(I:Inv X pins σ H s)(h:H d=some (.jb od u))(hn:∀o' u',X.My d≠some (.jb o' u')):Inv X pins σ (upd H d u) s:=by
 have neH:∀b o,H b=some o->(∀o' u',o≠.jb o' u')->b≠d:=λb o e hne z=>by
  rw[z,h]at e;cases e;exact hne _ _ rfl
 have neN:∀b,H b=none->b≠d:=λb e z=>by rw[z,h]at e;cases e
 refine⟨I.ok,I.os,I.bare,⟨I.base.keep,I.base.slot,λb o e n hx=>?_,I.base.there,λb xs e=>?_,λb o x e=>?_,λb ps e=>?_⟩,I.loc,I.cell,?_,λx c e=>?_,λp hp=>?_,λb o e=>?_,I.len⟩
 ·rw[ak (neN b (I.base.free b o e n hx))];exact I.base.free b o e n hx
 ·have q:=I.base.AQ b xs e;rw[ak (neH b _ q (λ_ _ z=>nomatch z))];exact q
 ·have q:=I.base.wQ b o x e;rw[ak (λz=>by rw[z]at e;exact hn _ _ e)];exact q
 ·obtain⟨m,q⟩:=I.base.yI b ps e;exact⟨m,by rw[ak (neH b _ q (λ_ _ z=>nomatch z))];exact q⟩
 ·rw[ak (neN _ I.free)];exact I.free
 ·rw[ak (neN c (I.kX x c e))];exact I.kX x c e
 ·obtain⟨e,n,r⟩:=I.pin p hp;exact⟨e,by rw[ak (neN _ n)];exact n,r⟩
 ·by_cases hb:b=d
  ·rw[hb,af]at e;cases e;rw[hb];obtain⟨_,x⟩:=I.bS d _ h;exact x.m8 (λc v _ q=>q) (λc q=>by rw[ak (neH c _ q (λ_ _ z=>nomatch z))];exact q) λc xs q=>by rw[ak (neH c _ q (λ_ _ z=>nomatch z))];exact q
  ·rw[ak hb]at e;exact(I.bS b o e).m8 (λc v _ q=>q) (λc q=>by rw[ak (neH c _ q (λ_ _ z=>nomatch z))];exact q) λc xs q=>by rw[ak (neH c _ q (λ_ _ z=>nomatch z))];exact q
end
def Ta(t:TS):TS:=λD σ H=>∃d u,H d=some u/\Pe (some u)/\∀od,t ⟨λσ' H'=>H' d=some (.jb od u)/\D.nx σ' (upd H' d u),λv H'=>H' d=some (.jb od u)/\D.rt v (upd H' d u),λσ' H'=>H' d=some (.jb od u)/\D.bk σ' (upd H' d u),λσ' H'=>H' d=some (.jb od u)/\D.ct σ' (upd H' d u)⟩ σ (upd H d (.jb od u))
def Se(t:TE):TE:=λσ H Q=>∃d u,H d=some u/\Pe (some u)/\∀od,t σ (upd H d (.jb od u)) λv H'=>H' d=some (.jb od u)/\Q v (upd H' d u)
section
variable{X:Cx}
theorem Qq{st:Stmt}{t:TS}(h:PS X st t):PS X st (Ta t):=by
 intro pins s σ H D I hw;obtain⟨d,u,hd,mu,hw⟩:=hw;obtain⟨od,I1⟩:=I.lock hd mu;refine dh (h pins s σ _ _ I1 (hw od)) λf s1 q=>?_;cases f with
 |next=>obtain⟨σ',H',I2,e,q⟩:=q;exact⟨σ',_,I2.unlock e (I.HJ hd mu),q⟩
 |brk=>obtain⟨σ',H',I2,e,q⟩:=q;exact⟨σ',_,I2.unlock e (I.HJ hd mu),q⟩
 |cont=>obtain⟨σ',H',I2,e,q⟩:=q;exact⟨σ',_,I2.unlock e (I.HJ hd mu),q⟩
 |ret v=>obtain⟨x,σ',H',I2,r,e,q⟩:=q;exact⟨x,σ',_,I2.unlock e (I.HJ hd mu),r,q⟩
theorem Qk{e:Expr}{t:TE}(h:PE X e t):PE X e (Se t):=by
 intro pins s σ H Q I hw;obtain⟨d,u,hd,mu,hw⟩:=hw;obtain⟨od,I1⟩:=I.lock hd mu;refine dh (h pins s σ _ _ I1 (hw od)) λv s1 ⟨x,H1,I2,r,e2,q⟩=>?_;exact⟨x,_,I2.unlock e2 (I.HJ hd mu),r,q⟩
theorem JH{tg:Expr}{pins:fZ}{σ:St}{H:Hp}{s:Shared}{R:It->Hp->Prop}{J:It}{tn:Nat->Heap->Prop}{tk:Nat}(I:Inv X pins σ H s)(o:Obj)
  (T:Turn X.prog X.w X.K tg J [s.heap.objs.size] s.heap.objs.size tn) (st:tn 0 (s.heap.push o)) (q:R J H):Tj X pins σ tg R (.ref s.heap.objs.size) {s with heap:=s.heap.push o,toks:=tk}:=by
 refine⟨s.heap.objs.size,[s.heap.objs.size],tn,J,H,rfl,I.kept λb ob e=>get?_push_of_some _ e,T,st,λb hb=>?_,q⟩;have e:b=s.heap.objs.size:=by simpa using hb
 subst e;exact I.Jm (le_refl _) (I.bS.fresh (le_refl _))
end
def Tv(lo c:Int)(n:Nat):It:=⟨λi _=>i<n,λi H x H'=>H'=H/\x= .int (lo+(i:Nat)*c),λi _=>n<=i⟩
theorem IC{P:Program}{w:World}{K:PySem.W.Frag}{tg:Expr}(it:Addr)(lo c:Int)(n:Nat):Turn P w K tg (Tv lo c n) [it] it (λi h=>IsRangeIter h it (lo+(i:Nat)*c) ((n:Int)-(i:Nat)) c)where
 mem:=by simp
 obj:=λi h st b hb=>by
  have e:b=it:=by simpa using hb
  subst e;exact⟨_,st,λv z=>nomatch z⟩
 keep:=λi h h' st k=>k it (by simp) _ st
 item:=by
  intro X hP hw hK hc i pins s σ H E I hf st hg;subst hP hw hK;obtain⟨f0,f1,f2,f3,f4,f5⟩:=hf it (by simp);have W:=Walks.range (prog:=X.prog) (w:=X.w) (I.ok.hd hc) it lo c n;refine W.item i s _ _ hg st λv h' tk hv st' kk=>?_;obtain⟨t,rfl⟩:=hv;have I1:Inv X pins σ H {s with heap:=h',toks:=tk}:=I.turned (λb o hb e=>kk b o (by simpa using hb) e) f0 f1 f3 f4 f5;exact⟨_,rfl,Ku (s:={s with heap:=h',toks:=tk}) (n:="range_iterator") st' rfl rfl (by decide) ⟨.int (lo+(i:Nat)*c),H,I1,⟨t,rfl⟩,⟨rfl,rfl⟩,st',λb hb=>(hf b hb).1⟩⟩
 done:=by
  intro X hP hw hK hc i pins s σ H E I hf st hg;subst hP hw hK;obtain⟨f0,f1,f2,f3,f4,f5⟩:=hf it (by simp);exact wpAny_pyNext_range_end (I.ok.hd hc) st (by have:n<=i:=hg;omega) λh' eb=>⟨rfl,I.turned (t':=s.toks) (λb o hb e=>eb b o hb e) f0 f1 f3 f4 f5⟩
 self:=λA i s Q E st h=>wpAny_pyIter_rangeiter st h
def UC(i j c:Int)(n:Nat):Prop:=c≠0/\c.natAbs<1073741824/\Builtin.Range.small i j c=true/\Builtin.Range.rangeSize i j c=n
def SM(ta:TA):TI:=λσ H R=>ta σ H λvs H1=>∃(i j c:Int)(n:Nat),vs=[.int i,.int j,.int c]/\UC i j c n/\R (Tv i c n) H1
section
variable{X:Cx}{tg:Expr}
theorem Ma{a b c:Expr}{ta:TA}{p pos:Pos}(hg:Gl X "range")(hm:X.mg "range"=none)(ha:PA X [a,b,c] ta)
  (hs:starEach [a,b,c] X.env=(false,eval a X.env)::starEach [b,c] X.env:=by rfl) (hpl:(backTo pos (starEach [b,c] X.env)).any (·.1)=false:=by rfl):
  PI X tg (.Call (.Name "range" p) [a,b,c] [] pos) (SM ta):=by
 intro pins s σ H R I h;refine Call_ (mm I hg hm boot_range (PyProof.Rows.callWith_type1 (dh (ha pos pins s σ H _ I h) λus s1 ⟨vs,H1,I1,r1,q1⟩=>?_) hs hpl));obtain⟨i,j,k,n,e,⟨c0,c1,c2,c3⟩,q⟩:=q1;subst e;cases r1 with
 |cons r rr=>
  cases rr with
  |cons r' rr=>
   cases rr with
   |cons r'' rr=>
    cases rr;obtain⟨t,rfl⟩:=r;obtain⟨t',rfl⟩:=r';obtain⟨t'',rfl⟩:=r'';refine call_range_3 c0 ?_ (.inl (PyProof.noPylong_small c1));refine wpAny_pyIter_range (IsRange.new ..) c2 ?_;have I2:Inv X pins σ H1 {s1 with heap:=s1.heap.push {cls:= .type "range",data:= .fields #[.int i t,.int j t',.int k t'']}}:=I1.kept (t':=s1.toks) λb o e=>get?_push_of_some _ e;refine JH (tk:=s1.toks) I2 _ (IC _ i k n) ?_ q;have e1:i+((0:Nat):Int)*k=i:=by simp
    have e2:(n:Int)-((0:Nat):Int)=Builtin.Range.rangeSize i j k:=by rw[c3];simp
    show IsRangeIter _ _ (i+((0:Nat):Int)*k) ((n:Int)-((0:Nat):Int)) k;rw[e1,e2];exact get?_push_size _ rfl
end
def Tz(K:PySem.W.Frag)(a:Addr)(n:Nat):It:=
 ⟨λi H=>i<n/\∃(xs:List V)(x:V),aH K H a xs/\xs[n-1-i]?=some x,λi H x H'=>H'=H/\∀xs,aH K H a xs->xs[n-1-i]?=some x,λi _=>n<=i⟩
theorem OX{P:Program}{w:World}{K:PySem.W.Frag}{tg:Expr}(a it:Addr)(n:Nat):Turn P w K tg (Tz K a n) [it] it (λi h=>i<=n/\h.IsRevIter it a ((n:Int)-1-(i:Nat)))where
 mem:=by simp
 obj:=λi h st b hb=>by
  have e:b=it:=by simpa using hb
  subst e;obtain⟨_,o,e,c,d⟩:=st;exact⟨o,e,λv z=>by rw[d]at z;cases z⟩
 keep:=λi h h' st k=>⟨st.1,st.2.at λo e=>k it (by simp) o e⟩
 item:=by
  intro X hP hw hK hc i pins s σ H E I hf st hg;subst hP hw hK;obtain⟨hin,xs,x,hq,hx⟩:=hg;obtain⟨its,rv,p,hz⟩:=I.list hq;obtain⟨u,hu,ru⟩:=rv.get hx;obtain⟨f0,f1,f2,f3,f4,f5⟩:=hf it (by simp);obtain⟨_,hit⟩:=st;have e1:(n:Int)-1-((i:Nat):Int)=((n-1-i:Nat):Int):=by omega
  rw[e1]at hit;refine wpAny_pyNext_rev_item hit p.isList (x:=u) (by simpa using hu) λh' st' sb=>?_;have e2:((n-1-i:Nat):Int)-1=(n:Int)-1-((i+1:Nat):Int):=by omega
  rw[e2]at st';have I1:Inv X pins σ H {s with heap:=h'}:=I.turned (t':=s.toks) (λb o hb e=>(sb.2 b hb).trans e) f0 f1 f3 f4 f5;obtain⟨o,e,c,d⟩:=id st';exact⟨u,rfl,Ku (s:={s with heap:=h'}) e c d (by decide) ⟨x,H,I1,ru,⟨rfl,λys hy=>by rw[I.oN hy hq];exact hx⟩,⟨hin,st'⟩,λb hb=>(hf b hb).1⟩⟩
 done:=by
  intro X hP hw hK hc i pins s σ H E I hf st hg;subst hP hw hK;obtain⟨f0,f1,f2,f3,f4,f5⟩:=hf it (by simp);obtain⟨hin,hit⟩:=st;have hge:n<=i:=hg;have e1:(n:Int)-1-((i:Nat):Int)= -1:=by omega
  rw[e1]at hit;exact wpAny_pyNext_rev_end (I.ok.hd hc) hit λh' eb=>⟨rfl,I.turned (t':=s.toks) (λb o hb e=>eb b o hb e) f0 f1 f3 f4 f5⟩
 self:=λA i s Q E st h=>wpAny_pyIter_revIter st.2 h
def TX(K:PySem.W.Frag)(ta:TA):TI:=λσ H R=>ta σ H λvs H1=>∃(a:Addr)(xs:List V),vs=[.ref a]/\aH K H1 a xs/\R (Tz K a xs.length) H1
section
variable{X:Cx}{tg:Expr}
theorem zw{e:Expr}{ta:TA}{p pos:Pos}(hg:Gl X "reversed")(hm:X.mg "reversed"=none)(ha:PA X [e] ta)(hs:starEach [e] X.env=[(false,eval e X.env)]:=by rfl):PI X tg (.Call (.Name "reversed" p) [e] [] pos) (TX X.K ta):=by
 intro pins s σ H R I h;refine Call_ (mm I hg hm Bx (PyProof.Rows.callWith_type1 (dh (ha pos pins s σ H _ I h) λus s1 ⟨vs,H1,I1,r1,q1⟩=>?_) hs rfl));obtain⟨a,xs,e,hq,q⟩:=q1;subst e;cases r1 with
 |cons r rr=>
  cases rr;cases r;obtain⟨its,rv,p',hz⟩:=I1.list hq;have hl:=rv.length;have e1:((its.toArray.size:Nat):Int)-1=(xs.length:Int)-1-((0:Nat):Int):=by simp only[size_toArray];omega
  refine call_reversed_list p'.isList (wpAny_pyIter_revIter (l:=a) (i:=((its.toArray.size:Nat):Int)-1) ⟨_,get?_push_size _ rfl,rfl,rfl⟩ ?_);refine JH (tk:=s1.toks) I1 _ (OX a _ xs.length) ⟨zero_le _,?_⟩ q;rw[<-e1];exact⟨_,get?_push_size _ rfl,rfl,rfl⟩
end
theorem pY{α β:Type}{G:α->β->Prop}{l₁:List α}{l₂:List β}(h:Paired G l₁ l₂):∀{i:Nat}{a:α},l₁[i]?=some a->∃b,l₂[i]?=some b/\G a b:=by
 induction h with
 |nil=>intro i a e;simp at e
 |@cons a b l₁ l₂ r t ih=>
  intro i a' e;cases i with
  |zero=>
   simp only[List.getElem?_cons_zero,Option.some.injEq]at e;subst e;exact⟨b,rfl,r⟩
  |succ j=>
   simp only[List.getElem?_cons_succ]at e⊢;exact ih e
theorem Kk{o:Obj}{es es':Array DictEntry}{ep ep':Nat}(h:o.data= .dict es ep)(h':o.data= .dict es' ep'):es'=es/\ep'=ep:=by
 rw[h]at h';cases h';exact⟨rfl,rfl⟩
def Tw(K:PySem.W.Frag)(a:Addr):It:=
 ⟨λi H=>∃(xs:List V)(x:V),aH K H a xs/\xs[i]?=some x,λi H v H'=>∃T x,v= .ref T/\H T=none/\H'=upd H T (.tup [.int (i:Nat),x])/\∀xs,aH K H a xs->xs[i]?=some x,λi H=>∃xs:List V,aH K H a xs/\xs.length<=i⟩
theorem Mr{P:Program}{w:World}{K:PySem.W.Frag}{elts:List Expr}{kk:Nat}{tpos:Pos}(a e it:Addr):
  Turn P w K (.Tuple elts kk tpos) (Tw K a) [e,it] e (λi h=>(∃old,IsEnum h e it ((i:Nat):Int) old)/\h.IsListIter it a i/\e≠it)where
 mem:=by simp
 obj:=λi h st b hb=>by
  obtain⟨⟨old,he⟩,⟨o,ho,hc,hd⟩,_⟩:=st;have e':b=e\/b=it:=by simpa using hb
  rcases e' with z|z
  ·rw[z];exact⟨_,he,λv q=>nomatch q⟩
  ·rw[z];exact⟨o,ho,λv q=>by rw[hd]at q;cases q⟩
 keep:=λi h h' st k=>let ⟨⟨old,he⟩,hi,hne⟩:=st;⟨⟨old,k e (by simp) _ he⟩,hi.at λo q=>k it (by simp) o q,hne⟩
 item:=by
  intro X hP hw hK hc i pins s σ H E I hf st hg;subst hP hw hK;obtain⟨⟨old,he⟩,hit,hne⟩:=st;obtain⟨xs,x,hq,hx⟩:=hg;obtain⟨its,rv,p,hz⟩:=I.list hq;obtain⟨u,hu,ru⟩:=rv.get hx;have hel:e<s.heap.objs.size:=lt_size he;have hil:it<s.heap.objs.size:=by obtain⟨_,q,_⟩:=hit;exact lt_size q
  refine wpAny_pyNext_enum_item he hit p.isList (x:=u) (by simpa using hu) hne λh' ho hit' hT hsz hk=>?_;refine⟨_,rfl,wpAny_letOwnedTupleGo_enum (s:={s with heap:=h',toks:=s.toks+1}) ho λh'' he' sb=>?_⟩;have hT2:h''.get? s.heap.objs.size=some {cls:= .type "tuple",data:= .seq #[.int i s.toks,u]}:=(sb.2 _ (ne_of_gt hel)).trans hT;have new:di X.prog X.w (upd H s.heap.objs.size (.tup [.int (i:Nat),x])) h'' s.heap.objs.size (.tup [.int (i:Nat),x]):=
   ⟨by show 2<=sizeLine;decide,[.int i s.toks,u],.cons ⟨_,rfl⟩ (.cons ru .nil),⟨_,hT2,rfl,_,rfl⟩⟩
  have I1:Inv X pins σ (upd H s.heap.objs.size (.tup [.int (i:Nat),x])) {s with heap:=h'',toks:=s.toks+1}:=
   I.uJ (ch:=[e,it]) (λb ob hb q=>(sb.2 b (λz=>hb (by simp[z]))).trans (hk b ob (λz=>hb (by simp[z])) (λz=>hb (by simp[z])) q)) hf (le_refl _) new
  refine⟨.ref s.heap.objs.size,_,I1,rfl,⟨_,x,rfl,I.bS.fresh (le_refl _),rfl,λys hy=>by rw[I.oN hy hq];exact hx⟩,⟨⟨u,?_⟩,hit'.at λo q=>(sb.2 it (Ne.symm hne)).trans q,hne⟩,λb hb=>?_⟩
  ·have e1:((i+1:Nat):Int)=(i:Int)+1:=by omega
   rw[e1];exact he'
  ·have hb':b<s.heap.objs.size:=by
    have e':b=e\/b=it:=by simpa using hb
    rcases e' with z|z
    ·rw[z];exact hel
    ·rw[z];exact hil
   rw[ak (ne_of_lt hb')];exact(hf b hb).1
 done:=by
  intro X hP hw hK hc i pins s σ H E I hf st hg;subst hP hw hK;obtain⟨⟨old,he⟩,hit,hne⟩:=st;obtain⟨xs,hq,hx⟩:=hg;obtain⟨its,rv,p,hz⟩:=I.list hq;obtain⟨f0,f1,f2,f3,f4,f5⟩:=hf it (by simp);have hl:=rv.length;exact wpAny_pyNext_enum_end (I.ok.hd hc) he hit p.isList (by simp;omega) λh' eb=>⟨rfl,I.turned (t':=s.toks) (λb o hb q=>eb b o hb q) f0 f1 f3 f4 f5⟩
 self:=λA i s Q E st h=>let ⟨⟨_,he⟩,_⟩:=st;wpAny_pyIter_enum he h
def SH(K:PySem.W.Frag)(ta:TA):TI:=λσ H R=>ta σ H λvs H1=>∃a xs,vs=[.ref a]/\aH K H1 a xs/\R (Tw K a) H1
theorem F5{X:Cx}{e:Expr}{ta:TA}{p pos tpos:Pos}{elts:List Expr}{kk:Nat}(hg:Gl X "enumerate")(hm:X.mg "enumerate"=none)(ha:PA X [e] ta)(hs:starEach [e] X.env=[(false,eval e X.env)]:=by rfl):
  PI X (.Tuple elts kk tpos) (.Call (.Name "enumerate" p) [e] [] pos) (SH X.K ta):=by
 intro pins s σ H R I h;refine Call_ (mm I hg hm boot_enumerate (PyProof.Rows.callWith_type1 (dh (ha pos pins s σ H _ I h) λus s1 ⟨vs,H1,I1,r1,q1⟩=>?_) hs rfl));obtain⟨a,xs,ex,hq,q⟩:=q1;subst ex;cases r1 with
 |cons r rr=>
  cases rr;cases r;obtain⟨its,rv,p',hz⟩:=I1.list hq;refine call_enumerate_list p'.isList λh' he hit hsz hk=>wpAny_pyIter_enum he ?_;have I2:Inv X pins σ H1 {s1 with heap:=h'}:=I1.kept (t':=s1.toks) hk;refine⟨s1.heap.objs.size+1,[s1.heap.objs.size+1,s1.heap.objs.size],_,_,H1,rfl,I2,Mr a (s1.heap.objs.size+1) s1.heap.objs.size,⟨⟨.none,he⟩,hit,Nat.succ_ne_self _⟩,λb hb=>?_,q⟩;have e':b=s1.heap.objs.size+1\/b=s1.heap.objs.size:=by simpa using hb
  have hle:s1.heap.objs.size<=b:=by
   rcases e' with z|z
   ·rw[z];exact le_add_right _ _
   ·rw[z];exact le_refl _
  exact I1.Jm hle (I1.bS.fresh hle)
theorem Ll:bootBuiltins "zip"=some (.type "zip"):=by decide+kernel
def TB(K:PySem.W.Frag)(a b:Addr):It:=
 ⟨λi H=>∃(xs ys:List V)(x y:V),aH K H a xs/\aH K H b ys/\xs[i]?=some x/\ys[i]?=some y,
  λi H v H'=>∃T x y,v= .ref T/\H T=none/\H'=upd H T (.tup [x,y])/\(∀xs,aH K H a xs->xs[i]?=some x)/\∀ys,aH K H b ys->ys[i]?=some y,
  λi H=>∃xs ys:List V,aH K H a xs/\aH K H b ys/\(xs.length<=i\/ys.length<=i)⟩
theorem OY{P:Program}{w:World}{K:PySem.W.Frag}{elts:List Expr}{kk:Nat}{tpos:Pos}{a b z TI TO i1 i2:Addr}(D:ZipApart z TI TO i1 i2 a b):
  Turn P w K (.Tuple elts kk tpos) (TB K a b) [z,TI,TO,i1,i2] z (λi h=>IsZip h z TI TO .none/\IsPair h TI (.ref i1) (.ref i2)/\(∃x y,IsPair h TO x y)/\h.IsListIter i1 a i/\h.IsListIter i2 b i)where
 mem:=by simp
 obj:=λi h st c hc=>by
  obtain⟨hz,hTI,⟨x,y,hTO⟩,⟨o1,e1,_,d1⟩,⟨o2,e2,_,d2⟩⟩:=st;have e':c=z\/c=TI\/c=TO\/c=i1\/c=i2:=by simpa using hc
  rcases e' with q|q|q|q|q
  ·rw[q];exact⟨_,hz,λv q=>nomatch q⟩
  ·rw[q];exact⟨_,hTI,λv q=>nomatch q⟩
  ·rw[q];exact⟨_,hTO,λv q=>nomatch q⟩
  ·rw[q];exact⟨o1,e1,λv q=>by rw[d1]at q;cases q⟩
  ·rw[q];exact⟨o2,e2,λv q=>by rw[d2]at q;cases q⟩
 keep:=λi h h' st k=>by
  obtain⟨hz,hTI,⟨x,y,hTO⟩,h1,h2⟩:=st;exact⟨k z (by simp) _ hz,k TI (by simp) _ hTI,⟨x,y,k TO (by simp) _ hTO⟩,h1.at λo q=>k i1 (by simp) o q,h2.at λo q=>k i2 (by simp) o q⟩
 item:=by
  intro X hP hw hK hc i pins s σ H E I hf st hg;subst hP hw hK;obtain⟨hz,hTI,⟨x0,y0,hTO⟩,h1,h2⟩:=st;obtain⟨xs,ys,x,y,hqx,hqy,hx,hy⟩:=hg;obtain⟨its,rv,p,_⟩:=I.list hqx;obtain⟨its2,rv2,p2,_⟩:=I.list hqy;obtain⟨u,hu,ru⟩:=rv.get hx;obtain⟨u2,hu2,ru2⟩:=rv2.get hy;have hzl:z<s.heap.objs.size:=lt_size hz;refine wpAny_pyNext_zip_item D hz hTI hTO h1 h2 p.isList p2.isList (x:=u) (y:=u2) (by simpa using hu) (by simpa using hu2) λh' z' TO' h1' h2' hT hsz hk=>?_;refine⟨_,rfl,wpAny_letOwnedTupleGo_zip (s:={s with heap:=h'}) z' λh'' z'' sb=>?_⟩;have hT2:h''.get? s.heap.objs.size=some {cls:= .type "tuple",data:= .seq #[u,u2]}:=(sb.2 _ (ne_of_gt hzl)).trans hT;have new:di X.prog X.w (upd H s.heap.objs.size (.tup [x,y])) h'' s.heap.objs.size (.tup [x,y]):=
   ⟨by show 2<=sizeLine;decide,[u,u2],.cons ru (.cons ru2 .nil),⟨_,hT2,rfl,_,rfl⟩⟩
  have I1:Inv X pins σ (upd H s.heap.objs.size (.tup [x,y])) {s with heap:=h''}:=
   I.uJ (t':=s.toks) (ch:=[z,TI,TO,i1,i2]) (λc o hb q=>(sb.2 c (λq'=>hb (by simp[q']))).trans (hk c o (λq'=>hb (by simp[q'])) (λq'=>hb (by simp[q'])) (λq'=>hb (by simp[q'])) (λq'=>hb (by simp[q'])) q)) hf (le_refl _) new
  refine⟨.ref s.heap.objs.size,_,I1,rfl,⟨_,x,y,rfl,I.bS.fresh (le_refl _),rfl,λl hl=>by rw[I.oN hl hqx];exact hx,λl hl=>by rw[I.oN hl hqy];exact hy⟩,⟨z'',?_,⟨u,u2,?_⟩,?_,?_⟩,λc hcm=>?_⟩
  ·exact(sb.2 _ D.TIz).trans (hk _ _ D.TIz D.TITO D.TIi1 D.TIi2 hTI)
  ·exact(sb.2 _ D.TOz).trans TO'
  ·exact h1'.at λo q=>(sb.2 _ D.i1z).trans q
  ·exact h2'.at λo q=>(sb.2 _ D.i2z).trans q
  ·have hlt:c<s.heap.objs.size:=by
    have e':c=z\/c=TI\/c=TO\/c=i1\/c=i2:=by simpa using hcm
    rcases e' with q|q|q|q|q
    ·rw[q];exact hzl
    ·rw[q];exact lt_size hTI
    ·rw[q];exact lt_size hTO
    ·rw[q];obtain⟨_,e1,_⟩:=h1;exact lt_size e1
    ·rw[q];obtain⟨_,e2,_⟩:=h2;exact lt_size e2
   rw[ak (ne_of_lt hlt)];exact(hf c hcm).1
 done:=by
  intro X hP hw hK hc i pins s σ H E I hf st hg;subst hP hw hK;obtain⟨hz,hTI,⟨x0,y0,hTO⟩,h1,h2⟩:=st;obtain⟨xs,ys,hqx,hqy,hend⟩:=hg;obtain⟨its,rv,p,_⟩:=I.list hqx;obtain⟨its2,rv2,p2,_⟩:=I.list hqy;have l1:=rv.length;have l2:=rv2.length;have he:its.toArray[i]?=none\/its2.toArray[i]?=none:=by
   rcases hend with q|q
   ·exact .inl (by simp;omega)
   ·exact .inr (by simp;omega)
  exact wpAny_pyNext_zip_end (I.ok.hd hc) D hz hTI hTO h1 h2 p.isList p2.isList he λh' hk=>⟨rfl,I.QM (t':=s.toks) (ch:=[z,TI,TO,i1,i2]) (λc o hb q=>
   hk c o (λq'=>hb (by simp[q'])) (λq'=>hb (by simp[q'])) (λq'=>hb (by simp[q'])) (λq'=>hb (by simp[q'])) q) hf⟩
 self:=λA i s Q E st h=>wpAny_pyIter_zip st.1 h
def TY(K:PySem.W.Frag)(ta:TA):TI:=λσ H R=>ta σ H λvs H1=>∃a b xs ys,vs=[.ref a,.ref b]/\aH K H1 a xs/\aH K H1 b ys/\R (TB K a b) H1
theorem Ot{X:Cx}{e e2:Expr}{ta:TA}{p pos tpos:Pos}{elts:List Expr}{kk:Nat}(hg:Gl X "zip")(hm:X.mg "zip"=none)(ha:PA X [e,e2] ta)
  (hs:starEach [e,e2] X.env=(false,eval e X.env)::starEach [e2] X.env:=by rfl) (hpl:(backTo pos (starEach [e2] X.env)).any (·.1)=false:=by rfl):
  PI X (.Tuple elts kk tpos) (.Call (.Name "zip" p) [e,e2] [] pos) (TY X.K ta):=by
 intro pins s σ H R I h;refine Call_ (mm I hg hm Ll (PyProof.Rows.callWith_type1 (dh (ha pos pins s σ H _ I h) λus s1 ⟨vs,H1,I1,r1,q1⟩=>?_) hs hpl));obtain⟨a,b,xs,ys,ex,hqx,hqy,q⟩:=q1;subst ex;cases r1 with
 |cons r rr=>
  cases rr with
  |cons r' rr=>
   cases rr;cases r;cases r';obtain⟨its,rv,p1,_⟩:=I1.list hqx;obtain⟨its2,rv2,p2,_⟩:=I1.list hqy;have la:a<s1.heap.objs.size:=p1.lt;have lb:b<s1.heap.objs.size:=p2.lt;refine call_zip_2 p1.isList p2.isList λh' hz hTI hTO h1 h2 hsz hk=>wpAny_pyIter_zip hz ?_;have I2:Inv X pins σ H1 {s1 with heap:=h'}:=I1.kept (t':=s1.toks) hk;refine⟨s1.heap.objs.size+4,[s1.heap.objs.size+4,s1.heap.objs.size+2,s1.heap.objs.size+3,s1.heap.objs.size,s1.heap.objs.size+1],_,_,H1,rfl,I2,OY (PySem.W.ktu_apart s1.heap.objs.size a b la lb),⟨hz,hTI,⟨_,_,hTO⟩,h1,h2⟩,λc hcm=>?_,q⟩;have e':c=s1.heap.objs.size+4\/c=s1.heap.objs.size+2\/c=s1.heap.objs.size+3\/c=s1.heap.objs.size\/c=s1.heap.objs.size+1:=by simpa using hcm
   have hle:s1.heap.objs.size<=c:=by
    rcases e' with z|z|z|z|z
    ·rw[z];exact le_add_right _ _
    ·rw[z];exact le_add_right _ _
    ·rw[z];exact le_add_right _ _
    ·rw[z];exact le_refl _
    ·rw[z];exact le_add_right _ _
   exact I1.Jm hle (I1.bS.fresh hle)
end L2
namespace L2
open PySem PySem.Spec PyProof.Rows
def inClass(s:Stmt)(j:Nat):Stmt:=match s with
 | .ClassDef _ _ _ body _ _ _ _ _ _ _=>body.getD j (.Pass ⟨0,0,0,0⟩)
 |_=> .Pass ⟨0,0,0,0⟩
def ny(s:Stmt):Arguments:=match s with
 | .FunctionDef _ a _ _ _ _ _ _ _ _=>a
 |_=>{posonlyargs:=[],args:=[],vararg:=none,kwonlyargs:=[],kw_defaults:=[],kwarg:=none,defaults:=[]}
def jg(s:Stmt):List Stmt:=match s with
 | .FunctionDef _ _ b _ _ _ _ _ _ _=>b
 |_=>[]
def aj(s:Stmt):Scope:=match s with
 | .FunctionDef _ _ _ _ _ _ sc _ _ _=>sc
 |_=>{kind:= .function,names:=[],isGenerator:=false,isCoroutine:=false}
abbrev gU:IT:=λ_ _ _ _ _ _=>False
abbrev E0:XK:=λ_ _ _=>False
theorem az{X:Cx}:Passes gU X E0:=λ_ _ _ _ _ _ _ h=>h.elim
structure cP(K:PySem.W.Frag)(x qual:Str)(st:Stmt)(f:Addr)(fd:FuncData):Prop where
 ex:∃(oc:Value)(od:Option Addr)(kV doc pm:Value)(an:Option Addr)(cdv ct:Value)(osl:Array (Option Value)),
  fd=fnOf x qual (ny st) (jg st) (aj st) .none kV doc pm an cdv ct/\K.lookup f=some ⟨oc,od,.func fd,osl⟩/\codeIn K cdv qual=true
 kp:keepIn K (.ref f)=true
section
variable{P:Program}{w:World}{K:PySem.W.Frag}{mg:rn}{base:Heap}
theorem cP.ok{x qual:Str}{st:Stmt}{f:Addr}{fd:FuncData}{N ps:List Str}{k:Nat}{sp:Sp}(F:cP K x qual st f fd)(S:au N ps (aj st))(len:∀vs H Q E,sp vs H Q E->vs.length=ps.length)
  (hbody:∀(cdv:Value)(A:Around)(outer:List Env)(s:Shared)(H:Hp)(vs:List V)(Q:VK)(E:XK),iu k (A.deeper (envOfC qual (aj st) s.heap.objs.size f cdv))->sp vs H Q E->
   ∃t,E3 (zY gU P w K mg base N qual (aj st) f cdv A outer s H E).Q0 (jg st) t/\t {nx:=λ_ H'=>Q .gc H',rt:=Q} (start N vs) H):aT P w K mg base gU (k+1) f fd ps sp:=by
 obtain⟨oc,od,kV,doc,pm,an,cdv,ct,osl,rfl,lk,hcd⟩:=F.ex;refine Np lk hcd S len λA outer s H vs Q E hr hsp=>?_;obtain⟨t,h,q⟩:=hbody cdv A outer s H vs Q E hr hsp;exact⟨t,h.Q0,q⟩
theorem cP.binds{x qual:Str}{st:Stmt}{f:Addr}{fd:FuncData}{ps:List Str}(F:cP K x qual st f fd)
  (h:∀(kV doc pm:Value)(an:Option Addr)(cdv ct:Value)(us:List Value),us.length=ps.length->bindArgs (fnOf x qual (ny st) (jg st) (aj st) .none kV doc pm an cdv ct) ⟨us,[]⟩=pure (ps.zip us)):Binds K fd ps []:=by
 obtain⟨oc,od,kV,doc,pm,an,cdv,ct,osl,rfl,lk,hcd⟩:=F.ex;exact .all (h kV doc pm an cdv ct)
theorem RA{x qual:Str}{st:Stmt}{f:Addr}{oc:Value}{od an:Option Addr}{osl:Array (Option Value)}{kV doc pm cdv ct:Value}(l:K.lookup f=some ⟨oc,od,.func (fnOf x qual (ny st) (jg st) (aj st) .none kV doc pm an cdv ct),osl⟩)
  (c:codeIn K cdv qual=true) (k:keepIn K (.ref f)=true):cP K x qual st f (fnOf x qual (ny st) (jg st) (aj st) .none kV doc pm an cdv ct):=⟨⟨oc,od,kV,doc,pm,an,cdv,ct,osl,rfl,l,c⟩,k⟩
end
theorem QZ{A:Around}{k:Nat}(hr:iu k A):A.units+1<cLine:=lt_of_le_of_lt (Nat.add_le_add_left (by decide:1<=64) _) hr.units
section
variable{X:Cx}
theorem pv(i:Nat){x:Str}{pos:Pos}(hN:X.N[i]?=some x:=by rfl)(hv:Rh X.env.scope x:=by first|exact Or.inl rfl|exact Or.inr (Or.inl rfl)|exact Or.inr (Or.inr rfl))(hd:(x==("__debug__":Str))=false:=by decide)
  (hcd:(x==("__classdict__":Str))=false:=by decide):PE X (.Name x pos) (QK i):=Om hN hv hd hcd
end
theorem Jo{A B:Prop}(h:B):if false=true then A else B:=by
 rw[if_neg Bool.false_ne_true];exact h
theorem B4{A B:Prop}(h:A):if true=true then A else B:=by
 rw[if_pos rfl];exact h
theorem eJ{c A B:Prop} [Decidable c](h1:c->A)(h2:¬c->B):if c then A else B:=by
 by_cases h:c
 ·rw[if_pos h];exact h1 h
 ·rw[if_neg h];exact h2 h
def ay(H H':Hp):Prop:=∀b o,H b=some o->H' b=some o
theorem ay.refl(H:Hp):ay H H:=λ_ _ h=>h
theorem ay.trans{H H1 H2:Hp}(a:ay H H1)(b:ay H1 H2):ay H H2:=λc o h=>b c o (a c o h)
theorem ay.free{H H':Hp}(e:ay H H'){l:Addr}(h:H' l=Option.none):H l=Option.none:=by
 cases q:H l with
 |none=>rfl
 |some o=>
  rw[e l o q]at h;cases h
theorem ay.seq{K:PySem.W.Frag}{H H':Hp}{a:Addr}{xs:List V}(e:ay H H')(h:aH K H a xs):aH K H' a xs:=by
 rcases h with(h|⟨o,h⟩)|h
 ·exact .inl (.inl (e _ _ h))
 ·exact .inl (.inr ⟨o,e _ _ h⟩)
 ·exact .inr h
theorem at_of{xs:List V}{z:Int}{j:Nat}{v:V}(e:z=(j:Int))(h:xs[j]?=some v):MS xs z=some v:=by
 rw[e];exact J9 h
theorem ay.made{H H1:Hp}{x dx C:Addr}(nx:H x=Option.none)(nd:H dx=Option.none)(k:∀b o,(upd (upd H dx (.own x)) x (.ins C dx [])) b=some o->b≠x->H1 b=some o):ay H H1:=λb o e=>
 k b o (by rw[ak (aq e nx),ak (aq e nd)];exact e) (aq e nx)
end L2
end
section
namespace ShX
open PySem
structure UL(lo:Nat)(B:Heap)(e:Addr)(cls:Value)(dct:Option Addr)(fl:Value)(h:Heap):Prop where
 ex:∃(oe:Obj)(vs:Array Value)(T:Addr)(oT:Obj)(ts:Array Value),h.get? e=some oe/\oe.cls=cls/\oe.dict=dct/\oe.data= .fields vs/\vs[1]?=some (.ref T)/\
  B.get? T=none/\lo<=T/\T≠e/\h.get? T=some oT/\oT.data= .fields ts/\ts[3]?=some fl
structure J5(lo:Nat)(B:Heap)(l:List Env)(e:Addr)(cls:Value)(dct:Option Addr)(fl:Value)(h:Heap):Prop where
 m8:B.StaysIn h
 new:B.get? e=none
 AX:h.FunFrames B l
 Tr:UL lo B e cls dct fl h
section
variable{lo:Nat}{M:Model}{A:Around}{E:iE}{s:Shared}{B:Heap}{env:Env}{outer l:List Env}{L e:Addr}{cls:Value}{dct:Option Addr}
theorem Ej{oe:Obj}{vs:Array Value}{head:Value}{hadNext:Bool}{Q:Unit->Shared->Prop}(fr:A.frames=some (env::outer))(ff:s.heap.FunFrames B (env::outer))(ef:env.frame=some L)
  (ge:s.heap.get? e=some oe) (kb:B.StaysIn s.heap) (ne:B.get? e=none) (de:oe.data= .fields vs) (sz:1<vs.size) (ec:oe.cls=cls) (ed:oe.dict=dct) (hlo:lo<=s.heap.objs.size)
  (fin:∀h',J5 lo B (env::outer) e cls dct (rawInt L) h'->s.heap.UpToSlots h'->Q () {s with heap:=h'}):
  wpAny M A (do let a<-frameOf env;let pl<-entryPlaceOf L hadNext;let b<-EntryCells.newEntry head a .none (rawInt L) .none pl;setField (.ref e) 1 b) Q E s:=by
 have notFrame:e∉(env::outer).filterMap (·.frame):=by
  intro m;obtain⟨_,o,ho,nf⟩:=ff.mem m;rw[ge]at ho;cases ho;exact nf vs de
 refine wpAny_bind (wpAny_frameOf_fun fr ff ef λh1 so=>wpAny_bind (wpAny_entryPlaceOf λpl isPl=>?_));unfold EntryCells.newEntry newFields;refine wpAny_bind (wpAny_newObj_type ?_ (isPl.sizeOk5 _ _ _ _ _));generalize htb:({cls:= .type "traceback",dict:=none,data:= .fields ([head,.ref L,.none,rawInt L,.none]++(if pl.isEmpty then replicate 6 Value.none else pl)).toArray}:Obj)=tb;have g1:h1.get? e=some oe:=(so.2.1 e notFrame).trans ge;have st1:B.StaysIn h1:=by
  intro b o hb;refine(so.2.1 b λm=>?_).trans (kb b o hb);rw[(ff.mem m).1]at hb;cases hb
 have g2:(h1.push tb).get? e=some oe:=get?_push_of_some tb g1;refine wpAny_setField g2 de sz (fin _ ?_ ?_)
 all_goals
  have neT:h1.objs.size≠e:=ne_of_gt (lt_size g1);have d3:=Obj.data_mapFields de (·.setIfInBounds 1 (Value.ref h1.objs.size));have g3:=get?_update_self (Obj.mapFields (·.setIfInBounds 1 (Value.ref h1.objs.size))) g2 (Obj.isFreed_of_fields d3);have oth:∀b o,b≠e->h1.get? b=some o->((h1.push tb).update e (Obj.mapFields (·.setIfInBounds 1 (Value.ref h1.objs.size)))).get? b=some o:=by
   intro b o hb q;rw[get?_update_other _ _ (Ne.symm hb)];exact get?_push_of_some tb q
  have noRec:∀b o,s.heap.get? b=some o->(∀ws,o.data≠.fields ws)->b≠e:=by
   intro b o hb nf q;subst q;rw[ge]at hb;cases hb;exact nf vs de
 ·refine⟨λb o hb=>oth b o (λq=>?_) (st1 b o hb),ne,ff.of_keeps λb o hb nf=>?_,⟨_,_,h1.objs.size,tb,_,g3,(Obj.cls_mapFields _ _).trans ec,?_,d3,by simp[sz],st1.fresh,by rw[so.1];exact hlo,neT,?_,by rw[<-htb],?_⟩⟩
  ·subst q;rw[ne]at hb;cases hb
  ·obtain⟨sl,q⟩:=so.2.2 b o hb;exact⟨_,oth b _ (noRec b o hb nf) q,rfl⟩
  ·obtain⟨c,d,dt,ss⟩:=oe;cases de;exact ed
  ·rw[get?_update_other _ _ (Ne.symm neT)];exact get?_push_size h1 (by rw[<-htb];rfl)
  ·rcases isPl with rfl|⟨_,_,_,_,_,_,_,rfl⟩<;>simp
 ·intro b o hb nf;obtain⟨sl,q⟩:=so.2.2 b o hb;exact⟨sl,oth b _ (noRec b o hb nf) q⟩
theorem Jz{oe:Obj}{vs:Array Value}{Q:Unit->Shared->Prop}(fr:A.frames=some (env::outer))(ff:s.heap.FunFrames B (env::outer))(ef:env.frame=some L)
  (ge:s.heap.get? e=some oe) (kb:B.StaysIn s.heap) (ne:B.get? e=none) (de:oe.data= .fields vs) (v1:vs[1]?=some .none) (ec:oe.cls=cls) (ed:oe.dict=dct) (hlo:lo<=s.heap.objs.size)
  (fin:∀h',J5 lo B (env::outer) e cls dct (rawInt L) h'->s.heap.UpToSlots h'->Q () {s with heap:=h'}):wpAny M A (noteFrame (.ref e) env) Q E s:=by
 unfold noteFrame;simp only[ef];refine wpAny_bind (wpAny_field ge de v1 ?_);rw[if_neg (by decide)];exact Ej fr ff ef ge kb ne de (Array.getElem?_eq_some_iff.mp v1).1 ec ed hlo fin
theorem KN{Q:Unit->Shared->Prop}(hlo:lo<=s.heap.objs.size)(fr:A.frames=some (env::outer))(ef:env.frame=some L)(y:J5 lo B (env::outer) e cls dct .none s.heap)
  (fin:∀h',J5 lo B (env::outer) e cls dct (rawInt L) h'->s.heap.UpToSlots h'->Q () {s with heap:=h'}):wpAny M A (noteFrame (.ref e) env) Q E s:=by
 obtain⟨kb,ne,ff,⟨oe,vs,T,oT,ts,ge,ec,ed,de,v1,nT,loT,neT,gT,dT,t3⟩⟩:=y;unfold noteFrame;simp only[ef];refine wpAny_bind (wpAny_field ge de v1 ?_);rw[if_pos (by simp)];refine wpAny_bind (wpAny_field gT dT t3 ?_);rw[if_neg (by simp[rawInt])];refine wpAny_bind (wpAny_setField gT dT (Array.getElem?_eq_some_iff.mp t3).1 ?_);have oth:∀b,b≠T->(s.heap.update T (Obj.mapFields (·.setIfInBounds 3 Value.none))).get? b=s.heap.get? b:=λb hb=>get?_update_other _ _ (Ne.symm hb);have noRec:∀b o,s.heap.get? b=some o->(∀ws,o.data≠.fields ws)->b≠T:=by
  intro b o hb nf q;subst q;rw[gT]at hb;cases hb;exact nf ts dT
 refine Ej (s:={s with heap:=s.heap.update T (Obj.mapFields (·.setIfInBounds 3 Value.none))}) fr (ff.of_keeps λb o hb nf=>⟨o,(oth b (noRec b o hb nf)).trans hb,rfl⟩) ef ((oth e (Ne.symm neT)).trans ge) (λb o hb=>?_) ne de (Array.getElem?_eq_some_iff.mp v1).1 ec ed (by show lo<=(s.heap.update T _).objs.size;rw[Heap.size_update];exact hlo) λh' y' up=>fin h' y' λb o hb nf=>up b o ((oth b (noRec b o hb nf)).trans hb) nf;refine(oth b λq=>?_).trans (kb b o hb);subst q;rw[nT]at hb;cases hb
theorem land{fl:Value}{Q:Unit->Shared->Prop}(y:J5 lo B l e cls dct fl s.heap)(fin:∀h',J5 lo B l e cls dct .none h'->s.heap.UpToSlots h'->Q () {s with heap:=h'}):wpAny M A (setFlight (.ref e) none) Q E s:=by
 obtain⟨kb,ne,ff,⟨oe,vs,T,oT,ts,ge,ec,ed,de,v1,nT,loT,neT,gT,dT,t3⟩⟩:=y;have s3:3<ts.size:=(Array.getElem?_eq_some_iff.mp t3).1;have oth:∀b,b≠T->(s.heap.update T (Obj.mapFields (·.setIfInBounds 3 ((none:Option Addr).elim Value.none λf=>rawInt f)))).get? b=s.heap.get? b:=λb hb=>get?_update_other _ _ (Ne.symm hb);have noRec:∀b o,s.heap.get? b=some o->(∀ws,o.data≠.fields ws)->b≠T:=by
  intro b o hb nf q;subst q;rw[gT]at hb;cases hb;exact nf ts dT
 unfold setFlight;refine wpAny_bind (wpAny_field ge de v1 ?_);rw[if_pos (by simp)]
 refine wpAny_setField gT dT s3 (fin _ ⟨λb o hb=>(oth b λq=>?_).trans (kb b o hb),ne,ff.of_keeps λb o hb nf=>⟨o,(oth b (noRec b o hb nf)).trans hb,rfl⟩,
  ⟨oe,vs,T,_,_,(oth e (Ne.symm neT)).trans ge,ec,ed,de,v1,nT,loT,neT,get?_update_self _ gT (Obj.isFreed_of_fields (Obj.data_mapFields dT _)),Obj.data_mapFields dT _,by simp[s3]⟩⟩ λb o hb nf=>⟨o.slots,(oth b (noRec b o hb nf)).trans hb⟩)
 subst q;rw[nT]at hb;cases hb
end
end ShX
end
section
namespace ShX
open PySem PySem.W PySem.Calls PyProof.Rows Builtin Builtin.ObjectAttr
def Ft(K:Frag)(C:Addr):Bool:=match K.lookup C with
 |some o=>(match o.data with
  | .cls cd=>o.cls== .type "type"&&cd.mro== .ref C::cd.mro.tail&&cd.hasDict&& !cd.hasDel&&o.slots.size==6&&o.slots[4]?==some (some (.builtin "Exception.__new__"))&&
    cd.mro.tail.contains (.type "Exception")&&cd.mro.tail.contains (.type "BaseException")&& !(cd.mro.tail.contains (.type "AttributeError"))&& !(cd.mro.tail.contains (.type "NameError"))&& !(cd.mro.tail.contains (.type "StopIteration"))&& !(cd.mro.tail.contains (.type "SystemExit"))
  |_=>false)
 |none=>false
structure Q9(h:Heap)(C:Addr)(cd:ClassData):Prop where
 obj:∃nm q N bs bm hdct sn sub ab col dd k0 k1 k2 k3 k5,h.get? C=some (excClassObj nm q C N bs bm hdct sn sub ab col dd k0 k1 k2 k3 k5 "Exception.__new__")/\bm.contains (.type "Exception")=true/\bm.contains (.type "BaseException")=true/\
  bm.contains (.type "AttributeError")=false/\bm.contains (.type "NameError")=false/\cd={name:=nm,bases:=bs,mro:= .ref C::bm,ns:=N,qualname:=q,hasDict:=hdct,slotNames:=sn,subclasses:=sub,abstract:=ab,collection:=col,hasDel:=false}/\hdct=true
theorem pK{K:Frag}{h:Heap}(X:K.In h){C:Addr}(e:Ft K C=true):∃cd,clsIn K C=some cd/\Q9 h C cd:=by
 unfold Ft at e
 split at e
 ·rename_i o ho;obtain⟨oc,od,dt,sl⟩:=o;dsimp only at e
  split at e
  ·rename_i cd;simp only[and_eq_true,not_eq_true',beq_iff_eq]at e;obtain⟨⟨⟨⟨⟨⟨⟨⟨⟨⟨⟨e1,e2⟩,e3⟩,e4⟩,e5⟩,e6⟩,e7⟩,e8⟩,e9⟩,e10⟩,e11⟩,e12⟩:=e;refine⟨cd,by unfold clsIn;rw[ho],?_⟩;obtain⟨nm,bs,mro,ns,qn,hd,sn,sub,ab,col,del⟩:=cd;dsimp only at*;subst e1 e4;obtain⟨bm,hbm⟩:∃bm,mro= .ref C::bm:=⟨mro.tail,e2⟩
   subst hbm;simp only[List.tail_cons]at*;obtain⟨l⟩:=sl
   match l,e5,e6 with
   |[k0,k1,k2,k3,k4,k5],_,e6=>
    have e6':k4=some (.builtin "Exception.__new__"):=by simpa using e6
    subst e6';exact⟨nm,qn,ns,bs,bm,hd,sn,sub,ab,col,od,k0,k1,k2,k3,k5,X _ _ ho,e7,e8,e9,e10,rfl,e3⟩
  ·cases e
 ·cases e
section
variable{prog:Program}{w:World}{A:Around}{C:Addr}{R:Result->Shared->Prop}{h:Heap}{g:Array GenState}{d:Drawn}{t:Nat}{os:OsState}
abbrev noArgs:Obj:={cls:= .type "tuple",data:= .seq #[]}
abbrev bH(C t:Addr)(dct:Option Addr):Obj:={cls:= .ref C,dict:=dct,data:= .fields #[.ref t,.none,.none,.none,.bool false,.none]}
theorem Rq:Manifest.canonical "Exception.__new__"=Manifest.canonical "BaseException.__new__":=by decide+kernel
theorem Px{cd:ClassData}(Y:Q9 h C cd)(hq:R (.ok (.ret (.ref (h.objs.size+1)))) ⟨(h.push noArgs).push (bH C h.objs.size none),g,d,t,os⟩):
  codeAny (model prog w) A (.builtin "Exception.__new__" ⟨[.ref C],[]⟩) R ⟨h,g,d,t,os⟩:=by
 obtain⟨nm,q,N,bs,bm,hdct,sn,sub,ab,col,dd,k0,k1,k2,k3,k5,hC,b1,b2,b3,b4,_,_⟩:=Y.obj;have F:=PySem.F.excCall_Exception;have hends:=F.ends;have cB:(Value.ref C::bm).contains (.type "Exception")=true:=by rw[contains_cons,b1,Bool.or_true]
 have cA:(Value.ref C::bm).contains (.type "AttributeError")=false:=by rw[contains_cons,b3];rfl
 have cN:(Value.ref C::bm).contains (.type "NameError")=false:=by rw[contains_cons,b4];rfl
 refine codeAny_builtinAt F.entry ?_;unfold Builtin.«BaseException.__new__»;refine PySem.wpAt_bind ?_;show PySem.wpAt _ _ _ (stack>>=_) _ _ _;refine PySem.wpAt_bind (PySem.wpAt_stack λp below=>PySem.wpAt_of_wpAny ?_)
 wp_walk
 refine PySem.wpAt_of_wpAny ?_;rw[F.owner]
 repeat (first|with_reducible refine wpAny_madeHere_exc Rq hC ?_|with_reducible refine wpAny_loadPart_at hC ?_|(with_reducible refine wpAny_isSubtype_exc hC ?_;first|rw[cB]|rw[cA]|rw[cN])|wp_step)
 show R _ _;rw[size_push];exact hq
theorem Lw{cd:ClassData}{M:Model}{E:iE}{Q:Unit->Shared->Prop}(Y:Q9 h C cd)(hq:Q () ⟨h,g,d,t,os⟩):wpAny M A (checkBuiltinCall "Exception.__new__" ⟨[.ref C],[]⟩) Q E ⟨h,g,d,t,os⟩:=by
 obtain⟨nm,q,N,bs,bm,hdct,sn,sub,ab,col,dd,k0,k1,k2,k3,k5,hC,b1,b2,b3,b4,_,_⟩:=Y.obj;have F:=PySem.F.excCall_Exception;have cB:(Value.ref C::bm).contains (.type "Exception")=true:=by rw[contains_cons,b1,Bool.or_true]
 have hstar:=F.noStar;have a1:splitId "Exception.__new__"=some ("Exception","__new__"):=by decide+kernel
 have a2:builtinKind "Exception.__new__"=some .builtinFn:=by decide+kernel
 have a3:Manifest.signature? "Exception.__new__"=some ⟨.any,"Exception","Exception",.cls,[⟨"args",.varPos,false⟩,⟨"kwargs",.varKw,false⟩]⟩:=by kernel_rfl
 simp only[checkBuiltinCall,a2,a1,a3]
 repeat (first|refine wpAny_loadPart_at hC ?_|(refine wpAny_isSubtype_exc hC ?_;rw[cB])|refine wpAny_staticBase_exc hC ?_|refine wpAny_madeBy_exc hC ?_|simp only[bne_self_eq_false,Bool.false_eq_true,if_false]|wp_step)
 exact hq
theorem Nn{K:Frag}{fI:Addr}(X:K.In h)(ex:Ft K C=true)(hi:findIn K (.ref C) "__init__"=some (some (.ref fI)))(hf:typeIn K (.ref fI)=some (.type "function"))
  (hq:codeAny (model prog w) (A.under (.builtin "type.__call__" ⟨[.ref C],[]⟩)) (.call (.ref fI) ⟨[.ref (h.objs.size+1)],[]⟩) (InitBack (h.objs.size+1) R) ⟨(h.push noArgs).push (bH C h.objs.size none),g,d,t,os⟩):
  codeAny (model prog w) A (.call (.ref C) ⟨[],[]⟩) R ⟨h,g,d,t,os⟩:=by
 obtain⟨cd,hcd,Y⟩:=pK X ex;obtain⟨nm,q,N,bs,bm,hdct,sn,sub,ab,col,dd,k0,k1,k2,k3,k5,hC,b1,b2,b3,b4,_,_⟩:=Y.obj;have F:=PySem.F.excCall_Exception;have f1:=tc_lookup;have f2:=tc_bind (.ref C);have hT:(⟨h,g,d,t,os⟩:Shared).TypeIs (.ref C) "type":=⟨_,hC,rfl⟩
 refine codeAny_of_tree ?_;show wpAny _ _ (callAny (.ref C) _) _ _ _
 repeat (any_goals(first|assumption|with_reducible refine wpAny_loadPart_at hC ?_|wp_step))
 refine⟨rfl,?_⟩;refine codeAny_call_builtin_at (Code.quiet_builtin _ (by decide+kernel)) entry_typeCall (wpAny_check_type_call_sub hC ?_)
 repeat (first|with_reducible refine wpAny_loadPart_at hC ?_|with_reducible refine wpAny_madeBy_exc hC ?_|wp_step)
 refine codeAny_call_builtin_code (Code.quiet_builtin _ F.quiet) (Lw Y ?_);refine Px Y ?_;have k:∀b o,h.get? b=some o->((h.push noArgs).push (bH C h.objs.size none)).get? b=some o:=λb o e=>get?_push_of_some _ (get?_push_of_some _ e);have hx:((h.push noArgs).push (bH C h.objs.size none)).get? (h.objs.size+1)=some (bH C h.objs.size none):=by heap_get
 have t1:Looks (model prog w) ((h.push noArgs).push (bH C h.objs.size none)) (typeOf (.ref (h.objs.size+1))) (.ref C):=(Looks.ld hx).andThen .now;have s1:Looks (model prog w) ((h.push noArgs).push (bH C h.objs.size none)) (isSubtype (.ref C) (.ref C)) true:=by
  intro A' Q' E' s' k' q';obtain⟨h',g',d',t',os'⟩:=s';refine wpAny_isSubtype_exc (k' _ _ (k _ _ hC)) ?_;rw[show(Value.ref C::bm).contains (.ref C)=true by simp];exact q'
 have i1:=(looks_findIn (M:=model prog w) X hi).keeps k;have b1:=(bind_fn (M:=model prog w) X (.ref (h.objs.size+1)) hf).keeps k;show wpAny _ _ _ _ _ _;unfold isInstance callSpecial? specialOf
 repeat (first|with_reducible refine wpAny_call ?_|lk)
 refine codeAny_mono hq λr s' z=>?_;rcases r with e|(v|_|_|_)<;>first|exact z|exact z.elim|skip
 obtain⟨rfl,z⟩:=z;exact wpAny_pure (wpAny_pure z)
end
end ShX
end
section
namespace ShX
open PySem PySem.W PySem.Calls PyProof.Rows Builtin Builtin.ObjectAttr
def pV:List Value->Bool
 | .ref _::r=>pV r
 |l=>l==[.type "Exception",.type "BaseException",.type "object"]
theorem CK(self:Value):∀{l:List Value},pV l=true->refuseLoop self "__setattr__" l=pure ()
 | .ref c::r,e=>by
  rw[refuseLoop_ref];exact CK self (by cases r<;>first|exact e|cases e)
 |[],e=>by cases e
 | .type n::r,e=>by
  have h:(.type n::r:List Value)=[.type "Exception",.type "BaseException",.type "object"]:=by
   have q:((.type n::r:List Value)==[.type "Exception",.type "BaseException",.type "object"])=true:=e;exact eq_of_beq q
  rw[h]
  kernel_rfl
theorem Kn:∀{l:List Value},pV l=true->l.contains (.type "object")=true
 | .ref c::r,e=>by rw[contains_cons,Kn (l:=r) (by cases r<;>first|exact e|cases e),Bool.or_true]
 |[],e=>by cases e
 | .type n::r,e=>by
  have q:((.type n::r:List Value)==[.type "Exception",.type "BaseException",.type "object"])=true:=e;rw[eq_of_beq q];rfl
section
variable{prog:Program}{w:World}{A:Around}{E:iE}{s:Shared}{K:Frag}{x C t:Addr}{name:Str}{v:Value}
theorem Py{Q:Unit->Shared->Prop}(X:K.In s.heap)(hx:s.heap.get? x=some (bH C t none))(ho:(clsIn K C).any (λcd=>pV cd.mro&&cd.hasDict)=true)
  (hs:findIn K (.ref C) "__setattr__"=some (some (.builtin "object.__setattr__"))) (hn:findIn K (.ref C) name=some none)
  (fin:∀h',(∀b o,b≠x->s.heap.get? b=some o->h'.get? b=some o)->s.heap.objs.size≠x->h'.get? x=some (bH C t (some s.heap.objs.size))->h'.Ns1 s.heap.objs.size (λy=>if y=name then some v else none)->Q () {s with heap:=h',toks:=s.toks+2}):
  wpAny (model prog w) A (setAttr (.ref x) name v) Q E s:=by
 have I:InstAt s.heap x (bH C t none) C none:=⟨hx,rfl,rfl,True.intro⟩
 obtain⟨cd,hc,ho⟩:=any_some ho;rw[and_eq_true]at ho;obtain⟨ho,hdct⟩:=ho;have ne:cd.mro.isEmpty=false:=by
  cases q:cd.mro with
  |nil=>rw[q]at ho;cases ho
  |cons _ _=>rfl
 have SF:=PySem.F.store_object;have sub:Looks (model prog w) s.heap (isInstance (.ref x) (.type "object")) true:=I.type.andThen (looks_mroIn X (by unfold mroIn;rw[hc,bind_some,if_neg (by rw[ne];decide),Kn ho]));refine set_plain X I hs ?_;refine codeAny_call_builtin SF.slot.plain SF.entry (@check_slot (model prog w) _ _ {s with toks:=s.toks+1} "object.__setattr__" "object" "__setattr__" (.ref x) [.str name s.toks,v] [] _ SF.kind SF.split sub (SF.args (.ref x) (.str name s.toks) v) ?_);have hm:Looks (model prog w) s.heap (mroOf (.ref C)) cd.mro:=(looks_clsIn X hc).andThen .now;rw[osa_eq,refuse_eq];refine wpAny_bind (wpAny_bind (I.type.here (s:={s with toks:=s.toks+1}) (wpAny_bind (hm.here (s:={s with toks:=s.toks+1}) ?_))));rw[CK _ ho];refine wpAny_pure (wpAny_bind (I.type.here (s:={s with toks:=s.toks+1}) (wpAny_bind ((looks_findIn X hn).here (s:={s with toks:=s.toks+1}) (wpAny_bind ?_)))));refine wpAny_pure (a:=(none:Option Value)) ?_;show wpAny _ _ (storeInOwnDict (.ref x) (.ref C) (.str name s.toks) name v false) _ _ _;refine wpAny_bind (wpAny_pure (wpAny_bind (wpAny_bind (wpAny_loadPart hx (wpAny_bind ((looks_clsIn X hc).here (s:={s with toks:=s.toks+1}) ?_))))));rw[hdct];show wpAny _ _ (alloc emptyDict>>=_) _ _ _;refine wpAny_bind (wpAny_alloc (wpAny_bind ?_));have hx1:(s.heap.push emptyDict).get? x=some (bH C t none):=get?_push_of_some _ hx;refine wpAny_update hx1 (wpAny_pure (wpAny_bind (wpAny_pure (wpAny_bind ?_))));have nx:s.heap.objs.size≠x:=ne_of_gt (lt_size hx);have hx2:=get?_update_self (h:=s.heap.push emptyDict) (λo=>{o with dict:=some s.heap.objs.size}) hx1 rfl;have hd2:((s.heap.push emptyDict).update x (λo=>{o with dict:=some s.heap.objs.size})).Ns1 s.heap.objs.size (λ_=>none):=by
  refine⟨emptyDict,#[],_,?_,rfl,?_,?_,λ_=>?_⟩
  ·rw[get?_update_other _ _ (Ne.symm nx)];exact get?_push_size _ rfl
  all_goals first|rfl|(intro e he;simp at he)|simp[UniqKeys]|skip
 refine wpAny_nsSet1 (s:=⟨(s.heap.push emptyDict).update x (λo=>{o with dict:=some s.heap.objs.size}),s.gens,s.drawn,s.toks+1,s.os⟩) hd2 λh' hn' sb=>?_;obtain⟨oD,esD,epD,hoD,hdD,hcD⟩:=hn'.count (PySem.Within.cons (ns:=[]) name v λ_ z=>absurd rfl z);refine wpAny_bind (wpAny_lookBehind hoD (by rw[hdD];exact pastItsLine_dict (le_trans hcD (by rw[sizeLine_eq];simp))) ?_);refine wpAny_pure (fin h' (λb o hb e=>?_) nx ((sb.2 x (Ne.symm nx)).trans hx2) hn');have nb:b≠s.heap.objs.size:=ne_of_lt (lt_size e);rw[sb.2 b nb,get?_update_other _ _ (Ne.symm hb)];exact get?_push_of_some _ e
end
end ShX
end
section
namespace ShX
open PySem PySem.W PySem.Calls PyProof.Rows Builtin Builtin.ObjectAttr
section
variable{prog:Program}{w:World}{A:Around}{E:iE}{s:Shared}{K:Frag}{x C dx:Addr}{name:Str}{v:Value}{ox:Obj}{od:Option Obj}
theorem Pw{expr:Bool}{Q:iE}(X:K.In s.heap)(I:InstAt s.heap x ox C od)(hga:findIn K (.ref C) "__getattribute__"=some (some (.builtin "BaseException.__getattribute__")))
  (hgt:findIn K (.ref C) "__getattr__"=some none) (hb:mroIn K C (.type "BaseException")=some true)
  (hf:findObj K C od name=some (.value v)) (hh:handedIn v=true) (h:Q v {s with toks:=s.toks+1}):wpAny (model prog w) A (getAttr (.ref x) name expr) Q E s:=by
 obtain⟨h0,g,d,t,os⟩:=s;have L0:=I.type (M:=model prog w);have L1:=looks_findIn (M:=model prog w) X hga;have L2:=looks_findIn (M:=model prog w) X hgt;have L3:=looks_find (M:=model prog w) X I hf;have L4:Looks (model prog w) h0 (isInstance (.ref x) (.type "BaseException")) true:=L0.andThen (looks_mroIn X hb);have x2:(Value.builtin "BaseException.__getattribute__"==Value.builtin "object.__getattribute__")=false:=by decide+kernel
 have x1:(onTheHeap (Value.ref C)&&Value.builtin "BaseException.__getattribute__"==Value.builtin "object.__getattribute__")=false:=by rw[x2];rfl
 have x0:(expr&&onTheHeap (Value.builtin "BaseException.__getattribute__"))=false:=by cases expr<;>rfl
 have hk:builtinKind "BaseException.__getattribute__"=some .slot:=by decide+kernel
 have hsplit:splitId "BaseException.__getattribute__"=some ("BaseException","__getattribute__"):=by decide+kernel
 have hpl:plainId "BaseException.__getattribute__"=true:=by decide+kernel
 have hbi:bindSpecial (.builtin "BaseException.__getattribute__") (.ref x)=pure (.builtin "BaseException.__getattribute__",[.ref x]):=
  (Slot.of (T:="BaseException") (name:="__getattribute__") (owner:="BaseException") (n:="__getattribute__") (by rw[typeLookup_type,builtinLookup_eq_fast];kernel_rfl) (by decide+kernel) (by decide+kernel) (by decide+kernel)
   (.inl (by decide+kernel)) (by rw[isSubtype_type];kernel_rfl)).bind (.ref x)
 unfold getAttr getAttrBy;refine wpAny_bind (wpAny_mkText (wpAny_holding (wpAny_bind (L0.at (wpAny_bind (L1.at ?_))))));dsimp only;rw[if_neg (by rw[x1];exact Bool.false_ne_true)];unfold getAttrByItsOwn;refine wpAny_bind ?_;show wpAny _ _ (typeLookup (.ref C) "__getattr__") _ _ _;refine L2.at (wpAny_bind (wpAny_attempt (wpAny_holding ?_)));unfold callGetattribute;rw[if_neg (by rw[x0];exact Bool.false_ne_true)];unfold boundAndCalled;rw[hbi];refine wpAny_bind (wpAny_pure (wpAny_call ?_));refine codeAny_call_builtin hpl F.entry_bexc_ga (@check_slot (model prog w) _ _ ⟨h0,g,d,t+1,os⟩ "BaseException.__getattribute__" "BaseException" "__getattribute__" (.ref x) [.str name t] [] _ hk hsplit L4 (F.args_bexc_ga (.ref x) (.str name t)) ?_);unfold Builtin.«object.__getattribute__»;have sl:slotArgs "__getattribute__" 1 (⟨[Value.ref x]++[Value.str name t],[]⟩:Args)=pure (Value.ref x,[Value.str name t]):=by rfl
 refine wpAny_bind (wpAny_of_eq sl ?_);refine wpAny_bind (wpAny_pure (wpAny_bind (L0.at (wpAny_bind (L3.at ?_)))));refine wpAny_pure ?_;show wpAny _ _ (handedOut v) _ _ _;rw[handedOut_of hh];exact wpAny_pure h
end
end ShX
end
section
namespace ShX
open PySem PySem.W PySem.Calls PyProof.Rows Builtin Builtin.ObjectAttr
section
variable{prog:Program}{w:World}{M:Model}{A:Around}{E:iE}{s:Shared}{env:Env}{K:Frag}
theorem JK{x:Sem Value}{Q:Flow->Shared->Prop}(hh:A.handled=none)
  (h:wpAny M A x (λv s1=>∃e C cd oe,v= .ref e/\Q9 s1.heap C cd/\s1.heap.get? e=some oe/\oe.cls= .ref C/\(∃t,oe.data= .fields #[.ref t,.none,.none,.none,.bool false,.none])/\E (.ref e) s1) E s):wpAny M A (raiseStmt env (some x) none) Q E s:=by
 unfold raiseStmt;refine wpAny_bind (wpAny_mono h (λv s1 h1=>?_) λ_ _ z=>z);obtain⟨e,C,cd,oe,rfl,Y,he,hcl,⟨t0,hdt⟩,hE⟩:=h1;obtain⟨nm,q,N,bs,bm,hdct,sn,sub,ab,col,dd,k0,k1,k2,k3,k5,hC,b1,b2,b3,b4,_,_⟩:=Y.obj;obtain⟨hp,g,d,tk,os⟩:=s1;have cB:(Value.ref C::bm).contains (.type "BaseException")=true:=by rw[contains_cons,b2,Bool.or_true]
 obtain⟨oc,odi,oda,osl⟩:=oe;dsimp only at hcl hdt;subst hcl hdt
 repeat (first|with_reducible refine wpAny_loadPart_at he ?_|with_reducible refine wpAny_loadPart_at hC ?_|(with_reducible refine wpAny_isSubtype_exc hC ?_;rw[cB])|wp_step)
 exact wpAny_raiseNew_none hh hE
theorem MJ{x:Expr}{pos:Pos}{Q:Flow->Shared->Prop}(hh:A.handled=none)
  (h:wpAny M A (eval x env) (λv s1=>∃e C cd oe,v= .ref e/\Q9 s1.heap C cd/\s1.heap.get? e=some oe/\oe.cls= .ref C/\(∃t,oe.data= .fields #[.ref t,.none,.none,.none,.bool false,.none])/\E (.ref e) s1) E s):
  wpAny M A (exec (.Raise (some x) none pos) env) Q E s:=by
 rw[arm_exec_Raise];show wpAny M A (do standAt pos;raiseStmt env (some (do let v<-eval x env;standAt pos;pure v)) none) Q E s;exact wpAny_bind (wpAny_standAt (JK hh (wpAny_bind (wpAny_mono h (λv s1 h1=>wpAny_bind (wpAny_standAt (wpAny_pure h1))) λ_ _ z=>z))))
theorem Lx{e C D:Addr}{cdC cdD:ClassData}{oe:Obj}{Q:Bool->Shared->Prop}(YC:Q9 s.heap C cdC)(YD:Q9 s.heap D cdD)(he:s.heap.get? e=some oe)(hcl:oe.cls= .ref C)(hsub:cdC.mro.contains (.ref D)=true)(hq:Q true s):
  wpAny M A (excMatches (.ref e) (.ref D)) Q E s:=by
 obtain⟨nm,q,N,bs,bm,hdct,sn,sub,ab,col,dd,k0,k1,k2,k3,k5,hC,_,_,_,_,ec,_⟩:=YC.obj;obtain⟨nm',q',N',bs',bm',hdct',sn',sub',ab',col',dd',k0',k1',k2',k3',k5',hD,_,c2,_,_,_,_⟩:=YD.obj;subst ec;obtain⟨hp,g,d,tk,os⟩:=s;have cB:(Value.ref D::bm').contains (.type "BaseException")=true:=by rw[contains_cons,c2,Bool.or_true]
 have cD:(Value.ref C::bm).contains (.ref D)=true:=hsub;have f:=tc_notTuple;obtain⟨oc,odi,oda,osl⟩:=oe;dsimp only at hcl;subst hcl;unfold excMatches
 repeat (first|with_reducible refine wpAny_loadPart_at he ?_|with_reducible refine wpAny_loadPart_at hD ?_|with_reducible refine wpAny_loadPart_at hC ?_|(with_reducible refine wpAny_isSubtype_exc hD ?_;rw[cB])|(with_reducible refine wpAny_isSubtype_exc hC ?_;rw[cD])|wp_step)
 exact hq
end
end ShX
end
section
namespace ShX
open PySem PySem.Spec PyProof.Rows L2
def GB(e C t:Addr)(dct:Option Addr):HO:=HO.ext λh=>h.get? e=some (bH C t dct)
structure Lf(K:PySem.W.Frag)(C:Addr):Prop where
 ex:Ft K C=true
 only:(PySem.W.clsIn K C).any (λcd=>pV cd.mro&&cd.hasDict)=true
 sa:PySem.W.findIn K (.ref C) "__setattr__"=some (some (.builtin "object.__setattr__"))
 ga:PySem.W.findIn K (.ref C) "__getattribute__"=some (some (.builtin "BaseException.__getattribute__"))
 gt:PySem.W.findIn K (.ref C) "__getattr__"=some none
 num:PySem.W.findIn K (.ref C) "number"=some none
 UM:PySem.W.mroIn K C (.type "BaseException")=some true
theorem QX{P:Program}{w:World}{H:Hp}{h:Heap}{e C t:Addr}{dct:Option Addr}(q:h.get? e=some (bH C t dct)):di P w H h e (GB e C t dct):=
 ⟨q,⟨_,q⟩,λ_ _ a k=>k _ a⟩
theorem N6{P:Program}{w:World}{H:Hp}{h:Heap}{a:Addr}:∀{o:HO},di P w H h a o->∃u,h.get? a=some u:=by
 intro o x;cases o with
 |lst xs=>obtain⟨_,_,_,_,e⟩:=x;exact⟨_,e⟩
 |tup xs=>obtain⟨_,_,_,ob,e,_⟩:=x;exact⟨_,e⟩
 |dK kvs=>obtain⟨_,_,_,_,o,_,_,e,_⟩:=x;exact⟨_,e⟩
 |dT kvs=>obtain⟨_,_,_,_,o,_,_,e,_⟩:=x;exact⟨_,e⟩
 |set S n=>obtain⟨o,_,_,_,e,_⟩:=x;exact⟨_,e⟩
 |ins C dx fs=>obtain⟨_,_,_,e,_⟩:=x;exact⟨_,e⟩
 |own y=>exact x
 |xd fs=>obtain⟨_,⟨_,_,_,e,_⟩,_⟩:=x;exact⟨_,e⟩
 |IQ lo hi=>obtain⟨_,_,_,e⟩:=x;exact⟨_,e⟩
 |jb ob u=>obtain⟨e,_⟩:=x;exact⟨_,e⟩
 |qX ps=>exact⟨_,(show h.get? a=some _ from x)⟩
 |met f y=>exact⟨_,(show h.get? a=some _ from x)⟩
 |ext φ=>obtain⟨_,e,_⟩:=x;exact e
section
variable{X:Cx}{pins:fZ}{σ:L2.St}{H:Hp}{s:Shared}
def S4(K:PySem.W.Frag)(ta tv:TE):TS:=λD σ H=>tv σ H λy H1=>ta σ H1 λx H2=>∃e C t,x= .ref e/\H2 e=some (GB e C t none)/\Lf K C/\
 ∀dx,H2 dx=none->dx≠e->D.nx σ (upd (upd H2 e (GB e C t (some dx))) dx (.xd [("number",y)]))
theorem Qp{o value:Expr}{pos pos':Pos}{ta tv:TE}(ha:PE X o ta)(hv:PE X value tv)(hs:swapsWith value (some (.Attribute o "number" pos')) pos.line X.env=pure false):PS X (.Assign [.Attribute o "number" pos'] value pos) (S4 X.K ta tv):=by
 intro pins s σ H D I h;refine plainObj_wpAny_Assign_Attribute (dh (hv pins s σ H _ I h) λu s1 ⟨y,H1,I1,ry,q⟩=>dh (ha pins s1 σ H1 _ I1 q) λov s2 ⟨x,H2,I2,rx,e,C,t,ex,ea,c,q2⟩=>?_) hs;subst ex;obtain rfl:ov=Value.ref e:=rx;have he:s2.heap.get? e=some (bH C t none):=(I2.bS e _ ea).1;refine Py I2.vS he c.only c.sa c.num λh' kp ne ge hn=>?_;generalize hdx:s2.heap.objs.size=dx at ge hn ne;have fd:H2 dx=none:=I2.bS.fresh (by rw[hdx];exact le_refl _);have lt:∀b u,s2.heap.get? b=some u->b≠dx:=λb u q=>by rw[<-hdx];exact ne_of_lt (lt_size q)
 have nxt:∀b u,H2 b=some u->(∀φ,u≠.ext φ)->b≠e:=λb u q nz z=>by
  subst z;rw[ea]at q;exact nz _ (Option.some.inj q).symm
 have at':∀b,b≠e->b≠dx->(upd (upd H2 e (GB e C t (some dx))) dx (.xd [("number",y)])) b=H2 b:=λb h1 h2=>by rw[ak h2,ak h1]
 have U:Un X.fs [] H2 (upd (upd H2 e (GB e C t (some dx))) dx (.xd [("number",y)])) s2.heap h':=by
  have nn:∀b,H2 b=none->b≠e:=λb q z=>by rw[z,ea]at q;cases q
  refine⟨λb o q n _ _=>kp b o (nn b n) q,λb o q n _ _=>⟨o.slots,kp b o (nn b n) q⟩,λb o q n _=>by rw[at' b (nn b n) (lt b o q)];exact n,λb o q _=>?_,λb xs q=>?_,λb o u q=>?_,λb ps q=>⟨#[],?_⟩⟩
  ·by_cases z:b=e
   ·subst z;exact⟨_,ge⟩
   ·exact⟨_,kp b o z q⟩
  ·rw[at' b (nxt b _ q λφ z=>nomatch z) (aq q fd)];exact q
  ·rw[at' b (nxt b _ q λφ z=>nomatch z) (aq q fd)];exact q
  ·rw[at' b (nxt b _ q λφ z=>nomatch z) (aq q fd),q];simp
 have OK:qY X.prog X.w (upd (upd H2 e (GB e C t (some dx))) dx (.xd [("number",y)])) h':=by
  intro b o q;by_cases z1:b=dx
  ·subst z1;rw[af]at q;cases q;refine⟨_,hn,λf=>?_⟩;by_cases zf:f="number"
   ·subst zf;rw[if_pos rfl];exact ry
   ·rw[if_neg zf];have:(f==("number":Str))=false:=beq_eq_false_iff_ne.mpr zf;simp only[List.lookup,this];exact True.intro
  ·by_cases z2:b=e
   ·subst z2;rw[ak z1,af]at q;cases q;exact QX ge
   ·rw[at' b z2 z1]at q;refine(I2.bS b o q).m8 (λc u hc r=>kp c u ?_ r) (λc r=>?_) λc xs r=>?_
    ·rcases hc with hc|hc
     ·rw[hc];exact z2
     ·exact nxt c _ hc λφ z=>nomatch z
    ·rw[at' c (nxt c _ r λφ z=>nomatch z) (aq r fd)];exact r
    ·rw[at' c (nxt c _ r λφ z=>nomatch z) (aq r fd)];exact r
 exact⟨σ,_,I2.un (t':=s2.toks+2) U OK,q2 dx fd ne⟩
theorem pZ{CX:IT}{k:Nat}{f C:Addr}{fd:FuncData}{ps:List Str}{sp:Sp}{dvs:List V}{ds:List Value}{E:XK}{x m:Str}{p pos apos:Pos}{e:Expr}{es:List Expr}{t:TA}{pl:Sem Bool}{mc:Value}
  (F:aT X.prog X.w X.K X.mg X.base CX k f fd ps sp) (hr:iu k X.A) (hg:Gl X x) (hm:X.mg x=some (.ref C)) (hsp:specialIn X.K (.ref C) "__getattribute__"=some (some (.builtin "type.__getattribute__")))
  (hrd:readsIn X.K C mc=true) (hfc:findCls X.K (.ref C) mc m=some (.val (.ref f))) (hk:keepIn X.K (.ref f)=true) (hb:Binds X.K fd ps ds) (hd:Vals dvs ds) (hx:Passes CX X E)
  (ha:PA X (e::es) t) (hdb:(x==("__debug__":Str))=false:=by decide) (hst:starEach (e::es) X.env=(false,eval e X.env)::starEach es X.env:=by rfl) (hpl:(backTo pos (starEach es X.env)).any (·.1)=false:=by rfl)
  (ht:eval (.Call (.Attribute (.Name x p) m apos) (e::es) [] pos) X.env=(do
   let ov<-eval (.Name x p) X.env
   standAt apos.atName
   let (f,first)<-holding [ov] (getMethod ov m pl)
   callWith pos f first (backTo pos (starEach (e::es) X.env)) (backToKw pos (keywordEach [] X.env))):=by rfl):
  PE X (.Call (.Attribute (.Name x p) m apos) (e::es) [] pos) (Q4 sp dvs E t):=by
 intro pins s σ H Q I h;refine methodCall_KW (pl:=pl) (pS I hg hm ?_ hdb) ht;refine PySem.W.method_cls I.vS hsp (PySem.W.cls_value I.vS hrd hfc rfl ?_);have I1:Inv X pins σ H {s with toks:=s.toks+1}:=I.tok _;refine callWith_K (first:=[]) (h₀:=X.base) I.ok.mod.RJ hk (dh (ha pos pins _ σ H _ I1 h) λus s2 ⟨vs,H2,I2,r,q2⟩=>⟨I2.vS,?_⟩) hst hpl;exact F6 (us:=us) (vs:=vs) F hr hb hd hx I2 r q2
end
def kJ(P:Program)(w:World):IT:=λouter H s E e s'=>∃(ea dx C T:Addr)(H':Hp)(fs:List (Str×V)),e= .ref ea/\s'.os=s.os/\AllBare s'.gens/\Un (AX outer) [] H H' s.heap s'.heap/\qY P w H' s'.heap/\
 H' ea=none/\H' T=none/\(s.heap.objs.size<=ea/\s.heap.objs.size<=T)/\H' dx=some (.xd fs)/\
 (∃(oe:Obj)(vs:Array Value)(oT:Obj)(ts:Array Value),s'.heap.get? ea=some oe/\oe.cls= .ref C/\oe.dict=some dx/\oe.data= .fields vs/\vs[1]?=some (.ref T)/\T≠ea/\s'.heap.get? T=some oT/\oT.data= .fields ts/\ts[3]?=some .none)/\
 E (.ref C) (some dx) H'
structure Own(X:Cx)(E:XK):Prop where
 ex:X.ex=[]
 Gp:X.stack=X.env::X.outer
 fr:X.env.frame=some X.env.locals
 xe:X.xe=λe s'=>wpAny (model X.prog X.w) X.A (leaving X.env e) (λ_ s''=>kJ X.prog X.w X.outer X.My X.oV E e s'') (λe' s''=>kJ X.prog X.w X.outer X.My X.oV E e' s'') s'
section
variable{X:Cx}{pins:fZ}{σ:L2.St}{H:Hp}{s:Shared}{E:XK}{e dx C:Addr}{fs:List (Str×V)}
theorem sg{env:Env}{outer:List Env}{L:Addr}(h:env.frame=some L):AX (env::outer)=L::AX outer:=by
 unfold AX;rw[filterMap_cons,h]
theorem PD(O:Own X E)(I:Inv X pins σ H s){hid:List Addr}{h':Heap}(hh:∀b∈hid,H b=none/\X.oV.heap.objs.size<=b)(he:e∈hid)
  (y:J5 X.oV.heap.objs.size (hideAll s.heap ((X.env.locals::X.fs)++hid)) X.outer e (.ref C) (some dx) .none h') (up:s.heap.UpToSlots h') (hd:H dx=some (.xd fs)) (q:E (.ref C) (some dx) H):
  kJ X.prog X.w X.outer X.My X.oV E (.ref e) {s with heap:=h'}:=by
 have B:=I.base;rw[O.ex]at B;have young:∀b o,X.oV.heap.get? b=some o->b≠X.env.locals:=λb o z=>ne_of_lt (lt_of_lt_of_le (lt_size z) I.ok.above)
 have kp:∀b o,s.heap.get? b=some o->b≠X.env.locals->b∉X.fs->b∉hid->h'.get? b=some o:=λb o z n1 n2 n3=>y.m8 b o (hideAll_get _ z λm=>by
  rcases mem_append.mp m with m|m
  ·rcases mem_cons.mp m with m|m
   ·exact n1 m
   ·exact n2 m
  ·exact n3 m)
 have nh:∀b o,X.oV.heap.get? b=some o->b∉hid:=λb o z m=>absurd (lt_of_lt_of_le (lt_size z) (hh b m).2) (lt_irrefl _);have Sk:∀b u,H b=some u->b≠X.env.locals/\b∉X.fs/\b∉hid:=λb u z=>by
  refine⟨λm=>?_,λm=>?_,λm=>?_⟩
  ·rw[m,I.free]at z;cases z
  ·have:=I.A4 b (by rw[O.Gp,sg O.fr];exact mem_cons_of_mem _ m);rw[this]at z;cases z
  ·rw[(hh b m).1]at z;cases z
 obtain⟨oe,vs,T,oT,ts,ge,ec,ed,de,v1,nT,loT,neT,gT,dT,t3⟩:=y.Tr.ex;have Tfree:∀u,s.heap.get? T=some u->T∈hid:=λu z=>by
  by_cases m:T∈(X.env.locals::X.fs)++hid
  ·rcases mem_append.mp m with m|m
   ·exfalso;have ff:T∈AX X.stack:=by rw[O.Gp,sg O.fr];exact m
    obtain⟨_,o,ho,nf⟩:=I.stack.mem ff;obtain⟨sl,g2⟩:=up T o ho nf;rw[gT]at g2;cases g2;exact nf ts dT
   ·exact m
  ·rw[hideAll_get _ z m]at nT;cases nT
 have HT:H T=none:=by
  cases z:H T with
  |none=>rfl
  |some u=>
   obtain⟨v,hv⟩:=N6 (I.bS T u z);have:=(hh T (Tfree v hv)).1;rw[this]at z;cases z
 refine⟨e,dx,C,T,H,fs,rfl,I.os,I.bare,⟨λb o z n hb hx=>?_,λb o z n hb hx=>?_,λb o z n hx=>B.free b o z n hx,λb o z hx=>?_,B.AQ,B.wQ,B.yI⟩,λb o z=>?_,(hh e he).1,HT,⟨(hh e he).2,loT⟩,hd,⟨oe,vs,oT,ts,ge,ec,ed,de,v1,neT,gT,dT,t3⟩,q⟩
 ·exact kp b o (B.keep b o z n hb hx) (young b o z) hb (nh b o z)
 ·obtain⟨sl,z1⟩:=B.slot b o z n hb hx;have ff:b∈AX X.stack:=by rw[O.Gp,sg O.fr];exact mem_cons_of_mem _ hb
  obtain⟨_,o2,ho2,nf⟩:=I.stack.mem ff;obtain⟨sl2,g2⟩:=up b o2 ho2 nf;rw[z1]at ho2;cases ho2;exact⟨sl2,g2⟩
 ·obtain⟨o1,z1⟩:=B.there b o z hx;by_cases hb:b∈X.fs
  ·have ff:b∈AX X.stack:=by rw[O.Gp,sg O.fr];exact mem_cons_of_mem _ hb
   obtain⟨_,o2,ho2,nf⟩:=I.stack.mem ff;obtain⟨sl2,g2⟩:=up b o2 ho2 nf;exact⟨_,g2⟩
  ·exact⟨_,kp b o1 z1 (young b o z) hb (nh b o z)⟩
 ·refine(I.bS b o z).m8 (λc u hc r=>?_) (λ_ r=>r) λ_ _ r=>r;have t:∃v,H c=some v:=by
   rcases hc with hc|hc
   ·exact⟨o,by rw[hc];exact z⟩
   ·exact⟨_,hc⟩
  obtain⟨v,hv⟩:=t;obtain⟨t1,t2,t3⟩:=Sk c v hv;exact kp c u r t1 t2 t3
end
end ShX
end
section
namespace ShX
open PySem PySem.Spec PyProof.Rows L2
def Im(K:PySem.W.Frag)(n:Int):Sp:=λvs H Q _=>∃e C t,vs=[.ref e]/\H e=some (GB e C t none)/\Lf K C/\∀dx,H dx=none->dx≠e->Q .gc (upd (upd H e (GB e C t (some dx))) dx (.xd [("number",.int n)]))
def Uk(K:PySem.W.Frag):Sp:=λvs H Q _=>∃e C t n,vs=[.ref e,.int n]/\H e=some (GB e C t none)/\Lf K C/\∀dx,H dx=none->dx≠e->Q .gc (upd (upd H e (GB e C t (some dx))) dx (.xd [("number",.int n)]))
section
variable{X:Cx}{pins:fZ}{σ:L2.St}{H:Hp}{s:Shared}{E:XK}{e dx C:Addr}
def Ha(H:Hp)(e:Addr):Hp:=λb=>if b=e then none else H b
theorem kq{H:Hp}{e b:Addr}(h:b≠e):Ha H e b=H b:=if_neg h
theorem BE{H:Hp}{e:Addr}:Ha H e e=none:=if_pos rfl
theorem Inv.forget(I:Inv X pins σ H s){φ:Heap->Prop}(he:H e=some (.ext φ)):Inv X pins σ (Ha H e) s:=by
 have ne:∀b u,H b=some u->(∀ψ,u≠.ext ψ)->b≠e:=λb u q nz z=>by
  subst z;rw[he]at q;exact nz _ (Option.some.inj q).symm
 have no:∀b,H b=none->Ha H e b=none:=λb h=>by
  by_cases z:b=e
  ·rw[z];exact BE
  ·rw[kq z];exact h
 refine⟨I.ok,I.os,I.bare,⟨I.base.keep,I.base.slot,λb o q n hx=>no b (I.base.free b o q n hx),I.base.there,λb xs q=>?_,λb o u q=>?_,λb ps q=>?_⟩,I.loc,I.cell,no _ I.free,λx c q=>no _ (I.kX x c q),λp hp=>?_,λb o q=>?_,I.len⟩
 ·have z:=I.base.AQ b xs q;rw[kq (ne b _ z λψ y=>nomatch y)];exact z
 ·have z:=I.base.wQ b o u q;rw[kq (ne b _ z λψ y=>nomatch y)];exact z
 ·obtain⟨m,z⟩:=I.base.yI b ps q;exact⟨m,by rw[kq (ne b _ z λψ y=>nomatch y)];exact z⟩
 ·obtain⟨a,b,c⟩:=I.pin p hp;exact⟨a,no _ b,c⟩
 ·by_cases z:b=e
  ·rw[z,BE]at q;cases q
  ·rw[kq z]at q;refine(I.bS b o q).m8 (λ_ _ _ r=>r) (λc r=>?_) λc xs r=>?_
   ·rw[kq (ne c _ r λψ y=>nomatch y)];exact r
   ·rw[kq (ne c _ r λψ y=>nomatch y)];exact r
def QJ(C:Addr)(n:Int)(E:XK):TS:=λ_ _ H=>∀dx,H dx=none->E (.ref C) (some dx) (upd H dx (.xd [("number",.int n)]))
structure Pg(K:PySem.W.Frag)(C f:Addr):Prop where
 cl:Lf K C
 init:PySem.W.findIn K (.ref C) "__init__"=some (some (.ref f))
 fn:isFn K (.ref f)=true
 kp:keepIn K (.ref C)=true
end
end ShX
end
section
namespace ShX
open PySem PySem.Spec PyProof.Rows L2
structure GF(X:Cx):Prop where
 ex:X.ex=[]
 Gp:X.stack=X.env::X.outer
 fr:X.env.frame=some X.env.locals
section
variable{X:Cx}{pins:fZ}{σ:L2.St}{H:Hp}{s:Shared}{E:XK}{e dx C:Addr}
theorem Inv.blank{h':Heap}{m':rn}{t':Nat}(I:Inv X pins σ H s)(hn':h'.Ns X.env.locals m')(hs:Heap.SameBut X.env.locals s.heap h'):Inv X pins (replicate X.N.length none) H {s with heap:=h',toks:=t'}:=by
 have M9:=I.M9;refine⟨I.ok,I.os,I.bare,⟨λb o q n hb hx=>?_,λb o q n hb hx=>?_,I.base.free,λb o q hx=>?_,I.base.AQ,I.base.wQ,I.base.yI⟩,⟨m',hn',λj y v e1 e2 e3=>?_⟩,λy c q=>?_,I.free,I.kX,λp hp=>?_,λb ob q=>?_,by simp⟩
 ·exact(hs.2 b (ne_of_lt (lt_of_lt_of_le (lt_size q) I.ok.above))).trans (I.base.keep b o q n hb hx)
 ·obtain⟨sl,e1⟩:=I.base.slot b o q n hb hx;exact⟨sl,(hs.2 b (ne_of_lt (lt_of_lt_of_le (lt_size q) I.ok.above))).trans e1⟩
 ·obtain⟨o',e1⟩:=I.base.there b o q hx;exact⟨o',(hs.2 b (ne_of_lt (lt_of_lt_of_le (lt_size q) I.ok.above))).trans e1⟩
 ·rw[List.getElem?_replicate]at e2
  split at e2
  ·cases e2
  ·cases e2
 ·obtain⟨w',z⟩:=I.cell y c q;exact⟨w',z.sameBut hs (M9 y c q)⟩
 ·obtain⟨a,n,ne,nf,d⟩:=I.pin p hp;exact⟨(hs.2 p.1 ne).trans a,n,ne,nf,d⟩
 ·refine(I.bS b ob q).m8 (λc w' hc r=>(hs.2 c ?_).trans r) (λ_ r=>r) λ_ _ r=>r;rintro rfl;rcases hc with hc|hc
  ·rw[<-hc,I.free]at q;cases q
  ·rw[I.free]at hc;cases hc
theorem Ks(O:GF X)(I:Inv X pins σ H s){hid:List Addr}{h':Heap}{lo:Nat}{l:List Env}{cls fl:Value}{dct:Option Addr}
  (hh:∀b∈hid,H b=none/\X.oV.heap.objs.size<=b/\b≠X.env.locals/\(∀x c,X.env.cells.lookup x=some c->c≠b)/\∀p∈X.pn++pins,p.1≠b)
  (y:J5 lo (hideAll s.heap ((X.env.locals::X.fs)++hid)) l e cls dct fl h') (up:s.heap.UpToSlots h'):Inv X pins σ H {s with heap:=h'}:=by
 have sf:AX X.stack=X.env.locals::X.fs:=by rw[O.Gp,sg O.fr]
 have kp:∀b o,s.heap.get? b=some o->b∉AX X.stack->b∉hid->h'.get? b=some o:=λb o z n1 n3=>y.m8 b o (hideAll_get _ z λm=>by
  rcases mem_append.mp m with m|m
  ·rw[<-sf]at m;exact n1 m
  ·exact n3 m)
 have sl:∀b o,s.heap.get? b=some o->b∈AX X.stack->∃sl,h'.get? b=some {o with slots:=sl}:=λb o z m=>by
  obtain⟨_,o2,ho2,nf⟩:=I.stack.mem m;rw[z]at ho2;cases ho2;exact up b o z nf
 refine I.call (g':=s.gens) (d':=s.drawn) (t':=s.toks) (ch:=hid) ⟨λb o z _ hb hx=>kp b o z hb hx,λb o z _ hb _=>sl b o z hb,λ_ _ _ n _=>n,λb o z hx=>?_,λ_ _ q=>q,λ_ _ _ q=>q,λ_ ps q=>⟨#[],by rw[q];simp⟩⟩ (λb o z=>?_) I.bare λb hb=>?_
 ·by_cases m:b∈AX X.stack
  ·obtain⟨q,z2⟩:=sl b o z m;exact⟨_,z2⟩
  ·exact⟨_,kp b o z m hx⟩
 ·refine(I.bS b o z).m8 (λc u hc r=>?_) (λ_ r=>r) λ_ _ r=>r;have t:∃v,H c=some v:=by
   rcases hc with hc|hc
   ·exact⟨o,by rw[hc];exact z⟩
   ·exact⟨_,hc⟩
  obtain⟨v,hv⟩:=t;refine kp c u r (λm=>?_) λm=>?_
  ·rw[I.A4 c m]at hv;cases hv
  ·rw[(hh c m).1]at hv;cases hv
 ·obtain⟨_,b2,b3,b4,b5⟩:=hh b hb;exact⟨.inr b2,b3,b4,b5⟩
abbrev Cx.at_(X:Cx)(A:Around):Cx:={X with A:=A,calm:=false}
theorem Inv.at_(I:Inv X pins σ H s){A:Around}(hA:A.frames=X.A.frames):Inv (Cx.at_ X A) pins σ H s:=
 ⟨⟨I.ok.mod,I.ok.kind,I.ok.glob,I.ok.blt,I.ok.above,I.ok.inj,I.ok.has,I.ok.Si,(λz=>nomatch z),hA.trans I.ok.frames,I.ok.Gp,I.ok.SD,I.ok.bs,I.ok.M3,I.ok.LX,I.ok.Ly,I.ok.yf,I.ok.QY⟩,I.os,I.bare,I.base,I.loc,I.cell,I.free,I.kX,I.pin,I.bS,I.len⟩
def EK(K:PySem.W.Frag)(R:Addr)(rt:VK):XK:=λcls dct H'=>∃C d n,cls= .ref C/\dct=some d/\H' d=some (.xd [("number",.int n)])/\Lf K C/\PySem.W.mroIn K C (.ref R)=some true/\∀p,H' p=none->rt (.ref p) (upd H' p (.lst [.int n]))
theorem Rr{R:Addr}{x n:Str}{np hpos rpos lpos apos ep:Pos}{j:Nat}{D:Ends}{ev:Value}{s':Shared}(O:GF X)(I:Inv X pins σ H s)(hN:X.N.Nodup)(hj:X.N[j]?=some n)(hl:X.env.scope.names.lookup n=some .local)
  (hg:Gl X x) (hm:X.mg x=some (.ref R)) (hR:Ft X.K R=true) (hb:∀p,attributeBase (.Name n p) "number" X.env (eval (.Name n p) X.env)=eval (.Name n p) X.env)
  (hdx:(x==("__debug__":Str))=false) (hdn:(n==("__debug__":Str))=false)
  (hst:∀a q,starEach [Expr.Attribute (.Name n a) "number" q] X.env=[(false,eval (.Attribute (.Name n a) "number" q) X.env)])
  (q:kJ X.prog X.w X.stack H s (EK X.K R D.rt) ev s'):
  wpAny (model X.prog X.w) X.A (noteFrame ev X.env) (λ_ s₂=>wpAny (model X.prog X.w) X.A (setFlight ev none) (λ_ s₃=>
   wpAny (model X.prog X.w) X.A (handleBy ev X.env [.ExceptHandler (some (.Name x np)) (some n) [.Return (some (.List [.Attribute (.Name n ep) "number" apos] lpos)) rpos] hpos]) (SP X pins D) X.xe s₃) X.xe s₂) X.xe s':=by
 obtain⟨ea,dx,C,T,H',fs,rfl,os,bare,un,bS,ne,nT,nold,hd,⟨oe,vs,oT,ts,ge,ec,ed,de,v1,neT,gT,dT,t3⟩,C',d',num,e1,e2,e3,cl,sub,fin⟩:=q;cases e1;cases e2;rw[hd]at e3;cases e3;have I':Inv X pins σ H' s':=I.M7 (ch:=[]) os un bS bare λb z=>absurd z (by simp);have fr:X.A.frames=some (X.env::X.outer):=by rw[I.ok.frames,O.Gp]
 have st:=I'.stack;rw[O.Gp]at st;have big:∀b,s.heap.objs.size<=b->H' b=none->H' b=none/\X.oV.heap.objs.size<=b/\b≠X.env.locals/\(∀y c,X.env.cells.lookup y=some c->c≠b)/\∀p∈X.pn++pins,p.1≠b:=λb hb n=>by
  refine⟨n,le_trans I.sz hb,ne_of_gt (lt_of_lt_of_le I.lt hb),λy c z m=>?_,λp hp m=>?_⟩
  ·obtain⟨v,q⟩:=I.cell y c z;exact absurd (lt_of_lt_of_le q.lt (by rw[m];exact hb)) (lt_irrefl _)
  ·exact absurd (lt_of_lt_of_le (lt_size (I.pin p hp).1) (by rw[m];exact hb)) (lt_irrefl _)
 have hh:∀b∈[ea,T],H' b=none/\X.oV.heap.objs.size<=b/\b≠X.env.locals/\(∀y c,X.env.cells.lookup y=some c->c≠b)/\∀p∈X.pn++pins,p.1≠b:=λb hb=>by
  have:b=ea\/b=T:=by simpa using hb
  rcases this with rfl|rfl
  ·exact big _ nold.1 ne
  ·exact big _ nold.2 nT
 have nea:ea≠X.env.locals:=(hh ea (by simp)).2.2.1;have y0:J5 X.oV.heap.objs.size (hideAll s'.heap ((X.env.locals::X.fs)++[ea,T])) (X.env::X.outer) ea (.ref C) (some dx) .none s'.heap:=by
  refine⟨λb o z=>of_hideAll _ z,hideAll_none _ (by simp),funFrames_hide st λenv hm a ha=>?_,⟨oe,vs,T,oT,ts,ge,ec,ed,de,v1,hideAll_none _ (by simp),le_trans I.sz nold.2,neT,gT,dT,t3⟩⟩;refine mem_append_left _ ?_;rcases mem_cons.mp hm with rfl|hm
  ·rw[O.fr]at ha;cases ha;exact mem_cons_self
  ·exact mem_cons_of_mem _ (mem_filterMap.mpr ⟨env,hm,ha⟩)
 refine KN I'.sz fr O.fr y0 λh4 y4 up4=>land (s:={s' with heap:=h4}) y4 λh5 y5 up5=>?_;have I5:Inv X pins σ H' {s' with heap:=h5}:=Ks O I' hh y5 (up4.trans up5);have fA:(X.A.mark (some (Value.ref ea))).frames=X.A.frames:=rfl;obtain⟨oe5,vs5,T5,oT5,ts5,ge5,ec5,ed5,de5,_⟩:=y5.Tr.ex;obtain⟨cdC,hcC,YC⟩:=pK I5.vS cl.ex;obtain⟨cdR,hcR,YR⟩:=pK I5.vS hR;have hsub:cdC.mro.contains (.ref R)=true:=by
  unfold PySem.W.mroIn at sub;rw[hcC,bind_some]at sub
  split at sub
  ·cases sub
  ·exact Option.some.inj sub
 refine wpAny_handleBy_cons (codeAny_handlers_test (pS (X:=Cx.at_ X (X.A.mark (some (Value.ref ea)))) (Inv.at_ I5 fA) hg hm ?_ hdx)) (by intro z;cases z);refine Lx (s:={s' with heap:=h5}) YC YR ge5 ec5 hsub (codeAny_handlers_suite_as ?_);refine land (s:={s' with heap:=h5}) y5 λh6 y6 up6=>?_;have I6:Inv X pins σ H' {s' with heap:=h6}:=Ks O I' hh y6 ((up4.trans up5).trans up6);obtain⟨oe6,vs6,T6,oT6,ts6,ge6,ec6,ed6,de6,_⟩:=y6.Tr.ex;refine yH (v:=V.ref ea) I6 hN hj (.inl hl) rfl (λs7 I7 ⟨a,sb,ha⟩=>?_) (.inr hl);have na:ea≠a:=by
  rcases ha with z|z
  ·rw[z];exact nea
  ·exact Ne.symm ((hh ea (by simp)).2.2.2.1 n a z)
 have ge7:s7.heap.get? ea=some oe6:=(sb.2 ea na).trans ge6;obtain⟨m7,hn7,hl7⟩:=id I7.loc;have jl:j<σ.length:=by rw[I6.len];exact(List.getElem?_eq_some_iff.mp hj).1
 obtain⟨u7,r7,k7⟩:=hl7 j n (V.ref ea) hj (getElem?_set_self jl) (.inl hl);obtain rfl:u7=Value.ref ea:=r7;have lk:X.env.kindOf n=some .local/\m7 n=some (Value.ref ea):=by
  rcases k7 with z|⟨z,_⟩
  ·exact z
  ·exfalso;have q:X.env.kindOf n=some .local:=hl;rcases z with z|z
   ·rw[q]at z;cases z
   ·rw[q]at z;cases z
 obtain⟨mA,nsA,relA⟩:=(show di X.prog X.w H' s7.heap dx (.xd [("number",.int num)])from I7.bS dx _ hd)
 obtain⟨od,hod,hlo⟩:=Eu nsA;obtain⟨un,hun,run⟩:=qZ.some_of (v:=V.int num) (o:=mA "number") (relA "number");have inst:PySem.W.InstAt s7.heap ea oe6 C (some od):=⟨ge7,ec6,by unfold PySem.W.notCls;rw[de6],by rw[ed6];exact hod⟩
 have hdC:hasDictIn X.K C=true:=by
  obtain⟨cd,h1,h2⟩:=PySem.W.any_some cl.only;unfold hasDictIn;rw[h1];exact(and_eq_true _ _▸h2:_/\_).2
 refine wpAny_execs_cons (wpAny_Return_some (wpAny_List_spliced ?_));rw[hst];show wpAny _ _ (spliced ((false,eval (.Attribute (.Name n ep) "number" apos) X.env)::[])) _ _ s7;refine Calls.spliced_cons (Ka (hb ep) (wpAny_Name (wpAny_loadName_local I7.ok.kind lk.1 hn7 lk.2 ?_) hdn));refine Pw I7.vS inst cl.ga cl.gt cl.UM (findObj_own hdC cl.num rfl (by rw[hlo,hun])) (Er run) ?_;refine Calls.spliced_nil ⟨by show 1<=sizeLine;decide,?_⟩;have I8:Inv X pins (σ.set j (some (V.ref ea))) H' {s7 with toks:=s7.toks+1}:=I7.tok _;have fp:H' s7.heap.objs.size=none:=I8.bS.fresh (le_refl _);have I9:Inv X pins (σ.set j (some (V.ref ea))) (upd H' s7.heap.objs.size (.lst [.int num])) {s7 with toks:=s7.toks+1,heap:=s7.heap.push {cls:= .type "list",data:= .seq [un].toArray}}:=
  I8.laid (t':=s7.toks+1) (λb u z=>get?_push_of_some _ z) (le_refl _) ⟨by show 1<=sizeLine;decide,[un],0,.cons run .nil,get?_push_size _ rfl⟩
 obtain⟨m9,hn9,_⟩:=id I9.loc;have hcls:(X.env.scope.kind== .class||(X.env.scope.kind== .module&&X.env.locals !=X.env.globals))=false:=by rw[I.ok.kind];rfl
 refine wpAny_nameGoes lk.1 hn9 hcls λh' m' hn' sb'=>?_;exact⟨.ref s7.heap.objs.size,_,_,Inv.blank I9 hn' sb',rfl,fin _ fp⟩
end
end ShX
end
section
namespace ShX
open PySem PySem.Spec PyProof.Rows L2
section
variable{lo:Nat}{M:Model}{A:Around}{E:iE}{s:Shared}{B:Heap}{env:Env}{outer l:List Env}{L e:Addr}{cls:Value}{dct:Option Addr}
theorem R7{fl:Value}{fr:Option Addr}{Q:Unit->Shared->Prop}(y:J5 lo B l e cls dct fl s.heap)(fin:∀h',J5 lo B l e cls dct (fr.elim Value.none λf=>rawInt f) h'->s.heap.UpToSlots h'->Q () {s with heap:=h'}):wpAny M A (setFlight (.ref e) fr) Q E s:=by
 obtain⟨kb,ne,ff,⟨oe,vs,T,oT,ts,ge,ec,ed,de,v1,nT,loT,neT,gT,dT,t3⟩⟩:=y;have s3:3<ts.size:=(Array.getElem?_eq_some_iff.mp t3).1;have oth:∀b,b≠T->(s.heap.update T (Obj.mapFields (·.setIfInBounds 3 (fr.elim Value.none λf=>rawInt f)))).get? b=s.heap.get? b:=λb hb=>get?_update_other _ _ (Ne.symm hb);have noRec:∀b o,s.heap.get? b=some o->(∀ws,o.data≠.fields ws)->b≠T:=by
  intro b o hb nf q;subst q;rw[gT]at hb;cases hb;exact nf ts dT
 unfold setFlight;refine wpAny_bind (wpAny_field ge de v1 ?_);rw[if_pos (by simp)]
 refine wpAny_setField gT dT s3 (fin _ ⟨λb o hb=>(oth b λq=>?_).trans (kb b o hb),ne,ff.of_keeps λb o hb nf=>⟨o,(oth b (noRec b o hb nf)).trans hb,rfl⟩,
  ⟨oe,vs,T,_,_,(oth e (Ne.symm neT)).trans ge,ec,ed,de,v1,nT,loT,neT,get?_update_self _ gT (Obj.isFreed_of_fields (Obj.data_mapFields dT _)),Obj.data_mapFields dT _,by simp[s3]⟩⟩ λb o hb nf=>⟨o.slots,(oth b (noRec b o hb nf)).trans hb⟩)
 subst q;rw[nT]at hb;cases hb
theorem LY{Q:Unit->Shared->Prop}(ef:env.frame=some L)(y:J5 lo B l e cls dct (rawInt L) s.heap)(q:Q () s):wpAny M A (noteFrame (.ref e) env) Q E s:=by
 obtain⟨kb,ne,ff,⟨oe,vs,T,oT,ts,ge,ec,ed,de,v1,nT,loT,neT,gT,dT,t3⟩⟩:=y;unfold noteFrame;simp only[ef];refine wpAny_bind (wpAny_field ge de v1 ?_);rw[if_pos (by simp)];refine wpAny_bind (wpAny_field gT dT t3 ?_);rw[if_pos (by simp[rawInt])];exact wpAny_pure q
theorem LC{Q:iE}{fl:Value}(y:J5 lo B l e cls dct fl s.heap)(q:∀T,Q (.ref T) s):wpAny M A (field (.ref e) 1) Q E s:=by
 obtain⟨kb,ne,ff,⟨oe,vs,T,oT,ts,ge,ec,ed,de,v1,nT,loT,neT,gT,dT,t3⟩⟩:=y;exact wpAny_field ge de v1 (q T)
end
def Sn(X:Cx)(E:XK)(ev:Value)(s2:Shared):Prop:=∃(pins:fZ)(σ:L2.St)(H:Hp)(s0:Shared)(hid:List Addr)(e dx C:Addr)(fs:List (Str×V))(h2:Heap),ev= .ref e/\Inv X.Q0 pins σ H s0/\(∀b∈hid,H b=none/\X.oV.heap.objs.size<=b)/\e∈hid/\
 s2={s0 with heap:=h2}/\J5 X.oV.heap.objs.size (hideAll s0.heap ((X.env.locals::X.fs)++hid)) (X.env::X.outer) e (.ref C) (some dx) (rawInt X.env.locals) h2/\s0.heap.UpToSlots h2/\H dx=some (.xd fs)/\E (.ref C) (some dx) H
def XW(X:Cx)(E:XK):Value->Shared->Prop:=λev s'=>wpAny (model X.prog X.w) X.A (noteFrame ev X.env) (λ_ s2=>Sn X E ev s2) (λ_ _=>False) s'
def XL(X:Cx)(E:XK):Value->Shared->Prop:=λe s'=>wpAny (model X.prog X.w) X.A (leaving X.env e) (λ_ s''=>kJ X.prog X.w X.outer X.My X.oV E e s'') (λe' s''=>kJ X.prog X.w X.outer X.My X.oV E e' s'') s'
theorem RV{X:Cx}{E:XK}(O:GF X):Own (X.pB (XL X E)) E:=⟨O.ex,O.Gp,O.fr,rfl⟩
theorem XW.out{X:Cx}{E:XK}(O:GF X){ev:Value}{s':Shared}(h:XW X E ev s'):XL X E ev s':=by
 unfold XL leaving;refine wpAny_bind (wpAny_mono h (λ_ s2 q=>?_) λ_ _ z=>False.elim z);obtain⟨pins,σ,H,s0,hid,e,dx,C,fs,h2,rfl,I,hh,he,rfl,y,up,hd,q⟩:=q;refine land (s:={s0 with heap:=h2}) y λh3 y3 u3=>?_;exact PD (RV O) (Inv.pB I.ka _) hh he ⟨y3.m8,y3.new,y3.AX.2.2,y3.Tr⟩ (up.trans u3) hd q
structure Out(X:Cx)(E:XK):Prop where
 UP:GF X
 first:∀{pins:fZ}{σ:L2.St}{H:Hp}{s:Shared}{e dx C t:Addr}{fs:List (Str×V)},Inv X pins σ H s->s.heap.get? e=some (bH C t (some dx))->H e=none->X.oV.heap.objs.size<=e->H dx=some (.xd fs)->E (.ref C) (some dx) H->X.xe (.ref e) s
 pass:Passes (kJ X.prog X.w) X E
 own:PassesOwn (model X.prog X.w) X.A X.env X.xe
theorem RU{X:Cx}{E:XK}(O:GF X)(hx:X.xe=XW X E):Out X E:=by
 refine⟨O,λ{pins σ H s e dx C t fs}I ge ne n0 hd q=>?_,λpins σ H s ev s' I hc=>?_,λev s' h=>?_⟩
 ·rw[hx];have fr:X.A.frames=some (X.env::X.outer):=by rw[I.ok.frames,O.Gp]
  have st:=I.stack;rw[O.Gp]at st;refine Jz (lo:=X.oV.heap.objs.size) (B:=hideAll s.heap ((X.env.locals::X.fs)++[e])) fr (funFrames_hide st λenv hm a ha=>?_) O.fr ge (λb o z=>of_hideAll _ z) (hideAll_none _ (by simp)) rfl rfl rfl rfl I.sz λh' y up=>?_
  ·refine mem_append_left _ ?_;rcases mem_cons.mp hm with rfl|hm
   ·rw[O.fr]at ha;cases ha;exact mem_cons_self
   ·exact mem_cons_of_mem _ (mem_filterMap.mpr ⟨env,hm,ha⟩)
  ·exact⟨pins,σ,H,s,[e],e,dx,C,fs,h',rfl,I.pB _,λb hb=>(by have z:b=e:=(by simpa using hb);subst z;exact⟨ne,n0⟩),
    by simp,rfl,y,up,hd,q⟩
 ·rw[hx];obtain⟨ea,dx,C,T,H',fs,rfl,os,bare,un,bS,ne,nT,nold,hd,⟨oe,vs,oT,ts,ge,ec,ed,de,v1,neT,gT,dT,t3⟩,q⟩:=hc;have I':Inv X pins σ H' s':=I.M7 (ch:=[]) os un bS bare λb z=>absurd z (by simp);have fr:X.A.frames=some (X.env::X.outer):=by rw[I.ok.frames,O.Gp]
  have st:=I'.stack;rw[O.Gp]at st;have hh:∀b∈[ea,T],H' b=none/\X.oV.heap.objs.size<=b:=λb hb=>by
   have:b=ea\/b=T:=by simpa using hb
   rcases this with rfl|rfl
   ·exact⟨ne,le_trans I.sz nold.1⟩
   ·exact⟨nT,le_trans I.sz nold.2⟩
  refine KN (lo:=X.oV.heap.objs.size) (B:=hideAll s'.heap ((X.env.locals::X.fs)++[ea,T])) I'.sz fr O.fr ⟨λb o z=>of_hideAll _ z,hideAll_none _ (by simp),funFrames_hide st λenv hm a ha=>?_,⟨oe,vs,T,oT,ts,ge,ec,ed,de,v1,hideAll_none _ (by simp),le_trans I.sz nold.2,neT,gT,dT,t3⟩⟩ λh' y up=>?_
  ·refine mem_append_left _ ?_;rcases mem_cons.mp hm with rfl|hm
   ·rw[O.fr]at ha;cases ha;exact mem_cons_self
   ·exact mem_cons_of_mem _ (mem_filterMap.mpr ⟨env,hm,ha⟩)
  ·exact⟨pins,σ,H',s',[ea,T],ea,dx,C,fs,h',rfl,I'.pB _,hh,by simp,rfl,y,up,hd,q⟩
 ·rw[hx]at h⊢;refine wpAny_mono h (λ_ s2 q=>?_) λ_ _ z=>False.elim z;obtain⟨pins,σ,H,s0,hid,e,dx,C,fs,h2,rfl,I,hh,he,rfl,y,up,hd,q⟩:=q;unfold cameBackBy;refine wpAny_bind (LC (s:={s0 with heap:=h2}) y λT=>?_);rw[if_neg (by simp)];rw[O.fr];refine R7 (s:={s0 with heap:=h2}) y λh3 y3 u3=>?_;exact LY (s:={s0 with heap:=h3}) O.fr y3 ⟨pins,σ,H,s0,hid,e,dx,C,fs,h3,rfl,I,hh,he,rfl,y3,up.trans u3,hd,q⟩
theorem E3.ka{X:Cx}{E':iE}{st:List Stmt}{t:TS}(h:E3 (X.pB E') st t)(hE:∀e s',E' e s'->X.xe e s'):E3 X st t:=λpins s σ H D I hw=>
 wpAny_mono (h pins s σ H D (I.pB _) hw) (λ_ _ q=>q.ka) hE
theorem br{P:Program}{w:World}{K:PySem.W.Frag}{mg:rn}{base:Heap}{x qual:Str}{st:Stmt}{f:Addr}{fd:FuncData}{N ps:List Str}{k:Nat}{sp:Sp}(F:cP K x qual st f fd)(S:au N ps (aj st))(len:∀vs H Q E,sp vs H Q E->vs.length=ps.length)
  (hbody:∀(cdv:Value)(A:Around)(outer:List Env)(s:Shared)(H:Hp)(vs:List V)(Q:VK)(E:XK),iu k (A.deeper (envOfC qual (aj st) s.heap.objs.size f cdv))->sp vs H Q E->
   Out ((zY (kJ P w) P w K mg base N qual (aj st) f cdv A outer s H E).pB (XW (zY (kJ P w) P w K mg base N qual (aj st) f cdv A outer s H E) E)) E->
   ∃t,E3 ((zY (kJ P w) P w K mg base N qual (aj st) f cdv A outer s H E).pB (XW (zY (kJ P w) P w K mg base N qual (aj st) f cdv A outer s H E) E)) (jg st) t/\t {nx:=λ_ H'=>Q .gc H',rt:=Q} (start N vs) H):aT P w K mg base (kJ P w) (k+1) f fd ps sp:=by
 obtain⟨oc,od,kV,doc,pm,an,cdv,ct,osl,rfl,lk,hcd⟩:=F.ex;refine Np lk hcd S len λA outer s H vs Q E hr hsp=>?_;have O0:GF (zY (kJ P w) P w K mg base N qual (aj st) f cdv A outer s H E):=⟨rfl,rfl,rfl⟩
 obtain⟨t,h,q⟩:=hbody cdv A outer s H vs Q E hr hsp (RU ⟨rfl,rfl,rfl⟩ rfl);exact⟨t,E3.ka h λe s' z=>XW.out O0 z,q⟩
section
variable{X:Cx}{pins:fZ}{σ:L2.St}{H:Hp}{s:Shared}{E:XK}{e dx C:Addr}
theorem eK{f:Addr}{fd:FuncData}{k:Nat}{n:Int}{x:Str}{p cpos pos:Pos}(O:Out X E)(M:Pg X.K C f)(F:aT X.prog X.w X.K X.mg X.base gU k f fd ["self"] (Im X.K n))(hr:iu (k+1) X.A)(hb:Binds X.K fd ["self"] [])
  (hg:Gl X x) (hm:X.mg x=some (.ref C)) (hdb:(x==("__debug__":Str))=false:=by decide):PS X (.Raise (some (.Call (.Name x p) [] [] cpos)) none pos) (QJ C n E):=by
 intro pins s σ H D I h;refine MJ hr.hd (wpAny_Call_Name_kw (pS I hg hm ?_ hdb));refine callWith_K0 I.vS M.kp ?_;obtain⟨hh,g,d,tk,os⟩:=s;refine wpAny_call (Nn I.vS M.cl.ex M.init (beq_iff_eq.mp M.fn) ?_);have I1:Inv X pins σ H ⟨hh.push noArgs,g,d,tk,os⟩:=I.kept (s:=⟨hh,g,d,tk,os⟩) (t':=tk) λb u q=>get?_push_of_some _ q;have sz:(hh.push noArgs).objs.size=hh.objs.size+1:=size_push _ _;have ge:((hh.push noArgs).push (bH C hh.objs.size none)).get? (hh.objs.size+1)=some (bH C hh.objs.size none):=by
  have:=get?_push_size (hh.push noArgs) (o:=bH C hh.objs.size none) rfl
  rwa [sz]at this
 have I2:Inv X pins σ (upd H (hh.objs.size+1) (GB (hh.objs.size+1) C hh.objs.size none)) ⟨(hh.push noArgs).push (bH C hh.objs.size none),g,d,tk,os⟩:=
  I1.laid (s:=⟨hh.push noArgs,g,d,tk,os⟩) (t':=tk) (λb u q=>get?_push_of_some _ q) (le_of_eq sz) (QX ge)
 have He:H (hh.objs.size+1)=none:=I.bS.fresh (h:=hh) (le_succ _);have n0:X.oV.heap.objs.size<=hh.objs.size+1:=le_trans (show X.oV.heap.objs.size<=hh.objs.size from I.sz) (le_succ _);have hbb:=hb ⟨(hh.push noArgs).push (bH C hh.objs.size none),g,d,tk,os⟩ [Value.ref (hh.objs.size+1)] I2.vS rfl
 refine codeAny_mono (F.run _ X.stack _ _ ⟨[Value.ref (hh.objs.size+1)],[]⟩ [Value.ref (hh.objs.size+1)] [V.ref (hh.objs.size+1)]
  (λv H2=>v= .gc/\∃dx,H dx=none/\dx≠hh.objs.size+1/\H2=upd (upd (upd H (hh.objs.size+1) (GB (hh.objs.size+1) C hh.objs.size none)) (hh.objs.size+1) (GB (hh.objs.size+1) C hh.objs.size (some dx))) dx (.xd [("number",.int n)])) E0 (hr.make C [] []) (I2.Pu.make C [] []) hbb (.cons rfl .nil) ?_) λr s' hq=>?_
 ·refine⟨hh.objs.size+1,C,hh.objs.size,rfl,af,M.cl,λdx h1 h2=>⟨rfl,dx,?_,h2,rfl⟩⟩
  rwa [ak h2]at h1
 ·cases r with
  |error ev=>exact False.elim hq
  |ok fl=>
   cases fl with
   |next=>exact False.elim hq
   |brk=>exact False.elim hq
   |cont=>exact False.elim hq
   |ret u=>
    obtain⟨v,H2,I3,rv,ev,dx,hdx,nd,eH⟩:=I2.after hq;subst ev;refine⟨rv,?_⟩;subst eH;have nd':hh.objs.size+1≠dx:=Ne.symm nd;have hX:(upd (upd (upd H (hh.objs.size+1) (GB (hh.objs.size+1) C hh.objs.size none)) (hh.objs.size+1) (GB (hh.objs.size+1) C hh.objs.size (some dx))) dx (.xd [("number",.int n)])) (hh.objs.size+1)=some (GB (hh.objs.size+1) C hh.objs.size (some dx)):=by
     rw[ak nd',af]
    have ge3:s'.heap.get? (hh.objs.size+1)=some (bH C hh.objs.size (some dx)):=(I3.bS _ _ hX).1;have I4:=Inv.forget I3 hX;have eq:Ha (upd (upd (upd H (hh.objs.size+1) (GB (hh.objs.size+1) C hh.objs.size none)) (hh.objs.size+1) (GB (hh.objs.size+1) C hh.objs.size (some dx))) dx (.xd [("number",.int n)])) (hh.objs.size+1)=upd H dx (.xd [("number",.int n)]):=by
     funext b;by_cases z:b=hh.objs.size+1
     ·rw[z,BE,ak nd',He]
     ·rw[kq z];by_cases z2:b=dx
      ·subst z2;rw[af,af]
      ·rw[ak z2,ak z2,ak z,ak z]
    rw[eq]at I4;obtain⟨cd,_,Y⟩:=pK I4.vS M.cl.ex;exact⟨hh.objs.size+1,C,cd,_,rfl,Y,ge3,rfl,⟨_,rfl⟩,O.first I4 ge3 (by rw[ak nd'];exact He) n0 af (h dx hdx)⟩
end
end ShX
end
section
namespace Sh
open PySem PySem.Spec PyProof.Rows L2 ShX
theorem ah{H:Hp}{p:Addr}{o:HO}(h:H p=Option.none):ay H (upd H p o):=λb u e=>by
 rw[ak (aq e h)];exact e
structure Tells(J:It)(Ok:Hp->Prop)(n:Nat)(R:Nat->V->Hp->Prop):Prop where
 go:∀i H,i<n->Ok H->J.go i H
 Pa:∀i H x H',i<n->Ok H->J.Pa i H x H'->ay H H'/\R i x H'
 stop:∀H,Ok H->J.stop n H
theorem aJ{K:PySem.W.Frag}{a:Addr}{xs:List V}:Tells (Tx K a) (λH=>aH K H a xs) xs.length (λi x _=>xs[i]?=some x):=
 ⟨λi H hi h=>⟨xs,xs[i],h,by simp[hi]⟩,λi H x H' hi h ⟨e,y⟩=>⟨by rw[e];exact ay.refl H,y xs h⟩,λH h=>⟨xs,h,le_refl _⟩⟩
theorem ja{lo:Int}{n:Nat}:Tells (Pd lo n) (λ_=>True) n (λi x _=>x= .int (lo+i)):=
 ⟨λi H hi _=>hi,λi H x H' hi _ ⟨e,y⟩=>⟨by rw[e];exact ay.refl H,y⟩,λH _=>le_refl _⟩
theorem Gx{lo c:Int}{n:Nat}:Tells (Tv lo c n) (λ_=>True) n (λi x _=>x= .int (lo+(i:Nat)*c)):=
 ⟨λi H hi _=>hi,λi H x H' hi _ ⟨e,y⟩=>⟨by rw[e];exact ay.refl H,y⟩,λH _=>le_refl _⟩
theorem ER{K:PySem.W.Frag}{a:Addr}{xs:List V}:Tells (Tz K a xs.length) (λH=>aH K H a xs) xs.length (λi x _=>xs[xs.length-1-i]?=some x):=
 ⟨λi H hi h=>⟨hi,xs,xs[xs.length-1-i]'(by omega),h,by simp⟩,λi H x H' hi h ⟨e,y⟩=>⟨by rw[e];exact ay.refl H,y xs h⟩,λH h=>le_refl _⟩
theorem wo{K:PySem.W.Frag}{a:Addr}{xs:List V}:Tells (Tw K a) (λH=>aH K H a xs) xs.length (λi x H=>∃T y,x= .ref T/\H T=some (.tup [.int (i:Nat),y])/\xs[i]?=some y):=
 ⟨λi H hi h=>⟨xs,xs[i],h,by simp[hi]⟩,λi H x H' hi h ⟨T,y,e1,hn,e2,q⟩=>⟨by rw[e2];exact ah hn,T,y,e1,by rw[e2];exact af,q xs h⟩,λH h=>⟨xs,h,le_refl _⟩⟩
theorem ES{K:PySem.W.Frag}{a b:Addr}{xs ys:List V}:Tells (TB K a b) (λH=>aH K H a xs/\aH K H b ys) (min xs.length ys.length) (λi x H=>∃T y z,x= .ref T/\H T=some (.tup [y,z])/\xs[i]?=some y/\ys[i]?=some z):=
 ⟨λi H hi h=>⟨xs,ys,xs[i]'(by omega),ys[i]'(by omega),h.1,h.2,by simp,by simp⟩,λi H x H' hi h ⟨T,y,z,e1,hn,e2,q1,q2⟩=>⟨by rw[e2];exact ah hn,T,y,z,e1,by rw[e2];exact af,q1 xs h.1,q2 ys h.2⟩,
  λH h=>⟨xs,ys,h.1,h.2,by omega⟩⟩
theorem d7{J:It}{Ok:Hp->Prop}{n:Nat}{R:Nat->V->Hp->Prop}(TL:Tells J Ok n R){g:TG}{tb:TS}{D:Ends}{σ:L2.St}{H:Hp}(Pv:Nat->L2.St->Hp->Prop)(h0:Pv 0 σ H)(bS:∀i σ H,i<=n->Pv i σ H->Ok H)
  (hs:∀i x σ H H',i<n->Pv i σ H->ay H H'->R i x H'->g x σ H' λσ2 H2=>tb {D with nx:=Pv (i+1),ct:=Pv (i+1),bk:=D.nx} σ2 H2) (hd:∀σ H,Pv n σ H->D.nx σ H):
  ∃W:Nat->Nat->L2.St->Hp->Prop,(∃m,W 0 m σ H)/\∀i m σ H,W i m σ H->
   (J.stop i H/\D.nx σ H)\/(J.go i H/\∃N:L2.St->Hp->Prop,(∀σ' H',N σ' H'->∃m',m'<m/\W (i+1) m' σ' H')/\∀x H',J.Pa i H x H'->g x σ H' λσ2 H2=>tb {D with nx:=N,ct:=N,bk:=D.nx} σ2 H2):=by
 refine⟨λi m σ H=>m=n-i/\i<=n/\Pv i σ H,⟨n,by simp,zero_le _,h0⟩,?_⟩;rintro i m σ H ⟨rfl,hi,p⟩;have q:=bS i σ H hi p;by_cases hlt:i<n
 ·refine .inr ⟨TL.go i H hlt q,Pv (i+1),λσ' H' p'=>⟨n-(i+1),by omega,rfl,hlt,p'⟩,λx H' y=>?_⟩;obtain⟨s,r⟩:=TL.Pa i H x H' hlt q y;exact hs i x σ H H' hlt p s r
 ·have e:i=n:=by omega
  subst e;exact .inl ⟨TL.stop H q,hd σ H p⟩
theorem zo{α β:Type}{F:α->β->Prop}{x:α}{y:β}(h:F x y):∀{l:List α}{m:List β},Paired F l m->Paired F (l++[x]) (m++[y])
 |_,_,.nil=> .cons h .nil
 |_,_,.cons r t=> .cons r (zo h t)
theorem gX(p:Nat->Bool)(n:Nat):(List.range (n+1)).filter p=if p n=true then(List.range n).filter p++[n]else(List.range n).filter p:=by
 rw[range_succ,filter_append,filter_cons]
 split
 ·rfl
 ·simp
def jF(D:Addr)(H H':Hp):Prop:=∀b o,b≠D->H b=some o->H' b=some o
theorem ay.but{D:Addr}{H H':Hp}(h:ay H H'):jF D H H':=λb o _ e=>h b o e
theorem jF.trans{D:Addr}{H H1 H2:Hp}(a:jF D H H1)(b:jF D H1 H2):jF D H H2:=λc o n h=>b c o n (a c o n h)
theorem jF.upd{D:Addr}{H:Hp}{o:HO}:jF D H (upd H D o):=λb u n e=>by rw[ak n];exact e
theorem bc{α β:Type}{F G:α->β->Prop}:∀{l₁:List α}{l₂:List β},Paired F l₁ l₂->(∀a b,a∈l₁->b∈l₂->F a b->G a b)->Paired G l₁ l₂
 |_,_,.nil,_=> .nil
 |_,_,.cons r t,f=> .cons (f _ _ mem_cons_self mem_cons_self r) (bc t λa b ha hb=>f a b (mem_cons_of_mem _ ha) (mem_cons_of_mem _ hb))
theorem cq{J:It}{Ok:Hp->Prop}{n:Nat}{R:Nat->V->Hp->Prop}(TL:Tells J Ok n R){g:TG}{tt:TT}{te:TE}{vs:List Nat}{σ:L2.St}{H1:Hp}{D:Addr}{Qd:Hp->Prop}(hD:H1 D=Option.none)(hOk:∀H',ay H1 H'->Ok H')
  (p:Nat->Bool) (E:Nat->V->Hp->Prop) (stab:∀i y H H',y≠.ref D->jF D H H'->E i y H->E i y H') (small:n<=sizeLine)
  (hs:∀i x H,i<n->ay H1 H->R i x H->(∃acc,H D=some (.lst acc))->∀(Qn:Hp->Prop)(Qy:V->Hp->Prop),(p i=false->∀H3,ay H H3->Qn H3)->(p i=true->∀y H4,ay H H4->E i y H4->y≠.ref D->Qy y H4)->
   g x (wipe σ vs) H λσ2 H2=>wipe σ2 vs=wipe σ vs/\tt σ2 H2 λb H3=>if b=true then te σ2 H3 Qy else Qn H3)
  (hd:∀H' acc,ay H1 H'->H' D=some (.lst acc)->Paired (λi y=>E i y H') ((List.range n).filter p) acc->Qd H'):
  ∃W:Nat->Nat->Hp->Prop,(∃m,W 0 m (upd H1 D (.lst [])))/\∀i m H,W i m H->
   (J.stop i H/\Qd H)\/(J.go i H/\∃Nx:Hp->Prop,(∀H',Nx H'->∃m',m'<m/\W (i+1) m' H')/\∀x H',J.Pa i H x H'->g x (wipe σ vs) H' λσ2 H2=>wipe σ2 vs=wipe σ vs/\tt σ2 H2 λb H3=>
    if b=true then te σ2 H3 λy H4=>∃acc,H4 D=some (.lst acc)/\acc.length<sizeLine/\Nx (upd H4 D (.lst (acc++[y])))else Nx H3):=by
 refine⟨λi m H=>m=n-i/\i<=n/\ay H1 H/\∃acc,H D=some (.lst acc)/\(∀y∈acc,y≠.ref D)/\Paired (λi y=>E i y H) ((List.range i).filter p) acc,⟨n,by simp,zero_le _,ah hD,[],af,by simp,.nil⟩,?_⟩;rintro i m H ⟨rfl,hi,s0,acc,ha,hnd,hp⟩;by_cases hlt:i<n
 ·refine .inr ⟨TL.go i H hlt (hOk H s0),λH'=>i+1<=n/\ay H1 H'/\∃acc,H' D=some (.lst acc)/\(∀y∈acc,y≠.ref D)/\Paired (λi y=>E i y H') ((List.range (i+1)).filter p) acc,λH' h=>⟨n-(i+1),by omega,rfl,h⟩,λx H' y=>?_⟩;obtain⟨s1,r⟩:=TL.Pa i H x H' hlt (hOk H s0) y;have len:acc.length<=i:=by
   rw[<-hp.length];exact le_trans (length_filter_le _ _) (by simp)
  refine hs i x H' hlt (s0.trans s1) r ⟨acc,s1 _ _ ha⟩ _ _ (λhpi H3 s3=>?_) λhpi y H4 s4 hE hy=>?_
  ·refine⟨hlt,(s0.trans s1).trans s3,acc,s3 _ _ (s1 _ _ ha),hnd,?_⟩;rw[gX,if_neg (by rw[hpi];simp)];exact bc hp λa b _ hb e=>stab a b H H3 (hnd b hb) (ay.but (s1.trans s3)) e
  ·have h4:=s4 _ _ (s1 _ _ ha);refine⟨acc,h4,by omega,hlt,λb o e=>?_,acc++[y],af,λz hz=>?_,?_⟩
   ·rw[ak (aq e hD)];exact s4 _ _ (s1 _ _ (s0 _ _ e))
   ·rcases mem_append.mp hz with q|q
    ·exact hnd z q
    ·rw[mem_singleton.mp q];exact hy
   ·rw[gX,if_pos hpi];refine zo (F:=λi z=>E i z (upd H4 D (HO.lst (acc++[y])))) (stab i y H4 _ hy jF.upd hE) ?_;exact bc hp λa b _ hb e=>stab a b H _ (hnd b hb) ((ay.but (s1.trans s4)).trans jF.upd) e
 ·have e:i=n:=by omega
  subst e;exact .inl ⟨TL.stop H (hOk H s0),hd H acc s0 ha hp⟩
theorem bW{α:Type}{f:α->Int}:∀{l:List α}{acc:List V},Paired (λi y=>y=V.int (f i)) l acc->acc=l.map λi=>V.int (f i)
 |_,_,.nil=>rfl
 |_,_,.cons r t=>by rw[r,bW t];rfl
theorem bJ{α:Type}{f:α->V}:∀{l:List α}{acc:List V},Paired (λi y=>y=f i) l acc->acc=l.map f
 |_,_,.nil=>rfl
 |_,_,.cons r t=>by rw[r,bJ t];rfl
theorem bh{D:Addr}{f:Nat->V}:∀i(y:V)(H H':Hp),y≠.ref D->jF D H H'->y=f i->y=f i:=λ_ _ _ _ _ _ e=>e
theorem aN(n:Nat):(List.range n).filter (λ_=>true)=List.range n:=by rw[filter_eq_self];simp
theorem ke{α β:Type}{xs:List α}{n:Nat}(hn:xs.length=n){f:Nat->β}{h:α->β}(e:∀i x,xs[i]?=some x->f i=h x):(List.range n).map f=xs.map h:=by
 apply ext_getElem?;intro i;rw[getElem?_map,getElem?_map];by_cases q:i<n
 ·rw[getElem?_range q,getElem?_eq_getElem (by omega)];exact congrArg some (e i _ (getElem?_eq_getElem (by omega)))
 ·rw[getElem?_eq_none (by simp;omega),getElem?_eq_none (by omega)];rfl
theorem iw{ns:List Int}{j:Nat}{z:Int}(h:ns[j]?=some z):MS (ns.map V.int) (j:Int)=some (V.int z):=at_of (j:=j) rfl (by rw[getElem?_map,h];rfl)
theorem dq{α β:Type}{f:α->β}{l:List α}{i:Nat}{y:β}(h:(l.map f)[i]?=some y):∃x,l[i]?=some x/\y=f x:=by
 rw[getElem?_map]at h;cases e:l[i]? with
 |none=>rw[e]at h;cases h
 |some x=>rw[e]at h;exact⟨x,rfl,(Option.some.inj h).symm⟩
theorem take_snoc{α:Type}:∀{l:List α}{i:Nat}{x:α},l[i]?=some x->l.take (i+1)=l.take i++[x]
 |[],i,x,h=>by simp at h
 |a::l,0,x,h=>by
  have e:a=x:=Option.some.inj h;subst e;rfl
 |a::l,i+1,x,h=>by
  have ih:=take_snoc (l:=l) (i:=i) (x:=x) h;show a::l.take (i+1)=a::l.take i++[x]
  rw[ih];rfl
end Sh
end
section
namespace Sh
open PySem PySem.Spec PyProof.Rows L2 ShX
theorem Pz(l:Addr)(items:Array Value)(n:Nat)(b:Addr)(items2:Array Value)(n2:Nat)(dd:Option Addr)(sl:Array (Option Value))(hs0:¬(!items.isEmpty&&Builtin.List.listTooLong (items.size+items2.size))=true)(hs1:items.size<=sizeLine)(hs2:items.size+items2.size<=sizeLine+1):
  Meets (Builtin.«list.extend» ⟨[.ref l,.ref b],[]⟩) (λ_ R s=>s.heap.get? l=some {cls:= .type "list",dict:=none,data:= .seq items n,slots:= #[]}/\s.heap.get? b=some {cls:= .type "tuple",dict:=dd,data:= .seq items2 n2,slots:=sl}/\R (.ok (.ret Value.none)) {s with heap:=s.heap.update l (Obj.mapSeq λx=>x++items2),toks:=s.toks}):=
 .of_wp λprog w A R s h=>by
  obtain⟨hp,g,d,tk,os⟩:=s;obtain⟨hl,hb,h⟩:=h;have f1:=AutoSeq1.idx_int;have f2:=AutoSeq1.sub_tuple_tuple;have f3:=AutoSeq1.sub_list_list;have f4:=AutoSeq1.sub_tuple_list;have f5:=AutoSeq1.sub_list_tuple;have hz':(items++items2).size<=sizeLine+1:=by rw[Array.size_append];exact hs2
  wp_walk using(wpAny_updateSeq hl rfl (hz:=hs1) (_hz':=hz')),AutoSeq1.wpAny_loadPart' hl,AutoSeq1.wpAny_loadPart' hb;exact⟨_,rfl,h⟩
section
variable{X:Cx}
theorem bT{x:Str}{i:Int}{pos:Pos}(hg:Gl X x)(hm:∃t,X.mg x=some (.int i t))(hd:(x==("__debug__":Str))=false:=by decide):PE X (.Name x pos) (tC (.int i)):=by
 obtain⟨t,hm⟩:=hm;exact AZ hg hm ⟨t,rfl⟩ hd
theorem K2{e:Expr}{t:TT}(h:PW X e t):PT X e t:=h.pt
theorem SG{A:Around}{k:Nat}(hr:iu k A):A.units+64<cLine:=hr.units
def UO:Rg:=λx y H Q=>∃i j,x= .int i/\y= .int j/\Pb i j/\Q (.int (i*j)) H
theorem RD:Sr X .Mult UO:=by
 intro pins s σ H x y v u Q I r1 r2 h;obtain⟨i,j,e1,e2,hc,q⟩:=h;subst e1;subst e2;obtain⟨t,rfl⟩:=r1;obtain⟨t',rfl⟩:=r2;exact imul_int ⟨.int _,H,I.tok _,⟨_,rfl⟩,q⟩ hc.ok
def Ox(K:PySem.W.Frag):V->List V->Hp->VK->Prop:=λx vs H Q=>∃l b xs zs,x= .ref l/\vs=[.ref b]/\H l=some (.lst xs)/\(H b=some (.lst zs)\/H b=some (.tup zs))/\xs.length+zs.length<=sizeLine/\Q .gc (upd H l (.lst (xs++zs)))
theorem Jy:TF X "list.extend" (Ox X.K):=by
 intro pins s σ H x vs v us Q I rx rv h;obtain⟨l,b,xs,zs,rfl,rfl,hH,hB|hB,hz,q⟩:=h
 ·exact uw pins s σ H _ _ v us Q I rx rv ⟨l,b,xs,zs,rfl,rfl,hH,hB,hz,q⟩
 cases rx;obtain⟨u,rfl,ru⟩:=rv.one;cases ru;obtain⟨z,its,n,r,hl,e⟩:=I.LN hH;obtain⟨z2,its2,r2,⟨o2,e2,c2,n2,d2⟩⟩:=I.bS b _ hB;have l1:=r.length;have l2:=r2.length;have hsz:its.toArray.size+its2.toArray.size<=sizeLine:=by rw[size_toArray,size_toArray];omega
 have hlong:¬(!its.toArray.isEmpty&&Builtin.List.listTooLong (its.toArray.size+its2.toArray.size))=true:=by
  rw[HK hsz,Bool.and_false];exact Bool.false_ne_true
 obtain⟨cl2,dd2,da2,sl2⟩:=o2;cases c2;cases d2;refine call_meets F.slot_list_extend ⟨_,e,rfl⟩ F.entry_list_extend (F.args_list_extend_2 _ _)
  (Pz l its.toArray n b its2.toArray n2 dd2 sl2 hlong (by rw[size_toArray];omega) (by omega)) ⟨e,e2,?_⟩
 refine⟨.gc,_,I.RM (its':=its++its2) hH e (by simp) (r.append r2) ?_,rfl,q⟩;rw[length_append];omega
end
end Sh
end
section
namespace Sh
open PySem PySem.Spec PyProof.Rows L2 ShX
section
variable{X:Cx}
def Ud(K:PySem.W.Frag):V->V->Hp->VK->Prop:=λx y H Q=>∃(p:Addr)(xs:List V)(j:Nat)(v:V),x= .ref p/\y= .int (j:Nat)/\aH K H p xs/\xs[j]?=some v/\Q v H
theorem wR:Sq X (Ud X.K):=by
 intro pins s σ H x y v u Q I rx ry h;obtain⟨p,xs,j,z,rfl,rfl,hq,he,q⟩:=h;cases rx;obtain⟨t,rfl⟩:=ry;obtain⟨its,r,pl,hz⟩:=I.list hq;obtain⟨w,ew,rw'⟩:=r.get he;have hl:=r.length;have hn:=B6;have hj:j<xs.length:=(List.getElem?_eq_some_iff.mp he).1;have fin:EP X pins σ Q w s:=⟨z,H,I,rw',q⟩
 exact wpAny_getItem_list pl.isList (by omega) (by omega) (by simpa using ew) fin
theorem cp{n:Nat}:Tells (Pd 0 n) (λ_=>True) n (λi x _=>x= .int (i:Nat)):=
 ⟨λi H hi _=>hi,λi H x H' hi _ ⟨e,y⟩=>⟨by rw[e];exact ay.refl H,by rw[y,zero_add]⟩,λH _=>le_refl _⟩
end
end Sh
namespace Sh
open PySem PySem.Spec PyProof.Rows L2 ShX
section
variable{X:Cx}
theorem si(K:PySem.W.Frag)(h:X.K=K):Sl X (SR K):=by rw[<-h];exact aE
theorem Ky(K:PySem.W.Frag)(h:X.K=K):Sl X (SU K):=by rw[<-h];exact FL
theorem KR(K:PySem.W.Frag)(h:X.K=K){e:Expr}{f:Str}{pos:Pos}{ta:TE}(he:PE X e ta)(hb:attributeBase e f X.env (eval e X.env)=eval e X.env):PE X (.Attribute e f pos) (S8 K ta f):=by rw[<-h];exact aQ he hb
theorem Du(K:PySem.W.Frag)(h:X.K=K):jG X (.builtin "len") (λxs H Q=>∃p ys,xs=[.ref p]/\(aH K H p ys\/ra K H p ys)/\Q (.int ys.length) H):=by rw[<-h];exact aK
theorem Pt(K:PySem.W.Frag)(h:X.K=K)(hc:X.calm=true):jG X (.builtin "max") (SV K):=by rw[<-h];exact BD hc
theorem BA(K:PySem.W.Frag)(h:X.K=K):jG X (.type "tuple") (λxs H Q=>∃p ys,xs=[.ref p]/\((aH K H p ys/\∀l,H l=none->Q (.ref l) (upd H l (.tup ys)))\/(ra K H p ys/\Q (.ref p) H))):=by rw[<-h];exact Dz
theorem Il(K:PySem.W.Frag)(h:X.K=K):TH X (SX K):=by rw[<-h];exact xA
end
end Sh
end
section
namespace Sh
open PySem PySem.Spec PyProof.Rows L2 ShX
section
variable{prog:Program}{w:World}{A:Around}{E:iE}{s:Shared}
theorem L8{it d:Addr}{i n ep:Nat}{od:Obj}{es:Array DictEntry}{en:DictEntry}{ok ov:Value}{Q:Option Value->Shared->Prop}(ht:IsItemIter s.heap it d i n ep ok ov)(gd:s.heap.get? d=some od)(dd:od.data= .dict es ep)(sz:es.size=n)(hx:es[i]?=some en)
  (fin:∀h',IsItemIterOut h' it d (i+1) n ep en.key en.val s.heap.objs.size->h'.get? s.heap.objs.size=some {cls:= .type "tuple",data:= .seq #[en.key,en.val]}->h'.objs.size=s.heap.objs.size+1->(∀b o,b≠it->s.heap.get? b=some o->h'.get? b=some o)->Q (some (.ref s.heap.objs.size)) {s with heap:=h'}):wpAny (model prog w) A (pyNext (.ref it)) Q E s:=by
 obtain⟨hp,gs,dr,tk,os⟩:=s;have ty:Shared.TypeIs ⟨hp,gs,dr,tk,os⟩ (.ref it) "dict_itemiterator":=⟨_,ht,rfl⟩
 unfold pyNext;refine wpAny_bind (wpAny_attempt (wpAny_callSpecial?_slot (name:=Str.ofString "__next__") ty F.slot_dict_itemiterator_next (wpAny_call_entry F.slot_dict_itemiterator_next ty F.entry_dict_itemiterator_next ?_ (F.args_dict_itemiterator_next_1 _))));refine wpAny_bind (wpAny_pure ?_);refine wpAny_bind ?_;refine wpAny_bind ?_
 first|refine wpAny_bind (wpAny_typeNameOfWhole_itemiter ty (wpAny_pure ?_))|refine wpAny_bind (wpAny_typeNameOf_itemiter ty (wpAny_pure ?_))
 refine wpAny_bind (wpAny_fieldsOf ht rfl ?_);have own:Builtin.Dict_items.ownsTuple "dict_itemiterator"=true:=by decide
 simp only[own,if_true];show wpAny _ _ (if(Value.ref d==Value.none)=true then _ else _) _ _ _;rw[if_neg (show¬((Value.ref d==Value.none)=true)from Bool.false_ne_true)];refine wpAny_bind (wpAny_pure ?_);refine wpAny_bind (wpAny_dictEntries gd dd ?_);rw[if_neg (by rw[sz];simp)];refine wpAny_bind (wpAny_pure ?_);refine wpAny_bind (wpAny_dictEpoch gd dd ?_);rw[if_neg (by simp)];refine wpAny_pure ?_;obtain⟨lt,hen⟩:=Array.getElem?_eq_some_iff.mp hx;simp only[show¬((i:Int)<0)from by omega,if_false,toNat_natCast,Array.getElem?_eq_getElem lt,hen];refine wpAny_bind ?_
 first|refine wpAny_bind (wpAny_typeNameOfWhole_itemiter ty (wpAny_pure ?_))|refine wpAny_bind (wpAny_typeNameOf_itemiter ty (wpAny_pure ?_))
 refine wpAny_bind (wpAny_isOneOf_itemiter ty ?_);show wpAny _ _ (setField (.ref it) 3 (rawInt ((i:Int)+1))>>=_) _ _ ⟨hp,gs,dr,tk,os⟩;refine wpAny_bind (wpAny_setField_rec ht (by simp) λh1 e1 b1=>?_);replace b1:Heap.SameBut it hp h1:=b1;replace e1:IsItemIter h1 it d (i+1) n ep ok ov:=by
  have e:((i+1:Nat):Int)=(i:Int)+1:=by omega
  unfold IsItemIter;rw[e];simpa[rawInt]using e1
 have ty1:Shared.TypeIs ⟨h1,gs,dr,tk,os⟩ (.ref it) "dict_itemiterator":=⟨_,e1,rfl⟩
 refine wpAny_bind (wpAny_holding ?_);refine wpAny_bind (wpAny_isOneOf_itemiter ty1 ?_);refine wpAny_bind (wpAny_isOneOf_itemiter ty1 ?_);show wpAny _ _ (Builtin.Dict_items.pairFromOwner (.ref it) 6 en.key en.val) _ _ ⟨h1,gs,dr,tk,os⟩;unfold Builtin.Dict_items.pairFromOwner;refine wpAny_bind (wpAny_newTuple ?_);have e2:IsItemIter (h1.push {cls:= .type "tuple",data:= .seq #[en.key,en.val]}) it d (i+1) n ep ok ov:=get?_push_of_some _ e1;generalize eh2:h1.push {cls:= .type "tuple",data:= .seq #[en.key,en.val]}=h2 at e2;have z1:h1.objs.size=hp.objs.size:=b1.1;have il:it<hp.objs.size:=lt_size ht;have t2:h2.get? hp.objs.size=some {cls:= .type "tuple",data:= .seq #[en.key,en.val]}:=by rw[<-eh2,<-z1];exact get?_push_size _ rfl
 have z2:h2.objs.size=hp.objs.size+1:=by rw[<-eh2,size_push,z1]
 have k2:∀b o,b≠it->hp.get? b=some o->h2.get? b=some o:=λb o hb e=>by rw[<-eh2];exact get?_push_of_some _ (b1.extBut b o hb e)
 show wpAny _ _ (Builtin.Dict_items.ownedTupleIsFree (.ref it)>>=_) _ _ ⟨h2,gs,dr,tk,os⟩;rw[z1];clear eh2 e1 b1 ty1 z1 h1;refine wpAny_bind ?_;unfold Builtin.Dict_items.ownedTupleIsFree;refine wpAny_bind (wpAny_field e2 rfl (x:= .none) rfl (wpAny_pure ?_));simp only[if_true];refine wpAny_bind (wpAny_field e2 rfl (x:=ok) rfl ?_);refine wpAny_bind (wpAny_field e2 rfl (x:=ov) rfl ?_);refine wpAny_bind (wpAny_setField_rec e2 (by simp) λh3 e3 b3=>?_);replace b3:Heap.SameBut it h2 h3:=b3;replace e3:IsItemIter h3 it d (i+1) n ep en.key ov:=e3;refine wpAny_bind (wpAny_setField_rec e3 (by simp) λh4 e4 b4=>?_);replace b4:Heap.SameBut it h3 h4:=b4;replace e4:IsItemIter h4 it d (i+1) n ep en.key en.val:=e4;refine wpAny_bind (wpAny_setField_rec e4 (by simp) λh5 e5 b5=>?_);replace b5:Heap.SameBut it h4 h5:=b5;replace e5:IsItemIterOut h5 it d (i+1) n ep en.key en.val hp.objs.size:=e5;refine wpAny_bind (wpAny_setField_rec e5 (by simp) λh6 e6 b6=>?_);replace b6:Heap.SameBut it h5 h6:=b6;replace e6:IsItemIterOut h6 it d (i+1) n ep en.key en.val hp.objs.size:=e6;have up:∀b o,b≠it->h2.get? b=some o->h6.get? b=some o:=λb o hb e=>b6.extBut b o hb (b5.extBut b o hb (b4.extBut b o hb (b3.extBut b o hb e)));refine wpAny_bind (wpAny_letGo (wpAny_pure (wpAny_pure ⟨_,rfl,wpAny_pure (fin h6 e6 (up _ _ (ne_of_gt il) t2) ?_ λb o hb e=>up b o hb (k2 b o hb e))⟩)));show h6.objs.size=hp.objs.size+1;rw[b6.1,b5.1,b4.1,b3.1,z2]
theorem Oh{it d:Addr}{i n ep:Nat}{od:Obj}{es:Array DictEntry}{ok ov:Value}{Q:Option Value->Shared->Prop}(hh:A.handled=none)(ht:IsItemIter s.heap it d i n ep ok ov)(gd:s.heap.get? d=some od)(dd:od.data= .dict es ep)(sz:es.size=n)(hx:n<=i)
  (fin:∀h',ExtBut it s.heap h'->Q none {s with heap:=h'}):wpAny (model prog w) A (pyNext (.ref it)) Q E s:=by
 have ty:s.TypeIs (.ref it) "dict_itemiterator":=⟨_,ht,rfl⟩
 unfold pyNext;refine wpAny_bind (wpAny_attempt (wpAny_callSpecial?_slot (name:=Str.ofString "__next__") ty F.slot_dict_itemiterator_next (wpAny_call_entry F.slot_dict_itemiterator_next ty F.entry_dict_itemiterator_next ?_ (F.args_dict_itemiterator_next_1 _))));refine wpAny_bind (wpAny_pure ?_);refine wpAny_bind ?_;refine wpAny_bind ?_
 first|refine wpAny_bind (wpAny_typeNameOfWhole_itemiter ty (wpAny_pure ?_))|refine wpAny_bind (wpAny_typeNameOf_itemiter ty (wpAny_pure ?_))
 refine wpAny_bind (wpAny_fieldsOf ht rfl ?_);have own:Builtin.Dict_items.ownsTuple "dict_itemiterator"=true:=by decide
 simp only[own,if_true];show wpAny _ _ (if(Value.ref d==Value.none)=true then _ else _) _ _ s;rw[if_neg (show¬((Value.ref d==Value.none)=true)from Bool.false_ne_true)];refine wpAny_bind (wpAny_pure ?_);refine wpAny_bind (wpAny_dictEntries gd dd ?_);rw[if_neg (by rw[sz];simp)];refine wpAny_bind (wpAny_pure ?_);refine wpAny_bind (wpAny_dictEpoch gd dd ?_);rw[if_neg (by simp)];refine wpAny_pure ?_;have ge:es.size<=i:=by omega
 simp only[show¬((i:Int)<0)from by omega,if_false,toNat_natCast,Array.getElem?_eq_none ge];refine wpAny_bind ?_
 first|refine wpAny_bind (wpAny_typeNameOfWhole_itemiter ty (wpAny_pure ?_))|refine wpAny_bind (wpAny_typeNameOf_itemiter ty (wpAny_pure ?_))
 show wpAny _ _ (setField (.ref it) 2 .none>>=_) _ _ s;refine wpAny_bind (wpAny_setField ht rfl (by simp) ?_);show wpAny _ _ (newExc (.type "StopIteration") []>>=_) _ _ _;refine wpAny_bind ?_;simp only[newExc,newTuple];refine wpAny_bind (wpAny_newObj_type ?_ (by size_fits));refine wpAny_bind (m:=firstArgMember _ _) (wpAny_of_eq (a:=Value.none) (by first|rfl|(simp only[firstArgMember];rfl)) ?_);refine wpAny_newObj_type ?_ (by size_fits);simp only[raiseNew];refine wpAny_bind (wpAny_handled ?_);rw[show A.in1.handled=none from hh];refine wpAny_bind (wpAny_pure (wpAny_throw ?_));refine wpAny_bind (wpAny_isInstance (T:="StopIteration") (b:=true) ⟨_,get?_push_size _ rfl,rfl⟩ isSubtype_stop ?_);exact wpAny_pure (fin _ (((Heap.SameBut.update ..).extBut.push _).push _))
theorem Nz{d:Addr}(hd:(d==sysModules)=false):MeetsIn prog w (Builtin.«dict.items» ⟨[.ref d],[]⟩) (λ_ R s=>s.TypeIs (.ref d) "dict"/\R (.ok (.ret (.ref s.heap.objs.size))) {s with heap:=s.heap.push {cls:= .type "dict_items",data:= .fields #[.ref d]}}):=
 .of_wp λA R s ⟨ty,q⟩=>by
  unfold Builtin.«dict.items»;refine wpAny_bind ?_;unfold Builtin.Dict.noArgs;refine wpAny_bind (wpAny_notOrdered_dict ty ?_);show wpAny _ _ (pure d) _ _ s;refine wpAny_pure ?_;show wpAny _ _ (Builtin.Dict.showsAll d>>=_) _ _ s;unfold Builtin.Dict.showsAll;rw[if_neg (by rw[hd];exact Bool.false_ne_true)];refine wpAny_bind (wpAny_pure ?_);exact wpAny_bind (wpAny_newObj_type (wpAny_pure ⟨_,rfl,q⟩))
theorem Jp{v d:Addr}{n ep:Nat}{od:Obj}{es:Array DictEntry}{Q:iE}(hv:s.heap.IsItemsView v d)(gd:s.heap.get? d=some od)(dd:od.data= .dict es ep)(sz:es.size=n)
  (fin:Q (.ref s.heap.objs.size) {s with heap:=s.heap.push {cls:= .type "dict_itemiterator",data:= .fields #[.none,.bool false,.ref d,.int 0 0,.int n 0,.int ep 0,.none,.none]}}):wpAny (model prog w) A (pyIter (.ref v)) Q E s:=by
 obtain⟨ov,g1,g2,g3⟩:=id hv;refine wpAny_pyIter_slot hv.typeIs F.slot_dict_items_iter (wpAny_call_entry F.slot_dict_items_iter hv.typeIs F.entry_dict_items_iter ?_ (F.args_dict_items_iter_1 _));unfold Builtin.«dict_items.__iter__»;refine wpAny_bind (wpAny_pure ?_);refine wpAny_bind ?_;unfold Builtin.Dict_items.dictOf;refine wpAny_bind (wpAny_field g1 g3 (x:= .ref d) rfl (wpAny_pure ?_));refine wpAny_bind ?_;unfold Builtin.Dict_items.newIterator;refine wpAny_bind (wpAny_dictEntries gd dd ?_);refine wpAny_bind (wpAny_dictEpoch gd dd ?_);have own:Builtin.Dict_items.ownsTuple "dict_itemiterator"=true:=by decide
 simp only[own,if_true];refine wpAny_newObj_type (wpAny_pure ⟨_,rfl,"dict_itemiterator",_,⟨_,get?_push_size _ rfl,rfl⟩,F.slot_dict_itemiterator_next.lookup,?_⟩) (by simp only[sizeOk,Builtin.Dict_items.ownedTupleFields,size_toArray,length_append,length_cons,length_nil,sizeLine_eq];omega);simpa[rawInt,sz,Builtin.Dict_items.ownedTupleFields]using fin
end
def Rb(d:Addr)(o:Obj)(kvs:List (List Key×V)):It:=
 ⟨λi H=>H d=some (.jb o (.dT kvs))/\i<kvs.length,λi H x H'=>∃Tt q k v,kvs[i]?=some (k,v)/\x= .ref Tt/\H Tt=none/\H q=some (.tup (k.map kV))/\H'=upd H Tt (.tup [.ref q,v]),λi H=>H d=some (.jb o (.dT kvs))/\kvs.length<=i⟩
section
variable{X:Cx}{pins:fZ}{σ:L2.St}{H:Hp}{s:Shared}{d:Addr}{o:Obj}
theorem Nq{kvs:List (List Key×V)}(I:Inv X pins σ H s)(h:H d=some (.jb o (.dT kvs))):
  (d==sysModules)=false/\s.heap.get? d=some o/\o.ExactDict/\∃(es:Array DictEntry)(ep:Nat),o.data= .dict es ep/\es.size=kvs.length/\
   ∀(i:Nat)(k:List Key)(v:V),kvs[i]?=some (k,v)->∃(en:DictEntry)(q:Addr),es[i]?=some en/\en.key= .ref q/\H q=some (.tup (k.map kV))/\RelV v en.val:=by
 obtain⟨hd,z,hs,xs,pr,o',es,ep,ho,hx,hdt,he,_⟩:=I.bS d _ h;rw[hd]at ho;cases ho;refine⟨hs,hd,hx,es,ep,hdt,?_,λi k v e=>?_⟩
 ·have l1:es.size=xs.length:=size_of_entries he;have l2:kvs.length=xs.length:=Paired.length pr;omega
 ·obtain⟨b,hb,e1,e2,e3⟩:=pY pr e;have q:=entry_at he i;rw[hb]at q;exact⟨_,b.2.1,q,rfl,e2,e3⟩
end
section
variable{P:Program}{w:World}{K:PySem.W.Frag}{d:Addr}{o:Obj}{es:Array DictEntry}{ep:Nat}
theorem IB{kvs:List (List Key×V)}{elts:List Expr}{kk:Nat}{tpos:Pos}(it:Addr)(hod:o.data= .dict es ep):
  Turn P w K (.Tuple elts kk tpos) (Rb d o kvs) [it] it (λi h=>∃ok ov,IsItemIter h it d i kvs.length ep ok ov)where
 mem:=by simp
 obj:=λi h st b hb=>by
  have e:b=it:=by simpa using hb
  subst e;obtain⟨ok,ov,e⟩:=st;exact⟨_,e,λv z=>nomatch z⟩
 keep:=λi h h' st k=>let ⟨ok,ov,e⟩:=st;⟨ok,ov,k it (by simp) _ e⟩
 item:=by
  intro X hP hw hK hc i pins s σ H E I hf st hg;subst hP hw hK;obtain⟨hd,hi⟩:=hg;obtain⟨hs,hgd,hx,es',ep',hdt,hsz,ent⟩:=Nq I hd;obtain⟨rfl,rfl⟩:=Kk hod hdt;obtain⟨⟨k,v⟩,hkv⟩:∃p,kvs[i]?=some p:=⟨kvs[i],getElem?_eq_getElem hi⟩
  obtain⟨en,q,hen,hkey,hq,rv⟩:=ent i k v hkv;obtain⟨ok,ov,he⟩:=st;have hlt:it<s.heap.objs.size:=lt_size he;refine L8 he hgd hdt hsz hen λh' ho hT hz hk=>?_;refine⟨_,rfl,wpAny_letOwnedTupleGo_items (s:={s with heap:=h'}) ho λh'' he' sb=>?_⟩;have hT2:h''.get? s.heap.objs.size=some {cls:= .type "tuple",data:= .seq #[en.key,en.val]}:=(sb.2 _ (ne_of_gt hlt)).trans hT;have new:di X.prog X.w (upd H s.heap.objs.size (.tup [.ref q,v])) h'' s.heap.objs.size (.tup [.ref q,v]):=
   ⟨by show 2<=sizeLine;decide,[en.key,en.val],.cons hkey (.cons rv .nil),⟨_,hT2,rfl,_,rfl⟩⟩
  have I1:Inv X pins σ (upd H s.heap.objs.size (.tup [.ref q,v])) {s with heap:=h''}:=
   I.uJ (t':=s.toks) (ch:=[it]) (λb ob hb e=>(sb.2 b (by simpa using hb)).trans (hk b ob (by simpa using hb) e)) hf (le_refl _) new
  refine⟨.ref s.heap.objs.size,_,I1,rfl,⟨_,q,k,v,hkv,rfl,I.bS.fresh (le_refl _),hq,rfl⟩,⟨_,_,he'⟩,λb hb=>?_⟩;have e:b=it:=by simpa using hb
  rw[e,ak (ne_of_lt hlt)];exact(hf it (by simp)).1
 done:=by
  intro X hP hw hK hc i pins s σ H E I hf st hg;subst hP hw hK;obtain⟨hd,hi⟩:=hg;obtain⟨f0,f1,f2,f3,f4,f5⟩:=hf it (by simp);obtain⟨hs,hgd,hx,es',ep',hdt,hsz,ent⟩:=Nq I hd;obtain⟨rfl,rfl⟩:=Kk hod hdt;obtain⟨ok,ov,he⟩:=st;exact Oh (I.ok.hd hc) he hgd hdt hsz hi λh' eb=>⟨rfl,I.turned (t':=s.toks) (λb ob hb e=>eb b ob hb e) f0 f1 f3 f4 f5⟩
 self:=λA i s Q E st h=>let ⟨_,_,e⟩:=st;PySem.W.kcp_self e h
end
def PU(td:TE):TI:=λσ H R=>td σ H λx H1=>∃d o kvs,x= .ref d/\H1 d=some (.jb o (.dT kvs))/\R (Rb d o kvs) H1
theorem L9{X:Cx}{e:Expr}{td:TE}{apos cpos:Pos}{elts:List Expr}{kk:Nat}{tpos:Pos}(he:PE X e td)(hbase:attributeBase e "items" X.env (eval e X.env)=eval e X.env:=by rfl)(hline:(apos.endLine==cpos.line)=true:=by rfl):
  PI X (.Tuple elts kk tpos) (.Call (.Attribute e "items" apos) [] [] cpos) (PU td):=by
 intro pins s σ H R I h;refine wpAny_Call_method (T:="dict") (id:="dict.items") hbase rfl hline F.plainAttrs_dict F.slot_dict_items F.type_dict_items (dh (he pins s σ H _ I h) λu s1 ⟨x,H1,I1,rx,d,o,kvs,ex,hd,q⟩=>?_);subst ex;obtain rfl:u=Value.ref d:=rx;obtain⟨hs,hgd,hx,es,ep,hdt,hsz,ent⟩:=Nq I1 hd;have ty:s1.TypeIs (.ref d) "dict":=⟨o,hgd,hx.1⟩
 refine⟨ty,λa e2=>?_,?_⟩
 ·cases e2;exact⟨o,hgd,hx.2.1⟩
 have I2:Inv X pins σ H1 {s1 with heap:=s1.heap.push {cls:= .type "dict_items",data:= .fields #[.ref d]}}:=I1.kept (t':=s1.toks) λb ob q=>get?_push_of_some _ q;have fin:wpAny (model X.prog X.w) X.A (pyIter (.ref s1.heap.objs.size)) (Tj X pins σ (.Tuple elts kk tpos) R) X.xe {s1 with heap:=s1.heap.push {cls:= .type "dict_items",data:= .fields #[.ref d]}}:=by
  refine Jp (d:=d) ⟨_,get?_push_size _ rfl,rfl,rfl⟩ (get?_push_of_some _ hgd) hdt hsz (JH (tk:=s1.toks) I2 _ (IB _ hdt) ⟨.none,.none,get?_push_size _ rfl⟩ q)
 show wpAny _ _ (callWith cpos (.builtin "dict.items") [.ref d] [] []) _ X.xe s1;exact method_meetsIn F.slot_dict_items F.entry_dict_items rfl (PySem.evalArgs_none ⟨rfl,ty,F.args_dict_items_1 _,_,Nz hs,ty,fin⟩)
theorem Gw{d:Addr}{o:Obj}{kvs:List (List Key×V)}:Tells (Rb d o kvs) (λH=>H d=some (.jb o (.dT kvs))) kvs.length (λi x H=>∃Tt q k v,kvs[i]?=some (k,v)/\x= .ref Tt/\H q=some (.tup (k.map kV))/\H Tt=some (.tup [.ref q,v])):=
 ⟨λi H hi h=>⟨h,hi⟩,λi H x H' hi h ⟨Tt,q,k,v,e1,e2,hn,hq,e3⟩=>⟨by rw[e3];exact ah hn,Tt,q,k,v,e1,e2,by rw[e3,ak (aq hq hn)];exact hq,by rw[e3];exact af⟩,λH h=>⟨h,le_refl _⟩⟩
end Sh
end
section
namespace Sh
open PySem PySem.Spec PyProof.Rows L2 ShX
theorem zN:∀{xs:List V}{us:List Value},xs.length=us.length->(∀(i:Nat)(x:V)(u:Value),xs[i]?=some x->us[i]?=some u->RelV x u)->Vals xs us
 |[],[],_,_=> .nil
 |[],_::_,h,_=>by simp at h
 |_::_,[],h,_=>by simp at h
 |x::xs,u::us,h,f=> .cons (f 0 x u rfl rfl) (zN (by simpa using h) λi a b ha hb=>f (i+1) a b ha hb)
section
variable{X:Cx}
def Uw(ta:TA):TE:=λσ H Q=>ta σ H λvs H1=>∃j:Int,vs=[.int j]/\ -(2^62)<=j/\j<2^62/\∀p,H1 p=none->Q (.ref p) (upd H1 p (.IQ 0 j))
def R3(K:PySem.W.Frag):List V->Hp->VK->Prop:=λvs H Q=>∃(a:Addr)(ns:List Int),vs=[V.ref a]/\aH K H a (ns.map V.int)/\ns.length<=1000/\∀p S,H p=none->Q (.ref p) (upd H p (.set S (firstMet (λi=>ns.getD i 0) ns.length).length))
theorem Ru(hc:X.calm=true):jG X (.type "set") (R3 X.K):=by
 intro pins s σ H xs us Q I r h;obtain⟨a,ns,rfl,hq,hn,q⟩:=h;obtain⟨u,rfl,ru⟩:=vals1 r;cases ru;obtain⟨its,rv,pl,hz⟩:=I.list hq;have hi:=intsAre_of rv;have hl:=rv.length;rw[length_map]at hl;refine call_set_list (I.ok.hd hc) pl.isList (by simpa using hi) (by rw[size_toArray,<-hl];exact lt_of_le_of_lt (show ns.length+1<=1001 by omega) (by decide)) λh' tk hs hk=>?_;have hkk:∀b o,s.heap.get? b=some o->h'.get? b=some o:=λb o e=>hk b o (lt_size e) e;have es:its.toArray.size=ns.length:=by rw[size_toArray];exact hl.symm
 rw[es]at hs;refine⟨.ref s.heap.objs.size,_,I.laid (t':=tk) (o:= .set _ _) hkk (le_refl _) hs,rfl,q _ _ (I.bS.fresh (le_refl _))⟩
theorem Dx:jG X (.builtin "len") (λxs H Q=>∃p S n,xs=[.ref p]/\H p=some (.set S n)/\n<=1000/\Q (.int n) H):=by
 intro pins s σ H xs us Q I r h;obtain⟨p,S,n,rfl,hp,hn,q⟩:=h;obtain⟨u,rfl,ru⟩:=vals1 r;cases ru;obtain⟨o,es,ep,t,e1,e2,e3,_,_,_,e7,e8⟩:=I.bS p _ hp;refine call_len_set e1 e2 e3 e7 (by omega) ?_;rw[e8];exact⟨.int n,H,I.kept (t':=_) λ_ _ z=>z,⟨_,rfl⟩,q⟩
theorem ED{a:Expr}{ta:TA}{p pos:Pos}(hg:Gl X "range")(hm:X.mg "range"=none)(ha:PA X [a] ta)(hs:starEach [a] X.env=[(false,eval a X.env)]:=by rfl):PE X (.Call (.Name "range" p) [a] [] pos) (Uw ta):=by
 intro pins s σ H Q I h;refine Call_ (mm I hg hm boot_range (PyProof.Rows.callWith_type1 (dh (ha pos pins s σ H _ I h) λus s1 ⟨vs,H1,I1,r1,q1⟩=>?_) hs rfl));obtain⟨j,e,q1,q2,q⟩:=q1;subst e;cases r1 with
 |cons r rr=>
  cases rr;obtain⟨t,rfl⟩:=r;refine call_range_1 ?_;exact⟨.ref s1.heap.objs.size,_,I1.laid (t':=_) (o:= .IQ 0 j) (λb o e=>get?_push_of_some _ e) (le_refl _) ⟨_,_,_,get?_push_size _ rfl⟩,rfl,q _ (I1.bS.fresh (le_refl _))⟩
theorem Dy(hc:X.calm=true):jG X (.type "list") (λxs H Q=>∃p j,xs=[.ref p]/\H p=some (.IQ 0 j)/\0<=j/\j<=1000/\∀l,H l=none->Q (.ref l) (upd H l (.lst ((List.range j.toNat).map λ(i:Nat)=>V.int (i:Int))))):=by
 intro pins s σ H xs us Q I r h;obtain⟨p,j,rfl,hp,j0,j1,q⟩:=h;obtain⟨u,rfl,ru⟩:=vals1 r;cases ru;obtain⟨t,u,v,e⟩:=I.bS p _ hp;have hn:Builtin.Range.rangeSize 0 j 1=(j.toNat:Int):=by
  unfold Builtin.Range.rangeSize;rw[if_pos (by decide)]
  split<;>omega
 have hs:Builtin.Range.small 0 j 1=true:=by
  unfold Builtin.Range.small;rw[hn];simp only[Builtin.Range.rangeFitsLong,and_eq_true,or_eq_true,decide_eq_true_eq,beq_iff_eq,show((1:Int)>0) by decide,if_true];omega
 refine call_list_range (I.ok.hd hc) e hs hn (by omega) λh' tk acc' c' hk hS hacc=>?_;obtain⟨a1,a2⟩:=hacc;have vv:Vals ((List.range j.toNat).map λ(i:Nat)=>V.int (i:Int)) acc'.toList:=by
  refine zN (by simp[a1]) λi x u hx hu=>?_;obtain⟨m,hm,rfl⟩:=dq hx;have hm':m=i:=by
   rw[getElem?_range (by have:=(List.getElem?_eq_some_iff.mp hm).1;simpa using this)]at hm;exact(Option.some.inj hm).symm
  subst hm';obtain⟨t',ht'⟩:=a2 m u (by rw[<-Array.getElem?_toList];exact hu);exact⟨t',by rw[ht'];simp⟩
 refine⟨.ref s.heap.objs.size,_,I.laid (t':=tk) (o:= .lst _) hk (le_refl _) ⟨?_,acc'.toList,c',vv,by simpa using hS⟩,rfl,q _ (I.bS.fresh (le_refl _))⟩;rw[length_map,length_range];exact le_trans (show j.toNat<=1000 by omega) (by decide:1000<=sizeLine)
def JJ(K:PySem.W.Frag):List V->Hp->VK->Prop:=λvs H Q=>∃(a:Addr)(ns:List Int),vs=[V.ref a]/\aH K H a (ns.map V.int)/\
 ∀(ns':List Int)(p:Addr),ns'.Perm ns->ns'.Pairwise (·<=·)->H p=none->Q (.ref p) (upd H p (.lst (ns'.map V.int)))
theorem Fn:jG X (.builtin "sorted") (JJ X.K):=by
 intro pins s σ H vs us Q I r h;obtain⟨a,ns,rfl,hs,q⟩:=h;obtain⟨its,rv,hl,hz⟩:=I.list hs;rw[Vals.Md r];have hi:=rv.ints;have hlen0:=hi.length;rw[length_map]at hz;refine PyProof.Rows.sorted_intsAny hl.isList hi (by omega) λout ns' h1 h2 h3=>?_;obtain⟨ep,he'⟩:=PyProof.Rows.sortedAll_at s.heap its out;have hlen:(ns'.map V.int).length<=sizeLine:=by rw[length_map,h2.length_eq];exact hz
 exact⟨.ref _,upd H (s.heap.objs.size+1) (.lst (ns'.map V.int)),I.laid (t':=s.toks) (λ_ _=>PyProof.Rows.sortedAll_old) (le_succ _) ⟨hlen,out.toList,ep,xM h1,he'⟩,rfl,q ns' _ h2 h3 (I.bS.fresh (le_succ _))⟩
theorem LV:Th X "int.bit_length" (λx xs H Q=>∃i,x= .int i/\xs=[]/\Q (.int (Builtin.Int.intBits i:Nat)) H):=by
 intro pins s σ H x xs v us Q I rx rs h;obtain⟨i,rfl,rfl,q⟩:=h;obtain⟨t,rfl⟩:=rx;cases rs;exact call_gives F.slot_int_bit_length (typeIs_int s i t) F.entry_int_bit_length (F.args_int_bit_length_1 _) (AutoIntG2.int_bit_length_int_0 i t) ⟨.int _,H,I.tok _,⟨_,rfl⟩,q⟩
end
end Sh
end
section
namespace ShX
open PySem PySem.Spec PyProof.Rows L2
section
variable{X:Cx}
def Td(P:Program)(w:World)(K:PySem.W.Frag)(mg:rn)(base:Heap)(k i:Nat)(R:Addr)(ta:TA):TS:=λD σ H=>∃f fd ps sp,σ[i]?=some (some (.ref f))/\aT P w K mg base (kJ P w) k f fd ps sp/\Binds K fd ps []/\keepIn K (.ref f)=true/\
 ta σ H λvs H1=>sp vs H1 D.rt (EK K R D.rt)
theorem Qr{k i j:Nat}{R:Addr}{g x n:Str}{ta:TA}{e:Expr}{es:List Expr}{gp cpos rp np hpos rpos lpos apos ep pos:Pos}(O:GF X)(hr:iu k X.A)(hN:X.N.Nodup)(hi:X.N[i]?=some g)(hv:Rh X.env.scope g)(hj:X.N[j]?=some n)(hl:X.env.scope.names.lookup n=some .local)
  (hg:Gl X x) (hm:X.mg x=some (.ref R)) (hR:Ft X.K R=true) (hb:∀p,attributeBase (.Name n p) "number" X.env (eval (.Name n p) X.env)=eval (.Name n p) X.env) (ha:PA X (e::es) ta) (hxe:X.xe=λ_ _=>False)
  (hdx:(x==("__debug__":Str))=false:=by decide) (hdn:(n==("__debug__":Str))=false:=by decide) (hdg:(g==("__debug__":Str))=false:=by decide) (hcg:(g==("__classdict__":Str))=false:=by decide)
  (hst:∀a q,starEach [Expr.Attribute (.Name n a) "number" q] X.env=[(false,eval (.Attribute (.Name n a) "number" q) X.env)]:=by intros;rfl)
  (he:starEach (e::es) X.env=(false,eval e X.env)::starEach es X.env:=by rfl) (hpl:(backTo cpos (starEach es X.env)).any (·.1)=false:=by rfl):
  PS X (.Try [.Return (some (.Call (.Name g gp) (e::es) [] cpos)) rp] [.ExceptHandler (some (.Name x np)) (some n) [.Return (some (.List [.Attribute (.Name n ep) "number" apos] lpos)) rpos] hpos] [] [] pos) (Td X.prog X.w X.K X.mg X.base k i R ta):=by
 intro pins s σ H D I h;obtain⟨f,fd,ps,sp,hf,F,hbd,hk,q⟩:=h;refine wpAny_Try_except (wpAny_execs_cons (wpAny_Return_some (wpAny_Call_Name_kw ?_)));refine wpAny_mono (Om (X:=X.Q0) (pos:=gp) hi hv hdg hcg pins s σ H (λv H'=>v= .ref f/\H'=H) (I.pB _) ⟨_,hf,rfl,rfl⟩) (λu s1 hu=>?_) λ_ _ z=>False.elim z;obtain⟨v,H',I0,rv,rfl,rfl⟩:=hu;have I1:Inv X pins σ H' s1:=I0.ka;cases rv;refine callWith_K (h₀:=X.base) I1.ok.mod.RJ hk (wpAny_mono (ha cpos pins s1 σ H' _ I1 q) (λus s2 hq=>?_) λ_ _ z=>by rw[hxe]at z;exact z.elim) he hpl;obtain⟨vs,H2,I2,r,q2⟩:=hq;refine⟨I2.vS,?_⟩;have hlen:(us++[]).length=ps.length:=by rw[append_nil,<-r.length];exact F.len _ _ _ _ q2
 have bd:=hbd s2 us I2.vS hlen;rw[append_nil]at bd;refine wpAny_call (codeAny_mono (F.run X.A X.stack s2 H2 ⟨us,[]⟩ us vs D.rt (EK X.K R D.rt) hr I2.Pu bd r q2) λr s' hq=>?_);cases r with
 |error ev=>exact Rr O I2 hN hj hl hg hm hR hb hdx hdn hst hq
 |ok fl=>
  cases fl with
  |ret u=>
   obtain⟨v,H3,I3,rv,q3⟩:=I2.after hq;exact⟨v,σ,H3,I3,rv,q3⟩
  |next=>exact False.elim hq
  |brk=>exact False.elim hq
  |cont=>exact False.elim hq
end
end ShX
namespace Sh
open PySem PySem.Spec PyProof.Rows L2 ShX
def wy(P:Program)(w:World)(K:PySem.W.Frag)(a:Addr)(kvs:List (Key×V)):Prop:=(a==sysModules)=false/\∃(o:Obj)(es:Array DictEntry)(ep:Nat)(vs:List (Key×Value)),K.lookup a=some o/\o.ExactDict/\o.data= .dict es ep/\KeysOf (cR P w) es/\Pairs (cR P w) es.toList vs/\(vs.map (·.1)).Nodup/\KV kvs vs
section
variable{X:Cx}{pins:fZ}{σ:L2.St}{H:Hp}{s:Shared}{a:Addr}{kvs:List (Key×V)}{k:Key}{v:V}{u:Value}{A:Around}{E:iE}
theorem wy.dict(I:Inv X pins σ H s)(D:wy X.prog X.w X.K a kvs):∃vs,KV kvs vs/\s.heap.DictOf (cR X.prog X.w) a vs:=by
 obtain⟨_,o,es,ep,vs,hk,h1,h2,h3,h4,h5,h6⟩:=D;exact⟨vs,h6,o,es,ep,I.vS a o hk,h1,h2,h3,h4,h5⟩
theorem LJ{Q:iE}(I:Inv X pins σ H s)(D:wy X.prog X.w X.K a kvs)(hv:pz kvs k=some v)(ry:RelV (kV k) u)(h:∀w' s',Inv X pins σ H s'->RelV v w'->Q w' s'):wpAny (model X.prog X.w) A (getItem (.ref a) u) Q E s:=by
 obtain⟨vs,rel,dd⟩:=D.dict I;obtain⟨w',hw,rw'⟩:=qZ.some_of (v:=v) (o:=valueAt vs k) (by rw[<-hv];exact rel.val k);exact wpAny_getItem_of (Ho ry) dd.mapOf hw (h w' _ (I.tok _) rw')
theorem T1{Q:iE}(I:Inv X pins σ H s)(D:wy X.prog X.w X.K a kvs)(ry:RelV (kV k) u)(h:∀s',Inv X pins σ H s'->Q (.bool (pz kvs k).isSome) s'):wpAny (model X.prog X.w) A (compareOp .In u (.ref a)) Q E s:=by
 obtain⟨vs,rel,dd⟩:=D.dict I;refine wpAny_in_of (Ho ry) D.1 dd.mapOf ?_;rw[<-(rel.val k).Es];exact h _ (I.tok _)
variable{o i:Expr}{pos:Pos}{ty:TE}
def S9(kvs:List (Key×V))(ty:TE):TE:=λσ H Q=>ty σ H λy H2=>∃k v,y=kV k/\pz kvs k=some v/\Q v H2
def Ur(kvs:List (Key×V))(ty:TE):TE:=λσ H Q=>ty σ H λy H2=>∃k,y=kV k/\Q (.bl (pz kvs k).isSome) H2
theorem HU(D:wy X.prog X.w X.K a kvs)(ho:PE X o (tC (.ref a)))(hi:PE X i ty)(hs:Sm i):PE X (.Subscript o i pos) (S9 kvs ty):=by
 intro pins s σ H Q I h;refine QE PySem.F.slot_dict_getitem.lookup hs (dh (ho pins s σ H (λx H1=>x= .ref a/\H1=H) I ⟨rfl,rfl⟩) λu s1 ⟨x,H1,I1,rx,ex,eH⟩=>?_);subst ex eH;obtain rfl:u=Value.ref a:=rx;refine dh (hi pins s1 σ _ _ I1 h) λiv s2 ⟨y,H2,I2,ry,k,v,ey,hv,q2⟩=>?_;subst ey;obtain⟨vs,rel,dd⟩:=D.dict I2;exact⟨dd.typeIs,LJ I2 D hv ry λw' s3 I3 rw'=>⟨v,H2,I3,rw',q2⟩⟩
theorem Qj(D:wy X.prog X.w X.K a kvs)(hi:PE X i ty)(ho:PE X o (tC (.ref a))):PC X .In i o (Ur kvs ty):=by
 intro pins s σ H Q I h;refine dh (hi pins s σ H _ I h) λiv s1 ⟨y,H1,I1,ry,k,ey,q1⟩=>?_;subst ey;refine dh (ho pins s1 σ H1 (λx H2=>x= .ref a/\H2=H1) I1 ⟨rfl,rfl⟩) λu s2 ⟨x,H2,I2,rx,ex,eH⟩=>?_;subst ex eH;obtain rfl:u=Value.ref a:=rx;exact T1 I2 D ry λs3 I3=>⟨.bl (pz kvs k).isSome,_,I3,rfl,q1⟩
end
end Sh
end
section
namespace Sh
open PySem PySem.Spec PyProof.Rows L2 ShX
theorem Ln(a v:Value):checkTypeCall "enumerate" ⟨[a],[(Str.ofString "start",v)]⟩=pure ():=by kernel_rfl
theorem Lo(a v:Value):checkBuiltinCall "enumerate.__new__" ⟨[.type "enumerate",a],[(Str.ofString "start",v)]⟩=pure ():=by kernel_rfl
theorem Lp(a b v:Value):argsOk "object.__init__" ⟨[a,b],[(Str.ofString "start",v)]⟩:=by unfold argsOk;kernel_rfl
theorem LW(l:Addr)(items:Array Value)(n:Nat)(dd:Option Addr)(sl:Array (Option Value))(t:Tok):
  Meets (Builtin.«enumerate.__new__» ⟨[.type "enumerate",.ref l],[(Str.ofString "start",.int 1 t)]⟩) (λ_ R s=>s.heap.get? l=some {cls:= .type "list",dict:=dd,data:= .seq items n,slots:=sl}/\
   R (.ok (.ret (.ref (s.heap.push {cls:= .type "list_iterator",data:= .fields #[.ref l,.int 0 0]}).objs.size)))
    {s with heap:=(s.heap.push {cls:= .type "list_iterator",data:= .fields #[.ref l,.int 0 0]}).push {cls:= .type "enumerate",data:= .fields #[.none,.bool false,.ref s.heap.objs.size,rawInt 1,.none,.none]}}):=
 .of_wp λprog w A R s q=>by
  obtain⟨hp,gs,dr,tk,os⟩:=s;obtain⟨gl,q⟩:=q;have sb:=sub_enumerate;have f1:=AutoSeq1.idx_int;have gL:Heap.IsList (Shared.heap ⟨hp,gs,dr,tk,os⟩) l items:=⟨_,gl,rfl,n,rfl⟩
  wp_walk using AutoSeq1.wpAny_loadPart' gl
  refine wpAny_stack_any λst=>wpAny_pure ?_
  split
  ·rename_i c _ _ _ _ _;cases(c==Value.type "enumerate")
   ·wp_walk using AutoSeq1.wpAny_loadPart' gl,wpAny_pyIter_list gL
    exact⟨_,rfl,q⟩
   ·wp_walk using AutoSeq1.wpAny_loadPart' gl,wpAny_pyIter_list gL
    exact⟨_,rfl,q⟩
  ·wp_walk using AutoSeq1.wpAny_loadPart' gl,wpAny_pyIter_list gL
   exact⟨_,rfl,q⟩
end Sh
end
section
namespace Sh
open PySem PySem.Spec PyProof.Rows L2 ShX
section
variable{prog:Program}{w:World}{A:Around}{E:iE}{s:Shared}
theorem PY{T newId:String}{self a:Value}{kw:List (Str×Value)}(hl:typeLookup (.type T) "__init__"=pure (some (.builtin "object.__init__")))(hm:Bind.madeBy (.type T)=pure (some newId))(hne:(some newId !=some "object.__new__")=true):
  Meets (Builtin.«object.__init__» ⟨[self,a],kw⟩) (λ_ R s=>s.TypeIs self T/\R (.ok (.ret .none)) s):= .of_wp λprog w A R s hs=>by
 obtain⟨hT,hq⟩:=hs;repeat (any_goals(first|assumption|wp_step))
 exact⟨_,rfl,hq⟩
theorem QO{T newId:String}{Bn:Builtin}{a:Value}{kn:Str}{kv:Value}{S:PySem.Spec}{Q:iE}(ft:TypeCalled T newId "object.__init__")(hne:(some newId !=some "object.__new__")=true)
  (hct:checkTypeCall T ⟨[a],[(kn,kv)]⟩=pure ()) (hcn:checkBuiltinCall newId ⟨[.type T,a],[(kn,kv)]⟩=pure ()) (bS:∀obj,argsOk "object.__init__" ⟨[obj,a],[(kn,kv)]⟩) (en:entryFor table newId=some Bn) (g:Meets (Bn ⟨[.type T,a],[(kn,kv)]⟩) S)
  (h:S A.in1 (wants (λobj s₁=>s₁.TypeIs obj T/\Q obj s₁) E) s):wpAny (model prog w) A (call (.type T) [a] [(kn,kv)]) Q E s:=by
 obtain⟨c,tl,em⟩:=ft.mro;have e1:=ft.made;have e2:=ft.sub;refine wpAny_call (codeAny_of_tree ?_);show wpAny _ _ (callAny (.type T) _) _ _ _;refine wpAny_pure ⟨Code.quiet_builtin _ (by decide+kernel),codeAny_builtin F.entry_type_call ?_⟩;rw[Around.under_plain (weight_type_call_type T [a] _) (units_type_call_type T [a] _)];have h1:=ft.notType;have h2:=ft.canCreate;repeat (any_goals(first|assumption|wp_step))
 refine codeAny_mono (codeAny_call_builtin ft.plain en (wpAny_of_eq hcn (g prog w A.in1 _ s h))) λr s₁ hr=>?_;cases r with
 |error e=>exact hr
 |ok fl=>
  cases fl with
  |ret obj=>
   obtain⟨hT,hq⟩:=hr;have e3:=ft.init.lookup;have e4:=ft.init.bind obj;repeat (any_goals(first|assumption|wp_step))
   refine codeAny_mono (codeAny_call_builtin ft.init.plain F.entry_object_init (ft.init.check _ _ _ _ _ _ _ _ hT (bS obj) (PY ft.init.lookup ft.made hne prog w A.in1 (wants (λr s₂=>r= .none/\Q obj s₂) E) s₁ ⟨hT,rfl,hq⟩))) λr₂ s₂ hr₂=>?_;cases r₂ with
   |error e=>exact hr₂
   |ok fl₂=>
    cases fl₂ with
    |ret r=>obtain⟨rfl,hq⟩:=hr₂;repeat (any_goals(first|assumption|wp_step))
    |_=>exact hr₂.elim
  |_=>exact hr.elim
theorem xW{M:Model}{pos:Pos}{T:String}{args:List (Bool×Sem Value)}{kws:List (Option Str×Sem Value)}{Q:iE}(hplain:args.any (·.1)=false)(hkw:kws.any (·.1.isNone)=false)
  (h:wpAny M A (evalArgs (.type T) true args kws) (λa s₁=>wpAny M A (call (.type T) ([]++a.pos) a.kw) Q E s₁) E s):wpAny M A (callWith pos (.type T) [] args kws) Q E s:=by
 unfold callWith;refine wpAny_bind (wpAny_holding (wpAny_mono h (λa s₁ h₁=>wpAny_bind (wpAny_standAt ?_)) λ_ _ x=>x));simp only[hplain,hkw,Bool.or_false];refine wpAny_bind (wpAny_pure ?_);exact wpAny_bind (wpAny_mono h₁ (λr s₂ hr=>wpAny_bind (wpAny_holding (wpAny_point (wpAny_pure hr)))) λ_ _ x=>x)
theorem Ja{l:Addr}{items:Array Value}{t:Tok}{Q:iE}(gL:s.heap.IsList l items)
  (h:∀h',IsEnum h' (s.heap.objs.size+1) s.heap.objs.size 1 .none->h'.IsListIter s.heap.objs.size l 0->(∀b o,s.heap.get? b=some o->h'.get? b=some o)->Q (.ref (s.heap.objs.size+1)) {s with heap:=h'}):
  wpAny (model prog w) A (call (.type "enumerate") [.ref l] [(Str.ofString "start",.int 1 t)]) Q E s:=by
 obtain⟨⟨c,dd,dt,sl⟩,gl,hc,n,hd⟩:=gL;replace hc:c= .type "list":=hc;replace hd:dt= .seq items n:=hd;subst hc hd;refine QO F.called_enumerate (by decide) (Ln _ _) (Lo _ _) (λobj=>Lp obj _ _) F.entry_enumerate_new (LW l items n dd sl t) ⟨gl,?_⟩;have z:(s.heap.push {cls:= .type "list_iterator",data:= .fields #[.ref l,.int 0 0]}).objs.size=s.heap.objs.size+1:=size_push ..;show _/\_;rw[z];have he:IsEnum ((s.heap.push {cls:= .type "list_iterator",data:= .fields #[.ref l,.int 0 0]}).push {cls:= .type "enumerate",data:= .fields #[.none,.bool false,.ref s.heap.objs.size,rawInt 1,.none,.none]}) (s.heap.objs.size+1) s.heap.objs.size 1 .none:=by
  have:=get?_push_size (s.heap.push {cls:= .type "list_iterator",data:= .fields #[.ref l,.int 0 0]}) (o:={cls:= .type "enumerate",data:= .fields #[.none,.bool false,.ref s.heap.objs.size,rawInt 1,.none,.none]}) rfl;rw[z]at this;exact this
 exact⟨⟨_,he,rfl⟩,h _ he ⟨_,get?_push_of_some _ (get?_push_size _ rfl),rfl,rfl⟩ λb o x=>get?_push_of_some _ (get?_push_of_some _ x)⟩
theorem yP{it:Addr}{fp:List Addr}{n:Nat}{P:Nat->Value->Prop}{St:Nat->Heap->Prop}(D:Draws prog w A it fp n P St):Draws prog w A it fp (n+1) (λj v=>P (j-1) v) (λj h=>1<=j/\St (j-1) h)where
 live:=λj h st=>D.live _ h st.2
 frame:=λj h h' st k=>⟨st.1,D.frame _ h h' st.2 k⟩
 item:=λj s Q E hj st hQ=>D.item (j-1) s Q E (by have:=st.1;omega) st.2 λx h' tk p st' sb=>hQ x h' tk p ⟨by omega,by rw[show j+1-1=j-1+1 by have:=st.1;omega];exact st'⟩ sb
 done:=λs Q E st hE=>D.done s Q E st.2 hE
end
def Ra(K:PySem.W.Frag)(a:Addr):It:=
 ⟨λi H=>∃(xs:List V)(x:V),aH K H a xs/\xs[i]?=some x,λi H v H'=>∃T x,v= .ref T/\H T=none/\H'=upd H T (.tup [.int ((i+1:Nat):Int),x])/\∀xs,aH K H a xs->xs[i]?=some x,λi H=>∃xs:List V,aH K H a xs/\xs.length=i⟩
theorem JY{P:Program}{w:World}{K:PySem.W.Frag}{elts:List Expr}{kk:Nat}{tpos:Pos}(a e it:Addr):
  Turn P w K (.Tuple elts kk tpos) (Ra K a) [e,it] e (λi h=>(∃old,IsEnum h e it ((i+1:Nat):Int) old)/\h.IsListIter it a i/\e≠it)where
 mem:=by simp
 obj:=λi h st b hb=>by
  obtain⟨⟨old,he⟩,⟨o,ho,hc,hd⟩,_⟩:=st;have e':b=e\/b=it:=by simpa using hb
  rcases e' with z|z
  ·rw[z];exact⟨_,he,λv q=>nomatch q⟩
  ·rw[z];exact⟨o,ho,λv q=>by rw[hd]at q;cases q⟩
 keep:=λi h h' st k=>let ⟨⟨old,he⟩,hi,hne⟩:=st;⟨⟨old,k e (by simp) _ he⟩,hi.at λo q=>k it (by simp) o q,hne⟩
 item:=by
  intro X hP hw hK hc i pins s σ H E I hf st hg;subst hP hw hK;obtain⟨⟨old,he⟩,hit,hne⟩:=st;obtain⟨xs,x,hq,hx⟩:=hg;obtain⟨its,rv,p,hz⟩:=I.list hq;obtain⟨u,hu,ru⟩:=rv.get hx;have hel:e<s.heap.objs.size:=lt_size he;have hil:it<s.heap.objs.size:=by obtain⟨_,q,_⟩:=hit;exact lt_size q
  have hil2:it≠a:=λq=>by
   obtain⟨o1,g1,c1,_⟩:=hit;obtain⟨o2,g2,c2,_⟩:=p.isList;rw[q,g2]at g1;obtain rfl:=Option.some.inj g1;rw[c1]at c2;exact absurd c2 (by decide)
  have hea:e≠a:=λq=>by
   obtain⟨o2,g2,c2,_⟩:=p.isList;have g1:s.heap.get? e=_:=he;rw[q,g2]at g1;have c3:o2.cls= .type "enumerate":=by rw[Option.some.inj g1]
   rw[c3]at c2;exact absurd c2 (by decide)
  have hlt:i<its.toArray.size:=by
   have:=(List.getElem?_eq_some_iff.mp hx).1;have hl:=rv.length;simp;omega
  refine wpAny_pyNext_enum_itemD (i:=i+1) (yP (Draws.list (A:=X.A.in1) (I.ok.hd hc) it a (Ne.symm hil2) its.toArray)) he ⟨by omega,hit,p.isList⟩ (by omega) hne (by simp;exact⟨hne,hea⟩) λx' h' tk px ho st' hT hsz hk=>?_;have ex:x'=u:=by
   have px:its.toArray[i]?=some x':=px;have hu:its[i]?=some u:=hu;simp only[List.getElem?_toArray]at px;rw[hu]at px;exact(Option.some.inj px).symm
  subst ex;have hit':h'.IsListIter it a (i+1):=st'.2.1;refine⟨_,rfl,wpAny_letOwnedTupleGo_enum (s:={s with heap:=h',toks:=tk+1}) ho λh'' he' sb=>?_⟩;have hT2:h''.get? s.heap.objs.size=some {cls:= .type "tuple",data:= .seq #[.int ((i+1:Nat):Int) tk,x']}:=(sb.2 _ (ne_of_gt hel)).trans hT;have new:di X.prog X.w (upd H s.heap.objs.size (.tup [.int ((i+1:Nat):Int),x])) h'' s.heap.objs.size (.tup [.int ((i+1:Nat):Int),x]):=
   ⟨by show 2<=sizeLine;decide,[.int ((i+1:Nat):Int) tk,x'],.cons ⟨_,rfl⟩ (.cons ru .nil),⟨_,hT2,rfl,_,rfl⟩⟩
  have I1:Inv X pins σ (upd H s.heap.objs.size (.tup [.int ((i+1:Nat):Int),x])) {s with heap:=h'',toks:=tk+1}:=
   I.uJ (ch:=[e,it]) (λb ob hb q=>(sb.2 b (λz=>hb (by simp[z]))).trans (hk b ob (λz=>hb (by simp[z])) (λz=>hb (by simp[z])) q)) hf (le_refl _) new
  refine⟨.ref s.heap.objs.size,_,I1,rfl,⟨_,x,rfl,I.bS.fresh (le_refl _),rfl,λys hy=>by rw[I.oN hy hq];exact hx⟩,⟨⟨x',?_⟩,hit'.at λo q=>(sb.2 it (Ne.symm hne)).trans q,hne⟩,λb hb=>?_⟩
  ·have e1:((i+1+1:Nat):Int)=((i+1:Nat):Int)+1:=by omega
   rw[e1];exact he'
  ·have hb':b<s.heap.objs.size:=by
    have e':b=e\/b=it:=by simpa using hb
    rcases e' with z|z
    ·rw[z];exact hel
    ·rw[z];exact hil
   rw[ak (ne_of_lt hb')];exact(hf b hb).1
 done:=by
  intro X hP hw hK hc i pins s σ H E I hf st hg;subst hP hw hK;obtain⟨⟨old,he⟩,hit,hne⟩:=st;obtain⟨xs,hq,hx⟩:=hg;obtain⟨its,rv,p,hz⟩:=I.list hq;obtain⟨f0,f1,f2,f3,f4,f5⟩:=hf it (by simp);have hl:=rv.length;have hil2:it≠a:=λq=>by
   obtain⟨o1,g1,c1,_⟩:=hit;obtain⟨o2,g2,c2,_⟩:=p.isList;rw[q,g2]at g1;obtain rfl:=Option.some.inj g1;rw[c1]at c2;exact absurd c2 (by decide)
  have ei:i=its.toArray.size:=by simp;omega
  subst ei;exact wpAny_pyNext_enum_endD (yP (Draws.list (A:=X.A.in1) (I.ok.hd hc) it a (Ne.symm hil2) its.toArray)) he ⟨Nat.le_add_left _ _,hit,p.isList⟩ λh' eb=>⟨rfl,I.turned (t':=s.toks) (λb o hb q=>eb b o hb q) f0 f1 f3 f4 f5⟩
 self:=λA i s Q E st h=>let ⟨⟨_,he⟩,_⟩:=st;wpAny_pyIter_enum he h
def RB(K:PySem.W.Frag)(ta tb:TA):TI:=λσ H R=>ta σ H λvs H1=>tb σ H1 λzs H2=>∃a xs,vs=[.ref a]/\zs=[.int 1]/\aH K H2 a xs/\R (Ra K a) H2
theorem Oq{X:Cx}{e v:Expr}{ta tb:TA}{p pos kp tpos:Pos}{elts:List Expr}{kk:Nat}(hg:Gl X "enumerate")(hm:X.mg "enumerate"=none)(ha:PA X [e] ta)(hk:PK X [⟨some "start",v,kp⟩] tb)(hs:starEach [e] X.env=[(false,eval e X.env)]:=by rfl):
  PI X (.Tuple elts kk tpos) (.Call (.Name "enumerate" p) [e] [⟨some "start",v,kp⟩] pos) (RB X.K ta tb):=by
 intro pins s σ H R I h;refine wpAny_Call_Name_kw (mm I hg hm boot_enumerate ?_);have ha':=ha pos pins s σ H _ I h;rw[hs]at ha'⊢;refine xW rfl rfl (evalArgs_kwB rfl (dh ha' λus s1 ⟨vs,H1,I1,r1,q1⟩=>?_));refine dh (hk pos pins s1 σ H1 _ I1 q1) λws s2 ⟨zs,H2,I2,r2,q2⟩=>?_;obtain⟨a,xs,ex,ez,hq,q⟩:=q2;subst ex;subst ez;obtain⟨u,rfl,ru⟩:=r1.one;obtain⟨z,rfl,rz⟩:=r2.one;cases ru;obtain⟨t,rfl⟩:=rz;obtain⟨its,rv,p',hz⟩:=I2.list hq;refine Ja p'.isList λh' he hit hk=>wpAny_pyIter_enum he ?_;have I3:Inv X pins σ H2 {s2 with heap:=h'}:=I2.kept (t':=s2.toks) hk;refine⟨s2.heap.objs.size+1,[s2.heap.objs.size+1,s2.heap.objs.size],_,_,H2,rfl,I3,JY a (s2.heap.objs.size+1) s2.heap.objs.size,⟨⟨.none,he⟩,hit,Nat.succ_ne_self _⟩,λb hb=>?_,q⟩;have e':b=s2.heap.objs.size+1\/b=s2.heap.objs.size:=by simpa using hb
 have hle:s2.heap.objs.size<=b:=by
  rcases e' with z|z
  ·rw[z];exact le_add_right _ _
  ·rw[z];exact le_refl _
 exact I2.Jm hle (I2.bS.fresh hle)
theorem Iv{K:PySem.W.Frag}{a:Addr}{xs:List V}:Tells (Ra K a) (λH=>aH K H a xs) xs.length (λi x H=>∃T y,x= .ref T/\H T=some (.tup [.int ((i+1:Nat):Int),y])/\xs[i]?=some y):=
 ⟨λi H hi h=>⟨xs,xs[i],h,by simp[hi]⟩,λi H x H' hi h ⟨T,y,e1,hn,e2,q⟩=>⟨by rw[e2];exact ah hn,T,y,e1,by rw[e2];exact af,q xs h⟩,λH h=>⟨xs,h,rfl⟩⟩
end Sh
end
section
namespace Sh
open PySem PySem.Spec PyProof.Rows L2 ShX
open PySem.W (CodeHd tabObj)
section
variable{prog:Program}{w:World}{A:Around}{E:iE}{s:Shared}
theorem G5{r:Addr}{j:Int}{t u v:Tok}{n:Nat}{Q:List Value->Shared->Prop}(hh:A.handled=none)(hr:IsRange s.heap r 0 j 1 t u v)(hs:Builtin.Range.small 0 j 1=true)(hn:Builtin.Range.rangeSize 0 j 1=n)(hl:n<=2^24)
  (h:∀h' tk(acc:Array Value),(∀b o,s.heap.get? b=some o->h'.get? b=some o)->s.heap.objs.size<h'.objs.size->ItemsOf (λi v=>∃t,v= .int (0+i*1) t) acc n->Q acc.toList {s with heap:=h',toks:=tk}):wpAny (model prog w) A (collect (.ref r)) Q E s:=by
 unfold collect;refine wpAny_bind (wpAny_runValue (codeAny_builtin F.entry_proto_collect ?_));rw[Around.under_plainId F.plain_proto_collect _];show wpAny _ A.in1 (newList []>>=λl=>again (.builtin "list.__iadd__" ⟨[l,.ref r],[]⟩)) _ _ s;refine wpAny_bind (wpAny_newObj_type ?_);refine wpAny_pure ⟨plainId_quiet F.plain_list_iadd _,codeAny_builtin F.entry_list_iadd ?_⟩;rw[Around.under_plainId F.plain_list_iadd _];show wpAny _ A.in1 (Builtin.List.listExtendWith (.ref s.heap.objs.size) (.ref r) (.ref s.heap.objs.size)) _ _ _;have hS0:(s.heap.push {cls:= .type "list",data:= .seq ([]:List Value).toArray}).get? s.heap.objs.size=some {cls:= .type "list",data:= .seq #[]}:=get?_push_size _ rfl;have fin:∀(h':Heap)(tk:Nat)(acc:Array Value)(c:Nat),(∀b o,b≠s.heap.objs.size->(s.heap.push {cls:= .type "list",data:= .seq ([]:List Value).toArray}).get? b=some o->h'.get? b=some o)->h'.get? s.heap.objs.size=some {cls:= .type "list",dict:=none,data:= .seq acc c,slots:= #[]}->
   ItemsOf (λi v=>∃t,v=Value.int (0+i*1) t) acc n->wpAny (model prog w) A (load s.heap.objs.size>>=λo=>match o.data with| .seq xs _=>pure xs.toList|_=>unsupported "internal:collect") Q E {s with heap:=h',toks:=tk}:=λh' tk acc c hk hS ha=>
  wpAny_bind (wpAny_load hS (wpAny_pure (h h' tk acc (λb o e=>hk b o (ne_of_lt (lt_size e)) (get?_push_of_some _ e)) (lt_size hS) ha)))
 refine wpAny_mono (wpAny_extend_range (s:={s with heap:=s.heap.push {cls:= .type "list",data:= .seq ([]:List Value).toArray}}) (A:=A) (R:=λr s'=>r= .ok (.ret (.ref s.heap.objs.size))/\wpAny (model prog w) A (load s.heap.objs.size>>=λo=>match o.data with| .seq xs _=>pure xs.toList|_=>unsupported "internal:collect") Q E s') hh (get?_push_of_some _ hr) hs hn hl _ _ 0 hS0 λh' tk acc c hk hS ha=>⟨rfl,fin h' tk acc c hk hS ha⟩) (λfn s' x=>?_) λe s' x=>nomatch x.1;cases fn with
 |done f=>
  obtain⟨e,y⟩:=x;cases e;exact y
 |again c'=>exact⟨x.1,codeAny_mono x.2 λr s' y=>by
   obtain⟨e,z⟩:=y;cases e
   exact z⟩
theorem JQ{h₀:Heap}{L r q:Addr}{m:rn}{news:fZ}{kz:List Int}{j:Int}{t u v:Tok}{n:Nat}{Q:iE}(Fm:PyProof.Rows.Fr h₀ L s.heap m)(N:News h₀ L s.heap news)
  (hh:A.handled=none) (hr:IsRange s.heap r 0 j 1 t u v) (hs:Builtin.Range.small 0 j 1=true) (hn:Builtin.Range.rangeSize 0 j 1=n) (hl:n<=1000) (hlen:kz.length=n)
  (turn:∀(i:Nat)(t:Tok)(k:Int),kz[i]?=some k->∀(h:Heap)(tk:Nat)(own:fZ),PyProof.Rows.Fr h₀ L h m->News h₀ L h (news++own)->
   wpAny (model prog w) A.in1.in1 (call (.ref q) [.int (i:Int) t]) (KskEnd h₀ L m (news++own) k {s with heap:=h,toks:=tk}) (λ_ _=>False) {s with heap:=h,toks:=tk})
  (h:∀D h' tk(out:Array Value)c(vs:List Value),PyProof.Rows.Fr h₀ L h' m->News h₀ L h' ((D,seqObj "list" out c)::news)->s.heap.objs.size<=D->vs.length=n->(∀(i:Nat)(v:Value),vs[i]?=some v->∃t,v=Value.int (i:Int) t)->KskOutSt false kz vs out.toList->Q (.ref D) {s with heap:=h',toks:=tk}):
  wpAny (model prog w) A (call (.builtin "sorted") [.ref r] [(Str.ofString "key",.ref q)]) Q E s:=by
 have hb:(1000:Nat)<sizeLine:=by decide
 refine call_function_entry_kw kind_sorted plain_sorted entry_sorted (ksk_s1 _ _) ?_;unfold Builtin.«sorted»;refine wpAny_bind (m:=checkCount "sorted" 1 1 _) (wpAny_pure ?_);refine wpAny_bind (G5 (A:=A.in1) hh hr hs hn (by omega) λh1 tk1 acc hk1 hlt1 ha=>?_);obtain⟨a1,a2⟩:=ha;have lv:acc.toList.length=n:=by rw[length_toList];exact a1
 refine wpAny_bind (wpAny_newList ?_ (by omega));have hoL:(h1.push (seqObj "list" acc.toList.toArray 0)).get? h1.objs.size=some (seqObj "list" acc.toList.toArray 0):=get?_push_size _ rfl;have keep:∀b o,s.heap.get? b=some o->(h1.push (seqObj "list" acc.toList.toArray 0)).get? b=some o:=λb o q=>get?_push_of_some _ (hk1 b o q);have hL:L<s.heap.objs.size:=Fm.ns.lt;have hsz:s.heap.objs.size<=h1.objs.size:=le_of_lt hlt1;refine wpAny_bind (wpAny_holding (wpAny_call_entry_kw slot_list_sort ⟨_,hoL,rfl⟩ entry_list_sort ?body (ksk_l1 _ _)))
 case body=>
  show wpAny (model prog w) A.in1.in1 (Builtin.«list.sort» ⟨[.ref h1.objs.size],[(Str.ofString "key",.ref q)]⟩) _ _ _;rw[ksk_t1];refine ksk_sortSt (s:={s with heap:=h1.push (seqObj "list" acc.toList.toArray 0),toks:=tk1}) (kz:=kz) (vs:=acc.toList) (Fm.kept keep) (N.grown keep) hoL (ne_of_gt (lt_of_lt_of_le hL hsz)) (Heap.get?_none_of_le (le_trans Fm.above (le_trans (le_of_lt hL) hsz)))
   (λp hp=>ne_of_lt (lt_of_lt_of_le (lt_size (N p hp).1) hsz)) (by omega) (by omega) (λi v k hv hk h tk own F' N'=>?_) λh' tk out c F' N' k'=>⟨_,rfl,?_⟩
  ·obtain⟨t',e'⟩:=a2 i v (by rw[<-Array.getElem?_toList];exact hv);subst e';have:=turn i t' k hk h tk own F' N';simpa using this
  ·refine wpAny_pure ⟨_,rfl,h _ h' tk out c acc.toList F' N' hsz lv (λi v hv=>?_) k'⟩;obtain⟨t',e'⟩:=a2 i v (by rw[<-Array.getElem?_toList];exact hv);exact⟨t',by rw[e'];simp⟩
end
def nn:Value->Nat
 | .int i _=>i.toNat
 |_=>0
theorem QQ{n:Nat}{g:Nat->Int}{vs:List Value}(hl:vs.length=n)(hv:∀(i:Nat)(v:Value),vs[i]?=some v->∃t,v=Value.int (i:Int) t):
  (∀p∈((List.range n).map g).zip vs,∃(i:Nat)(t:Tok),p=(g i,Value.int (i:Int) t))/\(((List.range n).map g).zip vs).map (λp=>nn p.2)=List.range n:=by
 have at':∀i,i<n->∃t,(((List.range n).map g).zip vs)[i]?=some (g i,Value.int (i:Int) t):=λi hi=>by
  obtain⟨t,ht⟩:=hv i vs[i] (by simp);refine⟨t,?_⟩;rw[List.getElem?_zip_eq_some];exact⟨by rw[getElem?_map,getElem?_range hi];rfl,by rw[<-ht];simp⟩
 have len:(((List.range n).map g).zip vs).length=n:=by simp[hl]
 constructor
 ·intro p hp;obtain⟨i,hi⟩:=List.mem_iff_getElem?.mp hp;obtain⟨t,ht⟩:=at' i (by have:=(List.getElem?_eq_some_iff.mp hi).1;omega);rw[hi]at ht;exact⟨i,t,Option.some.inj ht⟩
 ·refine ext_getElem? λi=>?_;rw[getElem?_map];by_cases hi:i<n
  ·obtain⟨t,ht⟩:=at' i hi;rw[ht,getElem?_range hi];simp[nn]
  ·rw[getElem?_eq_none (by omega),getElem?_eq_none (by simp;omega)];rfl
theorem Qi{n:Nat}{g:Nat->Int}{vs out:List Value}(hl:vs.length=n)(hv:∀(i:Nat)(v:Value),vs[i]?=some v->∃t,v=Value.int (i:Int) t)(h:KskOutSt false ((List.range n).map g) vs out):
  ∃ord:List Nat,Vals (ord.map λ(i:Nat)=>V.int (i:Int)) out/\ord.Perm (List.range n)/\ord.Pairwise (λa b=>g a<=g b)/\∀z:Int,ord.filter (λi=>g i==z)=(List.range n).filter λi=>g i==z:=by
 obtain⟨ps,hp,ho,hs,hst⟩:=h;obtain⟨z1,z2⟩:=QQ (g:=g) hl hv;have all:∀p∈ps,∃(i:Nat)(t:Tok),p=(g i,Value.int (i:Int) t):=λp m=>z1 p (hp.mem_iff.mp m);have e1:∀(l:List (Int×Value)),(∀p∈l,∃(i:Nat)(t:Tok),p=(g i,Value.int (i:Int) t))->∀z:Int,(l.map λp=>nn p.2).filter (λi=>g i==z)=(l.filter λp=>p.1==z).map λp=>nn p.2:=λl hl z=>by
  rw[filter_map];congr 1;refine filter_congr λp m=>?_;obtain⟨i,t,rfl⟩:=hl p m;show(g (nn (.int (i:Int) t))==z)=_;simp[nn]
 refine⟨ps.map λp=>nn p.2,?_,by have:=hp.map (λp=>nn p.2);rw[z2]at this;exact this,?_,λz=>?_⟩
 ·rw[ho];clear hp hs hst e1 ho
  induction ps with
  |nil=>exact .nil
  |cons p r ih=>
   obtain⟨i,t,rfl⟩:=all p mem_cons_self;refine .cons ⟨t,?_⟩ (ih λq m=>all q (mem_cons_of_mem _ m));simp[nn]
 ·rw[pairwise_map];refine hs.imp_of_mem λ{p q}hp' hq' hr=>?_;obtain⟨i,t,rfl⟩:=all p hp';obtain⟨k,t',rfl⟩:=all q hq';simpa[nn]using hr
 ·rw[e1 ps all,hst z,<-e1 _ z1,z2]
def MG(H:Hp)(c:Addr)(qual:Str):Prop:=∃oc φ vs t,H c=some (.jb oc (.ext φ))/\oc.data= .fields vs/\vs[1]?=some (.str qual t)
def ML(H:Hp)(P:Addr)(lp:Pos)(qual:Str):Prop:=∃ps,H P=some (.qX ps)/\TriplesOk ps.toList/\(codeAmong lp ps.toList=none\/∃c,codeAmong lp ps.toList=some (.ref c)/\MG H c qual)
abbrev Kz(ap:Pos):Arguments:={posonlyargs:=[],args:=[{arg:="region",annotation:=none,pos:=ap}],vararg:=none,kwonlyargs:=[],kw_defaults:=[],kwarg:=none,defaults:=[]}
abbrev KA(p1 p2 p3 p4:Pos):Expr:= .UnaryOp .USub (.Subscript (.Name "rests" p1) (.Name "region" p2) p3) p4
abbrev wV:Scope:={kind:= .function,names:=[(Str.ofString "region",.local),(Str.ofString "rests",.free)],isGenerator:=false,isCoroutine:=false,more:=[]}
def A9(h:Heap)(f:Addr)(qual:Str)(ap p1 p2 p3 p4:Pos)(cell c:Addr):Prop:=∃pm ctv,h.get? f=some {cls:= .type "function",data:= .func (PySem.W.kla_fn "<lambda>" qual (Kz ap) (KA p1 p2 p3 p4) wV [(Str.ofString "rests",cell)] pm (.ref c) ctv)}
def QR(H:Hp)(f:Addr)(qual:Str)(ap p1 p2 p3 p4:Pos)(cell:Addr):Prop:=∃c,H f=some (.ext λh=>A9 h f qual ap p1 p2 p3 p4 cell c)/\MG H c qual
def Us(P:Addr)(lp:Pos)(qual:Str)(ap p1 p2 p3 p4:Pos)(cell:Addr):TE:=λσ H Q=>ML H P lp qual/\∀H' f,jF P H H'->ML H' P lp qual->QR H' f qual ap p1 p2 p3 p4 cell->H f=none->Q (.ref f) H'
theorem PZ{X:Cx}{pins:fZ}{σ:L2.St}{H:Hp}{s:Shared}(I:Inv X pins σ H s){P c:Addr}{ps more:Array Value}{oc:Obj}{h':Heap}{tk:Nat}(hP:H P=some (.qX ps))(hx:ExtBut P s.heap h')(hge:s.heap.objs.size<=c)
  (hoc:h'.get? c=some oc) (hp':h'.get? P=some (tabObj (ps++more))):Inv X pins σ (upd (upd H P (.qX (ps++more))) c (.jb oc (.ext λ_=>True))) {s with heap:=h',toks:=tk}:=by
 have cn:H c=none:=I.bS.fresh hge;have Pc:P≠c:=aq hP cn;have ne1:∀b o,H b=some o->b≠c:=λb o e=>aq e cn;have old:∀b o,b≠P->H b=some o->upd (upd H P (.qX (ps++more))) c (.jb oc (.ext λ_=>True)) b=some o:=λb o hb e=>by rw[ak (ne1 b o e),ak hb];exact e
 have atP:upd (upd H P (.qX (ps++more))) c (.jb oc (.ext λ_=>True)) P=some (.qX (ps++more)):=by rw[ak Pc,af]
 refine I.un (t':=tk) ⟨λb o e n _ _=>hx b o (λz=>by rw[z,hP]at n;cases n) e,λb o e n _ _=>⟨o.slots,hx b o (λz=>by rw[z,hP]at n;cases n) e⟩,λb o e n _=>?_,λb o e _=>?_,λb xs e=>old b _ (λz=>by rw[z,hP]at e;cases e) e,
  λb o u e=>old b _ (λz=>by rw[z,hP]at e;cases e) e,λb qs e=>?_⟩ λb u e=>?_
 ·rw[ak (λz=>by rw[z]at e;exact absurd (lt_of_lt_of_le (lt_size e) hge) (lt_irrefl _)),ak (λz=>by rw[z,hP]at n;cases n)];exact n
 ·by_cases hb:b=P
  ·rw[hb];exact⟨_,hp'⟩
  ·exact⟨o,hx b o hb e⟩
 ·by_cases hb:b=P
  ·rw[hb]at e⊢;rw[hP]at e;cases e;exact⟨more,atP⟩
  ·exact⟨#[],by rw[old b _ hb e];simp⟩
 ·by_cases hc:b=c
  ·subst hc;rw[af]at e;cases e;exact⟨hoc,trivial,⟨_,hoc⟩,λ_ _ _ _=>trivial⟩
  ·rw[ak hc]at e;by_cases hb:b=P
   ·subst hb;rw[af]at e;cases e;exact hp'
   ·rw[ak hb]at e;refine(I.bS b u e).m8 (λd v hd q=>hx d v ?_ q) (λd q=>old d _ (λz=>by rw[z,hP]at q;cases q) q) λd xs q=>old d _ (λz=>by rw[z,hP]at q;cases q) q;rcases hd with hd|hd
    ·rw[hd];exact hb
    ·exactλz=>by rw[z,hP]at hd;cases hd
theorem RX{X:Cx}{P c cell:Addr}{qual:Str}{lp ap p1 p2 p3 p4:Pos}(hcode:X.env.code= .ref c)(hC:∀b:Heap,X.K.In b->CodeHd b c P)
  (hq:X.env.qual++"<lambda>"=qual) (hcl:closureFor wV X.env=pure [((Str.ofString "rests"),cell)]):PE X (.Lambda (Kz ap) (KA p1 p2 p3 p4) wV lp) (Us P lp qual ap p1 p2 p3 p4 cell):=by
 intro pins s σ H Q I h;obtain⟨⟨ps,hP,htr,hcase⟩,k⟩:=h;obtain⟨bm,ob,b1,b2,b3,b4,b5,b6,b7⟩:=I.mod.bm;have hP':s.heap.get? P=some (tabObj ps):=I.bS P _ hP;have nP:∀b o,X.base.get? b=some o->b≠P:=λb o e z=>by
  have:=(I.bs b o e).2;rw[z,hP]at this;cases this
 have hgl:s.heap.Ns mainGlobals X.mg:=I.mod.glob.keeps I.bk;have hgP:mainGlobals≠P:=by
  obtain⟨o,_,_,e,_⟩:=I.mod.glob;exact nP _ _ e
 have hb:s.heap.BuiltinsAt X.mg P:=⟨bm,ob,b1,b2,b3,nP _ _ b4,I.bk _ _ b4,b5,b6,b7⟩
 refine PySem.W.kla_eval rfl ?_;rw[hq];rcases hcase with hnf|⟨c',hf,oc,u,vs,t,q1,q2,q3⟩
 ·refine PySem.W.kla_makeFunction hcl I.ok.glob hgl hcode (hC _ I.vS) hP' htr hnf hgP hb λc' ctv h' tk hx hge hlt hrec htb=>?_;obtain⟨c2,oc,vs,t,e2,hoc,hd,hv⟩:=hrec;cases e2;have I1:=PZ (tk:=tk) I hP hx hge hoc htb;have cn:H c'=none:=I.bS.fresh hge;have Pc:P≠c':=aq hP cn;have hsz:s.heap.objs.size<=h'.objs.size:=le_trans hge (le_of_lt hlt);generalize hH:upd (upd H P (.qX (ps++ #[rawInt lp.line,rawInt lp.col,.ref c']))) c' (.jb oc (.ext λ_=>True))=H1 at I1;have a1:H1 c'=some (.jb oc (.ext λ_=>True)):=by rw[<-hH,af]
  have a2:H1 P=some (.qX (ps++ #[rawInt lp.line,rawInt lp.col,.ref c'])):=by rw[<-hH,ak Pc,af]
  have bu:jF P H H1:=λb o hb e=>by rw[<-hH,ak (aq e cn),ak hb];exact e
  have fn:H1 h'.objs.size=none:=I1.bS.fresh (le_refl _);have ht:(ps++ #[rawInt lp.line,rawInt lp.col,Value.ref c']).toList=ps.toList++[rawInt lp.line,rawInt lp.col,.ref c']:=by simp
  have kp:∀b o,H1 b=some o->upd H1 h'.objs.size (.ext λh=>A9 h h'.objs.size qual ap p1 p2 p3 p4 cell c') b=some o:=λb o e=>by rw[ak (aq e fn)];exact e
  refine⟨.ref h'.objs.size,_,I1.laid (t':=tk) (a:=h'.objs.size) (o:= .ext λh=>A9 h h'.objs.size qual ap p1 p2 p3 p4 cell c') (λb o e=>get?_push_of_some _ e) (le_refl _) ⟨⟨_,ctv,get?_push_size _ rfl⟩,⟨_,get?_push_size _ rfl⟩,λh1 h2 ⟨pm,ct,e⟩ z=>⟨pm,ct,z _ e⟩⟩,rfl,k _ _ (λb o hb e=>kp _ _ (bu b o hb e)) ?_ ⟨c',af,?_⟩ (I.bS.fresh hsz)⟩
  ·exact⟨_,kp _ _ a2,by rw[ht];exact TriplesOk_snoc _ _ _ _ htr,.inr ⟨c',by rw[ht];exact codeAmong_snoc _ htr hnf,oc,_,vs,t,kp _ _ a1,hd,hv⟩⟩
  ·exact⟨oc,_,vs,t,kp _ _ a1,hd,hv⟩
 ·refine PySem.W.kla_makeFunctionHit hcl I.ok.glob hgl hcode (hC _ I.vS) hP' htr hf hb λctv h' tk hk hsz=>?_;have I1:Inv X pins σ H {s with heap:=h',toks:=tk}:=I.kept hk;have fn:H h'.objs.size=none:=I1.bS.fresh (le_refl _);have kp:∀b o,H b=some o->upd H h'.objs.size (.ext λh=>A9 h h'.objs.size qual ap p1 p2 p3 p4 cell c') b=some o:=λb o e=>by rw[ak (aq e fn)];exact e
  refine⟨.ref h'.objs.size,_,I1.laid (t':=tk) (a:=h'.objs.size) (o:= .ext λh=>A9 h h'.objs.size qual ap p1 p2 p3 p4 cell c') (λb o e=>get?_push_of_some _ e) (le_refl _) ⟨⟨_,ctv,get?_push_size _ rfl⟩,⟨_,get?_push_size _ rfl⟩,λh1 h2 ⟨pm,ct,e⟩ z=>⟨pm,ct,z _ e⟩⟩,rfl,k _ _ (λb o _ e=>kp _ _ e) ?_ ⟨c',af,?_⟩ fn⟩
  ·exact⟨_,kp _ _ hP,htr,.inr ⟨c',hf,oc,u,vs,t,kp _ _ q1,q2,q3⟩⟩
  ·exact⟨oc,u,vs,t,kp _ _ q1,q2,q3⟩
theorem Nv{X:Cx}{pins:fZ}{σ:L2.St}{H:Hp}{s:Shared}(I:Inv X pins σ H s){D:Addr}{o:HO}{h':Heap}{tk:Nat}{m:rn}(hm:s.heap.Ns X.env.locals m)(hm':h'.Ns X.env.locals m)
  (k:∀b u,b≠X.env.locals->s.heap.get? b=some u->h'.get? b=some u) (hD:s.heap.objs.size<=D) (new:di X.prog X.w (upd H D o) h' D o):Inv X pins σ (upd H D o) {s with heap:=h',toks:=tk}:=by
 have dn:H D=none:=I.bS.fresh hD;have kp:∀b u,H b=some u->upd H D o b=some u:=λb u e=>by rw[ak (aq e dn)];exact e
 have nL:∀b u,H b=some u->b≠X.env.locals:=λb u e=>aq e I.free;refine I.step (g':=s.gens) (d':=s.drawn) (t':=tk) (ch:=[]) (λ_ z=>nomatch z) (λb u hL _ _ e _=>k b u hL e) (λb u hL _ _ e _=>⟨u.slots,k b u hL e⟩) (λb u _ e n=>?_) (λb u _ e=>?_) (λb xs e=>kp b _ e) (λb u v e=>kp b _ e) (λb ps e=>⟨#[],by rw[kp b _ e];simp⟩) (λm2 h2=>?_) (λb u e=>?_) I.bare
 ·rw[ak (λz=>by rw[z]at e;exact absurd (lt_of_lt_of_le (lt_size e) hD) (lt_irrefl _))];exact n
 ·by_cases hb:b=X.env.locals
  ·obtain⟨o',_,_,e',_⟩:=hm';rw[hb];exact⟨o',e'⟩
  ·exact⟨u,k b u hb e⟩
 ·have e:m2=m:=h2.eq_nsMap.trans hm.eq_nsMap.symm;rw[e];exact hm'
 ·by_cases hb:b=D
  ·subst hb;rw[af]at e;cases e;exact new
  ·rw[ak hb]at e;refine(I.bS b u e).m8 (λd v hd q=>k d v ?_ q) (λd q=>kp d _ q) λd xs q=>kp d _ q;rcases hd with hd|hd
   ·rw[hd];exact nL b u e
   ·exact nL d _ hd
theorem Me(j:Int)(h0:0<=j)(h1:j<=1000):Builtin.Range.rangeSize 0 j 1=(j.toNat:Int)/\Builtin.Range.small 0 j 1=true:=by
 have hn:Builtin.Range.rangeSize 0 j 1=(j.toNat:Int):=by
  unfold Builtin.Range.rangeSize;rw[if_pos (by decide)]
  split<;>omega
 refine⟨hn,?_⟩;unfold Builtin.Range.small;rw[hn];simp only[Builtin.Range.rangeFitsLong,and_eq_true,or_eq_true,decide_eq_true_eq,beq_iff_eq,show((1:Int)>0) by decide,if_true];omega
def OV(K:PySem.W.Frag)(i:Nat)(qual:Str)(ap p1 p2 p3 p4:Pos)(cell:Addr)(ta tb:TA):TE:=λσ H Q=>ta σ H λvs H1=>tb σ H1 λzs H2=>∃(p f c:Addr)(n:Nat)(rs:List Int),vs=[.ref p]/\zs=[.ref f]/\H2 p=some (.IQ 0 n)/\n<=1000/\n<=rs.length/\QR H2 f qual ap p1 p2 p3 p4 cell/\σ[i]?=some (some (.ref c))/\aH K H2 c (rs.map V.int)/\
 ∀(D:Addr)(ord:List Nat),H2 D=none->ord.Perm (List.range n)->ord.Pairwise (λa b=> -(rs.getD a 0)<= -(rs.getD b 0))->(∀z:Int,ord.filter (λi=> -(rs.getD i 0)==z)=(List.range n).filter λi=> -(rs.getD i 0)==z)->Q (.ref D) (upd H2 D (.lst (ord.map λ(i:Nat)=>V.int (i:Int))))
theorem JG{X:Cx}{e v:Expr}{ta tb:TA}{i k:Nat}{p pos kp ap p1 p2 p3 p4:Pos}{qual:Str}{cell:Addr}(hr:iu k X.A)(hc:X.calm=true)(hg:Gl X "sorted")(hm:X.mg "sorted"=none)(ha:PA X [e] ta)(hk:PK X [⟨some "key",v,kp⟩] tb)(hi:X.N[i]?=some "rests")
  (hrn:X.env.kindOf "rests"=some .cell) (hcl:X.env.cells.lookup ("rests":Str)=some cell) (hs:starEach [e] X.env=[(false,eval e X.env)]:=by rfl):PE X (.Call (.Name "sorted" p) [e] [⟨some "key",v,kp⟩] pos) (OV X.K i qual ap p1 p2 p3 p4 cell ta tb):=by
 intro pins s σ H Q I h;refine wpAny_Call_Name_kw (mm I hg hm boot_sorted ?_);have ha':=ha pos pins s σ H _ I h;rw[hs]at ha'⊢;refine callWith_builtin_kwB rfl rfl (evalArgs_kwB rfl (dh ha' λus s1 ⟨vs,H1,I1,r1,q1⟩=>?_));refine dh (hk pos pins s1 σ H1 _ I1 q1) λws s2 ⟨zs,H2,I2,r2,q2⟩=>?_;obtain⟨a,f,c,n,rs,ex,ez,hp,hn,hnr,⟨c',hf,oc,uu,vs',tt,g1,g2,g3⟩,hσ,hq,q⟩:=q2;subst ex;subst ez;obtain⟨u,rfl,ru⟩:=r1.one;obtain⟨z,rfl,rz⟩:=r2.one;cases ru;cases rz;obtain⟨t1,t2,t3,er⟩:=I2.bS a _ hp;obtain⟨⟨pm,ctv,hfo⟩,_,_⟩:=I2.bS f _ hf;have hoc:s2.heap.get? c'=some oc:=(I2.bS c' _ g1).1;obtain⟨its,rv,pl,hz⟩:=I2.list hq;have hin:IntsAre its rs:=rv.ints;obtain⟨o,ho,hlc,ep,hld⟩:=pl.isList;obtain⟨m,hns,hl⟩:=id I2.loc;obtain⟨u,ru,lk⟩:=hl i "rests" (.ref c) hi hσ (Or.inr (Or.inl hrn));cases ru;obtain⟨co,hco,hcd⟩:s2.heap.IsCell cell (some (.ref c)):=by
  rcases lk with⟨e1,_⟩|⟨_,c0,e0,hcell⟩
  ·rw[hrn]at e1;cases e1
  ·rw[hcl]at e0;cases e0;exact hcell
 have Fm:PyProof.Rows.Fr X.base X.env.locals s2.heap m:=⟨hns,I2.bk,le_trans I2.ok.M3 I2.ok.above⟩
 have nL:∀b u,H2 b=some u->b≠X.env.locals:=λb u e=>aq e I2.free;obtain⟨Tn,hsm⟩:=Me (n:Int) (by omega) (by omega);rw[toNat_natCast]at Tn;have kept:∀(h:Heap)(own:fZ),PyProof.Rows.Fr X.base X.env.locals h m->News X.base X.env.locals h (AR X.base s2.heap X.env.locals++own)->∀b o,b≠X.env.locals->s2.heap.get? b=some o->h.get? b=some o:=λh own F' N' b o hb e=>by
  cases q:X.base.get? b with
  |none=>exact(N' (b,o) (mem_append_left _ (HB hb q e))).1
  |some o2=>
   have:=I2.bk b o2 q;rw[e]at this;cases this;exact F'.keep b o q
 show wpAny _ _ (call (.builtin "sorted") [.ref a] [(Str.ofString "key",.ref f)]) _ _ _;refine JQ (kz:=(List.range n).map λi=> -(rs.getD i 0)) Fm (N0 (g:=X.base) (h:=s2.heap) (L:=X.env.locals)) (I2.ok.hd hc) er hsm Tn hn (by simp) (λj t k hk h tk own F' N'=>?_) λD h' tk out ce vs F' N' hD hvl hva ko=>?_
 ·have kk:=kept h own F' N';have hj:j<n:=by
   have:=(List.getElem?_eq_some_iff.mp hk).1;simpa using this
  have ek:k= -(rs.getD j 0):=by
   rw[getElem?_map,getElem?_range hj]at hk;exact(Option.some.inj hk).symm
  have hfL:f≠X.env.locals:=nL _ _ hf;refine wpAny_call (PySem.W.kla_callFunE (by have:=hr.dp;show X.A.depth<_;omega) (kk f _ hfL hfo) rfl rfl rfl rfl ⟨c',oc,vs',tt,rfl,kk c' oc (nL _ _ g1) hoc,g2,g3⟩ ?_);show wpAny _ _ (pure [(Str.ofString "region",Value.int (j:Int) t)]) _ _ _;refine wpAny_pure (wpAny_newFunctionEnv (by show∀x∈wV.names,x.2≠.cell;decide) (by intro x hx;rw[mem_singleton.mp hx];rfl) (λh1 hns1 hsb=>⟨((I2.mod.nolimit).keeps F'.keep).fresh _ hsb,?_⟩) rfl);have k1:∀b o,h.get? b=some o->h1.get? b=some o:=λb o e=>(hsb.2 b (ne_of_lt (lt_size e))).trans (get?_push_of_some _ e);have hcell:h1.IsCell cell (some (.ref c)):=⟨co,k1 _ _ (kk cell co (I2.M9 _ _ hcl) hco),hcd⟩
  have hcL:c≠X.env.locals:=λz=>by
   obtain⟨oL,es,ep2,eL,dL,_⟩:=hns;rw[z,eL]at ho;cases ho;rw[dL]at hld;cases hld
  have hli:h1.IsList c its.toArray:=⟨o,k1 _ _ (kk c o hcL ho),hlc,ep,hld⟩
  refine PySem.W.kla_codeExpr (UnaryOp_ (Subscript_ (wpAny_Name (wpAny_loadName_free rfl rfl rfl hcell (wpAny_Name (wpAny_loadName_local rfl rfl hns1 rfl ?_) rfl)) rfl)));refine item_list_intsR hli hin (by omega) (by omega) (by omega) (λt'=>neg_int ?_);subst ek;exact⟨h1,_,_,rfl,by rw[toNat_natCast],F'.kept k1,N'.grown k1⟩
 ·obtain⟨ord,vv,pm,pw,st⟩:=Qi hvl hva ko;have kk:=kept h' [] F' (λp hp=>N' p (mem_cons_of_mem _ (by simpa using hp)));refine⟨.ref D,_,Nv (tk:=tk) (o:= .lst (ord.map λ(i:Nat)=>V.int (i:Int))) I2 hns F'.ns kk hD ⟨?_,out.toList,ce,vv,by simpa using(N' _ mem_cons_self).1⟩,rfl,q D ord (I2.bS.fresh hD) pm pw st⟩;rw[length_map,pm.length_eq,length_range];exact le_trans hn (by decide:1000<=sizeLine)
end Sh
end
section
namespace Sh
open PySem PySem.Spec PyProof.Rows L2 ShX
def top(i:Nat):Stmt:=PySem.Challenge.pw_sharedhelp_s01_answers.main.body.getD i (.Pass ⟨0,0,0,0⟩)
abbrev K4:=top 2
abbrev xk:=inClass (top 3) 0
abbrev zx:=inClass (top 3) 1
abbrev mE:=inClass (top 3) 2
abbrev qJ:=inClass (top 3) 3
abbrev oW:=inClass (top 3) 4
abbrev tU:=top 5
abbrev vC:=top 6
abbrev vA:=top 7
abbrev zG:=top 8
abbrev EJ:=top 9
abbrev kG:=top 10
abbrev jw:=top 11
abbrev kF:=top 12
abbrev sZ:=inClass (top 14) 0
abbrev sW:=inClass (top 15) 0
abbrev vp:=inClass (top 16) 0
abbrev mH:=inClass (top 17) 0
abbrev qI:=inClass (top 18) 0
abbrev sY:=inClass (top 19) 0
abbrev oX:=inClass (top 20) 0
abbrev kY:=inClass (top 21) 0
abbrev tO:=top 23
abbrev tN:=top 24
abbrev CN:=top 25
abbrev OD:=top 26
abbrev tM:=top 30
abbrev xo:=top 31
abbrev tE:=top 32
abbrev nS:=top 33
abbrev qP:=top 34
abbrev qN:=top 35
abbrev tj:=top 36
abbrev tu:=top 37
abbrev Q3:=top 40
abbrev K5:=top 41
abbrev OE:=top 42
abbrev zy:=inClass (top 43) 0
abbrev qK:=inClass (top 43) 1
abbrev mF:=inClass (top 43) 2
abbrev xm:=inClass (top 43) 3
abbrev jL:=inClass (top 43) 4
abbrev qR:=top 44
abbrev CO:=top 45
abbrev nV:=top 46
abbrev zH:=top 47
abbrev oZ:=top 49
abbrev Ig:=top 50
abbrev zF:=top 52
abbrev oY:=top 53
abbrev K6:=top 54
abbrev Ih:=top 55
abbrev o4:=top 56
abbrev zD:=top 57
abbrev xu:=top 58
abbrev K7:=top 59
abbrev Ii:=top 60
abbrev EH:=top 62
abbrev tS:=top 63
abbrev zz:=top 64
abbrev vq:=top 65
abbrev CM:=top 67
abbrev vD:=top 68
abbrev zE:=top 69
abbrev o3:=top 70
abbrev tT:=top 71
abbrev vB:=top 72
abbrev tQ:=top 74
abbrev tR:=top 75
abbrev EI:=top 76
abbrev Ie:=top 77
abbrev xr:=top 78
abbrev zI:=top 79
abbrev zJ:=top 80
abbrev lj:=top 81
abbrev vx:=top 91
abbrev tF:=top 92
abbrev vt:=top 93
abbrev tw:=top 94
abbrev tJ:=top 95
abbrev nU:=top 96
abbrev mI:=top 97
abbrev lh:=top 98
abbrev tL:=top 99
abbrev qM:=top 100
abbrev qQ:=top 101
abbrev tK:=top 102
abbrev vz:=top 103
abbrev xq:=top 104
abbrev tI:=top 105
abbrev vw:=top 106
abbrev qO:=top 107
abbrev tG:=top 108
abbrev vy:=top 109
abbrev tf:=top 110
abbrev tH:=top 111
abbrev qL:=inClass (top 116) 0
abbrev jM:=inClass (top 116) 1
abbrev mG:=inClass (top 116) 2
abbrev sX:=inClass (top 116) 3
abbrev zC:=top 118
abbrev kZ:=top 119
abbrev EG:=top 120
structure ql where
 (B0 iQ jO cS fF eu gM ij h9 jX lA cv bN cu gn gh g7 cV fE gk eA cF gC gB my flat gA gu dP cg c6 cZ dM dN bit holds size jP fG cT iR bU fK mC dA j4 eF vT jW eB share wg dc dividends potentials swing wk pR gH jQ g8 mh ir jS eI gJ ig gE gF pX covers iT j8 kc cM eX dQ eV dO dW cj bP bK dY cY c7 dX eZ gv dU eW c5 dR eY dJ dS fH bV cU gj jR cG answers Debts Refusal E1 IW rC A6 E2 xO pF Game bD Oy Qx:Addr)
structure Tg where
 (B0 iQ jO cS fF eu gM ij h9 jX lA cv bN cu gn gh g7 cV fE gk eA cF gC gB my flat gA gu dP cg c6 cZ dM dN bit holds size jP fG cT iR bU fK mC dA j4 eF vT jW eB share wg dc dividends potentials swing wk pR gH jQ g8 mh ir jS eI gJ ig gE gF pX covers iT j8 kc cM eX dQ eV dO dW cj bP bK dY cY c7 dX eZ gv dU eW c5 dR eY dJ dS fH bV cU gj jR cG answers:FuncData)
structure Txt(K:PySem.W.Frag)(mg:rn)(A:ql)(F:Tg):Prop where
 P1:mg "Debts"=some (.ref A.Debts)
 i5:mg "Refusal"=some (.ref A.Refusal)
 LO:mg "BadSlot"=some (.ref A.E1)
 NB:mg "NoGame"=some (.ref A.IW)
 DC:mg "UnlikeGames"=some (.ref A.rC)
 ic:mg "BadValue"=some (.ref A.A6)
 Ew:mg "NoGroup"=some (.ref A.E2)
 Hr:mg "NoDemands"=some (.ref A.xO)
 B9:mg "CostTooGreat"=some (.ref A.pF)
 NA:mg "Game"=some (.ref A.Game)
 Js:mg "Holdings"=some (.ref A.bD)
 KJ:mg "gains"=some (.ref A.B0)
 Cf:mg "sums_of_sets"=some (.ref A.gM)
 DG:mg "most_groups"=some (.ref A.ij)
 DE:mg "first_group"=some (.ref A.h9)
 Hw:mg "houses_of"=some (.ref A.jX)
 Ex:mg "parting"=some (.ref A.lA)
 su:mg "transfers_in_group"=some (.ref A.cv)
 jo:mg "transfers_of_parting"=some (.ref A.bN)
 ku:mg "settling_transfers"=some (.ref A.cu)
 bt:mg "check_within"=some (.ref A.gC)
 mv:mg "check_length"=some (.ref A.gB)
 Cd:mg "parts_of"=some (.ref A.my)
 sr:mg "flat"=some (.ref A.flat)
 sk:mg "check_houses"=some (.ref A.gA)
 P2:mg "answer_owe"=some (.ref A.gu)
 NI:mg "answer_debts"=some (.ref A.dP)
 KH:mg "answer_balances"=some (.ref A.cg)
 MC:mg "answer_settle"=some (.ref A.c6)
 MA:mg "answer_fewest"=some (.ref A.cZ)
 ND:mg "answer_check"=some (.ref A.dM)
 NF:mg "answer_clear"=some (.ref A.dN)
 zb:mg "bit"=some (.ref A.bit)
 pT:mg "holds"=some (.ref A.holds)
 NR:mg "size"=some (.ref A.size)
 gP:mg "game_by_costs"=some (.ref A.fK)
 vU:mg "row_sums"=some (.ref A.mC)
 wW:mg "game_by_demands"=some (.ref A.dA)
 Hx:mg "peak_hour"=some (.ref A.j4)
 yj:mg "common_divisor"=some (.ref A.eF)
 wX:mg "lowest"=some (.ref A.vT)
 kr:mg "factorial"=some (.ref A.jW)
 yi:mg "added_in_order"=some (.ref A.eB)
 P5:mg "share"=some (.ref A.share)
 Hy:mg "shares"=some (.ref A.wg)
 yk:mg "rounded_shares"=some (.ref A.dc)
 Hu:mg "dividends"=some (.ref A.dividends)
 FO:mg "potentials"=some (.ref A.potentials)
 P6:mg "swing"=some (.ref A.swing)
 NS:mg "swings"=some (.ref A.wk)
 LQ:mg "is_idle"=some (.ref A.pR)
 Cc:mg "idle_regions"=some (.ref A.gH)
 Hs:mg "are_alike"=some (.ref A.jQ)
 DD:mg "alike_pairs"=some (.ref A.g8)
 Ju:mg "game_sum"=some (.ref A.mh)
 DH:mg "scaled_game"=some (.ref A.ir)
 Hv:mg "dual_game"=some (.ref A.jS)
 oP:mg "game_of_blocks"=some (.ref A.eI)
 Ce:mg "renamed_game"=some (.ref A.gJ)
 DF:mg "merged_game"=some (.ref A.ig)
 Ca:mg "dearer_group"=some (.ref A.gE)
 Cb:mg "first_dearer"=some (.ref A.gF)
 LR:mg "paid_by"=some (.ref A.pX)
 NQ:mg "covers"=some (.ref A.covers)
 FN:mg "complaints"=some (.ref A.iT)
 Hz:mg "stability"=some (.ref A.j8)
 HA:mg "weight_of"=some (.ref A.kc)
 uT:mg "shows_none_stable"=some (.ref A.cM)
 O6:mg "answer_game"=some (.ref A.eX)
 NJ:mg "answer_hours"=some (.ref A.dQ)
 O4:mg "answer_cost"=some (.ref A.eV)
 NH:mg "answer_costs"=some (.ref A.dO)
 NN:mg "answer_share"=some (.ref A.dW)
 KI:mg "answer_by_order"=some (.ref A.cj)
 Jt:mg "answer_dividends"=some (.ref A.bP)
 IP:mg "answer_potentials"=some (.ref A.bK)
 NP:mg "answer_swing"=some (.ref A.dY)
 Mz:mg "answer_dearer"=some (.ref A.cY)
 MD:mg "answer_stable"=some (.ref A.c7)
 NO:mg "answer_shows"=some (.ref A.dX)
 O8:mg "answer_peak"=some (.ref A.eZ)
 P4:mg "answer_sum"=some (.ref A.gv)
 NM:mg "answer_scale"=some (.ref A.dU)
 O5:mg "answer_dual"=some (.ref A.eW)
 MB:mg "answer_rename"=some (.ref A.c5)
 NK:mg "answer_merge"=some (.ref A.dR)
 O7:mg "answer_idle"=some (.ref A.eY)
 NC:mg "answer_alike"=some (.ref A.dJ)
 NL:mg "answer_round"=some (.ref A.dS)
 Ht:mg "call_told"=some (.ref A.jR)
 uS:mg "answer_or_refusal"=some (.ref A.cG)
 LP:mg "answers"=some (.ref A.answers)
 aA:Ld K A.Game
 KL:Mk K A.Game A.jP
 fP:Ld K A.Debts
 NW:Mk K A.Debts A.iQ
 ax:Ld K A.bD
 HF:Mk K A.bD A.fH
 FR:Meth K A.Debts "owe" A.jO
 uU:Meth K A.Debts "forget_all" A.cS
 oQ:Meth K A.Debts "triples" A.fF
 gZ:Meth K A.Debts "balances" A.eu
 jY:Meth K A.Game "is_group" A.fG
 fM:Meth K A.Game "cost_of_all" A.cT
 eh:Meth K A.Game "added" A.iR
 bQ:Meth K A.Game "groups_without" A.bU
 bw:Meth K A.bD "check_slot" A.bV
 aF:Meth K A.bD "game_at" A.cU
 dB:Meth K A.bD "put" A.gj
 aY:kK K A.Game "n"
 aV:kK K A.Game "costs"
 iM:kK K A.Game "demands"
 fS:kK K A.Debts "amounts"
 jr:kK K A.bD "games"
 bX:kK K A.bD "debts"
 yK:Pg K A.E1 A.gh
 zK:PySem.W.mroIn K A.E1 (.ref A.Refusal)=some true
 IK:Pg K A.IW A.g7
 JV:PySem.W.mroIn K A.IW (.ref A.Refusal)=some true
 vF:Pg K A.rC A.cV
 AO:PySem.W.mroIn K A.rC (.ref A.Refusal)=some true
 bO:Pg K A.A6 A.fE
 d9:PySem.W.mroIn K A.A6 (.ref A.Refusal)=some true
 pC:Pg K A.E2 A.gk
 uf:PySem.W.mroIn K A.E2 (.ref A.Refusal)=some true
 zO:Pg K A.xO A.eA
 D5:PySem.W.mroIn K A.xO (.ref A.Refusal)=some true
 mX:Pg K A.pF A.cF
 pk:PySem.W.mroIn K A.pF (.ref A.Refusal)=some true
 Jj:Ft K A.Refusal=true
 iZ:specialIn K (.ref A.Refusal) "__getattribute__"=some (some (.builtin "type.__getattribute__"))
 iY:∃mc,readsIn K A.Refusal mc=true/\findCls K (.ref A.Refusal) mc "__init__"=some (.val (.ref A.gn))
 AW:cP K "gains" "gains" K4 A.B0 F.B0
 wL:cP K "__init__" "Debts.__init__" xk A.iQ F.iQ
 yS:cP K "owe" "Debts.owe" zx A.jO F.jO
 lM:cP K "forget_all" "Debts.forget_all" mE A.cS F.cS
 qz:cP K "triples" "Debts.triples" qJ A.fF F.fF
 oH:cP K "balances" "Debts.balances" oW A.eu F.eu
 md:cP K "sums_of_sets" "sums_of_sets" tU A.gM F.gM
 ot:cP K "most_groups" "most_groups" vC A.ij F.ij
 om:cP K "first_group" "first_group" vA A.h9 F.h9
 rW:cP K "houses_of" "houses_of" zG A.jX F.jX
 uq:cP K "parting" "parting" EJ A.lA F.lA
 hW:cP K "transfers_in_group" "transfers_in_group" kG A.cv F.cv
 dZ:cP K "transfers_of_parting" "transfers_of_parting" jw A.bN F.bN
 fi:cP K "settling_transfers" "settling_transfers" kF A.cu F.cu
 cH:cP K "__init__" "Refusal.__init__" sZ A.gn F.gn
 rO:cP K "__init__" "BadSlot.__init__" sW A.gh F.gh
 vh:cP K "__init__" "NoGame.__init__" vp A.g7 F.g7
 lP:cP K "__init__" "UnlikeGames.__init__" mH A.cV F.cV
 qw:cP K "__init__" "BadValue.__init__" qI A.fE F.fE
 rQ:cP K "__init__" "NoGroup.__init__" sY A.gk F.gk
 oI:cP K "__init__" "NoDemands.__init__" oX A.eA F.eA
 kW:cP K "__init__" "CostTooGreat.__init__" kY A.cF F.cF
 ba:cP K "check_within" "check_within" tO A.gC F.gC
 hJ:cP K "check_length" "check_length" tN A.gB F.gB
 pP:cP K "parts_of" "parts_of" CN A.my F.my
 oo:cP K "flat" "flat" OD A.flat F.flat
 jj:cP K "check_houses" "check_houses" tM A.gA F.gA
 pM:cP K "answer_owe" "answer_owe" xo A.gu F.gu
 lU:cP K "answer_debts" "answer_debts" tE A.dP F.dP
 jh:cP K "answer_balances" "answer_balances" nS A.cg F.cg
 kP:cP K "answer_settle" "answer_settle" qP A.c6 F.c6
 kN:cP K "answer_fewest" "answer_fewest" qN A.cZ F.cZ
 lR:cP K "answer_check" "answer_check" tj A.dM F.dM
 lS:cP K "answer_clear" "answer_clear" tu A.dN F.dN
 vi:cP K "bit" "bit" Q3 A.bit F.bit
 ly:cP K "holds" "holds" K5 A.holds F.holds
 FA:cP K "size" "size" OE A.size F.size
 yT:cP K "__init__" "Game.__init__" zy A.jP F.jP
 qA:cP K "is_group" "Game.is_group" qK A.fG F.fG
 lN:cP K "cost_of_all" "Game.cost_of_all" mF A.cT F.cT
 wM:cP K "added" "Game.added" xm A.iR F.iR
 jI:cP K "groups_without" "Game.groups_without" jL A.bU F.bU
 dy:cP K "game_by_costs" "game_by_costs" qR A.fK F.fK
 ma:cP K "row_sums" "row_sums" CO A.mC F.mC
 jk:cP K "game_by_demands" "game_by_demands" nV A.dA F.dA
 rX:cP K "peak_hour" "peak_hour" zH A.j4 F.j4
 jU:cP K "common_divisor" "common_divisor" oZ A.eF F.eF
 oJ:cP K "lowest" "lowest" Ig A.vT F.vT
 hU:cP K "factorial" "factorial" zF A.jW F.jW
 jT:cP K "added_in_order" "added_in_order" oY A.eB F.eB
 Fz:cP K "share" "share" K6 A.share F.share
 wN:cP K "shares" "shares" Ih A.wg F.wg
 jV:cP K "rounded_shares" "rounded_shares" o4 A.dc F.dc
 rT:cP K "dividends" "dividends" zD A.dividends F.dividends
 pQ:cP K "potentials" "potentials" xu A.potentials F.potentials
 FC:cP K "swing" "swing" K7 A.swing F.swing
 BS:cP K "swings" "swings" Ii A.wk F.wk
 yc:cP K "is_idle" "is_idle" EH A.pR F.pR
 l8:cP K "idle_regions" "idle_regions" tS A.gH F.gH
 rR:cP K "are_alike" "are_alike" zz A.jQ F.jQ
 n6:cP K "alike_pairs" "alike_pairs" vq A.g8 F.g8
 vP:cP K "game_sum" "game_sum" CM A.mh F.mh
 ou:cP K "scaled_game" "scaled_game" vD A.ir F.ir
 rV:cP K "dual_game" "dual_game" zE A.jS F.jS
 iA:cP K "game_of_blocks" "game_of_blocks" o3 A.eI F.eI
 l9:cP K "renamed_game" "renamed_game" tT A.gJ F.gJ
 oq:cP K "merged_game" "merged_game" vB A.ig F.ig
 l6:cP K "dearer_group" "dearer_group" tQ A.gE F.gE
 l7:cP K "first_dearer" "first_dearer" tR A.gF F.gF
 yd:cP K "paid_by" "paid_by" EI A.pX F.pX
 BR:cP K "covers" "covers" Ie A.covers F.covers
 pO:cP K "complaints" "complaints" xr A.iT F.iT
 rY:cP K "stability" "stability" zI A.j8 F.j8
 rZ:cP K "weight_of" "weight_of" zJ A.kc F.kc
 iH:cP K "shows_none_stable" "shows_none_stable" lj A.cM F.cM
 og:cP K "answer_game" "answer_game" vx A.eX F.eX
 lV:cP K "answer_hours" "answer_hours" tF A.dQ F.dQ
 n9:cP K "answer_cost" "answer_cost" vt A.eV F.eV
 lT:cP K "answer_costs" "answer_costs" tw A.dO F.dO
 lZ:cP K "answer_share" "answer_share" tJ A.dW F.dW
 ji:cP K "answer_by_order" "answer_by_order" nU A.cj F.cj
 iU:cP K "answer_dividends" "answer_dividends" mI A.bP F.bP
 iG:cP K "answer_potentials" "answer_potentials" lh A.bK F.bK
 l5:cP K "answer_swing" "answer_swing" tL A.dY F.dY
 kM:cP K "answer_dearer" "answer_dearer" qM A.cY F.cY
 kQ:cP K "answer_stable" "answer_stable" qQ A.c7 F.c7
 l4:cP K "answer_shows" "answer_shows" tK A.dX F.dX
 oj:cP K "answer_peak" "answer_peak" vz A.eZ F.eZ
 pN:cP K "answer_sum" "answer_sum" xq A.gv F.gv
 lY:cP K "answer_scale" "answer_scale" tI A.dU F.dU
 oa:cP K "answer_dual" "answer_dual" vw A.eW F.eW
 kO:cP K "answer_rename" "answer_rename" qO A.c5 F.c5
 lW:cP K "answer_merge" "answer_merge" tG A.dR F.dR
 oh:cP K "answer_idle" "answer_idle" vy A.eY F.eY
 lQ:cP K "answer_alike" "answer_alike" tf A.dJ F.dJ
 lX:cP K "answer_round" "answer_round" tH A.dS F.dS
 qB:cP K "__init__" "Holdings.__init__" qL A.fH F.fH
 jJ:cP K "check_slot" "Holdings.check_slot" jM A.bV F.bV
 lO:cP K "game_at" "Holdings.game_at" mG A.cU F.cU
 rP:cP K "put" "Holdings.put" sX A.gj F.gj
 rS:cP K "call_told" "call_told" zC A.jR F.jR
 iF:cP K "answer_or_refusal" "answer_or_refusal" kZ A.cG F.cG
 Lz:cP K "answers" "answers" EG A.answers F.answers
 GY:∃t,mg "HOUSES"=some (.int 10 t)
 rJ:∃t,mg "GREATEST_DEBT_TOLD"=some (.int 1000000000 t)
 uP:∃t,mg "GREATEST_TRANSFER"=some (.int 1000000000000 t)
 rK:∃t,mg "MOST_REGIONS"=some (.int 8 t)
 Fi:∃t,mg "MOST_HOURS"=some (.int 24 t)
 kl:∃t,mg "GREATEST_TOLD_COST"=some (.int 1000000000 t)
 wF:∃t,mg "GREATEST_DEMAND"=some (.int 1000000 t)
 je:∃t,mg "GREATEST_DENOMINATOR"=some (.int 1000000 t)
 jH:∃t,mg "GREATEST_TOLD_SHARE"=some (.int 1000000000000 t)
 jf:∃t,mg "GREATEST_TOLD_WEIGHT"=some (.int 1000000 t)
 ni:∃t,mg "GREATEST_FACTOR"=some (.int 1000 t)
 Kc:∃t,mg "SLOTS"=some (.int 8 t)
 qu:∃t,mg "GREATEST_COST"=some (.int 1000000000000 t)
 eO:mg "len"=none
 GO:mg "max"=none
 Sv:mg "min"=none
 Ea:mg "sum"=none
 Su:mg "abs"=none
 QU:mg "any"=none
 QT:mg "all"=none
 GR:mg "sorted"=none
 Sw:mg "set"=none
 Fe:mg "list"=none
 Pr:mg "tuple"=none
 cQ:mg "range"=none
 QV:mg "zip"=none
 nc:mg "enumerate"=none
 Bv:mg "reversed"=none
 Qw:F.dc.code= .ref A.Oy
 S1:tabIn K "rounded_shares"=some (A.Oy,A.Qx)
 S0:codeHdIn K A.Oy A.Qx=true
section
variable{K:PySem.W.Frag}{mg:rn}{A:ql}{F:Tg}{x q:Str}{st:Stmt}{f:Addr}{fd:FuncData}
theorem uk{p0:Str}(F:cP K x q st f fd)(h:∀kV doc pm an cdv ct u0,bindArgs (fnOf x q (ny st) (jg st) (aj st) .none kV doc pm an cdv ct) ⟨[u0],[]⟩=pure [(p0,u0)]:=by intros;rfl):Binds K fd [p0] []:=F.binds λa b c d e g us hl=>match us,hl with|[u0],_=>h a b c d e g u0
theorem xU{p0 p1:Str}(F:cP K x q st f fd)(h:∀kV doc pm an cdv ct u0 u1,bindArgs (fnOf x q (ny st) (jg st) (aj st) .none kV doc pm an cdv ct) ⟨[u0,u1],[]⟩=pure [(p0,u0),(p1,u1)]:=by intros;rfl):Binds K fd [p0,p1] []:=F.binds λa b c d e g us hl=>match us,hl with|[u0,u1],_=>h a b c d e g u0 u1
theorem qr{p0 p1 p2:Str}(F:cP K x q st f fd)(h:∀kV doc pm an cdv ct u0 u1 u2,bindArgs (fnOf x q (ny st) (jg st) (aj st) .none kV doc pm an cdv ct) ⟨[u0,u1,u2],[]⟩=pure [(p0,u0),(p1,u1),(p2,u2)]:=by intros;rfl):Binds K fd [p0,p1,p2] []:=F.binds λa b c d e g us hl=>match us,hl with|[u0,u1,u2],_=>h a b c d e g u0 u1 u2
theorem TR{p0 p1 p2 p3:Str}(F:cP K x q st f fd)(h:∀kV doc pm an cdv ct u0 u1 u2 u3,bindArgs (fnOf x q (ny st) (jg st) (aj st) .none kV doc pm an cdv ct) ⟨[u0,u1,u2,u3],[]⟩=pure [(p0,u0),(p1,u1),(p2,u2),(p3,u3)]:=by intros;rfl):Binds K fd [p0,p1,p2,p3] []:=F.binds λa b c d e g us hl=>match us,hl with|[u0,u1,u2,u3],_=>h a b c d e g u0 u1 u2 u3
theorem dz{N P:List Str}{sc:Scope}(a:sc.kind= .function:=by rfl)(b:sc.isCoroutine=false:=by rfl)(c:sc.isGenerator=false:=by rfl)(d:N.Nodup:=by decide+kernel)(e:N.take P.length=P:=by rfl)(g:∀x∈P,sc.names.lookup x=some .local\/sc.names.lookup x=some .cell:=by decide+kernel)(h:∀y∈sc.names,y.2≠.free:=by decide+kernel):au N P sc:=⟨a,b,c,d,e,g,h⟩
theorem oB{N M P:List Str}{sc sd scope:Scope}{own:List (Str×Nat)}(S:au N P sc)(h:Rm N sc scope own=true:=by decide+kernel)(e:M=N:=by rfl)(g:sd=sc:=by rfl):D8 M sd scope own:=by rw[e,g];exact M0 h
theorem fO{X:Cx}{x:Str}{pos:Pos}(i:Nat)(hN:X.N.Nodup)(hx:Loc X.env.scope x)(hf:X.fn x=true\/X.env.scope.names.lookup x=some .local:=by first|exact .inl rfl|exact .inr rfl|assumption)(hi:X.N[i]?=some x:=by rfl):PG X (.Name x pos) (fu i):=Ql hN hi hx hf
theorem fC{X:Cx}{x:Str}{e:Expr}{te:TE}{pos pos1:Pos}(i:Nat)(hN:X.N.Nodup)(he:PE X e te)(hi:X.N[i]?=some x:=by rfl)(hx:Loc X.env.scope x:=by first|exact Or.inl rfl|exact Or.inr rfl)(hs:swapsWith e (some (.Name x pos1)) pos.line X.env=pure false:=by rfl)(hf:X.fn x=true\/X.env.scope.names.lookup x=some .local:=by first|exact .inl rfl|exact .inr rfl|assumption):PS X (.Assign [.Name x pos1] e pos) (OT te (fu i)):=RY hN hi hx he hs hf
variable(T:Txt K mg A F)
include T
theorem Kb:Binds K F.B0 ["transfers"] []:=uk T.AW
theorem E9:Binds K F.iQ ["self"] []:=uk T.wL
theorem GH:Binds K F.jO ["self","debtor","creditor","amount"] []:=TR T.yS
theorem vH:Binds K F.cS ["self"] []:=uk T.lM
theorem qp:Binds K F.fF ["self"] []:=uk T.qz
theorem iy:Binds K F.eu ["self"] []:=uk T.oH
theorem Bw:Binds K F.gM ["balances"] []:=uk T.md
theorem Dn:Binds K F.ij ["sums"] []:=uk T.ot
theorem Dk:Binds K F.h9 ["left","sums","most"] []:=qr T.om
theorem GN:Binds K F.jX ["group","houses"] []:=xU T.rW
theorem D9:Binds K F.lA ["balances"] []:=uk T.uq
theorem rH:Binds K F.cv ["group","balances"] []:=xU T.hW
theorem jd:Binds K F.bN ["groups","balances"] []:=xU T.dZ
theorem kj:Binds K F.cu ["balances"] []:=uk T.fi
theorem eE:Binds K F.gn ["self","number"] []:=xU T.cH
theorem Bc:Binds K F.gh ["self"] []:=uk T.rO
theorem Dd:Binds K F.g7 ["self"] []:=uk T.vh
theorem vI:Binds K F.cV ["self"] []:=uk T.lP
theorem cO:Binds K F.fE ["self"] []:=uk T.qw
theorem rE:Binds K F.gk ["self"] []:=uk T.rQ
theorem xQ:Binds K F.eA ["self"] []:=uk T.oI
theorem uL:Binds K F.cF ["self"] []:=uk T.kW
theorem bq:Binds K F.gC ["numbers","least","most"] []:=qr T.ba
theorem lJ:Binds K F.gB ["row","length"] []:=xU T.hJ
theorem Bt:Binds K F.my ["row","length"] []:=xU T.pP
theorem rG:Binds K F.flat ["parts"] []:=uk T.oo
theorem rF:Binds K F.gA ["a","b"] []:=xU T.jj
theorem Fb:Binds K F.gu ["holdings","numbers","row"] []:=qr T.pM
theorem Bh:Binds K F.dP ["holdings","numbers","row"] []:=qr T.lU
theorem wA:Binds K F.cg ["holdings","numbers","row"] []:=qr T.jh
theorem zV:Binds K F.c6 ["holdings","numbers","row"] []:=qr T.kP
theorem zT:Binds K F.cZ ["holdings","numbers","row"] []:=qr T.kN
theorem Be:Binds K F.dM ["holdings","numbers","row"] []:=qr T.lR
theorem Bf:Binds K F.dN ["holdings","numbers","row"] []:=qr T.lS
theorem yN:Binds K F.bit ["region"] []:=uk T.vi
theorem pH:Binds K F.holds ["group","region"] []:=xU T.ly
theorem MW:Binds K F.size ["group"] []:=uk T.FA
theorem yM:Binds K F.jP ["self","n","costs","demands"] []:=TR T.yT
theorem kL:Binds K F.fG ["self","number"] []:=xU T.qA
theorem gw:Binds K F.cT ["self"] []:=uk T.lN
theorem fh:Binds K F.iR ["self","region","group"] []:=qr T.wM
theorem bY:Binds K F.bU ["self","region"] []:=xU T.jI
theorem gN:Binds K F.fK ["n","costs"] []:=xU T.dy
theorem vK:Binds K F.mC ["first","second"] []:=xU T.ma
theorem wC:Binds K F.dA ["demands"] []:=uk T.jk
theorem GP:Binds K F.j4 ["demands"] []:=uk T.rX
theorem xS:Binds K F.eF ["a","b"] []:=xU T.jU
theorem wD:Binds K F.vT ["numerator","denominator"] []:=xU T.oJ
theorem ki:Binds K F.jW ["n"] []:=uk T.hU
theorem xR:Binds K F.eB ["game","order"] []:=xU T.jT
theorem Pp:Binds K F.share ["game","region"] []:=xU T.Fz
theorem GQ:Binds K F.wg ["game"] []:=uk T.wN
theorem xT:Binds K F.dc ["game"] []:=uk T.jV
theorem GK:Binds K F.dividends ["game"] []:=uk T.rT
theorem Ff:Binds K F.potentials ["game"] []:=uk T.pQ
theorem Pq:Binds K F.swing ["game","region"] []:=xU T.FC
theorem MX:Binds K F.wk ["game"] []:=uk T.BS
theorem Li:Binds K F.pR ["game","region"] []:=xU T.yc
theorem Bs:Binds K F.gH ["game"] []:=uk T.l8
theorem GI:Binds K F.jQ ["game","i","j"] []:=qr T.rR
theorem De:Binds K F.g8 ["game"] []:=uk T.n6
theorem IZ:Binds K F.mh ["first","second"] []:=xU T.vP
theorem Dq:Binds K F.ir ["game","factor"] []:=xU T.ou
theorem GL:Binds K F.jS ["game"] []:=uk T.rV
theorem oF:Binds K F.eI ["game","blocks"] []:=xU T.iA
theorem Bu:Binds K F.gJ ["game","regions"] []:=xU T.l9
theorem Dl:Binds K F.ig ["game","merged"] []:=xU T.oq
theorem Bq:Binds K F.gE ["game","i","j"] []:=qr T.l6
theorem Br:Binds K F.gF ["game"] []:=uk T.l7
theorem Lj:Binds K F.pX ["group","numbers"] []:=xU T.yd
theorem MV:Binds K F.covers ["game","d","numbers"] []:=qr T.BR
theorem Fd:Binds K F.iT ["game","d","numbers"] []:=qr T.pO
theorem GS:Binds K F.j8 ["game","d","numbers"] []:=qr T.rY
theorem GU:Binds K F.kc ["region","pairs"] []:=xU T.rZ
theorem uO:Binds K F.cM ["game","d","pairs"] []:=qr T.iH
theorem Dh:Binds K F.eX ["holdings","numbers","row"] []:=qr T.og
theorem Bi:Binds K F.dQ ["holdings","numbers","row"] []:=qr T.lV
theorem Df:Binds K F.eV ["holdings","numbers","row"] []:=qr T.n9
theorem Bg:Binds K F.dO ["holdings","numbers","row"] []:=qr T.lT
theorem Bm:Binds K F.dW ["holdings","numbers","row"] []:=qr T.lZ
theorem wB:Binds K F.cj ["holdings","numbers","row"] []:=qr T.ji
theorem vJ:Binds K F.bP ["holdings","numbers","row"] []:=qr T.iU
theorem uN:Binds K F.bK ["holdings","numbers","row"] []:=qr T.iG
theorem Bp:Binds K F.dY ["holdings","numbers","row"] []:=qr T.l5
theorem zS:Binds K F.cY ["holdings","numbers","row"] []:=qr T.kM
theorem zW:Binds K F.c7 ["holdings","numbers","row"] []:=qr T.kQ
theorem Bo:Binds K F.dX ["holdings","numbers","row"] []:=qr T.l4
theorem Dj:Binds K F.eZ ["holdings","numbers","row"] []:=qr T.oj
theorem Fc:Binds K F.gv ["holdings","numbers","row"] []:=qr T.pN
theorem Bl:Binds K F.dU ["holdings","numbers","row"] []:=qr T.lY
theorem Dg:Binds K F.eW ["holdings","numbers","row"] []:=qr T.oa
theorem zU:Binds K F.c5 ["holdings","numbers","row"] []:=qr T.kO
theorem Bj:Binds K F.dR ["holdings","numbers","row"] []:=qr T.lW
theorem Di:Binds K F.eY ["holdings","numbers","row"] []:=qr T.oh
theorem Bd:Binds K F.dJ ["holdings","numbers","row"] []:=qr T.lQ
theorem Bk:Binds K F.dS ["holdings","numbers","row"] []:=qr T.lX
theorem zR:Binds K F.fH ["self"] []:=uk T.qB
theorem bA:Binds K F.bV ["self","slot"] []:=xU T.jJ
theorem aI:Binds K F.cU ["self","slot"] []:=xU T.lO
theorem eC:Binds K F.gj ["self","slot","game"] []:=qr T.rP
theorem GJ:Binds K F.jR ["number"] []:=uk T.rS
theorem uM:Binds K F.cG ["answer_call","holdings","numbers","row"] []:=TR T.iF
end
theorem mM:au ["transfers","told","payer","receiver","amount","house"] ["transfers"] (aj K4):=dz
theorem DR:au ["self"] ["self"] (aj xk):=dz
theorem xx:au ["self","debtor","creditor","amount","owed"] ["self","debtor","creditor","amount"] (aj zx):=dz
theorem uY:au ["self"] ["self"] (aj mE):=dz
theorem fV:au ["self","pair","owed"] ["self"] (aj qJ):=dz
theorem xw:au ["self"] ["self"] (aj oW):=dz
theorem dI:au ["balances","sums","balance","total"] ["balances"] (aj tU):=dz
theorem cf:au ["sums","houses","most","whole","before","place","house"] ["sums"] (aj vC):=dz
theorem mL:au ["left","sums","most","group"] ["left","sums","most"] (aj vA):=dz
theorem iC:au ["group","houses","greatest","place","house"] ["group","houses"] (aj zG):=dz
theorem cK:au ["balances","houses","sums","most","left","groups","group","house","balance"] ["balances"] (aj EJ):=dz
theorem bZ:au ["group","balances","told","total","house","after"] ["group","balances"] (aj kG):=dz
theorem fY:au ["groups","balances","told","group"] ["groups","balances"] (aj jw):=dz
theorem rh:au ["balances"] ["balances"] (aj kF):=dz
theorem Aw:au ["self","number"] ["self","number"] (aj sZ):=dz
theorem As:au ["self"] ["self"] (aj sW):=dz
theorem CP:au ["self"] ["self"] (aj vp):=dz
theorem va:au ["self"] ["self"] (aj mH):=dz
theorem yA:au ["self"] ["self"] (aj qI):=dz
theorem Av:au ["self"] ["self"] (aj sY):=dz
theorem xy:au ["self"] ["self"] (aj oX):=dz
theorem tV:au ["self"] ["self"] (aj kY):=dz
theorem qV:au ["numbers","least","most","number"] ["numbers","least","most"] (aj tO):=dz
theorem AE:au ["row","length"] ["row","length"] (aj tN):=dz
theorem nW:au ["row","length","place"] ["row","length"] (aj CN):=dz
theorem F9:au ["parts","told","part"] ["parts"] (aj OD):=dz
theorem AD:au ["a","b"] ["a","b"] (aj tM):=dz
theorem DT:au ["holdings","numbers","row"] ["holdings","numbers","row"] (aj xo):=dz
theorem qT:au ["holdings","numbers","row","triples"] ["holdings","numbers","row"] (aj tE):=dz
theorem we:au ["holdings","numbers","row"] ["holdings","numbers","row"] (aj nS):=dz
theorem o7:au ["holdings","numbers","row","transfers"] ["holdings","numbers","row"] (aj qP):=dz
theorem cX:au ["holdings","numbers","row","balances","groups","transfers","group"] ["holdings","numbers","row"] (aj qN):=dz
theorem eR:au ["holdings","numbers","row","transfers","balances","payer","receiver","amount"] ["holdings","numbers","row"] (aj tj):=dz
theorem Ax:au ["holdings","numbers","row"] ["holdings","numbers","row"] (aj tu):=dz
theorem R6:au ["region"] ["region"] (aj Q3):=dz
theorem OG:au ["group","region"] ["group","region"] (aj K5):=dz
theorem A2:au ["group","count"] ["group"] (aj OE):=dz
theorem F7:au ["self","n","costs","demands"] ["self","n","costs","demands"] (aj zy):=dz
theorem yB:au ["self","number"] ["self","number"] (aj qK):=dz
theorem uZ:au ["self"] ["self"] (aj mF):=dz
theorem DS:au ["self","region","group"] ["self","region","group"] (aj xm):=dz
theorem d8:au ["self","region","group"] ["self","region"] (aj jL):=dz
theorem yC:au ["n","costs"] ["n","costs"] (aj qR):=dz
theorem kI:au ["first","second","a","b"] ["first","second"] (aj CO):=dz
theorem aX:au ["demands","totals","row","demand","total"] ["demands"] (aj nV):=dz
theorem iD:au ["demands","totals","row","demand"] ["demands"] (aj zH):=dz
theorem g6:au ["a","b","rest"] ["a","b"] (aj oZ):=dz
theorem EL:au ["numerator","denominator","divisor"] ["numerator","denominator"] (aj Ig):=dz
theorem lF:au ["n","product","factor"] ["n"] (aj zF):=dz
theorem cJ:au ["game","order","told","group","region"] ["game","order"] (aj oY):=dz
theorem o9:au ["game","region","total","group","before","orders"] ["game","region"] (aj K6):=dz
theorem uF:au ["game","region"] ["game"] (aj Ih):=dz
theorem aW:au ["game","fractions","unit","rests","told","wanting","by_rest","region","numerator","denominator"] ["game"] (aj o4):=dz
theorem lC:au ["game","told","region","group"] ["game"] (aj zD):=dz
theorem cE:au ["game","unit","whole","group","total","region","number"] ["game"] (aj xu):=dz
theorem ub:au ["game","region","groups","group"] ["game","region"] (aj K7):=dz
theorem uH:au ["game","region"] ["game"] (aj Ii):=dz
theorem p9:au ["game","region","group"] ["game","region"] (aj EH):=dz
theorem iO:au ["game","region"] ["game"] (aj tS):=dz
theorem gK:au ["game","i","j","groups","group"] ["game","i","j"] (aj zz):=dz
theorem fW:au ["game","told","i","j"] ["game"] (aj vq):=dz
theorem Ij:au ["first","second"] ["first","second"] (aj CM):=dz
theorem jx:au ["game","factor","cost"] ["game","factor"] (aj vD):=dz
theorem lE:au ["game","cost"] ["game"] (aj zE):=dz
theorem bE:au ["game","blocks","groups","block","group"] ["game","blocks"] (aj o3):=dz
theorem iP:au ["game","regions","region"] ["game","regions"] (aj tT):=dz
theorem mN:au ["game","merged","blocks","region"] ["game","merged"] (aj vB):=dz
theorem qW:au ["game","i","j","group"] ["game","i","j"] (aj tQ):=dz
theorem iN:au ["game","i","j","group"] ["game"] (aj tR):=dz
theorem mO:au ["group","numbers","region","number"] ["group","numbers"] (aj EI):=dz
theorem Mf:au ["game","d","numbers"] ["game","d","numbers"] (aj Ie):=dz
theorem iL:au ["game","d","numbers","group","cost"] ["game","d","numbers"] (aj xr):=dz
theorem qc:au ["game","d","numbers","told","greatest"] ["game","d","numbers"] (aj zI):=dz
theorem jy:au ["region","pairs","group","number"] ["region","pairs"] (aj zJ):=dz
theorem aS:au ["game","d","pairs","total","region","group","number"] ["game","d","pairs"] (aj lj):=dz
theorem tY:au ["holdings","numbers","row","n"] ["holdings","numbers","row"] (aj vx):=dz
theorem eS:au ["holdings","numbers","row","n","hours","demands","region"] ["holdings","numbers","row"] (aj tF):=dz
theorem tW:au ["holdings","numbers","row","game"] ["holdings","numbers","row"] (aj vt):=dz
theorem Ay:au ["holdings","numbers","row"] ["holdings","numbers","row"] (aj tw):=dz
theorem AA:au ["holdings","numbers","row"] ["holdings","numbers","row"] (aj tJ):=dz
theorem mJ:au ["holdings","numbers","row","game"] ["holdings","numbers","row"] (aj nU):=dz
theorem vb:au ["holdings","numbers","row"] ["holdings","numbers","row"] (aj mI):=dz
theorem ua:au ["holdings","numbers","row"] ["holdings","numbers","row"] (aj lh):=dz
theorem AB:au ["holdings","numbers","row"] ["holdings","numbers","row"] (aj tL):=dz
theorem o5:au ["holdings","numbers","row","found"] ["holdings","numbers","row"] (aj qM):=dz
theorem o8:au ["holdings","numbers","row","game"] ["holdings","numbers","row"] (aj qQ):=dz
theorem gR:au ["holdings","numbers","row","game","pairs","group","number"] ["holdings","numbers","row"] (aj tK):=dz
theorem fX:au ["holdings","numbers","row","game","hour","region_demands"] ["holdings","numbers","row"] (aj vz):=dz
theorem oA:au ["holdings","numbers","row","first","second"] ["holdings","numbers","row"] (aj xq):=dz
theorem qU:au ["holdings","numbers","row","game"] ["holdings","numbers","row"] (aj tI):=dz
theorem tX:au ["holdings","numbers","row","game"] ["holdings","numbers","row"] (aj vw):=dz
theorem o6:au ["holdings","numbers","row","game"] ["holdings","numbers","row"] (aj qO):=dz
theorem kU:au ["holdings","numbers","row","game","merged"] ["holdings","numbers","row"] (aj tG):=dz
theorem tZ:au ["holdings","numbers","row","regions"] ["holdings","numbers","row"] (aj vy):=dz
theorem qS:au ["holdings","numbers","row","pairs"] ["holdings","numbers","row"] (aj tf):=dz
theorem Az:au ["holdings","numbers","row"] ["holdings","numbers","row"] (aj tH):=dz
theorem iB:au ["self","slot"] ["self"] (aj qL):=dz
theorem p8:au ["self","slot"] ["self","slot"] (aj jM):=dz
theorem lq:au ["self","slot","game"] ["self","slot"] (aj mG):=dz
theorem Au:au ["self","slot","game"] ["self","slot","game"] (aj sX):=dz
theorem F8:au ["number"] ["number"] (aj zC):=dz
theorem kH:au ["answer_call","holdings","numbers","row","e"] ["answer_call","holdings","numbers","row"] (aj kZ):=dz
theorem dH:au ["calls","holdings","told","at","call","end","numbers","row","answer"] ["calls"] (aj EG):=dz
end Sh
end
section
namespace Sh
open PySem PySem.Spec PyProof.Rows L2 ShX Shm
open Vbedah (within State Game fact frac nats does whole balances partsOf members Debts toldQ slotOk FAR count with_ toldQs peak size pairs oweMore greatest peakShares demand toSlot regionsOf inSlot share swing qsOf loudest transfersOf chunks potentials stable renamed parted weightsOf byOrder dearer covers owing rounded scaled dual ofHours debtOk toldDebts dividend shows hourCount asks through COST settles distinct)
section
variable{P:Program}{w:World}{K:PySem.W.Frag}{mg:rn}{base:Heap}{A:ql}{F:Tg}
set_option hygiene false
local macro_rules|`(tactic|walk_at"a")=>`(tactic|refine⟨_,rfl,hd,dx,_,rfl,h1,c9 _ _ (by decide) (by decide),_,rfl,pn,_,_,_,rfl,rfl,aH.of hn,at_of (j:=0) rfl rfl,hd,z,st,rfl,hS,λe=>k2 _ (fg e),λe1 e2=>k2 _ (dj e1 e2),λa g e1 e2 hG W=>?_⟩)
local macro_rules|`(tactic|walk_at"b")=>`(tactic|obtain⟨hd,pn,pr,st,ns,row,rfl,hS,hn,hl,hrow,hrl,k1,k2⟩:=h)
local macro_rules|`(tactic|walk_at"c")=>`(tactic|obtain⟨dx,gl,da,dd,m,os,h1,h2,h3,h4,h5⟩:=id hS)
local macro_rules|`(tactic|walk_at"d")=>`(tactic|refine⟨_,rfl,hd,dx,_,rfl,h1,c9 _ _ (by decide) (by decide),_,rfl,pn,_,_,_,rfl,rfl,aH.of hn,at_of (j:=0) rfl rfl,hd,z,st,rfl,hS,λe=>k2 _ (mQ e),λe1 e2=>k2 _ (j6 e1 e2),λa g e1 e2 hG W=>?_⟩)
local macro_rules|`(tactic|walk_at"e")=>`(tactic|(obtain⟨hd,pn,pr,st,ns,row,rfl,_⟩:=h;rfl))
local macro_rules|`(tactic|walk_at"f")=>`(tactic|refine⟨_,ai (aM (pZ (dE T) (hr.mono (by decide)) rfl T.i5 T.iZ rd fc T.cH.kp (eE T) .nil az (aa (pv 0) (aa (oU j9 ao) ae)))),?_⟩)
local macro_rules|`(tactic|walk_at"g")=>`(tactic|refine⟨_,rfl,hd,dx,_,rfl,h1,c9 _ _ (by decide) (by decide),_,rfl,pn,_,_,_,rfl,rfl,aH.of hn,at_of (j:=1) rfl rfl,_,y,rfl,λhz=>?_,λhz=>k2 _ (ef.trans (mS hz))⟩)
local macro_rules|`(tactic|walk_at"h")=>`(tactic|refine⟨_,rfl,a,dx,_,rfl,q1,iJ _ _ _ (by decide) (by decide) (by decide),_,rfl,a,g,i,rfl,hG,W,hi,λp H1 s1 np hp=>?_⟩)
local macro_rules|`(tactic|walk_at"i")=>`(tactic|refine eJ (λhh=>?_) λhh=>?_)
local macro_rules|`(tactic|walk_at"j")=>`(tactic|obtain⟨dx,c,d,q1,q2,q3⟩:=id hG)
local macro_rules|`(tactic|walk_at"k")=>`(tactic|exact⟨_,rfl,_,rfl,e,C,t,_,rfl,he,xc,λdx h1 h2=>k dx h1 h2⟩)
local macro_rules|`(tactic|walk_at"l")=>`(tactic|refine⟨_,rfl,.inl ⟨rfl,_,aH.of af⟩,_,rfl,q,_,rfl,.inl (aH.of hq7),t,_,_,rfl,rfl,af,by rw[length_map];exact lt_of_le_of_lt (show out.length<=300000 by omega) (by decide),?_⟩)
local macro_rules|`(tactic|walk_at"m")=>`(tactic|refine k1 v _ (Fr.of (((s1.trans (ah ht)).trans s2).trans (ah nv))) (hS.same (((s1.trans (ah ht)).trans s2).trans (ah nv))) (nw (((s1.trans (ah ht)).trans s2).none nv)) ?_)
local macro_rules|`(tactic|walk_at"n")=>`(tactic|have q:(whole64 a&&(whole64 b&&((x.all λz=>whole64 z)&&decide (x.length<=1000))))=true:=q)
local macro_rules|`(tactic|walk_at"o")=>`(tactic|show out++PyFlat.told ((VbedahNeutral.step st (PyVbedah.whole _)).2::played VbedahNeutral.step (VbedahNeutral.step st (PyVbedah.whole _)).1 (cs1.map PyVbedah.whole))=_)
local macro_rules|`(tactic|walk_at"p")=>`(tactic|refine⟨_,rfl,hd,dx,_,rfl,h1,c9 _ _ (by decide) (by decide),_,rfl,pn,_,_,_,rfl,rfl,aH.of hn,at_of (j:=0) rfl rfl,_,z,rfl,λhz=>?_,λhz=>k2 _ (by rw[ef,if_pos hz])⟩)
local macro_rules|`(tactic|walk_at"q")=>`(tactic|refine⟨Tt,_,rfl,ra.of hT,rfl,_,_,rfl,_,_,rfl,rfl,rfl,?_⟩)
local macro_rules|`(tactic|walk_at"r")=>`(tactic|intro H1 acc s1 hacc hpair)
local macro_rules|`(tactic|walk_at"s")=>`(tactic|refine⟨_,rfl,hd,A.bD,dx,_,_,rfl,h1,T.ax,T.bX,mj _ _,da,dd,_,rfl,h5.1,wJ _ (by decide),da,dd,m,st.debts,rfl,h5,ok,by omega,λb H0 s0 nb hb=>?_⟩)
local macro_rules|`(tactic|walk_at"t")=>`(tactic|refine⟨_,rfl,a,A.Game,gx,_,_,rfl,q1,T.aA,T.aY,jn _ _ _,(by show 1<=sizeLine;decide),λq nq=>?_⟩)
local macro_rules|`(tactic|walk_at"u")=>`(tactic|exact⟨rfl,qy rfl _ _ (ay.refl _) rfl (by intro z;cases z)⟩)
local macro_rules|`(tactic|walk_at"v")=>`(tactic|exact k1 q _ (fr3.trans (Fr.of (ah nq))) (hS3.same (ah nq)) (Qa fr3 nq) af)
local macro_rules|`(tactic|walk_at"w")=>`(tactic|refine⟨_,rfl,a,A.Game,dx,_,_,rfl,q1,T.aA,T.aY,jn _ _ _,_,rfl,by omega,by omega,λD hD=>?_⟩)
local macro_rules|`(tactic|walk_at"x")=>`(tactic|refine⟨_,rfl,a,A.Game,dx,_,_,rfl,s0 _ _ q1,T.aA,T.aY,jn _ _ _,_,rfl,by omega,by omega,?_⟩)
local macro_rules|`(tactic|walk_at"y")=>`(tactic|simp only[and_eq_true,decide_eq_true_iff]at q)
local macro_rules|`(tactic|walk_at"z")=>`(tactic|obtain⟨gx,c,d,q1,q2,q3⟩:=id hG)
local macro_rules|`(tactic|walk_at"A")=>`(tactic|refine⟨_,rfl,_,rfl,_,_,rfl,rfl,qy rfl _ _ (ay.refl _) ?_ (by intro z;cases z)⟩)
local macro_rules|`(tactic|walk_at"B")=>`(tactic|generalize(x.all λz=>whole64 z)=w1 at q)
local macro_rules|`(tactic|walk_at"C")=>`(tactic|have h:some (1,0)=some (n,k):=h)
local macro_rules|`(tactic|walk_at"D")=>`(tactic|refine⟨_,rfl,_,_,rfl,rfl,_,rfl,?_⟩)
local macro_rules|`(tactic|walk_at"E")=>`(tactic|show(if _ then _ else _:State×List Int).2.length<=1000)
local macro_rules|`(tactic|walk_at"F")=>`(tactic|rintro i x H1 hi s1 hx _ Qn Qy qn qy)
local macro_rules|`(tactic|walk_at"G")=>`(tactic|obtain⟨z,hz,rfl⟩:=kR hx)
local macro_rules|`(tactic|walk_at"H")=>`(tactic|(obtain⟨a,g,rfl,_⟩:=h;rfl))
local macro_rules|`(tactic|walk_at"I")=>`(tactic|refine⟨rfl,?_⟩)
theorem Rn:bootBuiltins "abs"=some (.builtin "abs"):=by decide+kernel
theorem M4:bootBuiltins "all"=some (.builtin "all"):=by decide+kernel
theorem M5:bootBuiltins "any"=some (.builtin "any"):=by decide+kernel
theorem cC:bootBuiltins "len"=some (.builtin "len"):=by decide+kernel
theorem AU:bootBuiltins "list"=some (.type "list"):=by decide+kernel
theorem By:bootBuiltins "max"=some (.builtin "max"):=by decide+kernel
theorem Ro:bootBuiltins "min"=some (.builtin "min"):=by decide+kernel
theorem Rp:bootBuiltins "set"=some (.type "set"):=by decide+kernel
theorem Lm:bootBuiltins "sorted"=some (.builtin "sorted"):=by decide+kernel
theorem xV:bootBuiltins "sum"=some (.builtin "sum"):=by decide+kernel
theorem M6:bootBuiltins "tuple"=some (.type "tuple"):=by decide+kernel
theorem MT(a b:Nat):Builtin.bitAnd (a:Int) (b:Int)=((a&&&b:Nat):Int):=by
 unfold Builtin.bitAnd;rw[decide_eq_true (Int.natCast_nonneg a),decide_eq_true (Int.natCast_nonneg b)];rfl
theorem Rk(a b:Nat):Builtin.bitOr (a:Int) (b:Int)=((a|||b:Nat):Int):=by
 unfold Builtin.bitOr Builtin.bitAnd Builtin.bitNot;rw[decide_eq_false (by omega),decide_eq_false (by omega)];show-(-((((-(-(a:Int)-1)-1).toNat|||(-(-(b:Int)-1)-1).toNat:Nat)):Int)-1)-1=_;have ea:(-(-(a:Int)-1)-1).toNat=a:=by omega
 have eb:(-(-(b:Int)-1)-1).toNat=b:=by omega
 rw[ea,eb];omega
theorem qv{Q:VK}{H:Hp}{v v':V}(e:v=v')(k:Q v' H):Q v H:=e▸k
theorem qi{Q:VK}{H:Hp}{i j:Int}(e:i=j)(k:Q (.int j) H):Q (.int i) H:=e▸k
theorem qb{Q:VK}{H:Hp}{i j:Bool}(e:i=j)(k:Q (.bl j) H):Q (.bl i) H:=e▸k
theorem MU(a b:Nat):Builtin.bitXor (a:Int) (b:Int)=((a^^^b:Nat):Int):=by
 unfold Builtin.bitXor;rw[Rk,MT,<-zP];omega
theorem p2(i:Nat):(1:Int)*2^((i:Int).toNat)=((2^i:Nat):Int):=by
 rw[one_mul,toNat_natCast];simp
def R8:Sp:=λvs H Q _=>∃i:Nat,vs=[.int i]/\i<=1000/\Q (.int (2^i:Nat)) H
theorem sL(T:Txt K mg A F):aT P w K mg base gU 1 A.bit F.bit ["region"] R8:=by
 refine T.vi.ok R6 (λvs H Q E h=>?_) (λcdv Ar outer s H vs Q E hr h=>?_)
 ·obtain⟨i,rfl,_⟩:=h;rfl
 ·obtain⟨i,rfl,hi,k⟩:=h;refine⟨_,((ai (aB (aR F3 ao (pv 0))))),?_⟩;refine⟨_,rfl,_,_,rfl,rfl,⟨by omega,by omega,by decide⟩,?_⟩;rw[<-p2]at k;exact k
def OL:Sp:=λvs H Q _=>∃s i:Nat,vs=[.int s,.int i]/\i<=1000/\Q (.bl (Vbedah.has s i)) H
theorem mw(T:Txt K mg A F):aT P w K mg base gU 2 A.holds F.holds ["group","region"] OL:=by
 refine T.ly.ok OG (λvs H Q E h=>?_) (λcdv Ar outer s H vs Q E hr h=>?_)
 ·obtain⟨s,i,rfl,_⟩:=h;rfl
 ·obtain⟨z,i,rfl,hi,k⟩:=h;refine⟨_,((ai (aB (p5 nN (aR Cz (pv 0) (aw (sL T) hr T.zb T.vi.kp (yN T) az (aa (pv 1) ae))) ao (bI _))))),?_⟩;refine⟨_,rfl,_,rfl,i,rfl,hi,_,_,rfl,rfl,rfl,?_⟩;have e:(!decide (V.int (Builtin.bitAnd (z:Int) ((2^i:Nat):Int))=V.int 0))=Vbedah.has z i:=by
   rw[MT,Bool.eq_iff_iff,<-Ph];simp only[not_eq_true',decide_eq_false_iff_not,V.int.injEq];omega
  exact qv (congrArg V.bl e) k
def QC:Sp:=λvs H Q _=>∃s n:Nat,vs=[.int s]/\s<2^n/\Q (.int (count n s:Nat)) H
theorem KO(T:Txt K mg A F):aT P w K mg base gU 1 A.size F.size ["group"] QC:=by
 refine T.FA.ok A2 (λvs H Q E h=>?_) (λcdv Ar outer s H vs Q E hr h=>?_)
 ·obtain⟨s,n,rfl,_⟩:=h;rfl
 ·obtain⟨z,n,rfl,hz,k⟩:=h
  refine⟨_,((ag (fC 1 A2.nd ao)
   (ag (sU PassesOwn.never (bG Ob (pv 0) ao (bI _))
   (ag (yz (i:=1) A2.nd rfl (Or.inl rfl) (aR Cz (pv 0) ao) vR)
   (ai (fC 0 A2.nd (aR Od (pv 0) ao)))))
   (ai (aB (pv 1)))))),?_⟩
  refine uh (λσ H'=>H'=H/\∃(z' c n':Nat),σ=[some (.int z'),some (.int c)]/\z'<2^n'/\c+count n' z'=count n z) (λσ _=>match σ with|[some (.int z'),_]=>z'.toNat|_=>0) ⟨rfl,z,0,n,rfl,hz,by omega⟩ ?_ (λσ H Q Q' hq ⟨v,e,i,j,e1,e2,b,e3,q⟩=>⟨v,e,i,j,e1,e2,b,e3,hq _ _ q⟩);rintro σ H' ⟨rfl,z',c,n',rfl,h1,h2⟩;walk_at"D";refine eJ (λhp=>?_) λhp=>?_
  ·have hp:0<z':=by simpa using hp
   refine⟨_,rfl,_,rfl,_,_,rfl,rfl,_,_,rfl,rfl,?_⟩;refine⟨_,rfl,_,_,rfl,rfl,(by show(0:Int)<=1;decide),?_⟩;obtain⟨m,rfl⟩:∃m,n'=m+1:=⟨n'-1,by cases n' with|zero=>simp at h1;omega|succ m=>rfl⟩
   have e1:(z':Int)/2^(1:Int).toNat=((z'/2:Nat):Int):=by simp
   have e2:(c:Int)+Builtin.bitAnd (z':Int) 1=((c+z'%2:Nat):Int):=by
    rw[bitAnd_m1];omega
   have e3:=Jd m z';refine⟨⟨rfl,z'/2,c+z'%2,m,?_,by rw[pow_succ]at h1;omega,by omega⟩,?_⟩
   ·show [some (V.int ((z':Int)/2^(1:Int).toNat)),some (V.int ((c:Int)+Builtin.bitAnd (z':Int) 1))]=_;rw[e1,e2]
   ·show((z':Int)/2^(1:Int).toNat).toNat<(z':Int).toNat;rw[e1];omega
  ·have hp:z'=0:=by
    have:¬0<z':=by simpa using hp
    omega
   subst hp;rw[BC]at h2;refine⟨_,rfl,?_⟩;rw[add_zero]at h2;exact qi (by rw[h2]) k
def Gi:Sp:=λvs H Q _=>∃n:Nat,vs=[.int n]/\n<=8/\Q (.int (fact n:Nat)) H
theorem me{n:Nat}(h:n<=8):fact n<=40320:=by
 match n,h with
 |0,_=>decide
 |1,_=>decide
 |2,_=>decide
 |3,_=>decide
 |4,_=>decide
 |5,_=>decide
 |6,_=>decide
 |7,_=>decide
 |8,_=>decide
 |n+9,h=>omega
theorem ju(T:Txt K mg A F):aT P w K mg base gU 1 A.jW F.jW ["n"] Gi:=by
 refine T.hU.ok lF (λvs H Q E h=>?_) (λcdv Ar outer s H vs Q E hr h=>?_)
 ·obtain⟨n,rfl,_⟩:=h;rfl
 ·obtain⟨n,rfl,hn,k⟩:=h
  refine⟨_,((ag (fC 1 lF.nd ao)
   (ag (dF PassesOwn.never rfl (uB rfl T.cQ (aa ao (aa (aR iI (pv 0) ao) ae))) (fO 2 lF.nd (Or.inl rfl))
   (ai (yz (i:=1) lF.nd rfl (Or.inl rfl) (pv 2) RD)))
   (ai (aB (pv 1)))))),?_⟩
  refine⟨_,rfl,_,_,rfl,rfl,2,(n:Int)+1,rfl,⟨by decide,by decide,by omega,by omega⟩,?_⟩;refine LF (lo:=2) (λi σ H'=>H'=H/\∃v,σ=[some (.int n),some (.int (fact (i+1):Nat)),v]) ⟨rfl,none,rfl⟩ ?_ ?_
  ·rintro i σ H1 hi ⟨rfl,v,rfl⟩;refine⟨_,rfl,_,rfl,_,_,rfl,rfl,.inr ⟨by omega,by omega⟩,rfl,some (V.int (2+(i:Int))),?_⟩;have e:((fact (i+1):Nat):Int)*(2+(i:Int))=((fact (i+1+1):Nat):Int):=by
    rw[show fact (i+1+1)=(i+1+1)*fact (i+1)from rfl,natCast_mul,mul_comm];congr 1;omega
   show [some (V.int n),some (V.int (((fact (i+1):Nat):Int)*(2+(i:Int)))),_]=_;rw[e]
  ·rintro σ H1 ⟨rfl,v,rfl⟩;refine⟨_,rfl,?_⟩;have e:fact (((n:Int)+1-2).toNat+1)=fact n:=by
    by_cases h0:n=0
    ·subst h0;rfl
    ·rw[show((n:Int)+1-2).toNat+1=n by omega]
   exact qi (by rw[e]) k
def gf(n:Nat)(c:Addr)(d:V):List (Str×V):=jE "demands" d (jE "costs" (.ref c) (jE "n" (.int n) []))
theorem jn(n:Nat)(c:Addr)(d:V):(gf n c d).lookup ("n":Str)=some (.int n):=by unfold gf;rw[bB,if_neg (by decide),bB,if_neg (by decide),bB,if_pos rfl]
theorem cx(n:Nat)(c:Addr)(d:V):(gf n c d).lookup ("costs":Str)=some (.ref c):=by unfold gf;rw[bB,if_neg (by decide),bB,if_pos rfl]
theorem vQ(n:Nat)(c:Addr)(d:V):(gf n c d).lookup ("demands":Str)=some d:=by unfold gf;rw[bB,if_pos rfl]
theorem iJ(n:Nat)(c:Addr)(d:V){m:Str}(h1:¬m="n")(h2:¬m="costs")(h3:¬m="demands"):(gf n c d).lookup m=none:=by
 unfold gf;rw[bB,if_neg h3,bB,if_neg h2,bB,if_neg h1];rfl
abbrev IL(H:Hp)(p:Addr)(ns:List Int):Prop:=H p=some (.lst (ns.map V.int))
def LL(H:Hp)(p:Addr)(xss:List (List Int)):Prop:=∃ps:List Addr,H p=some (.lst (ps.map V.ref))/\Paired (λq xs=>IL H q xs) ps xss
def TL(H:Hp)(p:Addr)(xss:List (List Int)):Prop:=∃ps:List Addr,H p=some (.lst (ps.map V.ref))/\Paired (λq xs=>H q=some (.tup (xs.map V.int))) ps xss
theorem LL.same{H H':Hp}{p:Addr}{xss:List (List Int)}(s:ay H H')(h:LL H p xss):LL H' p xss:=by
 obtain⟨ps,h1,h2⟩:=h;exact⟨ps,s _ _ h1,bc h2 λ_ _ _ _ e=>s _ _ e⟩
theorem TL.same{H H':Hp}{p:Addr}{xss:List (List Int)}(s:ay H H')(h:TL H p xss):TL H' p xss:=by
 obtain⟨ps,h1,h2⟩:=h;exact⟨ps,s _ _ h1,bc h2 λ_ _ _ _ e=>s _ _ e⟩
def J3(H:Hp)(d:V)(hs:List (List Nat)):Prop:=(d= .gc/\hs=[])\/∃p,d= .ref p/\hs≠[]/\LL H p (hs.map λr=>r.map ofNat)
def aZ(C:Addr)(H:Hp)(a:Addr)(g:Game):Prop:=∃dx c d,H a=some (.ins C dx (gf g.n c d))/\IL H c g.costs/\J3 H d g.hours
theorem J3.same{H H':Hp}{d:V}{hs:List (List Nat)}(s:ay H H')(h:J3 H d hs):J3 H' d hs:=by
 rcases h with h|⟨p,h1,h2,h3⟩
 ·exact .inl h
 ·exact .inr ⟨p,h1,h2,h3.same s⟩
theorem aZ.same{C:Addr}{H H':Hp}{a:Addr}{g:Game}(s:ay H H')(h:aZ C H a g):aZ C H' a g:=by
 obtain⟨dx,c,d,h1,h2,h3⟩:=h;exact⟨dx,c,d,s _ _ h1,s _ _ h2,h3.same s⟩
structure GW(g:Game):Prop where
 n1:1<=g.n
 n8:g.n<=8
 len:g.costs.length=2^g.n
 zero:g.cost 0=0
 Tn:g.hours=[]\/(g.hours.length=g.n/\∃h,1<=h/\h<=24/\∀r∈g.hours,r.length=h)
theorem GW.pow{g:Game}(W:GW g):2^g.n<=256:=pow_le_pow_right (by decide) W.n8
def xF:Sp:=λvs H Q _=>∃a b:Nat,vs=[.int a,.int b]/\Q (.int (gcd a b:Nat)) H
theorem xb(T:Txt K mg A F):aT P w K mg base gU 1 A.eF F.eF ["a","b"] xF:=by
 refine T.jU.ok g6 (λvs H Q E h=>?_) (λcdv Ar outer s H vs Q E hr h=>?_)
 ·obtain⟨a,b,rfl,_⟩:=h;rfl
 ·obtain⟨a,b,rfl,k⟩:=h
  refine⟨_,((ag (sU PassesOwn.never (bG nN (pv 1) ao (bI _))
   (ag (fC 2 g6.nd (aR JE (pv 0) (pv 1)))
   (ag (fC 0 g6.nd (pv 1))
   (ai (fC 1 g6.nd (pv 2))))))
   (ai (aB (pv 0))))),?_⟩
  refine uh (λσ H'=>H'=H/\∃(x y:Nat)(v:Option V),σ=[some (.int x),some (.int y),v]/\gcd x y=gcd a b) (λσ _=>match σ with|[_,some (.int y),_]=>y.toNat|_=>0) ⟨rfl,a,b,none,rfl,rfl⟩ ?_ (λσ H Q Q' hq ⟨v,e,e1,b,e3,q⟩=>⟨v,e,e1,b,e3,hq _ _ q⟩);rintro σ H' ⟨rfl,x,y,v,rfl,hg⟩;refine⟨_,rfl,rfl,_,rfl,?_⟩;refine eJ (λhp=>?_) λhp=>?_
  ·have hp:0<y:=by
    have:¬y=0:=by simpa using hp
    omega
   refine⟨_,rfl,_,rfl,_,_,rfl,rfl,by omega,?_⟩;refine⟨_,rfl,?_⟩;refine⟨_,rfl,?_⟩;have e:(x:Int)%(y:Int)=((x%y:Nat):Int):=by omega
   refine⟨⟨rfl,y,x%y,some (V.int ((x:Int)%(y:Int))),?_,?_⟩,?_⟩
   ·show [some (V.int (y:Int)),some (V.int ((x:Int)%(y:Int))),some (V.int ((x:Int)%(y:Int)))]=_;rw[e]
   ·rw[<-hg,Nat.gcd_comm x y,Nat.gcd_rec y x,Nat.gcd_comm]
   ·show((x:Int)%(y:Int)).toNat<(y:Int).toNat;rw[e];have:=Nat.mod_lt x hp;omega
  ·have hp:y=0:=by simpa using hp
   subst hp;refine⟨_,rfl,?_⟩;rw[Nat.gcd_zero_right]at hg;exact qi (by rw[hg]) k
def Mi:Sp:=λvs H Q _=>∃(n:Int)(d:Nat),vs=[.int n,.int d]/\0<d/\d<1073741824/\∀p,H p=none->Q (.ref p) (upd H p (.tup [.int (frac n d).1,.int ((frac n d).2:Nat)]))
theorem uz(T:Txt K mg A F):aT P w K mg base gU 2 A.vT F.vT ["numerator","denominator"] Mi:=by
 refine T.oJ.ok EL (λvs H Q E h=>?_) (λcdv Ar outer s H vs Q E hr h=>?_)
 ·obtain⟨n,d,rfl,_⟩:=h;rfl
 ·obtain⟨n,d,rfl,hd,hd2,k⟩:=h
  refine⟨_,((ag (fC 2 EL.nd (aw (xb T) hr T.yj T.jU.kp (xS T) az (aa (aL M8 (by rfl) T.Su Rn (aa (pv 0) ae)) (aa (pv 1) ae))))
   (ai (aB (sR (aa (aR xg (pv 0) (pv 2)) (aa (aR xg (pv 1) (pv 2)) ae))))))),?_⟩
  have e:(if n<0 then-n else n)=((n.natAbs:Nat):Int):=by split<;>omega
  have gp:0<gcd n.natAbs d:=Nat.gcd_pos_of_pos_right _ hd;have gl:gcd n.natAbs d<=d:=Nat.le_of_dvd hd (Nat.gcd_dvd_right _ _);refine⟨_,rfl,_,rfl,_,rfl,n.natAbs,d,?_,?_⟩
  ·show [V.int (if n<0 then-n else n),V.int d]=_;rw[e]
  refine⟨_,rfl,_,rfl,_,_,rfl,rfl,⟨by omega,by omega⟩,_,rfl,_,rfl,_,_,rfl,rfl,⟨by omega,by omega⟩,(by show 2<=sizeLine;decide),λp hp=>?_⟩;have e2:(d:Int)/((gcd n.natAbs d:Nat):Int)=((d/gcd n.natAbs d:Nat):Int):=by omega
  have k2:=k p hp;show Q (V.ref p) (upd H p (HO.tup [V.int (n/((gcd n.natAbs d:Nat):Int)),V.int ((d:Int)/((gcd n.natAbs d:Nat):Int))]));rw[e2];exact k2
def Gd(C:Addr):Sp:=λvs H Q _=>∃(p dx c:Addr)(n:Nat)(d:V),vs=[.ref p,.int n,.ref c,d]/\H p=some (.ins C dx [])/\Q .gc (upd H p (.ins C dx (gf n c d)))
theorem w6(T:Txt K mg A F):aT P w K mg base gU 1 A.jP F.jP ["self","n","costs","demands"] (Gd A.Game):=by
 refine T.yT.ok F7 (λvs H Q E h=>?_) (λcdv Ar outer s H vs Q E hr h=>?_)
 ·obtain⟨p,dx,c,n,d,rfl,_⟩:=h;rfl
 ·obtain⟨p,dx,c,n,d,rfl,hp,k⟩:=h
  refine⟨_,((ag (v9 (pv 0) (pv 1) rfl)
   (ag (v9 (pv 0) (pv 2) rfl)
   (ai (v9 (pv 0) (pv 3) rfl))))),?_⟩
  refine⟨_,rfl,_,rfl,p,A.Game,dx,_,rfl,hp,T.aA,T.aY,(by show 0<1000;decide),?_⟩;refine⟨_,rfl,_,rfl,p,A.Game,dx,_,rfl,af,T.aA,T.aV,(by show 1<1000;decide),?_⟩;refine⟨_,rfl,_,rfl,p,A.Game,dx,_,rfl,af,T.aA,T.iM,(by show 2<1000;decide),?_⟩;rw[Lb,Lb];exact k
def yE(C:Addr):Sp:=λvs H Q _=>∃(a:Addr)(g:Game)(z:Int),vs=[.ref a,.int z]/\aZ C H a g/\Q (.bl (decide (0<=z/\z<g.costs.length))) H
theorem jZ(T:Txt K mg A F):aT P w K mg base gU 1 A.fG F.fG ["self","number"] (yE A.Game):=by
 refine T.qA.ok yB (λvs H Q E h=>?_) (λcdv Ar outer s H vs Q E hr h=>?_)
 ·obtain⟨a,g,z,rfl,_⟩:=h;rfl
 ·obtain⟨a,g,z,rfl,⟨dx,c,d,h1,h2,h3⟩,k⟩:=h;refine⟨_,((ai (aB (Oj HQ CB ao (pv 1) (aL aK (by rfl) T.eO cC (aa (aQ (pv 0) rfl) ae)))))),?_⟩;walk_at"D";refine eJ (λhp=>?_) λhp=>?_
  ·have hp:0<=z:=by simpa using hp
   refine⟨_,rfl,a,A.Game,dx,_,_,rfl,h1,T.aA,T.aV,cx _ _ _,c,_,rfl,.inl (aH.of h2),_,_,rfl,rfl,?_⟩;refine qb ?_ k;rw[length_map];simp[hp]
  ·have hp:¬0<=z:=by simpa using hp
   have e:decide (0<=z/\z<(g.costs.length:Int))=false:=by simp[hp]
   rw[e]at k;exact k
def vd(C:Addr):Sp:=λvs H Q _=>∃(a:Addr)(g:Game),vs=[.ref a]/\aZ C H a g/\GW g/\Q (.int (g.cost g.all)) H
theorem Lq{g:Game}(W:GW g):g.costs[g.costs.length-1]?=some (g.cost g.all):=by
 rw[W.len];exact km W.len (by have:=two_pow_pos g.n;show 2^g.n-1<2^g.n;omega)
theorem fN(T:Txt K mg A F):aT P w K mg base gU 1 A.cT F.cT ["self"] (vd A.Game):=by
 refine T.lN.ok uZ (λvs H Q E h=>?_) (λcdv Ar outer s H vs Q E hr h=>?_)
 ·walk_at"H"
 ·obtain⟨a,g,rfl,⟨dx,c,d,h1,h2,h3⟩,W,k⟩:=h;refine⟨_,((ai (aB (aU aE (aQ (pv 0) rfl) (aR jv (aL aK (by rfl) T.eO cC (aa (aQ (pv 0) rfl) ae)) ao) (λ_ _=>rfl))))),?_⟩;have hl:0<g.costs.length:=by rw[W.len];exact two_pow_pos _
  refine⟨_,rfl,a,A.Game,dx,_,_,rfl,h1,T.aA,T.aV,cx _ _ _,_,rfl,a,A.Game,dx,_,_,rfl,h1,T.aA,T.aV,cx _ _ _,c,_,rfl,.inl (aH.of h2),_,_,rfl,rfl,c,_,_,_,rfl,rfl,aH.of h2,at_of (j:=g.costs.length-1) ?_ (by rw[getElem?_map,Lq W];rfl),k⟩;rw[length_map];omega
def DY(C:Addr):Sp:=λvs H Q _=>∃(a:Addr)(g:Game)(i s:Nat),vs=[.ref a,.int i,.int s]/\aZ C H a g/\GW g/\i<g.n/\s<2^g.n/\Vbedah.has s i=false/\Q (.int (Vbedah.adds g i s)) H
theorem A5{n s i:Nat}(h:s<2^n)(hi:i<n):with_ s i<2^n:=by
 rw[kh];exact Nat.or_lt_two_pow h (Nat.pow_lt_pow_right (by decide) hi)
theorem ej(T:Txt K mg A F):aT P w K mg base gU 2 A.iR F.iR ["self","region","group"] (DY A.Game):=by
 refine T.wM.ok DS (λvs H Q E h=>?_) (λcdv Ar outer s H vs Q E hr h=>?_)
 ·obtain⟨a,g,i,s,rfl,_⟩:=h;rfl
 ·obtain⟨a,g,i,z,rfl,⟨dx,c,d,h1,h2,h3⟩,W,hi,hz,hh,k⟩:=h;refine⟨_,((ai (aB (aR jv (aU aE (aQ (pv 0) rfl) (aR HR (pv 2) (aw (sL T) hr T.zb T.vi.kp (yN T) az (aa (pv 1) ae))) (λ_ _=>rfl)) (aU aE (aQ (pv 0) rfl) (pv 2) (λ_ _=>rfl)))))),?_⟩;have n8:=W.n8
  refine⟨_,rfl,a,A.Game,dx,_,_,rfl,h1,T.aA,T.aV,cx _ _ _,_,rfl,_,rfl,i,rfl,by omega,_,_,rfl,rfl,c,_,_,_,rfl,rfl,aH.of h2,at_of (j:=with_ z i) ?_ (by rw[getElem?_map,km W.len (A5 hz hi)];rfl),
   _,rfl,a,A.Game,dx,_,_,rfl,h1,T.aA,T.aV,cx _ _ _,_,rfl,c,_,_,_,rfl,rfl,aH.of h2,at_of (j:=z) rfl (by rw[getElem?_map,km W.len hz];rfl),_,_,rfl,rfl,?_⟩
  ·rw[Rk,kh]
  ·exact qi (pG g hh).symm k
def qd(C:Addr):Sp:=λvs H Q _=>∃(a:Addr)(g:Game)(i:Nat),vs=[.ref a,.int i]/\aZ C H a g/\GW g/\i<g.n/\∀p H',ay H H'->H p=none->IL H' p ((outs g.n i).map ofNat)->Q (.ref p) H'
theorem bR(T:Txt K mg A F):aT P w K mg base gU 3 A.bU F.bU ["self","region"] (qd A.Game):=by
 refine T.jI.ok d8 (λvs H Q E h=>?_) (λcdv Ar outer s H vs Q E hr h=>?_)
 ·obtain⟨a,g,i,rfl,_⟩:=h;rfl
 ·obtain⟨a,g,i,rfl,⟨dx,c,d,h1,h2,h3⟩,W,hi,k⟩:=h;refine⟨_,((ai (aB (du (own:=[("group",2)]) rfl d8.nd (cW rfl T.cQ (aa (aL aK (by rfl) T.eO cC (aa (aQ (pv 0) rfl) ae)) ae)) (oB d8) (λ_ _ _ _ _=>(fO 2 d8.nd (Or.inl rfl))) (λ_ _ _ _ _=>(lB (oz (iq (aw (mw T) hr T.pT T.ly.kp (pH T) az (aa (pv 2) (aa (pv 1) ae))))))) (λ_ _ _ _ _=>(pv 2)))))),?_⟩;have n8:=W.n8;have hp:=W.pow;have hl:=W.len;refine⟨_,rfl,a,A.Game,dx,_,_,rfl,h1,T.aA,T.aV,cx _ _ _,c,_,rfl,.inl (aH.of h2),_,rfl,?_,?_,?_⟩
  ·rw[length_map];omega
  ·rw[length_map];omega
  intro D hD;refine cq ja hD (λ_ _=>trivial) (λs=> !Vbedah.has s i) (λs y _=>y=V.int (s:Nat)) bh ?_ ?_ ?_
  ·rw[length_map,hl];exact le_trans (by omega) (by decide:256<=sizeLine)
  ·rintro s x H1 hs s1 rfl _ Qn Qy qn qy;walk_at"I";refine⟨_,rfl,_,rfl,s,i,?_,by omega,_,rfl,?_⟩
   ·rw[zero_add];rfl
   refine eJ (λhq=>?_) λhq=>?_
   ·exact⟨_,rfl,qy hq _ _ (ay.refl _) (by rw[zero_add]) (by intro z;cases z)⟩
   ·exact qn (by simpa using hq) _ (ay.refl _)
  ·intro H' acc s1 hacc hpair;refine k D H' s1 hD ?_;show H' D=_;have e2:((g.costs.map V.int).length:Int).toNat=2^g.n:=by rw[length_map,hl];omega
   rw[hacc,bW hpair,map_map,e2];rfl
def yG(C:Addr):Sp:=λvs H Q _=>∃(c:Addr)(n:Nat)(cs:List Int),vs=[.int n,.ref c]/\IL H c cs/\∀a H',ay H H'->aZ C H' a ⟨n,cs,[]⟩->Q (.ref a) H'
theorem fT(T:Txt K mg A F):aT P w K mg base gU 3 A.fK F.fK ["n","costs"] (yG A.Game):=by
 refine T.dy.ok yC (λvs H Q E h=>?_) (λcdv Ar outer s H vs Q E hr h=>?_)
 ·obtain⟨c,n,cs,rfl,_⟩:=h;rfl
 ·obtain⟨c,n,cs,rfl,hc,k⟩:=h;refine⟨_,((ai (aB (KS T.KL (w6 T) (hr.mono (by decide)) rfl T.NA (yM T) .nil az (aa (pv 0) (aa (pv 1) (aa sQ ae))))))),?_⟩;refine⟨_,rfl,_,rfl,?_⟩;intro x dx nx nd ne;refine⟨x,dx,c,n,.gc,rfl,af,rfl,?_⟩;have s1:ay H (upd (upd (upd H dx (.own x)) x (.ins A.Game dx [])) x (.ins A.Game dx (gf n c .gc))):=ay.made nx nd λb o e hb=>by rw[ak hb];exact e
  exact k x _ s1 ⟨dx,c,.gc,af,s1 _ _ hc,.inl ⟨rfl,rfl⟩⟩
theorem ym(l:List Nat):(l.map ofNat).map V.int=l.map λ(i:Nat)=>V.int (i:Int):=by rw[map_map];rfl
theorem gW{ns:List Int}{i:Nat}{x:V}(h:(ns.map V.int)[i]?=some x):∃z,ns[i]?=some z/\x= .int z:=dq h
theorem kR{l:List Nat}{i:Nat}{x:V}(h:((l.map ofNat).map V.int)[i]?=some x):∃z:Nat,l[i]?=some z/\x= .int (z:Nat):=by
 rw[ym]at h;exact dq h
def PL(H:Hp)(p:Addr)(xss:List (List Int)):Prop:=∃ps:List Addr,H p=some (.lst (ps.map V.ref))/\Paired (λq xs=>IL H q xs\/H q=some (.tup (xs.map V.int))) ps xss
theorem TL.pl{H:Hp}{p:Addr}{xss:List (List Int)}(h:TL H p xss):PL H p xss:=by
 obtain⟨ps,h1,h2⟩:=h;exact⟨ps,h1,bc h2 λ_ _ _ _ e=> .inr e⟩
theorem LL.pl{H:Hp}{p:Addr}{xss:List (List Int)}(h:LL H p xss):PL H p xss:=by
 obtain⟨ps,h1,h2⟩:=h;exact⟨ps,h1,bc h2 λ_ _ _ _ e=> .inl e⟩
theorem i8{α β:Type}{G:α->β->Prop}:∀{l₁:List α}{l₂:List β},Paired G l₁ l₂->∀{i:Nat}{a:α},l₁[i]?=some a->∃b,l₂[i]?=some b/\G a b
 |_,_,.nil,_,_,h=>by simp at h
 |_,_,.cons r t,0,a,h=>by
  have e:=Option.some.inj h;subst e;exact⟨_,rfl,r⟩
 |_,_,.cons r t,i+1,a,h=>by
  obtain⟨b,h1,h2⟩:=i8 t (i:=i) (a:=a) h;exact⟨b,h1,h2⟩
def QB:Sp:=λvs H Q _=>∃(p:Addr)(xss:List (List Int)),vs=[.ref p]/\PL H p xss/\xss.flatten.length<=100000/\∀q H',ay H H'->H q=none->IL H' q xss.flatten->Q (.ref q) H'
theorem z3(xss:List (List Int))(i:Nat):(xss.take i).flatten.length<=xss.flatten.length:=by
 conv=>rhs;rw[<-List.take_append_drop i xss,List.flatten_append,length_append]
 omega
theorem nJ(T:Txt K mg A F):aT P w K mg base gU 1 A.flat F.flat ["parts"] QB:=by
 refine T.oo.ok F9 (λvs H Q E h=>?_) (λcdv Ar outer s H vs Q E hr h=>?_)
 ·obtain⟨p,xss,rfl,_⟩:=h;rfl
 ·obtain⟨p,xss,rfl,⟨ps,h1,h2⟩,hl,k⟩:=h
  refine⟨_,((ag (fC 1 F9.nd (bb ae))
   (ag (dF PassesOwn.never rfl (bp (pv 0)) (fO 2 F9.nd (Or.inl rfl))
   (ai (aM (nR PySem.F.plainAttrs_list PySem.F.slot_list_extend PySem.F.type_list_extend Jy (pv 1) (aa (pv 2) ae)))))
   (ai (aB (pv 1)))))),?_⟩
  refine⟨zero_le _,λq hq=>?_⟩;have s1:ay H (upd H q (.lst [])):=ah hq;refine⟨_,rfl,p,rfl,⟨_,aH.of (s1 _ _ h1)⟩,d7 (aJ (xs:=ps.map V.ref)) (λi σ H'=>∃v,σ=[some (.ref p),some (.ref q),v]/\jF q H H'/\IL H' q (xss.take i).flatten) ⟨none,rfl,ay.but s1,af⟩ (λi σ H' _ ⟨_,_,b,_⟩=>aH.of (b _ _ (aq h1 hq) h1)) ?_ ?_⟩
  ·rintro i x σ H1 H2 hi ⟨v,rfl,b1,hq1⟩ s2 hx;obtain⟨c,hc,rfl⟩:=dq hx;obtain⟨xs,hxs,hcx⟩:=i8 h2 hc;have hc2:IL H2 c xs\/H2 c=some (.tup (xs.map V.int)):=by
    rcases hcx with e|e
    ·exact .inl (s2 _ _ (b1 _ _ (aq e hq) e))
    ·exact .inr (s2 _ _ (b1 _ _ (aq e hq) e))
   have tk:=take_snoc hxs;have hfl:=z3 xss (i+1);rw[tk,List.flatten_append,length_append]at hfl;refine⟨_,rfl,.inl ⟨rfl,_,aH.of (s2 _ _ hq1)⟩,_,rfl,q,c,_,_,rfl,rfl,s2 _ _ hq1,hc2,?_,?_⟩
   ·rw[length_map,length_map];have e1:([xs]:List (List Int)).flatten.length=xs.length:=by simp
    rw[e1]at hfl;exact le_trans (by omega) (by decide:100000<=sizeLine)
   ·refine⟨_,rfl,(b1.trans (ay.but s2)).trans jF.upd,?_⟩;show upd H2 q _ q=_;rw[af,tk,List.flatten_append,map_append];simp
  ·rintro σ H1 ⟨v,rfl,b1,hq1⟩;refine⟨_,rfl,?_⟩;rw[length_map,h2.length,take_length]at hq1;exact k q H1 (λb o e=>b1 b o (aq e hq) e) hq hq1
theorem ur{n z:Nat}(h:z<n):O3 n (z:Int)=some z:=by
 unfold O3;rw[if_pos (by omega),if_pos (by omega)];simp
theorem vk{n:Nat}:∀{o:List Nat}{s:Nat},s<2^n->(∀x∈o,x<n)->o.foldl with_ s<2^n
 |[],_,h,_=>h
 |x::o,s,h,hx=>vk (o:=o) (A5 h (hx x mem_cons_self)) λy hy=>hx y (mem_cons_of_mem _ hy)
def xE(C:Addr):Sp:=λvs H Q _=>∃(a p:Addr)(g:Game)(r:List Nat),vs=[.ref a,.ref p]/\aZ C H a g/\GW g/\IL H p (r.map ofNat)/\r.Nodup/\r.length=g.n/\(∀x∈r,x<g.n)/\∀q H',ay H H'->H q=none->IL H' q (byOrder g r)->Q (.ref q) H'
theorem w9(T:Txt K mg A F):aT P w K mg base gU 3 A.eB F.eB ["game","order"] (xE A.Game):=by
 refine T.jT.ok cJ (λvs H Q E h=>?_) (λcdv Ar outer s H vs Q E hr h=>?_)
 ·obtain⟨a,p,g,r,rfl,_⟩:=h;rfl
 ·obtain⟨a,p,g,r,rfl,hG,W,hp,nd,hl,hr8,k⟩:=h
  refine⟨_,((ag (kE (i:=2) (own:=[("region",4)]) rfl cJ.nd rfl rfl (nX rfl rfl rfl (by decide+kernel)) (bp (pv 1)) (oB cJ) (λ_ _ _ _ _=>(fO 4 cJ.nd (Or.inl rfl))) (λ_ _ _ _ _=>bC) (λ_ _ _ _ _=>ao))
   (ag (fC 3 cJ.nd ao)
   (ag (dF PassesOwn.never rfl (bp (pv 1)) (fO 4 cJ.nd (Or.inl rfl))
   (ag (Ov (aO (pv 0) T.aA T.eh (ej T) hr (fh T) az (aa (pv 4) (aa (pv 3) ae))) (Oo (pv 2) (pv 4) set_list))
   (ai (fC 3 cJ.nd (aR HR (pv 3) (aw (sL T) hr T.zb T.vi.kp (yN T) az (aa (pv 4) ae)))))))
   (ai (aB (pv 2))))))),?_⟩
  have n8:=W.n8;refine⟨_,rfl,p,rfl,⟨_,aH.of hp⟩,λD hD=>?_⟩;refine cq (aJ (xs:=(r.map ofNat).map V.int)) hD (λ_ s=>aH.of (s _ _ hp)) (λ_=>true) (λ_ y _=>y=V.int 0) bh ?_ ?_ ?_
  ·simp;exact le_trans (by omega) (by decide:8<=sizeLine)
  ·walk_at"F";walk_at"u"
  intro H1 acc s1 hD1 hacc;have e0:acc=((List.range g.n).map λj=>val g j 0 (r.take 0)).map V.int:=by
   rw[bJ hacc,aN];simp only[length_map,hl,map_map];rfl
  rw[e0]at hD1;clear e0 hacc;refine⟨_,rfl,p,rfl,⟨_,aH.of (s1 _ _ hp)⟩,d7 (aJ (xs:=(r.map ofNat).map V.int)) (λi σ H'=>∃v,σ=[some (.ref a),some (.ref p),some (.ref D),some (.int ((r.take i).foldl with_ 0:Nat)),v]/\jF D H H'/\IL H' D ((List.range g.n).map λj=>val g j 0 (r.take i))) ⟨_,rfl,ay.but s1,hD1⟩ (λi σ H' _ ⟨_,_,b,_⟩=>aH.of (b _ _ (aq hp hD) hp)) ?_ ?_⟩
  ·rintro i x σ H2 H3 hi ⟨v,rfl,b2,hD2⟩ s3 hx;walk_at"G";have zn:z<g.n:=hr8 z (mem_of_getElem? hz);have hlt:(r.take i).foldl with_ 0<2^g.n:=vk (two_pow_pos _) λx hx=>hr8 x (mem_of_mem_take hx);have hno:Vbedah.has ((r.take i).foldl with_ 0) z=false:=by
    rw[mf,oM,Bool.false_or];exact decide_eq_false (jt nd hz)
   have hG3:aZ A.Game H3 a g:=by
    obtain⟨dx,c,d,h1,h2,h3⟩:=hG;exact aZ.same (λb o e=>s3 _ _ (b2 b o (aq e hD) e)) ⟨dx,c,d,h1,h2,h3⟩
   obtain⟨dx,c,d,q1,q2,q3⟩:=id hG3;have e1:((List.range g.n).map λj=>val g j 0 (r.take i)).set z (Vbedah.adds g z ((r.take i).foldl with_ 0))=(List.range g.n).map λj=>val g j 0 (r.take (i+1)):=by
    refine vn ?_ λj hj hjz=>?_
    ·rw[take_snoc hz,C7 g z z _ 0 (jt nd hz),if_pos rfl]
    ·rw[take_snoc hz,C7 g j z _ 0 (jt nd hz),if_neg (Ne.symm hjz)]
   have e2:(r.take (i+1)).foldl with_ 0=(r.take i).foldl with_ 0|||2^z:=by
    rw[take_snoc hz,foldl_append];exact kh _ _
   refine⟨_,rfl,a,dx,_,rfl,q1,iJ _ _ _ (by decide) (by decide) (by decide),_,rfl,_,rfl,a,g,z,_,rfl,hG3,W,zn,hlt,hno,_,rfl,_,rfl,D,_,_,z,rfl,rfl,s3 _ _ hD2,ur (by simp;exact zn),?_⟩;refine⟨_,rfl,_,rfl,z,rfl,by omega,_,_,rfl,rfl,some (V.int z),?_,(b2.trans (ay.but s3)).trans jF.upd,?_⟩
   ·show [some (V.ref a),some (V.ref p),some (V.ref D),some (V.int (Builtin.bitOr _ _)),_]=_;rw[Rk,e2]
   ·show upd H3 D _ D=_;rw[af,<-List.map_set,e1]
  ·rintro σ H2 ⟨v,rfl,b2,hD2⟩;refine⟨_,rfl,?_⟩;rw[length_map,length_map,take_length]at hD2;exact k D H2 (λb o e=>b2 b o (aq e hD) e) hD hD2
theorem range_getD{α β:Type}{l:List α}{d:α}{n:Nat}(hn:n=l.length)(f:α->β):(List.range n).map (λj=>f (l.getD j d))=l.map f:=
 ke hn.symm λi x hx=>by rw[getD_eq_getElem?_getD,hx];rfl
theorem mR{D:Addr}{f:Nat->List V}:∀i(y:V)(H H':Hp),y≠.ref D->jF D H H'->(∃Tt,y= .ref Tt/\H Tt=some (.tup (f i)))->∃Tt,y= .ref Tt/\H' Tt=some (.tup (f i)):=λi y H H' hy b ⟨Tt,e,h⟩=>⟨Tt,e,b _ _ (λq=>hy (by rw[e,q])) h⟩
theorem C0{D:Addr}{f:Nat->List V}:∀i(y:V)(H H':Hp),y≠.ref D->jF D H H'->(∃Tt,y= .ref Tt/\H Tt=some (.lst (f i)))->∃Tt,y= .ref Tt/\H' Tt=some (.lst (f i)):=λi y H H' hy b ⟨Tt,e,h⟩=>⟨Tt,e,b _ _ (λq=>hy (by rw[e,q])) h⟩
theorem i9{H:Hp}{f:Nat->List Int}:∀{l:List Nat}{acc:List V},Paired (λi y=>∃Tt,y=V.ref Tt/\H Tt=some (.tup ((f i).map V.int))) l acc->∃ps:List Addr,acc=ps.map V.ref/\Paired (λq xs=>H q=some (.tup (xs.map V.int))) ps (l.map f)
 |_,_,.nil=>⟨[],rfl,.nil⟩
 |_,_,.cons ⟨Tt,e,h⟩ t=>by
  obtain⟨ps,e1,h1⟩:=i9 t;exact⟨Tt::ps,by rw[e,e1];rfl,.cons h h1⟩
theorem uA{H:Hp}{f:Nat->List Int}:∀{l:List Nat}{acc:List V},Paired (λi y=>∃Tt,y=V.ref Tt/\H Tt=some (.lst ((f i).map V.int))) l acc->∃ps:List Addr,acc=ps.map V.ref/\Paired (λq xs=>IL H q xs) ps (l.map f)
 |_,_,.nil=>⟨[],rfl,.nil⟩
 |_,_,.cons ⟨Tt,e,h⟩ t=>by
  obtain⟨ps,e1,h1⟩:=uA t;exact⟨Tt::ps,by rw[e,e1];rfl,.cons h h1⟩
theorem tup_ne{H:Hp}{D Tt:Addr}{acc xs:List V}(hD:H D=some (.lst acc))(h:H Tt=some (.tup xs)):V.ref Tt≠V.ref D:=λe=>by
 cases e;rw[hD]at h;cases h
theorem bF{n:Nat}(h:n<=1000):n<=sizeLine:=le_trans h (by decide)
theorem Jc{n i s:Nat}(hi:i<n)(h:Vbedah.has s i=false):count n s<=n-1:=by
 have:=BB (n:=n) h;unfold Shm.rest at this;rw[if_pos hi]at this;exact this
def OM(C:Addr):Sp:=λvs H Q _=>∃(a:Addr)(g:Game)(i:Nat),vs=[.ref a,.int i]/\aZ C H a g/\GW g/\i<g.n/\∀p H',ay H H'->H p=none->H' p=some (.tup ((toldQ (frac (aC g i) (fact g.n))).map V.int))->Q (.ref p) H'
theorem N7(T:Txt K mg A F):aT P w K mg base gU 4 A.share F.share ["game","region"] (OM A.Game):=by
 refine T.Fz.ok o9 (λvs H Q E h=>?_) (λcdv Ar outer s H vs Q E hr h=>?_)
 ·obtain⟨a,g,i,rfl,_⟩:=h;rfl
 ·obtain⟨a,g,i,rfl,hG,W,hi,k⟩:=h
  refine⟨_,((ag (fC 2 o9.nd ao)
   (ag (dF PassesOwn.never rfl (bp (aO (pv 0) T.aA T.bQ (bR T) hr (bY T) az (aa (pv 1) ae))) (fO 3 o9.nd (Or.inl rfl))
   (ag (fC 4 o9.nd (aw (KO T) hr T.NR T.FA.kp (MW T) az (aa (pv 3) ae)))
   (ag (fC 5 o9.nd (aR kT (aw (ju T) hr T.kr T.hU.kp (ki T) az (aa (pv 4) ae)) (aw (ju T) hr T.kr T.hU.kp (ki T) az (aa (aR jv (aR jv (aQ (pv 0) rfl) ao) (pv 4)) ae))))
   (ai (yz (i:=2) o9.nd rfl (Or.inl rfl) (aR kT (pv 5) (aO (pv 0) T.aA T.eh (ej T) hr (fh T) az (aa (pv 1) (aa (pv 3) ae)))) vR)))))
   (ai (aB (aw (uz T) hr T.wX T.oJ.kp (wD T) az (aa (pv 2) (aa (aw (ju T) hr T.kr T.hU.kp (ki T) az (aa (aQ (pv 0) rfl) ae)) ae)))))))),?_⟩
  have n8:=W.n8;walk_at"j";walk_at"h";refine⟨p,rfl,⟨_,aH.of hp⟩,d7 (aJ (xs:=((outs g.n i).map ofNat).map V.int)) (λj σ H'=>∃v3 v4 v5,σ=[some (.ref a),some (.int i),some (.int (((outs g.n i).take j).map λu=>((fact (count g.n u)*fact (g.n-1-count g.n u):Nat):Int)*Vbedah.adds g i u).sum),v3,v4,v5]/\ay H1 H') ⟨_,_,_,rfl,ay.refl _⟩ (λj σ H' _ ⟨_,_,_,_,b⟩=>aH.of (b _ _ hp)) ?_ ?_⟩
  ·rintro j x σ H2 H3 hj ⟨v3,v4,v5,rfl,s2⟩ s3 hx;walk_at"G";obtain⟨hz1,hz2⟩:=sP hz;have sH:=(s1.trans s2).trans s3;have G3:=hG.same sH;have cl:=Jc hi hz2;have f1:=me (show count g.n z<=8 by omega);have f2:=me (show g.n-1-count g.n z<=8 by omega);refine⟨_,rfl,z,g.n,rfl,hz1,?_⟩;refine⟨_,rfl,_,rfl,by omega,_,rfl,a,A.Game,dx,_,_,rfl,sH _ _ q1,T.aA,T.aY,jn _ _ _,_,_,rfl,rfl,_,rfl,_,_,rfl,rfl,g.n-1-count g.n z,?_,by omega,_,_,rfl,rfl,.inl ⟨by omega,by omega⟩,?_⟩
   ·show [V.int ((g.n:Int)-1-(count g.n z:Nat))]=_;rw[show(g.n:Int)-1-((count g.n z:Nat):Int)=((g.n-1-count g.n z:Nat):Int) by omega]
   refine⟨_,rfl,_,rfl,_,rfl,a,dx,_,rfl,sH _ _ q1,iJ _ _ _ (by decide) (by decide) (by decide),_,rfl,_,rfl,a,g,i,z,rfl,G3,W,hi,hz1,hz2,_,_,rfl,rfl,.inl ?_,_,_,rfl,rfl,?_⟩
   ·have:(fact (count g.n z):Int)*(fact (g.n-1-count g.n z):Int)<=40320*40320:=Int.mul_le_mul (by omega) (by omega) (by omega) (by omega);have:0<=(fact (count g.n z):Int)*(fact (g.n-1-count g.n z):Int):=Int.mul_nonneg (by omega) (by omega);constructor<;>omega
   ·dsimp only;rw[OR _ hz,natCast_mul];exact⟨_,_,_,rfl,s2.trans s3⟩
  ·rintro σ H2 ⟨v3,v4,v5,rfl,s2⟩;have sH:=s1.trans s2;have fp:=hZ g.n;have f1:=me n8;refine⟨_,rfl,_,rfl,a,A.Game,dx,_,_,rfl,sH _ _ q1,T.aA,T.aY,jn _ _ _,g.n,rfl,n8,_,fact g.n,rfl,fp,by omega,λq hq=>?_⟩;refine k q _ (sH.trans (ah hq)) (sH.free hq) ?_;rw[af,length_map,length_map,take_length,<-DU];rfl
def Mj(C:Addr):Sp:=λvs H Q _=>∃(a:Addr)(g:Game),vs=[.ref a]/\aZ C H a g/\GW g/\∀p H',ay H H'->H p=none->TL H' p ((share g).map toldQ)->Q (.ref p) H'
theorem Ez(T:Txt K mg A F):aT P w K mg base gU 5 A.wg F.wg ["game"] (Mj A.Game):=by
 refine T.wN.ok uF (λvs H Q E h=>?_) (λcdv Ar outer s H vs Q E hr h=>?_)
 ·walk_at"H"
 ·obtain⟨a,g,rfl,hG,W,k⟩:=h;refine⟨_,((ai (aB (du (own:=[("region",1)]) rfl uF.nd (cW rfl T.cQ (aa (aQ (pv 0) rfl) ae)) (oB uF) (λ_ _ _ _ _=>(fO 1 uF.nd (Or.inl rfl))) (λ_ _ _ _ _=>bC) (λ_ _ _ _ _=>(aw (N7 T) hr T.P5 T.Fz.kp (Pp T) az (aa (pv 0) (aa (pv 1) ae)))))))),?_⟩;have n8:=W.n8;walk_at"j";walk_at"w";refine cq ja hD (λ_ _=>trivial) (λ_=>true) (λi y H=>∃Tt,y= .ref Tt/\H Tt=some (.tup ((toldQ (frac (aC g i) (fact g.n))).map V.int))) mR (bF (by omega)) ?_ ?_
  ·rintro i x H1 hi s1 rfl ⟨acc,hacc⟩ Qn Qy qn qy;walk_at"I";refine⟨_,rfl,_,rfl,a,g,i,?_,hG.same s1,W,by omega,λp H2 s2 np hp=>qy rfl _ _ s2 ⟨p,rfl,hp⟩ (tup_ne (s2 _ _ hacc) hp)⟩;rw[zero_add];rfl
  ·walk_at"r";rw[aN]at hpair;obtain⟨ps,e,h2⟩:=i9 hpair;refine k D H1 s1 hD ⟨ps,by rw[hacc,e],?_⟩;rw[uc,map_map];rw[show((g.n:Int).toNat)=g.n by omega]at h2;exact h2
def ON(C:Addr):Sp:=λvs H Q _=>∃(a:Addr)(g:Game)(i:Nat),vs=[.ref a,.int i]/\aZ C H a g/\GW g/\i<g.n/\∀p H',ay H H'->H p=none->H' p=some (.tup ((toldQ (frac ((outs g.n i).map λs=>Vbedah.adds g i s).sum (outs g.n i).length)).map V.int))->Q (.ref p) H'
theorem N8(T:Txt K mg A F):aT P w K mg base gU 4 A.swing F.swing ["game","region"] (ON A.Game):=by
 refine T.FC.ok ub (λvs H Q E h=>?_) (λcdv Ar outer s H vs Q E hr h=>?_)
 ·obtain⟨a,g,i,rfl,_⟩:=h;rfl
 ·obtain⟨a,g,i,rfl,hG,W,hi,k⟩:=h
  refine⟨_,((ag (fC 2 ub.nd (aO (pv 0) T.aA T.bQ (bR T) hr (bY T) az (aa (pv 1) ae)))
   (ai (aB (aw (uz T) hr T.wX T.oJ.kp (wD T) az (aa (aL (xZ rfl) (by rfl) T.Ea xV (aa (du (own:=[("group",3)]) rfl ub.nd (bp (pv 2)) (oB ub) (λ_ _ _ _ _=>(fO 3 ub.nd (Or.inl rfl))) (λ_ _ _ _ _=>bC) (λ_ _ _ _ _=>(aO (pv 0) T.aA T.eh (ej T) hr (fh T) az (aa (pv 1) (aa (pv 3) ae))))) ae)) (aa (aL aK (by rfl) T.eO cC (aa (pv 2) ae)) ae))))))),?_⟩
  have n8:=W.n8;have n1:=W.n1;have hp256:=W.pow;walk_at"j";have ol:(outs g.n i).length=2^(g.n-1):=gY i g.n hi;have ol1:2^(g.n-1)<=128:=pow_le_pow_right (n:=2) (by decide) (show g.n-1<=7 by omega);have ol2:=two_pow_pos (g.n-1);walk_at"h";refine⟨_,rfl,p,rfl,⟨_,aH.of hp⟩,λD hD=>?_⟩;refine cq (aJ (xs:=((outs g.n i).map ofNat).map V.int)) hD (λ_ s=>aH.of (s _ _ hp)) (λ_=>true) (λj y _=>y=V.int (Vbedah.adds g i ((outs g.n i).getD j 0))) bh (bF (by simp;omega)) ?_ ?_
  ·rintro j x H2 hj s2 hx _ Qn Qy qn qy;walk_at"G";obtain⟨hz1,hz2⟩:=sP hz;walk_at"I";refine⟨_,rfl,a,dx,_,rfl,(s1.trans s2) _ _ q1,iJ _ _ _ (by decide) (by decide) (by decide),_,rfl,_,rfl,a,g,i,z,rfl,hG.same (s1.trans s2),W,hi,hz1,hz2,qy rfl _ _ (ay.refl _) ?_ (by intro z;cases z)⟩;rw[getD_eq_getElem?_getD,hz];rfl
  ·intro H2 acc s2 hacc hpair;have e:acc=((outs g.n i).map λs=>Vbedah.adds g i s).map V.int:=by
    rw[bW hpair,aN,range_getD (by simp) λs=>V.int (Vbedah.adds g i s),map_map];rfl
   rw[e]at hacc;have sH:=s1.trans s2;refine⟨D,_,rfl,aH.of hacc,_,rfl,p,_,rfl,.inl (aH.of (s2 _ _ hp)),((outs g.n i).map λs=>Vbedah.adds g i s).sum,(outs g.n i).length,?_,by omega,by omega,λq hq=>?_⟩
   ·show [V.int _,V.int _]=_;rw[length_map,length_map]
   refine k q _ (sH.trans (ah hq)) (sH.free hq) ?_;rw[af];rfl
def Ml(C:Addr):Sp:=λvs H Q _=>∃(a:Addr)(g:Game),vs=[.ref a]/\aZ C H a g/\GW g/\∀p H',ay H H'->H p=none->TL H' p ((swing g).map toldQ)->Q (.ref p) H'
theorem L6(T:Txt K mg A F):aT P w K mg base gU 5 A.wk F.wk ["game"] (Ml A.Game):=by
 refine T.BS.ok uH (λvs H Q E h=>?_) (λcdv Ar outer s H vs Q E hr h=>?_)
 ·walk_at"H"
 ·obtain⟨a,g,rfl,hG,W,k⟩:=h;refine⟨_,((ai (aB (du (own:=[("region",1)]) rfl uH.nd (cW rfl T.cQ (aa (aQ (pv 0) rfl) ae)) (oB uH) (λ_ _ _ _ _=>(fO 1 uH.nd (Or.inl rfl))) (λ_ _ _ _ _=>bC) (λ_ _ _ _ _=>(aw (N8 T) hr T.P6 T.FC.kp (Pq T) az (aa (pv 0) (aa (pv 1) ae)))))))),?_⟩;have n8:=W.n8;walk_at"j";walk_at"w";refine cq ja hD (λ_ _=>trivial) (λ_=>true) (λi y H=>∃Tt,y= .ref Tt/\H Tt=some (.tup ((toldQ (frac ((outs g.n i).map λs=>Vbedah.adds g i s).sum (outs g.n i).length)).map V.int))) mR (bF (by omega)) ?_ ?_
  ·rintro i x H1 hi s1 rfl ⟨acc,hacc⟩ Qn Qy qn qy;walk_at"I";refine⟨_,rfl,_,rfl,a,g,i,?_,hG.same s1,W,by omega,λp H2 s2 np hp=>qy rfl _ _ s2 ⟨p,rfl,hp⟩ (tup_ne (s2 _ _ hacc) hp)⟩;rw[zero_add];rfl
  ·walk_at"r";rw[aN]at hpair;obtain⟨ps,e,h2⟩:=i9 hpair;refine k D H1 s1 hD ⟨ps,by rw[hacc,e],?_⟩;rw[OS,map_map];rw[show((g.n:Int).toNat)=g.n by omega]at h2;exact h2
theorem sC{H:Hp}{D p:Addr}{o:HO}(hD:H D=some o)(np:H p=Option.none):V.ref p≠V.ref D:=λe=>by
 cases e;rw[hD]at np;cases np
def Gg(C:Addr):Sp:=λvs H Q _=>∃(a:Addr)(g:Game),vs=[.ref a]/\aZ C H a g/\GW g/\∀p H',ay H H'->H p=none->IL H' p ((Vbedah.groups g.n).map (dividend g))->Q (.ref p) H'
theorem sh{n s:Nat}(h:s<2^n){f:Nat->Int}:(((Vbedah.groups n).map f).map V.int)[s]?=some (V.int (f s)):=by
 rw[getElem?_map,getElem?_map,iV h];rfl
theorem FW(T:Txt K mg A F):aT P w K mg base gU 4 A.dividends F.dividends ["game"] (Gg A.Game):=by
 refine T.rT.ok lC (λvs H Q E h=>?_) (λcdv Ar outer s H vs Q E hr h=>?_)
 ·walk_at"H"
 ·obtain⟨a,g,rfl,hG,W,k⟩:=h
  refine⟨_,((ag (fC 1 lC.nd (lH pJ (by rfl) T.Fe AU (aa (aQ (pv 0) rfl) ae)))
   (ag (dF PassesOwn.never rfl (cW rfl T.cQ (aa (aQ (pv 0) rfl) ae)) (fO 2 lC.nd (Or.inl rfl))
   (ai (dF PassesOwn.never rfl (bp (aO (pv 0) T.aA T.bQ (bR T) hr (bY T) az (aa (pv 2) ae))) (fO 3 lC.nd (Or.inl rfl))
   (ai (A0 (pv 1) (aR HR (pv 3) (aw (sL T) hr T.zb T.vi.kp (yN T) az (aa (pv 2) ae))) wR (aU aE (pv 1) (pv 3) (λ_ _=>rfl)) Ny set_list)))))
   (ai (aB (pv 1)))))),?_⟩
  have n8:=W.n8;have hp256:=W.pow;walk_at"j";refine⟨_,rfl,a,A.Game,dx,_,_,rfl,q1,T.aA,T.aV,cx _ _ _,c,_,rfl,.inl (aH.of q2),λD hD=>?_⟩;have s0:ay H (upd H D (.lst (g.costs.map V.int))):=ah hD;have start0:IL (upd H D (.lst (g.costs.map V.int))) D ((Vbedah.groups g.n).map (Dv g.cost 0)):=by
   show upd H D _ D=_;rw[af,<-lx W.len];rfl
  walk_at"x";refine d7 cp (λr σ H'=>∃v2 v3,σ=[some (.ref a),some (.ref D),v2,v3]/\jF D H H'/\IL H' D ((Vbedah.groups g.n).map (Dv g.cost r))) ⟨_,_,rfl,ay.but s0,start0⟩ (λ_ _ _ _ _=>trivial) ?_ ?_
  ·rintro r x σ H1 H2 hr1 ⟨v2,v3,rfl,b1,hD1⟩ s2 rfl;have hrn:r<g.n:=by omega
   have sH:ay H H2:=λb o e=>s2 _ _ (b1 b o (aq e hD) e);refine⟨_,rfl,a,dx,_,rfl,sH _ _ q1,iJ _ _ _ (by decide) (by decide) (by decide),_,rfl,a,g,r,rfl,hG.same sH,W,hrn,λp H3 s3 np hp=>?_⟩;have pD:p≠D:=λe=>by rw[e,s2 _ _ hD1]at np;cases np
   refine⟨p,rfl,⟨_,aH.of hp⟩,d7 (aJ (xs:=((outs g.n r).map ofNat).map V.int)) (λj σ H'=>∃v3,σ=[some (.ref a),some (.ref D),some (.int r),v3]/\jF D H3 H'/\IL H' D ((Vbedah.groups g.n).map (uQ g.cost r ((outs g.n r).take j)))) ⟨_,rfl,ay.but (ay.refl _),?_⟩ (λj σ H' _ ⟨_,_,b,_⟩=>aH.of (b _ _ pD hp)) ?_ ?_⟩
   ·have e:(Vbedah.groups g.n).map (uQ g.cost r ((outs g.n r).take 0))=(Vbedah.groups g.n).map (Dv g.cost r):=map_congr_left λs _=>Nl _ _ _;rw[e];exact s3 _ _ (s2 _ _ hD1)
   ·rintro j x σ H4 H5 hj ⟨v3,rfl,b4,hD4⟩ s5 hx;walk_at"G";obtain⟨hz1,hz2⟩:=sP hz;have hw:=A5 hz1 hrn;have hw2:z|||2^r<2^g.n:=by rw[<-kh];exact hw
    have e1:z+2^r=z|||2^r:=by rw[<-kh,jC hz2]
    obtain⟨d1,d2⟩:=Lv g.cost hz2 (jt (JF _ _) hz);refine⟨_,rfl,_,rfl,_,rfl,r,rfl,by omega,_,_,rfl,rfl,D,_,z|||2^r,_,rfl,?_,aH.of (s5 _ _ hD4),sh hw2,_,rfl,_,rfl,D,_,_,_,rfl,rfl,aH.of (s5 _ _ hD4),J9 (sh hz1),_,_,rfl,rfl,D,_,_,z|||2^r,rfl,rfl,s5 _ _ hD4,?_,?_⟩
    ·show V.int (Builtin.bitOr _ _)=_;rw[Rk]
    ·show O3 _ (Builtin.bitOr _ _)=_;rw[Rk];exact ur (by rw[length_map,length_map,cb];exact hw2)
    ·refine⟨_,rfl,(b4.trans (ay.but s5)).trans jF.upd,?_⟩;show upd H5 D _ D=_;rw[af];dsimp only;rw[<-List.map_set];congr 2;unfold Vbedah.groups;refine congrArg (List.map V.int) (vn ?_ λs _ hs=>?_)
     ·rw[take_snoc hz,<-e1,d1]
     ·rw[take_snoc hz];exact d2 s (by rw[e1];exact hs)
   ·rintro σ H4 ⟨v3,rfl,b4,hD4⟩;refine⟨_,_,rfl,λb o n e=>b4 b o n (s3 _ _ (s2 _ _ (b1 b o n e))),?_⟩;rw[length_map,length_map,take_length]at hD4;have e:(Vbedah.groups g.n).map (uQ g.cost r (outs g.n r))=(Vbedah.groups g.n).map (Dv g.cost (r+1)):=map_congr_left λs hs=>Nj _ (aP.mp hs);rw[e]at hD4;exact hD4
  ·rintro σ H1 ⟨v2,v3,rfl,b1,hD1⟩;refine⟨_,rfl,?_⟩;rw[show((g.n:Int).toNat)=g.n by omega,<-Fp]at hD1;exact k D H1 (λb o e=>b1 b o (aq e hD) e) hD hD1
def D0(C:Addr):Sp:=λvs H Q _=>∃(a:Addr)(g:Game),vs=[.ref a]/\aZ C H a g/\GW g/\∀p H',ay H H'->H p=none->TL H' p ((potentials g).map toldQ)->Q (.ref p) H'
theorem IJ{s i:Nat}(h:Vbedah.has s i=true):s^^^2^i=Vbedah.without s i:=by
 rw[fD h];have:=zP s (2^i);have e1:s&&&2^i=2^i:=by
  apply eq_of_testBit_eq;intro j;rw[testBit_and,testBit_two_pow];by_cases e:i=j
  ·subst e;rw[show s.testBit i=true from h];simp
  ·simp[e]
 have e2:s|||2^i=s:=by rw[<-kh,C9 h]
 omega
theorem DM(T:Txt K mg A F):aT P w K mg base gU 3 A.potentials F.potentials ["game"] (D0 A.Game):=by
 refine T.pQ.ok cE (λvs H Q E h=>?_) (λcdv Ar outer s H vs Q E hr h=>?_)
 ·walk_at"H"
 ·obtain⟨a,g,rfl,hG,W,k⟩:=h
  refine⟨_,((ag (fC 1 cE.nd (aw (ju T) hr T.kr T.hU.kp (ki T) az (aa (aQ (pv 0) rfl) ae)))
   (ag (fC 2 cE.nd (bb (aa ao ae)))
   (ag (dF PassesOwn.never rfl (uB rfl T.cQ (aa ao (aa (aL aK (by rfl) T.eO cC (aa (aQ (pv 0) rfl) ae)) ae))) (fO 3 cE.nd (Or.inl rfl))
   (ag (fC 4 cE.nd (aR kT (aU aE (aQ (pv 0) rfl) (pv 3) (λ_ _=>rfl)) (pv 1)))
   (ag (dF PassesOwn.never rfl (cW rfl T.cQ (aa (aQ (pv 0) rfl) ae)) (fO 5 cE.nd (Or.inl rfl))
   (ai (eP (iq (aw (mw T) hr T.pT T.ly.kp (pH T) az (aa (pv 3) (aa (pv 5) ae))))
   (ai (yz (i:=4) cE.nd rfl (Or.inl rfl) (aU aE (pv 2) (aR F4 (pv 3) (aw (sL T) hr T.zb T.vi.kp (yN T) az (aa (pv 5) ae))) (λ_ _=>rfl)) vR))
   bL)))
   (ai (aM (nR PySem.F.plainAttrs_list PySem.F.slot_list_append PySem.F.type_list_append i6 (pv 2) (aa (aR xg (pv 4) (aw (KO T) hr T.NR T.FA.kp (MW T) az (aa (pv 3) ae))) ae)))))))
   (ai (aB (du (own:=[("number",6)]) rfl cE.nd (bp (pv 2)) (oB cE) (λ_ _ _ _ _=>(fO 6 cE.nd (Or.inl rfl))) (λ_ _ _ _ _=>bC) (λ_ _ _ _ _=>(aw (uz T) hr T.wX T.oJ.kp (wD T) az (aa (pv 6) (aa (pv 1) ae))))))))))),?_⟩
  have n8:=W.n8;have hp256:=W.pow;have hpos:=two_pow_pos g.n;have hl:=W.len;have fp:=hZ g.n;have fs:=me n8;walk_at"j";refine⟨_,rfl,a,A.Game,dx,_,_,rfl,q1,T.aA,T.aY,jn _ _ _,g.n,rfl,n8,?_⟩;refine⟨by show 1<=sizeLine;decide,λD hD=>?_⟩;have s0:ay H (upd H D (.lst [.int 0])):=ah hD;refine⟨_,rfl,a,A.Game,dx,_,_,rfl,s0 _ _ q1,T.aA,T.aV,cx _ _ _,c,_,rfl,.inl (aH.of (s0 _ _ q2)),_,_,rfl,⟨by decide,by decide,by rw[length_map];omega,by rw[length_map];omega⟩,?_⟩;refine d7 ja (λr σ H'=>∃v3 v4 v5 v6,σ=[some (.ref a),some (.int (fact g.n:Nat)),some (.ref D),v3,v4,v5,v6]/\jF D H H'/\IL H' D ((List.range (r+1)).foldl (jN g.n g.cost) [])) ⟨_,_,_,_,rfl,ay.but s0,?_⟩ (λ_ _ _ _ _=>trivial) ?_ ?_
  ·show upd H D _ D=_;rw[af,Mu];rfl
  ·rintro r x σ H1 H2 hr1 ⟨v3,v4,v5,v6,rfl,b1,hD1⟩ s2 rfl;rw[length_map]at hr1;have hs:r+1<2^g.n:=by omega
   have sH:ay H H2:=λb o e=>s2 _ _ (b1 b o (aq e hD) e);have er:(1:Int)+(r:Nat)=((r+1:Nat):Int):=by omega
   rw[er];refine⟨_,rfl,a,A.Game,dx,_,_,rfl,sH _ _ q1,T.aA,T.aV,cx _ _ _,_,rfl,c,_,_,_,rfl,rfl,aH.of (sH _ _ q2),iw (km hl hs),_,rfl,_,_,rfl,rfl,.inr ⟨by omega,by omega⟩,?_⟩;refine⟨_,rfl,a,A.Game,dx,_,_,rfl,sH _ _ q1,T.aA,T.aY,jn _ _ _,_,rfl,by omega,by omega,?_⟩;refine d7 cp (λm σ H'=>∃t v5 v6,σ=[some (.ref a),some (.int (fact g.n:Nat)),some (.ref D),some (.int (r+1:Nat)),some (.int t),v5,v6]/\t=g.cost (r+1)*(fact g.n:Int)+(((List.range m).filter λi=>Vbedah.has (r+1) i).map λi=>((List.range (r+1)).foldl (jN g.n g.cost) []).getD (Vbedah.without (r+1) i) 0).sum/\ay H2 H') ⟨_,_,_,rfl,by simp,ay.refl _⟩ (λ_ _ _ _ _=>trivial) ?_ ?_
   ·rintro m x σ H3 H4 hm ⟨t,v5,v6,rfl,ht,s3⟩ s4 rfl;refine⟨_,rfl,_,rfl,r+1,m,rfl,by omega,_,rfl,?_⟩;walk_at"i"
    ·have hwl:=Dc hh;have sD:=s4 _ _ (s3 _ _ (s2 _ _ hD1));refine⟨_,rfl,_,rfl,_,rfl,_,rfl,m,rfl,by omega,_,_,rfl,rfl,D,_,_,_,rfl,rfl,aH.of sD,at_of (j:=Vbedah.without (r+1) m) ?_ (v:=V.int (((List.range (r+1)).foldl (jN g.n g.cost) []).getD (Vbedah.without (r+1) m) 0)) ?_,_,_,rfl,rfl,_,_,_,rfl,?_,s3.trans s4⟩
     ·show Builtin.bitXor _ _=_;rw[MU,IJ hh]
     ·rw[getElem?_map,getD_eq_getElem?_getD,getElem?_eq_getElem (by rw[uK];omega)];rfl
     ·rw[wZ,if_pos hh,ht];exact Int.add_assoc _ _ _
    ·refine⟨_,_,_,rfl,?_,s3.trans s4⟩;rw[wZ,if_neg hh,ht,Int.add_zero]
   ·rintro σ H3 ⟨t,v5,v6,rfl,ht,s3⟩;have sD:=s3 _ _ (s2 _ _ hD1);have hcnt:0<count g.n (r+1):=by
     obtain⟨i,hi⟩:=Nat.exists_testBit_of_ne_zero (show r+1≠0 by omega);have hin:i<g.n:=by
      rcases lt_or_ge i g.n with q|q
      ·exact q
      ·have:=fQ hs q;rw[show Vbedah.has (r+1) i=true from hi]at this;cases this
     exact zd hin hi
    have hcl:=count_le g.n (r+1);refine⟨_,rfl,.inl ⟨rfl,_,aH.of sD⟩,_,rfl,_,rfl,r+1,g.n,rfl,hs,_,_,rfl,rfl,⟨by omega,by omega⟩,D,_,_,rfl,rfl,sD,?_,?_⟩
    ·rw[length_map,uK];exact lt_of_lt_of_le (by omega) (by decide:256<=sizeLine)
    ·refine⟨_,_,_,_,rfl,(b1.trans (ay.but (s2.trans s3))).trans jF.upd,?_⟩;show upd H3 D _ D=_;rw[af,range_succ (n:=r+1),foldl_append];show _=some (HO.lst ((jN g.n g.cost _ (r+1)).map V.int));unfold jN;rw[map_append,ht];unfold D7 members;rw[show((g.n:Int).toNat)=g.n by omega];rfl
  ·rintro σ H1 ⟨v3,v4,v5,v6,rfl,b1,hD1⟩;have e1:((((g.costs.map V.int).length:Int)-1).toNat+1)=2^g.n:=by rw[length_map];omega
   rw[e1]at hD1;have sH:ay H H1:=λb o e=>b1 b o (aq e hD) e;refine⟨_,rfl,D,rfl,⟨_,aH.of hD1⟩,λD2 hD2=>?_⟩;refine cq (aJ (xs:=((List.range (2^g.n)).foldl (jN g.n g.cost) []).map V.int)) hD2 (λ_ s=>aH.of (s _ _ hD1)) (λ_=>true) (λj y H=>∃Tt,y= .ref Tt/\H Tt=some (.tup ((toldQ (frac (((List.range (2^g.n)).foldl (jN g.n g.cost) []).getD j 0) (fact g.n))).map V.int))) mR (bF (by rw[length_map,uK];omega)) ?_ ?_
   ·rintro j x H2 hj s2 hx ⟨acc,hacc⟩ Qn Qy qn qy;obtain⟨z,hz,rfl⟩:=gW hx;walk_at"I";refine⟨_,rfl,_,rfl,z,fact g.n,rfl,fp,by omega,λp np=>qy rfl _ _ (ah np) ⟨p,rfl,?_⟩ (sC hacc np)⟩;rw[af,getD_eq_getElem?_getD,hz];rfl
   ·intro H2 acc s2 hacc hpair;rw[aN]at hpair;obtain⟨ps,e,h2⟩:=i9 hpair;refine k D2 H2 (sH.trans s2) (sH.free hD2) ⟨ps,by rw[hacc,e],?_⟩;rw[DN,map_map];rw[range_getD (l:=(List.range (2^g.n)).foldl (jN g.n g.cost) []) (by rw[length_map]) (λw=>toldQ (frac w (fact g.n)))]at h2;exact h2
theorem BU{α:Type}{p:α->Bool}:∀{l:List α}{k:Nat}{x:α},l[k]?=some x->p x=true->(∀y∈l.take k,p y=false)->l.find? p=some x
 |[],_,_,h,_,_=>by simp at h
 |a::l,0,x,h,hp,_=>by
  have e:a=x:=Option.some.inj h;subst e;rw[find?_cons,hp]
 |a::l,k+1,x,h,hp,hn=>by
  rw[find?_cons,hn a (by simp)];exact BU (l:=l) (k:=k) h hp λy hy=>hn y (by simp[hy])
theorem PB{α:Type}{p:α->Bool}{l:List α}(h:∀y∈l,p y=false):l.find? p=none:=by
 rw[List.find?_eq_none];intro x hx;rw[h x hx];simp
theorem CS{β:Type}{f:Nat->Option β}{n i:Nat}{x:β}(hi:i<n)(h:f i=some x)(hn:∀j,j<i->f j=none):(List.range n).findSome? f=some x:=by
 rw[List.findSome?_eq_some_iff];refine⟨List.range i,i,(range' (i+1) (n-(i+1))),?_,h,λj hj=>hn j (mem_range.mp hj)⟩;rw[List.range_eq_range',List.range_eq_range'];have:range' 0 n=range' 0 i++range' i (n-i):=by
  have:=List.range'_append_1 (s:=0) (m:=i) (n:=n-i);rw[Nat.zero_add]at this;rw[this];congr 1;omega
 rw[this];congr 1;rw[show n-i=(n-(i+1))+1 by omega,List.range'_succ]
theorem EM{β:Type}{f:Nat->Option β}{n:Nat}(hn:∀j,j<n->f j=none):(List.range n).findSome? f=none:=by
 rw[List.findSome?_eq_none_iff];intro x hx;exact hn x (mem_range.mp hx)
def T9:Option Nat->V
 |none=> .gc
 |some s=> .int (s:Nat)
def AJ(C:Addr):Sp:=λvs H Q _=>∃(a:Addr)(g:Game)(i j:Nat),vs=[.ref a,.int i,.int j]/\aZ C H a g/\GW g/\i<g.n/\j<g.n/\i≠j/\∀H',ay H H'->Q (T9 (vg g i j)) H'
theorem Ak(T:Txt K mg A F):aT P w K mg base gU 4 A.gE F.gE ["game","i","j"] (AJ A.Game):=by
 refine T.l6.ok qW (λvs H Q E h=>?_) (λcdv Ar outer s H vs Q E hr h=>?_)
 ·obtain⟨a,g,i,j,rfl,_⟩:=h;rfl
 ·obtain⟨a,g,i,j,rfl,hG,W,hi,hj,hij,k⟩:=h
  refine⟨_,((ag (dF PassesOwn.never rfl (bp (aO (pv 0) T.aA T.bQ (bR T) hr (bY T) az (aa (pv 1) ae))) (fO 3 qW.nd (Or.inl rfl))
   (ai (eP (K2 (R0 (oz (iq (aw (mw T) hr T.pT T.ly.kp (pH T) az (aa (pv 3) (aa (pv 2) ae))))) (Qt (bG Ob (aO (pv 0) T.aA T.eh (ej T) hr (fh T) az (aa (pv 1) (aa (aR HR (pv 3) (aw (sL T) hr T.zb T.vi.kp (yN T) az (aa (pv 2) ae))) ae))) (aO (pv 0) T.aA T.eh (ej T) hr (fh T) az (aa (pv 1) (aa (pv 3) ae))) (bI _)))))
   (ai (aB (pv 3)))
   bL)))
   (ai (aB sQ)))),?_⟩
  have n8:=W.n8;walk_at"j";walk_at"h";refine⟨p,rfl,⟨_,aH.of hp⟩,d7 (aJ (xs:=((outs g.n i).map ofNat).map V.int)) (λm σ H'=>∃v3,σ=[some (.ref a),some (.int i),some (.int j),v3]/\ay H1 H'/\∀s∈(outs g.n i).take m,(!Vbedah.has s j&&decide (Vbedah.adds g i s<Vbedah.adds g i (with_ s j)))=false) ⟨_,rfl,ay.refl _,by simp⟩ (λm σ H' _ ⟨_,_,b,_⟩=>aH.of (b _ _ hp)) ?_ ?_⟩
  ·rintro m x σ H2 H3 hm ⟨v3,rfl,s2,hno⟩ s3 hx;walk_at"G";obtain⟨hz1,hz2⟩:=sP hz;have sH:=(s1.trans s2).trans s3;have G3:=hG.same sH;have hnx:(!Vbedah.has z j&&decide (Vbedah.adds g i z<Vbedah.adds g i (with_ z j)))=false->∀s∈(outs g.n i).take (m+1),(!Vbedah.has s j&&decide (Vbedah.adds g i s<Vbedah.adds g i (with_ s j)))=false:=λe s hs=>by
    rw[take_snoc hz]at hs;rcases mem_append.mp hs with q|q
    ·exact hno s q
    ·rw[mem_singleton.mp q];exact e
   refine⟨_,rfl,_,rfl,z,j,rfl,by omega,_,rfl,?_⟩;walk_at"i"
   ·have hh:Vbedah.has z j=false:=by simpa using hh
    have hwi:Vbedah.has (with_ z j) i=false:=by
     rw[fR,hz2,Bool.false_or];exact decide_eq_false (Ne.symm hij)
    refine⟨_,rfl,a,dx,_,rfl,sH _ _ q1,iJ _ _ _ (by decide) (by decide) (by decide),_,rfl,_,rfl,_,rfl,j,rfl,by omega,_,_,rfl,rfl,a,g,i,with_ z j,?_,G3,W,hi,A5 hz1 hj,hwi,
     _,rfl,a,dx,_,rfl,sH _ _ q1,iJ _ _ _ (by decide) (by decide) (by decide),_,rfl,_,rfl,a,g,i,z,rfl,G3,W,hi,hz1,hz2,_,_,rfl,rfl,_,rfl,?_⟩
    ·show [V.ref a,V.int i,V.int (Builtin.bitOr _ _)]=_;rw[Rk,<-kh]
    refine eJ (λhd=>?_) λhd=>?_
    ·have hd:Vbedah.adds g i z<Vbedah.adds g i (with_ z j):=by simpa using hd
     refine⟨_,rfl,?_⟩;have e:vg g i j=some z:=BU hz (by rw[hh];simpa using hd) hno;have:=k H3 sH;rw[e]at this;exact this
    ·have hd:¬Vbedah.adds g i z<Vbedah.adds g i (with_ z j):=by simpa using hd
     exact⟨_,rfl,s2.trans s3,hnx (by rw[decide_eq_false hd,Bool.and_false])⟩
   ·have hh:Vbedah.has z j=true:=by simpa using hh
    exact Jo ⟨_,rfl,s2.trans s3,hnx (by rw[hh];rfl)⟩
  ·rintro σ H2 ⟨v3,rfl,s2,hno⟩;have e:vg g i j=none:=PB (by rw[length_map,length_map,take_length]at hno;exact hno);have:=k H2 (s1.trans s2);rw[e]at this;exact this
def AK(C:Addr):Sp:=λvs H Q _=>∃(a:Addr)(g:Game),vs=[.ref a]/\aZ C H a g/\GW g/\(dearer g=none->∀H',ay H H'->Q .gc H')/\∀x,dearer g=some x->∀p H',ay H H'->IL H' p (nats [x.1,x.2.1,x.2.2])->Q (.ref p) H'
theorem Al(T:Txt K mg A F):aT P w K mg base gU 5 A.gF F.gF ["game"] (AK A.Game):=by
 refine T.l7.ok iN (λvs H Q E h=>?_) (λcdv Ar outer s H vs Q E hr h=>?_)
 ·walk_at"H"
 ·obtain⟨a,g,rfl,hG,W,k0,k1⟩:=h
  refine⟨_,((ag (dF PassesOwn.never rfl (cW rfl T.cQ (aa (aQ (pv 0) rfl) ae)) (fO 1 iN.nd (Or.inl rfl))
   (ai (dF PassesOwn.never rfl (cW rfl T.cQ (aa (aQ (pv 0) rfl) ae)) (fO 2 iN.nd (Or.inl rfl))
   (ai (eP (bG nN (pv 1) (pv 2) (bI _))
   (ag (fC 3 iN.nd (aw (Ak T) hr T.Ca T.l6.kp (Bq T) az (aa (pv 0) (aa (pv 1) (aa (pv 2) ae)))))
   (ai (eP (bG Qh (pv 3) sQ (bI _))
   (ai (aB (bb (aa (pv 1) (aa (pv 2) (aa (pv 3) ae))))))
   bL)))
   bL)))))
   (ai (aB sQ)))),?_⟩
  have n8:=W.n8;walk_at"j";refine⟨_,rfl,a,A.Game,dx,_,_,rfl,q1,T.aA,T.aY,jn _ _ _,_,rfl,by omega,by omega,?_⟩;refine d7 cp (λi σ H'=>∃v1 v2 v3,σ=[some (.ref a),v1,v2,v3]/\ay H H'/\∀i',i'<i->((List.range g.n).findSome? λj=>if i'=j then none else(vg g i' j).map λs=>(i',j,s))=none) ⟨_,_,_,rfl,ay.refl _,by intro i' h;omega⟩ (λ_ _ _ _ _=>trivial) ?_ ?_
  ·rintro i x σ H1 H2 hi ⟨v1,v2,v3,rfl,s1,hno⟩ s2 rfl;have hin:i<g.n:=by omega
   have sH:=s1.trans s2;refine⟨_,rfl,a,A.Game,dx,_,_,rfl,sH _ _ q1,T.aA,T.aY,jn _ _ _,_,rfl,by omega,by omega,?_⟩;refine d7 cp (λj σ H'=>∃v2 v3,σ=[some (.ref a),some (.int i),v2,v3]/\ay H H'/\∀j',j'<j->(if i=j' then none else(vg g i j').map λs=>(i,j',s))=none) ⟨_,_,rfl,sH,by intro j' h;omega⟩ (λ_ _ _ _ _=>trivial) ?_ ?_
   ·rintro j x σ H3 H4 hj ⟨v2,v3,rfl,s3,hno2⟩ s4 rfl;have hjn:j<g.n:=by omega
    have sH4:=s3.trans s4;have nxt:(if i=j then none else(vg g i j).map λs=>(i,j,s))=none->∀j',j'<j+1->(if i=j' then none else(vg g i j').map λs=>(i,j',s))=none:=λe j' h'=>by
     by_cases q:j'=j
     ·rw[q];exact e
     ·exact hno2 j' (by omega)
    refine⟨_,rfl,_,rfl,rfl,_,rfl,?_⟩;refine eJ (λhne=>?_) λhne=>?_
    ·have hne:i≠j:=by
      intro e;subst e;simp at hne
     refine⟨_,rfl,_,rfl,_,rfl,a,g,i,j,rfl,hG.same sH4,W,hin,hjn,hne,λH5 s5=>?_⟩;refine⟨_,rfl,rfl,_,rfl,?_⟩;cases e:vg g i j with
     |none=>
      rw[if_neg hne,e]at nxt;exact Jo ⟨_,_,rfl,sH4.trans s5,nxt rfl⟩
     |some z=>
      refine B4 ⟨_,rfl,_,rfl,_,rfl,by show 3<=sizeLine;decide,λp np=>?_⟩;have e2:dearer g=some (i,j,z):=by
       rw[Ei];refine CS hin ?_ hno;refine CS hjn ?_ hno2;rw[if_neg hne,e];rfl
      exact k1 _ e2 p _ ((sH4.trans s5).trans (ah np)) af
    ·have hne:i=j:=by
      by_cases q:i=j
      ·exact q
      ·exfalso;apply hne;simp;omega
     exact⟨_,_,rfl,sH4,nxt (by rw[if_pos hne])⟩
   ·rintro σ H3 ⟨v2,v3,rfl,s3,hno2⟩;refine⟨_,_,_,rfl,s3,λi' h'=>?_⟩;by_cases q:i'=i
    ·rw[q];exact EM λj hj=>hno2 j (by omega)
    ·exact hno i' (by omega)
  ·rintro σ H1 ⟨v1,v2,v3,rfl,s1,hno⟩;refine k0 ?_ H1 s1;rw[Ei];exact EM λi hi=>hno i (by omega)
def JS:Sp:=λvs H Q _=>∃(s n:Nat)(p:Addr)(l:List Int),vs=[.int s,.ref p]/\IL H p l/\l.length=n/\n<=8/\∀H',ay H H'->Q (.int (ik n l s)) H'
theorem JC(T:Txt K mg A F):aT P w K mg base gU 3 A.pX F.pX ["group","numbers"] JS:=by
 refine T.yd.ok mO (λvs H Q E h=>?_) (λcdv Ar outer s H vs Q E hr h=>?_)
 ·obtain⟨s,n,p,l,rfl,_⟩:=h;rfl
 ·obtain⟨z,n,p,l,rfl,hp,hl,hn,k⟩:=h;refine⟨_,((ai (aB (aL (xZ rfl) (by rfl) T.Ea xV (aa (du (g:=z5 K 2 (ib (fu 2) (ib (fu 3) z4))) (own:=[("region",2),("number",3)]) rfl mO.nd (F5 rfl T.nc (aa (pv 1) ae)) (oB mO) (λ_ _ _ _ _=>(iX (n:=2) rfl (bg (fO 2 mO.nd (Or.inl rfl) (Or.inr rfl)) (bg (fO 3 mO.nd (Or.inl rfl) (Or.inr rfl)) gI)))) (λ_ _ _ _ _=>(lB (iq (aw (mw T) hr T.pT T.ly.kp (pH T) az (aa (pv 0) (aa (pv 2) ae)))))) (λ_ _ _ _ _=>(pv 3))) ae))))),?_⟩;refine⟨_,rfl,p,_,rfl,aH.of hp,λD hD=>?_⟩;refine cq (wo (xs:=l.map V.int)) hD (λ_ s=>aH.of (s _ _ hp)) (λi=>Vbedah.has z i) (λi y _=>y=V.int (l.getD i 0)) bh (bF (by simp;omega)) ?_ ?_
  ·rintro i x H1 hi s1 ⟨Tt,y,rfl,hT,hy⟩ _ Qn Qy qn qy;obtain⟨v,hv,rfl⟩:=gW hy;rw[length_map]at hi;walk_at"q";refine⟨_,rfl,_,rfl,z,i,rfl,by omega,_,rfl,?_⟩;walk_at"i"
   ·exact⟨_,rfl,qy hh _ _ (ay.refl _) (by rw[getD_eq_getElem?_getD,hv];rfl) (by intro z;cases z)⟩
   ·exact qn (by simpa using hh) _ (ay.refl _)
  ·walk_at"r";refine⟨D,(((List.range (l.map V.int).length).filter λi=>Vbedah.has z i).map λi=>l.getD i 0),rfl,aH.of ?_,?_⟩
   ·rw[hacc,bW hpair,map_map];rfl
   ·refine qi ?_ (k H1 s1);unfold ik members;rw[length_map,hl]
def Mh(C:Addr):Sp:=λvs H Q _=>∃(a p:Addr)(g:Game)(d:Nat)(l:List Int),vs=[.ref a,.int d,.ref p]/\aZ C H a g/\GW g/\IL H p l/\d<=1000000/\Q (.bl (decide (l.sum=(d:Int)*g.cost g.all))) H
theorem L5(T:Txt K mg A F):aT P w K mg base gU 2 A.covers F.covers ["game","d","numbers"] (Mh A.Game):=by
 refine T.BR.ok Mf (λvs H Q E h=>?_) (λcdv Ar outer s H vs Q E hr h=>?_)
 ·obtain⟨a,p,g,d,l,rfl,_⟩:=h;rfl
 ·obtain⟨a,p,g,d,l,rfl,hG,W,hp,hd,k⟩:=h;refine⟨_,((ai (aB (p5 CA (aL (xZ rfl) (by rfl) T.Ea xV (aa (pv 2) ae)) (aR kT (pv 1) (ip (pv 0) T.aA T.fM (fN T) hr (gw T) az)) (bI _))))),?_⟩;obtain⟨dx,c,dd,q1,q2,q3⟩:=id hG;refine⟨_,rfl,p,l,rfl,aH.of hp,_,rfl,_,rfl,a,dx,_,rfl,q1,iJ _ _ _ (by decide) (by decide) (by decide),a,g,rfl,hG,W,_,_,rfl,rfl,.inl ⟨by omega,by omega⟩,rfl,?_⟩;refine qb ?_ k;simp
def DZ(C:Addr):Sp:=λvs H Q _=>∃(a p:Addr)(g:Game)(d:Nat)(l:List Int),vs=[.ref a,.int d,.ref p]/\aZ C H a g/\GW g/\IL H p l/\l.length=g.n/\d<=1000000/\∀q H',ay H H'->IL H' q ((Vbedah.groups g.n).map λs=>ik g.n l s-(d:Int)*g.cost s)->Q (.ref q) H'
theorem DL(T:Txt K mg A F):aT P w K mg base gU 4 A.iT F.iT ["game","d","numbers"] (DZ A.Game):=by
 refine T.pO.ok iL (λvs H Q E h=>?_) (λcdv Ar outer s H vs Q E hr h=>?_)
 ·obtain⟨a,p,g,d,l,rfl,_⟩:=h;rfl
 ·obtain⟨a,p,g,d,l,rfl,hG,W,hp,hl,hd,k⟩:=h;refine⟨_,((ai (aB (du (g:=z5 K 2 (ib (fu 3) (ib (fu 4) z4))) (own:=[("group",3),("cost",4)]) rfl iL.nd (F5 rfl T.nc (aa (aQ (pv 0) rfl) ae)) (oB iL) (λ_ _ _ _ _=>(iX (n:=2) rfl (bg (fO 3 iL.nd (Or.inl rfl) (Or.inr rfl)) (bg (fO 4 iL.nd (Or.inl rfl) (Or.inr rfl)) gI)))) (λ_ _ _ _ _=>bC) (λ_ _ _ _ _=>(aR jv (aw (JC T) hr T.LR T.yd.kp (Lj T) az (aa (pv 3) (aa (pv 2) ae))) (aR kT (pv 1) (pv 4)))))))),?_⟩;have n8:=W.n8;have hp256:=W.pow;have hcl:=W.len;obtain⟨dx,c,dd,q1,q2,q3⟩:=id hG;refine⟨_,rfl,a,A.Game,dx,_,_,rfl,q1,T.aA,T.aV,cx _ _ _,c,_,rfl,aH.of q2,λD hD=>?_⟩;refine cq (wo (xs:=g.costs.map V.int)) hD (λ_ s=>aH.of (s _ _ q2)) (λ_=>true) (λs y _=>y=V.int (ik g.n l s-(d:Int)*g.cost s)) bh (bF (by simp;omega)) ?_ ?_
  ·rintro s x H1 hi s1 ⟨Tt,y,rfl,hT,hy⟩ _ Qn Qy qn qy;obtain⟨v,hv,rfl⟩:=gW hy;rw[length_map]at hi;have ev:v=g.cost s:=by
    rw[km hcl (by omega)]at hv;exact(Option.some.inj hv).symm
   walk_at"q";refine⟨_,rfl,_,rfl,s,g.n,p,l,rfl,s1 _ _ hp,hl,n8,λH2 s2=>?_⟩;refine⟨_,rfl,_,rfl,_,_,rfl,rfl,.inl ⟨by omega,by omega⟩,_,_,rfl,rfl,qy rfl _ _ s2 ?_ (by intro z;cases z)⟩;rw[ev]
  ·walk_at"r";refine k D H1 s1 ?_;show H1 D=_;rw[hacc,bW hpair,aN,map_map];simp only[length_map,hcl];rfl
theorem LU{f:Nat->Int}{n m:Nat}{mx:Int}(hm:m<n)(hx:f m=mx)(up:∀s,s<n->f s<=mx)(lo:∀s,s<m->f s<mx)(pos:0<mx):nF f (List.range n)=(m,mx):=by
 have L:=B8 f n;have hb:(nF f (List.range n)).2=mx:=by
  rcases L.at_ with⟨h1,_⟩|⟨h1,h2,h3,_⟩
  ·have:=L.up m hm;rw[hx]at this;omega
  ·have a:=up _ h2;have b:=L.up m hm;rw[hx]at b;omega
 have h1:(nF f (List.range n)).1=m:=by
  rcases L.at_ with⟨h1,_⟩|⟨h1,h2,h3,h4⟩
  ·omega
  ·rcases Nat.lt_trichotomy (nF f (List.range n)).1 m with q|q|q
   ·have:=lo _ q;omega
   ·exact q
   ·have:=h4 m q;omega
 rw[<-hb,<-h1]
theorem BV:∀(l:List Int)(x:Int),x∈l->∃j:Nat,l[j]?=some x/\∀m z,m<j->l[m]?=some z->z≠x
 |[],_,h=>by simp at h
 |a::l,x,h=>by
  by_cases e:a=x
  ·exact⟨0,by rw[e];rfl,λm z hm _=>absurd hm (not_lt_zero m)⟩
  ·obtain⟨j,h1,h2⟩:=BV l x (by simpa[Ne.symm e]using h);refine⟨j+1,h1,λm z hm hz=>?_⟩
   match m,hm,hz with
   |0,_,hz=>rw[<-Option.some.inj hz];exact e
   |m+1,hm,hz=>exact h2 m z (by omega) hz
theorem ye(l:List Int):(l.map V.int).all oK=true:=by
 rw[all_eq_true];intro x hx;obtain⟨z,_,rfl⟩:=mem_map.mp hx;rfl
theorem BH(a:Int):Ji (.int a) (.int a)=true:=by simp[Ji]
theorem Nm{a b:Int}(h:a≠b):Ji (.int a) (.int b)=false:=by simp[Ji,h]
def stab(g:Game)(d:Nat)(l:List Int):List Int:=if covers g (l.map λa=>frac a d)=false then [2]else if stable g (l.map λa=>frac a d)=true then [1]else 0::ofNat (loudest g (l.map λa=>frac a d)).1::toldQ (loudest g (l.map λa=>frac a d)).2
theorem _root_.L2.ay.none{H H':Hp}{q:Addr}(s:ay H H')(h:H' q=none):H q=none:=by
 cases e:H q with
 |none=>rfl
 |some o=>rw[s _ _ e]at h;cases h
def Gm(C:Addr):Sp:=λvs H Q _=>∃(a p:Addr)(g:Game)(d:Nat)(l:List Int),vs=[.ref a,.int d,.ref p]/\aZ C H a g/\GW g/\IL H p l/\l.length=g.n/\0<d/\d<=1000000/\∀q H',ay H H'->H q=none->IL H' q (stab g d l)->Q (.ref q) H'
theorem F0(T:Txt K mg A F):aT P w K mg base gU 5 A.j8 F.j8 ["game","d","numbers"] (Gm A.Game):=by
 refine T.rY.ok qc (λvs H Q E h=>?_) (λcdv Ar outer s H vs Q E hr h=>?_)
 ·obtain⟨a,p,g,d,l,rfl,_⟩:=h;rfl
 ·obtain⟨a,p,g,d,l,rfl,hG,W,hp,hl,hd0,hd,k⟩:=h
  refine⟨_,((ag (eP (oz (iq (aw (L5 T) hr T.NQ T.BR.kp (MV T) az (aa (pv 0) (aa (pv 1) (aa (pv 2) ae))))))
   (ai (aB (bb (aa ao ae))))
   bL)
   (ag (fC 3 qc.nd (aw (DL T) hr T.FN T.pO.kp (Fd T) az (aa (pv 0) (aa (pv 1) (aa (pv 2) ae)))))
   (ag (fC 4 qc.nd (aL (BD rfl) (by rfl) T.GO By (aa (pv 3) ae)))
   (ag (eP (bG HQ (pv 4) ao (bI _))
   (ai (aB (bb (aa ao ae))))
   bL)
   (ai (aB (aR j3 (bb (aa ao (aa (nR PySem.F.plainAttrs_list PySem.F.slot_list_index PySem.F.type_list_index HH (pv 3) (aa (pv 4) ae)) ae))) (lH pJ (by rfl) T.Fe AU (aa (aw (uz T) hr T.wX T.oJ.kp (wD T) az (aa (pv 4) (aa (pv 1) ae))) ae)))))))))),?_⟩
  have n8:=W.n8;have hp256:=W.pow;have hpos:=two_pow_pos g.n;have ec:=Ls g l hd0;refine⟨_,rfl,_,rfl,_,rfl,a,p,g,d,l,rfl,hG,W,hp,hd,_,rfl,?_⟩;rw[<-ec];refine eJ (λhc=>?_) λhc=>?_
  ·have hc:covers g (l.map λa=>frac a d)=false:=by simpa using hc
   refine⟨by show 1<=sizeLine;decide,λq hq=>k q _ (ah hq) hq ?_⟩;show upd H q _ q=_;rw[af];unfold stab;rw[if_pos hc];rfl
  ·have hc:covers g (l.map λa=>frac a d)=true:=by simpa using hc
   refine⟨_,rfl,_,rfl,_,rfl,a,p,g,d,l,rfl,hG,W,hp,hl,hd,λD H1 s1 hD=>?_⟩;refine⟨_,rfl,D,_,rfl,aH.of hD,by rw[length_map,cb];exact hpos,λmx hm hup=>?_⟩;have up:∀s,s<2^g.n->ik g.n l s-(d:Int)*g.cost s<=mx:=λs hs=>hup _ (mem_map.mpr ⟨s,aP.mpr hs,rfl⟩);have el:=Jr g l hd0;walk_at"D";refine eJ (λhz=>?_) λhz=>?_
   ·have hz:mx<=0:=by simpa using hz
    refine⟨by show 1<=sizeLine;decide,λq hq=>k q _ (s1.trans (ah hq)) (s1.none hq) ?_⟩;show upd H1 q _ q=_;rw[af];unfold stab stable;have L:=B8 (λs=>ik g.n l s-(d:Int)*g.cost s) (2^g.n);have e2:(nF (λs=>ik g.n l s-(d:Int)*g.cost s) (Vbedah.groups g.n)).2=0:=by
     show(nF (λs=>ik g.n l s-(d:Int)*g.cost s) (List.range (2^g.n))).2=0;rcases L.at_ with⟨h1,_⟩|⟨h1,h2,h3,_⟩
     ·exact h1
     ·have:=up _ h2;omega
    rw[if_neg (by rw[hc];simp),if_pos (by
     rw[hc,el];show(true&& !Vbedah.lt (0,1) (frac (nF (λs=>ik g.n l s-(d:Int)*g.cost s) (Vbedah.groups g.n)).2 d))=true;rw[e2,<-pE hd0]
     rfl)]
    rfl
   ·have hz:0<mx:=by
     have:¬mx<=0:=by simpa using hz
     omega
    obtain⟨j,hj,hjm⟩:=BV _ mx hm;have jl:j<2^g.n:=by
     have:=(List.getElem?_eq_some_iff.mp hj).1;rw[length_map,cb]at this;exact this
    have fj:ik g.n l j-(d:Int)*g.cost j=mx:=by
     rw[getElem?_map,iV jl]at hj;exact Option.some.inj hj
    have lo:∀s,s<j->ik g.n l s-(d:Int)*g.cost s<mx:=λs hs=>by
     have h1:=up s (by omega);have h2:ik g.n l s-(d:Int)*g.cost s≠mx:=hjm s _ hs (by rw[getElem?_map,iV (show s<2^g.n by omega)];rfl);omega
    have em:=LU jl fj up lo hz;have el1:loudest g (l.map λa=>frac a d)=(j,frac mx d):=by
     rw[el];show((nF (λs=>ik g.n l s-(d:Int)*g.cost s) (List.range (2^g.n))).1,frac (nF (λs=>ik g.n l s-(d:Int)*g.cost s) (List.range (2^g.n))).2 d)=_;rw[em]
    have hst:stable g (l.map λa=>frac a d)=false:=by
     unfold stable;rw[hc,el1];show(true&& !Vbedah.lt (0,1) (frac mx d))=false;rw[pE hd0,wO hd0,decide_eq_true hz];rfl
    refine⟨_,rfl,.inl ⟨rfl,_,aH.of hD⟩,_,rfl,D,_,_,j,_,rfl,rfl,aH.of hD,rfl,ye _,(by rw[getElem?_map,hj];rfl),BH mx,?_,by show 2<=sizeLine;decide,λq hq=>?_⟩
    ·intro m z' hmj hz';obtain⟨v,hv,rfl⟩:=gW hz';exact Nm (hjm m v hmj hv)
    have s2:ay H1 (upd H1 q (.lst [.int 0,.int (j:Nat)])):=ah hq;refine⟨_,rfl,_,rfl,mx,d,rfl,hd0,by omega,λr hr=>?_⟩;refine⟨r,_,rfl,.inr (ra.of af),λt ht=>?_⟩;have nqr:q≠r:=aq af hr;have nqt:q≠t:=aq (by rw[ak nqr];exact af) ht;refine⟨q,t,[.int 0,.int (j:Nat)],_,rfl,rfl,by rw[ak nqt,ak nqr];exact af,af,by show 4<=sizeLine;decide,λu hu=>?_⟩;refine k u _ ((((s1.trans s2).trans (ah hr)).trans (ah ht)).trans (ah hu)) ((((s1.trans s2).trans (ah hr)).trans (ah ht)).none hu) ?_;show upd _ u _ u=_;rw[af];unfold stab;rw[if_neg (by rw[hc];simp),if_neg (by rw[hst];simp),el1];rfl
def WL(w:List (Nat×Int)):List (List Int):=w.map λx=>[(x.1:Int),x.2]
theorem C4{H:Hp}{ps:List Addr}{xss:List (List Int)}{i:Nat}{x:V}(h2:Paired (λq xs=>H q=some (.tup (xs.map V.int))) ps xss)(h:(ps.map V.ref)[i]?=some x):∃q xs,x= .ref q/\xss[i]?=some xs/\H q=some (.tup (xs.map V.int)):=by
 obtain⟨q,hq,rfl⟩:=dq h;obtain⟨xs,h3,h4⟩:=i8 h2 hq;exact⟨q,xs,rfl,h3,h4⟩
def Gn:Sp:=λvs H Q _=>∃(i:Nat)(p:Addr)(w:List (Nat×Int)),vs=[.int i,.ref p]/\i<=8/\TL H p (WL w)/\w.length<=1000/\∀H',ay H H'->Q (.int ((w.map λx=>if Vbedah.has x.1 i=true then x.2 else 0).sum)) H'
theorem D6(w:List (Nat×Int))(i:Nat):(((List.range w.length).filter λj=>Vbedah.has (w.getD j (0,0)).1 i).map λj=>(w.getD j (0,0)).2).sum=(w.map λx=>if Vbedah.has x.1 i=true then x.2 else 0).sum:=by
 rw[sum_filter,<-range_getD (l:=w) (d:=(0,0)) rfl λx=>if Vbedah.has x.1 i=true then x.2 else 0]
theorem F1(T:Txt K mg A F):aT P w K mg base gU 3 A.kc F.kc ["region","pairs"] Gn:=by
 refine T.rZ.ok jy (λvs H Q E h=>?_) (λcdv Ar outer s H vs Q E hr h=>?_)
 ·obtain⟨i,p,w,rfl,_⟩:=h;rfl
 ·obtain⟨i,p,w,rfl,hi,⟨ps,h1,h2⟩,hw,k⟩:=h;refine⟨_,((ai (aB (aL (xZ rfl) (by rfl) T.Ea xV (aa (du (g:=z5 K 2 (ib (fu 2) (ib (fu 3) z4))) (own:=[("group",2),("number",3)]) rfl jy.nd (bp (pv 1)) (oB jy) (λ_ _ _ _ _=>(iX (n:=2) rfl (bg (fO 2 jy.nd (Or.inl rfl) (Or.inr rfl)) (bg (fO 3 jy.nd (Or.inl rfl) (Or.inr rfl)) gI)))) (λ_ _ _ _ _=>(lB (iq (aw (mw T) hr T.pT T.ly.kp (pH T) az (aa (pv 2) (aa (pv 0) ae)))))) (λ_ _ _ _ _=>(pv 3))) ae))))),?_⟩;have hpl:ps.length=w.length:=by rw[h2.length];unfold WL;simp
  refine⟨_,rfl,p,rfl,⟨_,aH.of h1⟩,λD hD=>?_⟩;refine cq (aJ (xs:=ps.map V.ref)) hD (λ_ s=>aH.of (s _ _ h1)) (λj=>Vbedah.has (w.getD j (0,0)).1 i) (λj y _=>y=V.int (w.getD j (0,0)).2) bh (bF (by simp;omega)) ?_ ?_
  ·rintro j x H1 hj s1 hx _ Qn Qy qn qy;obtain⟨q,xs,rfl,hxs,hq⟩:=C4 h2 hx;obtain⟨y,hy,rfl⟩:=dq hxs;have ey:w.getD j (0,0)=y:=by rw[getD_eq_getElem?_getD,hy];rfl
   rw[ey]at qn qy;refine⟨q,_,rfl,ra.of (s1 _ _ hq),rfl,_,_,rfl,_,_,rfl,rfl,rfl,?_⟩;refine⟨_,rfl,_,rfl,y.1,i,rfl,by omega,_,rfl,?_⟩;walk_at"i"
   ·exact⟨_,rfl,qy hh _ _ (ay.refl _) rfl (by intro z;cases z)⟩
   ·exact qn (by simpa using hh) _ (ay.refl _)
  ·walk_at"r";refine⟨D,(((List.range (ps.map V.ref).length).filter λj=>Vbedah.has (w.getD j (0,0)).1 i).map λj=>(w.getD j (0,0)).2),rfl,aH.of ?_,?_⟩
   ·rw[hacc,bW hpair,map_map];rfl
   ·refine qi ?_ (k H1 s1);rw[length_map,hpl,D6]
def ue(C:Addr):Sp:=λvs H Q _=>∃(a p:Addr)(g:Game)(d:Nat)(w:List (Nat×Int)),vs=[.ref a,.int d,.ref p]/\aZ C H a g/\GW g/\TL H p (WL w)/\w.length<=1000/\0<d/\d<=1000000/\(∀x∈w,x.1<2^g.n/\ -1000000<=x.2/\x.2<=1000000)/\∀H',ay H H'->Q (.bl (shows g (w.map λx=>(x.1,frac x.2 d)))) H'
theorem sO(T:Txt K mg A F):aT P w K mg base gU 4 A.cM F.cM ["game","d","pairs"] (ue A.Game):=by
 refine T.iH.ok aS (λvs H Q E h=>?_) (λcdv Ar outer s H vs Q E hr h=>?_)
 ·obtain⟨a,p,g,d,w,rfl,_⟩:=h;rfl
 ·obtain⟨a,p,g,d,w,rfl,hG,W,⟨ps,h1,h2⟩,hw,hd0,hd,hall,k⟩:=h
  refine⟨_,((ag (eP (iq (aL (Nb rfl) (by rfl) T.QU M5 (aa (du (g:=z5 K 2 (ib (fu 5) (ib (fu 6) z4))) (own:=[("group",5),("number",6)]) rfl aS.nd (bp (pv 2)) (oB aS) (λ_ _ _ _ _=>(iX (n:=2) rfl (bg (fO 5 aS.nd (Or.inl rfl) (Or.inr rfl)) (bg (fO 6 aS.nd (Or.inl rfl) (Or.inr rfl)) gI)))) (λ_ _ _ _ _=>bC) (λ_ _ _ _ _=>(p5 CB (pv 6) ao (bI _)))) ae)))
   (ai (aB Q1))
   bL)
   (ag (eP (iq (aL (Nb rfl) (by rfl) T.QU M5 (aa (du (own:=[("region",4)]) rfl aS.nd (cW rfl T.cQ (aa (aQ (pv 0) rfl) ae)) (oB aS) (λ_ _ _ _ _=>(fO 4 aS.nd (Or.inl rfl))) (λ_ _ _ _ _=>bC) (λ_ _ _ _ _=>(p5 nN (aw (F1 T) hr T.HA T.rZ.kp (GU T) az (aa (pv 4) (aa (pv 2) ae))) (pv 1) (bI _)))) ae)))
   (ai (aB Q1))
   bL)
   (ag (fC 3 aS.nd (aL (xZ rfl) (by rfl) T.Ea xV (aa (du (g:=z5 K 2 (ib (fu 5) (ib (fu 6) z4))) (own:=[("group",5),("number",6)]) rfl aS.nd (bp (pv 2)) (oB aS) (λ_ _ _ _ _=>(iX (n:=2) rfl (bg (fO 5 aS.nd (Or.inl rfl) (Or.inr rfl)) (bg (fO 6 aS.nd (Or.inl rfl) (Or.inr rfl)) gI)))) (λ_ _ _ _ _=>bC) (λ_ _ _ _ _=>(aR kT (pv 6) (aU (si K rfl) (KR K rfl (pv 0) rfl) (pv 5) (λ_ _=>rfl))))) ae)))
   (ai (aB (p5 CB (pv 3) (aR kT (pv 1) (ip (pv 0) T.aA T.fM (fN T) hr (gw T) az)) (bI _)))))))),?_⟩
  have n8:=W.n8;have hpl:ps.length=w.length:=by rw[h2.length];unfold WL;simp
  have es:=OI g w hd0 λx hx=>(hall x hx).1;obtain⟨dx,c,dd,q1,q2,q3⟩:=id hG;refine⟨_,rfl,p,rfl,⟨_,aH.of h1⟩,λD hD=>?_⟩;refine cq (aJ (xs:=ps.map V.ref)) hD (λ_ s=>aH.of (s _ _ h1)) (λ_=>true) (λj y _=>y=V.bl (decide ((w.getD j (0,0)).2<0))) bh (bF (by simp;omega)) ?_ ?_
  ·rintro j x H1 hj s1 hx _ Qn Qy qn qy;obtain⟨q,xs,rfl,hxs,hq⟩:=C4 h2 hx;obtain⟨y,hy,rfl⟩:=dq hxs;have ey:w.getD j (0,0)=y:=by rw[getD_eq_getElem?_getD,hy];rfl
   rw[ey]at qy;refine⟨q,_,rfl,ra.of (s1 _ _ hq),rfl,_,_,rfl,_,_,rfl,rfl,rfl,?_⟩;exact⟨_,rfl,_,_,rfl,rfl,qy rfl _ _ (ay.refl _) rfl (by intro z;cases z)⟩
  walk_at"r";have e1:acc=(w.map λx=>decide (x.2<0)).map V.bl:=by
   rw[bJ hpair,aN,range_getD (l:=w) (by rw[length_map,hpl]) λx=>V.bl (decide (x.2<0)),map_map];rfl
  rw[e1]at hacc;refine⟨D,_,rfl,aH.of hacc,_,rfl,?_⟩;have ea:(w.map λx=>decide (x.2<0)).any id=w.any λx=>decide (x.2<0):=by rw[any_map];rfl
  rw[ea];refine eJ (λhn=>?_) λhn=>?_
  ·refine qb ?_ (k H1 s1);rw[es,hn];rfl
  have hn:(w.any λx=>decide (x.2<0))=false:=by simpa using hn
  refine⟨_,rfl,a,A.Game,dx,_,_,rfl,s1 _ _ q1,T.aA,T.aY,jn _ _ _,_,rfl,by omega,by omega,λD2 hD2=>?_⟩;refine cq cp hD2 (λ_ _=>trivial) (λ_=>true) (λi y _=>y=V.bl (!decide ((w.map λx=>if Vbedah.has x.1 i=true then x.2 else 0).sum=(d:Int)))) bh (bF (by omega)) ?_ ?_
  ·rintro i x H2 hi s2 rfl _ Qn Qy qn qy;walk_at"I";refine⟨_,rfl,_,rfl,i,p,w,rfl,by omega,TL.same (s1.trans s2) ⟨ps,h1,h2⟩,hw,λH3 s3=>?_⟩;refine⟨_,rfl,rfl,qy rfl _ _ s3 ?_ (by intro z;cases z)⟩;simp
  intro H2 acc2 s2 hacc2 hpair2;have e2:acc2=((List.range g.n).map λi=> !decide ((w.map λx=>if Vbedah.has x.1 i=true then x.2 else 0).sum=(d:Int))).map V.bl:=by
   rw[bJ hpair2,aN,map_map,show((g.n:Int).toNat)=g.n by omega];rfl
  rw[e2]at hacc2;have s12:=s1.trans s2;refine⟨D2,_,rfl,aH.of hacc2,_,rfl,?_⟩;have eb:((List.range g.n).map λi=> !decide ((w.map λx=>if Vbedah.has x.1 i=true then x.2 else 0).sum=(d:Int))).any id=(List.range g.n).any λi=>decide ((w.map λx=>if Vbedah.has x.1 i=true then x.2 else 0).sum≠(d:Int)):=by
   rw[any_map];congr 1;funext i;simp
  rw[eb];refine eJ (λhm=>?_) λhm=>?_
  ·refine qb ?_ (k H2 s12);rw[es,hn,hm];rfl
  have hm:((List.range g.n).any λi=>decide ((w.map λx=>if Vbedah.has x.1 i=true then x.2 else 0).sum≠(d:Int)))=false:=by simpa using hm
  refine⟨_,rfl,p,rfl,⟨_,aH.of (s12 _ _ h1)⟩,λD3 hD3=>?_⟩;refine cq (aJ (xs:=ps.map V.ref)) hD3 (λ_ s=>aH.of (s _ _ (s12 _ _ h1))) (λ_=>true) (λj y _=>y=V.int ((w.getD j (0,0)).2*g.cost (w.getD j (0,0)).1)) bh (bF (by simp;omega)) ?_ ?_
  ·rintro j x H3 hj s3 hx _ Qn Qy qn qy;obtain⟨q,xs,rfl,hxs,hq⟩:=C4 h2 hx;obtain⟨y,hy,rfl⟩:=dq hxs;have ey:w.getD j (0,0)=y:=by rw[getD_eq_getElem?_getD,hy];rfl
   rw[ey]at qy;obtain⟨y1,y2,y3⟩:=hall y (mem_of_getElem? hy);have sH:=s12.trans s3;refine⟨q,_,rfl,ra.of (sH _ _ hq),rfl,_,_,rfl,_,_,rfl,rfl,rfl,?_⟩;exact⟨_,rfl,_,rfl,a,A.Game,dx,_,_,rfl,sH _ _ q1,T.aA,T.aV,cx _ _ _,_,rfl,c,_,_,_,rfl,rfl,aH.of (sH _ _ q2),iw (km W.len y1),_,_,rfl,rfl,.inl ⟨by omega,by omega⟩,qy rfl _ _ (ay.refl _) rfl (by intro z;cases z)⟩
  intro H3 acc3 s3 hacc3 hpair3;have e3:acc3=(w.map λx=>x.2*g.cost x.1).map V.int:=by
   rw[bW hpair3,aN,range_getD (l:=w) (by rw[length_map,hpl]) λx=>V.int (x.2*g.cost x.1),map_map];rfl
  rw[e3]at hacc3;have s13:=s12.trans s3;refine⟨D3,_,rfl,aH.of hacc3,?_⟩;refine⟨_,rfl,_,rfl,_,rfl,a,dx,_,rfl,s13 _ _ q1,iJ _ _ _ (by decide) (by decide) (by decide),a,g,rfl,hG.same s13,W,_,_,rfl,rfl,.inl ⟨by omega,by omega⟩,_,_,rfl,rfl,?_⟩;refine qb ?_ (k H3 s13);rw[es,hn,hm];simp
def JR(C:Addr):Sp:=λvs H Q _=>∃(a:Addr)(g:Game)(i:Nat),vs=[.ref a,.int i]/\aZ C H a g/\GW g/\i<g.n/\∀H',ay H H'->Q (.bl ((outs g.n i).all λs=>Vbedah.adds g i s==0)) H'
theorem HS{n i:Nat}(hi:i<n)(h8:n<=8):(outs n i).length<=1000:=by
 rw[show(outs n i).length=2^(n-1)from gY i n hi];exact le_trans (pow_le_pow_right (n:=2) (by decide) (show n-1<=7 by omega)) (by decide)
theorem Kg(a b:Int):decide (V.int a=V.int b)=(a==b):=by
 by_cases e:a=b
 ·subst e;simp
 ·simp[e]
theorem JB(T:Txt K mg A F):aT P w K mg base gU 4 A.pR F.pR ["game","region"] (JR A.Game):=by
 refine T.yc.ok p9 (λvs H Q E h=>?_) (λcdv Ar outer s H vs Q E hr h=>?_)
 ·obtain⟨a,g,i,rfl,_⟩:=h;rfl
 ·obtain⟨a,g,i,rfl,hG,W,hi,k⟩:=h;refine⟨_,((ai (aB (aL (Na rfl) (by rfl) T.QT M4 (aa (du (own:=[("group",2)]) rfl p9.nd (bp (aO (pv 0) T.aA T.bQ (bR T) hr (bY T) az (aa (pv 1) ae))) (oB p9) (λ_ _ _ _ _=>(fO 2 p9.nd (Or.inl rfl))) (λ_ _ _ _ _=>bC) (λ_ _ _ _ _=>(p5 CA (aO (pv 0) T.aA T.eh (ej T) hr (fh T) az (aa (pv 1) (aa (pv 2) ae))) ao (bI _)))) ae))))),?_⟩;have n8:=W.n8;walk_at"j";walk_at"h";refine⟨p,rfl,⟨_,aH.of hp⟩,λD hD=>?_⟩;refine cq (aJ (xs:=((outs g.n i).map ofNat).map V.int)) hD (λ_ s=>aH.of (s _ _ hp)) (λ_=>true) (λj y _=>y=V.bl (Vbedah.adds g i ((outs g.n i).getD j 0)==0)) bh (bF (by simp;exact HS hi n8)) ?_ ?_
  ·rintro j x H2 hj s2 hx _ Qn Qy qn qy;walk_at"G";obtain⟨hz1,hz2⟩:=sP hz;have ez:(outs g.n i).getD j 0=z:=by rw[getD_eq_getElem?_getD,hz];rfl
   rw[ez]at qy;have sH:=s1.trans s2;walk_at"I";exact⟨_,rfl,a,dx,_,rfl,sH _ _ q1,iJ _ _ _ (by decide) (by decide) (by decide),_,rfl,_,rfl,a,g,i,z,rfl,hG.same sH,W,hi,hz1,hz2,rfl,qy rfl _ _ (ay.refl _) (congrArg V.bl (Kg _ _)) (by intro z;cases z)⟩
  ·intro H2 acc s2 hacc hpair;have e:acc=((outs g.n i).map λs=>Vbedah.adds g i s==0).map V.bl:=by
    rw[bJ hpair,aN,range_getD (l:=outs g.n i) (by simp) λs=>V.bl (Vbedah.adds g i s==0),map_map];rfl
   rw[e]at hacc;refine⟨D,_,rfl,aH.of hacc,qb ?_ (k H2 (s1.trans s2))⟩;rw[all_map];rfl
def AL(C:Addr):Sp:=λvs H Q _=>∃(a:Addr)(g:Game),vs=[.ref a]/\aZ C H a g/\GW g/\∀p H',ay H H'->H p=none->IL H' p (nats (Vbedah.idle g))->Q (.ref p) H'
theorem Am(T:Txt K mg A F):aT P w K mg base gU 5 A.gH F.gH ["game"] (AL A.Game):=by
 refine T.l8.ok iO (λvs H Q E h=>?_) (λcdv Ar outer s H vs Q E hr h=>?_)
 ·walk_at"H"
 ·obtain⟨a,g,rfl,hG,W,k⟩:=h;refine⟨_,((ai (aB (du (own:=[("region",1)]) rfl iO.nd (cW rfl T.cQ (aa (aQ (pv 0) rfl) ae)) (oB iO) (λ_ _ _ _ _=>(fO 1 iO.nd (Or.inl rfl))) (λ_ _ _ _ _=>(lB (iq (aw (JB T) hr T.LQ T.yc.kp (Li T) az (aa (pv 0) (aa (pv 1) ae)))))) (λ_ _ _ _ _=>(pv 1)))))),?_⟩;have n8:=W.n8;walk_at"j";walk_at"w";refine cq cp hD (λ_ _=>trivial) (λi=>(outs g.n i).all λs=>Vbedah.adds g i s==0) (λi y _=>y=V.int (i:Nat)) bh (bF (by omega)) ?_ ?_
  ·rintro i x H1 hi s1 rfl _ Qn Qy qn qy;walk_at"I";refine⟨_,rfl,_,rfl,a,g,i,rfl,hG.same s1,W,by omega,λH2 s2=>⟨_,rfl,?_⟩⟩;walk_at"i"
   ·exact⟨_,rfl,qy hh _ _ s2 rfl (by intro z;cases z)⟩
   ·exact qn (by simpa using hh) _ s2
  ·walk_at"r";refine k D H1 s1 hD ?_;show H1 D=_;rw[hacc,bW hpair,PV,show((g.n:Int).toNat)=g.n by omega];unfold nats;rw[map_map];rfl
def Ge(C:Addr):Sp:=λvs H Q _=>∃(a:Addr)(g:Game)(i j:Nat),vs=[.ref a,.int i,.int j]/\aZ C H a g/\GW g/\i<g.n/\j<g.n/\∀H',ay H H'->Q (.bl (Vbedah.alike g i j)) H'
theorem FU(T:Txt K mg A F):aT P w K mg base gU 4 A.jQ F.jQ ["game","i","j"] (Ge A.Game):=by
 refine T.rR.ok gK (λvs H Q E h=>?_) (λcdv Ar outer s H vs Q E hr h=>?_)
 ·obtain⟨a,g,i,j,rfl,_⟩:=h;rfl
 ·obtain⟨a,g,i,j,rfl,hG,W,hi,hj,k⟩:=h
  refine⟨_,((ag (kE (i:=3) (own:=[("group",4)]) rfl gK.nd rfl rfl (nX rfl rfl rfl (by decide+kernel)) (bp (aO (pv 0) T.aA T.bQ (bR T) hr (bY T) az (aa (pv 1) ae))) (oB gK) (λ_ _ _ _ _=>(fO 4 gK.nd (Or.inl rfl))) (λ_ _ _ _ _=>(lB (oz (iq (aw (mw T) hr T.pT T.ly.kp (pH T) az (aa (pv 4) (aa (pv 2) ae))))))) (λ_ _ _ _ _=>(pv 4)))
   (ai (aB (aL (Na rfl) (by rfl) T.QT M4 (aa (du (own:=[("group",4)]) rfl gK.nd (bp (pv 3)) (oB gK) (λ_ _ _ _ _=>(fO 4 gK.nd (Or.inl rfl))) (λ_ _ _ _ _=>bC) (λ_ _ _ _ _=>(p5 CA (aO (pv 0) T.aA T.eh (ej T) hr (fh T) az (aa (pv 1) (aa (pv 4) ae))) (aO (pv 0) T.aA T.eh (ej T) hr (fh T) az (aa (pv 2) (aa (pv 4) ae))) (bI _)))) ae)))))),?_⟩
  have n8:=W.n8;have ol:=HS hi n8;walk_at"j";walk_at"h";refine⟨p,rfl,⟨_,aH.of hp⟩,λD hD=>?_⟩;refine cq (aJ (xs:=((outs g.n i).map ofNat).map V.int)) hD (λ_ s=>aH.of (s _ _ hp)) (λm=> !Vbedah.has ((outs g.n i).getD m 0) j) (λm y _=>y=V.int ((outs g.n i).getD m 0:Nat)) bh (bF (by simp;exact ol)) ?_ ?_
  ·rintro m x H2 hm s2 hx _ Qn Qy qn qy;walk_at"G";have ez:(outs g.n i).getD m 0=z:=by rw[getD_eq_getElem?_getD,hz];rfl
   rw[ez]at qn qy;walk_at"I";refine⟨_,rfl,_,rfl,z,j,rfl,by omega,_,rfl,?_⟩;walk_at"i"
   ·exact⟨_,rfl,qy hh _ _ (ay.refl _) rfl (by intro z;cases z)⟩
   ·exact qn (by simpa using hh) _ (ay.refl _)
  intro H2 acc s2 hacc hpair;have e:acc=(((outs g.n i).filter λs=> !Vbedah.has s j).map ofNat).map V.int:=by
   rw[bW hpair];have:((List.range (((outs g.n i).map ofNat).map V.int).length).filter λm=> !Vbedah.has ((outs g.n i).getD m 0) j).map (λm=>(outs g.n i).getD m 0)=(outs g.n i).filter λs=> !Vbedah.has s j:=by
    have q:=range_getD (l:=outs g.n i) (d:=0) (n:=(((outs g.n i).map ofNat).map V.int).length) (by simp) id;rw[map_id]at q
    conv=>rhs;rw[<-q]
    rw[filter_map];rfl
   rw[<-this];simp only[map_map];rfl
  rw[e]at hacc;refine⟨_,rfl,D,rfl,⟨_,aH.of hacc⟩,λD2 hD2=>?_⟩;have mem:∀{m z:Nat},((outs g.n i).filter λs=> !Vbedah.has s j)[m]?=some z->z<2^g.n/\Vbedah.has z i=false/\Vbedah.has z j=false:=λ{m z}hz=>by
   have:=mem_of_getElem? hz;rw[mem_filter]at this;obtain⟨u1,u2⟩:=kC.mp this.1;exact⟨u1,u2,by simpa using this.2⟩
  refine cq (aJ (xs:=(((outs g.n i).filter λs=> !Vbedah.has s j).map ofNat).map V.int)) hD2 (λ_ s=>aH.of (s _ _ hacc)) (λ_=>true) (λm y _=>y=V.bl (Vbedah.adds g i (((outs g.n i).filter λs=> !Vbedah.has s j).getD m 0)==Vbedah.adds g j (((outs g.n i).filter λs=> !Vbedah.has s j).getD m 0))) bh (bF (by simp;exact le_trans (length_filter_le _ _) ol)) ?_ ?_
  ·rintro m x H3 hm s3 hx _ Qn Qy qn qy;walk_at"G";obtain⟨u1,u2,u3⟩:=mem hz;have ez:((outs g.n i).filter λs=> !Vbedah.has s j).getD m 0=z:=by rw[getD_eq_getElem?_getD,hz];rfl
   rw[ez]at qy;have sH:=(s1.trans s2).trans s3;walk_at"I";exact⟨_,rfl,a,dx,_,rfl,sH _ _ q1,iJ _ _ _ (by decide) (by decide) (by decide),_,rfl,_,rfl,a,g,i,z,rfl,hG.same sH,W,hi,u1,u2,_,rfl,a,dx,_,rfl,sH _ _ q1,iJ _ _ _ (by decide) (by decide) (by decide),_,rfl,_,rfl,a,g,j,z,rfl,hG.same sH,W,hj,u1,u3,rfl,qy rfl _ _ (ay.refl _) (congrArg V.bl (Kg _ _)) (by intro z;cases z)⟩
  ·intro H3 acc3 s3 hacc3 hpair3;have e3:acc3=(((outs g.n i).filter λs=> !Vbedah.has s j).map λs=>Vbedah.adds g i s==Vbedah.adds g j s).map V.bl:=by
    rw[bJ hpair3,aN,range_getD (l:=(outs g.n i).filter λs=> !Vbedah.has s j) (by simp) λs=>V.bl (Vbedah.adds g i s==Vbedah.adds g j s),map_map];rfl
   rw[e3]at hacc3;refine⟨D2,_,rfl,aH.of hacc3,qb ?_ (k H3 ((s1.trans s2).trans s3))⟩;rw[MM,all_map];rfl
def PR(l:List (Nat×Nat)):List (List Int):=l.map λx=>[(x.1:Int),(x.2:Int)]
def CT(C:Addr):Sp:=λvs H Q _=>∃(a:Addr)(g:Game),vs=[.ref a]/\aZ C H a g/\GW g/\∀p H',ay H H'->H p=none->TL H' p (PR (pairs g))->Q (.ref p) H'
theorem Paired.app{α β:Type}{F:α->β->Prop}:∀{l₁ l₂:List α}{m₁ m₂:List β},Paired F l₁ m₁->Paired F l₂ m₂->Paired F (l₁++l₂) (m₁++m₂)
 |_,_,_,_,.nil,h=>h
 |_,_,_,_,.cons r t,h=> .cons r (Paired.app t h)
theorem pairs_len(g:Game)(i:Nat):((List.range i).flatMap λi=>((range' (i+1) (g.n-(i+1))).filter λj=>Vbedah.alike g i j).map λj=>(i,j)).length<=i*g.n:=by
 induction i with
 |zero=>simp
 |succ i ih=>
  rw[range_succ,List.flatMap_append,length_append];have:([i].flatMap λi=>((range' (i+1) (g.n-(i+1))).filter λj=>Vbedah.alike g i j).map λj=>(i,j)).length<=g.n:=by
   simp only[flatMap_cons,List.flatMap_nil,append_nil,length_map];refine le_trans (length_filter_le _ _) ?_;simp
  rw[add_mul];omega
theorem Cn(T:Txt K mg A F):aT P w K mg base gU 5 A.g8 F.g8 ["game"] (CT A.Game):=by
 refine T.n6.ok fW (λvs H Q E h=>?_) (λcdv Ar outer s H vs Q E hr h=>?_)
 ·walk_at"H"
 ·obtain⟨a,g,rfl,hG,W,k⟩:=h
  refine⟨_,((ag (fC 1 fW.nd (bb ae))
   (ag (dF PassesOwn.never rfl (cW rfl T.cQ (aa (aQ (pv 0) rfl) ae)) (fO 2 fW.nd (Or.inr rfl))
   (ai (aM (nR PySem.F.plainAttrs_list PySem.F.slot_list_extend PySem.F.type_list_extend uw (pv 1) (aa (du (own:=[("j",3)]) rfl fW.nd (uB rfl T.cQ (aa (aR iI (pv 2) ao) (aa (aQ (pv 0) rfl) ae))) (oB fW) (λ_ _ _ _ _=>(fO 3 fW.nd (Or.inl rfl))) (λ_ _ _ _ _=>(lB (iq (aw (FU T) hr T.Hs T.rR.kp (GI T) az (aa (pv 0) (aa (pv 2) (aa (pv 3) ae))))))) (λ_ _ _ _ _=>(sR (aa (pv 2) (aa (pv 3) ae))))) ae)))))
   (ai (aB (pv 1)))))),?_⟩
  have n8:=W.n8;walk_at"j";refine⟨zero_le _,λD hD=>?_⟩;have s0:ay H (upd H D (.lst [])):=ah hD;walk_at"x";refine d7 cp (λi σ H'=>∃v2 v3,σ=[some (.ref a),some (.ref D),v2,v3]/\jF D H H'/\∃ps:List Addr,H' D=some (.lst (ps.map V.ref))/\(∀q∈ps,q≠D)/\Paired (λq xs=>H' q=some (.tup (xs.map V.int))) ps (PR ((List.range i).flatMap λi=>((range' (i+1) (g.n-(i+1))).filter λj=>Vbedah.alike g i j).map λj=>(i,j)))) ⟨_,_,rfl,ay.but s0,[],af,by simp,.nil⟩ (λ_ _ _ _ _=>trivial) ?_ ?_
  ·rintro i x σ H1 H2 hi ⟨v2,v3,rfl,b1,ps,hD1,hnd,hp⟩ s2 rfl;have hin:i<g.n:=by omega
   have sH:ay H H2:=λb o e=>s2 _ _ (b1 b o (aq e hD) e);refine⟨_,rfl,.inl ⟨rfl,_,aH.of (s2 _ _ hD1)⟩,_,rfl,_,_,rfl,rfl,_,rfl,a,A.Game,dx,_,_,rfl,sH _ _ q1,T.aA,T.aY,jn _ _ _,_,_,rfl,⟨by omega,by omega,by omega,by omega⟩,λD2 hD2=>?_⟩;refine cq ja hD2 (λ_ _=>trivial) (λm=>Vbedah.alike g i (i+1+m)) (λm y H=>∃Tt,y= .ref Tt/\H Tt=some (.tup (([(i:Int),((i+1+m:Nat):Int)]:List Int).map V.int))) (λm y H H' hy b h=>mR (f:=λm=>([(i:Int),((i+1+m:Nat):Int)]:List Int).map V.int) m y H H' hy b h) (bF (by omega)) ?_ ?_
   ·rintro m x H3 hm s3 rfl ⟨acc,hacc⟩ Qn Qy qn qy;have em:(i:Int)+1+(m:Nat)=((i+1+m:Nat):Int):=by omega
    rw[em];walk_at"I";refine⟨_,rfl,_,rfl,_,rfl,a,g,i,i+1+m,rfl,hG.same (sH.trans s3),W,hin,by omega,λH4 s4=>⟨_,rfl,?_⟩⟩;walk_at"i"
    ·exact⟨_,rfl,_,rfl,by show 2<=sizeLine;decide,λp np=>qy hh _ _ (s4.trans (ah np)) ⟨p,rfl,af⟩ (sC (s4 _ _ hacc) np)⟩
    ·exact qn (by simpa using hh) _ s4
   ·intro H3 acc s3 hacc hpair;obtain⟨ps2,e2,h2⟩:=i9 (f:=λm=>[(i:Int),((i+1+m:Nat):Int)]) hpair;have D12:D2≠D:=λe=>by rw[e,s2 _ _ hD1]at hD2;cases hD2
    have hD3:=s3 _ _ (s2 _ _ hD1);have eqL:((List.range (((g.n:Int)-((i:Int)+1)).toNat)).filter λm=>Vbedah.alike g i (i+1+m)).map (λm=>[(i:Int),((i+1+m:Nat):Int)])=PR (((range' (i+1) (g.n-(i+1))).filter λj=>Vbedah.alike g i j).map λj=>(i,j)):=by
     unfold PR;rw[List.range'_eq_map_range,filter_map,map_map,map_map,show((g.n:Int)-((i:Int)+1)).toNat=g.n-(i+1) by omega];rfl
    rw[eqL]at h2;have lens:=pairs_len g i;have l1:ps.length<=i*g.n:=by rw[hp.length];unfold PR;rw[length_map];exact lens
    have l2:ps2.length<=1000:=by
     rw[h2.length];unfold PR;simp only[length_map];refine le_trans (length_filter_le _ _) ?_;simp;omega
    have l3:i*g.n<=8*8:=Nat.mul_le_mul (by omega) n8;refine⟨D,D2,_,acc,rfl,rfl,hD3,hacc,?_,?_⟩
    ·rw[e2,length_map,length_map];exact le_trans (show _<=2000 by omega) (by decide)
    ·refine⟨_,_,rfl,(b1.trans (ay.but (s2.trans s3))).trans jF.upd,ps++ps2,?_,?_,?_⟩
     ·rw[af,e2,map_append]
     ·intro q hq;rcases mem_append.mp hq with z|z
      ·exact hnd q z
      ·intro e;subst e;obtain⟨m,hm⟩:=List.mem_iff_getElem?.mp z;obtain⟨xs,_,hx⟩:=i8 h2 hm;rw[hD3]at hx;cases hx
     ·rw[range_succ,List.flatMap_append];unfold PR;rw[map_append];refine Paired.app ?_ ?_
      ·exact bc hp λq xs hq _ e=>by rw[ak (hnd q hq)];exact s3 _ _ (s2 _ _ e)
      ·simp only[flatMap_cons,List.flatMap_nil,append_nil];refine bc h2 λq xs hq _ e=>?_;rw[ak]
       ·exact e
       ·intro e2;subst e2;rw[hD3]at e;cases e
  ·rintro σ H1 ⟨v2,v3,rfl,b1,ps,hD1,hnd,hp⟩;refine⟨_,rfl,k D H1 (λb o e=>b1 b o (aq e hD) e) hD ⟨ps,hD1,?_⟩⟩;rw[Oi];rw[show((g.n:Int).toNat)=g.n by omega]at hp;exact hp
def Iq:Sp:=λvs H Q _=>∃(p q:Addr)(xs ys:List Int),vs=[.ref p,.ref q]/\IL H p xs/\IL H q ys/\xs.length<=1000/\∀r H',ay H H'->H r=none->IL H' r ((xs.zip ys).map λx=>x.1+x.2)->Q (.ref r) H'
theorem sN(T:Txt K mg A F):aT P w K mg base gU 1 A.mC F.mC ["first","second"] Iq:=by
 refine T.ma.ok kI (λvs H Q E h=>?_) (λcdv Ar outer s H vs Q E hr h=>?_)
 ·obtain⟨p,q,xs,ys,rfl,_⟩:=h;rfl
 ·obtain⟨p,q,xs,ys,rfl,hp,hq,hl,k⟩:=h;refine⟨_,((ai (aB (du (g:=z5 K 2 (ib (fu 2) (ib (fu 3) z4))) (own:=[("a",2),("b",3)]) rfl kI.nd (Ot rfl T.QV (aa (pv 0) (aa (pv 1) ae))) (oB kI) (λ_ _ _ _ _=>(iX (n:=2) rfl (bg (fO 2 kI.nd (Or.inl rfl) (Or.inr rfl)) (bg (fO 3 kI.nd (Or.inl rfl) (Or.inr rfl)) gI)))) (λ_ _ _ _ _=>bC) (λ_ _ _ _ _=>(aR iI (pv 2) (pv 3))))))),?_⟩;refine⟨_,rfl,_,rfl,p,q,_,_,rfl,aH.of hp,aH.of hq,λD hD=>?_⟩;refine cq (ES (xs:=xs.map V.int) (ys:=ys.map V.int)) hD (λ_ s=>⟨aH.of (s _ _ hp),aH.of (s _ _ hq)⟩) (λ_=>true) (λi y _=>y=V.int (xs.getD i 0+ys.getD i 0)) bh (bF (by simp;omega)) ?_ ?_
  ·rintro i x H1 hi s1 ⟨Tt,y,z,rfl,hT,hy,hz⟩ _ Qn Qy qn qy;obtain⟨y,hy1,rfl⟩:=gW hy;obtain⟨z,hz1,rfl⟩:=gW hz;walk_at"q";walk_at"A";rw[getD_eq_getElem?_getD,hy1,getD_eq_getElem?_getD,hz1];rfl
  ·walk_at"r";refine k D H1 s1 hD ?_;show H1 D=_;rw[hacc,bW hpair,aN];congr 2;rw[map_map];refine ke (by simp) λi x hx=>?_;rw[List.getElem?_zip_eq_some]at hx;rw[getD_eq_getElem?_getD,hx.1,getD_eq_getElem?_getD,hx.2];rfl
def Io(C:Addr):Sp:=λvs H Q _=>∃(a b:Addr)(g h:Game),vs=[.ref a,.ref b]/\aZ C H a g/\GW g/\aZ C H b h/\GW h/\g.n=h.n/\∀c H',ay H H'->aZ C H' c (Vbedah.sum g h)->Q (.ref c) H'
theorem HM(T:Txt K mg A F):aT P w K mg base gU 4 A.mh F.mh ["first","second"] (Io A.Game):=by
 refine T.vP.ok Ij (λvs H Q E h=>?_) (λcdv Ar outer s H vs Q E hr h=>?_)
 ·obtain⟨a,b,g,h',rfl,_⟩:=h;rfl
 ·obtain⟨a,b,g,h',rfl,hG,W,hG2,W2,hn,k⟩:=h;refine⟨_,((ai (aB (aw (fT T) hr T.gP T.dy.kp (gN T) az (aa (aQ (pv 0) rfl) (aa (aw (sN T) hr T.vU T.ma.kp (vK T) az (aa (aQ (pv 0) rfl) (aa (aQ (pv 1) rfl) ae))) ae)))))),?_⟩;have hp256:=W.pow;walk_at"j";obtain⟨dx2,c2,d2,r1,r2,r3⟩:=id hG2;refine⟨_,rfl,a,A.Game,dx,_,_,rfl,q1,T.aA,T.aY,jn _ _ _,_,rfl,a,A.Game,dx,_,_,rfl,q1,T.aA,T.aV,cx _ _ _,_,rfl,b,A.Game,dx2,_,_,rfl,r1,T.aA,T.aV,cx _ _ _,c,c2,_,_,rfl,q2,r2,by rw[W.len];omega,λr H1 s1 nr hr=>?_⟩;refine⟨r,g.n,_,rfl,hr,λx H2 s2 hx=>k x H2 (s1.trans s2) ?_⟩;rw[Mw W.len W2.len hn]at hx;exact hx
def CZ(C:Addr):Sp:=λvs H Q _=>∃(a:Addr)(g:Game)(f:Int),vs=[.ref a,.int f]/\aZ C H a g/\GW g/\ -1000<=f/\f<=1000/\∀c H',ay H H'->aZ C H' c (scaled g f)->Q (.ref c) H'
theorem Cy(T:Txt K mg A F):aT P w K mg base gU 4 A.ir F.ir ["game","factor"] (CZ A.Game):=by
 refine T.ou.ok jx (λvs H Q E h=>?_) (λcdv Ar outer s H vs Q E hr h=>?_)
 ·obtain⟨a,g,f,rfl,_⟩:=h;rfl
 ·obtain⟨a,g,f,rfl,hG,W,f1,f2,k⟩:=h;refine⟨_,((ai (aB (aw (fT T) hr T.gP T.dy.kp (gN T) az (aa (aQ (pv 0) rfl) (aa (du (own:=[("cost",2)]) rfl jx.nd (bp (aQ (pv 0) rfl)) (oB jx) (λ_ _ _ _ _=>(fO 2 jx.nd (Or.inl rfl))) (λ_ _ _ _ _=>bC) (λ_ _ _ _ _=>(aR kT (pv 1) (pv 2)))) ae)))))),?_⟩;have hp256:=W.pow;walk_at"j";refine⟨_,rfl,a,A.Game,dx,_,_,rfl,q1,T.aA,T.aY,jn _ _ _,_,rfl,a,A.Game,dx,_,_,rfl,q1,T.aA,T.aV,cx _ _ _,c,rfl,⟨_,aH.of q2⟩,λD hD=>?_⟩;refine cq (aJ (xs:=g.costs.map V.int)) hD (λ_ s=>aH.of (s _ _ q2)) (λ_=>true) (λi y _=>y=V.int (f*g.costs.getD i 0)) bh (bF (by simp;rw[W.len];omega)) ?_ ?_
  ·walk_at"F";obtain⟨z,hz,rfl⟩:=gW hx;walk_at"I";refine⟨_,rfl,_,rfl,_,_,rfl,rfl,.inl ⟨by omega,by omega⟩,qy rfl _ _ (ay.refl _) ?_ (by intro z;cases z)⟩;rw[getD_eq_getElem?_getD,hz];rfl
  ·walk_at"r";have e:acc=(scaled g f).costs.map V.int:=by
    rw[bW hpair,aN,range_getD (l:=g.costs) (by simp) λz=>V.int (f*z)];show _=((Vbedah.groups g.n).map λs=>f*g.cost s).map V.int;rw[<-LS W.len λz=>f*z,map_map];rfl
   rw[e]at hacc;exact⟨D,g.n,_,rfl,hacc,λx H2 s2 hx=>k x H2 (s1.trans s2) hx⟩
def Gh(C:Addr):Sp:=λvs H Q _=>∃(a:Addr)(g:Game),vs=[.ref a]/\aZ C H a g/\GW g/\∀c H',ay H H'->aZ C H' c (dual g)->Q (.ref c) H'
theorem FX(T:Txt K mg A F):aT P w K mg base gU 4 A.jS F.jS ["game"] (Gh A.Game):=by
 refine T.rV.ok lE (λvs H Q E h=>?_) (λcdv Ar outer s H vs Q E hr h=>?_)
 ·walk_at"H"
 ·obtain⟨a,g,rfl,hG,W,k⟩:=h;refine⟨_,((ai (aB (aw (fT T) hr T.gP T.dy.kp (gN T) az (aa (aQ (pv 0) rfl) (aa (du (own:=[("cost",1)]) rfl lE.nd (zw rfl T.Bv (aa (aQ (pv 0) rfl) ae)) (oB lE) (λ_ _ _ _ _=>(fO 1 lE.nd (Or.inl rfl))) (λ_ _ _ _ _=>bC) (λ_ _ _ _ _=>(aR jv (ip (pv 0) T.aA T.fM (fN T) hr (gw T) az) (pv 1)))) ae)))))),?_⟩;have hp256:=W.pow;walk_at"j";refine⟨_,rfl,a,A.Game,dx,_,_,rfl,q1,T.aA,T.aY,jn _ _ _,_,rfl,a,A.Game,dx,_,_,rfl,q1,T.aA,T.aV,cx _ _ _,c,_,rfl,aH.of q2,λD hD=>?_⟩;refine cq (ER (xs:=g.costs.map V.int)) hD (λ_ s=>aH.of (s _ _ q2)) (λ_=>true) (λi y _=>y=V.int (g.cost g.all-g.costs.reverse.getD i 0)) bh (bF (by simp;rw[W.len];omega)) ?_ ?_
  ·walk_at"F";obtain⟨z,hz,rfl⟩:=gW hx;rw[length_map]at hz hi;walk_at"I";refine⟨_,rfl,a,dx,_,rfl,s1 _ _ q1,iJ _ _ _ (by decide) (by decide) (by decide),a,g,rfl,hG.same s1,W,_,rfl,_,_,rfl,rfl,qy rfl _ _ (ay.refl _) ?_ (by intro z;cases z)⟩;rw[getD_eq_getElem?_getD,List.getElem?_reverse hi,hz];rfl
  ·walk_at"r";have e:acc=(dual g).costs.map V.int:=by
    rw[bW hpair,aN,range_getD (l:=g.costs.reverse) (by simp) λz=>V.int (g.cost g.all-z),<-Jh W.len,map_map];rfl
   rw[e]at hacc;exact⟨D,g.n,_,rfl,hacc,λx H2 s2 hx=>k x H2 (s1.trans s2) hx⟩
def xG(C:Addr):Sp:=λvs H Q _=>∃(a p:Addr)(g:Game)(bs:List Nat),vs=[.ref a,.ref p]/\aZ C H a g/\GW g/\IL H p (bs.map ofNat)/\bs.length<=8/\(∀b∈bs,b<2^g.n)/\∀c H',ay H H'->aZ C H' c ⟨bs.length,(lK bs).map g.cost,[]⟩->Q (.ref c) H'
theorem M1(bs:List Nat):(lK bs).length=2^bs.length:=by unfold lK;rw[length_map,cb]
theorem nM(T:Txt K mg A F):aT P w K mg base gU 4 A.eI F.eI ["game","blocks"] (xG A.Game):=by
 refine T.iA.ok bE (λvs H Q E h=>?_) (λcdv Ar outer s H vs Q E hr h=>?_)
 ·obtain⟨a,p,g,bs,rfl,_⟩:=h;rfl
 ·obtain⟨a,p,g,bs,rfl,hG,W,hp,hb8,hbs,k⟩:=h
  refine⟨_,((ag (fC 2 bE.nd (bb (aa ao ae)))
   (ag (dF PassesOwn.never rfl (bp (pv 1)) (fO 3 bE.nd (Or.inr rfl))
   (ai (fC 2 bE.nd (aR j3 (pv 2) (du (own:=[("group",4)]) rfl bE.nd (bp (pv 2)) (oB bE) (λ_ _ _ _ _=>(fO 4 bE.nd (Or.inl rfl))) (λ_ _ _ _ _=>bC) (λ_ _ _ _ _=>(aR HR (pv 4) (pv 3))))))))
   (ai (aB (aw (fT T) hr T.gP T.dy.kp (gN T) az (aa (aL aK (by rfl) T.eO cC (aa (pv 1) ae)) (aa (du (own:=[("group",4)]) rfl bE.nd (bp (pv 2)) (oB bE) (λ_ _ _ _ _=>(fO 4 bE.nd (Or.inl rfl))) (λ_ _ _ _ _=>bC) (λ_ _ _ _ _=>(aU (si K rfl) (KR K rfl (pv 0) rfl) (pv 4) (λ_ _=>rfl)))) ae)))))))),?_⟩
  walk_at"j";have pl:∀i,(bs.take i).length<=8:=λi=>by rw[length_take];omega
  have bl:∀i,(lK (bs.take i)).length<=256:=λi=>by rw[M1];exact pow_le_pow_right (n:=2) (by decide) (pl i)
  refine⟨by show 1<=sizeLine;decide,λq hq=>?_⟩;have s0:ay H (upd H q (.lst [.int 0])):=ah hq;refine⟨_,rfl,p,rfl,⟨_,aH.of (s0 _ _ hp)⟩,d7 (aJ (xs:=(bs.map ofNat).map V.int)) (λi σ H'=>∃q' v3 v4,σ=[some (.ref a),some (.ref p),some (.ref q'),v3,v4]/\ay H H'/\IL H' q' ((lK (bs.take i)).map ofNat)) ⟨_,_,_,rfl,s0,af⟩ (λi σ H' _ ⟨_,_,_,_,s,_⟩=>aH.of (s _ _ hp)) ?_ ?_⟩
  ·rintro i x σ H1 H2 hi ⟨q',v3,v4,rfl,s1,hq1⟩ s2 hx;obtain⟨b,hb,rfl⟩:=kR hx;have hq2:=s2 _ _ hq1;refine⟨_,rfl,_,rfl,q',rfl,⟨_,aH.of hq2⟩,λD hD=>?_⟩;refine cq (aJ (xs:=((lK (bs.take i)).map ofNat).map V.int)) hD (λ_ s=>aH.of (s _ _ hq2)) (λ_=>true) (λj y _=>y=V.int (((lK (bs.take i)).getD j 0|||b:Nat):Int)) bh (bF (by simp;have:=bl i;omega)) ?_ ?_
   ·rintro j x H3 hj s3 hx _ Qn Qy qn qy;walk_at"G";walk_at"I";walk_at"A";rw[getD_eq_getElem?_getD,hz];exact congrArg V.int (Rk z b)
   ·intro H3 acc s3 hacc hpair;have e:acc=(((lK (bs.take i)).map λz=>z|||b).map ofNat).map V.int:=by
     rw[bW hpair,aN,range_getD (l:=lK (bs.take i)) (by simp) λz=>V.int ((z|||b:Nat):Int)];simp only[map_map];rfl
    rw[e]at hacc;refine⟨q',D,_,_,rfl,rfl,s3 _ _ hq2,hacc,?_,λr hr=>?_⟩
    ·have:=bl i;simp only[length_map];exact bF (by omega)
    ·refine⟨r,_,_,rfl,((s1.trans s2).trans s3).trans (ah hr),?_⟩;show upd H3 r _ r=_;rw[af,take_snoc hb,Lk,map_append,map_append]
  ·rintro σ H1 ⟨q',v3,v4,rfl,s1,hq1⟩;rw[length_map,length_map,take_length]at hq1;refine⟨_,rfl,p,_,rfl,.inl (aH.of (s1 _ _ hp)),_,rfl,q',rfl,⟨_,aH.of hq1⟩,λD hD=>?_⟩;refine cq (aJ (xs:=((lK bs).map ofNat).map V.int)) hD (λ_ s=>aH.of (s _ _ hq1)) (λ_=>true) (λj y _=>y=V.int (g.cost ((lK bs).getD j 0))) bh (bF (by simp;have:=bl bs.length;rw[take_length]at this;omega)) ?_ ?_
   ·rintro j x H2 hj s2 hx _ Qn Qy qn qy;walk_at"G";have hzl:z<2^g.n:=by
     have:=mem_of_getElem? hz;unfold lK at this;obtain⟨s,_,rfl⟩:=mem_map.mp this;exact RT hbs
    walk_at"I";refine⟨_,rfl,a,A.Game,dx,_,_,rfl,(s1.trans s2) _ _ q1,T.aA,T.aV,cx _ _ _,_,rfl,c,_,_,_,rfl,rfl,aH.of ((s1.trans s2) _ _ q2),iw (km W.len hzl),qy rfl _ _ (ay.refl _) ?_ (by intro z;cases z)⟩;rw[getD_eq_getElem?_getD,hz];rfl
   ·intro H2 acc s2 hacc hpair;have e:acc=((lK bs).map g.cost).map V.int:=by
     rw[bW hpair,aN,range_getD (l:=lK bs) (by simp) λz=>V.int (g.cost z),map_map];rfl
    rw[e]at hacc;refine⟨D,bs.length,_,?_,hacc,λx H3 s3 hx=>k x H3 ((s1.trans s2).trans s3) hx⟩;show [V.int _,_]=_;simp only[length_map]
def AM(C:Addr):Sp:=λvs H Q _=>∃(a p:Addr)(g:Game)(r:List Nat),vs=[.ref a,.ref p]/\aZ C H a g/\GW g/\IL H p (r.map ofNat)/\r.length<=8/\(∀x∈r,x<g.n)/\∀c H',ay H H'->aZ C H' c (renamed g r)->Q (.ref c) H'
theorem An(T:Txt K mg A F):aT P w K mg base gU 5 A.gJ F.gJ ["game","regions"] (AM A.Game):=by
 refine T.l9.ok iP (λvs H Q E h=>?_) (λcdv Ar outer s H vs Q E hr h=>?_)
 ·obtain⟨a,p,g,r,rfl,_⟩:=h;rfl
 ·obtain⟨a,p,g,r,rfl,hG,W,hp,hr8,hrn,k⟩:=h;refine⟨_,((ai (aB (aw (nM T) hr T.oP T.iA.kp (oF T) az (aa (pv 0) (aa (du (own:=[("region",2)]) rfl iP.nd (bp (pv 1)) (oB iP) (λ_ _ _ _ _=>(fO 2 iP.nd (Or.inl rfl))) (λ_ _ _ _ _=>bC) (λ_ _ _ _ _=>(aw (sL T) hr T.zb T.vi.kp (yN T) az (aa (pv 2) ae)))) ae)))))),?_⟩;have n8:=W.n8;refine⟨_,rfl,_,rfl,p,rfl,⟨_,aH.of hp⟩,λD hD=>?_⟩;refine cq (aJ (xs:=(r.map ofNat).map V.int)) hD (λ_ s=>aH.of (s _ _ hp)) (λ_=>true) (λj y _=>y=V.int ((2^(r.getD j 0):Nat):Int)) bh (bF (by simp;omega)) ?_ ?_
  ·rintro j x H1 hj s1 hx _ Qn Qy qn qy;walk_at"G";have zn:=hrn z (mem_of_getElem? hz);walk_at"I";refine⟨_,rfl,z,rfl,by omega,qy rfl _ _ (ay.refl _) ?_ (by intro z;cases z)⟩;rw[getD_eq_getElem?_getD,hz];rfl
  ·walk_at"r";have e:acc=((r.map λx=>2^x).map ofNat).map V.int:=by
    rw[bW hpair,aN,range_getD (l:=r) (by simp) λz=>V.int ((2^z:Nat):Int)];simp only[map_map];rfl
   rw[e]at hacc;refine⟨a,D,g,r.map λx=>2^x,rfl,hG.same s1,W,hacc,by simpa using hr8,λb hb=>?_,λx H2 s2 hx=>k x H2 (s1.trans s2) ?_⟩
   ·obtain⟨x,hx,rfl⟩:=mem_map.mp hb;exact Nat.pow_lt_pow_right (by decide) (hrn x hx)
   ·rw[length_map,DP]at hx;exact hx
theorem B2{n m i:Nat}(hi:i<n)(h:Vbedah.has m i=true):Vbedah.has m ((members n m).headD 0)=true/\(members n m).headD 0<=i/\(members n m).headD 0<n:=by
 have hmem:i∈members n m:=bM.mpr ⟨hi,h⟩;obtain⟨f,r,e⟩:=exists_cons_of_ne_nil (List.ne_nil_of_mem hmem);have pw:(members n m).Pairwise (λa b=>a<b):=List.pairwise_lt_range.sublist List.filter_sublist;have ef:(members n m).headD 0=f:=by rw[e];rfl
 have hf:f∈members n m:=by rw[e];exact mem_cons_self
 rw[ef];refine⟨(bM.mp hf).2,?_,(bM.mp hf).1⟩;rw[e]at pw hmem;rcases mem_cons.mp hmem with q|q
 ·omega
 ·have:=(pairwise_cons.mp pw).1 i q;omega
def mP(n m:Nat)(i:Nat):Bool:=i==(members n m).headD 0|| !(Vbedah.has m i)
theorem NV{n m i:Nat}(hi:i<n)(h:Vbedah.has m i=true):m∈((List.range i).filter (mP n m)).map (jq m)↔(members n m).headD 0<i:=by
 obtain⟨h1,h2,h3⟩:=B2 hi h;constructor
 ·intro hm;obtain⟨j,hj,e⟩:=mem_map.mp hm;obtain⟨hj1,hj2⟩:=mem_filter.mp hj;have hj1:=mem_range.mp hj1;unfold mP at hj2;cases q:Vbedah.has m j with
  |true=>
   rw[q]at hj2;have:j=(members n m).headD 0:=by simpa using hj2
   omega
  |false=>
   unfold jq at e;rw[if_neg (by rw[q];simp)]at e;exfalso;rw[<-e]at q;have:Vbedah.has (2^j) j=true:=testBit_two_pow_self;rw[this]at q;cases q
 ·intro hlt;refine mem_map.mpr ⟨(members n m).headD 0,mem_filter.mpr ⟨mem_range.mpr hlt,?_⟩,?_⟩
  ·unfold mP;simp
  ·unfold jq;rw[if_pos h1]
theorem PX(m:Nat)(bs:List Nat):To (V.int (m:Int)) ((bs.map ofNat).map V.int)=decide (m∈bs):=by
 unfold To;rw[Bool.eq_iff_iff,any_eq_true,decide_eq_true_iff];constructor
 ·rintro⟨y,hy,e⟩;rw[ym]at hy;obtain⟨b,hb,rfl⟩:=mem_map.mp hy;have:(b:Int)=(m:Int):=by simpa[Ji]using e
  have:b=m:=by omega
  rw[<-this];exact hb
 ·intro h;refine⟨V.int (m:Int),?_,BH _⟩;rw[ym];exact mem_map.mpr ⟨m,h,rfl⟩
def CW(C:Addr):Sp:=λvs H Q _=>∃(a:Addr)(g:Game)(m:Nat),vs=[.ref a,.int m]/\aZ C H a g/\GW g/\m<2^g.n/\m≠0/\∀c H',ay H H'->aZ C H' c (Vbedah.merged g m)->Q (.ref c) H'
theorem Cu(T:Txt K mg A F):aT P w K mg base gU 5 A.ig F.ig ["game","merged"] (CW A.Game):=by
 refine T.oq.ok mN (λvs H Q E h=>?_) (λcdv Ar outer s H vs Q E hr h=>?_)
 ·obtain⟨a,g,m,rfl,_⟩:=h;rfl
 ·obtain⟨a,g,m,rfl,hG,W,hm,m0,k⟩:=h
  refine⟨_,((ag (fC 2 mN.nd (bb ae))
   (ag (dF PassesOwn.never rfl (cW rfl T.cQ (aa (aQ (pv 0) rfl) ae)) (fO 3 mN.nd (Or.inl rfl))
   (ai (eP (oz (iq (aw (mw T) hr T.pT T.ly.kp (pH T) az (aa (pv 1) (aa (pv 3) ae)))))
   (ai (aM (nR PySem.F.plainAttrs_list PySem.F.slot_list_append PySem.F.type_list_append i6 (pv 2) (aa (aw (sL T) hr T.zb T.vi.kp (yN T) az (aa (pv 3) ae)) ae))))
   (ai (eP (bG F2 (pv 1) (pv 2) (by rfl))
   (ai (aM (nR PySem.F.plainAttrs_list PySem.F.slot_list_append PySem.F.type_list_append i6 (pv 2) (aa (pv 1) ae))))
   bL)))))
   (ai (aB (aw (nM T) hr T.oP T.iA.kp (oF T) az (aa (pv 0) (aa (pv 2) ae)))))))),?_⟩
  have n8:=W.n8;walk_at"j";have fl:∀i,((List.range i).filter (mP g.n m)).length<=i:=λi=>le_trans (length_filter_le _ _) (by simp);refine⟨zero_le _,λD hD=>?_⟩;have s0:ay H (upd H D (.lst [])):=ah hD;walk_at"x";refine d7 cp (λi σ H'=>∃v3,σ=[some (.ref a),some (.int m),some (.ref D),v3]/\jF D H H'/\IL H' D ((((List.range i).filter (mP g.n m)).map (jq m)).map ofNat)) ⟨_,rfl,ay.but s0,af⟩ (λ_ _ _ _ _=>trivial) ?_ ?_
  ·rintro i x σ H1 H2 hi ⟨v3,rfl,b1,hD1⟩ s2 rfl;have hin:i<g.n:=by omega
   have hD2:=s2 _ _ hD1;have yes:mP g.n m i=true->(((List.range i).filter (mP g.n m)).map (jq m))++[jq m i]=((List.range (i+1)).filter (mP g.n m)).map (jq m):=λe=>by
    rw[gX,if_pos e,map_append];rfl
   have len:((((List.range i).filter (mP g.n m)).map (jq m)).map ofNat|>.map V.int).length<sizeLine:=by
    simp only[length_map];exact lt_of_le_of_lt (fl i) (lt_of_lt_of_le (show i<9 by omega) (by decide))
   have app:∀z,mP g.n m i=true->jq m i=z->IL (upd H2 D (.lst ((((((List.range i).filter (mP g.n m)).map (jq m)).map ofNat).map V.int)++[V.int (z:Nat)]))) D ((((List.range (i+1)).filter (mP g.n m)).map (jq m)).map ofNat):=λz e ez=>by
    show upd H2 D _ D=_;rw[af,<-yes e,ez,map_append,map_append];rfl
   refine⟨_,rfl,_,rfl,m,i,rfl,by omega,_,rfl,?_⟩;walk_at"i"
   ·have hh:Vbedah.has m i=false:=by simpa using hh
    refine⟨_,rfl,.inl ⟨rfl,_,aH.of hD2⟩,_,rfl,i,rfl,by omega,D,_,_,rfl,rfl,hD2,len,?_⟩;exact⟨_,rfl,(b1.trans (ay.but s2)).trans jF.upd,app _ (by unfold mP;rw[hh];simp) (by unfold jq;rw[if_neg (by rw[hh];simp)])⟩
   ·have hh:Vbedah.has m i=true:=by simpa using hh
    obtain⟨l1,l2,l3⟩:=B2 hin hh;have mi:=NV hin hh;refine⟨_,rfl,_,rfl,D,_,rfl,.inl (aH.of hD2),rfl,ye _,_,rfl,?_⟩;rw[PX];refine eJ (λhn=>?_) λhn=>?_
    ·have hn:¬m∈((List.range i).filter (mP g.n m)).map (jq m):=by simpa using hn
     rw[mi]at hn;have ei:i=(members g.n m).headD 0:=by omega
     refine⟨_,rfl,.inl ⟨rfl,_,aH.of hD2⟩,_,rfl,D,_,_,rfl,rfl,hD2,len,?_⟩;exact⟨_,rfl,(b1.trans (ay.but s2)).trans jF.upd,app _ (by unfold mP;rw[<-ei];simp) (by unfold jq;rw[if_pos hh])⟩
    ·have hn:m∈((List.range i).filter (mP g.n m)).map (jq m):=by
      by_cases q:m∈((List.range i).filter (mP g.n m)).map (jq m)
      ·exact q
      ·exfalso;apply hn;simp at q⊢;exact q
     rw[mi]at hn;refine⟨_,rfl,b1.trans (ay.but s2),?_⟩;have e:mP g.n m i=false:=by
      unfold mP;rw[hh];have:¬i=(members g.n m).headD 0:=by omega
      rw[beq_eq_false_iff_ne.mpr this];rfl
     rw[gX,if_neg (by rw[e];simp)];exact hD2
  ·rintro σ H1 ⟨v3,rfl,b1,hD1⟩;have sH:ay H H1:=λb o e=>b1 b o (aq e hD) e;rw[show((g.n:Int).toNat)=g.n by omega]at hD1;refine⟨_,rfl,_,rfl,a,D,g,((List.range g.n).filter (mP g.n m)).map (jq m),rfl,hG.same sH,W,hD1,by rw[length_map];have:=fl g.n;omega,λb hb=>?_,λx H2 s2 hx=>k x H2 (sH.trans s2) ?_⟩
   ·obtain⟨j,hj,rfl⟩:=mem_map.mp hb;have hj:=mem_range.mp (mem_filter.mp hj).1;unfold jq
    split
    ·exact hm
    ·exact Nat.pow_lt_pow_right (by decide) hj
   ·have e:=FP (g:=g) hm m0;rw[length_map]at hx;have e2:(⟨((List.range g.n).filter (mP g.n m)).length,(lK (((List.range g.n).filter (mP g.n m)).map (jq m))).map g.cost,[]⟩:Game)=Vbedah.merged g m:=by
     have:Vbedah.merged g m=⟨(Vbedah.merged g m).n,(Vbedah.merged g m).costs,(Vbedah.merged g m).hours⟩:=rfl;rw[this,<-e];rfl
    rw[e2]at hx;exact hx
def N4(ds:List (List Nat)):List (List Int):=ds.map λr=>r.map ofNat
theorem ux{ds:List (List Nat)}{i:Nat}{xs:List Int}(h:(N4 ds)[i]?=some xs):∃r,ds[i]?=some r/\xs=r.map ofNat:=dq h
theorem GG{t r:List Nat}{h:Nat}(ht:t.length=h)(hr:r.length=h):((t.map ofNat).zip (r.map ofNat)).map (λx=>x.1+x.2)=((List.range h).map λi=>t.getD i 0+r.getD i 0).map ofNat:=by
 apply ext_getElem?;intro i;rw[getElem?_map,getElem?_map,getElem?_map];by_cases q:i<h
 ·rw[getElem?_range q];have gt:∀l:List Nat,l.length=h->(l.map ofNat)[i]?=some ((l.getD i 0:Nat):Int):=λl hl=>by
   rw[getElem?_map,getD_eq_getElem?_getD,getElem?_eq_getElem (by omega)];rfl
  have e:((t.map ofNat).zip (r.map ofNat))[i]?=some (((t.getD i 0:Nat):Int),((r.getD i 0:Nat):Int)):=by
   rw[List.getElem?_zip_eq_some];exact⟨gt t ht,gt r hr⟩
  rw[e];rfl
 ·rw[getElem?_eq_none (by simp;omega),getElem?_eq_none (by simp;omega)];rfl
structure DW(ds:List (List Nat))(h:Nat):Prop where
 n1:1<=ds.length
 n8:ds.length<=8
 h1:1<=h
 TV:h<=24
 row:∀r∈ds,r.length=h
theorem DW.hc{ds:List (List Nat)}{h:Nat}(w:DW ds h):hourCount ds=h:=by
 unfold hourCount;cases ds with
 |nil=>have:=w.n1;simp at this
 |cons r rs=>exact w.row r mem_cons_self
theorem B7{H:Hp}{ps:List Addr}{xss:List (List Int)}{i:Nat}{x:V}(h2:Paired (λq xs=>IL H q xs) ps xss)(h:(ps.map V.ref)[i]?=some x):∃q xs,x= .ref q/\xss[i]?=some xs/\IL H q xs:=by
 obtain⟨q,hq,rfl⟩:=dq h;obtain⟨xs,h3,h4⟩:=i8 h2 hq;exact⟨q,xs,rfl,h3,h4⟩
def Gk:Sp:=λvs H Q _=>∃(p:Addr)(ds:List (List Nat))(h:Nat),vs=[.ref p]/\DW ds h/\LL H p (N4 ds)/\∀H',ay H H'->Q (.int (((List.range h).map (demand ds ds.length (2^ds.length-1))).findIdx λx=>x==greatest ((List.range h).map (demand ds ds.length (2^ds.length-1))):Nat)) H'
def rN(ds:List (List Nat))(i t:Nat):Nat:=((List.range i).map λj=>(ds.getD j []).getD t 0).sum
theorem G4(ds:List (List Nat))(i t:Nat):rN ds (i+1) t=rN ds i t+(ds.getD i []).getD t 0:=by
 unfold rN;rw[range_succ,map_append,sum_append];simp
theorem LA{l:List Nat}{m j:Nat}(h1:l[j]?=some m)(h2:∀k z,k<j->l[k]?=some z->z≠m):l.findIdx (λx=>x==m)=j:=by
 obtain⟨hjl,hje⟩:=(List.getElem?_eq_some_iff.mp h1)
 rw[List.findIdx_eq hjl];refine⟨by rw[hje];simp,λk hk=>?_⟩;have hkl:k<l.length:=by omega
 have:=h2 k l[k] hk (getElem?_eq_getElem hkl);simpa using this
theorem FZ(T:Txt K mg A F):aT P w K mg base gU 2 A.j4 F.j4 ["demands"] Gk:=by
 refine T.rX.ok iD (λvs H Q E h=>?_) (λcdv Ar outer s H vs Q E hr h=>?_)
 ·obtain⟨p,ds,h,rfl,_⟩:=h;rfl
 ·obtain⟨p,ds,h,rfl,dw,⟨ps,h1,h2⟩,k⟩:=h
  refine⟨_,((ag (kE (i:=1) (own:=[("demand",3)]) rfl iD.nd rfl rfl (nX rfl rfl rfl (by decide+kernel)) (bp (aU aE (pv 0) ao (λ_ _=>rfl))) (oB iD) (λ_ _ _ _ _=>(fO 3 iD.nd (Or.inl rfl))) (λ_ _ _ _ _=>bC) (λ_ _ _ _ _=>ao))
   (ag (dF PassesOwn.never rfl (bp (pv 0)) (fO 2 iD.nd (Or.inl rfl))
   (ai (fC 1 iD.nd (aw (sN T) hr T.vU T.ma.kp (vK T) az (aa (pv 1) (aa (pv 2) ae))))))
   (ai (aB (nR PySem.F.plainAttrs_list PySem.F.slot_list_index PySem.F.type_list_index HH (pv 1) (aa (aL (BD rfl) (by rfl) T.GO By (aa (pv 1) ae)) ae))))))),?_⟩
  have n1:=dw.n1;have n8:=dw.n8;have hh1:=dw.h1;have hh24:=dw.TV;have hpl:ps.length=ds.length:=by rw[h2.length];unfold N4;simp
  obtain⟨r0,e0⟩:∃r0,ds[0]?=some r0:=⟨ds[0],by simp⟩
  obtain⟨q0,eq0⟩:∃q0,ps[0]?=some q0:=⟨ps[0]'(by omega),by simp⟩
  obtain⟨x0,ex0,hq0⟩:=i8 h2 eq0;obtain⟨r0',er0,rfl⟩:=ux ex0;have rl0:=dw.row r0' (mem_of_getElem? er0);refine⟨_,rfl,p,_,_,_,rfl,rfl,aH.of h1,at_of (j:=0) rfl (by rw[getElem?_map,eq0];rfl),q0,rfl,⟨_,aH.of hq0⟩,λD hD=>?_⟩;refine cq (aJ (xs:=(r0'.map ofNat).map V.int)) hD (λ_ s=>aH.of (s _ _ hq0)) (λ_=>true) (λ_ y _=>y=V.int 0) bh (bF (by simp;omega)) ?_ ?_
  ·walk_at"F";walk_at"u"
  walk_at"r";have eacc:acc=(((List.range h).map λt=>rN ds 0 t).map ofNat).map V.int:=by
   rw[bJ hpair,aN];simp only[length_map,rl0,map_map];rfl
  rw[eacc]at hacc;refine⟨_,rfl,p,rfl,⟨_,aH.of (s1 _ _ h1)⟩,d7 (aJ (xs:=ps.map V.ref)) (λi σ H'=>∃q' v2 v3,σ=[some (.ref p),some (.ref q'),v2,v3]/\ay H H'/\IL H' q' (((List.range h).map λt=>rN ds i t).map ofNat)) ⟨_,_,_,rfl,s1,hacc⟩ (λi σ H' _ ⟨_,_,_,_,s,_⟩=>aH.of (s _ _ h1)) ?_ ?_⟩
  ·rintro i x σ H2 H3 hi ⟨q',v2,v3,rfl,s2,hq2⟩ s3 hx;obtain⟨q,xs,rfl,hxs,hq⟩:=B7 h2 hx;obtain⟨r,er,rfl⟩:=ux hxs;have rl:=dw.row r (mem_of_getElem? er);refine⟨_,rfl,_,rfl,q',q,_,_,rfl,s3 _ _ hq2,(s2.trans s3) _ _ hq,by simp;omega,λu H4 s4 nu hu=>?_⟩;refine⟨u,_,_,rfl,(s2.trans s3).trans s4,?_⟩;rw[GG (by simp) rl]at hu;have e:((List.range h).map λi_1=>((List.range h).map λt=>rN ds i t).getD i_1 0+r.getD i_1 0)=(List.range h).map λt=>rN ds (i+1) t:=map_congr_left λt ht=>by
    have ht:=mem_range.mp ht;rw[G4,getD_eq_getElem?_getD,getElem?_map,getElem?_range ht,getD_eq_getElem?_getD (l:=ds),er];rfl
   rw[e]at hu;exact hu
  ·rintro σ H2 ⟨q',v2,v3,rfl,s2,hq2⟩;rw[length_map,hpl]at hq2;have ed:((List.range h).map λt=>rN ds ds.length t)=(List.range h).map (demand ds ds.length (2^ds.length-1)):=map_congr_left λt _=>(Je ds ds.length t).symm;rw[ed]at hq2;have kk:=k H2 s2;generalize(List.range h).map (demand ds ds.length (2^ds.length-1))=l at hq2 kk ed;have ll:l.length=h:=by rw[<-ed];simp
   refine⟨_,rfl,.inl ⟨rfl,_,aH.of hq2⟩,_,rfl,q',_,rfl,aH.of hq2,by simp;omega,λmx hm hup=>?_⟩;obtain⟨m,hml,rfl⟩:=mem_map.mp hm;have eg:greatest l=m:=yW hml λx hx=>by
    have:=hup (ofNat x) (mem_map_of_mem hx);exact ofNat_le.mp this
   obtain⟨j,hj,hjm⟩:=BV (l.map ofNat) (ofNat m) hm;have hj':l[j]?=some m:=by
    rw[getElem?_map]at hj;cases e:l[j]? with
    |none=>rw[e]at hj;cases hj
    |some z=>
     rw[e]at hj;have:ofNat z=ofNat m:=Option.some.inj hj;rw[ofNat.inj this]
   refine⟨q',_,_,j,_,rfl,rfl,aH.of hq2,rfl,ye _,(by rw[getElem?_map,hj];rfl),BH _,?_,?_⟩
   ·intro i z' hij hz';obtain⟨v,hv,rfl⟩:=gW hz';exact Nm (hjm i v hij hv)
   ·rw[eg,LA hj' λi z hij hz=>λe=>hjm i (ofNat z) hij (by rw[getElem?_map,hz];rfl) (by rw[e])]at kk;exact kk
def wj(C:Addr):Sp:=λvs H Q _=>∃(p:Addr)(ds:List (List Nat))(h:Nat),vs=[.ref p]/\DW ds h/\LL H p (N4 ds)/\∀a H',ay H H'->aZ C H' a (ofHours ds.length ds)->Q (.ref a) H'
theorem vY(T:Txt K mg A F):aT P w K mg base gU 3 A.dA F.dA ["demands"] (wj A.Game):=by
 refine T.jk.ok aX (λvs H Q E h=>?_) (λcdv Ar outer s H vs Q E hr h=>?_)
 ·obtain⟨p,ds,h,rfl,_⟩:=h;rfl
 ·obtain⟨p,ds,h,rfl,dw,⟨ps,h1,h2⟩,k⟩:=h
  refine⟨_,((ag (fC 1 aX.nd (bb (aa (du (own:=[("demand",3)]) rfl aX.nd (bp (aU aE (pv 0) ao (λ_ _=>rfl))) (oB aX) (λ_ _ _ _ _=>(fO 3 aX.nd (Or.inl rfl))) (λ_ _ _ _ _=>bC) (λ_ _ _ _ _=>ao)) ae)))
   (ag (dF PassesOwn.never rfl (bp (pv 0)) (fO 2 aX.nd (Or.inr rfl))
   (ai (fC 1 aX.nd (aR j3 (pv 1) (du (own:=[("total",4)]) rfl aX.nd (bp (pv 1)) (oB aX) (λ_ _ _ _ _=>(fO 4 aX.nd (Or.inl rfl))) (λ_ _ _ _ _=>bC) (λ_ _ _ _ _=>(aw (sN T) hr T.vU T.ma.kp (vK T) az (aa (pv 4) (aa (pv 2) ae)))))))))
   (ai (aB (KS T.KL (w6 T) (hr.mono (by decide)) rfl T.NA (yM T) .nil az (aa (aL aK (by rfl) T.eO cC (aa (pv 0) ae)) (aa (du (own:=[("total",4)]) rfl aX.nd (bp (pv 1)) (oB aX) (λ_ _ _ _ _=>(fO 4 aX.nd (Or.inl rfl))) (λ_ _ _ _ _=>bC) (λ_ _ _ _ _=>(aL (Pt K rfl rfl) (by rfl) T.GO By (aa (pv 4) ae)))) (aa (pv 0) ae))))))))),?_⟩
  have n1:=dw.n1;have n8:=dw.n8;have hh1:=dw.h1;have hh24:=dw.TV;have hpl:ps.length=ds.length:=by rw[h2.length];unfold N4;simp
  obtain⟨q0,eq0⟩:∃q0,ps[0]?=some q0:=⟨ps[0]'(by omega),by simp⟩
  obtain⟨x0,ex0,hq0⟩:=i8 h2 eq0;obtain⟨r0',er0,rfl⟩:=ux ex0;have rl0:=dw.row r0' (mem_of_getElem? er0);have tlen:∀i,i<=8->(ee ds h i).length<=256:=λi hi=>by
   unfold ee;rw[length_map,cb];exact pow_le_pow_right (n:=2) (by decide) hi
  have trow:∀i t,t∈ee ds h i->t.length=h:=λi t ht=>by
   unfold ee at ht;obtain⟨s,_,rfl⟩:=mem_map.mp ht;simp
  refine⟨_,rfl,p,_,_,_,rfl,rfl,aH.of h1,at_of (j:=0) rfl (by rw[getElem?_map,eq0];rfl),q0,rfl,⟨_,aH.of hq0⟩,λD hD=>?_⟩;refine cq (aJ (xs:=(r0'.map ofNat).map V.int)) hD (λ_ s=>aH.of (s _ _ hq0)) (λ_=>true) (λ_ y _=>y=V.int 0) bh (bF (by simp;omega)) ?_ ?_
  ·walk_at"F";walk_at"u"
  walk_at"r";have eacc:acc=(((List.range h).map λ_=>0).map ofNat).map V.int:=by
   rw[bJ hpair,aN];simp only[length_map,rl0,map_map];rfl
  rw[eacc]at hacc;refine⟨by show 1<=sizeLine;decide,λt ht=>?_⟩;have s01:ay H (upd H1 t (.lst [.ref D])):=s1.trans (ah ht);refine⟨_,rfl,p,rfl,⟨_,aH.of (s01 _ _ h1)⟩,d7 (aJ (xs:=ps.map V.ref)) (λi σ H'=>∃q' v2 v3 v4,σ=[some (.ref p),some (.ref q'),v2,v3,v4]/\ay H H'/\LL H' q' (N4 (ee ds h i))) ⟨t,_,_,_,rfl,s01,[D],af,?_⟩ (λi σ H' _ ⟨_,_,_,_,_,s,_⟩=>aH.of (s _ _ h1)) ?_ ?_⟩
  ·rw[Iz];exact .cons ((ah ht) _ _ hacc) .nil
  ·rintro i x σ H2 H3 hi ⟨q',v2,v3,v4,rfl,s2,ps2,hq2,hp2⟩ s3 hx;rw[length_map,hpl]at hi;obtain⟨q,xs,rfl,hxs,hq⟩:=B7 h2 hx;obtain⟨r,er,rfl⟩:=ux hxs;have rl:=dw.row r (mem_of_getElem? er);have p2l:ps2.length=(ee ds h i).length:=by rw[hp2.length];unfold N4;simp
   have tl:=tlen i (by omega);have hq3:=s3 _ _ hq2;refine⟨_,rfl,_,rfl,q',rfl,⟨_,aH.of hq3⟩,λD2 hD2=>?_⟩;refine cq (aJ (xs:=ps2.map V.ref)) hD2 (λ_ s=>aH.of (s _ _ hq3)) (λ_=>true) (λj y H=>∃Tt,y= .ref Tt/\H Tt=some (.lst ((((List.range h).map λi_1=>((ee ds h i).getD j []).getD i_1 0+r.getD i_1 0).map ofNat).map V.int))) (λj y H H' hy b hh=>C0 (f:=λj=>(((List.range h).map λi_1=>((ee ds h i).getD j []).getD i_1 0+r.getD i_1 0).map ofNat).map V.int) j y H H' hy b hh) (bF (by simp;omega)) ?_ ?_
   ·rintro j x H4 hj s4 hx ⟨acc4,hacc4⟩ Qn Qy qn qy;obtain⟨u,us,rfl,hus,hu⟩:=B7 hp2 hx;obtain⟨tr,etr,rfl⟩:=ux hus;have trl:=trow i tr (mem_of_getElem? etr);have sH:=(s2.trans s3).trans s4;walk_at"I";refine⟨_,rfl,_,rfl,u,q,_,_,rfl,(s3.trans s4) _ _ hu,sH _ _ hq,by simp;omega,λz H5 s5 nz hz=>qy rfl _ _ s5 ⟨z,rfl,?_⟩ (sC hacc4 nz)⟩;rw[GG trl rl]at hz;rw[show(ee ds h i).getD j []=tr by rw[getD_eq_getElem?_getD,etr];rfl];exact hz
   ·intro H4 acc4 s4 hacc4 hpair4;rw[aN]at hpair4;obtain⟨ps3,e3,h3⟩:=uA (f:=λj=>((List.range h).map λi_1=>((ee ds h i).getD j []).getD i_1 0+r.getD i_1 0).map ofNat) hpair4;rw[length_map,p2l,range_getD (l:=ee ds h i) rfl λt=>((List.range h).map λi_1=>t.getD i_1 0+r.getD i_1 0).map ofNat]at h3;have p3l:ps3.length=(ee ds h i).length:=by rw[h3.length];simp
    refine⟨q',D2,_,acc4,rfl,rfl,s4 _ _ hq3,hacc4,by rw[e3,length_map,length_map];exact bF (by omega),λz hz=>?_⟩;refine⟨z,_,_,_,rfl,((s2.trans s3).trans s4).trans (ah hz),ps2++ps3,by rw[af,e3,map_append],?_⟩;rw[Iy];unfold N4;rw[map_append,map_map];have er':ds.getD i []=r:=by rw[getD_eq_getElem?_getD,er];rfl
    rw[er'];exact Paired.app (bc hp2 λ_ _ _ _ e=>(ah hz) _ _ (s4 _ _ (s3 _ _ e))) (bc h3 λ_ _ _ _ e=>(ah hz) _ _ e)
  ·rintro σ H2 ⟨q',v2,v3,v4,rfl,s2,ps2,hq2,hp2⟩;rw[length_map,hpl]at hp2;have p2l:ps2.length=(ee ds h ds.length).length:=by rw[hp2.length];unfold N4;simp
   have tl:=tlen ds.length n8;refine⟨_,rfl,p,_,rfl,.inl (aH.of (s2 _ _ h1)),_,rfl,q',rfl,⟨_,aH.of hq2⟩,λD2 hD2=>?_⟩;refine cq (aJ (xs:=ps2.map V.ref)) hD2 (λ_ s=>aH.of (s _ _ hq2)) (λ_=>true) (λj y _=>y=V.int (ofNat (greatest ((ee ds h ds.length).getD j [])))) bh (bF (by simp;omega)) ?_ ?_
   ·rintro j x H4 hj s4 hx _ Qn Qy qn qy;obtain⟨u,us,rfl,hus,hu⟩:=B7 hp2 hx;obtain⟨tr,etr,rfl⟩:=ux hus;have trl:=trow _ tr (mem_of_getElem? etr);walk_at"I";refine⟨_,rfl,u,_,rfl,aH.of (s4 _ _ hu),by simp;omega,λmx hm hup=>qy rfl _ _ (ay.refl _) ?_ (by intro z;cases z)⟩;obtain⟨m,hml,rfl⟩:=mem_map.mp hm;rw[show(ee ds h ds.length).getD j []=tr by rw[getD_eq_getElem?_getD,etr];rfl];rw[yW hml λx hx=>ofNat_le.mp (hup (ofNat x) (mem_map_of_mem hx))]
   ·intro H4 acc4 s4 hacc4 hpair4;have e4:acc4=(ofHours ds.length ds).costs.map V.int:=by
     rw[bW hpair4,aN,length_map,p2l,range_getD (l:=ee ds h ds.length) rfl λt=>V.int (ofNat (greatest t))];show _=((Vbedah.groups ds.length).map λs=>ofNat (greatest ((List.range (hourCount ds)).map (demand ds ds.length s)))).map V.int;unfold ee;rw[dw.hc,map_map,map_map];rfl
    rw[e4]at hacc4;refine⟨_,rfl,?_⟩;intro x dx nx nd ne;have s24:=s2.trans s4;refine⟨x,dx,D2,ds.length,.ref p,?_,af,rfl,?_⟩
    ·show [V.ref x,V.int _,_,_]=_;rw[length_map,hpl]
    have s5:ay H4 (upd (upd (upd H4 dx (.own x)) x (.ins A.Game dx [])) x (.ins A.Game dx (gf ds.length D2 (.ref p)))):=ay.made nx nd λb o e hb=>by rw[ak hb];exact e
    refine k x _ (s24.trans s5) ⟨dx,D2,.ref p,af,s5 _ _ hacc4,.inr ⟨p,rfl,?_,LL.same (s24.trans s5) ⟨ps,h1,h2⟩⟩⟩;intro e;have:ds=[]:=e;rw[this]at n1;simp at n1
theorem dE(T:Txt K mg A F):aT P w K mg base gU 1 A.gn F.gn ["self","number"] (Uk K):=by
 refine T.cH.ok Aw (λvs H Q E h=>?_) (λcdv Ar outer s H vs Q E hr h=>?_)
 ·obtain⟨e,C,t,n,rfl,_⟩:=h;rfl
 ·obtain⟨e,C,t,n,rfl,he,xc,k⟩:=h;refine⟨_,ai (Qp (pv 0) (pv 1) rfl),?_⟩;exact⟨_,rfl,_,rfl,e,C,t,rfl,he,xc,λdx h1 h2=>k dx h1 h2⟩
theorem z6(T:Txt K mg A F):aT P w K mg base gU 2 A.gh F.gh ["self"] (Im K (-1)):=by
 refine T.rO.ok As (λvs H Q E h=>?_) (λcdv Ar outer s H vs Q E hr h=>?_)
 ·obtain⟨e,C,t,rfl,_⟩:=h;rfl
 ·obtain⟨e,C,t,rfl,he,xc,k⟩:=h;obtain⟨mc,rd,fc⟩:=T.iY;walk_at"f";walk_at"k"
theorem Cm(T:Txt K mg A F):aT P w K mg base gU 2 A.g7 F.g7 ["self"] (Im K (-2)):=by
 refine T.vh.ok CP (λvs H Q E h=>?_) (λcdv Ar outer s H vs Q E hr h=>?_)
 ·obtain⟨e,C,t,rfl,_⟩:=h;rfl
 ·obtain⟨e,C,t,rfl,he,xc,k⟩:=h;obtain⟨mc,rd,fc⟩:=T.iY;walk_at"f";walk_at"k"
theorem uW(T:Txt K mg A F):aT P w K mg base gU 2 A.cV F.cV ["self"] (Im K (-3)):=by
 refine T.lP.ok va (λvs H Q E h=>?_) (λcdv Ar outer s H vs Q E hr h=>?_)
 ·obtain⟨e,C,t,rfl,_⟩:=h;rfl
 ·obtain⟨e,C,t,rfl,he,xc,k⟩:=h;obtain⟨mc,rd,fc⟩:=T.iY;walk_at"f";walk_at"k"
theorem cy(T:Txt K mg A F):aT P w K mg base gU 2 A.fE F.fE ["self"] (Im K (-4)):=by
 refine T.qw.ok yA (λvs H Q E h=>?_) (λcdv Ar outer s H vs Q E hr h=>?_)
 ·obtain⟨e,C,t,rfl,_⟩:=h;rfl
 ·obtain⟨e,C,t,rfl,he,xc,k⟩:=h;obtain⟨mc,rd,fc⟩:=T.iY;walk_at"f";walk_at"k"
theorem qF(T:Txt K mg A F):aT P w K mg base gU 2 A.gk F.gk ["self"] (Im K (-5)):=by
 refine T.rQ.ok Av (λvs H Q E h=>?_) (λcdv Ar outer s H vs Q E hr h=>?_)
 ·obtain⟨e,C,t,rfl,_⟩:=h;rfl
 ·obtain⟨e,C,t,rfl,he,xc,k⟩:=h;obtain⟨mc,rd,fc⟩:=T.iY;walk_at"f";walk_at"k"
theorem w8(T:Txt K mg A F):aT P w K mg base gU 2 A.eA F.eA ["self"] (Im K (-6)):=by
 refine T.oI.ok xy (λvs H Q E h=>?_) (λcdv Ar outer s H vs Q E hr h=>?_)
 ·obtain⟨e,C,t,rfl,_⟩:=h;rfl
 ·obtain⟨e,C,t,rfl,he,xc,k⟩:=h;obtain⟨mc,rd,fc⟩:=T.iY;walk_at"f";walk_at"k"
theorem sF(T:Txt K mg A F):aT P w K mg base gU 2 A.cF F.cF ["self"] (Im K (-7)):=by
 refine T.kW.ok tV (λvs H Q E h=>?_) (λcdv Ar outer s H vs Q E hr h=>?_)
 ·obtain⟨e,C,t,rfl,_⟩:=h;rfl
 ·obtain⟨e,C,t,rfl,he,xc,k⟩:=h;obtain⟨mc,rd,fc⟩:=T.iY;walk_at"f";walk_at"k"
def oC(K:PySem.W.Frag)(A:ql)(n:Int)(H:Hp)(E:XK):Prop:=∀(H':Hp)(C dx:Addr),ay H H'->H' dx=some (.xd [("number",.int n)])->Lf K C->PySem.W.mroIn K C (.ref A.Refusal)=some true->E (.ref C) (some dx) H'
theorem oC.same{n:Int}{H H':Hp}{E:XK}(s:ay H H')(h:oC K A n H E):oC K A n H' E:=λH2 C dx s2=>h H2 C dx (s.trans s2)
def AI(K:PySem.W.Frag)(A:ql):Sp:=λvs H Q E=>∃(p:Addr)(ns:List Int)(lo hi:Int),vs=[.ref p,.int lo,.int hi]/\aH K H p (ns.map V.int)/\((ns.all λx=>within x lo hi)=true->∀H',ay H H'->Q .gc H')/\((ns.all λx=>within x lo hi)=false->oC K A (-4) H E)
theorem bo(T:Txt K mg A F):aT P w K mg base (kJ P w) 4 A.gC F.gC ["numbers","least","most"] (AI K A):=by
 refine br T.ba qV (λvs H Q E h=>?_) (λcdv Ar outer s H vs Q E hr h O=>?_)
 ·obtain⟨p,ns,lo,hi,rfl,_⟩:=h;rfl
 ·obtain⟨p,ns,lo,hi,rfl,hp,k1,k2⟩:=h
  refine⟨_,((ai (dF O.own rfl (bp (pv 0)) (fO 3 qV.nd (Or.inl rfl))
   (ai (eP (oz (Ia HQ HQ (pv 1) (pv 3) (pv 2)))
   (ai (eK O T.bO (cy T) (hr.mono (by decide)) (cO T) rfl T.ic))
   bL))))),?_⟩
  refine⟨_,rfl,p,rfl,⟨_,hp⟩,d7 (aJ (xs:=ns.map V.int)) (λi σ H'=>∃v3,σ=[some (.ref p),some (.int lo),some (.int hi),v3]/\ay H H'/\((ns.take i).all λx=>within x lo hi)=true) ⟨_,rfl,ay.refl _,by simp⟩ (λi σ H' _ ⟨_,_,s,_⟩=>s.seq hp) ?_ ?_⟩
  ·rintro i x σ H1 H2 hi' ⟨v3,rfl,s1,hall⟩ s2 hx;obtain⟨z,hz,rfl⟩:=gW hx;have sH:=s1.trans s2;have bad:within z lo hi=false->(ns.all λx=>within x lo hi)=false:=λe=>by
    rw[List.all_eq_false];exact⟨z,mem_of_getElem? hz,by rw[e];simp⟩
   have good:within z lo hi=true->((ns.take (i+1)).all λx=>within x lo hi)=true:=λe=>by
    rw[take_snoc hz,all_append,hall];simp[e]
   refine⟨_,rfl,_,rfl,_,_,rfl,rfl,_,rfl,?_⟩;refine eJ (λh1=>?_) λh1=>?_
   ·have h1:lo<=z:=by simpa using h1
    walk_at"D";refine eJ (λh2=>?_) λh2=>?_
    ·have h2:¬z<=hi:=by simpa using h2
     intro dx hdx;exact k2 (bad (by unfold within;simp[h2])) _ _ dx (sH.trans (ah hdx)) af T.bO.cl T.d9
    ·have h2:z<=hi:=by simpa using h2
     exact⟨_,rfl,sH,good (by unfold within;simp[h1,h2])⟩
   ·have h1:¬lo<=z:=by simpa using h1
    refine⟨_,rfl,B4 ?_⟩;intro dx hdx;exact k2 (bad (by unfold within;simp[h1])) _ _ dx (sH.trans (ah hdx)) af T.bO.cl T.d9
  ·rintro σ H1 ⟨v3,rfl,s1,hall⟩;rw[length_map,take_length]at hall;exact k1 hall H1 s1
def AH(K:PySem.W.Frag)(A:ql):Sp:=λvs H Q E=>∃(p:Addr)(ns:List Int)(l:Int),vs=[.ref p,.int l]/\aH K H p (ns.map V.int)/\((ns.length:Int)=l->Q .gc H)/\(¬(ns.length:Int)=l->oC K A (-4) H E)
theorem kS(T:Txt K mg A F):aT P w K mg base (kJ P w) 4 A.gB F.gB ["row","length"] (AH K A):=by
 refine br T.hJ AE (λvs H Q E h=>?_) (λcdv Ar outer s H vs Q E hr h O=>?_)
 ·obtain⟨p,ns,l,rfl,_⟩:=h;rfl
 ·obtain⟨p,ns,l,rfl,hp,k1,k2⟩:=h
  refine⟨_,((ai (eP (bG nN (aL aK (by rfl) T.eO cC (aa (pv 0) ae)) (pv 1) (bI _))
   (ai (eK O T.bO (cy T) (hr.mono (by decide)) (cO T) rfl T.ic))
   bL))),?_⟩
  refine⟨_,rfl,p,_,rfl,.inl hp,_,rfl,rfl,_,rfl,?_⟩;refine eJ (λh1=>?_) λh1=>?_
  ·have h1:¬(ns.length:Int)=l:=by
    rw[length_map]at h1;simpa using h1
   intro dx hdx;exact k2 h1 _ _ dx (ah hdx) af T.bO.cl T.d9
  ·have h1:(ns.length:Int)=l:=by
    rw[length_map]at h1;simpa using h1
   exact k1 h1
def mZ(l:Nat)(ns:List Int):List (List Int):=(List.range (ns.length/l)).map λi=>(ns.drop (i*l)).take l
def Ip(K:PySem.W.Frag)(A:ql):Sp:=λvs H Q E=>∃(p:Addr)(ns:List Int)(l:Nat),vs=[.ref p,.int l]/\aH K H p (ns.map V.int)/\ns.length<=1000/\1<=l/\l<=3/\(ns.length%l=0->∀q H',ay H H'->H q=none->TL H' q (mZ l ns)->Q (.ref q) H')/\(¬ns.length%l=0->oC K A (-4) H E)
theorem SY{n l:Nat}(h1:1<=l)(h2:l<=3)(hn:n<=1000)(hd:n%l=0):UC 0 (n:Int) (l:Int) (n/l):=by
 have e:Builtin.Range.rangeSize 0 (n:Int) (l:Int)=((n/l:Nat):Int):=by
  unfold Builtin.Range.rangeSize;rw[if_pos (by omega)];have:l=1\/l=2\/l=3:=by omega
  rcases this with rfl|rfl|rfl<;>split<;>omega
 have hq:n/l<=n:=Nat.div_le_self _ _;refine⟨by omega,by omega,?_,e⟩;unfold Builtin.Range.small;rw[e];generalize n/l=m at hq;simp only[Builtin.Range.rangeFitsLong,and_eq_true,or_eq_true,decide_eq_true_eq,beq_iff_eq,show((l:Int)>0) by omega,if_true];omega
theorem wI{ns:List Int}{a l:Nat}(h:a+l<=ns.length):wH (ns.map V.int) (some (a:Int)) (some ((a:Int)+(l:Int)))=((ns.drop a).take l).map V.int:=by
 unfold wH;rw[show((a:Int)+(l:Int))=((a+l:Nat):Int) by omega,HT.A1,HT.A1,length_map,min_eq_left h,min_eq_left (show a<=ns.length by omega),map_take,map_drop];congr 1;omega
theorem zi(T:Txt K mg A F):aT P w K mg base (kJ P w) 4 A.my F.my ["row","length"] (Ip K A):=by
 refine br T.pP nW (λvs H Q E h=>?_) (λcdv Ar outer s H vs Q E hr h O=>?_)
 ·obtain⟨p,ns,l,rfl,_⟩:=h;rfl
 ·obtain⟨p,ns,l,rfl,hp,hn,l1,l3,k1,k2⟩:=h
  refine⟨_,((ag (eP (bG nN (aR JE (aL aK (by rfl) T.eO cC (aa (pv 0) ae)) (pv 1)) ao (bI _))
   (ai (eK O T.bO (cy T) (hr.mono (by decide)) (cO T) rfl T.ic))
   bL)
   (ai (aB (du (own:=[("place",2)]) rfl nW.nd (Ma rfl T.cQ (aa ao (aa (aL aK (by rfl) T.eO cC (aa (pv 0) ae)) (aa (pv 1) ae)))) (oB nW) (λ_ _ _ _ _=>(fO 2 nW.nd (Or.inl rfl))) (λ_ _ _ _ _=>bC) (λ_ _ _ _ _=>(lH (BA K rfl) (by rfl) T.Pr M6 (aa (oS (Il K rfl) (pv 0) (kf (pv 2)) (kf (aR iI (pv 2) (pv 1)))) ae)))))))),?_⟩
  refine⟨_,rfl,p,_,rfl,.inl hp,_,rfl,_,_,rfl,rfl,(by show(0:Int)<(l:Int);omega),rfl,_,rfl,?_⟩;rw[length_map];refine eJ (λh1=>?_) λh1=>?_
  ·have h1:¬ns.length%l=0:=λe=>by
    have e2:(ns.length:Int)%(l:Int)=0:=by omega
    have h1':(!decide (V.int ((ns.length:Int)%(l:Int))=V.int 0))=true:=h1;rw[e2]at h1';simp at h1'
   intro dx hdx;exact k2 h1 _ _ dx (ah hdx) af T.bO.cl T.d9
  ·have h1:ns.length%l=0:=by
    by_cases q:ns.length%l=0
    ·exact q
    ·exfalso;apply h1;have:¬(ns.length:Int)%(l:Int)=0:=by omega
     show(!decide (V.int ((ns.length:Int)%(l:Int))=V.int 0))=true;simp[this]
   refine⟨_,rfl,p,_,rfl,.inl hp,_,rfl,0,(ns.length:Int),(l:Int),ns.length/l,?_,SY l1 l3 hn h1,λD hD=>?_⟩
   ·show [V.int 0,V.int _,V.int _]=_;rw[length_map]
   have hdm:ns.length/l*l=ns.length:=by
    have:=Nat.div_add_mod ns.length l;rw[h1,add_zero,Nat.mul_comm]at this;exact this
   have hql:ns.length/l<=1000:=le_trans (Nat.div_le_self _ _) hn;refine cq Gx hD (λ_ _=>trivial) (λ_=>true) (λi y H=>∃Tt,y= .ref Tt/\H Tt=some (.tup (((ns.drop (i*l)).take l).map V.int))) mR (bF hql) ?_ ?_
   ·rintro i x H1 hi s1 rfl ⟨acc,hacc⟩ Qn Qy qn qy;have hle:i*l+l<=ns.length:=by
     have:(i+1)*l<=ns.length/l*l:=Nat.mul_le_mul_right l hi;rw[add_mul]at this;omega
    have ei:(0:Int)+((i:Nat):Int)*(l:Int)=((i*l:Nat):Int):=by rw[zero_add,natCast_mul]
    rw[ei];walk_at"I";refine⟨_,rfl,_,rfl,_,rfl,_,rfl,_,rfl,_,_,rfl,rfl,_,rfl,p,_,rfl,s1.seq hp,λq hq=>?_⟩;rw[wI hle];refine⟨q,_,rfl,.inl ⟨aH.of af,λr hr=>qy rfl _ _ ((ah hq).trans (ah hr)) ⟨r,rfl,af⟩ (sC ((ah hq) _ _ hacc) hr)⟩⟩
   ·walk_at"r";rw[aN]at hpair;obtain⟨ps,e,h2⟩:=i9 hpair;exact k1 h1 D H1 s1 hD ⟨ps,by rw[hacc,e],h2⟩
def K9(x:Nat×Nat×Nat):List Int:=[(x.1:Int),(x.2.1:Int),(x.2.2:Int)]
theorem map_set{α β:Type}(f:α->β):∀(l:List α)(i:Nat)(x:α),(l.map f).set i (f x)=(l.set i x).map f
 |[],i,x=>by simp
 |a::l,0,x=>rfl
 |a::l,i+1,x=>by
  show f a::(l.map f).set i (f x)=f a::(l.set i x).map f;rw[map_set f l i x]
def OJ:Sp:=λvs H Q _=>∃(p:Addr)(ts:Debts),vs=[.ref p]/\TL H p (ts.map K9)/\eU ts/\∀q H',ay H H'->H q=none->IL H' q (balances ts)->Q (.ref q) H'
theorem HL(T:Txt K mg A F):aT P w K mg base gU 1 A.B0 F.B0 ["transfers"] OJ:=by
 refine T.AW.ok mM (λvs H Q E h=>?_) (λcdv Ar outer s H vs Q E hr h=>?_)
 ·obtain⟨p,ts,rfl,_⟩:=h;rfl
 ·obtain⟨p,ts,rfl,⟨ps,h1,h2⟩,ok,k⟩:=h
  refine⟨_,((ag (kE (i:=1) (own:=[("house",5)]) rfl mM.nd rfl rfl (nX rfl rfl rfl (by decide+kernel)) (cW rfl T.cQ (aa (bT rfl T.GY) ae)) (oB mM) (λ_ _ _ _ _=>(fO 5 mM.nd (Or.inl rfl))) (λ_ _ _ _ _=>bC) (λ_ _ _ _ _=>ao))
   (ag (dF PassesOwn.never rfl (bp (pv 0)) (iX (n:=3) rfl (bg (fO 2 mM.nd (Or.inl rfl) (Or.inl rfl)) (bg (fO 3 mM.nd (Or.inl rfl) (Or.inl rfl)) (bg (fO 4 mM.nd (Or.inl rfl) (Or.inl rfl)) gI))))
   (ag (A0 (pv 1) (pv 2) wR (pv 4) Ny set_list)
   (ai (A0 (pv 1) (pv 3) wR (pv 4) vR set_list))))
   (ai (aB (pv 1)))))),?_⟩
  have hpl:ps.length=ts.length:=by rw[h2.length];simp
  refine⟨10,rfl,by decide,by decide,λD hD=>?_⟩;refine cq cp hD (λ_ _=>trivial) (λ_=>true) (λ_ y _=>y=V.int 0) bh (by decide) ?_ ?_
  ·walk_at"F";walk_at"u"
  walk_at"r";have eacc:acc=(balances (ts.take 0)).map V.int:=by rw[bJ hpair,aN];rfl
  rw[eacc]at hacc;refine⟨_,rfl,p,rfl,⟨_,aH.of (s1 _ _ h1)⟩,d7 (aJ (xs:=ps.map V.ref)) (λi σ H'=>∃v2 v3 v4 v5,σ=[some (.ref p),some (.ref D),v2,v3,v4,v5]/\ay H H'/\IL H' D (balances (ts.take i))) ⟨_,_,_,_,rfl,s1,hacc⟩ (λi σ H' _ ⟨_,_,_,_,_,s,_⟩=>aH.of (s _ _ h1)) ?_ ?_⟩
  ·rintro i x σ H2 H3 hi ⟨v2,v3,v4,v5,rfl,s2,hq2⟩ s3 hx;obtain⟨q,xs,rfl,hxs,hq⟩:=C4 h2 hx;obtain⟨⟨a,b,n⟩,hz,rfl⟩:=dq hxs;obtain⟨ha,hb,hne⟩:=ok _ (mem_of_getElem? hz);have ha:a<10:=ha;have hb:b<10:=hb;have hne:a≠b:=hne;have hq3:=s3 _ _ hq2;refine⟨q,_,rfl,ra.of ((s2.trans s3) _ _ hq),rfl,_,_,rfl,_,_,rfl,_,_,rfl,rfl,?_⟩;have la:=ck (ts.take i);refine⟨_,rfl,_,rfl,D,_,a,_,rfl,rfl,aH.of hq3,(by rw[getElem?_map,gz ha];rfl),_,rfl,_,_,rfl,rfl,D,_,_,a,rfl,rfl,hq3,(by rw[length_map,la];exact ur ha),?_⟩;refine⟨_,rfl,_,rfl,D,_,b,_,rfl,rfl,aH.of af,(by rw[getElem?_set_ne hne,getElem?_map,gz hb];rfl),_,rfl,_,_,rfl,rfl,D,_,_,b,rfl,rfl,af,(by rw[length_set,length_map,la];exact ur hb),?_⟩;refine⟨_,_,_,_,rfl,?_,?_⟩
   ·intro c o e;rw[ak (aq e hD),ak (aq e hD)];exact(s2.trans s3) _ _ e
   ·rw[take_snoc hz,<-Ds _ ha hb hne];show upd (upd H3 D _) D _ D=_;rw[af,<-map_set,<-map_set]
  ·rintro σ H2 ⟨v2,v3,v4,v5,rfl,s2,hq2⟩;rw[length_map,hpl,take_length]at hq2;exact⟨_,rfl,k D H2 s2 hD hq2⟩
def zZ(d:Debts):List (List Key×V):=d.map λx=>([.inl (x.1:Int),.inl (x.2.1:Int)],.int (x.2.2:Int))
def df(m:Addr):List (Str×V):=jE "amounts" (.ref m) []
theorem Jg(m:Addr):(df m).lookup ("amounts":Str)=some (.ref m):=by unfold df;rw[bB,if_pos rfl]
def GD(C:Addr)(H:Hp)(a:Addr)(dx m:Addr)(d:Debts):Prop:=H a=some (.ins C dx (df m))/\H m=some (.dT (zZ d))
def DX(C:Addr):Sp:=λvs H Q _=>∃p dx,vs=[.ref p]/\H p=some (.ins C dx [])/\∀m,H m=none->Q .gc (upd (upd H m (.dT [])) p (.ins C dx (df m)))
theorem DI(T:Txt K mg A F):aT P w K mg base gU 1 A.iQ F.iQ ["self"] (DX A.Debts):=by
 refine T.wL.ok DR (λvs H Q E h=>?_) (λcdv Ar outer s H vs Q E hr h=>?_)
 ·obtain⟨p,dx,rfl,_⟩:=h;rfl
 ·obtain⟨p,dx,rfl,hp,k⟩:=h;refine⟨_,((ai (v9 (pv 0) HV rfl))),?_⟩;intro m hm;exact⟨_,rfl,p,A.Debts,dx,_,rfl,(by rw[ak (aq hp hm)];exact hp),T.fP,T.fS,(by show 0<1000;decide),k m hm⟩
def vc(C:Addr):Sp:=λvs H Q _=>∃p dx m d,vs=[.ref p]/\GD C H p dx m d/\∀m',H m'=none->Q .gc (upd (upd H m' (.dT [])) p (.ins C dx (df m')))
theorem uV(T:Txt K mg A F):aT P w K mg base gU 1 A.cS F.cS ["self"] (vc A.Debts):=by
 refine T.lM.ok uY (λvs H Q E h=>?_) (λcdv Ar outer s H vs Q E hr h=>?_)
 ·obtain⟨p,dx,m,d,rfl,_⟩:=h;rfl
 ·obtain⟨p,dx,m,d,rfl,⟨hp,hm⟩,k⟩:=h;refine⟨_,((ai (v9 (pv 0) HV rfl))),?_⟩;intro m' hm';refine⟨_,rfl,p,A.Debts,dx,df m,rfl,(by rw[ak (aq hp hm')];exact hp),T.fP,T.fS,(by show 1<1000;decide),?_⟩;have e:jE "amounts" (.ref m') (df m)=df m':=rfl;rw[e];exact k m' hm'
def Ey(a b:Nat)(x:Nat×Nat×Nat):Bool:=x.1==a&&x.2.1==b
theorem lz{a b:Nat}{x:Nat×Nat×Nat}:Ey a b x=true↔x.1=a/\x.2.1=b:=by unfold Ey;simp
theorem AY(a b:Nat)(x:Nat×Nat×Nat):decide (([Sum.inl (x.1:Int),Sum.inl (x.2.1:Int)]:List Key)=[Sum.inl (a:Int),Sum.inl (b:Int)])=Ey a b x:=by
 rw[Bool.eq_iff_iff,lz,decide_eq_true_iff];constructor
 ·intro e;simp at e;omega
 ·rintro⟨rfl,rfl⟩;rfl
theorem QP(d:Debts)(a b:Nat):pz (zZ d) [.inl (a:Int),.inl (b:Int)]=((d.find? (Ey a b)).map λx=>V.int (x.2.2:Int)):=by
 unfold pz zZ
 induction d with
 |nil=>rfl
 |cons x r ih=>
  rw[map_cons,find?_cons,find?_cons];dsimp only;rw[AY];cases Ey a b x with
  |true=>rfl
  |false=>exact ih
theorem Pj(d:Debts)(a b:Nat):((zZ d).any λkv=>decide (kv.1=([Sum.inl (a:Int),Sum.inl (b:Int)]:List Key)))=d.any (Ey a b):=by
 unfold zZ;rw[any_map];congr 1;funext x;exact AY a b x
def Mx(d:Debts):Prop:=d.Pairwise λx y=>¬(x.1=y.1/\x.2.1=y.2.1)
def rg(d:Debts)(a b:Nat):Nat:=((d.find? (Ey a b)).map λx=>x.2.2).getD 0
theorem HG(a b n:Nat):∀(d:Debts),Mx d->d.any (Ey a b)=true->(zZ d).map (λkv=>if kv.1=([Sum.inl (a:Int),Sum.inl (b:Int)]:List Key)then(kv.1,V.int ((rg d a b+n:Nat):Int))else kv)=zZ (d.map λx=>if x.1=a/\x.2.1=b then(a,b,x.2.2+n)else x)
 |[],_,h=>by simp at h
 |x::r,hd,h=>by
  have hr:Mx r:=(pairwise_cons.mp hd).2;have hx:=(pairwise_cons.mp hd).1;show(if([Sum.inl (x.1:Int),Sum.inl (x.2.1:Int)]:List Key)=_ then _ else _)::(zZ r).map _=zZ ((if _ then _ else _)::r.map _);by_cases q:x.1=a/\x.2.1=b
  ·obtain⟨rfl,rfl⟩:=q;have eo:rg (x::r) x.1 x.2.1=x.2.2:=by
    unfold rg;rw[find?_cons,lz.mpr ⟨rfl,rfl⟩];rfl
   rw[eo,if_pos rfl,if_pos ⟨rfl,rfl⟩];have e1:(r.map λy=>if y.1=x.1/\y.2.1=x.2.1 then(x.1,x.2.1,y.2.2+n)else y)=r:=by
    conv=>rhs;rw[<-map_id r]
    exact map_congr_left λy hy=>if_neg λe=>hx y hy ⟨e.1.symm,e.2.symm⟩
   have e2:(zZ r).map (λkv=>if kv.1=([Sum.inl (x.1:Int),Sum.inl (x.2.1:Int)]:List Key)then(kv.1,V.int ((x.2.2+n:Nat):Int))else kv)=zZ r:=by
    conv=>rhs;rw[<-map_id (zZ r)]
    refine map_congr_left λkv hkv=>if_neg λe=>?_;obtain⟨y,hy,rfl⟩:=mem_map.mp hkv;have:=AY x.1 x.2.1 y;rw[decide_eq_true e]at this;have:=lz.mp this.symm;exact hx y hy ⟨this.1.symm,this.2.symm⟩
   rw[e1,e2];rfl
  ·have qm:Ey a b x=false:=by
    cases e:Ey a b x with
    |false=>rfl
    |true=>exact absurd (lz.mp e) q
   have qk:¬([Sum.inl (x.1:Int),Sum.inl (x.2.1:Int)]:List Key)=[Sum.inl (a:Int),Sum.inl (b:Int)]:=λe=>by
    have:=AY a b x;rw[decide_eq_true e,qm]at this;cases this
   have eo:rg (x::r) a b=rg r a b:=by
    unfold rg;rw[find?_cons,qm]
   rw[any_cons,qm,Bool.false_or]at h;rw[eo,if_neg qk,if_neg q,HG a b n r hr h];rfl
theorem HN{d:Debts}{a b:Nat}(h:d.any (Ey a b)=false):rg d a b=0:=by
 unfold rg
 rw[List.find?_eq_none.mpr λx hx=>by
  have:=any_eq_false.mp h x hx
  simpa using this]
 rfl
theorem E8(d:Debts)(a b:Nat):(d.any λx=>x.1==a&&x.2.1==b)=d.any (Ey a b):=rfl
theorem Qs{d:Debts}(hd:Mx d)(a b n:Nat):putK (zZ d) [.inl (a:Int),.inl (b:Int)] (.int ((rg d a b+n:Nat):Int))=zZ (oweMore d a b n):=by
 unfold putK oweMore;rw[Pj,E8];by_cases q:d.any (Ey a b)=true
 ·rw[if_pos q,if_pos q];exact HG a b n d hd q
 ·rw[if_neg q,if_neg q,HN (by simpa using q),Nat.zero_add];unfold zZ;rw[map_append];rfl
theorem Og(a b n:Nat):∀d:Debts,rg (oweMore d a b n) a b=rg d a b+n:=by
 intro d;unfold oweMore;rw[E8];by_cases q:d.any (Ey a b)=true
 ·rw[if_pos q]
  induction d with
  |nil=>simp at q
  |cons x r ih=>
   rw[map_cons];unfold rg;rw[find?_cons,find?_cons];by_cases qx:x.1=a/\x.2.1=b
   ·rw[if_pos qx,lz.mpr qx,(lz (x:=(a,b,x.2.2+n))).mpr ⟨rfl,rfl⟩];rfl
   ·have qm:Ey a b x=false:=by
     cases e:Ey a b x with
     |false=>rfl
     |true=>exact absurd (lz.mp e) qx
    rw[if_neg qx,qm];rw[any_cons,qm,Bool.false_or]at q;exact ih q
 ·rw[if_neg q];have q:d.any (Ey a b)=false:=by simpa using q
  rw[HN q];unfold rg
  rw[List.find?_append,List.find?_eq_none.mpr λx hx=>by
   have:=any_eq_false.mp q x hx
   simpa using this]
  show((List.find? (Ey a b) [(a,b,n)]).map _).getD 0=_;rw[find?_cons,(lz (x:=(a,b,n))).mpr ⟨rfl,rfl⟩];simp
def Gb(C:Addr):Sp:=λvs H Q _=>∃p dx m d,∃(a b n:Nat),vs=[.ref p,.int a,.int b,.int n]/\GD C H p dx m d/\Mx d/\d.length<sizeLine/\∀H',jF m H H'->H' m=some (.dT (zZ (oweMore d a b n)))->Q (.int ((rg d a b+n:Nat):Int)) H'
theorem FT(T:Txt K mg A F):aT P w K mg base gU 1 A.jO F.jO ["self","debtor","creditor","amount"] (Gb A.Debts):=by
 refine T.yS.ok xx (λvs H Q E h=>?_) (λcdv Ar outer s H vs Q E hr h=>?_)
 ·obtain⟨p,dx,m,d,a,b,n,rfl,_⟩:=h;rfl
 ·obtain⟨p,dx,m,d,a,b,n,rfl,⟨hp,hm⟩,nd,hl,k⟩:=h
  refine⟨_,((ag (fC 4 xx.nd (aR iI (Ol (QZ hr) (aQ (pv 0) rfl) (sR (aa (pv 1) (aa (pv 2) ae))) ao ⟨rfl,rfl,rfl,rfl⟩) (pv 3)))
   (ag (Qo (QZ hr) (aQ (pv 0) rfl) (sR (aa (pv 1) (aa (pv 2) ae))) (pv 4) rfl)
   (ai (aB (pv 4)))))),?_⟩
  refine⟨_,rfl,p,A.Debts,dx,_,_,rfl,hp,T.fP,T.fS,Jg m,m,rfl,.inr ⟨_,.inl hm⟩,?_⟩;refine⟨_,rfl,_,rfl,(by show 2<=sizeLine;decide),λt ht=>?_⟩;have s1:ay H (upd H t (.tup [.int (a:Int),.int (b:Int)])):=ah ht;refine⟨_,MH.t (k:=[.inl (a:Int),.inl (b:Int)]) (s1 _ _ hm) af,?_⟩;rw[QP];have ev:((d.find? (Ey a b)).map λx=>V.int (x.2.2:Int)).getD (.int 0)= .int (rg d a b:Int):=by
   unfold rg;cases d.find? (Ey a b)<;>rfl
  refine⟨_,rfl,_,_,ev,rfl,?_⟩;refine⟨_,rfl,_,rfl,p,A.Debts,dx,_,_,rfl,s1 _ _ hp,T.fP,T.fS,Jg m,_,rfl,_,rfl,(by show 2<=sizeLine;decide),λu hu=>?_⟩;have s2:ay H (upd (upd H t (.tup [.int (a:Int),.int (b:Int)])) u (.tup [.int (a:Int),.int (b:Int)])):=s1.trans (ah hu);refine⟨m,_,rfl,MI.t (k:=[.inl (a:Int),.inl (b:Int)]) (s2 _ _ hm) af (by unfold zZ;rw[length_map];exact hl),?_⟩;refine⟨_,rfl,k _ ((ay.but s2).trans jF.upd) ?_⟩;rw[af];rw[<-Qs nd];rfl
def yD(C:Addr):Sp:=λvs H Q _=>∃p dx m d,vs=[.ref p]/\GD C H p dx m d/\d.length<=1000/\∀q H',ay H H'->H q=none->TL H' q (d.map K9)->Q (.ref q) H'
theorem oR(T:Txt K mg A F):aT P w K mg base gU 1 A.fF F.fF ["self"] (yD A.Debts):=by
 refine T.qz.ok fV (λvs H Q E h=>?_) (λcdv Ar outer s H vs Q E hr h=>?_)
 ·obtain⟨p,dx,m,d,rfl,_⟩:=h;rfl
 ·obtain⟨p,dx,m,d,rfl,⟨hp,hm⟩,hl,k⟩:=h;refine⟨_,((ai (aB (Qk (du (g:=z5 K 2 (ib (fu 1) (ib (fu 2) z4))) (own:=[("pair",1),("owed",2)]) rfl fV.nd (L9 (aQ (pv 0) rfl)) (oB fV) (λ_ _ _ _ _=>(iX (n:=2) rfl (bg (fO 1 fV.nd (Or.inl rfl) (Or.inr rfl)) (bg (fO 2 fV.nd (Or.inl rfl) (Or.inr rfl)) gI)))) (λ_ _ _ _ _=>bC) (λ_ _ _ _ _=>(sR (aa (aU (Ky K rfl) (pv 1) ao (λ_ _=>rfl)) (aa (aU (Ky K rfl) (pv 1) ao (λ_ _=>rfl)) (aa (pv 2) ae)))))))))),?_⟩;refine⟨m,_,hm,trivial,λod=>?_⟩;have pm:p≠m:=λe=>by rw[e,hm]at hp;cases hp
  have b0:jF m H (upd H m (.jb od (.dT (zZ d)))):=jF.upd;have hm1:upd H m (.jb od (.dT (zZ d))) m=some (.jb od (.dT (zZ d))):=af;generalize upd H m (.jb od (.dT (zZ d)))=H0 at b0 hm1;refine⟨_,rfl,p,A.Debts,dx,_,_,rfl,b0 _ _ pm hp,T.fP,T.fS,Jg m,m,od,zZ d,rfl,hm1,λD hD=>?_⟩;have dl:(zZ d).length=d.length:=by unfold zZ;simp
  refine cq Gw hD (λ_ s=>s _ _ hm1) (λ_=>true) (λi y H=>∃Tt,y= .ref Tt/\H Tt=some (.tup ((K9 (d.getD i (0,0,0))).map V.int))) mR (by rw[dl];exact bF hl) ?_ ?_
  ·rintro i x H1 hi s1 ⟨Tt,q,kk,v,hkv,rfl,hq,hT⟩ ⟨acc,hacc⟩ Qn Qy qn qy;obtain⟨z,hz,e⟩:=dq hkv;obtain⟨rfl,rfl⟩:=Prod.mk.inj e;walk_at"q";refine⟨_,rfl,q,_,_,_,rfl,rfl,ra.of hq,at_of (j:=0) rfl rfl,_,rfl,q,_,_,_,rfl,rfl,ra.of hq,at_of (j:=1) rfl rfl,_,rfl,(by show 3<=sizeLine;decide),λt ht=>?_⟩;refine qy rfl _ _ (ah ht) ⟨t,rfl,?_⟩ (sC hacc ht);rw[af,show d.getD i (0,0,0)=z by rw[getD_eq_getElem?_getD,hz];rfl];rfl
  ·walk_at"r";rw[aN,dl]at hpair;obtain⟨ps,e,h2⟩:=i9 hpair;have hm2:=s1 _ _ hm1;have Dm:D≠m:=λe=>by rw[e,hm1]at hD;cases hD
   have Hb:jF m H1 (upd H1 m (.dT (zZ d))):=jF.upd;refine⟨hm2,k D _ ?_ ?_ ⟨ps,?_,?_⟩⟩
   ·intro b o e;by_cases q:b=m
    ·subst q;rw[af,<-hm,e]
    ·exact Hb _ _ q (s1 _ _ (b0 _ _ q e))
   ·cases e:H D with
    |none=>rfl
    |some o=>rw[b0 _ _ Dm e]at hD;cases hD
   ·rw[Hb _ _ Dm hacc,e]
   ·rw[range_getD (l:=d) rfl K9]at h2;refine bc h2 λq xs _ _ e=>Hb _ _ (λe2=>?_) e;rw[e2,hm2]at e;cases e
def xD(C:Addr):Sp:=λvs H Q _=>∃p dx m d,vs=[.ref p]/\GD C H p dx m d/\eU d/\d.length<=1000/\∀q H',ay H H'->H q=none->IL H' q (balances d)->Q (.ref q) H'
theorem g4(T:Txt K mg A F):aT P w K mg base gU 2 A.eu F.eu ["self"] (xD A.Debts):=by
 refine T.oH.ok xw (λvs H Q E h=>?_) (λcdv Ar outer s H vs Q E hr h=>?_)
 ·obtain⟨p,dx,m,d,rfl,_⟩:=h;rfl
 ·obtain⟨p,dx,m,d,rfl,hD,ok,hl,k⟩:=h;refine⟨_,((ai (aB (aw (HL T) hr T.KJ T.AW.kp (Kb T) az (aa (ip (pv 0) T.fP T.oQ (oR T) hr (qp T) az) ae))))),?_⟩;refine⟨_,rfl,p,dx,_,rfl,hD.1,rfl,p,dx,m,d,rfl,hD,hl,λq H1 s1 nq ht=>?_⟩;exact⟨q,d,rfl,ht,ok,λq2 H2 s2 n2 hq2=>k q2 H2 (s1.trans s2) (s1.none n2) hq2⟩
def rv(bs:List Int):Nat->Int:=λi=>bs.getD (bs.length-1-i) 0
theorem pow10{i:Nat}(h:i<=10):2^i<=1024:=pow_le_pow_right (n:=2) (by decide) h
def AN:Sp:=λvs H Q _=>∃(p:Addr)(bs:List Int),vs=[.ref p]/\IL H p bs/\bs.length<=10/\∀q H',ay H H'->IL H' q (gg (rv bs) bs.length)->Q (.ref q) H'
theorem Ao(T:Txt K mg A F):aT P w K mg base gU 1 A.gM F.gM ["balances"] AN:=by
 refine T.md.ok dI (λvs H Q E h=>?_) (λcdv Ar outer s H vs Q E hr h=>?_)
 ·obtain⟨p,bs,rfl,_⟩:=h;rfl
 ·obtain⟨p,bs,rfl,hp,hl,k⟩:=h
  refine⟨_,((ag (fC 1 dI.nd (bb (aa ao ae)))
   (ag (dF PassesOwn.never rfl (zw rfl T.Bv (aa (pv 0) ae)) (fO 2 dI.nd (Or.inr rfl))
   (ai (fC 1 dI.nd (aR j3 (pv 1) (du (own:=[("total",3)]) rfl dI.nd (bp (pv 1)) (oB dI) (λ_ _ _ _ _=>(fO 3 dI.nd (Or.inl rfl))) (λ_ _ _ _ _=>bC) (λ_ _ _ _ _=>(aR iI (pv 3) (pv 2))))))))
   (ai (aB (pv 1)))))),?_⟩
  refine⟨by show 1<=sizeLine;decide,λt ht=>?_⟩;have s0:=ah (o:= .lst [.int 0]) ht;refine⟨_,rfl,p,_,rfl,aH.of (s0 _ _ hp),d7 (ER (xs:=bs.map V.int)) (λi σ H'=>∃q v2 v3,σ=[some (.ref p),some (.ref q),v2,v3]/\ay H H'/\IL H' q (gg (rv bs) i)) ⟨t,_,_,rfl,s0,af⟩ (λi σ H' _ ⟨_,_,_,_,s,_⟩=>aH.of (s _ _ hp)) ?_ ?_⟩
  ·rintro i x σ H2 H3 hi ⟨q,v2,v3,rfl,s2,hq⟩ s3 hx;rw[length_map]at hi hx;obtain⟨z,hz,rfl⟩:=gW hx;have hq3:=s3 _ _ hq;have sl:=qf (rv bs) i;have sb:2^i<=1024:=pow10 (by omega);have sb2:2^i*2<=1024:=by rw[<-pow_succ];exact pow10 (by omega)
   have ez:rv bs i=z:=by unfold rv;rw[getD_eq_getElem?_getD,hz];rfl
   refine⟨_,rfl,_,rfl,q,rfl,⟨_,aH.of hq3⟩,λD hD=>?_⟩;refine cq (aJ (xs:=(gg (rv bs) i).map V.int)) hD (λ_ s=>aH.of (s _ _ hq3)) (λ_=>true) (λj y _=>y=V.int ((gg (rv bs) i).getD j 0+rv bs i)) bh (by rw[length_map,sl];exact le_trans sb (by decide)) ?_ ?_
   ·rintro j x H4 hj s4 hx _ Qn Qy qn qy;obtain⟨y,hy,rfl⟩:=gW hx;walk_at"I";walk_at"A";rw[ez,getD_eq_getElem?_getD,hy];rfl
   ·intro H4 acc s4 hacc hpair;have ea:acc=((gg (rv bs) i).map λt=>t+rv bs i).map V.int:=by
     rw[bJ hpair,aN,length_map,map_map];exact range_getD (l:=gg (rv bs) i) rfl λt=>V.int (t+rv bs i)
    refine⟨q,D,_,acc,rfl,rfl,s4 _ _ hq3,hacc,by rw[ea];simp only[length_map,sl];exact le_trans (show 2^i+2^i<=1024 by omega) (by decide),λu hu=>?_⟩;refine⟨u,_,_,rfl,((s2.trans s3).trans s4).trans (ah hu),?_⟩;rw[JW];show upd H4 u _ u=_;rw[af,ea,map_append]
  ·rintro σ H2 ⟨q,v2,v3,rfl,s2,hq⟩;rw[length_map]at hq;exact⟨_,rfl,k q H2 s2 hq⟩
noncomputable def mostL (c:Nat->Int) (k n:Nat):List Int:=(List.range n).map λs=>(mst c k s:Int)
theorem yl{c:Nat->Int}{k n s:Nat}(h:s<n):(mostL c k n)[s]?=some (mst c k s:Int):=by
 unfold mostL;rw[getElem?_map,getElem?_range h];rfl
theorem Ci(c:Nat->Int)(k n:Nat):mostL c k (n+1)=mostL c k n++[(mst c k n:Int)]:=by
 unfold mostL;rw[range_succ,map_append];rfl
def CY:Sp:=λvs H Q _=>∃(p:Addr)(c:Nat->Int)(k:Nat),vs=[.ref p]/\IL H p (gg c k)/\k<=10/\∀q H',ay H H'->IL H' q (mostL c k (2^k))->Q (.ref q) H'
theorem MZ(k:Nat):(Builtin.Int.intBits ((2^k:Nat):Int):Int)-1=(k:Int):=by
 unfold Builtin.Int.intBits;have h:0<2^k:=pos_of_ne_zero (by simp);rw[if_neg (by rw[beq_iff_eq];omega),Int.natAbs_natCast,Nat.log2_two_pow];omega
theorem Kv{s k:Nat}(h0:s≠0)(h:s<2^k):∃i,i<k/\s.testBit i=true:=by
 have:∃i,s.testBit i=true:=Nat.exists_testBit_of_ne_zero h0;obtain⟨i,hi⟩:=this;refine⟨i,?_,hi⟩;by_cases q:i<k
 ·exact q
 ·rw[testBit_lt_two_pow (lt_of_lt_of_le h (pow_le_pow_right (by decide) (by omega)))]at hi;cases hi
theorem Cv(T:Txt K mg A F):aT P w K mg base gU 1 A.ij F.ij ["sums"] CY:=by
 refine T.ot.ok cf (λvs H Q E h=>?_) (λcdv Ar outer s H vs Q E hr h=>?_)
 ·obtain⟨p,c,k,rfl,_⟩:=h;rfl
 ·obtain⟨p,c,k,rfl,hp,hk,kk⟩:=h
  refine⟨_,((ag (kE (i:=1) (own:=[("place",5)]) rfl cf.nd rfl rfl (nX rfl rfl rfl (by decide+kernel)) (cW rfl T.cQ (aa (aR jv (RW PySem.F.plainAttrs_int PySem.F.slot_int_bit_length PySem.F.type_int_bit_length LV (aL aK (by rfl) T.eO cC (aa (pv 0) ae))) ao) ae)) (oB cf) (λ_ _ _ _ _=>(fO 5 cf.nd (Or.inl rfl))) (λ_ _ _ _ _=>bC) (λ_ _ _ _ _=>(aR F3 ao (pv 5))))
   (ag (fC 2 cf.nd (bb (aa ao ae)))
   (ag (dF PassesOwn.never rfl (uB rfl T.cQ (aa ao (aa (aL aK (by rfl) T.eO cC (aa (pv 0) ae)) ae))) (fO 3 cf.nd (Or.inr rfl))
   (ag (fC 4 cf.nd (aL (BD rfl) (by rfl) T.GO By (aa (du (own:=[("house",6)]) rfl cf.nd (bp (pv 1)) (oB cf) (λ_ _ _ _ _=>(fO 6 cf.nd (Or.inl rfl))) (λ_ _ _ _ _=>(lB (bG nN (aR Cz (pv 3) (pv 6)) ao (bI _)))) (λ_ _ _ _ _=>(aU (si K rfl) (pv 2) (aR F4 (pv 3) (pv 6)) (λ_ _=>rfl)))) ae)))
   (ai (aM (nR PySem.F.plainAttrs_list PySem.F.slot_list_append PySem.F.type_list_append i6 (pv 2) (aa (HW (bG CA (aU aE (pv 0) (pv 3) (λ_ _=>rfl)) ao (bI _)) (aR iI (pv 4) ao) (pv 4)) ae))))))
   (ai (aB (pv 2))))))),?_⟩
  have sl:=qf c k;have sb:2^k<=1024:=pow10 hk;have sp:0<2^k:=pos_of_ne_zero (by simp);refine⟨_,rfl,p,_,rfl,.inl (aH.of hp),?_⟩;refine⟨rfl,_,rfl,rfl,_,_,rfl,rfl,(k:Int),?_,by omega,by omega,λD hD=>?_⟩
  ·show [V.int ((Builtin.Int.intBits ((((gg c k).map V.int).length:Nat):Int):Int)-1)]=_;rw[length_map,sl,MZ]
  refine cq (cp (n:=k)) hD (λ_ _=>trivial) (λ_=>true) (λi y _=>y=V.int ((2^i:Nat):Int)) bh (bF (by omega)) ?_ ?_
  ·rintro i x H1 hi s1 rfl _ Qn Qy qn qy;walk_at"I";refine⟨_,rfl,_,_,rfl,rfl,⟨by omega,by omega,by decide⟩,qy rfl _ _ (ay.refl _) ?_ (by intro z;cases z)⟩;show V.int (1*2^i)=_;rw[one_mul];simp
  walk_at"r";have ea:acc=((List.range k).map λi=>((2^i:Nat):Int)).map V.int:=by rw[bJ hpair,aN,map_map];rfl
  rw[ea]at hacc;refine⟨by show 1<=sizeLine;decide,λt ht=>?_⟩;have s2:=s1.trans (ah (o:= .lst [.int 0]) ht);have tn:H t=none:=s1.none ht;have Dt:D≠t:=aq hacc ht;refine⟨_,rfl,p,_,rfl,.inl (aH.of (s2 _ _ hp)),1,(2^k:Nat),?_,⟨by omega,by omega,by omega,by omega⟩,?_⟩
  ·show [V.int 1,V.int ((((gg c k).map V.int).length:Nat):Int)]=_;rw[length_map,sl]
  have en:(((2^k:Nat):Int)-1).toNat=2^k-1:=by omega
  rw[en];refine d7 (ja (lo:=1) (n:=2^k-1)) (λi σ H'=>∃v3 v4 v5 v6,σ=[some (.ref p),some (.ref D),some (.ref t),v3,v4,v5,v6]/\ay H H'/\IL H' D ((List.range k).map λi=>((2^i:Nat):Int))/\IL H' t (mostL c k (i+1))) ⟨_,_,_,_,rfl,s2,by show upd H1 t _ D=_;rw[ak Dt];exact hacc,?_⟩ (λ_ _ _ _ _=>trivial) ?_ ?_
  ·show upd H1 t _ t=_;rw[af,Ci,NY];rfl
  ·rintro i x σ H2 H3 hi ⟨v3,v4,v5,v6,rfl,sH,hD2,ht2⟩ s3 rfl;have hD3:=s3 _ _ hD2;have ht3:=s3 _ _ ht2;have e1:(1:Int)+((i:Nat):Int)=((i+1:Nat):Int):=by omega
   rw[e1];have hw:i+1<2^k:=by omega
   refine⟨_,rfl,D,rfl,⟨_,aH.of hD3⟩,λD2 hnD2=>?_⟩;refine cq (aJ (xs:=((List.range k).map λi=>((2^i:Nat):Int)).map V.int)) hnD2 (λ_ s=>aH.of (s _ _ hD3)) (λj=>(i+1).testBit j) (λj y _=>y=V.int (mst c k ((i+1)^^^2^j):Int)) bh (bF (by simp;omega)) ?_ ?_
   ·rintro j x H4 hj s4 hx _ Qn Qy qn qy;obtain⟨z,hz,rfl⟩:=gW hx;rw[length_map,length_map,length_range]at hj;have ez:z=((2^j:Nat):Int):=by
     rw[getElem?_map,getElem?_range hj]at hz;exact(Option.some.inj hz).symm
    subst ez;walk_at"I";refine⟨_,rfl,_,rfl,_,_,rfl,rfl,rfl,_,rfl,?_⟩;have eb:(!decide (V.int (Builtin.bitAnd ((i+1:Nat):Int) ((2^j:Nat):Int))=V.int 0))=(i+1).testBit j:=by
     rw[MT,Bool.eq_iff_iff,<-yL];simp
    walk_at"i"
    ·have hh:(i+1).testBit j=true:=by rw[<-eb];exact hh
     have hx:=IM hh;refine⟨_,rfl,_,rfl,_,rfl,_,_,rfl,rfl,t,_,_,_,rfl,rfl,aH.of (s4 _ _ ht3),?_,qy hh _ _ (ay.refl _) rfl (by intro z;cases z)⟩;show MS _ (Builtin.bitXor _ _)=_;rw[MU];exact iw (yl (by omega))
    ·have hh:(i+1).testBit j=false:=by
      rw[<-eb];simpa using hh
     exact qn hh _ (ay.refl _)
   ·intro H4 acc s4 hacc4 hpair4;rw[length_map,length_map,length_range]at hpair4;obtain⟨h0,hh0,hb0⟩:=Kv (s:=i+1) (by omega) hw;refine⟨D2,((List.range k).filter λj=>(i+1).testBit j).map λj=>(mst c k ((i+1)^^^2^j):Int),rfl,aH.of ?_,?_,λm hm hup=>?_⟩
    ·rw[hacc4,bJ hpair4,map_map];rfl
    ·rw[length_map];exact List.length_pos_of_mem (mem_filter.mpr ⟨mem_range.mpr hh0,hb0⟩)
    obtain⟨j,hj,rfl⟩:=mem_map.mp hm;obtain⟨hj1,hj2⟩:=mem_filter.mp hj;have st:mst c k (i+1)=if sm c k (tb (i+1))=0 then mst c k ((i+1)^^^2^j)+1 else mst c k ((i+1)^^^2^j):=by
     refine NX ⟨j,mem_range.mp hj1,hj2,rfl⟩ λh hh hb=>?_;have:=hup _ (mem_map_of_mem (mem_filter.mpr ⟨mem_range.mpr hh,hb⟩));exact ofNat_le.mp this
    have ht4:=s4 _ _ ht3;have hs4:=((sH.trans s3).trans s4) _ _ hp;have fin:∀y:V,y=V.int (mst c k (i+1):Int)->ay H (upd H4 t (.lst ((mostL c k (i+1)).map V.int++[y])))/\IL (upd H4 t (.lst ((mostL c k (i+1)).map V.int++[y]))) D ((List.range k).map λi=>((2^i:Nat):Int))/\IL (upd H4 t (.lst ((mostL c k (i+1)).map V.int++[y]))) t (mostL c k (i+1+1)):=by
     rintro y rfl;refine⟨λb o e=>?_,?_,?_⟩
     ·rw[ak (aq e tn)];exact((sH.trans s3).trans s4) _ _ e
     ·show upd H4 t _ D=_;rw[ak Dt];exact s4 _ _ hD3
     ·show upd H4 t _ t=_;rw[af,Ci c k (i+1),map_append];rfl
    have ml:(mostL c k (i+1)).length=i+1:=by unfold mostL;simp
    have lm:((mostL c k (i+1)).map V.int).length<sizeLine:=by
     rw[length_map,ml];exact lt_of_le_of_lt (show i+1<=1024 by omega) (by decide)
    refine⟨_,rfl,.inl ⟨rfl,_,aH.of ht4⟩,_,rfl,_,rfl,p,_,_,_,rfl,rfl,aH.of hs4,iw (EO hw),rfl,_,rfl,?_⟩;walk_at"i"
    ·have hh:sm c k (tb (i+1))=0:=by simpa using hh
     rw[if_pos hh]at st;refine⟨_,rfl,_,_,rfl,rfl,t,_,_,rfl,rfl,ht4,lm,_,_,_,_,rfl,fin _ ?_⟩;rw[st];rfl
    ·have hh:¬sm c k (tb (i+1))=0:=by simpa using hh
     rw[if_neg hh]at st;refine⟨_,rfl,t,_,_,rfl,rfl,ht4,lm,_,_,_,_,rfl,fin _ ?_⟩;rw[st]
  ·rintro σ H2 ⟨v3,v4,v5,v6,rfl,sH,hD2,ht2⟩;rw[show 2^k-1+1=2^k by omega]at ht2;exact⟨_,rfl,kk t H2 sH ht2⟩
theorem P0{c:Prop} [Decidable c]{A B A' B':Prop}(h:if c then A else B)(ha:A->A')(hb:B->B'):if c then A' else B':=by
 by_cases q:c
 ·rw[if_pos q]at h⊢;exact ha h
 ·rw[if_neg q]at h⊢;exact hb h
def CV:Sp:=λvs H Q _=>∃(l:Nat)(p q:Addr)(c:Nat->Int)(k g:Nat),vs=[.int l,.ref p,.ref q]/\IL H p (gg c k)/\IL H q (mostL c k (2^k))/\l<2^k/\A8 c k l g/\Q (.int g) H
theorem Ct(T:Txt K mg A F):aT P w K mg base gU 1 A.h9 F.h9 ["left","sums","most"] CV:=by
 refine T.om.ok mL (λvs H Q E h=>?_) (λcdv Ar outer s H vs Q E hr h=>?_)
 ·obtain⟨l,p,q,c,k,g,rfl,_⟩:=h;rfl
 ·obtain⟨l,p,q,c,k,g,rfl,hp,hq,hl,hf,kk⟩:=h
  refine⟨_,((ag (fC 3 mL.nd (pv 0))
   (ag (sU PassesOwn.never (K2 (Ow (bG nN (aU aE (pv 1) (pv 3) (λ_ _=>rfl)) ao (bI _)) (JI (bG nN (aR iI (aU aE (pv 2) (aR F4 (pv 0) (pv 3)) (λ_ _=>rfl)) ao) (aU aE (pv 2) (pv 0) (λ_ _=>rfl)) (bI _)))))
   (ai (fC 3 mL.nd (aR Cz (aR jv (pv 3) ao) (pv 0)))))
   (ai (aB (pv 3)))))),?_⟩
  obtain⟨f1,f2,f3⟩:=id hf;refine⟨_,rfl,?_⟩;refine uh (λσ H'=>H'=H/\∃x:Nat,σ=[some (.int l),some (.ref p),some (.ref q),some (.int x)]/\x&&&l=x/\g<=x) (λσ _=>match σ with|[_,_,_,some (.int y)]=>y.toNat|_=>0) ⟨rfl,l,rfl,Nat.and_self l,by rw[<-f1];exact and_le_right⟩ ?_ ?_
  ·rintro σ H' ⟨rfl,x,rfl,hx,hgx⟩;have hxl:x<2^k:=oO hl (jz.mp hx);have hxx:l^^^x<2^k:=Nat.xor_lt_two_pow hl hxl;have gx:MS ((mostL c k (2^k)).map V.int) (Builtin.bitXor (l:Int) (x:Int))=some (V.int (mst c k (l^^^x):Int)):=by
    rw[MU];exact iw (yl hxx)
   have more:¬IV c k l x->∃y:Nat,V.int (Builtin.bitAnd ((x:Int)-1) (l:Int))=V.int (y:Int)/\y&&&l=y/\g<=y/\y<x:=λnf=>by
    have ne:g≠x:=λe=>nf (by rw[<-e];exact f2);have gl:g<x:=by omega
    refine⟨(x-1)&&&l,?_,?_,N1 l x g hx f1 gl,?_⟩
    ·rw[show(x:Int)-1=((x-1:Nat):Int) by omega,MT]
    ·rw[Nat.and_assoc,Nat.and_self]
    ·have:=@Nat.and_le_left (x-1) l;omega
   have go:¬IV c k l x->∀D:Ends,(∀y:Nat,y&&&l=y->g<=y->y<x->D.nx [some (.int l),some (.ref p),some (.ref q),some (.int y)] H')->OT (Sj (ME λi j=> .int (Builtin.bitAnd i j)) (Sj (ME λi j=> .int (i-j)) (QK 3) (tC (.int 1))) (QK 0)) (fu 3) D [some (.int l),some (.ref p),some (.ref q),some (.int x)] H':=λnf D hD=>by
    obtain⟨y,ey,h1,h2,h3⟩:=more nf;refine⟨_,rfl,_,_,rfl,rfl,_,rfl,_,_,rfl,rfl,?_⟩;have:=hD y h1 h2 h3;show D.nx [some (V.int l),some (V.ref p),some (V.ref q),some (V.int (Builtin.bitAnd ((x:Int)-1) (l:Int)))] H';rw[ey];exact this
   refine⟨_,rfl,_,rfl,p,_,_,_,rfl,rfl,aH.of hp,iw (EO hxl),rfl,_,rfl,?_⟩;refine eJ (λh1=>?_) λh1=>?_
   ·have h1:¬sm c k (tb x)=0:=by simpa using h1
    refine B4 (go (λf=>h1 (Kp.mp f).1) _ λy a b c'=>⟨⟨rfl,y,rfl,a,b⟩,?_⟩);show(y:Int).toNat<(x:Int).toNat;omega
   ·have h1:sm c k (tb x)=0:=by simpa using h1
    refine⟨_,rfl,_,rfl,_,rfl,_,_,rfl,rfl,q,_,_,_,rfl,rfl,aH.of hq,gx,_,_,rfl,rfl,_,rfl,_,rfl,q,_,_,_,rfl,rfl,aH.of hq,iw (yl hl),rfl,_,rfl,?_⟩;have eb:(V.int ((mst c k (l^^^x):Int)+1)=V.int (mst c k l:Int))↔IV c k l x:=by
     rw[Kp];constructor
     ·intro e;have:=V.int.inj e;exact⟨h1,by omega⟩
     ·rintro⟨_,e⟩;rw[<-e];rfl
    refine eJ (λh2=>?_) λh2=>?_
    ·have h2:¬IV c k l x:=λf=>by
      have h3:(!decide (V.int ((mst c k (l^^^x):Int)+1)=V.int (mst c k l:Int)))=true:=h2;rw[decide_eq_true (eb.mpr f)]at h3;cases h3
     refine go h2 _ λy a b c'=>⟨⟨rfl,y,rfl,a,b⟩,?_⟩
     show(y:Int).toNat<(x:Int).toNat;omega
    ·have h2:IV c k l x:=by
      have h3:¬(!decide (V.int ((mst c k (l^^^x):Int)+1)=V.int (mst c k l:Int)))=true:=h2;simp only[not_eq_true',decide_eq_false_iff_not,Decidable.not_not]at h3;exact eb.mp h3
     have e:x=g:=by
      by_cases q:x=g
      ·exact q
      ·exact absurd h2 (f3 x hx (by omega))
     subst e;exact⟨_,rfl,kk⟩
  ·rintro σ H Q Q' hq ⟨v0,e0,v1,e1,p,xs,z,y,a1,a2,a3,a4,a5,b,a6,h⟩;refine⟨v0,e0,v1,e1,p,xs,z,y,a1,a2,a3,a4,a5,b,a6,P0 h (λh=>hq _ _ h) ?_⟩;rintro⟨v0,e0,v1,e1,v2,e2,i1,i2,b1,b2,p,xs,z,y,a1,a2,a3,a4,j1,j2,c1,c2,v3,e3,v4,e4,p',xs',z',y',d1,d2,d3,d4,d5,b,d6,h⟩;exact⟨v0,e0,v1,e1,v2,e2,i1,i2,b1,b2,p,xs,z,y,a1,a2,a3,a4,j1,j2,c1,c2,v3,e3,v4,e4,p',xs',z',y',d1,d2,d3,d4,d5,b,d6,hq _ _ h⟩
def JX(x:Nat×Nat×Int):List Int:=[(x.1:Int),(x.2.1:Int),x.2.2]
def DQ(b:List Int)(g:List Nat)(i:Nat):Int:=((g.take i).map λx=>b.getD x 0).sum
def HP(x y:Nat)(s:Int):Nat×Nat×Int:=if s<0 then(x,y,-s)else(y,x,s)
theorem Ef(b:List Int):∀(g:List Nat)(run:Int),fJ b run g=(List.range (g.length-1)).map λi=>HP (g.getD i 0) (g.getD (i+1) 0) (run+DQ b g (i+1))
 |[],run=>by simp[fJ]
 |[x],run=>by simp[fJ]
 |x::y::r,run=>by
  rw[fJ,Ef b (y::r)];show _=(List.range (r.length+1)).map _;rw[range_succ_eq_map,map_cons,map_map];congr 1
  ·unfold HP DQ;simp
  ·refine map_congr_left λi _=>?_;show _=HP ((y::r).getD i 0) ((y::r).getD (i+1) 0) _;congr 1;unfold DQ;simp;omega
def rk:Sp:=λvs H Q _=>∃(p q:Addr)(g:List Nat)(b:List Int),vs=[.ref p,.ref q]/\IL H p (g.map ofNat)/\IL H q b/\g.length<=10/\(∀x∈g,x<b.length)/\∀u H',ay H H'->H u=none->TL H' u ((fJ b 0 g).map JX)->Q (.ref u) H'
theorem rf(T:Txt K mg A F):aT P w K mg base gU 1 A.cv F.cv ["group","balances"] rk:=by
 refine T.hW.ok bZ (λvs H Q E h=>?_) (λcdv Ar outer s H vs Q E hr h=>?_)
 ·obtain⟨p,q,g,b,rfl,_⟩:=h;rfl
 ·obtain⟨p,q,g,b,rfl,hp,hq,hl,hb,k⟩:=h
  refine⟨_,((ag (fC 2 bZ.nd (bb ae))
   (ag (fC 3 bZ.nd ao)
   (ag (dF PassesOwn.never rfl (Ot rfl T.QV (aa (pv 0) (aa (oS xA (pv 0) (kf ao) KZ) ae))) (iX (n:=2) rfl (bg (fO 4 bZ.nd (Or.inl rfl) (Or.inl rfl)) (bg (fO 5 bZ.nd (Or.inl rfl) (Or.inl rfl)) gI)))
   (ag (yz (i:=3) bZ.nd rfl (Or.inl rfl) (aU aE (pv 1) (pv 4) (λ_ _=>rfl)) vR)
   (ai (eP (bG CB (pv 3) ao (bI _))
   (ai (aM (nR PySem.F.plainAttrs_list PySem.F.slot_list_append PySem.F.type_list_append i6 (pv 2) (aa (sR (aa (pv 4) (aa (pv 5) (aa (oU j9 (pv 3)) ae)))) ae))))
   (ai (aM (nR PySem.F.plainAttrs_list PySem.F.slot_list_append PySem.F.type_list_append i6 (pv 2) (aa (sR (aa (pv 5) (aa (pv 4) (aa (pv 3) ae)))) ae))))))))
   (ai (aB (pv 2))))))),?_⟩
  refine⟨zero_le _,λD hD=>?_⟩;have s0:ay H (upd H D (.lst [])):=ah hD;refine⟨_,rfl,_,rfl,_,rfl,p,_,rfl,aH.of (s0 _ _ hp),λr hr=>?_⟩;have ec:wH ((g.map ofNat).map V.int) (some 1) none=((g.drop 1).map ofNat).map V.int:=by
   unfold wH;rw[show(1:Int)=((1:Nat):Int) by rfl,HT.A1];show((_:List V).drop _).take (_-_)=_;rw[map_drop,map_drop];generalize(g.map ofNat).map V.int=l;cases l with
   |nil=>rfl
   |cons a l=>
    rw[min_eq_left (by simp)];exact List.take_of_length_le (by show l.length<=(l.length+1)-1;omega)
  have s1:=s0.trans (ah (o:= .lst (((g.drop 1).map ofNat).map V.int)) hr);have rD:D≠r:=aq (af (H:=H) (a:=D)) hr;have hr1:upd (upd H D (.lst [])) r (.lst (((g.drop 1).map ofNat).map V.int)) r=some (.lst (((g.drop 1).map ofNat).map V.int)):=af;have hD1:upd (upd H D (.lst [])) r (.lst (((g.drop 1).map ofNat).map V.int)) D=some (.lst []):=by rw[ak rD,af]
  refine⟨p,r,_,_,rfl,aH.of (by rw[ec];exact s1 _ _ hp),aH.of (by rw[ec];exact hr1),?_⟩;rw[ec];generalize upd (upd H D (.lst [])) r (.lst (((g.drop 1).map ofNat).map V.int))=H1 at s1 hr1 hD1;refine d7 (ES (xs:=(g.map ofNat).map V.int) (ys:=((g.drop 1).map ofNat).map V.int)) (λi σ H'=>∃tot v4 v5,σ=[some (.ref p),some (.ref q),some (.ref D),some (.int tot),v4,v5]/\tot=DQ b g i/\ay H H'/\H' r=some (.lst (((g.drop 1).map ofNat).map V.int))/\TL H' D (((List.range i).map λi=>HP (g.getD i 0) (g.getD (i+1) 0) (0+DQ b g (i+1))).map JX)) ⟨0,_,_,rfl,by unfold DQ;simp,s1,hr1,[],hD1,.nil⟩ (λi σ H' _ ⟨_,_,_,_,_,s,hr,_⟩=>⟨aH.of (s _ _ hp),aH.of hr⟩) ?_ ?_
  ·rintro i x σ H2 H3 hi ⟨tot,v4,v5,rfl,et,s2,hr2,ps,hD2,hps⟩ s3 ⟨Tt,y,z,rfl,hT,hy,hz⟩;obtain⟨y1,hy1,rfl⟩:=gW hy;obtain⟨z1,hz1,rfl⟩:=gW hz;obtain⟨x0,hx0,rfl⟩:=dq hy1;obtain⟨x1,hx1,rfl⟩:=dq hz1;rw[List.getElem?_drop]at hx1;have hx1:g[i+1]?=some x1:=by rw[<-hx1,add_comm]
   have e0:g.getD i 0=x0:=by rw[getD_eq_getElem?_getD,hx0];rfl
   have e1:g.getD (i+1) 0=x1:=by rw[getD_eq_getElem?_getD,hx1];rfl
   have h0b:=hb x0 (mem_of_getElem? hx0);have il:i<g.length:=(List.getElem?_eq_some_iff.mp hx0).1;have gb:b[x0]?=some (b.getD x0 0):=by rw[getD_eq_getElem?_getD,getElem?_eq_getElem h0b];rfl
   have er:DQ b g (i+1)=tot+b.getD x0 0:=by
    rw[et];unfold DQ;rw[take_snoc hx0,map_append,sum_append];simp
   have pl:ps.length=i:=by rw[hps.length];simp
   have sH:=s2.trans s3;have fin:∀(t:Addr)(xs:List Int),H3 t=none->xs=JX (HP x0 x1 (tot+b.getD x0 0))->∃tot' v4' v5',[some (V.ref p),some (V.ref q),some (V.ref D),some (V.int (tot+b.getD x0 0)),some (V.int (x0:Int)),some (V.int (x1:Int))]=[some (.ref p),some (.ref q),some (.ref D),some (.int tot'),v4',v5']/\tot'=DQ b g (i+1)/\ay H (upd (upd H3 t (.tup (xs.map V.int))) D (.lst (ps.map V.ref++[.ref t])))/\upd (upd H3 t (.tup (xs.map V.int))) D (.lst (ps.map V.ref++[.ref t])) r=some (.lst (((g.drop 1).map ofNat).map V.int))/\TL (upd (upd H3 t (.tup (xs.map V.int))) D (.lst (ps.map V.ref++[.ref t]))) D (((List.range (i+1)).map λi=>HP (g.getD i 0) (g.getD (i+1) 0) (0+DQ b g (i+1))).map JX):=by
    rintro t xs ht rfl;have tD:D≠t:=aq (s3 _ _ hD2) ht;refine⟨_,_,_,rfl,er.symm,λc o e=>?_,?_,ps++[t],?_,?_⟩
    ·rw[ak (aq e hD),ak (aq (sH _ _ e) ht)];exact sH _ _ e
    ·rw[ak rD.symm,ak (aq (s3 _ _ hr2) ht)];exact s3 _ _ hr2
    ·rw[af,map_append];rfl
    ·rw[range_succ,map_append,map_append];refine Paired.app (bc hps λc xs _ _ e=>?_) (.cons ?_ .nil)
     ·have e3:=s3 _ _ e;rw[ak (λq=>by rw[q,s3 _ _ hD2]at e3;cases e3),ak (aq e3 ht)];exact e3
     ·rw[ak tD.symm,af];dsimp only;rw[e0,e1,er,zero_add]
   have lm:(ps.map V.ref).length<sizeLine:=by
    rw[length_map,pl];exact lt_of_le_of_lt (show i<=10 by omega) (by decide)
   refine⟨Tt,_,rfl,ra.of hT,rfl,_,_,rfl,_,_,rfl,rfl,?_⟩;refine⟨_,rfl,_,rfl,_,rfl,q,_,_,_,rfl,rfl,aH.of (sH _ _ hq),iw gb,_,_,rfl,rfl,?_⟩;walk_at"D";refine eJ (λh1=>?_) λh1=>?_
   ·have h1:tot+b.getD x0 0<0:=by simpa using h1
    refine⟨_,rfl,.inl ⟨rfl,_,aH.of (s3 _ _ hD2)⟩,_,rfl,_,rfl,_,rfl,_,rfl,(by show 3<=sizeLine;decide),λt ht=>?_⟩;refine⟨D,_,_,rfl,rfl,(ah ht) _ _ (s3 _ _ hD2),lm,?_⟩;exact fin t [(x0:Int),(x1:Int),-(tot+b.getD x0 0)] ht (by unfold HP;rw[if_pos h1];rfl)
   ·have h1:¬tot+b.getD x0 0<0:=by simpa using h1
    refine⟨_,rfl,.inl ⟨rfl,_,aH.of (s3 _ _ hD2)⟩,_,rfl,_,rfl,_,rfl,(by show 3<=sizeLine;decide),λt ht=>?_⟩;refine⟨D,_,_,rfl,rfl,(ah ht) _ _ (s3 _ _ hD2),lm,?_⟩;exact fin t [(x1:Int),(x0:Int),tot+b.getD x0 0] ht (by unfold HP;rw[if_neg h1];rfl)
  ·rintro σ H2 ⟨tot,v4,v5,rfl,et,s2,hr2,hTL⟩;refine⟨_,rfl,k D H2 s2 hD ?_⟩;rw[Ef];have e:min ((g.map ofNat).map V.int).length (((g.drop 1).map ofNat).map V.int).length=g.length-1:=by simp
   rw[e]at hTL;exact hTL
def ph:Sp:=λvs H Q _=>∃(p q:Addr)(gs:List (List Nat))(b:List Int),vs=[.ref p,.ref q]/\LL H p (gs.map λg=>g.map ofNat)/\IL H q b/\gs.length<=10/\(∀g∈gs,g.length<=10/\∀x∈g,x<b.length)/\∀u H',ay H H'->H u=none->TL H' u ((gs.flatMap (fJ b 0)).map JX)->Q (.ref u) H'
theorem BW{b:List Int}:∀{gs:List (List Nat)},(∀g∈gs,g.length<=10)->(gs.flatMap (fJ b 0)).length<=10*gs.length
 |[],_=>by simp
 |g::gs,h=>by
  have:=BW (b:=b) λg' hg=>h g' (mem_cons_of_mem _ hg);have h1:=h g mem_cons_self;have h2:=ow b g 0;rw[flatMap_cons,length_append,length_cons];omega
theorem i7(T:Txt K mg A F):aT P w K mg base gU 2 A.bN F.bN ["groups","balances"] ph:=by
 refine T.dZ.ok fY (λvs H Q E h=>?_) (λcdv Ar outer s H vs Q E hr h=>?_)
 ·obtain⟨p,q,gs,b,rfl,_⟩:=h;rfl
 ·obtain⟨p,q,gs,b,rfl,⟨ps,h1,h2⟩,hq,hl,hb,k⟩:=h
  refine⟨_,((ag (fC 2 fY.nd (bb ae))
   (ag (dF PassesOwn.never rfl (bp (pv 0)) (fO 3 fY.nd (Or.inl rfl))
   (ai (aM (nR PySem.F.plainAttrs_list PySem.F.slot_list_extend PySem.F.type_list_extend uw (pv 2) (aa (aw (rf T) hr T.su T.hW.kp (rH T) az (aa (pv 3) (aa (pv 1) ae))) ae)))))
   (ai (aB (pv 2)))))),?_⟩
  have hpl:ps.length=gs.length:=by rw[h2.length];simp
  refine⟨zero_le _,λD hD=>?_⟩;have s0:ay H (upd H D (.lst [])):=ah hD;refine⟨_,rfl,p,rfl,⟨_,aH.of (s0 _ _ h1)⟩,d7 (aJ (xs:=ps.map V.ref)) (λi σ H'=>∃v3,σ=[some (.ref p),some (.ref q),some (.ref D),v3]/\ay H H'/\TL H' D (((gs.take i).flatMap (fJ b 0)).map JX)) ⟨_,rfl,s0,[],af,.nil⟩ (λi σ H' _ ⟨_,_,s,_⟩=>aH.of (s _ _ h1)) ?_ ?_⟩
  ·rintro i x σ H2 H3 hi ⟨v3,rfl,s2,us,hD2,hus⟩ s3 hx;obtain⟨r,xs,rfl,hxs,hr⟩:=B7 h2 hx;obtain⟨g,hg,rfl⟩:=dq hxs;obtain⟨gl,gb⟩:=hb g (mem_of_getElem? hg);have sH:=s2.trans s3;refine⟨_,rfl,.inl ⟨rfl,_,aH.of (s3 _ _ hD2)⟩,_,rfl,_,rfl,r,q,g,b,rfl,sH _ _ hr,sH _ _ hq,gl,gb,λu H4 s4 nu ⟨ws,hu,hws⟩=>?_⟩;have hD4:=s4 _ _ (s3 _ _ hD2);have ul:us.length=((gs.take i).flatMap (fJ b 0)).length:=by rw[hus.length];simp
   have wl:ws.length=(fJ b 0 g).length:=by rw[hws.length];simp
   have h3:=BW (b:=b) (gs:=gs.take i) λg' hg'=>(hb g' (mem_of_mem_take hg')).1;have h4:=ow b g 0;have h5:(gs.take i).length<=10:=by rw[length_take];omega
   refine⟨D,u,_,_,rfl,rfl,hD4,hu,by rw[length_map,length_map,ul,wl];exact le_trans (show _<=1000 by omega) (by decide),?_⟩;refine⟨_,rfl,λc o e=>?_,us++ws,?_,?_⟩
   ·rw[ak (aq e hD)];exact(sH.trans s4) _ _ e
   ·rw[af,map_append]
   ·rw[take_snoc hg,List.flatMap_append,map_append];have nD:∀(c:Addr)(xs:List V),H4 c=some (.tup xs)->c≠D:=λc xs e q=>by rw[q,hD4]at e;cases e
    refine Paired.app (bc hus λc xs _ _ e=>?_) ?_
    ·have e4:=s4 _ _ (s3 _ _ e);rw[ak (nD _ _ e4)];exact e4
    ·rw[List.flatMap_singleton];refine bc hws λc xs _ _ e=>?_;rw[ak (nD _ _ e)];exact e
  ·rintro σ H2 ⟨v3,rfl,s2,hTL⟩;rw[length_map,hpl,take_length]at hTL;exact⟨_,rfl,k D H2 s2 hD hTL⟩
def Gj:Sp:=λvs H Q _=>∃(g:Nat)(p:Addr)(hs:List Nat),vs=[.int g,.ref p]/\IL H p (hs.map ofNat)/\hs.length<=10/\∀q H',ay H H'->H q=none->IL H' q ((pick hs g).map ofNat)->Q (.ref q) H'
theorem QA{n i:Nat}(h:i+1<=n):((2^n:Nat):Int)/2^((i+1:Nat):Int).toNat=((2^(n-(i+1)):Nat):Int):=by
 rw[toNat_natCast];have:((2:Int)^(i+1))=((2^(i+1):Nat):Int):=by simp
 rw[this,<-Int.natCast_ediv,Nat.pow_div h (by decide)]
theorem FY(T:Txt K mg A F):aT P w K mg base gU 1 A.jX F.jX ["group","houses"] Gj:=by
 refine T.rW.ok iC (λvs H Q E h=>?_) (λcdv Ar outer s H vs Q E hr h=>?_)
 ·obtain⟨g,p,hs,rfl,_⟩:=h;rfl
 ·obtain⟨g,p,hs,rfl,hp,hl,k⟩:=h
  refine⟨_,((ag (fC 2 iC.nd (aR F3 ao (aL aK (by rfl) T.eO cC (aa (pv 1) ae))))
   (ai (aB (du (g:=z5 K 2 (ib (fu 3) (ib (fu 4) z4))) (own:=[("place",3),("house",4)]) rfl iC.nd (Oq rfl T.nc (aa (pv 1) ae) (KW ao Ou)) (oB iC) (λ_ _ _ _ _=>(iX (n:=2) rfl (bg (fO 3 iC.nd (Or.inl rfl) (Or.inr rfl)) (bg (fO 4 iC.nd (Or.inl rfl) (Or.inr rfl)) gI)))) (λ_ _ _ _ _=>(lB (bG nN (aR Cz (pv 0) (aR Od (pv 2) (pv 3))) ao (bI _)))) (λ_ _ _ _ _=>(pv 4))))))),?_⟩
  refine⟨_,rfl,p,_,rfl,.inl (aH.of hp),_,_,rfl,rfl,⟨by omega,by rw[length_map,length_map];omega,by decide⟩,?_⟩;have eg:V.int (1*2^((((hs.map ofNat).map V.int).length:Nat):Int).toNat)=V.int ((2^hs.length:Nat):Int):=by
   rw[length_map,length_map,toNat_natCast,one_mul];simp
  dsimp only;rw[eg];refine⟨_,rfl,p,_,rfl,rfl,aH.of hp,λD hD=>?_⟩;refine cq (Iv (xs:=(hs.map ofNat).map V.int)) hD (λ_ s=>aH.of (s _ _ hp)) (λi=>g.testBit (hs.length-(i+1))) (λi y _=>y=V.int (ofNat (hs.getD i 0))) bh (bF (by simp;omega)) ?_ ?_
  ·rintro i x H1 hi s1 ⟨Tt,y,rfl,hT,hy⟩ _ Qn Qy qn qy;obtain⟨v,hv,rfl⟩:=gW hy;obtain⟨z,hz,rfl⟩:=dq hv;rw[length_map,length_map]at hi;walk_at"q";refine⟨_,rfl,_,rfl,_,rfl,_,_,rfl,rfl,(by omega),_,_,rfl,rfl,rfl,_,rfl,?_⟩;have eb:(!decide (V.int (Builtin.bitAnd (g:Int) (((2^hs.length:Nat):Int)/2^((i+1:Nat):Int).toNat))=V.int 0))=g.testBit (hs.length-(i+1)):=by
    rw[QA (by omega),MT,Bool.eq_iff_iff,<-yL];simp
   walk_at"i"
   ·have hh:g.testBit (hs.length-(i+1))=true:=by rw[<-eb];exact hh
    exact⟨_,rfl,qy hh _ _ (ay.refl _) (by rw[getD_eq_getElem?_getD,hz];rfl) (by intro z;cases z)⟩
   ·have hh:g.testBit (hs.length-(i+1))=false:=by
     rw[<-eb];simpa using hh
    exact qn hh _ (ay.refl _)
  ·walk_at"r";refine k D H1 s1 hD ?_;rw[length_map,length_map]at hpair;rw[CI];show H1 D=_;rw[hacc,bJ hpair,map_map,map_map];rfl
def JT:Sp:=λvs H Q _=>∃(p:Addr)(d:Debts),vs=[.ref p]/\eU d/\IL H p (balances d)/\∀q H',ay H H'->LL H' q ((partsOf d).map λg=>g.map ofNat)->Q (.ref q) H'
theorem Cw(T:Txt K mg A F):aT P w K mg base gU 2 A.lA F.lA ["balances"] JT:=by
 refine T.uq.ok cK (λvs H Q E h=>?_) (λcdv Ar outer s H vs Q E hr h=>?_)
 ·obtain⟨p,d,rfl,_⟩:=h;rfl
 ·obtain⟨p,d,rfl,ok,hp,k⟩:=h
  refine⟨_,((ag (kE (i:=1) (g:=z5 K 2 (ib (fu 7) (ib (fu 8) z4))) (own:=[("house",7),("balance",8)]) rfl cK.nd rfl rfl (nX rfl rfl rfl (by decide+kernel)) (F5 rfl T.nc (aa (pv 0) ae)) (oB cK) (λ_ _ _ _ _=>(iX (n:=2) rfl (bg (fO 7 cK.nd (Or.inl rfl) (Or.inr rfl)) (bg (fO 8 cK.nd (Or.inl rfl) (Or.inr rfl)) gI)))) (λ_ _ _ _ _=>(lB (bG nN (pv 8) ao (bI _)))) (λ_ _ _ _ _=>(pv 7)))
   (ag (fC 2 cK.nd (aw (Ao T) hr T.Cf T.md.kp (Bw T) az (aa (du (own:=[("house",7)]) rfl cK.nd (bp (pv 1)) (oB cK) (λ_ _ _ _ _=>(fO 7 cK.nd (Or.inl rfl))) (λ_ _ _ _ _=>bC) (λ_ _ _ _ _=>(aU (si K rfl) (pv 0) (pv 7) (λ_ _=>rfl)))) ae)))
   (ag (fC 3 cK.nd (aw (Cv T) hr T.DG T.ot.kp (Dn T) az (aa (pv 2) ae)))
   (ag (fC 4 cK.nd (aR jv (aL aK (by rfl) T.eO cC (aa (pv 2) ae)) ao))
   (ag (fC 5 cK.nd (bb ae))
   (ag (sU PassesOwn.never (bG nN (pv 4) ao (bI _))
   (ag (fC 6 cK.nd (aw (Ct T) hr T.DE T.om.kp (Dk T) az (aa (pv 4) (aa (pv 2) (aa (pv 3) ae)))))
   (ag (aM (nR PySem.F.plainAttrs_list PySem.F.slot_list_append PySem.F.type_list_append i6 (pv 5) (aa (aw (FY T) hr T.Hw T.rW.kp (GN T) az (aa (pv 6) (aa (pv 1) ae))) ae)))
   (ai (fC 4 cK.nd (aR F4 (pv 4) (pv 6)))))))
   (ai (aB (pv 5)))))))))),?_⟩
  have bl:=ck d;have nd:=zm (balances d);have ol:=pW (balances d);refine⟨_,rfl,p,_,rfl,aH.of hp,λD hD=>?_⟩;refine cq (wo (xs:=(balances d).map V.int)) hD (λ_ s=>aH.of (s _ _ hp)) (λi=>(balances d).getD i 0 !=0) (λi y _=>y=V.int (ofNat i)) bh (bF (by simp;omega)) ?_ ?_
  ·rintro i x H1 hi s1 ⟨Tt,y,rfl,hT,hy⟩ _ Qn Qy qn qy;obtain⟨v,hv,rfl⟩:=gW hy;have ev:(balances d).getD i 0=v:=by rw[getD_eq_getElem?_getD,hv];rfl
   walk_at"q";refine⟨_,rfl,rfl,_,rfl,?_⟩;walk_at"i"
   ·have hh:((balances d).getD i 0 !=0)=true:=by
     rw[ev];simpa using hh
    exact⟨_,rfl,qy hh _ _ (ay.refl _) rfl (by intro z;cases z)⟩
   ·have hh:((balances d).getD i 0 !=0)=false:=by
     rw[ev];simpa using hh
    exact qn hh _ (ay.refl _)
  walk_at"r";have eacc:acc=((owing (balances d)).map ofNat).map V.int:=by
   rw[bJ hpair,length_map,bl,map_map];rfl
  rw[eacc]at hacc;have z0:=EA ok;have kk0:partsOf d=parted (balances d) 10 (pick (owing (balances d)) (2^(owing (balances d)).length-1)):=by rw[mz];rfl
  have hb10:∀x∈owing (balances d),x<10:=λx hx=>mem_range.mp (mem_filter.mp hx).1;rw[kk0]at k;generalize owing (balances d)=hs at hacc nd ol z0 k hb10;generalize balances d=b at hp bl z0 k hacc;have p0:0<2^hs.length:=pos_of_ne_zero (by simp);refine⟨_,rfl,D,rfl,⟨_,aH.of hacc⟩,λD2 hD2=>?_⟩;refine cq (aJ (xs:=(hs.map ofNat).map V.int)) hD2 (λ_ s=>aH.of (s _ _ hacc)) (λ_=>true) (λi y _=>y=V.int (b.getD (hs.getD i 0) 0)) bh (bF (by simp;omega)) ?_ ?_
  ·rintro i x H2 hi s2 hx _ Qn Qy qn qy;obtain⟨v,hv,rfl⟩:=gW hx;obtain⟨z,hz,rfl⟩:=dq hv;have hz10:=hb10 z (mem_of_getElem? hz);have gb:b[z]?=some (b.getD z 0):=by rw[getD_eq_getElem?_getD,getElem?_eq_getElem (by omega)];rfl
   walk_at"I";refine⟨_,rfl,_,rfl,p,_,_,_,rfl,rfl,aH.of ((s1.trans s2) _ _ hp),iw gb,qy rfl _ _ (ay.refl _) ?_ (by intro z;cases z)⟩;rw[show hs.getD i 0=z by rw[getD_eq_getElem?_getD,hz];rfl]
  intro H2 acc2 s2 hacc2 hpair2;have eacc2:acc2=(hs.map λx=>b.getD x 0).map V.int:=by
   rw[bJ hpair2,aN,length_map,length_map,map_map];exact range_getD (l:=hs) rfl λx=>V.int (b.getD x 0)
  rw[eacc2]at hacc2;refine⟨D2,_,rfl,hacc2,by simp;omega,λq1 H3 s3 hq1=>?_⟩;have ec:gg (rv (hs.map λx=>b.getD x 0)) (hs.map λx=>b.getD x 0).length=gg (cw b hs) hs.length:=by
   rw[length_map];refine Iu λi hi=>?_;unfold rv cw;rw[length_map,getD_eq_getElem?_getD,getElem?_map,getD_eq_getElem?_getD (l:=hs.reverse),List.getElem?_reverse hi,getElem?_eq_getElem (by omega)];rfl
  rw[ec]at hq1;refine⟨_,rfl,q1,cw b hs,hs.length,rfl,hq1,ol,λq2 H4 s4 hq2=>?_⟩;refine⟨_,rfl,q1,_,rfl,.inl (aH.of (s4 _ _ hq1)),_,_,rfl,rfl,?_⟩;refine⟨zero_le _,λG hG=>?_⟩;have sl:=qf (cw b hs) hs.length;have e4:((((gg (cw b hs) hs.length).map V.int).length:Nat):Int)-1=((2^hs.length-1:Nat):Int):=by
   rw[length_map,sl];omega
  have s04:ay H (upd H4 G (.lst [])):=(((s1.trans s2).trans s3).trans s4).trans (ah hG);have s14:ay H1 (upd H4 G (.lst [])):=((s2.trans s3).trans s4).trans (ah hG);have h3G:ay H3 (upd H4 G (.lst [])):=s4.trans (ah hG);have nG:H G=none:=((s1.trans s2).trans (s3.trans s4)).none hG;have hz:sm (cw b hs) hs.length (tb (2^hs.length-1))=0:=by rw[<-iK,mz];exact z0
  refine uh (λσ H'=>∃(l kk:Nat)(gs:List (List Nat))(ps:List Addr)(v6 v7 v8:Option V),σ=[some (.ref p),some (.ref D),some (.ref q1),some (.ref q2),some (.int l),some (.ref G),v6,v7,v8]/\ay H H'/\IL H' D (hs.map ofNat)/\IL H' q1 (gg (cw b hs) hs.length)/\IL H' q2 (mostL (cw b hs) hs.length (2^hs.length))/\H' G=some (.lst (ps.map V.ref))/\Paired (λq xs=>IL H' q xs) ps (gs.map λg=>g.map ofNat)/\(∀q∈ps,q≠G)/\l<2^hs.length/\sm (cw b hs) hs.length (tb l)=0/\(pick hs l).length<=kk/\parted b 10 (pick hs (2^hs.length-1))=gs++parted b kk (pick hs l)/\gs.length+kk=10) (λσ _=>match σ with|[_,_,_,_,some (.int y),_,_,_,_]=>y.toNat|_=>0) ⟨2^hs.length-1,10,[],[],none,none,none,?_,s04,s14 _ _ hacc,h3G _ _ hq1,(ah hG) _ _ hq2,af,.nil,by simp,by omega,hz,by rw[mz];exact ol,rfl,rfl⟩ ?_ (λσ H Q Q' hq ⟨v,e,e1,b,e3,q⟩=>⟨v,e,e1,b,e3,hq _ _ q⟩)
  ·show [some (V.ref p),some (V.ref D),some (V.ref q1),some (V.ref q2),some (V.int (((((gg (cw b hs) hs.length).map V.int).length:Nat):Int)-1)),some (V.ref G),none,none,none]=_;rw[e4]
  rintro σ H' ⟨l,kk,gs,ps,v6,v7,v8,rfl,sH,hD',hq1',hq2',hG',hps,hne,hl,hzl,hkk,hpt,hgk⟩;refine⟨_,rfl,rfl,_,rfl,?_⟩;walk_at"i"
  ·have l0:l≠0:=by simpa using hh
   obtain⟨g,hf⟩:=r9 hl hzl l0;have hk1:kk≠0:=λe=>by
    have:=uC hl l0;rw[e]at hkk;exact this (List.length_eq_zero_iff.mp (by omega))
   obtain⟨kk',rfl⟩:∃kk',kk=kk'+1:=⟨kk-1,by omega⟩
   obtain⟨ep,z',hk',hl'⟩:=nQ nd hl hzl hkk hf;have lt':l^^^g<l:=O1 hf.1 hf.2.1.ne;refine⟨_,rfl,_,rfl,_,rfl,l,q1,q2,cw b hs,hs.length,g,rfl,hq1',hq2',hl,hf,?_⟩;refine⟨_,rfl,.inl ⟨rfl,_,aH.of hG'⟩,_,rfl,_,rfl,g,D,hs,rfl,hD',ol,λu H5 s5 nu hu=>?_⟩;have hG5:=s5 _ _ hG';have pl:ps.length=gs.length:=by rw[hps.length];simp
   have uG:u≠G:=λe=>by rw[e,hG']at nu;cases nu
   refine⟨G,_,_,rfl,rfl,hG5,by rw[length_map,pl];exact lt_of_le_of_lt (show gs.length<=10 by omega) (by decide),?_⟩;refine⟨_,rfl,_,rfl,_,_,rfl,rfl,?_⟩;have eb:V.int (Builtin.bitXor (l:Int) (g:Int))=V.int ((l^^^g:Nat):Int):=by rw[MU]
   have ne:∀{c:Addr}{o:HO},H' c=some o->c≠G->upd H5 G (.lst (ps.map V.ref++[.ref u])) c=some o:=λ{c o}e n=>by
    rw[ak n];exact s5 _ _ e
   have nD:D≠G:=λe=>by
    have:H1 G=none:=((s2.trans s3).trans s4).none hG;rw[e,this]at hacc;cases hacc
   have n1:q1≠G:=λe=>by
    have:H3 G=none:=s4.none hG;rw[e]at hq1;have hq1:H3 G=_:=hq1;rw[this]at hq1;cases hq1
   have n2:q2≠G:=λe=>by
    rw[e]at hq2;have hq2:H4 G=_:=hq2;rw[hG]at hq2;cases hq2
   refine⟨⟨l^^^g,kk',gs++[pick hs g],ps++[u],some (.int g),v7,v8,?_,?_,ne hD' nD,ne hq1' n1,ne hq2' n2,?_,?_,?_,hl',z',hk',?_,?_⟩,?_⟩
   ·show [some (V.ref p),some (V.ref D),some (V.ref q1),some (V.ref q2),some (V.int (Builtin.bitXor (l:Int) (g:Int))),some (V.ref G),some (V.int (g:Int)),v7,v8]=_;rw[eb]
   ·intro c o e;rw[ak (aq e nG)];exact(sH.trans s5) _ _ e
   ·rw[af,map_append];rfl
   ·rw[map_append];refine Paired.app (bc hps λc xs hc _ e=>ne e (hne c hc)) (.cons ?_ .nil);show upd H5 G _ u=_;rw[ak uG];exact hu
   ·intro c hc;rcases mem_append.mp hc with q|q
    ·exact hne c q
    ·rw[mem_singleton.mp q];exact uG
   ·rw[hpt,ep,append_assoc];rfl
   ·rw[length_append];show gs.length+1+kk'=10;omega
   ·show(Builtin.bitXor (l:Int) (g:Int)).toNat<(l:Int).toNat;rw[MU];omega
  ·have l0:l=0:=by simpa using hh
   subst l0;refine⟨_,rfl,k G H' sH ⟨ps,hG',?_⟩⟩;have ep:parted b kk (pick hs 0)=[]:=by
    rw[j5];cases kk with
    |zero=>rw[parted]
    |succ n=>rw[parted]
   rw[hpt,ep,append_nil];exact hps
def rj:Sp:=λvs H Q _=>∃(p:Addr)(d:Debts),vs=[.ref p]/\eU d/\IL H p (balances d)/\∀q H',ay H H'->TL H' q ((Vbedah.transfers d).map K9)->Q (.ref q) H'
theorem xI{d:Debts}(ok:eU d):((partsOf d).flatMap (fJ (balances d) 0)).map JX=(Vbedah.transfers d).map K9:=by
 rw[<-zL ok,map_map];rfl
theorem jK(T:Txt K mg A F):aT P w K mg base gU 3 A.cu F.cu ["balances"] rj:=by
 refine T.fi.ok rh (λvs H Q E h=>?_) (λcdv Ar outer s H vs Q E hr h=>?_)
 ·obtain⟨p,d,rfl,_⟩:=h;rfl
 ·obtain⟨p,d,rfl,ok,hp,k⟩:=h;refine⟨_,((ai (aB (aw (i7 T) hr T.jo T.dZ.kp (jd T) az (aa (aw (Cw T) hr T.Ex T.uq.kp (D9 T) az (aa (pv 0) ae)) (aa (pv 0) ae)))))),?_⟩;obtain⟨f1,f2,f3⟩:=kD ok;refine⟨_,rfl,p,d,rfl,ok,hp,λq H1 s1 hq=>?_⟩;refine⟨_,rfl,q,p,_,_,rfl,hq,s1 _ _ hp,f1,λg hg=>⟨(f2 g hg).1,λx hx=>by rw[ck];exact(f2 g hg).2 x hx⟩,λu H2 s2 nu hu=>?_⟩;rw[xI ok]at hu;exact k u H2 (s1.trans s2) hu
def PN(gl da:Addr):List (Str×V):=jE "debts" (.ref da) (jE "games" (.ref gl) [])
theorem B3(gl da:Addr):(PN gl da).lookup ("games":Str)=some (.ref gl):=by unfold PN;rw[bB,if_neg (by decide),bB,if_pos rfl]
theorem mj(gl da:Addr):(PN gl da).lookup ("debts":Str)=some (.ref da):=by unfold PN;rw[bB,if_pos rfl]
theorem c9(gl da:Addr){m:Str}(h1:¬m="games")(h2:¬m="debts"):(PN gl da).lookup m=none:=by
 unfold PN;rw[bB,if_neg h2,bB,if_neg h1];rfl
theorem wJ(m:Addr){f:Str}(h:¬f="amounts"):(df m).lookup f=none:=by
 unfold df;rw[bB,if_neg h];rfl
abbrev RK:Pos:=⟨244,40,244,69⟩
abbrev KC:Str:="rounded_shares.<locals>.<lambda>"
def TabAt(A:ql)(H:Hp):Prop:=ML H A.Qx RK KC
theorem TabAt.imp{A:ql}{H H':Hp}(h:TabAt A H)(ht:∀b ps,H b=some (.qX ps)->H' b=some (.qX ps))(hf:∀b o φ,H b=some (.jb o (.ext φ))->H' b=some (.jb o (.ext φ))):TabAt A H':=by
 obtain⟨ps,h1,h2,h3⟩:=h;refine⟨ps,ht _ _ h1,h2,h3.imp id λ⟨c,q1,oc,u,vs,t,q2,q3⟩=>⟨c,q1,oc,u,vs,t,hf _ _ _ q2,q3⟩⟩
theorem TabAt.same{A:ql}{H H':Hp}(h:TabAt A H)(s:ay H H'):TabAt A H':=h.imp (λ_ _ e=>s _ _ e) λ_ _ _ e=>s _ _ e
theorem TabAt.but{A:ql}{H H':Hp}{D:Addr}(h:TabAt A H)(b:jF D H H')(h1:∀ps,H D≠some (.qX ps))(h2:∀o φ,H D≠some (.jb o (.ext φ))):TabAt A H':=h.imp (λc ps e=>b _ _ (λz=>h1 ps (by rw[<-z];exact e)) e) λc o u e=>b _ _ (λz=>h2 o u (by rw[<-z];exact e)) e
def vO:Option Addr->V
 |none=> .gc
 |some a=> .ref a
def xP(A:ql)(H:Hp)(o:Option Addr)(g:Option Game):Prop:=(o=none/\g=none)\/∃a k,o=some a/\g=some k/\aZ A.Game H a k/\GW k
def mY(A:ql)(H:Hp)(hd:Addr)(st:State):Prop:=∃(dx gl da dd m:Addr)(os:List (Option Addr)),H hd=some (.ins A.bD dx (PN gl da))/\H gl=some (.lst (os.map vO))/\os.length=8/\Paired (xP A H) os st.games/\GD A.Debts H da dd m st.debts/\eU st.debts/\Mx st.debts/\TabAt A H
theorem xP.imp{A:ql}{H H':Hp}{o:Option Addr}{g:Option Game}(f:∀b k,aZ A.Game H b k->aZ A.Game H' b k)(h:xP A H o g):xP A H' o g:=by
 rcases h with h|⟨a,k,h1,h2,h3,h4⟩
 ·exact .inl h
 ·exact .inr ⟨a,k,h1,h2,f _ _ h3,h4⟩
structure Fr(A:ql)(H H':Hp):Prop where
 il:∀b ns,IL H b ns->IL H' b ns
 ga:∀b g,aZ A.Game H b g->aZ A.Game H' b g
 fz:∀b o u,H b=some (.jb o u)->H' b=some (.jb o u)
 tb:TabAt A H->TabAt A H'
theorem Fr.of{A:ql}{H H':Hp}(s:ay H H'):Fr A H H':=⟨λb ns h=>s _ _ h,λb g h=>h.same s,λb o u h=>s _ _ h,λh=>h.same s⟩
theorem Fr.trans{A:ql}{H H1 H2:Hp}(a:Fr A H H1)(b:Fr A H1 H2):Fr A H H2:=⟨λc ns h=>b.il _ _ (a.il _ _ h),λc g h=>b.ga _ _ (a.ga _ _ h),λc o u h=>b.fz _ _ _ (a.fz _ _ _ h),λh=>b.tb (a.tb h)⟩
theorem mY.same{A:ql}{H H':Hp}{hd:Addr}{st:State}(s:ay H H')(h:mY A H hd st):mY A H' hd st:=by
 obtain⟨dx,gl,da,dd,m,os,h1,h2,h3,h4,h5,h6,h7⟩:=h;exact⟨dx,gl,da,dd,m,os,s _ _ h1,s _ _ h2,h3,bc h4 λ_ _ _ _ e=>e.imp λb k q=>q.same s,⟨s _ _ h5.1,s _ _ h5.2⟩,h6,h7.1,h7.2.same s⟩
structure NG(H:Hp)(D:Addr):Prop where
 ins:∀C dx n c d,H D≠some (.ins C dx (gf n c d))
 il:∀ns,¬IL H D ns
 ll:∀xss,xss≠[]->¬LL H D xss
 fz:∀o u,H D≠some (.jb o u)
theorem NG.UE{A:ql}{H H':Hp}{D:Addr}(n:NG H D)(b:jF D H H')(tb:TabAt A H->TabAt A H'):Fr A H H':=by
 have il:∀c ns,IL H c ns->IL H' c ns:=λc ns h=>b _ _ (λe=>n.il ns (by rw[<-e];exact h)) h;refine⟨il,λa g h=>?_,λc o u h=>b _ _ (λe=>n.fz o u (by rw[<-e];exact h)) h,tb⟩;obtain⟨dx,c,d,h1,h2,h3⟩:=h;refine⟨dx,c,d,b _ _ (λe=>n.ins _ _ _ _ _ (by rw[<-e];exact h1)) h1,il _ _ h2,?_⟩;rcases h3 with h3|⟨p,h4,h5,h6⟩
 ·exact .inl h3
 ·refine .inr ⟨p,h4,h5,?_⟩;obtain⟨ps,h7,h8⟩:=id h6;refine⟨ps,b _ _ (λe=>n.ll _ (λz=>h5 (List.map_eq_nil_iff.mp z)) (by rw[<-e];exact h6)) h7,bc h8 λ_ _ _ _ e=>il _ _ e⟩
theorem NG.fr{A:ql}{H H':Hp}{D:Addr}(n:NG H D)(nt:∀ps,H D≠some (.qX ps))(b:jF D H H'):Fr A H H':=n.UE b λh=>h.but b nt λo φ=>n.fz o _
theorem RQ{H:Hp}{D:Addr}{ps:Array Value}(h:H D=some (.qX ps)):NG H D:=
 ⟨λC dx n c d e=>(by rw[h]at e;cases e),λns e=>(by have e:H D=_:=e;rw[h]at e;cases e),λxss hx ⟨ps,e,_⟩=>(by rw[h]at e;cases e),λo u e=>(by rw[h]at e;cases e)⟩
theorem pY{α β:Type}{R:α->β->Prop}:∀{l:List α}{m:List β},Paired R l m->∀{i:Nat}{y:β},m[i]?=some y->∃x,l[i]?=some x/\R x y
 |_,_,.nil,_,_,h=>by simp at h
 |_,_,.cons r t,0,y,h=>⟨_,rfl,by
   have e:_=y:=Option.some.inj h
   rw[<-e];exact r⟩
 |_,_,.cons r t,i+1,y,h=>pY t (i:=i) h
theorem N3{A:ql}{H:Hp}{gl:Addr}{os:List (Option Addr)}{gs:List (Option Game)}(h:H gl=some (.lst (os.map vO)))(hl:os.length=8)(hp:Paired (xP A H) os gs):NG H gl:=by
 obtain⟨o,r,rfl⟩:∃o r,os=o::r:=by
  cases os with
  |nil=>simp at hl
  |cons o r=>exact⟨o,r,rfl⟩
 refine⟨λC dx n c d e=>(by rw[h]at e;cases e),λns e=>?_,λxss hx e=>?_,λo u e=>(by rw[h]at e;cases e)⟩
 ·have e:H gl=_:=e;rw[h]at e;have e:=HO.lst.inj (Option.some.inj e);cases ns with
  |nil=>cases e
  |cons z zs=>
   have:=(List.cons.inj e).1;cases o<;>cases this
 ·obtain⟨ps,e1,e2⟩:=e;rw[h]at e1;have e1:=HO.lst.inj (Option.some.inj e1);cases xss with
  |nil=>exact hx rfl
  |cons xs xss=>
   cases e2 with
   |cons q t=>
    have e3:=(List.cons.inj e1).1;cases hp with
    |cons sl _=>
     rcases sl with⟨rfl,_⟩|⟨a,k,rfl,_,⟨dx,c,d,g1,_⟩,_⟩
     ·cases e3
     ·have e3:V.ref a=V.ref _:=e3;have:=V.ref.inj e3;rw[<-this]at q;have q:H a=_:=q;rw[g1]at q;cases q
theorem P9{H:Hp}{m:Addr}{kvs:List (List Key×V)}(h:H m=some (.dT kvs)):NG H m:=
 ⟨λC dx n c d e=>(by rw[h]at e;cases e),λns e=>(by have e:H m=_:=e;rw[h]at e;cases e),λxss hx ⟨ps,e,_⟩=>(by rw[h]at e;cases e),λo u e=>(by rw[h]at e;cases e)⟩
theorem N2{H:Hp}{da C dx m:Addr}(h:H da=some (.ins C dx (df m))):NG H da:=
 ⟨λC' dx' n c d e=>(by
   rw[h]at e;have e:=(HO.ins.inj (Option.some.inj e)).2.2;have:(df m).lookup ("n":Str)=(gf n c d).lookup ("n":Str):=by rw[e]
   rw[jn,wJ m (by decide)]at this
   cases this),λns e=>(by have e:H da=_:=e;rw[h]at e;cases e),λxss hx ⟨ps,e,_⟩=>(by rw[h]at e;cases e),λo u e=>(by rw[h]at e;cases e)⟩
theorem sE:∀(N:Nat)(ks:List Nat),ks.Nodup->(∀x∈ks,x<N)->ks.length<=N
 |0,ks,_,h=>by
  cases ks with
  |nil=>simp
  |cons a l=>exact absurd (h a mem_cons_self) (by omega)
 |N+1,ks,nd,h=>by
  have:=sE N (ks.erase N) (nd.erase N) λx hx=>by
   have h1:=h x (List.mem_of_mem_erase hx);have h2:x≠N:=λe=>by
    rw[e]at hx;exact(Nodup.not_mem_erase nd) hx
   omega
  rw[List.length_erase]at this
  split at this<;>omega
theorem nA{d:Debts}(h:Mx d)(ok:eU d):d.length<=100:=by
 have:=sE 100 (d.map λx=>10*x.1+x.2.1) ?_ ?_
 ·rw[length_map]at this;exact this
 ·unfold Nodup;rw[pairwise_map];refine Pairwise.imp_of_mem (λ{x y}hx hy hxy e=>hxy ?_) h;obtain⟨a1,a2,_⟩:=ok x hx;obtain⟨b1,b2,_⟩:=ok y hy;constructor<;>omega
 ·intro z hz;obtain⟨x,hx,rfl⟩:=mem_map.mp hz;obtain⟨a1,a2,_⟩:=ok x hx;show 10*x.1+x.2.1<100;omega
def yF(A:ql):Sp:=λvs H Q _=>∃p dx,vs=[.ref p]/\H p=some (.ins A.bD dx [])/\TabAt A H/\∀H',jF p H H'->mY A H' p Vbedah.start->Q .gc H'
theorem yn(T:Txt K mg A F):aT P w K mg base gU 3 A.fH F.fH ["self"] (yF A):=by
 refine T.qB.ok iB (λvs H Q E h=>?_) (λcdv Ar outer s H vs Q E hr h=>?_)
 ·obtain⟨p,dx,rfl,_⟩:=h;rfl
 ·obtain⟨p,dx,rfl,hp,tb,k⟩:=h
  refine⟨_,((ag (v9 (pv 0) (du (own:=[("slot",1)]) rfl iB.nd (cW rfl T.cQ (aa (bT rfl T.Kc) ae)) (oB iB) (λ_ _ _ _ _=>(fO 1 iB.nd (Or.inl rfl))) (λ_ _ _ _ _=>bC) (λ_ _ _ _ _=>sQ)) rfl)
   (ai (v9 (pv 0) (HX T.NW (DI T) (hr.mono (by decide)) rfl T.P1 (E9 T) .nil az) rfl)))),?_⟩
  refine⟨8,rfl,by decide,by decide,λD hD=>?_⟩;refine cq (cp (n:=8)) hD (λ_ _=>trivial) (λ_=>true) (λ_ y _=>y=V.gc) bh (by decide) ?_ ?_
  ·walk_at"F";walk_at"u"
  walk_at"r";have eacc:acc=(replicate 8 (none:Option Addr)).map vO:=by rw[bJ hpair,aN];rfl
  rw[eacc]at hacc;refine⟨_,rfl,p,A.bD,dx,_,rfl,s1 _ _ hp,T.ax,T.jr,(by show 0<1000;decide),?_⟩;intro x dx2 nx nd ne;have Dp:D≠p:=λe=>by rw[e,hp]at hD;cases hD
  have gp:upd H1 p (.ins A.bD dx (jE "games" (.ref D) [])) p=some (.ins A.bD dx (jE "games" (.ref D) [])):=af;have gD:upd H1 p (.ins A.bD dx (jE "games" (.ref D) [])) D=some (.lst ((replicate 8 (none:Option Addr)).map vO)):=by rw[ak Dp];exact hacc
  have gb:jF p H (upd H1 p (.ins A.bD dx (jE "games" (.ref D) []))):=(ay.but s1).trans jF.upd;generalize upd H1 p (.ins A.bD dx (jE "games" (.ref D) []))=G1 at gp gD gb nx nd;refine⟨x,dx2,rfl,af,λm nm=>⟨rfl,?_⟩⟩;have mx:m≠x:=λe=>by rw[e,af]at nm;cases nm
  have s2:ay G1 (upd (upd (upd (upd G1 dx2 (.own x)) x (.ins A.Debts dx2 [])) m (.dT [])) x (.ins A.Debts dx2 (df m))):=λb o e=>by
   have bx:=aq e nx;have e2:upd (upd G1 dx2 (.own x)) x (.ins A.Debts dx2 []) b=some o:=by rw[ak bx,ak (aq e nd)];exact e
   rw[ak bx,ak (aq e2 nm)];exact e2
  have hx:upd (upd (upd (upd G1 dx2 (.own x)) x (.ins A.Debts dx2 [])) m (.dT [])) x (.ins A.Debts dx2 (df m)) x=some (.ins A.Debts dx2 (df m)):=af;have hm:upd (upd (upd (upd G1 dx2 (.own x)) x (.ins A.Debts dx2 [])) m (.dT [])) x (.ins A.Debts dx2 (df m)) m=some (.dT []):=by rw[ak mx,af]
  generalize upd (upd (upd (upd G1 dx2 (.own x)) x (.ins A.Debts dx2 [])) m (.dT [])) x (.ins A.Debts dx2 (df m))=H3 at s2 hx hm;refine⟨_,rfl,p,A.bD,dx,_,rfl,s2 _ _ gp,T.ax,T.bX,(by show 1<1000;decide),k _ ((gb.trans (ay.but s2)).trans jF.upd) ?_⟩;have xp:x≠p:=Ne.symm (aq gp nx);have mp:m≠p:=λe=>by rw[e,s2 _ _ gp]at hm;cases hm
  refine⟨dx,D,x,dx2,m,replicate 8 none,af,(by rw[ak Dp];exact s2 _ _ gD),rfl,?_,⟨by rw[ak xp];exact hx,by rw[ak mp];exact hm⟩,(λx hx=>(List.not_mem_nil hx).elim),Pairwise.nil,tb.but ((gb.trans (ay.but s2)).trans jF.upd) (λps e=>by rw[hp]at e;cases e) (λo u e=>by rw[hp]at e;cases e)⟩;have l:xP A (upd H3 p (.ins A.bD dx (PN D x))) none none:= .inl ⟨rfl,rfl⟩;exact .cons l (.cons l (.cons l (.cons l (.cons l (.cons l (.cons l (.cons l .nil)))))))
def qe(K:PySem.W.Frag)(A:ql):Sp:=λvs H Q E=>∃(p:V)(z:Int),vs=[p,.int z]/\(slotOk z=true->Q .gc H)/\(slotOk z=false->oC K A (-1) H E)
theorem xB(z:Int):slotOk z=true↔0<=z/\z<8:=by
 unfold slotOk within;simp;omega
theorem bz(T:Txt K mg A F):aT P w K mg base (kJ P w) 4 A.bV F.bV ["self","slot"] (qe K A):=by
 refine br T.jJ p8 (λvs H Q E h=>?_) (λcdv Ar outer s H vs Q E hr h O=>?_)
 ·obtain⟨p,z,rfl,_⟩:=h;rfl
 ·obtain⟨p,z,rfl,k1,k2⟩:=h
  refine⟨_,((ai (eP (oz (Ia HQ CB ao (pv 1) (bT rfl T.Kc)))
   (ai (eK O T.yK (z6 T) (hr.mono (by decide)) (Bc T) rfl T.LO))
   bL))),?_⟩
  have bad:¬(0<=z/\z<8)->slotOk z=false:=λe=>by
   cases q:slotOk z with
   |false=>rfl
   |true=>exact absurd ((xB z).mp q) e
  walk_at"D";refine eJ (λh1=>?_) λh1=>?_
  ·have h1:0<=z:=by simpa using h1
   refine⟨_,_,rfl,rfl,_,rfl,?_⟩;refine eJ (λh2=>?_) λh2=>?_
   ·have h2:¬z<8:=by simpa using h2
    intro dx hdx;exact k2 (bad λe=>h2 e.2) _ _ dx (ah hdx) af T.yK.cl T.zK
   ·have h2:z<8:=by simpa using h2
    exact k1 ((xB z).mpr ⟨h1,h2⟩)
  ·have h1:¬0<=z:=by simpa using h1
   refine⟨_,rfl,B4 ?_⟩;intro dx hdx;exact k2 (bad λe=>h1 e.1) _ _ dx (ah hdx) af T.yK.cl T.zK
def ve(K:PySem.W.Frag)(A:ql):Sp:=λvs H Q E=>∃(hd:Addr)(z:Int)(st:State),vs=[.ref hd,.int z]/\mY A H hd st/\(slotOk z=false->oC K A (-1) H E)/\(slotOk z=true->st.games.getD z.toNat none=none->oC K A (-2) H E)/\∀a g,slotOk z=true->st.games.getD z.toNat none=some g->aZ A.Game H a g->GW g->Q (.ref a) H
theorem aG(T:Txt K mg A F):aT P w K mg base (kJ P w) 5 A.cU F.cU ["self","slot"] (ve K A):=by
 refine br T.lO lq (λvs H Q E h=>?_) (λcdv Ar outer s H vs Q E hr h O=>?_)
 ·obtain⟨p,z,st,rfl,_⟩:=h;rfl
 ·obtain⟨p,z,st,rfl,hS,k1,k2,k3⟩:=h
  refine⟨_,((ag (aM (aO (pv 0) T.ax T.bw (bz T) hr (bA T) O.pass (aa (pv 1) ae)))
   (ag (fC 2 lq.nd (aU aE (aQ (pv 0) rfl) (pv 1) (λ_ _=>rfl)))
   (ag (eP (bG JD (pv 2) sQ (bI _))
   (ai (eK O T.IK (Cm T) (hr.mono (by decide)) (Dd T) rfl T.NB))
   bL)
   (ai (aB (pv 2))))))),?_⟩
  walk_at"c";refine⟨_,rfl,p,dx,_,rfl,h1,c9 _ _ (by decide) (by decide),_,rfl,_,z,rfl,λhz=>?_,k1⟩;obtain⟨z0,z8⟩:=(xB z).mp hz;obtain⟨o,ho⟩:∃o,os[z.toNat]?=some o:=⟨os[z.toNat]'(by omega),by simp⟩
  obtain⟨go,hgo,sl⟩:=i8 h4 ho;have eg:st.games.getD z.toNat none=go:=by rw[getD_eq_getElem?_getD,hgo];rfl
  have ea:MS (os.map vO) z=some (vO o):=at_of (j:=z.toNat) (by omega) (by rw[getElem?_map,ho];rfl);refine⟨_,rfl,p,A.bD,dx,_,_,rfl,h1,T.ax,T.jr,B3 _ _,_,rfl,gl,_,_,_,rfl,rfl,aH.of h2,ea,?_⟩;refine⟨_,rfl,rfl,_,rfl,?_⟩;rcases sl with⟨rfl,rfl⟩|⟨a,g,rfl,rfl,hG,W⟩
  ·refine B4 ?_;intro dx hdx;exact k2 hz eg _ _ dx (ah hdx) af T.IK.cl T.JV
  ·refine Jo ?_;exact⟨_,rfl,k3 a g hz eg hG W⟩
theorem CD{α β:Type}{R:α->β->Prop}{x:α}{y:β}:∀{l:List α}{m:List β},Paired R l m->R x y->∀{i:Nat},Paired R (l.set i x) (m.set i y)
 |_,_,.nil,_,_=> .nil
 |_,_,.cons r t,h,0=> .cons h t
 |_,_,.cons r t,h,i+1=> .cons r (CD t h)
def AF(K:PySem.W.Frag)(A:ql):Sp:=λvs H Q E=>∃(hd a:Addr)(z:Int)(st:State)(g:Game),vs=[.ref hd,.int z,.ref a]/\mY A H hd st/\slotOk z=true/\aZ A.Game H a g/\GW g/\((g.costs.all λc=>within c (-FAR) FAR)=true->∀H',Fr A H H'->mY A H' hd {st with games:=st.games.set z.toNat (some g)}->Q .gc H')/\((g.costs.all λc=>within c (-FAR) FAR)=false->oC K A (-7) H E)
theorem dC(T:Txt K mg A F):aT P w K mg base (kJ P w) 4 A.gj F.gj ["self","slot","game"] (AF K A):=by
 refine br T.rP Au (λvs H Q E h=>?_) (λcdv Ar outer s H vs Q E hr h O=>?_)
 ·obtain⟨p,a,z,st,g,rfl,_⟩:=h;rfl
 ·obtain⟨p,a,z,st,g,rfl,hS,hz,hG,W,k1,k2⟩:=h
  refine⟨_,((ag (eP (K2 (Ow (bG Ob (aL (BD rfl) (by rfl) T.GO By (aa (aQ (pv 2) rfl) ae)) (bT rfl T.qu) (bI _)) (JI (bG CB (aL (Rt rfl) (by rfl) T.Sv Ro (aa (aQ (pv 2) rfl) ae)) (oU j9 (bT rfl T.qu)) (bI _)))))
   (ai (eK O T.mX (sF T) (hr.mono (by decide)) (uL T) rfl T.B9))
   bL)
   (ai (Ov (pv 2) (Oo (aQ (pv 0) rfl) (pv 1) set_list))))),?_⟩
  walk_at"c";walk_at"z";refine⟨_,rfl,a,A.Game,gx,_,_,rfl,q1,T.aA,T.aV,cx _ _ _,c,_,rfl,aH.of q2,?_⟩;have cl:=W.len;have c0:0<g.costs.length:=by rw[cl];exact pos_of_ne_zero (by simp)
  refine⟨c0,λmx hm hup=>?_⟩
  have bad:∀x∈g.costs,within x (-FAR) FAR=false->oC K A (-7) H E:=λx hx e=>k2 (by
   rw[List.all_eq_false]
   exact⟨x,hx,by rw[e];simp⟩)
  refine⟨_,_,rfl,rfl,_,rfl,?_⟩;walk_at"i"
  ·have hh:1000000000000<mx:=by simpa using hh
   refine B4 ?_;intro dx hdx;exact bad mx hm (by unfold within FAR;simp;omega) _ _ dx (ah hdx) af T.mX.cl T.pk
  ·have hh:¬1000000000000<mx:=by simpa using hh
   refine⟨_,rfl,a,A.Game,gx,_,_,rfl,q1,T.aA,T.aV,cx _ _ _,c,_,rfl,aH.of q2,c0,λmn hn hlo=>?_⟩;walk_at"D";refine eJ (λh6=>?_) λh6=>?_
   ·have h6:mn< -1000000000000:=by simpa using h6
    intro dx hdx;exact bad mn hn (by unfold within FAR;simp;omega) _ _ dx (ah hdx) af T.mX.cl T.pk
   ·have h6:¬mn< -1000000000000:=by simpa using h6
    have all:(g.costs.all λc=>within c (-FAR) FAR)=true:=by
     rw[all_eq_true];intro x hx;have a1:=hup x hx;have a2:=hlo x hx;unfold within FAR;simp;omega
    obtain⟨z0,z8⟩:=(xB z).mp hz;have ng:=N3 h2 h3 h4;refine⟨_,rfl,_,rfl,p,A.bD,dx,_,_,rfl,h1,T.ax,T.jr,B3 _ _,_,rfl,gl,_,_,z.toNat,rfl,rfl,h2,?_,?_⟩
    ·rw[length_map,h3];have:=ur (n:=8) (z:=z.toNat) (by omega);rw[show((z.toNat:Nat):Int)=z by omega]at this;exact this
    ·have fr:Fr A H (upd H gl (.lst ((os.map vO).set z.toNat (.ref a)))):=ng.fr (λps e=>by rw[h2]at e;cases e) jF.upd;have es:(os.map vO).set z.toNat (.ref a)=(os.set z.toNat (some a)).map vO:=map_set vO os z.toNat (some a);refine k1 all _ fr ?_;have pg:p≠gl:=λe=>by rw[e,h2]at h1;cases h1
     have dg:da≠gl:=λe=>by rw[<-e,h5.1.1]at h2;cases h2
     have mg:m≠gl:=λe=>by rw[<-e,h5.1.2]at h2;cases h2
     refine⟨dx,gl,da,dd,m,os.set z.toNat (some a),by rw[ak pg];exact h1,by rw[af,es],by rw[length_set];exact h3,?_,⟨by rw[ak dg];exact h5.1.1,by rw[ak mg];exact h5.1.2⟩,h5.2.1,h5.2.2.1,fr.tb h5.2.2.2⟩;exact CD (bc h4 λ_ _ _ _ e=>e.imp fr.ga) (.inr ⟨a,g,rfl,rfl,fr.ga _ _ hG,W⟩)
theorem uI{l:List Vbedah.Q}(h:l.length<=1000):(l.map toldQ).flatten.length<=100000:=by
 have e:(l.map toldQ).flatten.length=2*l.length:=by
  induction l with
  |nil=>rfl
  |cons x r ih=>
   have:=ih (by rw[length_cons]at h;omega);rw[map_cons,List.flatten_cons,length_append,this,length_cons];show 2+_=_;omega
 omega
theorem nY(l:List Vbedah.Q):toldQs l=(l.map toldQ).flatten:=by unfold toldQs;rw[flatMap_def]
theorem Eo{α β:Type}(f:List β->α->List β)(h:∀l a,(f l a).length=l.length+1):∀(xs:List α)(l:List β),(xs.foldl f l).length=l.length+xs.length
 |[],l=>rfl
 |x::xs,l=>by rw[foldl_cons,Eo f h xs,h,length_cons];omega
theorem K0(g:Game):(potentials g).length=2^g.n:=by
 unfold potentials;rw[Eo _ (λl a=>by simp)];unfold Vbedah.groups size;simp
theorem QW{K:PySem.W.Frag}{H:Hp}:∀ns:List Int,A7 K H (ns.map V.int) (ns.map PyData.int)
 |[]=> .nil
 |z::ns=> .cons (.int z) (QW ns)
theorem Kl{K:PySem.W.Frag}{H:Hp}{p:Addr}{ns:List Int}(h:IL H p ns):Dp K H (.ref p) (.list (ns.map PyData.int)):= .lst (aH.of h) (QW ns)
theorem lay_ints:∀ns:List Int,PyData.canLayAll0 (ns.map PyData.int)=true
 |[]=>rfl
 |z::ns=>by rw[map_cons,PyData.canLayAll0,lay_ints ns];rfl
theorem G8:∀ns:List Int,PyData.depthAll (ns.map PyData.int)=0
 |[]=>rfl
 |z::ns=>by rw[map_cons,PyData.depthAll,G8 ns];rfl
theorem shaped_ints(ns:List Int):SeqAt.shaped (.list (ns.map PyData.int))=true:=by
 unfold SeqAt.shaped;rw[and_eq_true,decide_eq_true_iff,PyData.canLay0,PyData.depth,G8];exact⟨lay_ints ns,by decide⟩
theorem Hc:∀ns ms:List Int,PyData.eqvAll (ns.map PyData.int) (ms.map PyData.int)=decide (ns=ms)
 |[],[]=>by simp[PyData.eqvAll]
 |[],_::_=>by simp[PyData.eqvAll]
 |_::_,[]=>by simp[PyData.eqvAll]
 |a::ns,b::ms=>by
  rw[map_cons,map_cons,PyData.eqvAll,Hc ns ms,PyData.eqv];by_cases q:a=b
  ·subst q;simp
  ·simp[q]
theorem Ek(ns ms:List Int):PyData.eqv (.list (ns.map PyData.int)) (.list (ms.map PyData.int))=decide (ns=ms):=by rw[PyData.eqv,Hc]
def Nw(H:Hp)(q:Addr):Prop:=∀b ns,IL H b ns->b≠q
theorem nw{H:Hp}{q:Addr}(h:H q=none):Nw H q:=λb ns e=>aq e h
theorem Qa{A:ql}{H H':Hp}{q:Addr}(f:Fr A H H')(h:H' q=none):Nw H q:=λb ns e=>aq (f.il _ _ e) h
def xC(K:PySem.W.Frag)(A:ql)(n:Nat)(f:State->List Int->List Int->State×List Int):Sp:=λvs H Q E=>∃(hd pn pr:Addr)(st:State)(ns row:List Int),vs=[.ref hd,.ref pn,.ref pr]/\mY A H hd st/\IL H pn ns/\ns.length=n/\IL H pr row/\row.length<=1000/\(∀q H',Fr A H H'->mY A H' hd (f st ns row).1->Nw H q->IL H' q (f st ns row).2->Q (.ref q) H')/\(∀x,f st ns row=(st,[x])->oC K A x H E)
theorem len0{ns:List Int}(h:ns.length=0):ns=[]:=List.length_eq_zero_iff.mp h
theorem mq{ns:List Int}(h:ns.length=1):∃a,ns=[a]:=by
 match ns,h with
 |[a],_=>exact⟨a,rfl⟩
theorem rb{ns:List Int}(h:ns.length=2):∃a b,ns=[a,b]:=by
 match ns,h with
 |[a,b],_=>exact⟨a,b,rfl⟩
theorem yh{ns:List Int}(h:ns.length=3):∃a b c,ns=[a,b,c]:=by
 match ns,h with
 |[a,b,c],_=>exact⟨a,b,c,rfl⟩
section
variable{st:State}{z:Int}{G:Game->List Int}{G2:Game->State×List Int}{g:Game}
theorem mQ(h:slotOk z=false):inSlot st z G2=(st,[-1]):=by unfold inSlot;rw[if_pos h]
theorem j6(h:slotOk z=true)(h2:st.games.getD z.toNat none=none):inSlot st z G2=(st,[-2]):=by unfold inSlot;rw[if_neg (by rw[h];simp),h2]
theorem j7(h:slotOk z=true)(h2:st.games.getD z.toNat none=some g):inSlot st z G2=G2 g:=by unfold inSlot;rw[if_neg (by rw[h];simp),h2]
theorem fg(h:slotOk z=false):asks st z G=(st,[-1]):=mQ h
theorem dj(h:slotOk z=true)(h2:st.games.getD z.toNat none=none):asks st z G=(st,[-2]):=j6 h h2
theorem dk(h:slotOk z=true)(h2:st.games.getD z.toNat none=some g):asks st z G=(st,G g):=j7 (G2:=λg=>(st,G g)) h h2
end
def n0(ns:List Int):Int:=ns.getD 0 0
def n1(ns:List Int):Int:=ns.getD 1 0
def n2(ns:List Int):Int:=ns.getD 2 0
theorem Lr{g:Game}(W:GW g):(Vbedah.groups g.n).map g.cost=g.costs:=by
 unfold Vbedah.groups size;exact ke (h:=id) W.len (λi x hx=>by show g.costs.getD i 0=x;rw[getD_eq_getElem?_getD,hx];rfl)|>.trans (map_id _)
def BJ:State->List Int->List Int->State×List Int:=λst ns row=>does st (.costs (n0 ns))
theorem Ab(T:Txt K mg A F):aT P w K mg base (kJ P w) 6 A.dO F.dO ["holdings","numbers","row"] (xC K A 1 BJ):=by
 refine br T.lT Ay (λvs H Q E h=>?_) (λcdv Ar outer s H vs Q E hr h O=>?_)
 ·walk_at"e"
 ·walk_at"b";refine⟨_,((ai (aB (lH pJ (by rfl) T.Fe AU (aa (aQ (aO (pv 0) T.ax T.aF (aG T) hr (aI T) O.pass (aa (aU aE (pv 1) ao (λ_ _=>rfl)) ae)) rfl) ae))))),?_⟩;obtain⟨z,rfl⟩:=mq hl;walk_at"c";walk_at"a";walk_at"z";refine⟨a,A.Game,gx,_,_,rfl,q1,T.aA,T.aV,cx _ _ _,c,_,rfl,.inl (aH.of q2),λl hl2=>?_⟩;have ef:BJ st [z] row=(st,(Vbedah.groups g.n).map g.cost):=dk e1 e2;rw[ef,Lr W]at k1;exact k1 l _ (Fr.of (ah hl2)) (hS.same (ah hl2)) (nw hl2) af
def pL:State->List Int->List Int->State×List Int:=λst ns row=>does st (.dividends (n0 ns))
theorem uX(T:Txt K mg A F):aT P w K mg base (kJ P w) 6 A.bP F.bP ["holdings","numbers","row"] (xC K A 1 pL):=by
 refine br T.iU vb (λvs H Q E h=>?_) (λcdv Ar outer s H vs Q E hr h O=>?_)
 ·walk_at"e"
 ·walk_at"b";refine⟨_,((ai (aB (aw (FW T) hr T.Hu T.rT.kp (GK T) az (aa (aO (pv 0) T.ax T.aF (aG T) hr (aI T) O.pass (aa (aU aE (pv 1) ao (λ_ _=>rfl)) ae)) ae))))),?_⟩;obtain⟨z,rfl⟩:=mq hl;walk_at"c";walk_at"a";refine⟨a,g,rfl,hG,W,λq H' s nq hq=>?_⟩;have ef:pL st [z] row=(st,(Vbedah.groups g.n).map (dividend g)):=dk e1 e2;rw[ef]at k1;exact k1 q H' (Fr.of s) (hS.same s) (nw nq) hq
def BO:State->List Int->List Int->State×List Int:=λst ns row=>does st (.share (n0 ns))
theorem Ah(T:Txt K mg A F):aT P w K mg base (kJ P w) 6 A.dW F.dW ["holdings","numbers","row"] (xC K A 1 BO):=by
 refine br T.lZ AA (λvs H Q E h=>?_) (λcdv Ar outer s H vs Q E hr h O=>?_)
 ·walk_at"e"
 ·walk_at"b";refine⟨_,((ai (aB (aw (nJ T) hr T.sr T.oo.kp (rG T) az (aa (aw (Ez T) hr T.Hy T.wN.kp (GQ T) az (aa (aO (pv 0) T.ax T.aF (aG T) hr (aI T) O.pass (aa (aU aE (pv 1) ao (λ_ _=>rfl)) ae)) ae)) ae))))),?_⟩;obtain⟨z,rfl⟩:=mq hl;walk_at"c";walk_at"a";refine⟨a,g,rfl,hG,W,λq H1 s1 nq hq=>?_⟩;refine⟨q,_,rfl,hq.pl,?_,λu H2 s2 nu hu=>?_⟩
  ·exact uI (le_trans (by rw[show(share g).length=g.n by unfold share;simp];exact le_trans W.n8 (by decide)) (show 256<=1000 by decide))
  have ef:BO st [z] row=(st,toldQs (share g)):=dk e1 e2;rw[ef]at k1;have s:=s1.trans s2;exact k1 u H2 (Fr.of s) (hS.same s) (nw (s1.none nu)) (by rw[nY];exact hu)
def n4:State->List Int->List Int->State×List Int:=λst ns row=>does st (.potentials (n0 ns))
theorem sJ(T:Txt K mg A F):aT P w K mg base (kJ P w) 6 A.bK F.bK ["holdings","numbers","row"] (xC K A 1 n4):=by
 refine br T.iG ua (λvs H Q E h=>?_) (λcdv Ar outer s H vs Q E hr h O=>?_)
 ·walk_at"e"
 ·walk_at"b";refine⟨_,((ai (aB (aw (nJ T) hr T.sr T.oo.kp (rG T) az (aa (aw (DM T) hr T.FO T.pQ.kp (Ff T) az (aa (aO (pv 0) T.ax T.aF (aG T) hr (aI T) O.pass (aa (aU aE (pv 1) ao (λ_ _=>rfl)) ae)) ae)) ae))))),?_⟩;obtain⟨z,rfl⟩:=mq hl;walk_at"c";walk_at"a";refine⟨a,g,rfl,hG,W,λq H1 s1 nq hq=>?_⟩;refine⟨q,_,rfl,hq.pl,?_,λu H2 s2 nu hu=>?_⟩
  ·exact uI (le_trans (by rw[K0];exact W.pow) (show 256<=1000 by decide))
  have ef:n4 st [z] row=(st,toldQs (potentials g)):=dk e1 e2;rw[ef]at k1;have s:=s1.trans s2;exact k1 u H2 (Fr.of s) (hS.same s) (nw (s1.none nu)) (by rw[nY];exact hu)
def BQ:State->List Int->List Int->State×List Int:=λst ns row=>does st (.swing (n0 ns))
theorem Aj(T:Txt K mg A F):aT P w K mg base (kJ P w) 6 A.dY F.dY ["holdings","numbers","row"] (xC K A 1 BQ):=by
 refine br T.l5 AB (λvs H Q E h=>?_) (λcdv Ar outer s H vs Q E hr h O=>?_)
 ·walk_at"e"
 ·walk_at"b";refine⟨_,((ai (aB (aw (nJ T) hr T.sr T.oo.kp (rG T) az (aa (aw (L6 T) hr T.NS T.BS.kp (MX T) az (aa (aO (pv 0) T.ax T.aF (aG T) hr (aI T) O.pass (aa (aU aE (pv 1) ao (λ_ _=>rfl)) ae)) ae)) ae))))),?_⟩;obtain⟨z,rfl⟩:=mq hl;walk_at"c";walk_at"a";refine⟨a,g,rfl,hG,W,λq H1 s1 nq hq=>?_⟩;refine⟨q,_,rfl,hq.pl,?_,λu H2 s2 nu hu=>?_⟩
  ·exact uI (le_trans (by rw[show(swing g).length=g.n by unfold swing;simp];exact le_trans W.n8 (by decide)) (show 256<=1000 by decide))
  have ef:BQ st [z] row=(st,toldQs (swing g)):=dk e1 e2;rw[ef]at k1;have s:=s1.trans s2;exact k1 u H2 (Fr.of s) (hS.same s) (nw (s1.none nu)) (by rw[nY];exact hu)
def Fx:State->List Int->List Int->State×List Int:=λst ns row=>does st (.idle (n0 ns))
theorem Cr(T:Txt K mg A F):aT P w K mg base (kJ P w) 6 A.eY F.eY ["holdings","numbers","row"] (xC K A 1 Fx):=by
 refine br T.oh tZ (λvs H Q E h=>?_) (λcdv Ar outer s H vs Q E hr h O=>?_)
 ·walk_at"e"
 ·walk_at"b"
  refine⟨_,((ag (fC 3 tZ.nd (aw (Am T) hr T.Cc T.l8.kp (Bs T) az (aa (aO (pv 0) T.ax T.aF (aG T) hr (aI T) O.pass (aa (aU aE (pv 1) ao (λ_ _=>rfl)) ae)) ae)))
   (ai (aB (aR j3 (bb (aa (aL aK (by rfl) T.eO cC (aa (pv 3) ae)) ae)) (pv 3)))))),?_⟩
  obtain⟨z,rfl⟩:=mq hl;walk_at"c";walk_at"a";refine⟨a,g,rfl,hG,W,λq H1 s1 nq hq=>?_⟩;have il:(Vbedah.idle g).length<=8:=by
   unfold Vbedah.idle;exact le_trans (length_filter_le _ _) (by rw[length_range];exact W.n8)
  refine⟨_,rfl,q,_,rfl,.inl (aH.of hq),(by show 1<=sizeLine;decide),λt ht=>?_⟩;have hq2:=(ah (o:= .lst [.int ((((nats (Vbedah.idle g)).map V.int).length:Nat):Int)]) ht) _ _ hq;refine⟨_,rfl,t,q,_,_,rfl,rfl,af,hq2,?_,λu nu=>?_⟩
  ·rw[length_map];unfold nats;rw[length_map];exact le_trans (show 1+_<=1000 by omega) (by decide)
  have ef:Fx st [z] row=(st,ofNat (Vbedah.idle g).length::nats (Vbedah.idle g)):=dk e1 e2;rw[ef]at k1;refine k1 u _ (Fr.of ((s1.trans (ah ht)).trans (ah nu))) (hS.same ((s1.trans (ah ht)).trans (ah nu))) (nw ((s1.trans (ah ht)).none nu)) ?_;show upd _ u _ u=_;rw[af,length_map];unfold nats;rw[length_map];rfl
def Fu:State->List Int->List Int->State×List Int:=λst ns row=>does st (.cost (n0 ns) (n1 ns))
theorem PJ{g:Game}(W:GW g)(c:Int):within c 0 (ofNat g.all)=decide (0<=c/\c<(g.costs.length:Int)):=by
 rw[W.len];have:0<2^g.n:=pos_of_ne_zero (by simp);unfold within Game.all size;rw[Bool.eq_iff_iff];simp only[and_eq_true,decide_eq_true_iff];show _/\c<=((2^g.n-1:Nat):Int)↔_;omega
theorem Co(T:Txt K mg A F):aT P w K mg base (kJ P w) 6 A.eV F.eV ["holdings","numbers","row"] (xC K A 2 Fu):=by
 refine br T.n9 tW (λvs H Q E h=>?_) (λcdv Ar outer s H vs Q E hr h O=>?_)
 ·walk_at"e"
 ·walk_at"b"
  refine⟨_,((ag (fC 3 tW.nd (aO (pv 0) T.ax T.aF (aG T) hr (aI T) O.pass (aa (aU aE (pv 1) ao (λ_ _=>rfl)) ae)))
   (ag (eP (oz (iq (aO (pv 3) T.aA T.jY (jZ T) hr (kL T) az (aa (aU aE (pv 1) ao (λ_ _=>rfl)) ae))))
   (ai (eK O T.pC (qF T) (hr.mono (by decide)) (rE T) rfl T.Ew))
   bL)
   (ai (aB (bb (aa (aU aE (aQ (pv 3) rfl) (aU aE (pv 1) ao (λ_ _=>rfl)) (λ_ _=>rfl)) ae))))))),?_⟩
  obtain⟨z,y,rfl⟩:=rb hl;walk_at"c";walk_at"a";walk_at"z";have ef:Fu st [z,y] row=(st,if within y 0 (ofNat g.all)=false then [-5]else [g.cost y.toNat]):=dk e1 e2;rw[PJ W]at ef;refine⟨_,rfl,a,gx,_,rfl,q1,iJ _ _ _ (by decide) (by decide) (by decide),_,rfl,pn,_,_,_,rfl,rfl,aH.of hn,at_of (j:=1) rfl rfl,a,g,y,rfl,hG,_,rfl,?_⟩;walk_at"i"
  ·have hh:decide (0<=y/\y<(g.costs.length:Int))=false:=(not_eq_true' _).mp hh;rw[hh,if_pos rfl]at ef;intro dx hdx;exact k2 _ ef _ _ dx (ah hdx) af T.pC.cl T.uf
  ·have hh:0<=y/\y<(g.costs.length:Int):=by simpa using hh
   rw[decide_eq_true hh,if_neg (by simp)]at ef;rw[ef]at k1;have gy:g.costs[y.toNat]?=some (g.cost y.toNat):=by
    unfold Game.cost;rw[getD_eq_getElem?_getD,getElem?_eq_getElem (by omega)];rfl
   refine⟨_,rfl,a,A.Game,gx,_,_,rfl,q1,T.aA,T.aV,cx _ _ _,_,rfl,pn,_,_,_,rfl,rfl,aH.of hn,at_of (j:=1) rfl rfl,c,_,_,_,rfl,rfl,aH.of q2,at_of (j:=y.toNat) (by omega) (by rw[getElem?_map,gy];rfl),(by show 1<=sizeLine;decide),λq nq=>?_⟩;exact k1 q _ (Fr.of (ah nq)) (hS.same (ah nq)) (nw nq) af
def x9:State->List Int->List Int->State×List Int:=λst ns row=>does st (.dearer (n0 ns))
theorem yo(T:Txt K mg A F):aT P w K mg base (kJ P w) 6 A.cY F.cY ["holdings","numbers","row"] (xC K A 1 x9):=by
 refine br T.kM o5 (λvs H Q E h=>?_) (λcdv Ar outer s H vs Q E hr h O=>?_)
 ·walk_at"e"
 ·walk_at"b"
  refine⟨_,((ag (fC 3 o5.nd (aw (Al T) hr T.Cb T.l7.kp (Br T) az (aa (aO (pv 0) T.ax T.aF (aG T) hr (aI T) O.pass (aa (aU aE (pv 1) ao (λ_ _=>rfl)) ae)) ae)))
   (ag (eP (bG JD (pv 3) sQ (bI _))
   (ai (aB (bb (aa ao ae))))
   bL)
   (ai (aB (aR j3 (bb (aa ao ae)) (pv 3))))))),?_⟩
  obtain⟨z,rfl⟩:=mq hl;walk_at"c";walk_at"a";have ef:x9 st [z] row=(st,match dearer g with|none=>[0]|some x=>1::nats [x.1,x.2.1,x.2.2]):=dk e1 e2;refine⟨a,g,rfl,hG,W,λhdn H1 s1=>?_,λx hx p H1 s1 hp=>?_⟩
  ·rw[hdn]at ef;rw[ef]at k1;refine⟨_,rfl,rfl,_,rfl,B4 ?_⟩;refine⟨(by show 1<=sizeLine;decide),λq nq=>?_⟩;exact k1 q _ (Fr.of (s1.trans (ah nq))) (hS.same (s1.trans (ah nq))) (nw (s1.none nq)) af
  ·rw[hx]at ef;rw[ef]at k1;refine⟨_,rfl,rfl,_,rfl,Jo ?_⟩;refine⟨(by show 1<=sizeLine;decide),λt ht=>?_⟩;refine⟨_,rfl,t,p,_,_,rfl,rfl,af,(ah ht) _ _ hp,(by show 1+3<=sizeLine;decide),λu nu=>?_⟩;exact k1 u _ (Fr.of ((s1.trans (ah ht)).trans (ah nu))) (hS.same ((s1.trans (ah ht)).trans (ah nu))) (nw ((s1.trans (ah ht)).none nu)) af
def BI:State->List Int->List Int->State×List Int:=λst ns row=>does st (.alike (n0 ns))
theorem fq{α β:Type}{f:α->List β}{n:Nat}:∀l:List α,(∀x∈l,(f x).length<=n)->(l.flatMap f).length<=n*l.length
 |[],_=>by simp
 |x::l,h=>by
  have h1:=h x mem_cons_self;have h2:=fq l λy hy=>h y (mem_cons_of_mem _ hy);rw[flatMap_cons,length_append,length_cons,mul_add];omega
theorem KQ{g:Game}(W:GW g):(pairs g).length<=64:=by
 have h8:=W.n8;have:(pairs g).length<=g.n*(List.range g.n).length:=fq _ λi _=>by
  rw[length_map];exact le_trans (length_filter_le _ _) (by simp)
 rw[length_range]at this;exact le_trans this (Nat.mul_le_mul h8 h8)
theorem K1(l:List (Nat×Nat)):(PR l).flatten=l.flatMap λx=>nats [x.1,x.2]:=by
 unfold PR;rw[flatMap_def];rfl
theorem z7(T:Txt K mg A F):aT P w K mg base (kJ P w) 6 A.dJ F.dJ ["holdings","numbers","row"] (xC K A 1 BI):=by
 refine br T.lQ qS (λvs H Q E h=>?_) (λcdv Ar outer s H vs Q E hr h O=>?_)
 ·walk_at"e"
 ·walk_at"b"
  refine⟨_,((ag (fC 3 qS.nd (aw (Cn T) hr T.DD T.n6.kp (De T) az (aa (aO (pv 0) T.ax T.aF (aG T) hr (aI T) O.pass (aa (aU aE (pv 1) ao (λ_ _=>rfl)) ae)) ae)))
   (ai (aB (aR j3 (bb (aa (aL aK (by rfl) T.eO cC (aa (pv 3) ae)) ae)) (aw (nJ T) hr T.sr T.oo.kp (rG T) az (aa (pv 3) ae))))))),?_⟩
  obtain⟨z,rfl⟩:=mq hl;walk_at"c";walk_at"a";refine⟨a,g,rfl,hG,W,λp H1 s1 np hp=>?_⟩;have h64:=KQ W;obtain⟨ps,hp1,hp2⟩:=id hp;have pl:ps.length=(pairs g).length:=by rw[hp2.length];unfold PR;simp
  have fl:(PR (pairs g)).flatten.length<=128:=by
   rw[K1];exact le_trans (fq (n:=2) _ λx _=>le_refl _) (by omega)
  have ef:BI st [z] row=(st,ofNat (pairs g).length::(pairs g).flatMap λx=>nats [x.1,x.2]):=dk e1 e2;rw[ef]at k1;refine⟨_,rfl,p,_,rfl,.inl (aH.of hp1),(by show 1<=sizeLine;decide),λt ht=>?_⟩;refine⟨_,rfl,p,_,rfl,(hp.same (ah ht)).pl,by omega,λq H2 s2 nq hq=>?_⟩;refine⟨t,q,_,_,rfl,rfl,s2 _ _ af,hq,by rw[show(List.map V.int (PR (pairs g)).flatten).length=(PR (pairs g)).flatten.length from length_map _];exact le_trans (show 1+_<=1000 by omega) (by decide),λu nu=>?_⟩;refine k1 u _ (Fr.of (((s1.trans (ah ht)).trans s2).trans (ah nu))) (hS.same (((s1.trans (ah ht)).trans s2).trans (ah nu))) (nw (((s1.trans (ah ht)).trans s2).none nu)) ?_;show upd _ u _ u=_;rw[af,length_map,pl,K1];rfl
def uo:State->List Int->List Int->State×List Int:=λst ns row=>does st (.stable (n0 ns) (n1 ns) row)
theorem yt(T:Txt K mg A F):aT P w K mg base (kJ P w) 6 A.c7 F.c7 ["holdings","numbers","row"] (xC K A 2 uo):=by
 refine br T.kQ o8 (λvs H Q E h=>?_) (λcdv Ar outer s H vs Q E hr h O=>?_)
 ·walk_at"e"
 ·walk_at"b"
  refine⟨_,((ag (fC 3 o8.nd (aO (pv 0) T.ax T.aF (aG T) hr (aI T) O.pass (aa (aU aE (pv 1) ao (λ_ _=>rfl)) ae)))
   (ag (aM (aw (bo T) hr T.bt T.ba.kp (bq T) O.pass (aa (bb (aa (aU aE (pv 1) ao (λ_ _=>rfl)) ae)) (aa ao (aa (bT rfl T.je) ae)))))
   (ag (aM (aw (bo T) hr T.bt T.ba.kp (bq T) O.pass (aa (pv 2) (aa (oU j9 (bT rfl T.jH)) (aa (bT rfl T.jH) ae)))))
   (ag (aM (aw (kS T) hr T.mv T.hJ.kp (lJ T) O.pass (aa (pv 2) (aa (aQ (pv 3) rfl) ae))))
   (ai (aB (aw (F0 T) hr T.Hz T.rY.kp (GS T) az (aa (pv 3) (aa (aU aE (pv 1) ao (λ_ _=>rfl)) (aa (pv 2) ae))))))))))),?_⟩
  obtain⟨z,y,rfl⟩:=rb hl;walk_at"c";walk_at"a";have ef:uo st [z,y] row=(st,match qsOf y row with|none=>[-4]|some x=>if x.length≠g.n then [-4]else if covers g x=false then [2]else if stable g x=true then [1]else 0::ofNat (loudest g x).1::toldQ (loudest g x).2):=dk e1 e2;walk_at"z";refine⟨_,rfl,pn,_,_,_,rfl,rfl,aH.of hn,at_of (j:=1) rfl rfl,(by show 1<=sizeLine;decide),λt ht=>?_⟩;have s0:=ah (o:= .lst [.int y]) ht;refine⟨t,[y],1,1000000,rfl,aH.of af,λhw H1 s1=>?_,λhw=>?_⟩
  rotate_left
  ·have:qsOf y row=none:=by
    unfold qsOf;rw[if_neg];rintro⟨a1,_⟩;rw[all_cons,a1]at hw;cases hw
   rw[this]at ef;exact(k2 _ ef).same s0
  have hy:within y 1 1000000=true:=by simpa using hw
  have s01:=s0.trans s1;refine⟨_,rfl,_,rfl,pr,row,-1000000000000,1000000000000,rfl,aH.of (s01 _ _ hrow),λhw2 H2 s2=>?_,λhw2=>?_⟩
  rotate_left
  ·have:qsOf y row=none:=by
    unfold qsOf FAR;rw[if_neg];rintro⟨_,a2⟩;rw[a2]at hw2;cases hw2
   rw[this]at ef;exact(k2 _ ef).same s01
  have s02:=s01.trans s2;have eq:qsOf y row=some (row.map λa=>frac a y.toNat):=by
   unfold qsOf FAR;rw[if_pos ⟨hy,hw2⟩]
  rw[eq]at ef;replace ef:uo st [z,y] row=(st,if(row.map λa=>frac a y.toNat).length≠g.n then [-4]else stab g y.toNat row):=ef;rw[length_map]at ef;refine⟨_,rfl,_,rfl,a,A.Game,gx,_,_,rfl,s02 _ _ q1,T.aA,T.aY,jn _ _ _,pr,row,_,rfl,aH.of (s02 _ _ hrow),λhlen=>?_,λhlen=>?_⟩
  rotate_left
  ·rw[if_pos (by omega)]at ef;exact(k2 _ ef).same s02
  rw[if_neg (by omega)]at ef;rw[ef]at k1;obtain⟨y1,y2⟩:1<=y/\y<=1000000:=by
   unfold within at hy;simpa using hy
  refine⟨_,rfl,_,rfl,pn,_,_,_,rfl,rfl,aH.of (s02 _ _ hn),at_of (j:=1) rfl rfl,_,rfl,a,pr,g,y.toNat,row,?_,hG.same s02,W,s02 _ _ hrow,by omega,by omega,by omega,λq H3 s3 nq hq=>?_⟩
  ·show [V.ref a,V.int y,V.ref pr]=_;rw[show((y.toNat:Nat):Int)=y by omega]
  ·exact k1 q H3 (Fr.of (s02.trans s3)) (hS.same (s02.trans s3)) (nw (s02.none nq)) hq
theorem mS{st:State}{z:Int}{f:Unit->State×List Int}(h:slotOk z=false):toSlot st z f=(st,[-1]):=by unfold toSlot;rw[if_pos h]
theorem pq{st:State}{z:Int}{f:Unit->State×List Int}(h:slotOk z=true):toSlot st z f=f ():=by unfold toSlot;rw[if_neg (by rw[h];simp)]
theorem wd{st:State}{z:Int}{g:Game}(h:(g.costs.all λc=>within c (-FAR) FAR)=true):Vbedah.put st z g=({st with games:=st.games.set z.toNat (some g)},[ofNat g.n]):=by unfold Vbedah.put;rw[if_pos h]
theorem p6{st:State}{z:Int}{g:Game}(h:(g.costs.all λc=>within c (-FAR) FAR)=false):Vbedah.put st z g=(st,[-7]):=by unfold Vbedah.put;rw[if_neg (by rw[h];simp)]
theorem wU{n:Nat}{f:Nat->Int}(h1:1<=n)(h8:n<=8)(h0:f 0=0):GW (Vbedah.made n f):=by
 have p0:0<2^n:=pos_of_ne_zero (by simp);refine⟨h1,h8,by unfold Vbedah.made;simp[cb],?_,.inl rfl⟩;show((Vbedah.groups n).map f).getD 0 0=0;rw[getD_eq_getElem?_getD,getElem?_map,iV p0];exact h0
theorem Iw(l:List Nat):through l 0=0:=by
 unfold through;rw[show((List.range l.length).filter λi=>Vbedah.has 0 i)=[]from filter_eq_nil_iff.mpr λi _=>by unfold Vbedah.has;simp];rfl
theorem LG{g:Game}(W:GW g){m:Nat}(hm:m<2^g.n)(m0:m≠0):GW (Vbedah.merged g m):=by
 obtain⟨i,hi,hb⟩:=Kv m0 hm;have mem:i∈members g.n m:=bM.mpr ⟨hi,hb⟩;have fm:(members g.n m).headD 0∈members g.n m:=by
  cases e:members g.n m with
  |nil=>rw[e]at mem;cases mem
  |cons a l=>exact mem_cons_self
 refine wU ?_ ?_ ?_
 ·refine List.length_pos_of_mem (a:=(members g.n m).headD 0) (mem_filter.mpr ⟨mem_range.mpr (bM.mp fm).1,by simp⟩)
 ·exact le_trans (length_filter_le _ _) (by rw[length_range];exact W.n8)
 ·show g.cost (if Vbedah.has (through _ 0) _=true then _ else _)=0;rw[Iw,if_neg (by unfold Vbedah.has;simp)];exact W.zero
def BN:State->List Int->List Int->State×List Int:=λst ns row=>does st (.scale (n0 ns) (n1 ns) (n2 ns))
theorem Ag(T:Txt K mg A F):aT P w K mg base (kJ P w) 6 A.dU F.dU ["holdings","numbers","row"] (xC K A 3 BN):=by
 refine br T.lY qU (λvs H Q E h=>?_) (λcdv Ar outer s H vs Q E hr h O=>?_)
 ·walk_at"e"
 ·walk_at"b"
  refine⟨_,((ag (fC 3 qU.nd (aO (pv 0) T.ax T.aF (aG T) hr (aI T) O.pass (aa (aU aE (pv 1) ao (λ_ _=>rfl)) ae)))
   (ag (aM (aO (pv 0) T.ax T.bw (bz T) hr (bA T) O.pass (aa (aU aE (pv 1) ao (λ_ _=>rfl)) ae)))
   (ag (aM (aw (bo T) hr T.bt T.ba.kp (bq T) O.pass (aa (bb (aa (aU aE (pv 1) ao (λ_ _=>rfl)) ae)) (aa (oU j9 (bT rfl T.ni)) (aa (bT rfl T.ni) ae)))))
   (ag (aM (aO (pv 0) T.ax T.dB (dC T) hr (eC T) O.pass (aa (aU aE (pv 1) ao (λ_ _=>rfl)) (aa (aw (Cy T) hr T.DH T.ou.kp (Dq T) az (aa (pv 3) (aa (aU aE (pv 1) ao (λ_ _=>rfl)) ae))) ae))))
   (ai (aB (bb (aa (aQ (pv 3) rfl) ae))))))))),?_⟩
  obtain⟨z,y,x,rfl⟩:=yh hl;walk_at"c";walk_at"d";have ef:BN st [z,y,x] row=toSlot st y λ_=>if within x (-1000) 1000=false then(st,[-4])else Vbedah.put st y (scaled g x):=j7 e1 e2
  walk_at"g";rw[pq hz]at ef;refine⟨_,rfl,pn,_,_,_,rfl,rfl,aH.of hn,at_of (j:=2) rfl rfl,(by show 1<=sizeLine;decide),λt ht=>?_⟩;have s0:=ah (o:= .lst [.int x]) ht;refine⟨_,rfl,t,[x],-1000,1000,rfl,aH.of af,λhw H1 s1=>?_,λhw=>?_⟩
  rotate_left
  ·have hx:within x (-1000) 1000=false:=by simpa using hw
   rw[if_pos hx]at ef;exact(k2 _ ef).same s0
  have hx:within x (-1000) 1000=true:=by simpa using hw
  rw[if_neg (by rw[hx];simp)]at ef;have hx2: -1000<=x/\x<=1000:=by
   unfold within at hx;simpa using hx
  have s01:=s0.trans s1;refine⟨_,rfl,hd,dx,_,rfl,s01 _ _ h1,c9 _ _ (by decide) (by decide),_,rfl,pn,_,_,_,rfl,rfl,aH.of (s01 _ _ hn),at_of (j:=1) rfl rfl,_,rfl,_,rfl,pn,_,_,_,rfl,rfl,aH.of (s01 _ _ hn),at_of (j:=2) rfl rfl,a,g,x,rfl,hG.same s01,W,hx2.1,hx2.2,λc H2 s2 hc=>?_⟩;have s02:=s01.trans s2;have W2:GW (scaled g x):=wU W.n1 W.n8 (by rw[W.zero,Int.mul_zero]);refine⟨hd,c,y,st,_,rfl,hS.same s02,hz,hc,W2,λhall H3 fr hS3=>?_,λhall=>(k2 _ (ef.trans (p6 hall))).same s02⟩;rw[ef,wd hall]at k1;have fr3:=(Fr.of s02).trans fr;obtain⟨gx,c',d',q1,q2,q3⟩:=fr3.ga _ _ hG;walk_at"t";walk_at"v"
def Fv:State->List Int->List Int->State×List Int:=λst ns row=>does st (.dual (n0 ns) (n1 ns))
theorem Cp(T:Txt K mg A F):aT P w K mg base (kJ P w) 6 A.eW F.eW ["holdings","numbers","row"] (xC K A 2 Fv):=by
 refine br T.oa tX (λvs H Q E h=>?_) (λcdv Ar outer s H vs Q E hr h O=>?_)
 ·walk_at"e"
 ·walk_at"b"
  refine⟨_,((ag (fC 3 tX.nd (aO (pv 0) T.ax T.aF (aG T) hr (aI T) O.pass (aa (aU aE (pv 1) ao (λ_ _=>rfl)) ae)))
   (ag (aM (aO (pv 0) T.ax T.bw (bz T) hr (bA T) O.pass (aa (aU aE (pv 1) ao (λ_ _=>rfl)) ae)))
   (ag (aM (aO (pv 0) T.ax T.dB (dC T) hr (eC T) O.pass (aa (aU aE (pv 1) ao (λ_ _=>rfl)) (aa (aw (FX T) hr T.Hv T.rV.kp (GL T) az (aa (pv 3) ae)) ae))))
   (ai (aB (bb (aa (aQ (pv 3) rfl) ae)))))))),?_⟩
  obtain⟨z,y,rfl⟩:=rb hl;walk_at"c";walk_at"d";have ef:Fv st [z,y] row=toSlot st y λ_=>Vbedah.put st y (dual g):=j7 e1 e2;walk_at"g";rw[pq hz]at ef;refine⟨_,rfl,hd,dx,_,rfl,h1,c9 _ _ (by decide) (by decide),_,rfl,pn,_,_,_,rfl,rfl,aH.of hn,at_of (j:=1) rfl rfl,_,rfl,a,g,rfl,hG,W,λc H2 s02 hc=>?_⟩;have W2:GW (dual g):=wU W.n1 W.n8 (by rw[Nat.sub_zero,Int.sub_self]);refine⟨hd,c,y,st,_,rfl,hS.same s02,hz,hc,W2,λhall H3 fr hS3=>?_,λhall=>(k2 _ (ef.trans (p6 hall))).same s02⟩;rw[ef,wd hall]at k1;have fr3:=(Fr.of s02).trans fr;obtain⟨gx,c',d',q1,q2,q3⟩:=fr3.ga _ _ hG;walk_at"t";walk_at"v"
def Jl:State->List Int->List Int->State×List Int:=λst ns row=>does st (.sum (n0 ns) (n1 ns) (n2 ns))
theorem DK(T:Txt K mg A F):aT P w K mg base (kJ P w) 6 A.gv F.gv ["holdings","numbers","row"] (xC K A 3 Jl):=by
 refine br T.pN oA (λvs H Q E h=>?_) (λcdv Ar outer s H vs Q E hr h O=>?_)
 ·walk_at"e"
 ·walk_at"b"
  refine⟨_,((ag (fC 3 oA.nd (aO (pv 0) T.ax T.aF (aG T) hr (aI T) O.pass (aa (aU aE (pv 1) ao (λ_ _=>rfl)) ae)))
   (ag (fC 4 oA.nd (aO (pv 0) T.ax T.aF (aG T) hr (aI T) O.pass (aa (aU aE (pv 1) ao (λ_ _=>rfl)) ae)))
   (ag (aM (aO (pv 0) T.ax T.bw (bz T) hr (bA T) O.pass (aa (aU aE (pv 1) ao (λ_ _=>rfl)) ae)))
   (ag (eP (bG nN (aQ (pv 3) rfl) (aQ (pv 4) rfl) (bI _))
   (ai (eK O T.vF (uW T) (hr.mono (by decide)) (vI T) rfl T.DC))
   bL)
   (ag (aM (aO (pv 0) T.ax T.dB (dC T) hr (eC T) O.pass (aa (aU aE (pv 1) ao (λ_ _=>rfl)) (aa (aw (HM T) hr T.Ju T.vP.kp (IZ T) az (aa (pv 3) (aa (pv 4) ae))) ae))))
   (ai (aB (bb (aa (aQ (pv 3) rfl) ae)))))))))),?_⟩
  obtain⟨z,y,x,rfl⟩:=yh hl;walk_at"c";walk_at"d";have ef:Jl st [z,y,x] row=inSlot st y λh=>toSlot st x λ_=>if g.n≠h.n then(st,[-3])else Vbedah.put st x (Vbedah.sum g h):=j7 e1 e2
  refine⟨_,rfl,hd,dx,_,rfl,h1,c9 _ _ (by decide) (by decide),_,rfl,pn,_,_,_,rfl,rfl,aH.of hn,at_of (j:=1) rfl rfl,hd,y,st,rfl,hS,λe=>k2 _ (ef.trans (mQ e)),λe1 e2=>k2 _ (ef.trans (j6 e1 e2)),λb g' e3 e4 hG' W'=>?_⟩;rw[j7 e3 e4]at ef;refine⟨_,rfl,hd,dx,_,rfl,h1,c9 _ _ (by decide) (by decide),_,rfl,pn,_,_,_,rfl,rfl,aH.of hn,at_of (j:=2) rfl rfl,_,x,rfl,λhz=>?_,λhz=>k2 _ (ef.trans (mS hz))⟩;rw[pq hz]at ef;walk_at"z";obtain⟨gx',c',d',q1',q2',q3'⟩:=id hG';refine⟨_,rfl,a,A.Game,gx,_,_,rfl,q1,T.aA,T.aY,jn _ _ _,_,rfl,b,A.Game,gx',_,_,rfl,q1',T.aA,T.aY,jn _ _ _,rfl,_,rfl,?_⟩;walk_at"i"
  ·have hh:g.n≠g'.n:=λe=>by rw[e]at hh;simp at hh
   rw[if_pos hh]at ef;intro dx hdx;exact k2 _ ef _ _ dx (ah hdx) af T.vF.cl T.AO
  have hh:g.n=g'.n:=by
   by_cases q:g.n=g'.n
   ·exact q
   ·exfalso;apply hh;have:¬(g.n:Int)=(g'.n:Int):=by omega
    simp[this]
  rw[if_neg (by omega)]at ef;refine⟨_,rfl,hd,dx,_,rfl,h1,c9 _ _ (by decide) (by decide),_,rfl,pn,_,_,_,rfl,rfl,aH.of hn,at_of (j:=2) rfl rfl,_,rfl,_,rfl,a,b,g,g',rfl,hG,W,hG',W',hh,λc H2 s02 hc=>?_⟩;have W2:GW (Vbedah.sum g g'):=wU W.n1 W.n8 (by rw[W.zero,W'.zero];rfl);refine⟨hd,c,x,st,_,rfl,hS.same s02,hz,hc,W2,λhall H3 fr hS3=>?_,λhall=>(k2 _ (ef.trans (p6 hall))).same s02⟩;rw[ef,wd hall]at k1;have fr3:=(Fr.of s02).trans fr;obtain⟨gx,c',d',q1,q2,q3⟩:=fr3.ga _ _ hG;walk_at"t";walk_at"v"
def BL:State->List Int->List Int->State×List Int:=λst ns row=>does st (.merge (n0 ns) (n1 ns) (n2 ns))
theorem Ae(T:Txt K mg A F):aT P w K mg base (kJ P w) 6 A.dR F.dR ["holdings","numbers","row"] (xC K A 3 BL):=by
 refine br T.lW kU (λvs H Q E h=>?_) (λcdv Ar outer s H vs Q E hr h O=>?_)
 ·walk_at"e"
 ·walk_at"b"
  refine⟨_,((ag (fC 3 kU.nd (aO (pv 0) T.ax T.aF (aG T) hr (aI T) O.pass (aa (aU aE (pv 1) ao (λ_ _=>rfl)) ae)))
   (ag (aM (aO (pv 0) T.ax T.bw (bz T) hr (bA T) O.pass (aa (aU aE (pv 1) ao (λ_ _=>rfl)) ae)))
   (ag (eP (K2 (Ow (bG CA (aU aE (pv 1) ao (λ_ _=>rfl)) ao (bI _)) (JI (oz (iq (aO (pv 3) T.aA T.jY (jZ T) hr (kL T) az (aa (aU aE (pv 1) ao (λ_ _=>rfl)) ae)))))))
   (ai (eK O T.pC (qF T) (hr.mono (by decide)) (rE T) rfl T.Ew))
   bL)
   (ag (fC 4 kU.nd (aw (Cu T) hr T.DF T.oq.kp (Dl T) az (aa (pv 3) (aa (aU aE (pv 1) ao (λ_ _=>rfl)) ae))))
   (ag (aM (aO (pv 0) T.ax T.dB (dC T) hr (eC T) O.pass (aa (aU aE (pv 1) ao (λ_ _=>rfl)) (aa (pv 4) ae))))
   (ai (aB (bb (aa (aQ (pv 4) rfl) ae)))))))))),?_⟩
  obtain⟨z,y,x,rfl⟩:=yh hl;walk_at"c";walk_at"d";have ef:BL st [z,y,x] row=toSlot st y λ_=>if within x 1 (ofNat g.all)=false then(st,[-5])else Vbedah.put st y (Vbedah.merged g x.toNat):=j7 e1 e2
  walk_at"g";rw[pq hz]at ef;walk_at"z";have p0:0<2^g.n:=pos_of_ne_zero (by simp);have wi:within x 1 (ofNat g.all)=decide (x≠0/\(0<=x/\x<(g.costs.length:Int))):=by
   rw[W.len];unfold within Game.all size;rw[Bool.eq_iff_iff];simp only[and_eq_true,decide_eq_true_iff];show _/\x<=((2^g.n-1:Nat):Int)↔_;omega
  rw[wi]at ef;have bad:¬(x≠0/\(0<=x/\x<(g.costs.length:Int)))->oC K A (-5) H E:=λh=>by
   rw[decide_eq_false h,if_pos rfl]at ef;exact k2 _ ef
  refine⟨_,rfl,pn,_,_,_,rfl,rfl,aH.of hn,at_of (j:=2) rfl rfl,rfl,_,rfl,?_⟩;walk_at"i"
  ·have hh:x=0:=by simpa using hh
   refine B4 ?_;intro dx hdx;exact bad (λe=>e.1 hh) _ _ dx (ah hdx) af T.pC.cl T.uf
  have x0:x≠0:=by simpa using hh
  refine⟨_,rfl,a,gx,_,rfl,q1,iJ _ _ _ (by decide) (by decide) (by decide),_,rfl,pn,_,_,_,rfl,rfl,aH.of hn,at_of (j:=2) rfl rfl,a,g,x,rfl,hG,_,rfl,?_⟩;walk_at"i"
  ·have hh:decide (0<=x/\x<(g.costs.length:Int))=false:=(not_eq_true' _).mp hh;intro dx hdx;exact bad (λe=>by rw[decide_eq_true e.2]at hh;cases hh) _ _ dx (ah hdx) af T.pC.cl T.uf
  have hx:0<=x/\x<(g.costs.length:Int):=by simpa using hh
  rw[decide_eq_true ⟨x0,hx⟩,if_neg (by simp)]at ef;have hx2:x.toNat<2^g.n:=by have:=hx.2;rw[W.len]at this;omega
  refine⟨_,rfl,_,rfl,pn,_,_,_,rfl,rfl,aH.of hn,at_of (j:=2) rfl rfl,a,g,x.toNat,?_,hG,W,hx2,by omega,λc H2 s02 hc=>?_⟩
  ·show [V.ref a,V.int x]=_;rw[show((x.toNat:Nat):Int)=x by omega]
  have W2:GW (Vbedah.merged g x.toNat):=LG W hx2 (by omega);refine⟨_,rfl,hd,dx,_,rfl,s02 _ _ h1,c9 _ _ (by decide) (by decide),_,rfl,pn,_,_,_,rfl,rfl,aH.of (s02 _ _ hn),at_of (j:=1) rfl rfl,_,rfl,hd,c,y,st,_,rfl,hS.same s02,hz,hc,W2,λhall H3 fr hS3=>?_,λhall=>(k2 _ (ef.trans (p6 hall))).same s02⟩;rw[ef,wd hall]at k1;have fr3:=(Fr.of s02).trans fr;obtain⟨gx,c',d',q1,q2,q3⟩:=fr.ga _ _ hc;refine⟨_,rfl,c,A.Game,gx,_,_,rfl,q1,T.aA,T.aY,jn _ _ _,(by show 1<=sizeLine;decide),λq nq=>?_⟩;walk_at"v"
def Fw:State->List Int->List Int->State×List Int:=λst ns row=>does st (.game (n0 ns) (n1 ns) row)
theorem Cq(T:Txt K mg A F):aT P w K mg base (kJ P w) 5 A.eX F.eX ["holdings","numbers","row"] (xC K A 2 Fw):=by
 refine br T.og tY (λvs H Q E h=>?_) (λcdv Ar outer s H vs Q E hr h O=>?_)
 ·walk_at"e"
 ·walk_at"b"
  refine⟨_,((ag (aM (aO (pv 0) T.ax T.bw (bz T) hr (bA T) O.pass (aa (aU aE (pv 1) ao (λ_ _=>rfl)) ae)))
   (ag (fC 3 tY.nd (aU aE (pv 1) ao (λ_ _=>rfl)))
   (ag (aM (aw (bo T) hr T.bt T.ba.kp (bq T) O.pass (aa (bb (aa (pv 3) ae)) (aa ao (aa (bT rfl T.rK) ae)))))
   (ag (aM (aw (kS T) hr T.mv T.hJ.kp (lJ T) O.pass (aa (pv 2) (aa (aR jv (aR F3 ao (pv 3)) ao) ae))))
   (ag (aM (aw (bo T) hr T.bt T.ba.kp (bq T) O.pass (aa (pv 2) (aa (oU j9 (bT rfl T.kl)) (aa (bT rfl T.kl) ae)))))
   (ag (aM (aO (pv 0) T.ax T.dB (dC T) hr (eC T) O.pass (aa (aU aE (pv 1) ao (λ_ _=>rfl)) (aa (aw (fT T) hr T.gP T.dy.kp (gN T) az (aa (pv 3) (aa (aR j3 (bb (aa ao ae)) (pv 2)) ae))) ae))))
   (ai (aB (bb (aa (pv 3) ae))))))))))),?_⟩
  obtain⟨z,y,rfl⟩:=rb hl;walk_at"c";have ef:Fw st [z,y] row=if slotOk z=false then(st,[-1])else if within y 1 8=false\/row.length+1≠size y.toNat\/(row.all λx=>within x (-COST) COST)=false then(st,[-4])else Vbedah.put st z {n:=y.toNat,costs:=0::row,hours:=[]}:=rfl
  walk_at"p";rw[if_neg (by rw[hz];simp)]at ef;refine⟨_,rfl,pn,_,_,_,rfl,rfl,aH.of hn,at_of (j:=1) rfl rfl,?_⟩;refine⟨_,rfl,(by show 1<=sizeLine;decide),λt ht=>?_⟩;have s0:=ah (o:= .lst [.int y]) ht;refine⟨t,[y],1,8,rfl,aH.of af,λhw H1 s1=>?_,λhw=>?_⟩
  rotate_left
  ·have hx:within y 1 8=false:=by simpa using hw
   rw[if_pos (.inl hx)]at ef;exact(k2 _ ef).same s0
  have hy:within y 1 8=true:=by simpa using hw
  have hy2:1<=y/\y<=8:=by
   unfold within at hy;simpa using hy
  have s01:=s0.trans s1;have ey:(1:Int)*2^y.toNat-1=((2^y.toNat-1:Nat):Int):=by
   have:0<2^y.toNat:=pos_of_ne_zero (by simp);rw[one_mul,show(2:Int)^y.toNat=((2^y.toNat:Nat):Int) by simp];omega
  have p0:0<2^y.toNat:=pos_of_ne_zero (by simp);refine⟨_,rfl,_,rfl,_,_,rfl,rfl,⟨by omega,by omega,by decide⟩,_,_,rfl,rfl,pr,row,_,rfl,aH.of (s01 _ _ hrow),λhlen=>?_,λhlen=>?_⟩
  rotate_left
  ·have hlen:¬(row.length:Int)=(1:Int)*2^y.toNat-1:=hlen;rw[ey]at hlen;rw[if_pos (.inr (.inl (by unfold size;omega)))]at ef;exact(k2 _ ef).same s01
  have hlen:(row.length:Int)=(1:Int)*2^y.toNat-1:=hlen;rw[ey]at hlen;refine⟨_,rfl,_,rfl,pr,row,-1000000000,1000000000,rfl,aH.of (s01 _ _ hrow),λhw2 H2 s2=>?_,λhw2=>?_⟩
  rotate_left
  ·rw[if_pos (.inr (.inr hw2))]at ef;exact(k2 _ ef).same s01
  have s02:=s01.trans s2
  rw[if_neg (by
   rintro(h|h|h)
   ·rw[hy]at h;cases h
   ·unfold size at h;omega
   ·have h:(row.all λx=>within x (-1000000000) 1000000000)=false:=h
    rw[hw2]at h;cases h)]at ef
  refine⟨_,rfl,hd,dx,_,rfl,s02 _ _ h1,c9 _ _ (by decide) (by decide),_,rfl,pn,_,_,_,rfl,rfl,aH.of (s02 _ _ hn),at_of (j:=0) rfl rfl,_,rfl,(by show 1<=sizeLine;decide),λu nu=>?_⟩;refine⟨_,rfl,u,pr,_,_,rfl,rfl,af,(ah nu) _ _ (s02 _ _ hrow),by rw[length_map];exact le_trans (show 1+row.length<=1001 by omega) (by decide),λv nv=>?_⟩;refine⟨v,y.toNat,0::row,?_,af,λc H3 s3 hc=>?_⟩
  ·show [V.int y,V.ref v]=_;rw[show((y.toNat:Nat):Int)=y by omega]
  have s03:=((s02.trans (ah nu)).trans (ah nv)).trans s3;have W2:GW ⟨y.toNat,0::row,[]⟩:=⟨by show 1<=y.toNat;omega,by show y.toNat<=8;omega,by show row.length+1=2^y.toNat;omega,rfl,.inl rfl⟩
  refine⟨hd,c,z,st,_,rfl,hS.same s03,hz,hc,W2,λhall H4 fr hS4=>?_,λhall=>(k2 _ (ef.trans (p6 hall))).same s03⟩;rw[ef,wd hall]at k1;have fr3:=(Fr.of s03).trans fr;refine⟨_,rfl,(by show 1<=sizeLine;decide),λq nq=>?_⟩;refine k1 q _ (fr3.trans (Fr.of (ah nq))) (hS4.same (ah nq)) (Qa fr3 nq) ?_;show upd H4 q _ q=some (.lst [.int ((y.toNat:Nat):Int)]);rw[show((y.toNat:Nat):Int)=y by omega,af]
def nB:State->List Int->List Int->State×List Int:=λst ns row=>does st (.byOrder (n0 ns) row)
theorem vX(T:Txt K mg A F):aT P w K mg base (kJ P w) 6 A.cj F.cj ["holdings","numbers","row"] (xC K A 1 nB):=by
 refine br T.ji mJ (λvs H Q E h=>?_) (λcdv Ar outer s H vs Q E hr h O=>?_)
 ·walk_at"e"
 ·walk_at"b"
  refine⟨_,((ag (fC 3 mJ.nd (aO (pv 0) T.ax T.aF (aG T) hr (aI T) O.pass (aa (aU aE (pv 1) ao (λ_ _=>rfl)) ae)))
   (ag (eP (bG (Oc (SG hr)) (aL Fn (by rfl) T.GR Lm (aa (pv 2) ae)) (lH (Dy rfl) (by rfl) T.Fe AU (aa (ED rfl T.cQ (aa (aQ (pv 3) rfl) ae)) ae)) (bI _))
   (ai (eK O T.bO (cy T) (hr.mono (by decide)) (cO T) rfl T.ic))
   bL)
   (ai (aB (aw (w9 T) hr T.yi T.jT.kp (xR T) az (aa (pv 3) (aa (pv 2) ae)))))))),?_⟩
  obtain⟨z,rfl⟩:=mq hl;walk_at"c";walk_at"a";have ef:nB st [z] row=(st,match regionsOf g.n row with|none=>[-4]|some r=>if r.length≠g.n then [-4]else byOrder g r):=dk e1 e2;walk_at"z";have n1:=W.n1;have n8:=W.n8;refine⟨_,rfl,pr,row,rfl,aH.of hrow,λsrt p hperm hsort np=>?_⟩;have s1:=ah (o:= .lst (srt.map V.int)) np;have oi:=L7 n1 hperm hsort;have hp1:IL (upd H p (.lst (srt.map V.int))) p srt:=af;generalize upd H p (.lst (srt.map V.int))=H1 at s1 hp1;refine⟨_,rfl,a,A.Game,gx,_,_,rfl,s1 _ _ q1,T.aA,T.aY,jn _ _ _,_,rfl,by omega,by omega,λr nr=>?_⟩;have s2:=s1.trans (ah (o:= .IQ 0 (g.n:Int)) nr);refine⟨r,_,rfl,af,by omega,by omega,λl nl=>?_⟩;have hp2:=(ah (o:= .lst ((List.range (g.n:Int).toNat).map λ(i:Nat)=>V.int (i:Int))) nl) _ _ ((ah (o:= .IQ 0 (g.n:Int)) nr) _ _ hp1);have hl2:IL (upd (upd H1 r (.IQ 0 (g.n:Int))) l (.lst ((List.range (g.n:Int).toNat).map λ(i:Nat)=>V.int (i:Int)))) l ((List.range g.n).map λ(i:Nat)=>(i:Int)):=by
   show upd _ l _ l=_;rw[af,toNat_natCast,map_map];rfl
  have s3:=s2.trans (ah (o:= .lst ((List.range (g.n:Int).toNat).map λ(i:Nat)=>V.int (i:Int))) nl);generalize upd (upd H1 r (.IQ 0 (g.n:Int))) l (.lst ((List.range (g.n:Int).toNat).map λ(i:Nat)=>V.int (i:Int)))=H3 at s3 hp2 hl2;refine⟨_,_,Kl hp2,Kl hl2,shaped_ints _,shaped_ints _,_,rfl,?_⟩;rw[Ek];walk_at"i"
  ·have hh:¬srt=(List.range g.n).map λ(i:Nat)=>(i:Int):=by simpa using hh
   have hh:=λe=>hh (oi.mpr e);intro dx hdx;refine(k2 (-4) ?_).same s3 _ _ dx (ah hdx) af T.bO.cl T.d9;rw[ef];rcases DO g.n row with e|e
   ·rw[e]
   ·rw[e];show(st,if(row.map toNat).length≠g.n then [-4]else _)=_;rw[if_pos];rw[length_map]
    exactλe2=>hh ⟨e,e2⟩
  have hh:srt=(List.range g.n).map λ(i:Nat)=>(i:Int):=by simpa using hh
  obtain⟨er,el⟩:=oi.mp hh;rw[er]at ef;replace ef:nB st [z] row=(st,if(row.map toNat).length≠g.n then [-4]else byOrder g (row.map toNat)):=ef;rw[length_map,if_neg (by omega)]at ef;rw[ef]at k1;have cnd:(row.all λx=>within x 0 (ofNat g.n-1))=true/\distinct (row.map toNat)=true:=by
   unfold regionsOf at er
   split at er
   ·rename_i c;exact c.2
   ·cases er
  have mem:=lI.mp cnd.1;have back:=wq λx hx=>(mem x hx).1;refine⟨_,rfl,_,rfl,a,pr,g,row.map toNat,rfl,hG.same s3,W,by rw[back];exact s3 _ _ hrow,(iz _).mp cnd.2,by rw[length_map];exact el,λx hx=>?_,λq H4 s4 nq hq=>?_⟩
  ·obtain⟨y,hy,rfl⟩:=mem_map.mp hx;have:=mem y hy;have h5:y<=(g.n:Int)-1:=this.2;omega
  ·exact k1 q H4 (Fr.of (s3.trans s4)) (hS.same (s3.trans s4)) (nw (s3.none nq)) hq
def ya:State->List Int->List Int->State×List Int:=λst ns row=>does st (.rename (n0 ns) (n1 ns) row)
theorem x8:∀(ns acc:List Int),(ns.foldl step_dedup acc).length<=acc.length+ns.length/\((ns.foldl step_dedup acc).length=acc.length+ns.length↔ns.Nodup/\∀x∈ns,x∉acc)
 |[],acc=>by simp
 |v::r,acc=>by
  rw[foldl_cons];unfold step_dedup;by_cases q:v∈acc
  ·have qa:(acc.any λx=>x==v)=true:=any_eq_true.mpr ⟨v,q,by simp⟩;obtain⟨h1,h2⟩:=x8 r acc;rw[if_pos qa];rw[length_cons];refine⟨le_trans h1 (by omega),⟨λe=>?_,λe=>absurd q (e.2 v mem_cons_self)⟩⟩;exfalso;have h1:(r.foldl step_dedup acc).length<=_:=h1;have e:(r.foldl step_dedup acc).length=_:=e;omega
  ·have qa:(acc.any λx=>x==v)=false:=any_eq_false.mpr λx hx e=>q (by rw[<-(beq_iff_eq.mp e)];exact hx);obtain⟨h1,h2⟩:=x8 r (acc++[v]);rw[if_neg (by rw[qa];simp),length_cons];rw[length_append,length_cons,length_nil]at h1 h2;refine⟨le_trans h1 (by omega),?_⟩;rw[show acc.length+(r.length+1)=acc.length+(0+1)+r.length by omega];refine h2.trans ?_;rw[nodup_cons];constructor
   ·rintro⟨a,b⟩;refine⟨⟨λhv=>b v hv (by simp),a⟩,λx hx=>?_⟩;rcases mem_cons.mp hx with rfl|hx
    ·exact q
    ·exactλhxa=>b x hx (mem_append_left _ hxa)
   ·rintro⟨⟨a,b⟩,c⟩;refine⟨b,λx hx hxa=>?_⟩;rcases mem_append.mp hxa with hxa|hxa
    ·exact c x (mem_cons_of_mem _ hx) hxa
    ·rw[mem_singleton.mp hxa]at hx;exact a hx
theorem LB(ns:List Int):(firstMet (λi=>ns.getD i 0) ns.length).length=ns.length↔ns.Nodup:=by
 unfold firstMet;have e:(List.range ns.length).map (λi=>ns.getD i 0)=ns:=(ke (h:=id) rfl (λi x hx=>by rw[getD_eq_getElem?_getD,hx];rfl)).trans (map_id _);rw[e];have:=(x8 ns []).2;rw[length_nil,Nat.zero_add]at this;rw[this];simp
theorem yq(T:Txt K mg A F):aT P w K mg base (kJ P w) 6 A.c5 F.c5 ["holdings","numbers","row"] (xC K A 2 ya):=by
 refine br T.kO o6 (λvs H Q E h=>?_) (λcdv Ar outer s H vs Q E hr h O=>?_)
 ·walk_at"e"
 ·walk_at"b"
  refine⟨_,((ag (fC 3 o6.nd (aO (pv 0) T.ax T.aF (aG T) hr (aI T) O.pass (aa (aU aE (pv 1) ao (λ_ _=>rfl)) ae)))
   (ag (aM (aO (pv 0) T.ax T.bw (bz T) hr (bA T) O.pass (aa (aU aE (pv 1) ao (λ_ _=>rfl)) ae)))
   (ag (eP (bG CA (aL aK (by rfl) T.eO cC (aa (pv 2) ae)) ao (bI _))
   (ai (eK O T.bO (cy T) (hr.mono (by decide)) (cO T) rfl T.ic))
   bL)
   (ag (aM (aw (bo T) hr T.bt T.ba.kp (bq T) O.pass (aa (pv 2) (aa ao (aa (aR jv (aQ (pv 3) rfl) ao) ae)))))
   (ag (eP (bG nN (aL Dx (by rfl) T.eO cC (aa (lH (Ru rfl) (by rfl) T.Sw Rp (aa (pv 2) ae)) ae)) (aL aK (by rfl) T.eO cC (aa (pv 2) ae)) (bI _))
   (ai (eK O T.bO (cy T) (hr.mono (by decide)) (cO T) rfl T.ic))
   bL)
   (ag (aM (aO (pv 0) T.ax T.dB (dC T) hr (eC T) O.pass (aa (aU aE (pv 1) ao (λ_ _=>rfl)) (aa (aw (An T) hr T.Ce T.l9.kp (Bu T) az (aa (pv 3) (aa (pv 2) ae))) ae))))
   (ai (aB (bb (aa (aL aK (by rfl) T.eO cC (aa (pv 2) ae)) ae))))))))))),?_⟩
  obtain⟨z,y,rfl⟩:=rb hl;walk_at"c";walk_at"d";have ef:ya st [z,y] row=toSlot st y λ_=>match regionsOf g.n row with|none=>(st,[-4])|some r=>Vbedah.put st y (renamed g r):=j7 e1 e2
  walk_at"g";rw[pq hz]at ef;walk_at"z";have n8:=W.n8;have bad:regionsOf g.n row=none->oC K A (-4) H E:=λe=>k2 _ (by rw[ef,e]);refine⟨_,rfl,pr,_,rfl,.inl (aH.of hrow),rfl,_,rfl,?_⟩;rw[length_map];walk_at"i"
  ·have hh:row.length=0:=by simpa using hh
   intro dx hdx;refine bad ?_ _ _ dx (ah hdx) af T.bO.cl T.d9;unfold regionsOf;rw[List.length_eq_zero_iff.mp hh];rfl
  have r0:row.length≠0:=by simpa using hh
  have re:row.isEmpty=false:=by
   cases row with
   |nil=>exact absurd rfl r0
   |cons _ _=>rfl
  refine⟨_,rfl,_,rfl,a,A.Game,gx,_,_,rfl,q1,T.aA,T.aY,jn _ _ _,_,_,rfl,rfl,pr,row,0,(g.n:Int)-1,rfl,aH.of hrow,λhw H1 s1=>?_,λhw=>?_⟩
  rotate_left
  ·refine bad ?_;unfold regionsOf;rw[if_neg];rintro⟨_,h2,_⟩;have h2:(row.all λx=>within x 0 ((g.n:Int)-1))=true:=h2;rw[hw]at h2;cases h2
  have mem:=lI.mp hw;have pos:=λx hx=>(mem x hx).1;refine⟨_,rfl,pr,row,rfl,aH.of (s1 _ _ hrow),hrl,λt S nt=>?_⟩;have s2:=s1.trans (ah (o:= .set S (firstMet (λi=>row.getD i 0) row.length).length) nt);refine⟨t,S,_,rfl,af,le_trans (firstMet_length_le _ _) hrl,_,rfl,pr,_,rfl,.inl (aH.of (s2 _ _ hrow)),rfl,_,rfl,?_⟩;rw[length_map];have fm:=LB row;generalize(firstMet (λi=>row.getD i 0) row.length).length=ln at fm s2;walk_at"i"
  ·have hh:¬ln=row.length:=by
    intro e;rw[e]at hh;simp at hh
   intro dx hdx;refine(bad ?_).same s2 _ _ dx (ah hdx) af T.bO.cl T.d9;unfold regionsOf;rw[if_neg];rintro⟨_,_,h3⟩;exact hh (fm.mpr ((kd pos).mp ((iz _).mp h3)))
  have hh:ln=row.length:=by
   by_cases q:ln=row.length
   ·exact q
   ·exfalso;apply hh;have:¬(ln:Int)=(row.length:Int):=by omega
    simp[this]
  have nd:=(kd pos).mpr (fm.mp hh);have er:regionsOf g.n row=some (row.map toNat):=by
   unfold regionsOf;exact if_pos ⟨re,hw,(iz _).mpr nd⟩
  rw[er]at ef;have back:=wq pos;have lt:∀x∈row.map toNat,x<g.n:=λx hx=>by
   obtain⟨y,hy,rfl⟩:=mem_map.mp hx;have:=mem y hy;omega
  have r8:(row.map toNat).length<=8:=le_trans (sE g.n _ nd lt) n8;refine⟨_,rfl,hd,dx,_,rfl,s2 _ _ h1,c9 _ _ (by decide) (by decide),_,rfl,pn,_,_,_,rfl,rfl,aH.of (s2 _ _ hn),at_of (j:=1) rfl rfl,_,rfl,_,rfl,a,pr,g,row.map toNat,rfl,hG.same s2,W,by rw[back];exact s2 _ _ hrow,r8,lt,λc H3 s3 hc=>?_⟩;have s03:=s2.trans s3;have W2:GW (renamed g (row.map toNat)):=wU (by rw[length_map];omega) r8 (by rw[Iw];exact W.zero);refine⟨hd,c,y,st,_,rfl,hS.same s03,hz,hc,W2,λhall H4 fr hS4=>?_,λhall=>(k2 _ (ef.trans (p6 hall))).same s03⟩;rw[ef]at k1;replace k1:∀q H',Fr A H H'->mY A H' hd (Vbedah.put st y (renamed g (row.map toNat))).1->Nw H q->IL H' q (Vbedah.put st y (renamed g (row.map toNat))).2->Q (.ref q) H':=k1;rw[wd hall]at k1;have fr3:=(Fr.of s03).trans fr;refine⟨_,rfl,pr,_,rfl,.inl (aH.of (fr3.il _ _ hrow)),(by show 1<=sizeLine;decide),λq nq=>?_⟩;refine k1 q _ (fr3.trans (Fr.of (ah nq))) (hS4.same (ah nq)) (Qa fr3 nq) ?_;show upd H4 q _ q=some (.lst [.int (((row.map toNat).length:Nat):Int)]);rw[af,length_map,length_map]
theorem Eg{l:Nat}(hl:1<=l){p r:List Int}(hp:p.length=l):mZ l (p++r)=p::mZ l r:=by
 unfold mZ;rw[length_append,hp,add_comm l,Nat.add_div_right _ (by omega),range_succ_eq_map,map_cons,map_map];congr 1
 ·rw[Nat.zero_mul,List.drop_zero,List.take_append_of_le_length (by omega),List.take_of_length_le (by omega)]
 ·refine map_congr_left λi _=>?_;show((p++r).drop ((i+1)*l)).take l=_;rw[succ_mul,add_comm (i*l),<-hp,<-drop_drop,List.drop_left]
def O9(n:Nat)(p:List Int):Bool:=within (p.getD 0 0) 0 (ofNat (size n)-1)&&within (p.getD 1 0) (-1000000) 1000000
def Qe(p:List Int):Bool:=within (p.getD 0 0) 0 9&&(within (p.getD 1 0) 0 9&&(decide (p.getD 0 0≠p.getD 1 0)&&within (p.getD 2 0) 1 1000000000000))
def Tp(p:List Int):Nat×Int:=((p.getD 0 0).toNat,p.getD 1 0)
def Qm(p:List Int):Nat×Nat×Nat:=((p.getD 0 0).toNat,(p.getD 1 0).toNat,(p.getD 2 0).toNat)
theorem EC(n d:Nat):∀row:List Int,¬row.length%2=0->Vbedah.pairsOf n d row=none
 |[],h=>by simp at h
 |[_],_=>rfl
 |s::a::r,h=>by
  rw[Vbedah.pairsOf]
  split
  ·rw[EC n d r (by simp only[length_cons]at h;omega)];rfl
  ·rfl
theorem EB(n d:Nat):∀row:List Int,row.length%2=0->Vbedah.pairsOf n d row=if(mZ 2 row).all (O9 n)=true then some (((mZ 2 row).map Tp).map λx=>(x.1,frac x.2 d))else none
 |[],h=>rfl
 |[_],h=>by simp at h
 |s::a::r,h=>by
  have ih:=EB n d r (by simp only[length_cons]at h;omega);have e:mZ 2 (s::a::r)=[s,a]::mZ 2 r:=Eg (p:=[s,a]) (by decide) rfl;rw[Vbedah.pairsOf,ih,e,all_cons];have ek:O9 n [s,a]=(within s 0 (ofNat (size n)-1)&&within a (-1000000) 1000000):=rfl;rw[ek];by_cases q:within s 0 (ofNat (size n)-1)=true/\within a (-1000000) 1000000=true
  ·rw[if_pos q,q.1,q.2];show Option.map _ _=if(mZ 2 r).all (O9 n)=true then _ else _
   split<;>rfl
  ·rw[if_neg q,if_neg];rw[and_eq_true,and_eq_true]
   exactλh=>q h.1
theorem EX:∀row:List Int,¬row.length%3=0->transfersOf row=none
 |[],h=>by simp at h
 |[_],_=>rfl
 |[_,_],_=>rfl
 |s::a::b::r,h=>by
  rw[transfersOf]
  split
  ·rw[EX r (by simp only[length_cons]at h;omega)];rfl
  ·rfl
theorem EV:∀row:List Int,row.length%3=0->transfersOf row=if(mZ 3 row).all Qe=true then some ((mZ 3 row).map Qm)else none
 |[],h=>rfl
 |[_],h=>by simp at h
 |[_,_],h=>by simp at h
 |s::a::b::r,h=>by
  have ih:=EV r (by simp only[length_cons]at h;omega);have e:mZ 3 (s::a::b::r)=[s,a,b]::mZ 3 r:=Eg (p:=[s,a,b]) (by decide) rfl;rw[transfersOf,ih,e,all_cons];have ek:Qe [s,a,b]=(within s 0 9&&(within a 0 9&&(decide (s≠a)&&within b 1 FAR))):=rfl;rw[ek];by_cases q:within s 0 9=true/\within a 0 9=true/\s≠a/\within b 1 FAR=true
  ·rw[if_pos q,q.1,q.2.1,q.2.2.2,decide_eq_true q.2.2.1];show Option.map _ _=if(mZ 3 r).all Qe=true then _ else _
   split<;>rfl
  ·rw[if_neg q,if_neg];rw[and_eq_true,and_eq_true,and_eq_true,and_eq_true,decide_eq_true_iff]
   exactλh=>q h.1
theorem Ke{l:Nat}(hl:1<=l){row:List Int}{p:List Int}(h:p∈mZ l row):p.length=l:=by
 unfold mZ at h;obtain⟨i,hi,rfl⟩:=mem_map.mp h;have hi:=mem_range.mp hi;have:(i+1)*l<=row.length:=le_trans (Nat.mul_le_mul_right l hi) (Nat.div_mul_le_self _ _);rw[add_mul]at this;rw[length_take,length_drop];omega
theorem Eh{l:Nat}{row:List Int}(h:row.length<=1000):(mZ l row).length<=1000:=by
 unfold mZ;rw[length_map,length_range];exact le_trans (Nat.div_le_self _ _) h
def BP:State->List Int->List Int->State×List Int:=λst ns row=>does st (.shows (n0 ns) (n1 ns) row)
theorem Ai(T:Txt K mg A F):aT P w K mg base (kJ P w) 6 A.dX F.dX ["holdings","numbers","row"] (xC K A 2 BP):=by
 refine br T.l4 gR (λvs H Q E h=>?_) (λcdv Ar outer s H vs Q E hr h O=>?_)
 ·walk_at"e"
 ·walk_at"b"
  refine⟨_,((ag (fC 3 gR.nd (aO (pv 0) T.ax T.aF (aG T) hr (aI T) O.pass (aa (aU aE (pv 1) ao (λ_ _=>rfl)) ae)))
   (ag (aM (aw (bo T) hr T.bt T.ba.kp (bq T) O.pass (aa (bb (aa (aU aE (pv 1) ao (λ_ _=>rfl)) ae)) (aa ao (aa (bT rfl T.je) ae)))))
   (ag (fC 4 gR.nd (aw (zi T) hr T.Cd T.pP.kp (Bt T) O.pass (aa (pv 2) (aa ao ae))))
   (ag (dF O.own rfl (bp (pv 4)) (iX (n:=2) rfl (bg (fO 5 gR.nd (Or.inl rfl) (Or.inl rfl)) (bg (fO 6 gR.nd (Or.inl rfl) (Or.inl rfl)) gI)))
   (ag (eP (oz (iq (aO (pv 3) T.aA T.jY (jZ T) hr (kL T) az (aa (pv 5) ae))))
   (ai (eK O T.bO (cy T) (hr.mono (by decide)) (cO T) rfl T.ic))
   bL)
   (ai (aM (aw (bo T) hr T.bt T.ba.kp (bq T) O.pass (aa (bb (aa (pv 6) ae)) (aa (oU j9 (bT rfl T.jf)) (aa (bT rfl T.jf) ae))))))))
   (ai (aB (bb (aa (HW (iq (aw (sO T) hr T.uT T.iH.kp (uO T) az (aa (pv 3) (aa (aU aE (pv 1) ao (λ_ _=>rfl)) (aa (pv 4) ae))))) ao ao) ae))))))))),?_⟩
  obtain⟨z,y,rfl⟩:=rb hl;walk_at"c";walk_at"a";have ef:BP st [z,y] row=(st,match weightsOf g.n y row with|none=>[-4]|some w=>[if shows g w=true then 1 else 0]):=dk e1 e2;have bad:weightsOf g.n y row=none->oC K A (-4) H E:=λe=>k2 _ (by rw[ef,e]);walk_at"z";refine⟨_,rfl,pn,_,_,_,rfl,rfl,aH.of hn,at_of (j:=1) rfl rfl,(by show 1<=sizeLine;decide),λt ht=>?_⟩;have s0:=ah (o:= .lst [.int y]) ht;refine⟨t,[y],1,1000000,rfl,aH.of af,λhw H1 s1=>?_,λhw=>?_⟩
  rotate_left
  ·have hy:within y 1 1000000=false:=by simpa using hw
   exact(bad (by unfold weightsOf;rw[if_neg (by rw[hy];simp)])).same s0
  have hy:within y 1 1000000=true:=by simpa using hw
  have s01:=s0.trans s1;have ew:weightsOf g.n y row=Vbedah.pairsOf g.n y.toNat row:=by unfold weightsOf;rw[if_pos hy]
  refine⟨_,rfl,pr,row,2,rfl,aH.of (s01 _ _ hrow),hrl,by decide,by decide,λhev q H2 s2 nq hq=>?_,λhodd=>(bad (by rw[ew,EC _ _ _ hodd])).same s01⟩;have s02:=s01.trans s2;have ep:=EB g.n y.toNat row hev;rw[<-ew]at ep;have cl:=Eh (l:=2) hrl;have clen:∀p∈mZ 2 row,p.length=2:=λp hp=>Ke (by decide) hp;generalize mZ 2 row=cs at hq ep cl clen;obtain⟨ps,hq1,hq2⟩:=id hq;have pl:ps.length=cs.length:=hq2.length;refine⟨_,rfl,q,rfl,⟨_,aH.of hq1⟩,d7 (aJ (xs:=ps.map V.ref)) (λi σ H'=>∃v5 v6,σ=[some (.ref hd),some (.ref pn),some (.ref pr),some (.ref a),some (.ref q),v5,v6]/\ay H2 H'/\(cs.take i).all (O9 g.n)=true) ⟨_,_,rfl,ay.refl _,by simp⟩ (λi σ H' _ ⟨_,_,_,s,_⟩=>aH.of (s _ _ hq1)) ?_ ?_⟩
  ·rintro i x σ H3 H4 hi ⟨v5,v6,rfl,s3,hall⟩ s4 hx;obtain⟨u,xs,rfl,hxs,hu⟩:=C4 hq2 hx;obtain⟨x0,x1,rfl⟩:=rb (clen xs (mem_of_getElem? hxs));have sH:=s02.trans (s3.trans s4)
   have bd:O9 g.n [x0,x1]=false->oC K A (-4) H E:=λe=>bad (by
    rw[ep,if_neg];rw[all_eq_true];intro h;have:=h _ (mem_of_getElem? hxs);rw[e]at this
    cases this)
   refine⟨u,_,rfl,ra.of ((s3.trans s4) _ _ hu),rfl,_,_,rfl,_,_,rfl,rfl,?_⟩;refine⟨_,rfl,a,gx,_,rfl,sH _ _ q1,iJ _ _ _ (by decide) (by decide) (by decide),_,rfl,a,g,x0,rfl,hG.same sH,_,rfl,?_⟩;have gi:within x0 0 (ofNat (size g.n)-1)=decide (0<=x0/\x0<(g.costs.length:Int)):=by
    rw[W.len];unfold within size;rw[Bool.eq_iff_iff];simp only[and_eq_true,decide_eq_true_iff];show _/\x0<=((2^g.n:Nat):Int)-1↔_;omega
   have ek:O9 g.n [x0,x1]=(decide (0<=x0/\x0<(g.costs.length:Int))&&within x1 (-1000000) 1000000):=by rw[<-gi];rfl
   walk_at"i"
   ·have hh:decide (0<=x0/\x0<(g.costs.length:Int))=false:=(not_eq_true' _).mp hh;intro dx hdx;exact(bd (by rw[ek,hh];rfl)).same sH _ _ dx (ah hdx) af T.bO.cl T.d9
   have hh:decide (0<=x0/\x0<(g.costs.length:Int))=true:=by simpa using hh
   refine⟨_,rfl,(by show 1<=sizeLine;decide),λt2 ht2=>?_⟩;have s5:=ah (o:= .lst [.int x1]) ht2;refine⟨_,rfl,t2,[x1],-1000000,1000000,rfl,aH.of af,λhw2 H5 s6=>?_,λhw2=>?_⟩
   ·refine⟨_,_,rfl,(s3.trans s4).trans (s5.trans s6),?_⟩;rw[take_snoc hxs,all_append,hall];have:within x1 (-1000000) 1000000=true:=by simpa using hw2
    show(true&&(O9 g.n [x0,x1]&&true))=true;rw[ek,hh,this];rfl
   ·have:within x1 (-1000000) 1000000=false:=by simpa using hw2
    exact((bd (by rw[ek,this,Bool.and_false])).same sH).same s5
  ·rintro σ H3 ⟨v5,v6,rfl,s3,hall⟩;rw[length_map,pl,take_length]at hall;rw[if_pos hall]at ep;rw[ep]at ef;rw[ef]at k1;have sH:=s02.trans s3;have y12:1<=y/\y<=1000000:=by
    unfold within at hy;simpa using hy
   have ok:∀p∈cs,O9 g.n p=true:=all_eq_true.mp hall;have bnd:∀x∈cs.map Tp,x.1<2^g.n/\ -1000000<=x.2/\x.2<=1000000:=λx hx=>by
    obtain⟨p,hp,rfl⟩:=mem_map.mp hx;have:=ok p hp;unfold O9 within size at this;simp only[and_eq_true,decide_eq_true_iff]at this;obtain⟨⟨b1,b2⟩,b3,b4⟩:=this;have b2:p.getD 0 0<=((2^g.n:Nat):Int)-1:=b2;have p0:0<2^g.n:=pos_of_ne_zero (by simp);refine⟨?_,b3,b4⟩;show(p.getD 0 0).toNat<_;omega
   have ec:WL (cs.map Tp)=cs:=by
    unfold WL;rw[map_map]
    conv=>rhs;rw[<-map_id cs]
    refine map_congr_left λp hp=>?_;have:=ok p hp;obtain⟨x0,x1,rfl⟩:=rb (clen p hp);unfold O9 within at this;simp only[and_eq_true,decide_eq_true_iff]at this;have h0:0<=x0:=this.1.1;show [((x0.toNat:Nat):Int),x1]=[x0,x1]
    rw[show((x0.toNat:Nat):Int)=x0 by omega]
   refine⟨_,rfl,_,rfl,pn,_,_,_,rfl,rfl,aH.of (sH _ _ hn),at_of (j:=1) rfl rfl,_,rfl,a,q,g,y.toNat,cs.map Tp,?_,hG.same sH,W,by rw[ec];exact hq.same s3,by rw[length_map];exact cl,by omega,by omega,bnd,λH4 s4=>?_⟩
   ·show [V.ref a,V.int y,V.ref q]=_;rw[show((y.toNat:Nat):Int)=y by omega]
   refine⟨_,rfl,?_⟩;walk_at"i"
   ·refine⟨(by show 1<=sizeLine;decide),λu nu=>?_⟩;refine k1 u _ (Fr.of ((sH.trans s4).trans (ah nu))) (hS.same ((sH.trans s4).trans (ah nu))) (nw ((sH.trans s4).none nu)) ?_;show upd H4 u _ u=some (.lst ([if _ then 1 else 0].map V.int));rw[af,if_pos hh];rfl
   ·refine⟨(by show 1<=sizeLine;decide),λu nu=>?_⟩;refine k1 u _ (Fr.of ((sH.trans s4).trans (ah nu))) (hS.same ((sH.trans s4).trans (ah nu))) (nw ((sH.trans s4).none nu)) ?_;show upd H4 u _ u=some (.lst ([if _ then 1 else 0].map V.int));rw[af,if_neg hh];rfl
theorem BX:∀(l:List Nat)(a:Nat),l.foldl max a=a\/l.foldl max a∈l
 |[],a=> .inl rfl
 |x::l,a=>by
  rw[foldl_cons];rcases BX l (max a x)with h|h
  ·rw[h];rcases Nat.le_total a x with q|q
   ·rw[Nat.max_eq_right q];exact .inr mem_cons_self
   ·rw[Nat.max_eq_left q];exact .inl rfl
  ·exact .inr (mem_cons_of_mem _ h)
theorem Kt:∀(l:List Nat)(a:Nat),a<=l.foldl max a/\∀x∈l,x<=l.foldl max a
 |[],a=>⟨le_refl _,λx hx=>by cases hx⟩
 |x::l,a=>by
  rw[foldl_cons];obtain⟨h1,h2⟩:=Kt l (max a x);refine⟨le_trans (Nat.le_max_left _ _) h1,λy hy=>?_⟩;rcases mem_cons.mp hy with rfl|hy
  ·exact le_trans (Nat.le_max_right _ _) h1
  ·exact h2 y hy
theorem FH{l:List Nat}(h:l≠[]):greatest l∈l:=by
 unfold greatest;rcases BX l 0 with e|e
 ·cases l with
  |nil=>exact absurd rfl h
  |cons x r=>
   have:=(Kt (x::r) 0).2 x mem_cons_self;rw[e]at this;have x0:x=0:=by omega
   rw[e,x0];exact mem_cons_self
 ·exact e
theorem DB{l:List Nat}(h:∀x∈l,x=0):greatest l=0:=by
 unfold greatest;rcases BX l 0 with e|e
 ·exact e
 ·exact h _ e
theorem NU(n:Nat):members n 0=[]:=by
 unfold members;exact filter_eq_nil_iff.mpr λi _=>by unfold Vbedah.has;simp
theorem Nt{ds:List (List Nat)}{h:Nat}(w:DW ds h):GW (ofHours ds.length ds):=by
 have p0:0<2^ds.length:=pos_of_ne_zero (by simp);refine⟨w.n1,w.n8,by show((Vbedah.groups ds.length).map _).length=2^ds.length;rw[length_map,cb],?_,.inr ⟨rfl,h,w.h1,w.TV,w.row⟩⟩;show((Vbedah.groups ds.length).map _).getD 0 0=0;rw[getD_eq_getElem?_getD,getElem?_map,iV p0];show ofNat (greatest _)=0;rw[DB λx hx=>?_]
 ·rfl
 ·obtain⟨t,_,rfl⟩:=mem_map.mp hx;unfold demand;rw[NU];rfl
def Fy:State->List Int->List Int->State×List Int:=λst ns row=>does st (.peak (n0 ns))
theorem Cs(T:Txt K mg A F):aT P w K mg base (kJ P w) 6 A.eZ F.eZ ["holdings","numbers","row"] (xC K A 1 Fy):=by
 refine br T.oj fX (λvs H Q E h=>?_) (λcdv Ar outer s H vs Q E hr h O=>?_)
 ·walk_at"e"
 ·walk_at"b"
  refine⟨_,((ag (fC 3 fX.nd (aO (pv 0) T.ax T.aF (aG T) hr (aI T) O.pass (aa (aU aE (pv 1) ao (λ_ _=>rfl)) ae)))
   (ag (eP (bG JD (aQ (pv 3) rfl) sQ (bI _))
   (ai (eK O T.zO (w8 T) (hr.mono (by decide)) (xQ T) rfl T.Hr))
   bL)
   (ag (fC 4 fX.nd (aw (FZ T) hr T.Hx T.rX.kp (GP T) az (aa (aQ (pv 3) rfl) ae)))
   (ai (aB (aR j3 (bb (aa (pv 4) ae)) (aw (nJ T) hr T.sr T.oo.kp (rG T) az (aa (du (own:=[("region_demands",5)]) rfl fX.nd (bp (aQ (pv 3) rfl)) (oB fX) (λ_ _ _ _ _=>(fO 5 fX.nd (Or.inl rfl))) (λ_ _ _ _ _=>bC) (λ_ _ _ _ _=>(sR (aa (aU (si K rfl) (pv 5) (pv 4) (λ_ _=>rfl)) (aa ao ae))))) ae))))))))),?_⟩
  obtain⟨z,rfl⟩:=mq hl;walk_at"c";walk_at"a";have ef:Fy st [z] row=(st,if g.hours.isEmpty=true then [-6]else ofNat (peak g)::toldQs (peakShares g)):=dk e1 e2;walk_at"z";refine⟨_,rfl,a,A.Game,gx,_,_,rfl,q1,T.aA,T.iM,vQ _ _ _,rfl,_,rfl,?_⟩;rcases q3 with⟨rfl,hh⟩|⟨p,rfl,hne,ps,hp1,hp2⟩
  ·refine B4 ?_;rw[hh]at ef;intro dx hdx;exact k2 _ ef _ _ dx (ah hdx) af T.zO.cl T.D5
  refine Jo ?_;have n1:=W.n1;have n8:=W.n8;obtain⟨hlen,h,hh1,hh24,hrow'⟩:g.hours.length=g.n/\∃h,1<=h/\h<=24/\∀r∈g.hours,r.length=h:=by
   rcases W.Tn with e|e
   ·exact absurd e hne
   ·exact e
  have dw:DW g.hours h:=⟨by omega,by omega,hh1,hh24,hrow'⟩
  have pl:ps.length=g.n:=by rw[hp2.length,length_map,hlen]
  rw[if_neg (by cases e:g.hours with|nil=>exact absurd e hne|cons _ _=>simp)]at ef;rw[ef]at k1;have epk:peak g=((List.range h).map (demand g.hours g.hours.length (2^g.hours.length-1))).findIdx λx=>x==greatest ((List.range h).map (demand g.hours g.hours.length (2^g.hours.length-1))):=by
   unfold peak Game.all size;rw[dw.hc,hlen]
  have hpk:peak g<h:=by
   rw[epk];have:((List.range h).map (demand g.hours g.hours.length (2^g.hours.length-1))).findIdx (λx=>x==greatest ((List.range h).map (demand g.hours g.hours.length (2^g.hours.length-1))))<((List.range h).map (demand g.hours g.hours.length (2^g.hours.length-1))).length:=by
    refine List.findIdx_lt_length_of_exists ⟨_,FH ?_,by simp⟩;intro e;have:h=0:=by simpa using congrArg List.length e
    omega
   simpa using this
  refine⟨_,rfl,a,A.Game,gx,_,_,rfl,q1,T.aA,T.iM,vQ _ _ _,p,g.hours,h,rfl,dw,⟨ps,hp1,hp2⟩,λH1 s1=>?_⟩;rw[<-epk];refine⟨_,rfl,(by show 1<=sizeLine;decide),λt ht=>?_⟩;have s2:=s1.trans (ah (o:= .lst [.int ((peak g:Nat):Int)]) ht);have ht2:upd H1 t (.lst [.int ((peak g:Nat):Int)]) t=some (.lst [.int ((peak g:Nat):Int)]):=af;generalize upd H1 t (.lst [.int ((peak g:Nat):Int)])=H2 at s2 ht2;refine⟨_,rfl,a,A.Game,gx,_,_,rfl,s2 _ _ q1,T.aA,T.iM,vQ _ _ _,p,rfl,⟨_,aH.of (s2 _ _ hp1)⟩,λD hD=>?_⟩;refine cq (aJ (xs:=ps.map V.ref)) hD (λ_ s=>aH.of (s _ _ (s2 _ _ hp1))) (λ_=>true) (λi y H=>∃Tt,y= .ref Tt/\H Tt=some (.tup ((toldQ (whole (ofNat ((g.hours.getD i []).getD (peak g) 0)))).map V.int))) (λj y H H' hy b hh=>mR (f:=λi=>(toldQ (whole (ofNat ((g.hours.getD i []).getD (peak g) 0)))).map V.int) j y H H' hy b hh) (bF (by simp;omega)) ?_ ?_
  ·rintro i x H3 hi s3 hx ⟨acc,hacc⟩ Qn Qy qn qy;obtain⟨u,xs,rfl,hxs,hu⟩:=B7 hp2 hx;obtain⟨r,er,rfl⟩:=dq hxs;have rl:=hrow' r (mem_of_getElem? er);have gr:(r.map ofNat)[peak g]?=some (ofNat (r.getD (peak g) 0)):=by
    rw[getElem?_map,getD_eq_getElem?_getD,getElem?_eq_getElem (by omega)];rfl
   walk_at"I";refine⟨_,rfl,_,rfl,u,_,_,_,rfl,rfl,aH.of ((s2.trans s3) _ _ hu),iw gr,(by show 2<=sizeLine;decide),λv nv=>qy rfl _ _ (ah nv) ⟨v,rfl,?_⟩ (sC hacc nv)⟩;rw[af,show g.hours.getD i []=r by rw[getD_eq_getElem?_getD,er];rfl];rfl
  ·intro H3 acc s3 hacc hpair;rw[aN,length_map,pl]at hpair;obtain⟨vs,ev,hv⟩:=i9 (f:=λi=>toldQ (whole (ofNat ((g.hours.getD i []).getD (peak g) 0)))) hpair;have em:(List.range g.n).map (λi=>toldQ (whole (ofNat ((g.hours.getD i []).getD (peak g) 0))))=(peakShares g).map toldQ:=by
    unfold peakShares;rw[map_map];rfl
   rw[em]at hv;have tl:TL H3 D ((peakShares g).map toldQ):=⟨vs,by rw[hacc,ev],hv⟩
   have psl:(peakShares g).length=g.n:=by unfold peakShares;simp
   refine⟨D,_,rfl,tl.pl,uI (by omega),λw H4 s4 nw' hw=>?_⟩;rw[<-nY]at hw;have tql:(toldQs (peakShares g)).length<=1000:=by
    unfold toldQs;exact le_trans (fq (n:=2) _ λx _=>le_refl _) (by omega)
   refine⟨t,w,_,_,rfl,rfl,s4 _ _ (s3 _ _ ht2),hw,by rw[length_map];exact le_trans (show 1+(toldQs (peakShares g)).length<=1001 by omega) (by decide),λu nu=>?_⟩;have sH:=(s2.trans s3).trans s4;refine k1 u _ (Fr.of (sH.trans (ah nu))) (hS.same (sH.trans (ah nu))) (nw (sH.none nu)) af
def BK:State->List Int->List Int->State×List Int:=λst ns row=>does st (.hours (n0 ns) (n1 ns) (n2 ns) row)
theorem Ad(T:Txt K mg A F):aT P w K mg base (kJ P w) 5 A.dQ F.dQ ["holdings","numbers","row"] (xC K A 3 BK):=by
 refine br T.lV eS (λvs H Q E h=>?_) (λcdv Ar outer s H vs Q E hr h O=>?_)
 ·walk_at"e"
 ·walk_at"b"
  refine⟨_,((ag (aM (aO (pv 0) T.ax T.bw (bz T) hr (bA T) O.pass (aa (aU aE (pv 1) ao (λ_ _=>rfl)) ae)))
   (ag (fC 3 eS.nd (aU aE (pv 1) ao (λ_ _=>rfl)))
   (ag (fC 4 eS.nd (aU aE (pv 1) ao (λ_ _=>rfl)))
   (ag (aM (aw (bo T) hr T.bt T.ba.kp (bq T) O.pass (aa (bb (aa (pv 3) ae)) (aa ao (aa (bT rfl T.rK) ae)))))
   (ag (aM (aw (bo T) hr T.bt T.ba.kp (bq T) O.pass (aa (bb (aa (pv 4) ae)) (aa ao (aa (bT rfl T.Fi) ae)))))
   (ag (aM (aw (kS T) hr T.mv T.hJ.kp (lJ T) O.pass (aa (pv 2) (aa (aR kT (pv 3) (pv 4)) ae))))
   (ag (aM (aw (bo T) hr T.bt T.ba.kp (bq T) O.pass (aa (pv 2) (aa ao (aa (bT rfl T.wF) ae)))))
   (ag (kE (i:=5) (own:=[("region",6)]) rfl eS.nd rfl rfl (nX rfl rfl rfl (by decide+kernel)) (cW rfl T.cQ (aa (pv 3) ae)) (oB eS) (λ_ _ _ _ _=>(fO 6 eS.nd (Or.inl rfl))) (λ_ _ _ _ _=>bC) (λ_ _ _ _ _=>(oS (Il K rfl) (pv 2) (kf (aR kT (pv 6) (pv 4))) (kf (aR kT (aR iI (pv 6) ao) (pv 4))))))
   (ag (aM (aO (pv 0) T.ax T.dB (dC T) hr (eC T) O.pass (aa (aU aE (pv 1) ao (λ_ _=>rfl)) (aa (aw (vY T) hr T.wW T.jk.kp (wC T) az (aa (pv 5) ae)) ae))))
   (ai (aB (bb (aa (pv 3) ae)))))))))))))),?_⟩
  obtain⟨z,y,x,rfl⟩:=yh hl;walk_at"c";have ef:BK st [z,y,x] row=if slotOk z=false then(st,[-1])else if within y 1 8=false\/within x 1 24=false\/row.length≠y.toNat*x.toNat\/(row.all λx=>within x 0 1000000)=false then(st,[-4])else Vbedah.put st z (ofHours y.toNat (chunks y.toNat x.toNat (row.map toNat))):=rfl
  walk_at"p";rw[if_neg (by rw[hz];simp)]at ef;refine⟨_,rfl,pn,_,_,_,rfl,rfl,aH.of hn,at_of (j:=1) rfl rfl,?_⟩;refine⟨_,rfl,pn,_,_,_,rfl,rfl,aH.of hn,at_of (j:=2) rfl rfl,?_⟩;refine⟨_,rfl,(by show 1<=sizeLine;decide),λt ht=>?_⟩;have s0:=ah (o:= .lst [.int y]) ht;refine⟨t,[y],1,8,rfl,aH.of af,λhw H1 s1=>?_,λhw=>?_⟩
  rotate_left
  ·have hx:within y 1 8=false:=by simpa using hw
   rw[if_pos (.inl hx)]at ef;exact(k2 _ ef).same s0
  have hy:within y 1 8=true:=by simpa using hw
  have hy2:1<=y/\y<=8:=by
   unfold within at hy;simpa using hy
  have s01:=s0.trans s1;refine⟨_,rfl,(by show 1<=sizeLine;decide),λt' ht'=>?_⟩;have s0':=s01.trans (ah (o:= .lst [.int x]) ht');refine⟨t',[x],1,24,rfl,aH.of af,λhw' H1' s1'=>?_,λhw'=>?_⟩
  rotate_left
  ·have hx:within x 1 24=false:=by simpa using hw'
   rw[if_pos (.inr (.inl hx))]at ef;exact(k2 _ ef).same s0'
  have hx:within x 1 24=true:=by simpa using hw'
  have hx2:1<=x/\x<=24:=by
   unfold within at hx;simpa using hx
  have s1a:=s0'.trans s1';obtain⟨n,rfl⟩:∃n:Nat,y=(n:Int):=⟨y.toNat,by omega⟩
  obtain⟨h,rfl⟩:∃h:Nat,x=(h:Int):=⟨x.toNat,by omega⟩
  simp only[toNat_natCast]at ef;have enh:(n:Int)*(h:Int)=((n*h:Nat):Int):=by rw[natCast_mul]
  refine⟨_,rfl,_,rfl,_,rfl,_,_,rfl,rfl,.inl ⟨by omega,by omega⟩,pr,row,_,rfl,aH.of (s1a _ _ hrow),λhlen=>?_,λhlen=>?_⟩
  rotate_left
  ·have hlen:¬(row.length:Int)=(n:Int)*(h:Int):=hlen;rw[enh]at hlen;rw[if_pos (.inr (.inr (.inl (by omega))))]at ef;exact(k2 _ ef).same s1a
  have hlen:(row.length:Int)=(n:Int)*(h:Int):=hlen;rw[enh]at hlen;have hlen:row.length=n*h:=by omega
  refine⟨_,rfl,pr,row,0,1000000,rfl,aH.of (s1a _ _ hrow),λhw2 H2 s2=>?_,λhw2=>?_⟩
  rotate_left
  ·rw[if_pos (.inr (.inr (.inr hw2)))]at ef;exact(k2 _ ef).same s1a
  have s02:=s1a.trans s2
  rw[if_neg (by
   rintro(e|e|e|e)
   ·rw[hy]at e;cases e
   ·rw[hx]at e;cases e
   ·exact e hlen
   ·rw[hw2]at e;cases e)]at ef
  have pos:∀x∈row,0<=x:=λx hx=>(lI.mp hw2 x hx).1;refine⟨_,rfl,_,rfl,by omega,by omega,λD hD=>?_⟩;refine cq (cp (n:=n)) hD (λ_ _=>trivial) (λ_=>true) (λi y H=>∃Tt,y= .ref Tt/\H Tt=some (.lst (((row.drop (i*h)).take h).map V.int))) (λj y H H' hy b hh=>C0 (f:=λi=>((row.drop (i*h)).take h).map V.int) j y H H' hy b hh) (bF (by omega)) ?_ ?_
  ·rintro i x H3 hi s3 rfl ⟨acc,hacc⟩ Qn Qy qn qy;have hle:i*h+h<=row.length:=by
    rw[hlen,<-succ_mul];exact Nat.mul_le_mul_right h hi
   have ea:(i:Int)*(h:Int)=((i*h:Nat):Int):=by rw[natCast_mul]
   have eb:((i:Int)+1)*(h:Int)=((i*h:Nat):Int)+(h:Int):=by rw[Int.add_mul,one_mul,ea]
   walk_at"I";refine⟨_,rfl,_,rfl,_,rfl,_,_,rfl,rfl,.inl ⟨by omega,by omega⟩,_,rfl,_,rfl,_,_,rfl,rfl,_,rfl,_,_,rfl,rfl,.inl ⟨by omega,by omega⟩,_,rfl,pr,_,rfl,aH.of ((s02.trans s3) _ _ hrow),λu nu=>qy rfl _ _ (ah nu) ⟨u,rfl,?_⟩ (sC hacc nu)⟩;rw[af];show some (HO.lst (wH (row.map V.int) (some ((i:Int)*(h:Int))) (some (((i:Int)+1)*(h:Int)))))=_;rw[ea,eb,wI hle]
  ·intro H3 acc s3 hacc hpair;rw[aN]at hpair;obtain⟨ps,e3,h3⟩:=uA (f:=λi=>(row.drop (i*h)).take h) hpair;have el:(chunks n h (row.map toNat)).length=n:=by unfold chunks;simp
   have en:N4 (chunks n h (row.map toNat))=(List.range n).map λi=>(row.drop (i*h)).take h:=by
    unfold N4 chunks;rw[map_map];refine map_congr_left λi _=>?_;show(((row.map toNat).drop (i*h)).take h).map ofNat=_;rw[<-map_drop,<-map_take];exact wq λx hx=>pos x (List.mem_of_mem_drop (mem_of_mem_take hx))
   have dw:DW (chunks n h (row.map toNat)) h:=⟨by omega,by omega,by omega,by omega,λr hr=>by
    unfold chunks at hr;obtain⟨i,hi,rfl⟩:=mem_map.mp hr;have hi:=mem_range.mp hi;have hle:i*h+h<=row.length:=by
     rw[hlen,<-succ_mul];exact Nat.mul_le_mul_right h hi
    rw[length_take,length_drop,length_map]
    omega⟩
   have s03:=s02.trans s3;refine⟨_,rfl,hd,dx,_,rfl,s03 _ _ h1,c9 _ _ (by decide) (by decide),_,rfl,pn,_,_,_,rfl,rfl,aH.of (s03 _ _ hn),at_of (j:=0) rfl rfl,_,rfl,D,_,h,rfl,dw,⟨ps,by rw[hacc,e3],by rw[en];exact h3⟩,λc H4 s4 hc=>?_⟩;have s04:=s03.trans s4;rw[el]at hc;have W2:=Nt dw;rw[el]at W2;refine⟨hd,c,z,st,_,rfl,hS.same s04,hz,hc,W2,λhall H5 fr hS5=>?_,λhall=>(k2 _ (ef.trans (p6 hall))).same s04⟩;rw[ef,wd hall]at k1;have fr3:=(Fr.of s04).trans fr;refine⟨_,rfl,(by show 1<=sizeLine;decide),λq nq=>?_⟩;exact k1 q _ (fr3.trans (Fr.of (ah nq))) (hS5.same (ah nq)) (Qa fr3 nq) af
def AG(K:PySem.W.Frag)(A:ql):Sp:=λvs H Q E=>∃a b:Int,vs=[.int a,.int b]/\(within a 0 9=true->within b 0 9=true->a≠b->∀H',ay H H'->Q .gc H')/\(¬(within a 0 9=true/\within b 0 9=true/\a≠b)->oC K A (-4) H E)
theorem qG(T:Txt K mg A F):aT P w K mg base (kJ P w) 5 A.gA F.gA ["a","b"] (AG K A):=by
 refine br T.jj AD (λvs H Q E h=>?_) (λcdv Ar outer s H vs Q E hr h O=>?_)
 ·obtain⟨a,b,rfl,_⟩:=h;rfl
 ·obtain⟨a,b,rfl,k1,k2⟩:=h
  refine⟨_,((ag (aM (aw (bo T) hr T.bt T.ba.kp (bq T) O.pass (aa (bb (aa (pv 0) (aa (pv 1) ae))) (aa ao (aa (aR jv (bT rfl T.GY) ao) ae)))))
   (ai (eP (bG CA (pv 0) (pv 1) (bI _))
   (ai (eK O T.bO (cy T) (hr.mono (by decide)) (cO T) rfl T.ic))
   bL)))),?_⟩
  refine⟨_,rfl,_,rfl,(by show 2<=sizeLine;decide),λt ht=>?_⟩;have s0:=ah (o:= .lst [.int a,.int b]) ht;refine⟨_,_,rfl,rfl,t,[a,b],0,9,rfl,aH.of af,λhw H1 s1=>?_,λhw=>?_⟩
  rotate_left
  ·refine(k2 ?_).same s0;rintro⟨e1,e2,_⟩;rw[all_cons,all_cons,e1,e2]at hw;cases hw
  have hw:within a 0 9=true/\within b 0 9=true:=by simpa using hw
  have s01:=s0.trans s1;refine⟨_,rfl,_,rfl,rfl,_,rfl,?_⟩;walk_at"i"
  ·have hh:a=b:=by simpa using hh
   intro dx hdx;exact(k2 λe=>e.2.2 hh).same s01 _ _ dx (ah hdx) af T.bO.cl T.d9
  ·have hh:a≠b:=by simpa using hh
   exact k1 hw.1 hw.2 hh H1 s01
theorem x6(a b n:Int):debtOk a b n=true↔within a 0 9=true/\within b 0 9=true/\a≠b/\within n 1 COST=true:=by
 unfold debtOk;simp
theorem wu{x lo hi:Int}:within x lo hi=true↔lo<=x/\x<=hi:=by unfold within;simp
theorem Ng{d:Debts}(h:Mx d)(a b n:Nat):Mx (oweMore d a b n):=by
 unfold oweMore;rw[E8]
 split
 ·unfold Mx;rw[pairwise_map];refine Pairwise.imp (λ{x y}hxy=>?_) h;have e:∀x:Nat×Nat×Nat,(if x.1=a/\x.2.1=b then(a,b,x.2.2+n)else x).1=x.1/\(if x.1=a/\x.2.1=b then(a,b,x.2.2+n)else x).2.1=x.2.1:=λx=>by
   split
   ·rename_i q;exact⟨q.1.symm,q.2.symm⟩
   ·exact⟨rfl,rfl⟩
  rw[(e x).1,(e x).2,(e y).1,(e y).2];exact hxy
 ·rename_i q;unfold Mx;rw[pairwise_append];refine⟨h,List.pairwise_singleton _ _,λx hx y hy e=>?_⟩;rw[mem_singleton.mp hy]at e;exact q (any_eq_true.mpr ⟨x,hx,lz.mpr e⟩)
theorem Qg{d:Debts}(h:eU d){a b n:Nat}(ha:a<10)(hb:b<10)(ne:a≠b):eU (oweMore d a b n):=by
 unfold oweMore
 split
 ·intro x hx;obtain⟨y,hy,rfl⟩:=mem_map.mp hx
  split
  ·exact⟨ha,hb,ne⟩
  ·exact h y hy
 ·intro x hx;rcases mem_append.mp hx with hx|hx
  ·exact h x hx
  ·rw[mem_singleton.mp hx];exact⟨ha,hb,ne⟩
theorem IA(d:Debts):(d.map K9).flatten=d.flatMap λx=>nats [x.1,x.2.1,x.2.2]:=by
 rw[flatMap_def];rfl
theorem La(d:Debts):(d.map K9).flatten.length=3*d.length:=by
 induction d with
 |nil=>rfl
 |cons x r ih=>
  rw[map_cons,List.flatten_cons,length_append,ih,length_cons];show 3+_=_;omega
theorem EW{d:Debts}(ok:eU d):(Vbedah.transfers d).length<=100:=by
 have e:=congrArg List.length (zL ok);rw[length_map]at e;obtain⟨f1,f2,_⟩:=kD ok;have:=BW (b:=balances d) (gs:=partsOf d) λg hg=>(f2 g hg).1;omega
def yR:State->List Int->List Int->State×List Int:=λst ns row=>does st (.balances)
theorem vW(T:Txt K mg A F):aT P w K mg base (kJ P w) 3 A.cg F.cg ["holdings","numbers","row"] (xC K A 0 yR):=by
 refine br T.jh we (λvs H Q E h=>?_) (λcdv Ar outer s H vs Q E hr h O=>?_)
 ·walk_at"e"
 ·walk_at"b";refine⟨_,((ai (aB (ip (aQ (pv 0) rfl) T.fP T.gZ (g4 T) hr (iy T) az)))),?_⟩;obtain rfl:=len0 hl;walk_at"c";obtain⟨h5,ok,nd,tb⟩:=h5;have dl:=nA nd ok;refine⟨_,rfl,hd,A.bD,dx,_,_,rfl,h1,T.ax,T.bX,mj _ _,da,dd,_,rfl,h5.1,wJ _ (by decide),da,dd,m,st.debts,rfl,h5,ok,by omega,λq H1 s1 nq hq=>?_⟩;exact k1 q H1 (Fr.of s1) (hS.same s1) (nw nq) hq
def Hg:State->List Int->List Int->State×List Int:=λst ns row=>does st (.debts)
theorem Ac(T:Txt K mg A F):aT P w K mg base (kJ P w) 2 A.dP F.dP ["holdings","numbers","row"] (xC K A 0 Hg):=by
 refine br T.lU qT (λvs H Q E h=>?_) (λcdv Ar outer s H vs Q E hr h O=>?_)
 ·walk_at"e"
 ·walk_at"b"
  refine⟨_,((ag (fC 3 qT.nd (ip (aQ (pv 0) rfl) T.fP T.oQ (oR T) hr (qp T) az))
   (ai (aB (aR j3 (bb (aa (aL aK (by rfl) T.eO cC (aa (pv 3) ae)) ae)) (aw (nJ T) hr T.sr T.oo.kp (rG T) az (aa (pv 3) ae))))))),?_⟩
  obtain rfl:=len0 hl;walk_at"c";obtain⟨h5,ok,nd,tb⟩:=h5;have dl:=nA nd ok;refine⟨_,rfl,hd,A.bD,dx,_,_,rfl,h1,T.ax,T.bX,mj _ _,da,dd,_,rfl,h5.1,wJ _ (by decide),da,dd,m,st.debts,rfl,h5,by omega,λq H1 s1 nq hq=>?_⟩;obtain⟨ps,hq1,hq2⟩:=id hq;have pl:ps.length=st.debts.length:=by rw[hq2.length];simp
  have fl:=La st.debts;refine⟨_,rfl,q,_,rfl,.inl (aH.of hq1),(by show 1<=sizeLine;decide),λt ht=>?_⟩;refine⟨_,rfl,q,_,rfl,(hq.same (ah ht)).pl,by omega,λu H2 s2 nu hu=>?_⟩;refine⟨t,u,_,_,rfl,rfl,s2 _ _ af,hu,by rw[show(List.map V.int (st.debts.map K9).flatten).length=(st.debts.map K9).flatten.length from length_map _];exact le_trans (show 1+_<=1000 by omega) (by decide),λv nv=>?_⟩;walk_at"m";show upd _ v _ v=some (.lst ((toldDebts st.debts).map V.int));rw[af,length_map,pl,IA];rfl
def Em:State->List Int->List Int->State×List Int:=λst ns row=>does st (.settle)
theorem yr(T:Txt K mg A F):aT P w K mg base (kJ P w) 4 A.c6 F.c6 ["holdings","numbers","row"] (xC K A 0 Em):=by
 refine br T.kP o7 (λvs H Q E h=>?_) (λcdv Ar outer s H vs Q E hr h O=>?_)
 ·walk_at"e"
 ·walk_at"b"
  refine⟨_,((ag (fC 3 o7.nd (aw (jK T) hr T.ku T.fi.kp (kj T) az (aa (ip (aQ (pv 0) rfl) T.fP T.gZ (g4 T) hr (iy T) az) ae)))
   (ai (aB (aR j3 (bb (aa (aL aK (by rfl) T.eO cC (aa (pv 3) ae)) ae)) (aw (nJ T) hr T.sr T.oo.kp (rG T) az (aa (pv 3) ae))))))),?_⟩
  obtain rfl:=len0 hl;walk_at"c";obtain⟨h5,ok,nd,tb⟩:=h5;have dl:=nA nd ok;walk_at"s";refine⟨b,st.debts,rfl,ok,hb,λq H1 s1' hq=>?_⟩;have s1:=s0.trans s1';obtain⟨ps,hq1,hq2⟩:=id hq;have pl:ps.length=(Vbedah.transfers st.debts).length:=by rw[hq2.length];simp
  have tl:=EW ok;have fl:=La (Vbedah.transfers st.debts);refine⟨_,rfl,q,_,rfl,.inl (aH.of hq1),(by show 1<=sizeLine;decide),λt ht=>?_⟩;refine⟨_,rfl,q,_,rfl,(hq.same (ah ht)).pl,by omega,λu H2 s2 nu hu=>?_⟩;refine⟨t,u,_,_,rfl,rfl,s2 _ _ af,hu,by rw[show(List.map V.int ((Vbedah.transfers st.debts).map K9).flatten).length=((Vbedah.transfers st.debts).map K9).flatten.length from length_map _];exact le_trans (show 1+_<=1000 by omega) (by decide),λv nv=>?_⟩;walk_at"m";show upd _ v _ v=some (.lst ((toldDebts (Vbedah.transfers st.debts)).map V.int));rw[af,length_map,pl,IA];rfl
def Hf:State->List Int->List Int->State×List Int:=λst ns row=>does st (.clear)
theorem Aa(T:Txt K mg A F):aT P w K mg base (kJ P w) 2 A.dN F.dN ["holdings","numbers","row"] (xC K A 0 Hf):=by
 refine br T.lS Ax (λvs H Q E h=>?_) (λcdv Ar outer s H vs Q E hr h O=>?_)
 ·walk_at"e"
 ·walk_at"b"
  refine⟨_,((ag (aM (ip (aQ (pv 0) rfl) T.fP T.uU (uV T) hr (vH T) az))
   (ai (aB (bb (aa ao ae)))))),?_⟩
  obtain rfl:=len0 hl;walk_at"c";obtain⟨h5,ok,nd,tb⟩:=h5;have dl:=nA nd ok;refine⟨_,rfl,hd,A.bD,dx,_,_,rfl,h1,T.ax,T.bX,mj _ _,da,dd,_,rfl,h5.1,wJ _ (by decide),da,dd,m,st.debts,rfl,h5,λm' nm=>?_⟩;have s1:=ah (o:= .dT []) nm;have hm':upd H m' (.dT []) m'=some (.dT []):=af;generalize upd H m' (.dT [])=H1 at s1 hm';have hda:=s1 _ _ h5.1;have fr:Fr A H (upd H1 da (.ins A.Debts dd (df m'))):=(Fr.of s1).trans ((N2 hda).fr (λps e=>by rw[hda]at e;cases e) jF.upd);have mda:m'≠da:=λe=>by rw[e,hda]at hm';cases hm'
  have hda2:hd≠da:=λe=>by
   rw[e,h5.1]at h1;have e:=(HO.ins.inj (Option.some.inj h1)).2.2;have:(df m).lookup ("games":Str)=(PN gl da).lookup ("games":Str):=by rw[e]
   rw[B3,wJ m (by decide)]at this;cases this
  have gda:gl≠da:=λe=>by rw[e,h5.1]at h2;cases h2
  have hS2:mY A (upd H1 da (.ins A.Debts dd (df m'))) hd {st with debts:=[]}:=⟨dx,gl,da,dd,m',os,by rw[ak hda2];exact s1 _ _ h1,by rw[ak gda];exact s1 _ _ h2,h3,bc h4 λ_ _ _ _ e=>e.imp fr.ga,⟨af,by rw[ak mda];exact hm'⟩,(λx hx=>(List.not_mem_nil hx).elim),Pairwise.nil,fr.tb tb⟩
  refine⟨(by show 1<=sizeLine;decide),λq nq=>?_⟩;exact k1 q _ (fr.trans (Fr.of (ah nq))) (hS2.same (ah nq)) (Qa fr nq) af
def Jk:State->List Int->List Int->State×List Int:=λst ns row=>does st (.owe (n0 ns) (n1 ns) (n2 ns))
theorem DJ(T:Txt K mg A F):aT P w K mg base (kJ P w) 6 A.gu F.gu ["holdings","numbers","row"] (xC K A 3 Jk):=by
 refine br T.pM DT (λvs H Q E h=>?_) (λcdv Ar outer s H vs Q E hr h O=>?_)
 ·walk_at"e"
 ·walk_at"b"
  refine⟨_,((ag (aM (aw (qG T) hr T.sk T.jj.kp (rF T) O.pass (aa (aU aE (pv 1) ao (λ_ _=>rfl)) (aa (aU aE (pv 1) ao (λ_ _=>rfl)) ae))))
   (ag (aM (aw (bo T) hr T.bt T.ba.kp (bq T) O.pass (aa (bb (aa (aU aE (pv 1) ao (λ_ _=>rfl)) ae)) (aa ao (aa (bT rfl T.rJ) ae)))))
   (ai (aB (bb (aa (aO (aQ (pv 0) rfl) T.fP T.FR (FT T) hr (GH T) az (aa (aU aE (pv 1) ao (λ_ _=>rfl)) (aa (aU aE (pv 1) ao (λ_ _=>rfl)) (aa (aU aE (pv 1) ao (λ_ _=>rfl)) ae)))) ae))))))),?_⟩
  obtain⟨z,y,x,rfl⟩:=yh hl;walk_at"c";obtain⟨h5,ok,nd,tb⟩:=h5;have dl:=nA nd ok;have ef:Jk st [z,y,x] row=if debtOk z y x=false then(st,[-4])else({st with debts:=oweMore st.debts z.toNat y.toNat x.toNat},[ofNat (rg (oweMore st.debts z.toNat y.toNat x.toNat) z.toNat y.toNat)]):=rfl
  have bad:¬debtOk z y x=true->oC K A (-4) H E:=λe=>k2 _ (by rw[ef,if_pos (by simpa using e)]);refine⟨_,rfl,pn,_,_,_,rfl,rfl,aH.of hn,at_of (j:=0) rfl rfl,_,rfl,pn,_,_,_,rfl,rfl,aH.of hn,at_of (j:=1) rfl rfl,z,y,rfl,λc1 c2 c3 H1 s1=>?_,λc=>bad λe=>c ?_⟩
  rotate_left
  ·have:=(x6 _ _ _).mp e;exact⟨this.1,this.2.1,this.2.2.1⟩
  refine⟨_,rfl,pn,_,_,_,rfl,rfl,aH.of (s1 _ _ hn),at_of (j:=2) rfl rfl,(by show 1<=sizeLine;decide),λt ht=>?_⟩;have s2:=s1.trans (ah (o:= .lst [.int x]) ht);refine⟨t,[x],1,1000000000,rfl,aH.of af,λhw H3 s3=>?_,λhw=>?_⟩
  rotate_left
  ·refine(bad λe=>?_).same s2;have:=((x6 _ _ _).mp e).2.2.2;have this:within x 1 1000000000=true:=this;rw[all_cons,this]at hw;cases hw
  have c4:within x 1 1000000000=true:=by simpa using hw
  rw[if_neg (by rw[(x6 z y x).mpr ⟨c1,c2,c3,c4⟩];simp)]at ef;rw[ef]at k1;have s03:=s2.trans s3;obtain⟨a1,a2⟩:=wu.mp c1;obtain⟨b1,b2⟩:=wu.mp c2;obtain⟨n1',n2'⟩:=wu.mp c4;refine⟨_,rfl,hd,A.bD,dx,_,_,rfl,s03 _ _ h1,T.ax,T.bX,mj _ _,da,dd,_,rfl,s03 _ _ h5.1,wJ _ (by decide),_,rfl,pn,_,_,_,rfl,rfl,aH.of (s03 _ _ hn),at_of (j:=0) rfl rfl,_,rfl,pn,_,_,_,rfl,rfl,aH.of (s03 _ _ hn),at_of (j:=1) rfl rfl,_,rfl,pn,_,_,_,rfl,rfl,aH.of (s03 _ _ hn),at_of (j:=2) rfl rfl,da,dd,m,st.debts,z.toNat,y.toNat,x.toNat,?_,⟨s03 _ _ h5.1,s03 _ _ h5.2⟩,nd,lt_of_le_of_lt dl (by decide),λH4 b4 hm4=>?_⟩
  ·show [V.ref da,V.int z,V.int y,V.int x]=_;rw[show((z.toNat:Nat):Int)=z by omega,show((y.toNat:Nat):Int)=y by omega,show((x.toNat:Nat):Int)=x by omega]
  have fr:Fr A H H4:=(Fr.of s03).trans ((P9 (s03 _ _ h5.2)).fr (λps e=>by rw[s03 _ _ h5.2]at e;cases e) b4);have hm:hd≠m:=λe=>by rw[e,h5.2]at h1;cases h1
  have gm:gl≠m:=λe=>by rw[e,h5.2]at h2;cases h2
  have dm:da≠m:=λe=>by have:=h5.1;rw[e,h5.2]at this;cases this
  have hS4:mY A H4 hd {st with debts:=oweMore st.debts z.toNat y.toNat x.toNat}:=⟨dx,gl,da,dd,m,os,b4 _ _ hm (s03 _ _ h1),b4 _ _ gm (s03 _ _ h2),h3,bc h4 λ_ _ _ _ e=>e.imp fr.ga,⟨b4 _ _ dm (s03 _ _ h5.1),hm4⟩,Qg ok (by omega) (by omega) (by omega),Ng nd _ _ _,fr.tb tb⟩
  refine⟨(by show 1<=sizeLine;decide),λq nq=>?_⟩;refine k1 q _ (fr.trans (Fr.of (ah nq))) (hS4.same (ah nq)) (Qa fr nq) ?_;show upd H4 q _ q=some (.lst [.int (ofNat (rg (oweMore st.debts z.toNat y.toNat x.toNat) z.toNat y.toNat))]);rw[af,Og];rfl
def El:State->List Int->List Int->State×List Int:=λst ns row=>does st (.fewest)
theorem yp(T:Txt K mg A F):aT P w K mg base (kJ P w) 3 A.cZ F.cZ ["holdings","numbers","row"] (xC K A 0 El):=by
 refine br T.kN cX (λvs H Q E h=>?_) (λcdv Ar outer s H vs Q E hr h O=>?_)
 ·walk_at"e"
 ·walk_at"b"
  refine⟨_,((ag (fC 3 cX.nd (ip (aQ (pv 0) rfl) T.fP T.gZ (g4 T) hr (iy T) az))
   (ag (fC 4 cX.nd (aw (Cw T) hr T.Ex T.uq.kp (D9 T) az (aa (pv 3) ae)))
   (ag (fC 5 cX.nd (aw (i7 T) hr T.jo T.dZ.kp (jd T) az (aa (pv 4) (aa (pv 3) ae))))
   (ai (aB (aR j3 (bb (aa (aL aK (by rfl) T.eO cC (aa (pv 5) ae)) (aa (aL aK (by rfl) T.eO cC (aa (pv 4) ae)) ae))) (aw (nJ T) hr T.sr T.oo.kp (rG T) az (aa (du (own:=[("group",6)]) rfl cX.nd (bp (pv 4)) (oB cX) (λ_ _ _ _ _=>(fO 6 cX.nd (Or.inl rfl))) (λ_ _ _ _ _=>bC) (λ_ _ _ _ _=>(aR j3 (bb (aa (aL (Du K rfl) (by rfl) T.eO cC (aa (pv 6) ae)) ae)) (pv 6)))) ae))))))))),?_⟩
  obtain rfl:=len0 hl;walk_at"c";obtain⟨h5,ok,nd,tb⟩:=h5;have dl:=nA nd ok;walk_at"s";obtain⟨f1,f2,f3⟩:=kD ok;refine⟨_,rfl,b,st.debts,rfl,ok,hb,λgq H1 s1' hgq=>?_⟩;have s1:=s0.trans s1';refine⟨_,rfl,_,rfl,gq,b,_,_,rfl,hgq,s1' _ _ hb,f1,λg hg=>⟨(f2 g hg).1,λx hx=>by rw[ck];exact(f2 g hg).2 x hx⟩,λtq H2 s2' ntq htq=>?_⟩;rw[xI ok]at htq;have s2:=s1.trans s2';obtain⟨ts,ht1,ht2⟩:=id htq;have tsl:ts.length=(Vbedah.transfers st.debts).length:=by rw[ht2.length];simp
  obtain⟨gs,hg1,hg2⟩:=id hgq;have gsl:gs.length=(partsOf st.debts).length:=by rw[hg2.length];simp
  refine⟨_,rfl,tq,_,rfl,.inl (aH.of ht1),_,rfl,gq,_,rfl,.inl (aH.of (s2' _ _ hg1)),(by show 2<=sizeLine;decide),λt nt=>?_⟩;rw[length_map,length_map,tsl,gsl];have s3:=s2.trans (ah (o:= .lst [.int ((Vbedah.transfers st.debts).length:Int),.int ((partsOf st.debts).length:Int)]) nt);have s3':=s2'.trans (ah (o:= .lst [.int ((Vbedah.transfers st.debts).length:Int),.int ((partsOf st.debts).length:Int)]) nt);have ht3:upd H2 t (.lst [.int ((Vbedah.transfers st.debts).length:Int),.int ((partsOf st.debts).length:Int)]) t=some (.lst [.int ((Vbedah.transfers st.debts).length:Int),.int ((partsOf st.debts).length:Int)]):=af;generalize upd H2 t (.lst [.int ((Vbedah.transfers st.debts).length:Int),.int ((partsOf st.debts).length:Int)])=H3 at s3 s3' ht3;refine⟨_,rfl,gq,rfl,⟨_,aH.of (s3' _ _ hg1)⟩,λD hD=>?_⟩;refine cq (aJ (xs:=gs.map V.ref)) hD (λ_ s=>aH.of (s _ _ (s3' _ _ hg1))) (λ_=>true) (λi y H=>∃Tt,y= .ref Tt/\H Tt=some (.lst ((ofNat ((partsOf st.debts).getD i []).length::nats ((partsOf st.debts).getD i [])).map V.int))) (λj y H H' hy b hh=>C0 (f:=λi=>(ofNat ((partsOf st.debts).getD i []).length::nats ((partsOf st.debts).getD i [])).map V.int) j y H H' hy b hh) (bF (by simp;omega)) ?_ ?_
  ·rintro i x H4 hi s4 hx ⟨acc,hacc⟩ Qn Qy qn qy;obtain⟨u,xs,rfl,hxs,hu⟩:=B7 hg2 hx;obtain⟨G,eG,rfl⟩:=dq hxs;have gl10:=(f2 G (mem_of_getElem? eG)).1;have hu4:IL H4 u (G.map ofNat):=(s3'.trans s4) _ _ hu;walk_at"I";refine⟨_,rfl,u,_,rfl,.inl (aH.of hu4),(by show 1<=sizeLine;decide),λv nv=>?_⟩;refine⟨_,rfl,v,u,_,_,rfl,rfl,af,(ah nv) _ _ hu4,by rw[length_map,length_map];exact le_trans (show 1+G.length<=1000 by omega) (by decide),λw nw'=>qy rfl _ _ ((ah nv).trans (ah nw')) ⟨w,rfl,?_⟩ (sC ((ah nv) _ _ hacc) nw')⟩;rw[af,show(partsOf st.debts).getD i []=G by rw[getD_eq_getElem?_getD,eG];rfl,length_map,length_map];rfl
  ·intro H4 acc s4 hacc hpair;rw[aN,length_map,gsl]at hpair;obtain⟨ws,e3,h3'⟩:=uA (f:=λi=>ofNat ((partsOf st.debts).getD i []).length::nats ((partsOf st.debts).getD i [])) hpair;rw[range_getD (l:=partsOf st.debts) rfl λl=>ofNat l.length::nats l]at h3';have ll:LL H4 D ((partsOf st.debts).map λl=>ofNat l.length::nats l):=⟨ws,by rw[hacc,e3],h3'⟩
   have fe:((partsOf st.debts).map λl=>ofNat l.length::nats l).flatten=(partsOf st.debts).flatMap λl=>ofNat l.length::nats l:=by rw[flatMap_def]
   have fl:((partsOf st.debts).flatMap λl=>ofNat l.length::nats l).length<=11*(partsOf st.debts).length:=fq _ λl hl=>by
    have:=(f2 l hl).1;unfold nats;rw[length_cons,length_map];omega
   refine⟨D,_,rfl,ll.pl,by rw[fe];omega,λu H5 s5 nu hu=>?_⟩;rw[fe]at hu;refine⟨t,u,_,_,rfl,rfl,s5 _ _ (s4 _ _ ht3),hu,by rw[length_map];exact le_trans (show 2+((partsOf st.debts).flatMap λl=>ofNat l.length::nats l).length<=1000 by omega) (by decide),λv nv=>?_⟩;have sH:=(s3.trans s4).trans s5;exact k1 v _ (Fr.of (sH.trans (ah nv))) (hS.same (sH.trans (ah nv))) (nw (sH.none nv)) af
def wK:State->List Int->List Int->State×List Int:=λst ns row=>does st (.check row)
theorem z9(T:Txt K mg A F):aT P w K mg base (kJ P w) 6 A.dM F.dM ["holdings","numbers","row"] (xC K A 0 wK):=by
 refine br T.lR eR (λvs H Q E h=>?_) (λcdv Ar outer s H vs Q E hr h O=>?_)
 ·walk_at"e"
 ·walk_at"b"
  refine⟨_,((ag (fC 3 eR.nd (aw (zi T) hr T.Cd T.pP.kp (Bt T) O.pass (aa (pv 2) (aa ao ae))))
   (ag (dF O.own rfl (bp (pv 3)) (iX (n:=3) rfl (bg (fO 5 eR.nd (Or.inl rfl) (Or.inl rfl)) (bg (fO 6 eR.nd (Or.inl rfl) (Or.inl rfl)) (bg (fO 7 eR.nd (Or.inl rfl) (Or.inl rfl)) gI))))
   (ag (aM (aw (qG T) hr T.sk T.jj.kp (rF T) O.pass (aa (pv 5) (aa (pv 6) ae))))
   (ai (aM (aw (bo T) hr T.bt T.ba.kp (bq T) O.pass (aa (bb (aa (pv 7) ae)) (aa ao (aa (bT rfl T.uP) ae))))))))
   (ag (fC 4 eR.nd (ip (aQ (pv 0) rfl) T.fP T.gZ (g4 T) hr (iy T) az))
   (ag (eP (bG (Oc (SG hr)) (aw (HL T) hr T.KJ T.AW.kp (Kb T) az (aa (pv 3) ae)) (pv 4) (bI _))
   (ai (aB (bb (aa ao ae))))
   bL)
   (ai (aB (bb (aa ao (aa (aR jv (aL aK (by rfl) T.eO cC (aa (pv 3) ae)) (aL aK (by rfl) T.eO cC (aa (aw (jK T) hr T.ku T.fi.kp (kj T) az (aa (pv 4) ae)) ae))) ae)))))))))),?_⟩
  obtain rfl:=len0 hl;walk_at"c";obtain⟨h5,ok,nd,tb⟩:=h5;have dl:=nA nd ok;have ef:wK st [] row=(st,match transfersOf row with|none=>[-4]|some t=>if settles st.debts t=false then [0]else [1,ofNat t.length-ofNat (Vbedah.transfers st.debts).length]):=rfl;have bad:transfersOf row=none->oC K A (-4) H E:=λe=>k2 _ (by rw[ef,e]);refine⟨_,rfl,pr,row,3,rfl,aH.of hrow,hrl,by decide,by decide,λhev q H1 s1 nq hq=>?_,λhodd=>bad (EX _ hodd)⟩;have ep:=EV row hev;have cl:=Eh (l:=3) hrl;have clen:∀p∈mZ 3 row,p.length=3:=λp hp=>Ke (by decide) hp;generalize mZ 3 row=cs at hq ep cl clen;obtain⟨ps,hq1,hq2⟩:=id hq;have pl:ps.length=cs.length:=hq2.length;refine⟨_,rfl,q,rfl,⟨_,aH.of hq1⟩,d7 (aJ (xs:=ps.map V.ref)) (λi σ H'=>∃v4 v5 v6 v7,σ=[some (.ref hd),some (.ref pn),some (.ref pr),some (.ref q),v4,v5,v6,v7]/\ay H1 H'/\(cs.take i).all Qe=true) ⟨_,_,_,_,rfl,ay.refl _,by simp⟩ (λi σ H' _ ⟨_,_,_,_,_,s,_⟩=>aH.of (s _ _ hq1)) ?_ ?_⟩
  ·rintro i x σ H3 H4 hi ⟨v4,v5,v6,v7,rfl,s3,hall⟩ s4 hx;obtain⟨u,xs,rfl,hxs,hu⟩:=C4 hq2 hx;obtain⟨x0,x1,x2,rfl⟩:=yh (clen xs (mem_of_getElem? hxs));have sH:=s1.trans (s3.trans s4);have ek:Qe [x0,x1,x2]=true↔within x0 0 9=true/\within x1 0 9=true/\x0≠x1/\within x2 1 1000000000000=true:=by
    show(within x0 0 9&&(within x1 0 9&&(decide (x0≠x1)&&within x2 1 1000000000000)))=true↔_;rw[and_eq_true,and_eq_true,and_eq_true,decide_eq_true_iff]
   have bd:¬Qe [x0,x1,x2]=true->oC K A (-4) H E:=λe=>bad (by
    rw[ep,if_neg];rw[all_eq_true]
    exactλh=>e (h _ (mem_of_getElem? hxs)))
   refine⟨u,_,rfl,ra.of ((s3.trans s4) _ _ hu),rfl,_,_,rfl,_,_,rfl,_,_,rfl,rfl,?_⟩;refine⟨_,rfl,_,rfl,x0,x1,rfl,λc1 c2 c3 H5 s5=>?_,λc=>(bd λe=>c ⟨(ek.mp e).1,(ek.mp e).2.1,(ek.mp e).2.2.1⟩).same sH⟩;refine⟨_,rfl,(by show 1<=sizeLine;decide),λt2 ht2=>?_⟩;have s6:=ah (o:= .lst [.int x2]) ht2;refine⟨t2,[x2],1,1000000000000,rfl,aH.of af,λhw2 H7 s7=>?_,λhw2=>?_⟩
   ·refine⟨_,_,_,_,rfl,((s3.trans s4).trans s5).trans (s6.trans s7),?_⟩;have c4:within x2 1 1000000000000=true:=by simpa using hw2
    rw[take_snoc hxs,all_append,hall];show(true&&(Qe [x0,x1,x2]&&true))=true;rw[ek.mpr ⟨c1,c2,c3,c4⟩];rfl
   ·have c4:within x2 1 1000000000000=false:=by simpa using hw2
    exact((bd λe=>by rw[(ek.mp e).2.2.2]at c4;cases c4).same (sH.trans s5)).same s6
  ·rintro σ H3 ⟨v4,v5,v6,v7,rfl,s3,hall⟩;rw[length_map,pl,take_length]at hall;rw[if_pos hall]at ep;rw[ep]at ef;have sH:=s1.trans s3;have ok':∀p∈cs,Qe p=true:=all_eq_true.mp hall;have fct:∀p∈cs,(p.getD 0 0=((p.getD 0 0).toNat:Int)/\p.getD 1 0=((p.getD 1 0).toNat:Int)/\p.getD 2 0=((p.getD 2 0).toNat:Int))/\(p.getD 0 0).toNat<10/\(p.getD 1 0).toNat<10/\(p.getD 0 0).toNat≠(p.getD 1 0).toNat:=λp hp=>by
    have:=ok' p hp;unfold Qe within at this;simp only[and_eq_true,decide_eq_true_iff]at this;obtain⟨⟨a1,a2⟩,⟨a3,a4⟩,a5,a6,a7⟩:=this;refine⟨⟨by omega,by omega,by omega⟩,by omega,by omega,by omega⟩
   have ec:(cs.map Qm).map K9=cs:=by
    rw[map_map]
    conv=>rhs;rw[<-map_id cs]
    refine map_congr_left λp hp=>?_;obtain⟨⟨b1,b2,b3⟩,_⟩:=fct p hp;obtain⟨x0,x1,x2,rfl⟩:=yh (clen p hp);show [((x0.toNat:Nat):Int),((x1.toNat:Nat):Int),((x2.toNat:Nat):Int)]=[x0,x1,x2]
    have b1:x0=((x0.toNat:Nat):Int):=b1;have b2:x1=((x1.toNat:Nat):Int):=b2;have b3:x2=((x2.toNat:Nat):Int):=b3;rw[<-b1,<-b2,<-b3]
   have okt:eU (cs.map Qm):=λx hx=>by
    obtain⟨p,hp,rfl⟩:=mem_map.mp hx;exact(fct p hp).2
   have hq3:TL H3 q ((cs.map Qm).map K9):=by rw[ec];exact hq.same s3
   refine⟨_,rfl,hd,A.bD,dx,_,_,rfl,sH _ _ h1,T.ax,T.bX,mj _ _,da,dd,_,rfl,sH _ _ h5.1,wJ _ (by decide),da,dd,m,st.debts,rfl,⟨sH _ _ h5.1,sH _ _ h5.2⟩,ok,by omega,λb H4 s4 nb hb=>?_⟩;refine⟨_,rfl,q,_,rfl,hq3.same s4,okt,λg H5 s5 ng hg=>?_⟩;refine⟨_,rfl,_,_,Kl hg,Kl (s5 _ _ hb),shaped_ints _,shaped_ints _,_,rfl,?_⟩;rw[Ek];replace ef:wK st [] row=(st,if settles st.debts (cs.map Qm)=false then [0]else [1,ofNat (cs.map Qm).length-ofNat (Vbedah.transfers st.debts).length]):=ef;rw[JO]at ef;have s05:=(sH.trans s4).trans s5;walk_at"i"
   ·have hh:¬balances (cs.map Qm)=balances st.debts:=by simpa using hh
    rw[decide_eq_false hh,if_pos rfl]at ef;rw[ef]at k1;refine⟨(by show 1<=sizeLine;decide),λv nv=>?_⟩;exact k1 v _ (Fr.of (s05.trans (ah nv))) (hS.same (s05.trans (ah nv))) (nw (s05.none nv)) af
   ·have hh:balances (cs.map Qm)=balances st.debts:=by simpa using hh
    rw[decide_eq_true hh,if_neg (by simp)]at ef;rw[ef]at k1;refine⟨_,rfl,q,_,rfl,.inl (aH.of (((s3.trans s4).trans s5) _ _ hq1)),_,rfl,b,st.debts,rfl,ok,s5 _ _ hb,λw H6 s6 hw=>?_⟩;obtain⟨ts,ht1,ht2⟩:=id hw;have tsl:ts.length=(Vbedah.transfers st.debts).length:=by rw[ht2.length];simp
    refine⟨w,_,rfl,.inl (aH.of ht1),_,_,rfl,rfl,(by show 2<=sizeLine;decide),λv nv=>?_⟩;have s06:=s05.trans s6;refine k1 v _ (Fr.of (s06.trans (ah nv))) (hS.same (s06.trans (ah nv))) (nw (s06.none nv)) ?_;show upd H6 v _ v=some (.lst [.int 1,.int (ofNat (cs.map Qm).length-ofNat (Vbedah.transfers st.debts).length)]);rw[af,length_map,length_map,length_map,pl,tsl];rfl
def BM:State->List Int->List Int->State×List Int:=λst ns row=>does st (.round (n0 ns))
theorem PF{x qual:Str}{st:Stmt}{f c:Addr}{fd:FuncData}{N ps:List Str}{k:Nat}{sp:Sp}(F:cP K x qual st f fd)(hc:fd.code= .ref c)(S:au N ps (aj st))(len:∀vs H Q E,sp vs H Q E->vs.length=ps.length)
  (hbody:∀(A:Around)(outer:List Env)(s:Shared)(H:Hp)(vs:List V)(Q:VK)(E:XK),iu k (A.deeper (envOfC qual (aj st) s.heap.objs.size f (.ref c)))->sp vs H Q E->
   ∃t,E3 (zY gU P w K mg base N qual (aj st) f (.ref c) A outer s H E).Q0 (jg st) t/\t {nx:=λ_ H'=>Q .gc H',rt:=Q} (start N vs) H):aT P w K mg base gU (k+1) f fd ps sp:=by
 obtain⟨oc,od,kV,doc,pm,an,cdv,ct,osl,rfl,lk,hcd⟩:=F.ex;have hc:cdv= .ref c:=hc;subst hc;refine Np lk hcd S len λA outer s H vs Q E hr hsp=>?_;obtain⟨t,h,q⟩:=hbody A outer s H vs Q E hr hsp;exact⟨t,h.Q0,q⟩
theorem IE:∀(r:List Nat)(t:List Int)(x:Nat),ups t (r++[x])=(ups t r).set x ((ups t r).getD x 0+1)
 |[],t,x=>rfl
 |y::r,t,x=>by
  show ups (t.set y _) (r++[x])=_;rw[IE r];rfl
theorem Nc{xs:List V}{m:Nat}:wH xs none (some (m:Int))=xs.take m:=by
 unfold wH;rw[HT.A1];show(xs.drop 0).take (min m xs.length-0)=_;rw[List.drop_zero,Nat.sub_zero];by_cases h:m<=xs.length
 ·rw[min_eq_left h]
 ·rw[Nat.min_eq_right (by omega),take_length,List.take_of_length_le (by omega)]
def xH(A:ql):Sp:=λvs H Q _=>∃(a:Addr)(g:Game),vs=[.ref a]/\aZ A.Game H a g/\GW g/\TabAt A H/\∀q H',jF A.Qx H H'->TabAt A H'->H q=none->IL H' q (rounded g)->Q (.ref q) H'
theorem xf(T:Txt K mg A F):aT P w K mg base gU 6 A.dc F.dc ["game"] (xH A):=by
 refine PF T.jV T.Qw aW (λvs H Q E h=>?_) (λAr outer s H vs Q E hr h=>?_)
 ·walk_at"H"
 ·obtain⟨a,g,rfl,hG,W,tb,k⟩:=h
  refine⟨_,((ag (fC 1 aW.nd (aw (Ez T) hr T.Hy T.wN.kp (GQ T) az (aa (pv 0) ae)))
   (ag (fC 2 aW.nd (aw (ju T) hr T.kr T.hU.kp (ki T) az (aa (aQ (pv 0) rfl) ae)))
   (ag (fC 3 aW.nd (du (g:=z5 K 2 (ib (fu 8) (ib (fu 9) z4))) (own:=[("numerator",8),("denominator",9)]) rfl aW.nd (bp (pv 1)) (oB aW) (λ_ _ _ _ _=>(iX (n:=2) rfl (bg (fO 8 aW.nd (Or.inl rfl) (Or.inr rfl)) (bg (fO 9 aW.nd (Or.inl rfl) (Or.inr rfl)) gI)))) (λ_ _ _ _ _=>bC) (λ_ _ _ _ _=>(aR kT (aR JE (pv 8) (pv 9)) (aR xg (pv 2) (pv 9))))))
   (ag (kE (i:=4) (g:=z5 K 2 (ib (fu 8) (ib (fu 9) z4))) (own:=[("numerator",8),("denominator",9)]) rfl aW.nd rfl rfl (nX rfl rfl rfl (by decide+kernel)) (bp (pv 1)) (oB aW) (λ_ _ _ _ _=>(iX (n:=2) rfl (bg (fO 8 aW.nd (Or.inl rfl) (Or.inr rfl)) (bg (fO 9 aW.nd (Or.inl rfl) (Or.inr rfl)) gI)))) (λ_ _ _ _ _=>bC) (λ_ _ _ _ _=>(aR xg (pv 8) (pv 9))))
   (ag (fC 5 aW.nd (aR jv (ip (pv 0) T.aA T.fM (fN T) hr (gw T) az) (aL (xZ rfl) (by rfl) T.Ea xV (aa (pv 4) ae))))
   (ag (fC 6 aW.nd (JG (i:=3) (qual:=KC) (ap:=⟨244,47,244,53⟩) (p1:=⟨244,56,244,61⟩) (p2:=⟨244,62,244,68⟩) (p3:=⟨244,56,244,69⟩) (p4:=⟨244,55,244,69⟩) hr rfl (by rfl) T.GR (aa (ED rfl T.cQ (aa (aQ (pv 0) rfl) ae)) ae) (KW (RX rfl (λb x=>PySem.W.codeHd_of_K x T.S0) rfl rfl) Ou) rfl rfl rfl))
   (ag (dF PassesOwn.never rfl (bp (oS xA (pv 6) KZ (kf (pv 5)))) (fO 7 aW.nd (Or.inl rfl))
   (ai (A0 (pv 4) (pv 7) wR ao vR set_list)))
   (ai (aB (pv 4))))))))))),?_⟩
  have n8:=W.n8;have hN:0<fact g.n:=hZ _;have f8:=me n8;walk_at"j";refine⟨_,rfl,a,g,rfl,hG,W,λp H1 s1 np hp=>?_⟩;obtain⟨ps,h1,h2⟩:=hp;have pl:ps.length=g.n:=by rw[h2.length,uc];simp
  have dpos:∀i,0<(frac (aC g i) (fact g.n)).2/\(frac (aC g i) (fact g.n)).2<=40320:=λi=>by
   obtain⟨q,e1,e2,e3,e4⟩:=BZ (aC g i) hN;have hp:=Hh (aC g i) hN;refine⟨hp,?_⟩;have e3:fact g.n=(frac (aC g i) (fact g.n)).2*q:=by exact_mod_cast e3
   have:(frac (aC g i) (fact g.n)).2*1<=(frac (aC g i) (fact g.n)).2*q:=Nat.mul_le_mul_left _ e1;omega
  have item:∀(i:Nat)(x:V),i<g.n->(ps.map V.ref)[i]?=some x->∃q,x= .ref q/\H1 q=some (.tup [.int (frac (aC g i) (fact g.n)).1,.int ((frac (aC g i) (fact g.n)).2:Nat)]):=λi x hi hx=>by
   obtain⟨q,xs,rfl,hxs,hq⟩:=C4 h2 hx;rw[uc,map_map,getElem?_map,getElem?_range hi]at hxs;have e:=Option.some.inj hxs;rw[<-e]at hq;exact⟨q,rfl,hq⟩
  refine⟨_,rfl,a,A.Game,dx,_,_,rfl,s1 _ _ q1,T.aA,T.aY,jn _ _ _,g.n,rfl,n8,?_⟩;refine⟨_,rfl,p,rfl,⟨_,aH.of h1⟩,λD hD=>?_⟩;refine cq (aJ (xs:=ps.map V.ref)) hD (λ_ s=>aH.of (s _ _ h1)) (λ_=>true) (λi y _=>y=V.int (xN (aC g i) (fact g.n))) bh (bF (by simp;omega)) ?_ ?_
  ·rintro i x H2 hi s2 hx _ Qn Qy qn qy;rw[length_map]at hi;obtain⟨q,rfl,hq⟩:=item i x (by omega) hx;obtain⟨d1,d2⟩:=dpos i;refine⟨q,_,rfl,ra.of (s2 _ _ hq),rfl,_,_,rfl,_,_,rfl,rfl,rfl,?_⟩;have m1:=Int.emod_nonneg (frac (aC g i) (fact g.n)).1 (show(((frac (aC g i) (fact g.n)).2:Nat):Int)≠0 by omega);have m2:=Int.emod_lt_of_pos (frac (aC g i) (fact g.n)).1 (show(0:Int)<(((frac (aC g i) (fact g.n)).2:Nat):Int) by omega);exact⟨_,rfl,_,rfl,_,_,rfl,rfl,(by show(0:Int)<_;omega),_,rfl,_,rfl,_,_,rfl,rfl,⟨by omega,by omega⟩,_,_,rfl,rfl,.inl ⟨by omega,by omega⟩,qy rfl _ _ (ay.refl _) rfl (by intro z;cases z)⟩
  intro H2 acc s2 hacc hpair;have eacc:acc=((List.range g.n).map λi=>xN (aC g i) (fact g.n)).map V.int:=by
   rw[bJ hpair,aN,map_map];simp only[length_map,pl];rfl
  rw[eacc]at hacc;clear eacc hpair;refine⟨_,rfl,p,rfl,⟨_,aH.of (s2 _ _ h1)⟩,λD2 hD2=>?_⟩;refine cq (aJ (xs:=ps.map V.ref)) hD2 (λ_ s=>aH.of (s _ _ (s2 _ _ h1))) (λ_=>true) (λi y _=>y=V.int (dn (aC g i) (fact g.n))) bh (bF (by simp;omega)) ?_ ?_
  ·rintro i x H3 hi s3 hx _ Qn Qy qn qy;rw[length_map]at hi;obtain⟨q,rfl,hq⟩:=item i x (by omega) hx;obtain⟨d1,d2⟩:=dpos i;refine⟨q,_,rfl,ra.of (s3 _ _ (s2 _ _ hq)),rfl,_,_,rfl,_,_,rfl,rfl,rfl,?_⟩;exact⟨_,rfl,_,rfl,_,_,rfl,rfl,⟨by omega,by omega⟩,qy rfl _ _ (ay.refl _) rfl (by intro z;cases z)⟩
  intro H3 acc3 s3 hacc3 hpair3;have eacc:acc3=(bj g).map V.int:=by
   rw[bJ hpair3,aN];unfold bj;rw[map_map];simp only[length_map,pl];rfl
  rw[eacc]at hacc3;clear eacc hpair3;have s03:=s1.trans (s2.trans s3);have hG3:=hG.same s03;obtain⟨dx3,c3,d3,g1,g2,g3⟩:=id hG3;refine⟨_,rfl,a,dx3,_,rfl,g1,iJ _ _ _ (by decide) (by decide) (by decide),a,g,rfl,hG3,W,_,rfl,D2,_,rfl,aH.of hacc3,_,_,rfl,rfl,?_⟩;have hw:=Mn g W.zero;obtain⟨wn,ewn⟩:∃wn:Nat,g.cost g.all-(bj g).sum=(wn:Int):=⟨(g.cost g.all-(bj g).sum).toNat,by omega⟩
  refine⟨_,rfl,a,A.Game,dx3,_,_,rfl,g1,T.aA,T.aY,jn _ _ _,_,rfl,by omega,by omega,λr nr=>?_⟩;have s4:=ah (o:= .IQ 0 (g.n:Int)) nr;have hr4:upd H3 r (.IQ 0 (g.n:Int)) r=some (.IQ 0 (g.n:Int)):=af;generalize upd H3 r (.IQ 0 (g.n:Int))=H4 at s4 hr4;have tb4:TabAt A H4:=(tb.same s03).same s4;refine⟨tb4,λH5 f b5 tb5 lam nf=>?_⟩;obtain⟨pt,hpt,_⟩:=id tb4;have k5:∀b o,(∀x,o≠HO.qX x)->H4 b=some o->H5 b=some o:=λb o ho e=>b5 b o (λz=>by rw[z,hpt]at e;exact ho pt (Option.some.inj e).symm) e;have rests5:H5 D=some (.lst (((List.range g.n).map λi=>xN (aC g i) (fact g.n)).map V.int)):=k5 _ _ (λx=>by intro z;cases z) (s4 _ _ (s3 _ _ hacc));have told5:H5 D2=some (.lst ((bj g).map V.int)):=k5 _ _ (λx=>by intro z;cases z) (s4 _ _ hacc3);refine⟨r,f,D,g.n,_,rfl,rfl,k5 _ _ (λx=>by intro z;cases z) hr4,by omega,(by simp),lam,rfl,aH.of rests5,λD3 ord nD3 pm pw st=>?_⟩;have s6:=ah (o:= .lst (ord.map λ(i:Nat)=>V.int (i:Int))) nD3;have ho6:upd H5 D3 (.lst (ord.map λ(i:Nat)=>V.int (i:Int))) D3=some (.lst (ord.map λ(i:Nat)=>V.int (i:Int))):=af;generalize upd H5 D3 (.lst (ord.map λ(i:Nat)=>V.int (i:Int)))=H6 at s6 ho6;have gd:∀i,i<g.n->((List.range g.n).map λi=>xN (aC g i) (fact g.n)).getD i 0=xN (aC g i) (fact g.n):=λi hi=>by rw[getD_eq_getElem?_getD,getElem?_map,getElem?_range hi];rfl
  have inN:∀i∈ord,i<g.n:=λi hi=>mem_range.mp (pm.mem_iff.mp hi);have fin:ups (bj g) (ord.take wn)=rounded g:=by
   have:=JL g W.zero ord pm (pw.imp_of_mem λ{x y}hx hy h=>by rw[gd x (inN x hx),gd y (inN y hy)]at h;exact h) λz=>?_
   ·rw[ewn,toNat_natCast]at this;exact this
   ·have h:=st z;rw[filter_congr (q:=λi=> -(xN (aC g i) (fact g.n))==z) λi hi=>by rw[gd i (inN i hi)],filter_congr (l:=List.range g.n) (q:=λi=> -(xN (aC g i) (fact g.n))==z) λi hi=>by rw[gd i (mem_range.mp hi)]]at h;exact h
  have hby:H6 D3=some (.lst (ord.map λ(i:Nat)=>V.int (i:Int))):=ho6;refine⟨_,rfl,_,rfl,_,rfl,D3,_,rfl,aH.of hby,λD4 nD4=>?_⟩;have ecut:wH (ord.map λ(i:Nat)=>V.int (i:Int)) none (some (g.cost g.all-(bj g).sum))=(ord.take wn).map λ(i:Nat)=>V.int (i:Int):=by rw[ewn,Nc,map_take]
  rw[ecut];have s7:=ah (o:= .lst ((ord.take wn).map λ(i:Nat)=>V.int (i:Int))) nD4;have hc7:upd H6 D4 (.lst ((ord.take wn).map λ(i:Nat)=>V.int (i:Int))) D4=some (.lst ((ord.take wn).map λ(i:Nat)=>V.int (i:Int))):=af;have told6:=s6 _ _ told5;have d42:D4≠D2:=λe=>by rw[e,told6]at nD4;cases nD4
  generalize upd H6 D4 (.lst ((ord.take wn).map λ(i:Nat)=>V.int (i:Int)))=H7 at s7 hc7;have told7:IL H7 D2 (ups (bj g) ((ord.take wn).take 0)):=s7 _ _ told6;refine⟨D4,rfl,⟨_,aH.of hc7⟩,d7 (aJ (xs:=(ord.take wn).map λ(i:Nat)=>V.int (i:Int))) (λi σ H'=>∃v7,σ=[some (.ref a),some (.ref p),some (.int (fact g.n:Nat)),some (.ref D),some (.ref D2),some (.int (g.cost g.all-(bj g).sum)),some (.ref D3),v7,none,none]/\jF D2 H7 H'/\IL H' D2 (ups (bj g) ((ord.take wn).take i))) ?h0 (λi σ H' _ ⟨_,_,b,_⟩=>aH.of (b _ _ d42 hc7)) ?_ ?_⟩
  case h0=>exact⟨none,rfl,ay.but (ay.refl _),told7⟩
  ·rintro i x σ H8 H9 hi ⟨v7,rfl,b8,h8⟩ s9 hx;obtain⟨z,hz,rfl⟩:=dq hx;have zn:z<g.n:=inN z (mem_of_mem_take (mem_of_getElem? hz));have lu:(ups (bj g) ((ord.take wn).take i)).length=g.n:=by rw[qh];unfold bj;simp
   have eg:(ups (bj g) ((ord.take wn).take i))[z]?=some ((ups (bj g) ((ord.take wn).take i)).getD z 0):=by rw[getD_eq_getElem?_getD,getElem?_eq_getElem (by omega)];rfl
   refine⟨_,rfl,_,rfl,D2,_,z,_,rfl,rfl,aH.of (s9 _ _ h8),(by rw[getElem?_map,eg];rfl),_,_,rfl,rfl,D2,_,_,z,rfl,rfl,s9 _ _ h8,(by rw[length_map,lu];exact ur zn),?_⟩;refine⟨_,rfl,(b8.trans (ay.but s9)).trans jF.upd,?_⟩;show upd H9 D2 _ D2=_;rw[af,take_snoc hz,IE,<-map_set]
  ·rintro σ H8 ⟨v7,rfl,b8,h8⟩;have nD2:H D2=none:=(s1.trans s2).none hD2;rw[length_map,take_length,fin]at h8;have tb5:TabAt A H5:=tb5;have t7:=tb5.same (s6.trans s7);refine⟨_,rfl,k D2 H8 (λb o hb e=>b8 _ _ (aq e nD2) (s7 _ _ (s6 _ _ (b5 _ _ hb (s4 _ _ (s03 _ _ e)))))) ?_ nD2 h8⟩;have told7:H7 D2=_:=told7;exact TabAt.but t7 b8 (λps e=>by rw[told7]at e;cases e) (λo f e=>by rw[told7]at e;cases e)
theorem Af(T:Txt K mg A F):aT P w K mg base (kJ P w) 7 A.dS F.dS ["holdings","numbers","row"] (xC K A 1 BM):=by
 refine br T.lX Az (λvs H Q E h=>?_) (λcdv Ar outer s H vs Q E hr h O=>?_)
 ·walk_at"e"
 ·walk_at"b";refine⟨_,((ai (aB (aw (xf T) hr T.yk T.jV.kp (xT T) az (aa (aO (pv 0) T.ax T.aF (aG T) hr (aI T) O.pass (aa (aU aE (pv 1) ao (λ_ _=>rfl)) ae)) ae))))),?_⟩;obtain⟨z,rfl⟩:=mq hl;obtain⟨dx,gl,da,dd,m,os,h1,h2,h3,h4,h5,h6,h7,tb⟩:=id hS;walk_at"a";refine⟨a,g,rfl,hG,W,tb,λq H' b tb' nq hq=>?_⟩;have ef:BM st [z] row=(st,rounded g):=dk e1 e2;rw[ef]at k1;obtain⟨pt,hpt,_⟩:=id tb;have fr:Fr A H H':=(RQ hpt).UE b λ_=>tb';have kp:∀c o,(∀x,o≠HO.qX x)->H c=some o->H' c=some o:=λc o ho e=>b c o (λz=>by rw[z,hpt]at e;exact ho pt (Option.some.inj e).symm) e;refine k1 q H' fr ⟨dx,gl,da,dd,m,os,kp _ _ (λx=>by intro z;cases z) h1,kp _ _ (λx=>by intro z;cases z) h2,h3,bc h4 λ_ _ _ _ e=>e.imp fr.ga,⟨kp _ _ (λx=>by intro z;cases z) h5.1,kp _ _ (λx=>by intro z;cases z) h5.2⟩,h6,h7,tb'⟩ (nw nq) hq
def uR(A:ql):Nat->Addr
 |0=>A.eX
 |1=>A.dQ
 |2=>A.eV
 |3=>A.dO
 |4=>A.dW
 |5=>A.cj
 |6=>A.bP
 |7=>A.bK
 |8=>A.dY
 |9=>A.cY
 |10=>A.c7
 |11=>A.dX
 |12=>A.eZ
 |13=>A.gv
 |14=>A.dU
 |15=>A.eW
 |16=>A.c5
 |17=>A.dR
 |18=>A.eY
 |19=>A.dJ
 |20=>A.dS
 |21=>A.gu
 |22=>A.dP
 |23=>A.cg
 |24=>A.c6
 |25=>A.cZ
 |26=>A.dM
 |27=>A.dN
 |_=>0
def FD:Nat->State->List Int->List Int->State×List Int
 |0=>Fw
 |1=>BK
 |2=>Fu
 |3=>BJ
 |4=>BO
 |5=>nB
 |6=>pL
 |7=>n4
 |8=>BQ
 |9=>x9
 |10=>uo
 |11=>BP
 |12=>Fy
 |13=>Jl
 |14=>BN
 |15=>Fv
 |16=>ya
 |17=>BL
 |18=>Fx
 |19=>BI
 |20=>BM
 |21=>Jk
 |22=>Hg
 |23=>yR
 |24=>Em
 |25=>El
 |26=>wK
 |27=>Hf
 |_=>λst _ _=>(st,[])
def eQ:Nat->Nat
 |0=>2
 |1=>3
 |2=>2
 |3=>1
 |4=>1
 |5=>1
 |6=>1
 |7=>1
 |8=>1
 |9=>1
 |10=>2
 |11=>2
 |12=>1
 |13=>3
 |14=>3
 |15=>2
 |16=>2
 |17=>3
 |18=>1
 |19=>1
 |20=>1
 |21=>3
 |22=>0
 |23=>0
 |24=>0
 |25=>0
 |26=>0
 |27=>0
 |_=>0
def qH:Nat->Bool
 |0=>true
 |1=>true
 |5=>true
 |10=>true
 |11=>true
 |16=>true
 |26=>true
 |_=>false
theorem Ri(T:Txt K mg A F):∀i:Nat,i<28->∃fd,aT P w K mg base (kJ P w) 7 (uR A i) fd ["holdings","numbers","row"] (xC K A (eQ i) (FD i))/\Binds K fd ["holdings","numbers","row"] []/\keepIn K (.ref (uR A i))=true
 |0,_=>⟨F.eX,(Cq T).mono (by decide),Dh T,T.og.kp⟩
 |1,_=>⟨F.dQ,(Ad T).mono (by decide),Bi T,T.lV.kp⟩
 |2,_=>⟨F.eV,(Co T).mono (by decide),Df T,T.n9.kp⟩
 |3,_=>⟨F.dO,(Ab T).mono (by decide),Bg T,T.lT.kp⟩
 |4,_=>⟨F.dW,(Ah T).mono (by decide),Bm T,T.lZ.kp⟩
 |5,_=>⟨F.cj,(vX T).mono (by decide),wB T,T.ji.kp⟩
 |6,_=>⟨F.bP,(uX T).mono (by decide),vJ T,T.iU.kp⟩
 |7,_=>⟨F.bK,(sJ T).mono (by decide),uN T,T.iG.kp⟩
 |8,_=>⟨F.dY,(Aj T).mono (by decide),Bp T,T.l5.kp⟩
 |9,_=>⟨F.cY,(yo T).mono (by decide),zS T,T.kM.kp⟩
 |10,_=>⟨F.c7,(yt T).mono (by decide),zW T,T.kQ.kp⟩
 |11,_=>⟨F.dX,(Ai T).mono (by decide),Bo T,T.l4.kp⟩
 |12,_=>⟨F.eZ,(Cs T).mono (by decide),Dj T,T.oj.kp⟩
 |13,_=>⟨F.gv,(DK T).mono (by decide),Fc T,T.pN.kp⟩
 |14,_=>⟨F.dU,(Ag T).mono (by decide),Bl T,T.lY.kp⟩
 |15,_=>⟨F.eW,(Cp T).mono (by decide),Dg T,T.oa.kp⟩
 |16,_=>⟨F.c5,(yq T).mono (by decide),zU T,T.kO.kp⟩
 |17,_=>⟨F.dR,(Ae T).mono (by decide),Bj T,T.lW.kp⟩
 |18,_=>⟨F.eY,(Cr T).mono (by decide),Di T,T.oh.kp⟩
 |19,_=>⟨F.dJ,(z7 T).mono (by decide),Bd T,T.lQ.kp⟩
 |20,_=>⟨F.dS,(Af T).mono (by decide),Bk T,T.lX.kp⟩
 |21,_=>⟨F.gu,(DJ T).mono (by decide),Fb T,T.pM.kp⟩
 |22,_=>⟨F.dP,(Ac T).mono (by decide),Bh T,T.lU.kp⟩
 |23,_=>⟨F.cg,(vW T).mono (by decide),wA T,T.jh.kp⟩
 |24,_=>⟨F.c6,(yr T).mono (by decide),zV T,T.kP.kp⟩
 |25,_=>⟨F.cZ,(yp T).mono (by decide),zT T,T.kN.kp⟩
 |26,_=>⟨F.dM,(z9 T).mono (by decide),Be T,T.lR.kp⟩
 |27,_=>⟨F.dN,(Aa T).mono (by decide),Bf T,T.lS.kp⟩
 |n+28,h=>absurd h (by omega)
structure Tab(P:Program)(w:World)(K:PySem.W.Frag)(mg:rn)(A:ql)(dD dG:Addr)(tp:Nat->Addr):Prop where
 T4:mg "DEBT_CALLS"=some (.ref dD)
 UI:mg "GAME_CALLS"=some (.ref dG)
 TZ:wy P w K dD ((range' 21 7).map λ(i:Nat)=>(.inl (i:Int),.ref (tp i)))
 UH:wy P w K dG ((List.range 21).map λ(i:Nat)=>(.inl (i:Int),.ref (tp i)))
 t:∀i:Nat,i<28->∀H,ra K H (tp i) [.ref (uR A i),.int (eQ i:Nat),.bl (qH i)]
variable{dD dG:Addr}{tp:Nat->Addr}
def Gf(tp:Nat->Addr):Sp:=λvs H Q _=>∃i:Nat,vs=[.int i]/\i<28/\Q (.ref (tp i)) H
theorem Gy(tp:Nat->Addr)(l:List Nat)(i:Nat):pz (l.map λ(i:Nat)=>((.inl (i:Int),.ref (tp i)):Key×V)) (.inl (i:Int))=if i∈l then some (.ref (tp i))else none:=by
 unfold pz
 induction l with
 |nil=>rfl
 |cons x r ih=>
  rw[map_cons,find?_cons];by_cases q:x=i
  ·subst q;simp
  ·have e:decide ((Sum.inl (x:Int):Key)=Sum.inl (i:Int))=false:=by
    rw[decide_eq_false_iff_not];intro e;have:=Sum.inl.inj e;omega
   dsimp only;rw[e];rw[ih];have:(i∈x::r)↔i∈r:=by
    rw[mem_cons];exact⟨λh=>h.resolve_left λe=>q e.symm,.inr⟩
   simp only[this]
theorem FV(T:Txt K mg A F)(B:Tab P w K mg A dD dG tp):aT P w K mg base gU 1 A.jR F.jR ["number"] (Gf tp):=by
 refine T.rS.ok F8 (λvs H Q E h=>?_) (λcdv Ar outer s H vs Q E hr h=>?_)
 ·obtain⟨i,rfl,_⟩:=h;rfl
 ·obtain⟨i,rfl,hi,k⟩:=h;refine⟨_,(ag (eP (RZ (Qj B.TZ (pv 0) (AZ rfl B.T4 rfl)) rfl) (ai (aB (HU B.TZ (AZ rfl B.T4 rfl) (pv 0) (λ_ _=>rfl)))) bL) (ai (aB (HU B.UH (AZ rfl B.UI rfl) (pv 0) (λ_ _=>rfl))))),?_⟩;refine⟨_,rfl,.inl (i:Int),rfl,_,rfl,?_⟩;rw[Gy];by_cases q:i∈range' 21 7
  ·rw[if_pos q];refine B4 ?_;exact⟨_,rfl,.inl (i:Int),_,rfl,by rw[Gy,if_pos q],k⟩
  ·rw[if_neg q];refine Jo ?_;refine⟨_,rfl,.inl (i:Int),_,rfl,by rw[Gy,if_pos (by rw[mem_range];simp at q;omega)],k⟩
def ud(A:ql):Sp:=λvs H Q _=>∃(i:Nat)(hd pn pr:Addr)(st:State)(ns row:List Int),vs=[.ref (uR A i),.ref hd,.ref pn,.ref pr]/\i<28/\mY A H hd st/\IL H pn ns/\ns.length=eQ i/\IL H pr row/\row.length<=1000/\∀q H',Fr A H H'->mY A H' hd (FD i st ns row).1->Nw H q->IL H' q (FD i st ns row).2->Q (.ref q) H'
theorem sI(T:Txt K mg A F):aT P w K mg base gU 8 A.cG F.cG ["answer_call","holdings","numbers","row"] (ud A):=by
 refine T.iF.ok kH (λvs H Q E h=>?_) (λcdv Ar outer s H vs Q E hr h=>?_)
 ·obtain⟨i,hd,pn,pr,st,ns,row,rfl,_⟩:=h;rfl
 ·obtain⟨i,hd,pn,pr,st,ns,row,rfl,hi,hS,hn,hl,hrow,hrl,k⟩:=h;refine⟨_,ai (Qr (k:=7) (i:=0) (j:=4) (R:=A.Refusal) ⟨rfl,rfl,rfl⟩ (hr.mono (by decide)) kH.nd rfl (Or.inl rfl) rfl rfl rfl T.i5 T.Jj (λ_=>rfl) (aa (pv 1) (aa (pv 2) (aa (pv 3) ae))) rfl),?_⟩;obtain⟨fd,fo,fb,fk⟩:=Ri T i hi;refine⟨uR A i,fd,_,_,rfl,fo,fb,fk,_,rfl,_,rfl,_,rfl,hd,pn,pr,st,ns,row,rfl,hS,hn,hl,hrow,hrl,k,λx ex=>?_⟩;intro H' C dx s1 hdx xc mr;refine⟨C,dx,x,rfl,rfl,hdx,xc,mr,λp np=>?_⟩;rw[ex]at k;exact k p _ (Fr.of (s1.trans (ah np))) (hS.same (s1.trans (ah np))) (nw (s1.none np)) af
theorem cz{st:State}{z:Int}{f:Game->State×List Int}{N:Nat}(hN:1<=N)(hg:∀g,some g∈st.games->GW g)(h:∀g,GW g->(f g).2.length<=N):(inSlot st z f).2.length<=N:=by
 unfold inSlot
 split
 ·exact hN
 ·split
  ·exact hN
  ·rename_i g e;refine h g (hg g ?_);rw[getD_eq_getElem?_getD]at e;cases q:st.games[z.toNat]? with
   |none=>rw[q]at e;cases e
   |some x=>
    rw[q]at e;have e:x=some g:=e;rw[<-e];exact mem_of_getElem? q
theorem p7(st:State)(z:Int)(g:Game):(Vbedah.put st z g).2.length<=1000:=by
 unfold Vbedah.put
 split
 ·show 1<=1000;decide
 ·show 1<=1000;decide
theorem xJ{st:State}{z:Int}{f:Unit->State×List Int}(h:(f ()).2.length<=1000):(toSlot st z f).2.length<=1000:=by
 unfold toSlot
 split
 ·show 1<=1000;decide
 ·exact h
theorem qg(l:List Vbedah.Q):(toldQs l).length<=2*l.length:=by
 unfold toldQs;exact fq (n:=2) _ λx _=>le_refl _
theorem ET(d:Debts)(h:d.length<=100):(toldDebts d).length<=1000:=by
 have:(d.flatMap λx=>nats [x.1,x.2.1,x.2.2]).length<=3*d.length:=fq _ λx _=>le_refl _;unfold toldDebts;rw[length_cons];omega
theorem KP{st:State}(hg:∀g,some g∈st.games->GW g)(ok:eU st.debts)(nd:Mx st.debts)(ns row:List Int):∀i:Nat,i<28->(FD i st ns row).2.length<=1000
 |0,_=>by
  show(if _ then _ else if _ then _ else _:State×List Int).2.length<=1000
  split
  ·show 1<=1000;decide
  ·split
   ·show 1<=1000;decide
   ·exact p7 _ _ _
 |1,_=>by
  show(if _ then _ else if _ then _ else _:State×List Int).2.length<=1000
  split
  ·show 1<=1000;decide
  ·split
   ·show 1<=1000;decide
   ·exact p7 _ _ _
 |2,_=>cz (by decide) hg λg W=>by
  show(if _ then _ else _:List Int).length<=1000
  split
  ·decide
  ·show 1<=1000;decide
 |3,_=>cz (by decide) hg λg W=>by
  show((Vbedah.groups g.n).map g.cost).length<=1000;have:=W.pow;rw[length_map,cb];omega
 |4,_=>cz (by decide) hg λg W=>by
  have h1:=qg (share g);have h2:(share g).length=g.n:=by unfold share;simp
  have:=W.n8;show(toldQs (share g)).length<=1000;omega
 |5,_=>cz (by decide) hg λg W=>by
  show(match regionsOf g.n row with|none=>[-4]|some r=>if r.length≠g.n then [-4]else byOrder g r:List Int).length<=1000;have:=W.n8
  split
  ·decide
  ·split
   ·decide
   ·unfold byOrder;rw[length_map,length_range];omega
 |6,_=>cz (by decide) hg λg W=>by
  show((Vbedah.groups g.n).map (dividend g)).length<=1000;have:=W.pow;rw[length_map,cb];omega
 |7,_=>cz (by decide) hg λg W=>by
  have h1:=qg (potentials g);have h2:=K0 g;have:=W.pow;show(toldQs (potentials g)).length<=1000;omega
 |8,_=>cz (by decide) hg λg W=>by
  have h1:=qg (swing g);have h2:(swing g).length=g.n:=by unfold swing;simp
  have:=W.n8;show(toldQs (swing g)).length<=1000;omega
 |9,_=>cz (by decide) hg λg W=>by
  show(match dearer g with|none=>[0]|some x=>1::nats [x.1,x.2.1,x.2.2]:List Int).length<=1000
  split
  ·decide
  ·show 4<=1000;decide
 |10,_=>cz (by decide) hg λg W=>by
  show(match qsOf (n1 ns) row with|none=>[-4]|some x=>if x.length≠g.n then [-4]else if covers g x=false then [2]else if stable g x=true then [1]else 0::ofNat (loudest g x).1::toldQ (loudest g x).2:List Int).length<=1000
  split
  ·decide
  ·split
   ·decide
   ·split
    ·decide
    ·split
     ·decide
     ·show 4<=1000;decide
 |11,_=>cz (by decide) hg λg W=>by
  show(match weightsOf g.n (n1 ns) row with|none=>[-4]|some w=>[if shows g w=true then 1 else 0]:List Int).length<=1000
  split
  ·decide
  ·show 1<=1000;decide
 |12,_=>cz (by decide) hg λg W=>by
  show(if g.hours.isEmpty=true then [-6]else ofNat (peak g)::toldQs (peakShares g):List Int).length<=1000;have h1:=qg (peakShares g);have h2:(peakShares g).length=g.n:=by unfold peakShares;simp
  have:=W.n8
  split
  ·decide
  ·rw[length_cons];omega
 |13,_=>cz (by decide) hg λg W=>cz (by decide) hg λg' W'=>xJ (by
   walk_at"E"
   split
   ·show 1<=1000;decide
   ·exact p7 _ _ _)
 |14,_=>cz (by decide) hg λg W=>xJ (by
   walk_at"E"
   split
   ·show 1<=1000;decide
   ·exact p7 _ _ _)
 |15,_=>cz (by decide) hg λg W=>xJ (p7 _ _ _)
 |16,_=>cz (by decide) hg λg W=>xJ (by
   show(match regionsOf g.n row with|none=>(st,[-4])|some r=>Vbedah.put st (n1 ns) (renamed g r):State×List Int).2.length<=1000
   split
   ·show 1<=1000;decide
   ·exact p7 _ _ _)
 |17,_=>cz (by decide) hg λg W=>xJ (by
   walk_at"E"
   split
   ·show 1<=1000;decide
   ·exact p7 _ _ _)
 |18,_=>cz (by decide) hg λg W=>by
  show(ofNat (Vbedah.idle g).length::nats (Vbedah.idle g)).length<=1000;have il:(Vbedah.idle g).length<=8:=by
   unfold Vbedah.idle;exact le_trans (length_filter_le _ _) (by rw[length_range];exact W.n8)
  unfold nats;rw[length_cons,length_map];omega
 |19,_=>cz (by decide) hg λg W=>by
  show(ofNat (pairs g).length::(pairs g).flatMap λx=>nats [x.1,x.2]).length<=1000;have h1:=KQ W;have h2:((pairs g).flatMap λx=>nats [x.1,x.2]).length<=2*(pairs g).length:=fq _ λx _=>le_refl _;rw[length_cons];omega
 |20,_=>cz (by decide) hg λg W=>by
  show(rounded g).length<=1000;have:=W.n8;unfold rounded;rw[length_map,length_range];omega
 |21,_=>by
  walk_at"E"
  split
  ·show 1<=1000;decide
  ·show 1<=1000;decide
 |22,_=>ET _ (nA nd ok)
 |23,_=>by
  show(balances st.debts).length<=1000;rw[ck];decide
 |24,_=>ET _ (EW ok)
 |25,_=>by
  obtain⟨f1,f2,_⟩:=kD ok;show(ofNat _::ofNat _::(partsOf st.debts).flatMap λl=>ofNat l.length::nats l).length<=1000;have:((partsOf st.debts).flatMap λl=>ofNat l.length::nats l).length<=11*(partsOf st.debts).length:=fq _ λl hl=>by
   have:=(f2 l hl).1;unfold nats;rw[length_cons,length_map];omega
  rw[length_cons,length_cons];omega
 |26,_=>by
  show(match transfersOf row with|none=>[-4]|some t=>if settles st.debts t=false then [0]else [1,ofNat t.length-ofNat (Vbedah.transfers st.debts).length]:List Int).length<=1000
  split
  ·decide
  ·split
   ·decide
   ·show 2<=1000;decide
 |27,_=>by show 1<=1000;decide
 |n+28,h=>absurd h (by omega)
theorem pj{A:ql}{H:Hp}{hd:Addr}{st:State}(h:mY A H hd st):(∀g,some g∈st.games->GW g)/\eU st.debts/\Mx st.debts:=by
 obtain⟨dx,gl,da,dd,m,os,h1,h2,h3,h4,h5,h6,h7⟩:=h;refine⟨λg hg=>?_,h6,h7.1⟩;obtain⟨i,hi⟩:=List.getElem?_of_mem hg;obtain⟨o,ho,sl⟩:=pY h4 hi;rcases sl with⟨_,e⟩|⟨a,k,_,e,_,W⟩
 ·cases e
 ·rw[Option.some.inj e];exact W
theorem Mg{p:Int}{n k:Nat}(h:shape p=some (n,k)):∃i:Nat,i<28/\p=(i:Int)/\n=eQ i/\k=(if qH i=true then 1 else 0):=by
 by_cases e0:p=0
 ·subst e0;have h:some (2,1)=some (n,k):=h;cases h;exact⟨0,by decide,rfl,rfl,rfl⟩
 by_cases e1:p=1
 ·subst e1;have h:some (3,1)=some (n,k):=h;cases h;exact⟨1,by decide,rfl,rfl,rfl⟩
 by_cases e2:p=2
 ·subst e2;have h:some (2,0)=some (n,k):=h;cases h;exact⟨2,by decide,rfl,rfl,rfl⟩
 by_cases e3:p=3
 ·subst e3;walk_at"C";cases h;exact⟨3,by decide,rfl,rfl,rfl⟩
 by_cases e4:p=4
 ·subst e4;walk_at"C";cases h;exact⟨4,by decide,rfl,rfl,rfl⟩
 by_cases e5:p=5
 ·subst e5;have h:some (1,1)=some (n,k):=h;cases h;exact⟨5,by decide,rfl,rfl,rfl⟩
 by_cases e6:p=6
 ·subst e6;walk_at"C";cases h;exact⟨6,by decide,rfl,rfl,rfl⟩
 by_cases e7:p=7
 ·subst e7;walk_at"C";cases h;exact⟨7,by decide,rfl,rfl,rfl⟩
 by_cases e8:p=8
 ·subst e8;walk_at"C";cases h;exact⟨8,by decide,rfl,rfl,rfl⟩
 by_cases e9:p=9
 ·subst e9;walk_at"C";cases h;exact⟨9,by decide,rfl,rfl,rfl⟩
 by_cases e10:p=10
 ·subst e10;have h:some (2,1)=some (n,k):=h;cases h;exact⟨10,by decide,rfl,rfl,rfl⟩
 by_cases e11:p=11
 ·subst e11;have h:some (2,1)=some (n,k):=h;cases h;exact⟨11,by decide,rfl,rfl,rfl⟩
 by_cases e12:p=12
 ·subst e12;walk_at"C";cases h;exact⟨12,by decide,rfl,rfl,rfl⟩
 by_cases e13:p=13
 ·subst e13;have h:some (3,0)=some (n,k):=h;cases h;exact⟨13,by decide,rfl,rfl,rfl⟩
 by_cases e14:p=14
 ·subst e14;have h:some (3,0)=some (n,k):=h;cases h;exact⟨14,by decide,rfl,rfl,rfl⟩
 by_cases e15:p=15
 ·subst e15;have h:some (2,0)=some (n,k):=h;cases h;exact⟨15,by decide,rfl,rfl,rfl⟩
 by_cases e16:p=16
 ·subst e16;have h:some (2,1)=some (n,k):=h;cases h;exact⟨16,by decide,rfl,rfl,rfl⟩
 by_cases e17:p=17
 ·subst e17;have h:some (3,0)=some (n,k):=h;cases h;exact⟨17,by decide,rfl,rfl,rfl⟩
 by_cases e18:p=18
 ·subst e18;walk_at"C";cases h;exact⟨18,by decide,rfl,rfl,rfl⟩
 by_cases e19:p=19
 ·subst e19;walk_at"C";cases h;exact⟨19,by decide,rfl,rfl,rfl⟩
 by_cases e20:p=20
 ·subst e20;walk_at"C";cases h;exact⟨20,by decide,rfl,rfl,rfl⟩
 by_cases e21:p=21
 ·subst e21;have h:some (3,0)=some (n,k):=h;cases h;exact⟨21,by decide,rfl,rfl,rfl⟩
 by_cases e22:p=22
 ·subst e22;have h:some (0,0)=some (n,k):=h;cases h;exact⟨22,by decide,rfl,rfl,rfl⟩
 by_cases e23:p=23
 ·subst e23;have h:some (0,0)=some (n,k):=h;cases h;exact⟨23,by decide,rfl,rfl,rfl⟩
 by_cases e24:p=24
 ·subst e24;have h:some (0,0)=some (n,k):=h;cases h;exact⟨24,by decide,rfl,rfl,rfl⟩
 by_cases e25:p=25
 ·subst e25;have h:some (0,0)=some (n,k):=h;cases h;exact⟨25,by decide,rfl,rfl,rfl⟩
 by_cases e26:p=26
 ·subst e26;have h:some (0,1)=some (n,k):=h;cases h;exact⟨26,by decide,rfl,rfl,rfl⟩
 by_cases e27:p=27
 ·subst e27;have h:some (0,0)=some (n,k):=h;cases h;exact⟨27,by decide,rfl,rfl,rfl⟩
 have e:shape p=none:=by
  unfold shape;rw[if_neg e0,if_neg e1,if_neg e2,if_neg e3,if_neg e4,if_neg e5,if_neg e6,if_neg e7,if_neg e8,if_neg e9,if_neg e10,if_neg e11,if_neg e12,if_neg e13,if_neg e14,if_neg e15,if_neg e16,if_neg e17,if_neg e18,if_neg e19,if_neg e20,if_neg e21,if_neg e22,if_neg e23,if_neg e24,if_neg e25,if_neg e26,if_neg e27]
 rw[e]at h;cases h
theorem step_get(st:State)(args x:List Int):∀i:Nat,i<28->args.length=eQ i->VbedahNeutral.step st (PyVbedah.whole (((i:Int)::args)::(if qH i=true then [x]else [])))=FD i st args (if qH i=true then x else [])
 |0,_,h=>by obtain⟨a,b,rfl⟩:=rb h;rfl
 |1,_,h=>by obtain⟨a,b,c,rfl⟩:=yh h;rfl
 |2,_,h=>by obtain⟨a,b,rfl⟩:=rb h;rfl
 |3,_,h=>by obtain⟨a,rfl⟩:=mq h;rfl
 |4,_,h=>by obtain⟨a,rfl⟩:=mq h;rfl
 |5,_,h=>by obtain⟨a,rfl⟩:=mq h;rfl
 |6,_,h=>by obtain⟨a,rfl⟩:=mq h;rfl
 |7,_,h=>by obtain⟨a,rfl⟩:=mq h;rfl
 |8,_,h=>by obtain⟨a,rfl⟩:=mq h;rfl
 |9,_,h=>by obtain⟨a,rfl⟩:=mq h;rfl
 |10,_,h=>by obtain⟨a,b,rfl⟩:=rb h;rfl
 |11,_,h=>by obtain⟨a,b,rfl⟩:=rb h;rfl
 |12,_,h=>by obtain⟨a,rfl⟩:=mq h;rfl
 |13,_,h=>by obtain⟨a,b,c,rfl⟩:=yh h;rfl
 |14,_,h=>by obtain⟨a,b,c,rfl⟩:=yh h;rfl
 |15,_,h=>by obtain⟨a,b,rfl⟩:=rb h;rfl
 |16,_,h=>by obtain⟨a,b,rfl⟩:=rb h;rfl
 |17,_,h=>by obtain⟨a,b,c,rfl⟩:=yh h;rfl
 |18,_,h=>by obtain⟨a,rfl⟩:=mq h;rfl
 |19,_,h=>by obtain⟨a,rfl⟩:=mq h;rfl
 |20,_,h=>by obtain⟨a,rfl⟩:=mq h;rfl
 |21,_,h=>by obtain⟨a,b,c,rfl⟩:=yh h;rfl
 |22,_,h=>by obtain rfl:=len0 h;rfl
 |23,_,h=>by obtain rfl:=len0 h;rfl
 |24,_,h=>by obtain rfl:=len0 h;rfl
 |25,_,h=>by obtain rfl:=len0 h;rfl
 |26,_,h=>by obtain rfl:=len0 h;rfl
 |27,_,h=>by obtain rfl:=len0 h;rfl
 |n+28,h,_=>absurd h (by omega)
theorem Pl(a b:Int)(x:List Int)(q:asked1 (PyVbedah.whole [[0,a,b],x])=true):x.length<=1000:=by
 walk_at"n";walk_at"B";generalize whole64 a=wa at q;generalize whole64 b=wb at q;walk_at"y";omega
theorem Pn(a b c:Int)(x:List Int)(q:asked1 (PyVbedah.whole [[1,a,b,c],x])=true):x.length<=1000:=by
 have q:(whole64 a&&(whole64 b&&(whole64 c&&((x.all λz=>whole64 z)&&decide (x.length<=1000)))))=true:=q;walk_at"B";generalize whole64 a=wa at q;generalize whole64 b=wb at q;generalize whole64 c=wc at q;walk_at"y";omega
theorem Po(a:Int)(x:List Int)(q:asked1 (PyVbedah.whole [[5,a],x])=true):x.length<=1000:=by
 have q:(whole64 a&&((x.all λz=>whole64 z)&&decide (x.length<=1000)))=true:=q;walk_at"B";generalize whole64 a=wa at q;walk_at"y";omega
theorem MO(a b:Int)(x:List Int)(q:asked1 (PyVbedah.whole [[10,a,b],x])=true):x.length<=1000:=by
 walk_at"n";walk_at"B";generalize whole64 a=wa at q;generalize whole64 b=wb at q;walk_at"y";omega
theorem MP(a b:Int)(x:List Int)(q:asked1 (PyVbedah.whole [[11,a,b],x])=true):x.length<=1000:=by
 walk_at"n";walk_at"B";generalize whole64 a=wa at q;generalize whole64 b=wb at q;walk_at"y";omega
theorem MQ(a b:Int)(x:List Int)(q:asked1 (PyVbedah.whole [[16,a,b],x])=true):x.length<=1000:=by
 walk_at"n";walk_at"B";generalize whole64 a=wa at q;generalize whole64 b=wb at q;walk_at"y";omega
theorem MR(x:List Int)(q:asked1 (PyVbedah.whole [[26],x])=true):x.length<=1000:=by
 have q:((x.all λz=>whole64 z)&&decide (x.length<=1000))=true:=q;walk_at"B";walk_at"y";omega
theorem Lh(args x:List Int)(i:Nat)(hi:i<28)(h:args.length=eQ i)(r:qH i=true)(q:asked1 (PyVbedah.whole [(i:Int)::args,x])=true):x.length<=1000:=by
 have ii:i=0\/i=1\/i=5\/i=10\/i=11\/i=16\/i=26:=by
  clear q h
  revert hi r
  revert i
  decide
 rcases ii with rfl|rfl|rfl|rfl|rfl|rfl|rfl
 ·obtain⟨a,b,rfl⟩:=rb h;exact Pl a b x q
 ·obtain⟨a,b,c,rfl⟩:=yh h;exact Pn a b c x q
 ·obtain⟨a,rfl⟩:=mq h;exact Po a x q
 ·obtain⟨a,b,rfl⟩:=rb h;exact MO a b x q
 ·obtain⟨a,b,rfl⟩:=rb h;exact MP a b x q
 ·obtain⟨a,b,rfl⟩:=rb h;exact MQ a b x q
 ·obtain rfl:=len0 h;exact MR x q
variable{dD dG:Addr}{tp:Nat->Addr}
theorem OA{f:Nat}{p:Int}{r:List Int}{cs:List (List (List Int))}(h:PyFlat.calls shape f (p::r)=some cs):∃(i:Nat)(x t:List Int)(cs1:List (List (List Int)))(f1:Nat),i<28/\p=(i:Int)/\eQ i<=r.length/\cs=(((i:Int)::r.take (eQ i))::(if qH i=true then [x]else []))::cs1/\PyFlat.calls shape f1 t=some cs1/\
  ((qH i=false/\t=r.drop (eQ i))\/(qH i=true/\∃(m:Nat)(r':List Int),r.drop (eQ i)=(m:Int)::r'/\m<=r'.length/\x=r'.take m/\t=r'.drop m)):=by
 cases f with
 |zero=>rw[PyFlat.calls]at h;cases h
 |succ f=>
  rw[PyFlat.calls]at h;cases hc:PyFlat.call shape (p::r)with
  |none=>rw[hc]at h;cases h
  |some ct=>
   obtain⟨c,t⟩:=ct;rw[hc]at h;dsimp only at h;cases h1:PyFlat.calls shape f t with
   |none=>rw[h1]at h;cases h
   |some cs1=>
    rw[h1]at h;have h:some (c::cs1)=some cs:=h;cases h;rw[PyFlat.call]at hc;cases hs:shape p with
    |none=>rw[hs]at hc;cases hc
    |some nk=>
     obtain⟨n,k⟩:=nk;rw[hs]at hc;dsimp only at hc;obtain⟨i,hi,rfl,rfl,rfl⟩:=Mg hs
     split at hc
     ·cases hc
     ·rename_i hlen;cases hr:qH i with
      |false=>
       rw[hr]at hc;have hc:some (((i:Int)::r.take (eQ i))::[],r.drop (eQ i))=some (c,t):=hc;cases hc;exact⟨i,[],_,cs1,f,hi,rfl,by omega,by rw[hr];rfl,h1,.inl ⟨hr,rfl⟩⟩
      |true=>
       rw[hr]at hc;have hc:(match rows 1 (r.drop (eQ i))with|none=>none|some (xs,t)=>some (((i:Int)::r.take (eQ i))::xs,t))=some (c,t):=hc;rw[rows]at hc;cases hd:r.drop (eQ i)with
       |nil=>rw[hd,PyFlat.row]at hc;cases hc
       |cons m r'=>
        rw[hd,PyFlat.row]at hc;by_cases q:0<=m/\m.toNat<=r'.length
        ·rw[if_pos q]at hc;have hc:some (((i:Int)::r.take (eQ i))::[r'.take m.toNat],r'.drop m.toNat)=some (c,t):=hc;cases hc;refine⟨i,r'.take m.toNat,_,cs1,f,hi,rfl,by omega,by rw[hr];rfl,h1,.inr ⟨hr,m.toNat,r',?_,q.2,rfl,rfl⟩⟩;rw[show((m.toNat:Nat):Int)=m by omega];exact hd
        ·rw[if_neg q]at hc;cases hc
def mask(H:Hp)(t:Addr):Hp:=upd H t (.own t)
theorem mY.off{A:ql}{H H':Hp}{hd t:Addr}{st:State}(h:mY A H hd st)(h1:∀xs,H t≠some (.lst xs))(h2:∀C dx fs,H t≠some (.ins C dx fs))(h3:∀kvs,H t≠some (.dT kvs))(h4:∀ps,H t≠some (.qX ps))(h5:∀o φ,H t≠some (.jb o (.ext φ)))(b:jF t H H'):mY A H' hd st:=by
 obtain⟨dx,gl,da,dd,m,os,a1,a2,a3,a4,a5,a6,a7⟩:=h;have il:∀c ns,IL H c ns->IL H' c ns:=λc ns e=>b _ _ (λq=>h1 _ (by rw[<-q];exact e)) e;have ga:∀c g,aZ A.Game H c g->aZ A.Game H' c g:=λc g e=>by
  obtain⟨gx,cc,d,e1,e2,e3⟩:=e;refine⟨gx,cc,d,b _ _ (λq=>h2 _ _ _ (by rw[<-q];exact e1)) e1,il _ _ e2,?_⟩;rcases e3 with e3|⟨p,e4,e5,ps,e6,e7⟩
  ·exact .inl e3
  ·exact .inr ⟨p,e4,e5,ps,b _ _ (λq=>h1 _ (by rw[<-q];exact e6)) e6,bc e7 λ_ _ _ _ e=>il _ _ e⟩
 exact⟨dx,gl,da,dd,m,os,b _ _ (λq=>h2 _ _ _ (by rw[<-q];exact a1)) a1,b _ _ (λq=>h1 _ (by rw[<-q];exact a2)) a2,a3,bc a4 λ_ _ _ _ e=>e.imp ga,⟨b _ _ (λq=>h2 _ _ _ (by rw[<-q];exact a5.1)) a5.1,b _ _ (λq=>h3 _ (by rw[<-q];exact a5.2)) a5.2⟩,a6,a7.1,a7.2.but b h4 h5⟩
theorem mY.show{A:ql}{H H':Hp}{hd t:Addr}{st:State}(h:mY A (mask H t) hd st)(b:jF t (mask H t) H'):mY A H' hd st:=by
 have e:mask H t t=some (.own t):=af;exact h.off (λxs q=>by rw[e]at q;cases q) (λC dx fs q=>by rw[e]at q;cases q) (λk q=>by rw[e]at q;cases q) (λk q=>by rw[e]at q;cases q) (λo k q=>by rw[e]at q;cases q) b
theorem Cg{H H':Hp}{t:Addr}(s:∀b o,b≠t->H b=some o->H' b=some o):jF t (mask H t) H':=λb o q e=>by
 unfold mask at e;rw[ak q]at e;exact s b o q e
theorem QD{K:PySem.W.Frag}{H H':Hp}{a t:Addr}{xs:List V}(h:aH K (mask H t) a xs)(b:jF t (mask H t) H'):aH K H' a xs:=by
 rcases h with(h|⟨o,h⟩)|h
 ·refine .inl (.inl (b _ _ (λq=>?_) h));rw[q]at h;have e:mask H t t=some (.own t):=af;rw[e]at h;cases h
 ·refine .inl (.inr ⟨o,b _ _ (λq=>?_) h⟩);rw[q]at h;have e:mask H t t=some (.own t):=af;rw[e]at h;cases h
 ·exact .inr h
theorem K8{A:ql}{K:PySem.W.Frag}{H H1 H2 H3:Hp}{a t:Addr}{ns:List Int}(h:aH K (mask H t) a (ns.map V.int))(b:jF t (mask H t) H1)(f:Fr A H1 H2)(b2:jF t H2 H3):aH K H3 a (ns.map V.int):=by
 have e:mask H t t=some (.own t):=af;rcases h with(h|⟨o,h⟩)|h
 ·have q:a≠t:=λq=>by rw[q,e]at h;cases h
  exact .inl (.inl (b2 _ _ q (f.il _ _ (b _ _ q h))))
 ·have q:a≠t:=λq=>by rw[q,e]at h;cases h
  exact .inl (.inr ⟨o,b2 _ _ q (f.fz _ _ _ (b _ _ q h))⟩)
 ·exact .inr h
def CU(K:PySem.W.Frag):Sp:=λvs H Q _=>∃(a:Addr)(ns:List Int),vs=[.ref a]/\aH K H a (ns.map V.int)/\answers_asked ns=true/\(∀c t,tabIn K "rounded_shares"=some (c,t)->H t=some (.qX #[]))/\∀(H':Hp)(p:Addr),IL H' p (PyVbedah.answers ns)->Q (.ref p) H'
theorem JA(T:Txt K mg A F)(B:Tab P w K mg A dD dG tp):aT P w K mg base gU 9 A.answers F.answers ["calls"] (CU K):=by
 refine T.Lz.ok dH (λvs H Q E h=>?_) (λcdv Ar outer s H vs Q E hr h=>?_)
 ·obtain⟨a,ns,rfl,_⟩:=h;rfl
 ·obtain⟨a,ns,rfl,ha,hask,htb,k⟩:=h;have tb:TabAt A H:=⟨#[],htb _ _ T.S1,trivial,.inl rfl⟩
  refine⟨_,((ag (fC 1 dH.nd (HX T.HF (yn T) (hr.mono (by decide)) rfl T.Js (zR T) .nil az))
   (ag (fC 2 dH.nd (bb ae))
   (ag (fC 3 dH.nd ao)
   (ag (sU PassesOwn.never (bG CB (pv 3) (aL aK (by rfl) T.eO cC (aa (pv 0) ae)) (bI _))
   (ag (fC 4 dH.nd (aw (FV T B) hr T.Ht T.rS.kp (GJ T) az (aa (aU aE (pv 0) (pv 3) (λ_ _=>rfl)) ae)))
   (ag (fC 5 dH.nd (aR iI (aR iI (pv 3) ao) (aU FL (pv 4) ao (λ_ _=>rfl))))
   (ag (fC 6 dH.nd (oS xA (pv 0) (kf (aR iI (pv 3) ao)) (kf (pv 5))))
   (ag (fC 7 dH.nd (bb ae))
   (ag (eP (iq (aU FL (pv 4) ao (λ_ _=>rfl)))
   (ag (fC 7 dH.nd (oS xA (pv 0) (kf (aR iI (pv 5) ao)) (kf (aR iI (aR iI (pv 5) ao) (aU aE (pv 0) (pv 5) (λ_ _=>rfl))))))
   (ai (yz (i:=5) dH.nd rfl (Or.inl rfl) (aR iI ao (aL aK (by rfl) T.eO cC (aa (pv 7) ae))) vR)))
   bL)
   (ag (Qq (fC 8 dH.nd (aw (sI T) hr T.uS T.iF.kp (uM T) az (aa (aU FL (pv 4) ao (λ_ _=>rfl)) (aa (pv 1) (aa (pv 6) (aa (pv 7) ae)))))))
   (ag (aM (nR PySem.F.plainAttrs_list PySem.F.slot_list_append PySem.F.type_list_append i6 (pv 2) (aa (aL aK (by rfl) T.eO cC (aa (pv 8) ae)) ae)))
   (ag (aM (nR PySem.F.plainAttrs_list PySem.F.slot_list_extend PySem.F.type_list_extend uw (pv 2) (aa (pv 8) ae)))
   (ai (fC 3 dH.nd (pv 5))))))))))))
   (ai (aB (pv 2)))))))),?_⟩
  obtain⟨cs0,hc0,hans0,hall0,hn0⟩:∃cs,PyFlat.calls shape ns.length ns=some cs/\PyVbedah.answers ns=PyFlat.told (played VbedahNeutral.step VbedahNeutral.start (cs.map PyVbedah.whole))/\(cs.map PyVbedah.whole).all asked1=true/\cs.length<=200:=by
   unfold answers_asked PyVbedah.calls at hask;unfold PyVbedah.answers PyVbedah.calls;cases e:PyFlat.calls shape ns.length ns with
   |none=>rw[e]at hask;cases hask
   |some cs=>
    rw[e]at hask;have hask:(PyFlat.atMost 200 (cs.map PyVbedah.whole)&&((cs.map PyVbedah.whole).all asked1&&decide ((cs.map PyVbedah.whole).length<=200)))=true:=hask;rw[and_eq_true,and_eq_true,decide_eq_true_iff,length_map]at hask;exact⟨cs,rfl,rfl,hask.2.1,hask.2.2⟩
  intro hd dxh nh ndh neh;refine⟨hd,dxh,rfl,af,tb.same (λb o e=>by rw[ak (aq e nh),ak (aq e ndh)];exact e),λH1 b1 hS1=>⟨rfl,?_⟩⟩;have s1:ay H H1:=λb o e=>b1 _ _ (aq e nh) (by rw[ak (aq e nh),ak (aq e ndh)];exact e);refine⟨zero_le _,λt nt=>?_⟩;have sM:ay H1 (mask (upd H1 t (.lst [])) t):=λb o e=>by
   unfold mask;rw[ak (aq e nt),ak (aq e nt)];exact e
  refine uh (λσ H'=>∃(at':Nat)(st:State)(out:List Int)(cs:List (List (List Int)))(dn f:Nat)(v4 v5 v6 v7 v8:Option V),σ=[some (.ref a),some (.ref hd),some (.ref t),some (.int at'),v4,v5,v6,v7,v8]/\mY A (mask H' t) hd st/\aH K (mask H' t) a (ns.map V.int)/\IL H' t out/\at'<=ns.length/\PyFlat.calls shape f (ns.drop at')=some cs/\PyVbedah.answers ns=out++PyFlat.told (played VbedahNeutral.step st (cs.map PyVbedah.whole))/\(cs.map PyVbedah.whole).all asked1=true/\dn+cs.length<=200/\out.length<=1001*dn) (λσ _=>match σ with|[_,_,_,some (.int y),_,_,_,_,_]=>ns.length-y.toNat|_=>0) ⟨0,Vbedah.start,[],cs0,0,ns.length,none,none,none,none,none,rfl,hS1.same sM,(s1.trans sM).seq ha,af,zero_le _,hc0,hans0,hall0,by omega,le_refl _⟩ ?_ ?_
  ·rintro σ H' ⟨at',st,out,cs,dn,f,v4,v5,v6,v7,v8,rfl,hS,hsq,hout,hat,hf,hans,hall,hdn,hol⟩;have hsq':aH K H' a (ns.map V.int):=QD hsq (Cg λb o q e=>e);refine⟨_,rfl,_,rfl,a,_,rfl,.inl hsq',_,_,rfl,rfl,_,rfl,?_⟩;walk_at"i"
   ·have hlt:at'<ns.length:=by
     have:(at':Int)<(((ns.map V.int).length:Nat):Int):=by simpa using hh
     rw[length_map]at this;omega
    obtain⟨p0,r,edr⟩:∃p0 r,ns.drop at'=p0::r:=⟨ns[at'],ns.drop (at'+1),by rw[drop_eq_getElem_cons hlt]⟩
    have er:r=ns.drop (at'+1):=by
     rw[drop_eq_getElem_cons hlt]at edr;exact(List.cons.inj edr).2.symm
    have gp:ns[at']?=some p0:=by
     rw[drop_eq_getElem_cons hlt]at edr;rw[getElem?_eq_getElem hlt,(List.cons.inj edr).1]
    have rl:r.length=ns.length-(at'+1):=by rw[er,length_drop]
    rw[edr]at hf;obtain⟨i,x,tt,cs1,f1,hi,rfl,hle,rfl,hf1,hcase⟩:=OA hf;have hal:(r.take (eQ i)).length=eQ i:=by rw[length_take];omega
    have hall:asked1 (PyVbedah.whole (((i:Int)::r.take (eQ i))::(if qH i=true then [x]else [])))=true/\(cs1.map PyVbedah.whole).all asked1=true:=by
     rw[map_cons,all_cons,and_eq_true]at hall;exact hall
    refine⟨_,rfl,_,rfl,a,_,_,_,rfl,rfl,hsq',iw gp,i,rfl,hi,?_⟩;refine⟨_,rfl,_,_,rfl,rfl,_,rfl,tp i,_,_,_,rfl,rfl,B.t i hi _,at_of (j:=1) rfl rfl,_,_,rfl,rfl,?_⟩;have e1:(at':Int)+1=((at'+1:Nat):Int):=by omega
    refine⟨_,rfl,_,rfl,_,_,rfl,rfl,_,rfl,_,rfl,_,rfl,a,_,rfl,hsq',λpn npn=>?_⟩;have ecut:wH (ns.map V.int) (some ((at':Int)+1)) (some ((at':Int)+1+((eQ i:Nat):Int)))=(r.take (eQ i)).map V.int:=by rw[e1,wI (by omega),<-er]
    dsimp only;rw[ecut];have spn:=ah (o:= .lst ((r.take (eQ i)).map V.int)) npn;have hpn:IL (upd H' pn (.lst ((r.take (eQ i)).map V.int))) pn (r.take (eQ i)):=af;have pnt:pn≠t:=λe=>by
     have hout:H' t=_:=hout;rw[e,hout]at npn;cases npn
    generalize upd H' pn (.lst ((r.take (eQ i)).map V.int))=H3 at spn hpn;refine⟨zero_le _,λp0 np0=>?_⟩;have s4:=spn.trans (ah (o:= .lst []) np0);have hpn4:=(ah (o:= .lst []) np0) _ _ hpn;have hp04:IL (upd H3 p0 (.lst [])) p0 []:=af;have p0t:p0≠t:=λe=>by
     have hout:H3 t=_:=spn _ _ hout;rw[e,hout]at np0;cases np0
    generalize upd H3 p0 (.lst [])=H4 at s4 hpn4 hp04;have hsq4:aH K H4 a (ns.map V.int):=s4.seq hsq';refine⟨_,rfl,tp i,_,_,_,rfl,rfl,B.t i hi _,at_of (j:=2) rfl rfl,_,rfl,?_⟩;rcases hcase with⟨hrw,rfl⟩|⟨hrw,m,r',edr2,hm,rfl,rfl⟩
    ·rw[hrw];refine Jo ?_;have hpn5:=hpn4;have s5:=s4;generalize H4=H5 at s5 hpn5 hp04;have hT5:IL H5 t out:=s5 _ _ hout;refine⟨t,_,hT5,trivial,λod=>?_⟩;have bf:jF t (mask H' t) (upd H5 t (.jb od (.lst (out.map V.int)))):=Cg λb o q e=>by rw[ak q];exact s5 _ _ e
     refine⟨_,rfl,tp i,_,_,_,rfl,rfl,B.t i hi _,at_of (j:=0) rfl rfl,_,rfl,_,rfl,_,rfl,i,hd,pn,p0,st,r.take (eQ i),[],rfl,hi,hS.show bf,(by show upd H5 t _ pn=_;rw[ak pnt];exact hpn5),hal,(by show upd H5 t _ p0=_;rw[ak p0t];exact hp04),zero_le _,λq H6 fr hS6 _ hq=>?_⟩;have ft:H6 t=some (.jb od (.lst (out.map V.int))):=fr.fz _ _ _ af;refine⟨ft,?_⟩;have qt:q≠t:=λe=>by
      have hq:H6 q=_:=hq;rw[e,ft]at hq;cases hq
     have ol:=KP (pj hS).1 (pj hS).2.1 (pj hS).2.2 (r.take (eQ i)) [] i hi;have hq7:IL (upd H6 t (.lst (out.map V.int))) q (FD i st (r.take (eQ i)) []).2:=by show upd H6 t _ q=_;rw[ak qt];exact hq
     walk_at"l";refine⟨_,rfl,.inl ⟨rfl,_,aH.of af⟩,_,rfl,t,q,_,_,rfl,rfl,af,(by rw[ak qt];exact hq7),by rw[length_append,length_map,length_map];exact le_trans (show out.length+1+(FD i st (r.take (eQ i)) []).2.length<=300000 by omega) (by decide),?_⟩;refine⟨_,rfl,⟨(at'+1+eQ i),(FD i st (r.take (eQ i)) []).1,out++((FD i st (r.take (eQ i)) []).2.length:Int)::(FD i st (r.take (eQ i)) []).2,cs1,dn+1,f1,_,_,_,_,_,rfl,?_,?_,?_,by omega,?_,?_,hall.2,?_,?_⟩,?_⟩
     ·exact hS6.off (λxs q=>by rw[ft]at q;cases q) (λC dx fs q=>by rw[ft]at q;cases q) (λk q=>by rw[ft]at q;cases q) (λk q=>by rw[ft]at q;cases q) (λo k q=>by rw[ft]at q;cases q) λb o n e=>by
       unfold mask;rw[ak n,ak n,ak n,ak n];exact e
     ·exact K8 hsq bf fr λb o n e=>by
       unfold mask;rw[ak n,ak n,ak n,ak n];exact e
     ·show upd _ t _ t=_;rw[af,map_append,length_map,append_assoc];rfl
     ·rw[show ns.drop (at'+1+eQ i)=r.drop (eQ i) by rw[er,drop_drop]];exact hf1
     ·rw[hans];walk_at"o";rw[step_get st _ x i hi hal,hrw];show out++(((FD i st (r.take (eQ i)) []).2.length:Int)::(FD i st (r.take (eQ i)) []).2++PyFlat.told _)=_;rw[append_assoc];rfl
     ·rw[length_cons]at hdn;omega
     ·rw[length_append,length_cons];omega
     ·show ns.length-((at'+1+eQ i):Int).toNat<ns.length-(at':Int).toNat;omega
    ·rw[hrw];refine B4 ?_;have edr3:ns.drop (at'+1+eQ i)=(m:Int)::r':=by rw[<-edr2,er,drop_drop]
     have hlt2:at'+1+eQ i<ns.length:=by
      have:=congrArg List.length edr3;rw[length_drop,length_cons]at this;omega
     have gm:ns[at'+1+eQ i]?=some (m:Int):=by
      rw[drop_eq_getElem_cons hlt2]at edr3;rw[getElem?_eq_getElem hlt2,(List.cons.inj edr3).1]
     have er':r'=ns.drop (at'+1+eQ i+1):=by
      rw[drop_eq_getElem_cons hlt2]at edr3;exact(List.cons.inj edr3).2.symm
     have rl':r'.length=ns.length-(at'+1+eQ i+1):=by rw[er',length_drop]
     have e3:(at':Int)+1+((eQ i:Nat):Int)=((at'+1+eQ i:Nat):Int):=by omega
     refine⟨_,rfl,_,rfl,_,_,rfl,rfl,_,rfl,_,rfl,_,_,rfl,rfl,_,rfl,_,rfl,a,_,_,_,rfl,rfl,hsq4,(by rw[e3];exact iw gm),_,_,rfl,rfl,_,rfl,a,_,rfl,hsq4,λpr npr=>?_⟩;have ecut2:wH (ns.map V.int) (some ((at':Int)+1+((eQ i:Nat):Int)+1)) (some ((at':Int)+1+((eQ i:Nat):Int)+1+(m:Int)))=(r'.take m).map V.int:=by
      rw[show(at':Int)+1+((eQ i:Nat):Int)+1=((at'+1+eQ i+1:Nat):Int) by omega,wI (by omega),<-er']
     dsimp only;rw[ecut2];have s5:=s4.trans (ah (o:= .lst ((r'.take m).map V.int)) npr);have hpn5:=(ah (o:= .lst ((r'.take m).map V.int)) npr) _ _ hpn4;have hpr5:IL (upd H4 pr (.lst ((r'.take m).map V.int))) pr (r'.take m):=af;have prt:pr≠t:=λe=>by
      have hout:H4 t=_:=s4 _ _ hout;rw[e,hout]at npr;cases npr
     generalize upd H4 pr (.lst ((r'.take m).map V.int))=H5 at s5 hpn5 hpr5;have lm:(r'.take m).length=m:=by rw[length_take];omega
     have xl:(r'.take m).length<=1000:=Lh (r.take (eQ i)) (r'.take m) i hi hal hrw (by have:=hall.1;rw[hrw]at this;exact this);refine⟨_,rfl,_,rfl,pr,_,rfl,.inl (aH.of hpr5),_,_,rfl,rfl,_,_,rfl,rfl,?_⟩;rw[length_map,lm];have hT5:IL H5 t out:=s5 _ _ hout;refine⟨t,_,hT5,trivial,λod=>?_⟩;have bf:jF t (mask H' t) (upd H5 t (.jb od (.lst (out.map V.int)))):=Cg λb o q e=>by rw[ak q];exact s5 _ _ e
     refine⟨_,rfl,tp i,_,_,_,rfl,rfl,B.t i hi _,at_of (j:=0) rfl rfl,_,rfl,_,rfl,_,rfl,i,hd,pn,pr,st,r.take (eQ i),(r'.take m),rfl,hi,hS.show bf,(by show upd H5 t _ pn=_;rw[ak pnt];exact hpn5),hal,(by show upd H5 t _ pr=_;rw[ak prt];exact hpr5),xl,λq H6 fr hS6 _ hq=>?_⟩;have ft:H6 t=some (.jb od (.lst (out.map V.int))):=fr.fz _ _ _ af;refine⟨ft,?_⟩;have qt:q≠t:=λe=>by
      have hq:H6 q=_:=hq;rw[e,ft]at hq;cases hq
     have ol:=KP (pj hS).1 (pj hS).2.1 (pj hS).2.2 (r.take (eQ i)) (r'.take m) i hi;have hq7:IL (upd H6 t (.lst (out.map V.int))) q (FD i st (r.take (eQ i)) (r'.take m)).2:=by show upd H6 t _ q=_;rw[ak qt];exact hq
     walk_at"l";refine⟨_,rfl,.inl ⟨rfl,_,aH.of af⟩,_,rfl,t,q,_,_,rfl,rfl,af,(by rw[ak qt];exact hq7),by rw[length_append,length_map,length_map];exact le_trans (show out.length+1+(FD i st (r.take (eQ i)) (r'.take m)).2.length<=300000 by omega) (by decide),?_⟩;refine⟨_,rfl,⟨(at'+1+eQ i+(1+m)),(FD i st (r.take (eQ i)) (r'.take m)).1,out++((FD i st (r.take (eQ i)) (r'.take m)).2.length:Int)::(FD i st (r.take (eQ i)) (r'.take m)).2,cs1,dn+1,f1,_,_,_,_,_,rfl,?_,?_,?_,by omega,?_,?_,hall.2,?_,?_⟩,?_⟩
     ·exact hS6.off (λxs q=>by rw[ft]at q;cases q) (λC dx fs q=>by rw[ft]at q;cases q) (λk q=>by rw[ft]at q;cases q) (λk q=>by rw[ft]at q;cases q) (λo k q=>by rw[ft]at q;cases q) λb o n e=>by
       unfold mask;rw[ak n,ak n,ak n,ak n];exact e
     ·exact K8 hsq bf fr λb o n e=>by
       unfold mask;rw[ak n,ak n,ak n,ak n];exact e
     ·show upd _ t _ t=_;rw[af,map_append,length_map,append_assoc];rfl
     ·rw[show ns.drop (at'+1+eQ i+(1+m))=r'.drop m by rw[er',drop_drop,Nat.add_assoc (at'+1+eQ i)]];exact hf1
     ·rw[hans];walk_at"o";rw[step_get st _ (r'.take m) i hi hal,hrw];show out++(((FD i st (r.take (eQ i)) (r'.take m)).2.length:Int)::(FD i st (r.take (eQ i)) (r'.take m)).2++PyFlat.told _)=_;rw[append_assoc];rfl
     ·rw[length_cons]at hdn;omega
     ·rw[length_append,length_cons];omega
     ·show ns.length-((at'+1+eQ i+(1+m)):Int).toNat<ns.length-(at':Int).toNat;omega
   ·have hge:¬at'<ns.length:=by
     have:¬(at':Int)<(((ns.map V.int).length:Nat):Int):=by simpa using hh
     rw[length_map]at this;omega
    rw[List.drop_eq_nil_of_le (by omega),PyFlat.calls]at hf;cases hf;refine⟨_,rfl,k H' t ?_⟩;rw[hans];show IL H' t (out++[]);rw[append_nil];exact hout
  ·rintro σ H Q Q' hq ⟨v0,e0,v1,e1,p,xs,a1,a2,i1,i2,b1,b2,b,a6,h⟩;exact⟨v0,e0,v1,e1,p,xs,a1,a2,i1,i2,b1,b2,b,a6,hq _ _ h⟩
end
end Sh
end
section
namespace Sh
open PySem PySem.Spec PyProof.Rows L2 ShX
def UD(C:Addr)(o:Obj):Bool:=(match o.data with
  | .cls cd=>o.cls== .type "type"&&cd.mro== .ref C::cd.mro.tail&&cd.hasDict&& !cd.hasDel&&o.slots.size==6&&o.slots[4]?==some (some (.builtin "Exception.__new__"))&&
    cd.mro.tail.contains (.type "Exception")&&cd.mro.tail.contains (.type "BaseException")&& !(cd.mro.tail.contains (.type "AttributeError"))&& !(cd.mro.tail.contains (.type "NameError"))&& !(cd.mro.tail.contains (.type "StopIteration"))&& !(cd.mro.tail.contains (.type "SystemExit"))
  |_=>false)
def UJ(o:Obj):Bool:=match o.data with
 | .cls cd=>pV cd.mro&&cd.hasDict
 |_=>false
theorem pK{K:PySem.W.Frag}{C:Addr}{o:Obj}(h:K.lookup C=some o)(e:UD C o=true):Ft K C=true:=by
 unfold Ft;rw[h];exact e
theorem SO{K:PySem.W.Frag}{C:Addr}{o:Obj}(h:K.lookup C=some o)(e:UJ o=true):(PySem.W.clsIn K C).any (λcd=>pV cd.mro&&cd.hasDict)=true:=by
 unfold PySem.W.clsIn;rw[h];obtain⟨c,d,da,s⟩:=o;cases da<;>first|exact e|cases e
theorem Ry{P:Program}{w:World}(ks:List (Nat×Tok×Addr))(es:List DictEntry)(he:es=ks.map λx=>⟨(x.1:Int),.int (x.1:Int) x.2.1,.ref x.2.2⟩)(sm:∀x∈ks,hashInt (x.1:Int)=(x.1:Int)):KeysOf (cR P w) es.toArray/\Pairs (cR P w) es (ks.map λx=>((.inl (x.1:Int):Key),Value.ref x.2.2))/\KV (ks.map λx=>((.inl (x.1:Int):Key),V.ref x.2.2)) (ks.map λx=>((.inl (x.1:Int):Key),Value.ref x.2.2)):=by
 subst he;refine⟨λe hm=>?_,?_,?_⟩
 ·obtain⟨x,hx,rfl⟩:=mem_map.mp (List.mem_toArray.mp hm);exact⟨.inl (x.1:Int),by simp[cR,yZ,Value.isInt],(sm x hx).symm⟩
 ·clear sm
  induction ks with
  |nil=>exact .nil
  |cons x r ih=>exact .cons (by simp[cR,yZ,Value.isInt]) rfl ih
 ·clear sm
  induction ks with
  |nil=>exact .nil
  |cons x r ih=>exact .cons ⟨rfl,rfl⟩ ih
theorem Hq{P:Program}{w:World}{K:PySem.W.Frag}{a:Addr}{ep:Nat}{es:List DictEntry}(hs:(a==sysModules)=false)(ks:List (Nat×Tok×Addr))(hk:K.lookup a=some ⟨.type "dict",none,.dict es.toArray ep,#[]⟩)(he:es=ks.map λx=>⟨(x.1:Int),.int (x.1:Int) x.2.1,.ref x.2.2⟩)(sm:∀x∈ks,hashInt (x.1:Int)=(x.1:Int))(nd:(ks.map λx=>x.1).Nodup):wy P w K a (ks.map λx=>(.inl (x.1:Int),.ref x.2.2)):=by
 obtain⟨h1,h2,h3⟩:=Ry (P:=P) (w:=w) ks es he sm;refine⟨hs,_,es.toArray,ep,_,hk,⟨rfl,rfl,rfl⟩,rfl,h1,h2,?_,h3⟩;rw[map_map];unfold Nodup at nd⊢;rw[pairwise_map]at nd⊢;exact Pairwise.imp (λ{x y}hxy e=>hxy (by have:=Sum.inl.inj (show(Sum.inl (x.1:Int):Key)=Sum.inl (y.1:Int)from e);omega)) nd
def iS(K:PySem.W.Frag)(t f:Addr)(n:Int)(b:Bool):Prop:=∃o q c s,K.lookup t=some ⟨.type "tuple",o,.seq #[.ref f,.int n q,.bool b] c,s⟩
theorem iS.sq{K:PySem.W.Frag}{t f:Addr}{n:Int}{b:Bool}{H:Hp}(h:iS K t f n b):ra K H t [.ref f,.int n,.bl b]:=by
 obtain⟨o,q,c,s,u⟩:=h;exact .inr ⟨_,_,_,u,rfl,rfl,(by show 3<=sizeLine;decide),.cons rfl (.cons ⟨_,rfl⟩ (.cons rfl .nil))⟩
def UZ(t0 t1 t2 t3 t4 t5 t6 t7 t8 t9 t10 t11 t12 t13 t14 t15 t16 t17 t18 t19 t20 t21 t22 t23 t24 t25 t26 t27:Addr):Nat->Addr
 |0=>t0
 |1=>t1
 |2=>t2
 |3=>t3
 |4=>t4
 |5=>t5
 |6=>t6
 |7=>t7
 |8=>t8
 |9=>t9
 |10=>t10
 |11=>t11
 |12=>t12
 |13=>t13
 |14=>t14
 |15=>t15
 |16=>t16
 |17=>t17
 |18=>t18
 |19=>t19
 |20=>t20
 |21=>t21
 |22=>t22
 |23=>t23
 |24=>t24
 |25=>t25
 |26=>t26
 |27=>t27
 |_=>0
theorem Sf{P:Program}{w:World}{K:PySem.W.Frag}{h:Heap}{mg:rn}{A:ql}{F:Tg}(T:Txt K mg A F)(X:K.In h)(G:h.Ns mainGlobals mg){dD dG t0 t1 t2 t3 t4 t5 t6 t7 t8 t9 t10 t11 t12 t13 t14 t15 t16 t17 t18 t19 t20 t21 t22 t23 t24 t25 t26 t27:Addr}{nD nG:Nat}{k0 k1 k2 k3 k4 k5 k6 k7 k8 k9 k10 k11 k12 k13 k14 k15 k16 k17 k18 k19 k20 k21 k22 k23 k24 k25 k26 k27:Tok}
  (gD:nsIn K mainGlobals "DEBT_CALLS"=some (some (.ref dD))) (gG:nsIn K mainGlobals "GAME_CALLS"=some (some (.ref dG)))
  (lD:K.lookup dD=some ⟨.type "dict",none,.dict #[⟨21,.int 21 k21,.ref t21⟩,⟨22,.int 22 k22,.ref t22⟩,⟨23,.int 23 k23,.ref t23⟩,⟨24,.int 24 k24,.ref t24⟩,⟨25,.int 25 k25,.ref t25⟩,⟨26,.int 26 k26,.ref t26⟩,⟨27,.int 27 k27,.ref t27⟩] nD,#[]⟩)
  (lG:K.lookup dG=some ⟨.type "dict",none,.dict #[⟨0,.int 0 k0,.ref t0⟩,⟨1,.int 1 k1,.ref t1⟩,⟨2,.int 2 k2,.ref t2⟩,⟨3,.int 3 k3,.ref t3⟩,⟨4,.int 4 k4,.ref t4⟩,⟨5,.int 5 k5,.ref t5⟩,⟨6,.int 6 k6,.ref t6⟩,⟨7,.int 7 k7,.ref t7⟩,⟨8,.int 8 k8,.ref t8⟩,⟨9,.int 9 k9,.ref t9⟩,⟨10,.int 10 k10,.ref t10⟩,⟨11,.int 11 k11,.ref t11⟩,⟨12,.int 12 k12,.ref t12⟩,⟨13,.int 13 k13,.ref t13⟩,⟨14,.int 14 k14,.ref t14⟩,⟨15,.int 15 k15,.ref t15⟩,⟨16,.int 16 k16,.ref t16⟩,⟨17,.int 17 k17,.ref t17⟩,⟨18,.int 18 k18,.ref t18⟩,⟨19,.int 19 k19,.ref t19⟩,⟨20,.int 20 k20,.ref t20⟩] nG,#[]⟩)
  (sD:(dD==sysModules)=false) (sG:(dG==sysModules)=false)
  (u0:iS K t0 (uR A 0) (eQ 0:Nat) (qH 0)) (u1:iS K t1 (uR A 1) (eQ 1:Nat) (qH 1)) (u2:iS K t2 (uR A 2) (eQ 2:Nat) (qH 2)) (u3:iS K t3 (uR A 3) (eQ 3:Nat) (qH 3)) (u4:iS K t4 (uR A 4) (eQ 4:Nat) (qH 4)) (u5:iS K t5 (uR A 5) (eQ 5:Nat) (qH 5)) (u6:iS K t6 (uR A 6) (eQ 6:Nat) (qH 6)) (u7:iS K t7 (uR A 7) (eQ 7:Nat) (qH 7)) (u8:iS K t8 (uR A 8) (eQ 8:Nat) (qH 8)) (u9:iS K t9 (uR A 9) (eQ 9:Nat) (qH 9)) (u10:iS K t10 (uR A 10) (eQ 10:Nat) (qH 10)) (u11:iS K t11 (uR A 11) (eQ 11:Nat) (qH 11)) (u12:iS K t12 (uR A 12) (eQ 12:Nat) (qH 12)) (u13:iS K t13 (uR A 13) (eQ 13:Nat) (qH 13)) (u14:iS K t14 (uR A 14) (eQ 14:Nat) (qH 14)) (u15:iS K t15 (uR A 15) (eQ 15:Nat) (qH 15)) (u16:iS K t16 (uR A 16) (eQ 16:Nat) (qH 16)) (u17:iS K t17 (uR A 17) (eQ 17:Nat) (qH 17)) (u18:iS K t18 (uR A 18) (eQ 18:Nat) (qH 18)) (u19:iS K t19 (uR A 19) (eQ 19:Nat) (qH 19)) (u20:iS K t20 (uR A 20) (eQ 20:Nat) (qH 20)) (u21:iS K t21 (uR A 21) (eQ 21:Nat) (qH 21)) (u22:iS K t22 (uR A 22) (eQ 22:Nat) (qH 22)) (u23:iS K t23 (uR A 23) (eQ 23:Nat) (qH 23)) (u24:iS K t24 (uR A 24) (eQ 24:Nat) (qH 24)) (u25:iS K t25 (uR A 25) (eQ 25:Nat) (qH 25)) (u26:iS K t26 (uR A 26) (eQ 26:Nat) (qH 26)) (u27:iS K t27 (uR A 27) (eQ 27:Nat) (qH 27)):
  Tab P w K mg A dD dG (UZ t0 t1 t2 t3 t4 t5 t6 t7 t8 t9 t10 t11 t12 t13 t14 t15 t16 t17 t18 t19 t20 t21 t22 t23 t24 t25 t26 t27)where
 T4:=mg_of X G gD
 UI:=mg_of X G gG
 TZ:=Hq sD [(21,k21,t21),(22,k22,t22),(23,k23,t23),(24,k24,t24),(25,k25,t25),(26,k26,t26),(27,k27,t27)] lD rfl (by simp;decide) (by simp)
 UH:=Hq sG [(0,k0,t0),(1,k1,t1),(2,k2,t2),(3,k3,t3),(4,k4,t4),(5,k5,t5),(6,k6,t6),(7,k7,t7),(8,k8,t8),(9,k9,t9),(10,k10,t10),(11,k11,t11),(12,k12,t12),(13,k13,t13),(14,k14,t14),(15,k15,t15),(16,k16,t16),(17,k17,t17),(18,k18,t18),(19,k19,t19),(20,k20,t20)] lG rfl (by simp;decide) (by simp)
 t:=λi hi H=>match i,hi with
  |0,_=>u0.sq
  |1,_=>u1.sq
  |2,_=>u2.sq
  |3,_=>u3.sq
  |4,_=>u4.sq
  |5,_=>u5.sq
  |6,_=>u6.sq
  |7,_=>u7.sq
  |8,_=>u8.sq
  |9,_=>u9.sq
  |10,_=>u10.sq
  |11,_=>u11.sq
  |12,_=>u12.sq
  |13,_=>u13.sq
  |14,_=>u14.sq
  |15,_=>u15.sq
  |16,_=>u16.sq
  |17,_=>u17.sq
  |18,_=>u18.sq
  |19,_=>u19.sq
  |20,_=>u20.sq
  |21,_=>u21.sq
  |22,_=>u22.sq
  |23,_=>u23.sq
  |24,_=>u24.sq
  |25,_=>u25.sq
  |26,_=>u26.sq
  |27,_=>u27.sq
  |n+28,h=>absurd h (by omega)
theorem S2{K:PySem.W.Frag}{f c t:Addr}{x:Str}{oc:Value}{od od2:Option Addr}{fd:FuncData}{sl sl2:Array (Option Value)}{vs:Array Value}(h1:nsIn K mainGlobals x=some (some (.ref f)))(h2:K.lookup f=some ⟨oc,od,.func fd,sl⟩)(h3:fd.code= .ref c)(h4:K.lookup c=some ⟨.type "code",od2,.fields vs,sl2⟩)(h5:vs[11]?=some (.ref t)):tabIn K x=some (c,t):=by
 unfold tabIn;simp only[h1,h2,h3,h4,h5]
theorem RC{K:PySem.W.Frag}{h:Heap}{mg:rn}{x:Str}{n:Int}{t:Tok}(X:K.In h)(G:h.Ns mainGlobals mg)(e:nsIn K mainGlobals x=some (some (.int n t))):∃t,mg x=some (.int n t):=⟨t,mg_of X G e⟩
theorem Tf{K:PySem.W.Frag}{t f:Addr}{n:Int}{b:Bool}{o:Option Addr}{q:Tok}{c:Nat}{s:Array (Option Value)}(u:K.lookup t=some ⟨.type "tuple",o,.seq #[.ref f,.int n q,.bool b] c,s⟩):iS K t f n b:=⟨o,q,c,s,u⟩
theorem QL{P:Program}{w:World}{K:PySem.W.Frag}{mg:rn}{A:ql}{dD dG:Addr}{tp:Nat->Addr}{R:Prop}(k:Tab P w K mg A dD dG tp->R)(B:Tab P w K mg A dD dG tp):R:=k B
theorem SE{K:PySem.W.Frag}{c t:Addr}{o:Obj}(h:K.lookup c=some o)(e:codeHdIn [(c,o)] c t=true):codeHdIn K c t=true:=by
 unfold codeHdIn at e⊢;rw[show List.lookup c [(c,o)]=some o by simp[List.lookup]]at e;rw[h];exact e
theorem Sg{K:PySem.W.Frag}{C f:Addr}{o:Obj}(h:K.lookup C=some o)(e1:UD C o=true)(e2:UJ o=true)(a1:PySem.W.findIn K (.ref C) "__setattr__"=some (some (.builtin "object.__setattr__")))(a2:PySem.W.findIn K (.ref C) "__getattribute__"=some (some (.builtin "BaseException.__getattribute__")))(a3:PySem.W.findIn K (.ref C) "__getattr__"=some none)(a4:PySem.W.findIn K (.ref C) "number"=some none)(a5:PySem.W.mroIn K C (.type "BaseException")=some true)(a6:PySem.W.findIn K (.ref C) "__init__"=some (some (.ref f)))(a7:isFn K (.ref f)=true)(a8:keepIn K (.ref C)=true):Pg K C f:=⟨⟨pK h e1,SO h e2,a1,a2,a3,a4,a5⟩,a6,a7,a8⟩
theorem QN{K:PySem.W.Frag}{h:Heap}{mg:rn}{R:Prop}(X:K.In h){a0 a1 a2 a3 a4 a5 a6 a7 a8 a9 a10 a11 a12 a13 a14 a15 a16 a17 a18 a19 a20 a21 a22 a23 a24 a25 a26 a27 a28 a29 a30 a31 a32 a33 a34 a35 a36 a37 a38 a39 a40 a41 a42 a43 a44 a45 a46 a47 a48 a49 a50 a51 a52 a53 a54 a55 a56 a57 a58 a59 a60 a61 a62 a63 a64 a65 a66 a67 a68 a69 a70 a71 a72 a73 a74 a75 a76 a77 a78 a79 a80 a81 a82 a83 a84 a85 a86 a87 a88 a89 a90 a91 a92 a93 a94 a95 a96 a97 a98 a99 a100 a101 a102 a103 a104 a105 a106 a107 a108 a109 a110 a111 a112 a113 a114 a115:Addr}{f0 f1 f2 f3 f4 f5 f6 f7 f8 f9 f10 f11 f12 f13 f14 f15 f16 f17 f18 f19 f20 f21 f22 f23 f24 f25 f26 f27 f28 f29 f30 f31 f32 f33 f34 f35 f36 f37 f38 f39 f40 f41 f42 f43 f44 f45 f46 f47 f48 f49 f50 f51 f52 f53 f54 f55 f56 f57 f58 f59 f60 f61 f62 f63 f64 f65 f66 f67 f68 f69 f70 f71 f72 f73 f74 f75 f76 f77 f78 f79 f80 f81 f82 f83 f84 f85 f86 f87 f88 f89 f90 f91 f92 f93 f94 f95 f96 f97 f98 f99 f100 f101 f102:FuncData}(T:Txt K mg ⟨a0,a1,a2,a3,a4,a5,a6,a7,a8,a9,a10,a11,a12,a13,a14,a15,a16,a17,a18,a19,a20,a21,a22,a23,a24,a25,a26,a27,a28,a29,a30,a31,a32,a33,a34,a35,a36,a37,a38,a39,a40,a41,a42,a43,a44,a45,a46,a47,a48,a49,a50,a51,a52,a53,a54,a55,a56,a57,a58,a59,a60,a61,a62,a63,a64,a65,a66,a67,a68,a69,a70,a71,a72,a73,a74,a75,a76,a77,a78,a79,a80,a81,a82,a83,a84,a85,a86,a87,a88,a89,a90,a91,a92,a93,a94,a95,a96,a97,a98,a99,a100,a101,a102,a103,a104,a105,a106,a107,a108,a109,a110,a111,a112,a113,a114,a115⟩ ⟨f0,f1,f2,f3,f4,f5,f6,f7,f8,f9,f10,f11,f12,f13,f14,f15,f16,f17,f18,f19,f20,f21,f22,f23,f24,f25,f26,f27,f28,f29,f30,f31,f32,f33,f34,f35,f36,f37,f38,f39,f40,f41,f42,f43,f44,f45,f46,f47,f48,f49,f50,f51,f52,f53,f54,f55,f56,f57,f58,f59,f60,f61,f62,f63,f64,f65,f66,f67,f68,f69,f70,f71,f72,f73,f74,f75,f76,f77,f78,f79,f80,f81,f82,f83,f84,f85,f86,f87,f88,f89,f90,f91,f92,f93,f94,f95,f96,f97,f98,f99,f100,f101,f102⟩)(k:Txt K mg ⟨a0,a1,a2,a3,a4,a5,a6,a7,a8,a9,a10,a11,a12,a13,a14,a15,a16,a17,a18,a19,a20,a21,a22,a23,a24,a25,a26,a27,a28,a29,a30,a31,a32,a33,a34,a35,a36,a37,a38,a39,a40,a41,a42,a43,a44,a45,a46,a47,a48,a49,a50,a51,a52,a53,a54,a55,a56,a57,a58,a59,a60,a61,a62,a63,a64,a65,a66,a67,a68,a69,a70,a71,a72,a73,a74,a75,a76,a77,a78,a79,a80,a81,a82,a83,a84,a85,a86,a87,a88,a89,a90,a91,a92,a93,a94,a95,a96,a97,a98,a99,a100,a101,a102,a103,a104,a105,a106,a107,a108,a109,a110,a111,a112,a113,a114,a115⟩ ⟨f0,f1,f2,f3,f4,f5,f6,f7,f8,f9,f10,f11,f12,f13,f14,f15,f16,f17,f18,f19,f20,f21,f22,f23,f24,f25,f26,f27,f28,f29,f30,f31,f32,f33,f34,f35,f36,f37,f38,f39,f40,f41,f42,f43,f44,f45,f46,f47,f48,f49,f50,f51,f52,f53,f54,f55,f56,f57,f58,f59,f60,f61,f62,f63,f64,f65,f66,f67,f68,f69,f70,f71,f72,f73,f74,f75,f76,f77,f78,f79,f80,f81,f82,f83,f84,f85,f86,f87,f88,f89,f90,f91,f92,f93,f94,f95,f96,f97,f98,f99,f100,f101,f102⟩->R):R:=k T
end Sh
end
section
section
namespace L2
open PySem PySem.Spec PyProof.Rows
open PySem.W (WData Codec OpenSpec Well WellAll ReadsW ReadsAllW)
mutual
inductive Dw(K:PySem.W.Frag)(H:Hp):V->WData->Prop
 |gc:Dw K H .gc .none
 |bl (b:Bool):Dw K H (.bl b) (.bool b)
 |int (i:Int):Dw K H (.int i) (.int i)
 |str (x:Str):Dw K H (.str x) (.str x)
 |GC (b:Array UInt8):Dw K H (.GC b) (.bytes b.toList)
 |lst {a:Addr} {xs:List V} {ds:List WData}:aH K H a xs->jc K H xs ds->Dw K H (.ref a) (.list ds)
 |tup {a:Addr} {xs:List V} {ds:List WData}:ra K H a xs->jc K H xs ds->Dw K H (.ref a) (.tuple ds)
inductive jc(K:PySem.W.Frag)(H:Hp):List V->List WData->Prop
 |nil:jc K H [] []
 |cons {v:V} {vs:List V} {d:WData} {ds:List WData}:Dw K H v d->jc K H vs ds->jc K H (v::vs) (d::ds)
end
theorem Km{K:PySem.W.Frag}{H:Hp}:∀ns:List Int,jc K H (ns.map V.int) (ns.map WData.int)
 |[]=> .nil
 |n::r=> .cons (.int n) (Km r)
theorem Kw{K:PySem.W.Frag}{H:Hp}:∀(ns:List Int)(xs:List V),jc K H xs (ns.map WData.int)->xs=ns.map V.int
 |[],xs,h=>by
  cases h;rfl
 |n::r,xs,h=>by
  cases h with
  |cons h1 h2=>
   cases h1;rw[Kw r _ h2]<;>rfl
section
variable{P:Program}{w:World}{K:PySem.W.Frag}{H:Hp}{h:Heap}{R:WRecords}{cl:Str->Option Addr}
theorem R9{a:Addr}{xs:List V}(bS:qY P w H h)(KX:K.In h)(q:aH K H a xs):∃(its:List Value)(o:Obj)(n:Nat),Vals xs its/\h.get? a=some o/\o.cls= .type "list"/\o.data= .seq its.toArray n:=by
 rcases q with q|⟨o,its,n,e,hc,_,hd,_,hv⟩
 ·obtain⟨_,its,n,hv,e⟩:=(show di P w H h a (.lst xs)from q.ok bS)
  exact⟨its,_,n,hv,e,rfl,rfl⟩
 ·exact⟨its.toList,o,n,hv,KX _ _ e,hc,by simp[hd]⟩
theorem Sa{a:Addr}{xs:List V}(bS:qY P w H h)(KX:K.In h)(q:ra K H a xs):∃(its:List Value)(o:Obj)(n:Nat),Vals xs its/\h.get? a=some o/\o.cls= .type "tuple"/\o.data= .seq its.toArray n:=by
 rcases q with q|⟨o,its,n,e,hc,hd,_,hv⟩
 ·obtain⟨_,its,hv,o,e,hc,n,hd⟩:=(show di P w H h a (.tup xs)from q.ok bS)
  exact⟨its,o,n,hv,e,hc,hd⟩
 ·exact⟨its.toList,o,n,hv,KX _ _ e,hc,by simp[hd]⟩
mutual
theorem Dw.reads(bS:qY P w H h)(KX:K.In h):∀(d:WData)(v:V)(u:Value),Dw K H v d->RelV v u->∃as,ReadsW R cl h u d as
 | .none,_,_,x,r=>by
  cases x;cases r;exact⟨_,ReadsW.none⟩
 | .bool b,_,_,x,r=>by
  cases x;cases r;exact⟨_,ReadsW.bool b⟩
 | .int i,_,_,x,r=>by
  cases x;obtain⟨t,rfl⟩:=r;exact⟨_,ReadsW.int i t⟩
 | .str s,_,_,x,r=>by
  cases x;obtain⟨t,rfl⟩:=r;exact⟨_,ReadsW.str s t⟩
 | .bytes b,_,_,x,r=>by
  cases x;obtain⟨t,rfl⟩:=r;exact⟨_,ReadsW.bytes _ t⟩
 | .list ds,_,_,x,r=>by
  cases x with
  |lst hs ha=>
   cases r;obtain⟨its,o,n,rv,ho,hc,hd⟩:=R9 bS KX hs;obtain⟨as,hr⟩:=Dw.readsAll bS KX ds _ its ha rv;exact⟨_,ReadsW.list ho hc hd hr⟩
 | .tuple ds,_,_,x,r=>by
  cases x with
  |tup hs ha=>
   cases r;obtain⟨its,o,n,rv,ho,hc,hd⟩:=Sa bS KX hs;obtain⟨as,hr⟩:=Dw.readsAll bS KX ds _ its ha rv;exact⟨_,ReadsW.tuple ho hc hd hr⟩
 | .float _,_,_,x,_=>by cases x
 | .dict _,_,_,x,_=>by cases x
 | .bytearray _,_,_,x,_=>by cases x
 | .set _,_,_,x,_=>by cases x
 | .frozenset _,_,_,x,_=>by cases x
 | .obj _ _,_,_,x,_=>by cases x
theorem Dw.readsAll(bS:qY P w H h)(KX:K.In h):∀(ds:List WData)(vs:List V)(us:List Value),jc K H vs ds->Vals vs us->∃as,ReadsAllW R cl h us ds as
 |[],_,_,x,r=>by
  cases x;cases r;exact⟨_,ReadsAllW.nil⟩
 |d::ds,_,_,x,r=>by
  cases x with
  |cons h1 h2=>
   cases r with
   |cons r1 r2=>
    obtain⟨as,q1⟩:=Dw.reads bS KX d _ _ h1 r1;obtain⟨bs,q2⟩:=Dw.readsAll bS KX ds _ _ h2 r2;exact⟨_,ReadsAllW.cons q1 q2⟩
end
end
mutual
def KY:WData->Bool
 | .none=>true
 | .bool _=>true
 | .int _=>true
 | .str _=>true
 | .bytes _=>true
 | .list xs=>Ap xs
 | .tuple xs=>Ap xs
 |_=>false
def Ap:List WData->Bool
 |[]=>true
 |x::r=>KY x&&Ap r
end
theorem HZ{α:Type}{f:α->WData}(h:∀a,KY (f a)=true):∀l:List α,Ap (l.map f)=true
 |[]=>rfl
 |x::r=>by
  show(KY (f x)&&Ap (r.map f))=true;rw[h x,HZ h r]<;>rfl
theorem sT:∀(c:Codec)(a:c.denote),KY (c.enc a)=true
 | .unit,_=>rfl
 | .bool,_=>rfl
 | .int _ _,_=>rfl
 | .nat _ _,_=>rfl
 | .u8,_=>rfl
 | .bytes _ _,_=>rfl
 | .text _ _ _ _,_=>rfl
 | .list _ _ c,a=>HZ (λx=>sT c x) a
 | .pair c d,a=>by
  show(KY (c.enc a.1)&&(KY (d.enc a.2)&&true))=true;rw[sT c a.1,sT d a.2]<;>rfl
 | .triple c d e,a=>by
  show(KY (c.enc a.1)&&(KY (d.enc a.2.1)&&(KY (e.enc a.2.2)&&true)))=true;rw[sT c a.1,sT d a.2.1,sT e a.2.2]<;>rfl
 | .option c,none=>rfl
 | .option c,some x=>sT c x
theorem EE:∀(cs:List Codec)(a:Codec.denoteAll cs),Ap (Codec.encAll cs a)=true
 |[],_=>rfl
 |c::cs,a=>by
  show(KY (c.enc a.1)&&Ap (Codec.encAll cs a.2))=true;rw[sT c a.1,EE cs a.2]<;>rfl
theorem wt:∀{xs:List WData}{d:WData},d∈xs->d.weight<=WData.weightAll xs
 |[],d,h=>absurd h (by simp)
 |x::r,d,h=>by
  show d.weight<=x.weight+1+WData.weightAll r;rcases mem_cons.mp h with e|m
  ·rw[e];omega
  ·have z:=wt m;omega
def toV:Value->V
 | .none=> .gc
 | .bool b=> .bl b
 | .int i _=> .int i
 | .str x _=> .str x
 | .bytes b _=> .GC b
 | .ref a=> .ref a
 |_=> .gc
def Le(A:List Addr):Value->Prop
 | .none=>True
 | .bool _=>True
 | .int _ _=>True
 | .str _ _=>True
 | .bytes _ _=>True
 | .ref a=>a∈A
 |_=>False
theorem Le.mono{A B:List Addr}(h:∀a∈A,a∈B):∀{u:Value},Le A u->Le B u:=λ{u}x=>by
 cases u with
 |ref a=>exact h a x
 |none=>trivial
 |bool b=>trivial
 |int i t=>trivial
 |str s t=>trivial
 |bytes b t=>trivial
 |_=>exact False.elim x
theorem Oz{A:List Addr}{u:Value}(x:Le A u):RelV (toV u) u:=by
 cases u with
 |ref a=>rfl
 |none=>rfl
 |bool b=>rfl
 |int i t=>exact⟨t,rfl⟩
 |str s t=>exact⟨t,rfl⟩
 |bytes b t=>exact⟨t,rfl⟩
 |_=>exact False.elim x
theorem pA{A:List Addr}:∀{vs:List Value},(∀u∈vs,Le A u)->Vals (vs.map toV) vs
 |[],_=> .nil
 |u::r,h=> .cons (Oz (h u (mem_cons_self ..))) (pA λx hx=>h x (mem_cons_of_mem _ hx))
def qo(h:Heap)(A:List Addr)(a:Addr):Prop:=∃vs:List Value,vs.length<=sizeLine/\(∀u∈vs,Le A u)/\
 (h.get? a=some {cls:= .type "list",data:= .seq vs.toArray}\/h.get? a=some {cls:= .type "tuple",data:= .seq vs.toArray})
theorem qo.mono{h:Heap}{A B:List Addr}{a:Addr}(k:∀a∈A,a∈B)(x:qo h A a):qo h B a:=by
 obtain⟨vs,h1,h2,h3⟩:=x;exact⟨vs,h1,λu hu=>(h2 u hu).mono k,h3⟩
theorem nZ{P:Params}{h:Heap}:∀{vs:List Value}{ds:List WData},WellAll P h vs ds->vs.length=ds.length
 |_,_,.nil=>rfl
 |_,_,.cons _ b=>by
  show _+1=_+1;rw[nZ b]
theorem EZ{P:Params}{h:Heap}{v:Value}{ds:List WData}(x:Well P h v (.list ds)):∃(a:Addr)(vs:List Value),v= .ref a/\h.get? a=some {cls:= .type "list",data:= .seq vs.toArray}/\WellAll P h vs ds:=by
 cases x with
 |list ho hall=>exact⟨_,_,rfl,ho,hall⟩
theorem C8{P:Params}{h:Heap}{v:Value}{ds:List WData}(x:Well P h v (.tuple ds)):∃(a:Addr)(vs:List Value),v= .ref a/\h.get? a=some {cls:= .type "tuple",data:= .seq vs.toArray}/\WellAll P h vs ds:=by
 cases x with
 |tuple ho hall=>exact⟨_,_,rfl,ho,hall⟩
theorem EY{P:Params}{h:Heap}{us:List Value}{d:WData}{ds:List WData}(x:WellAll P h us (d::ds)):∃(v:Value)(vs:List Value),us=v::vs/\Well P h v d/\WellAll P h vs ds:=by
 cases x with
 |cons a b=>exact⟨_,_,rfl,a,b⟩
theorem KG{n:Nat}(h:n<=1048576):n<=sizeLine:=le_trans h (by decide)
section
variable{P:Params}{h:Heap}
mutual
theorem MN:∀(d:WData)(v:Value),Well P h v d->KY d=true->d.weight<=1048576->∃A:List Addr,Le A v/\∀a∈A,qo h A a
 | .none,_,x,_,_=>by
  cases x;exact⟨[],trivial,λa m=>absurd m (by simp)⟩
 | .bool b,_,x,_,_=>by
  cases x;exact⟨[],trivial,λa m=>absurd m (by simp)⟩
 | .int i,_,x,_,_=>by
  cases x;exact⟨[],trivial,λa m=>absurd m (by simp)⟩
 | .str s,_,x,_,_=>by
  cases x;exact⟨[],trivial,λa m=>absurd m (by simp)⟩
 | .bytes b,_,x,_,_=>by
  cases x;exact⟨[],trivial,λa m=>absurd m (by simp)⟩
 | .list ds,_,x,p,z=>by
  obtain⟨a,vs,rfl,ho,hall⟩:=EZ x;have z2:WData.weightAll ds<=1048576:=z;obtain⟨A,h1,h2⟩:=wz ds _ hall p λd hd=>le_trans (wt hd) z2;have k:∀b∈A,b∈a::A:=λb hb=>mem_cons_of_mem _ hb;refine⟨a::A,mem_cons_self ..,λb hb=>?_⟩;rcases mem_cons.mp hb with e|m
  ·rw[e];exact⟨vs,KG (by rw[nZ hall];exact le_trans (PySem.W.length_le_weightAllW ds) z2),λu hu=>(h1 u hu).mono k,.inl ho⟩
  ·exact(h2 b m).mono k
 | .tuple ds,_,x,p,z=>by
  obtain⟨a,vs,rfl,ho,hall⟩:=C8 x;have z2:WData.weightAll ds<=1048576:=z;obtain⟨A,h1,h2⟩:=wz ds _ hall p λd hd=>le_trans (wt hd) z2;have k:∀b∈A,b∈a::A:=λb hb=>mem_cons_of_mem _ hb;refine⟨a::A,mem_cons_self ..,λb hb=>?_⟩;rcases mem_cons.mp hb with e|m
  ·rw[e];exact⟨vs,KG (by rw[nZ hall];exact le_trans (PySem.W.length_le_weightAllW ds) z2),λu hu=>(h1 u hu).mono k,.inr ho⟩
  ·exact(h2 b m).mono k
 | .float _,_,_,p,_=>noConfusion (show false=true from p)
 | .dict _,_,_,p,_=>noConfusion (show false=true from p)
 | .bytearray _,_,_,p,_=>noConfusion (show false=true from p)
 | .set _,_,_,p,_=>noConfusion (show false=true from p)
 | .frozenset _,_,_,p,_=>noConfusion (show false=true from p)
 | .obj _ _,_,_,p,_=>noConfusion (show false=true from p)
theorem wz:∀(ds:List WData)(vs:List Value),WellAll P h vs ds->Ap ds=true->(∀d∈ds,d.weight<=1048576)->∃A:List Addr,(∀u∈vs,Le A u)/\∀a∈A,qo h A a
 |[],_,x,_,_=>by
  cases x;exact⟨[],λu m=>absurd m (by simp),λa m=>absurd m (by simp)⟩
 |d::ds,_,x,p,z=>by
  obtain⟨v,vs,rfl,x1,x2⟩:=EY x;have q:KY d=true/\Ap ds=true:=Bool.and_eq_true_iff.mp p;obtain⟨A,a1,a2⟩:=MN d v x1 q.1 (z d (mem_cons_self ..));obtain⟨B,b1,b2⟩:=wz ds vs x2 q.2 λe he=>z e (mem_cons_of_mem _ he);have kA:∀b∈A,b∈A++B:=λb hb=>mem_append.mpr (.inl hb);have kB:∀b∈B,b∈A++B:=λb hb=>mem_append.mpr (.inr hb);refine⟨A++B,λu hu=>?_,λb hb=>?_⟩
  ·rcases mem_cons.mp hu with e|m
   ·rw[e];exact a1.mono kA
   ·exact(b1 u m).mono kB
  ·rcases mem_append.mp hb with m|m
   ·exact(a2 b m).mono kA
   ·exact(b2 b m).mono kB
end
end
def PQ(o:Obj):Option HO:=match o.data with
 | .seq vs _=>if(o.cls==Value.type "list")=true then some (.jb o (.lst (vs.toList.map toV)))else some (.jb o (.tup (vs.toList.map toV)))
 |_=>none
def jD(K:PySem.W.Frag)(h:Heap)(A:List Addr):Hp:=λb=>if b∈A then(if(K.lookup b).isNone=true then(h.get? b).bind PQ else none)else none
def So(H:Hp):Prop:=∀b,H b=none\/∃o u,H b=some (.jb o u)
theorem Hj(vs:List Value):PQ {cls:= .type "list",data:= .seq vs.toArray}=some (.jb {cls:= .type "list",data:= .seq vs.toArray} (.lst (vs.map toV))):=by
 show(if(Value.type "list"==Value.type "list")=true then some (HO.jb {cls:= .type "list",data:= .seq vs.toArray} (.lst (vs.toArray.toList.map toV)))else some (HO.jb {cls:= .type "list",data:= .seq vs.toArray} (.tup (vs.toArray.toList.map toV))))=_;rw[if_pos (beq_self_eq_true _)]
theorem Hk(vs:List Value):PQ {cls:= .type "tuple",data:= .seq vs.toArray}=some (.jb {cls:= .type "tuple",data:= .seq vs.toArray} (.tup (vs.map toV))):=by
 show(if(Value.type "tuple"==Value.type "list")=true then some (HO.jb {cls:= .type "tuple",data:= .seq vs.toArray} (.lst (vs.toArray.toList.map toV)))else some (HO.jb {cls:= .type "tuple",data:= .seq vs.toArray} (.tup (vs.toArray.toList.map toV))))=_;rw[if_neg (by decide)]
section
variable{P:Program}{w:World}{K:PySem.W.Frag}{h:Heap}{A:List Addr}
theorem AS{b:Addr}{o:Obj}(hb:b∈A)(hk:K.lookup b=none)(e:h.get? b=some o):jD K h A b=PQ o:=by
 unfold jD;rw[if_pos hb,hk,if_pos (show(none:Option Obj).isNone=true from rfl),e]<;>rfl
theorem Qb{b:Addr}{u:HO}(q:jD K h A b=some u):b∈A/\K.lookup b=none:=by
 unfold jD at q;by_cases hb:b∈A
 ·rw[if_pos hb]at q;cases hk:K.lookup b with
  |none=>exact⟨hb,rfl⟩
  |some o=>
   rw[hk,if_neg (by simp)]at q;cases q
 ·rw[if_neg hb]at q;cases q
theorem uj(ar:∀a∈A,qo h A a){b:Addr}{u:HO}(q:jD K h A b=some u):K.lookup b=none/\∃vs:List Value,vs.length<=sizeLine/\(∀u∈vs,Le A u)/\
  ((h.get? b=some {cls:= .type "list",data:= .seq vs.toArray}/\u= .jb {cls:= .type "list",data:= .seq vs.toArray} (.lst (vs.map toV)))\/
   (h.get? b=some {cls:= .type "tuple",data:= .seq vs.toArray}/\u= .jb {cls:= .type "tuple",data:= .seq vs.toArray} (.tup (vs.map toV)))):=by
 obtain⟨hb,hk⟩:=Qb q;obtain⟨vs,h1,h2,h3⟩:=ar b hb;refine⟨hk,vs,h1,h2,?_⟩;rcases h3 with e|e
 ·rw[AS hb hk e,Hj]at q;exact .inl ⟨e,(Option.some.inj q).symm⟩
 ·rw[AS hb hk e,Hk]at q;exact .inr ⟨e,(Option.some.inj q).symm⟩
theorem Lg(ar:∀a∈A,qo h A a):So (jD K h A):=λb=>by
 cases q:jD K h A b with
 |none=>exact .inl rfl
 |some u=>
  obtain⟨_,vs,_,_,⟨_,e⟩|⟨_,e⟩⟩:=uj ar q
  ·exact .inr ⟨_,_,by rw[e]⟩
  ·exact .inr ⟨_,_,by rw[e]⟩
theorem Pk(ar:∀a∈A,qo h A a):qY P w (jD K h A) h:=λb u q=>by
 obtain⟨_,vs,h1,h2,⟨e,rfl⟩|⟨e,rfl⟩⟩:=uj ar q
 ·exact⟨e,by rw[length_map];exact h1,vs,_,pA h2,e⟩
 ·exact⟨e,by rw[length_map];exact h1,vs,pA h2,_,e,rfl,_,rfl⟩
theorem A3{c c':Value}{vs us:List Value}(e:(some {cls:=c,data:= .seq vs.toArray}:Option Obj)=some {cls:=c',data:= .seq us.toArray}):c=c'/\vs=us:=by
 have e1:=Option.some.inj e;have e2:c=c':=congrArg Obj.cls e1;have e3:Data.seq vs.toArray=Data.seq us.toArray:=congrArg Obj.data e1;injection e3 with e4
 refine⟨e2,?_⟩;have e5:=congrArg toList e4;simpa using e5
theorem TM(KX:K.In h)(ar:∀a∈A,qo h A a){a:Addr}{vs:List Value}(ha:a∈A)(e:h.get? a=some {cls:= .type "list",data:= .seq vs.toArray}):(∀u∈vs,Le A u)/\aH K (jD K h A) a (vs.map toV):=by
 obtain⟨us,h1,h2,h3⟩:=ar a ha;have hu:us=vs:=by
  rcases h3 with q|q
  ·rw[e]at q;exact(A3 q).2.symm
  ·rw[e]at q;exact absurd (Value.type.inj (A3 q).1) (by decide)
 subst hu;refine⟨h2,?_⟩;cases hk:K.lookup a with
 |none=>exact .inl (.inr ⟨_,by rw[AS ha hk e,Hj]⟩)
 |some o=>
  have e2:=KX a o hk;rw[e]at e2;obtain rfl:=Option.some.inj e2;exact .inr ⟨_,us.toArray,_,hk,rfl,rfl,rfl,by rw[size_toArray];exact h1,by simpa using pA h2⟩
theorem TN(KX:K.In h)(ar:∀a∈A,qo h A a){a:Addr}{vs:List Value}(ha:a∈A)(e:h.get? a=some {cls:= .type "tuple",data:= .seq vs.toArray}):(∀u∈vs,Le A u)/\ra K (jD K h A) a (vs.map toV):=by
 obtain⟨us,h1,h2,h3⟩:=ar a ha;have hu:us=vs:=by
  rcases h3 with q|q
  ·rw[e]at q;exact absurd (Value.type.inj (A3 q).1) (by decide)
  ·rw[e]at q;exact(A3 q).2.symm
 subst hu;refine⟨h2,?_⟩;cases hk:K.lookup a with
 |none=>exact .inl (.inr ⟨_,by rw[AS ha hk e,Hk]⟩)
 |some o=>
  have e2:=KX a o hk;rw[e]at e2;obtain rfl:=Option.some.inj e2;exact .inr ⟨_,us.toArray,_,hk,rfl,rfl,by rw[size_toArray];exact h1,by simpa using pA h2⟩
mutual
theorem Rx{Pm:Params}(KX:K.In h)(ar:∀a∈A,qo h A a):∀(d:WData)(v:Value),Well Pm h v d->KY d=true->Le A v->Dw K (jD K h A) (toV v) d
 | .none,_,x,_,_=>by
  cases x;exact .gc
 | .bool b,_,x,_,_=>by
  cases x;exact .bl b
 | .int i,_,x,_,_=>by
  cases x;exact .int i
 | .str s,_,x,_,_=>by
  cases x;exact .str s
 | .bytes b,_,x,_,_=>by
  cases x;have z:=Dw.GC (K:=K) (H:=jD K h A) b.toArray;exact z
 | .list ds,_,x,p,hu=>by
  obtain⟨a,vs,rfl,ho,hall⟩:=EZ x;obtain⟨h2,hs⟩:=TM KX ar hu ho;exact .lst hs (Fq KX ar ds _ hall p h2)
 | .tuple ds,_,x,p,hu=>by
  obtain⟨a,vs,rfl,ho,hall⟩:=C8 x;obtain⟨h2,hs⟩:=TN KX ar hu ho;exact .tup hs (Fq KX ar ds _ hall p h2)
 | .float _,_,_,p,_=>noConfusion (show false=true from p)
 | .dict _,_,_,p,_=>noConfusion (show false=true from p)
 | .bytearray _,_,_,p,_=>noConfusion (show false=true from p)
 | .set _,_,_,p,_=>noConfusion (show false=true from p)
 | .frozenset _,_,_,p,_=>noConfusion (show false=true from p)
 | .obj _ _,_,_,p,_=>noConfusion (show false=true from p)
theorem Fq{Pm:Params}(KX:K.In h)(ar:∀a∈A,qo h A a):∀(ds:List WData)(vs:List Value),WellAll Pm h vs ds->Ap ds=true->(∀u∈vs,Le A u)->jc K (jD K h A) (vs.map toV) ds
 |[],_,x,_,_=>by
  cases x;exact .nil
 |d::ds,_,x,p,hu=>by
  obtain⟨v,vs,rfl,x1,x2⟩:=EY x;have q:KY d=true/\Ap ds=true:=Bool.and_eq_true_iff.mp p;exact .cons (Rx KX ar d v x1 q.1 (hu _ (mem_cons_self ..))) (Fq KX ar ds vs x2 q.2 λu m=>hu u (mem_cons_of_mem _ m))
end
end
theorem OO{K:PySem.W.Frag}{H H':Hp}{a:Addr}{xs:List V}(s:∀b u,H b=some u->H' b=some u)(q:aH K H a xs):aH K H' a xs:=by
 rcases q with(q|⟨o,q⟩)|q
 ·exact .inl (.inl (s _ _ q))
 ·exact .inl (.inr ⟨o,s _ _ q⟩)
 ·exact .inr q
theorem OP{K:PySem.W.Frag}{H H':Hp}{a:Addr}{xs:List V}(s:∀b u,H b=some u->H' b=some u)(q:ra K H a xs):ra K H' a xs:=by
 rcases q with(q|⟨o,q⟩)|q
 ·exact .inl (.inl (s _ _ q))
 ·exact .inl (.inr ⟨o,s _ _ q⟩)
 ·exact .inr q
mutual
theorem Dw.mono{K:PySem.W.Frag}{H H':Hp}(s:∀b u,H b=some u->H' b=some u):∀{v:V}{d:WData},Dw K H v d->Dw K H' v d
 |_,_,.gc=> .gc
 |_,_,.bl b=> .bl b
 |_,_,.int i=> .int i
 |_,_,.str x=> .str x
 |_,_,.GC b=> .GC b
 |_,_,.lst h1 h2=> .lst (OO s h1) (jc.mono s h2)
 |_,_,.tup h1 h2=> .tup (OP s h1) (jc.mono s h2)
theorem jc.mono{K:PySem.W.Frag}{H H':Hp}(s:∀b u,H b=some u->H' b=some u):∀{vs:List V}{ds:List WData},jc K H vs ds->jc K H' vs ds
 |_,_,.nil=> .nil
 |_,_,.cons h1 h2=> .cons (Dw.mono s h1) (jc.mono s h2)
end
theorem Mm{P:Program}{w:World}{K:PySem.W.Frag}{mg mb:rn}{CX:IT}{k:Nat}{fa:Addr}{fd:FuncData}{ps:List Str}{sp:Sp}{s₁:Shared}{vals:List Value}{ds:List WData}{R:WRecords}{cl:Str->Option Addr}{d0:WData}{c0 tP:Addr}(hC:PySem.W.CodeHd s₁.heap c0 tP)(hT:s₁.heap.get? tP=some (PySem.W.tabObj #[]))(hKP:K.lookup tP=none)(hbm:∃bm ob,mg "__builtins__"=some (.ref bm)/\bm≠builtinsNs/\s₁.heap.get? bm=some ob/\ob.cls= .type "module"/\ob.dict=some builtinsNs/\ob.data= .plain)
  (KX:K.In s₁.heap) (hns:s₁.heap.Ns mainGlobals mg) (hb:s₁.heap.Ns builtinsNs mb) (hbb:∀x:Str,x≠"__name__"->mb x=bootBuiltins x) (hlim:s₁.heap.NoLimit) (hg:s₁.gens= #[])
  (hwl:WellAll w.params s₁.heap vals ds) (hpl:Ap ds=true) (hwt:∀d∈ds,d.weight<=1048576) (hr:iu k callerA)
  (F:∀base:Heap,K.In base->base.Ns mainGlobals mg->aT P w K mg base CX k fa fd ps sp) (hbind:∀(s:Shared)(us:List Value),us.length=ps.length->BindsTo s fd ⟨us,[]⟩ (ps.zip us)) (hlen:ds.length=ps.length)
  (hsp:∀(H:Hp)(xs:List V),H tP=some (.qX #[])->jc K H xs ds->sp xs H (λv H'=>Dw K H' v d0) λ_ _ _=>False)
  (hCX:∀H e s',CX [] H s₁ (λ_ _ _=>False) e s'->False):
  codeAny (model P w) callerA (.call (.ref fa) ⟨vals,[]⟩) (λr s'=>∃u as,r= .ok (.ret u)/\ReadsW R cl s'.heap u d0 as/\OldK s₁.heap s'.heap/\s'.os=s₁.os/\AllBare s'.gens) s₁:=by
 obtain⟨A,ho,ar⟩:=wz ds vals hwl hpl hwt;have noT:jD K s₁.heap A tP=none:=by
  cases q:jD K s₁.heap A tP with
  |none=>rfl
  |some u=>
   obtain⟨_,vs,_,_,⟨e2,_⟩|⟨e2,_⟩⟩:=uj ar q
   ·rw[e2]at hT;cases hT
   ·rw[e2]at hT;cases hT
 have up:∀b u,jD K s₁.heap A b=some u->upd (jD K s₁.heap A) tP (.qX #[]) b=some u:=λb u e=>by rw[ak (aq e noT)];exact e
 have hO:∀b,b≠tP->upd (jD K s₁.heap A) tP (.qX #[]) b=none\/∃o u,upd (jD K s₁.heap A) tP (.qX #[]) b=some (.jb o u):=λb hb=>by rw[ak hb];exact Lg ar b
 have bS:qY P w (upd (jD K s₁.heap A) tP (.qX #[])) s₁.heap:=λb u q=>by
  by_cases hb:b=tP
  ·subst hb;rw[af]at q;cases q;exact hT
  ·rw[ak hb]at q;exact(Pk ar b u q).m8 (λ_ _ _ e=>e) (λc e=>up c _ e) λc xs e=>up c _ e
 have hS:=jc.mono up (Fq KX ar ds vals hwl hpl ho);have hV:=pA ho;have hK:∀b u,upd (jD K s₁.heap A) tP (.qX #[]) b=some u->K.lookup b=none:=λb u q=>by
  by_cases hb:b=tP
  ·rw[hb];exact hKP
  ·rw[ak hb]at q;exact(uj ar q).1
 have noA0:∀{b:Addr}{o:Obj}{es:Array DictEntry}{ep:Nat},s₁.heap.get? b=some o->o.data= .dict es ep->jD K s₁.heap A b=none:=λ{b o es ep}e d=>by
  cases q:jD K s₁.heap A b with
  |none=>rfl
  |some u=>
   obtain⟨_,vs,_,_,⟨e2,_⟩|⟨e2,_⟩⟩:=uj ar q
   ·rw[e2]at e;cases e;have d':Data.seq vs.toArray _=Data.dict es ep:=d;cases d'
   ·rw[e2]at e;cases e;have d':Data.seq vs.toArray _=Data.dict es ep:=d;cases d'
 have noA:∀{b:Addr}{o:Obj}{es:Array DictEntry}{ep:Nat},s₁.heap.get? b=some o->o.data= .dict es ep->upd (jD K s₁.heap A) tP (.qX #[]) b=none:=λ{b o es ep}e d=>by
  rw[ak (λz=>by rw[z,hT]at e;cases e;cases d)];exact noA0 e d
 have noM:∀{b:Addr}{o:Obj},s₁.heap.get? b=some o->o.cls= .type "module"->upd (jD K s₁.heap A) tP (.qX #[]) b=none:=λ{b o}e d=>by
  rw[ak (λz=>by rw[z,hT]at e;cases e;cases d)];cases q:jD K s₁.heap A b with
  |none=>rfl
  |some u=>
   obtain⟨_,vs,_,_,⟨e2,_⟩|⟨e2,_⟩⟩:=uj ar q
   ·rw[e2]at e;cases e;exact absurd (Value.type.inj d) (by decide)
   ·rw[e2]at e;cases e;exact absurd (Value.type.inj d) (by decide)
 have hTb:upd (jD K s₁.heap A) tP (.qX #[]) tP=some (.qX #[]):=af;clear up noT noA0;generalize upd (jD K s₁.heap A) tP (.qX #[])=H at hO bS hS hK noA noM hTb;have base_of:∀{b:Addr}{o:Obj},s₁.heap.get? b=some o->H b=none->(FI s₁.heap H).get? b=some o:=λe n=>Nu e n;have nsK:∀{b:Addr}{m:rn},s₁.heap.Ns b m->(FI s₁.heap H).Ns b m:=λ{b m} ⟨o,es,ep,e,d,r⟩=>⟨o,es,ep,base_of e (noA e d),d,r⟩
 have nK:∀b o,K.lookup b=some o->H b=none:=λb o e=>by
  cases q:H b with
  |none=>rfl
  |some u=>
   rw[hK b u q]at e;cases e
 have hKb:K.In (FI s₁.heap H):=λb o e=>base_of (KX b o e) (nK b o e)
 have hM:Mod K mg (FI s₁.heap H):=⟨hKb,nsK hns,⟨mb,nsK hb,hbb⟩,let ⟨mc,h1,h2⟩:=hlim;⟨mc,nsK h1,h2⟩,by
  obtain⟨bm,ob,m1,m2,m3,m4,m5,m6⟩:=hbm;refine⟨bm,ob,m1,m2,λz=>?_,base_of m3 (noM m3 m4),m4,m5,m6⟩;obtain⟨o,es,ep,e,d,_⟩:=hns;rw[<-z,m3]at e;cases e;rw[m6]at d
  cases d⟩
 have e0:IU P w K mg (FI s₁.heap H) callerA [] s₁ H:=⟨rfl,hM,λb o e=>Qc e,le_of_eq (LH _ _),trivial,λb hb=>absurd (show b∈([]:List Addr)from hb) (by simp),bS,.of_eq hg⟩
 have hl:vals.length=ps.length:=by rw[nZ hwl];exact hlen
 refine codeAny_mono ((F _ hKb (nsK hns)).run callerA [] s₁ H ⟨vals,[]⟩ vals (vals.map toV) _ _ hr e0 (hbind s₁ vals hl) hV (hsp H _ hTb hS)) λr s' x=>?_;cases r with
 |error e=>exact(hCX H e s' x).elim
 |ok fl=>
  cases fl with
  |next=>exact False.elim x
  |brk=>exact False.elim x
  |cont=>exact False.elim x
  |ret u=>
   obtain⟨v,H',os,bare,un,hok',r',q⟩:=x;have kept:∀b o,b≠tP->s₁.heap.get? b=some o->s'.heap.get? b=some o:=λb o nb e=>by
    cases q2:H b with
    |none=>exact un.keep b o e q2 (by intro z;exact absurd (show b∈([]:List Addr)from z) (by simp)) (by simp)
    |some u2=>
     rcases hO b nb with z|⟨ob,u3,z⟩
     ·rw[q2]at z;cases z
     ·have z2:=un.wQ b ob _ z;obtain⟨e1,_⟩:=bS b _ z;obtain⟨e2,_⟩:=hok' b _ z2;rw[e]at e1;cases e1;exact e2
   have KX':K.In s'.heap:=λb o e=>kept b o (λz=>by rw[z,hKP]at e;cases e) (KX b o e);obtain⟨more,hm⟩:=un.yI tP #[] hTb;have hg:s'.heap.get? tP=some (PySem.W.tabObj (#[]++more)):=hok' tP _ hm;obtain⟨as,hrd⟩:=Dw.reads (R:=R) (cl:=cl) hok' KX' d0 v u q r';refine⟨u,as,rfl,hrd,⟨λb o e=>?_,λb o e=>?_⟩,os,bare⟩
   ·by_cases hb:b=tP
    ·subst hb;rw[hT]at e;cases e;exact .inr (.inl ⟨(hC.tab hT).isCodeTable,rfl,#[],more,rfl,hg⟩)
    ·exact .inl (kept b o hb e)
   ·by_cases hb:b=tP
    ·subst hb;exact⟨_,hg⟩
    ·exact⟨o,kept b o hb e⟩
theorem B5{ds:List WData}(h:WData.layableAll ds=true):∀d∈ds,d.weight<=1048576:=λd hd=>
 (PySem.W.layableW_iff.mp (all_eq_true.mp h d hd)).2.2
theorem BG:∀(cs:List Codec)(a:Codec.denoteAll cs),(Codec.encAll cs a).length=cs.length
 |[],_=>rfl
 |c::cs,a=>by
  show(Codec.encAll cs a.2).length+1=cs.length+1;rw[BG cs a.2]
theorem Mt{r:OpenSpec}{k:Nat}{q:Program}{loose:List Str}{XP:(Str->Option Value)->Heap->Prop}{YP:World->Heap->Prop}{d:DefRec}{K:Params->PySem.W.Frag}{CX:World->IT}{ps:List Str}{sp:World->Sp}(x:Str)
  (hrec:((PyProof.Rows.recsOf q).find? λe=>e.name==x).isSome=true) (htab:∀w:World,(tabIn (K w.params) x).isSome=true) (hno:∀w:World,noTabs (K w.params)=true)
  (hwell:r.wellSaid=true) (hdf:d.params.defaults=[]) (hlen:r.args.length=ps.length) (hr:iu k callerA)
  (hY:∀(w:World)(h:Heap),YP w h->(K w.params).In h)
  (F:∀(w:World)(mg:rn)(fa:Addr)(h:Heap),YP w h->(K w.params).In h->h.Ns mainGlobals mg->mg d.name=some (.ref fa)->
   ∃fd:FuncData,(∀(s:Shared)(us:List Value),us.length=ps.length->BindsTo s fd ⟨us,[]⟩ (ps.zip us))/\
    ∀base:Heap,(K w.params).In base->base.Ns mainGlobals mg->aT r.prog w (K w.params) mg base (CX w) k fa fd ps (sp w))
  (hsp:∀(w:World)(H:Hp)(xs:List V)(a:Codec.denoteAll r.args),(∀c t,tabIn (K w.params) x=some (c,t)->H t=some (.qX #[]))->Codec.withinAll r.args a=true->Codec.app r.args r.asked a=true->jc (K w.params) H xs (Codec.encAll r.args a)->
   sp w xs H (λv H'=>Dw (K w.params) H' v (r.ret.enc (Codec.app r.args r.f a))) λ_ _ _=>False)
  (hCX:∀(w:World)(H:Hp)(s:Shared)(e:Value)(s':Shared),CX w [] H s (λ_ _ _=>False) e s'->False):
  WalkOS q loose XP YP r d [] (λf vs=>PySem.call f vs):=by
 intro w oV s₁ mg mb G Y fa o pm cd doc dV kV ho hd hcd hD hmg hg args vals as hpre hlay hrd hwl hlo;obtain⟨a,e1,e2⟩:=PySem.W.os_pre_some hpre;obtain⟨e3,hwi⟩:=Codec.encAll_of_decAll r.args args a e1;subst e3;have KX:=hY w _ Y;obtain⟨fd,hb,hF⟩:=F w mg fa _ Y KX G.T.g hmg;obtain⟨d0,hd0⟩:=isSome_iff_exists.mp hrec;obtain⟨⟨c0,tP⟩,hct⟩:=isSome_iff_exists.mp (htab w);obtain⟨hC,hT⟩:=PySem.W.tab_of G.T KX hd0 hct;have hKP:(K w.params).lookup tP=none:=by
  cases e:(K w.params).lookup tP with
  |none=>rfl
  |some o=>
   have h2:=all_eq_true.mp (hno w) (tP,o) (PySem.W.mem_of_lookupK e);have h3:=KX _ _ e;rw[hT]at h3;cases h3;exact absurd (show false=true from h2) Bool.false_ne_true
 refine PySem.W.enter_call (codeAny_mono (Mm (R:=[]) (cl:=classAt oV.heap) (d0:=r.ret.enc (Codec.app r.args r.f a)) hC hT hKP G.T.bmain KX G.T.g G.T.b G.T.builtins G.T.nolimit hg hwl (EE _ _) (B5 hlay) hr hF hb (by rw[BG];exact hlen)
  (λH xs hO hS=>hsp w H xs a (λc t e=>by rw[hct]at e;cases e;exact hO) hwi e2 hS) λH e s'=>hCX w H s₁ e s') λr' s' hq=>?_)
 obtain⟨u,as',rfl,h1,h2,h3,h4⟩:=hq;exact⟨.inl ⟨u,_,as',rfl,λ_=>rfl,h1,(OpenSpec.post_iff hwell hwi _ _).mpr rfl,λz=>noConfusion (show false=true from z)⟩,h2,h3,h4⟩
theorem J1{r:OpenSpec}{k:Nat}{q:Program}{loose:List Str}{XP:(Str->Option Value)->Heap->Prop}{YP:World->Heap->Prop}{d:DefRec}{K:Params->PySem.W.Frag}{CX:IT}{ps:List Str}{sp:PySem.W.Frag->Sp}(x:Str)
  (hrec:((PyProof.Rows.recsOf q).find? λe=>e.name==x).isSome=true) (htab:∀w:World,(tabIn (K w.params) x).isSome=true) (hno:∀w:World,noTabs (K w.params)=true)
  (hwell:r.wellSaid=true) (hdf:d.params.defaults=[]) (hlen:r.args.length=ps.length) (hr:iu k callerA)
  (hY:∀(w:World)(h:Heap),YP w h->(K w.params).In h)
  (F:∀(w:World)(mg:rn)(fa:Addr)(h:Heap),YP w h->(K w.params).In h->h.Ns mainGlobals mg->mg d.name=some (.ref fa)->
   ∃fd:FuncData,(∀(s:Shared)(us:List Value),us.length=ps.length->BindsTo s fd ⟨us,[]⟩ (ps.zip us))/\
    ∀base:Heap,(K w.params).In base->base.Ns mainGlobals mg->aT r.prog w (K w.params) mg base CX k fa fd ps (sp (K w.params)))
  (hsp:∀(K:PySem.W.Frag)(H:Hp)(xs:List V)(a:Codec.denoteAll r.args),(∀c t,tabIn K x=some (c,t)->H t=some (.qX #[]))->Codec.withinAll r.args a=true->Codec.app r.args r.asked a=true->jc K H xs (Codec.encAll r.args a)->
   sp K xs H (λv H'=>Dw K H' v (r.ret.enc (Codec.app r.args r.f a))) λ_ _ _=>False)
  (hCX:∀(H:Hp)(s:Shared)(e:Value)(s':Shared),CX [] H s (λ_ _ _=>False) e s'->False):
  WalkOS q loose XP YP r d [] (λf vs=>PySem.call f vs):=
 Mt (K:=K) (CX:=λ_=>CX) (sp:=λw=>sp (K w.params)) x hrec htab hno hwell hdf hlen hr hY F (λw H xs a h1 h2 h3 h4=>hsp (K w.params) H xs a h1 h2 h3 h4) λ_ H s e s'=>hCX H s e s'
end L2
end
end
open PySem PySem.W PyProof.Rows
set_option maxRecDepth 100000 in
set_option maxHeartbeats 0 in
theorem PySem.Challenge.cw_sharedhelp_s01_answers_holds : PySem.Challenge.rw_sharedhelp_s01_answers.Holds := by
  w_on; k_headS; (case hw => exact ⟨[.list []], by decide +kernel, by decide +kernel⟩)
  k_fillS
  refine L2.J1 (r := PySem.Challenge.rw_sharedhelp_s01_answers) (k := 9) (CX := L2.gU) (ps := ["calls"]) (sp := Sh.CU) "rounded_shares" (by kernel_rfl) (fun w => by kernel_rfl) (fun w => by kernel_rfl) (by decide +kernel) rfl rfl ⟨rfl, by decide, by decide⟩ (fun w h Y => PySem.W.kIn_of Y) ?F ?S (fun _ _ _ _ z => z)
  case F =>
    intro w mg fa h Y KX G hmg
    refine' Sh.QN (mg := mg) KX ?mT ?mK
    case mT =>
     refine' Sh.Txt.mk ?_ ?_ ?_ ?_ ?_ ?_ ?_ ?_ ?_ ?_ ?_ ?_ ?_ ?_ ?_ ?_ ?_ ?_ ?_ ?_ ?_ ?_ ?_ ?_ ?_ ?_ ?_ ?_ ?_ ?_ ?_ ?_ ?_ ?_ ?_ ?_ ?_ ?_ ?_ ?_ ?_ ?_ ?_ ?_ ?_ ?_ ?_ ?_ ?_ ?_ ?_ ?_ ?_ ?_ ?_ ?_ ?_ ?_ ?_ ?_ ?_ ?_ ?_ ?_ ?_ ?_ ?_ ?_ ?_ ?_ ?_ ?_ ?_ ?_ ?_ ?_ ?_ ?_ ?_ ?_ ?_ ?_ ?_ ?_ ?_ ?_ ?_ ?_ ?_ ?_ ?_ ?_ ?_ ?_ ?_ ?_ ?_ ?_ ?_ ?_ ?_ ?_ ?_ ?_ ?_ ?_ ?_ ?_ ?_ ?_ ?_ ?_ ?_ ?_ ?_ ?_ ?_ ?_ ?_ ?_ ?_ ?_ ?_ ?_ ?_ ?_ ?_ ?_ ?_ ?_ ?_ ?_ ?_ ?_ ?_ ?_ ?_ ?_ ?_ ?_ ?_ ?_ ?_ ?_ ?_ ?_ ?_ ?_ ?_ ?_ ?_ ?_ ?_ ?_ ?_ ?_ ?_ ?_ ?_ ?_ ?_ ?_ ?_ ?_ ?_ ?_ ?_ ?_ ?_ ?_ ?_ ?_ ?_ ?_ ?_ ?_ ?_ ?_ ?_ ?_ ?_ ?_ ?_ ?_ ?_ ?_ ?_ ?_ ?_ ?_ ?_ ?_ ?_ ?_ ?_ ?_ ?_ ?_ ?_ ?_ ?_ ?_ ?_ ?_ ?_ ?_ ?_ ?_ ?_ ?_ ?_ ?_ ?_ ?_ ?_ ?_ ?_ ?_ ?_ ?_ ?_ ?_ ?_ ?_ ?_ ?_ ?_ ?_ ?_ ?_ ?_ ?_ ?_ ?_ ?_ ?_ ?_ ?_ ?_ ?_ ?_ ?_ ?_ ?_ ?_ ?_ ?_ ?_ ?_ ?_ ?_ ?_ ?_ ?_ ?_ ?_ ?_ ?_ ?_ ?_ ?_ ?_ ?_ ?_ ?_ ?_
     all_goals (try dsimp only)
     all_goals first
       | (refine PySem.W.mg_of KX G ?_; k_is)
       | (refine' L2.RA ?zl ?zc ?zk; (case zl => k_is); (case zc => k_is); (case zk => k_is))
       | (refine PySem.W.mg_none_of KX G ?_; k_is)
       | (refine' Sh.RC KX G ?zq; (case zq => k_is))
       | k_is
       | (show PySem.W.findIn _ _ _ = _; k_is)
       | (refine L2.Ld.mk ?_ ?_ ?_ ?_ <;> k_is)
       | (refine' L2.Mk.mk ?zp ?zq ?zr ?zs; (case zp => k_is); (case zq => k_is); (case zr => k_is); (case zs => k_is))
       | (refine' L2.Meth.mk ?zp ?zq ?zr; (case zp => k_is); (case zq => k_is); (case zr => k_is))
       | (refine' Sh.Sg ?zh ?ze ?zg ?zp1 ?zp2 ?zp3 ?zp4 ?zp5 ?zp6 ?zp7 ?zp8; (case zh => k_is); (case ze => exact rfl); (case zg => exact rfl); (case zp1 => k_is); (case zp2 => k_is); (case zp3 => k_is); (case zp4 => k_is); (case zp5 => k_is); (case zp6 => k_is); (case zp7 => k_is); (case zp8 => k_is))
       | (refine' Sh.pK ?zh ?ze; (case zh => k_is); (case ze => exact rfl))
       | (refine' ⟨.type "type", ?zp, ?zq⟩; (case zp => k_is); (case zq => k_is))
       | (refine' Sh.S2 ?zp ?zq ?zr ?zs ?zt; (case zp => k_is); (case zq => k_is); (case zr => exact rfl); (case zs => k_is); (case zt => exact rfl))
       | (refine' Sh.SE ?zh ?ze; (case zh => k_is); (case ze => exact rfl))
       | exact rfl
    case mK =>
     intro T
     refine' Sh.QL (P := PySem.Challenge.rw_sharedhelp_s01_answers.prog) (w := w) ?mB (Sh.Sf T KX G ?_ ?_ ?_ ?_ ?_ ?_ ?_ ?_ ?_ ?_ ?_ ?_ ?_ ?_ ?_ ?_ ?_ ?_ ?_ ?_ ?_ ?_ ?_ ?_ ?_ ?_ ?_ ?_ ?_ ?_ ?_ ?_ ?_ ?_)
     any_goals first | k_is | exact rfl | (refine' Sh.Tf ?zq; (case zq => k_is))
     case mB =>
      intro B
      have e := hmg.symm.trans T.LP
      cases e
      exact ⟨_, fun s us hu => match us, hu with | [_], _ => .of_eq rfl, fun base _ _ => Sh.JA T B⟩
  case S =>
    intro K H xs a hO hwi hask hx
    cases hx with
    | cons h1 h2 =>
      cases h2
      cases h1 with
      | lst hs ha =>
        have e := L2.Kw a.1 _ ha
        subst e
        exact ⟨_, a.1, rfl, hs, hask, hO, fun H' p hp => .lst (L2.aH.of hp) (L2.Km _)⟩


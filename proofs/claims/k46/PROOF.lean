import PyProof.Rows.All
import Wide.All
import OpenK.AllK
import Wide.FinOn
import Lean
import PyProof.EqAt
import PyProof.EqKinds
import PyProof.TupleCall
import PySem.Challenge.RW_sharewheel_k46_whole_never_above_the_pla
set_option Elab.async false
set_option linter.all false
set_option maxRecDepth 100000
open List renaming getElem?_eq_some_iff→aa, length_map→ae, mem_of_getElem?→aq, getElem?_eq_getElem→au, map_append→ay, mem_cons_of_mem→aA, range→aD, length_cons→aE, take_of_length_le→aK, mem_cons→aM, length_append→aO, mem_map→aP, not_mem_nil→aR, mem_append→aY, filter_cons→aZ, getElem?_map→bh, append_nil→bx, mem_append_right→bA, map_cons→bD, length_filter_le→bG, mem_singleton→bH, size_toArray→bK, getElem?_eq_none→bN, mem_range→bS, getElem?_append_right→bW, length_take→bZ, length_nil→cy, filter_append→cG, mem_filter→cQ, length_range→dm, range_succ→dF, getElem?_of_mem→dN, sum_cons→eT, getElem?_append_left→e9, filterMap_cons→fN, length_eq_zero_iff→fR, lookup_cons→fS, take_append_of_le_length→fW, replicate→gD, getElem?_range→gO, find?_cons→gZ, getElem?_take→ia, mem_cons_self→ic, filter_cons_of_neg→ie, lookup→ig, filterMap_append→iN, take_length→iQ, any_cons→iU, filter_nil→i7, nodup_cons→i8, map_congr_left→jc, filter_congr→jN, foldl_append→jO, filter_cons_of_pos→jX, getElem?_replicate→jY, drop_eq_nil_of_le→kO, map_map→kP, map_nil→kQ, foldl_cons→k7, mem_of_mem_take→lW, mem_filterMap→nB, pairwise_cons→nC, append_assoc→oi, ext_getElem?→oj, cons_append→pO, nodup_range→pP, drop_append_of_le_length→pV, of_mem_zip→qk, take_zero→rZ, pairwise_iff_getElem→sE, all_cons→t9, getElem?_cons_succ→uC, getElem?_cons_zero→uD, getElem?_set_self→vg, getElem?_zipWith→vZ, take_append_drop→wc, getElem?_set_ne→xj, mem_append_left→xm, set_cons_succ→zH, set_cons_zero→zI, take_add_one→Ai, all_eq_true→Be, getElem_mem→Bf, length_drop→Bg, filter_map→Cy, nil_append→Cz, sum_append→CA
open PySem.W renaming Frag→ai, findIn→cJ, fnOf→c9, emptyDict→dR, keepIn→d9, codeIn→eU, instObj→e5, hasDictIn→jw, plainGet→jP, isFn→jV, lookIn→k9, plainGet_of→lN, methodObj→mZ, OpenLaw→oZ, makesIn→o4, takerIn→o5, mg_of→qR, cellsFrom_some→sL, callWith_K→wg, plainOver→xr, handedIn→xJ, WalkO→Bh, mroIn→Bj, nsIn→CG
open Rat renaming intCast_le_intCast→ak, le_refl→aB, mul_le_mul_of_nonneg_right→aC, mul_le_mul_of_nonneg_left→aH, intCast_mul→aJ, le_of_lt→br, mul_nonneg→bM, max_def→b6, intCast_nonneg→dg, intCast_add→dh, min_def→dO, intCast_lt_intCast→dX, le_trans→fF, mul_pos→fG, div_lt_iff→gG, zero_mul→gK, mul_inv_cancel→ik, intCast_sub→jd, lt_div_iff→mh, mul_comm→o6, mul_one→qo, intCast_inj→qS, mul_assoc→uG, den_intCast→Ec, intCast_neg→Ed, num_intCast→Ef
open Nat renaming le_refl→av, lt_of_lt_of_le→bI, ne_of_lt→bL, zero_le→bR, le_trans→cK, lt_or_ge→dW, le_succ→eV, mul_le_mul_left→fT, zero_add→fY, lt_irrefl→g6, lt_of_le_of_lt→jC, le_add_right→ki, sub_self→k8, not_lt_zero→lA, pow_le_pow_right→l9, le_of_lt→oX, lt_succ_of_lt→oY, two_pow_pos→qQ, ne_of_gt→wd, Coprime→xH, not_lt→Aj, lt_succ_self→CC, reduceLeDiff→CD, strongRecOn→D9
open True renaming intro→aN
open PySem renaming Spec→bw, mem_of_lookup→eL, Within→uF, call→xK
open Bool renaming false_ne_true→bC, not_eq_true'→iG, and_eq_true→iP, eq_iff_iff→kX, false_eq_true→zC, true_eq_false→zF, and_false→DZ, not_false→D4
open Option.some renaming inj→bE, injEq→ua
open False renaming elim→bV
open PySem.F renaming plainAttrs_list→bX, slot_list_append→b8, type_list_append→b9, slot_dict_get→ko, args_dict_get_3→r8, entry_dict_get→sJ
open Int renaming emod_lt_of_pos→b4, mul_ne_zero→b5, mul_le_mul_of_nonneg_right→cu, emod_nonneg→cD, reducePow→dD, mul_le_mul_of_nonneg_left→eI, mul_pos→eJ, le_refl→fE, ediv_mul_cancel→jf, mul_assoc→jU, le_of_lt→kY, mul_comm→kZ, reduceLT→k6, natAbs_dvd_natAbs→lM, mul_nonneg→l8, toNat_of_nonneg→mY, natAbs_natCast→nR, natCast_nonneg→nS, toNat_natCast→oV, neg_dvd→qj, ediv_eq_of_eq_mul_right→rX, fdiv_eq_ediv_of_dvd→vf, ediv_neg→vY, mul_ediv_cancel'→xG, lt_or_eq_of_le→Ag, natAbs→Ah, dvd_mul_right→Bc, dvd_antisymm→Cu, reduceToNat→D6
open Sum renaming inl→cH, inr→mV
open PyProof.Rows renaming callWith_type1→dB
open Ne renaming symm→dI
open Option renaming isSome_iff_exists→gQ, map_some→kj, getD_none→om, isSome_some→xn, getD_some→zJ
open ForInStep renaming yield→jQ
open List.Pairwise renaming nil→rY
open Array renaming length_toList→w6
open List.cons renaming injEq→xh
open Sum.inl renaming inj→Eg
namespace L2
open PySem PySem.Spec PyProof.Rows
abbrev Key:=Sum Int Str
def qC:Key->Value->Bool
 | .inl k,v=>Value.isInt k v
 | .inr x,v=>Value.isStrOf x v
def Lg (w:World):Key->Int
 | .inl k=>hashInt k
 | .inr x=>hashStr w x
theorem A7:∀ {k:Key} {v:Value},qC k v=true->(∃ i t,k=cH i/\v=Value.int i t)\/(∃ x t,k=mV x/\v=Value.str x t)
 | .inl i,v,h=>by
  obtain ⟨t,e⟩:=Value.isInt_shape (k:=i) (v:=v) h
  exact .inl ⟨i,t,rfl,e⟩
 | .inr x,v,h=>by
  obtain ⟨t,e⟩:=Value.isStrOf_shape (x:=x) (v:=v) h
  exact .inr ⟨x,t,rfl,e⟩
theorem Wh (i:Int) (t:Tok):qC (.inl i) (.int i t)=true:=by simp [qC,Value.isInt]
theorem Wi (x:Str) (t:Tok):qC (.inr x) (.str x t)=true:=by simp [qC,Value.isStrOf]
theorem Yr (a b:Int):decide ((cH a:Key)=cH b)=(a == b):=by
 by_cases e:a=b
 ·subst e; simp
 ·have h:¬ (cH a:Key)=cH b:=fun q=>e (Eg q)
  rw [decide_eq_false h]
  exact (beq_eq_false_iff_ne.mpr e).symm
theorem Ys (a b:Str):decide ((mV a:Key)=mV b)=decide (a=b):=by
 by_cases e:a=b
 ·subst e; simp
 ·have h:¬ (mV a:Key)=mV b:=fun q=>e (Sum.inr.inj q)
  rw [decide_eq_false h,decide_eq_false e]
theorem Yt (a:Int) (b:Str):decide ((cH a:Key)=mV b)=false:=decide_eq_false (fun q=>nomatch q)
theorem Yu (a:Str) (b:Int):decide ((mV a:Key)=cH b)=false:=decide_eq_false (fun q=>nomatch q)
def uu (prog:Program) (w:World):PySem.KeyKind prog w Key where
 is:=qC
 hash:=Lg w
 inj:=fun v a b ha hb=>by
  rcases A7 ha with ⟨i,t,rfl,rfl⟩ | ⟨x,t,rfl,rfl⟩
  ·rcases A7 hb with ⟨j,u,rfl,e⟩ | ⟨y,u,rfl,e⟩
   ·injection e with e1 _; rw [e1]
   ·exact nomatch e
  ·rcases A7 hb with ⟨j,u,rfl,e⟩ | ⟨y,u,rfl,e⟩
   ·exact nomatch e
   ·injection e with e1 _; rw [e1]
 byValue:=fun k v h=>by
  rcases A7 h with ⟨i,t,rfl,rfl⟩ | ⟨x,t,rfl,rfl⟩ <;> rfl
 pyHash:=fun hv h=>by
  rcases A7 hv with ⟨i,t,rfl,rfl⟩ | ⟨x,t,rfl,rfl⟩
  ·exact wpAny_pyHash_int h
  ·exact wpAny_pyHash_str h
 eqBool:=fun hu hv h=>by
  rcases A7 hu with ⟨i,t,rfl,rfl⟩ | ⟨x,t,rfl,rfl⟩
  ·rcases A7 hv with ⟨j,u,rfl,rfl⟩ | ⟨y,u,rfl,rfl⟩
   ·rw [Yr] at h; exact wpAny_eqBool_int h
   ·rw [Yt] at h; exact SeqAt.EqAt.int_str i t y u _ _ _ _ h
  ·rcases A7 hv with ⟨j,u,rfl,rfl⟩ | ⟨y,u,rfl,rfl⟩
   ·rw [Yu] at h; exact SeqAt.EqAt.str_int x t j u _ _ _ _ h
   ·rw [Ys] at h; exact wpAny_eqBool_str h
 «strs»:=fun k x t v h=>by
  rcases A7 h with ⟨i,u,rfl,e⟩ | ⟨y,u,rfl,e⟩
  ·exact nomatch e
  ·injection e with e1 _
   subst e1
   cases v <;> rfl
theorem VP (prog:Program) (w:World) (i:Int) (t:Tok):(uu prog w).is (.inl i) (.int i t)=true:=Wh i t
theorem VQ (prog:Program) (w:World) (x:Str) (t:Tok):(uu prog w).is (.inr x) (.str x t)=true:=Wi x t
inductive V where
 | iJ | bl (b:Bool) | int (i:Int) | str (x:Str) | vm (b:Array UInt8) | wz (b:UInt64) | ref (a:Addr) | ty (n:String)
 deriving DecidableEq
def RelV:V->Value->Prop
 | .iJ,u=>u=Value.none
 | .bl b,u=>u=Value.bool b
 | .int i,u=>∃ t,u=Value.int i t
 | .str x,u=>∃ t,u=Value.str x t
 | .vm b,u=>∃ t,u=Value.bytes b t
 | .wz b,u=>∃ t,u=Value.float b t
 | .ref a,u=>u=Value.ref a
 | .ty n,u=>u=Value.type n
abbrev dw:List V->List Value->Prop:=Paired RelV
theorem dw.length {xs:List V} {us:List Value} (r:dw xs us):xs.length=us.length:=Paired.length r
theorem dw.get:∀ {xs:List V} {us:List Value} {i:Nat} {x:V},dw xs us->xs[i]? = some x->∃ u,us[i]? = some u/\RelV x u
 | _,_,_,_,.nil,e=>by simp at e
 | _,_,0,_,.cons r _,e=>by simp at e; subst e; exact ⟨_,rfl,r⟩
 | _,_,i+1,x,.cons _ t,e=>by
  obtain ⟨u,h1,h2⟩:=dw.get (i:=i) (x:=x) t (by simpa using e)
  exact ⟨u,by simpa using h1,h2⟩
theorem dw.set {x:V} {u:Value} (r:RelV x u):∀ {xs:List V} {us:List Value} (i:Nat),dw xs us->dw (xs.set i x) (us.set i u)
 | _,_,_,.nil=>.nil
 | _,_,0,.cons _ t=>.cons r t
 | _,_,i+1,.cons q t=>.cons q (dw.set r i t)
theorem dw.append:∀ {xs ys:List V} {us ws:List Value},dw xs us->dw ys ws->dw (xs++ys) (us++ws)
 | _,_,_,_,.nil,s=>s
 | _,_,_,_,.cons r t,s=>.cons r (dw.append t s)
theorem dw.take:∀ {xs:List V} {us:List Value} (n:Nat),dw xs us->dw (xs.take n) (us.take n)
 | _,_,0,_=>.nil
 | _,_,_ + 1,.nil=>.nil
 | _,_,n+1,.cons r t=>.cons r (dw.take n t)
theorem dw.drop:∀ {xs:List V} {us:List Value} (n:Nat),dw xs us->dw (xs.drop n) (us.drop n)
 | _,_,0,r=>r
 | _,_,_ + 1,.nil=>.nil
 | _,_,n+1,.cons _ t=>dw.drop n t
def li:Option V->Option Value->Prop
 | some v,some u=>RelV v u
 | none,none=>True
 | _,_=>False
def KV {κ:Type}:List (κ×V)->List (κ×Value)->Prop:=Paired fun (p:κ×V) (q:κ×Value)=>p.1=q.1/\RelV p.2 q.2
def kV:Key->V
 | .inl i=>.int i
 | .inr x=>.str x
inductive HO where
 | lst (xs:List V)
 | tup (xs:List V)
 | dK (kvs:List (Key×V)) | dT (kvs:List (List Key×V))
 | set (S:Int->Bool) (n:Nat)
 | ins (C dx:Addr) (fs:List (Str×V))
 | own (x:Addr)
 | xd (fs:List (Str×V))
 | met (f x:Addr)
 | LQ (lo hi:Int)
 | zR (o:Obj) (u:HO)
 | DE (ps:Array Value)
 | ext (φ:Heap->Prop)
abbrev Hp:=Addr->Option HO
def aQ (H:Hp) (a:Addr) (o:HO):Hp:=fun b=>if b=a then some o else H b
theorem cO {H:Hp} {a:Addr} {o:HO}:aQ H a o a=some o:=by unfold aQ; rw [if_pos rfl]
theorem c8 {H:Hp} {a b:Addr} {o:HO} (h:b≠a):aQ H a o b=H b:=by unfold aQ; rw [if_neg h]
theorem QZ {H:Hp} {a:Addr} {o u:HO}:aQ (aQ H a o) a u=aQ H a u:=by
 funext b; unfold aQ; split <;> rfl
theorem b7 {H:Hp} {a b:Addr} {o u:HO} (h:H a=some o) (h':H b=some u) (d:o≠u):a≠b:=by
 intro e; subst e; rw [h] at h'; exact d (bE h')
theorem gX {H:Hp} {a b:Addr} {o:HO} (h:H a=some o) (h':H b=none):a≠b:=by
 intro e; subst e; rw [h] at h'; cases h'
section
variable (P:Program) (w:World)
def gF (H:Hp) (h:Heap) (a:Addr):HO->Prop
  | .lst xs=>xs.length<=sizeLine/\∃ (dJ:List Value) (n:Nat),dw xs dJ/\h.get? a=some { cls:=.type "list", data:=.seq dJ.toArray n }
  | .tup xs=>xs.length<=sizeLine/\∃ dJ:List Value,dw xs dJ/\IsTup h a dJ.toArray
  | .dK kvs=>kvs.length<=sizeLine/\(a == sysModules)=false/\∃ vs,KV kvs vs/\h.DictOf (uu P w) a vs
  | .dT kvs=>kvs.length<=sizeLine/\(a == sysModules)=false/\∃ xs:List (List Key×Addr×Value),
      Paired (fun (p:List Key×V) (q:List Key×Addr×Value)=>p.1=q.1/\H q.2.1=some (.tup (p.1.map kV))/\RelV p.2 q.2.2) kvs xs /\
      ∃ o es ep,h.get? a=some o/\o.ExactDict/\o.data = .dict es ep/\es.toList=xs.map (entryOfKey (tupleKind (uu P w)))/\(xs.map (·.1)).Nodup
  | .set S n=>h.SetOf (intKind P w) a S n
  | .ins C dx fs=>H dx=some (.own a)/\fs.length<=1000/\dx≠a/\h.get? a=some (e5 C dx) /\
      ∃ mA,h.Ns1 dx mA/\(∀ f,li (fs.lookup f) (mA f))/\uF mA (fs.map (·.1))
  | .own _=>∃ o,h.get? a=some o
  | .xd fs=>∃ mA,h.Ns1 a mA/\∀ f,li (fs.lookup f) (mA f)
  | .LQ lo hi=>∃ t u v,h.get? a=some { cls:=.type "range", data:=.fields #[.int lo t,.int hi u,.int 1 v] }
  | .zR o u=>h.get? a=some o/\gF H h a u
  | .DE ps=>h.get? a=some { cls:=.none,data:=.fields ps }
  | .met f x=>h.get? a=some (mZ (.ref f) (.ref x))
  | .ext φ=>φ h/\(∃ o,h.get? a=some o)/\∀ h1 h2:Heap,φ h1->(∀ o,h1.get? a=some o->h2.get? a=some o)->φ h2
def lK (H:Hp) (h:Heap):Prop:=∀ a o,H a=some o->gF P w H h a o
end
section
variable {P:Program} {w:World} {H H':Hp} {h h':Heap} {a:Addr} {o:HO}
theorem gF.lt (x:gF P w H h a o):a<h.objs.size:=by
 cases o with
 | lst xs=>obtain ⟨_,_,_,_,e⟩:=x; exact Heap.lt_size e
 | tup xs=>obtain ⟨_,_,_,p⟩:=x; exact p.lt
 | dK kvs=>obtain ⟨_,_,_,_,o,_,_,e,_⟩:=x; exact Heap.lt_size e
 | dT kvs=>obtain ⟨_,_,_,_,o,_,_,e,_⟩:=x; exact Heap.lt_size e
 | set S n=>obtain ⟨o,_,_,_,e,_⟩:=x; exact Heap.lt_size e
 | ins C dx fs=>obtain ⟨_,_,_,e,_⟩:=x; exact Heap.lt_size e
 | own y=>obtain ⟨_,e⟩:=x; exact Heap.lt_size e
 | xd fs=>obtain ⟨_,⟨_,_,_,e,_⟩,_⟩:=x; exact Heap.lt_size e
 | LQ lo hi=>obtain ⟨_,_,_,e⟩:=x; exact Heap.lt_size e
 | zR ob u=>obtain ⟨e,_⟩:=x; exact Heap.lt_size e
 | DE ps=>exact Heap.lt_size (show h.get? a=some _ from x)
 | met f y=>exact Heap.lt_size (show h.get? a=some _ from x)
 | ext φ=>obtain ⟨_,⟨_,e⟩,_⟩:=x; exact Heap.lt_size e
theorem Paired.gB {α β:Type} {F G:α->β->Prop}:∀ {l₁:List α} {l₂:List β},Paired F l₁ l₂->(∀ a b,F a b->G a b)->Paired G l₁ l₂
 | _,_,.nil,_=>.nil
 | _,_,.cons r t,f=>.cons (f _ _ r) (Paired.gB t f)
theorem gF.nZ (x:gF P w H h a o) (k:∀ b u,(b=a\/H b=some (.own a))->h.get? b=some u->h'.get? b=some u)
    (ho:∀ b,H b=some (.own a)->H' b=some (.own a)) (ht:∀ b xs,H b=some (.tup xs)->H' b=some (.tup xs)):gF P w H' h' a o:=by
  induction o with
  | lst xs=>obtain ⟨z,dJ,n,r,e⟩:=x; exact ⟨z,dJ,n,r,k _ _ (.inl rfl) e⟩
  | tup xs=>obtain ⟨z,dJ,r,ob,e,c⟩:=x; exact ⟨z,dJ,r,ob,k _ _ (.inl rfl) e,c⟩
  | dK kvs=>obtain ⟨z,y,vs,r,ob,es,ep,e,c⟩:=x; exact ⟨z,y,vs,r,ob,es,ep,k _ _ (.inl rfl) e,c⟩
  | dT kvs =>
    obtain ⟨z,y,xs,r,ob,es,ep,e,c⟩:=x
    exact ⟨z,y,xs,Paired.gB r fun p q z=>⟨z.1,ht _ _ z.2.1,z.2.2⟩,ob,es,ep,k _ _ (.inl rfl) e,c⟩
  | set S n=>obtain ⟨ob,es,ep,t,e,c⟩:=x; exact ⟨ob,es,ep,t,k _ _ (.inl rfl) e,c⟩
  | ins C dx fs =>
    obtain ⟨d,z,ne,e,mA,⟨od,es,ep,e2,c⟩,r⟩:=x
    exact ⟨ho _ d,z,ne,k _ _ (.inl rfl) e,mA,⟨od,es,ep,k _ _ (.inr d) e2,c⟩,r⟩
  | own y=>obtain ⟨ob,e⟩:=x; exact ⟨ob,k _ _ (.inl rfl) e⟩
  | xd fs=>obtain ⟨mA,⟨od,es,ep,e,c⟩,r⟩:=x; exact ⟨mA,⟨od,es,ep,k _ _ (.inl rfl) e,c⟩,r⟩
  | LQ lo hi=>obtain ⟨t,u,v,e⟩:=x; exact ⟨t,u,v,k _ _ (.inl rfl) e⟩
  | zR ob u ih=>obtain ⟨e,q⟩:=x; exact ⟨k _ _ (.inl rfl) e,ih q⟩
  | DE ps =>
    have e:h.get? a=some { cls:=.none,data:=.fields ps }:=x
    show h'.get? a=some { cls:=.none,data:=.fields ps }
    exact k a _ (.inl rfl) e
  | met f y =>
    have e:h.get? a=some (mZ (.ref f) (.ref y)):=x
    show h'.get? a=some (mZ (.ref f) (.ref y))
    exact k a _ (.inl rfl) e
  | ext φ=>obtain ⟨p,⟨o,e⟩,st⟩:=x; exact ⟨st _ _ p fun o q=>k _ _ (.inl rfl) q,⟨o,k _ _ (.inl rfl) e⟩,st⟩
theorem lK.lt (x:lK P w H h) (e:H a=some o):a<h.objs.size:=(x a o e).lt
theorem lK.fresh (x:lK P w H h) (e:h.objs.size<=a):H a=none:=by
 cases q:H a with
 | none=>rfl
 | some u=>exact absurd (bI (x.lt q) e) (g6 _)
theorem lK.kept (x:lK P w H h) (k:∀ b u,h.get? b=some u->h'.get? b=some u):lK P w H h':=fun a o e =>
 (x a o e).nZ (fun b u _ q=>k b u q) (fun _ q=>q) fun _ _ q=>q
theorem lK.laid (x:lK P w H h) (k:∀ b u,h.get? b=some u->h'.get? b=some u) (hp:h.objs.size<=a) (new:gF P w (aQ H a o) h' a o):lK P w (aQ H a o) h':=fun b u e=>by
 have hn:=x.fresh hp
 by_cases hb:b=a
 ·subst hb; rw [cO] at e; cases e; exact new
 ·rw [c8 hb] at e
  exact (x b u e).nZ (fun c v _ q=>k c v q) (fun c q=>by rw [c8 (gX q hn)]; exact q) fun c xs q=>by rw [c8 (gX q hn)]; exact q
end
def Rd (H:Hp) (a:Addr) (u:HO):Prop:=H a=some u\/∃ o,H a=some (.zR o u)
theorem Rd.ok {P:Program} {w:World} {H:Hp} {h:Heap} {a:Addr} {u:HO} (r:Rd H a u) (x:lK P w H h):gF P w H h a u:=by
 rcases r with r | ⟨o,r⟩
 ·exact x a u r
 ·obtain ⟨_,q⟩:=x a _ r
  exact q
def E2:Option HO->Prop
 | some (.lst _)=>True
 | some (.dK _)=>True
 | some (.dT _)=>True
 | some (.set _ _)=>True
 | some (.ins _ _ _)=>True
 | some (.ext _)=>True
 | _=>False
section
variable {P:Program} {w:World} {H:Hp} {h h':Heap} {x e:Addr} {o':HO}
theorem lK.write (ok:lK P w H h) (mu:E2 (H x)) (he:e=x\/H e=some (.own x)) (k:∀ b u,b≠e->h.get? b=some u->h'.get? b=some u) (BB:∃ u,h'.get? e=some u)
    (new:gF P w (aQ H x o') h' x o'):lK P w (aQ H x o') h':=fun b u q=>by
  have Gx:∀ c y,H c=some (.own y)->c≠x:=fun c y r z=>by subst z; rw [r] at mu; exact mu
  have LB:∀ c xs,H c=some (.tup xs)->c≠x:=fun c xs r z=>by subst z; rw [r] at mu; exact mu
  by_cases hb:b=x
  · subst hb; rw [cO] at q; cases q; exact new
  · rw [c8 hb] at q
    by_cases CU:b=e
    · have q':H b=some (.own x):=by
        rcases he with z | z
        · exact absurd (CU.trans z) hb
        · rw [CU]; exact z
      rw [q] at q'; cases q'
      obtain ⟨v,hv⟩:=BB
      exact ⟨v,by rw [CU]; exact hv⟩
    · refine (ok b u q).nZ (fun c v hc r=>k c v ?_ r) (fun c r=>by rw [c8 (Gx c b r)]; exact r) fun c xs r=>by rw [c8 (LB c xs r)]; exact r
      rcases hc with rfl | hc
      · exact CU
      · rintro rfl
        rcases he with z | z
        · exact Gx c b hc z
        · rw [hc] at z; cases z; exact hb rfl
end
structure Un (fs ex:List Addr) (H H':Hp) (h h':Heap):Prop where
 keep:∀ b o,h.get? b=some o->H b=none->b ∉ fs->b ∉ ex->h'.get? b=some o
 slot:∀ b o,h.get? b=some o->H b=none->b∈fs->b ∉ ex->∃ sl,h'.get? b=some { o with slots:=sl }
 free:∀ b o,h.get? b=some o->H b=none->b ∉ ex->H' b=none
 there:∀ b o,h.get? b=some o->b ∉ ex->∃ o',h'.get? b=some o'
 pM:∀ b xs,H b=some (.tup xs)->H' b=some (.tup xs)
 nW:∀ b o u,H b=some (.zR o u)->H' b=some (.zR o u)
 pL:∀ b ps,H b=some (.DE ps)->∃ more,H' b=some (.DE (ps++more))
section
variable {fs Ib ex ZD:List Addr} {H H1 H2:Hp} {h h1 h2 h':Heap} {a x e:Addr} {o:HO}
theorem Un.any (u:Un fs ex H H1 h h1) {b:Addr} {ob:Obj} (q:h.get? b=some ob) (n:H b=none) (hx:b ∉ ex):∃ sl,h1.get? b=some { ob with slots:=sl }:=by
 by_cases hb:b∈fs
 ·exact u.slot b ob q n hb hx
 ·exact ⟨ob.slots,u.keep b ob q n hb hx⟩
theorem Un.kept (k:∀ b u,h.get? b=some u->h'.get? b=some u):Un fs ex H H h h' :=
 ⟨fun b ob q _ _ _=>k b ob q,fun b ob q _ _ _=>⟨ob.slots,k b ob q⟩,fun _ _ _ n _=>n,fun b ob q _=>⟨ob,k b ob q⟩,fun _ _ q=>q,fun _ _ _ q=>q,fun _ ps q=>⟨#[],by rw [q]; simp⟩⟩
theorem Un.refl:Un fs ex H H h h:=Un.kept fun _ _ q=>q
theorem Un.laid (k:∀ b u,h.get? b=some u->h'.get? b=some u) (hp:h.objs.size<=a) (hn:H a=none):Un fs ex H (aQ H a o) h h' where
 keep:=fun b u q _ _ _=>k b u q
 slot:=fun b u q _ _ _=>⟨u.slots,k b u q⟩
 free:=fun b u q n _=>by rw [c8 (bL (bI (Heap.lt_size q) hp))]; exact n
 there:=fun b u q _=>⟨u,k b u q⟩
 pM:=fun b xs q=>by rw [c8 (gX q hn)]; exact q
 nW:=fun b u xs q=>by rw [c8 (gX q hn)]; exact q
 pL:=fun b ps q=>⟨#[],by rw [c8 (gX q hn),q]; simp⟩
theorem Un.write (mu:E2 (H x)) (he:e=x\/H e=some (.own x)) (k:∀ b u,b≠e->h.get? b=some u->h'.get? b=some u) (BB:∃ u,h'.get? e=some u):Un fs ex H (aQ H x o) h h':=by
 have hx:∀ b,H b=none->b≠x:=fun b n z=>by subst z; rw [n] at mu; exact mu
 have hb:∀ b,H b=none->b≠e:=fun b n z=>by
  subst z
  rcases he with r | r
  ·exact hx b n r
  ·rw [n] at r; cases r
 have hm:∀ b u,H b=some u->¬ E2 (some u)->b≠x:=fun b u q nm z=>by subst z; rw [q] at mu; exact nm mu
 refine ⟨fun b u q n _ _=>k b u (hb b n) q,fun b u q n _ _=>⟨u.slots,k b u (hb b n) q⟩,fun b u q n _=>by rw [c8 (hx b n)]; exact n,fun b u q _=>?_,
  fun b xs q=>by rw [c8 (hm b _ q fun z=>z)]; exact q,fun b u xs q=>by rw [c8 (hm b _ q fun z=>z)]; exact q,fun b ps q=>⟨#[],by rw [c8 (hm b _ q fun z=>z),q]; simp⟩⟩
 by_cases CU:b=e
 ·subst CU; exact BB
 ·exact ⟨u,k b u CU q⟩
end
def IL (h:Heap) (H:Hp):List Addr:=(aD h.objs.size).filter fun a=>(H a).isSome
def rj (h:Heap) (H:Hp):Heap:=PySem.W.hideAll h (IL h H)
theorem Wj (h:Heap) (H:Hp):(rj h H).objs.size=h.objs.size:=PySem.W.hideAll_size _ _
theorem WO {h:Heap} {H:Hp} {b:Addr} {o:Obj} (e:h.get? b=some o) (n:H b=none):(rj h H).get? b=some o :=
 PySem.W.hideAll_get _ e fun hm=>by
  have q:(H b).isSome=true:=(cQ.mp hm).2
  rw [n] at q; simp at q
theorem Xv {h:Heap} {H:Hp} {b:Addr} {o:Obj} (e:(rj h H).get? b=some o):h.get? b=some o/\H b=none:=by
 have e':h.get? b=some o:=PySem.W.of_hideAll (IL h H) e
 refine ⟨e',?_⟩
 cases q:H b with
 | none=>rfl
 | some x =>
  have hm:b∈IL h H:=cQ.mpr ⟨bS.mpr (Heap.lt_size e'),by simp [q]⟩
  have z:(rj h H).get? b=none:=PySem.W.hideAll_none (IL h H) hm
  rw [z] at e; cases e
def Xw (g h:Heap) (L:Addr):List (Addr×Obj):=(aD h.objs.size).filterMap fun a=>if a=L\/(g.get? a).isSome=true then none else (h.get? a).map fun o=>(a,o)
def rest (g h:Heap) (L d:Addr):List (Addr×Obj):=(Xw g h L).filter fun p=>decide (p.1≠d)
structure Mod (K:ai) (mg:Str->Option Value) (base:Heap):Prop where
 Iu:K.In base
 glob:base.Ns mainGlobals mg
 blt:∃ mb,base.Ns builtinsNs mb/\∀ x:Str,x ≠ "__name__" -> mb x=bootBuiltins x
 nolimit:base.NoLimit
structure Cx where
 prog:Program
 w:World
 K:ai
 mg:Str->Option Value
 base:Heap
 A:Around
 N:List Str
 s₀:Shared
 H₀:Hp
 env:Env
 outer:List Env
 stack:List Env
 ex:List Addr
 fn:Str->Bool
 calm:Bool
 pn:List (Addr×Obj)
 xe:Value->Shared->Prop
def wB (l:List Env):List Addr:=l.filterMap (·.frame)
abbrev Cx.fs (X:Cx):List Addr:=wB X.outer
def JT (sc:Scope) (x:Str):Prop:=sc.names.lookup x=some .local\/sc.names.lookup x=some .cell\/sc.names.lookup x=some .free
def Loc (sc:Scope) (x:Str):Prop:=sc.names.lookup x=some .local\/sc.names.lookup x=some .cell
def Look (env:Env) (h:Heap) (m:Str->Option Value) (x:Str) (u:Value):Prop :=
 (env.kindOf x=some .local/\m x=some u)\/((env.kindOf x=some .cell\/env.kindOf x=some .free)/\∃ c,env.cells.lookup x=some c/\h.IsCell c (some u))
structure Cx.Ok (X:Cx):Prop where
 mod:Mod X.K X.mg X.base
 kind:X.env.scope.kind = .function
 glob:X.env.globals=mainGlobals
 blt:X.env.builtins=builtinsNs
 above:X.s₀.heap.objs.size<=X.env.locals
 inj:∀ x y c,X.env.cells.lookup x=some c->X.env.cells.lookup y=some c->x=y
 has:∀ x,(X.env.kindOf x=some .cell\/X.env.kindOf x=some .free)->∃ c,X.env.cells.lookup x=some c
 Fe:∀ x c,X.fn x=true->X.env.cells.lookup x=some c->X.s₀.heap.objs.size<=c
 hd:X.calm=true->X.A.handled=none
 frames:X.A.frames=some X.stack
 IE:X.stack=X.outer\/(X.stack=X.env :: X.outer/\X.env.frame=some X.env.locals)
 Bu:∀ b∈X.ex,b≠X.env.locals/\∀ x c,X.env.cells.lookup x=some c->c≠b
 bs:∀ b o,X.base.get? b=some o->X.s₀.heap.get? b=some o/\X.H₀ b=none
 xQ:X.base.objs.size<=X.s₀.heap.objs.size
 wI:∀ b o,X.base.get? b=some o->b ∉ X.ex
 uI:∀ b∈X.ex,b ∉ X.fs
 nX:X.s₀.heap.FunFrames X.base X.outer
 CS:∀ b∈X.fs,X.H₀ b=none
structure Inv (X:Cx) (ao:List (Addr×Obj)) (σ:List (Option V)) (H:Hp) (s:Shared):Prop where
 ok:X.Ok
 os:s.os=X.s₀.os
 bare:AllBare s.gens
 base:Un X.fs X.ex X.H₀ H X.s₀.heap s.heap
 loc:∃ m,s.heap.Ns X.env.locals m/\∀ (i:Nat) (x:Str) (v:V),X.N[i]? = some x->σ[i]? = some (some v)->JT X.env.scope x->∃ u,RelV v u/\Look X.env s.heap m x u
 cell:∀ x c,X.env.cells.lookup x=some c->∃ v,s.heap.IsCell c v
 free:H X.env.locals=none
 kD:∀ x c,X.env.cells.lookup x=some c->H c=none
 pin:∀ p∈X.pn++ao,s.heap.get? p.1=some p.2/\H p.1=none/\p.1≠X.env.locals/\p.1 ∉ X.fs/\∀ v,p.2.data≠.cell v
 eW:lK X.prog X.w H s.heap
 len:σ.length=X.N.length
section
variable {X:Cx} {ao:List (Addr×Obj)} {σ:List (Option V)} {H H':Hp} {s:Shared} {h':Heap}
theorem Cx.Ok.Lw (ok:X.Ok) {b:Addr} {o:Obj} (e:X.base.get? b=some o):b ∉ X.fs:=fun hb=>by
 have:=(ok.nX.mem hb).1
 rw [e] at this; cases this
theorem Inv.bs (I:Inv X ao σ H s):∀ b o,X.base.get? b=some o->s.heap.get? b=some o/\H b=none:=fun b o e =>
 ⟨I.base.keep b o (I.ok.bs b o e).1 (I.ok.bs b o e).2 (I.ok.Lw e) (I.ok.wI b o e),I.base.free b o (I.ok.bs b o e).1 (I.ok.bs b o e).2 (I.ok.wI b o e)⟩
theorem Inv.bk (I:Inv X ao σ H s):∀ b o,X.base.get? b=some o->s.heap.get? b=some o:=fun b o e=>(I.bs b o e).1
theorem Inv.mod (I:Inv X ao σ H s):Mod X.K X.mg X.base:=I.ok.mod
theorem Inv.vz (I:Inv X ao σ H s):X.K.In s.heap:=I.ok.mod.Iu.keeps I.bk
theorem Inv.lt (I:Inv X ao σ H s):X.env.locals<s.heap.objs.size:=let ⟨_,hn,_⟩:=I.loc; hn.lt
theorem Inv.sz (I:Inv X ao σ H s):X.s₀.heap.objs.size<=s.heap.objs.size:=cK I.ok.above (oX I.lt)
theorem Inv.Ly (I:Inv X ao σ H s) {a:Addr} (h:s.heap.objs.size<=a):a ∉ X.fs:=fun hb=>by
 obtain ⟨_,o,ho,_⟩:=I.ok.nX.mem hb
 exact absurd (bI (Heap.lt_size ho) (cK I.sz h)) (g6 _)
theorem Inv.CM (I:Inv X ao σ H s):∀ x c,X.env.cells.lookup x=some c->c≠X.env.locals:=fun x c e z=>by
 obtain ⟨v,o,ho,hd⟩:=I.cell x c e
 obtain ⟨m,⟨o',es,ep,C1,Ks,_⟩,_⟩:=I.loc
 rw [z,C1] at ho; cases ho; rw [Ks] at hd; cases hd
theorem Inv.nX (I:Inv X ao σ H s):s.heap.FunFrames X.base X.outer:=by
 have all:∀ (l:List Env),(∀ b∈wB l,b∈X.fs)->X.s₀.heap.FunFrames X.base l->s.heap.FunFrames X.base l:=by
  intro l
  induction l with
  | nil=>intro _ _; trivial
  | cons env r ih =>
   intro hs hl
   obtain ⟨hk,⟨L,o,hf,hn,ho,hd⟩,hr⟩:=hl
   have hL:L∈X.fs:=hs L (by unfold wB; rw [fN,hf]; exact ic)
   obtain ⟨sl,e⟩:=I.base.slot L o ho (I.ok.CS L hL) hL fun z=>I.ok.uI L z hL
   exact ⟨hk,⟨L,_,hf,hn,e,hd⟩,ih (fun b hb=>hs b (by unfold wB; rw [fN,hf]; exact aA _ hb)) hr⟩
 exact all X.outer (fun _ hb=>hb) I.ok.nX
theorem Inv.stack (I:Inv X ao σ H s):s.heap.FunFrames X.base X.stack:=by
 rcases I.ok.IE with e | ⟨e,hf⟩
 ·rw [e]; exact I.nX
 ·rw [e]
  obtain ⟨m,hn,_⟩:=I.loc
  refine .cons (by rw [I.ok.kind]; decide) hf hn ?_ I.nX
  exact Heap.get?_none_of_le (cK I.ok.xQ I.ok.above)
theorem Inv.rR (I:Inv X ao σ H s):∀ b∈wB X.stack,b∈X.env.locals :: X.fs:=fun b hb=>by
 rcases I.ok.IE with e | ⟨e,hf⟩
 ·rw [e] at hb; exact aA _ hb
 ·rw [e] at hb
  unfold wB at hb
  rw [fN,hf] at hb
  exact hb
theorem Inv.rQ (I:Inv X ao σ H s):∀ b∈wB X.stack,H b=none:=fun b hb=>by
 rcases aM.mp (I.rR b hb) with e | hb
 ·rw [e]; exact I.free
 ·obtain ⟨_,o,ho,_⟩:=I.ok.nX.mem hb
  exact I.base.free b o ho (I.ok.CS b hb) fun z=>I.ok.uI b z hb
theorem Inv.step {g':Array GenState} {t':Nat} {d':Drawn} {ch:List Addr} (I:Inv X ao σ H s)
    (zU:∀ b∈ch,(b∈X.ex\/X.s₀.heap.objs.size<=b)/\b≠X.env.locals/\(∀ x c,X.env.cells.lookup x=some c->c≠b)/\∀ p∈X.pn++ao,p.1≠b)
    (keep:∀ b o,b≠X.env.locals->b ∉ X.fs->b ∉ ch->s.heap.get? b=some o->H b=none->h'.get? b=some o)
    (slot:∀ b o,b≠X.env.locals->b∈X.fs->b ∉ ch->s.heap.get? b=some o->H b=none->∃ sl,h'.get? b=some { o with slots:=sl }) (free:∀ b o,b ∉ ch->s.heap.get? b=some o->H b=none->H' b=none)
    (there:∀ b o,b ∉ ch->s.heap.get? b=some o->∃ o',h'.get? b=some o')
    (pM:∀ b xs,H b=some (.tup xs)->H' b=some (.tup xs)) (nW:∀ b o u,H b=some (.zR o u)->H' b=some (.zR o u)) (pL:∀ b ps,H b=some (.DE ps)->∃ more,H' b=some (.DE (ps++more)))
    (ns:∀ m,s.heap.Ns X.env.locals m->h'.Ns X.env.locals m) (eW:lK X.prog X.w H' h') (hg:AllBare g') :
    Inv X ao σ H' { s with heap:=h',gens:=g',drawn:=d',toks:=t' }:=by
  have Oz:∀ b o,X.s₀.heap.get? b=some o->b≠X.env.locals:=fun b o e=>bL (bI (Heap.lt_size e) I.ok.above)
  have ug:∀ b o,X.s₀.heap.get? b=some o->b ∉ X.ex->b ∉ ch:=fun b o e hx hb=>by
    rcases (zU b hb).1 with z | z
    · exact hx z
    · exact absurd (bI (Heap.lt_size e) z) (g6 _)
  have nD:∀ x c,X.env.cells.lookup x=some c->∀ v,s.heap.IsCell c v->h'.IsCell c v:=fun x c e v ⟨o,ho,hd⟩=>by
    have Gv:c ∉ ch:=fun z=>(zU c z).2.2.1 x c e rfl
    by_cases hc:c∈X.fs
    · obtain ⟨sl,q⟩:=slot c o (I.CM x c e) hc Gv ho (I.kD x c e)
      exact ⟨_,q,hd⟩
    · exact ⟨o,keep c o (I.CM x c e) hc Gv ho (I.kD x c e),hd⟩
  refine ⟨I.ok,I.os,hg,⟨fun b o e n hb hx=>?_,fun b o e n hb hx=>?_,fun b o e n hx=>?_,fun b o e hx=>?_,fun b xs e=>pM b xs (I.base.pM b xs e),fun b o xs e=>nW b o xs (I.base.nW b o xs e),fun b ps e=>?_⟩,?_,fun x c e=>?_,?_,fun x c e=>?_,fun p hp=>?_,eW,I.len⟩
  · exact keep b o (Oz b o e) hb (ug b o e hx) (I.base.keep b o e n hb hx) (I.base.free b o e n hx)
  · obtain ⟨sl,e1⟩:=I.base.slot b o e n hb hx
    obtain ⟨Vc,e2⟩:=slot b _ (Oz b o e) hb (ug b o e hx) e1 (I.base.free b o e n hx)
    exact ⟨Vc,e2⟩
  · obtain ⟨o',e1⟩:=I.base.there b o e hx
    exact free b o' (ug b o e hx) e1 (I.base.free b o e n hx)
  · obtain ⟨o',e1⟩:=I.base.there b o e hx
    exact there b o' (ug b o e hx) e1
  · obtain ⟨m1,e1⟩:=I.base.pL b ps e
    obtain ⟨m2,e2⟩:=pL b _ e1
    exact ⟨m1++m2,by rw [e2,Array.append_assoc]⟩
  · obtain ⟨m,hn,hl⟩:=I.loc
    refine ⟨m,ns m hn,fun i x v e1 e2 e3=>?_⟩
    obtain ⟨u,r,l⟩:=hl i x v e1 e2 e3
    refine ⟨u,r,?_⟩
    rcases l with l | ⟨k,c,e,z⟩
    · exact .inl l
    · exact .inr ⟨k,c,e,nD x c e _ z⟩
  · obtain ⟨v,z⟩:=I.cell x c e
    exact ⟨v,nD x c e v z⟩
  · obtain ⟨m,⟨o,_,_,ho,_⟩,_⟩:=I.loc
    exact free _ o (fun z=>(zU _ z).2.1 rfl) ho I.free
  · obtain ⟨v,o,ho,hd⟩:=I.cell x c e
    exact free c o (fun z=>(zU c z).2.2.1 x c e rfl) ho (I.kD x c e)
  · obtain ⟨e,n,ne,nf,d⟩:=I.pin p hp
    have Gv:p.1 ∉ ch:=fun z=>(zU p.1 z).2.2.2 p hp rfl
    exact ⟨keep p.1 p.2 ne nf Gv e n,free p.1 p.2 Gv e n,ne,nf,d⟩
theorem Inv.un {t':Nat} (I:Inv X ao σ H s) (u:Un X.fs [] H H' s.heap h') (eW:lK X.prog X.w H' h'):Inv X ao σ H' { s with heap:=h',toks:=t' }:=by
 obtain ⟨m,⟨o,es,ep,ho,r⟩,_⟩:=id I.loc
 obtain ⟨sl,hL⟩:=u.any ho I.free (by simp)
 exact I.step (g':=s.gens) (d':=s.drawn) (ch:=[]) (fun _ z=>nomatch z) (fun b o _ hb _ e n=>u.keep b o e n hb (by simp)) (fun b o _ hb _ e n=>u.slot b o e n hb (by simp)) (fun b o _ e n=>u.free b o e n (by simp)) (fun b o _ e=>u.there b o e (by simp)) u.pM u.nW u.pL (fun m' hm=>by
  obtain ⟨o',Bt,J7,C1,r'⟩:=hm
  rw [ho] at C1; cases C1
  exact ⟨_,Bt,J7,hL,r'⟩) eW I.bare
theorem Inv.call {g':Array GenState} {t':Nat} {d':Drawn} {ch:List Addr} (I:Inv X ao σ H s) (u:Un (wB X.stack) ch H H' s.heap h') (eW:lK X.prog X.w H' h') (hg:AllBare g')
    (zU:∀ b∈ch,(b∈X.ex\/X.s₀.heap.objs.size<=b)/\b≠X.env.locals/\(∀ x c,X.env.cells.lookup x=some c->c≠b)/\∀ p∈X.pn++ao,p.1≠b) :
    Inv X ao σ H' { s with heap:=h',gens:=g',drawn:=d',toks:=t' }:=by
  obtain ⟨m,⟨o,es,ep,ho,r⟩,_⟩:=id I.loc
  obtain ⟨sl,hL⟩:=u.any ho I.free fun z=>(zU _ z).2.1 rfl
  exact I.step (ch:=ch) zU (fun b o hL hb hc e n=>u.keep b o e n (fun z=>(aM.mp (I.rR b z)).elim hL hb) hc) (fun b o _ _ hc e n=>u.any e n hc) (fun b o hc e n=>u.free b o e n hc) (fun b o hc e=>u.there b o e hc) u.pM u.nW u.pL (fun m' hm=>by
    obtain ⟨o',Bt,J7,C1,r'⟩:=hm
    rw [ho] at C1; cases C1
    exact ⟨_,Bt,J7,hL,r'⟩) eW hg
theorem Inv.turned {t':Nat} {it:Addr} (I:Inv X ao σ H s) (k:∀ b o,b≠it->s.heap.get? b=some o->h'.get? b=some o) (hn:H it=none) (hL:it≠X.env.locals)
    (h1:it∈X.ex\/X.s₀.heap.objs.size<=it) (h2:∀ x c,X.env.cells.lookup x=some c->c≠it) (h3:∀ p∈X.pn++ao,p.1≠it):Inv X ao σ H { s with heap:=h',toks:=t' }:=by
  have yp:∀ b u,H b=some u->b≠it:=fun b u e z=>by rw [z,hn] at e; cases e
  refine I.step (g':=s.gens) (d':=s.drawn) (ch:=[it]) (fun b hb=>?_) (fun b o _ _ hc e _=>k b o (fun z=>hc (by simp [z])) e) (fun b o _ _ hc e _=>⟨o.slots,k b o (fun z=>hc (by simp [z])) e⟩) (fun _ _ _ _ n=>n)
    (fun b o hc e=>⟨o,k b o (fun z=>hc (by simp [z])) e⟩) (fun _ _ e=>e) (fun _ _ _ e=>e) (fun b ps e=>⟨#[],by rw [e]; simp⟩) (fun m hm=>?_) (fun b u e=>?_) I.bare
  · have e:b=it:=by simpa using hb
    subst e
    exact ⟨h1,hL,h2,h3⟩
  · obtain ⟨o,es,ep,ho,r⟩:=hm
    exact ⟨o,es,ep,k _ o (dI hL) ho,r⟩
  · refine (I.eW b u e).nZ (fun c v hc q=>k c v ?_ q) (fun _ q=>q) fun _ _ q=>q
    rcases hc with z | z
    · rw [z]; exact yp b u e
    · exact yp c _ z
theorem Inv.tok (I:Inv X ao σ H s) (t:Nat):Inv X ao σ H { s with toks:=t }:=I.un (h':=s.heap) (t':=t) Un.refl I.eW
theorem Inv.kept {t':Nat} (I:Inv X ao σ H s) (k:∀ b u,s.heap.get? b=some u->h'.get? b=some u):Inv X ao σ H { s with heap:=h',toks:=t' }:=I.un (Un.kept k) (I.eW.kept k)
theorem Inv.laid {a:Addr} {o:HO} {t':Nat} (I:Inv X ao σ H s) (k:∀ b u,s.heap.get? b=some u->h'.get? b=some u) (hp:s.heap.objs.size<=a) (new:gF X.prog X.w (aQ H a o) h' a o) :
    Inv X ao σ (aQ H a o) { s with heap:=h',toks:=t' }:=I.un (Un.laid k hp (I.eW.fresh hp)) (I.eW.laid k hp new)
theorem Inv.write {x e:Addr} {o:HO} {t':Nat} (I:Inv X ao σ H s) (mu:E2 (H x)) (he:e=x\/H e=some (.own x)) (k:∀ b u,b≠e->s.heap.get? b=some u->h'.get? b=some u) (BB:∃ u,h'.get? e=some u)
    (new:gF X.prog X.w (aQ H x o) h' x o):Inv X ao σ (aQ H x o) { s with heap:=h',toks:=t' }:=I.un (Un.write mu he k BB) (I.eW.write mu he k BB new)
theorem Inv.vE {yw:List (Addr×Obj)} (I:Inv X ao σ H s) (h:∀ p∈yw,s.heap.get? p.1=some p.2/\H p.1=none/\p.1≠X.env.locals/\p.1 ∉ X.fs/\∀ v,p.2.data≠.cell v):Inv X yw σ H s :=
 ⟨I.ok,I.os,I.bare,I.base,I.loc,I.cell,I.free,I.kD,fun p hp=>(aY.mp hp).elim (fun z=>I.pin p (xm _ z)) (h p),I.eW,I.len⟩
theorem Qv {N:List Str} (hN:N.Nodup) {i j:Nat} {x:Str} (a:N[i]? = some x) (b:N[j]? = some x):i=j:=by
 obtain ⟨h1,e1⟩:=aa.mp a
 obtain ⟨h2,e2⟩:=aa.mp b
 exact (List.getElem_inj hN).mp (e1.trans e2.symm)
theorem PY {M:Model} {A:Around} {E:Value->Shared->Prop} {i:Nat} {x:Str} {v:V} {u:Value} {Q:Unit->Shared->Prop} (I:Inv X ao σ H s) (hN:X.N.Nodup) (hi:X.N[i]? = some x) (hx:Loc X.env.scope x) (r:RelV v u)
    (h:∀ s',Inv X ao (σ.set i (some v)) H s'->(∃ a,Heap.SameBut a s.heap s'.heap/\(a=X.env.locals\/X.env.cells.lookup x=some a))->Q () s') (hf:X.fn x=true\/X.env.scope.names.lookup x=some .local:=by first | exact .inl rfl | exact .inr rfl | assumption):wpAny M A (storeName X.env x u) Q E s:=by
  obtain ⟨m,hn,hl⟩:=id I.loc
  have Kr:(X.env.scope.kind == .class || (X.env.scope.kind == .module && X.env.locals != X.env.globals))=false:=by rw [I.ok.kind]; rfl
  have NW:i < σ.length:=by rw [I.len]; exact (aa.mp hi).1
  have CM:=I.CM
  have vP:∀ {a:Addr} {h':Heap},(∃ o,s.heap.get? a=some o/\H a=none)->Heap.SameBut a s.heap h'->lK X.prog X.w H h':=fun {a h'} ha hs b ob e=>by
    obtain ⟨_,_,BC⟩:=ha
    refine (I.eW b ob e).nZ (fun c w' hc q=>(hs.2 c ?_).trans q) (fun _ q=>q) fun _ _ q=>q
    rintro rfl
    rcases hc with rfl | hc
    · rw [BC] at e; cases e
    · rw [BC] at hc; cases hc
  rcases hx with hk | hk
  · refine wpAny_storeName_local hk hn (fun h' KP hs=>?_) Kr
    obtain ⟨oL,_,_,Ui,_⟩:=id hn
    refine h _ ⟨I.ok,I.os,I.bare,⟨fun b o e n hb hx=>?_,fun b o e n hb hx=>?_,I.base.free,fun b o e hx=>?_,I.base.pM,I.base.nW,I.base.pL⟩,⟨_,KP,fun j y v' e1 e2 e3=>?_⟩,fun y c e=>?_,I.free,I.kD,fun p hp=>?_,vP ⟨oL,Ui,I.free⟩ hs,by simpa using I.len⟩ ⟨_,hs,.inl rfl⟩
    · exact (hs.2 b (bL (bI (Heap.lt_size e) I.ok.above))).trans (I.base.keep b o e n hb hx)
    · obtain ⟨sl,e1⟩:=I.base.slot b o e n hb hx
      exact ⟨sl,(hs.2 b (bL (bI (Heap.lt_size e) I.ok.above))).trans e1⟩
    · obtain ⟨o',e1⟩:=I.base.there b o e hx
      exact ⟨o',(hs.2 b (bL (bI (Heap.lt_size e) I.ok.above))).trans e1⟩
    · by_cases hj:j=i
      · subst hj
        rw [hi] at e1; cases e1
        rw [vg NW] at e2
        cases e2
        exact ⟨u,r,.inl ⟨hk,by simp⟩⟩
      · rw [xj (dI hj)] at e2
        obtain ⟨u',r',q⟩:=hl j y v' e1 e2 e3
        refine ⟨u',r',?_⟩
        rcases q with ⟨k,e⟩ | ⟨k,c,e,z⟩
        · refine .inl ⟨k,?_⟩
          have:y≠x:=fun e=>hj (Qv hN e1 (e ▸ hi))
          simp [this,e]
        · exact .inr ⟨k,c,e,z.sameBut hs (CM y c e)⟩
    · obtain ⟨w',z⟩:=I.cell y c e
      exact ⟨w',z.sameBut hs (CM y c e)⟩
    · obtain ⟨e,n,ne,nf,d⟩:=I.pin p hp
      exact ⟨(hs.2 p.1 ne).trans e,n,ne,nf,d⟩
  · have Kz:X.fn x=true:=by
      rcases hf with z | z
      · exact z
      · rw [z] at hk; cases hk
    obtain ⟨c,hc⟩:=I.ok.has x (.inl hk)
    obtain ⟨w',z⟩:=I.cell x c hc
    refine wpAny_storeName_cell I.ok.kind hk hc z (fun h' NP hs=>?_)
    obtain ⟨oc,N5,KQ⟩:=id z
    refine h { s with heap:=h' } ⟨I.ok,I.os,I.bare,⟨fun b o e n hb hx=>?_,fun b o e n hb hx=>?_,I.base.free,fun b o e hx=>?_,I.base.pM,I.base.nW,I.base.pL⟩,⟨m,hn.sameBut hs (dI (CM x c hc)),fun j y v' e1 e2 e3=>?_⟩,fun y c' e=>?_,I.free,I.kD,fun p hp=>?_,vP ⟨oc,N5,I.kD x c hc⟩ hs,by simpa using I.len⟩ ⟨c,hs,.inr hc⟩
    · exact (hs.2 b (bL (bI (Heap.lt_size e) (I.ok.Fe x c Kz hc)))).trans (I.base.keep b o e n hb hx)
    · obtain ⟨sl,e1⟩:=I.base.slot b o e n hb hx
      exact ⟨sl,(hs.2 b (bL (bI (Heap.lt_size e) (I.ok.Fe x c Kz hc)))).trans e1⟩
    · obtain ⟨o',e1⟩:=I.base.there b o e hx
      exact ⟨o',(hs.2 b (bL (bI (Heap.lt_size e) (I.ok.Fe x c Kz hc)))).trans e1⟩
    · by_cases hj:j=i
      · subst hj
        rw [hi] at e1; cases e1
        rw [vg NW] at e2
        cases e2
        exact ⟨u,r,.inr ⟨.inl hk,c,hc,NP⟩⟩
      · rw [xj (dI hj)] at e2
        obtain ⟨u',r',q⟩:=hl j y v' e1 e2 e3
        refine ⟨u',r',?_⟩
        rcases q with q | ⟨k,c',e,z'⟩
        · exact .inl q
        · refine .inr ⟨k,c',e,z'.sameBut hs ?_⟩
          rintro rfl
          exact hj (Qv hN e1 (I.ok.inj _ _ _ e hc ▸ hi))
    · by_cases NQ:c'=c
      · subst NQ; exact ⟨_,NP⟩
      · obtain ⟨w2,z2⟩:=I.cell y c' e
        exact ⟨w2,z2.sameBut hs NQ⟩
    · obtain ⟨e,n,ne,nf,d⟩:=I.pin p hp
      refine ⟨(hs.2 p.1 ?_).trans e,n,ne,nf,d⟩
      intro q
      rw [q,N5] at e
      have q':oc=p.2:=bE e
      exact d w' (by rw [<- q']; exact KQ)
theorem Jf {M:Model} {A:Around} {E:Value->Shared->Prop} {i:Nat} {x:Str} {v:V} {u:Value} {Q:Unit->Shared->Prop} (I:Inv X ao σ H s) (hN:X.N.Nodup) (hi:X.N[i]? = some x) (hx:Loc X.env.scope x) (r:RelV v u)
    (h:∀ s',Inv X ao (σ.set i (some v)) H s'->Q () s') (hf:X.fn x=true\/X.env.scope.names.lookup x=some .local:=by first | exact .inl rfl | exact .inr rfl | assumption):wpAny M A (storeName X.env x u) Q E s :=
  PY I hN hi hx r (fun s' I' _=>h s' I') hf
theorem Inv.vn {s':Shared} {ch:List Addr} (I:Inv X ao σ H s) (ho:s'.os=s.os) (u:Un (wB X.stack) ch H H' s.heap s'.heap) (eW:lK X.prog X.w H' s'.heap) (hg:AllBare s'.gens)
    (zU:∀ b∈ch,(b∈X.ex\/X.s₀.heap.objs.size<=b)/\b≠X.env.locals/\(∀ x c,X.env.cells.lookup x=some c->c≠b)/\∀ p∈X.pn++ao,p.1≠b):Inv X ao σ H' s':=by
  obtain ⟨h',g',d',t',o'⟩:=s'
  have e:o'=s.os:=ho
  subst e
  exact I.call (g':=g') (t':=t') (d':=d') u eW hg zU
end
abbrev XK:=Value->Option Addr->Hp->Prop
abbrev St:=List (Option V)
abbrev VK:=V->Hp->Prop
abbrev TE:=St->Hp->VK->Prop
abbrev TT:=St->Hp->(Bool->Hp->Prop)->Prop
abbrev TA:=St->Hp->(List V->Hp->Prop)->Prop
structure Ends where
 nx:St->Hp->Prop
 rt:VK
 bk:St->Hp->Prop:=fun _ _=>False
 ct:St->Hp->Prop:=fun _ _=>False
abbrev TS:=Ends->St->Hp->Prop
def EP (X:Cx) (ao:List (Addr×Obj)) (σ:St) (Q:VK) (u:Value) (s':Shared):Prop:=∃ v H',Inv X ao σ H' s'/\RelV v u/\Q v H'
def TP (X:Cx) (ao:List (Addr×Obj)) (σ:St) (Q:Bool->Hp->Prop) (b:Bool) (s':Shared):Prop:=∃ H',Inv X ao σ H' s'/\Q b H'
def AP (X:Cx) (ao:List (Addr×Obj)) (σ:St) (Q:List V->Hp->Prop) (us:List Value) (s':Shared):Prop:=∃ vs H',Inv X ao σ H' s'/\dw vs us/\Q vs H'
def SP (X:Cx) (ao:List (Addr×Obj)) (D:Ends) (f:Flow) (s':Shared):Prop :=
 match f with
 | .next=>∃ σ' H',Inv X ao σ' H' s'/\D.nx σ' H'
 | .brk=>∃ σ' H',Inv X ao σ' H' s'/\D.bk σ' H'
 | .cont=>∃ σ' H',Inv X ao σ' H' s'/\D.ct σ' H'
 | .ret u=>∃ v σ' H',Inv X ao σ' H' s'/\RelV v u/\D.rt v H'
def PE (X:Cx) (e:Expr) (t:TE):Prop :=
 ∀ (ao:List (Addr×Obj)) (s:Shared) (σ:St) (H:Hp) (Q:VK),Inv X ao σ H s->t σ H Q->wpAny (model X.prog X.w) X.A (eval e X.env) (EP X ao σ Q) X.xe s
def PT (X:Cx) (e:Expr) (t:TT):Prop :=
 ∀ (ao:List (Addr×Obj)) (s:Shared) (σ:St) (H:Hp) (Q:Bool->Hp->Prop),Inv X ao σ H s->t σ H Q->wpAny (model X.prog X.w) X.A (isTrue e X.env (eval e X.env)) (TP X ao σ Q) X.xe s
def PW (X:Cx) (e:Expr) (t:TT):Prop :=
 ∀ (jJ:Sem Value) (ao:List (Addr×Obj)) (s:Shared) (σ:St) (H:Hp) (Q:Bool->Hp->Prop),Inv X ao σ H s->t σ H Q->wpAny (model X.prog X.w) X.A (isTrue e X.env jJ) (TP X ao σ Q) X.xe s
theorem PW.pt {X:Cx} {e:Expr} {t:TT} (h:PW X e t):PT X e t:=h _
def PA (X:Cx) (es:List Expr) (t:TA):Prop :=
 ∀ (pos:Pos) (ao:List (Addr×Obj)) (s:Shared) (σ:St) (H:Hp) (Q:List V->Hp->Prop),Inv X ao σ H s->t σ H Q->wpAny (model X.prog X.w) X.A (spliced (backTo pos (starEach es X.env))) (AP X ao σ Q) X.xe s
def PS (X:Cx) (st:Stmt) (t:TS):Prop :=
 ∀ (ao:List (Addr×Obj)) (s:Shared) (σ:St) (H:Hp) (D:Ends),Inv X ao σ H s->t D σ H->wpAny (model X.prog X.w) X.A (exec st X.env) (SP X ao D) X.xe s
def r6 (X:Cx) (st:List Stmt) (t:TS):Prop :=
 ∀ (ao:List (Addr×Obj)) (s:Shared) (σ:St) (H:Hp) (D:Ends),Inv X ao σ H s->t D σ H->wpAny (model X.prog X.w) X.A (execs st X.env) (SP X ao D) X.xe s
theorem fM {α:Type} {t:Sem α} {Q Q':α->Shared->Prop} {M:Model} {A:Around} {E:Value->Shared->Prop} {s:Shared} (h:wpAny M A t Q E s) (hQ:∀ a s,Q a s->Q' a s):wpAny M A t Q' E s:=wpAny_mono h hQ fun _ _ x=>x
section
variable {X:Cx}
def A1 (i:Nat):TE:=fun σ H Q=>∃ v,σ[i]? = some (some v)/\Q v H
def tC (v:V):TE:=fun _ H Q=>Q v H
theorem Yv {i:Nat} {x:Str} {pos:Pos} (hN:X.N[i]? = some x) (hv:JT X.env.scope x) (hd:(x == ("__debug__" : Str))=false:=by decide) (tw:(x == ("__classdict__" : Str))=false:=by decide):PE X (.Name x pos) (A1 i):=by
 intro ao s σ H Q I h
 obtain ⟨v,e,h⟩:=h
 obtain ⟨m,hn,hl⟩:=I.loc
 obtain ⟨u,r,l⟩:=hl i x v hN e hv
 have fin:EP X ao σ Q u s:=⟨v,H,I,r,h⟩
 rcases l with ⟨hk,hm⟩ | ⟨hk,c,hc,lF⟩
 ·exact wpAny_Name (wpAny_loadName_local I.ok.kind hk hn hm fin) hd
 ·rcases hk with hk | hk
  ·exact wpAny_Name (wpAny_loadName_cell I.ok.kind hk hc lF fin) hd
  ·exact wpAny_Name (wpAny_loadName_free I.ok.kind hk hc lF fin tw) hd
theorem bO {i j pos}:PE X (.Constant (.int i) j pos) (tC (.int i)):=fun _ _ _ H _ I h=>wpAny_Constant_int ⟨.int i,H,I.tok _,⟨_,rfl⟩,h⟩
theorem vD {b j pos}:PE X (.Constant (.bool b) j pos) (tC (.bl b)):=fun _ _ _ H _ I h=>Constant_bool ⟨.bl b,H,I,rfl,h⟩
def Gl (X:Cx) (x:Str):Prop:=X.env.kindOf x=some .globalImplicit
theorem Q0 {E:Value->Shared->Prop} {ao:List (Addr×Obj)} {s:Shared} {σ:St} {H:Hp} {x:Str} {u:Value} {pos:Pos} {Q:Value->Shared->Prop} (I:Inv X ao σ H s) (hg:Gl X x) (hm:X.mg x=some u) (h:Q u s)
    (hd:(x == ("__debug__" : Str))=false:=by decide):wpAny (model X.prog X.w) X.A (eval (.Name x pos) X.env) Q E s :=
  Calls.Name_function_global I.ok.kind hg (Calls.loadGlobal_global (by rw [I.ok.glob]; exact I.mod.glob.keeps I.bk) hm h) hd
theorem DQ {E:Value->Shared->Prop} {ao:List (Addr×Obj)} {s:Shared} {σ:St} {H:Hp} {x:Str} {u:Value} {pos:Pos} {Q:Value->Shared->Prop} (I:Inv X ao σ H s) (hg:Gl X x) (hm:X.mg x=none) (hv:bootBuiltins x=some u) (h:Q u s)
    (hn:x ≠ "__name__" := by decide) (hd:(x == ("__debug__" : Str))=false:=by decide):wpAny (model X.prog X.w) X.A (eval (.Name x pos) X.env) Q E s:=by
  obtain ⟨mb,h1,h2⟩:=I.mod.blt
  exact Calls.Name_function_global I.ok.kind hg (Calls.loadGlobal_builtin (by rw [I.ok.glob]; exact I.mod.glob.keeps I.bk) hm (by rw [I.ok.blt]; exact h1.keeps I.bk) ((h2 x hn).trans hv) h) hd
variable {a b:Expr} {ta tb:TE} {pos:Pos}
def tB (t:TE):TT:=fun σ H Q=>t σ H fun x H1=>∃ c,x = .bl c/\Q c H1
theorem qM {e:Expr} {t:TE} (h:PE X e t) (he:∀ jJ,isTrue e X.env jJ=(do let v <- jJ; standAt e.pos; holding [v] (truthy v)):=by intro _; rfl):PT X e (tB t):=by
 intro ao s σ H Q I hw
 refine isTrue_plain (fM (h ao s σ H _ I hw) fun v s1 ⟨x,H1,I1,r1,q1⟩=>?_) (he _)
 obtain ⟨d,rfl,q⟩:=q1
 cases r1
 exact wpAny_truthy_bool ⟨H1,I1,q⟩
variable {tA IG:TT} {rest:List Expr}
def Du (t u:TT):TT:=fun σ H Q=>t σ H fun c H1=>if c=true then u σ H1 Q else Q false H1
def Me (t u:TT):TT:=fun σ H Q=>t σ H fun c H1=>if c=true then Q true H1 else u σ H1 Q
def Dv (t:TT):TT:=fun σ H Q=>t σ H fun c H1=>Q (!c) H1
theorem MF (ha:PT X a tA):PW X (.BoolOp .And [a] pos) tA:=by
 intro wh ao s σ H Q I h
 refine isTrue_and (fM (ha ao s σ H Q I h) fun c s1 e=>?_)
 cases c with
 | true=>exact isTrue_and_nil e
 | false=>exact e
theorem Yw (ha:PT X a tA):PW X (.BoolOp .Or [a] pos) tA:=by
 intro wh ao s σ H Q I h
 refine isTrue_or (fM (ha ao s σ H Q I h) fun c s1 e=>?_)
 cases c with
 | false=>exact isTrue_or_nil e
 | true=>exact e
theorem Ju (ha:PT X a tA) (hb:PW X (.BoolOp .And (b :: rest) pos) IG):PW X (.BoolOp .And (a :: b :: rest) pos) (Du tA IG):=by
 intro wh ao s σ H Q I h
 refine isTrue_and (fM (ha ao s σ H _ I h) fun c s1 ⟨H1,I1,q1⟩=>?_)
 cases c with
 | true=>exact hb wh ao s1 σ H1 Q I1 q1
 | false=>exact ⟨H1,I1,q1⟩
theorem pw_or (ha:PT X a tA) (hb:PW X (.BoolOp .Or (b :: rest) pos) IG):PW X (.BoolOp .Or (a :: b :: rest) pos) (Me tA IG):=by
 intro wh ao s σ H Q I h
 refine isTrue_or (fM (ha ao s σ H _ I h) fun c s1 ⟨H1,I1,q1⟩=>?_)
 cases c with
 | true=>exact ⟨H1,I1,q1⟩
 | false=>exact hb wh ao s1 σ H1 Q I1 q1
theorem EM (ha:PT X a tA):PT X (.UnaryOp .Not a pos) (Dv tA):=by
 intro ao s σ H Q I h
 exact isTrue_not (ha ao s σ H (fun c H1=>Q (!c) H1) I h)
def B3 (ta tb:TE):TE:=fun σ H Q=>ta σ H fun x H1=>∃ c,x = .bl c/\if c=true then tb σ H1 Q else Q (.bl false) H1
def G7 (ta tb:TE):TE:=fun σ H Q=>ta σ H fun x H1=>∃ c,x = .bl c/\if c=true then Q (.bl true) H1 else tb σ H1 Q
def yS (ta:TE):TE:=fun σ H Q=>ta σ H fun x H1=>∃ c,x = .bl c/\Q (.bl (!c)) H1
theorem Yx (ha:PE X a ta):PE X (.UnaryOp .Not a pos) (yS ta):=by
 intro ao s σ H Q I h
 refine UnaryOp_ (fM (ha ao s σ H _ I h) fun v s1 ⟨x,H1,I1,r1,q1⟩=>?_)
 obtain ⟨c,rfl,q1⟩:=q1
 cases r1
 exact not_of (wpAny_truthy_bool ⟨.bl (!c),H1,I1,rfl,q1⟩)
def Mc (t:TT) (ta tb:TE):TE:=fun σ H Q=>t σ H fun c H1=>if c=true then ta σ H1 Q else tb σ H1 Q
theorem Qw {c:Expr} (hc:PT X c tA) (ha:PE X a ta) (hb:PE X b tb):PE X (.IfExp c a b pos) (Mc tA ta tb):=by
 intro ao s σ H Q I h
 refine wpAny_IfExp (fM (hc ao s σ H _ I h) fun d s1 ⟨H1,I1,q1⟩=>?_)
 cases d with
 | true=>exact ha ao s1 σ H1 Q I1 q1
 | false=>exact hb ao s1 σ H1 Q I1 q1
end
def gR (K:ai) (H:Hp) (a:Addr) (xs:List V):Prop :=
 Rd H a (.lst xs) \/
  ∃ (o:Obj) (dJ:Array Value) (n:Nat),K.lookup a=some o/\o.cls = .type "list" /\ o.dict=none/\o.data = .seq dJ n/\dJ.size<=sizeLine/\dw xs dJ.toList
def sN (K:ai) (H:Hp) (a:Addr) (xs:List V):Prop :=
 Rd H a (.tup xs) \/
  ∃ (o:Obj) (dJ:Array Value) (n:Nat),K.lookup a=some o/\o.cls = .type "tuple" /\ o.data = .seq dJ n/\dJ.size<=sizeLine/\dw xs dJ.toList
def JV:Value->Option V
 | .none=>some .iJ
 | .bool b=>some (.bl b)
 | .int i _=>some (.int i)
 | .str x _=>some (.str x)
 | .bytes b _=>some (.vm b)
 | .float b _=>some (.wz b)
 | .ref a=>some (.ref a)
 | .type n=>some (.ty n)
 | _=>none
theorem RelV.abs {x:V} {u:Value} (r:RelV x u):JV u=some x:=by
 cases x with
 | iJ=>cases r; rfl
 | bl _=>cases r; rfl
 | int _=>obtain ⟨t,rfl⟩:=r; rfl
 | str _=>obtain ⟨t,rfl⟩:=r; rfl
 | vm _=>obtain ⟨t,rfl⟩:=r; rfl
 | wz _=>obtain ⟨t,rfl⟩:=r; rfl
 | ref _=>cases r; rfl
 | ty _=>cases r; rfl
theorem RelV.inj {x y:V} {u:Value} (r:RelV x u) (q:RelV y u):x=y:=bE (r.abs.symm.trans q.abs)
theorem dw.inj:∀ {xs ys:List V} {us:List Value},dw xs us->dw ys us->xs=ys
 | _,_,_,.nil,.nil=>rfl
 | _,_,_,.cons r t,.cons r' t'=>by rw [r.inj r',dw.inj t t']
section
variable {X:Cx} {ao:List (Addr×Obj)} {σ:St} {H:Hp} {s:Shared} {a:Addr} {xs ys:List V}
theorem gR.of {K:ai} (h:H a=some (.lst xs)):gR K H a xs:=.inl (.inl h)
theorem sN.of {K:ai} (h:H a=some (.tup xs)):sN K H a xs:=.inl (.inl h)
theorem Inv.list (I:Inv X ao σ H s) (h:gR X.K H a xs):∃ dJ:List Value,dw xs dJ/\PlainL s.heap a dJ.toArray/\xs.length<=sizeLine:=by
 rcases h with h | ⟨o,dJ,n,hk,hc,hd,hs,hz,r⟩
 ·obtain ⟨z,dJ,n,r,e⟩:=h.ok I.eW
  exact ⟨dJ,r,⟨_,n,e,rfl,rfl,rfl⟩,z⟩
 ·refine ⟨dJ.toList,r,⟨o,n,I.vz a o hk,hc,hd,by simpa using hs⟩,?_⟩
  have e:=r.length
  simp only [w6] at e
  omega
theorem Inv.tuple (I:Inv X ao σ H s) (h:sN X.K H a xs):∃ dJ:List Value,dw xs dJ/\IsTup s.heap a dJ.toArray/\xs.length<=sizeLine:=by
 rcases h with h | ⟨o,dJ,n,hk,hc,hs,hz,r⟩
 ·obtain ⟨z,dJ,r,p⟩:=h.ok I.eW
  exact ⟨dJ,r,p,z⟩
 ·refine ⟨dJ.toList,r,⟨o,I.vz a o hk,hc,n,by simpa using hs⟩,?_⟩
  have e:=r.length
  simp only [w6] at e
  omega
theorem Inv.mF (I:Inv X ao σ H s) (h:gR X.K H a xs) (h':gR X.K H a ys):xs=ys:=by
 obtain ⟨dJ,r,⟨o,n,e,_,_,d⟩,_⟩:=I.list h
 obtain ⟨its',r',⟨o',n',e',_,_,d'⟩,_⟩:=I.list h'
 rw [e] at e'; cases e'
 rw [d] at d'
 injection d' with d1 _
 have:dJ=its':=by simpa using congrArg Array.toList d1
 subst this
 exact r.inj r'
end
abbrev Cx.qd (X:Cx) (E:Value->Shared->Prop):Cx:={ X with xe:=E }
abbrev Cx.zZ (X:Cx):Cx:=X.qd fun _ _=>False
theorem Cx.Ok.qd {X:Cx} (ok:X.Ok) (E:Value->Shared->Prop):(X.qd E).Ok :=
 ⟨ok.mod,ok.kind,ok.glob,ok.blt,ok.above,ok.inj,ok.has,ok.Fe,ok.hd,ok.frames,ok.IE,ok.Bu,ok.bs,ok.xQ,ok.wI,ok.uI,ok.nX,ok.CS⟩
theorem Cx.Ok.kN {X:Cx} {E:Value->Shared->Prop} (ok:(X.qd E).Ok):X.Ok :=
 ⟨ok.mod,ok.kind,ok.glob,ok.blt,ok.above,ok.inj,ok.has,ok.Fe,ok.hd,ok.frames,ok.IE,ok.Bu,ok.bs,ok.xQ,ok.wI,ok.uI,ok.nX,ok.CS⟩
section
variable {X:Cx} {ao:List (Addr×Obj)} {σ:St} {H:Hp} {s:Shared} {E:Value->Shared->Prop}
theorem Inv.qd (I:Inv X ao σ H s) (E:Value->Shared->Prop):Inv (X.qd E) ao σ H s:=⟨I.ok.qd E,I.os,I.bare,I.base,I.loc,I.cell,I.free,I.kD,I.pin,I.eW,I.len⟩
theorem Inv.kN (I:Inv (X.qd E) ao σ H s):Inv X ao σ H s:=⟨I.ok.kN,I.os,I.bare,I.base,I.loc,I.cell,I.free,I.kD,I.pin,I.eW,I.len⟩
theorem SP.kN {D:Ends} {f:Flow} {s':Shared} (h:SP (X.qd E) ao D f s'):SP X ao D f s':=by
 cases f with
 | next=>obtain ⟨σ',H',I,q⟩:=h; exact ⟨σ',H',I.kN,q⟩
 | brk=>obtain ⟨σ',H',I,q⟩:=h; exact ⟨σ',H',I.kN,q⟩
 | cont=>obtain ⟨σ',H',I,q⟩:=h; exact ⟨σ',H',I.kN,q⟩
 | ret u=>obtain ⟨v,σ',H',I,r,q⟩:=h; exact ⟨v,σ',H',I.kN,r,q⟩
theorem r6.zZ {st:List Stmt} {t:TS} (h:r6 X.zZ st t):r6 X st t:=fun ao s σ H D I hw =>
 wpAny_mono (h ao s σ H D (I.qd _) hw) (fun _ _ q=>q.kN) fun _ _ z=>bV z
end
section
variable {X:Cx} {st:Stmt} {rest:List Stmt} {t u:TS} {e:Expr} {te:TE} {pos:Pos}
def yQ:TS:=fun D σ H=>D.nx σ H
def fU (t u:TS):TS:=fun D σ H=>t { D with nx:=u D } σ H
theorem pR:r6 X [] yQ:=fun _ _ σ H _ I h=>wpAny_execs_nil ⟨σ,H,I,h⟩
theorem c7 (h1:PS X st t) (h2:r6 X rest u):r6 X (st :: rest) (fU t u):=by
 intro ao s σ H D I h
 refine wpAny_execs_cons (fM (h1 ao s σ H { D with nx:=u D } I h) fun f s1 q=>?_)
 cases f with
 | next =>
  obtain ⟨σ',H',I',q⟩:=q
  exact h2 ao s1 σ' H' D I' q
 | ret v=>exact q
 | brk=>exact q
 | cont=>exact q
theorem fL (h1:PS X st t):r6 X [st] t:=by
 intro ao s σ H D I h
 refine wpAny_execs_cons (fM (h1 ao s σ H D I h) fun f s1 q=>?_)
 cases f with
 | next=>exact wpAny_execs_nil q
 | ret v=>exact q
 | brk=>exact q
 | cont=>exact q
def G2:TS:=fun D σ H=>D.ct σ H
theorem VR:PS X (.Continue pos) G2:=fun _ _ σ H _ I h=>wpAny_Continue ⟨σ,H,I,h⟩
theorem Inv.quiet {ao:List (Addr×Obj)} {σ:St} {H:Hp} {s:Shared} (I:Inv X ao σ H s):interactive X.env=false:=by simp [interactive,I.ok.kind]
def yP (te:TE):TS:=fun D σ H=>te σ H fun _ H1=>D.nx σ H1
theorem xz (he:PE X e te) (hs:swapsWith e none pos.line X.env=pure false:=by rfl):PS X (.Expr e pos) (yP te):=by
 intro ao s σ H D I h
 exact wpAny_Expr_any (fM (he ao s σ H _ I h) fun v s1 ⟨x,H1,I1,r1,q1⟩=>⟨σ,H1,I1,q1⟩) I.quiet hs
def oh (te:TE):TS:=fun D σ H=>te σ H D.rt
theorem jy (he:PE X e te):PS X (.Return (some e) pos) (oh te):=by
 intro ao s σ H D I h
 exact wpAny_Return_some (fM (he ao s σ H _ I h) fun v s1 ⟨x,H1,I1,r1,q1⟩=>⟨x,σ,H1,I1,r1,q1⟩)
def B6:TS:=fun D _ H=>D.rt .iJ H
def u6 (c:TT) (t u:TS):TS:=fun D σ H=>c σ H fun b H1=>if b=true then t D σ H1 else u D σ H1
theorem gy {c:Expr} {a b:List Stmt} {tc:TT} (hc:PT X c tc) (ha:r6 X a t) (hb:r6 X b u):PS X (.If c a b pos) (u6 tc t u):=by
 intro ao s σ H D I h
 refine wpAny_If (fM (hc ao s σ H _ I h) fun d s1 ⟨H1,I1,q1⟩=>?_)
 cases d with
 | true=>exact ha ao s1 σ H1 D I1 q1
 | false=>exact hb ao s1 σ H1 D I1 q1
def Yy:TS:=fun _ _ _=>False
theorem Qx:PS X st Yy:=fun _ _ _ _ _ _ h=>h.elim
end
abbrev TG:=V->St->Hp->(St->Hp->Prop)->Prop
abbrev Bm:=List V->St->Hp->(St->Hp->Prop)->Prop
def PG (X:Cx) (cY:Expr) (t:TG):Prop :=
 ∀ (ao:List (Addr×Obj)) (s:Shared) (σ:St) (H:Hp) (v:V) (u:Value) (Q:St->Hp->Prop),Inv X ao σ H s->RelV v u->t v σ H Q ->
  wpAny (model X.prog X.w) X.A (assign cY X.env u) (fun _ s'=>∃ σ' H',Inv X ao σ' H' s'/\Q σ' H') X.xe s
def E5 (X:Cx) (ts:List Expr) (t:Bm):Prop :=
 ∀ (ao:List (Addr×Obj)) (s:Shared) (σ:St) (H:Hp) (vs:List V) (us:List Value) (Q:St->Hp->Prop),Inv X ao σ H s->dw vs us->t vs σ H Q ->
  wpAny (model X.prog X.w) X.A (assignInOrder ((assignEach ts X.env).map (·.2)) us) (fun _ s'=>∃ σ' H',Inv X ao σ' H' s'/\Q σ' H') X.xe s
abbrev CH:=V->V->V->Hp->(Hp->Prop)->Prop
def E6 (X:Cx) (t:CH):Prop :=
 ∀ (ao:List (Addr×Obj)) (s:Shared) (σ:St) (H:Hp) (o i v:V) (ov iv u:Value) (Q:Hp->Prop),Inv X ao σ H s->RelV o ov->RelV i iv->RelV v u->t o i v H Q ->
  wpAny (model X.prog X.w) X.A (setItem ov iv u) (fun _ s'=>∃ H',Inv X ao σ H' s'/\Q H') X.xe s
section
variable {X:Cx} {pos:Pos}
def nF (i:Nat):TG:=fun v σ H Q=>Q (σ.set i (some v)) H
theorem gu {i:Nat} {x:Str} (hN:X.N.Nodup) (hi:X.N[i]? = some x) (hx:Loc X.env.scope x) (hf:X.fn x=true\/X.env.scope.names.lookup x=some .local:=by first | exact .inl rfl | exact .inr rfl | assumption):PG X (.Name x pos) (nF i):=by
 intro ao s σ H v u Q I r h
 exact wpAny_assign_Name (Jf I hN hi hx r (fun s' I'=>⟨_,H,I',h⟩) hf)
def CT:Bm:=fun vs σ H Q=>vs = []/\Q σ H
def ya (t:TG) (u:Bm):Bm:=fun vs σ H Q=>∃ v r,vs=v :: r/\t v σ H fun σ' H'=>u r σ' H' Q
theorem qh:E5 X [] CT:=by
 intro ao s σ H vs us Q I r h
 obtain ⟨e,h⟩:=h
 subst e
 cases r
 exact assignInOrder_nil ⟨σ,H,I,h⟩
theorem iT {e:Expr} {es:List Expr} {t:TG} {u:Bm} (h1:PG X e t) (h2:E5 X es u)
    (hs:(assignEach (e :: es) X.env).map (·.2)=assign e X.env :: (assignEach es X.env).map (·.2):=by rfl):E5 X (e :: es) (ya t u):=by
  intro ao s σ H vs us Q I r h
  obtain ⟨v,vr,e1,h⟩:=h
  subst e1
  cases r with
  | cons r rr =>
    rw [hs]
    refine assignInOrder_cons (fM (h1 ao s σ H _ _ _ I r h) fun _ s1 ⟨σ1,H1,I1,q1⟩=>?_)
    exact h2 ao s1 σ1 H1 _ _ Q I1 rr q1
def At (K:ai) (n:Nat) (t:Bm):TG:=fun v σ H Q=>∃ a xs,v = .ref a/\sN K H a xs/\xs.length=n/\t xs σ H Q
theorem Yz {es:List Expr} {k:Nat} {t:Bm} {n:Nat} (hc:X.calm=true) (h:E5 X es t)
    (hn:(assignEach es X.env).length=n:=by rfl) (Ge:(assignEach es X.env).findIdx? (·.1)=none:=by rfl):PG X (.Tuple es k pos) (At X.K n t):=by
  intro ao s σ H v u Q I r hw
  obtain ⟨a,xs,e1,hq,hl,hw⟩:=hw
  subst e1
  cases r
  obtain ⟨dJ,rv,ht,hz⟩:=I.tuple hq
  refine assign_Tuple_tuple (I.ok.hd hc) ht (by simp [hn,<- hl,rv.length]) Ge fun h' hx=>?_
  have I1:Inv X ao σ H { s with heap:=h' }:=I.kept (t':=s.toks) fun b o e=>hx b o (bL (Heap.lt_size e)) e
  exact h ao _ σ H xs _ Q I1 (by simpa using rv) hw
def FA (to ti:TE) (t:CH):TG:=fun v σ H Q=>to σ H fun o H1=>ti σ H1 fun i H2=>t o i v H2 fun H3=>Q σ H3
theorem YA {o i:Expr} {to ti:TE} {t:CH} (ho:PE X o to) (hi:PE X i ti) (hs:E6 X t)
    (ha:∀ v,assign (.Subscript o i pos) X.env v=(do
      let ov <- holding [v] (eval o X.env)
      let iv <- holding [v,ov] (eval i X.env)
      standAt pos
      holding [v,ov,iv] (setItem ov iv v)
      release [v,ov,iv] []):=by intro _; rfl):PG X (.Subscript o i pos) (FA to ti t):=by
  intro ao s σ H v u Q I r h
  rw [ha]
  refine wpAny_bind (wpAny_holding (fM (ho ao s σ H _ I h) fun ov s1 ⟨x,H1,I1,r1,q1⟩=>?_))
  refine wpAny_bind (wpAny_holding (fM (hi ao s1 σ H1 _ I1 q1) fun iv s2 ⟨y,H2,I2,r2,q2⟩=>?_))
  refine wpAny_bind (wpAny_standAt (wpAny_bind (wpAny_holding (fM (hs ao s2 σ H2 x y v ov iv u _ I2 r1 r2 r q2) fun _ s3 ⟨H3,I3,q3⟩=>?_))))
  exact wpAny_release ⟨σ,H3,I3,q3⟩
def ny (te:TE) (g:TG):TS:=fun D σ H=>te σ H fun x H1=>g x σ H1 D.nx
theorem MR {tg e:Expr} {te:TE} {g:TG} (he:PE X e te) (hg:PG X tg g) (hs:swapsWithSole [tg] e pos.line X.env=pure false:=by rfl) (hw:swappedStores [tg] e X.env=pure none:=by rfl)
    (h1:(assignEach [tg] X.env).map (·.2) = [assign tg X.env]:=by rfl):PS X (.Assign [tg] e pos) (ny te g):=by
  intro ao s σ H D I h
  refine wpAny_Assign_stores (fM (he ao s σ H _ I h) fun v s1 ⟨x,H1,I1,r1,q1⟩=>?_) hs hw
  rw [h1]
  exact fM (hg ao s1 σ H1 x v _ I1 r1 q1) fun _ s2 q=>q
theorem RT {i:Nat} {x:Str} {e:Expr} {te:TE} {lP:Pos} (hN:X.N.Nodup) (hi:X.N[i]? = some x) (hx:Loc X.env.scope x) (he:PE X e te) (hs:swapsWith e (some (.Name x lP)) pos.line X.env=pure false:=by rfl) (hf:X.fn x=true\/X.env.scope.names.lookup x=some .local:=by first | exact .inl rfl | exact .inr rfl | assumption) :
    PS X (.Assign [.Name x lP] e pos) (ny te (nF i)):=by
  intro ao s σ H D I h
  refine wpAny_Assign_Name (fM (he ao s σ H _ I h) fun v s1 ⟨y,H1,I1,r1,q1⟩=>?_) hs
  exact Jf I1 hN hi hx r1 (fun s2 I2=>⟨_,H1,I2,q1⟩) hf
def Dy (i j:Nat) (ta:TA):TS:=fun D σ H=>ta σ H fun vs H1=>∃ v w,vs = [v,w]/\D.nx ((σ.set i (some v)).set j (some w)) H1
theorem YB {i j:Nat} {x y:Str} {a b:Expr} {ta:TA} {px py pt:Pos} {kt k2 LI} (hc:X.calm=true) (hN:X.N.Nodup) (hi:X.N[i]? = some x) (hj:X.N[j]? = some y) (KG:i≠j)
    (hx:X.env.scope.names.lookup x=some .local) (hy:X.env.scope.names.lookup y=some .local) (ha:PA X [a,b] ta)
    (hw:swappedStores [.Tuple [.Name x px,.Name y py] kt pt] (.Tuple [a,b] k2 LI) X.env=pure (some [x,y]))
    (hs:swapsWithSole [.Tuple [.Name x px,.Name y py] kt pt] (.Tuple [a,b] k2 LI) pos.line X.env=pure false:=by rfl) :
    PS X (.Assign [.Tuple [.Name x px,.Name y py] kt pt] (.Tuple [a,b] k2 LI) pos) (Dy i j ta):=by
  intro ao s σ H D I h
  rw [exec_Assign_arm]
  refine wpAny_bind (wpAny_standAt ?_)
  rw [hs]
  refine wpAny_bind (wpAny_pure ?_)
  rw [if_neg (by decide)]
  refine wpAny_bind (Tuple_ (fM (ha _ ao s σ H _ I h) fun us s1 ⟨vs,H1,I1,r1,q1⟩=>?_))
  obtain ⟨v,w,e1,q1⟩:=q1
  subst e1
  obtain ⟨u1,u2,rfl,rv,Dq⟩:∃ u1 u2,us = [u1,u2]/\RelV v u1/\RelV w u2:=by
    cases r1 with
    | cons p q =>
      cases q with
      | cons p' q' =>
        cases q'
        exact ⟨_,_,rfl,p,p'⟩
  refine wpAny_newObj_type ?_ (by show 2<=sizeLine; decide)
  have I2:Inv X ao σ H1 { s1 with heap:=s1.heap.push { cls:=.type "tuple", data:=.seq [u1,u2].toArray } }:=I1.kept (t':=s1.toks) fun b o e=>Heap.get?_push_of_some _ e
  rw [hw]
  refine wpAny_bind (wpAny_pure ?_)
  show wpAny (model X.prog X.w) X.A (do rule "assign.swapped-stores"; let items <- unpackItems (.ref s1.heap.objs.size) 2 none; assignInOrder [fun v=>bindName X.env y v,fun v=>bindName X.env x v] items.reverse; pure Flow.next) _ _ _
  refine wpAny_bind (wpAny_rule (wpAny_bind (unpackItems_tuple (items:=#[u1,u2]) (I.ok.hd hc) (IsTup.new s1.heap _) fun h' Od=>?_)))
  have I3:=I2.kept (h':=h') (t':=s1.toks) fun b o e=>Od b o (bL (Heap.lt_size e)) e
  show wpAny _ _ (assignInOrder [fun v=>bindName X.env y v,fun v=>bindName X.env x v] [u2,u1] >>= fun _=>pure Flow.next) _ _ _
  refine wpAny_bind (assignInOrder_cons (wpAny_bindName (Jf I3 hN hj (.inl hy) Dq (fun s2 I4=>?_) (.inr hy))))
  refine assignInOrder_cons (wpAny_bindName (Jf I4 hN hi (.inl hx) rv (fun s3 I5=>assignInOrder_nil (wpAny_pure ?_)) (.inr hx)))
  rw [List.set_comm _ _ (dI KG)] at I5
  exact ⟨_,H1,I5,q1⟩
end
section
variable {X:Cx} {pos:Pos}
def Jv (c:TT) (tb:TS):TS:=fun D σ H=>∃ W:Nat->St->Hp->Prop,(∃ m,W m σ H)/\∀ m σ H,W m σ H ->
 c σ H fun b H1=>if b=true then ∃ N:St->Hp->Prop,(∀ σ' H',N σ' H'->∃ m',m' < m/\W m' σ' H')/\tb { D with nx:=N,ct:=N,bk:=D.nx } σ H1 else D.nx σ H1
theorem Hv {c:Expr} {body:List Stmt} {tc:TT} {tb:TS} (hp:PassesOwn (model X.prog X.w) X.A X.env X.xe) (hc:PT X c tc) (hb:r6 X body tb):PS X (.While c body [] pos) (Jv tc tb):=by
 intro ao s σ H D I h
 obtain ⟨W,⟨m0,w0⟩,pN⟩:=h
 refine wpAny_While (codeAny_whileLoop (fun n s'=>∃ σ' H',Inv X ao σ' H' s'/\W n σ' H') ?_ m0 ⟨σ,H,I,w0⟩)
 rintro n s1 ⟨σ1,H1,I1,w1⟩
 refine wpAny_passesOwn hp (fM (hc ao s1 σ1 H1 _ I1 (pN n σ1 H1 w1)) fun b s2 ⟨H2,I2,q2⟩=>?_)
 cases b with
 | true =>
  obtain ⟨N,hN,q2⟩:=q2
  rw [if_pos rfl]
  refine wpAny_passesOwn hp (fM (hb ao s2 σ1 H2 _ I2 q2) fun f s3 q3=>?_)
  cases f with
  | next =>
   obtain ⟨σ3,H3,I3,n3⟩:=q3
   obtain ⟨m',hm,w3⟩:=hN σ3 H3 n3
   exact ⟨m',hm,σ3,H3,I3,w3⟩
  | cont =>
   obtain ⟨σ3,H3,I3,n3⟩:=q3
   obtain ⟨m',hm,w3⟩:=hN σ3 H3 n3
   exact ⟨m',hm,σ3,H3,I3,w3⟩
  | brk=>exact q3
  | ret v=>exact q3
 | false =>
  rw [if_neg bC]
  exact wpAny_execs_nil ⟨σ1,H2,I2,q2⟩
end
structure It where
 go:Nat->Hp->Prop
 A5:Nat->Hp->V->Hp->Prop
 stop:Nat->Hp->Prop
def l7 (X:Cx) (ao:List (Addr×Obj)) (H:Hp) (b:Addr):Prop :=
 H b=none/\b≠X.env.locals/\b ∉ X.fs/\(b∈X.ex\/X.s₀.heap.objs.size<=b)/\(∀ x c,X.env.cells.lookup x=some c->c≠b)/\∀ p∈X.pn++ao,p.1≠b
theorem Inv.wA {X:Cx} {ao:List (Addr×Obj)} {σ:St} {H H':Hp} {s:Shared} {b:Addr} (I:Inv X ao σ H s) (hb:s.heap.objs.size<=b) (hn:H' b=none):l7 X ao H' b:=by
 refine ⟨hn,wd (bI I.lt hb),I.Ly hb,.inr (cK I.sz hb),fun x c e z=>?_,fun p hp z=>?_⟩
 ·obtain ⟨v,q⟩:=I.cell x c e
  exact absurd (bI q.lt (by rw [z]; exact hb)) (g6 _)
 ·exact absurd (bI (Heap.lt_size (I.pin p hp).1) (by rw [z]; exact hb)) (g6 _)
structure wo (P:Program) (w:World) (K:ai) (tg:Expr) (J:It) (fp:List Addr) (it:Addr) (tn:Nat->Heap->Prop):Prop where
 mem:it∈fp
 obj:∀ i h,tn i h->∀ b∈fp,∃ o,h.get? b=some o/\∀ v,o.data≠.cell v
 keep:∀ i h h',tn i h->(∀ b∈fp,∀ o,h.get? b=some o->h'.get? b=some o)->tn i h'
 item:∀ (X:Cx),X.prog=P->X.w=w->X.K=K->X.calm=true->∀ (i:Nat) (ao:List (Addr×Obj)) (s:Shared) (σ:St) (H:Hp) (E:Value->Shared->Prop),Inv X ao σ H s->(∀ b∈fp,l7 X ao H b)->tn i s.heap->J.go i H ->
  wpAny (model P w) X.A (pyNext (.ref it)) (fun r s1=>∃ u,r=some u /\
   wpAny (model P w) X.A (letOwnedTupleGo tg (.ref it) u) (fun _ s2=>∃ x H',Inv X ao σ H' s2/\RelV x u/\J.A5 i H x H'/\tn (i+1) s2.heap/\∀ b∈fp,H' b=none) E s1) E s
 done:∀ (X:Cx),X.prog=P->X.w=w->X.K=K->X.calm=true->∀ (i:Nat) (ao:List (Addr×Obj)) (s:Shared) (σ:St) (H:Hp) (E:Value->Shared->Prop),Inv X ao σ H s->(∀ b∈fp,l7 X ao H b)->tn i s.heap->J.stop i H ->
  wpAny (model P w) X.A (pyNext (.ref it)) (fun r s1=>r=none/\Inv X ao σ H s1) E s
 self:∀ (A:Around) (i:Nat) (s:Shared) (Q:Value->Shared->Prop) (E:Value->Shared->Prop),tn i s.heap->Q (.ref it) s->wpAny (model P w) A (pyIter (.ref it)) Q E s
abbrev TI:=St->Hp->(It->Hp->Prop)->Prop
def Ng (X:Cx) (ao:List (Addr×Obj)) (σ:St) (tg:Expr) (R:It->Hp->Prop) (Gk:Value) (s2:Shared):Prop :=
 ∃ (it:Addr) (fp:List Addr) (tn:Nat->Heap->Prop) (J:It) (H':Hp),Gk = .ref it/\Inv X ao σ H' s2/\wo X.prog X.w X.K tg J fp it tn/\tn 0 s2.heap/\(∀ b∈fp,l7 X ao H' b)/\R J H'
def PI (X:Cx) (tg fO:Expr) (wi:TI):Prop :=
 ∀ (ao:List (Addr×Obj)) (s:Shared) (σ:St) (H:Hp) (R:It->Hp->Prop),Inv X ao σ H s->wi σ H R ->
  wpAny (model X.prog X.w) X.A (eval fO X.env) (fun v s1=>wpAny (model X.prog X.w) X.A (pyIter v) (Ng X ao σ tg R) X.xe s1) X.xe s
theorem yb {M:Model} {A:Around} {E:Value->Shared->Prop} {s:Shared} {tg:Expr} {it:Addr} {u:Value} {o:Obj} {n:String} {vs:Array Value} {Q:Unit->Shared->Prop} (ho:s.heap.get? it=some o) (hc:o.cls = .type n) (hd:o.data = .fields vs)
    (hn:["enumerate", "zip", "dict_itemiterator", "dict_reverseitemiterator", "odict_iterator", "itertools.zip_longest", "itertools.pairwise"].contains n=false) (hQ:Q () s):wpAny M A (letOwnedTupleGo tg (.ref it) u) Q E s:=by
  unfold letOwnedTupleGo
  cases tg <;> first
    | exact wpAny_pure hQ
    | (cases u <;> first
        | exact wpAny_pure hQ
        | (refine wpAny_bind (wpAny_load ho ?_)
           rw [hc,hd]
           show wpAny M A (if (["enumerate", "zip", "dict_itemiterator", "dict_reverseitemiterator", "odict_iterator", "itertools.zip_longest", "itertools.pairwise"].contains n && vs[0]? == some (rawInt _))=true then _ else _) Q E s
           rw [if_neg (by intro h; rw [hn,Bool.false_and] at h; cases h)]
           exact wpAny_pure hQ))
def Cv (K:ai) (a:Addr):It :=
 ⟨fun i H=>∃ xs x,gR K H a xs/\xs[i]? = some x,fun i H x H'=>H'=H/\∀ xs,gR K H a xs->xs[i]? = some x,fun i H=>∃ xs,gR K H a xs/\xs.length<=i⟩
def SI (K:ai) (a:Addr):It :=
 ⟨fun i H=>∃ xs x,sN K H a xs/\xs[i]? = some x,fun i H x H'=>H'=H/\∀ xs,sN K H a xs->xs[i]? = some x,fun i H=>∃ xs,sN K H a xs/\xs.length<=i⟩
def Bd (lo:Int) (n:Nat):It:=⟨fun i _=>i<n,fun i H x H'=>H'=H/\x = .int (lo+i),fun i _=>n<=i⟩
theorem Wk {P:Program} {w:World} {K:ai} {tg:Expr} (a it:Addr):wo P w K tg (Cv K a) [it] it (fun i h=>h.IsListIter it a i) where
 mem:=by simp
 obj:=fun i h st b hb=>by
  have e:b=it:=by simpa using hb
  subst e
  obtain ⟨o,e,c,d⟩:=st
  exact ⟨o,e,fun v z=>by rw [d] at z; cases z⟩
 keep:=fun i h h' st k=>st.at fun o e=>k it (by simp) o e
 item:=by
  intro X hP hw hK hc i ao s σ H E I hf st hg
  subst hP hw hK
  obtain ⟨xs,x,hq,hx⟩:=hg
  obtain ⟨dJ,rv,p,hz⟩:=I.list hq
  obtain ⟨u,hu,ru⟩:=rv.get hx
  obtain ⟨f0,f1,f2,f3,f4,f5⟩:=hf it (by simp)
  refine wpAny_pyNext_list_item st p.isList (x:=u) (by simpa using hu) fun h' AX sb=>?_
  have I1:Inv X ao σ H { s with heap:=h' }:=I.turned (t':=s.toks) (fun b o hb e=>(sb.2 b hb).trans e) f0 f1 f3 f4 f5
  obtain ⟨o,e,c,d⟩:=id AX
  exact ⟨u,rfl,yb (s:={ s with heap:=h' }) e c d (by decide) ⟨x,H,I1,ru,⟨rfl,fun ys hy=>by rw [I.mF hy hq]; exact hx⟩,AX,fun b hb=>(hf b hb).1⟩⟩
 done:=by
  intro X hP hw hK hc i ao s σ H E I hf st hg
  subst hP hw hK
  obtain ⟨xs,hq,hx⟩:=hg
  obtain ⟨dJ,rv,p,hz⟩:=I.list hq
  obtain ⟨f0,f1,f2,f3,f4,f5⟩:=hf it (by simp)
  have hl:=rv.length
  exact wpAny_pyNext_list_end (I.ok.hd hc) st p.isList (by simp; omega) fun h' eb=>⟨rfl,I.turned (t':=s.toks) (fun b o hb e=>eb b o hb e) f0 f1 f3 f4 f5⟩
 self:=fun _ _ _ _ _ st h=>wpAny_pyIter_listiter st h
theorem VZ {P:Program} {w:World} {K:ai} {tg:Expr} (it:Addr) (lo:Int) (n:Nat):wo P w K tg (Bd lo n) [it] it (fun i h=>IsRangeIter h it (lo+(i:Nat)*1) ((n:Int)-(i:Nat)) 1) where
 mem:=by simp
 obj:=fun i h st b hb=>by
  have e:b=it:=by simpa using hb
  subst e
  exact ⟨_,st,fun v z=>by
   have z':Data.fields _=Data.cell v:=z
   cases z'⟩
 keep:=fun i h h' st k=>k it (by simp) _ st
 item:=by
  intro X hP hw hK hc i ao s σ H E I hf st hg
  subst hP hw hK
  obtain ⟨f0,f1,f2,f3,f4,f5⟩:=hf it (by simp)
  have W:=Walks.range (prog:=X.prog) (w:=X.w) (I.ok.hd hc) it lo 1 n
  refine W.item i s _ _ hg st fun v h' tk hv AX kk=>?_
  obtain ⟨t,rfl⟩:=hv
  have I1:Inv X ao σ H { s with heap:=h',toks:=tk }:=I.turned (fun b o hb e=>kk b o (by simpa using hb) e) f0 f1 f3 f4 f5
  refine ⟨_,rfl,yb (s:={ s with heap:=h',toks:=tk }) (n := "range_iterator") AX rfl rfl (by decide) ⟨.int (lo+i),H,I1,⟨t,?_⟩,⟨rfl,rfl⟩,AX,fun b hb=>(hf b hb).1⟩⟩
  rw [Int.mul_one]
 done:=by
  intro X hP hw hK hc i ao s σ H E I hf st hg
  subst hP hw hK
  obtain ⟨f0,f1,f2,f3,f4,f5⟩:=hf it (by simp)
  exact wpAny_pyNext_range_end (I.ok.hd hc) st (by have:n<=i:=hg; omega) fun h' eb=>⟨rfl,I.turned (t':=s.toks) (fun b o hb e=>eb b o hb e) f0 f1 f3 f4 f5⟩
 self:=fun _ _ _ _ _ st h=>wpAny_pyIter_rangeiter st h
section
variable {X:Cx} {tg:Expr}
def vv (K:ai) (tl:TE):TI:=fun σ H R=>tl σ H fun x H1=>∃ a,x = .ref a/\(∃ xs,gR K H1 a xs)/\R (Cv K a) H1
def Gh (K:ai) (tl:TE):TI:=fun σ H R=>tl σ H fun x H1=>∃ a,x = .ref a/\(∃ xs,sN K H1 a xs)/\R (SI K a) H1
theorem Xx {l:Expr} {tl:TE} (hl:PE X l tl):PI X tg l (vv X.K tl):=by
 intro ao s σ H R I h
 refine fM (hl ao s σ H _ I h) fun v s1 ⟨x,H1,I1,r1,q1⟩=>?_
 obtain ⟨a,e,⟨xs,hq⟩,q⟩:=q1
 subst e
 cases r1
 obtain ⟨dJ,rv,p,hz⟩:=I1.list hq
 refine wpAny_pyIter_list p.isList ?_
 refine ⟨s1.heap.objs.size,[s1.heap.objs.size],_,_,H1,rfl,I1.kept (t':=s1.toks) fun b o e=>Heap.get?_push_of_some _ e,Wk a _,⟨_,Heap.get?_push_size _ rfl,rfl,rfl⟩,fun b hb=>?_,q⟩
 have e:b=s1.heap.objs.size:=by simpa using hb
 subst e
 exact I1.wA (av _) (I1.eW.fresh (av _))
theorem Qy {ao:List (Addr×Obj)} {σ:St} {H:Hp} {s:Shared} {R:It->Hp->Prop} {E:Value->Shared->Prop} {lo hi:Int} {t u v:Tok} {tk:Nat} (I:Inv X ao σ H s) (h1:-(2 ^ 62)<=lo) (h2:lo<2 ^ 62) (h3:-(2 ^ 62)<=hi) (h4:hi<2 ^ 62)
    (q:R (Bd lo (hi-lo).toNat) H):wpAny (model X.prog X.w) X.A (pyIter (.ref s.heap.objs.size)) (Ng X ao σ tg R) E { s with heap:=s.heap.push { cls:=.type "range", data:=.fields #[.int lo t,.int hi u,.int 1 v] },toks:=tk }:=by
  refine wpAny_pyIter_range (IsRange.new ..) (small_one h1 h2 h3 h4) ?_
  have I1:Inv X ao σ H { s with heap:=s.heap.push { cls:=.type "range", data:=.fields #[.int lo t,.int hi u,.int 1 v] },toks:=tk }:=I.kept fun b o e=>Heap.get?_push_of_some _ e
  refine ⟨(s.heap.push { cls:=.type "range", data:=.fields #[.int lo t,.int hi u,.int 1 v] }).objs.size,[(s.heap.push { cls:=.type "range", data:=.fields #[.int lo t,.int hi u,.int 1 v] }).objs.size],_,_,H,rfl,
    I1.kept (t':=tk) fun b o e=>Heap.get?_push_of_some _ e,VZ _ lo (hi-lo).toNat,?_,fun b hb=>?_,q⟩
  · have e1:lo+((0:Nat):Int)*1=lo:=by simp
    have e2:(((hi-lo).toNat:Nat):Int)-((0:Nat):Int)=Builtin.Range.rangeSize lo hi 1:=by rw [rangeSize_one]; split <;> omega
    show IsRangeIter _ _ (lo+((0:Nat):Int)*1) ((((hi-lo).toNat:Nat):Int)-((0:Nat):Int)) 1
    rw [e1,e2]
    exact Heap.get?_push_size _ rfl
  · have e:b=(s.heap.push { cls:=.type "range", data:=.fields #[.int lo t,.int hi u,.int 1 v] }).objs.size:=by simpa using hb
    subst e
    exact I1.wA (av _) (I1.eW.fresh (av _))
def yh (ta:TA):TI:=fun σ H R=>ta σ H fun vs H1=>∃ j:Int,vs = [.int j]/\-(2 ^ 62)<=j/\j<2 ^ 62/\R (Bd 0 j.toNat) H1
def yi (ta:TA):TI:=fun σ H R=>ta σ H fun vs H1=>∃ i j:Int,vs = [.int i,.int j]/\(-(2 ^ 62)<=i/\i<2 ^ 62/\-(2 ^ 62)<=j/\j<2 ^ 62)/\R (Bd i (j-i).toNat) H1
theorem PZ {a:Expr} {ta:TA} {p pos:Pos} (hg:Gl X "range") (hm:X.mg "range" = none) (ha:PA X [a] ta) (hs:starEach [a] X.env = [(false,eval a X.env)]:=by rfl):PI X tg (.Call (.Name "range" p) [a] [] pos) (yh ta):=by
 intro ao s σ H R I h
 refine Call_ (DQ I hg hm boot_range (dB (fM (ha pos ao s σ H _ I h) fun us s1 ⟨vs,H1,I1,r1,q1⟩=>?_) hs rfl))
 obtain ⟨j,e,q1,q2,q⟩:=q1
 subst e
 cases r1 with
 | cons r rr =>
  cases rr
  obtain ⟨t,rfl⟩:=r
  exact call_range_1 (Qy I1 (by omega) (by omega) q1 q2 (by simpa using q))
theorem Wl {a b:Expr} {ta:TA} {p pos:Pos} (hg:Gl X "range") (hm:X.mg "range" = none) (ha:PA X [a,b] ta) (hs:starEach [a,b] X.env = [(false,eval a X.env),(false,eval b X.env)]:=by rfl) (Az:starEach [b] X.env = [(false,eval b X.env)]:=by rfl) :
    PI X tg (.Call (.Name "range" p) [a,b] [] pos) (yi ta):=by
  intro ao s σ H R I h
  refine Call_ (DQ I hg hm boot_range (dB (fM (ha pos ao s σ H _ I h) fun us s1 ⟨vs,H1,I1,r1,q1⟩=>?_) (by rw [hs,Az]) (by rw [Az]; rfl)))
  obtain ⟨i,j,e,⟨q1,q2,q3,q4⟩,q⟩:=q1
  subst e
  cases r1 with
  | cons r rr =>
    cases rr with
    | cons r' rr =>
      cases rr
      obtain ⟨t,rfl⟩:=r
      obtain ⟨t',rfl⟩:=r'
      exact call_range_2 (Qy I1 q1 q2 q3 q4 q)
def G6 (wi:TI) (g:TG) (tb:TS):TS:=fun D σ H=>wi σ H fun J H1=>∃ W:Nat->Nat->St->Hp->Prop,(∃ m,W 0 m σ H1)/\∀ i m σ H,W i m σ H ->
 (J.stop i H/\D.nx σ H)\/(J.go i H/\∃ N:St->Hp->Prop,(∀ σ' H',N σ' H'->∃ m',m' < m/\W (i+1) m' σ' H')/\∀ x H',J.A5 i H x H'->g x σ H' fun σ2 H2=>tb { D with nx:=N,ct:=N,bk:=D.nx } σ2 H2)
def DR (fp:List Addr) (h:Heap):List (Addr×Obj):=fp.filterMap fun b=>(h.get? b).map fun o=>(b,o)
theorem Cb {fp:List Addr} {h:Heap} {b:Addr} {o:Obj} (hb:b∈fp) (e:h.get? b=some o):(b,o)∈DR fp h:=nB.mpr ⟨b,hb,by rw [e]; rfl⟩
theorem Wm {fp:List Addr} {h:Heap} {p:Addr×Obj} (hp:p∈DR fp h):p.1∈fp/\h.get? p.1=some p.2:=by
 obtain ⟨b,hb,e⟩:=nB.mp hp
 cases q:h.get? b with
 | none=>rw [q] at e; cases e
 | some o =>
  rw [q] at e
  have e':(b,o)=p:=bE e
  subst e'
  exact ⟨hb,q⟩
theorem Inv.pinned {ao:List (Addr×Obj)} {σ:St} {H:Hp} {s:Shared} {fp:List Addr} (I:Inv X ao σ H s) (hf:∀ b∈fp,l7 X ao H b) (ho:∀ b∈fp,∃ o,s.heap.get? b=some o/\∀ v,o.data≠.cell v):Inv X (ao++DR fp s.heap) σ H s :=
 I.vE fun p hp=>(aY.mp hp).elim (fun z=>I.pin p (bA _ z)) fun z=>by
  obtain ⟨hb,e⟩:=Wm z
  obtain ⟨f0,f1,f2,_⟩:=hf p.1 hb
  obtain ⟨o,e',d⟩:=ho p.1 hb
  rw [e] at e'; cases e'
  exact ⟨e,f0,f1,f2,d⟩
theorem Inv.jI {ao pl:List (Addr×Obj)} {σ:St} {H:Hp} {s:Shared} (I:Inv X (ao++pl) σ H s):Inv X ao σ H s:=I.vE fun p hp=>I.pin p (bA _ (xm _ hp))
theorem uv {fO:Expr} {body:List Stmt} {wi:TI} {g:TG} {tb:TS} {pos:Pos} (hp:PassesOwn (model X.prog X.w) X.A X.env X.xe) (hc:X.calm=true) (hi:PI X tg fO wi) (hg:PG X tg g) (hb:r6 X body tb)
    (hs:∀ x,foldedSetIterable fO X.env x=pure x:=by intro _; rfl):PS X (.For tg fO body [] pos) (G6 wi g tb):=by
  intro ao s σ H D I h
  refine wpAny_For (fM (hi ao s σ H _ I h) fun v s1 h1=>fM h1 fun Gk s2 h2=>?_) hs
  obtain ⟨it,fp,tn,J,H2,e,I2,T,wU,f2,W,⟨m0,w0⟩,pN⟩:=h2
  subst e
  have lT:∀ {H':Hp},(∀ b∈fp,H' b=none)->∀ b∈fp,l7 X ao H' b:=fun hn b hb=>⟨hn b hb,(f2 b hb).2⟩
  refine codeAny_forLoop_any (fun n s'=>∃ i σ' H',Inv X ao σ' H' s'/\tn i s'.heap/\(∀ b∈fp,H' b=none)/\W i n σ' H') ?_ m0 ⟨0,σ,H2,I2,wU,fun b hb=>(f2 b hb).1,w0⟩
  rintro n s3 ⟨i,σ3,H3,I3,OX,x9,w3⟩
  rcases pN i n σ3 H3 w3 with ⟨stop,qn⟩ | ⟨go,N,hN,step⟩
  · refine wpAny_passesOwn hp (fM (T.done X rfl rfl rfl hc i ao s3 σ3 H3 X.xe I3 (lT x9) OX stop) fun r s4 ⟨hr,I4⟩=>?_)
    subst hr
    exact wpAny_execs_nil ⟨σ3,H3,I4,qn⟩
  · refine wpAny_passesOwn hp (fM (T.item X rfl rfl rfl hc i ao s3 σ3 H3 X.xe I3 (lT x9) OX go) fun r s4 ⟨u,hr,h4⟩=>?_)
    subst hr
    refine wpAny_passesOwn hp (fM h4 fun _ s5 ⟨x,H5,I5,r5,y5,xy,zQ⟩=>?_)
    have SH:=I5.pinned (lT zQ) (T.obj _ _ xy)
    refine wpAny_passesOwn hp (fM (hg _ s5 σ3 H5 x u _ SH r5 (step x H5 y5)) fun _ s6 ⟨σ6,H6,I6,q6⟩=>?_)
    refine wpAny_passesOwn hp (fM (hb _ s6 σ6 H6 _ I6 q6) fun f s7 q7=>?_)
    have again:∀ {σ7:St} {H7:Hp},Inv X (ao++DR fp s5.heap) σ7 H7 s7->N σ7 H7->∃ m,m<n/\∃ i σ' H',Inv X ao σ' H' s7/\tn i s7.heap/\(∀ b∈fp,H' b=none)/\W i m σ' H':=fun {σ7 H7} I7 n7=>by
      obtain ⟨m',hm,w7⟩:=hN σ7 H7 n7
      refine ⟨m',hm,i+1,σ7,H7,I7.jI,T.keep _ _ _ xy fun b hb o e=>(I7.pin (b,o) (bA _ (bA _ (Cb hb e)))).1,fun b hb=>?_,w7⟩
      obtain ⟨o,e,d⟩:=T.obj _ _ xy b hb
      exact (I7.pin (b,o) (bA _ (bA _ (Cb hb e)))).2.1
    cases f with
    | next=>obtain ⟨σ7,H7,I7,n7⟩:=q7; exact again I7 n7
    | cont=>obtain ⟨σ7,H7,I7,n7⟩:=q7; exact again I7 n7
    | brk=>obtain ⟨σ7,H7,I7,q7⟩:=q7; exact ⟨σ7,H7,I7.jI,q7⟩
    | ret v=>obtain ⟨x7,σ7,H7,I7,r7,q7⟩:=q7; exact ⟨x7,σ7,H7,I7.jI,r7,q7⟩
end
theorem z9 {K:ai} {a:Addr} {xs:List V} {g:TG} {tb:TS} {D:Ends} {σ:St} {H:Hp} (Pv:Nat->St->Hp->Prop) (h0:Pv 0 σ H) (hl:∀ i σ H,i<=xs.length->Pv i σ H->gR K H a xs)
    (hs:∀ i x σ H,xs[i]? = some x->Pv i σ H->g x σ H fun σ2 H2=>tb { D with nx:=Pv (i+1),ct:=Pv (i+1),bk:=D.nx } σ2 H2) (hd:∀ σ H,Pv xs.length σ H->D.nx σ H) :
    ∃ W:Nat->Nat->St->Hp->Prop,(∃ m,W 0 m σ H)/\∀ i m σ H,W i m σ H ->
      ((Cv K a).stop i H/\D.nx σ H)\/((Cv K a).go i H/\∃ N:St->Hp->Prop,(∀ σ' H',N σ' H'->∃ m',m' < m/\W (i+1) m' σ' H')/\∀ x H',(Cv K a).A5 i H x H'->g x σ H' fun σ2 H2=>tb { D with nx:=N,ct:=N,bk:=D.nx } σ2 H2):=by
  refine ⟨fun i m σ H=>m=xs.length-i/\i<=xs.length/\Pv i σ H,⟨xs.length,by simp,bR _,h0⟩,?_⟩
  rintro i m σ H ⟨rfl,hi,p⟩
  have q:=hl i σ H hi p
  by_cases jx:i<xs.length
  · refine .inr ⟨⟨xs,xs[i],q,by simp [jx]⟩,Pv (i+1),fun σ' H' p'=>⟨xs.length-(i+1),by omega,rfl,jx,p'⟩,fun x H' y=>?_⟩
    obtain ⟨e,y⟩:=y
    subst e
    exact hs i x σ _ (y xs q) p
  · have e:i=xs.length:=by omega
    subst e
    exact .inl ⟨⟨xs,q,av _⟩,hd σ H p⟩
theorem P0 {lo:Int} {n:Nat} {g:TG} {tb:TS} {D:Ends} {σ:St} {H:Hp} (Pv:Nat->St->Hp->Prop) (h0:Pv 0 σ H)
    (hs:∀ i σ H,i<n->Pv i σ H->g (.int (lo+i)) σ H fun σ2 H2=>tb { D with nx:=Pv (i+1),ct:=Pv (i+1),bk:=D.nx } σ2 H2) (hd:∀ σ H,Pv n σ H->D.nx σ H) :
    ∃ W:Nat->Nat->St->Hp->Prop,(∃ m,W 0 m σ H)/\∀ i m σ H,W i m σ H ->
      ((Bd lo n).stop i H/\D.nx σ H)\/((Bd lo n).go i H/\∃ N:St->Hp->Prop,(∀ σ' H',N σ' H'->∃ m',m' < m/\W (i+1) m' σ' H')/\∀ x H',(Bd lo n).A5 i H x H'->g x σ H' fun σ2 H2=>tb { D with nx:=N,ct:=N,bk:=D.nx } σ2 H2):=by
  refine ⟨fun i m σ H=>m=n-i/\i<=n/\Pv i σ H,⟨n,by simp,bR _,h0⟩,?_⟩
  rintro i m σ H ⟨rfl,hi,p⟩
  by_cases jx:i<n
  · refine .inr ⟨jx,Pv (i+1),fun σ' H' p'=>⟨n-(i+1),by omega,rfl,jx,p'⟩,fun x H' y=>?_⟩
    obtain ⟨e,y⟩:=y
    subst e y
    exact hs i σ _ jx p
  · have e:i=n:=by omega
    subst e
    exact .inl ⟨av _,hd σ H p⟩
abbrev R2:=V->V->Hp->VK->Prop
def qm (X:Cx) (f:Value->Value->Sem Value) (r:R2):Prop :=
 ∀ (ao:List (Addr×Obj)) (s:Shared) (σ:St) (H:Hp) (x y:V) (v u:Value) (Q:VK),Inv X ao σ H s->RelV x v->RelV y u->r x y H Q ->
  wpAny (model X.prog X.w) X.A (f v u) (EP X ao σ Q) X.xe s
def JS (X:Cx) (f:Value->Sem Value) (r:V->Hp->VK->Prop):Prop :=
 ∀ (ao:List (Addr×Obj)) (s:Shared) (σ:St) (H:Hp) (x:V) (v:Value) (Q:VK),Inv X ao σ H s->RelV x v->r x H Q ->
  wpAny (model X.prog X.w) X.A (f v) (EP X ao σ Q) X.xe s
def lZ (X:Cx) (f:Value) (r:List V->Hp->VK->Prop):Prop :=
 ∀ (ao:List (Addr×Obj)) (s:Shared) (σ:St) (H:Hp) (xs:List V) (us:List Value) (Q:VK),Inv X ao σ H s->dw xs us->r xs H Q ->
  wpAny (model X.prog X.w) X.A (call f us) (EP X ao σ Q) X.xe s
def JR (X:Cx) (r:V->Hp->(Bool->Hp->Prop)->Prop):Prop :=
 ∀ (ao:List (Addr×Obj)) (s:Shared) (σ:St) (H:Hp) (x:V) (v:Value) (Q:Bool->Hp->Prop),Inv X ao σ H s->RelV x v->r x H Q ->
  wpAny (model X.prog X.w) X.A (truthy v) (TP X ao σ Q) X.xe s
def Dw (r:R2) (ta tb:TE):TE:=fun σ H Q=>ta σ H fun x H1=>tb σ H1 fun y H2=>r x y H2 Q
def Mg (r:V->Hp->VK->Prop) (ta:TE):TE:=fun σ H Q=>ta σ H fun x H1=>r x H1 Q
def rI (C:Int->Int->Prop) (g:Int->Int->V):R2:=fun x y H Q=>∃ i j,x = .int i/\y = .int j/\C i j/\Q (g i j) H
def AR (g:Int->Int->V):R2:=fun x y H Q=>∃ i j,x = .int i/\y = .int j/\Q (g i j) H
def rU (g:Int->V):V->Hp->VK->Prop:=fun x H Q=>∃ i,x = .int i/\Q (g i) H
section
variable {X:Cx} {a b c:Expr} {ta tb tc:TE} {pos:Pos}
theorem CJ (ha:PE X a ta) (hb:PE X b tb) {ao:List (Addr×Obj)} {s:Shared} {σ:St} {H:Hp} {R:V->V->Hp->Prop} (I:Inv X ao σ H s)
    (h:ta σ H fun x H1=>tb σ H1 fun y H2=>R x y H2) {Q:Value->Shared->Prop} {f:Value->Value->Sem Value}
    (hf:∀ v u s2 x y H2,Inv X ao σ H2 s2->RelV x v->RelV y u->R x y H2->wpAny (model X.prog X.w) X.A (f v u) Q X.xe s2) :
    wpAny (model X.prog X.w) X.A (eval a X.env) (fun v s₁=>wpAny (model X.prog X.w) X.A (eval b X.env) (fun u s₂=>wpAny (model X.prog X.w) X.A (f v u) Q X.xe s₂) X.xe s₁) X.xe s:=by
  refine fM (ha ao s σ H _ I h) fun v s1 ⟨x,H1,I1,r1,q1⟩=>?_
  refine fM (hb ao s1 σ H1 _ I1 q1) fun u s2 ⟨y,H2,I2,r2,q2⟩=>?_
  exact hf v u s2 x y H2 I2 r1 r2 q2
theorem bF {op:Operator} {r:R2} (ho:qm X (binaryOp op) r) (ha:PE X a ta) (hb:PE X b tb):PE X (.BinOp a op b pos) (Dw r ta tb):=by
 intro ao s σ H Q I h
 exact wpAny_BinOp (CJ ha hb I h fun v u s2 x y H2 I2 rx ry q=>ho ao s2 σ H2 x y v u Q I2 rx ry q)
theorem GH {op:UnaryOp} {r:V->Hp->VK->Prop} (ho:JS X (unaryOp op) r) (ha:PE X a ta):PE X (.UnaryOp op a pos) (Mg r ta):=by
 intro ao s σ H Q I h
 exact UnaryOp_ (fM (ha ao s σ H _ I h) fun v s1 ⟨x,H1,I1,r1,q1⟩=>ho ao s1 σ H1 x v Q I1 r1 q1)
theorem GC {f:Value->Value->Sem Value} {C:Int->Int->Prop} {g:Int->Int->Int}
    (rule:∀ (i j:Int) (t u:Tok) (s:Shared) (Q:Value->Shared->Prop) (E:Value->Shared->Prop),C i j->Q (.int (g i j) s.toks) { s with toks:=s.toks+1 }->wpAny (model X.prog X.w) X.A (f (.int i t) (.int j u)) Q E s) :
    qm X f (rI C fun i j=>.int (g i j)):=by
  intro ao s σ H x y v u Q I rx ry h
  obtain ⟨i,j,rfl,rfl,hc,q⟩:=h
  obtain ⟨t,rfl⟩:=rx
  obtain ⟨t',rfl⟩:=ry
  exact rule i j t t' s _ _ hc ⟨.int (g i j),H,I.tok _,⟨_,rfl⟩,q⟩
theorem GD {f:Value->Value->Sem Value} {g:Int->Int->Int}
    (rule:∀ (i j:Int) (t u:Tok) (s:Shared) (Q:Value->Shared->Prop) (E:Value->Shared->Prop),Q (.int (g i j) s.toks) { s with toks:=s.toks+1 }->wpAny (model X.prog X.w) X.A (f (.int i t) (.int j u)) Q E s) :
    qm X f (AR fun i j=>.int (g i j)):=by
  intro ao s σ H x y v u Q I rx ry h
  obtain ⟨i,j,rfl,rfl,q⟩:=h
  obtain ⟨t,rfl⟩:=rx
  obtain ⟨t',rfl⟩:=ry
  exact rule i j t t' s _ _ ⟨.int (g i j),H,I.tok _,⟨_,rfl⟩,q⟩
theorem Dk {f:Value->Value->Sem Value} {g:Int->Int->Bool}
    (rule:∀ (i j:Int) (t u:Tok) (s:Shared) (Q:Value->Shared->Prop) (E:Value->Shared->Prop),Q (.bool (g i j)) s->wpAny (model X.prog X.w) X.A (f (.int i t) (.int j u)) Q E s) :
    qm X f (AR fun i j=>.bl (g i j)):=by
  intro ao s σ H x y v u Q I rx ry h
  obtain ⟨i,j,rfl,rfl,q⟩:=h
  obtain ⟨t,rfl⟩:=rx
  obtain ⟨t',rfl⟩:=ry
  exact rule i j t t' s _ _ ⟨.bl (g i j),H,I,rfl,q⟩
def Cq (i j:Int):Prop:=0<=j/\j<=1000000/\i.natAbs<2 ^ 64
theorem qO:qm X (binaryOp .Add) (AR fun i j=>.int (i+j)):=GD fun _ _ _ _ _ _ _ q=>add_int q
theorem Ac:qm X (binaryOp .Sub) (AR fun i j=>.int (i-j)):=GD fun _ _ _ _ _ _ _ q=>sub_int q
theorem nL:qm X (binaryOp .Mod) (rI (fun _ j=>0<j) fun i j=>.int (i % j)):=GC fun i j _ _ _ _ _ hc q=>by
 have h1:(0:Int)<j:=hc
 exact mod_int' (by omega) (by rw [Int.fmod_eq_emod_of_nonneg i (by omega)]; exact q)
theorem Ci:qm X (binaryOp .Pow) (rI Cq fun i j=>.int (i ^ j.toNat)):=GC fun _ _ _ _ _ _ _ hc q=>pow_int_small hc.1 hc.2.1 hc.2.2 q
theorem Vh {f:Value->Sem Value} {g:Int->Int}
    (rule:∀ (i:Int) (t:Tok) (s:Shared) (Q:Value->Shared->Prop) (E:Value->Shared->Prop),Q (.int (g i) s.toks) { s with toks:=s.toks+1 }->wpAny (model X.prog X.w) X.A (f (.int i t)) Q E s) :
    JS X f (rU fun i=>.int (g i)):=by
  intro ao s σ H x v Q I rx h
  obtain ⟨i,rfl,q⟩:=h
  obtain ⟨t,rfl⟩:=rx
  exact rule i t s _ _ ⟨.int (g i),H,I.tok _,⟨_,rfl⟩,q⟩
theorem YC:JS X (unaryOp .USub) (rU fun i=>.int (-i)):=Vh fun _ _ _ _ _ q=>neg_int q
end
def AU:V->V->Bool
 | .iJ,.iJ=>true | .iJ,.int _=>true | .int _,.iJ=>true | .iJ,.bl _=>true | .bl _,.iJ=>true | .iJ,.str _=>true | .str _,.iJ=>true
 | .int _,.int _=>true | .bl _,.bl _=>true | .str _,.str _=>true | .vm _,.vm _=>true
 | .int _,.str _=>true | .str _,.int _=>true | .bl _,.str _=>true | .str _,.bl _=>true
 | _,_=>false
def LL:R2:=fun x y H Q=>AU x y=true/\Q (.bl (decide (x=y))) H
def LM:R2:=fun x y H Q=>AU x y=true/\Q (.bl (!decide (x=y))) H
theorem Q2 {i j:Int}:decide (V.int i=V.int j)=(i == j):=by
 rw [kX]
 simp
theorem RX {i j:Bool}:decide (V.bl i=V.bl j)=(i == j):=by
 rw [kX]
 simp
theorem Q3 {i j:Str}:decide (V.str i=V.str j)=(i == j):=by
 rw [kX]
 simp
theorem Q5 {i j:Array UInt8}:decide (V.vm i=V.vm j)=(i.toList == j.toList):=by
 rw [kX]
 cases i
 cases j
 simp
section
variable {X:Cx} {a b c:Expr} {ta tb tc:TE} {pos:Pos}
theorem lY {ao:List (Addr×Obj)} {σ:St} {H:Hp} {s:Shared} {Q:VK} {k k':Bool} (I:Inv X ao σ H s) (q:Q (.bl k) H) (e:k=k'):EP X ao σ Q (.bool k') s:=by
 subst e
 exact ⟨.bl k,H,I,rfl,q⟩
theorem mJ:qm X (compareOp .Eq) LL:=by
 intro ao s σ H x y v u Q I rx ry h
 obtain ⟨hs,q⟩:=h
 cases x with
 | iJ =>
  cases rx
  cases y with
  | iJ=>cases ry; exact PySem.EqNone.eq_none_none (lY I q (by simp))
  | bl j=>cases ry; exact PySem.EqNone.eq_none_bool (lY I q (by simp))
  | int j=>obtain ⟨t',rfl⟩:=ry; exact PySem.EqNone.eq_none_int (lY I q (by simp))
  | str j=>obtain ⟨t',rfl⟩:=ry; exact PySem.EqNone.eq_none_str (lY I q (by simp))
  | _=>exact absurd (show false=true from hs) bC
 | bl i =>
  cases rx
  cases y with
  | iJ=>cases ry; exact PySem.EqNone.eq_bool_none (lY I q (by simp))
  | bl j=>cases ry; exact eq_bool (lY I q RX)
  | str j=>obtain ⟨t',rfl⟩:=ry; exact PySem.EqMixed.eq_bool_str (lY I q (by simp))
  | _=>exact absurd (show false=true from hs) bC
 | int i =>
  obtain ⟨t,rfl⟩:=rx
  cases y with
  | iJ=>cases ry; exact PySem.EqNone.eq_int_none (lY I q (by simp))
  | int j=>obtain ⟨t',rfl⟩:=ry; exact eq_int (lY I q Q2)
  | str j=>obtain ⟨t',rfl⟩:=ry; exact PySem.EqMixed.eq_int_str (lY I q (by simp))
  | _=>exact absurd (show false=true from hs) bC
 | str i =>
  obtain ⟨t,rfl⟩:=rx
  cases y with
  | iJ=>cases ry; exact PySem.EqNone.eq_str_none (lY I q (by simp))
  | bl j=>cases ry; exact PySem.EqMixed.eq_str_bool (lY I q (by simp))
  | int j=>obtain ⟨t',rfl⟩:=ry; exact PySem.EqMixed.eq_str_int (lY I q (by simp))
  | str j=>obtain ⟨t',rfl⟩:=ry; exact eq_str (lY I q Q3)
  | _=>exact absurd (show false=true from hs) bC
 | vm i =>
  obtain ⟨t,rfl⟩:=rx
  cases y with
  | vm j=>obtain ⟨t',rfl⟩:=ry; exact PySem.W.eq_bytes (lY I q Q5)
  | _=>exact absurd (show false=true from hs) bC
 | _=>cases y <;> exact absurd (show false=true from hs) bC
theorem BU:qm X (compareOp .NotEq) LM:=by
 intro ao s σ H x y v u Q I rx ry h
 obtain ⟨hs,q⟩:=h
 cases x with
 | iJ =>
  cases rx
  cases y with
  | iJ=>cases ry; exact PySem.EqNone.ne_none_none (lY I q (by simp))
  | bl j=>cases ry; exact PySem.EqNone.ne_none_bool (lY I q (by simp))
  | int j=>obtain ⟨t',rfl⟩:=ry; exact PySem.EqNone.ne_none_int (lY I q (by simp))
  | str j=>obtain ⟨t',rfl⟩:=ry; exact PySem.EqNone.ne_none_str (lY I q (by simp))
  | _=>exact absurd (show false=true from hs) bC
 | bl i =>
  cases rx
  cases y with
  | iJ=>cases ry; exact PySem.EqNone.ne_bool_none (lY I q (by simp))
  | bl j=>cases ry; exact ne_bool (lY I q (congrArg not RX))
  | str j=>obtain ⟨t',rfl⟩:=ry; exact PySem.EqMixed.ne_bool_str (lY I q (by simp))
  | _=>exact absurd (show false=true from hs) bC
 | int i =>
  obtain ⟨t,rfl⟩:=rx
  cases y with
  | iJ=>cases ry; exact PySem.EqNone.ne_int_none (lY I q (by simp))
  | int j=>obtain ⟨t',rfl⟩:=ry; exact ne_int (lY I q (congrArg not Q2))
  | str j=>obtain ⟨t',rfl⟩:=ry; exact PySem.EqMixed.ne_int_str (lY I q (by simp))
  | _=>exact absurd (show false=true from hs) bC
 | str i =>
  obtain ⟨t,rfl⟩:=rx
  cases y with
  | iJ=>cases ry; exact PySem.EqNone.ne_str_none (lY I q (by simp))
  | bl j=>cases ry; exact PySem.EqMixed.ne_str_bool (lY I q (by simp))
  | int j=>obtain ⟨t',rfl⟩:=ry; exact PySem.EqMixed.ne_str_int (lY I q (by simp))
  | str j=>obtain ⟨t',rfl⟩:=ry; exact ne_str (lY I q (congrArg not Q3))
  | _=>exact absurd (show false=true from hs) bC
 | vm i =>
  obtain ⟨t,rfl⟩:=rx
  cases y with
  | vm j=>obtain ⟨t',rfl⟩:=ry; exact PySem.W.ne_bytes (lY I q (congrArg not Q5))
  | _=>exact absurd (show false=true from hs) bC
 | _=>cases y <;> exact absurd (show false=true from hs) bC
theorem yu:qm X (compareOp .Lt) (AR fun i j=>.bl (decide (i<j))):=Dk fun _ _ _ _ _ _ _ q=>lt_int q
theorem BR:qm X (compareOp .LtE) (AR fun i j=>.bl (decide (i<=j))):=Dk fun _ _ _ _ _ _ _ q=>le_int q
theorem BQ:qm X (compareOp .Gt) (AR fun i j=>.bl (decide (j<i))):=Dk fun _ _ _ _ _ _ _ q=>gt_int q
theorem sr (b:Expr) {op:CmpOp} (h:op≠.In:=by decide) (h2:op≠.NotIn:=by decide):behindInMarks op b=false:=by
 have e1:(op == CmpOp.In)=false:=by cases op <;> first | rfl | exact absurd rfl h
 have e2:(op == CmpOp.NotIn)=false:=by cases op <;> first | rfl | exact absurd rfl h2
 cases b <;> simp [behindInMarks,e1,e2]
theorem Q6 {op:CmpOp} {r:R2} (ho:qm X (compareOp op) r) (ha:PE X a ta) (hb:PE X b tb) (hm:behindInMarks op b=false):PE X (.Compare a [op] [b] pos) (Dw r ta tb):=by
 intro ao s σ H Q I h
 exact wpAny_Compare1 (CJ ha hb I h fun v u s2 x y H2 I2 rx ry q=>ho ao s2 σ H2 x y v u Q I2 rx ry q) hm
def yV (t:TE):TT:=fun σ H Q=>t σ H fun x H'=>∃ k,x = .bl k/\Q k H'
theorem tZ {op:CmpOp} {r:R2} (ho:qm X (compareOp op) r) (ha:PE X a ta) (hb:PE X b tb) (hm:behindInMarks op b=false):PT X (.Compare a [op] [b] pos) (yV (Dw r ta tb)):=by
 intro ao s σ H Q I h
 refine wpAny_isTrue_Compare1 (fM (ha ao s σ H _ I h) fun v s1 ⟨x,H1,I1,r1,q1⟩=>fM (hb ao s1 σ H1 _ I1 q1) fun u s2 ⟨y,H2,I2,r2,q2⟩ =>
  fM (ho ao s2 σ H2 x y v u _ I2 r1 r2 q2) fun c s3 ⟨z,H3,I3,r3,k,e,q3⟩=>?_) hm
 subst e
 cases r3
 exact wpAny_truthy_bool ⟨H3,I3,q3⟩
def yN (r r':R2) (ta tb tc:TE):TE:=fun σ H Q=>ta σ H fun x H1=>tb σ H1 fun y H2=>r x y H2 fun z H3=>∃ k,z = .bl k /\
 (if k=true then tc σ H3 fun w' H4=>r' y w' H4 Q else Q (.bl false) H3)
def An (K:ai) (x:V) (H:Hp) (k:Bool):Prop :=
 match x with
 | .iJ=>k=false
 | .bl b=>k=b
 | .int i=>k=(i != 0)
 | .str y=>y.length<=sizeLine/\k=((y.length:Int) != 0)
 | .vm y=>y.size<=sizeLine/\k=((y.size:Int) != 0)
 | .ref p=>(∃ xs,gR K H p xs/\k = !xs.isEmpty)\/(∃ xs,sN K H p xs/\k = !xs.isEmpty)\/∃ kvs,H p=some (.dK kvs)/\k = !kvs.isEmpty
 | _=>False
theorem V0 {κ:Type} {kvs:List (κ×V)} {vs:List (κ×Value)} (r:KV kvs vs):(!vs.isEmpty) = !kvs.isEmpty:=by
 cases r <;> rfl
theorem Py {xs:List V} {dJ:List Value} (r:dw xs dJ):(!dJ.toArray.isEmpty) = !xs.isEmpty:=by
 cases r <;> simp
theorem HF:(sizeLine:Nat)<2 ^ 63:=by rw [sizeLine_eq]; decide
theorem YD:JR X (fun x H Q=>∃ k,An X.K x H k/\Q k H):=by
 intro ao s σ H x v Q I rx h
 obtain ⟨k,e,q⟩:=h
 have hl:=HF
 have hs:sizeLine = 16777216:=sizeLine_eq
 cases x with
 | iJ =>
  cases rx
  have e':k=false:=e
  subst e'
  exact truthy_none ⟨H,I,q⟩
 | bl b =>
  cases rx
  have e':k=b:=e
  subst e'
  exact wpAny_truthy_bool ⟨H,I,q⟩
 | int i =>
  obtain ⟨t,rfl⟩:=rx
  have e':k=(i != 0):=e
  subst e'
  exact PySem.P.truthy_int ⟨H,I,q⟩
 | str y =>
  obtain ⟨t,rfl⟩:=rx
  obtain ⟨hy,e'⟩:y.length<=sizeLine/\k=((y.length:Int) != 0):=e
  subst e'
  exact PySem.P.truthy_str (by omega) ⟨H,I.tok _,q⟩
 | vm y =>
  obtain ⟨t,rfl⟩:=rx
  obtain ⟨hy,e'⟩:y.size<=sizeLine/\k=((y.size:Int) != 0):=e
  subst e'
  exact PySem.W.truthy_bytes (by omega) ⟨H,I.tok _,q⟩
 | ref p =>
  cases rx
  have e':(∃ xs,gR X.K H p xs/\k = !xs.isEmpty)\/(∃ xs,sN X.K H p xs/\k = !xs.isEmpty)\/∃ kvs,H p=some (.dK kvs)/\k = !kvs.isEmpty:=e
  rcases e' with ⟨xs,hx,e'⟩ | ⟨xs,hx,e'⟩ | ⟨kvs,hx,e'⟩
  ·subst e'
   obtain ⟨dJ,r,pl,hz⟩:=I.list hx
   have gI:=r.length
   exact wpAny_truthy_list pl.isList (by simp only [bK]; omega) ⟨H,I.tok _,by rw [Py r]; exact q⟩
  ·subst e'
   obtain ⟨dJ,r,pl,hz⟩:=I.tuple hx
   have gI:=r.length
   exact truthy_tuple pl (by simp only [bK]; omega) ⟨H,I.tok _,by rw [Py r]; exact q⟩
  ·subst e'
   obtain ⟨hz,hS,vs,r,m⟩:kvs.length<=sizeLine/\(p == sysModules)=false/\∃ vs,KV kvs vs/\s.heap.DictOf (uu X.prog X.w) p vs:=I.eW p _ hx
   have gI:kvs.length=vs.length:=Paired.length r
   exact wpAny_truthy_dict hS m (by omega) ⟨H,I.tok _,by rw [V0 r]; exact q⟩
 | _=>exact (show False from e).elim
theorem WP (ha:PE X a ta) (he:∀ jJ,isTrue a X.env jJ=(do let v <- jJ; standAt a.pos; holding [v] (truthy v))) :
    PT X a (fun σ H Q=>ta σ H fun x H'=>∃ k,An X.K x H' k/\Q k H'):=by
  intro ao s σ H Q I h
  exact isTrue_plain (fM (ha ao s σ H _ I h) fun v s1 ⟨x,H1,I1,r1,q1⟩=>YD ao s1 σ H1 x v Q I1 r1 q1) (he _)
theorem vals1 {x:V} {us:List Value} (r:dw [x] us):∃ u,us = [u]/\RelV x u:=by
 cases r with
 | cons r1 r2=>cases r2; exact ⟨_,rfl,r1⟩
theorem vals2 {x y:V} {us:List Value} (r:dw [x,y] us):∃ u w',us = [u,w']/\RelV x u/\RelV y w':=by
 cases r with
 | cons r1 r2 =>
  cases r2 with
  | cons r3 r4=>cases r4; exact ⟨_,_,rfl,r1,r3⟩
theorem Mw:lZ X (.builtin "abs") (fun xs H Q=>∃ i,xs = [.int i]/\Q (.int (if i<0 then -i else i)) H):=by
 intro ao s σ H xs us Q I r h
 obtain ⟨i,rfl,q⟩:=h
 obtain ⟨u,rfl,t,rfl⟩:=vals1 r
 exact call_abs_int fun u tk=>⟨.int (if i<0 then -i else i),H,I.tok _,⟨_,rfl⟩,q⟩
theorem Mr (hc:X.calm=true):lZ X (.builtin "min") (fun xs H Q=>∃ i j,xs = [.int i,.int j]/\Q (.int (if j<i then j else i)) H):=by
 intro ao s σ H xs us Q I r h
 obtain ⟨i,j,rfl,q⟩:=h
 obtain ⟨u,w',rfl,⟨t,rfl⟩,⟨t',rfl⟩⟩:=vals2 r
 refine min_two_ints (I.ok.hd hc) fun h' tk k=>⟨_,H,I.kept k,?_,q⟩
 by_cases hj:j<i
 ·rw [if_pos hj,if_pos hj]; exact ⟨_,rfl⟩
 ·rw [if_neg hj,if_neg hj]; exact ⟨_,rfl⟩
end
structure uE (h:Heap) (x dx C:Addr) (mA:Str->Option Value):Prop where
 obj:h.get? x=some (e5 C dx)
 ns:h.Ns1 dx mA
 ne:dx≠x
theorem Wn {h:Heap} {dx:Addr} {mA:Str->Option Value} (n:h.Ns1 dx mA):∃ od,h.get? dx=some od/\∀ name,k9 name od=some (mA name):=by
 obtain ⟨o,es,ep,ho,hd,hk,_,hm⟩:=n
 refine ⟨o,ho,fun name=>?_⟩
 have e:=hm name
 unfold nsFind findBy at e
 rw [<- Array.find?_toList] at e
 unfold k9
 rw [hd]
 dsimp only
 split
 ·rename_i y q
  rw [q] at e
  exact congrArg some e
 ·rename_i q
  rw [q] at e
  have a:es.toList.any (·.refKey)=false:=by
   rw [List.any_eq_false]
   intro y hy
   obtain ⟨z,t,KL⟩:=hk y (Array.mem_toList_iff.mp hy)
   simp [DictEntry.refKey,KL]
  have a':¬ es.toList.any (·.refKey)=true:=by rw [a]; exact bC
  rw [if_neg a']
  exact congrArg some e
theorem uE.look {h:Heap} {x dx C:Addr} {mA:Str->Option Value} (I:uE h x dx C mA):∃ od,PySem.W.InstAt h x (e5 C dx) C (some od)/\∀ name,k9 name od=some (mA name) :=
 let ⟨od,ho,hl⟩:=Wn I.ns
 ⟨od,⟨I.obj,rfl,rfl,ho⟩,hl⟩
section
variable {prog:Program} {w:World} {A:Around} {E:Value->Shared->Prop} {s:Shared} {K:ai} {x dx C f:Addr} {mA:Str->Option Value} {name:Str} {v:Value}
theorem Xy {Kc:Bool} {Q:Value->Shared->Prop} (X:K.In s.heap) (I:uE s.heap x dx C mA) (hg:jP K C name=true) (hh:jw K C=true)
    (ha:cJ K (.ref C) name=some none) (hv:mA name=some v) (Ut:xJ v=true) (h:Q v { s with toks:=s.toks+1 }) :
    wpAny (model prog w) A (getAttr (.ref x) name Kc) Q E s:=by
  obtain ⟨od,J,hl⟩:=I.look
  exact PySem.W.get_value X J (lN hg).1 (PySem.W.findObj_own hh ha rfl (by rw [hl,hv])) Ut h
theorem WQ {pl:Sem Bool} {Q:Value×List Value->Shared->Prop} (X:K.In s.heap) (I:uE s.heap x dx C mA) (hg:jP K C name=true)
    (hf:cJ K (.ref C) name=some (some (.ref f))) (ht:jV K (.ref f)=true) (hv:mA name=none) (h:Q (.ref f,[.ref x]) s) :
    wpAny (model prog w) A (getMethod (.ref x) name pl) Q E s:=by
  obtain ⟨od,J,hl⟩:=I.look
  exact PySem.W.method_fn X J (lN hg).1 (lN hg).2 hf (beq_iff_eq.mp ht) (by show (k9 name od).map (·.isSome)=some false; rw [hl,hv]; rfl) h
theorem Xz {ns:List Str} {Q:Unit->Shared->Prop} (X:K.In s.heap) (I:uE s.heap x dx C mA)
    (hs:cJ K (.ref C) "__setattr__" = some (some (.builtin "object.__setattr__"))) (hp:xr K C=true) (ht:o5 K C name=some none) (hh:jw K C=true)
    (hw:uF mA ns) (hsz:ns.length<=sizeLine)
    (h:∀ h',uE h' x dx C (fun y=>if y=name then some v else mA y)->Heap.SameBut dx s.heap h'->Q () { s with heap:=h',toks:=s.toks+2 }) :
    wpAny (model prog w) A (setAttr (.ref x) name v) Q E s:=by
  obtain ⟨od,J,hl⟩:=I.look
  refine PySem.W.set_plain X J hs (PySem.W.osa_open (s:={ s with toks:=s.toks+1 }) (r:=none) X J hp ht fun b=>?_)
  obtain ⟨cd,hc,Ks⟩:=PySem.W.any_some hh
  have hx:s.heap.get? x=some ⟨.ref C,some dx,.plain,#[]⟩:=I.obj
  refine wpAny_bind (wpAny_pure (wpAny_bind (wpAny_bind (wpAny_loadPart hx (wpAny_bind (PySem.W.Looks.here (s:={ s with toks:=s.toks+1 }) (PySem.W.looks_clsIn X hc) ?_))))))
  rw [Ks]
  refine wpAny_pure (a:=some dx) (wpAny_bind (wpAny_pure (wpAny_bind ?_)))
  refine wpAny_nsSet1 (s:={ s with toks:=s.toks+1 }) I.ns fun h' Ik Az=>?_
  obtain ⟨oD,ZC,ZB,Uh,T6,T5⟩:=Ik.count (PySem.Within.cons name v hw)
  refine wpAny_bind (wpAny_lookBehind Uh (by rw [T6]; exact pastItsLine_dict (cK T5 (by rw [aE]; omega))) ?_)
  exact wpAny_pure (h _ ⟨(Az.2 _ (dI I.ne)).trans I.obj,Ik,I.ne⟩ Az)
theorem WR {R:Result->Shared->Prop} {vs:List Value} {kw:List (Str×Value)} (X:K.In s.heap) (hm:o4 K C=true)
    (hi:cJ K (.ref C) "__init__" = some (some (.ref f))) (hf:PySem.W.typeIn K (.ref f)=some (.type "function"))
    (h:codeAny (model prog w) (A.under (.builtin "type.__call__" ⟨.ref C :: vs,kw⟩)) (.call (.ref f) ⟨.ref (s.heap.objs.size+1) :: vs,kw⟩) (PySem.W.InitBack (s.heap.objs.size+1) R)
      { s with heap:=(s.heap.push dR).push (e5 C s.heap.objs.size) }) :
    codeAny (model prog w) A (.call (.ref C) ⟨vs,kw⟩) R s:=by
  obtain ⟨hh,g,d,t,os⟩:=s
  exact PySem.W.make_core (PySem.W.makes_of X hm) (PySem.W.looks_findIn X hi) (fun self=>PySem.W.bind_fn X self hf) (.inl rfl) h
end
def bQ (f:Str) (v:V):List (Str×V)->List (Str×V)
 | []=>[(f,v)]
 | (g,x) :: r=>if g=f then (g,v) :: r else (g,x) :: bQ f v r
theorem lV (f g:Str) (v:V):∀ fs:List (Str×V),(bQ f v fs).lookup g=if g=f then some v else fs.lookup g
 | []=>by
  show ig g [(f,v)] = _
  by_cases h:g=f
  ·have hb:(g == f)=true:=beq_iff_eq.mpr h
   simp only [ig,hb,if_pos h]
  ·have hb:(g == f)=false:=beq_eq_false_iff_ne.mpr h
   simp only [ig,hb,if_neg h]
 | (k,x) :: r=>by
  have ih:=lV f g v r
  rw [show bQ f v ((k,x) :: r)=(if k=f then (k,v) :: r else (k,x) :: bQ f v r) from rfl]
  by_cases hk:k=f
  ·rw [if_pos hk]
   by_cases h:g=k
   ·have hb:(g == k)=true:=beq_iff_eq.mpr h
    simp only [ig,hb,if_pos (h.trans hk)]
   ·have hb:(g == k)=false:=beq_eq_false_iff_ne.mpr h
    simp only [ig,hb,if_neg (fun e:g=f=>h (e.trans hk.symm))]
  ·rw [if_neg hk]
   by_cases h:g=k
   ·have hb:(g == k)=true:=beq_iff_eq.mpr h
    simp only [ig,hb,if_neg (fun e:g=f=>hk (h.symm.trans e))]
   ·have hb:(g == k)=false:=beq_eq_false_iff_ne.mpr h
    simp only [ig,hb]
    exact ih
theorem Ms (f:Str) (v:V):∀ fs:List (Str×V),f∈(bQ f v fs).map (·.1)/\∀ g,g∈fs.map (·.1)->g∈(bQ f v fs).map (·.1)
 | []=>⟨by simp [bQ],fun g h=>by simp at h⟩
 | (k,x) :: r=>by
  obtain ⟨i1,i2⟩:=Ms f v r
  rw [show bQ f v ((k,x) :: r)=(if k=f then (k,v) :: r else (k,x) :: bQ f v r) from rfl]
  by_cases hk:k=f
  ·rw [if_pos hk]
   subst hk
   exact ⟨by simp,fun g h=>by simpa using h⟩
  ·rw [if_neg hk]
   refine ⟨?_,fun g h=>?_⟩
   ·rw [bD]
    exact aA _ i1
   ·rw [bD] at h ⊢
    rcases aM.mp h with e | e
    ·exact aM.mpr (.inl e)
    ·exact aA _ (i2 g e)
theorem Pk (f:Str) (v:V):∀ fs:List (Str×V),(bQ f v fs).length<=fs.length+1
 | []=>by simp [bQ]
 | (k,x) :: r=>by
  have ih:=Pk f v r
  rw [show bQ f v ((k,x) :: r)=(if k=f then (k,v) :: r else (k,x) :: bQ f v r) from rfl]
  by_cases hk:k=f
  ·rw [if_pos hk,aE,aE]; omega
  ·rw [if_neg hk,aE,aE]; omega
theorem li.some_of {v:V} {o:Option Value} (r:li (some v) o):∃ u,o=some u/\RelV v u:=by
 cases o with
 | none=>exact (show False from r).elim
 | some u=>exact ⟨u,rfl,r⟩
theorem li.none_of {o:Option Value} (r:li none o):o=none:=by
 cases o with
 | none=>rfl
 | some u=>exact (show False from r).elim
theorem Wo {v:V} {u:Value} (r:RelV v u):xJ u=true:=by
 cases v with
 | iJ=>cases (show u=Value.none from r); rfl
 | bl b=>cases (show u=Value.bool b from r); rfl
 | int i=>obtain ⟨t,e⟩:=(show ∃ t,u=Value.int i t from r); cases e; rfl
 | str x=>obtain ⟨t,e⟩:=(show ∃ t,u=Value.str x t from r); cases e; rfl
 | vm b=>obtain ⟨t,e⟩:=(show ∃ t,u=Value.bytes b t from r); cases e; rfl
 | wz b=>obtain ⟨t,e⟩:=(show ∃ t,u=Value.float b t from r); cases e; rfl
 | ref a=>cases (show u=Value.ref a from r); rfl
 | ty n=>cases (show u=Value.type n from r); rfl
section
variable {P:Program} {w:World} {H H':Hp} {h h':Heap} {a C dx:Addr} {fs Ib:List (Str×V)}
theorem MG (eW:lK P w H h) (e:H a=some (.ins C dx fs)):∃ mA,uE h a dx C mA/\(∀ f,li (fs.lookup f) (mA f))/\uF mA (fs.map (·.1))/\fs.length<=1000/\H dx=some (.own a):=by
 obtain ⟨d,z,ne,ob,mA,n,r,q⟩:=(show gF P w H h a (.ins C dx fs) from eW a _ e)
 exact ⟨mA,⟨ob,n,ne⟩,r,q,z,d⟩
end
structure vU (K:ai) (C:Addr):Prop where
 pg:jP K C Str.empty=true
 hd:jw K C=true
 po:xr K C=true
 sa:cJ K (.ref C) "__setattr__" = some (some (.builtin "object.__setattr__"))
theorem vU.get {K:ai} {C:Addr} (c:vU K C) (f:Str):jP K C f=true:=c.pg
def g7 (K:ai) (C:Addr) (f:Str):Prop:=cJ K (.ref C) f=some none
theorem g7.Hf {K:ai} {C:Addr} {f:Str} (n:g7 K C f):o5 K C f=some none:=by
 unfold o5
 rw [show cJ K (.ref C) f=some none from n]
 rfl
structure CB (K:ai) (C:Addr) (m:Str) (f:Addr):Prop where
 at_:cJ K (.ref C) m=some (some (.ref f))
 fn:jV K (.ref f)=true
 kp:d9 K (.ref f)=true
section
variable {X:Cx} {ao:List (Addr×Obj)} {σ:St} {H:Hp} {s:Shared} {a C dx:Addr} {fs:List (Str×V)} {f:Str} {v:V} {A:Around} {E:Value->Shared->Prop}
theorem V1 {b:Bool} {Q:Value->Shared->Prop} (I:Inv X ao σ H s) (e:H a=some (.ins C dx fs)) (c:vU X.K C) (n:g7 X.K C f) (l:fs.lookup f=some v)
    (h:∀ u s',Inv X ao σ H s'->RelV v u->Q u s'):wpAny (model X.prog X.w) A (getAttr (.ref a) f b) Q E s:=by
  obtain ⟨mA,O,r,_,_,_⟩:=MG I.eW e
  obtain ⟨u,hu,ru⟩:=li.some_of (v:=v) (o:=mA f) (by rw [<- l]; exact r f)
  exact Xy I.vz O (c.get f) c.hd n hu (Wo ru) (h u _ (I.tok _) ru)
theorem V2 {m:Str} {g:Addr} {pl:Sem Bool} {Q:Value×List Value->Shared->Prop} (I:Inv X ao σ H s) (e:H a=some (.ins C dx fs)) (c:vU X.K C) (k:CB X.K C m g) (l:fs.lookup m=none)
    (h:Q (.ref g,[.ref a]) s):wpAny (model X.prog X.w) A (getMethod (.ref a) m pl) Q E s:=by
  obtain ⟨mA,O,r,_,_,_⟩:=MG I.eW e
  have hn:mA m=none:=li.none_of (by rw [<- l]; exact r m)
  exact WQ I.vz O (c.get m) k.at_ k.fn hn h
theorem V3 {y:V} {u:Value} {Q:Unit->Shared->Prop} (I:Inv X ao σ H s) (e:H a=some (.ins C dx fs)) (c:vU X.K C) (n:g7 X.K C f) (hl:fs.length<1000) (ry:RelV y u)
    (h:∀ s',Inv X ao σ (aQ H a (.ins C dx (bQ f y fs))) s'->Q () s'):wpAny (model X.prog X.w) A (setAttr (.ref a) f u) Q E s:=by
  obtain ⟨mA,O,r,wi,_,ho⟩:=MG I.eW e
  have hz:(fs.map (·.1)).length<=sizeLine:=by rw [ae,sizeLine_eq]; omega
  refine Xz I.vz O c.sa c.po n.Hf c.hd wi hz fun h' O' sb=>h _ ?_
  have hd:∃ o,h'.get? dx=some o:=let ⟨o,_,_,e',_⟩:=O'.ns; ⟨o,e'⟩
  refine I.write (x:=a) (e:=dx) (by rw [e]; exact aN) (.inr ho) (fun b q hb z=>(sb.2 b hb).trans z) hd ?_
  refine ⟨by rw [c8 O.ne]; exact ho,?_,O.ne,O'.obj,_,O'.ns,fun g=>?_,fun g hg=>?_⟩
  · have:=Pk f y fs; omega
  · show li ((bQ f y fs).lookup g) (if g=f then some u else mA g)
    rw [lV]
    by_cases q:g=f
    · rw [if_pos q,if_pos q]; exact ry
    · rw [if_neg q,if_neg q]; exact r g
  · by_cases q:g=f
    · rw [q]; exact (Ms f y fs).1
    · refine (Ms f y fs).2 g (wi g fun z=>hg ?_)
      show (if g=f then some u else mA g)=none
      rw [if_neg q]; exact z
theorem Inv.made (I:Inv X ao σ H s):Inv X ao σ (aQ (aQ H s.heap.objs.size (.own (s.heap.objs.size+1))) (s.heap.objs.size+1) (.ins C s.heap.objs.size []))
    { s with heap:=(s.heap.push dR).push (e5 C s.heap.objs.size) }:=by
  have e1:(s.heap.push dR).get? s.heap.objs.size=some dR:=Heap.get?_push_size s.heap rfl
  have e2:((s.heap.push dR).push (e5 C s.heap.objs.size)).get? (s.heap.objs.size+1)=some (e5 C s.heap.objs.size):=by
    have:=Heap.get?_push_size (s.heap.push dR) (o:=e5 C s.heap.objs.size) rfl
    rwa [Heap.size_push] at this
  have e3:(s.heap.push dR).Ns s.heap.objs.size (fun _=>none):=⟨dR,#[],_,e1,rfl,(fun e he=>absurd he (by simp)),fun _=>rfl⟩
  have I1:=I.laid (a:=s.heap.objs.size) (o:=.own (s.heap.objs.size+1)) (h':=s.heap.push dR) (t':=s.toks) (fun b u q=>Heap.get?_push_of_some _ q) (av _) ⟨_,e1⟩
  refine I1.laid (a:=s.heap.objs.size+1) (o:=.ins C s.heap.objs.size []) (t':=s.toks) (fun b u q=>Heap.get?_push_of_some _ q) (Nat.le_of_eq (Heap.size_push _ _)) ?_
  have ne:s.heap.objs.size≠s.heap.objs.size+1:=bL (CC _)
  refine ⟨by rw [c8 ne,cO],bR _,ne,e2,fun _=>none,(Heap.Ns1.of_empty e3).at fun o q=>Heap.get?_push_of_some _ q,fun _=>aN,fun y hy=>absurd rfl hy⟩
theorem XA {prog:Program} {w:World} {env:Env} {e:Expr} {f:Str} {pos:Pos} {s:Shared} {Q:Value->Shared->Prop} (hb:attributeBase e f env (eval e env)=eval e env)
    (h:wpAny (model prog w) A (eval e env) (fun o s₁=>wpAny (model prog w) A (getAttr o f true) Q E s₁) E s):wpAny (model prog w) A (eval (.Attribute e f pos) env) Q E s :=
  Attribute_any_ h (by rw [arm_eval_Attribute,hb])
end
def G5 (K:ai) (ta:TE) (f:Str):TE:=fun σ H Q=>ta σ H fun x H1=>∃ a C dx fs v,x = .ref a/\H1 a=some (.ins C dx fs)/\vU K C/\g7 K C f/\fs.lookup f=some v/\Q v H1
def GS (K:ai) (ta tv:TE) (f:Str):TS:=fun D σ H=>tv σ H fun y H1=>ta σ H1 fun x H2=>∃ a C dx fs,x = .ref a/\H2 a=some (.ins C dx fs)/\vU K C/\g7 K C f/\fs.length<1000 /\
 D.nx σ (aQ H2 a (.ins C dx (bQ f y fs)))
section
variable {X:Cx} {o e value:Expr} {f:Str} {pos lP rT:Pos} {ta tv:TE}
theorem Cj (he:PE X e ta) (hb:attributeBase e f X.env (eval e X.env)=eval e X.env):PE X (.Attribute e f pos) (G5 X.K ta f):=by
 intro ao s σ H Q I h
 refine XA hb (fM (he ao s σ H _ I h) fun u s1 ⟨x,H1,I1,rx,a,C,dx,fs,v,ex,ea,c,n,l,q⟩=>?_)
 subst ex
 obtain rfl:u=Value.ref a:=rx
 exact V1 I1 ea c n l fun u' s2 I2 ru=>⟨v,H1,I2,ru,q⟩
theorem DS (ha:PE X o ta) (hv:PE X value tv) (hs:swapsWith value (some (.Attribute o f lP)) pos.line X.env=pure false):PS X (.Assign [.Attribute o f lP] value pos) (GS X.K ta tv f):=by
 intro ao s σ H D I h
 refine plainObj_wpAny_Assign_Attribute (fM (hv ao s σ H _ I h) fun u s1 ⟨y,H1,I1,ry,q⟩=>fM (ha ao s1 σ H1 _ I1 q) fun ov s2 ⟨x,H2,I2,rx,a,C,dx,fs,ex,ea,c,n,l,q2⟩=>?_) hs
 subst ex
 obtain rfl:ov=Value.ref a:=rx
 exact V3 I2 ea c n l ry fun s3 I3=>⟨σ,_,I3,q2⟩
end
section
variable {X:Cx} {ao:List (Addr×Obj)} {σ:St} {H:Hp} {s:Shared} {A:Around} {E:Value->Shared->Prop} {Q:Value->Shared->Prop} {c:Value} {b:Bool}
end
structure iy (k:Nat) (A:Around):Prop where
 hd:A.handled=none
 dp:A.depth+3*k+5<recursionLimit
 un:A.units+16*k+200<cLine
theorem iy.mono {j k:Nat} {A:Around} (r:iy k A) (h:j<=k):iy j A:=⟨r.hd,by have:=r.dp; omega,by have:=r.un; omega⟩
theorem iy.deeper {k:Nat} {A:Around} (r:iy (k+1) A) (env:Env):iy k (A.deeper env) :=
 ⟨r.hd,by have:=r.dp; show A.depth+1+3*k+5 < _; omega,by have:=r.un; show A.units+3+16*k+200 < _; omega⟩
theorem V4 {A:Around} {C:Addr} {us:List Value} {kw:List (Str×Value)}:(A.under (.builtin "type.__call__" ⟨.ref C :: us,kw⟩)).depth=A.depth+1:=by
 first | rfl | simp [Around.under,Code.weight,Code.isCreation,Code.isGuard,Code.isCaller,Code.frames,Code.isFrame,guardIds]
theorem V5 {A:Around} {C:Addr} {us:List Value} {kw:List (Str×Value)}:(A.under (.builtin "type.__call__" ⟨.ref C :: us,kw⟩)).units=A.units+1:=by
 first | rfl | simp [Around.under,Code.cUnits,Code.frames,Code.isFrame]
theorem iy.make {k:Nat} {A:Around} (r:iy (k+1) A) (C:Addr) (us:List Value) (kw:List (Str×Value)):iy k (A.under (.builtin "type.__call__" ⟨.ref C :: us,kw⟩)) :=
 ⟨r.hd,by have:=r.dp; rw [V4]; omega,by have:=r.un; rw [V5]; omega⟩
theorem iy.depth {k:Nat} {A:Around} (r:iy k A):A.depth<recursionLimit:=by have:=r.dp; omega
theorem iy.units {k:Nat} {A:Around} (r:iy k A):A.units+64<cLine:=by have:=r.un; omega
def yR:TA:=fun _ H Q=>Q [] H
def tX (ta:TE) (tr:TA):TA:=fun σ H Q=>ta σ H fun x H1=>tr σ H1 fun xs H2=>Q (x :: xs) H2
section
variable {X:Cx} {e:Expr} {es:List Expr} {te:TE} {t:TA} {pos:Pos}
theorem bU:PA X [] yR:=fun _ _ _ _ H Q I h=>Calls.spliced_nil ⟨[],H,I,.nil,h⟩
theorem aS (ha:PE X e te) (hr:PA X es t) (hs:starEach (e :: es) X.env=(false,eval e X.env) :: starEach es X.env:=by rfl):PA X (e :: es) (tX te t):=by
 intro pos ao s σ H Q I h
 rw [hs]
 show wpAny _ _ (spliced ((false,eval e X.env) :: backTo pos (starEach es X.env))) _ _ s
 refine Calls.spliced_cons (fM (ha ao s σ H _ I h) fun u s1 ⟨x,H1,I1,r1,q1⟩=>?_)
 exact fM (hr pos ao s1 σ H1 _ I1 q1) fun us s2 ⟨xs,H2,I2,r2,q2⟩=>⟨x :: xs,H2,I2,.cons r1 r2,q2⟩
def DC (t:TA):TE:=fun σ H Q=>t σ H fun xs H1=>xs.length<=sizeLine/\∀ p,H1 p=none->Q (.ref p) (aQ H1 p (.tup xs))
def AZ (t:TA):TE:=fun σ H Q=>t σ H fun xs H1=>xs.length<=sizeLine/\∀ p,H1 p=none->Q (.ref p) (aQ H1 p (.lst xs))
theorem lI {x1} (h:PA X es t):PE X (.Tuple es x1 pos) (DC t):=by
 intro ao s σ H Q I hq
 refine wpAny_Tuple_spliced (fM (h pos ao s σ H _ I hq) fun us s1 ⟨xs,H1,I1,r,z,q⟩=>⟨by rw [<- r.length]; exact z,?_⟩)
 have hf:H1 s1.heap.objs.size=none:=I1.eW.fresh (av _)
 refine ⟨.ref s1.heap.objs.size,aQ H1 s1.heap.objs.size (.tup xs),I1.laid (t':=s1.toks) (fun b u e=>Heap.get?_push_of_some _ e) (av _) ?_,rfl,q _ hf⟩
 exact ⟨z,us,r,⟨_,Heap.get?_push_size _ rfl,rfl,_,rfl⟩⟩
theorem su (h:PA X es t):PE X (.List es pos) (AZ t):=by
 intro ao s σ H Q I hq
 refine wpAny_List_spliced (fM (h pos ao s σ H _ I hq) fun us s1 ⟨xs,H1,I1,r,z,q⟩=>⟨by rw [<- r.length]; exact z,?_⟩)
 have hf:H1 s1.heap.objs.size=none:=I1.eW.fresh (av _)
 refine ⟨.ref s1.heap.objs.size,aQ H1 s1.heap.objs.size (.lst xs),I1.laid (t':=s1.toks) (fun b u e=>Heap.get?_push_of_some _ e) (av _) ?_,rfl,q _ hf⟩
 exact ⟨z,us,0,r,Heap.get?_push_size _ rfl⟩
end
abbrev Sp:=List V->Hp->VK->XK->Prop
abbrev pT:=List Env->Hp->Shared->XK->Value->Shared->Prop
structure uB (P:Program) (w:World) (K:ai) (mg:Str->Option Value) (base:Heap) (A:Around) (outer:List Env) (s:Shared) (H:Hp):Prop where
 frames:A.frames=some outer
 mod:Mod K mg base
 bs:∀ b o,base.get? b=some o->s.heap.get? b=some o/\H b=none
 xQ:base.objs.size<=s.heap.objs.size
 nX:s.heap.FunFrames base outer
 CS:∀ b∈wB outer,H b=none
 eW:lK P w H s.heap
 bare:AllBare s.gens
def CE (outer:List Env) (P:Program) (w:World) (H:Hp) (s:Shared) (Q:VK) (u:Value) (s':Shared):Prop :=
 ∃ v H',s'.os=s.os/\AllBare s'.gens/\Un (wB outer) [] H H' s.heap s'.heap/\lK P w H' s'.heap/\RelV v u/\Q v H'
def CR (CX:pT) (outer:List Env) (P:Program) (w:World) (H:Hp) (s:Shared) (Q:VK) (E:XK) (r:Result) (s':Shared):Prop :=
 match r with
 | .ok (.ret u)=>CE outer P w H s Q u s'
 | .ok _=>False
 | .error e=>CX outer H s E e s'
structure nN (P:Program) (w:World) (K:ai) (mg:Str->Option Value) (base:Heap) (CX:pT) (k:Nat) (f:Addr) (fd:FuncData) (ps:List Str) (sp:Sp):Prop where
 len:∀ vs H Q E,sp vs H Q E->vs.length=ps.length
 run:∀ (A:Around) (outer:List Env) (s:Shared) (H:Hp) (args:Args) (us:List Value) (vs:List V) (Q:VK) (E:XK),iy k A->uB P w K mg base A outer s H->BindsTo s fd args (ps.zip us)->dw vs us->sp vs H Q E ->
  codeAny (model P w) A (.call (.ref f) args) (CR CX outer P w H s Q E) s
theorem uB.make {P:Program} {w:World} {K:ai} {mg:Str->Option Value} {base:Heap} {A:Around} {outer:List Env} {s:Shared} {H:Hp} (e:uB P w K mg base A outer s H) (C:Addr) (us:List Value) (kw:List (Str×Value)) :
    uB P w K mg base (A.under (.builtin "type.__call__" ⟨.ref C :: us,kw⟩)) outer s H:=⟨by first | exact e.frames | (simpa [Around.under,Code.envs,Code.isFrame,pushEnvs] using e.frames),e.mod,e.bs,e.xQ,e.nX,e.CS,e.eW,e.bare⟩
section
variable {X:Cx} {ao:List (Addr×Obj)} {σ:St} {H:Hp} {s s':Shared}
theorem Inv.CQ (I:Inv X ao σ H s):uB X.prog X.w X.K X.mg X.base X.A X.stack s H :=
 ⟨I.ok.frames,I.ok.mod,I.bs,cK I.ok.xQ I.sz,I.stack,I.rQ,I.eW,I.bare⟩
theorem Inv.after {Q:VK} {u:Value} (I:Inv X ao σ H s) (h:CE X.stack X.prog X.w H s Q u s'):EP X ao σ Q u s':=by
 obtain ⟨v,H',os,bare,un,eW,r,q⟩:=h
 obtain ⟨hh,g,d,t,UZ⟩:=s'
 obtain rfl:UZ=s.os:=os
 exact ⟨v,H',I.call (h':=hh) (g':=g) (d':=d) (t':=t) (ch:=[]) un eW bare (fun b z=>absurd z (by simp)),r,q⟩
end
def B4 (sp:Sp) (j4:List V) (E:XK) (t:TA):TE:=fun σ H Q=>t σ H fun vs H1=>sp (vs++j4) H1 Q E
def Binds (K:ai) (fd:FuncData) (ps:List Str) (ds:List Value):Prop :=
 ∀ (s:Shared) (us:List Value),K.In s.heap->(us++ds).length=ps.length->BindsTo s fd ⟨us,[]⟩ (ps.zip (us++ds))
theorem Binds.all {K:ai} {fd:FuncData} {ps:List Str} (h:∀ us:List Value,us.length=ps.length->bindArgs fd ⟨us,[]⟩ = pure (ps.zip us)):Binds K fd ps []:=fun s us _ hl=>by
 rw [bx] at hl ⊢
 exact .of_eq (h us hl)
section
variable {X:Cx} {CX:pT} {k:Nat} {f C:Addr} {fd:FuncData} {ps:List Str} {sp:Sp} {j4:List V} {ds:List Value} {E:XK} {x m:Str} {p pos ku:Pos} {e o:Expr} {es:List Expr} {ta:TE} {t:TA}
structure Mk (K:ai) (C f:Addr):Prop where
 makes:o4 K C=true
 init:cJ K (.ref C) "__init__" = some (some (.ref f))
 fn:jV K (.ref f)=true
 kp:d9 K (.ref C)=true
end
section
variable {X:Cx} {CX:pT} {k:Nat} {f C:Addr} {fd:FuncData} {ps ks:List Str} {sp:Sp} {E:XK} {x m:Str} {p pos ku UC:Pos} {e o:Expr} {es:List Expr} {ZQ:List Keyword} {te ta:TE} {t tk:TA} {nm:Option Str}
variable {g:List Value->List Value->List Value} {gV:List V->List V->List V}
end
structure bP (N P:List Str) (sc:Scope):Prop where
 kind:sc.kind = .function
 co:sc.isCoroutine=false
 gen:sc.isGenerator=false
 nd:N.Nodup
 pre:N.take P.length=P
 par:∀ x∈P,sc.names.lookup x=some .local\/sc.names.lookup x=some .cell
 Dg:∀ y∈sc.names,y.2≠.free
theorem P1 {kindOf:Str->Option NameKind} {x:Str}:∀ {binds:List (Str×Value)} {m:Str->Option Value},(∀ v,(x,v) ∉ binds)->bindL kindOf binds m x=m x
 | [],_,_=>rfl
 | (n,v) :: r,m,h=>by
  unfold bindL
  rw [P1 fun w hw=>h w (aA _ hw)]
  split
  ·have:x≠n:=by rintro rfl; exact h v ic
   simp [this]
  ·rfl
theorem P4 {kindOf:Str->Option NameKind} {x:Str}:∀ {binds:List (Str×Value)} {m:Str->Option Value},(∀ v,(x,v) ∉ binds)->bindC kindOf binds m x=m x
 | [],_,_=>rfl
 | (n,v) :: r,m,h=>by
  unfold bindC
  rw [P4 fun w hw=>h w (aA _ hw)]
  split
  ·rfl
  ·have:x≠n:=by rintro rfl; exact h v ic
   simp [this]
theorem P6 {kindOf:Str->Option NameKind} {x:Str} {v:Value}:∀ {P:List Str} {vs:List Value} {i:Nat} {m:Str->Option Value},P.Nodup->P[i]? = some x->vs[i]? = some v->kindOf x=some .local ->
    bindL kindOf (P.zip vs) m x=some v
  | [],_,_,_,_,h,_,_=>by simp at h
  | _ :: _,[],_,_,_,_,h,_=>by simp at h
  | p :: P,w :: vs,0,m,nd,h1,h2,hk=>by
    simp at h1 h2; subst h1; subst h2
    show bindL kindOf ((p,w) :: P.zip vs) m p = _
    unfold bindL
    rw [P1 fun v hv=>(i8.mp nd).1 (qk hv).1,if_pos hk]
    simp
  | p :: P,w :: vs,i+1,m,nd,h1,h2,hk=>by
    show bindL kindOf ((p,w) :: P.zip vs) m x = _
    unfold bindL
    exact P6 (i:=i) (i8.mp nd).2 (by simpa using h1) (by simpa using h2) hk
theorem P7 {kindOf:Str->Option NameKind} {x:Str} {v:Value}:∀ {P:List Str} {vs:List Value} {i:Nat} {m:Str->Option Value},P.Nodup->P[i]? = some x->vs[i]? = some v->kindOf x≠some .local ->
    bindC kindOf (P.zip vs) m x=some v
  | [],_,_,_,_,h,_,_=>by simp at h
  | _ :: _,[],_,_,_,_,h,_=>by simp at h
  | p :: P,w :: vs,0,m,nd,h1,h2,hk=>by
    simp at h1 h2; subst h1; subst h2
    show bindC kindOf ((p,w) :: P.zip vs) m p = _
    unfold bindC
    rw [P4 fun v hv=>(i8.mp nd).1 (qk hv).1,if_neg hk]
    simp
  | p :: P,w :: vs,i+1,m,nd,h1,h2,hk=>by
    show bindC kindOf ((p,w) :: P.zip vs) m x = _
    unfold bindC
    exact P7 (i:=i) (i8.mp nd).2 (by simpa using h1) (by simpa using h2) hk
def start (N:List Str) (vs:List V):St:=vs.map some++gD (N.length-vs.length) none
def qV (CX:pT) (P:Program) (w:World) (K:ai) (mg:Str->Option Value) (base:Heap) (N:List Str) (dS:Str) (scope:Scope) (f:Addr) (cd:Value) (A:Around) (outer:List Env) (s:Shared) (H:Hp) (E:XK):Cx where
 prog:=P
 w:=w
 K:=K
 mg:=mg
 base:=base
 A:=A.deeper (envOfC dS scope s.heap.objs.size f cd)
 N:=N
 s₀:=s
 H₀:=H
 env:=envOfC dS scope s.heap.objs.size f cd
 outer:=outer
 stack:=envOfC dS scope s.heap.objs.size f cd :: outer
 ex:=[]
 calm:=true
 fn:=fun _=>true
 pn:=[]
 xe:=fun e s'=>wpAny (model P w) (A.deeper (envOfC dS scope s.heap.objs.size f cd)) (leaving (envOfC dS scope s.heap.objs.size f cd) e) (fun _ LR=>CX outer H s E e LR) (fun e' LR=>CX outer H s E e' LR) s'
theorem Qz {sc:Scope} {n:Nat} {x:Str} (h:sc.names.lookup x=some .cell):∃ c,(cellsFrom n sc.names []).lookup x=some c:=by
 have q:=sL sc.names n [] (.inl h)
 exact gQ.mp q
theorem Wp {CX:pT} {P:Program} {w:World} {K:ai} {mg:Str->Option Value} {base:Heap} {N ps:List Str} {dS:Str} {scope:Scope} {f:Addr} {cd:Value} {A:Around} {outer:List Env} {s s1:Shared} {H:Hp} {E:XK} {us:List Value} {vs:List V}
    (S:bP N ps scope) (hd:A.handled=none) (e0:uB P w K mg base A outer s H) (hl:vs.length=ps.length) (r:dw vs us)
    (x:InCallC s s.heap.objs.size (bindL (envOfC dS scope s.heap.objs.size f cd).kindOf (ps.zip us) fun _=>none) (cellsFrom (s.heap.objs.size+1) scope.names []) (bindC (envOfC dS scope s.heap.objs.size f cd).kindOf (ps.zip us) fun _=>none) s1) :
    Inv (qV CX P w K mg base N dS scope f cd A outer s H E) [] (start N vs) H s1:=by
  have pY:ps.length<=N.length:=by have:=congrArg List.length S.pre; rw [bZ] at this; omega
  obtain ⟨h1,tk,rfl,hk⟩:=x.done
  have Gw:∀ b:Addr,b ∉ (qV CX P w K mg base N dS scope f cd A outer s H E).ex:=fun b z=>absurd (show b∈([]:List Addr) from z) (by simp)
  refine ⟨⟨e0.mod,S.kind,rfl,rfl,av _,fun y z c h1 h2=>?_,fun y hy=>?_,fun y c _ h=>?_,fun _=>hd,Around.frames_deeper e0.frames,.inr ⟨rfl,rfl⟩,fun b z=>absurd z (Gw b),e0.bs,e0.xQ,fun b _ _=>Gw b,fun b z=>absurd z (Gw b),e0.nX,e0.CS⟩,
    rfl,e0.bare,Un.kept hk,⟨_,x.toInCall.ns,fun i y v h1 h2 h3=>?_⟩,fun y c h=>⟨_,x.cell y c h⟩,e0.eW.fresh (av _),fun y c h=>?_,fun p hp=>absurd (show p∈([]:List (Addr×Obj)) from hp) (by simp),e0.eW.kept hk,?_⟩
  · exact name_of_addr x.apart (eL h1) (eL h2)
  · have hy:scope.names.lookup y=some .cell\/scope.names.lookup y=some .free:=hy
    rcases hy with hy | hy
    · exact Qz hy
    · exact absurd rfl (S.Dg _ (eL hy))
  · exact oX (x.above y c (eL h))
  · have hi:i<vs.length:=by
      unfold start at h2
      by_cases hi:i<vs.length
      · exact hi
      · rw [bW (by simpa using hi)] at h2
        rw [jY] at h2
        split at h2 <;> cases h2
    have ha:vs[i]? = some v:=by
      unfold start at h2
      rw [e9 (by simpa using hi),bh] at h2
      cases e:vs[i]? with
      | none=>rw [e] at h2; cases h2
      | some a=>rw [e] at h2; cases h2; rfl
    obtain ⟨u,hu,rv⟩:=r.get ha
    have hp:ps[i]? = some y:=by
      rw [<- S.pre,List.getElem?_take_of_lt (by omega)]; exact h1
    have Ox:ps.Nodup:=by rw [<- S.pre]; exact S.nd.sublist (List.take_sublist _ _)
    refine ⟨u,rv,?_⟩
    rcases S.par y (aq hp) with k | k
    · exact .inl ⟨k,P6 Ox hp hu k⟩
    · obtain ⟨c,e⟩:=Qz (n:=s.heap.objs.size+1) k
      refine .inr ⟨.inl k,c,e,?_⟩
      have q:=x.cell y c e
      rw [P7 Ox hp hu (by show scope.names.lookup y≠_; rw [k]; decide)] at q
      exact q
  · exact e0.eW.fresh (oX (x.above y c (eL h)))
  · unfold start
    show _=N.length
    rw [aO,ae,List.length_replicate]
    omega
theorem vp {CX:pT} {P:Program} {w:World} {K:ai} {mg:Str->Option Value} {base:Heap} {k:Nat} {f:Addr} {name dS:Str} {params:Arguments} {body:List Stmt} {scope:Scope} {dV kV mj pm e6 ct oc:Value} {an od:Option Addr}
    {sj:Array (Option Value)} {N ps:List Str} {sp:Sp} (lk:K.lookup f=some ⟨oc,od,.func (c9 name dS params body scope dV kV mj pm an e6 ct),sj⟩) (tw:eU K e6 dS=true) (S:bP N ps scope)
    (len:∀ vs H Q E,sp vs H Q E->vs.length=ps.length)
    (mz:∀ (A:Around) (outer:List Env) (s:Shared) (H:Hp) (vs:List V) (Q:VK) (E:XK),iy k (A.deeper (envOfC dS scope s.heap.objs.size f e6))->sp vs H Q E ->
      ∃ t,r6 (qV CX P w K mg base N dS scope f e6 A outer s H E) body t/\t { nx:=fun _ H'=>Q .iJ H',rt:=Q } (start N vs) H) :
    nN P w K mg base CX (k+1) f (c9 name dS params body scope dV kV mj pm an e6 ct) ps sp:=by
  refine ⟨len,fun A outer s H args us vs Q E hr e0 hb r qA=>?_⟩
  have hl:=len _ _ _ _ qA
  have KX:K.In s.heap:=e0.mod.Iu.keeps fun b o e=>(e0.bs b o e).1
  have lim:s.heap.NoLimit:=e0.mod.nolimit.keeps fun b o e=>(e0.bs b o e).1
  have gx:∀ y∈ps.zip us,scope.names.lookup y.1=some .local\/(scope.names.lookup y.1=some .cell/\((cellsFrom (s.heap.objs.size+1) scope.names []).lookup y.1).isSome=true):=fun ⟨n,v⟩ hy=>by
    rcases S.par n (qk hy).1 with q | q
    · exact .inl q
    · exact .inr ⟨q,sL _ _ _ (.inl q)⟩
  refine codeAny_call_function hr.depth (KX _ _ lk) rfl S.co S.gen rfl (PySem.W.codeRec_of KX tw) (hb _ _ _ _ ?_)
  refine wpAny_newFunctionEnv_cells S.kind gx fun env he s1 x=>?_
  subst he
  refine ⟨lim.keeps x.toInCall.keep,codeAny_func ?_⟩
  obtain ⟨t,ht,hq⟩:=mz A outer s H vs Q E (hr.deeper _) qA
  have I:Inv (qV CX P w K mg base N dS scope f e6 A outer s H E) [] (start N vs) H s1:=Wp S hr.hd e0 hl r x
  refine wpAny_mono (ht [] s1 (start N vs) H _ I hq) (fun fl s' hs=>?_) fun e s' hs=>hs
  have fin:∀ {σ':St} {H':Hp} {v:V} {u:Value},Inv (qV CX P w K mg base N dS scope f e6 A outer s H E) [] σ' H' s'->RelV v u->Q v H'->CE outer P w H s Q u s' :=
    fun {σ' H' v u} J rv q=>⟨v,H',J.os,J.bare,J.base,J.eW,rv,q⟩
  cases fl with
  | ret u =>
    obtain ⟨v,σ',H',J,rv,q⟩:=hs
    exact fin J rv q
  | next =>
    obtain ⟨σ',H',J,q⟩:=hs
    exact fin (v:=V.iJ) (u:=Value.none) J rfl q
  | brk =>
    obtain ⟨_,_,_,q⟩:=hs
    exact bV q
  | cont =>
    obtain ⟨_,_,_,q⟩:=hs
    exact bV q
section
variable {X:Cx} {x:Str} {p pos:Pos} {e:Expr} {es:List Expr} {t:TA} {id T:String} {r:List V->Hp->VK->Prop}
def II (r:List V->Hp->VK->Prop) (t:TA):TE:=fun σ H Q=>t σ H fun vs H1=>r vs H1 Q
theorem vR (hc:lZ X (.builtin id) r) (hg:Gl X x) (hm:X.mg x=none) (hv:bootBuiltins x=some (.builtin id)) (ha:PA X (e :: es) t) (hn:x ≠ "__name__" := by decide) (CW:(x == ("__debug__" : Str))=false:=by decide)
    (he:starEach (e :: es) X.env=(false,eval e X.env) :: starEach es X.env:=by rfl) (pY:(backTo pos (starEach es X.env)).any (·.1)=false:=by rfl):PE X (.Call (.Name x p) (e :: es) [] pos) (II r t):=by
  intro ao s σ H Q I h
  refine wpAny_Call_Name_kw (DQ I hg hm hv ?_ hn CW)
  exact PyProof.Rows.callWith_builtin1 (fM (ha pos ao s σ H _ I h) fun us s1 ⟨vs,H1,I1,r1,q1⟩=>hc ao s1 σ H1 vs us Q I1 r1 q1) he pY
theorem IX (hc:lZ X (.type T) r) (hg:Gl X x) (hm:X.mg x=none) (hv:bootBuiltins x=some (.type T)) (ha:PA X (e :: es) t) (hn:x ≠ "__name__" := by decide) (CW:(x == ("__debug__" : Str))=false:=by decide)
    (he:starEach (e :: es) X.env=(false,eval e X.env) :: starEach es X.env:=by rfl) (pY:(backTo pos (starEach es X.env)).any (·.1)=false:=by rfl):PE X (.Call (.Name x p) (e :: es) [] pos) (II r t):=by
  intro ao s σ H Q I h
  refine wpAny_Call_Name_kw (DQ I hg hm hv ?_ hn CW)
  exact dB (fM (ha pos ao s σ H _ I h) fun us s1 ⟨vs,H1,I1,r1,q1⟩=>hc ao s1 σ H1 vs us Q I1 r1 q1) he pY
end
end L2
namespace HT
open PySem PyProof.Rows
section
open PySem.SeqAt
open PySem.AutoSeq1 (wpAny_loadPart')
open PySem.MeetsSeq PySem.MeetsSeq2 PySem.MeetsSeq3
end
section
variable {prog:Program} {w:World} {A:Around} {E:Value->Shared->Prop} {s:Shared}
def rJ (n d:Nat):Option Int->Nat
 | none=>d
 | some v=>if v<0 then (v+(n:Int)).toNat else min v.toNat n
theorem vH (n d k:Nat):rJ n d (some (k:Int))=min k n:=by
 show (if (k:Int)<0 then ((k:Int)+(n:Int)).toNat else min (k:Int).toNat n)=min k n
 rw [if_neg (by omega),oV]
end
end HT
namespace L2
open PySem PySem.Spec PyProof.Rows
abbrev TO:=St->Hp->(Option Int->Hp->Prop)->Prop
def PO (X:Cx) (e:Option Expr) (t:TO):Prop :=
 ∀ (ao:List (Addr×Obj)) (s:Shared) (σ:St) (H:Hp) (Q:Option Int->Hp->Prop),Inv X ao σ H s->t σ H Q ->
  wpAny (model X.prog X.w) X.A (evalPart e X.env) (fun u s'=>∃ o H',Inv X ao σ H' s'/\IsPart u o/\Q o H') X.xe s
def vO:TO:=fun _ H Q=>Q none H
def yT (t:TE):TO:=fun σ H Q=>t σ H fun x H1=>∃ i,x = .int i/\Q (some i) H1
theorem V6 {ns:List Int}:∀ {us:List Value},dw (ns.map V.int) us->IntsAre us ns:=by
 induction ns with
 | nil=>intro us r; rw [kQ] at r; cases r; exact .nil
 | cons n ns ih =>
  intro us r
  rw [bD] at r
  cases r with
  | cons r1 r2 =>
   obtain ⟨t,e⟩:=r1
   subst e
   exact .cons n t (ih r2)
section
variable {X:Cx} {e:Expr} {te:TE} {lo hi:Option Expr} {tl th:TO} {pos p2:Pos}
theorem Q7 (h:PE X e te):PO X (some e) (yT te):=by
 intro ao s σ H Q I hw
 rw [evalPart_some]
 refine fM (h ao s σ H _ I hw) fun u s1 ⟨x,H1,I1,r1,q1⟩=>?_
 obtain ⟨i,rfl,q⟩:=q1
 obtain ⟨t,rfl⟩:=r1
 exact ⟨some i,H1,I1,.int i t,q⟩
def JQ (X:Cx) (r:V->Option Int->Option Int->Hp->VK->Prop):Prop :=
 ∀ (ao:List (Addr×Obj)) (s:Shared) (σ:St) (H:Hp) (x:V) (v vl vu:Value) (lo hi:Option Int) (sl:Addr) (Q:VK),Inv X ao σ H s->RelV x v->s.heap.IsSliceOf sl vl vu .none->IsPart vl lo->IsPart vu hi->r x lo hi H Q ->
  ∃ T id,typeLookup (.type T) "__getitem__" = pure (some (.builtin id))/\s.TypeIs v T/\wpAny (model X.prog X.w) X.A (getItem v (.ref sl)) (EP X ao σ Q) X.xe s
def Mf (r:V->Option Int->Option Int->Hp->VK->Prop) (te:TE) (tl th:TO):TE:=fun σ H Q=>te σ H fun x H1=>tl σ H1 fun l H2=>th σ H2 fun u H3=>r x l u H3 Q
theorem WT {r:V->Option Int->Option Int->Hp->VK->Prop} (hr:JQ X r) (he:PE X e te) (hl:PO X lo tl) (hu:PO X hi th):PE X (.Subscript e (.Slice lo hi none p2) pos) (Mf r te tl th):=by
 intro ao s σ H Q I h
 refine Subscript_ (fM (he ao s σ H _ I h) fun v s1 ⟨x,H1,I1,r1,q1⟩=>?_)
 refine wpAny_Slice (fM (hl ao s1 σ H1 _ I1 q1) fun vl s2 ⟨l,H2,I2,pl,q2⟩=>fM (hu ao s2 σ H2 _ I2 q2) fun vu s3 ⟨u,H3,I3,pu,q3⟩=>?_)
 rw [evalPart_none]
 refine wpAny_pure ?_
 have I4:Inv X ao σ H3 { s3 with heap:=s3.heap.push { cls:=.type "slice", data:=.fields #[vl,vu,.none] } }:=I3.kept (t':=s3.toks) fun b ob q=>Heap.get?_push_of_some _ q
 obtain ⟨T,id,hT,ht,hg⟩:=hr ao { s3 with heap:=s3.heap.push { cls:=.type "slice", data:=.fields #[vl,vu,.none] } } σ H3 x v vl vu l u s3.heap.objs.size Q I4 r1 (Heap.IsSliceOf.new ..) pl pu q3
 show wpAny (model X.prog X.w) X.A (subscriptTail e (.Slice lo hi none p2) v (.ref s3.heap.objs.size)) (EP X ao σ Q) X.xe { s3 with heap:=s3.heap.push { cls:=.type "slice", data:=.fields #[vl,vu,.none] } }
 exact tail_any (ops:=[.ref s3.heap.objs.size,v]) ht hT hg (by with_unfolding_all rfl)
def m8 (xs:List V) (lo hi:Option Int):List V:=(xs.drop (HT.rJ xs.length 0 lo)).take (HT.rJ xs.length xs.length hi-HT.rJ xs.length 0 lo)
theorem VS (xs:List V) (lo hi:Option Int):(m8 xs lo hi).length<=xs.length:=by
 unfold m8
 rw [bZ,Bg]
 omega
end
def AD (n:Nat) (i:Int):Option Nat:=if 0<=i then (if i<n then some i.toNat else none) else if -(n:Int)<=i then some (i+n).toNat else none
def uH {α:Type} (xs:List α) (i:Int):Option α:=(AD xs.length i).bind fun j=>xs[j]?
theorem Q8 {n:Nat} {i:Int} {j:Nat} (h:AD n i=some j):seqIndex? i n=some j/\j<n/\-(n:Int)<=i/\i<n:=by
 unfold AD at h
 by_cases h0:0<=i
 ·rw [if_pos h0] at h
  by_cases h1:i<n
  ·rw [if_pos h1] at h
   have e:i.toNat=j:=bE h
   exact ⟨by rw [seqIndex_of h0 h1,e],by omega,by omega,h1⟩
  ·rw [if_neg h1] at h; cases h
 ·rw [if_neg h0] at h
  by_cases h1:-(n:Int)<=i
  ·rw [if_pos h1] at h
   have e:(i+n).toNat=j:=bE h
   exact ⟨by rw [seqIndex_neg (by omega) h1,e],by omega,h1,by omega⟩
  ·rw [if_neg h1] at h; cases h
theorem Q9 {α:Type} {xs:List α} {i:Int} {v:α} (h:uH xs i=some v):∃ j,seqIndex? i xs.length=some j/\xs[j]? = some v/\j<xs.length/\-(xs.length:Int)<=i/\i<xs.length:=by
 unfold uH at h
 cases e:AD xs.length i with
 | none=>rw [e] at h; cases h
 | some j =>
  rw [e] at h
  obtain ⟨h1,h2,h3,h4⟩:=Q8 e
  exact ⟨j,h1,h,h2,h3,h4⟩
theorem Aa {α:Type} {xs:List α} {j:Nat} {v:α} (h:xs[j]? = some v):uH xs (j:Int)=some v:=by
 have hj:j<xs.length:=(aa.mp h).1
 have e:AD xs.length (j:Int)=some j:=by
  unfold AD
  rw [if_pos (by omega),if_pos (by omega)]; simp
 unfold uH; rw [e]; exact h
def Ra (b:Expr):Prop:=∀ o i,subscripted b false o i=operate [o,i] (getItem o i)
def D8 (X:Cx) (r:R2):Prop :=
 ∀ (value vI:Expr) (ao:List (Addr×Obj)) (s:Shared) (σ:St) (H:Hp) (x y:V) (v u:Value) (Q:VK),Inv X ao σ H s->RelV x v->RelV y u->r x y H Q ->
  subscripted vI false v u=operate [v,u] (getItem v u)->wpAny (model X.prog X.w) X.A (subscriptTail value vI v u) (EP X ao σ Q) X.xe s
def SJ (X:Cx) (id:String) (r:V->List V->Hp->VK->Prop):Prop :=
 ∀ (ao:List (Addr×Obj)) (s:Shared) (σ:St) (H:Hp) (x:V) (xs:List V) (v:Value) (us:List Value) (Q:VK),Inv X ao σ H s->RelV x v->dw xs us->r x xs H Q ->
  wpAny (model X.prog X.w) X.A (call (.builtin id) (v :: us)) (EP X ao σ Q) X.xe s
section
variable {X:Cx} {a b:Expr} {ta tb:TE} {pos:Pos}
theorem bg {r:R2} (hr:D8 X r) (ha:PE X a ta) (hb:PE X b tb) (hs:Ra b):PE X (.Subscript a b pos) (Dw r ta tb):=by
 intro ao s σ H Q I h
 exact Subscript_ (CJ ha hb I h fun v u s2 x y H2 I2 rx ry q=>hr a b ao s2 σ H2 x y v u Q I2 rx ry q (hs _ _))
def yz (K:ai):R2:=fun x y H Q=>∃ p xs i v,x = .ref p/\y = .int i/\gR K H p xs/\uH xs i=some v/\Q v H
def Dm (K:ai):R2:=fun x y H Q=>∃ p xs i v,x = .ref p/\y = .int i/\sN K H p xs/\uH xs i=some v/\Q v H
theorem XD:D8 X (yz X.K):=by
 intro value vI ao s σ H x y v u Q I rx ry h hs
 obtain ⟨p,xs,i,z,rfl,rfl,hq,he,q⟩:=h
 cases rx
 obtain ⟨t,rfl⟩:=ry
 obtain ⟨dJ,r,pl,hz⟩:=I.list hq
 obtain ⟨j,h1,h2,h3,h4,h5⟩:=Q9 he
 obtain ⟨w,ew,Dq⟩:=r.get h2
 have hl:=r.length
 have hn:=HF
 have fin:EP X ao σ Q w s:=⟨z,H,I,Dq,q⟩
 by_cases h0:0<=i
 ·have hj:i.toNat=j:=by
   rw [seqIndex_of h0 h5] at h1
   exact bE h1
  exact item_listR pl.isList h0 (by omega) (by rw [hj]; simpa using ew) fin hs
 ·have hj:(i+(dJ.toArray.size:Int)).toNat=j:=by
   rw [seqIndex_neg (by omega) h4] at h1
   rw [bK,<- hl]
   exact bE h1
  exact subscriptTail_builtinR (x:=w) pl.isList.typeIs slot_list_getitem.lookup
   (wpAny_getItem_list_neg (Q:=fun r s'=>r=w/\EP X ao σ Q r s') pl.isList (by omega) (by rw [bK] <;> omega) (by omega) (by rw [hj]; simpa using ew) ⟨rfl,fin⟩) hs
theorem YE:D8 X (Dm X.K):=by
 intro value vI ao s σ H x y v u Q I rx ry h hs
 obtain ⟨p,xs,i,z,rfl,rfl,hq,he,q⟩:=h
 cases rx
 obtain ⟨t,rfl⟩:=ry
 obtain ⟨dJ,r,pl,hz⟩:=I.tuple hq
 obtain ⟨j,h1,h2,h3,h4,h5⟩:=Q9 he
 obtain ⟨w,ew,Dq⟩:=r.get h2
 have hl:=r.length
 have hn:=HF
 have fin:EP X ao σ Q w s:=⟨z,H,I,Dq,q⟩
 exact subscriptTail_builtinR (x:=w) pl.typeIs slot_tuple_getitem.lookup
  (getItem_tuple (j:=j) (Q:=fun r s'=>r=w/\EP X ao σ Q r s') pl (by omega) (by omega) (by rw [bK,<- hl]; exact h1) (by simpa using ew) ⟨rfl,fin⟩) hs
theorem V7 (dJ:List Value) (n j:Nat) (u:Value):Obj.mapSeq (·.setIfInBounds j u) { cls:=.type "list", data:=.seq dJ.toArray n } = { cls:=.type "list", data:=.seq (dJ.set j u).toArray n }:=by
 simp [Obj.mapSeq]
theorem Inv.lst {ao:List (Addr×Obj)} {σ:St} {H:Hp} {s:Shared} {p:Addr} {xs:List V} (I:Inv X ao σ H s) (h:H p=some (.lst xs)) :
    ∃ (dJ:List Value) (n:Nat),dw xs dJ/\s.heap.get? p=some { cls:=.type "list", data:=.seq dJ.toArray n }/\xs.length<=sizeLine:=by
  obtain ⟨z,dJ,n,r,e⟩:=I.eW p _ h
  exact ⟨dJ,n,r,e,z⟩
theorem Inv.De {ao:List (Addr×Obj)} {σ:St} {H:Hp} {s:Shared} {p:Addr} {xs ys:List V} {dJ its':List Value} {n n':Nat} {f:Obj->Obj} (I:Inv X ao σ H s) (h:H p=some (.lst xs))
    (ho:s.heap.get? p=some { cls:=.type "list", data:=.seq dJ.toArray n }) (hf:f { cls:=.type "list", data:=.seq dJ.toArray n } = { cls:=.type "list", data:=.seq its'.toArray n' }) (r:dw ys its') (hz:ys.length<=sizeLine) (t:Nat) :
    Inv X ao σ (aQ H p (.lst ys)) { s with heap:=s.heap.update p f,toks:=t }:=by
  have e:(s.heap.update p f).get? p=some { cls:=.type "list", data:=.seq its'.toArray n' }:=by
    rw [Heap.get?_update_self f ho (by rw [hf] <;> rfl),hf]
  refine I.write (x:=p) (e:=p) (by rw [h]; trivial) (.inl rfl) (fun b u hb q=>(Heap.get?_update_other _ _ (dI hb)).trans q) ⟨_,e⟩ ?_
  exact ⟨hz,its',n',r,e⟩
def GP:V->V->V->Hp->(Hp->Prop)->Prop:=fun o i v H Q=>∃ p xs k j,o = .ref p/\i = .int k/\H p=some (.lst xs)/\AD xs.length k=some j/\Q (aQ H p (.lst (xs.set j v)))
theorem WU:E6 X GP:=by
 intro ao s σ H o i v ov iv u Q I ro ri rv h
 obtain ⟨p,xs,k,j,rfl,rfl,hp,hj,q⟩:=h
 cases ro
 obtain ⟨t,rfl⟩:=ri
 obtain ⟨dJ,n,r,ho,hz⟩:=I.lst hp
 obtain ⟨h1,h2,h3,h4⟩:=Q8 hj
 have hl:=r.length
 have hn:=HF
 have I':Inv X ao σ (aQ H p (.lst (xs.set j v))) { s with heap:=s.heap.update p (Obj.mapSeq (·.setIfInBounds j u)) } :=
  I.De hp ho (V7 dJ n j u) (r.set rv j) (by rw [List.length_set]; exact hz) s.toks
 by_cases h0:0<=k
 ·have hk:k.toNat=j:=by
   rw [seqIndex_of h0 h4] at h1
   exact bE h1
  exact PySem.W.ki_setAt ho h0 (by omega) (by rw [bK,<- hl]; exact h4) (by rw [hk]; exact ⟨_,I',q⟩)
 ·have hk:(k+(dJ.toArray.size:Int)).toNat=j:=by
   rw [seqIndex_neg (by omega) h3] at h1
   rw [bK,<- hl]
   exact bE h1
  exact PySem.W.ki_setBack ho (by omega) (by rw [bK,<- hl]; exact h3) (by omega) (by rw [hk]; exact ⟨_,I',q⟩)
theorem VH (lo hi:Option Int) (n:Nat):(sliceBounds lo hi none n).1=((HT.rJ n 0 lo:Nat):Int)/\(sliceBounds lo hi none n).2.1=((HT.rJ n n hi:Nat):Int)/\(sliceBounds lo hi none n).2.2 = 1:=by
 refine ⟨?_,?_,rfl⟩
 ·cases lo with
  | none=>simp [sliceBounds,HT.rJ]
  | some i =>
   simp only [sliceBounds,HT.rJ,om,show (1:Int) > 0 by decide,if_true]
   by_cases h:i<0
   ·simp only [h,if_true] <;> omega
   ·simp only [h,if_false] <;> omega
 ·cases hi with
  | none=>simp [sliceBounds,HT.rJ]
  | some i =>
   simp only [sliceBounds,HT.rJ,om,show (1:Int) > 0 by decide,if_true]
   by_cases h:i<0
   ·simp only [h,if_true] <;> omega
   ·simp only [h,if_false] <;> omega
theorem VF (dJ:List Value) (lo hi:Option Int):slicePick dJ.toArray lo hi none=((dJ.drop (HT.rJ dJ.length 0 lo)).take (HT.rJ dJ.length dJ.length hi-HT.rJ dJ.length 0 lo)).toArray:=by
 obtain ⟨h1,h2,h3⟩:=VH lo hi dJ.toArray.size
 unfold slicePick
 rw [h1,h2,h3]
 simp only [sliceRange_one,pick_run,bK] <;> rfl
def Dn (K:ai):V->Option Int->Option Int->Hp->VK->Prop:=fun x lo hi H Q=>∃ a xs,x = .ref a/\gR K H a xs/\∀ p,H p=none->Q (.ref p) (aQ H p (.lst (m8 xs lo hi)))
theorem XE:JQ X (Dn X.K):=by
 intro ao s σ H x v vl vu lo hi sl Q I rx hs pl pu h
 obtain ⟨a,xs,rfl,hx,q⟩:=h
 cases rx
 obtain ⟨dJ,r,ht,hz⟩:=I.list hx
 have gI:=r.length
 refine ⟨"list", _,slot_list_getitem.lookup,ht.isList.typeIs,?_⟩
 refine wpAny_getItem_list_slice ht.isList hs pl pu .none (by simp) ?_ (by rw [bK] <;> omega)
 rw [VF,<- gI]
 refine ⟨.ref s.heap.objs.size,_,I.laid (t':=s.toks) (o:=.lst (m8 xs lo hi)) (fun b ob q=>Heap.get?_push_of_some _ q) (av _) ?_,rfl,q _ (I.eW.fresh (av _))⟩
 exact ⟨cK (VS xs lo hi) hz,_,0,(r.drop (HT.rJ xs.length 0 lo)).take (HT.rJ xs.length xs.length hi-HT.rJ xs.length 0 lo),Heap.get?_push_size _ rfl⟩
def mq:V->Bool
 | .iJ=>true
 | .bl _=>true
 | .int _=>true
 | .str _=>true
 | _=>false
def Ar:V->V->Bool
 | .iJ,.iJ=>true
 | .bl a,.bl b=>a == b
 | .bl a,.int b=>(if a then 1 else 0) == b
 | .int a,.bl b=>a == (if b then 1 else 0)
 | .int a,.int b=>a == b
 | .str a,.str b=>a == b
 | _,_=>false
theorem YF {A:Around} {s:Shared} {y x:V} {u v:Value} (ry:RelV y u) (rx:RelV x v) (fy:mq y=true) (fx:mq x=true):SeqAt.EqAt A s u v (Ar y x):=by
 cases y with
 | iJ =>
  cases ry
  cases x with
  | iJ=>cases rx; exact SeqAt.EqAt.same _
  | bl b=>cases rx; exact SeqAt.EqAt.none_bool b
  | int b=>obtain ⟨t,rfl⟩:=rx; exact SeqAt.EqAt.none_int b t
  | str b=>obtain ⟨t,rfl⟩:=rx; exact SeqAt.EqAt.none_str b t
  | _=>exact absurd (show false=true from fx) bC
 | bl a =>
  cases ry
  cases x with
  | iJ=>cases rx; exact SeqAt.EqAt.bool_none a
  | bl b=>cases rx; exact SeqAt.EqAt.bool_bool a b
  | int b=>obtain ⟨t,rfl⟩:=rx; exact SeqAt.EqAt.bool_int a b t
  | str b=>obtain ⟨t,rfl⟩:=rx; exact SeqAt.EqAt.bool_str a b t
  | _=>exact absurd (show false=true from fx) bC
 | int a =>
  obtain ⟨t',rfl⟩:=ry
  cases x with
  | iJ=>cases rx; exact SeqAt.EqAt.int_none a t'
  | bl b=>cases rx; exact SeqAt.EqAt.int_bool a t' b
  | int b=>obtain ⟨t,rfl⟩:=rx; exact SeqAt.EqAt.int_int a t' b t
  | str b=>obtain ⟨t,rfl⟩:=rx; exact SeqAt.EqAt.int_str a t' b t
  | _=>exact absurd (show false=true from fx) bC
 | str a =>
  obtain ⟨t',rfl⟩:=ry
  cases x with
  | iJ=>cases rx; exact SeqAt.EqAt.str_none a t'
  | bl b=>cases rx; exact SeqAt.EqAt.str_bool a t' b
  | int b=>obtain ⟨t,rfl⟩:=rx; exact SeqAt.EqAt.str_int a t' b t
  | str b=>obtain ⟨t,rfl⟩:=rx; exact SeqAt.EqAt.str_str a t' b t
  | _=>exact absurd (show false=true from fx) bC
 | _=>exact absurd (show false=true from fy) bC
def Aq (x:V) (u:Value):Bool:=match u with
 | .none=>Ar .iJ x
 | .bool b=>Ar (.bl b) x
 | .int i _=>Ar (.int i) x
 | .str z _=>Ar (.str z) x
 | _=>false
theorem RY {x y:V} {u:Value} (r:RelV y u) (f:mq y=true):Aq x u=Ar y x:=by
 cases y with
 | iJ=>cases r; rfl
 | bl b=>cases r; rfl
 | int i=>obtain ⟨t,rfl⟩:=r; rfl
 | str z=>obtain ⟨t,rfl⟩:=r; rfl
 | _=>exact absurd (show false=true from f) bC
theorem MH {x:V}:∀ {xs:List V} {us:List Value},dw xs us->xs.all mq=true->us.any (Aq x)=xs.any fun y=>Ar y x
 | _,_,.nil,_=>rfl
 | y :: xs,u :: us,.cons r t,f=>by
  rw [t9,iP] at f
  rw [iU,iU,RY r f.1,MH t f.2]
theorem Mx {A:Around} {s:Shared} {x:V} {v:Value} (rx:RelV x v) (fx:mq x=true):∀ {xs:List V} {us:List Value},dw xs us->xs.all mq=true->∀ u∈us,SeqAt.EqAt A s u v (Aq x u)
 | _,_,.nil,_=>fun u hu=>by cases hu
 | y :: xs,u :: us,.cons r t,f=>fun u' hu=>by
  rw [t9,iP] at f
  rcases aM.mp hu with rfl | hu
  ·rw [RY r f.1]; exact YF r rx f.1 fx
  ·exact Mx rx fx t f.2 u' hu
def Ey (x:V) (xs:List V):Bool:=xs.any fun y=>Ar y x
def OP (K:ai) (neg:Bool):R2:=fun x y H Q=>∃ p xs,y = .ref p/\(gR K H p xs\/sN K H p xs)/\mq x=true/\xs.all mq=true/\Q (.bl (if neg then !Ey x xs else Ey x xs)) H
theorem VI:qm X (compareOp .NotIn) (OP X.K true):=by
 intro ao s σ H x y v u Q I rx ry h
 obtain ⟨p,xs,rfl,hq,fx,fs,q⟩:=h
 cases ry
 rcases hq with hq | hq
 ·obtain ⟨dJ,r,pl,hz⟩:=I.list hq
  refine SeqAt.notIn_listAt (Aq x) pl.isList (fun w hw=>Mx rx fx r fs w (by simpa using hw)) ⟨.bl _,H,I,rfl,?_⟩
  rw [show dJ.toArray.any (Aq x)=dJ.any (Aq x) by simp,MH r fs]
  exact q
 ·obtain ⟨dJ,r,pl,hz⟩:=I.tuple hq
  refine SeqAt.notIn_tupleAt (Aq x) pl (fun w hw=>Mx rx fx r fs w (by simpa using hw)) ⟨.bl _,H,I,rfl,?_⟩
  rw [show dJ.toArray.any (Aq x)=dJ.any (Aq x) by simp,MH r fs]
  exact q
theorem VJ:lZ X (.builtin "len") (fun xs H Q=>∃ p ys,xs = [.ref p]/\(gR X.K H p ys\/sN X.K H p ys)/\Q (.int ys.length) H):=by
 intro ao s σ H xs us Q I r h
 obtain ⟨p,ys,rfl,hq,q⟩:=h
 obtain ⟨u,rfl,rx⟩:=vals1 r
 cases rx
 have hn:=HF
 rcases hq with hq | hq
 ·obtain ⟨dJ,r',pl,hz⟩:=I.list hq
  have gI:=r'.length
  exact Calls.call_len_list pl.isList (by simp only [bK] <;> omega) ⟨.int ys.length,H,I.tok _,⟨s.toks+1,by rw [bK,gI]⟩,q⟩
 ·obtain ⟨dJ,r',pl,hz⟩:=I.tuple hq
  have gI:=r'.length
  exact len_tuple pl (by simp only [bK] <;> omega) ⟨.int ys.length,H,I.tok _,⟨s.toks+1,by rw [bK,gI]⟩,q⟩
theorem VL:lZ X (.type "list") (fun xs H Q=>∃ p ys,xs = [.ref p]/\(gR X.K H p ys\/sN X.K H p ys)/\∀ l,H l=none->Q (.ref l) (aQ H l (.lst ys))):=by
  intro ao s σ H xs us Q I r h
  obtain ⟨p,ys,rfl,hq,q⟩:=h
  obtain ⟨u,rfl,rx⟩:=vals1 r
  cases rx
  have fin:∀ (dJ:List Value),dw ys dJ->ys.length<=sizeLine->∀ (h':Heap) (c':Nat),(∀ b o',s.heap.get? b=some o'->h'.get? b=some o') ->
      h'.get? s.heap.objs.size=some { cls:=.type "list", dict:=none,data:=.seq dJ.toArray c',slots:=#[] }->EP X ao σ Q (.ref s.heap.objs.size) { s with heap:=h' }:=fun dJ r' hz h' c' kp e =>
    ⟨.ref s.heap.objs.size,_,I.laid (t':=s.toks) kp (av _) (show gF X.prog X.w _ h' _ (.lst ys) from ⟨hz,dJ,c',r',e⟩),rfl,q _ (I.eW.fresh (av _))⟩
  rcases hq with hq | hq
  · obtain ⟨dJ,r',pl,hz⟩:=I.list hq
    have gI:=r'.length
    obtain ⟨o,ho,hc,n,hd⟩:=pl.isList
    exact call_list_seq p (.inl rfl) ho hc hd (fun h' c' kp e=>fin dJ r' hz h' c' kp e) (by simp only [bK] <;> omega)
  · obtain ⟨dJ,r',pl,hz⟩:=I.tuple hq
    have gI:=r'.length
    obtain ⟨o,ho,hc,n,hd⟩:=pl
    exact call_list_seq p (.inr rfl) ho hc hd (fun h' c' kp e=>fin dJ r' hz h' c' kp e) (by simp only [bK] <;> omega)
def IM (K:ai) (T:String) (x:V) (H:Hp):Prop:=match x with
  | .str _=>T = "str"
  | .int _=>T = "int"
  | .ref p=>(T = "list" /\ ∃ xs,gR K H p xs)\/(T = "tuple" /\ ∃ o,K.lookup p=some o/\o.cls = .type "tuple" /\ o.dict=none) \/
      (T = "dict" /\ ((∃ kvs,H p=some (.dK kvs))\/∃ kvs,H p=some (.dT kvs)))\/(T = "set" /\ ∃ S n,H p=some (.set S n))
  | _=>False
theorem YG {ao:List (Addr×Obj)} {σ:St} {H:Hp} {s:Shared} {T:String} {x:V} {v:Value} (I:Inv X ao σ H s) (r:RelV x v) (ty:IM X.K T x H) :
    s.TypeIs v T/\∀ a,v = .ref a->∃ ob,s.heap.get? a=some ob/\ob.dict=none:=by
  cases x with
  | str z =>
    obtain ⟨t,rfl⟩:=r
    cases (show T = "str" from ty)
    exact ⟨typeIs_str s z t,fun _ e=>nomatch e⟩
  | int i =>
    obtain ⟨t,rfl⟩:=r
    cases (show T = "int" from ty)
    exact ⟨typeIs_int s i t,fun _ e=>nomatch e⟩
  | ref p =>
    cases r
    rcases ty with ⟨rfl,xs,hq⟩ | ⟨rfl,o,hk,hc,hd⟩ | ⟨rfl,hk⟩ | ⟨rfl,S,n,hk⟩
    · obtain ⟨dJ,_,pl,_⟩:=I.list hq
      refine ⟨pl.isList.typeIs,fun a e=>?_⟩
      cases e
      obtain ⟨o,n,e,c,hd,_⟩:=pl
      exact ⟨o,e,hd⟩
    · refine ⟨⟨o,I.vz p o hk,hc⟩,fun a e=>?_⟩
      cases e
      exact ⟨o,I.vz _ o hk,hd⟩
    · have z:∃ o,s.heap.get? p=some o/\o.ExactDict:=by
        rcases hk with ⟨kvs,hk⟩ | ⟨kvs,hk⟩
        · obtain ⟨_,_,_,_,o,_,_,e,ex,_⟩:=I.eW p _ hk
          exact ⟨o,e,ex⟩
        · obtain ⟨_,_,_,_,o,_,_,e,ex,_⟩:=I.eW p _ hk
          exact ⟨o,e,ex⟩
      obtain ⟨o,e,ex⟩:=z
      refine ⟨⟨o,e,ex.1⟩,fun a e2=>?_⟩
      cases e2
      exact ⟨o,e,ex.2.1⟩
    · obtain ⟨o,_,_,_,e,ex,_⟩:=I.eW p _ hk
      refine ⟨⟨o,e,ex.1⟩,fun a e2=>?_⟩
      cases e2
      exact ⟨o,e,ex.2.1⟩
  | _=>exact bV ty
def G1 (K:ai) (T:String) (r:V->List V->Hp->VK->Prop) (to:TE):TE:=fun σ H Q=>to σ H fun x H1=>IM K T x H1/\r x [] H1 Q
def Ma (K:ai) (T:String) (r:V->List V->Hp->VK->Prop) (to:TE) (t:TA):TE:=fun σ H Q=>to σ H fun x H1=>IM K T x H1/\t σ H1 fun xs H2=>r x xs H2 Q
variable {o e:Expr} {es:List Expr} {to:TE} {t:TA} {name:Str} {ku jt:Pos} {T id:String} {r:V->List V->Hp->VK->Prop}
theorem kH (pa:PlainAttrs T) (slot:Slot T name id) (K5:typeOf (.builtin id)=pure (.type "method_descriptor")) (hm:SJ X id r) (ho:PE X o to) (ha:PA X (e :: es) t)
    (FH:attributeBase o name X.env (eval o X.env)=eval o X.env:=by rfl)
    (Ky:((backTo jt (starEach (e :: es) X.env)).all (fun x=>!x.1) && (backToKw jt (keywordEach [] X.env)).all (fun x=>x.1.isSome)
      && decide ((e :: es).length+([]:List Keyword).length+(if ([]:List Keyword).isEmpty then 0 else 1)<30))=true:=by rfl)
    (FW:(ku.endLine == jt.line)=true:=by rfl) (hs:starEach (e :: es) X.env=(false,eval e X.env) :: starEach es X.env:=by rfl) (C4:(backTo jt (starEach es X.env)).any (·.1)=false:=by rfl) :
    PE X (.Call (.Attribute o name ku) (e :: es) [] jt) (Ma X.K T r to t):=by
  intro ao s σ H Q I h
  refine wpAny_Call_method_late FH Ky FW rfl (fM (ho ao s σ H _ I h) fun v s1 ⟨x,H1,I1,r1,ty,q1⟩=>?_)
  obtain ⟨h1,h2⟩:=YG I1 r1 ty
  refine ⟨T,id,pa,slot,K5,h1,h2,?_⟩
  have hA:=ha jt ao s1 σ H1 _ I1 q1
  rw [hs] at hA ⊢
  refine Calls.callWith_builtin (by show (false || (backTo jt (starEach es X.env)).any (·.1))=false; rw [C4] <;> rfl) (Calls.evalArgs_plain ?_)
  exact fM hA fun us s2 ⟨vs,H2,I2,r2,q2⟩=>hm ao s2 σ H2 x vs v us Q I2 r1 r2 q2
end
def Nc (X:Cx) (id:String) (r:V->List V->Hp->VK->Prop):Prop :=
 ∀ (ao:List (Addr×Obj)) (s:Shared) (σ:St) (H:Hp) (x:V) (xs:List V) (v:Value) (us:List Value) (Q:VK),Inv X ao σ H s->RelV x v->dw xs us->r x xs H Q ->
  wpAny (model X.prog X.w) X.A (call (.builtin id) (v :: us)) (EP X ao σ Q) X.xe s
theorem dw.one:∀ {x:V} {us:List Value},dw [x] us->∃ u,us = [u]/\RelV x u
 | _,_,.cons r .nil=>⟨_,rfl,r⟩
theorem dw.two:∀ {x y:V} {us:List Value},dw [x,y] us->∃ u v,us = [u,v]/\RelV x u/\RelV y v
 | _,_,_,.cons r (.cons q .nil)=>⟨_,_,rfl,r,q⟩
section
variable {X:Cx} {ao:List (Addr×Obj)} {σ:St} {H:Hp} {s:Shared} {l b:Addr} {xs ys zs:List V}
theorem Inv.Gq {dJ its':List Value} {n:Nat} {f:Array Value->Array Value} {t':Nat} (I:Inv X ao σ H s) (hH:H l=some (.lst xs))
    (e:s.heap.get? l=some { cls:=.type "list", data:=.seq dJ.toArray n }) (hf:f dJ.toArray=its'.toArray) (hv:dw ys its') (hz:ys.length<=sizeLine) :
    Inv X ao σ (aQ H l (.lst ys)) { s with heap:=s.heap.update l (Obj.mapSeq f),toks:=t' }:=by
  have q:=PySem.IsL.update e f
  rw [hf] at q
  refine I.write (x:=l) (e:=l) (by rw [hH]; exact trivial) (.inl rfl) (fun b' u hb hu=>(Heap.get?_update_other s.heap (Obj.mapSeq f) (dI hb)).trans hu) ⟨_,q⟩ ?_
  exact ⟨hz,its',_,hv,q⟩
theorem Inv.Dd (I:Inv X ao σ H s) (hH:H l=some (.lst xs)):xs.length<=sizeLine/\∃ (dJ:List Value) (n:Nat),dw xs dJ/\xs.length=dJ.length/\s.heap.get? l=some { cls:=.type "list", data:=.seq dJ.toArray n }:=by
 obtain ⟨z,dJ,n,r,e⟩:=I.eW l _ hH
 exact ⟨z,dJ,n,r,r.length,e⟩
theorem WV {n:Nat} (h:n<=sizeLine):Builtin.List.listTooLong n=false:=by
 unfold Builtin.List.listTooLong
 exact decide_eq_false (by omega)
end
section
variable {X:Cx}
def Rb:V->List V->Hp->VK->Prop:=fun x vs H Q=>∃ l xs y,x = .ref l/\vs = [y]/\H l=some (.lst xs)/\xs.length<sizeLine/\Q .iJ (aQ H l (.lst (xs++[y])))
theorem wW:Nc X "list.append" Rb:=by
 intro ao s σ H x vs v us Q I rx rv h
 obtain ⟨l,xs,y,rfl,rfl,hH,hz,q⟩:=h
 cases rx
 obtain ⟨u,rfl,ru⟩:=rv.one
 obtain ⟨z,dJ,n,r,hl,e⟩:=I.Dd hH
 refine call_meets F.slot_list_append ⟨_,e,rfl⟩ F.entry_list_append (F.args_list_append_2 _ _) (PySem.list_append l dJ.toArray n u (by rw [bK]; omega)) ⟨e,?_⟩
 refine ⟨.iJ,_,I.Gq (its':=dJ++[u]) hH e (by simp) (r.append (.cons ru .nil)) ?_,rfl,q⟩
 rw [aO,List.length_singleton]
 omega
def XF:V->List V->Hp->VK->Prop:=fun x vs H Q=>∃ l b xs zs,x = .ref l/\vs = [.ref b]/\H l=some (.lst xs)/\H b=some (.lst zs)/\xs.length+zs.length<=sizeLine/\Q .iJ (aQ H l (.lst (xs++zs)))
theorem Wq:Nc X "list.extend" XF:=by
 intro ao s σ H x vs v us Q I rx rv h
 obtain ⟨l,b,xs,zs,rfl,rfl,hH,hB,hz,q⟩:=h
 cases rx
 obtain ⟨u,rfl,ru⟩:=rv.one
 cases ru
 obtain ⟨z,dJ,n,r,hl,e⟩:=I.Dd hH
 obtain ⟨z2,uO,n2,r2,Ij,e2⟩:=I.Dd hB
 have hsz:dJ.toArray.size+uO.toArray.size<=sizeLine:=by rw [bK,bK]; omega
 have FY:¬ (!dJ.toArray.isEmpty && Builtin.List.listTooLong (dJ.toArray.size+uO.toArray.size))=true:=by
  rw [WV hsz,DZ]
  exact bC
 refine call_meets F.slot_list_extend ⟨_,e,rfl⟩ F.entry_list_extend (F.args_list_extend_2 _ _)
  (AutoSeq1.list_extend_list_list_0 l dJ.toArray n b uO.toArray n2 FY (by rw [bK]; omega) (by omega)) ⟨e,e2,?_⟩
 refine ⟨.iJ,_,I.Gq (its':=dJ++uO) hH e (by simp) (r.append r2) ?_,rfl,q⟩
 rw [aO]
 omega
end
section
variable {prog:Program} {w:World} {A:Around} {E:Value->Shared->Prop} {s:Shared}
end
section
variable {X:Cx}
end
end L2
namespace M6
open PySem PySem.W PySem.Calls PyProof.Rows
theorem VA {P:Params} {h:Heap}:∀ (ns:List Int) (vs:List Value),WellAll P h vs (ns.map WData.int)->IntsAre vs ns:=by
 intro ns
 induction ns with
 | nil =>
  intro vs w
  rw [kQ] at w
  cases w
  exact .nil
 | cons n ns ih =>
  intro vs w
  rw [bD] at w
  cases w with
  | cons a b =>
   cases a
   exact .cons _ _ (ih _ b)
theorem Wr {l:OpenLaw} {n:Nat} (hn:l.most=some n) {P:Params} {h:Heap} {args:List WData} {DG:List Value}
    (Ax:l.row.toRowW.claim.pre args=true) (K6:WellAll P h DG args) :
    ∃ a vs ns,DG = [Value.ref a]/\args = [WData.list (ns.map WData.int)]/\h.get? a=some { cls:=.type "list", data:=.seq vs.toArray }/\IntsAre vs ns/\ns.length<=n:=by
  have Gd:WShape.hasAll [] args [.list .int] = true:=(pre_splitW Ax).1
  have hc:l.pre.holds [] { args:=args } = true:=(pre_splitW Ax).2
  obtain ⟨d,r,rfl,h1,h2⟩:=hasAllW_cons Gd
  obtain rfl:=hasAllW_nil h2
  obtain ⟨xs,rfl,h3⟩:=hasW_list h1
  obtain ⟨ns,rfl⟩:=items_int h3
  have gI:ns.length<=n:=by
    unfold OpenLaw.pre at hc
    have h4:(WTm.not (.lt (.lit (.int (n:Int))) (.len (.arg 0)))).holds [] { args:=[.list (ns.map .int)] } = true:=by
      have h4:=(holds_andW hc).1
      rw [hn] at h4
      exact h4
    have h5:=condW_of h4 (w_not (w_lt w_lit (w_len_list (w_arg rfl))))
    rw [ae] at h5
    refine Nat.le_of_not_lt fun q=>?_
    have q':(n:Int)<((ns.length:Nat):Int):=by omega
    first
      | (rw [decide_eq_true q'] at h5; exact absurd h5 (by decide))
      | (simp at h5; omega)
  cases K6 with
  | cons w1 w2 =>
    cases w2
    cases w1 with
    | list ho Kq=>exact ⟨_,_,ns,rfl,rfl,ho,VA ns _ Kq,gI⟩
theorem Ws (l:OpenLaw) (args:List WData):l.row.toRowW.claim.post args (.bool true) args=true :=
 postW_of (r:=l.row.toRowW) (X:=(true == true))
  (show WShape.has [] (.bool true) .bool=true by first | rfl | decide | simp [WShape.has,WShape.arms,WShape.armsAll])
  (show (WTm.eq .res (.lit (.bool true))).value [] { args:=args,res:=some (.bool true),after:=args } = some (.bool (true == true)) from w_eq_bool (w_res rfl) w_lit) rfl
theorem sU {l:OpenLaw} {n:Nat} {q:Program} {qD:List Str} {XP:(Str->Option Value)->Heap->Prop} {YP:World->Heap->Prop} {d:DefRec}
    (hn:l.most=some n) (FM:d.params.defaults = [])
    (call:∀ (w:World) (s₀ s₁:Shared) (mg mb:Str->Option Value) (fa:Addr) (o:Obj) (pm cd mj:Value) (a:Addr) (vs:List Value) (ns:List Int),
      Ground q qD [] XP w s₀ mg mb s₁.heap->YP w s₁.heap ->
      s₁.heap.get? fa=some o->o.data = .func (docDef d.name d.params d.body d.scope pm cd mj)->s₁.heap.CodeRec cd d.name->mg d.name=some (.ref fa) ->
      s₁.heap.get? a=some { cls:=.type "list", data:=.seq vs.toArray }->IntsAre vs ns->ns.length<=n->s₁.gens = #[] ->
      codeAny (model l.prog w) callerA (.call (.ref fa) ⟨[.ref a],[]⟩) (fun r s'=>r = .ok (.ret (.bool true))/\OldK s₁.heap s'.heap/\s'.os=s₁.os/\AllBare s'.gens) s₁) :
    WalkO q qD XP YP l.row.toRowW d [] (fun f vs=>xK f vs):=by
  intro w s₀ s₁ mg mb G Y fa o pm cd mj dV kV ho hd tw hD FZ hg args DG as Ax Ud ZP K6 ZM
  obtain rfl:dV = .none:=Dflts.none hD FM
  obtain rfl:kV = .none:=Dflts.noKw hD
  obtain ⟨a,vs,ns,rfl,rfl,C2,yd,gI⟩:=Wr hn Ax K6
  refine enter_call (codeAny_mono (call w s₀ s₁ mg mb fa o pm cd mj a vs ns G Y ho (fd_plain hd) tw FZ C2 yd gI hg) fun r s' hq=>?_)
  obtain ⟨rfl,h2,h3,h4⟩:=hq
  exact ⟨.inl ⟨.bool true,.bool true,[],rfl,fun _=>rfl,.bool true,Ws l _,fun _=>⟨rY,fun _ hm=>(nomatch hm)⟩⟩,h2,h3,h4⟩
section
variable {prog:Program} {w:World} {A:Around} {E:Value->Shared->Prop} {s:Shared} {K:Frag}
end
end M6
namespace L2
open PySem PySem.Spec PyProof.Rows
theorem P8:∀ {vs:List Value} {ns:List Int},IntsAre vs ns->dw (ns.map V.int) vs
 | _,_,.nil=>.nil
 | _,_,.cons n t h=>.cons ⟨t,rfl⟩ (P8 h)
def CF (H:Hp):Prop:=∀ b,H b=none\/∃ o xs,H b=some (.zR o (.lst xs))
theorem yl {P:Program} {w:World} {K:ai} {mg mb:Str->Option Value} {CX:pT} {k:Nat} {fa a:Addr} {fd:FuncData} {x:Str} {sp:Sp} {s₁:Shared} {vs:List Value} {ns:List Int}
    (KX:K.In s₁.heap) (N4:s₁.heap.Ns mainGlobals mg) (hb:s₁.heap.Ns builtinsNs mb) (Ie:∀ x:Str,x ≠ "__name__" -> mb x=bootBuiltins x) (KO:s₁.heap.NoLimit) (hg:s₁.gens = #[])
    (ha:s₁.heap.get? a=some { cls:=.type "list", data:=.seq vs.toArray }) (hi:IntsAre vs ns) (hl:ns.length<=sizeLine) (hr:iy k callerA)
    (F:∀ base:Heap,K.In base->base.Ns mainGlobals mg->nN P w K mg base CX k fa fd [x] sp) (FI:∀ (s:Shared) (u:Value),BindsTo s fd ⟨[u],[]⟩ [(x,u)])
    (qA:∀ H:Hp,CF H->gR K H a (ns.map V.int)->sp [.ref a] H (fun v _=>v = .bl true) fun _ _ _=>False)
    (Kn:∀ H e s',CX [] H s₁ (fun _ _ _=>False) e s'->False) :
    codeAny (model P w) callerA (.call (.ref fa) ⟨[.ref a],[]⟩) (fun r s'=>r = .ok (.ret (.bool true))/\OldK s₁.heap s'.heap/\s'.os=s₁.os/\AllBare s'.gens) s₁:=by
  have rv:=P8 hi
  have Ln:=hi.length
  have Fg:∀ H:Hp,CF H->gR K H a (ns.map V.int)->lK P w H s₁.heap->(∀ b,H b≠none->b=a)->(H a≠none->K.lookup a=none) ->
      codeAny (model P w) callerA (.call (.ref fa) ⟨[.ref a],[]⟩) (fun r s'=>r = .ok (.ret (.bool true))/\OldK s₁.heap s'.heap/\s'.os=s₁.os/\AllBare s'.gens) s₁:=by
    intro H hO hS eW hA hK
    have vj:∀ {b:Addr} {o:Obj},s₁.heap.get? b=some o->H b=none->(rj s₁.heap H).get? b=some o:=fun e n=>WO e n
    have Gw:∀ {b:Addr} {o:Obj} {es:Array DictEntry} {ep:Nat},s₁.heap.get? b=some o->o.data = .dict es ep->H b=none:=fun {b o es ep} e d=>by
      cases q:H b with
      | none=>rfl
      | some u =>
        have e':b=a:=hA b (by rw [q]; simp)
        subst e'
        rw [ha] at e; cases e
        have d':Data.seq vs.toArray _=Data.dict es ep:=d
        cases d'
    have Iz:∀ {b:Addr} {m:Str->Option Value},s₁.heap.Ns b m->(rj s₁.heap H).Ns b m:=fun {b m} ⟨o,es,ep,e,d,r⟩=>⟨o,es,ep,vj e (Gw e d),d,r⟩
    have NI:K.In (rj s₁.heap H):=fun b o e=>vj (KX b o e) (by
      cases q:H b with
      | none=>rfl
      | some u =>
        have e':b=a:=hA b (by rw [q]; simp)
        subst e'
        rw [hK (by rw [q]; simp)] at e; cases e)
    have hM:Mod K mg (rj s₁.heap H):=⟨NI,Iz N4,⟨mb,Iz hb,Ie⟩,let ⟨mc,h1,h2⟩:=KO; ⟨mc,Iz h1,h2⟩⟩
    have e0:uB P w K mg (rj s₁.heap H) callerA [] s₁ H:=⟨rfl,hM,fun b o e=>Xv e,Nat.le_of_eq (Wj _ _),trivial,fun b hb=>absurd (show b∈([]:List Addr) from hb) (by simp),eW,.of_eq hg⟩
    refine codeAny_mono ((F _ NI (Iz N4)).run callerA [] s₁ H ⟨[.ref a],[]⟩ [.ref a] [.ref a] _ _ hr e0 (FI s₁ (.ref a)) (.cons rfl .nil) (qA H hO hS)) fun r s' h=>?_
    cases r with
    | error e=>exact (Kn H e s' h).elim
    | ok fl =>
      cases fl with
      | next=>exact bV h
      | brk=>exact bV h
      | cont=>exact bV h
      | ret u =>
        obtain ⟨v,H',os,bare,un,KR,r',q⟩:=h
        have q':v = .bl true:=q
        subst q'
        obtain rfl:u=Value.bool true:=r'
        refine ⟨rfl,OldK.of_keep fun b o e=>?_,os,bare⟩
        cases q:H b with
        | none=>exact un.keep b o e q (by intro z; exact absurd (show b∈([]:List Addr) from z) (by simp)) (by simp)
        | some u =>
          rcases hO b with z | ⟨ob,xs,z⟩
          · rw [q] at z; cases z
          · have z2:=un.nW b ob _ z
            obtain ⟨e1,_⟩:=eW b _ z
            obtain ⟨e2,_⟩:=KR b _ z2
            rw [e] at e1; cases e1
            exact e2
  cases hk:K.lookup a with
  | some o =>
    have e:=KX a o hk
    rw [ha] at e
    cases e
    refine Fg (fun _=>none) (fun _=>.inl rfl) (.inr ⟨_,vs.toArray,_,hk,rfl,rfl,rfl,by rw [bK,Ln]; exact hl,by simpa using rv⟩) (fun b u z=>by have z':(none:Option HO)=some u:=z; cases z') (fun b z=>absurd rfl z) fun z=>absurd rfl z
  | none =>
    refine Fg (fun b=>if b=a then some (.zR { cls:=.type "list", data:=.seq vs.toArray } (.lst (ns.map V.int))) else none) (fun b=>?_) (.inl (.inr ⟨{ cls:=.type "list", data:=.seq vs.toArray },if_pos rfl⟩)) (fun b u z=>?_) (fun b z=>?_) fun _=>hk
    · by_cases hb:b=a
      · exact .inr ⟨_,_,if_pos hb⟩
      · exact .inl (if_neg hb)
    · by_cases hb:b=a
      · have z':=(if_pos hb).symm.trans z
        cases z'
        subst hb
        exact ⟨ha,by rw [ae]; exact hl,vs,_,rv,ha⟩
      · have z':=(if_neg hb).symm.trans z
        cases z'
    · by_cases hb:b=a
      · exact hb
      · exact absurd (if_neg hb) z
abbrev Zq {K:ai} {h:Heap} (_:K.In h):ai:=K
theorem A4 {l:oZ} {n k:Nat} {q:Program} {qD:List Str} {XP:(Str->Option Value)->Heap->Prop} {YP:World->Heap->Prop} {d:DefRec} {K:Params->ai} {CX:World->pT} {sp:World->Sp} {x:Str}
    (hn:l.most=some n) (Ik:n<=sizeLine) (FM:d.params.defaults = []) (hr:iy k callerA)
    (hY:∀ (w:World) (h:Heap),YP w h->(K w.params).In h)
    (F:∀ (w:World) (mg:Str->Option Value) (fa:Addr) (h:Heap),(K w.params).In h->h.Ns mainGlobals mg->mg d.name=some (.ref fa) ->
      ∃ fd:FuncData,(∀ (s:Shared) (u:Value),BindsTo s fd ⟨[u],[]⟩ [(x,u)]) /\
        ∀ base:Heap,(K w.params).In base->base.Ns mainGlobals mg->nN l.prog w (K w.params) mg base (CX w) k fa fd [x] (sp w))
    (qA:∀ (w:World) (H:Hp) (a:Addr) (ns:List Int),ns.length<=n->CF H->gR (K w.params) H a (ns.map V.int)->sp w [.ref a] H (fun v _=>v = .bl true) fun _ _ _=>False)
    (Kn:∀ (w:World) (H:Hp) (s:Shared) (e:Value) (s':Shared),CX w [] H s (fun _ _ _=>False) e s'->False) :
    Bh q qD XP YP l.row.toRowW d [] (fun f vs=>xK f vs):=by
  refine M6.sU hn FM fun w s₀ s₁ mg mb fa o pm cd mj a vs ns G Y ho hd tw FZ C2 yd gI hg=>?_
  have KX:=hY w _ Y
  obtain ⟨fd,hb,hF⟩:=F w mg fa _ KX G.T.g FZ
  exact yl KX G.T.g G.T.b G.T.builtins G.T.nolimit hg C2 yd (cK gI Ik) hr hF hb (fun H hO hS=>qA w H a ns gI hO hS) fun H e s'=>Kn w H s₁ e s'
def MI (s:Stmt) (j:Nat):Stmt:=match s with
 | .ClassDef _ _ _ body _ _ _ _ _ _ _=>body.getD j (.Pass ⟨0,0,0,0⟩)
 | _=>.Pass ⟨0,0,0,0⟩
def wY (s:Stmt):Arguments:=match s with
 | .FunctionDef _ a _ _ _ _ _ _ _ _=>a
 | _=>{ posonlyargs:=[],args:=[],vararg:=none,kwonlyargs:=[],kw_defaults:=[],kwarg:=none,defaults:=[] }
def t6 (s:Stmt):List Stmt:=match s with
 | .FunctionDef _ _ b _ _ _ _ _ _ _=>b
 | _=>[]
def gM (s:Stmt):Scope:=match s with
 | .FunctionDef _ _ _ _ _ _ sc _ _ _=>sc
 | _=>{ kind:=.function,names:=[],isGenerator:=false,isCoroutine:=false }
abbrev D5:pT:=fun _ _ _ _ _ _=>False
abbrev E0:XK:=fun _ _ _=>False
structure Cs (K:ai) (x dS:Str) (st:Stmt) (f:Addr) (fd:FuncData):Prop where
 ex:∃ (oc:Value) (od:Option Addr) (kV mj pm:Value) (an:Option Addr) (e6 ct:Value) (sj:Array (Option Value)),
  fd=c9 x dS (wY st) (t6 st) (gM st) .none kV mj pm an e6 ct/\K.lookup f=some ⟨oc,od,.func fd,sj⟩/\eU K e6 dS=true
 kp:d9 K (.ref f)=true
section
variable {P:Program} {w:World} {K:ai} {mg:Str->Option Value} {base:Heap}
theorem Cs.ok {x dS:Str} {st:Stmt} {f:Addr} {fd:FuncData} {N ps:List Str} {k:Nat} {sp:Sp} (F:Cs K x dS st f fd) (S:bP N ps (gM st)) (len:∀ vs H Q E,sp vs H Q E->vs.length=ps.length)
    (mz:∀ (e6:Value) (A:Around) (outer:List Env) (s:Shared) (H:Hp) (vs:List V) (Q:VK) (E:XK),iy k (A.deeper (envOfC dS (gM st) s.heap.objs.size f e6))->sp vs H Q E ->
      ∃ t,r6 (qV D5 P w K mg base N dS (gM st) f e6 A outer s H E).zZ (t6 st) t/\t { nx:=fun _ H'=>Q .iJ H',rt:=Q } (start N vs) H):nN P w K mg base D5 (k+1) f fd ps sp:=by
  obtain ⟨oc,od,kV,mj,pm,an,e6,ct,sj,rfl,lk,tw⟩:=F.ex
  refine vp lk tw S len fun A outer s H vs Q E hr qA=>?_
  obtain ⟨t,h,q⟩:=mz e6 A outer s H vs Q E hr qA
  exact ⟨t,h.zZ,q⟩
theorem Cs.binds {x dS:Str} {st:Stmt} {f:Addr} {fd:FuncData} {ps:List Str} (F:Cs K x dS st f fd)
    (h:∀ (kV mj pm:Value) (an:Option Addr) (e6 ct:Value) (us:List Value),us.length=ps.length->bindArgs (c9 x dS (wY st) (t6 st) (gM st) .none kV mj pm an e6 ct) ⟨us,[]⟩ = pure (ps.zip us)):Binds K fd ps []:=by
  obtain ⟨oc,od,kV,mj,pm,an,e6,ct,sj,rfl,lk,tw⟩:=F.ex
  exact .all (h kV mj pm an e6 ct)
theorem HG {x dS:Str} {st:Stmt} {f:Addr} {oc:Value} {od an:Option Addr} {sj:Array (Option Value)} {kV mj pm e6 ct:Value} (l:K.lookup f=some ⟨oc,od,.func (c9 x dS (wY st) (t6 st) (gM st) .none kV mj pm an e6 ct),sj⟩)
    (c:eU K e6 dS=true) (k:d9 K (.ref f)=true):Cs K x dS st f (c9 x dS (wY st) (t6 st) (gM st) .none kV mj pm an e6 ct):=⟨⟨oc,od,kV,mj,pm,an,e6,ct,sj,rfl,l,c⟩,k⟩
end
theorem qB {A:Around} {k:Nat} (hr:iy k A):A.units+1<cLine:=jC (Nat.add_le_add_left (by decide:1<=64) _) hr.units
section
variable {X:Cx}
theorem pv (i:Nat) {x:Str} {pos:Pos} (hN:X.N[i]? = some x:=by rfl) (hv:JT X.env.scope x:=by first | exact Or.inl rfl | exact Or.inr (Or.inl rfl) | exact Or.inr (Or.inr rfl)) (hd:(x == ("__debug__" : Str))=false:=by decide)
    (tw:(x == ("__classdict__" : Str))=false:=by decide):PE X (.Name x pos) (A1 i):=Yv hN hv hd tw
end
theorem ir {c A B:Prop} [Decidable c] (h1:c->A) (h2:¬ c->B):if c then A else B:=by
 by_cases h:c
 ·rw [if_pos h]
  exact h1 h
 ·rw [if_neg h]
  exact h2 h
def bT (H H':Hp):Prop:=∀ b o,H b=some o->H' b=some o
theorem bT.refl (H:Hp):bT H H:=fun _ _ h=>h
theorem bT.trans {H H1 H2:Hp} (a:bT H H1) (b:bT H1 H2):bT H H2:=fun c o h=>b c o (a c o h)
theorem bT.free {H H':Hp} (e:bT H H') {l:Addr} (h:H' l=Option.none):H l=Option.none:=by
 cases q:H l with
 | none=>rfl
 | some o =>
  rw [e l o q] at h
  cases h
theorem bT.seq {K:ai} {H H':Hp} {a:Addr} {xs:List V} (e:bT H H') (h:gR K H a xs):gR K H' a xs:=by
 rcases h with (h | ⟨o,h⟩) | h
 ·exact .inl (.inl (e _ _ h))
 ·exact .inl (.inr ⟨o,e _ _ h⟩)
 ·exact .inr h
end L2
set_option maxHeartbeats 4000000
namespace L2
open PySem PySem.Spec PyProof.Rows
theorem Fo {α:Type} {P:List α->Prop} {n:Nat} (h:∀ x r,r.length=n->P (x :: r)):∀ us:List α,us.length=n+1->P us
 | [],e=>absurd e (by simp)
 | x :: r,e=>h x r (by simpa using e)
theorem Tn {α:Type} {P:List α->Prop} (h:P []):∀ us:List α,us.length = 0->P us
 | [],_=>h
 | _ :: _,e=>absurd e (by simp)
theorem HZ {α:Type} {P:List α->Prop} (h:∀ x0,P [x0]):∀ us:List α,us.length = 1->P us:=Fo fun x r e=>Tn (P:=fun r=>P (x :: r)) (h x) r e
theorem Ia {α:Type} {P:List α->Prop} (h:∀ x0 x1,P [x0,x1]):∀ us:List α,us.length = 2->P us:=Fo fun x r e=>HZ (P:=fun r=>P (x :: r)) (h x) r e
theorem Nr {α:Type} {P:List α->Prop} (h:∀ x0 x1 x2,P [x0,x1,x2]):∀ us:List α,us.length = 3->P us:=Fo fun x r e=>Ia (P:=fun r=>P (x :: r)) (h x) r e
theorem Nt {α:Type} {P:List α->Prop} (h:∀ x0 x1 x2 x3,P [x0,x1,x2,x3]):∀ us:List α,us.length = 4->P us:=Fo fun x r e=>Nr (P:=fun r=>P (x :: r)) (h x) r e
theorem To {α:Type} {P:List α->Prop} (h:∀ x0 x1 x2 x3 x4,P [x0,x1,x2,x3,x4]):∀ us:List α,us.length = 5->P us:=Fo fun x r e=>Nt (P:=fun r=>P (x :: r)) (h x) r e
end L2
namespace Sw
def dv (a b:Int):Int:=(Int.gcd a b:Nat)
theorem sZ (a b:Int):0<=dv a b:=nS _
theorem qW (a b:Int):dv a b ∣ a:=Int.gcd_dvd_left a b
theorem nc (a b:Int):dv a b ∣ b:=Int.gcd_dvd_right a b
theorem XG (a b:Int):dv a b=dv b a:=by unfold dv; rw [Int.gcd_comm]
theorem qX (a b:Int):dv (-a) b=dv a b:=by unfold dv; rw [Int.neg_gcd]
theorem Rc (a b:Int):dv a (-b)=dv a b:=by unfold dv; rw [Int.gcd_neg]
theorem qY (a:Int) (h:0<=a):dv a 0=a:=by
 unfold dv; rw [Int.gcd_zero_right]; omega
theorem xX {a b:Int} (h:dv a b = 0):a = 0/\b = 0:=by
 unfold dv at h
 exact Int.gcd_eq_zero_iff.mp (by omega)
theorem xY {a b:Int} (h:b≠0):0<dv a b:=by
 have:=sZ a b
 rcases Ag this with q | q
 ·exact q
 ·exact absurd (xX q.symm).2 h
theorem RZ {a b c:Int} (h1:c ∣ a) (h2:c ∣ b):c ∣ dv a b:=Int.dvd_coe_gcd h1 h2
theorem YH {a b c d:Int} (h:∀ x:Int,(x ∣ a/\x ∣ b)↔(x ∣ c/\x ∣ d)):dv a b=dv c d:=by
 have h1:dv a b ∣ dv c d:=RZ ((h _).mp ⟨qW a b,nc a b⟩).1 ((h _).mp ⟨qW a b,nc a b⟩).2
 have h2:dv c d ∣ dv a b:=RZ ((h _).mpr ⟨qW c d,nc c d⟩).1 ((h _).mpr ⟨qW c d,nc c d⟩).2
 exact Cu (sZ _ _) (sZ _ _) h1 h2
theorem vo (a b:Int):dv b (a % b)=dv a b:=by
 refine YH fun x=>⟨fun ⟨h1,h2⟩=>⟨?_,h1⟩,fun ⟨h1,h2⟩=>⟨h2,?_⟩⟩
 ·have e:=Int.mul_ediv_add_emod a b
  rw [<- e]
  exact Int.dvd_add (Int.dvd_trans h1 (Bc b _)) h2
 ·rw [Int.emod_def]
  exact Int.dvd_sub h1 (Int.dvd_trans h2 (Bc b _))
theorem CO (a b:Int):dv (if a<0 then -a else a) (if b<0 then -b else b)=dv a b:=by
 split <;> split <;> simp only [qX,Rc]
theorem WW (g a b:Int) (h:0<=g):dv (g*a) (g*b)=g*dv a b:=by
 unfold dv; rw [Int.gcd_mul_left]
 have:((g.natAbs*a.gcd b:Nat):Int)=(g.natAbs:Int)*(a.gcd b:Nat):=by simp
 rw [this]; congr 1; omega
theorem XI {a b:Int} (h:dv a b≠0):dv (a / dv a b) (b / dv a b) = 1:=by
 have hp:0<dv a b:=by have:=sZ a b; omega
 have e1:a=dv a b*(a / dv a b):=(xG (qW a b)).symm
 have e2:b=dv a b*(b / dv a b):=(xG (nc a b)).symm
 have e:dv a b=dv a b*dv (a / dv a b) (b / dv a b):=by
  have:=WW (dv a b) (a / dv a b) (b / dv a b) (kY hp)
  rw [<- e1,<- e2] at this
  exact this
 have e':dv a b*1=dv a b*dv (a / dv a b) (b / dv a b):=by rw [Int.mul_one]; exact e
 exact (Int.eq_of_mul_eq_mul_left (by omega) e').symm
structure Fr (n d:Int):Prop where
 pos:0<d
 low:dv n d = 1
theorem Jj {n d x:Int} (h:dv n d = 1) (q:d ∣ n*x):d ∣ x:=by
 have h':xH d.natAbs n.natAbs:=by
  unfold dv at h
  have:Int.gcd n d = 1:=by omega
  unfold xH
  rw [Nat.gcd_comm]; exact this
 have q':d.natAbs ∣ n.natAbs*x.natAbs:=by rw [<- Int.natAbs_mul]; exact lM.mpr q
 exact lM.mp (h'.dvd_of_dvd_mul_left q')
theorem Fr.uniq {n d m e:Int} (h:Fr n d) (k:Fr m e) (q:n*e=m*d):n=m/\d=e:=by
 have h1:d ∣ e:=Jj h.low ⟨m,by rw [q,kZ]⟩
 have h2:e ∣ d:=Jj k.low ⟨n,by rw [<- q,kZ]⟩
 have e1:d=e:=Cu (kY h.pos) (kY k.pos) h1 h2
 subst e1
 have:=h.pos
 exact ⟨Int.eq_of_mul_eq_mul_right (by omega) q,rfl⟩
def rN (t b:Int):Int:=if b<0 then t / (-(dv t b)) else t / dv t b
def rD (t b:Int):Int:=if b<0 then b / (-(dv t b)) else b / dv t b
theorem YI {t b:Int}:rN t b*(if b<0 then -(dv t b) else dv t b)=t:=by
 unfold rN
 split
 ·exact jf (qj.mpr (qW t b))
 ·exact jf (qW t b)
theorem YJ {t b:Int}:rD t b*(if b<0 then -(dv t b) else dv t b)=b:=by
 unfold rD
 split
 ·exact jf (qj.mpr (nc t b))
 ·exact jf (nc t b)
theorem Wt {t b:Int} (h:b≠0):rN t b*b=rD t b*t:=by
 have e1:=YI (t:=t) (b:=b)
 have e2:=YJ (t:=t) (b:=b)
 generalize (if b<0 then -(dv t b) else dv t b)=c at e1 e2
 calc rN t b*b=rN t b*(rD t b*c):=by rw [e2]
  _=rD t b*(rN t b*c):=by rw [<- jU,<- jU,kZ (rN t b)]
  _=rD t b*t:=by rw [e1]
theorem YK {t b:Int} (h:b≠0):Fr (rN t b) (rD t b):=by
 have hp:=xY (a:=t) h
 refine ⟨?_,?_⟩
 ·unfold rD
  by_cases hb:b<0
  ·rw [if_pos hb,vY]
   obtain ⟨k,hk⟩:=nc t b
   have:b / dv t b=k:=rX (by omega) hk
   rw [this]
   rcases Int.lt_or_le k 0 with q | q
   ·omega
   ·have:=l8 (kY hp) q; omega
  ·rw [if_neg hb]
   obtain ⟨k,hk⟩:=nc t b
   have:b / dv t b=k:=rX (by omega) hk
   rw [this]
   rcases Int.lt_or_le 0 k with q | q
   ·exact q
   ·have:=Int.mul_nonneg_of_nonpos_of_nonpos (a:=-(dv t b)) (b:=k) (by omega) q
    rw [Int.neg_mul] at this
    omega
 ·have q:=XI (a:=t) (b:=b) (by omega)
  unfold rN rD
  by_cases hb:b<0
  ·rw [if_pos hb,if_pos hb,vY,vY,qX,Rc]; exact q
  ·rw [if_neg hb,if_neg hb]; exact q
def Sz (n:Nat) (x:Int):Prop:=x.natAbs<2 ^ n
theorem Sz.mono {m n:Nat} {x:Int} (h:Sz m x) (hm:m<=n):Sz n x:=bI h (l9 (by decide) hm)
theorem Sz.mul {m n:Nat} {x y:Int} (h:Sz m x) (k:Sz n y):Sz (m+n) (x*y):=by
 unfold Sz at *
 rw [Int.natAbs_mul,Nat.pow_add]
 by_cases hy:y.natAbs = 0
 ·rw [hy,Nat.mul_zero]; exact Nat.mul_pos (qQ m) (qQ n)
 ·exact Nat.mul_lt_mul_of_lt_of_lt h k
theorem Sz.add {n:Nat} {x y:Int} (h:Sz n x) (k:Sz n y):Sz (n+1) (x+y):=by
 unfold Sz at *
 rw [Nat.pow_succ]; omega
theorem Sz.sub {n:Nat} {x y:Int} (h:Sz n x) (k:Sz n y):Sz (n+1) (x-y):=by
 unfold Sz at *
 rw [Nat.pow_succ]; omega
theorem Sz.neg {n:Nat} {x:Int} (h:Sz n x):Sz n (-x):=by unfold Sz at *; omega
theorem Sz.le {n:Nat} {x y:Int} (h:Sz n y) (k:x.natAbs<=y.natAbs):Sz n x:=jC k h
theorem Sz.zero (n:Nat):Sz n 0:=qQ n
theorem Sz.dvd {n:Nat} {x y:Int} (h:Sz n y) (d:x ∣ y) (hy:y≠0):Sz n x:=by
 refine h.le ?_
 exact Nat.le_of_dvd (by omega) (lM.mpr d)
end Sw
namespace Sw
theorem Sz.lit {x:Int} (h:x.natAbs<1606938044258990275541962092341162602522202993782792835301376):Sz 5000 x:=by
 have e:(2:Nat) ^ 200 = 1606938044258990275541962092341162602522202993782792835301376:=by decide
 exact bI (by rw [e]; exact h) (l9 (by decide) (by decide:200<=5000))
end Sw
namespace Sw
theorem Sz.U7 {x:Int} (h1:-1000000000000000000000000000000000000000000000000000000000000<x) (h2:x<1000000000000000000000000000000000000000000000000000000000000):Sz 200 x:=by
 have e:(2:Nat) ^ 200 = 1606938044258990275541962092341162602522202993782792835301376:=by decide
 unfold Sz; rw [e]; omega
end Sw
namespace Sw
theorem Sz.j5 {x:Int} (h1:-100000000000000000000<x) (h2:x<100000000000000000000):Sz 70 x:=by
 have e:(2:Nat) ^ 70 = 1180591620717411303424:=by decide
 unfold Sz; rw [e]; omega
theorem Sz.one (n:Nat):Sz (n+1) 1:=by
 unfold Sz
 exact bI (by decide:Ah 1<2 ^ 1) (l9 (by decide) (by omega))
end Sw
namespace L2
open PySem PySem.Spec PyProof.Rows
theorem PB {n:Nat} {x:Int} (h:Sw.Sz n x):Builtin.Int.intBits x<=n:=by
 unfold Builtin.Int.intBits
 split
 ·exact bR _
 ·rename_i hx
  have Od:x≠0:=by simpa using hx
  have:x.natAbs.log2<n:=(Nat.log2_lt (by omega)).mpr h
  omega
def Bb (i j:Int):Prop:=Sw.Sz 5000 i/\Sw.Sz 5000 j
def xD (i j:Int):Prop:=0<j/\Sw.Sz 5000 j
def ES (i j:Int):Prop:=j≠0/\Sw.Sz 5000 j
theorem P9 {i j:Int} (h0:j≠0) (h:Sw.Sz 5000 j):Builtin.divisionGoesByPylong i j=false:=by
 refine PyProof.noPylong_of_log2 ?_
 have:j.natAbs.log2<5000:=(Nat.log2_lt (by omega)).mpr h
 omega
section
variable {X:Cx}
theorem pS:qm X (binaryOp .Mult) (rI Bb fun i j=>.int (i*j)):=GC fun _ _ _ _ _ _ _ hc q =>
 mul_int q (IntMulOk.of_bits (cK (PB hc.1) (by decide)) (cK (PB hc.2) (by decide)))
theorem u8:qm X (binaryOp .FloorDiv) (rI xD fun i j=>.int (i / j)):=GC fun i j _ _ _ _ _ hc q=>by
 have h1:(0:Int)<j:=hc.1
 exact floordiv_int (by omega) (by rw [Int.fdiv_eq_ediv_of_nonneg i (by omega)]; exact q) (.inl (P9 (by omega) hc.2))
theorem QA:qm X (binaryOp .FloorDiv) (rI ES fun i j=>.int (i.fdiv j)):=GC fun _ _ _ _ _ _ _ hc q=>floordiv_int hc.1 q (.inl (P9 hc.1 hc.2))
structure jT (P:Program) (w:World) (K:ai) (mg:Str->Option Value) (base:Heap) (CX:pT) (k:Nat) (x:Str) (ps:List Str) (sp:Sp):Prop where
 ex:∃ (f:Addr) (fd:FuncData),nN P w K mg base CX k f fd ps sp/\Binds K fd ps []/\d9 K (.ref f)=true/\mg x=some (.ref f)
structure jW (K:ai) (mg:Str->Option Value) (x:Str) (st:Stmt) (ps:List Str):Prop where
 ex:∃ (f:Addr) (fd:FuncData),Cs K x x st f fd/\Binds K fd ps []/\mg x=some (.ref f)
end
end L2
namespace L2
theorem Qa {c:TT} {tb:TS} {D:Ends} {σ:St} {H:Hp} (Pv:St->Hp->Prop) (μ:St->Hp->Nat) (h0:Pv σ H)
    (hs:∀ σ H,Pv σ H->∃ b:Bool,(∀ Q:Bool->Hp->Prop,Q b H->c σ H Q)/\(b=true->tb { D with nx:=fun σ' H'=>Pv σ' H'/\μ σ' H' < μ σ H,ct:=fun σ' H'=>Pv σ' H'/\μ σ' H' < μ σ H,bk:=D.nx } σ H)/\(b=false->D.nx σ H)):Jv c tb D σ H:=by
  refine ⟨fun m σ H=>m = μ σ H/\Pv σ H,⟨_,rfl,h0⟩,?_⟩
  rintro m σ H ⟨rfl,p⟩
  obtain ⟨b,hc,h1,h2⟩:=hs σ H p
  refine hc _ ?_
  cases b with
  | true=>exact ⟨_,fun σ' H' ⟨p',l⟩=>⟨_,l,rfl,p'⟩,h1 rfl⟩
  | false=>exact h2 rfl
end L2
namespace L2
open PySem PySem.Spec PyProof.Rows
def vJ (K:ai):Sp:=fun vs H Q _=>∃ (a:Addr) (ns:List Int),vs = [.ref a]/\gR K H a (ns.map V.int)/\ns.length<=63/\∀ H',Q (.bl true) H'
def yF (g:Int->Int):Sp:=fun vs H Q _=>∃ a,vs = [.int a]/\Q (.int (g a)) H
def uV (g:Int->Int->Int):Sp:=fun vs H Q _=>∃ a b,vs = [.int a,.int b]/\Q (.int (g a b)) H
def jE (ns:List Int) (k:Int):Int:=(ns[k.toNat]?).getD 0
def R3 (K:ai):Sp:=fun vs H Q _=>∃ a ns k,vs = [.ref a,.int k]/\gR K H a (ns.map V.int)/\0<=k/\Q (.int (jE ns k)) H
theorem V8 {ns:List Int} {k:Int} (h0:0<=k) (h:k<ns.length):uH (ns.map V.int) k=some (V.int (jE ns k)):=by
 have e:((k.toNat:Nat):Int)=k:=by omega
 have hl:k.toNat<ns.length:=by omega
 have q:(ns.map V.int)[k.toNat]? = some (V.int (jE ns k)):=by
  rw [bh]
  unfold jE
  rw [au hl]
  rfl
 have:=Aa q
 rw [e] at this
 exact this
theorem VT {ns:List Int} {k:Int} (h0:0<=k) (h:¬ k<ns.length):jE ns k = 0:=by
 unfold jE
 rw [bN (by omega)]
 rfl
def vK:Sp:=fun vs H Q _=>∃ n,vs = [.int n]/\Q (.bl true) H
end L2
namespace L2
theorem di {t u:TS} {D:Ends} {σ:St} {H:Hp} (h:∀ R:St->Hp->Prop,(∀ σ H,u D σ H->R σ H)->t { D with nx:=R } σ H):fU t u D σ H:=h (u D) fun _ _ x=>x
end L2
namespace L2
open PySem PySem.Spec PyProof.Rows
theorem IY {K:ai} {H:Hp} {a:Addr} {ns:List Int} {k:Int} {Q:VK} {E:XK} (hS:gR K H a (ns.map V.int)) (h0:0<=k) (q:Q (.int (jE ns k)) H):R3 K [.ref a,.int k] H Q E:=⟨a,ns,k,rfl,hS,h0,q⟩
end L2
namespace L2
theorem qv {a b:Int} (h1:a.natAbs<1606938044258990275541962092341162602522202993782792835301376) (h2:b.natAbs<1606938044258990275541962092341162602522202993782792835301376):Bb a b:=⟨Sw.Sz.lit h1,Sw.Sz.lit h2⟩
theorem qt {a b:Int} (h0:0<b) (h2:b.natAbs<1606938044258990275541962092341162602522202993782792835301376):xD a b:=⟨h0,Sw.Sz.lit h2⟩
end L2
namespace L2
open PySem
theorem tF {n:Nat} (h:n<=1000):n<=sizeLine:=cK h (by decide)
theorem cX {n:Nat} (h:n<1000):n<sizeLine:=bI h (by decide)
theorem fj {K:ai} {H:Hp} {p:Addr} {xs:List V} {i:Int} {v:V} {Q:VK} (hT:sN K H p xs) (h:uH xs i=some v) (q:Q v H):Dm K (.ref p) (.int i) H Q:=⟨p,xs,i,v,rfl,rfl,hT,h,q⟩
theorem qP {K:ai} {H:Hp} {p:Addr} {xs:List V} {i:Int} {v:V} {Q:VK} (hT:gR K H p xs) (h:uH xs i=some v) (q:Q v H):yz K (.ref p) (.int i) H Q:=⟨p,xs,i,v,rfl,rfl,hT,h,q⟩
end L2
namespace L2
open PySem PySem.Spec PyProof.Rows
end L2
namespace L2
theorem Le {c A B:Prop} [Decidable c] (hc:¬ c) (h:B):if c then A else B:=by rw [if_neg hc]; exact h
end L2
namespace L2
end L2
namespace L2
open PySem PySem.Spec PyProof.Rows
section
variable {X:Cx} {ao:List (Addr×Obj)} {σ:St} {H:Hp} {s:Shared}
end
section
variable {X:Cx}
end
theorem cZ {H:Hp} {a:Addr} {o:HO} (h:H a=none):bT H (aQ H a o):=fun b u e=>by rw [c8 (gX e h)]; exact e
def D7 (K:ai) (a:Addr):It :=
  ⟨fun i H=>∃ xs x,gR K H a xs/\xs[i]? = some x,
   fun i H y H'=>∃ p x,y = .ref p/\H p=none/\(∀ xs,gR K H a xs->xs[i]? = some x)/\H'=aQ H p (.tup [.int i,x]),
   fun i H=>∃ xs,gR K H a xs/\xs.length<=i⟩
theorem Wu {P:Program} {w:World} {K:ai} {o8:List Expr} {x1} {pos:Pos} (a e it:Addr) (NT:e≠it) :
    wo P w K (.Tuple o8 x1 pos) (D7 K a) [e,it] e (fun i h=>(∃ z4,IsEnum h e it ((i:Nat):Int) z4)/\h.IsListIter it a i) where
  mem:=by simp
  obj:=fun i h st b hb=>by
    obtain ⟨⟨z4,he⟩,wC⟩:=st
    rcases aM.mp hb with rfl | hb
    · exact ⟨_,he,fun v z=>by cases z⟩
    · have e:b=it:=by simpa using hb
      subst e
      obtain ⟨o,e,c,d⟩:=wC
      exact ⟨o,e,fun v z=>by rw [d] at z; cases z⟩
  keep:=fun i h h' st k=>by
    obtain ⟨⟨z4,he⟩,wC⟩:=st
    exact ⟨⟨z4,k e (by simp) _ he⟩,wC.at fun o q=>k it (by simp) o q⟩
  item:=by
    intro X hP hw hK hc i ao s σ H E I hf st hg
    subst hP hw hK
    obtain ⟨⟨z4,he⟩,wC⟩:=st
    obtain ⟨xs,x,hq,hx⟩:=hg
    obtain ⟨dJ,rv,p,hz⟩:=I.list hq
    obtain ⟨u,hu,ru⟩:=rv.get hx
    obtain ⟨f0,f1,f2,f3,f4,f5⟩:=hf e (by simp)
    obtain ⟨g0,g1,g2,g3,g4,g5⟩:=hf it (by simp)
    have yc:e<s.heap.objs.size:=Heap.lt_size he
    have Ub:it<s.heap.objs.size:=by obtain ⟨o,q,_⟩:=id wC; exact Heap.lt_size q
    refine wpAny_pyNext_enum_item he wC p.isList (x:=u) (by simpa using hu) NT fun h1 BB KH Ur La Uc=>?_
    refine ⟨.ref s.heap.objs.size,rfl,wpAny_letOwnedTupleGo_enum BB fun h2 T7 Az=>?_⟩
    have ye:Heap.SameBut e h1 h2:=Az
    have KI:h2.IsListIter it a (i+1):=KH.at fun o q=>(ye.2 it (dI NT)).trans q
    have fresh:H s.heap.objs.size=none:=I.eW.fresh (av _)
    have C7:h2.get? s.heap.objs.size=some { cls:=.type "tuple", data:=.seq #[.int i s.toks,u] }:=(ye.2 _ (wd yc)).trans Ur
    have yp:∀ b v,H b=some v->b≠e/\b≠it:=fun b v q=>⟨fun z=>(by rw [z,f0] at q; cases q),fun z=>(by rw [z,g0] at q; cases q)⟩
    have k2:∀ b o,b≠e->b≠it->s.heap.get? b=some o->h2.get? b=some o:=fun b o n1 n2 q=>(ye.2 b n1).trans (Uc b o n1 n2 q)
    have up:∀ b o,H b=some o->(aQ H s.heap.objs.size (.tup [.int i,x])) b=some o:=fun b o q=>by rw [c8 (gX q fresh)]; exact q
    have I2:Inv X ao σ (aQ H s.heap.objs.size (.tup [.int i,x])) { s with heap:=h2,toks:=s.toks+1 }:=by
      refine I.step (g':=s.gens) (d':=s.drawn) (ch:=[e,it]) (fun b hb=>?_) (fun b o _ _ hc q _=>k2 b o (fun z=>hc (by simp [z])) (fun z=>hc (by simp [z])) q)
        (fun b o _ _ hc q _=>⟨o.slots,k2 b o (fun z=>hc (by simp [z])) (fun z=>hc (by simp [z])) q⟩) (fun b o _ q n=>by rw [c8 (bL (Heap.lt_size q))]; exact n)
        (fun b o hc q=>?_) (fun b ys q=>up b _ q) (fun b ob v q=>up b _ q) (fun b ps q=>⟨#[],by rw [up b _ q]; simp⟩) (fun m hm=>?_) (fun b v q=>?_) I.bare
      · rcases aM.mp hb with rfl | hb
        · exact ⟨f3,f1,f4,f5⟩
        · have z:b=it:=by simpa using hb
          subst z
          exact ⟨g3,g1,g4,g5⟩
      · exact ⟨o,k2 b o (fun z=>hc (by simp [z])) (fun z=>hc (by simp [z])) q⟩
      · obtain ⟨o,es,ep,ho,r⟩:=hm
        exact ⟨o,es,ep,k2 _ o (dI f1) (dI g1) ho,r⟩
      · by_cases hb:b=s.heap.objs.size
        · subst hb
          rw [cO] at q
          cases q
          exact ⟨by show 2<=sizeLine; decide,[.int i s.toks,u],.cons ⟨_,rfl⟩ (.cons ru .nil),_,C7,rfl,_,rfl⟩
        · rw [c8 hb] at q
          refine (I.eW b v q).nZ (fun c v' hc q'=>?_) (fun c z=>up c _ z) fun c ys z=>up c _ z
          have NR:c≠e/\c≠it:=by
            rcases hc with z | z
            · rw [z]; exact yp b v q
            · exact yp c _ z
          exact k2 c v' NR.1 NR.2 q'
    refine ⟨.ref s.heap.objs.size,_,I2,rfl,⟨s.heap.objs.size,x,rfl,fresh,fun ys hy=>by rw [I.mF hy hq]; exact hx,rfl⟩,⟨⟨u,by simpa using T7⟩,KI⟩,fun b hb=>?_⟩
    rw [c8]
    · exact (hf b hb).1
    · intro z
      rcases aM.mp hb with y | y
      · rw [y] at z; exact absurd z (bL yc)
      · have y:b=it:=by simpa using y
        rw [y] at z; exact absurd z (bL Ub)
  done:=by
    intro X hP hw hK hc i ao s σ H E I hf st hg
    subst hP hw hK
    obtain ⟨⟨z4,he⟩,wC⟩:=st
    obtain ⟨xs,hq,hx⟩:=hg
    obtain ⟨dJ,rv,p,hz⟩:=I.list hq
    obtain ⟨g0,g1,g2,g3,g4,g5⟩:=hf it (by simp)
    have hl:=rv.length
    exact wpAny_pyNext_enum_end (I.ok.hd hc) he wC p.isList (by simp; omega) fun h' eb=>⟨rfl,I.turned (t':=s.toks) (fun b o hb q=>eb b o hb q) g0 g1 g3 g4 g5⟩
  self:=fun _ _ _ _ _ st h=>by
    obtain ⟨⟨z4,he⟩,_⟩:=st
    exact wpAny_pyIter_enum he h
section
variable {X:Cx}
def vt (K:ai) (ta:TA):TI:=fun σ H R=>ta σ H fun vs H1=>∃ a,vs = [.ref a]/\(∃ xs,gR K H1 a xs)/\R (D7 K a) H1
theorem XJ {l:Expr} {ta:TA} {p pos rT:Pos} {o8:List Expr} {x1} (hg:Gl X "enumerate") (hm:X.mg "enumerate" = none) (ha:PA X [l] ta) (hs:starEach [l] X.env = [(false,eval l X.env)]:=by rfl) :
    PI X (.Tuple o8 x1 rT) (.Call (.Name "enumerate" p) [l] [] pos) (vt X.K ta):=by
  intro ao s σ H R I h
  refine Call_ (DQ I hg hm boot_enumerate (dB (fM (ha pos ao s σ H _ I h) fun us s1 ⟨vs,H1,I1,r1,q1⟩=>?_) hs rfl))
  obtain ⟨a,rfl,⟨xs,hq⟩,q⟩:=q1
  obtain ⟨u,rfl,r⟩:=dw.one r1
  cases r
  obtain ⟨dJ,rv,p,hz⟩:=I1.list hq
  refine call_enumerate_list p.isList fun h' he wC hsz hk=>?_
  refine wpAny_pyIter_enum he ?_
  refine ⟨s1.heap.objs.size+1,[s1.heap.objs.size+1,s1.heap.objs.size],_,_,H1,rfl,I1.kept (t':=s1.toks) hk,Wu a _ _ (Nat.succ_ne_self _),⟨⟨_,he⟩,wC⟩,fun b hb=>?_,q⟩
  rcases aM.mp hb with e | e
  · subst e; exact I1.wA (eV _) (I1.eW.fresh (eV _))
  · have e:b=s1.heap.objs.size:=by simpa using e
    subst e
    exact I1.wA (av _) (I1.eW.fresh (av _))
end
theorem My {K:ai} {a:Addr} {xs:List V} {g:TG} {tb:TS} {D:Ends} {σ:St} {H:Hp} (Pv:Nat->St->Hp->Prop) (h0:Pv 0 σ H) (hl:∀ i σ H,i<=xs.length->Pv i σ H->gR K H a xs)
    (hs:∀ i x σ H p,xs[i]? = some x->Pv i σ H->H p=none->g (.ref p) σ (aQ H p (.tup [.int i,x])) fun σ2 H2=>tb { D with nx:=Pv (i+1),ct:=Pv (i+1),bk:=D.nx } σ2 H2) (hd:∀ σ H,Pv xs.length σ H->D.nx σ H) :
    ∃ W:Nat->Nat->St->Hp->Prop,(∃ m,W 0 m σ H)/\∀ i m σ H,W i m σ H ->
      ((D7 K a).stop i H/\D.nx σ H)\/((D7 K a).go i H/\∃ N:St->Hp->Prop,(∀ σ' H',N σ' H'->∃ m',m' < m/\W (i+1) m' σ' H')/\∀ x H',(D7 K a).A5 i H x H'->g x σ H' fun σ2 H2=>tb { D with nx:=N,ct:=N,bk:=D.nx } σ2 H2):=by
  refine ⟨fun i m σ H=>m=xs.length-i/\i<=xs.length/\Pv i σ H,⟨xs.length,by simp,bR _,h0⟩,?_⟩
  rintro i m σ H ⟨rfl,hi,p⟩
  have q:=hl i σ H hi p
  by_cases jx:i<xs.length
  · refine .inr ⟨⟨xs,xs[i],q,by simp [jx]⟩,Pv (i+1),fun σ' H' p'=>⟨xs.length-(i+1),by omega,rfl,jx,p'⟩,fun y H' z=>?_⟩
    obtain ⟨b,x,rfl,hb,hx,rfl⟩:=z
    exact hs i x σ H b (hx xs q) p hb
  · have e:i=xs.length:=by omega
    subst e
    exact .inl ⟨⟨xs,q,av _⟩,hd σ H p⟩
section
variable {prog:Program} {w:World} {A:Around} {R:Result->Shared->Prop} {s:Shared}
theorem Ml {ng cY fO:Expr} {mD:List Expr} {scope:Scope} {pos:Pos} {it JW:Value} {env:Env} (I:Nat->Shared->Prop)
    (pN:∀ n s,I n s->wpAny (model prog w) A (pyNext it) (fun r s₁=>match r with
      | none=>R (.ok .next) s₁
      | some v=>wpAny (model prog w) A (letOwnedTupleGo cY it v) (fun _ OY=>wpAny (model prog w) A (assign cY env v) (fun _ s₂ =>
          wpAny (model prog w) A (forIn mD true fun c r=>if r=true then do let ok <- isTrue c env (eval c env); pure (jQ ok) else pure (jQ r)) (fun ok s₃ =>
            if ok=true then wpAny (model prog w) A (eval ng env) (fun x s₄ =>
              wpAny (model prog w) A (call (.builtin "list.append") [JW,x]) (fun _ s₅=>∃ m,m<n/\I m s₅) (notedBy (model prog w) A env fun e s'=>R (.error e) s') s₄) (notedBy (model prog w) A env fun e s'=>R (.error e) s') s₃
            else ∃ m,m<n/\I m s₃) (notedBy (model prog w) A env fun e s'=>R (.error e) s') s₂) (notedBy (model prog w) A env fun e s'=>R (.error e) s') OY) (notedBy (model prog w) A env fun e s'=>R (.error e) s') s₁) (notedBy (model prog w) A env fun e s'=>R (.error e) s') s)
    (n:Nat) (h:I n s) :
    codeAny (model prog w) A (.compLoop (.ListComp ng [⟨cY,fO,mD,0⟩] scope pos) 0 it JW env) R s:=by
  refine codeAny_loop rfl I (fun n s hI=>?_) n h
  show wpAny _ A ((compTurn (.ListComp ng [⟨cY,fO,mD,0⟩] scope pos) 0 it JW env).onRaise (fun x=>do noteFrame x env; theTreesLotGoes x)) _ _ s
  refine wpAny_noted ?_
  rw [compTurn_list]
  refine wpAny_bind (wpAny_standAt (wpAny_bind (wpAny_mono (pN n s hI) (fun r s₁ h₁=>?_) fun _ _ h'=>h')))
  cases r with
  | none=>exact wpAny_pure h₁
  | some v =>
    refine wpAny_bind (wpAny_mono h₁ (fun _ OY Uv=>?_) fun _ _ h'=>h')
    refine wpAny_bind (wpAny_mono Uv (fun _ s₂ h₂=>wpAny_bind (wpAny_mono h₂ (fun ok s₃ h₃=>?_) fun _ _ h'=>h')) fun _ _ h'=>h')
    cases ok with
    | false=>exact wpAny_pure ⟨rfl,h₃⟩
    | true =>
      exact wpAny_bind (wpAny_bind (wpAny_mono h₃ (fun x s₄ h₄=>wpAny_bind (wpAny_mono h₄ (fun _ s₅ h₅=>wpAny_pure (wpAny_pure ⟨rfl,h₅⟩)) fun _ _ h'=>h')) fun _ _ h'=>h'))
end
def mW (X:Cx) (scope:Scope) (cl:List (Str×Addr)) (N:List Str) (fp:List Addr) (s:Shared) (H:Hp):Cx :=
 { X with N:=N,s₀:=s,H₀:=H,env:=compEnvC scope cl s.heap.objs.size X.env,outer:=X.stack,stack:=X.stack,ex:=fp,fn:=fun _=>false,pn:=[],xe:=fun _ _=>False }
def nO (X:Cx) (sc:Scope):List (Str×Nat)->Prop
 | []=>True
 | p :: r=>(X.N[p.2]? = some p.1/\sc.names.lookup p.1=some .cell/\X.env.kindOf p.1=some .cell)/\nO X sc r
theorem nO.mem {X:Cx} {sc:Scope}:∀ {l:List (Str×Nat)},nO X sc l->∀ p∈l,X.N[p.2]? = some p.1/\sc.names.lookup p.1=some .cell/\X.env.kindOf p.1=some .cell
 | [],_,p,hp=>nomatch hp
 | q :: r,h,p,hp=>by
  rcases aM.mp hp with e | hp
  ·rw [e]; exact h.1
  ·exact nO.mem h.2 p hp
def sI (X:Cx) (mD:List Expr) (t:TT):Prop :=
 ∀ (ao:List (Addr×Obj)) (s:Shared) (σ:St) (H:Hp) (Q:Bool->Hp->Prop),Inv X ao σ H s->t σ H Q ->
  wpAny (model X.prog X.w) X.A (forIn mD true fun c r=>if r=true then do let ok <- isTrue c X.env (eval c X.env); pure (jQ ok) else pure (jQ r)) (TP X ao σ Q) X.xe s
def lU:TT:=fun _ H Q=>Q true H
theorem u9 {X:Cx}:sI X [] lU:=fun _ _ _ H _ I h=>wpAny_tests_nil ⟨H,I,h⟩
theorem Cf {X:Cx} {c:Expr} {t:TT} (hc:PT X c t):sI X [c] t:=fun ao s σ H Q I h=>wpAny_tests_one (hc ao s σ H Q I h)
def nJ (nt:Nat) (fr:List (Str×Nat)) (wi:TI) (g:TG) (tc:TT) (te:TE):TE:=fun σ H Q=>wi σ H fun J H1=>∀ D,H1 D=none->∃ W:Nat->Nat->St->Hp->Prop,
 (∃ m,W 0 m (gD nt none++fr.map fun p=>(σ[p.2]?).join) (aQ H1 D (.lst [])))/\∀ i m τ H',W i m τ H' ->
  (J.stop i H'/\Q (.ref D) H')\/(J.go i H'/\∃ N:St->Hp->Prop,(∀ τ' EV,N τ' EV->∃ m',m' < m/\W (i+1) m' τ' EV) /\
   ∀ x H2,J.A5 i H' x H2->g x τ H2 fun τ2 H3=>tc τ2 H3 fun b H4=>if b=true then te τ2 H4 fun y H5=>∃ ys,H5 D=some (.lst ys)/\ys.length<sizeLine/\N τ2 (aQ H5 D (.lst (ys++[y]))) else N τ2 H4)
section
variable {X:Cx}
theorem QB {scope:Scope} {cl:List (Str×Addr)} {ts:List Str} {fr:List (Str×Nat)} {fp:List Addr} {ao:List (Addr×Obj)} {σ:St} {H:Hp} {s:Shared} {h':Heap} {m:Str->Option Value} {t':Nat} (I:Inv X ao σ H s)
    (gx:scope.kind = .function) (nG:∀ x c,cl.lookup x=some c->X.env.cells.lookup x=some c)
    (kG:∀ x,((relabel scope X.env).names.lookup x=some .cell\/(relabel scope X.env).names.lookup x=some .free)->∃ c,cl.lookup x=some c) (qy:nO X (relabel scope X.env) fr)
    (CZ:∀ b∈fp,l7 X ao H b/\b<s.heap.objs.size) (hn:h'.Ns s.heap.objs.size m) (hk:∀ b o,s.heap.get? b=some o->h'.get? b=some o) :
    Inv (mW X scope cl (ts++fr.map (·.1)) fp s H) [] (gD ts.length none++fr.map fun p=>(σ[p.2]?).join) H { s with heap:=h',toks:=t' }:=by
  have nD:∀ c v,s.heap.IsCell c v->h'.IsCell c v:=fun c v ⟨o,ho,hd⟩=>⟨o,hk c o ho,hd⟩
  refine ⟨⟨I.ok.mod,gx,I.ok.glob,I.ok.blt,av _,fun x y c h1 h2=>I.ok.inj x y c (nG x c h1) (nG y c h2),kG,fun x c h=>(by cases h),I.ok.hd,I.ok.frames,.inl rfl,fun b hb=>?_,I.bs,cK I.ok.xQ I.sz,fun b o e hb=>?_,fun b hb z=>?_,I.stack,I.rQ⟩,
    rfl,I.bare,Un.kept hk,⟨m,hn,fun i x v e1 e2 e3=>?_⟩,fun x c e=>?_,I.eW.fresh (av _),fun x c e=>I.kD x c (nG x c e),fun p hp=>absurd (show p∈([]:List (Addr×Obj)) from hp) (by simp),I.eW.kept hk,?_⟩
  · obtain ⟨f,lt⟩:=CZ b hb
    exact ⟨bL lt,fun x c e=>f.2.2.2.2.1 x c (nG x c e)⟩
  · obtain ⟨f,lt⟩:=CZ b hb
    rcases f.2.2.2.1 with z | z
    · exact I.ok.wI b o e z
    · exact absurd (bI (Heap.lt_size e) (cK I.ok.xQ z)) (g6 _)
  · obtain ⟨f,lt⟩:=CZ b hb
    rcases aM.mp (I.rR b z) with y | y
    · exact f.2.1 y
    · exact f.2.2.1 y
  · have gI:(gD ts.length (none:Option V)).length=ts.length:=by simp
    by_cases hi:i<ts.length
    · rw [e9 (by rw [gI]; exact hi),jY,if_pos hi] at e2
      cases e2
    · rw [bW (by rw [gI]; omega),gI,bh] at e2
      have CP:(ts++fr.map (·.1))[i]? = some x:=e1
      rw [bW (by omega),bh] at CP
      cases ep:fr[i-ts.length]? with
      | none=>rw [ep] at e2; cases e2
      | some p =>
        rw [ep] at CP e2
        have ex:p.1=x:=bE CP
        have ev:(σ[p.2]?).join=some v:=bE e2
        obtain ⟨a1,a2,a3⟩:=qy.mem p (aq ep)
        have J8:σ[p.2]? = some (some v):=by
          cases q:σ[p.2]? with
          | none=>rw [q] at ev; cases ev
          | some o=>rw [q] at ev; cases o with
            | none=>cases ev
            | some v'=>cases ev; rfl
        obtain ⟨m',KP,KN⟩:=I.loc
        obtain ⟨u,ru,lk⟩:=KN p.2 p.1 v a1 J8 (.inr (.inl a3))
        subst ex
        refine ⟨u,ru,?_⟩
        rcases lk with ⟨z,_⟩ | ⟨_,c,ec,z⟩
        · rw [z] at a3; cases a3
        · obtain ⟨c',Fl⟩:=kG p.1 (.inl a2)
          have J3:c'=c:=bE ((nG _ _ Fl).symm.trans ec)
          exact .inr ⟨.inl a2,c',Fl,(by rw [J3]; exact nD _ _ z)⟩
  · obtain ⟨v,z⟩:=I.cell x c (nG x c e)
    exact ⟨v,nD _ _ z⟩
  · show _=(ts++fr.map (·.1)).length
    simp
theorem XM {ng cY fO:Expr} {mD:List Expr} {scope:Scope} {pos:Pos} {cl:List (Str×Addr)} {ts:List Str} {fr:List (Str×Nat)} {wi:TI} {g:TG} {tc:TT} {te:TE} (jj:X.calm=true)
    (kF:closureFor scope X.env=pure cl) (lF:∀ y∈scope.names,y.2≠.cell) (gx:scope.kind = .function) (i5:∀ y∈scope.names,y.2 = .local->scope.names.lookup y.1=some .local)
    (nG:∀ x c,cl.lookup x=some c->X.env.cells.lookup x=some c)
    (kG:∀ x,((relabel scope X.env).names.lookup x=some .cell\/(relabel scope X.env).names.lookup x=some .free)->∃ c,cl.lookup x=some c) (qy:nO X (relabel scope X.env) fr)
    (hi:PI X cY fO wi) (hg:∀ fp s H,PG (mW X scope cl (ts++fr.map (·.1)) fp s H) cY g) (hc:∀ fp s H,sI (mW X scope cl (ts++fr.map (·.1)) fp s H) mD tc)
    (he:∀ fp s H,PE (mW X scope cl (ts++fr.map (·.1)) fp s H) ng te) (hs:∀ x,foldedSetIterable fO X.env x=pure x:=by intro _; rfl) :
    PE X (.ListComp ng [⟨cY,fO,mD,0⟩] scope pos) (nJ ts.length fr wi g tc te):=by
  intro ao s σ H Q I h
  rw [eval_ListComp]
  refine wpAny_comprehension_free (use:=none) rfl hs kF gx i5 (fM (hi ao s σ H _ I h) fun xv s1 h1=>fM h1 fun Gk s2 h2=>?_)
  obtain ⟨it,fp,tn,J,H2,rfl,I2,T,wU,f2,hR⟩:=h2
  have D0:H2 s2.heap.objs.size=none:=I2.eW.fresh (av _)
  obtain ⟨W,⟨m0,w0⟩,pN⟩:=hR s2.heap.objs.size D0
  refine wpAny_newObj_type (wpAny_newFunctionEnv lF (by intro y hy; simp at hy) (fun h₁ pX uN=>?_) gx)
  dsimp only at pX uN ⊢
  have I3:Inv X ao σ (aQ H2 s2.heap.objs.size (.lst [])) { s2 with heap:=s2.heap.push { cls:=.type "list", dict:=none,data:=.seq ([]:List Value).toArray } } :=
    I2.laid (t':=s2.toks) (fun _ _ q=>Heap.get?_push_of_some _ q) (av _) ⟨bR _,[],0,.nil,Heap.get?_push_size _ rfl⟩
  have BH:∀ b o,s2.heap.get? b=some o->(s2.heap.push { cls:=.type "list", dict:=none,data:=.seq ([]:List Value).toArray }).get? b=some o:=fun b o q=>Heap.get?_push_of_some _ q
  have AY:(s2.heap.push { cls:=.type "list", dict:=none,data:=.seq ([]:List Value).toArray }).objs.size=s2.heap.objs.size+1:=Heap.size_push ..
  generalize s2.heap.push { cls:=.type "list", dict:=none,data:=.seq ([]:List Value).toArray } = gU at pX uN I3 BH AY ⊢
  have kp:∀ b o,gU.get? b=some o->h₁.get? b=some o:=fun b o e=>uN.extBut b o (bL (Heap.lt_size e)) (Heap.get?_push_of_some _ e)
  have wz:∀ b∈fp,b<s2.heap.objs.size:=fun b hb=>by
    obtain ⟨o,e,_⟩:=T.obj _ _ wU b hb
    exact Heap.lt_size e
  have x9:∀ b∈fp,(aQ H2 s2.heap.objs.size (.lst [])) b=none:=fun b hb=>by rw [c8 (bL (wz b hb))]; exact (f2 b hb).1
  have f3:∀ b∈fp,l7 X ao (aQ H2 s2.heap.objs.size (.lst [])) b/\b<gU.objs.size:=fun b hb=>⟨⟨x9 b hb,(f2 b hb).2⟩,by rw [AY]; exact oY (wz b hb)⟩
  have I4:=QB (ts:=ts) (t':=s2.toks+([]:List (Str×Value)).length) I3 gx nG kG qy f3 pX kp
  have BY:tn 0 h₁:=T.keep _ _ _ wU fun b hb o e=>kp b o (BH b o e)
  have tG:codeAny (model X.prog X.w) X.A (.compLoop (.ListComp ng [⟨cY,fO,mD,0⟩] scope pos) 0 (.ref it) (.ref s2.heap.objs.size) (compEnvC scope cl gU.objs.size X.env))
      (compPost (model X.prog X.w) X.A X.xe none (EP X ao σ Q) (.ref s2.heap.objs.size) gU.objs.size) { s2 with heap:=h₁,toks:=s2.toks+([]:List (Str×Value)).length }:=by
    refine Ml (fun n s'=>∃ i τ H',Inv (mW X scope cl (ts++fr.map (·.1)) fp { s2 with heap:=gU } (aQ H2 s2.heap.objs.size (.lst []))) [] τ H' s'/\tn i s'.heap/\(∀ b∈fp,H' b=none)/\W i n τ H') ?_ m0 ⟨0,_,_,I4,BY,x9,w0⟩
    rintro n s5 ⟨i,τ,H5,I5,xy,zQ,w5⟩
    have lT:∀ {H':Hp},(∀ b∈fp,H' b=none)->∀ b∈fp,l7 (mW X scope cl (ts++fr.map (·.1)) fp { s2 with heap:=gU } (aQ H2 s2.heap.objs.size (.lst []))) [] H' b :=
      fun hn b hb=>⟨hn b hb,(I5.ok.Bu b hb).1,I5.ok.uI b hb,.inl hb,(I5.ok.Bu b hb).2,fun p hp=>absurd (show p∈([]:List (Addr×Obj)) from hp) (by simp)⟩
    rcases pN i n τ H5 w5 with ⟨stop,qn⟩ | ⟨go,Nn,hN,step⟩
    · refine fM (T.done (mW X scope cl (ts++fr.map (·.1)) fp { s2 with heap:=gU } (aQ H2 s2.heap.objs.size (.lst []))) rfl rfl rfl jj i [] s5 τ H5 _ I5 (lT zQ) xy stop) fun r s6 ⟨hr,I6⟩=>?_
      subst hr
      obtain ⟨m,hn,_⟩:=I6.loc
      refine ⟨m,hn,fun h' zX=>⟨.ref s2.heap.objs.size,H5,?_,rfl,qn⟩⟩
      have ug:∀ b o,gU.get? b=some o->b≠gU.objs.size:=fun b o e=>bL (Heap.lt_size e)
      have rA:Heap.SameBut gU.objs.size s6.heap h':=zX
      refine I3.vn (s':={ s6 with heap:=h' }) (ch:=fp) I6.os ⟨fun b o e n hb hx=>?_,fun b o e n hb hx=>?_,I6.base.free,fun b o e hx=>?_,I6.base.pM,I6.base.nW,I6.base.pL⟩ (fun b ob e=>?_) I6.bare (fun b hb=>?_)
      · exact (rA.2 b (ug b o e)).trans (I6.base.keep b o e n hb hx)
      · obtain ⟨sl,q⟩:=I6.base.slot b o e n hb hx
        exact ⟨sl,(rA.2 b (ug b o e)).trans q⟩
      · obtain ⟨o',q⟩:=I6.base.there b o e hx
        exact ⟨o',(rA.2 b (ug b o e)).trans q⟩
      · refine (I6.eW b ob e).nZ (fun c v hc q=>(rA.2 c ?_).trans q) (fun _ q=>q) fun _ _ q=>q
        intro z
        have fz:H5 gU.objs.size=none:=I6.free
        rcases hc with y | y
        · rw [<- y,z,fz] at e; cases e
        · rw [z,fz] at y; cases y
      · exact ⟨(f2 b hb).2.2.2.1,(f2 b hb).2.1,(f2 b hb).2.2.2.2.1,(f2 b hb).2.2.2.2.2⟩
    · refine fM (T.item (mW X scope cl (ts++fr.map (·.1)) fp { s2 with heap:=gU } (aQ H2 s2.heap.objs.size (.lst []))) rfl rfl rfl jj i [] s5 τ H5 _ I5 (lT zQ) xy go) fun r s6 ⟨u,hr,h6⟩=>?_
      subst hr
      refine fM h6 fun _ s7 ⟨x,H7,I7,r7,y7,yL,Fx⟩=>?_
      have EY:=I7.pinned (lT Fx) (T.obj _ _ yL)
      refine wpAny_mono (hg fp _ _ _ s7 τ H7 x u _ EY r7 (step x H7 y7)) (fun _ s8 ⟨τ8,H8,I8,q8⟩=>?_) fun _ _ z=>bV z
      have again:∀ {τ9:St} {H9:Hp} {s9:Shared},Inv (mW X scope cl (ts++fr.map (·.1)) fp { s2 with heap:=gU } (aQ H2 s2.heap.objs.size (.lst []))) ([]++DR fp s7.heap) τ9 H9 s9->Nn τ9 H9 ->
          ∃ m,m<n/\∃ i τ H',Inv (mW X scope cl (ts++fr.map (·.1)) fp { s2 with heap:=gU } (aQ H2 s2.heap.objs.size (.lst []))) [] τ H' s9/\tn i s9.heap/\(∀ b∈fp,H' b=none)/\W i m τ H':=fun {τ9 H9 s9} I9 n9=>by
        obtain ⟨m',hm,w9⟩:=hN τ9 H9 n9
        refine ⟨m',hm,i+1,τ9,H9,I9.jI,T.keep _ _ _ yL fun b hb o e=>(I9.pin (b,o) (bA _ (bA _ (Cb hb e)))).1,fun b hb=>?_,w9⟩
        obtain ⟨o,e,d⟩:=T.obj _ _ yL b hb
        exact (I9.pin (b,o) (bA _ (bA _ (Cb hb e)))).2.1
      refine wpAny_mono (hc fp _ _ _ s8 τ8 H8 _ I8 q8) (fun ok s9 ⟨H9,I9,q9⟩=>?_) fun _ _ z=>bV z
      cases ok with
      | false=>exact again I9 q9
      | true =>
        refine wpAny_mono (he fp _ _ _ s9 τ8 H9 _ I9 q9) (fun y lH ⟨v,nQ,EW,rv,ys,hD,hl,qN⟩=>?_) fun _ _ z=>bV z
        refine wpAny_mono (wW (X:=mW X scope cl (ts++fr.map (·.1)) fp { s2 with heap:=gU } (aQ H2 s2.heap.objs.size (.lst []))) _ lH τ8 nQ (.ref s2.heap.objs.size) [v] (.ref s2.heap.objs.size) [y] (fun _ H=>Nn τ8 H) EW rfl (.cons rv .nil) ⟨_,ys,v,rfl,rfl,hD,hl,qN⟩) (fun _ vF ⟨_,xg,EX,_,GJ⟩=>again EX GJ) fun _ _ z=>bV z
  exact codeAny_compStart_list tG (T.self X.A 0 _ _ _ BY tG)
end
section
variable {X:Cx} {tg:Expr}
theorem mU (K:ai) (h:X.K=K):D8 X (yz K):=h ▸ XD
theorem fh (K:ai) (h:X.K=K):D8 X (Dm K):=h ▸ YE
theorem WX (K:ai) (h:X.K=K):JQ X (Dn K):=h ▸ XE
def GL (K:ai):List V->Hp->VK->Prop:=fun xs H Q=>∃ p ys,xs = [.ref p]/\(gR K H p ys\/sN K H p ys)/\Q (.int ys.length) H
theorem IZ (K:ai) (h:X.K=K):lZ X (.builtin "len") (GL K):=h ▸ VJ
def GN (K:ai):List V->Hp->VK->Prop:=fun xs H Q=>∃ p ys,xs = [.ref p]/\(gR K H p ys\/sN K H p ys)/\∀ l,H l=none->Q (.ref l) (aQ H l (.lst ys))
theorem IV (K:ai) (h:X.K=K):lZ X (.type "list") (GN K):=h ▸ VL
theorem qi (K:ai) (h:X.K=K) {es:List Expr} {k:Nat} {pos:Pos} {t:Bm} {n:Nat} (hc:X.calm=true) (hq:E5 X es t)
    (hn:(assignEach es X.env).length=n:=by rfl) (Ge:(assignEach es X.env).findIdx? (·.1)=none:=by rfl):PG X (.Tuple es k pos) (At K n t):=h ▸ Yz hc hq hn Ge
theorem nK (K:ai) (h:X.K=K) {l:Expr} {tl:TE} (hl:PE X l tl):PI X tg l (vv K tl):=h ▸ Xx hl
theorem DJ (K:ai) (h:X.K=K) {l:Expr} {ta:TA} {p pos rT:Pos} {o8:List Expr} {x1} (hg:Gl X "enumerate") (hm:X.mg "enumerate" = none) (ha:PA X [l] ta) (hs:starEach [l] X.env = [(false,eval l X.env)]:=by rfl) :
    PI X (.Tuple o8 x1 rT) (.Call (.Name "enumerate" p) [l] [] pos) (vt K ta):=h ▸ XJ hg hm ha hs
end
def uw (env:Env):List (Str×Addr)->Prop
 | []=>True
 | p :: r=>env.cells.lookup p.1=some p.2/\uw env r
theorem uw.get {env:Env}:∀ {cl:List (Str×Addr)},uw env cl->∀ x c,cl.lookup x=some c->env.cells.lookup x=some c
 | [],_,x,c,e=>by cases e
 | p :: r,h,x,c,e=>by
  obtain ⟨k,a⟩:=p
  rw [fS] at e
  by_cases q:x=k
  ·subst q
   rw [beq_self_eq_true] at e
   cases e
   exact h.1
  ·rw [beq_eq_false_iff_ne.mpr q] at e
   exact uw.get h.2 x c e
def sW (ns:List (Str×NameKind)) (cl:List (Str×Addr)):Bool:=ns.all fun y=>match y.2 with
 | .cell=>(cl.lookup y.1).isSome
 | .free=>(cl.lookup y.1).isSome
 | _=>true
theorem Mt {ns:List (Str×NameKind)} {cl:List (Str×Addr)} (h:sW ns cl=true) (x:Str) (q:ns.lookup x=some .cell\/ns.lookup x=some .free):∃ c,cl.lookup x=some c:=by
 unfold sW at h
 rw [Be] at h
 rcases q with q | q
 ·have:=h _ (eL q)
  exact gQ.mp this
 ·have:=h _ (eL q)
  exact gQ.mp this
theorem iK {X:Cx} {ng cY fO:Expr} {mD:List Expr} {scope:Scope} {pos:Pos} {cl:List (Str×Addr)} (ts:List Str) (fr:List (Str×Nat)) {wi:TI} {g:TG} {tc:TT} {te:TE} (jj:X.calm=true)
    (kF:closureFor scope X.env=pure cl) (lF:∀ y∈scope.names,y.2≠.cell) (gx:scope.kind = .function) (i5:∀ y∈scope.names,y.2 = .local->scope.names.lookup y.1=some .local)
    (nG:uw X.env cl) (kG:sW (relabel scope X.env).names cl=true) (qy:nO X (relabel scope X.env) fr)
    (hi:PI X cY fO wi) (hg:∀ fp s H,PG (mW X scope cl (ts++fr.map (·.1)) fp s H) cY g) (hc:∀ fp s H,sI (mW X scope cl (ts++fr.map (·.1)) fp s H) mD tc)
    (he:∀ fp s H,PE (mW X scope cl (ts++fr.map (·.1)) fp s H) ng te) (hs:∀ x,foldedSetIterable fO X.env x=pure x:=by intro _; rfl) :
    PE X (.ListComp ng [⟨cY,fO,mD,0⟩] scope pos) (nJ ts.length fr wi g tc te) :=
  XM jj kF lF gx i5 nG.get (fun x q=>Mt kG x q) qy hi hg hc he hs
def LN (K:ai):List V->Hp->VK->Prop:=fun xs H Q=>∃ (p:Addr) (ns:List Int),xs = [.ref p]/\gR K H p (ns.map V.int)/\Q (.int ns.sum) H
section
variable {X:Cx}
theorem Ja (K:ai) (h:X.K=K) (hc:X.calm=true):lZ X (.builtin "sum") (LN K):=by
 subst h
 intro ao s σ H xs us Q I r h
 obtain ⟨p,ns,rfl,hq,q⟩:=h
 obtain ⟨u,rfl,ru⟩:=vals1 r
 cases (show u=Value.ref p from ru)
 obtain ⟨dJ,rv,hp,hz⟩:=I.list hq
 have hi:=V6 rv
 obtain ⟨zs,e⟩:=hi.allInts.items
 have hl:=hp.isList
 rw [e] at hl
 refine sum_intListG (I.ok.hd hc) hl fun h' tk t' hk=>⟨.int ns.sum,H,I.kept (t':=tk) hk,⟨t',?_⟩,q⟩
 rw [preSum_eq,aK (by simp)]
 have:=hi.numsOf
 rw [show dJ=dJ.toArray.toList from rfl,e,nums_intItems] at this
 rw [<- this]
end
def jz (J:It) (g:TG) (tc:TT) (te:TE) (D:Addr) (τ:St) (H:Hp) (Q:VK):Prop :=
 ∃ W:Nat->Nat->St->Hp->Prop,(∃ m,W 0 m τ H)/\∀ i m τ H',W i m τ H' ->
  (J.stop i H'/\Q (.ref D) H')\/(J.go i H'/\∃ N:St->Hp->Prop,(∀ τ' EV,N τ' EV->∃ m',m' < m/\W (i+1) m' τ' EV) /\
   ∀ x H2,J.A5 i H' x H2->g x τ H2 fun τ2 H3=>tc τ2 H3 fun b H4=>if b=true then te τ2 H4 fun y H5=>∃ ys,H5 D=some (.lst ys)/\ys.length<sizeLine/\N τ2 (aQ H5 D (.lst (ys++[y]))) else N τ2 H4)
theorem tV {nt:Nat} {fr:List (Str×Nat)} {wi:TI} {g:TG} {tc:TT} {te:TE} {σ:St} {H:Hp} {Q:VK} :
    nJ nt fr wi g tc te σ H Q=wi σ H fun J H1=>∀ D,H1 D=none->jz J g tc te D (gD nt none++fr.map fun p=>(σ[p.2]?).join) (aQ H1 D (.lst [])) Q:=rfl
theorem uq {K:ai} {a:Addr} {xs:List V} {g:TG} {tc:TT} {te:TE} {D:Addr} {τ:St} {H:Hp} {Q:VK} (Pv:Nat->St->Hp->Prop) (h0:Pv 0 τ H) (hl:∀ i τ H,i<=xs.length->Pv i τ H->gR K H a xs)
    (hs:∀ i x τ H,xs[i]? = some x->Pv i τ H->g x τ H fun τ2 H3=>tc τ2 H3 fun b H4=>if b=true then te τ2 H4 fun y H5=>∃ ys,H5 D=some (.lst ys)/\ys.length<sizeLine/\Pv (i+1) τ2 (aQ H5 D (.lst (ys++[y]))) else Pv (i+1) τ2 H4)
    (hd:∀ τ H,Pv xs.length τ H->Q (.ref D) H) :
    jz (Cv K a) g tc te D τ H Q:=by
  refine ⟨fun i m τ H=>m=xs.length-i/\i<=xs.length/\Pv i τ H,⟨xs.length,by simp,bR _,h0⟩,?_⟩
  rintro i m τ H ⟨rfl,hi,p⟩
  have q:=hl i τ H hi p
  by_cases jx:i<xs.length
  · refine .inr ⟨⟨xs,xs[i],q,by simp [jx]⟩,Pv (i+1),fun τ' H' p'=>⟨xs.length-(i+1),by omega,rfl,jx,p'⟩,fun x H2 z=>?_⟩
    obtain ⟨rfl,hx⟩:=z
    exact hs i x τ H2 (hx xs q) p
  · have e:i=xs.length:=by omega
    subst e
    exact .inl ⟨⟨xs,q,av _⟩,hd τ H p⟩
theorem Jb {K:ai} {a:Addr} {xs:List V} {g:TG} {tc:TT} {te:TE} {D:Addr} {τ:St} {H:Hp} {Q:VK} (Pv:Nat->St->Hp->Prop) (h0:Pv 0 τ H) (hl:∀ i τ H,i<=xs.length->Pv i τ H->gR K H a xs)
    (hs:∀ i x τ H p,xs[i]? = some x->Pv i τ H->H p=none->g (.ref p) τ (aQ H p (.tup [.int i,x])) fun τ2 H3=>tc τ2 H3 fun b H4=>if b=true then te τ2 H4 fun y H5=>∃ ys,H5 D=some (.lst ys)/\ys.length<sizeLine/\Pv (i+1) τ2 (aQ H5 D (.lst (ys++[y]))) else Pv (i+1) τ2 H4)
    (hd:∀ τ H,Pv xs.length τ H->Q (.ref D) H) :
    jz (D7 K a) g tc te D τ H Q:=by
  refine ⟨fun i m τ H=>m=xs.length-i/\i<=xs.length/\Pv i τ H,⟨xs.length,by simp,bR _,h0⟩,?_⟩
  rintro i m τ H ⟨rfl,hi,p⟩
  have q:=hl i τ H hi p
  by_cases jx:i<xs.length
  · refine .inr ⟨⟨xs,xs[i],q,by simp [jx]⟩,Pv (i+1),fun τ' H' p'=>⟨xs.length-(i+1),by omega,rfl,jx,p'⟩,fun y H2 z=>?_⟩
    obtain ⟨b,x,rfl,hb,hx,rfl⟩:=z
    exact hs i x τ H b (hx xs q) p hb
  · have e:i=xs.length:=by omega
    subst e
    exact .inl ⟨⟨xs,q,av _⟩,hd τ H p⟩
theorem Qc {α:Type} {xs:List α} {i:Nat} {x:α} (h:xs[i]? = some x):xs.take (i+1)=xs.take i++[x]:=by
 rw [Ai,h]; rfl
theorem Wv {K:ai} {a:Addr} {xs:List V} {g:TG} {tc:TT} {te:TE} {D:Addr} {v0:Option V} {caps:St} {H:Hp} {Q:VK} (F:V->Option V) (hD:H D=none) (hS:gR K H a xs) (gI:xs.length<=1000)
    (hs:∀ x∈xs,∀ (v:Option V) (H':Hp) (C:V->St->Hp->Prop) (N:St->Hp->Prop),bT H H'->(∀ y,F x=some y->C y (some x :: caps) H')->(F x=none->N (some x :: caps) H') ->
      g x (v :: caps) H' fun τ2 H3=>tc τ2 H3 fun b H4=>if b=true then te τ2 H4 fun y H5=>C y τ2 H5 else N τ2 H4)
    (hd:Q (.ref D) (aQ H D (.lst (xs.filterMap F)))) :
    jz (Cv K a) g tc te D (v0 :: caps) (aQ H D (.lst [])) Q:=by
  refine uq (xs:=xs) (fun i τ H'=>(∃ v,τ = v :: caps)/\H'=aQ H D (.lst ((xs.take i).filterMap F))) ⟨⟨_,rfl⟩,by simp⟩ (fun i τ H' _ ⟨_,e⟩=>by rw [e]; exact (cZ hD).seq hS) ?_ ?_
  · rintro i x τ H' hx ⟨⟨v,rfl⟩,rfl⟩
    have hi:i<xs.length:=(aa.mp hx).1
    refine hs x (aq hx) v _ (fun y τ2 H5=>∃ ys,H5 D=some (.lst ys)/\ys.length<sizeLine/\(∃ v,τ2=v :: caps)/\aQ H5 D (.lst (ys++[y]))=aQ H D (.lst ((xs.take (i+1)).filterMap F)))
      (fun τ2 H4=>(∃ v,τ2=v :: caps)/\H4=aQ H D (.lst ((xs.take (i+1)).filterMap F))) (cZ hD) (fun y e=>?_) fun e=>?_
    · refine ⟨_,cO,cX ?_,⟨_,rfl⟩,?_⟩
      · have:=List.length_filterMap_le F (xs.take i)
        rw [bZ] at this
        omega
      · rw [QZ,Qc hx,iN]; simp [e]
    · refine ⟨⟨_,rfl⟩,?_⟩
      rw [Qc hx,iN]; simp [e]
  · rintro τ H' ⟨_,rfl⟩
    rw [iQ]; exact hd
abbrev Q4:=Int×Int×Int×Int
def q4 (q:Q4):List V:=[.int q.1,.int q.2.1,.int q.2.2.1,.int q.2.2.2]
abbrev jD (H:Hp):List Addr->List Q4->Prop:=Paired fun p q=>H p=some (.tup (q4 q))
theorem jD.len {H:Hp} {ps:List Addr} {qs:List Q4} (h:jD H ps qs):ps.length=qs.length:=Paired.length h
theorem jD.nil {H:Hp}:jD H [] []:=Paired.nil
theorem jD.same {H H':Hp} {ps:List Addr} {qs:List Q4} (h:jD H ps qs) (e:bT H H'):jD H' ps qs:=Paired.gB h fun _ _ q=>e _ _ q
theorem jD.keep {H H':Hp} {ps:List Addr} {qs:List Q4} (h:jD H ps qs) (e:∀ p xs,H p=some (.tup xs)->H' p=some (.tup xs)):jD H' ps qs:=Paired.gB h fun _ _ q=>e _ _ q
theorem jD.snoc {H:Hp} {t:Addr} {q:Q4} (ht:H t=some (.tup (q4 q))):∀ {ps:List Addr} {qs:List Q4},jD H ps qs->jD H (ps++[t]) (qs++[q])
 | _,_,Paired.nil=>.cons ht .nil
 | _,_,Paired.cons a b=>.cons a (jD.snoc ht b)
theorem jD.get {H:Hp}:∀ {ps:List Addr} {qs:List Q4} {i:Nat} {p:Addr},jD H ps qs->ps[i]? = some p->∃ q,qs[i]? = some q/\H p=some (.tup (q4 q))
 | _,_,_,_,Paired.nil,e=>by simp at e
 | _,_,0,_,Paired.cons a _,e=>by simp at e; subst e; exact ⟨_,rfl,a⟩
 | _,_,i+1,_,Paired.cons _ b,e=>by
  obtain ⟨q,h1,h2⟩:=jD.get (i:=i) b (by simpa using e)
  exact ⟨q,by simpa using h1,h2⟩
structure Row (H:Hp) (l:Addr) (ps:List Addr) (qs:List Q4):Prop where
 hl:H l=some (.lst (ps.map V.ref))
 r:jD H ps qs
theorem Row.same {H H':Hp} {l:Addr} {ps:List Addr} {qs:List Q4} (R:Row H l ps qs) (e:bT H H'):Row H' l ps qs:=⟨e _ _ R.hl,R.r.same e⟩
structure qT (H₀ H:Hp) (p:Addr) (ms:List V) (l:Addr) (ps:List Addr) (qs:List Q4):Prop where
 sm:bT H₀ H
 hp:H p=some (.lst ms)
 hl:H l=some (.lst (ps.map V.ref))
 r:jD H ps qs
theorem qT.same {H₀ H H':Hp} {p:Addr} {ms:List V} {l:Addr} {ps:List Addr} {qs:List Q4} (I:qT H₀ H p ms l ps qs) (e:bT H H'):qT H₀ H' p ms l ps qs:=⟨I.sm.trans e,e _ _ I.hp,e _ _ I.hl,I.r.same e⟩
theorem qT.snoc {H₀ H:Hp} {p:Addr} {ms:List V} {l t:Addr} {ps:List Addr} {qs:List Q4} {q:Q4} (I:qT H₀ H p ms l ps qs) (h0:H₀ l=none) (pY:p≠l) (ht:H t=some (.tup (q4 q))) :
    qT H₀ (aQ H l (.lst (ps.map V.ref++[.ref t]))) p ms l (ps++[t]) (qs++[q]):=by
  have kt:∀ b xs,H b=some (.tup xs)->aQ H l (.lst (ps.map V.ref++[.ref t])) b=some (.tup xs):=fun b xs e=>by
    rw [c8 (b7 e I.hl (by intro z; cases z))]; exact e
  refine ⟨fun b o e=>?_,by rw [c8 pY]; exact I.hp,by rw [cO]; simp,jD.snoc (kt _ _ ht) (I.r.keep kt)⟩
  rw [c8 (gX e h0)]; exact I.sm _ _ e
theorem Ww (ns:List Int) (lo hi:Option Int):∃ ms:List Int,m8 (ns.map V.int) lo hi=ms.map V.int/\ms.length<=ns.length:=by
 refine ⟨(ns.drop (HT.rJ (ns.map V.int).length 0 lo)).take (HT.rJ (ns.map V.int).length (ns.map V.int).length hi-HT.rJ (ns.map V.int).length 0 lo),?_,?_⟩
 ·unfold m8; rw [List.map_take,List.map_drop]
 ·rw [bZ,Bg]; omega
section
variable {X:Cx}
end
theorem Jw {K:ai} {H:Hp} {p:Addr} {ys:List V} {Q:VK} (h:gR K H p ys) (q:∀ l,H l=none->Q (.ref l) (aQ H l (.lst ys))):GN K [.ref p] H Q:=⟨p,ys,rfl,.inl h,q⟩
theorem MS {K:ai} {H:Hp} {p:Addr} {ys:List V} {Q:VK} (h:gR K H p ys) (q:Q (.int ys.length) H):GL K [.ref p] H Q:=⟨p,ys,rfl,.inl h,q⟩
theorem YL {K:ai} {H:Hp} {p:Addr} {xs:List V} {lo hi:Option Int} {Q:VK} (h:gR K H p xs) (q:∀ l,H l=none->Q (.ref l) (aQ H l (.lst (m8 xs lo hi)))):Dn K (.ref p) lo hi H Q:=⟨p,xs,rfl,h,q⟩
theorem Row.copy {H:Hp} {l l':Addr} {ps:List Addr} {qs:List Q4} (R:Row H l ps qs) (h:H l'=none):Row (aQ H l' (.lst (ps.map V.ref))) l' ps qs:=⟨cO,R.r.same (cZ h)⟩
section
variable {prog:Program} {w:World} {A:Around} {R:Result->Shared->Prop}
end
def SS (B:Heap) (e:Addr) (h:Heap) (vs:Array Value):Option Value->Prop
 | none=>vs[1]? = some Value.none
 | some f=>∃ T oT ts,vs[1]? = some (.ref T)/\B.get? T=none/\T≠e/\h.get? T=some oT/\oT.data = .fields ts/\ts[3]? = some f
structure SQ (B:Heap) (e:Addr) (cls:Value) (r9:Option Addr) (fl:Option Value) (h:Heap):Prop where
 nZ:B.StaysIn h
 new:B.get? e=none
 ex:∃ oe vs,h.get? e=some oe/\oe.cls=cls/\oe.dict=r9/\oe.data = .fields vs/\1<vs.size/\SS B e h vs fl
section
variable {M:Model} {A:Around} {E:Value->Shared->Prop} {s:Shared} {B:Heap} {env:Env} {outer:List Env} {L e:Addr} {cls:Value} {r9:Option Addr}
end
abbrev S5:List Value:=[.type "ValueError", .type "Exception", .type "BaseException", .type "object"]
structure XC (K:ai) (C:Addr):Prop where
 hd:jw K C=true
 ga:cJ K (.ref C) "__getattribute__" = some (some (.builtin "BaseException.__getattribute__"))
 gn:cJ K (.ref C) "__getattr__" = some none
 sa:cJ K (.ref C) "__setattr__" = some (some (.builtin "object.__setattr__"))
 cl:cJ K (.ref C) "__class__" = some (some (.builtin "object.__class__"))
 kg:PySem.W.specialIn K (.builtin "object.__class__") "__get__" = some (some (.builtin "getset_descriptor.__get__"))
 kt:PySem.W.takesIn K (.builtin "object.__class__")=some true
 be:Bj K C (.type "BaseException")=some true
 ob:Bj K C (.type "object")=some true
 ex:∃ nm q N bs bm Ku sn sub ab S9 dd k0 k1 k2 k3 k5,K.lookup C=some (excClassObj nm q C N bs bm Ku sn sub ab S9 dd k0 k1 k2 k3 k5 "ValueError.__new__")/\PySem.W.tailIn K S5 bm=true
section
variable {prog:Program} {w:World} {A:Around} {E:Value->Shared->Prop} {s:Shared} {K:ai} {x C:Addr} {ox:Obj} {od:Option Obj}
end
def SR (e C:Addr) (r9:Option Addr) (fr:Bool) (h:Heap):Prop:=∃ oe vs,h.get? e=some oe/\oe.cls = .ref C/\oe.dict=r9/\oe.data = .fields vs/\1<vs.size/\(fr=true->vs[1]? = some Value.none)
def ww (e C:Addr) (r9:Option Addr) (fr:Bool):HO:=.ext (SR e C r9 fr)
section
variable {P:Program} {w:World} {H:Hp} {h:Heap}
end
structure SG (P:Program) (w:World) (B:Heap) (l:List Env) (e C:Addr) (r9:Option Addr) (H:Hp) (h:Heap):Prop where
 at_:∃ fl,(fl=none\/fl=some Value.none)/\SQ B e (.ref C) r9 fl h
 ff:h.FunFrames B l
 eW:lK P w H h
 he:H e=some (ww e C r9 false)
 Zz:∀ a o,H a=some o->a≠e->∃ ob,B.get? a=some ob
def jK (P:Program) (w:World):pT:=fun outer H s E e s'=>∃ B ea C r9 H',e = .ref ea/\s'.os=s.os/\AllBare s'.gens/\SG P w B outer ea C r9 H' s'.heap/\Un (wB outer) [] H H' s.heap s'.heap /\
 (∀ b o,s.heap.get? b=some o->H b=none->b ∉ wB outer->B.get? b=some o)/\E (.ref ea) r9 H'
section
variable {X:Cx} {ao:List (Addr×Obj)} {σ:St} {H H':Hp} {s:Shared} {h':Heap}
end
abbrev XH:=Value->Option Addr->St->Hp->Prop
def EG (CX:pT) (X:Cx) (Ek:XH):Prop:=∀ (ao:List (Addr×Obj)) (σ:St) (H:Hp) (s:Shared) (e:Value) (s':Shared),Inv X ao σ H s->CX X.stack H s (fun v d H'=>Ek v d σ H') e s'->X.xe e s'
abbrev SE:XH:=fun _ _ _ _=>False
theorem aU {P:Program} {w:World} {X:Cx}:EG (jK P w) X SE:=fun _ _ _ _ _ _ _ ⟨_,_,_,_,_,_,_,_,_,_,_,h⟩=>h.elim
section
variable {X:Cx} {ao:List (Addr×Obj)} {σ:St} {H H':Hp} {s s':Shared} {B h':Heap} {e C:Addr} {r9:Option Addr} {fl:Option Value}
end
section
variable {P:Program} {w:World} {K:ai} {mg:Str->Option Value} {base:Heap} {N:List Str} {dS:Str} {sc:Scope} {f:Addr} {cd:Value} {A:Around} {outer:List Env} {s₀:Shared} {H₀:Hp} {E:XK}
end
section
variable {P:Program} {w:World} {X:Cx} {ao yw:List (Addr×Obj)} {Hk:XH} {σ:St} {H:Hp} {s:Shared}
end
section
variable {X:Cx} {ao:List (Addr×Obj)} {σ:St} {H:Hp} {s:Shared} {e:Addr}
end
def uZ (sp:Sp) (Ek:XH) (t:TA):TE:=fun σ H Q=>t σ H fun vs H1=>sp vs H1 Q (fun v d H'=>Ek v d σ H')
section
variable {X:Cx} {CX:pT} {k:Nat} {x:Str} {ps:List Str} {sp:Sp} {Ek:XH} {p pos:Pos} {e:Expr} {es:List Expr} {t:TA}
theorem dM (D:jT X.prog X.w X.K X.mg X.base CX k x ps sp) (hr:iy k X.A) (hg:Gl X x) (hx:EG CX X Ek) (ha:PA X (e :: es) t)
    (CW:(x == ("__debug__" : Str))=false:=by decide) (he:starEach (e :: es) X.env=(false,eval e X.env) :: starEach es X.env:=by rfl) (pY:(backTo pos (starEach es X.env)).any (·.1)=false:=by rfl) :
    PE X (.Call (.Name x p) (e :: es) [] pos) (uZ sp Ek t):=by
  obtain ⟨f,fd,F,hb,hk,hm⟩:=D.ex
  intro ao s σ H Q I h
  refine wpAny_Call_Name_kw (Q0 I hg hm ?_ CW)
  refine wg (h₀:=X.base) I.ok.mod.Iu hk (fM (ha pos ao s σ H _ I h) fun us s1 ⟨vs,H1,I1,r,q⟩=>⟨I1.vz,?_⟩) he pY
  have hl:(us++[]).length=ps.length:=by rw [bx,<- r.length]; exact F.len _ _ _ _ q
  have Ie:=hb s1 us I1.vz hl
  rw [bx] at Ie
  refine wpAny_call (codeAny_mono (F.run X.A X.stack s1 H1 ⟨us,[]⟩ us vs Q _ hr I1.CQ Ie r q) fun r s' hq=>?_)
  cases r with
  | error e=>exact hx ao σ H1 s1 e s' I1 hq
  | ok fl =>
    cases fl with
    | ret u=>exact I1.after hq
    | next=>exact bV hq
    | brk=>exact bV hq
    | cont=>exact bV hq
end
theorem jW.okN {P:Program} {w:World} {K:ai} {mg:Str->Option Value} {base:Heap} {CX:pT} {x:Str} {st:Stmt} {N ps:List Str} {k:Nat} {sp:Sp} (F:jW K mg x st ps) (S:bP N ps (gM st)) (len:∀ vs H Q E,sp vs H Q E->vs.length=ps.length)
    (mz:∀ (f:Addr) (e6:Value) (A:Around) (outer:List Env) (s:Shared) (H:Hp) (vs:List V) (Q:VK) (E:XK),iy k (A.deeper (envOfC x (gM st) s.heap.objs.size f e6))->sp vs H Q E ->
      ∃ t,r6 (qV CX P w K mg base N x (gM st) f e6 A outer s H E).zZ (t6 st) t/\t { nx:=fun _ H'=>Q .iJ H',rt:=Q } (start N vs) H):jT P w K mg base CX (k+1) x ps sp:=by
  obtain ⟨f,fd,F,b,m⟩:=F.ex
  obtain ⟨oc,od,kV,mj,pm,an,e6,ct,sj,rfl,lk,tw⟩:=F.ex
  exact ⟨f,_,vp lk tw S len fun A outer s H vs Q E hr qA=>by
    obtain ⟨t,h,q⟩:=mz f e6 A outer s H vs Q E hr qA
    exact ⟨t,h.zZ,q⟩,b,F.kp,m⟩
def G9 (C:Addr) (t:TA):TE:=fun σ H Q=>t σ H fun vs H1=>vs.length<=1000/\∀ e,H1 e=none->Q (.ref e) (aQ H1 e (ww e C none true))
def yU (K:ai) (Ek:XH) (te:TE):TS:=fun _ σ H=>te σ H fun v H1=>∃ e C r9,v = .ref e/\H1 e=some (ww e C r9 true)/\XC K C/\Ek (.ref e) r9 σ (aQ H1 e (ww e C r9 false))
section
variable {X:Cx} {C:Addr} {x:Str} {p pos:Pos} {e:Expr} {es:List Expr} {t:TA}
end
section
variable {prog:Program} {w:World} {A:Around} {E:Value->Shared->Prop} {s:Shared} {K:ai} {e C C':Addr}
end
def Aw (K:ai) (C':Addr) (th:Addr->TS) (D:Ends):XH:=fun v d σ H=>∃ e C,v = .ref e/\H e=some (ww e C d false)/\PySem.W.subIn K (.ref C) (.ref C')=some true/\th e D σ H
def G8 (K:ai) (C':Addr) (tb:XH->TS) (th:TS):TS:=fun D σ H=>tb (Aw K C' (fun _=>th) D) D σ H
def yW (K:ai) (C':Addr) (i:Nat) (tb:XH->TS) (th:TS):TS:=fun D σ H =>
 tb (Aw K C' (fun e D σ H=>th { nx:=fun σ H=>D.nx (σ.set i none) H,rt:=D.rt,bk:=fun σ H=>D.bk (σ.set i none) H,ct:=fun σ H=>D.ct (σ.set i none) H } (σ.set i (some (.ref e))) H) D) D σ H
section
variable {P:Program} {w:World} {X:Cx} {C':Addr} {x:Str} {np KS pos:Pos} {body G0:List Stmt} {b0:Stmt} {tb:XH->TS} {th:TS}
end
section
variable {X:Cx}
end
section
variable {K:ai} {C C':Addr}
end
abbrev jg {α:Type} (o9:α->List V) (H:Hp):List Addr->List α->Prop:=Paired fun p q=>H p=some (.tup (o9 q))
section
variable {α:Type} {o9:α->List V} {H H':Hp} {ps:List Addr} {qs:List α}
theorem pQ (h:jg o9 H ps qs):ps.length=qs.length:=Paired.length h
theorem Cc (h:jg o9 H ps qs) (e:bT H H'):jg o9 H' ps qs:=Paired.gB h fun _ _ q=>e _ _ q
theorem qf (h:jg o9 H ps qs) (e:∀ p xs,H p=some (.tup xs)->H' p=some (.tup xs)):jg o9 H' ps qs:=Paired.gB h fun _ _ q=>e _ _ q
theorem tY {t:Addr} {q:α} (ht:H t=some (.tup (o9 q))):∀ {ps:List Addr} {qs:List α},jg o9 H ps qs->jg o9 H (ps++[t]) (qs++[q])
 | _,_,Paired.nil=>.cons ht .nil
 | _,_,Paired.cons a b=>.cons a (tY ht b)
theorem Qd {OI:List Addr} {OO:List α} (h':jg o9 H OI OO):∀ {ps:List Addr} {qs:List α},jg o9 H ps qs->jg o9 H (ps++OI) (qs++OO)
 | _,_,Paired.nil=>h'
 | _,_,Paired.cons a b=>.cons a (Qd h' b)
theorem wX:∀ {ps:List Addr} {qs:List α} {i:Nat} {p:Addr},jg o9 H ps qs->ps[i]? = some p->∃ q,qs[i]? = some q/\H p=some (.tup (o9 q))
 | _,_,_,_,Paired.nil,e=>by simp at e
 | _,_,0,_,Paired.cons a _,e=>by simp at e; subst e; exact ⟨_,rfl,a⟩
 | _,_,i+1,_,Paired.cons _ b,e=>by
  obtain ⟨q,h1,h2⟩:=wX (i:=i) b (by simpa using e)
  exact ⟨q,by simpa using h1,h2⟩
structure iM (o9:α->List V) (H:Hp) (l:Addr) (ps:List Addr) (qs:List α):Prop where
 hl:H l=some (.lst (ps.map V.ref))
 r:jg o9 H ps qs
theorem iM.same {l:Addr} (R:iM o9 H l ps qs) (e:bT H H'):iM o9 H' l ps qs:=⟨e _ _ R.hl,Cc R.r e⟩
end
abbrev F2:=Int×Int
def f2 (q:F2):List V:=[.int q.1,.int q.2]
end L2
namespace Sw
open L2
def yr (q:F2):F2:=(rN q.1 q.2,rD q.1 q.2)
theorem Dj {q:F2} (h:q.2≠0):Fr (yr q).1 (yr q).2:=YK h
theorem wJ {q:F2} (h:q.2≠0):(yr q).1*q.2=(yr q).2*q.1:=Wt h
end Sw
namespace L2
open PySem PySem.Spec PyProof.Rows
theorem Ck {H:Hp} {l:Addr} {xs:List V} {y:V} {Q:VK} (h:H l=some (.lst xs)) (hz:xs.length<1000) (q:Q .iJ (aQ H l (.lst (xs++[y])))):Rb (.ref l) [y] H Q:=⟨l,xs,y,rfl,rfl,h,cX hz,q⟩
theorem Ba {K:ai} {H:Hp} {l:Addr} {xs:List V} (h:H l=some (.lst xs)):IM K "list" (.ref l) H:=.inl ⟨rfl,_,.of h⟩
def yM (sp:Sp) (t:TA):TE:=fun σ H Q=>t σ H fun vs H1=>sp vs H1 Q E0
section
variable {P:Program} {w:World} {X:Cx} {k:Nat} {x:Str} {ps:List Str} {sp:Sp} {p pos:Pos} {e:Expr} {es:List Expr} {t:TA}
end
section
variable {X:Cx} {o value:Expr} {f:Str} {pos lP:Pos} {ta tv:TE}
end
def B7 (C:Addr) (sp:Sp) (t:TA):TE:=fun σ H Q=>t σ H fun vs H1=>vs.length<=1000/\∀ e,H1 e=none->sp (.ref e :: vs) (aQ H1 e (ww e C none true)) (fun v H2=>v = .iJ/\Q (.ref e) H2) E0
section
variable {X:Cx}
end
end L2
namespace Sw
open L2
def Cr (i:Nat) (b:Int) (q:Q4):Prop:=i<60/\0<=q.1/\q.1<=1000000000000/\0<=q.2.1/\q.2.1<=11/\1<=q.2.2.1/\q.2.2.1<=1000000/\1<=q.2.2.2/\q.2.2.2<=1000000/\b<=q.1
instance (i:Nat) (b:Int) (q:Q4):Decidable (Cr i b q):=by unfold Cr; infer_instance
end Sw
namespace L2
open PySem PySem.Spec PyProof.Rows
def j6 (K:ai) (fd:FuncData) (ps:List Str) (j4:List V):Prop:=∃ ds,dw j4 ds/\Binds K fd ps ds
theorem j6.nil {K:ai} {fd:FuncData} {ps:List Str} (h:Binds K fd ps []):j6 K fd ps []:=⟨[],.nil,h⟩
structure Ct (K:ai) (x dS:Str) (st:Stmt) (f:Addr) (fd:FuncData):Prop where
 ex:∃ (oc:Value) (od:Option Addr) (dV kV mj pm:Value) (an:Option Addr) (e6 ct:Value) (sj:Array (Option Value)),
  fd=c9 x dS (wY st) (t6 st) (gM st) dV kV mj pm an e6 ct/\K.lookup f=some ⟨oc,od,.func fd,sj⟩/\eU K e6 dS=true
theorem Re {K:ai} {x dS:Str} {st:Stmt} {f:Addr} {oc:Value} {od an:Option Addr} {sj:Array (Option Value)} {dV kV mj pm e6 ct:Value} (l:K.lookup f=some ⟨oc,od,.func (c9 x dS (wY st) (t6 st) (gM st) dV kV mj pm an e6 ct),sj⟩)
    (c:eU K e6 dS=true):Ct K x dS st f (c9 x dS (wY st) (t6 st) (gM st) dV kV mj pm an e6 ct):=⟨⟨oc,od,dV,kV,mj,pm,an,e6,ct,sj,rfl,l,c⟩⟩
structure vh (P:Program) (w:World) (K:ai) (mg:Str->Option Value) (base:Heap) (CX:pT) (k:Nat) (C:Addr) (m:Str) (ps:List Str) (sY:List (List V)) (sp:Sp):Prop where
 ex:∃ (f:Addr) (fd:FuncData),nN P w K mg base CX k f fd ps sp/\CB K C m f/\∀ j4∈sY,j6 K fd ps j4
structure JK (P:Program) (w:World) (K:ai) (mg:Str->Option Value) (base:Heap) (CX:pT) (k:Nat) (C:Addr) (ps:List Str) (sY:List (List V)) (sp:Sp):Prop where
 ex:∃ (f:Addr) (fd:FuncData),nN P w K mg base CX k f fd ps sp/\Mk K C f/\∀ j4∈sY,j6 K fd ps j4
structure xM (K:ai) (C:Addr) (m dS:Str) (st:Stmt) (ps:List Str) (sY:List (List V)):Prop where
 ex:∃ (f:Addr) (fd:FuncData),Ct K m dS st f fd/\CB K C m f/\∀ j4∈sY,j6 K fd ps j4
structure Am (K:ai) (C:Addr) (dS:Str) (st:Stmt) (ps:List Str) (sY:List (List V)):Prop where
 ex:∃ (f:Addr) (fd:FuncData),Ct K "__init__" dS st f fd/\Mk K C f/\∀ j4∈sY,j6 K fd ps j4
section
variable {P:Program} {w:World} {K:ai} {mg:Str->Option Value} {base:Heap} {CX:pT} {C:Addr} {m dS:Str} {st:Stmt} {N ps:List Str} {sY:List (List V)} {k:Nat} {sp:Sp}
theorem xM.okN (F:xM K C m dS st ps sY) (S:bP N ps (gM st)) (len:∀ vs H Q E,sp vs H Q E->vs.length=ps.length)
    (mz:∀ (f:Addr) (e6:Value) (A:Around) (outer:List Env) (s:Shared) (H:Hp) (vs:List V) (Q:VK) (E:XK),iy k (A.deeper (envOfC dS (gM st) s.heap.objs.size f e6))->sp vs H Q E ->
      ∃ t,r6 (qV CX P w K mg base N dS (gM st) f e6 A outer s H E).zZ (t6 st) t/\t { nx:=fun _ H'=>Q .iJ H',rt:=Q } (start N vs) H):vh P w K mg base CX (k+1) C m ps sY sp:=by
  obtain ⟨f,fd,F,me,b⟩:=F.ex
  obtain ⟨oc,od,dV,kV,mj,pm,an,e6,ct,sj,rfl,lk,tw⟩:=F.ex
  exact ⟨f,_,vp lk tw S len fun A outer s H vs Q E hr qA=>by
    obtain ⟨t,h,q⟩:=mz f e6 A outer s H vs Q E hr qA
    exact ⟨t,h.zZ,q⟩,me,b⟩
theorem Am.okN (F:Am K C dS st ps sY) (S:bP N ps (gM st)) (len:∀ vs H Q E,sp vs H Q E->vs.length=ps.length)
    (mz:∀ (f:Addr) (e6:Value) (A:Around) (outer:List Env) (s:Shared) (H:Hp) (vs:List V) (Q:VK) (E:XK),iy k (A.deeper (envOfC dS (gM st) s.heap.objs.size f e6))->sp vs H Q E ->
      ∃ t,r6 (qV CX P w K mg base N dS (gM st) f e6 A outer s H E).zZ (t6 st) t/\t { nx:=fun _ H'=>Q .iJ H',rt:=Q } (start N vs) H):JK P w K mg base CX (k+1) C ps sY sp:=by
  obtain ⟨f,fd,F,me,b⟩:=F.ex
  obtain ⟨oc,od,dV,kV,mj,pm,an,e6,ct,sj,rfl,lk,tw⟩:=F.ex
  exact ⟨f,_,vp lk tw S len fun A outer s H vs Q E hr qA=>by
    obtain ⟨t,h,q⟩:=mz f e6 A outer s H vs Q E hr qA
    exact ⟨t,h.zZ,q⟩,me,b⟩
end
def MT (C:Addr) (m:Str) (sp:Sp) (j4:List V) (Ek:XH) (ta:TE) (t:TA):TE:=fun σ H Q=>ta σ H fun x H1=>∃ a dx fs,x = .ref a/\H1 a=some (.ins C dx fs)/\fs.lookup m=none /\
 t σ H1 fun vs H2=>sp (x :: (vs++j4)) H2 Q (fun v d H'=>Ek v d σ H')
def u7 (C:Addr) (sp:Sp) (j4:List V) (Ek:XH) (t:TA):TE:=fun σ H Q=>t σ H fun vs H1=>∀ x dx,H1 x=none->H1 dx=none->dx≠x ->
 sp (.ref x :: (vs++j4)) (aQ (aQ H1 dx (.own x)) x (.ins C dx [])) (fun v H2=>v = .iJ/\Q (.ref x) H2) (fun v d H'=>Ek v d σ H')
section
variable {X:Cx} {CX:pT} {k:Nat} {f C:Addr} {fd:FuncData} {ps:List Str} {sp:Sp} {j4:List V} {sY:List (List V)} {Ek:XH} {x m:Str} {p pos ku:Pos} {e o:Expr} {es:List Expr} {ta:TE} {t:TA}
theorem XN {ao:List (Addr×Obj)} {σ:St} {H:Hp} {s:Shared} {Q:VK} {us:List Value} {vs:List V} (F:nN X.prog X.w X.K X.mg X.base CX k f fd ps sp) (hr:iy k X.A) (hb:j6 X.K fd ps j4) (hx:EG CX X Ek)
    (I:Inv X ao σ H s) (r:dw vs us) (h:sp (vs++j4) H Q (fun v d H'=>Ek v d σ H')):wpAny (model X.prog X.w) X.A (call (.ref f) us) (EP X ao σ Q) X.xe s:=by
  obtain ⟨ds,hd,hb⟩:=hb
  have r2:dw (vs++j4) (us++ds):=r.append hd
  have hl:(us++ds).length=ps.length:=by rw [<- r2.length]; exact F.len _ _ _ _ h
  refine wpAny_call (codeAny_mono (F.run X.A X.stack s H ⟨us,[]⟩ (us++ds) (vs++j4) Q _ hr I.CQ (hb s us I.vz hl) r2 h) fun r s' hq=>?_)
  cases r with
  | error e=>exact hx ao σ H s e s' I hq
  | ok fl =>
    cases fl with
    | ret u=>exact I.after hq
    | next=>exact bV hq
    | brk=>exact bV hq
    | cont=>exact bV hq
theorem QC {pl:Sem Bool} (D:vh X.prog X.w X.K X.mg X.base CX k C m ps sY sp) (BD:j4∈sY) (c:vU X.K C) (hr:iy k X.A) (hx:EG CX X Ek) (he:PE X o ta) (ha:PA X (e :: es) t)
    (Ge:starEach (e :: es) X.env=(false,eval e X.env) :: starEach es X.env:=by rfl) (pY:(backTo pos (starEach es X.env)).any (·.1)=false:=by rfl)
    (ht:eval (.Call (.Attribute o m ku) (e :: es) [] pos) X.env=(do
      let ov <- eval o X.env
      standAt ku.atName
      let (f,first) <- holding [ov] (getMethod ov m pl)
      callWith pos f first (backTo pos (starEach (e :: es) X.env)) (backToKw pos (keywordEach [] X.env))):=by rfl) :
    PE X (.Call (.Attribute o m ku) (e :: es) [] pos) (MT C m sp j4 Ek ta t):=by
  obtain ⟨f,fd,F,hm,hb⟩:=D.ex
  intro ao s σ H Q I h
  refine PySem.W.methodCall_KW (pl:=pl) (fM (he ao s σ H _ I h) fun u s1 ⟨x,H1,I1,rx,a,dx,fs,ex,ea,l,q⟩=>?_) ht
  subst ex
  obtain rfl:u=Value.ref a:=rx
  refine V2 I1 ea c hm l ?_
  refine wg (first:=[.ref a]) (h₀:=X.base) I.ok.mod.Iu hm.kp (fM (ha pos ao s1 σ H1 _ I1 q) fun us s2 ⟨vs,H2,I2,r,q2⟩=>⟨I2.vz,?_⟩) Ge pY
  exact XN (us:=.ref a :: us) (vs:=.ref a :: vs) F hr (hb _ BD) hx I2 (.cons rfl r) q2
theorem Wx {ao:List (Addr×Obj)} {σ:St} {H:Hp} {s:Shared} {Q:VK} {us:List Value} {vs:List V} (M:Mk X.K C f) (F:nN X.prog X.w X.K X.mg X.base CX k f fd ps sp) (hr:iy (k+1) X.A) (hb:j6 X.K fd ps j4)
    (hx:EG CX X Ek) (I:Inv X ao σ H s) (r:dw vs us)
    (h:∀ x dx,H x=none->H dx=none->dx≠x->sp (.ref x :: (vs++j4)) (aQ (aQ H dx (.own x)) x (.ins C dx [])) (fun v H2=>v = .iJ/\Q (.ref x) H2) (fun v d H'=>Ek v d σ H')) :
    wpAny (model X.prog X.w) X.A (call (.ref C) us) (EP X ao σ Q) X.xe s:=by
  obtain ⟨ds,hd,hb⟩:=hb
  have hq:=h (s.heap.objs.size+1) s.heap.objs.size (I.eW.fresh (eV _)) (I.eW.fresh (av _)) (bL (CC _))
  have I2:=Inv.made (C:=C) I
  have r2:dw (V.ref (s.heap.objs.size+1) :: (vs++j4)) (Value.ref (s.heap.objs.size+1) :: (us++ds)):=.cons rfl (r.append hd)
  have hl:(Value.ref (s.heap.objs.size+1) :: us++ds).length=ps.length:=by
    have e:=r2.length
    rw [F.len _ _ _ _ hq] at e
    exact e.symm
  refine wpAny_call (WR (f:=f) I.vz M.makes M.init (beq_iff_eq.mp M.fn) (codeAny_mono (F.run _ X.stack _ _ ⟨Value.ref (s.heap.objs.size+1) :: us,[]⟩ (Value.ref (s.heap.objs.size+1) :: (us++ds)) _ _ _ (hr.make C us [])
    (I2.CQ.make C us []) (hb _ (Value.ref (s.heap.objs.size+1) :: us) I2.vz hl) r2 hq) fun r s' Gb=>?_))
  cases r with
  | error e=>exact hx ao σ _ _ e s' I2 Gb
  | ok fl =>
    cases fl with
    | ret u =>
      obtain ⟨v,H',I3,rv,ev,q3⟩:=I2.after Gb
      subst ev
      exact ⟨rv,⟨V.ref (s.heap.objs.size+1),H',I3,rfl,q3⟩⟩
    | next=>exact bV Gb
    | brk=>exact bV Gb
    | cont=>exact bV Gb
theorem Wy (D:JK X.prog X.w X.K X.mg X.base CX k C ps sY sp) (BD:j4∈sY) (hr:iy (k+1) X.A) (hx:EG CX X Ek) (hg:Gl X x) (hm:X.mg x=some (.ref C))
    (CW:(x == ("__debug__" : Str))=false:=by decide):PE X (.Call (.Name x p) [] [] pos) (u7 C sp j4 Ek yR):=by
  obtain ⟨f,fd,F,M,hb⟩:=D.ex
  intro ao s σ H Q I h
  refine wpAny_Call_Name_kw (Q0 I hg hm ?_ CW)
  exact PySem.W.callWith_K0 I.vz M.kp (Wx (us:=[]) M F hr (hb _ BD) hx I .nil h)
end
section
variable {X:Cx}
end
def JI (lo c:Int) (n:Nat):It:=⟨fun i _=>i<n,fun i H x H'=>H'=H/\x = .int (lo+i*c),fun i _=>n<=i⟩
structure E8 (i j c:Int) (n:Nat):Prop where
 nz:c≠0
 np:Builtin.divisionGoesByPylong (j-i) c=false
 sm:Builtin.Range.small i j c=true
 eq:(n:Int)=Builtin.Range.rangeSize i j c
def BG (ta:TA):TI:=fun σ H R=>ta σ H fun vs H1=>∃ i j c n,vs = [.int i,.int j,.int c]/\E8 i j c n/\R (JI i c n) H1
section
variable {X:Cx} {tg:Expr}
end
theorem ur {wi:TI} {g:TG} {tb:TS} {D:Ends} {σ:St} {H:Hp} (h:∀ Z:It->Hp->Prop,(∀ J H1,(∃ W:Nat->Nat->St->Hp->Prop,(∃ m,W 0 m σ H1)/\∀ i m σ H,W i m σ H ->
 (J.stop i H/\D.nx σ H)\/(J.go i H/\∃ N:St->Hp->Prop,(∀ σ' H',N σ' H'->∃ m',m' < m/\W (i+1) m' σ' H')/\∀ x H',J.A5 i H x H'->g x σ H' fun σ2 H2=>tb { D with nx:=N,ct:=N,bk:=D.nx } σ2 H2))->Z J H1)->wi σ H Z):G6 wi g tb D σ H:=h _ fun _ _ x=>x
theorem mK {K:ai} {H:Hp} {t:Addr} {i:Int} {Q:VK} (xs:List Int) (h0:0<=i) (h1:i<xs.length) (k:∀ z:Int,z∈xs->Q (.int z) (aQ H t (.lst (xs.map V.int)))):yz K (.ref t) (.int i) (aQ H t (.lst (xs.map V.int))) Q:=by
 have:=Aa (xs:=xs.map V.int) (j:=i.toNat) (v:=V.int (xs[i.toNat]'(by omega))) (by simp)
 rw [mY h0] at this
 exact qP (.of cO) this (k _ (Bf _))
section
variable {X:Cx}
end
end L2
namespace Sw
theorem cI {d:Int} (h:d≠0):(d:Rat)≠0:=by
 intro z
 exact h (qS.mp (by rw [z]; rfl))
theorem bJ {d:Int} (h:0<d):(0:Rat)<(d:Rat):=by
 have:((0:Int):Rat)<(d:Rat):=dX.mpr h
 exact this
theorem yy (q:Rat):(q.num:Rat) / ((q.den:Int):Rat)=q:=by
 rw [<- Rat.divInt_eq_div]; exact Rat.num_divInt_den q
theorem iY (q:Rat):0<(q.den:Int):=by
 have:=q.den_nz
 omega
theorem c6 (q:Rat):(q.den:Int)≠0:=by
 have:=q.den_nz
 omega
theorem iS (q:Rat):(q.num:Rat)=q*((q.den:Int):Rat):=by
 have h:=yy q
 have d:=cI (c6 q)
 grind
theorem yx (q:Rat):dv q.num q.den = 1:=by
 unfold dv
 have:=q.reduced
 unfold xH at this
 show ((Nat.gcd q.num.natAbs (q.den:Int).natAbs:Nat):Int) = 1
 rw [nR,this]
 rfl
theorem LJ (q:Rat):Fr q.num q.den:=⟨iY q,yx q⟩
theorem Kl {n d:Int} (f:Fr n d):((n:Rat) / (d:Rat)).num=n/\((((n:Rat) / (d:Rat)).den:Nat):Int)=d:=by
 have hd:d≠0:=by have:=f.pos; omega
 refine Fr.uniq (LJ _) f ?_
 have h:=iS ((n:Rat) / (d:Rat))
 generalize hq:(n:Rat) / (d:Rat)=q at h ⊢
 have e:(n:Rat)=q*d:=by have:=cI hd; grind
 have:((q.num*d:Int):Rat)=((n*(q.den:Int):Int):Rat):=by
  rw [aJ,aJ]
  grind
 exact qS.mp this
theorem XO {q:Rat} {n d:Int} (hd:d≠0) (h:q=(n:Rat) / (d:Rat)):q.num*d=(q.den:Int)*n:=by
 have h1:=cI hd
 have:((q.num*d:Int):Rat)=(((q.den:Int)*n:Int):Rat):=by
  rw [aJ,aJ,iS]
  grind
 exact qS.mp this
theorem LK {a b:Rat}:a.num*(b.den:Int)<b.num*(a.den:Int)↔a<b:=(Rat.lt_iff a b).symm
structure cL (z:Nat) (q:Rat):Prop where
 n:Sz z q.num
 d:Sz z (q.den:Int)
theorem cL.mono {m n:Nat} {q:Rat} (h:cL m q) (k:m<=n):cL n q:=⟨h.n.mono k,h.d.mono k⟩
theorem WY {n d x:Int} (h:dv n d = 1) (q:n ∣ d*x):n ∣ x:=Jj (by rw [XG]; exact h) q
theorem cL.of {z:Nat} {q:Rat} {n d:Int} (hd:d≠0) (h:q=(n:Rat) / (d:Rat)) (s1:Sz z n) (s2:Sz z d):cL z q:=by
 have c:=XO hd h
 refine ⟨?_,?_⟩
 ·by_cases hn:n = 0
  ·subst hn
   rw [Int.mul_zero] at c
   have:q.num = 0:=by
    rcases Int.mul_eq_zero.mp c with z | z
    ·exact z
    ·exact absurd z hd
   rw [this]; exact Sz.zero z
  ·exact s1.dvd (WY (yx q) ⟨d,c.symm⟩) hn
 ·exact s2.dvd (Jj (yx q) ⟨n,c⟩) hd
theorem cL.int {z:Nat} {n:Int} (h:Sz (z+1) n):cL (z+1) (n:Rat):=⟨by rw [Ef]; exact h,by rw [Ec]; exact Sz.one z⟩
theorem Fd (a b:Rat):((a.num*(b.den:Int)+b.num*(a.den:Int):Int):Rat) / (((a.den:Int)*(b.den:Int):Int):Rat)=a+b:=by
 rw [dh,aJ,aJ,aJ,iS a,iS b]
 have h1:=cI (c6 a)
 have h2:=cI (c6 b)
 grind
theorem BZ (a b:Rat):((a.num*(b.den:Int)-b.num*(a.den:Int):Int):Rat) / (((a.den:Int)*(b.den:Int):Int):Rat)=a-b:=by
 rw [jd,aJ,aJ,aJ,iS a,iS b]
 have h1:=cI (c6 a)
 have h2:=cI (c6 b)
 grind
theorem BN (a b:Rat):((a.num*b.num:Int):Rat) / (((a.den:Int)*(b.den:Int):Int):Rat)=a*b:=by
 rw [aJ,aJ,iS a,iS b]
 have h1:=cI (c6 a)
 have h2:=cI (c6 b)
 grind
theorem Bs (a b:Rat) (hb:b.num≠0):((a.num*(b.den:Int):Int):Rat) / (((a.den:Int)*b.num:Int):Rat)=a / b:=by
 rw [aJ,aJ,iS a,iS b]
 have h1:=cI (c6 a)
 have h2:=cI (c6 b)
 have h3:=cI hb
 rw [iS b] at h3
 grind
theorem cL.sub {m n:Nat} {a b:Rat} (h:cL m a) (k:cL n b):cL (m+n+1) (a-b):=by
 refine .of (b5 (c6 a) (c6 b)) (BZ a b).symm ?_ ((h.d.mul k.d).mono (by omega))
 exact (h.n.mul k.d).sub ((k.n.mul h.d).mono (by omega))
theorem cL.mul {m n:Nat} {a b:Rat} (h:cL m a) (k:cL n b):cL (m+n) (a*b) :=
 .of (b5 (c6 a) (c6 b)) (BN a b).symm (h.n.mul k.n) (h.d.mul k.d)
theorem cL.div {m n:Nat} {a b:Rat} (hb:b.num≠0) (h:cL m a) (k:cL n b):cL (m+n) (a / b) :=
 .of (b5 (c6 a) hb) (Bs a b hb).symm (h.n.mul k.d) (h.d.mul k.n)
theorem kI {q:Rat} (h:q≠0):q.num≠0:=by
 intro z
 have:=iS q
 rw [z] at this
 have d:=cI (c6 q)
 apply h
 have:(0:Rat)=q*((q.den:Int):Rat):=this
 grind
end Sw
namespace L2
def fq (q:Rat):List V:=[.int q.num,.int (q.den:Int)]
theorem R4 {t b:Int} (hb:b≠0):f2 (Sw.yr (t,b))=fq ((t:Rat) / (b:Rat)):=by
 have f:=Sw.Dj (q:=(t,b)) hb
 have c:=Sw.wJ (q:=(t,b)) hb
 have e:((Sw.yr (t,b)).1:Rat) / ((Sw.yr (t,b)).2:Rat)=(t:Rat) / (b:Rat):=by
  have h1:=Sw.cI hb
  have h2:(((Sw.yr (t,b)).2:Int):Rat)≠0:=Sw.cI (by have:=f.pos; omega)
  have c':(((Sw.yr (t,b)).1*b:Int):Rat)=(((Sw.yr (t,b)).2*t:Int):Rat):=by rw [c]
  rw [aJ,aJ] at c'
  grind
 have g:=Sw.Kl f
 rw [e] at g
 unfold f2 fq
 rw [g.1,g.2]
theorem YM (n:Int):[V.int n,V.int 1] = fq (n:Rat):=by
 unfold fq
 rw [Ef,Ec]
 rfl
end L2
namespace Sw
theorem cL.min {z:Nat} {a b:Rat} (ha:cL z a) (hb:cL z b):cL z (min a b):=by
 rw [dO]
 split
 ·exact ha
 ·exact hb
end Sw
namespace L2
open PySem PySem.Spec PyProof.Rows
def ER (p:Addr) (H H':Hp):Prop:=∀ b o,b≠p->H b=some o->H' b=some o
theorem Jg:∀ {fs:List (Str×V)} {f:Str} {v w:V},fs.lookup f=some w->(bQ f v fs).length=fs.length
 | [],f,v,w,h=>by cases h
 | (g,x) :: r,f,v,w,h=>by
  unfold bQ
  by_cases e:g=f
  ·rw [if_pos e]; rfl
  ·rw [if_neg e]
   have hb:(f == g)=false:=beq_eq_false_iff_ne.mpr fun z=>e z.symm
   simp only [ig,hb] at h
   show (bQ f v r).length+1=r.length+1
   rw [Jg h]
theorem Cd:∀ {fs:List (Str×V)} {f:Str} {v:V},(bQ f v fs).length<=fs.length+1
 | [],f,v=>av _
 | (g,x) :: r,f,v=>by
  unfold bQ
  by_cases e:g=f
  ·rw [if_pos e]; exact eV _
  ·rw [if_neg e]
   show (bQ f v r).length+1<=r.length+1+1
   have:=Cd (fs:=r) (f:=f) (v:=v)
   omega
def GK (K:ai) (f:Str) (x:V) (H:Hp) (Q:VK):Prop:=∃ a C dx fs v,x = .ref a/\H a=some (.ins C dx fs)/\vU K C/\g7 K C f/\fs.lookup f=some v/\Q v H
theorem vN {K:ai} {ta:TE} {f:Str} {σ:St} {H:Hp} {Q:VK}:G5 K ta f σ H Q=ta σ H fun x H1=>GK K f x H1 Q:=rfl
theorem Cg {K:ai} {f:Str} {a C dx:Addr} {fs:List (Str×V)} {v:V} {H:Hp} {Q:VK} (h:H a=some (.ins C dx fs)) (c:vU K C) (n:g7 K C f) (l:fs.lookup f=some v) (q:Q v H):GK K f (.ref a) H Q:=⟨a,C,dx,fs,v,rfl,h,c,n,l,q⟩
def GO (K:ai) (f:Str) (y x:V) (H:Hp) (Z:Hp->Prop):Prop:=∃ a C dx fs,x = .ref a/\H a=some (.ins C dx fs)/\vU K C/\g7 K C f/\fs.length<1000/\Z (aQ H a (.ins C dx (bQ f y fs)))
theorem vG {K:ai} {ta tv:TE} {f:Str} {D:Ends} {σ:St} {H:Hp}:GS K ta tv f D σ H=tv σ H fun y H1=>ta σ H1 fun x H2=>GO K f y x H2 (D.nx σ):=rfl
theorem DT {K:ai} {f:Str} {y:V} {a C dx:Addr} {fs:List (Str×V)} {H:Hp} {Z:Hp->Prop} (h:H a=some (.ins C dx fs)) (c:vU K C) (n:g7 K C f) (l:fs.length<1000) (q:Z (aQ H a (.ins C dx (bQ f y fs)))):GO K f y (.ref a) H Z:=⟨a,C,dx,fs,rfl,h,c,n,l,q⟩
def yC (C:Addr) (m:Str) (x:V) (H:Hp) (Z:Prop):Prop:=∃ a dx fs,x = .ref a/\H a=some (.ins C dx fs)/\fs.lookup m=none/\Z
theorem qK {C:Addr} {m:Str} {sp:Sp} {j4:List V} {Ek:XH} {ta:TE} {t:TA} {σ:St} {H:Hp} {Q:VK} :
    MT C m sp j4 Ek ta t σ H Q=ta σ H fun x H1=>yC C m x H1 (t σ H1 fun vs H2=>sp (x :: (vs++j4)) H2 Q (fun v d H'=>Ek v d σ H')):=by
  unfold MT yC
  rfl
theorem Rf {C:Addr} {m:Str} {a dx:Addr} {fs:List (Str×V)} {H:Hp} {Z:Prop} (h:H a=some (.ins C dx fs)) (l:fs.lookup m=none) (z:Z):yC C m (.ref a) H Z:=⟨a,dx,fs,rfl,h,l,z⟩
theorem Qe {H:Hp} {x dx C:Addr} (h1:H x=none) (h2:H dx=none):bT H (aQ (aQ H dx (.own x)) x (.ins C dx [])):=fun b o e=>by
 rw [c8 (gX e h1),c8 (gX e h2)]
 exact e
theorem ER.same {x:Addr} {H H1 H':Hp} (b:ER x H1 H') (s:bT H H1) (h:H x=none):bT H H':=fun c o e=>b c o (gX e h) (s c o e)
theorem sy {H:Hp} {p:Addr} {n:Int}:aQ H p (.tup [.int n,.int 1]) p=some (.tup (fq (n:Rat))):=by rw [cO,YM]
theorem YN {t b:Int} (hb:0<b):[V.int (t / Sw.dv t b),V.int (b / Sw.dv t b)] = fq ((t:Rat) / (b:Rat)):=by
 rw [<- R4 (by omega)]
 unfold f2 Sw.yr Sw.rN Sw.rD
 simp only [if_neg (show ¬ b<0 by omega)]
theorem t7 {t:TS} {D:Ends} {σ:St} {H:Hp} (h:∀ R:St->Hp->Prop,(∀ σ H,D.nx σ H->R σ H)->t { D with nx:=R } σ H):t D σ H:=h D.nx fun _ _ x=>x
end L2
namespace Sw
end Sw
namespace L2
open PySem PySem.Spec PyProof.Rows
section
variable {κ:Type} [DecidableEq κ]
def iF (kvs:List (κ×V)) (k:κ):Option V:=(kvs.find? fun kv=>decide (kv.1=k)).map (·.2)
def gv (kvs:List (κ×V)) (k:κ) (v:V):List (κ×V) :=
 if (kvs.any fun kv=>decide (kv.1=k))=true then kvs.map (fun kv=>if kv.1=k then (kv.1,v) else kv) else kvs++[(k,v)]
theorem zv {p:κ×V} {r:List (κ×V)} {k:κ} (e:p.1=k):iF (p :: r) k=some p.2:=by simp [iF,gZ,e]
theorem zy {p:κ×V} {r:List (κ×V)} {k:κ} (e:¬ p.1=k):iF (p :: r) k=iF r k:=by simp [iF,gZ,e]
theorem Jh (k:κ):∀ kvs:List (κ×V),(kvs.any fun kv=>decide (kv.1=k))=(iF kvs k).isSome
 | []=>rfl
 | p :: r=>by
  rw [iU]
  by_cases e:p.1=k
  ·simp only [zv e,decide_eq_true e,Bool.true_or,xn]
  ·rw [zy e,decide_eq_false e,Bool.false_or]; exact Jh k r
theorem QD (k j:κ) (y:V):∀ kvs:List (κ×V),iF (kvs.map fun kv=>if kv.1=k then (kv.1,y) else kv) j=(iF kvs j).map fun x=>if j=k then y else x
 | []=>rfl
 | p :: r=>by
  have ih:=QD k j y r
  rw [bD]
  by_cases h:p.1=k
  ·rw [if_pos h]
   by_cases e:p.1=j
   ·rw [zv (p:=(p.1,y)) e,zv e,kj,if_pos (e.symm.trans h)]
   ·rw [zy (p:=(p.1,y)) e,zy e,ih]
  ·rw [if_neg h]
   by_cases e:p.1=j
   ·rw [zv (p:=p) e,zv e,kj,if_neg (fun z=>h (e.trans z))]
   ·rw [zy (p:=p) e,zy e,ih]
theorem Qf (k j:κ) (y:V):∀ kvs:List (κ×V),iF kvs k=none->iF (kvs++[(k,y)]) j=if j=k then some y else iF kvs j
 | [],_=>by
  by_cases e:k=j
  ·rw [if_pos e.symm]; exact zv (p:=(k,y)) e
  ·rw [if_neg (fun z=>e z.symm)]; exact zy (p:=(k,y)) e
 | p :: r,hn=>by
  rw [pO]
  have hk:¬ p.1=k:=fun z=>by rw [zv z] at hn; cases hn
  rw [zy hk] at hn
  have ih:=Qf k j y r hn
  by_cases e:p.1=j
  ·rw [zv e,zv e,if_neg (fun z=>hk (e.trans z))]
  ·rw [zy e,zy e,ih]
theorem WZ (kvs:List (κ×V)) (k j:κ) (y:V):iF (gv kvs k y) j=if j=k then some y else iF kvs j:=by
 unfold gv
 by_cases a:(kvs.any fun kv=>decide (kv.1=k))=true
 ·rw [if_pos a,QD]
  rw [Jh] at a
  by_cases e:j=k
  ·obtain ⟨x,hx⟩:=gQ.mp a
   rw [if_pos e,e,hx,kj,if_pos rfl]
  ·rw [if_neg e]
   cases iF kvs j with
   | none=>rfl
   | some x=>rw [kj,if_neg e]
 ·rw [if_neg a]
  refine Qf k j y kvs ?_
  rw [Jh] at a
  cases q:iF kvs k with
  | none=>rfl
  | some x=>rw [q] at a; exact (a rfl).elim
theorem Mn (kvs:List (κ×V)) (k:κ) (v:V):(gv kvs k v).length<=kvs.length+1:=by
 unfold gv
 split
 ·rw [ae]; omega
 ·rw [aO,aE,cy]; omega
theorem li.wG {o:Option V} {u:Option Value} (r:li o u):o.isSome=u.isSome:=by
 cases o with
 | none=>cases u with
  | none=>rfl
  | some _=>exact (show False from r).elim
 | some _=>cases u with
  | none=>exact (show False from r).elim
  | some _=>rfl
theorem li.getD {o:Option V} {u:Option Value} {d:V} {d':Value} (r:li o u) (rd:RelV d d'):RelV (o.getD d) (u.getD d'):=by
 cases o with
 | none=>cases u with
  | none=>exact rd
  | some _=>exact (show False from r).elim
 | some _=>cases u with
  | none=>exact (show False from r).elim
  | some _=>exact r
theorem KV.val {kvs:List (κ×V)} {vs:List (κ×Value)} (r:KV kvs vs) (k:κ):li (iF kvs k) (valueAt vs k):=by
 unfold KV at r
 induction r with
 | nil=>exact aN
 | @cons p q ps qs h t ih =>
  obtain ⟨h1,h2⟩:=h
  by_cases e:p.1=k
  ·have e':q.1=k:=h1.symm.trans e
   have b:valueAt (q :: qs) k=some q.2:=by simp [valueAt,gZ,e']
   rw [zv e,b]; exact h2
  ·have e':¬ q.1=k:=fun z=>e (h1.trans z)
   have b:valueAt (q :: qs) k=valueAt qs k:=by simp [valueAt,gZ,e']
   rw [zy e,b]; exact ih
theorem KV.any {kvs:List (κ×V)} {vs:List (κ×Value)} (r:KV kvs vs) (k:κ):(kvs.any fun kv=>decide (kv.1=k))=vs.any fun kv=>decide (kv.1=k):=by
 unfold KV at r
 induction r with
 | nil=>rfl
 | cons h t ih=>rw [iU,iU,ih,h.1]
theorem KV.Dp {kvs:List (κ×V)} {vs:List (κ×Value)} (r:KV kvs vs) (k:κ) {y:V} {u:Value} (ry:RelV y u) :
    KV (kvs.map fun kv=>if kv.1=k then (kv.1,y) else kv) (vs.map fun kv=>if kv.1=k then (kv.1,u) else kv):=by
  unfold KV at r ⊢
  induction r with
  | nil=>exact .nil
  | @cons p q ps qs h t ih =>
    rw [bD,bD]
    refine .cons ?_ ih
    obtain ⟨h1,h2⟩:=h
    by_cases e:p.1=k
    · rw [if_pos e,if_pos (h1.symm.trans e)]; exact ⟨h1,ry⟩
    · rw [if_neg e,if_neg (fun z=>e (h1.trans z))]; exact ⟨h1,h2⟩
theorem KV.put {kvs:List (κ×V)} {vs:List (κ×Value)} (r:KV kvs vs) (k:κ) {y:V} {u:Value} (ry:RelV y u):KV (gv kvs k y) (stored vs k u):=by
 unfold gv stored
 rw [r.any k]
 by_cases e:(vs.any fun kv=>decide (kv.1=k))=true
 ·rw [if_pos e,if_pos e]; exact r.Dp k ry
 ·rw [if_neg e,if_neg e]; exact Paired.snoc r ⟨rfl,ry⟩
theorem KV.length {kvs:List (κ×V)} {vs:List (κ×Value)} (r:KV kvs vs):kvs.length=vs.length:=Paired.length r
end
theorem yj {P:Program} {w:World} {k:Key} {u:Value} (r:RelV (kV k) u):(uu P w).is k u=true:=by
 cases k with
 | inl i=>obtain ⟨t,e⟩:=(show ∃ t,u=Value.int i t from r); subst e; exact VP P w i t
 | inr x=>obtain ⟨t,e⟩:=(show ∃ t,u=Value.str x t from r); subst e; exact VQ P w x t
theorem Qg {P:Program} {w:World}:∀ {ks:List Key} {us:List Value},dw (ks.map kV) us->ItemsAre (uu P w) ks us
 | [],_,r=>by rw [kQ] at r; cases r; exact .nil
 | k :: ks,_,r=>by
  rw [bD] at r
  cases r with
  | cons h t=>exact .cons (yj h) (Qg t)
abbrev KT (H:Hp):List (List Key×V)->List (List Key×Addr×Value)->Prop:=Paired fun p q=>p.1=q.1/\H q.2.1=some (.tup (p.1.map kV))/\RelV p.2 q.2.2
theorem KT.val {H:Hp} {kvs:List (List Key×V)} {xs:List (List Key×Addr×Value)} (r:KT H kvs xs) (k:List Key):li (iF kvs k) ((atKey xs k).map (·.2)):=by
 induction r with
 | nil=>exact aN
 | @cons p q ps qs h t ih =>
  obtain ⟨h1,_,h2⟩:=h
  by_cases e:p.1=k
  ·have e':q.1=k:=h1.symm.trans e
   have b:atKey (q :: qs) k=some q.2:=by simp [atKey,gZ,e']
   rw [zv e,b]; exact h2
  ·have e':¬ q.1=k:=fun z=>e (h1.trans z)
   have b:atKey (q :: qs) k=atKey qs k:=by simp [atKey,gZ,e']
   rw [zy e,b]; exact ih
theorem KT.Dp {H:Hp} {kvs:List (List Key×V)} {xs:List (List Key×Addr×Value)} (r:KT H kvs xs) (k:List Key) {y:V} {u:Value} (ry:RelV y u) :
    KT H (kvs.map fun kv=>if kv.1=k then (kv.1,y) else kv) (xs.map (putAt k u)):=by
  induction r with
  | nil=>exact .nil
  | @cons p q ps qs h t ih =>
    rw [bD,bD]
    refine .cons ?_ ih
    obtain ⟨h1,h2,h3⟩:=h
    unfold putAt
    by_cases e:p.1=k
    · rw [if_pos e,if_pos (h1.symm.trans e)]; exact ⟨h1,h2,ry⟩
    · rw [if_neg e,if_neg (fun z=>e (h1.trans z))]; exact ⟨h1,h2,h3⟩
theorem KT.put {H:Hp} {kvs:List (List Key×V)} {xs:List (List Key×Addr×Value)} (r:KT H kvs xs) (k:List Key) {b:Addr} {y:V} {u:Value} (hb:H b=some (.tup (k.map kV))) (ry:RelV y u) :
    KT H (gv kvs k y) (storedH xs k b u):=by
  have e:(kvs.any fun kv=>decide (kv.1=k))=(atKey xs k).isSome:=by
    rw [Jh,(r.val k).wG,Option.isSome_map]
  unfold gv storedH
  rw [e]
  by_cases q:(atKey xs k).isSome=true
  · rw [if_pos q,if_pos q]; exact r.Dp k ry
  · rw [if_neg q,if_neg q]; exact Paired.snoc r ⟨rfl,hb,ry⟩
theorem KT.keeps {H H':Hp} {kvs:List (List Key×V)} {xs:List (List Key×Addr×Value)} (r:KT H kvs xs) (ht:∀ b ys,H b=some (.tup ys)->H' b=some (.tup ys)):KT H' kvs xs :=
 Paired.gB r fun _ _ z=>⟨z.1,ht _ _ z.2.1,z.2.2⟩
section
variable {P:Program} {w:World} {H:Hp} {h:Heap} {a:Addr}
theorem BW {u:HO} (ok:lK P w H h) (e:Rd H a u):gF P w H h a u:=e.ok ok
theorem xV {kvs:List (Key×V)} (ok:lK P w H h) (e:Rd H a (.dK kvs)):kvs.length<=sizeLine/\(a == sysModules)=false/\∃ vs,KV kvs vs/\h.DictOf (uu P w) a vs :=
 show gF P w H h a (.dK kvs) from BW ok e
theorem Fj {kvs:List (Key×V)} (ok:lK P w H h) (e:H a=some (.dK kvs)):kvs.length<=sizeLine/\(a == sysModules)=false/\∃ vs,KV kvs vs/\h.DictOf (uu P w) a vs:=xV ok (.inl e)
theorem MU {ks:List Key} (ok:lK P w H h) (e:H a=some (.tup (ks.map kV))):(tupleKind (uu P w)).is h ks a:=by
 obtain ⟨_,dJ,r,o,h1,h2,n,h3⟩:=(show gF P w H h a (.tup (ks.map kV)) from ok a _ e)
 exact ⟨o,dJ.toArray,n,h1,h2,h3,by simpa using Qg r⟩
theorem xW {kvs:List (List Key×V)} (ok:lK P w H h) (e:Rd H a (.dT kvs)):kvs.length<=sizeLine/\(a == sysModules)=false /\
    ∃ xs,KT H kvs xs/\h.DictOfH (tupleKind (uu P w)) a xs:=by
  obtain ⟨z,y,xs,r,o,es,ep,h1,h2,h3,h4,h5⟩:=(show gF P w H h a (.dT kvs) from BW ok e)
  refine ⟨z,y,xs,r,o,es,ep,h1,h2,h3,h4,fun x hx=>?_,h5⟩
  have all:∀ {l:List (List Key×V)} {m:List (List Key×Addr×Value)},KT H l m->∀ x∈m,(tupleKind (uu P w)).is h x.1 x.2.1:=by
    intro l m q
    induction q with
    | nil=>intro x hx; exact nomatch hx
    | @cons p q ps qs hq t ih =>
      intro x hx
      rcases aM.mp hx with e | hx
      · subst e
        exact MU ok (by rw [<- hq.1]; exact hq.2.1)
      · exact ih x hx
  exact all r x hx
theorem Fk {kvs:List (List Key×V)} (ok:lK P w H h) (e:H a=some (.dT kvs)):kvs.length<=sizeLine/\(a == sysModules)=false /\
    ∃ xs,KT H kvs xs/\h.DictOfH (tupleKind (uu P w)) a xs:=xW ok (.inl e)
end
def oK (H:Hp) (a:Addr) (y:V) (r:Option V):Prop :=
 (∃ kvs k,Rd H a (.dK kvs)/\y=kV k/\r=iF kvs k)\/∃ kvs k b,Rd H a (.dT kvs)/\y = .ref b/\H b=some (.tup (k.map kV))/\r=iF kvs k
def ux (H:Hp) (a:Addr) (y v:V) (H':Hp):Prop :=
 (∃ kvs k,H a=some (.dK kvs)/\y=kV k/\kvs.length<sizeLine/\H'=aQ H a (.dK (gv kvs k v))) \/
 ∃ kvs k b,H a=some (.dT kvs)/\y = .ref b/\H b=some (.tup (k.map kV))/\kvs.length<sizeLine/\H'=aQ H a (.dT (gv kvs k v))
theorem oK.k {H:Hp} {a:Addr} {kvs:List (Key×V)} {k:Key} (e:H a=some (.dK kvs)):oK H a (kV k) (iF kvs k):=.inl ⟨kvs,k,.inl e,rfl,rfl⟩
theorem ux.k {H:Hp} {a:Addr} {kvs:List (Key×V)} {k:Key} {v:V} (e:H a=some (.dK kvs)) (hl:kvs.length<sizeLine):ux H a (kV k) v (aQ H a (.dK (gv kvs k v))):=.inl ⟨kvs,k,e,rfl,hl,rfl⟩
section
variable {X:Cx} {ao:List (Addr×Obj)} {σ:St} {H:Hp} {s:Shared} {a:Addr} {y v:V} {u r:Value} {o:Option V} {A:Around} {E:Value->Shared->Prop}
theorem Inv.big (I:Inv X ao σ H s):sysModules<s.heap.objs.size:=by
 have h:mainGlobals<s.heap.objs.size:=(I.mod.glob.keeps I.bk).lt
 exact Nat.lt_trans (by decide) h
theorem Rg {h':Heap} {t':Nat} {ob:HO} (I:Inv X ao σ H s) (mu:E2 (H a)) (hs:Heap.SameBut a s.heap h') (he:∃ q,h'.get? a=some q) (new:gF X.prog X.w (aQ H a ob) h' a ob) :
    Inv X ao σ (aQ H a ob) { s with heap:=h',toks:=t' } :=
  I.write (x:=a) (e:=a) mu (.inl rfl) (fun b q hb z=>(hs.2 b hb).trans z) he new
theorem YO {P:Program} {w:World} {H':Hp} {h':Heap} {kvs:List (Key×V)} {vs:List (Key×Value)} (z:kvs.length<=sizeLine) (hd:(a == sysModules)=false) (rel:KV kvs vs) (dd:h'.DictOf (uu P w) a vs) :
    gF P w H' h' a (.dK kvs):=⟨z,hd,vs,rel,dd⟩
theorem Wz {H':Hp} {Q:Unit->Shared->Prop} (hu:A.units+1<cLine) (I:Inv X ao σ H s) (g:ux H a y v H') (ry:RelV y u) (rv:RelV v r) (h:∀ s',Inv X ao σ H' s'->Q () s') :
    wpAny (model X.prog X.w) A (setItem (.ref a) u r) Q E s:=by
  rcases g with ⟨kvs,k,e,ey,l,eH⟩ | ⟨kvs,k,b,e,ey,eb,l,eH⟩
  · subst ey eH
    obtain ⟨z,hd,vs,rel,dd⟩:=Fj I.eW e
    have hz:vs.length<=sizeLine:=by rw [<- rel.length]; exact z
    have hl:(gv kvs k v).length<=sizeLine:=by have:=Mn kvs k v; omega
    refine wpAny_setItem_pairs (hsz:=hz) (yj ry) dd fun h' HX hs=>h _ ?_
    have he:∃ q,h'.get? a=some q:=let ⟨q,_,_,hq,_⟩:=HX; ⟨q,hq⟩
    exact Rg I (by rw [e]; exact aN) hs he (YO hl hd (rel.put k rv) HX)
  · subst ey eH
    cases (show u=Value.ref b from ry)
    obtain ⟨z,hd,xs,rel,dd⟩:=Fk I.eW e
    have hz:xs.length<=sizeLine:=by rw [<- Paired.length rel]; exact z
    have hl:(gv kvs k v).length<=sizeLine:=by have:=Mn kvs k v; omega
    refine wpAny_setItem_heap (hsz:=hz) (tupleKind_room_in1 hu) (MU I.eW eb) dd fun h' HX hs=>h _ ?_
    obtain ⟨q,es,ep,hq,h2,h3,h4,_,h5⟩:=HX
    refine Rg I (by rw [e]; exact aN) hs ⟨q,hq⟩ ⟨hl,hd,_,(rel.put k eb rv).keeps fun c ys ec=>?_,q,es,ep,hq,h2,h3,h4,h5⟩
    rw [c8 (b7 ec e (fun z=>nomatch z))]
    exact ec
end
section
variable {X:Cx} {ao:List (Addr×Obj)} {σ:St} {H:Hp} {s:Shared} {a:Addr} {kvs:List (Key×V)} {k:Key} {u:Value} {A:Around} {E:Value->Shared->Prop}
end
def B5 (td ty:TE):TE:=fun σ H Q=>td σ H fun x H1=>ty σ H1 fun y H2=>∃ a v,x = .ref a/\oK H2 a y (some v)/\Q v H2
def G3 (ty td:TE):TE:=fun σ H Q=>ty σ H fun y H1=>td σ H1 fun x H2=>∃ a o,x = .ref a/\oK H2 a y o/\Q (.bl o.isSome) H2
def vM (ty td:TE):TE:=fun σ H Q=>ty σ H fun y H1=>td σ H1 fun x H2=>∃ a o,x = .ref a/\oK H2 a y o/\Q (.bl (!o.isSome)) H2
def yD (td ty tv:TE):TS:=fun D σ H=>tv σ H fun v H1=>td σ H1 fun x H2=>ty σ H2 fun y H3=>∃ a H4,x = .ref a/\ux H3 a y v H4/\D.nx σ H4
section
variable {X:Cx} {o i e value:Expr} {pos lP rT:Pos} {td ty tv:TE}
theorem MJ (hu:X.A.units+1<cLine) (ho:PE X o td) (hi:PE X i ty) (hv:PE X value tv) (hs:swapsWith value (some (.Subscript o i lP)) pos.line X.env=pure false) :
    PS X (.Assign [.Subscript o i lP] value pos) (yD td ty tv):=by
  intro ao s σ H D I h
  refine wpAny_Assign_Subscript (fM (hv ao s σ H _ I h) fun r s1 ⟨v,H1,I1,rv,q1⟩=>fM (ho ao s1 σ H1 _ I1 q1) fun u s2 ⟨x,H2,I2,rx,q2⟩=>fM (hi ao s2 σ H2 _ I2 q2) fun iv s3 ⟨y,H3,I3,ry,a,H4,ex,g,q3⟩=>?_) hs
  subst ex
  obtain rfl:u=Value.ref a:=rx
  exact Wz hu I3 g ry rv fun s4 I4=>⟨σ,H4,I4,q3⟩
end
theorem W2 {P:Program} {w:World} {H:Hp} (h:Heap) (hb:sysModules<h.objs.size):gF P w H (h.push { cls:=.type "dict", data:=.dict #[] }) h.objs.size (.dK []) :=
 ⟨bR _,beq_eq_false_iff_ne.mpr (dI (bL hb)),[],.nil,Heap.DictOf.new h⟩
def u5:TE:=fun _ H Q=>∀ p,H p=none->Q (.ref p) (aQ H p (.dK []))
section
variable {X:Cx} {pos:Pos}
theorem Mz:PE X (.Dict [] [] pos) u5:=fun ao s σ H Q I h =>
 wpAny_Dict_empty ⟨.ref s.heap.objs.size,_,I.laid (a:=s.heap.objs.size) (o:=.dK []) (t':=s.toks) (fun _ _ q=>Heap.get?_push_of_some _ q) (av _) (W2 s.heap I.big),rfl,h _ (I.eW.fresh (av _))⟩
end
structure M1 (X:Cx) (o:Expr) (m:Str) (ku:Pos) (e:Expr) (jt:Pos):Prop where
 base:attributeBase o m X.env (eval o X.env)=eval o X.env
 Nu:((backTo jt (starEach [e] X.env)).all (fun x=>!x.1) && (backToKw jt (keywordEach [] X.env)).all (fun x=>x.1.isSome)
  && decide (([e]:List Expr).length+([]:List Keyword).length+(if ([]:List Keyword).isEmpty then 0 else 1)<30))=true
 line:(ku.endLine == jt.line)=true
 trees:backTo jt (starEach [e] X.env) = [(false,eval e X.env)]
structure M2 (X:Cx) (o:Expr) (m:Str) (ku:Pos) (e f:Expr) (jt:Pos):Prop where
 base:attributeBase o m X.env (eval o X.env)=eval o X.env
 Nu:((backTo jt (starEach [e,f] X.env)).all (fun x=>!x.1) && (backToKw jt (keywordEach [] X.env)).all (fun x=>x.1.isSome)
  && decide (([e,f]:List Expr).length+([]:List Keyword).length+(if ([]:List Keyword).isEmpty then 0 else 1)<30))=true
 line:(ku.endLine == jt.line)=true
 trees:backTo jt (starEach [e,f] X.env) = [(false,eval e X.env),(false,eval f X.env)]
def HR (H:Hp) (a:Addr):Prop:=(∃ kvs,Rd H a (.dK kvs))\/∃ kvs,Rd H a (.dT kvs)
theorem YQ {X:Cx} {ao:List (Addr×Obj)} {σ:St} {H:Hp} {s:Shared} {a:Addr} (I:Inv X ao σ H s) (d:HR H a) :
    s.TypeIs (.ref a) "dict" /\ (∀ b,Value.ref a = .ref b->∃ ob,s.heap.get? b=some ob/\ob.dict=none)/\(a == sysModules)=false:=by
  rcases d with ⟨kvs,e⟩ | ⟨kvs,e⟩
  · obtain ⟨_,hd,vs,_,dd⟩:=xV I.eW e
    refine ⟨dd.typeIs,fun b q=>?_,hd⟩
    cases q
    obtain ⟨ob,_,_,h1,h2,_⟩:=dd
    exact ⟨ob,h1,h2.2.1⟩
  · obtain ⟨_,hd,xs,_,dd⟩:=xW I.eW e
    refine ⟨dd.typeIs,fun b q=>?_,hd⟩
    cases q
    obtain ⟨ob,_,_,h1,h2,_⟩:=dd
    exact ⟨ob,h1,h2.2.1⟩
section
variable {X:Cx} {ao:List (Addr×Obj)} {σ:St} {H:Hp} {s:Shared} {a:Addr} {y d:V} {u r:Value} {o:Option V} {A:Around} {E:Value->Shared->Prop}
theorem YR {Q:Value->Shared->Prop} (hu:A.units+1<cLine) (I:Inv X ao σ H s) (g:oK H a y o) (ry:RelV y u) (rd:RelV d r) (h:∀ w' s',Inv X ao σ H s'->RelV (o.getD d) w'->Q w' s') :
    wpAny (model X.prog X.w) A (call (.builtin "dict.get") [.ref a,u,r]) Q E s:=by
  rcases g with ⟨kvs,k,e,ey,l⟩ | ⟨kvs,k,b,e,ey,eb,l⟩
  · subst ey
    obtain ⟨z,hd,vs,rel,dd⟩:=xV I.eW e
    refine call_meetsIn ko dd.typeIs sJ (r8 _ _ _) (meets_dict_get_default (uu X.prog X.w) a (yj ry) hd r) ⟨_,dd.mapOf,h _ _ (I.tok _) ?_⟩
    rw [l]
    exact (rel.val k).getD rd
  · subst ey
    cases (show u=Value.ref b from ry)
    obtain ⟨z,hd,xs,rel,dd⟩:=xW I.eW e
    refine call_meetsIn ko dd.typeIs sJ (r8 _ _ _) (meetsH_dict_get_default (tupleKind (uu X.prog X.w)) a b hd r) ⟨tupleKind_room_in1 hu,k,xs,MU I.eW eb,dd,h _ _ (I.tok _) ?_⟩
    rw [l]
    exact (rel.val k).getD rd
end
def yO (td ty:TE):TE:=fun σ H Q=>td σ H fun x H1=>∃ a,x = .ref a/\HR H1 a/\ty σ H1 fun y H2=>∃ o,oK H2 a y o/\Q (o.getD .iJ) H2
def u4 (td ty tx:TE):TE:=fun σ H Q=>td σ H fun x H1=>∃ a,x = .ref a/\HR H1 a/\ty σ H1 fun y H2=>tx σ H2 fun z H3=>∃ o,oK H3 a y o/\Q (o.getD z) H3
section
variable {X:Cx} {o e f:Expr} {ku jt:Pos} {td ty tx:TE}
theorem MA (hu:X.A.units+1<cLine) (ho:PE X o td) (he:PE X e ty) (hf:PE X f tx) (m:M2 X o "get" ku e f jt):PE X (.Call (.Attribute o "get" ku) [e,f] [] jt) (u4 td ty tx):=by
 intro ao s σ H Q I h
 refine wpAny_Call_method m.base m.Nu m.line PySem.F.plainAttrs_dict ko PySem.F.type_dict_get (fM (ho ao s σ H _ I h) fun u s1 ⟨x,H1,I1,rx,a,ex,d,q1⟩=>?_)
 subst ex
 obtain rfl:u=Value.ref a:=rx
 obtain ⟨t1,t2,_⟩:=YQ I1 d
 refine ⟨t1,t2,?_⟩
 rw [m.trees]
 refine Calls.callWith_builtin rfl (Calls.evalArgs_plain (Calls.spliced_cons (fM (he ao s1 σ H1 _ I1 q1) fun iv s2 ⟨y,H2,I2,ry,q2⟩ =>
  Calls.spliced_cons (fM (hf ao s2 σ H2 _ I2 q2) fun fv s3 ⟨z,H3,I3,rz,ov,g,q3⟩=>Calls.spliced_nil ?_))))
 exact YR hu I3 g ry rz fun w' s4 I4 Dq=>⟨_,H3,I4,Dq,q3⟩
end
section
variable {X:Cx} {ao:List (Addr×Obj)} {σ:St} {H:Hp} {s:Shared} {a:Addr} {kvs:List (Key×V)} {A:Around} {E:Value->Shared->Prop}
end
section
variable {X:Cx} {ao:List (Addr×Obj)} {σ:St} {H:Hp} {s:Shared} {a:Addr} {y:V} {u:Value} {A:Around} {E:Value->Shared->Prop}
end
section
variable {X:Cx}
end
section
variable {κ:Type} [DecidableEq κ]
end
def DB (K:ai) (ta:TE):TT:=fun σ H Q=>ta σ H fun x H1=>∃ k,An K x H1 k/\Q k H1
theorem Ht {X:Cx} (K:ai) (h:X.K=K) {a:Expr} {ta:TE} (ha:PE X a ta) (he:∀ jJ,isTrue a X.env jJ=(do let v <- jJ; standAt a.pos; holding [v] (truthy v)):=by intro _; rfl):PT X a (DB K ta):=h ▸ WP ha he
theorem Mi {K:ai} {H:Hp} {p:Addr} {xs:List V} (h:gR K H p xs):An K (.ref p) H (!xs.isEmpty):=.inl ⟨xs,h,rfl⟩
end L2
namespace Sw
abbrev T3:=Rat×Rat×Int
def mE (m:Rat) (u:T3):Bool:=!decide (m<u.1) && decide (m<u.2.1)
def fK (us:List T3) (m:Rat):List T3:=us.filter (mE m)
def h9 (hs:List T3):Int:=(hs.map fun u=>u.2.2).sum
def dY:List Rat->Rat
 | []=>0
 | q :: r=>(q :: r).foldl min q
def iq (hs:List T3):Rat:=dY (hs.map fun u=>u.2.1)
theorem Pf:∀ (l:List Rat) (d:Rat),l.foldl min d=d\/l.foldl min d∈l
 | [],d=>.inl rfl
 | q :: r,d=>by
  rcases Pf r (min d q) with h | h
  ·rw [k7,h,dO]
   split
   ·exact .inl rfl
   ·exact .inr (by simp)
  ·exact .inr (by rw [k7]; exact aA _ h)
theorem gJ {l:List Rat} (h:l≠[]):dY l∈l:=by
 cases l with
 | nil=>exact absurd rfl h
 | cons q r =>
  show (q :: r).foldl min q∈q :: r
  rcases Pf (q :: r) q with e | e
  ·rw [e]; simp
  ·exact e
theorem kE {hs:List T3} (h:hs≠[]):∃ u∈hs,iq hs=u.2.1:=by
 have:=gJ (l:=hs.map fun u=>u.2.1) (by simpa using h)
 obtain ⟨u,hu,e⟩:=aP.mp this
 exact ⟨u,hu,e.symm⟩
theorem jn {us:List T3} {m:Rat} {u:T3} (h:u∈fK us m):u∈us/\m<u.2.1:=by
 obtain ⟨h1,h2⟩:=cQ.mp h
 unfold mE at h2
 simp only [iP,iG,decide_eq_true_eq] at h2
 exact ⟨h1,h2.2⟩
theorem my {us:List T3} {m:Rat} (h:fK us m≠[]):m<iq (fK us m):=by
 obtain ⟨u,hu,e⟩:=kE h
 rw [e]; exact (jn hu).2
def ahead (us:List T3) (m:Rat):Nat:=(us.filter fun u=>decide (m<u.2.1)).length
theorem Hs {α:Type} {p q:α->Bool}:∀ {l:List α},(∀ x∈l,q x=true->p x=true)->(∃ x∈l,p x=true/\q x=false)->(l.filter q).length<(l.filter p).length
 | [],_,⟨x,hx,_⟩=>absurd hx (by simp)
 | y :: r,h,⟨x,hx,h1,h2⟩=>by
  have le:∀ {l:List α},(∀ x∈l,q x=true->p x=true)->(l.filter q).length<=(l.filter p).length:=fun {l}=>by
   induction l with
   | nil=>intro _; exact av _
   | cons z t ih =>
    intro hh
    have ih:=ih fun x hx=>hh x (aA _ hx)
    have hz:=hh z (by simp)
    rw [aZ,aZ]
    cases e1:q z <;> cases e2:p z <;> simp_all <;> omega
  rcases aM.mp hx with e | e
  ·subst e
   have:=le (l:=r) fun x hx=>h x (aA _ hx)
   rw [aZ,aZ,h1,h2]
   simp; omega
  ·have ih:=Hs (l:=r) (fun x hx=>h x (aA _ hx)) ⟨x,e,h1,h2⟩
   have hy:=h y (by simp)
   rw [aZ,aZ]
   cases e1:q y <;> cases e2:p y <;> simp_all <;> omega
theorem sR {us:List T3} {m:Rat} (h:fK us m≠[]):ahead us (iq (fK us m))<ahead us m:=by
 have gt:=my h
 obtain ⟨u,hu,e⟩:=kE h
 obtain ⟨h1,h2⟩:=jn hu
 refine Hs (fun x _ hx=>?_) ⟨u,h1,decide_eq_true h2,?_⟩
 ·simp only [decide_eq_true_eq] at hx ⊢
  grind
 ·rw [e]; simp only [decide_eq_false_iff_not]; grind
def iu (us:List T3) (t:Rat):Nat->Rat->Rat->Rat
 | 0,_,re=>re
 | n+1,mo,re =>
  if fK us re = [] then re
  else if t<mo+(iq (fK us re)-re)*(h9 (fK us re):Rat) then re+(t-mo) / (h9 (fK us re):Rat)
  else iu us t n (mo+(iq (fK us re)-re)*(h9 (fK us re):Rat)) (iq (fK us re))
def iC (us:List T3) (C9:Int) (AS:Rat) (t:Int):Rat:=iu us (t:Rat) (us.length+1) (C9:Rat) AS
theorem sQ (us:List T3) (m:Rat):ahead us m<=us.length:=bG _ _
def dH (D:Int) (q:Rat):Prop:=∃ n:Int,q=(n:Rat) / (D:Rat)
theorem dH.int {D:Int} (hD:D≠0) (n:Int):dH D (n:Rat):=⟨n*D,by have:=cI hD; rw [aJ]; grind⟩
theorem dH.add {D:Int} {a b:Rat} (h:dH D a) (k:dH D b):dH D (a+b):=by
 obtain ⟨n,rfl⟩:=h
 obtain ⟨m,rfl⟩:=k
 exact ⟨n+m,by rw [dh]; grind⟩
theorem dH.sub {D:Int} {a b:Rat} (h:dH D a) (k:dH D b):dH D (a-b):=by
 obtain ⟨n,rfl⟩:=h
 obtain ⟨m,rfl⟩:=k
 exact ⟨n-m,by rw [jd]; grind⟩
theorem dH.mG {D:Int} {a:Rat} (h:dH D a) (k:Int):dH D (a*(k:Rat)):=by
 obtain ⟨n,rfl⟩:=h
 exact ⟨n*k,by rw [aJ]; grind⟩
theorem dH.m9 {D:Int} {a:Rat} (hD:D≠0) (h:dH D a) {k:Int} (hk:k≠0):dH (D*k) (a / (k:Rat)):=by
 obtain ⟨n,rfl⟩:=h
 have h1:=cI hD
 have h2:=cI hk
 exact ⟨n,by rw [aJ]; grind⟩
theorem dH.more {D:Int} {a:Rat} (hD:D≠0) (h:dH D a) {k:Int} (hk:k≠0):dH (D*k) a:=by
 obtain ⟨n,rfl⟩:=h
 have h1:=cI hD
 have h2:=cI hk
 exact ⟨n*k,by rw [aJ,aJ]; grind⟩
theorem dH.sz {D M:Int} {a b:Nat} {q:Rat} (h:dH D q) (hD:0<D) (zD:Sz a D) (zM:Sz b M) (h1:-(M:Rat)<=q) (h2:q<=(M:Rat)) (hb:1<=b):cL (a+b) q:=by
 obtain ⟨n,rfl⟩:=h
 have dp:=bJ hD
 have dn:=cI (show D≠0 by omega)
 refine .of (by omega) rfl ((zD.mul zM).le ?_) (zD.mono (by omega))
 have e:(n:Rat) / (D:Rat)*(D:Rat)=(n:Rat):=by grind
 have u:(n:Rat)<=((M*D:Int):Rat):=by
  rw [<- e,aJ]
  exact aC h2 (by grind)
 have l:((-(M*D):Int):Rat)<=(n:Rat):=by
  rw [<- e,Ed,aJ,show -((M:Rat)*(D:Rat)) = -(M:Rat)*(D:Rat) by grind]
  exact aC h1 (by grind)
 have u':=ak.mp u
 have l':=ak.mp l
 rw [kZ D M]
 omega
end Sw
namespace L2
open PySem PySem.Spec PyProof.Rows
theorem Rh {c:TT} {tb:TS} {D:Ends} {σ:St} {H:Hp} (W:Nat->St->Hp->Prop) {m0:Nat} (h0:W m0 σ H)
    (hs:∀ m σ H,W m σ H->∃ b:Bool,(∀ Q:Bool->Hp->Prop,Q b H->c σ H Q)/\(b=true->tb { D with nx:=fun σ' H'=>∃ m',m' < m/\W m' σ' H',ct:=fun σ' H'=>∃ m',m' < m/\W m' σ' H',bk:=D.nx } σ H)/\(b=false->D.nx σ H)):Jv c tb D σ H:=by
  refine ⟨W,⟨_,h0⟩,fun m σ H p=>?_⟩
  obtain ⟨b,hc,h1,h2⟩:=hs m σ H p
  refine hc _ ?_
  cases b with
  | true=>exact ⟨_,fun σ' H' z=>z,h1 rfl⟩
  | false=>exact h2 rfl
def sO (H:Hp) (p:Addr) (u:Sw.T3):Prop:=∃ pb pe,H p=some (.tup [.ref pb,.ref pe,.int u.2.2])/\H pb=some (.tup (fq u.1))/\H pe=some (.tup (fq u.2.1))
abbrev vd (H:Hp) (ps:List Addr) (us:List Sw.T3):Prop:=Paired (sO H) ps us
theorem sO.keep {H H':Hp} {p:Addr} {u:Sw.T3} (h:sO H p u) (e:∀ p xs,H p=some (.tup xs)->H' p=some (.tup xs)):sO H' p u:=by
 obtain ⟨pb,pe,h1,h2,h3⟩:=h
 exact ⟨pb,pe,e _ _ h1,e _ _ h2,e _ _ h3⟩
theorem Ce {H H':Hp} {ps:List Addr} {us:List Sw.T3} (h:vd H ps us) (e:∀ p xs,H p=some (.tup xs)->H' p=some (.tup xs)):vd H' ps us:=Paired.gB h fun _ _ q=>q.keep e
theorem vQ {H H':Hp} {ps:List Addr} {us:List Sw.T3} (h:vd H ps us) (e:bT H H'):vd H' ps us:=Ce h fun _ _ q=>e _ _ q
theorem dP {H:Hp} {ps:List Addr} {us:List Sw.T3} (h:vd H ps us):ps.length=us.length:=Paired.length h
theorem zj {α β:Type} {F:α->β->Prop} {a:α} {b:β} (h:F a b):∀ {l₁:List α} {l₂:List β},Paired F l₁ l₂->Paired F (l₁++[a]) (l₂++[b])
 | _,_,Paired.nil=>.cons h .nil
 | _,_,Paired.cons x y=>.cons x (zj h y)
theorem wV {α β:Type} {F:α->β->Prop}:∀ {l₁:List α} {l₂:List β} {i:Nat} {a:α},Paired F l₁ l₂->l₁[i]? = some a->∃ b,l₂[i]? = some b/\F a b
 | _,_,_,_,Paired.nil,e=>by simp at e
 | _,_,0,_,Paired.cons x _,e=>by simp at e; subst e; exact ⟨_,rfl,x⟩
 | _,_,i+1,_,Paired.cons _ y,e=>by
  obtain ⟨b,h1,h2⟩:=wV (i:=i) y (by simpa using e)
  exact ⟨b,by simpa using h1,h2⟩
theorem aV {α:Type} {l:List α} {i:Nat} {x:α} (h:l[i]? = some x):l.take (i+1)=l.take i++[x]:=by
 rw [Ai,h]; rfl
structure o7 (D B:Int) (u:Sw.T3):Prop where
 b:Sw.dH D u.1
 e:Sw.dH D u.2.1
 b0:0<=u.1
 be:u.1<=u.2.1
 eB:u.2.1<=(B:Rat)
 s1:1<=u.2.2
 s2:u.2.2<=1000000
theorem Jk {D B:Int}:∀ {hs:List Sw.T3},(∀ u∈hs,o7 D B u)->hs≠[]->1<=Sw.h9 hs/\Sw.h9 hs<=hs.length*1000000
 | [],_,h=>absurd rfl h
 | [u],h,_=>by
  have t:=h u (by simp)
  have a:=t.s1
  have b:=t.s2
  unfold Sw.h9
  simp
  omega
 | u :: v :: r,h,_=>by
  have t:=h u (by simp)
  have a:=t.s1
  have b:=t.s2
  have ih:=Jk (hs:=v :: r) (fun x hx=>h x (aA _ hx)) (by simp)
  have e:Sw.h9 (u :: v :: r)=u.2.2+Sw.h9 (v :: r):=by unfold Sw.h9; simp
  rw [e]
  simp only [aE] at ih ⊢
  omega
structure GB (D B:Int):Prop where
 D0:0<D
 Dz:Sw.Sz 1500 D
 B0:0<=B
 B1:B<=10000000000
theorem GB.sz {D B M:Int} {q:Rat} (g:GB D B) (h:Sw.dH D q) (h1:-(M:Rat)<=q) (h2:q<=(M:Rat)) (m1:-100000000000000000000<M) (m2:M<100000000000000000000):Sw.cL 1570 q :=
 h.sz g.D0 g.Dz (Sw.Sz.j5 m1 m2) h1 h2 (by decide)
theorem GB.EC {D B:Int} {q:Rat} (g:GB D B) (h:Sw.dH D q) (h1:0<=q) (h2:q<=(B:Rat)):Sw.cL 1570 q:=by
 have b0:=g.B0
 have b1:=g.B1
 have:(0:Rat)<=(B:Rat):=by grind
 exact g.sz h (by grind) h2 (by omega) (by omega)
structure FT (fs:List (Str×V)) (eG:Int) (pr pu pe:Addr):Prop where
 eG:fs.lookup ("latest" : Str)=some (.int eG)
 IB:fs.lookup ("reached" : Str)=some (.ref pr)
 A3:fs.lookup ("unflowed" : Str)=some (.ref pu)
 lst:fs.lookup ("last_ends" : Str)=some (.ref pe)
 no:∀ m:Str,¬ m = "latest" -> ¬ m = "reached" -> ¬ m = "unflowed" -> ¬ m = "last_ends" -> fs.lookup m=none
 len:fs.length<900
structure Nk (C:Addr) (H:Hp) (p:Addr) (eG:Int) (re:Rat) (us:List Sw.T3):Prop where
 ex:∃ dx fs pr pu pe ps,H p=some (.ins C dx fs)/\FT fs eG pr pu pe/\H pr=some (.tup (fq re))/\H pu=some (.lst (ps.map V.ref))/\vd H ps us
structure jr (D B eG:Int) (re:Rat) (us:List Sw.T3):Prop where
 gb:GB D B
 Ic:Sw.dH D re
 uh:0<=re
 LP:re<=(B:Rat)
 ED:∀ u∈us,o7 D B u
 len:us.length<=100
 l0:0<=eG
 l1:eG<1000000000000000
theorem jr.zr {D B eG:Int} {re:Rat} {us:List Sw.T3} (o:jr D B eG re us):Sw.cL 1570 re:=o.gb.EC o.Ic o.uh o.LP
theorem jr.zu {D B eG:Int} {re:Rat} {us:List Sw.T3} (o:jr D B eG re us) (u:Sw.T3) (h:u∈us):Sw.cL 5000 u.1/\Sw.cL 5000 u.2.1:=by
 have t:=o.ED u h
 have be:=t.be
 have b0:=t.b0
 have eB:=t.eB
 exact ⟨(o.gb.EC t.b b0 (by grind)).mono (by decide),(o.gb.EC t.e (by grind) eB).mono (by decide)⟩
theorem jr.Lj {D B eG:Int} {re:Rat} {us:List Sw.T3} (o:jr D B eG re us):(0:Rat)<=(eG:Rat):=by
 have:((0:Int):Rat)<=(eG:Rat):=ak.mpr o.l0
 exact this
theorem O6:¬ (("latest" : Str) = "reached"):=by decide +kernel
theorem O5:¬ (("latest" : Str) = "unflowed"):=by decide +kernel
theorem Vp:¬ (("latest" : Str) = "last_ends"):=by decide +kernel
theorem Vw:¬ (("reached" : Str) = "latest"):=by decide +kernel
theorem O4:¬ (("reached" : Str) = "unflowed"):=by decide +kernel
theorem Vn:¬ (("reached" : Str) = "last_ends"):=by decide +kernel
theorem Vt:¬ (("unflowed" : Str) = "latest"):=by decide +kernel
theorem Vq:¬ (("unflowed" : Str) = "reached"):=by decide +kernel
theorem Vl:¬ (("unflowed" : Str) = "last_ends"):=by decide +kernel
theorem Vr:¬ (("last_ends" : Str) = "latest"):=by decide +kernel
theorem Vo:¬ (("last_ends" : Str) = "reached"):=by decide +kernel
theorem Vm:¬ (("last_ends" : Str) = "unflowed"):=by decide +kernel
theorem FT.AN {fs:List (Str×V)} {eG:Int} {pr pu pe:Addr} {l':Int} (h:FT fs eG pr pu pe):FT (bQ "latest" (.int l') fs) l' pr pu pe:=by
 refine ⟨?_,?_,?_,?_,fun m h1 h2 h3 h4=>?_,?_⟩
 ·rw [lV,if_pos rfl]
 ·rw [lV,if_neg Vw]; exact h.IB
 ·rw [lV,if_neg Vt]; exact h.A3
 ·rw [lV,if_neg Vr]; exact h.lst
 ·rw [lV,if_neg h1]; exact h.no m h1 h2 h3 h4
 ·rw [Jg h.eG]; exact h.len
theorem FT.AO {fs:List (Str×V)} {eG:Int} {pr pu pe:Addr} {r':Addr} (h:FT fs eG pr pu pe):FT (bQ "reached" (.ref r') fs) eG r' pu pe:=by
 refine ⟨?_,?_,?_,?_,fun m h1 h2 h3 h4=>?_,?_⟩
 ·rw [lV,if_neg O6]; exact h.eG
 ·rw [lV,if_pos rfl]
 ·rw [lV,if_neg Vq]; exact h.A3
 ·rw [lV,if_neg Vo]; exact h.lst
 ·rw [lV,if_neg h2]; exact h.no m h1 h2 h3 h4
 ·rw [Jg h.IB]; exact h.len
theorem FT.AQ {fs:List (Str×V)} {eG:Int} {pr pu pe:Addr} {u':Addr} (h:FT fs eG pr pu pe):FT (bQ "unflowed" (.ref u') fs) eG pr u' pe:=by
 refine ⟨?_,?_,?_,?_,fun m h1 h2 h3 h4=>?_,?_⟩
 ·rw [lV,if_neg O5]; exact h.eG
 ·rw [lV,if_neg O4]; exact h.IB
 ·rw [lV,if_pos rfl]
 ·rw [lV,if_neg Vm]; exact h.lst
 ·rw [lV,if_neg h3]; exact h.no m h1 h2 h3 h4
 ·rw [Jg h.A3]; exact h.len
theorem FT.UM (pr pu pe:Addr):FT (bQ "last_ends" (.ref pe) (bQ "unflowed" (.ref pu) (bQ "reached" (.ref pr) (bQ "latest" (.int 0) [])))) 0 pr pu pe:=by
 refine ⟨?_,?_,?_,?_,fun m h1 h2 h3 h4=>?_,?_⟩
 ·rw [lV,if_neg Vp,lV,if_neg O5,lV,if_neg O6,lV,if_pos rfl]
 ·rw [lV,if_neg Vn,lV,if_neg O4,lV,if_pos rfl]
 ·rw [lV,if_neg Vl,lV,if_pos rfl]
 ·rw [lV,if_pos rfl]
 ·rw [lV,if_neg h4,lV,if_neg h3,lV,if_neg h2,lV,if_neg h1]; rfl
 ·have a1:=Cd (fs:=[]) (f := "latest") (v:=.int 0)
  have a2:=Cd (fs:=bQ "latest" (.int 0) []) (f := "reached") (v:=.ref pr)
  have a3:=Cd (fs:=bQ "reached" (.ref pr) (bQ "latest" (.int 0) [])) (f := "unflowed") (v:=.ref pu)
  have a4:=Cd (fs:=bQ "unflowed" (.ref pu) (bQ "reached" (.ref pr) (bQ "latest" (.int 0) []))) (f := "last_ends") (v:=.ref pe)
  simp only [cy] at a1
  omega
def oU (H:Hp) (kvs:List (Key×V)) (en:Int->Option Rat):Prop:=∀ w:Int,(en w=none/\iF kvs (cH w:Key)=none)\/∃ e q,en w=some e/\iF kvs (cH w:Key)=some (.ref q)/\H q=some (.tup (fq e))
theorem oU.keep {H H':Hp} {kvs:List (Key×V)} {en:Int->Option Rat} (h:oU H kvs en) (e:∀ p xs,H p=some (.tup xs)->H' p=some (.tup xs)):oU H' kvs en:=fun w=>by
 rcases h w with z | ⟨x,q,h1,h2,h3⟩
 ·exact .inl z
 ·exact .inr ⟨x,q,h1,h2,e _ _ h3⟩
def gw (en:Int->Option Rat) (w:Int) (e:Rat):Int->Option Rat:=fun v=>if v=w then some e else en v
theorem oU.put {H:Hp} {kvs:List (Key×V)} {en:Int->Option Rat} {w:Int} {e:Rat} {q:Addr} (h:oU H kvs en) (hq:H q=some (.tup (fq e))):oU H (gv kvs (cH w) (.ref q)) (gw en w e):=fun v=>by
 rw [WZ]
 unfold gw
 by_cases hv:v=w
 ·subst hv
  rw [if_pos rfl,if_pos rfl]
  exact .inr ⟨e,q,rfl,rfl,hq⟩
 ·rw [if_neg hv,if_neg (by intro z; exact hv (Eg z))]
  exact h v
structure Td (C:Addr) (H:Hp) (p pe:Addr) (eG:Int) (re:Rat) (us:List Sw.T3) (en:Int->Option Rat) (m:Nat):Prop where
 ex:∃ dx fs pr pu ps kvs,H p=some (.ins C dx fs)/\FT fs eG pr pu pe/\H pr=some (.tup (fq re))/\H pu=some (.lst (ps.map V.ref))/\vd H ps us/\H pe=some (.dK kvs)/\oU H kvs en/\kvs.length<=m/\us.length<=m
theorem Td.m {C:Addr} {H:Hp} {p pe:Addr} {eG:Int} {re:Rat} {us:List Sw.T3} {en:Int->Option Rat} {m:Nat} (h:Td C H p pe eG re us en m):Nk C H p eG re us:=by
 obtain ⟨dx,fs,pr,pu,ps,kvs,h1,h2,h3,h4,h5,_⟩:=h.ex
 exact ⟨dx,fs,pr,pu,pe,ps,h1,h2,h3,h4,h5⟩
theorem Td.same {C:Addr} {H H':Hp} {p pe:Addr} {eG:Int} {re:Rat} {us:List Sw.T3} {en:Int->Option Rat} {m:Nat} (h:Td C H p pe eG re us en m) (s:bT H H'):Td C H' p pe eG re us en m:=by
 obtain ⟨dx,fs,pr,pu,ps,kvs,h1,h2,h3,h4,h5,h6,h7,h8⟩:=h.ex
 exact ⟨dx,fs,pr,pu,ps,kvs,s _ _ h1,h2,s _ _ h3,s _ _ h4,vQ h5 s,s _ _ h6,h7.keep fun _ _ q=>s _ _ q,h8⟩
def Kept (p d:Addr) (H H':Hp):Prop:=∀ b o,b≠p->b≠d->H b=some o->H' b=some o
theorem bT.kept {p d:Addr} {H H':Hp} (h:bT H H'):Kept p d H H':=fun b o _ _ e=>h b o e
theorem Kept.trans {p d:Addr} {H H1 H2:Hp} (a:Kept p d H H1) (b:Kept p d H1 H2):Kept p d H H2:=fun c o n1 n2 h=>b c o n1 n2 (a c o n1 n2 h)
end L2
namespace Sw
open L2
theorem QE {us:List T3} {D B:Int} {t:Int} (gb:GB D B) (ok:∀ u∈us,o7 D B u) (lu:us.length<=100):∀ (n:Nat) (mo re:Rat),dH D mo->mo<=(t:Rat)->dH D re->0<=re->re<=(B:Rat) ->
    (∃ S:Int,1<=S/\S<=us.length*1000000+1/\dH (D*S) (iu us (t:Rat) n mo re))/\re<=iu us (t:Rat) n mo re/\iu us (t:Rat) n mo re<=(B:Rat)
  | 0,mo,re,gm,hm,gr,r0,r1=>⟨⟨1,by decide,by omega,gr.more (by have:=gb.D0; omega) (by decide)⟩,by unfold iu; grind,by unfold iu; exact r1⟩
  | n+1,mo,re,gm,hm,gr,r0,r1=>by
    have D0:D≠0:=by have:=gb.D0; omega
    unfold iu
    by_cases hn:fK us re = []
    · rw [if_pos hn]
      exact ⟨⟨1,by decide,by omega,gr.more D0 (by decide)⟩,by grind,r1⟩
    · rw [if_neg hn]
      have gt:=my hn
      have eW:∀ u∈fK us re,o7 D B u:=fun u h=>ok u (jn h).1
      have hS:=Jk eW hn
      have hl:(fK us re).length<=us.length:=bG _ _
      obtain ⟨uf,Ex,ef⟩:=kE hn
      have gf:dH D (iq (fK us re)):=by rw [ef]; exact (eW uf Ex).e
      have fB:iq (fK us re)<=(B:Rat):=by rw [ef]; exact (eW uf Ex).eB
      generalize iq (fK us re)=fv at gt gf fB ⊢
      generalize h9 (fK us re)=S at hS ⊢
      have Sp:(0:Rat)<(S:Rat):=bJ (by omega)
      by_cases jx:(t:Rat)<mo+(fv-re)*(S:Rat)
      · rw [if_pos jx]
        have x0:0<=((t:Rat)-mo) / (S:Rat):=by
          have:¬ ((t:Rat)-mo) / (S:Rat)<0:=by rw [gG Sp]; grind
          grind
        have x1:((t:Rat)-mo) / (S:Rat)<fv-re:=by rw [gG Sp]; grind
        refine ⟨⟨S,hS.1,by omega,(gr.more D0 (by omega)).add (((dH.int D0 t).sub gm).m9 D0 (by omega))⟩,by grind,by grind⟩
      · rw [if_neg jx]
        have ih:=QE (t:=t) gb ok lu n (mo+(fv-re)*(S:Rat)) fv (gm.add ((gf.sub gr).mG S)) (by grind) gf (by grind) fB
        exact ⟨ih.1,by have:=ih.2.1; grind,ih.2.2⟩
theorem nj {us:List T3} {D B eG:Int} {re:Rat} {t:Int} (o:jr D B eG re us) (h:eG<=t) :
    (∃ S:Int,1<=S/\S<=us.length*1000000+1/\dH (D*S) (iC us eG re t))/\re<=iC us eG re t/\iC us eG re t<=(B:Rat) :=
  QE o.gb o.ED o.len _ _ _ (dH.int (by have:=o.gb.D0; omega) eG) (ak.mpr h) o.Ic o.uh o.LP
def lB (en:Int->Option Rat) (rv:Rat) (w:Int):Rat:=max rv ((en w).getD rv)
def rV (us:List T3) (rv b:Rat) (len sh:Int):List T3:=(us.filter fun u=>decide (rv<u.2.1))++[(b,b+(len:Rat) / (sh:Rat),sh)]
end Sw
namespace L2
open PySem PySem.Spec PyProof.Rows
def JH (K:ai) (a:Addr):It :=
  ⟨fun i H=>∃ xs x,gR K H a xs/\xs[i]? = some x,
   fun i H y H'=>∃ p x,y = .ref p/\H p=none/\(∀ xs,gR K H a xs->xs[i]? = some x)/\H'=aQ H p (.tup [.int ((i+1:Nat):Int),x]),
   fun i H=>∃ xs,gR K H a xs/\xs.length=i⟩
section
variable {X:Cx}
def yg (K:ai) (ta:TA):TI:=fun σ H R=>ta σ H fun vs H1=>∃ a,vs = [.ref a]/\(∃ xs,gR K H1 a xs)/\R (JH K a) H1
end
section
variable {X:Cx}
def EZ (K:ai) (a:Addr) (xs:List V):It :=
 ⟨fun i H=>gR K H a xs/\i<xs.length,fun i H x H'=>H'=H/\xs.reverse[i]? = some x,fun i H=>gR K H a xs/\xs.length=i⟩
theorem W3 {P:Program} {w:World} {K:ai} {tg:Expr} (a it:Addr) (xs:List V) (n:Nat) (hn:xs.length=n):wo P w K tg (EZ K a xs) [it] it (fun i h=>h.IsRevIter it a ((n:Int)-1-(i:Nat))) where
 mem:=by simp
 obj:=fun i h st b hb=>by
  have e:b=it:=by simpa using hb
  subst e
  obtain ⟨o,h1,h2,h3⟩:=st
  exact ⟨o,h1,fun v z=>by rw [h3] at z; cases z⟩
 keep:=fun i h h' st k=>by
  obtain ⟨o,h1,h2,h3⟩:=st
  exact ⟨o,k it (by simp) o h1,h2,h3⟩
 item:=by
  intro X hP hw hK hc i ao s σ H E I hf st hg
  subst hP hw hK
  obtain ⟨f0,f1,f2,f3,f4,f5⟩:=hf it (by simp)
  obtain ⟨hq,jx⟩:=hg
  obtain ⟨dJ,rv,p,hz⟩:=I.list hq
  have hl:=rv.length
  have ej:((n:Int)-1-(i:Nat))=((n-1-i:Nat):Int):=by omega
  rw [ej] at st
  have hj:n-1-i<xs.length:=by omega
  obtain ⟨u,hu,ru⟩:=rv.get (au hj)
  refine wpAny_pyNext_rev_item st p.isList (x:=u) (by simpa using hu) fun h' AX sb=>?_
  have I1:Inv X ao σ H { s with heap:=h' }:=I.turned (t':=s.toks) (fun b o hb e=>sb.extBut b o hb e) f0 f1 f3 f4 f5
  have wU:h'.IsRevIter it a ((n:Int)-1-((i+1:Nat):Int)):=by
   have:((n:Int)-1-((i+1:Nat):Int))=((n-1-i:Nat):Int)-1:=by omega
   rw [this]; exact AX
  obtain ⟨o,o1,o2,o3⟩:=id wU
  refine ⟨u,rfl,yb (s:={ s with heap:=h' }) o1 o2 o3 (by decide) ⟨xs[n-1-i],H,I1,ru,⟨rfl,?_⟩,wU,fun b hb=>(hf b hb).1⟩⟩
  rw [List.getElem?_reverse (by omega),hn]
  exact au hj
 done:=by
  intro X hP hw hK hc i ao s σ H E I hf st hg
  subst hP hw hK
  obtain ⟨f0,f1,f2,f3,f4,f5⟩:=hf it (by simp)
  obtain ⟨hq,he⟩:=hg
  have ej:((n:Int)-1-(i:Nat)) = -1:=by omega
  rw [ej] at st
  exact wpAny_pyNext_rev_end (I.ok.hd hc) st fun h' eb=>⟨rfl,I.turned (t':=s.toks) (fun b o hb e=>eb b o hb e) f0 f1 f3 f4 f5⟩
 self:=fun _ _ _ _ _ st h=>wpAny_pyIter_revIter st h
def C8 (K:ai) (ta:TA):TI:=fun σ H R=>ta σ H fun vs H1=>∃ a xs,vs = [.ref a]/\gR K H1 a xs/\R (EZ K a xs) H1
theorem YS (K:ai) (hK:X.K=K) {tg l:Expr} {ta:TA} {p pos:Pos} (hg:Gl X "reversed") (hm:X.mg "reversed" = none) (ha:PA X [l] ta) (hs:starEach [l] X.env = [(false,eval l X.env)]:=by rfl) :
    PI X tg (.Call (.Name "reversed" p) [l] [] pos) (C8 K ta):=by
  subst hK
  intro ao s σ H R I h
  refine Call_ (DQ I hg hm boot_reversed (dB (fM (ha pos ao s σ H _ I h) fun us s1 ⟨vs,H1,I1,r1,q1⟩=>?_) hs rfl))
  obtain ⟨a,xs,rfl,hq,q⟩:=q1
  obtain ⟨u,rfl,r⟩:=dw.one r1
  cases r
  obtain ⟨dJ,rv,p,hz⟩:=I1.list hq
  refine call_reversed_list p.isList ?_
  have wC:(s1.heap.push (revObj a ((dJ.toArray.size:Int)-1))).IsRevIter s1.heap.objs.size a ((dJ.toArray.size:Int)-1):=⟨_,Heap.get?_push_size _ rfl,rfl,rfl⟩
  refine wpAny_pyIter_revIter wC ?_
  have hl:=rv.length
  refine ⟨s1.heap.objs.size,[s1.heap.objs.size],_,_,H1,rfl,I1.kept (t':=s1.toks) fun b o e=>Heap.get?_push_of_some _ e,W3 a _ xs dJ.toArray.size (by simp; exact hl),?_,fun b hb=>?_,q⟩
  · show Heap.IsRevIter _ _ _ ((dJ.toArray.size:Int)-1-((0:Nat):Int))
    have:((dJ.toArray.size:Int)-1-((0:Nat):Int))=(dJ.toArray.size:Int)-1:=by omega
    rw [this]; exact wC
  · have e:b=s1.heap.objs.size:=by simpa using hb
    subst e
    exact I1.wA (av _) (I1.eW.fresh (av _))
end
theorem XQ {K:ai} {a:Addr} {xs:List V} {g:TG} {tb:TS} {D:Ends} {σ:St} {H:Hp} (Pv:Nat->St->Hp->Prop) (h0:Pv 0 σ H) (hl:∀ i σ H,i<=xs.length->Pv i σ H->gR K H a xs)
    (hs:∀ i x σ H,xs.reverse[i]? = some x->Pv i σ H->g x σ H fun σ2 H2=>tb { D with nx:=Pv (i+1),ct:=Pv (i+1),bk:=D.nx } σ2 H2) (hd:∀ σ H,Pv xs.length σ H->D.nx σ H) :
    ∃ W:Nat->Nat->St->Hp->Prop,(∃ m,W 0 m σ H)/\∀ i m σ H,W i m σ H ->
      ((EZ K a xs).stop i H/\D.nx σ H)\/((EZ K a xs).go i H/\∃ N:St->Hp->Prop,(∀ σ' H',N σ' H'->∃ m',m' < m/\W (i+1) m' σ' H')/\∀ x H',(EZ K a xs).A5 i H x H'->g x σ H' fun σ2 H2=>tb { D with nx:=N,ct:=N,bk:=D.nx } σ2 H2):=by
  refine ⟨fun i m σ H=>m=xs.length-i/\i<=xs.length/\Pv i σ H,⟨xs.length,by simp,bR _,h0⟩,?_⟩
  rintro i m σ H ⟨rfl,hi,p⟩
  have q:=hl i σ H hi p
  by_cases jx:i<xs.length
  · refine .inr ⟨⟨q,jx⟩,Pv (i+1),fun σ' H' p'=>⟨xs.length-(i+1),by omega,rfl,jx,p'⟩,fun y H' z=>?_⟩
    obtain ⟨rfl,hx⟩:=z
    exact hs i y σ _ hx p
  · have e:i=xs.length:=by omega
    subst e
    exact .inl ⟨⟨q,rfl⟩,hd σ H p⟩
end L2
namespace L2
end L2
namespace L2
open PySem PySem.Spec PyProof.Rows
def SD (H:Hp) (a:Addr) (y d:V) (v:V) (H':Hp):Prop:=∃ kvs k,H a=some (.dK kvs)/\y=kV k/\kvs.length<sizeLine/\((iF kvs k=some v/\H'=H)\/(iF kvs k=none/\v=d/\H'=aQ H a (.dK (gv kvs k d))))
section
variable {X:Cx} {ao:List (Addr×Obj)} {σ:St} {H H':Hp} {s:Shared} {a:Addr} {y d v:V} {u r:Value} {A:Around} {E:Value->Shared->Prop}
end
def G4 (td ty tx:TE):TE:=fun σ H Q=>td σ H fun x H1=>∃ a,x = .ref a/\HR H1 a/\ty σ H1 fun y H2=>tx σ H2 fun z H3=>∃ v H4,SD H3 a y z v H4/\Q v H4
section
variable {X:Cx} {o e f:Expr} {td ty tx:TE} {ku jt:Pos}
end
end L2
namespace Sw
open L2
def ov (low high:Rat) (u:T3):Rat:=if u.2.1<=low then 0 else if high<=u.1 then 0 else (if u.2.1<=high then u.2.1 else high)-(if low<=u.1 then u.1 else low)
theorem Ph:∀ (l:List Rat) (d:Rat),l.foldl min d<=d/\∀ x∈l,l.foldl min d<=x
 | [],d=>⟨by show d<=d; grind,fun x h=>absurd h aR⟩
 | q :: r,d=>by
  obtain ⟨h1,h2⟩:=Ph r (min d q)
  have hm:min d q<=d/\min d q<=q:=by rw [dO]; split <;> constructor <;> grind
  refine ⟨by rw [k7]; grind,fun x hx=>?_⟩
  rw [k7]
  rcases aM.mp hx with e | e
  ·subst e; grind
  ·exact h2 x e
end Sw
namespace Sw
open L2
end Sw
namespace Sw
open L2
end Sw
namespace L2
open PySem PySem.Spec PyProof.Rows
section
variable {X:Cx}
end
abbrev D2:=Int×Int
def d2 (g:D2):List V:=[.int g.1,.int g.2]
theorem Row.item {H:Hp} {l:Addr} {ps:List Addr} {qs:List Q4} (R:Row H l ps qs) {i:Int} (h0:0<=i) (h1:i<qs.length):∃ p q,uH (ps.map V.ref) i=some (.ref p)/\qs[i.toNat]? = some q/\H p=some (.tup (q4 q)):=by
 have len:=R.r.len
 have hp:ps[i.toNat]? = some (ps[i.toNat]'(by omega)):=au _
 obtain ⟨q,h2,h3⟩:=R.r.get hp
 have:=Aa (xs:=ps.map V.ref) (j:=i.toNat) (v:=V.ref (ps[i.toNat]'(by omega))) (by rw [bh,hp]; rfl)
 rw [mY h0] at this
 exact ⟨_,q,this,h2,h3⟩
end L2
namespace Sw
open L2
end Sw
namespace L2
open PySem PySem.Spec PyProof.Rows
theorem V9 {lo:Int} {n:Nat} {g:TG} {tc:TT} {te:TE} {D:Addr} {τ:St} {H:Hp} {Q:VK} (Pv:Nat->St->Hp->Prop) (h0:Pv 0 τ H)
    (hs:∀ i τ H,i<n->Pv i τ H->g (.int (lo+i)) τ H fun τ2 H3=>tc τ2 H3 fun b H4=>if b=true then te τ2 H4 fun y H5=>∃ ys,H5 D=some (.lst ys)/\ys.length<sizeLine/\Pv (i+1) τ2 (aQ H5 D (.lst (ys++[y]))) else Pv (i+1) τ2 H4)
    (hd:∀ τ H,Pv n τ H->Q (.ref D) H):jz (Bd lo n) g tc te D τ H Q:=by
  refine ⟨fun i m τ H=>m=n-i/\i<=n/\Pv i τ H,⟨n,by simp,bR _,h0⟩,?_⟩
  rintro i m τ H ⟨rfl,hi,p⟩
  by_cases jx:i<n
  · refine .inr ⟨jx,Pv (i+1),fun τ' H' p'=>⟨n-(i+1),by omega,rfl,jx,p'⟩,fun x H' y=>?_⟩
    obtain ⟨e,y⟩:=y
    subst e y
    exact hs i τ _ jx p
  · have e:i=n:=by omega
    subst e
    exact .inl ⟨av _,hd τ H p⟩
section
variable {X:Cx}
theorem XR {i0:Nat} {y:Str} {py yH:Pos} {ng cY fO:Expr} {mD:List Expr} {scope:Scope} {pos:Pos} {cl:List (Str×Addr)} {ts:List Str} {fr:List (Str×Nat)} {wi:TI} {g:TG} {tc:TT} {te:TE} (jj:X.calm=true)
    (kF:closureFor scope X.env=pure cl) (lF:∀ y∈scope.names,y.2≠.cell) (gx:scope.kind = .function) (i5:∀ y∈scope.names,y.2 = .local->scope.names.lookup y.1=some .local)
    (nG:∀ x c,cl.lookup x=some c->X.env.cells.lookup x=some c)
    (kG:∀ x,((relabel scope X.env).names.lookup x=some .cell\/(relabel scope X.env).names.lookup x=some .free)->∃ c,cl.lookup x=some c) (qy:nO X (relabel scope X.env) fr)
    (hi:PI X cY fO wi) (hg:∀ fp s H,PG (mW X scope cl (ts++fr.map (·.1)) fp s H) cY g) (hc:∀ fp s H,sI (mW X scope cl (ts++fr.map (·.1)) fp s H) mD tc)
    (he:∀ fp s H,PE (mW X scope cl (ts++fr.map (·.1)) fp s H) ng te) (K3:swapsWith (.ListComp ng [⟨cY,fO,mD,0⟩] scope pos) (some (.Name y py)) yH.line X.env=pure true) (hN:X.N.Nodup) (KJ:X.N[i0]? = some y) (hy:Loc X.env.scope y)
    (hs:∀ x,foldedSetIterable fO X.env x=pure x:=by intro _; rfl) (hf:X.fn y=true\/X.env.scope.names.lookup y=some .local:=by first | exact .inl rfl | exact .inr rfl | assumption) :
    PS X (.Assign [.Name y py] (.ListComp ng [⟨cY,fO,mD,0⟩] scope pos) yH) (ny (nJ ts.length fr wi g tc te) (nF i0)):=by
  intro ao s σ H D I h
  have h:nJ ts.length fr wi g tc te σ H (fun x H1=>D.nx (σ.set i0 (some x)) H1):=h
  rw [exec_Assign_Name_used _ _ _ _ K3]
  refine wpAny_bind (wpAny_standAt (wpAny_bind ?_))
  show wpAny _ _ (do let _ <- comprehension (.ListComp ng [⟨cY,fO,mD,0⟩] scope pos) scope X.env _ (newList []) false (eval fO X.env) (some (assign (.Name y py) X.env))) _ _ s
  refine wpAny_bind (wpAny_mono (wpAny_comprehension_free (use:=some (assign (.Name y py) X.env)) (Q:=fun _ s'=>SP X ao D .next s') rfl hs kF gx i5 (fM (hi ao s σ H _ I h) fun xv s1 h1=>fM h1 fun Gk s2 h2=>?_)) (fun _ s' hq=>wpAny_pure (wpAny_pure hq)) fun _ _ e=>e)
  obtain ⟨it,fp,tn,J,H2,rfl,I2,T,wU,f2,hR⟩:=h2
  have D0:H2 s2.heap.objs.size=none:=I2.eW.fresh (av _)
  obtain ⟨W,⟨m0,w0⟩,pN⟩:=hR s2.heap.objs.size D0
  refine wpAny_newObj_type (wpAny_newFunctionEnv lF (by intro y hy; simp at hy) (fun h₁ pX uN=>?_) gx)
  dsimp only at pX uN ⊢
  have I3:Inv X ao σ (aQ H2 s2.heap.objs.size (.lst [])) { s2 with heap:=s2.heap.push { cls:=.type "list", dict:=none,data:=.seq ([]:List Value).toArray } } :=
    I2.laid (t':=s2.toks) (fun _ _ q=>Heap.get?_push_of_some _ q) (av _) ⟨bR _,[],0,.nil,Heap.get?_push_size _ rfl⟩
  have BH:∀ b o,s2.heap.get? b=some o->(s2.heap.push { cls:=.type "list", dict:=none,data:=.seq ([]:List Value).toArray }).get? b=some o:=fun b o q=>Heap.get?_push_of_some _ q
  have AY:(s2.heap.push { cls:=.type "list", dict:=none,data:=.seq ([]:List Value).toArray }).objs.size=s2.heap.objs.size+1:=Heap.size_push ..
  generalize s2.heap.push { cls:=.type "list", dict:=none,data:=.seq ([]:List Value).toArray } = gU at pX uN I3 BH AY ⊢
  have kp:∀ b o,gU.get? b=some o->h₁.get? b=some o:=fun b o e=>uN.extBut b o (bL (Heap.lt_size e)) (Heap.get?_push_of_some _ e)
  have wz:∀ b∈fp,b<s2.heap.objs.size:=fun b hb=>by
    obtain ⟨o,e,_⟩:=T.obj _ _ wU b hb
    exact Heap.lt_size e
  have x9:∀ b∈fp,(aQ H2 s2.heap.objs.size (.lst [])) b=none:=fun b hb=>by rw [c8 (bL (wz b hb))]; exact (f2 b hb).1
  have f3:∀ b∈fp,l7 X ao (aQ H2 s2.heap.objs.size (.lst [])) b/\b<gU.objs.size:=fun b hb=>⟨⟨x9 b hb,(f2 b hb).2⟩,by rw [AY]; exact oY (wz b hb)⟩
  have I4:=QB (ts:=ts) (t':=s2.toks+([]:List (Str×Value)).length) I3 gx nG kG qy f3 pX kp
  have BY:tn 0 h₁:=T.keep _ _ _ wU fun b hb o e=>kp b o (BH b o e)
  have tG:codeAny (model X.prog X.w) X.A (.compLoop (.ListComp ng [⟨cY,fO,mD,0⟩] scope pos) 0 (.ref it) (.ref s2.heap.objs.size) (compEnvC scope cl gU.objs.size X.env))
      (compPost (model X.prog X.w) X.A X.xe (some (assign (.Name y py) X.env)) (fun _ s'=>SP X ao D .next s') (.ref s2.heap.objs.size) gU.objs.size) { s2 with heap:=h₁,toks:=s2.toks+([]:List (Str×Value)).length }:=by
    refine Ml (fun n s'=>∃ i τ H',Inv (mW X scope cl (ts++fr.map (·.1)) fp { s2 with heap:=gU } (aQ H2 s2.heap.objs.size (.lst []))) [] τ H' s'/\tn i s'.heap/\(∀ b∈fp,H' b=none)/\W i n τ H') ?_ m0 ⟨0,_,_,I4,BY,x9,w0⟩
    rintro n s5 ⟨i,τ,H5,I5,xy,zQ,w5⟩
    have lT:∀ {H':Hp},(∀ b∈fp,H' b=none)->∀ b∈fp,l7 (mW X scope cl (ts++fr.map (·.1)) fp { s2 with heap:=gU } (aQ H2 s2.heap.objs.size (.lst []))) [] H' b :=
      fun hn b hb=>⟨hn b hb,(I5.ok.Bu b hb).1,I5.ok.uI b hb,.inl hb,(I5.ok.Bu b hb).2,fun p hp=>absurd (show p∈([]:List (Addr×Obj)) from hp) (by simp)⟩
    rcases pN i n τ H5 w5 with ⟨stop,qn⟩ | ⟨go,Nn,hN,step⟩
    · refine fM (T.done (mW X scope cl (ts++fr.map (·.1)) fp { s2 with heap:=gU } (aQ H2 s2.heap.objs.size (.lst []))) rfl rfl rfl jj i [] s5 τ H5 _ I5 (lT zQ) xy stop) fun r s6 ⟨hr,I6⟩=>?_
      subst hr
      have ug:∀ b o,gU.get? b=some o->b≠gU.objs.size:=fun b o e=>bL (Heap.lt_size e)
      have I7:Inv X ao σ H5 s6:=by
        refine I3.vn (s':=s6) (ch:=fp) I6.os ⟨fun b o e n hb hx=>I6.base.keep b o e n hb hx,fun b o e n hb hx=>I6.base.slot b o e n hb hx,I6.base.free,fun b o e hx=>I6.base.there b o e hx,I6.base.pM,I6.base.nW,I6.base.pL⟩ I6.eW I6.bare (fun b hb=>?_)
        exact ⟨(f2 b hb).2.2.2.1,(f2 b hb).2.1,(f2 b hb).2.2.2.2.1,(f2 b hb).2.2.2.2.2⟩
      have lC:X.env.locals≠gU.objs.size:=by
        obtain ⟨_,⟨o,_,_,ho,_⟩,_⟩:=I3.loc
        exact ug _ o ho
      have cC:∀ x c,X.env.cells.lookup x=some c->c≠gU.objs.size:=fun x c e=>by
        obtain ⟨v,o,ho,_⟩:=I3.cell x c e
        exact ug _ o ho
      have fC:H5 gU.objs.size=none:=I6.free
      obtain ⟨m,hn,_⟩:=I6.loc
      show wpAny _ _ (assign (.Name y py) X.env (.ref s2.heap.objs.size)) _ _ _
      refine wpAny_assign_Name (PY I7 hN KJ hy (v:=.ref s2.heap.objs.size) rfl (fun s8 I8 Uq=>?_) hf)
      obtain ⟨al,K0,TW⟩:=Uq
      have SW:gU.objs.size≠al:=by
        rcases TW with z | z
        · rw [z]; exact dI lC
        · exact dI (cC _ _ z)
      have K0:Heap.SameBut al s6.heap s8.heap:=K0
      have Uf:s6.heap.Ns gU.objs.size m:=hn
      refine ⟨m,Uf.sameBut K0 SW,fun h' zX=>⟨σ.set i0 (some (.ref s2.heap.objs.size)),H5,?_,qn⟩⟩
      have zX:Heap.SameBut gU.objs.size s8.heap h':=zX
      refine I8.vn (s':={ s8 with heap:=h' }) (ch:=[gU.objs.size]) rfl ⟨fun b o e n hb hx=>?_,fun b o e n hb hx=>?_,fun b o e n hx=>n,fun b o e hx=>?_,fun _ _ q=>q,fun _ _ _ q=>q,fun b ps q=>⟨#[],by rw [q]; simp⟩⟩ (fun b ob e=>?_) I8.bare (fun b hb=>?_)
      · exact (zX.2 b (fun z=>hx (by simp [z]))).trans e
      · exact ⟨o.slots,(zX.2 b (fun z=>hx (by simp [z]))).trans e⟩
      · exact ⟨o,(zX.2 b (fun z=>hx (by simp [z]))).trans e⟩
      · refine (I8.eW b ob e).nZ (fun c v hc q=>(zX.2 c ?_).trans q) (fun _ q=>q) fun _ _ q=>q
        intro z
        rcases hc with w | w
        · rw [<- w,z,fC] at e; cases e
        · rw [z,fC] at w; cases w
      · have z:b=gU.objs.size:=by simpa using hb
        subst z
        refine ⟨.inr (cK (cK I2.sz (by rw [AY]; exact eV _)) (av _)),dI lC,cC,fun p hp e=>?_⟩
        obtain ⟨q1,_⟩:=I3.pin p hp
        exact ug _ _ q1 e
    · refine fM (T.item (mW X scope cl (ts++fr.map (·.1)) fp { s2 with heap:=gU } (aQ H2 s2.heap.objs.size (.lst []))) rfl rfl rfl jj i [] s5 τ H5 _ I5 (lT zQ) xy go) fun r s6 ⟨u,hr,h6⟩=>?_
      subst hr
      refine fM h6 fun _ s7 ⟨x,H7,I7,r7,y7,yL,Fx⟩=>?_
      have EY:=I7.pinned (lT Fx) (T.obj _ _ yL)
      refine wpAny_mono (hg fp _ _ _ s7 τ H7 x u _ EY r7 (step x H7 y7)) (fun _ s8 ⟨τ8,H8,I8,q8⟩=>?_) fun _ _ z=>bV z
      have again:∀ {τ9:St} {H9:Hp} {s9:Shared},Inv (mW X scope cl (ts++fr.map (·.1)) fp { s2 with heap:=gU } (aQ H2 s2.heap.objs.size (.lst []))) ([]++DR fp s7.heap) τ9 H9 s9->Nn τ9 H9 ->
          ∃ m,m<n/\∃ i τ H',Inv (mW X scope cl (ts++fr.map (·.1)) fp { s2 with heap:=gU } (aQ H2 s2.heap.objs.size (.lst []))) [] τ H' s9/\tn i s9.heap/\(∀ b∈fp,H' b=none)/\W i m τ H':=fun {τ9 H9 s9} I9 n9=>by
        obtain ⟨m',hm,w9⟩:=hN τ9 H9 n9
        refine ⟨m',hm,i+1,τ9,H9,I9.jI,T.keep _ _ _ yL fun b hb o e=>(I9.pin (b,o) (bA _ (bA _ (Cb hb e)))).1,fun b hb=>?_,w9⟩
        obtain ⟨o,e,d⟩:=T.obj _ _ yL b hb
        exact (I9.pin (b,o) (bA _ (bA _ (Cb hb e)))).2.1
      refine wpAny_mono (hc fp _ _ _ s8 τ8 H8 _ I8 q8) (fun ok s9 ⟨H9,I9,q9⟩=>?_) fun _ _ z=>bV z
      cases ok with
      | false=>exact again I9 q9
      | true =>
        refine wpAny_mono (he fp _ _ _ s9 τ8 H9 _ I9 q9) (fun y lH ⟨v,nQ,EW,rv,ys,hD,hl,qN⟩=>?_) fun _ _ z=>bV z
        refine wpAny_mono (wW (X:=mW X scope cl (ts++fr.map (·.1)) fp { s2 with heap:=gU } (aQ H2 s2.heap.objs.size (.lst []))) _ lH τ8 nQ (.ref s2.heap.objs.size) [v] (.ref s2.heap.objs.size) [y] (fun _ H=>Nn τ8 H) EW rfl (.cons rv .nil) ⟨_,ys,v,rfl,rfl,hD,hl,qN⟩) (fun _ vF ⟨_,xg,EX,_,GJ⟩=>again EX GJ) fun _ _ z=>bV z
  exact codeAny_compStart_list tG (T.self X.A 0 _ _ _ BY tG)
theorem HC {i0:Nat} {y:Str} {py yH:Pos} {ng cY fO:Expr} {mD:List Expr} {scope:Scope} {pos:Pos} {cl:List (Str×Addr)} (ts:List Str) (fr:List (Str×Nat)) {wi:TI} {g:TG} {tc:TT} {te:TE} (jj:X.calm=true)
    (kF:closureFor scope X.env=pure cl) (lF:∀ y∈scope.names,y.2≠.cell) (gx:scope.kind = .function) (i5:∀ y∈scope.names,y.2 = .local->scope.names.lookup y.1=some .local)
    (nG:uw X.env cl) (kG:sW (relabel scope X.env).names cl=true) (qy:nO X (relabel scope X.env) fr)
    (hi:PI X cY fO wi) (hg:∀ fp s H,PG (mW X scope cl (ts++fr.map (·.1)) fp s H) cY g) (hc:∀ fp s H,sI (mW X scope cl (ts++fr.map (·.1)) fp s H) mD tc)
    (he:∀ fp s H,PE (mW X scope cl (ts++fr.map (·.1)) fp s H) ng te)
    (K3:swapsWith (.ListComp ng [⟨cY,fO,mD,0⟩] scope pos) (some (.Name y py)) yH.line X.env=pure true) (hN:X.N.Nodup) (KJ:X.N[i0]? = some y) (hy:Loc X.env.scope y)
    (hs:∀ x,foldedSetIterable fO X.env x=pure x:=by intro _; rfl) (hf:X.fn y=true\/X.env.scope.names.lookup y=some .local:=by first | exact .inl rfl | exact .inr rfl | assumption) :
    PS X (.Assign [.Name y py] (.ListComp ng [⟨cY,fO,mD,0⟩] scope pos) yH) (ny (nJ ts.length fr wi g tc te) (nF i0)) :=
  XR jj kF lF gx i5 nG.get (fun x q=>Mt kG x q) qy hi hg hc he K3 hN KJ hy hs hf
end
section
variable {X:Cx}
end
section
variable {X:Cx} {ao:List (Addr×Obj)} {σ:St} {H:Hp} {s:Shared} {a:Addr} {kvs:List (Key×V)} {o:Obj}
end
section
variable {X:Cx} {tg:Expr}
end
section
variable {P:Program} {w:World} {K:ai} {mg:Str->Option Value} {base:Heap} {CX:pT} {C:Addr} {m dS:Str} {st:Stmt} {N ps:List Str} {k:Nat} {sp:Sp}
end
section
variable {X:Cx} {CX:pT} {k:Nat} {C:Addr} {ps:List Str} {sp:Sp} {Ek:XH} {x m:Str} {p pos ku:Pos} {e:Expr} {es:List Expr} {t:TA}
end
section
variable {X:Cx}
theorem WA (K:ai) (h:X.K=K):qm X (compareOp .NotIn) (OP K true):=h ▸ VI
end
abbrev Nm:=List (Str×Int)
def kvsOf (nm:Nm):List (Key×V):=nm.map fun x=>((mV x.1:Key),V.int x.2)
def GU (nm:Nm) (x:Str):Option Int:=(nm.find? fun p=>decide (p.1=x)).map (·.2)
structure Mb (C:Addr) (H:Hp) (p OJ:Addr) (nm:Nm):Prop where
 ex:∃ dx fs,H p=some (.ins C dx fs)/\fs.lookup ("shares" : Str)=some (.ref OJ)/\(∀ m:Str,¬ m = "shares" -> fs.lookup m=none)/\fs.length<900
 hs:H OJ=some (.dK (kvsOf nm))
structure EQ where
 p:Addr
 pm:Addr
 ps:Addr
 pt:Addr
 pg:Addr
section
variable {C Cm:Addr} {H:Hp} {a:EQ} {most:Int} {nm US:Nm} {tg gs tg' ZH:Str->Option Rat} {ck:Rat} {ch:V} {N N':Nat} {k:List (Key×V)}
end
structure Iv (nm:Nm) (tg gs:Str->Option Rat) (ck:Rat) (D:Int) (n:Nat):Prop where
 d0:0<D
 dz:Sw.Sz (21*n+1) D
 cg:Sw.dH D ck
 c0:0<=ck
 cB:ck<=((n*2000000:Int):Rat)
 all:∀ x s,GU nm x=some s->1<=s/\s<=1000000/\∃ t g,tg x=some t/\gs x=some g/\Sw.dH D t/\Sw.dH D g/\0<=t/\0<=g/\g<=((1000000:Int):Rat)/\t<=ck+g
structure Hd where
 C:Addr
 i:Option Nat
 th:TS
section
variable {P:Program} {w:World} {X:Cx} {C':Addr} {x:Str} {np KS pos:Pos} {body G0:List Stmt} {b0:Stmt} {tb:XH->TS} {th:TS} {h0:ExceptHandler} {fK:List ExceptHandler} {hs:List Hd}
end
end L2
namespace Sw
abbrev F4:=Int×T3
def pW (mo ma:Rat) (f:F4):Bool:=!decide (mo<(f.1:Rat)) && mE ma f.2
def cU (fs:List F4) (mo ma:Rat):List Nat:=(aD fs.length).filter fun i=>match fs[i]? with | some f=>pW mo ma f | none=>false
def shr (fs:List F4) (i:Nat):Int:=((fs[i]?).map fun f=>f.2.2.2).getD 0
def zP (fs:List F4) (i:Nat):Rat:=((fs[i]?).map fun f=>f.2.2.1).getD 0
def fZ (fs:List F4) (ps:List Nat):Int:=(ps.map (shr fs)).sum
def sV (fs:List F4) (mo:Rat):List Rat:=fs.filterMap fun f=>if mo<(f.1:Rat) then some (f.1:Rat) else none
def ni (fs:List F4) (mo ma:Rat):Rat:=mo+(dY ((cU fs mo ma).map (zP fs))-ma)*(fZ fs (cU fs mo ma):Rat)
def fH (fs:List F4) (mo ma:Rat):List Rat:=sV fs mo++(if cU fs mo ma = [] then [] else [ni fs mo ma])
abbrev qp:=Rat×Rat×List (Nat×Rat)
def qF (fs:List F4) (mo ma:Rat):List (Nat×Rat):=(cU fs mo ma).map fun i=>(i,(shr fs i:Rat) / (fZ fs (cU fs mo ma):Rat))
def cE (fs:List F4):Nat->Rat->Rat->List qp
 | 0,_,_=>[]
 | n+1,mo,ma =>
  if fH fs mo ma = [] then []
  else if cU fs mo ma = [] then cE fs n (dY (fH fs mo ma)) ma
  else (mo,dY (fH fs mo ma),qF fs mo ma) :: cE fs n (dY (fH fs mo ma)) (ma+(dY (fH fs mo ma)-mo) / (fZ fs (cU fs mo ma):Rat))
theorem iz (fs:List F4) (n:Nat) (mo ma:Rat):cE fs (n+1) mo ma=if fH fs mo ma = [] then [] else if cU fs mo ma = [] then cE fs n (dY (fH fs mo ma)) ma else (mo,dY (fH fs mo ma),qF fs mo ma) :: cE fs n (dY (fH fs mo ma)) (ma+(dY (fH fs mo ma)-mo) / (fZ fs (cU fs mo ma):Rat)):=rfl
def mu (fs:List F4) (mo ma:Rat):Nat:=(fs.filter fun f=>decide (mo<(f.1:Rat))).length+(fs.filter fun f=>decide (ma<f.2.2.1)).length
theorem BL (fs:List F4) (mo ma:Rat):mu fs mo ma<=2*fs.length:=by
 unfold mu
 have h1:=bG (fun f:F4=>decide (mo<(f.1:Rat))) fs
 have h2:=bG (fun f:F4=>decide (ma<f.2.2.1)) fs
 omega
theorem jm {fs:List F4} {mo ma:Rat} {i:Nat}:i∈cU fs mo ma↔∃ f,fs[i]? = some f/\pW mo ma f=true:=by
 unfold cU
 rw [cQ,bS]
 constructor
 ·rintro ⟨h1,h2⟩
  cases e:fs[i]? with
  | none=>rw [e] at h2; cases h2
  | some f=>rw [e] at h2; exact ⟨f,rfl,h2⟩
 ·rintro ⟨f,e,h⟩
  exact ⟨(aa.mp e).1,by rw [e]; exact h⟩
theorem iW {mo ma:Rat} {f:F4}:pW mo ma f=true↔((f.1:Rat)<=mo/\f.2.1<=ma/\ma<f.2.2.1):=by
 unfold pW mE
 simp only [iP,iG,decide_eq_false_iff_not,decide_eq_true_eq]
 constructor
 ·rintro ⟨a,b,c⟩; exact ⟨by grind,by grind,c⟩
 ·rintro ⟨a,b,c⟩; exact ⟨by grind,by grind,c⟩
theorem EH:∀ {l:List Int},(∀ x∈l,1<=x)->l≠[]->1<=l.sum
 | [],_,h=>absurd rfl h
 | [x],h,_=>by simpa using h x (by simp)
 | x :: y :: r,h,_=>by
  have a:=h x (by simp)
  have b:=EH (l:=y :: r) (fun z hz=>h z (aA _ hz)) (by simp)
  rw [eT]
  omega
theorem MV {M:Int}:∀ {l:List Int},(∀ x∈l,x<=M)->l.sum<=l.length*M
 | [],_=>by simp
 | x :: r,h=>by
  have a:=h x (by simp)
  have b:=MV (l:=r) fun z hz=>h z (aA _ hz)
  rw [eT,aE]
  have:((r.length+1:Nat):Int)*M=r.length*M+M:=by rw [Int.natCast_add,Int.add_mul]; simp
  omega
theorem kK {fs:List F4} {i:Nat} {f:F4} (h:fs[i]? = some f):shr fs i=f.2.2.2:=by unfold shr; rw [h]; rfl
theorem lO {fs:List F4} {i:Nat} {f:F4} (h:fs[i]? = some f):zP fs i=f.2.2.1:=by unfold zP; rw [h]; rfl
theorem DM {fs:List F4} {mo ma:Rat} (s1:∀ f∈fs,1<=f.2.2.2) (h:cU fs mo ma≠[]):1<=fZ fs (cU fs mo ma):=by
 refine EH (fun x hx=>?_) (by simpa using h)
 obtain ⟨i,hi,rfl⟩:=aP.mp hx
 obtain ⟨f,e,_⟩:=jm.mp hi
 rw [kK e]
 exact s1 f (aq e)
theorem oz (fs:List F4) (mo ma:Rat):(cU fs mo ma).length<=fs.length:=by
 have:=bG (fun i=>match fs[i]? with | some f=>pW mo ma f | none=>false) (aD fs.length)
 rw [dm] at this
 exact this
theorem YT {fs:List F4} {mo ma:Rat} {M:Int} (M0:0<=M) (s2:∀ f∈fs,f.2.2.2<=M):fZ fs (cU fs mo ma)<=fs.length*M:=by
 have h:=MV (M:=M) (l:=(cU fs mo ma).map (shr fs)) fun x hx=>by
  obtain ⟨i,hi,rfl⟩:=aP.mp hx
  obtain ⟨f,e,_⟩:=jm.mp hi
  rw [kK e]
  exact s2 f (aq e)
 rw [ae] at h
 have l:=oz fs mo ma
 have:((cU fs mo ma).length:Int)*M<=fs.length*M:=cu (by omega) M0
 unfold fZ
 omega
def gA (fs:List F4) (mo ma:Rat):Rat:=dY ((cU fs mo ma).map (zP fs))
theorem MB {fs:List F4} {mo ma:Rat} (h:cU fs mo ma≠[]):∃ f∈fs,pW mo ma f=true/\gA fs mo ma=f.2.2.1:=by
 have:=gJ (l:=(cU fs mo ma).map (zP fs)) (by simpa using h)
 obtain ⟨i,hi,e⟩:=aP.mp this
 obtain ⟨f,e1,e2⟩:=jm.mp hi
 exact ⟨f,aq e1,e2,by unfold gA; rw [<- e,lO e1]⟩
theorem ji {fs:List F4} {mo x:Rat}:x∈sV fs mo↔∃ f∈fs,mo<(f.1:Rat)/\x=(f.1:Rat):=by
 unfold sV
 rw [nB]
 constructor
 ·rintro ⟨f,hf,e⟩
  split at e
  ·rename_i h; exact ⟨f,hf,h,(bE e).symm⟩
  ·cases e
 ·rintro ⟨f,hf,h,rfl⟩
  exact ⟨f,hf,by rw [if_pos h]⟩
theorem DN {l:List Rat} {x:Rat} (h:x∈l):dY l<=x:=by
 cases l with
 | nil=>cases h
 | cons q r=>exact (Ph (q :: r) q).2 x h
structure sP (fs:List F4) (mo ma af zY:Rat):Prop where
 gt:mo<af
 ge:ma<=zY
 way:(∃ f∈fs,mo<(f.1:Rat)/\af=(f.1:Rat))\/(cU fs mo ma≠[]/\af=ni fs mo ma/\zY=gA fs mo ma/\∃ f∈fs,ma<f.2.2.1/\zY=f.2.2.1)
 le:cU fs mo ma≠[]->zY<=gA fs mo ma
theorem mT {fs:List F4} {mo ma af zY:Rat} (t:sP fs mo ma af zY):mu fs af zY < mu fs mo ma:=by
 have gt:=t.gt
 have ge:=t.ge
 have Lk:∀ f:F4,decide (af<(f.1:Rat))=true->decide (mo<(f.1:Rat))=true:=fun f h=>by
  simp only [decide_eq_true_eq] at h ⊢; grind
 have Ll:∀ f:F4,decide (zY < f.2.2.1)=true->decide (ma<f.2.2.1)=true:=fun f h=>by
  simp only [decide_eq_true_eq] at h ⊢; grind
 have mono:∀ {p q:F4->Bool} {l:List F4},(∀ f,q f=true->p f=true)->(l.filter q).length<=(l.filter p).length:=fun {p q l} h=>by
  induction l with
  | nil=>exact av _
  | cons z r ih =>
   have hz:=h z
   rw [aZ,aZ]
   cases e1:q z <;> cases e2:p z <;> simp_all <;> omega
 unfold mu
 rcases t.way with ⟨f,hf,h1,h2⟩ | ⟨_,_,_,f,hf,h1,h2⟩
 ·have a:=Hs (l:=fs) (p:=fun f=>decide (mo<(f.1:Rat))) (q:=fun f=>decide (af<(f.1:Rat))) (fun x _ h=>Lk x h) ⟨f,hf,decide_eq_true h1,by rw [h2]; simp only [decide_eq_false_iff_not]; grind⟩
  have b:=mono (l:=fs) (p:=fun f=>decide (ma<f.2.2.1)) (q:=fun f=>decide (zY < f.2.2.1)) Ll
  omega
 ·have a:=mono (l:=fs) (p:=fun f=>decide (mo<(f.1:Rat))) (q:=fun f=>decide (af<(f.1:Rat))) Lk
  have b:=Hs (l:=fs) (p:=fun f=>decide (ma<f.2.2.1)) (q:=fun f=>decide (zY < f.2.2.1)) (fun x _ h=>Ll x h) ⟨f,hf,decide_eq_true h1,by rw [h2]; simp only [decide_eq_false_iff_not]; grind⟩
  omega
theorem kW {fs:List F4} {mo ma:Rat} (h:cU fs mo ma = []) (hc:fH fs mo ma≠[]):sP fs mo ma (dY (fH fs mo ma)) ma:=by
 have m:=gJ hc
 have e:fH fs mo ma=sV fs mo:=by unfold fH; rw [if_pos h,bx]
 rw [e] at m ⊢
 obtain ⟨f,hf,h1,h2⟩:=ji.mp m
 exact ⟨by rw [h2]; exact h1,aB,.inl ⟨f,hf,h1,h2⟩,fun z=>absurd h z⟩
theorem Jx {fs:List F4} {mo ma:Rat} (h:cU fs mo ma≠[]):fH fs mo ma≠[]:=by
 unfold fH
 rw [if_neg h]
 simp
theorem oJ {fs:List F4} {mo ma:Rat} (s1:∀ f∈fs,1<=f.2.2.2) (h:cU fs mo ma≠[]) :
    sP fs mo ma (dY (fH fs mo ma)) (ma+(dY (fH fs mo ma)-mo) / (fZ fs (cU fs mo ma):Rat)):=by
  have m:=gJ (Jx h)
  have le:dY (fH fs mo ma)<=ni fs mo ma:=DN (by unfold fH; rw [if_neg h]; simp)
  have e:∀ x,x∈fH fs mo ma->x∈sV fs mo\/x=ni fs mo ma:=fun x hx=>by
    unfold fH at hx
    rw [if_neg h] at hx
    rcases aY.mp hx with z | z
    · exact .inl z
    · exact .inr (by simpa using z)
  have sp:=DM s1 h
  obtain ⟨f,hf,hb,he⟩:=MB h
  obtain ⟨_,_,hm⟩:=iW.mp hb
  rw [<- he] at hm
  have S0:(0:Rat)<(fZ fs (cU fs mo ma):Rat):=bJ (by omega)
  have ef:ni fs mo ma=mo+(gA fs mo ma-ma)*(fZ fs (cU fs mo ma):Rat):=rfl
  have Tu:mo<ni fs mo ma:=by
    rw [ef]
    have:=fG (show (0:Rat)<gA fs mo ma-ma by grind) S0
    grind
  generalize (fZ fs (cU fs mo ma):Rat)=S at S0 ef ⊢
  have gt:mo<dY (fH fs mo ma):=by
    rcases e _ m with z | z
    · obtain ⟨g,_,h1,h2⟩:=ji.mp z
      rw [h2]; exact h1
    · rw [z]; exact Tu
  have Tc:∀ x:Rat,0<=x->0<=x / S:=fun x hx=>by
    have:¬ x / S<0:=by rw [gG S0,gK]; grind
    grind
  have Te:∀ x:Rat,x<=(gA fs mo ma-ma)*S->x / S<=gA fs mo ma-ma:=fun x hx=>by
    have:¬ gA fs mo ma-ma<x / S:=by rw [mh S0]; grind
    grind
  generalize dY (fH fs mo ma)=af at m le gt ⊢
  have g1:=Tc (af-mo) (by grind)
  have g2:=Te (af-mo) (by grind)
  refine ⟨gt,by grind,?_,fun _=>by grind⟩
  rcases e _ m with z | z
  · exact .inl (by obtain ⟨g,hg,h1,h2⟩:=ji.mp z; exact ⟨g,hg,h1,h2⟩)
  · have e1:ma+(af-mo) / S=gA fs mo ma:=by
      rw [z,ef]
      have:S≠0:=by grind
      grind
    exact .inr ⟨h,z,e1,f,hf,by grind,by rw [e1]; exact he⟩
end Sw
namespace Sw
open L2
theorem YU {M:Int}:∀ {hs:List T3},(∀ u∈hs,u.2.2<=M)->h9 hs<=hs.length*M:=fun {hs} h=>by
 have:=MV (M:=M) (l:=hs.map fun u=>u.2.2) fun x hx=>by
  obtain ⟨u,hu,rfl⟩:=aP.mp hx
  exact h u hu
 rw [ae] at this
 exact this
theorem Ri {us:List T3} {D B M:Int} {t:Int} (gb:GB D B) (ok:∀ u∈us,o7 D B u) (M0:0<=M) (sM:∀ u∈us,u.2.2<=M):∀ (n:Nat) (mo re:Rat),dH D mo->dH D re->∃ S:Int,1<=S/\S<=us.length*M+1/\dH (D*S) (iu us (t:Rat) n mo re)
 | 0,mo,re,gm,gr=>⟨1,by decide,by have:=l8 (nS us.length) M0; omega,gr.more (by have:=gb.D0; omega) (by decide)⟩
 | n+1,mo,re,gm,gr=>by
  have D0:D≠0:=by have:=gb.D0; omega
  have z0:=l8 (nS us.length) M0
  unfold iu
  by_cases hn:fK us re = []
  ·rw [if_pos hn]
   exact ⟨1,by decide,by omega,gr.more D0 (by decide)⟩
  ·rw [if_neg hn]
   have eW:∀ u∈fK us re,o7 D B u:=fun u h=>ok u (jn h).1
   have hS:=Jk eW hn
   have hM:=YU (M:=M) (hs:=fK us re) fun u h=>sM u (jn h).1
   have hl:(fK us re).length<=us.length:=bG _ _
   have Ij:((fK us re).length:Int)*M<=us.length*M:=cu (by omega) M0
   obtain ⟨uf,Ex,ef⟩:=kE hn
   have gf:dH D (iq (fK us re)):=by rw [ef]; exact (eW uf Ex).e
   generalize iq (fK us re)=fv at gf ⊢
   generalize h9 (fK us re)=S at hS hM ⊢
   by_cases jx:(t:Rat)<mo+(fv-re)*(S:Rat)
   ·rw [if_pos jx]
    exact ⟨S,hS.1,by omega,(gr.more D0 (by omega)).add (((dH.int D0 t).sub gm).m9 D0 (by omega))⟩
   ·rw [if_neg jx]
    exact Ri (t:=t) gb ok M0 sM n (mo+(fv-re)*(S:Rat)) fv (gm.add ((gf.sub gr).mG S)) gf
structure Ti where
 eG:Int
 re:Rat
 us:List T3
 en:Int->Option Rat
def Ti.nil:Ti:=⟨0,0,[],fun _=>none⟩
def Ti.rv (s:Ti) (q:Q4):Rat:=iC s.us s.eG s.re q.1
def Ti.iR (s:Ti) (q:Q4):Rat:=lB s.en (s.rv q) q.2.1
def Ti.fin (s:Ti) (q:Q4):Rat:=s.iR q+(q.2.2.1:Rat) / (q.2.2.2:Rat)
def Ti.ly (s:Ti) (q:Q4):Ti:=⟨q.1,s.rv q,rV s.us (s.rv q) (s.iR q) q.2.2.1 q.2.2.2,gw s.en q.2.1 (s.fin q)⟩
def Ti.after (s:Ti):List Q4->Ti
 | []=>s
 | q :: r=>(s.ly q).after r
def Ti.tags (s:Ti):List Q4->List (Rat×Rat)
 | []=>[]
 | q :: r=>(s.iR q,s.fin q) :: (s.ly q).tags r
theorem Ti.e8:∀ {s:Ti} {l:List Q4} {q:Q4},s.after (l++[q])=(s.after l).ly q
 | _,[],_=>rfl
 | s,x :: r,q=>by
  show (s.ly x).after (r++[q]) = _
  rw [Ti.e8]; rfl
theorem Ti.jH:∀ {s:Ti} {l:List Q4} {q:Q4},s.tags (l++[q])=s.tags l++[((s.after l).iR q,(s.after l).fin q)]
 | _,[],_=>rfl
 | s,x :: r,q=>by
  show _ :: (s.ly x).tags (r++[q]) = _
  rw [Ti.jH]; rfl
theorem Ti.dP:∀ {s:Ti} {l:List Q4},(s.tags l).length=l.length
 | _,[]=>rfl
 | s,x :: r=>by
  show ((s.ly x).tags r).length+1 = _
  rw [Ti.dP]; rfl
structure zG (n:Nat) (M:Int) (a c:Nat):Prop where
 M1:1<=M
 M2:M<=1000000
 n1:n<=60
 sA:n*M+1<2 ^ a
 sB:∃ b,a+b<=c/\M<2 ^ b
 all:c*n+80<=1500
 SV:c*n+a*n<=2000
theorem Fv:zG 16 1000000 24 44:=⟨by decide,by decide,by decide,by decide,⟨20,by decide,by decide⟩,by decide,by decide⟩
theorem sz_of {a:Nat} {x:Int} (h0:0<=x) (h:x<2 ^ a):Sz a x:=by
 unfold Sz
 have:((2 ^ a:Nat):Int) = 2 ^ a:=by rw [Int.natCast_pow]; rfl
 omega
structure kq (n:Nat) (M:Int) (c:Nat) (s:Ti) (k:Nat) (D:Int):Prop where
 ok:jr D (k*1000000) s.eG s.re s.us
 Fq:∀ w e,s.en w=some e->dH D e/\0<=e/\e<=((k*1000000:Int):Rat)
 dz:Sz (c*k+1) D
 sM:∀ u∈s.us,u.2.2<=M
 ln:s.us.length<=k
 kn:k<=n
def nU (M:Int) (q:Q4):Prop:=0<=q.1/\q.1<100000000000000/\1<=q.2.2.1/\q.2.2.1<=1000000/\1<=q.2.2.2/\q.2.2.2<=M
theorem kq.nil {n:Nat} {M:Int} {c:Nat}:kq n M c Ti.nil 0 1 :=
 ⟨⟨⟨by decide,Sw.Sz.one _,by decide,by decide⟩,⟨0,by decide +kernel⟩,by decide,by decide,fun u h=>absurd h aR,by decide,by decide,by decide⟩,(fun w e h=>by cases h),Sz.one _,fun u h=>absurd h aR,av _,bR _⟩
theorem kq.ly {n:Nat} {M:Int} {a c:Nat} {s:Ti} {k:Nat} {D:Int} {q:Q4} (F:zG n M a c) (r:kq n M c s k D) (hk:k<n) (p:nU M q) (hl:s.eG<=q.1) :
    ∃ D' j:Int,j≠0/\D'=D*j/\kq n M c (s.ly q) (k+1) D'/\dH D' (s.iR q)/\dH D' (s.fin q)/\0<=s.iR q/\s.iR q<s.fin q/\s.fin q<=(((k+1:Nat)*1000000:Int):Rat):=by
  obtain ⟨p0,p1,n1,n2,s1,s2⟩:=p
  have o:=r.ok
  have M1:=F.M1
  obtain ⟨S,S1,S2,gS⟩:=Ri (t:=q.1) o.gb o.ED (by omega) r.sM (s.us.length+1) s.eG s.re (dH.int (by have:=o.gb.D0; omega) s.eG) o.Ic
  obtain ⟨_,m1,m2⟩:=nj o hl
  have gS:dH (D*S) (s.rv q):=gS
  have m1:s.re<=s.rv q:=m1
  have m2:s.rv q<=((k*1000000:Int):Rat):=m2
  have D0:=o.gb.D0
  have uh:=o.uh
  have dn:D≠0:=by omega
  have sn:S≠0:=by omega
  have AV:q.2.2.2≠0:=by omega
  have zO:D*S≠0:=b5 dn sn
  have TH:dH (D*S) (s.iR q)/\0<=s.iR q/\s.iR q<=((k*1000000:Int):Rat):=by
    unfold Ti.iR lB
    cases e:s.en q.2.1 with
    | none =>
      show dH (D*S) (max (s.rv q) (s.rv q))/\0<=max (s.rv q) (s.rv q)/\max (s.rv q) (s.rv q)<=_
      rw [b6]
      simp only [ite_self]
      exact ⟨gS,by grind,m2⟩
    | some v =>
      have ev:=r.Fq q.2.1 v e
      show dH (D*S) (max (s.rv q) v)/\0<=max (s.rv q) v/\max (s.rv q) v<=_
      rw [b6]
      split
      · exact ⟨ev.1.more dn sn,ev.2.1,ev.2.2⟩
      · exact ⟨gS,by grind,m2⟩
  obtain ⟨gb,b0,bB⟩:=TH
  have OU:(0:Rat)<(q.2.2.2:Rat):=bJ (by omega)
  have x0:0<(q.2.2.1:Rat) / (q.2.2.2:Rat):=by
    rw [mh OU,gK]
    exact bJ (by omega)
  have x1:(q.2.2.1:Rat) / (q.2.2.2:Rat)<=((1000000:Int):Rat):=by
    have:¬ ((1000000:Int):Rat)<(q.2.2.1:Rat) / (q.2.2.2:Rat):=by
      rw [mh OU,<- aJ,dX]
      omega
    grind
  have eB:(((k+1:Nat)*1000000:Int):Rat)=((k*1000000:Int):Rat)+((1000000:Int):Rat):=by
    have:(((k+1:Nat):Int)*1000000:Int)=(k:Int)*1000000+1000000:=by omega
    rw [this,dh]
  have Z3:(0:Rat)<=((1000000:Int):Rat):=by decide
  have kb:(s.us.length:Int)*M<=n*M:=cu (by have:=r.ln; omega) (by omega)
  have zD:Sz (c*(k+1)+1) (D*S*q.2.2.2):=by
    obtain ⟨b,By,hb⟩:=F.sB
    have hS:Sz a S:=sz_of (by omega) (by have:=F.sA; omega)
    have Gd:Sz b q.2.2.2:=sz_of (by omega) (by omega)
    refine ((r.dz.mul hS).mul Gd).mono ?_
    rw [Nat.mul_add,Nat.mul_one]
    omega
  have Vk:c*(k+1)+1<=1500:=by
    have h1:=F.all
    have h2:c*(k+1)<=c*n:=fT c hk
    omega
  have ge:dH (D*S*q.2.2.2) (s.fin q):=(gb.more zO AV).add ((dH.int zO q.2.2.1).m9 zO AV)
  have ef:s.fin q=s.iR q+(q.2.2.1:Rat) / (q.2.2.2:Rat):=rfl
  have n6:=F.n1
  refine ⟨D*S*q.2.2.2,S*q.2.2.2,b5 sn AV,jU D S q.2.2.2,⟨⟨⟨eJ (eJ D0 (by omega)) (by omega),zD.mono Vk,by omega,by omega⟩,gS.more zO AV,?_,?_,fun u hu=>?_,?_,p0,?_⟩,fun w e he=>?_,zD,fun u hu=>?_,?_,hk⟩,gb.more zO AV,ge,b0,by rw [ef]; grind,by rw [ef,eB]; grind⟩
  · show 0<=s.rv q
    grind
  · show s.rv q<=_
    rw [eB]; grind
  · have hu:u∈(s.us.filter fun u=>decide (s.rv q<u.2.1))++[(s.iR q,s.iR q+(q.2.2.1:Rat) / (q.2.2.2:Rat),q.2.2.2)]:=hu
    rcases aY.mp hu with h | h
    · have t:=o.ED u (cQ.mp h).1
      have te:=t.eB
      exact ⟨(t.b.more dn sn).more zO AV,(t.e.more dn sn).more zO AV,t.b0,t.be,by rw [eB]; grind,t.s1,t.s2⟩
    · have:u=(s.iR q,s.iR q+(q.2.2.1:Rat) / (q.2.2.2:Rat),q.2.2.2):=by simpa using h
      subst this
      exact ⟨gb.more zO AV,ge,b0,by show s.iR q<=s.iR q+(q.2.2.1:Rat) / (q.2.2.2:Rat); grind,by show s.iR q+(q.2.2.1:Rat) / (q.2.2.2:Rat)<=_; rw [eB]; grind,s1,by have:=F.M2; show q.2.2.2<=1000000; omega⟩
  · show (rV s.us (s.rv q) (s.iR q) q.2.2.1 q.2.2.2).length<=100
    unfold rV
    have:=bG (fun u:Sw.T3=>decide (s.rv q<u.2.1)) s.us
    have:=r.ln
    rw [aO]
    simp only [aE,cy]
    omega
  · show q.1<1000000000000000
    omega
  · have he:gw s.en q.2.1 (s.fin q) w=some e:=he
    unfold gw at he
    split at he
    · cases he
      exact ⟨ge,by rw [ef]; grind,by rw [ef,eB]; grind⟩
    · have ev:=r.Fq w e he
      have e2:=ev.2.2
      exact ⟨(ev.1.more dn sn).more zO AV,ev.2.1,by rw [eB]; grind⟩
  · have hu:u∈(s.us.filter fun u=>decide (s.rv q<u.2.1))++[(s.iR q,s.iR q+(q.2.2.1:Rat) / (q.2.2.2:Rat),q.2.2.2)]:=hu
    rcases aY.mp hu with h | h
    · exact r.sM u (cQ.mp h).1
    · have:u=(s.iR q,s.iR q+(q.2.2.1:Rat) / (q.2.2.2:Rat),q.2.2.2):=by simpa using h
      subst this
      exact s2
  · show (rV s.us (s.rv q) (s.iR q) q.2.2.1 q.2.2.2).length<=k+1
    unfold rV
    have:=bG (fun u:Sw.T3=>decide (s.rv q<u.2.1)) s.us
    have:=r.ln
    rw [aO]
    simp only [aE,cy]
    omega
end Sw
namespace L2
open PySem PySem.Spec PyProof.Rows
def Fb (H:Hp) (p:Addr) (t:Rat×Rat):Prop:=∃ pb pe,H p=some (.tup [.ref pb,.ref pe])/\H pb=some (.tup (fq t.1))/\H pe=some (.tup (fq t.2))
theorem Fb.keep {H H':Hp} {p:Addr} {t:Rat×Rat} (h:Fb H p t) (e:∀ p xs,H p=some (.tup xs)->H' p=some (.tup xs)):Fb H' p t:=by
 obtain ⟨pb,pe,h1,h2,h3⟩:=h
 exact ⟨pb,pe,e _ _ h1,e _ _ h2,e _ _ h3⟩
structure wm (H:Hp) (l:Addr) (ps:List Addr) (ts:List (Rat×Rat)):Prop where
 hl:H l=some (.lst (ps.map V.ref))
 r:Paired (Fb H) ps ts
theorem wm.same {H H':Hp} {l:Addr} {ps:List Addr} {ts:List (Rat×Rat)} (h:wm H l ps ts) (s:bT H H'):wm H' l ps ts:=⟨s _ _ h.hl,Paired.gB h.r fun _ _ q=>q.keep fun _ _ e=>s _ _ e⟩
theorem Hu {α β:Type} {F:α->β->Prop}:∀ {l₁:List α} {l₂:List β} {i:Nat} {b:β},Paired F l₁ l₂->l₂[i]? = some b->∃ a,l₁[i]? = some a/\F a b
 | _,_,_,_,Paired.nil,e=>by simp at e
 | _,_,0,_,Paired.cons x _,e=>by simp at e; subst e; exact ⟨_,rfl,x⟩
 | _,_,i+1,_,Paired.cons _ y,e=>by
  obtain ⟨b,h1,h2⟩:=Hu (i:=i) y (by simpa using e)
  exact ⟨b,by simpa using h1,h2⟩
theorem wm.item {H:Hp} {l:Addr} {ps:List Addr} {ts:List (Rat×Rat)} (h:wm H l ps ts) {i:Nat} {t:Rat×Rat} (e:ts[i]? = some t):∃ p,uH (ps.map V.ref) (i:Int)=some (.ref p)/\Fb H p t:=by
 obtain ⟨p,h1,h2⟩:=Hu h.r e
 exact ⟨p,Aa (by rw [bh,h1]; rfl),h2⟩
def Eb (H:Hp) (p:Addr) (x:Nat×Rat):Prop:=∃ pr,H p=some (.tup [.int (x.1:Int),.ref pr])/\H pr=some (.tup (fq x.2))
theorem Eb.keep {H H':Hp} {p:Addr} {x:Nat×Rat} (h:Eb H p x) (e:∀ p xs,H p=some (.tup xs)->H' p=some (.tup xs)):Eb H' p x:=by
 obtain ⟨pr,h1,h2⟩:=h
 exact ⟨pr,e _ _ h1,e _ _ h2⟩
def Bl (H:Hp) (p:Addr) (x:Sw.qp):Prop:=∃ pf pt pl ps,H p=some (.tup [.ref pf,.ref pt,.ref pl])/\H pf=some (.tup (fq x.1))/\H pt=some (.tup (fq x.2.1))/\H pl=some (.lst (ps.map V.ref))/\Paired (Eb H) ps x.2.2
theorem Bl.keep {H H':Hp} {p l:Addr} {x:Sw.qp} {xs:List V} (h:Bl H p x) (e:∀ b o,b≠l->H b=some o->H' b=some o) (hl:H l=some (.lst xs)) (nl:∀ pf pt pl,H p=some (.tup [.ref pf,.ref pt,.ref pl])->pl≠l):Bl H' p x:=by
 obtain ⟨pf,pt,pl,ps,h1,h2,h3,h4,h5⟩:=h
 have kt:∀ b zs,H b=some (.tup zs)->H' b=some (.tup zs):=fun b zs q=>e _ _ (b7 q hl (by intro z; cases z)) q
 exact ⟨pf,pt,pl,ps,kt _ _ h1,kt _ _ h2,kt _ _ h3,e _ _ (nl _ _ _ h1) h4,Paired.gB h5 fun _ _ q=>q.keep kt⟩
theorem Bl.same {H H':Hp} {p:Addr} {x:Sw.qp} (h:Bl H p x) (s:bT H H'):Bl H' p x:=by
 obtain ⟨pf,pt,pl,ps,h1,h2,h3,h4,h5⟩:=h
 exact ⟨pf,pt,pl,ps,s _ _ h1,s _ _ h2,s _ _ h3,s _ _ h4,Paired.gB h5 fun _ _ q=>q.keep fun _ _ e=>s _ _ e⟩
def JO (H:Hp) (l p:Addr) (x:Sw.qp):Prop:=Bl H p x/\∀ pf pt pl,H p=some (.tup [.ref pf,.ref pt,.ref pl])->pl≠l
structure Al (H:Hp) (l:Addr) (ps:List Addr) (xs:List Sw.qp):Prop where
 hl:H l=some (.lst (ps.map V.ref))
 r:Paired (JO H l) ps xs
theorem Al.same {H H':Hp} {l:Addr} {ps:List Addr} {xs:List Sw.qp} (h:Al H l ps xs) (s:bT H H'):Al H' l ps xs:=by
 refine ⟨s _ _ h.hl,Paired.gB h.r fun p x q=>⟨q.1.same s,fun pf pt pl e=>?_⟩⟩
 obtain ⟨OH,OM,LF,_,h1,_⟩:=q.1
 have e1:=s _ _ h1
 rw [e] at e1
 cases e1
 exact q.2 _ _ _ h1
theorem Al.app {H:Hp} {l p:Addr} {ps:List Addr} {xs:List Sw.qp} {x:Sw.qp} (h:Al H l ps xs) (hp:Bl H p x) (nl:∀ pf pt pl,H p=some (.tup [.ref pf,.ref pt,.ref pl])->pl≠l):Al (aQ H l (.lst (ps.map V.ref++[.ref p]))) l (ps++[p]) (xs++[x]):=by
 have kp:∀ b o,b≠l->H b=some o->aQ H l (.lst (ps.map V.ref++[.ref p])) b=some o:=fun b o n e=>by rw [c8 n]; exact e
 have go:∀ a x,JO H l a x->JO (aQ H l (.lst (ps.map V.ref++[.ref p]))) l a x:=fun a x q=>by
  refine ⟨q.1.keep kp h.hl q.2,fun pf pt pl e=>?_⟩
  obtain ⟨OH,OM,LF,_,h1,_⟩:=q.1
  rw [c8 (b7 h1 h.hl (by intro z; cases z))] at e
  exact q.2 _ _ _ e
 exact ⟨by rw [cO,ay]; rfl,zj (go _ _ ⟨hp,nl⟩) (Paired.gB h.r go)⟩
def aX (qs:List Q4) (ts:List (Rat×Rat)):List Sw.F4:=List.zipWith (fun q t=>(q.1,t.1,t.2,q.2.2.2)) qs ts
theorem A8 {qs:List Q4} {ts:List (Rat×Rat)} (h:ts.length=qs.length):(aX qs ts).length=qs.length:=by unfold aX; rw [List.length_zipWith]; omega
theorem DK {qs:List Q4} {ts:List (Rat×Rat)} {i:Nat} {q:Q4} {t:Rat×Rat} (h1:qs[i]? = some q) (h2:ts[i]? = some t):(aX qs ts)[i]? = some (q.1,t.1,t.2,q.2.2.2):=by unfold aX; rw [vZ,h1,h2]
def xu (fs:List Sw.F4) (mo ma:Rat) (i:Nat):Bool:=match fs[i]? with | some f=>Sw.pW mo ma f | none=>false
theorem Cn (fs:List Sw.F4) (mo ma:Rat):Sw.cU fs mo ma=(aD fs.length).filter (xu fs mo ma):=rfl
theorem VM (p:Nat->Bool) (i:Nat):(aD (i+1)).filter p=(aD i).filter p++(if p i=true then [i] else []):=by
 rw [dF,cG,aZ]
 rfl
theorem HH {n:Int} (h0:0<=n) (h1:n<100000000000000):Sw.cL 200 (n:Rat):=(Sw.cL.int (Sw.Sz.j5 (by omega) (by omega))).mono (by decide)
def iI (i:Nat):V:=.int (i:Int)
end L2
namespace Sw
open L2
structure l6 (n:Nat) (M:Int) (a c:Nat) (fs:List F4) (D:Int):Prop where
 F:zG n M a c
 ln:fs.length<=n
 d0:0<D
 dz:Sz (c*n+1) D
 pc:∀ f∈fs,0<=f.1/\f.1<100000000000000
 tg:∀ f∈fs,dH D f.2.1/\dH D f.2.2.1/\0<=f.2.1/\f.2.1<f.2.2.1/\f.2.2.1<=((n*1000000:Int):Rat)
 sh:∀ f∈fs,1<=f.2.2.2/\f.2.2.2<=M
def cm (fs:List F4) (mo:Rat):Nat:=(fs.filter fun f=>decide (mo<(f.1:Rat))).length
theorem Ff (fs:List F4) (mo:Rat):cm fs mo<=fs.length:=bG _ _
theorem XS {fs:List F4} {mo BJ:Rat} (h:mo<=BJ):cm fs BJ<=cm fs mo:=by
 unfold cm
 induction fs with
 | nil=>exact av _
 | cons z r ih =>
  rw [aZ,aZ]
  by_cases e1:BJ < (z.1:Rat)
  ·have e2:mo<(z.1:Rat):=by grind
   simp only [decide_eq_true e1,decide_eq_true e2,if_true,aE]
   omega
  ·by_cases e2:mo<(z.1:Rat)
   ·simp only [decide_eq_false e1,decide_eq_true e2,if_true,aE]
    simp
    omega
   ·simp only [decide_eq_false e1,decide_eq_false e2]
    simpa using ih
theorem Bp {fs:List F4} {mo BJ:Rat} (h:mo<BJ) (hc:∃ f∈fs,mo<(f.1:Rat)/\BJ=(f.1:Rat)):cm fs BJ < cm fs mo:=by
 obtain ⟨f,hf,h1,h2⟩:=hc
 refine Hs (fun x _ hx=>?_) ⟨f,hf,decide_eq_true h1,by rw [h2]; simp only [decide_eq_false_iff_not]; grind⟩
 simp only [decide_eq_true_eq] at hx ⊢
 grind
structure jM (n:Nat) (M:Int) (a c:Nat) (fs:List F4) (D:Int) (mo ma:Rat) (G:Int):Prop where
 g0:0<G
 gd:∃ j:Int,j≠0/\G=D*j
 gz:Sz (c*n+1+a*(n-cm fs mo)) G
 gm:dH G mo
 gk:dH G ma
 m0:0<=mo
 k0:0<=ma
 kB:ma<=((n*1000000:Int):Rat)
 mB:mo<=((100000000000000+(2*n-mu fs mo ma:Nat)*3600000000000000:Int):Rat)
section
variable {n:Nat} {M:Int} {a c:Nat} {fs:List F4} {D:Int} {mo ma:Rat} {G:Int}
theorem jM.A6 (o:l6 n M a c fs D) (s:jM n M a c fs D mo ma G):Sz 2001 G:=by
 refine s.gz.mono ?_
 have h1:=o.F.SV
 have h2:a*(n-cm fs mo)<=a*n:=fT a (Nat.sub_le _ _)
 omega
theorem jM.up (s:jM n M a c fs D mo ma G) (d:0<D) {q:Rat} (h:dH D q):dH G q:=by
 obtain ⟨j,j0,e⟩:=s.gd
 rw [e]
 exact h.more (by omega) j0
theorem ve {G:Int} {q:Rat} (g0:0<G) (gz:Sz 2060 G) (h:dH G q) (h1:((-10000000000000000000:Int):Rat)<=q) (h2:q<=((10000000000000000000:Int):Rat)):cL 2130 q:=by
 refine h.sz (M:=10000000000000000000) (a:=2060) (b:=70) g0 gz (Sz.j5 (by decide) (by decide)) ?_ h2 (by decide)
 have:((-10000000000000000000:Int):Rat) = -((10000000000000000000:Int):Rat):=Ed _
 rw [<- this]; exact h1
theorem jM.Gs (o:l6 n M a c fs D) (s:jM n M a c fs D mo ma G):mo<=((1000000000000000000:Int):Rat):=by
 have h:=s.mB
 have l:=o.F.n1
 have:((100000000000000+(2*n-mu fs mo ma:Nat)*3600000000000000:Int):Rat)<=((1000000000000000000:Int):Rat):=by
  rw [ak]
  have:(2*n-mu fs mo ma:Nat)<=120:=by omega
  omega
 grind
theorem jM.UB (o:l6 n M a c fs D) (s:jM n M a c fs D mo ma G):ma<=((60000000:Int):Rat):=by
 have h:=s.kB
 have l:=o.F.n1
 have:((n*1000000:Int):Rat)<=((60000000:Int):Rat):=by
  rw [ak]
  omega
 grind
theorem l6.J5 (o:l6 n M a c fs D) {f:F4} (h:f∈fs):f.2.2.1<=((60000000:Int):Rat):=by
 have h:=(o.tg f h).2.2.2.2
 have l:=o.F.n1
 have:((n*1000000:Int):Rat)<=((60000000:Int):Rat):=by
  rw [ak]
  omega
 grind
theorem l6.s1 (o:l6 n M a c fs D):∀ f∈fs,1<=f.2.2.2:=fun f h=>(o.sh f h).1
theorem l6.Dr (o:l6 n M a c fs D) (h:cU fs mo ma≠[]):1<=fZ fs (cU fs mo ma)/\fZ fs (cU fs mo ma)<=n*M/\fZ fs (cU fs mo ma)<=60000000/\Sz a (fZ fs (cU fs mo ma)):=by
 have h1:=DM o.s1 h
 have M1:=o.F.M1
 have h2:=YT (fs:=fs) (mo:=mo) (ma:=ma) (M:=M) (by omega) fun f hf=>(o.sh f hf).2
 have ln:=o.ln
 have h3:(fs.length:Int)*M<=n*M:=cu (by omega) (by omega)
 have n1:=o.F.n1
 have M2:=o.F.M2
 have h4:(n:Int)*M<=60*1000000:=Int.mul_le_mul (by omega) M2 (by omega) (by omega)
 exact ⟨h1,by omega,by omega,sz_of (by omega) (by have:=o.F.sA; omega)⟩
theorem jM.rest (o:l6 n M a c fs D) (s:jM n M a c fs D mo ma G) {af:Rat} (t:sP fs mo ma af ma) (hc:∃ f∈fs,mo<(f.1:Rat)/\af=(f.1:Rat)):jM n M a c fs D af ma G:=by
 have lt:=Bp t.gt hc
 have gt:=t.gt
 have m0:=s.m0
 obtain ⟨f,hf,h1,h2⟩:=hc
 obtain ⟨p0,p1⟩:=o.pc f hf
 refine ⟨s.g0,s.gd,s.gz.mono ?_,by rw [h2]; exact dH.int (by have:=s.g0; omega) _,s.gk,by grind,s.k0,s.kB,?_⟩
 ·have:a*(n-cm fs mo)<=a*(n-cm fs af):=fT a (by omega)
  omega
 ·rw [h2,ak]
  omega
theorem jM.go2 (o:l6 n M a c fs D) (s:jM n M a c fs D mo ma G) (h:cU fs mo ma≠[]):∃ G' j:Int,j≠0/\G'=G*j/\jM n M a c fs D (dY (fH fs mo ma)) (ma+(dY (fH fs mo ma)-mo) / (fZ fs (cU fs mo ma):Rat)) G':=by
 have t:=oJ o.s1 h
 obtain ⟨S1,S2,S3,S4⟩:=o.Dr h
 obtain ⟨fl,mC,NO,el⟩:=MB h
 have eB:=o.J5 mC
 rw [<- el] at eB
 have lg:dH G (gA fs mo ma):=by rw [el]; exact s.up o.d0 (o.tg fl mC).2.1
 have lk:gA fs mo ma<=((n*1000000:Int):Rat):=by rw [el]; exact (o.tg fl mC).2.2.2.2
 have le:=t.le h
 have gt:=t.gt
 have ge:=t.ge
 have Ls:=mT t
 have m0:=s.m0
 have k0:=s.k0
 have mB:=s.mB
 have g0:=s.g0
 have gn:G≠0:=by omega
 have Sn:fZ fs (cU fs mo ma)≠0:=by omega
 have e1:ni fs mo ma=mo+(gA fs mo ma-ma)*(fZ fs (cU fs mo ma):Rat):=rfl
 have mul:=BL fs mo ma
 have ln:=o.ln
 generalize fZ fs (cU fs mo ma)=S at S1 S2 S3 S4 Sn e1 t le ge Ls ⊢
 generalize dY (fH fs mo ma)=af at t le gt ge Ls ⊢
 rcases t.way with hc | ⟨_,e2,e3,_⟩
 ·have lt:=Bp gt hc
  obtain ⟨f,hf,h1,h2⟩:=hc
  obtain ⟨p0,p1⟩:=o.pc f hf
  refine ⟨G*S,S,Sn,rfl,eJ g0 (by omega),?_,(s.gz.mul S4).mono ?_,by rw [h2]; exact dH.int (b5 gn Sn) _,?_,by grind,by grind,by grind,?_⟩
  ·obtain ⟨j,j0,e⟩:=s.gd
   exact ⟨j*S,b5 j0 Sn,by rw [e,jU]⟩
  ·have c1:=Ff fs mo
   have:a*(n-cm fs mo)+a<=a*(n-cm fs af):=by
    have:a*(n-cm fs mo+1)<=a*(n-cm fs af):=fT a (by omega)
    rw [Nat.mul_add,Nat.mul_one] at this
    exact this
   omega
  ·refine (s.gk.more gn Sn).add (dH.m9 gn ?_ Sn)
   rw [h2]
   exact (dH.int gn _).sub s.gm
  ·rw [h2,ak]
   omega
 ·have Op:mu fs af (gA fs mo ma)<mu fs mo ma:=by rw [<- e3]; exact Ls
  rw [e3]
  have TF:dH G af:=by rw [e2,e1]; exact s.gm.add ((lg.sub s.gk).mG S)
  refine ⟨G,1,by decide,by omega,g0,s.gd,s.gz.mono ?_,TF,lg,by grind,by grind,lk,?_⟩
  ·have c1:=XS (fs:=fs) (mo:=mo) (BJ:=af) (by grind)
   have:a*(n-cm fs mo)<=a*(n-cm fs af):=fT a (by omega)
   omega
  ·have x:(gA fs mo ma-ma)*(S:Rat)<=((3600000000000000:Int):Rat):=by
    have a1:gA fs mo ma-ma<=((60000000:Int):Rat):=by grind
    have a2:(S:Rat)<=((60000000:Int):Rat):=ak.mpr S3
    have a3:(0:Rat)<=(S:Rat):=by
     have:=bJ (show 0<S by omega)
     grind
    have b1:=aC a1 a3
    have b2:((60000000:Int):Rat)*(S:Rat)<=((60000000:Int):Rat)*((60000000:Int):Rat):=aH a2 (by decide)
    have b3:((60000000:Int):Rat)*((60000000:Int):Rat)=((3600000000000000:Int):Rat):=by decide +kernel
    grind
   have y:((100000000000000+(2*n-mu fs mo ma:Nat)*3600000000000000:Int):Rat)+((3600000000000000:Int):Rat)<=((100000000000000+(2*n-mu fs af (gA fs mo ma):Nat)*3600000000000000:Int):Rat):=by
    rw [<- dh,ak]
    generalize mu fs af (gA fs mo ma)=u at Op ⊢
    generalize mu fs mo ma=v at Op mul ⊢
    omega
   rw [e2,e1] at *
   grind
theorem jM.go (o:l6 n M a c fs D) (s:jM n M a c fs D mo ma G) (h:cU fs mo ma≠[]):∃ G',jM n M a c fs D (dY (fH fs mo ma)) (ma+(dY (fH fs mo ma)-mo) / (fZ fs (cU fs mo ma):Rat)) G':=let ⟨G',_,_,_,s'⟩:=s.go2 o h; ⟨G',s'⟩
end
theorem Rj {n:Nat} {M:Int} {a c:Nat} (F:zG n M a c):∀ {l:List Q4} {s:Ti} {k:Nat} {D:Int},kq n M c s k D->k+l.length<=n->(∀ q∈l,nU M q)->(∀ q∈l,s.eG<=q.1)->l.Pairwise (fun a b=>a.1<=b.1) ->
    ∃ D' j:Int,j≠0/\D'=D*j/\0<D'/\Sz (c*(k+l.length)+1) D'/\∀ t∈s.tags l,dH D' t.1/\dH D' t.2/\0<=t.1/\t.1<t.2/\t.2<=(((k+l.length:Nat)*1000000:Int):Rat)
  | [],s,k,D,r,_,_,_,_=>⟨D,1,by decide,by omega,r.ok.gb.D0,r.dz,fun t h=>absurd h aR⟩
  | q :: l,s,k,D,r,hk,hq,hl,hp=>by
    rw [aE] at hk
    obtain ⟨D1,j1,UA,e1,r1,g1,g2,b0,be,eB⟩:=r.ly F (by omega) (hq q (by simp)) (hl q (by simp))
    obtain ⟨h1,h2⟩:=nC.mp hp
    obtain ⟨D2,j2,Lf,e2,d0,dz,ht⟩:=Rj F (l:=l) (s:=s.ly q) (k:=k+1) r1 (by omega) (fun x hx=>hq x (aA _ hx)) (fun x hx=>h1 x hx) h2
    have d1:=r1.ok.gb.D0
    have ek:k+1+l.length=k+(l.length+1):=by omega
    rw [ek] at dz ht
    refine ⟨D2,j1*j2,b5 UA Lf,by rw [e2,e1,jU],d0,dz,fun t h=>?_⟩
    rcases aM.mp h with e | e
    · subst e
      refine ⟨by rw [e2]; exact g1.more (by omega) Lf,by rw [e2]; exact g2.more (by omega) Lf,b0,be,?_⟩
      have:(((k+1:Nat)*1000000:Int):Rat)<=(((k+(l.length+1):Nat)*1000000:Int):Rat):=by
        rw [ak]
        omega
      exact fF eB this
    · exact ht t e
theorem mw {n:Nat} {M:Int} {a c:Nat} (F:zG n M a c) {qs:List Q4} (hn:qs.length<=n) (hq:∀ q∈qs,nU M q) (hp:qs.Pairwise (fun a b=>a.1<=b.1)):∃ D,l6 n M a c (aX qs (Ti.nil.tags qs)) D:=by
 obtain ⟨D,j,j0,e,d0,dz,ht⟩:=Rj F (l:=qs) (s:=Ti.nil) (k:=0) kq.nil (by omega) hq (fun q h=>(hq q h).1) hp
 have mem:∀ f∈aX qs (Ti.nil.tags qs),∃ q∈qs,∃ t∈Ti.nil.tags qs,f=(q.1,t.1,t.2,q.2.2.2):=fun f hf=>by
  obtain ⟨i,hi⟩:=dN hf
  unfold aX at hi
  rw [vZ] at hi
  cases e1:qs[i]? with
  | none=>rw [e1] at hi; simp at hi
  | some q =>
   cases e2:(Ti.nil.tags qs)[i]? with
   | none=>rw [e1,e2] at hi; simp at hi
   | some t =>
    rw [e1,e2] at hi
    exact ⟨q,aq e1,t,aq e2,(bE hi).symm⟩
 have kn:(((0+qs.length:Nat)*1000000:Int):Rat)<=((n*1000000:Int):Rat):=by
  rw [ak]
  omega
 refine ⟨D,F,by rw [A8 Ti.dP]; exact hn,d0,dz.mono ?_,fun f hf=>?_,fun f hf=>?_,fun f hf=>?_⟩
 ·have:c*(0+qs.length)<=c*n:=fT c (by omega)
  omega
 ·obtain ⟨q,h1,t,h2,rfl⟩:=mem f hf
  exact ⟨(hq q h1).1,(hq q h1).2.1⟩
 ·obtain ⟨q,h1,t,h2,rfl⟩:=mem f hf
  obtain ⟨a1,a2,a3,a4,a5⟩:=ht t h2
  exact ⟨a1,a2,a3,a4,fF a5 kn⟩
 ·obtain ⟨q,h1,t,h2,rfl⟩:=mem f hf
  exact ⟨(hq q h1).2.2.2.2.1,(hq q h1).2.2.2.2.2⟩
theorem xT:∀ {qs:List Q4} {ts:List (Rat×Rat)} {mo:Rat},ts.length=qs.length->sV (aX qs ts) mo=qs.filterMap fun q=>if mo<(q.1:Rat) then some (q.1:Rat) else none
 | [],[],_,_=>rfl
 | [],t :: _,_,h=>by simp at h
 | q :: _,[],_,h=>by simp at h
 | q :: qr,t :: tr,mo,h=>by
  have ih:=xT (qs:=qr) (ts:=tr) (mo:=mo) (by simpa using h)
  unfold sV aX at ih ⊢
  rw [List.zipWith_cons_cons,fN,fN,ih]
theorem Om {fs:List F4} {n:Nat} (h:fs.length<=n) (mo ma:Rat):mu fs mo ma<=2*n:=by
 have:=BL fs mo ma
 omega
theorem jM.start {n:Nat} {M:Int} {a c:Nat} {fs:List F4} {D:Int} (o:l6 n M a c fs D):jM n M a c fs D 0 0 D:=by
 refine ⟨o.d0,⟨1,by decide,by omega⟩,o.dz.mono (by omega),⟨0,?_⟩,⟨0,?_⟩,aB,aB,?_,?_⟩
 ·rw [show ((0:Int):Rat) = 0 from rfl]; grind
 ·rw [show ((0:Int):Rat) = 0 from rfl]; grind
 ·have:((0:Int):Rat)<=((n*1000000:Int):Rat):=by rw [ak]; omega
  exact this
 ·have:((0:Int):Rat)<=((100000000000000+(2*n-mu fs 0 0:Nat)*3600000000000000:Int):Rat):=by rw [ak]; omega
  exact this
theorem l6.IF {n:Nat} {M:Int} {a c:Nat} {fs:List F4} {D:Int} (o:l6 n M a c fs D) {f:F4} (h:f∈fs):cL 2130 f.2.1/\cL 2130 f.2.2.1:=by
 obtain ⟨g1,g2,b0,be,_⟩:=o.tg f h
 have eB:=o.J5 h
 have z:Sz 2060 D:=o.dz.mono (by have:=o.F.all; omega)
 have l1:((60000000:Int):Rat)<=((10000000000000000000:Int):Rat):=by decide
 have l2:((-10000000000000000000:Int):Rat)<=0:=by decide
 exact ⟨ve o.d0 z g1 (by grind) (by grind),ve o.d0 z g2 (by grind) (by grind)⟩
section
variable {n:Nat} {M:Int} {a c:Nat} {fs:List F4} {D:Int} {mo ma:Rat} {G:Int}
theorem jM.EO (o:l6 n M a c fs D) (s:jM n M a c fs D mo ma G):cL 2130 mo:=by
 have h:=s.Gs o
 have h0:=s.m0
 have l1:((1000000000000000000:Int):Rat)<=((10000000000000000000:Int):Rat):=by decide
 have l2:((-10000000000000000000:Int):Rat)<=0:=by decide
 exact ve s.g0 ((s.A6 o).mono (by decide)) s.gm (by grind) (by grind)
theorem jM.HP (o:l6 n M a c fs D) (s:jM n M a c fs D mo ma G):cL 2130 ma:=by
 have h:=s.UB o
 have h0:=s.k0
 have l1:((60000000:Int):Rat)<=((10000000000000000000:Int):Rat):=by decide
 have l2:((-10000000000000000000:Int):Rat)<=0:=by decide
 exact ve s.g0 ((s.A6 o).mono (by decide)) s.gk (by grind) (by grind)
theorem jM.way (o:l6 n M a c fs D) (s:jM n M a c fs D mo ma G) (h:cU fs mo ma≠[]):dH G ((gA fs mo ma-ma)*(fZ fs (cU fs mo ma):Rat))/\0<=(gA fs mo ma-ma)*(fZ fs (cU fs mo ma):Rat)/\(gA fs mo ma-ma)*(fZ fs (cU fs mo ma):Rat)<=((3600000000000000:Int):Rat)/\cL 2130 (gA fs mo ma-ma):=by
 obtain ⟨S1,S2,S3,S4⟩:=o.Dr h
 obtain ⟨fl,mC,NO,el⟩:=MB h
 obtain ⟨_,_,hm⟩:=iW.mp NO
 rw [<- el] at hm
 have eB:=o.J5 mC
 rw [<- el] at eB
 have lg:dH G (gA fs mo ma):=by rw [el]; exact s.up o.d0 (o.tg fl mC).2.1
 have k0:=s.k0
 have l1:((60000000:Int):Rat)<=((10000000000000000000:Int):Rat):=by decide
 have l2:((-10000000000000000000:Int):Rat)<=0:=by decide
 generalize fZ fs (cU fs mo ma)=S at S1 S2 S3 S4 ⊢
 have a1:gA fs mo ma-ma<=((60000000:Int):Rat):=by grind
 have a2:(S:Rat)<=((60000000:Int):Rat):=ak.mpr S3
 have a3:(0:Rat)<=(S:Rat):=by
  have:=bJ (show 0<S by omega)
  grind
 have b1:=aC a1 a3
 have b2:((60000000:Int):Rat)*(S:Rat)<=((60000000:Int):Rat)*((60000000:Int):Rat):=aH a2 (by decide)
 have b3:((60000000:Int):Rat)*((60000000:Int):Rat)=((3600000000000000:Int):Rat):=by decide +kernel
 exact ⟨(lg.sub s.gk).mG S,bM (by grind) a3,by grind,ve s.g0 ((s.A6 o).mono (by decide)) (lg.sub s.gk) (by grind) (by grind)⟩
theorem jM.M5 (o:l6 n M a c fs D) (s:jM n M a c fs D mo ma G) (h:cU fs mo ma≠[]):cL 2130 ((gA fs mo ma-ma)*(fZ fs (cU fs mo ma):Rat)):=by
 obtain ⟨g,g0,g1,_⟩:=s.way o h
 have l1:((3600000000000000:Int):Rat)<=((10000000000000000000:Int):Rat):=by decide
 have l2:((-10000000000000000000:Int):Rat)<=0:=by decide
 exact ve s.g0 ((s.A6 o).mono (by decide)) g (by grind) (by grind)
theorem jM.fH (o:l6 n M a c fs D) (s:jM n M a c fs D mo ma G):∀ x∈fH fs mo ma,dH G x/\mo<=x/\x<=((2000000000000000000:Int):Rat):=fun x hx=>by
 have h:=s.Gs o
 have l1:((1000000000000000000:Int):Rat)+((3600000000000000:Int):Rat)<=((2000000000000000000:Int):Rat):=by decide +kernel
 unfold Sw.fH at hx
 rcases aY.mp hx with z | z
 ·obtain ⟨f,hf,h1,h2⟩:=ji.mp z
  obtain ⟨p0,p1⟩:=o.pc f hf
  rw [h2]
  exact ⟨dH.int (by have:=s.g0; omega) _,by grind,ak.mpr (by omega)⟩
 ·by_cases hn:cU fs mo ma = []
  ·rw [if_pos hn] at z; cases z
  ·rw [if_neg hn] at z
   have e:x=ni fs mo ma:=by simpa using z
   obtain ⟨g,g0,g1,_⟩:=s.way o hn
   have e1:ni fs mo ma=mo+(gA fs mo ma-ma)*(fZ fs (cU fs mo ma):Rat):=rfl
   rw [e,e1]
   exact ⟨s.gm.add g,by grind,by grind⟩
theorem jM.IU (o:l6 n M a c fs D) (s:jM n M a c fs D mo ma G) {x:Rat} (hx:x∈Sw.fH fs mo ma):cL 2130 x/\cL 2130 (x-mo):=by
 obtain ⟨g,h1,h2⟩:=s.fH o x hx
 have m0:=s.m0
 have l1:((2000000000000000000:Int):Rat)<=((10000000000000000000:Int):Rat):=by decide
 have l2:((-10000000000000000000:Int):Rat)<=0:=by decide
 exact ⟨ve s.g0 ((s.A6 o).mono (by decide)) g (by grind) (by grind),ve s.g0 ((s.A6 o).mono (by decide)) (g.sub s.gm) (by grind) (by grind)⟩
theorem jM.WB (o:l6 n M a c fs D) (s:jM n M a c fs D mo ma G) (h:cU fs mo ma≠[]) {x:Rat} (hx:x∈Sw.fH fs mo ma):cL 2130 ((x-mo) / (fZ fs (cU fs mo ma):Rat)):=by
  obtain ⟨g,h1,h2⟩:=s.fH o x hx
  obtain ⟨S1,S2,S3,S4⟩:=o.Dr h
  have g0:=s.g0
  have m0:=s.m0
  have Zv:a<=30\/30<a:=by omega
  have l1:((2000000000000000000:Int):Rat)<=((10000000000000000000:Int):Rat):=by decide
  have l2:((-10000000000000000000:Int):Rat)<=0:=by decide
  generalize fZ fs (cU fs mo ma)=S at S1 S2 S3 S4 ⊢
  have S0:(0:Rat)<(S:Rat):=bJ (by omega)
  have SK:(1:Rat)<=(S:Rat):=by
    have:((1:Int):Rat)<=(S:Rat):=ak.mpr S1
    exact this
  have z30 : Sz 30 S := sz_of (by omega) (by have : (2 : Int) ^ 30 = 1073741824 := by decide
                                             omega)
  have q0:0<=(x-mo) / (S:Rat):=by
    have:¬ (x-mo) / (S:Rat)<0:=by rw [gG S0,gK]; grind
    grind
  have q1:(x-mo) / (S:Rat)<=x-mo:=by
    have:¬ x-mo<(x-mo) / (S:Rat):=by
      rw [mh S0]
      have:=aH SK (show 0<=x-mo by grind)
      grind
    grind
  exact ve (eJ g0 (by omega)) (((s.A6 o).mul z30).mono (by decide)) ((g.sub s.gm).m9 (by omega) (by omega)) (by grind) (by grind)
end
end Sw
namespace Sw
open L2
def mL (en:Int->Option Rat) (e:Rat) (ps:List (Nat×Rat)):Int->Option Rat:=ps.foldl (fun m p=>gw m (p.1:Int) e) en
def endsF (xs:List qp):Int->Option Rat:=xs.foldl (fun m x=>mL m x.2.1 x.2.2) fun _=>none
theorem wK (en:Int->Option Rat) (e:Rat) (ps:List (Nat×Rat)) (p:Nat×Rat):mL en e (ps++[p])=gw (mL en e ps) (p.1:Int) e:=by unfold mL; rw [jO]; rfl
theorem pA (xs:List qp) (x:qp):endsF (xs++[x])=mL (endsF xs) x.2.1 x.2.2:=by unfold endsF; rw [jO]; rfl
def eX (en:Int->Option Rat):Nat->(Int->Option Rat)->List Q4->List (Rat×Rat)
 | _,_,[]=>[]
 | i,ah,q :: r=>(max (q.1:Rat) ((ah q.2.1).getD 0),(en (i:Int)).getD (max (q.1:Rat) ((ah q.2.1).getD 0))) :: eX en (i+1) (gw ah q.2.1 ((en (i:Int)).getD (max (q.1:Rat) ((ah q.2.1).getD 0)))) r
def g8 (en:Int->Option Rat):Nat->(Int->Option Rat)->List Q4->(Int->Option Rat)
 | _,ah,[]=>ah
 | i,ah,q :: r=>g8 en (i+1) (gw ah q.2.1 ((en (i:Int)).getD (max (q.1:Rat) ((ah q.2.1).getD 0)))) r
def kA (ah:Int->Option Rat) (q:Q4):Rat:=max (q.1:Rat) ((ah q.2.1).getD 0)
theorem kM:∀ {en:Int->Option Rat} {i:Nat} {ah:Int->Option Rat} {l:List Q4} {q:Q4},eX en i ah (l++[q])=eX en i ah l++[(kA (g8 en i ah l) q,(en ((i+l.length:Nat):Int)).getD (kA (g8 en i ah l) q))]
 | _,_,_,[],_=>rfl
 | en,i,ah,x :: r,q=>by
  show _ :: eX en (i+1) _ (r++[q]) = _ :: (eX en (i+1) _ r++_)
  rw [kM,show i+1+r.length=i+(x :: r).length by simp only [aE]; omega]
  rfl
theorem kr:∀ {en:Int->Option Rat} {i:Nat} {ah:Int->Option Rat} {l:List Q4} {q:Q4},g8 en i ah (l++[q])=gw (g8 en i ah l) q.2.1 ((en ((i+l.length:Nat):Int)).getD (kA (g8 en i ah l) q))
 | _,_,_,[],_=>rfl
 | en,i,ah,x :: r,q=>by
  show g8 en (i+1) _ (r++[q]) = _
  rw [kr,show i+1+r.length=i+(x :: r).length by simp only [aE]; omega]
  rfl
theorem kR {fs:List F4}:∀ {n:Nat} {mo ma:Rat},(cE fs n mo ma).length<=n
 | 0,_,_=>av _
 | n+1,mo,ma=>by
  rw [iz]
  split
  ·exact bR _
  ·split
   ·have:=kR (fs:=fs) (n:=n) (mo:=dY (fH fs mo ma)) (ma:=ma)
    omega
   ·rw [aE]
    have:=kR (fs:=fs) (n:=n) (mo:=dY (fH fs mo ma)) (ma:=ma+(dY (fH fs mo ma)-mo) / (fZ fs (cU fs mo ma):Rat))
    omega
theorem ou {n:Nat} {M:Int} {a c:Nat} {fs:List F4} {D:Int} (o:l6 n M a c fs D):∀ {k:Nat} {mo ma:Rat} {G:Int},jM n M a c fs D mo ma G->∀ x∈cE fs k mo ma,cL 2130 x.2.1/\x.2.2.length<=60
 | 0,_,_,_,_,x,hx=>by cases hx
 | k+1,mo,ma,G,s,x,hx=>by
  rw [iz] at hx
  by_cases ce:fH fs mo ma = []
  ·rw [if_pos ce] at hx; cases hx
  ·rw [if_neg ce] at hx
   by_cases he:cU fs mo ma = []
   ·rw [if_pos he] at hx
    have t1:=kW he ce
    refine ou o (s.rest o t1 ?_) x hx
    rcases t1.way with z | z
    ·exact z
    ·exact absurd he z.1
   ·rw [if_neg he] at hx
    obtain ⟨G',s'⟩:=s.go o he
    rcases aM.mp hx with e | e
    ·subst e
     refine ⟨(s.IU o (gJ ce)).1,?_⟩
     show (qF fs mo ma).length<=60
     unfold qF
     rw [ae]
     have:=oz fs mo ma
     have:=o.ln
     have:=o.F.n1
     omega
    ·exact ou o s' x e
theorem QF {e v:Rat} {w:Int}:∀ {ps:List (Nat×Rat)} {m:Int->Option Rat},mL m e ps w=some v->v=e\/m w=some v
 | [],m,h=>.inr h
 | p :: r,m,h=>by
  rcases QF (ps:=r) (m:=gw m (p.1:Int) e) h with z | z
  ·exact .inl z
  ·unfold gw at z
   split at z
   ·exact .inl (bE z).symm
   ·exact .inr z
theorem qw {v:Rat} {w:Int} {xs:List qp} (h:endsF xs w=some v):∃ x∈xs,v=x.2.1:=by
 have go:∀ {xs:List qp} {m:Int->Option Rat},xs.foldl (fun m x=>mL m x.2.1 x.2.2) m w=some v->(∃ x∈xs,v=x.2.1)\/m w=some v:=fun {xs}=>by
  induction xs with
  | nil=>intro m h; exact .inr h
  | cons x r ih =>
   intro m h
   rcases ih h with ⟨y,hy,e⟩ | z
   ·exact .inl ⟨y,aA _ hy,e⟩
   ·rcases QF z with e | e
    ·exact .inl ⟨x,by simp,e⟩
    ·exact .inr e
 rcases go h with z | z
 ·exact z
 ·cases z
end Sw
namespace Sw
open L2
structure JP where
 L:Int
 W:Int
 la:Int
 L0:0<L
 W0:0<W
 a0:0<=la
namespace JP
variable (z:JP)
def ro:Rat:=(z.L:Rat) / (z.W:Rat)
def tm (x:Rat):Rat:=x*(z.L:Rat)+(z.la:Rat)
def q4 (q:Q4):Q4:=(q.1*z.L+z.la,q.2.1,q.2.2.1*z.L,q.2.2.2*z.W)
def t3 (u:T3):T3:=(u.1*z.ro,u.2.1*z.ro,u.2.2*z.W)
variable {z}
variable (z)
end JP
theorem Qh {en:Int->Option Rat} (ez:∀ w e,en w=some e->cL 2400 e):∀ {l:List Q4} {i:Nat} {ah:Int->Option Rat},(∀ w e,ah w=some e->cL 2400 e)->(∀ q∈l,0<=q.1/\q.1<100000000000000)->∀ t∈eX en i ah l,cL 2400 t.1/\cL 2400 t.2
 | [],_,_,_,_,t,h=>by cases h
 | q :: r,i,ah,az,hq,t,h=>by
  obtain ⟨q0,q1⟩:=hq q (by simp)
  have zb:cL 2400 (max (q.1:Rat) ((ah q.2.1).getD 0)):=by
   have zq:cL 2400 (q.1:Rat):=(HH q0 q1).mono (by decide)
   have za:cL 2400 ((ah q.2.1).getD 0):=by
    cases e:ah q.2.1 with
    | none=>exact (cL.int (n:=0) (Sz.zero 200)).mono (by decide)
    | some v=>exact az _ _ e
   rw [b6]
   split
   ·exact za
   ·exact zq
  have ze:cL 2400 ((en (i:Int)).getD (max (q.1:Rat) ((ah q.2.1).getD 0))):=by
   cases e:en (i:Int) with
   | none=>exact zb
   | some v=>exact ez _ _ e
  rcases aM.mp h with e | e
  ·subst e
   exact ⟨zb,ze⟩
  ·refine Qh ez (l:=r) (i:=i+1) (ah:=gw ah q.2.1 ((en (i:Int)).getD (max (q.1:Rat) ((ah q.2.1).getD 0)))) (fun w v hv=>?_) (fun x hx=>hq x (aA _ hx)) t e
   unfold gw at hv
   split at hv
   ·cases hv; exact ze
   ·exact az _ _ hv
theorem PC {en:Int->Option Rat}:∀ {l:List Q4} {i:Nat} {ah:Int->Option Rat},(eX en i ah l).length=l.length
 | [],_,_=>rfl
 | q :: r,i,ah=>by
  show (eX en (i+1) _ r).length+1 = _
  rw [PC]
  rfl
theorem yG {n:Nat} {M:Int} {a c:Nat} {qs:List Q4} (F:zG n M a c) (hn:qs.length<=n) (hq:∀ q∈qs,nU M q) (hp:qs.Pairwise (fun a b=>a.1<=b.1)) (n':Nat):∀ t∈eX (endsF (cE (aX qs (Ti.nil.tags qs)) n' 0 0)) 0 (fun _=>none) qs,cL 2400 t.1/\cL 2400 t.2:=by
 obtain ⟨D,ok⟩:=mw F hn hq hp
 refine Qh (fun w e h=>?_) (fun w e h=>by cases h) fun q h=>⟨(hq q h).1,(hq q h).2.1⟩
 obtain ⟨x,hx,e1⟩:=qw h
 rw [e1]
 exact ((ou ok (.start ok) x hx).1).mono (by decide)
end Sw
namespace Sw
open L2
theorem IW {α β:Type} (p:α->Bool) (g:Option α->β):∀ fs:List α,((aD fs.length).filter fun i=>(fs[i]?.map p).getD false).map (fun i=>g fs[i]?)=(fs.filter p).map fun f=>g (some f)
 | []=>rfl
 | f :: r=>by
  have ih:=IW p g r
  rw [aE,List.range_succ_eq_map,aZ,Cy,aZ]
  have e:((aD r.length).filter ((fun i=>((f :: r)[i]?.map p).getD false) ∘ Nat.succ)).map ((fun i=>g (f :: r)[i]?) ∘ Nat.succ)=(r.filter p).map fun f=>g (some f):=ih
  cases hp:p f with
  | true =>
   rw [if_pos (by simp [hp]),if_pos rfl,bD,bD,kP,e]
   rfl
  | false =>
   rw [if_neg (by simp [hp]),if_neg (by decide),kP,e]
theorem MK (fs:List F4) (mo ma:Rat):cU fs mo ma=(aD fs.length).filter fun i=>(fs[i]?.map (pW mo ma)).getD false:=by
 unfold cU
 refine jN fun i _=>?_
 cases fs[i]? <;> rfl
theorem ML {l:List Rat} {x:Rat} (h:x∈l) (hl:∀ y∈l,x<=y):dY l=x:=by
 have h1:=DN h
 have h2:=hl _ (gJ (fun e=>by rw [e] at h; cases h))
 grind
def Av (fs:List F4) (mo ma:Rat):List T3:=(fs.filter (pW mo ma)).map (·.2)
theorem GV (fs:List F4) (mo ma:Rat):fZ fs (cU fs mo ma)=h9 (Av fs mo ma):=by
 unfold fZ h9 Av
 rw [kP,MK]
 have:=IW (pW mo ma) (fun o:Option F4=>(o.map fun f=>f.2.2.2).getD 0) fs
 exact congrArg List.sum this
theorem YV (fs:List F4) (mo ma:Rat):gA fs mo ma=iq (Av fs mo ma):=by
 unfold gA iq Av
 rw [kP,MK]
 have:=IW (pW mo ma) (fun o:Option F4=>(o.map fun f=>f.2.2.1).getD 0) fs
 exact congrArg dY this
theorem BA (fs:List F4) (mo ma:Rat):cU fs mo ma = []↔Av fs mo ma = []:=by
 have e:(cU fs mo ma).length=(Av fs mo ma).length:=by
  have:=congrArg List.length (IW (pW mo ma) (fun _:Option F4=>()) fs)
  rw [ae,ae] at this
  unfold Av
  rw [ae,MK]
  exact this
 constructor
 ·intro h; rw [h] at e; exact fR.mp e.symm
 ·intro h; rw [h] at e; exact fR.mp e
def nH (fs:List F4) (s:Rat×Rat):Rat×Rat :=
 if fH fs s.1 s.2 = [] then s else if cU fs s.1 s.2 = [] then (dY (fH fs s.1 s.2),s.2) else (dY (fH fs s.1 s.2),s.2+(dY (fH fs s.1 s.2)-s.1) / (fZ fs (cU fs s.1 s.2):Rat))
def aI (fs:List F4):Nat->Rat×Rat
 | 0=>(0,0)
 | k+1=>nH fs (aI fs k)
structure HQ (fs:List F4) (us:List T3) (eG uh t:Rat):Prop where
 s1:∀ f∈fs,1<=f.2.2.2
 nx:∃ f∈fs,(f.1:Rat)=t
 sep:∀ f∈fs,(f.1:Rat)<=eG\/t<=(f.1:Rat)
 hd:∀ mo ma,eG<=mo->mo<t->uh<=ma->Av fs mo ma=fK us ma
theorem HQ.sV {fs:List F4} {us:List T3} {eG uh t mo:Rat} (b:HQ fs us eG uh t) (h1:eG<=mo) (h2:mo<t):t∈sV fs mo/\∀ y∈sV fs mo,t<=y:=by
 refine ⟨?_,fun y hy=>?_⟩
 ·obtain ⟨f,hf,e⟩:=b.nx
  exact ji.mpr ⟨f,hf,by rw [e]; exact h2,e.symm⟩
 ·obtain ⟨f,hf,h,e⟩:=ji.mp hy
  rw [e]
  rcases b.sep f hf with z | z
  ·grind
  ·exact z
theorem WC {us:List T3} (IP:∀ u∈us,1<=u.2.2) {t:Rat}:∀ (n:Nat) (re:Rat),iu us t n t re=re
 | 0,_=>rfl
 | n+1,re=>by
  unfold iu
  by_cases h:fK us re = []
  ·rw [if_pos h]
  ·rw [if_neg h]
   have gt:=my h
   have S1:1<=h9 (fK us re):=EH (fun x hx=>by
    obtain ⟨u,hu,rfl⟩:=aP.mp hx
    exact IP u (jn hu).1) (by simpa using h)
   have S0:(0:Rat)<(h9 (fK us re):Rat):=bJ (by omega)
   have:=fG (a:=iq (fK us re)-re) (by grind) S0
   rw [if_pos (by grind)]
   have:(t-t) / (h9 (fK us re):Rat) = 0:=by grind
   rw [this]; grind
theorem R7 {fs:List F4} {us:List T3} {eG uh t:Rat} (b:HQ fs us eG uh t) (IP:∀ u∈us,1<=u.2.2):∀ (n k:Nat) (mo re:Rat),aI fs k=(mo,re)->eG<=mo->mo<=t->uh<=re->ahead us re<n->∃ k',k<=k'/\aI fs k'=(t,iu us t n mo re)
 | 0,_,_,_,_,_,_,_,h=>absurd h (lA _)
 | n+1,k,mo,re,e,h1,h2,h3,h4=>by
  by_cases hm:mo=t
  ·subst hm
   exact ⟨k,av _,by rw [WC IP]; exact e⟩
  have jx:mo<t:=by grind
  obtain ⟨c1,c2⟩:=b.sV h1 jx
  have hT:=b.hd mo re h1 jx h3
  have step:aI fs (k+1)=nH fs (mo,re):=by show nH fs (aI fs k) = _; rw [e]
  have ce:fH fs mo re≠[]:=by
   intro z
   unfold fH at z
   have:=(List.append_eq_nil_iff.mp z).1
   rw [this] at c1
   cases c1
  unfold iu
  by_cases hh:fK us re = []
  ·rw [if_pos hh]
   have hd:cU fs mo re = []:=(BA fs mo re).mpr (by rw [hT,hh])
   refine ⟨k+1,eV _,?_⟩
   rw [step]
   unfold nH
   rw [if_neg ce,if_pos hd]
   have:dY (fH fs mo re)=t:=by
    unfold fH
    rw [if_pos hd,bx]
    exact ML c1 c2
   rw [this]
  ·rw [if_neg hh]
   have hd:cU fs mo re≠[]:=fun z=>hh (by rw [<- hT]; exact (BA fs mo re).mp z)
   have eS:fZ fs (cU fs mo re)=h9 (fK us re):=by rw [GV,hT]
   have eE:gA fs mo re=iq (fK us re):=by rw [YV,hT]
   have e1:ni fs mo re=mo+(iq (fK us re)-re)*(h9 (fK us re):Rat):=by
    show mo+(gA fs mo re-re) * _ = _
    rw [eE,eS]
   have HY:∀ x,x∈fH fs mo re↔x∈sV fs mo\/x=ni fs mo re:=fun x=>by
    unfold fH
    rw [if_neg hd,aY]
    simp
   by_cases c:t<mo+(iq (fK us re)-re)*(h9 (fK us re):Rat)
   ·rw [if_pos c]
    have:dY (fH fs mo re)=t:=ML ((HY t).mpr (.inl c1)) fun y hy=>by
     rcases (HY y).mp hy with z | z
     ·exact c2 y z
     ·rw [z,e1]; grind
    refine ⟨k+1,eV _,?_⟩
    rw [step]
    unfold nH
    rw [if_neg ce,if_neg hd,this,eS]
   ·rw [if_neg c]
    have em:dY (fH fs mo re)=ni fs mo re:=ML ((HY _).mpr (.inr rfl)) fun y hy=>by
     rcases (HY y).mp hy with z | z
     ·have:=c2 y z
      rw [e1]; grind
     ·rw [z]; exact aB
    have tg:=oJ b.s1 hd
    rw [em,e1,eS] at tg
    have gt:=tg.gt
    have gE:=my hh
    have S1:1<=h9 (fK us re):=by
     have:=DM b.s1 hd
     rw [eS] at this
     exact this
    have S0:(0:Rat)<(h9 (fK us re):Rat):=bJ (by omega)
    have J4:re+(mo+(iq (fK us re)-re)*(h9 (fK us re):Rat)-mo) / (h9 (fK us re):Rat)=iq (fK us re):=by
     have:(h9 (fK us re):Rat)≠0:=by grind
     grind
    have st:aI fs (k+1)=(mo+(iq (fK us re)-re)*(h9 (fK us re):Rat),iq (fK us re)):=by
     rw [step]
     unfold nH
     rw [if_neg ce,if_neg hd,em,e1,eS,J4]
    have al:=sR hh
    obtain ⟨k',hk,ek⟩:=R7 b IP n (k+1) _ _ st (by grind) (by grind) (by grind) (by omega)
    exact ⟨k',by omega,ek⟩
end Sw
namespace Sw
open L2
theorem Jy {qs:List Q4}:∀ {s:Ti} {i:Nat} {q:Q4},(∀ q∈qs,s.eG<=q.1)->qs.Pairwise (fun a b=>a.1<=b.1)->qs[i]? = some q->(s.after (qs.take i)).eG<=q.1:=by
 induction qs with
 | nil=>intro s i q _ _ e; simp at e
 | cons x r ih =>
  intro s i q h0 hp e
  obtain ⟨h1,h2⟩:=nC.mp hp
  cases i with
  | zero =>
   have:x=q:=by simpa using e
   subst this
   exact h0 x (by simp)
  | succ j =>
   have e:r[j]? = some q:=by simpa using e
   exact ih (s:=s.ly x) (fun y hy=>h1 y hy) h2 e
structure Good (n:Nat) (M:Int) (a c:Nat) (qs:List Q4):Prop where
 F:zG n M a c
 ln:qs.length<=n
 pc:∀ q∈qs,nU M q
 pw:qs.Pairwise (fun a b=>a.1<=b.1)
theorem Good.run {n:Nat} {M:Int} {a c:Nat} {qs:List Q4} (g:Good n M a c qs):∀ {i:Nat},i<=qs.length->∃ D,kq n M c (Ti.nil.after (qs.take i)) i D
 | 0,_=>⟨1,kq.nil⟩
 | i+1,hi=>by
  obtain ⟨D,r⟩:=g.run (i:=i) (by omega)
  have e:qs[i]? = some (qs[i]'(by omega)):=au _
  obtain ⟨D',j,_,_,r',_⟩:=r.ly g.F (by have:=g.ln; omega) (g.pc _ (aq e)) (Jy (s:=Ti.nil) (fun q h=>(g.pc q h).1) g.pw e)
  rw [L2.aV e,Ti.e8]
  exact ⟨D',r'⟩
theorem Good.GR {n:Nat} {M:Int} {a c:Nat} {qs:List Q4} (g:Good n M a c qs) {i:Nat} {q:Q4} (e:qs[i]? = some q):(Ti.nil.after (qs.take i)).re<=(Ti.nil.after (qs.take i)).rv q:=by
 have hi:=(aa.mp e).1
 obtain ⟨D,r⟩:=g.run (i:=i) (by omega)
 exact (nj r.ok (Jy (s:=Ti.nil) (fun q h=>(g.pc q h).1) g.pw e)).2.1
def EE (l:List Q4):List T3:=List.zipWith (fun q t=>(t.1,t.2,q.2.2.2)) l (Ti.nil.tags l)
theorem W5 (l:List Q4) (q:Q4):EE (l++[q])=EE l++[((Ti.nil.after l).iR q,(Ti.nil.after l).fin q,q.2.2.2)]:=by
 unfold EE
 rw [Ti.jH,List.zipWith_append (by rw [Ti.dP])]
 rfl
theorem Good.fK {n:Nat} {M:Int} {a c:Nat} {qs:List Q4} (g:Good n M a c qs):∀ {i:Nat},i<=qs.length->∀ m,(Ti.nil.after (qs.take i)).re<=m->Sw.fK (Ti.nil.after (qs.take i)).us m=(EE (qs.take i)).filter (mE m)
 | 0,_,m,_=>rfl
 | i+1,hi,m,hm=>by
  have e:qs[i]? = some (qs[i]'(by omega)):=au _
  have ge:=g.GR e
  generalize qs[i]'(by omega)=q at e ge
  rw [L2.aV e,Ti.e8] at hm ⊢
  have hm:(Ti.nil.after (qs.take i)).rv q<=m:=hm
  rw [W5,cG,<- g.fK (i:=i) (by omega) m (by grind)]
  show ((((Ti.nil.after (qs.take i)).us.filter fun u:T3=>decide ((Ti.nil.after (qs.take i)).rv q<u.2.1))++[_]).filter (mE m)) = _
  rw [cG,List.filter_filter]
  unfold Sw.fK
  congr 1
  refine jN fun u _=>?_
  cases h:mE m u with
  | false=>rfl
  | true =>
   unfold mE at h
   simp only [iP,iG,decide_eq_false_iff_not,decide_eq_true_eq] at h
   rw [Bool.true_and,decide_eq_true_eq]
   grind
theorem Jc:∀ {s:Ti} {l:List Q4} {i:Nat},s.tags (l.take i)=(s.tags l).take i
 | _,_,0=>by simp [Ti.tags]
 | _,[],_ + 1=>rfl
 | s,q :: r,i+1=>by
  show (s.iR q,s.fin q) :: (s.ly q).tags (r.take i) = _
  rw [Jc]
  rfl
theorem XT (qs:List Q4) (i:Nat):((aX qs (Ti.nil.tags qs)).take i).map (·.2)=EE (qs.take i):=by
 unfold aX EE
 rw [List.take_zipWith,Jc,List.map_zipWith]
theorem iA {qs:List Q4} {i:Nat} {q:Q4} (e:qs[i]? = some q):∃ t:Rat×Rat,(aX qs (Ti.nil.tags qs))[i]? = some (q.1,t.1,t.2,q.2.2.2):=by
 have hi:=(aa.mp e).1
 exact ⟨_,DK e (au (show i<(Ti.nil.tags qs).length by rw [Ti.dP]; exact hi))⟩
theorem YW {qs:List Q4}:∀ {i:Nat} {q:Q4},qs[i]? = some q->(Ti.nil.after (qs.take (i+1))).eG=q.1:=fun {i q} e=>by
 rw [L2.aV e,Ti.e8]
 rfl
theorem Good.S6 {n:Nat} {M:Int} {a c:Nat} {qs:List Q4} (g:Good n M a c qs) {i:Nat} {q:Q4} (e:qs[i]? = some q):HQ (aX qs (Ti.nil.tags qs)) (Ti.nil.after (qs.take i)).us ((Ti.nil.after (qs.take i)).eG:Rat) (Ti.nil.after (qs.take i)).re (q.1:Rat):=by
 have hi:=(aa.mp e).1
 obtain ⟨D,ok⟩:=mw g.F g.ln g.pc g.pw
 have ON:=sE.mp g.pw
 have at_:∀ {j:Nat} {f:F4},(aX qs (Ti.nil.tags qs))[j]? = some f->∃ r,qs[j]? = some r/\f.1=r.1:=fun {j f} h=>by
  have hj:j<qs.length:=by
   have:=(aa.mp h).1
   rw [A8 Ti.dP] at this
   exact this
  have e1:qs[j]? = some (qs[j]'hj):=au _
  obtain ⟨t,e2⟩:=iA e1
  rw [h] at e2
  cases e2
  exact ⟨_,e1,rfl⟩
 have low:∀ {j:Nat} {r:Q4},qs[j]? = some r->j<i->r.1<=(Ti.nil.after (qs.take i)).eG:=fun {j r} h hj=>by
  obtain ⟨i',rfl⟩:∃ i',i=i' + 1:=⟨i-1,by omega⟩
  have e1:qs[i']? = some (qs[i']'(by omega)):=au _
  rw [YW e1]
  have FQ:=(aa.mp h).1
  have ej:qs[j]'FQ=r:=(aa.mp h).2
  by_cases c:j=i'
  ·subst c
   rw [ej]
   exact fE _
  ·have:=ON j i' FQ (by omega) (by omega)
   rw [ej] at this
   exact this
 have high:∀ {j:Nat} {r:Q4},qs[j]? = some r->i<=j->q.1<=r.1:=fun {j r} h hj=>by
  have FQ:=(aa.mp h).1
  have ej:qs[j]'FQ=r:=(aa.mp h).2
  have ei:qs[i]'hi=q:=(aa.mp e).2
  by_cases c:j=i
  ·subst c
   rw [<- ej,<- ei]
   exact fE _
  ·have:=ON i j hi FQ (by omega)
   rw [ej,ei] at this
   exact this
 refine ⟨ok.s1,?_,fun f hf=>?_,fun mo ma h1 h2 h3=>?_⟩
 ·obtain ⟨t,h⟩:=iA e
  exact ⟨_,aq h,rfl⟩
 ·obtain ⟨j,hj⟩:=dN hf
  obtain ⟨r,hr,er⟩:=at_ hj
  rw [er,ak,ak]
  by_cases c:j<i
  ·exact .inl (low hr c)
  ·exact .inr (high hr (by omega))
 ·have sp:aX qs (Ti.nil.tags qs)=(aX qs (Ti.nil.tags qs)).take i++(aX qs (Ti.nil.tags qs)).drop i:=(wc _ _).symm
  unfold Av
  rw [sp,cG]
  have e1:((aX qs (Ti.nil.tags qs)).drop i).filter (pW mo ma) = []:=by
   refine List.filter_eq_nil_iff.mpr fun f hf=>?_
   obtain ⟨j,hj⟩:=dN hf
   rw [List.getElem?_drop] at hj
   obtain ⟨r,hr,er⟩:=at_ hj
   have:=high hr (by omega)
   have:(q.1:Rat)<=(r.1:Rat):=ak.mpr this
   intro z
   obtain ⟨z1,_⟩:=iW.mp z
   rw [er] at z1
   grind
  have e2:((aX qs (Ti.nil.tags qs)).take i).filter (pW mo ma)=((aX qs (Ti.nil.tags qs)).take i).filter fun f=>mE ma f.2:=by
   refine jN fun f hf=>?_
   obtain ⟨j,hj⟩:=dN hf
   have NY:j<i:=by
    have:=(aa.mp hj).1
    rw [bZ] at this
    omega
   rw [ia,if_pos NY] at hj
   obtain ⟨r,hr,er⟩:=at_ hj
   have:=low hr NY
   have:(r.1:Rat)<=((Ti.nil.after (qs.take i)).eG:Rat):=ak.mpr this
   unfold pW
   rw [er,decide_eq_false (by grind)]
   rfl
  rw [e1,bx,e2,g.fK (by omega) ma h3,<- XT,Cy]
  rfl
theorem Good.m7 {n:Nat} {M:Int} {a c:Nat} {qs:List Q4} (g:Good n M a c qs):∀ {i:Nat},i<=qs.length->∃ k,aI (aX qs (Ti.nil.tags qs)) k=(((Ti.nil.after (qs.take i)).eG:Rat),(Ti.nil.after (qs.take i)).re)
 | 0,_=>⟨0,rfl⟩
 | i+1,hi=>by
  obtain ⟨k,hk⟩:=g.m7 (i:=i) (by omega)
  have e:qs[i]? = some (qs[i]'(by omega)):=au _
  have lt:=Jy (s:=Ti.nil) (fun q h=>(g.pc q h).1) g.pw e
  obtain ⟨D,r⟩:=g.run (i:=i) (by omega)
  obtain ⟨k',_,FS⟩:=R7 (g.S6 e) (fun u hu=>(r.ok.ED u hu).s1) ((Ti.nil.after (qs.take i)).us.length+1) k _ _ hk aB (ak.mpr lt) aB (by have:=sQ (Ti.nil.after (qs.take i)).us (Ti.nil.after (qs.take i)).re; omega)
  refine ⟨k',?_⟩
  rw [FS,L2.aV e,Ti.e8]
  rfl
end Sw
namespace Sw
open L2
section
variable {fs:List F4}
def iV (fs:List F4) (i:Nat) (s:Rat×Rat):Prop:=∃ f,fs[i]? = some f/\(f.1:Rat)<=s.1/\f.2.1<=s.2/\s.2<f.2.2.1
theorem gH {i:Nat} {s:Rat×Rat}:iV fs i s↔i∈cU fs s.1 s.2:=by
 rw [jm]
 constructor
 ·rintro ⟨f,e,h⟩; exact ⟨f,e,iW.mpr h⟩
 ·rintro ⟨f,e,h⟩; exact ⟨f,e,iW.mp h⟩
theorem EF (s1:∀ f∈fs,1<=f.2.2.2) (k:Nat):(fH fs (aI fs k).1 (aI fs k).2 = []/\aI fs (k+1)=aI fs k)\/(fH fs (aI fs k).1 (aI fs k).2≠[]/\sP fs (aI fs k).1 (aI fs k).2 (aI fs (k+1)).1 (aI fs (k+1)).2):=by
 show _\/_
 have e:aI fs (k+1)=nH fs (aI fs k):=rfl
 rw [e]
 generalize aI fs k=s
 unfold nH
 by_cases c:fH fs s.1 s.2 = []
 ·exact .inl ⟨c,by rw [if_pos c]⟩
 ·refine .inr ⟨c,?_⟩
  rw [if_neg c]
  by_cases h:cU fs s.1 s.2 = []
  ·rw [if_pos h]; exact kW h c
  ·rw [if_neg h]; exact oJ s1 h
theorem DU (s1:∀ f∈fs,1<=f.2.2.2) (k:Nat):(aI fs k).1<=(aI fs (k+1)).1/\(aI fs k).2<=(aI fs (k+1)).2:=by
 rcases EF s1 k with ⟨_,e⟩ | ⟨_,t⟩
 ·rw [e]; exact ⟨aB,aB⟩
 ·have:=t.gt
  exact ⟨by grind,t.ge⟩
theorem qg (s1:∀ f∈fs,1<=f.2.2.2) {j:Nat}:∀ {k:Nat},j<=k->(aI fs j).1<=(aI fs k).1/\(aI fs j).2<=(aI fs k).2
 | 0,h=>by
  have:j = 0:=by omega
  subst this
  exact ⟨aB,aB⟩
 | k+1,h=>by
  by_cases c:j=k+1
  ·subst c; exact ⟨aB,aB⟩
  ·have a:=qg s1 (j:=j) (k:=k) (by omega)
   have b:=DU s1 k
   exact ⟨fF a.1 b.1,fF a.2 b.2⟩
theorem MC {j:Nat} (h:fH fs (aI fs j).1 (aI fs j).2 = []):∀ {k:Nat},j<=k->aI fs k=aI fs j
 | 0,hk=>by
  have:j = 0:=by omega
  subst this
  rfl
 | k+1,hk=>by
  by_cases c:j=k+1
  ·subst c; rfl
  ·have e:=MC h (k:=k) (by omega)
   show nH fs (aI fs k) = _
   rw [e]
   unfold nH
   rw [if_pos h]
theorem MW (s1:∀ f∈fs,1<=f.2.2.2) {j k:Nat} (h:j<k) (hc:fH fs (aI fs k).1 (aI fs k).2≠[]):(aI fs j).1<(aI fs k).1:=by
 rcases EF s1 j with ⟨c,_⟩ | ⟨_,t⟩
 ·exfalso
  have:=MC c (k:=k) (by omega)
  rw [this] at hc
  exact hc c
 ·have a:=(qg s1 (show j+1<=k by omega)).1
  have:=t.gt
  grind
theorem EI {i:Nat} {k:Nat} (h:iV fs i (aI fs k)):fH fs (aI fs k).1 (aI fs k).2≠[]:=Jx fun z=>by
 have:=gH.mp h
 rw [z] at this
 cases this
theorem Qi (s1:∀ f∈fs,1<=f.2.2.2) {i:Nat} {f:F4} (hf:fs[i]? = some f):∀ (m k:Nat),mu fs (aI fs k).1 (aI fs k).2<=m->iV fs i (aI fs k)->∃ k2,k<k2/\(aI fs k2).2=f.2.2.1/\∀ j,k<=j->j<k2->iV fs i (aI fs j)
 | m,k,hm,h=>by
  have ne:cU fs (aI fs k).1 (aI fs k).2≠[]:=fun z=>by
   have:=gH.mp h
   rw [z] at this
   cases this
  rcases EF s1 k with ⟨c,_⟩ | ⟨_,t⟩
  ·exact absurd c (EI h)
  have Oo:=mT t
  have le:=t.le ne
  have ge:=t.ge
  have gt:=t.gt
  obtain ⟨g,e,a1,a2,a3⟩:=h
  rw [hf] at e
  cases e
  have lE:gA fs (aI fs k).1 (aI fs k).2<=f.2.2.1:=by
   refine DN (aP.mpr ⟨i,gH.mp ⟨f,hf,a1,a2,a3⟩,?_⟩)
   exact lO hf
  by_cases c:(aI fs (k+1)).2=f.2.2.1
  ·refine ⟨k+1,by omega,c,fun j h1 h2=>?_⟩
   have:j=k:=by omega
   subst this
   exact ⟨f,hf,a1,a2,a3⟩
  ·have hn:iV fs i (aI fs (k+1)):=⟨f,hf,by grind,by grind,by grind⟩
   match m,hm with
   | 0,hm=>omega
   | m+1,hm =>
    obtain ⟨k2,h1,h2,h3⟩:=Qi s1 hf m (k+1) (by omega) hn
    refine ⟨k2,by omega,h2,fun j b1 b2=>?_⟩
    by_cases cj:j=k
    ·subst cj; exact ⟨f,hf,a1,a2,a3⟩
    ·exact h3 j (by omega) b2
structure kh (fs:List F4) (i:Nat) (f:F4) (k1 k2:Nat):Prop where
 lt:k1<k2
 hd:∀ k,iV fs i (aI fs k)↔k1<=k/\k<k2
 en:(aI fs k2).2=f.2.2.1
 pa:∀ k,f.2.2.1<=(aI fs k).2↔k2<=k
theorem W6 (s1:∀ f∈fs,1<=f.2.2.2) {i k1:Nat} {f:F4} (hf:fs[i]? = some f) (h:iV fs i (aI fs k1)) (no:∀ k,k<k1->¬ iV fs i (aI fs k)):∃ k2,kh fs i f k1 k2:=by
 obtain ⟨k2,h1,h2,h3⟩:=Qi s1 hf _ k1 (av _) h
 have GF:∀ k,f.2.2.1<=(aI fs k).2↔k2<=k:=fun k=>by
  constructor
  ·intro z
   by_cases c:k2<=k
   ·exact c
   ·exfalso
    obtain ⟨g,e,_,_,a3⟩:=h3 (k2-1) (by omega) (by omega)
    rw [hf] at e
    cases e
    have:=(qg s1 (show k<=k2-1 by omega)).2
    grind
  ·intro z
   have:=(qg s1 z).2
   grind
 refine ⟨k2,h1,fun k=>⟨fun hk=>?_,fun hk=>h3 k hk.1 hk.2⟩,h2,GF⟩
 refine ⟨?_,?_⟩
 ·by_cases c:k1<=k
  ·exact c
  ·exact absurd hk (no k (by omega))
 ·by_cases c:k<k2
  ·exact c
  ·exfalso
   obtain ⟨g,e,_,_,a3⟩:=hk
   rw [hf] at e
   cases e
   have:=(GF k).mpr (by omega)
   grind
end
end Sw
namespace Sw
open L2
section
variable {fs:List F4}
def nV (fs:List F4) (k:Nat):List qp:=if cU fs (aI fs k).1 (aI fs k).2 = [] then [] else [((aI fs k).1,(aI fs (k+1)).1,qF fs (aI fs k).1 (aI fs k).2)]
theorem WD {mo ma:Rat} (h:fH fs mo ma = []):∀ n,cE fs n mo ma = []
 | 0=>rfl
 | n+1=>by rw [iz,if_pos h]
theorem Mp (n k:Nat):cE fs (n+1) (aI fs k).1 (aI fs k).2=nV fs k++cE fs n (aI fs (k+1)).1 (aI fs (k+1)).2:=by
 rw [iz]
 unfold nV
 have e:aI fs (k+1)=nH fs (aI fs k):=rfl
 rw [e]
 generalize aI fs k=s
 by_cases c:fH fs s.1 s.2 = []
 ·have h:cU fs s.1 s.2 = []:=by
   by_cases z:cU fs s.1 s.2 = []
   ·exact z
   ·exact absurd c (Jx z)
  have en:nH fs s=s:=by unfold nH; rw [if_pos c]
  rw [if_pos c,if_pos h,en,WD c]
  rfl
 ·rw [if_neg c]
  by_cases h:cU fs s.1 s.2 = []
  ·have en:nH fs s=(dY (fH fs s.1 s.2),s.2):=by unfold nH; rw [if_neg c,if_pos h]
   rw [if_pos h,if_pos h,en]
   rfl
  ·have en:nH fs s=(dY (fH fs s.1 s.2),s.2+(dY (fH fs s.1 s.2)-s.1) / (fZ fs (cU fs s.1 s.2):Rat)):=by unfold nH; rw [if_neg c,if_neg h]
   rw [if_neg h,if_neg h,en]
   rfl
theorem Qj (m:Nat):∀ (n k:Nat),cE fs (n+m) (aI fs k).1 (aI fs k).2=cE fs n (aI fs k).1 (aI fs k).2++cE fs m (aI fs (k+n)).1 (aI fs (k+n)).2
 | 0,k=>by rw [fY]; rfl
 | n+1,k=>by
  rw [show n+1+m=n+m+1 by omega,Mp,Mp,Qj m n (k+1),oi,show k+1+n=k+(n+1) by omega]
theorem DH (n:Nat):cE fs (n+1) 0 0=cE fs n 0 0++nV fs n:=by
 have h:=Qj (fs:=fs) 1 n 0
 rw [fY] at h
 rw [show cE fs (n+1) 0 0=cE fs (n+1) (aI fs 0).1 (aI fs 0).2 from rfl,h,Mp 0 n]
 rw [show cE fs 0 (aI fs (n+1)).1 (aI fs (n+1)).2 = [] from rfl,bx]
 rfl
theorem Rk {en:Int->Option Rat} {e:Rat} {w:Int}:∀ {ps:List (Nat×Rat)},((∃ p∈ps,(p.1:Int)=w)->mL en e ps w=some e)/\((¬ ∃ p∈ps,(p.1:Int)=w)->mL en e ps w=en w):=fun {ps}=>by
 have go:∀ (r:List (Nat×Rat)),(∀ p∈r,(p.1:Int)≠w)->∀ m:Int->Option Rat,mL m e r w=m w:=fun r=>by
  induction r with
  | nil=>intro _ m; rfl
  | cons p r ih =>
   intro h m
   show mL (gw m (p.1:Int) e) e r w = _
   rw [ih (fun x hx=>h x (aA _ hx))]
   unfold gw
   rw [if_neg (fun z=>h p (by simp) z.symm)]
 refine ⟨?_,fun h=>go ps (fun p hp z=>h ⟨p,hp,z⟩) en⟩
 have any:∀ (r:List (Nat×Rat)),∀ m:Int->Option Rat,m w=some e\/(∃ p∈r,(p.1:Int)=w)->mL m e r w=some e:=fun r=>by
  induction r with
  | nil =>
   intro m h
   rcases h with z | ⟨p,hp,_⟩
   ·exact z
   ·cases hp
  | cons p r ih =>
   intro m h
   refine ih (gw m (p.1:Int) e) ?_
   unfold gw
   by_cases c:w=(p.1:Int)
   ·exact .inl (by rw [if_pos c])
   ·rcases h with z | ⟨x,hx,z⟩
    ·exact .inl (by rw [if_neg c]; exact z)
    ·rcases aM.mp hx with y | y
     ·subst y; exact absurd z.symm c
     ·exact .inr ⟨x,y,z⟩
 exact fun h=>any ps en (.inr h)
theorem Rl {i k1 k2:Nat} {f:F4} (L:kh fs i f k1 k2):∀ n,(n<=k1->endsF (cE fs n 0 0) (i:Int)=none)/\(k1<n->endsF (cE fs n 0 0) (i:Int)=some (aI fs (min n k2)).1)
  | 0=>⟨fun _=>rfl,fun h=>absurd h (lA _)⟩
  | n+1=>by
    obtain ⟨Uw,Ux⟩:=Rl L n
    have lt:=L.lt
    have step:endsF (cE fs (n+1) 0 0) (i:Int)=if k1<=n/\n<k2 then some (aI fs (n+1)).1 else endsF (cE fs n 0 0) (i:Int):=by
      rw [DH]
      unfold nV
      by_cases he:cU fs (aI fs n).1 (aI fs n).2 = []
      · rw [if_pos he,bx,if_neg]
        intro z
        have:=gH.mp ((L.hd n).mpr z)
        rw [he] at this
        cases this
      · rw [if_neg he,pA]
        show mL _ (aI fs (n+1)).1 (qF fs (aI fs n).1 (aI fs n).2) (i:Int) = _
        have Og:(∃ p∈qF fs (aI fs n).1 (aI fs n).2,(p.1:Int)=(i:Int))↔k1<=n/\n<k2:=by
          rw [<- L.hd n,gH]
          unfold qF
          constructor
          · rintro ⟨p,hp,e⟩
            obtain ⟨j,hj,rfl⟩:=aP.mp hp
            have : j = i := by have : (j : Int) = (i : Int) := e
                               omega
            rw [<- this]; exact hj
          · intro h
            exact ⟨_,aP.mpr ⟨i,h,rfl⟩,rfl⟩
        by_cases c:k1<=n/\n<k2
        · rw [if_pos c]; exact Rk.1 (Og.mpr c)
        · rw [if_neg c]; exact Rk.2 fun z=>c (Og.mp z)
    rw [step]
    refine ⟨fun h=>?_,fun h=>?_⟩
    · rw [if_neg (by omega)]; exact Uw (by omega)
    · by_cases c:n<k2
      · rw [if_pos ⟨by omega,c⟩,show min (n+1) k2=n+1 by omega]
      · rw [if_neg (by omega),Ux (by omega),show min n k2=min (n+1) k2 by omega]
theorem QG (s1:∀ f∈fs,1<=f.2.2.2):∀ {k:Nat},fH fs (aI fs k).1 (aI fs k).2≠[]->k+mu fs (aI fs k).1 (aI fs k).2<=mu fs 0 0
 | 0,_=>by show 0+mu fs 0 0<=_; omega
 | k+1,h=>by
  rcases EF s1 k with ⟨c,e⟩ | ⟨c,t⟩
  ·rw [e] at h; exact absurd c h
  ·have:=QG s1 c
   have:=mT t
   omega
theorem kh.le {i k1 k2 n:Nat} {f:F4} (s1:∀ f∈fs,1<=f.2.2.2) (ln:fs.length<=n) (L:kh fs i f k1 k2):k2<=2*n+1:=by
 have lt:=L.lt
 have h:=(L.hd (k2-1)).mpr ⟨by omega,by omega⟩
 have:=QG s1 (EI h)
 have:=Om ln 0 0
 omega
end
structure E9 (n:Nat) (qs:List Q4) (i:Nat) (k1 k2:Nat):Prop where
 ex:∃ f,(aX qs (Ti.nil.tags qs))[i]? = some f/\kh (aX qs (Ti.nil.tags qs)) i f k1 k2
 en:endsF (cE (aX qs (Ti.nil.tags qs)) (2*n+1) 0 0) (i:Int)=some (aI (aX qs (Ti.nil.tags qs)) k2).1
 be:∀ q,qs[i]? = some q->kA (g8 (endsF (cE (aX qs (Ti.nil.tags qs)) (2*n+1) 0 0)) 0 (fun _=>none) (qs.take i)) q=(aI (aX qs (Ti.nil.tags qs)) k1).1
def HU (n:Nat) (qs:List Q4) (i:Nat) (w:Int):Prop :=
 ((Ti.nil.after (qs.take i)).en w=none/\g8 (endsF (cE (aX qs (Ti.nil.tags qs)) (2*n+1) 0 0)) 0 (fun _=>none) (qs.take i) w=none) \/
 ∃ e k2,(Ti.nil.after (qs.take i)).en w=some e/\(aI (aX qs (Ti.nil.tags qs)) k2).2=e/\(∀ k,e<=(aI (aX qs (Ti.nil.tags qs)) k).2↔k2<=k)/\g8 (endsF (cE (aX qs (Ti.nil.tags qs)) (2*n+1) 0 0)) 0 (fun _=>none) (qs.take i) w=some (aI (aX qs (Ti.nil.tags qs)) k2).1
theorem Good.step {n:Nat} {M:Int} {a c:Nat} {qs:List Q4} (g:Good n M a c qs) {i:Nat} {q:Q4} (e:qs[i]? = some q) (rel:∀ w,HU n qs i w):(∃ k1 k2,E9 n qs i k1 k2)/\∀ w,HU n qs (i+1) w:=by
 have hi:=(aa.mp e).1
 obtain ⟨D0,ok⟩:=mw g.F g.ln g.pc g.pw
 have s1:=ok.s1
 have ln:(aX qs (Ti.nil.tags qs)).length<=n:=by rw [A8 Ti.dP]; exact g.ln
 obtain ⟨D,r⟩:=g.run (i:=i) (by omega)
 have lt:=Jy (s:=Ti.nil) (fun q h=>(g.pc q h).1) g.pw e
 obtain ⟨D',j,_,_,_,_,_,_,bf,_⟩:=r.ly g.F (by have:=g.ln; omega) (g.pc q (aq e)) lt
 have ht:(Ti.nil.tags qs)[i]? = some ((Ti.nil.after (qs.take i)).iR q,(Ti.nil.after (qs.take i)).fin q):=by
  have h1:((Ti.nil.tags qs).take (i+1))[i]? = (Ti.nil.tags qs)[i]?:=by rw [ia,if_pos (by omega)]
  rw [<- h1,<- Jc,L2.aV e,Ti.jH]
  have l:(Ti.nil.tags (qs.take i)).length=i:=by rw [Ti.dP,bZ]; omega
  rw [bW (by omega),l,k8]
  rfl
 have hf:=DK e ht
 obtain ⟨kc,wD⟩:=g.m7 (i:=i+1) (by omega)
 have wD:aI (aX qs (Ti.nil.tags qs)) kc=((q.1:Rat),(Ti.nil.after (qs.take i)).rv q):=by
  rw [wD,L2.aV e,Ti.e8]
  rfl
 have a0:((0:Int):Rat)<=(q.1:Rat):=ak.mpr (g.pc q (aq e)).1
 have a0:(0:Rat)<=(q.1:Rat):=a0
 have Ez:(qs.take i).length=i:=by rw [bZ]; omega
 have e2:=kr (en:=endsF (cE (aX qs (Ti.nil.tags qs)) (2*n+1) 0 0)) (i:=0) (ah:=fun _=>none) (l:=qs.take i) (q:=q)
 rw [Ez,fY] at e2
 have wu:(Ti.nil.after (qs.take i)).iR q=max ((Ti.nil.after (qs.take i)).rv q) (((Ti.nil.after (qs.take i)).en q.2.1).getD ((Ti.nil.after (qs.take i)).rv q)):=rfl
 have rl:=rel q.2.1
 have wq:∃ k1,iV (aX qs (Ti.nil.tags qs)) i (aI (aX qs (Ti.nil.tags qs)) k1)/\(∀ k,k<k1->¬ iV (aX qs (Ti.nil.tags qs)) i (aI (aX qs (Ti.nil.tags qs)) k))/\kA (g8 (endsF (cE (aX qs (Ti.nil.tags qs)) (2*n+1) 0 0)) 0 (fun _=>none) (qs.take i)) q=(aI (aX qs (Ti.nil.tags qs)) k1).1:=by
  have first:(Ti.nil.after (qs.take i)).iR q=(Ti.nil.after (qs.take i)).rv q->iV (aX qs (Ti.nil.tags qs)) i (aI (aX qs (Ti.nil.tags qs)) kc)/\∀ k,k<kc->¬ iV (aX qs (Ti.nil.tags qs)) i (aI (aX qs (Ti.nil.tags qs)) k):=fun eb=>by
   have hh:iV (aX qs (Ti.nil.tags qs)) i (aI (aX qs (Ti.nil.tags qs)) kc):=by
    refine ⟨_,hf,?_,?_,?_⟩
    ·rw [wD]; exact aB
    ·rw [wD]
     show (Ti.nil.after (qs.take i)).iR q<=(Ti.nil.after (qs.take i)).rv q
     grind
    ·rw [wD]
     show (Ti.nil.after (qs.take i)).rv q<(Ti.nil.after (qs.take i)).fin q
     grind
   refine ⟨hh,fun k hk z=>?_⟩
   have:=MW s1 hk (EI hh)
   rw [wD] at this
   obtain ⟨g',eg,z1,_⟩:=z
   rw [hf] at eg
   cases eg
   have z1:(q.1:Rat)<=(aI (aX qs (Ti.nil.tags qs)) k).1:=z1
   have this:(aI (aX qs (Ti.nil.tags qs)) k).1<(q.1:Rat):=this
   grind
  rcases rl with ⟨r1,r2⟩ | ⟨et,k2,r1,r2,r3,r4⟩
  ·have eb:(Ti.nil.after (qs.take i)).iR q=(Ti.nil.after (qs.take i)).rv q:=by
    rw [wu,r1,b6]
    simp
   obtain ⟨f1,f2⟩:=first eb
   refine ⟨kc,f1,f2,?_⟩
   unfold kA
   rw [r2,wD,b6]
   show (if (q.1:Rat)<=0 then (0:Rat) else (q.1:Rat))=(q.1:Rat)
   split <;> grind
  ·by_cases c:et<=(Ti.nil.after (qs.take i)).rv q
   ·have eb:(Ti.nil.after (qs.take i)).iR q=(Ti.nil.after (qs.take i)).rv q:=by
     rw [wu,r1,b6]
     show (if (Ti.nil.after (qs.take i)).rv q<=et then et else (Ti.nil.after (qs.take i)).rv q) = _
     split <;> grind
    obtain ⟨f1,f2⟩:=first eb
    refine ⟨kc,f1,f2,?_⟩
    have hk:=(r3 kc).mp (by rw [wD]; exact c)
    have le:=(qg s1 hk).1
    rw [wD] at le ⊢
    unfold kA
    rw [r4,b6]
    show (if (q.1:Rat)<=(aI (aX qs (Ti.nil.tags qs)) k2).1 then (aI (aX qs (Ti.nil.tags qs)) k2).1 else (q.1:Rat))=(q.1:Rat)
    have le:(aI (aX qs (Ti.nil.tags qs)) k2).1<=(q.1:Rat):=le
    split <;> grind
   ·have eb:(Ti.nil.after (qs.take i)).iR q=et:=by
     rw [wu,r1,b6]
     show (if (Ti.nil.after (qs.take i)).rv q<=et then et else (Ti.nil.after (qs.take i)).rv q) = _
     split <;> grind
    have hk:kc<k2:=by
     by_cases z:k2<=kc
     ·exfalso
      have:=(r3 kc).mpr z
      rw [wD] at this
      exact c this
     ·omega
    have le:=(qg s1 (show kc<=k2 by omega)).1
    rw [wD] at le
    have le:(q.1:Rat)<=(aI (aX qs (Ti.nil.tags qs)) k2).1:=le
    refine ⟨k2,⟨_,hf,le,?_,?_⟩,fun k ZK z=>?_,?_⟩
    ·rw [r2]
     show (Ti.nil.after (qs.take i)).iR q<=et
     rw [eb]; exact aB
    ·rw [r2]
     show et<(Ti.nil.after (qs.take i)).fin q
     rw [<- eb]; exact bf
    ·obtain ⟨g',eg,_,z2,_⟩:=z
     rw [hf] at eg
     cases eg
     have z2:(Ti.nil.after (qs.take i)).iR q<=(aI (aX qs (Ti.nil.tags qs)) k).2:=z2
     rw [eb] at z2
     have:=(r3 k).mp z2
     omega
    ·unfold kA
     rw [r4,b6]
     show (if (q.1:Rat)<=(aI (aX qs (Ti.nil.tags qs)) k2).1 then (aI (aX qs (Ti.nil.tags qs)) k2).1 else (q.1:Rat)) = _
     rw [if_pos le]
 obtain ⟨k1,b1,b2,b3⟩:=wq
 obtain ⟨k2,L⟩:=W6 s1 hf b1 b2
 have ZV:=L.lt
 have Ll:=L.le s1 ln
 have en:endsF (cE (aX qs (Ti.nil.tags qs)) (2*n+1) 0 0) (i:Int)=some (aI (aX qs (Ti.nil.tags qs)) k2).1:=by
  have:=(Rl L (2*n+1)).2 (by omega)
  rw [show min (2*n+1) k2=k2 by omega] at this
  exact this
 refine ⟨⟨k1,k2,⟨_,hf,L⟩,en,fun q' e'=>?_⟩,fun w=>?_⟩
 ·rw [e] at e'
  cases e'
  exact b3
 ·unfold HU
  rw [L2.aV e,Ti.e8,e2,en]
  show ((gw (Ti.nil.after (qs.take i)).en q.2.1 ((Ti.nil.after (qs.take i)).fin q) w=none/\_)\/_)
  by_cases c:w=q.2.1
  ·refine .inr ⟨(Ti.nil.after (qs.take i)).fin q,k2,?_,L.en,L.pa,?_⟩
   ·show gw (Ti.nil.after (qs.take i)).en q.2.1 ((Ti.nil.after (qs.take i)).fin q) w = _
    unfold gw
    rw [if_pos c]
   ·unfold gw
    rw [if_pos c]
    rfl
  ·have h1:gw (Ti.nil.after (qs.take i)).en q.2.1 ((Ti.nil.after (qs.take i)).fin q) w=(Ti.nil.after (qs.take i)).en w:=by unfold gw; rw [if_neg c]
   rcases rel w with ⟨r1,r2⟩ | ⟨et,k',r1,r2,r3,r4⟩
   ·refine .inl ⟨by rw [h1]; exact r1,?_⟩
    unfold gw
    rw [if_neg c]; exact r2
   ·refine .inr ⟨et,k',by show gw _ _ _ w = _; rw [h1]; exact r1,r2,r3,?_⟩
    unfold gw
    rw [if_neg c]; exact r4
theorem Good.rel {n:Nat} {M:Int} {a c:Nat} {qs:List Q4} (g:Good n M a c qs):∀ {i:Nat},i<=qs.length->∀ w,HU n qs i w
 | 0,_,w=>.inl ⟨rfl,rfl⟩
 | i+1,hi,w=>(g.step (au (show i<qs.length by omega)) (g.rel (i:=i) (by omega))).2 w
theorem Good.span {n:Nat} {M:Int} {a c:Nat} {qs:List Q4} (g:Good n M a c qs) {i:Nat} (hi:i<qs.length):∃ k1 k2,E9 n qs i k1 k2:=(g.step (au hi) (g.rel (i:=i) (by omega))).1
end Sw
namespace Sw
open L2
end Sw
namespace L2
open PySem PySem.Spec PyProof.Rows
def JJ (K:ai) (a b:Addr):It :=
  ⟨fun i H=>∃ xs ys x y,gR K H a xs/\gR K H b ys/\xs[i]? = some x/\ys[i]? = some y,
   fun i H v H'=>∃ p x y,v = .ref p/\H p=none/\(∀ xs,gR K H a xs->xs[i]? = some x)/\(∀ ys,gR K H b ys->ys[i]? = some y)/\H'=aQ H p (.tup [x,y]),
   fun i H=>∃ xs ys,gR K H a xs/\gR K H b ys/\(xs.length<=i\/ys.length<=i)⟩
theorem W7 {P:Program} {w:World} {K:ai} {o8:List Expr} {x1} {pos:Pos} (a b z TI TO i1 i2:Addr) (D:ZipApart z TI TO i1 i2 a b) :
    wo P w K (.Tuple o8 x1 pos) (JJ K a b) [z,TI,TO,i1,i2] z (fun i h=>IsZip h z TI TO .none/\IsPair h TI (.ref i1) (.ref i2)/\(∃ c d,IsPair h TO c d)/\h.IsListIter i1 a i/\h.IsListIter i2 b i) where
  mem:=by simp
  obj:=fun i h st c hc=>by
    obtain ⟨h1,h2,⟨c1,d1,h3⟩,h4,h5⟩:=st
    simp only [aM,aR,or_false] at hc
    rcases hc with rfl | rfl | rfl | rfl | rfl
    · exact ⟨_,h1,fun v y=>by cases y⟩
    · exact ⟨_,h2,fun v y=>by cases y⟩
    · exact ⟨_,h3,fun v y=>by cases y⟩
    · obtain ⟨o,e,_,d⟩:=h4
      exact ⟨o,e,fun v y=>by rw [d] at y; cases y⟩
    · obtain ⟨o,e,_,d⟩:=h5
      exact ⟨o,e,fun v y=>by rw [d] at y; cases y⟩
  keep:=fun i h h' st k=>by
    obtain ⟨h1,h2,⟨c1,d1,h3⟩,h4,h5⟩:=st
    exact ⟨k z (by simp) _ h1,k TI (by simp) _ h2,⟨c1,d1,k TO (by simp) _ h3⟩,h4.at fun o q=>k i1 (by simp) o q,h5.at fun o q=>k i2 (by simp) o q⟩
  item:=by
    intro X hP hw hK hc i ao s σ H E I hf st hg
    subst hP hw hK
    obtain ⟨h1,h2,⟨c1,d1,h3⟩,h4,h5⟩:=st
    obtain ⟨xs,ys,x,y,Eu,ue,hx,hy⟩:=hg
    obtain ⟨Gj,IC,p1,La⟩:=I.list Eu
    obtain ⟨uO,ID,p2,Oe⟩:=I.list ue
    obtain ⟨u1,Us,U8⟩:=IC.get hx
    obtain ⟨u2,Iq,U9⟩:=ID.get hy
    have qy:∀ c,c∈[z,TI,TO,i1,i2]->H c=none:=fun c h=>(hf c h).1
    have jx:∀ c,c∈[z,TI,TO,i1,i2]->c<s.heap.objs.size:=fun c h=>by
      simp only [aM,aR,or_false] at h
      rcases h with rfl | rfl | rfl | rfl | rfl
      · exact Heap.lt_size h1
      · exact Heap.lt_size h2
      · exact Heap.lt_size h3
      · obtain ⟨o,q,_⟩:=id h4; exact Heap.lt_size q
      · obtain ⟨o,q,_⟩:=id h5; exact Heap.lt_size q
    refine wpAny_pyNext_zip_item D h1 h2 h3 h4 h5 p1.isList p2.isList (x:=u1) (y:=u2) (by simpa using Us) (by simpa using Iq) fun lX Uu Kp KC KE TQ hsz hk=>?_
    refine ⟨.ref s.heap.objs.size,rfl,wpAny_letOwnedTupleGo_zip Uu fun wE Lb Az=>?_⟩
    have ye:Heap.SameBut z lX wE:=Az
    have kz:∀ c o,c≠z->lX.get? c=some o->wE.get? c=some o:=fun c o n q=>(ye.2 c n).trans q
    have fresh:H s.heap.objs.size=none:=I.eW.fresh (av _)
    have OB:∀ c,c∈[z,TI,TO,i1,i2]->s.heap.objs.size≠c:=fun c h=>wd (jx c h)
    have C7:wE.get? s.heap.objs.size=some { cls:=.type "tuple", data:=.seq #[u1,u2] }:=kz _ _ (OB z (by simp)) TQ
    have k2:∀ c o,c ∉ [z,TI,TO,i1,i2]->s.heap.get? c=some o->wE.get? c=some o:=fun c o n q=>by
      simp only [aM,aR,or_false,not_or] at n
      exact kz c o n.1 (hk c o n.1 n.2.2.1 n.2.2.2.1 n.2.2.2.2 q)
    have yp:∀ c v,H c=some v->c ∉ [z,TI,TO,i1,i2]:=fun c v q h=>by rw [qy c h] at q; cases q
    have up:∀ c o,H c=some o->(aQ H s.heap.objs.size (.tup [x,y])) c=some o:=fun c o q=>by rw [c8 (gX q fresh)]; exact q
    have I2:Inv X ao σ (aQ H s.heap.objs.size (.tup [x,y])) { s with heap:=wE }:=by
      refine I.step (t':=s.toks) (g':=s.gens) (d':=s.drawn) (ch:=[z,TI,TO,i1,i2]) (fun c hc=>?_) (fun c o _ _ hc q _=>k2 c o hc q)
        (fun c o _ _ hc q _=>⟨o.slots,k2 c o hc q⟩) (fun c o _ q n=>by rw [c8 (bL (Heap.lt_size q))]; exact n)
        (fun c o hc q=>⟨o,k2 c o hc q⟩) (fun c zs q=>up c _ q) (fun c ob v q=>up c _ q) (fun c ps q=>⟨#[],by rw [up c _ q]; simp⟩) (fun m hm=>?_) (fun c v q=>?_) I.bare
      · obtain ⟨f0,f1,f2,f3,f4,f5⟩:=hf c hc
        exact ⟨f3,f1,f4,f5⟩
      · obtain ⟨o,es,ep,ho,r⟩:=hm
        refine ⟨o,es,ep,k2 _ o (fun h=>?_) ho,r⟩
        exact (hf _ h).2.1 rfl
      · by_cases hb:c=s.heap.objs.size
        · subst hb
          rw [cO] at q
          cases q
          exact ⟨by show 2<=sizeLine; decide,[u1,u2],.cons U8 (.cons U9 .nil),_,C7,rfl,_,rfl⟩
        · rw [c8 hb] at q
          refine (I.eW c v q).nZ (fun d v' hd q'=>?_) (fun d y=>up d _ y) fun d zs y=>up d _ y
          refine k2 d v' ?_ q'
          rcases hd with y | y
          · rw [y]; exact yp c v q
          · exact yp d _ y
    refine ⟨.ref s.heap.objs.size,_,I2,rfl,⟨s.heap.objs.size,x,y,rfl,fresh,fun zs hz=>by rw [I.mF hz Eu]; exact hx,fun zs hz=>by rw [I.mF hz ue]; exact hy,rfl⟩,⟨Lb,kz _ _ D.TIz (hk _ _ D.TIz D.TITO D.TIi1 D.TIi2 h2),⟨u1,u2,kz _ _ D.TOz Kp⟩,KC.at fun o q=>kz _ _ D.i1z q,KE.at fun o q=>kz _ _ D.i2z q⟩,fun c hc=>?_⟩
    rw [c8 (OB c hc).symm]
    exact qy c hc
  done:=by
    intro X hP hw hK hc i ao s σ H E I hf st hg
    subst hP hw hK
    obtain ⟨h1,h2,⟨c1,d1,h3⟩,h4,h5⟩:=st
    obtain ⟨xs,ys,Eu,ue,hx⟩:=hg
    obtain ⟨Gj,IC,p1,La⟩:=I.list Eu
    obtain ⟨uO,ID,p2,Oe⟩:=I.list ue
    have l1:=IC.length
    have l2:=ID.length
    refine wpAny_pyNext_zip_end (I.ok.hd hc) D h1 h2 h3 h4 h5 p1.isList p2.isList ?_ fun lX hk=>⟨rfl,?_⟩
    · rcases hx with h | h
      · exact .inl (by simp; omega)
      · exact .inr (by simp; omega)
    have qy:∀ c,c∈[z,TI,TO,i1,i2]->H c=none:=fun c h=>(hf c h).1
    have k2:∀ c o,c ∉ [z,TI,TO,i1,i2]->s.heap.get? c=some o->lX.get? c=some o:=fun c o n q=>by
      simp only [aM,aR,or_false,not_or] at n
      exact hk c o n.1 n.2.2.1 n.2.2.2.1 n.2.2.2.2 q
    have yp:∀ c v,H c=some v->c ∉ [z,TI,TO,i1,i2]:=fun c v q h=>by rw [qy c h] at q; cases q
    refine I.step (t':=s.toks) (g':=s.gens) (d':=s.drawn) (ch:=[z,TI,TO,i1,i2]) (fun c hc=>?_) (fun c o _ _ hc q _=>k2 c o hc q)
      (fun c o _ _ hc q _=>⟨o.slots,k2 c o hc q⟩) (fun c o _ q n=>n)
      (fun c o hc q=>⟨o,k2 c o hc q⟩) (fun c zs q=>q) (fun c ob v q=>q) (fun c ps q=>⟨#[],by simpa using q⟩) (fun m hm=>?_) (fun c v q=>?_) I.bare
    · obtain ⟨f0,f1,f2,f3,f4,f5⟩:=hf c hc
      exact ⟨f3,f1,f4,f5⟩
    · obtain ⟨o,es,ep,ho,r⟩:=hm
      refine ⟨o,es,ep,k2 _ o (fun h=>?_) ho,r⟩
      exact (hf _ h).2.1 rfl
    · refine (I.eW c v q).nZ (fun d v' hd q'=>?_) (fun d y=>y) fun d zs y=>y
      refine k2 d v' ?_ q'
      rcases hd with y | y
      · rw [y]; exact yp c v q
      · exact yp d _ y
  self:=fun _ _ _ _ _ st h=>by
    obtain ⟨h1,_⟩:=st
    exact wpAny_pyIter_zip h1 h
section
variable {X:Cx}
def AA (K:ai) (ta:TA):TI:=fun σ H R=>ta σ H fun vs H1=>∃ a b,vs = [.ref a,.ref b]/\(∃ xs,gR K H1 a xs)/\(∃ ys,gR K H1 b ys)/\R (JJ K a b) H1
theorem YX {l m:Expr} {ta:TA} {p pos rT:Pos} {o8:List Expr} {x1} (hg:Gl X "zip") (hm:X.mg "zip" = none) (ha:PA X [l,m] ta) (hs:starEach [l,m] X.env=(false,eval l X.env) :: starEach [m] X.env:=by rfl) (pY:(backTo pos (starEach [m] X.env)).any (·.1)=false:=by rfl) :
    PI X (.Tuple o8 x1 rT) (.Call (.Name "zip" p) [l,m] [] pos) (AA X.K ta):=by
  intro ao s σ H R I h
  refine Call_ (DQ I hg hm boot_zip (dB (fM (ha pos ao s σ H _ I h) fun us s1 ⟨vs,H1,I1,r1,q1⟩=>?_) hs pY))
  obtain ⟨a,b,rfl,⟨xs,Eu⟩,⟨ys,ue⟩,q⟩:=q1
  obtain ⟨u1,u2,rfl,r,r2⟩:=dw.two r1
  cases r
  cases r2
  obtain ⟨Gj,IC,p1,La⟩:=I1.list Eu
  obtain ⟨uO,ID,p2,Oe⟩:=I1.list ue
  have la:a<s1.heap.objs.size:=by obtain ⟨o,n,e,_⟩:=p1; exact Heap.lt_size e
  have lb:b<s1.heap.objs.size:=by obtain ⟨o,n,e,_⟩:=p2; exact Heap.lt_size e
  refine call_zip_2 p1.isList p2.isList fun h' hz TR TU Ua KD hsz hk=>?_
  refine wpAny_pyIter_zip hz ?_
  refine ⟨s1.heap.objs.size+4,[s1.heap.objs.size+4,s1.heap.objs.size+2,s1.heap.objs.size+3,s1.heap.objs.size,s1.heap.objs.size+1],_,_,H1,rfl,I1.kept (t':=s1.toks) hk,W7 a b _ _ _ _ _ (PyProof.Rows.zipApart_new la lb),⟨hz,TR,⟨_,_,TU⟩,Ua,KD⟩,fun c hc=>?_,q⟩
  have le:s1.heap.objs.size<=c:=by
    simp only [aM,aR,or_false] at hc
    rcases hc with rfl | rfl | rfl | rfl | rfl
    · exact ki _ _
    · exact ki _ _
    · exact ki _ _
    · exact av _
    · exact ki _ _
  exact I1.wA le (I1.eW.fresh le)
theorem Rm (K:ai) (h:X.K=K) {l m:Expr} {ta:TA} {p pos rT:Pos} {o8:List Expr} {x1} (hg:Gl X "zip") (hm:X.mg "zip" = none) (ha:PA X [l,m] ta) (hs:starEach [l,m] X.env=(false,eval l X.env) :: starEach [m] X.env:=by rfl) (pY:(backTo pos (starEach [m] X.env)).any (·.1)=false:=by rfl) :
    PI X (.Tuple o8 x1 rT) (.Call (.Name "zip" p) [l,m] [] pos) (AA K ta):=h ▸ YX hg hm ha hs pY
end
end L2
namespace Sw
open L2
section
variable {fs:List F4}
end
theorem Good.CN {n:Nat} {M:Int} {a c:Nat} {qs:List Q4} (g:Good n M a c qs) {i:Nat} {q:Q4} (e:qs[i]? = some q):∃ k,aI (aX qs (Ti.nil.tags qs)) k=((q.1:Rat),(Ti.nil.after (qs.take i)).rv q):=by
 have hi:=(aa.mp e).1
 obtain ⟨k,hk⟩:=g.m7 (i:=i+1) (by omega)
 exact ⟨k,by rw [hk,L2.aV e,Ti.e8]; rfl⟩
theorem Pn {en:Int->Option Rat}:∀ {l:List Q4} {i j:Nat} {ah:Int->Option Rat},eX en i ah (l.take j)=(eX en i ah l).take j
 | _,_,0,_=>by simp [eX]
 | [],_,_ + 1,_=>rfl
 | q :: r,i,j+1,ah=>by
  show _ :: eX en (i+1) _ (r.take j) = _
  rw [Pn]
  rfl
theorem Good.both {n:Nat} {M:Int} {a c:Nat} {qs:List Q4} (g:Good n M a c qs) {i:Nat} {q:Q4} (e:qs[i]? = some q) :
    ∃ (t u:Rat×Rat) (k1 k2:Nat),(Ti.nil.tags qs)[i]? = some t/\(eX (endsF (cE (aX qs (Ti.nil.tags qs)) (2*n+1) 0 0)) 0 (fun _=>none) qs)[i]? = some u/\(aX qs (Ti.nil.tags qs))[i]? = some (q.1,t.1,t.2,q.2.2.2)/\kh (aX qs (Ti.nil.tags qs)) i (q.1,t.1,t.2,q.2.2.2) k1 k2/\u=((aI (aX qs (Ti.nil.tags qs)) k1).1,(aI (aX qs (Ti.nil.tags qs)) k2).1):=by
  have hi:=(aa.mp e).1
  obtain ⟨k1,k2,S⟩:=g.span hi
  obtain ⟨f,hf,L⟩:=S.ex
  have Ew:i<(Ti.nil.tags qs).length:=by rw [Ti.dP]; exact hi
  have ht:(Ti.nil.tags qs)[i]? = some ((Ti.nil.tags qs)[i]'Ew):=au _
  have NU:=DK e ht
  rw [NU] at hf
  cases hf
  have Ez:(qs.take i).length=i:=by rw [bZ]; omega
  have e1:=kM (en:=endsF (cE (aX qs (Ti.nil.tags qs)) (2*n+1) 0 0)) (i:=0) (ah:=fun _=>none) (l:=qs.take i) (q:=q)
  rw [Ez,fY,S.en,S.be q e] at e1
  refine ⟨_,_,k1,k2,ht,?_,NU,L,rfl⟩
  have h1:((eX (endsF (cE (aX qs (Ti.nil.tags qs)) (2*n+1) 0 0)) 0 (fun _=>none) qs).take (i+1))[i]? = (eX (endsF (cE (aX qs (Ti.nil.tags qs)) (2*n+1) 0 0)) 0 (fun _=>none) qs)[i]?:=by rw [ia,if_pos (by omega)]
  rw [<- h1,<- Pn,L2.aV e,e1]
  have l0:(eX (endsF (cE (aX qs (Ti.nil.tags qs)) (2*n+1) 0 0)) 0 (fun _=>none) (qs.take i)).length=i:=by rw [PC,Ez]
  rw [bW (by omega),l0,k8]
  rfl
theorem pw_le {qs:List Q4} (h:qs.Pairwise (fun a b=>a.1<=b.1)) {i j:Nat} {p q:Q4} (KG:j<i) (ei:qs[i]? = some q) (ej:qs[j]? = some p):p.1<=q.1:=by
 obtain ⟨hi,rfl⟩:=aa.mp ei
 obtain ⟨hj,rfl⟩:=aa.mp ej
 exact sE.mp h j i hj hi KG
end Sw
namespace Sw
open L2
section
variable {fs:List F4}
def ms (fs:List F4) (k:Nat) (t:Rat):Rat:=if cU fs (aI fs k).1 (aI fs k).2 = [] then (aI fs k).2 else (aI fs k).2+(t-(aI fs k).1) / (fZ fs (cU fs (aI fs k).1 (aI fs k).2):Rat)
theorem Gz {k:Nat} (h:fH fs (aI fs k).1 (aI fs k).2≠[]):(aI fs (k+1)).1=dY (fH fs (aI fs k).1 (aI fs k).2):=by
 show (nH fs (aI fs k)).1 = _
 unfold nH
 rw [if_neg h]
 split <;> rfl
theorem Gu {k:Nat} (h:fH fs (aI fs k).1 (aI fs k).2≠[]):ms fs k (aI fs (k+1)).1=(aI fs (k+1)).2:=by
 have e:aI fs (k+1)=nH fs (aI fs k):=rfl
 unfold ms
 rw [e]
 unfold nH
 rw [if_neg h]
 split <;> rfl
theorem zA {S x y:Rat} (S0:0<S) (h:x<=y):x / S<=y / S:=by
  have:¬ y / S<x / S:=by
    rw [gG S0]
    have : x / S * S = x := by have : S ≠ 0 := by grind
                               grind
    rw [this]; grind
  grind
theorem DV {S x y:Rat} (S0:0<S) (h:x<y):x / S<y / S:=by
  rw [gG S0]
  have : y / S * S = y := by have : S ≠ 0 := by grind
                             grind
  rw [this]; exact h
theorem GA {k:Nat} {x:Rat} (h:x∈fH fs (aI fs k).1 (aI fs k).2):(aI fs (k+1)).1<=x:=by
 rw [Gz (fun z=>by rw [z] at h; cases h)]
 exact DN h
theorem W8 (s1:∀ f∈fs,1<=f.2.2.2) {j k:Nat} (h:(aI fs j).1<=(aI fs k).1):(aI fs j).2<=(aI fs k).2:=by
 by_cases c:j<=k
 ·exact (qg s1 c).2
 ·rcases EF s1 k with ⟨z,_⟩ | ⟨_,t⟩
  ·rw [MC z (show k<=j by omega)]; exact aB
  ·exfalso
   have:=t.gt
   have:=(qg s1 (show k+1<=j by omega)).1
   grind
def dn (f:F4) (m:Rat):Rat:=max f.2.1 (min m f.2.2.1)-f.2.1
end
structure Run (fs:List F4) (w:Nat->Int):Prop where
 s1:∀ f∈fs,1<=f.2.2.2
 live:∀ (i:Nat) (f:F4),fs[i]? = some f->∃ k1 k2,kh fs i f k1 k2
 bt:∀ (i:Nat) (f:F4),fs[i]? = some f->f.2.1<f.2.2.1
 cm:∀ (i:Nat) (f:F4),fs[i]? = some f->∃ k,(aI fs k).1=(f.1:Rat)/\(aI fs k).2<=f.2.1/\((aI fs k).2=f.2.1\/∃ (j:Nat) (g:F4),j<i/\w j=w i/\fs[j]? = some g/\g.2.2.1=f.2.1)
 pr:∀ (i j:Nat) (f g:F4),j<i->w j=w i->fs[i]? = some f->fs[j]? = some g->g.2.2.1<=f.2.1
 so:∀ (i j:Nat) (f g:F4),j<i->fs[i]? = some f->fs[j]? = some g->g.1<=f.1
section
variable {fs:List F4} {w:Nat->Int}
theorem Run.wq (R:Run fs w) {i k1 k2:Nat} {f:F4} (hf:fs[i]? = some f) (L:kh fs i f k1 k2):(aI fs k1).2=f.2.1/\((aI fs k1).1=(f.1:Rat)\/∃ (j:Nat) (g:F4) (l1 l2:Nat),j<i/\w j=w i/\fs[j]? = some g/\kh fs j g l1 l2/\k1<=l2):=by
 have s1:=R.s1
 have lt:=L.lt
 have h1:=(L.hd k1).mpr ⟨av _,lt⟩
 have ZF:=EI h1
 obtain ⟨g1,e1,a1,a2,a3⟩:=h1
 rw [hf] at e1
 cases e1
 have bt:=R.bt i f hf
 obtain ⟨kc,c1,c2,c3⟩:=R.cm i f hf
 rcases c3 with c3 | ⟨j,g,hj,hw,hg,eg⟩
 ·have hk:iV fs i (aI fs kc):=⟨f,hf,by rw [c1]; exact aB,by rw [c3]; exact aB,by rw [c3]; exact bt⟩
  have:=((L.hd kc).mp hk).1
  have:k1=kc:=by
   by_cases z:k1=kc
   ·exact z
   ·exfalso
    have:=MW s1 (show k1<kc by omega) (EI hk)
    grind
  subst this
  exact ⟨c3,.inl c1⟩
 ·obtain ⟨l1,l2,M⟩:=R.live j g hg
  have en:=M.en
  by_cases z:g.2.2.1<=(aI fs kc).2
  ·have c3:(aI fs kc).2=f.2.1:=by grind
   have hk:iV fs i (aI fs kc):=⟨f,hf,by rw [c1]; exact aB,by rw [c3]; exact aB,by rw [c3]; exact bt⟩
   have:=((L.hd kc).mp hk).1
   have:k1=kc:=by
    by_cases z:k1=kc
    ·exact z
    ·exfalso
     have:=MW s1 (show k1<kc by omega) (EI hk)
     grind
   subst this
   exact ⟨c3,.inl c1⟩
  ·have hk:kc<l2:=by
    by_cases y:l2<=kc
    ·exact absurd ((M.pa kc).mpr y) z
    ·omega
   have mo:=(qg s1 (show kc<=l2 by omega)).1
   have hh:iV fs i (aI fs l2):=⟨f,hf,by rw [<- c1]; exact mo,by rw [en,eg]; exact aB,by rw [en,eg]; exact bt⟩
   have le:=((L.hd l2).mp hh).1
   have:=(qg s1 le).2
   exact ⟨by grind,.inr ⟨j,g,l1,l2,hj,hw,hg,M,le⟩⟩
theorem Run.head (R:Run fs w) {k:Nat}:∀ {p:Nat} {f:F4},fs[p]? = some f->(f.1:Rat)<=(aI fs k).1->(aI fs k).2<f.2.2.1->∃ q,iV fs q (aI fs k)/\w q=w p:=fun {p}=>by
 induction p using D9 with
 | _ p ih =>
  intro f hf h1 h2
  by_cases c:f.2.1<=(aI fs k).2
  ·exact ⟨p,⟨f,hf,h1,c,h2⟩,rfl⟩
  ·obtain ⟨kc,c1,c2,c3⟩:=R.cm p f hf
   have:=W8 R.s1 (show (aI fs kc).1<=(aI fs k).1 by rw [c1]; exact h1)
   rcases c3 with c3 | ⟨j,g,hj,hw,hg,eg⟩
   ·exfalso; grind
   ·have so:(g.1:Rat)<=(f.1:Rat):=ak.mpr (R.so p j f g hj hf hg)
    obtain ⟨q,q1,q2⟩:=ih j hj hg (by grind) (by grind)
    exact ⟨q,q1,by rw [q2,hw]⟩
theorem Run.one (R:Run fs w) {s:Rat×Rat} {p q:Nat} (hp:iV fs p s) (hq:iV fs q s) (h:w p=w q):¬ p<q:=fun lt=>by
 obtain ⟨f,hf,_,_,a3⟩:=hp
 obtain ⟨g,hg,_,b2,_⟩:=hq
 have:=R.pr q p g f lt h hg hf
 grind
end
end Sw
namespace Sw
open L2
section
variable {fs Ib:List F4} {w w':Nat->Int} {κ:Nat->Nat}
end
end Sw
namespace Sw
open L2
def fc (qs:List Q4) (i:Nat):Int:=((qs[i]?).map fun q=>q.2.1).getD 0
theorem gq {qs:List Q4} {i:Nat} {q:Q4} (e:qs[i]? = some q):fc qs i=q.2.1:=by unfold fc; rw [e]; rfl
theorem Jz {qs:List Q4} {i:Nat} {q:Q4} (e:qs[i]? = some q):(Ti.nil.tags qs)[i]? = some ((Ti.nil.after (qs.take i)).iR q,(Ti.nil.after (qs.take i)).fin q):=by
 have hi:=(aa.mp e).1
 have h1:((Ti.nil.tags qs).take (i+1))[i]? = (Ti.nil.tags qs)[i]?:=by rw [ia,if_pos (by omega)]
 have l0:(Ti.nil.tags (qs.take i)).length=i:=by rw [Ti.dP,bZ]; omega
 rw [<- h1,<- Jc,L2.aV e,Ti.jH,bW (by omega),l0,k8]
 rfl
theorem Rn {M:Int} {q:Q4} (h:nU M q):(0:Rat)<(q.2.2.1:Rat) / (q.2.2.2:Rat):=by
 obtain ⟨_,_,h1,_,h2,_⟩:=h
 have:=DV (bJ (show 0<q.2.2.2 by omega)) (bJ (show 0<q.2.2.1 by omega))
 have e:(0:Rat) / (q.2.2.2:Rat) = 0:=by grind
 rw [e] at this
 exact this
theorem MX (s:Ti) (q:Q4):s.rv q<=s.iR q/\∀ e,s.en q.2.1=some e->e<=s.iR q:=by
 unfold Ti.iR lB
 refine ⟨?_,fun e h=>?_⟩
 ·rw [b6]; split <;> grind
 ·rw [h,zJ,b6]; split <;> grind
theorem YY (s:Ti) (q:Q4):s.iR q=s.rv q\/s.en q.2.1=some (s.iR q):=by
 unfold Ti.iR lB
 cases h:s.en q.2.1 with
 | none=>left; rw [om,b6]; split <;> rfl
 | some e =>
  rw [zJ,b6]
  split
  ·right; rfl
  ·left; rfl
theorem Good.x6 {n:Nat} {M:Int} {a c:Nat} {qs:List Q4} (g:Good n M a c qs):∀ {i:Nat},i<=qs.length->∀ w:Int,
    (∀ e,(Ti.nil.after (qs.take i)).en w=some e->∃ (j:Nat) (t:Rat×Rat),j<i/\fc qs j=w/\(Ti.nil.tags qs)[j]? = some t/\t.2=e) /\
    ∀ (j:Nat) (t:Rat×Rat),j<i->fc qs j=w->(Ti.nil.tags qs)[j]? = some t->∃ e,(Ti.nil.after (qs.take i)).en w=some e/\t.2<=e
  | 0,_,w=>⟨(fun e h=>by cases h),fun j t h=>absurd h (lA _)⟩
  | i+1,hi,w=>by
    have e:qs[i]? = some (qs[i]'(by omega)):=au _
    have pc:=g.pc _ (aq e)
    generalize qs[i]'(by omega)=q at e pc
    obtain ⟨h1,h2⟩:=g.x6 (i:=i) (by omega) w
    have ht:=Jz e
    have hw:=gq e
    rw [L2.aV e,Ti.e8]
    show (∀ e,gw (Ti.nil.after (qs.take i)).en q.2.1 ((Ti.nil.after (qs.take i)).fin q) w=some e->_)/\(∀ j t,_->_->_->∃ e,gw (Ti.nil.after (qs.take i)).en q.2.1 ((Ti.nil.after (qs.take i)).fin q) w=some e/\_)
    unfold gw
    by_cases cw:w=q.2.1
    · rw [if_pos cw]
      refine ⟨fun e' he=>⟨i,_,by omega,by rw [hw,cw],ht,by cases he; rfl⟩,fun j t hj Ir Gf=>⟨_,rfl,?_⟩⟩
      by_cases cj:j=i
      · subst cj
        rw [ht] at Gf
        cases Gf
        exact aB
      · obtain ⟨e0,Kw,ZR⟩:=h2 j t (by omega) Ir Gf
        have:=(MX (Ti.nil.after (qs.take i)) q).2 e0 (by rw [<- cw]; exact Kw)
        have:=Rn pc
        show t.2<=(Ti.nil.after (qs.take i)).iR q + _
        grind
    · rw [if_neg cw]
      refine ⟨fun e' he=>?_,fun j t hj Ir Gf=>?_⟩
      · obtain ⟨j,t,hj,r⟩:=h1 e' he
        exact ⟨j,t,by omega,r⟩
      · by_cases cj:j=i
        · subst cj
          exact absurd (Ir.symm.trans hw) cw
        · exact h2 j t (by omega) Ir Gf
theorem Good.nE {n:Nat} {M:Int} {a c:Nat} {qs:List Q4} (_:Good n M a c qs) {i:Nat} {f:F4} (h:(aX qs (Ti.nil.tags qs))[i]? = some f):∃ q,qs[i]? = some q/\f=(q.1,(Ti.nil.after (qs.take i)).iR q,(Ti.nil.after (qs.take i)).fin q,q.2.2.2):=by
 have hi:=(aa.mp h).1
 rw [A8 Ti.dP] at hi
 have e:qs[i]? = some (qs[i]'hi):=au _
 have:=DK e (Jz e)
 rw [h] at this
 cases this
 exact ⟨_,e,rfl⟩
theorem Good.runs {n:Nat} {M:Int} {a c:Nat} {qs:List Q4} (g:Good n M a c qs):Run (aX qs (Ti.nil.tags qs)) (fc qs):=by
 obtain ⟨D0,ok⟩:=mw g.F g.ln g.pc g.pw
 refine ⟨ok.s1,fun i f h=>?_,fun i f h=>?_,fun i f h=>?_,fun i j f f2 hj hw h h2=>?_,fun i j f f2 hj h h2=>?_⟩
 ·obtain ⟨q,e,rfl⟩:=g.nE h
  obtain ⟨t,u,k1,k2,h1,_,hf,L,_⟩:=g.both e
  rw [Jz e] at h1
  cases h1
  exact ⟨k1,k2,L⟩
 ·obtain ⟨q,e,rfl⟩:=g.nE h
  have:=Rn (g.pc _ (aq e))
  show (Ti.nil.after (qs.take i)).iR q<(Ti.nil.after (qs.take i)).iR q + _
  grind
 ·obtain ⟨q,e,rfl⟩:=g.nE h
  have hi:=(aa.mp e).1
  obtain ⟨k,hk⟩:=g.CN e
  refine ⟨k,by rw [hk],by rw [hk]; exact (MX _ _).1,?_⟩
  rw [hk]
  rcases YY (Ti.nil.after (qs.take i)) q with z | z
  ·exact .inl z.symm
  ·obtain ⟨j,t,hj,hw,ht,et⟩:=(g.x6 (i:=i) (by omega) q.2.1).1 _ z
   have ej:qs[j]? = some (qs[j]'(by omega)):=au _
   exact .inr ⟨j,_,hj,by rw [hw,gq e],DK ej ht,et⟩
 ·obtain ⟨q,e,rfl⟩:=g.nE h
  obtain ⟨q2,e2,rfl⟩:=g.nE h2
  have hi:=(aa.mp e).1
  obtain ⟨en,h3,h4⟩:=(g.x6 (i:=i) (by omega) q.2.1).2 j _ hj (by rw [hw,gq e]) (Jz e2)
  have:=(MX (Ti.nil.after (qs.take i)) q).2 en h3
  show (Ti.nil.after (qs.take j)).fin q2<=(Ti.nil.after (qs.take i)).iR q
  grind
 ·obtain ⟨q,e,rfl⟩:=g.nE h
  obtain ⟨q2,e2,rfl⟩:=g.nE h2
  exact pw_le g.pw hj e e2
end Sw
namespace Sw
open L2
abbrev S3:=Int×Int×Rat
def tq:List Rat->Rat
 | []=>0
 | x :: r=>x+tq r
theorem ju:∀ (a b:List Rat),tq (a++b)=tq a+tq b
 | [],b=>by show tq b = 0+tq b; grind
 | x :: r,b=>by show x+tq (r++b)=x+tq r+tq b; rw [ju r b]; grind
theorem oH (a:List Rat) (x:Rat):tq (a++[x])=tq a+x:=by rw [ju]; show tq a+(x+0) = _; grind
theorem QH (p:Nat->Bool) (f:Nat->Rat):∀ l:List Nat,tq ((l.filter p).map f)+tq ((l.filter fun i=>!p i).map f)=tq (l.map f)
 | []=>by show (0:Rat)+0 = 0; grind
 | x :: r=>by
  have ih:=QH p f r
  rw [aZ,aZ,bD]
  cases h:p x with
  | true =>
   rw [if_pos rfl,if_neg (by decide),bD]
   show f x + _ + _=f x + _
   grind
  | false =>
   rw [if_neg (by decide),if_pos (show (!false)=true from rfl),bD]
   show _ + (f x + _)=f x + _
   grind
theorem R8 (f g:Nat->Rat):∀ l:List Nat,tq (l.map fun i=>f i-g i)=tq (l.map f)-tq (l.map g)
 | []=>by show (0:Rat) = 0-0; grind
 | x :: r=>by
  have ih:=R8 f g r
  show f x-g x+tq (r.map fun i=>f i-g i)=f x+tq (r.map f)-(g x+tq (r.map g))
  rw [ih]; grind
theorem QI (c S:Rat) (s:Nat->Int):∀ l:List Nat,tq (l.map fun i=>c*((s i:Rat) / S))=c*(((l.map s).sum:Int):Rat) / S
 | []=>by
  show (0:Rat)=c*((0:Int):Rat) / S
  have:((0:Int):Rat) = 0:=rfl
  rw [this]; grind
 | x :: r=>by
  have ih:=QI c S s r
  show c*((s x:Rat) / S)+tq (r.map fun i=>c*((s i:Rat) / S)) = _
  rw [ih,bD,eT,dh]
  grind
theorem Sa:∀ {l:List Rat},(∀ x∈l,x<=0)->tq l<=0
 | [],_=>aB
 | x :: r,h=>by
  have:=Sa (l:=r) fun y hy=>h y (aA _ hy)
  have:=h x (by simp)
  show x+tq r<=0
  grind
theorem DW:∀ {l:List Rat},(∀ x∈l,0<=x)->0<=tq l
 | [],_=>aB
 | x :: r,h=>by
  have:=DW (l:=r) fun y hy=>h y (aA _ hy)
  have:=h x (by simp)
  show 0<=x+tq r
  grind
theorem MY:∀ {l:List Rat},(∀ x∈l,0<=x)->∀ {x:Rat},x∈l->x<=tq l
 | [],_,_,h=>by cases h
 | y :: r,h,x,hx=>by
  have h0:=DW (l:=r) fun y hy=>h y (aA _ hy)
  have h1:=h y (by simp)
  show x<=y+tq r
  rcases aM.mp hx with z | z
  ·subst z; grind
  ·have:=MY (l:=r) (fun y hy=>h y (aA _ hy)) z
   grind
theorem EN {D:Int} (hD:D≠0):∀ {l:List Rat},(∀ x∈l,dH D x)->dH D (tq l)
 | [],_=>dH.int hD 0
 | x :: r,h=>(h x (by simp)).add (EN hD fun y hy=>h y (aA _ hy))
theorem Qk {p q:Nat->Bool} {j:Nat} (hp:p j=true) (hq:q j=false):∀ {l:List Nat},(∀ i∈l,q i=true->p i=true)->j∈l->(l.filter q).length<(l.filter p).length
 | [],_,h=>by cases h
 | x :: r,h,hj=>by
  have le:∀ {l:List Nat},(∀ i∈l,q i=true->p i=true)->(l.filter q).length<=(l.filter p).length:=fun {l}=>by
   induction l with
   | nil=>intro _; exact av _
   | cons a b ih =>
    intro h
    have i1:=ih fun i hi=>h i (aA _ hi)
    have i2:=h a (by simp)
    rw [aZ,aZ]
    cases ha:q a with
    | true=>rw [if_pos rfl,i2 ha,if_pos rfl,aE,aE]; omega
    | false =>
     rw [if_neg (by decide)]
     split
     ·rw [aE]; omega
     ·exact i1
  have hr:∀ i∈r,q i=true->p i=true:=fun i hi=>h i (aA _ hi)
  rw [aZ,aZ]
  by_cases c:x=j
  ·subst c
   have:=le hr
   rw [hq,hp,if_neg (by decide),if_pos rfl,aE]
   omega
  ·have hj:j∈r:=by
    rcases aM.mp hj with z | z
    ·exact absurd z.symm c
    ·exact z
   have ih:=Qk hp hq hr hj
   have i2:=h x (by simp)
   cases ha:q x with
   | true=>rw [if_pos rfl,i2 ha,if_pos rfl,aE,aE]; omega
   | false =>
    rw [if_neg (by decide)]
    split
    ·rw [aE]; omega
    ·exact ih
section
variable (ss:List S3)
def dU (i:Nat):Int:=((ss[i]?).map fun s=>s.1).getD 0
def d8 (i:Nat):Int:=((ss[i]?).map fun s=>s.2.1).getD 0
def dQ (i:Nat):Rat:=((ss[i]?).map fun s=>s.2.2).getD 0
def bY (h:Nat->Rat):List Nat:=(aD ss.length).filter fun i=>decide (0<h i)
def sumF (h:Nat->Rat):Int:=((bY ss h).map (dU ss)).sum
def mO (h:Nat->Rat):List Rat:=((aD ss.length).filter fun i=>!decide (i∈bY ss h)).map (dQ ss)
def eO (h:Nat->Rat):Rat:=1-tq (mO ss h)
def cN (h:Nat->Rat) (i:Nat):Rat:=if i∈bY ss h then eO ss h*((dU ss i:Rat) / (sumF ss h:Rat)) else dQ ss i
def dZ (h:Nat->Rat) (i:Nat):Rat:=cN ss h i-dQ ss i
def yY (h:Nat->Rat):List Rat:=((aD ss.length).filter fun i=>decide (0<dZ ss h i)).map fun i=>h i / dZ ss h i
def i9 (h:Nat->Rat):Rat:=dY (yY ss h)
def qE (h:Nat->Rat) (i:Nat):Rat:=h i-dZ ss h i*i9 ss h
def bj:Nat->(Nat->Rat)×Rat
 | 0=>(fun i=>(d8 ss i:Rat),0)
 | k+1=>(qE ss (bj k).1,(bj k).2+i9 ss (bj k).1)
end
structure Plan (ss:List S3) (L:Int):Prop where
 n8:ss.length<=8
 L1:1<=L
 L2:L<=1000000000000000000
 s1:∀ s∈ss,1<=s.1
 b1:∀ s∈ss,1<=s.2.1/\s.2.1<=1000000000000
 r0:∀ s∈ss,0<=s.2.2
 gr:∀ s∈ss,dH L s.2.2
 lt:tq (ss.map fun s=>s.2.2)<1
 lim:L*(ss.map fun s=>s.1).sum<=1000000000000000000
section
variable {ss:List S3} {h:Nat->Rat}
theorem dj {i:Nat}:i∈bY ss h↔i<ss.length/\0<h i:=by unfold bY; simp
theorem uT (ss:List S3):(aD ss.length).map (dQ ss)=ss.map fun s=>s.2.2:=by
 refine oj fun i=>?_
 rw [bh,bh]
 by_cases c:i<ss.length
 ·rw [gO c,au c]
  show some (dQ ss i) = _
  unfold dQ
  rw [au c]
  rfl
 ·rw [bN (by simpa using c),bN (by omega)]; rfl
theorem YZ (ss:List S3):(aD ss.length).map (dU ss)=ss.map fun s=>s.1:=by
 refine oj fun i=>?_
 rw [bh,bh]
 by_cases c:i<ss.length
 ·rw [gO c,au c]
  show some (dU ss i) = _
  unfold dU
  rw [au c]
  rfl
 ·rw [bN (by simpa using c),bN (by omega)]; rfl
theorem fX {i:Nat} (c:i<ss.length):∃ s∈ss,dU ss i=s.1/\d8 ss i=s.2.1/\dQ ss i=s.2.2:=by
 refine ⟨ss[i],Bf c,?_⟩
 unfold dU d8 dQ
 rw [au c]
 exact ⟨rfl,rfl,rfl⟩
theorem jG {L:Int} (P:Plan ss L) (i:Nat):0<=dQ ss i:=by
 by_cases c:i<ss.length
 ·obtain ⟨s,hs,_,_,e⟩:=fX c
  rw [e]; exact P.r0 s hs
 ·unfold dQ
  rw [bN (by omega)]
  exact aB
theorem nI {L:Int} (P:Plan ss L) (i:Nat):dH L (dQ ss i):=by
 by_cases c:i<ss.length
 ·obtain ⟨s,hs,_,_,e⟩:=fX c
  rw [e]; exact P.gr s hs
 ·unfold dQ
  rw [bN (by omega)]
  exact dH.int (by have:=P.L1; omega) 0
theorem Jl {i:Nat} (c:¬ i∈bY ss h):dZ ss h i = 0:=by
 unfold dZ cN
 rw [if_neg c]; grind
theorem Ro (s:Nat->Int) (p:Nat->Bool):∀ {l:List Nat},(∀ i∈l,0<=s i)->((l.filter p).map s).sum<=(l.map s).sum
 | [],_=>fE _
 | x :: r,h=>by
  have ih:=Ro s p (l:=r) fun i hi=>h i (aA _ hi)
  have:=h x (by simp)
  rw [aZ,bD,eT]
  split
  ·rw [bD,eT]; omega
  ·omega
theorem jq {L:Int} (P:Plan ss L) (ne:bY ss h≠[]):1<=sumF ss h/\L*sumF ss h<=1000000000000000000:=by
 have sp:∀ i,i<ss.length->1<=dU ss i:=fun i hi=>by
  obtain ⟨s,hs,e,_⟩:=fX hi
  rw [e]; exact P.s1 s hs
 refine ⟨EH (fun x hx=>?_) (by simpa using ne),?_⟩
 ·obtain ⟨i,hi,rfl⟩:=aP.mp hx
  exact sp i (dj.mp hi).1
 ·have a:=Ro (dU ss) (fun i=>decide (0<h i)) (l:=aD ss.length) fun i hi=>by
   have:=sp i (bS.mp hi); omega
  rw [YZ] at a
  have b:=eI a (show 0<=L by have:=P.L1; omega)
  have:=P.lim
  show L*(((aD ss.length).filter fun i=>decide (0<h i)).map (dU ss)).sum<=_
  omega
theorem PF {L:Int} (_:Plan ss L):tq ((bY ss h).map (dQ ss))+tq (mO ss h)=tq (ss.map fun s=>s.2.2):=by
 rw [<- uT,<- QH (fun i=>decide (0<h i)) (dQ ss) (aD ss.length)]
 congr 1
 unfold mO
 congr 2
 refine jN fun i hi=>?_
 congr 1
 exact decide_eq_decide.mpr ⟨fun z=>(dj.mp z).2,fun z=>dj.mpr ⟨bS.mp hi,z⟩⟩
theorem Jm {L:Int} (P:Plan ss L) (h:Nat->Rat):0<eO ss h/\eO ss h<=1:=by
 have a:=PF (h:=h) P
 have b:=P.lt
 have c:=DW (l:=(bY ss h).map (dQ ss)) fun x hx=>by
  obtain ⟨i,_,rfl⟩:=aP.mp hx
  exact jG P i
 have d:=DW (l:=mO ss h) fun x hx=>by
  obtain ⟨i,_,rfl⟩:=aP.mp hx
  exact jG P i
 unfold eO
 constructor <;> grind
theorem XU {L:Int} (P:Plan ss L) (ne:bY ss h≠[]):0<tq ((bY ss h).map (dZ ss h)):=by
 have S1:=(jq P ne).1
 have S0:(0:Rat)<(sumF ss h:Rat):=bJ (by omega)
 have e:(bY ss h).map (dZ ss h)=(bY ss h).map fun i=>eO ss h*((dU ss i:Rat) / (sumF ss h:Rat))-dQ ss i:=by
  refine jc fun i hi=>?_
  unfold dZ cN
  rw [if_pos hi]
 rw [e,R8,QI]
 have e2:eO ss h*((((bY ss h).map (dU ss)).sum:Int):Rat) / (sumF ss h:Rat)=eO ss h:=by
  show eO ss h*(sumF ss h:Rat) / (sumF ss h:Rat) = _
  have:(sumF ss h:Rat)≠0:=by grind
  grind
 rw [e2]
 have a:=PF (h:=h) P
 have b:=P.lt
 unfold eO
 grind
theorem oG {x:Rat}:x∈yY ss h↔∃ i,i<ss.length/\0<dZ ss h i/\x=h i / dZ ss h i:=by
 unfold yY
 constructor
 ·intro z
  obtain ⟨i,hi,rfl⟩:=aP.mp z
  obtain ⟨a,b⟩:=cQ.mp hi
  exact ⟨i,bS.mp a,by simpa using b,rfl⟩
 ·rintro ⟨i,a,b,rfl⟩
  exact aP.mpr ⟨i,cQ.mpr ⟨bS.mpr a,by simpa using b⟩,rfl⟩
theorem yZ {L:Int} (P:Plan ss L) (ne:bY ss h≠[]):yY ss h≠[]:=by
 intro z
 have:=XU P ne
 have:=Sa (l:=(bY ss h).map (dZ ss h)) fun x hx=>by
  obtain ⟨i,hi,rfl⟩:=aP.mp hx
  by_cases c:0<dZ ss h i
  ·exfalso
   have:=oG.mpr ⟨i,(dj.mp hi).1,c,rfl⟩
   rw [z] at this
   cases this
  ·grind
 grind
theorem tm_at {L:Int} (P:Plan ss L) (ne:bY ss h≠[]):∃ j,j∈bY ss h/\0<dZ ss h j/\i9 ss h=h j / dZ ss h j/\0<i9 ss h:=by
 obtain ⟨j,a,b,c⟩:=oG.mp (gJ (yZ P ne))
 have hj:j∈bY ss h:=by
  by_cases z:j∈bY ss h
  ·exact z
  ·rw [Jl z] at b; grind
 refine ⟨j,hj,b,c,?_⟩
 have h0:=(dj.mp hj).2
 show 0<i9 ss h
 unfold i9
 rw [c]
 have:=DV b h0
 have e:(0:Rat) / dZ ss h j = 0:=by grind
 rw [e] at this
 exact this
theorem BP {L:Int} (P:Plan ss L) (ne:bY ss h≠[]) (h0:∀ i,0<=h i) (i:Nat):0<=qE ss h i:=by
 obtain ⟨j,_,_,_,t0⟩:=tm_at P ne
 unfold qE
 by_cases c:0<dZ ss h i
 ·have hi:i<ss.length:=by
   by_cases z:i∈bY ss h
   ·exact (dj.mp z).1
   ·rw [Jl z] at c; grind
  have le:i9 ss h<=h i / dZ ss h i:=DN (oG.mpr ⟨i,hi,c,rfl⟩)
  have:=aH le (br c)
  have e:dZ ss h i*(h i / dZ ss h i)=h i:=by
   have:dZ ss h i≠0:=by grind
   grind
  rw [e] at this
  grind
 ·have:=aH (show dZ ss h i<=0 by grind) (br t0)
  have:=h0 i
  grind
theorem vC {L:Int} (P:Plan ss L) (ne:bY ss h≠[]) (h0:∀ i,0<=h i):(bY ss (qE ss h)).length<(bY ss h).length:=by
 obtain ⟨j,hj,b,c,t0⟩:=tm_at P ne
 have ej:qE ss h j = 0:=by
  unfold qE
  rw [c]
  have:dZ ss h j≠0:=by grind
  grind
 refine Qk (p:=fun i=>decide (0<h i)) (q:=fun i=>decide (0<qE ss h i)) (j:=j) (by simpa using (dj.mp hj).2) (by rw [ej]; rfl) (fun i hi z=>?_) (bS.mpr (dj.mp hj).1)
 have z:0<qE ss h i:=by simpa using z
 by_cases f:i∈bY ss h
 ·simpa using (dj.mp f).2
 ·exfalso
  unfold qE at z
  rw [Jl f] at z
  have:¬ 0<h i:=fun y=>f (dj.mpr ⟨bS.mp hi,y⟩)
  grind
end
end Sw
namespace Sw
open L2
structure Pz (ss:List S3) (k:Nat) (h:Nat->Rat) (mo:Rat):Prop where
 ex:∃ D M:Int,1<=D/\Sz (61*k+1) D/\1<=M/\Sz (61*k+41) M/\(∀ i,dH D (h i)/\h i<=(M:Rat))/\dH D mo/\mo<=(M:Rat)
 h0:∀ i,0<=h i
 m0:0<=mo
section
variable {ss:List S3} {h:Nat->Rat}
theorem tN {L:Int} (P:Plan ss L) (i:Nat):dQ ss i<=1:=by
 by_cases c:i<ss.length
 ·have:=MY (l:=ss.map fun s=>s.2.2) (fun x hx=>by
   obtain ⟨s,hs,rfl⟩:=aP.mp hx
   exact P.r0 s hs) (x:=dQ ss i) (by
    rw [<- uT]
    exact aP.mpr ⟨i,bS.mpr c,rfl⟩)
  have:=P.lt
  grind
 ·unfold dQ
  rw [bN (by omega)]
  show (0:Rat)<=1
  decide
theorem Rp {L:Int} (P:Plan ss L) (h:Nat->Rat):dH L (eO ss h):=by
 have L0:L≠0:=by have:=P.L1; omega
 unfold eO
 exact (dH.int L0 1).sub (EN L0 fun x hx=>by
  obtain ⟨i,_,rfl⟩:=aP.mp hx
  exact nI P i)
theorem MZ {L:Int} (P:Plan ss L) (ne:bY ss h≠[]) (i:Nat):dH (L*sumF ss h) (cN ss h i):=by
 have L0:L≠0:=by have:=P.L1; omega
 have S0:sumF ss h≠0:=by have:=(jq P ne).1; omega
 unfold cN
 split
 ·have:eO ss h*((dU ss i:Rat) / (sumF ss h:Rat))=eO ss h*(dU ss i:Rat) / (sumF ss h:Rat):=by grind
  rw [this]
  exact ((Rp P h).mG _).m9 L0 S0
 ·exact (nI P i).more L0 S0
theorem DX {L:Int} (P:Plan ss L) (ne:bY ss h≠[]) (i:Nat):0<=cN ss h i/\cN ss h i<=1:=by
 unfold cN
 split
 ·rename_i c
  have S1:=(jq P ne).1
  have S0:(0:Rat)<(sumF ss h:Rat):=bJ (by omega)
  obtain ⟨l0,l1⟩:=Jm P h
  have sp:∀ i∈bY ss h,1<=dU ss i:=fun i hi=>by
   obtain ⟨s,hs,e,_⟩:=fX (dj.mp hi).1
   rw [e]; exact P.s1 s hs
  have s1:=sp i c
  have Vd:dU ss i<=sumF ss h:=by
   unfold sumF
   have:∀ {l:List Nat},(∀ i∈l,1<=dU ss i)->i∈l->dU ss i<=(l.map (dU ss)).sum:=fun {l}=>by
    induction l with
    | nil=>intro _ h; cases h
    | cons x r ih =>
     intro h hi
     have h1:=h x (by simp)
     have h2:0<=(r.map (dU ss)).sum:=by
      by_cases z:r = []
      ·subst z; exact fE _
      ·have:=EH (l:=r.map (dU ss)) (fun y hy=>by
        obtain ⟨i,hi,rfl⟩:=aP.mp hy
        exact h i (aA _ hi)) (by simpa using z)
       omega
     rw [bD,eT]
     rcases aM.mp hi with z | z
     ·subst z; omega
     ·have:=ih (fun i hi=>h i (aA _ hi)) z; omega
   exact this sp c
  have q0:(0:Rat)<=(dU ss i:Rat) / (sumF ss h:Rat):=by
   have:=zA S0 (show (0:Rat)<=(dU ss i:Rat) from dg.mpr (by omega))
   have e:(0:Rat) / (sumF ss h:Rat) = 0:=by grind
   rw [e] at this
   exact this
  have q1:(dU ss i:Rat) / (sumF ss h:Rat)<=1:=by
   have:=zA S0 (show (dU ss i:Rat)<=(sumF ss h:Rat) from ak.mpr Vd)
   have e:(sumF ss h:Rat) / (sumF ss h:Rat) = 1:=by
    have:(sumF ss h:Rat)≠0:=by grind
    grind
   rw [e] at this
   exact this
  have a:=bM (br l0) q0
  have b:=aH q1 (br l0)
  refine ⟨a,?_⟩
  grind
 ·exact ⟨jG P i,tN P i⟩
end
end Sw
namespace Sw
open L2
section
variable {ss:List S3} {h:Nat->Rat}
theorem Pz.step {L:Int} (P:Plan ss L) (ne:bY ss h≠[]) {k:Nat} {mo:Rat} (z:Pz ss k h mo):Pz ss (k+1) (qE ss h) (mo+i9 ss h)/\∃ D M:Int,1<=D/\Sz (61*(k+1)+1) D/\1<=M/\Sz (61*(k+1)+41) M/\(∀ i,dH D (dZ ss h i*i9 ss h)/\-(M:Rat)<=dZ ss h i*i9 ss h/\dZ ss h i*i9 ss h<=(M:Rat))/\dH D (i9 ss h)/\0<=i9 ss h/\i9 ss h<=(M:Rat):=by
 obtain ⟨D,M,D1,zD,M1,zM,hg,mg,mM⟩:=z.ex
 obtain ⟨j,hj,f0,et,t0⟩:=tm_at P ne
 obtain ⟨S1,SL⟩:=jq P ne
 have L1:=P.L1
 have W1:1<=L*sumF ss h:=by
  have:=eI S1 (show 0<=L by omega)
  omega
 have W0:(0:Rat)<((L*sumF ss h:Int):Rat):=bJ (by omega)
 have fg:∀ i,dH (L*sumF ss h) (dZ ss h i):=fun i=>by
  unfold dZ
  exact (MZ P ne i).sub ((nI P i).more (by omega) (by omega))
 have fb:∀ i,-1<=dZ ss h i/\dZ ss h i<=1:=fun i=>by
  have a:=DX P ne i
  have b:=jG P i
  have c:=tN P i
  unfold dZ
  constructor <;> grind
 generalize L*sumF ss h=W at *
 obtain ⟨a,ea⟩:=fg j
 have a0:0<a:=by
  by_cases c:0<a
  ·exact c
  ·exfalso
   have:=zA W0 (show (a:Rat)<=0 from by
    have:=ak.mpr (show a<=0 by omega)
    exact this)
   have e:(0:Rat) / (W:Rat) = 0:=by grind
   grind
 have aW:a<=W:=by
  by_cases c:a<=W
  ·exact c
  ·exfalso
   have:=DV W0 (show (W:Rat)<(a:Rat) from dX.mpr (by omega))
   have e:(W:Rat) / (W:Rat) = 1:=by
    have:(W:Rat)≠0:=by grind
    grind
   have:=(fb j).2
   grind
 have A0:(0:Rat)<(a:Rat):=bJ a0
 have tE:i9 ss h=h j*(W:Rat) / (a:Rat):=by
  rw [et,ea]
  have:(W:Rat)≠0:=by grind
  have:(a:Rat)≠0:=by grind
  grind
 have NX:=z.h0 j
 have tW:i9 ss h<=(M:Rat)*1000000000000000000:=by
  have x1:h j*(W:Rat) / (a:Rat)<=h j*(W:Rat):=by
   have p0:=bM NX (br W0)
   have:¬ h j*(W:Rat)<h j*(W:Rat) / (a:Rat):=fun y=>by
    have e:h j*(W:Rat) / (a:Rat)*(a:Rat)=h j*(W:Rat):=by
     have:(a:Rat)≠0:=by grind
     grind
    have a1:(1:Rat)<=(a:Rat):=by
     have:=ak.mpr (show 1<=a by omega)
     exact this
    have:=aH a1 (show 0<=h j*(W:Rat) / (a:Rat) by grind)
    grind
   grind
  have x2:=aH (show (W:Rat)<=1000000000000000000 from ak.mpr SL) NX
  have x3:=aC (hg j).2 (show (0:Rat)<=1000000000000000000 by grind)
  rw [tE]
  grind
 have DA:D*a≠0:=b5 (by omega) (by omega)
 have M7:1<=D*a:=by
  have:=eJ (show 0<D by omega) a0
  omega
 have U1:a<2 ^ 61:=by simp only [dD]; omega
 have O3:Sz (61*(k+1)+1) (D*a):=(zD.mul (sz_of (a:=61) (by omega) U1)).mono (by omega)
 have IT:Sz (61*(k+1)+41) (M*1000000000000000001):=(zM.mul (sz_of (a:=61) (by omega) (by simp only [dD,k6]))).mono (by omega)
 have tg:dH (D*a) (i9 ss h):=by rw [tE]; exact (((hg j).1).mG W).m9 (by omega) (by omega)
 have Nv:∀ i,dH (D*a) (dZ ss h i*i9 ss h):=fun i=>by
  obtain ⟨fi,Tj⟩:=fg i
  have e:dZ ss h i*i9 ss h=h j*(fi:Rat) / (a:Rat):=by
   rw [tE,Tj]
   have:(W:Rat)≠0:=by grind
   have:(a:Rat)≠0:=by grind
   grind
  rw [e]
  exact (((hg j).1).mG fi).m9 (by omega) (by omega)
 have M0:(1:Rat)<=(M:Rat):=by
  have:=ak.mpr M1
  exact this
 have eM:((M*1000000000000000001:Int):Rat)=(M:Rat)*1000000000000000001:=by rw [aJ]; rfl
 have ft:∀ i,-i9 ss h<=dZ ss h i*i9 ss h/\dZ ss h i*i9 ss h<=i9 ss h:=fun i=>by
  have a:=aC (fb i).1 (br t0)
  have b:=aC (fb i).2 (br t0)
  constructor <;> grind
 refine ⟨⟨⟨D*a,M*1000000000000000001,M7,O3,by omega,IT,fun i=>⟨?_,?_⟩,?_,?_⟩,fun i=>BP P ne z.h0 i,?_⟩,D*a,M*1000000000000000001,M7,O3,by omega,IT,fun i=>⟨Nv i,?_,?_⟩,tg,br t0,?_⟩
 ·exact (((hg i).1).more (by omega) (by omega)).sub (Nv i)
 ·have:=(ft i).1
  have:=(hg i).2
  rw [eM]
  unfold qE
  grind
 ·exact (mg.more (by omega) (by omega)).add tg
 ·rw [eM]; grind
 ·have:=z.m0; grind
 ·have:=(ft i).1; rw [eM]; grind
 ·have:=(ft i).2; rw [eM]; grind
 ·rw [eM]; grind
theorem Pz.sz {k:Nat} {mo:Rat} (z:Pz ss k h mo) (hk:k<=9):(∀ i,cL 1200 (h i))/\cL 1200 mo:=by
 obtain ⟨D,M,D1,zD,M1,zM,hg,mg,mM⟩:=z.ex
 have M0:(1:Rat)<=(M:Rat):=by
  have:=ak.mpr M1
  exact this
 refine ⟨fun i=>?_,?_⟩
 ·have:=z.h0 i
  exact ((hg i).1.sz (by omega) zD zM (by grind) (hg i).2 (by omega)).mono (by omega)
 ·have:=z.m0
  exact (mg.sz (by omega) zD zM (by grind) mM (by omega)).mono (by omega)
theorem xU {L:Int} (P:Plan ss L):∀ k,(∀ j,j<k->bY ss (bj ss j).1≠[])->Pz ss k (bj ss k).1 (bj ss k).2/\k+(bY ss (bj ss k).1).length<=ss.length
 | 0,_=>by
  refine ⟨⟨⟨1,1000000000000,by decide,Sz.one 0,by decide,?_,fun i=>⟨dH.int (by decide) _,?_⟩,dH.int (by decide) 0,?_⟩,fun i=>?_,aB⟩,?_⟩
  ·exact sz_of (a:=41) (by omega) (by simp only [dD,k6])
  ·show (d8 ss i:Rat)<=_
   refine ak.mpr ?_
   by_cases c:i<ss.length
   ·obtain ⟨s,hs,_,e,_⟩:=fX c
    rw [e]; exact (P.b1 s hs).2
   ·unfold d8
    rw [bN (by omega)]
    show (0:Int)<=1000000000000
    omega
  ·exact dg.mpr (show (0:Int)<=1000000000000 by omega)
  ·show (0:Rat)<=(d8 ss i:Rat)
   refine dg.mpr ?_
   by_cases c:i<ss.length
   ·obtain ⟨s,hs,_,e,_⟩:=fX c
    rw [e]; have:=(P.b1 s hs).1; omega
   ·unfold d8
    rw [bN (by omega)]
    exact fE _
  ·have:(bY ss (bj ss 0).1).length<=(aD ss.length).length:=bG _ _
   rw [dm] at this
   omega
 | k+1,hk=>by
  obtain ⟨z,le⟩:=xU P k fun j hj=>hk j (by omega)
  have ne:=hk k (by omega)
  have lt:=vC P ne z.h0
  exact ⟨(z.step P ne).1,by
   show k+1+(bY ss (qE ss (bj ss k).1)).length<=ss.length
   omega⟩
end
end Sw
namespace Sw
theorem GW {ss:List S3} {L:Int} {h:Nat->Rat} (P:Plan ss L) {i:Nat} (c:i∈bY ss h):dU ss i<=sumF ss h:=by
 have sp:∀ i∈bY ss h,1<=dU ss i:=fun i hi=>by
  obtain ⟨s,hs,e,_⟩:=fX (dj.mp hi).1
  rw [e]; exact P.s1 s hs
 unfold sumF
 have:∀ {l:List Nat},(∀ i∈l,1<=dU ss i)->i∈l->dU ss i<=(l.map (dU ss)).sum:=fun {l}=>by
  induction l with
  | nil=>intro _ h; cases h
  | cons x r ih =>
   intro h hi
   have h1:=h x (by simp)
   have h2:0<=(r.map (dU ss)).sum:=by
    by_cases z:r = []
    ·subst z; exact fE _
    ·have:=EH (l:=r.map (dU ss)) (fun y hy=>by
      obtain ⟨i,hi,rfl⟩:=aP.mp hy
      exact h i (aA _ hi)) (by simpa using z)
     omega
   rw [bD,eT]
   rcases aM.mp hi with z | z
   ·subst z; omega
   ·have:=ih (fun i hi=>h i (aA _ hi)) z; omega
 exact this sp c
end Sw
namespace L2
open PySem PySem.Spec PyProof.Rows
theorem QJ {K:ai} {a b:Addr} {xs ys:List V} {g:TG} {tc:TT} {te:TE} {D:Addr} {τ:St} {H:Hp} {Q:VK} (Pv:Nat->St->Hp->Prop) (h0:Pv 0 τ H) (hn:xs.length<=ys.length) (hl:∀ i τ H,i<=xs.length->Pv i τ H->gR K H a xs/\gR K H b ys)
    (hs:∀ i x y τ H p,xs[i]? = some x->ys[i]? = some y->Pv i τ H->H p=none->g (.ref p) τ (aQ H p (.tup [x,y])) fun τ2 H3=>tc τ2 H3 fun b H4=>if b=true then te τ2 H4 fun y H5=>∃ ys,H5 D=some (.lst ys)/\ys.length<sizeLine/\Pv (i+1) τ2 (aQ H5 D (.lst (ys++[y]))) else Pv (i+1) τ2 H4)
    (hd:∀ τ H,Pv xs.length τ H->Q (.ref D) H) :
    jz (JJ K a b) g tc te D τ H Q:=by
  refine ⟨fun i m τ H=>m=xs.length-i/\i<=xs.length/\Pv i τ H,⟨xs.length,by simp,bR _,h0⟩,?_⟩
  rintro i m τ H ⟨rfl,hi,p⟩
  obtain ⟨q1,q2⟩:=hl i τ H hi p
  by_cases jx:i<xs.length
  · refine .inr ⟨⟨xs,ys,xs[i],ys[i]'(by omega),q1,q2,by simp [jx],au _⟩,Pv (i+1),fun τ' H' p'=>⟨xs.length-(i+1),by omega,rfl,jx,p'⟩,fun v H2 z=>?_⟩
    obtain ⟨c,x,y,rfl,hc,hx,hy,rfl⟩:=z
    exact hs i x y τ H c (hx xs q1) (hy ys q2) p hc
  · have e:i=xs.length:=by omega
    subst e
    exact .inl ⟨⟨xs,ys,q1,q2,.inl (av _)⟩,hd τ H p⟩
theorem XV {c:TT} {tb:TS} {D:Ends} {σ:St} {H:Hp} (W:Nat->St->Hp->Prop) {m0:Nat} (h0:W m0 σ H)
    (hs:∀ m σ H,W m σ H->∀ Q:Bool->Hp->Prop,(∀ H1,tb { D with nx:=fun σ' H'=>∃ m',m' < m/\W m' σ' H',ct:=fun σ' H'=>∃ m',m' < m/\W m' σ' H',bk:=D.nx } σ H1->Q true H1)->(∀ H1,D.nx σ H1->Q false H1)->c σ H Q):Jv c tb D σ H:=by
  refine ⟨W,⟨_,h0⟩,fun m σ H p=>?_⟩
  exact hs m σ H p _ (fun H1 h=>⟨_,fun σ' H' z=>z,h⟩) fun H1 h=>h
def fr (n:Nat) (h:Nat->Rat):List Rat:=(aD n).map h
theorem t8 (n:Nat) (h:Nat->Rat):(fr n h).length=n:=by unfold fr; rw [ae,dm]
theorem xB {n i:Nat} (h:Nat->Rat) (c:i<n):(fr n h)[i]? = some (h i):=by unfold fr; rw [bh,gO c]; rfl
theorem EJ (n:Nat) (h:Nat->Rat):fr (n+1) h=fr n h++[h n]:=by unfold fr; rw [dF,ay]; rfl
theorem W9 {n:Nat} {h g:Nat->Rat} (e:∀ i,i<n->h i=g i):fr n h=fr n g:=by
 unfold fr
 exact jc fun i hi=>e i (bS.mp hi)
def HV (H:Hp) (p:Addr) (s:Sw.S3):Prop:=∃ pl pr,H p=some (.tup [.int s.1,.ref pl])/\H pl=some (.tup [.int s.2.1,.ref pr])/\H pr=some (.tup (fq s.2.2))
theorem HV.keep {H H':Hp} {p:Addr} {s:Sw.S3} (h:HV H p s) (e:∀ p xs,H p=some (.tup xs)->H' p=some (.tup xs)):HV H' p s:=by
 obtain ⟨pl,pr,h1,h2,h3⟩:=h
 exact ⟨pl,pr,e _ _ h1,e _ _ h2,e _ _ h3⟩
structure qU (H:Hp) (l:Addr) (ps:List Addr) (ss:List Sw.S3):Prop where
 hl:H l=some (.lst (ps.map V.ref))
 r:Paired (HV H) ps ss
theorem qU.same {H H':Hp} {l:Addr} {ps:List Addr} {ss:List Sw.S3} (h:qU H l ps ss) (s:bT H H'):qU H' l ps ss:=⟨s _ _ h.hl,Paired.gB h.r fun _ _ q=>q.keep fun _ _ e=>s _ _ e⟩
theorem qU.copy {H:Hp} {l l':Addr} {ps:List Addr} {ss:List Sw.S3} (h:qU H l ps ss) (f:H l'=none):qU (aQ H l' (.lst (ps.map V.ref))) l' ps ss:=⟨cO,(h.same (cZ f)).r⟩
theorem qU.len {H:Hp} {l:Addr} {ps:List Addr} {ss:List Sw.S3} (h:qU H l ps ss):ps.length=ss.length:=Paired.length h.r
theorem qU.item {H:Hp} {l:Addr} {ps:List Addr} {ss:List Sw.S3} (h:qU H l ps ss) {i:Nat} (c:i<ss.length):∃ p pl pr,ps[i]? = some p/\uH (ps.map V.ref) (i:Int)=some (.ref p)/\H p=some (.tup [.int (Sw.dU ss i),.ref pl])/\H pl=some (.tup [.int (Sw.d8 ss i),.ref pr])/\H pr=some (.tup (fq (Sw.dQ ss i))):=by
 have e:ss[i]? = some (ss[i]'c):=au _
 obtain ⟨p,h1,pl,pr,h2,h3,h4⟩:=Hu h.r e
 have e1:Sw.dU ss i=(ss[i]'c).1:=by unfold Sw.dU; rw [e]; rfl
 have e2:Sw.d8 ss i=(ss[i]'c).2.1:=by unfold Sw.d8; rw [e]; rfl
 have e3:Sw.dQ ss i=(ss[i]'c).2.2:=by unfold Sw.dQ; rw [e]; rfl
 rw [e1,e2,e3]
 exact ⟨p,pl,pr,h1,Aa (by rw [bh,h1]; rfl),h2,h3,h4⟩
theorem QK {H:Hp} {l:Addr} {ps:List Addr} {n:Nat} {h:Nat->Rat} (L:iM fq H l ps (fr n h)) {i:Nat} (c:i<n):∃ p,ps[i]? = some p/\uH (ps.map V.ref) (i:Int)=some (.ref p)/\H p=some (.tup (fq (h i))):=by
 have ln:=pQ L.r
 rw [t8] at ln
 have e:ps[i]? = some (ps[i]'(by omega)):=au _
 obtain ⟨q,h1,h2⟩:=wX L.r e
 rw [xB h c] at h1
 cases h1
 exact ⟨_,e,Aa (by rw [bh,e]; rfl),h2⟩
def we (ss:List Sw.S3) (H:Hp) (p:Addr) (k:Nat):Prop:=∃ pm pa po ph os hs,H p=some (.tup [.ref pm,.ref pa,.ref po,.ref ph])/\H pm=some (.tup (fq (Sw.bj ss k).2))/\H pa=some (.tup (fq (Sw.bj ss (k+1)).2))/\iM fq H po os (fr ss.length (Sw.cN ss (Sw.bj ss k).1))/\iM fq H ph hs (fr ss.length (Sw.bj ss k).1)
theorem we.same {ss:List Sw.S3} {H H':Hp} {p:Addr} {k:Nat} (h:we ss H p k) (s:bT H H'):we ss H' p k:=by
 obtain ⟨pm,pa,po,ph,os,hs,h1,h2,h3,h4,h5⟩:=h
 exact ⟨pm,pa,po,ph,os,hs,s _ _ h1,s _ _ h2,s _ _ h3,h4.same s,h5.same s⟩
structure E7 (ss:List Sw.S3) (H:Hp) (l:Addr) (ps:List Addr) (m:Nat):Prop where
 hl:H l=some (.lst (ps.map V.ref))
 r:Paired (we ss H) ps (aD m)
theorem E7.same {ss:List Sw.S3} {H H':Hp} {l:Addr} {ps:List Addr} {m:Nat} (h:E7 ss H l ps m) (s:bT H H'):E7 ss H' l ps m:=⟨s _ _ h.hl,Paired.gB h.r fun _ _ q=>q.same s⟩
structure fD (ss:List Sw.S3) (m:Nat):Prop where
 go:∀ j,j<m->Sw.bY ss (Sw.bj ss j).1≠[]
 no:Sw.bY ss (Sw.bj ss m).1 = []
 le:m<=ss.length
theorem Ql:∀ l:List Nat,(l.map iI).all mq=true
 | []=>rfl
 | i :: r=>by
  rw [bD,t9,Ql r]
  rfl
theorem Xa (i:Nat) (l:List Nat):Ey (.int (i:Nat)) (l.map iI)=decide (i∈l):=by
 unfold Ey
 induction l with
 | nil=>rfl
 | cons x r ih =>
  rw [bD,iU,ih]
  have e:Ar (iI x) (.int (i:Nat))=decide (i=x):=by
   show decide ((x:Int)=(i:Int)) = _
   refine decide_eq_decide.mpr ⟨fun h=>by omega,fun h=>by omega⟩
  rw [e]
  by_cases c:i=x
  ·simp [c]
  ·simp [c]
theorem XW {n j:Nat} (h:j<n):AD n (j:Int)=some j:=by
 unfold AD
 rw [if_pos (by omega),if_pos (by omega),oV]
theorem Qm {α:Type} {o9:α->List V} {H:Hp} {t:Addr} {q:α} (ht:H t=some (.tup (o9 q))):∀ {ps:List Addr} {qs:List α} (i:Nat),jg o9 H ps qs->jg o9 H (ps.set i t) (qs.set i q)
 | _,_,_,Paired.nil=>.nil
 | _,_,0,Paired.cons _ b=>.cons ht b
 | _,_,i+1,Paired.cons a b=>.cons a (Qm ht i b)
theorem Y0 {n i:Nat} (g:Nat->Rat) (x:Rat):(fr n g).set i x=fr n (fun j=>if j=i then x else g j):=by
 refine oj fun j=>?_
 rw [List.getElem?_set]
 by_cases c:j<n
 ·rw [xB _ c,xB _ c,t8]
  by_cases e:i=j
  ·subst e; rw [if_pos rfl,if_pos c,if_pos rfl]
  ·rw [if_neg e,if_neg (fun z=>e z.symm)]
 ·rw [bN (l:=fr n g) (by rw [t8]; omega),bN (l:=fr n _) (by rw [t8]; omega),t8]
  split
  ·rw [if_neg (by omega)]
  ·rfl
def mn (H:Hp) (l:Addr):Hp:=fun b=>if b=l then none else H b
theorem tJ {H:Hp} {l b:Addr} {o:HO} (h:H b=some o) (n:b≠l):mn H l b=some o:=by unfold mn; rw [if_neg n]; exact h
theorem AI {H:Hp} {l:Addr}:bT (mn H l) H:=fun b o e=>by
 unfold mn at e
 split at e
 ·cases e
 ·exact e
theorem DO {H H':Hp} {l:Addr} (s:bT H H'):bT (mn H l) (mn H' l):=fun b o e=>by
 unfold mn at e ⊢
 split at e
 ·cases e
 ·rename_i n
  rw [if_neg n]; exact s _ _ e
theorem Y3 {H:Hp} {l:Addr} {o:HO}:mn (aQ H l o) l=mn H l:=funext fun b=>by
 unfold mn
 split
 ·rfl
 ·rename_i n; rw [c8 n]
theorem iM.mn {H:Hp} {l x:Addr} {ps:List Addr} {qs:List Rat} (L:iM fq H x ps qs) {ys:List V} (hl:H l=some (.lst ys)) (n:x≠l):iM fq (L2.mn H l) x ps qs:=⟨tJ L.hl n,qf L.r fun p xs e=>tJ e (b7 e hl (by intro z; cases z))⟩
theorem As:((0:Int):Rat) / ((1:Int):Rat) = 0:=by decide +kernel
theorem Kf (i:Int):(i:Rat) / ((1:Int):Rat)=(i:Rat):=by
 have:((1:Int):Rat) = 1:=rfl
 rw [this]; grind
end L2
namespace Sw
open L2
theorem Rq {l:List Rat} (h:∀ x∈l,0<=x) (i:Nat):0<=tq (l.take i)/\tq (l.take i)<=tq l:=by
 have e:=ju (l.take i) (l.drop i)
 rw [wc] at e
 have a:=DW (l:=l.drop i) fun x hx=>h x (List.mem_of_mem_drop hx)
 have b:=DW (l:=l.take i) fun x hx=>h x (lW hx)
 constructor <;> grind
theorem JA {L:Int} {q:Rat} (L1:1<=L) (L2:L<=1000000000000000000) (g:dH L q) (h1:-1<=q) (h2:q<=1):cL 200 q:=by
 refine (g.sz (M:=1) (b:=1) (by omega) (sz_of (a:=60) (by omega) (by simp only [dD]; omega)) (Sz.one 0) ?_ ?_ (by decide)).mono (by decide)
 ·exact h1
 ·exact h2
theorem Sb {L:Int} (L1:1<=L) (L2:L<=1000000000000000000) {l:List Rat} (h:∀ x∈l,0<=x) (g:∀ x∈l,dH L x) (le:tq l<=1) (i:Nat):cL 200 (tq (l.take i)):=by
 obtain ⟨a,b⟩:=Rq h i
 exact JA L1 L2 (EN (by omega) fun x hx=>g x (lW hx)) (by grind) (by grind)
theorem pG {ss:List S3} {L:Int} (P:Plan ss L) (i:Nat):cL 200 (dQ ss i):=JA P.L1 P.L2 (nI P i) (by have:=jG P i; grind) (tN P i)
theorem AE {ss:List S3} {L:Int} (P:Plan ss L) (h:Nat->Rat):cL 200 (eO ss h):=JA P.L1 P.L2 (Rp P h) (by have:=(Jm P h).1; grind) (Jm P h).2
theorem tL {ss:List S3} {L:Int} (P:Plan ss L) (h:Nat->Rat) (i:Nat):cL 200 (tq ((mO ss h).take i)):=by
 refine Sb P.L1 P.L2 (fun x hx=>?_) (fun x hx=>?_) ?_ i
 ·obtain ⟨i,_,rfl⟩:=aP.mp hx
  exact jG P i
 ·obtain ⟨i,_,rfl⟩:=aP.mp hx
  exact nI P i
 ·have:=(Jm P h).1
  unfold eO at this
  grind
theorem qH {ss:List S3} {L:Int} (P:Plan ss L) (i:Nat):cL 200 (tq ((ss.map fun s=>s.2.2).take i)):=by
 refine Sb P.L1 P.L2 (fun x hx=>?_) (fun x hx=>?_) (by have:=P.lt; grind) i
 ·obtain ⟨s,hs,rfl⟩:=aP.mp hx
  exact P.r0 s hs
 ·obtain ⟨s,hs,rfl⟩:=aP.mp hx
  exact P.gr s hs
theorem uS {ss:List S3} {L:Int} (P:Plan ss L) {h:Nat->Rat} (ne:bY ss h≠[]) (i:Nat):cL 200 (cN ss h i):=by
 obtain ⟨S1,SL⟩:=jq P ne
 have W1:1<=L*sumF ss h:=by
  have:=eI S1 (show 0<=L by have:=P.L1; omega)
  have:=P.L1
  omega
 exact JA W1 SL (MZ P ne i) (by have:=(DX P ne i).1; grind) (DX P ne i).2
theorem x8 {ss:List S3} {L:Int} (P:Plan ss L) {h:Nat->Rat} (ne:bY ss h≠[]) (i:Nat):cL 401 (dZ ss h i):=(uS P ne i).sub (pG P i)
end Sw
namespace L2
def p6 (ss:List Sw.S3) (m i:Nat):Rat:=((aD m).map fun k=>(Sw.bj ss k).1 i).foldl max 0
theorem Hx:∀ (l:List Rat) (a:Rat),a<=l.foldl max a/\(∀ x∈l,x<=l.foldl max a)/\(l.foldl max a=a\/l.foldl max a∈l)
 | [],a=>⟨aB,fun x h=>absurd h aR,.inl rfl⟩
 | y :: r,a=>by
  obtain ⟨h1,h2,h3⟩:=Hx r (max a y)
  have m1:a<=max a y:=by rw [b6]; split <;> grind
  have m2:y<=max a y:=by rw [b6]; split <;> grind
  show a<=r.foldl max (max a y)/\(∀ x∈y :: r,x<=r.foldl max (max a y))/\(r.foldl max (max a y)=a\/r.foldl max (max a y)∈y :: r)
  refine ⟨by grind,fun x hx=>?_,?_⟩
  ·rcases aM.mp hx with z | z
   ·subst z; grind
   ·exact h2 x z
  ·rcases h3 with z | z
   ·rw [z,b6]
    split
    ·exact .inr (by simp)
    ·exact .inl rfl
   ·exact .inr (aA _ z)
end L2
namespace Sw
open L2
theorem j9 {ss:List S3} {L:Int} (P:Plan ss L) {m:Nat} (en:fD ss m) {k:Nat} (hk:k<=m):Pz ss k (bj ss k).1 (bj ss k).2/\(∀ i,cL 1200 ((bj ss k).1 i))/\cL 1200 (bj ss k).2:=by
 obtain ⟨z,_⟩:=xU P k fun j hj=>en.go j (by omega)
 have:=P.n8
 have:=en.le
 exact ⟨z,z.sz (by omega)⟩
theorem B8 {ss:List S3} {L:Int} (P:Plan ss L) {h:Nat->Rat} (ne:bY ss h≠[]) {k:Nat} {mo:Rat} (z:Pz ss k h mo) (hk:k<=8):(∀ i,cL 1200 (dZ ss h i*i9 ss h))/\cL 1200 (i9 ss h):=by
 obtain ⟨_,D,M,D1,zD,M1,zM,fg,tg,t0,tM⟩:=z.step P ne
 have M0:(1:Rat)<=(M:Rat):=by
  have:=ak.mpr M1
  exact this
 refine ⟨fun i=>?_,?_⟩
 ·exact ((fg i).1.sz (by omega) zD zM (fg i).2.1 (fg i).2.2 (by omega)).mono (by omega)
 ·exact (tg.sz (by omega) zD zM (by grind) tM (by omega)).mono (by omega)
end Sw
namespace L2
open PySem PySem.Spec PyProof.Rows
theorem Sc {ss:List Sw.S3} {L:Int} (P:Sw.Plan ss L) {m:Nat} (en:fD ss m) {i k:Nat} (hi:i<ss.length) (hk:k<=m):(Sw.bj ss k).1 i<=p6 ss m i:=by
 obtain ⟨h1,h2,_⟩:=Hx ((aD m).map fun k=>(Sw.bj ss k).1 i) 0
 unfold p6
 by_cases c:k<m
 ·exact h2 _ (aP.mpr ⟨k,bS.mpr c,rfl⟩)
 ·have:k=m:=by omega
  subst this
  have z:¬ 0<(Sw.bj ss k).1 i:=fun z=>by
   have:=Sw.dj.mpr ⟨hi,z⟩
   rw [en.no] at this
   cases this
  grind
theorem Y4 {ss:List Sw.S3} {L:Int} (P:Sw.Plan ss L) {m:Nat} (en:fD ss m) {i:Nat} (hi:i<ss.length):∃ k,k<m/\(Sw.bj ss k).1 i=p6 ss m i:=by
 obtain ⟨h1,h2,h3⟩:=Hx ((aD m).map fun k=>(Sw.bj ss k).1 i) 0
 have b0:(0:Rat)<(Sw.bj ss 0).1 i:=by
  obtain ⟨s,hs,_,e,_⟩:=Sw.fX hi
  show (0:Rat)<(Sw.d8 ss i:Rat)
  rw [e]
  exact Sw.bJ (by have:=(P.b1 s hs).1; omega)
 have g:=Sc P en hi (bR m)
 unfold p6 at g ⊢
 rcases h3 with z | z
 ·rw [z] at g; exfalso; grind
 ·obtain ⟨k,hk,e⟩:=aP.mp z
  exact ⟨k,bS.mp hk,e⟩
theorem Y5 {ss:List Sw.S3} {L:Int} (P:Sw.Plan ss L) {m:Nat} (en:fD ss m) {i:Nat} (hi:i<ss.length):Sw.cL 1200 (p6 ss m i):=by
 obtain ⟨k,hk,e⟩:=Y4 P en hi
 rw [<- e]
 exact (Sw.j9 P en (by omega)).2.1 i
end L2
namespace Sw
open L2
structure wj (own:Bool) (b left:Int) (ss:List S3):Prop where
 s1:∀ s∈ss,1<=s.1/\s.1<=1000
 b1:∀ s∈ss,1<=s.2.1/\s.2.1<=1000000000000
 r0:∀ s∈ss,0<=s.2.2
 no:own=false->(∀ s∈ss,dH b s.2.2)/\tq (ss.map fun s=>s.2.2)=((b-1-left:Int):Rat) / (b:Rat)
 ow:own=true->(∃ L:Int,1<=L/\L<=1000 ^ ss.length/\∀ s∈ss,dH L s.2.2)/\(ss = []\/tq (ss.map fun s=>s.2.2)<(ss.length:Rat) / 4)
theorem Wa {ss:List S3} (h:∀ s∈ss,1<=s.1/\s.1<=1000):0<=(ss.map fun s=>s.1).sum/\(ss.map fun s=>s.1).sum<=ss.length*1000:=by
 induction ss with
 | nil=>exact ⟨fE _,fE _⟩
 | cons a r ih =>
  have:=ih fun s hs=>h s (aA _ hs)
  have:=h a (by simp)
  rw [bD,eT,aE]
  constructor <;> omega
theorem wj.LG {own:Bool} {b left:Int} {ss:List S3} (h:wj own b left ss) (hb:1<=b/\b<=1000) (hl:0<=left) (n8:ss.length<=8) (n4:own=true->ss.length<=4):∃ L,Plan ss L:=by
 obtain ⟨q0,q1⟩:=Wa h.s1
 cases own with
 | false =>
  obtain ⟨g,e⟩:=h.no rfl
  refine ⟨b,n8,hb.1,by omega,fun s hs=>(h.s1 s hs).1,h.b1,h.r0,g,?_,?_⟩
  ·rw [e]
   have b0:(0:Rat)<(b:Rat):=bJ (by omega)
   have:=DV b0 (show ((b-1-left:Int):Rat)<(b:Rat) from dX.mpr (by omega))
   have e:(b:Rat) / (b:Rat) = 1:=by
    have:(b:Rat)≠0:=by grind
    grind
   rw [e] at this
   exact this
  ·have a:=cu hb.2 q0
   omega
 | true =>
  obtain ⟨⟨L,L1,L2,g⟩,t⟩:=h.ow rfl
  have n4:=n4 rfl
  have L3:L<=1000000000000:=by
   rcases (show ss.length = 0\/ss.length = 1\/ss.length = 2\/ss.length = 3\/ss.length = 4 by omega) with e | e | e | e | e <;> rw [e] at L2 <;> simp only [dD] at L2 <;> omega
  refine ⟨L,n8,L1,by omega,fun s hs=>(h.s1 s hs).1,h.b1,h.r0,g,?_,?_⟩
  ·rcases t with z | z
   ·subst z; show (0:Rat)<1; decide
   ·have:(ss.length:Rat)<=4:=by
     have:=Rat.natCast_le_natCast.mpr n4
     exact this
    grind
  ·have a:=cu L3 q0
   omega
theorem wj.nil {own:Bool} {b:Int} (hb:1<=b):wj own b (b-1) []:=by
 refine ⟨fun s h=>absurd h aR,fun s h=>absurd h aR,fun s h=>absurd h aR,fun _=>⟨fun s h=>absurd h aR,?_⟩,fun _=>⟨⟨1,by decide,by decide,fun s h=>absurd h aR⟩,.inl rfl⟩⟩
 have:b-1-(b-1) = 0:=by omega
 rw [this]
 show (0:Rat)=((0:Int):Rat) / (b:Rat)
 have:((0:Int):Rat) = 0:=rfl
 rw [this]; grind
theorem wj.AL {b left top:Int} {ss:List S3} (h:wj false b left ss) (hb:1<=b) (t0:0<=top) {sh bu:Int} (hs:1<=sh/\sh<=1000) (hu:1<=bu/\bu<=1000000000000):wj false b (left-top) (ss++[(sh,bu,(top:Rat) / (b:Rat))]):=by
 have b0:(0:Rat)<(b:Rat):=bJ (by omega)
 obtain ⟨g,e⟩:=h.no rfl
 refine ⟨fun s hm=>?_,fun s hm=>?_,fun s hm=>?_,fun _=>⟨fun s hm=>?_,?_⟩,fun z=>by cases z⟩
 ·rcases aY.mp hm with z | z
  ·exact h.s1 s z
  ·have:s = _:=bH.mp z
   rw [this]; exact hs
 ·rcases aY.mp hm with z | z
  ·exact h.b1 s z
  ·have:s = _:=bH.mp z
   rw [this]; exact hu
 ·rcases aY.mp hm with z | z
  ·exact h.r0 s z
  ·have:s = _:=bH.mp z
   rw [this]
   have:=zA b0 (show (0:Rat)<=(top:Rat) from dg.mpr t0)
   have e:(0:Rat) / (b:Rat) = 0:=by grind
   rw [e] at this
   exact this
 ·rcases aY.mp hm with z | z
  ·exact g s z
  ·have:s = _:=bH.mp z
   rw [this]; exact ⟨top,rfl⟩
 ·rw [ay,bD,kQ,oH,e]
  have:b-1-(left-top)=(b-1-left)+top:=by omega
  rw [this,dh]
  grind
theorem wj.AM {b left Gp top bo:Int} {ss:List S3} (h:wj true b left ss) (hb:1<=bo/\bo<=1000) (t0:0<=top) (t1:4*top<bo) {sh bu:Int} (hs:1<=sh/\sh<=1000) (hu:1<=bu/\bu<=1000000000000) (b':Int):wj true b' Gp (ss++[(sh,bu,(top:Rat) / (bo:Rat))]):=by
 have b0:(0:Rat)<(bo:Rat):=bJ (by omega)
 obtain ⟨⟨L,L1,L2,g⟩,t⟩:=h.ow rfl
 refine ⟨fun s hm=>?_,fun s hm=>?_,fun s hm=>?_,(fun z=>by cases z),fun _=>⟨⟨L*bo,?_,?_,fun s hm=>?_⟩,.inr ?_⟩⟩
 ·rcases aY.mp hm with z | z
  ·exact h.s1 s z
  ·have:s = _:=bH.mp z
   rw [this]; exact hs
 ·rcases aY.mp hm with z | z
  ·exact h.b1 s z
  ·have:s = _:=bH.mp z
   rw [this]; exact hu
 ·rcases aY.mp hm with z | z
  ·exact h.r0 s z
  ·have:s = _:=bH.mp z
   rw [this]
   have:=zA b0 (show (0:Rat)<=(top:Rat) from dg.mpr t0)
   have e:(0:Rat) / (bo:Rat) = 0:=by grind
   rw [e] at this
   exact this
 ·have:=eJ (show 0<L by omega) (show 0<bo by omega)
  omega
 ·rw [aO,aE,cy,fY,Int.pow_succ]
  have p:(0:Int)<=1000 ^ ss.length:=kY (Int.pow_pos (by decide))
  have a:=cu L2 (show 0<=bo by omega)
  have c:=eI hb.2 p
  omega
 ·rcases aY.mp hm with z | z
  ·exact (g s z).more (by omega) (by omega)
  ·have:s = _:=bH.mp z
   rw [this,kZ]
   exact dH.more (by omega) ⟨top,rfl⟩ (by omega)
 ·rw [ay,bD,kQ,oH,aO,aE,cy,fY]
  have q:(top:Rat) / (bo:Rat)<1 / 4:=by
   rw [gG b0]
   have:=dX.mpr t1
   rw [aJ] at this
   have e4:((4:Int):Rat) = 4:=rfl
   rw [e4] at this
   grind
  have en:((ss.length+1:Nat):Rat)=(ss.length:Rat)+1:=by rw [Rat.natCast_add]; rfl
  rw [en]
  rcases t with z | z
  ·subst z
   show (0:Rat) + _ < (((0:Nat):Rat)+1) / 4
   have:((0:Nat):Rat) = 0:=rfl
   rw [this]
   grind
  ·show tq (ss.map fun s=>s.2.2)+(top:Rat) / (bo:Rat) < _
   grind
end Sw
namespace L2
open PySem PySem.Spec PyProof.Rows
theorem Vu {M:Model} {A:Around} {E:Value->Shared->Prop} {s:Shared} {scope:Scope} {globals:Addr} {oq:List (Str×Addr)} {dS:Str} {func:Option Addr} {code:Value} {env:Env} {builtins:Addr} {Q:Env->Shared->Prop} {x0:Str}
    (FJ:∀ n,cellsFrom n scope.names oq=(x0,n) :: oq) (kT:∀ h,pushCells h scope.names=h.push { cls:=.type "cell", data:=.cell none })
    (hQ:Q (newEnv scope s.heap.objs.size globals ((x0,s.heap.objs.size+1) :: oq) dS func code (some env) builtins) { s with heap:=(s.heap.push { cls:=.type "dict", data:=.dict #[] }).push { cls:=.type "cell", data:=.cell none } }) :
    wpAny M A (newFunctionEnv scope globals oq [] dS func code (some env) builtins) Q E s:=by
  simp only [newFunctionEnv,xn,if_true]
  refine wpAny_bind (wpAny_alloc ?_)
  refine wpAny_bind (wpAny_layCells _ (fun name kind cells=>by cases wD:kind == NameKind.cell <;> simp [wD]) _ _ _ _ ?_)
  rw [show ({ s with heap:=s.heap.push { cls:=.type "dict", data:=.dict #[] } }:Shared).heap.objs.size=s.heap.objs.size+1 from Heap.size_push ..]
  rw [FJ,kT]
  refine wpAny_bind ?_
  rw [List.forIn_nil]
  exact wpAny_pure (wpAny_pure hQ)
def vS (X:Cx) (scope:Scope) (cl:List (Str×Addr)) (x0:Str) (N:List Str) (fp:List Addr) (s:Shared) (H:Hp):Cx :=
 { mW X scope ((x0,s.heap.objs.size+1) :: cl) N fp s H with fn:=fun x=>x == x0 }
section
variable {X:Cx}
theorem WE {scope:Scope} {cl:List (Str×Addr)} {x0:Str} {ts:List Str} {fr:List (Str×Nat)} {fp:List Addr} {ao:List (Addr×Obj)} {σ:St} {H:Hp} {s:Shared} {h':Heap} {m:Str->Option Value} {t':Nat} (I:Inv X ao σ H s)
    (gx:scope.kind = .function) (nG:∀ x c,cl.lookup x=some c->X.env.cells.lookup x=some c)
    (kG:∀ x,((relabel scope X.env).names.lookup x=some .cell\/(relabel scope X.env).names.lookup x=some .free)->x=x0\/∃ c,cl.lookup x=some c) (qy:nO X (relabel scope X.env) fr) (uL:∀ p∈fr,p.1≠x0)
    (CZ:∀ b∈fp,l7 X ao H b/\b<s.heap.objs.size) (hn:h'.Ns s.heap.objs.size m) (Ug:h'.IsCell (s.heap.objs.size+1) none) (hk:∀ b o,s.heap.get? b=some o->h'.get? b=some o) :
    Inv (vS X scope cl x0 (ts++fr.map (·.1)) fp s H) [] (gD ts.length none++fr.map fun p=>(σ[p.2]?).join) H { s with heap:=h',toks:=t' }:=by
  have nD:∀ c v,s.heap.IsCell c v->h'.IsCell c v:=fun c v ⟨o,ho,hd⟩=>⟨o,hk c o ho,hd⟩
  have two:∀ x c,((x0,s.heap.objs.size+1) :: cl).lookup x=some c->(x=x0/\c=s.heap.objs.size+1)\/(x≠x0/\cl.lookup x=some c):=fun x c h=>by
    rw [fS] at h
    cases hb:x == x0 with
    | true=>rw [hb] at h; cases h; exact .inl ⟨beq_iff_eq.mp hb,rfl⟩
    | false=>rw [hb] at h; exact .inr ⟨fun z=>by rw [z] at hb; simp at hb,h⟩
  have z4:∀ x c,cl.lookup x=some c->c<s.heap.objs.size:=fun x c h=>by
    obtain ⟨v,z⟩:=I.cell x c (nG x c h)
    exact z.lt
  refine ⟨⟨I.ok.mod,gx,I.ok.glob,I.ok.blt,av _,fun x y c h1 h2=>?_,fun x hx=>?_,fun x c hf h=>?_,I.ok.hd,I.ok.frames,.inl rfl,fun b hb=>?_,I.bs,cK I.ok.xQ I.sz,fun b o e hb=>?_,fun b hb z=>?_,I.stack,I.rQ⟩,
    rfl,I.bare,Un.kept hk,⟨m,hn,fun i x v e1 e2 e3=>?_⟩,fun x c e=>?_,I.eW.fresh (av _),fun x c e=>?_,fun p hp=>absurd (show p∈([]:List (Addr×Obj)) from hp) (by simp),I.eW.kept hk,?_⟩
  · rcases two x c h1 with ⟨a1,a2⟩ | ⟨a1,a2⟩ <;> rcases two y c h2 with ⟨b1,b2⟩ | ⟨b1,b2⟩
    · rw [a1,b1]
    · exact absurd (a2 ▸ z4 y c b2) (Aj.mpr (eV _))
    · exact absurd (b2 ▸ z4 x c a2) (Aj.mpr (eV _))
    · exact I.ok.inj x y c (nG x c a2) (nG y c b2)
  · rcases kG x hx with z | ⟨c,z⟩
    · exact ⟨s.heap.objs.size+1,by show ((x0,s.heap.objs.size+1) :: cl).lookup x = _; rw [fS,z]; simp⟩
    · by_cases y:x=x0
      · exact ⟨s.heap.objs.size+1,by show ((x0,s.heap.objs.size+1) :: cl).lookup x = _; rw [fS,y]; simp⟩
      · refine ⟨c,?_⟩
        show ((x0,s.heap.objs.size+1) :: cl).lookup x = _
        rw [fS,show (x == x0)=false by simpa using y]
        exact z
  · have hf:(x == x0)=true:=hf
    rcases two x c h with ⟨a1,a2⟩ | ⟨a1,a2⟩
    · rw [a2]; exact eV _
    · exact absurd (beq_iff_eq.mp hf) a1
  · obtain ⟨f,lt⟩:=CZ b hb
    refine ⟨bL lt,fun x c e=>?_⟩
    rcases two x c e with ⟨a1,a2⟩ | ⟨a1,a2⟩
    · rw [a2]; exact fun z=>absurd (z ▸ lt) (Aj.mpr (eV _))
    · exact f.2.2.2.2.1 x c (nG x c a2)
  · obtain ⟨f,lt⟩:=CZ b hb
    rcases f.2.2.2.1 with z | z
    · exact I.ok.wI b o e z
    · exact absurd (bI (Heap.lt_size e) (cK I.ok.xQ z)) (g6 _)
  · obtain ⟨f,lt⟩:=CZ b hb
    rcases aM.mp (I.rR b z) with y | y
    · exact f.2.1 y
    · exact f.2.2.1 y
  · have gI:(gD ts.length (none:Option V)).length=ts.length:=by simp
    by_cases hi:i<ts.length
    · rw [e9 (by rw [gI]; exact hi),jY,if_pos hi] at e2
      cases e2
    · rw [bW (by rw [gI]; omega),gI,bh] at e2
      have CP:(ts++fr.map (·.1))[i]? = some x:=e1
      rw [bW (by omega),bh] at CP
      cases ep:fr[i-ts.length]? with
      | none=>rw [ep] at e2; cases e2
      | some p =>
        rw [ep] at CP e2
        have ex:p.1=x:=bE CP
        have ev:(σ[p.2]?).join=some v:=bE e2
        obtain ⟨a1,a2,a3⟩:=qy.mem p (aq ep)
        have J8:σ[p.2]? = some (some v):=by
          cases q:σ[p.2]? with
          | none=>rw [q] at ev; cases ev
          | some o=>rw [q] at ev; cases o with
            | none=>cases ev
            | some v'=>cases ev; rfl
        obtain ⟨m',KP,KN⟩:=I.loc
        obtain ⟨u,ru,lk⟩:=KN p.2 p.1 v a1 J8 (.inr (.inl a3))
        subst ex
        refine ⟨u,ru,?_⟩
        rcases lk with ⟨z,_⟩ | ⟨_,c,ec,z⟩
        · rw [z] at a3; cases a3
        · have np:=uL p (aq ep)
          rcases kG p.1 (.inl a2) with y | ⟨c',Fl⟩
          · exact absurd y np
          have J3:c'=c:=bE ((nG _ _ Fl).symm.trans ec)
          refine .inr ⟨.inl a2,c',?_,(by rw [J3]; exact nD _ _ z)⟩
          show ((x0,s.heap.objs.size+1) :: cl).lookup p.1 = _
          rw [fS,show (p.1 == x0)=false by simpa using np]
          exact Fl
  · rcases two x c e with ⟨a1,a2⟩ | ⟨a1,a2⟩
    · rw [a2]; exact ⟨none,Ug⟩
    · obtain ⟨v,z⟩:=I.cell x c (nG x c a2)
      exact ⟨v,nD _ _ z⟩
  · rcases two x c e with ⟨a1,a2⟩ | ⟨a1,a2⟩
    · rw [a2]; exact I.eW.fresh (eV _)
    · exact I.kD x c (nG x c a2)
  · show _=(ts++fr.map (·.1)).length
    simp
theorem Xb {x0:Str} {ng cY fO:Expr} {mD:List Expr} {scope:Scope} {pos:Pos} {cl:List (Str×Addr)} {ts:List Str} {fr:List (Str×Nat)} {wi:TI} {g:TG} {tc:TT} {te:TE} (jj:X.calm=true)
    (kF:closureFor scope X.env=pure cl) (FJ:∀ n,cellsFrom n scope.names cl=(x0,n) :: cl) (kT:∀ h,pushCells h scope.names=h.push { cls:=.type "cell", data:=.cell none }) (gx:scope.kind = .function) (i5:∀ y∈scope.names,y.2 = .local->scope.names.lookup y.1=some .local)
    (nG:∀ x c,cl.lookup x=some c->X.env.cells.lookup x=some c)
    (kG:∀ x,((relabel scope X.env).names.lookup x=some .cell\/(relabel scope X.env).names.lookup x=some .free)->x=x0\/∃ c,cl.lookup x=some c) (qy:nO X (relabel scope X.env) fr) (uL:∀ p∈fr,p.1≠x0)
    (hi:PI X cY fO wi) (hg:∀ fp s H,PG (vS X scope cl x0 (ts++fr.map (·.1)) fp s H) cY g) (hc:∀ fp s H,sI (vS X scope cl x0 (ts++fr.map (·.1)) fp s H) mD tc)
    (he:∀ fp s H,PE (vS X scope cl x0 (ts++fr.map (·.1)) fp s H) ng te) (hs:∀ x,foldedSetIterable fO X.env x=pure x:=by intro _; rfl) :
    PE X (.ListComp ng [⟨cY,fO,mD,0⟩] scope pos) (nJ ts.length fr wi g tc te):=by
  intro ao s σ H Q I h
  rw [eval_ListComp]
  refine wpAny_comprehension_free (use:=none) rfl hs kF gx i5 (fM (hi ao s σ H _ I h) fun xv s1 h1=>fM h1 fun Gk s2 h2=>?_)
  obtain ⟨it,fp,tn,J,H2,rfl,I2,T,wU,f2,hR⟩:=h2
  have D0:H2 s2.heap.objs.size=none:=I2.eW.fresh (av _)
  obtain ⟨W,⟨m0,w0⟩,pN⟩:=hR s2.heap.objs.size D0
  refine wpAny_newObj_type (Vu FJ kT ?_)
  have I3:Inv X ao σ (aQ H2 s2.heap.objs.size (.lst [])) { s2 with heap:=s2.heap.push { cls:=.type "list", dict:=none,data:=.seq ([]:List Value).toArray } } :=
    I2.laid (t':=s2.toks) (fun _ _ q=>Heap.get?_push_of_some _ q) (av _) ⟨bR _,[],0,.nil,Heap.get?_push_size _ rfl⟩
  have BH:∀ b o,s2.heap.get? b=some o->(s2.heap.push { cls:=.type "list", dict:=none,data:=.seq ([]:List Value).toArray }).get? b=some o:=fun b o q=>Heap.get?_push_of_some _ q
  have AY:(s2.heap.push { cls:=.type "list", dict:=none,data:=.seq ([]:List Value).toArray }).objs.size=s2.heap.objs.size+1:=Heap.size_push ..
  generalize s2.heap.push { cls:=.type "list", dict:=none,data:=.seq ([]:List Value).toArray } = gU at I3 BH AY ⊢
  have kp:∀ b o,gU.get? b=some o->((gU.push { cls:=.type "dict", data:=.dict #[] }).push { cls:=.type "cell", data:=.cell none }).get? b=some o:=fun b o e=>Heap.get?_push_of_some _ (Heap.get?_push_of_some _ e)
  have pX:((gU.push { cls:=.type "dict", data:=.dict #[] }).push { cls:=.type "cell", data:=.cell none }).Ns gU.objs.size (fun _=>none):=(Heap.Ns.new gU (.type "dict")).keeps fun b o e=>Heap.get?_push_of_some _ e
  have F3:((gU.push { cls:=.type "dict", data:=.dict #[] }).push { cls:=.type "cell", data:=.cell none }).IsCell (gU.objs.size+1) none:=⟨_,by
    have:=Heap.get?_push_size (gU.push { cls:=.type "dict", data:=.dict #[] }) (o:={ cls:=.type "cell", data:=.cell none }) rfl
    rw [Heap.size_push] at this
    exact this,rfl⟩
  generalize (gU.push { cls:=.type "dict", data:=.dict #[] }).push { cls:=.type "cell", data:=.cell none } = h₁ at kp pX F3 ⊢
  have wz:∀ b∈fp,b<s2.heap.objs.size:=fun b hb=>by
    obtain ⟨o,e,_⟩:=T.obj _ _ wU b hb
    exact Heap.lt_size e
  have x9:∀ b∈fp,(aQ H2 s2.heap.objs.size (.lst [])) b=none:=fun b hb=>by rw [c8 (bL (wz b hb))]; exact (f2 b hb).1
  have f3:∀ b∈fp,l7 X ao (aQ H2 s2.heap.objs.size (.lst [])) b/\b<gU.objs.size:=fun b hb=>⟨⟨x9 b hb,(f2 b hb).2⟩,by rw [AY]; exact oY (wz b hb)⟩
  have I4:=WE (ts:=ts) (t':=s2.toks) I3 gx nG kG qy uL f3 pX F3 kp
  have BY:tn 0 h₁:=T.keep _ _ _ wU fun b hb o e=>kp b o (BH b o e)
  have tG:codeAny (model X.prog X.w) X.A (.compLoop (.ListComp ng [⟨cY,fO,mD,0⟩] scope pos) 0 (.ref it) (.ref s2.heap.objs.size) (compEnvC scope ((x0,gU.objs.size+1) :: cl) gU.objs.size X.env))
      (compPost (model X.prog X.w) X.A X.xe none (EP X ao σ Q) (.ref s2.heap.objs.size) gU.objs.size) { s2 with heap:=h₁,toks:=s2.toks }:=by
    refine Ml (fun n s'=>∃ i τ H',Inv (vS X scope cl x0 (ts++fr.map (·.1)) fp { s2 with heap:=gU } (aQ H2 s2.heap.objs.size (.lst []))) [] τ H' s'/\tn i s'.heap/\(∀ b∈fp,H' b=none)/\W i n τ H') ?_ m0 ⟨0,_,_,I4,BY,x9,w0⟩
    rintro n s5 ⟨i,τ,H5,I5,xy,zQ,w5⟩
    have lT:∀ {H':Hp},(∀ b∈fp,H' b=none)->∀ b∈fp,l7 (vS X scope cl x0 (ts++fr.map (·.1)) fp { s2 with heap:=gU } (aQ H2 s2.heap.objs.size (.lst []))) [] H' b :=
      fun hn b hb=>⟨hn b hb,(I5.ok.Bu b hb).1,I5.ok.uI b hb,.inl hb,(I5.ok.Bu b hb).2,fun p hp=>absurd (show p∈([]:List (Addr×Obj)) from hp) (by simp)⟩
    rcases pN i n τ H5 w5 with ⟨stop,qn⟩ | ⟨go,Nn,hN,step⟩
    · refine fM (T.done (vS X scope cl x0 (ts++fr.map (·.1)) fp { s2 with heap:=gU } (aQ H2 s2.heap.objs.size (.lst []))) rfl rfl rfl jj i [] s5 τ H5 _ I5 (lT zQ) xy stop) fun r s6 ⟨hr,I6⟩=>?_
      subst hr
      obtain ⟨m,hn,_⟩:=I6.loc
      refine ⟨m,hn,fun h' zX=>⟨.ref s2.heap.objs.size,H5,?_,rfl,qn⟩⟩
      have ug:∀ b o,gU.get? b=some o->b≠gU.objs.size:=fun b o e=>bL (Heap.lt_size e)
      have rA:Heap.SameBut gU.objs.size s6.heap h':=zX
      refine I3.vn (s':={ s6 with heap:=h' }) (ch:=fp) I6.os ⟨fun b o e n hb hx=>?_,fun b o e n hb hx=>?_,I6.base.free,fun b o e hx=>?_,I6.base.pM,I6.base.nW,I6.base.pL⟩ (fun b ob e=>?_) I6.bare (fun b hb=>?_)
      · exact (rA.2 b (ug b o e)).trans (I6.base.keep b o e n hb hx)
      · obtain ⟨sl,q⟩:=I6.base.slot b o e n hb hx
        exact ⟨sl,(rA.2 b (ug b o e)).trans q⟩
      · obtain ⟨o',q⟩:=I6.base.there b o e hx
        exact ⟨o',(rA.2 b (ug b o e)).trans q⟩
      · refine (I6.eW b ob e).nZ (fun c v hc q=>(rA.2 c ?_).trans q) (fun _ q=>q) fun _ _ q=>q
        intro z
        have fz:H5 gU.objs.size=none:=I6.free
        rcases hc with y | y
        · rw [<- y,z,fz] at e; cases e
        · rw [z,fz] at y; cases y
      · exact ⟨(f2 b hb).2.2.2.1,(f2 b hb).2.1,(f2 b hb).2.2.2.2.1,(f2 b hb).2.2.2.2.2⟩
    · refine fM (T.item (vS X scope cl x0 (ts++fr.map (·.1)) fp { s2 with heap:=gU } (aQ H2 s2.heap.objs.size (.lst []))) rfl rfl rfl jj i [] s5 τ H5 _ I5 (lT zQ) xy go) fun r s6 ⟨u,hr,h6⟩=>?_
      subst hr
      refine fM h6 fun _ s7 ⟨x,H7,I7,r7,y7,yL,Fx⟩=>?_
      have EY:=I7.pinned (lT Fx) (T.obj _ _ yL)
      refine wpAny_mono (hg fp _ _ _ s7 τ H7 x u _ EY r7 (step x H7 y7)) (fun _ s8 ⟨τ8,H8,I8,q8⟩=>?_) fun _ _ z=>bV z
      have again:∀ {τ9:St} {H9:Hp} {s9:Shared},Inv (vS X scope cl x0 (ts++fr.map (·.1)) fp { s2 with heap:=gU } (aQ H2 s2.heap.objs.size (.lst []))) ([]++DR fp s7.heap) τ9 H9 s9->Nn τ9 H9 ->
          ∃ m,m<n/\∃ i τ H',Inv (vS X scope cl x0 (ts++fr.map (·.1)) fp { s2 with heap:=gU } (aQ H2 s2.heap.objs.size (.lst []))) [] τ H' s9/\tn i s9.heap/\(∀ b∈fp,H' b=none)/\W i m τ H':=fun {τ9 H9 s9} I9 n9=>by
        obtain ⟨m',hm,w9⟩:=hN τ9 H9 n9
        refine ⟨m',hm,i+1,τ9,H9,I9.jI,T.keep _ _ _ yL fun b hb o e=>(I9.pin (b,o) (bA _ (bA _ (Cb hb e)))).1,fun b hb=>?_,w9⟩
        obtain ⟨o,e,d⟩:=T.obj _ _ yL b hb
        exact (I9.pin (b,o) (bA _ (bA _ (Cb hb e)))).2.1
      refine wpAny_mono (hc fp _ _ _ s8 τ8 H8 _ I8 q8) (fun ok s9 ⟨H9,I9,q9⟩=>?_) fun _ _ z=>bV z
      cases ok with
      | false=>exact again I9 q9
      | true =>
        refine wpAny_mono (he fp _ _ _ s9 τ8 H9 _ I9 q9) (fun y lH ⟨v,nQ,EW,rv,ys,hD,hl,qN⟩=>?_) fun _ _ z=>bV z
        refine wpAny_mono (wW (X:=vS X scope cl x0 (ts++fr.map (·.1)) fp { s2 with heap:=gU } (aQ H2 s2.heap.objs.size (.lst []))) _ lH τ8 nQ (.ref s2.heap.objs.size) [v] (.ref s2.heap.objs.size) [y] (fun _ H=>Nn τ8 H) EW rfl (.cons rv .nil) ⟨_,ys,v,rfl,rfl,hD,hl,qN⟩) (fun _ vF ⟨_,xg,EX,_,GJ⟩=>again EX GJ) fun _ _ z=>bV z
  exact codeAny_compStart_list tG (T.self X.A 0 _ _ _ BY tG)
theorem Y6 {ng cY fO:Expr} {mD:List Expr} {scope:Scope} {pos:Pos} {cl:List (Str×Addr)} (x0:Str) (ts:List Str) (fr:List (Str×Nat)) {wi:TI} {g:TG} {tc:TT} {te:TE} (jj:X.calm=true)
    (kF:closureFor scope X.env=pure cl) (FJ:∀ n,cellsFrom n scope.names cl=(x0,n) :: cl) (kT:∀ h,pushCells h scope.names=h.push { cls:=.type "cell", data:=.cell none }) (gx:scope.kind = .function) (i5:∀ y∈scope.names,y.2 = .local->scope.names.lookup y.1=some .local)
    (nG:uw X.env cl) (kG:sW (relabel scope X.env).names ((x0,0) :: cl)=true) (qy:nO X (relabel scope X.env) fr) (uL:fr.all (fun p=>p.1 != x0)=true)
    (hi:PI X cY fO wi) (hg:∀ fp s H,PG (vS X scope cl x0 (ts++fr.map (·.1)) fp s H) cY g) (hc:∀ fp s H,sI (vS X scope cl x0 (ts++fr.map (·.1)) fp s H) mD tc)
    (he:∀ fp s H,PE (vS X scope cl x0 (ts++fr.map (·.1)) fp s H) ng te) (hs:∀ x,foldedSetIterable fO X.env x=pure x:=by intro _; rfl) :
    PE X (.ListComp ng [⟨cY,fO,mD,0⟩] scope pos) (nJ ts.length fr wi g tc te) :=
  Xb jj kF FJ kT gx i5 nG.get (fun x q=>by
    obtain ⟨c,e⟩:=Mt kG x q
    rw [fS] at e
    cases hb:x == x0 with
    | true=>exact .inl (beq_iff_eq.mp hb)
    | false=>rw [hb] at e; exact .inr ⟨c,e⟩) qy (fun p hp=>by
    have:=Be.mp uL p hp
    simpa using this) hi hg hc he hs
end
end L2
namespace Sw
open L2
section
variable {ss:List S3}
def eA (ss:List S3) (i:Nat):Nat->Rat
 | 0=>0
 | k+1=>eA ss i k+cN ss (bj ss k).1 i*((bj ss (k+1)).2-(bj ss k).2)
def qL (ss:List S3) (i k:Nat):Rat:=(bj ss k).2+((d8 ss i:Rat)-eA ss i k) / cN ss (bj ss k).1 i
def um (ss:List S3) (i k:Nat):Rat:=(bj ss (k+1)).2-(eA ss i (k+1)-(d8 ss i:Rat)) / dQ ss i
def uo (ss:List S3) (i:Nat):Nat->List Rat
 | 0=>[]
 | k+1=>uo ss i k++(if eA ss i (k+1)<(d8 ss i:Rat) then [] else (if eA ss i k<(d8 ss i:Rat) then [qL ss i k] else [])++(if 0<dQ ss i then [um ss i k] else []))
def jv (ss:List S3) (m i:Nat):Rat:=(uo ss i m).foldl max 0
theorem BK (k:Nat):(bj ss (k+1)).2=(bj ss k).2+i9 ss (bj ss k).1:=rfl
theorem Ab (i:Nat):∀ k,(bj ss k).1 i=(d8 ss i:Rat)+dQ ss i*(bj ss k).2-eA ss i k
 | 0=>by show (d8 ss i:Rat)=(d8 ss i:Rat)+dQ ss i*0-0; grind
 | k+1=>by
  have ih:=Ab i k
  show (bj ss k).1 i-(cN ss (bj ss k).1 i-dQ ss i)*i9 ss (bj ss k).1=(d8 ss i:Rat)+dQ ss i*((bj ss k).2+i9 ss (bj ss k).1)-(eA ss i k+cN ss (bj ss k).1 i*((bj ss k).2+i9 ss (bj ss k).1-(bj ss k).2))
  rw [ih]; grind
theorem pD {i:Nat} {x:Rat}:∀ {k:Nat},x∈uo ss i k↔∃ j,j<k/\¬ eA ss i (j+1)<(d8 ss i:Rat)/\((eA ss i j<(d8 ss i:Rat)/\x=qL ss i j)\/(0<dQ ss i/\x=um ss i j))
 | 0=>by
  constructor
  ·intro h; cases h
  ·rintro ⟨j,h,_⟩; omega
 | k+1=>by
  have ih:=pD (i:=i) (x:=x) (k:=k)
  show x∈uo ss i k++_↔_
  rw [aY,ih]
  constructor
  ·rintro (⟨j,h,r⟩ | h)
   ·exact ⟨j,by omega,r⟩
   ·split at h
    ·cases h
    ·rename_i c
     refine ⟨k,by omega,c,?_⟩
     rcases aY.mp h with h | h
     ·split at h
      ·rename_i d; exact .inl ⟨d,bH.mp h⟩
      ·cases h
     ·split at h
      ·rename_i d; exact .inr ⟨d,bH.mp h⟩
      ·cases h
  ·rintro ⟨j,h,c,r⟩
   by_cases e:j=k
   ·subst e
    refine .inr ?_
    rw [if_neg c]
    rcases r with ⟨d,e⟩ | ⟨d,e⟩
    ·exact aY.mpr (.inl (by rw [if_pos d,e]; simp))
    ·exact aY.mpr (.inr (by rw [if_pos d,e]; simp))
   ·exact .inl ⟨j,by omega,c,r⟩
variable {L:Int} {m:Nat}
theorem MD (P:Plan ss L) (en:fD ss m) {k:Nat} (hk:k<m):(bj ss k).2<(bj ss (k+1)).2:=by
 obtain ⟨_,_,_,_,t0⟩:=tm_at P (en.go k hk)
 rw [BK]; grind
theorem vB (P:Plan ss L) (en:fD ss m):∀ {k j:Nat},j<=k->k<=m->(bj ss j).2<=(bj ss k).2
 | 0,j,h,_=>by
  have:j = 0:=by omega
  subst this; exact aB
 | k+1,j,h,hm=>by
  by_cases c:j=k+1
  ·subst c; exact aB
  ·have a:=vB P en (k:=k) (j:=j) (by omega) (by omega)
   have:=MD P en (k:=k) (by omega)
   grind
theorem Xc (P:Plan ss L) (en:fD ss m) (i:Nat) {k:Nat} (hk:k<m):eA ss i k<=eA ss i (k+1):=by
 have a:=(DX P (en.go k hk) i).1
 have b:=MD P en hk
 have:=bM a (show 0<=(bj ss (k+1)).2-(bj ss k).2 by grind)
 show eA ss i k<=eA ss i k+cN ss (bj ss k).1 i*((bj ss (k+1)).2-(bj ss k).2)
 grind
theorem qx (P:Plan ss L) (en:fD ss m) (i:Nat):∀ {k j:Nat},j<=k->k<=m->eA ss i j<=eA ss i k
 | 0,j,h,_=>by
  have:j = 0:=by omega
  subst this; exact aB
 | k+1,j,h,hm=>by
  by_cases c:j=k+1
  ·subst c; exact aB
  ·have a:=qx P en i (k:=k) (j:=j) (by omega) (by omega)
   have:=Xc P en i (k:=k) (by omega)
   grind
theorem QL (en:fD ss m) (P:Plan ss L) {i:Nat} (hi:i<ss.length):(bj ss m).1 i = 0:=by
 have z:=(j9 P en (av m)).1.h0 i
 have:¬ 0<(bj ss m).1 i:=fun y=>by
  have:=dj.mpr ⟨hi,y⟩
  rw [en.no] at this
  cases this
 grind
theorem Wb {i:Nat} {k:Nat} (h:(bj ss k).1 i = 0):∀ j,k<=j->(bj ss j).1 i = 0:=by
 intro j
 induction j with
 | zero =>
  intro hj
  have:k = 0:=by omega
  subst this; exact h
 | succ j ih =>
  intro hj
  by_cases c:k=j+1
  ·subst c; exact h
  ·have z:=ih (by omega)
   show (bj ss j).1 i-dZ ss (bj ss j).1 i*i9 ss (bj ss j).1 = 0
   rw [Jl (fun y=>by have:=(dj.mp y).2; rw [z] at this; exact absurd this (by decide)),z]
   grind
theorem Xd (P:Plan ss L) (en:fD ss m) {i:Nat} (hi:i<ss.length):∃ b,b<m/\eA ss i b<(d8 ss i:Rat)/\(d8 ss i:Rat)<=eA ss i (b+1):=by
 have b0:(0:Rat)<(d8 ss i:Rat):=by
  obtain ⟨s,hs,_,e,_⟩:=fX hi
  rw [e]
  exact bJ (by have:=(P.b1 s hs).1; omega)
 have Li:(d8 ss i:Rat)<=eA ss i m:=by
  have h:=Ab (ss:=ss) i m
  rw [QL en P hi] at h
  have:=bM (jG P i) (j9 P en (av m)).1.m0
  grind
 have go:∀ k,k<=m->(d8 ss i:Rat)<=eA ss i k->∃ b,b<k/\eA ss i b<(d8 ss i:Rat)/\(d8 ss i:Rat)<=eA ss i (b+1):=by
  intro k
  induction k with
  | zero =>
   intro _ h
   have:eA ss i 0 = 0:=rfl
   grind
  | succ k ih =>
   intro hk h
   by_cases c:eA ss i k<(d8 ss i:Rat)
   ·exact ⟨k,by omega,c,h⟩
   ·obtain ⟨b,b1,b2⟩:=ih (by omega) (by grind)
    exact ⟨b,by omega,b2⟩
 exact go m (av m) Li
theorem rS (P:Plan ss L) (en:fD ss m) {i b:Nat} (hb:b<m) (h1:eA ss i b<(d8 ss i:Rat)) (h2:(d8 ss i:Rat)<=eA ss i (b+1)):0<cN ss (bj ss b).1 i/\(bj ss b).2<qL ss i b/\qL ss i b<=(bj ss (b+1)).2/\eA ss i b+cN ss (bj ss b).1 i*(qL ss i b-(bj ss b).2)=(d8 ss i:Rat):=by
 have lt:=MD P en hb
 have o0:=(DX P (en.go b hb) i).1
 have En:(d8 ss i:Rat)<=eA ss i b+cN ss (bj ss b).1 i*((bj ss (b+1)).2-(bj ss b).2):=h2
 have o1:0<cN ss (bj ss b).1 i:=by
  by_cases c:cN ss (bj ss b).1 i = 0
  ·rw [c] at En; exfalso; grind
  ·grind
 unfold qL
 generalize cN ss (bj ss b).1 i=o at o0 o1 En
 generalize eA ss i b=g at h1 En
 generalize (bj ss b).2=x at lt En
 generalize (bj ss (b+1)).2=y at lt En
 generalize (d8 ss i:Rat)=u at h1 En
 have q0:=DV o1 (show 0<u-g by grind)
 have e0:(0:Rat) / o = 0:=by grind
 rw [e0] at q0
 have q1:=zA o1 (show u-g<=o*(y-x) by grind)
 have e1:o*(y-x) / o=y-x:=by
  have:o≠0:=by grind
  grind
 rw [e1] at q1
 refine ⟨o1,by grind,by grind,?_⟩
 have:o≠0:=by grind
 grind
theorem MM (P:Plan ss L) (en:fD ss m) {i:Nat} (hi:i<ss.length):∃ b,b<m/\eA ss i b<(d8 ss i:Rat)/\(d8 ss i:Rat)<=eA ss i (b+1)/\qL ss i b<=jv ss m i/\0<jv ss m i /\
    (∀ k,k<m->(d8 ss i:Rat)<=eA ss i (k+1)->0<dQ ss i->(bj ss (k+1)).1 i<=dQ ss i*jv ss m i) /\
    (jv ss m i=qL ss i b\/∃ k,k<m/\(d8 ss i:Rat)<=eA ss i (k+1)/\0<dQ ss i/\(bj ss (k+1)).1 i=dQ ss i*jv ss m i/\jv ss m i<=(bj ss (k+1)).2):=by
  obtain ⟨b,hb,h1,h2⟩:=Xd P en hi
  obtain ⟨o1,t1,t2,t3⟩:=rS P en hb h1 h2
  obtain ⟨f1,f2,f3⟩:=Hx (uo ss i m) 0
  have Uz:qL ss i b∈uo ss i m:=pD.mpr ⟨b,hb,by grind,.inl ⟨h1,rfl⟩⟩
  have le:qL ss i b<=jv ss m i:=f2 _ Uz
  have m0:=(j9 P en (show b<=m by omega)).1.m0
  have w0:0<jv ss m i:=by grind
  have two:∀ k,0<dQ ss i->dQ ss i*um ss i k=(bj ss (k+1)).1 i:=fun k r0=>by
    rw [Ab i (k+1)]
    unfold um
    have:dQ ss i≠0:=by grind
    grind
  refine ⟨b,hb,h1,h2,le,w0,fun k hk hg r0=>?_,?_⟩
  · have:um ss i k<=jv ss m i:=f2 _ (pD.mpr ⟨k,hk,by grind,.inr ⟨r0,rfl⟩⟩)
    have:=aH this (br r0)
    rw [two k r0] at this
    exact this
  · have Ke:jv ss m i = 0\/jv ss m i∈uo ss i m:=f3
    rcases Ke with z | z
    · exfalso; grind
    · obtain ⟨j,hj,c,r⟩:=pD.mp z
      rcases r with ⟨d,e⟩ | ⟨d,e⟩
      · refine .inl ?_
        have:j=b:=by
          by_cases x:j<b
          · exfalso
            have:=qx P en i (show j+1<=b by omega) (by omega)
            grind
          · by_cases y:b<j
            · exfalso
              have:=qx P en i (show b+1<=j by omega) (by omega)
              grind
            · omega
        rw [e,this]
      · refine .inr ⟨j,hj,by grind,d,by rw [e,two j d],?_⟩
        rw [e]
        unfold um
        have:=zA d (show 0<=eA ss i (j+1)-(d8 ss i:Rat) by grind)
        have e0:(0:Rat) / dQ ss i = 0:=by grind
        rw [e0] at this
        grind
def IA (ss:List S3) (i:Nat) (w:Rat):Nat->List (Rat×Rat)
 | 0=>[]
 | k+1=>IA ss i w k++((if (bj ss k).2<=w/\w<(bj ss (k+1)).2 then [(w,eA ss i k+cN ss (bj ss k).1 i*(w-(bj ss k).2))] else [])++(if w<=(bj ss (k+1)).2 then [((bj ss (k+1)).2,eA ss i (k+1))] else []))
theorem pC {i:Nat} {w:Rat} {x:Rat×Rat}:∀ {k:Nat},x∈IA ss i w k↔∃ j,j<k/\(((bj ss j).2<=w/\w<(bj ss (j+1)).2/\x=(w,eA ss i j+cN ss (bj ss j).1 i*(w-(bj ss j).2)))\/(w<=(bj ss (j+1)).2/\x=((bj ss (j+1)).2,eA ss i (j+1))))
 | 0=>by
  constructor
  ·intro h; cases h
  ·rintro ⟨j,h,_⟩; omega
 | k+1=>by
  have ih:=pC (i:=i) (w:=w) (x:=x) (k:=k)
  show x∈IA ss i w k++_↔_
  rw [aY,ih]
  constructor
  ·rintro (⟨j,h,r⟩ | h)
   ·exact ⟨j,by omega,r⟩
   ·refine ⟨k,by omega,?_⟩
    rcases aY.mp h with h | h
    ·split at h
     ·rename_i d; exact .inl ⟨d.1,d.2,bH.mp h⟩
     ·cases h
    ·split at h
     ·rename_i d; exact .inr ⟨d,bH.mp h⟩
     ·cases h
  ·rintro ⟨j,h,r⟩
   by_cases e:j=k
   ·subst e
    refine .inr (aY.mpr ?_)
    rcases r with ⟨d1,d2,e⟩ | ⟨d,e⟩
    ·exact .inl (by rw [if_pos ⟨d1,d2⟩,e]; simp)
    ·exact .inr (by rw [if_pos d,e]; simp)
   ·exact .inl ⟨j,by omega,r⟩
theorem Mu (P:Plan ss L) (en:fD ss m) {i:Nat} (hi:i<ss.length) {x:Rat×Rat} (hx:x∈IA ss i (jv ss m i) m):(d8 ss i:Rat)+dQ ss i*(x.1-jv ss m i)<=x.2:=by
 obtain ⟨b,hb,h1,h2,le,w0,all,_⟩:=MM P en hi
 obtain ⟨o1,t1,t2,t3⟩:=rS P en hb h1 h2
 obtain ⟨k,hk,r⟩:=pC.mp hx
 rcases r with ⟨c1,c2,e⟩ | ⟨c,e⟩
 ·rw [e]
  show (d8 ss i:Rat)+dQ ss i*(jv ss m i-jv ss m i)<=eA ss i k+cN ss (bj ss k).1 i*(jv ss m i-(bj ss k).2)
  have o0:=(DX P (en.go k hk) i).1
  have nn:=bM o0 (show 0<=jv ss m i-(bj ss k).2 by grind)
  have ge:(d8 ss i:Rat)<=eA ss i k+cN ss (bj ss k).1 i*(jv ss m i-(bj ss k).2):=by
   by_cases y:b<k
   ·have:=qx P en i (show b+1<=k by omega) (by omega)
    grind
   ·by_cases z:k=b
    ·subst z
     have:=aH (show qL ss i k-(bj ss k).2<=jv ss m i-(bj ss k).2 by grind) (br o1)
     grind
    ·exfalso
     have:=vB P en (show k+1<=b by omega) (by omega)
     grind
  grind
 ·rw [e]
  show (d8 ss i:Rat)+dQ ss i*((bj ss (k+1)).2-jv ss m i)<=eA ss i (k+1)
  have kb:b<=k:=by
   by_cases z:b<=k
   ·exact z
   ·exfalso
    have:=vB P en (show k+1<=b by omega) (by omega)
    grind
  have gg:=qx P en i (show b+1<=k+1 by omega) (by omega)
  by_cases r0:0<dQ ss i
  ·have:=all k hk (by grind) r0
   rw [Ab] at this
   grind
  ·have r1:=jG P i
   have:dQ ss i = 0:=by grind
   rw [this]
   grind
end
end Sw
namespace Sw
open L2
section
variable {ss:List S3} {L:Int} {m:Nat}
theorem Bx (P:Plan ss L) (en:fD ss m) {i k:Nat} (hi:i<ss.length) (hk:k<=m):cL 1200 (eA ss i k):=by
 obtain ⟨z,_⟩:=j9 P en hk
 obtain ⟨D,M,D1,zD,M1,zM,hg,mg,mM⟩:=z.ex
 have n8:=P.n8
 have le:=en.le
 have L1:=P.L1
 have Nb:=P.L2
 obtain ⟨s,hs,_,eb,_⟩:=fX hi
 obtain ⟨u0,u1⟩:=P.b1 s hs
 rw [<- eb] at u0 u1
 obtain ⟨a,ea⟩:=nI P i
 have r0:=jG P i
 have r1:=tN P i
 have h:=Ab (ss:=ss) i k
 have e:eA ss i k=(d8 ss i:Rat)+(bj ss k).2*(a:Rat) / (L:Rat)-(bj ss k).1 i:=by
  have:dQ ss i*(bj ss k).2=(bj ss k).2*(a:Rat) / (L:Rat):=by rw [ea]; grind
  grind
 have g:dH (D*L) (eA ss i k):=by
  rw [e]
  exact ((dH.int (b5 (by omega) (by omega)) _).add ((mg.mG a).m9 (by omega) (by omega))).sub ((hg i).1.more (by omega) (by omega))
 have g0:0<=eA ss i k:=qx P en i (bR k) hk
 have rm:=aC r1 z.m0
 have hb:=z.h0 i
 have bq:(d8 ss i:Rat)<=((1000000000000:Int):Rat):=ak.mpr u1
 have zs:Sz (61*k+42) (M+1000000000000):=zM.add ((sz_of (a:=41) (by omega) (by simp only [dD,k6])).mono (by omega))
 have zL:Sz 60 L:=sz_of (a:=60) (by omega) (by simp only [dD]; omega)
 have M0:(0:Rat)<=(M:Rat):=dg.mpr (by omega)
 have eM:((M+1000000000000:Int):Rat)=(M:Rat)+((1000000000000:Int):Rat):=dh ..
 have T0:(0:Rat)<=((1000000000000:Int):Rat):=dg.mpr (by omega)
 refine (g.sz (eJ (by omega) (by omega)) (zD.mul zL) zs ?_ ?_ (by omega)).mono (by omega)
 ·rw [eM]; grind
 ·rw [eM]; grind
theorem Hl (P:Plan ss L) (en:fD ss m) {i b:Nat} (hi:i<ss.length) (hb:b<m) (h1:eA ss i b<(d8 ss i:Rat)) (h2:(d8 ss i:Rat)<=eA ss i (b+1)):cL 1200 (qL ss i b):=by
 obtain ⟨z,_⟩:=j9 P en (show b<=m by omega)
 obtain ⟨z',_⟩:=j9 P en (show b+1<=m by omega)
 obtain ⟨D,M,D1,zD,M1,zM,hg,mg,mM⟩:=z.ex
 obtain ⟨D',M',Zp,zD',Zr,IT,se,Z2,Z1⟩:=z'.ex
 have n8:=P.n8
 have le:=en.le
 have L1:=P.L1
 have Nb:=P.L2
 obtain ⟨o1,t1,t2,t3⟩:=rS P en hb h1 h2
 obtain ⟨a,ea⟩:=nI P i
 have ne:=en.go b hb
 obtain ⟨S1,SM⟩:=jq P ne
 obtain ⟨o,eo⟩:=MZ P ne i
 have ol:=(DX P ne i).2
 have W1:1<=L*sumF ss (bj ss b).1:=by
  have:=eI S1 (show 0<=L by omega)
  omega
 unfold qL at t1 t2 ⊢
 generalize L*sumF ss (bj ss b).1=W at *
 have W0:(0:Rat)<(W:Rat):=bJ (by omega)
 have o0:0<o:=by
  by_cases c:0<o
  ·exact c
  ·exfalso
   have:=zA W0 (show (o:Rat)<=0 from by
    have:=ak.mpr (show o<=0 by omega)
    exact this)
   have e:(0:Rat) / (W:Rat) = 0:=by grind
   grind
 have oW:o<=W:=by
  by_cases c:o<=W
  ·exact c
  ·exfalso
   have:=DV W0 (show (W:Rat)<(o:Rat) from dX.mpr (by omega))
   have e:(W:Rat) / (W:Rat) = 1:=by
    have:(W:Rat)≠0:=by grind
    grind
   grind
 have O0:(0:Rat)<(o:Rat):=bJ o0
 have h:=Ab (ss:=ss) i b
 have e1:(d8 ss i:Rat)-eA ss i b=(bj ss b).1 i-(bj ss b).2*(a:Rat) / (L:Rat):=by
  have:dQ ss i*(bj ss b).2=(bj ss b).2*(a:Rat) / (L:Rat):=by rw [ea]; grind
  grind
 have g1:dH (D*L) ((d8 ss i:Rat)-eA ss i b):=by
  rw [e1]
  exact ((hg i).1.more (by omega) (by omega)).sub ((mg.mG a).m9 (by omega) (by omega))
 have e2:((d8 ss i:Rat)-eA ss i b) / cN ss (bj ss b).1 i=((d8 ss i:Rat)-eA ss i b)*(W:Rat) / (o:Rat):=by
  rw [eo]
  have:(W:Rat)≠0:=by grind
  have:(o:Rat)≠0:=by grind
  grind
 have DL:D*L≠0:=b5 (by omega) (by omega)
 have g2:dH (D*L*o) ((bj ss b).2+((d8 ss i:Rat)-eA ss i b) / cN ss (bj ss b).1 i):=by
  rw [e2]
  exact ((mg.more (by omega) (by omega)).more DL (by omega)).add ((g1.mG W).m9 DL (by omega))
 have zL:Sz 60 L:=sz_of (a:=60) (by omega) (by simp only [dD]; omega)
 have zo:Sz 60 o:=sz_of (a:=60) (by omega) (by simp only [dD]; omega)
 have m0:=z.m0
 have M0:(0:Rat)<=(M':Rat):=dg.mpr (by omega)
 refine (g2.sz (eJ (eJ (by omega) (by omega)) o0) ((zD.mul zL).mul zo) IT ?_ ?_ (by omega)).mono (by omega)
 ·grind
 ·grind
theorem Ho (P:Plan ss L) (en:fD ss m) {i k:Nat} (hk:k<m) (r0:0<dQ ss i):cL 1200 (um ss i k):=by
 obtain ⟨z,_⟩:=j9 P en (show k+1<=m by omega)
 obtain ⟨D,M,D1,zD,M1,zM,hg,mg,mM⟩:=z.ex
 have n8:=P.n8
 have le:=en.le
 have L1:=P.L1
 have Nb:=P.L2
 obtain ⟨a,ea⟩:=nI P i
 have r1:=tN P i
 have L0:(0:Rat)<(L:Rat):=bJ (by omega)
 have a0:0<a:=by
  by_cases c:0<a
  ·exact c
  ·exfalso
   have:=zA L0 (show (a:Rat)<=0 from by
    have:=ak.mpr (show a<=0 by omega)
    exact this)
   have e:(0:Rat) / (L:Rat) = 0:=by grind
   grind
 have aL:a<=L:=by
  by_cases c:a<=L
  ·exact c
  ·exfalso
   have:=DV L0 (show (L:Rat)<(a:Rat) from dX.mpr (by omega))
   have e:(L:Rat) / (L:Rat) = 1:=by
    have:(L:Rat)≠0:=by grind
    grind
   grind
 have A0:(0:Rat)<(a:Rat):=bJ a0
 have e:um ss i k=(bj ss (k+1)).1 i*(L:Rat) / (a:Rat):=by
  have h:=Ab (ss:=ss) i (k+1)
  unfold um
  rw [h,ea]
  have:(L:Rat)≠0:=by grind
  have:(a:Rat)≠0:=by grind
  grind
 have g:dH (D*a) (um ss i k):=by rw [e]; exact ((hg i).1.mG L).m9 (by omega) (by omega)
 have hb:=z.h0 i
 have hL:=bM hb (br L0)
 have x0:0<=(bj ss (k+1)).1 i*(L:Rat) / (a:Rat):=by
  have:=zA A0 hL
  have e0:(0:Rat) / (a:Rat) = 0:=by grind
  rw [e0] at this
  exact this
 have x1:(bj ss (k+1)).1 i*(L:Rat) / (a:Rat)<=(bj ss (k+1)).1 i*(L:Rat):=by
  have a1:(1:Rat)<=(a:Rat):=by
   have:=ak.mpr (show 1<=a by omega)
   exact this
  have:=aH a1 x0
  have e1:(bj ss (k+1)).1 i*(L:Rat) / (a:Rat)*(a:Rat)=(bj ss (k+1)).1 i*(L:Rat):=by
   have:(a:Rat)≠0:=by grind
   grind
  grind
 have x2:=aC (hg i).2 (br L0)
 have zL:Sz 60 L:=sz_of (a:=60) (by omega) (by simp only [dD]; omega)
 have za:Sz 60 a:=sz_of (a:=60) (by omega) (by simp only [dD]; omega)
 have eM:((M*L:Int):Rat)=(M:Rat)*(L:Rat):=aJ ..
 refine (g.sz (eJ (by omega) a0) (zD.mul za) (zM.mul zL) ?_ ?_ (by omega)).mono (by omega)
 ·rw [eM,e]; grind
 ·rw [eM,e]; grind
theorem Ca (P:Plan ss L) (en:fD ss m) {i:Nat} (hi:i<ss.length) {x:Rat} (hx:x∈uo ss i m):cL 1200 x:=by
 obtain ⟨j,hj,c,r⟩:=pD.mp hx
 rcases r with ⟨d,e⟩ | ⟨d,e⟩
 ·rw [e]; exact Hl P en hi hj d (by grind)
 ·rw [e]; exact Ho P en hj d
theorem Hq (P:Plan ss L) (en:fD ss m) {i:Nat} (hi:i<ss.length):cL 1200 (jv ss m i):=by
 obtain ⟨_,_,f3⟩:=Hx (uo ss i m) 0
 have Ke:jv ss m i = 0\/jv ss m i∈uo ss i m:=f3
 rcases Ke with z | z
 ·rw [z]; exact (cL.int (n:=0) (z:=4) (Sz.zero _)).mono (by decide)
 ·exact Ca P en hi z
end
end Sw
namespace L2
open PySem PySem.Spec PyProof.Rows
section
variable {prog:Program} {w:World} {A:Around} {E:Value->Shared->Prop} {s:Shared}
end
section
variable {prog:Program} {w:World} {A:Around} {E:Value->Shared->Prop} {s:Shared}
end
section
variable {X:Cx}
end
end L2
namespace Sw
open L2
end Sw
namespace L2
open PySem PySem.Spec PyProof.Rows
def ms (H:Hp) (S:List Addr):Hp:=fun b=>if b∈S then none else H b
theorem MN {H:Hp} {v b:Addr} {ys zs xs:List V} (h:H v=some (.lst zs)) (e:H b=some (.tup xs)):aQ H v (.lst ys) b=some (.tup xs):=by
 rw [c8 (b7 e h (by intro z; cases z))]; exact e
section
variable {ss:List Sw.S3} {l l1 tl hl kl pn:Addr} {ps cp hp kp S:List Addr} {xs:List (Nat×Addr)} {j:Nat} {g:Nat->Rat} {H H':Hp}
end
end L2
namespace Sw
end Sw
namespace L2
open PySem PySem.Spec PyProof.Rows
end L2
namespace Sw
open L2
section
variable {sh bu:Int} {r:Rat}
end
end Sw
namespace Sw
open L2
abbrev WI:=Nat×Q4×Rat×Rat
def OZ (i:WI):Int:=i.2.1.1
theorem B9 {α:Type} {f g:α->Rat}:∀ {l:List α},(∀ x∈l,f x<=g x)->tq (l.map f)<=tq (l.map g)
 | [],_=>aB
 | x :: r,h=>by
  have ih:=B9 (l:=r) fun y hy=>h y (aA _ hy)
  have:=h x (by simp)
  show f x+tq (r.map f)<=g x+tq (r.map g)
  grind
section
variable {s:Ti} {free:Int} {T G Qu:List WI} {D B:Int}
end
end Sw
namespace L2
open PySem PySem.Spec PyProof.Rows PySem.MeetsSeq
section
variable {X:Cx}
end
end L2
namespace L2
open PySem PySem.Spec PyProof.Rows
section
variable {X:Cx}
end
end L2
namespace Sw
open L2
abbrev WS:=Int×List WI×List (Nat×Int)
def Br (free:Int):List WI->Int
 | []=>free
 | i :: _=>if OZ i > free then OZ i else free
def FF (lim:Option Int) (x:WS):Prop:=x.2.1≠[]/\∀ a,lim=some a->Br x.1 x.2.1<a
instance (lim:Option Int) (x:WS):Decidable (FF lim x):=by
 unfold FF
 cases lim with
 | none=>exact decidable_of_iff (x.2.1≠[]) ⟨fun h=>⟨h,fun a e=>by cases e⟩,fun h=>h.1⟩
 | some b=>exact decidable_of_iff (x.2.1≠[]/\Br x.1 x.2.1<b) ⟨fun h=>⟨h.1,fun a e=>by cases e; exact h.2⟩,fun h=>⟨h.1,h.2 b rfl⟩⟩
section
variable {s:Ti} {T G:List WI} {x:WS} {D B:Int}
end
end Sw
namespace L2
open PySem PySem.Spec PyProof.Rows
end L2
namespace Sw
open L2
section
variable {n:Nat} {M:Int} {a c:Nat} {s:Ti} {k:Nat} {T G:List WI} {D:Int} {x:WS}
end
end Sw
namespace Sw
open L2
section
variable {n:Nat} {M:Int} {a c:Nat} {qs:List Q4} {s:Ti} {k:Nat} {T G:List WI} {D:Int} {x:WS}
end
end Sw
namespace Sw
open L2
section
variable {n:Nat} {M:Int} {a c:Nat} {s:Ti} {t k:Nat} {T G:List WI} {D:Int} {x:WS}
end
end Sw
namespace Sw
open L2
section
variable {n:Nat} {M:Int} {a c:Nat} {s:Ti} {t k:Nat} {T G:List WI} {D:Int} {x:WS}
end
end Sw
namespace L2
open PySem PySem.Spec PyProof.Rows
section
variable {X:Cx}
end
section
variable {X:Cx} {ao:List (Addr×Obj)} {σ:St} {H:Hp} {s:Shared} {a vw:Addr} {kvs:List (Key×V)} {Q:VK}
end
end L2
namespace Sw
open L2
section
variable {fs:List F4} {w:Nat->Int}
theorem QM:∀ {N j:Nat} {x:qp},(cE fs N 0 0)[j]? = some x->∃ k,k<N/\cU fs (aI fs k).1 (aI fs k).2≠[]/\x=((aI fs k).1,(aI fs (k+1)).1,qF fs (aI fs k).1 (aI fs k).2)/\(cE fs N 0 0).take j=cE fs k 0 0/\(cE fs N 0 0).take (j+1)=cE fs (k+1) 0 0
 | 0,j,x,h=>by cases h
 | N+1,j,x,h=>by
  rw [DH] at h ⊢
  by_cases lt:j<(cE fs N 0 0).length
  ·rw [e9 lt] at h
   obtain ⟨k,a,b,c,d,e⟩:=QM h
   refine ⟨k,by omega,b,c,?_,?_⟩
   ·rw [fW (by omega)]; exact d
   ·rw [fW (by omega)]; exact e
  ·rw [bW (by omega)] at h
   unfold nV at h ⊢
   by_cases z:cU fs (aI fs N).1 (aI fs N).2 = []
   ·rw [if_pos z] at h; cases h
   ·rw [if_neg z] at h ⊢
    have j0:j-(cE fs N 0 0).length = 0:=by
     have:=(aa.mp h).1
     simp only [aE,cy] at this
     omega
    rw [j0] at h
    have ex:x=((aI fs N).1,(aI fs (N+1)).1,qF fs (aI fs N).1 (aI fs N).2):=by simpa using h.symm
    have ej:j=(cE fs N 0 0).length:=by omega
    refine ⟨N,by omega,z,ex,?_,?_⟩
    ·rw [ej,fW (av _),iQ]
    ·rw [DH]
     unfold nV
     rw [if_neg z,ej,aK (by rw [aO]; exact av _)]
structure SN (fs:List F4) (k:Nat):Prop where
 lt:(aI fs k).1<(aI fs (k+1)).1
 ma:(aI fs (k+1)).2=(aI fs k).2+((aI fs (k+1)).1-(aI fs k).1) / (fZ fs (cU fs (aI fs k).1 (aI fs k).2):Rat)
 le:∀ (i:Nat) (f:F4),i∈cU fs (aI fs k).1 (aI fs k).2->fs[i]? = some f->(aI fs (k+1)).2<=f.2.2.1
 way:(∃ i f,i∈cU fs (aI fs k).1 (aI fs k).2/\fs[i]? = some f/\(aI fs (k+1)).2=f.2.2.1)\/∃ f∈fs,(aI fs (k+1)).1=(f.1:Rat)
 no:∀ f∈fs,¬ ((aI fs k).1<(f.1:Rat)/\(f.1:Rat)<(aI fs (k+1)).1)
theorem Run.EB (R:Run fs w) {k:Nat} (h:cU fs (aI fs k).1 (aI fs k).2≠[]):SN fs k:=by
 have hc:=Jx h
 rcases EF R.s1 k with ⟨z,_⟩ | ⟨_,t⟩
 ·exact absurd z hc
 have J4:(aI fs (k+1)).2=(aI fs k).2+((aI fs (k+1)).1-(aI fs k).1) / (fZ fs (cU fs (aI fs k).1 (aI fs k).2):Rat):=by
  have:=Gu hc
  unfold ms at this
  rw [if_neg h] at this
  exact this.symm
 refine ⟨t.gt,J4,fun i f hi hf=>?_,?_,fun f hf ⟨h1,h2⟩=>?_⟩
 ·have l1:=t.le h
  have l2:gA fs (aI fs k).1 (aI fs k).2<=zP fs i:=DN (aP.mpr ⟨i,hi,rfl⟩)
  rw [lO hf] at l2
  exact fF l1 l2
 ·rcases t.way with ⟨f,hf,_,e⟩ | ⟨_,_,e,_⟩
  ·exact .inr ⟨f,hf,e⟩
  ·left
   have mem:=gJ (l:=(cU fs (aI fs k).1 (aI fs k).2).map (zP fs)) (by simpa using h)
   obtain ⟨i,hi,e2⟩:=aP.mp mem
   obtain ⟨f,e3,_⟩:=jm.mp hi
   exact ⟨i,f,hi,e3,by rw [e]; unfold gA; rw [<- e2,lO e3]⟩
 ·have:=GA (fs:=fs) (k:=k) (x:=(f.1:Rat)) (by unfold fH; exact aY.mpr (.inl (ji.mpr ⟨f,hf,h1,rfl⟩)))
  grind
end
end Sw
namespace L2
open PySem PySem.Spec PyProof.Rows
section
variable {X:Cx}
end
theorem Qn {t:TS} {D:Ends} {σ:L2.St} {H:Hp} (h:∀ D':Ends,(∀ σ H,D.nx σ H->D'.nx σ H)->(∀ v H,D.rt v H->D'.rt v H)->t D' σ H):t D σ H:=h D (fun _ _ x=>x) fun _ _ x=>x
section
variable {X:Cx}
end
end L2
namespace Sw
open L2
def hL (qs:List Q4) (dn:List Nat) (mo:Rat):Nat->List Nat
 | 0=>[]
 | i+1=>match qs[i]? with
  | some q=>if i ∉ dn/\q.2.1 ∉ (hL qs dn mo i).map (fc qs)/\(q.1:Rat)<=mo then hL qs dn mo i++[i] else hL qs dn mo i
  | none=>hL qs dn mo i
end Sw
namespace Sw
open L2
section
variable {fs:List F4} {w:Nat->Int}
def cT (fs:List F4) (t:Rat) (i k:Nat):Rat:=if i∈cU fs (aI fs k).1 (aI fs k).2/\(aI fs k).1<t then (shr fs i:Rat) / (fZ fs (cU fs (aI fs k).1 (aI fs k).2):Rat)*(min (aI fs (k+1)).1 t-(aI fs k).1) else 0
def cF (fs:List F4) (i k:Nat):Rat:=if i∈cU fs (aI fs k).1 (aI fs k).2 then (shr fs i:Rat)*((aI fs (k+1)).2-(aI fs k).2) else 0
def aT (fs:List F4) (t:Rat) (i N:Nat):Rat:=tq ((aD N).map (cT fs t i))
def aF (fs:List F4) (i N:Nat):Rat:=tq ((aD N).map (cF fs i))
theorem HD (t:Rat) (i N:Nat):aT fs t i (N+1)=aT fs t i N+cT fs t i N:=by
 unfold aT
 rw [dF,ay,ju]
 show _ + (cT fs t i N+0) = _
 grind
theorem Jo (i N:Nat):aF fs i (N+1)=aF fs i N+cF fs i N:=by
 unfold aF
 rw [dF,ay,ju]
 show _ + (cF fs i N+0) = _
 grind
theorem Run.Ds (R:Run fs w) {i:Nat} {f:F4} (hf:fs[i]? = some f):(0:Rat)<(shr fs i:Rat):=by
 rw [kK hf]
 exact bJ (by have:=R.s1 f (aq hf); omega)
theorem Run.xR (R:Run fs w) {i k:Nat} (h:i∈cU fs (aI fs k).1 (aI fs k).2):cF fs i k=(shr fs i:Rat) / (fZ fs (cU fs (aI fs k).1 (aI fs k).2):Rat)*((aI fs (k+1)).1-(aI fs k).1):=by
 have ne:cU fs (aI fs k).1 (aI fs k).2≠[]:=fun z=>by rw [z] at h; cases h
 have st:=R.EB ne
 have sp:(0:Rat)<(fZ fs (cU fs (aI fs k).1 (aI fs k).2):Rat):=bJ (by have:=DM R.s1 ne; omega)
 unfold cF
 rw [if_pos h,st.ma]
 generalize (fZ fs (cU fs (aI fs k).1 (aI fs k).2):Rat)=S at *
 grind
theorem Run.xS (R:Run fs w) {t:Rat} {i k:Nat}:0<=cT fs t i k/\cT fs t i k<=cF fs i k:=by
 by_cases h:i∈cU fs (aI fs k).1 (aI fs k).2
 ·have ne:cU fs (aI fs k).1 (aI fs k).2≠[]:=fun z=>by rw [z] at h; cases h
  have st:=R.EB ne
  obtain ⟨f,hf,_⟩:=jm.mp h
  have s0:=R.Ds hf
  have sp:(0:Rat)<(fZ fs (cU fs (aI fs k).1 (aI fs k).2):Rat):=bJ (by have:=DM R.s1 ne; omega)
  have r0:(0:Rat)<=(shr fs i:Rat) / (fZ fs (cU fs (aI fs k).1 (aI fs k).2):Rat):=by
   have:=zA sp (show (0:Rat)<=(shr fs i:Rat) by grind)
   have e:(0:Rat) / (fZ fs (cU fs (aI fs k).1 (aI fs k).2):Rat) = 0:=by grind
   rw [e] at this
   exact this
  have lt:=st.lt
  rw [R.xR h]
  unfold cT
  by_cases c:(aI fs k).1<t
  ·rw [if_pos ⟨h,c⟩]
   have m1:min (aI fs (k+1)).1 t-(aI fs k).1<=(aI fs (k+1)).1-(aI fs k).1:=by rw [dO]; split <;> grind
   have m0:0<=min (aI fs (k+1)).1 t-(aI fs k).1:=by rw [dO]; split <;> grind
   exact ⟨bM r0 m0,aH m1 r0⟩
  ·rw [if_neg (fun z=>c z.2)]
   exact ⟨aB,bM r0 (by grind)⟩
 ·unfold cT cF
  rw [if_neg (fun z=>h z.1),if_neg h]
  exact ⟨aB,aB⟩
theorem Run.xN (R:Run fs w) {i k1 k2:Nat} {f:F4} (hf:fs[i]? = some f) (L:kh fs i f k1 k2):∀ N,(N<=k1->aF fs i N = 0)/\(k1<=N->N<=k2->aF fs i N=(shr fs i:Rat)*((aI fs N).2-f.2.1))/\(k2<=N->aF fs i N=(shr fs i:Rat)*(f.2.2.1-f.2.1))
 | 0=>by
  have lt:=L.lt
  have b:=(R.wq hf L).1
  refine ⟨fun _=>rfl,fun h _=>?_,fun h=>by omega⟩
  have:k1 = 0:=by omega
  rw [this] at b
  show (0:Rat) = _
  rw [b]; grind
 | N+1=>by
  obtain ⟨a1,a2,a3⟩:=R.xN hf L N
  have lt:=L.lt
  have b:=(R.wq hf L).1
  have en:=L.en
  rw [Jo]
  have hd:i∈cU fs (aI fs N).1 (aI fs N).2↔k1<=N/\N<k2:=by rw [<- gH]; exact L.hd N
  refine ⟨fun h=>?_,fun h1 h2=>?_,fun h=>?_⟩
  ·rw [a1 (by omega)]
   unfold cF
   rw [if_neg (fun z=>by have:=hd.mp z; omega)]
   grind
  ·by_cases c:k1<=N
   ·rw [a2 c (by omega)]
    unfold cF
    rw [if_pos (hd.mpr ⟨c,by omega⟩)]
    grind
   ·have e:k1=N+1:=by omega
    rw [a1 (by omega)]
    unfold cF
    rw [if_neg (fun z=>by have:=hd.mp z; omega),<- e,b]
    grind
  ·by_cases c:k2<=N
   ·rw [a3 c]
    unfold cF
    rw [if_neg (fun z=>by have:=hd.mp z; omega)]
    grind
   ·have e:k2=N+1:=by omega
    rw [a2 (by omega) (by omega)]
    unfold cF
    rw [if_pos (hd.mpr ⟨by omega,by omega⟩),<- e,en]
    grind
theorem Run.xO (R:Run fs w) {t:Rat} {i:Nat}:∀ N,0<=aT fs t i N/\aT fs t i N<=aF fs i N
 | 0=>⟨aB,aB⟩
 | N+1=>by
  have a:=R.xO (t:=t) (i:=i) N
  have b:=R.xS (t:=t) (i:=i) (k:=N)
  rw [HD,Jo]
  exact ⟨by grind,by grind⟩
theorem DI {α:Type} (p:α->Bool) (f:α->Rat):∀ l:List α,tq ((l.filter p).map f)=tq (l.map fun x=>if p x=true then f x else 0)
 | []=>rfl
 | x :: r=>by
  rw [aZ,bD]
  show _=(if p x=true then f x else 0)+tq (r.map fun x=>if p x=true then f x else 0)
  rw [<- DI p f r]
  by_cases c:p x=true
  ·rw [if_pos c,if_pos c]; rfl
  ·rw [if_neg c,if_neg c]; grind
theorem HJ {α:Type} (f g:α->Rat):∀ l:List α,tq (l.map fun x=>f x+g x)=tq (l.map f)+tq (l.map g)
 | []=>by show (0:Rat) = 0+0; grind
 | x :: r=>by
  show f x+g x+tq (r.map fun x=>f x+g x)=f x+tq (r.map f)+(g x+tq (r.map g))
  rw [HJ f g r]
  grind
theorem vc {α:Type} {f g:α->Rat} {l:List α} (h:∀ x∈l,f x=g x):tq (l.map f)=tq (l.map g):=by rw [jc h]
def uJ (v:Nat->Int) (who:Int) (t:Rat) (xs:List qp):List Rat:=xs.flatMap fun x=>if x.1<t then (x.2.2.filter fun p=>decide (v p.1=who)).map fun p=>p.2*(min x.2.1 t-x.1) else []
theorem qZ (v:Nat->Int) (who:Int) (t:Rat) (xs ys:List qp):uJ v who t (xs++ys)=uJ v who t xs++uJ v who t ys:=by unfold uJ; rw [List.flatMap_append]
def gT (fs:List F4) (v:Nat->Int) (who:Int) (t:Rat) (N:Nat):Rat:=tq ((aD fs.length).map fun i=>if v i=who then aT fs t i N else 0)
theorem Xe (v:Nat->Int) (who:Int) (t:Rat) (k:Nat):tq (uJ v who t (nV fs k))=tq ((aD fs.length).map fun i=>if v i=who then cT fs t i k else 0):=by
 have zero:∀ l:List Nat,tq (l.map fun _=>(0:Rat)) = 0:=fun l=>by
  induction l with
  | nil=>rfl
  | cons x r ih=>show (0:Rat)+tq (r.map fun _=>(0:Rat)) = 0; rw [ih]; grind
 have mem:∀ i∈aD fs.length,(i∈cU fs (aI fs k).1 (aI fs k).2↔xu fs (aI fs k).1 (aI fs k).2 i=true):=fun i hi=>by
  rw [Cn,cQ]
  exact ⟨fun z=>z.2,fun z=>⟨hi,z⟩⟩
 unfold nV
 by_cases e:cU fs (aI fs k).1 (aI fs k).2 = []
 ·rw [if_pos e]
  refine (zero (aD fs.length)).symm.trans (vc fun i _=>?_)
  have:cT fs t i k = 0:=by unfold cT; rw [if_neg (fun z=>by rw [e] at z; cases z.1)]
  rw [this]; split <;> rfl
 ·rw [if_neg e]
  show tq (((if (aI fs k).1<t then ((qF fs (aI fs k).1 (aI fs k).2).filter fun p=>decide (v p.1=who)).map fun p=>p.2*(min (aI fs (k+1)).1 t-(aI fs k).1) else [])++[])) = _
  rw [bx]
  by_cases c:(aI fs k).1<t
  ·rw [if_pos c,DI]
   unfold qF
   rw [kP,Cn,DI]
   refine vc fun i hi=>?_
   have m:=mem i hi
   rw [Cn] at m
   unfold cT
   by_cases d:xu fs (aI fs k).1 (aI fs k).2 i=true
   ·rw [if_pos d]
    show (if decide (v i=who)=true then _ else _) = _
    by_cases vw:v i=who
    ·rw [if_pos (decide_eq_true vw),if_pos vw,if_pos ⟨by rw [Cn]; exact m.mpr d,c⟩,Cn]
    ·rw [if_neg (by rw [decide_eq_true_eq]; exact vw),if_neg vw]
   ·rw [if_neg d,Cn,if_neg (show ¬ (i∈(aD fs.length).filter (xu fs (aI fs k).1 (aI fs k).2)/\(aI fs k).1<t) from fun z=>d (m.mp z.1))]
    split <;> rfl
  ·rw [if_neg c]
   refine (zero (aD fs.length)).symm.trans (vc fun i _=>?_)
   have:cT fs t i k = 0:=by unfold cT; rw [if_neg (fun z=>c z.2)]
   rw [this]; split <;> rfl
theorem rf (v:Nat->Int) (who:Int) (t:Rat):∀ N,tq (uJ v who t (cE fs N 0 0))=gT fs v who t N
 | 0=>by
  show (0:Rat)=gT fs v who t 0
  unfold gT
  have:∀ l:List Nat,tq (l.map fun i=>if v i=who then aT fs t i 0 else 0) = 0:=fun l=>by
   induction l with
   | nil=>rfl
   | cons x r ih =>
    show (if v x=who then aT fs t x 0 else 0)+tq _ = 0
    rw [ih]
    have:aT fs t x 0 = 0:=rfl
    rw [this]
    split <;> grind
  exact (this _).symm
 | N+1=>by
  rw [DH,qZ,ju,rf v who t N,Xe]
  unfold gT
  rw [<- HJ]
  refine vc fun i _=>?_
  rw [HD]
  split
  ·rfl
  ·grind
theorem EK {α:Type}:∀ l:List α,tq (l.map fun _=>(0:Rat)) = 0
 | []=>rfl
 | _ :: r=>by show (0:Rat)+tq (r.map fun _=>(0:Rat)) = 0; rw [EK r]; grind
theorem Rr {α β:Type} (f:α->β->Rat) (m:List β):∀ l:List α,tq (l.map fun x=>tq (m.map fun y=>f x y))=tq (m.map fun y=>tq (l.map fun x=>f x y))
 | []=>(EK m).symm
 | x :: r=>by
  show tq (m.map fun y=>f x y)+tq (r.map fun x=>tq (m.map fun y=>f x y))=tq (m.map fun y=>f x y+tq (r.map fun x=>f x y))
  rw [Rr f m r,HJ]
theorem Jp {α:Type} [DecidableEq α] {a:Rat} {u:α}:∀ {ws:List α},ws.Nodup->u∈ws->tq (ws.map fun x=>if u=x then a else 0)=a
 | [],_,h=>by cases h
 | x :: r,nd,h=>by
  obtain ⟨n1,n2⟩:=i8.mp nd
  show (if u=x then a else 0)+tq (r.map fun x=>if u=x then a else 0)=a
  by_cases c:u=x
  ·subst c
   have z:tq (r.map fun x=>if u=x then a else 0) = 0:=(vc fun y hy=>by rw [if_neg (fun e=>n1 (by rw [e]; exact hy))]).trans (EK r)
   rw [if_pos rfl,z]; grind
  ·rw [if_neg c,Jp n2 ((aM.mp h).resolve_left c)]; grind
def Ej (t:Rat) (x:qp):Rat:=if x.1<t then min x.2.1 t-x.1 else 0
theorem JB {α:Type} (f:α->Rat) (c:Rat):∀ l:List α,tq (l.map fun x=>f x*c)=tq (l.map f)*c
 | []=>by show (0:Rat) = 0*c; grind
 | x :: r=>by
  show f x*c+tq (r.map fun x=>f x*c)=(f x+tq (r.map f))*c
  rw [JB f c r]; grind
theorem Jq (f:Nat->Int):∀ l:List Nat,tq (l.map fun i=>(f i:Rat))=((l.map f).sum:Rat)
 | []=>rfl
 | x :: r=>by
  show (f x:Rat)+tq (r.map fun i=>(f i:Rat))=((f x+(r.map f).sum:Int):Rat)
  rw [Jq f r,dh]
theorem Run.xZ (R:Run fs w) (t:Rat) (k:Nat):tq ((aD fs.length).map fun i=>cT fs t i k)=tq ((nV fs k).map (Ej t)):=by
 have e1:tq ((aD fs.length).map fun i=>cT fs t i k)=tq ((cU fs (aI fs k).1 (aI fs k).2).map fun i=>if (aI fs k).1<t then (shr fs i:Rat) / (fZ fs (cU fs (aI fs k).1 (aI fs k).2):Rat)*(min (aI fs (k+1)).1 t-(aI fs k).1) else 0):=by
  conv=>rhs; rw [show (cU fs (aI fs k).1 (aI fs k).2).map (fun i=>if (aI fs k).1<t then (shr fs i:Rat) / (fZ fs (cU fs (aI fs k).1 (aI fs k).2):Rat)*(min (aI fs (k+1)).1 t-(aI fs k).1) else 0)=((aD fs.length).filter (xu fs (aI fs k).1 (aI fs k).2)).map (fun i=>if (aI fs k).1<t then (shr fs i:Rat) / (fZ fs (cU fs (aI fs k).1 (aI fs k).2):Rat)*(min (aI fs (k+1)).1 t-(aI fs k).1) else 0) from rfl,DI]
  refine vc fun i hi=>?_
  have m:i∈cU fs (aI fs k).1 (aI fs k).2↔xu fs (aI fs k).1 (aI fs k).2 i=true:=by
   rw [Cn,cQ]
   exact ⟨fun z=>z.2,fun z=>⟨hi,z⟩⟩
  unfold cT
  by_cases d:xu fs (aI fs k).1 (aI fs k).2 i=true
  ·rw [if_pos d]
   by_cases c:(aI fs k).1<t
   ·rw [if_pos ⟨m.mpr d,c⟩,if_pos c]
   ·rw [if_neg (fun z=>c z.2),if_neg c]
  ·rw [if_neg d,if_neg (fun z=>d (m.mp z.1))]
 rw [e1]
 unfold nV
 by_cases e:cU fs (aI fs k).1 (aI fs k).2 = []
 ·rw [if_pos e,e]; rfl
 ·rw [if_neg e]
  show _=(if (aI fs k).1<t then min (aI fs (k+1)).1 t-(aI fs k).1 else 0)+0
  by_cases c:(aI fs k).1<t
  ·have sp:(fZ fs (cU fs (aI fs k).1 (aI fs k).2):Rat)≠0:=cI (by have:=DM R.s1 e; omega)
   rw [if_pos c,show (fun i=>if (aI fs k).1<t then (shr fs i:Rat) / (fZ fs (cU fs (aI fs k).1 (aI fs k).2):Rat)*(min (aI fs (k+1)).1 t-(aI fs k).1) else 0)=fun i=>(shr fs i:Rat)*((1 / (fZ fs (cU fs (aI fs k).1 (aI fs k).2):Rat))*(min (aI fs (k+1)).1 t-(aI fs k).1)) from funext fun i=>by rw [if_pos c]; grind]
   rw [JB,Jq]
   show (fZ fs (cU fs (aI fs k).1 (aI fs k).2):Rat) * _ = _
   generalize (fZ fs (cU fs (aI fs k).1 (aI fs k).2):Rat)=S at *
   grind
  ·rw [if_neg c,vc (g:=fun _=>(0:Rat)) fun i _=>by rw [if_neg c],EK]
   grind
theorem Run.busy (R:Run fs w) (t:Rat):∀ N,tq ((aD fs.length).map fun i=>aT fs t i N)=tq ((cE fs N 0 0).map (Ej t))
 | 0=>(vc (g:=fun _=>(0:Rat)) fun i _=>rfl).trans (EK _)
 | N+1=>by
  rw [DH,ay,ju,<- R.busy t N,<- R.xZ t N,<- HJ]
  exact vc fun i _=>HD t i N
end
end Sw
namespace Sw
open L2
section
variable {n:Nat} {M:Int} {a c:Nat} {fs:List F4} {D:Int} {w:Nat->Int}
theorem HK (o:l6 n M a c fs D):∀ N,∃ G,jM n M a c fs D (aI fs N).1 (aI fs N).2 G/\∀ k,k<=N->dH G (aI fs k).1/\dH G (aI fs k).2
  | 0=>⟨D,.start o,fun k h=>by
      have:k = 0:=by omega
      subst this
      exact ⟨(jM.start o).gm,(jM.start o).gk⟩⟩
  | N+1=>by
    obtain ⟨G,s,al⟩:=HK o N
    have step:∃ G' j:Int,j≠0/\G'=G*j/\jM n M a c fs D (nH fs (aI fs N)).1 (nH fs (aI fs N)).2 G':=by
      unfold nH
      by_cases ce:fH fs (aI fs N).1 (aI fs N).2 = []
      · rw [if_pos ce]; exact ⟨G,1,by decide,by omega,s⟩
      · rw [if_neg ce]
        by_cases he:cU fs (aI fs N).1 (aI fs N).2 = []
        · rw [if_pos he]
          have t1:=kW he ce
          refine ⟨G,1,by decide,by omega,s.rest o t1 ?_⟩
          rcases t1.way with z | z
          · exact z
          · exact absurd he z.1
        · rw [if_neg he]
          exact s.go2 o he
    obtain ⟨G',j,j0,e,s'⟩:=step
    refine ⟨G',s',fun k hk=>?_⟩
    by_cases c:k=N+1
    · subst c; exact ⟨s'.gm,s'.gk⟩
    · obtain ⟨x,y⟩:=al k (by omega)
      have g0:=s.g0
      rw [e]
      exact ⟨x.more (by omega) j0,y.more (by omega) j0⟩
theorem Jr {v:Nat->Int} {who:Int} {t x:Rat}:∀ {N:Nat},x∈uJ v who t (cE fs N 0 0)->∃ k i,k<N/\i∈cU fs (aI fs k).1 (aI fs k).2/\(aI fs k).1<t/\x=cT fs t i k
 | 0,h=>by cases h
 | N+1,h=>by
  rw [DH,qZ] at h
  rcases aY.mp h with z | z
  ·obtain ⟨k,i,h1,h2⟩:=Jr z
   exact ⟨k,i,by omega,h2⟩
  ·unfold nV at z
   by_cases e:cU fs (aI fs N).1 (aI fs N).2 = []
   ·rw [if_pos e] at z; cases z
   ·rw [if_neg e] at z
    unfold uJ at z
    obtain ⟨y,hy,hx⟩:=List.mem_flatMap.mp z
    have hy:=bH.mp hy
    subst hy
    dsimp only at hx
    by_cases c:(aI fs N).1<t
    ·rw [if_pos c] at hx
     obtain ⟨p,hp,rfl⟩:=aP.mp hx
     have hp:=(cQ.mp hp).1
     unfold qF at hp
     obtain ⟨i,hi,rfl⟩:=aP.mp hp
     refine ⟨N,i,by omega,hi,c,?_⟩
     unfold cT
     rw [if_pos ⟨hi,c⟩]
    ·rw [if_neg c] at hx; cases hx
theorem dH.zero {B:Int} (h:B≠0):dH B 0:=dH.int h 0
theorem Run.bot (R:Run fs w) (o:l6 n M a c fs D) (t:Int) (N:Nat):∃ B:Int,0<B/\Sz 2060 B/\∀ k i,k<N->i∈cU fs (aI fs k).1 (aI fs k).2->dH B (cT fs (t:Rat) i k):=by
 obtain ⟨G,s,al⟩:=HK o N
 have g0:=s.g0
 have gz:=s.A6 o
 have jJ:∀ k i,k<N->i∈cU fs (aI fs k).1 (aI fs k).2->(aI fs (k+1)).1<=(t:Rat)->dH G (cT fs (t:Rat) i k):=fun k i hk hi le=>by
  have ne:cU fs (aI fs k).1 (aI fs k).2≠[]:=fun z=>by rw [z] at hi; cases hi
  have lt:=(R.EB ne).lt
  have e:cT fs (t:Rat) i k=cF fs i k:=by
   rw [R.xR hi]
   unfold cT
   rw [if_pos ⟨hi,by grind⟩]
   have e:min (aI fs (k+1)).1 (t:Rat)=(aI fs (k+1)).1:=by rw [dO]; split <;> grind
   rw [e]
  rw [e]
  unfold cF
  rw [if_pos hi,o6]
  exact ((al (k+1) (by omega)).2.sub (al k (by omega)).2).mG _
 by_cases ex:∃ k,k<N/\cU fs (aI fs k).1 (aI fs k).2≠[]/\(aI fs k).1<(t:Rat)/\(t:Rat)<(aI fs (k+1)).1
 ·obtain ⟨k0,h1,h2,h3,h4⟩:=ex
  obtain ⟨S1,_,S3,_⟩:=o.Dr h2
  have zS:Sz 59 (fZ fs (cU fs (aI fs k0).1 (aI fs k0).2)):=sz_of (by omega) (by omega)
  refine ⟨G*fZ fs (cU fs (aI fs k0).1 (aI fs k0).2),eJ g0 (by omega),(gz.mul zS).mono (by decide),fun k i hk hi=>?_⟩
  by_cases c:(aI fs (k+1)).1<=(t:Rat)
  ·exact (jJ k i hk hi c).more (by omega) (by omega)
  ·by_cases c2:(aI fs k).1<(t:Rat)
   ·have ek:k=k0:=by
     rcases Nat.lt_trichotomy k k0 with z | z | z
     ·exfalso
      have:=(qg R.s1 (show k+1<=k0 from z)).1
      grind
     ·exact z
     ·exfalso
      have:=(qg R.s1 (show k0+1<=k from z)).1
      grind
    subst ek
    unfold cT
    rw [if_pos ⟨hi,c2⟩]
    have e:min (aI fs (k+1)).1 (t:Rat)=(t:Rat):=by rw [dO]; split <;> grind
    have gk:=(al k (by omega)).1
    rw [e]
    generalize fZ fs (cU fs (aI fs k).1 (aI fs k).2)=S at *
    have e2:(shr fs i:Rat) / (S:Rat)*((t:Rat)-(aI fs k).1)=((t:Rat)-(aI fs k).1) / (S:Rat)*(shr fs i:Rat):=by grind
    rw [e2]
    exact (dH.m9 (by omega) ((dH.int (by omega) t).sub gk) (by omega)).mG _
   ·unfold cT
    rw [if_neg (fun z=>c2 z.2)]
    exact dH.zero (b5 (by omega) (by omega))
 ·refine ⟨G,g0,gz.mono (by decide),fun k i hk hi=>?_⟩
  by_cases c:(aI fs (k+1)).1<=(t:Rat)
  ·exact jJ k i hk hi c
  ·by_cases c2:(aI fs k).1<(t:Rat)
   ·exact absurd ⟨k,hk,(fun z=>by rw [z] at hi; cases hi),c2,by grind⟩ ex
   ·unfold cT
    rw [if_neg (fun z=>c2 z.2)]
    exact dH.zero (by omega)
theorem Run.Bo (R:Run fs w) (t:Rat):∀ N,tq ((cE fs N 0 0).map (Ej t))<=(aI fs N).1
 | 0=>aB
 | N+1=>by
  have b:=R.Bo t N
  rw [DH,ay,ju]
  have mo:=(DU R.s1 N).1
  unfold nV
  by_cases e:cU fs (aI fs N).1 (aI fs N).2 = []
  ·rw [if_pos e]
   show _ + (0:Rat)<=_
   grind
  ·rw [if_neg e]
   have lt:=(R.EB e).lt
   have m:Ej t ((aI fs N).1,(aI fs (N+1)).1,qF fs (aI fs N).1 (aI fs N).2)<=(aI fs (N+1)).1-(aI fs N).1:=by
    unfold Ej
    show (if (aI fs N).1<t then min (aI fs (N+1)).1 t-(aI fs N).1 else 0)<=_
    split
    ·rw [dO]; split <;> grind
    ·grind
   show _ + (Ej t ((aI fs N).1,(aI fs (N+1)).1,qF fs (aI fs N).1 (aI fs N).2)+0)<=_
   grind
theorem Run.Bw (R:Run fs w) (v:Nat->Int) (who:Int) (t:Rat) (N:Nat):gT fs v who t N<=(aI fs N).1:=by
 have h1:gT fs v who t N<=tq ((aD fs.length).map fun i=>aT fs t i N):=B9 fun i _=>by
  have:=(R.xO (t:=t) (i:=i) N).1
  split <;> grind
 have h2:=R.Bo t N
 rw [<- R.busy] at h2
 exact fF h1 h2
theorem Run.Fz (R:Run fs w) (o:l6 n M a c fs D) (v:Nat->Int) (who:Int) (t:Int) (N:Nat):(∀ x∈uJ v who (t:Rat) (cE fs N 0 0),0<=x/\cL 2130 x)/\∀ j,cL 2130 (tq ((uJ v who (t:Rat) (cE fs N 0 0)).take j)):=by
 obtain ⟨B,B0,Bz,gr⟩:=R.bot o t N
 obtain ⟨G,s,_⟩:=HK o N
 have mo:=s.Gs o
 have g:∀ x∈uJ v who (t:Rat) (cE fs N 0 0),dH B x:=fun x hx=>by
  obtain ⟨k,i,h1,h2,_,rfl⟩:=Jr hx
  exact gr k i h1 h2
 have p:∀ x∈uJ v who (t:Rat) (cE fs N 0 0),0<=x:=fun x hx=>by
  obtain ⟨k,i,h1,h2,_,rfl⟩:=Jr hx
  exact R.xS.1
 have le:=R.Bw v who (t:Rat) N
 rw [<- rf] at le
 have m1:((-10000000000000000000:Int):Rat)<=0:=by decide +kernel
 have m2:((1000000000000000000:Int):Rat)<=((10000000000000000000:Int):Rat):=by decide +kernel
 refine ⟨fun x hx=>⟨p x hx,ve B0 Bz (g x hx) ?_ ?_⟩,fun j=>?_⟩
 ·have:=p x hx; grind
 ·have:=MY p hx; grind
 ·obtain ⟨t1,t2⟩:=Rq p j
  exact ve B0 Bz (EN (by omega) fun x hx=>g x (lW hx)) (by grind) (by grind)
theorem Run.Mj (R:Run fs w) (o:l6 n M a c fs D) {t:Int} (t0:0<=t) (t1:t<1000000000000000) {N:Nat} {x:qp} (hx:x∈cE fs N 0 0):cL 2130 x.1/\cL 2130 x.2.1/\cL 2130 (min x.2.1 (t:Rat)-x.1)/\x.2.2.length<=60/\∀ p∈x.2.2,p.1<fs.length/\cL 70 p.2:=by
 obtain ⟨j,hj⟩:=dN hx
 obtain ⟨k,k0,k1,rfl,_⟩:=QM hj
 obtain ⟨G,s,al⟩:=HK o N
 have g0:=s.g0
 have gz:=(s.A6 o).mono (show 2001<=2060 by decide)
 have mo:=s.Gs o
 have a0:=(qg R.s1 (bR k)).1
 have a1:=(DU R.s1 k).1
 have a2:=(qg R.s1 (show k+1<=N from k0)).1
 have z0:(aI fs 0).1 = 0:=rfl
 rw [z0] at a0
 have g1:=(al k (by omega)).1
 have g2:=(al (k+1) (by omega)).1
 have m1:((-10000000000000000000:Int):Rat)<=-((1000000000000000000:Int):Rat):=by decide +kernel
 have m2:((1000000000000000000:Int):Rat)<=((10000000000000000000:Int):Rat):=by decide +kernel
 have m3:(0:Rat)<=((1000000000000000000:Int):Rat):=by decide +kernel
 have q0:(0:Rat)<=(t:Rat):=ak.mpr t0
 have q1:(t:Rat)<=((1000000000000000000:Int):Rat):=ak.mpr (by omega)
 obtain ⟨S1,_,S3,_⟩:=o.Dr k1
 have hl:=oz fs (aI fs k).1 (aI fs k).2
 have ln:=o.ln
 have n1:=o.F.n1
 refine ⟨ve g0 gz g1 (by dsimp only; grind) (by dsimp only; grind),ve g0 gz g2 (by dsimp only; grind) (by dsimp only; grind),?_,?_,fun p hp=>?_⟩
 ·dsimp only
  refine ve g0 gz ?_ ?_ ?_
  ·refine dH.sub ?_ g1
   rw [dO]
   split
   ·exact g2
   ·exact dH.int (by omega) t
  ·rw [dO]; split <;> grind
  ·rw [dO]; split <;> grind
 ·show (qF fs (aI fs k).1 (aI fs k).2).length<=60
  unfold qF
  rw [ae]
  omega
 ·have hp:p∈qF fs (aI fs k).1 (aI fs k).2:=hp
  unfold qF at hp
  obtain ⟨i,hi,rfl⟩:=aP.mp hp
  obtain ⟨f,hf,_⟩:=jm.mp hi
  have sh:=o.sh f (aq hf)
  have M2:=o.F.M2
  refine ⟨(aa.mp hf).1,?_⟩
  show cL 70 ((shr fs i:Rat) / (fZ fs (cU fs (aI fs k).1 (aI fs k).2):Rat))
  rw [kK hf]
  exact cL.of (by omega) rfl (Sz.j5 (by omega) (by omega)) (Sz.j5 (by omega) (by omega))
theorem Run.Hr (R:Run fs w) (o:l6 n M a c fs D) (v:Nat->Int) (g:Nat->Int) (t:Int) (N:Nat) {j:Nat} (hj:j<=3):cL 2130 (tq ((aD j).map fun k=>gT fs v (g k) (t:Rat) N)):=by
 obtain ⟨B,B0,Bz,gr⟩:=R.bot o t N
 obtain ⟨G,s,_⟩:=HK o N
 have mo:=s.Gs o
 have gg:∀ who,dH B (gT fs v who (t:Rat) N):=fun who=>by
  rw [<- rf]
  refine EN (by omega) fun x hx=>?_
  obtain ⟨k,i,h1,h2,_,rfl⟩:=Jr hx
  exact gr k i h1 h2
 have g0:∀ who,0<=gT fs v who (t:Rat) N:=fun who=>by
  refine DW fun x hx=>?_
  obtain ⟨i,_,rfl⟩:=aP.mp hx
  have:=(R.xO (t:=(t:Rat)) (i:=i) N).1
  split
  ·exact this
  ·exact aB
 have le:=fun who=>R.Bw v who (t:Rat) N
 have lt:∀ m,m<=3->0<=tq ((aD m).map fun k=>gT fs v (g k) (t:Rat) N)/\tq ((aD m).map fun k=>gT fs v (g k) (t:Rat) N)<=(m:Rat)*((1000000000000000000:Int):Rat):=fun m=>by
  induction m with
  | zero=>intro _; exact ⟨aB,by show (0:Rat)<=_; grind⟩
  | succ m ih =>
   intro hm
   obtain ⟨a1,a2⟩:=ih (by omega)
   rw [dF,ay,ju]
   have b1:=g0 (g m)
   have b2:=le (g m)
   have e:tq ([m].map fun k=>gT fs v (g k) (t:Rat) N)=gT fs v (g m) (t:Rat) N:=by show _ + (0:Rat) = _; grind
   rw [e]
   have c1:((m+1:Nat):Rat)=(m:Rat)+1:=by push_cast; rfl
   rw [c1]
   exact ⟨by grind,by grind⟩
 obtain ⟨l1,l2⟩:=lt j hj
 have m1:((-10000000000000000000:Int):Rat)<=0:=by decide +kernel
 have m2:(3:Rat)*((1000000000000000000:Int):Rat)<=((10000000000000000000:Int):Rat):=by decide +kernel
 have j3:(j:Rat)*((1000000000000000000:Int):Rat)<=(3:Rat)*((1000000000000000000:Int):Rat):=by
  rcases (show j = 0\/j = 1\/j = 2\/j = 3 by omega) with h | h | h | h <;> rw [h] <;> decide +kernel
 refine ve B0 Bz (EN (by omega) fun x hx=>?_) (by grind) (by grind)
 obtain ⟨k,_,rfl⟩:=aP.mp hx
 exact gg _
end
end Sw
namespace Sw
open L2
section
variable {qs:List Q4} {k:Nat} {dr:List Nat} {x:WS} {s:Ti}
end
section
variable {n:Nat} {M:Int} {a c:Nat} {rm:Int->Option Int} {qs:List Q4}
end
end Sw
namespace L2
open PySem PySem.Spec PyProof.Rows
section
variable {X:Cx}
end
section
variable {X:Cx}
end
def LC:Option Str->V
 | none=>.iJ
 | some x=>.str x
structure FR (fs:List (Str×V)) (most:Int) (pm:Addr) (ch:V) (pt pg:Addr) (tu:Option Str):Prop where
 mo:fs.lookup ("most" : Str)=some (.int most)
 me:fs.lookup ("members" : Str)=some (.ref pm)
 ch:fs.lookup ("chosen" : Str)=some ch
 qu:fs.lookup ("queue" : Str)=some (.ref pt)
 re:fs.lookup ("rests" : Str)=some (.ref pg)
 tu:fs.lookup ("turn" : Str)=some (LC tu)
 no:∀ m:Str,¬ m = "most" -> ¬ m = "members" -> ¬ m = "chosen" -> ¬ m = "queue" -> ¬ m = "rests" -> ¬ m = "turn" -> fs.lookup m=none
 len:fs.length<900
structure Rx (C Cm:Addr) (H:Hp) (a:EQ) (most:Int) (nm:Nm) (q:List Str) (rs:Nm) (tu:Option Str) (ch:V):Prop where
 ex:∃ dx fs,H a.p=some (.ins C dx fs)/\FR fs most a.pm ch a.pt a.pg tu
 mb:Mb Cm H a.pm a.ps nm
 hq:H a.pt=some (.lst (q.map V.str))
 hr:H a.pg=some (.dK (kvsOf rs))
 n3:a.pg≠a.ps
 n4:a.p≠a.pm
section
variable {C Cm:Addr} {H H':Hp} {a:EQ} {most:Int} {nm US:Nm} {q q':List Str} {rs rs':Nm} {tu tu':Option Str} {ch Zy:V}
end
end L2
namespace Sw
open L2 PySem
section
variable {most:Int} {nm:Nm} {q:List Str} {rs:Nm} {tu:Option Str}
end
end Sw
namespace L2
open PySem PySem.Spec PyProof.Rows
section
variable {X:Cx}
end
section
variable {X:Cx}
end
section
variable {prog:Program} {w:World} {A:Around} {E:Value->Shared->Prop} {h:Heap} {g:Array GenState} {d:Drawn} {t:Nat} {os:OsState} {a:Addr} {dJ:Array Value} {n:Nat}
end
section
variable {prog:Program} {w:World} {A:Around} {R:Result->Shared->Prop}
end
section
variable {X:Cx}
end
end L2
namespace Sw
open L2
section
variable {fs:List F4} {w:Nat->Int}
def rB (fs:List F4) (p:Nat):Rat:=(shr fs p:Rat)*(zP fs p-((fs[p]?).map fun f=>f.2.1).getD 0)
theorem Dc {p:Nat} {f:F4} (h:fs[p]? = some f):rB fs p=(shr fs p:Rat)*(f.2.2.1-f.2.1):=by
 unfold rB zP
 rw [h]
 rfl
end
end Sw
namespace Sw
open L2
end Sw
namespace Sw
open L2
section
variable {n:Nat} {M:Int} {a c:Nat} {T:List WI}
end
end Sw
namespace Sw
open L2
section
variable {n:Nat} {M:Int} {a c:Nat} {rm:Int->Option Int} {qs:List Q4}
end
end Sw
namespace L2
open PySem PySem.Spec PyProof.Rows PySem.MeetsSeq
section
variable {X:Cx}
end
end L2
namespace Sw
open L2
end Sw
namespace Sw
open L2
section
variable {n:Nat} {M:Int} {a c:Nat} {qs:List Q4}
end
end Sw
namespace Sw
open L2
section
variable {ss:List S3} {L:Int} {m:Nat}
def eS (ss:List S3) (i:Nat):Rat:=(d8 ss i:Rat) / (dU ss i:Rat)
end
end Sw
namespace Sw
open L2
section
variable {n:Nat} {M:Int} {a c:Nat} {qs:List Q4} {A:Int} {sh:Int->Int}
def gP (fs:List F4) (x:Rat) (p:Nat):Rat:=((fs[p]?).map fun f=>(f.2.2.2:Rat)*dn f x).getD 0
def gS (fs:List F4) (x:Rat):Rat:=tq ((aD fs.length).map (gP fs x))
end
end Sw
namespace L2
open PySem PySem.Spec PyProof.Rows
section
variable {X:Cx}
end
section
variable {X:Cx}
end
def sg (c:Nat):Str:=⟨#[c]⟩
section
variable {X:Cx} {tg:Expr}
end
section
variable {X:Cx}
end
section
variable {M:Model} {A:Around} {E:Value->Shared->Prop} {s:Shared} {B:Heap} {env:Env} {outer:List Env} {L e:Addr} {cls:Value} {r9:Option Addr}
end
section
variable {X:Cx} {ao:List (Addr×Obj)} {σ:St} {H H':Hp} {s:Shared} {h':Heap}
end
section
variable {P:Program} {w:World} {X:Cx} {scope:Scope} {cl:List (Str×Addr)} {N:List Str} {Ek:XH} {fp:List Addr} {s s':Shared} {H H':Hp} {ao:List (Addr×Obj)} {τ:St}
end
section
variable {P:Program} {w:World} {K:ai} {mg:Str->Option Value} {base:Heap} {N:List Str} {dS:Str} {sc:Scope} {f:Addr} {cd:Value} {A:Around} {outer:List Env} {s₀:Shared} {H₀:Hp} {E:XK}
end
end L2
namespace Sw
open PySem L2
def Kg:Str:=Str.ofString "0123456789"
def Sd (z:Str):Prop:=z.cps.toList[0]? = some 48/\1<z.length
def EU (z:Str):Prop:=∀ c∈z.cps.toList,c∈Kg.cps.toList
instance (z:Str):Decidable (Sd z):=by unfold Sd; exact inferInstance
instance (z:Str):Decidable (EU z):=by unfold EU; exact inferInstance
end Sw
namespace PySem
open Sem (wp)
open Builtin Builtin.Str Builtin.Int
namespace F
end F
section
variable {prog:Program} {w:World} {A:Around} {E:Value->Shared->Prop} {s:Shared} {I:Addr} {fp wr:List Addr} {G:Array GenState->Array GenState->Prop} {n:Nat} {P:Nat->Value->Prop} {St:Nat->Shared->Prop}
end
end PySem
namespace L2
open PySem PySem.Spec PyProof.Rows
section
variable {X:Cx}
end
structure Ea (X:Cx) (es:List Expr) (t:TA):Prop where
 h:PA X es t
section
variable {X:Cx}
theorem Se:Ea X [] yR:=⟨bU⟩
theorem HE {e:Expr} {es:List Expr} {te:TE} {t:TA} (he:PE X e te) (hr:Ea X es t) (hs:starEach (e :: es) X.env=(false,eval e X.env) :: starEach es X.env:=by rfl):Ea X (e :: es) (tX te t):=⟨aS he hr.h hs⟩
structure E4 (X:Cx) (e:Expr) (t:TE):Prop where
 h:PE X e t
structure HS (X:Cx) (st:Stmt) (t:TS):Prop where
 h:PS X st t
structure Ak (X:Cx) (b:List Stmt) (t:TS):Prop where
 h:r6 X b t
theorem Rs {es:List Expr} {t:TA} {pos:Pos} (h:Ea X es t):E4 X (.List es pos) (AZ t):=⟨su h.h⟩
theorem HM {st:Stmt} {t:TS} (h:PS X st t):HS X st t:=⟨h⟩
theorem XX {i:Nat} {x:Str} {e:Expr} {te:TE} {lP pos:Pos} (hN:X.N.Nodup) (hi:X.N[i]? = some x) (hx:Loc X.env.scope x) (he:E4 X e te) (hs:swapsWith e (some (.Name x lP)) pos.line X.env=pure false:=by first | kernel_rfl | rfl) (hf:X.fn x=true\/X.env.scope.names.lookup x=some .local:=by first | exact .inl rfl | exact .inr rfl | assumption) :
    HS X (.Assign [.Name x lP] e pos) (ny te (nF i)):=⟨RT hN hi hx he.h hs hf⟩
theorem XY {st:Stmt} {t:TS} (h:HS X st t):Ak X [st] t:=⟨fL h.h⟩
theorem Hy {st:Stmt} {t:TS} {rest:List Stmt} {u:TS} (h1:HS X st t) (h2:Ak X rest u):Ak X (st :: rest) (fU t u):=⟨c7 h1.h h2.h⟩
theorem Ka {b:List Stmt} {r:TS->Prop} (h:∃ t,Ak X b t/\r t):∃ t,r6 X b t/\r t:=h.imp fun _ q=>⟨q.1.h,q.2⟩
end
end L2
namespace Sw
open PySem L2 PyProof.Rows
def Below (h:Str):Prop:=h.cps.toList[0]? = some 45
instance (h:Str):Decidable (Below h):=by unfold Below; exact inferInstance
end Sw
namespace L2
open PySem PySem.Spec PyProof.Rows
theorem eu {X:Cx} {i:Nat} {x:Str} {e:Expr} {te:TE} {lP pos:Pos} (hN:X.N.Nodup) (hi:X.N[i]? = some x) (he:PE X e te) (hx:Loc X.env.scope x:=by first | exact Or.inl rfl | exact Or.inr rfl) (hs:swapsWith e (some (.Name x lP)) pos.line X.env=pure false:=by rfl) (hf:X.fn x=true\/X.env.scope.names.lookup x=some .local:=by first | exact .inl rfl | exact .inr rfl | assumption) :
    PS X (.Assign [.Name x lP] e pos) (ny te (nF i)):=RT hN hi hx he hs hf
end L2
namespace Sw
open PySem L2 PyProof.Rows
end Sw
namespace L2
open PySem PySem.Spec PyProof.Rows
section
variable {X:Cx}
end
end L2
namespace Sw
open PySem L2 PyProof.Rows
section
variable {n:Nat} {M:Int} {a c:Nat} {rm:Int->Option Int} {qs:List Q4}
end
end Sw
namespace L2
open PySem PySem.Spec PyProof.Rows
section
variable {X:Cx}
end
end L2
namespace L2
open PySem PySem.Spec PyProof.Rows PySem.MeetsSeq
section
variable {X:Cx}
end
end L2
namespace L2
open PySem PySem.Spec PyProof.Rows
section
variable {X:Cx}
end
section
variable {X:Cx}
end
inductive ET
 | st (nm:Nm) (tg gs:Str->Option Rat) (ck:Rat) (ch:V) (N:Nat)
 | rd (nm:Nm) (q:List Str) (rs:Nm) (tu:Option Str) (ch:V)
section
variable {cS cR cM:Addr} {H H':Hp} {a:EQ} {m:Int} {c:ET}
end
section
variable {m:Int} {c:ET} {x:Str} {s:Int}
end
structure SA where
 d:Int
 r:Rat
 s:Int
 l:Rat
structure ND where
 nm:Str
 p:Addr
 ql:Addr
 ab:Option Str
 ch:Option (EQ×ET)
 rm:V
 bk:Option (Addr×SA)
 ps:List Addr
 qu:List D2
structure Cl where
 n:Addr
 s:Addr
 r:Addr
 m:Addr
 b:Addr
 t:Addr
section
variable {C:Cl} {H H':Hp} {m:Int} {x:ND}
end
abbrev D3:=Int×Int×Str
structure TD where
 p:Addr
 pn:Addr
 pg:Addr
 most:Int
 tm:Int
 fr:Int
 ct:Int
 ns:List ND
 gp:List Addr
 gs:List D3
section
variable {C:Cl} {H H':Hp} {D:TD}
end
section
variable {C:Cl} {H H':Hp} {D:TD}
end
section
variable {C:Cl} {H H':Hp} {D:TD}
end
def lets:Str:=Str.ofString "abcdefghijklmnopqrstuvwxyz"
def Sf (z:Str):Prop:=(1<=z.length/\z.length<=8)/\∀ c∈z.cps.toList,c∈lets.cps.toList
instance (z:Str):Decidable (Sf z):=by unfold Sf; exact inferInstance
def xF (kd:Str):Prop:=kd=Str.ofString "starts" \/ kd=Str.ofString "rounds"
instance (kd:Str):Decidable (xF kd):=by unfold xF; exact inferInstance
def Gm (kd:Str):Prop:=kd=Str.ofString "leaf" \/ xF kd
instance (kd:Str):Decidable (Gm kd):=by unfold Gm; exact inferInstance
section
variable {D:TD} {x u kd:Str} {s:Int} {rm:V} {n:ND}
end
section
variable {X:Cx}
theorem Sg {a b:Expr} {ta tb:TE} {r:R2} {pos:Pos} (hr:D8 X r) (ha:E4 X a ta) (hb:PE X b tb) (hs:Ra b):E4 X (.Subscript a b pos) (Dw r ta tb):=⟨bg hr ha.h hb hs⟩
end
section
variable {C:Cl} {H H':Hp} {D:TD}
end
section
variable {C:Cl} {H H':Hp} {D:TD}
end
section
variable {prog:Program} {w:World} {A:Around} {R:Result->Shared->Prop}
end
section
variable {prog:Program} {w:World} {A:Around} {E:Value->Shared->Prop} {s:Shared}
end
section
variable {X:Cx}
end
def Y7 (rs:Nm) (x:Str):Int:=(GU rs x).getD 0
def J6 (q:List Str):Option Str->List Str
 | none=>q
 | some t=>q++[t]
def Gn (rs:Nm) (rd:List Str):Option Str->Bool
 | none=>false
 | some t=>decide (t∈rd) && decide (0<Y7 rs t)
def BV (q:List Str) (rs:Nm) (tu:Option Str) (rd:List Str):Option Str:=if Gn rs rd tu then tu else (J6 q tu).find? fun x=>decide (x∈rd)
section
variable {most:Int} {nm:Nm} {q:List Str} {rs:Nm} {tu:Option Str}
end
def ET.Cr (p:Nat):ET->Prop
 | .st _ tg gs ck _ _=>∃ G:Int,0<G/\Sw.Sz (20*p+1) G/\(Sw.dH G ck/\0<=ck/\ck<=(((p:Int)*1000000:Int):Rat))/\(∀ x t,tg x=some t->Sw.dH G t/\0<=t/\t<=(((p:Int)*1000000:Int):Rat))/\∀ x g,gs x=some g->0<=g/\Sw.cL 70 g
 | .rd ..=>True
section
variable {D:TD} {u:Int}
end
section
variable {m:Int} {R:Str->Prop} {S T:List Str} {x:Str} {t len:Int}
end
def O2 (ns:List ND):Nat:=(ns.map fun n=>n.qu.length).sum
section
variable {C:Cl} {H H':Hp} {D:TD}
end
section
variable {D:TD} {R:Str->Prop} {t len:Int} {x:Str}
end
end L2
namespace L2
end L2
namespace L2
open PySem PySem.Spec PyProof.Rows
section
variable {X:Cx}
end
section
variable {X:Cx}
end
section
variable {K:ai} {mg:Str->Option Value} {h:Heap} {C i dt:Addr} {m q:Str} {st:Stmt} {ps:List Str} {od an dd:Option Addr} {sl dl:Array (Option Value)} {oc kV dc pm co ct dv:Value}
abbrev JF (x q:Str) (st:Stmt) (ps:List Str):Prop:=∀ (kV mj pm:Value) (an:Option Addr) (e6 ct:Value) (us:List Value),us.length=ps.length->bindArgs (c9 x q (wY st) (t6 st) (gM st) .none kV mj pm an e6 ct) ⟨us,[]⟩ = pure (ps.zip us)
theorem Dt (X:K.In h) (G:h.Ns mainGlobals mg) (a:CG K mainGlobals m=some (some (.ref i))) (l:K.lookup i=some ⟨oc,od,.func (c9 m m (wY st) (t6 st) (gM st) .none kV dc pm an co ct),sl⟩) (c:eU K co m=true) (k:d9 K (.ref i)=true) (b:JF m m st ps):jW K mg m st ps:=⟨_,_,HG l c k,(HG l c k).binds b,qR X G a⟩
theorem Gr (a:cJ K (.ref C) m=some (some (.ref i))) (f:jV K (.ref i)=true) (l:K.lookup i=some ⟨oc,od,.func (c9 m q (wY st) (t6 st) (gM st) .none kV dc pm an co ct),sl⟩) (c:eU K co q=true) (k:d9 K (.ref i)=true) (b:JF m q st ps):xM K C m q st ps [[]]:=⟨⟨_,_,Re l c,⟨a,f,k⟩,fun j4 h=>by rw [bH.mp h]; exact .nil ((HG l c k).binds b)⟩⟩
theorem in_of (a:cJ K (.ref C) "__init__" = some (some (.ref i))) (f:jV K (.ref i)=true) (l:K.lookup i=some ⟨oc,od,.func (c9 "__init__" q (wY st) (t6 st) (gM st) .none kV dc pm an co ct),sl⟩) (c:eU K co q=true) (k:d9 K (.ref i)=true) (b:JF "__init__" q st ps) (mk:o4 K C=true) (kc:d9 K (.ref C)=true):Am K C q st ps [[]]:=⟨⟨_,_,Re l c,⟨mk,a,f,kc⟩,fun j4 h=>by rw [bH.mp h]; exact .nil ((HG l c k).binds b)⟩⟩
end
end L2
namespace Sw
open L2
section
variable {n:Nat}
def sS (n:Nat) (f:Nat->Rat):Rat:=tq ((aD n).map f)
theorem Co (f g:Nat->Rat):sS n (fun k=>f k+g k)=sS n f+sS n g:=HJ f g _
theorem DY (f:Nat->Rat) (c:Rat):sS n (fun k=>f k*c)=sS n f*c:=JB f c _
theorem cV {f g:Nat->Rat} (h:∀ k,k<n->f k=g k):sS n f=sS n g:=vc fun k hk=>h k (bS.mp hk)
theorem Rt {f g:Nat->Rat}:∀ {l:List Nat},(∀ k∈l,f k<=g k)->tq (l.map f)<=tq (l.map g)
 | [],_=>aB
 | x :: r,h=>by
  have h1:=h x (ic ..)
  have h2:=Rt (l:=r) fun k hk=>h k (aA _ hk)
  show f x+tq (r.map f)<=g x+tq (r.map g)
  grind
theorem tO {f g:Nat->Rat} (h:∀ k,k<n->f k<=g k):sS n f<=sS n g:=Rt fun k hk=>h k (bS.mp hk)
theorem A9:sS n (fun _=>0) = 0:=EK _
end
section
variable (ss:List S3) (s:Nat)
def fQ (f:Nat->Rat):Rat:=sS ss.length fun k=>if 0<(bj ss s).1 k then 0 else f k
def kU (f:Nat->Rat):Rat:=sS ss.length fun k=>if 0<(bj ss s).1 k then f k else 0
end
section
variable {ss:List S3} {s:Nat}
theorem JC (f:Nat->Rat):fQ ss s f+kU ss s f=sS ss.length f:=by
 unfold fQ kU
 rw [<- Co]
 refine cV fun k _=>?_
 split <;> grind
theorem ME (f g:Nat->Rat):fQ ss s (fun k=>f k+g k)=fQ ss s f+fQ ss s g:=by
 unfold fQ
 rw [<- Co]
 refine cV fun k _=>?_
 split <;> grind
theorem Xf (f:Nat->Rat) (c:Rat):fQ ss s (fun k=>f k*c)=fQ ss s f*c:=by
 unfold fQ
 rw [<- DY]
 refine cV fun k _=>?_
 split <;> grind
theorem Ch (f:Nat->Rat) (c:Rat):kU ss s (fun k=>f k*c)=kU ss s f*c:=by
 unfold kU
 rw [<- DY]
 refine cV fun k _=>?_
 split <;> grind
theorem Ru {f g:Nat->Rat} (h:∀ k,k<ss.length->¬ 0<(bj ss s).1 k->f k<=g k):fQ ss s f<=fQ ss s g:=tO fun k hk=>by
 split
 ·exact aB
 ·rename_i c; exact h k hk c
theorem Sh {f g:Nat->Rat} (h:∀ k,k<ss.length->0<(bj ss s).1 k->f k<=g k):kU ss s f<=kU ss s g:=tO fun k hk=>by
 split
 ·rename_i c; exact h k hk c
 ·exact aB
theorem Qo {f g:Nat->Rat} (h:∀ k,k<ss.length->0<(bj ss s).1 k->f k=g k):kU ss s f=kU ss s g:=cV fun k hk=>by
 split
 ·rename_i c; exact h k hk c
 ·rfl
theorem PJ {f g:Nat->Rat} (h:∀ k,k<ss.length->¬ 0<(bj ss s).1 k->f k=g k):fQ ss s f=fQ ss s g:=cV fun k hk=>by
 split
 ·rfl
 ·rename_i c; exact h k hk c
theorem Rv:kU ss s (fun k=>(dU ss k:Rat))=(sumF ss (bj ss s).1:Rat):=by
 unfold kU sS sumF bY
 rw [<- Jq,DI]
 refine vc fun k _=>?_
 by_cases c:0<(bj ss s).1 k
 ·rw [if_pos c,if_pos (decide_eq_true c)]
 ·rw [if_neg c,if_neg (by rw [decide_eq_true_iff]; exact c)]
theorem WF:eO ss (bj ss s).1 = 1-fQ ss s (dQ ss):=by
 unfold eO mO fQ sS
 rw [DI]
 congr 1
 refine vc fun k hk=>?_
 have:=bS.mp hk
 by_cases c:0<(bj ss s).1 k
 ·rw [if_pos c,if_neg (by simp [dj,c,this])]
 ·rw [if_neg c,if_pos (by simp [dj,c])]
end
section
variable {ss:List S3} {L:Int} {m s:Nat}
theorem Js (P:Plan ss L) (en:fD ss m) (i:Nat):∀ {s:Nat},s<=m->0<=(bj ss s).1 i:=by
 intro s
 have:∀ s,s<=m->∀ i,0<=(bj ss s).1 i:=fun s=>by
  induction s with
  | zero =>
   intro _ i
   show 0<=(d8 ss i:Rat)
   refine dg.mpr ?_
   by_cases c:i<ss.length
   ·obtain ⟨x,hx,_,e,_⟩:=fX c
    rw [e]
    have:=(P.b1 x hx).1
    omega
   ·unfold d8
    rw [bN (by omega)]
    exact fE _
  | succ s ih =>
   intro h i
   exact BP P (en.go s (by omega)) (ih (by omega)) i
 exact fun h=>this s h i
theorem HN (P:Plan ss L) {i:Nat} (hi:i<ss.length):(0:Rat)<(dU ss i:Rat):=by
 obtain ⟨x,hx,e,_⟩:=fX hi
 rw [e]
 exact bJ (by have:=P.s1 x hx; omega)
theorem Hz (P:Plan ss L) (en:fD ss m) (hs:s<m):(0:Rat)<kU ss s (fun k=>(dU ss k:Rat)):=by
 rw [Rv]
 exact bJ (by have:=(jq P (en.go s hs)).1; omega)
theorem Ji (P:Plan ss L) (en:fD ss m) (hs:s<m) {i:Nat} (hi:i<ss.length) (hp:0<(bj ss s).1 i):cN ss (bj ss s).1 i*kU ss s (fun k=>(dU ss k:Rat))=(1-fQ ss s (dQ ss))*(dU ss i:Rat):=by
 have p:=Hz P en hs
 rw [Rv] at p ⊢
 unfold cN
 rw [if_pos (dj.mpr ⟨hi,hp⟩),WF]
 generalize (sumF ss (bj ss s).1:Rat)=F at p ⊢
 have:=ik F (by grind)
 rw [Rat.div_def]
 grind
theorem QO {i:Nat} (hp:¬ 0<(bj ss s).1 i):cN ss (bj ss s).1 i=dQ ss i:=by
 unfold cN
 rw [if_neg fun z=>hp (dj.mp z).2]
theorem Rw (P:Plan ss L) (en:fD ss m) (hs:s<m):sS ss.length (cN ss (bj ss s).1) = 1:=by
 have p:=Hz P en hs
 rw [<- JC (s:=s),PJ (g:=dQ ss) fun k _ c=>QO c]
 have e:kU ss s (cN ss (bj ss s).1)*kU ss s (fun k=>(dU ss k:Rat))=(1-fQ ss s (dQ ss))*kU ss s (fun k=>(dU ss k:Rat)):=by
  rw [<- Ch,o6,<- Ch]
  refine Qo fun k hk c=>?_
  rw [Ji P en hs hk c,o6]
 generalize kU ss s (fun k=>(dU ss k:Rat))=F at p e
 generalize kU ss s (cN ss (bj ss s).1)=x at e ⊢
 generalize fQ ss s (dQ ss)=y at e ⊢
 have i1:=ik F (by grind)
 have:(x-(1-y))*F = 0:=by grind
 have:x-(1-y) = 0:=by
  have h2:(x-(1-y))*F*F⁻¹ = 0:=by rw [this,gK]
  rw [uG,i1,qo] at h2
  exact h2
 grind
theorem Si (P:Plan ss L) (en:fD ss m):∀ {s:Nat},s<=m->sS ss.length (fun k=>eA ss k s)=(bj ss s).2
 | 0,_=>A9
 | s+1,h=>by
  have ih:=Si P en (s:=s) (by omega)
  show sS ss.length (fun k=>eA ss k s+cN ss (bj ss s).1 k*((bj ss (s+1)).2-(bj ss s).2)) = _
  rw [Co,DY,ih,Rw P en (by omega)]
  grind
theorem Je (P:Plan ss L) (en:fD ss m) {i:Nat} (h:0<(bj ss (s+1)).1 i) (hs:s<m):0<(bj ss s).1 i:=by
 have:=Js P en i (s:=s) (by omega)
 by_cases z:0<(bj ss s).1 i
 ·exact z
 ·have:=Wb (show (bj ss s).1 i = 0 by grind) (s+1) (by omega)
  grind
theorem XZ (P:Plan ss L) (en:fD ss m) {i k:Nat} (hi:i<ss.length) (hk:k<ss.length):∀ {s:Nat},s<m->0<(bj ss s).1 i->0<(bj ss s).1 k->eA ss k s*(dU ss i:Rat)=eA ss i s*(dU ss k:Rat)/\cN ss (bj ss s).1 k*(dU ss i:Rat)=cN ss (bj ss s).1 i*(dU ss k:Rat):=by
 have ol:∀ s,s<m->0<(bj ss s).1 i->0<(bj ss s).1 k->cN ss (bj ss s).1 k*(dU ss i:Rat)=cN ss (bj ss s).1 i*(dU ss k:Rat):=fun s hs h1 h2=>by
  have p:=Hz P en hs
  have a:=Ji P en hs hi h1
  have b:=Ji P en hs hk h2
  generalize kU ss s (fun k=>(dU ss k:Rat))=F at p a b
  have i1:=ik F (by grind)
  have:(cN ss (bj ss s).1 k*(dU ss i:Rat)-cN ss (bj ss s).1 i*(dU ss k:Rat))*F = 0:=by grind
  have h2:(cN ss (bj ss s).1 k*(dU ss i:Rat)-cN ss (bj ss s).1 i*(dU ss k:Rat))*F*F⁻¹ = 0:=by rw [this,gK]
  rw [uG,i1,qo] at h2
  grind
 intro s
 induction s with
 | zero =>
  intro hs h1 h2
  refine ⟨?_,ol 0 hs h1 h2⟩
  show 0*(dU ss i:Rat) = 0*(dU ss k:Rat)
  grind
 | succ s ih =>
  intro hs h1 h2
  obtain ⟨g,o⟩:=ih (by omega) (Je P en h1 (by omega)) (Je P en h2 (by omega))
  refine ⟨?_,ol _ hs h1 h2⟩
  show (eA ss k s+cN ss (bj ss s).1 k*((bj ss (s+1)).2-(bj ss s).2))*(dU ss i:Rat)=(eA ss i s+cN ss (bj ss s).1 i*((bj ss (s+1)).2-(bj ss s).2))*(dU ss k:Rat)
  grind
end
end Sw
namespace Sw
open L2
theorem Y8 {F R y1 y0 e0 f0 d c0 u1 u0 x r:Rat} (h1:c0*y1<=c0*(y0+R*d-e0)) (h2:u0*F+c0*y0<=0) (h3:f0*c0<=x*F) (h4:r*F*d<=(1-R)*c0*d) (h5:u1*F<=(u0+r*d-x)*F) (sp:e0+f0=d):u1*F+c0*y1<=0:=by
 have e:c0*d=c0*e0+f0*c0:=by rw [<- sp]; grind
 have e1:c0*(y0+R*d-e0)=c0*y0+R*(c0*d)-c0*e0:=by grind
 have e2:(1-R)*c0*d=c0*d-R*(c0*d):=by grind
 have e3:(u0+r*d-x)*F=u0*F+r*F*d-x*F:=by grind
 rw [e1] at h1
 rw [e2] at h4
 rw [e3] at h5
 generalize c0*d=A at *
 generalize R*A=B at *
 generalize r*F*d=C at *
 generalize x*F=E at *
 generalize c0*e0=G at *
 generalize f0*c0=I at *
 generalize u0*F=J at *
 generalize u1*F=K at *
 generalize c0*y0=M at *
 generalize c0*y1=N at *
 grind
structure iw (ss:List S3) (T:Nat->Rat) (Q D s a:Nat->Nat->Rat):Prop where
 mo:∀ j,T j<=T (j+1)
 q0:∀ k j,0<=Q k j
 d0:∀ k,Q k 0=D k 0
 dp:∀ k j,0<=D k j
 sv:∀ k j,0<=s k j
 sq:∀ k j,s k j<=Q k j
 qn:∀ k j,Q k (j+1)=Q k j-s k j+a k (j+1)
 dn:∀ k j,D k j-dQ ss k*(T (j+1)-T j)+a k (j+1)<=D k (j+1)
 da:∀ k j,a k (j+1)<=D k (j+1)
 wk:∀ i j,i<ss.length->0<Q i j->sS ss.length (fun k=>s k j)=T (j+1)-T j
 gp:∀ i k j,i<ss.length->k<ss.length->0<Q i j->s k j*(dU ss i:Rat)<=s i j*(dU ss k:Rat)
 ln:∀ k j,k<ss.length->D k j<=(d8 ss k:Rat)
section
variable {ss:List S3} {T:Nat->Rat} {Q D s a:Nat->Nat->Rat} {L:Int} {m:Nat}
theorem iw.step (G:iw ss T Q D s a) (k j:Nat):Q k (j+1)-D k (j+1)<=Q k j-D k j+dQ ss k*(T (j+1)-T j)-s k j:=by
 have:=G.qn k j
 have:=G.dn k j
 grind
theorem iw.none (G:iw ss T Q D s a) {k j:Nat} (h:¬ 0<Q k j):Q k (j+1)-D k (j+1)<=0:=by
 have:=G.qn k j
 have:=G.da k j
 have:=G.q0 k j
 have:=G.sv k j
 have:=G.sq k j
 grind
theorem iw.off (G:iw ss T Q D s a) (P:Plan ss L) (en:fD ss m):∀ {p:Nat},p<=m->∀ j,fQ ss p (fun k=>Q k j-D k j)<=0:=by
 intro p
 induction p with
 | zero =>
  intro _ j
  have:fQ ss 0 (fun k=>Q k j-D k j)=sS ss.length (fun _=>0):=by
   unfold fQ
   refine cV fun k hk=>?_
   rw [if_pos]
   show (0:Rat)<(d8 ss k:Rat)
   obtain ⟨x,hx,_,e,_⟩:=fX hk
   rw [e]
   exact bJ (by have:=(P.b1 x hx).1; omega)
  rw [this,A9]
  exact aB
 | succ p ih =>
  intro hp j
  have ih:=ih (by omega)
  have F0:=Hz P en (s:=p) (by omega)
  have one:∀ g,g<ss.length->0<(bj ss p).1 g->¬ 0<(bj ss (p+1)).1 g->∀ j,(Q g j-D g j)*kU ss p (fun k=>(dU ss k:Rat))+(dU ss g:Rat)*fQ ss p (fun k=>Q k j-D k j)<=0:=fun g hg h1 h2 j=>by
   have sg:=HN P hg
   have of:=Ji P en (by omega) hg h1
   have z:(bj ss (p+1)).1 g = 0:=by have:=Js P en g (s:=p+1) hp; grind
   have fl:dQ ss g<=cN ss (bj ss p).1 g:=by
    have e:(bj ss (p+1)).1 g=(bj ss p).1 g-(cN ss (bj ss p).1 g-dQ ss g)*i9 ss (bj ss p).1:=rfl
    obtain ⟨_,_,_,_,t0⟩:=tm_at P (en.go p (by omega))
    rw [z] at e
    by_cases c:dQ ss g<=cN ss (bj ss p).1 g
    ·exact c
    ·have:0<(dQ ss g-cN ss (bj ss p).1 g)*i9 ss (bj ss p).1:=fG (by grind) t0
     grind
   induction j with
   | zero =>
    have e1:=G.d0 g
    have:=ih 0
    have:(dU ss g:Rat)*fQ ss p (fun k=>Q k 0-D k 0)<=0:=by
     have:=aH this (br sg)
     rwa [Rat.mul_zero] at this
    rw [e1]
    grind
   | succ j jh =>
    have Uy:=ih (j+1)
    by_cases c:0<Q g j
    ·have w:=G.wk g j hg c
     have st:fQ ss p (fun k=>Q k (j+1)-D k (j+1))<=fQ ss p (fun k=>Q k j-D k j)+fQ ss p (dQ ss)*(T (j+1)-T j)-fQ ss p (fun k=>s k j):=by
      have h1:=Ru (ss:=ss) (s:=p) (f:=fun k=>(Q k (j+1)-D k (j+1))+s k j) (g:=fun k=>(Q k j-D k j)+dQ ss k*(T (j+1)-T j)) fun k _ _=>by have:=G.step k j; grind
      rw [ME,ME,Xf] at h1
      grind
     have sp:=JC (ss:=ss) (s:=p) (fun k=>s k j)
     rw [w] at sp
     have gl:kU ss p (fun k=>s k j)*(dU ss g:Rat)<=s g j*kU ss p (fun k=>(dU ss k:Rat)):=by
      have h1:=Sh (ss:=ss) (s:=p) (f:=fun k=>s k j*(dU ss g:Rat)) (g:=fun k=>(dU ss k:Rat)*s g j) fun k hk _=>by have:=G.gp g k j hg hk c; grind
      rw [Ch,Ch] at h1
      grind
     have Vb:=G.step g j
     have dt:=G.mo j
     have F1:=aC Vb (br F0)
     have O1:=aH st (br sg)
     have Tv:dQ ss g*kU ss p (fun k=>(dU ss k:Rat))<=(1-fQ ss p (dQ ss))*(dU ss g:Rat):=by
      rw [<- of]
      exact aC fl (br F0)
     have dl:0<=T (j+1)-T j:=by grind
     have Tw:=aC Tv dl
     exact Y8 O1 jh gl Tw F1 sp
    ·have h1:=G.none c
     have a1:(Q g (j+1)-D g (j+1))*kU ss p (fun k=>(dU ss k:Rat))<=0:=by
      have:=aC h1 (br F0)
      rwa [gK] at this
     have a2:=aH Uy (br sg)
     rw [Rat.mul_zero] at a2
     grind
  have Vf:fQ ss (p+1) (fun k=>Q k j-D k j)=fQ ss p (fun k=>Q k j-D k j)+sS ss.length (fun k=>if 0<(bj ss p).1 k/\¬ 0<(bj ss (p+1)).1 k then Q k j-D k j else 0):=by
   unfold fQ
   rw [<- Co]
   refine cV fun k _=>?_
   by_cases c1:0<(bj ss p).1 k
   ·by_cases c2:0<(bj ss (p+1)).1 k
    ·rw [if_pos c2,if_pos c1,if_neg (by grind)]; grind
    ·rw [if_neg c2,if_pos c1,if_pos ⟨c1,c2⟩]; grind
   ·have c2:¬ 0<(bj ss (p+1)).1 k:=fun z=>c1 (Je P en z (by omega))
    rw [if_neg c2,if_neg c1,if_neg (by grind)]; grind
  have ZG:sS ss.length (fun k=>if 0<(bj ss p).1 k/\¬ 0<(bj ss (p+1)).1 k then Q k j-D k j else 0)*kU ss p (fun k=>(dU ss k:Rat))<=sS ss.length (fun k=>if 0<(bj ss p).1 k/\¬ 0<(bj ss (p+1)).1 k then (dU ss k:Rat) else 0)*(0-fQ ss p (fun k=>Q k j-D k j)):=by
   rw [<- DY,<- DY]
   refine tO fun k hk=>?_
   by_cases c:0<(bj ss p).1 k/\¬ 0<(bj ss (p+1)).1 k
   ·rw [if_pos c,if_pos c]
    have:=one k hk c.1 c.2 j
    grind
   ·rw [if_neg c,if_neg c]; grind
  have TM:sS ss.length (fun k=>if 0<(bj ss p).1 k/\¬ 0<(bj ss (p+1)).1 k then (dU ss k:Rat) else 0)<=kU ss p (fun k=>(dU ss k:Rat)):=tO fun k hk=>by
   by_cases c1:0<(bj ss p).1 k
   ·rw [if_pos c1]
    split
    ·exact aB
    ·exact br (HN P hk)
   ·rw [if_neg c1,if_neg (by grind)]
    exact aB
  have y0:=ih j
  rw [Vf]
  generalize fQ ss p (fun k=>Q k j-D k j)=y at *
  generalize sS ss.length (fun k=>if 0<(bj ss p).1 k/\¬ 0<(bj ss (p+1)).1 k then Q k j-D k j else 0)=g1 at *
  generalize sS ss.length (fun k=>if 0<(bj ss p).1 k/\¬ 0<(bj ss (p+1)).1 k then (dU ss k:Rat) else 0)=g2 at *
  generalize kU ss p (fun k=>(dU ss k:Rat))=F at *
  have h1:g2*(0-y)<=F*(0-y):=aC TM (by grind)
  by_cases c:y+g1<=0
  ·exact c
  ·have:0<(y+g1)*F:=fG (by grind) F0
   grind
end
end Sw
namespace Sw
open L2
def Sv (s:Nat->Nat->Rat) (k:Nat):Nat->Rat
 | 0=>0
 | j+1=>Sv s k j+s k j
theorem sX {f:Nat->Rat} {x:Rat} {j0:Nat}:∀ {j:Nat},j0<=j->f j0<=x->x<f j->∃ l,j0<=l/\l<j/\f l<=x/\x<f (l+1)
 | 0,h,h1,h2=>by
  have:j0 = 0:=by omega
  subst this
  grind
 | j+1,h,h1,h2=>by
  by_cases c:j0=j+1
  ·subst c; grind
  ·by_cases d:x<f j
   ·obtain ⟨l,a,b,e⟩:=sX (j:=j) (by omega) h1 d
    exact ⟨l,a,by omega,e⟩
   ·exact ⟨j,by omega,by omega,by grind,h2⟩
section
variable {ss:List S3} {T:Nat->Rat} {Q D s a:Nat->Nat->Rat} {L:Int} {m:Nat}
theorem iw.DF (G:iw ss T Q D s a) (k:Nat) {j0:Nat}:∀ {j:Nat},j0<=j->Q k j-D k j+(Sv s k j-Sv s k j0)<=Q k j0-D k j0+dQ ss k*(T j-T j0)
 | 0,h=>by
  have:j0 = 0:=by omega
  subst this
  grind
 | j+1,h=>by
  by_cases c:j0=j+1
  ·subst c; grind
  ·have ih:=G.DF k (j:=j) (j0:=j0) (by omega)
   have:=G.step k j
   show Q k (j+1)-D k (j+1)+(Sv s k j+s k j-Sv s k j0)<=_
   grind
theorem iw.work (G:iw ss T Q D s a) {i:Nat} (hi:i<ss.length) {j0:Nat}:∀ {j:Nat},j0<=j->(∀ l,j0<=l->l<j->0<Q i l)->sS ss.length (fun k=>Sv s k j-Sv s k j0)=T j-T j0/\∀ k,k<ss.length->(Sv s k j-Sv s k j0)*(dU ss i:Rat)<=(Sv s i j-Sv s i j0)*(dU ss k:Rat)
 | 0,h,_=>by
  have:j0 = 0:=by omega
  subst this
  refine ⟨?_,fun k _=>by grind⟩
  rw [cV (g:=fun _=>0) fun k _=>by grind,A9]
  grind
 | j+1,h,bz=>by
  by_cases c:j0=j+1
  ·subst c
   refine ⟨?_,fun k _=>by grind⟩
   rw [cV (g:=fun _=>0) fun k _=>by grind,A9]
   grind
  ·obtain ⟨w,g⟩:=G.work hi (j:=j) (j0:=j0) (by omega) fun l a b=>bz l a (by omega)
   have q:=bz j (by omega) (by omega)
   refine ⟨?_,fun k hk=>?_⟩
   ·have:sS ss.length (fun k=>Sv s k (j+1)-Sv s k j0)=sS ss.length (fun k=>(Sv s k j-Sv s k j0)+s k j):=cV fun k _=>by show Sv s k j+s k j-Sv s k j0 = _; grind
    rw [this,Co,w,G.wk i j hi q]
    grind
   ·have a1:=g k hk
    have a2:=G.gp i k j hi hk q
    show (Sv s k j+s k j-Sv s k j0) * _<=(Sv s i j+s i j-Sv s i j0) * _
    grind
theorem iw.pg (G:iw ss T Q D s a) (P:Plan ss L) (en:fD ss m) {i:Nat} (hi:i<ss.length) {j0 j:Nat} (hj:j0<=j) (bz:∀ l,j0<=l->l<j->0<Q i l) {θ:Rat} (θ0:0<=θ) (θ1:θ<=1) (bθ:θ = 0\/0<Q i j) {p:Nat} (hp:p<m) (hf:0<(bj ss p).1 i):eA ss i p+cN ss (bj ss p).1 i*(T j-T j0 + θ * (T (j+1)-T j)-(bj ss p).2)<=Sv s i j-Sv s i j0 + θ * s i j:=by
 obtain ⟨w,g⟩:=G.work hi hj bz
 have si:=HN P hi
 have F0:=Hz P en hp
 have off:=G.off P en (p:=p) (by omega) j0
 generalize et:T j-T j0 + θ * (T (j+1)-T j)=t
 have x1:sS ss.length (fun k=>(Sv s k j-Sv s k j0)+s k j * θ)=t:=by
  rw [Co,DY,w]
  rcases bθ with z | z
  ·rw [z] at et ⊢
   grind
  ·rw [G.wk i j hi z]; grind
 have x2:∀ k,k<ss.length->((Sv s k j-Sv s k j0)+s k j * θ)*(dU ss i:Rat)<=(dU ss k:Rat)*((Sv s i j-Sv s i j0)+s i j * θ):=fun k hk=>by
  have a1:=g k hk
  rcases bθ with z | z
  ·rw [z]; grind
  ·have a2:=aC (G.gp i k j hi hk z) θ0
   grind
 have x3:∀ k,k<ss.length->(Sv s k j-Sv s k j0)+s k j * θ<=(Q k j0-D k j0)+((d8 ss k:Rat)+dQ ss k*t):=fun k hk=>by
  have a1:=G.DF k hj
  have a2:=G.ln k j hk
  have a3:=G.sq k j
  have a4:s k j * θ<=s k j:=by
   have:=aH θ1 (G.sv k j)
   rwa [qo] at this
  have a5:0<=dQ ss k*(θ * (T (j+1)-T j)):=bM (jG P k) (bM θ0 (by have:=G.mo j; grind))
  rw [<- et]
  grind
 have Z5:fQ ss p (fun k=>(Sv s k j-Sv s k j0)+s k j * θ)<=fQ ss p (fun k=>(d8 ss k:Rat)+dQ ss k*t):=by
  have h1:=Ru (ss:=ss) (s:=p) fun k hk _=>x3 k hk
  rw [ME (f:=fun k=>Q k j0-D k j0)] at h1
  grind
 have Z6:kU ss p (fun k=>(Sv s k j-Sv s k j0)+s k j * θ)*(dU ss i:Rat)<=kU ss p (fun k=>(dU ss k:Rat))*((Sv s i j-Sv s i j0)+s i j * θ):=by
  rw [<- Ch,<- Ch]
  exact Sh fun k hk _=>x2 k hk
 have Ve:=JC (ss:=ss) (s:=p) (fun k=>(Sv s k j-Sv s k j0)+s k j * θ)
 rw [x1] at Ve
 have y1:sS ss.length (fun k=>eA ss k p+cN ss (bj ss p).1 k*(t-(bj ss p).2))=t:=by
  rw [Co,DY,Si P en (by omega),Rw P en hp]
  grind
 have OV:=JC (ss:=ss) (s:=p) (fun k=>eA ss k p+cN ss (bj ss p).1 k*(t-(bj ss p).2))
 rw [y1] at OV
 have UY:fQ ss p (fun k=>eA ss k p+cN ss (bj ss p).1 k*(t-(bj ss p).2))=fQ ss p (fun k=>(d8 ss k:Rat)+dQ ss k*t):=PJ fun k _ c=>by
  have h0:(bj ss p).1 k = 0:=by have:=Js P en k (s:=p) (by omega); grind
  have:=Ab (ss:=ss) k p
  rw [h0] at this
  rw [QO c]
  grind
 have Z7:kU ss p (fun k=>eA ss k p+cN ss (bj ss p).1 k*(t-(bj ss p).2))*(dU ss i:Rat)=kU ss p (fun k=>(dU ss k:Rat))*(eA ss i p+cN ss (bj ss p).1 i*(t-(bj ss p).2)):=by
  rw [<- Ch,<- Ch]
  refine Qo fun k hk c=>?_
  obtain ⟨b1,b2⟩:=XZ P en hi hk hp hf c
  grind
 generalize kU ss p (fun k=>(dU ss k:Rat))=F at *
 generalize fQ ss p (fun k=>(d8 ss k:Rat)+dQ ss k*t)=o at *
 generalize fQ ss p (fun k=>(Sv s k j-Sv s k j0)+s k j * θ)=o1 at *
 generalize kU ss p (fun k=>(Sv s k j-Sv s k j0)+s k j * θ)=n1 at *
 generalize kU ss p (fun k=>eA ss k p+cN ss (bj ss p).1 k*(t-(bj ss p).2))=n2 at *
 rw [UY] at OV
 generalize eA ss i p+cN ss (bj ss p).1 i*(t-(bj ss p).2)=A at *
 have e:Sv s i j-Sv s i j0 + θ * s i j=(Sv s i j-Sv s i j0)+s i j * θ:=by grind
 rw [e]
 generalize (Sv s i j-Sv s i j0)+s i j * θ = B at *
 generalize (dU ss i:Rat)=c at *
 have k1:n2<=n1:=by grind
 have k2:=aC k1 (br si)
 by_cases z:A<=B
 ·exact z
 ·have:0<F*(A-B):=fG F0 (by grind)
  grind
theorem iw.CK (G:iw ss T Q D s a) {i:Nat} (hi:i<ss.length) {j0 j:Nat} (hj:j0<=j) (y:Q i j0-D i j0<=0):Q i j+(Sv s i j-Sv s i j0)<=(d8 ss i:Rat)+dQ ss i*(T j-T j0):=by
 have:=G.DF i hj
 have:=G.ln i j hi
 grind
theorem iw.mono (G:iw ss T Q D s a) {j0:Nat}:∀ {j:Nat},j0<=j->T j0<=T j
 | 0,h=>by
  have:j0 = 0:=by omega
  subst this; exact aB
 | j+1,h=>by
  by_cases c:j0=j+1
  ·subst c; exact aB
  ·have:=G.mono (j:=j) (j0:=j0) (by omega)
   have:=G.mo j
   grind
theorem Ry {x y z:Rat} (h1:x<=z) (h2:z<y):∃ θ,0<=θ/\θ < 1/\θ * (y-x)=z-x:=by
 have d:0<y-x:=by grind
 have i1:=ik (y-x) (by grind)
 have ip:0<(y-x)⁻¹:=Rat.inv_pos.mpr d
 have e:(z-x)*(y-x)⁻¹ * (y-x)=z-x:=by rw [uG,o6 _ (y-x),i1,qo]
 refine ⟨(z-x)*(y-x)⁻¹,bM (by grind) (br ip),?_,e⟩
 by_cases c:(z-x)*(y-x)⁻¹ < 1
 ·exact c
 ·have:=aC (show 1<=(z-x)*(y-x)⁻¹ by grind) (br d)
  rw [e] at this
  grind
theorem iw.short (G:iw ss T Q D s a) (P:Plan ss L) (en:fD ss m) {i:Nat} (hi:i<ss.length) {j0 j:Nat} (hj:j0<=j) (bz:∀ l,j0<=l->l<j->0<Q i l) (y:Q i j0-D i j0<=0) {q:Nat} (hq:q<m) (hf:0<(bj ss q).1 i) (hz:(bj ss (q+1)).1 i = 0):T j-T j0<=(bj ss (q+1)).2:=by
 by_cases c:T j-T j0<=(bj ss (q+1)).2
 ·exact c
 exfalso
 have e0:0<=(bj ss (q+1)).2:=by
  have:=vB P en (k:=q+1) (j:=0) (by omega) (by omega)
  exact this
 obtain ⟨l,l0,l1,l2,l3⟩:=sX (f:=fun l=>T l-T j0) hj (show T j0-T j0<=(bj ss (q+1)).2 by grind) (by grind)
 obtain ⟨θ,t0,t1,te⟩:=Ry (x:=T l-T j0) (y:=T (l+1)-T j0) l2 l3
 have ql:=bz l l0 l1
 have pg:=G.pg P en hi l0 (fun u a b=>bz u a (by omega)) t0 (br t1) (.inr ql) hq hf
 have cm:=G.CK hi l0 y
 have et:T l-T j0 + θ * (T (l+1)-T l)=(bj ss (q+1)).2:=by grind
 rw [et] at pg
 have gh:=Ab (ss:=ss) i (q+1)
 rw [hz] at gh
 have gs:eA ss i (q+1)=eA ss i q+cN ss (bj ss q).1 i*((bj ss (q+1)).2-(bj ss q).2):=rfl
 have r1:dQ ss i*(T l-T j0)<=dQ ss i*(bj ss (q+1)).2:=aH l2 (jG P i)
 have a3:θ * s i l<=θ * Q i l:=aH (G.sq i l) t0
 have a4:0<(1 - θ)*Q i l:=fG (by grind) ql
 grind
theorem MO (P:Plan ss L) (en:fD ss m) {i l:Nat}:∀ {q:Nat},l<=q->q<=m->0<(bj ss q).1 i->0<(bj ss l).1 i
 | 0,h,_,f=>by
  have:l = 0:=by omega
  subst this; exact f
 | q+1,h,hm,f=>by
  by_cases c:l=q+1
  ·subst c; exact f
  ·exact MO P en (q:=q) (by omega) (by omega) (Je P en f (by omega))
theorem iw.LD (G:iw ss T Q D s a) (P:Plan ss L) (en:fD ss m) {i:Nat} (hi:i<ss.length) {j0 j:Nat} (hj:j0<=j) (bz:∀ l,j0<=l->l<j->0<Q i l) (y:Q i j0-D i j0<=0) {q:Nat} (hq:q<m) (hf:0<(bj ss q).1 i) (hz:(bj ss (q+1)).1 i = 0):∃ p,p<=m/\Q i j<=(bj ss p).1 i:=by
 have sh:=G.short P en hi hj bz y hq hf hz
 have tm:=G.mono hj
 have cm:=G.CK hi hj y
 have yk:∀ p,p<m->0<(bj ss p).1 i->Q i j<=(bj ss p).1 i-(cN ss (bj ss p).1 i-dQ ss i)*(T j-T j0-(bj ss p).2):=fun p hp h=>by
  have pg:=G.pg P en hi hj bz (θ:=0) aB (by decide) (.inl rfl) hp h
  have gh:=Ab (ss:=ss) i p
  have e1:T j-T j0+0*(T (j+1)-T j)=T j-T j0:=by grind
  rw [e1] at pg
  grind
 have nx:∀ p,(bj ss (p+1)).1 i=(bj ss p).1 i-(cN ss (bj ss p).1 i-dQ ss i)*((bj ss (p+1)).2-(bj ss p).2):=fun p=>by
  show (bj ss p).1 i-(cN ss (bj ss p).1 i-dQ ss i)*i9 ss (bj ss p).1 = _
  rw [BK]; grind
 by_cases c:T j-T j0<(bj ss (q+1)).2
 ·obtain ⟨l,_,l1,l2,l3⟩:=sX (f:=fun l=>(bj ss l).2) (j0:=0) (j:=q+1) (bR _) (show (0:Rat)<=T j-T j0 by grind) c
  have k:=yk l (by omega) (MO P en (by omega) (by omega) hf)
  have n:=nx l
  by_cases d:dQ ss i<=cN ss (bj ss l).1 i
  ·have:=bM (show 0<=cN ss (bj ss l).1 i-dQ ss i by grind) (show 0<=T j-T j0-(bj ss l).2 by grind)
   exact ⟨l,by omega,by grind⟩
  ·have:=bM (show 0<=dQ ss i-cN ss (bj ss l).1 i by grind) (show 0<=(bj ss (l+1)).2-(T j-T j0) by grind)
   exact ⟨l+1,by omega,by grind⟩
 ·have e:T j-T j0=(bj ss (q+1)).2:=by grind
  have k:=yk q hq hf
  rw [e,<- nx q] at k
  exact ⟨q+1,by omega,k⟩
theorem WG (P:Plan ss L) (en:fD ss m) {i:Nat} (hi:i<ss.length) {l:Nat} (hl:l<m) {X:Rat} (h1:(bj ss l).2<=X) (h2:X<(bj ss (l+1)).2) (h3:jv ss m i<=X):(d8 ss i:Rat)+dQ ss i*(X-jv ss m i)<=eA ss i l+cN ss (bj ss l).1 i*(X-(bj ss l).2):=by
 obtain ⟨_,_,_,_,_,w0,_⟩:=MM P en hi
 have rp:=Mu P en hi (x:=((bj ss (l+1)).2,eA ss i (l+1))) (pC.mpr ⟨l,hl,.inr ⟨by grind,rfl⟩⟩)
 have gs:eA ss i (l+1)=eA ss i l+cN ss (bj ss l).1 i*((bj ss (l+1)).2-(bj ss l).2):=rfl
 have rp:(d8 ss i:Rat)+dQ ss i*((bj ss (l+1)).2-jv ss m i)<=eA ss i (l+1):=rp
 have lp:∃ x,x<=X/\(d8 ss i:Rat)+dQ ss i*(x-jv ss m i)<=eA ss i l+cN ss (bj ss l).1 i*(x-(bj ss l).2):=by
  by_cases c:jv ss m i<=(bj ss l).2
  ·refine ⟨(bj ss l).2,h1,?_⟩
   cases l with
   | zero =>
    have:(bj ss 0).2 = 0:=rfl
    grind
   | succ k =>
    have:=Mu P en hi (x:=((bj ss (k+1)).2,eA ss i (k+1))) (pC.mpr ⟨k,by omega,.inr ⟨c,rfl⟩⟩)
    have this:(d8 ss i:Rat)+dQ ss i*((bj ss (k+1)).2-jv ss m i)<=eA ss i (k+1):=this
    grind
  ·refine ⟨jv ss m i,h3,?_⟩
   have:=Mu P en hi (x:=(jv ss m i,eA ss i l+cN ss (bj ss l).1 i*(jv ss m i-(bj ss l).2))) (pC.mpr ⟨l,hl,.inl ⟨by grind,by grind,rfl⟩⟩)
   exact this
 obtain ⟨x,xl,lp⟩:=lp
 by_cases d:dQ ss i<=cN ss (bj ss l).1 i
 ·have:=bM (show 0<=cN ss (bj ss l).1 i-dQ ss i by grind) (show 0<=X-x by grind)
  grind
 ·have:=bM (show 0<=dQ ss i-cN ss (bj ss l).1 i by grind) (show 0<=(bj ss (l+1)).2-X by grind)
  grind
theorem iw.vL (G:iw ss T Q D s a) (k:Nat) {l:Nat}:∀ {j:Nat},l<=j->Sv s k l<=Sv s k j
 | 0,h=>by
  have:l = 0:=by omega
  subst this; exact aB
 | j+1,h=>by
  by_cases c:l=j+1
  ·subst c; exact aB
  ·have:=G.vL k (l:=l) (j:=j) (by omega)
   have:=G.sv k j
   show Sv s k l<=Sv s k j+s k j
   grind
theorem iw.wait (G:iw ss T Q D s a) (P:Plan ss L) (en:fD ss m) {i:Nat} (hi:i<ss.length) {j0 ja je:Nat} (h0:j0<=ja) (h1:ja<=je) (bz:∀ l,j0<=l->l<je->0<Q i l) (y:Q i j0-D i j0<=0) {q:Nat} (hq:q<m) (hf:0<(bj ss q).1 i) (hz:(bj ss (q+1)).1 i = 0) (U0:Sv s i je-Sv s i j0<=(d8 ss i:Rat)+dQ ss i*(T ja-T j0)):T je-T ja<=jv ss m i:=by
 by_cases c:T je-T ja<=jv ss m i
 ·exact c
 exfalso
 obtain ⟨_,_,_,_,_,w0,_⟩:=MM P en hi
 have sh:=G.short P en hi (by omega) bz y hq hf hz
 have ta:=G.mono h0
 obtain ⟨l,l0,l1,l2,l3⟩:=sX (f:=fun l=>T l-T j0) (j0:=j0) (j:=je) (x:=T ja-T j0+jv ss m i) (by omega) (by grind) (by grind)
 obtain ⟨θ,t0,t1,te⟩:=Ry (x:=T l-T j0) (y:=T (l+1)-T j0) l2 l3
 have ql:=bz l l0 l1
 obtain ⟨p,_,p1,p2,p3⟩:=sX (f:=fun l=>(bj ss l).2) (j0:=0) (j:=q+1) (x:=T ja-T j0+jv ss m i) (bR _) (show (0:Rat)<=_ by grind) (by grind)
 have pg:=G.pg P en hi l0 (fun u a b=>bz u a (by omega)) t0 (br t1) (.inr ql) (p:=p) (by omega) (MO P en (by omega) (by omega) hf)
 have et:T l-T j0 + θ * (T (l+1)-T l)=T ja-T j0+jv ss m i:=by grind
 rw [et] at pg
 have pw:=WG P en hi (by omega) p2 p3 (by grind)
 have sm:=G.vL i (l:=l+1) (j:=je) (by omega)
 have sm:Sv s i l+s i l<=Sv s i je:=sm
 have sp:0<s i l:=by
  by_cases z:0<s i l
  ·exact z
  ·exfalso
   have s0:s i l = 0:=by have:=G.sv i l; grind
   have w:=G.wk i l hi ql
   have si:=HN P hi
   have:sS ss.length (fun k=>s k l)=sS ss.length (fun _=>0):=cV fun k hk=>by
    have g:=G.gp i k l hi hk ql
    rw [s0,gK] at g
    have v:=G.sv k l
    by_cases u:0<s k l
    ·have:=fG u si
     grind
    ·grind
   rw [this,A9] at w
   grind
 have:0<(1 - θ)*s i l:=fG (by grind) sp
 grind
end
end Sw
namespace Sw
open L2
section
variable (fs:List F4) (w:Nat->Int)
def gW (i:Nat):Rat:=((fs[i]?).map fun f=>(f.1:Rat)).getD 0
def oS (k:Nat) (f:Nat->Rat):Rat:=sS fs.length fun i=>if w i=(k:Int) then f i else 0
def sG (k j:Nat):Rat:=oS fs w k fun i=>cF fs i j
def iB (i j:Nat):Rat:=if gW fs i<=(aI fs j).1 then rB fs i else 0
def kC (k j:Nat):Rat:=oS fs w k fun i=>iB fs i j
def qG (k j:Nat):Rat:=kC fs w k j-Sv (sG fs w) k j
def aG (k:Nat):Nat->Rat
 | 0=>kC fs w k 0
 | j+1=>kC fs w k (j+1)-kC fs w k j
def dG (r:Nat->Rat) (k:Nat):Nat->Rat
 | 0=>kC fs w k 0
 | j+1=>max 0 (dG r k j-r k*((aI fs (j+1)).1-(aI fs j).1))+aG fs w k (j+1)
end
section
variable {fs:List F4} {w:Nat->Int}
theorem mH {k:Nat} {f g:Nat->Rat} (h:∀ i,i<fs.length->w i=(k:Int)->f i<=g i):oS fs w k f<=oS fs w k g:=tO fun i hi=>by
 split
 ·rename_i c; exact h i hi c
 ·exact aB
theorem JD {k:Nat} (f g:Nat->Rat):oS fs w k (fun i=>f i+g i)=oS fs w k f+oS fs w k g:=by
 unfold oS
 rw [<- Co]
 refine cV fun i _=>?_
 split <;> grind
theorem rH {k:Nat}:oS fs w k (fun _=>0) = 0:=by
 unfold oS
 rw [cV (g:=fun _=>0) fun i _=>by split <;> rfl,A9]
theorem pK (k:Nat):∀ j,Sv (sG fs w) k j=oS fs w k fun i=>aF fs i j
 | 0=>rH.symm
 | j+1=>by
  show Sv (sG fs w) k j+sG fs w k j = _
  rw [pK k j]
  unfold sG
  rw [<- JD]
  unfold oS
  refine cV fun i _=>?_
  show (if w i=(k:Int) then aF fs i j+cF fs i j else 0)=if w i=(k:Int) then aF fs i (j+1) else 0
  rw [Jo]
theorem i4 {i:Nat} {f:F4} (hf:fs[i]? = some f):gW fs i=(f.1:Rat):=by unfold gW; rw [hf]; rfl
theorem ym {i:Nat} {f:F4} (hf:fs[i]? = some f):rB fs i=(shr fs i:Rat)*(f.2.2.1-f.2.1):=by
 unfold rB
 rw [lO hf,hf]; rfl
theorem Run.got (R:Run fs w) {i:Nat} {f:F4} (hf:fs[i]? = some f) (j:Nat):0<=aF fs i j/\aF fs i j<=rB fs i/\(aF fs i j=rB fs i↔f.2.2.1<=(aI fs j).2)/\(¬ gW fs i<=(aI fs j).1->aF fs i (j+1) = 0)/\0<rB fs i:=by
 obtain ⟨k1,k2,Lv⟩:=R.live i f hf
 have sp:=R.Ds hf
 have bt:=R.bt i f hf
 have l0:0<rB fs i:=by rw [ym hf]; exact fG sp (by grind)
 have A:=R.xN hf Lv
 have en:=Lv.en
 have h1:=(Lv.hd k1).mpr ⟨av _,Lv.lt⟩
 have wq:(aI fs k1).2=f.2.1:=(R.wq hf Lv).1
 have pa:=Lv.pa j
 have main:0<=aF fs i j/\aF fs i j<=rB fs i/\(aF fs i j=rB fs i↔f.2.2.1<=(aI fs j).2):=by
  rw [pa]
  rcases dW j k2 with c | c
  ·by_cases d:j<=k1
   ·rw [(A j).1 d]
    refine ⟨aB,br l0,⟨fun z=>by grind,fun z=>by omega⟩⟩
   ·have e:=(A j).2.1 (by omega) (by omega)
    have m1:=(qg R.s1 (show k1<=j by omega)).2
    have m2:(aI fs j).2<f.2.2.1:=by
     by_cases z:f.2.2.1<=(aI fs j).2
     ·have:=(Lv.pa j).mp z; omega
     ·grind
    have a1:=bM (br sp) (show 0<=(aI fs j).2-f.2.1 by grind)
    have a2:=fG sp (show 0<f.2.2.1-(aI fs j).2 by grind)
    have ln:=ym hf
    rw [e]
    refine ⟨a1,by grind,⟨fun z=>by grind,fun z=>by omega⟩⟩
  ·rw [(A j).2.2 c,<- ym hf]
   exact ⟨br l0,aB,⟨fun _=>c,fun _=>rfl⟩⟩
 refine ⟨main.1,main.2.1,main.2.2,fun z=>?_,l0⟩
 refine (A (j+1)).1 ?_
 rcases dW j k1 with c | c
 ·exact c
 ·exfalso
  obtain ⟨g,hg,g1,_⟩:=h1
  rw [hf] at hg
  cases hg
  have:=(qg R.s1 c).1
  rw [i4 hf] at z
  grind
theorem xC {i:Nat} (hi:i<fs.length):∃ f,fs[i]? = some f:=⟨_,au hi⟩
theorem QS (R:Run fs w) {i:Nat} (hi:i<fs.length) (j:Nat):iB fs i j<=iB fs i (j+1):=by
 obtain ⟨f,hf⟩:=xC hi
 have l0:=(R.got hf j).2.2.2.2
 have:=(DU R.s1 j).1
 unfold iB
 split
 ·rw [if_pos (by grind)]; exact aB
 ·split
  ·exact br l0
  ·exact aB
theorem Run.vy (R:Run fs w) {i:Nat} (hi:i<fs.length) (j:Nat):aF fs i (j+1)<=iB fs i j:=by
 obtain ⟨f,hf⟩:=xC hi
 have g:=R.got hf (j+1)
 have g':=R.got hf j
 unfold iB
 split
 ·exact g.2.1
 ·rename_i c
  rw [g'.2.2.2.1 c]; exact aB
theorem Run.tD (R:Run fs w) {i:Nat} (hi:i<fs.length):∀ j,aF fs i j<=iB fs i j
 | 0=>by
  obtain ⟨f,hf⟩:=xC hi
  have l0:=(R.got hf 0).2.2.2.2
  have e:aF fs i 0 = 0:=rfl
  rw [e]
  unfold iB
  split
  ·exact br l0
  ·exact aB
 | j+1=>by
  have a:=R.vy hi j
  have b:=QS R hi j
  grind
theorem Run.qq (R:Run fs w) {k j:Nat} (h:0<qG fs w k j):∃ q,iV fs q (aI fs j)/\w q=(k:Int):=by
 have:∃ i,i<fs.length/\w i=(k:Int)/\aF fs i j<iB fs i j:=by
  apply Classical.byContradiction
  intro z
  have:kC fs w k j<=Sv (sG fs w) k j:=by
   rw [pK]
   refine mH fun i hi hw=>?_
   by_cases c:aF fs i j<iB fs i j
   ·exact absurd ⟨i,hi,hw,c⟩ z
   ·grind
  unfold qG at h
  grind
 obtain ⟨i,hi,hw,lt⟩:=this
 obtain ⟨f,hf⟩:=xC hi
 obtain ⟨g0,g1,g2,_,_⟩:=R.got hf j
 unfold iB at lt
 split at lt
 ·rename_i c
  rw [i4 hf] at c
  have:(aI fs j).2<f.2.2.1:=by
   by_cases z:f.2.2.1<=(aI fs j).2
   ·have:=g2.mpr z; grind
   ·grind
  obtain ⟨q,hq,e⟩:=R.head hf c this
  exact ⟨q,hq,e.trans hw⟩
 ·grind
theorem Rz (R:Run fs w) {q j k:Nat} (hq:iV fs q (aI fs j)) (hw:w q=(k:Int)):sG fs w k j=(shr fs q:Rat)*((aI fs (j+1)).2-(aI fs j).2):=by
 have ql:q<fs.length:=by
  obtain ⟨f,hf,_⟩:=hq
  exact (aa.mp hf).1
 have:sG fs w k j=sS fs.length fun i=>if q=i then (shr fs q:Rat)*((aI fs (j+1)).2-(aI fs j).2) else 0:=by
  unfold sG oS
  refine cV fun i hi=>?_
  by_cases e:q=i
  ·subst e
   rw [if_pos hw,if_pos rfl]
   show cF fs q j = _
   unfold cF
   rw [if_pos (gH.mp hq)]
  ·rw [if_neg e]
   split
   ·rename_i c
    show cF fs i j = 0
    unfold cF
    rw [if_neg]
    intro z
    have NV:=gH.mpr z
    have o1:=R.one hq NV (hw.trans c.symm)
    have o2:=R.one NV hq (c.trans hw.symm)
    omega
   ·rfl
 rw [this]
 exact Jp pP (bS.mpr ql)
theorem X0 {j k:Nat} (h:¬ ∃ q,iV fs q (aI fs j)/\w q=(k:Int)):sG fs w k j = 0:=by
 unfold sG oS
 rw [cV (g:=fun _=>0) fun i _=>?_,A9]
 split
 ·rename_i c
  show cF fs i j = 0
  unfold cF
  rw [if_neg]
  intro z
  exact h ⟨i,gH.mpr z,c⟩
 ·rfl
theorem Y9 {n:Nat} (hv:∀ i,i<fs.length->∃ k,k<n/\w i=(k:Int)) (f:Nat->Rat):sS n (fun k=>oS fs w k f)=sS fs.length f:=by
 unfold oS sS
 rw [Rr]
 refine vc fun i hi=>?_
 obtain ⟨k,hk,e⟩:=hv i (bS.mp hi)
 have:(aD n).map (fun x=>if w i=((x:Nat):Int) then f i else 0)=(aD n).map fun x=>if k=x then f i else 0:=jc fun x _=>by
  rw [e]
  by_cases c:k=x
  ·rw [if_pos c,if_pos (by rw [c])]
  ·rw [if_neg c,if_neg (by omega)]
 rw [this]
 exact Jp pP (bS.mpr hk)
theorem Xg (p:Nat->Bool) (g:Nat->Rat) (l:List Nat):tq ((l.filter p).map g)=tq (l.map fun i=>if i∈l.filter p then g i else 0):=by
 rw [DI]
 refine vc fun i hi=>?_
 by_cases c:p i=true
 ·rw [if_pos c,if_pos (cQ.mpr ⟨hi,c⟩)]
 ·rw [if_neg c,if_neg fun z=>c (cQ.mp z).2]
theorem Run.xP (R:Run fs w) {j:Nat} (ne:cU fs (aI fs j).1 (aI fs j).2≠[]):sS fs.length (fun i=>cF fs i j)=(aI fs (j+1)).1-(aI fs j).1:=by
 have S:=R.EB ne
 have e1:tq ((cU fs (aI fs j).1 (aI fs j).2).map fun i=>(shr fs i:Rat)*((aI fs (j+1)).2-(aI fs j).2))=sS fs.length (fun i=>cF fs i j):=by
  unfold cF sS cU
  exact Xg _ _ _
 rw [<- e1,JB,Jq]
 have sp:=DM R.s1 ne
 have s0:(0:Rat)<(fZ fs (cU fs (aI fs j).1 (aI fs j).2):Rat):=bJ (by omega)
 have ma:=S.ma
 unfold fZ at ma s0
 generalize ((((cU fs (aI fs j).1 (aI fs j).2).map (shr fs)).sum:Int):Rat)=F at ma s0 ⊢
 have i1:=ik F (by grind)
 rw [ma,Rat.div_def]
 grind
end
end Sw
namespace Sw
open L2
section
variable {fs:List F4} {w:Nat->Int} {ss:List S3} {L:Int} {m:Nat}
theorem M3 (x y:Rat):x<=max x y/\y<=max x y:=by
 rw [b6]
 split <;> grind
theorem Fc (R:Run fs w) (k j:Nat):0<=aG fs w k (j+1):=by
 have:kC fs w k j<=kC fs w k (j+1):=mH fun i hi _=>QS R hi j
 show 0<=kC fs w k (j+1)-kC fs w k j
 grind
theorem Za (R:Run fs w) (k j:Nat):0<=kC fs w k j:=by
 rw [<- rH (fs:=fs) (w:=w) (k:=k)]
 refine mH fun i hi _=>?_
 obtain ⟨f,hf⟩:=xC hi
 have l0:=(R.got hf j).2.2.2.2
 show 0<=iB fs i j
 unfold iB
 split
 ·exact br l0
 ·exact aB
theorem Run.gr (R:Run fs w) (P:Plan ss L) (hv:∀ i,i<fs.length->∃ k,k<ss.length/\w i=(k:Int)) (hs:∀ i k,i<fs.length->w i=((k:Nat):Int)->shr fs i=dU ss k) (ln:∀ k j,k<ss.length->dG fs w (dQ ss) k j<=(d8 ss k:Rat)):iw ss (fun j=>(aI fs j).1) (qG fs w) (dG fs w (dQ ss)) (sG fs w) (aG fs w):=by
 have hl:∀ {q j},iV fs q (aI fs j)->q<fs.length:=fun {q j} h=>by
  obtain ⟨f,hf,_⟩:=h
  exact (aa.mp hf).1
 refine ⟨fun j=>(DU R.s1 j).1,fun k j=>?_,fun k=>?_,fun k j=>?_,fun k j=>?_,fun k j=>?_,fun k j=>?_,fun k j=>?_,fun k j=>?_,fun i j hi q=>?_,fun i k j hi hk q=>?_,ln⟩
 ·have:Sv (sG fs w) k j<=kC fs w k j:=by
   rw [pK]
   exact mH fun i hi _=>R.tD hi j
  unfold qG
  grind
 ·show kC fs w k 0-0=kC fs w k 0
  grind
 ·cases j with
  | zero=>exact Za R k 0
  | succ j =>
   have:=Fc R k j
   have:=(M3 0 (dG fs w (dQ ss) k j-dQ ss k*((aI fs (j+1)).1-(aI fs j).1))).1
   show 0<=max 0 _ + aG fs w k (j+1)
   grind
 ·rw [<- rH (fs:=fs) (w:=w) (k:=k)]
  refine mH fun i _ _=>?_
  have:=R.xS (t:=0) (i:=i) (k:=j)
  show 0<=cF fs i j
  grind
 ·have:Sv (sG fs w) k (j+1)<=kC fs w k j:=by
   rw [pK]
   exact mH fun i hi _=>R.vy hi j
  have this:Sv (sG fs w) k j+sG fs w k j<=kC fs w k j:=this
  unfold qG
  grind
 ·show kC fs w k (j+1)-(Sv (sG fs w) k j+sG fs w k j)=kC fs w k j-Sv (sG fs w) k j-sG fs w k j+(kC fs w k (j+1)-kC fs w k j)
  grind
 ·have:=(M3 0 (dG fs w (dQ ss) k j-dQ ss k*((aI fs (j+1)).1-(aI fs j).1))).2
  show _<=max 0 _ + aG fs w k (j+1)
  grind
 ·have:=(M3 0 (dG fs w (dQ ss) k j-dQ ss k*((aI fs (j+1)).1-(aI fs j).1))).1
  show _<=max 0 _ + aG fs w k (j+1)
  grind
 ·obtain ⟨p,hp,_⟩:=R.qq q
  rw [<- R.xP (fun z=>by have:=gH.mp hp; rw [z] at this; cases this)]
  exact Y9 hv _
 ·obtain ⟨p,hp,e⟩:=R.qq q
  have mu:=(DU R.s1 j).2
  have s1:=Rz R hp e
  rw [hs p i (hl hp) e] at s1
  have si:0<=(dU ss i:Rat)*((aI fs (j+1)).2-(aI fs j).2):=by
   rw [<- hs p i (hl hp) e]
   obtain ⟨f,hf⟩:=xC (hl hp)
   exact bM (br (R.Ds hf)) (by grind)
  by_cases c:∃ q,iV fs q (aI fs j)/\w q=(k:Int)
  ·obtain ⟨r,hr,e2⟩:=c
   have s2:=Rz R hr e2
   rw [hs r k (hl hr) e2] at s2
   rw [s1,s2]
   grind
  ·rw [X0 c,s1,gK]
   exact bM si (br (HN P hk))
theorem iw.start {T:Nat->Rat} {Q D s a:Nat->Nat->Rat} (G:iw ss T Q D s a) (i:Nat):∀ jb,∃ j0,j0<=jb/\(∀ l,j0<=l->l<jb->0<Q i l)/\Q i j0-D i j0<=0
 | 0=>⟨0,av _,fun l _ h=>by omega,by have:=G.d0 i; grind⟩
 | jb+1=>by
  by_cases c:0<Q i jb
  ·obtain ⟨j0,h1,h2,h3⟩:=G.start i jb
   refine ⟨j0,by omega,fun l a b=>?_,h3⟩
   by_cases d:l=jb
   ·rw [d]; exact c
   ·exact h2 l a (by omega)
  ·exact ⟨jb+1,av _,fun l a b=>by omega,G.none c⟩
theorem RA (P:Plan ss L) (en:fD ss m) {i:Nat} (hi:i<ss.length):∃ q,q<m/\0<(bj ss q).1 i/\(bj ss (q+1)).1 i = 0:=by
 have h0:0<(bj ss 0).1 i:=by
  show (0:Rat)<(d8 ss i:Rat)
  obtain ⟨x,hx,_,e,_⟩:=fX hi
  rw [e]
  exact bJ (by have:=(P.b1 x hx).1; omega)
 have hm:=QL en P hi
 have:∀ k,k<=m->¬ 0<(bj ss k).1 i->∃ q,q<k/\0<(bj ss q).1 i/\¬ 0<(bj ss (q+1)).1 i:=fun k=>by
  induction k with
  | zero=>intro _ z; exact absurd h0 z
  | succ k ih =>
   intro hk z
   by_cases c:0<(bj ss k).1 i
   ·exact ⟨k,by omega,c,z⟩
   ·obtain ⟨q,a,b⟩:=ih (by omega) c
    exact ⟨q,by omega,b⟩
 obtain ⟨q,a,b,c⟩:=this m (av _) (by rw [hm]; grind)
 refine ⟨q,a,b,?_⟩
 have:=Js P en i (s:=q+1) (by omega)
 grind
structure Kept (fs:List F4) (w:Nat->Int) (ss:List S3):Prop where
 hv:∀ i,i<fs.length->∃ k,k<ss.length/\w i=(k:Int)
 hs:∀ i k,i<fs.length->w i=((k:Nat):Int)->shr fs i=dU ss k
 ln:∀ k j,k<ss.length->dG fs w (dQ ss) k j<=(d8 ss k:Rat)
theorem Run.Ld (R:Run fs w) {p j:Nat} {f:F4} (hf:fs[p]? = some f) {i:Nat} (hw:w p=(i:Int)) (h1:(f.1:Rat)<=(aI fs j).1) (h2:¬ f.2.2.1<=(aI fs j).2):0<qG fs w i j:=by
 have pl:=(aa.mp hf).1
 obtain ⟨g0,g1,g2,_,l0⟩:=R.got hf j
 have lt:aF fs p j<iB fs p j:=by
  unfold iB
  rw [if_pos (by rw [i4 hf]; exact h1)]
  by_cases z:aF fs p j=rB fs p
  ·exact absurd (g2.mp z) h2
  ·grind
 have:Sv (sG fs w) i j+(iB fs p j-aF fs p j)<=kC fs w i j:=by
  rw [pK]
  have:oS fs w i (fun x=>aF fs x j+(if p=x then iB fs p j-aF fs p j else 0))<=kC fs w i j:=mH fun x hx _=>by
   by_cases c:p=x
   ·subst c
    rw [if_pos rfl]; grind
   ·rw [if_neg c]
    have:=R.tD hx j
    grind
  rw [JD] at this
  have e:oS fs w i (fun x=>if p=x then iB fs p j-aF fs p j else 0)=iB fs p j-aF fs p j:=by
   unfold oS
   rw [cV (g:=fun x=>if p=x then iB fs p j-aF fs p j else 0) fun x _=>by
    by_cases c:p=x
    ·subst c; rw [if_pos hw]
    ·simp [c]]
   exact Jp pP (bS.mpr pl)
  grind
 unfold qG
 grind
theorem Run.y9 (R:Run fs w) (K:Kept fs w ss) (P:Plan ss L) (en:fD ss m) {p:Nat} {f:F4} (hf:fs[p]? = some f) {k1 k2:Nat} (Lv:kh fs p f k1 k2) {i:Nat} (hi:i<ss.length) (hw:w p=(i:Int)):(aI fs k2).1-(f.1:Rat)<=jv ss m i:=by
 have G:=R.gr P K.hv K.hs K.ln
 obtain ⟨ja,ha,hb,_⟩:=R.cm p f hf
 obtain ⟨q,hq,q1,q2⟩:=RA P en hi
 have pl:=(aa.mp hf).1
 have aj:ja<=k2:=by
  rcases dW k2 ja with c | c
  ·have m1:=(qg R.s1 (oX c)).2
   have:=Lv.en
   have:=R.bt p f hf
   grind
  ·exact c
 obtain ⟨j0,h0,bz,y⟩:=G.start i ja
 have S7:∀ l,j0<=l->l<k2->0<qG fs w i l:=fun l a b=>by
  rcases dW l ja with c | c
  ·exact bz l a c
  ·refine R.Ld hf hw ?_ fun z=>?_
   ·have:=(qg R.s1 c).1
    grind
   ·have:=(Lv.pa l).mp z
    omega
 have U0:Sv (sG fs w) i k2<=kC fs w i ja:=by
  rw [pK]
  refine mH fun x hx yf=>?_
  obtain ⟨g,hg⟩:=xC hx
  obtain ⟨g0,g1,_,_,l0⟩:=R.got hg k2
  rcases dW p x with c | c
  ·
   obtain ⟨l1,l2,Lx⟩:=R.live x g hg
   have:k2<=l1:=by
    rcases dW l1 k2 with d | d
    ·exfalso
     have pr:=R.pr x p g f c (by rw [hw,yf]) hg hf
     obtain ⟨g',se,_,b1,_⟩:=(Lx.hd l1).mpr ⟨av _,Lx.lt⟩
     rw [hg] at se
     cases se
     have:=(Lv.pa l1).mp (by grind)
     omega
    ·exact d
   rw [(R.xN hg Lx k2).1 this]
   show 0<=iB fs x ja
   unfold iB
   split
   ·exact br l0
   ·exact aB
  ·have cx:gW fs x<=(aI fs ja).1:=by
    rw [i4 hg,ha]
    by_cases e:x=p
    ·subst e
     rw [hf] at hg
     cases hg
     exact aB
    ·exact ak.mpr (R.so p x f g (by omega) hf hg)
   show aF fs x k2<=iB fs x ja
   unfold iB
   rw [if_pos cx]
   exact g1
 have cm:=G.CK hi h0 y
 have:=G.wait P en hi h0 aj S7 y hq q1 q2 (by unfold qG at cm; grind)
 rw [<- ha]
 exact this
theorem Run.yv (R:Run fs w) (K:Kept fs w ss) (P:Plan ss L) (en:fD ss m) {i:Nat} (hi:i<ss.length) (j:Nat):∃ p,p<=m/\qG fs w i j<=(bj ss p).1 i:=by
 have G:=R.gr P K.hv K.hs K.ln
 obtain ⟨q,hq,q1,q2⟩:=RA P en hi
 obtain ⟨j0,h0,bz,y⟩:=G.start i j
 exact G.LD P en hi h0 bz y hq q1 q2
theorem Run.FD (R:Run fs w) (i j:Nat):∀ {N:Nat},j<=N->gT fs w (i:Int) (aI fs j).1 N=Sv (sG fs w) i j:=fun {N} h=>by
 rw [pK]
 unfold gT oS sS
 refine vc fun x _=>?_
 have:∀ N,j<=N->aT fs (aI fs j).1 x N=aF fs x j:=fun N=>by
  have low:∀ M,M<=j->aT fs (aI fs j).1 x M=aF fs x M:=fun M=>by
   induction M with
   | zero=>intro _; rfl
   | succ M ih =>
    intro hM
    rw [HD,Jo,ih (by omega)]
    congr 1
    have mo:=(qg R.s1 hM).1
    by_cases c:x∈cU fs (aI fs M).1 (aI fs M).2
    ·rw [R.xR c]
     have S:=R.EB (k:=M) (fun z=>by rw [z] at c; cases c)
     unfold cT
     rw [if_pos ⟨c,by have:=S.lt; grind⟩]
     have:min (aI fs (M+1)).1 (aI fs j).1=(aI fs (M+1)).1:=by
      rw [dO]
      split <;> grind
     rw [this]
    ·unfold cT cF
     rw [if_neg (fun z=>c z.1),if_neg c]
  induction N with
  | zero =>
   intro h
   have:j = 0:=by omega
   subst this
   rfl
  | succ N ih =>
   intro hN
   by_cases e:j=N+1
   ·subst e; exact low _ (av _)
   ·rw [HD,ih (by omega)]
    have mo:=(qg R.s1 (show j<=N by omega)).1
    have:cT fs (aI fs j).1 x N = 0:=by
     unfold cT
     rw [if_neg]
     intro z
     grind
    rw [this]; grind
 rw [this N h]
end
end Sw
namespace Sw
open L2
section
variable {fs:List F4} {w:Nat->Int} {ss:List S3}
theorem WH (R:Run fs w) {i j:Nat} (hi:i<fs.length) (h1:¬ gW fs i<=(aI fs j).1) (h2:gW fs i<=(aI fs (j+1)).1):gW fs i=(aI fs (j+1)).1:=by
 obtain ⟨f,hf⟩:=xC hi
 rw [i4 hf] at h1 h2 ⊢
 have mem:(f.1:Rat)∈sV fs (aI fs j).1:=ji.mpr ⟨f,aq hf,by grind,rfl⟩
 have ca:(f.1:Rat)∈fH fs (aI fs j).1 (aI fs j).2:=aY.mpr (.inl mem)
 have e:(aI fs (j+1)).1=dY (fH fs (aI fs j).1 (aI fs j).2):=by
  show (nH fs (aI fs j)).1 = _
  unfold nH
  have ne:fH fs (aI fs j).1 (aI fs j).2≠[]:=fun z=>by rw [z] at ca; cases ca
  rw [if_neg ne]
  split <;> rfl
 have:=DN ca
 grind
theorem RB {P:Nat->Prop} {i0:Nat} (h:P i0):∀ n,i0<n->∃ p,i0<=p/\p<n/\P p/\∀ x,p<x->x<n->¬ P x
 | 0,l=>by omega
 | n+1,l=>by
  by_cases c:P n
  ·exact ⟨n,by omega,by omega,c,fun x a b=>by omega⟩
  ·have:i0≠n:=fun z=>c (z ▸ h)
   obtain ⟨p,a,b,d,e⟩:=RB h n (by omega)
   refine ⟨p,a,by omega,d,fun x u v=>?_⟩
   by_cases z:x=n
   ·rw [z]; exact c
   ·exact e x u (by omega)
def A2 (fs:List F4) (w:Nat->Int) (k i0 j:Nat):Rat:=oS fs w k fun i=>if i0<=i then iB fs i j else 0
theorem X3 (R:Run fs w) (r:Nat->Rat) (k:Nat) (r0:0<=r k):∀ j,dG fs w r k j = 0\/∃ i0,i0<fs.length/\w i0=(k:Int)/\gW fs i0<=(aI fs j).1/\dG fs w r k j=A2 fs w k i0 j-r k*((aI fs j).1-gW fs i0):=by
 have BO:∀ j i x,i<fs.length->x<fs.length->gW fs i<=(aI fs j).1->¬ gW fs x<=(aI fs j).1->i<x:=fun j i x hi hx h1 h2=>by
  obtain ⟨f,hf⟩:=xC hi
  obtain ⟨g,hg⟩:=xC hx
  rcases dW i x with c | c
  ·exact c
  ·exfalso
   rw [i4 hf] at h1
   rw [i4 hg] at h2
   by_cases e:i=x
   ·subst e
    rw [hf] at hg
    cases hg
    exact h2 h1
   ·have:=ak.mpr (R.so i x f g (by omega) hf hg)
    grind
 have first:∀ (P:Nat->Prop),(∃ i,i<fs.length/\P i)->∃ i,i<fs.length/\P i/\∀ x,x<i->¬ P x:=fun P ⟨i,hi,h⟩=>by
  induction i using D9 with
  | _ i ih =>
   by_cases c:∃ x,x<i/\P x
   ·obtain ⟨x,a,b⟩:=c
    exact ih x a (by omega) b
   ·exact ⟨i,hi,h,fun x a b=>c ⟨x,a,b⟩⟩
 intro j
 induction j with
 | zero =>
  by_cases c:∃ i,i<fs.length/\(w i=(k:Int)/\gW fs i<=(aI fs 0).1)
  ·obtain ⟨i,hi,⟨hw,hc⟩,lo⟩:=first _ c
   refine .inr ⟨i,hi,hw,hc,?_⟩
   have c0:gW fs i=(aI fs 0).1:=by
    obtain ⟨f,hf⟩:=xC hi
    obtain ⟨q,hq,_⟩:=R.cm i f hf
    have:=(qg R.s1 (bR q)).1
    rw [i4 hf] at hc ⊢
    grind
   have:A2 fs w k i 0=kC fs w k 0:=by
    unfold A2 kC oS
    refine cV fun x hx=>?_
    split
    ·rename_i yf
     show (if i<=x then iB fs x 0 else 0)=iB fs x 0
     split
     ·rfl
     ·rename_i z
      unfold iB
      rw [if_neg]
      intro y
      exact lo x (by omega) ⟨yf,y⟩
    ·rfl
   show kC fs w k 0 = _
   rw [this,c0]; grind
  ·left
   show kC fs w k 0 = 0
   unfold kC oS
   rw [cV (g:=fun _=>0) fun x hx=>?_,A9]
   split
   ·rename_i yf
    show iB fs x 0 = 0
    unfold iB
    rw [if_neg fun y=>c ⟨x,hx,yf,y⟩]
   ·rfl
 | succ j ih =>
  have CI:aG fs w k (j+1)=oS fs w k fun i=>iB fs i (j+1)-iB fs i j:=by
   show kC fs w k (j+1)-kC fs w k j = _
   have:kC fs w k (j+1)=oS fs w k (fun i=>(iB fs i (j+1)-iB fs i j)+iB fs i j):=by
    unfold kC oS
    refine cV fun x _=>?_
    split <;> grind
   rw [this,JD]
   unfold kC
   grind
  have mo:=(DU R.s1 j).1
  by_cases pz:0<dG fs w r k j-r k*((aI fs (j+1)).1-(aI fs j).1)
  case pos =>
   have e:dG fs w r k (j+1)=dG fs w r k j-r k*((aI fs (j+1)).1-(aI fs j).1)+aG fs w k (j+1):=by
    show max 0 _ + aG fs w k (j+1) = _
    rw [b6,if_pos (br pz)]
   rcases ih with z | ⟨i0,hi,hw,hc,ed⟩
   ·have:=bM r0 (show 0<=(aI fs (j+1)).1-(aI fs j).1 by grind)
    grind
   ·refine .inr ⟨i0,hi,hw,by grind,?_⟩
    have:A2 fs w k i0 (j+1)=A2 fs w k i0 j+aG fs w k (j+1):=by
     rw [CI]
     unfold A2
     rw [<- JD]
     unfold oS
     refine cV fun x hx=>?_
     split
     ·show (if i0<=x then iB fs x (j+1) else 0)=(if i0<=x then iB fs x j else 0)+(iB fs x (j+1)-iB fs x j)
      split
      ·grind
      ·rename_i z
       have cx:gW fs x<=(aI fs j).1:=by
        by_cases y:gW fs x<=(aI fs j).1
        ·exact y
        ·have:=BO j i0 x hi hx hc y
         omega
       unfold iB
       rw [if_pos cx,if_pos (by grind)]
       grind
     ·grind
    rw [e,ed,this]
    grind
  case neg =>
   have e:dG fs w r k (j+1)=aG fs w k (j+1):=by
    show max 0 _ + aG fs w k (j+1) = _
    rw [b6]
    split <;> grind
   by_cases c:∃ i,i<fs.length/\(w i=(k:Int)/\¬ gW fs i<=(aI fs j).1/\gW fs i<=(aI fs (j+1)).1)
   ·obtain ⟨i,hi,⟨hw,h1,h2⟩,lo⟩:=first _ c
    refine .inr ⟨i,hi,hw,h2,?_⟩
    have ce:=WH R hi h1 h2
    have:A2 fs w k i (j+1)=aG fs w k (j+1):=by
     rw [CI]
     unfold A2 oS
     refine cV fun x hx=>?_
     split
     ·rename_i yf
      show (if i<=x then iB fs x (j+1) else 0)=iB fs x (j+1)-iB fs x j
      split
      ·rename_i z
       have:¬ gW fs x<=(aI fs j).1:=fun y=>by
        have:=BO j x i hx hi y h1
        omega
       have e0:iB fs x j = 0:=by unfold iB; rw [if_neg this]
       rw [e0]; grind
      ·rename_i z
       by_cases y:gW fs x<=(aI fs j).1
       ·unfold iB
        rw [if_pos y,if_pos (by grind)]; grind
       ·have y2:¬ gW fs x<=(aI fs (j+1)).1:=fun y2=>lo x (by omega) ⟨yf,y,y2⟩
        unfold iB
        rw [if_neg y,if_neg y2]; grind
     ·rfl
    rw [e,this,ce]; grind
   ·left
    rw [e,CI]
    unfold oS
    rw [cV (g:=fun _=>0) fun x hx=>?_,A9]
    split
    ·rename_i yf
     show iB fs x (j+1)-iB fs x j = 0
     by_cases y:gW fs x<=(aI fs j).1
     ·unfold iB
      rw [if_pos y,if_pos (by grind)]; grind
     ·have y2:¬ gW fs x<=(aI fs (j+1)).1:=fun y2=>c ⟨x,hx,yf,y,y2⟩
      unfold iB
      rw [if_neg y,if_neg y2]; grind
    ·rfl
theorem Kept.of {L:Int} (R:Run fs w) (P:Plan ss L) (hv:∀ i,i<fs.length->∃ k,k<ss.length/\w i=(k:Int)) (hs:∀ i k,i<fs.length->w i=((k:Nat):Int)->shr fs i=dU ss k) (row:∀ k i0 p,k<ss.length->i0<=p->p<fs.length->w i0=(k:Int)->w p=(k:Int)->oS fs w k (fun i=>if i0<=i/\i<=p then rB fs i else 0)<=(d8 ss k:Rat)+dQ ss k*(gW fs p-gW fs i0)):Kept fs w ss:=by
 refine ⟨hv,hs,fun k j hk=>?_⟩
 have b0:(0:Rat)<=(d8 ss k:Rat):=by
  obtain ⟨x,hx,_,e,_⟩:=fX hk
  rw [e]
  exact dg.mpr (by have:=(P.b1 x hx).1; omega)
 rcases X3 R (dQ ss) k (jG P k) j with z | ⟨i0,hi,hw,hc,e⟩
 ·rw [z]; exact b0
 ·obtain ⟨p,p1,p2,⟨p3,p4⟩,p5⟩:=RB (P:=fun x=>w x=(k:Int)/\gW fs x<=(aI fs j).1) ⟨hw,hc⟩ fs.length hi
  have r:=row k i0 p hk p1 p2 hw p3
  have:A2 fs w k i0 j<=oS fs w k (fun i=>if i0<=i/\i<=p then rB fs i else 0):=mH fun x hx yf=>by
   obtain ⟨f,hf⟩:=xC hx
   have l0:=(R.got hf j).2.2.2.2
   show (if i0<=x then iB fs x j else 0)<=if i0<=x/\x<=p then rB fs x else 0
   by_cases c1:i0<=x
   ·rw [if_pos c1]
    by_cases c2:x<=p
    ·rw [if_pos (show i0<=x/\x<=p from ⟨c1,c2⟩)]
     unfold iB
     split
     ·exact aB
     ·exact br l0
    ·rw [if_neg (show ¬ (i0<=x/\x<=p) from fun y=>c2 y.2)]
     unfold iB
     rw [if_neg fun y=>p5 x (by omega) hx ⟨yf,y⟩]
     exact aB
   ·rw [if_neg c1,if_neg (show ¬ (i0<=x/\x<=p) from fun y=>c1 y.1)]
    exact aB
  have m:=aH (show gW fs p-gW fs i0<=(aI fs j).1-gW fs i0 by grind) (jG P k)
  rw [e]
  grind
end
end Sw
local macro_rules | `(tactic| walk_at "rd")=>`(tactic| try simp only [L2.ny,L2.Dw,L2.Mg,L2.nF,L2.A1,L2.tC,L2.rI,L2.AR,L2.rU,L2.LL,L2.LM,L2.AU,L2.yV,L2.u6,L2.oh,L2.B6,L2.yQ,L2.yP,L2.II,L2.tX,L2.yR,L2.B4,L2.B3,L2.G7,L2.yS,L2.Du,L2.Me,L2.Dv,L2.tB,L2.Mc,L2.yN,L2.DC,L2.AZ,L2.Ma,L2.G1,L2.tV,L2.uZ,L2.yM,L2.B5,L2.yO,L2.u4,L2.yD,L2.G3,L2.vM,L2.G4,L2.u5,L2.DB,L2.vN,L2.vG,L2.qK,L2.u7,L2.G9,L2.B7,L2.yU,L2.G8,L2.yW,L2.Aw,L2.vv,L2.Gh,L2.vt,L2.yh,L2.yi,L2.BG,L2.yg,L2.C8,L2.Mf,L2.yT,L2.vO,L2.At,L2.ya,L2.CT,L2.yF,L2.uV,L2.vK,
 uD,uC,zI,zH,pO,Cz,bx,ua,L2.V.int.injEq,L2.V.bl.injEq,L2.V.ref.injEq,L2.V.str.injEq,xh,exists_eq_left',exists_eq_left,exists_eq_right,exists_and_left,exists_and_right,and_true,true_and,and_self,exists_const,exists_eq,exists_eq',and_assoc,decide_eq_true_eq,iG,Bool.not_true,D4,zC,zF,if_true,if_false,decide_eq_false_iff_not,ite_not,↓reduceIte,k6,Int.reduceLE,dD,Int.reduceMul,Int.reduceAdd,Int.reduceSub,Int.reduceNeg,D6,Int.reduceEq,Int.reduceNe,L2.Cq,L2.qv,L2.tF,L2.cX,aE,cy,Nat.reduceAdd,fY,L2.qt,nR,Int.natAbs_neg,Nat.reducePow,Nat.reduceLT,CD,Ah,L2.Dy,ne_eq,not_false_eq_true,not_true_eq_false])
local macro_rules | `(tactic| walk_at "rds")=>`(tactic| try simp only [L2.fU,L2.ny,L2.Dw,L2.Mg,L2.nF,L2.A1,L2.tC,L2.rI,L2.AR,L2.rU,L2.LL,L2.LM,L2.AU,L2.yV,L2.u6,L2.oh,L2.B6,L2.yQ,L2.yP,L2.II,L2.tX,L2.yR,L2.B4,L2.B3,L2.G7,L2.yS,L2.Du,L2.Me,L2.Dv,L2.tB,L2.Mc,L2.yN,L2.DC,L2.AZ,L2.Ma,L2.G1,L2.tV,L2.uZ,L2.yM,L2.B5,L2.yO,L2.u4,L2.yD,L2.G3,L2.vM,L2.G4,L2.u5,L2.DB,L2.vN,L2.vG,L2.qK,L2.u7,L2.G9,L2.B7,L2.yU,L2.G8,L2.yW,L2.Aw,L2.vv,L2.Gh,L2.vt,L2.yh,L2.yi,L2.BG,L2.yg,L2.C8,L2.Mf,L2.yT,L2.vO,L2.At,L2.ya,L2.CT,L2.yF,L2.uV,L2.vK,
 uD,uC,zI,zH,pO,Cz,bx,ua,L2.V.int.injEq,L2.V.bl.injEq,L2.V.ref.injEq,L2.V.str.injEq,xh,exists_eq_left',exists_eq_left,exists_eq_right,exists_and_left,exists_and_right,and_true,true_and,and_self,exists_const,exists_eq,exists_eq',and_assoc,decide_eq_true_eq,iG,Bool.not_true,D4,zC,zF,if_true,if_false,decide_eq_false_iff_not,ite_not,↓reduceIte,k6,Int.reduceLE,dD,Int.reduceMul,Int.reduceAdd,Int.reduceSub,Int.reduceNeg,D6,Int.reduceEq,Int.reduceNe,L2.Cq,L2.qv,L2.tF,L2.cX,aE,cy,Nat.reduceAdd,fY,L2.qt,nR,Int.natAbs_neg,Nat.reducePow,Nat.reduceLT,CD,Ah,L2.Dy,ne_eq,not_false_eq_true,not_true_eq_false])
namespace K46
open PySem L2 PyProof.Rows
theorem _root_.L2.FT.LA {fs eG pr pu pe} (h:FT fs eG pr pu pe) (m:Str) (h1:¬ m = "latest":=by decide +kernel) (h2:¬ m = "reached":=by decide +kernel) (h3:¬ m = "unflowed":=by decide +kernel) (h4:¬ m = "last_ends":=by decide +kernel):fs.lookup m=none:=h.no m h1 h2 h3 h4
theorem _root_.L2.FR.LA {fs most pm ch pt pg tu} (h:FR fs most pm ch pt pg tu) (m:Str) (h1:¬ m = "most":=by decide +kernel) (h2:¬ m = "members":=by decide +kernel) (h3:¬ m = "chosen":=by decide +kernel) (h4:¬ m = "queue":=by decide +kernel) (h5:¬ m = "rests":=by decide +kernel) (h6:¬ m = "turn":=by decide +kernel):fs.lookup m=none:=h.no m h1 h2 h3 h4 h5 h6
def top (i:Nat):Stmt:=PySem.Challenge.pw_sharewheel_k46_whole_never_above_the_pla.main.body.getD i (.Pass ⟨0,0,0,0⟩)
abbrev Qp:Stmt:=top 5
abbrev RC:Stmt:=top 6
abbrev Sj:Stmt:=top 7
abbrev RD:Stmt:=top 8
abbrev RE:Stmt:=top 9
abbrev Sk:Stmt:=top 10
abbrev RG:Stmt:=top 11
abbrev QT:Stmt:=top 12
abbrev Qq:Stmt:=top 13
abbrev RH:Stmt:=top 14
abbrev RI:Stmt:=top 15
abbrev Pg:Stmt:=top 17
abbrev Po:Stmt:=top 18
abbrev Qs:Stmt:=top 19
abbrev Pb:Stmt:=top 20
abbrev QU:Stmt:=top 21
abbrev PK:Stmt:=top 22
abbrev RJ:Stmt:=top 23
abbrev O7:Stmt:=top 24
abbrev RL:Stmt:=top 25
abbrev PM:Stmt:=top 27
abbrev Qt:Stmt:=top 30
abbrev PN:Stmt:=top 31
abbrev Pp:Stmt:=top 32
abbrev Sl:Stmt:=top 33
abbrev RM:Stmt:=top 34
abbrev QV:Stmt:=top 35
abbrev Pc:Stmt:=top 37
abbrev PR:Stmt:=top 38
abbrev Pd:Stmt:=top 39
abbrev Pe:Stmt:=top 40
abbrev Pq:Stmt:=top 41
abbrev PU:Stmt:=top 42
abbrev Pa:Stmt:=top 43
abbrev mP:Stmt:=top 44
theorem jR {N P:List Str} {c:PySem.Scope} (a:c.kind=.function:=by rfl) (b:c.isCoroutine=false:=by rfl) (d:c.isGenerator=false:=by rfl) (e:N.Nodup:=by decide +kernel) (f:N.take P.length=P:=by rfl) (g:∀ x∈P,c.names.lookup x=some .local\/c.names.lookup x=some .cell:=by decide +kernel) (h:∀ y∈c.names,y.2≠.free:=by decide +kernel):bP N P c:=⟨a,b,d,e,f,g,h⟩
theorem iD:bP ["one", "other", "great", "small", "rest"] ["one", "other"] (gM Qp):=jR
theorem pI:bP ["top", "bottom", "common"] ["top", "bottom"] (gM RC):=jR
theorem X4:bP ["one", "other"] ["one", "other"] (gM Sj):=jR
theorem Xh:bP ["one", "other"] ["one", "other"] (gM RD):=jR
theorem Xi:bP ["one", "other"] ["one", "other"] (gM RE):=jR
theorem X5:bP ["one", "other"] ["one", "other"] (gM Sk):=jR
theorem Xj:bP ["one", "other"] ["one", "other"] (gM RG):=jR
theorem qI:bP ["one", "other", "least"] ["one", "other"] (gM QT):=jR
theorem pH:bP ["one", "other", "most"] ["one", "other"] (gM Qq):=jR
theorem mR:bP ["some", "result", "one"] ["some"] (gM RH):=jR
theorem iL:bP ["some", "result", "one"] ["some"] (gM RI):=jR
theorem kJ:bP ["senders", "asked"] ["senders"] (gM Pg):=jR
theorem VN:bP ["heaps"] ["heaps"] (gM Po):=jR
theorem iE:bP ["senders", "heaps", "full", "shares", "outs", "left", "number"] ["senders", "heaps"] (gM Qs):=jR
theorem Vx:bP ["heaps", "falls"] ["heaps", "falls"] (gM Pb):=jR
theorem fV:bP ["senders", "heaps", "moment", "parts", "outs", "falls", "time", "after"] ["senders"] (gM QU):=jR
theorem jo:bP ["some", "result", "one"] ["some"] (gM PK):=jR
theorem tP:bP ["senders", "parts"] ["senders"] (gM RJ):=jR
theorem cP:bP ["parts", "number", "line", "burst", "gone", "found", "start", "end", "outs", "heaps", "before"] ["parts", "number", "line"] (gM O7):=jR
theorem tQ:bP ["senders", "parts"] ["senders"] (gM RL):=jR
theorem VU:bP ["tagged", "mark"] ["tagged", "mark"] (gM PM):=jR
theorem pJ:bP ["row", "tide"] ["row"] (gM Qt):=jR
theorem gj:bP ["row", "tags", "moment", "mark", "heads", "place", "piece", "begin", "end", "come"] ["row", "tags", "moment", "mark"] (gM PN):=jR
theorem mQ:bP ["tags", "heads", "shares", "moment", "mark", "way"] ["tags", "heads", "shares", "moment", "mark"] (gM Pp):=jR
theorem hU:bP ["row", "tags", "stretches", "moment", "mark", "heads", "shares", "changes", "after"] ["row"] (gM Sl):=jR
theorem fJ:bP ["row", "ends", "start", "end", "parts", "place", "rate", "ahead", "told", "piece", "begin"] ["row"] (gM RM):=jR
theorem iZ:bP ["row", "who", "at", "some", "start", "end", "parts", "time"] ["row", "who", "at"] (gM QV):=jR
theorem VB:bP ["_law_script", "_law_k"] ["_law_script", "_law_k"] (gM Pc):=jR
theorem gi:bP ["_law_cell", "_law_k", "_law_base", "_law_left", "_law_step", "_law_number"] ["_law_cell", "_law_k"] (gM PR):=jR
theorem jS:bP ["_law_one", "_law_other"] ["_law_one", "_law_other"] (gM Pd):=jR
theorem cf:bP ["_law_script", "_law_way", "_law_first", "_law_bottom", "_law_left", "_law_senders_here", "_law_k", "_law_cell", "_law_top", "_law_burst", "_law_share", "_law_shared"] ["_law_script", "_law_way"] (gM Pe):=jR
theorem eZ:bP ["_law_row_here", "_law_who", "_law_told", "_law_at", "_law_burst", "_law_rate", "_law_best", "_law_many", "_law_other"] ["_law_row_here", "_law_who", "_law_told", "_law_at"] (gM Pq):=jR
theorem eK:bP ["_law_script", "_law_way", "_law_senders_here", "_law_first", "_law_gaps", "_law_at", "_law_row_here", "_law_cell", "_law_who", "_law_length"] ["_law_script", "_law_way", "_law_senders_here"] (gM PU):=jR
theorem Vv:bP ["_law_top", "_law_bottom", "_law_most"] ["_law_top", "_law_bottom", "_law_most"] (gM Pa):=jR
theorem gC:bP ["_law_script", "_law_way", "_law_senders_here", "_law_row_here", "_law_longest_by", "_law_most_by", "_law_told", "_law_place", "_law_piece", "_law_at", "_law_who", "_law_length", "_law_share", "_law_end", "_law_out", "_law_many"] ["_law_script"] (gM mP):=jR
abbrev Pr:Stmt:=MI (top 28) 0
theorem VO:bP ["self"] ["self"] (gM Pr):=jR
abbrev Pu:Stmt:=MI (top 28) 1
theorem d7:bP ["self", "at", "moment", "reached", "heads", "shares", "first_end", "after"] ["self", "at"] (gM Pu):=jR
abbrev Pw:Stmt:=MI (top 28) 2
theorem iX:bP ["self", "piece", "reached", "begin", "end"] ["self", "piece"] (gM Pw):=jR
structure Txt (K:ai) (mg:Str->Option Value) (cA:Addr):Prop where
 uQ:mg "abs" = none
 fP:mg "enumerate" = none
 rG:mg "sum" = none
 yq:mg "zip" = none
 pF:mg "range" = none
 rF:mg "len" = none
 tK:mg "reversed" = none
 uR:mg "min" = none
 oF:mg "list" = none
 tR:jW K mg "divisor" Qp ["one", "other"]
 wO:jW K mg "ratio" RC ["top", "bottom"]
 yK:jW K mg "plus" Sj ["one", "other"]
 wM:jW K mg "minus" RD ["one", "other"]
 wQ:jW K mg "times" RE ["one", "other"]
 yJ:jW K mg "over" Sk ["one", "other"]
 wR:jW K mg "under" RG ["one", "other"]
 uY:jW K mg "lesser" QT ["one", "other"]
 tS:jW K mg "greater" Qq ["one", "other"]
 wL:jW K mg "least" RH ["some"]
 qJ:jW K mg "total" RI ["some"]
 nY:jW K mg "check_rates" Pg ["senders"]
 qc:jW K mg "full_ones" Po ["heaps"]
 tT:jW K mg "outs_of" Qs ["senders", "heaps"]
 mS:jW K mg "time_to_empty" Pb ["heaps", "falls"]
 uW:jW K mg "course" QU ["senders"]
 rM:jW K mg "greatest" PK ["some"]
 wN:jW K mg "piles" RJ ["senders"]
 lS:jW K mg "waits_at_turns" O7 ["parts", "number", "line"]
 wS:jW K mg "waits" RL ["senders"]
 rP:jW K mg "heads_of" PM ["tagged", "mark"]
 tU:jW K mg "tags_of" Qt ["row"]
 rO:jW K mg "heads_at" PN ["row", "tags", "moment", "mark"]
 p9:jW K mg "first_end" Pp ["tags", "heads", "shares", "moment", "mark"]
 yI:jW K mg "flow" Sl ["row"]
 wP:jW K mg "spans" RM ["row"]
 uX:jW K mg "flowed" QV ["row", "who", "at"]
 nk:jW K mg "_law_cell_at" Pc ["_law_script", "_law_k"]
 rK:jW K mg "_law_mix" PR ["_law_cell", "_law_k"]
 nq:jW K mg "_law_divisor" Pd ["_law_one", "_law_other"]
 nv:jW K mg "_law_senders" Pe ["_law_script", "_law_way"]
 p8:jW K mg "_law_lets" Pq ["_law_row_here", "_law_who", "_law_told", "_law_at"]
 rL:jW K mg "_law_row" PU ["_law_script", "_law_way", "_law_senders_here"]
 lR:jW K mg "_law_not_above" Pa ["_law_top", "_law_bottom", "_law_most"]
 AF:mg "Tide" = some (.ref cA)
 eY:vU K cA
 i6:g7 K cA "latest"
 iO:g7 K cA "reached"
 eN:g7 K cA "unflowed"
 g9:g7 K cA "last_ends"
 AB:Am K cA "Tide.__init__" Pr ["self"] [[]]
 rE:xM K cA "mark" "Tide.mark" Pu ["self", "at"] [[]]
 rC:xM K cA "come" "Tide.come" Pw ["self", "piece"] [[]]
section
variable {P:Program} {w:World} {K:ai} {mg:Str->Option Value} {base:Heap} {cA:Addr}
theorem WJ (T:Txt K mg cA):jT P w K mg base (jK P w) 1 "divisor" ["one", "other"] (uV Sw.dv):=by
 refine T.tR.okN (k:=0) iD (fun vs H Q E h=>?_) (fun f e6 A outer s H vs Q E hr h=>?_)
 ·obtain ⟨a,b,rfl,_⟩:=h
  rfl
 ·obtain ⟨a,b,rfl,k⟩:=h
  refine ⟨_,(c7 (eu (i:=2) iD.nd rfl (vR Mw rfl T.uQ boot_abs (aS (pv 0) bU))) (c7 (eu (i:=3) iD.nd rfl (vR Mw rfl T.uQ boot_abs (aS (pv 1) bU))) (c7 (Hv PassesOwn.never (tZ BU (pv 3) bO (sr _)) (c7 (eu (i:=4) iD.nd rfl (bF nL (pv 2) (pv 3))) (c7 (eu (i:=2) iD.nd rfl (pv 3)) (fL (eu (i:=3) iD.nd rfl (pv 4)))))) (fL (jy (pv 2)))))),?_⟩
  refine ⟨_,rfl,a,rfl,?_⟩
  refine ⟨_,rfl,b,rfl,?_⟩
  refine Qa (fun σ H'=>H'=H/\∃ g s r,σ = [some (.int a),some (.int b),some (.int g),some (.int s),r]/\0<=g/\0<=s/\Sw.dv g s=Sw.dv a b)
   (fun σ _=>match σ with | [_,_,_,some (.int s),_]=>s.toNat | _=>0) ⟨rfl,_,_,none,rfl,?_,?_,Sw.CO a b⟩ ?_
  ·split <;> omega
  ·split <;> omega
  ·rintro σ H' ⟨rfl,g,s,r,rfl,hg,hs,e⟩
   refine ⟨!decide (V.int s=V.int 0),fun Q hQ=>⟨_,rfl,rfl,_,rfl,hQ⟩,fun hb=>?_,fun hb=>?_⟩
   ·have wF:s≠0:=by intro z; subst z; simp at hb
    have qA:0<s:=by omega
    refine ⟨_,rfl,_,rfl,_,_,rfl,rfl,qA,?_⟩
    refine ⟨_,rfl,?_⟩
    refine ⟨_,rfl,?_⟩
    refine ⟨⟨rfl,s,g % s,_,rfl,hs,cD g wF,by rw [Sw.vo]; exact e⟩,?_⟩
    show (g % s).toNat<s.toNat
    have:=b4 g qA
    have:=cD g wF
    omega
   ·have wF:s = 0:=by
     have:V.int s=V.int 0:=by simpa using hb
     exact V.int.inj this
    subst wF
    rw [Sw.qY g hg] at e
    refine ⟨_,rfl,?_⟩
    show Q (.int g) H'
    rw [e]; exact k
def GZ:Sp:=fun vs H Q _=>∃ t b z,vs = [.int t,.int b]/\z<=5000/\Sw.Sz z b/\(b≠0->∀ p,H p=none->Q (.ref p) (aQ H p (.tup (fq ((t:Rat) / (b:Rat))))))/\(b = 0->False)
theorem wZ (T:Txt K mg cA):jT P w K mg base (jK P w) 2 "ratio" ["top", "bottom"] GZ:=by
 have vV:=WJ (P:=P) (w:=w) (base:=base) T
 refine T.wO.okN (k:=1) pI (fun vs H Q E h=>?_) (fun f e6 A outer s H vs Q E hr h=>?_)
 ·obtain ⟨t,b,z,rfl,_⟩:=h
  rfl
 ·obtain ⟨t,b,z,rfl,z5,sb,k,hb⟩:=h
  refine ⟨_,(c7 (gy (tZ mJ (pv 1) bO (sr _)) (fL Qx) pR) (c7 (eu (i:=2) pI.nd rfl (dM vV (hr.mono (by decide)) rfl aU (aS (pv 0) (aS (pv 1) bU)))) (c7 (gy (tZ yu (pv 1) bO (sr _)) (fL (eu (i:=2) pI.nd rfl (GH YC (pv 2)))) pR) (fL (jy (lI (aS (bF QA (pv 0) (pv 2)) (aS (bF QA (pv 1) (pv 2)) bU)))))))),?_⟩
  show fU _ _ _ [some (.int t),some (.int b),none] H
  refine di fun R hR=>?_
  walk_at "rd"
  refine Le hb (hR _ _ ?_)
  have k:=k hb
  rw [<- R4 hb] at k
  have hg:0<Sw.dv t b:=Sw.xY hb
  have hz:Sw.Sz 5000 (Sw.dv t b):=(sb.dvd (Sw.nc t b) hb).mono z5
  refine di fun R hR=>?_
  walk_at "rd"
  refine hR _ _ ?_
  refine di fun R hR=>?_
  have fin:∀ c:Int,(c=Sw.dv t b/\¬ b<0)\/(c = -(Sw.dv t b)/\b<0)->R [some (.int t),some (.int b),some (.int c)] H:=fun c hc=>by
   refine hR _ _ ?_
   walk_at "rd"
   have c0:c≠0:=by rcases hc with ⟨e,_⟩ | ⟨e,_⟩ <;> omega
   have cz:Sw.Sz 5000 c:=by
    rcases hc with ⟨e,_⟩ | ⟨e,_⟩
    ·rw [e]; exact hz
    ·rw [e]; exact hz.neg
   have d1:c ∣ t:=by
    rcases hc with ⟨e,_⟩ | ⟨e,_⟩
    ·rw [e]; exact Sw.qW t b
    ·rw [e]; exact qj.mpr (Sw.qW t b)
   have d2:c ∣ b:=by
    rcases hc with ⟨e,_⟩ | ⟨e,_⟩
    ·rw [e]; exact Sw.nc t b
    ·rw [e]; exact qj.mpr (Sw.nc t b)
   have e1:t.fdiv c=Sw.rN t b:=by
    rw [vf d1]
    unfold Sw.rN
    rcases hc with ⟨e,q⟩ | ⟨e,q⟩
    ·rw [if_neg q,e]
    ·rw [if_pos q,e]
   have e2:b.fdiv c=Sw.rD t b:=by
    rw [vf d2]
    unfold Sw.rD
    rcases hc with ⟨e,q⟩ | ⟨e,q⟩
    ·rw [if_neg q,e]
    ·rw [if_pos q,e]
   rw [e1,e2]
   exact ⟨⟨c0,cz⟩,⟨c0,cz⟩,k⟩
  simp only [L2.fU]
  walk_at "rd"
  exact ir (fun c=>fin _ (.inr ⟨rfl,c⟩)) fun c=>fin _ (.inl ⟨rfl,c⟩)
def Zb:Sp:=fun vs H Q _=>∃ p q a b z,vs = [.ref p,.ref q]/\H p=some (.tup (fq a))/\H q=some (.tup (fq b))/\z<=2500/\Sw.cL z a/\Sw.cL z b/\∀ r,H r=none->Q (.ref r) (aQ H r (.tup (fq (a+b))))
theorem Cp (T:Txt K mg cA):jT P w K mg base (jK P w) 3 "plus" ["one", "other"] Zb:=by
 have cW:=wZ (P:=P) (w:=w) (base:=base) T
 refine T.yK.okN (k:=2) X4 (fun vs H Q E h=>?_) (fun f e6 A outer s H vs Q E hr h=>?_)
 ·obtain ⟨p,q,a,b,z,rfl,_⟩:=h
  rfl
 ·obtain ⟨p,q,a,b,z,rfl,hp,hq,hz,s1,s2,k⟩:=h
  refine ⟨_,(fL (jy (dM cW (hr.mono (by decide)) rfl aU (aS (bF qO (bF pS (bg (fh K rfl) (pv 0) bO (fun _ _=>rfl)) (bg (fh K rfl) (pv 1) bO (fun _ _=>rfl))) (bF pS (bg (fh K rfl) (pv 1) bO (fun _ _=>rfl)) (bg (fh K rfl) (pv 0) bO (fun _ _=>rfl)))) (aS (bF pS (bg (fh K rfl) (pv 0) bO (fun _ _=>rfl)) (bg (fh K rfl) (pv 1) bO (fun _ _=>rfl))) bU))))),?_⟩
  show oh _ _ [some (.ref p),some (.ref q)] H
  have By:=b5 (Sw.c6 a) (Sw.c6 b)
  walk_at "rd"
  refine fj (.of hp) rfl (fj (.of hq) rfl ?_)
  walk_at "rd"
  refine ⟨⟨s1.n.mono (by omega),s2.d.mono (by omega)⟩,fj (.of hq) rfl (fj (.of hp) rfl ?_)⟩
  walk_at "rd"
  refine ⟨⟨s2.n.mono (by omega),s1.d.mono (by omega)⟩,fj (.of hp) rfl (fj (.of hq) rfl ?_)⟩
  walk_at "rd"
  refine ⟨⟨s1.d.mono (by omega),s2.d.mono (by omega)⟩,_,_,z+z,rfl,by omega,s1.d.mul s2.d,fun _=>?_,fun z=>absurd z By⟩
  rw [Sw.Fd]
  exact k
def X6:Sp:=fun vs H Q _=>∃ p q a b z,vs = [.ref p,.ref q]/\H p=some (.tup (fq a))/\H q=some (.tup (fq b))/\z<=2400/\Sw.cL z a/\Sw.cL z b/\∀ r,H r=none->Q (.ref r) (aQ H r (.tup (fq (a-b))))
theorem DP (T:Txt K mg cA):jT P w K mg base (jK P w) 3 "minus" ["one", "other"] X6:=by
 have cW:=wZ (P:=P) (w:=w) (base:=base) T
 refine T.wM.okN (k:=2) Xh (fun vs H Q E h=>?_) (fun f e6 A outer s H vs Q E hr h=>?_)
 ·obtain ⟨p,q,a,b,z,rfl,_⟩:=h
  rfl
 ·obtain ⟨p,q,a,b,z,rfl,hp,hq,hz,s1,s2,k⟩:=h
  refine ⟨_,(fL (jy (dM cW (hr.mono (by decide)) rfl aU (aS (bF Ac (bF pS (bg (fh K rfl) (pv 0) bO (fun _ _=>rfl)) (bg (fh K rfl) (pv 1) bO (fun _ _=>rfl))) (bF pS (bg (fh K rfl) (pv 1) bO (fun _ _=>rfl)) (bg (fh K rfl) (pv 0) bO (fun _ _=>rfl)))) (aS (bF pS (bg (fh K rfl) (pv 0) bO (fun _ _=>rfl)) (bg (fh K rfl) (pv 1) bO (fun _ _=>rfl))) bU))))),?_⟩
  show oh _ _ [some (.ref p),some (.ref q)] H
  have By:=b5 (Sw.c6 a) (Sw.c6 b)
  walk_at "rd"
  refine fj (.of hp) rfl (fj (.of hq) rfl ?_)
  walk_at "rd"
  refine ⟨⟨s1.n.mono (by omega),s2.d.mono (by omega)⟩,fj (.of hq) rfl (fj (.of hp) rfl ?_)⟩
  walk_at "rd"
  refine ⟨⟨s2.n.mono (by omega),s1.d.mono (by omega)⟩,fj (.of hp) rfl (fj (.of hq) rfl ?_)⟩
  walk_at "rd"
  refine ⟨⟨s1.d.mono (by omega),s2.d.mono (by omega)⟩,_,_,z+z,rfl,by omega,s1.d.mul s2.d,fun _=>?_,fun z=>absurd z By⟩
  rw [Sw.BZ]
  exact k
def X7:Sp:=fun vs H Q _=>∃ p q a b z,vs = [.ref p,.ref q]/\H p=some (.tup (fq a))/\H q=some (.tup (fq b))/\z<=2400/\Sw.cL z a/\Sw.cL z b/\∀ r,H r=none->Q (.ref r) (aQ H r (.tup (fq (a*b))))
theorem EL (T:Txt K mg cA):jT P w K mg base (jK P w) 3 "times" ["one", "other"] X7:=by
 have cW:=wZ (P:=P) (w:=w) (base:=base) T
 refine T.wQ.okN (k:=2) Xi (fun vs H Q E h=>?_) (fun f e6 A outer s H vs Q E hr h=>?_)
 ·obtain ⟨p,q,a,b,z,rfl,_⟩:=h
  rfl
 ·obtain ⟨p,q,a,b,z,rfl,hp,hq,hz,s1,s2,k⟩:=h
  refine ⟨_,(fL (jy (dM cW (hr.mono (by decide)) rfl aU (aS (bF pS (bg (fh K rfl) (pv 0) bO (fun _ _=>rfl)) (bg (fh K rfl) (pv 1) bO (fun _ _=>rfl))) (aS (bF pS (bg (fh K rfl) (pv 0) bO (fun _ _=>rfl)) (bg (fh K rfl) (pv 1) bO (fun _ _=>rfl))) bU))))),?_⟩
  show oh _ _ [some (.ref p),some (.ref q)] H
  have By:=b5 (Sw.c6 a) (Sw.c6 b)
  walk_at "rd"
  refine fj (.of hp) rfl (fj (.of hq) rfl ?_)
  walk_at "rd"
  refine ⟨⟨s1.n.mono (by omega),s2.n.mono (by omega)⟩,fj (.of hp) rfl (fj (.of hq) rfl ?_)⟩
  walk_at "rd"
  refine ⟨⟨s1.d.mono (by omega),s2.d.mono (by omega)⟩,_,_,z+z,rfl,by omega,s1.d.mul s2.d,fun _=>?_,fun z=>absurd z By⟩
  rw [Sw.BN]
  exact k
def Zc:Sp:=fun vs H Q _=>∃ p q a b z,vs = [.ref p,.ref q]/\H p=some (.tup (fq a))/\H q=some (.tup (fq b))/\z<=2400/\Sw.cL z a/\Sw.cL z b/\b≠0/\∀ r,H r=none->Q (.ref r) (aQ H r (.tup (fq (a / b))))
theorem JE (T:Txt K mg cA):jT P w K mg base (jK P w) 3 "over" ["one", "other"] Zc:=by
 have cW:=wZ (P:=P) (w:=w) (base:=base) T
 refine T.yJ.okN (k:=2) X5 (fun vs H Q E h=>?_) (fun f e6 A outer s H vs Q E hr h=>?_)
 ·obtain ⟨p,q,a,b,z,rfl,_⟩:=h
  rfl
 ·obtain ⟨p,q,a,b,z,rfl,hp,hq,hz,s1,s2,hb,k⟩:=h
  refine ⟨_,(fL (jy (dM cW (hr.mono (by decide)) rfl aU (aS (bF pS (bg (fh K rfl) (pv 0) bO (fun _ _=>rfl)) (bg (fh K rfl) (pv 1) bO (fun _ _=>rfl))) (aS (bF pS (bg (fh K rfl) (pv 0) bO (fun _ _=>rfl)) (bg (fh K rfl) (pv 1) bO (fun _ _=>rfl))) bU))))),?_⟩
  show oh _ _ [some (.ref p),some (.ref q)] H
  have hn:=Sw.kI hb
  have By:=b5 (Sw.c6 a) hn
  walk_at "rd"
  refine fj (.of hp) rfl (fj (.of hq) rfl ?_)
  walk_at "rd"
  refine ⟨⟨s1.n.mono (by omega),s2.d.mono (by omega)⟩,fj (.of hp) rfl (fj (.of hq) rfl ?_)⟩
  walk_at "rd"
  refine ⟨⟨s1.d.mono (by omega),s2.n.mono (by omega)⟩,_,_,z+z,rfl,by omega,s1.d.mul s2.n,fun _=>?_,fun z=>absurd z By⟩
  rw [Sw.Bs a b hn]
  exact k
def X8:Sp:=fun vs H Q _=>∃ p q a b,vs = [.ref p,.ref q]/\H p=some (.tup (fq a))/\H q=some (.tup (fq b))/\Sw.cL 5000 a/\Sw.cL 5000 b/\Q (.bl (decide (a<b))) H
theorem xA (T:Txt K mg cA):jT P w K mg base (jK P w) 1 "under" ["one", "other"] X8:=by
 refine T.wR.okN (k:=0) Xj (fun vs H Q E h=>?_) (fun f e6 A outer s H vs Q E hr h=>?_)
 ·obtain ⟨p,q,a,b,rfl,_⟩:=h
  rfl
 ·obtain ⟨p,q,a,b,rfl,hp,hq,s1,s2,k⟩:=h
  refine ⟨_,(fL (jy (Q6 yu (bF pS (bg (fh K rfl) (pv 0) bO (fun _ _=>rfl)) (bg (fh K rfl) (pv 1) bO (fun _ _=>rfl))) (bF pS (bg (fh K rfl) (pv 1) bO (fun _ _=>rfl)) (bg (fh K rfl) (pv 0) bO (fun _ _=>rfl))) (sr _)))),?_⟩
  show oh _ _ [some (.ref p),some (.ref q)] H
  walk_at "rd"
  refine fj (.of hp) rfl (fj (.of hq) rfl ?_)
  walk_at "rd"
  refine ⟨⟨s1.n,s2.d⟩,fj (.of hq) rfl (fj (.of hp) rfl ?_)⟩
  walk_at "rd"
  refine ⟨⟨s2.n,s1.d⟩,?_⟩
  rw [show decide (a.num*(b.den:Int)<b.num*(a.den:Int))=decide (a<b) from decide_eq_decide.mpr Sw.LK]
  exact k
def Xk:Sp:=fun vs H Q _=>∃ p q a b,vs = [.ref p,.ref q]/\H p=some (.tup (fq a))/\H q=some (.tup (fq b))/\Sw.cL 5000 a/\Sw.cL 5000 b/\∀ r,H r=none->Q (.ref r) (aQ H r (.tup (fq (min a b))))
theorem QW (T:Txt K mg cA):jT P w K mg base (jK P w) 2 "lesser" ["one", "other"] Xk:=by
 have c5:=xA (P:=P) (w:=w) (base:=base) T
 refine T.uY.okN (k:=1) qI (fun vs H Q E h=>?_) (fun f e6 A outer s H vs Q E hr h=>?_)
 ·obtain ⟨p,q,a,b,rfl,_⟩:=h
  rfl
 ·obtain ⟨p,q,a,b,rfl,hp,hq,s1,s2,k⟩:=h
  refine ⟨_,(c7 (eu (i:=2) qI.nd rfl (Qw (qM (dM c5 (hr.mono (by decide)) rfl aU (aS (pv 1) (aS (pv 0) bU)))) (pv 1) (pv 0))) (fL (jy (lI (aS (bg (fh K rfl) (pv 2) bO (fun _ _=>rfl)) (aS (bg (fh K rfl) (pv 2) bO (fun _ _=>rfl)) bU)))))),?_⟩
  show fU _ _ _ [some (.ref p),some (.ref q),none] H
  refine di fun R hR=>?_
  have yk:∀ x c,H x=some (.tup (fq c))->c=min a b->R [some (.ref p),some (.ref q),some (.ref x)] H:=fun x c hx e=>by
   refine hR _ _ ?_
   walk_at "rd"
   subst e
   exact fj (.of hx) rfl (fj (.of hx) rfl k)
  walk_at "rd"
  refine ⟨q,p,b,a,rfl,hq,hp,s2,s1,?_⟩
  walk_at "rd"
  exact ir (fun h=>yk q b hq (by rw [dO]; grind)) fun h=>yk p a hp (by rw [dO]; grind)
def WK:Sp:=fun vs H Q _=>∃ p q a b,vs = [.ref p,.ref q]/\H p=some (.tup (fq a))/\H q=some (.tup (fq b))/\Sw.cL 5000 a/\Sw.cL 5000 b/\∀ r,H r=none->Q (.ref r) (aQ H r (.tup (fq (max a b))))
theorem Mv (T:Txt K mg cA):jT P w K mg base (jK P w) 2 "greater" ["one", "other"] WK:=by
 have c5:=xA (P:=P) (w:=w) (base:=base) T
 refine T.tS.okN (k:=1) pH (fun vs H Q E h=>?_) (fun f e6 A outer s H vs Q E hr h=>?_)
 ·obtain ⟨p,q,a,b,rfl,_⟩:=h
  rfl
 ·obtain ⟨p,q,a,b,rfl,hp,hq,s1,s2,k⟩:=h
  refine ⟨_,(c7 (eu (i:=2) pH.nd rfl (Qw (qM (dM c5 (hr.mono (by decide)) rfl aU (aS (pv 0) (aS (pv 1) bU)))) (pv 1) (pv 0))) (fL (jy (lI (aS (bg (fh K rfl) (pv 2) bO (fun _ _=>rfl)) (aS (bg (fh K rfl) (pv 2) bO (fun _ _=>rfl)) bU)))))),?_⟩
  show fU _ _ _ [some (.ref p),some (.ref q),none] H
  refine di fun R hR=>?_
  have yk:∀ x c,H x=some (.tup (fq c))->c=max a b->R [some (.ref p),some (.ref q),some (.ref x)] H:=fun x c hx e=>by
   refine hR _ _ ?_
   walk_at "rd"
   subst e
   exact fj (.of hx) rfl (fj (.of hx) rfl k)
  walk_at "rd"
  refine ⟨p,q,a,b,rfl,hp,hq,s1,s2,?_⟩
  walk_at "rd"
  exact ir (fun h=>yk q b hq (by rw [b6]; grind)) fun h=>yk p a hp (by rw [b6]; grind)
def X9:Sp:=fun vs H Q _=>∃ l ps qs,vs = [.ref l]/\iM fq H l ps qs/\qs≠[]/\(∀ q∈qs,Sw.cL 5000 q)/\∀ r H',bT H H'->H' r=some (.tup (fq (Sw.dY qs)))->Q (.ref r) H'
theorem Jt (T:Txt K mg cA):jT P w K mg base (jK P w) 3 "least" ["some"] X9:=by
 have oR:=QW (P:=P) (w:=w) (base:=base) T
 refine T.wL.okN (k:=2) mR (fun vs H Q E h=>?_) (fun f e6 A outer s H vs Q E hr h=>?_)
 ·obtain ⟨l,ps,qs,rfl,_⟩:=h
  rfl
 ·obtain ⟨l,ps,qs,rfl,L,ne,sz,k⟩:=h
  refine ⟨_,(c7 (eu (i:=1) mR.nd rfl (bg (mU K rfl) (pv 0) bO (fun _ _=>rfl))) (c7 (uv PassesOwn.never rfl (nK K rfl (pv 0)) (gu (i:=2) mR.nd rfl (by first|left;rfl|right;rfl)) (fL (eu (i:=1) mR.nd rfl (dM oR (hr.mono (by decide)) rfl aU (aS (pv 1) (aS (pv 2) bU)))))) (fL (jy (pv 1))))),?_⟩
  show fU _ _ _ [some (.ref l),none,none] H
  cases qs with
  | nil=>exact absurd rfl ne
  | cons q0 qr =>
   cases ps with
   | nil=>cases L.r
   | cons p0 pr =>
    have h0:H p0=some (.tup (fq q0)):=by
     cases L.r with
     | cons a b=>exact a
    refine di fun R hR=>?_
    walk_at "rd"
    refine qP (.of L.hl) (v:=.ref p0) (Aa (xs:=(p0 :: pr).map V.ref) (j:=0) rfl) (hR _ _ ?_)
    refine di fun R hR=>?_
    refine ur fun Z hZ=>?_
    walk_at "rd"
    refine ⟨⟨_,.of L.hl⟩,hZ _ _ ?_⟩
    refine z9 (K:=K) (a:=l) (xs:=(p0 :: pr).map V.ref) (fun i σ H'=>bT H H'/\∃ x c v,σ = [some (.ref l),some (.ref x),v]/\H' x=some (.tup (fq c))/\c=((q0 :: qr).take i).foldl min q0/\Sw.cL 5000 c) ⟨bT.refl _,p0,q0,none,rfl,h0,rfl,sz q0 (by simp)⟩ (fun i σ H' _ q=>.of (q.1 _ _ L.hl)) ?_ ?_
    ·rintro i v σ H1 hv ⟨sm,x,c,v2,rfl,hx,hc,zc⟩
     obtain ⟨p,hp,rfl⟩:∃ p,(p0 :: pr)[i]? = some p/\V.ref p=v:=by
      rw [bh] at hv
      cases e:(p0 :: pr)[i]? with
      | none=>rw [e] at hv; cases hv
      | some z=>rw [e] at hv; exact ⟨z,rfl,bE hv⟩
     obtain ⟨q,hq,wE⟩:=wX L.r hp
     have zq:=sz q (aq hq)
     show ny _ _ _ [some (.ref l),some (.ref x),some (.ref p)] H1
     refine t7 fun R' pB=>?_
     walk_at "rd"
     refine ⟨x,p,c,q,rfl,hx,sm _ _ wE,zc,zq,fun r oE=>pB _ _ ?_⟩
     refine ⟨sm.trans (cZ oE),r,min c q,_,rfl,cO,?_,zc.min zq⟩
     rw [aV hq,jO,<- hc]
     rfl
    ·rintro σ H1 ⟨sm,x,c,v2,rfl,hx,hc,zc⟩
     refine hR _ _ ?_
     walk_at "rd"
     have ln:=pQ L.r
     rw [aK (by rw [ae,ln]; exact av _)] at hc
     rw [hc] at hx
     exact k x H1 sm hx
def Yb:Sp:=fun vs H Q _=>∃ l ps qs,vs = [.ref l]/\iM fq H l ps qs/\(∀ i,Sw.cL 1200 (Sw.tq (qs.take i)))/\(∀ q∈qs,Sw.cL 1200 q)/\∀ r H',bT H H'->H' r=some (.tup (fq (Sw.tq qs)))->Q (.ref r) H'
theorem RN (T:Txt K mg cA):jT P w K mg base (jK P w) 4 "total" ["some"] Yb:=by
 have cW:=wZ (P:=P) (w:=w) (base:=base) T
 have gc:=Cp (P:=P) (w:=w) (base:=base) T
 refine T.qJ.okN (k:=3) iL (fun vs H Q E h=>?_) (fun f e6 A outer s H vs Q E hr h=>?_)
 ·obtain ⟨l,ps,qs,rfl,_⟩:=h
  rfl
 ·obtain ⟨l,ps,qs,rfl,L,st,sz,k⟩:=h
  refine ⟨_,(c7 (eu (i:=1) iL.nd rfl (dM cW (hr.mono (by decide)) rfl aU (aS bO (aS bO bU)))) (c7 (uv PassesOwn.never rfl (nK K rfl (pv 0)) (gu (i:=2) iL.nd rfl (by first|left;rfl|right;rfl)) (fL (eu (i:=1) iL.nd rfl (dM gc (hr.mono (by decide)) rfl aU (aS (pv 1) (aS (pv 2) bU)))))) (fL (jy (pv 1))))),?_⟩
  show fU _ _ _ [some (.ref l),none,none] H
  refine di fun R hR=>?_
  walk_at "rd"
  refine ⟨_,_,70,rfl,by decide,Sw.Sz.j5 (by decide) (by decide),fun _ pm fm=>hR _ _ ?_,fun z=>absurd z (by decide)⟩
  rw [As]
  refine di fun R hR=>?_
  refine ur fun Z hZ=>?_
  walk_at "rd"
  have n1:=cZ (o:=.tup (fq 0)) fm
  refine ⟨⟨_,.of (n1 _ _ L.hl)⟩,hZ _ _ ?_⟩
  refine z9 (K:=K) (a:=l) (xs:=ps.map V.ref) (fun i σ H'=>bT H H'/\∃ x v,σ = [some (.ref l),some (.ref x),v]/\H' x=some (.tup (fq (Sw.tq (qs.take i))))) ⟨n1,pm,none,rfl,cO⟩ (fun i σ H' _ q=>.of (q.1 _ _ L.hl)) ?_ ?_
  ·rintro i v σ H1 hv ⟨sm,x,v2,rfl,hx⟩
   obtain ⟨p,hp,rfl⟩:∃ p,ps[i]? = some p/\V.ref p=v:=by simpa using hv
   obtain ⟨q,hq,wE⟩:=wX L.r hp
   have zq:=sz q (aq hq)
   show ny _ _ _ [some (.ref l),some (.ref x),some (.ref p)] H1
   refine t7 fun R' pB=>?_
   walk_at "rd"
   refine ⟨x,p,_,q,1200,rfl,hx,sm _ _ wE,by decide,st i,zq,fun r oE=>pB _ _ ?_⟩
   refine ⟨sm.trans (cZ oE),r,_,rfl,?_⟩
   rw [cO,aV hq,Sw.oH]
  ·rintro σ H1 ⟨sm,x,v2,rfl,hx⟩
   refine hR _ _ ?_
   walk_at "rd"
   have ln:=pQ L.r
   rw [aK (by rw [ae,ln]; exact av _)] at hx
   exact k x H1 sm hx
def Yc:Sp:=fun vs H Q _=>∃ l ps ss L,vs = [.ref l]/\qU H l ps ss/\Sw.Plan ss L/\∀ H',bT H H'->Q .iJ H'
theorem VG (T:Txt K mg cA):jT P w K mg base (jK P w) 5 "check_rates" ["senders"] Yc:=by
 have l5:=RN (P:=P) (w:=w) (base:=base) T
 have c5:=xA (P:=P) (w:=w) (base:=base) T
 refine T.nY.okN (k:=4) kJ (fun vs H Q E h=>?_) (fun f e6 A outer s H vs Q E hr h=>?_)
 ·obtain ⟨l,ps,ss,L,rfl,_⟩:=h
  rfl
 ·obtain ⟨l,ps,ss,L,rfl,SL,PL,k⟩:=h
  refine ⟨_,(c7 (eu (i:=1) kJ.nd rfl (dM l5 (hr.mono (by decide)) rfl aU (aS (iK ["share", "line"] [] rfl (by with_unfolding_all rfl) (by decide +kernel) rfl (by decide +kernel) (by exact aN) (by with_unfolding_all rfl) aN (nK K rfl (pv 0)) (fun _ _ _=>(qi (n:=2) K rfl rfl (iT (gu (i:=0) (show (["share", "line"]:List Str).Nodup from by decide +kernel) rfl (by first|left;rfl|right;rfl)) (iT (gu (i:=1) (show (["share", "line"]:List Str).Nodup from by decide +kernel) rfl (by first|left;rfl|right;rfl)) qh)))) (fun _ _ _=>u9) (fun _ _ _=>(bg (fh K rfl) (pv 1) bO (fun _ _=>rfl)))) bU))) (fL (gy (EM (qM (dM c5 (hr.mono (by decide)) rfl aU (aS (pv 1) (aS (lI (aS bO (aS bO bU))) bU))))) (fL Qx) pR))),?_⟩
  show fU _ _ _ [some (.ref l),none] H
  have len:=SL.len
  have n8:=PL.n8
  refine di fun R hR=>?_
  walk_at "rd"
  refine ⟨⟨_,.of SL.hl⟩,fun Dl iH=>?_⟩
  refine uq (xs:=ps.map V.ref) (fun m τ H'=>∃ v0 v1 es,τ = [v0,v1]/\bT H H'/\iM fq H' Dl es ((ss.map fun s=>s.2.2).take m)) ⟨none,none,[],rfl,cZ iH,⟨cO,.nil⟩⟩ (fun m τ H' _ ⟨_,_,_,_,s',_⟩=>.of (s' _ _ SL.hl)) ?_ ?_
  ·rintro m y τ H1 hy ⟨v0,v1,es,rfl,s1,L1⟩
   obtain ⟨p,hp,rfl⟩:∃ p,ps[m]? = some p/\V.ref p=y:=by simpa using hy
   obtain ⟨sd,Oa,pl,pr,h1,h2,h3⟩:=wV SL.r hp
   have hm:m<ss.length:=(aa.mp Oa).1
   have el:=pQ L1.r
   rw [bZ,ae] at el
   refine ⟨p,_,rfl,.of (s1 _ _ h1),rfl,_,_,rfl,_,_,rfl,rfl,?_⟩
   simp only [lU,if_true]
   walk_at "rd"
   refine fj (.of (s1 _ _ h2)) rfl ?_
   have kt:∀ b xs,H1 b=some (.tup xs)->aQ H1 Dl (.lst (es.map V.ref++[.ref pr])) b=some (.tup xs):=fun b xs e=>by
    rw [c8 (b7 e L1.hl (by intro z; cases z))]; exact e
   have hx:(ss.map fun s=>s.2.2)[m]? = some sd.2.2:=by rw [bh,Oa]; rfl
   refine ⟨_,L1.hl,cX (by rw [ae]; omega),fun b o e=>?_,es++[pr],?_⟩
   ·rw [c8 (gX e iH)]; exact s1 _ _ e
   ·rw [aV hx]
    exact ⟨by rw [cO,ay]; rfl,tY (kt _ _ (s1 _ _ h3)) (qf L1.r kt)⟩
  rintro τ H1 ⟨v0,v1,es,rfl,s1,L1⟩
  rw [aK (by rw [ae,ae]; omega)] at L1
  refine ⟨Dl,es,_,rfl,L1,fun i=>(Sw.qH PL i).mono (by decide),fun q hq=>?_,fun r H2 s2 zW=>hR _ _ ?_⟩
  ·obtain ⟨i,hi⟩:=dN hq
   rw [<- Sw.uT] at hq
   obtain ⟨j,_,rfl⟩:=aP.mp hq
   exact (Sw.pG PL j).mono (by decide)
  have sm:=s1.trans s2
  walk_at "rd"
  intro pa fa
  have n1:=cZ (o:=.tup [.int 1,.int 1]) fa
  have z:=Sw.qH PL ss.length
  rw [aK (by rw [ae]; omega)] at z
  refine ⟨r,pa,_,((1:Int):Rat),rfl,n1 _ _ zW,sy (n:=1),z.mono (by decide),(Sw.cL.int (n:=1) (z:=4) (Sw.Sz.one _)).mono (by decide),?_⟩
  rw [decide_eq_true (show Sw.tq (ss.map fun s=>s.2.2)<((1:Int):Rat) from PL.lt)]
  walk_at "rd"
  exact k _ (sm.trans n1)
def Zd:Sp:=fun vs H Q _=>∃ l ps n h,vs = [.ref l]/\iM fq H l ps (fr n h)/\n<=8/\(∀ i,Sw.cL 1200 (h i))/\∀ fl H',bT H H'->H fl=none->H' fl=some (.lst (((aD n).filter fun i=>decide (0<h i)).map iI))->Q (.ref fl) H'
theorem Px (T:Txt K mg cA):jT P w K mg base (jK P w) 2 "full_ones" ["heaps"] Zd:=by
 have c5:=xA (P:=P) (w:=w) (base:=base) T
 refine T.qc.okN (k:=1) VN (fun vs H Q E h=>?_) (fun f e6 A outer s H vs Q E hr h=>?_)
 ·obtain ⟨l,ps,n,h,rfl,_⟩:=h
  rfl
 ·obtain ⟨l,ps,n,h,rfl,L,n8,sz,k⟩:=h
  refine ⟨_,(fL (jy (iK ["number", "heap"] [] rfl (by with_unfolding_all rfl) (by decide +kernel) rfl (by decide +kernel) (by exact aN) (by with_unfolding_all rfl) aN (DJ K rfl rfl T.fP (aS (pv 0) bU)) (fun _ _ _=>(qi (n:=2) K rfl rfl (iT (gu (i:=0) (show (["number", "heap"]:List Str).Nodup from by decide +kernel) rfl (by first|left;rfl|right;rfl)) (iT (gu (i:=1) (show (["number", "heap"]:List Str).Nodup from by decide +kernel) rfl (by first|left;rfl|right;rfl)) qh)))) (fun _ _ _=>(Cf (qM (dM c5 (hr.mono (by decide)) rfl aU (aS (lI (aS bO (aS bO bU))) (aS (pv 1) bU)))))) (fun _ _ _=>(pv 0))))),?_⟩
  show oh _ _ [some (.ref l)] H
  have len:=pQ L.r
  rw [t8] at len
  walk_at "rd"
  refine ⟨⟨_,.of L.hl⟩,fun Dl iH=>?_⟩
  refine Jb (xs:=ps.map V.ref) (fun m τ H'=>∃ v0 v1,τ = [v0,v1]/\bT H H'/\H' Dl=some (.lst (((aD m).filter fun i=>decide (0<h i)).map iI))) ⟨none,none,rfl,cZ iH,cO⟩ (fun m τ H' _ ⟨_,_,_,s',_⟩=>.of (s' _ _ L.hl)) ?_ ?_
  ·rintro m y τ H1 p hy ⟨v0,v1,rfl,s1,hD⟩ lX
   obtain ⟨ph,N8,rfl⟩:∃ p,ps[m]? = some p/\V.ref p=y:=by simpa using hy
   have hm:m<n:=by have:=(aa.mp N8).1; omega
   obtain ⟨q,hq,ue⟩:=wX L.r N8
   rw [xB h hm] at hq
   cases hq
   have sn:=cZ (o:=.tup [.int m,.ref ph]) lX
   have s1:=s1.trans sn
   have hD:=sn _ _ hD
   refine ⟨p,_,rfl,.of cO,rfl,_,_,rfl,_,_,rfl,rfl,?_⟩
   generalize aQ H1 p (.tup [.int m,.ref ph])=H2 at s1 hD ⊢
   clear sn lX
   have lk:((aD m).filter fun i=>decide (0<h i)).length<=8:=by
    have:=bG (fun i=>decide (0<h i)) (aD m)
    rw [dm] at this
    omega
   walk_at "rd"
   intro pa fa
   have n1:=cZ (o:=.tup [.int 0,.int 1]) fa
   have s1:=s1.trans n1
   have hD:=n1 _ _ hD
   refine ⟨pa,ph,((0:Int):Rat),_,rfl,sy (n:=0),s1 _ _ ue,(Sw.cL.int (n:=0) (z:=4) (Sw.Sz.zero _)).mono (by decide),(sz m).mono (by decide),?_⟩
   generalize aQ H2 pa (.tup [.int 0,.int 1])=H3 at s1 hD ⊢
   have e0:decide (((0:Int):Rat)<h m)=decide (0<h m):=rfl
   rw [e0,dF,cG,aZ,i7]
   walk_at "rd"
   refine ir (fun c=>?_) fun c=>?_
   ·refine ⟨_,hD,cX (by rw [ae]; omega),fun b o e=>?_,?_⟩
    ·rw [c8 (gX e iH)]; exact s1 _ _ e
    ·rw [cO,if_pos c,ay]; rfl
   ·rw [if_neg c,bx]
    exact ⟨s1,hD⟩
  rintro τ H1 ⟨v0,v1,rfl,s1,hD⟩
  rw [ae,len] at hD
  exact k Dl H1 s1 iH hD
def Ze:Sp:=fun vs H Q _=>∃ sl ps ss L hl hp h,vs = [.ref sl,.ref hl]/\qU H sl ps ss/\iM fq H hl hp (fr ss.length h)/\Sw.Plan ss L/\(∀ i,Sw.cL 1200 (h i))/\Sw.bY ss h≠[]/\∀ ol op H',bT H H'->H ol=none->iM fq H' ol op (fr ss.length (Sw.cN ss h))->Q (.ref ol) H'
theorem WL (T:Txt K mg cA):jT P w K mg base (jK P w) 5 "outs_of" ["senders", "heaps"] Ze:=by
 have j7:=Px (P:=P) (w:=w) (base:=base) T
 have cW:=wZ (P:=P) (w:=w) (base:=base) T
 have eR:=DP (P:=P) (w:=w) (base:=base) T
 have gY:=EL (P:=P) (w:=w) (base:=base) T
 have l5:=RN (P:=P) (w:=w) (base:=base) T
 refine T.tT.okN (k:=4) iE (fun vs H Q E h=>?_) (fun f e6 A outer s H vs Q E hr h=>?_)
 ·obtain ⟨sl,ps,ss,L,hl,hp,h,rfl,_⟩:=h
  rfl
 ·obtain ⟨sl,ps,ss,L,hl,hp,h,rfl,SL,HL,PL,sz,ne,k⟩:=h
  refine ⟨_,(c7 (eu (i:=2) iE.nd rfl (dM j7 (hr.mono (by decide)) rfl aU (aS (pv 1) bU))) (c7 (eu (i:=3) iE.nd rfl (vR (Ja K rfl rfl) rfl T.rG boot_sum (aS (iK ["number"] [("senders", 0)] rfl (by with_unfolding_all rfl) (by decide +kernel) rfl (by decide +kernel) (by exact ⟨rfl,aN⟩) (by with_unfolding_all rfl) ⟨⟨rfl,rfl,rfl⟩,aN⟩ (nK K rfl (pv 2)) (fun _ _ _=>(gu (i:=0) (show (["number", "senders"]:List Str).Nodup from by decide +kernel) rfl (by first|left;rfl|right;rfl))) (fun _ _ _=>u9) (fun _ _ _=>(bg (fh K rfl) (bg (mU K rfl) (pv 1) (pv 0) (fun _ _=>rfl)) bO (fun _ _=>rfl)))) bU))) (c7 (HC (i0:=4) ["share", "line"] [] rfl (by with_unfolding_all rfl) (by decide +kernel) rfl (by decide +kernel) (by exact aN) (by with_unfolding_all rfl) aN (nK K rfl (pv 0)) (fun _ _ _=>(qi (n:=2) K rfl rfl (iT (gu (i:=0) (show (["share", "line"]:List Str).Nodup from by decide +kernel) rfl (by first|left;rfl|right;rfl)) (iT (gu (i:=1) (show (["share", "line"]:List Str).Nodup from by decide +kernel) rfl (by first|left;rfl|right;rfl)) qh)))) (fun _ _ _=>u9) (fun _ _ _=>(dM cW (hr.mono (by decide)) rfl aU (aS (bg (fh K rfl) (bg (fh K rfl) (pv 1) bO (fun _ _=>rfl)) bO (fun _ _=>rfl)) (aS (bg (fh K rfl) (bg (fh K rfl) (pv 1) bO (fun _ _=>rfl)) bO (fun _ _=>rfl)) bU)))) (by with_unfolding_all rfl) iE.nd rfl (by first|left;rfl|right;rfl)) (c7 (eu (i:=5) iE.nd rfl (dM eR (hr.mono (by decide)) rfl aU (aS (lI (aS bO (aS bO bU))) (aS (dM l5 (hr.mono (by decide)) rfl aU (aS (iK ["number", "out"] [("full", 2)] rfl (by with_unfolding_all rfl) (by decide +kernel) rfl (by decide +kernel) (by exact ⟨rfl,aN⟩) (by with_unfolding_all rfl) ⟨⟨rfl,rfl,rfl⟩,aN⟩ (DJ K rfl rfl T.fP (aS (pv 4) bU)) (fun _ _ _=>(qi (n:=2) K rfl rfl (iT (gu (i:=0) (show (["number", "out", "full"]:List Str).Nodup from by decide +kernel) rfl (by first|left;rfl|right;rfl)) (iT (gu (i:=1) (show (["number", "out", "full"]:List Str).Nodup from by decide +kernel) rfl (by first|left;rfl|right;rfl)) qh)))) (fun _ _ _=>(Cf (tZ (WA K rfl) (pv 0) (pv 2) rfl))) (fun _ _ _=>(pv 1))) bU)) bU)))) (c7 (uv PassesOwn.never rfl (nK K rfl (pv 2)) (gu (i:=6) iE.nd rfl (by first|left;rfl|right;rfl)) (fL (MR (dM gY (hr.mono (by decide)) rfl aU (aS (pv 5) (aS (dM cW (hr.mono (by decide)) rfl aU (aS (bg (fh K rfl) (bg (mU K rfl) (pv 0) (pv 6) (fun _ _=>rfl)) bO (fun _ _=>rfl)) (aS (pv 3) bU))) bU))) (YA (pv 4) (pv 6) WU)))) (fL (jy (pv 4)))))))),?_⟩
  show fU _ _ _ [some (.ref sl),some (.ref hl),none,none,none,none,none] H
  have len:=SL.len
  have n8:=PL.n8
  have Tz:(Sw.bY ss h).length<=8:=by
   have:(Sw.bY ss h).length<=(aD ss.length).length:=bG _ _
   rw [dm] at this
   omega
  refine di fun R hR=>?_
  walk_at "rd"
  refine ⟨hl,hp,ss.length,h,rfl,HL,n8,sz,fun fl H1 s1 AK mC=>hR _ _ ?_⟩
  have mC:H1 fl=some (.lst ((Sw.bY ss h).map iI)):=mC
  have uc:=SL.same s1
  refine di fun R hR=>?_
  walk_at "rd"
  refine ⟨⟨_,.of mC⟩,fun Dl iH=>?_⟩
  refine uq (xs:=(Sw.bY ss h).map iI) (fun m τ H'=>∃ v0,τ = [v0,some (.ref sl)]/\bT H1 H'/\H' Dl=some (.lst ((((Sw.bY ss h).take m).map (Sw.dU ss)).map V.int))) ⟨none,rfl,cZ iH,cO⟩ (fun m τ H' _ ⟨_,_,s',_⟩=>.of (s' _ _ mC)) ?_ ?_
  ·rintro m y τ H2 hy ⟨v0,rfl,s2,hD⟩
   obtain ⟨i,hi,rfl⟩:∃ p,(Sw.bY ss h)[m]? = some p/\iI p=y:=by simpa using hy
   have BD:=(Sw.dj.mp (aq hi)).1
   obtain ⟨p,pl,pr,_,xi,h1,h2,h3⟩:=(uc.same s2).item BD
   walk_at "rd"
   simp only [lU,if_true]
   walk_at "rd"
   refine qP (.of (uc.same s2).hl) xi ?_
   refine fj (.of h1) rfl ?_
   refine ⟨_,hD,cX (by rw [ae,ae,bZ]; omega),fun b o e=>?_,?_⟩
   ·rw [c8 (gX e iH)]; exact s2 _ _ e
   ·rw [cO,aV hi,ay,ay]; rfl
  rintro τ H2 ⟨v0,rfl,s2,hD⟩
  rw [aK (by rw [ae]; exact av _)] at hD
  refine ⟨Dl,_,rfl,.of hD,hR _ _ ?_⟩
  have eS:((Sw.bY ss h).map (Sw.dU ss)).sum=Sw.sumF ss h:=rfl
  rw [eS]
  have zK:=uc.same s2
  have CY:=s2 _ _ mC
  have EA:=s1.trans s2
  clear hD iH s1 s2 mC uc
  obtain ⟨S1,SM⟩:=Sw.jq PL ne
  have Zs:Sw.sumF ss h<=1000000000000000000:=by
   have:=cu PL.L1 (show 0<=Sw.sumF ss h by omega)
   omega
  refine di fun R hR=>?_
  walk_at "rd"
  refine ⟨⟨_,.of zK.hl⟩,fun ol F5=>?_⟩
  refine uq (xs:=ps.map V.ref) (fun m τ H'=>∃ v0 v1 es,τ = [v0,v1]/\bT H2 H'/\iM fq H' ol es (fr m (Sw.dQ ss))) ⟨none,none,[],rfl,cZ F5,⟨cO,.nil⟩⟩ (fun m τ H' _ ⟨_,_,_,_,s',_⟩=>.of (s' _ _ zK.hl)) ?_ ?_
  ·rintro m y τ H3 hy ⟨v0,v1,es,rfl,s3,L3⟩
   obtain ⟨p,F6,rfl⟩:∃ p,ps[m]? = some p/\V.ref p=y:=by simpa using hy
   have hm:m<ss.length:=by have:=(aa.mp F6).1; omega
   obtain ⟨p',pl,pr,e1,_,h1,h2,h3⟩:=(zK.same s3).item hm
   rw [F6] at e1
   cases e1
   have el:=pQ L3.r
   rw [t8] at el
   refine ⟨p,_,rfl,.of h1,rfl,_,_,rfl,_,_,rfl,rfl,?_⟩
   simp only [lU,if_true]
   walk_at "rd"
   refine fj (.of h2) rfl (fj (.of h3) rfl (fj (.of h2) rfl (fj (.of h3) rfl ?_)))
   refine ⟨_,_,200,rfl,by decide,(Sw.pG PL m).d,fun _ r Bv=>?_,fun z=>absurd z (Sw.c6 _)⟩
   rw [Sw.yy]
   have n2:=cZ (o:=.tup (fq (Sw.dQ ss m))) Bv
   have L2:=L3.same n2
   have kt:∀ b xs,aQ H3 r (.tup (fq (Sw.dQ ss m))) b=some (.tup xs)->aQ (aQ H3 r (.tup (fq (Sw.dQ ss m)))) ol (.lst (es.map V.ref++[.ref r])) b=some (.tup xs):=fun b xs e=>by
    rw [c8 (b7 e L2.hl (by intro z; cases z))]; exact e
   refine ⟨_,L2.hl,cX (by rw [ae]; omega),fun b o e=>?_,es++[r],?_⟩
   ·rw [c8 (gX e F5)]; exact n2 _ _ (s3 _ _ e)
   ·rw [EJ]
    exact ⟨by rw [cO,ay]; rfl,tY (kt _ _ cO) (qf L2.r kt)⟩
  rintro τ H3 ⟨v0,v1,es,rfl,s3,OL⟩
  rw [ae,len] at OL
  refine hR _ _ ?_
  have Dh:H ol=none:=EA.free F5
  have UT:fl≠ol:=gX CY F5
  have Bk:=zK.same s3
  have rh:=s3 _ _ CY
  have AW:=EA.trans s3
  clear s3 EA CY zK F5
  have Em:=pQ OL.r
  rw [t8] at Em
  refine di fun R hR=>?_
  walk_at "rd"
  intro pa fa
  have n1:=cZ (o:=.tup [.int 1,.int 1]) fa
  have sf:aQ H3 pa (.tup [.int 1,.int 1]) pa=some (.tup (fq ((1:Int):Rat))):=sy (n:=1)
  have OL:=OL.same n1
  have Bk:=Bk.same n1
  have rh:=n1 _ _ rh
  have AW:=AW.trans n1
  generalize aQ H3 pa (.tup [.int 1,.int 1])=H4 at sf OL Bk rh AW ⊢
  clear n1 fa
  refine ⟨⟨_,.of OL.hl⟩,fun Cl zT=>?_⟩
  refine Jb (xs:=es.map V.ref) (fun m τ H'=>∃ v0 v1 cs,τ = [v0,v1,some (.ref fl)]/\bT H4 H'/\iM fq H' Cl cs (((aD m).filter fun i=>!decide (i∈Sw.bY ss h)).map (Sw.dQ ss))/\cs.length<=m) ⟨none,none,[],rfl,cZ zT,⟨cO,.nil⟩,av _⟩ (fun m τ H' _ ⟨_,_,_,_,s',_⟩=>.of (s' _ _ OL.hl)) ?_ ?_
  ·rintro m y τ H5 p hy ⟨v0,v1,cs,rfl,s5,L5,le⟩ lX
   obtain ⟨px,ud,rfl⟩:∃ p,es[m]? = some p/\V.ref p=y:=by simpa using hy
   have hm:m<ss.length:=by have:=(aa.mp ud).1; omega
   obtain ⟨q,hq,ue⟩:=wX OL.r ud
   rw [xB _ hm] at hq
   cases hq
   have sn:=cZ (o:=.tup [.int m,.ref px]) lX
   have s5:=s5.trans sn
   have L5:=L5.same sn
   refine ⟨p,_,rfl,.of cO,rfl,_,_,rfl,_,_,rfl,rfl,?_⟩
   generalize aQ H5 p (.tup [.int m,.ref px])=H6 at s5 L5 ⊢
   clear sn lX
   walk_at "rd"
   refine ⟨fl,_,rfl,.inl (.of (s5 _ _ rh)),rfl,Ql _,?_⟩
   have Tk:(if true=true then !Ey (.int (m:Nat)) ((Sw.bY ss h).map iI) else Ey (.int (m:Nat)) ((Sw.bY ss h).map iI)) = !decide (m∈Sw.bY ss h):=by rw [if_pos rfl,Xa]
   rw [Tk,dF,cG,aZ,i7]
   by_cases c:m∈Sw.bY ss h
   ·rw [decide_eq_true c]
    walk_at "rd"
    exact ⟨s5,cs,L5,by omega⟩
   ·rw [decide_eq_false c]
    walk_at "rd"
    have kt:∀ b xs,H6 b=some (.tup xs)->aQ H6 Cl (.lst (cs.map V.ref++[.ref px])) b=some (.tup xs):=fun b xs e=>by
     rw [c8 (b7 e L5.hl (by intro z; cases z))]; exact e
    refine ⟨_,L5.hl,cX (by rw [ae]; omega),fun b o e=>?_,cs++[px],?_,by rw [aO]; show cs.length+1<=_; omega⟩
    ·rw [c8 (gX e zT)]; exact s5 _ _ e
    ·rw [ay]
     exact ⟨by rw [cO,ay]; rfl,tY (kt _ _ (s5 _ _ ue)) (qf L5.r kt)⟩
  rintro τ H5 ⟨v0,v1,cs,rfl,s5,L5,le⟩
  rw [ae,Em] at L5
  refine ⟨Cl,cs,Sw.mO ss h,rfl,L5,fun i=>(Sw.tL PL h i).mono (by decide),fun q hq=>?_,fun tr H6 s6 Ob=>?_⟩
  ·obtain ⟨j,_,rfl⟩:=aP.mp hq
   exact (Sw.pG PL j).mono (by decide)
  have s6:=s5.trans s6
  have zr:=Sw.tL PL h (Sw.mO ss h).length
  rw [iQ] at zr
  refine ⟨pa,tr,((1:Int):Rat),_,1200,rfl,s6 _ _ sf,Ob,by decide,(Sw.cL.int (n:=1) (z:=4) (Sw.Sz.one _)).mono (by decide),zr.mono (by decide),fun lf Ny=>hR _ _ ?_⟩
  have el:((1:Int):Rat)-Sw.tq (Sw.mO ss h)=Sw.eO ss h:=rfl
  rw [el]
  have n2:=cZ (o:=.tup (fq (Sw.eO ss h))) Ny
  have N1:aQ H6 lf (.tup (fq (Sw.eO ss h))) lf=some (.tup (fq (Sw.eO ss h))):=cO
  have s6:=s6.trans n2
  have OL:=OL.same s6
  have Bk:=Bk.same s6
  have rh:=s6 _ _ rh
  have AW:=AW.trans s6
  generalize aQ H6 lf (.tup (fq (Sw.eO ss h)))=H7 at N1 OL Bk rh AW ⊢
  clear n2 Ny s6 s5 L5 Ob sf zT
  refine di fun R hR=>?_
  refine ur fun Z hZ=>?_
  walk_at "rd"
  refine ⟨⟨_,.of rh⟩,hZ _ _ ?_⟩
  refine z9 (K:=K) (a:=fl) (xs:=(Sw.bY ss h).map iI) (fun m σ H'=>∃ v6 os,σ = [some (.ref sl),some (.ref hl),some (.ref fl),some (.int (Sw.sumF ss h)),some (.ref ol),some (.ref lf),v6]/\(∀ b o,b≠ol->H7 b=some o->H' b=some o)/\iM fq H' ol os (fr ss.length (fun i=>if i∈(Sw.bY ss h).take m then Sw.eO ss h*((Sw.dU ss i:Rat) / (Sw.sumF ss h:Rat)) else Sw.dQ ss i))) ⟨none,es,rfl,fun _ _ _ e=>e,by simpa using OL⟩ (fun m σ H' _ ⟨_,_,_,kp,_⟩=>.of (kp _ _ UT rh)) ?_ ?_
  ·rintro m y σ H8 hy ⟨v6,os,rfl,kp,O8⟩
   obtain ⟨i,hi,rfl⟩:∃ p,(Sw.bY ss h)[m]? = some p/\iI p=y:=by simpa using hy
   have BD:=(Sw.dj.mp (aq hi)).1
   obtain ⟨p,pl,pr,_,xi,h1,h2,h3⟩:=Bk.item BD
   have sj:=pQ O8.r
   rw [t8] at sj
   have yt:sl≠ol:=gX SL.hl Dh
   have kt:∀ b xs,H7 b=some (.tup xs)->H8 b=some (.tup xs):=fun b xs e=>kp _ _ (b7 e OL.hl (by intro z; cases z)) e
   show ny _ _ _ [some (.ref sl),some (.ref hl),some (.ref fl),some (.int (Sw.sumF ss h)),some (.ref ol),some (.ref lf),some (.int (i:Int))] H8
   refine t7 fun N hN=>?_
   walk_at "rd"
   refine qP (.of (kp _ _ yt Bk.hl)) xi ?_
   refine fj (.of (kt _ _ h1)) rfl ?_
   have shb:1<=Sw.dU ss i/\Sw.dU ss i<=1000000000000000000:=by
    obtain ⟨s0,wF,e0,_⟩:=Sw.fX BD
    have:=PL.s1 s0 wF
    refine ⟨by rw [e0]; exact this,?_⟩
    have:=Sw.GW PL (aq hi)
    omega
   refine ⟨_,_,70,rfl,by decide,Sw.Sz.j5 (by omega) (by omega),fun _ r1 f1=>?_,fun z=>absurd z (by omega)⟩
   have m1:=cZ (o:=.tup (fq ((Sw.dU ss i:Rat) / (Sw.sumF ss h:Rat)))) f1
   refine ⟨lf,r1,Sw.eO ss h,_,1200,rfl,m1 _ _ (kt _ _ N1),cO,by decide,(Sw.AE PL h).mono (by decide),(Sw.cL.of (z:=70) (by omega) rfl (Sw.Sz.j5 (by omega) (by omega)) (Sw.Sz.j5 (by omega) (by omega))).mono (by decide),fun r2 f2=>?_⟩
   have m2:=cZ (o:=.tup (fq (Sw.eO ss h*((Sw.dU ss i:Rat) / (Sw.sumF ss h:Rat))))) f2
   have BI:=m1.trans m2
   have zW:aQ (aQ H8 r1 (.tup (fq ((Sw.dU ss i:Rat) / (Sw.sumF ss h:Rat))))) r2 (.tup (fq (Sw.eO ss h*((Sw.dU ss i:Rat) / (Sw.sumF ss h:Rat))))) r2=some (.tup (fq (Sw.eO ss h*((Sw.dU ss i:Rat) / (Sw.sumF ss h:Rat))))):=cO
   generalize aQ (aQ H8 r1 (.tup (fq ((Sw.dU ss i:Rat) / (Sw.sumF ss h:Rat))))) r2 (.tup (fq (Sw.eO ss h*((Sw.dU ss i:Rat) / (Sw.sumF ss h:Rat)))))=H9 at BI zW ⊢
   clear m1 m2 f1 f2
   have O9:=O8.same BI
   simp only [FA]
   walk_at "rd"
   refine ⟨ol,_,_,i,rfl,rfl,O9.hl,XW (by rw [ae]; omega),hN _ _ ?_⟩
   refine ⟨_,os.set i r2,rfl,fun b o n e=>?_,?_⟩
   ·rw [c8 n]; exact BI _ _ (kp _ _ n e)
   ·have Oh:∀ b xs,H9 b=some (.tup xs)->aQ H9 ol (.lst ((os.map V.ref).set i (.ref r2))) b=some (.tup xs):=fun b xs e=>by
     rw [c8 (b7 e O9.hl (by intro z; cases z))]; exact e
    have st:=Qm (Oh _ _ zW) i (qf O9.r Oh)
    rw [Y0] at st
    refine ⟨by rw [cO,List.map_set],?_⟩
    rw [aV hi]
    have ec:∀ j,j<ss.length->(if j=i then Sw.eO ss h*((Sw.dU ss i:Rat) / (Sw.sumF ss h:Rat)) else if j∈(Sw.bY ss h).take m then Sw.eO ss h*((Sw.dU ss j:Rat) / (Sw.sumF ss h:Rat)) else Sw.dQ ss j)=if j∈(Sw.bY ss h).take m++[i] then Sw.eO ss h*((Sw.dU ss j:Rat) / (Sw.sumF ss h:Rat)) else Sw.dQ ss j:=fun j _=>by
     by_cases c:j=i
     ·subst c; simp
     ·simp [c]
    rw [W9 ec] at st
    exact st
  ·rintro σ H8 ⟨v6,os,rfl,kp,O8⟩
   refine hR _ _ ?_
   walk_at "rd"
   rw [aK (by rw [ae]; exact av _)] at O8
   exact k ol os H8 (fun b o e=>kp _ _ (gX e Dh) (AW _ _ e)) Dh O8
def Zf:Sp:=fun vs H Q _=>∃ hl hp fl fp ss L h,vs = [.ref hl,.ref fl]/\iM fq H hl hp (fr ss.length h)/\iM fq H fl fp (fr ss.length (Sw.dZ ss h))/\Sw.Plan ss L/\(∀ i,Sw.cL 1200 (h i))/\Sw.bY ss h≠[]/\∀ r H',bT H H'->H' r=some (.tup (fq (Sw.i9 ss h)))->Q (.ref r) H'
theorem VC (T:Txt K mg cA):jT P w K mg base (jK P w) 4 "time_to_empty" ["heaps", "falls"] Zf:=by
 have c5:=xA (P:=P) (w:=w) (base:=base) T
 have j8:=JE (P:=P) (w:=w) (base:=base) T
 have jL:=Jt (P:=P) (w:=w) (base:=base) T
 refine T.mS.okN (k:=3) Vx (fun vs H Q E h=>?_) (fun f e6 A outer s H vs Q E hr h=>?_)
 ·obtain ⟨hl,hp,fl,fp,ss,L,h,rfl,_⟩:=h
  rfl
 ·obtain ⟨hl,hp,fl,fp,ss,L,h,rfl,HL,FL,PL,sz,ne,k⟩:=h
  refine ⟨_,(fL (jy (dM jL (hr.mono (by decide)) rfl aU (aS (iK ["heap", "fall"] [] rfl (by with_unfolding_all rfl) (by decide +kernel) rfl (by decide +kernel) (by exact aN) (by with_unfolding_all rfl) aN (Rm K rfl rfl T.yq (aS (pv 0) (aS (pv 1) bU))) (fun _ _ _=>(qi (n:=2) K rfl rfl (iT (gu (i:=0) (show (["heap", "fall"]:List Str).Nodup from by decide +kernel) rfl (by first|left;rfl|right;rfl)) (iT (gu (i:=1) (show (["heap", "fall"]:List Str).Nodup from by decide +kernel) rfl (by first|left;rfl|right;rfl)) qh)))) (fun _ _ _=>(Cf (qM (dM c5 (hr.mono (by decide)) rfl aU (aS (lI (aS bO (aS bO bU))) (aS (pv 1) bU)))))) (fun _ _ _=>(dM j8 (hr.mono (by decide)) rfl aU (aS (pv 0) (aS (pv 1) bU))))) bU)))),?_⟩
  show oh _ _ [some (.ref hl),some (.ref fl)] H
  have n8:=PL.n8
  have l1:=pQ HL.r
  have l2:=pQ FL.r
  rw [t8] at l1 l2
  have fz:=fun i=>Sw.x8 PL ne i
  walk_at "rd"
  simp only [AA]
  walk_at "rd"
  refine ⟨⟨_,.of HL.hl⟩,⟨_,.of FL.hl⟩,fun Dl iH=>?_⟩
  refine QJ (xs:=hp.map V.ref) (ys:=fp.map V.ref) (fun m τ H'=>∃ v0 v1 es,τ = [v0,v1]/\bT H H'/\iM fq H' Dl es (((aD m).filter fun i=>decide (0<Sw.dZ ss h i)).map fun i=>h i / Sw.dZ ss h i)/\es.length<=m) ⟨none,none,[],rfl,cZ iH,⟨cO,.nil⟩,av _⟩ (by rw [ae,ae]; omega) (fun m τ H' _ ⟨_,_,_,_,s',_⟩=>⟨.of (s' _ _ HL.hl),.of (s' _ _ FL.hl)⟩) ?_ ?_
  ·rintro m x y τ H1 p hx hy ⟨v0,v1,es,rfl,s1,L1,le⟩ lX
   obtain ⟨px,ud,rfl⟩:∃ p,hp[m]? = some p/\V.ref p=x:=by simpa using hx
   obtain ⟨py,Ga,rfl⟩:∃ p,fp[m]? = some p/\V.ref p=y:=by simpa using hy
   have hm:m<ss.length:=by have:=(aa.mp ud).1; omega
   obtain ⟨q,hq,ue⟩:=wX HL.r ud
   rw [xB h hm] at hq
   cases hq
   obtain ⟨q,hq,Im⟩:=wX FL.r Ga
   rw [xB _ hm] at hq
   cases hq
   have sn:=cZ (o:=.tup [.ref px,.ref py]) lX
   have s1:=s1.trans sn
   have L1:=L1.same sn
   refine ⟨p,_,rfl,.of cO,rfl,_,_,rfl,_,_,rfl,rfl,?_⟩
   generalize aQ H1 p (.tup [.ref px,.ref py])=H2 at s1 L1 ⊢
   clear sn lX
   walk_at "rd"
   intro pa fa
   have n1:=cZ (o:=.tup [.int 0,.int 1]) fa
   have s1:=s1.trans n1
   have L1:=L1.same n1
   refine ⟨pa,py,((0:Int):Rat),_,rfl,sy (n:=0),s1 _ _ Im,(Sw.cL.int (n:=0) (z:=4) (Sw.Sz.zero _)).mono (by decide),(fz m).mono (by decide),?_⟩
   generalize aQ H2 pa (.tup [.int 0,.int 1])=H3 at s1 L1 ⊢
   have e0:decide (((0:Int):Rat)<Sw.dZ ss h m)=decide (0<Sw.dZ ss h m):=rfl
   rw [e0,dF,cG,aZ,i7]
   walk_at "rd"
   refine ir (fun c=>?_) fun c=>?_
   ·refine ⟨px,py,_,_,1200,rfl,s1 _ _ ue,s1 _ _ Im,by decide,sz m,(fz m).mono (by decide),fun z=>by rw [z] at c; exact absurd c (by decide),fun r oE=>?_⟩
    have n2:=cZ (o:=.tup (fq (h m / Sw.dZ ss h m))) oE
    have L2:=L1.same n2
    have kt:∀ b xs,aQ H3 r (.tup (fq (h m / Sw.dZ ss h m))) b=some (.tup xs)->aQ (aQ H3 r (.tup (fq (h m / Sw.dZ ss h m)))) Dl (.lst (es.map V.ref++[.ref r])) b=some (.tup xs):=fun b xs e=>by
     rw [c8 (b7 e L2.hl (by intro z; cases z))]; exact e
    refine ⟨_,L2.hl,cX (by rw [ae]; omega),fun b o e=>?_,es++[r],?_,by rw [aO]; show es.length+1<=_; omega⟩
    ·rw [c8 (gX e iH)]; exact n2 _ _ (s1 _ _ e)
    ·rw [if_pos c,ay]
     exact ⟨by rw [cO,ay]; rfl,tY (kt _ _ cO) (qf L2.r kt)⟩
   ·rw [if_neg c,bx]
    exact ⟨s1,es,L1,by omega⟩
  rintro τ H1 ⟨v0,v1,es,rfl,s1,L1,le⟩
  rw [ae,l1] at L1
  refine ⟨Dl,es,Sw.yY ss h,rfl,L1,Sw.yZ PL ne,fun q hq=>?_,fun r H2 s2 h2=>k r H2 (s1.trans s2) h2⟩
  obtain ⟨i,_,c,rfl⟩:=Sw.oG.mp hq
  exact ((sz i).div (Sw.kI (by grind)) (fz i)).mono (by decide)
def Xl:Sp:=fun vs H Q _=>∃ l ps ss L,vs = [.ref l]/\qU H l ps ss/\Sw.Plan ss L/\∀ cl cp m H',bT H H'->H cl=none->E7 ss H' cl cp m->fD ss m->Q (.ref cl) H'
theorem QX (T:Txt K mg cA):jT P w K mg base (jK P w) 6 "course" ["senders"] Xl:=by
 have pU:=VG (P:=P) (w:=w) (base:=base) T
 have j7:=Px (P:=P) (w:=w) (base:=base) T
 have vW:=WL (P:=P) (w:=w) (base:=base) T
 have nM:=VC (P:=P) (w:=w) (base:=base) T
 have cW:=wZ (P:=P) (w:=w) (base:=base) T
 have gc:=Cp (P:=P) (w:=w) (base:=base) T
 have eR:=DP (P:=P) (w:=w) (base:=base) T
 have gY:=EL (P:=P) (w:=w) (base:=base) T
 refine T.uW.okN (k:=5) fV (fun vs H Q E h=>?_) (fun f e6 A outer s H vs Q E hr h=>?_)
 ·obtain ⟨l,ps,ss,L,rfl,_⟩:=h
  rfl
 ·obtain ⟨l,ps,ss,L,rfl,SL,PL,k⟩:=h
  refine ⟨_,(c7 (xz (dM pU (hr.mono (by decide)) rfl aU (aS (pv 0) bU))) (c7 (HC (i0:=1) ["share", "line"] [] rfl (by with_unfolding_all rfl) (by decide +kernel) rfl (by decide +kernel) (by exact aN) (by with_unfolding_all rfl) aN (nK K rfl (pv 0)) (fun _ _ _=>(qi (n:=2) K rfl rfl (iT (gu (i:=0) (show (["share", "line"]:List Str).Nodup from by decide +kernel) rfl (by first|left;rfl|right;rfl)) (iT (gu (i:=1) (show (["share", "line"]:List Str).Nodup from by decide +kernel) rfl (by first|left;rfl|right;rfl)) qh)))) (fun _ _ _=>u9) (fun _ _ _=>(dM cW (hr.mono (by decide)) rfl aU (aS (bg (fh K rfl) (pv 1) bO (fun _ _=>rfl)) (aS bO bU)))) (by with_unfolding_all rfl) fV.nd rfl (by first|left;rfl|right;rfl)) (c7 (eu (i:=2) fV.nd rfl (dM cW (hr.mono (by decide)) rfl aU (aS bO (aS bO bU)))) (c7 (eu (i:=3) fV.nd rfl (su bU)) (c7 (Hv PassesOwn.never (Ht K rfl (dM j7 (hr.mono (by decide)) rfl aU (aS (pv 1) bU))) (c7 (eu (i:=4) fV.nd rfl (dM vW (hr.mono (by decide)) rfl aU (aS (pv 0) (aS (pv 1) bU)))) (c7 (HC (i0:=5) ["number", "out"] [("senders", 0)] rfl (by with_unfolding_all rfl) (by decide +kernel) rfl (by decide +kernel) (by exact ⟨rfl,aN⟩) (by with_unfolding_all rfl) ⟨⟨rfl,rfl,rfl⟩,aN⟩ (DJ K rfl rfl T.fP (aS (pv 4) bU)) (fun _ _ _=>(qi (n:=2) K rfl rfl (iT (gu (i:=0) (show (["number", "out", "senders"]:List Str).Nodup from by decide +kernel) rfl (by first|left;rfl|right;rfl)) (iT (gu (i:=1) (show (["number", "out", "senders"]:List Str).Nodup from by decide +kernel) rfl (by first|left;rfl|right;rfl)) qh)))) (fun _ _ _=>u9) (fun _ _ _=>(dM eR (hr.mono (by decide)) rfl aU (aS (pv 1) (aS (bg (fh K rfl) (bg (fh K rfl) (bg (mU K rfl) (pv 2) (pv 0) (fun _ _=>rfl)) bO (fun _ _=>rfl)) bO (fun _ _=>rfl)) bU)))) (by with_unfolding_all rfl) fV.nd rfl (by first|left;rfl|right;rfl)) (c7 (eu (i:=6) fV.nd rfl (dM nM (hr.mono (by decide)) rfl aU (aS (pv 1) (aS (pv 5) bU)))) (c7 (eu (i:=7) fV.nd rfl (dM gc (hr.mono (by decide)) rfl aU (aS (pv 2) (aS (pv 6) bU)))) (c7 (xz (kH bX b8 b9 wW (pv 3) (aS (lI (aS (pv 2) (aS (pv 7) (aS (pv 4) (aS (pv 1) bU))))) bU))) (c7 (HC (i0:=1) ["heap", "fall"] [("time", 6)] rfl (by with_unfolding_all rfl) (by decide +kernel) rfl (by decide +kernel) (by exact ⟨rfl,aN⟩) (by with_unfolding_all rfl) ⟨⟨rfl,rfl,rfl⟩,aN⟩ (Rm K rfl rfl T.yq (aS (pv 1) (aS (pv 5) bU))) (fun _ _ _=>(qi (n:=2) K rfl rfl (iT (gu (i:=0) (show (["heap", "fall", "time"]:List Str).Nodup from by decide +kernel) rfl (by first|left;rfl|right;rfl)) (iT (gu (i:=1) (show (["heap", "fall", "time"]:List Str).Nodup from by decide +kernel) rfl (by first|left;rfl|right;rfl)) qh)))) (fun _ _ _=>u9) (fun _ _ _=>(dM eR (hr.mono (by decide)) rfl aU (aS (pv 0) (aS (dM gY (hr.mono (by decide)) rfl aU (aS (pv 1) (aS (pv 2) bU))) bU)))) (by with_unfolding_all rfl) fV.nd rfl (by first|left;rfl|right;rfl)) (fL (eu (i:=2) fV.nd rfl (pv 7)))))))))) (fL (jy (pv 3)))))))),?_⟩
  show fU _ _ _ [some (.ref l),none,none,none,none,none,none,none] H
  have len:=SL.len
  have n8:=PL.n8
  refine di fun R hR=>?_
  walk_at "rd"
  refine ⟨l,ps,ss,L,rfl,SL,PL,fun H1 s1=>hR _ _ ?_⟩
  have uc:=SL.same s1
  refine di fun R hR=>?_
  walk_at "rd"
  refine ⟨⟨_,.of uc.hl⟩,fun hl KA=>?_⟩
  refine uq (xs:=ps.map V.ref) (fun m τ H'=>∃ v0 v1 es,τ = [v0,v1]/\bT H1 H'/\iM fq H' hl es (fr m (Sw.bj ss 0).1)) ⟨none,none,[],rfl,cZ KA,⟨cO,.nil⟩⟩ (fun m τ H' _ ⟨_,_,_,_,s',_⟩=>.of (s' _ _ uc.hl)) ?_ ?_
  ·rintro m y τ H3 hy ⟨v0,v1,es,rfl,s3,L3⟩
   obtain ⟨p,F6,rfl⟩:∃ p,ps[m]? = some p/\V.ref p=y:=by simpa using hy
   have hm:m<ss.length:=by have:=(aa.mp F6).1; omega
   obtain ⟨p',pl,pr,e1,_,h1,h2,h3⟩:=(uc.same s3).item hm
   rw [F6] at e1
   cases e1
   have el:=pQ L3.r
   rw [t8] at el
   refine ⟨p,_,rfl,.of h1,rfl,_,_,rfl,_,_,rfl,rfl,?_⟩
   simp only [lU,if_true]
   walk_at "rd"
   refine fj (.of h2) rfl ?_
   refine ⟨_,_,70,rfl,by decide,Sw.Sz.j5 (by decide) (by decide),fun _ r Bv=>?_,fun z=>absurd z (by decide)⟩
   rw [Kf]
   have n2:=cZ (o:=.tup (fq (Sw.d8 ss m:Rat))) Bv
   have L2:=L3.same n2
   have kt:∀ b xs,aQ H3 r (.tup (fq (Sw.d8 ss m:Rat))) b=some (.tup xs)->aQ (aQ H3 r (.tup (fq (Sw.d8 ss m:Rat)))) hl (.lst (es.map V.ref++[.ref r])) b=some (.tup xs):=fun b xs e=>by
    rw [c8 (b7 e L2.hl (by intro z; cases z))]; exact e
   refine ⟨_,L2.hl,cX (by rw [ae]; omega),fun b o e=>?_,es++[r],?_⟩
   ·rw [c8 (gX e KA)]; exact n2 _ _ (s3 _ _ e)
   ·rw [EJ]
    exact ⟨by rw [cO,ay]; rfl,tY (kt _ _ cO) (qf L2.r kt)⟩
  rintro τ H2 ⟨v0,v1,es,rfl,s2,HL⟩
  rw [ae,len] at HL
  refine hR _ _ ?_
  have zK:=uc.same s2
  have sm:=s1.trans s2
  clear s1 s2 uc KA
  refine di fun R hR=>?_
  walk_at "rd"
  refine ⟨_,_,70,rfl,by decide,Sw.Sz.j5 (by decide) (by decide),fun _ pm fm=>hR _ _ ?_,fun z=>absurd z (by decide)⟩
  rw [As]
  have n1:=cZ (o:=.tup (fq 0)) fm
  have oA:aQ H2 pm (.tup (fq 0)) pm=some (.tup (fq 0)):=cO
  have zK:=zK.same n1
  have HL:=HL.same n1
  have sm:=sm.trans n1
  generalize aQ H2 pm (.tup (fq 0))=H3 at oA zK HL sm ⊢
  clear n1 fm
  refine di fun R hR=>?_
  walk_at "rd"
  intro pl pY
  refine hR _ _ ?_
  have Di:H pl=none:=sm.free pY
  have n2:=cZ (o:=.lst []) pY
  refine di fun R hR=>?_
  refine XV (fun m σ H'=>∃ k hl hp pm pp v4 v5 v6 v7,σ = [some (.ref l),some (.ref hl),some (.ref pm),some (.ref pl),v4,v5,v6,v7]/\bT H3 H'/\iM fq H' hl hp (fr ss.length (Sw.bj ss k).1)/\H' pm=some (.tup (fq (Sw.bj ss k).2))/\H' pl=some (.lst (pp.map V.ref))/\Paired (we ss (mn H' pl)) pp (aD k)/\(∀ j,j<k->Sw.bY ss (Sw.bj ss j).1≠[])/\hl≠pl/\(Sw.bY ss (Sw.bj ss k).1).length=m) ⟨0,hl,es,pm,[],none,none,none,none,rfl,n2,HL.same n2,n2 _ _ oA,cO,.nil,fun j h=>absurd h (lA _),gX HL.hl pY,rfl⟩ ?_
  rintro m σ H4 ⟨kk,hl,hp,pm,pp,v4,v5,v6,v7,rfl,s4,HL,oA,jF,PP,go,OA,em⟩ Q' hT hF
  obtain ⟨z,le⟩:=Sw.xU PL kk go
  obtain ⟨zh,zm⟩:=z.sz (by omega)
  walk_at "rd"
  refine ⟨hl,hp,ss.length,(Sw.bj ss kk).1,rfl,HL,n8,zh,fun fl H5 s5 AK mC=>?_⟩
  have mC:H5 fl=some (.lst ((Sw.bY ss (Sw.bj ss kk).1).map iI)):=mC
  have U4:=Paired.length PP
  rw [dm] at U4
  by_cases ne:Sw.bY ss (Sw.bj ss kk).1 = []
  ·refine ⟨false,.inl ⟨_,.of mC,?_⟩,hF _ ?_⟩
   ·rw [ne]; rfl
   ·refine hR _ _ ?_
    walk_at "rd"
    refine k pl pp kk H5 (fun b o e=>s5 _ _ (s4 _ _ (sm _ _ e))) Di ⟨s5 _ _ jF,Paired.gB PP fun _ _ q=>q.same (AI.trans s5)⟩ ⟨go,ne,by omega⟩
  ·refine ⟨true,.inl ⟨_,.of mC,?_⟩,hT _ ?_⟩
   ·cases e:Sw.bY ss (Sw.bj ss kk).1 with
    | nil=>exact absurd e ne
    | cons a b=>rfl
   have HL:=HL.same s5
   have oA:=s5 _ _ oA
   have jF:=s5 _ _ jF
   have PP:Paired (we ss (mn H5 pl)) pp (aD kk):=Paired.gB PP fun _ _ q=>q.same (DO s5)
   have s4:=s4.trans s5
   have JM:=zK.same s4
   clear s5 AK mC
   have lt:=Sw.vC PL ne z.h0
   have Lk:kk+1<=8:=by
    have:0<(Sw.bY ss (Sw.bj ss kk).1).length:=List.length_pos_iff.mpr ne
    omega
   obtain ⟨Pj,zt⟩:=Sw.B8 PL ne z (by omega)
   have zo:=fun i=>Sw.uS PL ne i
   have zf:=fun i=>Sw.x8 PL ne i
   have zr:=fun i=>Sw.pG PL i
   have ez:Sw.bj ss (kk+1)=(Sw.qE ss (Sw.bj ss kk).1,(Sw.bj ss kk).2+Sw.i9 ss (Sw.bj ss kk).1):=rfl
   show fU _ _ _ [some (.ref l),some (.ref hl),some (.ref pm),some (.ref pl),v4,v5,v6,v7] H5
   generalize eh:(Sw.bj ss kk).1=hh at ne HL z zh lt Pj zt zo zf ez
   refine t7 fun N hN=>?_
   refine di fun R hR=>?_
   walk_at "rd"
   refine ⟨l,ps,ss,L,hl,hp,hh,rfl,JM,HL,PL,zh,ne,fun ol op H6 s6 Dh OL=>hR _ _ ?_⟩
   have Lz:ol≠pl:=fun e=>by rw [e,jF] at Dh; cases Dh
   have HL:=HL.same s6
   have oA:=s6 _ _ oA
   have jF:=s6 _ _ jF
   have PP:Paired (we ss (mn H6 pl)) pp (aD kk):=Paired.gB PP fun _ _ q=>q.same (DO s6)
   have s4:=s4.trans s6
   have JN:=JM.same s6
   clear s6 Dh JM
   have F9:=jF
   have OF:=pQ OL.r
   rw [t8] at OF
   refine di fun R hR=>?_
   walk_at "rd"
   refine ⟨⟨_,.of OL.hl⟩,fun fl mC=>?_⟩
   refine Jb (xs:=op.map V.ref) (fun m τ H'=>∃ v0 v1 es,τ = [v0,v1,some (.ref l)]/\bT H6 H'/\iM fq H' fl es (fr m (Sw.dZ ss hh))) ⟨none,none,[],rfl,cZ mC,⟨cO,.nil⟩⟩ (fun m τ H' _ ⟨_,_,_,_,s',_⟩=>.of (s' _ _ OL.hl)) ?_ ?_
   ·rintro m y τ H7 p hy ⟨v0,v1,es,rfl,s7,L7⟩ lX
    obtain ⟨px,ud,rfl⟩:∃ p,op[m]? = some p/\V.ref p=y:=by simpa using hy
    have hm:m<ss.length:=by have:=(aa.mp ud).1; omega
    obtain ⟨q,hq,ue⟩:=wX OL.r ud
    rw [xB _ hm] at hq
    cases hq
    have el:=pQ L7.r
    rw [t8] at el
    have sn:=cZ (o:=.tup [.int m,.ref px]) lX
    have s7:=s7.trans sn
    have L7:=L7.same sn
    refine ⟨p,_,rfl,.of cO,rfl,_,_,rfl,_,_,rfl,rfl,?_⟩
    generalize aQ H7 p (.tup [.int m,.ref px])=H8 at s7 L7 ⊢
    clear sn lX
    obtain ⟨p',LF,pr,_,xi,h1,h2,h3⟩:=(JN.same s7).item hm
    simp only [lU,if_true]
    walk_at "rd"
    refine qP (.of (JN.same s7).hl) xi ?_
    refine fj (.of h1) rfl (fj (.of h2) rfl ?_)
    refine ⟨px,pr,_,_,1200,rfl,s7 _ _ ue,h3,by decide,(zo m).mono (by decide),(zr m).mono (by decide),fun r Bv=>?_⟩
    have ef:Sw.cN ss hh m-Sw.dQ ss m=Sw.dZ ss hh m:=rfl
    rw [ef]
    have n2:=cZ (o:=.tup (fq (Sw.dZ ss hh m))) Bv
    have L2:=L7.same n2
    have kt:∀ b xs,aQ H8 r (.tup (fq (Sw.dZ ss hh m))) b=some (.tup xs)->aQ (aQ H8 r (.tup (fq (Sw.dZ ss hh m)))) fl (.lst (es.map V.ref++[.ref r])) b=some (.tup xs):=fun b xs e=>by
     rw [c8 (b7 e L2.hl (by intro z; cases z))]; exact e
    refine ⟨_,L2.hl,cX (by rw [ae]; omega),fun b o e=>?_,es++[r],?_⟩
    ·rw [c8 (gX e mC)]; exact n2 _ _ (s7 _ _ e)
    ·rw [EJ]
     exact ⟨by rw [cO,ay]; rfl,tY (kt _ _ cO) (qf L2.r kt)⟩
   rintro τ H7 ⟨v0,v1,fp,rfl,s7,FL⟩
   rw [ae,OF] at FL
   refine hR _ _ ?_
   have HL:=HL.same s7
   have OL:=OL.same s7
   have oA:=s7 _ _ oA
   have jF:=s7 _ _ jF
   have PP:Paired (we ss (mn H7 pl)) pp (aD kk):=Paired.gB PP fun _ _ q=>q.same (DO s7)
   have s4:=s4.trans s7
   have AK:fl≠pl:=fun e=>by rw [e,F9] at mC; cases mC
   clear s7 mC JN
   refine di fun R hR=>?_
   walk_at "rd"
   refine ⟨hl,hp,fl,fp,ss,L,hh,rfl,HL,FL,PL,zh,ne,fun pt H8 s8 oB=>hR _ _ ?_⟩
   have HL:=HL.same s8
   have OL:=OL.same s8
   have FL:=FL.same s8
   have oA:=s8 _ _ oA
   have jF:=s8 _ _ jF
   have PP:Paired (we ss (mn H8 pl)) pp (aD kk):=Paired.gB PP fun _ _ q=>q.same (DO s8)
   have s4:=s4.trans s8
   clear s8
   refine di fun R hR=>?_
   walk_at "rd"
   refine ⟨pm,pt,_,_,1200,rfl,oA,oB,by decide,zm,zt,fun pa fa=>hR _ _ ?_⟩
   have s9:=cZ (o:=.tup (fq ((Sw.bj ss kk).2+Sw.i9 ss hh))) fa
   have sf:aQ H8 pa (.tup (fq ((Sw.bj ss kk).2+Sw.i9 ss hh))) pa=some (.tup (fq ((Sw.bj ss kk).2+Sw.i9 ss hh))):=cO
   have HL:=HL.same s9
   have OL:=OL.same s9
   have FL:=FL.same s9
   have oA:=s9 _ _ oA
   have oB:=s9 _ _ oB
   have jF:=s9 _ _ jF
   have PP:Paired (we ss (mn (aQ H8 pa (.tup (fq ((Sw.bj ss kk).2+Sw.i9 ss hh)))) pl)) pp (aD kk):=Paired.gB PP fun _ _ q=>q.same (DO s9)
   have s4:=s4.trans s9
   generalize aQ H8 pa (.tup (fq ((Sw.bj ss kk).2+Sw.i9 ss hh)))=H9 at sf HL OL FL oA oB jF PP s4 ⊢
   clear s9 fa
   refine di fun R hR=>?_
   walk_at "rd"
   refine ⟨Ba jF,?_⟩
   intro tp NE
   have lH:=cZ (o:=.tup [.ref pm,.ref pa,.ref ol,.ref hl]) NE
   have C6:aQ H9 tp (.tup [.ref pm,.ref pa,.ref ol,.ref hl]) tp=some (.tup [.ref pm,.ref pa,.ref ol,.ref hl]):=cO
   have HL:=HL.same lH
   have OL:=OL.same lH
   have FL:=FL.same lH
   have oA:=lH _ _ oA
   have sf:=lH _ _ sf
   have oB:=lH _ _ oB
   have jF:=lH _ _ jF
   have PP:Paired (we ss (mn (aQ H9 tp (.tup [.ref pm,.ref pa,.ref ol,.ref hl])) pl)) pp (aD kk):=Paired.gB PP fun _ _ q=>q.same (DO lH)
   have s4:=s4.trans lH
   generalize aQ H9 tp (.tup [.ref pm,.ref pa,.ref ol,.ref hl])=nQ at C6 sf HL OL FL oA oB jF PP s4 ⊢
   clear lH NE
   have tn:∀ {b xs},nQ b=some (.tup xs)->b≠pl:=fun e=>b7 e jF (by intro z; cases z)
   have new:we ss (mn nQ pl) tp kk:=⟨pm,pa,ol,hl,op,hp,tJ C6 (tn C6),tJ oA (tn oA),tJ (by rw [sf,ez]) (tn sf),by rw [eh]; exact OL.mn jF Lz,by rw [eh]; exact HL.mn jF OA⟩
   have Nh:Paired (we ss (mn (aQ nQ pl (.lst (pp.map V.ref++[.ref tp]))) pl)) (pp++[tp]) (aD (kk+1)):=by
    rw [Y3,dF]
    exact zj new PP
   have kl:∀ {b o},b≠pl->nQ b=some o->aQ nQ pl (.lst (pp.map V.ref++[.ref tp])) b=some o:=fun n e=>by rw [c8 n]; exact e
   have kL:∀ {x:Addr} {xs:List Addr} {qs:List Rat},x≠pl->iM fq nQ x xs qs->iM fq (aQ nQ pl (.lst (pp.map V.ref++[.ref tp]))) x xs qs:=fun n L=>⟨kl n L.hl,qf L.r fun b xs e=>kl (tn e) e⟩
   refine Ck jF (by rw [ae]; omega) (hR _ _ ?_)
   have PP:=Nh
   have HL:=kL OA HL
   have FL:=kL AK FL
   have sf:=kl (tn sf) sf
   have oB:=kl (tn oB) oB
   have C5:aQ nQ pl (.lst (pp.map V.ref++[.ref tp])) pl=some (.lst ((pp++[tp]).map V.ref)):=by rw [cO,ay]; rfl
   have s4:bT H3 (aQ nQ pl (.lst (pp.map V.ref++[.ref tp]))):=fun b o e=>kl (gX e pY) (s4 _ _ e)
   generalize aQ nQ pl (.lst (pp.map V.ref++[.ref tp]))=xg at PP HL FL sf oB C5 s4 ⊢
   clear Nh new kl kL tn C6 OL oA jF F9
   have l1:=pQ HL.r
   have l2:=pQ FL.r
   rw [t8] at l1 l2
   refine di fun R hR=>?_
   walk_at "rd"
   simp only [AA]
   walk_at "rd"
   refine ⟨⟨_,.of HL.hl⟩,⟨_,.of FL.hl⟩,fun nl Il=>?_⟩
   refine QJ (xs:=hp.map V.ref) (ys:=fp.map V.ref) (fun m τ H'=>∃ v0 v1 es,τ = [v0,v1,some (.ref pt)]/\bT xg H'/\iM fq H' nl es (fr m (Sw.qE ss hh))) ⟨none,none,[],rfl,cZ Il,⟨cO,.nil⟩⟩ (by rw [ae,ae]; omega) (fun m τ H' _ ⟨_,_,_,_,s',_⟩=>⟨.of (s' _ _ HL.hl),.of (s' _ _ FL.hl)⟩) ?_ ?_
   ·rintro m x y τ JG p hx hy ⟨v0,v1,es,rfl,uU,E1⟩ lX
    obtain ⟨px,ud,rfl⟩:∃ p,hp[m]? = some p/\V.ref p=x:=by simpa using hx
    obtain ⟨py,Ga,rfl⟩:∃ p,fp[m]? = some p/\V.ref p=y:=by simpa using hy
    have hm:m<ss.length:=by have:=(aa.mp ud).1; omega
    obtain ⟨q,hq,ue⟩:=wX HL.r ud
    rw [xB hh hm] at hq
    cases hq
    obtain ⟨q,hq,Im⟩:=wX FL.r Ga
    rw [xB _ hm] at hq
    cases hq
    have el:=pQ E1.r
    rw [t8] at el
    have sn:=cZ (o:=.tup [.ref px,.ref py]) lX
    have uU:=uU.trans sn
    have E1:=E1.same sn
    refine ⟨p,_,rfl,.of cO,rfl,_,_,rfl,_,_,rfl,rfl,?_⟩
    generalize aQ JG p (.tup [.ref px,.ref py])=M9 at uU E1 ⊢
    clear sn lX
    simp only [lU,if_true]
    walk_at "rd"
    refine ⟨py,pt,_,_,1200,rfl,uU _ _ Im,uU _ _ oB,by decide,(zf m).mono (by decide),zt,fun r1 f1=>?_⟩
    have m1:=cZ (o:=.tup (fq (Sw.dZ ss hh m*Sw.i9 ss hh))) f1
    refine ⟨px,r1,_,_,1200,rfl,m1 _ _ (uU _ _ ue),cO,by decide,zh m,Pj m,fun r f2=>?_⟩
    have ef:hh m-Sw.dZ ss hh m*Sw.i9 ss hh=Sw.qE ss hh m:=rfl
    rw [ef]
    have n2:=m1.trans (cZ (o:=.tup (fq (Sw.qE ss hh m))) f2)
    have zW:aQ (aQ M9 r1 (.tup (fq (Sw.dZ ss hh m*Sw.i9 ss hh)))) r (.tup (fq (Sw.qE ss hh m))) r=some (.tup (fq (Sw.qE ss hh m))):=cO
    have L2:=E1.same n2
    have OR:=uU.trans n2
    generalize aQ (aQ M9 r1 (.tup (fq (Sw.dZ ss hh m*Sw.i9 ss hh)))) r (.tup (fq (Sw.qE ss hh m)))=Na at zW L2 OR ⊢
    have kt:∀ b xs,Na b=some (.tup xs)->aQ Na nl (.lst (es.map V.ref++[.ref r])) b=some (.tup xs):=fun b xs e=>by
     rw [c8 (b7 e L2.hl (by intro z; cases z))]; exact e
    refine ⟨_,L2.hl,cX (by rw [ae]; omega),fun b o e=>?_,es++[r],?_⟩
    ·rw [c8 (gX e Il)]; exact OR _ _ e
    ·rw [EJ]
     exact ⟨by rw [cO,ay]; rfl,tY (kt _ _ zW) (qf L2.r kt)⟩
   rintro τ JG ⟨v0,v1,np,rfl,uU,NL⟩
   rw [ae,l1] at NL
   refine hR _ _ ?_
   walk_at "rd"
   refine hN _ _ ⟨(Sw.bY ss (Sw.qE ss hh)).length,by rw [<- em,eh]; exact lt,kk+1,nl,np,pa,pp++[tp],_,_,_,_,rfl,s4.trans uU,by rw [ez]; exact NL,by rw [ez]; exact uU _ _ sf,uU _ _ C5,Paired.gB PP fun _ _ q=>q.same (DO uU),fun j hj=>?_,(fun e=>by rw [e,C5] at Il; cases Il),by rw [ez]⟩
   by_cases c:j=kk
   ·subst c; rw [eh]; exact ne
   ·exact go j (by omega)
def Wc:Sp:=fun vs H Q _=>∃ l ps qs,vs = [.ref l]/\iM fq H l ps qs/\(∀ q∈qs,Sw.cL 1200 q)/\∀ r H',bT H H'->H' r=some (.tup (fq (qs.foldl max 0)))->Q (.ref r) H'
theorem PV (T:Txt K mg cA):jT P w K mg base (jK P w) 3 "greatest" ["some"] Wc:=by
 have cW:=wZ (P:=P) (w:=w) (base:=base) T
 have jB:=Mv (P:=P) (w:=w) (base:=base) T
 refine T.rM.okN (k:=2) jo (fun vs H Q E h=>?_) (fun f e6 A outer s H vs Q E hr h=>?_)
 ·obtain ⟨l,ps,qs,rfl,_⟩:=h
  rfl
 ·obtain ⟨l,ps,qs,rfl,L,sz,k⟩:=h
  refine ⟨_,(c7 (eu (i:=1) jo.nd rfl (dM cW (hr.mono (by decide)) rfl aU (aS bO (aS bO bU)))) (c7 (uv PassesOwn.never rfl (nK K rfl (pv 0)) (gu (i:=2) jo.nd rfl (by first|left;rfl|right;rfl)) (fL (eu (i:=1) jo.nd rfl (dM jB (hr.mono (by decide)) rfl aU (aS (pv 1) (aS (pv 2) bU)))))) (fL (jy (pv 1))))),?_⟩
  show fU _ _ _ [some (.ref l),none,none] H
  refine di fun R hR=>?_
  walk_at "rd"
  refine ⟨_,_,70,rfl,by decide,Sw.Sz.j5 (by decide) (by decide),fun _ pm fm=>hR _ _ ?_,fun z=>absurd z (by decide)⟩
  rw [As]
  refine di fun R hR=>?_
  refine ur fun Z hZ=>?_
  walk_at "rd"
  have n1:=cZ (o:=.tup (fq 0)) fm
  have z0:Sw.cL 1200 0:=(Sw.cL.int (n:=0) (z:=4) (Sw.Sz.zero _)).mono (by decide)
  refine ⟨⟨_,.of (n1 _ _ L.hl)⟩,hZ _ _ ?_⟩
  refine z9 (K:=K) (a:=l) (xs:=ps.map V.ref) (fun i σ H'=>bT H H'/\∃ x v,σ = [some (.ref l),some (.ref x),v]/\H' x=some (.tup (fq ((qs.take i).foldl max 0)))/\Sw.cL 1200 ((qs.take i).foldl max 0)) ⟨n1,pm,none,rfl,cO,z0⟩ (fun i σ H' _ q=>.of (q.1 _ _ L.hl)) ?_ ?_
  ·rintro i v σ H1 hv ⟨sm,x,v2,rfl,hx,zx⟩
   obtain ⟨p,hp,rfl⟩:∃ p,ps[i]? = some p/\V.ref p=v:=by simpa using hv
   obtain ⟨q,hq,wE⟩:=wX L.r hp
   have zq:=sz q (aq hq)
   show ny _ _ _ [some (.ref l),some (.ref x),some (.ref p)] H1
   refine t7 fun R' pB=>?_
   walk_at "rd"
   refine ⟨x,p,_,q,rfl,hx,sm _ _ wE,zx.mono (by decide),zq.mono (by decide),fun r oE=>pB _ _ ?_⟩
   have e:(qs.take (i+1)).foldl max 0=max ((qs.take i).foldl max 0) q:=by rw [aV hq,jO]; rfl
   refine ⟨sm.trans (cZ oE),r,_,rfl,?_,?_⟩
   ·rw [cO,e]
   ·rw [e,b6]; split
    ·exact zq
    ·exact zx
  ·rintro σ H1 ⟨sm,x,v2,rfl,hx,_⟩
   refine hR _ _ ?_
   walk_at "rd"
   have ln:=pQ L.r
   rw [aK (by rw [ae,ln]; exact av _)] at hx
   exact k x H1 sm hx
def Yd:Sp:=fun vs H Q _=>∃ l ps ss L,vs = [.ref l]/\qU H l ps ss/\Sw.Plan ss L/\∀ cl cp m H',bT H H'->H cl=none->iM fq H' cl cp (fr ss.length (p6 ss m))->fD ss m->Q (.ref cl) H'
theorem Ye (T:Txt K mg cA):jT P w K mg base (jK P w) 7 "piles" ["senders"] Yd:=by
 have oO:=QX (P:=P) (w:=w) (base:=base) T
 have lJ:=PV (P:=P) (w:=w) (base:=base) T
 refine T.wN.okN (k:=6) tP (fun vs H Q E h=>?_) (fun f e6 A outer s H vs Q E hr h=>?_)
 ·obtain ⟨l,ps,ss,L,rfl,_⟩:=h
  rfl
 ·obtain ⟨l,ps,ss,L,rfl,SL,PL,k⟩:=h
  refine ⟨_,(c7 (eu (i:=1) tP.nd rfl (dM oO (hr.mono (by decide)) rfl aU (aS (pv 0) bU))) (fL (jy (Y6 "number" ["number"] [("parts", 1)] rfl (by with_unfolding_all rfl) (fun _=>by with_unfolding_all rfl) (fun _=>by with_unfolding_all rfl) rfl (by decide +kernel) (by exact ⟨rfl,aN⟩) (by with_unfolding_all rfl) ⟨⟨rfl,rfl,rfl⟩,aN⟩ (by decide +kernel) (PZ rfl T.pF (aS (vR (IZ K rfl) rfl T.rF boot_len (aS (pv 0) bU)) bU)) (fun _ _ _=>(gu (i:=0) (show (["number", "parts"]:List Str).Nodup from by decide +kernel) rfl (by first|left;rfl|right;rfl) (Or.inl (show (("number" : Str) == ("number" : Str))=true from by decide +kernel)))) (fun _ _ _=>u9) (fun _ _ _=>(dM lJ (hr.mono (by decide)) rfl aU (aS (iK ["part"] [("number", 0)] rfl (by with_unfolding_all rfl) (by decide +kernel) rfl (by decide +kernel) (by exact ⟨rfl,aN⟩) (by with_unfolding_all rfl) ⟨⟨rfl,rfl,rfl⟩,aN⟩ (nK K rfl (pv 1)) (fun _ _ _=>(gu (i:=0) (show (["part", "number"]:List Str).Nodup from by decide +kernel) rfl (by first|left;rfl|right;rfl))) (fun _ _ _=>u9) (fun _ _ _=>(bg (mU K rfl) (bg (fh K rfl) (pv 0) bO (fun _ _=>rfl)) (pv 1) (fun _ _=>rfl)))) bU))))))),?_⟩
  show fU _ _ _ [some (.ref l),none] H
  have n8:=PL.n8
  have len:=SL.len
  refine di fun R hR=>?_
  walk_at "rd"
  refine ⟨l,ps,ss,L,rfl,SL,PL,fun cl cp m H1 s1 UP CL en=>hR _ _ ?_⟩
  have le:=en.le
  have Fi:=Paired.length CL.r
  rw [dm] at Fi
  have uc:=SL.same s1
  walk_at "rd"
  refine MS (.of uc.hl) ?_
  walk_at "rd"
  rw [ae]
  refine ⟨by omega,by omega,fun Dl iH=>?_⟩
  rw [oV]
  refine V9 (fun i τ H'=>∃ v0 es,τ = [v0,some (.ref cl)]/\bT H1 H'/\iM fq H' Dl es (fr i (p6 ss m))) ⟨none,[],rfl,cZ iH,⟨cO,.nil⟩⟩ ?_ ?_
  ·rintro i τ H2 hi ⟨v0,es,rfl,s2,L2⟩
   rw [Int.zero_add]
   have Em:=pQ L2.r
   rw [t8] at Em
   walk_at "rd"
   simp only [lU,if_true]
   walk_at "rd"
   have KD:i<ss.length:=by omega
   refine ⟨⟨_,.of (s2 _ _ CL.hl)⟩,fun El NH=>?_⟩
   refine uq (xs:=cp.map V.ref) (fun j τ H'=>∃ v fs,τ = [v,some (.int (i:Int))]/\bT H2 H'/\iM fq H' El fs ((aD j).map fun k=>(Sw.bj ss k).1 i)) ⟨none,[],rfl,cZ NH,⟨cO,.nil⟩⟩ (fun j τ H' _ ⟨_,_,_,s',_⟩=>.of (s' _ _ (s2 _ _ CL.hl))) ?_ ?_
   ·rintro j y τ H3 hy ⟨v,fs,rfl,s3,L3⟩
    obtain ⟨p,hp,rfl⟩:∃ p,cp[j]? = some p/\V.ref p=y:=by simpa using hy
    have hj:j<m:=by have:=(aa.mp hp).1; omega
    obtain ⟨kk,hk,q4⟩:=wV CL.r hp
    rw [gO hj] at hk
    cases hk
    obtain ⟨pm,pa,po,ph,os,hs,h1,h2,h3,h4,h5⟩:=q4.same (s2.trans s3)
    obtain ⟨q,_,xq,hq⟩:=QK h5 KD
    have fl:=pQ L3.r
    rw [ae,dm] at fl
    walk_at "rd"
    simp only [lU,if_true]
    walk_at "rd"
    refine fj (.of h1) rfl ?_
    refine qP (.of h5.hl) xq ?_
    have kt:∀ b xs,H3 b=some (.tup xs)->aQ H3 El (.lst (fs.map V.ref++[.ref q])) b=some (.tup xs):=fun b xs e=>by
     rw [c8 (b7 e L3.hl (by intro z; cases z))]; exact e
    refine ⟨_,L3.hl,cX (by rw [ae]; omega),fun b o e=>?_,fs++[q],?_⟩
    ·rw [c8 (gX e NH)]; exact s3 _ _ e
    ·rw [dF,ay]
     exact ⟨by rw [cO,ay]; rfl,tY (kt _ _ hq) (qf L3.r kt)⟩
   rintro τ H3 ⟨v,fs,rfl,s3,L3⟩
   rw [ae,Fi] at L3
   refine ⟨El,fs,_,rfl,L3,fun q hq=>?_,fun r H4 s4 Ev=>?_⟩
   ·obtain ⟨kk,hk,rfl⟩:=aP.mp hq
    exact (Sw.j9 PL en (by have:=bS.mp hk; omega)).2.1 i
   have s4:=s3.trans s4
   have L4:=L2.same s4
   have kt:∀ b xs,H4 b=some (.tup xs)->aQ H4 Dl (.lst (es.map V.ref++[.ref r])) b=some (.tup xs):=fun b xs e=>by
    rw [c8 (b7 e L4.hl (by intro z; cases z))]; exact e
   refine ⟨_,L4.hl,cX (by rw [ae]; omega),fun b o e=>?_,es++[r],?_⟩
   ·rw [c8 (gX e iH)]; exact s4 _ _ (s2 _ _ e)
   ·rw [EJ]
    exact ⟨by rw [cO,ay]; rfl,tY (kt _ _ Ev) (qf L4.r kt)⟩
  rintro τ H2 ⟨v0,es,rfl,s2,L2⟩
  rw [len] at L2
  exact k Dl es m H2 (s1.trans s2) (s1.free iH) L2 en
def Yg:Sp:=fun vs H Q _=>∃ cl cp i pl pr ss L m,vs = [.ref cl,.int (i:Nat),.ref pl]/\E7 ss H cl cp m/\H pl=some (.tup [.int (Sw.d8 ss i),.ref pr])/\H pr=some (.tup (fq (Sw.dQ ss i)))/\Sw.Plan ss L/\fD ss m/\i<ss.length/\∀ fl fp H',bT H H'->H fl=none->iM fq H' fl fp (Sw.uo ss i m)->Q (.ref fl) H'
theorem Vy (T:Txt K mg cA):jT P w K mg base (jK P w) 4 "waits_at_turns" ["parts", "number", "line"] Yg:=by
 have cW:=wZ (P:=P) (w:=w) (base:=base) T
 have gc:=Cp (P:=P) (w:=w) (base:=base) T
 have eR:=DP (P:=P) (w:=w) (base:=base) T
 have gY:=EL (P:=P) (w:=w) (base:=base) T
 have j8:=JE (P:=P) (w:=w) (base:=base) T
 have c5:=xA (P:=P) (w:=w) (base:=base) T
 refine T.lS.okN (k:=3) cP (fun vs H Q E h=>?_) (fun f e6 A outer s H vs Q E hr h=>?_)
 ·obtain ⟨cl,cp,i,pl,pr,ss,L,m,rfl,_⟩:=h
  rfl
 ·obtain ⟨cl,cp,i,pl,pr,ss,L,m,rfl,CL,h2,h3,PL,en,hi,k⟩:=h
  refine ⟨_,(c7 (eu (i:=3) cP.nd rfl (lI (aS (bg (fh K rfl) (pv 2) bO (fun _ _=>rfl)) (aS bO bU)))) (c7 (eu (i:=4) cP.nd rfl (dM cW (hr.mono (by decide)) rfl aU (aS bO (aS bO bU)))) (c7 (eu (i:=5) cP.nd rfl (su bU)) (c7 (uv PassesOwn.never rfl (nK K rfl (pv 0)) (qi (n:=4) K rfl rfl (iT (gu (i:=6) cP.nd rfl (by first|left;rfl|right;rfl)) (iT (gu (i:=7) cP.nd rfl (by first|left;rfl|right;rfl)) (iT (gu (i:=8) cP.nd rfl (by first|left;rfl|right;rfl)) (iT (gu (i:=9) cP.nd rfl (by first|left;rfl|right;rfl)) qh))))) (c7 (eu (i:=10) cP.nd rfl (pv 4)) (c7 (eu (i:=4) cP.nd rfl (dM gc (hr.mono (by decide)) rfl aU (aS (pv 10) (aS (dM gY (hr.mono (by decide)) rfl aU (aS (bg (mU K rfl) (pv 8) (pv 1) (fun _ _=>rfl)) (aS (dM eR (hr.mono (by decide)) rfl aU (aS (pv 7) (aS (pv 6) bU))) bU))) bU)))) (c7 (gy (qM (dM c5 (hr.mono (by decide)) rfl aU (aS (pv 4) (aS (pv 3) bU)))) (fL VR) pR) (c7 (gy (qM (dM c5 (hr.mono (by decide)) rfl aU (aS (pv 10) (aS (pv 3) bU)))) (fL (xz (kH bX b8 b9 wW (pv 5) (aS (dM gc (hr.mono (by decide)) rfl aU (aS (pv 6) (aS (dM j8 (hr.mono (by decide)) rfl aU (aS (dM eR (hr.mono (by decide)) rfl aU (aS (pv 3) (aS (pv 10) bU))) (aS (bg (mU K rfl) (pv 8) (pv 1) (fun _ _=>rfl)) bU))) bU))) bU)))) pR) (fL (gy (qM (dM c5 (hr.mono (by decide)) rfl aU (aS (lI (aS bO (aS bO bU))) (aS (bg (fh K rfl) (pv 2) bO (fun _ _=>rfl)) bU)))) (fL (xz (kH bX b8 b9 wW (pv 5) (aS (dM eR (hr.mono (by decide)) rfl aU (aS (pv 7) (aS (dM j8 (hr.mono (by decide)) rfl aU (aS (dM eR (hr.mono (by decide)) rfl aU (aS (pv 4) (aS (pv 3) bU))) (aS (bg (fh K rfl) (pv 2) bO (fun _ _=>rfl)) bU))) bU))) bU)))) pR))))))) (fL (jy (pv 5))))))),?_⟩
  show fU _ _ _ [some (.ref cl),some (.int (i:Nat)),some (.ref pl),none,none,none,none,none,none,none,none] H
  have n8:=PL.n8
  have le:=en.le
  have Fi:=Paired.length CL.r
  rw [dm] at Fi
  have zr:=Sw.pG PL i
  have zu:Sw.cL 70 (Sw.d8 ss i:Rat):=by
   obtain ⟨s0,wF,_,e0,_⟩:=Sw.fX hi
   have:=PL.b1 s0 wF
   exact Sw.cL.int (z:=69) (Sw.Sz.j5 (by omega) (by omega))
  refine di fun R hR=>?_
  walk_at "rd"
  refine fj (.of h2) rfl ?_
  walk_at "rd"
  intro pb fb
  refine hR _ _ ?_
  have n1:=cZ (o:=.tup [.int (Sw.d8 ss i),.int 1]) fb
  have hb:aQ H pb (.tup [.int (Sw.d8 ss i),.int 1]) pb=some (.tup (fq (Sw.d8 ss i:Rat))):=sy (n:=Sw.d8 ss i)
  generalize aQ H pb (.tup [.int (Sw.d8 ss i),.int 1])=H1 at n1 hb ⊢
  refine di fun R hR=>?_
  walk_at "rd"
  refine ⟨_,_,70,rfl,by decide,Sw.Sz.j5 (by decide) (by decide),fun _ pg fg=>hR _ _ ?_,fun z=>absurd z (by decide)⟩
  rw [As]
  have n2:=cZ (o:=.tup (fq 0)) fg
  have hg:aQ H1 pg (.tup (fq 0)) pg=some (.tup (fq (Sw.eA ss i 0))):=cO
  have hb:=n2 _ _ hb
  have sm:=n1.trans n2
  generalize aQ H1 pg (.tup (fq 0))=H2 at hg hb sm ⊢
  clear n1 n2 fb fg
  refine di fun R hR=>?_
  walk_at "rd"
  intro fl mC
  refine hR _ _ ?_
  have AK:H fl=none:=sm.free mC
  have n3:=cZ (o:=.lst []) mC
  have FL:iM fq (aQ H2 fl (.lst [])) fl [] (Sw.uo ss i 0):=⟨cO,.nil⟩
  have hg:=n3 _ _ hg
  have hb:=n3 _ _ hb
  have sm:=sm.trans n3
  generalize aQ H2 fl (.lst [])=H3 at FL hg hb sm ⊢
  clear n3 mC
  refine di fun R hR=>?_
  refine ur fun Z hZ=>?_
  walk_at "rd"
  refine ⟨⟨_,.of (sm _ _ CL.hl)⟩,hZ _ _ ?_⟩
  refine z9 (K:=K) (a:=cl) (xs:=cp.map V.ref) (fun j σ H'=>∃ pg fp v6 v7 v8 v9 rW,σ = [some (.ref cl),some (.int (i:Nat)),some (.ref pl),some (.ref pb),some (.ref pg),some (.ref fl),v6,v7,v8,v9,rW]/\bT H H'/\H' pb=some (.tup (fq (Sw.d8 ss i:Rat)))/\H' pg=some (.tup (fq (Sw.eA ss i j)))/\iM fq H' fl fp (Sw.uo ss i j)/\fp.length<=2*j) ⟨pg,[],none,none,none,none,none,rfl,sm,hb,hg,FL,bR _⟩ (fun j σ H' _ ⟨_,_,_,_,_,_,_,_,sm,_⟩=>.of (sm _ _ CL.hl)) ?_ ?_
  ·rintro j y σ H4 hy ⟨pg,fp,v6,v7,v8,v9,rW,rfl,sm,hb,hg,FL,Nx⟩
   obtain ⟨p,hp,rfl⟩:∃ p,cp[j]? = some p/\V.ref p=y:=by simpa using hy
   have hj:j<m:=by have:=(aa.mp hp).1; omega
   obtain ⟨kk,hk,q4⟩:=wV CL.r hp
   rw [gO hj] at hk
   cases hk
   obtain ⟨pm,pa,po,ph,os,hs,g1,g2,g3,g4,g5⟩:=q4.same sm
   obtain ⟨pz,_,zm⟩:=Sw.j9 PL en (show j<=m by omega)
   obtain ⟨_,_,QN⟩:=Sw.j9 PL en (show j+1<=m by omega)
   have ne:=en.go j hj
   obtain ⟨_,zt⟩:=Sw.B8 PL ne pz (by omega)
   have zo:=Sw.uS PL ne i
   have zg:=Sw.Bx PL en hi (show j<=m by omega)
   have Mq:=Sw.Bx PL en hi (show j+1<=m by omega)
   obtain ⟨px,_,xx,hx⟩:=QK g4 hi
   have et:(Sw.bj ss (j+1)).2-(Sw.bj ss j).2=Sw.i9 ss (Sw.bj ss j).1:=by
    show (Sw.bj ss j).2+Sw.i9 ss (Sw.bj ss j).1-(Sw.bj ss j).2 = _
    grind
   have eg:Sw.eA ss i j+Sw.cN ss (Sw.bj ss j).1 i*((Sw.bj ss (j+1)).2-(Sw.bj ss j).2)=Sw.eA ss i (j+1):=rfl
   have ew:Sw.uo ss i (j+1)=Sw.uo ss i j++(if Sw.eA ss i (j+1)<(Sw.d8 ss i:Rat) then [] else (if Sw.eA ss i j<(Sw.d8 ss i:Rat) then [Sw.qL ss i j] else [])++(if 0<Sw.dQ ss i then [Sw.um ss i j] else [])):=rfl
   refine ⟨p,_,rfl,.of g1,rfl,_,_,rfl,_,_,rfl,_,_,rfl,_,_,rfl,rfl,?_⟩
   show fU _ _ _ [some (.ref cl),some (.int (i:Nat)),some (.ref pl),some (.ref pb),some (.ref pg),some (.ref fl),some (.ref pm),some (.ref pa),some (.ref po),some (.ref ph),rW] H4
   refine di fun R hR=>?_
   walk_at "rd"
   refine hR _ _ ?_
   refine di fun R hR=>?_
   walk_at "rd"
   refine qP (.of g4.hl) xx ?_
   refine ⟨pa,pm,_,_,1200,rfl,g3,g2,by decide,QN,zm,fun r1 f1=>?_⟩
   have m1:=cZ (o:=.tup (fq ((Sw.bj ss (j+1)).2-(Sw.bj ss j).2))) f1
   refine ⟨px,r1,_,_,1200,rfl,m1 _ _ hx,cO,by decide,zo.mono (by decide),by rw [et]; exact zt,fun r2 f2=>?_⟩
   have m2:=m1.trans (cZ (o:=.tup (fq (Sw.cN ss (Sw.bj ss j).1 i*((Sw.bj ss (j+1)).2-(Sw.bj ss j).2)))) f2)
   have zx:Sw.cL 1400 (Sw.cN ss (Sw.bj ss j).1 i*((Sw.bj ss (j+1)).2-(Sw.bj ss j).2)):=by
    rw [et]; exact zo.mul zt
   refine ⟨pg,r2,_,_,1400,rfl,m2 _ _ hg,cO,by decide,zg.mono (by decide),zx,fun z6 f3=>hR _ _ ?_⟩
   rw [eg]
   have m3:=m2.trans (cZ (o:=.tup (fq (Sw.eA ss i (j+1)))) f3)
   have se:aQ (aQ (aQ H4 r1 (.tup (fq ((Sw.bj ss (j+1)).2-(Sw.bj ss j).2)))) r2 (.tup (fq (Sw.cN ss (Sw.bj ss j).1 i*((Sw.bj ss (j+1)).2-(Sw.bj ss j).2))))) z6 (.tup (fq (Sw.eA ss i (j+1)))) z6=some (.tup (fq (Sw.eA ss i (j+1)))):=cO
   generalize aQ (aQ (aQ H4 r1 (.tup (fq ((Sw.bj ss (j+1)).2-(Sw.bj ss j).2)))) r2 (.tup (fq (Sw.cN ss (Sw.bj ss j).1 i*((Sw.bj ss (j+1)).2-(Sw.bj ss j).2))))) z6 (.tup (fq (Sw.eA ss i (j+1))))=H5 at m3 se ⊢
   clear m1 m2 f1 f2 f3
   have sm:=sm.trans m3
   have hb:=m3 _ _ hb
   have hg:=m3 _ _ hg
   have FL:=FL.same m3
   have g2:=m3 _ _ g2
   have g3:=m3 _ _ g3
   have g4:=g4.same m3
   have hx:=m3 _ _ hx
   clear m3
   refine di fun R hR=>?_
   walk_at "rd"
   refine ⟨z6,pb,_,_,rfl,se,hb,Mq.mono (by decide),zu.mono (by decide),?_⟩
   walk_at "rd"
   refine ir (fun c=>?_) fun c=>?_
   ·rw [if_pos c,bx] at ew
    exact ⟨z6,⟨_,_,_,_,_,rfl⟩,sm,hb,se,fp,by rw [ew]; exact FL,by omega⟩
   refine hR _ _ ?_
   rw [if_neg c] at ew
   have app:∀ {H6:Hp} {fs:List Addr} {qs:List Rat} {r:Addr} {x:Rat},iM fq H6 fl fs qs->H6 r=some (.tup (fq x))->iM fq (aQ H6 fl (.lst (fs.map V.ref++[.ref r]))) fl (fs++[r]) (qs++[x]):=fun {H6 fs qs r x} L hr=>by
    have kt:∀ b xs,H6 b=some (.tup xs)->aQ H6 fl (.lst (fs.map V.ref++[.ref r])) b=some (.tup xs):=fun b xs e=>by
     rw [c8 (b7 e L.hl (by intro z; cases z))]; exact e
    exact ⟨by rw [cO,ay]; rfl,tY (kt _ _ hr) (qf L.r kt)⟩
   refine di fun R hR=>?_
   have next:∀ (H6:Hp) (fs:List Addr),bT H H6->H6 pb=some (.tup (fq (Sw.d8 ss i:Rat)))->H6 z6=some (.tup (fq (Sw.eA ss i (j+1))))->H6 pa=some (.tup (fq (Sw.bj ss (j+1)).2))->iM fq H6 fl fs (Sw.uo ss i j++(if Sw.eA ss i j<(Sw.d8 ss i:Rat) then [Sw.qL ss i j] else []))->fs.length<=2*j+1->R [some (.ref cl),some (.int (i:Nat)),some (.ref pl),some (.ref pb),some (.ref z6),some (.ref fl),some (.ref pm),some (.ref pa),some (.ref po),some (.ref ph),some (.ref pg)] H6:=by
    intro H6 fs sm hb se g3 FL Nx
    refine hR _ _ ?_
    refine t7 fun N hN=>?_
    walk_at "rd"
    intro p0 f0
    have n0:=cZ (o:=.tup [.int 0,.int 1]) f0
    refine fj (.of (n0 _ _ (sm _ _ h2))) rfl ?_
    refine ⟨p0,pr,((0:Int):Rat),_,rfl,sy (n:=0),n0 _ _ (sm _ _ h3),(Sw.cL.int (n:=0) (z:=4) (Sw.Sz.zero _)).mono (by decide),zr.mono (by decide),?_⟩
    have sm:=sm.trans n0
    have hb:=n0 _ _ hb
    have se:=n0 _ _ se
    have g3:=n0 _ _ g3
    have FL:=FL.same n0
    generalize aQ H6 p0 (.tup [.int 0,.int 1])=H7 at sm hb se g3 FL ⊢
    clear n0 f0
    have e0:decide (((0:Int):Rat)<Sw.dQ ss i)=decide (0<Sw.dQ ss i):=rfl
    rw [e0]
    walk_at "rd"
    refine ir (fun d=>?_) fun d=>?_
    ·rw [if_pos d,<- oi] at ew
     walk_at "rd"
     refine ⟨Ba FL.hl,?_⟩
     refine ⟨z6,pb,_,_,1200,rfl,se,hb,by decide,Mq,zu.mono (by decide),fun r1 f1=>?_⟩
     have m1:=cZ (o:=.tup (fq (Sw.eA ss i (j+1)-(Sw.d8 ss i:Rat)))) f1
     refine fj (.of (m1 _ _ (sm _ _ h2))) rfl ?_
     have z1:Sw.cL 1271 (Sw.eA ss i (j+1)-(Sw.d8 ss i:Rat)):=Mq.sub zu
     have rn:Sw.dQ ss i≠0:=by grind
     refine ⟨r1,pr,_,_,1300,rfl,cO,m1 _ _ (sm _ _ h3),by decide,z1.mono (by decide),zr.mono (by decide),rn,fun r2 f2=>?_⟩
     have m2:=m1.trans (cZ (o:=.tup (fq ((Sw.eA ss i (j+1)-(Sw.d8 ss i:Rat)) / Sw.dQ ss i))) f2)
     refine ⟨pa,r2,_,_,1500,rfl,m2 _ _ g3,cO,by decide,QN.mono (by decide),(z1.div (Sw.kI rn) zr).mono (by decide),fun r3 f3=>?_⟩
     have e2:(Sw.bj ss (j+1)).2-(Sw.eA ss i (j+1)-(Sw.d8 ss i:Rat)) / Sw.dQ ss i=Sw.um ss i j:=rfl
     rw [e2]
     have m3:=m2.trans (cZ (o:=.tup (fq (Sw.um ss i j))) f3)
     have Ay:aQ (aQ (aQ H7 r1 (.tup (fq (Sw.eA ss i (j+1)-(Sw.d8 ss i:Rat))))) r2 (.tup (fq ((Sw.eA ss i (j+1)-(Sw.d8 ss i:Rat)) / Sw.dQ ss i)))) r3 (.tup (fq (Sw.um ss i j))) r3=some (.tup (fq (Sw.um ss i j))):=cO
     generalize aQ (aQ (aQ H7 r1 (.tup (fq (Sw.eA ss i (j+1)-(Sw.d8 ss i:Rat))))) r2 (.tup (fq ((Sw.eA ss i (j+1)-(Sw.d8 ss i:Rat)) / Sw.dQ ss i)))) r3 (.tup (fq (Sw.um ss i j)))=H8 at m3 Ay ⊢
     have FL:=FL.same m3
     have A:=app FL Ay
     have tn:∀ {b xs},H8 b=some (.tup xs)->b≠fl:=fun e=>b7 e FL.hl (by intro z; cases z)
     refine Ck FL.hl (by rw [ae]; omega) (hN _ _ ⟨z6,fs++[r3],_,_,_,_,_,rfl,fun b o e=>?_,?_,?_,by rw [ew]; exact A,by rw [aO]; show fs.length+1<=_; omega⟩)
     ·rw [c8 (gX e AK)]; exact m3 _ _ (sm _ _ e)
     ·rw [c8 (tn (m3 _ _ hb))]; exact m3 _ _ hb
     ·rw [c8 (tn (m3 _ _ se))]; exact m3 _ _ se
    ·rw [if_neg d,bx] at ew
     exact hN _ _ ⟨z6,fs,_,_,_,_,_,rfl,sm,hb,se,by rw [ew]; exact FL,by omega⟩
   walk_at "rd"
   refine ⟨pg,pb,_,_,rfl,hg,hb,zg.mono (by decide),zu.mono (by decide),?_⟩
   walk_at "rd"
   refine ir (fun d=>?_) fun d=>?_
   ·walk_at "rd"
    refine ⟨Ba FL.hl,?_⟩
    obtain ⟨o1,_,_,_⟩:=Sw.rS PL en hj d (by grind)
    have on:Sw.cN ss (Sw.bj ss j).1 i≠0:=by grind
    refine ⟨pb,pg,_,_,1200,rfl,hb,hg,by decide,zu.mono (by decide),zg,fun r1 f1=>?_⟩
    have m1:=cZ (o:=.tup (fq ((Sw.d8 ss i:Rat)-Sw.eA ss i j))) f1
    refine qP (.of (g4.same m1).hl) xx ?_
    have z1:Sw.cL 1271 ((Sw.d8 ss i:Rat)-Sw.eA ss i j):=(zu.sub zg).mono (by decide)
    refine ⟨r1,px,_,_,1300,rfl,cO,m1 _ _ hx,by decide,z1.mono (by decide),zo.mono (by decide),on,fun r2 f2=>?_⟩
    have m2:=m1.trans (cZ (o:=.tup (fq (((Sw.d8 ss i:Rat)-Sw.eA ss i j) / Sw.cN ss (Sw.bj ss j).1 i))) f2)
    refine ⟨pm,r2,_,_,1500,rfl,m2 _ _ g2,cO,by decide,zm.mono (by decide),(z1.div (Sw.kI on) zo).mono (by decide),fun r3 f3=>?_⟩
    have e2:(Sw.bj ss j).2+((Sw.d8 ss i:Rat)-Sw.eA ss i j) / Sw.cN ss (Sw.bj ss j).1 i=Sw.qL ss i j:=rfl
    rw [e2]
    have m3:=m2.trans (cZ (o:=.tup (fq (Sw.qL ss i j))) f3)
    have Ay:aQ (aQ (aQ H5 r1 (.tup (fq ((Sw.d8 ss i:Rat)-Sw.eA ss i j)))) r2 (.tup (fq (((Sw.d8 ss i:Rat)-Sw.eA ss i j) / Sw.cN ss (Sw.bj ss j).1 i)))) r3 (.tup (fq (Sw.qL ss i j))) r3=some (.tup (fq (Sw.qL ss i j))):=cO
    generalize aQ (aQ (aQ H5 r1 (.tup (fq ((Sw.d8 ss i:Rat)-Sw.eA ss i j)))) r2 (.tup (fq (((Sw.d8 ss i:Rat)-Sw.eA ss i j) / Sw.cN ss (Sw.bj ss j).1 i)))) r3 (.tup (fq (Sw.qL ss i j)))=H8 at m3 Ay ⊢
    have FL:=FL.same m3
    have A:=app FL Ay
    have tn:∀ {b xs},H8 b=some (.tup xs)->b≠fl:=fun e=>b7 e FL.hl (by intro z; cases z)
    refine Ck FL.hl (by rw [ae]; omega) (next _ (fp++[r3]) (fun b o e=>?_) ?_ ?_ ?_ (by rw [if_pos d]; exact A) (by rw [aO]; show fp.length+1<=_; omega))
    ·rw [c8 (gX e AK)]; exact m3 _ _ (sm _ _ e)
    ·rw [c8 (tn (m3 _ _ hb))]; exact m3 _ _ hb
    ·rw [c8 (tn (m3 _ _ se))]; exact m3 _ _ se
    ·rw [c8 (tn (m3 _ _ g3))]; exact m3 _ _ g3
   ·refine next H5 fp sm hb se g3 ?_ (by omega)
    rw [if_neg d,bx]
    exact FL
  ·rintro σ H4 ⟨pg,fp,v6,v7,v8,v9,rW,rfl,sm,hb,hg,FL,Nx⟩
   refine hR _ _ ?_
   walk_at "rd"
   rw [ae,Fi] at FL
   exact k fl fp H4 sm AK FL
def Yh:Sp:=fun vs H Q _=>∃ l ps ss L,vs = [.ref l]/\qU H l ps ss/\Sw.Plan ss L/\∀ cl cp m H',bT H H'->H cl=none->iM fq H' cl cp (fr ss.length (Sw.jv ss m))->fD ss m->Q (.ref cl) H'
theorem Yi (T:Txt K mg cA):jT P w K mg base (jK P w) 7 "waits" ["senders"] Yh:=by
 have oO:=QX (P:=P) (w:=w) (base:=base) T
 have lJ:=PV (P:=P) (w:=w) (base:=base) T
 have mX:=Vy (P:=P) (w:=w) (base:=base) T
 refine T.wS.okN (k:=6) tQ (fun vs H Q E h=>?_) (fun f e6 A outer s H vs Q E hr h=>?_)
 ·obtain ⟨l,ps,ss,L,rfl,_⟩:=h
  rfl
 ·obtain ⟨l,ps,ss,L,rfl,SL,PL,k⟩:=h
  refine ⟨_,(c7 (eu (i:=1) tQ.nd rfl (dM oO (hr.mono (by decide)) rfl aU (aS (pv 0) bU))) (fL (jy (iK ["number", "sender"] [("parts", 1)] rfl (by with_unfolding_all rfl) (by decide +kernel) rfl (by decide +kernel) (by exact ⟨rfl,aN⟩) (by with_unfolding_all rfl) ⟨⟨rfl,rfl,rfl⟩,aN⟩ (DJ K rfl rfl T.fP (aS (pv 0) bU)) (fun _ _ _=>(qi (n:=2) K rfl rfl (iT (gu (i:=0) (show (["number", "sender", "parts"]:List Str).Nodup from by decide +kernel) rfl (by first|left;rfl|right;rfl)) (iT (gu (i:=1) (show (["number", "sender", "parts"]:List Str).Nodup from by decide +kernel) rfl (by first|left;rfl|right;rfl)) qh)))) (fun _ _ _=>u9) (fun _ _ _=>(dM lJ (hr.mono (by decide)) rfl aU (aS (dM mX (hr.mono (by decide)) rfl aU (aS (pv 2) (aS (pv 0) (aS (bg (fh K rfl) (pv 1) bO (fun _ _=>rfl)) bU)))) bU))))))),?_⟩
  show fU _ _ _ [some (.ref l),none] H
  have n8:=PL.n8
  have len:=SL.len
  refine di fun R hR=>?_
  walk_at "rd"
  refine ⟨l,ps,ss,L,rfl,SL,PL,fun cl cp m H1 s1 UP CL en=>hR _ _ ?_⟩
  have uc:=SL.same s1
  walk_at "rd"
  refine ⟨⟨_,.of uc.hl⟩,fun Dl iH=>?_⟩
  refine Jb (xs:=ps.map V.ref) (fun i τ H'=>∃ v0 v1 es,τ = [v0,v1,some (.ref cl)]/\bT H1 H'/\iM fq H' Dl es (fr i (Sw.jv ss m))) ⟨none,none,[],rfl,cZ iH,⟨cO,.nil⟩⟩ (fun i τ H' _ ⟨_,_,_,_,s',_⟩=>.of (s' _ _ uc.hl)) ?_ ?_
  ·rintro i y τ H2 p hy ⟨v0,v1,es,rfl,s2,L2⟩ lX
   obtain ⟨px,ud,rfl⟩:∃ p,ps[i]? = some p/\V.ref p=y:=by simpa using hy
   have hi:i<ss.length:=by have:=(aa.mp ud).1; omega
   have Em:=pQ L2.r
   rw [t8] at Em
   have sn:=cZ (o:=.tup [.int i,.ref px]) lX
   have s2:=s2.trans sn
   have L2:=L2.same sn
   refine ⟨p,_,rfl,.of cO,rfl,_,_,rfl,_,_,rfl,rfl,?_⟩
   generalize aQ H2 p (.tup [.int i,.ref px])=H3 at s2 L2 ⊢
   clear sn lX
   obtain ⟨p2,pl,pr,e1,_,h1,h2,h3⟩:=(uc.same s2).item hi
   rw [ud] at e1
   cases e1
   simp only [lU,if_true]
   walk_at "rd"
   refine fj (.of h1) rfl ?_
   refine ⟨cl,cp,i,pl,pr,ss,L,m,rfl,CL.same s2,h2,h3,PL,en,hi,fun fl fp H4 s4 AK FL=>?_⟩
   refine ⟨fl,fp,_,rfl,FL,fun q hq=>Sw.Ca PL en hi hq,fun r H5 s5 Uo=>?_⟩
   have s5:=s4.trans s5
   have L5:=L2.same s5
   have kt:∀ b xs,H5 b=some (.tup xs)->aQ H5 Dl (.lst (es.map V.ref++[.ref r])) b=some (.tup xs):=fun b xs e=>by
    rw [c8 (b7 e L5.hl (by intro z; cases z))]; exact e
   refine ⟨_,L5.hl,cX (by rw [ae]; omega),fun b o e=>?_,es++[r],?_⟩
   ·rw [c8 (gX e iH)]; exact s5 _ _ (s2 _ _ e)
   ·rw [EJ]
    exact ⟨by rw [cO,ay]; rfl,tY (kt _ _ Uo) (qf L5.r kt)⟩
  rintro τ H2 ⟨v0,v1,es,rfl,s2,L2⟩
  rw [ae,len] at L2
  exact k Dl es m H2 (s1.trans s2) (s1.free iH) L2 en
def Yj:Sp:=fun vs H Q _=>∃ l ps us pm m,vs = [.ref l,.ref pm]/\H l=some (.lst (ps.map V.ref))/\vd H ps us/\H pm=some (.tup (fq m))/\Sw.cL 5000 m/\(∀ u∈us,Sw.cL 5000 u.1/\Sw.cL 5000 u.2.1)/\us.length<=200 /\
 ∀ r rs H',bT H H'->H' r=some (.lst (rs.map V.ref))->vd H' rs (Sw.fK us m)->Q (.ref r) H'
theorem Wd (T:Txt K mg cA):jT P w K mg base (jK P w) 2 "heads_of" ["tagged", "mark"] Yj:=by
 have c5:=xA (P:=P) (w:=w) (base:=base) T
 refine T.rP.okN (k:=1) VU (fun vs H Q E h=>?_) (fun f e6 A outer s H vs Q E hr h=>?_)
 ·obtain ⟨l,ps,us,pm,m,rfl,_⟩:=h
  rfl
 ·obtain ⟨l,ps,us,pm,m,rfl,hl,tg,hm,zm,zu,lu,k⟩:=h
  refine ⟨_,(fL (jy (iK ["one"] [("mark", 1)] rfl (by with_unfolding_all rfl) (by decide +kernel) rfl (by decide +kernel) (by exact ⟨rfl,aN⟩) (by with_unfolding_all rfl) ⟨⟨rfl,rfl,rfl⟩,aN⟩ (nK K rfl (pv 0)) (fun _ _ _=>(gu (i:=0) (show (["one", "mark"]:List Str).Nodup from by decide +kernel) rfl (by first|left;rfl|right;rfl))) (fun _ _ _=>(Cf (PW.pt (Ju (EM (qM (dM c5 (hr.mono (by decide)) rfl aU (aS (pv 1) (aS (bg (fh K rfl) (pv 0) bO (fun _ _=>rfl)) bU))))) (MF (qM (dM c5 (hr.mono (by decide)) rfl aU (aS (pv 1) (aS (bg (fh K rfl) (pv 0) bO (fun _ _=>rfl)) bU))))))))) (fun _ _ _=>(pv 0))))),?_⟩
  show oh _ _ [some (.ref l),some (.ref pm)] H
  have len:=dP tg
  walk_at "rd"
  refine ⟨⟨_,.of hl⟩,fun D hD=>?_⟩
  have lD:l≠D:=gX hl hD
  show jz _ _ _ _ D [none,some (.ref pm)] _ _
  refine uq (xs:=ps.map V.ref) (fun i τ H'=>bT H H'/\∃ v rs,τ = [v,some (.ref pm)]/\H' D=some (.lst (rs.map V.ref))/\vd H' rs (Sw.fK (us.take i) m)/\rs.length<=i) ⟨cZ hD,none,[],rfl,cO,.nil,av _⟩ (fun i τ H' _ q=>.of (q.1 _ _ hl)) ?_ ?_
  ·rintro i x τ H1 hx ⟨sm,v,rs,rfl,lG,tr,lr⟩
   obtain ⟨p,hp,rfl⟩:∃ p,ps[i]? = some p/\V.ref p=x:=by
    rw [bh] at hx
    cases e:ps[i]? with
    | none=>rw [e] at hx; cases hx
    | some z=>rw [e] at hx; exact ⟨z,rfl,bE hx⟩
   have hi:i<ps.length:=(aa.mp hp).1
   obtain ⟨u,hu,tu⟩:=wV tg hp
   obtain ⟨zb,ze⟩:=zu u (aq hu)
   have Hh:=tu.keep fun _ _ q=>sm _ _ q
   obtain ⟨pb,pe,h1,h2,h3⟩:=id Hh
   have N3:=sm _ _ hm
   have et:Sw.fK (us.take (i+1)) m=Sw.fK (us.take i) m++(if Sw.mE m u=true then [u] else []):=by
    rw [aV hu]
    unfold Sw.fK
    rw [cG]
    congr 1
    rw [aZ]
    rfl
   have kt:∀ b xs,H1 b=some (.tup xs)->aQ H1 D (.lst (rs.map V.ref++[.ref p])) b=some (.tup xs):=fun b xs e=>by
    rw [c8 (b7 e lG (by intro z; cases z))]; exact e
   walk_at "rd"
   refine fj (.of h1) rfl ⟨pm,pb,m,u.1,rfl,N3,h2,zm,zb,?_⟩
   walk_at "rd"
   have no:Sw.mE m u=false->bT H H1/\∃ x,H1 D=some (HO.lst (List.map V.ref x))/\vd H1 x (Sw.fK (List.take (i+1) us) m)/\x.length<=i+1:=fun e=>by
    refine ⟨sm,rs,lG,?_,by omega⟩
    rw [et,e,if_neg (by decide),bx]
    exact tr
   refine ir (fun h=>no (by unfold Sw.mE; rw [decide_eq_true h]; rfl)) fun h=>fj (.of h1) rfl ⟨pm,pe,m,u.2.1,rfl,N3,h3,zm,ze,_,rfl,?_⟩
   refine ir (fun h4=>?_) fun h4=>no (by unfold Sw.mE; rw [show decide (m<u.2.1)=false from eq_false_of_ne_true h4,DZ])
   refine ⟨_,lG,cX (by rw [ae]; omega),fun b o e=>?_,rs++[p],by rw [cO]; simp,?_,by simp; omega⟩
   ·rw [c8 (gX e hD)]; exact sm _ _ e
   ·rw [et,if_pos (by unfold Sw.mE; rw [decide_eq_false h,h4]; rfl)]
    exact zj (Hh.keep kt) (Ce tr kt)
  ·rintro τ H1 ⟨sm,v,rs,rfl,lG,tr,lr⟩
   rw [aK (by rw [ae,len]; exact av _)] at tr
   exact k D rs H1 sm lG tr
def Zg (C:Addr):Sp:=fun vs H Q _=>∃ p t eG re us D B,vs = [.ref p,.int t]/\Nk C H p eG re us/\jr D B eG re us/\eG<=t/\t<1000000000000000 /\
 ∀ q H',bT H H'->H' q=some (.tup (fq (Sw.iC us eG re t)))->Q (.ref q) H'
theorem VV (T:Txt K mg cA):vh P w K mg base (jK P w) 4 cA "mark" ["self", "at"] [[]] (Zg cA):=by
 have gc:=Cp (P:=P) (w:=w) (base:=base) T
 have eR:=DP (P:=P) (w:=w) (base:=base) T
 have gY:=EL (P:=P) (w:=w) (base:=base) T
 have j8:=JE (P:=P) (w:=w) (base:=base) T
 have c5:=xA (P:=P) (w:=w) (base:=base) T
 have jL:=Jt (P:=P) (w:=w) (base:=base) T
 have oQ:=Wd (P:=P) (w:=w) (base:=base) T
 refine T.rE.okN (k:=3) d7 (fun vs H Q E h=>?_) (fun f e6 A outer s H vs Q E hr h=>?_)
 ·obtain ⟨p,t,eG,re,us,D,B,rfl,_⟩:=h
  rfl
 ·obtain ⟨p,t,eG,re,us,D,B,rfl,td,ok,jx,t1,k⟩:=h
  refine ⟨_,(c7 (eu (i:=2) d7.nd rfl (lI (aS (Cj (pv 0) rfl) (aS bO bU)))) (c7 (eu (i:=3) d7.nd rfl (Cj (pv 0) rfl)) (c7 (eu (i:=4) d7.nd rfl (dM oQ (hr.mono (by decide)) rfl aU (aS (Cj (pv 0) rfl) (aS (pv 3) bU)))) (c7 (Hv PassesOwn.never (Ht K rfl (pv 4)) (c7 (eu (i:=5) d7.nd rfl (lI (aS (vR (Ja K rfl rfl) rfl T.rG boot_sum (aS (iK ["begin", "end", "share"] [] rfl (by with_unfolding_all rfl) (by decide +kernel) rfl (by decide +kernel) (by exact aN) (by with_unfolding_all rfl) aN (nK K rfl (pv 4)) (fun _ _ _=>(qi (n:=3) K rfl rfl (iT (gu (i:=0) (show (["begin", "end", "share"]:List Str).Nodup from by decide +kernel) rfl (by first|left;rfl|right;rfl)) (iT (gu (i:=1) (show (["begin", "end", "share"]:List Str).Nodup from by decide +kernel) rfl (by first|left;rfl|right;rfl)) (iT (gu (i:=2) (show (["begin", "end", "share"]:List Str).Nodup from by decide +kernel) rfl (by first|left;rfl|right;rfl)) qh))))) (fun _ _ _=>u9) (fun _ _ _=>(pv 2))) bU)) (aS bO bU)))) (c7 (eu (i:=6) d7.nd rfl (dM jL (hr.mono (by decide)) rfl aU (aS (iK ["begin", "end", "share"] [] rfl (by with_unfolding_all rfl) (by decide +kernel) rfl (by decide +kernel) (by exact aN) (by with_unfolding_all rfl) aN (nK K rfl (pv 4)) (fun _ _ _=>(qi (n:=3) K rfl rfl (iT (gu (i:=0) (show (["begin", "end", "share"]:List Str).Nodup from by decide +kernel) rfl (by first|left;rfl|right;rfl)) (iT (gu (i:=1) (show (["begin", "end", "share"]:List Str).Nodup from by decide +kernel) rfl (by first|left;rfl|right;rfl)) (iT (gu (i:=2) (show (["begin", "end", "share"]:List Str).Nodup from by decide +kernel) rfl (by first|left;rfl|right;rfl)) qh))))) (fun _ _ _=>u9) (fun _ _ _=>(pv 1))) bU))) (c7 (eu (i:=7) d7.nd rfl (dM gc (hr.mono (by decide)) rfl aU (aS (pv 2) (aS (dM gY (hr.mono (by decide)) rfl aU (aS (dM eR (hr.mono (by decide)) rfl aU (aS (pv 6) (aS (pv 3) bU))) (aS (pv 5) bU))) bU)))) (c7 (gy (qM (dM c5 (hr.mono (by decide)) rfl aU (aS (lI (aS (pv 1) (aS bO bU))) (aS (pv 7) bU)))) (fL (jy (dM gc (hr.mono (by decide)) rfl aU (aS (pv 3) (aS (dM j8 (hr.mono (by decide)) rfl aU (aS (dM eR (hr.mono (by decide)) rfl aU (aS (lI (aS (pv 1) (aS bO bU))) (aS (pv 2) bU))) (aS (pv 5) bU))) bU))))) pR) (c7 (eu (i:=2) d7.nd rfl (pv 7)) (c7 (eu (i:=3) d7.nd rfl (pv 6)) (fL (eu (i:=4) d7.nd rfl (dM oQ (hr.mono (by decide)) rfl aU (aS (Cj (pv 0) rfl) (aS (pv 3) bU)))))))))))) (fL (jy (lI (aS (bg (fh K rfl) (pv 3) bO (fun _ _=>rfl)) (aS (bg (fh K rfl) (pv 3) bO (fun _ _=>rfl)) bU))))))))),?_⟩
  show fU _ _ _ [some (.ref p),some (.int t),none,none,none,none,none,none] H
  obtain ⟨dx,fs,pr,pu,pe,ps,hp,ft,oE,hu,tg⟩:=id td.ex
  refine di fun R hR=>?_
  walk_at "rd"
  refine Cg hp T.eY T.i6 ft.eG ?_
  walk_at "rd"
  intro x1 f1
  have s1:=cZ (o:=.tup [.int eG,.int 1]) f1
  have h1:=sy (H:=H) (p:=x1) (n:=eG)
  have hp:=s1 _ _ hp
  have oE:=s1 _ _ oE
  have hu:=s1 _ _ hu
  have tg:=vQ tg s1
  generalize aQ H x1 (.tup [.int eG,.int 1])=H1 at s1 h1 hp oE hu tg ⊢
  refine hR _ _ ?_
  refine di fun R hR=>?_
  walk_at "rd"
  refine Cg hp T.eY T.iO ft.IB (hR _ _ ?_)
  refine di fun R hR=>?_
  walk_at "rd"
  refine Cg hp T.eY T.eN ft.A3 ?_
  have Sx:∀ u∈us,Sw.cL 5000 u.1/\Sw.cL 5000 u.2.1:=fun u h=>ok.zu u h
  refine ⟨pu,ps,us,pr,re,rfl,hu,tg,oE,ok.zr.mono (by decide),Sx,by have:=ok.len; omega,fun hd rs H2 s2 hh th=>hR _ _ ?_⟩
  refine di fun R hR=>?_
  refine Rh (fun m σ H'=>bT H H'/\∃ mo rq n x y z rs v5 v6 v7,σ = [some (.ref p),some (.int t),some (.ref x),some (.ref y),some (.ref z),v5,v6,v7]/\H' x=some (.tup (fq mo))/\H' y=some (.tup (fq rq))/\H' z=some (.lst (rs.map V.ref))/\vd H' rs (Sw.fK us rq) /\
   H' p=some (.ins cA dx fs)/\H' pu=some (.lst (ps.map V.ref))/\vd H' ps us/\Sw.dH D mo/\0<=mo/\mo<=(t:Rat)/\Sw.dH D rq/\0<=rq/\rq<=(B:Rat) /\
   Sw.iC us eG re t=Sw.iu us (t:Rat) (n+1) mo rq/\Sw.ahead us rq<=n/\m=Sw.ahead us rq) (m0:=Sw.ahead us re)
   ⟨s1.trans s2,eG,re,us.length,x1,pr,hd,rs,none,none,none,rfl,s2 _ _ h1,s2 _ _ oE,hh,th,s2 _ _ hp,s2 _ _ hu,vQ tg s2,Sw.dH.int (by have:=ok.gb.D0; omega) eG,ok.Lj,ak.mpr jx,ok.Ic,ok.uh,ok.LP,rfl,Sw.sQ _ _,rfl⟩ ?_
  rintro m σ H3 ⟨sm,mo,rq,n,x,y,z,rs,v5,v6,v7,rfl,hx,hy,hz,th,hp,hu,tg,gm,m0,m1,gr,r0,r1,em,an,rfl⟩
  refine ⟨!(rs.map V.ref).isEmpty,fun Q hQ=>⟨_,rfl,_,Mi (.of hz),hQ⟩,fun hb=>?_,fun hb=>?_⟩
  ·have uL:Sw.fK us rq≠[]:=by
    intro z
    rw [z] at th
    cases th
    exact absurd hb (by decide)
   have gt:=Sw.my uL
   have Oi:=dP th
   have ZS:(Sw.fK us rq).length<=100:=cK (bG _ _) ok.len
   have eW:∀ u∈Sw.fK us rq,o7 D B u:=fun u h=>ok.ED u (Sw.jn h).1
   refine di fun R' pB=>?_
   walk_at "rd"
   refine ⟨⟨_,.of hz⟩,fun Dl iH=>?_⟩
   show jz _ _ _ _ Dl [none,none,none] _ _
   refine uq (xs:=rs.map V.ref) (fun i τ H'=>bT H3 H'/\∃ w1 w2 w3,τ = [w1,w2,w3]/\H' Dl=some (.lst ((((Sw.fK us rq).take i).map fun u=>u.2.2).map V.int))) ⟨cZ iH,none,none,none,rfl,cO⟩ (fun i τ H' _ q=>.of (q.1 _ _ hz)) ?_ ?_
   ·rintro i w τ H4 hw ⟨yE,w1,w2,w3,rfl,FU⟩
    obtain ⟨pp,jF,rfl⟩:∃ p,rs[i]? = some p/\V.ref p=w:=by
     rw [bh] at hw
     cases e:rs[i]? with
     | none=>rw [e] at hw; cases hw
     | some z=>rw [e] at hw; exact ⟨z,rfl,bE hw⟩
    have hi:i<rs.length:=(aa.mp jF).1
    obtain ⟨u,BE,tu⟩:=wV th jF
    obtain ⟨pb,GG,g1,g2,g3⟩:=tu.keep fun _ _ q=>yE _ _ q
    walk_at "rd"
    refine ⟨_,.of g1,rfl,_,_,rfl,_,_,rfl,_,_,rfl,rfl,?_⟩
    unfold lU
    walk_at "rd"
    refine ⟨_,FU,cX (by simp; omega),fun b o e=>?_,?_⟩
    ·rw [c8 (gX e iH)]; exact yE _ _ e
    ·rw [cO,aV BE,ay,ay]
     rfl
   ·rintro τ H4 ⟨yE,w1,w2,w3,rfl,FU⟩
    rw [aK (by rw [ae,Oi]; exact av _)] at FU
    refine ⟨Dl,_,rfl,.of FU,?_⟩
    walk_at "rd"
    intro q5 f5
    have eS:((Sw.fK us rq).map fun u=>u.2.2).sum=Sw.h9 (Sw.fK us rq):=rfl
    rw [eS]
    have hS:=Jk eW uL
    have NJ:Sw.h9 (Sw.fK us rq)<=100000000:=by have:=hS.2; omega
    generalize TN:Sw.h9 (Sw.fK us rq)=S at hS NJ
    have lQ:=yE.trans (cZ (o:=.tup [.int S,.int 1]) f5)
    have h5:=sy (H:=H4) (p:=q5) (n:=S)
    generalize aQ H4 q5 (.tup [.int S,.int 1])=H5 at lQ h5 ⊢
    clear FU yE iH f5 eS
    refine pB _ _ ?_
    have hz:=lQ _ _ hz
    have th:=vQ th lQ
    have hx:=lQ _ _ hx
    have hy:=lQ _ _ hy
    have hp:=lQ _ _ hp
    have hu:=lQ _ _ hu
    have tg:=vQ tg lQ
    have sm:=sm.trans lQ
    clear lQ
    refine di fun R' pB=>?_
    walk_at "rd"
    refine ⟨⟨_,.of hz⟩,fun Dl iH=>?_⟩
    show jz _ _ _ _ Dl [none,none,none] _ _
    refine uq (xs:=rs.map V.ref) (fun i τ H'=>bT H5 H'/\∃ w1 w2 w3 es,τ = [w1,w2,w3]/\iM fq H' Dl es (((Sw.fK us rq).take i).map fun u=>u.2.1)/\es.length<=i) ⟨cZ iH,none,none,none,[],rfl,⟨cO,.nil⟩,av _⟩ (fun i τ H' _ q=>.of (q.1 _ _ hz)) ?_ ?_
    ·rintro i w τ H6 hw ⟨yE,w1,w2,w3,es,rfl,L6,UE⟩
     obtain ⟨pp,jF,rfl⟩:∃ p,rs[i]? = some p/\V.ref p=w:=by
      rw [bh] at hw
      cases e:rs[i]? with
      | none=>rw [e] at hw; cases hw
      | some z=>rw [e] at hw; exact ⟨z,rfl,bE hw⟩
     have hi:i<rs.length:=(aa.mp jF).1
     obtain ⟨u,BE,tu⟩:=wV th jF
     obtain ⟨pb,GG,g1,g2,g3⟩:=tu.keep fun _ _ q=>yE _ _ q
     have kt:∀ b xs,H6 b=some (.tup xs)->aQ H6 Dl (.lst (es.map V.ref++[.ref GG])) b=some (.tup xs):=fun b xs e=>by
      rw [c8 (b7 e L6.hl (by intro z; cases z))]; exact e
     walk_at "rd"
     refine ⟨_,.of g1,rfl,_,_,rfl,_,_,rfl,_,_,rfl,rfl,?_⟩
     unfold lU
     walk_at "rd"
     refine ⟨_,L6.hl,cX (by simp; omega),fun b o e=>?_,es++[GG],⟨by rw [cO]; simp,?_⟩,by simp; omega⟩
     ·rw [c8 (gX e iH)]; exact yE _ _ e
     ·rw [aV BE,ay]
      exact tY (kt _ _ g3) (qf L6.r kt)
    ·rintro τ H6 ⟨yE,w1,w2,w3,es,rfl,L6,UE⟩
     rw [aK (by rw [ae,Oi]; exact av _)] at L6
     refine ⟨Dl,es,_,rfl,L6,by simpa using uL,fun q hq=>?_,fun fe H7 GY zV=>pB _ _ ?_⟩
     ·obtain ⟨u,BE,rfl⟩:=aP.mp hq
      exact (ok.zu u (Sw.jn BE).1).2
     have eF:Sw.dY ((Sw.fK us rq).map fun u=>u.2.1)=Sw.iq (Sw.fK us rq):=rfl
     rw [eF] at zV
     obtain ⟨uf,Ex,ef⟩:=Sw.kE uL
     have tf:=eW uf Ex
     have gf:Sw.dH D (Sw.iq (Sw.fK us rq)):=by rw [ef]; exact tf.e
     have fB:Sw.iq (Sw.fK us rq)<=(B:Rat):=by rw [ef]; exact tf.eB
     have No:=Sw.sR uL
     have Tp:Sw.iu us (t:Rat) (n+1) mo rq=(if (t:Rat)<mo+(Sw.iq (Sw.fK us rq)-rq)*(S:Rat) then rq+((t:Rat)-mo) / (S:Rat) else Sw.iu us (t:Rat) n (mo+(Sw.iq (Sw.fK us rq)-rq)*(S:Rat)) (Sw.iq (Sw.fK us rq))):=by
      show (if Sw.fK us rq = [] then _ else _) = _
      rw [if_neg uL,TN]
     rw [Tp] at em
     generalize Sw.iq (Sw.fK us rq)=fv at zV gf fB gt No em
     have lQ:=yE.trans GY
     have hx:=lQ _ _ hx
     have hy:=lQ _ _ hy
     have hp:=lQ _ _ hp
     have hu:=lQ _ _ hu
     have tg:=vQ tg lQ
     have h5:=lQ _ _ h5
     have sm:=sm.trans lQ
     clear lQ yE GY L6 iH hz
     have gb:=ok.gb
     have B0:=gb.B0
     have B1:=gb.B1
     have Bq:(0:Rat)<=(B:Rat):=by grind
     have S0:(0:Rat)<=(S:Rat):=by
      have:((0:Int):Rat)<=(S:Rat):=ak.mpr (by omega)
      exact this
     have d0:0<=fv-rq:=by grind
     have d1:fv-rq<=(B:Rat):=by grind
     have gd:=gf.sub gr
     have Z8:0<=(fv-rq)*(S:Rat):=bM d0 S0
     have OG:(fv-rq)*(S:Rat)<=((B*S:Int):Rat):=by
      rw [aJ]; exact aC d1 S0
     have BS:B*S<=10000000000*100000000:=Int.mul_le_mul B1 NJ (by omega) (by decide)
     have Zo:0<=B*S:=l8 B0 (by omega)
     have gp:=gd.mG S
     have ga:=gm.add gp
     have tq:(t:Rat)<=((1000000000000000:Int):Rat):=ak.mpr (by omega)
     have zd:Sw.cL 1570 (fv-rq):=gb.EC gd d0 d1
     have zp:Sw.cL 1570 ((fv-rq)*(S:Rat)):=gb.sz (M:=B*S) gp (by rw [aJ] at OG; grind) OG (by omega) (by omega)
     have a0:0<=mo+(fv-rq)*(S:Rat):=by grind
     have a1:mo+(fv-rq)*(S:Rat)<=((1000000000000000+B*S:Int):Rat):=by rw [dh]; grind
     have za:Sw.cL 1570 (mo+(fv-rq)*(S:Rat)):=gb.sz (M:=1000000000000000+B*S) ga (by have:=Rat.neg_le_neg a1; grind) a1 (by omega) (by omega)
     have zS:Sw.cL 70 (S:Rat):=.int (Sw.Sz.j5 (by omega) (by omega))
     have zm:Sw.cL 1570 mo:=gb.sz (M:=1000000000000000) gm (by grind) (by grind) (by decide) (by decide)
     have RS:Sw.cL 1570 rq:=gb.EC gr r0 r1
     have zf:Sw.cL 1570 fv:=gb.EC gf (by grind) fB
     refine di fun R' pB=>?_
     walk_at "rd"
     refine ⟨fe,y,fv,rq,1570,rfl,zV,hy,by decide,zf,RS,fun q1 f1=>?_⟩
     have n1:=cZ (o:=.tup (fq (fv-rq))) f1
     refine ⟨q1,q5,fv-rq,(S:Rat),1570,rfl,cO,n1 _ _ h5,by decide,zd,zS.mono (by decide),fun q2 Ft=>?_⟩
     have n2:=cZ (o:=.tup (fq ((fv-rq)*(S:Rat)))) Ft
     refine ⟨x,q2,mo,(fv-rq)*(S:Rat),1570,rfl,n2 _ _ (n1 _ _ hx),cO,by decide,zm,zp,fun q3 f3=>pB _ _ ?_⟩
     have n3:=cZ (o:=.tup (fq (mo+(fv-rq)*(S:Rat)))) f3
     have nn:=(n1.trans n2).trans n3
     have Ep:aQ (aQ (aQ H7 q1 (.tup (fq (fv-rq)))) q2 (.tup (fq ((fv-rq)*(S:Rat))))) q3 (.tup (fq (mo+(fv-rq)*(S:Rat)))) q3=some (.tup (fq (mo+(fv-rq)*(S:Rat)))):=cO
     generalize aQ (aQ (aQ H7 q1 (.tup (fq (fv-rq)))) q2 (.tup (fq ((fv-rq)*(S:Rat))))) q3 (.tup (fq (mo+(fv-rq)*(S:Rat))))=H8 at nn Ep ⊢
     have hx:=nn _ _ hx
     have hy:=nn _ _ hy
     have hp:=nn _ _ hp
     have hu:=nn _ _ hu
     have tg:=vQ tg nn
     have h5:=nn _ _ h5
     have zV:=nn _ _ zV
     have sm:=sm.trans nn
     clear nn n1 n2 n3 f1 Ft f3
     refine di fun R' pB=>?_
     walk_at "rd"
     intro q4 f4
     have n4:=cZ (o:=.tup [.int t,.int 1]) f4
     have zt:Sw.cL 70 (t:Rat):=.int (Sw.Sz.j5 (by have:=ok.l0; omega) (by omega))
     refine ⟨q4,q3,t,mo+(fv-rq)*(S:Rat),rfl,sy,n4 _ _ Ep,zt.mono (by decide),za.mono (by decide),?_⟩
     have sm:=sm.trans n4
     have hx:=n4 _ _ hx
     have hy:=n4 _ _ hy
     have hp:=n4 _ _ hp
     have hu:=n4 _ _ hu
     have tg:=vQ tg n4
     have h5:=n4 _ _ h5
     have zV:=n4 _ _ zV
     have Ep:=n4 _ _ Ep
     generalize aQ H8 q4 (.tup [.int t,.int 1])=H9 at sm hx hy hp hu tg h5 zV Ep ⊢
     clear n4 f4
     walk_at "rd"
     refine ir (fun C0=>?_) fun C0=>pB _ _ ?_
     ·rw [if_pos C0] at em
      intro q6 f6
      have n6:=cZ (o:=.tup [.int t,.int 1]) f6
      have td0:0<=(t:Rat)-mo:=by grind
      have zx:Sw.cL 1570 ((t:Rat)-mo):=gb.sz (M:=1000000000000000) ((Sw.dH.int (by have:=gb.D0; omega) t).sub gm) (by grind) (by grind) (by decide) (by decide)
      have Sn:(S:Rat)≠0:=Sw.cI (by omega)
      refine ⟨q6,x,t,mo,1570,rfl,sy,n6 _ _ hx,by decide,zt.mono (by decide),zm,fun q7 f7=>?_⟩
      have n7:=cZ (o:=.tup (fq ((t:Rat)-mo))) f7
      refine ⟨q7,q5,(t:Rat)-mo,S,1570,rfl,cO,n7 _ _ (n6 _ _ h5),by decide,zx,zS.mono (by decide),Sn,fun q8 f8=>?_⟩
      have n8:=cZ (o:=.tup (fq (((t:Rat)-mo) / (S:Rat)))) f8
      refine ⟨y,q8,rq,((t:Rat)-mo) / (S:Rat),1640,rfl,n8 _ _ (n7 _ _ (n6 _ _ hy)),cO,by decide,RS.mono (by decide),Sw.cL.div (Sw.kI Sn) zx zS,fun q9 f9=>?_⟩
      refine k q9 _ ((((sm.trans n6).trans n7).trans n8).trans (cZ f9)) ?_
      rw [em,cO]
     ·rw [if_neg C0] at em
      refine di fun R' pB=>?_
      walk_at "rd"
      refine pB _ _ ?_
      refine di fun R' pB=>?_
      walk_at "rd"
      refine pB _ _ ?_
      refine t7 fun R' pB=>?_
      walk_at "rd"
      refine Cg hp T.eY T.eN ft.A3 ?_
      refine ⟨pu,ps,us,fe,fv,rfl,hu,tg,zV,zf.mono (by decide),Sx,by have:=ok.len; omega,fun hd rs nQ lH hh th=>pB _ _ ?_⟩
      have Zw:0<n:=by omega
      obtain ⟨n',rfl⟩:∃ n',n=n' + 1:=⟨n-1,by omega⟩
      exact ⟨_,No,sm.trans lH,mo+(fv-rq)*(S:Rat),fv,n',q3,fe,hd,rs,_,_,_,rfl,lH _ _ Ep,lH _ _ zV,hh,th,lH _ _ hp,lH _ _ hu,vQ tg lH,ga,a0,by grind,gf,by grind,fB,em,by omega,rfl⟩
  ·refine hR _ _ ?_
   have hn:Sw.fK us rq = []:=by
    have:rs = []:=by simpa using hb
    subst this
    exact fR.mp (dP th).symm
   walk_at "rd"
   refine fj (.of hy) rfl (fj (.of hy) rfl fun q hq=>?_)
   refine k q _ (sm.trans (cZ hq)) ?_
   rw [em]
   unfold Sw.iu
   rw [if_pos hn,cO]
   rfl
def LZ (C:Addr):Sp:=fun vs H Q _=>∃ x dx,vs = [.ref x]/\H x=some (.ins C dx [])/\∀ pe H',ER x H H'->H pe=none->Td C H' x pe 0 0 [] (fun _=>none) 0->Q .iJ H'
theorem Zh (T:Txt K mg cA):JK P w K mg base (jK P w) 3 cA ["self"] [[]] (LZ cA):=by
 have cW:=wZ (P:=P) (w:=w) (base:=base) T
 refine T.AB.okN (k:=2) VO (fun vs H Q E h=>?_) (fun f e6 A outer s H vs Q E hr h=>?_)
 ·obtain ⟨x,dx,rfl,_⟩:=h
  rfl
 ·obtain ⟨x,dx,rfl,hx,k⟩:=h
  refine ⟨_,(c7 (DS (pv 0) bO rfl) (c7 (DS (pv 0) (dM cW (hr.mono (by decide)) rfl aU (aS bO (aS bO bU))) rfl) (c7 (DS (pv 0) (su bU) rfl) (fL (DS (pv 0) Mz rfl))))),?_⟩
  show fU _ _ _ [some (.ref x)] H
  have l1:=Cd (fs:=[]) (f := "latest") (v:=.int 0)
  simp only [cy] at l1
  refine di fun R hR=>?_
  walk_at "rd"
  refine DT hx T.eY T.i6 (by simp) (hR _ _ ?_)
  refine di fun R hR=>?_
  walk_at "rd"
  refine ⟨0,1,1,rfl,by decide,Sw.Sz.one _,fun _ pr Et=>?_,fun z=>absurd z (by decide)⟩
  have nx:x≠pr:=by
   intro z
   rw [z,cO] at Et
   cases Et
  have UU:H pr=none:=by rw [c8 (dI nx)] at Et; exact Et
  have l2:=Cd (fs:=bQ "latest" (.int 0) []) (f := "reached") (v:=.ref pr)
  walk_at "rd"
  refine DT (C:=cA) (dx:=dx) (fs:=bQ "latest" (.int 0) []) (by rw [c8 nx,cO]) T.eY T.iO (by omega) (hR _ _ ?_)
  have e0:((0:Int):Rat) / ((1:Int):Rat) = 0:=by
   have z0:((0:Int):Rat) = 0:=rfl
   rw [z0]; grind
  rw [e0]
  have q1:ER x H (aQ (aQ (aQ H x (.ins cA dx (bQ "latest" (.int 0) []))) pr (.tup (fq 0))) x (.ins cA dx (bQ "reached" (.ref pr) (bQ "latest" (.int 0) [])))):=fun b o n e=>by
   rw [c8 n,c8 (gX e UU),c8 n]; exact e
  have K7:aQ (aQ (aQ H x (.ins cA dx (bQ "latest" (.int 0) []))) pr (.tup (fq 0))) x (.ins cA dx (bQ "reached" (.ref pr) (bQ "latest" (.int 0) []))) x=some (.ins cA dx (bQ "reached" (.ref pr) (bQ "latest" (.int 0) []))):=cO
  have KZ:aQ (aQ (aQ H x (.ins cA dx (bQ "latest" (.int 0) []))) pr (.tup (fq 0))) x (.ins cA dx (bQ "reached" (.ref pr) (bQ "latest" (.int 0) []))) pr=some (.tup (fq 0)):=by rw [c8 (dI nx),cO]
  generalize aQ (aQ (aQ H x (.ins cA dx (bQ "latest" (.int 0) []))) pr (.tup (fq 0))) x (.ins cA dx (bQ "reached" (.ref pr) (bQ "latest" (.int 0) [])))=H1 at q1 K7 KZ ⊢
  refine di fun R hR=>?_
  walk_at "rd"
  intro pu KU
  have s1:=cZ (o:=.lst []) KU
  have l3:=Cd (fs:=bQ "reached" (.ref pr) (bQ "latest" (.int 0) [])) (f := "unflowed") (v:=.ref pu)
  have OE:x≠pu:=gX K7 KU
  refine DT (s1 _ _ K7) T.eY T.eN (by omega) (hR _ _ ?_)
  have UV:pr≠pu:=gX KZ KU
  have q2:ER x H (aQ (aQ H1 pu (.lst [])) x (.ins cA dx (bQ "unflowed" (.ref pu) (bQ "reached" (.ref pr) (bQ "latest" (.int 0) []))))):=fun b o n e=>by
   rw [c8 n]; exact s1 _ _ (q1 b o n e)
  have K8:aQ (aQ H1 pu (.lst [])) x (.ins cA dx (bQ "unflowed" (.ref pu) (bQ "reached" (.ref pr) (bQ "latest" (.int 0) [])))) x=some (.ins cA dx (bQ "unflowed" (.ref pu) (bQ "reached" (.ref pr) (bQ "latest" (.int 0) [])))):=cO
  have zW:aQ (aQ H1 pu (.lst [])) x (.ins cA dx (bQ "unflowed" (.ref pu) (bQ "reached" (.ref pr) (bQ "latest" (.int 0) [])))) pr=some (.tup (fq 0)):=by rw [c8 (dI nx)]; exact s1 _ _ KZ
  have Iq:aQ (aQ H1 pu (.lst [])) x (.ins cA dx (bQ "unflowed" (.ref pu) (bQ "reached" (.ref pr) (bQ "latest" (.int 0) [])))) pu=some (.lst []):=by rw [c8 (dI OE),cO]
  generalize aQ (aQ H1 pu (.lst [])) x (.ins cA dx (bQ "unflowed" (.ref pu) (bQ "reached" (.ref pr) (bQ "latest" (.int 0) []))))=H2 at q2 K8 zW Iq ⊢
  walk_at "rd"
  intro pe C3
  have s3:=cZ (o:=.dK []) C3
  have OD:x≠pe:=gX K8 C3
  have fe:H pe=none:=by
   cases e:H pe with
   | none=>rfl
   | some o=>rw [q2 pe o (dI OD) e] at C3; cases C3
  refine DT (s3 _ _ K8) T.eY T.g9 (by omega) ?_
  refine k pe _ (fun b o n e=>?_) fe ⟨dx,_,pr,pu,[],[],cO,FT.UM pr pu pe,?_,?_,.nil,?_,fun w=>.inl ⟨rfl,rfl⟩,av _,av _⟩
  ·rw [c8 n]; exact s3 _ _ (q2 b o n e)
  ·rw [c8 (dI nx)]; exact s3 _ _ zW
  ·rw [c8 (dI OE)]; exact s3 _ _ Iq
  ·rw [c8 (dI OD),cO]
def E3 (C:Addr) (H:Hp) (p l:Addr):Prop:=∀ dx fs pu,H p=some (.ins C dx fs)->fs.lookup ("unflowed" : Str)=some (.ref pu)->pu≠l
theorem E3.on {C:Addr} {H H':Hp} {p l dx:Addr} {fs:List (Str×V)} (h:E3 C H p l) (e:H p=some (.ins C dx fs)) (e':H' p=some (.ins C dx fs)):E3 C H' p l:=fun Tf Ib pu h1 h2=>by
 rw [e'] at h1
 cases h1
 exact h _ _ _ e h2
theorem Td.list {C:Addr} {H:Hp} {p pe l:Addr} {eG:Int} {re:Rat} {us:List Sw.T3} {en:Int->Option Rat} {m:Nat} {xs ys:List V} (h:Td C H p pe eG re us en m) (n:E3 C H p l) (hl:H l=some (.lst xs)):Td C (aQ H l (.lst ys)) p pe eG re us en m:=by
 obtain ⟨dx,fs,pr,pu,ps,kvs,h1,h2,h3,h4,h5,h6,h7,h8⟩:=h.ex
 have kt:∀ b zs,H b=some (.tup zs)->aQ H l (.lst ys) b=some (.tup zs):=fun b zs e=>by rw [c8 (b7 e hl (by intro z; cases z))]; exact e
 exact ⟨dx,fs,pr,pu,ps,kvs,by rw [c8 (b7 h1 hl (by intro z; cases z))]; exact h1,h2,kt _ _ h3,by rw [c8 (n _ _ _ h1 h2.A3)]; exact h4,Ce h5 kt,by rw [c8 (b7 h6 hl (by intro z; cases z))]; exact h6,h7.keep kt,h8⟩
def Zi (C:Addr):Sp:=fun vs H Q _=>∃ p pc t who len sh pe eG re us en m D B,vs = [.ref p,.ref pc]/\H pc=some (.tup [.int t,.int who,.int len,.int sh])/\Td C H p pe eG re us en m/\jr D B eG re us/\(∀ w e,en w=some e->Sw.dH D e/\0<=e/\e<=(B:Rat)) /\
 eG<=t/\t<1000000000000000/\1<=len/\len<=1000000/\1<=sh/\sh<=1000000/\m<=99 /\
 ∀ q qb qe H',Kept p pe H H'->Td C H' p pe t (Sw.iC us eG re t) (Sw.rV us (Sw.iC us eG re t) (Sw.lB en (Sw.iC us eG re t) who) len sh) (gw en who (Sw.lB en (Sw.iC us eG re t) who+(len:Rat) / (sh:Rat))) (m+1) ->
  H' q=some (.tup [.ref qb,.ref qe])->H' qb=some (.tup (fq (Sw.lB en (Sw.iC us eG re t) who)))->H' qe=some (.tup (fq (Sw.lB en (Sw.iC us eG re t) who+(len:Rat) / (sh:Rat))))->(∀ l xs,H l=some (.lst xs)->E3 C H' p l)->Q (.ref q) H'
theorem VW (T:Txt K mg cA):vh P w K mg base (jK P w) 5 cA "come" ["self", "piece"] [[]] (Zi cA):=by
 have sH:=VV (P:=P) (w:=w) (base:=base) T
 have gc:=Cp (P:=P) (w:=w) (base:=base) T
 have c5:=xA (P:=P) (w:=w) (base:=base) T
 have jB:=Mv (P:=P) (w:=w) (base:=base) T
 have cW:=wZ (P:=P) (w:=w) (base:=base) T
 refine T.rC.okN (k:=4) iX (fun vs H Q E h=>?_) (fun f e6 A outer s H vs Q E hr h=>?_)
 ·obtain ⟨p,pc,t,who,len,sh,pe,eG,re,us,en,m,D,B,rfl,_⟩:=h
  rfl
 ·obtain ⟨p,pc,t,who,len,sh,pe,eG,re,us,en,m,D,B,rfl,kT,td,ok,Fq,jx,t1,n1,n2,OS,sh2,hm,k⟩:=h
  refine ⟨_,(c7 (eu (i:=2) iX.nd rfl (QC (j4:=[]) sH (by simp) T.eY (hr.mono (by decide)) aU (pv 0) (aS (bg (fh K rfl) (pv 1) bO (fun _ _=>rfl)) bU))) (c7 (DS (pv 0) (bg (fh K rfl) (pv 1) bO (fun _ _=>rfl)) rfl) (c7 (DS (pv 0) (pv 2) rfl) (c7 (DS (pv 0) (iK ["one"] [("reached", 2)] rfl (by with_unfolding_all rfl) (by decide +kernel) rfl (by decide +kernel) (by exact ⟨rfl,aN⟩) (by with_unfolding_all rfl) ⟨⟨rfl,rfl,rfl⟩,aN⟩ (nK K rfl (Cj (pv 0) rfl)) (fun _ _ _=>(gu (i:=0) (show (["one", "reached"]:List Str).Nodup from by decide +kernel) rfl (by first|left;rfl|right;rfl))) (fun _ _ _=>(Cf (qM (dM c5 (hr.mono (by decide)) rfl aU (aS (pv 1) (aS (bg (fh K rfl) (pv 0) bO (fun _ _=>rfl)) bU)))))) (fun _ _ _=>(pv 0))) rfl) (c7 (eu (i:=3) iX.nd rfl (dM jB (hr.mono (by decide)) rfl aU (aS (pv 2) (aS (MA (qB hr) (Cj (pv 0) rfl) (bg (fh K rfl) (pv 1) bO (fun _ _=>rfl)) (pv 2) ⟨rfl,rfl,rfl,rfl⟩) bU)))) (c7 (eu (i:=4) iX.nd rfl (dM gc (hr.mono (by decide)) rfl aU (aS (pv 3) (aS (dM cW (hr.mono (by decide)) rfl aU (aS (bg (fh K rfl) (pv 1) bO (fun _ _=>rfl)) (aS (bg (fh K rfl) (pv 1) bO (fun _ _=>rfl)) bU))) bU)))) (c7 (xz (kH bX b8 b9 wW (Cj (pv 0) rfl) (aS (lI (aS (pv 3) (aS (pv 4) (aS (bg (fh K rfl) (pv 1) bO (fun _ _=>rfl)) bU)))) bU))) (c7 (MJ (qB hr) (Cj (pv 0) rfl) (bg (fh K rfl) (pv 1) bO (fun _ _=>rfl)) (pv 4) rfl) (fL (jy (lI (aS (pv 3) (aS (pv 4) bU))))))))))))),?_⟩
  show fU _ _ _ [some (.ref p),some (.ref pc),none,none,none] H
  have mk:=Sw.nj ok jx
  obtain ⟨dx,fs,pr,pu,ps,kvs,hp,ft,oE,hu,tg,he,ea,lk,lu⟩:=id td.ex
  have Uj:=hp
  have Kw:=he
  refine di fun R hR=>?_
  walk_at "rd"
  refine Rf hp (ft.LA _) ?_
  refine fj (.of kT) rfl ?_
  walk_at "rd"
  refine ⟨p,t,eG,re,us,D,B,rfl,td.m,ok,jx,t1,fun y H1 s1 hy=>hR _ _ ?_⟩
  generalize Sw.iC us eG re t=rv at mk hy k
  obtain ⟨⟨S,S1,S2,gS⟩,m1,m2⟩:=mk
  have kT:=s1 _ _ kT
  have hp:=s1 _ _ hp
  have hu:=s1 _ _ hu
  have tg:=vQ tg s1
  have he:=s1 _ _ he
  have ea:=ea.keep fun _ _ q=>s1 _ _ q
  have kp:Kept p pe H H1:=s1.kept
  clear s1 oE
  refine di fun R hR=>?_
  walk_at "rd"
  refine fj (.of kT) rfl (DT hp T.eY T.i6 (by have:=ft.len; omega) (hR _ _ ?_))
  refine di fun R hR=>?_
  walk_at "rd"
  have NC:=ft.AN (l':=t)
  refine DT cO T.eY T.iO (by have:=NC.len; omega) (hR _ _ ?_)
  rw [QZ]
  have Km:=NC.AO (r':=y)
  have nP:∀ b xs,H1 b=some (.tup xs)->aQ H1 p (.ins cA dx (bQ "reached" (.ref y) (bQ "latest" (.int t) fs))) b=some (.tup xs):=fun b xs e=>by
   rw [c8 (b7 e hp (by intro z; cases z))]; exact e
  have kT:=nP _ _ kT
  have hy:=nP _ _ hy
  have tg:=Ce tg nP
  have ea:=ea.keep nP
  have UW:pu≠p:=b7 hu hp (by intro z; cases z)
  have Gy:pe≠p:=b7 he hp (by intro z; cases z)
  have hu:aQ H1 p (.ins cA dx (bQ "reached" (.ref y) (bQ "latest" (.int t) fs))) pu=some (.lst (ps.map V.ref)):=by rw [c8 UW]; exact hu
  have he:aQ H1 p (.ins cA dx (bQ "reached" (.ref y) (bQ "latest" (.int t) fs))) pe=some (.dK kvs):=by rw [c8 Gy]; exact he
  have kp:Kept p pe H (aQ H1 p (.ins cA dx (bQ "reached" (.ref y) (bQ "latest" (.int t) fs)))):=fun b o n1 n2 e=>by rw [c8 n1]; exact kp b o n1 n2 e
  have hp:aQ H1 p (.ins cA dx (bQ "reached" (.ref y) (bQ "latest" (.int t) fs))) p=some (.ins cA dx (bQ "reached" (.ref y) (bQ "latest" (.int t) fs))):=cO
  generalize aQ H1 p (.ins cA dx (bQ "reached" (.ref y) (bQ "latest" (.int t) fs)))=H2 at kT hy tg ea hu he kp hp ⊢
  clear nP
  have gb:=ok.gb
  have M4:Sw.cL 1700 rv:=by
   have B1:=gb.B1
   have B0:=gb.B0
   have uh:=ok.uh
   have UI:=ok.len
   exact (gS.sz (M:=B) (a:=1570) (b:=70) (eJ gb.D0 (by omega)) (gb.Dz.mul (Sw.Sz.j5 (by omega) (by omega))) (Sw.Sz.j5 (by omega) (by omega)) (by have:(0:Rat)<=(B:Rat):=(by grind); grind) m2 (by decide)).mono (by decide)
  refine di fun R hR=>?_
  walk_at "rd"
  refine Cg hp T.eY T.eN Km.A3 ?_
  walk_at "rd"
  refine ⟨⟨_,.of hu⟩,fun Dl iH=>?_⟩
  show jz _ _ _ _ Dl [none,some (.ref y)] _ _
  have Lm:=dP tg
  have Ot:∀ b o,H b=some o->b≠p->b≠pe->b≠Dl:=fun b o e n1 n2=>gX (kp b o n1 n2 e) iH
  refine uq (xs:=ps.map V.ref) (fun i τ H'=>bT H2 H'/\∃ v rs,τ = [v,some (.ref y)]/\H' Dl=some (.lst (rs.map V.ref))/\vd H' rs ((us.take i).filter fun u=>decide (rv<u.2.1))/\rs.length<=i) ⟨cZ iH,none,[],rfl,cO,.nil,av _⟩ (fun i τ H' _ q=>.of (q.1 _ _ hu)) ?_ ?_
  ·rintro i x τ H3 hx ⟨sm,v,rs,rfl,lG,tr,lr⟩
   obtain ⟨pp,jF,rfl⟩:∃ p,ps[i]? = some p/\V.ref p=x:=by
    rw [bh] at hx
    cases e:ps[i]? with
    | none=>rw [e] at hx; cases hx
    | some z=>rw [e] at hx; exact ⟨z,rfl,bE hx⟩
   have hi:i<ps.length:=(aa.mp jF).1
   obtain ⟨u,BE,tu⟩:=wV tg jF
   obtain ⟨zb,ze⟩:=ok.zu u (aq BE)
   have Hh:=tu.keep fun _ _ q=>sm _ _ q
   obtain ⟨pb,GG,h1,h2,h3⟩:=id Hh
   have et:(us.take (i+1)).filter (fun u=>decide (rv<u.2.1))=(us.take i).filter (fun u=>decide (rv<u.2.1))++(if decide (rv<u.2.1)=true then [u] else []):=by
    rw [aV BE,cG]
    congr 1
    rw [aZ]
    rfl
   have kt:∀ b xs,H3 b=some (.tup xs)->aQ H3 Dl (.lst (rs.map V.ref++[.ref pp])) b=some (.tup xs):=fun b xs e=>by
    rw [c8 (b7 e lG (by intro z; cases z))]; exact e
   walk_at "rd"
   refine fj (.of h1) rfl ⟨y,GG,rv,u.2.1,rfl,sm _ _ hy,h3,M4.mono (by decide),ze,?_⟩
   walk_at "rd"
   refine ir (fun h4=>?_) fun h4=>?_
   ·refine ⟨_,lG,cX (by rw [ae]; have:=ok.len; omega),fun b o e=>?_,rs++[pp],by rw [cO]; simp,?_,by simp; omega⟩
    ·rw [c8 (gX e iH)]; exact sm _ _ e
    ·rw [et,if_pos (decide_eq_true h4)]
     exact zj (Hh.keep kt) (Ce tr kt)
   ·refine ⟨sm,rs,lG,?_,by omega⟩
    rw [et,if_neg (by simp [h4]),bx]
    exact tr
  ·rintro τ H3 ⟨sm,v,rs,rfl,lG,tr,lr⟩
   rw [aK (by rw [ae,Lm]; exact av _)] at tr
   have hp:=sm _ _ hp
   have kT:=sm _ _ kT
   have hy:=sm _ _ hy
   have he:=sm _ _ he
   have ea:=ea.keep fun _ _ q=>sm _ _ q
   have kp:=kp.trans sm.kept
   have Ov:Dl≠p:=b7 lG hp (by intro z; cases z)
   have Ou:Dl≠pe:=b7 lG he (by intro z; cases z)
   clear sm
   refine DT hp T.eY T.eN (by have:=Km.len; omega) (hR _ _ ?_)
   have Fy:=Km.AQ (u':=Dl)
   have nP:∀ b xs,H3 b=some (.tup xs)->aQ H3 p (.ins cA dx (bQ "unflowed" (.ref Dl) (bQ "reached" (.ref y) (bQ "latest" (.int t) fs)))) b=some (.tup xs):=fun b xs e=>by
    rw [c8 (b7 e hp (by intro z; cases z))]; exact e
   have kT:=nP _ _ kT
   have hy:=nP _ _ hy
   have tr:=Ce tr nP
   have ea:=ea.keep nP
   have lG:aQ H3 p (.ins cA dx (bQ "unflowed" (.ref Dl) (bQ "reached" (.ref y) (bQ "latest" (.int t) fs)))) Dl=some (.lst (rs.map V.ref)):=by rw [c8 Ov]; exact lG
   have he:aQ H3 p (.ins cA dx (bQ "unflowed" (.ref Dl) (bQ "reached" (.ref y) (bQ "latest" (.int t) fs)))) pe=some (.dK kvs):=by rw [c8 Gy]; exact he
   have kp:Kept p pe H (aQ H3 p (.ins cA dx (bQ "unflowed" (.ref Dl) (bQ "reached" (.ref y) (bQ "latest" (.int t) fs))))):=fun b o n1 n2 e=>by rw [c8 n1]; exact kp b o n1 n2 e
   have hp:aQ H3 p (.ins cA dx (bQ "unflowed" (.ref Dl) (bQ "reached" (.ref y) (bQ "latest" (.int t) fs)))) p=some (.ins cA dx (bQ "unflowed" (.ref Dl) (bQ "reached" (.ref y) (bQ "latest" (.int t) fs)))):=cO
   generalize aQ H3 p (.ins cA dx (bQ "unflowed" (.ref Dl) (bQ "reached" (.ref y) (bQ "latest" (.int t) fs))))=H4 at kT hy tr ea lG he kp hp ⊢
   clear nP
   refine di fun R hR=>?_
   walk_at "rd"
   refine Cg hp T.eY T.g9 Fy.lst ?_
   walk_at "rd"
   refine ⟨.inl ⟨kvs,.inl he⟩,fj (.of kT) rfl ⟨_,oK.k (k:=cH who) he,?_⟩⟩
   have D0:=gb.D0
   have zO:D*S≠0:=b5 (by omega) (by omega)
   have uh:=ok.uh
   obtain ⟨U6,ev,Gc,FO,TJ,Tr,Tt,Jd⟩:∃ q e,(iF kvs (cH who:Key)).getD (.ref y) = .ref q/\H4 q=some (.tup (fq e))/\Sw.dH (D*S) e/\0<=e/\e<=(B:Rat)/\(en who).getD rv=e:=by
    rcases ea who with ⟨h1,h2⟩ | ⟨e,q,h1,h2,h3⟩
    ·rw [h1,h2]
     exact ⟨y,rv,rfl,hy,gS,by grind,m2,rfl⟩
    ·rw [h1,h2]
     have eo:=Fq who e h1
     exact ⟨q,e,rfl,h3,eo.1.more (by omega) (by omega),eo.2.1,eo.2.2,rfl⟩
   rw [Gc]
   have zz:∀ q:Rat,Sw.dH (D*S) q->0<=q->q<=(B:Rat)->Sw.cL 1700 q:=fun q g q0 q1=>by
    have B1:=gb.B1
    have B0:=gb.B0
    have UI:=ok.len
    exact (g.sz (M:=B) (a:=1570) (b:=70) (eJ gb.D0 (by omega)) (gb.Dz.mul (Sw.Sz.j5 (by omega) (by omega))) (Sw.Sz.j5 (by omega) (by omega)) (by have:(0:Rat)<=(B:Rat):=(by grind); grind) q1 (by decide)).mono (by decide)
   have Hw:=zz ev TJ Tr Tt
   have eb:Sw.lB en rv who=max rv ev:=by unfold Sw.lB; rw [Jd]
   rw [eb] at k
   refine ⟨y,U6,rv,ev,rfl,hy,FO,M4.mono (by decide),Hw.mono (by decide),fun qb KW=>hR _ _ ?_⟩
   have zb:Sw.cL 1700 (max rv ev):=by
    rw [b6]; split
    ·exact Hw
    ·exact M4
   generalize max rv ev=bv at zb k KW ⊢
   have AJ:=cZ (o:=.tup (fq bv)) KW
   have hb:aQ H4 qb (.tup (fq bv)) qb=some (.tup (fq bv)):=cO
   have kT:=AJ _ _ kT
   have hy:=AJ _ _ hy
   have tr:=vQ tr AJ
   have ea:=ea.keep fun _ _ q=>AJ _ _ q
   have lG:=AJ _ _ lG
   have he:=AJ _ _ he
   have hp:=AJ _ _ hp
   have kp:=kp.trans AJ.kept
   generalize aQ H4 qb (.tup (fq bv))=H5 at hb kT hy tr ea lG he hp kp ⊢
   clear AJ KW FO Gc
   refine di fun R hR=>?_
   walk_at "rd"
   refine fj (.of kT) rfl (fj (.of kT) rfl ?_)
   have RV:Sw.Sz 70 sh:=Sw.Sz.j5 (by omega) (by omega)
   have MQ:Sw.Sz 70 len:=Sw.Sz.j5 (by omega) (by omega)
   refine ⟨len,sh,70,rfl,by decide,RV,fun _ q2 Ft=>?_,fun z=>absurd z (by omega)⟩
   have Lu:=cZ (o:=.tup (fq ((len:Rat) / (sh:Rat)))) Ft
   refine ⟨qb,q2,bv,(len:Rat) / (sh:Rat),1700,rfl,Lu _ _ hb,cO,by decide,zb,(Sw.cL.of (by omega) rfl MQ RV).mono (by decide),fun qe Io=>hR _ _ ?_⟩
   have Oq:=cZ (o:=.tup (fq (bv+(len:Rat) / (sh:Rat)))) Io
   have nn:=Lu.trans Oq
   have hE:aQ (aQ H5 q2 (.tup (fq ((len:Rat) / (sh:Rat))))) qe (.tup (fq (bv+(len:Rat) / (sh:Rat)))) qe=some (.tup (fq (bv+(len:Rat) / (sh:Rat)))):=cO
   generalize aQ (aQ H5 q2 (.tup (fq ((len:Rat) / (sh:Rat))))) qe (.tup (fq (bv+(len:Rat) / (sh:Rat))))=H6 at nn hE ⊢
   have hb:=nn _ _ hb
   have kT:=nn _ _ kT
   have hy:=nn _ _ hy
   have tr:=vQ tr nn
   have ea:=ea.keep fun _ _ q=>nn _ _ q
   have lG:=nn _ _ lG
   have he:=nn _ _ he
   have hp:=nn _ _ hp
   have kp:=kp.trans nn.kept
   clear nn Lu Oq Ft Io
   refine di fun R hR=>?_
   walk_at "rd"
   refine Cg hp T.eY T.eN Fy.A3 ?_
   refine ⟨.inl ⟨rfl,_,.of lG⟩,?_⟩
   walk_at "rd"
   refine fj (.of kT) rfl fun tp C6=>?_
   have wH:=cZ (o:=.tup [.ref qb,.ref qe,.int sh]) C6
   have hT:sO (aQ H6 tp (.tup [.ref qb,.ref qe,.int sh])) tp (bv,bv+(len:Rat) / (sh:Rat),sh):=⟨qb,qe,cO,wH _ _ hb,wH _ _ hE⟩
   have hb:=wH _ _ hb
   have hE:=wH _ _ hE
   have kT:=wH _ _ kT
   have hy:=wH _ _ hy
   have tr:=vQ tr wH
   have ea:=ea.keep fun _ _ q=>wH _ _ q
   have lG:=wH _ _ lG
   have he:=wH _ _ he
   have hp:=wH _ _ hp
   have kp:=kp.trans wH.kept
   generalize aQ H6 tp (.tup [.ref qb,.ref qe,.int sh])=H7 at hT hb hE kT hy tr ea lG he hp kp ⊢
   clear wH C6
   have ZU:rs.length<=100:=by rw [ae] at lr; have:=ok.len; omega
   refine ⟨Dl,_,_,rfl,rfl,lG,cX (by rw [ae]; omega),hR _ _ ?_⟩
   have nT:∀ b xs,H7 b=some (.tup xs)->aQ H7 Dl (.lst (rs.map V.ref++[.ref tp])) b=some (.tup xs):=fun b xs e=>by
    rw [c8 (b7 e lG (by intro z; cases z))]; exact e
   have hb:=nT _ _ hb
   have hE:=nT _ _ hE
   have kT:=nT _ _ kT
   have hy:=nT _ _ hy
   have tr:vd (aQ H7 Dl (.lst (rs.map V.ref++[.ref tp]))) (rs++[tp]) (Sw.rV us rv bv len sh):=zj (hT.keep nT) (Ce tr nT)
   have ea:=ea.keep nT
   have he:aQ H7 Dl (.lst (rs.map V.ref++[.ref tp])) pe=some (.dK kvs):=by rw [c8 (dI Ou)]; exact he
   have hp:aQ H7 Dl (.lst (rs.map V.ref++[.ref tp])) p=some (.ins cA dx (bQ "unflowed" (.ref Dl) (bQ "reached" (.ref y) (bQ "latest" (.int t) fs)))):=by rw [c8 (dI Ov)]; exact hp
   have kp:Kept p pe H (aQ H7 Dl (.lst (rs.map V.ref++[.ref tp]))):=fun b o n1 n2 e=>by rw [c8 (Ot b o e n1 n2)]; exact kp b o n1 n2 e
   have lG:aQ H7 Dl (.lst (rs.map V.ref++[.ref tp])) Dl=some (.lst ((rs++[tp]).map V.ref)):=by rw [cO]; simp
   generalize aQ H7 Dl (.lst (rs.map V.ref++[.ref tp]))=H8 at hb hE kT hy tr ea lG he hp kp ⊢
   clear nT hT
   refine di fun R hR=>?_
   walk_at "rd"
   refine Cg hp T.eY T.g9 Fy.lst (fj (.of kT) rfl ⟨pe,rfl,_,ux.k (k:=cH who) he (jC lk (jC hm (by decide))),hR _ _ ?_⟩)
   have nT:∀ b xs,H8 b=some (.tup xs)->aQ H8 pe (.dK (gv kvs (cH who) (.ref qe))) b=some (.tup xs):=fun b xs e=>by
    rw [c8 (b7 e he (by intro z; cases z))]; exact e
   have Nq:oU (aQ H8 pe (.dK (gv kvs (cH who) (.ref qe)))) (gv kvs (cH who) (.ref qe)) (gw en who (bv+(len:Rat) / (sh:Rat))):=(ea.put hE).keep nT
   have hb:=nT _ _ hb
   have hE:=nT _ _ hE
   have hy:=nT _ _ hy
   have tr:=Ce tr nT
   have hp:aQ H8 pe (.dK (gv kvs (cH who) (.ref qe))) p=some (.ins cA dx (bQ "unflowed" (.ref Dl) (bQ "reached" (.ref y) (bQ "latest" (.int t) fs)))):=by rw [c8 (dI Gy)]; exact hp
   have lG:aQ H8 pe (.dK (gv kvs (cH who) (.ref qe))) Dl=some (.lst ((rs++[tp]).map V.ref)):=by rw [c8 Ou]; exact lG
   have kp:Kept p pe H (aQ H8 pe (.dK (gv kvs (cH who) (.ref qe)))):=fun b o n1 n2 e=>by rw [c8 n2]; exact kp b o n1 n2 e
   have he:aQ H8 pe (.dK (gv kvs (cH who) (.ref qe))) pe=some (.dK (gv kvs (cH who) (.ref qe))):=cO
   generalize aQ H8 pe (.dK (gv kvs (cH who) (.ref qe)))=H9 at Nq hb hE hy tr hp lG kp he ⊢
   walk_at "rd"
   intro q hq
   have n9:=cZ (o:=.tup [.ref qb,.ref qe]) hq
   have UH:=Mn kvs (cH who:Key) (.ref qe)
   have UJ:(Sw.rV us rv bv len sh).length<=m+1:=by
    unfold Sw.rV
    have:=bG (fun u:Sw.T3=>decide (rv<u.2.1)) us
    rw [aO]
    simp only [aE,cy]
    omega
   exact k q qb qe _ (kp.trans n9.kept) ⟨dx,_,y,Dl,rs++[tp],_,n9 _ _ hp,Fy,n9 _ _ hy,n9 _ _ lG,vQ tr n9,n9 _ _ he,Nq.keep fun _ _ z=>n9 _ _ z,by omega,UJ⟩ cO (n9 _ _ hb) (n9 _ _ hE) fun l xs e Tf Ib pu' h1 h2=>by
    rw [n9 _ _ hp] at h1
    cases h1
    rw [Fy.A3] at h2
    cases h2
    exact dI (Ot l _ e (b7 e Uj (by intro z; cases z)) (b7 e Kw (by intro z; cases z)))
theorem Row.kept {H H':Hp} {l:Addr} {ps:List Addr} {qs:List Q4} {p d C dx:Addr} {fs:List (Str×V)} {kvs:List (Key×V)} (R:Row H l ps qs) (k:Kept p d H H') (hp:H p=some (.ins C dx fs)) (hd:H d=some (.dK kvs)):Row H' l ps qs :=
 ⟨k _ _ (b7 R.hl hp (by intro z; cases z)) (b7 R.hl hd (by intro z; cases z)) R.hl,R.r.keep fun p z e=>k _ _ (b7 e hp (by intro w; cases w)) (b7 e hd (by intro w; cases w)) e⟩
theorem Td.ob {C:Addr} {H:Hp} {p pe:Addr} {eG:Int} {re:Rat} {us:List Sw.T3} {en:Int->Option Rat} {m:Nat} (h:Td C H p pe eG re us en m):∃ dx fs kvs pr pu,H p=some (.ins C dx fs)/\H pe=some (.dK kvs)/\FT fs eG pr pu pe:=by
 obtain ⟨dx,fs,pr,pu,ps,kvs,h1,h2,h3,h4,h5,h6,_⟩:=h.ex
 exact ⟨dx,fs,kvs,pr,pu,h1,h6,h2⟩
def Xm:Sp:=fun vs H Q _=>∃ n M a c l ps qs,vs = [.ref l]/\Row H l ps qs/\Sw.zG n M a c/\qs.length<=n/\(∀ q∈qs,Sw.nU M q)/\qs.Pairwise (fun a b=>a.1<=b.1)/\∀ tl tp H',bT H H'->wm H' tl tp (Sw.Ti.nil.tags qs)->Q (.ref tl) H'
theorem Zj {qs:List Q4}:∀ {s:Sw.Ti} {i:Nat} {q:Q4},(∀ q∈qs,s.eG<=q.1)->qs.Pairwise (fun a b=>a.1<=b.1)->qs[i]? = some q->(s.after (qs.take i)).eG<=q.1:=by
 induction qs with
 | nil=>intro s i q _ _ e; simp at e
 | cons x r ih =>
  intro s i q h0 hp e
  obtain ⟨h1,h2⟩:=nC.mp hp
  cases i with
  | zero =>
   have:x=q:=by simpa using e
   subst this
   exact h0 x (by simp)
  | succ j =>
   have e:r[j]? = some q:=by simpa using e
   exact ih (s:=s.ly x) (fun y hy=>h1 y hy) h2 e
theorem WM (T:Txt K mg cA):jT P w K mg base (jK P w) 6 "tags_of" ["row"] Xm:=by
 have Cw:=Zh (P:=P) (w:=w) (base:=base) T
 have sF:=VW (P:=P) (w:=w) (base:=base) T
 refine T.tU.okN (k:=5) pJ (fun vs H Q E h=>?_) (fun f e6 A outer s H vs Q E hr h=>?_)
 ·obtain ⟨n,M,a,c,l,ps,qs,rfl,_⟩:=h
  rfl
 ·obtain ⟨n,M,a,c,l,ps,qs,rfl,R0,F,hn,hq,hp,k⟩:=h
  refine ⟨_,(c7 (eu (i:=1) pJ.nd rfl (Wy (j4:=[]) Cw (by simp) (hr.mono (by decide)) aU rfl T.AF)) (fL (jy (iK ["piece"] [("tide", 1)] rfl (by with_unfolding_all rfl) (by decide +kernel) rfl (by decide +kernel) (by exact ⟨rfl,aN⟩) (by with_unfolding_all rfl) ⟨⟨rfl,rfl,rfl⟩,aN⟩ (nK K rfl (pv 0)) (fun _ _ _=>(gu (i:=0) (show (["piece", "tide"]:List Str).Nodup from by decide +kernel) rfl (by first|left;rfl|right;rfl))) (fun _ _ _=>u9) (fun _ _ _=>(QC (j4:=[]) sF (by simp) T.eY (hr.mono (by decide)) aU (pv 1) (aS (pv 0) bU))))))),?_⟩
  show fU _ _ _ [some (.ref l),none] H
  have len:=R0.r.len
  have n6:=F.n1
  refine di fun R hR=>?_
  walk_at "rd"
  intro x dx hx Kv ne
  refine ⟨x,dx,rfl,cO,fun pe H1 bt C3 td=>⟨rfl,hR _ _ ?_⟩⟩
  have LW:bT H H1:=bt.same (Qe hx Kv) hx
  have Gy:H pe=none:=(Qe hx Kv).free C3
  clear bt C3 Kv
  walk_at "rd"
  refine ⟨⟨_,.of (R0.same LW).hl⟩,fun Dl iH=>?_⟩
  show jz _ _ _ _ Dl [none,some (.ref x)] _ _
  have UO:H Dl=none:=LW.free iH
  refine uq (xs:=ps.map V.ref) (fun i τ H'=>∃ v tp D,τ = [v,some (.ref x)]/\bT H H'/\Td cA H' x pe (Sw.Ti.nil.after (qs.take i)).eG (Sw.Ti.nil.after (qs.take i)).re (Sw.Ti.nil.after (qs.take i)).us (Sw.Ti.nil.after (qs.take i)).en i/\Sw.kq n M c (Sw.Ti.nil.after (qs.take i)) i D/\wm H' Dl tp (Sw.Ti.nil.tags (qs.take i))/\tp.length=i) ⟨none,[],1,rfl,LW.trans (cZ iH),td.same (cZ iH),Sw.kq.nil,⟨cO,.nil⟩,rfl⟩ (fun i τ H' _ ⟨_,_,_,_,sm,_⟩=>.of (sm _ _ R0.hl)) ?_ ?_
  ·rintro i y τ H2 hy ⟨v,tp,D,rfl,sm,td,ro,tg,lt⟩
   obtain ⟨pp,jF,rfl⟩:∃ p,ps[i]? = some p/\V.ref p=y:=by
    rw [bh] at hy
    cases e:ps[i]? with
    | none=>rw [e] at hy; cases hy
    | some z=>rw [e] at hy; exact ⟨z,rfl,bE hy⟩
   have hi:i<ps.length:=(aa.mp jF).1
   obtain ⟨q,uM,xw⟩:=R0.r.get jF
   have po:=hq q (aq uM)
   obtain ⟨p0,p1,n1,n2,s1,s2⟩:=id po
   have M2:=F.M2
   have hl:=Zj (s:=Sw.Ti.nil) (fun z hz=>(hq z hz).1) hp uM
   obtain ⟨D',j,j0,eD,OQ,_⟩:=ro.ly F (by omega) po hl
   have et:qs.take (i+1)=qs.take i++[q]:=aV uM
   rw [et,Sw.Ti.e8,Sw.Ti.jH]
   generalize Sw.Ti.nil.after (qs.take i)=st at td ro OQ hl ⊢
   obtain ⟨ZA,ZE,UD,Z9,pu2,h1,h2,ft⟩:=Td.ob td
   walk_at "rd"
   refine Rf h1 (ft.LA _) ?_
   refine ⟨x,pp,q.1,q.2.1,q.2.2.1,q.2.2.2,pe,st.eG,st.re,st.us,st.en,i,D,i*1000000,rfl,sm _ _ xw,td,ro.ok,ro.Fq,hl,by omega,n1,n2,s1,by omega,by omega,fun w qb qe H3 kp Vg hw hb he nu=>?_⟩
   have AW:bT H H3:=fun b o e=>kp b o (gX e hx) (gX e Gy) (sm _ _ e)
   have Ko:H3 Dl=some (.lst (tp.map V.ref)):=kp _ _ (b7 tg.hl h1 (by intro z; cases z)) (b7 tg.hl h2 (by intro z; cases z)) tg.hl
   have kt:∀ b xs,H2 b=some (.tup xs)->aQ H3 Dl (.lst (tp.map V.ref++[.ref w])) b=some (.tup xs):=fun b xs e=>by
    rw [c8 (b7 e tg.hl (by intro z; cases z))]
    exact kp _ _ (b7 e h1 (by intro z; cases z)) (b7 e h2 (by intro z; cases z)) e
   have Lh:∀ b xs,H3 b=some (.tup xs)->aQ H3 Dl (.lst (tp.map V.ref++[.ref w])) b=some (.tup xs):=fun b xs e=>by
    rw [c8 (b7 e Ko (by intro z; cases z))]; exact e
   refine ⟨_,Ko,cX (by rw [ae]; omega),fun b o e=>?_,Td.list Vg (nu _ _ tg.hl) Ko,⟨D',OQ⟩,tp++[w],⟨?_,zj ⟨qb,qe,Lh _ _ hw,Lh _ _ hb,Lh _ _ he⟩ (Paired.gB tg.r fun _ _ z=>z.keep kt)⟩,by rw [aO]; simp [lt]⟩
   ·rw [c8 (gX e UO)]; exact AW _ _ e
   ·rw [cO,ay]; rfl
  ·rintro τ H2 ⟨v,tp,D,rfl,sm,td,ro,tg,lt⟩
   rw [aK (by rw [ae]; omega)] at tg
   exact k _ _ _ sm tg
def WN:Sp:=fun vs H Q _=>∃ l ps qs tl tp ts pm pk mo ma,vs = [.ref l,.ref tl,.ref pm,.ref pk]/\Row H l ps qs/\wm H tl tp ts/\ts.length=qs.length/\qs.length<=60/\H pm=some (.tup (fq mo))/\H pk=some (.tup (fq ma))/\Sw.cL 5000 mo/\Sw.cL 5000 ma/\(∀ t∈ts,Sw.cL 5000 t.1/\Sw.cL 5000 t.2)/\(∀ q∈qs,0<=q.1/\q.1<100000000000000) /\
 ∀ h H',bT H H'->H h=none->H' h=some (.lst ((Sw.cU (aX qs ts) mo ma).map iI))->Q (.ref h) H'
theorem We (T:Txt K mg cA):jT P w K mg base (jK P w) 2 "heads_at" ["row", "tags", "moment", "mark"] WN:=by
 have c5:=xA (P:=P) (w:=w) (base:=base) T
 refine T.rO.okN (k:=1) gj (fun vs H Q E h=>?_) (fun f e6 A outer s H vs Q E hr h=>?_)
 ·obtain ⟨l,ps,qs,tl,tp,ts,pm,pk,mo,ma,rfl,_⟩:=h
  rfl
 ·obtain ⟨l,ps,qs,tl,tp,ts,pm,pk,mo,ma,rfl,R0,TL,lt,lq,hm,hk,zm,zk,zt,zq,k⟩:=h
  refine ⟨_,(c7 (eu (i:=4) gj.nd rfl (su bU)) (c7 (uv PassesOwn.never rfl (DJ K rfl rfl T.fP (aS (pv 0) bU)) (qi (n:=2) K rfl rfl (iT (gu (i:=5) gj.nd rfl (by first|left;rfl|right;rfl)) (iT (gu (i:=6) gj.nd rfl (by first|left;rfl|right;rfl)) qh))) (c7 (eu (i:=7) gj.nd rfl (bg (fh K rfl) (bg (mU K rfl) (pv 1) (pv 5) (fun _ _=>rfl)) bO (fun _ _=>rfl))) (c7 (eu (i:=8) gj.nd rfl (bg (fh K rfl) (bg (mU K rfl) (pv 1) (pv 5) (fun _ _=>rfl)) bO (fun _ _=>rfl))) (c7 (eu (i:=9) gj.nd rfl (Yx (dM c5 (hr.mono (by decide)) rfl aU (aS (pv 2) (aS (lI (aS (bg (fh K rfl) (pv 6) bO (fun _ _=>rfl)) (aS bO bU))) bU))))) (fL (gy (PW.pt (Ju (qM (pv 9)) (Ju (EM (qM (dM c5 (hr.mono (by decide)) rfl aU (aS (pv 3) (aS (pv 7) bU))))) (MF (qM (dM c5 (hr.mono (by decide)) rfl aU (aS (pv 3) (aS (pv 8) bU)))))))) (fL (xz (kH bX b8 b9 wW (pv 4) (aS (pv 5) bU)))) pR)))))) (fL (jy (pv 4))))),?_⟩
  show fU _ _ _ [some (.ref l),some (.ref tl),some (.ref pm),some (.ref pk),none,none,none,none,none,none] H
  have len:=R0.r.len
  refine di fun R hR=>?_
  walk_at "rd"
  intro h hh
  refine hR _ _ ?_
  have s0:=cZ (o:=.lst []) hh
  have h0:aQ H h (.lst []) h=some (.lst []):=cO
  generalize aQ H h (.lst [])=H1 at s0 h0 ⊢
  refine di fun R hR=>?_
  refine ur fun Z hZ=>?_
  walk_at "rd"
  refine ⟨⟨_,.of (R0.same s0).hl⟩,hZ _ _ ?_⟩
  refine My (xs:=ps.map V.ref) (fun i σ H'=>∃ v5 v6 v7 v8 v9,σ = [some (.ref l),some (.ref tl),some (.ref pm),some (.ref pk),some (.ref h),v5,v6,v7,v8,v9]/\bT H H'/\H' h=some (.lst (((aD i).filter (xu (aX qs ts) mo ma)).map iI))) ⟨none,none,none,none,none,rfl,s0,h0⟩ (fun i σ H' _ ⟨_,_,_,_,_,_,sm,_⟩=>.of (sm _ _ R0.hl)) ?_ ?_
  ·rintro i x σ H2 p hx ⟨v5,v6,v7,v8,v9,rfl,sm,hL⟩ hp
   obtain ⟨pp,jF,rfl⟩:∃ p,ps[i]? = some p/\V.ref p=x:=by simpa using hx
   obtain ⟨q,hq,xw⟩:=R0.r.get jF
   have hi:i<qs.length:=(aa.mp hq).1
   obtain ⟨t,K4⟩:∃ t,ts[i]? = some t:=⟨_,au (by omega)⟩
   obtain ⟨pt,oB,pb,pe,g1,g2,g3⟩:=TL.item K4
   obtain ⟨z1,z2⟩:=zt t (aq K4)
   obtain ⟨q0,q1⟩:=zq q (aq hq)
   have eh:xu (aX qs ts) mo ma i=Sw.pW mo ma (q.1,t.1,t.2,q.2.2.2):=by unfold xu; rw [DK hq K4]
   have er:=VM (xu (aX qs ts) mo ma) i
   rw [eh] at er
   have sn:=cZ (o:=.tup [.int i,.ref pp]) hp
   have sm:=sm.trans sn
   have hL:=sn _ _ hL
   refine ⟨p,_,rfl,.of cO,rfl,?_⟩
   generalize aQ H2 p (.tup [.int i,.ref pp])=H3 at sm hL ⊢
   clear sn
   walk_at "rd"
   refine di fun R hR=>?_
   walk_at "rd"
   refine qP (.of (sm _ _ TL.hl)) oB (fj (.of (sm _ _ g1)) rfl (hR _ _ ?_))
   refine di fun R hR=>?_
   walk_at "rd"
   refine qP (.of (sm _ _ TL.hl)) oB (fj (.of (sm _ _ g1)) rfl (hR _ _ ?_))
   refine di fun R hR=>?_
   walk_at "rd"
   refine fj (.of (sm _ _ xw)) rfl ?_
   walk_at "rd"
   intro y hy
   have sn:=cZ (o:=.tup [.int q.1,.int 1]) hy
   have sm:=sm.trans sn
   have hL:=sn _ _ hL
   refine ⟨pm,y,mo,(q.1:Rat),rfl,sm _ _ hm,sy (n:=q.1),zm,(HH q0 q1).mono (by decide),?_⟩
   generalize aQ H3 y (.tup [.int q.1,.int 1])=H4 at sm hL ⊢
   clear sn
   walk_at "rd"
   refine hR _ _ ?_
   refine t7 fun R hR=>?_
   have no:Sw.pW mo ma (q.1,t.1,t.2,q.2.2.2)=false->R [some (.ref l),some (.ref tl),some (.ref pm),some (.ref pk),some (.ref h),some (.int i),some (.ref pp),some (.ref pb),some (.ref pe),some (.bl (!decide (mo<(q.1:Rat))))] H4:=fun e=>by
    refine hR _ _ ⟨⟨_,_,_,_,_,rfl⟩,sm,?_⟩
    rw [er,e,if_neg (by decide),bx]
    exact hL
   walk_at "rd"
   refine ir (fun c1=>no ?_) fun c1=>?_
   ·cases e:Sw.pW mo ma (q.1,t.1,t.2,q.2.2.2) with
    | false=>rfl
    | true =>
     obtain ⟨b,_⟩:=Sw.iW.mp e
     exact absurd c1 (by have:(q.1:Rat)<=mo:=b; grind)
   ·refine ⟨pk,pb,ma,t.1,rfl,sm _ _ hk,sm _ _ g2,zk,z1,?_⟩
    walk_at "rd"
    refine ir (fun c2=>no ?_) fun c2=>?_
    ·cases e:Sw.pW mo ma (q.1,t.1,t.2,q.2.2.2) with
     | false=>rfl
     | true =>
      obtain ⟨_,b,_⟩:=Sw.iW.mp e
      exact absurd c2 (by have:t.1<=ma:=b; grind)
    refine ⟨pk,pe,ma,t.2,rfl,sm _ _ hk,sm _ _ g3,zk,z2,?_⟩
    walk_at "rd"
    refine ir (fun c3=>?_) fun c3=>no ?_
    ·refine ⟨Ba hL,Ck hL ?_ (hR _ _ ⟨⟨_,_,_,_,_,rfl⟩,fun b o e=>?_,?_⟩)⟩
     ·have:=bG (xu (aX qs ts) mo ma) (aD i)
      rw [dm] at this
      rw [ae]
      omega
     ·rw [c8 (gX e hh)]; exact sm _ _ e
     ·have e:Sw.pW mo ma (q.1,t.1,t.2,q.2.2.2)=true:=Sw.iW.mpr ⟨by show (q.1:Rat)<=mo; grind,by show t.1<=ma; grind,c3⟩
      rw [cO,er,e,if_pos rfl,ay]
      rfl
    ·cases e:Sw.pW mo ma (q.1,t.1,t.2,q.2.2.2) with
     | false=>rfl
     | true =>
      obtain ⟨_,_,b⟩:=Sw.iW.mp e
      exact absurd b c3
  ·rintro σ H2 ⟨v5,v6,v7,v8,v9,rfl,sm,hL⟩
   refine hR _ _ ?_
   walk_at "rd"
   refine k h H2 sm hh ?_
   rw [Cn,A8 lt,<- len,hL,ae]
def Wf:Sp:=fun vs H Q _=>∃ tl tp ts hl,∃ hs:List Nat,∃ sh pm pk mo ma,∃ ef:Nat->Rat,vs = [.ref tl,.ref hl,.int sh,.ref pm,.ref pk]/\wm H tl tp ts/\H hl=some (.lst (hs.map iI))/\hs≠[]/\hs.length<=60/\(∀ i∈hs,∃ t,ts[i]? = some t/\t.2=ef i/\Sw.cL 2400 (ef i))/\H pm=some (.tup (fq mo))/\H pk=some (.tup (fq ma)) /\
 Sw.cL 2400 mo/\Sw.cL 2400 ma/\Sw.Sz 200 sh/\Sw.cL 2400 (Sw.dY (hs.map ef)-ma)/\Sw.cL 2400 ((Sw.dY (hs.map ef)-ma)*(sh:Rat)) /\
 ∀ r H',bT H H'->H' r=some (.tup (fq (mo+(Sw.dY (hs.map ef)-ma)*(sh:Rat))))->Q (.ref r) H'
theorem VX (T:Txt K mg cA):jT P w K mg base (jK P w) 4 "first_end" ["tags", "heads", "shares", "moment", "mark"] Wf:=by
 have jL:=Jt (P:=P) (w:=w) (base:=base) T
 have eR:=DP (P:=P) (w:=w) (base:=base) T
 have gY:=EL (P:=P) (w:=w) (base:=base) T
 have gc:=Cp (P:=P) (w:=w) (base:=base) T
 refine T.p9.okN (k:=3) mQ (fun vs H Q E h=>?_) (fun f e6 A outer s H vs Q E hr h=>?_)
 ·obtain ⟨tl,tp,ts,hl,hs,sh,pm,pk,mo,ma,ef,rfl,_⟩:=h
  rfl
 ·obtain ⟨tl,tp,ts,hl,hs,sh,pm,pk,mo,ma,ef,rfl,TL,hh,uL,gI,he,hm,hk,zm,zk,zs,zw,zr,k⟩:=h
  refine ⟨_,(c7 (eu (i:=5) mQ.nd rfl (dM eR (hr.mono (by decide)) rfl aU (aS (dM jL (hr.mono (by decide)) rfl aU (aS (iK ["place"] [("tags", 0)] rfl (by with_unfolding_all rfl) (by decide +kernel) rfl (by decide +kernel) (by exact ⟨rfl,aN⟩) (by with_unfolding_all rfl) ⟨⟨rfl,rfl,rfl⟩,aN⟩ (nK K rfl (pv 1)) (fun _ _ _=>(gu (i:=0) (show (["place", "tags"]:List Str).Nodup from by decide +kernel) rfl (by first|left;rfl|right;rfl))) (fun _ _ _=>u9) (fun _ _ _=>(bg (fh K rfl) (bg (mU K rfl) (pv 1) (pv 0) (fun _ _=>rfl)) bO (fun _ _=>rfl)))) bU)) (aS (pv 4) bU)))) (fL (jy (dM gc (hr.mono (by decide)) rfl aU (aS (pv 3) (aS (dM gY (hr.mono (by decide)) rfl aU (aS (pv 5) (aS (lI (aS (pv 2) (aS bO bU))) bU))) bU)))))),?_⟩
  show fU _ _ _ [some (.ref tl),some (.ref hl),some (.int sh),some (.ref pm),some (.ref pk),none] H
  refine di fun R hR=>?_
  walk_at "rd"
  refine ⟨⟨_,.of hh⟩,fun Dl iH=>?_⟩
  refine uq (xs:=hs.map iI) (fun i τ H'=>∃ v es,τ = [v,some (.ref tl)]/\bT H H'/\iM fq H' Dl es ((hs.take i).map ef)/\es.length=i) ⟨none,[],rfl,cZ iH,⟨cO,.nil⟩,rfl⟩ (fun i τ H' _ ⟨_,_,_,sm,_⟩=>.of (sm _ _ hh)) ?_ ?_
  ·rintro i y τ H2 hy ⟨v,es,rfl,sm,L,le⟩
   obtain ⟨j,hj,rfl⟩:∃ j,hs[i]? = some j/\iI j=y:=by simpa using hy
   obtain ⟨t,ht,et,_⟩:=he j (aq hj)
   obtain ⟨pt,oB,pb,pe,g1,g2,g3⟩:=TL.item ht
   have hi:i<hs.length:=(aa.mp hj).1
   unfold iI
   walk_at "rd"
   simp only [lU,if_true]
   refine qP (.of (sm _ _ TL.hl)) oB ?_
   refine fj (.of (sm _ _ g1)) rfl ?_
   have kt:∀ b xs,H2 b=some (.tup xs)->aQ H2 Dl (.lst (es.map V.ref++[.ref pe])) b=some (.tup xs):=fun b xs e=>by
    rw [c8 (b7 e L.hl (by intro z; cases z))]; exact e
   refine ⟨_,L.hl,cX (by rw [ae]; omega),fun b o e=>?_,es++[pe],⟨?_,?_⟩,by simp [le]⟩
   ·rw [c8 (gX e iH)]; exact sm _ _ e
   ·rw [cO,ay]; rfl
   ·rw [aV hj,ay]
    exact tY (kt _ _ (by rw [sm _ _ g3,et])) (qf L.r kt)
  ·rintro τ H2 ⟨v,es,rfl,sm,L,le⟩
   rw [aK (by rw [ae]; exact av _)] at L
   refine ⟨Dl,es,hs.map ef,rfl,L,by simpa using uL,fun q hq=>?_,fun r H3 s3 Ay=>?_⟩
   ·obtain ⟨i,hi,rfl⟩:=aP.mp hq
    obtain ⟨t,_,_,z⟩:=he i hi
    exact z.mono (by decide)
   have sm:=sm.trans s3
   have zl:Sw.cL 2400 (Sw.dY (hs.map ef)):=by
    obtain ⟨i,hi,e⟩:=aP.mp (Sw.gJ (l:=hs.map ef) (by simpa using uL))
    obtain ⟨t,_,_,z⟩:=he i hi
    rw [<- e]; exact z
   refine ⟨r,pk,_,ma,2400,rfl,Ay,sm _ _ hk,by decide,zl,zk,fun w1 f1=>hR _ _ ?_⟩
   have n1:=cZ (o:=.tup (fq (Sw.dY (hs.map ef)-ma))) f1
   have sm:=sm.trans n1
   have h1:aQ H3 w1 (.tup (fq (Sw.dY (hs.map ef)-ma))) w1=some (.tup (fq (Sw.dY (hs.map ef)-ma))):=cO
   generalize aQ H3 w1 (.tup (fq (Sw.dY (hs.map ef)-ma)))=H4 at sm h1 ⊢
   walk_at "rd"
   intro w2 f2
   have n2:=cZ (o:=.tup [.int sh,.int 1]) f2
   refine ⟨w1,w2,_,(sh:Rat),2400,rfl,n2 _ _ h1,sy (n:=sh),by decide,zw,(Sw.cL.int zs).mono (by decide),fun w3 f3=>?_⟩
   have n3:=cZ (o:=.tup (fq ((Sw.dY (hs.map ef)-ma)*(sh:Rat)))) f3
   refine ⟨pm,w3,mo,_,2400,rfl,n3 _ _ (n2 _ _ (sm _ _ hm)),cO,by decide,zm,zr,fun w4 f4=>?_⟩
   exact k w4 _ (((sm.trans n2).trans n3).trans (cZ f4)) cO
def OT (fs:List Sw.F4):V->Option V
 | .int i=>some (.int (Sw.shr fs i.toNat))
 | _=>none
theorem Yk (fs:List Sw.F4) (hs:List Nat):(hs.map iI).filterMap (OT fs)=(hs.map (Sw.shr fs)).map V.int:=by
 induction hs with
 | nil=>rfl
 | cons i r ih =>
  rw [bD,fN,bD,bD,<- ih]
  rfl
theorem J2 (n:Int):((n:Int):Rat) / ((1:Int):Rat)=(n:Rat):=by
 have:((1:Int):Rat) = 1:=rfl
 rw [this]; grind
theorem Kd:((0:Int):Rat) / ((1:Int):Rat) = 0:=by
 have z0:((0:Int):Rat) = 0:=rfl
 rw [z0]; grind
def xo (H0 H:Hp) (l:Addr) (sp:List Addr):Prop:=∃ p7:List Addr,Paired (fun p pl=>∃ pf pt,H p=some (.tup [.ref pf,.ref pt,.ref pl])) sp p7/\p7.Nodup/\∀ pl∈p7,H0 pl=none/\pl≠l/\∃ xs,H pl=some (.lst xs)
theorem xo.same {H0 H H':Hp} {l:Addr} {sp:List Addr} (h:xo H0 H l sp) (s:bT H H'):xo H0 H' l sp:=by
 obtain ⟨p7,h1,h2,h3⟩:=h
 exact ⟨p7,Paired.gB h1 fun _ _ ⟨pf,pt,e⟩=>⟨pf,pt,s _ _ e⟩,h2,fun pl hp=>⟨(h3 pl hp).1,(h3 pl hp).2.1,let ⟨xs,e⟩:=(h3 pl hp).2.2; ⟨xs,s _ _ e⟩⟩⟩
theorem Sm {H:Hp}:∀ {sp p7 GI:List Addr},Paired (fun p pl=>∃ pf pt,H p=some (.tup [.ref pf,.ref pt,.ref pl])) sp p7->Paired (fun p pl=>∃ pf pt,H p=some (.tup [.ref pf,.ref pt,.ref pl])) sp GI->p7=GI
 | _,_,_,.nil,.nil=>rfl
 | _,_,_,.cons ⟨_,_,a⟩ b,.cons ⟨_,_,c⟩ d=>by
  rw [a] at c
  cases c
  rw [Sm b d]
theorem xo.list {H0 H:Hp} {l b:Addr} {sp:List Addr} {xs ys:List V} (h:xo H0 H l sp) (hb:H b=some (.lst xs)):xo H0 (aQ H b (.lst ys)) l sp:=by
 obtain ⟨p7,h1,h2,h3⟩:=h
 refine ⟨p7,Paired.gB h1 fun _ _ ⟨pf,pt,e⟩=>⟨pf,pt,MN hb e⟩,h2,fun pl hp=>⟨(h3 pl hp).1,(h3 pl hp).2.1,?_⟩⟩
 obtain ⟨xs,e⟩:=(h3 pl hp).2.2
 by_cases c:pl=b
 ·subst c; exact ⟨ys,cO⟩
 ·exact ⟨xs,by rw [c8 c]; exact e⟩
theorem xo.app {H0 H:Hp} {l p pl pf pt:Addr} {sp:List Addr} {xs:List V} (h:xo H0 H l sp) (hp:H p=some (.tup [.ref pf,.ref pt,.ref pl])) (hl:H pl=some (.lst xs)) (n0:H0 pl=none) (n1:pl≠l) (nw:∀ p7:List Addr,Paired (fun p pl=>∃ pf pt,H p=some (.tup [.ref pf,.ref pt,.ref pl])) sp p7->pl ∉ p7):xo H0 H l (sp++[p]):=by
 obtain ⟨p7,h1,h2,h3⟩:=h
 refine ⟨p7++[pl],zj ⟨pf,pt,hp⟩ h1,?_,fun q hq=>?_⟩
 ·rw [List.nodup_append]
  refine ⟨h2,by simp,fun a ha b hb e=>?_⟩
  have:b=pl:=bH.mp hb
  subst this
  subst e
  exact nw p7 h1 ha
 ·rcases aY.mp hq with z | z
  ·exact h3 q z
  ·have:q=pl:=bH.mp z
   subst this
   exact ⟨n0,n1,xs,hl⟩
def Zk:Sp:=fun vs H Q _=>∃ n M a c l ps qs,vs = [.ref l]/\Row H l ps qs/\Sw.zG n M a c/\qs.length<=n/\(∀ q∈qs,Sw.nU M q)/\qs.Pairwise (fun a b=>a.1<=b.1)/\∀ sl sp H',bT H H'->H sl=none->Al H' sl sp (Sw.cE (aX qs (Sw.Ti.nil.tags qs)) (2*n+1) 0 0)->xo H H' sl sp->Q (.ref sl) H'
theorem So (T:Txt K mg cA):jT P w K mg base (jK P w) 7 "flow" ["row"] Zk:=by
 have vX:=WM (P:=P) (w:=w) (base:=base) T
 have uA:=We (P:=P) (w:=w) (base:=base) T
 have sD:=VX (P:=P) (w:=w) (base:=base) T
 have cW:=wZ (P:=P) (w:=w) (base:=base) T
 have c5:=xA (P:=P) (w:=w) (base:=base) T
 have jL:=Jt (P:=P) (w:=w) (base:=base) T
 have gc:=Cp (P:=P) (w:=w) (base:=base) T
 have eR:=DP (P:=P) (w:=w) (base:=base) T
 have j8:=JE (P:=P) (w:=w) (base:=base) T
 refine T.yI.okN (k:=6) hU (fun vs H Q E h=>?_) (fun f e6 A outer s H vs Q E hr h=>?_)
 ·obtain ⟨n,M,a,c,l,ps,qs,rfl,_⟩:=h
  rfl
 ·obtain ⟨n,M,a,c,l,ps,qs,rfl,R0,F,hn,hq,hp,k⟩:=h
  refine ⟨_,(c7 (eu (i:=1) hU.nd rfl (dM vX (hr.mono (by decide)) rfl aU (aS (pv 0) bU))) (c7 (eu (i:=2) hU.nd rfl (su bU)) (c7 (eu (i:=3) hU.nd rfl (dM cW (hr.mono (by decide)) rfl aU (aS bO (aS bO bU)))) (c7 (eu (i:=4) hU.nd rfl (dM cW (hr.mono (by decide)) rfl aU (aS bO (aS bO bU)))) (fL (Hv PassesOwn.never (qM vD) (c7 (eu (i:=5) hU.nd rfl (dM uA (hr.mono (by decide)) rfl aU (aS (pv 0) (aS (pv 1) (aS (pv 3) (aS (pv 4) bU)))))) (c7 (eu (i:=6) hU.nd rfl (vR (Ja K rfl rfl) rfl T.rG boot_sum (aS (iK ["place"] [("row", 0)] rfl (by with_unfolding_all rfl) (by decide +kernel) rfl (by decide +kernel) (by exact ⟨rfl,aN⟩) (by with_unfolding_all rfl) ⟨⟨rfl,rfl,rfl⟩,aN⟩ (nK K rfl (pv 5)) (fun _ _ _=>(gu (i:=0) (show (["place", "row"]:List Str).Nodup from by decide +kernel) rfl (by first|left;rfl|right;rfl))) (fun _ _ _=>u9) (fun _ _ _=>(bg (fh K rfl) (bg (mU K rfl) (pv 1) (pv 0) (fun _ _=>rfl)) bO (fun _ _=>rfl)))) bU))) (c7 (HC (i0:=7) ["piece"] [("moment", 3)] rfl (by with_unfolding_all rfl) (by decide +kernel) rfl (by decide +kernel) (by exact ⟨rfl,aN⟩) (by with_unfolding_all rfl) ⟨⟨rfl,rfl,rfl⟩,aN⟩ (nK K rfl (pv 0)) (fun _ _ _=>(gu (i:=0) (show (["piece", "moment"]:List Str).Nodup from by decide +kernel) rfl (by first|left;rfl|right;rfl))) (fun _ _ _=>(Cf (qM (dM c5 (hr.mono (by decide)) rfl aU (aS (pv 1) (aS (lI (aS (bg (fh K rfl) (pv 0) bO (fun _ _=>rfl)) (aS bO bU))) bU)))))) (fun _ _ _=>(dM cW (hr.mono (by decide)) rfl aU (aS (bg (fh K rfl) (pv 0) bO (fun _ _=>rfl)) (aS bO bU)))) (by with_unfolding_all rfl) hU.nd rfl (by first|left;rfl|right;rfl)) (c7 (gy (Ht K rfl (pv 5)) (fL (xz (kH bX b8 b9 wW (pv 7) (aS (dM sD (hr.mono (by decide)) rfl aU (aS (pv 1) (aS (pv 5) (aS (pv 6) (aS (pv 3) (aS (pv 4) bU)))))) bU)))) pR) (c7 (gy (EM (Ht K rfl (pv 7))) (fL (jy (pv 2))) pR) (c7 (eu (i:=8) hU.nd rfl (dM jL (hr.mono (by decide)) rfl aU (aS (pv 7) bU))) (c7 (gy (Ht K rfl (pv 5)) (c7 (xz (kH bX b8 b9 wW (pv 2) (aS (lI (aS (pv 3) (aS (pv 8) (aS (iK ["place"] [("shares", 6),("row", 0)] rfl (by with_unfolding_all rfl) (by decide +kernel) rfl (by decide +kernel) (by exact ⟨rfl,⟨rfl,aN⟩⟩) (by with_unfolding_all rfl) ⟨⟨rfl,rfl,rfl⟩,⟨⟨rfl,rfl,rfl⟩,aN⟩⟩ (nK K rfl (pv 5)) (fun _ _ _=>(gu (i:=0) (show (["place", "shares", "row"]:List Str).Nodup from by decide +kernel) rfl (by first|left;rfl|right;rfl))) (fun _ _ _=>u9) (fun _ _ _=>(lI (aS (pv 0) (aS (dM cW (hr.mono (by decide)) rfl aU (aS (bg (fh K rfl) (bg (mU K rfl) (pv 2) (pv 0) (fun _ _=>rfl)) bO (fun _ _=>rfl)) (aS (pv 1) bU))) bU))))) bU)))) bU))) (fL (eu (i:=4) hU.nd rfl (dM gc (hr.mono (by decide)) rfl aU (aS (pv 4) (aS (dM j8 (hr.mono (by decide)) rfl aU (aS (dM eR (hr.mono (by decide)) rfl aU (aS (pv 8) (aS (pv 3) bU))) (aS (lI (aS (pv 6) (aS bO bU))) bU))) bU)))))) pR) (fL (eu (i:=3) hU.nd rfl (pv 8)))))))))))))))),?_⟩
  show fU _ _ _ [some (.ref l),none,none,none,none,none,none,none,none] H
  obtain ⟨D,ok⟩:=Sw.mw F hn hq hp
  have IJ:(Sw.Ti.nil.tags qs).length=qs.length:=Sw.Ti.dP
  have n6:=F.n1
  refine di fun R hR=>?_
  walk_at "rd"
  refine ⟨n,M,a,c,l,ps,qs,rfl,R0,F,hn,hq,hp,fun tl tp H1 s1 TL=>hR _ _ ?_⟩
  have R1:=R0.same s1
  generalize Sw.Ti.nil.tags qs=ts at ok IJ TL k
  have NB:(aX qs ts).length=qs.length:=A8 IJ
  have get:∀ i,i<qs.length->∃ q t,qs[i]? = some q/\ts[i]? = some t/\(aX qs ts)[i]? = some (q.1,t.1,t.2,q.2.2.2):=fun i hi=>by
   have h1:qs[i]? = some (qs[i]'hi):=au _
   have h2:ts[i]? = some (ts[i]'(by omega)):=au _
   exact ⟨_,_,h1,h2,DK h1 h2⟩
  have IF:∀ t∈ts,Sw.cL 5000 t.1/\Sw.cL 5000 t.2:=fun t ht=>by
   obtain ⟨i,hi⟩:=dN ht
   obtain ⟨q,t',e1,e2,e3⟩:=get i (by have:=(aa.mp hi).1; omega)
   rw [hi] at e2
   cases e2
   have:=ok.IF (aq e3)
   exact ⟨this.1.mono (by decide),this.2.mono (by decide)⟩
  have S8:∀ mo,Sw.sV (aX qs ts) mo=qs.filterMap fun q=>if mo<(q.1:Rat) then some (q.1:Rat) else none:=fun mo=>Sw.xT IJ
  have FN:∀ {mo ma:Rat} {i:Nat},i∈Sw.cU (aX qs ts) mo ma->i<qs.length:=fun {mo ma i} hi=>by
   obtain ⟨f,e,_⟩:=Sw.jm.mp hi
   have:=(aa.mp e).1
   omega
  refine di fun R hR=>?_
  walk_at "rd"
  intro sl K1
  refine hR _ _ ?_
  have n1:=cZ (o:=.lst []) K1
  have SL:Al (aQ H1 sl (.lst [])) sl [] []:=⟨cO,.nil⟩
  have PD:∀ H',xo H1 H' sl []:=fun _=>⟨[],.nil,List.nodup_nil,fun pl h=>absurd h aR⟩
  generalize aQ H1 sl (.lst [])=H2 at n1 SL ⊢
  refine di fun R hR=>?_
  walk_at "rd"
  refine ⟨_,_,70,rfl,by decide,Sw.Sz.j5 (by decide) (by decide),fun _ pm fm=>hR _ _ ?_,fun z=>absurd z (by decide)⟩
  rw [Kd]
  have n2:=cZ (o:=.tup (fq 0)) fm
  refine di fun R hR=>?_
  walk_at "rd"
  refine ⟨_,_,70,rfl,by decide,Sw.Sz.j5 (by decide) (by decide),fun _ pk fk=>hR _ _ ?_,fun z=>absurd z (by decide)⟩
  rw [Kd]
  have n3:=cZ (o:=.tup (fq 0)) fk
  have hm:aQ (aQ H2 pm (.tup (fq 0))) pk (.tup (fq 0)) pm=some (.tup (fq 0)):=n3 _ _ cO
  have hk:aQ (aQ H2 pm (.tup (fq 0))) pk (.tup (fq 0)) pk=some (.tup (fq 0)):=cO
  have SL:=(SL.same n2).same n3
  have n1:=(n1.trans n2).trans n3
  generalize aQ (aQ H2 pm (.tup (fq 0))) pk (.tup (fq 0))=H3 at n1 SL hm hk ⊢
  clear n2 n3 fm fk
  refine Rh (fun m σ H'=>∃ done sp mo ma G pm pk v5 v6 v7 v8,σ = [some (.ref l),some (.ref tl),some (.ref sl),some (.ref pm),some (.ref pk),v5,v6,v7,v8]/\bT H1 H'/\Al H' sl sp done/\xo H1 H' sl sp/\H' pm=some (.tup (fq mo))/\H' pk=some (.tup (fq ma))/\Sw.jM n M a c (aX qs ts) D mo ma G/\Sw.mu (aX qs ts) mo ma<=m/\sp.length+m<=2*n/\done++Sw.cE (aX qs ts) (m+1) mo ma=Sw.cE (aX qs ts) (2*n+1) 0 0) (m0:=2*n)
   ⟨[],[],0,0,D,pm,pk,none,none,none,none,rfl,n1,SL,PD _,hm,hk,.start ok,Sw.Om ok.ln 0 0,by simp,rfl⟩ ?_
  clear SL PD hm hk n1
  rintro m σ H4 ⟨done,sp,mo,ma,G,pm,pk,v5,v6,v7,v8,rfl,sm,SL,PD,hm,hk,st,ZO,ZL,IK⟩
  refine ⟨true,fun Q hQ=>⟨_,rfl,hQ⟩,fun _=>?_,fun z=>by cases z⟩
  show fU _ _ _ [some (.ref l),some (.ref tl),some (.ref sl),some (.ref pm),some (.ref pk),v5,v6,v7,v8] H4
  have EO:=(st.EO ok).mono (show 2130<=2400 by decide)
  have HP:=(st.HP ok).mono (show 2130<=2400 by decide)
  refine Qn fun D' hN hQ=>?_
  refine di fun R hR=>?_
  walk_at "rd"
  refine ⟨l,ps,qs,tl,tp,ts,pm,pk,mo,ma,rfl,R1.same sm,TL.same sm,IJ,by omega,hm,hk,EO.mono (by decide),HP.mono (by decide),IF,fun q h=>⟨(hq q h).1,(hq q h).2.1⟩,fun h H5 s5 nh hh=>hR _ _ ?_⟩
  have LV:(Sw.cU (aX qs ts) mo ma).length<=60:=by have:=Sw.oz (aX qs ts) mo ma; omega
  refine di fun R hR=>?_
  walk_at "rd"
  refine ⟨⟨_,.of hh⟩,fun Dl iH=>?_⟩
  refine Wv (K:=K) (a:=h) (xs:=(Sw.cU (aX qs ts) mo ma).map iI) (v0:=none) (caps:=[some (.ref l)]) (OT (aX qs ts)) iH (.of hh) (by rw [ae]; omega) (fun x hx v H' C N s' h1 h2=>?_) ?_
  ·obtain ⟨i,hi,rfl⟩:=aP.mp hx
   obtain ⟨q,t,e1,e2,e3⟩:=get i (FN hi)
   have Rx:=((R1.same sm).same s5).same s'
   obtain ⟨p,q',i1,i2,i3⟩:=Rx.item (i:=(i:Int)) (by omega) (by have:=FN hi; omega)
   have i2:qs[i]? = some q':=by simpa using i2
   rw [e1] at i2
   cases i2
   unfold iI
   walk_at "rd"
   simp only [lU,if_true]
   refine qP (.of Rx.hl) i1 ?_
   refine fj (.of i3) rfl ?_
   exact h1 _ (by show some (V.int (Sw.shr (aX qs ts) i))=some _; rw [Sw.kK e3])
  rw [Yk]
  refine ⟨Dl,_,rfl,.of cO,hR _ _ ?_⟩
  have s6:=s5.trans (cZ (o:=.lst (((Sw.cU (aX qs ts) mo ma).map (Sw.shr (aX qs ts))).map V.int)) iH)
  have hh:=cZ (o:=.lst (((Sw.cU (aX qs ts) mo ma).map (Sw.shr (aX qs ts))).map V.int)) iH _ _ hh
  generalize aQ H5 Dl (.lst (((Sw.cU (aX qs ts) mo ma).map (Sw.shr (aX qs ts))).map V.int))=H6 at s6 hh ⊢
  clear iH s5
  have hS:((Sw.cU (aX qs ts) mo ma).map (Sw.shr (aX qs ts))).sum=Sw.fZ (aX qs ts) (Sw.cU (aX qs ts) mo ma):=rfl
  rw [hS]
  refine di fun R hR=>?_
  walk_at "rd"
  have R6:=(R1.same sm).same s6
  have Ue:=s6 _ _ hm
  refine ⟨⟨_,.of R6.hl⟩,fun Cl zT=>?_⟩
  have UN:H4 Cl=none:=s6.free zT
  refine uq (xs:=ps.map V.ref) (fun i τ H'=>∃ v es,τ = [v,some (.ref pm)]/\bT H6 H'/\iM fq H' Cl es ((qs.take i).filterMap fun q=>if mo<(q.1:Rat) then some (q.1:Rat) else none)/\es.length<=i) ⟨none,[],rfl,cZ zT,⟨cO,.nil⟩,av _⟩ (fun i τ H' _ ⟨_,_,_,s',_⟩=>.of (s' _ _ R6.hl)) ?_ ?_
  ·rintro i y τ H7 hy ⟨v,es,rfl,s7,L,le⟩
   obtain ⟨pp,jF,rfl⟩:∃ p,ps[i]? = some p/\V.ref p=y:=by simpa using hy
   obtain ⟨q,uM,xw⟩:=R6.r.get jF
   have hi:i<qs.length:=(aa.mp uM).1
   obtain ⟨q0,q1,_⟩:=hq q (aq uM)
   have et:=aV uM
   walk_at "rd"
   refine fj (.of (s7 _ _ xw)) rfl ?_
   walk_at "rd"
   intro w1 f1
   have m1:=cZ (o:=.tup [.int q.1,.int 1]) f1
   refine ⟨pm,w1,mo,(q.1:Rat),rfl,m1 _ _ (s7 _ _ Ue),sy (n:=q.1),EO.mono (by decide),(HH q0 q1).mono (by decide),?_⟩
   have s7:=s7.trans m1
   have L:iM fq (aQ H7 w1 (.tup [.int q.1,.int 1])) Cl es _:=⟨m1 _ _ L.hl,Cc L.r m1⟩
   generalize aQ H7 w1 (.tup [.int q.1,.int 1])=H8 at s7 L ⊢
   clear m1 f1
   walk_at "rd"
   refine ir (fun c1=>?_) fun c1=>?_
   ·refine fj (.of (s7 _ _ xw)) rfl ?_
    walk_at "rd"
    refine ⟨_,_,70,rfl,by decide,Sw.Sz.j5 (by decide) (by decide),fun _ w2 f2=>?_,fun z=>absurd z (by decide)⟩
    have m2:=cZ (o:=.tup (fq (((q.1:Int):Rat) / ((1:Int):Rat)))) f2
    have kt:∀ b xs,aQ H8 w2 (.tup (fq (((q.1:Int):Rat) / ((1:Int):Rat)))) b=some (.tup xs)->aQ (aQ H8 w2 (.tup (fq (((q.1:Int):Rat) / ((1:Int):Rat))))) Cl (.lst (es.map V.ref++[.ref w2])) b=some (.tup xs):=fun b xs e=>by
     rw [c8 (b7 e (m2 _ _ L.hl) (by intro z; cases z))]; exact e
    refine ⟨_,m2 _ _ L.hl,cX (by rw [ae]; omega),fun b o e=>?_,es++[w2],⟨?_,?_⟩,by rw [aO]; simp only [aE,cy]; omega⟩
    ·rw [c8 (gX e zT)]; exact m2 _ _ (s7 _ _ e)
    ·rw [cO,ay]; rfl
    ·rw [et,iN]
     have e1:([q]:List Q4).filterMap (fun q=>if mo<(q.1:Rat) then some (q.1:Rat) else none) = [(q.1:Rat)]:=by simp [c1]
     rw [e1]
     exact tY (kt _ _ (by rw [cO,J2])) (qf (Cc L.r m2) kt)
   ·refine ⟨s7,es,⟨L.hl,?_⟩,by omega⟩
    rw [et,iN]
    have e1:([q]:List Q4).filterMap (fun q=>if mo<(q.1:Rat) then some (q.1:Rat) else none) = []:=by simp [c1]
    rw [e1,bx]
    exact L.r
  rintro τ H7 ⟨v,es,rfl,LS,L,le⟩
  rw [aK (by rw [ae]; have:=R0.r.len; omega),<- S8 mo] at L
  have UF:es.length<=60:=by rw [ae] at le; have:=R0.r.len; omega
  refine hR _ _ ?_
  have s7:=s6.trans LS
  have FP:=LS _ _ hh
  clear LS
  refine di fun R hR=>?_
  have next:∀ Bt H8,bT H4 H8->H8 h=some (.lst ((Sw.cU (aX qs ts) mo ma).map iI))->iM fq H8 Cl Bt (Sw.fH (aX qs ts) mo ma)->R [some (.ref l),some (.ref tl),some (.ref sl),some (.ref pm),some (.ref pk),some (.ref h),some (.int (Sw.fZ (aX qs ts) (Sw.cU (aX qs ts) mo ma))),some (.ref Cl),v8] H8:=fun Bt H8 s8 hh L=>by
   refine hR _ _ ?_
   have Ao:=pQ L.r
   refine di fun R hR=>?_
   walk_at "rd"
   by_cases ce:Sw.fH (aX qs ts) mo ma = []
   ·refine ⟨false,.inl ⟨_,.of L.hl,?_⟩,?_⟩
    ·rw [ce] at Ao
     rw [fR.mp Ao]; rfl
    rw [if_pos rfl]
    refine hQ _ _ (k sl sp H8 ((s1.trans sm).trans s8) (s1.free K1) ?_ ?PD2)
    case PD2=>obtain ⟨p7,q1,q2,q3⟩:=PD.same s8; exact ⟨p7,q1,q2,fun pl hp=>⟨s1.free (q3 pl hp).1,(q3 pl hp).2⟩⟩
    have e:Sw.cE (aX qs ts) (m+1) mo ma = []:=by unfold Sw.cE; rw [if_pos ce]
    rw [e,bx] at IK
    rw [<- IK]
    exact SL.same s8
   ·refine ⟨true,.inl ⟨_,.of L.hl,?_⟩,?_⟩
    ·cases Bt with
     | nil =>
      rw [cy] at Ao
      exact absurd (fR.mp Ao.symm) ce
     | cons y r=>rfl
    rw [if_neg (by decide)]
    refine hR _ _ ?_
    refine di fun R hR=>?_
    walk_at "rd"
    refine ⟨Cl,Bt,_,rfl,L,ce,fun x hx=>((st.IU ok hx).1).mono (by decide),fun r H9 LU Ip=>hR _ _ ?_⟩
    have mem:=Sw.gJ ce
    have s9:=s8.trans LU
    have Ig:=LU _ _ hh
    have yt:H9 sl=some (.lst (sp.map V.ref)):=s9 _ _ SL.hl
    clear LU
    refine di fun R hR=>?_
    walk_at "rd"
    by_cases he:Sw.cU (aX qs ts) mo ma = []
    ·refine ⟨false,.inl ⟨_,.of Ig,by rw [he]; rfl⟩,?_⟩
     rw [if_neg (by decide)]
     refine hR _ _ ?_
     have t1:=Sw.kW he ce
     have Oo:=Sw.mT t1
     refine t7 fun R hR=>?_
     walk_at "rd"
     refine hR _ _ (hN _ _ ⟨m-1,by omega,done,sp,_,ma,G,r,pk,_,_,_,_,rfl,sm.trans s9,SL.same s9,PD.same s9,Ip,s9 _ _ hk,st.rest ok t1 ?_,by omega,by omega,?_⟩)
     ·rcases t1.way with z | z
      ·exact z
      ·exact absurd he z.1
     ·rw [show m-1+1=m by omega,<- IK,Sw.iz,if_neg ce,if_pos he]
    ·refine ⟨true,.inl ⟨_,.of Ig,?_⟩,?_⟩
     ·cases e:Sw.cU (aX qs ts) mo ma with
      | nil=>exact absurd e he
      | cons y r=>rfl
     rw [if_pos rfl]
     have t1:=Sw.oJ ok.s1 he
     have Oo:=Sw.mT t1
     obtain ⟨G',AX⟩:=st.go ok he
     obtain ⟨S1,S2,S3,S4⟩:=ok.Dr he
     have zS:Sw.Sz 70 (Sw.fZ (aX qs ts) (Sw.cU (aX qs ts) mo ma)):=Sw.Sz.j5 (by omega) (by omega)
     refine di fun R' pB=>?_
     walk_at "rd"
     refine ⟨Ba yt,?_⟩
     refine ⟨⟨_,.of Ig⟩,fun Pl Eo=>?_⟩
     have R9:=(R1.same sm).same s9
     refine uq (xs:=(Sw.cU (aX qs ts) mo ma).map iI) (fun i τ H'=>∃ v es,τ = [v,some (.int (Sw.fZ (aX qs ts) (Sw.cU (aX qs ts) mo ma))),some (.ref l)]/\bT H9 H'/\H' Pl=some (.lst (es.map V.ref))/\Paired (Eb H') es (((Sw.cU (aX qs ts) mo ma).take i).map fun i=>(i,(Sw.shr (aX qs ts) i:Rat) / (Sw.fZ (aX qs ts) (Sw.cU (aX qs ts) mo ma):Rat)))/\es.length<=i) ⟨none,[],rfl,cZ Eo,cO,.nil,av _⟩ (fun i τ H' _ ⟨_,_,_,s',_⟩=>.of (s' _ _ Ig)) ?_ ?_
     ·rintro i y τ nQ hy ⟨v,es,rfl,lH,yc,pr,le⟩
      obtain ⟨j,hj,rfl⟩:∃ j,(Sw.cU (aX qs ts) mo ma)[i]? = some j/\iI j=y:=by simpa using hy
      have hi:i<(Sw.cU (aX qs ts) mo ma).length:=(aa.mp hj).1
      have NZ:=aq hj
      obtain ⟨q,t,e1,e2,e3⟩:=get j (FN NZ)
      obtain ⟨p,q',i1,i2,i3⟩:=(R9.same lH).item (i:=(j:Int)) (by omega) (by have:=FN NZ; omega)
      have i2:qs[j]? = some q':=by simpa using i2
      rw [e1] at i2
      cases i2
      have Tq:Sw.shr (aX qs ts) j=q.2.2.2:=Sw.kK e3
      unfold iI
      walk_at "rd"
      simp only [lU,if_true]
      walk_at "rd"
      refine qP (.of (R9.same lH).hl) i1 ?_
      refine fj (.of i3) rfl ?_
      walk_at "rd"
      refine ⟨_,_,70,rfl,by decide,zS,fun _ w1 f1=>?_,fun z=>absurd z (by omega)⟩
      intro w2 f2
      have m1:=cZ (o:=.tup (fq ((q.2.2.2:Rat) / (Sw.fZ (aX qs ts) (Sw.cU (aX qs ts) mo ma):Rat)))) f1
      have m2:=cZ (o:=.tup [.int (j:Int),.ref w1]) f2
      have m3:=m1.trans m2
      have h1:aQ (aQ nQ w1 (.tup (fq ((q.2.2.2:Rat) / (Sw.fZ (aX qs ts) (Sw.cU (aX qs ts) mo ma):Rat))))) w2 (.tup [.int (j:Int),.ref w1]) w1=some (.tup (fq ((Sw.shr (aX qs ts) j:Rat) / (Sw.fZ (aX qs ts) (Sw.cU (aX qs ts) mo ma):Rat)))):=by rw [Tq]; exact m2 _ _ cO
      have h2:aQ (aQ nQ w1 (.tup (fq ((q.2.2.2:Rat) / (Sw.fZ (aX qs ts) (Sw.cU (aX qs ts) mo ma):Rat))))) w2 (.tup [.int (j:Int),.ref w1]) w2=some (.tup [.int (j:Int),.ref w1]):=cO
      generalize aQ (aQ nQ w1 (.tup (fq ((q.2.2.2:Rat) / (Sw.fZ (aX qs ts) (Sw.cU (aX qs ts) mo ma):Rat))))) w2 (.tup [.int (j:Int),.ref w1])=xg at m3 h1 h2 ⊢
      have kt:∀ b xs,xg b=some (.tup xs)->aQ xg Pl (.lst (es.map V.ref++[.ref w2])) b=some (.tup xs):=fun b xs e=>by
       rw [c8 (b7 e (m3 _ _ yc) (by intro z; cases z))]; exact e
      refine ⟨_,m3 _ _ yc,cX (by rw [ae]; omega),fun b o e=>?_,es++[w2],?_,?_,by rw [aO]; simp only [aE,cy]; omega⟩
      ·rw [c8 (gX e Eo)]; exact m3 _ _ (lH _ _ e)
      ·rw [cO,ay]; rfl
      ·rw [aV hj,ay]
       exact zj ⟨w1,kt _ _ h2,kt _ _ h1⟩ (Paired.gB (Paired.gB pr fun _ _ z=>z.keep fun _ _ e=>m3 _ _ e) fun _ _ z=>z.keep kt)
     rintro τ nQ ⟨v,es,rfl,lH,yc,pr,le⟩
     rw [aK (by rw [ae]; exact av _)] at pr
     intro t ft
     have vF:=lH.trans (cZ (o:=.tup [.ref pm,.ref r,.ref Pl]) ft)
     have Lq:=cZ (o:=.tup [.ref pm,.ref r,.ref Pl]) ft
     have ht:aQ nQ t (.tup [.ref pm,.ref r,.ref Pl]) t=some (.tup [.ref pm,.ref r,.ref Pl]):=cO
     have yc:=Lq _ _ yc
     have pr:=Paired.gB pr fun _ _ z=>Eb.keep z fun _ _ e=>Lq _ _ e
     generalize aQ nQ t (.tup [.ref pm,.ref r,.ref Pl])=xg at vF ht yc pr ⊢
     have BX:=s9.trans vF
     have Ow:Pl≠sl:=fun z=>by rw [z,yt] at Eo; cases Eo
     refine Ck (vF _ _ yt) (by rw [ae]; omega) (pB _ _ ?_)
     have Ni:=(SL.same BX).app (p:=t) (x:=(mo,Sw.dY (Sw.fH (aX qs ts) mo ma),Sw.qF (aX qs ts) mo ma)) ⟨pm,r,Pl,es,ht,BX _ _ hm,vF _ _ Ip,yc,pr⟩ (fun pf pt pl e=>by rw [ht] at e; cases e; exact Ow)
     have Nf:=((PD.same BX).app ht yc (sm.free (s9.free Eo)) Ow (fun p7 U5 hm=>by
      obtain ⟨i,hi⟩:=dN hm
      obtain ⟨LH,q1,_,q3⟩:=PD.same s9
      have ee:p7=LH:=Sm U5 (Paired.gB q1 fun _ _ ⟨pf,pt,e⟩=>⟨pf,pt,vF _ _ e⟩)
      subst ee
      obtain ⟨xs,e⟩:=(q3 Pl hm).2.2
      rw [Eo] at e
      cases e)).list (ys:=sp.map V.ref++[.ref t]) (vF _ _ yt)
     have kp:∀ b o,b≠sl->xg b=some o->aQ xg sl (.lst (sp.map V.ref++[.ref t])) b=some o:=fun b o n e=>by rw [c8 n]; exact e
     have N2:=kp _ _ (b7 (BX _ _ hm) (vF _ _ yt) (by intro z; cases z)) (BX _ _ hm)
     have FS:=kp _ _ (b7 (BX _ _ hk) (vF _ _ yt) (by intro z; cases z)) (BX _ _ hk)
     have oE:=kp _ _ (b7 (vF _ _ Ip) (vF _ _ yt) (by intro z; cases z)) (vF _ _ Ip)
     have uU:bT H1 (aQ xg sl (.lst (sp.map V.ref++[.ref t]))):=fun b o e=>kp _ _ (gX e K1) (BX _ _ (sm _ _ e))
     generalize aQ xg sl (.lst (sp.map V.ref++[.ref t]))=JG at Ni Nf N2 FS oE uU ⊢
     walk_at "rd"
     refine ⟨r,pm,_,mo,2400,rfl,oE,N2,by decide,((st.IU ok mem).1).mono (by decide),EO,fun w1 f1=>?_⟩
     have m1:=cZ (o:=.tup (fq (Sw.dY (Sw.fH (aX qs ts) mo ma)-mo))) f1
     walk_at "rd"
     intro w2 f2
     have m2:=cZ (o:=.tup [.int (Sw.fZ (aX qs ts) (Sw.cU (aX qs ts) mo ma)),.int 1]) f2
     refine ⟨w1,w2,_,(Sw.fZ (aX qs ts) (Sw.cU (aX qs ts) mo ma):Rat),2400,rfl,m2 _ _ cO,sy,by decide,((st.IU ok mem).2).mono (by decide),(Sw.cL.int zS).mono (by decide),Sw.cI (by omega),fun w3 f3=>?_⟩
     have m3:=cZ (o:=.tup (fq ((Sw.dY (Sw.fH (aX qs ts) mo ma)-mo) / (Sw.fZ (aX qs ts) (Sw.cU (aX qs ts) mo ma):Rat)))) f3
     have tH:=(m1.trans m2).trans m3
     refine ⟨pk,w3,ma,_,2400,rfl,tH _ _ FS,cO,by decide,HP,(st.WB ok he mem).mono (by decide),fun w4 f4=>?_⟩
     have m4:=cZ (o:=.tup (fq (ma+(Sw.dY (Sw.fH (aX qs ts) mo ma)-mo) / (Sw.fZ (aX qs ts) (Sw.cU (aX qs ts) mo ma):Rat)))) f4
     have vA:=tH.trans m4
     refine hR _ _ ?_
     refine t7 fun R hR=>?_
     walk_at "rd"
     refine hR _ _ (hN _ _ ⟨m-1,by omega,_,sp++[t],_,_,G',r,w4,_,_,_,_,rfl,uU.trans vA,Ni.same vA,Nf.same vA,vA _ _ oE,cO,AX,by omega,?_,?_⟩)
     ·rw [aO]; simp only [aE,cy]; omega
     ·rw [show m-1+1=m by omega,<- IK,Sw.iz,if_neg ce,if_neg he,oi]
      rfl
  walk_at "rd"
  by_cases he:Sw.cU (aX qs ts) mo ma = []
  ·refine ⟨false,.inl ⟨_,.of FP,by rw [he]; rfl⟩,?_⟩
   rw [if_neg (by decide)]
   refine next es H7 s7 FP ?_
   have e:Sw.fH (aX qs ts) mo ma=Sw.sV (aX qs ts) mo:=by unfold Sw.fH; rw [if_pos he,bx]
   rw [e]
   exact L
  ·refine ⟨true,.inl ⟨_,.of FP,?_⟩,?_⟩
   ·cases e:Sw.cU (aX qs ts) mo ma with
    | nil=>exact absurd e he
    | cons y r=>rfl
   rw [if_pos rfl]
   obtain ⟨S1,S2,S3,S4⟩:=ok.Dr he
   have zS:Sw.Sz 200 (Sw.fZ (aX qs ts) (Sw.cU (aX qs ts) mo ma)):=Sw.Sz.U7 (by omega) (by omega)
   refine ⟨Ba L.hl,tl,tp,ts,h,_,_,pm,pk,mo,ma,Sw.zP (aX qs ts),rfl,(TL.same sm).same s7,FP,he,LV,fun i hi=>?_,s7 _ _ hm,s7 _ _ hk,EO,HP,zS,((st.way ok he).2.2.2).mono (by decide),(st.M5 ok he).mono (by decide),fun r H8 s8 Up=>?_⟩
   ·obtain ⟨q,t,e1,e2,e3⟩:=get i (FN hi)
    refine ⟨t,e2,(Sw.lO e3).symm,?_⟩
    rw [Sw.lO e3]
    exact ((ok.IF (aq e3)).2).mono (by decide)
   have L8:iM fq H8 Cl es (Sw.sV (aX qs ts) mo):=⟨s8 _ _ L.hl,Cc L.r s8⟩
   refine Ck L8.hl (by rw [ae]; omega) ?_
   have kt:∀ b xs,H8 b=some (.tup xs)->aQ H8 Cl (.lst (es.map V.ref++[.ref r])) b=some (.tup xs):=fun b xs e=>by
    rw [c8 (b7 e L8.hl (by intro z; cases z))]; exact e
   refine next (es++[r]) _ (fun b o e=>?_) ?_ ⟨?_,?_⟩
   ·rw [c8 (gX e UN)]; exact s8 _ _ (s7 _ _ e)
   ·have UQ:h≠Cl:=fun z=>by rw [<- z] at zT; rw [hh] at zT; cases zT
    rw [c8 UQ]; exact s8 _ _ FP
   ·rw [cO,ay]; rfl
   ·have e:Sw.fH (aX qs ts) mo ma=Sw.sV (aX qs ts) mo++[Sw.ni (aX qs ts) mo ma]:=by unfold Sw.fH; rw [if_neg he]
    rw [e]
    exact tY (kt _ _ Up) (qf L8.r kt)
theorem RO {kvs:List (Key×V)} {k:Key} {v:V}:(gv kvs k v).length<=kvs.length+1:=by
 unfold gv
 split
 ·rw [ae]; omega
 ·rw [aO]; simp
def Yl:Sp:=fun vs H Q _=>∃ n M a c l ps qs,vs = [.ref l]/\Row H l ps qs/\Sw.zG n M a c/\qs.length<=n/\(∀ q∈qs,Sw.nU M q)/\qs.Pairwise (fun a b=>a.1<=b.1)/\∀ tl tp H',bT H H'->H tl=none->wm H' tl tp (Sw.eX (Sw.endsF (Sw.cE (aX qs (Sw.Ti.nil.tags qs)) (2*n+1) 0 0)) 0 (fun _=>none) qs)->Q (.ref tl) H'
theorem Ym (T:Txt K mg cA):jT P w K mg base (jK P w) 8 "spans" ["row"] Yl:=by
 have uz:=So (P:=P) (w:=w) (base:=base) T
 have jB:=Mv (P:=P) (w:=w) (base:=base) T
 refine T.wP.okN (k:=7) fJ (fun vs H Q E h=>?_) (fun f e6 A outer s H vs Q E hr h=>?_)
 ·obtain ⟨n,M,a,c,l,ps,qs,rfl,_⟩:=h
  rfl
 ·obtain ⟨n,M,a,c,l,ps,qs,rfl,R0,F,hn,hq,hp,k⟩:=h
  refine ⟨_,(c7 (eu (i:=1) fJ.nd rfl Mz) (c7 (uv PassesOwn.never rfl (nK K rfl (dM uz (hr.mono (by decide)) rfl aU (aS (pv 0) bU))) (qi (n:=3) K rfl rfl (iT (gu (i:=2) fJ.nd rfl (by first|left;rfl|right;rfl)) (iT (gu (i:=3) fJ.nd rfl (by first|left;rfl|right;rfl)) (iT (gu (i:=4) fJ.nd rfl (by first|left;rfl|right;rfl)) qh)))) (fL (uv PassesOwn.never rfl (nK K rfl (pv 4)) (qi (n:=2) K rfl rfl (iT (gu (i:=5) fJ.nd rfl (by first|left;rfl|right;rfl)) (iT (gu (i:=6) fJ.nd rfl (by first|left;rfl|right;rfl)) qh))) (fL (MJ (qB hr) (pv 1) (pv 5) (pv 3) rfl))))) (c7 (eu (i:=7) fJ.nd rfl Mz) (c7 (eu (i:=8) fJ.nd rfl (su bU)) (c7 (uv PassesOwn.never rfl (DJ K rfl rfl T.fP (aS (pv 0) bU)) (qi (n:=2) K rfl rfl (iT (gu (i:=5) fJ.nd rfl (by first|left;rfl|right;rfl)) (iT (gu (i:=9) fJ.nd rfl (by first|left;rfl|right;rfl)) qh))) (c7 (eu (i:=10) fJ.nd rfl (dM jB (hr.mono (by decide)) rfl aU (aS (lI (aS (bg (fh K rfl) (pv 9) bO (fun _ _=>rfl)) (aS bO bU))) (aS (MA (qB hr) (pv 7) (bg (fh K rfl) (pv 9) bO (fun _ _=>rfl)) (lI (aS bO (aS bO bU))) ⟨rfl,rfl,rfl,rfl⟩) bU)))) (c7 (eu (i:=3) fJ.nd rfl (MA (qB hr) (pv 1) (pv 5) (pv 10) ⟨rfl,rfl,rfl,rfl⟩)) (c7 (MJ (qB hr) (pv 7) (bg (fh K rfl) (pv 9) bO (fun _ _=>rfl)) (pv 3) rfl) (fL (xz (kH bX b8 b9 wW (pv 8) (aS (lI (aS (pv 10) (aS (pv 3) bU))) bU)))))))) (fL (jy (pv 8)))))))),?_⟩
  show fU _ _ _ [some (.ref l),none,none,none,none,none,none,none,none,none,none] H
  obtain ⟨D,ok⟩:=Sw.mw F hn hq hp
  have n6:=F.n1
  have len:=R0.r.len
  have fz:=Sw.ou ok (k:=2*n+1) (.start ok)
  have fl:=Sw.kR (fs:=aX qs (Sw.Ti.nil.tags qs)) (n:=2*n+1) (mo:=0) (ma:=0)
  have big:120*62+100<sizeLine:=by decide
  refine di fun R hR=>?_
  walk_at "rd"
  intro pd N7
  refine hR _ _ ?_
  have n0:=cZ (o:=.dK []) N7
  have CV:aQ H pd (.dK []) pd=some (.dK []):=cO
  generalize aQ H pd (.dK [])=H0 at n0 CV ⊢
  refine di fun R hR=>?_
  refine ur fun Z hZ=>?_
  walk_at "rd"
  refine ⟨n,M,a,c,l,ps,qs,rfl,R0.same n0,F,hn,hq,hp,fun sl sp H1 s1 _ SL _=>?_⟩
  generalize Sw.cE (aX qs (Sw.Ti.nil.tags qs)) (2*n+1) 0 0=xs at k fz fl SL ⊢
  have xl:=Paired.length SL.r
  have Au:=s1 _ _ CV
  have s1:=n0.trans s1
  refine ⟨sl,rfl,⟨_,.of SL.hl⟩,hZ _ _ ?_⟩
  refine z9 (K:=K) (a:=sl) (xs:=sp.map V.ref) (fun i σ H'=>∃ v2 v3 v4 v5 v6 kvs,σ = [some (.ref l),some (.ref pd),v2,v3,v4,v5,v6,none,none,none,none]/\(∀ b o,b≠pd->H1 b=some o->H' b=some o)/\H' pd=some (.dK kvs)/\oU H' kvs (Sw.endsF (xs.take i))/\kvs.length<=60*i) ⟨none,none,none,none,none,[],rfl,fun _ _ _ e=>e,Au,fun w=>.inl ⟨rfl,rfl⟩,bR _⟩ (fun i σ H' _ ⟨_,_,_,_,_,_,_,kp,_⟩=>.of (kp _ _ (b7 SL.hl Au (by intro z; cases z)) SL.hl)) ?_ ?_
  ·rintro i y σ H2 hy ⟨v2,v3,v4,v5,v6,kvs,rfl,kp,hd,ea,lk⟩
   obtain ⟨p,Er,rfl⟩:∃ p,sp[i]? = some p/\V.ref p=y:=by simpa using hy
   obtain ⟨x,hx,⟨pf,pt,pl,es,g1,g2,g3,g4,g5⟩,nl⟩:=wV SL.r Er
   have hi:i<sp.length:=(aa.mp Er).1
   obtain ⟨zx,lx⟩:=fz x (aq hx)
   have el:=Paired.length g5
   have tk:∀ b zs,H1 b=some (.tup zs)->b≠pd:=fun b zs e=>b7 e Au (by intro z; cases z)
   refine ⟨p,_,rfl,.of (kp _ _ (tk _ _ g1) g1),rfl,?_⟩
   walk_at "rd"
   refine ur fun Z' TV=>?_
   walk_at "rd"
   have Di:pl≠pd:=b7 g4 Au (by intro z; cases z)
   refine ⟨⟨_,.of (kp _ _ Di g4)⟩,TV _ _ ?_⟩
   rw [aV hx,Sw.pA]
   refine z9 (K:=K) (a:=pl) (xs:=es.map V.ref) (fun j σ H'=>∃ v5 v6 kvs,σ = [some (.ref l),some (.ref pd),some (.ref pf),some (.ref pt),some (.ref pl),v5,v6,none,none,none,none]/\(∀ b o,b≠pd->H1 b=some o->H' b=some o)/\H' pd=some (.dK kvs)/\oU H' kvs (Sw.mL (Sw.endsF (xs.take i)) x.2.1 (x.2.2.take j))/\kvs.length<=60*i+j) ⟨v5,v6,kvs,rfl,kp,hd,ea,by omega⟩ (fun j σ H' _ ⟨_,_,_,_,kp,_⟩=>.of (kp _ _ Di g4)) ?_ ?_
   ·rintro j y' σ H3 K9 ⟨v5,v6,kvs,rfl,kp,hd,ea,lk⟩
    obtain ⟨w,hw,rfl⟩:∃ w,es[j]? = some w/\V.ref w=y':=by simpa using K9
    obtain ⟨z,hz,pr,e1,e2⟩:=wV g5 hw
    have hj:j<es.length:=(aa.mp hw).1
    refine ⟨w,_,rfl,.of (kp _ _ (tk _ _ e1) e1),rfl,?_⟩
    walk_at "rd"
    refine ⟨_,ux.k (k:=cH (z.1:Int)) hd (by omega),?_⟩
    have nt:∀ b zs,H3 b=some (.tup zs)->aQ H3 pd (.dK (gv kvs (cH (z.1:Int):Key) (.ref pt))) b=some (.tup zs):=fun b zs e=>by
     rw [c8 (b7 e hd (by intro z; cases z))]; exact e
    have pe:=(ea.put (w:=(z.1:Int)) (e:=x.2.1) (kp _ _ (tk _ _ g3) g3)).keep nt
    have lp:=RO (kvs:=kvs) (k:=(cH (z.1:Int):Key)) (v:=.ref pt)
    refine ⟨fun b o n e=>?_,_,cO,?_,?_⟩
    ·rw [c8 n]; exact kp b o n e
    ·rw [aV hz,Sw.wK]
     exact pe
    ·omega
   ·rintro σ H3 ⟨v5,v6,kvs,rfl,kp,hd,ea,lk⟩
    rw [aK (l:=x.2.2) (by rw [ae]; omega)] at ea
    rw [ae] at lk
    exact ⟨⟨_,_,_,_,_,rfl⟩,kp,kvs,hd,ea,by omega⟩
  ·rintro σ H2 ⟨v2,v3,v4,v5,v6,kvs,rfl,kp,hd,ea,lk⟩
   rw [ae] at lk
   rw [aK (by rw [ae]; omega)] at ea
   refine hR _ _ ?_
   have s2:bT H H2:=fun b o e=>kp _ _ (gX e N7) (s1 _ _ e)
   have ez:∀ w e,Sw.endsF xs w=some e->Sw.cL 2400 e:=fun w e h=>by
    obtain ⟨x,hx,e1⟩:=Sw.qw h
    rw [e1]
    exact ((fz x hx).1).mono (by decide)
   clear kp fz SL xl Au
   generalize Sw.endsF xs=en at k ea ez
   refine di fun R hR=>?_
   walk_at "rd"
   intro pa sf
   refine hR _ _ ?_
   refine di fun R hR=>?_
   walk_at "rd"
   intro tl Ew
   refine hR _ _ ?_
   have m1:=cZ (o:=.dK []) sf
   have m2:=cZ (o:=.lst []) Ew
   have F7:aQ (aQ H2 pa (.dK [])) tl (.lst []) pa=some (.dK []):=m2 _ _ cO
   have Gg:aQ (aQ H2 pa (.dK [])) tl (.lst []) tl=some (.lst []):=cO
   have OC:H2 tl=none:=m1.free Ew
   have Z4:pa≠tl:=gX (cO (H:=H2) (o:=.dK [])) Ew
   have s3:=m1.trans m2
   generalize aQ (aQ H2 pa (.dK [])) tl (.lst [])=H3 at s3 F7 Gg ⊢
   clear m1 m2 Ew
   refine di fun R hR=>?_
   refine ur fun Z hZ=>?_
   walk_at "rd"
   refine ⟨⟨_,.of (R0.same (s2.trans s3)).hl⟩,hZ _ _ ?_⟩
   refine My (xs:=ps.map V.ref) (fun i σ H'=>∃ v3 v5 v9 rW ka tp,σ = [some (.ref l),some (.ref pd),v2,v3,v4,v5,v6,some (.ref pa),some (.ref tl),v9,rW]/\bT H2 H'/\H' pa=some (.dK ka)/\oU H' ka (Sw.g8 en 0 (fun _=>none) (qs.take i))/\(∀ w e,Sw.g8 en 0 (fun _=>none) (qs.take i) w=some e->Sw.cL 2400 e)/\wm H' tl tp (Sw.eX en 0 (fun _=>none) (qs.take i))/\ka.length<=i/\tp.length=i) ⟨_,_,none,none,[],[],rfl,s3,F7,fun w=>.inl ⟨rfl,rfl⟩,(fun w e h=>by cases h),⟨Gg,.nil⟩,bR _,rfl⟩ (fun i σ H' _ ⟨_,_,_,_,_,_,_,sm,_⟩=>.of (sm _ _ (R0.same s2).hl)) ?_ ?_
   ·rintro i y σ H4 p hy ⟨Vi,Vj,v9,rW,ka,tp,rfl,sm,ha,ah,az,TL,UG,lt⟩ lX
    obtain ⟨pp,jF,rfl⟩:∃ p,ps[i]? = some p/\V.ref p=y:=by simpa using hy
    obtain ⟨q,uM,xw⟩:=(R0.same s2).r.get jF
    have hi:i<qs.length:=(aa.mp uM).1
    obtain ⟨q0,q1,_⟩:=hq q (aq uM)
    have et:=aV uM
    have Ez:(qs.take i).length=i:=by rw [bZ]; omega
    have e1:=Sw.kM (en:=en) (i:=0) (ah:=fun _=>none) (l:=qs.take i) (q:=q)
    have e2:=Sw.kr (en:=en) (i:=0) (ah:=fun _=>none) (l:=qs.take i) (q:=q)
    rw [Ez,fY] at e1 e2
    have sn:=cZ (o:=.tup [.int i,.ref pp]) lX
    have sm:=sm.trans sn
    have ha:=sn _ _ ha
    have ah:=ah.keep fun _ _ e=>sn _ _ e
    have TL:=TL.same sn
    refine ⟨p,_,rfl,.of cO,rfl,?_⟩
    generalize aQ H4 p (.tup [.int i,.ref pp])=H5 at sm ha ah TL ⊢
    clear sn lX
    rw [et,e1,e2]
    generalize Sw.g8 en 0 (fun _=>none) (qs.take i)=zN at ah az ⊢
    generalize Sw.eX en 0 (fun _=>none) (qs.take i)=OW at TL ⊢
    clear e1 e2
    walk_at "rd"
    refine di fun R hR=>?_
    walk_at "rd"
    refine fj (.of (sm _ _ xw)) rfl ?_
    walk_at "rd"
    intro y1 f1
    have m1:=cZ (o:=.tup [.int q.1,.int 1]) f1
    refine ⟨.inl ⟨ka,.inl (m1 _ _ ha)⟩,fj (.of (m1 _ _ (sm _ _ xw))) rfl ?_⟩
    intro y2 f2
    have m2:=cZ (o:=.tup [.int 0,.int 1]) f2
    have BI:=m1.trans m2
    refine ⟨_,oK.k (k:=cH q.2.1) (BI _ _ ha),?_⟩
    obtain ⟨qe,ev,Io,FO,Tg,Jd⟩:∃ qa e,(iF ka (cH q.2.1:Key)).getD (.ref y2) = .ref qa/\aQ (aQ H5 y1 (.tup [.int q.1,.int 1])) y2 (.tup [.int 0,.int 1]) qa=some (.tup (fq e))/\(zN q.2.1).getD 0=e/\Sw.cL 2400 e:=by
     rcases ah q.2.1 with ⟨h1,h2⟩ | ⟨e,qa,h1,h2,h3⟩
     ·rw [h1,h2]
      exact ⟨y2,0,rfl,sy (n:=0),rfl,(Sw.cL.int (n:=0) (Sw.Sz.zero 200)).mono (by decide)⟩
     ·rw [h1,h2]
      exact ⟨qa,e,rfl,BI _ _ h3,rfl,az _ _ h1⟩
    rw [Io]
    refine ⟨y1,qe,(q.1:Rat),ev,rfl,m2 _ _ sy,FO,(HH q0 q1).mono (by decide),Jd.mono (by decide),fun b fb=>hR _ _ ?_⟩
    have wu:max (q.1:Rat) ev=Sw.kA zN q:=by unfold Sw.kA; rw [Tg]
    have zb:Sw.cL 2400 (Sw.kA zN q):=by
     rw [<- wu,b6]
     split
     ·exact Jd
     ·exact (HH q0 q1).mono (by decide)
    rw [wu]
    have m3:=cZ (o:=.tup (fq (Sw.kA zN q))) fb
    have tH:=BI.trans m3
    have hb:aQ (aQ (aQ H5 y1 (.tup [.int q.1,.int 1])) y2 (.tup [.int 0,.int 1])) b (.tup (fq (Sw.kA zN q))) b=some (.tup (fq (Sw.kA zN q))):=cO
    have sm:=sm.trans tH
    have ha:=tH _ _ ha
    have ah:=ah.keep fun _ _ e=>tH _ _ e
    have TL:=TL.same tH
    generalize aQ (aQ (aQ H5 y1 (.tup [.int q.1,.int 1])) y2 (.tup [.int 0,.int 1])) b (.tup (fq (Sw.kA zN q)))=H6 at hb sm ha ah TL ⊢
    clear m1 m2 BI m3 tH f1 f2 fb FO
    refine di fun R hR=>?_
    walk_at "rd"
    have NS:=sm _ _ hd
    refine ⟨.inl ⟨kvs,.inl NS⟩,⟨_,oK.k (k:=cH (i:Int)) NS,?_⟩⟩
    obtain ⟨qz,J9,Um,Kx,Th,Vs⟩:∃ qa e,(iF kvs (cH (i:Int):Key)).getD (.ref b) = .ref qa/\H6 qa=some (.tup (fq e))/\(en (i:Int)).getD (Sw.kA zN q)=e/\Sw.cL 2400 e:=by
     rcases ea (i:Int) with ⟨h1,h2⟩ | ⟨e,qa,h1,h2,h3⟩
     ·rw [h1,h2]
      exact ⟨b,_,rfl,hb,rfl,zb⟩
     ·rw [h1,h2]
      exact ⟨qa,e,rfl,sm _ _ h3,rfl,ez _ _ h1⟩
    rw [Um]
    refine hR _ _ ?_
    refine di fun R hR=>?_
    walk_at "rd"
    refine fj (.of (sm _ _ xw)) rfl ?_
    refine ⟨_,ux.k (k:=cH q.2.1) ha (cX (by omega)),hR _ _ ?_⟩
    have nt:∀ b zs,H6 b=some (.tup zs)->aQ H6 pa (.dK (gv ka (cH q.2.1:Key) (.ref qz))) b=some (.tup zs):=fun b zs e=>by
     rw [c8 (b7 e ha (by intro z; cases z))]; exact e
    have nl:∀ b zs,H6 b=some (.lst zs)->aQ H6 pa (.dK (gv ka (cH q.2.1:Key) (.ref qz))) b=some (.lst zs):=fun b zs e=>by
     rw [c8 (b7 e ha (by intro z; cases z))]; exact e
    have Nl:=(ah.put (w:=q.2.1) (e:=J9) Kx).keep nt
    have Eh:wm (aQ H6 pa (.dK (gv ka (cH q.2.1:Key) (.ref qz)))) tl tp OW:=⟨nl _ _ TL.hl,Paired.gB TL.r fun _ _ z=>z.keep nt⟩
    have GY:bT H2 (aQ H6 pa (.dK (gv ka (cH q.2.1:Key) (.ref qz)))):=fun b o e=>by
     rw [c8 (gX e sf)]; exact sm _ _ e
    have lp:=RO (kvs:=ka) (k:=(cH q.2.1:Key)) (v:=.ref qz)
    have NK:aQ H6 pa (.dK (gv ka (cH q.2.1:Key) (.ref qz))) pa=some (.dK (gv ka (cH q.2.1:Key) (.ref qz))):=cO
    have NN:=nt _ _ hb
    have Of:=nt _ _ Kx
    have SY:∀ w e,gw zN q.2.1 J9 w=some e->Sw.cL 2400 e:=fun w e h=>by
     unfold gw at h
     split at h
     ·cases h; exact Vs
     ·exact az _ _ h
    generalize aQ H6 pa (.dK (gv ka (cH q.2.1:Key) (.ref qz)))=H7 at Nl Eh GY NK NN Of ⊢
    clear nt nl ah az TL sm ha hb Kx
    rw [Th]
    refine t7 fun R hR=>?_
    walk_at "rd"
    refine ⟨Ba Eh.hl,fun t ft=>?_⟩
    have m1:=cZ (o:=.tup [.ref b,.ref qz]) ft
    refine Ck (m1 _ _ Eh.hl) (by rw [ae]; omega) (hR _ _ ?_)
    have kt:∀ c zs,aQ H7 t (.tup [.ref b,.ref qz]) c=some (.tup zs)->aQ (aQ H7 t (.tup [.ref b,.ref qz])) tl (.lst (tp.map V.ref++[.ref t])) c=some (.tup zs):=fun c zs e=>by
     rw [c8 (b7 e (m1 _ _ Eh.hl) (by intro z; cases z))]; exact e
    have kd:∀ c zs,aQ H7 t (.tup [.ref b,.ref qz]) c=some (.dK zs)->aQ (aQ H7 t (.tup [.ref b,.ref qz])) tl (.lst (tp.map V.ref++[.ref t])) c=some (.dK zs):=fun c zs e=>by
     rw [c8 (b7 e (m1 _ _ Eh.hl) (by intro z; cases z))]; exact e
    have S:bT H2 (aQ (aQ H7 t (.tup [.ref b,.ref qz])) tl (.lst (tp.map V.ref++[.ref t]))):=fun c o e=>by
     rw [c8 (gX e OC)]; exact m1 _ _ (GY _ _ e)
    have SO:wm (aQ (aQ H7 t (.tup [.ref b,.ref qz])) tl (.lst (tp.map V.ref++[.ref t]))) tl (tp++[t]) (OW++[(Sw.kA zN q,J9)]):=⟨by rw [cO,ay]; rfl,zj ⟨b,qz,kt _ _ cO,kt _ _ (m1 _ _ NN),kt _ _ (m1 _ _ Of)⟩ (Paired.gB (Eh.same m1).r fun _ _ z=>z.keep kt)⟩
    exact ⟨⟨_,_,_,_,rfl⟩,S,_,kd _ _ (m1 _ _ NK),(Nl.keep fun _ _ e=>m1 _ _ e).keep kt,SY,tp++[t],SO,by omega,by rw [aO]; simp [lt]⟩
   ·rintro σ H4 ⟨Vi,Vj,v9,rW,ka,tp,rfl,sm,ha,ah,az,TL,UG,lt⟩
    refine hR _ _ ?_
    walk_at "rd"
    refine k tl tp H4 (s2.trans sm) (s2.free OC) ?_
    rw [aK (by rw [ae]; omega)] at TL
    exact TL
def Xn:Sp:=fun vs H Q _=>∃ l ps qs,vs = [.ref l]/\iM fq H l ps qs/\(∀ i,Sw.cL 2400 (Sw.tq (qs.take i)))/\(∀ q∈qs,Sw.cL 2400 q)/\∀ r H',bT H H'->H' r=some (.tup (fq (Sw.tq qs)))->Q (.ref r) H'
theorem Xo (T:Txt K mg cA):jT P w K mg base (jK P w) 4 "total" ["some"] Xn:=by
 have cW:=wZ (P:=P) (w:=w) (base:=base) T
 have gc:=Cp (P:=P) (w:=w) (base:=base) T
 refine T.qJ.okN (k:=3) iL (fun vs H Q E h=>?_) (fun f e6 A outer s H vs Q E hr h=>?_)
 ·obtain ⟨l,ps,qs,rfl,_⟩:=h
  rfl
 ·obtain ⟨l,ps,qs,rfl,L,st,sz,k⟩:=h
  refine ⟨_,(c7 (eu (i:=1) iL.nd rfl (dM cW (hr.mono (by decide)) rfl aU (aS bO (aS bO bU)))) (c7 (uv PassesOwn.never rfl (nK K rfl (pv 0)) (gu (i:=2) iL.nd rfl (by first|left;rfl|right;rfl)) (fL (eu (i:=1) iL.nd rfl (dM gc (hr.mono (by decide)) rfl aU (aS (pv 1) (aS (pv 2) bU)))))) (fL (jy (pv 1))))),?_⟩
  show fU _ _ _ [some (.ref l),none,none] H
  refine di fun R hR=>?_
  walk_at "rd"
  refine ⟨_,_,70,rfl,by decide,Sw.Sz.j5 (by decide) (by decide),fun _ pm fm=>hR _ _ ?_,fun z=>absurd z (by decide)⟩
  rw [Kd]
  refine di fun R hR=>?_
  refine ur fun Z hZ=>?_
  walk_at "rd"
  have n1:=cZ (o:=.tup (fq 0)) fm
  refine ⟨⟨_,.of (n1 _ _ L.hl)⟩,hZ _ _ ?_⟩
  refine z9 (K:=K) (a:=l) (xs:=ps.map V.ref) (fun i σ H'=>bT H H'/\∃ x v,σ = [some (.ref l),some (.ref x),v]/\H' x=some (.tup (fq (Sw.tq (qs.take i))))) ⟨n1,pm,none,rfl,cO⟩ (fun i σ H' _ q=>.of (q.1 _ _ L.hl)) ?_ ?_
  ·rintro i v σ H1 hv ⟨sm,x,v2,rfl,hx⟩
   obtain ⟨p,hp,rfl⟩:∃ p,ps[i]? = some p/\V.ref p=v:=by simpa using hv
   obtain ⟨q,hq,wE⟩:=wX L.r hp
   have zq:=sz q (aq hq)
   show ny _ _ _ [some (.ref l),some (.ref x),some (.ref p)] H1
   refine t7 fun R' pB=>?_
   walk_at "rd"
   refine ⟨x,p,_,q,2400,rfl,hx,sm _ _ wE,by decide,st i,zq,fun r oE=>pB _ _ ?_⟩
   refine ⟨sm.trans (cZ oE),r,_,rfl,?_⟩
   rw [cO,aV hq,Sw.oH]
  ·rintro σ H1 ⟨sm,x,v2,rfl,hx⟩
   refine hR _ _ ?_
   walk_at "rd"
   have ln:=pQ L.r
   rw [aK (by rw [ae,ln]; exact av _)] at hx
   exact k x H1 sm hx
def Xp:Sp:=fun vs H Q _=>∃ n M a c l ps qs who t,vs = [.ref l,.int who,.int t]/\Row H l ps qs/\Sw.Good n M a c qs/\0<=t/\t<1000000000000000/\∀ r H',bT H H'->H' r=some (.tup (fq (Sw.gT (aX qs (Sw.Ti.nil.tags qs)) (Sw.fc qs) who (t:Rat) (2*n+1))))->Q (.ref r) H'
theorem Xq (T:Txt K mg cA):jT P w K mg base (jK P w) 8 "flowed" ["row", "who", "at"] Xp:=by
 have uz:=So (P:=P) (w:=w) (base:=base) T
 have c5:=xA (P:=P) (w:=w) (base:=base) T
 have oR:=QW (P:=P) (w:=w) (base:=base) T
 have eR:=DP (P:=P) (w:=w) (base:=base) T
 have gY:=EL (P:=P) (w:=w) (base:=base) T
 have l5:=Xo (P:=P) (w:=w) (base:=base) T
 refine T.uX.okN (k:=7) iZ (fun vs H Q E h=>?_) (fun f e6 A outer s H vs Q E hr h=>?_)
 ·obtain ⟨n,M,a,c,l,ps,qs,who,t,rfl,_⟩:=h
  rfl
 ·obtain ⟨n,M,a,c,l,ps,qs,who,t,rfl,R0,g,t0,t1,k⟩:=h
  refine ⟨_,(c7 (eu (i:=3) iZ.nd rfl (su bU)) (c7 (uv PassesOwn.never rfl (nK K rfl (dM uz (hr.mono (by decide)) rfl aU (aS (pv 0) bU))) (qi (n:=3) K rfl rfl (iT (gu (i:=4) iZ.nd rfl (by first|left;rfl|right;rfl)) (iT (gu (i:=5) iZ.nd rfl (by first|left;rfl|right;rfl)) (iT (gu (i:=6) iZ.nd rfl (by first|left;rfl|right;rfl)) qh)))) (fL (gy (qM (dM c5 (hr.mono (by decide)) rfl aU (aS (pv 4) (aS (lI (aS (pv 2) (aS bO bU))) bU)))) (c7 (eu (i:=7) iZ.nd rfl (dM eR (hr.mono (by decide)) rfl aU (aS (dM oR (hr.mono (by decide)) rfl aU (aS (pv 5) (aS (lI (aS (pv 2) (aS bO bU))) bU))) (aS (pv 4) bU)))) (fL (xz (kH bX PySem.F.slot_list_extend PySem.F.type_list_extend Wq (pv 3) (aS (iK ["place", "rate"] [("who", 1),("row", 0),("time", 7)] rfl (by with_unfolding_all rfl) (by decide +kernel) rfl (by decide +kernel) (by exact ⟨rfl,⟨rfl,⟨rfl,aN⟩⟩⟩) (by with_unfolding_all rfl) ⟨⟨rfl,rfl,rfl⟩,⟨⟨rfl,rfl,rfl⟩,⟨⟨rfl,rfl,rfl⟩,aN⟩⟩⟩ (nK K rfl (pv 6)) (fun _ _ _=>(qi (n:=2) K rfl rfl (iT (gu (i:=0) (show (["place", "rate", "who", "row", "time"]:List Str).Nodup from by decide +kernel) rfl (by first|left;rfl|right;rfl)) (iT (gu (i:=1) (show (["place", "rate", "who", "row", "time"]:List Str).Nodup from by decide +kernel) rfl (by first|left;rfl|right;rfl)) qh)))) (fun _ _ _=>(Cf (tZ mJ (bg (fh K rfl) (bg (mU K rfl) (pv 3) (pv 0) (fun _ _=>rfl)) bO (fun _ _=>rfl)) (pv 2) (sr _)))) (fun _ _ _=>(dM gY (hr.mono (by decide)) rfl aU (aS (pv 1) (aS (pv 4) bU))))) bU))))) pR))) (fL (jy (dM l5 (hr.mono (by decide)) rfl aU (aS (pv 3) bU)))))),?_⟩
  show fU _ _ _ [some (.ref l),some (.int who),some (.int t),none,none,none,none,none] H
  obtain ⟨D,ok⟩:=Sw.mw g.F g.ln g.pc g.pw
  have RR:=g.runs
  have n6:=g.F.n1
  have ln:=g.ln
  have NB:(aX qs (Sw.Ti.nil.tags qs)).length=qs.length:=A8 Sw.Ti.dP
  have fz:=fun x hx=>RR.Mj ok t0 t1 (N:=2*n+1) (x:=x) hx
  have fw:=RR.Fz ok (Sw.fc qs) who t (2*n+1)
  have fl:=Sw.kR (fs:=aX qs (Sw.Ti.nil.tags qs)) (n:=2*n+1) (mo:=0) (ma:=0)
  have big:121*62+100<sizeLine:=by decide
  rw [NB] at fz
  rw [<- Sw.rf] at k
  have zt:Sw.cL 200 (t:Rat):=(Sw.cL.int (Sw.Sz.j5 (by omega) (by omega))).mono (by decide)
  refine di fun R hR=>?_
  walk_at "rd"
  intro so K2
  refine hR _ _ ?_
  clear hR
  have n0:=cZ (o:=.lst []) K2
  have CV:aQ H so (.lst []) so=some (.lst []):=cO
  generalize aQ H so (.lst [])=H0 at n0 CV ⊢
  refine di fun R hR=>?_
  refine ur fun Z hZ=>?_
  walk_at "rd"
  refine ⟨n,M,a,c,l,ps,qs,rfl,R0.same n0,g.F,g.ln,g.pc,g.pw,fun sl sp H1 s1 yt SL PD=>?_⟩
  generalize Sw.cE (aX qs (Sw.Ti.nil.tags qs)) (2*n+1) 0 0=xs at k fz fw fl SL
  clear RR ok
  have xl:=Paired.length SL.r
  have Au:=s1 _ _ CV
  have R1:=(R0.same n0).same s1
  have s1:=n0.trans s1
  have UR:l≠so:=gX R0.hl K2
  refine ⟨sl,rfl,⟨_,.of SL.hl⟩,hZ _ _ ?_⟩
  have UX:sl≠so:=(gX CV yt).symm
  obtain ⟨p7,pp,_,pe⟩:=PD
  refine z9 (K:=K) (a:=sl) (xs:=sp.map V.ref) (fun i σ H'=>∃ v4 v5 v6 v7 es,σ = [some (.ref l),some (.int who),some (.int t),some (.ref so),v4,v5,v6,v7]/\(∀ b o,b≠so->H1 b=some o->H' b=some o)/\iM fq H' so es (Sw.uJ (Sw.fc qs) who (t:Rat) (xs.take i))/\es.length<=60*i) ⟨none,none,none,none,[],rfl,fun _ _ _ e=>e,⟨Au,.nil⟩,bR _⟩ (fun i σ H' _ ⟨_,_,_,_,_,_,kp,_⟩=>.of (kp _ _ UX SL.hl)) ?_ ?_
  ·rintro i y σ H2 hy ⟨v4,v5,v6,v7,es,rfl,kp,L,le⟩
   obtain ⟨p,Er,rfl⟩:∃ p,sp[i]? = some p/\V.ref p=y:=by simpa using hy
   obtain ⟨x,hx,⟨pf,pt,pl,ss,g1,g2,g3,g4,g5⟩,nl⟩:=wV SL.r Er
   have hi:i<sp.length:=(aa.mp Er).1
   obtain ⟨z1,z2,z3,lx,zp⟩:=fz x (aq hx)
   have el:=Paired.length g5
   have tk:∀ b zs,H1 b=some (.tup zs)->H2 b=some (.tup zs):=fun b zs e=>kp _ _ (b7 e Au (by intro z; cases z)) e
   have Di:pl≠so:=by
    obtain ⟨LF,pY,OH,OM,e⟩:=wV pp Er
    rw [g1] at e
    cases e
    exact (gX CV (pe pl (aq pY)).1).symm
   have ex:Sw.uJ (Sw.fc qs) who (t:Rat) (xs.take (i+1))=Sw.uJ (Sw.fc qs) who (t:Rat) (xs.take i)++(if x.1<(t:Rat) then (x.2.2.filter fun p=>decide (Sw.fc qs p.1=who)).map fun p=>p.2*(min x.2.1 (t:Rat)-x.1) else []):=by
    rw [aV hx,Sw.qZ]
    congr 1
    exact bx _
   refine ⟨p,_,rfl,.of (tk _ _ g1),rfl,_,_,rfl,_,_,rfl,_,_,rfl,rfl,?_⟩
   show u6 _ _ _ _ [some (.ref l),some (.int who),some (.int t),some (.ref so),some (.ref pf),some (.ref pt),some (.ref pl),v7] H2
   refine Qn fun D' hN hQ=>?_
   walk_at "rd"
   intro w1 f1
   have m1:=cZ (o:=.tup [.int t,.int 1]) f1
   have h1:aQ H2 w1 (.tup [.int t,.int 1]) w1=some (.tup (fq (t:Rat))):=sy
   have L1:iM fq (aQ H2 w1 (.tup [.int t,.int 1])) so es _:=⟨m1 _ _ L.hl,Cc L.r m1⟩
   have Iw:∀ b o,b≠so->H1 b=some o->aQ H2 w1 (.tup [.int t,.int 1]) b=some o:=fun b o n e=>m1 _ _ (kp b o n e)
   have Hg:∀ b zs,H1 b=some (.tup zs)->aQ H2 w1 (.tup [.int t,.int 1]) b=some (.tup zs):=fun b zs e=>m1 _ _ (tk _ _ e)
   generalize aQ H2 w1 (.tup [.int t,.int 1])=H3 at h1 L1 Iw Hg ⊢
   clear m1 f1 L kp tk
   refine ⟨pf,w1,x.1,(t:Rat),rfl,Hg _ _ g2,h1,z1.mono (by decide),zt.mono (by decide),?_⟩
   walk_at "rd"
   refine ir (fun c1=>?_) fun c1=>?_
   ·rw [if_pos c1] at ex
    refine di fun R hR=>?_
    walk_at "rd"
    intro w2 f2
    have m2:=cZ (o:=.tup [.int t,.int 1]) f2
    refine ⟨pt,w2,x.2.1,(t:Rat),rfl,m2 _ _ (Hg _ _ g3),sy,z2.mono (by decide),zt.mono (by decide),fun w3 f3=>?_⟩
    have m3:=cZ (o:=.tup (fq (min x.2.1 (t:Rat)))) f3
    have zm:Sw.cL 2400 (min x.2.1 (t:Rat)):=by
     rw [dO]; split
     ·exact z2.mono (by decide)
     ·exact zt.mono (by decide)
    refine ⟨w3,pf,min x.2.1 (t:Rat),x.1,2400,rfl,cO,m3 _ _ (m2 _ _ (Hg _ _ g2)),by decide,zm,z1.mono (by decide),fun w4 f4=>hR _ _ ?_⟩
    clear hR
    have m4:=cZ (o:=.tup (fq (min x.2.1 (t:Rat)-x.1))) f4
    have mm:=(m2.trans m3).trans m4
    have h4:aQ (aQ (aQ H3 w2 (.tup [.int t,.int 1])) w3 (.tup (fq (min x.2.1 (t:Rat))))) w4 (.tup (fq (min x.2.1 (t:Rat)-x.1))) w4=some (.tup (fq (min x.2.1 (t:Rat)-x.1))):=cO
    generalize aQ (aQ (aQ H3 w2 (.tup [.int t,.int 1])) w3 (.tup (fq (min x.2.1 (t:Rat))))) w4 (.tup (fq (min x.2.1 (t:Rat)-x.1)))=H4 at mm h4 ⊢
    have L4:iM fq H4 so es _:=⟨mm _ _ L1.hl,Cc L1.r mm⟩
    have Go:∀ b o,b≠so->H1 b=some o->H4 b=some o:=fun b o n e=>mm _ _ (Iw b o n e)
    clear mm m2 m3 m4 f2 f3 f4 L1 Iw Hg
    generalize min x.2.1 (t:Rat)-x.1=tm at z3 ex h4
    walk_at "rd"
    refine ⟨Ba L4.hl,?_⟩
    refine ⟨⟨_,.of (Go _ _ Di g4)⟩,fun Dl iH=>?_⟩
    show jz _ _ _ _ Dl [none,none,some (.int who),some (.ref l),some (.ref w4)] _ _
    refine uq (xs:=ss.map V.ref) (fun j τ H'=>∃ v0 v1 rs,τ = [v0,v1,some (.int who),some (.ref l),some (.ref w4)]/\bT H4 H'/\iM fq H' Dl rs (((x.2.2.take j).filter fun p=>decide (Sw.fc qs p.1=who)).map fun p=>p.2*tm)/\rs.length<=j) ⟨none,none,[],rfl,cZ iH,⟨cO,.nil⟩,av _⟩ (fun j τ H' _ ⟨_,_,_,_,sm,_⟩=>.of (sm _ _ (Go _ _ Di g4))) ?_ ?_
    ·rintro j y' τ H5 K9 ⟨v0,v1,rs,rfl,sm,Lr,lr⟩
     obtain ⟨e,he,rfl⟩:∃ w,ss[j]? = some w/\V.ref w=y':=by simpa using K9
     obtain ⟨z,hz,pr,e1,e2⟩:=wV g5 he
     have hj:j<ss.length:=(aa.mp he).1
     obtain ⟨lz,zz⟩:=zp z (aq hz)
     have Mh:∀ b zs,H1 b=some (.tup zs)->H5 b=some (.tup zs):=fun b zs e=>sm _ _ (Go _ _ (b7 e Au (by intro z; cases z)) e)
     have R5:Row H5 l ps qs:=⟨sm _ _ (Go _ _ UR R1.hl),R1.r.keep Mh⟩
     obtain ⟨pq,q,i1,i2,i3⟩:=R5.item (i:=(z.1:Int)) (by omega) (by omega)
     have i2:qs[z.1]? = some q:=by simpa using i2
     have ew:Sw.fc qs z.1=q.2.1:=Sw.gq i2
     have et:((x.2.2.take (j+1)).filter fun p=>decide (Sw.fc qs p.1=who)).map (fun p=>p.2*tm)=((x.2.2.take j).filter fun p=>decide (Sw.fc qs p.1=who)).map (fun p=>p.2*tm)++(if q.2.1=who then [z.2*tm] else []):=by
      rw [aV hz,cG,ay]
      congr 1
      by_cases d:q.2.1=who
      ·rw [if_pos d,jX (by rw [decide_eq_true_eq,ew]; exact d)]; rfl
      ·rw [if_neg d,ie (by rw [decide_eq_true_eq,ew]; exact d)]; rfl
     walk_at "rd"
     refine ⟨_,.of (Mh _ _ e1),rfl,_,_,rfl,_,_,rfl,rfl,?_⟩
     walk_at "rd"
     refine qP (.of R5.hl) i1 (fj (.of i3) rfl ⟨rfl,?_⟩)
     by_cases d:q.2.1=who
     ·rw [if_pos (show V.int q.2.1=V.int who by rw [d])]
      rw [if_pos d] at et
      walk_at "rd"
      refine ⟨pr,w4,z.2,tm,2400,rfl,Mh _ _ e2,sm _ _ h4,by decide,zz.mono (by decide),z3.mono (by decide),fun w5 f5=>?_⟩
      have m5:=cZ (o:=.tup (fq (z.2*tm))) f5
      have L5:iM fq (aQ H5 w5 (.tup (fq (z.2*tm)))) Dl rs _:=⟨m5 _ _ Lr.hl,Cc Lr.r m5⟩
      have kt:∀ b zs,aQ H5 w5 (.tup (fq (z.2*tm))) b=some (.tup zs)->aQ (aQ H5 w5 (.tup (fq (z.2*tm)))) Dl (.lst (rs.map V.ref++[.ref w5])) b=some (.tup zs):=fun b zs e=>MN L5.hl e
      refine ⟨_,L5.hl,cX (by rw [ae]; omega),fun b o e=>?_,rs++[w5],⟨by rw [cO,ay]; rfl,?_⟩,by rw [aO]; simp only [aE,cy]; omega⟩
      ·rw [c8 (gX e iH)]; exact m5 _ _ (sm _ _ e)
      ·rw [et]
       exact tY (kt _ _ cO) (qf L5.r kt)
     ·rw [if_neg (fun y=>d (V.int.inj y))]
      rw [if_neg d,bx] at et
      exact ⟨sm,rs,⟨Lr.hl,by rw [et]; exact Lr.r⟩,by omega⟩
    ·rintro τ H5 ⟨v0,v1,rs,rfl,sm,Lr,lr⟩
     rw [aK (by rw [ae]; omega)] at Lr
     rw [ae] at lr
     have L5:iM fq H5 so es _:=⟨sm _ _ L4.hl,Cc L4.r sm⟩
     have kt:∀ b zs,H5 b=some (.tup zs)->aQ H5 so (.lst (es.map V.ref++rs.map V.ref)) b=some (.tup zs):=fun b zs e=>MN L5.hl e
     refine ⟨so,Dl,_,_,rfl,rfl,L5.hl,Lr.hl,by rw [ae,ae]; omega,hN _ _ ⟨_,_,_,_,es++rs,rfl,fun b o n e=>?_,⟨by rw [cO,ay],?_⟩,?_⟩⟩
     ·rw [c8 n]; exact sm _ _ (Go b o n e)
     ·rw [ex]
      exact Qd (qf Lr.r kt) (qf L5.r kt)
     ·rw [aO]; omega
   ·rw [if_neg c1,bx] at ex
    exact hN _ _ ⟨_,_,_,_,es,rfl,Iw,by rw [ex]; exact L1,by omega⟩
  ·rintro σ H2 ⟨v4,v5,v6,v7,es,rfl,kp,L,le⟩
   rw [ae] at le
   rw [aK (by rw [ae]; omega)] at L
   refine hR _ _ ?_
   clear hR
   walk_at "rd"
   refine ⟨so,es,_,rfl,L,fun j=>(fw.2 j).mono (by decide),fun q hq=>((fw.1 q hq).2).mono (by decide),fun r H3 s3 Ay=>?_⟩
   refine k r H3 (fun b o e=>s3 _ _ (kp _ _ (gX e K2) (s1 _ _ e))) Ay
theorem Mm (T:Txt K mg cA):jT P w K mg base (jK P w) 1 "_law_cell_at" ["_law_script", "_law_k"] (R3 K):=by
 refine T.nk.okN (k:=0) VB (fun vs H Q E h=>?_) (fun f e6 A outer s H vs Q E hr h=>?_)
 ·obtain ⟨a,ns,i,rfl,_⟩:=h
  rfl
 ·obtain ⟨a,ns,i,rfl,hS,hi,k⟩:=h
  refine ⟨_,(c7 (gy (tZ yu (pv 1) (vR (IZ K rfl) rfl T.rF boot_len (aS (pv 0) bU)) (sr _)) (fL (jy (bg (mU K rfl) (pv 0) (pv 1) (fun _ _=>rfl)))) pR) (fL (jy bO))),?_⟩
  refine ⟨_,rfl,_,rfl,a,_,rfl,.inl hS,_,_,rfl,rfl,_,rfl,?_⟩
  refine ir (fun h=>?_) (fun h=>?_)
  ·have h':i<(ns.map V.int).length:=of_decide_eq_true h
   exact ⟨_,rfl,_,rfl,a,_,_,_,rfl,rfl,hS,V8 hi (by simpa using h'),k⟩
  ·have h':¬ i<(ns.map V.int).length:=fun z=>h (decide_eq_true z)
   show Q (.int 0) H
   rw [VT hi (by simpa using h')] at k
   exact k
theorem Yn (xs:List V) (lo hi:Nat):(m8 xs (some (lo:Int)) (some (hi:Int))).length<=hi-lo:=by
 unfold m8
 rw [HT.vH,HT.vH,bZ]
 omega
theorem BV {K:ai} {H:Hp} {t:Addr} {i:Int} {Q:VK} (xs:List Int) (h0:0<=i) (h1:i<xs.length) (k:∀ z:Int,xs[i.toNat]? = some z->Q (.int z) (aQ H t (.lst (xs.map V.int)))):yz K (.ref t) (.int i) (aQ H t (.lst (xs.map V.int))) Q:=by
 have:=Aa (xs:=xs.map V.int) (j:=i.toNat) (v:=V.int (xs[i.toNat]'(by omega))) (by simp)
 rw [mY h0] at this
 exact qP (.of cO) this (k _ (au _))
def AG (c i:Int):Int:=c % 2147483647+7919*i+1
def AH (c i:Int):Int:=(AG c i*AG c i+48271*AG c i+11) % 2147483647
def Df (c i:Int):Int:=(AH c i*AH c i+69621*AH c i+i) % 2147483647
def yn (c:Int):Int:=if c / 128 % 2 = 0 then 50 else 1000000000
def Gi (b x:Int):Nat->Int
 | 0=>x
 | n+1=>Gi b x n / b
def yo (c i:Int):Int:=if c / 64 % 2 = 1/\0<Gi (yn c) (c / 256) (i-1).toNat then Gi (yn c) (c / 256) (i-1).toNat % yn c else Df c i
def Zl:Sp:=fun vs H Q _=>∃ c i,vs = [.int c,.int i]/\0<=i/\i<1000/\∀ m H',m=yo c i->bT H H'->0<=m->m<2147483647->Q (.int m) H'
theorem PX (T:Txt K mg cA):jT P w K mg base (jK P w) 1 "_law_mix" ["_law_cell", "_law_k"] Zl:=by
 refine T.rK.okN (k:=0) gi (fun vs H Q E h=>?_) (fun f e6 A outer s H vs Q E hr h=>?_)
 ·obtain ⟨c,i,rfl,_⟩:=h
  rfl
 ·obtain ⟨c,i,rfl,h0,h1,k⟩:=h
  refine ⟨_,(c7 (gy (tZ mJ (bF nL (bF u8 (pv 0) bO) bO) bO (sr _)) (c7 (eu (i:=2) gi.nd rfl (bg (mU K rfl) (su (aS bO (aS (bF Ci bO bO) bU))) (bF nL (bF u8 (pv 0) bO) bO) (fun _ _=>rfl))) (c7 (eu (i:=3) gi.nd rfl (bF u8 (pv 0) bO)) (c7 (uv PassesOwn.never rfl (PZ rfl T.pF (aS (bF Ac (pv 1) bO) bU)) (gu (i:=4) gi.nd rfl (by first|left;rfl|right;rfl)) (fL (eu (i:=3) gi.nd rfl (bF u8 (pv 3) (pv 2))))) (fL (gy (tZ BQ (pv 3) bO (sr _)) (fL (jy (bF nL (pv 3) (pv 2)))) pR))))) pR) (c7 (eu (i:=5) gi.nd rfl (bF qO (bF qO (bF nL (pv 0) bO) (bF pS bO (pv 1))) bO)) (c7 (eu (i:=5) gi.nd rfl (bF nL (bF qO (bF qO (bF pS (pv 5) (pv 5)) (bF pS bO (pv 5))) bO) bO)) (fL (jy (bF nL (bF qO (bF qO (bF pS (pv 5) (pv 5)) (bF pS bO (pv 5))) (pv 1)) bO)))))),?_⟩
  show fU _ _ _ [some (.int c),some (.int i),none,none,none,none] H
  refine di fun R hR=>?_
  have yX:∀ v2 v3 v4 H1,yo c i=Df c i->bT H H1->R [some (.int c),some (.int i),v2,v3,v4,none] H1:=fun v2 v3 v4 H1 em sm=>by
   refine hR _ _ ?_
   refine di fun R hR=>?_
   walk_at "rd"
   refine ⟨⟨Sw.Sz.lit (by decide),(Sw.Sz.j5 (by omega) (by omega)).mono (by decide)⟩,hR _ _ ?_⟩
   have e1:=cD c (show (2147483647:Int)≠0 by decide)
   have e2:=b4 c (show (0:Int)<2147483647 by decide)
   have z1:Sw.Sz 70 (c % 2147483647+7919*i+1):=Sw.Sz.j5 (by omega) (by omega)
   generalize hx:c % 2147483647+7919*i+1=x at z1 ⊢
   refine di fun R hR=>?_
   walk_at "rd"
   refine ⟨⟨z1.mono (by decide),z1.mono (by decide)⟩,⟨Sw.Sz.lit (by decide),z1.mono (by decide)⟩,hR _ _ ?_⟩
   generalize hy:(x*x+48271*x+11) % 2147483647=y
   have e3:0<=y:=by rw [<- hy]; exact cD _ (by decide)
   have e4:y<2147483647:=by rw [<- hy]; exact b4 _ (by decide)
   have z2:Sw.Sz 70 y:=Sw.Sz.j5 (by omega) (by omega)
   walk_at "rd"
   exact ⟨⟨z2.mono (by decide),z2.mono (by decide)⟩,⟨Sw.Sz.lit (by decide),z2.mono (by decide)⟩,k _ _ (by rw [em]; unfold Df AH AG; rw [hx,hy]) sm (cD _ (by decide)) (b4 _ (by decide))⟩
  walk_at "rd"
  refine ir (fun hc=>?_) fun hc=>yX _ _ _ _ (by unfold yo; rw [if_neg fun z=>hc z.1]) (bT.refl _)
  refine di fun R hR=>?_
  walk_at "rd"
  intro t ht
  refine BV [50,1000000000] (by omega) (by show c / 128 % 2<2; omega) fun m hm=>hR _ _ ?_
  have mb:m=yn c:=by
   unfold yn
   rcases (show c / 128 % 2 = 0\/c / 128 % 2 = 1 by omega) with z | z
   ·rw [z] at hm
    rw [if_pos z]
    have:some (50:Int)=some m:=hm
    cases this; rfl
   ·rw [z] at hm
    rw [if_neg (by omega)]
    have:some (1000000000:Int)=some m:=hm
    cases this; rfl
  have hm:=aq hm
  have m0:0<m/\m<=1000000000:=by
   simp only [aM,aR,or_false] at hm
   omega
  have sm:=cZ (o:=.lst (([50,1000000000]:List Int).map V.int)) ht
  generalize aQ H t (.lst (([50,1000000000]:List Int).map V.int))=H1 at sm ⊢
  refine di fun R hR=>?_
  walk_at "rd"
  refine hR _ _ ?_
  refine di fun R hR=>?_
  refine ur fun Z hZ=>?_
  walk_at "rd"
  refine ⟨by omega,by omega,hZ _ _ ?_⟩
  refine P0 (fun j σ H'=>H'=H1/\∃ v,σ = [some (.int c),some (.int i),some (.int m),some (.int (Gi m (c / 256) j)),v,none]) ⟨rfl,_,rfl⟩ ?_ ?_
  ·rintro j σ H2 hj ⟨rfl,v,rfl⟩
   walk_at "rd"
   exact ⟨⟨m0.1,(Sw.Sz.j5 (by omega) (by omega)).mono (by decide)⟩,rfl⟩
  ·rintro σ H2 ⟨rfl,v,rfl⟩
   refine hR _ _ ?_
   refine t7 fun R hR=>?_
   walk_at "rd"
   refine ir (fun h=>⟨m0.1,k _ _ (by unfold yo; rw [<- mb,if_pos ⟨hc,h⟩]) sm (cD _ (by omega)) ?_⟩) fun h=>hR _ _ (yX _ _ _ _ (by unfold yo; rw [<- mb,if_neg fun z=>h z.2]) sm)
   have:=b4 (Gi m (c / 256) (i-1).toNat) m0.1
   omega
def LX:Sp:=fun vs H Q _=>∃ a b,vs = [.int a,.int b]/\0<=b/\Q (.int (Sw.dv a b)) H
theorem VD (T:Txt K mg cA):jT P w K mg base (jK P w) 1 "_law_divisor" ["_law_one", "_law_other"] LX:=by
 refine T.nq.okN (k:=0) jS (fun vs H Q E h=>?_) (fun f e6 A outer s H vs Q E hr h=>?_)
 ·obtain ⟨a,b,rfl,_⟩:=h
  rfl
 ·obtain ⟨a,b,rfl,h2,k⟩:=h
  refine ⟨_,(c7 (Hv PassesOwn.never (tZ BU (pv 1) bO (sr _)) (fL (YB (i:=0) (j:=1) rfl jS.nd rfl rfl (by decide) rfl rfl (aS (pv 1) (aS (bF nL (pv 0) (pv 1)) bU)) (by with_unfolding_all rfl)))) (fL (jy (vR Mw rfl T.uQ boot_abs (aS (pv 0) bU))))),?_⟩
  refine Qa (fun σ H'=>H'=H/\∃ g s,σ = [some (.int g),some (.int s)]/\0<=s/\Sw.dv g s=Sw.dv a b)
   (fun σ _=>match σ with | [_,some (.int s)]=>s.toNat | _=>0) ⟨rfl,_,_,rfl,h2,rfl⟩ ?_
  rintro σ H' ⟨rfl,g,s,rfl,hs,e⟩
  refine ⟨!decide (V.int s=V.int 0),fun Q hQ=>⟨_,rfl,rfl,_,rfl,hQ⟩,fun hb=>?_,fun hb=>?_⟩
  ·have wF:s≠0:=by intro z; subst z; simp at hb
   have qA:0<s:=by omega
   refine ⟨_,rfl,_,rfl,_,rfl,_,_,rfl,rfl,qA,_,_,rfl,?_⟩
   refine ⟨⟨rfl,s,g % s,rfl,cD g wF,by rw [Sw.vo]; exact e⟩,?_⟩
   show (g % s).toNat<s.toNat
   have:=b4 g qA
   have:=cD g wF
   omega
  ·have wF:s = 0:=by
    have:V.int s=V.int 0:=by simpa using hb
    exact V.int.inj this
   subst wF
   have e':(if g<0 then -g else g)=Sw.dv a b:=by
    rw [<- e]
    split
    ·rw [<- Sw.qX,Sw.qY _ (by omega)]
    ·rw [Sw.qY _ (by omega)]
   walk_at "rd"
   rw [e']
   exact k
def Yo (K:ai):Sp:=fun vs H Q _=>∃ (a:Addr) (ns:List Int) (way:Int),vs = [.ref a,.int way]/\gR K H a (ns.map V.int)/\ns.length<=63/\0<=way/\way<3/\∀ H' l ps ss L,bT H H'->H l=none->qU H' l ps ss->Sw.Plan ss L->1<=ss.length->ss.length<=4->(∀ s∈ss,(1<=s.1/\s.1<=1000)/\(1<=s.2.1/\s.2.1<=1000000))->Q (.ref l) H'
theorem VE (T:Txt K mg cA):jT P w K mg base (jK P w) 2 "_law_senders" ["_law_script", "_law_way"] (Yo K):=by
 have e7:=PX (P:=P) (w:=w) (base:=base) T
 have fu:=Mm (P:=P) (w:=w) (base:=base) T
 have oM:=VD (P:=P) (w:=w) (base:=base) T
 refine T.nv.okN (k:=1) cf (fun vs H Q E h=>?_) (fun f e6 A outer s H vs Q E hr h=>?_)
 ·obtain ⟨a,ns,way,rfl,_⟩:=h
  rfl
 ·obtain ⟨a,ns,way,rfl,hS,gI,w0,w1,k⟩:=h
  refine ⟨_,(c7 (eu (i:=2) cf.nd rfl (dM fu (hr.mono (by decide)) rfl aU (aS (pv 0) (aS bO bU)))) (c7 (eu (i:=3) cf.nd rfl (bF qO bO (bF nL (dM e7 (hr.mono (by decide)) rfl aU (aS (pv 2) (aS bO bU))) (bg (mU K rfl) (su (aS bO (aS bO (aS bO bU)))) (pv 1) (fun _ _=>rfl))))) (c7 (eu (i:=4) cf.nd rfl (bF Ac (pv 3) bO)) (c7 (eu (i:=5) cf.nd rfl (su bU)) (c7 (uv PassesOwn.never rfl (Wl rfl T.pF (aS bO (aS (bF qO bO (bF nL (bF u8 (pv 2) bO) bO)) bU))) (gu (i:=6) cf.nd rfl (by first|left;rfl|right;rfl)) (c7 (eu (i:=7) cf.nd rfl (dM fu (hr.mono (by decide)) rfl aU (aS (pv 0) (aS (pv 6) bU)))) (c7 (eu (i:=8) cf.nd rfl (bF nL (dM e7 (hr.mono (by decide)) rfl aU (aS (pv 7) (aS bO bU))) (bg (mU K rfl) (su (aS bO (aS (bF qO bO (bF u8 (pv 4) bO)) (aS (bF qO bO (bF u8 (pv 4) bO)) (aS (bF qO bO (pv 4)) bU))))) (bF nL (pv 7) bO) (fun _ _=>rfl)))) (c7 (eu (i:=4) cf.nd rfl (bF Ac (pv 4) (pv 8))) (c7 (gy (tZ mJ (bF nL (bF u8 (pv 2) bO) bO) bO (sr _)) (c7 (eu (i:=3) cf.nd rfl (bF qO bO (bF nL (dM e7 (hr.mono (by decide)) rfl aU (aS (pv 7) (aS bO bU))) (bg (mU K rfl) (su (aS bO (aS bO (aS bO bU)))) (pv 1) (fun _ _=>rfl))))) (fL (eu (i:=8) cf.nd rfl (bF nL (dM e7 (hr.mono (by decide)) rfl aU (aS (pv 7) (aS bO bU))) (bF qO bO (bF u8 (bF Ac (pv 3) bO) bO)))))) pR) (c7 (eu (i:=9) cf.nd rfl (bF qO bO (bF nL (dM e7 (hr.mono (by decide)) rfl aU (aS (pv 7) (aS bO bU))) (bg (mU K rfl) (su (aS bO (aS (bF Ci bO bO) (aS (bF Ci bO bO) bU)))) (pv 1) (fun _ _=>rfl))))) (c7 (eu (i:=10) cf.nd rfl (bF qO bO (bF nL (dM e7 (hr.mono (by decide)) rfl aU (aS (pv 7) (aS bO bU))) (bg (mU K rfl) (su (aS bO (aS bO (aS bO bU)))) (pv 1) (fun _ _=>rfl))))) (c7 (eu (i:=11) cf.nd rfl (dM oM (hr.mono (by decide)) rfl aU (aS (pv 8) (aS (pv 3) bU)))) (fL (xz (kH bX b8 b9 wW (pv 5) (aS (lI (aS (pv 10) (aS (lI (aS (pv 9) (aS (lI (aS (bF u8 (pv 8) (pv 11)) (aS (bF u8 (pv 3) (pv 11)) bU))) bU))) bU))) bU)))))))))))) (fL (jy (pv 5)))))))),?_⟩
  show fU _ _ _ [some (.ref a),some (.int way),none,none,none,none,none,none,none,none,none,none] H
  refine di fun R hR=>?_
  walk_at "rd"
  refine IY hS (by decide) (hR _ _ ?_)
  clear hR
  generalize jE ns 0=first
  refine di fun R hR=>?_
  walk_at "rd"
  refine ⟨_,_,rfl,by decide,by decide,fun m0 H0 _ s0 _ _=>?_⟩
  intro q1 f1
  refine mK [12,1000,1000] w0 w1 fun bm hm=>?_
  have b1:0<bm/\bm<=1000:=by
   simp only [aM,aR,or_false] at hm
   omega
  refine ⟨_,rfl,bm,rfl,b1.1,hR _ _ ?_⟩
  clear hR
  have s1:=s0.trans (cZ (o:=.lst (([12,1000,1000]:List Int).map V.int)) f1)
  generalize aQ H0 q1 (.lst (([12,1000,1000]:List Int).map V.int))=H1 at s1 ⊢
  have e0:=cD m0 (show bm≠0 by omega)
  have e1:=b4 m0 b1.1
  generalize TY:1+m0 % bm=b0
  have JZ:1<=b0/\b0<=1000:=by omega
  clear TY e0 e1 hm f1 s0
  refine di fun R hR=>?_
  walk_at "rd"
  refine hR _ _ ?_
  clear hR
  refine di fun R hR=>?_
  walk_at "rd"
  intro l hl
  refine hR _ _ ?_
  clear hR
  have Ii:H l=none:=s1.free hl
  have s2:=cZ (o:=.lst []) hl
  have Ij:aQ H1 l (.lst []) l=some (.lst []):=cO
  have EA:=s1.trans s2
  generalize aQ H1 l (.lst [])=H2 at Ij EA ⊢
  clear s1 s2 hl
  refine di fun R hR=>?_
  refine ur fun Z hZ=>?_
  walk_at "rd"
  have q9:0<=first / 9 % 4/\first / 9 % 4<=3:=by omega
  generalize hq:first / 9 % 4=q at q9
  clear hq
  refine ⟨by omega,by omega,hZ _ _ ?_⟩
  clear hZ
  have ql:(2+q-1).toNat<=4/\1<=(2+q-1).toNat:=by omega
  generalize (2+q-1).toNat=nn at ql
  generalize N6:decide (first / 36 % 3 = 2)=ow
  refine P0 (fun i σ H'=>∃ b left ps ss v6 v7 v8 v9 rW z8,σ = [some (.ref a),some (.int way),some (.int first),some (.int b),some (.int left),some (.ref l),v6,v7,v8,v9,rW,z8]/\bT H H'/\qU H' l ps ss/\ss.length=i/\Sw.wj ow b left ss/\(1<=b/\b<=1000/\0<=left)/\∀ s∈ss,s.2.1<=1000000) ⟨b0,b0-1,[],[],none,none,none,none,none,none,rfl,EA,⟨Ij,.nil⟩,rfl,Sw.wj.nil JZ.1,⟨JZ.1,JZ.2,by omega⟩,fun s h=>absurd h aR⟩ ?_ ?_
  ·rintro i σ H5 hi ⟨b,left,ps,ss,v6,v7,v8,v9,rW,z8,rfl,lQ,SL,ls,sd,⟨HW,J0,l0⟩,J1⟩
   show fU _ _ _ [some (.ref a),some (.int way),some (.int first),some (.int b),some (.int left),some (.ref l),some (.int (1+(i:Int))),v7,v8,v9,rW,z8] H5
   refine t7 fun N hN=>?_
   refine di fun R hR=>?_
   walk_at "rd"
   refine IY (lQ.seq hS) (by omega) (hR _ _ ?_)
   clear hR
   generalize jE ns (1+(i:Int))=c
   refine di fun R hR=>?_
   walk_at "rd"
   refine ⟨_,_,rfl,by decide,by decide,fun m1 H6 _ s6 ZW Lq=>?_⟩
   intro q3 f3
   refine mK [1,1+left / 3,1+left / 2,1+left] (by omega) (by show c % 4<4; omega) fun z hz=>?_
   have z1:0<z/\z<=1+left:=by
    simp only [aM,aR,or_false] at hz
    omega
   refine ⟨_,rfl,z,rfl,z1.1,hR _ _ ?_⟩
   clear hR
   have n5:=s6.trans (cZ (o:=.lst (([1,1+left / 3,1+left / 2,1+left]:List Int).map V.int)) f3)
   have SL:=SL.same n5
   have lQ:=lQ.trans n5
   generalize aQ H6 q3 (.lst (([1,1+left / 3,1+left / 2,1+left]:List Int).map V.int))=H7 at SL lQ ⊢
   clear n5 f3 hz s6
   have t0:=cD m1 (show z≠0 by omega)
   have t1:=b4 m1 z1.1
   generalize m1 % z=top at t0 t1 ⊢
   refine di fun R hR=>?_
   walk_at "rd"
   refine hR _ _ ?_
   clear hR
   refine di fun R hR=>?_
   have rest:∀ (b' t':Int) (H6:Hp),1<=b'->b'<=1000->(∀ sh bu:Int,1<=sh/\sh<=1000->1<=bu/\bu<=1000000000000->Sw.wj ow b' (left-top) (ss++[(sh,bu,(t':Rat) / (b':Rat))]))->bT H H6->qU H6 l ps ss->R [some (.ref a),some (.int way),some (.int first),some (.int b'),some (.int (left-top)),some (.ref l),some (.int (1+(i:Int))),some (.int c),some (.int t'),v9,rW,z8] H6:=fun b' t' H6 c1 c2 Va z7 SL=>hR _ _ (by
    clear hR
    refine di fun R hR=>?_
    walk_at "rd"
    refine ⟨_,_,rfl,by decide,by decide,fun m2 H7 _ s7 Oj Ol=>?_⟩
    intro q4 f4
    refine mK [20,100000,1000000] w0 w1 fun z hz=>?_
    have z1:0<z/\z<=1000000:=by
     simp only [aM,aR,or_false] at hz
     omega
    refine ⟨_,rfl,z,rfl,z1.1,hR _ _ ?_⟩
    clear hR
    have n5:=s7.trans (cZ (o:=.lst (([20,100000,1000000]:List Int).map V.int)) f4)
    have SL:=SL.same n5
    have z7:=z7.trans n5
    generalize aQ H7 q4 (.lst (([20,100000,1000000]:List Int).map V.int))=H8 at SL z7 ⊢
    clear n5 f4 hz s7
    have u0:=cD m2 (show z≠0 by omega)
    have u1:=b4 m2 z1.1
    generalize T4:1+m2 % z=bu
    have Np:1<=bu/\bu<=1000000:=by omega
    clear T4 u0 u1
    refine di fun R hR=>?_
    walk_at "rd"
    refine ⟨_,_,rfl,by decide,by decide,fun m3 H9 _ s9 UK UL=>?_⟩
    intro q5 f5
    refine mK [9,50,1000] w0 w1 fun z hz=>?_
    have z1:0<z/\z<=1000:=by
     simp only [aM,aR,or_false] at hz
     omega
    refine ⟨_,rfl,z,rfl,z1.1,hR _ _ ?_⟩
    clear hR
    have n5:=s9.trans (cZ (o:=.lst (([9,50,1000]:List Int).map V.int)) f5)
    have SL:=SL.same n5
    have z7:=z7.trans n5
    generalize aQ H9 q5 (.lst (([9,50,1000]:List Int).map V.int))=HA at SL z7 ⊢
    clear n5 f5 hz s9
    have u0:=cD m3 (show z≠0 by omega)
    have u1:=b4 m3 z1.1
    generalize Gd:1+m3 % z=sh
    have OS:1<=sh/\sh<=1000:=by omega
    clear Gd u0 u1
    refine di fun R hR=>?_
    walk_at "rd"
    refine ⟨t',b',rfl,by omega,hR _ _ ?_⟩
    clear hR
    walk_at "rd"
    have dp:0<Sw.dv t' b':=by
     have:=Sw.sZ t' b'
     rcases Ag this with z | z
     ·exact z
     ·have:=Sw.xX z.symm
      omega
    have dl:Sw.dv t' b'<=b':=Int.le_of_dvd (by omega) (Sw.nc t' b')
    have cd:∀ x:Int,xD x (Sw.dv t' b'):=fun _=>⟨dp,(Sw.Sz.j5 (by omega) (by omega)).mono (by decide)⟩
    refine ⟨Ba SL.hl,cd _,cd _,?_⟩
    rw [YN (show 0<b' by omega)]
    intro r Bv pl Nz pt Kh
    have n7:=(cZ (o:=.tup [.int bu,.ref r]) Nz).trans (cZ (o:=.tup [.int sh,.ref pl]) Kh)
    have n6:=(cZ (o:=.tup (fq ((t':Rat) / (b':Rat)))) Bv).trans n7
    have oB:=cO (H:=aQ (aQ HA r (.tup (fq ((t':Rat) / (b':Rat))))) pl (.tup [.int bu,.ref r])) (a:=pt) (o:=.tup [.int sh,.ref pl])
    have F8:=cZ (o:=.tup [.int sh,.ref pl]) Kh _ _ (cO (H:=aQ HA r (.tup (fq ((t':Rat) / (b':Rat))))) (a:=pl) (o:=.tup [.int bu,.ref r]))
    have oE:=n7 _ _ (cO (H:=HA) (a:=r) (o:=.tup (fq ((t':Rat) / (b':Rat)))))
    have SL:=SL.same n6
    have z7:=z7.trans n6
    generalize aQ (aQ (aQ HA r (.tup (fq ((t':Rat) / (b':Rat))))) pl (.tup [.int bu,.ref r])) pt (.tup [.int sh,.ref pl])=HB at oB F8 oE SL z7 ⊢
    clear n6 n7 Bv Nz Kh
    have psl:=SL.len
    have kt:∀ b xs,HB b=some (.tup xs)->aQ HB l (.lst (ps.map V.ref++[.ref pt])) b=some (.tup xs):=fun b xs e=>by
     rw [c8 (b7 e SL.hl (by intro z; cases z))]; exact e
    refine Ck SL.hl (by rw [ae]; omega) (hN _ _ ⟨b',left-top,ps++[pt],ss++[(sh,bu,(t':Rat) / (b':Rat))],_,_,_,_,_,_,rfl,fun b o e=>?_,⟨?_,zj ⟨pl,r,kt _ _ oB,kt _ _ F8,kt _ _ oE⟩ (Paired.gB SL.r fun _ _ z=>z.keep kt)⟩,by rw [aO,ls]; rfl,Va sh bu OS ⟨Np.1,by omega⟩,⟨c1,c2,by omega⟩,fun s hs=>?_⟩)
    ·rw [c8 (gX e Ii)]; exact z7 _ _ e
    ·rw [cO,ay]; rfl
    ·rcases aY.mp hs with y | y
     ·exact J1 s y
     ·rw [bH.mp y]; exact Np.2)
   walk_at "rd"
   refine ir (fun co=>?_) fun co=>?_
   ·have co:ow=true:=by rw [<- N6]; exact decide_eq_true co
    subst co
    refine di fun R2 FG=>?_
    walk_at "rd"
    refine ⟨_,_,rfl,by decide,by decide,fun m5 H8 _ s8 ZX ZY=>?_⟩
    intro q6 f6
    refine mK [9,96,996] w0 w1 fun z hz=>?_
    have z2:0<z/\z<=996:=by
     simp only [aM,aR,or_false] at hz
     omega
    refine ⟨_,rfl,z,rfl,z2.1,FG _ _ ?_⟩
    clear FG
    have n5:=s8.trans (cZ (o:=.lst (([9,96,996]:List Int).map V.int)) f6)
    have SL:=SL.same n5
    have lQ:=lQ.trans n5
    generalize aQ H8 q6 (.lst (([9,96,996]:List Int).map V.int))=H9 at SL lQ ⊢
    clear n5 f6 hz s8
    have u0:=cD m5 (show z≠0 by omega)
    have u1:=b4 m5 z2.1
    generalize TZ:4+m5 % z=bo
    have Zx:4<=bo/\bo<=999:=by omega
    clear TZ u0 u1
    walk_at "rd"
    refine ⟨_,_,rfl,by decide,by decide,fun m6 HA _ sA ZZ Z0=>?_⟩
    walk_at "rd"
    have v0:=cD m6 (show 1+(bo-1) / 4≠0 by omega)
    have v1:=b4 m6 (show 0<1+(bo-1) / 4 by omega)
    exact ⟨by omega,rest bo (m6 % (1+(bo-1) / 4)) HA (by omega) (by omega) (fun sh bu h1 h2=>sd.AM ⟨by omega,by omega⟩ v0 (by omega) h1 h2 bo) (lQ.trans sA) (SL.same sA)⟩
   ·have co:ow=false:=by rw [<- N6]; exact decide_eq_false co
    subst co
    exact rest b top H7 HW J0 (fun sh bu h1 h2=>sd.AL HW t0 h1 h2) lQ SL
  ·rintro σ H5 ⟨b,left,ps,ss,v6,v7,v8,v9,rW,z8,rfl,lQ,SL,ls,sd,⟨HW,J0,l0⟩,J1⟩
   refine hR _ _ ?_
   obtain ⟨L,PL⟩:=sd.LG ⟨HW,J0⟩ l0 (by omega) (fun _=>by omega)
   walk_at "rd"
   exact k _ l ps ss L lQ Ii SL PL (by omega) (by omega) fun s hs=>⟨sd.s1 s hs,(sd.b1 s hs).1,J1 s hs⟩
def uP (who:Int) (l:List Q4):Int:=(l.map fun q=>if q.2.1=who then q.2.2.1 else 0).sum
theorem Xr {who:Int} {qs:List Q4} {j:Nat} {q:Q4} (h:qs[j]? = some q):uP who (qs.drop j)=(if q.2.1=who then q.2.2.1 else 0)+uP who (qs.drop (j+1)):=by
 obtain ⟨l,e⟩:=aa.mp h
 rw [List.drop_eq_getElem_cons l,e]
 unfold uP
 rw [bD,eT]
theorem Fw {r:Rat} {d:Int}:(((r.num*d) / (r.den:Int):Int):Rat)<=r*(d:Rat):=by
 have d0:=Sw.iY r
 have h:=Int.ediv_mul_le (r.num*d) (show (r.den:Int)≠0 by omega)
 have h:=ak.mpr h
 rw [aJ,aJ,Sw.iS r] at h
 have dp:=Sw.bJ d0
 generalize (((r.num*d) / (r.den:Int):Int):Rat)=x at h ⊢
 generalize ((r.den:Int):Rat)=y at h dp
 generalize (d:Rat)=z at h ⊢
 by_cases c:x<=r*z
 ·exact c
 ·have:0<(x-r*z)*y:=fG (by grind) dp
  grind
def nA (qs:List Q4) (who bu:Int) (r:Rat) (jZ lj:Int) (j0:Nat):Prop:=lj<=bu/\∀ j q,j0<=j->qs[j]? = some q->q.2.1=who->((lj+uP who (qs.drop j):Int):Rat)<=(bu:Rat)+r*((jZ:Rat)-(q.1:Rat))
def Zm:Sp:=fun vs H Q _=>∃ (l:Addr) (ps:List Addr) (qs:List Q4) (who:Int) (tl pr:Addr) (bu:Int) (r:Rat) (jZ:Int),vs = [.ref l,.int who,.ref tl,.int jZ]/\Row H l ps qs/\H tl=some (.tup [.int bu,.ref pr])/\H pr=some (.tup (fq r))/\Sw.cL 200 r/\qs.length<=10/\(∀ q∈qs,0<=q.1/\q.1<=jZ)/\jZ<=1000000000000/\∀ lj,nA qs who bu r jZ lj 0->Q (.int lj) H
theorem VY (T:Txt K mg cA):jT P w K mg base (jK P w) 1 "_law_lets" ["_law_row_here", "_law_who", "_law_told", "_law_at"] Zm:=by
 refine T.p8.okN (k:=0) eZ (fun vs H Q E h=>?_) (fun f e6 A outer s H vs Q E hr h=>?_)
 ·obtain ⟨l,ps,qs,who,tl,pr,bu,r,jZ,rfl,_⟩:=h
  rfl
 ·obtain ⟨l,ps,qs,who,tl,pr,bu,r,jZ,rfl,RW,ht,hp,zr,ln,qb,ab,k⟩:=h
  refine ⟨_,(c7 (MR (pv 2) (qi (n:=2) K rfl rfl (iT (gu (i:=4) eZ.nd rfl (by first|left;rfl|right;rfl)) (iT (gu (i:=5) eZ.nd rfl (by first|left;rfl|right;rfl)) qh)))) (c7 (eu (i:=6) eZ.nd rfl (pv 4)) (c7 (eu (i:=7) eZ.nd rfl bO) (c7 (uv PassesOwn.never rfl (YS K rfl rfl T.tK (aS (pv 0) bU)) (gu (i:=8) eZ.nd rfl (by first|left;rfl|right;rfl)) (fL (gy (tZ mJ (bg (fh K rfl) (pv 8) bO (fun _ _=>rfl)) (pv 1) (sr _)) (c7 (eu (i:=7) eZ.nd rfl (bF qO (pv 7) (bg (fh K rfl) (pv 8) bO (fun _ _=>rfl)))) (fL (eu (i:=6) eZ.nd rfl (vR (Mr rfl) rfl T.uR boot_min (aS (pv 6) (aS (bF qO (bF Ac (pv 4) (pv 7)) (bF u8 (bF pS (bg (fh K rfl) (pv 5) bO (fun _ _=>rfl)) (bF Ac (pv 3) (bg (fh K rfl) (pv 8) bO (fun _ _=>rfl)))) (bg (fh K rfl) (pv 5) bO (fun _ _=>rfl)))) bU)))))) pR))) (fL (jy (pv 6))))))),?_⟩
  show fU _ _ _ [some (.ref l),some (.int who),some (.ref tl),some (.int jZ),none,none,none,none,none] H
  have pl:ps.length=qs.length:=RW.r.length
  refine di fun R hR=>?_
  walk_at "rd"
  refine ⟨_,.of ht,rfl,_,_,rfl,_,_,rfl,rfl,hR _ _ ?_⟩
  clear hR
  refine di fun R hR=>?_
  walk_at "rd"
  refine hR _ _ ?_
  clear hR
  refine di fun R hR=>?_
  walk_at "rd"
  refine hR _ _ ?_
  clear hR
  refine di fun R hR=>?_
  refine ur fun Z hZ=>?_
  walk_at "rd"
  refine ⟨_,.of RW.hl,hZ _ _ ?_⟩
  clear hZ
  refine XQ (K:=K) (a:=l) (xs:=ps.map V.ref) (fun i σ H'=>H'=H/\∃ lj v8,σ = [some (.ref l),some (.int who),some (.ref tl),some (.int jZ),some (.int bu),some (.ref pr),some (.int lj),some (.int (uP who (qs.drop (qs.length-i)))),v8]/\nA qs who bu r jZ lj (qs.length-i)) ⟨rfl,bu,none,by rw [Nat.sub_zero,List.drop_length]; rfl,fE _,fun j q a b=>by rw [bN (by omega)] at b; cases b⟩ (fun i σ H' _ h=>by rw [h.1]; exact .of RW.hl) ?_ ?_
  ·rintro i x σ H5 hx ⟨rfl,lj,v8,rfl,LO⟩
   obtain ⟨il,e⟩:=aa.mp hx
   rw [List.length_reverse,ae] at il
   obtain ⟨m,hm⟩:∃ m,qs.length-i=m+1:=⟨qs.length-i-1,by omega⟩
   have ml:m<qs.length:=by omega
   have e1:qs.length-(i+1)=m:=by omega
   rw [hm] at LO ⊢
   rw [e1]
   obtain ⟨q,hq⟩:∃ q,qs[m]? = some q:=⟨_,au ml⟩
   obtain ⟨p,lX,oB⟩:∃ p,V.ref p=x/\H5 p=some (.tup (q4 q)):=by
    have oA:m<ps.length:=by omega
    refine ⟨ps[m]'oA,?_,?_⟩
    ·rw [<- e,List.getElem_reverse,List.getElem_map]
     congr 2
     rw [ae]; omega
    ·obtain ⟨q',h1,h2⟩:=RW.r.get (au oA)
     rw [hq] at h1
     cases h1
     exact h2
   subst lX
   have qb1:=qb q (aq hq)
   have ld:=Xr (who:=who) hq
   show u6 _ _ _ _ [some (.ref l),some (.int who),some (.ref tl),some (.int jZ),some (.int bu),some (.ref pr),some (.int lj),some (.int (uP who (qs.drop (m+1)))),some (.ref p)] H5
   refine t7 fun N hN=>?_
   walk_at "rd"
   refine fj (.of oB) (v:=.int q.2.1) rfl ⟨rfl,ir (fun c=>?_) fun c=>hN _ _ ⟨rfl,lj,some (.ref p),?_,LO.1,fun j q' a b d=>?_⟩⟩
   ·have c:q.2.1=who:=V.int.inj c
    rw [if_pos c] at ld
    refine di fun R2 FG=>?_
    walk_at "rd"
    refine fj (.of oB) (v:=.int q.2.2.1) rfl ⟨_,rfl,FG _ _ ?_⟩
    clear FG
    have zd:Sw.Sz 70 (jZ - q.1):=Sw.Sz.j5 (by omega) (by omega)
    have d0:=Sw.iY r
    walk_at "rd"
    refine fj (.of hp) (v:=.int r.num) rfl (fj (.of oB) (v:=.int q.1) rfl ⟨_,rfl,_,rfl,⟨zr.n.mono (by decide),zd.mono (by decide)⟩,fj (.of hp) (v:=.int (r.den:Int)) rfl ⟨_,rfl,⟨d0,zr.d.mono (by decide)⟩,hN _ _ ⟨rfl,_,_,by rw [ld,Int.add_comm q.2.2.1],?_,fun j q' a b d=>?_⟩⟩⟩)
    ·have:=LO.1
     split <;> omega
    ·have fl:=Fw (r:=r) (d:=jZ - q.1)
     rw [jd] at fl
     rcases dW m j with z | z
     ·have o:=LO.2 j q' z b d
      refine fF (ak.mpr ?_) o
      split <;> omega
     ·have:j=m:=by omega
      subst this
      rw [hq] at b
      cases b
      have:(((if bu-(uP who (qs.drop (j+1))+q.2.2.1)+r.num*(jZ - q.1) / (r.den:Int)<lj then bu-(uP who (qs.drop (j+1))+q.2.2.1)+r.num*(jZ - q.1) / (r.den:Int) else lj)+uP who (qs.drop j):Int):Rat)<=((bu+r.num*(jZ - q.1) / (r.den:Int):Int):Rat):=by
       refine ak.mpr ?_
       rw [ld]
       split <;> omega
      rw [dh bu] at this
      grind
   ·rw [ld,if_neg fun z=>c (by rw [z]),Int.zero_add]
   ·refine LO.2 j q' ?_ b d
    rcases dW m j with z | z
    ·exact z
    ·have:j=m:=by omega
     subst this
     rw [hq] at b
     cases b
     exact absurd (by rw [d]) c
  ·rintro σ H5 ⟨rfl,lj,v8,rfl,LO⟩
   rw [ae,pl,k8] at LO
   refine hR _ _ ?_
   walk_at "rd"
   exact k lj LO
structure RK (ss:List Sw.S3) (qs:List Q4):Prop where
 ok:∀ p q,qs[p]? = some q->∃ k:Nat,k<ss.length/\q.2.1=(k:Int)/\q.2.2.2=Sw.dU ss k/\nA (qs.take p) (k:Int) (Sw.d8 ss k) (Sw.dQ ss k) q.1 q.2.2.1 0
 pc:∀ q∈qs,Sw.nU 1000000 q
 pw:qs.Pairwise (fun a b=>a.1<=b.1)
theorem RK.snoc {ss:List Sw.S3} {qs:List Q4} (R:RK ss qs) {q:Q4} {k:Nat} (hk:k<ss.length) (h1:q.2.1=(k:Int)) (h2:q.2.2.2=Sw.dU ss k) (h3:nA qs (k:Int) (Sw.d8 ss k) (Sw.dQ ss k) q.1 q.2.2.1 0) (h4:Sw.nU 1000000 q) (h5:∀ x∈qs,x.1<=q.1):RK ss (qs++[q]):=by
 refine ⟨fun p x e=>?_,fun x hx=>?_,?_⟩
 ·rcases dW p qs.length with l | l
  ·rw [e9 l] at e
   rw [fW (by omega)]
   exact R.ok p x e
  ·have:p=qs.length:=by have:=(aa.mp e).1; rw [aO] at this; simp at this; omega
   subst this
   rw [bW (av _),k8] at e
   cases e
   rw [List.take_left']
   ·exact ⟨k,hk,h1,h2,h3⟩
   ·rfl
 ·rcases aY.mp hx with z | z
  ·exact R.pc x z
  ·rw [bH.mp z]; exact h4
 ·rw [List.pairwise_append]
  exact ⟨R.pw,List.pairwise_singleton _ _,fun x hx y hy=>by rw [bH.mp hy]; exact h5 x hx⟩
theorem nA.le {qs:List Q4} {who bu:Int} {r:Rat} {jZ b b':Int} {j0:Nat} (h:nA qs who bu r jZ b j0) (l:b'<=b):nA qs who bu r jZ b' j0:=⟨by have:=h.1; omega,fun j q a e d=>fF (ak.mpr (by omega)) (h.2 j q a e d)⟩
def Yp (K:ai):Sp:=fun vs H Q _=>∃ (a:Addr) (ns:List Int) (way:Int) (l:Addr) (ps:List Addr) (ss:List Sw.S3),vs = [.ref a,.int way,.ref l]/\gR K H a (ns.map V.int)/\ns.length<=63/\0<=way/\way<3/\qU H l ps ss/\1<=ss.length/\(∀ s∈ss,1<=s.1/\s.1<=1000)/\(∀ k,k<ss.length->Sw.cL 200 (Sw.dQ ss k))/\∀ H' r rp qs,bT H H'->Row H' r rp qs->qs.length<=10->RK ss qs->Q (.ref r) H'
theorem Sq {n:Nat} {M:Int} {a c:Nat} {qs:List Q4} (g:Sw.Good n M a c qs) {i:Nat} {q:Q4} (e:qs[i]? = some q):Sw.rB (aX qs (Sw.Ti.nil.tags qs)) i=(q.2.2.1:Rat):=by
 obtain ⟨t,hf⟩:=Sw.iA e
 obtain ⟨q',e2,ef⟩:=g.nE hf
 rw [e] at e2
 cases e2
 rw [Sw.Dc hf,Sw.kK hf,ef]
 have sn:(q.2.2.2:Rat)≠0:=Sw.cI (by have:=(g.pc q (aq e)).2.2.2.2.1; omega)
 show (q.2.2.2:Rat)*((Sw.Ti.nil.after (qs.take i)).fin q-(Sw.Ti.nil.after (qs.take i)).iR q) = _
 have fb:(Sw.Ti.nil.after (qs.take i)).fin q=(Sw.Ti.nil.after (qs.take i)).iR q+(q.2.2.1:Rat) / (q.2.2.2:Rat):=rfl
 rw [fb]
 grind
theorem MP (n:Nat) (f:Nat->Rat):Sw.sS (n+1) f=Sw.sS n f+f n:=by
 unfold Sw.sS
 rw [dF,ay,Sw.ju]
 show _ + (f n+0) = _
 grind
theorem Ss {f:Nat->Rat} {p:Nat}:∀ {n:Nat},p<=n->(∀ i,p<=i->i<n->f i = 0)->Sw.sS n f=Sw.sS p f
 | 0,h,_=>by rw [show p = 0 by omega]
 | n+1,h,z=>by
  rcases dW n p with c | c
  ·rw [show p=n+1 by omega]
  ·rw [MP,z n c (by omega),Ss c fun i a b=>z i a (by omega)]
   grind
theorem QY (k:Int) (l:List Q4) (q:Q4):uP k (l++[q])=uP k l+if q.2.1=k then q.2.2.1 else 0:=by
 unfold uP
 rw [ay,CA]
 simp
theorem RP {n:Nat} {M:Int} {a c:Nat} {qs:List Q4} (g:Sw.Good n M a c qs) (k:Int) (i0:Nat):∀ m,m<=qs.length->Sw.sS m (fun i=>if Sw.fc qs i=k then (if i0<=i then Sw.rB (aX qs (Sw.Ti.nil.tags qs)) i else 0) else 0)=(uP k ((qs.take m).drop i0):Rat)
 | 0,_=>by rw [rZ,List.drop_nil]; rfl
 | m+1,h=>by
  obtain ⟨q,e⟩:∃ q,qs[m]? = some q:=⟨_,au (by omega)⟩
  have tl:(qs.take m).length=m:=by rw [bZ]; omega
  rw [MP,RP g k i0 m (by omega),aV e,Sw.gq e,Sq g e]
  by_cases c:i0<=m
  ·rw [pV (by omega),QY,dh]
   by_cases d:q.2.1=k
   ·rw [if_pos d,if_pos c,if_pos d]
   ·rw [if_neg d,if_neg d]; rfl
  ·rw [kO (by omega),kO (by rw [aO,tl]; simp; omega),if_neg c]
   split <;> grind
theorem RK.kept {n:Nat} {M:Int} {a c:Nat} {ss:List Sw.S3} {L:Int} {qs:List Q4} (R:RK ss qs) (g:Sw.Good n M a c qs) (P:Sw.Plan ss L):Sw.Kept (aX qs (Sw.Ti.nil.tags qs)) (Sw.fc qs) ss:=by
 have fl:(aX qs (Sw.Ti.nil.tags qs)).length=qs.length:=A8 (by rw [Sw.Ti.dP])
 refine Sw.Kept.of g.runs P (fun i hi=>?_) (fun i k hi hw=>?_) fun k i0 p hk ZJ hp h0 Uk=>?_
 ·rw [fl] at hi
  have e:=au hi
  obtain ⟨k,hk,e1,_⟩:=R.ok i _ e
  exact ⟨k,hk,by rw [Sw.gq e,e1]⟩
 ·rw [fl] at hi
  have e:=au hi
  obtain ⟨k',hk,e1,e2,_⟩:=R.ok i _ e
  rw [Sw.gq e,e1] at hw
  have:k'=k:=by omega
  subst this
  obtain ⟨t,hf⟩:=Sw.iA e
  rw [Sw.kK hf]
  exact e2
 ·rw [fl] at hp
  obtain ⟨q,e⟩:∃ q,qs[p]? = some q:=⟨_,au hp⟩
  obtain ⟨q0,e0⟩:∃ q,qs[i0]? = some q:=⟨_,au (by omega)⟩
  obtain ⟨k',FS,e1,e2,LO⟩:=R.ok p q e
  rw [Sw.gq e,e1] at Uk
  have:k'=k:=by omega
  subst this
  rw [Sw.gq e0] at h0
  obtain ⟨t,hf⟩:=Sw.iA e
  obtain ⟨t0,T8⟩:=Sw.iA e0
  rw [Sw.i4 hf,Sw.i4 T8]
  have s1:Sw.oS (aX qs (Sw.Ti.nil.tags qs)) (Sw.fc qs) k' (fun i=>if i0<=i/\i<=p then Sw.rB (aX qs (Sw.Ti.nil.tags qs)) i else 0)=(uP k' ((qs.take (p+1)).drop i0):Rat):=by
   rw [<- RP g k' i0 (p+1) (by omega)]
   unfold Sw.oS
   rw [Ss (p:=p+1) (by omega) fun i a b=>by
    show (if _ then (if i0<=i/\i<=p then _ else (0:Rat)) else 0) = 0
    rw [if_neg (c:=i0<=i/\i<=p) (by omega)]
    split <;> rfl]
   refine Sw.cV fun i hi=>?_
   show (if _ then (if i0<=i/\i<=p then _ else (0:Rat)) else 0) = _
   by_cases d:i0<=i
   ·rw [if_pos (c:=i0<=i/\i<=p) ⟨d,by omega⟩,if_pos (c:=i0<=i) d]
   ·rw [if_neg (c:=i0<=i/\i<=p) fun z=>d z.1,if_neg (c:=i0<=i) d]
  have tl:(qs.take p).length=p:=by rw [bZ]; omega
  rw [s1,aV e,pV (by omega),QY,if_pos e1]
  rcases dW i0 p with c | c
  ·have:=LO.2 i0 q0 (bR _) (by rw [ia,if_pos c]; exact e0) h0
   rw [Int.add_comm]
   exact this
  ·have:i0=p:=by omega
   subst this
   rw [e] at e0
   cases e0
   rw [kO (by omega)]
   have h1:((uP (k':Int) [] + q.2.2.1:Int):Rat)<=(Sw.d8 ss k':Rat):=ak.mpr (by
    have:=LO.1
    show 0+q.2.2.1<=_
    omega)
   grind
theorem Su {n:Nat} {M:Int} {a c:Nat} {qs:List Q4} (g:Sw.Good n M a c qs) (k jZ:Int):∀ m,m<=qs.length->Sw.sS m (fun i=>if Sw.fc qs i=k then (if Sw.gW (aX qs (Sw.Ti.nil.tags qs)) i<=(jZ:Rat) then Sw.rB (aX qs (Sw.Ti.nil.tags qs)) i else 0) else 0)=(((((qs.take m).filter fun x=>decide (x.2.1=k/\x.1<=jZ)).map fun x=>x.2.2.1).sum:Int):Rat)
 | 0,_=>by rw [rZ]; rfl
 | m+1,h=>by
  obtain ⟨q,e⟩:∃ q,qs[m]? = some q:=⟨_,au (by omega)⟩
  obtain ⟨t,hf⟩:=Sw.iA e
  rw [MP,Su g k jZ m (by omega),aV e,Sw.gq e,Sq g e,Sw.i4 hf,cG,ay,CA,dh]
  congr 1
  by_cases d:q.2.1=k
  ·by_cases d2:q.1<=jZ
   ·rw [if_pos d,if_pos (ak.mpr d2),jX (by simp [d,d2])]
    simp
   ·rw [if_pos d,if_neg fun z=>d2 (ak.mp z),ie (by simp [d2])]
    rfl
  ·rw [if_neg d,ie (by simp [d])]
   rfl
theorem RK.says {n:Nat} {M:Int} {a c:Nat} {ss:List Sw.S3} {L:Int} {qs:List Q4} {m m':Nat} (R:RK ss qs) (g:Sw.Good n M a c qs) (P:Sw.Plan ss L) (en:fD ss m) (Fp:fD ss m') {i:Nat} {q:Q4} (e:qs[i]? = some q):∃ (u:Rat×Rat) (k:Nat),(Sw.eX (Sw.endsF (Sw.cE (aX qs (Sw.Ti.nil.tags qs)) (2*n+1) 0 0)) 0 (fun _=>none) qs)[i]? = some u/\k<ss.length/\q.2.1=(k:Int)/\u.2-(q.1:Rat)<=Sw.jv ss m k/\((((qs.filter fun x=>decide (x.2.1=(k:Int)/\x.1<=q.1)).map fun x=>x.2.2.1).sum:Int):Rat)-Sw.gT (aX qs (Sw.Ti.nil.tags qs)) (Sw.fc qs) (k:Int) (q.1:Rat) (2*n+1)<=p6 ss m' k:=by
 have K:=R.kept g P
 have fl:(aX qs (Sw.Ti.nil.tags qs)).length=qs.length:=A8 (by rw [Sw.Ti.dP])
 have RU:=g.runs
 obtain ⟨t,u,k1,k2,h1,h2,hf,Lv,rfl⟩:=g.both e
 obtain ⟨k,hk,e1,_⟩:=R.ok i q e
 have hw:Sw.fc qs i=(k:Int):=by rw [Sw.gq e,e1]
 refine ⟨_,k,h2,hk,e1,RU.y9 K P en hf Lv hk hw,?_⟩
 obtain ⟨j,c1,c2,_⟩:=RU.cm i _ hf
 obtain ⟨D0,ok⟩:=Sw.mw g.F g.ln g.pc g.pw
 have le:=Lv.le ok.s1 ok.ln
 have bt:=RU.bt i _ hf
 have jk:j<k2:=by
  rcases dW j k2 with z | z
  ·exact z
  ·have:=(Lv.pa j).mpr z
   simp only at bt c2 this
   grind
 have c1:(q.1:Rat)=(Sw.aI (aX qs (Sw.Ti.nil.tags qs)) j).1:=c1.symm
 obtain ⟨p,hp,hq⟩:=RU.yv K P Fp hk j
 refine fF ?_ (fF hq (Sc P Fp hk hp))
 rw [c1,RU.FD k j (by omega)]
 unfold Sw.qG
 have:((((qs.filter fun x=>decide (x.2.1=(k:Int)/\x.1<=q.1)).map fun x=>x.2.2.1).sum:Int):Rat)=Sw.kC (aX qs (Sw.Ti.nil.tags qs)) (Sw.fc qs) k j:=by
  have:=Su g (k:Int) q.1 qs.length (av _)
  rw [iQ] at this
  rw [<- this]
  unfold Sw.kC Sw.oS Sw.iB
  rw [fl,<- c1]
 rw [this]
 exact aB
theorem Xs {X:Cx} {e:Expr} {es:List Expr} {te:TE} {t:TA} (he:E4 X e te) (hr:Ea X es t) (hs:starEach (e :: es) X.env=(false,eval e X.env) :: starEach es X.env:=by rfl):Ea X (e :: es) (tX te t):=⟨aS he.h hr.h hs⟩
theorem Wg (T:Txt K mg cA):jT P w K mg base (jK P w) 2 "_law_row" ["_law_script", "_law_way", "_law_senders_here"] (Yp K):=by
 have e7:=PX (P:=P) (w:=w) (base:=base) T
 have fu:=Mm (P:=P) (w:=w) (base:=base) T
 have sC:=VY (P:=P) (w:=w) (base:=base) T
 refine T.rL.okN (k:=1) eK (fun vs H Q E h=>?_) (fun f e6 A outer s H vs Q E hr h=>?_)
 ·obtain ⟨a,ns,way,l,ps,ss,rfl,_⟩:=h
  rfl
 ·obtain ⟨a,ns,way,l,ps,ss,rfl,hS,gI,w0,w1,Nj,s1,sh,rz,k⟩:=h
  refine Ka ⟨_,(Hy (HM (eu (i:=3) eK.nd rfl (dM fu (hr.mono (by decide)) rfl aU (aS (pv 0) (aS bO bU))))) (Hy (XX (i:=4) eK.nd rfl (by first|left;rfl|right;rfl) (Sg (mU K rfl) (Rs (HE bO (HE bO (Xs (Sg (mU K rfl) (Rs (HE bO (HE (bF Ci bO bO) (HE (bF Ci bO bO) Se)))) (pv 1) (fun _ _=>rfl)) Se)))) (bF nL (bF u8 (pv 3) bO) bO) (fun _ _=>rfl))) (Hy (HM (eu (i:=5) eK.nd rfl (bg (mU K rfl) (su (aS bO (aS (bF nL (bF u8 (pv 3) bO) bO) bU))) (bF nL (bF u8 (pv 3) bO) bO) (fun _ _=>rfl)))) (Hy (HM (eu (i:=6) eK.nd rfl (su bU))) (Hy (HM (uv PassesOwn.never rfl (nK K rfl (WT (WX K rfl) (pv 0) (Q7 bO) (Q7 bO))) (gu (i:=7) eK.nd rfl (by first|left;rfl|right;rfl)) (c7 (eu (i:=5) eK.nd rfl (bF qO (pv 5) (bF nL (dM e7 (hr.mono (by decide)) rfl aU (aS (pv 7) (aS bO bU))) (pv 4)))) (c7 (eu (i:=8) eK.nd rfl (bF nL (dM e7 (hr.mono (by decide)) rfl aU (aS (pv 7) (aS bO bU))) (vR (IZ K rfl) rfl T.rF boot_len (aS (pv 2) bU)))) (c7 (eu (i:=9) eK.nd rfl (vR (Mr rfl) rfl T.uR boot_min (aS (dM sC (hr.mono (by decide)) rfl aU (aS (pv 6) (aS (pv 8) (aS (bg (fh K rfl) (bg (mU K rfl) (pv 2) (pv 8) (fun _ _=>rfl)) bO (fun _ _=>rfl)) (aS (pv 5) bU))))) (aS (bF Ci bO bO) bU)))) (c7 (gy (tZ mJ (bF nL (pv 7) bO) bO (sr _)) (fL (eu (i:=9) eK.nd rfl (vR (Mr rfl) rfl T.uR boot_min (aS (pv 9) (aS (bF qO bO (bF nL (dM e7 (hr.mono (by decide)) rfl aU (aS (pv 7) (aS bO bU))) (bg (mU K rfl) (su (aS bO (aS (bF Ci bO bO) (aS (bF Ci bO bO) bU)))) (pv 1) (fun _ _=>rfl)))) bU))))) pR) (fL (gy (tZ BQ (pv 9) bO (sr _)) (fL (xz (kH bX b8 b9 wW (pv 6) (aS (lI (aS (pv 5) (aS (pv 8) (aS (pv 9) (aS (bg (fh K rfl) (bg (mU K rfl) (pv 2) (pv 8) (fun _ _=>rfl)) bO (fun _ _=>rfl)) bU))))) bU)))) pR)))))))) (XY (HM (jy (pv 6))))))))),?_⟩
  show fU _ _ _ [some (.ref a),some (.int way),some (.ref l),none,none,none,none,none,none,none] H
  refine di fun R hR=>?_
  walk_at "rd"
  refine IY hS (by decide) (hR _ _ ?_)
  clear hR
  generalize jE ns 0=first
  refine di fun R hR=>?_
  walk_at "rd"
  intro q1 f1
  refine mK [20,100000,1000000] w0 w1 fun z hz=>?_
  have z1:0<z/\z<=1000000:=by
   simp only [aM,aR,or_false] at hz
   omega
  intro q2 f2
  refine mK [3,40,z] (by omega) (by show first / 3 % 3<3; omega) fun uK hg=>hR _ _ ?_
  clear hR
  have b2:0<uK/\uK<=1000000:=by
   simp only [aM,aR,or_false] at hg
   omega
  have s2:=(cZ (o:=.lst (([20,100000,1000000]:List Int).map V.int)) f1).trans (cZ (o:=.lst (([3,40,z]:List Int).map V.int)) f2)
  generalize aQ (aQ H q1 (.lst (([20,100000,1000000]:List Int).map V.int))) q2 (.lst (([3,40,z]:List Int).map V.int))=H2 at s2 ⊢
  clear hz hg f1 f2 z1
  refine di fun R hR=>?_
  walk_at "rd"
  intro q3 f3
  refine mK [0,first / 9 % 1000] (by omega) (by show first / 3 % 2<2; omega) fun JX ha=>hR _ _ ?_
  clear hR
  have b3:0<=JX/\JX<=1000:=by
   simp only [aM,aR,or_false] at ha
   omega
  have s3:=s2.trans (cZ (o:=.lst (([0,first / 9 % 1000]:List Int).map V.int)) f3)
  generalize aQ H2 q3 (.lst (([0,first / 9 % 1000]:List Int).map V.int))=H3 at s3 ⊢
  clear ha f3 s2
  refine di fun R hR=>?_
  walk_at "rd"
  intro r KY
  refine hR _ _ ?_
  clear hR
  have Ii:H r=none:=s3.free KY
  have s4:=s3.trans (cZ (o:=.lst []) KY)
  have Ev:aQ H3 r (.lst []) r=some (.lst []):=cO
  generalize aQ H3 r (.lst [])=H4 at s4 Ev ⊢
  clear s3 KY
  refine di fun R hR=>?_
  refine ur fun Z hZ=>?_
  walk_at "rd"
  obtain ⟨ms,em,ZN⟩:=Ww ns (some 5) (some 15)
  have ZT:ms.length<=10:=by
   have e:=Yn (ns.map V.int) 5 15
   have e2:m8 (ns.map V.int) (some ((5:Nat):Int)) (some ((15:Nat):Int))=ms.map V.int:=em
   rw [e2,ae] at e
   omega
  refine YL (s4.seq hS) fun p hp=>⟨p,rfl,⟨_,.of cO⟩,hZ _ _ ?_⟩
  clear hZ
  have s5:=cZ (o:=.lst (m8 (ns.map V.int) (some 5) (some 15))) hp
  have Et:p≠r:=fun z=>by
   rw [z,Ev] at hp
   cases hp
  have I0:qT H (aQ H4 p (.lst (m8 (ns.map V.int) (some 5) (some 15)))) p (ms.map V.int) r [] []:=⟨s4.trans s5,by rw [cO,em],s5 _ _ Ev,.nil⟩
  generalize aQ H4 p (.lst (m8 (ns.map V.int) (some 5) (some 15)))=H5 at I0 ⊢
  clear s4 s5 hp Ev em
  refine z9 (xs:=ms.map V.int) (fun i σ H'=>∃ jZ rp qs v7 v8 v9,σ = [some (.ref a),some (.int way),some (.ref l),some (.int first),some (.int uK),some (.int jZ),some (.ref r),v7,v8,v9]/\qT H H' p (ms.map V.int) r rp qs/\qs.length<=i/\RK ss qs/\(∀ q∈qs,q.1<=jZ)/\0<=jZ/\jZ<=1000+(i:Int)*1000000) ⟨JX,[],[],none,none,none,rfl,I0,av _,⟨fun p q e=>(by cases e),fun q h=>absurd h aR,rY⟩,fun q h=>absurd h aR,b3.1,by omega⟩ (fun i σ H' _ ⟨_,_,_,_,_,_,_,I,_⟩=>.of I.hp) ?_ ?_
  ·rintro i x σ H6 hx ⟨jZ,rp,qs,v7,v8,v9,rfl,I,ql,rk,GQ,JY,SX⟩
   obtain ⟨c,hc,rfl⟩:∃ c,ms[i]? = some c/\V.int c=x:=by simpa using hx
   have ZI:i<ms.length:=(aa.mp hc).1
   show fU _ _ _ [some (.ref a),some (.int way),some (.ref l),some (.int first),some (.int uK),some (.int jZ),some (.ref r),some (.int c),v8,v9] H6
   refine t7 fun N hN=>?_
   refine di fun R hR=>?_
   walk_at "rd"
   refine ⟨c,1,rfl,by decide,by decide,fun m1 H7 _ n7 _ _=>⟨_,rfl,b2.1,hR _ _ ?_⟩⟩
   clear hR
   have g0:=cD m1 (show uK≠0 by omega)
   have g1:=b4 m1 b2.1
   generalize TX:jZ + m1 % uK=at2
   have Zt:jZ<=at2:=by omega
   have Zu:at2<=jZ + 1000000:=by omega
   clear TX g0 g1
   have I:=I.same n7
   refine di fun R hR=>?_
   walk_at "rd"
   refine ⟨c,2,rfl,by decide,by decide,fun m2 H8 _ n8 Oj Ol=>?_⟩
   have I:=I.same n8
   have SL:=Nj.same I.sm
   refine MS (.of SL.hl) ?_
   rw [ae,SL.len]
   refine ⟨_,rfl,_,rfl,by omega,hR _ _ ?_⟩
   clear hR
   have NF:=cD m2 (show (ss.length:Int)≠0 by omega)
   have NG:=b4 m2 (show (0:Int)<ss.length by omega)
   obtain ⟨j,hj⟩:∃ j:Nat,m2 % (ss.length:Int)=(j:Int):=⟨(m2 % (ss.length:Int)).toNat,by omega⟩
   rw [hj] at NF NG ⊢
   have jl:j<ss.length:=by omega
   clear hj NF NG Oj Ol
   obtain ⟨sp,pl,pr,h1,h2,h3,h4,h5⟩:=SL.item jl
   refine di fun R hR=>?_
   walk_at "rd"
   refine qP (.of SL.hl) h2 (fj (.of h3) (v:=.ref pl) rfl ?_)
   refine ⟨r,rp,qs,(j:Int),pl,pr,_,_,at2,rfl,⟨I.hl,I.r⟩,h4,h5,rz j jl,by omega,fun q hq=>⟨(rk.pc q hq).1,by have:=GQ q hq; omega⟩,by omega,fun lj LO=>⟨_,rfl,hR _ _ ?_⟩⟩
   clear hR
   refine di fun R hR=>?_
   have yX:∀ (ln:Int) (H9:Hp),nA qs (j:Int) (Sw.d8 ss j) (Sw.dQ ss j) at2 ln 0->ln<=1000000->qT H H9 p (ms.map V.int) r rp qs->R [some (.ref a),some (.int way),some (.ref l),some (.int first),some (.int uK),some (.int at2),some (.ref r),some (.int c),some (.int (j:Int)),some (.int ln)] H9:=fun ln H9 LO l2 I=>hR _ _ (by
    clear hR
    have SL:=Nj.same I.sm
    obtain ⟨sp,pl,pr,h1,h2,h3,h4,h5⟩:=SL.item jl
    walk_at "rd"
    refine ir (fun c0=>?_) (fun c0=>hN _ _ ⟨at2,rp,qs,_,_,_,rfl,I,by omega,rk,fun q hq=>by have:=GQ q hq; omega,by omega,by omega⟩)
    refine ⟨.inl ⟨rfl,_,.of I.hl⟩,qP (.of SL.hl) h2 (fj (.of h3) (v:=.int (Sw.dU ss j)) rfl fun t ht=>?_)⟩
    have I2:=I.same (cZ (o:=.tup [.int at2,.int (j:Int),.int ln,.int (Sw.dU ss j)]) ht)
    have rl:=I2.r.len
    obtain ⟨s,hs,e1,_,_⟩:=Sw.fX jl
    have sb:=sh s hs
    rw [<- e1] at sb
    refine ⟨r,_,_,rfl,rfl,I2.hl,by rw [ae]; exact cX (by omega),hN _ _ ?_⟩
    have U3:Sw.nU 1000000 (at2,(j:Int),ln,Sw.dU ss j):=⟨by show 0<=at2; omega,by show at2<100000000000000; omega,by show 1<=ln; omega,l2,sb.1,by show Sw.dU ss j<=1000000; omega⟩
    refine ⟨at2,rp++[t],qs++[(at2,(j:Int),ln,Sw.dU ss j)],_,_,_,rfl,I2.snoc (q:=(at2,(j:Int),ln,Sw.dU ss j)) Ii Et cO,by rw [aO]; simp; omega,rk.snoc jl rfl rfl LO U3 (fun x hx=>by have:=GQ x hx; show x.1<=at2; omega),fun q h=>?_,by omega,by omega⟩
    rcases aY.mp h with z | z
    ·have:=GQ q z; omega
    ·have:q=(at2,(j:Int),ln,Sw.dU ss j):=by simpa using z
     rw [this]; exact fE _)
   walk_at "rd"
   refine ir (fun c0=>?_) (fun c0=>yX _ H8 (LO.le (by split <;> omega)) (by split <;> omega) I)
   refine ⟨c,3,rfl,by decide,by decide,fun m3 H9 _ n9 UK UL=>?_⟩
   intro q4 f4
   refine mK [9,100000,1000000] w0 w1 fun z hz=>?_
   have z1:0<z:=by
    simp only [aM,aR,or_false] at hz
    omega
   refine ⟨_,rfl,z,rfl,z1,yX _ _ (LO.le ?_) ?_ ((I.same n9).same (cZ f4))⟩
   ·split <;> split <;> omega
   ·split <;> split <;> omega
  ·rintro σ H6 ⟨jZ,rp,qs,v7,v8,v9,rfl,I,ql,rk,GQ,JY,SX⟩
   rw [ae] at ql
   refine hR _ _ ?_
   walk_at "rd"
   exact k H6 r rp qs I.sm ⟨I.hl,I.r⟩ (by omega) rk
theorem Xu {x b:Int} {v r:Rat} (hb:0<b) (e:(x:Rat)=v*(b:Rat)) (h:v<=r):x*(r.den:Int)<=r.num*b:=by
 have h1:=Sw.bJ hb
 have h2:=Sw.bJ (Sw.iY r)
 have h3:0<=(b:Rat)*((r.den:Int):Rat):=bM (by grind) (by grind)
 have h4:=aC h h3
 have h5:=Sw.iS r
 refine ak.mp ?_
 rw [aJ,aJ,e,h5]
 grind
def LY:Sp:=fun vs H Q _=>∃ (x b:Int) (p:Addr) (v r:Rat),vs = [.int x,.int b,.ref p]/\H p=some (.tup (fq r))/\Sw.Sz 2600 x/\Sw.Sz 2600 b/\Sw.cL 1200 r/\0<b/\(x:Rat)=v*(b:Rat)/\v<=r/\Q (.bl true) H
theorem Vz (T:Txt K mg cA):jT P w K mg base (jK P w) 1 "_law_not_above" ["_law_top", "_law_bottom", "_law_most"] LY:=by
 refine T.lR.okN (k:=0) Vv (fun vs H Q E h=>?_) (fun f e6 A outer s H vs Q E hr h=>?_)
 ·obtain ⟨x,b,p,v,r,rfl,_⟩:=h
  rfl
 ·obtain ⟨x,b,p,v,r,rfl,hp,zx,zb,zr,b0,e,h,k⟩:=h
  refine ⟨_,(fL (jy (Q6 BR (bF pS (pv 0) (bg (fh K rfl) (pv 2) bO (fun _ _=>rfl))) (bF pS (bg (fh K rfl) (pv 2) bO (fun _ _=>rfl)) (pv 1)) (sr _)))),?_⟩
  show oh _ _ [some (.int x),some (.int b),some (.ref p)] H
  walk_at "rd"
  refine fj (.of hp) (v:=.int (r.den:Int)) rfl ⟨_,rfl,⟨zx.mono (by decide),zr.d.mono (by decide)⟩,?_⟩
  refine fj (.of hp) (v:=.int r.num) rfl ⟨_,rfl,⟨zr.n.mono (by decide),zb.mono (by decide)⟩,?_⟩
  rw [decide_eq_true (Xu b0 e h)]
  exact k
theorem Yq {c:TT} {t1 t2:TS} {D:Ends} {σ:L2.St} {H:Hp} (h:∀ G:L2.St->Hp->Prop,(∀ σ H,t1 D σ H->G σ H)->u6 c (fun _ σ H=>G σ H) t2 D σ H):u6 c t1 t2 D σ H:=h (t1 D) fun _ _ z=>z
theorem RQ:∀ {l:List Int},(∀ x∈l,0<=x/\x<=1000000)->0<=l.sum/\l.sum<=l.length*1000000
 | [],_=>by simp
 | x :: r,h=>by
  have ih:=RQ (l:=r) fun y hy=>h y (aA _ hy)
  have h0:=h x ic
  rw [eT,aE]
  omega
theorem FE {n:Nat} {M:Int} {a c:Nat} {qs:List Q4} (g:Sw.Good n M a c qs) (who t:Int):Sw.cL 2130 (Sw.gT (aX qs (Sw.Ti.nil.tags qs)) (Sw.fc qs) who (t:Rat) (2*n+1)):=by
 obtain ⟨D0,ok⟩:=Sw.mw g.F g.ln g.pc g.pw
 have:=g.runs.Hr ok (Sw.fc qs) (fun _=>who) t (2*n+1) (j:=1) (by decide)
 rw [show Sw.tq ((aD 1).map fun _=>Sw.gT (aX qs (Sw.Ti.nil.tags qs)) (Sw.fc qs) who (t:Rat) (2*n+1))=Sw.gT (aX qs (Sw.Ti.nil.tags qs)) (Sw.fc qs) who (t:Rat) (2*n+1)+0 from rfl] at this
 rw [Rat.add_zero] at this
 exact this
theorem Zn {f:Addr} {fd:FuncData} (F:Cs K "law" "law" mP f fd) (T:Txt K mg cA):nN P w K mg base D5 9 f fd ["_law_script"] (vJ K):=by
 have fu:=Mm (P:=P) (w:=w) (base:=base) T
 have oN:=VE (P:=P) (w:=w) (base:=base) T
 have uy:=Wg (P:=P) (w:=w) (base:=base) T
 have jA:=Vz (P:=P) (w:=w) (base:=base) T
 have Af:=Yi (P:=P) (w:=w) (base:=base) T
 have Ad:=Ye (P:=P) (w:=w) (base:=base) T
 have Ae:=Ym (P:=P) (w:=w) (base:=base) T
 have xE:=Xq (P:=P) (w:=w) (base:=base) T
 refine F.ok gC (fun vs H Q E h=>?_) (fun e6 A outer s H vs Q E hr h=>?_)
 ·obtain ⟨a,ns,rfl,_⟩:=h
  rfl
 ·obtain ⟨sc,ns,rfl,hS,gI,k⟩:=h
  refine ⟨_,(c7 (eu (i:=1) gC.nd rfl (bF nL (dM fu (hr.mono (by decide)) rfl aU (aS (pv 0) (aS bO bU))) bO)) (c7 (eu (i:=2) gC.nd rfl (dM oN (hr.mono (by decide)) rfl aU (aS (pv 0) (aS (pv 1) bU)))) (c7 (eu (i:=3) gC.nd rfl (dM uy (hr.mono (by decide)) rfl aU (aS (pv 0) (aS (pv 1) (aS (pv 2) bU))))) (c7 (eu (i:=4) gC.nd rfl (dM Af (hr.mono (by decide)) rfl aU (aS (IX (IV K rfl) rfl T.oF boot_list (aS (pv 2) bU)) bU))) (c7 (eu (i:=5) gC.nd rfl (dM Ad (hr.mono (by decide)) rfl aU (aS (IX (IV K rfl) rfl T.oF boot_list (aS (pv 2) bU)) bU))) (c7 (eu (i:=6) gC.nd rfl (dM Ae (hr.mono (by decide)) rfl aU (aS (IX (IV K rfl) rfl T.oF boot_list (aS (pv 3) bU)) bU))) (c7 (uv PassesOwn.never rfl (DJ K rfl rfl T.fP (aS (pv 3) bU)) (qi (n:=2) K rfl rfl (iT (gu (i:=7) gC.nd rfl (by first|left;rfl|right;rfl)) (iT (gu (i:=8) gC.nd rfl (by first|left;rfl|right;rfl)) qh))) (c7 (MR (pv 8) (qi (n:=4) K rfl rfl (iT (gu (i:=9) gC.nd rfl (by first|left;rfl|right;rfl)) (iT (gu (i:=10) gC.nd rfl (by first|left;rfl|right;rfl)) (iT (gu (i:=11) gC.nd rfl (by first|left;rfl|right;rfl)) (iT (gu (i:=12) gC.nd rfl (by first|left;rfl|right;rfl)) qh)))))) (c7 (eu (i:=13) gC.nd rfl (bg (fh K rfl) (bg (mU K rfl) (pv 6) (pv 7) (fun _ _=>rfl)) bO (fun _ _=>rfl))) (c7 (gy (EM (qM (dM jA (hr.mono (by decide)) rfl aU (aS (bF Ac (bg (fh K rfl) (pv 13) bO (fun _ _=>rfl)) (bF pS (pv 9) (bg (fh K rfl) (pv 13) bO (fun _ _=>rfl)))) (aS (bg (fh K rfl) (pv 13) bO (fun _ _=>rfl)) (aS (bg (mU K rfl) (pv 4) (pv 10) (fun _ _=>rfl)) bU)))))) (fL (jy vD)) pR) (fL (gy (PW.pt (pw_or (tZ mJ (bF nL (pv 7) bO) bO (sr _)) (Yw (tZ mJ (pv 7) (bF Ac (vR (IZ K rfl) rfl T.rF boot_len (aS (pv 3) bU)) bO) (sr _))))) (c7 (eu (i:=14) gC.nd rfl (dM xE (hr.mono (by decide)) rfl aU (aS (IX (IV K rfl) rfl T.oF boot_list (aS (pv 3) bU)) (aS (pv 10) (aS (pv 9) bU))))) (c7 (eu (i:=15) gC.nd rfl (vR (Ja K rfl rfl) rfl T.rG boot_sum (aS (iK ["_law_other"] [("_law_who", 10),("_law_at", 9)] rfl (by with_unfolding_all rfl) (by decide +kernel) rfl (by decide +kernel) (by exact ⟨rfl,⟨rfl,aN⟩⟩) (by with_unfolding_all rfl) ⟨⟨rfl,rfl,rfl⟩,⟨⟨rfl,rfl,rfl⟩,aN⟩⟩ (nK K rfl (pv 3)) (fun _ _ _=>(gu (i:=0) (show (["_law_other", "_law_who", "_law_at"]:List Str).Nodup from by decide +kernel) rfl (by first|left;rfl|right;rfl))) (fun _ _ _=>(Cf (PW.pt (Ju (tZ mJ (bg (fh K rfl) (pv 0) bO (fun _ _=>rfl)) (pv 1) (sr _)) (MF (tZ BR (bg (fh K rfl) (pv 0) bO (fun _ _=>rfl)) (pv 2) (sr _))))))) (fun _ _ _=>(bg (fh K rfl) (pv 0) bO (fun _ _=>rfl)))) bU))) (fL (gy (EM (qM (dM jA (hr.mono (by decide)) rfl aU (aS (bF Ac (bF pS (pv 15) (bg (fh K rfl) (pv 14) bO (fun _ _=>rfl))) (bg (fh K rfl) (pv 14) bO (fun _ _=>rfl))) (aS (bg (fh K rfl) (pv 14) bO (fun _ _=>rfl)) (aS (bg (mU K rfl) (pv 5) (pv 10) (fun _ _=>rfl)) bU)))))) (fL (jy vD)) pR)))) pR)))))) (fL (jy vD))))))))),?_⟩
  show fU _ _ _ [some (.ref sc),none,none,none,none,none,none,none,none,none,none,none,none,none,none,none] H
  refine di fun R hR=>?_
  walk_at "rd"
  refine IY hS (by decide) ⟨_,rfl,hR _ _ ?_⟩
  clear hR
  have w0:0<=jE ns 0 % 3/\jE ns 0 % 3<3:=by omega
  generalize jE ns 0 % 3=way at w0 ⊢
  refine di fun R hR=>?_
  walk_at "rd"
  refine ⟨sc,ns,way,rfl,hS,gI,w0.1,w0.2,fun H1 l ps ss L s1 nl SL Pl n1 n4 sb=>hR _ _ ?_⟩
  clear hR
  have hS:=s1.seq hS
  clear s1 nl
  refine di fun R hR=>?_
  walk_at "rd"
  refine ⟨sc,ns,way,l,ps,ss,rfl,hS,gI,w0.1,w0.2,SL,n1,fun s h=>(sb s h).1,fun k _=>Sw.pG Pl k,fun H2 r rp qs s2 RR ql rk=>hR _ _ ?_⟩
  clear hR
  have SL:=SL.same s2
  clear s2 hS
  have g:Sw.Good 16 1000000 24 44 qs:=⟨Sw.Fv,by omega,rk.pc,rk.pw⟩
  refine di fun R hR=>?_
  walk_at "rd"
  refine Jw (.of SL.hl) fun l1 f1=>?_
  refine ⟨l1,ps,ss,L,rfl,SL.copy f1,Pl,fun wl wp m H4 s4 _ W4 en=>hR _ _ ?_⟩
  clear hR
  have s4:=(cZ (o:=.lst (ps.map V.ref)) f1).trans s4
  have SL:=SL.same s4
  have RR:=RR.same s4
  clear s4 f1
  refine di fun R hR=>?_
  walk_at "rd"
  refine Jw (.of SL.hl) fun l2 f1=>?_
  refine ⟨l2,ps,ss,L,rfl,SL.copy f1,Pl,fun pl pp m' H5 s5 _ P5 Fp=>hR _ _ ?_⟩
  clear hR
  have s5:=(cZ (o:=.lst (ps.map V.ref)) f1).trans s5
  have RR:=RR.same s5
  have W4:=W4.same s5
  clear s5 f1 SL
  refine di fun R hR=>?_
  walk_at "rd"
  refine Jw (.of RR.hl) fun l3 f1=>?_
  refine ⟨16,1000000,24,44,l3,rp,qs,rfl,RR.copy f1,g.F,g.ln,g.pc,g.pw,fun tl tp H6 s6 _ TL=>hR _ _ ?_⟩
  clear hR
  have s6:=(cZ (o:=.lst (rp.map V.ref)) f1).trans s6
  have RR:=RR.same s6
  have W4:=W4.same s6
  have P5:=P5.same s6
  clear s6 f1
  have Lp:=RR.r.len
  have says:=fun {i:Nat} {q:Q4} (e:qs[i]? = some q)=>rk.says g Pl en Fp e
  have zs:=Sw.yG g.F g.ln g.pc g.pw (2*16+1)
  generalize Sw.eX (Sw.endsF (Sw.cE (aX qs (Sw.Ti.nil.tags qs)) (2*16+1) 0 0)) 0 (fun _=>none) qs=us at TL says zs
  refine di fun R hR=>?_
  refine ur fun Z hZ=>?_
  walk_at "rd"
  refine ⟨⟨_,.of RR.hl⟩,hZ _ _ ?_⟩
  clear hZ
  refine My (xs:=rp.map V.ref) (fun i σ H'=>∃ v7 v8 v9 rW z8 IQ IS Hi Hj,σ = [some (.ref sc),some (.int way),some (.ref l),some (.ref r),some (.ref wl),some (.ref pl),some (.ref tl),v7,v8,v9,rW,z8,IQ,IS,Hi,Hj]/\bT H6 H') ⟨none,none,none,none,none,none,none,none,none,rfl,bT.refl _⟩ (fun i σ H' _ ⟨_,_,_,_,_,_,_,_,_,_,sm⟩=>.of (sm _ _ RR.hl)) ?_ ?_
  ·rintro i y σ H7 p hy ⟨v7,v8,v9,rW,z8,IQ,IS,Hi,Hj,rfl,sm⟩ lX
   obtain ⟨px,ud,rfl⟩:∃ p,rp[i]? = some p/\V.ref p=y:=by simpa using hy
   obtain ⟨q,uM,xw⟩:=RR.r.get ud
   have hi:i<qs.length:=(aa.mp uM).1
   obtain ⟨u,k0,hu,kl,e1,BF,vq⟩:=says uM
   obtain ⟨q0,q1,_⟩:=rk.pc q (aq uM)
   obtain ⟨zB,zE⟩:=zs u (aq hu)
   obtain ⟨tpp,t1,tb,te,u1,u2,u3⟩:=TL.item hu
   have sn:=cZ (o:=.tup [.int i,.ref px]) lX
   have sm:=sm.trans sn
   refine ⟨p,_,rfl,.of cO,rfl,_,_,rfl,_,_,rfl,rfl,?_⟩
   show fU _ _ _ [some (.ref sc),some (.int way),some (.ref l),some (.ref r),some (.ref wl),some (.ref pl),some (.ref tl),some (.int i),some (.ref px),v9,rW,z8,IQ,IS,Hi,Hj] _
   generalize aQ H7 p (.tup [.int i,.ref px])=H8 at sm ⊢
   clear sn lX
   refine t7 fun N hN=>?_
   refine di fun R hR=>?_
   walk_at "rd"
   refine ⟨_,.of (sm _ _ xw),rfl,_,_,rfl,_,_,rfl,_,_,rfl,_,_,rfl,rfl,hR _ _ ?_⟩
   clear hR
   refine di fun R hR=>?_
   walk_at "rd"
   refine qP (.of (sm _ _ TL.hl)) t1 (fj (.of (sm _ _ u1)) (v:=.ref te) rfl (hR _ _ ?_))
   clear hR
   have u3:=sm _ _ u3
   have ew:(fr ss.length (Sw.jv ss m))[k0]? = some (Sw.jv ss m k0):=xB _ kl
   obtain ⟨pw,N9,Oc⟩:=Hu W4.r ew
   have Ih:uH (wp.map V.ref) q.2.1=some (.ref pw):=by
    rw [e1]
    exact Aa (by rw [bh,N9]; rfl)
   refine di fun R hR=>?_
   walk_at "rd"
   refine fj (.of u3) (v:=.int u.2.num) rfl ?_
   refine fj (.of u3) (v:=.int (u.2.den:Int)) rfl ?_
   have za:Sw.Sz 70 q.1:=Sw.Sz.j5 (by omega) (by omega)
   refine ⟨_,rfl,⟨za.mono (by decide),zE.d.mono (by decide)⟩,_,rfl,fj (.of u3) (v:=.int (u.2.den:Int)) rfl (qP (.of (sm _ _ W4.hl)) Ih ?_)⟩
   refine ⟨_,_,pw,u.2-(q.1:Rat),_,rfl,sm _ _ Oc,Sw.Sz.sub (n:=2599) (zE.n.mono (by decide)) ((za.mul zE.d).mono (by decide)),zE.d.mono (by decide),Sw.Hq Pl en kl,Sw.iY _,?_,BF,_,rfl,?_⟩
   ·rw [jd,aJ,Sw.iS u.2]
    grind
   rw [if_neg (by decide)]
   refine hR _ _ ?_
   clear hR
   rw [<- e1] at vq
   refine Yq fun G hG=>?_
   have yk:G [some (.ref sc),some (.int way),some (.ref l),some (.ref r),some (.ref wl),some (.ref pl),some (.ref tl),some (.int i),some (.ref px),some (.int q.1),some (.int q.2.1),some (.int q.2.2.1),some (.int q.2.2.2),some (.ref te),Hi,Hj] H8:=hG _ _ (by
    clear hG BF u3 Ih Oc N9 ew
    refine di fun R hR=>?_
    walk_at "rd"
    refine Jw (.of (sm _ _ RR.hl)) fun l4 f4=>?_
    refine ⟨16,1000000,24,44,l4,rp,qs,q.2.1,q.1,rfl,(RR.same sm).copy f4,g,q0,by omega,fun po H9 s9 Es=>hR _ _ ?_⟩
    clear hR
    have sm:=(sm.trans (cZ (o:=.lst (rp.map V.ref)) f4)).trans s9
    have JL:=RR.same sm
    have zg:=FE g q.2.1 q.1
    generalize Sw.gT (aX qs (Sw.Ti.nil.tags qs)) (Sw.fc qs) q.2.1 (q.1:Rat) (2*16+1)=fl at Es zg vq
    refine di fun R hR=>?_
    walk_at "rd"
    refine ⟨⟨_,.of JL.hl⟩,fun D hD=>?_⟩
    show jz _ _ _ _ D [none,some (.int q.2.1),some (.int q.1)] _ _
    refine uq (xs:=rp.map V.ref) (fun m τ H'=>(∃ v1,τ = [v1,some (.int q.2.1),some (.int q.1)])/\bT H9 H'/\H' D=some (.lst ((((qs.take m).filter fun x=>decide (x.2.1=q.2.1/\x.1<=q.1)).map fun x=>x.2.2.1).map V.int))) ⟨⟨none,rfl⟩,cZ hD,by rw [rZ]; exact cO⟩ (fun m τ H' _ ⟨_,sm,_⟩=>.of (sm _ _ JL.hl)) ?_ ?_
    ·rintro m x τ H' hx ⟨⟨v1,rfl⟩,GX,iH⟩
     obtain ⟨pz,Ul,rfl⟩:∃ p,rp[m]? = some p/\V.ref p=x:=by simpa using hx
     obtain ⟨z,hz,Lc⟩:=JL.r.get Ul
     have hm:m<qs.length:=(aa.mp hz).1
     have ll:(((qs.take m).filter fun x=>decide (x.2.1=q.2.1/\x.1<=q.1)).map fun x=>x.2.2.1).length<=m:=by
      rw [ae]
      exact cK (bG _ _) (by rw [bZ]; omega)
     have no:¬ (z.2.1=q.2.1/\z.1<=q.1)->bT H9 H'/\H' D=some (.lst ((((qs.take (m+1)).filter fun x=>decide (x.2.1=q.2.1/\x.1<=q.1)).map fun x=>x.2.2.1).map V.int)):=fun c=>⟨GX,by
      rw [iH,L2.aV hz,cG,ie (by simpa using c),i7,bx]⟩
     walk_at "rd"
     refine fj (v:=.int z.2.1) (.of (GX _ _ Lc)) rfl ⟨rfl,?_⟩
     refine ir (fun c1=>?_) fun c1=>no fun c=>c1 (by rw [c.1])
     have c1:z.2.1=q.2.1:=by injection c1
     refine fj (v:=.int z.1) (.of (GX _ _ Lc)) rfl ⟨_,rfl,?_⟩
     refine ir (fun c2=>?_) fun c2=>no fun c=>c2 c.2
     refine fj (v:=.int z.2.2.1) (.of (GX _ _ Lc)) rfl ?_
     refine ⟨_,iH,cX (by rw [ae]; omega),fun b o e=>?_,?_⟩
     ·rw [c8 (gX e hD)]; exact GX _ _ e
     ·rw [cO,L2.aV hz,cG,jX (by simpa using ⟨c1,c2⟩),i7,ay,ay]; rfl
    rintro τ nQ ⟨_,lH,iH⟩
    rw [ae,Lp,iQ] at iH
    refine ⟨D,_,rfl,.of iH,hR _ _ ?_⟩
    clear hR
    have sb:=RQ (l:=(qs.filter fun x=>decide (x.2.1=q.2.1/\x.1<=q.1)).map fun x=>x.2.2.1) fun x hx=>by
     obtain ⟨z,hz,rfl⟩:=aP.mp hx
     obtain ⟨_,_,a3,a4,_⟩:=rk.pc z (cQ.mp hz).1
     omega
    rw [ae] at sb
    have sl:=bG (fun x:Q4=>decide (x.2.1=q.2.1/\x.1<=q.1)) qs
    generalize ((qs.filter fun x=>decide (x.2.1=q.2.1/\x.1<=q.1)).map fun x=>x.2.2.1).sum=many at sb vq ⊢
    have zm:Sw.Sz 70 many:=Sw.Sz.j5 (by omega) (by omega)
    have ep:(fr ss.length (p6 ss m'))[k0]? = some (p6 ss m' k0):=xB _ kl
    obtain ⟨py,Ga,K5⟩:=Hu P5.r ep
    have Ih:uH (pp.map V.ref) q.2.1=some (.ref py):=by
     rw [e1]
     exact Aa (by rw [bh,Ga]; rfl)
    have Es:=lH _ _ Es
    have sm:=sm.trans lH
    walk_at "rd"
    refine fj (.of Es) (v:=.int (fl.den:Int)) rfl ?_
    refine ⟨_,rfl,⟨zm.mono (by decide),zg.d.mono (by decide)⟩,fj (.of Es) (v:=.int fl.num) rfl ⟨_,rfl,fj (.of Es) (v:=.int (fl.den:Int)) rfl (qP (.of (sm _ _ P5.hl)) Ih ?_)⟩⟩
    refine ⟨_,_,py,(many:Rat)-fl,_,rfl,sm _ _ K5,Sw.Sz.sub (n:=2599) ((zm.mul zg.d).mono (by decide)) (zg.n.mono (by decide)),zg.d.mono (by decide),Y5 Pl Fp kl,Sw.iY _,?_,vq,_,rfl,?_⟩
    ·rw [jd,aJ,Sw.iS fl]
     grind
    rw [if_neg (by decide)]
    exact hN _ _ ⟨_,_,_,_,_,_,_,_,_,rfl,sm⟩)
   walk_at "rd"
   refine ir (fun _=>yk) fun _=>MS (.of (sm _ _ RR.hl)) ⟨_,rfl,ir (fun _=>yk) fun _=>hN _ _ ⟨_,_,_,_,_,_,_,_,_,rfl,sm⟩⟩
  ·rintro σ H7 ⟨v7,v8,v9,rW,z8,IQ,IS,Hi,Hj,rfl,sm⟩
   refine hR _ _ ?_
   walk_at "rd"
   exact k _
end
theorem all_mk {l:oZ} {w:World} {K:ai} {h:Heap} {mg:Str->Option Value} {fa f qa:Addr} (X:K.In h) (G:h.Ns mainGlobals mg) (T9:mg "law" = some (.ref fa)) {od an:Option Addr} {sl:Array (Option Value)} {oc kV dc pm cd ct:Value} (a:CG K mainGlobals "law" = some (some (.ref f))) (lk:K.lookup f=some ⟨oc,od,.func (c9 "law" "law" (wY mP) (t6 mP) (gM mP) .none kV dc pm an cd ct),sl⟩) (c:eU K cd "law" = true) (k:d9 K (.ref f)=true) (T:Txt K mg qa)
    : ∃ fd:FuncData,(∀ (s:Shared) (v:Value),BindsTo s fd ⟨[v],[]⟩ [("_law_script", v)])/\∀ base:Heap,K.In base->base.Ns mainGlobals mg->nN l.prog w K mg base D5 9 fa fd ["_law_script"] (vJ K):=by
  have e:=T9.symm.trans (qR X G a)
  cases e
  exact ⟨c9 "law" "law" (wY mP) (t6 mP) (gM mP) .none kV dc pm an cd ct,fun s v=>.of_eq rfl,fun base _ _=>Zn (HG (st:=mP) lk c k) T⟩
theorem walk {l:oZ} {q:Program} {qD:List Str} {XP:(Str->Option Value)->Heap->Prop} {YP:World->Heap->Prop} {d:DefRec} {K:Params->ai} (hn:l.most=some 63) (FM:d.params.defaults = [])
    (hY:∀ (w:World) (h:Heap),YP w h->(K w.params).In h)
    (F:∀ (w:World) (mg:Str->Option Value) (fa:Addr) (h:Heap),(K w.params).In h->h.Ns mainGlobals mg->mg d.name=some (.ref fa) ->
      ∃ fd:FuncData,(∀ (s:Shared) (u:Value),BindsTo s fd ⟨[u],[]⟩ [("_law_script", u)])/\∀ base:Heap,(K w.params).In base->base.Ns mainGlobals mg->nN l.prog w (K w.params) mg base D5 9 fa fd ["_law_script"] (vJ (K w.params))) :
    Bh q qD XP YP l.row.toRowW d [] (fun f vs=>xK f vs) :=
  L2.A4 (n:=63) (k:=9) (x := "_law_script") (CX:=fun _=>D5) (sp:=fun w=>vJ (K w.params)) hn (by decide) FM ⟨rfl,by decide,by decide⟩ hY F (fun _ _ a ns hl _ hS=>⟨a,ns,rfl,hS,hl,fun _=>rfl⟩) fun _ _ _ _ _ z=>z
end K46
namespace PySem.W.Fast
theorem te339548574725348481:True:=⟨⟩
theorem tw6775581357874340923:True:=⟨⟩
theorem tw12598127122323070238:True:=⟨⟩
theorem tw9312033788876519784:True:=⟨⟩
theorem tw17112455492947475490:True:=⟨⟩
theorem tw11699329801711176287:True:=⟨⟩
theorem tw9431580969655621048:True:=⟨⟩
theorem tw9680654972795826684:True:=⟨⟩
theorem tw9188215442671571976:True:=⟨⟩
theorem tw4725751956352096855:True:=⟨⟩
theorem tw12026551342360662567:True:=⟨⟩
theorem tw10561959075510560363:True:=⟨⟩
theorem tw6584224275657384495:True:=⟨⟩
theorem tw16234682176007819886:True:=⟨⟩
theorem tw2075960197855058124:True:=⟨⟩
theorem tw13102029520634798076:True:=⟨⟩
theorem tw7259043875676648522:True:=⟨⟩
theorem tw9750473039269231335:True:=⟨⟩
theorem tw18365678782447866222:True:=⟨⟩
theorem tw15812649827860516792:True:=⟨⟩
theorem tw15722615537267324729:True:=⟨⟩
theorem tw15135000726028140946:True:=⟨⟩
theorem tw9225408229220727639:True:=⟨⟩
theorem tw857614898665342240:True:=⟨⟩
theorem tw4731737904675981079:True:=⟨⟩
theorem tw2619079168815160203:True:=⟨⟩
theorem tw6199038442463763547:True:=⟨⟩
theorem tw7323140351658833518:True:=⟨⟩
theorem tw12320934972543619297:True:=⟨⟩
theorem tw1764658067777002865:True:=⟨⟩
theorem tw3521357334314879119:True:=⟨⟩
theorem tw13763271957207103005:True:=⟨⟩
theorem tw10494459437435572561:True:=⟨⟩
theorem tw7293543405700329751:True:=⟨⟩
theorem tw15452549255365268172:True:=⟨⟩
theorem tw17371150904472388466:True:=⟨⟩
theorem tw17556621161970733347:True:=⟨⟩
theorem tw17494864187503809242:True:=⟨⟩
theorem tw17346679243827003069:True:=⟨⟩
theorem tw2553697486938503379:True:=⟨⟩
theorem tw17353865084179472133:True:=⟨⟩
theorem tw8882023099957685686:True:=⟨⟩
theorem tw4388376091867050770:True:=⟨⟩
theorem tw12358743433076921089:True:=⟨⟩
theorem tw11010549799591303424:True:=⟨⟩
theorem tw5195399982453716338:True:=⟨⟩
theorem tw9457380911098935576:True:=⟨⟩
end PySem.W.Fast
open PySem PySem.W PyProof.Rows
set_option maxRecDepth 100000 in
set_option maxHeartbeats 0 in
theorem PySem.Challenge.cw_sharewheel_k46_whole_never_above_the_pla_holds : PySem.Challenge.rw_sharewheel_k46_whole_never_above_the_pla.Holds := by
  w_on; o_law; k_head; (case hw=>w_witness2)
  k_fill
  refine K46.walk (l:=PySem.Challenge.rw_sharewheel_k46_whole_never_above_the_pla) rfl rfl (fun w h Y=>PySem.W.kIn_of Y) ?F
  case F =>
    intro w mg fa h KX G FZ
    refine' K46.all_mk KX G FZ ?a ?l ?c ?k ?T
    (case a=>k_is)
    (case l=>k_is)
    (case c=>k_is)
    (case k=>k_is)
    case T =>
      apply K46.Txt.mk
      iterate 9 (· (refine' PySem.W.mg_none_of KX G ?_; k_is))
      iterate 34 (· (refine' L2.Dt KX G ?a ?l ?c ?k ?b; (case a=>k_is); (case l=>k_is); (case c=>k_is); (case k=>k_is); (case b=>first | exact fun _ _ _ _ _ _=>L2.HZ fun _=>rfl | exact fun _ _ _ _ _ _=>L2.Ia fun _ _=>rfl | exact fun _ _ _ _ _ _=>L2.Nr fun _ _ _=>rfl | exact fun _ _ _ _ _ _=>L2.Nt fun _ _ _ _=>rfl | exact fun _ _ _ _ _ _=>L2.To fun _ _ _ _ _=>rfl)))
      · (refine' qR KX G ?_; k_is)
      · (refine' ⟨?a,?b,?c,?d⟩; (case a=>k_is); (case b=>k_is); (case c=>k_is); (case d=>k_is))
      iterate 4 (· (show cJ _ _ _ = _; k_is))
      · (refine' L2.in_of ?a ?f ?l ?c ?k ?b ?m ?n; (case a=>k_is); (case f=>k_is); (case l=>k_is); (case c=>k_is); (case k=>k_is); (case m=>k_is); (case n=>k_is); (case b=>first | exact fun _ _ _ _ _ _=>L2.HZ fun _=>rfl | exact fun _ _ _ _ _ _=>L2.Ia fun _ _=>rfl))
      iterate 2 (· (refine' L2.Gr ?a ?f ?l ?c ?k ?b; (case a=>k_is); (case f=>k_is); (case l=>k_is); (case c=>k_is); (case k=>k_is); (case b=>first | exact fun _ _ _ _ _ _=>L2.HZ fun _=>rfl | exact fun _ _ _ _ _ _=>L2.Ia fun _ _=>rfl)))

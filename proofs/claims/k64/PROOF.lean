import PyProof.Rows.All
import Wide.All
import OpenK.AllK
import Wide.FinOn
import Lean
import PyProof.EqAt
import PyProof.EqKinds
import PyProof.TupleCall
import PySem.Challenge.RW_sharewheel_k64_curbs_on_one_way
set_option Elab.async false
set_option linter.all false
set_option maxRecDepth 100000
open PySem.W renaming Frag→aa, findIn→aF, keepIn→aO, fnOf→bC, excIn→bS, codeIn→c9, mg_of→eK, emptyDict→eN, instObj→fR, tailIn→gg, callWith_K→gm, isFn→gq, hasDictIn→gH, makesIn→ir, takerIn→iu, specialIn→iX, typeIn→iY, mroIn→jw, tail_of_in→kE, plainGet→l9, nsIn→mK, methodCall_KW→nh, InstAt→ou, lookIn→oz, plainGet_of→pD, methodObj→rR, OpenLaw→uz, takesIn→uA, subIn→xJ, cellsFrom_some→yQ, hideAll_none→AF, looks_findIn→AG, callWith_K0→Br, hideAll_get→Bs, of_hideAll→CH, plainOver→DE, handedIn→D7, bind_fn→Fq, findCls→Ft, hideAll→Fv, readsIn→Fw, WalkO→HP
open List renaming mem_cons_of_mem→ae, length_map→ai, mem_cons_self→aj, mem_cons→ak, mem_append→ao, mem_singleton→au, mem_map→av, map_cons→ay, map_append→aA, mem_append_right→aB, nodup_cons→aG, not_mem_nil→aI, append_nil→aJ, getElem?_eq_some_iff→aL, getElem?_map→aP, size_toArray→aQ, length_take→aY, length_append→bg, mem_of_getElem?→bh, map_congr_left→br, length_cons→bw, take_length→bF, length_nil→bG, getElem?_eq_getElem→bK, nodup_append→bO, find?_cons→bR, mem_flatMap→dR, mem_append_left→dY, map_map→eI, sum_cons→eO, cons_append→fc, mem_reverse→fg, mem_filter→fF, filter_cons→fK, mem_filterMap→fN, length_filter_le→fO, length_reverse→gh, filter_append→gB, getElem_mem→g6, mem_of_find?_eq_some→g8, filterMap_cons→iq, append_of_mem→iU, length→iV, lookup→iW, flatMap_cons→jf, map_nil→jg, replicate→jh, take_of_length_le→ji, all_eq_true→jI, any_eq_true→jJ, length_drop→jK, perm_middle→jL, eq_nil_of_length_eq_zero→jQ, mem_of_mem_take→jR, nil_append→ko, flatMap_append→kD, getD_eq_getElem?_getD→ly, getElem?_append_right→lA, append_assoc→lZ, map_id→l7, any_cons→mG, getElem?_cons_succ→mS, getElem?_cons_zero→mT, find?_some→n8, filterMap_append→oU, getElem?_eq_none→oV, mem_range→pS, find?_eq_none→sN, getElem?_take→sO, set_cons_succ→sP, set_cons_zero→sQ, any_eq_false→t8, take_add_one→t9, take_succ_eq_append_getElem→ua, getElem_inj→vy, lookup_cons→vz, of_mem_zip→wF, nodup_nil→yy, range→yz, getElem?_append_left→yN, getElem?_take_of_lt→Ad, length_filterMap_le→Ae, map_drop→Af, map_take→Ag, getElem?_replicate→AB, length_eq_zero_iff→AD, any_map→Bp, getElem?_set_self→Bq, getElem?_reverse→CD, perm_append_comm→CF, getElem?_set_ne→Dz, mem_iff_getElem→DA, mem_of_mem_drop→DB, filter_eq_self→DZ, contains_cons→Fl, find?_append→Gi, getElem_take→Gj, reverse_cons→Gk, drop_length→HL, flatMap_nil→HM, filter_nil→Jy, take_succ→Ll
open Option.some renaming inj→aq, injEq→Ai
open Nat renaming le_refl→az, lt_of_lt_of_le→aM, ne_of_lt→aZ, le_trans→bL, zero_le→bZ, lt_irrefl→gf, le_succ→gC, lt_succ_of_lt→gW, le_of_lt→om, ne_of_gt→oq, pow_le_pow_right→qt, Coprime→wH, min_eq_left→xF, two_pow_pos→xG, lt_of_le_of_lt→Gm, lt_succ_self→JA, reduceLeDiff→JB, succ_le_succ→JC, succ_ne_self→JD
open Sum renaming inr→aC, inl→uB
open Rat renaming intCast_mul→aK, intCast_le_intCast→bV, min_def→fB, intCast_lt_intCast→gG, le_trans→jn, le_refl→jY, mul_le_mul_of_nonneg_left→jZ, intCast_add→kF, intCast_sub→kG, le_of_lt→oA, div_lt_iff→qv, max_def→qw, not_lt→tL, mul_le_mul_of_nonneg_right→vR, intCast_inj→xK, lt_div_iff→yR, div_def→Ea, le_ceil→Eb, le_iff_lt_or_eq→Fx, mul_inv_cancel→Go, sub_eq_add_neg→Gq, den_intCast→Lm, num_intCast→Ln
open Int renaming emod_lt_of_pos→aN, emod_nonneg→aW, le_refl→dG, mul_ne_zero→fX, le_of_lt→gF, mul_nonneg→jk, ediv_mul_cancel→kM, mul_le_mul→lH, lt_or_le→nZ, natAbs_dvd_natAbs→pe, toNat_of_nonneg→rO, mul_nonneg_of_nonpos_of_nonpos→tE, natAbs_natCast→tF, mul_comm→ur, mul_le_mul_of_nonneg_right→vJ, neg_dvd→wE, ediv_eq_of_eq_mul_right→yx, eq_ofNat_of_zero_le→Bm, fdiv_eq_ediv_of_dvd→Bo, ediv_neg→CC, mul_ediv_cancel'→DV, natAbs→Ge, dvd_mul_right→HK, dvd_antisymm→Jt, reduceToNat→Lj
open Bool renaming false_ne_true→aV, and_eq_true→bY, eq_iff_iff→eU, false_eq_true→fM, not_eq_true'→tZ, true_eq_false→Fj, false_and→Lg, not_false→Lh
open PySem.SeqAt renaming shaped→aX, canLay_of_shaped→jm
open True renaming intro→bB
open PySem.F renaming plainAttrs_list→bH, slot_list_append→dN, type_list_append→dO, excBase_ValueError→eM, slot_dict_values→ia, plainAttrs_dict→iA, slot_dict_pop→m9, args_dict_values_1→vQ, entry_dict_values→wI, type_dict_values→xH, args_dict_pop_3→yC, slot_dict_items→yD, entry_dict_pop→yP, slot_list_pop→Aj, type_list_pop→Ak
open False renaming elim→bI
open PySem renaming Spec→bN, mem_of_lookup→eS, evalArgs_none→ku, Within→AH, call→D9
open Ne renaming symm→b9
open Option renaming isSome_iff_exists→fY, map_some→m7, toList_none→rE, isSome_map→sR, map_eq_some_iff→Ah, getD_none→Fp
open Sum.inr renaming inj→gj
open PyProof.Rows renaming callWith_type1→jv
open Array renaming length_toList→kj, getElem?_eq_some_iff→kP, getElem?_toList→nY, append_assoc→DT
open ForInStep renaming yield→mF
open Classical renaming byContradiction→vv
open List.Perm renaming trans→Dv
open List.cons renaming injEq→Dw
open Or renaming imp→DC
open Prod.mk renaming injEq→HN
open Eq renaming symm→Jr
namespace L2
open PySem PySem.Spec PyProof.Rows
abbrev Key:=Sum Int Str
def wR:Key->Value->Bool
 | .inl k,v=>Value.isInt k v
 | .inr x,v=>Value.isStrOf x v
def SX(w:World):Key->Int
 | .inl k=>hashInt k
 | .inr x=>hashStr w x
theorem F3:∀{k:Key}{v:Value},wR k v=true->(∃i t,k=uB i/\v=Value.int i t)\/(∃x t,k=aC x/\v=Value.str x t)
 | .inl i,v,h=>by obtain⟨t,e⟩:=Value.isInt_shape (k:=i) (v:=v) h;exact .inl ⟨i,t,rfl,e⟩
 | .inr x,v,h=>by obtain⟨t,e⟩:=Value.isStrOf_shape (x:=x) (v:=v) h;exact .inr ⟨x,t,rfl,e⟩
theorem ztf(i:Int)(t:Tok):wR (.inl i) (.int i t)=true:=by simp[wR,Value.isInt]
theorem ztg(x:Str)(t:Tok):wR (.inr x) (.str x t)=true:=by simp[wR,Value.isStrOf]
theorem UE(a b:Int):decide ((uB a:Key)=uB b)=(a ==b):=by
 by_cases e:a=b
 ·subst e;simp
 ·have h:¬(uB a:Key)=uB b:=fun q=>e (Sum.inl.inj q);rw[decide_eq_false h];exact(beq_eq_false_iff_ne.mpr e).symm
theorem UF(a b:Str):decide ((aC a:Key)=aC b)=decide (a=b):=by
 by_cases e:a=b
 ·subst e;simp
 ·have h:¬(aC a:Key)=aC b:=fun q=>e (gj q);rw[decide_eq_false h,decide_eq_false e]
theorem UG(a:Int)(b:Str):decide ((uB a:Key)=aC b)=false:=decide_eq_false (fun q=>nomatch q)
theorem UH(a:Str)(b:Int):decide ((aC a:Key)=uB b)=false:=decide_eq_false (fun q=>nomatch q)
def nS(prog:Program)(w:World):PySem.KeyKind prog w Key where
 is:=wR
 hash:=SX w
 inj:=fun v a b ha hb=>by
  rcases F3 ha with⟨i,t,rfl,rfl⟩ |⟨x,t,rfl,rfl⟩
  ·rcases F3 hb with⟨j,u,rfl,e⟩ |⟨y,u,rfl,e⟩
   ·injection e with e1 _;rw[e1]
   ·exact nomatch e
  ·rcases F3 hb with⟨j,u,rfl,e⟩ |⟨y,u,rfl,e⟩
   ·exact nomatch e
   ·injection e with e1 _;rw[e1]
 byValue:=fun k v h=>by rcases F3 h with⟨i,t,rfl,rfl⟩ |⟨x,t,rfl,rfl⟩ <;> rfl
 pyHash:=fun hv h=>by
  rcases F3 hv with⟨i,t,rfl,rfl⟩ |⟨x,t,rfl,rfl⟩
  ·exact wpAny_pyHash_int h
  ·exact wpAny_pyHash_str h
 eqBool:=fun hu hv h=>by
  rcases F3 hu with⟨i,t,rfl,rfl⟩ |⟨x,t,rfl,rfl⟩
  ·rcases F3 hv with⟨j,u,rfl,rfl⟩ |⟨y,u,rfl,rfl⟩
   ·rw[UE]at h;exact wpAny_eqBool_int h
   ·rw[UG]at h;exact SeqAt.EqAt.int_str i t y u _ _ _ _ h
  ·rcases F3 hv with⟨j,u,rfl,rfl⟩ |⟨y,u,rfl,rfl⟩
   ·rw[UH]at h;exact SeqAt.EqAt.str_int x t j u _ _ _ _ h
   ·rw[UF]at h;exact wpAny_eqBool_str h
 «strs»:=fun k x t v h=>by
  rcases F3 h with⟨i,u,rfl,e⟩ |⟨y,u,rfl,e⟩
  ·exact nomatch e
  ·injection e with e1 _
   subst e1;cases v <;> rfl
theorem zqa(prog:Program)(w:World)(i:Int)(t:Tok):(nS prog w).is (.inl i) (.int i t)=true:=ztf i t
theorem zqb(prog:Program)(w:World)(x:Str)(t:Tok):(nS prog w).is (.inr x) (.str x t)=true:=ztg x t
inductive V where
 |cy|bl (b:Bool) |int (i:Int) |str (x:Str) |Bx (b:Array UInt8) |FG (b:UInt64) |ref (a:Addr) |ty (n:String)
 deriving DecidableEq
def RelV:V->Value->Prop
 | .cy,u=>u=Value.none
 | .bl b,u=>u=Value.bool b
 | .int i,u=>∃t,u=Value.int i t
 | .str x,u=>∃t,u=Value.str x t
 | .Bx b,u=>∃t,u=Value.bytes b t
 | .FG b,u=>∃t,u=Value.float b t
 | .ref a,u=>u=Value.ref a
 | .ty n,u=>u=Value.type n
abbrev cj:List V->List Value->Prop:=Paired RelV
theorem cj.length{xs:List V}{us:List Value}(r:cj xs us):xs.length=us.length:=Paired.length r
theorem cj.get:∀{xs:List V}{us:List Value}{i:Nat}{x:V},cj xs us->xs[i]?=some x->∃u,us[i]?=some u/\RelV x u
 |_,_,_,_,.nil,e=>by simp at e
 |_,_,0,_,.cons r _,e=>by simp at e;subst e;exact⟨_,rfl,r⟩
 |_,_,i+1,x,.cons _ t,e=>by obtain⟨u,h1,h2⟩:=cj.get (i:=i) (x:=x) t (by simpa using e);exact⟨u,by simpa using h1,h2⟩
theorem cj.set{x:V}{u:Value}(r:RelV x u):∀{xs:List V}{us:List Value}(i:Nat),cj xs us->cj (xs.set i x) (us.set i u)
 |_,_,_,.nil=>.nil
 |_,_,0,.cons _ t=>.cons r t
 |_,_,i+1,.cons q t=>.cons q (cj.set r i t)
theorem cj.append:∀{xs ys:List V}{us ws:List Value},cj xs us->cj ys ws->cj (xs++ys) (us++ws)
 |_,_,_,_,.nil,s=>s
 |_,_,_,_,.cons r t,s=>.cons r (cj.append t s)
theorem cj.take:∀{xs:List V}{us:List Value}(n:Nat),cj xs us->cj (xs.take n) (us.take n)
 |_,_,0,_=>.nil
 |_,_,_+1,.nil=>.nil
 |_,_,n+1,.cons r t=>.cons r (cj.take n t)
theorem cj.drop:∀{xs:List V}{us:List Value}(n:Nat),cj xs us->cj (xs.drop n) (us.drop n)
 |_,_,0,r=>r
 |_,_,_+1,.nil=>.nil
 |_,_,n+1,.cons _ t=>cj.drop n t
def kU:Option V->Option Value->Prop
 |some v,some u=>RelV v u
 |none,none=>True
 |_,_=>False
def KV{κ:Type}:List (κ×V)->List (κ×Value)->Prop:=Paired fun(p:κ×V)(q:κ×Value)=>p.1=q.1/\RelV p.2 q.2
def kV:Key->V
 | .inl i=>.int i
 | .inr x=>.str x
inductive HO where
 |lst (xs:List V)
 |tup (xs:List V)
 |dK (kvs:List (Key×V)) |dT (kvs:List (List Key×V))
 |set (S:Int->Bool) (n:Nat)
 |ins (C dx:Addr) (fs:List (Str×V))
 |own (x:Addr)
 |xd (fs:List (Str×V))
 |met (f x:Addr)
 |Qe (lo hi:Int)
 |jx (o:Obj) (u:HO)
 |Ja (ps:Array Value)
 |ext (φ:Heap->Prop)
abbrev Hp:=Addr->Option HO
def upd(H:Hp)(a:Addr)(o:HO):Hp:=fun b=>if b=a then some o else H b
theorem bX{H:Hp}{a:Addr}{o:HO}:upd H a o a=some o:=by unfold upd;rw[if_pos rfl]
theorem bM{H:Hp}{a b:Addr}{o:HO}(h:b≠a):upd H a o b=H b:=by unfold upd;rw[if_neg h]
theorem Aa{H:Hp}{a:Addr}{o u:HO}:upd (upd H a o) a u=upd H a u:=by funext b;unfold upd;split <;> rfl
theorem b8{H:Hp}{a b:Addr}{o u:HO}(h:H a=some o)(h':H b=some u)(d:o≠u):a≠b:=by intro e;subst e;rw[h]at h';exact d (aq h')
theorem i8{H:Hp}{a b:Addr}{o:HO}(h:H a=some o)(h':H b=none):a≠b:=by intro e;subst e;rw[h]at h';cases h'
section
variable(P:Program)(w:World)
def fT(H:Hp)(h:Heap)(a:Addr):HO->Prop
  | .lst xs=>xs.length<=sizeLine/\∃(b7:List Value)(n:Nat),cj xs b7/\h.get? a=some {cls:=.type "list",data:=.seq b7.toArray n}
  | .tup xs=>xs.length<=sizeLine/\∃b7:List Value,cj xs b7/\IsTup h a b7.toArray
  | .dK kvs=>kvs.length<=sizeLine/\(a ==sysModules)=false/\∃vs,KV kvs vs/\h.DictOf (nS P w) a vs
  | .dT kvs=>kvs.length<=sizeLine/\(a ==sysModules)=false/\∃xs:List (List Key×Addr×Value),
      Paired (fun(p:List Key×V)(q:List Key×Addr×Value)=>p.1=q.1/\H q.2.1=some (.tup (p.1.map kV))/\RelV p.2 q.2.2) kvs xs/\
      ∃o es ep,h.get? a=some o/\o.ExactDict/\o.data= .dict es ep/\es.toList=xs.map (entryOfKey (tupleKind (nS P w)))/\(xs.map (·.1)).Nodup
  | .set S n=>h.SetOf (intKind P w) a S n
  | .ins C dx fs=>H dx=some (.own a)/\fs.length<=1000/\dx≠a/\h.get? a=some (fR C dx)/\
      ∃mA,h.Ns1 dx mA/\(∀f,kU (fs.lookup f) (mA f))/\AH mA (fs.map (·.1))
  | .own _=>∃o,h.get? a=some o
  | .xd fs=>∃mA,h.Ns1 a mA/\∀f,kU (fs.lookup f) (mA f)
  | .Qe lo hi=>∃t u v,h.get? a=some {cls:=.type "range",data:=.fields #[.int lo t,.int hi u,.int 1 v]}
  | .jx o u=>h.get? a=some o/\fT H h a u
  | .Ja ps=>h.get? a=some {cls:=.none,data:=.fields ps}
  | .met f x=>h.get? a=some (rR (.ref f) (.ref x))
  | .ext φ=>φ h/\(∃o,h.get? a=some o)/\∀h1 h2:Heap,φ h1->(∀o,h1.get? a=some o->h2.get? a=some o)->φ h2
def kL(H:Hp)(h:Heap):Prop:=∀a o,H a=some o->fT P w H h a o
end
section
variable{P:Program}{w:World}{H H':Hp}{h h':Heap}{a:Addr}{o:HO}
theorem fT.lt(x:fT P w H h a o):a<h.objs.size:=by
 cases o with
 |lst xs=>obtain⟨_,_,_,_,e⟩:=x;exact Heap.lt_size e
 |tup xs=>obtain⟨_,_,_,p⟩:=x;exact p.lt
 |dK kvs=>obtain⟨_,_,_,_,o,_,_,e,_⟩:=x;exact Heap.lt_size e
 |dT kvs=>obtain⟨_,_,_,_,o,_,_,e,_⟩:=x;exact Heap.lt_size e
 |set S n=>obtain⟨o,_,_,_,e,_⟩:=x;exact Heap.lt_size e
 |ins C dx fs=>obtain⟨_,_,_,e,_⟩:=x;exact Heap.lt_size e
 |own y=>obtain⟨_,e⟩:=x;exact Heap.lt_size e
 |xd fs=>obtain⟨_,⟨_,_,_,e,_⟩,_⟩:=x;exact Heap.lt_size e
 |Qe lo hi=>obtain⟨_,_,_,e⟩:=x;exact Heap.lt_size e
 |jx ob u=>obtain⟨e,_⟩:=x;exact Heap.lt_size e
 |Ja ps=>exact Heap.lt_size (show h.get? a=some _ from x)
 |met f y=>exact Heap.lt_size (show h.get? a=some _ from x)
 |ext φ=>obtain⟨_,⟨_,e⟩,_⟩:=x;exact Heap.lt_size e
theorem Paired.G0{α β:Type}{F G:α->β->Prop}:∀{l₁:List α}{l₂:List β},Paired F l₁ l₂->(∀a b,F a b->G a b)->Paired G l₁ l₂
 |_,_,.nil,_=>.nil
 |_,_,.cons r t,f=>.cons (f _ _ r) (Paired.G0 t f)
theorem fT.iS(x:fT P w H h a o)(k:∀b u,(b=a\/H b=some (.own a))->h.get? b=some u->h'.get? b=some u)(ho:∀b,H b=some (.own a)->H' b=some (.own a))(ht:∀b xs,H b=some (.tup xs)->H' b=some (.tup xs)):fT P w H' h' a o:=by
  induction o with
  |lst xs=>obtain⟨z,b7,n,r,e⟩:=x;exact⟨z,b7,n,r,k _ _ (.inl rfl) e⟩
  |tup xs=>obtain⟨z,b7,r,ob,e,c⟩:=x;exact⟨z,b7,r,ob,k _ _ (.inl rfl) e,c⟩
  |dK kvs=>obtain⟨z,y,vs,r,ob,es,ep,e,c⟩:=x;exact⟨z,y,vs,r,ob,es,ep,k _ _ (.inl rfl) e,c⟩
  |dT kvs=>
    obtain⟨z,y,xs,r,ob,es,ep,e,c⟩:=x;exact⟨z,y,xs,Paired.G0 r fun p q z=>⟨z.1,ht _ _ z.2.1,z.2.2⟩,ob,es,ep,k _ _ (.inl rfl) e,c⟩
  |set S n=>obtain⟨ob,es,ep,t,e,c⟩:=x;exact⟨ob,es,ep,t,k _ _ (.inl rfl) e,c⟩
  |ins C dx fs=>
    obtain⟨d,z,ne,e,mA,⟨od,es,ep,e2,c⟩,r⟩:=x;exact⟨ho _ d,z,ne,k _ _ (.inl rfl) e,mA,⟨od,es,ep,k _ _ (.inr d) e2,c⟩,r⟩
  |own y=>obtain⟨ob,e⟩:=x;exact⟨ob,k _ _ (.inl rfl) e⟩
  |xd fs=>obtain⟨mA,⟨od,es,ep,e,c⟩,r⟩:=x;exact⟨mA,⟨od,es,ep,k _ _ (.inl rfl) e,c⟩,r⟩
  |Qe lo hi=>obtain⟨t,u,v,e⟩:=x;exact⟨t,u,v,k _ _ (.inl rfl) e⟩
  |jx ob u ih=>obtain⟨e,q⟩:=x;exact⟨k _ _ (.inl rfl) e,ih q⟩
  |Ja ps=>
    have e:h.get? a=some {cls:=.none,data:=.fields ps}:=x;show h'.get? a=some {cls:=.none,data:=.fields ps};exact k a _ (.inl rfl) e
  |met f y=>
    have e:h.get? a=some (rR (.ref f) (.ref y)):=x;show h'.get? a=some (rR (.ref f) (.ref y));exact k a _ (.inl rfl) e
  |ext φ=>obtain⟨p,⟨o,e⟩,st⟩:=x;exact⟨st _ _ p fun o q=>k _ _ (.inl rfl) q,⟨o,k _ _ (.inl rfl) e⟩,st⟩
theorem kL.lt(x:kL P w H h)(e:H a=some o):a<h.objs.size:=(x a o e).lt
theorem kL.fresh(x:kL P w H h)(e:h.objs.size<=a):H a=none:=by
 cases q:H a with
 |none=>rfl
 |some u=>exact absurd (aM (x.lt q) e) (gf _)
theorem kL.kept(x:kL P w H h)(k:∀b u,h.get? b=some u->h'.get? b=some u):kL P w H h':=fun a o e=>
 (x a o e).iS (fun b u _ q=>k b u q) (fun _ q=>q) fun _ _ q=>q
theorem kL.laid(x:kL P w H h)(k:∀b u,h.get? b=some u->h'.get? b=some u)(hp:h.objs.size<=a)(new:fT P w (upd H a o) h' a o):kL P w (upd H a o) h':=fun b u e=>by
 have hn:=x.fresh hp;by_cases hb:b=a
 ·subst hb;rw[bX]at e;cases e;exact new
 ·rw[bM hb]at e;exact(x b u e).iS (fun c v _ q=>k c v q) (fun c q=>by rw[bM (i8 q hn)];exact q) fun c xs q=>by rw[bM (i8 q hn)];exact q
end
def Rd(H:Hp)(a:Addr)(u:HO):Prop:=H a=some u\/∃o,H a=some (.jx o u)
theorem Rd.ok{P:Program}{w:World}{H:Hp}{h:Heap}{a:Addr}{u:HO}(r:Rd H a u)(x:kL P w H h):fT P w H h a u:=by
 rcases r with r|⟨o,r⟩
 ·exact x a u r
 ·obtain⟨_,q⟩:=x a _ r;exact q
def Ml:Option HO->Prop
 |some (.lst _)=>True
 |some (.dK _)=>True
 |some (.dT _)=>True
 |some (.set _ _)=>True
 |some (.ins _ _ _)=>True
 |some (.ext _)=>True
 |_=>False
section
variable{P:Program}{w:World}{H:Hp}{h h':Heap}{x e:Addr}{o':HO}
theorem kL.write(ok:kL P w H h)(mu:Ml (H x))(he:e=x\/H e=some (.own x))(k:∀b u,b≠e->h.get? b=some u->h'.get? b=some u)(LC:∃u,h'.get? e=some u)(new:fT P w (upd H x o') h' x o'):kL P w (upd H x o') h':=fun b u q=>by
  have Nu:∀c y,H c=some (.own y)->c≠x:=fun c y r z=>by subst z;rw[r]at mu;exact mu
  have Tk:∀c xs,H c=some (.tup xs)->c≠x:=fun c xs r z=>by subst z;rw[r]at mu;exact mu
  by_cases hb:b=x
  · subst hb;rw[bX]at q;cases q;exact new
  · rw[bM hb]at q;by_cases GI:b=e
    · have q':H b=some (.own x):=by
        rcases he with z|z
        · exact absurd (GI.trans z) hb
        · rw[GI];exact z
      rw[q]at q';cases q'
      obtain⟨v,hv⟩:=LC;exact⟨v,by rw[GI];exact hv⟩
    · refine(ok b u q).iS (fun c v hc r=>k c v ?_ r) (fun c r=>by rw[bM (Nu c b r)];exact r) fun c xs r=>by rw[bM (Tk c xs r)];exact r
      rcases hc with rfl|hc
      · exact GI
      · rintro rfl;rcases he with z|z
        · exact Nu c b hc z
        · rw[hc]at z;cases z;exact hb rfl
end
structure Un(fs ex:List Addr)(H H':Hp)(h h':Heap):Prop where
 keep:∀b o,h.get? b=some o->H b=none->b∉fs->b∉ex->h'.get? b=some o
 slot:∀b o,h.get? b=some o->H b=none->b∈fs->b∉ex->∃sl,h'.get? b=some {o with slots:=sl}
 free:∀b o,h.get? b=some o->H b=none->b∉ex->H' b=none
 there:∀b o,h.get? b=some o->b∉ex->∃o',h'.get? b=some o'
 rA:∀b xs,H b=some (.tup xs)->H' b=some (.tup xs)
 mO:∀b o u,H b=some (.jx o u)->H' b=some (.jx o u)
 rj:∀b ps,H b=some (.Ja ps)->∃more,H' b=some (.Ja (ps++more))
section
variable{fs rG ex ex':List Addr}{H H1 H2:Hp}{h h1 h2 h':Heap}{a x e:Addr}{o:HO}
theorem Un.any(u:Un fs ex H H1 h h1){b:Addr}{ob:Obj}(q:h.get? b=some ob)(n:H b=none)(hx:b∉ex):∃sl,h1.get? b=some {ob with slots:=sl}:=by
 by_cases hb:b∈fs
 ·exact u.slot b ob q n hb hx
 ·exact⟨ob.slots,u.keep b ob q n hb hx⟩
theorem Un.kept(k:∀b u,h.get? b=some u->h'.get? b=some u):Un fs ex H H h h':=
 ⟨fun b ob q _ _ _=>k b ob q,fun b ob q _ _ _=>⟨ob.slots,k b ob q⟩,fun _ _ _ n _=>n,fun b ob q _=>⟨ob,k b ob q⟩,fun _ _ q=>q,fun _ _ _ q=>q,fun _ ps q=>⟨#[],by rw[q];simp⟩⟩
theorem Un.refl:Un fs ex H H h h:=Un.kept fun _ _ q=>q
theorem Un.laid(k:∀b u,h.get? b=some u->h'.get? b=some u)(hp:h.objs.size<=a)(hn:H a=none):Un fs ex H (upd H a o) h h' where
 keep:=fun b u q _ _ _=>k b u q
 slot:=fun b u q _ _ _=>⟨u.slots,k b u q⟩
 free:=fun b u q n _=>by rw[bM (aZ (aM (Heap.lt_size q) hp))];exact n
 there:=fun b u q _=>⟨u,k b u q⟩
 rA:=fun b xs q=>by rw[bM (i8 q hn)];exact q
 mO:=fun b u xs q=>by rw[bM (i8 q hn)];exact q
 rj:=fun b ps q=>⟨#[],by rw[bM (i8 q hn),q];simp⟩
theorem Un.write(mu:Ml (H x))(he:e=x\/H e=some (.own x))(k:∀b u,b≠e->h.get? b=some u->h'.get? b=some u)(LC:∃u,h'.get? e=some u):Un fs ex H (upd H x o) h h':=by
 have hx:∀b,H b=none->b≠x:=fun b n z=>by subst z;rw[n]at mu;exact mu
 have hb:∀b,H b=none->b≠e:=fun b n z=>by
  subst z;rcases he with r|r
  ·exact hx b n r
  ·rw[n]at r;cases r
 have hm:∀b u,H b=some u->¬Ml (some u)->b≠x:=fun b u q nm z=>by subst z;rw[q]at mu;exact nm mu
 refine⟨fun b u q n _ _=>k b u (hb b n) q,fun b u q n _ _=>⟨u.slots,k b u (hb b n) q⟩,fun b u q n _=>by rw[bM (hx b n)];exact n,fun b u q _=>?_,
  fun b xs q=>by rw[bM (hm b _ q fun z=>z)];exact q,fun b u xs q=>by rw[bM (hm b _ q fun z=>z)];exact q,fun b ps q=>⟨#[],by rw[bM (hm b _ q fun z=>z),q];simp⟩⟩;by_cases GI:b=e
 ·subst GI;exact LC
 ·exact⟨u,k b u GI q⟩
end
def Qo(h:Heap)(H:Hp):List Addr:=(yz h.objs.size).filter fun a=>(H a).isSome
def xS(h:Heap)(H:Hp):Heap:=Fv h (Qo h H)
theorem zth(h:Heap)(H:Hp):(xS h H).objs.size=h.objs.size:=PySem.W.hideAll_size _ _
theorem zwh{h:Heap}{H:Hp}{b:Addr}{o:Obj}(e:h.get? b=some o)(n:H b=none):(xS h H).get? b=some o:=
 Bs _ e fun hm=>by have q:(H b).isSome=true:=(fF.mp hm).2;rw[n]at q;simp at q
theorem zyy{h:Heap}{H:Hp}{b:Addr}{o:Obj}(e:(xS h H).get? b=some o):h.get? b=some o/\H b=none:=by
 have e':h.get? b=some o:=CH (Qo h H) e;refine⟨e',?_⟩;cases q:H b with
 |none=>rfl
 |some x=>
  have hm:b∈Qo h H:=fF.mpr ⟨pS.mpr (Heap.lt_size e'),by simp[q]⟩;have z:(xS h H).get? b=none:=AF (Qo h H) hm;rw[z]at e;cases e
def zyz(g h:Heap)(L:Addr):List (Addr×Obj):=(yz h.objs.size).filterMap fun a=>if a=L\/(g.get? a).isSome=true then none else(h.get? a).map fun o=>(a,o)
def rest(g h:Heap)(L d:Addr):List (Addr×Obj):=(zyz g h L).filter fun p=>decide (p.1≠d)
structure Mod(K:aa)(mg:Str->Option Value)(base:Heap):Prop where
 FP:K.In base
 glob:base.Ns mainGlobals mg
 blt:∃mb,base.Ns builtinsNs mb/\∀x:Str,x≠ "__name__"->mb x=bootBuiltins x
 nolimit:base.NoLimit
structure Cx where
 prog:Program
 w:World
 K:aa
 mg:Str->Option Value
 base:Heap
 A:Around
 N:List Str
 s₀:Shared
 H₀:Hp
 env:Env
 outer:List Env
 stack:List Env
 ex:List Addr
 fn:Str->Bool
 calm:Bool
 pn:List (Addr×Obj)
 xe:Value->Shared->Prop
def uc(l:List Env):List Addr:=l.filterMap (·.frame)
abbrev Cx.fs(X:Cx):List Addr:=uc X.outer
def Rm(sc:Scope)(x:Str):Prop:=sc.names.lookup x=some .local\/sc.names.lookup x=some .cell\/sc.names.lookup x=some .free
def Loc(sc:Scope)(x:Str):Prop:=sc.names.lookup x=some .local\/sc.names.lookup x=some .cell
def Look(env:Env)(h:Heap)(m:Str->Option Value)(x:Str)(u:Value):Prop:=
 (env.kindOf x=some .local/\m x=some u)\/((env.kindOf x=some .cell\/env.kindOf x=some .free)/\∃c,env.cells.lookup x=some c/\h.IsCell c (some u))
structure Cx.Ok(X:Cx):Prop where
 mod:Mod X.K X.mg X.base
 kind:X.env.scope.kind= .function
 glob:X.env.globals=mainGlobals
 blt:X.env.builtins=builtinsNs
 above:X.s₀.heap.objs.size<=X.env.locals
 inj:∀x y c,X.env.cells.lookup x=some c->X.env.cells.lookup y=some c->x=y
 has:∀x,(X.env.kindOf x=some .cell\/X.env.kindOf x=some .free)->∃c,X.env.cells.lookup x=some c
 HU:∀x c,X.fn x=true->X.env.cells.lookup x=some c->X.s₀.heap.objs.size<=c
 hd:X.calm=true->X.A.handled=none
 frames:X.A.frames=some X.stack
 KU:X.stack=X.outer\/(X.stack=X.env::X.outer/\X.env.frame=some X.env.locals)
 GA:∀b∈X.ex,b≠X.env.locals/\∀x c,X.env.cells.lookup x=some c->c≠b
 bs:∀b o,X.base.get? b=some o->X.s₀.heap.get? b=some o/\X.H₀ b=none
 DG:X.base.objs.size<=X.s₀.heap.objs.size
 zF:∀b o,X.base.get? b=some o->b∉X.ex
 xP:∀b∈X.ex,b∉X.fs
 mj:X.s₀.heap.FunFrames X.base X.outer
 FH:∀b∈X.fs,X.H₀ b=none
structure Inv(X:Cx)(ah:List (Addr×Obj))(σ:List (Option V))(H:Hp)(s:Shared):Prop where
 ok:X.Ok
 os:s.os=X.s₀.os
 bare:AllBare s.gens
 base:Un X.fs X.ex X.H₀ H X.s₀.heap s.heap
 loc:∃m,s.heap.Ns X.env.locals m/\∀(i:Nat)(x:Str)(v:V),X.N[i]?=some x->σ[i]?=some (some v)->Rm X.env.scope x->∃u,RelV v u/\Look X.env s.heap m x u
 cell:∀x c,X.env.cells.lookup x=some c->∃v,s.heap.IsCell c v
 free:H X.env.locals=none
 j3:∀x c,X.env.cells.lookup x=some c->H c=none
 pin:∀p∈X.pn++ah,s.heap.get? p.1=some p.2/\H p.1=none/\p.1≠X.env.locals/\p.1∉X.fs/\∀v,p.2.data≠.cell v
 eB:kL X.prog X.w H s.heap
 len:σ.length=X.N.length
section
variable{X:Cx}{ah:List (Addr×Obj)}{σ:List (Option V)}{H H':Hp}{s:Shared}{h':Heap}
theorem Cx.Ok.Te(ok:X.Ok){b:Addr}{o:Obj}(e:X.base.get? b=some o):b∉X.fs:=fun hb=>by have:=(ok.mj.mem hb).1;rw[e]at this;cases this
theorem Inv.bs(I:Inv X ah σ H s):∀b o,X.base.get? b=some o->s.heap.get? b=some o/\H b=none:=fun b o e=>
 ⟨I.base.keep b o (I.ok.bs b o e).1 (I.ok.bs b o e).2 (I.ok.Te e) (I.ok.zF b o e),I.base.free b o (I.ok.bs b o e).1 (I.ok.bs b o e).2 (I.ok.zF b o e)⟩
theorem Inv.bk(I:Inv X ah σ H s):∀b o,X.base.get? b=some o->s.heap.get? b=some o:=fun b o e=>(I.bs b o e).1
theorem Inv.mod(I:Inv X ah σ H s):Mod X.K X.mg X.base:=I.ok.mod
theorem Inv.rH(I:Inv X ah σ H s):X.K.In s.heap:=I.ok.mod.FP.keeps I.bk
theorem Inv.lt(I:Inv X ah σ H s):X.env.locals<s.heap.objs.size:=let⟨_,hn,_⟩:=I.loc;hn.lt
theorem Inv.sz(I:Inv X ah σ H s):X.s₀.heap.objs.size<=s.heap.objs.size:=bL I.ok.above (om I.lt)
theorem Inv.Tf(I:Inv X ah σ H s){a:Addr}(h:s.heap.objs.size<=a):a∉X.fs:=fun hb=>by obtain⟨_,o,ho,_⟩:=I.ok.mj.mem hb;exact absurd (aM (Heap.lt_size ho) (bL I.sz h)) (gf _)
theorem Inv.JK(I:Inv X ah σ H s):∀x c,X.env.cells.lookup x=some c->c≠X.env.locals:=fun x c e z=>by obtain⟨v,o,ho,hd⟩:=I.cell x c e;obtain⟨m,⟨o',es,ep,CP,Sc,_⟩,_⟩:=I.loc;rw[z,CP]at ho;cases ho;rw[Sc]at hd;cases hd
theorem Inv.mj(I:Inv X ah σ H s):s.heap.FunFrames X.base X.outer:=by
 have all:∀(l:List Env),(∀b∈uc l,b∈X.fs)->X.s₀.heap.FunFrames X.base l->s.heap.FunFrames X.base l:=by
  intro l
  induction l with
  |nil=>intro _ _;trivial
  |cons env r ih=>
   intro hs hl;obtain⟨hk,⟨L,o,hf,hn,ho,hd⟩,hr⟩:=hl;have hL:L∈X.fs:=hs L (by unfold uc;rw[iq,hf];exact aj);obtain⟨sl,e⟩:=I.base.slot L o ho (I.ok.FH L hL) hL fun z=>I.ok.xP L z hL;exact⟨hk,⟨L,_,hf,hn,e,hd⟩,ih (fun b hb=>hs b (by unfold uc;rw[iq,hf];exact ae _ hb)) hr⟩
 exact all X.outer (fun _ hb=>hb) I.ok.mj
theorem Inv.stack(I:Inv X ah σ H s):s.heap.FunFrames X.base X.stack:=by
 rcases I.ok.KU with e|⟨e,hf⟩
 ·rw[e];exact I.mj
 ·rw[e];obtain⟨m,hn,_⟩:=I.loc;refine .cons (by rw[I.ok.kind];decide) hf hn ?_ I.mj;exact Heap.get?_none_of_le (bL I.ok.DG I.ok.above)
theorem Inv.sC(I:Inv X ah σ H s):∀b∈uc X.stack,b∈X.env.locals::X.fs:=fun b hb=>by
 rcases I.ok.KU with e|⟨e,hf⟩
 ·rw[e]at hb;exact ae _ hb
 ·rw[e]at hb;unfold uc at hb;rw[iq,hf]at hb;exact hb
theorem Inv.yh(I:Inv X ah σ H s):∀b∈uc X.stack,H b=none:=fun b hb=>by
 rcases ak.mp (I.sC b hb)with e|hb
 ·rw[e];exact I.free
 ·obtain⟨_,o,ho,_⟩:=I.ok.mj.mem hb;exact I.base.free b o ho (I.ok.FH b hb) fun z=>I.ok.xP b z hb
theorem Inv.step{g':Array GenState}{t':Nat}{d':Drawn}{ch:List Addr}(I:Inv X ah σ H s)(CO:∀b∈ch,(b∈X.ex\/X.s₀.heap.objs.size<=b)/\b≠X.env.locals/\(∀x c,X.env.cells.lookup x=some c->c≠b)/\∀p∈X.pn++ah,p.1≠b)(keep:∀b o,b≠X.env.locals->b∉X.fs->b∉ch->s.heap.get? b=some o->H b=none->h'.get? b=some o)(slot:∀b o,b≠X.env.locals->b∈X.fs->b∉ch->s.heap.get? b=some o->H b=none->∃sl,h'.get? b=some {o with slots:=sl})(free:∀b o,b∉ch->s.heap.get? b=some o->H b=none->H' b=none)(there:∀b o,b∉ch->s.heap.get? b=some o->∃o',h'.get? b=some o')(rA:∀b xs,H b=some (.tup xs)->H' b=some (.tup xs))(mO:∀b o u,H b=some (.jx o u)->H' b=some (.jx o u))(rj:∀b ps,H b=some (.Ja ps)->∃more,H' b=some (.Ja (ps++more)))(ns:∀m,s.heap.Ns X.env.locals m->h'.Ns X.env.locals m)(eB:kL X.prog X.w H' h')(hg:AllBare g'):
    Inv X ah σ H' {s with heap:=h',gens:=g',drawn:=d',toks:=t'}:=by
  have Xe:∀b o,X.s₀.heap.get? b=some o->b≠X.env.locals:=fun b o e=>aZ (aM (Heap.lt_size e) I.ok.above);have DJ:∀b o,X.s₀.heap.get? b=some o->b∉X.ex->b∉ch:=fun b o e hx hb=>by
    rcases(CO b hb).1 with z|z
    · exact hx z
    · exact absurd (aM (Heap.lt_size e) z) (gf _)
  have yW:∀x c,X.env.cells.lookup x=some c->∀v,s.heap.IsCell c v->h'.IsCell c v:=fun x c e v⟨o,ho,hd⟩=>by
    have Ip:c∉ch:=fun z=>(CO c z).2.2.1 x c e rfl;by_cases hc:c∈X.fs
    · obtain⟨sl,q⟩:=slot c o (I.JK x c e) hc Ip ho (I.j3 x c e);exact⟨_,q,hd⟩
    · exact⟨o,keep c o (I.JK x c e) hc Ip ho (I.j3 x c e),hd⟩
  refine⟨I.ok,I.os,hg,⟨fun b o e n hb hx=>?_,fun b o e n hb hx=>?_,fun b o e n hx=>?_,fun b o e hx=>?_,fun b xs e=>rA b xs (I.base.rA b xs e),fun b o xs e=>mO b o xs (I.base.mO b o xs e),fun b ps e=>?_⟩,?_,fun x c e=>?_,?_,fun x c e=>?_,fun p hp=>?_,eB,I.len⟩
  · exact keep b o (Xe b o e) hb (DJ b o e hx) (I.base.keep b o e n hb hx) (I.base.free b o e n hx)
  · obtain⟨sl,e1⟩:=I.base.slot b o e n hb hx;obtain⟨sl',e2⟩:=slot b _ (Xe b o e) hb (DJ b o e hx) e1 (I.base.free b o e n hx);exact⟨sl',e2⟩
  · obtain⟨o',e1⟩:=I.base.there b o e hx;exact free b o' (DJ b o e hx) e1 (I.base.free b o e n hx)
  · obtain⟨o',e1⟩:=I.base.there b o e hx;exact there b o' (DJ b o e hx) e1
  · obtain⟨m1,e1⟩:=I.base.rj b ps e;obtain⟨m2,e2⟩:=rj b _ e1;exact⟨m1++m2,by rw[e2,DT]⟩
  · obtain⟨m,hn,hl⟩:=I.loc;refine⟨m,ns m hn,fun i x v e1 e2 e3=>?_⟩;obtain⟨u,r,l⟩:=hl i x v e1 e2 e3;refine⟨u,r,?_⟩;rcases l with l|⟨k,c,e,z⟩
    · exact .inl l
    · exact .inr ⟨k,c,e,yW x c e _ z⟩
  · obtain⟨v,z⟩:=I.cell x c e;exact⟨v,yW x c e v z⟩
  · obtain⟨m,⟨o,_,_,ho,_⟩,_⟩:=I.loc;exact free _ o (fun z=>(CO _ z).2.1 rfl) ho I.free
  · obtain⟨v,o,ho,hd⟩:=I.cell x c e;exact free c o (fun z=>(CO c z).2.2.1 x c e rfl) ho (I.j3 x c e)
  · obtain⟨e,n,ne,nf,d⟩:=I.pin p hp;have Ip:p.1∉ch:=fun z=>(CO p.1 z).2.2.2 p hp rfl;exact⟨keep p.1 p.2 ne nf Ip e n,free p.1 p.2 Ip e n,ne,nf,d⟩
theorem Inv.un{t':Nat}(I:Inv X ah σ H s)(u:Un X.fs [] H H' s.heap h')(eB:kL X.prog X.w H' h'):Inv X ah σ H' {s with heap:=h',toks:=t'}:=by
 obtain⟨m,⟨o,es,ep,ho,r⟩,_⟩:=id I.loc;obtain⟨sl,hL⟩:=u.any ho I.free (by simp);exact I.step (g':=s.gens) (d':=s.drawn) (ch:=[]) (fun _ z=>nomatch z) (fun b o _ hb _ e n=>u.keep b o e n hb (by simp)) (fun b o _ hb _ e n=>u.slot b o e n hb (by simp)) (fun b o _ e n=>u.free b o e n (by simp)) (fun b o _ e=>u.there b o e (by simp)) u.rA u.mO u.rj (fun m' hm=>by
  obtain⟨o',RC,RB,CP,r'⟩:=hm;rw[ho]at CP;cases CP
  exact⟨_,RC,RB,hL,r'⟩) eB I.bare
theorem Inv.call{g':Array GenState}{t':Nat}{d':Drawn}{ch:List Addr}(I:Inv X ah σ H s)(u:Un (uc X.stack) ch H H' s.heap h')(eB:kL X.prog X.w H' h')(hg:AllBare g')(CO:∀b∈ch,(b∈X.ex\/X.s₀.heap.objs.size<=b)/\b≠X.env.locals/\(∀x c,X.env.cells.lookup x=some c->c≠b)/\∀p∈X.pn++ah,p.1≠b):
    Inv X ah σ H' {s with heap:=h',gens:=g',drawn:=d',toks:=t'}:=by
  obtain⟨m,⟨o,es,ep,ho,r⟩,_⟩:=id I.loc;obtain⟨sl,hL⟩:=u.any ho I.free fun z=>(CO _ z).2.1 rfl;exact I.step (ch:=ch) CO (fun b o hL hb hc e n=>u.keep b o e n (fun z=>(ak.mp (I.sC b z)).elim hL hb) hc) (fun b o _ _ hc e n=>u.any e n hc) (fun b o hc e n=>u.free b o e n hc) (fun b o hc e=>u.there b o e hc) u.rA u.mO u.rj (fun m' hm=>by
    obtain⟨o',RC,RB,CP,r'⟩:=hm;rw[ho]at CP;cases CP
    exact⟨_,RC,RB,hL,r'⟩) eB hg
theorem Inv.turned{t':Nat}{it:Addr}(I:Inv X ah σ H s)(k:∀b o,b≠it->s.heap.get? b=some o->h'.get? b=some o)(hn:H it=none)(hL:it≠X.env.locals)(h1:it∈X.ex\/X.s₀.heap.objs.size<=it)(h2:∀x c,X.env.cells.lookup x=some c->c≠it)(h3:∀p∈X.pn++ah,p.1≠it):Inv X ah σ H {s with heap:=h',toks:=t'}:=by
  have Nq:∀b u,H b=some u->b≠it:=fun b u e z=>by rw[z,hn]at e;cases e
  refine I.step (g':=s.gens) (d':=s.drawn) (ch:=[it]) (fun b hb=>?_) (fun b o _ _ hc e _=>k b o (fun z=>hc (by simp[z])) e) (fun b o _ _ hc e _=>⟨o.slots,k b o (fun z=>hc (by simp[z])) e⟩) (fun _ _ _ _ n=>n)
    (fun b o hc e=>⟨o,k b o (fun z=>hc (by simp[z])) e⟩) (fun _ _ e=>e) (fun _ _ _ e=>e) (fun b ps e=>⟨#[],by rw[e];simp⟩) (fun m hm=>?_) (fun b u e=>?_) I.bare
  · have e:b=it:=by simpa using hb
    subst e;exact⟨h1,hL,h2,h3⟩
  · obtain⟨o,es,ep,ho,r⟩:=hm;exact⟨o,es,ep,k _ o (b9 hL) ho,r⟩
  · refine(I.eB b u e).iS (fun c v hc q=>k c v ?_ q) (fun _ q=>q) fun _ _ q=>q;rcases hc with z|z
    · rw[z];exact Nq b u e
    · exact Nq c _ z
theorem Inv.tok(I:Inv X ah σ H s)(t:Nat):Inv X ah σ H {s with toks:=t}:=I.un (h':=s.heap) (t':=t) Un.refl I.eB
theorem Inv.kept{t':Nat}(I:Inv X ah σ H s)(k:∀b u,s.heap.get? b=some u->h'.get? b=some u):Inv X ah σ H {s with heap:=h',toks:=t'}:=I.un (Un.kept k) (I.eB.kept k)
theorem Inv.laid{a:Addr}{o:HO}{t':Nat}(I:Inv X ah σ H s)(k:∀b u,s.heap.get? b=some u->h'.get? b=some u)(hp:s.heap.objs.size<=a)(new:fT X.prog X.w (upd H a o) h' a o):
    Inv X ah σ (upd H a o) {s with heap:=h',toks:=t'}:=I.un (Un.laid k hp (I.eB.fresh hp)) (I.eB.laid k hp new)
theorem Inv.write{x e:Addr}{o:HO}{t':Nat}(I:Inv X ah σ H s)(mu:Ml (H x))(he:e=x\/H e=some (.own x))(k:∀b u,b≠e->s.heap.get? b=some u->h'.get? b=some u)(LC:∃u,h'.get? e=some u)(new:fT X.prog X.w (upd H x o) h' x o):Inv X ah σ (upd H x o) {s with heap:=h',toks:=t'}:=I.un (Un.write mu he k LC) (I.eB.write mu he k LC new)
theorem Inv.BP{BO:List (Addr×Obj)}(I:Inv X ah σ H s)(h:∀p∈BO,s.heap.get? p.1=some p.2/\H p.1=none/\p.1≠X.env.locals/\p.1∉X.fs/\∀v,p.2.data≠.cell v):Inv X BO σ H s:=
 ⟨I.ok,I.os,I.bare,I.base,I.loc,I.cell,I.free,I.j3,fun p hp=>(ao.mp hp).elim (fun z=>I.pin p (dY _ z)) (h p),I.eB,I.len⟩
theorem Z2{N:List Str}(hN:N.Nodup){i j:Nat}{x:Str}(a:N[i]?=some x)(b:N[j]?=some x):i=j:=by obtain⟨h1,e1⟩:=aL.mp a;obtain⟨h2,e2⟩:=aL.mp b;exact(vy hN).mp (e1.trans e2.symm)
theorem Zw {M:Model} {A:Around} {E:Value->Shared->Prop} {i:Nat} {x:Str} {v:V} {u:Value} {Q:Unit->Shared->Prop} (I:Inv X ah σ H s) (hN:X.N.Nodup) (hi:X.N[i]? = some x) (hx:Loc X.env.scope x) (r:RelV v u)
    (h:∀ s',Inv X ah (σ.set i (some v)) H s'->(∃ a,Heap.SameBut a s.heap s'.heap/\(a=X.env.locals\/X.env.cells.lookup x=some a))->Q () s') (hf:X.fn x=true\/X.env.scope.names.lookup x=some .local:=by first | exact .inl rfl | exact .inr rfl | assumption):wpAny M A (storeName X.env x u) Q E s:=by
  obtain ⟨m,hn,hl⟩:=id I.loc
  have Sa:(X.env.scope.kind == .class || (X.env.scope.kind == .module && X.env.locals != X.env.globals))=false:=by rw [I.ok.kind]; rfl
  have WR:i < σ.length:=by rw [I.len]; exact (aL.mp hi).1
  have JK:=I.JK
  have Cq:∀ {a:Addr} {h':Heap},(∃ o,s.heap.get? a=some o/\H a=none)->Heap.SameBut a s.heap h'->kL X.prog X.w H h':=fun {a h'} ha hs b ob e=>by
    obtain ⟨_,_,Ie⟩:=ha
    refine (I.eB b ob e).iS (fun c w' hc q=>(hs.2 c ?_).trans q) (fun _ q=>q) fun _ _ q=>q
    rintro rfl
    rcases hc with rfl | hc
    · rw [Ie] at e; cases e
    · rw [Ie] at hc; cases hc
  rcases hx with hk | hk
  · refine wpAny_storeName_local hk hn (fun h' AR hs=>?_) Sa
    obtain ⟨oL,_,_,hoL,_⟩:=id hn
    refine h _ ⟨I.ok,I.os,I.bare,⟨fun b o e n hb hx=>?_,fun b o e n hb hx=>?_,I.base.free,fun b o e hx=>?_,I.base.rA,I.base.mO,I.base.rj⟩,⟨_,AR,fun j y v' e1 e2 e3=>?_⟩,fun y c e=>?_,I.free,I.j3,fun p hp=>?_,Cq ⟨oL,hoL,I.free⟩ hs,by simpa using I.len⟩ ⟨_,hs,.inl rfl⟩
    · exact (hs.2 b (aZ (aM (Heap.lt_size e) I.ok.above))).trans (I.base.keep b o e n hb hx)
    · obtain ⟨sl,e1⟩:=I.base.slot b o e n hb hx
      exact ⟨sl,(hs.2 b (aZ (aM (Heap.lt_size e) I.ok.above))).trans e1⟩
    · obtain ⟨o',e1⟩:=I.base.there b o e hx
      exact ⟨o',(hs.2 b (aZ (aM (Heap.lt_size e) I.ok.above))).trans e1⟩
    · by_cases hj:j=i
      · subst hj
        rw [hi] at e1; cases e1
        rw [Bq WR] at e2
        cases e2
        exact ⟨u,r,.inl ⟨hk,by simp⟩⟩
      · rw [Dz (b9 hj)] at e2
        obtain ⟨u',r',q⟩:=hl j y v' e1 e2 e3
        refine ⟨u',r',?_⟩
        rcases q with ⟨k,e⟩ | ⟨k,c,e,z⟩
        · refine .inl ⟨k,?_⟩
          have:y≠x:=fun e=>hj (Z2 hN e1 (e ▸ hi))
          simp [this,e]
        · exact .inr ⟨k,c,e,z.sameBut hs (JK y c e)⟩
    · obtain ⟨w',z⟩:=I.cell y c e
      exact ⟨w',z.sameBut hs (JK y c e)⟩
    · obtain ⟨e,n,ne,nf,d⟩:=I.pin p hp
      exact ⟨(hs.2 p.1 ne).trans e,n,ne,nf,d⟩
  · have Se:X.fn x=true:=by
      rcases hf with z | z
      · exact z
      · rw [z] at hk; cases hk
    obtain ⟨c,hc⟩:=I.ok.has x (.inl hk)
    obtain ⟨w',z⟩:=I.cell x c hc
    refine wpAny_storeName_cell I.ok.kind hk hc z (fun h' BF hs=>?_)
    obtain ⟨oc,WZ,Sy⟩:=id z
    refine h { s with heap:=h' } ⟨I.ok,I.os,I.bare,⟨fun b o e n hb hx=>?_,fun b o e n hb hx=>?_,I.base.free,fun b o e hx=>?_,I.base.rA,I.base.mO,I.base.rj⟩,⟨m,hn.sameBut hs (b9 (JK x c hc)),fun j y v' e1 e2 e3=>?_⟩,fun y c' e=>?_,I.free,I.j3,fun p hp=>?_,Cq ⟨oc,WZ,I.j3 x c hc⟩ hs,by simpa using I.len⟩ ⟨c,hs,.inr hc⟩
    · exact (hs.2 b (aZ (aM (Heap.lt_size e) (I.ok.HU x c Se hc)))).trans (I.base.keep b o e n hb hx)
    · obtain ⟨sl,e1⟩:=I.base.slot b o e n hb hx
      exact ⟨sl,(hs.2 b (aZ (aM (Heap.lt_size e) (I.ok.HU x c Se hc)))).trans e1⟩
    · obtain ⟨o',e1⟩:=I.base.there b o e hx
      exact ⟨o',(hs.2 b (aZ (aM (Heap.lt_size e) (I.ok.HU x c Se hc)))).trans e1⟩
    · by_cases hj:j=i
      · subst hj
        rw [hi] at e1; cases e1
        rw [Bq WR] at e2
        cases e2
        exact ⟨u,r,.inr ⟨.inl hk,c,hc,BF⟩⟩
      · rw [Dz (b9 hj)] at e2
        obtain ⟨u',r',q⟩:=hl j y v' e1 e2 e3
        refine ⟨u',r',?_⟩
        rcases q with q | ⟨k,c',e,z'⟩
        · exact .inl q
        · refine .inr ⟨k,c',e,z'.sameBut hs ?_⟩
          rintro rfl
          exact hj (Z2 hN e1 (I.ok.inj _ _ _ e hc ▸ hi))
    · by_cases WN:c'=c
      · subst WN; exact ⟨_,BF⟩
      · obtain ⟨w2,z2⟩:=I.cell y c' e
        exact ⟨w2,z2.sameBut hs WN⟩
    · obtain ⟨e,n,ne,nf,d⟩:=I.pin p hp
      refine ⟨(hs.2 p.1 ?_).trans e,n,ne,nf,d⟩
      intro q
      rw [q,WZ] at e
      have q':oc=p.2:=aq e
      exact d w' (by rw [<- q']; exact Sy)
theorem Z3{M:Model}{A:Around}{E:Value->Shared->Prop}{i:Nat}{x:Str}{v:V}{u:Value}{Q:Unit->Shared->Prop}(I:Inv X ah σ H s)(hN:X.N.Nodup)(hi:X.N[i]?=some x)(hx:Loc X.env.scope x)(r:RelV v u)(h:∀s',Inv X ah (σ.set i (some v)) H s'->Q () s')(hf:X.fn x=true\/X.env.scope.names.lookup x=some .local:=by first|exact .inl rfl|exact .inr rfl|assumption):wpAny M A (storeName X.env x u) Q E s:=
  Zw I hN hi hx r (fun s' I' _=>h s' I') hf
theorem Inv.By{s':Shared}{ch:List Addr}(I:Inv X ah σ H s)(ho:s'.os=s.os)(u:Un (uc X.stack) ch H H' s.heap s'.heap)(eB:kL X.prog X.w H' s'.heap)(hg:AllBare s'.gens)(CO:∀b∈ch,(b∈X.ex\/X.s₀.heap.objs.size<=b)/\b≠X.env.locals/\(∀x c,X.env.cells.lookup x=some c->c≠b)/\∀p∈X.pn++ah,p.1≠b):Inv X ah σ H' s':=by
  obtain⟨h',g',d',t',o'⟩:=s';have e:o'=s.os:=ho;subst e;exact I.call (g':=g') (t':=t') (d':=d') u eB hg CO
end
abbrev XK:=Value->Option Addr->Hp->Prop
abbrev St:=List (Option V)
abbrev VK:=V->Hp->Prop
abbrev TE:=St->Hp->VK->Prop
abbrev TT:=St->Hp->(Bool->Hp->Prop)->Prop
abbrev TA:=St->Hp->(List V->Hp->Prop)->Prop
structure Ends where
 nx:St->Hp->Prop
 rt:VK
 bk:St->Hp->Prop:=fun _ _=>False
 ct:St->Hp->Prop:=fun _ _=>False
abbrev TS:=Ends->St->Hp->Prop
def EP(X:Cx)(ah:List (Addr×Obj))(σ:St)(Q:VK)(u:Value)(s':Shared):Prop:=∃v H',Inv X ah σ H' s'/\RelV v u/\Q v H'
def TP(X:Cx)(ah:List (Addr×Obj))(σ:St)(Q:Bool->Hp->Prop)(b:Bool)(s':Shared):Prop:=∃H',Inv X ah σ H' s'/\Q b H'
def AP(X:Cx)(ah:List (Addr×Obj))(σ:St)(Q:List V->Hp->Prop)(us:List Value)(s':Shared):Prop:=∃vs H',Inv X ah σ H' s'/\cj vs us/\Q vs H'
def SP(X:Cx)(ah:List (Addr×Obj))(D:Ends)(f:Flow)(s':Shared):Prop:=
 match f with
 | .next=>∃σ' H',Inv X ah σ' H' s'/\D.nx σ' H'
 | .brk=>∃σ' H',Inv X ah σ' H' s'/\D.bk σ' H'
 | .cont=>∃σ' H',Inv X ah σ' H' s'/\D.ct σ' H'
 | .ret u=>∃v σ' H',Inv X ah σ' H' s'/\RelV v u/\D.rt v H'
def PE(X:Cx)(e:Expr)(t:TE):Prop:=
 ∀(ah:List (Addr×Obj))(s:Shared)(σ:St)(H:Hp)(Q:VK),Inv X ah σ H s->t σ H Q->wpAny (model X.prog X.w) X.A (eval e X.env) (EP X ah σ Q) X.xe s
def PT(X:Cx)(e:Expr)(t:TT):Prop:=
 ∀(ah:List (Addr×Obj))(s:Shared)(σ:St)(H:Hp)(Q:Bool->Hp->Prop),Inv X ah σ H s->t σ H Q->wpAny (model X.prog X.w) X.A (isTrue e X.env (eval e X.env)) (TP X ah σ Q) X.xe s
def PW(X:Cx)(e:Expr)(t:TT):Prop:=
 ∀(o7:Sem Value)(ah:List (Addr×Obj))(s:Shared)(σ:St)(H:Hp)(Q:Bool->Hp->Prop),Inv X ah σ H s->t σ H Q->wpAny (model X.prog X.w) X.A (isTrue e X.env o7) (TP X ah σ Q) X.xe s
theorem PW.pt{X:Cx}{e:Expr}{t:TT}(h:PW X e t):PT X e t:=h _
def PA(X:Cx)(es:List Expr)(t:TA):Prop:=
 ∀(pos:Pos)(ah:List (Addr×Obj))(s:Shared)(σ:St)(H:Hp)(Q:List V->Hp->Prop),Inv X ah σ H s->t σ H Q->wpAny (model X.prog X.w) X.A (spliced (backTo pos (starEach es X.env))) (AP X ah σ Q) X.xe s
def PS(X:Cx)(st:Stmt)(t:TS):Prop:=
 ∀(ah:List (Addr×Obj))(s:Shared)(σ:St)(H:Hp)(D:Ends),Inv X ah σ H s->t D σ H->wpAny (model X.prog X.w) X.A (exec st X.env) (SP X ah D) X.xe s
def rQ(X:Cx)(st:List Stmt)(t:TS):Prop:=
 ∀(ah:List (Addr×Obj))(s:Shared)(σ:St)(H:Hp)(D:Ends),Inv X ah σ H s->t D σ H->wpAny (model X.prog X.w) X.A (execs st X.env) (SP X ah D) X.xe s
theorem eJ{α:Type}{t:Sem α}{Q Q':α->Shared->Prop}{M:Model}{A:Around}{E:Value->Shared->Prop}{s:Shared}(h:wpAny M A t Q E s)(hQ:∀a s,Q a s->Q' a s):wpAny M A t Q' E s:=wpAny_mono h hQ fun _ _ x=>x
section
variable{X:Cx}
def wB(i:Nat):TE:=fun σ H Q=>∃v,σ[i]?=some (some v)/\Q v H
def tC(v:V):TE:=fun _ H Q=>Q v H
theorem UI{i:Nat}{x:Str}{pos:Pos}(hN:X.N[i]?=some x)(hv:Rm X.env.scope x)(hd:(x ==("__debug__":Str))=false:=by decide)(pT:(x ==("__classdict__":Str))=false:=by decide):PE X (.Name x pos) (wB i):=by
 intro ah s σ H Q I h;obtain⟨v,e,h⟩:=h;obtain⟨m,hn,hl⟩:=I.loc;obtain⟨u,r,l⟩:=hl i x v hN e hv;have fin:EP X ah σ Q u s:=⟨v,H,I,r,h⟩;rcases l with⟨hk,hm⟩ |⟨hk,c,hc,oY⟩
 ·exact wpAny_Name (wpAny_loadName_local I.ok.kind hk hn hm fin) hd
 ·rcases hk with hk|hk
  ·exact wpAny_Name (wpAny_loadName_cell I.ok.kind hk hc oY fin) hd
  ·exact wpAny_Name (wpAny_loadName_free I.ok.kind hk hc oY fin pT) hd
theorem bU{i j pos}:PE X (.Constant (.int i) j pos) (tC (.int i)):=fun _ _ _ H _ I h=>wpAny_Constant_int ⟨.int i,H,I.tok _,⟨_,rfl⟩,h⟩
theorem jM{b j pos}:PE X (.Constant (.bool b) j pos) (tC (.bl b)):=fun _ _ _ H _ I h=>Constant_bool ⟨.bl b,H,I,rfl,h⟩
theorem sZ{j pos}:PE X (.Constant .none j pos) (tC .cy):=fun _ _ _ H _ I h=>Constant_none ⟨.cy,H,I,rfl,h⟩
theorem lF{x j pos}:PE X (.Constant (.str x) j pos) (tC (.str x)):=fun _ _ _ H _ I h=>Calls.Constant_str ⟨.str x,H,I.tok _,⟨_,rfl⟩,h⟩
def Gl(X:Cx)(x:Str):Prop:=X.env.kindOf x=some .globalImplicit
theorem Jh{E:Value->Shared->Prop}{ah:List (Addr×Obj)}{s:Shared}{σ:St}{H:Hp}{x:Str}{u:Value}{pos:Pos}{Q:Value->Shared->Prop}(I:Inv X ah σ H s)(hg:Gl X x)(hm:X.mg x=some u)(h:Q u s)(hd:(x ==("__debug__":Str))=false:=by decide):wpAny (model X.prog X.w) X.A (eval (.Name x pos) X.env) Q E s:=
  Calls.Name_function_global I.ok.kind hg (Calls.loadGlobal_global (by rw[I.ok.glob];exact I.mod.glob.keeps I.bk) hm h) hd
theorem L5{E:Value->Shared->Prop}{ah:List (Addr×Obj)}{s:Shared}{σ:St}{H:Hp}{x:Str}{u:Value}{pos:Pos}{Q:Value->Shared->Prop}(I:Inv X ah σ H s)(hg:Gl X x)(hm:X.mg x=none)(hv:bootBuiltins x=some u)(h:Q u s)(hn:x≠ "__name__":=by decide)(hd:(x ==("__debug__":Str))=false:=by decide):wpAny (model X.prog X.w) X.A (eval (.Name x pos) X.env) Q E s:=by
  obtain⟨mb,h1,h2⟩:=I.mod.blt;exact Calls.Name_function_global I.ok.kind hg (Calls.loadGlobal_builtin (by rw[I.ok.glob];exact I.mod.glob.keeps I.bk) hm (by rw[I.ok.blt];exact h1.keeps I.bk) ((h2 x hn).trans hv) h) hd
theorem QG{x:Str}{v:V}{u:Value}{pos:Pos}(hg:Gl X x)(hm:X.mg x=some u)(r:RelV v u)(hd:(x ==("__debug__":Str))=false:=by decide):PE X (.Name x pos) (tC v):=
 fun _ _ _ H _ I h=>Jh I hg hm ⟨v,H,I,r,h⟩ hd
variable{a b:Expr}{ta tb:TE}{pos:Pos}
def PC(X:Cx)(op:CmpOp)(a b:Expr)(t:TE):Prop:=
 ∀(ah:List (Addr×Obj))(s:Shared)(σ:St)(H:Hp)(Q:VK),Inv X ah σ H s->t σ H Q->
  wpAny (model X.prog X.w) X.A (eval a X.env) (fun v s₁=>wpAny (model X.prog X.w) X.A (eval b X.env) (fun u s₂=>wpAny (model X.prog X.w) X.A (compareOp op v u) (EP X ah σ Q) X.xe s₂) X.xe s₁) X.xe s
def tB(t:TE):TT:=fun σ H Q=>t σ H fun x H1=>∃c,x= .bl c/\Q c H1
theorem UJ{op:CmpOp}{t:TE}(h:PC X op a b t)(h1:behindInMarks op b=false:=by first|exact EF _ (by decide) (by decide) |rfl):PE X (.Compare a [op] [b] pos) t:=fun ah s σ H Q I hw=>wpAny_Compare1 (h ah s σ H Q I hw) h1
theorem Le{op:CmpOp}{t:TE}(h:PC X op a b t)(h1:behindInMarks op b=false:=by first|exact EF _ (by decide) (by decide) |rfl):PT X (.Compare a [op] [b] pos) (tB t):=by
 intro ah s σ H Q I hw;refine wpAny_isTrue_Compare1 (eJ (h ah s σ H _ I hw) fun v s1 h1=>eJ h1 fun u s2 h2=>eJ h2 fun c s3⟨x,H1,I1,r1,q1⟩=>?_) h1;obtain⟨d,rfl,q⟩:=q1;cases r1
 exact wpAny_truthy_bool ⟨H1,I1,q⟩
theorem Cv{e:Expr}{t:TE}(h:PE X e t)(he:∀o7,isTrue e X.env o7=(do let v <-o7;standAt e.pos;holding [v] (truthy v)):=by intro _;rfl):PT X e (tB t):=by
 intro ah s σ H Q I hw;refine isTrue_plain (eJ (h ah s σ H _ I hw) fun v s1⟨x,H1,I1,r1,q1⟩=>?_) (he _);obtain⟨d,rfl,q⟩:=q1;cases r1
 exact wpAny_truthy_bool ⟨H1,I1,q⟩
variable{tA Qh:TT}{rest:List Expr}
def G9(t u:TT):TT:=fun σ H Q=>t σ H fun c H1=>if c=true then u σ H1 Q else Q false H1
def Qk(t u:TT):TT:=fun σ H Q=>t σ H fun c H1=>if c=true then Q true H1 else u σ H1 Q
def Hi(t:TT):TT:=fun σ H Q=>t σ H fun c H1=>Q (!c) H1
theorem Ji(ha:PT X a tA):PW X (.BoolOp .And [a] pos) tA:=by
 intro wh ah s σ H Q I h;refine isTrue_and (eJ (ha ah s σ H Q I h) fun c s1 e=>?_);cases c with
 |true=>exact isTrue_and_nil e
 |false=>exact e
theorem OV(ha:PT X a tA):PW X (.BoolOp .Or [a] pos) tA:=by
 intro wh ah s σ H Q I h;refine isTrue_or (eJ (ha ah s σ H Q I h) fun c s1 e=>?_);cases c with
 |false=>exact isTrue_or_nil e
 |true=>exact e
theorem F8(ha:PT X a tA)(hb:PW X (.BoolOp .And (b::rest) pos) Qh):PW X (.BoolOp .And (a::b::rest) pos) (G9 tA Qh):=by
 intro wh ah s σ H Q I h;refine isTrue_and (eJ (ha ah s σ H _ I h) fun c s1⟨H1,I1,q1⟩=>?_);cases c with
 |true=>exact hb wh ah s1 σ H1 Q I1 q1
 |false=>exact⟨H1,I1,q1⟩
theorem pw_or(ha:PT X a tA)(hb:PW X (.BoolOp .Or (b::rest) pos) Qh):PW X (.BoolOp .Or (a::b::rest) pos) (Qk tA Qh):=by
 intro wh ah s σ H Q I h;refine isTrue_or (eJ (ha ah s σ H _ I h) fun c s1⟨H1,I1,q1⟩=>?_);cases c with
 |true=>exact⟨H1,I1,q1⟩
 |false=>exact hb wh ah s1 σ H1 Q I1 q1
theorem DR(ha:PT X a tA):PT X (.UnaryOp .Not a pos) (Hi tA):=by intro ah s σ H Q I h;exact isTrue_not (ha ah s σ H (fun c H1=>Q (!c) H1) I h)
def Ch(ta tb:TE):TE:=fun σ H Q=>ta σ H fun x H1=>∃c,x= .bl c/\if c=true then tb σ H1 Q else Q (.bl false) H1
def Hj(ta tb:TE):TE:=fun σ H Q=>ta σ H fun x H1=>∃c,x= .bl c/\if c=true then Q (.bl true) H1 else tb σ H1 Q
def Cn(ta:TE):TE:=fun σ H Q=>ta σ H fun x H1=>∃c,x= .bl c/\Q (.bl (!c)) H1
theorem zyb{op}{t:TE}(h:PE X a t):PE X (.BoolOp op [a] pos) t:=fun ah s σ H Q I hw=>BoolOp_one (h ah s σ H Q I hw)
theorem UK(ha:PE X a ta)(hb:PE X (.BoolOp .And (b::rest) pos) tb):PE X (.BoolOp .And (a::b::rest) pos) (Ch ta tb):=by
 intro ah s σ H Q I h;refine BoolOp_and (eJ (ha ah s σ H _ I h) fun v s1⟨x,H1,I1,r1,q1⟩=>?_);obtain⟨c,rfl,q1⟩:=q1;cases r1
 refine wpAny_truthy_bool ?_;cases c with
 |true=>exact hb ah s1 σ H1 Q I1 q1
 |false=>exact⟨.bl false,H1,I1,rfl,q1⟩
theorem NI(ha:PE X a ta)(hb:PE X (.BoolOp .Or (b::rest) pos) tb):PE X (.BoolOp .Or (a::b::rest) pos) (Hj ta tb):=by
 intro ah s σ H Q I h;refine BoolOp_or (eJ (ha ah s σ H _ I h) fun v s1⟨x,H1,I1,r1,q1⟩=>?_);obtain⟨c,rfl,q1⟩:=q1;cases r1
 refine wpAny_truthy_bool ?_;cases c with
 |false=>exact hb ah s1 σ H1 Q I1 q1
 |true=>exact⟨.bl true,H1,I1,rfl,q1⟩
theorem UL(ha:PE X a ta):PE X (.UnaryOp .Not a pos) (Cn ta):=by
 intro ah s σ H Q I h;refine UnaryOp_ (eJ (ha ah s σ H _ I h) fun v s1⟨x,H1,I1,r1,q1⟩=>?_);obtain⟨c,rfl,q1⟩:=q1;cases r1
 exact not_of (wpAny_truthy_bool ⟨.bl (!c),H1,I1,rfl,q1⟩)
def Qj(t:TT)(ta tb:TE):TE:=fun σ H Q=>t σ H fun c H1=>if c=true then ta σ H1 Q else tb σ H1 Q
theorem Z4{c:Expr}(hc:PT X c tA)(ha:PE X a ta)(hb:PE X b tb):PE X (.IfExp c a b pos) (Qj tA ta tb):=by
 intro ah s σ H Q I h;refine wpAny_IfExp (eJ (hc ah s σ H _ I h) fun d s1⟨H1,I1,q1⟩=>?_);cases d with
 |true=>exact ha ah s1 σ H1 Q I1 q1
 |false=>exact hb ah s1 σ H1 Q I1 q1
end
def iZ(K:aa)(H:Hp)(a:Addr)(xs:List V):Prop:=
 Rd H a (.lst xs)\/
  ∃(o:Obj)(b7:Array Value)(n:Nat),K.lookup a=some o/\o.cls= .type "list"/\o.dict=none/\o.data= .seq b7 n/\b7.size<=sizeLine/\cj xs b7.toList
def yE(K:aa)(H:Hp)(a:Addr)(xs:List V):Prop:=
 Rd H a (.tup xs)\/
  ∃(o:Obj)(b7:Array Value)(n:Nat),K.lookup a=some o/\o.cls= .type "tuple"/\o.data= .seq b7 n/\b7.size<=sizeLine/\cj xs b7.toList
def Rq:Value->Option V
 | .none=>some .cy
 | .bool b=>some (.bl b)
 | .int i _=>some (.int i)
 | .str x _=>some (.str x)
 | .bytes b _=>some (.Bx b)
 | .float b _=>some (.FG b)
 | .ref a=>some (.ref a)
 | .type n=>some (.ty n)
 |_=>none
theorem RelV.abs{x:V}{u:Value}(r:RelV x u):Rq u=some x:=by
 cases x with
 |cy=>cases r;rfl
 |bl _=>cases r;rfl
 |int _=>obtain⟨t,rfl⟩:=r;rfl
 |str _=>obtain⟨t,rfl⟩:=r;rfl
 |Bx _=>obtain⟨t,rfl⟩:=r;rfl
 |FG _=>obtain⟨t,rfl⟩:=r;rfl
 |ref _=>cases r;rfl
 |ty _=>cases r;rfl
theorem RelV.inj{x y:V}{u:Value}(r:RelV x u)(q:RelV y u):x=y:=aq (r.abs.symm.trans q.abs)
theorem cj.inj:∀{xs ys:List V}{us:List Value},cj xs us->cj ys us->xs=ys
 |_,_,_,.nil,.nil=>rfl
 |_,_,_,.cons r t,.cons r' t'=>by rw[r.inj r',cj.inj t t']
section
variable{X:Cx}{ah:List (Addr×Obj)}{σ:St}{H:Hp}{s:Shared}{a:Addr}{xs ys:List V}
theorem iZ.of{K:aa}(h:H a=some (.lst xs)):iZ K H a xs:=.inl (.inl h)
theorem yE.of{K:aa}(h:H a=some (.tup xs)):yE K H a xs:=.inl (.inl h)
theorem Inv.list(I:Inv X ah σ H s)(h:iZ X.K H a xs):∃b7:List Value,cj xs b7/\PlainL s.heap a b7.toArray/\xs.length<=sizeLine:=by
 rcases h with h|⟨o,b7,n,hk,hc,hd,hs,hz,r⟩
 ·obtain⟨z,b7,n,r,e⟩:=h.ok I.eB;exact⟨b7,r,⟨_,n,e,rfl,rfl,rfl⟩,z⟩
 ·refine⟨b7.toList,r,⟨o,n,I.rH a o hk,hc,hd,by simpa using hs⟩,?_⟩;have e:=r.length;simp only[kj]at e;omega
theorem Inv.tuple(I:Inv X ah σ H s)(h:yE X.K H a xs):∃b7:List Value,cj xs b7/\IsTup s.heap a b7.toArray/\xs.length<=sizeLine:=by
 rcases h with h|⟨o,b7,n,hk,hc,hs,hz,r⟩
 ·obtain⟨z,b7,r,p⟩:=h.ok I.eB;exact⟨b7,r,p,z⟩
 ·refine⟨b7.toList,r,⟨o,I.rH a o hk,hc,n,by simpa using hs⟩,?_⟩;have e:=r.length;simp only[kj]at e;omega
theorem Inv.Ez(I:Inv X ah σ H s)(h:iZ X.K H a xs)(h':iZ X.K H a ys):xs=ys:=by
 obtain⟨b7,r,⟨o,n,e,_,_,d⟩,_⟩:=I.list h;obtain⟨its',r',⟨o',n',e',_,_,d'⟩,_⟩:=I.list h';rw[e]at e';cases e'
 rw[d]at d';injection d' with d1 _
 have:b7=its':=by simpa using congrArg Array.toList d1
 subst this;exact r.inj r'
end
abbrev Cx.wC(X:Cx)(E:Value->Shared->Prop):Cx:={X with xe:=E}
abbrev Cx.BL(X:Cx):Cx:=X.wC fun _ _=>False
theorem Cx.Ok.wC{X:Cx}(ok:X.Ok)(E:Value->Shared->Prop):(X.wC E).Ok:=
 ⟨ok.mod,ok.kind,ok.glob,ok.blt,ok.above,ok.inj,ok.has,ok.HU,ok.hd,ok.frames,ok.KU,ok.GA,ok.bs,ok.DG,ok.zF,ok.xP,ok.mj,ok.FH⟩
theorem Cx.Ok.nO{X:Cx}{E:Value->Shared->Prop}(ok:(X.wC E).Ok):X.Ok:=
 ⟨ok.mod,ok.kind,ok.glob,ok.blt,ok.above,ok.inj,ok.has,ok.HU,ok.hd,ok.frames,ok.KU,ok.GA,ok.bs,ok.DG,ok.zF,ok.xP,ok.mj,ok.FH⟩
section
variable{X:Cx}{ah:List (Addr×Obj)}{σ:St}{H:Hp}{s:Shared}{E:Value->Shared->Prop}
theorem Inv.wC(I:Inv X ah σ H s)(E:Value->Shared->Prop):Inv (X.wC E) ah σ H s:=⟨I.ok.wC E,I.os,I.bare,I.base,I.loc,I.cell,I.free,I.j3,I.pin,I.eB,I.len⟩
theorem Inv.nO(I:Inv (X.wC E) ah σ H s):Inv X ah σ H s:=⟨I.ok.nO,I.os,I.bare,I.base,I.loc,I.cell,I.free,I.j3,I.pin,I.eB,I.len⟩
theorem SP.nO{D:Ends}{f:Flow}{s':Shared}(h:SP (X.wC E) ah D f s'):SP X ah D f s':=by
 cases f with
 |next=>obtain⟨σ',H',I,q⟩:=h;exact⟨σ',H',I.nO,q⟩
 |brk=>obtain⟨σ',H',I,q⟩:=h;exact⟨σ',H',I.nO,q⟩
 |cont=>obtain⟨σ',H',I,q⟩:=h;exact⟨σ',H',I.nO,q⟩
 |ret u=>obtain⟨v,σ',H',I,r,q⟩:=h;exact⟨v,σ',H',I.nO,r,q⟩
theorem rQ.BL{st:List Stmt}{t:TS}(h:rQ X.BL st t):rQ X st t:=fun ah s σ H D I hw=>
 wpAny_mono (h ah s σ H D (I.wC _) hw) (fun _ _ q=>q.nO) fun _ _ z=>bI z
end
section
variable{X:Cx}{st:Stmt}{rest:List Stmt}{t u:TS}{e:Expr}{te:TE}{pos:Pos}
def Ck:TS:=fun D σ H=>D.nx σ H
def dW(t u:TS):TS:=fun D σ H=>t {D with nx:=u D} σ H
theorem jP:rQ X [] Ck:=fun _ _ σ H _ I h=>wpAny_execs_nil ⟨σ,H,I,h⟩
theorem dJ(h1:PS X st t)(h2:rQ X rest u):rQ X (st::rest) (dW t u):=by
 intro ah s σ H D I h;refine wpAny_execs_cons (eJ (h1 ah s σ H {D with nx:=u D} I h) fun f s1 q=>?_);cases f with
 |next=>
  obtain⟨σ',H',I',q⟩:=q;exact h2 ah s1 σ' H' D I' q
 |ret v=>exact q
 |brk=>exact q
 |cont=>exact q
theorem dD(h1:PS X st t):rQ X [st] t:=by
 intro ah s σ H D I h;refine wpAny_execs_cons (eJ (h1 ah s σ H D I h) fun f s1 q=>?_);cases f with
 |next=>exact wpAny_execs_nil q
 |ret v=>exact q
 |brk=>exact q
 |cont=>exact q
theorem Inv.quiet{ah:List (Addr×Obj)}{σ:St}{H:Hp}{s:Shared}(I:Inv X ah σ H s):interactive X.env=false:=by simp[interactive,I.ok.kind]
def zZ(te:TE):TS:=fun D σ H=>te σ H fun _ H1=>D.nx σ H1
theorem jV(he:PE X e te)(hs:swapsWith e none pos.line X.env=pure false:=by rfl):PS X (.Expr e pos) (zZ te):=by intro ah s σ H D I h;exact wpAny_Expr_any (eJ (he ah s σ H _ I h) fun v s1⟨x,H1,I1,r1,q1⟩=>⟨σ,H1,I1,q1⟩) I.quiet hs
def jF(te:TE):TS:=fun D σ H=>te σ H D.rt
theorem gZ(he:PE X e te):PS X (.Return (some e) pos) (jF te):=by intro ah s σ H D I h;exact wpAny_Return_some (eJ (he ah s σ H _ I h) fun v s1⟨x,H1,I1,r1,q1⟩=>⟨x,σ,H1,I1,r1,q1⟩)
def Fd:TS:=fun D _ H=>D.rt .cy H
def rh(c:TT)(t u:TS):TS:=fun D σ H=>c σ H fun b H1=>if b=true then t D σ H1 else u D σ H1
theorem dw{c:Expr}{a b:List Stmt}{tc:TT}(hc:PT X c tc)(ha:rQ X a t)(hb:rQ X b u):PS X (.If c a b pos) (rh tc t u):=by
 intro ah s σ H D I h;refine wpAny_If (eJ (hc ah s σ H _ I h) fun d s1⟨H1,I1,q1⟩=>?_);cases d with
 |true=>exact ha ah s1 σ H1 D I1 q1
 |false=>exact hb ah s1 σ H1 D I1 q1
def UM:TS:=fun _ _ _=>False
theorem zwi:PS X st UM:=fun _ _ _ _ _ _ h=>h.elim
end
abbrev TG:=V->St->Hp->(St->Hp->Prop)->Prop
abbrev HQ:=List V->St->Hp->(St->Hp->Prop)->Prop
def PG(X:Cx)(eW:Expr)(t:TG):Prop:=
 ∀(ah:List (Addr×Obj))(s:Shared)(σ:St)(H:Hp)(v:V)(u:Value)(Q:St->Hp->Prop),Inv X ah σ H s->RelV v u->t v σ H Q->
  wpAny (model X.prog X.w) X.A (assign eW X.env u) (fun _ s'=>∃σ' H',Inv X ah σ' H' s'/\Q σ' H') X.xe s
def Mn(X:Cx)(ts:List Expr)(t:HQ):Prop:=
 ∀(ah:List (Addr×Obj))(s:Shared)(σ:St)(H:Hp)(vs:List V)(us:List Value)(Q:St->Hp->Prop),Inv X ah σ H s->cj vs us->t vs σ H Q->
  wpAny (model X.prog X.w) X.A (assignInOrder ((assignEach ts X.env).map (·.2)) us) (fun _ s'=>∃σ' H',Inv X ah σ' H' s'/\Q σ' H') X.xe s
abbrev JF:=V->V->V->Hp->(Hp->Prop)->Prop
def Mp(X:Cx)(t:JF):Prop:=
 ∀(ah:List (Addr×Obj))(s:Shared)(σ:St)(H:Hp)(o i v:V)(ov iv u:Value)(Q:Hp->Prop),Inv X ah σ H s->RelV o ov->RelV i iv->RelV v u->t o i v H Q->
  wpAny (model X.prog X.w) X.A (setItem ov iv u) (fun _ s'=>∃H',Inv X ah σ H' s'/\Q H') X.xe s
section
variable{X:Cx}{pos:Pos}
def nB(i:Nat):TG:=fun v σ H Q=>Q (σ.set i (some v)) H
theorem nX{i:Nat}{x:Str}(hN:X.N.Nodup)(hi:X.N[i]?=some x)(hx:Loc X.env.scope x)(hf:X.fn x=true\/X.env.scope.names.lookup x=some .local:=by first|exact .inl rfl|exact .inr rfl|assumption):PG X (.Name x pos) (nB i):=by intro ah s σ H v u Q I r h;exact wpAny_assign_Name (Z3 I hN hi hx r (fun s' I'=>⟨_,H,I',h⟩) hf)
def Em:HQ:=fun vs σ H Q=>vs=[]/\Q σ H
def wO(t:TG)(u:HQ):HQ:=fun vs σ H Q=>∃v r,vs=v::r/\t v σ H fun σ' H'=>u r σ' H' Q
theorem LV:Mn X [] Em:=by
 intro ah s σ H vs us Q I r h;obtain⟨e,h⟩:=h;subst e;cases r
 exact assignInOrder_nil ⟨σ,H,I,h⟩
theorem Cs{e:Expr}{es:List Expr}{t:TG}{u:HQ}(h1:PG X e t)(h2:Mn X es u)(hs:(assignEach (e::es) X.env).map (·.2)=assign e X.env::(assignEach es X.env).map (·.2):=by rfl):Mn X (e::es) (wO t u):=by
  intro ah s σ H vs us Q I r h;obtain⟨v,vr,e1,h⟩:=h;subst e1;cases r with
  |cons r rr=>
    rw[hs];refine assignInOrder_cons (eJ (h1 ah s σ H _ _ _ I r h) fun _ s1⟨σ1,H1,I1,q1⟩=>?_);exact h2 ah s1 σ1 H1 _ _ Q I1 rr q1
def CN(K:aa)(n:Nat)(t:HQ):TG:=fun v σ H Q=>∃a xs,v= .ref a/\yE K H a xs/\xs.length=n/\t xs σ H Q
theorem UN{es:List Expr}{k:Nat}{t:HQ}{n:Nat}(hc:X.calm=true)(h:Mn X es t)(hn:(assignEach es X.env).length=n:=by rfl)(FL:(assignEach es X.env).findIdx? (·.1)=none:=by rfl):PG X (.Tuple es k pos) (CN X.K n t):=by
  intro ah s σ H v u Q I r hw;obtain⟨a,xs,e1,hq,hl,hw⟩:=hw;subst e1;cases r
  obtain⟨b7,rv,ht,hz⟩:=I.tuple hq;refine assign_Tuple_tuple (I.ok.hd hc) ht (by simp[hn,<-hl,rv.length]) FL fun h' hx=>?_;have I1:Inv X ah σ H {s with heap:=h'}:=I.kept (t':=s.toks) fun b o e=>hx b o (aZ (Heap.lt_size e)) e;exact h ah _ σ H xs _ Q I1 (by simpa using rv) hw
def RT(to ti:TE)(t:JF):TG:=fun v σ H Q=>to σ H fun o H1=>ti σ H1 fun i H2=>t o i v H2 fun H3=>Q σ H3
theorem zyc{o i:Expr}{to ti:TE}{t:JF}(ho:PE X o to)(hi:PE X i ti)(hs:Mp X t)(ha:∀v,assign (.Subscript o i pos) X.env v=(do
      let ov <-holding [v] (eval o X.env);let iv <-holding [v,ov] (eval i X.env)
      standAt pos
      holding [v,ov,iv] (setItem ov iv v)
      release [v,ov,iv] []):=by intro _;rfl):PG X (.Subscript o i pos) (RT to ti t):=by
  intro ah s σ H v u Q I r h;rw[ha];refine wpAny_bind (wpAny_holding (eJ (ho ah s σ H _ I h) fun ov s1⟨x,H1,I1,r1,q1⟩=>?_));refine wpAny_bind (wpAny_holding (eJ (hi ah s1 σ H1 _ I1 q1) fun iv s2⟨y,H2,I2,r2,q2⟩=>?_));refine wpAny_bind (wpAny_standAt (wpAny_bind (wpAny_holding (eJ (hs ah s2 σ H2 x y v ov iv u _ I2 r1 r2 r q2) fun _ s3⟨H3,I3,q3⟩=>?_))));exact wpAny_release ⟨σ,H3,I3,q3⟩
def yi(te:TE)(g:TG):TS:=fun D σ H=>te σ H fun x H1=>g x σ H1 D.nx
theorem zyd{tg e:Expr}{te:TE}{g:TG}(he:PE X e te)(hg:PG X tg g)(hs:swapsWithSole [tg] e pos.line X.env=pure false:=by rfl)(hw:swappedStores [tg] e X.env=pure none:=by rfl)(h1:(assignEach [tg] X.env).map (·.2)=[assign tg X.env]:=by rfl):PS X (.Assign [tg] e pos) (yi te g):=by
  intro ah s σ H D I h;refine wpAny_Assign_stores (eJ (he ah s σ H _ I h) fun v s1⟨x,H1,I1,r1,q1⟩=>?_) hs hw;rw[h1];exact eJ (hg ah s1 σ H1 x v _ I1 r1 q1) fun _ s2 q=>q
theorem UO{i:Nat}{x:Str}{e:Expr}{te:TE}{qT:Pos}(hN:X.N.Nodup)(hi:X.N[i]?=some x)(hx:Loc X.env.scope x)(he:PE X e te)(hs:swapsWith e (some (.Name x qT)) pos.line X.env=pure false:=by rfl)(hf:X.fn x=true\/X.env.scope.names.lookup x=some .local:=by first|exact .inl rfl|exact .inr rfl|assumption):
    PS X (.Assign [.Name x qT] e pos) (yi te (nB i)):=by
  intro ah s σ H D I h;refine wpAny_Assign_Name (eJ (he ah s σ H _ I h) fun v s1⟨y,H1,I1,r1,q1⟩=>?_) hs;exact Z3 I1 hN hi hx r1 (fun s2 I2=>⟨_,H1,I2,q1⟩) hf
def K2(i j:Nat)(ta:TA):TS:=fun D σ H=>ta σ H fun vs H1=>∃v w,vs=[v,w]/\D.nx ((σ.set i (some v)).set j (some w)) H1
end
section
variable{X:Cx}{pos:Pos}
def V6(c:TT)(tb:TS):TS:=fun D σ H=>∃W:Nat->St->Hp->Prop,(∃m,W m σ H)/\∀m σ H,W m σ H->
 c σ H fun b H1=>if b=true then ∃N:St->Hp->Prop,(∀σ' H',N σ' H'->∃m',m' < m/\W m' σ' H')/\tb {D with nx:=N,ct:=N,bk:=D.nx} σ H1 else D.nx σ H1
theorem QA{c:Expr}{body:List Stmt}{tc:TT}{tb:TS}(hp:PassesOwn (model X.prog X.w) X.A X.env X.xe)(hc:PT X c tc)(hb:rQ X body tb):PS X (.While c body [] pos) (V6 tc tb):=by
 intro ah s σ H D I h;obtain⟨W,⟨m0,w0⟩,sG⟩:=h;refine wpAny_While (codeAny_whileLoop (fun n s'=>∃σ' H',Inv X ah σ' H' s'/\W n σ' H') ?_ m0 ⟨σ,H,I,w0⟩);rintro n s1 ⟨σ1,H1,I1,w1⟩;refine wpAny_passesOwn hp (eJ (hc ah s1 σ1 H1 _ I1 (sG n σ1 H1 w1)) fun b s2⟨H2,I2,q2⟩=>?_);cases b with
 |true=>
  obtain⟨N,hN,q2⟩:=q2;rw[if_pos rfl];refine wpAny_passesOwn hp (eJ (hb ah s2 σ1 H2 _ I2 q2) fun f s3 q3=>?_);cases f with
  |next=>
   obtain⟨σ3,H3,I3,n3⟩:=q3;obtain⟨m',hm,w3⟩:=hN σ3 H3 n3;exact⟨m',hm,σ3,H3,I3,w3⟩
  |cont=>
   obtain⟨σ3,H3,I3,n3⟩:=q3;obtain⟨m',hm,w3⟩:=hN σ3 H3 n3;exact⟨m',hm,σ3,H3,I3,w3⟩
  |brk=>exact q3
  |ret v=>exact q3
 |false=>
  rw[if_neg aV];exact wpAny_execs_nil ⟨σ1,H2,I2,q2⟩
end
structure It where
 go:Nat->Hp->Prop
 Je:Nat->Hp->V->Hp->Prop
 stop:Nat->Hp->Prop
def rM(X:Cx)(ah:List (Addr×Obj))(H:Hp)(b:Addr):Prop:=
 H b=none/\b≠X.env.locals/\b∉X.fs/\(b∈X.ex\/X.s₀.heap.objs.size<=b)/\(∀x c,X.env.cells.lookup x=some c->c≠b)/\∀p∈X.pn++ah,p.1≠b
theorem Inv.AM{X:Cx}{ah:List (Addr×Obj)}{σ:St}{H H':Hp}{s:Shared}{b:Addr}(I:Inv X ah σ H s)(hb:s.heap.objs.size<=b)(hn:H' b=none):rM X ah H' b:=by
 refine⟨hn,oq (aM I.lt hb),I.Tf hb,.inr (bL I.sz hb),fun x c e z=>?_,fun p hp z=>?_⟩
 ·obtain⟨v,q⟩:=I.cell x c e;exact absurd (aM q.lt (by rw[z];exact hb)) (gf _)
 ·exact absurd (aM (Heap.lt_size (I.pin p hp).1) (by rw[z];exact hb)) (gf _)
structure xM(P:Program)(w:World)(K:aa)(tg:Expr)(J:It)(fp:List Addr)(it:Addr)(tn:Nat->Heap->Prop):Prop where
 mem:it∈fp
 obj:∀i h,tn i h->∀b∈fp,∃o,h.get? b=some o/\∀v,o.data≠.cell v
 keep:∀i h h',tn i h->(∀b∈fp,∀o,h.get? b=some o->h'.get? b=some o)->tn i h'
 item:∀(X:Cx),X.prog=P->X.w=w->X.K=K->X.calm=true->∀(i:Nat)(ah:List (Addr×Obj))(s:Shared)(σ:St)(H:Hp)(E:Value->Shared->Prop),Inv X ah σ H s->(∀b∈fp,rM X ah H b)->tn i s.heap->J.go i H->
  wpAny (model P w) X.A (pyNext (.ref it)) (fun r s1=>∃u,r=some u/\
   wpAny (model P w) X.A (letOwnedTupleGo tg (.ref it) u) (fun _ s2=>∃x H',Inv X ah σ H' s2/\RelV x u/\J.Je i H x H'/\tn (i+1) s2.heap/\∀b∈fp,H' b=none) E s1) E s
 done:∀(X:Cx),X.prog=P->X.w=w->X.K=K->X.calm=true->∀(i:Nat)(ah:List (Addr×Obj))(s:Shared)(σ:St)(H:Hp)(E:Value->Shared->Prop),Inv X ah σ H s->(∀b∈fp,rM X ah H b)->tn i s.heap->J.stop i H->
  wpAny (model P w) X.A (pyNext (.ref it)) (fun r s1=>r=none/\Inv X ah σ H s1) E s
 self:∀(A:Around)(i:Nat)(s:Shared)(Q:Value->Shared->Prop)(E:Value->Shared->Prop),tn i s.heap->Q (.ref it) s->wpAny (model P w) A (pyIter (.ref it)) Q E s
abbrev TI:=St->Hp->(It->Hp->Prop)->Prop
def Rc(X:Cx)(ah:List (Addr×Obj))(σ:St)(tg:Expr)(R:It->Hp->Prop)(P1:Value)(s2:Shared):Prop:=
 ∃(it:Addr)(fp:List Addr)(tn:Nat->Heap->Prop)(J:It)(H':Hp),P1= .ref it/\Inv X ah σ H' s2/\xM X.prog X.w X.K tg J fp it tn/\tn 0 s2.heap/\(∀b∈fp,rM X ah H' b)/\R J H'
def PI(X:Cx)(tg iter:Expr)(wi:TI):Prop:=
 ∀(ah:List (Addr×Obj))(s:Shared)(σ:St)(H:Hp)(R:It->Hp->Prop),Inv X ah σ H s->wi σ H R->
  wpAny (model X.prog X.w) X.A (eval iter X.env) (fun v s1=>wpAny (model X.prog X.w) X.A (pyIter v) (Rc X ah σ tg R) X.xe s1) X.xe s
theorem za {M:Model} {A:Around} {E:Value->Shared->Prop} {s:Shared} {tg:Expr} {it:Addr} {u:Value} {o:Obj} {n:String} {vs:Array Value} {Q:Unit->Shared->Prop} (ho:s.heap.get? it=some o) (hc:o.cls = .type n) (hd:o.data = .fields vs)
    (hn:["enumerate", "zip", "dict_itemiterator", "dict_reverseitemiterator", "odict_iterator", "itertools.zip_longest", "itertools.pairwise"].contains n=false) (hQ:Q () s):wpAny M A (letOwnedTupleGo tg (.ref it) u) Q E s:=by
  unfold letOwnedTupleGo
  cases tg <;> first
    | exact wpAny_pure hQ
    | (cases u <;> first
        | exact wpAny_pure hQ
        | (refine wpAny_bind (wpAny_load ho ?_)
           rw [hc,hd]
           show wpAny M A (if (["enumerate", "zip", "dict_itemiterator", "dict_reverseitemiterator", "odict_iterator", "itertools.zip_longest", "itertools.pairwise"].contains n && vs[0]? == some (rawInt _))=true then _ else _) Q E s
           rw [if_neg (by intro h; rw [hn,Lg] at h; cases h)]
           exact wpAny_pure hQ))
def Gf(K:aa)(a:Addr):It:=
 ⟨fun i H=>∃xs x,iZ K H a xs/\xs[i]?=some x,fun i H x H'=>H'=H/\∀xs,iZ K H a xs->xs[i]?=some x,fun i H=>∃xs,iZ K H a xs/\xs.length<=i⟩
def Itt(K:aa)(a:Addr):It:=
 ⟨fun i H=>∃xs x,yE K H a xs/\xs[i]?=some x,fun i H x H'=>H'=H/\∀xs,yE K H a xs->xs[i]?=some x,fun i H=>∃xs,yE K H a xs/\xs.length<=i⟩
def Ju(lo:Int)(n:Nat):It:=⟨fun i _=>i<n,fun i H x H'=>H'=H/\x= .int (lo+i),fun i _=>n<=i⟩
theorem ztj{P:Program}{w:World}{K:aa}{tg:Expr}(a it:Addr):xM P w K tg (Gf K a) [it] it (fun i h=>h.IsListIter it a i) where
 mem:=by simp
 obj:=fun i h st b hb=>by
  have e:b=it:=by simpa using hb
  subst e;obtain⟨o,e,c,d⟩:=st;exact⟨o,e,fun v z=>by rw[d]at z;cases z⟩
 keep:=fun i h h' st k=>st.at fun o e=>k it (by simp) o e
 item:=by intro X hP hw hK hc i ah s σ H E I hf st hg;subst hP hw hK;obtain⟨xs,x,hq,hx⟩:=hg;obtain⟨b7,rv,p,hz⟩:=I.list hq;obtain⟨u,hu,ru⟩:=rv.get hx;obtain⟨f0,f1,f2,f3,f4,f5⟩:=hf it (by simp);refine wpAny_pyNext_list_item st p.isList (x:=u) (by simpa using hu) fun h' Dn sb=>?_;have I1:Inv X ah σ H {s with heap:=h'}:=I.turned (t':=s.toks) (fun b o hb e=>(sb.2 b hb).trans e) f0 f1 f3 f4 f5;obtain⟨o,e,c,d⟩:=id Dn;exact⟨u,rfl,za (s:={s with heap:=h'}) e c d (by decide) ⟨x,H,I1,ru,⟨rfl,fun ys hy=>by rw[I.Ez hy hq];exact hx⟩,Dn,fun b hb=>(hf b hb).1⟩⟩
 done:=by intro X hP hw hK hc i ah s σ H E I hf st hg;subst hP hw hK;obtain⟨xs,hq,hx⟩:=hg;obtain⟨b7,rv,p,hz⟩:=I.list hq;obtain⟨f0,f1,f2,f3,f4,f5⟩:=hf it (by simp);have hl:=rv.length;exact wpAny_pyNext_list_end (I.ok.hd hc) st p.isList (by simp;omega) fun h' eb=>⟨rfl,I.turned (t':=s.toks) (fun b o hb e=>eb b o hb e) f0 f1 f3 f4 f5⟩
 self:=fun _ _ _ _ _ st h=>wpAny_pyIter_listiter st h
theorem zsk{P:Program}{w:World}{K:aa}{tg:Expr}(it:Addr)(lo:Int)(n:Nat):xM P w K tg (Ju lo n) [it] it (fun i h=>IsRangeIter h it (lo+(i:Nat)*1) ((n:Int)-(i:Nat)) 1) where
 mem:=by simp
 obj:=fun i h st b hb=>by
  have e:b=it:=by simpa using hb
  subst e;exact⟨_,st,fun v z=>by have z':Data.fields _=Data.cell v:=z;cases z'⟩
 keep:=fun i h h' st k=>k it (by simp) _ st
 item:=by intro X hP hw hK hc i ah s σ H E I hf st hg;subst hP hw hK;obtain⟨f0,f1,f2,f3,f4,f5⟩:=hf it (by simp);have W:=Walks.range (prog:=X.prog) (w:=X.w) (I.ok.hd hc) it lo 1 n;refine W.item i s _ _ hg st fun v h' tk hv Dn kk=>?_;obtain⟨t,rfl⟩:=hv;have I1:Inv X ah σ H {s with heap:=h',toks:=tk}:=I.turned (fun b o hb e=>kk b o (by simpa using hb) e) f0 f1 f3 f4 f5;refine⟨_,rfl,za (s:={s with heap:=h',toks:=tk}) (n:="range_iterator") Dn rfl rfl (by decide) ⟨.int (lo+i),H,I1,⟨t,?_⟩,⟨rfl,rfl⟩,Dn,fun b hb=>(hf b hb).1⟩⟩;rw[Int.mul_one]
 done:=by intro X hP hw hK hc i ah s σ H E I hf st hg;subst hP hw hK;obtain⟨f0,f1,f2,f3,f4,f5⟩:=hf it (by simp);exact wpAny_pyNext_range_end (I.ok.hd hc) st (by have:n<=i:=hg;omega) fun h' eb=>⟨rfl,I.turned (t':=s.toks) (fun b o hb e=>eb b o hb e) f0 f1 f3 f4 f5⟩
 self:=fun _ _ _ _ _ st h=>wpAny_pyIter_rangeiter st h
section
variable{X:Cx}{tg:Expr}
def zq(K:aa)(tl:TE):TI:=fun σ H R=>tl σ H fun x H1=>∃a,x= .ref a/\(∃xs,iZ K H1 a xs)/\R (Gf K a) H1
def Kc(K:aa)(tl:TE):TI:=fun σ H R=>tl σ H fun x H1=>∃a,x= .ref a/\(∃xs,yE K H1 a xs)/\R (Itt K a) H1
theorem zza{l:Expr}{tl:TE}(hl:PE X l tl):PI X tg l (zq X.K tl):=by
 intro ah s σ H R I h;refine eJ (hl ah s σ H _ I h) fun v s1⟨x,H1,I1,r1,q1⟩=>?_;obtain⟨a,e,⟨xs,hq⟩,q⟩:=q1;subst e;cases r1
 obtain⟨b7,rv,p,hz⟩:=I1.list hq;refine wpAny_pyIter_list p.isList ?_;refine⟨s1.heap.objs.size,[s1.heap.objs.size],_,_,H1,rfl,I1.kept (t':=s1.toks) fun b o e=>Heap.get?_push_of_some _ e,ztj a _,⟨_,Heap.get?_push_size _ rfl,rfl,rfl⟩,fun b hb=>?_,q⟩;have e:b=s1.heap.objs.size:=by simpa using hb
 subst e;exact I1.AM (az _) (I1.eB.fresh (az _))
theorem zwj{ah:List (Addr×Obj)}{σ:St}{H:Hp}{s:Shared}{R:It->Hp->Prop}{E:Value->Shared->Prop}{lo hi:Int}{t u v:Tok}{tk:Nat}(I:Inv X ah σ H s)(h1:-(2^62)<=lo)(h2:lo<2^62)(h3:-(2^62)<=hi)(h4:hi<2^62)(q:R (Ju lo (hi-lo).toNat) H):wpAny (model X.prog X.w) X.A (pyIter (.ref s.heap.objs.size)) (Rc X ah σ tg R) E {s with heap:=s.heap.push {cls:=.type "range",data:=.fields #[.int lo t,.int hi u,.int 1 v]},toks:=tk}:=by
  refine wpAny_pyIter_range (IsRange.new ..) (small_one h1 h2 h3 h4) ?_;have I1:Inv X ah σ H {s with heap:=s.heap.push {cls:=.type "range",data:=.fields #[.int lo t,.int hi u,.int 1 v]},toks:=tk}:=I.kept fun b o e=>Heap.get?_push_of_some _ e;refine⟨(s.heap.push {cls:=.type "range",data:=.fields #[.int lo t,.int hi u,.int 1 v]}).objs.size,[(s.heap.push {cls:=.type "range",data:=.fields #[.int lo t,.int hi u,.int 1 v]}).objs.size],_,_,H,rfl,
    I1.kept (t':=tk) fun b o e=>Heap.get?_push_of_some _ e,zsk _ lo (hi-lo).toNat,?_,fun b hb=>?_,q⟩
  · have e1:lo+((0:Nat):Int)*1=lo:=by simp
    have e2:(((hi-lo).toNat:Nat):Int)-((0:Nat):Int)=Builtin.Range.rangeSize lo hi 1:=by rw[rangeSize_one];split <;> omega
    show IsRangeIter _ _ (lo+((0:Nat):Int)*1) ((((hi-lo).toNat:Nat):Int)-((0:Nat):Int)) 1;rw[e1,e2];exact Heap.get?_push_size _ rfl
  · have e:b=(s.heap.push {cls:=.type "range",data:=.fields #[.int lo t,.int hi u,.int 1 v]}).objs.size:=by simpa using hb
    subst e;exact I1.AM (az _) (I1.eB.fresh (az _))
def BG(ta:TA):TI:=fun σ H R=>ta σ H fun vs H1=>∃j:Int,vs=[.int j]/\-(2^62)<=j/\j<2^62/\R (Ju 0 j.toNat) H1
def Et(ta:TA):TI:=fun σ H R=>ta σ H fun vs H1=>∃i j:Int,vs=[.int i,.int j]/\(-(2^62)<=i/\i<2^62/\-(2^62)<=j/\j<2^62)/\R (Ju i (j-i).toNat) H1
theorem Zx{a:Expr}{ta:TA}{p pos:Pos}(hg:Gl X "range")(hm:X.mg "range"=none)(ha:PA X [a] ta)(hs:starEach [a] X.env=[(false,eval a X.env)]:=by rfl):PI X tg (.Call (.Name "range" p) [a] [] pos) (BG ta):=by
 intro ah s σ H R I h;refine Call_ (L5 I hg hm boot_range (jv (eJ (ha pos ah s σ H _ I h) fun us s1⟨vs,H1,I1,r1,q1⟩=>?_) hs rfl));obtain⟨j,e,q1,q2,q⟩:=q1;subst e;cases r1 with
 |cons r rr=>
  cases rr;obtain⟨t,rfl⟩:=r
  exact call_range_1 (zwj I1 (by omega) (by omega) q1 q2 (by simpa using q))
def K0(wi:TI)(g:TG)(tb:TS):TS:=fun D σ H=>wi σ H fun J H1=>∃W:Nat->Nat->St->Hp->Prop,(∃m,W 0 m σ H1)/\∀i m σ H,W i m σ H->
 (J.stop i H/\D.nx σ H)\/(J.go i H/\∃N:St->Hp->Prop,(∀σ' H',N σ' H'->∃m',m' < m/\W (i+1) m' σ' H')/\∀x H',J.Je i H x H'->g x σ H' fun σ2 H2=>tb {D with nx:=N,ct:=N,bk:=D.nx} σ2 H2)
def Jk(fp:List Addr)(h:Heap):List (Addr×Obj):=fp.filterMap fun b=>(h.get? b).map fun o=>(b,o)
theorem F4{fp:List Addr}{h:Heap}{b:Addr}{o:Obj}(hb:b∈fp)(e:h.get? b=some o):(b,o)∈Jk fp h:=fN.mpr ⟨b,hb,by rw[e];rfl⟩
theorem ztk{fp:List Addr}{h:Heap}{p:Addr×Obj}(hp:p∈Jk fp h):p.1∈fp/\h.get? p.1=some p.2:=by
 obtain⟨b,hb,e⟩:=fN.mp hp;cases q:h.get? b with
 |none=>rw[q]at e;cases e
 |some o=>
  rw[q]at e;have e':(b,o)=p:=aq e;subst e';exact⟨hb,q⟩
theorem Inv.pinned{ah:List (Addr×Obj)}{σ:St}{H:Hp}{s:Shared}{fp:List Addr}(I:Inv X ah σ H s)(hf:∀b∈fp,rM X ah H b)(ho:∀b∈fp,∃o,s.heap.get? b=some o/\∀v,o.data≠.cell v):Inv X (ah++Jk fp s.heap) σ H s:=
 I.BP fun p hp=>(ao.mp hp).elim (fun z=>I.pin p (aB _ z)) fun z=>by
  obtain⟨hb,e⟩:=ztk z;obtain⟨f0,f1,f2,_⟩:=hf p.1 hb;obtain⟨o,e',d⟩:=ho p.1 hb;rw[e]at e';cases e'
  exact⟨e,f0,f1,f2,d⟩
theorem Inv.iT{ah pl:List (Addr×Obj)}{σ:St}{H:Hp}{s:Shared}(I:Inv X (ah++pl) σ H s):Inv X ah σ H s:=I.BP fun p hp=>I.pin p (aB _ (dY _ hp))
theorem DS{iter:Expr}{body:List Stmt}{wi:TI}{g:TG}{tb:TS}{pos:Pos}(hp:PassesOwn (model X.prog X.w) X.A X.env X.xe)(hc:X.calm=true)(hi:PI X tg iter wi)(hg:PG X tg g)(hb:rQ X body tb)(hs:∀x,foldedSetIterable iter X.env x=pure x:=by intro _;rfl):PS X (.For tg iter body [] pos) (K0 wi g tb):=by
  intro ah s σ H D I h;refine wpAny_For (eJ (hi ah s σ H _ I h) fun v s1 h1=>eJ h1 fun P1 s2 h2=>?_) hs;obtain⟨it,fp,tn,J,H2,e,I2,T,F0,f2,W,⟨m0,w0⟩,sG⟩:=h2;subst e;have mD:∀{H':Hp},(∀b∈fp,H' b=none)->∀b∈fp,rM X ah H' b:=fun hn b hb=>⟨hn b hb,(f2 b hb).2⟩;refine codeAny_forLoop_any (fun n s'=>∃i σ' H',Inv X ah σ' H' s'/\tn i s'.heap/\(∀b∈fp,H' b=none)/\W i n σ' H') ?_ m0 ⟨0,σ,H2,I2,F0,fun b hb=>(f2 b hb).1,w0⟩;rintro n s3 ⟨i,σ3,H3,I3,IT,Ao,w3⟩;rcases sG i n σ3 H3 w3 with⟨stop,qn⟩ |⟨go,N,hN,step⟩
  · refine wpAny_passesOwn hp (eJ (T.done X rfl rfl rfl hc i ah s3 σ3 H3 X.xe I3 (mD Ao) IT stop) fun r s4⟨hr,I4⟩=>?_);subst hr;exact wpAny_execs_nil ⟨σ3,H3,I4,qn⟩
  · refine wpAny_passesOwn hp (eJ (T.item X rfl rfl rfl hc i ah s3 σ3 H3 X.xe I3 (mD Ao) IT go) fun r s4⟨u,hr,h4⟩=>?_);subst hr;refine wpAny_passesOwn hp (eJ h4 fun _ s5⟨x,H5,I5,r5,y5,zX,El⟩=>?_);have Mh:=I5.pinned (mD El) (T.obj _ _ zX);refine wpAny_passesOwn hp (eJ (hg _ s5 σ3 H5 x u _ Mh r5 (step x H5 y5)) fun _ s6⟨σ6,H6,I6,q6⟩=>?_);refine wpAny_passesOwn hp (eJ (hb _ s6 σ6 H6 _ I6 q6) fun f s7 q7=>?_);have again:∀{σ7:St}{H7:Hp},Inv X (ah++Jk fp s5.heap) σ7 H7 s7->N σ7 H7->∃m,m<n/\∃i σ' H',Inv X ah σ' H' s7/\tn i s7.heap/\(∀b∈fp,H' b=none)/\W i m σ' H':=fun{σ7 H7} I7 n7=>by obtain⟨m',hm,w7⟩:=hN σ7 H7 n7;refine⟨m',hm,i+1,σ7,H7,I7.iT,T.keep _ _ _ zX fun b hb o e=>(I7.pin (b,o) (aB _ (aB _ (F4 hb e)))).1,fun b hb=>?_,w7⟩;obtain⟨o,e,d⟩:=T.obj _ _ zX b hb;exact(I7.pin (b,o) (aB _ (aB _ (F4 hb e)))).2.1
    cases f with
    |next=>obtain⟨σ7,H7,I7,n7⟩:=q7;exact again I7 n7
    |cont=>obtain⟨σ7,H7,I7,n7⟩:=q7;exact again I7 n7
    |brk=>obtain⟨σ7,H7,I7,q7⟩:=q7;exact⟨σ7,H7,I7.iT,q7⟩
    |ret v=>obtain⟨x7,σ7,H7,I7,r7,q7⟩:=q7;exact⟨x7,σ7,H7,I7.iT,r7,q7⟩
end
theorem Hz{K:aa}{a:Addr}{xs:List V}{g:TG}{tb:TS}{D:Ends}{σ:St}{H:Hp}(Pv:Nat->St->Hp->Prop)(h0:Pv 0 σ H)(hl:∀i σ H,i<=xs.length->Pv i σ H->iZ K H a xs)(hs:∀i x σ H,xs[i]?=some x->Pv i σ H->g x σ H fun σ2 H2=>tb {D with nx:=Pv (i+1),ct:=Pv (i+1),bk:=D.nx} σ2 H2)(hd:∀σ H,Pv xs.length σ H->D.nx σ H):
    ∃W:Nat->Nat->St->Hp->Prop,(∃m,W 0 m σ H)/\∀i m σ H,W i m σ H->
      ((Gf K a).stop i H/\D.nx σ H)\/((Gf K a).go i H/\∃N:St->Hp->Prop,(∀σ' H',N σ' H'->∃m',m' < m/\W (i+1) m' σ' H')/\∀x H',(Gf K a).Je i H x H'->g x σ H' fun σ2 H2=>tb {D with nx:=N,ct:=N,bk:=D.nx} σ2 H2):=by
  refine⟨fun i m σ H=>m=xs.length-i/\i<=xs.length/\Pv i σ H,⟨xs.length,by simp,bZ _,h0⟩,?_⟩;rintro i m σ H ⟨rfl,hi,p⟩;have q:=hl i σ H hi p;by_cases jT:i<xs.length
  · refine .inr ⟨⟨xs,xs[i],q,by simp[jT]⟩,Pv (i+1),fun σ' H' p'=>⟨xs.length-(i+1),by omega,rfl,jT,p'⟩,fun x H' y=>?_⟩;obtain⟨e,y⟩:=y;subst e;exact hs i x σ _ (y xs q) p
  · have e:i=xs.length:=by omega
    subst e;exact .inl ⟨⟨xs,q,az _⟩,hd σ H p⟩
theorem Zy{lo:Int}{n:Nat}{g:TG}{tb:TS}{D:Ends}{σ:St}{H:Hp}(Pv:Nat->St->Hp->Prop)(h0:Pv 0 σ H)(hs:∀i σ H,i<n->Pv i σ H->g (.int (lo+i)) σ H fun σ2 H2=>tb {D with nx:=Pv (i+1),ct:=Pv (i+1),bk:=D.nx} σ2 H2)(hd:∀σ H,Pv n σ H->D.nx σ H):
    ∃W:Nat->Nat->St->Hp->Prop,(∃m,W 0 m σ H)/\∀i m σ H,W i m σ H->
      ((Ju lo n).stop i H/\D.nx σ H)\/((Ju lo n).go i H/\∃N:St->Hp->Prop,(∀σ' H',N σ' H'->∃m',m' < m/\W (i+1) m' σ' H')/\∀x H',(Ju lo n).Je i H x H'->g x σ H' fun σ2 H2=>tb {D with nx:=N,ct:=N,bk:=D.nx} σ2 H2):=by
  refine⟨fun i m σ H=>m=n-i/\i<=n/\Pv i σ H,⟨n,by simp,bZ _,h0⟩,?_⟩;rintro i m σ H ⟨rfl,hi,p⟩;by_cases jT:i<n
  · refine .inr ⟨jT,Pv (i+1),fun σ' H' p'=>⟨n-(i+1),by omega,rfl,jT,p'⟩,fun x H' y=>?_⟩;obtain⟨e,y⟩:=y;subst e y;exact hs i σ _ jT p
  · have e:i=n:=by omega
    subst e;exact .inl ⟨az _,hd σ H p⟩
abbrev R2:=V->V->Hp->VK->Prop
def m5(X:Cx)(f:Value->Value->Sem Value)(r:R2):Prop:=
 ∀(ah:List (Addr×Obj))(s:Shared)(σ:St)(H:Hp)(x y:V)(v u:Value)(Q:VK),Inv X ah σ H s->RelV x v->RelV y u->r x y H Q->
  wpAny (model X.prog X.w) X.A (f v u) (EP X ah σ Q) X.xe s
def Rl(X:Cx)(f:Value->Sem Value)(r:V->Hp->VK->Prop):Prop:=
 ∀(ah:List (Addr×Obj))(s:Shared)(σ:St)(H:Hp)(x:V)(v:Value)(Q:VK),Inv X ah σ H s->RelV x v->r x H Q->
  wpAny (model X.prog X.w) X.A (f v) (EP X ah σ Q) X.xe s
def mV(X:Cx)(f:Value)(r:List V->Hp->VK->Prop):Prop:=
 ∀(ah:List (Addr×Obj))(s:Shared)(σ:St)(H:Hp)(xs:List V)(us:List Value)(Q:VK),Inv X ah σ H s->cj xs us->r xs H Q->
  wpAny (model X.prog X.w) X.A (call f us) (EP X ah σ Q) X.xe s
def Rk(X:Cx)(r:V->Hp->(Bool->Hp->Prop)->Prop):Prop:=
 ∀(ah:List (Addr×Obj))(s:Shared)(σ:St)(H:Hp)(x:V)(v:Value)(Q:Bool->Hp->Prop),Inv X ah σ H s->RelV x v->r x H Q->
  wpAny (model X.prog X.w) X.A (truthy v) (TP X ah σ Q) X.xe s
def K1(r:R2)(ta tb:TE):TE:=fun σ H Q=>ta σ H fun x H1=>tb σ H1 fun y H2=>r x y H2 Q
def Qm(r:V->Hp->VK->Prop)(ta:TE):TE:=fun σ H Q=>ta σ H fun x H1=>r x H1 Q
def rI(C:Int->Int->Prop)(g:Int->Int->V):R2:=fun x y H Q=>∃i j,x= .int i/\y= .int j/\C i j/\Q (g i j) H
def EL(g:Int->Int->V):R2:=fun x y H Q=>∃i j,x= .int i/\y= .int j/\Q (g i j) H
def rU(g:Int->V):V->Hp->VK->Prop:=fun x H Q=>∃i,x= .int i/\Q (g i) H
section
variable{X:Cx}{a b c:Expr}{ta tb tc:TE}{pos:Pos}
theorem JH(ha:PE X a ta)(hb:PE X b tb){ah:List (Addr×Obj)}{s:Shared}{σ:St}{H:Hp}{R:V->V->Hp->Prop}(I:Inv X ah σ H s)(h:ta σ H fun x H1=>tb σ H1 fun y H2=>R x y H2){Q:Value->Shared->Prop}{f:Value->Value->Sem Value}(hf:∀v u s2 x y H2,Inv X ah σ H2 s2->RelV x v->RelV y u->R x y H2->wpAny (model X.prog X.w) X.A (f v u) Q X.xe s2):
    wpAny (model X.prog X.w) X.A (eval a X.env) (fun v s₁=>wpAny (model X.prog X.w) X.A (eval b X.env) (fun u s₂=>wpAny (model X.prog X.w) X.A (f v u) Q X.xe s₂) X.xe s₁) X.xe s:=by
  refine eJ (ha ah s σ H _ I h) fun v s1⟨x,H1,I1,r1,q1⟩=>?_;refine eJ (hb ah s1 σ H1 _ I1 q1) fun u s2⟨y,H2,I2,r2,q2⟩=>?_;exact hf v u s2 x y H2 I2 r1 r2 q2
theorem aT{op:Operator}{r:R2}(ho:m5 X (binaryOp op) r)(ha:PE X a ta)(hb:PE X b tb):PE X (.BinOp a op b pos) (K1 r ta tb):=by intro ah s σ H Q I h;exact wpAny_BinOp (JH ha hb I h fun v u s2 x y H2 I2 rx ry q=>ho ah s2 σ H2 x y v u Q I2 rx ry q)
theorem BN{op:UnaryOp}{r:V->Hp->VK->Prop}(ho:Rl X (unaryOp op) r)(ha:PE X a ta):PE X (.UnaryOp op a pos) (Qm r ta):=by intro ah s σ H Q I h;exact UnaryOp_ (eJ (ha ah s σ H _ I h) fun v s1⟨x,H1,I1,r1,q1⟩=>ho ah s1 σ H1 x v Q I1 r1 q1)
theorem NB{f:Value->Value->Sem Value}{C:Int->Int->Prop}{g:Int->Int->Int}(rule:∀(i j:Int)(t u:Tok)(s:Shared)(Q:Value->Shared->Prop)(E:Value->Shared->Prop),C i j->Q (.int (g i j) s.toks) {s with toks:=s.toks+1}->wpAny (model X.prog X.w) X.A (f (.int i t) (.int j u)) Q E s):
    m5 X f (rI C fun i j=>.int (g i j)):=by
  intro ah s σ H x y v u Q I rx ry h;obtain⟨i,j,rfl,rfl,hc,q⟩:=h;obtain⟨t,rfl⟩:=rx;obtain⟨t',rfl⟩:=ry;exact rule i j t t' s _ _ hc ⟨.int (g i j),H,I.tok _,⟨_,rfl⟩,q⟩
theorem NC{f:Value->Value->Sem Value}{g:Int->Int->Int}(rule:∀(i j:Int)(t u:Tok)(s:Shared)(Q:Value->Shared->Prop)(E:Value->Shared->Prop),Q (.int (g i j) s.toks) {s with toks:=s.toks+1}->wpAny (model X.prog X.w) X.A (f (.int i t) (.int j u)) Q E s):
    m5 X f (EL fun i j=>.int (g i j)):=by
  intro ah s σ H x y v u Q I rx ry h;obtain⟨i,j,rfl,rfl,q⟩:=h;obtain⟨t,rfl⟩:=rx;obtain⟨t',rfl⟩:=ry;exact rule i j t t' s _ _ ⟨.int (g i j),H,I.tok _,⟨_,rfl⟩,q⟩
theorem G5{f:Value->Value->Sem Value}{g:Int->Int->Bool}(rule:∀(i j:Int)(t u:Tok)(s:Shared)(Q:Value->Shared->Prop)(E:Value->Shared->Prop),Q (.bool (g i j)) s->wpAny (model X.prog X.w) X.A (f (.int i t) (.int j u)) Q E s):
    m5 X f (EL fun i j=>.bl (g i j)):=by
  intro ah s σ H x y v u Q I rx ry h;obtain⟨i,j,rfl,rfl,q⟩:=h;obtain⟨t,rfl⟩:=rx;obtain⟨t',rfl⟩:=ry;exact rule i j t t' s _ _ ⟨.bl (g i j),H,I,rfl,q⟩
def Ga(i j:Int):Prop:=0<=j/\j<=1000000/\i.natAbs<2^64
theorem sJ:m5 X (binaryOp .Add) (EL fun i j=>.int (i+j)):=NC fun _ _ _ _ _ _ _ q=>add_int q
theorem Ff:m5 X (binaryOp .Sub) (EL fun i j=>.int (i-j)):=NC fun _ _ _ _ _ _ _ q=>sub_int q
theorem rC:m5 X (binaryOp .Mod) (rI (fun _ j=>0<j) fun i j=>.int (i % j)):=NB fun i j _ _ _ _ _ hc q=>by have h1:(0:Int)<j:=hc;exact mod_int' (by omega) (by rw[Int.fmod_eq_emod_of_nonneg i (by omega)];exact q)
theorem V7:m5 X (binaryOp .Pow) (rI Ga fun i j=>.int (i^j.toNat)):=NB fun _ _ _ _ _ _ _ hc q=>pow_int_small hc.1 hc.2.1 hc.2.2 q
theorem unI{f:Value->Sem Value}{g:Int->Int}(rule:∀(i:Int)(t:Tok)(s:Shared)(Q:Value->Shared->Prop)(E:Value->Shared->Prop),Q (.int (g i) s.toks) {s with toks:=s.toks+1}->wpAny (model X.prog X.w) X.A (f (.int i t)) Q E s):
    Rl X f (rU fun i=>.int (g i)):=by
  intro ah s σ H x v Q I rx h;obtain⟨i,rfl,q⟩:=h;obtain⟨t,rfl⟩:=rx;exact rule i t s _ _ ⟨.int (g i),H,I.tok _,⟨_,rfl⟩,q⟩
theorem QS:Rl X (unaryOp .USub) (rU fun i=>.int (-i)):=unI fun _ _ _ _ _ q=>neg_int q
end
def EM:V->V->Bool
 | .cy,.cy=>true| .cy,.int _=>true| .int _,.cy=>true| .cy,.bl _=>true| .bl _,.cy=>true| .cy,.str _=>true| .str _,.cy=>true
 | .int _,.int _=>true| .bl _,.bl _=>true| .str _,.str _=>true| .Bx _,.Bx _=>true
 | .int _,.str _=>true| .str _,.int _=>true| .bl _,.str _=>true| .str _,.bl _=>true
 |_,_=>false
def Qa:R2:=fun x y H Q=>EM x y=true/\Q (.bl (decide (x=y))) H
def Qd:R2:=fun x y H Q=>EM x y=true/\Q (.bl (!decide (x=y))) H
theorem ztm{i j:Int}:decide (V.int i=V.int j)=(i ==j):=by rw[eU];simp
theorem zye{i j:Bool}:decide (V.bl i=V.bl j)=(i ==j):=by rw[eU];simp
theorem ztn{i j:Str}:decide (V.str i=V.str j)=(i ==j):=by rw[eU];simp
theorem zto{i j:Array UInt8}:decide (V.Bx i=V.Bx j)=(i.toList ==j.toList):=by
 rw[eU];cases i
 cases j;simp
section
variable{X:Cx}{a b c:Expr}{ta tb tc:TE}{pos:Pos}
theorem o9{ah:List (Addr×Obj)}{σ:St}{H:Hp}{s:Shared}{Q:VK}{k k':Bool}(I:Inv X ah σ H s)(q:Q (.bl k) H)(e:k=k'):EP X ah σ Q (.bool k') s:=by subst e;exact⟨.bl k,H,I,rfl,q⟩
theorem o4:m5 X (compareOp .Eq) Qa:=by
 intro ah s σ H x y v u Q I rx ry h;obtain⟨hs,q⟩:=h;cases x with
 |cy=>
  cases rx;cases y with
  |cy=>cases ry;exact PySem.EqNone.eq_none_none (o9 I q (by simp))
  |bl j=>cases ry;exact PySem.EqNone.eq_none_bool (o9 I q (by simp))
  |int j=>obtain⟨t',rfl⟩:=ry;exact PySem.EqNone.eq_none_int (o9 I q (by simp))
  |str j=>obtain⟨t',rfl⟩:=ry;exact PySem.EqNone.eq_none_str (o9 I q (by simp))
  |_=>exact absurd (show false=true from hs) aV
 |bl i=>
  cases rx;cases y with
  |cy=>cases ry;exact PySem.EqNone.eq_bool_none (o9 I q (by simp))
  |bl j=>cases ry;exact eq_bool (o9 I q zye)
  |str j=>obtain⟨t',rfl⟩:=ry;exact PySem.EqMixed.eq_bool_str (o9 I q (by simp))
  |_=>exact absurd (show false=true from hs) aV
 |int i=>
  obtain⟨t,rfl⟩:=rx;cases y with
  |cy=>cases ry;exact PySem.EqNone.eq_int_none (o9 I q (by simp))
  |int j=>obtain⟨t',rfl⟩:=ry;exact eq_int (o9 I q ztm)
  |str j=>obtain⟨t',rfl⟩:=ry;exact PySem.EqMixed.eq_int_str (o9 I q (by simp))
  |_=>exact absurd (show false=true from hs) aV
 |str i=>
  obtain⟨t,rfl⟩:=rx;cases y with
  |cy=>cases ry;exact PySem.EqNone.eq_str_none (o9 I q (by simp))
  |bl j=>cases ry;exact PySem.EqMixed.eq_str_bool (o9 I q (by simp))
  |int j=>obtain⟨t',rfl⟩:=ry;exact PySem.EqMixed.eq_str_int (o9 I q (by simp))
  |str j=>obtain⟨t',rfl⟩:=ry;exact eq_str (o9 I q ztn)
  |_=>exact absurd (show false=true from hs) aV
 |Bx i=>
  obtain⟨t,rfl⟩:=rx;cases y with
  |Bx j=>obtain⟨t',rfl⟩:=ry;exact PySem.W.eq_bytes (o9 I q zto)
  |_=>exact absurd (show false=true from hs) aV
 |_=>cases y <;> exact absurd (show false=true from hs) aV
theorem zH:m5 X (compareOp .NotEq) Qd:=by
 intro ah s σ H x y v u Q I rx ry h;obtain⟨hs,q⟩:=h;cases x with
 |cy=>
  cases rx;cases y with
  |cy=>cases ry;exact PySem.EqNone.ne_none_none (o9 I q (by simp))
  |bl j=>cases ry;exact PySem.EqNone.ne_none_bool (o9 I q (by simp))
  |int j=>obtain⟨t',rfl⟩:=ry;exact PySem.EqNone.ne_none_int (o9 I q (by simp))
  |str j=>obtain⟨t',rfl⟩:=ry;exact PySem.EqNone.ne_none_str (o9 I q (by simp))
  |_=>exact absurd (show false=true from hs) aV
 |bl i=>
  cases rx;cases y with
  |cy=>cases ry;exact PySem.EqNone.ne_bool_none (o9 I q (by simp))
  |bl j=>cases ry;exact ne_bool (o9 I q (congrArg not zye))
  |str j=>obtain⟨t',rfl⟩:=ry;exact PySem.EqMixed.ne_bool_str (o9 I q (by simp))
  |_=>exact absurd (show false=true from hs) aV
 |int i=>
  obtain⟨t,rfl⟩:=rx;cases y with
  |cy=>cases ry;exact PySem.EqNone.ne_int_none (o9 I q (by simp))
  |int j=>obtain⟨t',rfl⟩:=ry;exact ne_int (o9 I q (congrArg not ztm))
  |str j=>obtain⟨t',rfl⟩:=ry;exact PySem.EqMixed.ne_int_str (o9 I q (by simp))
  |_=>exact absurd (show false=true from hs) aV
 |str i=>
  obtain⟨t,rfl⟩:=rx;cases y with
  |cy=>cases ry;exact PySem.EqNone.ne_str_none (o9 I q (by simp))
  |bl j=>cases ry;exact PySem.EqMixed.ne_str_bool (o9 I q (by simp))
  |int j=>obtain⟨t',rfl⟩:=ry;exact PySem.EqMixed.ne_str_int (o9 I q (by simp))
  |str j=>obtain⟨t',rfl⟩:=ry;exact ne_str (o9 I q (congrArg not ztn))
  |_=>exact absurd (show false=true from hs) aV
 |Bx i=>
  obtain⟨t,rfl⟩:=rx;cases y with
  |Bx j=>obtain⟨t',rfl⟩:=ry;exact PySem.W.ne_bytes (o9 I q (congrArg not zto))
  |_=>exact absurd (show false=true from hs) aV
 |_=>cases y <;> exact absurd (show false=true from hs) aV
theorem nJ:m5 X (compareOp .Lt) (EL fun i j=>.bl (decide (i<j))):=G5 fun _ _ _ _ _ _ _ q=>lt_int q
theorem mH:m5 X (compareOp .LtE) (EL fun i j=>.bl (decide (i<=j))):=G5 fun _ _ _ _ _ _ _ q=>le_int q
theorem zG:m5 X (compareOp .Gt) (EL fun i j=>.bl (decide (j<i))):=G5 fun _ _ _ _ _ _ _ q=>gt_int q
theorem NE:m5 X (compareOp .GtE) (EL fun i j=>.bl (decide (j<=i))):=G5 fun _ _ _ _ _ _ _ q=>ge_int q
theorem V8:m5 X (compareOp .Is) (fun x y H Q=>y= .cy/\Q (.bl (decide (x= .cy))) H):=by
 intro ah s σ H x y v u Q I rx ry h;obtain⟨rfl,q⟩:=h;cases ry
 refine is_none_gen (o9 I q ?_);cases x <;> first
  |(cases rx;rfl)
  |(obtain⟨t,rfl⟩:=rx;rfl)
theorem F6:m5 X (compareOp .IsNot) (fun x y H Q=>y= .cy/\Q (.bl (!decide (x= .cy))) H):=by
 intro ah s σ H x y v u Q I rx ry h;obtain⟨rfl,q⟩:=h;cases ry
 refine isnot_none_gen (o9 I q ?_);cases x <;> first
  |(cases rx;rfl)
  |(obtain⟨t,rfl⟩:=rx;rfl)
theorem jH(b:Expr){op:CmpOp}(h:op≠.In:=by decide)(h2:op≠.NotIn:=by decide):behindInMarks op b=false:=by
 have e1:(op ==CmpOp.In)=false:=by cases op <;> first|rfl|exact absurd rfl h
 have e2:(op ==CmpOp.NotIn)=false:=by cases op <;> first|rfl|exact absurd rfl h2
 cases b <;> simp[behindInMarks,e1,e2]
theorem LW{op:CmpOp}{r:R2}(ho:m5 X (compareOp op) r)(ha:PE X a ta)(hb:PE X b tb)(hm:behindInMarks op b=false):PE X (.Compare a [op] [b] pos) (K1 r ta tb):=by intro ah s σ H Q I h;exact wpAny_Compare1 (JH ha hb I h fun v u s2 x y H2 I2 rx ry q=>ho ah s2 σ H2 x y v u Q I2 rx ry q) hm
def z6(t:TE):TT:=fun σ H Q=>t σ H fun x H'=>∃k,x= .bl k/\Q k H'
theorem jG{op:CmpOp}{r:R2}(ho:m5 X (compareOp op) r)(ha:PE X a ta)(hb:PE X b tb)(hm:behindInMarks op b=false):PT X (.Compare a [op] [b] pos) (z6 (K1 r ta tb)):=by
 intro ah s σ H Q I h;refine wpAny_isTrue_Compare1 (eJ (ha ah s σ H _ I h) fun v s1⟨x,H1,I1,r1,q1⟩=>eJ (hb ah s1 σ H1 _ I1 q1) fun u s2⟨y,H2,I2,r2,q2⟩=>
  eJ (ho ah s2 σ H2 x y v u _ I2 r1 r2 q2) fun c s3⟨z,H3,I3,r3,k,e,q3⟩=>?_) hm;subst e;cases r3
 exact wpAny_truthy_bool ⟨H3,I3,q3⟩
def vd(r r':R2)(ta tb tc:TE):TE:=fun σ H Q=>ta σ H fun x H1=>tb σ H1 fun y H2=>r x y H2 fun z H3=>∃k,z= .bl k/\
 (if k=true then tc σ H3 fun w' H4=>r' y w' H4 Q else Q (.bl false) H3)
theorem zwk{op Kw:CmpOp}{r r':R2}(ho:m5 X (compareOp op) r)(CP:m5 X (compareOp Kw) r')(ha:PE X a ta)(hb:PE X b tb)(hc:PE X c tc)(hm:lastMarks [op,Kw] [b,c]=false:=by with_unfolding_all rfl):PE X (.Compare a [op,Kw] [b,c] pos) (vd r r' ta tb tc):=by
  intro ah s σ H Q I h;refine Compare_chain (eJ (ha ah s σ H _ I h) fun v s1⟨x,H1,I1,r1,q1⟩=>chain_link (eJ (hb ah s1 σ H1 _ I1 q1) fun u s2⟨y,H2,I2,r2,q2⟩=>
    eJ (ho ah s2 σ H2 x y v u _ I2 r1 r2 q2) fun d s3⟨z,H3,I3,r3,k,e,q3⟩=>?_)) hm;subst e;cases r3
  refine wpAny_truthy_bool ?_;cases k with
  |false=>exact ite_ff ⟨.bl false,H3,I3,rfl,q3⟩
  |true=>exact ite_tt (chain_last (eJ (hc ah s3 σ H3 _ I3 q3) fun w' s4⟨z',H4,I4,r4,q4⟩=>CP ah s4 σ H4 y z' u w' Q I4 r2 r4 q4))
theorem QB{op Kw:CmpOp}{r r':R2}(ho:m5 X (compareOp op) r)(CP:m5 X (compareOp Kw) r')(ha:PE X a ta)(hb:PE X b tb)(hc:PE X c tc)(hm:lastMarks [op,Kw] [b,c]=false:=by with_unfolding_all rfl):PT X (.Compare a [op,Kw] [b,c] pos) (z6 (vd r r' ta tb tc)):=by
  intro ah s σ H Q I h;refine isTrue_chain (eJ (ha ah s σ H _ I h) fun v s1⟨x,H1,I1,r1,q1⟩=>test_link (eJ (hb ah s1 σ H1 _ I1 q1) fun u s2⟨y,H2,I2,r2,q2⟩=>
    eJ (ho ah s2 σ H2 x y v u _ I2 r1 r2 q2) fun d s3⟨z,H3,I3,r3,k,e,q3⟩=>?_)) hm;subst e;cases r3
  refine wpAny_truthy_bool ?_;cases k with
  |false=>
    obtain⟨k',e',q'⟩:=q3;cases e'
    exact ite_ff ⟨H3,I3,q'⟩
  |true=>
    refine ite_tt (test_last (eJ (hc ah s3 σ H3 _ I3 q3) fun w' s4⟨z',H4,I4,r4,q4⟩=>eJ (CP ah s4 σ H4 y z' u w' _ I4 r2 r4 q4) fun d' s5⟨z2,H5,I5,r5,k2,e2,q5⟩=>?_));subst e2;cases r5
    exact wpAny_truthy_bool ⟨H5,I5,q5⟩
def Gs(K:aa)(x:V)(H:Hp)(k:Bool):Prop:=
 match x with
 | .cy=>k=false
 | .bl b=>k=b
 | .int i=>k=(i !=0)
 | .str y=>y.length<=sizeLine/\k=((y.length:Int) !=0)
 | .Bx y=>y.size<=sizeLine/\k=((y.size:Int) !=0)
 | .ref p=>(∃xs,iZ K H p xs/\k= !xs.isEmpty)\/(∃xs,yE K H p xs/\k= !xs.isEmpty)\/∃kvs,H p=some (.dK kvs)/\k= !kvs.isEmpty
 |_=>False
theorem zsl{κ:Type}{kvs:List (κ×V)}{vs:List (κ×Value)}(r:KV kvs vs):(!vs.isEmpty)= !kvs.isEmpty:=by cases r <;> rfl
theorem Zk{xs:List V}{b7:List Value}(r:cj xs b7):(!b7.toArray.isEmpty)= !xs.isEmpty:=by cases r <;> simp
theorem L7:(sizeLine:Nat)<2^63:=by rw[sizeLine_eq];decide
theorem UP:Rk X (fun x H Q=>∃k,Gs X.K x H k/\Q k H):=by
 intro ah s σ H x v Q I rx h;obtain⟨k,e,q⟩:=h;have hl:=L7;have hs:sizeLine=16777216:=sizeLine_eq;cases x with
 |cy=>
  cases rx;have e':k=false:=e
  subst e';exact truthy_none ⟨H,I,q⟩
 |bl b=>
  cases rx;have e':k=b:=e
  subst e';exact wpAny_truthy_bool ⟨H,I,q⟩
 |int i=>
  obtain⟨t,rfl⟩:=rx;have e':k=(i !=0):=e;subst e';exact PySem.P.truthy_int ⟨H,I,q⟩
 |str y=>
  obtain⟨t,rfl⟩:=rx;obtain⟨hy,e'⟩:y.length<=sizeLine/\k=((y.length:Int) !=0):=e;subst e';exact PySem.P.truthy_str (by omega) ⟨H,I.tok _,q⟩
 |Bx y=>
  obtain⟨t,rfl⟩:=rx;obtain⟨hy,e'⟩:y.size<=sizeLine/\k=((y.size:Int) !=0):=e;subst e';exact PySem.W.truthy_bytes (by omega) ⟨H,I.tok _,q⟩
 |ref p=>
  cases rx;have e':(∃xs,iZ X.K H p xs/\k= !xs.isEmpty)\/(∃xs,yE X.K H p xs/\k= !xs.isEmpty)\/∃kvs,H p=some (.dK kvs)/\k= !kvs.isEmpty:=e
  rcases e' with⟨xs,hx,e'⟩ |⟨xs,hx,e'⟩ |⟨kvs,hx,e'⟩
  ·subst e';obtain⟨b7,r,pl,hz⟩:=I.list hx;have gw:=r.length;exact wpAny_truthy_list pl.isList (by simp only[aQ];omega) ⟨H,I.tok _,by rw[Zk r];exact q⟩
  ·subst e';obtain⟨b7,r,pl,hz⟩:=I.tuple hx;have gw:=r.length;exact truthy_tuple pl (by simp only[aQ];omega) ⟨H,I.tok _,by rw[Zk r];exact q⟩
  ·subst e';obtain⟨hz,hS,vs,r,m⟩:kvs.length<=sizeLine/\(p ==sysModules)=false/\∃vs,KV kvs vs/\s.heap.DictOf (nS X.prog X.w) p vs:=I.eB p _ hx;have gw:kvs.length=vs.length:=Paired.length r;exact wpAny_truthy_dict hS m (by omega) ⟨H,I.tok _,by rw[zsl r];exact q⟩
 |_=>exact(show False from e).elim
theorem zwl(ha:PE X a ta)(he:∀o7,isTrue a X.env o7=(do let v <-o7;standAt a.pos;holding [v] (truthy v))):
    PT X a (fun σ H Q=>ta σ H fun x H'=>∃k,Gs X.K x H' k/\Q k H'):=by
  intro ah s σ H Q I h;exact isTrue_plain (eJ (ha ah s σ H _ I h) fun v s1⟨x,H1,I1,r1,q1⟩=>UP ah s1 σ H1 x v Q I1 r1 q1) (he _)
theorem vals1{x:V}{us:List Value}(r:cj [x] us):∃u,us=[u]/\RelV x u:=by
 cases r with
 |cons r1 r2=>cases r2;exact⟨_,rfl,r1⟩
theorem vals2{x y:V}{us:List Value}(r:cj [x,y] us):∃u w',us=[u,w']/\RelV x u/\RelV y w':=by
 cases r with
 |cons r1 r2=>
  cases r2 with
  |cons r3 r4=>cases r4;exact⟨_,_,rfl,r1,r3⟩
theorem Z5:mV X (.builtin "abs") (fun xs H Q=>∃i,xs=[.int i]/\Q (.int (if i<0 then -i else i)) H):=by intro ah s σ H xs us Q I r h;obtain⟨i,rfl,q⟩:=h;obtain⟨u,rfl,t,rfl⟩:=vals1 r;exact call_abs_int fun u tk=>⟨.int (if i<0 then -i else i),H,I.tok _,⟨_,rfl⟩,q⟩
theorem Zz(hc:X.calm=true):mV X (.builtin "max") (fun xs H Q=>∃i j,xs=[.int i,.int j]/\Q (.int (if j > i then j else i)) H):=by
 intro ah s σ H xs us Q I r h;obtain⟨i,j,rfl,q⟩:=h;obtain⟨u,w',rfl,⟨t,rfl⟩,⟨t',rfl⟩⟩:=vals2 r;refine max_two_ints (I.ok.hd hc) fun h' tk k=>⟨_,H,I.kept k,?_,q⟩;by_cases hj:j > i
 ·rw[if_pos hj,if_pos hj];exact⟨_,rfl⟩
 ·rw[if_neg hj,if_neg hj];exact⟨_,rfl⟩
theorem VF(hc:X.calm=true):mV X (.builtin "min") (fun xs H Q=>∃i j,xs=[.int i,.int j]/\Q (.int (if j<i then j else i)) H):=by
 intro ah s σ H xs us Q I r h;obtain⟨i,j,rfl,q⟩:=h;obtain⟨u,w',rfl,⟨t,rfl⟩,⟨t',rfl⟩⟩:=vals2 r;refine min_two_ints (I.ok.hd hc) fun h' tk k=>⟨_,H,I.kept k,?_,q⟩;by_cases hj:j<i
 ·rw[if_pos hj,if_pos hj];exact⟨_,rfl⟩
 ·rw[if_neg hj,if_neg hj];exact⟨_,rfl⟩
end
structure AE(h:Heap)(x dx C:Addr)(mA:Str->Option Value):Prop where
 obj:h.get? x=some (fR C dx)
 ns:h.Ns1 dx mA
 ne:dx≠x
theorem ztq{h:Heap}{dx:Addr}{mA:Str->Option Value}(n:h.Ns1 dx mA):∃od,h.get? dx=some od/\∀name,oz name od=some (mA name):=by
 obtain⟨o,es,ep,ho,hd,hk,_,hm⟩:=n;refine⟨o,ho,fun name=>?_⟩;have e:=hm name;unfold nsFind findBy at e;rw[<-Array.find?_toList]at e;unfold oz;rw[hd];dsimp only;split
 ·rename_i y q
  rw[q]at e;exact congrArg some e
 ·rename_i q
  rw[q]at e;have a:es.toList.any (·.refKey)=false:=by rw[t8];intro y hy;obtain⟨z,t,JV⟩:=hk y (Array.mem_toList_iff.mp hy);simp[DictEntry.refKey,JV]
  have a':¬es.toList.any (·.refKey)=true:=by rw[a];exact aV
  rw[if_neg a'];exact congrArg some e
theorem AE.look{h:Heap}{x dx C:Addr}{mA:Str->Option Value}(I:AE h x dx C mA):∃od,ou h x (fR C dx) C (some od)/\∀name,oz name od=some (mA name):=
 let⟨od,ho,hl⟩:=ztq I.ns
 ⟨od,⟨I.obj,rfl,rfl,ho⟩,hl⟩
section
variable{prog:Program}{w:World}{A:Around}{E:Value->Shared->Prop}{s:Shared}{K:aa}{x dx C f:Addr}{mA:Str->Option Value}{name:Str}{v:Value}
theorem zzb{RE:Bool}{Q:Value->Shared->Prop}(X:K.In s.heap)(I:AE s.heap x dx C mA)(hg:l9 K C name=true)(hh:gH K C=true)(ha:aF K (.ref C) name=some none)(hv:mA name=some v)(hv':D7 v=true)(h:Q v {s with toks:=s.toks+1}):
    wpAny (model prog w) A (getAttr (.ref x) name RE) Q E s:=by
  obtain⟨od,J,hl⟩:=I.look;exact PySem.W.get_value X J (pD hg).1 (PySem.W.findObj_own hh ha rfl (by rw[hl,hv])) hv' h
theorem zwm{pl:Sem Bool}{Q:Value×List Value->Shared->Prop}(X:K.In s.heap)(I:AE s.heap x dx C mA)(hg:l9 K C name=true)(hf:aF K (.ref C) name=some (some (.ref f)))(ht:gq K (.ref f)=true)(hv:mA name=none)(h:Q (.ref f,[.ref x]) s):
    wpAny (model prog w) A (getMethod (.ref x) name pl) Q E s:=by
  obtain⟨od,J,hl⟩:=I.look;exact PySem.W.method_fn X J (pD hg).1 (pD hg).2 hf (beq_iff_eq.mp ht) (by show(oz name od).map (·.isSome)=some false;rw[hl,hv];rfl) h
theorem zzc{ns:List Str}{Q:Unit->Shared->Prop}(X:K.In s.heap)(I:AE s.heap x dx C mA)(hs:aF K (.ref C) "__setattr__"=some (some (.builtin "object.__setattr__")))(hp:DE K C=true)(ht:iu K C name=some none)(hh:gH K C=true)(hw:AH mA ns)(hsz:ns.length<=sizeLine)(h:∀h',AE h' x dx C (fun y=>if y=name then some v else mA y)->Heap.SameBut dx s.heap h'->Q () {s with heap:=h',toks:=s.toks+2}):
    wpAny (model prog w) A (setAttr (.ref x) name v) Q E s:=by
  obtain⟨od,J,hl⟩:=I.look;refine PySem.W.set_plain X J hs (PySem.W.osa_open (s:={s with toks:=s.toks+1}) (r:=none) X J hp ht fun b=>?_);obtain⟨cd,hc,Sc⟩:=PySem.W.any_some hh;have hx:s.heap.get? x=some ⟨.ref C,some dx,.plain,#[]⟩:=I.obj;refine wpAny_bind (wpAny_pure (wpAny_bind (wpAny_bind (wpAny_loadPart hx (wpAny_bind (PySem.W.Looks.here (s:={s with toks:=s.toks+1}) (PySem.W.looks_clsIn X hc) ?_))))));rw[Sc];refine wpAny_pure (a:=some dx) (wpAny_bind (wpAny_pure (wpAny_bind ?_)));refine wpAny_nsSet1 (s:={s with toks:=s.toks+1}) I.ns fun h' PD PN=>?_;obtain⟨oD,Wv,Wu,MZ,MR,MP⟩:=PD.count (PySem.Within.cons name v hw);refine wpAny_bind (wpAny_lookBehind MZ (by rw[MR];exact pastItsLine_dict (bL MP (by rw[bw];omega))) ?_);exact wpAny_pure (h _ ⟨(PN.2 _ (b9 I.ne)).trans I.obj,PD,I.ne⟩ PN)
theorem zwn{R:Result->Shared->Prop}{vs:List Value}{kw:List (Str×Value)}(X:K.In s.heap)(hm:ir K C=true)(hi:aF K (.ref C) "__init__"=some (some (.ref f)))(hf:iY K (.ref f)=some (.type "function"))(h:codeAny (model prog w) (A.under (.builtin "type.__call__" ⟨.ref C::vs,kw⟩)) (.call (.ref f) ⟨.ref (s.heap.objs.size+1)::vs,kw⟩) (PySem.W.InitBack (s.heap.objs.size+1) R)
      {s with heap:=(s.heap.push eN).push (fR C s.heap.objs.size)}):
    codeAny (model prog w) A (.call (.ref C) ⟨vs,kw⟩) R s:=by
  obtain⟨hh,g,d,t,os⟩:=s;exact PySem.W.make_core (PySem.W.makes_of X hm) (AG X hi) (fun self=>Fq X self hf) (.inl rfl) h
end
def aD(f:Str)(v:V):List (Str×V)->List (Str×V)
 |[]=>[(f,v)]
 |(g,x)::r=>if g=f then(g,v)::r else(g,x)::aD f v r
theorem pR (f g:Str) (v:V):∀ fs:List (Str×V),(aD f v fs).lookup g=if g=f then some v else fs.lookup g
 | []=>by
  show iW g [(f,v)] = _
  by_cases h:g=f
  ·have hb:(g == f)=true:=beq_iff_eq.mpr h
   simp only [iW,hb,if_pos h]
  ·have hb:(g == f)=false:=beq_eq_false_iff_ne.mpr h
   simp only [iW,hb,if_neg h]
 | (k,x) :: r=>by
  have ih:=pR f g v r
  rw [show aD f v ((k,x) :: r)=(if k=f then (k,v) :: r else (k,x) :: aD f v r) from rfl]
  by_cases hk:k=f
  ·rw [if_pos hk]
   by_cases h:g=k
   ·have hb:(g == k)=true:=beq_iff_eq.mpr h
    simp only [iW,hb,if_pos (h.trans hk)]
   ·have hb:(g == k)=false:=beq_eq_false_iff_ne.mpr h
    simp only [iW,hb,if_neg (fun e:g=f=>h (e.trans hk.symm))]
  ·rw [if_neg hk]
   by_cases h:g=k
   ·have hb:(g == k)=true:=beq_iff_eq.mpr h
    simp only [iW,hb,if_neg (fun e:g=f=>hk (h.symm.trans e))]
   ·have hb:(g == k)=false:=beq_eq_false_iff_ne.mpr h
    simp only [iW,hb]
    exact ih
theorem VG (f:Str) (v:V):∀ fs:List (Str×V),f∈(aD f v fs).map (·.1)/\∀ g,g∈fs.map (·.1)->g∈(aD f v fs).map (·.1)
 | []=>⟨by simp [aD],fun g h=>by simp at h⟩
 | (k,x) :: r=>by
  obtain ⟨i1,i2⟩:=VG f v r
  rw [show aD f v ((k,x) :: r)=(if k=f then (k,v) :: r else (k,x) :: aD f v r) from rfl]
  by_cases hk:k=f
  ·rw [if_pos hk]
   subst hk
   exact ⟨by simp,fun g h=>by simpa using h⟩
  ·rw [if_neg hk]
   refine ⟨?_,fun g h=>?_⟩
   ·rw [ay]
    exact ae _ i1
   ·rw [ay] at h ⊢
    rcases ak.mp h with e | e
    ·exact ak.mpr (.inl e)
    ·exact ae _ (i2 g e)
theorem Y6(f:Str)(v:V):∀fs:List (Str×V),(aD f v fs).length<=fs.length+1
 |[]=>by simp[aD]
 |(k,x)::r=>by
  have ih:=Y6 f v r;rw[show aD f v ((k,x)::r)=(if k=f then(k,v)::r else(k,x)::aD f v r)from rfl];by_cases hk:k=f
  ·rw[if_pos hk,bw,bw];omega
  ·rw[if_neg hk,bw,bw];omega
theorem kU.some_of{v:V}{o:Option Value}(r:kU (some v) o):∃u,o=some u/\RelV v u:=by
 cases o with
 |none=>exact(show False from r).elim
 |some u=>exact⟨u,rfl,r⟩
theorem kU.none_of{o:Option Value}(r:kU none o):o=none:=by
 cases o with
 |none=>rfl
 |some u=>exact(show False from r).elim
theorem ztr{v:V}{u:Value}(r:RelV v u):D7 u=true:=by
 cases v with
 |cy=>cases(show u=Value.none from r);rfl
 |bl b=>cases(show u=Value.bool b from r);rfl
 |int i=>obtain⟨t,e⟩:=(show ∃t,u=Value.int i t from r);cases e;rfl
 |str x=>obtain⟨t,e⟩:=(show ∃t,u=Value.str x t from r);cases e;rfl
 |Bx b=>obtain⟨t,e⟩:=(show ∃t,u=Value.bytes b t from r);cases e;rfl
 |FG b=>obtain⟨t,e⟩:=(show ∃t,u=Value.float b t from r);cases e;rfl
 |ref a=>cases(show u=Value.ref a from r);rfl
 |ty n=>cases(show u=Value.type n from r);rfl
section
variable{P:Program}{w:World}{H H':Hp}{h h':Heap}{a C dx:Addr}{fs rG:List (Str×V)}
theorem VR(eB:kL P w H h)(e:H a=some (.ins C dx fs)):∃mA,AE h a dx C mA/\(∀f,kU (fs.lookup f) (mA f))/\AH mA (fs.map (·.1))/\fs.length<=1000/\H dx=some (.own a):=by obtain⟨d,z,ne,ob,mA,n,r,q⟩:=(show fT P w H h a (.ins C dx fs)from eB a _ e);exact⟨mA,⟨ob,n,ne⟩,r,q,z,d⟩
end
structure xw(K:aa)(C:Addr):Prop where
 pg:l9 K C Str.empty=true
 hd:gH K C=true
 po:DE K C=true
 sa:aF K (.ref C) "__setattr__"=some (some (.builtin "object.__setattr__"))
theorem xw.get{K:aa}{C:Addr}(c:xw K C)(f:Str):l9 K C f=true:=c.pg
def dH(K:aa)(C:Addr)(f:Str):Prop:=aF K (.ref C) f=some none
theorem dH.Ov{K:aa}{C:Addr}{f:Str}(n:dH K C f):iu K C f=some none:=by unfold iu;rw[show aF K (.ref C) f=some none from n];rfl
structure Jz(K:aa)(C:Addr)(m:Str)(f:Addr):Prop where
 at_:aF K (.ref C) m=some (some (.ref f))
 fn:gq K (.ref f)=true
 kp:aO K (.ref f)=true
section
variable{X:Cx}{ah:List (Addr×Obj)}{σ:St}{H:Hp}{s:Shared}{a C dx:Addr}{fs:List (Str×V)}{f:Str}{v:V}{A:Around}{E:Value->Shared->Prop}
theorem zsm{b:Bool}{Q:Value->Shared->Prop}(I:Inv X ah σ H s)(e:H a=some (.ins C dx fs))(c:xw X.K C)(n:dH X.K C f)(l:fs.lookup f=some v)(h:∀u s',Inv X ah σ H s'->RelV v u->Q u s'):wpAny (model X.prog X.w) A (getAttr (.ref a) f b) Q E s:=by
  obtain⟨mA,O,r,_,_,_⟩:=VR I.eB e;obtain⟨u,hu,ru⟩:=kU.some_of (v:=v) (o:=mA f) (by rw[<-l];exact r f);exact zzb I.rH O (c.get f) c.hd n hu (ztr ru) (h u _ (I.tok _) ru)
theorem Zl{m:Str}{g:Addr}{pl:Sem Bool}{Q:Value×List Value->Shared->Prop}(I:Inv X ah σ H s)(e:H a=some (.ins C dx fs))(c:xw X.K C)(k:Jz X.K C m g)(l:fs.lookup m=none)(h:Q (.ref g,[.ref a]) s):wpAny (model X.prog X.w) A (getMethod (.ref a) m pl) Q E s:=by
  obtain⟨mA,O,r,_,_,_⟩:=VR I.eB e;have hn:mA m=none:=kU.none_of (by rw[<-l];exact r m);exact zwm I.rH O (c.get m) k.at_ k.fn hn h
theorem zsn {y:V} {u:Value} {Q:Unit->Shared->Prop} (I:Inv X ah σ H s) (e:H a=some (.ins C dx fs)) (c:xw X.K C) (n:dH X.K C f) (hl:fs.length<1000) (ry:RelV y u)
    (h:∀ s',Inv X ah σ (upd H a (.ins C dx (aD f y fs))) s'->Q () s'):wpAny (model X.prog X.w) A (setAttr (.ref a) f u) Q E s:=by
  obtain ⟨mA,O,r,wi,_,ho⟩:=VR I.eB e
  have hz:(fs.map (·.1)).length<=sizeLine:=by rw [ai,sizeLine_eq]; omega
  refine zzc I.rH O c.sa c.po n.Ov c.hd wi hz fun h' O' sb=>h _ ?_
  have hd:∃ o,h'.get? dx=some o:=let ⟨o,_,_,e',_⟩:=O'.ns; ⟨o,e'⟩
  refine I.write (x:=a) (e:=dx) (by rw [e]; exact bB) (.inr ho) (fun b q hb z=>(sb.2 b hb).trans z) hd ?_
  refine ⟨by rw [bM O.ne]; exact ho,?_,O.ne,O'.obj,_,O'.ns,fun g=>?_,fun g hg=>?_⟩
  · have:=Y6 f y fs; omega
  · show kU ((aD f y fs).lookup g) (if g=f then some u else mA g)
    rw [pR]
    by_cases q:g=f
    · rw [if_pos q,if_pos q]; exact ry
    · rw [if_neg q,if_neg q]; exact r g
  · by_cases q:g=f
    · rw [q]; exact (VG f y fs).1
    · refine (VG f y fs).2 g (wi g fun z=>hg ?_)
      show (if g=f then some u else mA g)=none
      rw [if_neg q]; exact z
theorem Inv.made(I:Inv X ah σ H s):Inv X ah σ (upd (upd H s.heap.objs.size (.own (s.heap.objs.size+1))) (s.heap.objs.size+1) (.ins C s.heap.objs.size []))
    {s with heap:=(s.heap.push eN).push (fR C s.heap.objs.size)}:=by
  have e1:(s.heap.push eN).get? s.heap.objs.size=some eN:=Heap.get?_push_size s.heap rfl;have e2:((s.heap.push eN).push (fR C s.heap.objs.size)).get? (s.heap.objs.size+1)=some (fR C s.heap.objs.size):=by
    have:=Heap.get?_push_size (s.heap.push eN) (o:=fR C s.heap.objs.size) rfl
    rwa [Heap.size_push]at this
  have e3:(s.heap.push eN).Ns s.heap.objs.size (fun _=>none):=⟨eN,#[],_,e1,rfl,(fun e he=>absurd he (by simp)),fun _=>rfl⟩;have I1:=I.laid (a:=s.heap.objs.size) (o:=.own (s.heap.objs.size+1)) (h':=s.heap.push eN) (t':=s.toks) (fun b u q=>Heap.get?_push_of_some _ q) (az _) ⟨_,e1⟩;refine I1.laid (a:=s.heap.objs.size+1) (o:=.ins C s.heap.objs.size []) (t':=s.toks) (fun b u q=>Heap.get?_push_of_some _ q) (Nat.le_of_eq (Heap.size_push _ _)) ?_;have ne:s.heap.objs.size≠s.heap.objs.size+1:=aZ (JA _);refine⟨by rw[bM ne,bX],bZ _,ne,e2,fun _=>none,(Heap.Ns1.of_empty e3).at fun o q=>Heap.get?_push_of_some _ q,fun _=>bB,fun y hy=>absurd rfl hy⟩
theorem zzd{prog:Program}{w:World}{env:Env}{e:Expr}{f:Str}{pos:Pos}{s:Shared}{Q:Value->Shared->Prop}(hb:attributeBase e f env (eval e env)=eval e env)(h:wpAny (model prog w) A (eval e env) (fun o s₁=>wpAny (model prog w) A (getAttr o f true) Q E s₁) E s):wpAny (model prog w) A (eval (.Attribute e f pos) env) Q E s:=
  Attribute_any_ h (by rw[arm_eval_Attribute,hb])
end
def KZ(K:aa)(ta:TE)(f:Str):TE:=fun σ H Q=>ta σ H fun x H1=>∃a C dx fs v,x= .ref a/\H1 a=some (.ins C dx fs)/\xw K C/\dH K C f/\fs.lookup f=some v/\Q v H1
def NX(K:aa)(ta tv:TE)(f:Str):TS:=fun D σ H=>tv σ H fun y H1=>ta σ H1 fun x H2=>∃a C dx fs,x= .ref a/\H2 a=some (.ins C dx fs)/\xw K C/\dH K C f/\fs.length<1000/\
 D.nx σ (upd H2 a (.ins C dx (aD f y fs)))
section
variable{X:Cx}{o e value:Expr}{f:Str}{pos qT K4:Pos}{ta tv:TE}
theorem eT(he:PE X e ta)(hb:attributeBase e f X.env (eval e X.env)=eval e X.env):PE X (.Attribute e f pos) (KZ X.K ta f):=by intro ah s σ H Q I h;refine zzd hb (eJ (he ah s σ H _ I h) fun u s1⟨x,H1,I1,rx,a,C,dx,fs,v,ex,ea,c,n,l,q⟩=>?_);subst ex;obtain rfl:u=Value.ref a:=rx;exact zsm I1 ea c n l fun u' s2 I2 ru=>⟨v,H1,I2,ru,q⟩
theorem lT(ha:PE X o ta)(hv:PE X value tv)(hs:swapsWith value (some (.Attribute o f qT)) pos.line X.env=pure false):PS X (.Assign [.Attribute o f qT] value pos) (NX X.K ta tv f):=by intro ah s σ H D I h;refine plainObj_wpAny_Assign_Attribute (eJ (hv ah s σ H _ I h) fun u s1⟨y,H1,I1,ry,q⟩=>eJ (ha ah s1 σ H1 _ I1 q) fun ov s2⟨x,H2,I2,rx,a,C,dx,fs,ex,ea,c,n,l,q2⟩=>?_) hs;subst ex;obtain rfl:ov=Value.ref a:=rx;exact zsn I2 ea c n l ry fun s3 I3=>⟨σ,_,I3,q2⟩
end
section
variable{X:Cx}{ah:List (Addr×Obj)}{σ:St}{H:Hp}{s:Shared}{A:Around}{E:Value->Shared->Prop}{Q:Value->Shared->Prop}{c:Value}{b:Bool}
end
structure gu(k:Nat)(A:Around):Prop where
 hd:A.handled=none
 dp:A.depth+3*k+5<recursionLimit
 un:A.units+16*k+200<cLine
theorem gu.mono{j k:Nat}{A:Around}(r:gu k A)(h:j<=k):gu j A:=⟨r.hd,by have:=r.dp;omega,by have:=r.un;omega⟩
theorem gu.deeper{k:Nat}{A:Around}(r:gu (k+1) A)(env:Env):gu k (A.deeper env):=
 ⟨r.hd,by have:=r.dp;show A.depth+1+3*k+5 < _;omega,by have:=r.un;show A.units+3+16*k+200 < _;omega⟩
theorem zso{A:Around}{C:Addr}{us:List Value}{kw:List (Str×Value)}:(A.under (.builtin "type.__call__" ⟨.ref C::us,kw⟩)).depth=A.depth+1:=by first|rfl|simp[Around.under,Code.weight,Code.isCreation,Code.isGuard,Code.isCaller,Code.frames,Code.isFrame,guardIds]
theorem zsp{A:Around}{C:Addr}{us:List Value}{kw:List (Str×Value)}:(A.under (.builtin "type.__call__" ⟨.ref C::us,kw⟩)).units=A.units+1:=by first|rfl|simp[Around.under,Code.cUnits,Code.frames,Code.isFrame]
theorem gu.make{k:Nat}{A:Around}(r:gu (k+1) A)(C:Addr)(us:List Value)(kw:List (Str×Value)):gu k (A.under (.builtin "type.__call__" ⟨.ref C::us,kw⟩)):=
 ⟨r.hd,by have:=r.dp;rw[zso];omega,by have:=r.un;rw[zsp];omega⟩
theorem gu.depth{k:Nat}{A:Around}(r:gu k A):A.depth<recursionLimit:=by have:=r.dp;omega
theorem gu.units{k:Nat}{A:Around}(r:gu k A):A.units+64<cLine:=by have:=r.un;omega
def Dq:TA:=fun _ H Q=>Q [] H
def Ci(ta:TE)(tr:TA):TA:=fun σ H Q=>ta σ H fun x H1=>tr σ H1 fun xs H2=>Q (x::xs) H2
section
variable{X:Cx}{e:Expr}{es:List Expr}{te:TE}{t:TA}{pos:Pos}
theorem bP:PA X [] Dq:=fun _ _ _ _ H Q I h=>Calls.spliced_nil ⟨[],H,I,.nil,h⟩
theorem aS(ha:PE X e te)(hr:PA X es t)(hs:starEach (e::es) X.env=(false,eval e X.env)::starEach es X.env:=by rfl):PA X (e::es) (Ci te t):=by intro pos ah s σ H Q I h;rw[hs];show wpAny _ _ (spliced ((false,eval e X.env)::backTo pos (starEach es X.env))) _ _ s;refine Calls.spliced_cons (eJ (ha ah s σ H _ I h) fun u s1⟨x,H1,I1,r1,q1⟩=>?_);exact eJ (hr pos ah s1 σ H1 _ I1 q1) fun us s2⟨xs,H2,I2,r2,q2⟩=>⟨x::xs,H2,I2,.cons r1 r2,q2⟩
def Hq(t:TA):TE:=fun σ H Q=>t σ H fun xs H1=>xs.length<=sizeLine/\∀p,H1 p=none->Q (.ref p) (upd H1 p (.tup xs))
def Hh(t:TA):TE:=fun σ H Q=>t σ H fun xs H1=>xs.length<=sizeLine/\∀p,H1 p=none->Q (.ref p) (upd H1 p (.lst xs))
theorem yt{x1}(h:PA X es t):PE X (.Tuple es x1 pos) (Hq t):=by intro ah s σ H Q I hq;refine wpAny_Tuple_spliced (eJ (h pos ah s σ H _ I hq) fun us s1⟨xs,H1,I1,r,z,q⟩=>⟨by rw[<-r.length];exact z,?_⟩);have hf:H1 s1.heap.objs.size=none:=I1.eB.fresh (az _);refine⟨.ref s1.heap.objs.size,upd H1 s1.heap.objs.size (.tup xs),I1.laid (t':=s1.toks) (fun b u e=>Heap.get?_push_of_some _ e) (az _) ?_,rfl,q _ hf⟩;exact⟨z,us,r,⟨_,Heap.get?_push_size _ rfl,rfl,_,rfl⟩⟩
theorem Ab(h:PA X es t):PE X (.List es pos) (Hh t):=by intro ah s σ H Q I hq;refine wpAny_List_spliced (eJ (h pos ah s σ H _ I hq) fun us s1⟨xs,H1,I1,r,z,q⟩=>⟨by rw[<-r.length];exact z,?_⟩);have hf:H1 s1.heap.objs.size=none:=I1.eB.fresh (az _);refine⟨.ref s1.heap.objs.size,upd H1 s1.heap.objs.size (.lst xs),I1.laid (t':=s1.toks) (fun b u e=>Heap.get?_push_of_some _ e) (az _) ?_,rfl,q _ hf⟩;exact⟨z,us,0,r,Heap.get?_push_size _ rfl⟩
end
abbrev Sp:=List V->Hp->VK->XK->Prop
abbrev tw:=List Env->Hp->Shared->XK->Value->Shared->Prop
structure Ax(P:Program)(w:World)(K:aa)(mg:Str->Option Value)(base:Heap)(A:Around)(outer:List Env)(s:Shared)(H:Hp):Prop where
 frames:A.frames=some outer
 mod:Mod K mg base
 bs:∀b o,base.get? b=some o->s.heap.get? b=some o/\H b=none
 DG:base.objs.size<=s.heap.objs.size
 mj:s.heap.FunFrames base outer
 FH:∀b∈uc outer,H b=none
 eB:kL P w H s.heap
 bare:AllBare s.gens
def CE(outer:List Env)(P:Program)(w:World)(H:Hp)(s:Shared)(Q:VK)(u:Value)(s':Shared):Prop:=
 ∃v H',s'.os=s.os/\AllBare s'.gens/\Un (uc outer) [] H H' s.heap s'.heap/\kL P w H' s'.heap/\RelV v u/\Q v H'
def CR(CX:tw)(outer:List Env)(P:Program)(w:World)(H:Hp)(s:Shared)(Q:VK)(E:XK)(r:Result)(s':Shared):Prop:=
 match r with
 | .ok (.ret u)=>CE outer P w H s Q u s'
 | .ok _=>False
 | .error e=>CX outer H s E e s'
structure pX(P:Program)(w:World)(K:aa)(mg:Str->Option Value)(base:Heap)(CX:tw)(k:Nat)(f:Addr)(fd:FuncData)(ps:List Str)(sp:Sp):Prop where
 len:∀vs H Q E,sp vs H Q E->vs.length=ps.length
 run:∀(A:Around)(outer:List Env)(s:Shared)(H:Hp)(args:Args)(us:List Value)(vs:List V)(Q:VK)(E:XK),gu k A->Ax P w K mg base A outer s H->BindsTo s fd args (ps.zip us)->cj vs us->sp vs H Q E->
  codeAny (model P w) A (.call (.ref f) args) (CR CX outer P w H s Q E) s
theorem Ax.make{P:Program}{w:World}{K:aa}{mg:Str->Option Value}{base:Heap}{A:Around}{outer:List Env}{s:Shared}{H:Hp}(e:Ax P w K mg base A outer s H)(C:Addr)(us:List Value)(kw:List (Str×Value)):
    Ax P w K mg base (A.under (.builtin "type.__call__" ⟨.ref C::us,kw⟩)) outer s H:=⟨by first|exact e.frames|(simpa [Around.under,Code.envs,Code.isFrame,pushEnvs]using e.frames),e.mod,e.bs,e.DG,e.mj,e.FH,e.eB,e.bare⟩
section
variable{X:Cx}{ah:List (Addr×Obj)}{σ:St}{H:Hp}{s s':Shared}
theorem Inv.Gz(I:Inv X ah σ H s):Ax X.prog X.w X.K X.mg X.base X.A X.stack s H:=
 ⟨I.ok.frames,I.ok.mod,I.bs,bL I.ok.DG I.sz,I.stack,I.yh,I.eB,I.bare⟩
theorem Inv.after{Q:VK}{u:Value}(I:Inv X ah σ H s)(h:CE X.stack X.prog X.w H s Q u s'):EP X ah σ Q u s':=by obtain⟨v,H',os,bare,un,eB,r,q⟩:=h;obtain⟨hh,g,d,t,os'⟩:=s';obtain rfl:os'=s.os:=os;exact⟨v,H',I.call (h':=hh) (g':=g) (d':=d) (t':=t) (ch:=[]) un eB bare (fun b z=>absurd z (by simp)),r,q⟩
end
def E9(sp:Sp)(d7:List V)(E:XK)(t:TA):TE:=fun σ H Q=>t σ H fun vs H1=>sp (vs++d7) H1 Q E
def Binds(K:aa)(fd:FuncData)(ps:List Str)(ds:List Value):Prop:=
 ∀(s:Shared)(us:List Value),K.In s.heap->(us++ds).length=ps.length->BindsTo s fd ⟨us,[]⟩ (ps.zip (us++ds))
theorem Binds.all{K:aa}{fd:FuncData}{ps:List Str}(h:∀us:List Value,us.length=ps.length->bindArgs fd ⟨us,[]⟩=pure (ps.zip us)):Binds K fd ps []:=fun s us _ hl=>by rw[aJ]at hl⊢;exact .of_eq (h us hl)
section
variable{X:Cx}{CX:tw}{k:Nat}{f C:Addr}{fd:FuncData}{ps:List Str}{sp:Sp}{d7:List V}{ds:List Value}{E:XK}{x m:Str}{p pos gM:Pos}{e o:Expr}{es:List Expr}{ta:TE}{t:TA}
structure Mk(K:aa)(C f:Addr):Prop where
 makes:ir K C=true
 init:aF K (.ref C) "__init__"=some (some (.ref f))
 fn:gq K (.ref f)=true
 kp:aO K (.ref C)=true
end
section
variable{X:Cx}{CX:tw}{k:Nat}{f C:Addr}{fd:FuncData}{ps ks:List Str}{sp:Sp}{E:XK}{x m:Str}{p pos gM GY:Pos}{e o:Expr}{es:List Expr}{kws:List Keyword}{te ta:TE}{t tk:TA}{nm:Option Str}
variable{g:List Value->List Value->List Value}{gV:List V->List V->List V}
end
structure aE(N P:List Str)(sc:Scope):Prop where
 kind:sc.kind= .function
 co:sc.isCoroutine=false
 gen:sc.isGenerator=false
 nd:N.Nodup
 pre:N.take P.length=P
 par:∀x∈P,sc.names.lookup x=some .local\/sc.names.lookup x=some .cell
 Kp:∀y∈sc.names,y.2≠.free
theorem ZA{kindOf:Str->Option NameKind}{x:Str}:∀{binds:List (Str×Value)}{m:Str->Option Value},(∀v,(x,v)∉binds)->bindL kindOf binds m x=m x
 |[],_,_=>rfl
 |(n,v)::r,m,h=>by
  unfold bindL;rw[ZA fun w hw=>h w (ae _ hw)];split
  ·have:x≠n:=by rintro rfl;exact h v aj
   simp[this]
  ·rfl
theorem ZB{kindOf:Str->Option NameKind}{x:Str}:∀{binds:List (Str×Value)}{m:Str->Option Value},(∀v,(x,v)∉binds)->bindC kindOf binds m x=m x
 |[],_,_=>rfl
 |(n,v)::r,m,h=>by
  unfold bindC;rw[ZB fun w hw=>h w (ae _ hw)];split
  ·rfl
  ·have:x≠n:=by rintro rfl;exact h v aj
   simp[this]
theorem ZC{kindOf:Str->Option NameKind}{x:Str}{v:Value}:∀{P:List Str}{vs:List Value}{i:Nat}{m:Str->Option Value},P.Nodup->P[i]?=some x->vs[i]?=some v->kindOf x=some .local->
    bindL kindOf (P.zip vs) m x=some v
  |[],_,_,_,_,h,_,_=>by simp at h
  |_::_,[],_,_,_,_,h,_=>by simp at h
  |p::P,w::vs,0,m,nd,h1,h2,hk=>by simp at h1 h2;subst h1;subst h2;show bindL kindOf ((p,w)::P.zip vs) m p=_;unfold bindL;rw[ZA fun v hv=>(aG.mp nd).1 (wF hv).1,if_pos hk];simp
  |p::P,w::vs,i+1,m,nd,h1,h2,hk=>by show bindL kindOf ((p,w)::P.zip vs) m x=_;unfold bindL;exact ZC (i:=i) (aG.mp nd).2 (by simpa using h1) (by simpa using h2) hk
theorem ZD{kindOf:Str->Option NameKind}{x:Str}{v:Value}:∀{P:List Str}{vs:List Value}{i:Nat}{m:Str->Option Value},P.Nodup->P[i]?=some x->vs[i]?=some v->kindOf x≠some .local->
    bindC kindOf (P.zip vs) m x=some v
  |[],_,_,_,_,h,_,_=>by simp at h
  |_::_,[],_,_,_,_,h,_=>by simp at h
  |p::P,w::vs,0,m,nd,h1,h2,hk=>by simp at h1 h2;subst h1;subst h2;show bindC kindOf ((p,w)::P.zip vs) m p=_;unfold bindC;rw[ZB fun v hv=>(aG.mp nd).1 (wF hv).1,if_neg hk];simp
  |p::P,w::vs,i+1,m,nd,h1,h2,hk=>by show bindC kindOf ((p,w)::P.zip vs) m x=_;unfold bindC;exact ZD (i:=i) (aG.mp nd).2 (by simpa using h1) (by simpa using h2) hk
def start(N:List Str)(vs:List V):St:=vs.map some++jh (N.length-vs.length) none
def nv(CX:tw)(P:Program)(w:World)(K:aa)(mg:Str->Option Value)(base:Heap)(N:List Str)(dP:Str)(scope:Scope)(f:Addr)(cd:Value)(A:Around)(outer:List Env)(s:Shared)(H:Hp)(E:XK):Cx where
 prog:=P
 w:=w
 K:=K
 mg:=mg
 base:=base
 A:=A.deeper (envOfC dP scope s.heap.objs.size f cd)
 N:=N
 s₀:=s
 H₀:=H
 env:=envOfC dP scope s.heap.objs.size f cd
 outer:=outer
 stack:=envOfC dP scope s.heap.objs.size f cd::outer
 ex:=[]
 calm:=true
 fn:=fun _=>true
 pn:=[]
 xe:=fun e s'=>wpAny (model P w) (A.deeper (envOfC dP scope s.heap.objs.size f cd)) (leaving (envOfC dP scope s.heap.objs.size f cd) e) (fun _ TH=>CX outer H s E e TH) (fun e' TH=>CX outer H s E e' TH) s'
theorem Z6{sc:Scope}{n:Nat}{x:Str}(h:sc.names.lookup x=some .cell):∃c,(cellsFrom n sc.names []).lookup x=some c:=by have q:=yQ sc.names n [] (.inl h);exact fY.mp q
theorem zts{CX:tw}{P:Program}{w:World}{K:aa}{mg:Str->Option Value}{base:Heap}{N ps:List Str}{dP:Str}{scope:Scope}{f:Addr}{cd:Value}{A:Around}{outer:List Env}{s s1:Shared}{H:Hp}{E:XK}{us:List Value}{vs:List V}(S:aE N ps scope)(hd:A.handled=none)(e0:Ax P w K mg base A outer s H)(hl:vs.length=ps.length)(r:cj vs us)(x:InCallC s s.heap.objs.size (bindL (envOfC dP scope s.heap.objs.size f cd).kindOf (ps.zip us) fun _=>none) (cellsFrom (s.heap.objs.size+1) scope.names []) (bindC (envOfC dP scope s.heap.objs.size f cd).kindOf (ps.zip us) fun _=>none) s1):
    Inv (nv CX P w K mg base N dP scope f cd A outer s H E) [] (start N vs) H s1:=by
  have Ar:ps.length<=N.length:=by have:=congrArg iV S.pre;rw[aY]at this;omega
  obtain⟨h1,tk,rfl,hk⟩:=x.done;have Nt:∀b:Addr,b∉(nv CX P w K mg base N dP scope f cd A outer s H E).ex:=fun b z=>absurd (show b∈([]:List Addr)from z) (by simp);refine⟨⟨e0.mod,S.kind,rfl,rfl,az _,fun y z c h1 h2=>?_,fun y hy=>?_,fun y c _ h=>?_,fun _=>hd,Around.frames_deeper e0.frames,.inr ⟨rfl,rfl⟩,fun b z=>absurd z (Nt b),e0.bs,e0.DG,fun b _ _=>Nt b,fun b z=>absurd z (Nt b),e0.mj,e0.FH⟩,
    rfl,e0.bare,Un.kept hk,⟨_,x.toInCall.ns,fun i y v h1 h2 h3=>?_⟩,fun y c h=>⟨_,x.cell y c h⟩,e0.eB.fresh (az _),fun y c h=>?_,fun p hp=>absurd (show p∈([]:List (Addr×Obj))from hp) (by simp),e0.eB.kept hk,?_⟩
  · exact name_of_addr x.apart (eS h1) (eS h2)
  · have hy:scope.names.lookup y=some .cell\/scope.names.lookup y=some .free:=hy;rcases hy with hy|hy
    · exact Z6 hy
    · exact absurd rfl (S.Kp _ (eS hy))
  · exact om (x.above y c (eS h))
  · have hi:i<vs.length:=by
      unfold start at h2;by_cases hi:i<vs.length
      · exact hi
      · rw[lA (by simpa using hi)]at h2;rw[AB]at h2;split at h2 <;> cases h2
    have ha:vs[i]?=some v:=by
      unfold start at h2;rw[yN (by simpa using hi),aP]at h2;cases e:vs[i]? with
      |none=>rw[e]at h2;cases h2
      |some a=>rw[e]at h2;cases h2;rfl
    obtain⟨u,hu,rv⟩:=r.get ha;have hp:ps[i]?=some y:=by rw[<-S.pre,Ad (by omega)];exact h1
    have Xd:ps.Nodup:=by rw[<-S.pre];exact S.nd.sublist (List.take_sublist _ _)
    refine⟨u,rv,?_⟩;rcases S.par y (bh hp)with k|k
    · exact .inl ⟨k,ZC Xd hp hu k⟩
    · obtain⟨c,e⟩:=Z6 (n:=s.heap.objs.size+1) k;refine .inr ⟨.inl k,c,e,?_⟩;have q:=x.cell y c e;rw[ZD Xd hp hu (by show scope.names.lookup y≠_;rw[k];decide)]at q;exact q
  · exact e0.eB.fresh (om (x.above y c (eS h)))
  · unfold start;show _=N.length;rw[bg,ai,List.length_replicate];omega
theorem qC{CX:tw}{P:Program}{w:World}{K:aa}{mg:Str->Option Value}{base:Heap}{k:Nat}{f:Addr}{name dP:Str}{params:Arguments}{body:List Stmt}{scope:Scope}{dV kV nT pm dF ct oc:Value}{an od:Option Addr}{rJ:Array (Option Value)}{N ps:List Str}{sp:Sp}(lk:K.lookup f=some ⟨oc,od,.func (bC name dP params body scope dV kV nT pm an dF ct),rJ⟩)(pT:c9 K dF dP=true)(S:aE N ps scope)(len:∀vs H Q E,sp vs H Q E->vs.length=ps.length)(iK:∀(A:Around)(outer:List Env)(s:Shared)(H:Hp)(vs:List V)(Q:VK)(E:XK),gu k (A.deeper (envOfC dP scope s.heap.objs.size f dF))->sp vs H Q E->
      ∃t,rQ (nv CX P w K mg base N dP scope f dF A outer s H E) body t/\t {nx:=fun _ H'=>Q .cy H',rt:=Q} (start N vs) H):
    pX P w K mg base CX (k+1) f (bC name dP params body scope dV kV nT pm an dF ct) ps sp:=by
  refine⟨len,fun A outer s H args us vs Q E hr e0 hb r rT=>?_⟩;have hl:=len _ _ _ _ rT;have KX:K.In s.heap:=e0.mod.FP.keeps fun b o e=>(e0.bs b o e).1;have lim:s.heap.NoLimit:=e0.mod.nolimit.keeps fun b o e=>(e0.bs b o e).1;have j4:∀y∈ps.zip us,scope.names.lookup y.1=some .local\/(scope.names.lookup y.1=some .cell/\((cellsFrom (s.heap.objs.size+1) scope.names []).lookup y.1).isSome=true):=fun⟨n,v⟩ hy=>by
    rcases S.par n (wF hy).1 with q|q
    · exact .inl q
    · exact .inr ⟨q,yQ _ _ _ (.inl q)⟩
  refine codeAny_call_function hr.depth (KX _ _ lk) rfl S.co S.gen rfl (PySem.W.codeRec_of KX pT) (hb _ _ _ _ ?_);refine wpAny_newFunctionEnv_cells S.kind j4 fun env he s1 x=>?_;subst he;refine⟨lim.keeps x.toInCall.keep,codeAny_func ?_⟩;obtain⟨t,ht,hq⟩:=iK A outer s H vs Q E (hr.deeper _) rT;have I:Inv (nv CX P w K mg base N dP scope f dF A outer s H E) [] (start N vs) H s1:=zts S hr.hd e0 hl r x;refine wpAny_mono (ht [] s1 (start N vs) H _ I hq) (fun fl s' hs=>?_) fun e s' hs=>hs;have fin:∀{σ':St}{H':Hp}{v:V}{u:Value},Inv (nv CX P w K mg base N dP scope f dF A outer s H E) [] σ' H' s'->RelV v u->Q v H'->CE outer P w H s Q u s':=
    fun{σ' H' v u} J rv q=>⟨v,H',J.os,J.bare,J.base,J.eB,rv,q⟩;cases fl with
  |ret u=>
    obtain⟨v,σ',H',J,rv,q⟩:=hs;exact fin J rv q
  |next=>
    obtain⟨σ',H',J,q⟩:=hs;exact fin (v:=V.cy) (u:=Value.none) J rfl q
  |brk=>
    obtain⟨_,_,_,q⟩:=hs;exact bI q
  |cont=>
    obtain⟨_,_,_,q⟩:=hs;exact bI q
section
variable{X:Cx}{x:Str}{p pos:Pos}{e:Expr}{es:List Expr}{t:TA}{id T:String}{r:List V->Hp->VK->Prop}
def Ot(r:List V->Hp->VK->Prop)(t:TA):TE:=fun σ H Q=>t σ H fun vs H1=>r vs H1 Q
theorem Ct(hc:mV X (.builtin id) r)(hg:Gl X x)(hm:X.mg x=none)(hv:bootBuiltins x=some (.builtin id))(ha:PA X (e::es) t)(hn:x≠ "__name__":=by decide)(zb:(x ==("__debug__":Str))=false:=by decide)(he:starEach (e::es) X.env=(false,eval e X.env)::starEach es X.env:=by rfl)(Ar:(backTo pos (starEach es X.env)).any (·.1)=false:=by rfl):PE X (.Call (.Name x p) (e::es) [] pos) (Ot r t):=by
  intro ah s σ H Q I h;refine wpAny_Call_Name_kw (L5 I hg hm hv ?_ hn zb);exact PyProof.Rows.callWith_builtin1 (eJ (ha pos ah s σ H _ I h) fun us s1⟨vs,H1,I1,r1,q1⟩=>hc ah s1 σ H1 vs us Q I1 r1 q1) he Ar
theorem ztt(hc:mV X (.type T) r)(hg:Gl X x)(hm:X.mg x=none)(hv:bootBuiltins x=some (.type T))(ha:PA X (e::es) t)(hn:x≠ "__name__":=by decide)(zb:(x ==("__debug__":Str))=false:=by decide)(he:starEach (e::es) X.env=(false,eval e X.env)::starEach es X.env:=by rfl)(Ar:(backTo pos (starEach es X.env)).any (·.1)=false:=by rfl):PE X (.Call (.Name x p) (e::es) [] pos) (Ot r t):=by
  intro ah s σ H Q I h;refine wpAny_Call_Name_kw (L5 I hg hm hv ?_ hn zb);exact jv (eJ (ha pos ah s σ H _ I h) fun us s1⟨vs,H1,I1,r1,q1⟩=>hc ah s1 σ H1 vs us Q I1 r1 q1) he Ar
end
end L2
namespace HT
open PySem PyProof.Rows
section
open PySem.SeqAt
open PySem.AutoSeq1 (wpAny_loadPart')
open PySem.MeetsSeq PySem.MeetsSeq2 PySem.MeetsSeq3
end
section
variable{prog:Program}{w:World}{A:Around}{E:Value->Shared->Prop}{s:Shared}
def wu(n d:Nat):Option Int->Nat
 |none=>d
 |some v=>if v<0 then(v+(n:Int)).toNat else min v.toNat n
theorem uY(n d:Nat):wu n d none=d:=rfl
theorem ug(n d k:Nat):wu n d (some (k:Int))=min k n:=by show(if(k:Int)<0 then((k:Int)+(n:Int)).toNat else min (k:Int).toNat n)=min k n;rw[if_neg (by omega),Int.toNat_natCast]
end
end HT
namespace L2
open PySem PySem.Spec PyProof.Rows
abbrev TO:=St->Hp->(Option Int->Hp->Prop)->Prop
def PO(X:Cx)(e:Option Expr)(t:TO):Prop:=
 ∀(ah:List (Addr×Obj))(s:Shared)(σ:St)(H:Hp)(Q:Option Int->Hp->Prop),Inv X ah σ H s->t σ H Q->
  wpAny (model X.prog X.w) X.A (evalPart e X.env) (fun u s'=>∃o H',Inv X ah σ H' s'/\IsPart u o/\Q o H') X.xe s
def um:TO:=fun _ H Q=>Q none H
def Co(t:TE):TO:=fun σ H Q=>t σ H fun x H1=>∃i,x= .int i/\Q (some i) H1
theorem zsq{ns:List Int}:∀{us:List Value},cj (ns.map V.int) us->IntsAre us ns:=by
 induction ns with
 |nil=>intro us r;rw[jg]at r;cases r;exact .nil
 |cons n ns ih=>
  intro us r;rw[ay]at r;cases r with
  |cons r1 r2=>
   obtain⟨t,e⟩:=r1;subst e;exact .cons n t (ih r2)
section
variable{X:Cx}{e:Expr}{te:TE}{lo hi:Option Expr}{tl th:TO}{pos p2:Pos}
theorem QH:PO X none um:=by intro ah s σ H Q I h;rw[evalPart_none];exact wpAny_pure ⟨none,H,I,.none,h⟩
theorem LX(h:PE X e te):PO X (some e) (Co te):=by intro ah s σ H Q I hw;rw[evalPart_some];refine eJ (h ah s σ H _ I hw) fun u s1⟨x,H1,I1,r1,q1⟩=>?_;obtain⟨i,rfl,q⟩:=q1;obtain⟨t,rfl⟩:=r1;exact⟨some i,H1,I1,.int i t,q⟩
def Ri(X:Cx)(r:V->Option Int->Option Int->Hp->VK->Prop):Prop:=
 ∀(ah:List (Addr×Obj))(s:Shared)(σ:St)(H:Hp)(x:V)(v vl vu:Value)(lo hi:Option Int)(sl:Addr)(Q:VK),Inv X ah σ H s->RelV x v->s.heap.IsSliceOf sl vl vu .none->IsPart vl lo->IsPart vu hi->r x lo hi H Q->
  ∃T id,typeLookup (.type T) "__getitem__"=pure (some (.builtin id))/\s.TypeIs v T/\wpAny (model X.prog X.w) X.A (getItem v (.ref sl)) (EP X ah σ Q) X.xe s
def Ql(r:V->Option Int->Option Int->Hp->VK->Prop)(te:TE)(tl th:TO):TE:=fun σ H Q=>te σ H fun x H1=>tl σ H1 fun l H2=>th σ H2 fun u H3=>r x l u H3 Q
theorem OG{r:V->Option Int->Option Int->Hp->VK->Prop}(hr:Ri X r)(he:PE X e te)(hl:PO X lo tl)(hu:PO X hi th):PE X (.Subscript e (.Slice lo hi none p2) pos) (Ql r te tl th):=by intro ah s σ H Q I h;refine Subscript_ (eJ (he ah s σ H _ I h) fun v s1⟨x,H1,I1,r1,q1⟩=>?_);refine wpAny_Slice (eJ (hl ah s1 σ H1 _ I1 q1) fun vl s2⟨l,H2,I2,pl,q2⟩=>eJ (hu ah s2 σ H2 _ I2 q2) fun vu s3⟨u,H3,I3,pu,q3⟩=>?_);rw[evalPart_none];refine wpAny_pure ?_;have I4:Inv X ah σ H3 {s3 with heap:=s3.heap.push {cls:=.type "slice",data:=.fields #[vl,vu,.none]}}:=I3.kept (t':=s3.toks) fun b ob q=>Heap.get?_push_of_some _ q;obtain⟨T,id,hT,ht,hg⟩:=hr ah {s3 with heap:=s3.heap.push {cls:=.type "slice",data:=.fields #[vl,vu,.none]}} σ H3 x v vl vu l u s3.heap.objs.size Q I4 r1 (Heap.IsSliceOf.new ..) pl pu q3;show wpAny (model X.prog X.w) X.A (subscriptTail e (.Slice lo hi none p2) v (.ref s3.heap.objs.size)) (EP X ah σ Q) X.xe {s3 with heap:=s3.heap.push {cls:=.type "slice",data:=.fields #[vl,vu,.none]}};exact tail_any (ops:=[.ref s3.heap.objs.size,v]) ht hT hg (by with_unfolding_all rfl)
def mL(xs:List V)(lo hi:Option Int):List V:=(xs.drop (HT.wu xs.length 0 lo)).take (HT.wu xs.length xs.length hi-HT.wu xs.length 0 lo)
theorem zqd(xs:List V)(lo hi:Option Int):(mL xs lo hi).length<=xs.length:=by unfold mL;rw[aY,jK];omega
end
def Kg(n:Nat)(i:Int):Option Nat:=if 0<=i then(if i<n then some i.toNat else none)else if -(n:Int)<=i then some (i+n).toNat else none
def Gu{α:Type}(xs:List α)(i:Int):Option α:=(Kg xs.length i).bind fun j=>xs[j]?
theorem ztu{n:Nat}{i:Int}{j:Nat}(h:Kg n i=some j):seqIndex? i n=some j/\j<n/\-(n:Int)<=i/\i<n:=by
 unfold Kg at h;by_cases h0:0<=i
 ·rw[if_pos h0]at h;by_cases h1:i<n
  ·rw[if_pos h1]at h;have e:i.toNat=j:=aq h;exact⟨by rw[seqIndex_of h0 h1,e],by omega,by omega,h1⟩
  ·rw[if_neg h1]at h;cases h
 ·rw[if_neg h0]at h;by_cases h1:-(n:Int)<=i
  ·rw[if_pos h1]at h;have e:(i+n).toNat=j:=aq h;exact⟨by rw[seqIndex_neg (by omega) h1,e],by omega,h1,by omega⟩
  ·rw[if_neg h1]at h;cases h
theorem ztv{α:Type}{xs:List α}{i:Int}{v:α}(h:Gu xs i=some v):∃j,seqIndex? i xs.length=some j/\xs[j]?=some v/\j<xs.length/\-(xs.length:Int)<=i/\i<xs.length:=by
 unfold Gu at h;cases e:Kg xs.length i with
 |none=>rw[e]at h;cases h
 |some j=>
  rw[e]at h;obtain⟨h1,h2,h3,h4⟩:=ztu e;exact⟨j,h1,h,h2,h3,h4⟩
theorem F7{α:Type}{xs:List α}{j:Nat}{v:α}(h:xs[j]?=some v):Gu xs (j:Int)=some v:=by
 have hj:j<xs.length:=(aL.mp h).1;have e:Kg xs.length (j:Int)=some j:=by unfold Kg;rw[if_pos (by omega),if_pos (by omega)];simp
 unfold Gu;rw[e];exact h
def zze(b:Expr):Prop:=∀o i,subscripted b false o i=operate [o,i] (getItem o i)
def Mj(X:Cx)(r:R2):Prop:=
 ∀(value qX:Expr)(ah:List (Addr×Obj))(s:Shared)(σ:St)(H:Hp)(x y:V)(v u:Value)(Q:VK),Inv X ah σ H s->RelV x v->RelV y u->r x y H Q->
  subscripted qX false v u=operate [v,u] (getItem v u)->wpAny (model X.prog X.w) X.A (subscriptTail value qX v u) (EP X ah σ Q) X.xe s
def Wo(X:Cx)(id:String)(r:V->List V->Hp->VK->Prop):Prop:=
 ∀(ah:List (Addr×Obj))(s:Shared)(σ:St)(H:Hp)(x:V)(xs:List V)(v:Value)(us:List Value)(Q:VK),Inv X ah σ H s->RelV x v->cj xs us->r x xs H Q->
  wpAny (model X.prog X.w) X.A (call (.builtin id) (v::us)) (EP X ah σ Q) X.xe s
section
variable{X:Cx}{a b:Expr}{ta tb:TE}{pos:Pos}
theorem bu{r:R2}(hr:Mj X r)(ha:PE X a ta)(hb:PE X b tb)(hs:zze b):PE X (.Subscript a b pos) (K1 r ta tb):=by intro ah s σ H Q I h;exact Subscript_ (JH ha hb I h fun v u s2 x y H2 I2 rx ry q=>hr a b ah s2 σ H2 x y v u Q I2 rx ry q (hs _ _))
def yb(K:aa):R2:=fun x y H Q=>∃p xs i v,x= .ref p/\y= .int i/\iZ K H p xs/\Gu xs i=some v/\Q v H
def KG(K:aa):R2:=fun x y H Q=>∃p xs i v,x= .ref p/\y= .int i/\yE K H p xs/\Gu xs i=some v/\Q v H
theorem zzf:Mj X (yb X.K):=by
 intro value qX ah s σ H x y v u Q I rx ry h hs;obtain⟨p,xs,i,z,rfl,rfl,hq,he,q⟩:=h;cases rx
 obtain⟨t,rfl⟩:=ry;obtain⟨b7,r,pl,hz⟩:=I.list hq;obtain⟨j,h1,h2,h3,h4,h5⟩:=ztv he;obtain⟨w,ew,A7⟩:=r.get h2;have hl:=r.length;have hn:=L7;have fin:EP X ah σ Q w s:=⟨z,H,I,A7,q⟩;by_cases h0:0<=i
 ·have hj:i.toNat=j:=by rw[seqIndex_of h0 h5]at h1;exact aq h1
  exact item_listR pl.isList h0 (by omega) (by rw[hj];simpa using ew) fin hs
 ·have hj:(i+(b7.toArray.size:Int)).toNat=j:=by rw[seqIndex_neg (by omega) h4]at h1;rw[aQ,<-hl];exact aq h1
  exact subscriptTail_builtinR (x:=w) pl.isList.typeIs slot_list_getitem.lookup
   (wpAny_getItem_list_neg (Q:=fun r s'=>r=w/\EP X ah σ Q r s') pl.isList (by omega) (by rw[aQ] <;> omega) (by omega) (by rw[hj];simpa using ew) ⟨rfl,fin⟩) hs
theorem UQ:Mj X (KG X.K):=by
 intro value qX ah s σ H x y v u Q I rx ry h hs;obtain⟨p,xs,i,z,rfl,rfl,hq,he,q⟩:=h;cases rx
 obtain⟨t,rfl⟩:=ry;obtain⟨b7,r,pl,hz⟩:=I.tuple hq;obtain⟨j,h1,h2,h3,h4,h5⟩:=ztv he;obtain⟨w,ew,A7⟩:=r.get h2;have hl:=r.length;have hn:=L7;have fin:EP X ah σ Q w s:=⟨z,H,I,A7,q⟩;exact subscriptTail_builtinR (x:=w) pl.typeIs slot_tuple_getitem.lookup
  (getItem_tuple (j:=j) (Q:=fun r s'=>r=w/\EP X ah σ Q r s') pl (by omega) (by omega) (by rw[aQ,<-hl];exact h1) (by simpa using ew) ⟨rfl,fin⟩) hs
theorem zsr(b7:List Value)(n j:Nat)(u:Value):Obj.mapSeq (·.setIfInBounds j u) {cls:=.type "list",data:=.seq b7.toArray n}={cls:=.type "list",data:=.seq (b7.set j u).toArray n}:=by simp[Obj.mapSeq]
theorem Inv.lst{ah:List (Addr×Obj)}{σ:St}{H:Hp}{s:Shared}{p:Addr}{xs:List V}(I:Inv X ah σ H s)(h:H p=some (.lst xs)):
    ∃(b7:List Value)(n:Nat),cj xs b7/\s.heap.get? p=some {cls:=.type "list",data:=.seq b7.toArray n}/\xs.length<=sizeLine:=by
  obtain⟨z,b7,n,r,e⟩:=I.eB p _ h;exact⟨b7,n,r,e,z⟩
theorem Inv.Kh{ah:List (Addr×Obj)}{σ:St}{H:Hp}{s:Shared}{p:Addr}{xs ys:List V}{b7 its':List Value}{n n':Nat}{f:Obj->Obj}(I:Inv X ah σ H s)(h:H p=some (.lst xs))(ho:s.heap.get? p=some {cls:=.type "list",data:=.seq b7.toArray n})(hf:f {cls:=.type "list",data:=.seq b7.toArray n}={cls:=.type "list",data:=.seq its'.toArray n'})(r:cj ys its')(hz:ys.length<=sizeLine)(t:Nat):
    Inv X ah σ (upd H p (.lst ys)) {s with heap:=s.heap.update p f,toks:=t}:=by
  have e:(s.heap.update p f).get? p=some {cls:=.type "list",data:=.seq its'.toArray n'}:=by rw[Heap.get?_update_self f ho (by rw[hf] <;> rfl),hf]
  refine I.write (x:=p) (e:=p) (by rw[h];trivial) (.inl rfl) (fun b u hb q=>(Heap.get?_update_other _ _ (b9 hb)).trans q) ⟨_,e⟩ ?_;exact⟨hz,its',n',r,e⟩
def NR:V->V->V->Hp->(Hp->Prop)->Prop:=fun o i v H Q=>∃p xs k j,o= .ref p/\i= .int k/\H p=some (.lst xs)/\Kg xs.length k=some j/\Q (upd H p (.lst (xs.set j v)))
theorem Z7:Mp X NR:=by
 intro ah s σ H o i v ov iv u Q I ro ri rv h;obtain⟨p,xs,k,j,rfl,rfl,hp,hj,q⟩:=h;cases ro
 obtain⟨t,rfl⟩:=ri;obtain⟨b7,n,r,ho,hz⟩:=I.lst hp;obtain⟨h1,h2,h3,h4⟩:=ztu hj;have hl:=r.length;have hn:=L7;have I':Inv X ah σ (upd H p (.lst (xs.set j v))) {s with heap:=s.heap.update p (Obj.mapSeq (·.setIfInBounds j u))}:=
  I.Kh hp ho (zsr b7 n j u) (r.set rv j) (by rw[List.length_set];exact hz) s.toks;by_cases h0:0<=k
 ·have hk:k.toNat=j:=by rw[seqIndex_of h0 h4]at h1;exact aq h1
  exact PySem.W.ki_setAt ho h0 (by omega) (by rw[aQ,<-hl];exact h4) (by rw[hk];exact⟨_,I',q⟩)
 ·have hk:(k+(b7.toArray.size:Int)).toNat=j:=by rw[seqIndex_neg (by omega) h3]at h1;rw[aQ,<-hl];exact aq h1
  exact PySem.W.ki_setBack ho (by omega) (by rw[aQ,<-hl];exact h3) (by omega) (by rw[hk];exact⟨_,I',q⟩)
theorem zog(lo hi:Option Int)(n:Nat):(sliceBounds lo hi none n).1=((HT.wu n 0 lo:Nat):Int)/\(sliceBounds lo hi none n).2.1=((HT.wu n n hi:Nat):Int)/\(sliceBounds lo hi none n).2.2=1:=by
 refine⟨?_,?_,rfl⟩
 ·cases lo with
  |none=>simp[sliceBounds,HT.wu]
  |some i=>
   simp only[sliceBounds,HT.wu,Fp,show(1:Int) > 0 by decide,if_true];by_cases h:i<0
   ·simp only[h,if_true] <;> omega
   ·simp only[h,if_false] <;> omega
 ·cases hi with
  |none=>simp[sliceBounds,HT.wu]
  |some i=>
   simp only[sliceBounds,HT.wu,Fp,show(1:Int) > 0 by decide,if_true];by_cases h:i<0
   ·simp only[h,if_true] <;> omega
   ·simp only[h,if_false] <;> omega
theorem zmt(b7:List Value)(lo hi:Option Int):slicePick b7.toArray lo hi none=((b7.drop (HT.wu b7.length 0 lo)).take (HT.wu b7.length b7.length hi-HT.wu b7.length 0 lo)).toArray:=by obtain⟨h1,h2,h3⟩:=zog lo hi b7.toArray.size;unfold slicePick;rw[h1,h2,h3];simp only[sliceRange_one,pick_run,aQ] <;> rfl
def KI(K:aa):V->Option Int->Option Int->Hp->VK->Prop:=fun x lo hi H Q=>∃a xs,x= .ref a/\iZ K H a xs/\∀p,H p=none->Q (.ref p) (upd H p (.lst (mL xs lo hi)))
theorem zzg:Ri X (KI X.K):=by
 intro ah s σ H x v vl vu lo hi sl Q I rx hs pl pu h;obtain⟨a,xs,rfl,hx,q⟩:=h;cases rx
 obtain⟨b7,r,ht,hz⟩:=I.list hx;have gw:=r.length;refine⟨"list",_,slot_list_getitem.lookup,ht.isList.typeIs,?_⟩;refine wpAny_getItem_list_slice ht.isList hs pl pu .none (by simp) ?_ (by rw[aQ] <;> omega);rw[zmt,<-gw];refine⟨.ref s.heap.objs.size,_,I.laid (t':=s.toks) (o:=.lst (mL xs lo hi)) (fun b ob q=>Heap.get?_push_of_some _ q) (az _) ?_,rfl,q _ (I.eB.fresh (az _))⟩;exact⟨bL (zqd xs lo hi) hz,_,0,(r.drop (HT.wu xs.length 0 lo)).take (HT.wu xs.length xs.length hi-HT.wu xs.length 0 lo),Heap.get?_push_size _ rfl⟩
def qB:V->Bool
 | .cy=>true
 | .bl _=>true
 | .int _=>true
 | .str _=>true
 |_=>false
def BD:V->V->Bool
 | .cy,.cy=>true
 | .bl a,.bl b=>a ==b
 | .bl a,.int b=>(if a then 1 else 0) ==b
 | .int a,.bl b=>a ==(if b then 1 else 0)
 | .int a,.int b=>a ==b
 | .str a,.str b=>a ==b
 |_,_=>false
theorem UR{A:Around}{s:Shared}{y x:V}{u v:Value}(ry:RelV y u)(rx:RelV x v)(fy:qB y=true)(fx:qB x=true):SeqAt.EqAt A s u v (BD y x):=by
 cases y with
 |cy=>
  cases ry;cases x with
  |cy=>cases rx;exact SeqAt.EqAt.same _
  |bl b=>cases rx;exact SeqAt.EqAt.none_bool b
  |int b=>obtain⟨t,rfl⟩:=rx;exact SeqAt.EqAt.none_int b t
  |str b=>obtain⟨t,rfl⟩:=rx;exact SeqAt.EqAt.none_str b t
  |_=>exact absurd (show false=true from fx) aV
 |bl a=>
  cases ry;cases x with
  |cy=>cases rx;exact SeqAt.EqAt.bool_none a
  |bl b=>cases rx;exact SeqAt.EqAt.bool_bool a b
  |int b=>obtain⟨t,rfl⟩:=rx;exact SeqAt.EqAt.bool_int a b t
  |str b=>obtain⟨t,rfl⟩:=rx;exact SeqAt.EqAt.bool_str a b t
  |_=>exact absurd (show false=true from fx) aV
 |int a=>
  obtain⟨t',rfl⟩:=ry;cases x with
  |cy=>cases rx;exact SeqAt.EqAt.int_none a t'
  |bl b=>cases rx;exact SeqAt.EqAt.int_bool a t' b
  |int b=>obtain⟨t,rfl⟩:=rx;exact SeqAt.EqAt.int_int a t' b t
  |str b=>obtain⟨t,rfl⟩:=rx;exact SeqAt.EqAt.int_str a t' b t
  |_=>exact absurd (show false=true from fx) aV
 |str a=>
  obtain⟨t',rfl⟩:=ry;cases x with
  |cy=>cases rx;exact SeqAt.EqAt.str_none a t'
  |bl b=>cases rx;exact SeqAt.EqAt.str_bool a t' b
  |int b=>obtain⟨t,rfl⟩:=rx;exact SeqAt.EqAt.str_int a t' b t
  |str b=>obtain⟨t,rfl⟩:=rx;exact SeqAt.EqAt.str_str a t' b t
  |_=>exact absurd (show false=true from fx) aV
 |_=>exact absurd (show false=true from fy) aV
def AJ(x:V)(u:Value):Bool:=match u with
 | .none=>BD .cy x
 | .bool b=>BD (.bl b) x
 | .int i _=>BD (.int i) x
 | .str z _=>BD (.str z) x
 |_=>false
theorem zyf{x y:V}{u:Value}(r:RelV y u)(f:qB y=true):AJ x u=BD y x:=by
 cases y with
 |cy=>cases r;rfl
 |bl b=>cases r;rfl
 |int i=>obtain⟨t,rfl⟩:=r;rfl
 |str z=>obtain⟨t,rfl⟩:=r;rfl
 |_=>exact absurd (show false=true from f) aV
theorem OP{x:V}:∀{xs:List V}{us:List Value},cj xs us->xs.all qB=true->us.any (AJ x)=xs.any fun y=>BD y x
 |_,_,.nil,_=>rfl
 |y::xs,u::us,.cons r t,f=>by rw[List.all_cons,bY]at f;rw[mG,mG,zyf r f.1,OP t f.2]
theorem OH{A:Around}{s:Shared}{x:V}{v:Value}(rx:RelV x v)(fx:qB x=true):∀{xs:List V}{us:List Value},cj xs us->xs.all qB=true->∀u∈us,SeqAt.EqAt A s u v (AJ x u)
 |_,_,.nil,_=>fun u hu=>by cases hu
 |y::xs,u::us,.cons r t,f=>fun u' hu=>by
  rw[List.all_cons,bY]at f;rcases ak.mp hu with rfl|hu
  ·rw[zyf r f.1];exact UR r rx f.1 fx
  ·exact OH rx fx t f.2 u' hu
def GV(x:V)(xs:List V):Bool:=xs.any fun y=>BD y x
def Qc(K:aa)(neg:Bool):R2:=fun x y H Q=>∃p xs,y= .ref p/\(iZ K H p xs\/yE K H p xs)/\qB x=true/\xs.all qB=true/\Q (.bl (if neg then !GV x xs else GV x xs)) H
theorem ztw:m5 X (compareOp .In) (Qc X.K false):=by
 intro ah s σ H x y v u Q I rx ry h;obtain⟨p,xs,rfl,hq,fx,fs,q⟩:=h;cases ry
 rcases hq with hq|hq
 ·obtain⟨b7,r,pl,hz⟩:=I.list hq;refine SeqAt.in_listAt (AJ x) pl.isList (fun w hw=>OH rx fx r fs w (by simpa using hw)) ⟨.bl _,H,I,rfl,?_⟩;rw[show b7.toArray.any (AJ x)=b7.any (AJ x)by simp,OP r fs];exact q
 ·obtain⟨b7,r,pl,hz⟩:=I.tuple hq;refine SeqAt.in_tupleAt (AJ x) pl (fun w hw=>OH rx fx r fs w (by simpa using hw)) ⟨.bl _,H,I,rfl,?_⟩;rw[show b7.toArray.any (AJ x)=b7.any (AJ x)by simp,OP r fs];exact q
theorem zoh:m5 X (compareOp .NotIn) (Qc X.K true):=by
 intro ah s σ H x y v u Q I rx ry h;obtain⟨p,xs,rfl,hq,fx,fs,q⟩:=h;cases ry
 rcases hq with hq|hq
 ·obtain⟨b7,r,pl,hz⟩:=I.list hq;refine SeqAt.notIn_listAt (AJ x) pl.isList (fun w hw=>OH rx fx r fs w (by simpa using hw)) ⟨.bl _,H,I,rfl,?_⟩;rw[show b7.toArray.any (AJ x)=b7.any (AJ x)by simp,OP r fs];exact q
 ·obtain⟨b7,r,pl,hz⟩:=I.tuple hq;refine SeqAt.notIn_tupleAt (AJ x) pl (fun w hw=>OH rx fx r fs w (by simpa using hw)) ⟨.bl _,H,I,rfl,?_⟩;rw[show b7.toArray.any (AJ x)=b7.any (AJ x)by simp,OP r fs];exact q
theorem zoi:mV X (.builtin "len") (fun xs H Q=>∃p ys,xs=[.ref p]/\(iZ X.K H p ys\/yE X.K H p ys)/\Q (.int ys.length) H):=by
 intro ah s σ H xs us Q I r h;obtain⟨p,ys,rfl,hq,q⟩:=h;obtain⟨u,rfl,rx⟩:=vals1 r;cases rx
 have hn:=L7;rcases hq with hq|hq
 ·obtain⟨b7,r',pl,hz⟩:=I.list hq;have gw:=r'.length;exact Calls.call_len_list pl.isList (by simp only[aQ] <;> omega) ⟨.int ys.length,H,I.tok _,⟨s.toks+1,by rw[aQ,gw]⟩,q⟩
 ·obtain⟨b7,r',pl,hz⟩:=I.tuple hq;have gw:=r'.length;exact len_tuple pl (by simp only[aQ] <;> omega) ⟨.int ys.length,H,I.tok _,⟨s.toks+1,by rw[aQ,gw]⟩,q⟩
theorem zoj:mV X (.builtin "len") (fun xs H Q=>∃z,xs=[.str z]/\z.length<=sizeLine/\Q (.int z.length) H):=by intro ah s σ H xs us Q I r h;obtain⟨z,rfl,hz,q⟩:=h;obtain⟨u,rfl,t,rfl⟩:=vals1 r;have hn:=L7;exact len_str (by omega) ⟨.int z.length,H,I.tok _,⟨_,rfl⟩,q⟩
def Qp(K:aa)(T:String)(x:V)(H:Hp):Prop:=match x with
  | .str _=>T="str"
  | .int _=>T="int"
  | .ref p=>(T="list"/\∃xs,iZ K H p xs)\/(T="tuple"/\∃o,K.lookup p=some o/\o.cls= .type "tuple"/\o.dict=none)\/
      (T="dict"/\((∃kvs,H p=some (.dK kvs))\/∃kvs,H p=some (.dT kvs)))\/(T="set"/\∃S n,H p=some (.set S n))
  |_=>False
theorem zyg{ah:List (Addr×Obj)}{σ:St}{H:Hp}{s:Shared}{T:String}{x:V}{v:Value}(I:Inv X ah σ H s)(r:RelV x v)(ty:Qp X.K T x H):
    s.TypeIs v T/\∀a,v= .ref a->∃ob,s.heap.get? a=some ob/\ob.dict=none:=by
  cases x with
  |str z=>
    obtain⟨t,rfl⟩:=r;cases(show T="str"from ty)
    exact⟨typeIs_str s z t,fun _ e=>nomatch e⟩
  |int i=>
    obtain⟨t,rfl⟩:=r;cases(show T="int"from ty)
    exact⟨typeIs_int s i t,fun _ e=>nomatch e⟩
  |ref p=>
    cases r;rcases ty with⟨rfl,xs,hq⟩ |⟨rfl,o,hk,hc,hd⟩ |⟨rfl,hk⟩ |⟨rfl,S,n,hk⟩
    · obtain⟨b7,_,pl,_⟩:=I.list hq;refine⟨pl.isList.typeIs,fun a e=>?_⟩;cases e
      obtain⟨o,n,e,c,hd,_⟩:=pl;exact⟨o,e,hd⟩
    · refine⟨⟨o,I.rH p o hk,hc⟩,fun a e=>?_⟩;cases e
      exact⟨o,I.rH _ o hk,hd⟩
    · have z:∃o,s.heap.get? p=some o/\o.ExactDict:=by
        rcases hk with⟨kvs,hk⟩ |⟨kvs,hk⟩
        · obtain⟨_,_,_,_,o,_,_,e,ex,_⟩:=I.eB p _ hk;exact⟨o,e,ex⟩
        · obtain⟨_,_,_,_,o,_,_,e,ex,_⟩:=I.eB p _ hk;exact⟨o,e,ex⟩
      obtain⟨o,e,ex⟩:=z;refine⟨⟨o,e,ex.1⟩,fun a e2=>?_⟩;cases e2
      exact⟨o,e,ex.2.1⟩
    · obtain⟨o,_,_,_,e,ex,_⟩:=I.eB p _ hk;refine⟨⟨o,e,ex.1⟩,fun a e2=>?_⟩;cases e2
      exact⟨o,e,ex.2.1⟩
  |_=>exact bI ty
def Hg(K:aa)(T:String)(r:V->List V->Hp->VK->Prop)(to:TE):TE:=fun σ H Q=>to σ H fun x H1=>Qp K T x H1/\r x [] H1 Q
def Qi(K:aa)(T:String)(r:V->List V->Hp->VK->Prop)(to:TE)(t:TA):TE:=fun σ H Q=>to σ H fun x H1=>Qp K T x H1/\t σ H1 fun xs H2=>r x xs H2 Q
variable{o e:Expr}{es:List Expr}{to:TE}{t:TA}{name:Str}{gM iJ:Pos}{T id:String}{r:V->List V->Hp->VK->Prop}
theorem US(pa:PlainAttrs T)(slot:Slot T name id)(FM:typeOf (.builtin id)=pure (.type "method_descriptor"))(hm:Wo X id r)(ho:PE X o to)(qD:attributeBase o name X.env (eval o X.env)=eval o X.env:=by rfl)(qF:(gM.endLine ==iJ.line)=true:=by rfl):PE X (.Call (.Attribute o name gM) [] [] iJ) (Hg X.K T r to):=by
  intro ah s σ H Q I h;refine wpAny_Call_method0_late qD qF (eJ (ho ah s σ H _ I h) fun v s1⟨x,H1,I1,r1,ty,q1⟩=>?_);obtain⟨h1,h2⟩:=zyg I1 r1 ty;exact⟨T,id,pa,slot,FM,h1,h2,Calls.callWith_builtin rfl (ku (hm ah s1 σ H1 x [] v [] Q I1 r1 .nil q1))⟩
theorem nK(pa:PlainAttrs T)(slot:Slot T name id)(FM:typeOf (.builtin id)=pure (.type "method_descriptor"))(hm:Wo X id r)(ho:PE X o to)(ha:PA X (e::es) t)(qD:attributeBase o name X.env (eval o X.env)=eval o X.env:=by rfl)(Sd:((backTo iJ (starEach (e::es) X.env)).all (fun x=>!x.1) && (backToKw iJ (keywordEach [] X.env)).all (fun x=>x.1.isSome)
      && decide ((e::es).length+([]:List Keyword).length+(if([]:List Keyword).isEmpty then 0 else 1)<30))=true:=by rfl)(qF:(gM.endLine ==iJ.line)=true:=by rfl)(hs:starEach (e::es) X.env=(false,eval e X.env)::starEach es X.env:=by rfl)(hplain:(backTo iJ (starEach es X.env)).any (·.1)=false:=by rfl):
    PE X (.Call (.Attribute o name gM) (e::es) [] iJ) (Qi X.K T r to t):=by
  intro ah s σ H Q I h;refine wpAny_Call_method_late qD Sd qF rfl (eJ (ho ah s σ H _ I h) fun v s1⟨x,H1,I1,r1,ty,q1⟩=>?_);obtain⟨h1,h2⟩:=zyg I1 r1 ty;refine⟨T,id,pa,slot,FM,h1,h2,?_⟩;have hA:=ha iJ ah s1 σ H1 _ I1 q1;rw[hs]at hA⊢;refine Calls.callWith_builtin (by show(false||(backTo iJ (starEach es X.env)).any (·.1))=false;rw[hplain] <;> rfl) (Calls.evalArgs_plain ?_);exact eJ hA fun us s2⟨vs,H2,I2,r2,q2⟩=>hm ah s2 σ H2 x vs v us Q I2 r1 r2 q2
end
def Pd(X:Cx)(id:String)(r:V->List V->Hp->VK->Prop):Prop:=
 ∀(ah:List (Addr×Obj))(s:Shared)(σ:St)(H:Hp)(x:V)(xs:List V)(v:Value)(us:List Value)(Q:VK),Inv X ah σ H s->RelV x v->cj xs us->r x xs H Q->
  wpAny (model X.prog X.w) X.A (call (.builtin id) (v::us)) (EP X ah σ Q) X.xe s
theorem cj.one:∀{x:V}{us:List Value},cj [x] us->∃u,us=[u]/\RelV x u
 |_,_,.cons r .nil=>⟨_,rfl,r⟩
theorem cj.zero:∀{us:List Value},cj [] us->us=[]
 |_,.nil=>rfl
theorem cj.eraseIdx:∀{xs:List V}{us:List Value}(i:Nat),cj xs us->cj (xs.eraseIdx i) (us.eraseIdx i)
 |_,_,_,.nil=>.nil
 |_,_,0,.cons _ t=>t
 |_,_,i+1,.cons r t=>.cons r (cj.eraseIdx i t)
theorem cj.reverse{xs:List V}{us:List Value}(h:cj xs us):cj xs.reverse us.reverse:=by
 induction h with
 |nil=>exact .nil
 |cons r t ih=>rw[Gk,Gk];exact cj.append ih (.cons r .nil)
theorem ZE{α:Type}:∀(l:List α)(i:Nat),(l.eraseIdx i).length<=l.length
 |[],_=>az _
 |_::_,0=>gC _
 |_::r,i+1=>JC (ZE r i)
section
variable{X:Cx}{ah:List (Addr×Obj)}{σ:St}{H:Hp}{s:Shared}{l b:Addr}{xs ys zs:List V}
theorem Inv.GZ{b7 its':List Value}{n:Nat}{f:Array Value->Array Value}{t':Nat}(I:Inv X ah σ H s)(hH:H l=some (.lst xs))(e:s.heap.get? l=some {cls:=.type "list",data:=.seq b7.toArray n})(hf:f b7.toArray=its'.toArray)(hv:cj ys its')(hz:ys.length<=sizeLine):
    Inv X ah σ (upd H l (.lst ys)) {s with heap:=s.heap.update l (Obj.mapSeq f),toks:=t'}:=by
  have q:=PySem.IsL.update e f;rw[hf]at q;refine I.write (x:=l) (e:=l) (by rw[hH];exact trivial) (.inl rfl) (fun b' u hb hu=>(Heap.get?_update_other s.heap (Obj.mapSeq f) (b9 hb)).trans hu) ⟨_,q⟩ ?_;exact⟨hz,its',_,hv,q⟩
theorem Inv.S6{b7:List Value}{t':Nat}(I:Inv X ah σ H s)(hv:cj ys b7)(hz:ys.length<=sizeLine):
    Inv X ah σ (upd H s.heap.objs.size (.lst ys)) {s with heap:=s.heap.push {cls:=.type "list",data:=.seq b7.toArray},toks:=t'}:=
  I.laid (fun _ _ q=>Heap.get?_push_of_some _ q) (az _) ⟨hz,b7,0,hv,Heap.get?_push_size _ rfl⟩
theorem Inv.fresh(I:Inv X ah σ H s):H s.heap.objs.size=none:=I.eB.fresh (az _)
theorem Inv.CZ(I:Inv X ah σ H s)(hH:H l=some (.lst xs)):xs.length<=sizeLine/\∃(b7:List Value)(n:Nat),cj xs b7/\xs.length=b7.length/\s.heap.get? l=some {cls:=.type "list",data:=.seq b7.toArray n}:=by obtain⟨z,b7,n,r,e⟩:=I.eB l _ hH;exact⟨z,b7,n,r,r.length,e⟩
end
section
variable{X:Cx}
def ztx:V->List V->Hp->VK->Prop:=fun x vs H Q=>∃l xs y,x= .ref l/\vs=[y]/\H l=some (.lst xs)/\xs.length<sizeLine/\Q .cy (upd H l (.lst (xs++[y])))
theorem F5:Pd X "list.append" ztx:=by
 intro ah s σ H x vs v us Q I rx rv h;obtain⟨l,xs,y,rfl,rfl,hH,hz,q⟩:=h;cases rx
 obtain⟨u,rfl,ru⟩:=rv.one;obtain⟨z,b7,n,r,hl,e⟩:=I.CZ hH;refine call_meets F.slot_list_append ⟨_,e,rfl⟩ F.entry_list_append (F.args_list_append_2 _ _) (PySem.list_append l b7.toArray n u (by rw[aQ];omega)) ⟨e,?_⟩;refine⟨.cy,_,I.GZ (its':=b7++[u]) hH e (by simp) (r.append (.cons ru .nil)) ?_,rfl,q⟩;rw[bg,List.length_singleton];omega
def UT:V->List V->Hp->VK->Prop:=fun x vs H Q=>∃l xs i k y,x= .ref l/\vs=[.int i]/\H l=some (.lst xs)/\-(2^63)<=i/\i<2^63/\seqIndex? i xs.length=some k/\xs[k]?=some y/\Q y (upd H l (.lst (xs.eraseIdx k)))
theorem Z8:Pd X "list.pop" UT:=by
 intro ah s σ H x vs v us Q I rx rv h;obtain⟨l,xs,i,k,y,rfl,rfl,hH,h1,h2,hk,hy,q⟩:=h;cases rx
 obtain⟨u,rfl,ru⟩:=rv.one;obtain⟨t,rfl⟩:=ru;obtain⟨z,b7,n,r,hl,e⟩:=I.CZ hH;obtain⟨w,hw,A7⟩:=r.get hy;refine call_meets F.slot_list_pop ⟨_,e,rfl⟩ F.entry_list_pop (F.args_list_pop_2 _ _)
  (MeetsSeq.list_pop_at l b7.toArray n i t k w (fitsIndex_both h1 h2) (by rw[aQ,<-hl];exact hk) (by rw[<-nY];exact hw) (by rw[aQ];omega)) ⟨e,?_⟩;refine⟨y,_,I.GZ (its':=b7.eraseIdx k) hH e ?_ (r.eraseIdx k) ?_,A7,q⟩
 ·show b7.toArray.eraseIdxIfInBounds k=(b7.eraseIdx k).toArray;rw[List.eraseIdxIfInBounds_toArray]
 ·have:=ZE xs k;omega
def zwo:V->List V->Hp->VK->Prop:=fun x vs H Q=>∃l xs,x= .ref l/\vs=[]/\H l=some (.lst xs)/\Q .cy (upd H l (.lst xs.reverse))
theorem zss:Pd X "list.reverse" zwo:=by
 intro ah s σ H x vs v us Q I rx rv h;obtain⟨l,xs,rfl,rfl,hH,q⟩:=h;cases rx
 have hus:=rv.zero;subst hus;obtain⟨z,b7,n,r,hl,e⟩:=I.CZ hH;refine call_meets F.slot_list_reverse ⟨_,e,rfl⟩ F.entry_list_reverse (F.args_list_reverse_1 _) (AutoSeq1.list_reverse_list_0 l b7.toArray n (by rw[aQ];omega)) ⟨e,?_⟩;refine⟨.cy,_,I.GZ (its':=b7.reverse) hH e (by simp) r.reverse ?_,rfl,q⟩;rw[gh];omega
def Tt:R2:=fun x y H Q=>∃l b xs zs,x= .ref l/\y= .ref b/\H l=some (.lst xs)/\H b=some (.lst zs)/\xs.length+zs.length<=sizeLine/\∀p,H p=none->Q (.ref p) (upd H p (.lst (xs++zs)))
theorem UU:m5 X (binaryOp .Add) Tt:=by
 intro ah s σ H x y v u Q I rx ry h;obtain⟨l,b,xs,zs,rfl,rfl,hH,hB,hz,q⟩:=h;cases rx
 cases ry;obtain⟨z,b7,n,r,hl,e⟩:=I.CZ hH
 obtain⟨z2,Ng,n2,r2,AO,e2⟩:=I.CZ hB;refine PySem.P.add_list e e2 ?_ (by rw[aQ,aQ];omega);have ea:b7.toArray++Ng.toArray=(b7++Ng).toArray:=by simp
 rw[ea];exact⟨.ref _,_,I.S6 (t':=s.toks) (r.append r2) (by rw[bg];omega),rfl,q _ I.fresh⟩
end
section
variable{prog:Program}{w:World}{A:Around}{E:Value->Shared->Prop}{s:Shared}
end
section
variable{X:Cx}
end
end L2
namespace Wh
open PySem PySem.W PySem.Calls PyProof.Rows
theorem zjw{P:Params}{h:Heap}:∀(ns:List Int)(vs:List Value),WellAll P h vs (ns.map WData.int)->IntsAre vs ns:=by
 intro ns
 induction ns with
 |nil=>
  intro vs w;rw[jg]at w;cases w
  exact .nil
 |cons n ns ih=>
  intro vs w;rw[ay]at w;cases w with
  |cons a b=>
   cases a;exact .cons _ _ (ih _ b)
theorem zty{l:OpenLaw}{n:Nat}(hn:l.most=some n){P:Params}{h:Heap}{args:List WData}{K7:List Value}(GP:l.row.toRowW.claim.pre args=true)(SO:WellAll P h K7 args):
    ∃a vs ns,K7=[Value.ref a]/\args=[WData.list (ns.map WData.int)]/\h.get? a=some {cls:=.type "list",data:=.seq vs.toArray}/\IntsAre vs ns/\ns.length<=n:=by
  have hsh:WShape.hasAll [] args [.list .int]=true:=(pre_splitW GP).1;have hc:l.pre.holds [] {args:=args}=true:=(pre_splitW GP).2;obtain⟨d,r,rfl,h1,h2⟩:=hasAllW_cons hsh;obtain rfl:=hasAllW_nil h2;obtain⟨xs,rfl,h3⟩:=hasW_list h1;obtain⟨ns,rfl⟩:=items_int h3;have gw:ns.length<=n:=by
    unfold OpenLaw.pre at hc;have h4:(WTm.not (.lt (.lit (.int (n:Int))) (.len (.arg 0)))).holds [] {args:=[.list (ns.map .int)]}=true:=by have h4:=(holds_andW hc).1;rw[hn]at h4;exact h4
    have h5:=condW_of h4 (w_not (w_lt w_lit (w_len_list (w_arg rfl))));rw[ai]at h5;refine Nat.le_of_not_lt fun q=>?_;have q':(n:Int)<((ns.length:Nat):Int):=by omega
    first
      |(rw[decide_eq_true q']at h5;exact absurd h5 (by decide))
      |(simp at h5;omega)
  cases SO with
  |cons w1 w2=>
    cases w2;cases w1 with
    |list ho kZ=>exact⟨_,_,ns,rfl,rfl,ho,zjw ns _ kZ,gw⟩
theorem ztz(l:OpenLaw)(args:List WData):l.row.toRowW.claim.post args (.bool true) args=true:=
 postW_of (r:=l.row.toRowW) (X:=(true ==true))
  (show WShape.has [] (.bool true) .bool=true by first|rfl|decide|simp[WShape.has,WShape.arms,WShape.armsAll])
  (show(WTm.eq .res (.lit (.bool true))).value [] {args:=args,res:=some (.bool true),after:=args}=some (.bool (true ==true))from w_eq_bool (w_res rfl) w_lit) rfl
theorem yU{l:OpenLaw}{n:Nat}{q:Program}{wS:List Str}{XP:(Str->Option Value)->Heap->Prop}{YP:World->Heap->Prop}{d:DefRec}(hn:l.most=some n)(MS:d.params.defaults=[])(call:∀(w:World)(s₀ s₁:Shared)(mg mb:Str->Option Value)(fa:Addr)(o:Obj)(pm cd nT:Value)(a:Addr)(vs:List Value)(ns:List Int),
      Ground q wS [] XP w s₀ mg mb s₁.heap->YP w s₁.heap->
      s₁.heap.get? fa=some o->o.data= .func (docDef d.name d.params d.body d.scope pm cd nT)->s₁.heap.CodeRec cd d.name->mg d.name=some (.ref fa)->
      s₁.heap.get? a=some {cls:=.type "list",data:=.seq vs.toArray}->IntsAre vs ns->ns.length<=n->s₁.gens= #[]->
      codeAny (model l.prog w) callerA (.call (.ref fa) ⟨[.ref a],[]⟩) (fun r s'=>r= .ok (.ret (.bool true))/\OldK s₁.heap s'.heap/\s'.os=s₁.os/\AllBare s'.gens) s₁):
    WalkO q wS XP YP l.row.toRowW d [] (fun f vs=>D9 f vs):=by
  intro w s₀ s₁ mg mb G Y fa o pm cd nT dV kV ho hd pT hD MX hg args K7 as GP acF hrd SO hlo;obtain rfl:dV= .none:=Dflts.none hD MS;obtain rfl:kV= .none:=Dflts.noKw hD;obtain⟨a,vs,ns,rfl,rfl,JZ,En,gw⟩:=zty hn GP SO;refine enter_call (codeAny_mono (call w s₀ s₁ mg mb fa o pm cd nT a vs ns G Y ho (fd_plain hd) pT MX JZ En gw hg) fun r s' hq=>?_);obtain⟨rfl,h2,h3,h4⟩:=hq;exact⟨.inl ⟨.bool true,.bool true,[],rfl,fun _=>rfl,.bool true,ztz l _,fun _=>⟨List.Pairwise.nil,fun _ hm=>(nomatch hm)⟩⟩,h2,h3,h4⟩
section
variable{prog:Program}{w:World}{A:Around}{E:Value->Shared->Prop}{s:Shared}{K:Frag}
end
end Wh
namespace L2
open PySem PySem.Spec PyProof.Rows
theorem ZF:∀{vs:List Value}{ns:List Int},IntsAre vs ns->cj (ns.map V.int) vs
 |_,_,.nil=>.nil
 |_,_,.cons n t h=>.cons ⟨t,rfl⟩ (ZF h)
def JE(H:Hp):Prop:=∀b,H b=none\/∃o xs,H b=some (.jx o (.lst xs))
theorem Ey {P:Program} {w:World} {K:aa} {mg mb:Str->Option Value} {CX:tw} {k:Nat} {fa a:Addr} {fd:FuncData} {x:Str} {sp:Sp} {s₁:Shared} {vs:List Value} {ns:List Int}
    (KX:K.In s₁.heap) (MY:s₁.heap.Ns mainGlobals mg) (hb:s₁.heap.Ns builtinsNs mb) (JS:∀ x:Str,x ≠ "__name__" -> mb x=bootBuiltins x) (Sn:s₁.heap.NoLimit) (hg:s₁.gens = #[])
    (ha:s₁.heap.get? a=some { cls:=.type "list", data:=.seq vs.toArray }) (hi:IntsAre vs ns) (hl:ns.length<=sizeLine) (hr:gu k callerA)
    (F:∀ base:Heap,K.In base->base.Ns mainGlobals mg->pX P w K mg base CX k fa fd [x] sp) (MM:∀ (s:Shared) (u:Value),BindsTo s fd ⟨[u],[]⟩ [(x,u)])
    (rT:∀ H:Hp,JE H->iZ K H a (ns.map V.int)->sp [.ref a] H (fun v _=>v = .bl true) fun _ _ _=>False)
    (RX:∀ H e s',CX [] H s₁ (fun _ _ _=>False) e s'->False) :
    codeAny (model P w) callerA (.call (.ref fa) ⟨[.ref a],[]⟩) (fun r s'=>r = .ok (.ret (.bool true))/\OldK s₁.heap s'.heap/\s'.os=s₁.os/\AllBare s'.gens) s₁:=by
  have rv:=ZF hi
  have SY:=hi.length
  have Mw:∀ H:Hp,JE H->iZ K H a (ns.map V.int)->kL P w H s₁.heap->(∀ b,H b≠none->b=a)->(H a≠none->K.lookup a=none) ->
      codeAny (model P w) callerA (.call (.ref fa) ⟨[.ref a],[]⟩) (fun r s'=>r = .ok (.ret (.bool true))/\OldK s₁.heap s'.heap/\s'.os=s₁.os/\AllBare s'.gens) s₁:=by
    intro H hO hS eB hA hK
    have Bw:∀ {b:Addr} {o:Obj},s₁.heap.get? b=some o->H b=none->(xS s₁.heap H).get? b=some o:=fun e n=>zwh e n
    have Nt:∀ {b:Addr} {o:Obj} {es:Array DictEntry} {ep:Nat},s₁.heap.get? b=some o->o.data = .dict es ep->H b=none:=fun {b o es ep} e d=>by
      cases q:H b with
      | none=>rfl
      | some u =>
        have e':b=a:=hA b (by rw [q]; simp)
        subst e'
        rw [ha] at e; cases e
        have d':Data.seq vs.toArray _=Data.dict es ep:=d
        cases d'
    have P8:∀ {b:Addr} {m:Str->Option Value},s₁.heap.Ns b m->(xS s₁.heap H).Ns b m:=fun {b m} ⟨o,es,ep,e,d,r⟩=>⟨o,es,ep,Bw e (Nt e d),d,r⟩
    have WL:K.In (xS s₁.heap H):=fun b o e=>Bw (KX b o e) (by
      cases q:H b with
      | none=>rfl
      | some u =>
        have e':b=a:=hA b (by rw [q]; simp)
        subst e'
        rw [hK (by rw [q]; simp)] at e; cases e)
    have hM:Mod K mg (xS s₁.heap H):=⟨WL,P8 MY,⟨mb,P8 hb,JS⟩,let ⟨mc,h1,h2⟩:=Sn; ⟨mc,P8 h1,h2⟩⟩
    have e0:Ax P w K mg (xS s₁.heap H) callerA [] s₁ H:=⟨rfl,hM,fun b o e=>zyy e,Nat.le_of_eq (zth _ _),trivial,fun b hb=>absurd (show b∈([]:List Addr) from hb) (by simp),eB,.of_eq hg⟩
    refine codeAny_mono ((F _ WL (P8 MY)).run callerA [] s₁ H ⟨[.ref a],[]⟩ [.ref a] [.ref a] _ _ hr e0 (MM s₁ (.ref a)) (.cons rfl .nil) (rT H hO hS)) fun r s' h=>?_
    cases r with
    | error e=>exact (RX H e s' h).elim
    | ok fl =>
      cases fl with
      | next=>exact bI h
      | brk=>exact bI h
      | cont=>exact bI h
      | ret u =>
        obtain ⟨v,H',os,bare,un,SA,r',q⟩:=h
        have q':v = .bl true:=q
        subst q'
        obtain rfl:u=Value.bool true:=r'
        refine ⟨rfl,OldK.of_keep fun b o e=>?_,os,bare⟩
        cases q:H b with
        | none=>exact un.keep b o e q (by intro z; exact absurd (show b∈([]:List Addr) from z) (by simp)) (by simp)
        | some u =>
          rcases hO b with z | ⟨ob,xs,z⟩
          · rw [q] at z; cases z
          · have z2:=un.mO b ob _ z
            obtain ⟨e1,_⟩:=eB b _ z
            obtain ⟨e2,_⟩:=SA b _ z2
            rw [e] at e1; cases e1
            exact e2
  cases hk:K.lookup a with
  | some o =>
    have e:=KX a o hk
    rw [ha] at e
    cases e
    refine Mw (fun _=>none) (fun _=>.inl rfl) (.inr ⟨_,vs.toArray,_,hk,rfl,rfl,rfl,by rw [aQ,SY]; exact hl,by simpa using rv⟩) (fun b u z=>by have z':(none:Option HO)=some u:=z; cases z') (fun b z=>absurd rfl z) fun z=>absurd rfl z
  | none =>
    refine Mw (fun b=>if b=a then some (.jx { cls:=.type "list", data:=.seq vs.toArray } (.lst (ns.map V.int))) else none) (fun b=>?_) (.inl (.inr ⟨{ cls:=.type "list", data:=.seq vs.toArray },if_pos rfl⟩)) (fun b u z=>?_) (fun b z=>?_) fun _=>hk
    · by_cases hb:b=a
      · exact .inr ⟨_,_,if_pos hb⟩
      · exact .inl (if_neg hb)
    · by_cases hb:b=a
      · have z':=(if_pos hb).symm.trans z
        cases z'
        subst hb
        exact ⟨ha,by rw [ai]; exact hl,vs,_,rv,ha⟩
      · have z':=(if_neg hb).symm.trans z
        cases z'
    · by_cases hb:b=a
      · exact hb
      · exact absurd (if_neg hb) z
abbrev KOf{K:aa}{h:Heap}(_:K.In h):aa:=K
theorem Hv{l:uz}{n k:Nat}{q:Program}{wS:List Str}{XP:(Str->Option Value)->Heap->Prop}{YP:World->Heap->Prop}{d:DefRec}{K:Params->aa}{CX:World->tw}{sp:World->Sp}{x:Str}(hn:l.most=some n)(PD:n<=sizeLine)(MS:d.params.defaults=[])(hr:gu k callerA)(hY:∀(w:World)(h:Heap),YP w h->(K w.params).In h)(F:∀(w:World)(mg:Str->Option Value)(fa:Addr)(h:Heap),(K w.params).In h->h.Ns mainGlobals mg->mg d.name=some (.ref fa)->
      ∃fd:FuncData,(∀(s:Shared)(u:Value),BindsTo s fd ⟨[u],[]⟩ [(x,u)])/\
        ∀base:Heap,(K w.params).In base->base.Ns mainGlobals mg->pX l.prog w (K w.params) mg base (CX w) k fa fd [x] (sp w))(rT:∀(w:World)(H:Hp)(a:Addr)(ns:List Int),ns.length<=n->JE H->iZ (K w.params) H a (ns.map V.int)->sp w [.ref a] H (fun v _=>v= .bl true) fun _ _ _=>False)(RX:∀(w:World)(H:Hp)(s:Shared)(e:Value)(s':Shared),CX w [] H s (fun _ _ _=>False) e s'->False):
    HP q wS XP YP l.row.toRowW d [] (fun f vs=>D9 f vs):=by
  refine Wh.yU hn MS fun w s₀ s₁ mg mb fa o pm cd nT a vs ns G Y ho hd pT MX JZ En gw hg=>?_;have KX:=hY w _ Y;obtain⟨fd,hb,hF⟩:=F w mg fa _ KX G.T.g MX;exact Ey KX G.T.g G.T.b G.T.builtins G.T.nolimit hg JZ En (bL gw PD) hr hF hb (fun H hO hS=>rT w H a ns gw hO hS) fun H e s'=>RX w H s₁ e s'
def iC(s:Stmt)(j:Nat):Stmt:=match s with
 | .ClassDef _ _ _ body _ _ _ _ _ _ _=>body.getD j (.Pass ⟨0,0,0,0⟩)
 |_=>.Pass ⟨0,0,0,0⟩
def vq(s:Stmt):Arguments:=match s with
 | .FunctionDef _ a _ _ _ _ _ _ _ _=>a
 |_=>{posonlyargs:=[],args:=[],vararg:=none,kwonlyargs:=[],kw_defaults:=[],kwarg:=none,defaults:=[]}
def o8(s:Stmt):List Stmt:=match s with
 | .FunctionDef _ _ b _ _ _ _ _ _ _=>b
 |_=>[]
def d9(s:Stmt):Scope:=match s with
 | .FunctionDef _ _ _ _ _ _ sc _ _ _=>sc
 |_=>{kind:=.function,names:=[],isGenerator:=false,isCoroutine:=false}
abbrev Li:tw:=fun _ _ _ _ _ _=>False
abbrev E0:XK:=fun _ _ _=>False
structure HJ(K:aa)(x dP:Str)(st:Stmt)(f:Addr)(fd:FuncData):Prop where
 ex:∃(oc:Value)(od:Option Addr)(kV nT pm:Value)(an:Option Addr)(dF ct:Value)(rJ:Array (Option Value)),
  fd=bC x dP (vq st) (o8 st) (d9 st) .none kV nT pm an dF ct/\K.lookup f=some ⟨oc,od,.func fd,rJ⟩/\c9 K dF dP=true
 kp:aO K (.ref f)=true
section
variable{P:Program}{w:World}{K:aa}{mg:Str->Option Value}{base:Heap}
theorem HJ.ok{x dP:Str}{st:Stmt}{f:Addr}{fd:FuncData}{N ps:List Str}{k:Nat}{sp:Sp}(F:HJ K x dP st f fd)(S:aE N ps (d9 st))(len:∀vs H Q E,sp vs H Q E->vs.length=ps.length)(iK:∀(dF:Value)(A:Around)(outer:List Env)(s:Shared)(H:Hp)(vs:List V)(Q:VK)(E:XK),gu k (A.deeper (envOfC dP (d9 st) s.heap.objs.size f dF))->sp vs H Q E->
      ∃t,rQ (nv Li P w K mg base N dP (d9 st) f dF A outer s H E).BL (o8 st) t/\t {nx:=fun _ H'=>Q .cy H',rt:=Q} (start N vs) H):pX P w K mg base Li (k+1) f fd ps sp:=by
  obtain⟨oc,od,kV,nT,pm,an,dF,ct,rJ,rfl,lk,pT⟩:=F.ex;refine qC lk pT S len fun A outer s H vs Q E hr rT=>?_;obtain⟨t,h,q⟩:=iK dF A outer s H vs Q E hr rT;exact⟨t,h.BL,q⟩
theorem HJ.binds{x dP:Str}{st:Stmt}{f:Addr}{fd:FuncData}{ps:List Str}(F:HJ K x dP st f fd)(h:∀(kV nT pm:Value)(an:Option Addr)(dF ct:Value)(us:List Value),us.length=ps.length->bindArgs (bC x dP (vq st) (o8 st) (d9 st) .none kV nT pm an dF ct) ⟨us,[]⟩=pure (ps.zip us)):Binds K fd ps []:=by
  obtain⟨oc,od,kV,nT,pm,an,dF,ct,rJ,rfl,lk,pT⟩:=F.ex;exact .all (h kV nT pm an dF ct)
theorem Jl{x dP:Str}{st:Stmt}{f:Addr}{oc:Value}{od an:Option Addr}{rJ:Array (Option Value)}{kV nT pm dF ct:Value}(l:K.lookup f=some ⟨oc,od,.func (bC x dP (vq st) (o8 st) (d9 st) .none kV nT pm an dF ct),rJ⟩)(c:c9 K dF dP=true)(k:aO K (.ref f)=true):HJ K x dP st f (bC x dP (vq st) (o8 st) (d9 st) .none kV nT pm an dF ct):=⟨⟨oc,od,kV,nT,pm,an,dF,ct,rJ,rfl,l,c⟩,k⟩
end
theorem dS{A:Around}{k:Nat}(hr:gu k A):A.units+1<cLine:=Gm (Nat.add_le_add_left (by decide:1<=64) _) hr.units
section
variable{X:Cx}
theorem pv(i:Nat){x:Str}{pos:Pos}(hN:X.N[i]?=some x:=by rfl)(hv:Rm X.env.scope x:=by first|exact Or.inl rfl|exact Or.inr (Or.inl rfl) |exact Or.inr (Or.inr rfl))(hd:(x ==("__debug__":Str))=false:=by decide)(pT:(x ==("__classdict__":Str))=false:=by decide):PE X (.Name x pos) (wB i):=UI hN hv hd pT
end
theorem fE{c A B:Prop}[Decidable c](h1:c->A)(h2:¬c->B):if c then A else B:=by
 by_cases h:c
 ·rw[if_pos h];exact h1 h
 ·rw[if_neg h];exact h2 h
def bE(H H':Hp):Prop:=∀b o,H b=some o->H' b=some o
theorem bE.refl(H:Hp):bE H H:=fun _ _ h=>h
theorem bE.trans{H H1 H2:Hp}(a:bE H H1)(b:bE H1 H2):bE H H2:=fun c o h=>b c o (a c o h)
theorem bE.free{H H':Hp}(e:bE H H'){l:Addr}(h:H' l=Option.none):H l=Option.none:=by
 cases q:H l with
 |none=>rfl
 |some o=>
  rw[e l o q]at h;cases h
theorem bE.seq{K:aa}{H H':Hp}{a:Addr}{xs:List V}(e:bE H H')(h:iZ K H a xs):iZ K H' a xs:=by
 rcases h with(h|⟨o,h⟩) |h
 ·exact .inl (.inl (e _ _ h))
 ·exact .inl (.inr ⟨o,e _ _ h⟩)
 ·exact .inr h
end L2
set_option maxHeartbeats 4000000
namespace L2
open PySem PySem.Spec PyProof.Rows
theorem hg{G:Prop}(h:∀G':Prop,(G->G')->G'):G:=h G id
theorem Lu{α:Type}{P:List α->Prop}{n:Nat}(h:∀x r,r.length=n->P (x::r)):∀us:List α,us.length=n+1->P us
 |[],e=>absurd e (by simp)
 |x::r,e=>h x r (by simpa using e)
theorem el0{α:Type}{P:List α->Prop}(h:P []):∀us:List α,us.length=0->P us
 |[],_=>h
 |_::_,e=>absurd e (by simp)
theorem Al{α:Type}{P:List α->Prop}(h:∀x0,P [x0]):∀us:List α,us.length=1->P us:=Lu fun x r e=>el0 (P:=fun r=>P (x::r)) (h x) r e
theorem yY{α:Type}{P:List α->Prop}(h:∀x0 x1,P [x0,x1]):∀us:List α,us.length=2->P us:=Lu fun x r e=>Al (P:=fun r=>P (x::r)) (h x) r e
theorem Am{α:Type}{P:List α->Prop}(h:∀x0 x1 x2,P [x0,x1,x2]):∀us:List α,us.length=3->P us:=Lu fun x r e=>yY (P:=fun r=>P (x::r)) (h x) r e
theorem An{α:Type}{P:List α->Prop}(h:∀x0 x1 x2 x3,P [x0,x1,x2,x3]):∀us:List α,us.length=4->P us:=Lu fun x r e=>Am (P:=fun r=>P (x::r)) (h x) r e
theorem el5{α:Type}{P:List α->Prop}(h:∀x0 x1 x2 x3 x4,P [x0,x1,x2,x3,x4]):∀us:List α,us.length=5->P us:=Lu fun x r e=>An (P:=fun r=>P (x::r)) (h x) r e
theorem BC{α:Type}{P:List α->Prop}(h:∀x0 x1 x2 x3 x4 x5,P [x0,x1,x2,x3,x4,x5]):∀us:List α,us.length=6->P us:=Lu fun x r e=>el5 (P:=fun r=>P (x::r)) (h x) r e
end L2
namespace Sw
def dv(a b:Int):Int:=(Int.gcd a b:Nat)
theorem BB(a b:Int):0<=dv a b:=Int.natCast_nonneg _
theorem xO(a b:Int):dv a b∣a:=Int.gcd_dvd_left a b
theorem tM(a b:Int):dv a b∣b:=Int.gcd_dvd_right a b
theorem zzh(a b:Int):dv a b=dv b a:=by unfold dv;rw[Int.gcd_comm]
theorem zua(a b:Int):dv (-a) b=dv a b:=by unfold dv;rw[Int.neg_gcd]
theorem zub(a b:Int):dv a (-b)=dv a b:=by unfold dv;rw[Int.gcd_neg]
theorem Gy(a:Int)(h:0<=a):dv a 0=a:=by unfold dv;rw[Int.gcd_zero_right];omega
theorem UV{a b:Int}(h:dv a b=0):a=0/\b=0:=by unfold dv at h;exact Int.gcd_eq_zero_iff.mp (by omega)
theorem Eg{a b:Int}(h:b≠0):0<dv a b:=by
 have:=BB a b;rcases Int.lt_or_eq_of_le this with q|q
 ·exact q
 ·exact absurd (UV q.symm).2 h
theorem zyh{a b c:Int}(h1:c∣a)(h2:c∣b):c∣dv a b:=Int.dvd_coe_gcd h1 h2
theorem UW{a b c d:Int}(h:∀x:Int,(x∣a/\x∣b)↔(x∣c/\x∣d)):dv a b=dv c d:=by have h1:dv a b∣dv c d:=zyh ((h _).mp ⟨xO a b,tM a b⟩).1 ((h _).mp ⟨xO a b,tM a b⟩).2;have h2:dv c d∣dv a b:=zyh ((h _).mpr ⟨xO c d,tM c d⟩).1 ((h _).mpr ⟨xO c d,tM c d⟩).2;exact Jt (BB _ _) (BB _ _) h1 h2
theorem Gx(a b:Int):dv b (a % b)=dv a b:=by
 refine UW fun x=>⟨fun⟨h1,h2⟩=>⟨?_,h1⟩,fun⟨h1,h2⟩=>⟨h2,?_⟩⟩
 ·have e:=Int.mul_ediv_add_emod a b;rw[<-e];exact Int.dvd_add (Int.dvd_trans h1 (HK b _)) h2
 ·rw[Int.emod_def];exact Int.dvd_sub h1 (Int.dvd_trans h2 (HK b _))
theorem JM(a b:Int):dv (if a<0 then -a else a) (if b<0 then -b else b)=dv a b:=by split <;> split <;> simp only[zua,zub]
theorem zwp(g a b:Int)(h:0<=g):dv (g*a) (g*b)=g*dv a b:=by
 unfold dv;rw[Int.gcd_mul_left];have:((g.natAbs*a.gcd b:Nat):Int)=(g.natAbs:Int)*(a.gcd b:Nat):=by simp
 rw[this];congr 1;omega
theorem zzi{a b:Int}(h:dv a b≠0):dv (a / dv a b) (b / dv a b)=1:=by
 have hp:0<dv a b:=by have:=BB a b;omega
 have e1:a=dv a b*(a / dv a b):=(DV (xO a b)).symm;have e2:b=dv a b*(b / dv a b):=(DV (tM a b)).symm;have e:dv a b=dv a b*dv (a / dv a b) (b / dv a b):=by have:=zwp (dv a b) (a / dv a b) (b / dv a b) (gF hp);rw[<-e1,<-e2]at this;exact this
 have e':dv a b*1=dv a b*dv (a / dv a b) (b / dv a b):=by rw[Int.mul_one];exact e
 exact(Int.eq_of_mul_eq_mul_left (by omega) e').symm
structure Fr(n d:Int):Prop where
 pos:0<d
 low:dv n d=1
theorem QI{n d x:Int}(h:dv n d=1)(q:d∣n*x):d∣x:=by
 have h':wH d.natAbs n.natAbs:=by
  unfold dv at h;have:Int.gcd n d=1:=by omega
  unfold wH;rw[Nat.gcd_comm];exact this
 have q':d.natAbs∣n.natAbs*x.natAbs:=by rw[<-Int.natAbs_mul];exact pe.mpr q
 exact pe.mp (h'.dvd_of_dvd_mul_left q')
theorem Fr.uniq{n d m e:Int}(h:Fr n d)(k:Fr m e)(q:n*e=m*d):n=m/\d=e:=by have h1:d∣e:=QI h.low ⟨m,by rw[q,ur]⟩;have h2:e∣d:=QI k.low ⟨n,by rw[<-q,ur]⟩;have e1:d=e:=Jt (gF h.pos) (gF k.pos) h1 h2;subst e1;have:=h.pos;exact⟨Int.eq_of_mul_eq_mul_right (by omega) q,rfl⟩
def rN(t b:Int):Int:=if b<0 then t / (-(dv t b))else t / dv t b
def rD(t b:Int):Int:=if b<0 then b / (-(dv t b))else b / dv t b
theorem UX{t b:Int}:rN t b*(if b<0 then -(dv t b)else dv t b)=t:=by
 unfold rN;split
 ·exact kM (wE.mpr (xO t b))
 ·exact kM (xO t b)
theorem UY{t b:Int}:rD t b*(if b<0 then -(dv t b)else dv t b)=b:=by
 unfold rD;split
 ·exact kM (wE.mpr (tM t b))
 ·exact kM (tM t b)
theorem zuc{t b:Int}(h:b≠0):rN t b*b=rD t b*t:=by
 have e1:=UX (t:=t) (b:=b);have e2:=UY (t:=t) (b:=b);generalize(if b<0 then -(dv t b)else dv t b)=c at e1 e2
 calc rN t b*b=rN t b*(rD t b*c):=by rw[e2]
  _=rD t b*(rN t b*c):=by rw[<-Int.mul_assoc,<-Int.mul_assoc,ur (rN t b)]
  _=rD t b*t:=by rw[e1]
theorem UZ{t b:Int}(h:b≠0):Fr (rN t b) (rD t b):=by
 have hp:=Eg (a:=t) h;refine⟨?_,?_⟩
 ·unfold rD;by_cases hb:b<0
  ·rw[if_pos hb,CC];obtain⟨k,hk⟩:=tM t b;have:b / dv t b=k:=yx (by omega) hk;rw[this];rcases nZ k 0 with q|q
   ·omega
   ·have:=jk (gF hp) q;omega
  ·rw[if_neg hb];obtain⟨k,hk⟩:=tM t b;have:b / dv t b=k:=yx (by omega) hk;rw[this];rcases nZ 0 k with q|q
   ·exact q
   ·have:=tE (a:=-(dv t b)) (b:=k) (by omega) q;rw[Int.neg_mul]at this;omega
 ·have q:=zzi (a:=t) (b:=b) (by omega);unfold rN rD;by_cases hb:b<0
  ·rw[if_pos hb,if_pos hb,CC,CC,zua,zub];exact q
  ·rw[if_neg hb,if_neg hb];exact q
def Sz(n:Nat)(x:Int):Prop:=x.natAbs<2^n
theorem Sz.mono{m n:Nat}{x:Int}(h:Sz m x)(hm:m<=n):Sz n x:=aM h (qt (by decide) hm)
theorem Sz.mul{m n:Nat}{x y:Int}(h:Sz m x)(k:Sz n y):Sz (m+n) (x*y):=by
 unfold Sz at*;rw[Int.natAbs_mul,Nat.pow_add];by_cases hy:y.natAbs=0
 ·rw[hy,Nat.mul_zero];exact Nat.mul_pos (xG m) (xG n)
 ·exact Nat.mul_lt_mul_of_lt_of_lt h k
theorem Sz.add{n:Nat}{x y:Int}(h:Sz n x)(k:Sz n y):Sz (n+1) (x+y):=by unfold Sz at*;rw[Nat.pow_succ];omega
theorem Sz.sub{n:Nat}{x y:Int}(h:Sz n x)(k:Sz n y):Sz (n+1) (x-y):=by unfold Sz at*;rw[Nat.pow_succ];omega
theorem Sz.neg{n:Nat}{x:Int}(h:Sz n x):Sz n (-x):=by unfold Sz at*;omega
theorem Sz.le{n:Nat}{x y:Int}(h:Sz n y)(k:x.natAbs<=y.natAbs):Sz n x:=Gm k h
theorem Sz.zero(n:Nat):Sz n 0:=xG n
theorem Sz.dvd{n:Nat}{x y:Int}(h:Sz n y)(d:x∣y)(hy:y≠0):Sz n x:=by refine h.le ?_;exact Nat.le_of_dvd (by omega) (pe.mpr d)
end Sw
namespace Sw
theorem Sz.lit{x:Int}(h:x.natAbs<1606938044258990275541962092341162602522202993782792835301376):Sz 5000 x:=by
 have e:(2:Nat)^200=1606938044258990275541962092341162602522202993782792835301376:=by decide
 exact aM (by rw[e];exact h) (qt (by decide) (by decide:200<=5000))
end Sw
namespace Sw
end Sw
namespace Sw
theorem Sz.sf{x:Int}(h1:-100000000000000000000<x)(h2:x<100000000000000000000):Sz 70 x:=by
 have e:(2:Nat)^70=1180591620717411303424:=by decide
 unfold Sz;rw[e];omega
theorem Sz.one(n:Nat):Sz (n+1) 1:=by unfold Sz;exact aM (by decide:Ge 1<2^1) (qt (by decide) (by omega))
end Sw
namespace L2
open PySem PySem.Spec PyProof.Rows
theorem Zm{n:Nat}{x:Int}(h:Sw.Sz n x):Builtin.Int.intBits x<=n:=by
 unfold Builtin.Int.intBits;split
 ·exact bZ _
 ·rename_i hx
  have hx':x≠0:=by simpa using hx
  have:x.natAbs.log2<n:=(Nat.log2_lt (by omega)).mpr h;omega
def HG(i j:Int):Prop:=Sw.Sz 5000 i/\Sw.Sz 5000 j
def HE(i j:Int):Prop:=0<j/\Sw.Sz 5000 j
def Mf(i j:Int):Prop:=j≠0/\Sw.Sz 5000 j
theorem ZG{i j:Int}(h0:j≠0)(h:Sw.Sz 5000 j):Builtin.divisionGoesByPylong i j=false:=by refine PyProof.noPylong_of_log2 ?_;have:j.natAbs.log2<5000:=(Nat.log2_lt (by omega)).mpr h;omega
section
variable{X:Cx}
theorem sY:m5 X (binaryOp .Mult) (rI HG fun i j=>.int (i*j)):=NB fun _ _ _ _ _ _ _ hc q=>
 mul_int q (IntMulOk.of_bits (bL (Zm hc.1) (by decide)) (bL (Zm hc.2) (by decide)))
theorem QC:m5 X (binaryOp .FloorDiv) (rI HE fun i j=>.int (i / j)):=NB fun i j _ _ _ _ _ hc q=>by have h1:(0:Int)<j:=hc.1;exact floordiv_int (by omega) (by rw[Int.fdiv_eq_ediv_of_nonneg i (by omega)];exact q) (.inl (ZG (by omega) hc.2))
theorem Z9:m5 X (binaryOp .FloorDiv) (rI Mf fun i j=>.int (i.fdiv j)):=NB fun _ _ _ _ _ _ _ hc q=>floordiv_int hc.1 q (.inl (ZG hc.1 hc.2))
structure sM(P:Program)(w:World)(K:aa)(mg:Str->Option Value)(base:Heap)(CX:tw)(k:Nat)(x:Str)(ps:List Str)(sp:Sp):Prop where
 ex:∃(f:Addr)(fd:FuncData),pX P w K mg base CX k f fd ps sp/\Binds K fd ps []/\aO K (.ref f)=true/\mg x=some (.ref f)
structure rF(K:aa)(mg:Str->Option Value)(x:Str)(st:Stmt)(ps:List Str):Prop where
 ex:∃(f:Addr)(fd:FuncData),HJ K x x st f fd/\Binds K fd ps []/\mg x=some (.ref f)
end
end L2
namespace L2
theorem zud{c:TT}{tb:TS}{D:Ends}{σ:St}{H:Hp}(Pv:St->Hp->Prop)(μ:St->Hp->Nat)(h0:Pv σ H)(hs:∀σ H,Pv σ H->∃b:Bool,(∀Q:Bool->Hp->Prop,Q b H->c σ H Q)/\(b=true->tb {D with nx:=fun σ' H'=>Pv σ' H'/\μ σ' H' < μ σ H,ct:=fun σ' H'=>Pv σ' H'/\μ σ' H' < μ σ H,bk:=D.nx} σ H)/\(b=false->D.nx σ H)):V6 c tb D σ H:=by
  refine⟨fun m σ H=>m=μ σ H/\Pv σ H,⟨_,rfl,h0⟩,?_⟩;rintro m σ H ⟨rfl,p⟩;obtain⟨b,hc,h1,h2⟩:=hs σ H p;refine hc _ ?_;cases b with
  |true=>exact⟨_,fun σ' H' ⟨p',l⟩=>⟨_,l,rfl,p'⟩,h1 rfl⟩
  |false=>exact h2 rfl
end L2
namespace L2
open PySem PySem.Spec PyProof.Rows
theorem OI{X:Cx}{x:Str}{n:Int}{pos:Pos}(hg:Gl X x)(hm:∃t,X.mg x=some (.int n t))(hd:(x ==("__debug__":Str))=false:=by decide):PE X (.Name x pos) (tC (.int n)):=by obtain⟨t,hm⟩:=hm;exact QG hg hm ⟨t,rfl⟩ hd
def BW(K:aa):Sp:=fun vs H Q _=>∃(a:Addr)(ns:List Int),vs=[.ref a]/\iZ K H a (ns.map V.int)/\ns.length<=63/\∀H',Q (.bl true) H'
def A9(g:Int->Int):Sp:=fun vs H Q _=>∃a,vs=[.int a]/\Q (.int (g a)) H
def ye(g:Int->Int->Int):Sp:=fun vs H Q _=>∃a b,vs=[.int a,.int b]/\Q (.int (g a b)) H
def oX(ns:List Int)(k:Int):Int:=(ns[k.toNat]?).getD 0
inductive A8(K:aa)(vs:List V)(H:Hp)(Q:VK)(E:XK):Prop|mk (a ns k:_) (h1:vs=[.ref a,.int k]) (h2:iZ K H a (ns.map V.int)) (h3:0<=k) (h4:Q (.int (oX ns k)) H):A8 K vs H Q E
theorem zsu{ns:List Int}{k:Int}(h0:0<=k)(h:k<ns.length):Gu (ns.map V.int) k=some (V.int (oX ns k)):=by
 have e:((k.toNat:Nat):Int)=k:=by omega
 have hl:k.toNat<ns.length:=by omega
 have q:(ns.map V.int)[k.toNat]?=some (V.int (oX ns k)):=by rw[aP];unfold oX;rw[bK hl];rfl
 have:=F7 q;rw[e]at this;exact this
theorem zqe{ns:List Int}{k:Int}(h0:0<=k)(h:¬k<ns.length):oX ns k=0:=by unfold oX;rw[oV (by omega)];rfl
def yg:Sp:=fun vs H Q _=>∃n,vs=[.int n]/\Q (.bl true) H
end L2
namespace L2
theorem bJ{t u:TS}{D:Ends}{σ:St}{H:Hp}(h:∀R:St->Hp->Prop,(∀σ H,u D σ H->R σ H)->t {D with nx:=R} σ H):dW t u D σ H:=h (u D) fun _ _ x=>x
end L2
namespace L2
open PySem PySem.Spec PyProof.Rows
theorem zue{K:aa}{H:Hp}{a:Addr}{ns:List Int}{k:Int}{Q:VK}{E:XK}(hS:iZ K H a (ns.map V.int))(h0:0<=k)(q:Q (.int (oX ns k)) H):A8 K [.ref a,.int k] H Q E:=⟨a,ns,k,rfl,hS,h0,q⟩
end L2
namespace L2
theorem wK{a b:Int}(h1:a.natAbs<1606938044258990275541962092341162602522202993782792835301376)(h2:b.natAbs<1606938044258990275541962092341162602522202993782792835301376):HG a b:=⟨Sw.Sz.lit h1,Sw.Sz.lit h2⟩
theorem wJ{a b:Int}(h0:0<b)(h2:b.natAbs<1606938044258990275541962092341162602522202993782792835301376):HE a b:=⟨h0,Sw.Sz.lit h2⟩
end L2
namespace L2
open PySem
theorem qJ{n:Nat}(h:n<=1000):n<=sizeLine:=bL h (by decide)
theorem gD{n:Nat}(h:n<1000):n<sizeLine:=aM h (by decide)
theorem lG{K:aa}{H:Hp}{p:Addr}{xs:List V}{i:Int}{v:V}{Q:VK}(hT:yE K H p xs)(h:Gu xs i=some v)(q:Q v H):KG K (.ref p) (.int i) H Q:=⟨p,xs,i,v,rfl,rfl,hT,h,q⟩
theorem vD{K:aa}{H:Hp}{p:Addr}{xs:List V}{i:Int}{v:V}{Q:VK}(hT:iZ K H p xs)(h:Gu xs i=some v)(q:Q v H):yb K (.ref p) (.int i) H Q:=⟨p,xs,i,v,rfl,rfl,hT,h,q⟩
end L2
namespace L2
open PySem PySem.Spec PyProof.Rows
end L2
namespace L2
theorem SV{c A B:Prop}[Decidable c](hc:¬c)(h:B):if c then A else B:=by rw[if_neg hc];exact h
end L2
namespace L2
end L2
namespace L2
open PySem PySem.Spec PyProof.Rows
mutual
inductive kC(K:aa)(H:Hp):V->PyData->Prop
 |cy:kC K H .cy .none
 |bl (b:Bool):kC K H (.bl b) (.bool b)
 |int (i:Int):kC K H (.int i) (.int i)
 |str (x:Str):kC K H (.str x) (.str x)
 |tup {a:Addr} {xs:List V} {ds:List PyData}:yE K H a xs->iG K H xs ds->kC K H (.ref a) (.tuple ds)
 |lst {a:Addr} {xs:List V} {ds:List PyData}:iZ K H a xs->iG K H xs ds->kC K H (.ref a) (.list ds)
inductive iG(K:aa)(H:Hp):List V->List PyData->Prop
 |nil:iG K H [] []
 |cons {x:V} {d:PyData} {xs:List V} {ds:List PyData}:kC K H x d->iG K H xs ds->iG K H (x::xs) (d::ds)
end
section
variable{X:Cx}{ah:List (Addr×Obj)}{σ:St}{H:Hp}{s:Shared}
mutual
theorem La(I:Inv X ah σ H s):∀{x:V}{d:PyData}{u:Value},kC X.K H x d->RelV x u->∃as,Reads s.heap u d as
 |_,_,u,.cy,r=>by cases(show u=Value.none from r);exact⟨_,.none⟩
 |_,_,u,.bl b,r=>by cases(show u=Value.bool b from r);exact⟨_,.bool b⟩
 |_,_,u,.int i,r=>by obtain⟨t,rfl⟩:=(show ∃t,u=Value.int i t from r);exact⟨_,.int i t⟩
 |_,_,u,.str x,r=>by obtain⟨t,rfl⟩:=(show ∃t,u=Value.str x t from r);exact⟨_,.str x t⟩
 |_,_,u,.tup (a:=a) q h,r=>by
  cases(show u=Value.ref a from r);obtain⟨b7,rv,⟨o,e,c,n,d⟩,hz⟩:=I.tuple q
  obtain⟨as,ra⟩:=VA I h rv;exact⟨as,reads_tuple_at e c d (by simpa using ra)⟩
 |_,_,u,.lst (a:=a) q h,r=>by
  cases(show u=Value.ref a from r);obtain⟨b7,rv,⟨o,n,e,c,_,d⟩,hz⟩:=I.list q
  obtain⟨as,ra⟩:=VA I h rv;exact⟨_,reads_list_at e c d (by simpa using ra)⟩
theorem VA(I:Inv X ah σ H s):∀{xs:List V}{ds:List PyData}{us:List Value},iG X.K H xs ds->cj xs us->∃as,ReadsAll s.heap us ds as
 |_,_,_,.nil,.nil=>⟨_,.nil⟩
 |_,_,_,.cons d h,.cons r t=>by obtain⟨as,q⟩:=La I d r;obtain⟨bs,p⟩:=VA I h t;exact⟨_,.cons q p⟩
end
end
section
variable{X:Cx}
def G7(K:aa):R2:=fun x y H Q=>∃d e,kC K H x d/\kC K H y e/\aX d=true/\aX e=true/\Q (.bl (PyData.eqv d e)) H
def KH(K:aa):R2:=fun x y H Q=>∃d e,kC K H x d/\kC K H y e/\aX d=true/\aX e=true/\Q (.bl (!PyData.eqv d e)) H
theorem U0(hu:X.A.units+64<cLine):m5 X (compareOp .Eq) (G7 X.K):=by intro ah s σ H x y v u Q I rx ry h;obtain⟨d,e,hd,he,sd,se,q⟩:=h;obtain⟨as,ra⟩:=La I hd rx;obtain⟨bs,rb⟩:=La I he ry;exact eq_dataH ra rb sd se hu ⟨.bl _,H,I,rfl,q⟩
theorem U1(hu:X.A.units+64<cLine):m5 X (compareOp .NotEq) (KH X.K):=by intro ah s σ H x y v u Q I rx ry h;obtain⟨d,e,hd,he,sd,se,q⟩:=h;obtain⟨as,ra⟩:=La I hd rx;obtain⟨bs,rb⟩:=La I he ry;exact ne_dataH ra rb sd se hu ⟨.bl _,H,I,rfl,q⟩
end
theorem fV{H:Hp}{a:Addr}{o:HO}(h:H a=none):bE H (upd H a o):=fun b u e=>by rw[bM (i8 e h)];exact e
def Ite (K:aa) (a:Addr):It :=
  ⟨fun i H=>∃ xs x,iZ K H a xs/\xs[i]? = some x,
   fun i H y H'=>∃ p x,y = .ref p/\H p=none/\(∀ xs,iZ K H a xs->xs[i]? = some x)/\H'=upd H p (.tup [.int i,x]),
   fun i H=>∃ xs,iZ K H a xs/\xs.length<=i⟩
section
variable{X:Cx}
def Es(K:aa)(ta:TA):TI:=fun σ H R=>ta σ H fun vs H1=>∃a,vs=[.ref a]/\(∃xs,iZ K H1 a xs)/\R (Ite K a) H1
end
section
variable{prog:Program}{w:World}{A:Around}{R:Result->Shared->Prop}{s:Shared}
theorem XF{wN eW iter:Expr}{vC:List Expr}{scope:Scope}{pos:Pos}{it HR:Value}{env:Env}(I:Nat->Shared->Prop)(sG:∀n s,I n s->wpAny (model prog w) A (pyNext it) (fun r s₁=>match r with
      |none=>R (.ok .next) s₁
      |some v=>wpAny (model prog w) A (letOwnedTupleGo eW it v) (fun _ Xy=>wpAny (model prog w) A (assign eW env v) (fun _ s₂=>
          wpAny (model prog w) A (forIn vC true fun c r=>if r=true then do let ok <-isTrue c env (eval c env);pure (mF ok)else pure (mF r)) (fun ok s₃=>
            if ok=true then wpAny (model prog w) A (eval wN env) (fun x s₄=>
              wpAny (model prog w) A (call (.builtin "list.append") [HR,x]) (fun _ s₅=>∃m,m<n/\I m s₅) (notedBy (model prog w) A env fun e s'=>R (.error e) s') s₄) (notedBy (model prog w) A env fun e s'=>R (.error e) s') s₃
            else ∃m,m<n/\I m s₃) (notedBy (model prog w) A env fun e s'=>R (.error e) s') s₂) (notedBy (model prog w) A env fun e s'=>R (.error e) s') Xy) (notedBy (model prog w) A env fun e s'=>R (.error e) s') s₁) (notedBy (model prog w) A env fun e s'=>R (.error e) s') s)(n:Nat)(h:I n s):
    codeAny (model prog w) A (.compLoop (.ListComp wN [⟨eW,iter,vC,0⟩] scope pos) 0 it HR env) R s:=by
  refine codeAny_loop rfl I (fun n s hI=>?_) n h;show wpAny _ A ((compTurn (.ListComp wN [⟨eW,iter,vC,0⟩] scope pos) 0 it HR env).onRaise (fun x=>do noteFrame x env;theTreesLotGoes x)) _ _ s;refine wpAny_noted ?_;rw[compTurn_list];refine wpAny_bind (wpAny_standAt (wpAny_bind (wpAny_mono (sG n s hI) (fun r s₁ h₁=>?_) fun _ _ h'=>h')));cases r with
  |none=>exact wpAny_pure h₁
  |some v=>
    refine wpAny_bind (wpAny_mono h₁ (fun _ Xy h₁'=>?_) fun _ _ h'=>h');refine wpAny_bind (wpAny_mono h₁' (fun _ s₂ h₂=>wpAny_bind (wpAny_mono h₂ (fun ok s₃ h₃=>?_) fun _ _ h'=>h')) fun _ _ h'=>h');cases ok with
    |false=>exact wpAny_pure ⟨rfl,h₃⟩
    |true=>
      exact wpAny_bind (wpAny_bind (wpAny_mono h₃ (fun x s₄ h₄=>wpAny_bind (wpAny_mono h₄ (fun _ s₅ h₅=>wpAny_pure (wpAny_pure ⟨rfl,h₅⟩)) fun _ _ h'=>h')) fun _ _ h'=>h'))
end
def sL(X:Cx)(scope:Scope)(cl:List (Str×Addr))(N:List Str)(fp:List Addr)(s:Shared)(H:Hp):Cx:=
 {X with N:=N,s₀:=s,H₀:=H,env:=compEnvC scope cl s.heap.objs.size X.env,outer:=X.stack,stack:=X.stack,ex:=fp,fn:=fun _=>false,pn:=[],xe:=fun _ _=>False}
def xy(X:Cx)(sc:Scope):List (Str×Nat)->Prop
 |[]=>True
 |p::r=>(X.N[p.2]?=some p.1/\sc.names.lookup p.1=some .cell/\X.env.kindOf p.1=some .cell)/\xy X sc r
theorem xy.mem{X:Cx}{sc:Scope}:∀{l:List (Str×Nat)},xy X sc l->∀p∈l,X.N[p.2]?=some p.1/\sc.names.lookup p.1=some .cell/\X.env.kindOf p.1=some .cell
 |[],_,p,hp=>nomatch hp
 |q::r,h,p,hp=>by
  rcases ak.mp hp with e|hp
  ·rw[e];exact h.1
  ·exact xy.mem h.2 p hp
def CG(X:Cx)(vC:List Expr)(t:TT):Prop:=
 ∀(ah:List (Addr×Obj))(s:Shared)(σ:St)(H:Hp)(Q:Bool->Hp->Prop),Inv X ah σ H s->t σ H Q->
  wpAny (model X.prog X.w) X.A (forIn vC true fun c r=>if r=true then do let ok <-isTrue c X.env (eval c X.env);pure (mF ok)else pure (mF r)) (TP X ah σ Q) X.xe s
def yo:TT:=fun _ H Q=>Q true H
theorem Lb{X:Cx}:CG X [] yo:=fun _ _ _ H _ I h=>wpAny_tests_nil ⟨H,I,h⟩
theorem OJ{X:Cx}{c:Expr}{t:TT}(hc:PT X c t):CG X [c] t:=fun ah s σ H Q I h=>wpAny_tests_one (hc ah s σ H Q I h)
def xj (nt:Nat) (fr:List (Str×Nat)) (wi:TI) (g:TG) (tc:TT) (te:TE):TE:=fun σ H Q=>wi σ H fun J H1=>∀ D,H1 D=none->∃ W:Nat->Nat->St->Hp->Prop,
 (∃ m,W 0 m (jh nt none++fr.map fun p=>(σ[p.2]?).join) (upd H1 D (.lst [])))/\∀ i m τ H',W i m τ H' ->
  (J.stop i H'/\Q (.ref D) H')\/(J.go i H'/\∃ N:St->Hp->Prop,(∀ τ' Az,N τ' Az->∃ m',m' < m/\W (i+1) m' τ' Az) /\
   ∀ x H2,J.Je i H' x H2->g x τ H2 fun τ2 H3=>tc τ2 H3 fun b H4=>if b=true then te τ2 H4 fun y H5=>∃ ys,H5 D=some (.lst ys)/\ys.length<sizeLine/\N τ2 (upd H5 D (.lst (ys++[y]))) else N τ2 H4)
section
variable{X:Cx}
theorem zrk{scope:Scope}{cl:List (Str×Addr)}{ts:List Str}{fr:List (Str×Nat)}{fp:List Addr}{ah:List (Addr×Obj)}{σ:St}{H:Hp}{s:Shared}{h':Heap}{m:Str->Option Value}{t':Nat}(I:Inv X ah σ H s)(j4:scope.kind= .function)(vU:∀x c,cl.lookup x=some c->X.env.cells.lookup x=some c)(vV:∀x,((relabel scope X.env).names.lookup x=some .cell\/(relabel scope X.env).names.lookup x=some .free)->∃c,cl.lookup x=some c)(GK:xy X (relabel scope X.env) fr)(Sf:∀b∈fp,rM X ah H b/\b<s.heap.objs.size)(hn:h'.Ns s.heap.objs.size m)(hk:∀b o,s.heap.get? b=some o->h'.get? b=some o):
    Inv (sL X scope cl (ts++fr.map (·.1)) fp s H) [] (jh ts.length none++fr.map fun p=>(σ[p.2]?).join) H {s with heap:=h',toks:=t'}:=by
  have yW:∀c v,s.heap.IsCell c v->h'.IsCell c v:=fun c v⟨o,ho,hd⟩=>⟨o,hk c o ho,hd⟩;refine⟨⟨I.ok.mod,j4,I.ok.glob,I.ok.blt,az _,fun x y c h1 h2=>I.ok.inj x y c (vU x c h1) (vU y c h2),vV,fun x c h=>(by cases h),I.ok.hd,I.ok.frames,.inl rfl,fun b hb=>?_,I.bs,bL I.ok.DG I.sz,fun b o e hb=>?_,fun b hb z=>?_,I.stack,I.yh⟩,
    rfl,I.bare,Un.kept hk,⟨m,hn,fun i x v e1 e2 e3=>?_⟩,fun x c e=>?_,I.eB.fresh (az _),fun x c e=>I.j3 x c (vU x c e),fun p hp=>absurd (show p∈([]:List (Addr×Obj))from hp) (by simp),I.eB.kept hk,?_⟩
  · obtain⟨f,lt⟩:=Sf b hb;exact⟨aZ lt,fun x c e=>f.2.2.2.2.1 x c (vU x c e)⟩
  · obtain⟨f,lt⟩:=Sf b hb;rcases f.2.2.2.1 with z|z
    · exact I.ok.zF b o e z
    · exact absurd (aM (Heap.lt_size e) (bL I.ok.DG z)) (gf _)
  · obtain⟨f,lt⟩:=Sf b hb;rcases ak.mp (I.sC b z)with y|y
    · exact f.2.1 y
    · exact f.2.2.1 y
  · have gw:(jh ts.length (none:Option V)).length=ts.length:=by simp
    by_cases hi:i<ts.length
    · rw[yN (by rw[gw];exact hi),AB,if_pos hi]at e2;cases e2
    · rw[lA (by rw[gw];omega),gw,aP]at e2;have RA:(ts++fr.map (·.1))[i]?=some x:=e1;rw[lA (by omega),aP]at RA;cases ep:fr[i-ts.length]? with
      |none=>rw[ep]at e2;cases e2
      |some p=>
        rw[ep]at RA e2;have ex:p.1=x:=aq RA;have ev:(σ[p.2]?).join=some v:=aq e2;obtain⟨a1,a2,a3⟩:=GK.mem p (bh ep);have ev':σ[p.2]?=some (some v):=by
          cases q:σ[p.2]? with
          |none=>rw[q]at ev;cases ev
          |some o=>rw[q]at ev;cases o with
            |none=>cases ev
            |some v'=>cases ev;rfl
        obtain⟨m',AR,hl'⟩:=I.loc;obtain⟨u,ru,lk⟩:=hl' p.2 p.1 v a1 ev' (.inr (.inl a3));subst ex;refine⟨u,ru,?_⟩;rcases lk with⟨z,_⟩ |⟨_,c,ec,z⟩
        · rw[z]at a3;cases a3
        · obtain⟨c',Wt⟩:=vV p.1 (.inl a2);have ecc:c'=c:=aq ((vU _ _ Wt).symm.trans ec);exact .inr ⟨.inl a2,c',Wt,(by rw[ecc];exact yW _ _ z)⟩
  · obtain⟨v,z⟩:=I.cell x c (vU x c e);exact⟨v,yW _ _ z⟩
  · show _=(ts++fr.map (·.1)).length;simp
theorem zzj{wN eW iter:Expr}{vC:List Expr}{scope:Scope}{pos:Pos}{cl:List (Str×Addr)}{ts:List Str}{fr:List (Str×Nat)}{wi:TI}{g:TG}{tc:TT}{te:TE}(qE:X.calm=true)(uE:closureFor scope X.env=pure cl)(oY:∀y∈scope.names,y.2≠.cell)(j4:scope.kind= .function)(pI:∀y∈scope.names,y.2= .local->scope.names.lookup y.1=some .local)(vU:∀x c,cl.lookup x=some c->X.env.cells.lookup x=some c)(vV:∀x,((relabel scope X.env).names.lookup x=some .cell\/(relabel scope X.env).names.lookup x=some .free)->∃c,cl.lookup x=some c)(GK:xy X (relabel scope X.env) fr)(hi:PI X eW iter wi)(hg:∀fp s H,PG (sL X scope cl (ts++fr.map (·.1)) fp s H) eW g)(hc:∀fp s H,CG (sL X scope cl (ts++fr.map (·.1)) fp s H) vC tc)(he:∀fp s H,PE (sL X scope cl (ts++fr.map (·.1)) fp s H) wN te)(hs:∀x,foldedSetIterable iter X.env x=pure x:=by intro _;rfl):
    PE X (.ListComp wN [⟨eW,iter,vC,0⟩] scope pos) (xj ts.length fr wi g tc te):=by
  intro ah s σ H Q I h;rw[eval_ListComp];refine wpAny_comprehension_free (use:=none) rfl hs uE j4 pI (eJ (hi ah s σ H _ I h) fun xv s1 h1=>eJ h1 fun P1 s2 h2=>?_);obtain⟨it,fp,tn,J,H2,rfl,I2,T,F0,f2,hR⟩:=h2;have D0:H2 s2.heap.objs.size=none:=I2.eB.fresh (az _);obtain⟨W,⟨m0,w0⟩,sG⟩:=hR s2.heap.objs.size D0;refine wpAny_newObj_type (wpAny_newFunctionEnv oY (by intro y hy;simp at hy) (fun h₁ AS AU=>?_) j4);dsimp only at AS AU⊢;have I3:Inv X ah σ (upd H2 s2.heap.objs.size (.lst [])) {s2 with heap:=s2.heap.push {cls:=.type "list",dict:=none,data:=.seq ([]:List Value).toArray}}:=
    I2.laid (t':=s2.toks) (fun _ _ q=>Heap.get?_push_of_some _ q) (az _) ⟨bZ _,[],0,.nil,Heap.get?_push_size _ rfl⟩;have Nh:∀b o,s2.heap.get? b=some o->(s2.heap.push {cls:=.type "list",dict:=none,data:=.seq ([]:List Value).toArray}).get? b=some o:=fun b o q=>Heap.get?_push_of_some _ q;have LN:(s2.heap.push {cls:=.type "list",dict:=none,data:=.seq ([]:List Value).toArray}).objs.size=s2.heap.objs.size+1:=Heap.size_push ..;generalize s2.heap.push {cls:=.type "list",dict:=none,data:=.seq ([]:List Value).toArray}=lM at AS AU I3 Nh LN⊢;have kp:∀b o,lM.get? b=some o->h₁.get? b=some o:=fun b o e=>AU.extBut b o (aZ (Heap.lt_size e)) (Heap.get?_push_of_some _ e);have FG:∀b∈fp,b<s2.heap.objs.size:=fun b hb=>by
    obtain⟨o,e,_⟩:=T.obj _ _ F0 b hb;exact Heap.lt_size e
  have Ao:∀b∈fp,(upd H2 s2.heap.objs.size (.lst [])) b=none:=fun b hb=>by rw[bM (aZ (FG b hb))];exact(f2 b hb).1
  have f3:∀b∈fp,rM X ah (upd H2 s2.heap.objs.size (.lst [])) b/\b<lM.objs.size:=fun b hb=>⟨⟨Ao b hb,(f2 b hb).2⟩,by rw[LN];exact gW (FG b hb)⟩;have I4:=zrk (ts:=ts) (t':=s2.toks+([]:List (Str×Value)).length) I3 j4 vU vV GK f3 AS kp;have Op:tn 0 h₁:=T.keep _ _ _ F0 fun b hb o e=>kp b o (Nh b o e);have loop:codeAny (model X.prog X.w) X.A (.compLoop (.ListComp wN [⟨eW,iter,vC,0⟩] scope pos) 0 (.ref it) (.ref s2.heap.objs.size) (compEnvC scope cl lM.objs.size X.env))
      (compPost (model X.prog X.w) X.A X.xe none (EP X ah σ Q) (.ref s2.heap.objs.size) lM.objs.size) {s2 with heap:=h₁,toks:=s2.toks+([]:List (Str×Value)).length}:=by
    refine XF (fun n s'=>∃i τ H',Inv (sL X scope cl (ts++fr.map (·.1)) fp {s2 with heap:=lM} (upd H2 s2.heap.objs.size (.lst []))) [] τ H' s'/\tn i s'.heap/\(∀b∈fp,H' b=none)/\W i n τ H') ?_ m0 ⟨0,_,_,I4,Op,Ao,w0⟩;rintro n s5 ⟨i,τ,H5,I5,zX,El,w5⟩;have mD:∀{H':Hp},(∀b∈fp,H' b=none)->∀b∈fp,rM (sL X scope cl (ts++fr.map (·.1)) fp {s2 with heap:=lM} (upd H2 s2.heap.objs.size (.lst []))) [] H' b:=
      fun hn b hb=>⟨hn b hb,(I5.ok.GA b hb).1,I5.ok.xP b hb,.inl hb,(I5.ok.GA b hb).2,fun p hp=>absurd (show p∈([]:List (Addr×Obj))from hp) (by simp)⟩;rcases sG i n τ H5 w5 with⟨stop,qn⟩ |⟨go,Nn,hN,step⟩
    · refine eJ (T.done (sL X scope cl (ts++fr.map (·.1)) fp {s2 with heap:=lM} (upd H2 s2.heap.objs.size (.lst []))) rfl rfl rfl qE i [] s5 τ H5 _ I5 (mD El) zX stop) fun r s6⟨hr,I6⟩=>?_;subst hr;obtain⟨m,hn,_⟩:=I6.loc;refine⟨m,hn,fun h' vY=>⟨.ref s2.heap.objs.size,H5,?_,rfl,qn⟩⟩;have DJ:∀b o,lM.get? b=some o->b≠lM.objs.size:=fun b o e=>aZ (Heap.lt_size e);have GR:Heap.SameBut lM.objs.size s6.heap h':=vY;refine I3.By (s':={s6 with heap:=h'}) (ch:=fp) I6.os ⟨fun b o e n hb hx=>?_,fun b o e n hb hx=>?_,I6.base.free,fun b o e hx=>?_,I6.base.rA,I6.base.mO,I6.base.rj⟩ (fun b ob e=>?_) I6.bare (fun b hb=>?_)
      · exact(GR.2 b (DJ b o e)).trans (I6.base.keep b o e n hb hx)
      · obtain⟨sl,q⟩:=I6.base.slot b o e n hb hx;exact⟨sl,(GR.2 b (DJ b o e)).trans q⟩
      · obtain⟨o',q⟩:=I6.base.there b o e hx;exact⟨o',(GR.2 b (DJ b o e)).trans q⟩
      · refine(I6.eB b ob e).iS (fun c v hc q=>(GR.2 c ?_).trans q) (fun _ q=>q) fun _ _ q=>q;intro z;have fz:H5 lM.objs.size=none:=I6.free;rcases hc with y|y
        · rw[<-y,z,fz]at e;cases e
        · rw[z,fz]at y;cases y
      · exact⟨(f2 b hb).2.2.2.1,(f2 b hb).2.1,(f2 b hb).2.2.2.2.1,(f2 b hb).2.2.2.2.2⟩
    · refine eJ (T.item (sL X scope cl (ts++fr.map (·.1)) fp {s2 with heap:=lM} (upd H2 s2.heap.objs.size (.lst []))) rfl rfl rfl qE i [] s5 τ H5 _ I5 (mD El) zX go) fun r s6⟨u,hr,h6⟩=>?_;subst hr;refine eJ h6 fun _ s7⟨x,H7,I7,r7,y7,KS,Lx⟩=>?_;have Q6:=I7.pinned (mD Lx) (T.obj _ _ KS);refine wpAny_mono (hg fp _ _ _ s7 τ H7 x u _ Q6 r7 (step x H7 y7)) (fun _ s8⟨τ8,H8,I8,q8⟩=>?_) fun _ _ z=>bI z;have again:∀{τ9:St}{H9:Hp}{s9:Shared},Inv (sL X scope cl (ts++fr.map (·.1)) fp {s2 with heap:=lM} (upd H2 s2.heap.objs.size (.lst []))) ([]++Jk fp s7.heap) τ9 H9 s9->Nn τ9 H9->
          ∃m,m<n/\∃i τ H',Inv (sL X scope cl (ts++fr.map (·.1)) fp {s2 with heap:=lM} (upd H2 s2.heap.objs.size (.lst []))) [] τ H' s9/\tn i s9.heap/\(∀b∈fp,H' b=none)/\W i m τ H':=fun{τ9 H9 s9} I9 n9=>by
        obtain⟨m',hm,w9⟩:=hN τ9 H9 n9;refine⟨m',hm,i+1,τ9,H9,I9.iT,T.keep _ _ _ KS fun b hb o e=>(I9.pin (b,o) (aB _ (aB _ (F4 hb e)))).1,fun b hb=>?_,w9⟩;obtain⟨o,e,d⟩:=T.obj _ _ KS b hb;exact(I9.pin (b,o) (aB _ (aB _ (F4 hb e)))).2.1
      refine wpAny_mono (hc fp _ _ _ s8 τ8 H8 _ I8 q8) (fun ok s9⟨H9,I9,q9⟩=>?_) fun _ _ z=>bI z;cases ok with
      |false=>exact again I9 q9
      |true=>
        refine wpAny_mono (he fp _ _ _ s9 τ8 H9 _ I9 q9) (fun y FZ⟨v,Js,Q3,rv,ys,hD,hl,qN⟩=>?_) fun _ _ z=>bI z;refine wpAny_mono (F5 (X:=sL X scope cl (ts++fr.map (·.1)) fp {s2 with heap:=lM} (upd H2 s2.heap.objs.size (.lst []))) _ FZ τ8 Js (.ref s2.heap.objs.size) [v] (.ref s2.heap.objs.size) [y] (fun _ H=>Nn τ8 H) Q3 rfl (.cons rv .nil) ⟨_,ys,v,rfl,rfl,hD,hl,qN⟩) (fun _ NV⟨_,Pa,Q5,_,To⟩=>again Q5 To) fun _ _ z=>bI z
  exact codeAny_compStart_list loop (T.self X.A 0 _ _ _ Op loop)
end
section
variable{X:Cx}{tg:Expr}
theorem kK(K:aa)(h:X.K=K):Mj X (yb K):=h▸zzf
theorem lE(K:aa)(h:X.K=K):Mj X (KG K):=h▸UQ
theorem OL(K:aa)(h:X.K=K):Ri X (KI K):=h▸zzg
def NO(K:aa):List V->Hp->VK->Prop:=fun xs H Q=>∃p ys,xs=[.ref p]/\(iZ K H p ys\/yE K H p ys)/\Q (.int ys.length) H
theorem Qv(K:aa)(h:X.K=K):mV X (.builtin "len") (NO K):=h▸zoi
theorem LY(K:aa)(h:X.K=K){es:List Expr}{k:Nat}{pos:Pos}{t:HQ}{n:Nat}(hc:X.calm=true)(hq:Mn X es t)(hn:(assignEach es X.env).length=n:=by rfl)(FL:(assignEach es X.env).findIdx? (·.1)=none:=by rfl):PG X (.Tuple es k pos) (CN K n t):=h▸UN hc hq hn FL
theorem yr(K:aa)(h:X.K=K){l:Expr}{tl:TE}(hl:PE X l tl):PI X tg l (zq K tl):=h▸zza hl
end
def Cw(env:Env):List (Str×Addr)->Prop
 |[]=>True
 |p::r=>env.cells.lookup p.1=some p.2/\Cw env r
theorem Cw.get{env:Env}:∀{cl:List (Str×Addr)},Cw env cl->∀x c,cl.lookup x=some c->env.cells.lookup x=some c
 |[],_,x,c,e=>by cases e
 |p::r,h,x,c,e=>by
  obtain⟨k,a⟩:=p;rw[vz]at e;by_cases q:x=k
  ·subst q;rw[beq_self_eq_true]at e;cases e
   exact h.1
  ·rw[beq_eq_false_iff_ne.mpr q]at e;exact Cw.get h.2 x c e
def BA(ns:List (Str×NameKind))(cl:List (Str×Addr)):Bool:=ns.all fun y=>match y.2 with
 | .cell=>(cl.lookup y.1).isSome
 | .free=>(cl.lookup y.1).isSome
 |_=>true
theorem ZH{ns:List (Str×NameKind)}{cl:List (Str×Addr)}(h:BA ns cl=true)(x:Str)(q:ns.lookup x=some .cell\/ns.lookup x=some .free):∃c,cl.lookup x=some c:=by
 unfold BA at h;rw[jI]at h;rcases q with q|q
 ·have:=h _ (eS q);exact fY.mp this
 ·have:=h _ (eS q);exact fY.mp this
theorem nM{X:Cx}{wN eW iter:Expr}{vC:List Expr}{scope:Scope}{pos:Pos}{cl:List (Str×Addr)}(ts:List Str)(fr:List (Str×Nat)){wi:TI}{g:TG}{tc:TT}{te:TE}(qE:X.calm=true)(uE:closureFor scope X.env=pure cl)(oY:∀y∈scope.names,y.2≠.cell)(j4:scope.kind= .function)(pI:∀y∈scope.names,y.2= .local->scope.names.lookup y.1=some .local)(vU:Cw X.env cl)(vV:BA (relabel scope X.env).names cl=true)(GK:xy X (relabel scope X.env) fr)(hi:PI X eW iter wi)(hg:∀fp s H,PG (sL X scope cl (ts++fr.map (·.1)) fp s H) eW g)(hc:∀fp s H,CG (sL X scope cl (ts++fr.map (·.1)) fp s H) vC tc)(he:∀fp s H,PE (sL X scope cl (ts++fr.map (·.1)) fp s H) wN te)(hs:∀x,foldedSetIterable iter X.env x=pure x:=by intro _;rfl):
    PE X (.ListComp wN [⟨eW,iter,vC,0⟩] scope pos) (xj ts.length fr wi g tc te):=
  zzj qE uE oY j4 pI vU.get (fun x q=>ZH vV x q) GK hi hg hc he hs
def Tv(K:aa):List V->Hp->VK->Prop:=fun xs H Q=>∃(p:Addr)(ns:List Int),xs=[.ref p]/\iZ K H p (ns.map V.int)/\Q (.int ns.sum) H
def Tr(K:aa):List V->Hp->VK->Prop:=fun xs H Q=>∃(p:Addr)(bs:List Bool),xs=[.ref p]/\iZ K H p (bs.map V.bl)/\Q (.bl (bs.all id)) H
theorem zwq{bs:List Bool}:∀{us:List Value},cj (bs.map V.bl) us->us=bs.map Value.bool:=by
 induction bs with
 |nil=>intro us r;cases r;rfl
 |cons b r ih=>
  intro us h;cases h with
  |cons h1 h2=>rw[show _=Value.bool b from h1,ih h2];rfl
theorem zuf{bs:List Bool}(f:Nat->Bool)(h:∀i,i<bs.length->f i=bs.getD i false):(yz bs.length).all f=bs.all id:=by
 rw[eU,jI,jI];constructor
 ·intro q b hb;obtain⟨i,hi,e⟩:=List.getElem_of_mem hb;have:=q i (pS.mpr hi);rw[h i hi]at this;rw[<-e]
  simpa [ly,hi]using this
 ·intro q i hi;have hi:=pS.mp hi;rw[h i hi];have:=q bs[i] (g6 hi)
  simpa [ly,hi]using this
section
variable{X:Cx}
theorem zug(K:aa)(h:X.K=K)(hc:X.calm=true):mV X (.builtin "sum") (Tv K):=by
 subst h;intro ah s σ H xs us Q I r h;obtain⟨p,ns,rfl,hq,q⟩:=h;obtain⟨u,rfl,ru⟩:=vals1 r;cases(show u=Value.ref p from ru)
 obtain⟨b7,rv,hp,hz⟩:=I.list hq;have hi:=zsq rv;obtain⟨zs,e⟩:=hi.allInts.items;have hl:=hp.isList;rw[e]at hl;refine sum_intListG (I.ok.hd hc) hl fun h' tk t' hk=>⟨.int ns.sum,H,I.kept (t':=tk) hk,⟨t',?_⟩,q⟩;rw[preSum_eq,ji (by simp)];have:=hi.numsOf;rw[show b7=b7.toArray.toList from rfl,e,nums_intItems]at this;rw[<-this]
theorem zsv{ah:List (Addr×Obj)}{s:Shared}{σ:St}{H:Hp}{p:Addr}{bs:List Bool}{Q:Value->Shared->Prop}(I:Inv X ah σ H s)(hc:X.calm=true)(hq:iZ X.K H p (bs.map V.bl))(h:∀s₂:Shared,(∀(h':Heap)(tk:Nat),(∀b o,b∉ [s.heap.objs.size]->s₂.heap.get? b=some o->h'.get? b=some o)->Inv X ah σ H {s₂ with heap:=h',toks:=tk})->
      (s₂.heap.IsListIter s.heap.objs.size p 0/\s₂.heap.IsList p (bs.map Value.bool).toArray)->p≠s.heap.objs.size->Q (.ref s.heap.objs.size) s₂)(E:Value->Shared->Prop):
    wpAny (model X.prog X.w) X.A.in1 (pyIter (.ref p)) Q E s:=by
  obtain⟨b7,rv,hp,hz⟩:=I.list hq;rw[zwq rv]at hp;have hl:=hp.isList;have jT:p<s.heap.objs.size:=by obtain⟨_,e,_⟩:=id hl;exact Heap.lt_size e
  refine wpAny_pyIter_list hl (h _ (fun h' tk hk=>I.kept (t':=tk) fun b o e=>?_) ⟨⟨_,Heap.get?_push_size _ rfl,rfl,rfl⟩,hl.push _⟩ (aZ jT));exact hk b o (by simp[aZ (Heap.lt_size e)]) (Heap.get?_push_of_some _ e)
theorem zqf{A:Around}{bs:List Bool}:TruthOf X.prog X.w A (fun i v=>(bs.map Value.bool).toArray[i]?=some v) (fun i=>bs.getD i false):=by
 intro i v s Q E hP hQ;have e:bs[i]?.map Value.bool=some v:=by simpa using hP
 cases q:bs[i]? with
 |none=>rw[q]at e;cases e
 |some b=>
  rw[q]at e;cases e
  dsimp only at hQ;rw[ly,q]at hQ;exact wpAny_truthy_bool hQ
theorem zuh(K:aa)(h:X.K=K)(hc:X.calm=true):mV X (.builtin "all") (Tr K):=by
 subst h;intro ah s σ H xs us Q I r h;obtain⟨p,bs,rfl,hq,q⟩:=h;obtain⟨u,rfl,ru⟩:=vals1 r;cases(show u=Value.ref p from ru)
 refine call_all_walk (zsv I hc hq (fun s₂ J st zh=>⟨_,_,_,_,_,_,_,rfl,Walks.list (A:=X.A.in1) (I.ok.hd hc) _ p zh _,st,zqf,fun h' tk hk=>⟨.bl _,H,J h' tk hk,?_,q⟩⟩) _);show Value.bool _=Value.bool _;congr 1;rw[aQ,ai];exact zuf _ fun i hi=>rfl
end
def pV (J:It) (g:TG) (tc:TT) (te:TE) (D:Addr) (τ:St) (H:Hp) (Q:VK):Prop :=
 ∃ W:Nat->Nat->St->Hp->Prop,(∃ m,W 0 m τ H)/\∀ i m τ H',W i m τ H' ->
  (J.stop i H'/\Q (.ref D) H')\/(J.go i H'/\∃ N:St->Hp->Prop,(∀ τ' Az,N τ' Az->∃ m',m' < m/\W (i+1) m' τ' Az) /\
   ∀ x H2,J.Je i H' x H2->g x τ H2 fun τ2 H3=>tc τ2 H3 fun b H4=>if b=true then te τ2 H4 fun y H5=>∃ ys,H5 D=some (.lst ys)/\ys.length<sizeLine/\N τ2 (upd H5 D (.lst (ys++[y]))) else N τ2 H4)
theorem ve{nt:Nat}{fr:List (Str×Nat)}{wi:TI}{g:TG}{tc:TT}{te:TE}{σ:St}{H:Hp}{Q:VK}:
    xj nt fr wi g tc te σ H Q=wi σ H fun J H1=>∀D,H1 D=none->pV J g tc te D (jh nt none++fr.map fun p=>(σ[p.2]?).join) (upd H1 D (.lst [])) Q:=rfl
theorem Jf{K:aa}{a:Addr}{xs:List V}{g:TG}{tc:TT}{te:TE}{D:Addr}{τ:St}{H:Hp}{Q:VK}(Pv:Nat->St->Hp->Prop)(h0:Pv 0 τ H)(hl:∀i τ H,i<=xs.length->Pv i τ H->iZ K H a xs)(hs:∀i x τ H,xs[i]?=some x->Pv i τ H->g x τ H fun τ2 H3=>tc τ2 H3 fun b H4=>if b=true then te τ2 H4 fun y H5=>∃ys,H5 D=some (.lst ys)/\ys.length<sizeLine/\Pv (i+1) τ2 (upd H5 D (.lst (ys++[y])))else Pv (i+1) τ2 H4)(hd:∀τ H,Pv xs.length τ H->Q (.ref D) H):
    pV (Gf K a) g tc te D τ H Q:=by
  refine⟨fun i m τ H=>m=xs.length-i/\i<=xs.length/\Pv i τ H,⟨xs.length,by simp,bZ _,h0⟩,?_⟩;rintro i m τ H ⟨rfl,hi,p⟩;have q:=hl i τ H hi p;by_cases jT:i<xs.length
  · refine .inr ⟨⟨xs,xs[i],q,by simp[jT]⟩,Pv (i+1),fun τ' H' p'=>⟨xs.length-(i+1),by omega,rfl,jT,p'⟩,fun x H2 z=>?_⟩;obtain⟨rfl,hx⟩:=z;exact hs i x τ H2 (hx xs q) p
  · have e:i=xs.length:=by omega
    subst e;exact .inl ⟨⟨xs,q,az _⟩,hd τ H p⟩
theorem Qw{α:Type}{xs:List α}{i:Nat}{x:α}(h:xs[i]?=some x):xs.take (i+1)=xs.take i++[x]:=by rw[t9,h];rfl
theorem zui{K:aa}{a:Addr}{xs:List V}{g:TG}{tc:TT}{te:TE}{D:Addr}{v0:Option V}{caps:St}{H:Hp}{Q:VK}(F:V->Option V)(hD:H D=none)(hS:iZ K H a xs)(gw:xs.length<=1000)(hs:∀x∈xs,∀(v:Option V)(H':Hp)(C:V->St->Hp->Prop)(N:St->Hp->Prop),bE H H'->(∀y,F x=some y->C y (some x::caps) H')->(F x=none->N (some x::caps) H')->
      g x (v::caps) H' fun τ2 H3=>tc τ2 H3 fun b H4=>if b=true then te τ2 H4 fun y H5=>C y τ2 H5 else N τ2 H4)(hd:Q (.ref D) (upd H D (.lst (xs.filterMap F)))):
    pV (Gf K a) g tc te D (v0::caps) (upd H D (.lst [])) Q:=by
  refine Jf (xs:=xs) (fun i τ H'=>(∃v,τ=v::caps)/\H'=upd H D (.lst ((xs.take i).filterMap F))) ⟨⟨_,rfl⟩,by simp⟩ (fun i τ H' _⟨_,e⟩=>by rw[e];exact(fV hD).seq hS) ?_ ?_
  · rintro i x τ H' hx ⟨⟨v,rfl⟩,rfl⟩;have hi:i<xs.length:=(aL.mp hx).1;refine hs x (bh hx) v _ (fun y τ2 H5=>∃ys,H5 D=some (.lst ys)/\ys.length<sizeLine/\(∃v,τ2=v::caps)/\upd H5 D (.lst (ys++[y]))=upd H D (.lst ((xs.take (i+1)).filterMap F)))
      (fun τ2 H4=>(∃v,τ2=v::caps)/\H4=upd H D (.lst ((xs.take (i+1)).filterMap F))) (fV hD) (fun y e=>?_) fun e=>?_
    · refine⟨_,bX,gD ?_,⟨_,rfl⟩,?_⟩
      · have:=Ae F (xs.take i);rw[aY]at this;omega
      · rw[Aa,Qw hx,oU];simp[e]
    · refine⟨⟨_,rfl⟩,?_⟩;rw[Qw hx,oU];simp[e]
  · rintro τ H' ⟨_,rfl⟩;rw[bF];exact hd
abbrev Q4:=Int×Int×Int×Int
def q4(q:Q4):List V:=[.int q.1,.int q.2.1,.int q.2.2.1,.int q.2.2.2]
theorem zuj(ns:List Int)(lo hi:Option Int):∃ms:List Int,mL (ns.map V.int) lo hi=ms.map V.int/\ms.length<=ns.length:=by
 refine⟨(ns.drop (HT.wu (ns.map V.int).length 0 lo)).take (HT.wu (ns.map V.int).length (ns.map V.int).length hi-HT.wu (ns.map V.int).length 0 lo),?_,?_⟩
 ·unfold mL;rw[Ag,Af]
 ·rw[aY,jK];omega
mutual
theorem zrl:∀d:PyData,d.canLay0=true->PyData.eqv d d=true
 | .none,_=>rfl
 | .bool b,_=>by simp[PyData.eqv]
 | .int i,_=>by simp[PyData.eqv]
 | .str x,_=>by simp[PyData.eqv]
 | .list xs,h=>by
  have h:PyData.canLayAll0 xs=true:=by simpa only[PyData.canLay0]using h
  simpa only[PyData.eqv]using VB xs h
 | .tuple xs,h=>by
  have h:PyData.canLayAll0 xs=true:=by simpa only[PyData.canLay0]using h
  simpa only[PyData.eqv]using VB xs h
 | .dict _,h=>by simp[PyData.canLay0]at h
theorem VB:∀ds:List PyData,PyData.canLayAll0 ds=true->PyData.eqvAll ds ds=true
 |[],_=>rfl
 |d::r,h=>by simp only[PyData.canLayAll0,bY]at h;simp only[PyData.eqvAll,bY];exact⟨zrl d h.1,VB r h.2⟩
end
theorem Zn{α:Type}{f:α->PyData}(h:∀a,(f a).canLay0=true):∀l:List α,PyData.canLayAll0 (l.map f)=true
 |[]=>rfl
 |a::r=>by simp only[ay,PyData.canLayAll0,h a,Zn h r,Bool.and_self]
theorem VH{α:Type}{f:α->PyData}{n:Nat}(h:∀a,(f a).depth<=n):∀l:List α,PyData.depthAll (l.map f)<=n
 |[]=>bZ _
 |a::r=>by have h1:=h a;have h2:=VH h r;simp only[ay,PyData.depthAll];omega
theorem zqg{α:Type}{f:α->PyData}{n:Nat}(h:∀a,(f a).canLay0=true)(hd:∀a,(f a).depth<=n)(hn:n<64)(l:List α):aX (.list (l.map f))=true:=by unfold aX;rw[bY,decide_eq_true_eq];refine⟨by simpa only[PyData.canLay0]using Zn h l,?_⟩;have:=VH hd l;simp only[PyData.depth];omega
section
variable{X:Cx}
theorem VS(K:aa)(h:X.K=K)(hu:X.A.units+64<cLine):m5 X (compareOp .Eq) (G7 K):=h▸U0 hu
theorem zzk(K:aa)(h:X.K=K)(hu:X.A.units+64<cLine):m5 X (compareOp .NotEq) (KH K):=h▸U1 hu
end
theorem Ej{K:aa}{H:Hp}{x y:V}{d e:PyData}{Q:VK}(hx:kC K H x d)(hy:kC K H y e)(sd:aX d=true)(se:aX e=true)(q:Q (.bl (PyData.eqv d e)) H):G7 K x y H Q:=⟨d,e,hx,hy,sd,se,q⟩
theorem No{K:aa}{H:Hp}{x y:V}{d e:PyData}{Q:VK}(hx:kC K H x d)(hy:kC K H y e)(sd:aX d=true)(se:aX e=true)(q:Q (.bl (!PyData.eqv d e)) H):KH K x y H Q:=⟨d,e,hx,hy,sd,se,q⟩
theorem zzl{K:aa}{H:Hp}{x y:V}{d:PyData}{Q:VK}(hx:kC K H x d)(hy:kC K H y d)(sd:aX d=true)(q:Q (.bl true) H):G7 K x y H Q:=by refine Ej hx hy sd sd ?_;rw[zrl d (jm sd)];exact q
theorem V9{K:aa}{H:Hp}{p:Addr}{ys:List V}{Q:VK}(h:iZ K H p ys)(q:Q (.int ys.length) H):NO K [.ref p] H Q:=⟨p,ys,rfl,.inl h,q⟩
theorem OW{K:aa}{H:Hp}{p:Addr}{xs:List V}{lo hi:Option Int}{Q:VK}(h:iZ K H p xs)(q:∀l,H l=none->Q (.ref l) (upd H l (.lst (mL xs lo hi)))):KI K (.ref p) lo hi H Q:=⟨p,xs,rfl,h,q⟩
theorem zwr(xs:List V)(n:Nat)(h:n<=xs.length):mL xs none (some (n:Int))=xs.take n:=by unfold mL;rw[HT.uY,HT.ug];simp[xF h]
section
variable{prog:Program}{w:World}{A:Around}{R:Result->Shared->Prop}
def U3(ns:List Int)(j:Nat)(AI:Array Value):Prop:=(j=0/\AI= #[])\/∃m t,AI= #[.int m t,.int m t]/\m∈ns.take j/\∀n∈ns.take j,n<=m
def zyi(ns:List Int)(d v:Value):Prop:=(ns=[]/\v=d)\/∃m t,v= .int m t/\m∈ns/\∀n∈ns,n<=m
theorem zrm{ns:List Int}{b7:List Value}(r:cj (ns.map V.int) b7){j:Nat}{v:Value}(h:b7.toArray[j]?=some v):∃n t,ns[j]?=some n/\v= .int n t:=by
 have hj:j<b7.length:=by
  have:=(kP.mp h).1
  simpa using this
 have hl:=r.length;rw[ai]at hl;have e:(ns.map V.int)[j]?=some (V.int ns[j]):=by simp[hl▸hj]
 obtain⟨u,hu,t,ru⟩:=r.get e;have:b7[j]?=some v:=by simpa using h
 rw[this]at hu;cases hu
 exact⟨ns[j],t,by simp[hl▸hj],ru⟩
theorem zws{l it S:Addr}{ns:List Int}{b7:List Value}{d:Value}(hh:A.handled=none)(Sm:l≠it)(GH:S≠it)(ML:S≠l)(rv:cj (ns.map V.int) b7):
    ∀(k j:Nat)(s:Shared)(AI:Array Value)(c:Nat),b7.length-j=k->j<=b7.length->s.heap.IsListIter it l j->s.heap.IsList l b7.toArray->U3 ns j AI->
    s.heap.get? S=some {cls:=.type "list",dict:=none,data:=.seq AI c,slots:=#[]}->
    (∀v h' tk,zyi ns d v->(∀b o,b≠it->b≠S->s.heap.get? b=some o->h'.get? b=some o)->R (.ok (.ret v)) {s with heap:=h',toks:=tk})->
    codeAny (model prog w) A (.builtin "max.loop" ⟨[.ref it,.none,.ref S],[("default",d)]⟩) R s:=by
  have gw:ns.length=b7.length:=by have:=rv.length;rwa [ai]at this
  have nm:(toString "max" ++toString ".loop":String)="max.loop":=by decide
  intro k
  induction k with
  |zero=>
    intro j s AI c hk hj Aq GN hb uD fin;have ej:j=b7.length:=by omega
    refine codeAny_builtin F.entry_max_loop ?_;rw[Around.under_plainId F.plain_max_loop _];show wpAny _ A.in1 (seqItems? (.ref S) >>=_) _ _ s;refine wpAny_bind (wpAny_seqItems uD rfl ?_);show wpAny _ A.in1 (tryCatch (pyNext (.ref it)) _ >>=_) _ _ s;refine wpAny_bind (wpAny_tryCatch (wpAny_pyNext_list_end (A:=A.in1) hh Aq GN (by simp[ej]) fun h' ek=>?_));have vA:=ek S _ GH uD;rcases hb with⟨e0,rfl⟩ |⟨m,t,rfl,hm,kZ⟩
    · refine wpAny_bind (wpAny_rule (wpAny_pure ?_));refine fin d h' s.toks (.inl ⟨AD.mp (by omega),rfl⟩) fun b o n1 _ e=>ek b o n1 e
    · show wpAny _ A.in1 (updateSeq S (fun _=>#[]) >>=_) _ _ _;refine wpAny_bind (wpAny_updateSeq vA rfl (wpAny_bind (wpAny_letGo (wpAny_pure ?_))));rw[ji (by omega)]at hm kZ;exact fin _ _ s.toks (.inr ⟨m,t,rfl,hm,kZ⟩) fun b o n1 n2 e=>(Heap.get?_update_other _ _ (b9 n2)).trans (ek b o n1 e)
  |succ k ih=>
    intro j s AI c hk hj Aq GN hb uD fin;have jT:j<b7.length:=by omega
    refine codeAny_builtin F.entry_max_loop ?_;rw[Around.under_plainId F.plain_max_loop _];show wpAny _ A.in1 (seqItems? (.ref S) >>=_) _ _ s;refine wpAny_bind (wpAny_seqItems uD rfl ?_);show wpAny _ A.in1 (tryCatch (pyNext (.ref it)) _ >>=_) _ _ s;have hv:b7.toArray[j]?=some b7[j]:=by simp[jT]
    refine wpAny_bind (wpAny_tryCatch (wpAny_pyNext_list_item Aq GN hv fun h' xT vY=>?_));obtain⟨n,t,en,ev⟩:=zrm rv hv;rw[ev];have vA:=vY.extBut S _ GH uD;have AQ:h'.IsList l b7.toArray:=GN.extBut vY.extBut Sm;have step:∀(m:Int)(tt:Tok)(s2:Shared)(c2:Nat),s2.heap.IsListIter it l (j+1)->s2.heap.IsList l b7.toArray->s2.heap.get? S=some {cls:=.type "list",dict:=none,data:=.seq #[.int m tt,.int m tt] c2,slots:=#[]}->
        m∈ns.take (j+1)->(∀z∈ns.take (j+1),z<=m)->(∀b o,b≠it->b≠S->s.heap.get? b=some o->s2.heap.get? b=some o)->s2.gens=s.gens->s2.drawn=s.drawn->s2.os=s.os->
        codeAny (model prog w) A (.builtin "max.loop" ⟨[.ref it,.none,.ref S],[("default",d)]⟩) R s2:=fun m tt s2 c2 i1 i2 i3 i4 i5 i6 g1 g2 g3=>by
      refine ih (j+1) s2 _ c2 (by omega) jT i1 i2 (.inr ⟨m,tt,rfl,i4,i5⟩) i3 fun v RV K3 r1 r2=>?_;have:=fin v RV K3 r1 fun b o n1 n2 e=>r2 b o n1 n2 (i6 b o n1 n2 e);obtain⟨q1,q2,q3,q4,q5⟩:=s2;obtain⟨p1,p2,p3,p4,p5⟩:=s;cases g1;cases g2;cases g3
      exact this
    have lJ:=Qw en;have nR:∀(g:Obj->Obj) b o,b≠it->b≠S->s.heap.get? b=some o->(h'.update S g).get? b=some o:=fun g b o n1 n2 e=>(Heap.get?_update_other _ _ (b9 n2)).trans (vY.extBut b o n1 e);rcases hb with⟨e0,rfl⟩ |⟨m,t0,rfl,hm,kZ⟩
    · show wpAny _ A.in1 (updateSeq S (fun _=>_) >>=_) _ _ _;refine wpAny_bind (wpAny_updateSeq vA rfl ?_);rw[nm];refine wpAny_pure ⟨plainId_quiet F.plain_max_loop _,step n t _ _ (xT.at fun o e=>(Heap.get?_update_other _ _ GH).trans e) (AQ.at fun o e=>(Heap.get?_update_other _ _ ML).trans e) (Heap.get?_update_self _ vA rfl) ?_ ?_ (nR _) rfl rfl rfl⟩
      · rw[lJ];simp
      · rw[lJ,e0];simp
    · show wpAny _ A.in1 (tryCatch (holding [.int n t,.int n t] (richCompare .Gt (.int n t) (.int m t0) >>=_)) _ >>=_) _ _ _;refine wpAny_bind (wpAny_tryCatch (wpAny_holding (wpAny_bind (richCompare_gives (op:=.Gt) (typeIs_int _ _ t) (typeIs_int _ _ t0) F.slot_int_gt F.entry_int_gt (F.args_int_gt_2 _ _) (gives_int_gt _ _ t t0) (fun x=>nomatch x) ?_))));refine wpAny_bind (wpAny_holding (wpAny_truthy_bool (wpAny_bind (wpAny_letGo (wpAny_pure ?_)))));by_cases MU:n > m
      · simp only[MU,decide_true,if_true];refine wpAny_bind (wpAny_updateSeq vA rfl (wpAny_bind (wpAny_letGo ?_)));rw[nm];refine wpAny_pure ⟨plainId_quiet F.plain_max_loop _,step n t _ _ (xT.at fun o e=>(Heap.get?_update_other _ _ GH).trans e) (AQ.at fun o e=>(Heap.get?_update_other _ _ ML).trans e) (Heap.get?_update_self _ vA rfl) ?_ ?_ (nR _) rfl rfl rfl⟩
        · rw[lJ];simp
        · rw[lJ];intro z hz;rcases ao.mp hz with hz|hz
          · have:=kZ z hz;omega
          · have:z=n:=by simpa using hz
            omega
      · simp only[MU,decide_false,fM,if_false];refine wpAny_bind (wpAny_letGo ?_);rw[nm];refine wpAny_pure ⟨plainId_quiet F.plain_max_loop _,step m t0 _ c xT AQ vA ?_ ?_ (fun b o n1 _ e=>vY.extBut b o n1 e) rfl rfl rfl⟩
        · rw[lJ];exact dY _ hm
        · rw[lJ];intro z hz;rcases ao.mp hz with hz|hz
          · exact kZ z hz
          · have:z=n:=by simpa using hz
            omega
theorem zul(a d:Value):argsOk "max" ⟨[a],[("default",d)]⟩:=by unfold argsOk;kernel_rfl
theorem zum{E:Value->Shared->Prop}{s:Shared}{l:Addr}{ns:List Int}{b7:List Value}{d:Value}{Q:Value->Shared->Prop}(hh:A.handled=none)(hl:s.heap.IsList l b7.toArray)(rv:cj (ns.map V.int) b7)(h:∀v h' tk,zyi ns d v->(∀b o,s.heap.get? b=some o->h'.get? b=some o)->Q v {s with heap:=h',toks:=tk}):
    wpAny (model prog w) A (call (.builtin "max") [.ref l] [("default",d)]) Q E s:=by
  have nm:(toString "max" ++toString ".loop":String)="max.loop":=by decide
  refine wpAny_call (codeAny_call_builtin F.plain_max F.entry_max ?_);have ca:checkBuiltinCall "max" ⟨[.ref l],[("default",d)]⟩=pure ():=by
    simp only[checkBuiltinCall,F.kind_max];cases J8:Manifest.signature? "max"with
    |none=>rfl
    |some sig=>
      have ha:=zul (.ref l) d;simp only[argsOk,J8]at ha;exact ha
  rw[ca];refine wpAny_pure ?_;show wpAny _ A.in1 (Builtin.Builtins.bindParams "max" ["key","default"] 0 ⟨[],[("default",d)]⟩ >>=_) _ _ s;refine wpAny_bind (wpAny_of_eq (show Builtin.Builtins.bindParams "max" ["key","default"] 0 ⟨[],[("default",d)]⟩=pure [none,some d]from rfl) ?_);refine wpAny_bind (wpAny_pure ?_);have jT:l<s.heap.objs.size:=by obtain⟨_,e,_⟩:=id hl;exact Heap.lt_size e
  refine wpAny_bind (wpAny_pyIter_list hl ?_);refine wpAny_bind (wpAny_newObj_type ?_);rw[nm];have kp:∀(x y:Obj) b o,s.heap.get? b=some o->((s.heap.push x).push y).get? b=some o:=fun x y b o e=>Heap.get?_push_of_some _ (Heap.get?_push_of_some _ e);refine wpAny_pure ⟨plainId_quiet F.plain_max_loop _,?_⟩;refine zws (it:=s.heap.objs.size) (S:=(s.heap.push _).objs.size) hh (aZ jT) (by rw[Heap.size_push];exact JD _) (by rw[Heap.size_push];exact oq (gW jT)) rv b7.length 0 _ #[] 0 rfl (bZ _)
    ⟨_,Heap.get?_push_of_some _ (Heap.get?_push_size _ rfl),rfl,rfl⟩ (hl.at fun o e=>kp _ _ _ _ e) (.inl ⟨rfl,rfl⟩) (Heap.get?_push_size _ rfl) fun v h' tk r1 r2=>?_;refine h v h' tk r1 fun b o e=>r2 b o (aZ (Heap.lt_size e)) (aZ ?_) (kp _ _ _ _ e);rw[Heap.size_push];exact gW (Heap.lt_size e)
end
def IX(K:aa)(t:TA)(td:TE):TE:=fun σ H Q=>t σ H fun xs H1=>td σ H1 fun y H2=>∃(p:Addr)(ns:List Int)(d:Int),xs=[.ref p]/\y= .int d/\iZ K H2 p (ns.map V.int)/\
 ∀m,(ns=[]->m=d)->(ns≠[]->m∈ns/\∀n∈ns,n<=m)->Q (.int m) H2
theorem zzm{X:Cx}(K:aa)(hK:X.K=K)(hc:X.calm=true){l d:Expr}{t:TA}{td:TE}{p pos GY:Pos}(hg:Gl X "max")(hm:X.mg "max"=none)(hl:PA X [l] t)(hd:PE X d td)(he:starEach [l] X.env=[(false,eval l X.env)]:=by rfl):
    PE X (.Call (.Name "max" p) [l] [⟨some "default",d,GY⟩] pos) (IX K t td):=by
  subst hK;intro ah s σ H Q I h;refine wpAny_Call_Name_kw (L5 I hg hm boot_max ?_);refine callWith_kw (he:=by rw[he];rfl) (hplain:=by rw[he];rfl) ?_;refine eJ (hl pos ah s σ H _ I h) fun us s1⟨xs,H1,I1,r1,q1⟩=>?_;refine kws_cons (eJ (hd ah s1 σ H1 _ I1 q1) fun y s2⟨yv,H2,I2,r2,q2⟩=>kws_nil ?_);obtain⟨a,ns,dd,rfl,rfl,hq,fin⟩:=q2;obtain⟨u,rfl,ru⟩:=vals1 r1;cases(show u=Value.ref a from ru)
  obtain⟨t2,rfl⟩:=(show ∃t,y=Value.int dd t from r2);obtain⟨b7,rv,hp,hz⟩:=I2.list hq;refine zum (I2.ok.hd hc) hp.isList rv fun v h' tk r k=>?_;rcases r with⟨e,rfl⟩ |⟨m,t3,rfl,e1,e2⟩
  · exact⟨.int dd,H2,I2.kept (t':=tk) k,⟨_,rfl⟩,fin dd (fun _=>rfl) fun z=>absurd e z⟩
  · exact⟨.int m,H2,I2.kept (t':=tk) k,⟨_,rfl⟩,fin m (fun z=>by rw[z]at e1;cases e1) fun _=>⟨e1,e2⟩⟩
def XTr(B:Heap)(e:Addr)(h:Heap)(vs:Array Value):Option Value->Prop
 |none=>vs[1]?=some Value.none
 |some f=>∃T oT ts,vs[1]?=some (.ref T)/\B.get? T=none/\T≠e/\h.get? T=some oT/\oT.data= .fields ts/\ts[3]?=some f
structure Bu(B:Heap)(e:Addr)(cls:Value)(dct:Option Addr)(fl:Option Value)(h:Heap):Prop where
 iS:B.StaysIn h
 new:B.get? e=none
 ex:∃oe vs,h.get? e=some oe/\oe.cls=cls/\oe.dict=dct/\oe.data= .fields vs/\1<vs.size/\XTr B e h vs fl
structure Bt(h h':Heap):Prop where
 sl:∀b o,h.get? b=some o->(∀vs,o.data≠.fields vs)->∃sl,h'.get? b=some {o with slots:=sl}
 th:∀b o,h.get? b=some o->∃o',h'.get? b=some o'
theorem Bt.trans{h h1 h2:Heap}(a:Bt h h1)(b:Bt h1 h2):Bt h h2:=by
 refine⟨fun c o e n=>?_,fun c o e=>?_⟩
 ·obtain⟨s1,e1⟩:=a.sl c o e n;obtain⟨s2,e2⟩:=b.sl c _ e1 n;exact⟨s2,e2⟩
 ·obtain⟨o1,e1⟩:=a.th c o e;exact b.th c o1 e1
theorem Bt.mj{h h' B:Heap}{l:List Env}(u:Bt h h')(f:h.FunFrames B l):h'.FunFrames B l:=f.of_keeps fun b o e n=>by obtain⟨sl,q⟩:=u.sl b o e n;exact⟨_,q,rfl⟩
section
variable{M:Model}{A:Around}{E:Value->Shared->Prop}{s:Shared}{B:Heap}{env:Env}{outer:List Env}{L e:Addr}{cls:Value}{dct:Option Addr}
theorem zrn {fl:Option Value} {head:Value} {b1:Bool} {Q:Unit->Shared->Prop} (fr:A.frames=some (env :: outer)) (ff:s.heap.FunFrames B (env :: outer)) (hf:env.frame=some L) (x:Bu B e cls dct fl s.heap)
    (h:∀ h',Bu B e cls dct (some (rawInt L)) h'->Bt s.heap h'->Q () { s with heap:=h' }) :
    wpAny M A (do let a <- frameOf env; let pl <- entryPlaceOf L b1; let b <- EntryCells.newEntry head a .none (rawInt L) .none pl; setField (.ref e) 1 b) Q E s:=by
  obtain ⟨iS,new,oe,vs,FY,Ny,Nz,De,Kv,_⟩:=x
  have nf:e ∉ (env :: outer).filterMap (·.frame):=fun z=>by
    obtain ⟨_,o,q,n⟩:=ff.mem z
    rw [FY] at q
    cases q
    exact n vs De
  refine wpAny_bind (wpAny_frameOf_fun fr ff hf fun h1 sl=>wpAny_bind (wpAny_entryPlaceOf fun pl ip=>?_))
  have e1:h1.get? e=some oe:=(sl.2.1 e nf).trans FY
  have Xx:B.StaysIn h1:=fun b o q=>(sl.2.1 b fun z=>by rw [(ff.mem z).1] at q; cases q).trans (iS b o q)
  unfold EntryCells.newEntry newFields
  refine wpAny_bind (wpAny_newObj_type ?_ (ip.sizeOk5 _ _ _ _ _))
  generalize hT:({ cls:=.type "traceback", dict:=none,data:=.fields ([head,.ref L,.none,rawInt L,.none]++(if pl.isEmpty then jh 6 Value.none else pl)).toArray }:Obj)=oT
  have e2:(h1.push oT).get? e=some oe:=Heap.get?_push_of_some _ e1
  have ne:h1.objs.size≠e:=oq (Heap.lt_size e1)
  refine wpAny_setField e2 De Kv (h _ ⟨fun b o q=>?_,new,_,_,Heap.get?_update_self _ e2 (Obj.isFreed_of_fields (Obj.data_mapFields De _)),(Obj.cls_mapFields _ _).trans Ny,?_,Obj.data_mapFields De _,by simpa using Kv,h1.objs.size,oT,_,by simp [Kv],Xx.fresh,ne,?_,by rw [<- hT],?_⟩ ⟨fun b o q n=>?_,fun b o q=>?_⟩)
  · rw [Heap.get?_update_other _ _ fun z=>by rw [<- z,new] at q; cases q]
    exact Heap.get?_push_of_some _ (Xx b o q)
  · rw [<- Nz]; cases oe with | mk c d da sl=>cases da <;> rfl
  · rw [Heap.get?_update_other _ _ (b9 ne)]
    exact Heap.get?_push_size _ (by rw [<- hT]; rfl)
  · rcases ip with rfl | ⟨_,_,_,_,_,_,_,rfl⟩ <;> simp
  · obtain ⟨s1,q1⟩:=sl.2.2 b o q
    refine ⟨s1,?_⟩
    rw [Heap.get?_update_other _ _ fun z=>by rw [<- z,FY] at q; cases q; exact n vs De]
    exact Heap.get?_push_of_some _ q1
  · by_cases z:b=e
    · rw [z]; exact ⟨_,Heap.get?_update_self _ e2 (Obj.isFreed_of_fields (Obj.data_mapFields De _))⟩
    · obtain ⟨s1,q1⟩:=sl.2.2 b o q
      exact ⟨_,(Heap.get?_update_other _ _ (b9 z)).trans (Heap.get?_push_of_some _ q1)⟩
theorem VT{f:Value}{Q:Unit->Shared->Prop}(x:Bu B e cls dct (some f) s.heap)(h:∀h',Bu B e cls dct (some .none) h'->Bt s.heap h'->Q () {s with heap:=h'}):wpAny M A (setFlight (.ref e) none) Q E s:=by
 obtain⟨iS,new,oe,vs,FY,Ny,Nz,De,Kv,T,oT,ts,t1,t2,t3,t4,t5,t6⟩:=x;unfold setFlight;refine wpAny_bind (wpAny_field FY De t1 ?_);rw[if_pos (show(Value.ref T !=Value.none)=true by simp)];have h3:3<ts.size:=(kP.mp t6).1;have G6:∀(g:Obj->Obj) b,b≠T->(s.heap.update T g).get? b=s.heap.get? b:=fun g b z=>Heap.get?_update_other _ _ (b9 z);refine wpAny_setField t4 t5 h3 (h _ ⟨fun b o q=>?_,new,oe,vs,by rw[G6 _ _ (b9 t3)];exact FY,Ny,Nz,De,Kv,T,_,_,t1,t2,t3,Heap.get?_update_self _ t4 (Obj.isFreed_of_fields (Obj.data_mapFields t5 _)),Obj.data_mapFields t5 _,by simp[h3]⟩ ⟨fun b o q n=>⟨o.slots,?_⟩,fun b o q=>?_⟩)
 ·rw[G6 _ _ fun z=>by rw[z,t2]at q;cases q];exact iS b o q
 ·rw[G6 _ _ fun z=>by rw[z,t4]at q;cases q;exact n ts t5];exact q
 ·by_cases z:b=T
  ·rw[z];exact⟨_,Heap.get?_update_self _ t4 (Obj.isFreed_of_fields (Obj.data_mapFields t5 _))⟩
  ·exact⟨o,(G6 _ _ z).trans q⟩
theorem zun{fl:Option Value}{Q:Unit->Shared->Prop}(fr:A.frames=some (env::outer))(ff:s.heap.FunFrames B (env::outer))(hf:env.frame=some L)(x:Bu B e cls dct fl s.heap)(JU:fl=none\/fl=some .none)(h:∀h',Bu B e cls dct (some (rawInt L)) h'->Bt s.heap h'->Q () {s with heap:=h'}):wpAny M A (noteFrame (.ref e) env) Q E s:=by
  have x0:=x;obtain⟨iS,new,oe,vs,FY,Ny,Nz,De,Kv,tr⟩:=x;unfold noteFrame;simp only[hf];rcases JU with rfl|rfl
  · refine wpAny_bind (wpAny_field FY De tr ?_);rw[if_neg (by decide)];exact zrn fr ff hf x0 h
  · obtain⟨T,oT,ts,t1,t2,t3,t4,t5,t6⟩:=tr;refine wpAny_bind (wpAny_field FY De t1 ?_);rw[if_pos (show(Value.ref T !=Value.none)=true by simp)];refine wpAny_bind (wpAny_field t4 t5 t6 ?_);rw[if_neg (show ¬((Value.none ==rawInt L)=true)by simp[rawInt])];have h3:3<ts.size:=(kP.mp t6).1;have G6:∀(g:Obj->Obj) b,b≠T->(s.heap.update T g).get? b=s.heap.get? b:=fun g b z=>Heap.get?_update_other _ _ (b9 z);have up:∀g,Bt s.heap (s.heap.update T (Obj.mapFields g)):=fun g=>⟨fun b o q n=>⟨o.slots,by
      rw[G6 _ _ fun z=>by rw[z,t4]at q;cases q;exact n ts t5];exact q⟩,fun b o q=>by
      by_cases z:b=T
      · rw[z];exact⟨_,Heap.get?_update_self _ t4 (Obj.isFreed_of_fields (Obj.data_mapFields t5 _))⟩
      · exact⟨o,(G6 _ _ z).trans q⟩⟩
    refine wpAny_bind (wpAny_setField t4 t5 h3 ?_);refine zrn (fl:=some .none) fr ((up _).mj ff) hf ⟨fun b o q=>?_,new,oe,vs,by rw[G6 _ _ (b9 t3)];exact FY,Ny,Nz,De,Kv,T,_,_,t1,t2,t3,Heap.get?_update_self _ t4 (Obj.isFreed_of_fields (Obj.data_mapFields t5 _)),Obj.data_mapFields t5 _,by simp[h3]⟩ fun h' a b=>h h' a ((up _).trans b);rw[G6 _ _ fun z=>by rw[z,t2]at q;cases q];exact iS b o q
theorem zro{fl:Option Value}{Q:Unit->Shared->Prop}(fr:A.frames=some (env::outer))(ff:s.heap.FunFrames B (env::outer))(hf:env.frame=some L)(x:Bu B e cls dct fl s.heap)(JU:fl=none\/fl=some .none)(h:∀h',Bu B e cls dct (some .none) h'->Bt s.heap h'->Q () {s with heap:=h'}):wpAny M A (leaving env (.ref e)) Q E s:=by
  unfold leaving;exact wpAny_bind (zun fr ff hf x JU fun h1 x1 u1=>VT (s:={s with heap:=h1}) x1 fun h2 x2 u2=>h h2 x2 (u1.trans u2))
end
abbrev qy:List Value:=[.type "ValueError",.type "Exception",.type "BaseException",.type "object"]
structure XC(K:aa)(C:Addr):Prop where
 hd:gH K C=true
 ga:aF K (.ref C) "__getattribute__"=some (some (.builtin "BaseException.__getattribute__"))
 gn:aF K (.ref C) "__getattr__"=some none
 sa:aF K (.ref C) "__setattr__"=some (some (.builtin "object.__setattr__"))
 cl:aF K (.ref C) "__class__"=some (some (.builtin "object.__class__"))
 kg:iX K (.builtin "object.__class__") "__get__"=some (some (.builtin "getset_descriptor.__get__"))
 kt:uA K (.builtin "object.__class__")=some true
 be:jw K C (.type "BaseException")=some true
 ob:jw K C (.type "object")=some true
 ex:∃nm q N bs bm k6 sn sub ab uC dd k0 k1 k2 k3 k5,K.lookup C=some (excClassObj nm q C N bs bm k6 sn sub ab uC dd k0 k1 k2 k3 k5 "ValueError.__new__")/\gg K qy bm=true
theorem XC.plain{K:aa}{C:Addr}(q:bS K C qy "ValueError.__new__"=true):
    ∃nm q N bs bm k6 sn sub ab uC dd k0 k1 k2 k3 k5,K.lookup C=some (excClassObj nm q C N bs bm k6 sn sub ab uC dd k0 k1 k2 k3 k5 "ValueError.__new__")/\gg K qy bm=true/\PySem.W.nsOkIn K N=true/\mK K N "__init__"=some none:=by
  unfold bS at q;split at q
  · rename_i dd cd sl ho
    split at q
    · rename_i C' bm k0 k1 k2 k3 n k5 hm hs
      simp only[bY,beq_iff_eq,tZ]at q;obtain⟨⟨⟨⟨⟨rfl,rfl⟩,d1⟩,ht⟩,eB⟩,WY⟩:=q;obtain⟨nm,bs,mro,ns,qn,hd,sn,sub,ab,uC,del⟩:=cd;dsimp only at hm d1 eB WY;subst hm d1;obtain⟨l⟩:=sl;simp only at hs;subst hs;exact⟨nm,qn,ns,bs,bm,hd,sn,sub,ab,uC,dd,k0,k1,k2,k3,k5,ho,ht,eB,WY⟩
    · cases q
  · cases q
theorem zwt{K:aa}{W:Addr}(q:bS K W qy "ValueError.__new__"=true):gg K qy (.ref W::qy)=true:=by obtain⟨nm,q,N,bs,bm,k6,sn,sub,ab,uC,dd,k0,k1,k2,k3,k5,l,_,h1,h2⟩:=XC.plain q;unfold gg;simp only[l,h1,h2];rfl
section
variable{prog:Program}{w:World}{A:Around}{E:Value->Shared->Prop}{s:Shared}{K:aa}{x C:Addr}{ox:Obj}{od:Option Obj}
theorem Y7(self:Value):∀{l:List Value},gg K qy l=true->refuseLoop self "__setattr__" l=pure ()
 |[],e=>by cases e
 |v::r,e=>by
  unfold gg at e;rcases Bool.or_eq_true_iff.mp e with q|q
  ·rw[beq_iff_eq.mp q];exact PySem.F.store_ValueError.passes self
  ·split at q
   ·split at q
    ·simp only[bY]at q;rw[refuseLoop_ref];exact Y7 self q.2
    ·cases q
   ·cases q
open PySem.W Builtin.ObjectAttr in
theorem OA{name:Str}{tk:Tok}{v:Value}{R:Result->Shared->Prop}(X:K.In s.heap)(c:XC K C)(I:ou s.heap x ox C od)(ht:takerIn K C name=some none)(h:∀b,wpAny (model prog w) A.in1 (storeInOwnDict (.ref x) (.ref C) (.str name tk) name v b) (fun fin s'=>match fin with| .done f=>R (.ok f) s' | .again c'=>c'.quiet=true/\codeAny (model prog w) A c' R s') (fun e s'=>R (.error e) s') s):
    codeAny (model prog w) A (.call (.builtin "object.__setattr__") ⟨[.ref x,.str name tk,v],[]⟩) R s:=by
  have SF:=PySem.F.store_object;obtain⟨nm,q,N,bs,bm,k6,sn,sub,ab,uC,dd,k0,k1,k2,k3,k5,lk,tl⟩:=c.ex;obtain⟨cd,hc,em⟩:∃cd,clsIn K C=some cd/\cd.mro= .ref C::bm:=by unfold clsIn;rw[lk];exact⟨_,rfl,rfl⟩
  have isi:Looks (model prog w) s.heap (isInstance (.ref x) (.type "object")) true:=I.type.andThen (looks_mroIn X c.ob);refine codeAny_call_builtin SF.slot.plain SF.entry (@check_slot (model prog w) _ _ s "object.__setattr__" "object" "__setattr__" (.ref x) [.str name tk,v] [] _ SF.kind SF.split isi (SF.args (.ref x) (.str name tk) v) ?_);obtain⟨Mt,ha,hr⟩:=Option.bind_eq_some_iff.mp ht;have L3:Looks (model prog w) s.heap (storeTaker? Mt) none:=by
    cases Mt with
    |none=>exact .now
    |some a=>
      obtain⟨b,hb,e⟩:=Ah.mp hr;refine(looks_takesIn X hb).andThen ?_;cases b with
      |true=>cases e
      |false=>exact .now
  have hm:Looks (model prog w) s.heap (mroOf (.ref C)) cd.mro:=(looks_clsIn X hc).andThen .now;rw[osa_eq,refuse_eq];refine wpAny_bind (wpAny_bind (I.type.here (wpAny_bind (hm.here ?_))));rw[em,refuseLoop_ref,Y7 _ tl];refine wpAny_pure (wpAny_bind (I.type.here (wpAny_bind ((looks_findIn X ha).here (wpAny_bind (L3.here (h _)))))))
open PySem.W Builtin.ObjectAttr in
theorem OB{name:Str}{v:Value}{vs:Array Value}{mA:Str->Option Value}{ns:List Str}{Q:Unit->Shared->Prop}(X:K.In s.heap)(c:XC K C)(hx:s.heap.get? x=some ox)(vU:ox.cls= .ref C)(hf:ox.data= .fields vs)(ht:takerIn K C name=some none)(hd:(ox.dict=none/\∀y,mA y=none)\/∃d,ox.dict=some d/\d≠x/\s.heap.Ns1 d mA)(hw:Within mA ns)(hsz:ns.length<=1000)(h:∀h' d,h'.Ns1 d (fun y=>if y=name then some v else mA y)->h'.get? x=some {ox with dict:=some d}->d≠x->(ox.dict=none->s.heap.objs.size<=d)->(∀d0,ox.dict=some d0->d=d0)->
      (∀b o,b≠x->b≠d->s.heap.get? b=some o->h'.get? b=some o)->∀tk,Q () {s with heap:=h',toks:=tk}):
    wpAny (model prog w) A (setAttr (.ref x) name v) Q E s:=by
  have nc:notCls ox=true:=by unfold notCls;rw[hf]
  obtain⟨cd,hc,pT⟩:=any_some c.hd;have szl:(1001:Nat)<=sizeLine:=by rw[sizeLine_eq];decide
  obtain⟨wP,g0,Lr,Jb,LK⟩:=s;rcases hd with⟨JT,hmA⟩ |⟨d,JT,zh,MY⟩
  · have I:ou wP x ox C none:=⟨hx,vU,nc,by rw[JT];trivial⟩;refine set_plain X I c.sa (OA (s:=⟨wP,g0,Lr,Jb+1,LK⟩) X c I ht fun b=>?_);obtain⟨oc,odi,Xm,rJ⟩:=ox;dsimp only at vU JT hf;subst vU JT hf;have SQ:x≠wP.objs.size:=aZ (Heap.lt_size hx);refine wpAny_bind (wpAny_pure (wpAny_bind (wpAny_bind (wpAny_loadPart hx (wpAny_bind (Looks.here (s:=⟨wP,g0,Lr,Jb+1,LK⟩) (looks_clsIn X hc) ?_))))));rw[pT];have wQ:(wP.push {cls:=.type "dict",data:=.dict #[]}).get? x=some ⟨.ref C,none,.fields vs,rJ⟩:=Heap.get?_push_of_some _ hx;refine wpAny_bind (wpAny_alloc' (wpAny_bind (wpAny_update' wQ (wpAny_pure ?_))));generalize Sh:(wP.push {cls:=.type "dict",data:=.dict #[]}).update x (fun o=>{o with dict:=some wP.objs.size})=h2;have gx:h2.get? x=some ⟨.ref C,some wP.objs.size,.fields vs,rJ⟩:=by rw[<-Sh];exact Heap.get?_update_self _ wQ rfl
    have gd:h2.get? wP.objs.size=some {cls:=.type "dict",data:=.dict #[]}:=by rw[<-Sh,Heap.get?_update_ne _ _ _ _ SQ.symm];exact Heap.get?_push_at rfl rfl
    have gk:∀b o,b≠x->wP.get? b=some o->h2.get? b=some o:=fun b o z q=>by rw[<-Sh,Heap.get?_update_ne _ _ _ _ z];exact Heap.get?_push_of_some _ q
    have nd:h2.Ns wP.objs.size (fun _=>none):=⟨_,#[],_,gd,rfl,fun e he=>absurd he (by simp),fun _=>rfl⟩;show wpAny _ _ (storeInDict wP.objs.size (.str name Jb) name v) _ _ _;unfold storeInDict newKeyGuard;refine wpAny_bind (wpAny_pure (wpAny_bind (wpAny_nsSet1 (s:=⟨h2,g0,Lr,Jb+1,LK⟩) (Heap.Ns1.of_empty nd) fun h' AR hs=>?_)));obtain⟨oD,Wv,Wu,MZ,MR,MP⟩:=AR.count (Within.cons name v Within.nil);refine wpAny_bind (wpAny_lookBehind MZ (by rw[MR];exact pastItsLine_dict (bL MP (by rw[bw,bG];omega))) (wpAny_pure ?_));refine h h' wP.objs.size ?_ ((hs.2 x SQ).trans gx) SQ.symm (fun _=>az _) (fun d0 z=>by cases z) (fun b o z1 z2 q=>(hs.2 b z2).trans (gk b o z1 q)) _;obtain⟨o',es,ep,e1,e2,e3,eu,e4⟩:=AR;exact⟨o',es,ep,e1,e2,e3,eu,fun y=>by rw[e4 y];by_cases hy:y=name <;> simp[hy,hmA]⟩
  · obtain⟨o0,es0,ep0,ho0,_⟩:=id MY;have I:ou wP x ox C (some o0):=⟨hx,vU,nc,by rw[JT];exact ho0⟩;refine set_plain X I c.sa (OA (s:=⟨wP,g0,Lr,Jb+1,LK⟩) X c I ht fun b=>?_);obtain⟨oc,odi,Xm,rJ⟩:=ox;dsimp only at vU JT hf;subst vU JT hf;refine wpAny_bind (wpAny_pure (wpAny_bind (wpAny_bind (wpAny_loadPart hx (wpAny_bind (Looks.here (s:=⟨wP,g0,Lr,Jb+1,LK⟩) (looks_clsIn X hc) ?_))))));rw[pT];refine wpAny_pure (a:=some d) ?_;show wpAny _ _ (storeInDict d (.str name Jb) name v) _ _ _;unfold storeInDict newKeyGuard;refine wpAny_bind (wpAny_pure (wpAny_bind (wpAny_nsSet1 (s:=⟨wP,g0,Lr,Jb+1,LK⟩) MY fun h' AR hs=>?_)));obtain⟨oD,Wv,Wu,MZ,MR,MP⟩:=AR.count (Within.cons name v hw);refine wpAny_bind (wpAny_lookBehind MZ (by rw[MR];exact pastItsLine_dict (bL MP (by rw[bw];omega))) (wpAny_pure ?_));exact h h' d AR ((hs.2 x zh.symm).trans hx) zh (fun z=>by cases z) (fun d0 z=>by cases z;rfl) (fun b o z1 z2 q=>(hs.2 b z2).trans q) _
theorem U4{us:List Value}{Q:Value->Shared->Prop}(X:K.In s.heap)(q:bS K C qy "ValueError.__new__"=true)(hl:us.length<=sizeLine)(h:∀h' e,Heap.MadeExcOf s.heap h' e (.ref C) us->Q (.ref e) {s with heap:=h'}):wpAny (model prog w) A (call (.ref C) us) Q E s:=by
  obtain⟨nm,qn,N,bs,bm,k6,sn,sub,ab,uC,dd,k0,k1,k2,k3,k5,lk,tl,nk,ni⟩:=XC.plain q;obtain⟨hp,g,d,t,os⟩:=s;exact wpAny_call_exc_subU eM rfl eM (kE X tl) (X _ _ lk) (.of_isNs (PySem.W.isNs_of_in X nk)) (PySem.W.nsMap_none_of_in X nk ni) (fun h' e m=>h h' e m) hl
theorem U5{hp:Heap}{g:Array GenState}{d:Drawn}{t:Nat}{os:OsState}{us:List Value}{fI:Addr}{Q:Fin->Shared->Prop}(X:K.In hp)(c:XC K C)(hi:aF K (.ref C) "__init__"=some (some (.ref fI)))(hf:iY K (.ref fI)=some (.type "function"))(hl:us.length<=sizeLine)(h:∀h' e,Heap.MadeExcOf hp h' e (.ref C) us->h'.objs.size=hp.objs.size+2->e=hp.objs.size+1->wpAny (model prog w) A (call (.ref fI) (.ref e::us)) (fun r s'=>r= .none/\Q (.done (.ret (.ref e))) s') E ⟨h',g,d,t,os⟩):
    wpAny (model prog w) A (Builtin.«type.__call__» ⟨.ref C::us,[]⟩) Q E ⟨hp,g,d,t,os⟩:=by
  obtain⟨nm,qn,N,bs,bm,k6,sn,sub,ab,uC,dd,k0,k1,k2,k3,k5,lk,tl⟩:=c.ex;have cl:=X _ _ lk;have TT:=kE X tl
  repeat (first|with_reducible refine wpAny_madeBy_exc cl ?_|with_reducible refine wpAny_loadPart_at cl ?_|wp_step)
  refine codeAny_call_builtin_code (Code.quiet_builtin _ eM.quiet) (wpAny_check_new_subU eM rfl TT cl ?_);refine codeAny_exc_new_subU eM rfl eM TT cl ?_ hl;show wpAny _ _ _ _ _ _;have kp:∀b o,hp.get? b=some o->((hp.push {cls:=.type "tuple",data:=.seq us.toArray}).push {cls:=.ref C,data:=.fields #[.ref hp.objs.size,.none,.none,.none,.bool false,.none]}).get? b=some o:=fun b o e=>Heap.get?_push_of_some _ (Heap.get?_push_of_some _ e);have ge:((hp.push {cls:=.type "tuple",data:=.seq us.toArray}).push {cls:=.ref C,data:=.fields #[.ref hp.objs.size,.none,.none,.none,.bool false,.none]}).get? (hp.objs.size+1)=some {cls:=.ref C,data:=.fields #[.ref hp.objs.size,.none,.none,.none,.bool false,.none]}:=by heap_get
  have gt:((hp.push {cls:=.type "tuple",data:=.seq us.toArray}).push {cls:=.ref C,data:=.fields #[.ref hp.objs.size,.none,.none,.none,.bool false,.none]}).get? hp.objs.size=some {cls:=.type "tuple",data:=.seq us.toArray}:=Heap.get?_push_of_some _ (Heap.get?_push_at rfl rfl);have sz:((hp.push {cls:=.type "tuple",data:=.seq us.toArray}).push {cls:=.ref C,data:=.fields #[.ref hp.objs.size,.none,.none,.none,.bool false,.none]}).objs.size=hp.objs.size+2:=by simp
  generalize(hp.push {cls:=.type "tuple",data:=.seq us.toArray}).push {cls:=.ref C,data:=.fields #[.ref hp.objs.size,.none,.none,.none,.bool false,.none]}=h1 at kp ge gt sz⊢;have cl1:=kp _ _ cl;have hcC:(Value.ref C::bm).contains (.ref C)=true:=by simp
  have X1:K.In h1:=X.keeps kp;have LI:=AG (M:=model prog w) X1 hi;have LB:=Fq (M:=model prog w) X1 (.ref (hp.objs.size+1)) hf;unfold isInstance
  repeat (first|(with_reducible refine wpAny_isSubtype_exc cl1 ?_;rw[hcC]) |with_reducible refine wpAny_loadPart_at ge ?_|wp_step)
  show wpAny _ _ (typeLookup (.ref C) _) _ _ _;refine LI.at (wpAny_holding (wpAny_bind (LB.at ?_)));refine wpAny_bind (wpAny_mono (h h1 (hp.objs.size+1) ⟨kp,Heap.get?_none_of_le (gC _),hp.objs.size,ge,Heap.get?_none_of_le (az _),gt⟩ sz rfl) (fun r s' z=>?_) fun _ _ z=>z);obtain⟨rfl,z⟩:=z
  wp_walk
  exact z
theorem U6{us:List Value}{fI:Addr}{Q:Value->Shared->Prop}(X:K.In s.heap)(c:XC K C)(hi:aF K (.ref C) "__init__"=some (some (.ref fI)))(hf:iY K (.ref fI)=some (.type "function"))(hl:us.length<=sizeLine)(h:∀h' e,Heap.MadeExcOf s.heap h' e (.ref C) us->h'.objs.size=s.heap.objs.size+2->e=s.heap.objs.size+1->wpAny (model prog w) (A.under (.builtin "type.__call__" ⟨.ref C::us,[]⟩)) (call (.ref fI) (.ref e::us)) (fun r s'=>r= .none/\Q (.ref e) s') E {s with heap:=h'}):
    wpAny (model prog w) A (call (.ref C) us) Q E s:=by
  obtain⟨nm,qn,N,bs,bm,k6,sn,sub,ab,uC,dd,k0,k1,k2,k3,k5,lk,tl⟩:=c.ex;obtain⟨hp,g,d,t,os⟩:=s;have cl:=X _ _ lk;have f1:=tc_lookup;have f2:=tc_bind (.ref C);have tyC:(⟨hp,g,d,t,os⟩:Shared).TypeIs (.ref C) "type":=⟨_,cl,rfl⟩;refine wpAny_call (codeAny_of_tree ?_);show wpAny _ _ (callAny (.ref C) _) _ _ _
  repeat (any_goals (first|assumption|with_reducible refine wpAny_loadPart_at cl ?_|wp_step))
  refine⟨rfl,?_⟩;exact codeAny_call_builtin_at (Code.quiet_builtin _ (by decide+kernel)) entry_typeCall (wpAny_check_type_call_sub cl (U5 X c hi hf hl fun h' e m z1 z2=>h h' e m z1 z2))
theorem U7{env:Env}{y:Sem Value}{Q:Flow->Shared->Prop}(hh:A.handled=none)(h:wpAny (model prog w) A y (fun v s1=>∃C e oe vs,XC K C/\v= .ref e/\K.In s1.heap/\s1.heap.get? e=some oe/\oe.cls= .ref C/\oe.data= .fields vs/\vs[1]?=some Value.none/\E (.ref e) s1) E s):
    wpAny (model prog w) A (raiseStmt env (some y) none) Q E s:=by
  unfold raiseStmt;refine wpAny_bind (wpAny_mono h (fun v s1 z=>?_) fun _ _ z=>z);obtain⟨C,e,oe,vs,c,rfl,X,e1,e2,e3,e4,fin⟩:=z;obtain⟨nm,qn,N,bs,bm,k6,sn,sub,ab,uC,dd,k0,k1,k2,k3,k5,lk,tl⟩:=c.ex;obtain⟨hp,g,d,t,os⟩:=s1;have cl:=X _ _ lk;have R1:(Value.ref C::bm).contains (.type "BaseException")=true:=by rw[Fl,(kE X tl).hasType (show qy.contains (.type "BaseException")=true from rfl),Bool.or_true]
  obtain⟨oc,od,Xm,rJ⟩:=oe;dsimp only at e2 e3;subst e2 e3;have fl:∀{α:Type}{QQ:Value->Shared->Prop},QQ .none ⟨hp,g,d,t,os⟩->wpAny (model prog w) A (field (.ref e) 1) QQ E ⟨hp,g,d,t,os⟩:=fun{_ _} z=>wpAny_field e1 rfl e4 z
  repeat (first|(with_reducible refine wpAny_isSubtype_exc cl ?_;rw[R1]) |with_reducible refine wpAny_loadPart_at e1 ?_|with_reducible refine wpAny_loadPart_at cl ?_|with_reducible refine wpAny_field e1 rfl e4 ?_|wp_step)
  exact wpAny_raiseNew_none hh fin
end
def Rp(e C:Addr)(dct:Option Addr)(fr:Bool)(h:Heap):Prop:=∃oe vs,h.get? e=some oe/\oe.cls= .ref C/\oe.dict=dct/\oe.data= .fields vs/\1<vs.size/\(fr=true->vs[1]?=some Value.none)
def gv(e C:Addr)(dct:Option Addr)(fr:Bool):HO:=.ext (Rp e C dct fr)
def Ro(d:Addr)(fs:List (Str×V))(h:Heap):Prop:=∃mA,h.Ns1 d mA/\∀f,kU (fs.lookup f) (mA f)
def Ds(d:Addr)(fs:List (Str×V)):HO:=.ext (Ro d fs)
section
variable{P:Program}{w:World}{H:Hp}{h:Heap}
theorem OQ{e C:Addr}{dct:Option Addr}{fr:Bool}(x:Rp e C dct fr h):fT P w H h e (gv e C dct fr):=by
 refine⟨x,?_,fun h1 h2 y k=>?_⟩
 ·obtain⟨oe,vs,e1,_⟩:=x;exact⟨oe,e1⟩
 ·obtain⟨oe,vs,e1,r⟩:=y;exact⟨oe,vs,k _ e1,r⟩
theorem zyj{d:Addr}{fs:List (Str×V)}(x:Ro d fs h):fT P w H h d (Ds d fs):=by
 refine⟨x,?_,fun h1 h2 y k=>?_⟩
 ·obtain⟨mA,⟨o,es,ep,e1,_⟩,_⟩:=x;exact⟨o,e1⟩
 ·obtain⟨mA,⟨o,es,ep,e1,r⟩,q⟩:=y;exact⟨mA,⟨o,es,ep,k _ e1,r⟩,q⟩
theorem fT.there{a:Addr}{o:HO}(x:fT P w H h a o):∃ob,h.get? a=some ob:=by
 cases o with
 |lst xs=>obtain⟨_,_,_,_,e⟩:=x;exact⟨_,e⟩
 |tup xs=>obtain⟨_,_,_,_,e,_⟩:=x;exact⟨_,e⟩
 |dK kvs=>obtain⟨_,_,_,_,o,_,_,e,_⟩:=x;exact⟨_,e⟩
 |dT kvs=>obtain⟨_,_,_,_,o,_,_,e,_⟩:=x;exact⟨_,e⟩
 |set S n=>obtain⟨o,_,_,_,e,_⟩:=x;exact⟨_,e⟩
 |ins C dx fs=>obtain⟨_,_,_,e,_⟩:=x;exact⟨_,e⟩
 |own y=>exact x
 |xd fs=>obtain⟨_,⟨_,_,_,e,_⟩,_⟩:=x;exact⟨_,e⟩
 |Qe lo hi=>obtain⟨_,_,_,e⟩:=x;exact⟨_,e⟩
 |jx ob u=>obtain⟨e,_⟩:=x;exact⟨_,e⟩
 |Ja ps=>exact⟨_,show h.get? a=some _ from x⟩
 |met f y=>exact⟨_,show h.get? a=some _ from x⟩
 |ext φ=>exact x.2.1
theorem kL.exc(x:kL P w H h){e C:Addr}{dct:Option Addr}{fr:Bool}(q:H e=some (gv e C dct fr)):Rp e C dct fr h:=(show fT P w H h e (gv e C dct fr)from x e _ q).1
theorem kL.xd(x:kL P w H h){d:Addr}{fs:List (Str×V)}(q:H d=some (Ds d fs)):Ro d fs h:=(show fT P w H h d (Ds d fs)from x d _ q).1
end
structure QZ(P:Program)(w:World)(B:Heap)(l:List Env)(e C:Addr)(dct:Option Addr)(H:Hp)(h:Heap):Prop where
 at_:∃fl,(fl=none\/fl=some Value.none)/\Bu B e (.ref C) dct fl h
 ff:h.FunFrames B l
 eB:kL P w H h
 he:H e=some (gv e C dct false)
 Gv:∀a o,H a=some o->a≠e->∃ob,B.get? a=some ob
def fJ(P:Program)(w:World):tw:=fun outer H s E e s'=>∃B ea C dct H',e= .ref ea/\s'.os=s.os/\AllBare s'.gens/\QZ P w B outer ea C dct H' s'.heap/\Un (uc outer) [] H H' s.heap s'.heap/\
 (∀b o,s.heap.get? b=some o->H b=none->b∉uc outer->B.get? b=some o)/\E (.ref ea) dct H'
theorem zrp{P:Program}{w:World}{B:Heap}{e C:Addr}{dct:Option Addr}{fl:Option Value}{H:Hp}{h h':Heap}(x:kL P w H h)(he:H e=some (gv e C dct false))(Gv:∀a o,H a=some o->a≠e->∃ob,B.get? a=some ob)(st:B.StaysIn h)(y:Bu B e (.ref C) dct fl h'):kL P w H h':=fun a o q=>by
  by_cases z:a=e
  · subst z;rw[he]at q;cases q
    obtain⟨oe,vs,e1,e2,e3,e4,e5,_⟩:=y.ex;exact OQ ⟨oe,vs,e1,e2,e3,e4,e5,fun z=>by cases z⟩
  · refine(x a o q).iS (fun b u hb g=>?_) (fun _ q=>q) fun _ _ q=>q;have GI:∃o',H b=some o'/\b≠e:=by
      rcases hb with rfl|hb
      · exact⟨_,q,z⟩
      · refine⟨_,hb,fun y=>?_⟩;rw[y,he]at hb;cases hb
    obtain⟨o',h1,h2⟩:=GI;obtain⟨ob,h3⟩:=Gv b o' h1 h2;have h4:=st b ob h3;rw[g]at h4;cases h4
    exact y.iS b _ h3
section
variable{X:Cx}{ah:List (Addr×Obj)}{σ:St}{H H':Hp}{s:Shared}{h':Heap}
theorem Inv.out(I:Inv X ah σ H s)(hex:X.ex=[])(u:Un (uc X.stack) [] H H' s.heap h'):Un X.fs [] X.H₀ H' X.s₀.heap h':=by
 have nl:∀b o,X.s₀.heap.get? b=some o->b≠X.env.locals:=fun b o q z=>absurd (aM (Heap.lt_size q) (by rw[z];exact I.ok.above)) (gf _);have nx:∀b:Addr,b∉X.ex:=fun b=>by rw[hex];simp
 have ns:∀b o,X.s₀.heap.get? b=some o->b∉X.fs->b∉uc X.stack:=fun b o q n z=>by
  rcases ak.mp (I.sC b z)with y|y
  ·exact nl b o q y
  ·exact n y
 refine⟨fun b o q n hb _=>u.keep b o (I.base.keep b o q n hb (nx b)) (I.base.free b o q n (nx b)) (ns b o q hb) (by simp),fun b o q n hb _=>?_,fun b o q n _=>?_,fun b o q _=>?_,fun b xs q=>u.rA b xs (I.base.rA b xs q),fun b o v q=>u.mO b o v (I.base.mO b o v q),fun b ps q=>?_⟩
 ·obtain⟨sl,e⟩:=I.base.slot b o q n hb (nx b);have fr:=I.base.free b o q n (nx b);by_cases hs:b∈uc X.stack
  ·obtain⟨TU,e2⟩:=u.slot b _ e fr hs (by simp);exact⟨TU,e2⟩
  ·exact⟨sl,u.keep b _ e fr hs (by simp)⟩
 ·obtain⟨o1,e⟩:=I.base.there b o q (nx b);exact u.free b o1 e (I.base.free b o q n (nx b)) (by simp)
 ·obtain⟨o1,e⟩:=I.base.there b o q (nx b);exact u.there b o1 e (by simp)
 ·obtain⟨m1,e1⟩:=I.base.rj b ps q;obtain⟨m2,e2⟩:=u.rj b _ e1;exact⟨m1++m2,by rw[e2,DT]⟩
def Lp(X:Cx)(e:Addr)(h:Heap):Heap:=Fv h (e::uc X.stack)
theorem Inv.MB(I:Inv X ah σ H s){e C:Addr}{dct:Option Addr}(he:H e=some (gv e C dct true)):
    Bu (Lp X e s.heap) e (.ref C) dct none s.heap/\s.heap.FunFrames (Lp X e s.heap) X.stack/\(∀b o,s.heap.get? b=some o->b≠e->b∉uc X.stack->(Lp X e s.heap).get? b=some o):=by
  obtain⟨oe,vs,e1,e2,e3,e4,e5,e6⟩:=I.eB.exc he;refine⟨⟨fun b o q=>CH _ q,AF _ (.head _),oe,vs,e1,e2,e3,e4,e5,e6 rfl⟩,PySem.W.funFrames_hide I.stack fun env hm a ha=>.tail _ (fN.mpr ⟨env,hm,ha⟩),fun b o q n1 n2=>Bs _ q fun z=>?_⟩;rcases ak.mp z with y|y
  · exact n1 y
  · exact n2 y
theorem Inv.MC(I:Inv X ah σ H s){e C:Addr}{dct:Option Addr}{fl:Option Value}(he:H e=some (gv e C dct true))(x:Bu (Lp X e s.heap) e (.ref C) dct fl h')(u:Bt s.heap h'):
    Un (uc X.stack) [] H (upd H e (gv e C dct false)) s.heap h'/\kL X.prog X.w (upd H e (gv e C dct false)) h'/\∀a o,upd H e (gv e C dct false) a=some o->a≠e->∃ob,(Lp X e s.heap).get? a=some ob:=by
  obtain⟨x0,ff,big⟩:=I.MB he;have Gv:∀a o,upd H e (gv e C dct false) a=some o->a≠e->∃ob,(Lp X e s.heap).get? a=some ob:=fun a o q n=>by rw[bM n]at q;obtain⟨ob,g⟩:=(I.eB a o q).there;exact⟨ob,big a ob g n fun z=>by rw[I.yh a z]at q;cases q⟩
  have ne:∀b,H b=none->b≠e:=fun b n z=>by rw[z,he]at n;cases n
  refine⟨⟨fun b o q n hb _=>x.iS b o (big b o q (ne b n) hb),fun b o q n hb _=>?_,fun b o q n _=>by rw[bM (ne b n)];exact n,fun b o q _=>u.th b o q,fun b xs q=>?_,fun b o v q=>?_,fun b ps q=>⟨#[],?_⟩⟩,?_,Gv⟩
  · obtain⟨_,o1,g,nf⟩:=ff.mem (show b∈X.stack.filterMap (·.frame)from hb);rw[q]at g;cases g
    exact u.sl b o q nf
  · rw[bM fun z=>by rw[z,he]at q;cases q];exact q
  · rw[bM fun z=>by rw[z,he]at q;cases q];exact q
  · rw[bM fun z=>by rw[z,he]at q;cases q];simpa using q
  · have h0:kL X.prog X.w (upd H e (gv e C dct false)) s.heap:=fun a o q=>by
      by_cases z:a=e
      · subst z;rw[bX]at q;cases q
        obtain⟨oe,vs,e1,e2,e3,e4,e5,_⟩:=I.eB.exc he;exact OQ ⟨oe,vs,e1,e2,e3,e4,e5,fun z=>by cases z⟩
      · rw[bM z]at q;refine(I.eB a o q).iS (fun _ _ _ g=>g) (fun b g=>?_) fun b xs g=>?_
        · rw[bM fun z=>by rw[z,he]at g;cases g];exact g
        · rw[bM fun z=>by rw[z,he]at g;cases g];exact g
    exact zrp h0 bX Gv x0.iS x
end
abbrev XH:=Value->Option Addr->St->Hp->Prop
def DQ(CX:tw)(X:Cx)(Ek:XH):Prop:=∀(ah:List (Addr×Obj))(σ:St)(H:Hp)(s:Shared)(e:Value)(s':Shared),Inv X ah σ H s->CX X.stack H s (fun v d H'=>Ek v d σ H') e s'->X.xe e s'
def zuo(X:Cx)(Ek:XH):Prop:=∀(ah:List (Addr×Obj))(σ:St)(H:Hp)(s:Shared)(e C:Addr)(dct:Option Addr),Inv X ah σ H s->H e=some (gv e C dct true)->Ek (.ref e) dct σ (upd H e (gv e C dct false))->X.xe (.ref e) s
abbrev Wk:XH:=fun _ _ _ _=>False
theorem bj{P:Program}{w:World}{X:Cx}:DQ (fJ P w) X Wk:=fun _ _ _ _ _ _ _⟨_,_,_,_,_,_,_,_,_,_,_,h⟩=>h.elim
section
variable{X:Cx}{ah:List (Addr×Obj)}{σ:St}{H H':Hp}{s s':Shared}{B h':Heap}{e C:Addr}{dct:Option Addr}{fl:Option Value}
theorem zyk(F:QZ X.prog X.w B X.stack e C dct H' s'.heap)(un:Un (uc X.stack) [] H H' s.heap s'.heap)(cv:∀b o,s.heap.get? b=some o->H b=none->b∉uc X.stack->B.get? b=some o)(x:Bu B e (.ref C) dct fl h')(u:Bt s'.heap h'):Un (uc X.stack) [] H H' s.heap h'/\kL X.prog X.w H' h':=by
  obtain⟨Lw,_,x0⟩:=F.at_;refine⟨⟨fun b o q n hb _=>x.iS b o (cv b o q n hb),fun b o q n hb _=>?_,un.free,fun b o q hx=>?_,un.rA,un.mO,un.rj⟩,zrp F.eB F.he F.Gv x0.iS x⟩
  · obtain⟨sl,e1⟩:=un.slot b o q n hb (by simp);obtain⟨_,o1,g,nf⟩:=F.ff.mem (show b∈X.stack.filterMap (·.frame)from hb);rw[e1]at g;cases g
    obtain⟨TU,e2⟩:=u.sl b _ e1 nf;exact⟨TU,e2⟩
  · obtain⟨o1,e1⟩:=un.there b o q hx;exact u.th b o1 e1
theorem zup(I:Inv X ah σ H s)(F:QZ X.prog X.w B X.stack e C dct H' s'.heap)(LH:s'.os=s.os)(hb:AllBare s'.gens)(un:Un (uc X.stack) [] H H' s.heap s'.heap)(cv:∀b o,s.heap.get? b=some o->H b=none->b∉uc X.stack->B.get? b=some o)(x:Bu B e (.ref C) dct fl h')(u:Bt s'.heap h'):Inv X ah σ H' {s' with heap:=h'}:=by
  obtain⟨u2,ok⟩:=zyk F un cv x u;exact I.By (s':={s' with heap:=h'}) (ch:=[]) LH u2 ok hb (fun b z=>absurd z (by simp))
end
section
variable{P:Program}{w:World}{K:aa}{mg:Str->Option Value}{base:Heap}{N:List Str}{dP:Str}{sc:Scope}{f:Addr}{cd:Value}{A:Around}{outer:List Env}{s₀:Shared}{H₀:Hp}{E:XK}
theorem vt:zuo (nv (fJ P w) P w K mg base N dP sc f cd A outer s₀ H₀ E) (fun v d _ H=>E v d H):=by
 intro ah σ H s e C dct I he hE;obtain⟨x,ff,big⟩:=I.MB he;refine zro (outer:=outer) (L:=s₀.heap.objs.size) I.ok.frames ff rfl x (.inl rfl) fun h' x' u=>?_;obtain⟨un,ok,Gv⟩:=I.MC he x' u;refine⟨_,e,C,dct,_,rfl,I.os,I.bare,⟨⟨_,.inr rfl,x'⟩,(u.mj ff).2.2,ok,bX,Gv⟩,I.out rfl un,fun b o q n hb=>?_,hE⟩;have fr:=I.base.free b o q n (by show b∉([]:List Addr);simp);refine big b o (I.base.keep b o q n hb (by show b∉([]:List Addr);simp)) (fun z=>by rw[z,he]at fr;cases fr) fun z=>?_;rcases ak.mp (I.sC b z)with y|y
 ·exact absurd (aM (Heap.lt_size q) (by rw[y];exact I.ok.above)) (gf _)
 ·exact hb y
theorem eE:DQ (fJ P w) (nv (fJ P w) P w K mg base N dP sc f cd A outer s₀ H₀ E) (fun v d _ H=>E v d H):=by
 intro ah σ H s e s' I q;obtain⟨B,ea,C,dct,H',rfl,LH,hb,F,un,cv,hE⟩:=q;obtain⟨Lw,JU,x0⟩:=F.at_;refine zro (outer:=outer) (L:=s₀.heap.objs.size) I.ok.frames F.ff rfl x0 JU fun h' x' u=>?_;obtain⟨u2,ok⟩:=zyk (X:=nv (fJ P w) P w K mg base N dP sc f cd A outer s₀ H₀ E) F un cv x' u;refine⟨B,ea,C,dct,H',rfl,LH.trans I.os,hb,⟨⟨_,.inr rfl,x'⟩,(u.mj F.ff).2.2,ok,F.he,F.Gv⟩,I.out rfl u2,fun b o q n hb=>?_,hE⟩;refine cv b o (I.base.keep b o q n hb (by show b∉([]:List Addr);simp)) (I.base.free b o q n (by show b∉([]:List Addr);simp)) fun z=>?_;rcases ak.mp (I.sC b z)with y|y
 ·exact absurd (aM (Heap.lt_size q) (by rw[y];exact I.ok.above)) (gf _)
 ·exact hb y
end
def xm(P:Program)(w:World)(X:Cx)(ah:List (Addr×Obj))(Hk:XH):Cx:=
 {X with pn:=X.pn++ah,xe:=fun e s'=>∃σ H s,Inv X ah σ H s/\fJ P w X.stack H s (fun v d H'=>Hk v d σ H') e s'}
section
variable{P:Program}{w:World}{X:Cx}{ah BO:List (Addr×Obj)}{Hk:XH}{σ:St}{H:Hp}{s:Shared}
theorem vh(I:Inv (xm P w X ah Hk) BO σ H s):Inv X ah σ H s:=by have o:=I.ok;exact⟨⟨o.mod,o.kind,o.glob,o.blt,o.above,o.inj,o.has,o.HU,o.hd,o.frames,o.KU,o.GA,o.bs,o.DG,o.zF,o.xP,o.mj,o.FH⟩,I.os,I.bare,I.base,I.loc,I.cell,I.free,I.j3,fun p hp=>I.pin p (dY _ hp),I.eB,I.len⟩
theorem Nd(I:Inv X ah σ H s):Inv (xm P w X ah Hk) [] σ H s:=by have o:=I.ok;exact⟨⟨o.mod,o.kind,o.glob,o.blt,o.above,o.inj,o.has,o.HU,o.hd,o.frames,o.KU,o.GA,o.bs,o.DG,o.zF,o.xP,o.mj,o.FH⟩,I.os,I.bare,I.base,I.loc,I.cell,I.free,I.j3,fun p hp=>I.pin p (by simpa [xm]using hp),I.eB,I.len⟩
theorem NG:DQ (fJ P w) (xm P w X ah Hk) Hk:=fun _ σ H s _ _ I q=>⟨σ,H,s,vh I,q⟩
end
def zY(X:Cx)(e:Addr):Cx:={X with A:=X.A.mark (some (.ref e)),calm:=false,xe:=fun _ _=>False}
section
variable{X:Cx}{ah:List (Addr×Obj)}{σ:St}{H:Hp}{s:Shared}{e:Addr}
theorem Ii(I:Inv X ah σ H s):Inv (zY X e) ah σ H s:=by have o:=I.ok;exact⟨⟨o.mod,o.kind,o.glob,o.blt,o.above,o.inj,o.has,o.HU,(fun z=>by cases z),o.frames,o.KU,o.GA,o.bs,o.DG,o.zF,o.xP,o.mj,o.FH⟩,I.os,I.bare,I.base,I.loc,I.cell,I.free,I.j3,I.pin,I.eB,I.len⟩
theorem xn(o:X.Ok)(I:Inv (zY X e) ah σ H s):Inv X ah σ H s:=
 ⟨o,I.os,I.bare,I.base,I.loc,I.cell,I.free,I.j3,I.pin,I.eB,I.len⟩
end
def yj(sp:Sp)(Ek:XH)(t:TA):TE:=fun σ H Q=>t σ H fun vs H1=>sp vs H1 Q (fun v d H'=>Ek v d σ H')
section
variable{X:Cx}{CX:tw}{k:Nat}{x:Str}{ps:List Str}{sp:Sp}{Ek:XH}{p pos:Pos}{e:Expr}{es:List Expr}{t:TA}
theorem kB(D:sM X.prog X.w X.K X.mg X.base CX k x ps sp)(hr:gu k X.A)(hg:Gl X x)(hx:DQ CX X Ek)(ha:PA X (e::es) t)(zb:(x ==("__debug__":Str))=false:=by decide)(he:starEach (e::es) X.env=(false,eval e X.env)::starEach es X.env:=by rfl)(Ar:(backTo pos (starEach es X.env)).any (·.1)=false:=by rfl):
    PE X (.Call (.Name x p) (e::es) [] pos) (yj sp Ek t):=by
  obtain⟨f,fd,F,hb,hk,hm⟩:=D.ex;intro ah s σ H Q I h;refine wpAny_Call_Name_kw (Jh I hg hm ?_ zb);refine gm (h₀:=X.base) I.ok.mod.FP hk (eJ (ha pos ah s σ H _ I h) fun us s1⟨vs,H1,I1,r,q⟩=>⟨I1.rH,?_⟩) he Ar;have hl:(us++[]).length=ps.length:=by rw[aJ,<-r.length];exact F.len _ _ _ _ q
  have JS:=hb s1 us I1.rH hl;rw[aJ]at JS;refine wpAny_call (codeAny_mono (F.run X.A X.stack s1 H1 ⟨us,[]⟩ us vs Q _ hr I1.Gz JS r q) fun r s' hq=>?_);cases r with
  |error e=>exact hx ah σ H1 s1 e s' I1 hq
  |ok fl=>
    cases fl with
    |ret u=>exact I1.after hq
    |next=>exact bI hq
    |brk=>exact bI hq
    |cont=>exact bI hq
end
theorem rF.okN{P:Program}{w:World}{K:aa}{mg:Str->Option Value}{base:Heap}{CX:tw}{x:Str}{st:Stmt}{N ps:List Str}{k:Nat}{sp:Sp}(F:rF K mg x st ps)(S:aE N ps (d9 st))(len:∀vs H Q E,sp vs H Q E->vs.length=ps.length)(iK:∀(f:Addr)(dF:Value)(A:Around)(outer:List Env)(s:Shared)(H:Hp)(vs:List V)(Q:VK)(E:XK),gu k (A.deeper (envOfC x (d9 st) s.heap.objs.size f dF))->sp vs H Q E->
      ∃t,rQ (nv CX P w K mg base N x (d9 st) f dF A outer s H E).BL (o8 st) t/\t {nx:=fun _ H'=>Q .cy H',rt:=Q} (start N vs) H):sM P w K mg base CX (k+1) x ps sp:=by
  obtain⟨f,fd,F,b,m⟩:=F.ex;obtain⟨oc,od,kV,nT,pm,an,dF,ct,rJ,rfl,lk,pT⟩:=F.ex;exact⟨f,_,qC lk pT S len fun A outer s H vs Q E hr rT=>by obtain⟨t,h,q⟩:=iK f dF A outer s H vs Q E hr rT;exact⟨t,h.BL,q⟩,b,F.kp,m⟩
theorem rF.r9{P:Program}{w:World}{K:aa}{mg:Str->Option Value}{base:Heap}{x:Str}{st:Stmt}{N ps:List Str}{k:Nat}{sp:Sp}(F:rF K mg x st ps)(S:aE N ps (d9 st))(len:∀vs H Q E,sp vs H Q E->vs.length=ps.length)(iK:∀(f:Addr)(dF:Value)(A:Around)(outer:List Env)(s:Shared)(H:Hp)(vs:List V)(Q:VK)(E:XK),gu k (A.deeper (envOfC x (d9 st) s.heap.objs.size f dF))->sp vs H Q E->
      ∃t,rQ (nv (fJ P w) P w K mg base N x (d9 st) f dF A outer s H E) (o8 st) t/\t {nx:=fun _ H'=>Q .cy H',rt:=Q} (start N vs) H):sM P w K mg base (fJ P w) (k+1) x ps sp:=by
  obtain⟨f,fd,F,b,m⟩:=F.ex;obtain⟨oc,od,kV,nT,pm,an,dF,ct,rJ,rfl,lk,pT⟩:=F.ex;exact⟨f,_,qC lk pT S len fun A outer s H vs Q E hr rT=>iK f dF A outer s H vs Q E hr rT,b,F.kp,m⟩
theorem VU{P:Program}{w:World}{H:Hp}{h:Heap}{a:Addr}(x:kL P w H h)(e:h.get? a=none):H a=none:=by
 cases q:H a with
 |none=>rfl
 |some o=>
  obtain⟨ob,g⟩:=(x a o q).there;rw[e]at g;cases g
theorem Inv.Ik {X:Cx} {ah:List (Addr×Obj)} {σ:St} {H:Hp} {s:Shared} {h':Heap} {a:Addr} {o:HO} {t':Nat} (I:Inv X ah σ H s) (k:∀ b u,s.heap.get? b=some u->h'.get? b=some u) (hn:s.heap.get? a=none) (new:fT X.prog X.w (upd H a o) h' a o) :
    Inv X ah σ (upd H a o) { s with heap:=h',toks:=t' }:=by
  have fr:=VU I.eB hn
  refine I.un (t':=t') ⟨fun b ob q _ _ _=>k b ob q,fun b ob q _ _ _=>⟨ob.slots,k b ob q⟩,fun b ob q n _=>?_,fun b ob q _=>⟨ob,k b ob q⟩,fun b xs q=>?_,fun b ob v q=>?_,fun b ps q=>⟨#[],?_⟩⟩ fun b ob q=>?_
  · rw [bM fun z=>by rw [z,hn] at q; cases q]; exact n
  · rw [bM (i8 q fr)]; exact q
  · rw [bM (i8 q fr)]; exact q
  · rw [bM (i8 q fr)]; simpa using q
  · by_cases z:b=a
    · subst z
      rw [bX] at q
      cases q
      exact new
    · rw [bM z] at q
      exact (I.eB b ob q).iS (fun c u _ g=>k c u g) (fun c g=>by rw [bM (i8 g fr)]; exact g) fun c xs g=>by rw [bM (i8 g fr)]; exact g
def Hr(C:Addr)(t:TA):TE:=fun σ H Q=>t σ H fun vs H1=>vs.length<=1000/\∀e,H1 e=none->Q (.ref e) (upd H1 e (gv e C none true))
def yn(K:aa)(Ek:XH)(te:TE):TS:=fun _ σ H=>te σ H fun v H1=>∃e C dct,v= .ref e/\H1 e=some (gv e C dct true)/\XC K C/\Ek (.ref e) dct σ (upd H1 e (gv e C dct false))
section
variable{X:Cx}{C:Addr}{x:Str}{p pos:Pos}{e:Expr}{es:List Expr}{t:TA}
theorem vE(q:bS X.K C qy "ValueError.__new__"=true)(kp:aO X.K (.ref C)=true)(hg:Gl X x)(hm:X.mg x=some (.ref C))(ha:PA X (e::es) t)(zb:(x ==("__debug__":Str))=false:=by decide)(he:starEach (e::es) X.env=(false,eval e X.env)::starEach es X.env:=by rfl)(Ar:(backTo pos (starEach es X.env)).any (·.1)=false:=by rfl):
    PE X (.Call (.Name x p) (e::es) [] pos) (Hr C t):=by
  intro ah s σ H Q I h;refine wpAny_Call_Name_kw (Jh I hg hm ?_ zb);refine gm (h₀:=X.base) I.ok.mod.FP kp (eJ (ha pos ah s σ H _ I h) fun us s1⟨vs,H1,I1,r,hl,q1⟩=>⟨I1.rH,?_⟩) he Ar;refine U4 I1.rH q (by rw[ko,<-r.length];exact qJ hl) fun h' ea m=>?_;obtain⟨tt,g1,g2,g3⟩:=m.there;exact⟨.ref ea,_,I1.Ik (t':=s1.toks) m.keeps m.new (OQ ⟨_,_,g1,rfl,rfl,rfl,aM (by decide) (az 6),fun _=>rfl⟩),rfl,q1 ea (VU I1.eB m.new)⟩
theorem vp{Ek:XH}{te:TE}(K:aa)(hK:X.K=K)(hc:X.calm=true)(hx:zuo X Ek)(he:PE X e te):PS X (.Raise (some e) none pos) (yn K Ek te):=by
 subst hK;intro ah s σ H D I h;rw[arm_exec_Raise];refine wpAny_bind (wpAny_standAt ?_);show wpAny _ _ (raiseStmt X.env (some (do let v <-eval e X.env;standAt pos;pure v)) none) _ _ _;refine U7 (K:=X.K) (I.ok.hd hc) (wpAny_bind (eJ (he ah s σ H _ I h) fun u s1⟨v,H1,I1,r,ea,C,dct,hv,hh,c,q⟩=>wpAny_bind (wpAny_standAt (wpAny_pure ?_))));subst hv;cases(show u=Value.ref ea from r)
 obtain⟨oe,vs,e1,e2,e3,e4,e5,e6⟩:=I1.eB.exc hh;exact⟨C,ea,oe,vs,c,rfl,I1.rH,e1,e2,e4,e6 rfl,hx ah σ H1 s1 ea C dct I1 hh q⟩
end
section
variable{prog:Program}{w:World}{A:Around}{E:Value->Shared->Prop}{s:Shared}{K:aa}{e C C':Addr}
theorem U8{oe:Obj}{b:Bool}{Q:Bool->Shared->Prop}(X:K.In s.heap)(c:XC K C')(he:s.heap.get? e=some oe)(hc:oe.cls= .ref C)(hs:xJ K (.ref C) (.ref C')=some b)(h:Q b s):wpAny (model prog w) A (excMatches (.ref e) (.ref C')) Q E s:=by
 obtain⟨nm,qn,N,bs,bm,k6,sn,sub,ab,uC,dd,k0,k1,k2,k3,k5,lk,tl⟩:=c.ex;obtain⟨hp,g,d,t,os⟩:=s;have cl:=X _ _ lk;have R1:(Value.ref C'::bm).contains (.type "BaseException")=true:=by rw[Fl,(kE X tl).hasType (show qy.contains (.type "BaseException")=true from rfl),Bool.or_true]
 have LS:=PySem.W.looks_subIn (M:=model prog w) X hs;have f:=tc_notTuple;unfold excMatches
 repeat (first|(with_reducible refine wpAny_loadPart_at he ?_;rw[hc]) |with_reducible refine wpAny_loadPart_at cl ?_|(with_reducible refine wpAny_isSubtype_exc cl ?_;rw[R1]) |(with_reducible refine LS.at ?_) |wp_step)
 cases b with
 |true=>wp_walk;exact h
 |false=>wp_walk;exact h
end
def Eo(K:aa)(C':Addr)(th:Addr->TS)(D:Ends):XH:=fun v d σ H=>∃e C,v= .ref e/\H e=some (gv e C d false)/\xJ K (.ref C) (.ref C')=some true/\th e D σ H
def Ho(K:aa)(C':Addr)(tb:XH->TS)(th:TS):TS:=fun D σ H=>tb (Eo K C' (fun _=>th) D) D σ H
def Bg(K:aa)(C':Addr)(i:Nat)(tb:XH->TS)(th:TS):TS:=fun D σ H=>
 tb (Eo K C' (fun e D σ H=>th {nx:=fun σ H=>D.nx (σ.set i none) H,rt:=D.rt,bk:=fun σ H=>D.bk (σ.set i none) H,ct:=fun σ H=>D.ct (σ.set i none) H} (σ.set i (some (.ref e))) H) D) D σ H
section
variable{P:Program}{w:World}{X:Cx}{C':Addr}{x:Str}{np M0 pos:Pos}{body E8:List Stmt}{b0:Stmt}{tb:XH->TS}{th:TS}
theorem SP.vh{ah:List (Addr×Obj)}{Hk:XH}{D:Ends}{f:Flow}{s':Shared}(h:SP (xm P w X ah Hk) [] D f s'):SP X ah D f s':=by
 cases f with
 |next=>obtain⟨σ,H,I,q⟩:=h;exact⟨σ,H,L2.vh I,q⟩
 |brk=>obtain⟨σ,H,I,q⟩:=h;exact⟨σ,H,L2.vh I,q⟩
 |cont=>obtain⟨σ,H,I,q⟩:=h;exact⟨σ,H,L2.vh I,q⟩
 |ret u=>obtain⟨v,σ,H,I,r,q⟩:=h;exact⟨v,σ,H,L2.vh I,r,q⟩
theorem SP.xn{ah:List (Addr×Obj)}{e:Addr}{D:Ends}{f:Flow}{s':Shared}(o:X.Ok)(h:SP (zY X e) ah D f s'):SP X ah D f s':=by
 cases f with
 |next=>obtain⟨σ,H,I,q⟩:=h;exact⟨σ,H,L2.xn o I,q⟩
 |brk=>obtain⟨σ,H,I,q⟩:=h;exact⟨σ,H,L2.xn o I,q⟩
 |cont=>obtain⟨σ,H,I,q⟩:=h;exact⟨σ,H,L2.xn o I,q⟩
 |ret u=>obtain⟨v,σ,H,I,r,q⟩:=h;exact⟨v,σ,H,L2.xn o I,r,q⟩
theorem U9(hP:X.prog=P)(hw:X.w=w)(K:aa)(hK:X.K=K)(FL:X.stack=X.env::X.outer)(hf:X.env.frame=some X.env.locals)(c:XC K C')(hg:Gl X x)(hm:X.mg x=some (.ref C'))(hb:∀ah Hk,rQ (xm P w X ah Hk) body (tb Hk))(hs:∀e,rQ (zY X e) (b0::E8) th)(zb:(x ==("__debug__":Str))=false:=by decide):
    PS X (.Try body [.ExceptHandler (some (.Name x np)) none (b0::E8) M0] [] [] pos) (Ho K C' tb th):=by
  subst hP hw hK;intro ah s σ H D I h;refine wpAny_Try_except (wpAny_mono (hb ah _ [] s σ H D (Nd I) h) (fun f s1 z=>?_) fun ev s1 z=>?_)
  · have z:=SP.vh z;cases f with
    |next=>obtain⟨σ1,H1,I1,q⟩:=z;exact wpAny_execs_nil ⟨σ1,H1,I1,q⟩
    |brk=>exact z
    |cont=>exact z
    |ret u=>exact z
  · obtain⟨σ1,H1,s2,J,B,ea,C,dct,H',rfl,LH,RZ,F,un,cv,e2,C2,hv,he2,SK,q⟩:=z;cases hv
    have eC:C2=C/\True:=by
      obtain⟨oe,vs,g1,g2,_⟩:=F.eB.exc he2;obtain⟨oe',vs',WA,WB,_⟩:=F.eB.exc F.he;rw[g1]at WA;cases WA
      rw[g2]at WB;exact⟨Value.ref.inj WB,trivial⟩
    obtain⟨rfl,_⟩:=eC;obtain⟨Lw,JU,x0⟩:=F.at_;refine zun (outer:=X.outer) (by rw[<-FL];exact J.ok.frames) (by rw[<-FL];exact F.ff) hf x0 JU fun h1 x1 u1=>?_;refine VT (s:={s1 with heap:=h1}) x1 fun h2 x2 u2=>?_;have J2:=zup J F LH RZ un cv x2 (u1.trans u2);refine wpAny_handleBy_cons (codeAny_handlers_test (Jh (X:=zY X ea) (Ii J2) hg hm ?_ zb)) (by intro z;cases z);obtain⟨oe,vs,g1,g2,_⟩:=x2.ex;refine U8 J2.rH c g1 g2 SK (codeAny_handlers_suite ?_);refine VT (s:={s1 with heap:=h2}) x2 fun h3 x3 u3=>?_;have J3:=zup J F LH RZ un cv x3 ((u1.trans u2).trans u3);exact wpAny_mono (hs ea ah _ σ1 H' D (Ii J3) q) (fun f s4 z=>SP.xn J3.ok z) fun _ _ z=>bI z
end
def ID(K:aa)(ta tv:TE)(f:Str):TS:=fun D σ H=>tv σ H fun y H1=>ta σ H1 fun x H2=>∃e C dct fr,x= .ref e/\H2 e=some (gv e C dct fr)/\XC K C/\iu K C f=some none/\
 ((dct=none/\∀d,H2 d=none->d≠e->D.nx σ (upd (upd H2 e (gv e C (some d) fr)) d (Ds d [(f,y)])))\/∃d fs,dct=some d/\H2 d=some (Ds d fs)/\fs.length<=100/\D.nx σ (upd H2 d (Ds d (aD f y fs))))
section
variable{X:Cx}
end
section
variable{K:aa}{C C':Addr}
theorem zwu(q:bS K C qy "ValueError.__new__"=true):∃nm q N bs bm k6 sn sub ab uC dd k0 k1 k2 k3 k5,K.lookup C=some (excClassObj nm q C N bs bm k6 sn sub ab uC dd k0 k1 k2 k3 k5 "ValueError.__new__")/\gg K qy bm=true:=by obtain⟨nm,q,N,bs,bm,k6,sn,sub,ab,uC,dd,k0,k1,k2,k3,k5,l,t,_⟩:=XC.plain q;exact⟨nm,q,N,bs,bm,k6,sn,sub,ab,uC,dd,k0,k1,k2,k3,k5,l,t⟩
end
section
variable{α:Type}{enc:α->List V}{H H':Hp}{ps:List Addr}{qs:List α}
end
abbrev F2:=Int×Int
def f2(q:F2):List V:=[.int q.1,.int q.2]
def RL(q:F2):PyData:=.tuple [.int q.1,.int q.2]
theorem Va(a b:F2):PyData.eqv (RL a) (RL b)=decide (a=b):=by obtain⟨a1,a2⟩:=a;obtain⟨b1,b2⟩:=b;simp only[RL,PyData.eqv,PyData.eqvAll,Bool.and_true,HN,Bool.decide_and];rfl
end L2
namespace Sw
open L2
def FW(q:F2):F2:=(rN q.1 q.2,rD q.1 q.2)
theorem Ks{q:F2}(h:q.2≠0):Fr (FW q).1 (FW q).2:=UZ h
theorem Dd{q:F2}(h:q.2≠0):(FW q).1*q.2=(FW q).2*q.1:=zuc h
end Sw
namespace L2
open PySem PySem.Spec PyProof.Rows
theorem Lf{H:Hp}{l:Addr}{xs:List V}{y:V}{Q:VK}(h:H l=some (.lst xs))(hz:xs.length<1000)(q:Q .cy (upd H l (.lst (xs++[y])))):ztx (.ref l) [y] H Q:=⟨l,xs,y,rfl,rfl,h,gD hz,q⟩
theorem Fg{K:aa}{H:Hp}{l:Addr}{xs:List V}(h:H l=some (.lst xs)):Qp K "list" (.ref l) H:=.inl ⟨rfl,_,.of h⟩
def Bc(sp:Sp)(t:TA):TE:=fun σ H Q=>t σ H fun vs H1=>sp vs H1 Q E0
section
variable{P:Program}{w:World}{X:Cx}{k:Nat}{x:Str}{ps:List Str}{sp:Sp}{p pos:Pos}{e:Expr}{es:List Expr}{t:TA}
end
theorem zzn{K:aa}{C W N:Addr}{nm qn:Str}{bs:List Value}{k6:Bool}{sn:List Str}{sub:List Value}{ab:Bool}{uC:Option Bool}{dd:Option Addr}{k0 k1 k2 k3 k5:Option Value}(q:bS K W qy "ValueError.__new__"=true)(lk:K.lookup C=some (excClassObj nm qn C N bs (.ref W::qy) k6 sn sub ab uC dd k0 k1 k2 k3 k5 "ValueError.__new__")):
    ∃nm q N bs bm k6 sn sub ab uC dd k0 k1 k2 k3 k5,K.lookup C=some (excClassObj nm q C N bs bm k6 sn sub ab uC dd k0 k1 k2 k3 k5 "ValueError.__new__")/\gg K qy bm=true:=
  ⟨nm,qn,N,bs,_,k6,sn,sub,ab,uC,dd,k0,k1,k2,k3,k5,lk,zwt q⟩
theorem zuq{fs:List (Str×V)}{mA:Str->Option Value}(jE:∀f,kU (fs.lookup f) (mA f)):Within mA (fs.map (·.1)):=by
 intro x hx;have r:=jE x;cases q:fs.lookup x with
 |none=>
  rw[q]at r;exact absurd (kU.none_of r) hx
 |some v=>exact av.mpr ⟨(x,v),eS q,rfl⟩
theorem Vb{P:Program}{w:World}{H:Hp}{h:Heap}{e C d:Addr}{dct:Option Addr}{fr:Bool}{fs:List (Str×V)}(x:kL P w H h)(he:H e=some (gv e C dct fr))(hd:H d=some (Ds d fs)):d≠e:=fun z=>by
 obtain⟨oe,vs,e1,e2,e3,e4,_⟩:=x.exc he;obtain⟨mA,⟨o,es,ep,g1,g2,_⟩,_⟩:=x.xd hd;rw[z,e1]at g1;cases g1
 rw[e4]at g2;cases g2
section
variable{X:Cx}{o value:Expr}{f:Str}{pos qT:Pos}{ta tv:TE}
theorem zzo (K:aa) (hK:X.K=K) (ha:PE X o ta) (hv:PE X value tv) (hs:swapsWith value (some (.Attribute o f qT)) pos.line X.env=pure false):PS X (.Assign [.Attribute o f qT] value pos) (ID K ta tv f):=by
 subst hK
 intro ah s σ H D I h
 refine plainObj_wpAny_Assign_Attribute (eJ (hv ah s σ H _ I h) fun u s1 ⟨y,H1,I1,ry,q⟩=>eJ (ha ah s1 σ H1 _ I1 q) fun ov s2 ⟨x,H2,I2,rx,e,C,dct,fr,ex,he,xc,ht,alt⟩=>?_) hs
 subst ex
 obtain rfl:ov=Value.ref e:=rx
 obtain ⟨oe,vs,e1,e2,e3,e4,e5,e6⟩:=I2.eB.exc he
 rcases alt with ⟨rfl,k⟩ | ⟨d,fs,rfl,hd,hl,k⟩
 ·refine OB (mA:=fun _=>none) (ns:=[]) I2.rH xc e1 e2 e4 ht (.inl ⟨e3,fun _=>rfl⟩) (fun x hx=>absurd rfl hx) (by decide) fun h' d n1 n2 n3 n4 _ n6 tk=>?_
  have sz:=n4 e3
  have fd:H2 d=none:=I2.eB.fresh sz
  refine ⟨σ,_,?_,k d fd n3⟩
  have DL:∀ b ob,s2.heap.get? b=some ob->b≠d:=fun b ob q=>aZ (aM (Heap.lt_size q) sz)
  have nn:∀ {b ob},H2 b=some ob->(∀ φ,ob≠.ext φ)->upd (upd H2 e (gv e C (some d) fr)) d (Ds d [(f,y)]) b=some ob:=fun {b ob} q z=>by
   rw [bM (i8 q fd),bM fun w=>by rw [w,he] at q; cases q; exact z _ rfl]; exact q
  refine I2.un (t':=tk) ⟨fun b ob q n _ _=>n6 b ob (fun z=>by rw [z,he] at n; cases n) (DL b ob q) q,fun b ob q n _ _=>⟨ob.slots,n6 b ob (fun z=>by rw [z,he] at n; cases n) (DL b ob q) q⟩,fun b ob q n _=>?_,fun b ob q _=>?_,fun b xs q=>nn q (by intro φ z; cases z),fun b ob v q=>nn q (by intro φ z; cases z),fun b ps q=>⟨#[],by rw [nn q (by intro φ z; cases z)]; simp⟩⟩ fun b ob q=>?_
  ·rw [bM (DL b ob q),bM fun z=>by rw [z,he] at n; cases n]; exact n
  ·by_cases z:b=e
   ·rw [z]; exact ⟨_,n2⟩
   ·exact ⟨ob,n6 b ob z (DL b ob q) q⟩
  ·by_cases z:b=d
   ·subst z
    rw [bX] at q
    cases q
    refine zyj ⟨_,n1,fun g=>?_⟩
    by_cases w:g=f
    ·subst w
     simp only [vz,beq_self_eq_true,if_true]
     exact ry
    ·simp only [vz,beq_eq_false_iff_ne.mpr w,if_neg w]
     trivial
   ·rw [bM z] at q
    by_cases w:b=e
    ·subst w
     rw [bX] at q
     cases q
     exact OQ ⟨_,vs,n2,e2,rfl,e4,e5,e6⟩
    ·rw [bM w] at q
     refine (I2.eB b ob q).iS (fun c v hc g=>?_) (fun c g=>nn g (by intro φ z; cases z)) fun c xs g=>nn g (by intro φ z; cases z)
     refine n6 c v (fun z2=>?_) (DL c v g) g
     rcases hc with y | y
     ·exact w (y ▸ z2)
     ·rw [z2,he] at y; cases y
 ·obtain ⟨mA,ns1,jE⟩:=I2.eB.xd hd
  have de:=Vb I2.eB he hd
  refine OB (mA:=mA) (ns:=fs.map (·.1)) I2.rH xc e1 e2 e4 ht (.inr ⟨d,e3,de,ns1⟩) (zuq jE) (by rw [ai]; omega) fun h' d' n1 n2 n3 _ n5 n6 tk=>?_
  obtain rfl:=n5 d e3
  have n2':h'.get? e=some oe:=by rw [n2]; obtain ⟨a1,a2,a3,a4⟩:=oe; dsimp only at e3; subst e3; rfl
  refine ⟨σ,_,?_,k⟩
  have nn:∀ {b ob},H2 b=some ob->(∀ φ,ob≠.ext φ)->upd H2 d' (Ds d' (aD f y fs)) b=some ob:=fun {b ob} q z=>by
   rw [bM fun w=>by rw [w,hd] at q; cases q; exact z _ rfl]; exact q
  have kp:∀ b ob,b≠d'->s2.heap.get? b=some ob->h'.get? b=some ob:=fun b ob z q=>by
   by_cases w:b=e
   ·subst w
    rw [e1] at q
    cases q
    exact n2'
   ·exact n6 b ob w z q
  have nd:∀ b,H2 b=none->b≠d':=fun b n z=>by rw [z,hd] at n; cases n
  refine I2.un (t':=tk) ⟨fun b ob q n _ _=>kp b ob (nd b n) q,fun b ob q n _ _=>⟨ob.slots,kp b ob (nd b n) q⟩,fun b ob q n _=>by rw [bM (nd b n)]; exact n,fun b ob q _=>?_,fun b xs q=>nn q (by intro φ z; cases z),fun b ob v q=>nn q (by intro φ z; cases z),fun b ps q=>⟨#[],by rw [nn q (by intro φ z; cases z)]; simp⟩⟩ fun b ob q=>?_
  ·by_cases z:b=d'
   ·subst z
    obtain ⟨o',es,ep,g1,_⟩:=n1
    exact ⟨_,g1⟩
   ·exact ⟨ob,kp b ob z q⟩
  ·by_cases z:b=d'
   ·subst z
    rw [bX] at q
    cases q
    refine zyj ⟨_,n1,fun g=>?_⟩
    rw [pR]
    by_cases w:g=f
    ·rw [if_pos w,if_pos w]; exact ry
    ·rw [if_neg w,if_neg w]; exact jE g
   ·rw [bM z] at q
    refine (I2.eB b ob q).iS (fun c v hc g=>kp c v (fun z2=>?_) g) (fun c g=>nn g (by intro φ z; cases z)) fun c xs g=>nn g (by intro φ z; cases z)
    rcases hc with y | y
    ·exact z (y ▸ z2)
    ·rw [z2,hd] at y; cases y
end
structure Rb(P:Program)(w:World)(K:aa)(mg:Str->Option Value)(base:Heap)(CX:tw)(k:Nat)(C:Addr)(ps:List Str)(sp:Sp):Prop where
 ex:∃(f:Addr)(fd:FuncData),pX P w K mg base CX k f fd ps sp/\Binds K fd ps []/\aF K (.ref C) "__init__"=some (some (.ref f))/\iY K (.ref f)=some (.type "function")
def Cp(C:Addr)(sp:Sp)(t:TA):TE:=fun σ H Q=>t σ H fun vs H1=>vs.length<=1000/\∀e,H1 e=none->sp (.ref e::vs) (upd H1 e (gv e C none true)) (fun v H2=>v= .cy/\Q (.ref e) H2) E0
theorem zzp{X:Cx}{C:Addr}{x:Str}{p pos:Pos}{e:Expr}{es:List Expr}{t:TA}{CX:tw}{k:Nat}{ps:List Str}{sp:Sp}(M:Rb X.prog X.w X.K X.mg X.base CX k C ps sp)(xc:XC X.K C)(kp:aO X.K (.ref C)=true)(hr:gu (k+1) X.A)(hx:DQ CX X Wk)(hg:Gl X x)(hm:X.mg x=some (.ref C))(ha:PA X (e::es) t)(zb:(x ==("__debug__":Str))=false:=by decide)(he:starEach (e::es) X.env=(false,eval e X.env)::starEach es X.env:=by rfl)(Ar:(backTo pos (starEach es X.env)).any (·.1)=false:=by rfl):
    PE X (.Call (.Name x p) (e::es) [] pos) (Cp C sp t):=by
  obtain⟨fI,fd,F,hb,hi,hf⟩:=M.ex;intro ah s σ H Q I h;refine wpAny_Call_Name_kw (Jh I hg hm ?_ zb);refine gm (h₀:=X.base) I.ok.mod.FP kp (eJ (ha pos ah s σ H _ I h) fun us s1⟨vs,H1,I1,r,hl,q1⟩=>⟨I1.rH,?_⟩) he Ar;refine U6 I1.rH xc hi hf (by rw[ko,<-r.length];exact qJ hl) fun h' ea m z1 z2=>?_;obtain⟨tt,g1,g2,g3⟩:=m.there;have I2:=I1.Ik (t':=s1.toks) m.keeps m.new (OQ (P:=X.prog) (w:=X.w) (H:=upd H1 ea (gv ea C none true)) (e:=ea) (C:=C) (dct:=none) (fr:=true) ⟨_,_,g1,rfl,rfl,rfl,aM (by decide) (az 6),fun _=>rfl⟩);have q:=q1 ea (VU I1.eB m.new);have r2:cj (V.ref ea::vs) (Value.ref ea::us):=.cons rfl r;have AO:(Value.ref ea::us++[]).length=ps.length:=by rw[aJ,<-r2.length];exact F.len _ _ _ _ q
  have JS:=hb {s1 with heap:=h'} (Value.ref ea::us) I2.rH AO;rw[aJ]at JS;refine wpAny_call (codeAny_mono (F.run _ X.stack _ _ ⟨Value.ref ea::us,[]⟩ (Value.ref ea::us) _ _ _ (hr.make C us []) (I2.Gz.make C us []) JS r2 q) fun r s' hq=>?_);cases r with
  |error ev=>exact hx ah σ _ _ ev s' I2 hq
  |ok fl=>
    cases fl with
    |ret u=>
      obtain⟨v,H',I3,rv,ev,q3⟩:=I2.after hq;subst ev;exact⟨rv,⟨V.ref ea,H',I3,rfl,q3⟩⟩
    |next=>exact bI hq
    |brk=>exact bI hq
    |cont=>exact bI hq
structure Gr(K:aa)(C:Addr)(dP:Str)(st:Stmt)(ps:List Str):Prop where
 ex:∃(f:Addr)(fd:FuncData),HJ K "__init__" dP st f fd/\Binds K fd ps []/\aF K (.ref C) "__init__"=some (some (.ref f))/\iY K (.ref f)=some (.type "function")
theorem Gr.ok{P:Program}{w:World}{K:aa}{mg:Str->Option Value}{base:Heap}{CX:tw}{C:Addr}{dP:Str}{st:Stmt}{N ps:List Str}{k:Nat}{sp:Sp}(F:Gr K C dP st ps)(S:aE N ps (d9 st))(len:∀vs H Q E,sp vs H Q E->vs.length=ps.length)(iK:∀(f:Addr)(dF:Value)(A:Around)(outer:List Env)(s:Shared)(H:Hp)(vs:List V)(Q:VK)(E:XK),gu k (A.deeper (envOfC dP (d9 st) s.heap.objs.size f dF))->sp vs H Q E->
      ∃t,rQ (nv CX P w K mg base N dP (d9 st) f dF A outer s H E).BL (o8 st) t/\t {nx:=fun _ H'=>Q .cy H',rt:=Q} (start N vs) H):Rb P w K mg base CX (k+1) C ps sp:=by
  obtain⟨f,fd,F,b,m,ty⟩:=F.ex;obtain⟨oc,od,kV,nT,pm,an,dF,ct,rJ,rfl,lk,pT⟩:=F.ex;exact⟨f,_,qC lk pT S len fun A outer s H vs Q E hr rT=>by obtain⟨t,h,q⟩:=iK f dF A outer s H vs Q E hr rT;exact⟨t,h.BL,q⟩,b,m,ty⟩
structure Bv(H H':Hp)(e C d:Addr)(fs:List (Str×V)):Prop where
 out:∀b,b≠e->b≠d->H' b=H b
 fr:H d=none
 ne:d≠e
 he:H' e=some (gv e C (some d) true)
 hd:H' d=some (Ds d fs)
def Oa(C:Addr)(f:Str):Sp:=fun vs H Q _=>∃e y,vs=[.ref e,y]/\H e=some (gv e C none true)/\∀d H',Bv H H' e C d [(f,y)]->Q .cy H'
theorem Vc{H:Hp}{e C d:Addr}{fs:List (Str×V)}(hd:H d=none)(ne:d≠e):Bv H (upd (upd H e (gv e C (some d) true)) d (Ds d fs)) e C d fs:=
 ⟨fun b h1 h2=>by rw[bM h2,bM h1],hd,ne,by rw[bM (b9 ne)];exact bX,bX⟩
theorem Nb{K:aa}{H:Hp}{e C:Addr}{f:Str}{y:V}{Q:VK}(he:H e=some (gv e C none true))(xc:XC K C)(tk:iu K C f=some none)(k:∀d H',Bv H H' e C d [(f,y)]->Q .cy H'):
    ID K (wB 0) (wB 1) f {nx:=fun _ H'=>Q .cy H',rt:=Q} [some (.ref e),some y] H:=
  ⟨_,rfl,_,rfl,e,C,none,true,rfl,he,xc,tk,.inl ⟨rfl,fun d hd ne=>k _ _ (Vc hd ne)⟩⟩
structure Mr(H H':Hp)(e C d:Addr)(fs:List (Str×V)):Prop where
 sm:bE H H'
 he:H' e=some (gv e C (some d) true)
 hd:H' d=some (Ds d fs)
 fe:H e=none
 fd:H d=none
 ne:d≠e
theorem Uc{H H':Hp}{e C d:Addr}{fs:List (Str×V)}(he:H e=none)(x:Bv (upd H e (gv e C none true)) H' e C d fs):Mr H H' e C d fs:=by
 have hd:H d=none:=by have:=x.fr;rwa [bM x.ne]at this
 exact⟨fun b o q=>by rw[x.out b (i8 q he) (i8 q hd),bM (i8 q he)];exact q,x.he,x.hd,he,hd,x.ne⟩
theorem mk1{H:Hp}{C:Addr}{f:Str}{y:V}{Q:Addr->Hp->Prop}(k:∀e d H',Mr H H' e C d [(f,y)]->Q e H'):∀e,H e=none->Oa C f [.ref e,y] (upd H e (gv e C none true)) (fun v H2=>v= .cy/\Q e H2) E0:=
 fun e he=>⟨e,y,rfl,bX,fun d H' x=>⟨rfl,k e d H' (Uc he x)⟩⟩
section
variable{X:Cx}
end
end L2
namespace Sw
open L2
def jy(i:Nat)(b:Int)(q:Q4):Prop:=i<60/\0<=q.1/\q.1<=1000000000000/\0<=q.2.1/\q.2.1<=11/\1<=q.2.2.1/\q.2.2.1<=1000000/\1<=q.2.2.2/\q.2.2.2<=1000000/\b<=q.1
instance (i:Nat)(b:Int)(q:Q4):Decidable (jy i b q):=by unfold jy;infer_instance
theorem yX{α:Type}{xs:List α}{i:Nat}{x:α}(h:xs[i]?=some x):xs.drop i=x::xs.drop (i+1):=by obtain⟨h1,rfl⟩:=aL.mp h;exact List.drop_eq_getElem_cons h1
end Sw
namespace L2
open PySem PySem.Spec PyProof.Rows
def kQ(K:aa)(fd:FuncData)(ps:List Str)(d7:List V):Prop:=∃ds,cj d7 ds/\Binds K fd ps ds
theorem kQ.nil{K:aa}{fd:FuncData}{ps:List Str}(h:Binds K fd ps []):kQ K fd ps []:=⟨[],.nil,h⟩
structure Gc(K:aa)(x dP:Str)(st:Stmt)(f:Addr)(fd:FuncData):Prop where
 ex:∃(oc:Value)(od:Option Addr)(dV kV nT pm:Value)(an:Option Addr)(dF ct:Value)(rJ:Array (Option Value)),
  fd=bC x dP (vq st) (o8 st) (d9 st) dV kV nT pm an dF ct/\K.lookup f=some ⟨oc,od,.func fd,rJ⟩/\c9 K dF dP=true
theorem OR{K:aa}{x dP:Str}{st:Stmt}{f:Addr}{oc:Value}{od an:Option Addr}{rJ:Array (Option Value)}{dV kV nT pm dF ct:Value}(l:K.lookup f=some ⟨oc,od,.func (bC x dP (vq st) (o8 st) (d9 st) dV kV nT pm an dF ct),rJ⟩)(c:c9 K dF dP=true):Gc K x dP st f (bC x dP (vq st) (o8 st) (d9 st) dV kV nT pm an dF ct):=⟨⟨oc,od,dV,kV,nT,pm,an,dF,ct,rJ,rfl,l,c⟩⟩
theorem Zo{K:aa}{fd:FuncData}{ps:List Str}{ds:List Value}{T:Addr}{oc:Value}{od:Option Addr}{n:Nat}{rJ:Array (Option Value)}{items:Array Value}(hd:fd.defaults= .ref T)(lk:K.lookup T=some ⟨oc,od,.seq items n,rJ⟩)(h:∀us:List Value,(us++ds).length=ps.length->∃k:Option (Array Value)->Sem (List (Str×Value)),bindArgs fd ⟨us,[]⟩=seqItems? fd.defaults >>=k/\k (some items)=pure (ps.zip (us++ds))):Binds K fd ps ds:=fun s us kx hl=>by
  obtain⟨k,h1,h2⟩:=h us hl;exact BindsTo.of_defaults hd (kx _ _ lk) rfl h1 h2
structure di(P:Program)(w:World)(K:aa)(mg:Str->Option Value)(base:Heap)(CX:tw)(k:Nat)(C:Addr)(m:Str)(ps:List Str)(pG:List (List V))(sp:Sp):Prop where
 ex:∃(f:Addr)(fd:FuncData),pX P w K mg base CX k f fd ps sp/\Jz K C m f/\∀d7∈pG,kQ K fd ps d7
structure Fo(P:Program)(w:World)(K:aa)(mg:Str->Option Value)(base:Heap)(CX:tw)(k:Nat)(C:Addr)(ps:List Str)(pG:List (List V))(sp:Sp):Prop where
 ex:∃(f:Addr)(fd:FuncData),pX P w K mg base CX k f fd ps sp/\Mk K C f/\∀d7∈pG,kQ K fd ps d7
structure eR(K:aa)(C:Addr)(m dP:Str)(st:Stmt)(ps:List Str)(pG:List (List V)):Prop where
 ex:∃(f:Addr)(fd:FuncData),Gc K m dP st f fd/\Jz K C m f/\∀d7∈pG,kQ K fd ps d7
structure qx(K:aa)(C:Addr)(dP:Str)(st:Stmt)(ps:List Str)(pG:List (List V)):Prop where
 ex:∃(f:Addr)(fd:FuncData),Gc K "__init__" dP st f fd/\Mk K C f/\∀d7∈pG,kQ K fd ps d7
section
variable{P:Program}{w:World}{K:aa}{mg:Str->Option Value}{base:Heap}{CX:tw}{C:Addr}{m dP:Str}{st:Stmt}{N ps:List Str}{pG:List (List V)}{k:Nat}{sp:Sp}
theorem eR.okN(F:eR K C m dP st ps pG)(S:aE N ps (d9 st))(len:∀vs H Q E,sp vs H Q E->vs.length=ps.length)(iK:∀(f:Addr)(dF:Value)(A:Around)(outer:List Env)(s:Shared)(H:Hp)(vs:List V)(Q:VK)(E:XK),gu k (A.deeper (envOfC dP (d9 st) s.heap.objs.size f dF))->sp vs H Q E->
      ∃t,rQ (nv CX P w K mg base N dP (d9 st) f dF A outer s H E).BL (o8 st) t/\t {nx:=fun _ H'=>Q .cy H',rt:=Q} (start N vs) H):di P w K mg base CX (k+1) C m ps pG sp:=by
  obtain⟨f,fd,F,me,b⟩:=F.ex;obtain⟨oc,od,dV,kV,nT,pm,an,dF,ct,rJ,rfl,lk,pT⟩:=F.ex;exact⟨f,_,qC lk pT S len fun A outer s H vs Q E hr rT=>by obtain⟨t,h,q⟩:=iK f dF A outer s H vs Q E hr rT;exact⟨t,h.BL,q⟩,me,b⟩
theorem eR.r9(F:eR K C m dP st ps pG)(S:aE N ps (d9 st))(len:∀vs H Q E,sp vs H Q E->vs.length=ps.length)(iK:∀(f:Addr)(dF:Value)(A:Around)(outer:List Env)(s:Shared)(H:Hp)(vs:List V)(Q:VK)(E:XK),gu k (A.deeper (envOfC dP (d9 st) s.heap.objs.size f dF))->sp vs H Q E->
      ∃t,rQ (nv (fJ P w) P w K mg base N dP (d9 st) f dF A outer s H E) (o8 st) t/\t {nx:=fun _ H'=>Q .cy H',rt:=Q} (start N vs) H):di P w K mg base (fJ P w) (k+1) C m ps pG sp:=by
  obtain⟨f,fd,F,me,b⟩:=F.ex;obtain⟨oc,od,dV,kV,nT,pm,an,dF,ct,rJ,rfl,lk,pT⟩:=F.ex;exact⟨f,_,qC lk pT S len fun A outer s H vs Q E hr rT=>iK f dF A outer s H vs Q E hr rT,me,b⟩
theorem qx.okN(F:qx K C dP st ps pG)(S:aE N ps (d9 st))(len:∀vs H Q E,sp vs H Q E->vs.length=ps.length)(iK:∀(f:Addr)(dF:Value)(A:Around)(outer:List Env)(s:Shared)(H:Hp)(vs:List V)(Q:VK)(E:XK),gu k (A.deeper (envOfC dP (d9 st) s.heap.objs.size f dF))->sp vs H Q E->
      ∃t,rQ (nv CX P w K mg base N dP (d9 st) f dF A outer s H E).BL (o8 st) t/\t {nx:=fun _ H'=>Q .cy H',rt:=Q} (start N vs) H):Fo P w K mg base CX (k+1) C ps pG sp:=by
  obtain⟨f,fd,F,me,b⟩:=F.ex;obtain⟨oc,od,dV,kV,nT,pm,an,dF,ct,rJ,rfl,lk,pT⟩:=F.ex;exact⟨f,_,qC lk pT S len fun A outer s H vs Q E hr rT=>by obtain⟨t,h,q⟩:=iK f dF A outer s H vs Q E hr rT;exact⟨t,h.BL,q⟩,me,b⟩
theorem qx.r9(F:qx K C dP st ps pG)(S:aE N ps (d9 st))(len:∀vs H Q E,sp vs H Q E->vs.length=ps.length)(iK:∀(f:Addr)(dF:Value)(A:Around)(outer:List Env)(s:Shared)(H:Hp)(vs:List V)(Q:VK)(E:XK),gu k (A.deeper (envOfC dP (d9 st) s.heap.objs.size f dF))->sp vs H Q E->
      ∃t,rQ (nv (fJ P w) P w K mg base N dP (d9 st) f dF A outer s H E) (o8 st) t/\t {nx:=fun _ H'=>Q .cy H',rt:=Q} (start N vs) H):Fo P w K mg base (fJ P w) (k+1) C ps pG sp:=by
  obtain⟨f,fd,F,me,b⟩:=F.ex;obtain⟨oc,od,dV,kV,nT,pm,an,dF,ct,rJ,rfl,lk,pT⟩:=F.ex;exact⟨f,_,qC lk pT S len fun A outer s H vs Q E hr rT=>iK f dF A outer s H vs Q E hr rT,me,b⟩
end
def QT(C:Addr)(m:Str)(sp:Sp)(d7:List V)(Ek:XH)(ta:TE)(t:TA):TE:=fun σ H Q=>ta σ H fun x H1=>∃a dx fs,x= .ref a/\H1 a=some (.ins C dx fs)/\fs.lookup m=none/\
 t σ H1 fun vs H2=>sp (x::(vs++d7)) H2 Q (fun v d H'=>Ek v d σ H')
def vf(C:Addr)(sp:Sp)(d7:List V)(Ek:XH)(t:TA):TE:=fun σ H Q=>t σ H fun vs H1=>∀x dx,H1 x=none->H1 dx=none->dx≠x->
 sp (.ref x::(vs++d7)) (upd (upd H1 dx (.own x)) x (.ins C dx [])) (fun v H2=>v= .cy/\Q (.ref x) H2) (fun v d H'=>Ek v d σ H')
section
variable{X:Cx}{CX:tw}{k:Nat}{f C:Addr}{fd:FuncData}{ps:List Str}{sp:Sp}{d7:List V}{pG:List (List V)}{Ek:XH}{x m:Str}{p pos gM:Pos}{e o:Expr}{es:List Expr}{ta:TE}{t:TA}
theorem VW{ah:List (Addr×Obj)}{σ:St}{H:Hp}{s:Shared}{Q:VK}{us:List Value}{vs:List V}(F:pX X.prog X.w X.K X.mg X.base CX k f fd ps sp)(hr:gu k X.A)(hb:kQ X.K fd ps d7)(hx:DQ CX X Ek)(I:Inv X ah σ H s)(r:cj vs us)(h:sp (vs++d7) H Q (fun v d H'=>Ek v d σ H')):wpAny (model X.prog X.w) X.A (call (.ref f) us) (EP X ah σ Q) X.xe s:=by
  obtain⟨ds,hd,hb⟩:=hb;have r2:cj (vs++d7) (us++ds):=r.append hd;have hl:(us++ds).length=ps.length:=by rw[<-r2.length];exact F.len _ _ _ _ h
  refine wpAny_call (codeAny_mono (F.run X.A X.stack s H ⟨us,[]⟩ (us++ds) (vs++d7) Q _ hr I.Gz (hb s us I.rH hl) r2 h) fun r s' hq=>?_);cases r with
  |error e=>exact hx ah σ H s e s' I hq
  |ok fl=>
    cases fl with
    |ret u=>exact I.after hq
    |next=>exact bI hq
    |brk=>exact bI hq
    |cont=>exact bI hq
theorem iB{pl:Sem Bool}(D:di X.prog X.w X.K X.mg X.base CX k C m ps pG sp)(DI:d7∈pG)(c:xw X.K C)(hr:gu k X.A)(hx:DQ CX X Ek)(he:PE X o ta)(ha:PA X (e::es) t)(FL:starEach (e::es) X.env=(false,eval e X.env)::starEach es X.env:=by rfl)(Ar:(backTo pos (starEach es X.env)).any (·.1)=false:=by rfl)(ht:eval (.Call (.Attribute o m gM) (e::es) [] pos) X.env=(do
      let ov <-eval o X.env
      standAt gM.atName
      let(f,first) <-holding [ov] (getMethod ov m pl)
      callWith pos f first (backTo pos (starEach (e::es) X.env)) (backToKw pos (keywordEach [] X.env))):=by rfl):
    PE X (.Call (.Attribute o m gM) (e::es) [] pos) (QT C m sp d7 Ek ta t):=by
  obtain⟨f,fd,F,hm,hb⟩:=D.ex;intro ah s σ H Q I h;refine nh (pl:=pl) (eJ (he ah s σ H _ I h) fun u s1⟨x,H1,I1,rx,a,dx,fs,ex,ea,l,q⟩=>?_) ht;subst ex;obtain rfl:u=Value.ref a:=rx;refine Zl I1 ea c hm l ?_;refine gm (first:=[.ref a]) (h₀:=X.base) I.ok.mod.FP hm.kp (eJ (ha pos ah s1 σ H1 _ I1 q) fun us s2⟨vs,H2,I2,r,q2⟩=>⟨I2.rH,?_⟩) FL Ar;exact VW (us:=.ref a::us) (vs:=.ref a::vs) F hr (hb _ DI) hx I2 (.cons rfl r) q2
theorem yK{pl:Sem Bool}(D:di X.prog X.w X.K X.mg X.base CX k C m ps pG sp)(DI:d7∈pG)(c:xw X.K C)(hr:gu k X.A)(hx:DQ CX X Ek)(he:PE X o ta)(ht:eval (.Call (.Attribute o m gM) [] [] pos) X.env=(do
      let ov <-eval o X.env
      standAt gM.atName
      let(f,first) <-holding [ov] (getMethod ov m pl)
      callWith pos f first (backTo pos (starEach [] X.env)) (backToKw pos (keywordEach [] X.env))):=by rfl):
    PE X (.Call (.Attribute o m gM) [] [] pos) (QT C m sp d7 Ek ta Dq):=by
  obtain⟨f,fd,F,hm,hb⟩:=D.ex;intro ah s σ H Q I h;refine nh (pl:=pl) (eJ (he ah s σ H _ I h) fun u s1⟨x,H1,I1,rx,a,dx,fs,ex,ea,l,q⟩=>?_) ht;subst ex;obtain rfl:u=Value.ref a:=rx;refine Zl I1 ea c hm l ?_;exact Br (first:=[.ref a]) I1.rH hm.kp (VW (us:=[.ref a]) (vs:=[.ref a]) F hr (hb _ DI) hx I1 (.cons rfl .nil) q)
theorem ZI{ah:List (Addr×Obj)}{σ:St}{H:Hp}{s:Shared}{Q:VK}{us:List Value}{vs:List V}(M:Mk X.K C f)(F:pX X.prog X.w X.K X.mg X.base CX k f fd ps sp)(hr:gu (k+1) X.A)(hb:kQ X.K fd ps d7)(hx:DQ CX X Ek)(I:Inv X ah σ H s)(r:cj vs us)(h:∀x dx,H x=none->H dx=none->dx≠x->sp (.ref x::(vs++d7)) (upd (upd H dx (.own x)) x (.ins C dx [])) (fun v H2=>v= .cy/\Q (.ref x) H2) (fun v d H'=>Ek v d σ H')):
    wpAny (model X.prog X.w) X.A (call (.ref C) us) (EP X ah σ Q) X.xe s:=by
  obtain⟨ds,hd,hb⟩:=hb;have hq:=h (s.heap.objs.size+1) s.heap.objs.size (I.eB.fresh (gC _)) (I.eB.fresh (az _)) (aZ (JA _));have I2:=Inv.made (C:=C) I;have r2:cj (V.ref (s.heap.objs.size+1)::(vs++d7)) (Value.ref (s.heap.objs.size+1)::(us++ds)):=.cons rfl (r.append hd);have hl:(Value.ref (s.heap.objs.size+1)::us++ds).length=ps.length:=by have e:=r2.length;rw[F.len _ _ _ _ hq]at e;exact e.symm
  refine wpAny_call (zwn (f:=f) I.rH M.makes M.init (beq_iff_eq.mp M.fn) (codeAny_mono (F.run _ X.stack _ _ ⟨Value.ref (s.heap.objs.size+1)::us,[]⟩ (Value.ref (s.heap.objs.size+1)::(us++ds)) _ _ _ (hr.make C us [])
    (I2.Gz.make C us []) (hb _ (Value.ref (s.heap.objs.size+1)::us) I2.rH hl) r2 hq) fun r s' M3=>?_));cases r with
  |error e=>exact hx ah σ _ _ e s' I2 M3
  |ok fl=>
    cases fl with
    |ret u=>
      obtain⟨v,H',I3,rv,ev,q3⟩:=I2.after M3;subst ev;exact⟨rv,⟨V.ref (s.heap.objs.size+1),H',I3,rfl,q3⟩⟩
    |next=>exact bI M3
    |brk=>exact bI M3
    |cont=>exact bI M3
theorem LQ(D:Fo X.prog X.w X.K X.mg X.base CX k C ps pG sp)(DI:d7∈pG)(hr:gu (k+1) X.A)(hx:DQ CX X Ek)(hg:Gl X x)(hm:X.mg x=some (.ref C))(ha:PA X (e::es) t)(zb:(x ==("__debug__":Str))=false:=by decide)(he:starEach (e::es) X.env=(false,eval e X.env)::starEach es X.env:=by rfl)(Ar:(backTo pos (starEach es X.env)).any (·.1)=false:=by rfl):
    PE X (.Call (.Name x p) (e::es) [] pos) (vf C sp d7 Ek t):=by
  obtain⟨f,fd,F,M,hb⟩:=D.ex;intro ah s σ H Q I h;refine wpAny_Call_Name_kw (Jh I hg hm ?_ zb);refine gm (h₀:=X.base) I.ok.mod.FP M.kp (eJ (ha pos ah s σ H _ I h) fun us s1⟨vs,H1,I1,r,q⟩=>⟨I1.rH,?_⟩) he Ar;exact ZI M F hr (hb _ DI) hx I1 r q
theorem ZJ(D:Fo X.prog X.w X.K X.mg X.base CX k C ps pG sp)(DI:d7∈pG)(hr:gu (k+1) X.A)(hx:DQ CX X Ek)(hg:Gl X x)(hm:X.mg x=some (.ref C))(zb:(x ==("__debug__":Str))=false:=by decide):PE X (.Call (.Name x p) [] [] pos) (vf C sp d7 Ek Dq):=by
  obtain⟨f,fd,F,M,hb⟩:=D.ex;intro ah s σ H Q I h;refine wpAny_Call_Name_kw (Jh I hg hm ?_ zb);exact Br I.rH M.kp (ZI (us:=[]) M F hr (hb _ DI) hx I .nil h)
end
section
variable{X:Cx}
end
def Q9(lo c:Int)(n:Nat):It:=⟨fun i _=>i<n,fun i H x H'=>H'=H/\x= .int (lo+i*c),fun i _=>n<=i⟩
structure Mq(i j c:Int)(n:Nat):Prop where
 nz:c≠0
 np:Builtin.divisionGoesByPylong (j-i) c=false
 sm:Builtin.Range.small i j c=true
 eq:(n:Int)=Builtin.Range.rangeSize i j c
def Eu(ta:TA):TI:=fun σ H R=>ta σ H fun vs H1=>∃i j c n,vs=[.int i,.int j,.int c]/\Mq i j c n/\R (Q9 i c n) H1
section
variable{X:Cx}{tg:Expr}
end
theorem DM{wi:TI}{g:TG}{tb:TS}{D:Ends}{σ:St}{H:Hp}(h:∀Z:It->Hp->Prop,(∀J H1,(∃W:Nat->Nat->St->Hp->Prop,(∃m,W 0 m σ H1)/\∀i m σ H,W i m σ H->
 (J.stop i H/\D.nx σ H)\/(J.go i H/\∃N:St->Hp->Prop,(∀σ' H',N σ' H'->∃m',m' < m/\W (i+1) m' σ' H')/\∀x H',J.Je i H x H'->g x σ H' fun σ2 H2=>tb {D with nx:=N,ct:=N,bk:=D.nx} σ2 H2))->Z J H1)->wi σ H Z):K0 wi g tb D σ H:=h _ fun _ _ x=>x
theorem NK{K:aa}{H:Hp}{t:Addr}{i:Int}{Q:VK}(xs:List Int)(h0:0<=i)(h1:i<xs.length)(k:∀z:Int,z∈xs->Q (.int z) (upd H t (.lst (xs.map V.int)))):yb K (.ref t) (.int i) (upd H t (.lst (xs.map V.int))) Q:=by have:=F7 (xs:=xs.map V.int) (j:=i.toNat) (v:=V.int (xs[i.toNat]'(by omega))) (by simp);rw[rO h0]at this;exact vD (.of bX) this (k _ (g6 _))
section
variable{X:Cx}
end
end L2
namespace Sw
theorem bT{d:Int}(h:d≠0):(d:Rat)≠0:=by intro z;exact h (xK.mp (by rw[z];rfl))
theorem ic{d:Int}(h:0<d):(0:Rat)<(d:Rat):=by have:((0:Int):Rat)<(d:Rat):=gG.mpr h;exact this
theorem A4(q:Rat):(q.num:Rat) / ((q.den:Int):Rat)=q:=by rw[<-Rat.divInt_eq_div];exact Rat.num_divInt_den q
theorem gR(q:Rat):0<(q.den:Int):=by have:=q.den_nz;omega
theorem bQ(q:Rat):(q.den:Int)≠0:=by have:=q.den_nz;omega
theorem j9(q:Rat):(q.num:Rat)=q*((q.den:Int):Rat):=by have h:=A4 q;have d:=bT (bQ q);grind
theorem EJ(q:Rat):dv q.num q.den=1:=by unfold dv;have:=q.reduced;unfold wH at this;show((Nat.gcd q.num.natAbs (q.den:Int).natAbs:Nat):Int)=1;rw[tF,this];rfl
theorem Tp(q:Rat):Fr q.num q.den:=⟨gR q,EJ q⟩
theorem RQ{n d:Int}(f:Fr n d):((n:Rat) / (d:Rat)).num=n/\((((n:Rat) / (d:Rat)).den:Nat):Int)=d:=by
 have hd:d≠0:=by have:=f.pos;omega
 refine Fr.uniq (Tp _) f ?_;have h:=j9 ((n:Rat) / (d:Rat));generalize hq:(n:Rat) / (d:Rat)=q at h⊢;have e:(n:Rat)=q*d:=by have:=bT hd;grind
 have:((q.num*d:Int):Rat)=((n*(q.den:Int):Int):Rat):=by rw[aK,aK];grind
 exact xK.mp this
theorem zzq{q:Rat}{n d:Int}(hd:d≠0)(h:q=(n:Rat) / (d:Rat)):q.num*d=(q.den:Int)*n:=by
 have h1:=bT hd;have:((q.num*d:Int):Rat)=(((q.den:Int)*n:Int):Rat):=by rw[aK,aK,j9];grind
 exact xK.mp this
theorem KD{a b:Rat}:a.num*(b.den:Int)<b.num*(a.den:Int)↔a<b:=(Rat.lt_iff a b).symm
structure fP(z:Nat)(q:Rat):Prop where
 n:Sz z q.num
 d:Sz z (q.den:Int)
theorem fP.mono{m n:Nat}{q:Rat}(h:fP m q)(k:m<=n):fP n q:=⟨h.n.mono k,h.d.mono k⟩
theorem zwv{n d x:Int}(h:dv n d=1)(q:n∣d*x):n∣x:=QI (by rw[zzh];exact h) q
theorem fP.of {z:Nat} {q:Rat} {n d:Int} (hd:d≠0) (h:q=(n:Rat) / (d:Rat)) (s1:Sz z n) (s2:Sz z d):fP z q:=by
 have c:=zzq hd h
 refine ⟨?_,?_⟩
 ·by_cases hn:n = 0
  ·subst hn
   rw [Int.mul_zero] at c
   have:q.num = 0:=by
    rcases Int.mul_eq_zero.mp c with z | z
    ·exact z
    ·exact absurd z hd
   rw [this]; exact Sz.zero z
  ·exact s1.dvd (zwv (EJ q) ⟨d,c.symm⟩) hn
 ·exact s2.dvd (QI (EJ q) ⟨n,c⟩) hd
theorem fP.int{z:Nat}{n:Int}(h:Sz (z+1) n):fP (z+1) (n:Rat):=⟨by rw[Ln];exact h,by rw[Lm];exact Sz.one z⟩
theorem HS(a b:Rat):((a.num*(b.den:Int)+b.num*(a.den:Int):Int):Rat) / (((a.den:Int)*(b.den:Int):Int):Rat)=a+b:=by rw[kF,aK,aK,aK,j9 a,j9 b];have h1:=bT (bQ a);have h2:=bT (bQ b);grind
theorem IU(a b:Rat):((a.num*(b.den:Int)-b.num*(a.den:Int):Int):Rat) / (((a.den:Int)*(b.den:Int):Int):Rat)=a-b:=by rw[kG,aK,aK,aK,j9 a,j9 b];have h1:=bT (bQ a);have h2:=bT (bQ b);grind
theorem Io(a b:Rat):((a.num*b.num:Int):Rat) / (((a.den:Int)*(b.den:Int):Int):Rat)=a*b:=by rw[aK,aK,j9 a,j9 b];have h1:=bT (bQ a);have h2:=bT (bQ b);grind
theorem HX(a b:Rat)(hb:b.num≠0):((a.num*(b.den:Int):Int):Rat) / (((a.den:Int)*b.num:Int):Rat)=a / b:=by rw[aK,aK,j9 a,j9 b];have h1:=bT (bQ a);have h2:=bT (bQ b);have h3:=bT hb;rw[j9 b]at h3;grind
theorem fP.add{m n:Nat}{a b:Rat}(h:fP m a)(k:fP n b):fP (m+n+1) (a+b):=by refine .of (fX (bQ a) (bQ b)) (HS a b).symm ?_ ((h.d.mul k.d).mono (by omega));exact(h.n.mul k.d).add ((k.n.mul h.d).mono (by omega))
theorem fP.sub{m n:Nat}{a b:Rat}(h:fP m a)(k:fP n b):fP (m+n+1) (a-b):=by refine .of (fX (bQ a) (bQ b)) (IU a b).symm ?_ ((h.d.mul k.d).mono (by omega));exact(h.n.mul k.d).sub ((k.n.mul h.d).mono (by omega))
theorem fP.mul{m n:Nat}{a b:Rat}(h:fP m a)(k:fP n b):fP (m+n) (a*b):=
 .of (fX (bQ a) (bQ b)) (Io a b).symm (h.n.mul k.n) (h.d.mul k.d)
theorem fP.div{m n:Nat}{a b:Rat}(hb:b.num≠0)(h:fP m a)(k:fP n b):fP (m+n) (a / b):=
 .of (fX (bQ a) hb) (HX a b hb).symm (h.n.mul k.d) (h.d.mul k.n)
theorem EK{q:Rat}(h:q≠0):q.num≠0:=by intro z;have:=j9 q;rw[z]at this;have d:=bT (bQ q);apply h;have:(0:Rat)=q*((q.den:Int):Rat):=this;grind
end Sw
namespace L2
def fq(q:Rat):List V:=[.int q.num,.int (q.den:Int)]
theorem Vd{t b:Int}(hb:b≠0):f2 (Sw.FW (t,b))=fq ((t:Rat) / (b:Rat)):=by
 have f:=Sw.Ks (q:=(t,b)) hb;have c:=Sw.Dd (q:=(t,b)) hb;have e:((Sw.FW (t,b)).1:Rat) / ((Sw.FW (t,b)).2:Rat)=(t:Rat) / (b:Rat):=by
  have h1:=Sw.bT hb;have h2:(((Sw.FW (t,b)).2:Int):Rat)≠0:=Sw.bT (by have:=f.pos;omega);have c':(((Sw.FW (t,b)).1*b:Int):Rat)=(((Sw.FW (t,b)).2*t:Int):Rat):=by rw[c]
  rw[aK,aK]at c';grind
 have g:=Sw.RQ f;rw[e]at g;unfold f2 fq;rw[g.1,g.2]
theorem Ve(n:Int):[V.int n,V.int 1]=fq (n:Rat):=by unfold fq;rw[Ln,Lm];rfl
end L2
namespace Sw
def lvl(d:Int)(r:Rat)(NY:Int)(left:Rat)(at_:Int):Rat:=min (left+r*((at_ - NY:Int):Rat)) (d:Rat)
theorem fP.min{z:Nat}{a b:Rat}(ha:fP z a)(hb:fP z b):fP z (min a b):=by
 rw[fB];split
 ·exact ha
 ·exact hb
end Sw
namespace L2
open PySem PySem.Spec PyProof.Rows
def tq(p:Addr)(H H':Hp):Prop:=∀b o,b≠p->H b=some o->H' b=some o
theorem bE.but{p:Addr}{H H':Hp}(h:bE H H'):tq p H H':=fun b o _ e=>h b o e
theorem tq.trans{p:Addr}{H H1 H2:Hp}(a:tq p H H1)(b:tq p H1 H2):tq p H H2:=fun c o n h=>b c o n (a c o n h)
theorem LZ{p:Addr}{H:Hp}{o:HO}:tq p H (upd H p o):=fun b u n e=>by rw[bM n];exact e
theorem DN:∀{fs:List (Str×V)}{f:Str}{v w:V},fs.lookup f=some w->(aD f v fs).length=fs.length
 |[],f,v,w,h=>by cases h
 |(g,x)::r,f,v,w,h=>by
  unfold aD;by_cases e:g=f
  ·rw[if_pos e];rfl
  ·rw[if_neg e];have hb:(f ==g)=false:=beq_eq_false_iff_ne.mpr fun z=>e z.symm;simp only[iW,hb]at h;show(aD f v r).length+1=r.length+1;rw[DN h]
theorem i9:∀{fs:List (Str×V)}{f:Str}{v:V},(aD f v fs).length<=fs.length+1
 |[],f,v=>az _
 |(g,x)::r,f,v=>by
  unfold aD;by_cases e:g=f
  ·rw[if_pos e];exact gC _
  ·rw[if_neg e];show(aD f v r).length+1<=r.length+1+1;have:=i9 (fs:=r) (f:=f) (v:=v);omega
structure FB(fs:List (Str×V))(d:Int)(pr:Addr)(s:Int)(pl:Addr):Prop where
 dep:fs.lookup ("depth":Str)=some (.int d)
 rat:fs.lookup ("rate":Str)=some (.ref pr)
 sin:fs.lookup ("since":Str)=some (.int s)
 W9:fs.lookup ("left":Str)=some (.ref pl)
 no:∀m:Str,¬m="depth"->¬m="rate"->¬m="since"->¬m="left"->fs.lookup m=none
 len:fs.length<900
theorem FB.G2(d:Int)(pr:Addr)(s:Int)(pl:Addr):FB (aD "left" (.ref pl) (aD "since" (.int s) (aD "rate" (.ref pr) (aD "depth" (.int d) [])))) d pr s pl:=by
 have n1:¬(("depth":Str)="left"):=by decide+kernel
 have n2:¬(("depth":Str)="since"):=by decide+kernel
 have n3:¬(("depth":Str)="rate"):=by decide+kernel
 have n4:¬(("rate":Str)="left"):=by decide+kernel
 have n5:¬(("rate":Str)="since"):=by decide+kernel
 have n6:¬(("since":Str)="left"):=by decide+kernel
 refine⟨?_,?_,?_,?_,fun m h1 h2 h3 h4=>?_,?_⟩
 ·rw[pR,if_neg n1,pR,if_neg n2,pR,if_neg n3,pR,if_pos rfl]
 ·rw[pR,if_neg n4,pR,if_neg n5,pR,if_pos rfl]
 ·rw[pR,if_neg n6,pR,if_pos rfl]
 ·rw[pR,if_pos rfl]
 ·rw[pR,if_neg h4,pR,if_neg h3,pR,if_neg h2,pR,if_neg h1];rfl
 ·have a1:=i9 (fs:=[]) (f:="depth") (v:=.int d);have a2:=i9 (fs:=aD "depth" (.int d) []) (f:="rate") (v:=.ref pr);have a3:=i9 (fs:=aD "rate" (.ref pr) (aD "depth" (.int d) [])) (f:="since") (v:=.int s);have a4:=i9 (fs:=aD "since" (.int s) (aD "rate" (.ref pr) (aD "depth" (.int d) []))) (f:="left") (v:=.ref pl);simp only[bG]at a1;omega
theorem FB.kN{fs:List (Str×V)}{d s s':Int}{pr pl P9:Addr}(h:FB fs d pr s pl):FB (aD "left" (.ref P9) (aD "since" (.int s') fs)) d pr s' P9:=by
 have n1:¬(("depth":Str)="left"):=by decide+kernel
 have n2:¬(("depth":Str)="since"):=by decide+kernel
 have n4:¬(("rate":Str)="left"):=by decide+kernel
 have n5:¬(("rate":Str)="since"):=by decide+kernel
 have n6:¬(("since":Str)="left"):=by decide+kernel
 have n7:¬(("left":Str)="since"):=by decide+kernel
 refine⟨?_,?_,?_,?_,fun m h1 h2 h3 h4=>?_,?_⟩
 ·rw[pR,if_neg n1,pR,if_neg n2];exact h.dep
 ·rw[pR,if_neg n4,pR,if_neg n5];exact h.rat
 ·rw[pR,if_neg n6,pR,if_pos rfl]
 ·rw[pR,if_pos rfl]
 ·rw[pR,if_neg h4,pR,if_neg h3];exact h.no m h1 h2 h3 h4
 ·rw[DN (w:=.ref pl) (by rw[pR,if_neg n7];exact h.W9),DN h.sin];exact h.len
structure Bk(C:Addr)(H:Hp)(p:Addr)(d:Int)(r:Rat)(s:Int)(l:Rat):Prop where
 ex:∃dx fs pr pl,H p=some (.ins C dx fs)/\FB fs d pr s pl/\H pr=some (.tup (fq r))/\H pl=some (.tup (fq l))
theorem Bk.same{C:Addr}{H H':Hp}{p:Addr}{d:Int}{r:Rat}{s:Int}{l:Rat}(b:Bk C H p d r s l)(h:bE H H'):Bk C H' p d r s l:=by obtain⟨dx,fs,pr,pl,h1,h2,h3,h4⟩:=b.ex;exact⟨dx,fs,pr,pl,h _ _ h1,h2,h _ _ h3,h _ _ h4⟩
def KE(K:aa)(f:Str)(x:V)(H:Hp)(Q:VK):Prop:=∃a C dx fs v,x= .ref a/\H a=some (.ins C dx fs)/\xw K C/\dH K C f/\fs.lookup f=some v/\Q v H
theorem ym{K:aa}{ta:TE}{f:Str}{σ:St}{H:Hp}{Q:VK}:KZ K ta f σ H Q=ta σ H fun x H1=>KE K f x H1 Q:=rfl
theorem eL{K:aa}{f:Str}{a C dx:Addr}{fs:List (Str×V)}{v:V}{H:Hp}{Q:VK}(h:H a=some (.ins C dx fs))(c:xw K C)(n:dH K C f)(l:fs.lookup f=some v)(q:Q v H):KE K f (.ref a) H Q:=⟨a,C,dx,fs,v,rfl,h,c,n,l,q⟩
def NQ(K:aa)(f:Str)(y x:V)(H:Hp)(Z:Hp->Prop):Prop:=∃a C dx fs,x= .ref a/\H a=some (.ins C dx fs)/\xw K C/\dH K C f/\fs.length<1000/\Z (upd H a (.ins C dx (aD f y fs)))
theorem yc{K:aa}{ta tv:TE}{f:Str}{D:Ends}{σ:St}{H:Hp}:NX K ta tv f D σ H=tv σ H fun y H1=>ta σ H1 fun x H2=>NQ K f y x H2 (D.nx σ):=rfl
theorem lU{K:aa}{f:Str}{y:V}{a C dx:Addr}{fs:List (Str×V)}{H:Hp}{Z:Hp->Prop}(h:H a=some (.ins C dx fs))(c:xw K C)(n:dH K C f)(l:fs.length<1000)(q:Z (upd H a (.ins C dx (aD f y fs)))):NQ K f y (.ref a) H Z:=⟨a,C,dx,fs,rfl,h,c,n,l,q⟩
def sW(C:Addr)(m:Str)(x:V)(H:Hp)(Z:Prop):Prop:=∃a dx fs,x= .ref a/\H a=some (.ins C dx fs)/\fs.lookup m=none/\Z
theorem sD{C:Addr}{m:Str}{sp:Sp}{d7:List V}{Ek:XH}{ta:TE}{t:TA}{σ:St}{H:Hp}{Q:VK}:
    QT C m sp d7 Ek ta t σ H Q=ta σ H fun x H1=>sW C m x H1 (t σ H1 fun vs H2=>sp (x::(vs++d7)) H2 Q (fun v d H'=>Ek v d σ H')):=by
  unfold QT sW;rfl
theorem ig{C:Addr}{m:Str}{a dx:Addr}{fs:List (Str×V)}{H:Hp}{Z:Prop}(h:H a=some (.ins C dx fs))(l:fs.lookup m=none)(z:Z):sW C m (.ref a) H Z:=⟨a,dx,fs,rfl,h,l,z⟩
theorem Fe{H:Hp}{x dx C:Addr}(h1:H x=none)(h2:H dx=none):bE H (upd (upd H dx (.own x)) x (.ins C dx [])):=fun b o e=>by rw[bM (i8 e h1),bM (i8 e h2)];exact e
theorem tq.same{x:Addr}{H H1 H':Hp}(b:tq x H1 H')(s:bE H H1)(h:H x=none):bE H H':=fun c o e=>b c o (i8 e h) (s c o e)
theorem Jm{H:Hp}{p:Addr}{n:Int}:upd H p (.tup [.int n,.int 1]) p=some (.tup (fq (n:Rat))):=by rw[bX,Ve]
theorem zur{n:Int}(h:Sw.Sz 5000 n):Sw.fP 5000 (n:Rat):=Sw.fP.int h
theorem Bj{t:TS}{D:Ends}{σ:St}{H:Hp}(h:∀R:St->Hp->Prop,(∀σ H,D.nx σ H->R σ H)->t {D with nx:=R} σ H):t D σ H:=h D.nx fun _ _ x=>x
structure BZ(d:Int)(r:Rat)(l:Rat):Prop where
 d:Sw.Sz 300 d
 r:Sw.fP 300 r
 l:Sw.fP 300 l
inductive yf(C:Addr)(vs:List V)(H:Hp)(Q:VK)(E:XK):Prop|mk (p t d r s l:_) (h1:vs=[.ref p,.int t]) (h2:Bk C H p d r s l) (h3:BZ d r l) (h4:Sw.Sz 300 (t-s)) (h5:∀q H',bE H H'->H' q=some (.tup (fq (Sw.lvl d r s l t)))->Q (.ref q) H'):yf C vs H Q E
theorem zyl{d:Int}{r:Rat}{s:Int}{l:Rat}{t:Int}(z:BZ d r l)(zt:Sw.Sz 300 (t-s)):Sw.fP 1000 (Sw.lvl d r s l t):=by unfold Sw.lvl;exact Sw.fP.min ((z.l.add (z.r.mul (.int zt))).mono (by decide)) ((Sw.fP.int z.d).mono (by decide))
inductive yd(C:Addr)(vs:List V)(H:Hp)(Q:VK)(E:XK):Prop|mk (p t n d r s l:_) (h1:vs=[.ref p,.int t,.int n]) (h2:Bk C H p d r s l) (h3:BZ d r l) (h4:Sw.Sz 300 (t-s)) (h5:Sw.Sz 300 n) (h6:∀H',bE H H'->Q (.bl (!decide (Sw.lvl d r s l t<(n:Rat)))) H'):yd C vs H Q E
inductive IL(cS C:Addr)(vs:List V)(H:Hp)(Q:VK)(E:XK):Prop|mk (p t n d r s l:_) (h1:vs=[.ref p,.int t,.int n]) (h2:Bk C H p d r s l) (h3:BZ d r l) (h4:Sw.Sz 300 (t-s)) (h5:Sw.Sz 300 n) (h6:((n:Rat)<=Sw.lvl d r s l t->∀H',tq p H H'->Bk C H' p d r t (Sw.lvl d r s l t-(n:Rat))->Q .cy H')) (h7:(Sw.lvl d r s l t<(n:Rat)->∀e x pm H',bE H H'->H' e=some (gv e cS (some x) false)->H' x=some (Ds x [("missing",.ref pm)])->H' pm=some (.tup (fq ((n:Rat)-Sw.lvl d r s l t)))->E (.ref e) (some x) H')):IL cS C vs H Q E
structure At(C:Addr)(H:Hp)(p:Addr)(d:Int)(r:Rat)(t level:Int):Prop where
 ex:∃s n:Int,Bk C H p d r s ((n:Rat) / ((r.den:Int):Rat))/\0<=n/\n<=d*(r.den:Int)/\0<=s/\s<=t/\Sw.lvl d r s ((n:Rat) / ((r.den:Int):Rat)) t=(level:Rat) / ((r.den:Int):Rat)
structure Bd(d:Int)(r:Rat):Prop where
 d1:1<=d
 d2:d<=1000000000000
 r0:0<=r
 rz:Sw.fP 70 r
theorem Bd.bz{d:Int}{r:Rat}{n:Int}(b:Bd d r)(h0:0<=n)(h1:n<=d*(r.den:Int)):BZ d r ((n:Rat) / ((r.den:Int):Rat)):=by have d1:=b.d1;have d2:=b.d2;have sd:Sw.Sz 70 d:=Sw.Sz.sf (by omega) (by omega);have sn:Sw.Sz 140 n:=(sd.mul b.rz.d).le (by omega);exact⟨sd.mono (by decide),b.rz.mono (by decide),.of (Sw.bQ r) rfl (sn.mono (by decide)) (b.rz.d.mono (by decide))⟩
theorem At.same{C:Addr}{H H':Hp}{p:Addr}{d:Int}{r:Rat}{t level:Int}(a:At C H p d r t level)(h:bE H H'):At C H' p d r t level:=by obtain⟨s,n,B,x⟩:=a.ex;exact⟨s,n,B.same h,x⟩
theorem OX{a b:Int}{r:Rat}:(a:Rat) / ((r.den:Int):Rat)<(b:Rat)↔a<b*(r.den:Int):=by rw[qv (Sw.ic (Sw.gR r)),<-aK,gG]
theorem At.lv{C:Addr}{H:Hp}{p:Addr}{d:Int}{r:Rat}{t level:Int}(a:At C H p d r t level)(b:Bd d r):0<=level/\level<=d*(r.den:Int):=by
 obtain⟨s,n,B,n0,n1,s0,s1,e⟩:=a.ex;have dp:=Sw.ic (Sw.gR r);have h1:(level:Rat) / ((r.den:Int):Rat)<=(d:Rat):=by rw[<-e];unfold Sw.lvl;rw[fB];grind
 have x0:(0:Rat)<=(n:Rat) / ((r.den:Int):Rat):=by
  have h:¬(n:Rat) / ((r.den:Int):Rat)<((0:Int):Rat):=by rw[OX];omega
  have z:((0:Int):Rat)=0:=rfl;grind
 have y0:(0:Rat)<=r*((t-s:Int):Rat):=by refine Rat.mul_nonneg b.r0 ?_;have:((0:Int):Rat)<=((t-s:Int):Rat):=bV.mpr (by omega);exact this
 have w0:(0:Rat)<=(d:Rat):=by have:((0:Int):Rat)<=(d:Rat):=bV.mpr (by have:=b.d1;omega);exact this
 have h0:(0:Rat)<=(level:Rat) / ((r.den:Int):Rat):=by rw[<-e];unfold Sw.lvl;rw[fB];grind
 have g0:¬level<0*(r.den:Int):=by rw[<-OX];have z:((0:Int):Rat)=0:=rfl;grind
 have g1:¬(d*(r.den:Int)<level):=by
  intro h;have:(d:Rat)*((r.den:Int):Rat)<(level:Rat):=by rw[<-aK];exact gG.mpr h
  rw[<-yR dp]at this;grind
 omega
theorem At.lz{C:Addr}{H:Hp}{p:Addr}{d:Int}{r:Rat}{t level:Int}(a:At C H p d r t level)(b:Bd d r):Sw.Sz 140 level:=by have h:=a.lv b;have d1:=b.d1;have d2:=b.d2;have sd:Sw.Sz 70 d:=Sw.Sz.sf (by omega) (by omega);exact(sd.mul b.rz.d).le (by omega)
theorem zww{C:Addr}{H:Hp}{p:Addr}{d:Int}{r:Rat}{t level:Int}{Q:VK}{E:XK}(a:At C H p d r t level)(bd:Bd d r)(t1:t<1000000000000000000)(k:∀q H',bE H H'->H' q=some (.tup (fq ((level:Rat) / ((r.den:Int):Rat))))->Q (.ref q) H'):
    sW C "level" (.ref p) H (yf C [.ref p,.int t] H Q E):=by
  obtain⟨s,m,B,m0,m1,s0,s1,e⟩:=a.ex;obtain⟨dx,fs,pr,pl,hp,fb,kI,hl⟩:=id B.ex;refine ig hp (fb.no _ (by decide+kernel) (by decide+kernel) (by decide+kernel) (by decide+kernel)) ?_;refine⟨p,t,d,r,s,_,rfl,B,bd.bz m0 m1,(Sw.Sz.sf (by omega) (by omega)).mono (by decide),fun q H2 sm2 hq=>?_⟩;rw[e]at hq;exact k q H2 sm2 hq
theorem zzr{K:aa}{H:Hp}{p:Addr}{q:Rat}(h:H p=some (.tup (fq q))):kC K H (.ref p) (.tuple [.int q.num,.int (q.den:Int)]):=.tup (.of h) (.cons (.int _) (.cons (.int _) .nil))
theorem At.ins{C:Addr}{H:Hp}{p:Addr}{d:Int}{r:Rat}{t level:Int}(a:At C H p d r t level):∃dx fs pr s pl,H p=some (.ins C dx fs)/\FB fs d pr s pl/\H pr=some (.tup (fq r)):=by obtain⟨s,n,B,_⟩:=a.ex;obtain⟨dx,fs,pr,pl,h1,h2,h3,h4⟩:=B.ex;exact⟨dx,fs,pr,s,pl,h1,h2,h3⟩
theorem zwx{C:Addr}{H:Hp}{p:Addr}{d:Int}{r:Rat}{t level n:Int}{Q:VK}{E:XK}(a:At C H p d r t level)(bd:Bd d r)(t1:t<1000000000000000000)(n0:0<=n)(n1:n<1000000000000000000)(k:∀H',bE H H'->Q (.bl (decide (n*(r.den:Int)<=level))) H'):
    sW C "holds" (.ref p) H (yd C [.ref p,.int t,.int n] H Q E):=by
  obtain⟨s,m,B,m0,m1,s0,s1,e⟩:=a.ex;obtain⟨dx,fs,pr,pl,hp,fb,kI,hl⟩:=id B.ex;refine ig hp (fb.no _ (by decide+kernel) (by decide+kernel) (by decide+kernel) (by decide+kernel)) ?_;refine⟨p,t,n,d,r,s,_,rfl,B,bd.bz m0 m1,(Sw.Sz.sf (by omega) (by omega)).mono (by decide),(Sw.Sz.sf (by omega) (by omega)).mono (by decide),fun H3 sm3=>?_⟩;rw[e];have eb:(!decide ((level:Rat) / ((r.den:Int):Rat)<(n:Rat)))=decide (n*(r.den:Int)<=level):=by rw[decide_eq_decide.mpr OX,<-decide_not];exact decide_eq_decide.mpr (by omega)
  rw[eb];exact k H3 sm3
theorem zus{a b:Int}{r:Rat}:(a:Rat) / ((r.den:Int):Rat)<(b:Rat) / ((r.den:Int):Rat)↔a<b:=by have dn:=Sw.bT (Sw.bQ r);rw[qv (Sw.ic (Sw.gR r)),show(b:Rat) / ((r.den:Int):Rat)*((r.den:Int):Rat)=(b:Rat)by grind,gG]
def vg(n level:Int)(r:Rat):Int:=(((n:Rat)-(level:Rat) / ((r.den:Int):Rat)) / r).ceil
theorem NS{r:Rat}(h:0<r.num):0<r:=by
 have e:=Sw.j9 r;have dp:=Sw.ic (Sw.gR r);have np:=Sw.ic h;have:=Sw.A4 r;rcases Fx.mp (Rat.num_nonneg.mp (gF h))with q|q
 ·exact q
 ·rw[<-q]at h;exact absurd h (by decide)
theorem zut{n level:Int}{r:Rat}(h0:0<r.num):n*(r.den:Int)-level<=r.num*vg n level r/\r.num*(vg n level r-1)<n*(r.den:Int)-level:=by
 have dn:=Sw.bT (Sw.bQ r);have rp:=NS h0;unfold vg;generalize hx:((n:Rat)-(level:Rat) / ((r.den:Int):Rat)) / r=x;have rn:r≠0:=by grind
 have e:r*x=(n:Rat)-(level:Rat) / ((r.den:Int):Rat):=by grind
 have e1:(n:Rat)-(level:Rat) / ((r.den:Int):Rat)=((n*(r.den:Int)-level:Int):Rat) / ((r.den:Int):Rat):=by rw[kG,aK];grind
 rw[e1]at e;have e2:∀c:Int,((r.num*c:Int):Rat) / ((r.den:Int):Rat)=r*(c:Rat):=fun c=>by rw[aK,Sw.j9 r];grind
 have h1:x<=(x.ceil:Rat):=Eb;have h2:(x.ceil:Rat)<x+1:=Rat.ceil_lt;have h3:r*x<=r*(x.ceil:Rat):=jZ h1 (by grind);have h4:r*((x.ceil-1:Int):Rat)<r*x:=by rw[Rat.mul_lt_mul_left rp,kG];have:((1:Int):Rat)=1:=rfl;grind
 refine⟨?_,?_⟩
 ·have:¬(((r.num*x.ceil:Int):Rat) / ((r.den:Int):Rat)<((n*(r.den:Int)-level:Int):Rat) / ((r.den:Int):Rat)):=by rw[e2,<-e];grind
  rw[zus]at this;omega
 ·rw[<-e2,e,zus]at h4;exact h4
def xu(d:Int)(r:Rat)(t level n:Int):V:=if n*(r.den:Int)<=level then .int t else if d<n\/r.num=0 then .cy else .int (t+vg n level r)
theorem zwy{n level:Int}{r:Rat}(h0:0<r.num)(h:¬n*(r.den:Int)<=level):0<vg n level r:=by
 have h1:=(zut (n:=n) (level:=level) h0).1;rcases nZ 0 (vg n level r)with q|q
 ·exact q
 ·have:=tE (a:=-r.num) (b:=vg n level r) (by omega) q;rw[Int.neg_mul]at this;omega
theorem zzs{n level:Int}{r:Rat}(h0:0<r.num)(hl:0<=level)(hn:0<=n)(h:¬n*(r.den:Int)<=level):vg n level r<=n*(r.den:Int):=by have h2:=(zut (n:=n) (level:=level) h0).2;have h3:=zwy h0 h;have:1*(vg n level r-1)<=r.num*(vg n level r-1):=vJ (by omega) (by omega);omega
end L2
namespace Sw
end Sw
namespace L2
open PySem PySem.Spec PyProof.Rows
section
variable{κ:Type}[DecidableEq κ]
def gi(kvs:List (κ×V))(k:κ):Option V:=(kvs.find? fun kv=>decide (kv.1=k)).map (·.2)
def fU(kvs:List (κ×V))(k:κ)(v:V):List (κ×V):=
 if(kvs.any fun kv=>decide (kv.1=k))=true then kvs.map (fun kv=>if kv.1=k then(kv.1,v)else kv)else kvs++[(k,v)]
def qz(kvs:List (κ×V))(k:κ):List (κ×V):=kvs.filter fun kv=>decide (kv.1≠k)
theorem DO{p:κ×V}{r:List (κ×V)}{k:κ}(e:p.1=k):gi (p::r) k=some p.2:=by simp[gi,bR,e]
theorem DP{p:κ×V}{r:List (κ×V)}{k:κ}(e:¬p.1=k):gi (p::r) k=gi r k:=by simp[gi,bR,e]
theorem HA(k:κ):∀kvs:List (κ×V),(kvs.any fun kv=>decide (kv.1=k))=(gi kvs k).isSome
 |[]=>rfl
 |p::r=>by
  rw[mG];by_cases e:p.1=k
  ·simp only[DO e,decide_eq_true e,Bool.true_or,Option.isSome_some]
  ·rw[DP e,decide_eq_false e,Bool.false_or];exact HA k r
theorem zrr(k j:κ)(y:V):∀kvs:List (κ×V),gi (kvs.map fun kv=>if kv.1=k then(kv.1,y)else kv) j=(gi kvs j).map fun x=>if j=k then y else x
 |[]=>rfl
 |p::r=>by
  have ih:=zrr k j y r;rw[ay];by_cases h:p.1=k
  ·rw[if_pos h];by_cases e:p.1=j
   ·rw[DO (p:=(p.1,y)) e,DO e,m7,if_pos (e.symm.trans h)]
   ·rw[DP (p:=(p.1,y)) e,DP e,ih]
  ·rw[if_neg h];by_cases e:p.1=j
   ·rw[DO (p:=p) e,DO e,m7,if_neg (fun z=>h (e.trans z))]
   ·rw[DP (p:=p) e,DP e,ih]
theorem ZK(k j:κ)(y:V):∀kvs:List (κ×V),gi kvs k=none->gi (kvs++[(k,y)]) j=if j=k then some y else gi kvs j
 |[],_=>by
  by_cases e:k=j
  ·rw[if_pos e.symm];exact DO (p:=(k,y)) e
  ·rw[if_neg (fun z=>e z.symm)];exact DP (p:=(k,y)) e
 |p::r,hn=>by
  rw[fc];have hk:¬p.1=k:=fun z=>by rw[DO z]at hn;cases hn
  rw[DP hk]at hn;have ih:=ZK k j y r hn;by_cases e:p.1=j
  ·rw[DO e,DO e,if_neg (fun z=>hk (e.trans z))]
  ·rw[DP e,DP e,ih]
theorem zwz(kvs:List (κ×V))(k j:κ)(y:V):gi (fU kvs k y) j=if j=k then some y else gi kvs j:=by
 unfold fU;by_cases a:(kvs.any fun kv=>decide (kv.1=k))=true
 ·rw[if_pos a,zrr];rw[HA]at a;by_cases e:j=k
  ·obtain⟨x,hx⟩:=fY.mp a;rw[if_pos e,e,hx,m7,if_pos rfl]
  ·rw[if_neg e];cases gi kvs j with
   |none=>rfl
   |some x=>rw[m7,if_neg e]
 ·rw[if_neg a];refine ZK k j y kvs ?_;rw[HA]at a;cases q:gi kvs k with
  |none=>rfl
  |some x=>rw[q]at a;exact(a rfl).elim
theorem K9(kvs:List (κ×V))(k:κ)(v:V):(fU kvs k v).length<=kvs.length+1:=by
 unfold fU;split
 ·rw[ai];omega
 ·rw[bg,bw,bG];omega
theorem kU.lN{o:Option V}{u:Option Value}(r:kU o u):o.isSome=u.isSome:=by
 cases o with
 |none=>cases u with
  |none=>rfl
  |some _=>exact(show False from r).elim
 |some _=>cases u with
  |none=>exact(show False from r).elim
  |some _=>rfl
theorem KV.val{kvs:List (κ×V)}{vs:List (κ×Value)}(r:KV kvs vs)(k:κ):kU (gi kvs k) (valueAt vs k):=by
 unfold KV at r
 induction r with
 |nil=>exact bB
 | @cons p q ps qs h t ih=>
  obtain⟨h1,h2⟩:=h;by_cases e:p.1=k
  ·have e':q.1=k:=h1.symm.trans e;have b:valueAt (q::qs) k=some q.2:=by simp[valueAt,bR,e']
   rw[DO e,b];exact h2
  ·have e':¬q.1=k:=fun z=>e (h1.trans z);have b:valueAt (q::qs) k=valueAt qs k:=by simp[valueAt,bR,e']
   rw[DP e,b];exact ih
theorem KV.any{kvs:List (κ×V)}{vs:List (κ×Value)}(r:KV kvs vs)(k:κ):(kvs.any fun kv=>decide (kv.1=k))=vs.any fun kv=>decide (kv.1=k):=by
 unfold KV at r
 induction r with
 |nil=>rfl
 |cons h t ih=>rw[mG,mG,ih,h.1]
theorem KV.KL{kvs:List (κ×V)}{vs:List (κ×Value)}(r:KV kvs vs)(k:κ){y:V}{u:Value}(ry:RelV y u):
    KV (kvs.map fun kv=>if kv.1=k then(kv.1,y)else kv) (vs.map fun kv=>if kv.1=k then(kv.1,u)else kv):=by
  unfold KV at r⊢
  induction r with
  |nil=>exact .nil
  | @cons p q ps qs h t ih=>
    rw[ay,ay];refine .cons ?_ ih;obtain⟨h1,h2⟩:=h;by_cases e:p.1=k
    · rw[if_pos e,if_pos (h1.symm.trans e)];exact⟨h1,ry⟩
    · rw[if_neg e,if_neg (fun z=>e (h1.trans z))];exact⟨h1,h2⟩
theorem KV.put{kvs:List (κ×V)}{vs:List (κ×Value)}(r:KV kvs vs)(k:κ){y:V}{u:Value}(ry:RelV y u):KV (fU kvs k y) (stored vs k u):=by
 unfold fU stored;rw[r.any k];by_cases e:(vs.any fun kv=>decide (kv.1=k))=true
 ·rw[if_pos e,if_pos e];exact r.KL k ry
 ·rw[if_neg e,if_neg e];exact Paired.snoc r ⟨rfl,ry⟩
theorem KV.drop{kvs:List (κ×V)}{vs:List (κ×Value)}(r:KV kvs vs)(k:κ):KV (qz kvs k) (without vs k):=by
 unfold KV at r⊢;unfold qz without
 induction r with
 |nil=>exact .nil
 | @cons p q ps qs h t ih=>
  obtain⟨h1,h2⟩:=h;rw[fK,fK];by_cases e:p.1=k
  ·have a:¬decide (p.1≠k)=true:=by simp[e]
   have b:¬decide (q.1≠k)=true:=by simp[h1.symm.trans e]
   rw[if_neg a,if_neg b];exact ih
  ·have e':¬q.1=k:=fun z=>e (h1.trans z);have a:decide (p.1≠k)=true:=by simp[e]
   have b:decide (q.1≠k)=true:=by simp[e']
   rw[if_pos a,if_pos b];exact .cons ⟨h1,h2⟩ ih
theorem KV.length{kvs:List (κ×V)}{vs:List (κ×Value)}(r:KV kvs vs):kvs.length=vs.length:=Paired.length r
theorem zxa(kvs:List (κ×V))(k:κ):(qz kvs k).length<=kvs.length:=fO _ _
end
theorem sU{P:Program}{w:World}{k:Key}{u:Value}(r:RelV (kV k) u):(nS P w).is k u=true:=by
 cases k with
 |inl i=>obtain⟨t,e⟩:=(show ∃t,u=Value.int i t from r);subst e;exact zqa P w i t
 |inr x=>obtain⟨t,e⟩:=(show ∃t,u=Value.str x t from r);subst e;exact zqb P w x t
theorem ZL{P:Program}{w:World}:∀{ks:List Key}{us:List Value},cj (ks.map kV) us->ItemsAre (nS P w) ks us
 |[],_,r=>by rw[jg]at r;cases r;exact .nil
 |k::ks,_,r=>by
  rw[ay]at r;cases r with
  |cons h t=>exact .cons (sU h) (ZL t)
abbrev KT(H:Hp):List (List Key×V)->List (List Key×Addr×Value)->Prop:=Paired fun p q=>p.1=q.1/\H q.2.1=some (.tup (p.1.map kV))/\RelV p.2 q.2.2
theorem KT.val{H:Hp}{kvs:List (List Key×V)}{xs:List (List Key×Addr×Value)}(r:KT H kvs xs)(k:List Key):kU (gi kvs k) ((atKey xs k).map (·.2)):=by
 induction r with
 |nil=>exact bB
 | @cons p q ps qs h t ih=>
  obtain⟨h1,_,h2⟩:=h;by_cases e:p.1=k
  ·have e':q.1=k:=h1.symm.trans e;have b:atKey (q::qs) k=some q.2:=by simp[atKey,bR,e']
   rw[DO e,b];exact h2
  ·have e':¬q.1=k:=fun z=>e (h1.trans z);have b:atKey (q::qs) k=atKey qs k:=by simp[atKey,bR,e']
   rw[DP e,b];exact ih
theorem KT.KL{H:Hp}{kvs:List (List Key×V)}{xs:List (List Key×Addr×Value)}(r:KT H kvs xs)(k:List Key){y:V}{u:Value}(ry:RelV y u):
    KT H (kvs.map fun kv=>if kv.1=k then(kv.1,y)else kv) (xs.map (putAt k u)):=by
  induction r with
  |nil=>exact .nil
  | @cons p q ps qs h t ih=>
    rw[ay,ay];refine .cons ?_ ih;obtain⟨h1,h2,h3⟩:=h;unfold putAt;by_cases e:p.1=k
    · rw[if_pos e,if_pos (h1.symm.trans e)];exact⟨h1,h2,ry⟩
    · rw[if_neg e,if_neg (fun z=>e (h1.trans z))];exact⟨h1,h2,h3⟩
theorem KT.put{H:Hp}{kvs:List (List Key×V)}{xs:List (List Key×Addr×Value)}(r:KT H kvs xs)(k:List Key){b:Addr}{y:V}{u:Value}(hb:H b=some (.tup (k.map kV)))(ry:RelV y u):
    KT H (fU kvs k y) (storedH xs k b u):=by
  have e:(kvs.any fun kv=>decide (kv.1=k))=(atKey xs k).isSome:=by rw[HA,(r.val k).lN,sR]
  unfold fU storedH;rw[e];by_cases q:(atKey xs k).isSome=true
  · rw[if_pos q,if_pos q];exact r.KL k ry
  · rw[if_neg q,if_neg q];exact Paired.snoc r ⟨rfl,hb,ry⟩
theorem KT.keeps{H H':Hp}{kvs:List (List Key×V)}{xs:List (List Key×Addr×Value)}(r:KT H kvs xs)(ht:∀b ys,H b=some (.tup ys)->H' b=some (.tup ys)):KT H' kvs xs:=
 Paired.G0 r fun _ _ z=>⟨z.1,ht _ _ z.2.1,z.2.2⟩
section
variable{P:Program}{w:World}{H:Hp}{h:Heap}{a:Addr}
theorem IC{u:HO}(ok:kL P w H h)(e:Rd H a u):fT P w H h a u:=e.ok ok
theorem wL{kvs:List (Key×V)}(ok:kL P w H h)(e:Rd H a (.dK kvs)):kvs.length<=sizeLine/\(a ==sysModules)=false/\∃vs,KV kvs vs/\h.DictOf (nS P w) a vs:=
 show fT P w H h a (.dK kvs)from IC ok e
theorem sS{kvs:List (Key×V)}(ok:kL P w H h)(e:H a=some (.dK kvs)):kvs.length<=sizeLine/\(a ==sysModules)=false/\∃vs,KV kvs vs/\h.DictOf (nS P w) a vs:=wL ok (.inl e)
theorem OY{ks:List Key}(ok:kL P w H h)(e:H a=some (.tup (ks.map kV))):(tupleKind (nS P w)).is h ks a:=by obtain⟨_,b7,r,o,h1,h2,n,h3⟩:=(show fT P w H h a (.tup (ks.map kV))from ok a _ e);exact⟨o,b7.toArray,n,h1,h2,h3,by simpa using ZL r⟩
theorem wM{kvs:List (List Key×V)}(ok:kL P w H h)(e:Rd H a (.dT kvs)):kvs.length<=sizeLine/\(a ==sysModules)=false/\
    ∃xs,KT H kvs xs/\h.DictOfH (tupleKind (nS P w)) a xs:=by
  obtain⟨z,y,xs,r,o,es,ep,h1,h2,h3,h4,h5⟩:=(show fT P w H h a (.dT kvs)from IC ok e);refine⟨z,y,xs,r,o,es,ep,h1,h2,h3,h4,fun x hx=>?_,h5⟩;have all:∀{l:List (List Key×V)}{m:List (List Key×Addr×Value)},KT H l m->∀x∈m,(tupleKind (nS P w)).is h x.1 x.2.1:=by
    intro l m q
    induction q with
    |nil=>intro x hx;exact nomatch hx
    | @cons p q ps qs hq t ih=>
      intro x hx;rcases ak.mp hx with e|hx
      · subst e;exact OY ok (by rw[<-hq.1];exact hq.2.1)
      · exact ih x hx
  exact all r x hx
theorem My{kvs:List (List Key×V)}(ok:kL P w H h)(e:H a=some (.dT kvs)):kvs.length<=sizeLine/\(a ==sysModules)=false/\
    ∃xs,KT H kvs xs/\h.DictOfH (tupleKind (nS P w)) a xs:=wM ok (.inl e)
end
def g7(H:Hp)(a:Addr)(y:V)(r:Option V):Prop:=
 (∃kvs k,Rd H a (.dK kvs)/\y=kV k/\r=gi kvs k)\/∃kvs k b,Rd H a (.dT kvs)/\y= .ref b/\H b=some (.tup (k.map kV))/\r=gi kvs k
def lW(H:Hp)(a:Addr)(y v:V)(H':Hp):Prop:=
 (∃kvs k,H a=some (.dK kvs)/\y=kV k/\kvs.length<sizeLine/\H'=upd H a (.dK (fU kvs k v)))\/
 ∃kvs k b,H a=some (.dT kvs)/\y= .ref b/\H b=some (.tup (k.map kV))/\kvs.length<sizeLine/\H'=upd H a (.dT (fU kvs k v))
theorem g7.k{H:Hp}{a:Addr}{kvs:List (Key×V)}{k:Key}(e:H a=some (.dK kvs)):g7 H a (kV k) (gi kvs k):=.inl ⟨kvs,k,.inl e,rfl,rfl⟩
theorem lW.k{H:Hp}{a:Addr}{kvs:List (Key×V)}{k:Key}{v:V}(e:H a=some (.dK kvs))(hl:kvs.length<sizeLine):lW H a (kV k) v (upd H a (.dK (fU kvs k v))):=.inl ⟨kvs,k,e,rfl,hl,rfl⟩
section
variable{X:Cx}{ah:List (Addr×Obj)}{σ:St}{H:Hp}{s:Shared}{a:Addr}{y v:V}{u r:Value}{o:Option V}{A:Around}{E:Value->Shared->Prop}
theorem Inv.big(I:Inv X ah σ H s):sysModules<s.heap.objs.size:=by have h:mainGlobals<s.heap.objs.size:=(I.mod.glob.keeps I.bk).lt;exact Nat.lt_trans (by decide) h
theorem zuu{Q:Value->Shared->Prop}(hu:A.units+1<cLine)(I:Inv X ah σ H s)(g:g7 H a y (some v))(ry:RelV y u)(h:∀w' s',Inv X ah σ H s'->RelV v w'->Q w' s'):
    wpAny (model X.prog X.w) A (getItem (.ref a) u) Q E s:=by
  rcases g with⟨kvs,k,e,ey,l⟩ |⟨kvs,k,b,e,ey,eb,l⟩
  · subst ey;obtain⟨z,hd,vs,jE,dd⟩:=wL I.eB e;obtain⟨w',hw,A7⟩:=kU.some_of (v:=v) (o:=valueAt vs k) (by rw[l];exact jE.val k);exact wpAny_getItem_of (sU ry) dd.mapOf hw (h w' _ (I.tok _) A7)
  · subst ey;cases(show u=Value.ref b from ry)
    obtain⟨z,hd,xs,jE,dd⟩:=wM I.eB e;obtain⟨w',hw,A7⟩:=kU.some_of (v:=v) (o:=(atKey xs k).map (·.2)) (by rw[l];exact jE.val k);obtain⟨p,hp,FJ⟩:=Ah.mp hw;refine wpAny_getItem_heap (tupleKind_room_in1 hu) (OY I.eB eb) dd hp ?_;rw[FJ];exact h w' _ (I.tok _) A7
theorem Rz{Q:Value->Shared->Prop}(hu:A.units+1<cLine)(I:Inv X ah σ H s)(g:g7 H a y o)(ry:RelV y u)(h:∀s',Inv X ah σ H s'->Q (.bool o.isSome) s'):
    wpAny (model X.prog X.w) A (compareOp .In u (.ref a)) Q E s:=by
  rcases g with⟨kvs,k,e,ey,l⟩ |⟨kvs,k,b,e,ey,eb,l⟩
  · subst ey;obtain⟨z,hd,vs,jE,dd⟩:=wL I.eB e;refine wpAny_in_of (sU ry) hd dd.mapOf ?_;rw[<-(jE.val k).lN,<-l];exact h _ (I.tok _)
  · subst ey;cases(show u=Value.ref b from ry)
    obtain⟨z,hd,xs,jE,dd⟩:=wM I.eB e;refine wpAny_in_heap (tupleKind_room_in1 hu) (OY I.eB eb) hd dd ?_;have q:=(jE.val k).lN;rw[sR]at q;rw[<-q,<-l];exact h _ (I.tok _)
theorem zzt{Q:Value->Shared->Prop}(hu:A.units+1<cLine)(I:Inv X ah σ H s)(g:g7 H a y o)(ry:RelV y u)(h:∀s',Inv X ah σ H s'->Q (.bool (!o.isSome)) s'):
    wpAny (model X.prog X.w) A (compareOp .NotIn u (.ref a)) Q E s:=by
  rcases g with⟨kvs,k,e,ey,l⟩ |⟨kvs,k,b,e,ey,eb,l⟩
  · subst ey;obtain⟨z,hd,vs,jE,dd⟩:=wL I.eB e;refine wpAny_notIn_of (sU ry) hd dd.mapOf ?_;rw[<-(jE.val k).lN,<-l];exact h _ (I.tok _)
  · subst ey;cases(show u=Value.ref b from ry)
    obtain⟨z,hd,xs,jE,dd⟩:=wM I.eB e;refine wpAny_notIn_heap (tupleKind_room_in1 hu) (OY I.eB eb) hd dd ?_;have q:=(jE.val k).lN;rw[sR]at q;rw[<-q,<-l];exact h _ (I.tok _)
theorem QJ{h':Heap}{t':Nat}{ob:HO}(I:Inv X ah σ H s)(mu:Ml (H a))(hs:Heap.SameBut a s.heap h')(he:∃q,h'.get? a=some q)(new:fT X.prog X.w (upd H a ob) h' a ob):
    Inv X ah σ (upd H a ob) {s with heap:=h',toks:=t'}:=
  I.write (x:=a) (e:=a) mu (.inl rfl) (fun b q hb z=>(hs.2 b hb).trans z) he new
theorem Wa{P:Program}{w:World}{H':Hp}{h':Heap}{kvs:List (Key×V)}{vs:List (Key×Value)}(z:kvs.length<=sizeLine)(hd:(a ==sysModules)=false)(jE:KV kvs vs)(dd:h'.DictOf (nS P w) a vs):
    fT P w H' h' a (.dK kvs):=⟨z,hd,vs,jE,dd⟩
theorem zuw{H':Hp}{Q:Unit->Shared->Prop}(hu:A.units+1<cLine)(I:Inv X ah σ H s)(g:lW H a y v H')(ry:RelV y u)(rv:RelV v r)(h:∀s',Inv X ah σ H' s'->Q () s'):
    wpAny (model X.prog X.w) A (setItem (.ref a) u r) Q E s:=by
  rcases g with⟨kvs,k,e,ey,l,eH⟩ |⟨kvs,k,b,e,ey,eb,l,eH⟩
  · subst ey eH;obtain⟨z,hd,vs,jE,dd⟩:=sS I.eB e;have hz:vs.length<=sizeLine:=by rw[<-jE.length];exact z
    have hl:(fU kvs k v).length<=sizeLine:=by have:=K9 kvs k v;omega
    refine wpAny_setItem_pairs (hsz:=hz) (sU ry) dd fun h' FE hs=>h _ ?_;have he:∃q,h'.get? a=some q:=let⟨q,_,_,hq,_⟩:=FE;⟨q,hq⟩;exact QJ I (by rw[e];exact bB) hs he (Wa hl hd (jE.put k rv) FE)
  · subst ey eH;cases(show u=Value.ref b from ry)
    obtain⟨z,hd,xs,jE,dd⟩:=My I.eB e;have hz:xs.length<=sizeLine:=by rw[<-Paired.length jE];exact z
    have hl:(fU kvs k v).length<=sizeLine:=by have:=K9 kvs k v;omega
    refine wpAny_setItem_heap (hsz:=hz) (tupleKind_room_in1 hu) (OY I.eB eb) dd fun h' FE hs=>h _ ?_;obtain⟨q,es,ep,hq,h2,h3,h4,_,h5⟩:=FE;refine QJ I (by rw[e];exact bB) hs ⟨q,hq⟩ ⟨hl,hd,_,(jE.put k eb rv).keeps fun c ys ec=>?_,q,es,ep,hq,h2,h3,h4,h5⟩;rw[bM (b8 ec e (fun z=>nomatch z))];exact ec
end
section
variable{X:Cx}{ah:List (Addr×Obj)}{σ:St}{H:Hp}{s:Shared}{a:Addr}{kvs:List (Key×V)}{k:Key}{u:Value}{A:Around}{E:Value->Shared->Prop}
theorem Mx{v:V}{more:List Value}{Q:Value->Shared->Prop}(I:Inv X ah σ H s)(e:H a=some (.dK kvs))(ry:RelV (kV k) u)(l:gi kvs k=some v)(hm:more=[]\/∃x,more=[x])(h:∀w' s',Inv X ah σ (upd H a (.dK (qz kvs k))) s'->RelV v w'->Q w' s'):wpAny (model X.prog X.w) A (call (.builtin "dict.pop") (.ref a::u::more)) Q E s:=by
  obtain⟨z,hd,vs,jE,dd⟩:=sS I.eB e;obtain⟨w',hw,A7⟩:=kU.some_of (v:=v) (o:=valueAt vs k) (by rw[<-l];exact jE.val k);have hp:(keyPart u).isSome=true:=by
    cases k with
    |inl i=>obtain⟨t,q⟩:=(show ∃t,u=Value.int i t from ry);subst q;rfl
    |inr x=>obtain⟨t,q⟩:=(show ∃t,u=Value.str x t from ry);subst q;rfl
  have ha:argsOk "dict.pop" ⟨.ref a::u::more,[]⟩:=by
    rcases hm with q|⟨x,q⟩
    · subst q;exact PySem.F.args_dict_pop_2 _ _
    · subst q;exact yC _ _ _
  refine call_meetsIn m9 dd.typeIs yP ha (meets_dict_pop_there (nS X.prog X.w) a (sU ry) more hm hp)
    ⟨vs,w',dd,by rw[<-jE.length];exact z,hw,fun h' FE hs=>h w' _ ?_ A7⟩;have he:∃q,h'.get? a=some q:=let⟨q,_,_,hq,_⟩:=FE;⟨q,hq⟩;exact QJ I (by rw[e];exact bB) hs he (Wa (bL (zxa kvs k) z) hd (jE.drop k) FE)
theorem Vf{r:Value}{Q:Value->Shared->Prop}(I:Inv X ah σ H s)(e:H a=some (.dK kvs))(ry:RelV (kV k) u)(l:gi kvs k=none)(h:∀s',Inv X ah σ H s'->Q r s'):
    wpAny (model X.prog X.w) A (call (.builtin "dict.pop") [.ref a,u,r]) Q E s:=by
  obtain⟨z,hd,vs,jE,dd⟩:=sS I.eB e;have hn:valueAt vs k=none:=kU.none_of (by rw[<-l];exact jE.val k);have hp:(keyPart u).isSome=true:=by
    cases k with
    |inl i=>obtain⟨t,q⟩:=(show ∃t,u=Value.int i t from ry);subst q;rfl
    |inr x=>obtain⟨t,q⟩:=(show ∃t,u=Value.str x t from ry);subst q;rfl
  exact call_meetsIn m9 dd.typeIs yP (yC _ _ _) (meets_dict_pop_default (nS X.prog X.w) a (sU ry) hd hp r) ⟨vs,dd,hn,h _ (I.tok _)⟩
end
def Mm(i:Expr):Prop:=∀ov iv,subscripted i false ov iv=operate [ov,iv] (getItem ov iv)
theorem zzu{prog:Program}{w:World}{A:Around}{E:Value->Shared->Prop}{s:Shared}{env:Env}{value qX:Expr}{pos:Pos}{T id:String}{Q:Value->Shared->Prop}(hl:typeLookup (.type T) "__getitem__"=pure (some (.builtin id)))(hs:Mm qX)(h:wpAny (model prog w) A (eval value env) (fun o s₁=>wpAny (model prog w) A (eval qX env) (fun i s₂=>s₂.TypeIs o T/\wpAny (model prog w) A (getItem o i) Q E s₂) E s₁) E s):
    wpAny (model prog w) A (eval (.Subscript value qX pos) env) Q E s:=by
  refine Subscript_ (wpAny_mono h (fun o s₁ h₁=>wpAny_mono h₁ (fun i s₂ h₂=>?_) fun _ _ x=>x) fun _ _ x=>x);obtain⟨hT,h₂⟩:=h₂;unfold subscriptTail;refine wpAny_bind ?_;rw[getitemInPython_of_ne hT.not_modules];refine wpAny_bind (wpAny_specialOf hT hl ?_);have fin:wpAny (model prog w) A (subscripted qX false o i) (fun r s₃=>wpAny (model prog w) A (letTemporaryGo value o r >>=fun _=>pure r) Q E s₃) E s₂:=by rw[hs o i];exact wpAny_operating (wpAny_mono h₂ (fun r s₃ h₃=>wpAny_bind (wpAny_letTemporaryGo (wpAny_pure h₃))) fun _ _ x=>x)
  first
    |exact wpAny_pure (wpAny_bind fin)
    |exact wpAny_bind (wpAny_pure (wpAny_bind fin))
    |exact wpAny_bind fin
theorem zql{X:Cx}{ah:List (Addr×Obj)}{σ:St}{H:Hp}{s:Shared}{a:Addr}{y:V}{o:Option V}(I:Inv X ah σ H s)(g:g7 H a y o):s.TypeIs (.ref a) "dict":=by
 rcases g with⟨kvs,k,e,_,_⟩ |⟨kvs,k,b,e,_,_,_⟩
 ·obtain⟨_,_,vs,_,dd⟩:=wL I.eB e;exact dd.typeIs
 ·obtain⟨_,_,xs,_,dd⟩:=wM I.eB e;exact dd.typeIs
def Cj(td ty:TE):TE:=fun σ H Q=>td σ H fun x H1=>ty σ H1 fun y H2=>∃a v,x= .ref a/\g7 H2 a y (some v)/\Q v H2
def Fb(ty td:TE):TE:=fun σ H Q=>ty σ H fun y H1=>td σ H1 fun x H2=>∃a o,x= .ref a/\g7 H2 a y o/\Q (.bl o.isSome) H2
def uh(ty td:TE):TE:=fun σ H Q=>ty σ H fun y H1=>td σ H1 fun x H2=>∃a o,x= .ref a/\g7 H2 a y o/\Q (.bl (!o.isSome)) H2
def zL(td ty tv:TE):TS:=fun D σ H=>tv σ H fun v H1=>td σ H1 fun x H2=>ty σ H2 fun y H3=>∃a H4,x= .ref a/\lW H3 a y v H4/\D.nx σ H4
section
variable{X:Cx}{o i e value:Expr}{pos qT K4:Pos}{td ty tv:TE}
theorem sI(hu:X.A.units+1<cLine)(ho:PE X o td)(hi:PE X i ty)(hs:Mm i):PE X (.Subscript o i pos) (Cj td ty):=by intro ah s σ H Q I h;refine zzu PySem.F.slot_dict_getitem.lookup hs (eJ (ho ah s σ H _ I h) fun u s1⟨x,H1,I1,rx,q1⟩=>eJ (hi ah s1 σ H1 _ I1 q1) fun iv s2⟨y,H2,I2,ry,a,v,ex,g,q2⟩=>?_);subst ex;obtain rfl:u=Value.ref a:=rx;exact⟨zql I2 g,zuu hu I2 g ry fun w' s3 I3 A7=>⟨v,H2,I3,A7,q2⟩⟩
theorem OZ(hu:X.A.units+1<cLine)(hi:PE X i ty)(ho:PE X o td):PC X .In i o (Fb ty td):=by intro ah s σ H Q I h;refine eJ (hi ah s σ H _ I h) fun iv s1⟨y,H1,I1,ry,q1⟩=>eJ (ho ah s1 σ H1 _ I1 q1) fun u s2⟨x,H2,I2,rx,a,ov,ex,g,q2⟩=>?_;subst ex;obtain rfl:u=Value.ref a:=rx;exact Rz hu I2 g ry fun s3 I3=>⟨.bl ov.isSome,H2,I3,rfl,q2⟩
theorem VI(hu:X.A.units+1<cLine)(hi:PE X i ty)(ho:PE X o td):PC X .NotIn i o (uh ty td):=by intro ah s σ H Q I h;refine eJ (hi ah s σ H _ I h) fun iv s1⟨y,H1,I1,ry,q1⟩=>eJ (ho ah s1 σ H1 _ I1 q1) fun u s2⟨x,H2,I2,rx,a,ov,ex,g,q2⟩=>?_;subst ex;obtain rfl:u=Value.ref a:=rx;exact zzt hu I2 g ry fun s3 I3=>⟨.bl (!ov.isSome),H2,I3,rfl,q2⟩
theorem Du(hu:X.A.units+1<cLine)(ho:PE X o td)(hi:PE X i ty)(hv:PE X value tv)(hs:swapsWith value (some (.Subscript o i qT)) pos.line X.env=pure false):
    PS X (.Assign [.Subscript o i qT] value pos) (zL td ty tv):=by
  intro ah s σ H D I h;refine wpAny_Assign_Subscript (eJ (hv ah s σ H _ I h) fun r s1⟨v,H1,I1,rv,q1⟩=>eJ (ho ah s1 σ H1 _ I1 q1) fun u s2⟨x,H2,I2,rx,q2⟩=>eJ (hi ah s2 σ H2 _ I2 q2) fun iv s3⟨y,H3,I3,ry,a,H4,ex,g,q3⟩=>?_) hs;subst ex;obtain rfl:u=Value.ref a:=rx;exact zuw hu I3 g ry rv fun s4 I4=>⟨σ,H4,I4,q3⟩
end
theorem zrs{P:Program}{w:World}{H:Hp}(h:Heap)(hb:sysModules<h.objs.size):fT P w H (h.push {cls:=.type "dict",data:=.dict #[]}) h.objs.size (.dK []):=
 ⟨bZ _,beq_eq_false_iff_ne.mpr (b9 (aZ hb)),[],.nil,Heap.DictOf.new h⟩
def yk:TE:=fun _ H Q=>∀p,H p=none->Q (.ref p) (upd H p (.dK []))
section
variable{X:Cx}{pos:Pos}
theorem LR:PE X (.Dict [] [] pos) yk:=fun ah s σ H Q I h=>
 wpAny_Dict_empty ⟨.ref s.heap.objs.size,_,I.laid (a:=s.heap.objs.size) (o:=.dK []) (t':=s.toks) (fun _ _ q=>Heap.get?_push_of_some _ q) (az _) (zrs s.heap I.big),rfl,h _ (I.eB.fresh (az _))⟩
end
def sE:List (TE×TE)->St->Hp->(List (V×V)->Hp->Prop)->Prop
 |[],_,H,Q=>Q [] H
 |(tk,tv)::r,σ,H,Q=>tk σ H fun x H1=>tv σ H1 fun y H2=>sE r σ H2 fun ps H3=>Q ((x,y)::ps) H3
abbrev VV:List (V×V)->List (Value×Value)->Prop:=Paired fun p q=>RelV p.1 q.1/\RelV p.2 q.2
def Pf(X:Cx)(pos:Pos)(keys:List (Option Expr))(vj:List Expr)(Hs:List (TE×TE)):Prop:=
 ∀(ah:List (Addr×Obj))(s:Shared)(σ:St)(H:Hp)(Q:List (V×V)->Hp->Prop),Inv X ah σ H s->sE Hs σ H Q->
  wpAny (model X.prog X.w) X.A (evalPairs (pairTrees keys vj X.env pos)) (fun vs s'=>∃ps H',Inv X ah σ H' s'/\VV ps vs/\Q ps H') X.xe s
theorem zux{X:Cx}{pos:Pos}:Pf X pos [] [] []:=fun ah s σ H Q I h=>pairTrees_nil_walk ⟨[],H,I,.nil,h⟩
theorem VM{X:Cx}{pos:Pos}{k v:Expr}{ks:List (Option Expr)}{vs:List Expr}{tk tv:TE}{Hs:List (TE×TE)}(hk:PE X k tk)(hv:PE X v tv)(hr:Pf X pos ks vs Hs):
    Pf X pos (some k::ks) (v::vs) ((tk,tv)::Hs):=fun ah s σ H Q I h=>
  pairTrees_cons_walk (eJ (hk ah s σ H _ I h) fun u s1⟨x,H1,I1,rx,q1⟩=>eJ (hv ah s1 σ H1 _ I1 q1) fun w2 s2⟨y,H2,I2,ry,q2⟩=>
    eJ (hr ah s2 σ H2 _ I2 q2) fun ws s3⟨ps,H3,I3,jE,q3⟩=>⟨(x,y)::ps,H3,I3,.cons ⟨rx,ry⟩ jE,q3⟩)
def Fi(kvs more:List (Key×V)):List (Key×V):=more.foldl (fun HR kv=>fU HR kv.1 kv.2) kvs
theorem KV.merge:∀{more:List (Key×V)}{rs:List (Key×Value)}{kvs:List (Key×V)}{vs:List (Key×Value)},KV more rs->KV kvs vs->KV (Fi kvs more) (merged vs rs):=by
 intro more rs kvs vs r;unfold KV at r
 induction r generalizing kvs vs with
 |nil=>intro q;exact q
 | @cons p q ps qs h t ih=>
  intro r0;have e:KV (fU kvs p.1 p.2) (stored vs q.1 q.2):=by have:=r0.put p.1 h.2;rw[<-h.1];exact this
  exact ih e
theorem Yw:∀(more kvs:List (Key×V)),(Fi kvs more).length<=kvs.length+more.length
 |[],kvs=>by show kvs.length<=kvs.length+0;omega
 |p::r,kvs=>by have h1:=Yw r (fU kvs p.1 p.2);have h2:=K9 kvs p.1 p.2;show(Fi (fU kvs p.1 p.2) r).length<=_;rw[bw];omega
theorem Zp{P:Program}{w:World}:∀{kvs:List (Key×V)}{ws:List (Value×Value)},VV (kvs.map fun kv=>(kV kv.1,kv.2)) ws->∃rs,Carries (nS P w) ws rs/\KV kvs rs
 |[],_,r=>by rw[jg]at r;cases r;exact⟨[],bB,.nil⟩
 |p::kvs,_,r=>by
  rw[ay]at r;cases r with
  | @cons a b as bs h t=>
   obtain⟨rs,c,q⟩:=Zp (P:=P) (w:=w) t;obtain⟨b1,b2⟩:=b;exact⟨(p.1,b2)::rs,⟨sU h.1,rfl,c⟩,.cons ⟨rfl,h.2⟩ q⟩
def IW(Hs:List (TE×TE)):TE:=fun σ H Q=>∀p,H p=none->sE Hs σ (upd H p (.dK [])) fun ps H2=>H2 p=some (.dK [])/\∃kvs:List (Key×V),ps=kvs.map (fun kv=>(kV kv.1,kv.2))/\kvs.length<=15/\Q (.ref p) (upd H2 p (.dK (Fi [] kvs)))
theorem zuy{X:Cx}{pos:Pos}{keys:List (Option Expr)}{vj:List Expr}{Hs:List (TE×TE)}(h:Pf X pos keys vj Hs)(kZ:keys.all (·.isSome)=true)(hl:keys.length=vj.length)(h0:keys≠[])(WI:keys.length<=15):PE X (.Dict keys vj pos) (IW Hs):=by
  intro ah s σ H Q I q;have hn:=I.eB.fresh (az s.heap.objs.size);have I1:=I.laid (a:=s.heap.objs.size) (o:=.dK []) (h':=s.heap.push {cls:=.type "dict",data:=.dict #[]}) (t':=s.toks) (fun _ _ q=>Heap.get?_push_of_some _ q) (az _) (zrs s.heap I.big);refine wpAny_Dict_walk (knd:=nS X.prog X.w) kZ hl h0 WI (eJ (h ah _ σ _ _ I1 (q _ hn)) fun ws s2⟨ps,H2,I2,jE,e,kvs,ep,lk,q2⟩=>?_);subst ep;obtain⟨rs,c,rk⟩:=Zp (P:=X.prog) (w:=X.w) jE;obtain⟨z,hd,vs0,r0,dd⟩:=sS I2.eB e;cases r0
  refine⟨rs,c,dd,fun h' FE hs=>⟨.ref s.heap.objs.size,_,?_,rfl,q2⟩⟩;have hz:(Fi [] kvs).length<=sizeLine:=by have h1:=Yw kvs [];rw[bG]at h1;rw[sizeLine_eq];omega
  have he:∃q,h'.get? s.heap.objs.size=some q:=let⟨q,_,_,hq,_⟩:=FE;⟨q,hq⟩;exact QJ I2 (by rw[e];exact bB) hs he (Wa hz hd (rk.merge .nil) FE)
structure M2(X:Cx)(o:Expr)(m:Str)(gM:Pos)(e f:Expr)(iJ:Pos):Prop where
 base:attributeBase o m X.env (eval o X.env)=eval o X.env
 few:((backTo iJ (starEach [e,f] X.env)).all (fun x=>!x.1) && (backToKw iJ (keywordEach [] X.env)).all (fun x=>x.1.isSome)
  && decide (([e,f]:List Expr).length+([]:List Keyword).length+(if([]:List Keyword).isEmpty then 0 else 1)<30))=true
 line:(gM.endLine ==iJ.line)=true
 trees:backTo iJ (starEach [e,f] X.env)=[(false,eval e X.env),(false,eval f X.env)]
def Lk(H:Hp)(a:Addr):Prop:=(∃kvs,Rd H a (.dK kvs))\/∃kvs,Rd H a (.dT kvs)
theorem QU{X:Cx}{ah:List (Addr×Obj)}{σ:St}{H:Hp}{s:Shared}{a:Addr}(I:Inv X ah σ H s)(d:Lk H a):
    s.TypeIs (.ref a) "dict"/\(∀b,Value.ref a= .ref b->∃ob,s.heap.get? b=some ob/\ob.dict=none)/\(a ==sysModules)=false:=by
  rcases d with⟨kvs,e⟩ |⟨kvs,e⟩
  · obtain⟨_,hd,vs,_,dd⟩:=wL I.eB e;refine⟨dd.typeIs,fun b q=>?_,hd⟩;cases q
    obtain⟨ob,_,_,h1,h2,_⟩:=dd;exact⟨ob,h1,h2.2.1⟩
  · obtain⟨_,hd,xs,_,dd⟩:=wM I.eB e;refine⟨dd.typeIs,fun b q=>?_,hd⟩;cases q
    obtain⟨ob,_,_,h1,h2,_⟩:=dd;exact⟨ob,h1,h2.2.1⟩
section
variable{X:Cx}{ah:List (Addr×Obj)}{σ:St}{H:Hp}{s:Shared}{a:Addr}{y d:V}{u r:Value}{o:Option V}{A:Around}{E:Value->Shared->Prop}
end
def Be(td ty:TE):TE:=fun σ H Q=>td σ H fun x H1=>∃a,x= .ref a/\Lk H1 a/\ty σ H1 fun y H2=>∃o,g7 H2 a y o/\Q (o.getD .cy) H2
def Bf(td ty tx:TE):TE:=fun σ H Q=>td σ H fun x H1=>∃a,x= .ref a/\Lk H1 a/\ty σ H1 fun y H2=>tx σ H2 fun z H3=>∃o,g7 H3 a y o/\Q (o.getD z) H3
def KW(td ty:TE):TE:=fun σ H Q=>td σ H fun x H1=>∃a,x= .ref a/\Lk H1 a/\ty σ H1 fun y H2=>∃kvs k v,H2 a=some (.dK kvs)/\y=kV k/\gi kvs k=some v/\Q v (upd H2 a (.dK (qz kvs k)))
def Fc(td ty tx:TE):TE:=fun σ H Q=>td σ H fun x H1=>∃a,x= .ref a/\Lk H1 a/\ty σ H1 fun y H2=>tx σ H2 fun z H3=>∃kvs k,H3 a=some (.dK kvs)/\y=kV k/\
 (∀v,gi kvs k=some v->Q v (upd H3 a (.dK (qz kvs k))))/\(gi kvs k=none->Q z H3)
section
variable{X:Cx}{o e f:Expr}{gM iJ:Pos}{td ty tx:TE}
theorem zxb(ho:PE X o td)(he:PE X e ty)(hf:PE X f tx)(m:M2 X o "pop" gM e f iJ):PE X (.Call (.Attribute o "pop" gM) [e,f] [] iJ) (Fc td ty tx):=by
 intro ah s σ H Q I h;refine wpAny_Call_method m.base m.few m.line iA m9 PySem.F.type_dict_pop (eJ (ho ah s σ H _ I h) fun u s1⟨x,H1,I1,rx,a,ex,d,q1⟩=>?_);subst ex;obtain rfl:u=Value.ref a:=rx;obtain⟨t1,t2,_⟩:=QU I1 d;refine⟨t1,t2,?_⟩;rw[m.trees];refine Calls.callWith_builtin rfl (Calls.evalArgs_plain (Calls.spliced_cons (eJ (he ah s1 σ H1 _ I1 q1) fun iv s2⟨y,H2,I2,ry,q2⟩=>
  Calls.spliced_cons (eJ (hf ah s2 σ H2 _ I2 q2) fun fv s3⟨z,H3,I3,rz,kvs,k,ea,ey,q3,q4⟩=>Calls.spliced_nil ?_))));subst ey;cases l:gi kvs k with
 |some v=>exact Mx I3 ea ry l (.inr ⟨fv,rfl⟩) fun w' s4 I4 A7=>⟨v,_,I4,A7,q3 v l⟩
 |none=>exact Vf I3 ea ry l fun s4 I4=>⟨z,H3,I4,rz,q4 l⟩
end
section
variable{X:Cx}{ah:List (Addr×Obj)}{σ:St}{H:Hp}{s:Shared}{a:Addr}{kvs:List (Key×V)}{A:Around}{E:Value->Shared->Prop}
end
section
variable{X:Cx}{ah:List (Addr×Obj)}{σ:St}{H:Hp}{s:Shared}{a:Addr}{y:V}{u:Value}{A:Around}{E:Value->Shared->Prop}
end
section
variable{X:Cx}
end
section
variable{κ:Type}[DecidableEq κ]
end
def Hl(K:aa)(ta:TE):TT:=fun σ H Q=>ta σ H fun x H1=>∃k,Gs K x H1 k/\Q k H1
theorem VJ{X:Cx}(K:aa)(h:X.K=K){a:Expr}{ta:TE}(ha:PE X a ta)(he:∀o7,isTrue a X.env o7=(do let v <-o7;standAt a.pos;holding [v] (truthy v)):=by intro _;rfl):PT X a (Hl K ta):=h▸zwl ha he
theorem Ua{K:aa}{H:Hp}{p:Addr}{xs:List V}(h:iZ K H p xs):Gs K (.ref p) H (!xs.isEmpty):=.inl ⟨xs,h,rfl⟩
end L2
namespace Sw
abbrev T3:=Rat×Rat×Int
def SS(m:Rat)(u:T3):Bool:=!decide (m<u.1) && decide (m<u.2.1)
def hds(us:List T3)(m:Rat):List T3:=us.filter (SS m)
def yw(D:Int)(q:Rat):Prop:=∃n:Int,q=(n:Rat) / (D:Rat)
theorem yw.add{D:Int}{a b:Rat}(h:yw D a)(k:yw D b):yw D (a+b):=by obtain⟨n,rfl⟩:=h;obtain⟨m,rfl⟩:=k;exact⟨n+m,by rw[kF];grind⟩
theorem yw.more{D:Int}{a:Rat}(hD:D≠0)(h:yw D a){k:Int}(hk:k≠0):yw (D*k) a:=by obtain⟨n,rfl⟩:=h;have h1:=bT hD;have h2:=bT hk;exact⟨n*k,by rw[aK,aK];grind⟩
theorem yw.sz{D M:Int}{a b:Nat}{q:Rat}(h:yw D q)(hD:0<D)(zD:Sz a D)(zM:Sz b M)(h1:-(M:Rat)<=q)(h2:q<=(M:Rat))(hb:1<=b):fP (a+b) q:=by
 obtain⟨n,rfl⟩:=h;have dp:=ic hD;have dn:=bT (show D≠0 by omega);refine .of (by omega) rfl ((zD.mul zM).le ?_) (zD.mono (by omega));have e:(n:Rat) / (D:Rat)*(D:Rat)=(n:Rat):=by grind
 have u:(n:Rat)<=((M*D:Int):Rat):=by rw[<-e,aK];exact vR h2 (by grind)
 have l:((-(M*D):Int):Rat)<=(n:Rat):=by rw[<-e,Rat.intCast_neg,aK,show -((M:Rat)*(D:Rat))= -(M:Rat)*(D:Rat)by grind];exact vR h1 (by grind)
 have u':=bV.mp u;have l':=bV.mp l;rw[ur D M];omega
end Sw
namespace L2
open PySem PySem.Spec PyProof.Rows
theorem VX{c:TT}{tb:TS}{D:Ends}{σ:St}{H:Hp}(W:Nat->St->Hp->Prop){m0:Nat}(h0:W m0 σ H)(hs:∀m σ H,W m σ H->∃b:Bool,(∀Q:Bool->Hp->Prop,Q b H->c σ H Q)/\(b=true->tb {D with nx:=fun σ' H'=>∃m',m' < m/\W m' σ' H',ct:=fun σ' H'=>∃m',m' < m/\W m' σ' H',bk:=D.nx} σ H)/\(b=false->D.nx σ H)):V6 c tb D σ H:=by
  refine⟨W,⟨_,h0⟩,fun m σ H p=>?_⟩;obtain⟨b,hc,h1,h2⟩:=hs m σ H p;refine hc _ ?_;cases b with
  |true=>exact⟨_,fun σ' H' z=>z,h1 rfl⟩
  |false=>exact h2 rfl
theorem OD{α β:Type}{F:α->β->Prop}{a:α}{b:β}(h:F a b):∀{l₁:List α}{l₂:List β},Paired F l₁ l₂->Paired F (l₁++[a]) (l₂++[b])
 |_,_,Paired.nil=>.cons h .nil
 |_,_,Paired.cons x y=>.cons x (OD h y)
theorem Qu{α β:Type}{F:α->β->Prop}:∀{l₁:List α}{l₂:List β}{i:Nat}{a:α},Paired F l₁ l₂->l₁[i]?=some a->∃b,l₂[i]?=some b/\F a b
 |_,_,_,_,Paired.nil,e=>by simp at e
 |_,_,0,_,Paired.cons x _,e=>by simp at e;subst e;exact⟨_,rfl,x⟩
 |_,_,i+1,_,Paired.cons _ y,e=>by obtain⟨b,h1,h2⟩:=Qu (i:=i) y (by simpa using e);exact⟨b,by simpa using h1,h2⟩
theorem YO{α:Type}{l:List α}{i:Nat}{x:α}(h:l[i]?=some x):l.take (i+1)=l.take i++[x]:=by rw[t9,h];rfl
end L2
namespace Sw
open L2
end Sw
namespace L2
open PySem PySem.Spec PyProof.Rows
def Q7 (K:aa) (a:Addr):It :=
  ⟨fun i H=>∃ xs x,iZ K H a xs/\xs[i]? = some x,
   fun i H y H'=>∃ p x,y = .ref p/\H p=none/\(∀ xs,iZ K H a xs->xs[i]? = some x)/\H'=upd H p (.tup [.int ((i+1:Nat):Int),x]),
   fun i H=>∃ xs,iZ K H a xs/\xs.length=i⟩
section
variable{X:Cx}
def AV(K:aa)(ta:TA):TI:=fun σ H R=>ta σ H fun vs H1=>∃a,vs=[.ref a]/\(∃xs,iZ K H1 a xs)/\R (Q7 K a) H1
end
section
variable{X:Cx}
def Mi(K:aa)(a:Addr)(xs:List V):It:=
 ⟨fun i H=>iZ K H a xs/\i<xs.length,fun i H x H'=>H'=H/\xs.reverse[i]?=some x,fun i H=>iZ K H a xs/\xs.length=i⟩
theorem zxc{P:Program}{w:World}{K:aa}{tg:Expr}(a it:Addr)(xs:List V)(n:Nat)(hn:xs.length=n):xM P w K tg (Mi K a xs) [it] it (fun i h=>h.IsRevIter it a ((n:Int)-1-(i:Nat))) where
 mem:=by simp
 obj:=fun i h st b hb=>by
  have e:b=it:=by simpa using hb
  subst e;obtain⟨o,h1,h2,h3⟩:=st;exact⟨o,h1,fun v z=>by rw[h3]at z;cases z⟩
 keep:=fun i h h' st k=>by obtain⟨o,h1,h2,h3⟩:=st;exact⟨o,k it (by simp) o h1,h2,h3⟩
 item:=by
  intro X hP hw hK hc i ah s σ H E I hf st hg;subst hP hw hK;obtain⟨f0,f1,f2,f3,f4,f5⟩:=hf it (by simp);obtain⟨hq,jT⟩:=hg;obtain⟨b7,rv,p,hz⟩:=I.list hq;have hl:=rv.length;have ej:((n:Int)-1-(i:Nat))=((n-1-i:Nat):Int):=by omega
  rw[ej]at st;have hj:n-1-i<xs.length:=by omega
  obtain⟨u,hu,ru⟩:=rv.get (bK hj);refine wpAny_pyNext_rev_item st p.isList (x:=u) (by simpa using hu) fun h' Dn sb=>?_;have I1:Inv X ah σ H {s with heap:=h'}:=I.turned (t':=s.toks) (fun b o hb e=>sb.extBut b o hb e) f0 f1 f3 f4 f5;have F0:h'.IsRevIter it a ((n:Int)-1-((i+1:Nat):Int)):=by
   have:((n:Int)-1-((i+1:Nat):Int))=((n-1-i:Nat):Int)-1:=by omega
   rw[this];exact Dn
  obtain⟨o,o1,o2,o3⟩:=id F0;refine⟨u,rfl,za (s:={s with heap:=h'}) o1 o2 o3 (by decide) ⟨xs[n-1-i],H,I1,ru,⟨rfl,?_⟩,F0,fun b hb=>(hf b hb).1⟩⟩;rw[CD (by omega),hn];exact bK hj
 done:=by
  intro X hP hw hK hc i ah s σ H E I hf st hg;subst hP hw hK;obtain⟨f0,f1,f2,f3,f4,f5⟩:=hf it (by simp);obtain⟨hq,he⟩:=hg;have ej:((n:Int)-1-(i:Nat))= -1:=by omega
  rw[ej]at st;exact wpAny_pyNext_rev_end (I.ok.hd hc) st fun h' eb=>⟨rfl,I.turned (t':=s.toks) (fun b o hb e=>eb b o hb e) f0 f1 f3 f4 f5⟩
 self:=fun _ _ _ _ _ st h=>wpAny_pyIter_revIter st h
def GU(K:aa)(ta:TA):TI:=fun σ H R=>ta σ H fun vs H1=>∃a xs,vs=[.ref a]/\iZ K H1 a xs/\R (Mi K a xs) H1
theorem Vg(K:aa)(hK:X.K=K){tg l:Expr}{ta:TA}{p pos:Pos}(hg:Gl X "reversed")(hm:X.mg "reversed"=none)(ha:PA X [l] ta)(hs:starEach [l] X.env=[(false,eval l X.env)]:=by rfl):
    PI X tg (.Call (.Name "reversed" p) [l] [] pos) (GU K ta):=by
  subst hK;intro ah s σ H R I h;refine Call_ (L5 I hg hm boot_reversed (jv (eJ (ha pos ah s σ H _ I h) fun us s1⟨vs,H1,I1,r1,q1⟩=>?_) hs rfl));obtain⟨a,xs,rfl,hq,q⟩:=q1;obtain⟨u,rfl,r⟩:=cj.one r1;cases r
  obtain⟨b7,rv,p,hz⟩:=I1.list hq;refine call_reversed_list p.isList ?_;have Aq:(s1.heap.push (revObj a ((b7.toArray.size:Int)-1))).IsRevIter s1.heap.objs.size a ((b7.toArray.size:Int)-1):=⟨_,Heap.get?_push_size _ rfl,rfl,rfl⟩;refine wpAny_pyIter_revIter Aq ?_;have hl:=rv.length;refine⟨s1.heap.objs.size,[s1.heap.objs.size],_,_,H1,rfl,I1.kept (t':=s1.toks) fun b o e=>Heap.get?_push_of_some _ e,zxc a _ xs b7.toArray.size (by simp;exact hl),?_,fun b hb=>?_,q⟩
  · show Heap.IsRevIter _ _ _ ((b7.toArray.size:Int)-1-((0:Nat):Int));have:((b7.toArray.size:Int)-1-((0:Nat):Int))=(b7.toArray.size:Int)-1:=by omega
    rw[this];exact Aq
  · have e:b=s1.heap.objs.size:=by simpa using hb
    subst e;exact I1.AM (az _) (I1.eB.fresh (az _))
end
theorem zzv{K:aa}{a:Addr}{xs:List V}{g:TG}{tb:TS}{D:Ends}{σ:St}{H:Hp}(Pv:Nat->St->Hp->Prop)(h0:Pv 0 σ H)(hl:∀i σ H,i<=xs.length->Pv i σ H->iZ K H a xs)(hs:∀i x σ H,xs.reverse[i]?=some x->Pv i σ H->g x σ H fun σ2 H2=>tb {D with nx:=Pv (i+1),ct:=Pv (i+1),bk:=D.nx} σ2 H2)(hd:∀σ H,Pv xs.length σ H->D.nx σ H):
    ∃W:Nat->Nat->St->Hp->Prop,(∃m,W 0 m σ H)/\∀i m σ H,W i m σ H->
      ((Mi K a xs).stop i H/\D.nx σ H)\/((Mi K a xs).go i H/\∃N:St->Hp->Prop,(∀σ' H',N σ' H'->∃m',m' < m/\W (i+1) m' σ' H')/\∀x H',(Mi K a xs).Je i H x H'->g x σ H' fun σ2 H2=>tb {D with nx:=N,ct:=N,bk:=D.nx} σ2 H2):=by
  refine⟨fun i m σ H=>m=xs.length-i/\i<=xs.length/\Pv i σ H,⟨xs.length,by simp,bZ _,h0⟩,?_⟩;rintro i m σ H ⟨rfl,hi,p⟩;have q:=hl i σ H hi p;by_cases jT:i<xs.length
  · refine .inr ⟨⟨q,jT⟩,Pv (i+1),fun σ' H' p'=>⟨xs.length-(i+1),by omega,rfl,jT,p'⟩,fun y H' z=>?_⟩;obtain⟨rfl,hx⟩:=z;exact hs i y σ _ hx p
  · have e:i=xs.length:=by omega
    subst e;exact .inl ⟨⟨q,rfl⟩,hd σ H p⟩
end L2
namespace L2
end L2
namespace L2
open PySem PySem.Spec PyProof.Rows
def DSd(H:Hp)(a:Addr)(y d:V)(v:V)(H':Hp):Prop:=∃kvs k,H a=some (.dK kvs)/\y=kV k/\kvs.length<sizeLine/\((gi kvs k=some v/\H'=H)\/(gi kvs k=none/\v=d/\H'=upd H a (.dK (fU kvs k d))))
section
variable{X:Cx}{ah:List (Addr×Obj)}{σ:St}{H H':Hp}{s:Shared}{a:Addr}{y d v:V}{u r:Value}{A:Around}{E:Value->Shared->Prop}
end
def KY(td ty tx:TE):TE:=fun σ H Q=>td σ H fun x H1=>∃a,x= .ref a/\Lk H1 a/\ty σ H1 fun y H2=>tx σ H2 fun z H3=>∃v H4,DSd H3 a y z v H4/\Q v H4
section
variable{X:Cx}{o e f:Expr}{td ty tx:TE}{gM iJ:Pos}
end
end L2
namespace Sw
open L2
def ov(low high:Rat)(u:T3):Rat:=if u.2.1<=low then 0 else if high<=u.1 then 0 else(if u.2.1<=high then u.2.1 else high)-(if low<=u.1 then u.1 else low)
end Sw
namespace Sw
open L2
end Sw
namespace Sw
open L2
end Sw
namespace L2
open PySem PySem.Spec PyProof.Rows
section
variable{X:Cx}
end
abbrev D2:=Int×Int
def d2(g:D2):List V:=[.int g.1,.int g.2]
def JL(g:D2):PyData:=.tuple [.int g.1,.int g.2]
abbrev jj(H:Hp):List Addr->List D2->Prop:=Paired fun p g=>H p=some (.tup (d2 g))
theorem jj.len{H:Hp}{ps:List Addr}{gs:List D2}(h:jj H ps gs):ps.length=gs.length:=Paired.length h
theorem jj.keep{H H':Hp}{ps:List Addr}{gs:List D2}(h:jj H ps gs)(e:∀p xs,H p=some (.tup xs)->H' p=some (.tup xs)):jj H' ps gs:=Paired.G0 h fun _ _ q=>e _ _ q
theorem jj.same{H H':Hp}{ps:List Addr}{gs:List D2}(h:jj H ps gs)(e:bE H H'):jj H' ps gs:=h.keep fun _ _ q=>e _ _ q
theorem jj.app{H:Hp}{rs:List Addr}{ss:List D2}(h2:jj H rs ss):∀{ps:List Addr}{gs:List D2},jj H ps gs->jj H (ps++rs) (gs++ss)
 |_,_,Paired.nil=>h2
 |_,_,Paired.cons a b=>.cons a (jj.app h2 b)
theorem jj.get{H:Hp}:∀{ps:List Addr}{gs:List D2}{i:Nat}{p:Addr},jj H ps gs->ps[i]?=some p->∃q,gs[i]?=some q/\H p=some (.tup (d2 q))
 |_,_,_,_,Paired.nil,e=>by simp at e
 |_,_,0,_,Paired.cons a _,e=>by simp at e;subst e;exact⟨_,rfl,a⟩
 |_,_,i+1,_,Paired.cons _ b,e=>by obtain⟨q,h1,h2⟩:=jj.get (i:=i) b (by simpa using e);exact⟨q,by simpa using h1,h2⟩
theorem jj.deep{K:aa}{H:Hp}:∀{ps:List Addr}{gs:List D2},jj H ps gs->iG K H (ps.map V.ref) (gs.map JL)
 |_,_,Paired.nil=>.nil
 |_,_,Paired.cons a b=>.cons (.tup (.of a) (.cons (.int _) (.cons (.int _) .nil))) (jj.deep b)
structure CA(H:Hp)(l:Addr)(ps:List Addr)(gs:List D2):Prop where
 hl:H l=some (.lst (ps.map V.ref))
 r:jj H ps gs
theorem CA.same{H H':Hp}{l:Addr}{ps:List Addr}{gs:List D2}(R:CA H l ps gs)(e:bE H H'):CA H' l ps gs:=⟨e _ _ R.hl,R.r.same e⟩
theorem CA.deep{K:aa}{H:Hp}{l:Addr}{ps:List Addr}{gs:List D2}(R:CA H l ps gs):kC K H (.ref l) (.list (gs.map JL)):=.lst (.of R.hl) R.r.deep
theorem CA.upd{H:Hp}{l f:Addr}{ps:List Addr}{gs:List D2}{xs ys:List V}(R:CA H l ps gs)(hf:H f=some (.lst xs))(ne:l≠f):CA (L2.upd H f (.lst ys)) l ps gs:=
 ⟨by rw[bM ne];exact R.hl,R.r.keep fun p z e=>by rw[bM (b8 e hf (by intro w;cases w))];exact e⟩
theorem zzw(q:D2):(JL q).canLay0=true:=rfl
theorem zuz(q:D2):(JL q).depth<=1:=by simp[JL,PyData.depth,PyData.depthAll]
theorem Y8(gs:List D2):aX (.list (gs.map JL))=true:=zqg zzw zuz (by decide) gs
end L2
namespace Sw
open L2
end Sw
namespace L2
open PySem PySem.Spec PyProof.Rows
section
variable{X:Cx}
theorem zzx{i0:Nat}{y:Str}{py E5:Pos}{wN eW iter:Expr}{vC:List Expr}{scope:Scope}{pos:Pos}{cl:List (Str×Addr)}{ts:List Str}{fr:List (Str×Nat)}{wi:TI}{g:TG}{tc:TT}{te:TE}(qE:X.calm=true)(uE:closureFor scope X.env=pure cl)(oY:∀y∈scope.names,y.2≠.cell)(j4:scope.kind= .function)(pI:∀y∈scope.names,y.2= .local->scope.names.lookup y.1=some .local)(vU:∀x c,cl.lookup x=some c->X.env.cells.lookup x=some c)(vV:∀x,((relabel scope X.env).names.lookup x=some .cell\/(relabel scope X.env).names.lookup x=some .free)->∃c,cl.lookup x=some c)(GK:xy X (relabel scope X.env) fr)(hi:PI X eW iter wi)(hg:∀fp s H,PG (sL X scope cl (ts++fr.map (·.1)) fp s H) eW g)(hc:∀fp s H,CG (sL X scope cl (ts++fr.map (·.1)) fp s H) vC tc)(he:∀fp s H,PE (sL X scope cl (ts++fr.map (·.1)) fp s H) wN te)(SM:swapsWith (.ListComp wN [⟨eW,iter,vC,0⟩] scope pos) (some (.Name y py)) E5.line X.env=pure true)(hN:X.N.Nodup)(Sj:X.N[i0]?=some y)(hy:Loc X.env.scope y)(hs:∀x,foldedSetIterable iter X.env x=pure x:=by intro _;rfl)(hf:X.fn y=true\/X.env.scope.names.lookup y=some .local:=by first|exact .inl rfl|exact .inr rfl|assumption):
    PS X (.Assign [.Name y py] (.ListComp wN [⟨eW,iter,vC,0⟩] scope pos) E5) (yi (xj ts.length fr wi g tc te) (nB i0)):=by
  intro ah s σ H D I h;have h:xj ts.length fr wi g tc te σ H (fun x H1=>D.nx (σ.set i0 (some x)) H1):=h;rw[exec_Assign_Name_used _ _ _ _ SM];refine wpAny_bind (wpAny_standAt (wpAny_bind ?_));show wpAny _ _ (do let _ <-comprehension (.ListComp wN [⟨eW,iter,vC,0⟩] scope pos) scope X.env _ (newList []) false (eval iter X.env) (some (assign (.Name y py) X.env))) _ _ s;refine wpAny_bind (wpAny_mono (wpAny_comprehension_free (use:=some (assign (.Name y py) X.env)) (Q:=fun _ s'=>SP X ah D .next s') rfl hs uE j4 pI (eJ (hi ah s σ H _ I h) fun xv s1 h1=>eJ h1 fun P1 s2 h2=>?_)) (fun _ s' hq=>wpAny_pure (wpAny_pure hq)) fun _ _ e=>e);obtain⟨it,fp,tn,J,H2,rfl,I2,T,F0,f2,hR⟩:=h2;have D0:H2 s2.heap.objs.size=none:=I2.eB.fresh (az _);obtain⟨W,⟨m0,w0⟩,sG⟩:=hR s2.heap.objs.size D0;refine wpAny_newObj_type (wpAny_newFunctionEnv oY (by intro y hy;simp at hy) (fun h₁ AS AU=>?_) j4);dsimp only at AS AU⊢;have I3:Inv X ah σ (upd H2 s2.heap.objs.size (.lst [])) {s2 with heap:=s2.heap.push {cls:=.type "list",dict:=none,data:=.seq ([]:List Value).toArray}}:=
    I2.laid (t':=s2.toks) (fun _ _ q=>Heap.get?_push_of_some _ q) (az _) ⟨bZ _,[],0,.nil,Heap.get?_push_size _ rfl⟩;have Nh:∀b o,s2.heap.get? b=some o->(s2.heap.push {cls:=.type "list",dict:=none,data:=.seq ([]:List Value).toArray}).get? b=some o:=fun b o q=>Heap.get?_push_of_some _ q;have LN:(s2.heap.push {cls:=.type "list",dict:=none,data:=.seq ([]:List Value).toArray}).objs.size=s2.heap.objs.size+1:=Heap.size_push ..;generalize s2.heap.push {cls:=.type "list",dict:=none,data:=.seq ([]:List Value).toArray}=lM at AS AU I3 Nh LN⊢;have kp:∀b o,lM.get? b=some o->h₁.get? b=some o:=fun b o e=>AU.extBut b o (aZ (Heap.lt_size e)) (Heap.get?_push_of_some _ e);have FG:∀b∈fp,b<s2.heap.objs.size:=fun b hb=>by
    obtain⟨o,e,_⟩:=T.obj _ _ F0 b hb;exact Heap.lt_size e
  have Ao:∀b∈fp,(upd H2 s2.heap.objs.size (.lst [])) b=none:=fun b hb=>by rw[bM (aZ (FG b hb))];exact(f2 b hb).1
  have f3:∀b∈fp,rM X ah (upd H2 s2.heap.objs.size (.lst [])) b/\b<lM.objs.size:=fun b hb=>⟨⟨Ao b hb,(f2 b hb).2⟩,by rw[LN];exact gW (FG b hb)⟩;have I4:=zrk (ts:=ts) (t':=s2.toks+([]:List (Str×Value)).length) I3 j4 vU vV GK f3 AS kp;have Op:tn 0 h₁:=T.keep _ _ _ F0 fun b hb o e=>kp b o (Nh b o e);have loop:codeAny (model X.prog X.w) X.A (.compLoop (.ListComp wN [⟨eW,iter,vC,0⟩] scope pos) 0 (.ref it) (.ref s2.heap.objs.size) (compEnvC scope cl lM.objs.size X.env))
      (compPost (model X.prog X.w) X.A X.xe (some (assign (.Name y py) X.env)) (fun _ s'=>SP X ah D .next s') (.ref s2.heap.objs.size) lM.objs.size) {s2 with heap:=h₁,toks:=s2.toks+([]:List (Str×Value)).length}:=by
    refine XF (fun n s'=>∃i τ H',Inv (sL X scope cl (ts++fr.map (·.1)) fp {s2 with heap:=lM} (upd H2 s2.heap.objs.size (.lst []))) [] τ H' s'/\tn i s'.heap/\(∀b∈fp,H' b=none)/\W i n τ H') ?_ m0 ⟨0,_,_,I4,Op,Ao,w0⟩;rintro n s5 ⟨i,τ,H5,I5,zX,El,w5⟩;have mD:∀{H':Hp},(∀b∈fp,H' b=none)->∀b∈fp,rM (sL X scope cl (ts++fr.map (·.1)) fp {s2 with heap:=lM} (upd H2 s2.heap.objs.size (.lst []))) [] H' b:=
      fun hn b hb=>⟨hn b hb,(I5.ok.GA b hb).1,I5.ok.xP b hb,.inl hb,(I5.ok.GA b hb).2,fun p hp=>absurd (show p∈([]:List (Addr×Obj))from hp) (by simp)⟩;rcases sG i n τ H5 w5 with⟨stop,qn⟩ |⟨go,Nn,hN,step⟩
    · refine eJ (T.done (sL X scope cl (ts++fr.map (·.1)) fp {s2 with heap:=lM} (upd H2 s2.heap.objs.size (.lst []))) rfl rfl rfl qE i [] s5 τ H5 _ I5 (mD El) zX stop) fun r s6⟨hr,I6⟩=>?_;subst hr;have DJ:∀b o,lM.get? b=some o->b≠lM.objs.size:=fun b o e=>aZ (Heap.lt_size e);have I7:Inv X ah σ H5 s6:=by refine I3.By (s':=s6) (ch:=fp) I6.os ⟨fun b o e n hb hx=>I6.base.keep b o e n hb hx,fun b o e n hb hx=>I6.base.slot b o e n hb hx,I6.base.free,fun b o e hx=>I6.base.there b o e hx,I6.base.rA,I6.base.mO,I6.base.rj⟩ I6.eB I6.bare (fun b hb=>?_);exact⟨(f2 b hb).2.2.2.1,(f2 b hb).2.1,(f2 b hb).2.2.2.2.1,(f2 b hb).2.2.2.2.2⟩
      have lC:X.env.locals≠lM.objs.size:=by obtain⟨_,⟨o,_,_,ho,_⟩,_⟩:=I3.loc;exact DJ _ o ho
      have cC:∀x c,X.env.cells.lookup x=some c->c≠lM.objs.size:=fun x c e=>by obtain⟨v,o,ho,_⟩:=I3.cell x c e;exact DJ _ o ho
      have fC:H5 lM.objs.size=none:=I6.free;obtain⟨m,hn,_⟩:=I6.loc;show wpAny _ _ (assign (.Name y py) X.env (.ref s2.heap.objs.size)) _ _ _;refine wpAny_assign_Name (Zw I7 hN Sj hy (v:=.ref s2.heap.objs.size) rfl (fun s8 I8 hsb=>?_) hf);obtain⟨al,SJ,hal⟩:=hsb;have alC:lM.objs.size≠al:=by
        rcases hal with z|z
        · rw[z];exact b9 lC
        · exact b9 (cC _ _ z)
      have SJ:Heap.SameBut al s6.heap s8.heap:=SJ;have hnC:s6.heap.Ns lM.objs.size m:=hn;refine⟨m,hnC.sameBut SJ alC,fun h' vY=>⟨σ.set i0 (some (.ref s2.heap.objs.size)),H5,?_,qn⟩⟩;have vY:Heap.SameBut lM.objs.size s8.heap h':=vY;refine I8.By (s':={s8 with heap:=h'}) (ch:=[lM.objs.size]) rfl ⟨fun b o e n hb hx=>?_,fun b o e n hb hx=>?_,fun b o e n hx=>n,fun b o e hx=>?_,fun _ _ q=>q,fun _ _ _ q=>q,fun b ps q=>⟨#[],by rw[q];simp⟩⟩ (fun b ob e=>?_) I8.bare (fun b hb=>?_)
      · exact(vY.2 b (fun z=>hx (by simp[z]))).trans e
      · exact⟨o.slots,(vY.2 b (fun z=>hx (by simp[z]))).trans e⟩
      · exact⟨o,(vY.2 b (fun z=>hx (by simp[z]))).trans e⟩
      · refine(I8.eB b ob e).iS (fun c v hc q=>(vY.2 c ?_).trans q) (fun _ q=>q) fun _ _ q=>q;intro z;rcases hc with w|w
        · rw[<-w,z,fC]at e;cases e
        · rw[z,fC]at w;cases w
      · have z:b=lM.objs.size:=by simpa using hb
        subst z;refine⟨.inr (bL (bL I2.sz (by rw[LN];exact gC _)) (az _)),b9 lC,cC,fun p hp e=>?_⟩;obtain⟨q1,_⟩:=I3.pin p hp;exact DJ _ _ q1 e
    · refine eJ (T.item (sL X scope cl (ts++fr.map (·.1)) fp {s2 with heap:=lM} (upd H2 s2.heap.objs.size (.lst []))) rfl rfl rfl qE i [] s5 τ H5 _ I5 (mD El) zX go) fun r s6⟨u,hr,h6⟩=>?_;subst hr;refine eJ h6 fun _ s7⟨x,H7,I7,r7,y7,KS,Lx⟩=>?_;have Q6:=I7.pinned (mD Lx) (T.obj _ _ KS);refine wpAny_mono (hg fp _ _ _ s7 τ H7 x u _ Q6 r7 (step x H7 y7)) (fun _ s8⟨τ8,H8,I8,q8⟩=>?_) fun _ _ z=>bI z;have again:∀{τ9:St}{H9:Hp}{s9:Shared},Inv (sL X scope cl (ts++fr.map (·.1)) fp {s2 with heap:=lM} (upd H2 s2.heap.objs.size (.lst []))) ([]++Jk fp s7.heap) τ9 H9 s9->Nn τ9 H9->
          ∃m,m<n/\∃i τ H',Inv (sL X scope cl (ts++fr.map (·.1)) fp {s2 with heap:=lM} (upd H2 s2.heap.objs.size (.lst []))) [] τ H' s9/\tn i s9.heap/\(∀b∈fp,H' b=none)/\W i m τ H':=fun{τ9 H9 s9} I9 n9=>by
        obtain⟨m',hm,w9⟩:=hN τ9 H9 n9;refine⟨m',hm,i+1,τ9,H9,I9.iT,T.keep _ _ _ KS fun b hb o e=>(I9.pin (b,o) (aB _ (aB _ (F4 hb e)))).1,fun b hb=>?_,w9⟩;obtain⟨o,e,d⟩:=T.obj _ _ KS b hb;exact(I9.pin (b,o) (aB _ (aB _ (F4 hb e)))).2.1
      refine wpAny_mono (hc fp _ _ _ s8 τ8 H8 _ I8 q8) (fun ok s9⟨H9,I9,q9⟩=>?_) fun _ _ z=>bI z;cases ok with
      |false=>exact again I9 q9
      |true=>
        refine wpAny_mono (he fp _ _ _ s9 τ8 H9 _ I9 q9) (fun y FZ⟨v,Js,Q3,rv,ys,hD,hl,qN⟩=>?_) fun _ _ z=>bI z;refine wpAny_mono (F5 (X:=sL X scope cl (ts++fr.map (·.1)) fp {s2 with heap:=lM} (upd H2 s2.heap.objs.size (.lst []))) _ FZ τ8 Js (.ref s2.heap.objs.size) [v] (.ref s2.heap.objs.size) [y] (fun _ H=>Nn τ8 H) Q3 rfl (.cons rv .nil) ⟨_,ys,v,rfl,rfl,hD,hl,qN⟩) (fun _ NV⟨_,Pa,Q5,_,To⟩=>again Q5 To) fun _ _ z=>bI z
  exact codeAny_compStart_list loop (T.self X.A 0 _ _ _ Op loop)
theorem zzy{i0:Nat}{y:Str}{py E5:Pos}{wN eW iter:Expr}{vC:List Expr}{scope:Scope}{pos:Pos}{cl:List (Str×Addr)}(ts:List Str)(fr:List (Str×Nat)){wi:TI}{g:TG}{tc:TT}{te:TE}(qE:X.calm=true)(uE:closureFor scope X.env=pure cl)(oY:∀y∈scope.names,y.2≠.cell)(j4:scope.kind= .function)(pI:∀y∈scope.names,y.2= .local->scope.names.lookup y.1=some .local)(vU:Cw X.env cl)(vV:BA (relabel scope X.env).names cl=true)(GK:xy X (relabel scope X.env) fr)(hi:PI X eW iter wi)(hg:∀fp s H,PG (sL X scope cl (ts++fr.map (·.1)) fp s H) eW g)(hc:∀fp s H,CG (sL X scope cl (ts++fr.map (·.1)) fp s H) vC tc)(he:∀fp s H,PE (sL X scope cl (ts++fr.map (·.1)) fp s H) wN te)(SM:swapsWith (.ListComp wN [⟨eW,iter,vC,0⟩] scope pos) (some (.Name y py)) E5.line X.env=pure true)(hN:X.N.Nodup)(Sj:X.N[i0]?=some y)(hy:Loc X.env.scope y)(hs:∀x,foldedSetIterable iter X.env x=pure x:=by intro _;rfl)(hf:X.fn y=true\/X.env.scope.names.lookup y=some .local:=by first|exact .inl rfl|exact .inr rfl|assumption):
    PS X (.Assign [.Name y py] (.ListComp wN [⟨eW,iter,vC,0⟩] scope pos) E5) (yi (xj ts.length fr wi g tc te) (nB i0)):=
  zzx qE uE oY j4 pI vU.get (fun x q=>ZH vV x q) GK hi hg hc he SM hN Sj hy hs hf
end
theorem Ij{P:Program}{w:World}{k:Key}{u:Value}(h:(nS P w).is k u=true):RelV (kV k) u:=by
 rcases F3 h with⟨i,t,rfl,rfl⟩ |⟨x,t,rfl,rfl⟩
 ·exact⟨t,rfl⟩
 ·exact⟨t,rfl⟩
theorem ZM{P:Program}{w:World}:∀{kvs:List (Key×V)}{vs:List (Key×Value)}{us:List Value},KV kvs vs->us.length=vs.length->(∀(j:Nat)(v:Value),us[j]?=some v->∃k x,vs[j]?=some (k,x)/\(nS P w).is k v=true)->cj (kvs.map fun kv=>kV kv.1) us
 |_,_,[],Paired.nil,_,_=>.nil
 |_,_,_::_,Paired.nil,e,_=>by cases e
 |_,_,[],Paired.cons _ _,e,_=>by cases e
 |_,_,u::us,Paired.cons (a:=p) (b:=q) h t,e,hj=>by
  obtain⟨k,x,h1,h2⟩:=hj 0 u rfl;have h1:q=(k,x):=by simpa using h1
  subst h1;have e1:p.1=k:=h.1;refine .cons ?_ (ZM t (by simpa using e) fun j v hv=>hj (j+1) v (by simpa using hv));show RelV (kV p.1) u;rw[e1];exact Ij h2
def NP:List V->Hp->VK->Prop:=fun xs H Q=>∃a kvs,xs=[.ref a]/\H a=some (.dK kvs)/\∀l,H l=none->Q (.ref l) (upd H l (.lst (kvs.map fun kv=>kV kv.1)))
section
variable{X:Cx}
theorem zsw(hc:X.calm=true):mV X (.type "list") NP:=by
 intro ah s σ H xs us Q I r h;obtain⟨a,kvs,rfl,ha,q⟩:=h;obtain⟨u,rfl,ru⟩:=r.one;cases ru
 obtain⟨z,hd,vs,jE,o,es,ep,d1⟩:=sS I.eB ha;refine PySem.W.kdl_call (PySem.W.kdl_dict (knd:=nS X.prog X.w) (kvs:=vs) (ep:=ep) hd) (I.ok.hd hc) ⟨o,es,d1⟩ (by rw[<-jE.length];exact z) fun h' tk HR c hk hD it=>?_;have hv:cj (kvs.map fun kv=>kV kv.1) HR.toList:=ZM jE (by rw[kj];exact it.1) fun j v e=>it.2 j v (by rw[<-nY];exact e);have new:fT X.prog X.w (upd H s.heap.objs.size (.lst (kvs.map fun kv=>kV kv.1))) h' s.heap.objs.size (.lst (kvs.map fun kv=>kV kv.1)):=⟨by rw[ai];exact z,HR.toList,c,hv,by rw[Array.toArray_toList];exact hD⟩;exact⟨.ref s.heap.objs.size,_,I.laid hk (az _) new,rfl,q _ I.fresh⟩
end
section
variable{X:Cx}{ah:List (Addr×Obj)}{σ:St}{H:Hp}{s:Shared}{a:Addr}{kvs:List (Key×V)}{o:Obj}
theorem Inv.frozen(I:Inv X ah σ H s)(h:H a=some (.dK kvs))(ho:s.heap.get? a=some o):Inv X ah σ (upd H a (.jx o (.dK kvs))) s:=by
 have ne:∀b,H b=none->b≠a:=fun b n z=>by rw[z,h]at n;cases n
 have nt:∀b u,H b=some u->(∀k,u≠.dK k)->b≠a:=fun b u e n z=>by rw[z,h]at e;cases e;exact n _ rfl
 have up:∀b u,H b=some u->(∀k,u≠.dK k)->upd H a (.jx o (.dK kvs)) b=some u:=fun b u e n=>by rw[bM (nt b u e n)];exact e
 have eB:kL X.prog X.w (upd H a (.jx o (.dK kvs))) s.heap:=fun b ob e=>by
  by_cases hb:b=a
  ·subst hb;rw[bX]at e;cases e
   exact⟨ho,(I.eB b _ h).iS (fun _ _ _ q=>q) (fun c q=>up c _ q (by intro k z;cases z)) fun c xs q=>up c _ q (by intro k z;cases z)⟩
  ·rw[bM hb]at e;exact(I.eB b _ e).iS (fun _ _ _ q=>q) (fun c q=>up c _ q (by intro k z;cases z)) fun c xs q=>up c _ q (by intro k z;cases z)
 exact I.step (g':=s.gens) (d':=s.drawn) (t':=s.toks) (ch:=[]) (fun _ z=>nomatch z) (fun b o' _ _ _ e _=>e) (fun b o' _ _ _ e _=>⟨o'.slots,e⟩) (fun b o' _ _ n=>by rw[bM (ne b n)];exact n) (fun b o' _ e=>⟨o',e⟩)
  (fun b xs q=>up b _ q (by intro k z;cases z)) (fun b o' u q=>up b _ q (by intro k z;cases z)) (fun b ps q=>⟨#[],by rw[up b _ q (by intro k z;cases z)];simp⟩) (fun m q=>q) eB I.bare
theorem Inv.yp(I:Inv X ah σ H s)(h:H a=some (.jx o (.dK kvs)))(n0:∀o u,X.H₀ a≠some (.jx o u)):Inv X ah σ (upd H a (.dK kvs)) s:=by
 have ne:∀b,H b=none->b≠a:=fun b n z=>by rw[z,h]at n;cases n
 have un:∀b,H b=none->upd H a (.dK kvs) b=none:=fun b n=>by rw[bM (ne b n)];exact n
 have nt:∀b u,H b=some u->(∀k v,u≠.jx k v)->upd H a (.dK kvs) b=some u:=fun b u e n=>by
  have:b≠a:=fun z=>by rw[z,h]at e;cases e;exact n _ _ rfl
  rw[bM this];exact e
 have eB:kL X.prog X.w (upd H a (.dK kvs)) s.heap:=fun b ob e=>by
  by_cases hb:b=a
  ·subst hb;rw[bX]at e;cases e
   exact(I.eB b _ h).2.iS (fun _ _ _ q=>q) (fun c q=>nt c _ q (by intro k v z;cases z)) fun c xs q=>nt c _ q (by intro k v z;cases z)
  ·rw[bM hb]at e;exact(I.eB b _ e).iS (fun _ _ _ q=>q) (fun c q=>nt c _ q (by intro k v z;cases z)) fun c xs q=>nt c _ q (by intro k v z;cases z)
 refine⟨I.ok,I.os,I.bare,⟨I.base.keep,I.base.slot,fun b o' e n hx=>un b (I.base.free b o' e n hx),I.base.there,fun b xs q=>nt b _ (I.base.rA b xs q) (by intro k v z;cases z),fun b o' u q=>?_,fun b ps q=>?_⟩,I.loc,I.cell,un _ I.free,fun x c e=>un _ (I.j3 x c e),fun p hp=>?_,eB,I.len⟩
 ·have hb:b≠a:=fun z=>n0 o' u (by rw[<-z];exact q);rw[bM hb];exact I.base.mO b o' u q
 ·obtain⟨m,e⟩:=I.base.rj b ps q;exact⟨m,nt b _ e (by intro k v z;cases z)⟩
 ·obtain⟨e,n,r⟩:=I.pin p hp;exact⟨e,un _ n,r⟩
end
section
variable{X:Cx}{tg:Expr}
end
structure HH(K:aa)(C:Addr)(m:Str)(f:Addr):Prop where
 mc:∃mc,Fw K C mc=true/\Ft K (.ref C) mc m=some (.val (.ref f))
 ga:iX K (.ref C) "__getattribute__"=some (some (.builtin "type.__getattribute__"))
 kp:aO K (.ref f)=true
structure Ec(K:aa)(C:Addr)(m dP:Str)(st:Stmt)(ps:List Str):Prop where
 ex:∃(f:Addr)(fd:FuncData),Gc K m dP st f fd/\HH K C m f/\kQ K fd ps []
structure Pg(P:Program)(w:World)(K:aa)(mg:Str->Option Value)(base:Heap)(CX:tw)(k:Nat)(C:Addr)(m:Str)(ps:List Str)(sp:Sp):Prop where
 ex:∃(f:Addr)(fd:FuncData),pX P w K mg base CX k f fd ps sp/\HH K C m f/\kQ K fd ps []
section
variable{P:Program}{w:World}{K:aa}{mg:Str->Option Value}{base:Heap}{CX:tw}{C:Addr}{m dP:Str}{st:Stmt}{N ps:List Str}{k:Nat}{sp:Sp}
theorem Ec.okN(F:Ec K C m dP st ps)(S:aE N ps (d9 st))(len:∀vs H Q E,sp vs H Q E->vs.length=ps.length)(iK:∀(f:Addr)(dF:Value)(A:Around)(outer:List Env)(s:Shared)(H:Hp)(vs:List V)(Q:VK)(E:XK),gu k (A.deeper (envOfC dP (d9 st) s.heap.objs.size f dF))->sp vs H Q E->
      ∃t,rQ (nv CX P w K mg base N dP (d9 st) f dF A outer s H E).BL (o8 st) t/\t {nx:=fun _ H'=>Q .cy H',rt:=Q} (start N vs) H):Pg P w K mg base CX (k+1) C m ps sp:=by
  obtain⟨f,fd,F,me,b⟩:=F.ex;obtain⟨oc,od,dV,kV,nT,pm,an,dF,ct,rJ,rfl,lk,pT⟩:=F.ex;exact⟨f,_,qC lk pT S len fun A outer s H vs Q E hr rT=>by obtain⟨t,h,q⟩:=iK f dF A outer s H vs Q E hr rT;exact⟨t,h.BL,q⟩,me,b⟩
end
def IV(sp:Sp)(Ek:XH)(t:TA):TE:=fun σ H Q=>t σ H fun vs H1=>sp vs H1 Q (fun v d H'=>Ek v d σ H')
section
variable{X:Cx}{CX:tw}{k:Nat}{C:Addr}{ps:List Str}{sp:Sp}{Ek:XH}{x m:Str}{p pos gM:Pos}{e:Expr}{es:List Expr}{t:TA}
theorem zva{pl:Sem Bool}(D:Pg X.prog X.w X.K X.mg X.base CX k C m ps sp)(hr:gu k X.A)(hx:DQ CX X Ek)(hg:Gl X x)(hm:X.mg x=some (.ref C))(ha:PA X (e::es) t)(zb:(x ==("__debug__":Str))=false:=by decide)(FL:starEach (e::es) X.env=(false,eval e X.env)::starEach es X.env:=by rfl)(Ar:(backTo pos (starEach es X.env)).any (·.1)=false:=by rfl)(ht:eval (.Call (.Attribute (.Name x p) m gM) (e::es) [] pos) X.env=(do
      let ov <-eval (.Name x p) X.env
      standAt gM.atName
      let(f,first) <-holding [ov] (getMethod ov m pl)
      callWith pos f first (backTo pos (starEach (e::es) X.env)) (backToKw pos (keywordEach [] X.env))):=by rfl):
    PE X (.Call (.Attribute (.Name x p) m gM) (e::es) [] pos) (IV sp Ek t):=by
  obtain⟨f,fd,F,cf,hb⟩:=D.ex;obtain⟨mc,h1,h2⟩:=cf.mc;intro ah s σ H Q I h;refine nh (pl:=pl) (Jh I hg hm ?_ zb) ht;refine PySem.W.method_cls I.rH cf.ga (PySem.W.cls_value I.rH h1 h2 rfl ?_);have I1:=I.tok (s.toks+1);refine gm (first:=[]) (h₀:=X.base) I.ok.mod.FP cf.kp (eJ (ha pos ah _ σ H _ I1 h) fun us s2⟨vs,H2,I2,r,q2⟩=>⟨I2.rH,?_⟩) FL Ar;exact VW (d7:=[]) F hr hb hx I2 r (by rw[aJ];exact q2)
end
section
variable{X:Cx}
theorem Wb(K:aa)(h:X.K=K):m5 X (compareOp .In) (Qc K false):=h▸ztw
theorem ZN(K:aa)(h:X.K=K):m5 X (compareOp .NotIn) (Qc K true):=h▸zoh
end
abbrev Nm:=List (Str×Int)
def kvsOf(nm:Nm):List (Key×V):=nm.map fun x=>((aC x.1:Key),V.int x.2)
def bD(nm:Nm)(x:Str):Option Int:=(nm.find? fun p=>decide (p.1=x)).map (·.2)
def putN(nm:Nm)(x:Str)(s:Int):Nm:=nm.map fun p=>if p.1=x then(p.1,s)else p
theorem OE(nm:Nm):(kvsOf nm).length=nm.length:=ai _
theorem HC(nm:Nm)(x:Str):gi (kvsOf nm) (aC x:Key)=(bD nm x).map V.int:=by
 induction nm with
 |nil=>rfl
 |cons p r ih=>
  unfold gi kvsOf bD at ih⊢;rw[ay,bR,bR];by_cases h:p.1=x
  ·simp[h]
  ·have h2:¬(aC p.1:Key)=aC x:=fun z=>h (gj z);simp only[decide_eq_false h,decide_eq_false h2];exact ih
theorem zru{nm:Nm}{x:Str}{s:Int}(h:bD nm x=none):fU (kvsOf nm) (aC x:Key) (.int s)=kvsOf (nm++[(x,s)]):=by
 unfold fU;have e:((kvsOf nm).any fun kv=>decide (kv.1=(aC x:Key)))=false:=by rw[HA,HC,h];rfl
 rw[e,if_neg (by decide)];unfold kvsOf;rw[aA];rfl
theorem VN{nm:Nm}{x:Str}{s:Int}(h:bD nm x≠none):fU (kvsOf nm) (aC x:Key) (.int s)=kvsOf (putN nm x s):=by
 unfold fU;have e:((kvsOf nm).any fun kv=>decide (kv.1=(aC x:Key)))=true:=by
  rw[HA,HC];cases q:bD nm x with
  |none=>exact absurd q h
  |some v=>rfl
 rw[e,if_pos rfl];unfold kvsOf putN;rw[eI,eI];refine br fun p _=>?_;by_cases hp:p.1=x
 ·subst hp;simp
 ·have h2:¬(aC p.1:Key)=aC x:=fun z=>hp (gj z);simp[hp]
theorem QD{nm:Nm}{x y:Str}{s:Int}:bD (putN nm x s) y=if y=x then(bD nm y).map fun _=>s else bD nm y:=by
 induction nm with
 |nil=>unfold bD putN;simp
 |cons p r ih=>
  unfold bD putN at ih⊢;rw[ay,bR,bR];by_cases hp:p.1=x
  ·rw[if_pos hp];by_cases hy:p.1=y
   ·simp[hy,hp▸hy.symm]
   ·simp only[decide_eq_false hy];exact ih
  ·rw[if_neg hp];by_cases hy:p.1=y
   ·have:¬y=x:=fun z=>hp (hy.trans z);simp[hy,this]
   ·simp only[decide_eq_false hy];exact ih
theorem OM{nm:Nm}{x y:Str}{s:Int}(h:bD nm x=none):bD (nm++[(x,s)]) y=if y=x then some s else bD nm y:=by
 unfold bD at h⊢;rw[Gi];by_cases hy:y=x
 ·subst hy;rw[if_pos rfl];cases q:nm.find? fun p=>decide (p.1=y)with
  |none=>simp
  |some v=>rw[q]at h;cases h
 ·rw[if_neg hy];have e:([(x,s)]:Nm).find? (fun p=>decide (p.1=y))=none:=by have:¬x=y:=fun z=>hy z.symm;simp[this]
  rw[e];simp
theorem zrv{nm:Nm}{x:Str}{s:Int}(h:bD nm x=some s):(x,s)∈nm:=by
 unfold bD at h;cases q:nm.find? fun p=>decide (p.1=x)with
 |none=>rw[q]at h;cases h
 |some v=>
  rw[q]at h;have e1:v.2=s:=aq h;have e2:v.1=x:=by simpa using n8 q
  have:=g8 q;rw[<-e1,<-e2];exact this
theorem Y9{nm:Nm}{x:Str}{s:Int}(h:(x,s)∈nm):bD nm x≠none:=by
 unfold bD;intro z;have z:nm.find? (fun p=>decide (p.1=x))=none:=by simpa using z
 have:=sN.mp z _ h;simp at this
structure Mb(C:Addr)(H:Hp)(p iy:Addr)(nm:Nm):Prop where
 ex:∃dx fs,H p=some (.ins C dx fs)/\fs.lookup ("shares":Str)=some (.ref iy)/\(∀m:Str,¬m="shares"->fs.lookup m=none)/\fs.length<900
 hs:H iy=some (.dK (kvsOf nm))
theorem Mb.same{C:Addr}{H H':Hp}{p iy:Addr}{nm:Nm}(h:Mb C H p iy nm)(s:bE H H'):Mb C H' p iy nm:=by obtain⟨dx,fs,h1,h2⟩:=h.ex;exact⟨⟨dx,fs,s _ _ h1,h2⟩,s _ _ h.hs⟩
theorem Mb.put{C:Addr}{H:Hp}{p iy:Addr}{nm C9:Nm}(h:Mb C H p iy nm):Mb C (upd H iy (.dK (kvsOf C9))) p iy C9:=by obtain⟨dx,fs,h1,h2⟩:=h.ex;exact⟨⟨dx,fs,by rw[bM (b8 h1 h.hs (by intro z;cases z))];exact h1,h2⟩,bX⟩
structure mh(H:Hp)(p:Addr)(f:Str->Option Rat)(n:Nat):Prop where
 ex:∃kvs,H p=some (.dK kvs)/\(∀x:Str,(f x=none/\gi kvs (aC x:Key)=none)\/∃r q,f x=some r/\gi kvs (aC x:Key)=some (.ref q)/\H q=some (.tup (fq r)))/\kvs.length<=n
theorem mh.keep{H H':Hp}{p:Addr}{f:Str->Option Rat}{n:Nat}(h:mh H p f n)(e:∀b o,b=p\/(∃xs,H b=some (.tup xs))->H b=some o->H' b=some o):mh H' p f n:=by
 obtain⟨kvs,h1,h2,h3⟩:=h.ex;refine⟨kvs,e _ _ (.inl rfl) h1,fun x=>?_,h3⟩;rcases h2 x with z|⟨r,q,a,b,c⟩
 ·exact .inl z
 ·exact .inr ⟨r,q,a,b,e _ _ (.inr ⟨_,c⟩) c⟩
theorem mh.same{H H':Hp}{p:Addr}{f:Str->Option Rat}{n:Nat}(h:mh H p f n)(s:bE H H'):mh H' p f n:=h.keep fun b o _ e=>s b o e
def iz(f:Str->Option Rat)(x:Str)(r:Rat):Str->Option Rat:=fun y=>if y=x then some r else f y
theorem mh.put{H:Hp}{p q:Addr}{f:Str->Option Rat}{n:Nat}{x:Str}{r:Rat}{kvs:List (Key×V)}(h1:H p=some (.dK kvs))(h2:∀x:Str,(f x=none/\gi kvs (aC x:Key)=none)\/∃r q,f x=some r/\gi kvs (aC x:Key)=some (.ref q)/\H q=some (.tup (fq r)))(h3:(fU kvs (aC x:Key) (.ref q)).length<=n)(hq:H q=some (.tup (fq r))):mh (upd H p (.dK (fU kvs (aC x:Key) (.ref q)))) p (iz f x r) n:=by
  have nt:∀b xs,H b=some (.tup xs)->upd H p (.dK (fU kvs (aC x:Key) (.ref q))) b=some (.tup xs):=fun b xs e=>by rw[bM (b8 e h1 (by intro z;cases z))];exact e
  refine⟨_,bX,fun y=>?_,h3⟩;rw[zwz];unfold iz;by_cases e:y=x
  · subst e;rw[if_pos rfl,if_pos rfl];exact .inr ⟨r,q,rfl,rfl,nt _ _ hq⟩
  · rw[if_neg e,if_neg (fun z=>e (gj z))];rcases h2 y with z|⟨r',q',a,b,c⟩
    · exact .inl z
    · exact .inr ⟨r',q',a,b,nt _ _ c⟩
structure FS(fs:List (Str×V))(most:Int)(pm:Addr)(ch:V)(pr pt pg:Addr):Prop where
 mo:fs.lookup ("most":Str)=some (.int most)
 me:fs.lookup ("members":Str)=some (.ref pm)
 ch:fs.lookup ("chosen":Str)=some ch
 re:fs.lookup ("reached":Str)=some (.ref pr)
 ta:fs.lookup ("tags":Str)=some (.ref pt)
 gr:fs.lookup ("greatest_steps":Str)=some (.ref pg)
 no:∀m:Str,¬m="most"->¬m="members"->¬m="chosen"->¬m="reached"->¬m="tags"->¬m="greatest_steps"->fs.lookup m=none
 len:fs.length<900
theorem eG{fs:List (Str×V)}{f g:Str}{v:V}(h:¬g=f):(aD f v fs).lookup g=fs.lookup g:=by rw[pR,if_neg h]
theorem oS{fs:List (Str×V)}{f:Str}{v:V}:(aD f v fs).lookup f=some v:=by rw[pR,if_pos rfl]
theorem FS.G2(most:Int)(pm:Addr)(ch:V)(pr pt pg:Addr):FS (aD "greatest_steps" (.ref pg) (aD "tags" (.ref pt) (aD "reached" (.ref pr) (aD "chosen" ch (aD "members" (.ref pm) (aD "most" (.int most) [])))))) most pm ch pr pt pg:=by
 refine⟨?_,?_,?_,?_,?_,?_,fun m h1 h2 h3 h4 h5 h6=>?_,?_⟩
 ·rw[eG (by decide+kernel),eG (by decide+kernel),eG (by decide+kernel),eG (by decide+kernel),eG (by decide+kernel),oS]
 ·rw[eG (by decide+kernel),eG (by decide+kernel),eG (by decide+kernel),eG (by decide+kernel),oS]
 ·rw[eG (by decide+kernel),eG (by decide+kernel),eG (by decide+kernel),oS]
 ·rw[eG (by decide+kernel),eG (by decide+kernel),oS]
 ·rw[eG (by decide+kernel),oS]
 ·rw[oS]
 ·rw[eG h6,eG h5,eG h4,eG h3,eG h2,eG h1];rfl
 ·have a1:=i9 (fs:=[]) (f:="most") (v:=.int most);have a2:=i9 (fs:=aD "most" (.int most) []) (f:="members") (v:=.ref pm);have a3:=i9 (fs:=aD "members" (.ref pm) (aD "most" (.int most) [])) (f:="chosen") (v:=ch);have a4:=i9 (fs:=aD "chosen" ch (aD "members" (.ref pm) (aD "most" (.int most) []))) (f:="reached") (v:=.ref pr);have a5:=i9 (fs:=aD "reached" (.ref pr) (aD "chosen" ch (aD "members" (.ref pm) (aD "most" (.int most) [])))) (f:="tags") (v:=.ref pt);have a6:=i9 (fs:=aD "tags" (.ref pt) (aD "reached" (.ref pr) (aD "chosen" ch (aD "members" (.ref pm) (aD "most" (.int most) []))))) (f:="greatest_steps") (v:=.ref pg);simp only[bG]at a1;omega
theorem FS.A2{fs:List (Str×V)}{most:Int}{pm:Addr}{ch ch':V}{pr pt pg:Addr}(h:FS fs most pm ch pr pt pg):FS (aD "chosen" ch' fs) most pm ch' pr pt pg:=by
 refine⟨?_,?_,oS,?_,?_,?_,fun m h1 h2 h3 h4 h5 h6=>?_,?_⟩
 ·rw[eG (by decide+kernel)];exact h.mo
 ·rw[eG (by decide+kernel)];exact h.me
 ·rw[eG (by decide+kernel)];exact h.re
 ·rw[eG (by decide+kernel)];exact h.ta
 ·rw[eG (by decide+kernel)];exact h.gr
 ·rw[eG h3];exact h.no m h1 h2 h3 h4 h5 h6
 ·rw[DN h.ch];exact h.len
theorem FS.KA{fs:List (Str×V)}{most:Int}{pm:Addr}{ch:V}{pr LM pt pg:Addr}(h:FS fs most pm ch pr pt pg):FS (aD "reached" (.ref LM) fs) most pm ch LM pt pg:=by
 refine⟨?_,?_,?_,oS,?_,?_,fun m h1 h2 h3 h4 h5 h6=>?_,?_⟩
 ·rw[eG (by decide+kernel)];exact h.mo
 ·rw[eG (by decide+kernel)];exact h.me
 ·rw[eG (by decide+kernel)];exact h.ch
 ·rw[eG (by decide+kernel)];exact h.ta
 ·rw[eG (by decide+kernel)];exact h.gr
 ·rw[eG h4];exact h.no m h1 h2 h3 h4 h5 h6
 ·rw[DN h.re];exact h.len
structure lV where
 p:Addr
 pm:Addr
 ps:Addr
 pt:Addr
 pg:Addr
structure Sx(C Cm:Addr)(H:Hp)(a:lV)(most:Int)(nm:Nm)(tg gs:Str->Option Rat)(ck:Rat)(ch:V)(N:Nat):Prop where
 ex:∃dx fs pr,H a.p=some (.ins C dx fs)/\FS fs most a.pm ch pr a.pt a.pg/\H pr=some (.tup (fq ck))
 mb:Mb Cm H a.pm a.ps nm
 dt:mh H a.pt tg N
 dg:mh H a.pg gs N
 nl:nm.length<=N
 n1:a.pt≠a.pg
 n2:a.pt≠a.ps
 n3:a.pg≠a.ps
 n4:a.p≠a.pm
theorem Sx.same{C Cm:Addr}{H H':Hp}{a:lV}{most:Int}{nm:Nm}{tg gs:Str->Option Rat}{ck:Rat}{ch:V}{N:Nat}(h:Sx C Cm H a most nm tg gs ck ch N)(s:bE H H'):Sx C Cm H' a most nm tg gs ck ch N:=by obtain⟨dx,fs,pr,h1,h2,h3⟩:=h.ex;exact⟨⟨dx,fs,pr,s _ _ h1,h2,s _ _ h3⟩,h.mb.same s,h.dt.same s,h.dg.same s,h.nl,h.n1,h.n2,h.n3,h.n4⟩
def mU(a:lV)(H H':Hp):Prop:=∀b o,b≠a.p->b≠a.ps->b≠a.pt->b≠a.pg->H b=some o->H' b=some o
theorem bE.own{a:lV}{H H':Hp}(s:bE H H'):mU a H H':=fun b o _ _ _ _ e=>s b o e
theorem mU.trans{a:lV}{H H1 H2:Hp}(x:mU a H H1)(y:mU a H1 H2):mU a H H2:=fun b o n1 n2 n3 n4 e=>y b o n1 n2 n3 n4 (x b o n1 n2 n3 n4 e)
def zw(st:Str->Rat)(x:Str):Option Str->Bool
 |none=>true
 |some y=>decide (st x<st y)
def gX(rd:Str->Bool)(st:Str->Rat):List Str->Option Str->Option Str
 |[],f=>f
 |x::r,f=>gX rd st r (if(rd x && zw st x f)=true then some x else f)
theorem OF{rd:Str->Bool}{st:Str->Rat}:∀{l:List Str}{f:Option Str}{x:Str},gX rd st l f=some x->(x∈l/\rd x=true)\/f=some x
 |[],f,x,h=>.inr h
 |y::r,f,x,h=>by
  unfold gX at h;rcases OF h with⟨a,b⟩ |z
  ·exact .inl ⟨ae _ a,b⟩
  ·split at z
   ·rename_i c
    cases z;rw[bY]at c;exact .inl ⟨by simp,c.1⟩
   ·exact .inr z
theorem VC{rd:Str->Bool}{st:Str->Rat}:∀{l:List Str}{f:Option Str},(f≠none\/∃x∈l,rd x=true)->gX rd st l f≠none
 |[],f,h=>by
  rcases h with z|⟨x,hx,_⟩
  ·exact z
  ·cases hx
 |y::r,f,h=>by
  unfold gX;refine VC ?_;by_cases c:(rd y && zw st y f)=true
  ·rw[if_pos c];exact .inl (by simp)
  ·rw[if_neg c];cases f with
   |some z=>exact .inl (by simp)
   |none=>
    rcases h with z|⟨x,hx,hr⟩
    ·exact absurd rfl z
    ·rcases ak.mp hx with e|e
     ·subst e;exact absurd (by rw[hr];rfl) c
     ·exact .inr ⟨x,e,hr⟩
theorem Zq{rd:Str->Bool}{st:Str->Rat}{x:Str}:∀{l:List Str}{f:Option Str},gX rd st (l++[x]) f=(if(rd x && zw st x (gX rd st l f))=true then some x else gX rd st l f)
 |[],f=>rfl
 |y::r,f=>by show gX rd st (r++[x]) _=_;rw[Zq];rfl
theorem mh.mono{H:Hp}{p:Addr}{f:Str->Option Rat}{n n':Nat}(h:mh H p f n)(l:n<=n'):mh H p f n':=by obtain⟨kvs,h1,h2,h3⟩:=h.ex;exact⟨kvs,h1,h2,by omega⟩
section
variable{C Cm:Addr}{H:Hp}{a:lV}{most:Int}{nm C9:Nm}{tg gs Xz WD:Str->Option Rat}{ck:Rat}{ch:V}{N N':Nat}{k:List (Key×V)}
theorem Sx.IF(S:Sx C Cm H a most nm tg gs ck ch N)(le:N<=N')(d:mh (upd H a.pt (.dK k)) a.pt Xz N'):Sx C Cm (upd H a.pt (.dK k)) a most nm Xz gs ck ch N':=by
 obtain⟨dx,fs,pr,h1,h2,h3⟩:=S.ex;obtain⟨kvs,g1,_⟩:=S.dt.ex;obtain⟨dm,fm,m1,m2⟩:=S.mb.ex;have kp:∀b o,b≠a.pt->H b=some o->upd H a.pt (.dK k) b=some o:=fun b o n e=>by rw[bM n];exact e
 refine⟨⟨dx,fs,pr,kp _ _ (b8 h1 g1 (by intro z;cases z)) h1,h2,kp _ _ (b8 h3 g1 (by intro z;cases z)) h3⟩,⟨⟨dm,fm,kp _ _ (b8 m1 g1 (by intro z;cases z)) m1,m2⟩,kp _ _ S.n2.symm S.mb.hs⟩,d,(S.dg.keep fun b o c e=>?_).mono le,by have:=S.nl;omega,S.n1,S.n2,S.n3,S.n4⟩;rcases c with z|⟨xs,z⟩
 ·subst z;exact kp _ _ S.n1.symm e
 ·exact kp _ _ (b8 z g1 (by intro z;cases z)) e
theorem Sx.IE(S:Sx C Cm H a most nm tg gs ck ch N)(le:N<=N')(d:mh (upd H a.pg (.dK k)) a.pg WD N'):Sx C Cm (upd H a.pg (.dK k)) a most nm tg WD ck ch N':=by
 obtain⟨dx,fs,pr,h1,h2,h3⟩:=S.ex;obtain⟨kvs,g1,_⟩:=S.dg.ex;obtain⟨dm,fm,m1,m2⟩:=S.mb.ex;have kp:∀b o,b≠a.pg->H b=some o->upd H a.pg (.dK k) b=some o:=fun b o n e=>by rw[bM n];exact e
 refine⟨⟨dx,fs,pr,kp _ _ (b8 h1 g1 (by intro z;cases z)) h1,h2,kp _ _ (b8 h3 g1 (by intro z;cases z)) h3⟩,⟨⟨dm,fm,kp _ _ (b8 m1 g1 (by intro z;cases z)) m1,m2⟩,kp _ _ S.n3.symm S.mb.hs⟩,(S.dt.keep fun b o c e=>?_).mono le,d,by have:=S.nl;omega,S.n1,S.n2,S.n3,S.n4⟩;rcases c with z|⟨xs,z⟩
 ·subst z;exact kp _ _ S.n1 e
 ·exact kp _ _ (b8 z g1 (by intro z;cases z)) e
theorem Sx.EO(S:Sx C Cm H a most nm tg gs ck ch N)(le:N<=N')(ln:C9.length<=N'):Sx C Cm (upd H a.ps (.dK (kvsOf C9))) a most C9 tg gs ck ch N':=by
 obtain⟨dx,fs,pr,h1,h2,h3⟩:=S.ex;have g1:=S.mb.hs;have kp:∀b o,b≠a.ps->H b=some o->upd H a.ps (.dK (kvsOf C9)) b=some o:=fun b o n e=>by rw[bM n];exact e
 refine⟨⟨dx,fs,pr,kp _ _ (b8 h1 g1 (by intro z;cases z)) h1,h2,kp _ _ (b8 h3 g1 (by intro z;cases z)) h3⟩,S.mb.put,(S.dt.keep fun b o c e=>?_).mono le,(S.dg.keep fun b o c e=>?_).mono le,ln,S.n1,S.n2,S.n3,S.n4⟩
 ·rcases c with z|⟨xs,z⟩
  ·subst z;exact kp _ _ S.n2 e
  ·exact kp _ _ (b8 z g1 (by intro z;cases z)) e
 ·rcases c with z|⟨xs,z⟩
  ·subst z;exact kp _ _ S.n3 e
  ·exact kp _ _ (b8 z g1 (by intro z;cases z)) e
theorem Sx.wY{Wr:Rat}{ch':V}{dx LM:Addr}{fs rG:List (Str×V)}(S:Sx C Cm H a most nm tg gs ck ch N)(h1:H a.p=some (.ins C dx fs))(ft:FS rG most a.pm ch' LM a.pt a.pg)(h3:H LM=some (.tup (fq Wr))):Sx C Cm (upd H a.p (.ins C dx rG)) a most nm tg gs Wr ch' N:=by
 obtain⟨dm,fm,m1,m2⟩:=S.mb.ex;have kp:∀b o,b≠a.p->H b=some o->upd H a.p (.ins C dx rG) b=some o:=fun b o n e=>by rw[bM n];exact e
 refine⟨⟨dx,rG,LM,bX,ft,kp _ _ (b8 h3 h1 (by intro z;cases z)) h3⟩,⟨⟨dm,fm,kp _ _ S.n4.symm m1,m2⟩,kp _ _ (b8 S.mb.hs h1 (by intro z;cases z)) S.mb.hs⟩,S.dt.keep fun b o c e=>?_,S.dg.keep fun b o c e=>?_,S.nl,S.n1,S.n2,S.n3,S.n4⟩
 ·rcases c with z|⟨xs,z⟩
  ·obtain⟨kvs,g1,_⟩:=S.dt.ex;subst z;exact kp _ _ (b8 g1 h1 (by intro z;cases z)) e
  ·exact kp _ _ (b8 z h1 (by intro z;cases z)) e
 ·rcases c with z|⟨xs,z⟩
  ·obtain⟨kvs,g1,_⟩:=S.dg.ex;subst z;exact kp _ _ (b8 g1 h1 (by intro z;cases z)) e
  ·exact kp _ _ (b8 z h1 (by intro z;cases z)) e
end
theorem zJ{a:lV}{H:Hp}{o:HO}:mU a H (upd H a.pt o):=fun b u n1 n2 n3 n4 e=>by rw[bM n3];exact e
theorem wV{a:lV}{H:Hp}{o:HO}:mU a H (upd H a.pg o):=fun b u n1 n2 n3 n4 e=>by rw[bM n4];exact e
theorem Iw{a:lV}{H:Hp}{o:HO}:mU a H (upd H a.ps o):=fun b u n1 n2 n3 n4 e=>by rw[bM n2];exact e
theorem zI{a:lV}{H:Hp}{o:HO}:mU a H (upd H a.p o):=fun b u n1 n2 n3 n4 e=>by rw[bM n1];exact e
theorem IB:((0:Int):Rat) / ((1:Int):Rat)=0:=by have z0:((0:Int):Rat)=0:=rfl;rw[z0];grind
structure Iv(nm:Nm)(tg gs:Str->Option Rat)(ck:Rat)(D:Int)(n:Nat):Prop where
 d0:0<D
 dz:Sw.Sz (21*n+1) D
 cg:Sw.yw D ck
 c0:0<=ck
 cB:ck<=((n*2000000:Int):Rat)
 all:∀x s,bD nm x=some s->1<=s/\s<=1000000/\∃t g,tg x=some t/\gs x=some g/\Sw.yw D t/\Sw.yw D g/\0<=t/\0<=g/\g<=((1000000:Int):Rat)/\t<=ck+g
structure Hd where
 C:Addr
 i:Option Nat
 th:TS
section
variable{P:Program}{w:World}{X:Cx}{C':Addr}{x:Str}{np M0 pos:Pos}{body E8:List Stmt}{b0:Stmt}{tb:XH->TS}{th:TS}{h0:ExceptHandler}{hds:List ExceptHandler}{hs:List Hd}
end
section
variable{X:Cx}
end
end L2
namespace L2
open PySem PySem.Spec PyProof.Rows PySem.MeetsSeq
theorem zzz(l:Addr)(items:Array Value)(n:Nat)(x:Value)(e:Nat->Bool)(j:Nat)(hj:j<items.size)(Aq:e j=true)(k:Nat)(PM:items.size<=sizeLine):
    ∀i:Nat,j-i=k->i<=j->(∀m,i<=m->m<j->e m=false)->Meets (Builtin.«list.remove.loop» ⟨[.ref l,x,rawInt i],[]⟩)
      (fun A R s=>(∀m(hm:m<items.size),m<=j->SeqAt.EqAt A.in1 s items[m] x (e m))/\s.heap.get? l=some {cls:=.type "list",dict:=none,data:=.seq items n,slots:=#[]}/\R (.ok (.ret .none)) {s with heap:=s.heap.update l (Obj.mapSeq fun xs=>xs.eraseIdxIfInBounds j)}):=by
  induction k with
  |zero=>
    intro i hk WQ pU prog w A R s h;obtain⟨hp,g,d,tk,os⟩:=s;obtain⟨he,hl,h⟩:=h;have Si:i=j:=by omega
    subst Si
    wp_walk using wpAny_loadPart' hl
    have hi:items[((i:Nat):Int).toNat]?=some items[i]:=by simp[hj]
    rw[hi];refine wpAny_bind (he i hj (az _) prog w _ _ ?_);rw[Aq];have PY:(items.eraseIdxIfInBounds i).size<=sizeLine+1:=bL (size_erased items _) (Nat.le_succ_of_le PM)
    wp_walk using(wpAny_updateSeq hl rfl (hz:=PM) (_hz':=PY)),wpAny_loadPart' hl
    simpa using h
  |succ k ih=>
    intro i hk WQ pU prog w A R s h;obtain⟨hp,g,d,tk,os⟩:=s;obtain⟨he,hl,h⟩:=h;have jT:i<items.size:=by omega
    wp_walk using wpAny_loadPart' hl
    have hi:items[((i:Nat):Int).toNat]?=some items[i]:=by simp[jT]
    have hc:((i:Int)+1)=((i+1:Nat):Int):=by push_cast;rfl
    rw[hi];refine wpAny_bind (he i jT WQ prog w _ _ ?_);rw[pU i (az _) (by omega)]
    wp_walk
    rw[hc];exact⟨plainId_quiet plain_remove_loop _,codeAny_builtin entry_remove_loop (by rw[Around.under_plainId plain_remove_loop _];exact ih (i+1) (by omega) (by omega) (fun m h1 h2=>pU m (by omega) h2) prog w A R _ ⟨he,hl,h⟩)⟩
theorem zxd(l:Addr)(items:Array Value)(n:Nat)(x:Value)(e:Nat->Bool)(j:Nat)(hj:j<items.size)(Aq:e j=true)(pU:∀m,m<j->e m=false)(PM:items.size<=sizeLine):
    Meets (Builtin.«list.remove» ⟨[.ref l,x],[]⟩)
      (fun A R s=>(∀m(hm:m<items.size),m<=j->SeqAt.EqAt A.in1 s items[m] x (e m))/\s.heap.get? l=some {cls:=.type "list",dict:=none,data:=.seq items n,slots:=#[]}/\R (.ok (.ret .none)) {s with heap:=s.heap.update l (Obj.mapSeq fun xs=>xs.eraseIdxIfInBounds j)}):=by
  intro prog w A R s h;obtain⟨hp,g,d,tk,os⟩:=s;obtain⟨he,hl,h⟩:=h
  wp_walk using wpAny_loadPart' hl
  exact⟨plainId_quiet plain_remove_loop _,codeAny_builtin entry_remove_loop (by rw[Around.under_plainId plain_remove_loop _];exact zzz l items n x e j hj Aq _ PM 0 rfl (bZ _) (fun m _ h2=>pU m h2) prog w A R _ ⟨he,hl,h⟩)⟩
def zvc(K:aa):V->List V->Hp->VK->Prop:=fun x vs H Q=>∃l xs y j d ds,x= .ref l/\vs=[y]/\H l=some (.lst xs)/\xs.length<sizeLine/\j<xs.length/\kC K H y d/\aX d=true/\iG K H (xs.take (j+1)) ds/\(∀e∈ds,aX e=true)/\
 ds[j]?.map (fun e=>PyData.eqv e d)=some true/\(∀m e,m<j->ds[m]?=some e->PyData.eqv e d=false)/\Q .cy (upd H l (.lst (xs.eraseIdx j)))
theorem zrw:∀{xs:List V}{us:List Value}{m:Nat}{u:Value},cj xs us->us[m]?=some u->∃x,xs[m]?=some x/\RelV x u
 |_,_,0,u,.cons r _,h=>by have:_=u:=aq h;subst this;exact⟨_,rfl,r⟩
 |_,_,m+1,u,.cons _ t,h=>by obtain⟨x,h1,h2⟩:=zrw (m:=m) t (by simpa using h);exact⟨x,by simpa using h1,h2⟩
theorem Za{K:aa}{H:Hp}:∀{xs:List V}{ds:List PyData}{m:Nat}{x:V},iG K H xs ds->xs[m]?=some x->∃d,ds[m]?=some d/\kC K H x d
 |_,_,0,x,.cons r _,h=>by have:_=x:=aq h;subst this;exact⟨_,rfl,r⟩
 |_,_,m+1,x,.cons _ t,h=>by obtain⟨d,h1,h2⟩:=Za (m:=m) t (by simpa using h);exact⟨d,by simpa using h1,h2⟩
theorem Zr:∀{xs:List V}{us:List Value}(j:Nat),cj xs us->cj (xs.eraseIdx j) (us.eraseIdx j)
 |_,_,_,.nil=>.nil
 |_,_,0,.cons _ t=>t
 |_,_,j+1,.cons r t=>.cons r (Zr j t)
section
variable{X:Cx}
theorem zvd(K:aa)(h:X.K=K)(hu:X.A.units+66<cLine):Pd X "list.remove" (zvc K):=by
 subst h;intro ah s σ H x vs v us Q I rx rv h;obtain⟨l,xs,y,j,d,ds,rfl,rfl,hH,hz,hj,dy,sy,dx,sx,Aq,pU,q⟩:=h;cases rx
 obtain⟨u,rfl,ru⟩:=rv.one;obtain⟨z,b7,n,r,hl,e⟩:=I.CZ hH;have len:=r.length;obtain⟨as,ra⟩:=La I dy ru;have eq:∀m(hm:m<b7.toArray.size),m<=j->SeqAt.EqAt X.A.in1 s b7.toArray[m] u ((ds[m]?.map fun e=>PyData.eqv e d).getD false):=fun m hm hmj=>by
  have hm2:m<b7.length:=by simpa using hm
  have e1:b7[m]?=some b7.toArray[m]:=by rw[bK hm2];simp
  obtain⟨x,h1,h2⟩:=zrw r e1;have h3:(xs.take (j+1))[m]?=some x:=by rw[sO,if_pos (by omega)];exact h1
  obtain⟨e',h4,h5⟩:=Za dx h3;obtain⟨bs,rb⟩:=La I h5 h2;have se:=sx e' (bh h4);rw[h4];exact SeqAt.eqAt_reads e' d X.A.in1 s _ _ bs as rb ra (jm se) (jm sy) (PySem.SeqAt.room_of_shaped se (by show X.A.units+1+64<cLine;omega))
 have xT:(ds[j]?.map fun e=>PyData.eqv e d).getD false=true:=by rw[Aq];rfl
 have Sv:∀m,m<j->(ds[m]?.map fun e=>PyData.eqv e d).getD false=false:=fun m hm=>by
  cases c:ds[m]? with
  |none=>rfl
  |some e=>exact pU m e hm c
 refine call_meets F.slot_list_remove ⟨_,e,rfl⟩ F.entry_list_remove (F.args_list_remove_2 _ _) (zxd l b7.toArray n u (fun m=>(ds[m]?.map fun e=>PyData.eqv e d).getD false) j (by rw[aQ];omega) xT Sv (by rw[aQ];omega)) ⟨eq,e,?_⟩;refine⟨.cy,_,I.GZ (its':=b7.eraseIdx j) hH e ?_ (Zr j r) ?_,rfl,q⟩
 ·simp[Array.eraseIdxIfInBounds];exact fun c=>absurd c (by omega)
 ·rw[List.length_eraseIdx];split <;> omega
end
end L2
namespace L2
open PySem PySem.Spec PyProof.Rows
theorem gu.Hu{k:Nat}{A:Around}(r:gu k A):A.units+66<cLine:=by have:=r.un;omega
section
variable{X:Cx}
end
def Q8(a:Addr)(o:Obj)(kvs:List (Key×V)):It:=
 ⟨fun i H=>i<kvs.length/\H a=some (.jx o (.dK kvs)),fun i H x H'=>∃p kv,x= .ref p/\H p=none/\kvs[i]?=some kv/\H'=upd H p (.tup [kV kv.1,kv.2]),fun i H=>kvs.length<=i/\H a=some (.jx o (.dK kvs))⟩
theorem zsx {P:Program} {w:World} {K:aa} {JN:List Expr} {x1} {pos:Pos} (a it:Addr) {o:Obj} {kvs:List (Key×V)} {vs:List (Key×Value)} {es:Array DictEntry} {ep:Nat} (jE:KV kvs vs)
    (ho:o.ExactDict/\o.data = .dict es ep/\KeysOf (nS P w) es/\Pairs (nS P w) es.toList vs/\(vs.map (·.1)).Nodup):xM P w K (.Tuple JN x1 pos) (Q8 a o kvs) [it] it (fun i h=>∃ ok ov,IsItemIter h it a i vs.length ep ok ov) where
  mem:=by simp
  obj:=fun i h st b hb=>by
    have e:b=it:=by simpa using hb
    subst e
    obtain ⟨ok,ov,e⟩:=st
    exact ⟨_,e,fun v z=>by cases z⟩
  keep:=fun i h h' st k=>by
    obtain ⟨ok,ov,e⟩:=st
    exact ⟨ok,ov,k it (by simp) _ e⟩
  item:=by
    intro X hP hw hK hc i ah s σ H E I hf st hg
    subst hP hw hK
    obtain ⟨hi,hz⟩:=hg
    obtain ⟨ok,ov,he⟩:=st
    obtain ⟨f0,f1,f2,f3,f4,f5⟩:=hf it (by simp)
    have ud:kvs[i]? = some (kvs[i]'hi):=bK _
    have GL:i<vs.length:=by rw [<- jE.length]; exact hi
    have hv:vs[i]? = some (vs[i]'GL):=bK _
    obtain ⟨q,hq,rq⟩:=Qu jE ud
    rw [hv] at hq
    cases hq
    have da:s.heap.DictAt (nS X.prog X.w) a vs ep:=⟨o,es,(I.eB a _ hz).1,ho⟩
    refine wpAny_pyNext_items_item (v:=(vs[i]'GL).2) he da hv fun key h' JV CP hT hsz hk=>?_
    refine ⟨.ref s.heap.objs.size,rfl,wpAny_letOwnedTupleGo_items CP fun FJ PZ PN=>?_⟩
    have M8:Heap.SameBut it h' FJ:=PN
    have Xk:s.heap.objs.size≠it:=oq (Heap.lt_size he)
    have SN:FJ.get? s.heap.objs.size=some { cls:=.type "tuple", data:=.seq #[key,(vs[i]'GL).2] }:=(M8.2 _ Xk).trans hT
    have k2:∀ c o,c ∉ [it]->s.heap.get? c=some o->FJ.get? c=some o:=fun c o n q=>by
      simp only [ak,aI,or_false] at n
      exact (M8.2 c n).trans (hk c o n q)
    have fresh:H s.heap.objs.size=none:=I.eB.fresh (az _)
    have Nq:∀ c v,H c=some v->c ∉ [it]:=fun c v q h=>by
      have e:c=it:=by simpa using h
      rw [e,f0] at q; cases q
    have up:∀ c o,H c=some o->(upd H s.heap.objs.size (.tup [kV (kvs[i]'hi).1,(kvs[i]'hi).2])) c=some o:=fun c o q=>by rw [bM (i8 q fresh)]; exact q
    have rk:RelV (kV (kvs[i]'hi).1) key:=by rw [rq.1]; exact Ij JV
    have I2:Inv X ah σ (upd H s.heap.objs.size (.tup [kV (kvs[i]'hi).1,(kvs[i]'hi).2])) { s with heap:=FJ }:=by
      refine I.step (t':=s.toks) (g':=s.gens) (d':=s.drawn) (ch:=[it]) (fun c hc=>?_) (fun c o _ _ hc q _=>k2 c o hc q)
        (fun c o _ _ hc q _=>⟨o.slots,k2 c o hc q⟩) (fun c o _ q n=>by rw [bM (aZ (Heap.lt_size q))]; exact n)
        (fun c o hc q=>⟨o,k2 c o hc q⟩) (fun c zs q=>up c _ q) (fun c ob v q=>up c _ q) (fun c ps q=>⟨#[],by rw [up c _ q]; simp⟩) (fun m hm=>?_) (fun c v q=>?_) I.bare
      · obtain ⟨f0,f1,f2,f3,f4,f5⟩:=hf c hc
        exact ⟨f3,f1,f4,f5⟩
      · obtain ⟨o,es,ep,ho,r⟩:=hm
        refine ⟨o,es,ep,k2 _ o (fun h=>?_) ho,r⟩
        exact (hf _ h).2.1 rfl
      · by_cases hb:c=s.heap.objs.size
        · subst hb
          rw [bX] at q
          cases q
          exact ⟨by show 2<=sizeLine; decide,[key,(vs[i]'GL).2],.cons rk (.cons rq.2 .nil),_,SN,rfl,_,rfl⟩
        · rw [bM hb] at q
          refine (I.eB c v q).iS (fun d v' hd q'=>?_) (fun d y=>up d _ y) fun d zs y=>up d _ y
          refine k2 d v' ?_ q'
          rcases hd with y | y
          · rw [y]; exact Nq c v q
          · exact Nq d _ y
    refine ⟨.ref s.heap.objs.size,_,I2,rfl,⟨s.heap.objs.size,_,rfl,fresh,ud,rfl⟩,⟨_,_,PZ⟩,fun c hc=>?_⟩
    have e:c=it:=by simpa using hc
    subst e
    rw [bM Xk.symm]
    exact f0
  done:=by
    intro X hP hw hK hc i ah s σ H E I hf st hg
    subst hP hw hK
    obtain ⟨hi,hz⟩:=hg
    obtain ⟨ok,ov,he⟩:=st
    obtain ⟨f0,f1,f2,f3,f4,f5⟩:=hf it (by simp)
    have da:s.heap.DictAt (nS X.prog X.w) a vs ep:=⟨o,es,(I.eB a _ hz).1,ho⟩
    exact wpAny_pyNext_items_end (I.ok.hd hc) he da (oV (by rw [<- jE.length]; exact hi)) fun h' eb=>⟨rfl,I.turned (t':=s.toks) (fun b o hb e=>eb b o hb e) f0 f1 f3 f4 f5⟩
  self:=fun _ _ _ _ _ st h=>by
    obtain ⟨ok,ov,he⟩:=st
    exact PySem.W.kcp_self he h
section
variable{X:Cx}
end
section
variable{X:Cx}{ah:List (Addr×Obj)}{σ:St}{H:Hp}{s:Shared}{a vw:Addr}{kvs:List (Key×V)}{Q:VK}
end
section
variable{X:Cx}
end
section
variable{X:Cx}
end
def zym(tl:TE):TI:=fun σ H R=>tl σ H fun x H1=>∃a kvs,x= .ref a/\H1 a=some (.dK kvs)/\∀o,R (Q8 a o kvs) (upd H1 a (.jx o (.dK kvs)))
section
variable{X:Cx}
theorem zxe{o:Expr}{gM iJ K4:Pos}{JN:List Expr}{x1}{tl:TE}(hl:PE X o tl)(qD:attributeBase o "items" X.env (eval o X.env)=eval o X.env:=by rfl)(qF:(gM.endLine ==iJ.line)=true:=by rfl):
    PI X (.Tuple JN x1 K4) (.Call (.Attribute o "items" gM) [] [] iJ) (zym tl):=by
  intro ah s σ H R I h;refine wpAny_Call_method0_late qD qF (eJ (hl ah s σ H _ I h) fun v s1⟨x,H1,I1,r1,a,kvs,ex,ha,kZ⟩=>?_);subst ex;obtain rfl:v=Value.ref a:=r1;obtain⟨t1,t2,_⟩:=QU I1 (.inl ⟨kvs,.inl ha⟩);obtain⟨z,hd,vs,jE,o',es,ep,ho,hx⟩:=sS I1.eB ha;refine⟨"dict","dict.items",iA,yD,PySem.F.type_dict_items,t1,t2,Calls.callWith_builtin rfl (ku ?_)⟩;refine call_meetsIn yD t1 PySem.F.entry_dict_items (PySem.F.args_dict_items_1 _) (meets_dict_items (nS X.prog X.w) a hd) ⟨⟨vs,o',es,ep,ho,hx⟩,?_⟩;have Iv:Inv X ah σ H1 {s1 with heap:=s1.heap.push {cls:=.type "dict_items",data:=.fields #[.ref a]}}:=I1.kept (t':=s1.toks) fun b o e=>Heap.get?_push_of_some _ e;have Er:(s1.heap.push {cls:=.type "dict_items",data:=.fields #[.ref a]}).get? a=some o':=Heap.get?_push_of_some _ ho;have Ih:(s1.heap.push {cls:=.type "dict_items",data:=.fields #[.ref a]}).IsItemsView s1.heap.objs.size a:=⟨_,Heap.get?_push_size _ rfl,rfl,rfl⟩;generalize s1.heap.push {cls:=.type "dict_items",data:=.fields #[.ref a]}=hv at Iv Er Ih⊢;refine wpAny_pyIter_items (s:={s1 with heap:=hv}) (knd:=nS X.prog X.w) Ih ⟨o',es,Er,hx⟩ ?_;have fresh:H1 hv.objs.size=none:=Iv.eB.fresh (az _);have na:hv.objs.size≠a:=fun y=>by rw[y,ha]at fresh;cases fresh
  have I2:Inv X ah σ (upd H1 a (.jx o' (.dK kvs))) {s1 with heap:=hv.push {cls:=.type "dict_itemiterator",data:=.fields #[.none,.bool false,.ref a,.int 0 0,.int vs.length 0,.int ep 0,.none,.none]}}:=
    (Iv.kept (t':=s1.toks) fun b o e=>Heap.get?_push_of_some _ e).frozen ha (Heap.get?_push_of_some _ Er);refine⟨hv.objs.size,[hv.objs.size],_,_,_,rfl,I2,zsx a _ jE hx,⟨.none,.none,Heap.get?_push_size _ rfl⟩,fun b hb=>?_,kZ o'⟩;have e:b=hv.objs.size:=by simpa using hb
  subst e;have MD:=Iv.AM (az _) fresh;exact⟨by rw[bM na];exact fresh,MD.2⟩
def IZ(t:TE):TE:=fun σ H Q=>t σ H fun x H'=>∃a o kvs Ni,H a=some (.dK Ni)/\H' a=some (.jx o (.dK kvs))/\Q x (upd H' a (.dK kvs))
theorem Uf{e:Expr}{t:TE}(h:PE X e t):PE X e (IZ t):=by intro ah s σ H Q I q;refine eJ (h ah s σ H _ I q) fun v s1⟨x,H1,I1,r1,a,o,kvs,Ni,h0,h1,q1⟩=>?_;refine⟨x,_,I1.yp h1 fun o' u e=>?_,r1,q1⟩;have:=I.base.mO a o' u e;rw[h0]at this;cases this
end
theorem zsy{a:Addr}{kvs:List (Key×V)}{o:Obj}{g:TG}{tc:TT}{te:TE}{D:Addr}{τ:St}{H:Hp}{Q:VK}(Pv:Nat->St->Hp->Prop)(h0:Pv 0 τ H)(hz:∀i τ H,i<=kvs.length->Pv i τ H->H a=some (.jx o (.dK kvs)))(hs:∀i kv τ H p,kvs[i]?=some kv->Pv i τ H->H p=none->g (.ref p) τ (upd H p (.tup [kV kv.1,kv.2])) fun τ2 H3=>tc τ2 H3 fun b H4=>if b=true then te τ2 H4 fun y H5=>∃ys,H5 D=some (.lst ys)/\ys.length<sizeLine/\Pv (i+1) τ2 (upd H5 D (.lst (ys++[y])))else Pv (i+1) τ2 H4)(hd:∀τ H,Pv kvs.length τ H->Q (.ref D) H):pV (Q8 a o kvs) g tc te D τ H Q:=by
  refine⟨fun i m τ H=>m=kvs.length-i/\i<=kvs.length/\Pv i τ H,⟨kvs.length,by simp,bZ _,h0⟩,?_⟩;rintro i m τ H ⟨rfl,hi,p⟩;have q:=hz i τ H hi p;by_cases jT:i<kvs.length
  · refine .inr ⟨⟨jT,q⟩,Pv (i+1),fun τ' H' p'=>⟨kvs.length-(i+1),by omega,rfl,jT,p'⟩,fun x H2 z=>?_⟩;obtain⟨b,kv,rfl,hb,ud,rfl⟩:=z;exact hs i kv τ H b ud p hb
  · have e:i=kvs.length:=by omega
    subst e;exact .inl ⟨⟨az _,q⟩,hd τ H p⟩
theorem ZO{K:aa}{H:Hp}:∀(ns:List Str),iG K H (ns.map V.str) (ns.map PyData.str)
 |[]=>.nil
 |_::r=>.cons (.str _) (ZO r)
theorem zrx{α β:Type}(f:α->β):∀(l:List α)(j:Nat),(l.map f).eraseIdx j=(l.eraseIdx j).map f
 |[],_=>rfl
 |_::_,0=>rfl
 |a::r,j+1=>by show f a::_=f a::_;rw[zrx f r j]
theorem Vh{K:aa}{H:Hp}{l:Addr}{L:List Str}{x:Str}{Q:VK}(nd:L.Nodup)(hx:x∈L)(n9:L.length<=100)(ok:∀y∈L,PyData.strOk y=true)(h:H l=some (.lst (L.map V.str)))(q:Q .cy (upd H l (.lst ((L.erase x).map V.str)))):zvc K (.ref l) [.str x] H Q:=by
 obtain⟨j,hj⟩:=List.getElem?_of_mem hx;have jl:=(aL.mp hj).1;have es:L.erase x=L.eraseIdx j:=by rw[List.erase_eq_eraseIdx_of_idxOf];rw[<-(aL.mp hj).2];exact(nd.idxOf_getElem j jl)
 have okx:aX (.str x)=true:=by unfold aX;rw[bY,decide_eq_true_eq];exact⟨by simpa only[PyData.canLay0]using ok x hx,by simp[PyData.depth]⟩
 refine⟨l,L.map V.str,.str x,j,.str x,(L.take (j+1)).map PyData.str,rfl,rfl,h,gD (by rw[ai];omega),by rw[ai];exact jl,.str _,okx,?_,fun e he=>?_,?_,fun m e hmj he=>?_,?_⟩
 ·rw[<-Ag];exact ZO _
 ·obtain⟨y,hy,rfl⟩:=av.mp he;unfold aX;rw[bY,decide_eq_true_eq];exact⟨by simpa only[PyData.canLay0]using ok y (jR hy),by simp[PyData.depth]⟩
 ·rw[aP,sO,if_pos (by omega),hj];simp[PyData.eqv]
 ·rw[aP,sO,if_pos (by omega)]at he;cases hy:L[m]? with
  |none=>rw[hy]at he;simp at he
  |some y=>
   rw[hy]at he;have he:PyData.str y=e:=by simpa using he
   subst he;have ne:y≠x:=fun c=>by rw[c]at hy;have:=(List.getElem?_inj jl nd).mp (hj.trans hy.symm);omega
   simp[PyData.eqv];exact ne
 ·rw[zrx,<-es];exact q
def oQ:Option Str->V
 |none=>.cy
 |some x=>.str x
structure FR(fs:List (Str×V))(most:Int)(pm:Addr)(ch:V)(pt pg:Addr)(tu:Option Str):Prop where
 mo:fs.lookup ("most":Str)=some (.int most)
 me:fs.lookup ("members":Str)=some (.ref pm)
 ch:fs.lookup ("chosen":Str)=some ch
 qu:fs.lookup ("queue":Str)=some (.ref pt)
 re:fs.lookup ("rests":Str)=some (.ref pg)
 tu:fs.lookup ("turn":Str)=some (oQ tu)
 no:∀m:Str,¬m="most"->¬m="members"->¬m="chosen"->¬m="queue"->¬m="rests"->¬m="turn"->fs.lookup m=none
 len:fs.length<900
theorem FR.G2(most:Int)(pm:Addr)(ch:V)(pt pg:Addr):FR (aD "turn" .cy (aD "rests" (.ref pg) (aD "queue" (.ref pt) (aD "chosen" ch (aD "members" (.ref pm) (aD "most" (.int most) [])))))) most pm ch pt pg none:=by
 refine⟨?_,?_,?_,?_,?_,?_,fun m h1 h2 h3 h4 h5 h6=>?_,?_⟩
 ·rw[eG (by decide+kernel),eG (by decide+kernel),eG (by decide+kernel),eG (by decide+kernel),eG (by decide+kernel),oS]
 ·rw[eG (by decide+kernel),eG (by decide+kernel),eG (by decide+kernel),eG (by decide+kernel),oS]
 ·rw[eG (by decide+kernel),eG (by decide+kernel),eG (by decide+kernel),oS]
 ·rw[eG (by decide+kernel),eG (by decide+kernel),oS]
 ·rw[eG (by decide+kernel),oS]
 ·rw[oS];rfl
 ·rw[eG h6,eG h5,eG h4,eG h3,eG h2,eG h1];rfl
 ·have a1:=i9 (fs:=[]) (f:="most") (v:=.int most);have a2:=i9 (fs:=aD "most" (.int most) []) (f:="members") (v:=.ref pm);have a3:=i9 (fs:=aD "members" (.ref pm) (aD "most" (.int most) [])) (f:="chosen") (v:=ch);have a4:=i9 (fs:=aD "chosen" ch (aD "members" (.ref pm) (aD "most" (.int most) []))) (f:="queue") (v:=.ref pt);have a5:=i9 (fs:=aD "queue" (.ref pt) (aD "chosen" ch (aD "members" (.ref pm) (aD "most" (.int most) [])))) (f:="rests") (v:=.ref pg);have a6:=i9 (fs:=aD "rests" (.ref pg) (aD "queue" (.ref pt) (aD "chosen" ch (aD "members" (.ref pm) (aD "most" (.int most) []))))) (f:="turn") (v:=.cy);simp only[bG]at a1;omega
theorem FR.A2{fs:List (Str×V)}{most:Int}{pm:Addr}{ch ch':V}{pt pg:Addr}{tu:Option Str}(h:FR fs most pm ch pt pg tu):FR (aD "chosen" ch' fs) most pm ch' pt pg tu:=by
 refine⟨?_,?_,oS,?_,?_,?_,fun m h1 h2 h3 h4 h5 h6=>?_,?_⟩
 ·rw[eG (by decide+kernel)];exact h.mo
 ·rw[eG (by decide+kernel)];exact h.me
 ·rw[eG (by decide+kernel)];exact h.qu
 ·rw[eG (by decide+kernel)];exact h.re
 ·rw[eG (by decide+kernel)];exact h.tu
 ·rw[eG h3];exact h.no m h1 h2 h3 h4 h5 h6
 ·rw[DN h.ch];exact h.len
theorem FR.EI{fs:List (Str×V)}{most:Int}{pm:Addr}{ch:V}{pt pg:Addr}{tu:Option Str}(Ow:Option Str)(h:FR fs most pm ch pt pg tu):FR (aD "turn" (oQ Ow) fs) most pm ch pt pg Ow:=by
 refine⟨?_,?_,?_,?_,?_,oS,fun m h1 h2 h3 h4 h5 h6=>?_,?_⟩
 ·rw[eG (by decide+kernel)];exact h.mo
 ·rw[eG (by decide+kernel)];exact h.me
 ·rw[eG (by decide+kernel)];exact h.ch
 ·rw[eG (by decide+kernel)];exact h.qu
 ·rw[eG (by decide+kernel)];exact h.re
 ·rw[eG h6];exact h.no m h1 h2 h3 h4 h5 h6
 ·rw[DN h.tu];exact h.len
structure Rx(C Cm:Addr)(H:Hp)(a:lV)(most:Int)(nm:Nm)(q:List Str)(rs:Nm)(tu:Option Str)(ch:V):Prop where
 ex:∃dx fs,H a.p=some (.ins C dx fs)/\FR fs most a.pm ch a.pt a.pg tu
 mb:Mb Cm H a.pm a.ps nm
 hq:H a.pt=some (.lst (q.map V.str))
 hr:H a.pg=some (.dK (kvsOf rs))
 n3:a.pg≠a.ps
 n4:a.p≠a.pm
section
variable{C Cm:Addr}{H H':Hp}{a:lV}{most:Int}{nm C9:Nm}{q q':List Str}{rs rs':Nm}{tu Ow:Option Str}{ch ch':V}
theorem Rx.same(h:Rx C Cm H a most nm q rs tu ch)(s:bE H H'):Rx C Cm H' a most nm q rs tu ch:=by obtain⟨dx,fs,h1,h2⟩:=h.ex;exact⟨⟨dx,fs,s _ _ h1,h2⟩,h.mb.same s,s _ _ h.hq,s _ _ h.hr,h.n3,h.n4⟩
theorem Rx.EN(S:Rx C Cm H a most nm q rs tu ch):Rx C Cm (upd H a.pt (.lst (q'.map V.str))) a most nm q' rs tu ch:=by
 obtain⟨dx,fs,h1,h2⟩:=S.ex;obtain⟨dm,fm,m1,m2⟩:=S.mb.ex;have kp:∀b o,b≠a.pt->H b=some o->upd H a.pt (.lst (q'.map V.str)) b=some o:=fun b o n e=>by rw[bM n];exact e
 exact⟨⟨dx,fs,kp _ _ (b8 h1 S.hq (by intro z;cases z)) h1,h2⟩,⟨⟨dm,fm,kp _ _ (b8 m1 S.hq (by intro z;cases z)) m1,m2⟩,kp _ _ (b8 S.mb.hs S.hq (by intro z;cases z)) S.mb.hs⟩,bX,kp _ _ (b8 S.hr S.hq (by intro z;cases z)) S.hr,S.n3,S.n4⟩
theorem Rx.BS(S:Rx C Cm H a most nm q rs tu ch):Rx C Cm (upd H a.pg (.dK (kvsOf rs'))) a most nm q rs' tu ch:=by
 obtain⟨dx,fs,h1,h2⟩:=S.ex;obtain⟨dm,fm,m1,m2⟩:=S.mb.ex;have kp:∀b o,b≠a.pg->H b=some o->upd H a.pg (.dK (kvsOf rs')) b=some o:=fun b o n e=>by rw[bM n];exact e
 exact⟨⟨dx,fs,kp _ _ (b8 h1 S.hr (by intro z;cases z)) h1,h2⟩,⟨⟨dm,fm,kp _ _ (b8 m1 S.hr (by intro z;cases z)) m1,m2⟩,kp _ _ S.n3.symm S.mb.hs⟩,kp _ _ (b8 S.hq S.hr (by intro z;cases z)) S.hq,bX,S.n3,S.n4⟩
theorem Rx.EO(S:Rx C Cm H a most nm q rs tu ch):Rx C Cm (upd H a.ps (.dK (kvsOf C9))) a most C9 q rs tu ch:=by
 obtain⟨dx,fs,h1,h2⟩:=S.ex;have g1:=S.mb.hs;have kp:∀b o,b≠a.ps->H b=some o->upd H a.ps (.dK (kvsOf C9)) b=some o:=fun b o n e=>by rw[bM n];exact e
 exact⟨⟨dx,fs,kp _ _ (b8 h1 g1 (by intro z;cases z)) h1,h2⟩,S.mb.put,kp _ _ (b8 S.hq g1 (by intro z;cases z)) S.hq,kp _ _ S.n3 S.hr,S.n3,S.n4⟩
theorem Rx.wY{dx:Addr}{fs rG:List (Str×V)}(S:Rx C Cm H a most nm q rs tu ch)(h1:H a.p=some (.ins C dx fs))(ft:FR rG most a.pm ch' a.pt a.pg Ow):Rx C Cm (upd H a.p (.ins C dx rG)) a most nm q rs Ow ch':=by
 obtain⟨dm,fm,m1,m2⟩:=S.mb.ex;have kp:∀b o,b≠a.p->H b=some o->upd H a.p (.ins C dx rG) b=some o:=fun b o n e=>by rw[bM n];exact e
 exact⟨⟨dx,rG,bX,ft⟩,⟨⟨dm,fm,kp _ _ S.n4.symm m1,m2⟩,kp _ _ (b8 S.mb.hs h1 (by intro z;cases z)) S.mb.hs⟩,kp _ _ (b8 S.hq h1 (by intro z;cases z)) S.hq,kp _ _ (b8 S.hr h1 (by intro z;cases z)) S.hr,S.n3,S.n4⟩
theorem Rx.uQ{m:Str}{Z:Prop}(S:Rx C Cm H a most nm q rs tu ch)(h:¬m="most"/\¬m="members"/\¬m="chosen"/\¬m="queue"/\¬m="rests"/\¬m="turn")(z:Z):sW C m (.ref a.p) H Z:=by obtain⟨dx,fs,hp,ft⟩:=S.ex;exact ig hp (ft.no _ h.1 h.2.1 h.2.2.1 h.2.2.2.1 h.2.2.2.2.1 h.2.2.2.2.2) z
theorem Rx.NF{l:Addr}{xs:List V}(S:Rx C Cm H a most nm q rs tu ch)(ow:mU a H H')(h:H l=some (.lst xs))(n:l≠a.pt):H' l=some (.lst xs):=by obtain⟨dx,fs,h1,h2⟩:=S.ex;exact ow _ _ (b8 h h1 (by intro z;cases z)) (b8 h S.mb.hs (by intro z;cases z)) n (b8 h S.hr (by intro z;cases z)) h
end
end L2
namespace Sw
open L2 PySem
theorem VY(nm:Nm)(x:Str)(s:Int):(putN nm x s).map (·.1)=nm.map (·.1):=by
 unfold putN;rw[eI];refine br fun p _=>?_;by_cases h:p.1=x
 ·simp[h]
 ·simp[h]
theorem k9{nm:Nm}{x:Str}:bD nm x≠none↔x∈nm.map (·.1):=by
 constructor
 ·intro h;cases e:bD nm x with
  |none=>exact absurd e h
  |some s=>exact av.mpr ⟨_,zrv e,rfl⟩
 ·intro h;obtain⟨p,hp,e⟩:=av.mp h;have:(x,p.2)∈nm:=by rw[<-e];exact hp
  exact Y9 this
theorem kO{nm:Nm}{x:Str}:bD nm x=none↔x∉nm.map (·.1):=by
 constructor
 ·exact fun h z=>k9.mpr z h
 ·intro h;cases e:bD nm x with
  |none=>rfl
  |some s=>exact absurd (k9.mp (by rw[e];simp)) h
structure RI(most:Int)(nm:Nm)(q:List Str)(rs:Nm)(tu:Option Str):Prop where
 m0:1<=most
 ks:rs.map (·.1)=nm.map (·.1)
 nd:(nm.map (·.1)).Nodup
 pm:(q++tu.toList).Perm (nm.map (·.1))
 sh:∀x s,bD nm x=some s->1<=s/\s<=1000000
 bd:∀x s,bD nm x=some s->∃r,bD rs x=some r/\0-most<r/\r<=s*most/\(0<r->tu=some x)
section
variable{most:Int}{nm:Nm}{q:List Str}{rs:Nm}{tu:Option Str}
theorem RI.nil(h:1<=most):RI most [] [] [] none:=⟨h,rfl,.nil,.refl _,fun x s e=>(by cases e),fun x s e=>(by cases e)⟩
theorem RI.put(h:RI most nm q rs tu){x:Str}{s:Int}(hx:bD nm x=none)(s0:1<=s)(s1:s<=1000000):RI most (nm++[(x,s)]) (q++[x]) (rs++[(x,0)]) tu:=by
 have hr:bD rs x=none:=by rw[kO,h.ks,<-kO];exact hx
 refine⟨h.m0,?_,?_,?_,fun y t e=>?_,fun y t e=>?_⟩
 ·rw[aA,aA,h.ks];rfl
 ·rw[aA];refine bO.mpr ⟨h.nd,by simp,fun a ha b hb=>?_⟩;have:b=x:=by simpa using hb
  subst this;exact fun z=>kO.mp hx (z▸ha)
 ·rw[aA];have:=h.pm.append_right [x];refine Dv ?_ this;rw[lZ,lZ];exact List.Perm.append_left _ CF
 ·rw[OM hx]at e;split at e
  ·cases e;exact⟨s0,s1⟩
  ·exact h.sh y t e
 ·rw[OM hx]at e;rw[OM hr];have m0:=h.m0;split at e
  ·rename_i c
   cases e;rw[if_pos c];have:=lH s0 h.m0 (by omega) (by omega)
   exact⟨0,rfl,by omega,by omega,fun z=>absurd z (by decide)⟩
  ·rename_i c
   rw[if_neg c];exact h.bd y t e
theorem RI.ends(h:RI most nm q rs tu){x:Str}{r:Int}(ht:tu=some x)(hr:bD rs x=some r):RI most nm (q++[x]) (putN rs x (if 0<r then 0 else r)) none:=by
 subst ht;have m0:=h.m0;refine⟨h.m0,by rw[VY,h.ks],h.nd,by rw[rE,aJ];exact h.pm,h.sh,fun y t e=>?_⟩;obtain⟨r',a1,a2,a3,a4⟩:=h.bd y t e;obtain⟨t1,t2⟩:=h.sh y t e;rw[QD];by_cases c:y=x
 ·subst c;rw[if_pos rfl,hr];rw[hr]at a1;cases a1
  have:=lH t1 h.m0 (by omega) (by omega);refine⟨if 0<r then 0 else r,rfl,by split <;> omega,by split <;> omega,fun z=>?_⟩;exfalso;split at z <;> omega
 ·rw[if_neg c];refine⟨r',a1,a2,a3,fun z=>?_⟩;have:=a4 z;exact absurd (aq this).symm c
theorem RI.JG(h:RI most nm q rs none){x:Str}{r s:Int}(hq:x∈q)(hr:bD rs x=some r)(hs:bD nm x=some s):RI most nm (q.erase x) (putN rs x (r+s*most)) (some x)/\0<r+s*most:=by
 have m0:=h.m0;obtain⟨r',a1,a2,a3,a4⟩:=h.bd x s hs;rw[hr]at a1;cases a1
 have le:r<=0:=by
  rcases nZ 0 r with z|z
  ·exact absurd (a4 z) (by simp)
  ·exact z
 obtain⟨t1,t2⟩:=h.sh x s hs;have sm:=vJ t1 (show 0<=most by omega);refine⟨⟨h.m0,by rw[VY,h.ks],h.nd,?_,h.sh,fun y t e=>?_⟩,by omega⟩
 ·have pm:=h.pm;rw[rE,aJ]at pm;refine Dv ?_ pm;show(q.erase x++[x]).Perm q;exact(CF).trans (List.perm_cons_erase hq).symm
 ·obtain⟨r',b1,b2,b3,b4⟩:=h.bd y t e;rw[QD];by_cases c:y=x
  ·subst c;rw[hs]at e;cases e
   rw[if_pos rfl,hr];exact⟨r+s*most,rfl,by omega,by omega,fun _=>rfl⟩
  ·rw[if_neg c];refine⟨r',b1,b2,b3,fun z=>absurd (b4 z) (by simp)⟩
theorem RI.k7(h:RI most nm q rs tu){x:Str}{r len:Int}(ht:tu=some x)(hr:bD rs x=some r)(r0:0<r)(l0:1<=len)(l1:len<=most):RI most nm q (putN rs x (r-len)) tu:=by
 refine⟨h.m0,by rw[VY,h.ks],h.nd,h.pm,h.sh,fun y t e=>?_⟩;obtain⟨r',b1,b2,b3,b4⟩:=h.bd y t e;rw[QD];by_cases c:y=x
 ·subst c;rw[if_pos rfl,hr];rw[hr]at b1;cases b1
  exact⟨r-len,rfl,by omega,by omega,fun _=>ht⟩
 ·rw[if_neg c];exact⟨r',b1,b2,b3,b4⟩
end
end Sw
namespace L2
open PySem PySem.Spec PyProof.Rows
section
variable{X:Cx}
end
def Jv(a:Addr)(o:Obj)(kvs:List (Key×V)):It:=
 ⟨fun i H=>i<kvs.length/\H a=some (.jx o (.dK kvs)),fun i H x H'=>H'=H/\∃kv,kvs[i]?=some kv/\x=kv.2,fun i H=>kvs.length<=i/\H a=some (.jx o (.dK kvs))⟩
theorem Zb{P:Program}{w:World}{K:aa}{tg:Expr}(a it:Addr){o:Obj}{kvs:List (Key×V)}{vs:List (Key×Value)}{es:Array DictEntry}{ep:Nat}(jE:KV kvs vs)(ho:o.ExactDict/\o.data= .dict es ep/\KeysOf (nS P w) es/\Pairs (nS P w) es.toList vs/\(vs.map (·.1)).Nodup):xM P w K tg (Jv a o kvs) [it] it (fun i h=>h.IsValIter it a i vs.length ep) where
  mem:=by simp
  obj:=fun i h st b hb=>by
    have e:b=it:=by simpa using hb
    subst e;obtain⟨o,e,c,d⟩:=st;exact⟨o,e,fun v z=>by rw[d]at z;cases z⟩
  keep:=fun i h h' st k=>by obtain⟨o,e,c⟩:=st;exact⟨o,k it (by simp) o e,c⟩
  item:=by
    intro X hP hw hK hc i ah s σ H E I hf st hg;subst hP hw hK;obtain⟨hi,hz⟩:=hg;obtain⟨f0,f1,f2,f3,f4,f5⟩:=hf it (by simp);have ud:kvs[i]?=some (kvs[i]'hi):=bK _;have GL:i<vs.length:=by rw[<-jE.length];exact hi
    have hv:vs[i]?=some (vs[i]'GL):=bK _;obtain⟨q,hq,rq⟩:=Qu jE ud;rw[hv]at hq;cases hq
    have da:s.heap.DictAt (nS X.prog X.w) a vs ep:=⟨o,es,(I.eB a _ hz).1,ho⟩;refine wpAny_pyNext_values_item (k:=(vs[i]'GL).1) (v:=(vs[i]'GL).2) st da hv fun h' Dn sb=>?_;have I1:Inv X ah σ H {s with heap:=h'}:=I.turned (t':=s.toks) (fun b o hb e=>(sb.2 b hb).trans e) f0 f1 f3 f4 f5;obtain⟨oi,e,c,d⟩:=id Dn;exact⟨(vs[i]'GL).2,rfl,za (s:={s with heap:=h'}) e c d (by decide) ⟨(kvs[i]'hi).2,H,I1,rq.2,⟨rfl,_,ud,rfl⟩,Dn,fun b hb=>(hf b hb).1⟩⟩
  done:=by intro X hP hw hK hc i ah s σ H E I hf st hg;subst hP hw hK;obtain⟨hi,hz⟩:=hg;obtain⟨f0,f1,f2,f3,f4,f5⟩:=hf it (by simp);have da:s.heap.DictAt (nS X.prog X.w) a vs ep:=⟨o,es,(I.eB a _ hz).1,ho⟩;exact wpAny_pyNext_values_end (I.ok.hd hc) st da (oV (by rw[<-jE.length];exact hi)) fun h' eb=>⟨rfl,I.turned (t':=s.toks) (fun b o hb e=>eb b o hb e) f0 f1 f3 f4 f5⟩
  self:=fun _ _ _ _ _ st h=>wpAny_pyIter_valiter st h
def Ou(tl:TE)(g:TG)(tb:TS):TS:=fun D σ H=>tl σ H fun x H1=>∃a kvs,x= .ref a/\H1 a=some (.dK kvs)/\∀o,∃W:Nat->Nat->St->Hp->Prop,(∃m,W 0 m σ (upd H1 a (.jx o (.dK kvs))))/\∀i m σ H,W i m σ H->
 H a=some (.jx o (.dK kvs))/\((kvs.length<=i/\D.nx σ (upd H a (.dK kvs)))\/(∃kv,kvs[i]?=some kv/\∃N:St->Hp->Prop,(∀σ' H',N σ' H'->∃m',m' < m/\W (i+1) m' σ' H')/\g kv.2 σ H fun σ2 H2=>tb {D with nx:=N,ct:=N,bk:=fun _ _=>False} σ2 H2))
section
variable{X:Cx}
theorem Ug{o:Expr}{gM iJ:Pos}{tg:Expr}{body:List Stmt}{tl:TE}{g:TG}{tb:TS}{pos:Pos}(hp:PassesOwn (model X.prog X.w) X.A X.env X.xe)(hc:X.calm=true)(hl:PE X o tl)(hg:PG X tg g)(hb:rQ X body tb)(hs:∀x,foldedSetIterable (.Call (.Attribute o "values" gM) [] [] iJ) X.env x=pure x:=by intro _;rfl)(qD:attributeBase o "values" X.env (eval o X.env)=eval o X.env:=by rfl)(qF:(gM.endLine ==iJ.line)=true:=by rfl):PS X (.For tg (.Call (.Attribute o "values" gM) [] [] iJ) body [] pos) (Ou tl g tb):=by
  intro ah s σ H D I h;refine wpAny_For (wpAny_Call_method0_late qD qF (eJ (hl ah s σ H _ I h) fun v s1⟨x,H1,I1,r1,a,kvs,ex,ha,kZ⟩=>?_)) hs;subst ex;obtain rfl:v=Value.ref a:=r1;obtain⟨t1,t2,_⟩:=QU I1 (.inl ⟨kvs,.inl ha⟩);obtain⟨z,hd,vs,jE,o',es,ep,ho,hx⟩:=sS I1.eB ha;refine⟨"dict","dict.values",iA,ia,xH,t1,t2,Calls.callWith_builtin rfl (ku ?_)⟩;refine call_meetsIn ia t1 wI (vQ _) (meets_dict_values (nS X.prog X.w) a hd) ⟨⟨vs,o',es,ep,ho,hx⟩,?_⟩;have Iv:Inv X ah σ H1 {s1 with heap:=s1.heap.push {cls:=.type "dict_values",data:=.fields #[.ref a]}}:=I1.kept (t':=s1.toks) fun b o e=>Heap.get?_push_of_some _ e;have Er:(s1.heap.push {cls:=.type "dict_values",data:=.fields #[.ref a]}).get? a=some o':=Heap.get?_push_of_some _ ho;have Ih:(s1.heap.push {cls:=.type "dict_values",data:=.fields #[.ref a]}).IsValuesView s1.heap.objs.size a:=⟨_,Heap.get?_push_size _ rfl,rfl,rfl⟩;generalize s1.heap.push {cls:=.type "dict_values",data:=.fields #[.ref a]}=hv at Iv Er Ih⊢;refine wpAny_pyIter_values (s:={s1 with heap:=hv}) (knd:=nS X.prog X.w) Ih ⟨o',es,Er,hx⟩ ?_;obtain⟨W,⟨m0,w0⟩,sG⟩:=kZ o';have n0:∀o u,X.H₀ a≠some (.jx o u):=fun o' u e=>by have:=I1.base.mO a o' u e;rw[ha]at this;cases this
  have fresh:H1 hv.objs.size=none:=Iv.eB.fresh (az _);have MD:=Iv.AM (az _) fresh;have na:hv.objs.size≠a:=fun y=>by rw[y,ha]at fresh;cases fresh
  have I2:Inv X ah σ (upd H1 a (.jx o' (.dK kvs))) {s1 with heap:=hv.push {cls:=.type "dict_valueiterator",data:=.fields #[.ref a,.int 0 0,.int vs.length 0,.int ep 0]}}:=
    (Iv.kept (t':=s1.toks) fun b o e=>Heap.get?_push_of_some _ e).frozen ha (Heap.get?_push_of_some _ Er);have T:xM X.prog X.w X.K tg (Jv a o' kvs) [hv.objs.size] hv.objs.size (fun i h=>h.IsValIter hv.objs.size a i vs.length ep):=Zb a _ jE hx;have mD:∀{H':Hp},H' hv.objs.size=none->∀b∈[hv.objs.size],rM X ah H' b:=fun hn b hb=>by
    have e:b=hv.objs.size:=by simpa using hb
    subst e;exact⟨hn,MD.2⟩
  refine codeAny_forLoop_any (fun n s'=>∃i σ' H',Inv X ah σ' H' s'/\s'.heap.IsValIter hv.objs.size a i vs.length ep/\H' hv.objs.size=none/\W i n σ' H') ?_ m0 ⟨0,σ,_,I2,⟨_,Heap.get?_push_size _ rfl,rfl,rfl⟩,by rw[bM na];exact fresh,w0⟩;rintro n s3 ⟨i,σ3,H3,I3,IT,Ao,w3⟩;obtain⟨hz,cs⟩:=sG i n σ3 H3 w3;rcases cs with⟨stop,qn⟩ |⟨kv,ud,N,hN,step⟩
  · refine wpAny_passesOwn hp (eJ (T.done X rfl rfl rfl hc i ah s3 σ3 H3 X.xe I3 (mD Ao) IT ⟨stop,hz⟩) fun r s4⟨hr,I4⟩=>?_);subst hr;exact wpAny_execs_nil ⟨σ3,_,I4.yp hz n0,qn⟩
  · refine wpAny_passesOwn hp (eJ (T.item X rfl rfl rfl hc i ah s3 σ3 H3 X.xe I3 (mD Ao) IT ⟨(aL.mp ud).1,hz⟩) fun r s4⟨u,hr,h4⟩=>?_);subst hr;refine wpAny_passesOwn hp (eJ h4 fun _ s5⟨x,H5,I5,r5,⟨eH,kv',Ep,ex⟩,zX,El⟩=>?_);subst eH;rw[ud]at Ep;cases Ep
    subst ex;have Mh:=I5.pinned (mD (El _ (by simp))) (T.obj _ _ zX);refine wpAny_passesOwn hp (eJ (hg _ s5 σ3 _ _ u _ Mh r5 step) fun _ s6⟨σ6,H6,I6,q6⟩=>?_);refine wpAny_passesOwn hp (eJ (hb _ s6 σ6 H6 _ I6 q6) fun f s7 q7=>?_);have again:∀{σ7:St}{H7:Hp},Inv X (ah++Jk [hv.objs.size] s5.heap) σ7 H7 s7->N σ7 H7->∃m,m<n/\∃i σ' H',Inv X ah σ' H' s7/\s7.heap.IsValIter hv.objs.size a i vs.length ep/\H' hv.objs.size=none/\W i m σ' H':=fun{σ7 H7} I7 n7=>by obtain⟨m',hm,w7⟩:=hN σ7 H7 n7;refine⟨m',hm,i+1,σ7,H7,I7.iT,T.keep _ _ _ zX fun b hb o e=>(I7.pin (b,o) (aB _ (aB _ (F4 hb e)))).1,?_,w7⟩;obtain⟨o,e,d⟩:=T.obj _ _ zX hv.objs.size (by simp);exact(I7.pin (_,o) (aB _ (aB _ (F4 (by simp) e)))).2.1
    cases f with
    |next=>obtain⟨σ7,H7,I7,n7⟩:=q7;exact again I7 n7
    |cont=>obtain⟨σ7,H7,I7,n7⟩:=q7;exact again I7 n7
    |brk=>obtain⟨σ7,H7,I7,q7⟩:=q7;exact bI q7
    |ret v=>obtain⟨x7,σ7,H7,I7,r7,q7⟩:=q7;exact⟨x7,σ7,H7,I7.iT,r7,q7⟩
end
theorem zxf{a:Addr}{kvs:List (Key×V)}{o:Obj}{g:TG}{tb:TS}{D:Ends}{σ:St}{H:Hp}(Pv:Nat->St->Hp->Prop)(h0:Pv 0 σ H)(hz:∀i σ H,i<=kvs.length->Pv i σ H->H a=some (.jx o (.dK kvs)))(hs:∀i kv σ H,kvs[i]?=some kv->Pv i σ H->g kv.2 σ H fun σ2 H2=>tb {D with nx:=Pv (i+1),ct:=Pv (i+1),bk:=fun _ _=>False} σ2 H2)(hd:∀σ H,Pv kvs.length σ H->D.nx σ (upd H a (.dK kvs))):
    ∃W:Nat->Nat->St->Hp->Prop,(∃m,W 0 m σ H)/\∀i m σ H,W i m σ H->
      H a=some (.jx o (.dK kvs))/\((kvs.length<=i/\D.nx σ (upd H a (.dK kvs)))\/(∃kv,kvs[i]?=some kv/\∃N:St->Hp->Prop,(∀σ' H',N σ' H'->∃m',m' < m/\W (i+1) m' σ' H')/\g kv.2 σ H fun σ2 H2=>tb {D with nx:=N,ct:=N,bk:=fun _ _=>False} σ2 H2)):=by
  refine⟨fun i m σ H=>m=kvs.length-i/\i<=kvs.length/\Pv i σ H,⟨kvs.length,by simp,bZ _,h0⟩,?_⟩;rintro i m σ H ⟨rfl,hi,p⟩;refine⟨hz i σ H hi p,?_⟩;by_cases jT:i<kvs.length
  · exact .inr ⟨kvs[i],by simp[jT],Pv (i+1),fun σ' H' p'=>⟨kvs.length-(i+1),by omega,rfl,jT,p'⟩,hs i _ σ H (by simp[jT]) p⟩
  · have e:i=kvs.length:=by omega
    subst e;exact .inl ⟨az _,hd σ H p⟩
def T8(t1 t2:TE):TE:=fun σ H Q=>t1 σ H Q\/t2 σ H Q
section
variable{X:Cx}
theorem O0{e:Expr}{t1 t2:TE}(h1:PE X e t1)(h2:PE X e t2):PE X e (T8 t1 t2):=fun ah s σ H Q I h=>h.elim (h1 ah s σ H Q I) (h2 ah s σ H Q I)
end
section
variable{X:Cx}
end
def sg(c:Nat):Str:=⟨#[c]⟩
def Ra(z:Str):It:=⟨fun i _=>i<z.length,fun i H x H'=>H'=H/\∃c,z.cps.toList[i]?=some c/\x= .str (sg c),fun i _=>z.length<=i⟩
theorem zxg{P:Program}{w:World}{K:aa}{tg:Expr}(it:Addr)(z:Str)(t:Tok)(ty:String)(FM:ty="str_ascii_iterator"\/ty="str_iterator"):xM P w K tg (Ra z) [it] it (fun i h=>h.IsStrIter it ty z t i) where
 mem:=by simp
 obj:=fun i h st b hb=>by
  have e:b=it:=by simpa using hb
  subst e;obtain⟨o,e,c,d⟩:=st;exact⟨o,e,fun v z=>by rw[d]at z;cases z⟩
 keep:=fun i h h' st k=>by obtain⟨o,e,r⟩:=st;exact⟨o,k it (by simp) o e,r⟩
 item:=by
  intro X hP hw hK hc i ah s σ H E I hf st hg;subst hP hw hK;obtain⟨f0,f1,f2,f3,f4,f5⟩:=hf it (by simp);have hg:i<z.cps.size:=hg;have W:Walks X.prog X.w X.A it [it] [it] z.cps.size (SignAt z) (fun i h=>h.IsStrIter it ty z t i):=by
   rcases FM with rfl|rfl
   ·exact Walks.strAscii (I.ok.hd hc) it z t
   ·exact Walks.strWide (I.ok.hd hc) it z t
  refine W.item i s _ _ hg st fun v h' tk hv Dn kk=>?_;obtain⟨c,u,hc1,rfl⟩:=hv;have I1:Inv X ah σ H {s with heap:=h',toks:=tk}:=I.turned (fun b o hb e=>kk b o (by simpa using hb) e) f0 f1 f3 f4 f5;obtain⟨o,e,c1,d⟩:=id Dn;refine⟨_,rfl,za (s:={s with heap:=h',toks:=tk}) e c1 d (by rcases FM with rfl|rfl <;> decide) ⟨.str (sg c),H,I1,⟨u,rfl⟩,⟨rfl,c,by rw[nY];exact hc1,rfl⟩,Dn,fun b hb=>(hf b hb).1⟩⟩
 done:=by
  intro X hP hw hK hc i ah s σ H E I hf st hg;subst hP hw hK;obtain⟨f0,f1,f2,f3,f4,f5⟩:=hf it (by simp);have hg:z.cps.size<=i:=hg;rcases FM with rfl|rfl
  ·exact wpAny_pyNext_ascii_end (I.ok.hd hc) st (by simpa using hg) fun h' eb=>⟨rfl,I.turned (t':=s.toks) (fun b o hb e=>eb b o hb e) f0 f1 f3 f4 f5⟩
  ·exact wpAny_pyNext_wide_end (I.ok.hd hc) st (by simpa using hg) fun h' eb=>⟨rfl,I.turned (t':=s.toks) (fun b o hb e=>eb b o hb e) f0 f1 f3 f4 f5⟩
 self:=fun _ _ _ _ _ st h=>by
  rcases FM with rfl|rfl
  ·exact wpAny_pyIter_striter_ascii st h
  ·exact wpAny_pyIter_striter_wide st h
section
variable{X:Cx}{tg:Expr}
def Nc(tl:TE):TI:=fun σ H R=>tl σ H fun x H1=>∃z,x= .str z/\R (Ra z) H1
theorem Vi{l:Expr}{tl:TE}(hl:PE X l tl):PI X tg l (Nc tl):=by
 intro ah s σ H R I h;refine eJ (hl ah s σ H _ I h) fun v s1⟨x,H1,I1,r1,q1⟩=>?_;obtain⟨z,rfl,q⟩:=q1;obtain⟨t,rfl⟩:=r1;have fin:∀ty,(ty="str_ascii_iterator"\/ty="str_iterator")->Rc X ah σ tg R (.ref s1.heap.objs.size) {s1 with heap:=s1.heap.push {cls:=.type ty,data:=.fields #[.str z t,.int 0 0]}}:=fun ty FM=>by
  refine⟨s1.heap.objs.size,[s1.heap.objs.size],_,_,H1,rfl,I1.kept (t':=s1.toks) fun b o e=>Heap.get?_push_of_some _ e,zxg _ z t ty FM,⟨_,Heap.get?_push_size _ rfl,rfl,rfl⟩,fun b hb=>?_,q⟩;have e:b=s1.heap.objs.size:=by simpa using hb
  subst e;exact I1.AM (az _) (I1.eB.fresh (az _))
 cases ha:z.cps.all (· < 128)
 ·exact wpAny_pyIter_wide ha (fin _ (.inr rfl))
 ·exact wpAny_pyIter_ascii ha (fin _ (.inl rfl))
end
theorem zxh{z:Str}{g:TG}{tc:TT}{te:TE}{D:Addr}{τ:St}{H:Hp}{Q:VK}(Pv:Nat->St->Hp->Prop)(h0:Pv 0 τ H)(hs:∀i c τ H,z.cps.toList[i]?=some c->Pv i τ H->g (.str (sg c)) τ H fun τ2 H3=>tc τ2 H3 fun b H4=>if b=true then te τ2 H4 fun y H5=>∃ys,H5 D=some (.lst ys)/\ys.length<sizeLine/\Pv (i+1) τ2 (upd H5 D (.lst (ys++[y])))else Pv (i+1) τ2 H4)(hd:∀τ H,Pv z.length τ H->Q (.ref D) H):pV (Ra z) g tc te D τ H Q:=by
  refine⟨fun i m τ H=>m=z.length-i/\i<=z.length/\Pv i τ H,⟨z.length,by simp,bZ _,h0⟩,?_⟩;rintro i m τ H ⟨rfl,hi,p⟩;by_cases jT:i<z.length
  · refine .inr ⟨jT,Pv (i+1),fun τ' H' p'=>⟨z.length-(i+1),by omega,rfl,jT,p'⟩,fun x H' y=>?_⟩;obtain⟨e,c,hc,y⟩:=y;subst e y;exact hs i c τ H' hc p
  · have:i=z.length:=by omega
    subst this;exact .inl ⟨az _,hd _ _ p⟩
section
variable{X:Cx}
def Tu:R2:=fun x y H Q=>∃z w,x= .str z/\y= .str w/\Q (.bl (Txt.contains w z)) H
theorem Vj:m5 X (compareOp .In) Tu:=by intro ah s σ H x y v u Q I rx ry h;obtain⟨z,w,rfl,rfl,q⟩:=h;obtain⟨t,rfl⟩:=rx;obtain⟨t',rfl⟩:=ry;exact SB.contains ⟨.bl _,H,I,rfl,q⟩
end
theorem LU{X:Cx}{x z:Str}{pos:Pos}(hg:Gl X x)(hm:∃t,X.mg x=some (.str z t))(hd:(x ==("__debug__":Str))=false:=by decide):PE X (.Name x pos) (tC (.str z)):=by obtain⟨t,hm⟩:=hm;exact QG hg hm ⟨t,rfl⟩ hd
section
variable{M:Model}{A:Around}{E:Value->Shared->Prop}{s:Shared}{B:Heap}{env:Env}{outer:List Env}{L e:Addr}{cls:Value}{dct:Option Addr}
end
section
variable{X:Cx}{ah:List (Addr×Obj)}{σ:St}{H H':Hp}{s:Shared}{h':Heap}
end
section
variable{P:Program}{w:World}{X:Cx}{scope:Scope}{cl:List (Str×Addr)}{N:List Str}{Ek:XH}{fp:List Addr}{s s':Shared}{H H':Hp}{ah:List (Addr×Obj)}{τ:St}
end
section
variable{P:Program}{w:World}{K:aa}{mg:Str->Option Value}{base:Heap}{N:List Str}{dP:Str}{sc:Scope}{f:Addr}{cd:Value}{A:Around}{outer:List Env}{s₀:Shared}{H₀:Hp}{E:XK}
end
end L2
namespace Sw
open PySem L2
def RM:Str:=Str.ofString "0123456789"
theorem in_str(x:Str)(c:Nat):Txt.contains x (sg c)=decide (c∈x.cps.toList):=StrLaws.found_one x c
theorem len_list(x:Str):x.cps.toList.length=x.length:=kj
def zyn(z:Str):Prop:=z.cps.toList[0]?=some 48/\1<z.length
def Mg(z:Str):Prop:=∀c∈z.cps.toList,c∈RM.cps.toList
instance (z:Str):Decidable (zyn z):=by unfold zyn;exact inferInstance
instance (z:Str):Decidable (Mg z):=by unfold Mg;exact inferInstance
def Pe(n:Int):Prop:=0<=n/\n<10000000000000
def N4(q:Q4):Prop:=Pe q.1/\Pe q.2.1/\Pe q.2.2.1/\Pe q.2.2.2
def Ok(z:Str):Prop:=∀c∈z.cps.toList,c<1114112
end Sw
namespace PySem
open Sem (wp)
open Builtin Builtin.Str Builtin.Int
namespace F
end F
section
variable{prog:Program}{w:World}{A:Around}{E:Value->Shared->Prop}{s:Shared}{I:Addr}{fp wr:List Addr}{G:Array GenState->Array GenState->Prop}{n:Nat}{P:Nat->Value->Prop}{St:Nat->Shared->Prop}
end
end PySem
namespace L2
open PySem PySem.Spec PyProof.Rows
section
variable{X:Cx}
end
section
variable{X:Cx}
structure Rg(X:Cx)(st:Stmt)(t:TS):Prop where
 h:PS X st t
structure Gn(X:Cx)(b:List Stmt)(t:TS):Prop where
 h:rQ X b t
theorem F9{st:Stmt}{t:TS}(h:PS X st t):Rg X st t:=⟨h⟩
theorem Uh{st:Stmt}{t:TS}(h:Rg X st t):Gn X [st] t:=⟨dD h.h⟩
theorem HB{st:Stmt}{t:TS}{rest:List Stmt}{u:TS}(h1:Rg X st t)(h2:Gn X rest u):Gn X (st::rest) (dW t u):=⟨dJ h1.h h2.h⟩
theorem RD{b:List Stmt}{r:TS->Prop}(h:∃t,Gn X b t/\r t):∃t,rQ X b t/\r t:=h.imp fun _ q=>⟨q.1.h,q.2⟩
end
end L2
namespace Sw
open PySem L2 PyProof.Rows
def Below(h:Str):Prop:=h.cps.toList[0]?=some 45
instance (h:Str):Decidable (Below h):=by unfold Below;exact inferInstance
end Sw
namespace L2
open PySem PySem.Spec PyProof.Rows
theorem ju{X:Cx}{i:Nat}{x:Str}{e:Expr}{te:TE}{qT pos:Pos}(hN:X.N.Nodup)(hi:X.N[i]?=some x)(he:PE X e te)(hx:Loc X.env.scope x:=by first|exact Or.inl rfl|exact Or.inr rfl)(hs:swapsWith e (some (.Name x qT)) pos.line X.env=pure false:=by rfl)(hf:X.fn x=true\/X.env.scope.names.lookup x=some .local:=by first|exact .inl rfl|exact .inr rfl|assumption):
    PS X (.Assign [.Name x qT] e pos) (yi te (nB i)):=UO hN hi hx he hs hf
end L2
namespace Sw
open PySem L2 PyProof.Rows
abbrev dg(n:Nat):List Char:=Nat.toDigits 10 n
end Sw
namespace L2
open PySem PySem.Spec PyProof.Rows
section
variable{X:Cx}
end
end L2
namespace L2
open PySem PySem.Spec PyProof.Rows PySem.MeetsSeq
section
variable{X:Cx}
end
end L2
namespace L2
open PySem PySem.Spec PyProof.Rows
section
variable{X:Cx}
end
section
variable{X:Cx}
end
structure Fk(nm:Nm):Prop where
 nd:(nm.map (·.1)).Nodup
 sh:∀x s,bD nm x=some s->1<=s/\s<=1000000
 ok:∀y∈nm.map (·.1),PyData.strOk y=true
theorem Fk.nil:Fk []:=⟨.nil,fun x s e=>by(cases e),fun y h=>absurd h aI⟩
theorem Fk.put{nm:Nm}(h:Fk nm){x:Str}{s:Int}(hx:bD nm x=none)(s0:1<=s)(s1:s<=1000000)(ok:PyData.strOk x=true):Fk (nm++[(x,s)]):=by
 refine⟨?_,fun y t e=>?_,fun y hy=>?_⟩
 ·rw[aA];exact bO.mpr ⟨h.nd,by simp,fun y hy z hz=>by
   have:z=x:=by simpa using hz
   rw[this];intro e;exact(Sw.kO.mp hx) (e▸hy)⟩
 ·rw[OM hx]at e;split at e
  ·cases e;exact⟨s0,s1⟩
  ·exact h.sh y t e
 ·rw[aA]at hy;rcases ao.mp hy with z|z
  ·exact h.ok y z
  ·have:y=x:=by simpa using z
   rw[this];exact ok
inductive dZ|st (nm:Nm) (tg gs:Str->Option Rat) (ck:Rat) (ch:V) (N:Nat)
 |rd (nm:Nm) (q:List Str) (rs:Nm) (tu:Option Str) (ch:V)
def dZ.nm:dZ->Nm
 | .st nm _ _ _ _ _=>nm
 | .rd nm _ _ _ _=>nm
def dZ.sz:dZ->Nat
 | .st _ _ _ _ _ N=>N
 | .rd nm _ _ _ _=>nm.length
def dZ.Ok(m:Int):dZ->Prop
 | .st nm tg gs _ _ _=>Fk nm/\∀x,bD nm x≠none->∃t g,tg x=some t/\gs x=some g
 | .rd nm q rs tu _=>Fk nm/\Sw.RI m nm q rs tu
theorem dZ.Ok.gnm{m:Int}:∀{c:dZ},c.Ok m->Fk c.nm
 | .st ..,h=>h.1
 | .rd ..,h=>h.1
def dZ.put(x:Str)(s:Int):dZ->dZ
 | .st nm tg gs ck ch N=>.st (nm++[(x,s)]) (iz tg x 0) (iz gs x 0) ck ch (N+3)
 | .rd nm q rs tu ch=>.rd (nm++[(x,s)]) (q++[x]) (rs++[(x,0)]) tu ch
def dZ.new(KN:Bool):dZ:=if KN then .rd [] [] [] none .cy else .st [] (fun _=>none) (fun _=>none) 0 .cy 0
theorem dZ.Km{x:Str}{s:Int}(c:dZ):(c.put x s).nm=c.nm++[(x,s)]:=by cases c <;> rfl
theorem dZ.EC(b:Bool):(dZ.new b).nm=[]:=by cases b <;> rfl
def Av(cS cR cM:Addr)(H:Hp)(a:lV)(m:Int):dZ->Prop
 | .st nm tg gs ck ch N=>Sx cS cM H a m nm tg gs ck ch N
 | .rd nm q rs tu ch=>Rx cR cM H a m nm q rs tu ch
def kX(a:lV):List Addr:=[a.p,a.pm,a.ps,a.pt,a.pg]
theorem iM{a:lV}{b:Addr}:b∈kX a↔b=a.p\/b=a.pm\/b=a.ps\/b=a.pt\/b=a.pg:=by unfold kX;simp
section
variable{cS cR cM:Addr}{H H':Hp}{a:lV}{m:Int}{c:dZ}
theorem Av.keep(h:Av cS cR cM H a m c)(e:∀b o,(b∈kX a\/∃xs,H b=some (.tup xs))->H b=some o->H' b=some o):Av cS cR cM H' a m c:=by
 have e1:∀b o,(b=a.p\/b=a.pm\/b=a.ps\/b=a.pt\/b=a.pg\/∃xs,H b=some (.tup xs))->H b=some o->H' b=some o:=fun b o hb=>e b o (by
  rcases hb with z|z|z|z|z|z
  ·exact .inl (iM.mpr (.inl z))
  ·exact .inl (iM.mpr (.inr (.inl z)))
  ·exact .inl (iM.mpr (.inr (.inr (.inl z))))
  ·exact .inl (iM.mpr (.inr (.inr (.inr (.inl z)))))
  ·exact .inl (iM.mpr (.inr (.inr (.inr (.inr z)))))
  ·exact .inr z)
 cases c with
 |st nm tg gs ck ch N=>
  have S:Sx cS cM H a m nm tg gs ck ch N:=h;obtain⟨dx,fs,pr,h1,h2,h3⟩:=S.ex;obtain⟨dm,fm,m1,m2,m3,m4⟩:=S.mb.ex;exact⟨⟨dx,fs,pr,e1 _ _ (.inl rfl) h1,h2,e1 _ _ (.inr (.inr (.inr (.inr (.inr ⟨_,h3⟩))))) h3⟩,⟨⟨dm,fm,e1 _ _ (.inr (.inl rfl)) m1,m2,m3,m4⟩,e1 _ _ (.inr (.inr (.inl rfl))) S.mb.hs⟩,
   S.dt.keep fun b o hb=>e1 b o (hb.elim (fun z=>.inr (.inr (.inr (.inl z)))) fun z=>.inr (.inr (.inr (.inr (.inr z))))),S.dg.keep fun b o hb=>e1 b o (hb.elim (fun z=>.inr (.inr (.inr (.inr (.inl z))))) fun z=>.inr (.inr (.inr (.inr (.inr z))))),S.nl,S.n1,S.n2,S.n3,S.n4⟩
 |rd nm q rs tu ch=>
  have S:Rx cR cM H a m nm q rs tu ch:=h;obtain⟨dx,fs,h1,h2⟩:=S.ex;obtain⟨dm,fm,m1,m2,m3,m4⟩:=S.mb.ex;exact⟨⟨dx,fs,e1 _ _ (.inl rfl) h1,h2⟩,⟨⟨dm,fm,e1 _ _ (.inr (.inl rfl)) m1,m2,m3,m4⟩,e1 _ _ (.inr (.inr (.inl rfl))) S.mb.hs⟩,e1 _ _ (.inr (.inr (.inr (.inl rfl)))) S.hq,e1 _ _ (.inr (.inr (.inr (.inr (.inl rfl))))) S.hr,S.n3,S.n4⟩
theorem Av.at(h:Av cS cR cM H a m c){b:Addr}(hb:b∈kX a):∃o,H b=some o/\∀xs,o≠.tup xs:=by
 cases c with
 |st nm tg gs ck ch N=>
  have S:Sx cS cM H a m nm tg gs ck ch N:=h;obtain⟨dx,fs,pr,h1,h2,h3⟩:=S.ex;obtain⟨dm,fm,m1,_⟩:=S.mb.ex;obtain⟨kt,t1,_⟩:=S.dt.ex;obtain⟨kg,g1,_⟩:=S.dg.ex;rcases iM.mp hb with z|z|z|z|z <;> subst z
  ·exact⟨_,h1,by intro xs y;cases y⟩
  ·exact⟨_,m1,by intro xs y;cases y⟩
  ·exact⟨_,S.mb.hs,by intro xs y;cases y⟩
  ·exact⟨_,t1,by intro xs y;cases y⟩
  ·exact⟨_,g1,by intro xs y;cases y⟩
 |rd nm q rs tu ch=>
  have S:Rx cR cM H a m nm q rs tu ch:=h;obtain⟨dx,fs,h1,h2⟩:=S.ex;obtain⟨dm,fm,m1,_⟩:=S.mb.ex;rcases iM.mp hb with z|z|z|z|z <;> subst z
  ·exact⟨_,h1,by intro xs y;cases y⟩
  ·exact⟨_,m1,by intro xs y;cases y⟩
  ·exact⟨_,S.mb.hs,by intro xs y;cases y⟩
  ·exact⟨_,S.hq,by intro xs y;cases y⟩
  ·exact⟨_,S.hr,by intro xs y;cases y⟩
end
theorem Av.nodup{cS cR cM:Addr}{H:Hp}{a:lV}{m:Int}{c:dZ}(h:Av cS cR cM H a m c):(kX a).Nodup:=by
 have go:a.p≠a.pm->a.p≠a.ps->a.p≠a.pt->a.p≠a.pg->a.pm≠a.ps->a.pm≠a.pt->a.pm≠a.pg->a.ps≠a.pt->a.ps≠a.pg->a.pt≠a.pg->(kX a).Nodup:=by intro h1 h2 h3 h4 h5 h6 h7 h8 h9 yH;unfold kX;simp[h1,h2,h3,h4,h5,h6,h7,h8,h9,yH]
 cases c with
 |st nm tg gs ck ch N=>
  have S:Sx cS cM H a m nm tg gs ck ch N:=h;obtain⟨dx,fs,pr,h1,h2,h3⟩:=S.ex;obtain⟨dm,fm,m1,_⟩:=S.mb.ex;obtain⟨kt,t1,_⟩:=S.dt.ex;obtain⟨kg,g1,_⟩:=S.dg.ex;exact go S.n4 (b8 h1 S.mb.hs (by intro z;cases z)) (b8 h1 t1 (by intro z;cases z)) (b8 h1 g1 (by intro z;cases z)) (b8 m1 S.mb.hs (by intro z;cases z)) (b8 m1 t1 (by intro z;cases z)) (b8 m1 g1 (by intro z;cases z)) S.n2.symm S.n3.symm S.n1
 |rd nm q rs tu ch=>
  have S:Rx cR cM H a m nm q rs tu ch:=h;obtain⟨dx,fs,h1,h2⟩:=S.ex;obtain⟨dm,fm,m1,_⟩:=S.mb.ex;exact go S.n4 (b8 h1 S.mb.hs (by intro z;cases z)) (b8 h1 S.hq (by intro z;cases z)) (b8 h1 S.hr (by intro z;cases z)) (b8 m1 S.mb.hs (by intro z;cases z)) (b8 m1 S.hq (by intro z;cases z)) (b8 m1 S.hr (by intro z;cases z)) (b8 S.mb.hs S.hq (by intro z;cases z)) S.n3.symm (b8 S.hq S.hr (by intro z;cases z))
section
variable{m:Int}{c:dZ}{x:Str}{s:Int}
theorem dZ.Ok.put(h:c.Ok m)(hx:bD c.nm x=none)(s0:1<=s)(s1:s<=1000000)(ok:PyData.strOk x=true):(c.put x s).Ok m:=by
 cases c with
 |st nm tg gs ck ch N=>
  refine⟨h.1.put hx s0 s1 ok,fun y hy=>?_⟩;unfold iz;by_cases e:y=x
  ·rw[if_pos e,if_pos e];exact⟨_,_,rfl,rfl⟩
  ·have hx:bD nm x=none:=hx;rw[OM hx,if_neg e]at hy;rw[if_neg e,if_neg e];exact h.2 y hy
 |rd nm q rs tu ch=>exact⟨h.1.put hx s0 s1 ok,h.2.put hx s0 s1⟩
theorem dZ.Ok.new(h:1<=m)(b:Bool):(dZ.new b).Ok m:=by
 cases b with
 |true=>exact⟨Fk.nil,.nil h⟩
 |false=>exact⟨Fk.nil,fun y hy=>absurd rfl hy⟩
end
def iw(S:List Addr)(H H':Hp):Prop:=∀b o,b∉S->H b=some o->H' b=some o
theorem bE.kW{S:List Addr}{H H':Hp}(h:bE H H'):iw S H H':=fun b o _ e=>h b o e
theorem iw.trans{S:List Addr}{H H1 H2:Hp}(x:iw S H H1)(y:iw S H1 H2):iw S H H2:=fun b o n e=>y b o n (x b o n e)
theorem iw.mono{S S':List Addr}{H H1:Hp}(x:iw S H H1)(h:∀b∈S,b∈S'):iw S' H H1:=fun b o n e=>x b o (fun z=>n (h b z)) e
theorem mU.kW{a:lV}{H H':Hp}(w:mU a H H'):iw (kX a) H H':=fun b o n e=>by rw[iM]at n;exact w b o (fun z=>n (.inl z)) (fun z=>n (.inr (.inr (.inl z)))) (fun z=>n (.inr (.inr (.inr (.inl z))))) (fun z=>n (.inr (.inr (.inr (.inr z))))) e
theorem ON{S:List Addr}{H:Hp}{b:Addr}{o:HO}(h:b∈S):iw S H (upd H b o):=fun c u n e=>by have:c≠b:=fun z=>n (by rw[z];exact h);rw[bM this];exact e
structure FN(fs:List (Str×V))(ab ch rm bk:V)(ql:Addr):Prop where
 ab:fs.lookup ("above":Str)=some ab
 ch:fs.lookup ("chooser":Str)=some ch
 rm:fs.lookup ("room":Str)=some rm
 bk:fs.lookup ("bucket":Str)=some bk
 qu:fs.lookup ("queue":Str)=some (.ref ql)
 no:∀m:Str,¬m="above"->¬m="chooser"->¬m="room"->¬m="bucket"->¬m="queue"->fs.lookup m=none
 len:fs.length<900
theorem FN.G2(ab ch rm bk:V)(ql:Addr):FN (aD "queue" (.ref ql) (aD "bucket" bk (aD "room" rm (aD "chooser" ch (aD "above" ab []))))) ab ch rm bk ql:=by
 refine⟨?_,?_,?_,?_,?_,fun m h1 h2 h3 h4 h5=>?_,?_⟩
 ·rw[eG (by decide+kernel),eG (by decide+kernel),eG (by decide+kernel),eG (by decide+kernel),oS]
 ·rw[eG (by decide+kernel),eG (by decide+kernel),eG (by decide+kernel),oS]
 ·rw[eG (by decide+kernel),eG (by decide+kernel),oS]
 ·rw[eG (by decide+kernel),oS]
 ·rw[oS]
 ·rw[eG h5,eG h4,eG h3,eG h2,eG h1];rfl
 ·have l1:=i9 (fs:=[]) (f:="above") (v:=ab);have l2:=i9 (fs:=aD "above" ab []) (f:="chooser") (v:=ch);have l3:=i9 (fs:=aD "chooser" ch (aD "above" ab [])) (f:="room") (v:=rm);have l4:=i9 (fs:=aD "room" rm (aD "chooser" ch (aD "above" ab []))) (f:="bucket") (v:=bk);have l5:=i9 (fs:=aD "bucket" bk (aD "room" rm (aD "chooser" ch (aD "above" ab [])))) (f:="queue") (v:=.ref ql);simp only[bG]at l1;omega
theorem FN.Kx{fs:List (Str×V)}{ab ch rm bk Fz:V}{ql:Addr}(h:FN fs ab ch rm bk ql):FN (aD "bucket" Fz fs) ab ch rm Fz ql:=by
 refine⟨?_,?_,?_,oS,?_,fun m h1 h2 h3 h4 h5=>?_,?_⟩
 ·rw[eG (by decide+kernel)];exact h.ab
 ·rw[eG (by decide+kernel)];exact h.ch
 ·rw[eG (by decide+kernel)];exact h.rm
 ·rw[eG (by decide+kernel)];exact h.qu
 ·rw[eG h4];exact h.no m h1 h2 h3 h4 h5
 ·rw[DN h.bk];exact h.len
structure je where
 d:Int
 r:Rat
 s:Int
 l:Rat
structure ND where
 nm:Str
 p:Addr
 ql:Addr
 ab:Option Str
 ch:Option (lV×dZ)
 rm:V
 bk:Option (Addr×je)
 ps:List Addr
 qu:List D2
structure Cl where
 n:Addr
 s:Addr
 r:Addr
 m:Addr
 b:Addr
 t:Addr
def HV:Option (lV×dZ)->List Addr
 |none=>[]
 |some c=>kX c.1
def Mu:Option (Addr×je)->List Addr
 |none=>[]
 |some b=>[b.1]
def ND.foot(x:ND):List Addr:=x.p::x.ql::(HV x.ch++Mu x.bk)
def Mv:Option (lV×dZ)->V
 |none=>.cy
 |some c=>.ref c.1.p
def JI:Option (Addr×je)->V
 |none=>.cy
 |some b=>.ref b.1
structure mZ(C:Cl)(H:Hp)(m:Int)(x:ND):Prop where
 ex:∃dx fs,H x.p=some (.ins C.n dx fs)/\FN fs (oQ x.ab) (Mv x.ch) x.rm (JI x.bk) x.ql
 qu:CA H x.ql x.ps x.qu
 ch:∀c,x.ch=some c->Av C.s C.r C.m H c.1 m c.2
 bk:∀b,x.bk=some b->Bk C.b H b.1 b.2.d b.2.r b.2.s b.2.l
section
variable{C:Cl}{H H':Hp}{m:Int}{x:ND}
theorem mZ.keep(h:mZ C H m x)(e:∀b o,(b∈x.foot\/∃xs,H b=some (.tup xs))->H b=some o->H' b=some o):mZ C H' m x:=by
 obtain⟨dx,fs,h1,h2⟩:=h.ex;refine⟨⟨dx,fs,e _ _ (.inl (aj ..)) h1,h2⟩,⟨e _ _ (.inl (ae _ (aj ..))) h.qu.hl,h.qu.r.keep fun p z hp=>e _ _ (.inr ⟨_,hp⟩) hp⟩,fun c hc=>?_,fun b hb=>?_⟩
 ·refine(h.ch c hc).keep fun b o hb=>e b o (hb.imp (fun z=>?_) id);refine ae _ (ae _ (ao.mpr (.inl ?_)));rw[hc];exact z
 ·obtain⟨Eh,rG,pr,pl,b1,b2,b3,b4⟩:=(h.bk b hb).ex;refine⟨Eh,rG,pr,pl,e _ _ (.inl ?_) b1,b2,e _ _ (.inr ⟨_,b3⟩) b3,e _ _ (.inr ⟨_,b4⟩) b4⟩;refine ae _ (ae _ (ao.mpr (.inr ?_)));rw[hb];exact au.mpr rfl
theorem mZ.at(h:mZ C H m x){b:Addr}(hb:b∈x.foot):∃o,H b=some o/\∀xs,o≠.tup xs:=by
 unfold ND.foot at hb;rcases ak.mp hb with z|hb
 ·obtain⟨dx,fs,h1,h2⟩:=h.ex;subst z;exact⟨_,h1,by intro xs y;cases y⟩
 rcases ak.mp hb with z|hb
 ·subst z;exact⟨_,h.qu.hl,by intro xs y;cases y⟩
 rcases ao.mp hb with z|z
 ·cases hc:x.ch with
  |none=>rw[hc]at z;cases z
  |some c=>rw[hc]at z;exact(h.ch c hc).at z
 ·cases hc:x.bk with
  |none=>rw[hc]at z;cases z
  |some c=>
   rw[hc]at z;obtain⟨Eh,rG,pr,pl,b1,_⟩:=(h.bk c hc).ex;have:b=c.1:=au.mp z;subst this;exact⟨_,b1,by intro xs y;cases y⟩
theorem mZ.kW{S:List Addr}(h:mZ C H m x)(d:iw S H H')(f:∀b∈x.foot,b∉S)(nt:∀b∈S,∀xs,H b≠some (.tup xs)):mZ C H' m x:=
 h.keep fun b o hb e=>d b o (hb.elim (fun z=>f b z) fun⟨xs,z⟩ y=>nt b y xs z) e
end
theorem mZ.new{C:Cl}{H3 H4:Hp}{m:Int}{nm:Str}{x dx ql:Addr}{fs:List (Str×V)}{ab:Option Str}{ch:Option (lV×dZ)}{rm:V}(hx:H3 x=none)(hd:H3 dx=none)(bt:tq x (upd (upd H3 dx (.own x)) x (.ins C.n dx [])) H4)(hq:upd (upd H3 dx (.own x)) x (.ins C.n dx []) ql=none)(h1:H4 x=some (.ins C.n dx fs))(h2:FN fs (oQ ab) (Mv ch) rm .cy ql)(h3:H4 ql=some (.lst []))(hc:∀c,ch=some c->Av C.s C.r C.m H3 c.1 m c.2):
    bE H3 H4/\mZ C H4 m ⟨nm,x,ql,ab,ch,rm,none,[],[]⟩/\(ND.foot ⟨nm,x,ql,ab,ch,rm,none,[],[]⟩).Nodup/\H3 ql=none:=by
  have sm:bE H3 H4:=fun b o e=>bt b o (i8 e hx) (Fe hx hd _ _ e);have Dc:ql≠x:=fun z=>by rw[z,bX]at hq;cases hq
  have q3:H3 ql=none:=by
    rw[bM Dc]at hq;by_cases e:ql=dx
    · rw[e,bX]at hq;cases hq
    · rw[bM e]at hq;exact hq
  refine⟨sm,⟨⟨dx,fs,h1,h2⟩,⟨h3,.nil⟩,fun c e=>(hc c e).keep fun b o _ e=>sm b o e,fun b e=>(by cases e)⟩,?_,q3⟩;show(x::ql::(HV ch++[])).Nodup;rw[aJ];cases ch with
  |none=>simp[HV,Dc.symm]
  |some c=>
    have C1:=hc c rfl;have n1:x∉kX c.1:=fun z=>by obtain⟨o,ho,_⟩:=C1.at z;rw[hx]at ho;cases ho
    have n2:ql∉kX c.1:=fun z=>by obtain⟨o,ho,_⟩:=C1.at z;rw[q3]at ho;cases ho
    rw[aG,aG];exact⟨by rw[ak,not_or];exact⟨Dc.symm,n1⟩,n2,C1.nodup⟩
structure Ay(fs:List (Str×V))(m:Int)(pn:Addr)(tm fr ct:Int)(pg:Addr):Prop where
 mo:fs.lookup ("most":Str)=some (.int m)
 no:fs.lookup ("nodes":Str)=some (.ref pn)
 ti:fs.lookup ("time":Str)=some (.int tm)
 fr:fs.lookup ("free":Str)=some (.int fr)
 co:fs.lookup ("counted":Str)=some (.int ct)
 go:fs.lookup ("gone":Str)=some (.ref pg)
 P5:∀m:Str,¬m="most"->¬m="nodes"->¬m="time"->¬m="free"->¬m="counted"->¬m="gone"->fs.lookup m=none
 len:fs.length<900
theorem Ay.G2(m:Int)(pn:Addr)(tm fr ct:Int)(pg:Addr):Ay (aD "gone" (.ref pg) (aD "counted" (.int ct) (aD "free" (.int fr) (aD "time" (.int tm) (aD "nodes" (.ref pn) (aD "most" (.int m) [])))))) m pn tm fr ct pg:=by
 refine⟨?_,?_,?_,?_,?_,?_,fun m h1 h2 h3 h4 h5 h6=>?_,?_⟩
 ·rw[eG (by decide+kernel),eG (by decide+kernel),eG (by decide+kernel),eG (by decide+kernel),eG (by decide+kernel),oS]
 ·rw[eG (by decide+kernel),eG (by decide+kernel),eG (by decide+kernel),eG (by decide+kernel),oS]
 ·rw[eG (by decide+kernel),eG (by decide+kernel),eG (by decide+kernel),oS]
 ·rw[eG (by decide+kernel),eG (by decide+kernel),oS]
 ·rw[eG (by decide+kernel),oS]
 ·rw[oS]
 ·rw[eG h6,eG h5,eG h4,eG h3,eG h2,eG h1];rfl
 ·have a1:=i9 (fs:=[]) (f:="most") (v:=.int m);have a2:=i9 (fs:=aD "most" (.int m) []) (f:="nodes") (v:=.ref pn);have a3:=i9 (fs:=aD "nodes" (.ref pn) (aD "most" (.int m) [])) (f:="time") (v:=.int tm);have a4:=i9 (fs:=aD "time" (.int tm) (aD "nodes" (.ref pn) (aD "most" (.int m) []))) (f:="free") (v:=.int fr);have a5:=i9 (fs:=aD "free" (.int fr) (aD "time" (.int tm) (aD "nodes" (.ref pn) (aD "most" (.int m) [])))) (f:="counted") (v:=.int ct);have a6:=i9 (fs:=aD "counted" (.int ct) (aD "free" (.int fr) (aD "time" (.int tm) (aD "nodes" (.ref pn) (aD "most" (.int m) []))))) (f:="gone") (v:=.ref pg);simp only[bG]at a1;omega
theorem Ay.Ky{fs:List (Str×V)}{m:Int}{pn:Addr}{tm fr ct Pj:Int}{pg:Addr}(h:Ay fs m pn tm fr ct pg):Ay (aD "counted" (.int Pj) fs) m pn tm fr Pj pg:=by
 refine⟨?_,?_,?_,?_,oS,?_,fun m h1 h2 h3 h4 h5 h6=>?_,?_⟩
 ·rw[eG (by decide+kernel)];exact h.mo
 ·rw[eG (by decide+kernel)];exact h.no
 ·rw[eG (by decide+kernel)];exact h.ti
 ·rw[eG (by decide+kernel)];exact h.fr
 ·rw[eG (by decide+kernel)];exact h.go
 ·rw[eG h5];exact h.P5 m h1 h2 h3 h4 h5 h6
 ·rw[DN h.co];exact h.len
theorem Ay.KC{fs:List (Str×V)}{m:Int}{pn:Addr}{tm Qn fr ct:Int}{pg:Addr}(h:Ay fs m pn tm fr ct pg):Ay (aD "time" (.int Qn) fs) m pn Qn fr ct pg:=by
 refine⟨?_,?_,oS,?_,?_,?_,fun m h1 h2 h3 h4 h5 h6=>?_,?_⟩
 ·rw[eG (by decide+kernel)];exact h.mo
 ·rw[eG (by decide+kernel)];exact h.no
 ·rw[eG (by decide+kernel)];exact h.fr
 ·rw[eG (by decide+kernel)];exact h.co
 ·rw[eG (by decide+kernel)];exact h.go
 ·rw[eG h3];exact h.P5 m h1 h2 h3 h4 h5 h6
 ·rw[DN h.ti];exact h.len
theorem Ay.Kz{fs:List (Str×V)}{m:Int}{pn:Addr}{tm fr GD ct:Int}{pg:Addr}(h:Ay fs m pn tm fr ct pg):Ay (aD "free" (.int GD) fs) m pn tm GD ct pg:=by
 refine⟨?_,?_,?_,oS,?_,?_,fun m h1 h2 h3 h4 h5 h6=>?_,?_⟩
 ·rw[eG (by decide+kernel)];exact h.mo
 ·rw[eG (by decide+kernel)];exact h.no
 ·rw[eG (by decide+kernel)];exact h.ti
 ·rw[eG (by decide+kernel)];exact h.co
 ·rw[eG (by decide+kernel)];exact h.go
 ·rw[eG h4];exact h.P5 m h1 h2 h3 h4 h5 h6
 ·rw[DN h.fr];exact h.len
abbrev D3:=Int×Int×Str
def HW(g:D3):List V:=[.int g.1,.int g.2.1,.str g.2.2]
structure TD where
 p:Addr
 pn:Addr
 pg:Addr
 most:Int
 tm:Int
 fr:Int
 ct:Int
 ns:List ND
 gp:List Addr
 gs:List D3
def TD.foot(D:TD):List Addr:=D.p::D.pn::D.pg::D.ns.flatMap ND.foot
def wU(ns:List ND):List (Key×V):=ns.map fun x=>((aC x.nm:Key),V.ref x.p)
structure bW(C:Cl)(H:Hp)(D:TD):Prop where
 ex:∃dx fs,H D.p=some (.ins C.t dx fs)/\Ay fs D.most D.pn D.tm D.fr D.ct D.pg
 hn:H D.pn=some (.dK (wU D.ns))
 nd:∀x∈D.ns,mZ C H D.most x
 go:H D.pg=some (.lst (D.gp.map V.ref))
 gr:Paired (fun p g=>H p=some (.tup (HW g))) D.gp D.gs
 fd:D.foot.Nodup
theorem Hy{α β:Type}{R S:α->β->Prop}(h:∀a b,R a b->S a b):∀{l:List α}{k:List β},Paired R l k->Paired S l k
 |_,_,.nil=>.nil
 |_,_,.cons a b=>.cons (h _ _ a) (Hy h b)
section
variable{C:Cl}{H H':Hp}{D:TD}
theorem TD.e8{x:ND}{b:Addr}(hx:x∈D.ns)(hb:b∈x.foot):b∈D.foot:=
 ae _ (ae _ (ae _ (dR.mpr ⟨x,hx,hb⟩)))
theorem bW.keep(h:bW C H D)(e:∀b o,(b∈D.foot\/∃xs,H b=some (.tup xs))->H b=some o->H' b=some o):bW C H' D:=by obtain⟨dx,fs,h1,h2⟩:=h.ex;exact⟨⟨dx,fs,e _ _ (.inl (aj ..)) h1,h2⟩,e _ _ (.inl (ae _ (aj ..))) h.hn,fun x hx=>(h.nd x hx).keep fun b o hb=>e b o (hb.imp (fun z=>TD.e8 hx z) id),e _ _ (.inl (ae _ (ae _ (aj ..)))) h.go,Hy (fun a b z=>e _ _ (.inr ⟨_,z⟩) z) h.gr,h.fd⟩
theorem bW.same(h:bW C H D)(s:bE H H'):bW C H' D:=h.keep fun b o _ e=>s b o e
theorem bW.at(h:bW C H D){b:Addr}(hb:b∈D.foot):∃o,H b=some o/\∀xs,o≠.tup xs:=by
 unfold TD.foot at hb;rcases ak.mp hb with z|hb
 ·obtain⟨dx,fs,h1,h2⟩:=h.ex;subst z;exact⟨_,h1,by intro xs y;cases y⟩
 rcases ak.mp hb with z|hb
 ·subst z;exact⟨_,h.hn,by intro xs y;cases y⟩
 rcases ak.mp hb with z|hb
 ·subst z;exact⟨_,h.go,by intro xs y;cases y⟩
 obtain⟨x,hx,z⟩:=dR.mp hb;exact(h.nd x hx).at z
theorem bW.free(h:bW C H D){b:Addr}(e:H b=none):b∉D.foot:=fun z=>by obtain⟨o,ho,_⟩:=h.at z;rw[ho]at e;cases e
theorem bW.BK(h:bW C H D){b:Addr}{xs:List V}(e:H b=some (.tup xs)):b∉D.foot:=fun z=>by obtain⟨o,ho,n⟩:=h.at z;rw[ho]at e;exact n xs (aq e)
theorem bW.other(h:bW C H D){b:Addr}{o o':HO}(f:b∉D.foot)(e:H b=some o)(nt:∀xs,o≠.tup xs):bW C (upd H b o') D:=by
 refine h.keep fun c u hc hu=>?_;rw[bM fun z=>?_]
 ·exact hu
 ·subst z;rcases hc with z|⟨xs,z⟩
  ·exact f z
  ·rw[e]at z;exact nt xs (aq z)
end
def aU(ns:List ND)(x:Str):Option ND:=ns.find? fun n=>decide (n.nm=x)
theorem iD{ns:List ND}{x:Str}{n:ND}(h:aU ns x=some n):n∈ns/\n.nm=x:=by unfold aU at h;exact⟨g8 h,of_decide_eq_true (n8 (p:=fun n:ND=>decide (n.nm=x)) h)⟩
theorem lK{ns:List ND}{x:Str}:aU ns x=none↔x∉ns.map (·.nm):=by
 unfold aU;rw[sN];constructor
 ·intro h z;obtain⟨n,hn,e⟩:=av.mp z;exact h n hn (decide_eq_true e)
 ·intro h n hn e;exact h (av.mpr ⟨n,hn,of_decide_eq_true e⟩)
theorem wD{ns:List ND}(nd:(ns.map (·.nm)).Nodup){n:ND}(h:n∈ns):aU ns n.nm=some n:=by
 induction ns with
 |nil=>cases h
 |cons y r ih=>
  rw[ay,aG]at nd;unfold aU;rw[bR];rcases ak.mp h with e|e
  ·subst e;simp
  ·have ne:decide (y.nm=n.nm)=false:=decide_eq_false fun z=>nd.1 (by rw[z];exact av.mpr ⟨n,e,rfl⟩);rw[ne];exact ih nd.2 e
theorem OS(ns:List ND)(x:Str):gi (wU ns) (aC x:Key)=(aU ns x).map fun n=>V.ref n.p:=by
 induction ns with
 |nil=>rfl
 |cons p r ih=>
  unfold gi wU aU at ih⊢;rw[ay,bR,bR];by_cases h:p.nm=x
  ·simp[h]
  ·have h2:¬(aC p.nm:Key)=aC x:=fun z=>h (gj z);simp only[decide_eq_false h,decide_eq_false h2];exact ih
theorem zve(ns:List ND):(wU ns).length=ns.length:=ai _
theorem Ui{ns:List ND}{n:ND}(h:aU ns n.nm=none):fU (wU ns) (aC n.nm:Key) (.ref n.p)=wU (ns++[n]):=by
 unfold fU;have e:((wU ns).any fun kv=>decide (kv.1=(aC n.nm:Key)))=false:=by rw[HA,OS,h];rfl
 rw[e,if_neg (by decide)];unfold wU;rw[aA];rfl
theorem VZ{ns:List ND}{n:ND}(h:aU ns n.nm=none)(x:Str):aU (ns++[n]) x=if x=n.nm then some n else aU ns x:=by
 unfold aU at h⊢;rw[Gi];by_cases e:x=n.nm
 ·subst e;rw[if_pos rfl,h];simp
 ·rw[if_neg e];have:([n].find? fun y=>decide (y.nm=x))=none:=by have:¬n.nm=x:=fun z=>e z.symm;simp[this]
  rw[this];simp
def cu(ns:List ND)(n:ND):List ND:=ns.map fun y=>if y.nm=n.nm then n else y
theorem Lc(ns:List ND)(n:ND):(cu ns n).map (·.nm)=ns.map (·.nm):=by
 unfold cu;rw[eI];refine br fun y _=>?_;show(if y.nm=n.nm then n else y).nm=y.nm;split
 ·rename_i h;exact h.symm
 ·rfl
theorem Ld{ns:List ND}{n:ND}(x:Str):aU (cu ns n) x=if x=n.nm then(aU ns x).map (fun _=>n)else aU ns x:=by
 induction ns with
 |nil=>unfold aU cu;simp
 |cons p r ih=>
  unfold aU cu at ih⊢;rw[ay,bR,bR];by_cases hp:p.nm=n.nm
  ·rw[if_pos hp];by_cases hy:p.nm=x
   ·have:n.nm=x:=hp▸hy;simp[hy,this]
   ·have:¬n.nm=x:=hp▸hy;simp only[decide_eq_false hy,decide_eq_false this];exact ih
  ·rw[if_neg hp];by_cases hy:p.nm=x
   ·have:¬x=n.nm:=fun z=>hp (hy.trans z);simp[hy,this]
   ·simp only[decide_eq_false hy];exact ih
theorem ZP{l1 l2:List ND}{n n':ND}(e:n'.nm=n.nm)(nd:((l1++n::l2).map (·.nm)).Nodup):cu (l1++n::l2) n'=l1++n'::l2:=by
 unfold cu;rw[aA,bO,ay,aG]at nd;rw[aA,ay,if_pos e.symm];have h1:l1.map (fun y=>if y.nm=n'.nm then n' else y)=l1:=by
  conv=>rhs;rw[<-l7 l1]
  refine br fun y hy=>?_;rw[if_neg];rfl;intro z;exact nd.2.2 y.nm (av.mpr ⟨y,hy,rfl⟩) n.nm (aj ..) (z.trans e)
 have h2:l2.map (fun y=>if y.nm=n'.nm then n' else y)=l2:=by
  conv=>rhs;rw[<-l7 l2]
  refine br fun y hy=>?_;rw[if_neg];rfl;intro z;exact nd.2.1.1 (av.mpr ⟨y,hy,z.trans e⟩)
 rw[h1,h2]
section
variable{C:Cl}{H H':Hp}{D:TD}
theorem bW.node(h:bW C H D)(nd:(D.ns.map (·.nm)).Nodup){n n':ND}(hn:n∈D.ns)(e:n'.nm=n.nm)(ep:n'.p=n.p)(d:iw n.foot H H')(ok:mZ C H' D.most n')(fn:n'.foot.Nodup)(fr:∀b∈n'.foot,b∈n.foot\/H b=none):bW C H' {D with ns:=cu D.ns n'}:=by
 obtain⟨l1,l2,el⟩:=iU hn;have fd:=h.fd;unfold TD.foot at fd;rw[el,kD,jf]at fd;simp only[aG,ak,ao,not_or,bO]at fd;obtain⟨⟨a1,a2,a3,a4,a5⟩,⟨b1,b2,b3,b4⟩,⟨c1,c2,c3⟩,d1,⟨d2,d3,d4⟩,d5⟩:=fd;have nt:∀b∈n.foot,∀xs,H b≠some (.tup xs):=fun b hb xs z=>by obtain⟨o,ho,q⟩:=(h.nd n hn).at hb;rw[ho]at z;exact q xs (aq z)
 obtain⟨dx,fs,h1,h2⟩:=h.ex;have new:∀{b:Addr}{o:HO},H b=some o->b∉n.foot->b∉n'.foot:=fun{b o} ho hb z=>by
  rcases fr b z with y|y
  ·exact hb y
  ·rw[ho]at y;cases y
 have sp:cu D.ns n'=l1++n'::l2:=by rw[el]at nd⊢;exact ZP e nd
 have hs:∀{b:Addr},b∈D.foot->∃o,H b=some o:=fun{b} hb=>(h.at hb).imp fun _ z=>z.1;refine⟨⟨dx,fs,d _ _ a4 h1,h2⟩,?_,fun x hx=>?_,d _ _ c2 h.go,Hy (fun p g z=>d _ _ (fun y=>nt p y _ z) z) h.gr,?_⟩
 ·show H' D.pn=some (.dK (wU (cu D.ns n')));have:wU (cu D.ns n')=wU D.ns:=by rw[sp,el];unfold wU;rw[aA,aA,ay,ay,e,ep]
  rw[this];exact d _ _ b3 h.hn
 ·have hx:x∈l1++n'::l2:=sp▸hx;have DL:x∈D.ns->(∀b∈x.foot,b∉n.foot)->mZ C H' D.most x:=fun h1 h2=>(h.nd x h1).kW d h2 nt;rcases ao.mp hx with z|z
  ·exact DL (el▸ao.mpr (.inl z)) fun b hb y=>d5 b (dR.mpr ⟨x,z,hb⟩) b (.inl y) rfl
  ·rcases ak.mp z with z|z
   ·rw[z];exact ok
   ·exact DL (el▸ao.mpr (.inr (ae _ z))) fun b hb y=>d4 b y b (dR.mpr ⟨x,z,hb⟩) rfl
 ·show(D.p::D.pn::D.pg::(cu D.ns n').flatMap ND.foot).Nodup;rw[sp,kD,jf];simp only[aG,ak,ao,not_or,bO];have MV:∀{b:Addr},b∈l1.flatMap ND.foot->∃o,H b=some o:=fun{b} hb=>by obtain⟨x,hx,y⟩:=dR.mp hb;exact hs (TD.e8 (el▸ao.mpr (.inl hx)) y)
  have AO:∀{b:Addr},b∈l2.flatMap ND.foot->∃o,H b=some o:=fun{b} hb=>by obtain⟨x,hx,y⟩:=dR.mp hb;exact hs (TD.e8 (el▸ao.mpr (.inr (ae _ hx))) y)
  refine⟨⟨a1,a2,a3,new h1 a4,a5⟩,⟨b1,b2,new h.hn b3,b4⟩,⟨c1,new h.go c2,c3⟩,d1,⟨fn,d3,fun b hb c hc z=>?_⟩,fun b hb c hc z=>?_⟩
  ·subst z;obtain⟨o,ho⟩:=AO hc;exact new ho (fun y=>d4 b y b hc rfl) hb
  ·subst z;obtain⟨o,ho⟩:=MV hb;rcases hc with y|y
   ·exact new ho (fun q=>d5 b hb b (.inl q) rfl) y
   ·exact d5 b hb b (.inr y) rfl
end
def road:Str:=Str.ofString "road"
inductive Up(ns:List ND):Str->List Str->Prop
 |top {x:Str} {n:ND}:aU ns x=some n->n.ab=none->Up ns x [x]
 |on {x y:Str} {n:ND} {ys:List Str}:aU ns x=some n->n.ab=some y->Up ns y ys->Up ns x (x::ys)
theorem Up.RO{ns:List ND}{x:Str}{ys:List Str}(h:Up ns x ys):∃n,aU ns x=some n:=by
 cases h with
 |top h _=>exact⟨_,h⟩
 |on h _ _=>exact⟨_,h⟩
theorem Up.det{ns:List ND}{x:Str}{ys zs:List Str}(h:Up ns x ys):Up ns x zs->ys=zs:=by
 induction h generalizing zs with
 |top h e=>
  intro k;cases k with
  |top _ _=>rfl
  |on h2 e2 _=>rw[h]at h2;cases h2;rw[e]at e2;cases e2
 |on h e r ih=>
  intro k;cases k with
  |top h2 e2=>rw[h]at h2;cases h2;rw[e]at e2;cases e2
  |on h2 e2 r2=>
   rw[h]at h2;cases h2;rw[e]at e2;cases e2
   rw[ih r2]
theorem Up.mono{ns Xj:List ND}{x:Str}{ys:List Str}(h:Up ns x ys):(∀z∈ys,∀n,aU ns z=some n->∃n',aU Xj z=some n'/\n'.ab=n.ab)->Up Xj x ys:=by
 induction h with
 |top h e=>
  intro k;obtain⟨n',h1,h2⟩:=k _ (aj ..) _ h;exact .top h1 (h2.trans e)
 |on h e r ih=>
  intro k;obtain⟨n',h1,h2⟩:=k _ (aj ..) _ h;exact .on h1 (h2.trans e) (ih fun z hz=>k z (ae _ hz))
theorem Up.last{ns:List ND}{x:Str}{ys:List Str}(h:Up ns x ys)(r:∀n∈ns,n.ab=none->n.nm=road):∃zs,ys=zs++[road]:=by
 induction h with
 |top h e=>
  obtain⟨a,b⟩:=iD h;exact⟨[],by rw[<-b,r _ a e];rfl⟩
 |on h e k ih=>
  obtain⟨zs,z⟩:=ih;exact⟨_::zs,by rw[z];rfl⟩
theorem Up.mem{ns:List ND}{x:Str}{ys:List Str}(h:Up ns x ys):∀z∈ys,∃n,aU ns z=some n:=by
 induction h with
 |top h e=>intro z hz;rw[au.mp hz];exact⟨_,h⟩
 |on h e k ih=>
  intro z hz;rcases ak.mp hz with q|q
  ·rw[q];exact⟨_,h⟩
  ·exact ih z q
def iL(ns:List ND)(x:Str):List Str:=(ns.filter fun n=>decide (n.ab=some x)).map (·.nm)
structure TD.Wf(D:TD):Prop where
 nn:(D.ns.map (·.nm)).Nodup
 rd:∃n r,D.ns=n::r/\n.nm=road/\n.ab=none/\n.ch≠none
 ra:∀n∈D.ns,n.ab=none->n.nm=road
 up:∀n∈D.ns,∃ys,Up D.ns n.nm ys/\ys.length<=6
 CW:∀n∈D.ns,∀c,n.ch=some c->c.2.nm.map (·.1)=iL D.ns n.nm
 lf:∀n∈D.ns,n.ch=none->iL D.ns n.nm=[]
 vS:∀n∈D.ns,∀c,n.ch=some c->c.2.Ok D.most
 m1:1<=D.most/\D.most<=1000000
 IG:∀n∈D.ns,PyData.strOk n.nm=true/\n.nm.length<=8
theorem TD.Wf.rdN{D:TD}(h:D.Wf):∃n,aU D.ns L2.road=some n/\n.ab=none/\n.ch≠none:=by obtain⟨n,r,e,h1,h2,h3⟩:=h.rd;have:=wD h.nn (n:=n) (by rw[e];exact aj ..);exact⟨n,h1▸this,h2,h3⟩
theorem GB{ns:List ND}{x:Str}:aU ns x≠none↔x∈ns.map (·.nm):=by rw[Ne,lK,Decidable.not_not]
theorem zxi(ns:List ND)(n:ND)(x:Str):iL (ns++[n]) x=iL ns x++(if n.ab=some x then[n.nm]else[]):=by
 unfold iL;rw[gB,aA];congr 1;by_cases h:n.ab=some x
 ·simp[h]
 ·simp[h]
theorem zry{ns:List ND}{n n':ND}(nd:(ns.map (·.nm)).Nodup)(hn:n∈ns)(e:n'.nm=n.nm)(ea:n'.ab=n.ab)(x:Str):iL (cu ns n') x=iL ns x:=by
 obtain⟨l1,l2,el⟩:=iU hn;rw[el]at nd⊢;rw[ZP e nd];unfold iL;rw[gB,gB,aA,aA];congr 1;rw[fK,fK,ea];by_cases h:n.ab=some x
 ·simp[h,e]
 ·simp[h]
theorem TD.Wf.set{D:TD}(h:D.Wf){n n':ND}(hn:n∈D.ns)(e:n'.nm=n.nm)(ea:n'.ab=n.ab)(ec:n'.ch=none↔n.ch=none)(ek:∀c c',n.ch=some c->n'.ch=some c'->c'.2.nm.map (·.1)=c.2.nm.map (·.1))(ok:∀c,n'.ch=some c->c.2.Ok D.most):{D with ns:=cu D.ns n'}.Wf:=by
 have fn:=wD h.nn hn;have fs:∀y,aU (cu D.ns n') y=if y=n.nm then some n' else aU D.ns y:=fun y=>by
  rw[Ld,e];by_cases q:y=n.nm
  ·rw[if_pos q,if_pos q,q,fn];rfl
  ·rw[if_neg q,if_neg q]
 have mem:∀y∈cu D.ns n',y=n'\/y∈D.ns:=fun y hy=>by
  unfold cu at hy;obtain⟨z,hz,q⟩:=av.mp hy;split at q
  ·exact .inl q.symm
  ·exact .inr (q▸hz)
 have kd:=fun x=>zry h.nn hn e ea x;have Jd:∀{x ys},Up D.ns x ys->Up (cu D.ns n') x ys:=fun{x ys} u=>u.mono fun z _ m hm=>by
  rw[fs];by_cases q:z=n.nm
  ·rw[if_pos q];rw[q,fn]at hm;cases hm
   exact⟨_,rfl,ea⟩
  ·rw[if_neg q];exact⟨m,hm,rfl⟩
 obtain⟨r,rs,er,r1,r2,r3⟩:=h.rd;refine⟨by show((cu D.ns n').map (·.nm)).Nodup;rw[Lc];exact h.nn,?_,fun y hy ha=>?_,fun y hy=>?_,fun y hy c hc=>?_,fun y hy hc=>?_,fun y hy c hc=>?_,h.m1,fun y hy=>?_⟩
 ·show ∃n r,cu D.ns n'=n::r/\_;rw[er];unfold cu;rw[ay];by_cases q:r.nm=n'.nm
  ·rw[if_pos q];have:r=n:=by have h1:=wD h.nn (n:=r) (by rw[er];exact aj ..);rw[q,e,fn]at h1;exact(aq h1).symm
   subst this;exact⟨_,_,rfl,q▸r1,ea.trans r2,fun z=>r3 (ec.mp z)⟩
  ·rw[if_neg q];exact⟨_,_,rfl,r1,r2,r3⟩
 ·rcases mem y hy with z|z
  ·subst z;rw[e];exact h.ra n hn (ea▸ha)
  ·exact h.ra y z ha
 ·rcases mem y hy with z|z
  ·subst z;obtain⟨ys,u,l⟩:=h.up n hn;exact⟨ys,by rw[e];exact Jd u,l⟩
  ·obtain⟨ys,u,l⟩:=h.up y z;exact⟨ys,Jd u,l⟩
 ·show _=iL (cu D.ns n') y.nm;rw[kd];rcases mem y hy with z|z
  ·subst z;cases MN:n.ch with
   |none=>rw[ec.mpr MN]at hc;cases hc
   |some c0=>rw[ek c0 c MN hc,e];exact h.CW n hn c0 MN
  ·exact h.CW y z c hc
 ·show iL (cu D.ns n') y.nm=[];rw[kd];rcases mem y hy with z|z
  ·subst z;rw[e];exact h.lf n hn (ec.mp hc)
  ·exact h.lf y z hc
 ·rcases mem y hy with z|z
  ·subst z;exact ok c hc
  ·exact h.vS y z c hc
 ·rcases mem y hy with z|z
  ·subst z;rw[e];exact h.IG n hn
  ·exact h.IG y z
theorem TD.Wf.put{D:TD}(h:D.Wf){u u' n:ND}{c:lV×dZ}{s:Int}(hu:u∈D.ns)(hc:u.ch=some c)(eu:u'={u with ch:=some (c.1,c.2.put n.nm s)})(ok:(c.2.put n.nm s).Ok D.most)(hn:aU D.ns n.nm=none)(ea:n.ab=some u.nm)(dp:∀ys,Up D.ns u.nm ys->ys.length<=5)(nk:∀c,n.ch=some c->c.2.nm=[]/\c.2.Ok D.most)(sk:PyData.strOk n.nm=true/\n.nm.length<=8):{D with ns:=cu D.ns u'++[n]}.Wf:=by
 have en:u'.nm=u.nm:=by rw[eu]
 have Pk:u'.ab=u.ab:=by rw[eu]
 have fu:=wD h.nn hu;have eZ:n.nm∉D.ns.map (·.nm):=lK.mp hn;have nu:n.nm≠u.nm:=fun z=>eZ (z▸av.mpr ⟨u,hu,rfl⟩);have fs:∀y,aU (cu D.ns u') y=if y=u.nm then some u' else aU D.ns y:=fun y=>by
  rw[Ld,en];by_cases q:y=u.nm
  ·rw[if_pos q,if_pos q,q,fu];rfl
  ·rw[if_neg q,if_neg q]
 have AR:aU (cu D.ns u') n.nm=none:=by rw[fs,if_neg nu];exact hn
 have ff:=fun y=>VZ (n:=n) AR y;have mem:∀y∈cu D.ns u'++[n],y=n\/y=u'\/(y∈D.ns/\y.nm≠u.nm):=fun y hy=>by
  rcases ao.mp hy with hy|hy
  ·unfold cu at hy;obtain⟨z,hz,q⟩:=av.mp hy;split at q
   ·exact .inr (.inl q.symm)
   ·rename_i k
    exact .inr (.inr ⟨q▸hz,fun w=>k (by rw[q,w,en])⟩)
  ·exact .inl (au.mp hy)
 have Jd:∀{x ys},Up D.ns x ys->Up (cu D.ns u'++[n]) x ys:=fun{x ys} w=>w.mono fun z _ m hm=>by
  rw[ff,fs];have z1:z≠n.nm:=fun q=>by rw[q,hn]at hm;cases hm
  rw[if_neg z1];by_cases q:z=u.nm
  ·rw[if_pos q];rw[q,fu]at hm;cases hm
   exact⟨_,rfl,Pk⟩
  ·rw[if_neg q];exact⟨m,hm,rfl⟩
 have kd:∀x,iL (cu D.ns u'++[n]) x=iL D.ns x++(if x=u.nm then[n.nm]else[]):=fun x=>by
  rw[zxi,zry h.nn hu en Pk,ea];by_cases q:x=u.nm
  ·rw[if_pos q,if_pos (by rw[q])]
  ·rw[if_neg q,if_neg (fun z=>q (aq z).symm)]
 have Ir:iL D.ns n.nm=[]:=by
  unfold iL;rw[List.map_eq_nil_iff,List.filter_eq_nil_iff];intro y hy z;have z:=of_decide_eq_true z;obtain⟨ys,w,_⟩:=h.up y hy;cases w with
  |top h1 h2=>rw[wD h.nn hy]at h1;cases h1;rw[z]at h2;cases h2
  |on h1 h2 w=>
   rw[wD h.nn hy]at h1;cases h1;rw[z]at h2;cases h2
   obtain⟨m,hm⟩:=w.RO;rw[hn]at hm;cases hm
 obtain⟨r,rs,er,r1,r2,r3⟩:=h.rd;refine⟨?_,?_,fun y hy ha=>?_,fun y hy=>?_,fun y hy d hd=>?_,fun y hy hd=>?_,fun y hy d hd=>?_,h.m1,fun y hy=>?_⟩
 ·show((cu D.ns u'++[n]).map (·.nm)).Nodup;rw[aA,Lc,bO];refine⟨h.nn,by simp,fun a ha b hb z=>?_⟩;have:b=n.nm:=au.mp hb;subst this;subst z;exact eZ ha
 ·show ∃m r,cu D.ns u'++[n]=m::r/\_;rw[er];unfold cu;rw[ay,fc];by_cases q:r.nm=u'.nm
  ·rw[if_pos q];have:r=u:=by have h1:=wD h.nn (n:=r) (by rw[er];exact aj ..);rw[q,en,fu]at h1;exact(aq h1).symm
   subst this;exact⟨_,_,rfl,q▸r1,Pk.trans r2,by rw[eu];simp⟩
  ·rw[if_neg q];exact⟨_,_,rfl,r1,r2,r3⟩
 ·rcases mem y hy with z|z|z
  ·subst z;rw[ea]at ha;cases ha
  ·subst z;rw[en];exact h.ra u hu (Pk▸ha)
  ·exact h.ra y z.1 ha
 ·rcases mem y hy with z|z|z
  ·subst z;obtain⟨ys,w,_⟩:=h.up u hu;refine⟨y.nm::ys,.on (n:=y) (by rw[ff,if_pos rfl]) ea (Jd w),?_⟩;have:=dp ys w;rw[bw];omega
  ·subst z;obtain⟨ys,w,l⟩:=h.up u hu;exact⟨ys,by rw[en];exact Jd w,l⟩
  ·obtain⟨ys,w,l⟩:=h.up y z.1;exact⟨ys,Jd w,l⟩
 ·show _=iL (cu D.ns u'++[n]) y.nm;rw[kd];rcases mem y hy with z|z|z
  ·subst z;rw[(nk d hd).1,Ir,if_neg nu];rfl
  ·subst z;rw[en,if_pos rfl];have:d=(c.1,c.2.put n.nm s):=by rw[eu]at hd;exact(aq hd).symm
   rw[this];show(c.2.put n.nm s).nm.map (·.1)=_;rw[dZ.Km,aA,h.CW u hu c hc];rfl
  ·rw[if_neg z.2,aJ];exact h.CW y z.1 d hd
 ·show iL (cu D.ns u'++[n]) y.nm=[];rw[kd];rcases mem y hy with z|z|z
  ·subst z;rw[Ir,if_neg nu];rfl
  ·subst z;rw[eu]at hd;cases hd
  ·rw[if_neg z.2,aJ];exact h.lf y z.1 hd
 ·rcases mem y hy with z|z|z
  ·subst z;exact(nk d hd).2
  ·subst z;have:d=(c.1,c.2.put n.nm s):=by rw[eu]at hd;exact(aq hd).symm
   rw[this];exact ok
  ·exact h.vS y z.1 d hd
 ·rcases mem y hy with z|z|z
  ·subst z;exact sk
  ·subst z;rw[en];exact h.IG u hu
  ·exact h.IG y z.1
theorem TD.Wf.new{D:TD}{n:ND}{a:lV}{b:Bool}(e:D.ns=[n])(h1:n.nm=road)(h2:n.ab=none)(h3:n.ch=some (a,dZ.new b))(m1:1<=D.most/\D.most<=1000000):D.Wf:=by
 have one:∀{y},y∈D.ns->y=n:=fun{y} hy=>by rw[e]at hy;exact au.mp hy
 have f:aU D.ns n.nm=some n:=by rw[e];unfold aU;simp
 have kd:∀x,iL D.ns x=[]:=fun x=>by rw[e];unfold iL;simp[h2]
 refine⟨by rw[e];simp,⟨n,[],e,h1,h2,by rw[h3];simp⟩,fun y hy _=>one hy▸h1,fun y hy=>?_,fun y hy c hc=>?_,fun y hy _=>kd _,fun y hy c hc=>?_,m1,fun y hy=>?_⟩
 ·rw[one hy];exact⟨[n.nm],.top f h2,by simp⟩
 ·rw[kd];rw[one hy,h3]at hc;cases hc
  show(dZ.new b).nm.map _=[];rw[dZ.EC];rfl
 ·rw[one hy,h3]at hc;cases hc
  exact dZ.Ok.new m1.1 b
 ·rw[one hy,h1];exact⟨by decide+kernel,by decide+kernel⟩
theorem TD.Wf.xW{D:TD}(h:D.Wf){n:ND}(hn:n∈D.ns){c:lV×dZ}(hc:n.ch=some c):c.2.nm.length<=D.ns.length:=by have:=congrArg iV (h.CW n hn c hc);unfold iL at this;rw[ai,ai]at this;rw[this];exact fO _ _
section
variable{C:Cl}{H H':Hp}{D:TD}
theorem bW.x6(h:bW C H D){n:ND}(hn:n∈D.ns):n.foot.Nodup:=by have fd:=h.fd;unfold TD.foot at fd;obtain⟨l1,l2,el⟩:=iU hn;rw[el,kD,jf]at fd;simp only[aG,bO]at fd;exact fd.2.2.2.2.1.1
theorem bW.xN(h:bW C H D)(nd:(D.ns.map (·.nm)).Nodup){n:ND}(hn:n∈D.ns){a:lV}{c c':dZ}(hc:n.ch=some (a,c))(ow:mU a H H')(C':Av C.s C.r C.m H' a D.most c'):bW C H' {D with ns:=cu D.ns {n with ch:=some (a,c')}}:=by
 have fn:=h.x6 hn;have N:=h.nd n hn;have ef:ND.foot {n with ch:=some (a,c')}=n.foot:=by unfold ND.foot;rw[hc];rfl
 have sub:∀b∈kX a,b∈n.foot:=fun b hb=>by unfold ND.foot;rw[hc];exact ae _ (ae _ (ao.mpr (.inl hb)))
 have fd:n.foot=n.p::n.ql::(kX a++Mu n.bk):=by unfold ND.foot;rw[hc];rfl
 have AL:=fn;rw[fd]at AL;simp only[aG,ak,ao,not_or,bO]at AL;obtain⟨⟨f1,f2,f3⟩,⟨f4,f5⟩,f6,f7,f8⟩:=AL;have dd:=ow.kW;have nt:∀{b xs},H b=some (.tup xs)->b∉kX a:=fun{b xs} e z=>by obtain⟨o,ho,q⟩:=(N.ch _ hc).at z;rw[e]at ho;exact q xs (aq ho).symm
 obtain⟨dx,fs,h1,h2⟩:=N.ex;refine h.node nd hn rfl rfl (dd.mono sub) ⟨⟨dx,fs,dd _ _ f2 h1,by rw[hc]at h2;exact h2⟩,⟨dd _ _ f4 N.qu.hl,N.qu.r.keep fun p z hp=>dd _ _ (nt hp) hp⟩,fun d hd=>?_,fun b hb=>?_⟩ (by rw[ef];exact fn) fun b hb=>.inl (by rw[ef]at hb;exact hb)
 ·cases hd;exact C'
 ·obtain⟨Eh,rG,pr,pl,b1,b2,b3,b4⟩:=(N.bk b hb).ex;have:b.1∉kX a:=fun z=>f8 b.1 z b.1 (by rw[show n.bk=some b from hb];exact au.mpr rfl) rfl;exact⟨Eh,rG,pr,pl,dd _ _ this b1,b2,dd _ _ (nt b3) b3,dd _ _ (nt b4) b4⟩
theorem bW.snoc(h:bW C H D){n:ND}(s:bE H H')(ok:mZ C H' D.most n)(fn:n.foot.Nodup)(fr:∀b∈n.foot,H b=none):bW C (upd H' D.pn (.dK (wU (D.ns++[n])))) {D with ns:=D.ns++[n]}:=by
 have fd:=h.fd;unfold TD.foot at fd;simp only[aG,ak,not_or]at fd;obtain⟨⟨a1,a2,a3⟩,⟨b1,b2⟩,c1,d1⟩:=fd;have nf:∀b∈D.foot,b∉n.foot:=fun b hb z=>by obtain⟨o,ho,_⟩:=h.at hb;rw[fr b z]at ho;cases ho
 have kp:∀b o,b≠D.pn->H' b=some o->upd H' D.pn (.dK (wU (D.ns++[n]))) b=some o:=fun b o q e=>by rw[bM q];exact e
 have tp:∀{b xs},H' b=some (.tup xs)->b≠D.pn:=fun{b xs} e z=>by rw[z,s _ _ h.hn]at e;cases e
 obtain⟨dx,fs,h1,h2⟩:=h.ex;have h':=h.same s;refine⟨⟨dx,fs,kp _ _ a1 (s _ _ h1),h2⟩,bX,fun x hx=>?_,kp _ _ (b9 b1) (s _ _ h.go),Hy (fun p g z=>kp _ _ (tp z) z) h'.gr,?_⟩
 ·rcases ao.mp hx with z|z
  ·refine(h'.nd x z).keep fun b o hb e=>kp b o ?_ e;rcases hb with q|⟨xs,q⟩
   ·exact fun w=>b2 (w▸dR.mpr ⟨x,z,q⟩)
   ·exact tp q
  ·rw[au.mp z];refine ok.keep fun b o hb e=>kp b o ?_ e;rcases hb with q|⟨xs,q⟩
   ·exact fun w=>nf D.pn (ae _ (aj ..)) (w▸q)
   ·exact tp q
 ·show(D.p::D.pn::D.pg::(D.ns++[n]).flatMap ND.foot).Nodup;rw[kD,jf,HM,aJ];simp only[aG,ak,ao,not_or,bO];have f1:=nf D.p (aj ..);have f2:=nf D.pn (ae _ (aj ..));have f3:=nf D.pg (ae _ (ae _ (aj ..)));refine⟨⟨a1,a2,a3,f1⟩,⟨b1,b2,f2⟩,⟨c1,f3⟩,d1,fn,fun b hb c hc z=>?_⟩;subst z;obtain⟨x,hx,y⟩:=dR.mp hb;exact nf b (TD.e8 hx y) hc
end
theorem Cu{n:Nat}(h:n<=1000000):n<sizeLine:=by rw[sizeLine_eq];omega
theorem Uj{n:Nat}(h:n<=1000000):n<=sizeLine:=om (Cu h)
theorem Dt{α:Type}{l:List α}{i:Nat}{a:α}(h:l[i]?=some a):l.take (i+1)=l.take i++[a]:=by obtain⟨hi,e⟩:=aL.mp h;rw[ua hi,e]
def Rj(n:Nat)(z:Str):Prop:=PyData.strOk z=true/\z.length<=n
theorem Vk{z:Str}:PyData.strOk z=true↔∀c∈z.cps.toList,c<1114112:=by unfold PyData.strOk;rw[Array.all_eq_true_iff_forall_mem];simp
def lets:Str:=Str.ofString "abcdefghijklmnopqrstuvwxyz"
def yu(z:Str):Prop:=(1<=z.length/\z.length<=8)/\∀c∈z.cps.toList,c∈lets.cps.toList
instance (z:Str):Decidable (yu z):=by unfold yu;exact inferInstance
def jW(kd:Str):Prop:=kd=Str.ofString "starts"\/kd=Str.ofString "rounds"
instance (kd:Str):Decidable (jW kd):=by unfold jW;exact inferInstance
def uG(kd:Str):Bool:=decide (kd=Str.ofString "rounds")
theorem zrz{kd:Str}:GV (.str kd) [.str (Str.ofString "starts"),.str (Str.ofString "rounds")]=decide (jW kd):=by rw[eU,decide_eq_true_iff];show(Str.ofString "starts" ==kd||(Str.ofString "rounds" ==kd||false))=true↔kd=Str.ofString "starts"\/kd=Str.ofString "rounds";rw[Bool.or_false,Bool.or_eq_true,beq_iff_eq,beq_iff_eq];exact⟨fun h=>h.imp Jr Jr,fun h=>h.imp Jr Jr⟩
theorem i7{C:Cl}{H:Hp}{D:TD}{x:Str}{n:ND}(O:bW C H D)(h:aU D.ns x=some n):g7 H D.pn (.str x) (some (.ref n.p)):=by have:=g7.k (k:=aC x) O.hn;rw[OS,h]at this;exact this
def qG(kd:Str):Prop:=kd=Str.ofString "leaf"\/jW kd
instance (kd:Str):Decidable (qG kd):=by unfold qG;exact inferInstance
inductive Rf|name|taken|cls|place|share|length
open Classical in
noncomputable def kH(D:TD)(x u kd:Str)(s:Int)(rm:V):Option Rf:=
 if ¬yu x then some .name
 else if aU D.ns x≠none then some .taken
 else match aU D.ns u with
  |none=>some .cls
  |some n=>if ¬(qG kd/\n.ch≠none/\∀ys,Up D.ns u ys->ys.length<=5)then some .place
   else if ¬(1<=s/\s<=1000000)then some .share
   else if kd=Str.ofString "leaf"/\∃r:Int,rm= .int r/\r<0 then some .length
   else none
section
variable{D:TD}{x u kd:Str}{s:Int}{rm:V}{n:ND}
theorem zsa(h:¬yu x):kH D x u kd s rm=some .name:=by unfold kH;rw[if_pos h]
theorem ZQ(h:yu x)(hx:aU D.ns x≠none):kH D x u kd s rm=some .taken:=by unfold kH;rw[if_neg (fun z=>z h),if_pos hx]
theorem zvf(h:yu x)(hx:aU D.ns x=none)(hu:aU D.ns u=none):kH D x u kd s rm=some .cls:=by unfold kH;rw[if_neg (fun z=>z h),if_neg (fun z=>z hx),hu]
theorem ZR(h:yu x)(hx:aU D.ns x=none)(hu:aU D.ns u=some n)(c:¬(qG kd/\n.ch≠none/\∀ys,Up D.ns u ys->ys.length<=5)):kH D x u kd s rm=some .place:=by unfold kH;rw[if_neg (fun z=>z h),if_neg (fun z=>z hx),hu];exact if_pos c
theorem ZS(h:yu x)(hx:aU D.ns x=none)(hu:aU D.ns u=some n)(c:qG kd/\n.ch≠none/\∀ys,Up D.ns u ys->ys.length<=5)(d:¬(1<=s/\s<=1000000)):kH D x u kd s rm=some .share:=by unfold kH;rw[if_neg (fun z=>z h),if_neg (fun z=>z hx),hu];exact(if_neg (fun z=>z c)).trans (if_pos d)
theorem zsz(h:yu x)(hx:aU D.ns x=none)(hu:aU D.ns u=some n)(c:qG kd/\n.ch≠none/\∀ys,Up D.ns u ys->ys.length<=5)(d:1<=s/\s<=1000000)(e:kd=Str.ofString "leaf"/\∃r:Int,rm= .int r/\r<0):kH D x u kd s rm=some .length:=by unfold kH;rw[if_neg (fun z=>z h),if_neg (fun z=>z hx),hu];exact(if_neg (fun z=>z c)).trans ((if_neg (fun z=>z d)).trans (if_pos e))
theorem VO(h:yu x)(hx:aU D.ns x=none)(hu:aU D.ns u=some n)(c:qG kd/\n.ch≠none/\∀ys,Up D.ns u ys->ys.length<=5)(d:1<=s/\s<=1000000)(e:¬(kd=Str.ofString "leaf"/\∃r:Int,rm= .int r/\r<0)):kH D x u kd s rm=none:=by unfold kH;rw[if_neg (fun z=>z h),if_neg (fun z=>z hx),hu];exact(if_neg (fun z=>z c)).trans ((if_neg (fun z=>z d)).trans (if_neg e))
end
def Rf.at(cN cT cC cP cS cL:Addr):Rf->Addr
 | .name=>cN
 | .taken=>cT
 | .cls=>cC
 | .place=>cP
 | .share=>cS
 | .length=>cL
def TD.put(D:TD)(u:ND)(c:lV×dZ)(s:Int)(n:ND):TD:={D with ns:=cu D.ns {u with ch:=some (c.1,c.2.put n.nm s)}++[n]}
def TD.full(D:TD):Prop:=D.ns.length<=60/\∀n∈D.ns,∀c,n.ch=some c->c.2.sz<=4*D.ns.length
def TD.fit(D:TD):Prop:=D.ns.length<=60/\∀n∈D.ns,∀c,n.ch=some c->c.2.sz<=800
section
variable{X:Cx}
end
theorem nC{K:aa}{H:Hp}{l:Addr}{xs:List Int}{Q:VK}(i:Nat)(hl:H l=some (.lst (xs.map V.int)))(hi:i<xs.length)(k:∀y∈xs,Q (.int y) H):yb K (.ref l) (.int (i:Int)) H Q:=by have e:=F7 (xs:=xs.map V.int) (j:=i) (v:=V.int (xs[i]'hi)) (by simp);exact vD (.of hl) e (k _ (g6 hi))
theorem W6{K:aa}{H:Hp}{l:Addr}{ks:List Str}{Q:VK}{y:Int}(hl:H l=some (.lst (ks.map V.str)))(h0:0<=y)(h1:y<ks.length)(k:∀z∈ks,Q (.str z) H):yb K (.ref l) (.int y) H Q:=by have e:=F7 (xs:=ks.map V.str) (j:=y.toNat) (v:=V.str (ks[y.toNat]'(by omega))) (by simp);rw[rO h0]at e;exact vD (.of hl) e (k _ (g6 _))
theorem zxj{c:TT}{t1 t2:TS}{D:Ends}{σ:St}{H:Hp}(h:∀G:St->Hp->Prop,(∀σ H,t1 D σ H->G σ H)->rh c (fun _ σ H=>G σ H) t2 D σ H):rh c t1 t2 D σ H:=h (t1 D) fun _ _ z=>z
section
variable{C:Cl}{H H':Hp}{D:TD}
theorem bW.apart(h:bW C H D){x:ND}(hx:x∈D.ns){b:Addr}(hb:b∈x.foot):b≠D.p/\b≠D.pn/\b≠D.pg:=by have fd:=h.fd;unfold TD.foot at fd;simp only[aG,ak,not_or]at fd;have m:=dR.mpr ⟨x,hx,hb⟩;exact⟨fun z=>fd.1.2.2 (z▸m),fun z=>fd.2.1.2 (z▸m),fun z=>fd.2.2.1 (z▸m)⟩
theorem bW.field(h:bW C H D){dx:Addr}{fs rG:List (Str×V)}{tm fr ct:Int}(hp:H D.p=some (.ins C.t dx fs))(ft:Ay rG D.most D.pn tm fr ct D.pg):bW C (upd H D.p (.ins C.t dx rG)) {D with tm:=tm,fr:=fr,ct:=ct}:=by
 have fd:=h.fd;unfold TD.foot at fd;simp only[aG,ak,not_or]at fd;have kp:∀b o,b≠D.p->H b=some o->upd H D.p (.ins C.t dx rG) b=some o:=fun b o q e=>by rw[bM q];exact e
 have tp:∀{b xs},H b=some (.tup xs)->b≠D.p:=fun{b xs} e z=>by rw[z,hp]at e;cases e
 refine⟨⟨dx,rG,bX,ft⟩,kp _ _ (b9 fd.1.1) h.hn,fun x hx=>(h.nd x hx).keep fun b o hb e=>kp b o ?_ e,kp _ _ (b9 fd.1.2.1) h.go,Hy (fun p g z=>kp _ _ (tp z) z) h.gr,h.fd⟩;rcases hb with q|⟨xs,q⟩
 ·exact(h.apart hx q).1
 ·exact tp q
theorem bW.queue(h:bW C H D)(nd:(D.ns.map (·.nm)).Nodup){n:ND}(hn:n∈D.ns){ps:List Addr}{qu:List D2}(r:jj H ps qu):bW C (upd H n.ql (.lst (ps.map V.ref))) {D with ns:=cu D.ns {n with ps:=ps,qu:=qu}}:=by
 have fn:=h.x6 hn;have N:=h.nd n hn;have AL:=fn;unfold ND.foot at AL;simp only[aG,ak,ao,not_or]at AL;obtain⟨⟨f1,f2,f3⟩,⟨f4,f5⟩,f6⟩:=AL;have kp:∀b o,b≠n.ql->H b=some o->upd H n.ql (.lst (ps.map V.ref)) b=some o:=fun b o q e=>by rw[bM q];exact e
 have tp:∀{b xs},H b=some (.tup xs)->b≠n.ql:=fun{b xs} e z=>by rw[z,N.qu.hl]at e;cases e
 obtain⟨dx,fs,h1,h2⟩:=N.ex;refine h.node nd hn rfl rfl (ON (ae _ (aj ..))) ⟨⟨dx,fs,kp _ _ f1 h1,h2⟩,⟨bX,r.keep fun p z hp=>kp _ _ (tp hp) hp⟩,fun c hc=>?_,fun b hb=>?_⟩ fn fun b hb=>.inl hb
 ·refine(N.ch c hc).keep fun b o hb e=>kp b o ?_ e;rcases hb with q|⟨xs,q⟩
  ·exact fun z=>f4 (by rw[show n.ch=some c from hc];exact z▸q)
  ·exact tp q
 ·obtain⟨Eh,rG,pr,pl,b1,b2,b3,b4⟩:=(N.bk b hb).ex;have:b.1≠n.ql:=fun z=>f5 (by rw[show n.bk=some b from hb];exact au.mpr z.symm);exact⟨Eh,rG,pr,pl,kp _ _ this b1,b2,kp _ _ (tp b3) b3,kp _ _ (tp b4) b4⟩
end
section
variable{C:Cl}{H H':Hp}{D:TD}
end
theorem QK{X:Cx}(K:aa)(h:X.K=K){e:Expr}{f:Str}{pos:Pos}{ta:TE}(he:PE X e ta)(hb:attributeBase e f X.env (eval e X.env)=eval e X.env):PE X (.Attribute e f pos) (KZ K ta f):=h▸eT he hb
theorem bW.jO{C:Cl}{H Hb:Hp}{D:TD}(h:bW C H D)(nd:(D.ns.map (·.nm)).Nodup){n:ND}(hn:n∈D.ns)(s:bE H Hb){dx:Addr}{fs:List (Str×V)}(hp:Hb n.p=some (.ins C.n dx fs))(hf:FN fs (oQ n.ab) (Mv n.ch) n.rm (JI n.bk) n.ql)(Fz:Option (Addr×je))(hb:∀b,Fz=some b->Bk C.b Hb b.1 b.2.d b.2.r b.2.s b.2.l/\H b.1=none):bW C (upd Hb n.p (.ins C.n dx (aD "bucket" (JI Fz) fs))) {D with ns:=cu D.ns {n with bk:=Fz}}:=by
 have fn:=h.x6 hn;have N:=(h.nd n hn).keep (H':=Hb) fun b o _ e=>s b o e;have AL:=fn;unfold ND.foot at AL;simp only[aG,ak,ao,not_or,bO]at AL;obtain⟨⟨f1,f2,f3⟩,⟨f4,f5⟩,f6,f7,f8⟩:=AL;have kp:∀b o,b≠n.p->Hb b=some o->upd Hb n.p (.ins C.n dx (aD "bucket" (JI Fz) fs)) b=some o:=fun b o q e=>by rw[bM q];exact e
 have tp:∀{b xs},Hb b=some (.tup xs)->b≠n.p:=fun{b xs} e z=>by rw[z,hp]at e;cases e
 have hs:∀{b},b∈n.foot->∃o,H b=some o:=fun{b} hb=>(h.nd n hn).at hb|>.imp fun _ z=>z.1;refine h.node nd hn rfl rfl (fun b o nb e=>?_) ⟨⟨dx,_,bX,hf.Kx⟩,⟨kp _ _ (b9 f1) N.qu.hl,N.qu.r.keep fun p z hp=>kp _ _ (tp hp) hp⟩,fun c hc=>?_,fun b eb=>?_⟩ ?_ fun b vA=>?_
 ·have q:b≠n.p:=fun z=>nb (by rw[z];exact aj ..);rw[bM q];exact s _ _ e
 ·refine(N.ch c hc).keep fun b o hb e=>kp b o ?_ e;rcases hb with q|⟨xs,q⟩
  ·exact fun z=>f2 (by rw[show n.ch=some c from hc];exact z▸q)
  ·exact tp q
 ·obtain⟨q1,q2⟩:=hb b eb;obtain⟨Eh,rG,pr,pl,b1,b2,b3,b4⟩:=q1.ex;have:b.1≠n.p:=fun z=>by obtain⟨o,ho⟩:=hs (b:=n.p) (aj ..);rw[z,ho]at q2;cases q2
  exact⟨Eh,rG,pr,pl,kp _ _ this b1,b2,kp _ _ (tp b3) b3,kp _ _ (tp b4) b4⟩
 ·show(n.p::n.ql::(HV n.ch++Mu Fz)).Nodup;cases Fz with
  |none=>
   show(n.p::n.ql::(HV n.ch++[])).Nodup;rw[aJ,aG,aG,ak,not_or];exact⟨⟨f1,f2⟩,f4,f6⟩
  |some b=>
   have q2:=(hb b rfl).2;have nb:∀{y},y∈n.foot->y≠b.1:=fun{y} hy z=>by obtain⟨o,ho⟩:=hs hy;rw[z,q2]at ho;cases ho
   have m1:n.p∈n.foot:=aj ..;have m2:n.ql∈n.foot:=ae _ (aj ..);have m3:∀y∈HV n.ch,y∈n.foot:=fun y hy=>ae _ (ae _ (ao.mpr (.inl hy)));show(n.p::n.ql::(HV n.ch++[b.1])).Nodup;simp only[aG,ak,ao,not_or,bO,aI,or_false,not_false_eq_true,yy,and_true];refine⟨⟨f1,f2,nb m1⟩,⟨f4,nb m2⟩,f6,trivial,fun y hy z hz e=>?_⟩;exact nb (m3 y hy) (e.trans hz)
 ·unfold ND.foot at vA⊢;rcases ak.mp vA with z|vA
  ·exact .inl (z▸aj ..)
  rcases ak.mp vA with z|vA
  ·exact .inl (z▸ae _ (aj ..))
  rcases ao.mp vA with z|z
  ·exact .inl (ae _ (ae _ (ao.mpr (.inl z))))
  ·right;cases Fz with
   |none=>cases z
   |some b0=>rw[au.mp z];exact(hb b0 rfl).2
def TD.jO(D:TD)(n:ND)(bk:Option (Addr×je)):TD:={D with ns:=cu D.ns {n with bk:=bk}}
theorem TD.Wf.jO{D:TD}(h:D.Wf){n:ND}(hn:n∈D.ns)(bk:Option (Addr×je)):(D.jO n bk).Wf:=h.set hn rfl rfl Iff.rfl (fun c c' e1 e2=>by rw[show n.ch=some c' from e2]at e1;cases e1;rfl) fun c e=>h.vS n hn c e
section
variable{prog:Program}{w:World}{A:Around}{R:Result->Shared->Prop}
def Vl(ns:List Int)(j:Nat)(AI:Array Value):Prop:=(j=0/\AI= #[])\/∃m t,AI= #[.int m t,.int m t]/\m∈ns.take j/\∀n∈ns.take j,m<=n
def zyo(ns:List Int)(d v:Value):Prop:=(ns=[]/\v=d)\/∃m t,v= .int m t/\m∈ns/\∀n∈ns,m<=n
theorem zxk{l it S:Addr}{ns:List Int}{b7:List Value}{d:Value}(hh:A.handled=none)(Sm:l≠it)(GH:S≠it)(ML:S≠l)(rv:cj (ns.map V.int) b7):
    ∀(k j:Nat)(s:Shared)(AI:Array Value)(c:Nat),b7.length-j=k->j<=b7.length->s.heap.IsListIter it l j->s.heap.IsList l b7.toArray->Vl ns j AI->
    s.heap.get? S=some {cls:=.type "list",dict:=none,data:=.seq AI c,slots:=#[]}->
    (∀v h' tk,zyo ns d v->(∀b o,b≠it->b≠S->s.heap.get? b=some o->h'.get? b=some o)->R (.ok (.ret v)) {s with heap:=h',toks:=tk})->
    codeAny (model prog w) A (.builtin "min.loop" ⟨[.ref it,.none,.ref S],[("default",d)]⟩) R s:=by
  have gw:ns.length=b7.length:=by have:=rv.length;rwa [ai]at this
  have nm:(toString "min" ++toString ".loop":String)="min.loop":=by decide
  intro k
  induction k with
  |zero=>
    intro j s AI c hk hj Aq GN hb uD fin;have ej:j=b7.length:=by omega
    refine codeAny_builtin F.entry_min_loop ?_;rw[Around.under_plainId F.plain_min_loop _];show wpAny _ A.in1 (seqItems? (.ref S) >>=_) _ _ s;refine wpAny_bind (wpAny_seqItems uD rfl ?_);show wpAny _ A.in1 (tryCatch (pyNext (.ref it)) _ >>=_) _ _ s;refine wpAny_bind (wpAny_tryCatch (wpAny_pyNext_list_end (A:=A.in1) hh Aq GN (by simp[ej]) fun h' ek=>?_));have vA:=ek S _ GH uD;rcases hb with⟨e0,rfl⟩ |⟨m,t,rfl,hm,kZ⟩
    · refine wpAny_bind (wpAny_rule (wpAny_pure ?_));refine fin d h' s.toks (.inl ⟨AD.mp (by omega),rfl⟩) fun b o n1 _ e=>ek b o n1 e
    · show wpAny _ A.in1 (updateSeq S (fun _=>#[]) >>=_) _ _ _;refine wpAny_bind (wpAny_updateSeq vA rfl (wpAny_bind (wpAny_letGo (wpAny_pure ?_))));rw[ji (by omega)]at hm kZ;exact fin _ _ s.toks (.inr ⟨m,t,rfl,hm,kZ⟩) fun b o n1 n2 e=>(Heap.get?_update_other _ _ (b9 n2)).trans (ek b o n1 e)
  |succ k ih=>
    intro j s AI c hk hj Aq GN hb uD fin;have jT:j<b7.length:=by omega
    refine codeAny_builtin F.entry_min_loop ?_;rw[Around.under_plainId F.plain_min_loop _];show wpAny _ A.in1 (seqItems? (.ref S) >>=_) _ _ s;refine wpAny_bind (wpAny_seqItems uD rfl ?_);show wpAny _ A.in1 (tryCatch (pyNext (.ref it)) _ >>=_) _ _ s;have hv:b7.toArray[j]?=some b7[j]:=by simp[jT]
    refine wpAny_bind (wpAny_tryCatch (wpAny_pyNext_list_item Aq GN hv fun h' xT vY=>?_));obtain⟨n,t,en,ev⟩:=zrm rv hv;rw[ev];have vA:=vY.extBut S _ GH uD;have AQ:h'.IsList l b7.toArray:=GN.extBut vY.extBut Sm;have step:∀(m:Int)(tt:Tok)(s2:Shared)(c2:Nat),s2.heap.IsListIter it l (j+1)->s2.heap.IsList l b7.toArray->s2.heap.get? S=some {cls:=.type "list",dict:=none,data:=.seq #[.int m tt,.int m tt] c2,slots:=#[]}->
        m∈ns.take (j+1)->(∀z∈ns.take (j+1),m<=z)->(∀b o,b≠it->b≠S->s.heap.get? b=some o->s2.heap.get? b=some o)->s2.gens=s.gens->s2.drawn=s.drawn->s2.os=s.os->
        codeAny (model prog w) A (.builtin "min.loop" ⟨[.ref it,.none,.ref S],[("default",d)]⟩) R s2:=fun m tt s2 c2 i1 i2 i3 i4 i5 i6 g1 g2 g3=>by
      refine ih (j+1) s2 _ c2 (by omega) jT i1 i2 (.inr ⟨m,tt,rfl,i4,i5⟩) i3 fun v RV K3 r1 r2=>?_;have:=fin v RV K3 r1 fun b o n1 n2 e=>r2 b o n1 n2 (i6 b o n1 n2 e);obtain⟨q1,q2,q3,q4,q5⟩:=s2;obtain⟨p1,p2,p3,p4,p5⟩:=s;cases g1;cases g2;cases g3
      exact this
    have lJ:=Qw en;have nR:∀(g:Obj->Obj) b o,b≠it->b≠S->s.heap.get? b=some o->(h'.update S g).get? b=some o:=fun g b o n1 n2 e=>(Heap.get?_update_other _ _ (b9 n2)).trans (vY.extBut b o n1 e);rcases hb with⟨e0,rfl⟩ |⟨m,t0,rfl,hm,kZ⟩
    · show wpAny _ A.in1 (updateSeq S (fun _=>_) >>=_) _ _ _;refine wpAny_bind (wpAny_updateSeq vA rfl ?_);rw[nm];refine wpAny_pure ⟨plainId_quiet F.plain_min_loop _,step n t _ _ (xT.at fun o e=>(Heap.get?_update_other _ _ GH).trans e) (AQ.at fun o e=>(Heap.get?_update_other _ _ ML).trans e) (Heap.get?_update_self _ vA rfl) ?_ ?_ (nR _) rfl rfl rfl⟩
      · rw[lJ];simp
      · rw[lJ,e0];simp
    · show wpAny _ A.in1 (tryCatch (holding [.int n t,.int n t] (richCompare .Lt (.int n t) (.int m t0) >>=_)) _ >>=_) _ _ _;refine wpAny_bind (wpAny_tryCatch (wpAny_holding (wpAny_bind (richCompare_gives (op:=.Lt) (typeIs_int _ _ t) (typeIs_int _ _ t0) F.slot_int_lt F.entry_int_lt (F.args_int_lt_2 _ _) (gives_int_lt _ _ t t0) (fun x=>nomatch x) ?_))));refine wpAny_bind (wpAny_holding (wpAny_truthy_bool (wpAny_bind (wpAny_letGo (wpAny_pure ?_)))));by_cases MU:n<m
      · simp only[MU,decide_true,if_true];refine wpAny_bind (wpAny_updateSeq vA rfl (wpAny_bind (wpAny_letGo ?_)));rw[nm];refine wpAny_pure ⟨plainId_quiet F.plain_min_loop _,step n t _ _ (xT.at fun o e=>(Heap.get?_update_other _ _ GH).trans e) (AQ.at fun o e=>(Heap.get?_update_other _ _ ML).trans e) (Heap.get?_update_self _ vA rfl) ?_ ?_ (nR _) rfl rfl rfl⟩
        · rw[lJ];simp
        · rw[lJ];intro z hz;rcases ao.mp hz with hz|hz
          · have:=kZ z hz;omega
          · have:z=n:=by simpa using hz
            omega
      · simp only[MU,decide_false,fM,if_false];refine wpAny_bind (wpAny_letGo ?_);rw[nm];refine wpAny_pure ⟨plainId_quiet F.plain_min_loop _,step m t0 _ c xT AQ vA ?_ ?_ (fun b o n1 _ e=>vY.extBut b o n1 e) rfl rfl rfl⟩
        · rw[lJ];exact dY _ hm
        · rw[lJ];intro z hz;rcases ao.mp hz with hz|hz
          · exact kZ z hz
          · have:z=n:=by simpa using hz
            omega
theorem zvg(a d:Value):argsOk "min" ⟨[a],[("default",d)]⟩:=by unfold argsOk;kernel_rfl
theorem zvh{E:Value->Shared->Prop}{s:Shared}{l:Addr}{ns:List Int}{b7:List Value}{d:Value}{Q:Value->Shared->Prop}(hh:A.handled=none)(hl:s.heap.IsList l b7.toArray)(rv:cj (ns.map V.int) b7)(h:∀v h' tk,zyo ns d v->(∀b o,s.heap.get? b=some o->h'.get? b=some o)->Q v {s with heap:=h',toks:=tk}):
    wpAny (model prog w) A (call (.builtin "min") [.ref l] [("default",d)]) Q E s:=by
  have nm:(toString "min" ++toString ".loop":String)="min.loop":=by decide
  refine wpAny_call (codeAny_call_builtin F.plain_min F.entry_min ?_);have ca:checkBuiltinCall "min" ⟨[.ref l],[("default",d)]⟩=pure ():=by
    simp only[checkBuiltinCall,F.kind_min];cases J8:Manifest.signature? "min"with
    |none=>rfl
    |some sig=>
      have ha:=zvg (.ref l) d;simp only[argsOk,J8]at ha;exact ha
  rw[ca];refine wpAny_pure ?_;show wpAny _ A.in1 (Builtin.Builtins.bindParams "min" ["key","default"] 0 ⟨[],[("default",d)]⟩ >>=_) _ _ s;refine wpAny_bind (wpAny_of_eq (show Builtin.Builtins.bindParams "min" ["key","default"] 0 ⟨[],[("default",d)]⟩=pure [none,some d]from rfl) ?_);refine wpAny_bind (wpAny_pure ?_);have jT:l<s.heap.objs.size:=by obtain⟨_,e,_⟩:=id hl;exact Heap.lt_size e
  refine wpAny_bind (wpAny_pyIter_list hl ?_);refine wpAny_bind (wpAny_newObj_type ?_);rw[nm];have kp:∀(x y:Obj) b o,s.heap.get? b=some o->((s.heap.push x).push y).get? b=some o:=fun x y b o e=>Heap.get?_push_of_some _ (Heap.get?_push_of_some _ e);refine wpAny_pure ⟨plainId_quiet F.plain_min_loop _,?_⟩;refine zxk (it:=s.heap.objs.size) (S:=(s.heap.push _).objs.size) hh (aZ jT) (by rw[Heap.size_push];exact JD _) (by rw[Heap.size_push];exact oq (gW jT)) rv b7.length 0 _ #[] 0 rfl (bZ _)
    ⟨_,Heap.get?_push_of_some _ (Heap.get?_push_size _ rfl),rfl,rfl⟩ (hl.at fun o e=>kp _ _ _ _ e) (.inl ⟨rfl,rfl⟩) (Heap.get?_push_size _ rfl) fun v h' tk r1 r2=>?_;refine h v h' tk r1 fun b o e=>r2 b o (aZ (Heap.lt_size e)) (aZ ?_) (kp _ _ _ _ e);rw[Heap.size_push];exact gW (Heap.lt_size e)
end
def IY(K:aa)(t:TA)(td:TE):TE:=fun σ H Q=>t σ H fun xs H1=>td σ H1 fun y H2=>∃(p:Addr)(ns:List Int),xs=[.ref p]/\iZ K H2 p (ns.map V.int)/\(ns=[]->Q y H2)/\∀m,m∈ns->(∀n∈ns,m<=n)->Q (.int m) H2
theorem Uk{X:Cx}(K:aa)(hK:X.K=K)(hc:X.calm=true){l d:Expr}{t:TA}{td:TE}{p pos GY:Pos}(hg:Gl X "min")(hm:X.mg "min"=none)(hl:PA X [l] t)(hd:PE X d td)(he:starEach [l] X.env=[(false,eval l X.env)]:=by rfl):
    PE X (.Call (.Name "min" p) [l] [⟨some "default",d,GY⟩] pos) (IY K t td):=by
  subst hK;intro ah s σ H Q I h;refine wpAny_Call_Name_kw (L5 I hg hm boot_min ?_);refine callWith_kw (he:=by rw[he];rfl) (hplain:=by rw[he];rfl) ?_;refine eJ (hl pos ah s σ H _ I h) fun us s1⟨xs,H1,I1,r1,q1⟩=>?_;refine kws_cons (eJ (hd ah s1 σ H1 _ I1 q1) fun y s2⟨yv,H2,I2,r2,q2⟩=>kws_nil ?_);obtain⟨a,ns,rfl,hq,f0,fin⟩:=q2;obtain⟨u,rfl,ru⟩:=vals1 r1;cases(show u=Value.ref a from ru)
  obtain⟨b7,rv,hp,hz⟩:=I2.list hq;refine zvh (I2.ok.hd hc) hp.isList rv fun v h' tk r k=>?_;rcases r with⟨e,rfl⟩ |⟨m,t3,rfl,e1,e2⟩
  · exact⟨yv,H2,I2.kept (t':=tk) k,r2,f0 e⟩
  · exact⟨.int m,H2,I2.kept (t':=tk) k,⟨_,rfl⟩,fin m e1 e2⟩
section
variable{prog:Program}{w:World}{A:Around}{E:Value->Shared->Prop}{s:Shared}
end
section
variable{X:Cx}
end
def je.lv(b:je)(t:Int):Rat:=Sw.lvl b.d b.r b.s b.l t
structure gI(m:Int)(b:je):Prop where
 m1:1<=m
 d1:m<=b.d
 d2:b.d<=1000000000000
 r0:0<b.r
 rz:Sw.fP 70 b.r
 rd:(b.r.den:Int)<=1000000
 n:∃n:Int,b.l=(n:Rat) / ((b.r.den:Int):Rat)/\0<=n/\n<=b.d*(b.r.den:Int)
 s0:0<=b.s
theorem gI.bd{m:Int}{b:je}(h:gI m b):Bd b.d b.r:=⟨by have:=h.m1;have:=h.d1;omega,h.d2,oA h.r0,h.rz⟩
theorem gI.num{m:Int}{b:je}(h:gI m b):0<b.r.num:=by
 have:=h.r0;have e:0<b.r↔0<b.r.num:=by rw[<-Sw.KD];show(0:Int)*_ < _* ((1:Nat):Int)↔_;omega
 exact e.mp this
theorem QM{d:Int}{r:Rat}{s n t:Int}:Sw.lvl d r s ((n:Rat) / ((r.den:Int):Rat)) t=((if n+r.num*(t-s)<d*(r.den:Int)then n+r.num*(t-s)else d*(r.den:Int):Int):Rat) / ((r.den:Int):Rat):=by
 have dn:=Sw.bT (Sw.bQ r);have e3:((n+r.num*(t-s):Int):Rat) / ((r.den:Int):Rat)=(n:Rat) / ((r.den:Int):Rat)+r*((t-s:Int):Rat):=by rw[kF,aK,Sw.j9 r];grind
 have e4:((d*(r.den:Int):Int):Rat) / ((r.den:Int):Rat)=(d:Rat):=by rw[aK];grind
 have e5:n+r.num*(t-s)<d*(r.den:Int)↔(n:Rat) / ((r.den:Int):Rat)+r*((t-s:Int):Rat)<(d:Rat):=by rw[<-e3,OX]
 unfold Sw.lvl;rw[fB];by_cases hc:n+r.num*(t-s)<d*(r.den:Int)
 ·rw[if_pos hc,e3];rw[e5]at hc;grind
 ·rw[if_neg hc,e4];rw[e5]at hc;grind
theorem gI.at{m:Int}{b:je}(h:gI m b){C:Addr}{H:Hp}{p:Addr}(B:Bk C H p b.d b.r b.s b.l){t:Int}(ht:b.s<=t):∃level,At C H p b.d b.r t level/\b.lv t=(level:Rat) / ((b.r.den:Int):Rat)/\0<=level/\level<=b.d*(b.r.den:Int):=by obtain⟨n,e,n0,n1⟩:=h.n;rw[e]at B;have a:At C H p b.d b.r t (if n+b.r.num*(t-b.s)<b.d*(b.r.den:Int)then n+b.r.num*(t-b.s)else b.d*(b.r.den:Int)):=⟨b.s,n,B,n0,n1,h.s0,ht,QM⟩;refine⟨_,a,?_,(a.lv h.bd).1,(a.lv h.bd).2⟩;unfold je.lv;rw[e];exact QM
theorem gI.Xb{m:Int}{b:je}(h:gI m b){t:Int}(ht:b.s<=t):∃level:Int,b.lv t=(level:Rat) / ((b.r.den:Int):Rat)/\0<=level/\level<=b.d*(b.r.den:Int):=by
 obtain⟨n,e,n0,n1⟩:=h.n;refine⟨if n+b.r.num*(t-b.s)<b.d*(b.r.den:Int)then n+b.r.num*(t-b.s)else b.d*(b.r.den:Int),?_,?_,?_⟩
 ·unfold je.lv;rw[e];exact QM
 ·have:=jk (gF h.num) (show 0<=t-b.s by omega);split <;> omega
 ·split <;> omega
theorem gI.mono{m:Int}{b:je}(h:gI m b){t u:Int}(tu:t<=u):b.lv t<=b.lv u:=by unfold je.lv Sw.lvl;have hr:=h.r0;have e:((t-b.s:Int):Rat)<=((u-b.s:Int):Rat):=bV.mpr (by omega);have e2:b.r*((t-b.s:Int):Rat)<=b.r*((u-b.s:Int):Rat):=jZ e (oA hr);rw[fB,fB];grind
def je.mR(b:je)(t len:Int):Int:=if(len:Rat)<=b.lv t then t else t+(((len:Rat)-b.lv t) / b.r).ceil
theorem uH{a b:Int}{r:Rat}:(b:Rat)<=(a:Rat) / ((r.den:Int):Rat)↔b*(r.den:Int)<=a:=by
 have:=OX (a:=a) (b:=b) (r:=r);constructor
 ·intro h;rcases nZ a (b*(r.den:Int))with z|z
  ·have:=this.mpr z;grind
  ·exact z
 ·intro h;rcases Rat.le_total (a:=(b:Rat)) (b:=(a:Rat) / ((r.den:Int):Rat))with z|z
  ·exact z
  ·rcases Fx.mp z with y|y
   ·have:=this.mp y;omega
   ·rw[y];exact jY
theorem gI.xu{m:Int}{b:je}(h:gI m b){t len level:Int}(el:b.lv t=(level:Rat) / ((b.r.den:Int):Rat))(hl:len<=m):xu b.d b.r t level len= .int (b.mR t len):=by
 unfold L2.xu je.mR;rw[el];by_cases c:len*(b.r.den:Int)<=level
 ·rw[if_pos c,if_pos (uH.mpr c)]
 ·have:=h.num;have:=h.d1;rw[if_neg c,if_neg (fun z=>c (uH.mp z)),if_neg (by omega)];rfl
theorem gI.Cr{m:Int}{b:je}(h:gI m b)(t len:Int):t<=b.mR t len:=by
 unfold je.mR;split
 ·exact dG _
 ·rename_i c
  have hr:=h.r0;have:(0:Rat)<=((len:Rat)-b.lv t) / b.r:=by refine tL.mp fun z=>?_;rw[qv hr]at z;grind
  have h2:(0:Rat)<=((((len:Rat)-b.lv t) / b.r).ceil:Rat):=jn this Eb;have h3:((0:Int):Rat)<=((((len:Rat)-b.lv t) / b.r).ceil:Rat):=h2;have:=bV.mp h3;omega
theorem zyp{b:je}{t u:Int}(hr:0<b.r)(tu:t<=u):b.lv u=min (b.lv t+b.r*((u-t:Int):Rat)) (b.d:Rat):=by
 unfold je.lv Sw.lvl;have e:((u-b.s:Int):Rat)=((t-b.s:Int):Rat)+((u-t:Int):Rat):=by rw[<-kF];congr 1;omega
 have e2:(0:Rat)<=b.r*((u-t:Int):Rat):=by refine Rat.mul_nonneg (oA hr) ?_;have:((0:Int):Rat)<=((u-t:Int):Rat):=bV.mpr (by omega);exact this
 rw[e,Rat.mul_add,fB,fB,fB];grind
theorem gI.vm{m:Int}{b:je}(h:gI m b){t len:Int}(hl:len<=m):(len:Rat)<=b.lv (b.mR t len):=by
 by_cases c:(len:Rat)<=b.lv t
 ·have:b.mR t len=t:=by unfold je.mR;rw[if_pos c]
  rw[this];exact c
 ·have hg:=h.Cr t len;have hr:=h.r0;rw[zyp hr hg];have hd:(len:Rat)<=(b.d:Rat):=bV.mpr (by have:=h.d1;omega);have e:b.mR t len-t=(((len:Rat)-b.lv t) / b.r).ceil:=by unfold je.mR;rw[if_neg c];omega
  rw[e];have h1:((len:Rat)-b.lv t) / b.r<=((((len:Rat)-b.lv t) / b.r).ceil:Rat):=Eb;have h2:b.r*(((len:Rat)-b.lv t) / b.r)<=b.r*((((len:Rat)-b.lv t) / b.r).ceil:Rat):=jZ h1 (oA hr);have h3:b.r*(((len:Rat)-b.lv t) / b.r)=(len:Rat)-b.lv t:=by
   have:b.r≠0:=by grind
   grind
  rw[fB];grind
theorem gI.Bh{m:Int}{b:je}(h:gI m b){t u len:Int}(tu:t<=u)(hu:(len:Rat)<=b.lv u):b.mR t len<=u:=by
 unfold je.mR;split
 ·exact tu
 ·rename_i c
  have hr:=h.r0;rw[zyp hr tu]at hu;have h1:(len:Rat)-b.lv t<=b.r*((u-t:Int):Rat):=by rw[fB]at hu;grind
  have h2:((len:Rat)-b.lv t) / b.r<=((u-t:Int):Rat):=by refine tL.mp fun z=>?_;rw[yR hr]at z;grind
  have h3:=Rat.ceil_le_iff.mpr h2;omega
theorem gI.Hw{m:Int}{b:je}(h:gI m b){t len:Int}(ht:b.s<=t)(l0:0<=len)(hl:len<=1000000):b.mR t len<=t+1000000000000:=by
 obtain⟨level,el,v0,v1⟩:=h.Xb ht;unfold je.mR;split
 ·omega
 ·rename_i c
  rw[el]at c⊢;have c2:¬len*(b.r.den:Int)<=level:=fun z=>c (uH.mpr z);have:=zzs h.num v0 l0 c2;have e:vg len level b.r=(((len:Rat)-(level:Rat) / ((b.r.den:Int):Rat)) / b.r).ceil:=rfl;rw[<-e];have d0:=Sw.gR b.r;have:len*(b.r.den:Int)<=1000000*1000000:=lH hl h.rd (gF d0) (by decide);omega
def je.kN(b:je)(t len:Int):je:={b with s:=t,l:=b.lv t-(len:Rat)}
theorem gI.kN{m:Int}{b:je}(h:gI m b){t len:Int}(ht:b.s<=t)(l0:0<=len)(hl:(len:Rat)<=b.lv t):gI m (b.kN t len):=by obtain⟨level,el,v0,v1⟩:=h.Xb ht;rw[el,uH]at hl;have np:0<=len*(b.r.den:Int):=jk l0 (gF (Sw.gR b.r));refine⟨h.m1,h.d1,h.d2,h.r0,h.rz,h.rd,⟨level-len*(b.r.den:Int),?_,by omega,by show _<=b.d*(b.r.den:Int);omega⟩,by have:=h.s0;show 0<=t;omega⟩;show b.lv t-(len:Rat)=((level-len*(b.r.den:Int):Int):Rat) / ((b.r.den:Int):Rat);have dn:=Sw.bT (Sw.bQ b.r);rw[el,kG,aK];grind
theorem gI.new{m d t:Int}{r:Rat}(m1:1<=m)(d1:m<=d)(d2:d<=1000000000000)(r0:0<r)(rz:Sw.fP 70 r)(rd:(r.den:Int)<=1000000)(t0:0<=t):gI m ⟨d,r,t,(d:Rat)⟩:=by refine⟨m1,d1,d2,r0,rz,rd,⟨d*(r.den:Int),?_,jk (by omega) (gF (Sw.gR r)),dG _⟩,t0⟩;have dn:=Sw.bT (Sw.bQ r);show(d:Rat)=_;rw[aK];grind
structure Gh(bs:List je)(t len a:Int):Prop where
 ge:t<=a
 ok:∀b∈bs,(len:Rat)<=b.lv a
 le:∀u,t<=u->(∀b∈bs,(len:Rat)<=b.lv u)->a<=u
theorem Gh.now{bs:List je}{t len a:Int}(h:Gh bs t len a):a=t↔∀b∈bs,(len:Rat)<=b.lv t:=by
 constructor
 ·intro e;subst e;exact h.ok
 ·intro k;have:=h.le t (dG _) k;have:=h.ge;omega
theorem Gh.of{m:Int}{bs:List je}{t len a:Int}(ok:∀b∈bs,gI m b)(hl:len<=m)(h0:bs.map (fun b=>b.mR t len)=[]->a=t)(h1:bs.map (fun b=>b.mR t len)≠[]->a∈bs.map (fun b=>b.mR t len)/\∀n∈bs.map (fun b=>b.mR t len),n<=a):Gh bs t len a:=by
 cases bs with
 |nil=>
  have:=h0 rfl;subst this;exact⟨dG _,fun b hb=>absurd hb aI,fun u hu _=>hu⟩
 |cons b0 r=>
  obtain⟨h2,h3⟩:=h1 (by simp);obtain⟨b,hb,e⟩:=av.mp h2;refine⟨by rw[<-e];exact(ok b hb).Cr t len,fun c hc=>?_,fun u tu hu=>by rw[<-e];exact(ok b hb).Bh tu (hu b hb)⟩;have:=h3 _ (av.mpr ⟨c,hc,rfl⟩);exact jn ((ok c hc).vm hl) ((ok c hc).mono this)
theorem Gh.bound{m:Int}{bs:List je}{t len a:Int}(h:Gh bs t len a)(ok:∀b∈bs,gI m b)(hl:len<=m)(l0:0<=len)(m6:m<=1000000)(hs:∀b∈bs,b.s<=t):a<=t+1000000000000:=by refine h.le _ (by omega) fun b hb=>?_;exact jn ((ok b hb).vm hl) ((ok b hb).mono ((ok b hb).Hw (hs b hb) l0 (by omega)))
def Bl(rs:Nm)(x:Str):Int:=(bD rs x).getD 0
def Ei(q:List Str):Option Str->List Str
 |none=>q
 |some t=>q++[t]
def CK(rs:Nm):Option Str->Nm
 |none=>rs
 |some t=>putN rs t (if 0<Bl rs t then 0 else Bl rs t)
def qH(rs:Nm)(rd:List Str):Option Str->Bool
 |none=>false
 |some t=>decide (t∈rd) && decide (0<Bl rs t)
theorem LP(rs:Nm)(rd:List Str)(t:Str):qH rs rd (some t)=(decide (t∈rd) && decide (0<Bl rs t)):=rfl
theorem zvi(rs:Nm)(t:Str):CK rs (some t)=putN rs t (if 0<Bl rs t then 0 else Bl rs t):=rfl
def qS(q:List Str)(rs:Nm)(tu:Option Str)(rd:List Str):Option Str:=if qH rs rd tu then tu else(Ei q tu).find? fun x=>decide (x∈rd)
def uX(q:List Str)(rs:Nm)(tu:Option Str)(rd:List Str)(x:Str):List Str:=if qH rs rd tu then q else(Ei q tu).erase x
def sV(most:Int)(nm:Nm)(rs:Nm)(tu:Option Str)(rd:List Str)(x:Str):Nm:=if qH rs rd tu then rs else putN (CK rs tu) x (Bl (CK rs tu) x+(bD nm x).getD 0*most)
section
variable{most:Int}{nm:Nm}{q:List Str}{rs:Nm}{tu:Option Str}
theorem zK(h:Sw.RI most nm q rs tu){x:Str}:bD rs x≠none↔bD nm x≠none:=by rw[Sw.k9,Sw.k9,h.ks]
theorem BQ(h:Sw.RI most nm q rs tu){t:Str}(ht:tu=some t):bD nm t≠none:=by rw[Sw.k9,<-h.pm.mem_iff,ht];simp
theorem QV(h:Sw.RI most nm q rs tu):rs.length=nm.length/\q.length<=nm.length:=by have e1:=congrArg iV h.ks;have e2:=h.pm.length_eq;rw[ai,ai]at e1;rw[bg,ai]at e2;exact⟨e1,by omega⟩
theorem zyq(h:Sw.RI most nm q rs tu):Sw.RI most nm (Ei q tu) (CK rs tu) none:=by
 cases tu with
 |none=>exact h
 |some t=>
  have e:=(zK h).mpr (BQ h rfl);cases er:bD rs t with
  |none=>exact absurd er e
  |some r=>
   have:=h.ends rfl er;rw[zvi];unfold Bl;rw[er];exact this
theorem NU(h:Sw.RI most nm q rs tu):q.Nodup:=(bO.mp (h.pm.nodup_iff.mpr h.nd)).1
theorem Tz(h:Sw.RI most nm q rs tu){y:Str}(hy:y∈q):y∈nm.map (·.1):=h.pm.mem_iff.mp (ao.mpr (.inl hy))
theorem zvj(h:Sw.RI most nm q rs none){rd:List Str}(ne:rd≠[])(sub:∀x∈rd,bD nm x≠none):∃x s r,q.find? (fun x=>decide (x∈rd))=some x/\x∈rd/\x∈q/\bD nm x=some s/\bD rs x=some r:=by
 cases rd with
 |nil=>exact absurd rfl ne
 |cons y l=>
  have hy:=Sw.k9.mp (sub y (by simp));have yq:y∈q:=by
   have:=h.pm.mem_iff.mpr hy
   rwa [rE,aJ]at this
  cases hf:q.find? fun x=>decide (x∈y::l)with
  |none=>
   have:=sN.mp hf y yq;simp at this
  |some x=>
   have xr:x∈y::l:=by have:=n8 hf;exact of_decide_eq_true this
   have hx:=sub x xr;have hr:=(zK h).mpr hx;cases e1:bD nm x with
   |none=>exact absurd e1 hx
   |some s=>
    cases e2:bD rs x with
    |none=>exact absurd e2 hr
    |some r=>exact⟨x,s,r,rfl,xr,g8 hf,e1,e2⟩
theorem Ul(h:Sw.RI most nm q rs tu){rd:List Str}(ne:rd≠[])(sub:∀x∈rd,bD nm x≠none):
    ∃x,qS q rs tu rd=some x/\x∈rd/\Sw.RI most nm (uX q rs tu rd x) (sV most nm rs tu rd x) (some x)/\∃r,bD (sV most nm rs tu rd x) x=some r/\0<r:=by
  unfold qS uX sV;by_cases c:qH rs rd tu=true
  · cases tu with
    |none=>cases c
    |some t=>
      rw[LP,bY,decide_eq_true_eq,decide_eq_true_eq]at c;have c':qH rs rd (some t)=true:=by rw[LP,decide_eq_true c.1,decide_eq_true c.2];rfl
      refine⟨t,by rw[if_pos c'],c.1,by rw[if_pos c',if_pos c'];exact h,?_⟩;rw[if_pos c'];cases e:bD rs t with
      |none=>exact absurd e ((zK h).mpr (BQ h rfl))
      |some r=>
        have:=c.2;unfold Bl at this;rw[e]at this;exact⟨r,rfl,this⟩
  · have h1:=zyq h;obtain⟨x,s,r,hf,xr,xq,e1,e2⟩:=zvj h1 ne sub;obtain⟨h2,pos⟩:=h1.JG xq e2 e1;refine⟨x,by rw[if_neg c];exact hf,xr,?_,?_⟩
    · rw[if_neg c,if_neg c];unfold Bl;rw[e1,e2];exact h2
    · rw[if_neg c];unfold Bl;rw[e1,e2,QD,if_pos rfl,e2];exact⟨_,rfl,pos⟩
end
structure D5(H:Hp)(a:lV)(most:Int)(nm:Nm)(q:List Str)(rs:Nm)(tu:Option Str)(rl:Addr)(rd:List Str):Prop where
 ri:Sw.RI most nm q rs tu
 m1:most<=1000000
 nl:nm.length<=90
 ok:∀y∈nm.map (·.1),PyData.strOk y=true
 hl:H rl=some (.lst (rd.map V.str))
 nq:rl≠a.pt
 ne:rd≠[]
 sb:∀x∈rd,bD nm x≠none
noncomputable def dZ.qR(rd:List Str):dZ->Option Str
 | .st nm tg _ ck _ _=>gX (fun x=>decide (x∈rd)) (fun x=>max ((tg x).getD 0) ck) (nm.map (·.1)) none
 | .rd _ q rs tu _=>qS q rs tu rd
noncomputable def dZ.gY(m:Int)(rd:List Str)(x:Str):dZ->dZ
 | .st nm tg gs ck _ N=>.st nm tg gs (max ((tg x).getD 0) ck) (.str x) N
 | .rd nm q rs tu _=>.rd nm (uX q rs tu rd x) (sV m nm rs tu rd x) (some x) (.str x)
noncomputable def dZ.oR(x:Str)(len:Int):dZ->dZ
 | .st nm tg gs ck ch N=>.st nm (iz tg x (ck+(len:Rat) / (((bD nm x).getD 1:Int):Rat))) (iz gs x (max ((gs x).getD 0) ((len:Rat) / (((bD nm x).getD 1:Int):Rat)))) ck ch (N+2)
 | .rd nm q rs tu ch=>.rd nm q (putN rs x ((bD rs x).getD 0-len)) tu ch
theorem dZ.lP{m:Int}{rd:List Str}{x:Str}(c:dZ):(c.gY m rd x).nm=c.nm:=by cases c <;> rfl
theorem dZ.G3{x:Str}{len:Int}(c:dZ):(c.oR x len).nm=c.nm:=by cases c <;> rfl
def dZ.Due(x:Str):dZ->Prop
 | .st _ _ _ _ ch _=>ch= .str x
 | .rd _ _ rs tu ch=>ch= .str x/\tu=some x/\∃r,bD rs x=some r/\0<r
theorem dZ.Df{m:Int}{c:dZ}(h:c.Ok m){rd:List Str}(ne:rd≠[])(sub:∀x∈rd,bD c.nm x≠none):∃x,c.qR rd=some x/\x∈rd/\(c.gY m rd x).Ok m/\(c.gY m rd x).Due x:=by
 cases c with
 |st nm tg gs ck ch N=>
  have hp:gX (fun x=>decide (x∈rd)) (fun x=>max ((tg x).getD 0) ck) (nm.map (·.1)) none≠none:=by
   refine VC (.inr ?_);cases rd with
   |nil=>exact absurd rfl ne
   |cons y r=>exact⟨y,Sw.k9.mp (sub y (by simp)),by simp⟩
  cases e:gX (fun x=>decide (x∈rd)) (fun x=>max ((tg x).getD 0) ck) (nm.map (·.1)) none with
  |none=>exact absurd e hp
  |some x=>
   refine⟨x,e,?_,h,rfl⟩;rcases OF e with⟨_,q⟩ |q
   ·exact of_decide_eq_true q
   ·cases q
 |rd nm q rs tu ch=>
  obtain⟨x,e,xr,ri,r,hr,r0⟩:=Ul h.2 ne sub;exact⟨x,e,xr,⟨h.1,ri⟩,rfl,rfl,r,hr,r0⟩
theorem dZ.Ok.oR{m:Int}{c:dZ}(h:c.Ok m){x:Str}{len:Int}(d:c.Due x)(hx:bD c.nm x≠none)(l0:1<=len)(l1:len<=m):(c.oR x len).Ok m:=by
 cases c with
 |st nm tg gs ck ch N=>
  refine⟨h.1,fun y hy=>?_⟩;show ∃t g,iz tg x _ y=some t/\iz gs x _ y=some g;unfold iz;by_cases e:y=x
  ·rw[if_pos e,if_pos e];exact⟨_,_,rfl,rfl⟩
  ·rw[if_neg e,if_neg e];exact h.2 y hy
 |rd nm q rs tu ch=>
  obtain⟨_,d2,r,hr,r0⟩:=d;refine⟨h.1,?_⟩;show Sw.RI m nm q (putN rs x ((bD rs x).getD 0-len)) tu;rw[hr];exact h.2.k7 d2 hr r0 l0 l1
def dZ.jy(p:Nat):dZ->Prop
 | .st _ tg gs ck _ _=>∃G:Int,0<G/\Sw.Sz (20*p+1) G/\(Sw.yw G ck/\0<=ck/\ck<=(((p:Int)*1000000:Int):Rat))/\(∀x t,tg x=some t->Sw.yw G t/\0<=t/\t<=(((p:Int)*1000000:Int):Rat))/\∀x g,gs x=some g->0<=g/\Sw.fP 70 g
 | .rd ..=>True
theorem dZ.jy.new(b:Bool):(dZ.new b).jy 0:=by
 cases b with
 |true=>trivial
 |false=>exact⟨1,by decide,Sw.Sz.one 0,⟨⟨0,by grind⟩,jY,jY⟩,fun x t e=>(by cases e),fun x g e=>(by cases e)⟩
theorem zvk{p p':Nat}(h:p<=p'):(((p:Int)*1000000:Int):Rat)<=(((p':Int)*1000000:Int):Rat):=bV.mpr (by omega)
theorem Wc(p:Nat):(0:Rat)<=(((p:Int)*1000000:Int):Rat):=by have:((0:Int):Rat)<=(((p:Int)*1000000:Int):Rat):=bV.mpr (by omega);exact this
theorem dZ.jy.mono{p p':Nat}{c:dZ}(h:c.jy p)(l:p<=p'):c.jy p':=by
 cases c with
 |st nm tg gs ck ch N=>
  obtain⟨G,g0,gz,⟨c1,c2,c3⟩,ht,hg⟩:=h;have:=zvk l;exact⟨G,g0,gz.mono (by omega),⟨c1,c2,jn c3 this⟩,fun x t e=>⟨(ht x t e).1,(ht x t e).2.1,jn (ht x t e).2.2 this⟩,hg⟩
 |rd=>trivial
theorem dZ.jy.put{p:Nat}{c:dZ}(h:c.jy p)(x:Str)(s:Int):(c.put x s).jy p:=by
 cases c with
 |st nm tg gs ck ch N=>
  obtain⟨G,g0,gz,hc,ht,hg⟩:=h;refine⟨G,g0,gz,hc,fun y t e=>?_,fun y g e=>?_⟩
  ·have e:iz tg x 0 y=some t:=e;unfold iz at e;split at e
   ·cases e;exact⟨⟨0,by grind⟩,jY,Wc p⟩
   ·exact ht y t e
  ·have e:iz gs x 0 y=some g:=e;unfold iz at e;split at e
   ·cases e;exact⟨jY,Sw.fP.int (n:=0) (z:=69) (Sw.Sz.sf (by decide) (by decide))⟩
   ·exact hg y g e
 |rd=>trivial
theorem dZ.jy.gY{p:Nat}{c:dZ}(h:c.jy p)(m:Int)(rd:List Str)(x:Str):(c.gY m rd x).jy p:=by
 cases c with
 |st nm tg gs ck ch N=>
  obtain⟨G,g0,gz,hc,ht,hg⟩:=h;refine⟨G,g0,gz,?_,ht,hg⟩;have h1:Sw.yw G ((tg x).getD 0)/\0<=(tg x).getD 0/\(tg x).getD 0<=(((p:Int)*1000000:Int):Rat):=by
   cases e:tg x with
   |none=>exact⟨⟨0,by show(0:Rat)=_;grind⟩,jY,Wc p⟩
   |some t=>exact ht x t e
  rw[qw];split
  ·exact hc
  ·exact h1
 |rd=>trivial
theorem dZ.jy.oR{p:Nat}{c:dZ}(h:c.jy p){x:Str}{s len:Int}(hs:bD c.nm x=some s)(s0:1<=s/\s<=1000000)(l0:0<=len)(l1:len<=1000000):(c.oR x len).jy (p+1):=by
 cases c with
 |st nm tg gs ck ch N=>
  obtain⟨G,g0,gz,⟨c1,c2,c3⟩,ht,hg⟩:=h;have hs:bD nm x=some s:=hs;have sn:s≠0:=by omega
  have gn:G≠0:=by omega
  have sp:=Sw.ic (show 0<s by omega);have le:=zvk (show p<=p+1 by omega);have d0:(0:Rat)<=(len:Rat) / (s:Rat):=by refine tL.mp fun z=>?_;rw[qv sp]at z;have:((0:Int):Rat)<=(len:Rat):=bV.mpr l0;have e:((0:Int):Rat)=0:=rfl;grind
  have d1:(len:Rat) / (s:Rat)<=((1000000:Int):Rat):=by refine tL.mp fun z=>?_;rw[yR sp,<-aK,gG]at z;omega
  have e1:(((p+1:Nat):Int)*1000000:Int)=(p:Int)*1000000+1000000:=by omega
  have dg:Sw.yw (G*s) ((len:Rat) / (s:Rat)):=⟨len*G,by have h1:=Sw.bT gn;have h2:=Sw.bT sn;rw[aK,aK];grind⟩
  refine⟨G*s,Int.mul_pos g0 (by omega),(gz.mul (show Sw.Sz 20 s by unfold Sw.Sz;omega)).mono (by omega),⟨c1.more gn sn,c2,jn c3 le⟩,fun y t e=>?_,fun y g e=>?_⟩
  ·have e:iz tg x (ck+(len:Rat) / (((bD nm x).getD 1:Int):Rat)) y=some t:=e;rw[hs]at e;have e:iz tg x (ck+(len:Rat) / (s:Rat)) y=some t:=e;unfold iz at e;split at e
   ·cases e;refine⟨(c1.more gn sn).add dg,by grind,?_⟩;rw[e1,kF];grind
   ·obtain⟨t1,t2,t3⟩:=ht y t e;exact⟨t1.more gn sn,t2,jn t3 le⟩
  ·have e:iz gs x (max ((gs x).getD 0) ((len:Rat) / (((bD nm x).getD 1:Int):Rat))) y=some g:=e;rw[hs]at e;have e:iz gs x (max ((gs x).getD 0) ((len:Rat) / (s:Rat))) y=some g:=e;unfold iz at e;split at e
   ·cases e;have h1:0<=(gs x).getD 0/\Sw.fP 70 ((gs x).getD 0):=by
     cases e:gs x with
     |none=>exact⟨jY,Sw.fP.int (n:=0) (z:=69) (Sw.Sz.sf (by decide) (by decide))⟩
     |some g=>exact hg x g e
    have h2:Sw.fP 70 ((len:Rat) / (s:Rat)):=Sw.fP.of sn rfl (Sw.Sz.sf (by omega) (by omega)) (Sw.Sz.sf (by omega) (by omega));rw[qw];split
    ·exact⟨d0,h2⟩
    ·exact h1
   ·exact hg y g e
 |rd=>trivial
theorem dZ.xh{m:Int}{rd:List Str}{x:Str}(c:dZ):(c.gY m rd x).sz=c.sz:=by cases c <;> rfl
theorem dZ.G8{x:Str}{len:Int}(c:dZ):(c.oR x len).sz<=c.sz+2:=by
 cases c with
 |st=>exact az _
 |rd nm q rs tu ch=>show nm.length<=nm.length+2;omega
theorem V0{p:Nat}{G:Int}{q:Rat}(h:p<=120)(g0:0<G)(gz:Sw.Sz (20*p+1) G)(hq:Sw.yw G q)(q0:0<=q)(q1:q<=(((p:Int)*1000000:Int):Rat)):Sw.fP 2490 q:=by
 have z:Sw.Sz 30 ((p:Int)*1000000):=by unfold Sw.Sz;omega
 refine(Sw.yw.sz hq g0 gz z ?_ q1 (by decide)).mono (by omega);have:=Wc p;grind
def fZ(ns:List ND)(ys:List Str):List je:=ys.filterMap fun y=>((aU ns y).bind (·.bk)).map (·.2)
def wG(D:TD)(x:Str)(u:Int):Prop:=∃n ys g r,aU D.ns x=some n/\n.qu=g::r/\Up D.ns x ys/\∀b∈fZ D.ns ys,(g.2:Rat)<=b.lv u
def fk(D:TD)(u:Int)(y:Str):Prop:=∃x ys,wG D x u/\Up D.ns x ys/\y∈ys
open Classical in
noncomputable def sj(c:dZ)(R:Str->Prop):List Str:=(c.nm.map (·.1)).filter fun y=>decide (R y)
open Classical in
theorem ue{c:dZ}{R:Str->Prop}{y:Str}:y∈sj c R↔y∈c.nm.map (·.1)/\R y:=by unfold sj;rw[fF,decide_eq_true_iff]
inductive Jx(ns:List ND)(R:Str->Prop):List Str->Str->Prop
 |nil:Jx ns R [] road
 |snoc {pre:List Str} {y z:Str} {n:ND} {c:lV×dZ}:Jx ns R pre y->aU ns y=some n->n.ch=some c->c.2.qR (sj c.2 R)=some z->Jx ns R (y::pre) z
theorem Up.child{ns:List ND}{x:Str}{ys:List Str}(h:Up ns x ys):∀y∈ys,y=x\/∃z∈ys,z∈iL ns y:=by
 induction h with
 |top h e=>intro y hy;exact .inl (au.mp hy)
 | @on x y0 n ys h e k ih=>
  intro y hy;rcases ak.mp hy with q|q
  ·exact .inl q
  ·right;rcases ih y q with z|⟨z,hz,hk⟩
   ·obtain⟨a,b⟩:=iD h;exact⟨x,aj ..,av.mpr ⟨n,fF.mpr ⟨a,decide_eq_true (by rw[e,z])⟩,b⟩⟩
   ·exact⟨z,ae _ hz,hk⟩
theorem Uo{ns:List ND}(nn:(ns.map (·.nm)).Nodup){z y:Str}(h:z∈iL ns y):∃n,aU ns z=some n/\n.ab=some y:=by unfold iL at h;obtain⟨n,hn,e⟩:=av.mp h;obtain⟨h1,h2⟩:=fF.mp hn;exact⟨n,by rw[<-e];exact wD nn h1,of_decide_eq_true h2⟩
def TD.Lv(D:TD):Prop:=∀n∈D.ns,n.qu≠[]->n.ch=none
section
variable{D:TD}{u:Int}
theorem wG.leaf(L:D.Lv){x:Str}(h:wG D x u){n:ND}(hn:aU D.ns x=some n):n.ch=none/\n.qu≠[]:=by
 obtain⟨n',ys,g,r,h1,h2,_⟩:=h;rw[hn]at h1;cases h1
 exact⟨L n (iD hn).1 (by rw[h2];simp),by rw[h2];simp⟩
theorem fk.child(W:D.Wf)(L:D.Lv){y:Str}(h:fk D u y){n:ND}{c:lV×dZ}(hn:aU D.ns y=some n)(hc:n.ch=some c):sj c.2 (fk D u)≠[]:=by
 obtain⟨x,ys,m,U,hy⟩:=h;rcases U.child y hy with e|⟨z,hz,hk⟩
 ·subst e;rw[(m.leaf L hn).1]at hc;cases hc
 ·have:z∈sj c.2 (fk D u):=ue.mpr ⟨by rw[W.CW n (iD hn).1 c hc,(iD hn).2];exact hk,x,ys,m,U,hz⟩;intro e;rw[e]at this;cases this
theorem fk.leaf(W:D.Wf){y:Str}(h:fk D u y){n:ND}(hn:aU D.ns y=some n)(hc:n.ch=none):wG D y u:=by
 obtain⟨x,ys,m,U,hy⟩:=h;rcases U.child y hy with e|⟨z,hz,hk⟩
 ·rw[e];exact m
 ·obtain⟨a,b⟩:=iD hn;rw[<-b,W.lf n a hc]at hk;cases hk
theorem wG.road(W:D.Wf){x:Str}(h:wG D x u):fk D u road:=by obtain⟨n,ys,g,r,h1,h2,U,h3⟩:=h;obtain⟨zs,e⟩:=U.last W.ra;exact⟨x,ys,⟨n,ys,g,r,h1,h2,U,h3⟩,U,by rw[e];simp⟩
end
noncomputable def dZ.j8(m:Int)(R:Str->Prop)(c:dZ):dZ:=match c.qR (sj c R)with
 |some z=>c.gY m (sj c R) z
 |none=>c
noncomputable def dZ.go(m:Int)(R:Str->Prop)(len:Int)(c:dZ):dZ:=match c.qR (sj c R)with
 |some z=>(c.gY m (sj c R) z).oR z len
 |none=>c
noncomputable def jS(m:Int)(R:Str->Prop)(S:List Str)(n:ND):ND:=if n.nm∈S then{n with ch:=n.ch.map fun c=>(c.1,c.2.j8 m R)}else n
noncomputable def stN(m:Int)(R:Str->Prop)(S:List Str)(t len:Int)(n:ND):ND:=if n.nm∈S then{n with ch:=n.ch.map fun c=>(c.1,c.2.go m R len),bk:=n.bk.map fun b=>(b.1,b.2.kN t len),ps:=n.ps.tail,qu:=n.qu.tail}else n
noncomputable def jq(m:Int)(R:Str->Prop)(S:List Str)(x:Str)(T:List Str)(t len:Int)(n:ND):ND:=if n.nm∈T then stN m R S t len n else if n.nm=x then{jS m R S n with ps:=n.ps.tail,qu:=n.qu.tail}else jS m R S n
section
variable{m:Int}{R:Str->Prop}{S T:List Str}{x:Str}{t len:Int}
theorem HD(n:ND):(jS m R S n).nm=n.nm:=by unfold jS;split <;> rfl
theorem Vm(n:ND):(jS m R S n).ab=n.ab:=by unfold jS;split <;> rfl
theorem Vn(n:ND):(jS m R S n).bk=n.bk:=by unfold jS;split <;> rfl
theorem Vo(n:ND):(jS m R S n).qu=n.qu/\(jS m R S n).ps=n.ps/\(jS m R S n).ql=n.ql/\(jS m R S n).rm=n.rm:=by unfold jS;split <;> exact⟨rfl,rfl,rfl,rfl⟩
theorem Uq(n:ND):jS m R [] n=n:=by unfold jS;rw[if_neg aI]
theorem Jo(n:ND):(stN m R S t len n).nm=n.nm:=by unfold stN;split <;> rfl
theorem Wd(n:ND):(stN m R S t len n).ab=n.ab:=by unfold stN;split <;> rfl
theorem Oq(n:ND):(stN m R S t len n).p=n.p/\(stN m R S t len n).ql=n.ql/\(stN m R S t len n).rm=n.rm:=by unfold stN;split <;> exact⟨rfl,rfl,rfl⟩
theorem OT(n:ND):(jq m R S x T t len n).nm=n.nm:=by
 unfold jq;split
 ·exact Jo n
 ·split
  ·exact HD n
  ·exact HD n
theorem MH(c:dZ):(c.go m R len).nm=c.nm:=by
 unfold dZ.go;split
 ·rw[dZ.G3,dZ.lP]
 ·rfl
theorem zxl(c:dZ):(c.j8 m R).nm=c.nm:=by
 unfold dZ.j8;split
 ·rw[dZ.lP]
 ·rfl
theorem zsc(n:ND):(stN m R S t len n).foot=n.foot:=by
 unfold stN;split
 ·unfold ND.foot;cases n.ch <;> cases n.bk <;> rfl
 ·rfl
theorem Qx(n:ND):(jq m R S x T t len n).foot=n.foot:=by
 unfold jq;split
 ·exact zsc n
 ·unfold jS;split
  ·split
   ·unfold ND.foot;cases n.ch <;> rfl
   ·rfl
  ·split
   ·unfold ND.foot;cases n.ch <;> rfl
   ·rfl
end
theorem OO{ns:List ND}(nd:(ns.map (·.nm)).Nodup){f g:ND->ND}{n n':ND}(hf:∀y,(f y).nm=y.nm)(hn:n∈ns)(e:n'.nm=n.nm)(h1:g n=n')(h2:∀y∈ns,y.nm≠n.nm->g y=f y):cu (ns.map f) n'=ns.map g:=by
 unfold cu;rw[eI];refine br fun y hy=>?_;show(if(f y).nm=n'.nm then n' else f y)=g y;rw[hf,e];by_cases q:y.nm=n.nm
 ·rw[if_pos q];have a:=wD nd hy;rw[q,wD nd hn]at a;rw[<-aq a,h1]
 ·rw[if_neg q,h2 y hy q]
theorem OU{ns:List ND}{f:ND->ND}(hf:∀y,(f y).nm=y.nm)(x:Str):aU (ns.map f) x=(aU ns x).map f:=by
 induction ns with
 |nil=>rfl
 |cons p r ih=>
  unfold aU at ih⊢;rw[ay,bR,bR,hf];by_cases h:p.nm=x
  ·rw[decide_eq_true h];rfl
  ·rw[decide_eq_false h];exact ih
theorem We{ns:List ND}{f:ND->ND}(hf:∀y,(f y).nm=y.nm)(ha:∀y,(f y).ab=y.ab){x:Str}{ys:List Str}(h:Up ns x ys):Up (ns.map f) x ys:=h.mono fun z _ n hn=>⟨f n,by rw[OU hf,hn];rfl,ha n⟩
theorem zsd{ns:List ND}{f:ND->ND}(hf:∀y,(f y).nm=y.nm)(ha:∀y,(f y).ab=y.ab)(x:Str):iL (ns.map f) x=iL ns x:=by
 unfold iL;rw[List.filter_map,eI];have:(fun n:ND=>decide (n.ab=some x))∘f=fun n=>decide (n.ab=some x):=by funext n;show decide ((f n).ab=some x)=_;rw[ha]
 rw[this];refine br fun n _=>hf n
theorem TD.Wf.map{D:TD}(W:D.Wf){f:ND->ND}(hf:∀y,(f y).nm=y.nm)(ha:∀y,(f y).ab=y.ab)(hc:∀n∈D.ns,∀c',(f n).ch=some c'->∃c,n.ch=some c/\c'.2.nm=c.2.nm/\c'.2.Ok D.most)(hn:∀n∈D.ns,(f n).ch=none->n.ch=none):{D with ns:=D.ns.map f}.Wf:=by
 have en:(D.ns.map f).map (·.nm)=D.ns.map (·.nm):=by rw[eI];exact br fun y _=>hf y
 refine⟨by show((D.ns.map f).map (·.nm)).Nodup;rw[en];exact W.nn,?_,fun y hy ea=>?_,fun y hy=>?_,fun y hy c LA=>?_,fun y hy LA=>?_,fun y hy c LA=>?_,W.m1,fun y hy=>?_⟩
 ·obtain⟨r,rs,er,r1,r2,r3⟩:=W.rd;refine⟨f r,rs.map f,by show D.ns.map f=_;rw[er];rfl,by rw[hf];exact r1,by rw[ha];exact r2,fun z=>r3 (hn r (by rw[er];exact aj ..) z)⟩
 ·obtain⟨z,hz,rfl⟩:=av.mp hy;rw[hf];rw[ha]at ea;exact W.ra z hz ea
 ·obtain⟨z,hz,rfl⟩:=av.mp hy;obtain⟨ys,U,l⟩:=W.up z hz;exact⟨ys,by rw[hf];exact We hf ha U,l⟩
 ·obtain⟨z,hz,rfl⟩:=av.mp hy;obtain⟨c0,e0,e1,_⟩:=hc z hz c LA;show c.2.nm.map (·.1)=iL (D.ns.map f) (f z).nm;rw[zsd hf ha,hf,e1];exact W.CW z hz c0 e0
 ·obtain⟨z,hz,rfl⟩:=av.mp hy;show iL (D.ns.map f) (f z).nm=[];rw[zsd hf ha,hf];exact W.lf z hz (hn z hz LA)
 ·obtain⟨z,hz,rfl⟩:=av.mp hy;obtain⟨c0,e0,e1,e2⟩:=hc z hz c LA;exact e2
 ·obtain⟨z,hz,rfl⟩:=av.mp hy;rw[hf];exact W.IG z hz
def dQ(ns:List ND):Nat:=(ns.map fun n=>n.qu.length).sum
structure TD.Dy(D:TD)(τ:Int)(v:Nat):Prop where
 W:D.Wf
 fin:∀n∈D.ns,∀c,n.ch=some c->c.2.jy D.gs.length/\c.2.sz<=3*v+2*D.gs.length
 bk:∀n∈D.ns,∀b,n.bk=some b->gI D.most b.2/\b.2.s<=τ
 lv:D.Lv
 qu:∀n∈D.ns,∀g∈n.qu,1<=g.2/\g.2<=D.most
 yV:dQ D.ns+D.gs.length<=120
 ln:D.ns.length<=60
 vl:v<=180
theorem TD.Dy.fit{D:TD}{τ:Int}{v:Nat}(h:D.Dy τ v):D.fit:=⟨h.ln,fun n hn c hc=>by have:=(h.fin n hn c hc).2;have:=h.yV;have:=h.vl;omega⟩
theorem ZT{ns:List ND}{n:ND}(h:n∈ns):n.qu.length<=dQ ns:=by
 induction ns with
 |nil=>cases h
 |cons p r ih=>
  unfold dQ at ih⊢;rw[ay,eO];rcases ak.mp h with q|q
  ·rw[q];omega
  ·have:=ih q;omega
noncomputable def TD.step(D:TD)(R:Str->Prop)(S:List Str)(x:Str)(t:Int)(g:D2)(p:Addr):TD:={D with ns:=D.ns.map (stN D.most R S t g.2),fr:=t+g.2,gp:=D.gp++[p],gs:=D.gs++[(t,g.1,x)]}
structure vI(D:TD)(t:Int)(x:Str)(pre:List Str)(g:D2):Prop where
 led:Jx D.ns (fk D t) pre x
 may:wG D x t
 up:Up D.ns x (x::pre)
 q:∃n r,aU D.ns x=some n/\n.ch=none/\n.qu=g::r/\∀b∈fZ D.ns (x::pre),(g.2:Rat)<=b.lv t
def f9(ns:List ND):List Str:=(ns.filter fun n=>decide (n.ps≠[])).map (·.nm)
theorem ZU{ns:List ND}(nn:(ns.map (·.nm)).Nodup){x:Str}:x∈f9 ns↔∃n,aU ns x=some n/\n.ps≠[]:=by
 unfold f9;rw[av];constructor
 ·rintro⟨n,hn,e⟩;obtain⟨h1,h2⟩:=fF.mp hn;exact⟨n,by rw[<-e];exact wD nn h1,of_decide_eq_true h2⟩
 ·rintro⟨n,hn,h⟩;exact⟨n,fF.mpr ⟨(iD hn).1,decide_eq_true h⟩,(iD hn).2⟩
def A5(ks:List Str):List (Key×V):=ks.map fun y=>((aC y:Key),V.bl true)
def yS(ks:List Str)(y:Str):List Str:=if y∈ks then ks else ks++[y]
theorem zxm{ks:List Str}{y z:Str}:z∈yS ks y↔z∈ks\/z=y:=by
 unfold yS;split
 ·rename_i h
  constructor
  ·exact .inl
  ·rintro(q|q)
   ·exact q
   ·rw[q];exact h
 ·rw[ao,au]
theorem zxn(ks:List Str)(y:Str):(yS ks y).length<=ks.length+1:=by
 unfold yS;split
 ·omega
 ·rw[bg];exact az _
theorem Ur(ks:List Str)(y:Str):fU (A5 ks) (aC y:Key) (.bl true)=A5 (yS ks y):=by
 unfold fU yS;have e:((A5 ks).any fun kv=>decide (kv.1=(aC y:Key)))=decide (y∈ks):=by
  unfold A5;rw[Bp,eU,jJ,decide_eq_true_iff];constructor
  ·rintro⟨z,hz,q⟩;have q:(aC z:Key)=aC y:=of_decide_eq_true q;rw[<-gj q];exact hz
  ·intro h;exact⟨y,h,decide_eq_true rfl⟩
 rw[e];by_cases h:y∈ks
 ·rw[if_pos h,if_pos (decide_eq_true h)];unfold A5;rw[eI];refine br fun z _=>?_;show(if(aC z:Key)=aC y then((aC z:Key),V.bl true)else(aC z,V.bl true))=_;split <;> rfl
 ·rw[if_neg h,if_neg (by simp[h])];unfold A5;rw[aA];rfl
theorem Us(ks:List Str)(y:Str):(gi (A5 ks) (aC y:Key)).isSome=decide (y∈ks):=by
 induction ks with
 |nil=>rfl
 |cons z r ih=>
  unfold A5 at ih⊢;rw[ay];by_cases h:z=y
  ·subst h;rw[DO rfl];simp
  ·rw[DP (fun q=>h (gj q)),ih];simp[b9 h]
structure Nx(D:TD)(a:Int):Prop where
 may:∃x,wG D x a
 ge:D.tm<=a/\D.fr<=a
 le:∀x u,D.tm<=u->D.fr<=u->wG D x u->a<=u
def CI(D:TD)(t:Int):Prop:=∀x u,D.tm<=u->D.fr<=u->wG D x u->t<=u
inductive Runs(t:Int):TD->TD->Prop
 |stop {D:TD}:CI D t->Runs t D D
 |go {D D':TD} {a:Int} {x:Str} {pre:List Str} {g:D2} {p:Addr}:Nx D a->a<t->vI D a x pre g->Runs t (D.step (fk D a) (x::pre) x a g p) D'->Runs t D D'
end L2
def L2.NoB(D:L2.TD):Prop:=∀n∈D.ns,n.bk=none
namespace L2
open PySem PySem.Spec PyProof.Rows
def JJ(ns:List ND)(ys:List Str):List V:=ys.map fun y=>JI ((aU ns y).bind (·.bk))
theorem zvo{ns:List ND}{ys:List Str}{b:je}(h:b∈fZ ns ys):∃y∈ys,∃n a,aU ns y=some n/\n.bk=some (a,b):=by
 unfold fZ at h;obtain⟨y,hy,e⟩:=fN.mp h;cases hn:aU ns y with
 |none=>rw[hn]at e;cases e
 |some n=>
  rw[hn]at e;cases hb:n.bk with
  |none=>rw[show(some n).bind (fun z:ND=>z.bk)=n.bk from rfl,hb]at e;cases e
  |some c=>
   rw[show(some n).bind (fun z:ND=>z.bk)=n.bk from rfl,hb]at e;exact⟨y,hy,n,c.1,hn,by rw[hb,<-aq e]⟩
theorem QN{ns:List ND}{ys:List Str}{y:Str}{n:ND}{c:Addr×je}(hy:y∈ys)(hn:aU ns y=some n)(hb:n.bk=some c):c.2∈fZ ns ys:=by unfold fZ;refine fN.mpr ⟨y,hy,?_⟩;rw[hn];show Option.map _ n.bk=_;rw[hb];rfl
theorem QO{D:TD}{x:Str}{n:ND}{g:D2}{r:List D2}{ys:List Str}(hx:aU D.ns x=some n)(hq:n.qu=g::r)(U:Up D.ns x ys)(t:Int):wG D x t↔∀b∈fZ D.ns ys,(g.2:Rat)<=b.lv t:=by
 constructor
 ·rintro⟨n',Ue,g',r',h1,h2,h3,h4⟩;rw[hx]at h1;cases h1
  rw[hq]at h2;cases h2
  rw[U.det h3];exact h4
 ·intro h;exact⟨n,ys,g,r,hx,hq,U,h⟩
theorem TD.Dy.leaf{D:TD}{τ:Int}{v:Nat}(h:D.Dy τ v){C:Cl}{H:Hp}(O:bW C H D){x:Str}(hx:x∈f9 D.ns):∃n g r ys,aU D.ns x=some n/\n.qu=g::r/\Up D.ns x ys/\ys.length<=6/\(1<=g.2/\g.2<=D.most/\D.most<=1000000)/\∀b∈fZ D.ns ys,gI D.most b/\b.s<=τ:=by
 obtain⟨n,hn,np⟩:=(ZU h.W.nn).mp hx;obtain⟨eZ,ne⟩:=iD hn;have ln:=(O.nd n eZ).qu.r.len;cases hq:n.qu with
 |nil=>
  rw[hq]at ln;exact absurd (jQ ln) np
 |cons g r=>
  obtain⟨ys,U,yl⟩:=h.W.up n eZ;rw[ne]at U;have gb:=h.qu n eZ g (by rw[hq];exact aj ..);refine⟨n,g,r,ys,hn,hq,U,yl,⟨gb.1,gb.2,h.W.m1.2⟩,fun b hb=>?_⟩;obtain⟨y,_,m,a,hm,hmb⟩:=zvo hb;exact h.bk m (iD hm).1 _ hmb
theorem TD.Dy.full{D:TD}{τ:Int}{v:Nat}(h:D.Dy τ v){C:Cl}{H:Hp}(O:bW C H D){x:Str}{t:Int}(m:wG D x t):x∈f9 D.ns:=by obtain⟨n,ys,g,r,h1,h2,_⟩:=m;refine(ZU h.W.nn).mpr ⟨n,h1,fun z=>?_⟩;have ln:=(O.nd n (iD h1).1).qu.r.len;rw[z,h2]at ln;cases ln
def Gg(D:TD)(t:Int)(x:Str)(a:Int):Prop:=∃n g r ys,aU D.ns x=some n/\n.qu=g::r/\Up D.ns x ys/\Gh (fZ D.ns ys) t g.2 a/\a<=t+1000000000000
theorem Gg.may{D:TD}{t a:Int}{x:Str}(h:Gg D t x a):wG D x a/\t<=a/\∀u,t<=u->wG D x u->a<=u:=by obtain⟨n,g,r,ys,h1,h2,h3,h4,_⟩:=h;exact⟨(QO h1 h2 h3 a).mpr h4.ok,h4.ge,fun u tu m=>h4.le u tu ((QO h1 h2 h3 u).mp m)⟩
theorem Zs{α β:Type}{R:α->β->Prop}:∀{l:List α}{k:List β},Paired R l k->∀b∈k,∃a∈l,R a b
 |_,_,.nil,b,hb=>absurd hb aI
 |_,_,.cons h t,b,hb=>by
  rcases ak.mp hb with q|q
  ·exact⟨_,aj ..,q▸h⟩
  ·obtain⟨a,ha,r⟩:=Zs t b q;exact⟨a,ae _ ha,r⟩
theorem Zc{α β:Type}{R:α->β->Prop}:∀{l:List α}{k:List β},Paired R l k->∀a∈l,∃b∈k,R a b
 |_,_,.nil,b,hb=>absurd hb aI
 |_,_,.cons h t,b,hb=>by
  rcases ak.mp hb with q|q
  ·exact⟨_,aj ..,q▸h⟩
  ·obtain⟨a,ha,r⟩:=Zc t b q;exact⟨a,ae _ ha,r⟩
theorem zvp{ns:List ND}(nd:(ns.map (·.nm)).Nodup){n:ND}(hn:n∈ns):cu ns n=ns:=by
 have:=OO (ns:=ns) nd (f:=id) (g:=id) (n:=n) (n':=n) (fun _=>rfl) hn rfl rfl (fun _ _ _=>rfl)
 rwa [l7]at this
def dZ.yF:dZ->Str
 | .st _ _ _ _ (.str x) _=>x
 | .rd _ _ _ _ (.str x)=>x
 |_=>road
def dZ.D4:dZ->Prop
 | .st nm tg gs ck ch N=>∃x s g,ch= .str x/\bD nm x=some s/\(1<=s/\s<=1000000)/\tg x≠none/\gs x=some g/\Sw.fP 70 g/\Sw.fP 2490 ck/\N<890
 | .rd _ _ rs _ ch=>∃x r,ch= .str x/\bD rs x=some r/\rs.length<90
noncomputable def ND.chg(t len:Int)(n:ND):ND:={n with ch:=n.ch.map fun c=>(c.1,c.2.oR c.2.yF len),bk:=n.bk.map fun b=>(b.1,b.2.kN t len)}
theorem dZ.Due.yF{x:Str}{c:dZ}(h:c.Due x):c.yF=x:=by
 cases c with
 |st nm tg gs ck ch N=>
  have h:ch= .str x:=h;rw[h];rfl
 |rd nm q rs tu ch=>
  have h:ch= .str x:=h.1;rw[h];rfl
theorem dZ.NH{m:Int}{p:Nat}{x:Str}{c:dZ}(h:c.Ok m)(f:c.jy p)(p1:p<=120)(d:c.Due x)(hx:bD c.nm x≠none)(sz:c.sz<890)(nl:c.nm.length<90):c.D4:=by
 cases c with
 |st nm tg gs ck ch N=>
  obtain⟨G,g0,gz,⟨c1,c2,c3⟩,ht,hg⟩:=f;have hx:bD nm x≠none:=hx;cases e:bD nm x with
  |none=>exact absurd e hx
  |some s=>
   obtain⟨t,g,e1,e2⟩:=h.2 x hx;exact⟨x,s,g,d,e,h.1.sh x s e,by rw[e1];simp,e2,(hg x g e2).2,V0 p1 g0 gz c1 c2 c3,sz⟩
 |rd nm q rs tu ch=>
  obtain⟨d1,d2,r,hr,_⟩:=d;refine⟨x,r,d1,hr,?_⟩;have:=QV h.2;have nl:nm.length<90:=nl;omega
section
variable{C:Cl}{H H':Hp}{D:TD}
theorem bW.gone(h:bW C H D){p:Addr}{g:D3}(hp:H p=some (.tup (HW g))):bW C (upd H D.pg (.lst ((D.gp++[p]).map V.ref))) {D with gp:=D.gp++[p],gs:=D.gs++[g]}:=by
 have fd:=h.fd;unfold TD.foot at fd;simp only[aG,ak,not_or]at fd;have kp:∀b o,b≠D.pg->H b=some o->upd H D.pg (.lst ((D.gp++[p]).map V.ref)) b=some o:=fun b o q e=>by rw[bM q];exact e
 have tp:∀{b xs},H b=some (.tup xs)->b≠D.pg:=fun{b xs} e z=>by rw[z,h.go]at e;cases e
 obtain⟨dx,fs,h1,h2⟩:=h.ex;refine⟨⟨dx,fs,kp _ _ fd.1.2.1 h1,h2⟩,kp _ _ fd.2.1.1 h.hn,fun x hx=>(h.nd x hx).keep fun b o hb e=>kp b o ?_ e,bX,OD (F:=fun a b=>upd H D.pg (.lst ((D.gp++[p]).map V.ref)) a=some (.tup (HW b))) (kp _ _ (tp hp) hp) (Hy (fun a b z=>kp _ _ (tp z) z) h.gr),h.fd⟩;rcases hb with q|⟨xs,q⟩
 ·exact(h.apart hx q).2.2
 ·exact tp q
end
theorem zse{D:TD}{f:ND->ND}(hf:∀n,(f n).foot=n.foot):TD.foot {D with ns:=D.ns.map f}=D.foot:=by unfold TD.foot;show D.p::D.pn::D.pg::(D.ns.map f).flatMap ND.foot=_;rw[List.flatMap_map,show(fun a=>ND.foot (f a))=ND.foot from funext hf]
theorem Up.suffix{ns:List ND}{x:Str}{ys:List Str}(h:Up ns x ys):∀{as:List Str}{y:Str}{bs:List Str},ys=as++y::bs->Up ns y (y::bs):=by
 induction h with
 | @top x n h e=>
  intro as y bs q;cases as with
  |nil=>cases q;exact .top h e
  |cons a r=>
   have:=congrArg iV q;simp at this
 | @on x y0 n ys h e k ih=>
  intro as y bs q;cases as with
  |nil=>cases q;exact .on h e k
  |cons a r=>
   rw[fc]at q;exact ih (List.cons.inj q).2
theorem Up.nodup{ns:List ND}{x:Str}{ys:List Str}(h:Up ns x ys):ys.Nodup:=by
 induction h with
 |top h e=>simp
 | @on x y0 n ys h e k ih=>
  rw[aG];refine⟨fun z=>?_,ih⟩;obtain⟨as,bs,q⟩:=iU z;have u1:=k.suffix q;have u2:Up ns x (x::ys):=.on h e k;have:=congrArg iV (u1.det u2);rw[q]at this;simp at this;omega
theorem Jx.Nf{ns:List ND}{R:Str->Prop}{pre:List Str}{x:Str}(h:Jx ns R pre x):∀y∈pre,∃n c z,aU ns y=some n/\n.ch=some c/\c.2.qR (sj c.2 R)=some z:=by
 induction h with
 |nil=>intro y hy;cases hy
 | @snoc pre y z n c _ h1 h2 h3 ih=>
  intro y' hy;rcases ak.mp hy with q|q
  ·rw[q];exact⟨n,c,z,h1,h2,h3⟩
  ·exact ih y' q
theorem ZV{rd:List Str}{z:Str}:∀{c:dZ},c.qR rd=some z->z∈rd
 | .st nm tg gs ck ch N,h=>by
  have h:gX (fun x=>decide (x∈rd)) (fun x=>max ((tg x).getD 0) ck) (nm.map (·.1)) none=some z:=h;rcases OF h with⟨_,q⟩ |q
  ·exact of_decide_eq_true q
  ·cases q
 | .rd nm q rs tu ch,h=>by
  have h:qS q rs tu rd=some z:=h;unfold qS at h;by_cases c:qH rs rd tu=true
  ·rw[if_pos c]at h;subst h;rw[LP,bY,decide_eq_true_eq]at c;exact c.1
  ·rw[if_neg c]at h;exact of_decide_eq_true (n8 (p:=fun x=>decide (x∈rd)) h)
section
variable{D:TD}{R:Str->Prop}{t len:Int}{x:Str}
theorem QE{τ:Int}{v:Nat}(Y:D.Dy τ v){n:ND}(eZ:n∈D.ns){c:lV×dZ}(hc:n.ch=some c){z:Str}(hz:c.2.qR (sj c.2 R)=some z):(c.2.j8 D.most R)=c.2.gY D.most (sj c.2 R) z/\(c.2.j8 D.most R).Ok D.most/\(c.2.j8 D.most R).Due z/\(c.2.j8 D.most R).D4/\bD c.2.nm z≠none/\((c.2.j8 D.most R).oR z len=c.2.go D.most R len):=by
 have e:c.2.j8 D.most R=c.2.gY D.most (sj c.2 R) z:=by unfold dZ.j8;rw[hz]
 have ne:sj c.2 R≠[]:=fun q=>by have:=ZV hz;rw[q]at this;cases this
 have vS:=Y.W.vS n eZ c hc;have sub:∀y∈sj c.2 R,bD c.2.nm y≠none:=fun y hy=>Sw.k9.mpr (ue.mp hy).1;obtain⟨z',e1,e2,e3,e4⟩:=dZ.Df vS ne sub;rw[hz]at e1;cases e1
 have hs:=sub z e2;obtain⟨f1,f2⟩:=Y.fin n eZ c hc;have:=Y.yV;have:=Y.vl;have kl:=Y.W.xW eZ hc;have:=Y.ln;rw[e];refine⟨rfl,e3,e4,dZ.NH e3 (f1.gY D.most _ z) (by omega) e4 (by rw[dZ.lP];exact hs) (by rw[dZ.xh];omega) (by rw[dZ.lP];omega),hs,?_⟩;unfold dZ.go;rw[hz]
theorem Lv.ps{C:Cl}{H:Hp}(O:bW C H D)(L:D.Lv){n:ND}(eZ:n∈D.ns)(hc:n.ch≠none):n.qu=[]/\n.ps=[]:=by have q:n.qu=[]:=vv fun z=>hc (L n eZ z);refine⟨q,?_⟩;have ln:=(O.nd n eZ).qu.r.len;rw[q]at ln;exact jQ ln
end
theorem Ut{D:TD}{t:Int}{x:Str}{pre:List Str}{g:D2}{v:Nat}(Y:D.Dy t v)(G:vI D t x pre g)(M1:∀n∈D.ns,n.ch≠none->n.qu=[]/\n.ps=[]){T:List Str}{n:ND}(eZ:n∈D.ns)(hn:n.nm∈x::pre)(hT:n.nm∉T):(jq D.most (fk D t) (x::pre) x T t g.2 n).chg t g.2=stN D.most (fk D t) (x::pre) t g.2 n:=by
 obtain⟨nx,r,hx,MQ,GQ,_⟩:=G.q;unfold jq;rw[if_neg hT];by_cases e:n.nm=x
 ·have:n=nx:=by have:=wD Y.W.nn eZ;rw[e,hx]at this;exact(aq this).symm
  subst this;rw[if_pos e];unfold jS stN ND.chg;rw[if_pos hn,if_pos hn,MQ];rfl
 ·rw[if_neg e];have hp:n.nm∈pre:=(ak.mp hn).resolve_left e;obtain⟨n',c,z,h1,h2,h3⟩:=G.led.Nf n.nm hp;rw[wD Y.W.nn eZ]at h1;cases h1
  obtain⟨q1,q2⟩:=M1 n eZ (by rw[h2];simp);obtain⟨p1,p2,p3,p4,p5,p6⟩:=QE (R:=fk D t) (len:=g.2) Y eZ h2 h3;unfold jS stN ND.chg;rw[if_pos hn,if_pos hn,h2];show({n with ch:=some (c.1,(c.2.j8 D.most (fk D t)).oR (c.2.j8 D.most (fk D t)).yF g.2),bk:=n.bk.map fun b=>(b.1,b.2.kN t g.2)}:ND)={n with ch:=some (c.1,c.2.go D.most (fk D t) g.2),bk:=n.bk.map fun b=>(b.1,b.2.kN t g.2),ps:=n.ps.tail,qu:=n.qu.tail};rw[p3.yF,p6,q1,q2];obtain⟨a1,a2,a3,a4,a5,a6,a7,a8,a9⟩:=n;cases q1
  cases q2;rfl
theorem Qy{f:ND->ND}:∀{ns:List ND},(∀n∈ns,(f n).qu.length<=n.qu.length)->dQ (ns.map f)<=dQ ns
 |[],_=>az _
 |p::r,h=>by have:=Qy (f:=f) (ns:=r) fun n hn=>h n (ae _ hn);have h0:=h p (aj ..);unfold dQ at this⊢;rw[ay,ay,ay,eO,eO];omega
theorem zsf{f:ND->ND}:∀{ns:List ND},(∀n∈ns,(f n).qu.length<=n.qu.length)->(∃n∈ns,(f n).qu.length<n.qu.length)->dQ (ns.map f)+1<=dQ ns
 |[],_,⟨n,hn,_⟩=>absurd hn aI
 |p::r,h,⟨n,hn,l⟩=>by
  have h0:=h p (aj ..);have h1:∀n∈r,(f n).qu.length<=n.qu.length:=fun n hn=>h n (ae _ hn);rcases ak.mp hn with q|q
  ·subst q;have:=Qy h1;unfold dQ at this⊢;rw[ay,ay,ay,eO,eO];omega
  ·have:=zsf h1 ⟨n,q,l⟩;unfold dQ at this⊢;rw[ay,ay,ay,eO,eO];omega
theorem vI.dy{D:TD}{t τ:Int}{v:Nat}{x:Str}{pre:List Str}{g:D2}(Y:D.Dy τ v)(G:vI D t x pre g)(τt:τ<=t)(p:Addr):(D.step (fk D t) (x::pre) x t g p).Dy t v/\dQ (D.step (fk D t) (x::pre) x t g p).ns+1<=dQ D.ns:=by
 obtain⟨nx,r,hx,MQ,GQ,R0⟩:=G.q;obtain⟨LO,xe⟩:=iD hx;have gb:=Y.qu nx LO g (by rw[GQ];exact aj ..);have m6:=Y.W.m1.2;have Rv:∀n∈D.ns,∀c',(stN D.most (fk D t) (x::pre) t g.2 n).ch=some c'->∃c,n.ch=some c/\c'.2.nm=c.2.nm/\c'.2.Ok D.most/\c'.2.jy (D.gs.length+1)/\c'.2.sz<=3*v+2*(D.gs.length+1):=fun n eZ c' BF=>by
  have DL:∀c,n.ch=some c->c'=c->∃c,n.ch=some c/\c'.2.nm=c.2.nm/\c'.2.Ok D.most/\c'.2.jy (D.gs.length+1)/\c'.2.sz<=3*v+2*(D.gs.length+1):=fun c hc e=>by subst e;obtain⟨f1,f2⟩:=Y.fin n eZ _ hc;exact⟨_,hc,rfl,Y.W.vS n eZ _ hc,f1.mono (by omega),by omega⟩
  unfold stN at BF;by_cases q:n.nm∈x::pre
  ·rw[if_pos q]at BF;cases hc:n.ch with
   |none=>rw[hc]at BF;cases BF
   |some c=>
    rw[hc]at BF;obtain rfl:(c.1,c.2.go D.most (fk D t) g.2)=c':=aq BF;cases hz:c.2.qR (sj c.2 (fk D t))with
    |none=>
     have e:c.2.go D.most (fk D t) g.2=c.2:=by unfold dZ.go;rw[hz]
     rw[hc]at DL;exact DL c rfl (by rw[e])
    |some z=>
     obtain⟨p1,p2,p3,p4,p5,p6⟩:=QE (R:=fk D t) (len:=g.2) Y eZ hc hz;obtain⟨f1,f2⟩:=Y.fin n eZ c hc;have en:(c.2.j8 D.most (fk D t)).nm=c.2.nm:=zxl _;refine⟨c,rfl,MH _,?_,?_,?_⟩
     ·show(c.2.go D.most (fk D t) g.2).Ok D.most;rw[<-p6];exact p2.oR p3 (by rw[en];exact p5) gb.1 gb.2
     ·show(c.2.go D.most (fk D t) g.2).jy _;rw[<-p6,p1];cases hs:bD c.2.nm z with
      |none=>exact absurd hs p5
      |some s=>exact(f1.gY D.most _ z).oR (s:=s) (by rw[dZ.lP];exact hs) ((Y.W.vS n eZ c hc).gnm.sh z s hs) (by omega) (by omega)
     ·show(c.2.go D.most (fk D t) g.2).sz<=_;rw[<-p6,p1];have:=dZ.G8 (x:=z) (len:=g.2) (c.2.gY D.most (sj c.2 (fk D t)) z);rw[dZ.xh]at this;omega
  ·rw[if_neg q]at BF;exact DL c' BF rfl
 have chn:∀n∈D.ns,(stN D.most (fk D t) (x::pre) t g.2 n).ch=none->n.ch=none:=fun n _ h=>by
  unfold stN at h;split at h
  ·cases hc:n.ch with
   |none=>rfl
   |some c=>rw[hc]at h;cases h
  ·exact h
 have W':=Y.W.map (f:=stN D.most (fk D t) (x::pre) t g.2) Jo Wd (fun n eZ c' h=>by obtain⟨c,a,b,d,_⟩:=Rv n eZ c' h;exact⟨c,a,b,d⟩) chn;have ql:∀n,(stN D.most (fk D t) (x::pre) t g.2 n).qu=n.qu\/(stN D.most (fk D t) (x::pre) t g.2 n).qu=n.qu.tail:=fun n=>by
  unfold stN;split
  ·exact .inr rfl
  ·exact .inl rfl
 have wl:dQ (D.step (fk D t) (x::pre) x t g p).ns+1<=dQ D.ns:=by
  refine zsf (fun n _=>?_) ⟨nx,LO,?_⟩
  ·rcases ql n with q|q
   ·rw[q];exact az _
   ·rw[q,List.length_tail];omega
  ·unfold stN;rw[if_pos (by rw[xe];exact aj ..)];show nx.qu.tail.length < _;rw[GQ];simp
 have gl:(D.step (fk D t) (x::pre) x t g p).gs.length=D.gs.length+1:=by show(D.gs++[_]).length=_;rw[bg];rfl
 refine⟨⟨⟨W'.nn,W'.rd,W'.ra,W'.up,W'.CW,W'.lf,W'.vS,W'.m1,W'.IG⟩,fun n hn c hc=>?_,fun n hn b hb=>?_,fun n hn hq=>?_,fun n hn g' hg=>?_,?_,?_,Y.vl⟩,wl⟩
 ·obtain⟨m,hm,rfl⟩:=av.mp hn;obtain⟨c0,a,b,d,e1,e2⟩:=Rv m hm c hc;rw[gl];exact⟨e1,e2⟩
 ·obtain⟨m,hm,rfl⟩:=av.mp hn;show gI D.most b.2/\b.2.s<=t;unfold stN at hb;by_cases q:m.nm∈x::pre
  ·rw[if_pos q]at hb;cases Pu:m.bk with
   |none=>rw[Pu]at hb;cases hb
   |some c=>
    rw[Pu]at hb;obtain rfl:(c.1,c.2.kN t g.2)=b:=aq hb;obtain⟨b1,b2⟩:=Y.bk m hm c Pu;exact⟨b1.kN (by omega) (by omega) (R0 c.2 (QN q (wD Y.W.nn hm) Pu)),dG _⟩
  ·rw[if_neg q]at hb;obtain⟨b1,b2⟩:=Y.bk m hm b hb;exact⟨b1,by omega⟩
 ·obtain⟨m,hm,rfl⟩:=av.mp hn;have:m.ch=none:=Y.lv m hm fun z=>by
   rcases ql m with q|q
   ·rw[q,z]at hq;exact hq rfl
   ·rw[q,z]at hq;exact hq rfl
  cases e:(stN D.most (fk D t) (x::pre) t g.2 m).ch with
  |none=>rfl
  |some c=>
   obtain⟨c0,a,_⟩:=Rv m hm c e;rw[this]at a;cases a
 ·obtain⟨m,hm,rfl⟩:=av.mp hn;refine Y.qu m hm g' ?_;rcases ql m with q|q
  ·rw[q]at hg;exact hg
  ·rw[q]at hg;exact List.mem_of_mem_tail hg
 ·rw[gl];have:=Y.yV;omega
 ·show(D.ns.map _).length<=60;rw[ai];exact Y.ln
noncomputable def TD.mid(D:TD)(t:Int)(x:Str)(pre T:List Str)(len:Int):TD:={D with ns:=D.ns.map (jq D.most (fk D t) (x::pre) x T t len)}
end L2
namespace L2
end L2
namespace L2
open PySem PySem.Spec PyProof.Rows
noncomputable def TD.ask(D:TD)(t:Int)(pre:List Str):TD:={D with ns:=D.ns.map (jS D.most (fk D t) pre)}
theorem zxo{D:TD}{t:Int}{pre:List Str}{x:Str}{n:ND}(nn:(D.ns.map (·.nm)).Nodup)(hx:aU D.ns x=some n)(hc:n.ch=none):D.ns.map (jS D.most (fk D t) pre)=D.ns.map (jS D.most (fk D t) (x::pre)):=by
 refine br fun y hy=>?_;by_cases e:y.nm=x
 ·have:y=n:=by have:=wD nn hy;rw[e,hx]at this;exact(aq this).symm
  subst this;have same:∀S,jS D.most (fk D t) S y=y:=fun S=>by
   unfold jS;split
   ·obtain⟨a1,a2,a3,a4,a5,a6,a7,a8,a9⟩:=y;cases hc
    rfl
   ·rfl
  rw[same,same]
 ·unfold jS;have:y.nm∈x::pre↔y.nm∈pre:=by rw[ak];exact⟨fun z=>z.resolve_left e,.inr⟩
  by_cases c:y.nm∈pre
  ·rw[if_pos c,if_pos (this.mpr c)]
  ·rw[if_neg c,if_neg (fun z=>c (this.mp z))]
open Classical in
theorem zta{c:dZ}{R:Str->Prop}{ks:List Str}(h:∀y,y∈ks↔R y):sj c R=(c.nm.map (·.1)).filter fun y=>decide (y∈ks):=by unfold sj;refine List.filter_congr fun y _=>?_;rw[decide_eq_decide];exact(h y).symm
theorem TD.Dy.mono{D:TD}{τ τ':Int}{v:Nat}(h:D.Dy τ v)(l:τ<=τ'):D.Dy τ' v:=⟨h.W,h.fin,fun n hn b hb=>⟨(h.bk n hn b hb).1,by have:=(h.bk n hn b hb).2;omega⟩,h.lv,h.qu,h.yV,h.ln,h.vl⟩
theorem Dp{D:TD}{R:Str->Prop}{S:List Str}{x:Str}{t:Int}{g:D2}{p:Addr}:(D.step R S x t g p).foot=D.foot:=by have:=zse (D:=D) (f:=stN D.most R S t g.2) fun y=>zsc y;exact this
theorem Nx.rest{D:TD}{a t:Int}(h:Nx D a)(l:t<=a):CI D t:=fun x u h1 h2 m=>by have:=h.le x u h1 h2 m;omega
theorem Runs.keep{t:Int}{I:TD->Prop}{D D':TD}(h:Runs t D D')(hI:I D)(st:∀D a x pre g p,I D->Nx D a->a<t->vI D a x pre g->I (D.step (fk D a) (x::pre) x a g p)):I D':=by
 induction h with
 |stop _=>exact hI
 |go h1 h2 h3 _ ih=>exact ih (st _ _ _ _ _ _ hI h1 h2 h3)
theorem zvq{ns:List ND}{y:Str}{m:ND}(hm:aU ns y=some m):fZ ns [y]=(m.bk.map (·.2)).toList:=by
 unfold fZ;rw[iq,hm];cases h:m.bk with
 |none=>simp[h]
 |some c=>simp[h]
theorem zvr(ns:List ND)(a b:List Str):fZ ns (a++b)=fZ ns a++fZ ns b:=by unfold fZ;rw[oU]
theorem ztb{ns:List ND}{n n1:ND}(bk:Option (Addr×je))(e:n1.nm=n.nm)(hn:n∈ns)(nd:(ns.map (·.nm)).Nodup):cu (cu ns n1) {n1 with bk:=bk}=cu ns {n1 with bk:=bk}:=by
 unfold cu;rw[eI];refine br fun y _=>?_;show(if(if y.nm=n1.nm then n1 else y).nm=n1.nm then({n1 with bk:=bk}:ND)else(if y.nm=n1.nm then n1 else y))=if y.nm=n1.nm then{n1 with bk:=bk}else y
 by_cases q:y.nm=n1.nm
 ·rw[if_pos q,if_pos rfl,if_pos q]
 ·rw[if_neg q,if_neg q]
theorem bW.bucket{C:Cl}{H H':Hp}{D:TD}(h:bW C H D)(nd:(D.ns.map (·.nm)).Nodup){n:ND}(hn:n∈D.ns){b:Addr×je}(hb:n.bk=some b)(bt:tq b.1 H H'){b':je}(B:Bk C.b H' b.1 b'.d b'.r b'.s b'.l):bW C H' {D with ns:=cu D.ns {n with bk:=some (b.1,b')}}:=by
 have fn:=h.x6 hn;have N:=h.nd n hn;have ef:ND.foot {n with bk:=some (b.1,b')}=n.foot:=by unfold ND.foot;rw[hb];rfl
 have bin:b.1∈n.foot:=by unfold ND.foot;rw[hb];exact ae _ (ae _ (ao.mpr (.inr (au.mpr rfl))))
 have fd:n.foot=n.p::n.ql::(HV n.ch++[b.1]):=by unfold ND.foot;rw[hb];rfl
 have AL:=fn;rw[fd]at AL;simp only[aG,ak,ao,not_or,bO,aI,or_false]at AL;obtain⟨⟨f1,f2,f3⟩,⟨f4,f5⟩,f6,f7,f8⟩:=AL;have nt:∀{a xs},H a=some (.tup xs)->a≠b.1:=fun{a xs} e z=>by obtain⟨o,ho,q⟩:=N.at bin;rw[<-z,e]at ho;exact q xs (aq ho).symm
 obtain⟨dx,fs,h1,h2⟩:=N.ex;refine h.node nd hn rfl rfl (fun a o na e=>bt a o (fun z=>na (by rw[z];exact bin)) e) ⟨⟨dx,fs,bt _ _ f3 h1,by rw[hb]at h2;exact h2⟩,⟨bt _ _ f5 N.qu.hl,N.qu.r.keep fun p z hp=>bt _ _ (nt hp) hp⟩,fun c hc=>?_,fun c hc=>?_⟩ (by rw[ef];exact fn) fun a ha=>.inl (by rw[ef]at ha;exact ha)
 ·refine(N.ch c hc).keep fun a o ha e=>bt a o ?_ e;rcases ha with q|⟨xs,q⟩
  ·exact fun z=>f8 a (by rw[show n.ch=some c from hc];exact q) b.1 rfl z
  ·exact nt q
 ·cases hc;exact B
def Vp(tl:TE)(g:TG)(tb:TS):TS:=fun D σ H=>tl σ H fun x H1=>∃a kvs,x= .ref a/\H1 a=some (.dK kvs)/\∀o,∃W:Nat->Nat->St->Hp->Prop,(∃m,W 0 m σ (upd H1 a (.jx o (.dK kvs))))/\∀i m σ H,W i m σ H->
 H a=some (.jx o (.dK kvs))/\((kvs.length<=i/\D.nx σ (upd H a (.dK kvs)))\/(∃kv,kvs[i]?=some kv/\∃N:St->Hp->Prop,(∀σ' H',N σ' H'->∃m',m' < m/\W (i+1) m' σ' H')/\g kv.2 σ H fun σ2 H2=>tb {D with nx:=N,ct:=N,bk:=fun _ _=>False,rt:=fun x H'=>H' a=some (.jx o (.dK kvs))/\D.rt x (upd H' a (.dK kvs))} σ2 H2))
section
variable{X:Cx}
theorem zxp{o:Expr}{gM iJ:Pos}{tg:Expr}{body:List Stmt}{tl:TE}{g:TG}{tb:TS}{pos:Pos}(hp:PassesOwn (model X.prog X.w) X.A X.env X.xe)(hc:X.calm=true)(hl:PE X o tl)(hg:PG X tg g)(hb:rQ X body tb)(hs:∀x,foldedSetIterable (.Call (.Attribute o "values" gM) [] [] iJ) X.env x=pure x:=by intro _;rfl)(qD:attributeBase o "values" X.env (eval o X.env)=eval o X.env:=by rfl)(qF:(gM.endLine ==iJ.line)=true:=by rfl):PS X (.For tg (.Call (.Attribute o "values" gM) [] [] iJ) body [] pos) (Vp tl g tb):=by
  intro ah s σ H D I h;refine wpAny_For (wpAny_Call_method0_late qD qF (eJ (hl ah s σ H _ I h) fun v s1⟨x,H1,I1,r1,a,kvs,ex,ha,kZ⟩=>?_)) hs;subst ex;obtain rfl:v=Value.ref a:=r1;obtain⟨t1,t2,_⟩:=QU I1 (.inl ⟨kvs,.inl ha⟩);obtain⟨z,hd,vs,jE,o',es,ep,ho,hx⟩:=sS I1.eB ha;refine⟨"dict","dict.values",iA,ia,xH,t1,t2,Calls.callWith_builtin rfl (ku ?_)⟩;refine call_meetsIn ia t1 wI (vQ _) (meets_dict_values (nS X.prog X.w) a hd) ⟨⟨vs,o',es,ep,ho,hx⟩,?_⟩;have Iv:Inv X ah σ H1 {s1 with heap:=s1.heap.push {cls:=.type "dict_values",data:=.fields #[.ref a]}}:=I1.kept (t':=s1.toks) fun b o e=>Heap.get?_push_of_some _ e;have Er:(s1.heap.push {cls:=.type "dict_values",data:=.fields #[.ref a]}).get? a=some o':=Heap.get?_push_of_some _ ho;have Ih:(s1.heap.push {cls:=.type "dict_values",data:=.fields #[.ref a]}).IsValuesView s1.heap.objs.size a:=⟨_,Heap.get?_push_size _ rfl,rfl,rfl⟩;generalize s1.heap.push {cls:=.type "dict_values",data:=.fields #[.ref a]}=hv at Iv Er Ih⊢;refine wpAny_pyIter_values (s:={s1 with heap:=hv}) (knd:=nS X.prog X.w) Ih ⟨o',es,Er,hx⟩ ?_;obtain⟨W,⟨m0,w0⟩,sG⟩:=kZ o';have n0:∀o u,X.H₀ a≠some (.jx o u):=fun o' u e=>by have:=I1.base.mO a o' u e;rw[ha]at this;cases this
  have fresh:H1 hv.objs.size=none:=Iv.eB.fresh (az _);have MD:=Iv.AM (az _) fresh;have na:hv.objs.size≠a:=fun y=>by rw[y,ha]at fresh;cases fresh
  have I2:Inv X ah σ (upd H1 a (.jx o' (.dK kvs))) {s1 with heap:=hv.push {cls:=.type "dict_valueiterator",data:=.fields #[.ref a,.int 0 0,.int vs.length 0,.int ep 0]}}:=
    (Iv.kept (t':=s1.toks) fun b o e=>Heap.get?_push_of_some _ e).frozen ha (Heap.get?_push_of_some _ Er);have T:xM X.prog X.w X.K tg (Jv a o' kvs) [hv.objs.size] hv.objs.size (fun i h=>h.IsValIter hv.objs.size a i vs.length ep):=Zb a _ jE hx;have mD:∀{H':Hp},H' hv.objs.size=none->∀b∈[hv.objs.size],rM X ah H' b:=fun hn b hb=>by
    have e:b=hv.objs.size:=by simpa using hb
    subst e;exact⟨hn,MD.2⟩
  refine codeAny_forLoop_any (fun n s'=>∃i σ' H',Inv X ah σ' H' s'/\s'.heap.IsValIter hv.objs.size a i vs.length ep/\H' hv.objs.size=none/\W i n σ' H') ?_ m0 ⟨0,σ,_,I2,⟨_,Heap.get?_push_size _ rfl,rfl,rfl⟩,by rw[bM na];exact fresh,w0⟩;rintro n s3 ⟨i,σ3,H3,I3,IT,Ao,w3⟩;obtain⟨hz,cs⟩:=sG i n σ3 H3 w3;rcases cs with⟨stop,qn⟩ |⟨kv,ud,N,hN,step⟩
  · refine wpAny_passesOwn hp (eJ (T.done X rfl rfl rfl hc i ah s3 σ3 H3 X.xe I3 (mD Ao) IT ⟨stop,hz⟩) fun r s4⟨hr,I4⟩=>?_);subst hr;exact wpAny_execs_nil ⟨σ3,_,I4.yp hz n0,qn⟩
  · refine wpAny_passesOwn hp (eJ (T.item X rfl rfl rfl hc i ah s3 σ3 H3 X.xe I3 (mD Ao) IT ⟨(aL.mp ud).1,hz⟩) fun r s4⟨u,hr,h4⟩=>?_);subst hr;refine wpAny_passesOwn hp (eJ h4 fun _ s5⟨x,H5,I5,r5,⟨eH,kv',Ep,ex⟩,zX,El⟩=>?_);subst eH;rw[ud]at Ep;cases Ep
    subst ex;have Mh:=I5.pinned (mD (El _ (by simp))) (T.obj _ _ zX);refine wpAny_passesOwn hp (eJ (hg _ s5 σ3 _ _ u _ Mh r5 step) fun _ s6⟨σ6,H6,I6,q6⟩=>?_);refine wpAny_passesOwn hp (eJ (hb _ s6 σ6 H6 _ I6 q6) fun f s7 q7=>?_);have again:∀{σ7:St}{H7:Hp},Inv X (ah++Jk [hv.objs.size] s5.heap) σ7 H7 s7->N σ7 H7->∃m,m<n/\∃i σ' H',Inv X ah σ' H' s7/\s7.heap.IsValIter hv.objs.size a i vs.length ep/\H' hv.objs.size=none/\W i m σ' H':=fun{σ7 H7} I7 n7=>by obtain⟨m',hm,w7⟩:=hN σ7 H7 n7;refine⟨m',hm,i+1,σ7,H7,I7.iT,T.keep _ _ _ zX fun b hb o e=>(I7.pin (b,o) (aB _ (aB _ (F4 hb e)))).1,?_,w7⟩;obtain⟨o,e,d⟩:=T.obj _ _ zX hv.objs.size (by simp);exact(I7.pin (_,o) (aB _ (aB _ (F4 (by simp) e)))).2.1
    cases f with
    |next=>obtain⟨σ7,H7,I7,n7⟩:=q7;exact again I7 n7
    |cont=>obtain⟨σ7,H7,I7,n7⟩:=q7;exact again I7 n7
    |brk=>obtain⟨σ7,H7,I7,q7⟩:=q7;exact bI q7
    |ret v=>obtain⟨x7,σ7,H7,I7,r7,P0,q7⟩:=q7;exact⟨x7,σ7,_,I7.iT.yp P0 n0,r7,q7⟩
end
theorem zvs{a:Addr}{kvs:List (Key×V)}{o:Obj}{g:TG}{tb:TS}{D:Ends}{σ:St}{H:Hp}(Pv:Nat->St->Hp->Prop)(h0:Pv 0 σ H)(hz:∀i σ H,i<=kvs.length->Pv i σ H->H a=some (.jx o (.dK kvs)))(hs:∀i kv σ H,kvs[i]?=some kv->Pv i σ H->g kv.2 σ H fun σ2 H2=>tb {D with nx:=Pv (i+1),ct:=Pv (i+1),bk:=fun _ _=>False,rt:=fun x H'=>H' a=some (.jx o (.dK kvs))/\D.rt x (upd H' a (.dK kvs))} σ2 H2)(hd:∀σ H,Pv kvs.length σ H->D.nx σ (upd H a (.dK kvs))):
    ∃W:Nat->Nat->St->Hp->Prop,(∃m,W 0 m σ H)/\∀i m σ H,W i m σ H->
      H a=some (.jx o (.dK kvs))/\((kvs.length<=i/\D.nx σ (upd H a (.dK kvs)))\/(∃kv,kvs[i]?=some kv/\∃N:St->Hp->Prop,(∀σ' H',N σ' H'->∃m',m' < m/\W (i+1) m' σ' H')/\g kv.2 σ H fun σ2 H2=>tb {D with nx:=N,ct:=N,bk:=fun _ _=>False,rt:=fun x H'=>H' a=some (.jx o (.dK kvs))/\D.rt x (upd H' a (.dK kvs))} σ2 H2)):=by
  refine⟨fun i m σ H=>m=kvs.length-i/\i<=kvs.length/\Pv i σ H,⟨kvs.length,by simp,bZ _,h0⟩,?_⟩;rintro i m σ H ⟨rfl,hi,p⟩;refine⟨hz i σ H hi p,?_⟩;by_cases jT:i<kvs.length
  · exact .inr ⟨kvs[i],by simp[jT],Pv (i+1),fun σ' H' p'=>⟨kvs.length-(i+1),by omega,rfl,jT,p'⟩,hs i _ σ H (by simp[jT]) p⟩
  · have e:i=kvs.length:=by omega
    subst e;exact .inl ⟨az _,hd σ H p⟩
section
variable{X:Cx}
end
section
variable{K:aa}{mg:Str->Option Value}{h:Heap}{C i dt:Addr}{m q:Str}{st:Stmt}{ps:List Str}{od an dd:Option Addr}{sl dl:Array (Option Value)}{oc kV dc pm co ct dv:Value}
abbrev Me(x q:Str)(st:Stmt)(ps:List Str):Prop:=∀(kV nT pm:Value)(an:Option Addr)(dF ct:Value)(us:List Value),us.length=ps.length->bindArgs (bC x q (vq st) (o8 st) (d9 st) .none kV nT pm an dF ct) ⟨us,[]⟩=pure (ps.zip us)
theorem KR(X:K.In h)(G:h.Ns mainGlobals mg)(a:mK K mainGlobals m=some (some (.ref i)))(l:K.lookup i=some ⟨oc,od,.func (bC m m (vq st) (o8 st) (d9 st) .none kV dc pm an co ct),sl⟩)(c:c9 K co m=true)(k:aO K (.ref i)=true)(b:Me m m st ps):rF K mg m st ps:=⟨_,_,Jl l c k,(Jl l c k).binds b,eK X G a⟩
theorem qM(a:aF K (.ref C) m=some (some (.ref i)))(f:gq K (.ref i)=true)(l:K.lookup i=some ⟨oc,od,.func (bC m q (vq st) (o8 st) (d9 st) .none kV dc pm an co ct),sl⟩)(c:c9 K co q=true)(k:aO K (.ref i)=true)(b:Me m q st ps):eR K C m q st ps [[]]:=⟨⟨_,_,OR l c,⟨a,f,k⟩,fun d7 h=>by rw[au.mp h];exact .nil ((Jl l c k).binds b)⟩⟩
theorem in_of(a:aF K (.ref C) "__init__"=some (some (.ref i)))(f:gq K (.ref i)=true)(l:K.lookup i=some ⟨oc,od,.func (bC "__init__" q (vq st) (o8 st) (d9 st) .none kV dc pm an co ct),sl⟩)(c:c9 K co q=true)(k:aO K (.ref i)=true)(b:Me "__init__" q st ps)(mk:ir K C=true)(kc:aO K (.ref C)=true):qx K C q st ps [[]]:=⟨⟨_,_,OR l c,⟨mk,a,f,kc⟩,fun d7 h=>by rw[au.mp h];exact .nil ((Jl l c k).binds b)⟩⟩
theorem Jc(_:aF K (.ref C) m=some (some (.ref i)))(l:K.lookup i=some ⟨oc,od,.func (bC m q (vq st) (o8 st) (d9 st) .none kV dc pm an co ct),sl⟩)(c:c9 K co q=true)(r:Fw K C (.type "type")=true)(f:Ft K (.ref C) (.type "type") m=some (.val (.ref i)))(g:iX K (.ref C) "__getattribute__"=some (some (.builtin "type.__getattribute__")))(k:aO K (.ref i)=true)(b:Me m q st ps):Ec K C m q st ps:=⟨⟨_,_,OR l c,⟨⟨_,r,f⟩,g,k⟩,.nil ((Jl l c k).binds b)⟩⟩
theorem Kl{items:Array Value}{n:Nat}{pG:List (List V)}(a:aF K (.ref C) m=some (some (.ref i)))(f:gq K (.ref i)=true)(l:K.lookup i=some ⟨oc,od,.func (bC m q (vq st) (o8 st) (d9 st) (.ref dt) kV dc pm an co ct),sl⟩)(c:c9 K co q=true)(k:aO K (.ref i)=true)(dk:K.lookup dt=some ⟨dv,dd,.seq items n,dl⟩)(b:∀(fd:FuncData),fd=bC m q (vq st) (o8 st) (d9 st) (.ref dt) kV dc pm an co ct->∀d7∈pG,∃ds,cj d7 ds/\∀us:List Value,(us++ds).length=ps.length->∃z:Option (Array Value)->Sem (List (Str×Value)),bindArgs fd ⟨us,[]⟩=seqItems? fd.defaults >>=z/\z (some items)=pure (ps.zip (us++ds))):eR K C m q st ps pG:=⟨⟨_,_,OR l c,⟨a,f,k⟩,fun d7 h=>by obtain⟨ds,v,z⟩:=b _ rfl d7 h;exact⟨ds,v,Zo rfl dk z⟩⟩⟩
theorem AW{items:Array Value}{n:Nat}{pG:List (List V)}(a:aF K (.ref C) "__init__"=some (some (.ref i)))(f:gq K (.ref i)=true)(l:K.lookup i=some ⟨oc,od,.func (bC "__init__" q (vq st) (o8 st) (d9 st) (.ref dt) kV dc pm an co ct),sl⟩)(c:c9 K co q=true)(dk:K.lookup dt=some ⟨dv,dd,.seq items n,dl⟩)(b:∀(fd:FuncData),fd=bC "__init__" q (vq st) (o8 st) (d9 st) (.ref dt) kV dc pm an co ct->∀d7∈pG,∃ds,cj d7 ds/\∀us:List Value,(us++ds).length=ps.length->∃z:Option (Array Value)->Sem (List (Str×Value)),bindArgs fd ⟨us,[]⟩=seqItems? fd.defaults >>=z/\z (some items)=pure (ps.zip (us++ds)))(mk:ir K C=true)(kc:aO K (.ref C)=true):qx K C q st ps pG:=⟨⟨_,_,OR l c,⟨mk,a,f,kc⟩,fun d7 h=>by obtain⟨ds,v,z⟩:=b _ rfl d7 h;exact⟨ds,v,Zo rfl dk z⟩⟩⟩
theorem Oz(hd:gH K C=true)(ga:aF K (.ref C) "__getattribute__"=some (some (.builtin "BaseException.__getattribute__")))(gn:aF K (.ref C) "__getattr__"=some none)(sa:aF K (.ref C) "__setattr__"=some (some (.builtin "object.__setattr__")))(cl:aF K (.ref C) "__class__"=some (some (.builtin "object.__class__")))(kg:iX K (.builtin "object.__class__") "__get__"=some (some (.builtin "getset_descriptor.__get__")))(kt:uA K (.builtin "object.__class__")=some true)(be:jw K C (.type "BaseException")=some true)(ob:jw K C (.type "object")=some true)(ex:bS K C qy "ValueError.__new__"=true):XC K C:=⟨hd,ga,gn,sa,cl,kg,kt,be,ob,zwu ex⟩
theorem K8{W N:Addr}{nm qn:Str}{bs:List Value}{k6:Bool}{sn:List Str}{sub:List Value}{ab:Bool}{uC:Option Bool}{k0 k1 k2 k3 k5:Option Value}(hd:gH K C=true)(ga:aF K (.ref C) "__getattribute__"=some (some (.builtin "BaseException.__getattribute__")))(gn:aF K (.ref C) "__getattr__"=some none)(sa:aF K (.ref C) "__setattr__"=some (some (.builtin "object.__setattr__")))(cl:aF K (.ref C) "__class__"=some (some (.builtin "object.__class__")))(kg:iX K (.builtin "object.__class__") "__get__"=some (some (.builtin "getset_descriptor.__get__")))(kt:uA K (.builtin "object.__class__")=some true)(be:jw K C (.type "BaseException")=some true)(ob:jw K C (.type "object")=some true)(lk:K.lookup C=some (excClassObj nm qn C N bs (.ref W::qy) k6 sn sub ab uC dd k0 k1 k2 k3 k5 "ValueError.__new__"))(ex:bS K W qy "ValueError.__new__"=true):XC K C:=⟨hd,ga,gn,sa,cl,kg,kt,be,ob,zzn ex lk⟩
theorem Kd(a:aF K (.ref C) "__init__"=some (some (.ref i)))(l:K.lookup i=some ⟨oc,od,.func (bC "__init__" q (vq st) (o8 st) (d9 st) .none kV dc pm an co ct),sl⟩)(t:iY K (.ref i)=some (.type "function"))(c:c9 K co q=true)(k:aO K (.ref i)=true)(b:Me "__init__" q st ps):Gr K C q st ps:=⟨⟨_,_,Jl l c k,(Jl l c k).binds b,a,t⟩⟩
theorem Ed{t:Tok}{mk:Tok->Value}(X:K.In h)(G:h.Ns mainGlobals mg)(e:mK K mainGlobals m=some (some (mk t))):∃t,mg m=some (mk t):=⟨t,eK X G e⟩
theorem K5{x y:Str}{t u:Tok}{n:Nat}(X:K.In h)(G:h.Ns mainGlobals mg)(e:mK K mainGlobals m=some (some (.ref i)))(l:K.lookup i=some ⟨.type "tuple",od,.seq #[.str x t,.str y u] n,sl⟩):∃a,mg m=some (.ref a)/\∀H,yE K H a [.str x,.str y]:=⟨_,eK X G e,fun H=>.inr ⟨_,_,_,l,rfl,rfl,(by show 2<=sizeLine;decide),.cons ⟨_,rfl⟩ (.cons ⟨_,rfl⟩ .nil)⟩⟩
theorem Kf{x:Str}{t:Tok}{n:Nat}(a:aF K (.ref C) "__init__"=some (some (.ref i)))(f:gq K (.ref i)=true)(l:K.lookup i=some ⟨oc,od,.func (bC "__init__" q (vq st) (o8 st) (d9 st) (.ref dt) kV dc pm an co ct),sl⟩)(c:c9 K co q=true)(dk:K.lookup dt=some ⟨dv,dd,.seq #[.str x t] n,dl⟩)(b:∀fd:FuncData,fd=bC "__init__" q (vq st) (o8 st) (d9 st) (.ref dt) kV dc pm an co ct->(∀us:List Value,us.length=ps.length->∃z:Option (Array Value)->Sem (List (Str×Value)),bindArgs fd ⟨us,[]⟩=seqItems? fd.defaults >>=z/\z (some #[.str x t])=pure (ps.zip us))/\∀us:List Value,us.length+1=ps.length->∃z:Option (Array Value)->Sem (List (Str×Value)),bindArgs fd ⟨us,[]⟩=seqItems? fd.defaults >>=z/\z (some #[.str x t])=pure (ps.zip (us++[.str x t])))(mk:ir K C=true)(kc:aO K (.ref C)=true):qx K C q st ps [[],[.str x]]:=AW a f l c dk (fun fd e d7 h=>by
 obtain⟨b1,b2⟩:=b fd e;rcases ak.mp h with h|h
 ·rw[h];exact⟨[],.nil,fun us hl=>by rw[aJ]at hl⊢;exact b1 us hl⟩
 ·rw[au.mp h];exact⟨[.str x t],.cons ⟨_,rfl⟩ .nil,fun us hl=>b2 us (by simpa using hl)⟩) mk kc
theorem Ke{x:Int}{t:Tok}{n:Nat}(a:aF K (.ref C) "__init__"=some (some (.ref i)))(f:gq K (.ref i)=true)(l:K.lookup i=some ⟨oc,od,.func (bC "__init__" q (vq st) (o8 st) (d9 st) (.ref dt) kV dc pm an co ct),sl⟩)(c:c9 K co q=true)(dk:K.lookup dt=some ⟨dv,dd,.seq #[.int x t] n,dl⟩)(b:∀fd:FuncData,fd=bC "__init__" q (vq st) (o8 st) (d9 st) (.ref dt) kV dc pm an co ct->(∀us:List Value,us.length=ps.length->∃z:Option (Array Value)->Sem (List (Str×Value)),bindArgs fd ⟨us,[]⟩=seqItems? fd.defaults >>=z/\z (some #[.int x t])=pure (ps.zip us))/\∀us:List Value,us.length+1=ps.length->∃z:Option (Array Value)->Sem (List (Str×Value)),bindArgs fd ⟨us,[]⟩=seqItems? fd.defaults >>=z/\z (some #[.int x t])=pure (ps.zip (us++[.int x t])))(mk:ir K C=true)(kc:aO K (.ref C)=true):qx K C q st ps [[],[.int x]]:=AW a f l c dk (fun fd e d7 h=>by
 obtain⟨b1,b2⟩:=b fd e;rcases ak.mp h with h|h
 ·rw[h];exact⟨[],.nil,fun us hl=>by rw[aJ]at hl⊢;exact b1 us hl⟩
 ·rw[au.mp h];exact⟨[.int x t],.cons ⟨_,rfl⟩ .nil,fun us hl=>b2 us (by simpa using hl)⟩) mk kc
end
end L2
local macro_rules| `(tactic|walk_at"rd")=>`(tactic|(try dsimp only[L2.yi,L2.K1,L2.Qm,L2.nB,L2.wB,L2.tC,L2.rI,L2.EL,L2.rU,L2.Qa,L2.Qd,L2.EM,L2.z6,L2.rh,L2.jF,L2.Fd,L2.Ck,L2.zZ,L2.Ot,L2.Ci,L2.Dq,L2.E9,L2.Ch,L2.Hj,L2.Cn,L2.G9,L2.Qk,L2.Hi,L2.tB,L2.Qj,L2.vd,L2.Hq,L2.Hh,L2.Qi,L2.Hg,L2.ve,L2.yj,L2.Bc,L2.Cj,L2.Be,L2.Bf,L2.zL,L2.Fb,L2.uh,L2.KY,L2.yk,L2.Hl,L2.ym,L2.yc,L2.sD,L2.vf,L2.Hr,L2.Cp,L2.yn,L2.Ho,L2.Bg,L2.Eo,L2.zq,L2.Kc,L2.Es,L2.BG,L2.Et,L2.Eu,L2.AV,L2.GU,L2.Ql,L2.Co,L2.um,L2.CN,L2.wO,L2.Em,L2.A9,L2.ye,L2.yg,L2.Ga,L2.K2,mT,mS,sQ,sP,fc,ko]);try simp only[L2.yi,L2.K1,L2.Qm,L2.nB,L2.wB,L2.tC,L2.rI,L2.EL,L2.rU,L2.Qa,L2.Qd,L2.EM,L2.z6,L2.rh,L2.jF,L2.Fd,L2.Ck,L2.zZ,L2.Ot,L2.Ci,L2.Dq,L2.E9,L2.Ch,L2.Hj,L2.Cn,L2.G9,L2.Qk,L2.Hi,L2.tB,L2.Qj,L2.vd,L2.Hq,L2.Hh,L2.Qi,L2.Hg,L2.ve,L2.yj,L2.Bc,L2.Cj,L2.Be,L2.Bf,L2.zL,L2.Fb,L2.uh,L2.KY,L2.yk,L2.Hl,L2.ym,L2.yc,L2.sD,L2.vf,L2.Hr,L2.Cp,L2.yn,L2.Ho,L2.Bg,L2.Eo,L2.zq,L2.Kc,L2.Es,L2.BG,L2.Et,L2.Eu,L2.AV,L2.GU,L2.Ql,L2.Co,L2.um,L2.CN,L2.wO,L2.Em,L2.A9,L2.ye,L2.yg,mT,mS,sQ,sP,fc,ko,aJ,Ai,L2.V.int.injEq,L2.V.bl.injEq,L2.V.ref.injEq,L2.V.str.injEq,Dw,exists_eq_left',exists_eq_left,exists_eq_right,exists_and_left,exists_and_right,and_true,true_and,and_self,exists_const,exists_eq,exists_eq',and_assoc,decide_eq_true_eq,tZ,Bool.not_true,Lh,fM,Fj,if_true,if_false,decide_eq_false_iff_not,ite_not,↓reduceIte,Int.reduceLT,Int.reduceLE,Int.reducePow,Int.reduceMul,Int.reduceAdd,Int.reduceSub,Int.reduceNeg,Lj,Int.reduceEq,Int.reduceNe,L2.Ga,L2.wK,L2.qJ,L2.gD,bw,bG,Nat.reduceAdd,Nat.zero_add,L2.wJ,tF,Int.natAbs_neg,Nat.reducePow,Nat.reduceLT,JB,Ge,L2.K2,ne_eq,not_false_eq_true,not_true_eq_false])
local macro_rules| `(tactic|walk_at"rds")=>`(tactic|try simp only[L2.dW,L2.yi,L2.K1,L2.Qm,L2.nB,L2.wB,L2.tC,L2.rI,L2.EL,L2.rU,L2.Qa,L2.Qd,L2.EM,L2.z6,L2.rh,L2.jF,L2.Fd,L2.Ck,L2.zZ,L2.Ot,L2.Ci,L2.Dq,L2.E9,L2.Ch,L2.Hj,L2.Cn,L2.G9,L2.Qk,L2.Hi,L2.tB,L2.Qj,L2.vd,L2.Hq,L2.Hh,L2.Qi,L2.Hg,L2.ve,L2.yj,L2.Bc,L2.Cj,L2.Be,L2.Bf,L2.zL,L2.Fb,L2.uh,L2.KY,L2.yk,L2.Hl,L2.ym,L2.yc,L2.sD,L2.vf,L2.Hr,L2.Cp,L2.yn,L2.Ho,L2.Bg,L2.Eo,L2.zq,L2.Kc,L2.Es,L2.BG,L2.Et,L2.Eu,L2.AV,L2.GU,L2.Ql,L2.Co,L2.um,L2.CN,L2.wO,L2.Em,L2.A9,L2.ye,L2.yg,
 mT,mS,sQ,sP,fc,ko,aJ,Ai,L2.V.int.injEq,L2.V.bl.injEq,L2.V.ref.injEq,L2.V.str.injEq,Dw,exists_eq_left',exists_eq_left,exists_eq_right,exists_and_left,exists_and_right,and_true,true_and,and_self,exists_const,exists_eq,exists_eq',and_assoc,decide_eq_true_eq,tZ,Bool.not_true,Lh,fM,Fj,if_true,if_false,decide_eq_false_iff_not,ite_not,↓reduceIte,Int.reduceLT,Int.reduceLE,Int.reducePow,Int.reduceMul,Int.reduceAdd,Int.reduceSub,Int.reduceNeg,Lj,Int.reduceEq,Int.reduceNe,L2.Ga,L2.wK,L2.qJ,L2.gD,bw,bG,Nat.reduceAdd,Nat.zero_add,L2.wJ,tF,Int.natAbs_neg,Nat.reducePow,Nat.reduceLT,JB,Ge,L2.K2,ne_eq,not_false_eq_true,not_true_eq_false])
set_option hygiene false in
local macro_rules| `(tactic|walk_at"s")=>`(tactic|(refine _root_.L2.bJ fun R hR=>?_;walk_at"rd"))
namespace K64
open PySem L2 PyProof.Rows
theorem _root_.L2.FB.x9{fs d pr s pl}(h:FB fs d pr s pl)(m:Str)(h1:¬m="depth":=by decide+kernel)(h2:¬m="rate":=by decide+kernel)(h3:¬m="since":=by decide+kernel)(h4:¬m="left":=by decide+kernel):fs.lookup m=none:=h.no m h1 h2 h3 h4
theorem _root_.L2.FS.x9{fs most pm ch pr pt pg}(h:FS fs most pm ch pr pt pg)(m:Str)(h1:¬m="most":=by decide+kernel)(h2:¬m="members":=by decide+kernel)(h3:¬m="chosen":=by decide+kernel)(h4:¬m="reached":=by decide+kernel)(h5:¬m="tags":=by decide+kernel)(h6:¬m="greatest_steps":=by decide+kernel):fs.lookup m=none:=h.no m h1 h2 h3 h4 h5 h6
theorem _root_.L2.FR.x9{fs most pm ch pt pg tu}(h:FR fs most pm ch pt pg tu)(m:Str)(h1:¬m="most":=by decide+kernel)(h2:¬m="members":=by decide+kernel)(h3:¬m="chosen":=by decide+kernel)(h4:¬m="queue":=by decide+kernel)(h5:¬m="rests":=by decide+kernel)(h6:¬m="turn":=by decide+kernel):fs.lookup m=none:=h.no m h1 h2 h3 h4 h5 h6
theorem _root_.L2.FN.x9{fs ab ch rm bk ql}(h:FN fs ab ch rm bk ql)(m:Str)(h1:¬m="above":=by decide+kernel)(h2:¬m="chooser":=by decide+kernel)(h3:¬m="room":=by decide+kernel)(h4:¬m="bucket":=by decide+kernel)(h5:¬m="queue":=by decide+kernel):fs.lookup m=none:=h.no m h1 h2 h3 h4 h5
theorem nW{fs m0 pn t0 f0 c0 pg}(h:Ay fs m0 pn t0 f0 c0 pg)(m:Str)(h1:¬m="most":=by decide+kernel)(h2:¬m="nodes":=by decide+kernel)(h3:¬m="time":=by decide+kernel)(h4:¬m="free":=by decide+kernel)(h5:¬m="counted":=by decide+kernel)(h6:¬m="gone":=by decide+kernel):fs.lookup m=none:=h.P5 m h1 h2 h3 h4 h5 h6
def top(i:Nat):Stmt:=PySem.Challenge.pw_sharewheel_k64_curbs_on_one_way.main.body.getD i (.Pass ⟨0,0,0,0⟩)
abbrev ZW:Stmt:=top 15
abbrev zvt:Stmt:=top 16
abbrev zyr:Stmt:=top 17
abbrev zvu:Stmt:=top 18
abbrev zvv:Stmt:=top 19
abbrev zys:Stmt:=top 20
abbrev zvw:Stmt:=top 21
abbrev zsg:Stmt:=top 22
abbrev ZX:Stmt:=top 23
abbrev Yx:Stmt:=top 24
abbrev Yy:Stmt:=top 29
abbrev YQ:Stmt:=top 44
abbrev ZY:Stmt:=top 45
abbrev YR:Stmt:=top 46
abbrev Yl:Stmt:=top 50
abbrev Yz:Stmt:=top 51
abbrev YS:Stmt:=top 52
abbrev Zd:Stmt:=top 53
abbrev Ze:Stmt:=top 54
abbrev YT:Stmt:=top 55
abbrev Ym:Stmt:=top 56
abbrev X9:Stmt:=top 57
abbrev YA:Stmt:=top 58
abbrev qU:Stmt:=top 59
theorem gc{N P:List Str}{c:PySem.Scope}(a:c.kind=.function:=by rfl)(b:c.isCoroutine=false:=by rfl)(d:c.isGenerator=false:=by rfl)(e:N.Nodup:=by decide+kernel)(f:N.take P.length=P:=by rfl)(g:∀x∈P,c.names.lookup x=some .local\/c.names.lookup x=some .cell:=by decide+kernel)(h:∀y∈c.names,y.2≠.free:=by decide+kernel):aE N P c:=⟨a,b,d,e,f,g,h⟩
theorem jc:aE ["one","other","great","small","rest"] ["one","other"] (d9 ZW):=gc
theorem u0:aE ["top","bottom","common"] ["top","bottom"] (d9 zvt):=gc
theorem Uu:aE ["one","other"] ["one","other"] (d9 zyr):=gc
theorem zxq:aE ["one","other"] ["one","other"] (d9 zvu):=gc
theorem zxr:aE ["one","other"] ["one","other"] (d9 zvv):=gc
theorem Uv:aE ["one","other"] ["one","other"] (d9 zys):=gc
theorem zxs:aE ["one","other"] ["one","other"] (d9 zvw):=gc
theorem wX:aE ["one","other","least"] ["one","other"] (d9 zsg):=gc
theorem uZ:aE ["one","other","most"] ["one","other"] (d9 ZX):=gc
theorem zlk:aE ["one"] ["one"] (d9 Yx):=gc
theorem zll:aE ["share"] ["share"] (d9 Yy):=gc
theorem znd:aE ["most"] ["most"] (d9 YQ):=gc
theorem ztc:aE ["text"] ["text"] (d9 ZY):=gc
theorem zne:aE ["kind","most"] ["kind","most"] (d9 YR):=gc
theorem zko:aE ["_law_script","_law_k"] ["_law_script","_law_k"] (d9 Yl):=gc
theorem gK:aE ["_law_cell","_law_many","_law_found","_law_number","_law_k"] ["_law_cell","_law_many"] (d9 Yz):=gc
theorem znf:aE ["_law_curb","_law_at"] ["_law_curb","_law_at"] (d9 YS):=gc
theorem qW:aE ["_law_curbs","_law_at","_law_length","_law_curb"] ["_law_curbs","_law_at","_law_length"] (d9 Zd):=gc
theorem gU:aE ["_law_curbs","_law_at","_law_length","_law_curb","_law_went","_law_start","_law_piece"] ["_law_curbs","_law_at","_law_length"] (d9 Ze):=gc
theorem eY:aE ["_law_tree","_law_world","_law_curbs","_law_at","_law_known","_law_soonest","_law_queue","_law_start","_law_number","_law_leaf","_law_length"] ["_law_tree","_law_world","_law_curbs","_law_at"] (d9 YT):=gc
theorem zkp:aE ["_law_tree","_law_name","_law_xs"] ["_law_tree","_law_name","_law_xs"] (d9 Ym):=gc
theorem gT:aE ["_law_tree","_law_curbs","_law_name","_law_xs","_law_depth","_law_rate"] ["_law_tree","_law_curbs","_law_name","_law_xs"] (d9 X9):=gc
theorem kh:aE ["_law_tree","_law_world","_law_xs","_law_k","_law_length"] ["_law_tree","_law_world","_law_xs"] (d9 YA):=gc
theorem jd:aE ["_law_script","_law_cell","_law_tree","_law_names","_law_above","_law_name","_law_world","_law_curbs","_law_xs","_law_gap"] ["_law_script"] (d9 qU):=gc
abbrev YU:Stmt:=iC (top 13) 0
theorem zng:aE ["self","missing"] ["self","missing"] (d9 YU):=gc
abbrev YB:Stmt:=iC (top 26) 0
theorem zlm:aE ["self","depth","rate","start"] ["self","depth","rate","start"] (d9 YB):=gc
abbrev Yn:Stmt:=iC (top 26) 1
theorem mJ:aE ["self","at","grown"] ["self","at"] (d9 Yn):=gc
abbrev Yo:Stmt:=iC (top 26) 2
theorem zkq:aE ["self","at","length"] ["self","at","length"] (d9 Yo):=gc
abbrev YV:Stmt:=iC (top 26) 3
theorem o6:aE ["self","at","length","rest"] ["self","at","length"] (d9 YV):=gc
abbrev YC:Stmt:=iC (top 26) 4
theorem nN:aE ["self","at","length","missing"] ["self","at","length"] (d9 YC):=gc
abbrev Yp:Stmt:=iC (top 30) 0
theorem zkr:aE ["self"] ["self"] (d9 Yp):=gc
abbrev XE:Stmt:=iC (top 30) 1
theorem zew:aE ["self","name"] ["self","name"] (d9 XE):=gc
abbrev YD:Stmt:=iC (top 30) 2
theorem zln:aE ["self","name","share"] ["self","name","share"] (d9 YD):=gc
abbrev Yb:Stmt:=iC (top 30) 5
theorem zji:aE ["self"] ["self"] (d9 Yb):=gc
abbrev XN:Stmt:=iC (top 30) 6
theorem zgd:aE ["self","name"] ["self","name"] (d9 XN):=gc
abbrev YE:Stmt:=iC (top 33) 0
theorem zlo:aE ["self","most"] ["self","most"] (d9 YE):=gc
abbrev Yq:Stmt:=iC (top 33) 1
theorem zks:aE ["self","name"] ["self","name"] (d9 Yq):=gc
abbrev YF:Stmt:=iC (top 33) 4
theorem iP:aE ["self","ready","first","name"] ["self","ready"] (d9 YF):=gc
abbrev Yd:Stmt:=iC (top 33) 5
theorem lR:aE ["self","name","length","step"] ["self","name","length"] (d9 Yd):=gc
abbrev Ye:Stmt:=iC (top 33) 7
theorem zjj:aE ["self","name"] ["self","name"] (d9 Ye):=gc
abbrev XG:Stmt:=iC (top 32) 0
theorem zfk:aE ["self","most"] ["self","most"] (d9 XG):=gc
abbrev YW:Stmt:=iC (top 32) 1
theorem znh:aE ["self","name","share"] ["self","name","share"] (d9 YW):=gc
abbrev Yr:Stmt:=iC (top 32) 4
theorem zkt:aE ["self"] ["self"] (d9 Yr):=gc
abbrev XX:Stmt:=iC (top 32) 5
theorem zhj:aE ["self","name"] ["self","name"] (d9 XX):=gc
abbrev Yg:Stmt:=iC (top 32) 7
theorem lS:aE ["self","ready","name"] ["self","ready"] (d9 Yg):=gc
abbrev YX:Stmt:=iC (top 32) 8
theorem zni:aE ["self","length"] ["self","length"] (d9 YX):=gc
abbrev YG:Stmt:=iC (top 34) 0
theorem zlp:aE ["self","most"] ["self","most"] (d9 YG):=gc
abbrev Ys:Stmt:=iC (top 34) 1
theorem zku:aE ["self","name"] ["self","name"] (d9 Ys):=gc
abbrev XO:Stmt:=iC (top 34) 3
theorem zge:aE ["self","name"] ["self","name"] (d9 XO):=gc
abbrev YH:Stmt:=iC (top 34) 5
theorem zlq:aE ["self","ready"] ["self","ready"] (d9 YH):=gc
abbrev XY:Stmt:=iC (top 34) 6
theorem zhm:aE ["self"] ["self"] (d9 XY):=gc
abbrev XI:Stmt:=iC (top 34) 7
theorem jr:aE ["self","ready","name"] ["self","ready"] (d9 XI):=gc
abbrev Yh:Stmt:=iC (top 34) 8
theorem zjk:aE ["self","name","length"] ["self","name","length"] (d9 Yh):=gc
abbrev XJ:Stmt:=iC (top 32) 0
theorem zfl:aE ["self","most"] ["self","most"] (d9 XJ):=gc
abbrev YY:Stmt:=iC (top 32) 1
theorem znj:aE ["self","name","share"] ["self","name","share"] (d9 YY):=gc
abbrev Yt:Stmt:=iC (top 32) 4
theorem zkv:aE ["self"] ["self"] (d9 Yt):=gc
abbrev XZ:Stmt:=iC (top 32) 5
theorem zhn:aE ["self","name"] ["self","name"] (d9 XZ):=gc
abbrev Yi:Stmt:=iC (top 32) 7
theorem lQ:aE ["self","ready","name"] ["self","ready"] (d9 Yi):=gc
abbrev YZ:Stmt:=iC (top 32) 8
theorem znk:aE ["self","length"] ["self","length"] (d9 YZ):=gc
abbrev Zf:Stmt:=iC (top 47) 0
theorem zpk:aE ["self","above","chooser","room"] ["self","above","chooser","room"] (d9 Zf):=gc
abbrev XM:Stmt:=iC (top 47) 2
theorem zfm:aE ["self","length"] ["self","length"] (d9 XM):=gc
abbrev YI:Stmt:=iC (top 47) 3
theorem zlr:aE ["self","at","length"] ["self","at","length"] (d9 YI):=gc
abbrev Zg:Stmt:=iC (top 48) 0
theorem zpl:aE ["self","most","kind"] ["self","most","kind"] (d9 Zg):=gc
abbrev XQ:Stmt:=iC (top 48) 1
theorem zgf:aE ["self","name"] ["self","name"] (d9 XQ):=gc
abbrev X0:Stmt:=iC (top 48) 2
theorem zhp:aE ["self","name"] ["self","name"] (d9 X0):=gc
abbrev XR:Stmt:=iC (top 48) 3
theorem zgg:aE ["self","under","kind"] ["self","under","kind"] (d9 XR):=gc
abbrev Zt:Stmt:=iC (top 48) 4
theorem zqq:aE ["self","name","under","kind","share","room"] ["self","name","under","kind","share","room"] (d9 Zt):=gc
abbrev Zh:Stmt:=iC (top 48) 7
theorem zpm:aE ["self","name","depth","rate"] ["self","name","depth","rate"] (d9 Zh):=gc
abbrev YJ:Stmt:=iC (top 48) 8
theorem zls:aE ["self","name"] ["self","name"] (d9 YJ):=gc
abbrev YK:Stmt:=iC (top 48) 9
theorem zlt:aE ["self","name"] ["self","name"] (d9 YK):=gc
abbrev Zi:Stmt:=iC (top 48) 10
theorem qV:aE ["self","name","length","number"] ["self","name","length"] (d9 Zi):=gc
abbrev Y0:Stmt:=iC (top 48) 11
theorem k8:aE ["self","at","start"] ["self","at"] (d9 Y0):=gc
abbrev Zu:Stmt:=iC (top 48) 12
theorem zqr:aE ["self"] ["self"] (d9 Zu):=gc
abbrev YL:Stmt:=iC (top 48) 13
theorem zlu:aE ["self"] ["self"] (d9 YL):=gc
abbrev Yu:Stmt:=iC (top 48) 14
theorem zla:aE ["self","name"] ["self","name"] (d9 Yu):=gc
abbrev ztd:Stmt:=iC (top 48) 15
abbrev zpn:Stmt:=iC (top 48) 16
abbrev X5:Stmt:=iC (top 48) 21
theorem iQ:aE ["self","name","names"] ["self","name"] (d9 X5):=gc
abbrev XS:Stmt:=iC (top 48) 22
theorem zgh:aE ["self"] ["self"] (d9 XS):=gc
abbrev X6:Stmt:=iC (top 48) 23
theorem iR:aE ["self","name","at","length","buckets"] ["self","name","at"] (d9 X6):=gc
abbrev Yj:Stmt:=iC (top 48) 24
theorem gS:aE ["self","at","ready","name","one"] ["self","at"] (d9 Yj):=gc
abbrev XT:Stmt:=iC (top 48) 25
theorem jN:aE ["self","at"] ["self"] (d9 XT):=gc
abbrev XU:Stmt:=iC (top 48) 26
theorem fD:aE ["self","at","ready","name","chooser"] ["self","at"] (d9 XU):=gc
abbrev X3:Stmt:=iC (top 48) 27
theorem ie:aE ["self","name","at","first","one"] ["self","name","at"] (d9 X3):=gc
structure Txt(K:aa)(mg:Str->Option Value)(dB:Addr)(cJ:Addr)(cY:Addr)(cG:Addr)(cK:Addr)(cO:Addr)(cH:Addr)(cI:Addr)(cZ:Addr)(cU:Addr)(cW:Addr)(cA:Addr)(cF:Addr)(cD:Addr)(cX:Addr)(cV:Addr)(cQ:Addr)(dA:Addr):Prop where
 FU:mg "WheelError"=some (.ref dB)
 F1:XC K dB
 FQ:aO K (.ref dB)=true
 FF:bS K dB qy "ValueError.__new__"=true
 C5:mg "NoName"=some (.ref cJ)
 Dr:XC K cJ
 CY:aO K (.ref cJ)=true
 CL:bS K cJ qy "ValueError.__new__"=true
 zA:mg "Taken"=some (.ref cY)
 z7:XC K cY
 zu:aO K (.ref cY)=true
 yZ:bS K cY qy "ValueError.__new__"=true
 pQ:mg "NoClass"=some (.ref cG)
 mE:XC K cG
 pJ:aO K (.ref cG)=true
 pH:bS K cG qy "ValueError.__new__"=true
 j6:mg "NoPlace"=some (.ref cK)
 ki:XC K cK
 j5:aO K (.ref cK)=true
 j2:bS K cK qy "ValueError.__new__"=true
 A0:mg "NoShare"=some (.ref cO)
 vn:XC K cO
 AY:aO K (.ref cO)=true
 AK:bS K cO qy "ValueError.__new__"=true
 lO:mg "NoCurb"=some (.ref cH)
 jU:XC K cH
 nV:aO K (.ref cH)=true
 nU:bS K cH qy "ValueError.__new__"=true
 nH:mg "NoLength"=some (.ref cI)
 jt:XC K cI
 nD:aO K (.ref cI)=true
 nA:bS K cI qy "ValueError.__new__"=true
 zB:mg "TooEarly"=some (.ref cZ)
 z9:XC K cZ
 zv:aO K (.ref cZ)=true
 y9:bS K cZ qy "ValueError.__new__"=true
 qQ:mg "NoneReady"=some (.ref cU)
 rB:XC K cU
 qI:aO K (.ref cU)=true
 qA:bS K cU qy "ValueError.__new__"=true
 EB:mg "Short"=some (.ref cW)
 vo:XC K cW
 Ew:aO K (.ref cW)=true
 Ev:Gr K cW "Short.__init__" YU ["self","missing"]
 sF:iu K cW "missing"=some none
 CM:aF K (.ref cW) "missing"=some none
 qZ:xJ K (.ref cH) (.ref cH)=some true
 ED:mg "abs"=none
 Kn:mg "all"=none
 uV:mg "len"=none
 zC:mg "range"=none
 x8:mg "min"=none
 zE:mg "reversed"=none
 A1:mg "max"=none
 G4:mg "list"=none
 Ko:mg "sum"=none
 qP:∃t,mg "GREATEST_SHARE"=some (.int 1000000 t)
 pP:∃t,mg "GREATEST_LENGTH"=some (.int 1000000 t)
 AZ:∃t,mg "LETTERS"=some (.str (Str.ofString "abcdefghijklmnopqrstuvwxyz") t)
 tU:∃t,mg "LONGEST_NAME"=some (.int 8 t)
 xZ:∃t,mg "ROAD"=some (.str (Str.ofString "road") t)
 nG:∃a,mg "INNER_KINDS"=some (.ref a)/\∀H,yE K H a [.str (Str.ofString "starts"),.str (Str.ofString "rounds")]
 uS:∃t,mg "LONGEST_WAY"=some (.int 5 t)
 BH:∃t,mg "LEAF"=some (.str (Str.ofString "leaf") t)
 qO:∃t,mg "GREATEST_DEPTH"=some (.int 1000000000000 t)
 zU:rF K mg "divisor" ZW ["one","other"]
 Dj:rF K mg "ratio" zvt ["top","bottom"]
 E7:rF K mg "plus" zyr ["one","other"]
 Dh:rF K mg "minus" zvu ["one","other"]
 Dl:rF K mg "times" zvv ["one","other"]
 E6:rF K mg "over" zys ["one","other"]
 Dm:rF K mg "under" zvw ["one","other"]
 Ba:rF K mg "lesser" zsg ["one","other"]
 zV:rF K mg "greater" ZX ["one","other"]
 tY:rF K mg "whole_above" Yx ["one"]
 tX:rF K mg "check_share" Yy ["share"]
 u9:rF K mg "check_most" YQ ["most"]
 zW:rF K mg "is_name" ZY ["text"]
 vc:rF K mg "chooser_of" YR ["kind","most"]
 su:rF K mg "_law_cell_at" Yl ["_law_script","_law_k"]
 tW:rF K mg "_law_stream" Yz ["_law_cell","_law_many"]
 u7:rF K mg "_law_level" YS ["_law_curb","_law_at"]
 wz:rF K mg "_law_hold" Zd ["_law_curbs","_law_at","_law_length"]
 wA:rF K mg "_law_paid" Ze ["_law_curbs","_law_at","_law_length"]
 u8:rF K mg "_law_until" YT ["_law_tree","_law_world","_law_curbs","_law_at"]
 sA:rF K mg "_law_no_curb" Ym ["_law_tree","_law_name","_law_xs"]
 qY:rF K mg "_law_new_curb" X9 ["_law_tree","_law_curbs","_law_name","_law_xs"]
 tV:rF K mg "_law_pieces" YA ["_law_tree","_law_world","_law_xs"]
 C0:mg "Bucket"=some (.ref cA)
 dX:xw K cA
 jB:dH K cA "depth"
 iN:dH K cA "rate"
 jC:dH K cA "since"
 j7:dH K cA "left"
 CT:qx K cA "Bucket.__init__" YB ["self","depth","rate","start"] [[],[V.int 0]]
 tO:eR K cA "level" "Bucket.level" Yn ["self","at"] [[]]
 tN:eR K cA "holds" "Bucket.holds" Yo ["self","at","length"] [[]]
 wc:eR K cA "pay" "Bucket.pay" YV ["self","at","length"] [[]]
 uI:eR K cA "when" "Bucket.when" YC ["self","at","length"] [[]]
 uT:mg "Members"=some (.ref cF)
 d8:xw K cF
 fh:dH K cF "shares"
 AX:qx K cF "Members.__init__" Yp ["self"] [[]]
 mQ:eR K cF "check_name" "Members.check_name" XE ["self","name"] [[]]
 uJ:eR K cF "put" "Members.put" YD ["self","name","share"] [[]]
 rV:eR K cF "names" "Members.names" Yb ["self"] [[]]
 oG:eR K cF "share_of" "Members.share_of" XN ["self","name"] [[]]
 uR:mg "Chooser"=some (.ref cD)
 C7:mg "Starts"=some (.ref cX)
 bA:xw K cX
 gE:dH K cX "reached"
 iO:dH K cX "tags"
 eX:dH K cX "greatest_steps"
 uU:dH K cX "most"
 fj:dH K cX "members"
 gP:dH K cX "chosen"
 CV:qx K cX "Starts.__init__" YE ["self","most"] [[]]
 tR:eR K cX "enter" "Starts.enter" Yq ["self","name"] [[]]
 uM:eR K cX "pick" "Starts.pick" YF ["self","ready"] [[]]
 rY:eR K cX "charge" "Starts.charge" Yd ["self","name","length"] [[]]
 r6:eR K cX "stands" "Starts.stands" Ye ["self","name"] [[]]
 nQ:Ec K cD "__init__" "Chooser.__init__" XG ["self","most"]
 wm:eR K cX "put" "Chooser.put" YW ["self","name","share"] [[]]
 tS:eR K cX "names" "Chooser.names" Yr ["self"] [[]]
 pM:eR K cX "share_of" "Chooser.share_of" XX ["self","name"] [[]]
 rZ:eR K cX "choose" "Chooser.choose" Yg ["self","ready"] [[]]
 wk:eR K cX "pay" "Chooser.pay" YX ["self","length"] [[]]
 C6:mg "Rounds"=some (.ref cV)
 aR:xw K cV
 gy:dH K cV "queue"
 eo:dH K cV "rests"
 ee:dH K cV "turn"
 nI:dH K cV "most"
 fQ:dH K cV "members"
 gO:dH K cV "chosen"
 CU:qx K cV "Rounds.__init__" YG ["self","most"] [[]]
 tP:eR K cV "enter" "Rounds.enter" Ys ["self","name"] [[]]
 oH:eR K cV "full_rest" "Rounds.full_rest" XO ["self","name"] [[]]
 uL:eR K cV "pick" "Rounds.pick" YH ["self","ready"] [[]]
 pK:eR K cV "end_turn" "Rounds.end_turn" XY ["self"] [[]]
 nF:eR K cV "begin_turn" "Rounds.begin_turn" XI ["self","ready"] [[]]
 rW:eR K cV "charge" "Rounds.charge" Yh ["self","name","length"] [[]]
 nP:Ec K cD "__init__" "Chooser.__init__" XJ ["self","most"]
 wj:eR K cV "put" "Chooser.put" YY ["self","name","share"] [[]]
 tQ:eR K cV "names" "Chooser.names" Yt ["self"] [[]]
 pL:eR K cV "share_of" "Chooser.share_of" XZ ["self","name"] [[]]
 rX:eR K cV "choose" "Chooser.choose" Yi ["self","ready"] [[]]
 wg:eR K cV "pay" "Chooser.pay" YZ ["self","length"] [[]]
 BI:mg "Node"=some (.ref cQ)
 dh:xw K cQ
 oZ:dH K cQ "above"
 dI:dH K cQ "chooser"
 mq:dH K cQ "room"
 fG:dH K cQ "bucket"
 fS:dH K cQ "queue"
 GW:qx K cQ "Node.__init__" Zf ["self","above","chooser","room"] [[],[V.cy]]
 nE:eR K cQ "has_room_for" "Node.has_room_for" XM ["self","length"] [[]]
 uK:eR K cQ "charge" "Node.charge" YI ["self","at","length"] [[]]
 G1:mg "Tree"=some (.ref dA)
 aH:xw K dA
 eA:dH K dA "most"
 bq:dH K dA "nodes"
 gQ:dH K dA "time"
 mw:dH K dA "free"
 jD:dH K dA "counted"
 mC:dH K dA "gone"
 GX:qx K dA "Tree.__init__" Zg ["self","most","kind"] [[],[V.str (Str.ofString "starts")]]
 oJ:eR K dA "check_class" "Tree.check_class" XQ ["self","name"] [[]]
 pN:eR K dA "check_leaf" "Tree.check_leaf" X0 ["self","name"] [[]]
 oK:eR K dA "check_place" "Tree.check_place" XR ["self","under","kind"] [[]]
 zz:eR K dA "put" "Tree.put" Zt ["self","name","under","kind","share","room"] [[],[V.cy]]
 xY:eR K dA "curb" "Tree.curb" Zh ["self","name","depth","rate"] [[]]
 uP:eR K dA "uncurb" "Tree.uncurb" YJ ["self","name"] [[]]
 uN:eR K dA "curbed" "Tree.curbed" YK ["self","name"] [[]]
 xX:eR K dA "come" "Tree.come" Zi ["self","name","length"] [[]]
 wo:eR K dA "until" "Tree.until" Y0 ["self","at"] [[]]
 zy:eR K dA "now" "Tree.now" Zu ["self"] [[]]
 uO:eR K dA "goings" "Tree.goings" YL ["self"] [[]]
 tT:eR K dA "waiting" "Tree.waiting" Yu ["self","name"] [[]]
 Im:eR K dA "way" "Tree.way" ztd ["self","name"] [[]]
 FT:eR K dA "below" "Tree.below" zpn ["self","name"] [[]]
 qK:eR K dA "from_road" "Tree.from_road" X5 ["self","name"] [[]]
 oM:eR K dA "full_leaves" "Tree.full_leaves" XS ["self"] [[]]
 qL:eR K dA "leaf_time" "Tree.leaf_time" X6 ["self","name","at"] [[]]
 r8:eR K dA "ready_at" "Tree.ready_at" Yj ["self","at"] [[]]
 oO:eR K dA "next_choice" "Tree.next_choice" XT ["self"] [[]]
 oN:eR K dA "make_choice" "Tree.make_choice" XU ["self","at"] [[]]
 pO:eR K dA "send_first" "Tree.send_first" X3 ["self","name","at"] [[]]
section
variable{P:Program}{w:World}{K:aa}{mg:Str->Option Value}{base:Heap}{dB cJ cY cG cK cO cH cI cZ cU cW cA cF cD cX cV cQ dA:Addr}
variable(P w base)
variable(T:Txt K mg dB cJ cY cG cK cO cH cI cZ cU cW cA cF cD cX cV cQ dA)
local macro_rules| `(tactic|walk_at"rdc")=>`(tactic|(walk_at"rd";(try simp only[L2.KW,L2.IV]);walk_at"rd"))
include T in
theorem zvx:sM P w K mg base (fJ P w) 1 "divisor" ["one","other"] (ye Sw.dv):=by
 refine T.zU.okN (k:=0) jc (fun vs H Q E h=>?_) (fun f dF A outer s H vs Q E hr h=>?_)
 ·obtain⟨a,b,rfl,_⟩:=h;rfl
 ·obtain⟨a,b,rfl,k⟩:=h;refine⟨_,(dJ (ju (i:=2) jc.nd rfl (Ct Z5 rfl T.ED boot_abs (aS (pv 0) bP))) (dJ (ju (i:=3) jc.nd rfl (Ct Z5 rfl T.ED boot_abs (aS (pv 1) bP))) (dJ (QA PassesOwn.never (jG zH (pv 3) bU (jH _)) (dJ (ju (i:=4) jc.nd rfl (aT rC (pv 2) (pv 3))) (dJ (ju (i:=2) jc.nd rfl (pv 3)) (dD (ju (i:=3) jc.nd rfl (pv 4)))))) (dD (gZ (pv 2)))))),?_⟩;refine⟨_,rfl,a,rfl,?_⟩;refine⟨_,rfl,b,rfl,?_⟩;refine zud (fun σ H'=>H'=H/\∃g s r,σ=[some (.int a),some (.int b),some (.int g),some (.int s),r]/\0<=g/\0<=s/\Sw.dv g s=Sw.dv a b)
   (fun σ _=>match σ with|[_,_,_,some (.int s),_]=>s.toNat|_=>0) ⟨rfl,_,_,none,rfl,?_,?_,Sw.JM a b⟩ ?_
  ·split <;> omega
  ·split <;> omega
  ·rintro σ H' ⟨rfl,g,s,r,rfl,hg,hs,e⟩;refine⟨!decide (V.int s=V.int 0),fun Q hQ=>⟨_,rfl,rfl,_,rfl,hQ⟩,fun hb=>?_,fun hb=>?_⟩
   ·have PL:s≠0:=by intro z;subst z;simp at hb
    have rT:0<s:=by omega
    refine⟨_,rfl,_,rfl,_,_,rfl,rfl,rT,?_⟩;refine⟨_,rfl,?_⟩;refine⟨_,rfl,?_⟩;refine⟨⟨rfl,s,g % s,_,rfl,hs,aW g PL,by rw[Sw.Gx];exact e⟩,?_⟩;show(g % s).toNat<s.toNat;have:=aN g rT;have:=aW g PL;omega
   ·have PL:s=0:=by
     have:V.int s=V.int 0:=by simpa using hb
     exact V.int.inj this
    subst PL;rw[Sw.Gy g hg]at e;refine⟨_,rfl,?_⟩;show Q (.int g) H';rw[e];exact k
inductive IP(vs:List V)(H:Hp)(Q:VK)(E:XK):Prop|mk (t b z:_) (h1:vs=[.int t,.int b]) (h2:z<=5000) (h3:Sw.Sz z b) (h4:(b≠0->∀p,H p=none->Q (.ref p) (upd H p (.tup (fq ((t:Rat) / (b:Rat))))))) (h5:(b=0->False)):IP vs H Q E
include T in
theorem Jj:sM P w K mg base (fJ P w) 2 "ratio" ["top","bottom"] IP:=by
 have Cy:=zvx P w base T;refine T.Dj.okN (k:=1) u0 (fun vs H Q E h=>?_) (fun f dF A outer s H vs Q E hr h=>?_)
 ·obtain⟨t,b,z,rfl,_⟩:=h;rfl
 ·obtain⟨t,b,z,rfl,z5,sb,k,hb⟩:=h;refine⟨_,(dJ (dw (jG o4 (pv 1) bU (jH _)) (dD zwi) jP) (dJ (ju (i:=2) u0.nd rfl (kB Cy (hr.mono (by decide)) rfl bj (aS (pv 0) (aS (pv 1) bP)))) (dJ (dw (jG nJ (pv 1) bU (jH _)) (dD (ju (i:=2) u0.nd rfl (BN QS (pv 2)))) jP) (dD (gZ (yt (aS (aT Z9 (pv 0) (pv 2)) (aS (aT Z9 (pv 1) (pv 2)) bP)))))))),?_⟩;show dW _ _ _ [some (.int t),some (.int b),none] H;walk_at"s";refine SV hb (hR _ _ ?_);have k:=k hb;rw[<-Vd hb]at k;have hg:0<Sw.dv t b:=Sw.Eg hb;have hz:Sw.Sz 5000 (Sw.dv t b):=(sb.dvd (Sw.tM t b) hb).mono z5;walk_at"s";refine hR _ _ ?_;refine bJ fun R hR=>?_;have fin:∀c:Int,(c=Sw.dv t b/\¬b<0)\/(c= -(Sw.dv t b)/\b<0)->R [some (.int t),some (.int b),some (.int c)] H:=fun c hc=>by
   refine hR _ _ ?_;walk_at"rd";have c0:c≠0:=by rcases hc with⟨e,_⟩ |⟨e,_⟩ <;> omega
   have cz:Sw.Sz 5000 c:=by
    rcases hc with⟨e,_⟩ |⟨e,_⟩
    ·rw[e];exact hz
    ·rw[e];exact hz.neg
   have d1:c∣t:=by
    rcases hc with⟨e,_⟩ |⟨e,_⟩
    ·rw[e];exact Sw.xO t b
    ·rw[e];exact wE.mpr (Sw.xO t b)
   have d2:c∣b:=by
    rcases hc with⟨e,_⟩ |⟨e,_⟩
    ·rw[e];exact Sw.tM t b
    ·rw[e];exact wE.mpr (Sw.tM t b)
   have e1:t.fdiv c=Sw.rN t b:=by
    rw[Bo d1];unfold Sw.rN;rcases hc with⟨e,q⟩ |⟨e,q⟩
    ·rw[if_neg q,e]
    ·rw[if_pos q,e]
   have e2:b.fdiv c=Sw.rD t b:=by
    rw[Bo d2];unfold Sw.rD;rcases hc with⟨e,q⟩ |⟨e,q⟩
    ·rw[if_neg q,e]
    ·rw[if_pos q,e]
   rw[e1,e2];exact⟨⟨c0,cz⟩,⟨c0,cz⟩,k⟩
  simp only[L2.dW];walk_at"rd";exact fE (fun c=>fin _ (.inr ⟨rfl,c⟩)) fun c=>fin _ (.inl ⟨rfl,c⟩)
inductive EX(vs:List V)(H:Hp)(Q:VK)(E:XK):Prop|mk (p q a b z:_) (h1:vs=[.ref p,.ref q]) (h2:H p=some (.tup (fq a))) (h3:H q=some (.tup (fq b))) (h4:z<=2500) (h5:Sw.fP z a) (h6:Sw.fP z b) (h7:∀r,H r=none->Q (.ref r) (upd H r (.tup (fq (a+b))))):EX vs H Q E
include T in
theorem zyt:sM P w K mg base (fJ P w) 3 "plus" ["one","other"] EX:=by
 have fW:=Jj P w base T;refine T.E7.okN (k:=2) Uu (fun vs H Q E h=>?_) (fun f dF A outer s H vs Q E hr h=>?_)
 ·obtain⟨p,q,a,b,z,rfl,_⟩:=h;rfl
 ·obtain⟨p,q,a,b,z,rfl,hp,hq,hz,s1,s2,k⟩:=h;refine⟨_,(dD (gZ (kB fW (hr.mono (by decide)) rfl bj (aS (aT sJ (aT sY (bu (lE K rfl) (pv 0) bU (fun _ _=>rfl)) (bu (lE K rfl) (pv 1) bU (fun _ _=>rfl))) (aT sY (bu (lE K rfl) (pv 1) bU (fun _ _=>rfl)) (bu (lE K rfl) (pv 0) bU (fun _ _=>rfl)))) (aS (aT sY (bu (lE K rfl) (pv 0) bU (fun _ _=>rfl)) (bu (lE K rfl) (pv 1) bU (fun _ _=>rfl))) bP))))),?_⟩;show jF _ _ [some (.ref p),some (.ref q)] H;have JR:=fX (Sw.bQ a) (Sw.bQ b);walk_at"rd";refine lG (.of hp) rfl (lG (.of hq) rfl ?_);walk_at"rd";refine⟨⟨s1.n.mono (by omega),s2.d.mono (by omega)⟩,lG (.of hq) rfl (lG (.of hp) rfl ?_)⟩;walk_at"rd";refine⟨⟨s2.n.mono (by omega),s1.d.mono (by omega)⟩,lG (.of hp) rfl (lG (.of hq) rfl ?_)⟩;walk_at"rd";refine⟨⟨s1.d.mono (by omega),s2.d.mono (by omega)⟩,_,_,z+z,rfl,by omega,s1.d.mul s2.d,fun _=>?_,fun z=>absurd z JR⟩;rw[Sw.HS];exact k
inductive BX(vs:List V)(H:Hp)(Q:VK)(E:XK):Prop|mk (p q a b z:_) (h1:vs=[.ref p,.ref q]) (h2:H p=some (.tup (fq a))) (h3:H q=some (.tup (fq b))) (h4:z<=2400) (h5:Sw.fP z a) (h6:Sw.fP z b) (h7:∀r,H r=none->Q (.ref r) (upd H r (.tup (fq (a-b))))):BX vs H Q E
include T in
theorem zvy:sM P w K mg base (fJ P w) 3 "minus" ["one","other"] BX:=by
 have fW:=Jj P w base T;refine T.Dh.okN (k:=2) zxq (fun vs H Q E h=>?_) (fun f dF A outer s H vs Q E hr h=>?_)
 ·obtain⟨p,q,a,b,z,rfl,_⟩:=h;rfl
 ·obtain⟨p,q,a,b,z,rfl,hp,hq,hz,s1,s2,k⟩:=h;refine⟨_,(dD (gZ (kB fW (hr.mono (by decide)) rfl bj (aS (aT Ff (aT sY (bu (lE K rfl) (pv 0) bU (fun _ _=>rfl)) (bu (lE K rfl) (pv 1) bU (fun _ _=>rfl))) (aT sY (bu (lE K rfl) (pv 1) bU (fun _ _=>rfl)) (bu (lE K rfl) (pv 0) bU (fun _ _=>rfl)))) (aS (aT sY (bu (lE K rfl) (pv 0) bU (fun _ _=>rfl)) (bu (lE K rfl) (pv 1) bU (fun _ _=>rfl))) bP))))),?_⟩;show jF _ _ [some (.ref p),some (.ref q)] H;have JR:=fX (Sw.bQ a) (Sw.bQ b);walk_at"rd";refine lG (.of hp) rfl (lG (.of hq) rfl ?_);walk_at"rd";refine⟨⟨s1.n.mono (by omega),s2.d.mono (by omega)⟩,lG (.of hq) rfl (lG (.of hp) rfl ?_)⟩;walk_at"rd";refine⟨⟨s2.n.mono (by omega),s1.d.mono (by omega)⟩,lG (.of hp) rfl (lG (.of hq) rfl ?_)⟩;walk_at"rd";refine⟨⟨s1.d.mono (by omega),s2.d.mono (by omega)⟩,_,_,z+z,rfl,by omega,s1.d.mul s2.d,fun _=>?_,fun z=>absurd z JR⟩;rw[Sw.IU];exact k
inductive Cf(vs:List V)(H:Hp)(Q:VK)(E:XK):Prop|mk (p q a b z:_) (h1:vs=[.ref p,.ref q]) (h2:H p=some (.tup (fq a))) (h3:H q=some (.tup (fq b))) (h4:z<=2400) (h5:Sw.fP z a) (h6:Sw.fP z b) (h7:∀r,H r=none->Q (.ref r) (upd H r (.tup (fq (a*b))))):Cf vs H Q E
include T in
theorem Uw:sM P w K mg base (fJ P w) 3 "times" ["one","other"] Cf:=by
 have fW:=Jj P w base T;refine T.Dl.okN (k:=2) zxr (fun vs H Q E h=>?_) (fun f dF A outer s H vs Q E hr h=>?_)
 ·obtain⟨p,q,a,b,z,rfl,_⟩:=h;rfl
 ·obtain⟨p,q,a,b,z,rfl,hp,hq,hz,s1,s2,k⟩:=h;refine⟨_,(dD (gZ (kB fW (hr.mono (by decide)) rfl bj (aS (aT sY (bu (lE K rfl) (pv 0) bU (fun _ _=>rfl)) (bu (lE K rfl) (pv 1) bU (fun _ _=>rfl))) (aS (aT sY (bu (lE K rfl) (pv 0) bU (fun _ _=>rfl)) (bu (lE K rfl) (pv 1) bU (fun _ _=>rfl))) bP))))),?_⟩;show jF _ _ [some (.ref p),some (.ref q)] H;have JR:=fX (Sw.bQ a) (Sw.bQ b);walk_at"rd";refine lG (.of hp) rfl (lG (.of hq) rfl ?_);walk_at"rd";refine⟨⟨s1.n.mono (by omega),s2.n.mono (by omega)⟩,lG (.of hp) rfl (lG (.of hq) rfl ?_)⟩;walk_at"rd";refine⟨⟨s1.d.mono (by omega),s2.d.mono (by omega)⟩,_,_,z+z,rfl,by omega,s1.d.mul s2.d,fun _=>?_,fun z=>absurd z JR⟩;rw[Sw.Io];exact k
inductive ET(vs:List V)(H:Hp)(Q:VK)(E:XK):Prop|mk (p q a b z:_) (h1:vs=[.ref p,.ref q]) (h2:H p=some (.tup (fq a))) (h3:H q=some (.tup (fq b))) (h4:z<=2400) (h5:Sw.fP z a) (h6:Sw.fP z b) (h7:b≠0) (h8:∀r,H r=none->Q (.ref r) (upd H r (.tup (fq (a / b))))):ET vs H Q E
include T in
theorem Vq:sM P w K mg base (fJ P w) 3 "over" ["one","other"] ET:=by
 have fW:=Jj P w base T;refine T.E6.okN (k:=2) Uv (fun vs H Q E h=>?_) (fun f dF A outer s H vs Q E hr h=>?_)
 ·obtain⟨p,q,a,b,z,rfl,_⟩:=h;rfl
 ·obtain⟨p,q,a,b,z,rfl,hp,hq,hz,s1,s2,hb,k⟩:=h;refine⟨_,(dD (gZ (kB fW (hr.mono (by decide)) rfl bj (aS (aT sY (bu (lE K rfl) (pv 0) bU (fun _ _=>rfl)) (bu (lE K rfl) (pv 1) bU (fun _ _=>rfl))) (aS (aT sY (bu (lE K rfl) (pv 0) bU (fun _ _=>rfl)) (bu (lE K rfl) (pv 1) bU (fun _ _=>rfl))) bP))))),?_⟩;show jF _ _ [some (.ref p),some (.ref q)] H;have hn:=Sw.EK hb;have JR:=fX (Sw.bQ a) hn;walk_at"rd";refine lG (.of hp) rfl (lG (.of hq) rfl ?_);walk_at"rd";refine⟨⟨s1.n.mono (by omega),s2.d.mono (by omega)⟩,lG (.of hp) rfl (lG (.of hq) rfl ?_)⟩;walk_at"rd";refine⟨⟨s1.d.mono (by omega),s2.n.mono (by omega)⟩,_,_,z+z,rfl,by omega,s1.d.mul s2.n,fun _=>?_,fun z=>absurd z JR⟩;rw[Sw.HX a b hn];exact k
inductive Cg(vs:List V)(H:Hp)(Q:VK)(E:XK):Prop|mk (p q a b:_) (h1:vs=[.ref p,.ref q]) (h2:H p=some (.tup (fq a))) (h3:H q=some (.tup (fq b))) (h4:Sw.fP 5000 a) (h5:Sw.fP 5000 b) (h6:Q (.bl (decide (a<b))) H):Cg vs H Q E
include T in
theorem L0:sM P w K mg base (fJ P w) 1 "under" ["one","other"] Cg:=by
 refine T.Dm.okN (k:=0) zxs (fun vs H Q E h=>?_) (fun f dF A outer s H vs Q E hr h=>?_)
 ·obtain⟨p,q,a,b,rfl,_⟩:=h;rfl
 ·obtain⟨p,q,a,b,rfl,hp,hq,s1,s2,k⟩:=h;refine⟨_,(dD (gZ (LW nJ (aT sY (bu (lE K rfl) (pv 0) bU (fun _ _=>rfl)) (bu (lE K rfl) (pv 1) bU (fun _ _=>rfl))) (aT sY (bu (lE K rfl) (pv 1) bU (fun _ _=>rfl)) (bu (lE K rfl) (pv 0) bU (fun _ _=>rfl))) (jH _)))),?_⟩;show jF _ _ [some (.ref p),some (.ref q)] H;walk_at"rd";refine lG (.of hp) rfl (lG (.of hq) rfl ?_);walk_at"rd";refine⟨⟨s1.n,s2.d⟩,lG (.of hq) rfl (lG (.of hp) rfl ?_)⟩;walk_at"rd";refine⟨⟨s2.n,s1.d⟩,?_⟩;rw[show decide (a.num*(b.den:Int)<b.num*(a.den:Int))=decide (a<b)from decide_eq_decide.mpr Sw.KD];exact k
inductive zP(vs:List V)(H:Hp)(Q:VK)(E:XK):Prop|mk (p q a b:_) (h1:vs=[.ref p,.ref q]) (h2:H p=some (.tup (fq a))) (h3:H q=some (.tup (fq b))) (h4:Sw.fP 5000 a) (h5:Sw.fP 5000 b) (h6:∀r,H r=none->Q (.ref r) (upd H r (.tup (fq (min a b))))):zP vs H Q E
include T in
theorem zxt:sM P w K mg base (fJ P w) 2 "lesser" ["one","other"] zP:=by
 have iF:=L0 P w base T;refine T.Ba.okN (k:=1) wX (fun vs H Q E h=>?_) (fun f dF A outer s H vs Q E hr h=>?_)
 ·obtain⟨p,q,a,b,rfl,_⟩:=h;rfl
 ·obtain⟨p,q,a,b,rfl,hp,hq,s1,s2,k⟩:=h;refine⟨_,(dJ (ju (i:=2) wX.nd rfl (Z4 (Cv (kB iF (hr.mono (by decide)) rfl bj (aS (pv 1) (aS (pv 0) bP)))) (pv 1) (pv 0))) (dD (gZ (yt (aS (bu (lE K rfl) (pv 2) bU (fun _ _=>rfl)) (aS (bu (lE K rfl) (pv 2) bU (fun _ _=>rfl)) bP)))))),?_⟩;show dW _ _ _ [some (.ref p),some (.ref q),none] H;refine bJ fun R hR=>?_;have key:∀x c,H x=some (.tup (fq c))->c=min a b->R [some (.ref p),some (.ref q),some (.ref x)] H:=fun x c hx e=>by refine hR _ _ ?_;walk_at"rd";subst e;exact lG (.of hx) rfl (lG (.of hx) rfl k)
  walk_at"rd";refine⟨q,p,b,a,rfl,hq,hp,s2,s1,?_⟩;walk_at"rd";exact fE (fun h=>key q b hq (by rw[fB];grind)) fun h=>key p a hp (by rw[fB];grind)
inductive wZ(vs:List V)(H:Hp)(Q:VK)(E:XK):Prop|mk (p q a b:_) (h1:vs=[.ref p,.ref q]) (h2:H p=some (.tup (fq a))) (h3:H q=some (.tup (fq b))) (h4:Sw.fP 5000 a) (h5:Sw.fP 5000 b) (h6:∀r,H r=none->Q (.ref r) (upd H r (.tup (fq (max a b))))):wZ vs H Q E
include T in
theorem ZZ:sM P w K mg base (fJ P w) 2 "greater" ["one","other"] wZ:=by
 have iF:=L0 P w base T;refine T.zV.okN (k:=1) uZ (fun vs H Q E h=>?_) (fun f dF A outer s H vs Q E hr h=>?_)
 ·obtain⟨p,q,a,b,rfl,_⟩:=h;rfl
 ·obtain⟨p,q,a,b,rfl,hp,hq,s1,s2,k⟩:=h;refine⟨_,(dJ (ju (i:=2) uZ.nd rfl (Z4 (Cv (kB iF (hr.mono (by decide)) rfl bj (aS (pv 0) (aS (pv 1) bP)))) (pv 1) (pv 0))) (dD (gZ (yt (aS (bu (lE K rfl) (pv 2) bU (fun _ _=>rfl)) (aS (bu (lE K rfl) (pv 2) bU (fun _ _=>rfl)) bP)))))),?_⟩;show dW _ _ _ [some (.ref p),some (.ref q),none] H;refine bJ fun R hR=>?_;have key:∀x c,H x=some (.tup (fq c))->c=max a b->R [some (.ref p),some (.ref q),some (.ref x)] H:=fun x c hx e=>by refine hR _ _ ?_;walk_at"rd";subst e;exact lG (.of hx) rfl (lG (.of hx) rfl k)
  walk_at"rd";refine⟨p,q,a,b,rfl,hp,hq,s1,s2,?_⟩;walk_at"rd";exact fE (fun h=>key q b hq (by rw[qw];grind)) fun h=>key p a hp (by rw[qw];grind)
def Vr:Sp:=fun vs H Q _=>∃p a,vs=[.ref p]/\H p=some (.tup (fq a))/\Sw.fP 5000 a/\Q (.int a.ceil) H
include T in
theorem znl:sM P w K mg base (fJ P w) 1 "whole_above" ["one"] Vr:=by
 refine T.tY.okN (k:=0) zlk (fun vs H Q E h=>?_) (fun f dF A outer s H vs Q E hr h=>?_)
 ·obtain⟨p,a,rfl,_⟩:=h;rfl
 ·obtain⟨p,a,rfl,hp,sz,k⟩:=h;refine⟨_,(dD (gZ (BN QS (aT QC (BN QS (bu (lE K rfl) (pv 0) bU (fun _ _=>rfl))) (bu (lE K rfl) (pv 0) bU (fun _ _=>rfl)))))),?_⟩;show jF _ _ [some (.ref p)] H;walk_at"rd";refine lG (.of hp) rfl ?_;walk_at"rd";refine lG (.of hp) rfl ?_;walk_at"rd";refine⟨⟨Sw.gR a,sz.d⟩,?_⟩;rw[Rat.ceil_eq_neg_floor_neg,Rat.floor_def,Rat.neg_num,Rat.neg_den]at k;exact k
include T in
theorem Ux:Rb P w K mg base (fJ P w) 1 cW ["self","missing"] (Oa cW "missing"):=by
 refine T.Ev.ok (k:=0) zng (fun vs H Q E h=>?_) (fun f dF A outer s H vs Q E hr h=>?_)
 ·obtain⟨e,y,rfl,_⟩:=h;rfl
 ·obtain⟨e,y,rfl,he,k⟩:=h;exact⟨_,(dD (zzo K rfl (pv 0) (pv 1) rfl)),Nb he T.vo T.sF k⟩
inductive NZ(cN C:Addr)(vs:List V)(H:Hp)(Q:VK)(E:XK):Prop|mk (x dx d pr r s:_) (h1:vs=[.ref x,.int d,.ref pr,.int s]) (h2:H x=some (.ins C dx [])) (h3:H pr=some (.tup (fq r))) (h4:Sw.fP 5000 r) (h5:(1<=d/\0<=r->∀H',tq x H H'->Bk C H' x d r s (d:Rat)->Q .cy H')) (h6:(¬(1<=d/\0<=r)->∀e H1,bE H H1->H1 e=none->E (.ref e) none (upd H1 e (gv e cN none false)))):NZ cN C vs H Q E
include T in
theorem zxu:Fo P w K mg base (fJ P w) 3 cA ["self","depth","rate","start"] [[],[V.int 0]] (NZ cH cA):=by
 have iF:=L0 P w base T;have fW:=Jj P w base T;refine T.CT.r9 (k:=2) zlm (fun vs H Q E h=>?_) (fun f dF A outer s H vs Q E hr h=>?_)
 ·obtain⟨x,dx,d,pr,r,s,rfl,_⟩:=h;rfl
 ·obtain⟨x,dx,d,pr,r,st,rfl,hx,vW,sr,k,kx⟩:=h;refine⟨_,(dJ (dw (jG nJ (pv 1) bU (jH _)) (dD (vp K rfl rfl vt (vE T.nU T.nV rfl T.lO (aS lF bP)))) jP) (dJ (dw (Cv (kB iF (hr.mono (by decide)) rfl eE (aS (pv 2) (aS (yt (aS bU (aS bU bP))) bP)))) (dD (vp K rfl rfl vt (vE T.nU T.nV rfl T.lO (aS lF bP)))) jP) (dJ (lT (pv 0) (pv 1) rfl) (dJ (lT (pv 0) (pv 2) rfl) (dJ (lT (pv 0) (pv 3) rfl) (dD (lT (pv 0) (kB fW (hr.mono (by decide)) rfl eE (aS (pv 1) (aS bU bP))) rfl))))))),?_⟩;show dW _ _ _ [some (.ref x),some (.int d),some (.ref pr),some (.int st)] H;refine bJ fun R hR=>?_;have tail:1<=d->R [some (.ref x),some (.int d),some (.ref pr),some (.int st)] H:=fun hd=>by
   refine hR _ _ ?_;walk_at"s";intro t ht;refine⟨pr,t,r,0,rfl,fV ht _ _ vW,Jm (n:=0),sr,zur (Sw.Sz.zero _),?_⟩;walk_at"rd";refine fE (fun h e he=>⟨cH,none,bX,T.jU,?_⟩) (fun h=>hR _ _ ?_)
   ·rw[Aa];exact kx (fun z=>by grind) e _ (fV ht) he
   ·have s1:=fV (o:=.tup [.int 0,.int 1]) ht;have hx:=s1 _ _ hx;have vW:=s1 _ _ vW;generalize upd H t (.tup [.int 0,.int 1])=H1 at s1 hx vW⊢;have np:pr≠x:=b8 vW hx (by intro w;cases w);walk_at"s";refine lU hx T.dX T.jB (by simp) (hR _ _ ?_);walk_at"s";refine lU bX T.dX T.iN (by have:=i9 (fs:=[]) (f:="depth") (v:=.int d);simp only[bG]at this;omega) (hR _ _ ?_);rw[Aa];walk_at"s";have l1:=i9 (fs:=[]) (f:="depth") (v:=.int d);have l2:=i9 (fs:=aD "depth" (.int d) []) (f:="rate") (v:=.ref pr);have l3:=i9 (fs:=aD "rate" (.ref pr) (aD "depth" (.int d) [])) (f:="since") (v:=.int st);simp only[bG]at l1;refine lU bX T.dX T.jC (by omega) (hR _ _ ?_);rw[Aa];walk_at"rd";refine⟨d,1,1,rfl,by decide,Sw.Sz.one _,fun _ p hp=>?_,fun z=>absurd z (by decide)⟩;have nx:x≠p:=by intro z;rw[z,bX]at hp;cases hp
    walk_at"rd";refine lU (C:=cA) (dx:=dx) (fs:=aD "since" (.int st) (aD "rate" (.ref pr) (aD "depth" (.int d) []))) (by rw[bM nx,bX]) T.dX T.j7 (by omega) ?_;refine k ⟨hd,by grind⟩ _ (fun b o n e=>?_) ⟨dx,_,pr,p,bX,FB.G2 d pr st p,?_,?_⟩
    ·have e1:=s1 _ _ e;rw[bM n,bM,bM n]
     ·exact e1
     ·intro z;rw[bM (b9 nx)]at hp;rw[z,hp]at e1;cases e1
    ·rw[bM np,bM,bM np]
     ·exact vW
     ·intro z;rw[bM (b9 nx)]at hp;rw[z,hp]at vW;cases vW
    ·rw[bM (b9 nx),bX];have:((d:Int):Rat) / ((1:Int):Rat)=(d:Rat):=by have:((1:Int):Rat)=1:=rfl;rw[this];grind
     rw[this]
  walk_at"rd";refine fE (fun h e he=>⟨cH,none,bX,T.jU,?_⟩) (fun h=>tail (by omega));rw[Aa];exact kx (fun z=>by omega) e _ (bE.refl _) he
include T in
theorem Vz:di P w K mg base (fJ P w) 4 cA "level" ["self","at"] [[]] (yf cA):=by
 have Aw:=zyt P w base T;have Gb:=Uw P w base T;have DU:=zxt P w base T;refine T.tO.okN (k:=3) mJ (fun vs H Q E h=>?_) (fun f dF A outer s H vs Q E hr h=>?_)
 ·obtain⟨p,t,d,r,s,l,rfl,_⟩:=h;rfl
 ·obtain⟨p,t,d,r,st,l,rfl,B,z,zt,k⟩:=h;refine⟨_,(dJ (ju (i:=2) mJ.nd rfl (kB Aw (hr.mono (by decide)) rfl bj (aS (eT (pv 0) rfl) (aS (kB Gb (hr.mono (by decide)) rfl bj (aS (eT (pv 0) rfl) (aS (yt (aS (aT Ff (pv 1) (eT (pv 0) rfl)) (aS bU bP))) bP))) bP)))) (dD (gZ (kB DU (hr.mono (by decide)) rfl bj (aS (pv 2) (aS (yt (aS (eT (pv 0) rfl) (aS bU bP))) bP)))))),?_⟩;show dW _ _ _ [some (.ref p),some (.int t),none] H;obtain⟨dx,fs,pr,pl,hp,fb,kI,hl⟩:=id B.ex;walk_at"s";refine eL hp T.dX T.j7 fb.W9 (eL hp T.dX T.iN fb.rat (eL hp T.dX T.jC fb.sin ?_));walk_at"rd";intro x1 f1;have s1:=fV (o:=.tup [.int (t-st),.int 1]) f1;have h1:=Jm (H:=H) (p:=x1) (n:=t-st);have hp:=s1 _ _ hp;have kI:=s1 _ _ kI;have hl:=s1 _ _ hl;generalize upd H x1 (.tup [.int (t-st),.int 1])=H1 at s1 h1 hp kI hl⊢;refine⟨pr,x1,r,(t-st:Int),300,rfl,kI,h1,by decide,z.r,.int zt,fun x2 RH=>?_⟩;have s2:=fV (o:=.tup (fq (r*((t-st:Int):Rat)))) RH;refine⟨pl,x2,l,r*((t-st:Int):Rat),600,rfl,s2 _ _ hl,bX,by decide,z.l.mono (by decide),(z.r.mul (.int zt)).mono (by decide),fun x3 f3=>hR _ _ ?_⟩;have s3:=fV (o:=.tup (fq (l+r*((t-st:Int):Rat)))) f3;have sm:=(s1.trans s2).trans s3;have hp:=s3 _ _ (s2 _ _ hp);have h3:upd (upd H1 x2 (.tup (fq (r*((t-st:Int):Rat))))) x3 (.tup (fq (l+r*((t-st:Int):Rat)))) x3=some (.tup (fq (l+r*((t-st:Int):Rat)))):=bX;generalize upd (upd H1 x2 (.tup (fq (r*((t-st:Int):Rat))))) x3 (.tup (fq (l+r*((t-st:Int):Rat))))=H3 at sm hp h3⊢;walk_at"rd";refine eL hp T.dX T.jB fb.dep ?_;walk_at"rd";intro x4 f4;have s4:=fV (o:=.tup [.int d,.int 1]) f4;refine⟨x3,x4,_,d,rfl,s4 _ _ h3,Jm,(z.l.add (z.r.mul (.int zt))).mono (by decide),(Sw.fP.int z.d).mono (by decide),fun x5 f5=>?_⟩;exact k x5 _ ((sm.trans s4).trans (fV f5)) bX
include T in
theorem zlv:di P w K mg base (fJ P w) 5 cA "holds" ["self","at","length"] [[]] (yd cA):=by
 have gJ:=Vz P w base T;have iF:=L0 P w base T;refine T.tN.okN (k:=4) zkq (fun vs H Q E h=>?_) (fun f dF A outer s H vs Q E hr h=>?_)
 ·obtain⟨p,t,n,d,r,s,l,rfl,_⟩:=h;rfl
 ·obtain⟨p,t,n,d,r,st,l,rfl,B,z,zt,zn,k⟩:=h;refine⟨_,(dD (gZ (UL (kB iF (hr.mono (by decide)) rfl bj (aS (iB (d7:=[]) gJ (by simp) T.dX (hr.mono (by decide)) bj (pv 0) (aS (pv 1) bP)) (aS (yt (aS (pv 2) (aS bU bP))) bP)))))),?_⟩;show jF _ _ [some (.ref p),some (.int t),some (.int n)] H;obtain⟨dx,fs,pr,pl,hp,fb,kI,hl⟩:=id B.ex;walk_at"rd";refine ig hp (fb.x9 _) ?_;walk_at"rd";refine⟨p,t,d,r,st,l,rfl,B,z,zt,fun q H1 s1 hq=>?_⟩;walk_at"rd";intro x f1;refine⟨q,x,_,n,rfl,fV f1 _ _ hq,Jm,(zyl z zt).mono (by decide),(Sw.fP.int zn).mono (by decide),?_⟩;walk_at"rd";exact k _ (s1.trans (fV f1))
include T in
theorem zpp:di P w K mg base (fJ P w) 5 cA "pay" ["self","at","length"] [[]] (IL cW cA):=by
 have gJ:=Vz P w base T;have iF:=L0 P w base T;have t7:=zvy P w base T;have Gd:=Ux P w base T;refine T.wc.r9 (k:=4) o6 (fun vs H Q E h=>?_) (fun f dF A outer s H vs Q E hr h=>?_)
 ·obtain⟨p,t,n,d,r,s,l,rfl,_⟩:=h;rfl
 ·obtain⟨p,t,n,d,r,st,l,rfl,B,z,zt,zn,k,kx⟩:=h;refine⟨_,(dJ (ju (i:=3) o6.nd rfl (kB t7 (hr.mono (by decide)) rfl eE (aS (iB (d7:=[]) gJ (by simp) T.dX (hr.mono (by decide)) eE (pv 0) (aS (pv 1) bP)) (aS (yt (aS (pv 2) (aS bU bP))) bP)))) (dJ (dw (Cv (kB iF (hr.mono (by decide)) rfl eE (aS (pv 3) (aS (yt (aS bU (aS bU bP))) bP)))) (dD (vp K rfl rfl vt (zzp Gd T.vo T.Ew (hr.mono (by decide)) bj rfl T.EB (aS (kB t7 (hr.mono (by decide)) rfl eE (aS (yt (aS bU (aS bU bP))) (aS (pv 3) bP))) bP)))) jP) (dJ (lT (pv 0) (pv 1) rfl) (dD (lT (pv 0) (pv 3) rfl))))),?_⟩;show dW _ _ _ [some (.ref p),some (.int t),some (.int n),none] H;obtain⟨dx,fs,pr,pl,hp,fb,kI,hl⟩:=id B.ex;have zl:=zyl z zt;walk_at"s";refine ig hp (fb.x9 _) ?_;walk_at"rd";refine⟨p,t,d,r,st,l,rfl,B,z,zt,fun q H1 s1 hq=>?_⟩;generalize Sw.lvl d r st l t=v at zl k kx hq;walk_at"rd";intro x f1;have s2:=fV (o:=.tup [.int n,.int 1]) f1;refine⟨q,x,v,n,1000,rfl,s2 _ _ hq,Jm,by decide,zl,(Sw.fP.int zn).mono (by decide),fun y RH=>hR _ _ ?_⟩;have s3:=fV (o:=.tup (fq (v-(n:Rat)))) RH;have sm:=(s1.trans s2).trans s3;have hy:upd (upd H1 x (.tup [.int n,.int 1])) y (.tup (fq (v-(n:Rat)))) y=some (.tup (fq (v-(n:Rat)))):=bX;generalize upd (upd H1 x (.tup [.int n,.int 1])) y (.tup (fq (v-(n:Rat))))=H2 at sm hy⊢;have zr:Sw.fP 2000 (v-(n:Rat)):=(zl.sub (.int zn)).mono (by decide);walk_at"s";intro x2 f3;have s4:=fV (o:=.tup [.int 0,.int 1]) f3;refine⟨y,x2,v-(n:Rat),0,rfl,s4 _ _ hy,Jm (n:=0),zr.mono (by decide),zur (Sw.Sz.zero _),?_⟩;have sm:=sm.trans s4;have hy:=s4 _ _ hy;generalize upd H2 x2 (.tup [.int 0,.int 1])=H3 at sm hy⊢;walk_at"rd";refine fE (fun h=>?_) fun h=>hR _ _ ?_
  ·intro x3 f4;have s5:=fV (o:=.tup [.int 0,.int 1]) f4;refine⟨x3,y,0,v-(n:Rat),2000,rfl,Jm (n:=0),s5 _ _ hy,by decide,⟨Sw.Sz.zero _,Sw.Sz.one _⟩,zr,fun pm f5=>?_⟩;have s6:=fV (o:=.tup (fq (0-(v-(n:Rat))))) f5;have sm:=(sm.trans s5).trans s6;have hm:upd (upd H3 x3 (.tup [.int 0,.int 1])) pm (.tup (fq (0-(v-(n:Rat))))) pm=some (.tup (fq ((n:Rat)-v))):=by rw[bX,show(0-(v-(n:Rat)))=(n:Rat)-v by grind]
   generalize upd (upd H3 x3 (.tup [.int 0,.int 1])) pm (.tup (fq (0-(v-(n:Rat)))))=H4 at sm hm⊢;refine mk1 fun e x H5 X=>⟨_,_,X.he,T.vo,kx (by grind) e x pm _ (fun b o w=>?_) bX ?_ ?_⟩
   ·have w1:=sm _ _ w;rw[bM (i8 w1 X.fe)];exact X.sm _ _ w1
   ·rw[bM X.ne];exact X.hd
   ·rw[bM (i8 hm X.fe)];exact X.sm _ _ hm
  ·have hp:=sm _ _ hp;walk_at"s";refine lU hp T.dX T.jC (by have:=fb.len;omega) (hR _ _ ?_);walk_at"rd";refine lU bX T.dX T.j7 (by rw[DN fb.sin];have:=fb.len;omega) ?_;rw[Aa];have ny:y≠p:=b8 hy hp (by intro w;cases w);have np:pr≠p:=b8 (sm _ _ kI) hp (by intro w;cases w);exact k (by grind) _ (fun b o nb e=>by rw[bM nb];exact sm _ _ e) ⟨dx,_,pr,y,bX,fb.kN,by rw[bM np];exact sm _ _ kI,by rw[bM ny];exact hy⟩
inductive E4(C:Addr)(vs:List V)(H:Hp)(Q:VK)(E:XK):Prop|mk (p t n level d r:_) (h1:vs=[.ref p,.int t,.int n]) (h2:Bd d r) (h3:At C H p d r t level) (h4:0<=t) (h5:t<100000000000000000) (h6:0<=n) (h7:n<100000000000000000) (h8:∀H',bE H H'->Q (xu d r t level n) H'):E4 C vs H Q E
include T in
theorem znm:di P w K mg base (fJ P w) 6 cA "when" ["self","at","length"] [[]] (E4 cA):=by
 have gJ:=Vz P w base T;have uu:=zlv P w base T;have t7:=zvy P w base T;have Jq:=Vq P w base T;have vH:=znl P w base T;refine T.uI.okN (k:=5) nN (fun vs H Q E h=>?_) (fun f dF A outer s H vs Q E hr h=>?_)
 ·obtain⟨p,t,n,level,d,r,rfl,_⟩:=h;rfl
 ·obtain⟨p,t,n,level,d,r,rfl,bd,a,t0,t1,n0,n1,k⟩:=h;refine⟨_,(dJ (dw (Cv (iB (d7:=[]) uu (by simp) T.dX (hr.mono (by decide)) bj (pv 0) (aS (pv 1) (aS (pv 2) bP)))) (dD (gZ (pv 1))) jP) (dJ (dw (PW.pt (pw_or (jG zG (pv 2) (eT (pv 0) rfl) (jH _)) (OV (jG (VS K rfl hr.units) (eT (pv 0) rfl) (yt (aS bU (aS bU bP))) (jH _))))) (dD (gZ sZ)) jP) (dJ (ju (i:=3) nN.nd rfl (kB t7 (hr.mono (by decide)) rfl bj (aS (yt (aS (pv 2) (aS bU bP))) (aS (iB (d7:=[]) gJ (by simp) T.dX (hr.mono (by decide)) bj (pv 0) (aS (pv 1) bP)) bP)))) (dD (gZ (aT sJ (pv 1) (kB vH (hr.mono (by decide)) rfl bj (aS (kB Jq (hr.mono (by decide)) rfl bj (aS (pv 3) (aS (eT (pv 0) rfl) bP))) bP)))))))),?_⟩;show dW _ _ _ [some (.ref p),some (.int t),some (.int n),none] H;unfold xu at k;have adw:0<=r.num:=Rat.num_nonneg.mpr bd.r0;have zn:Sw.Sz 70 n:=Sw.Sz.sf (by omega) (by omega);walk_at"s";refine zwx a bd (by omega) n0 (by omega) fun H1 sm=>?_;have a:=a.same sm;walk_at"rd";refine fE (fun h=>?_) fun h=>hR _ _ ?_
  ·rw[if_pos h]at k;exact k _ sm
  rw[if_neg h]at k;refine bJ fun R hR=>?_;obtain⟨dx,fs,pr,s',pl,h1,fb,h3⟩:=a.ins;walk_at"rd";refine eL h1 T.dX T.jB fb.dep ?_;walk_at"rd";refine fE (fun h2=>?_) fun h2=>?_
  ·rw[if_pos (.inl h2)]at k;exact k _ sm
  refine eL h1 T.dX T.iN fb.rat fun x hx=>?_;have s2:=fV (o:=.tup [.int 0,.int 1]) hx;refine Ej (d:=.tuple [.int r.num,.int (r.den:Int)]) (e:=.tuple [.int 0,.int 1]) (zzr (s2 _ _ h3)) (.tup (.of bX) (.cons (.int _) (.cons (.int _) .nil))) rfl rfl ?_;have sm:=sm.trans s2;have a:=a.same s2;have h1:=s2 _ _ h1;have h3:=s2 _ _ h3;generalize upd H1 x (.tup [.int 0,.int 1])=H2 at sm a h1 h3⊢;have ez:PyData.eqv (.tuple [.int r.num,.int (r.den:Int)]) (.tuple [.int 0,.int 1])=decide (r.num=0):=by
   refine(Va (r.num,(r.den:Int)) (0,1)).trans (decide_eq_decide.mpr ?_);rw[HN];refine⟨fun z=>z.1,fun z=>⟨z,?_⟩⟩;have:r=0:=by have e:=Sw.A4 r;rw[z]at e;have z0:((0:Int):Rat)=0:=rfl;rw[z0]at e;grind
   rw[this];rfl
  rw[ez];walk_at"rd";refine fE (fun h4=>?_) fun h4=>hR _ _ ?_
  ·rw[if_pos (.inr h4)]at k;exact k _ sm
  rw[if_neg (by omega)]at k;walk_at"s";intro y hy;have s3:=fV (o:=.tup [.int n,.int 1]) hy;have Ka:=Jm (H:=H2) (p:=y) (n:=n);have sm:=sm.trans s3;have a:=a.same s3;have h1:=s3 _ _ h1;have h3:=s3 _ _ h3;generalize upd H2 y (.tup [.int n,.int 1])=H3 at sm a h1 h3 Ka⊢;refine zww a bd (by omega) fun q H4 s4 hq=>?_;have zl:Sw.fP 140 ((level:Rat) / ((r.den:Int):Rat)):=.of (Sw.bQ r) rfl (a.lz bd) (bd.rz.d.mono (by decide));refine⟨y,q,n,(level:Rat) / ((r.den:Int):Rat),140,rfl,s4 _ _ Ka,hq,by decide,(Sw.fP.int zn).mono (by decide),zl,fun z hz=>hR _ _ ?_⟩;have s5:=fV (o:=.tup (fq ((n:Rat)-(level:Rat) / ((r.den:Int):Rat)))) hz;have sm:=(sm.trans s4).trans s5;have h1:=s5 _ _ (s4 _ _ h1);have h3:=s5 _ _ (s4 _ _ h3);have PZ:upd H4 z (.tup (fq ((n:Rat)-(level:Rat) / ((r.den:Int):Rat)))) z=some (.tup (fq ((n:Rat)-(level:Rat) / ((r.den:Int):Rat)))):=bX;generalize upd H4 z (.tup (fq ((n:Rat)-(level:Rat) / ((r.den:Int):Rat))))=H5 at sm h1 h3 PZ⊢;walk_at"rd";refine eL h1 T.dX T.iN fb.rat ?_;have zm:Sw.fP 300 ((n:Rat)-(level:Rat) / ((r.den:Int):Rat)):=((Sw.fP.int zn).sub zl).mono (by decide);have rn:r.num≠0:=h4;have r1:r≠0:=fun z=>rn (by rw[z];rfl);refine⟨z,pr,_,r,300,rfl,PZ,h3,by decide,zm,bd.rz.mono (by decide),r1,fun u hu=>?_⟩;refine⟨u,_,rfl,bX,(Sw.fP.div rn zm bd.rz).mono (by decide),?_⟩;walk_at"rd";exact k _ (sm.trans (fV hu))
abbrev Rs(c:Addr)(H:Hp)(E:XK):Prop:=∀e,H e=none->E (.ref e) none (upd H e (gv e c none false))
theorem gA{c:Addr}{H:Hp}{E:XK}(kx:Rs c H E)(xc:XC K c):∀e,H e=none->∃x x1,upd H e (gv e c none true) e=some (gv e x x1 true)/\XC K x/\E (.ref e) x1 (upd (upd H e (gv e c none true)) e (gv e x x1 false)):=fun e he=>⟨c,none,bX,xc,by rw[Aa];exact kx e he⟩
def N6(cS:Addr):Sp:=fun vs H Q E=>∃s,vs=[.int s]/\(1<=s/\s<=1000000->Q .cy H)/\(¬(1<=s/\s<=1000000)->Rs cS H E)
include T in
theorem YM:sM P w K mg base (fJ P w) 1 "check_share" ["share"] (N6 cO):=by
 refine T.tX.r9 (k:=0) zll (fun vs H Q E h=>?_) (fun f dF A outer s H vs Q E hr h=>?_)
 ·obtain⟨s,rfl,_⟩:=h;rfl
 ·obtain⟨s,rfl,k,kx⟩:=h;refine⟨_,(dD (dw (DR (QB mH mH bU (pv 0) (OI rfl T.qP))) (dD (vp K rfl rfl vt (vE T.AK T.AY rfl T.A0 (aS lF bP)))) jP)),?_⟩;show rh _ _ _ _ [some (.int s)] H;walk_at"rd";refine fE (fun c1=>fE (fun c2=>k ⟨c1,c2⟩) fun c2=>?_) fun c1=>?_
  ·exact gA (kx fun z=>c2 z.2) T.vn
  ·exact gA (kx fun z=>c1 z.1) T.vn
def T6(C:Addr):Sp:=fun vs H Q _=>∃x dx,vs=[.ref x]/\H x=some (.ins C dx [])/\∀iy H',tq x H H'->H iy=none->Mb C H' x iy []->Q .cy H'
include T in
theorem Z0:Fo P w K mg base (fJ P w) 1 cF ["self"] [[]] (T6 cF):=by
 refine T.AX.okN (k:=0) zkr (fun vs H Q E h=>?_) (fun f dF A outer s H vs Q E hr h=>?_)
 ·obtain⟨x,dx,rfl,_⟩:=h;rfl
 ·obtain⟨x,dx,rfl,hx,k⟩:=h;refine⟨_,(dD (lT (pv 0) LR rfl)),?_⟩;show(_:TS) _ [some (.ref x)] H;walk_at"rd";intro iy zk;have nx:iy≠x:=fun z=>by rw[z,hx]at zk;cases zk
  have sn:=fV (o:=.dK []) zk;refine lU (sn _ _ hx) T.d8 T.fh (by simp) ?_;refine k iy _ (fun b o n e=>?_) zk ⟨⟨dx,aD "shares" (.ref iy) [],bX,?_,fun m hm=>?_,?_⟩,?_⟩
  ·rw[bM n];exact sn _ _ e
  ·rw[pR,if_pos rfl]
  ·rw[pR,if_neg hm];rfl
  ·have:=i9 (fs:=[]) (f:="shares") (v:=.ref iy);simp only[bG]at this;omega
  ·rw[bM nx];exact bX
inductive N7(cC C:Addr)(vs:List V)(H:Hp)(Q:VK)(E:XK):Prop|mk (p iy nm x:_) (h1:vs=[.ref p,.str x]) (h2:Mb C H p iy nm) (h3:(bD nm x≠none->Q .cy H)) (h4:(bD nm x=none->Rs cC H E)):N7 cC C vs H Q E
include T in
theorem Qq:di P w K mg base (fJ P w) 1 cF "check_name" ["self","name"] [[]] (N7 cG cF):=by
 refine T.mQ.r9 (k:=0) zew (fun vs H Q E h=>?_) (fun f dF A outer s H vs Q E hr h=>?_)
 ·obtain⟨p,iy,nm,x,rfl,_⟩:=h;rfl
 ·obtain⟨p,iy,nm,x,rfl,M,k,kx⟩:=h;refine⟨_,(dD (dw (Le (VI (dS hr) (pv 1) (eT (pv 0) rfl))) (dD (vp K rfl rfl vt (vE T.pH T.pJ rfl T.pQ (aS lF bP)))) jP)),?_⟩;show rh _ _ _ _ [some (.ref p),some (.str x)] H;obtain⟨dx,fs,hp,hf,pU,gw⟩:=M.ex;walk_at"rd";refine eL hp T.d8 T.fh hf ?_;walk_at"rd";refine⟨_,g7.k (k:=aC x) M.hs,?_⟩;rw[HC];cases e:bD nm x with
  |none=>exact gA (kx e) T.mE
  |some v=>exact k (by rw[e];simp)
inductive ER(cT cS C:Addr)(vs:List V)(H:Hp)(Q:VK)(E:XK):Prop|mk (p iy nm x s:_) (h1:vs=[.ref p,.str x,.int s]) (h2:Mb C H p iy nm) (h3:nm.length<900) (h4:(bD nm x≠none->Rs cT H E)) (h5:(bD nm x=none->¬(1<=s/\s<=1000000)->Rs cS H E)) (h6:(bD nm x=none->1<=s/\s<=1000000->Q .cy (upd H iy (.dK (kvsOf (nm++[(x,s)])))))):ER cT cS C vs H Q E
include T in
theorem YN:di P w K mg base (fJ P w) 2 cF "put" ["self","name","share"] [[]] (ER cY cO cF):=by
 have kR:=YM P w base T;refine T.uJ.r9 (k:=1) zln (fun vs H Q E h=>?_) (fun f dF A outer s H vs Q E hr h=>?_)
 ·obtain⟨p,iy,nm,x,s,rfl,_⟩:=h;rfl
 ·obtain⟨p,iy,nm,x,s,rfl,M,hn,kt,ks,k⟩:=h;refine⟨_,(dJ (dw (Le (OZ (dS hr) (pv 1) (eT (pv 0) rfl))) (dD (vp K rfl rfl vt (vE T.yZ T.zu rfl T.zA (aS lF bP)))) jP) (dJ (jV (kB kR (hr.mono (by decide)) rfl eE (aS (pv 2) bP))) (dD (Du (dS hr) (eT (pv 0) rfl) (pv 1) (pv 2) rfl)))),?_⟩;show dW _ _ _ [some (.ref p),some (.str x),some (.int s)] H;obtain⟨dx,fs,hp,hf,pU,gw⟩:=M.ex;walk_at"s";refine eL hp T.d8 T.fh hf ?_;walk_at"rd";refine⟨_,g7.k (k:=aC x) M.hs,?_⟩;rw[HC];cases hx:bD nm x with
  |some v=>exact gA (kt (by rw[hx];simp)) T.z7
  |none=>
   refine hR _ _ ?_;walk_at"s";refine⟨s,rfl,fun c=>hR _ _ ?_,fun c=>ks hx c⟩;walk_at"rd";refine eL hp T.d8 T.fh hf ?_;walk_at"rd";refine⟨_,lW.k (k:=aC x) M.hs (gD (by rw[OE];omega)),?_⟩;rw[zru hx];exact k hx c
def yJ(nm:Nm):List V:=nm.map fun x=>.str x.1
inductive zQ(C:Addr)(vs:List V)(H:Hp)(Q:VK)(E:XK):Prop|mk (p iy nm:_) (h1:vs=[.ref p]) (h2:Mb C H p iy nm) (h3:∀l,H l=none->Q (.ref l) (upd H l (.lst (yJ nm)))):zQ C vs H Q E
include T in
theorem Yk:di P w K mg base (fJ P w) 1 cF "names" ["self"] [[]] (zQ cF):=by
 refine T.rV.okN (k:=0) zji (fun vs H Q E h=>?_) (fun f dF A outer s H vs Q E hr h=>?_)
 ·obtain⟨p,iy,nm,rfl,_⟩:=h;rfl
 ·obtain⟨p,iy,nm,rfl,M,k⟩:=h;refine⟨_,(dD (gZ (ztt (zsw rfl) rfl T.G4 boot_list (aS (eT (pv 0) rfl) bP)))),?_⟩;show jF _ _ [some (.ref p)] H;obtain⟨dx,fs,hp,hf,pU,gw⟩:=M.ex;walk_at"rd";refine eL hp T.d8 T.fh hf ?_;refine⟨iy,_,rfl,M.hs,fun l hl=>?_⟩;have e:(kvsOf nm).map (fun kv=>kV kv.1)=yJ nm:=by unfold L2.kvsOf yJ;rw[eI];rfl
  rw[e];exact k l hl
inductive IJ(cC C:Addr)(vs:List V)(H:Hp)(Q:VK)(E:XK):Prop|mk (p iy nm x:_) (h1:vs=[.ref p,.str x]) (h2:Mb C H p iy nm) (h3:(bD nm x=none->Rs cC H E)) (h4:∀s,bD nm x=some s->Q (.int s) H):IJ cC C vs H Q E
include T in
theorem XV:di P w K mg base (fJ P w) 2 cF "share_of" ["self","name"] [[]] (IJ cG cF):=by
 have dU:=Qq P w base T;refine T.oG.r9 (k:=1) zgd (fun vs H Q E h=>?_) (fun f dF A outer s H vs Q E hr h=>?_)
 ·obtain⟨p,iy,nm,x,rfl,_⟩:=h;rfl
 ·obtain⟨p,iy,nm,x,rfl,M,kx,k⟩:=h;refine⟨_,(dJ (jV (iB (d7:=[]) dU (by simp) T.d8 (hr.mono (by decide)) eE (pv 0) (aS (pv 1) bP))) (dD (gZ (sI (dS hr) (eT (pv 0) rfl) (pv 1) (fun _ _=>rfl))))),?_⟩;show dW _ _ _ [some (.ref p),some (.str x)] H;obtain⟨dx,fs,hp,hf,pU,gw⟩:=M.ex;walk_at"s";refine ig hp (pU _ (by decide+kernel)) ⟨p,iy,nm,x,rfl,M,fun hx=>hR _ _ ?_,kx⟩;cases e:bD nm x with
  |none=>exact absurd e hx
  |some s=>
   walk_at"rd";refine eL hp T.d8 T.fh hf ?_;walk_at"rd";have hg:=g7.k (k:=aC x) M.hs;rw[HC,e]at hg;exact⟨.int s,hg,k s e⟩
inductive Oo(C Cm:Addr)(vs:List V)(H:Hp)(Q:VK)(E:XK):Prop|mk (x dx most:_) (h1:vs=[.ref x,.int most]) (h2:H x=some (.ins C dx [])) (h3:∀pm iy H',tq x H H'->H pm=none->H iy=none->pm≠x->H' x=some (.ins C dx (aD "chosen" .cy (aD "members" (.ref pm) (aD "most" (.int most) []))))->Mb Cm H' pm iy []->Q .cy H'):Oo C Cm vs H Q E
include T in
theorem zgi:Pg P w K mg base (fJ P w) 3 cD "__init__" ["self","most"] (Oo cX cF):=by
 have rP:=Z0 P w base T;refine T.nQ.okN (k:=2) zfk (fun vs H Q E h=>?_) (fun f dF A outer s H vs Q E hr h=>?_)
 ·obtain⟨x,dx,most,rfl,_⟩:=h;rfl
 ·obtain⟨x,dx,most,rfl,hx,k⟩:=h;refine⟨_,(dJ (lT (pv 0) (pv 1) rfl) (dJ (lT (pv 0) (ZJ (d7:=[]) rP (by simp) (hr.mono (by decide)) bj rfl T.uT) rfl) (dD (lT (pv 0) sZ rfl)))),?_⟩;show dW _ _ _ [some (.ref x),some (.int most)] H;have l1:=i9 (fs:=[]) (f:="most") (v:=.int most);simp only[bG]at l1;walk_at"s";refine lU hx T.bA T.uU (by simp) (hR _ _ ?_);walk_at"s";intro pm dm oF MT _;have nx:pm≠x:=fun z=>by rw[z,bX]at oF;cases oF
  have Kr:H pm=none:=by rw[bM nx]at oF;exact oF
  refine⟨pm,dm,rfl,bX,fun iy H1 bt zk M=>⟨rfl,?_⟩⟩;have s1:=bt.same (Fe oF MT) oF;have wQ:=s1 _ _ bX;have l2:=i9 (fs:=aD "most" (.int most) []) (f:="members") (v:=.ref pm);have xQ:upd H x (.ins cX dx (aD "most" (.int most) [])) iy=none:=(Fe oF MT).free zk;have DK:iy≠x:=fun z=>by rw[z,bX]at xQ;cases xQ
  have uW:H iy=none:=by rw[bM DK]at xQ;exact xQ
  refine lU wQ T.bA T.fj (by omega) (hR _ _ ?_);walk_at"rd";refine lU bX T.bA T.gP (by omega) ?_;rw[Aa];refine k pm iy _ (fun b o n e=>?_) Kr uW nx bX ?_
  ·rw[bM n];exact s1 _ _ (by rw[bM n];exact e)
  ·obtain⟨d2,f2,g1,g2⟩:=M.ex;exact⟨⟨d2,f2,by rw[bM nx];exact g1,g2⟩,by rw[bM DK];exact M.hs⟩
inductive Og(C Cm:Addr)(vs:List V)(H:Hp)(Q:VK)(E:XK):Prop|mk (x dx most:_) (h1:vs=[.ref x,.int most]) (h2:H x=some (.ins C dx [])) (h3:∀(a:lV) H',a.p=x->tq x H H'->H a.pm=none->H a.ps=none->H a.pt=none->H a.pg=none->Sx C Cm H' a most [] (fun _=>none) (fun _=>none) 0 .cy 0->Q .cy H'):Og C Cm vs H Q E
include T in
theorem zxv:Fo P w K mg base (fJ P w) 4 cX ["self","most"] [[]] (Og cX cF):=by
 have oE:=zgi P w base T;have fW:=Jj P w base T;refine T.CV.okN (k:=3) zlo (fun vs H Q E h=>?_) (fun f dF A outer s H vs Q E hr h=>?_)
 ·obtain⟨x,dx,most,rfl,_⟩:=h;rfl
 ·obtain⟨x,dx,most,rfl,hx,k⟩:=h;refine⟨_,(dJ (jV (zva oE (hr.mono (by decide)) bj rfl T.uR (aS (pv 0) (aS (pv 1) bP)))) (dJ (lT (pv 0) (kB fW (hr.mono (by decide)) rfl bj (aS bU (aS bU bP))) rfl) (dJ (lT (pv 0) LR rfl) (dD (lT (pv 0) LR rfl))))),?_⟩;show dW _ _ _ [some (.ref x),some (.int most)] H;refine bJ fun R hR=>?_;walk_at"rdc";refine⟨x,dx,most,rfl,hx,fun pm iy H1 bt Kr uW nx wQ M=>hR _ _ ?_⟩;have l1:=i9 (fs:=[]) (f:="most") (v:=.int most);have l2:=i9 (fs:=aD "most" (.int most) []) (f:="members") (v:=.ref pm);have l3:=i9 (fs:=aD "members" (.ref pm) (aD "most" (.int most) [])) (f:="chosen") (v:=.cy);simp only[bG]at l1;walk_at"s";refine⟨0,1,1,rfl,by decide,Sw.Sz.one _,fun _ pr vW=>?_,fun z=>absurd z (by decide)⟩;have e0:((0:Int):Rat) / ((1:Int):Rat)=0:=by have z0:((0:Int):Rat)=0:=rfl;rw[z0];grind
  rw[e0];have s1:=fV (o:=.tup (fq 0)) vW;have xU:upd H1 pr (.tup (fq 0)) pr=some (.tup (fq 0)):=bX;have wQ:=s1 _ _ wQ;have M:=M.same s1;have bt:=bt.trans s1.but;generalize upd H1 pr (.tup (fq 0))=H2 at s1 xU wQ M bt⊢;clear s1 vW;walk_at"rd";refine lU wQ T.bA T.gE (by omega) (hR _ _ ?_);generalize WO:aD "reached" (.ref pr) (aD "chosen" .cy (aD "members" (.ref pm) (aD "most" (.int most) [])))=AN;have l4:AN.length<=4:=by have:=i9 (fs:=aD "chosen" .cy (aD "members" (.ref pm) (aD "most" (.int most) []))) (f:="reached") (v:=.ref pr);rw[WO]at this;omega
  have PU:upd H2 x (.ins cX dx AN) x=some (.ins cX dx AN):=bX;have bt:tq x H (upd H2 x (.ins cX dx AN)):=bt.trans LZ;have DK:iy≠x:=fun z=>by rw[z,hx]at uW;cases uW
  have Tj:pr≠x:=b8 xU wQ (by intro z;cases z);have xU:upd H2 x (.ins cX dx AN) pr=some (.tup (fq 0)):=by rw[bM Tj];exact xU
  have M:Mb cF (upd H2 x (.ins cX dx AN)) pm iy []:=by obtain⟨d2,f2,g1,g2⟩:=M.ex;exact⟨⟨d2,f2,by rw[bM nx];exact g1,g2⟩,by rw[bM DK];exact M.hs⟩
  generalize upd H2 x (.ins cX dx AN)=H3 at PU bt xU M⊢;walk_at"s";intro pt uF;have Ku:pt≠x:=fun z=>by rw[z,PU]at uF;cases uF
  have s3:=fV (o:=.dK []) uF;have vX:upd H3 pt (.dK []) pt=some (.dK []):=bX;have nts:=i8 M.hs uF;refine lU (s3 _ _ PU) T.bA T.iO (by omega) (hR _ _ ?_);have free:∀{H':Hp}{b:Addr},tq x H H'->b≠x->H' b=none->H b=none:=fun{H' b} bt n e=>by
   cases q:H b with
   |none=>rfl
   |some o=>
    have:=bt _ _ n q;rw[e]at this;cases this
  have Th:=free bt Ku uF;have l5:=i9 (fs:=AN) (f:="tags") (v:=.ref pt);have jo:∀{H':Hp}{fs:List (Str×V)}{b:Addr}{o:HO},b≠x->H' b=some o->upd H' x (.ins cX dx fs) b=some o:=fun n e=>by rw[bM n];exact e
  have bt:tq x H (upd (upd H3 pt (.dK [])) x (.ins cX dx (aD "tags" (.ref pt) AN))):=(bt.trans s3.but).trans LZ;have xU:=jo (fs:=aD "tags" (.ref pt) AN) Tj (s3 _ _ xU);have vX:=jo (fs:=aD "tags" (.ref pt) AN) Ku vX;have M:Mb cF (upd (upd H3 pt (.dK [])) x (.ins cX dx (aD "tags" (.ref pt) AN))) pm iy []:=by obtain⟨d2,f2,g1,g2⟩:=(M.same s3).ex;exact⟨⟨d2,f2,jo nx g1,g2⟩,jo DK (s3 _ _ M.hs)⟩
  have J9:upd (upd H3 pt (.dK [])) x (.ins cX dx (aD "tags" (.ref pt) AN)) x=some (.ins cX dx (aD "tags" (.ref pt) AN)):=bX;generalize upd (upd H3 pt (.dK [])) x (.ins cX dx (aD "tags" (.ref pt) AN))=H4 at bt xU vX M J9⊢;clear s3 uF PU;walk_at"rd";intro pg rS;have Np:pg≠x:=fun z=>by rw[z,J9]at rS;cases rS
  have s5:=fV (o:=.dK []) rS;have ngt:=i8 vX rS;have S9:=i8 M.hs rS;refine lU (s5 _ _ J9) T.bA T.eX (by omega) ?_;have Tg:=free bt Np rS;refine k ⟨x,pm,iy,pt,pg⟩ _ rfl ((bt.trans s5.but).trans LZ) Kr uW Th Tg ⟨⟨dx,_,pr,bX,?_,jo Tj (s5 _ _ xU)⟩,?_,⟨[],jo Ku (s5 _ _ vX),fun y=>.inl ⟨rfl,rfl⟩,az _⟩,⟨[],jo Np bX,fun y=>.inl ⟨rfl,rfl⟩,az _⟩,az _,ngt,nts.symm,S9.symm,nx.symm⟩
  ·rw[<-WO];exact FS.G2 _ _ _ _ _ _
  ·obtain⟨d2,f2,g1,g2⟩:=(M.same s5).ex;exact⟨⟨d2,f2,jo nx g1,g2⟩,jo DK (s5 _ _ M.hs)⟩
inductive BY(C Cm:Addr)(vs:List V)(H:Hp)(Q:VK)(E:XK):Prop|mk (a most nm tg gs ck ch N:_) (h1:vs=[.ref a.p]) (h2:Sx C Cm H a most nm tg gs ck ch N) (h3:∀l,H l=none->Q (.ref l) (upd H l (.lst (yJ nm)))):BY C Cm vs H Q E
include T in
theorem Yv:di P w K mg base (fJ P w) 2 cX "names" ["self"] [[]] (BY cX cF):=by
 have jz:=Yk P w base T;refine T.tS.okN (k:=1) zkt (fun vs H Q E h=>?_) (fun f dF A outer s H vs Q E hr h=>?_)
 ·obtain⟨a,most,nm,tg,gs,ck,ch,N,rfl,_⟩:=h;rfl
 ·obtain⟨a,most,nm,tg,gs,ck,ch,N,rfl,S,k⟩:=h;refine⟨_,(dD (gZ (yK (d7:=[]) jz (by simp) T.d8 (hr.mono (by decide)) bj (eT (pv 0) rfl)))),?_⟩;show jF _ _ [some (.ref a.p)] H;obtain⟨dx,fs,pr,hp,ft,kI⟩:=S.ex;obtain⟨dm,fm,oF,Ic,pU,gw⟩:=S.mb.ex;walk_at"rd";refine eL hp T.bA T.fj ft.me ?_;exact ig oF (pU _ (by decide+kernel)) ⟨a.pm,a.ps,nm,rfl,S.mb,k⟩
inductive BU(C Cm:Addr)(vs:List V)(H:Hp)(Q:VK)(E:XK):Prop|mk (a most nm tg gs ck ch N x:_) (h1:vs=[.ref a.p,.str x]) (h2:Sx C Cm H a most nm tg gs ck ch N) (h3:N<900) (h4:∀H',mU a H H'->Sx C Cm H' a most nm (iz tg x 0) (iz gs x 0) ck ch (N+2)->Q .cy H'):BU C Cm vs H Q E
include T in
theorem zlw:di P w K mg base (fJ P w) 3 cX "enter" ["self","name"] [[]] (BU cX cF):=by
 have fW:=Jj P w base T;refine T.tR.okN (k:=2) zks (fun vs H Q E h=>?_) (fun f dF A outer s H vs Q E hr h=>?_)
 ·obtain⟨a,most,nm,tg,gs,ck,ch,N,x,rfl,_⟩:=h;rfl
 ·obtain⟨a,most,nm,tg,gs,ck,ch,N,x,rfl,S,hN,k⟩:=h;refine⟨_,(dJ (Du (dS hr) (eT (pv 0) rfl) (pv 1) (kB fW (hr.mono (by decide)) rfl bj (aS bU (aS bU bP))) rfl) (dD (Du (dS hr) (eT (pv 0) rfl) (pv 1) (kB fW (hr.mono (by decide)) rfl bj (aS bU (aS bU bP))) rfl))),?_⟩;show dW _ _ _ [some (.ref a.p),some (.str x)] H;walk_at"s";refine⟨0,1,1,rfl,by decide,Sw.Sz.one _,fun _ q hq=>?_,fun z=>absurd z (by decide)⟩;rw[IB];have sn:=fV (o:=.tup (fq 0)) hq;have zo:upd H q (.tup (fq 0)) q=some (.tup (fq 0)):=bX;have S:=S.same sn;generalize upd H q (.tup (fq 0))=H1 at sn zo S⊢;obtain⟨dx,fs,pr,hp,ft,kI⟩:=S.ex;obtain⟨kvs,uF,hv,JW⟩:=S.dt.ex;walk_at"rd";refine eL hp T.bA T.iO ft.ta ?_;walk_at"rd";refine⟨_,lW.k (k:=aC x) uF (gD (by omega)),hR _ _ ?_⟩;have EA:=K9 kvs (aC x:Key) (.ref q);have S:=S.IF (gC N) (mh.put (x:=x) (r:=0) uF hv (by omega) zo);have ow:mU a H _:=sn.own.trans (zJ (a:=a) (H:=H1) (o:=.dK (fU kvs (aC x) (.ref q))));generalize upd H1 a.pt (.dK (fU kvs (aC x) (.ref q)))=H2 at S ow⊢;clear sn zo hp ft kI uF hv JW EA hq;walk_at"rd";refine⟨0,1,1,rfl,by decide,Sw.Sz.one _,fun _ q hq=>?_,fun z=>absurd z (by decide)⟩;rw[IB];have sn:=fV (o:=.tup (fq 0)) hq;have zo:upd H2 q (.tup (fq 0)) q=some (.tup (fq 0)):=bX;have S:=S.same sn;generalize upd H2 q (.tup (fq 0))=H3 at sn zo S⊢;obtain⟨dx,fs,pr,hp,ft,kI⟩:=S.ex;obtain⟨kvs,rS,hv,JW⟩:=S.dg.ex;walk_at"rd";refine eL hp T.bA T.eX ft.gr ?_;walk_at"rd";refine⟨_,lW.k (k:=aC x) rS (gD (by omega)),?_⟩;have EA:=K9 kvs (aC x:Key) (.ref q);exact k _ ((ow.trans sn.own).trans wV) (S.IE (gC (N+1)) (mh.put (x:=x) (r:=0) rS hv (by omega) zo))
inductive IM(cT cS C Cm:Addr)(vs:List V)(H:Hp)(Q:VK)(E:XK):Prop|mk (a most nm tg gs ck ch N x s:_) (h1:vs=[.ref a.p,.str x,.int s]) (h2:Sx C Cm H a most nm tg gs ck ch N) (h3:N<890) (h4:(bD nm x≠none->Rs cT H E)) (h5:(bD nm x=none->¬(1<=s/\s<=1000000)->Rs cS H E)) (h6:(bD nm x=none->1<=s/\s<=1000000->∀H',mU a H H'->Sx C Cm H' a most (nm++[(x,s)]) (iz tg x 0) (iz gs x 0) ck ch (N+3)->Q .cy H')):IM cT cS C Cm vs H Q E
include T in
theorem zpr:di P w K mg base (fJ P w) 4 cX "put" ["self","name","share"] [[]] (IM cY cO cX cF):=by
 have kT:=YN P w base T;have uw:=zlw P w base T;refine T.wm.r9 (k:=3) znh (fun vs H Q E h=>?_) (fun f dF A outer s H vs Q E hr h=>?_)
 ·obtain⟨a,most,nm,tg,gs,ck,ch,N,x,s,rfl,_⟩:=h;rfl
 ·obtain⟨a,most,nm,tg,gs,ck,ch,N,x,s,rfl,S,hN,kt,ks,k⟩:=h;refine⟨_,(dJ (jV (iB (d7:=[]) kT (by simp) T.d8 (hr.mono (by decide)) eE (eT (pv 0) rfl) (aS (pv 1) (aS (pv 2) bP)))) (dD (jV (iB (d7:=[]) uw (by simp) T.bA (hr.mono (by decide)) eE (pv 0) (aS (pv 1) bP))))),?_⟩;show dW _ _ _ [some (.ref a.p),some (.str x),some (.int s)] H;obtain⟨dx,fs,pr,hp,ft,kI⟩:=S.ex;obtain⟨dm,fm,oF,Ic,pU,gw⟩:=S.mb.ex;have nl:=S.nl;walk_at"s";refine eL hp T.bA T.fj ft.me ?_;refine ig oF (pU _ (by decide+kernel)) ⟨a.pm,a.ps,nm,x,s,rfl,S.mb,by omega,kt,ks,fun hx hs=>hR _ _ ?_⟩;have S:=S.EO (C9:=nm++[(x,s)]) (gC N) (by simp;omega);have ow:mU a H (upd H a.ps (.dK (kvsOf (nm++[(x,s)])))):=Iw;generalize upd H a.ps (.dK (kvsOf (nm++[(x,s)])))=H1 at S ow⊢;obtain⟨dx,fs,pr,hp,ft,kI⟩:=S.ex;walk_at"rd";exact ig hp (ft.x9 _) ⟨a,most,_,tg,gs,ck,ch,N+1,x,rfl,S,by omega,fun H' o' S'=>k hx hs H' (ow.trans o') S'⟩
inductive Ce(cC C Cm:Addr)(vs:List V)(H:Hp)(Q:VK)(E:XK):Prop|mk (a most nm tg gs ck ch N x:_) (h1:vs=[.ref a.p,.str x]) (h2:Sx C Cm H a most nm tg gs ck ch N) (h3:(bD nm x=none->Rs cC H E)) (h4:∀s,bD nm x=some s->Q (.int s) H):Ce cC C Cm vs H Q E
include T in
theorem zih:di P w K mg base (fJ P w) 3 cX "share_of" ["self","name"] [[]] (Ce cG cX cF):=by
 have g9:=XV P w base T;refine T.pM.r9 (k:=2) zhj (fun vs H Q E h=>?_) (fun f dF A outer s H vs Q E hr h=>?_)
 ·obtain⟨a,most,nm,tg,gs,ck,ch,N,x,rfl,_⟩:=h;rfl
 ·obtain⟨a,most,nm,tg,gs,ck,ch,N,x,rfl,S,kx,k⟩:=h;refine⟨_,(dD (gZ (iB (d7:=[]) g9 (by simp) T.d8 (hr.mono (by decide)) eE (eT (pv 0) rfl) (aS (pv 1) bP)))),?_⟩;show jF _ _ [some (.ref a.p),some (.str x)] H;obtain⟨dx,fs,pr,hp,ft,kI⟩:=S.ex;obtain⟨dm,fm,oF,Ic,pU,gw⟩:=S.mb.ex;walk_at"rd";refine eL hp T.bA T.fj ft.me ?_;exact ig oF (pU _ (by decide+kernel)) ⟨a.pm,a.ps,nm,x,rfl,S.mb,kx,k⟩
inductive u4(cC C Cm:Addr)(vs:List V)(H:Hp)(Q:VK)(E:XK):Prop|mk (a most nm tg gs ck ch N x:_) (h1:vs=[.ref a.p,.str x]) (h2:Sx C Cm H a most nm tg gs ck ch N) (h3:(bD nm x=none->Rs cC H E)) (h4:(bD nm x≠none->∃t,tg x=some t/\Sw.fP 5000 t/\Sw.fP 5000 ck/\∀q,H q=none->Q (.ref q) (upd H q (.tup (fq (max t ck)))))):u4 cC C Cm vs H Q E
include T in
theorem zlb:di P w K mg base (fJ P w) 3 cX "stands" ["self","name"] [[]] (u4 cG cX cF):=by
 have dU:=Qq P w base T;have rK:=ZZ P w base T;refine T.r6.r9 (k:=2) zjj (fun vs H Q E h=>?_) (fun f dF A outer s H vs Q E hr h=>?_)
 ·obtain⟨a,most,nm,tg,gs,ck,ch,N,x,rfl,_⟩:=h;rfl
 ·obtain⟨a,most,nm,tg,gs,ck,ch,N,x,rfl,S,kx,k⟩:=h;refine⟨_,(dJ (jV (iB (d7:=[]) dU (by simp) T.d8 (hr.mono (by decide)) eE (eT (pv 0) rfl) (aS (pv 1) bP))) (dD (gZ (kB rK (hr.mono (by decide)) rfl eE (aS (sI (dS hr) (eT (pv 0) rfl) (pv 1) (fun _ _=>rfl)) (aS (eT (pv 0) rfl) bP)))))),?_⟩;show dW _ _ _ [some (.ref a.p),some (.str x)] H;obtain⟨dx,fs,pr,hp,ft,kI⟩:=S.ex;obtain⟨dm,fm,oF,Ic,pU,gw⟩:=S.mb.ex;obtain⟨kvs,uF,hv,JW⟩:=S.dt.ex;walk_at"s";refine eL hp T.bA T.fj ft.me ?_;refine ig oF (pU _ (by decide+kernel)) ⟨a.pm,a.ps,nm,x,rfl,S.mb,fun hx=>hR _ _ ?_,kx⟩;obtain⟨t,ht,zt,zc,k⟩:=k hx;walk_at"rd";refine eL hp T.bA T.iO ft.ta ?_;walk_at"rd";rcases hv x with⟨z,_⟩ |⟨r,q,e1,e2,e3⟩
  ·rw[ht]at z;cases z
  ·rw[ht]at e1;cases e1
   have hg:=g7.k (k:=aC x) uF;rw[e2]at hg;refine⟨.ref q,hg,?_⟩;refine eL hp T.bA T.gE ft.re ?_;exact⟨q,pr,t,ck,rfl,e3,kI,zt,zc,k⟩
inductive zN(C Cm:Addr)(vs:List V)(H:Hp)(Q:VK)(E:XK):Prop|mk (a most nm tg gs ck ch N x s g len:_) (h1:vs=[.ref a.p,.str x,.int len]) (h2:Sx C Cm H a most nm tg gs ck ch N) (h3:N<900) (h4:bD nm x=some s) (h5:tg x≠none) (h6:gs x=some g) (h7:1<=s) (h8:s<=1000000) (h9:0<=len) (yH:len<=1000000) (BE:Sw.fP 2490 ck) (JP:Sw.fP 5000 g) (JQ:∀H',mU a H H'->Sx C Cm H' a most nm (iz tg x (ck+(len:Rat) / (s:Rat))) (iz gs x (max g ((len:Rat) / (s:Rat)))) ck ch (N+2)->Q .cy H'):zN C Cm vs H Q E
include T in
theorem zlc:di P w K mg base (fJ P w) 4 cX "charge" ["self","name","length"] [[]] (zN cX cF):=by
 have fW:=Jj P w base T;have Aw:=zyt P w base T;have rK:=ZZ P w base T;have p9:=zih P w base T;refine T.rY.okN (k:=3) lR (fun vs H Q E h=>?_) (fun f dF A outer s H vs Q E hr h=>?_)
 ·obtain⟨a,most,nm,tg,gs,ck,ch,N,x,s,g,len,rfl,_⟩:=h;rfl
 ·obtain⟨a,most,nm,tg,gs,ck,ch,N,x,s,g,len,rfl,S,hN,hx,ht,hg,s0,s1,n0,n1,zc,zg,k⟩:=h;refine⟨_,(dJ (ju (i:=3) lR.nd rfl (kB fW (hr.mono (by decide)) rfl bj (aS (pv 2) (aS (iB (d7:=[]) p9 (by simp) T.bA (hr.mono (by decide)) bj (pv 0) (aS (pv 1) bP)) bP)))) (dJ (Du (dS hr) (eT (pv 0) rfl) (pv 1) (kB Aw (hr.mono (by decide)) rfl bj (aS (eT (pv 0) rfl) (aS (pv 3) bP))) rfl) (dD (Du (dS hr) (eT (pv 0) rfl) (pv 1) (kB rK (hr.mono (by decide)) rfl bj (aS (sI (dS hr) (eT (pv 0) rfl) (pv 1) (fun _ _=>rfl)) (aS (pv 3) bP))) rfl)))),?_⟩;show dW _ _ _ [some (.ref a.p),some (.str x),some (.int len),none] H;have zs:Sw.Sz 70 s:=Sw.Sz.sf (by omega) (by omega);have zn:Sw.Sz 70 len:=Sw.Sz.sf (by omega) (by omega);have zd:Sw.fP 2490 ((len:Rat) / (s:Rat)):=(Sw.fP.of (by omega) rfl zn zs).mono (by decide);obtain⟨dx,fs,pr,hp,ft,kI⟩:=S.ex;walk_at"s";refine ig hp (ft.x9 _) ⟨a,most,nm,tg,gs,ck,ch,N,x,rfl,S,fun z=>(by rw[hx]at z;cases z),fun s' e'=>?_⟩;rw[hx]at e';cases e'
  refine⟨len,s,70,rfl,by decide,zs,fun _ q hq=>hR _ _ ?_,fun z=>absurd z (by omega)⟩;have sn:=fV (o:=.tup (fq ((len:Rat) / (s:Rat)))) hq;have zo:upd H q (.tup (fq ((len:Rat) / (s:Rat)))) q=some (.tup (fq ((len:Rat) / (s:Rat)))):=bX;have S:=S.same sn;generalize upd H q (.tup (fq ((len:Rat) / (s:Rat))))=H1 at sn zo S⊢;obtain⟨dx,fs,pr,hp,ft,kI⟩:=S.ex;walk_at"s";refine eL hp T.bA T.gE ft.re ?_;refine⟨pr,q,ck,_,2490,rfl,kI,zo,by decide,zc,zd,fun q2 W1=>?_⟩;have Qg:=fV (o:=.tup (fq (ck+(len:Rat) / (s:Rat)))) W1;have J7:upd H1 q2 (.tup (fq (ck+(len:Rat) / (s:Rat)))) q2=some (.tup (fq (ck+(len:Rat) / (s:Rat)))):=bX;have S:=S.same Qg;have zo:=Qg _ _ zo;have sn:=sn.trans Qg;generalize upd H1 q2 (.tup (fq (ck+(len:Rat) / (s:Rat))))=H2 at sn zo J7 S⊢;obtain⟨dx,fs,pr,hp,ft,kI⟩:=S.ex;obtain⟨kvs,uF,hv,JW⟩:=S.dt.ex;walk_at"rd";refine eL hp T.bA T.iO ft.ta ?_;walk_at"rd";refine⟨_,lW.k (k:=aC x) uF (gD (by omega)),hR _ _ ?_⟩;have EA:=K9 kvs (aC x:Key) (.ref q2);have S:=S.IF (gC N) (mh.put (x:=x) uF hv (by omega) J7);have ow:mU a H _:=sn.own.trans (zJ (a:=a) (H:=H2) (o:=.dK (fU kvs (aC x) (.ref q2))));have zo:upd H2 a.pt (.dK (fU kvs (aC x) (.ref q2))) q=some (.tup (fq ((len:Rat) / (s:Rat)))):=by rw[bM (b8 zo uF (by intro z;cases z))];exact zo
  generalize upd H2 a.pt (.dK (fU kvs (aC x) (.ref q2)))=H3 at S ow zo⊢;clear sn Qg J7 hp ft kI uF hv JW EA hq W1;obtain⟨dx,fs,pr,hp,ft,kI⟩:=S.ex;obtain⟨kvs,rS,hv,JW⟩:=S.dg.ex;walk_at"rd";refine eL hp T.bA T.eX ft.gr ?_;walk_at"rd";rcases hv x with⟨z,_⟩ |⟨r,q3,e1,e2,e3⟩
  ·rw[hg]at z;cases z
  ·rw[hg]at e1;cases e1
   have hd:=g7.k (k:=aC x) rS;rw[e2]at hd;refine⟨.ref q3,hd,?_⟩;refine⟨q3,q,g,_,rfl,e3,zo,zg,zd.mono (by decide),fun q4 hq4=>?_⟩;have sn:=fV (o:=.tup (fq (max g ((len:Rat) / (s:Rat))))) hq4;have M5:upd H3 q4 (.tup (fq (max g ((len:Rat) / (s:Rat))))) q4=some (.tup (fq (max g ((len:Rat) / (s:Rat))))):=bX;have S:=S.same sn;generalize upd H3 q4 (.tup (fq (max g ((len:Rat) / (s:Rat)))))=H4 at sn M5 S⊢;obtain⟨dx,fs,pr,hp,ft,kI⟩:=S.ex;obtain⟨kvs,rS,hv,JW⟩:=S.dg.ex;walk_at"rd";refine eL hp T.bA T.eX ft.gr ?_;walk_at"rd";refine⟨_,lW.k (k:=aC x) rS (gD (by omega)),?_⟩;have EA:=K9 kvs (aC x:Key) (.ref q4);exact k _ ((ow.trans sn.own).trans wV) (S.IE (gC (N+1)) (mh.put (x:=x) rS hv (by omega) M5))
theorem V1(y:Str)(rd:List Str):GV (.str y) (rd.map V.str)=decide (y∈rd):=by
 unfold GV;rw[Bp];rw[eU,jJ,decide_eq_true_eq];constructor
 ·rintro⟨z,hz,e⟩;have e:BD (.str z) (.str y)=true:=e;have:z=y:=by simpa [BD]using e
  rw[<-this];exact hz
 ·intro h;exact⟨y,h,by show BD (.str y) (.str y)=true;simp[BD]⟩
theorem Qz(rd:List Str):(rd.map V.str).all qB=true:=by rw[jI];intro v hv;obtain⟨x,_,rfl⟩:=av.mp hv;rfl
inductive EV(C Cm:Addr)(vs:List V)(H:Hp)(Q:VK)(E:XK):Prop|mk (a most nm tg gs ck ch N rl rd:_) (tf:Str->Rat) (h1:vs=[.ref a.p,.ref rl]) (h2:Sx C Cm H a most nm tg gs ck ch N) (h3:H rl=some (.lst ((rd:List Str).map V.str))) (h4:nm.length<=900) (h5:(∀x∈nm.map (·.1),tg x=some (tf x)/\Sw.fP 5000 (tf x))) (h6:Sw.fP 5000 ck) (h7:(∃x∈nm.map (·.1),x∈rd)) (h8:∀x H',gX (fun x=>decide (x∈rd)) (fun x=>max (tf x) ck) (nm.map (·.1)) none=some x->mU a H H'->Sx C Cm H' a most nm tg gs (max (tf x) ck) ch N->Q (.str x) H'):EV C Cm vs H Q E
include T in
theorem znn:di P w K mg base (fJ P w) 4 cX "pick" ["self","ready"] [[]] (EV cX cF):=by
 have iH:=Yv P w base T;have jA:=zlb P w base T;have iF:=L0 P w base T;refine T.uM.okN (k:=3) iP (fun vs H Q E h=>?_) (fun f dF A outer s H vs Q E hr h=>?_)
 ·obtain⟨a,most,nm,tg,gs,ck,ch,N,rl,rd,tf,rfl,_⟩:=h;rfl
 ·obtain⟨a,most,nm,tg,gs,ck,ch,N,rl,rd,tf,rfl,S,vB,hn,ht,zc,hex,k⟩:=h;refine⟨_,(dJ (ju (i:=2) iP.nd rfl sZ) (dJ (DS PassesOwn.never rfl (yr K rfl (yK (d7:=[]) iH (by simp) T.bA (hr.mono (by decide)) bj (pv 0))) (nX (i:=3) iP.nd rfl (by first|left;rfl|right;rfl)) (dD (dw (PW.pt (F8 (jG (Wb K rfl) (pv 3) (pv 1) rfl) (Ji (PW.pt (pw_or (jG V8 (pv 2) sZ (jH _)) (OV (Cv (kB iF (hr.mono (by decide)) rfl bj (aS (iB (d7:=[]) jA (by simp) T.bA (hr.mono (by decide)) bj (pv 0) (aS (pv 3) bP)) (aS (iB (d7:=[]) jA (by simp) T.bA (hr.mono (by decide)) bj (pv 0) (aS (pv 2) bP)) bP)))))))))) (dD (ju (i:=2) iP.nd rfl (pv 3))) jP))) (dJ (lT (pv 0) (iB (d7:=[]) jA (by simp) T.bA (hr.mono (by decide)) bj (pv 0) (aS (pv 2) bP)) rfl) (dD (gZ (pv 2)))))),?_⟩;show dW _ _ _ [some (.ref a.p),some (.ref rl),none,none] H;have shx:∀x∈nm.map (·.1),bD nm x≠none:=fun x h=>by obtain⟨p,hp,rfl⟩:=av.mp h;exact Y9 (s:=p.2) hp
  have zst:∀x∈nm.map (·.1),Sw.fP 5000 (max (tf x) ck):=fun x h=>by
   rw[qw];split
   ·exact zc
   ·exact(ht x h).2
  have Bb:∀{x:Str}{H':Hp}{Q:VK}{E:XK},x∈nm.map (·.1)->Sx cX cF H' a most nm tg gs ck ch N->(∀q Az,bE H' Az->Az q=some (.tup (fq (max (tf x) ck)))->Q (.ref q) Az)->sW cX "stands" (.ref a.p) H' (u4 cG cX cF [.ref a.p,.str x] H' Q E):=fun{x H' Q E} hx S k=>by obtain⟨dx,fs,pr,hp,ft,kI⟩:=S.ex;exact ig hp (ft.x9 _) ⟨a,most,nm,tg,gs,ck,ch,N,x,rfl,S,fun z=>absurd z (shx x hx),fun _=>⟨tf x,(ht x hx).1,(ht x hx).2,zc,fun q hq=>k q _ (fV hq) bX⟩⟩
  walk_at"s";refine hR _ _ ?_;refine bJ fun R hR=>?_;refine DM fun Z hZ=>?_;walk_at"rd";obtain⟨dx,fs,pr,hp,ft,kI⟩:=S.ex;refine ig hp (ft.x9 _) ⟨a,most,nm,tg,gs,ck,ch,N,rfl,S,fun l hl=>?_⟩;have sn:=fV (o:=.lst (yJ nm)) hl;have jT:upd H l (.lst (yJ nm)) l=some (.lst (yJ nm)):=bX;refine⟨l,rfl,⟨_,.of jT⟩,hZ _ _ ?_⟩;have S:=S.same sn;have vB:=sn _ _ vB;generalize upd H l (.lst (yJ nm))=H1 at sn jT S vB⊢;clear hp ft kI hl;refine Hz (K:=K) (a:=l) (xs:=yJ nm) (fun i σ H'=>bE H1 H'/\∃v3,σ=[some (.ref a.p),some (.ref rl),some (oQ (gX (fun x=>decide (x∈rd)) (fun x=>max (tf x) ck) ((nm.map (·.1)).take i) none)),v3]) ⟨bE.refl _,none,rfl⟩ (fun i σ H' _⟨sm,_⟩=>.of (sm _ _ jT)) ?_ ?_
  ·rintro i x σ H2 hx ⟨sm,v3,rfl⟩;obtain⟨y,hy,rfl⟩:∃y,(nm.map (·.1))[i]?=some y/\V.str y=x:=by
    unfold yJ at hx;rw[aP]at hx⊢;cases e:nm[i]? with
    |none=>rw[e]at hx;cases hx
    |some z=>rw[e]at hx;exact⟨z.1,rfl,aq hx⟩
   have PX:=bh hy;have S:=S.same sm;have vB:=sm _ _ vB;have et:(nm.map (·.1)).take (i+1)=(nm.map (·.1)).take i++[y]:=by rw[t9,hy];rfl
   have fm:∀z,gX (fun x=>decide (x∈rd)) (fun x=>max (tf x) ck) ((nm.map (·.1)).take i) none=some z->z∈nm.map (·.1):=fun z h=>by
    rcases OF h with⟨h1,_⟩ |h1
    ·exact jR h1
    ·cases h1
   have Nv:=Zq (rd:=fun x=>decide (x∈rd)) (st:=fun x=>max (tf x) ck) (x:=y) (l:=(nm.map (·.1)).take i) (f:=none);rw[<-et]at Nv;generalize gX (fun x=>decide (x∈rd)) (fun x=>max (tf x) ck) ((nm.map (·.1)).take i) none=fo at fm Nv⊢;show rh _ _ _ _ [some (.ref a.p),some (.ref rl),some (oQ fo),some (.str y)] _;refine Bj fun R hR=>?_;have go:∀v H',bE H2 H'->v=oQ (gX (fun x=>decide (x∈rd)) (fun x=>max (tf x) ck) ((nm.map (·.1)).take (i+1)) none)->R [some (.ref a.p),some (.ref rl),some v,some (.str y)] H':=fun v H' s e=>hR _ _ ⟨sm.trans s,some (.str y),by rw[e]⟩;walk_at"rd";refine⟨rl,_,rfl,.inl (.of vB),rfl,Qz rd,_,rfl,?_⟩;rw[show(if false=true then !GV (.str y) (rd.map V.str)else GV (.str y) (rd.map V.str))=decide (y∈rd)from V1 y rd];by_cases hr:y∈rd
   ·rw[if_pos (decide_eq_true hr)];have e1:(fun x=>decide (x∈rd)) y=true:=decide_eq_true hr;cases fo with
    |none=>
     rw[if_pos (show oQ none=V.cy from rfl)];refine go _ _ (bE.refl _) ?_;rw[Nv,if_pos (by show((fun x=>decide (x∈rd)) y && zw _ y none)=true;rw[e1];rfl)];rfl
    |some z=>
     rw[if_neg (by intro w;cases w)];have W4:=fm z rfl;refine Bb PX S fun q1 H3 s3 h1=>?_;refine Bb W4 (S.same s3) fun q2 H4 s4 h2=>?_;refine⟨q1,q2,_,_,rfl,s4 _ _ h1,h2,zst y PX,zst z W4,_,rfl,?_⟩;have Xl:gX (fun x=>decide (x∈rd)) (fun x=>max (tf x) ck) ((nm.map (·.1)).take (i+1)) none=if decide (max (tf y) ck<max (tf z) ck)=true then some y else some z:=by
      rw[Nv];have:((fun x=>decide (x∈rd)) y && zw (fun x=>max (tf x) ck) y (some z))=decide (max (tf y) ck<max (tf z) ck):=by rw[e1];rfl
      rw[this]
     by_cases hc:max (tf y) ck<max (tf z) ck
     ·rw[if_pos (decide_eq_true hc)];refine go _ _ (s3.trans s4) ?_;rw[Xl,if_pos (decide_eq_true hc)];rfl
     ·rw[if_neg (by simp[hc])];refine go _ _ (s3.trans s4) ?_;rw[Xl,if_neg (by simp[hc])]
   ·rw[if_neg (by simp[hr])];refine go _ _ (bE.refl _) ?_;have e1:(fun x=>decide (x∈rd)) y=false:=decide_eq_false hr;rw[Nv,if_neg (by rw[decide_eq_false hr];simp)]
  ·rintro σ H2 ⟨sm,v3,rfl⟩;refine hR _ _ ?_;have gw:(yJ nm).length=(nm.map (·.1)).length:=by unfold yJ;rw[ai,ai]
   rw[gw,bF];have hso:gX (fun x=>decide (x∈rd)) (fun x=>max (tf x) ck) (nm.map (·.1)) none≠none:=VC (.inr (by obtain⟨x,h1,h2⟩:=hex;exact⟨x,h1,decide_eq_true h2⟩));cases e:gX (fun x=>decide (x∈rd)) (fun x=>max (tf x) ck) (nm.map (·.1)) none with
   |none=>exact absurd e hso
   |some y=>
    have PX:y∈nm.map (·.1):=by
     rcases OF e with⟨h1,_⟩ |h1
     ·exact h1
     ·cases h1
    have S:=S.same sm;refine bJ fun R hR=>?_;unfold oQ;walk_at"rd";refine Bb PX S fun q1 H3 s3 h1=>?_;have S:=S.same s3;obtain⟨dx,fs,pr,hp,ft,kI⟩:=S.ex;refine lU hp T.bA T.gE (by have:=ft.len;omega) (hR _ _ ?_);walk_at"rd";exact k y _ e (((sn.trans sm).trans s3).own.trans zI) (S.wY hp ft.KA h1)
inductive EU(C Cm:Addr)(vs:List V)(H:Hp)(Q:VK)(E:XK):Prop|mk (a most nm tg gs ck N x s g len:_) (h1:vs=[.ref a.p,.int len]) (h2:Sx C Cm H a most nm tg gs ck (.str x) N) (h3:N<900) (h4:bD nm x=some s) (h5:tg x≠none) (h6:gs x=some g) (h7:1<=s) (h8:s<=1000000) (h9:0<=len) (yH:len<=1000000) (BE:Sw.fP 2490 ck) (JP:Sw.fP 5000 g) (JQ:∀H',mU a H H'->Sx C Cm H' a most nm (iz tg x (ck+(len:Rat) / (s:Rat))) (iz gs x (max g ((len:Rat) / (s:Rat)))) ck (.str x) (N+2)->Q .cy H'):EU C Cm vs H Q E
include T in
theorem zps:di P w K mg base (fJ P w) 5 cX "pay" ["self","length"] [[]] (EU cX cF):=by
 have tI:=zlc P w base T;refine T.wk.okN (k:=4) zni (fun vs H Q E h=>?_) (fun f dF A outer s H vs Q E hr h=>?_)
 ·obtain⟨a,most,nm,tg,gs,ck,N,x,s,g,len,rfl,_⟩:=h;rfl
 ·obtain⟨a,most,nm,tg,gs,ck,N,x,s,g,len,rfl,S,hN,hx,ht,hg,s0,s1,n0,n1,zc,zg,k⟩:=h;refine⟨_,(dD (jV (iB (d7:=[]) tI (by simp) T.bA (hr.mono (by decide)) bj (pv 0) (aS (eT (pv 0) rfl) (aS (pv 1) bP))))),?_⟩;show(_:TS) _ [some (.ref a.p),some (.int len)] H;obtain⟨dx,fs,pr,hp,ft,kI⟩:=S.ex;walk_at"rd";refine ig hp (ft.x9 _) ?_;refine eL hp T.bA T.gP ft.ch ?_;exact⟨a,most,nm,tg,gs,ck,.str x,N,x,s,g,len,rfl,S,hN,hx,ht,hg,s0,s1,n0,n1,zc,zg,k⟩
inductive zO(cR cC C Cm:Addr)(vs:List V)(H:Hp)(Q:VK)(E:XK):Prop|mk (a most nm tg gs ck ch N rl rd:_) (tf:Str->Rat) (h1:vs=[.ref a.p,.ref rl]) (h2:Sx C Cm H a most nm tg gs ck ch N) (h3:H rl=some (.lst ((rd:List Str).map V.str))) (h4:nm.length<=900) (h5:(∀x∈nm.map (·.1),tg x=some (tf x)/\Sw.fP 5000 (tf x))) (h6:Sw.fP 5000 ck) (h7:(rd=[]->Rs cR H E)) (h8:(rd≠[]->(∃x∈rd,bD nm x=none)->Rs cC H E)) (h9:(rd≠[]->(∀x∈rd,bD nm x≠none)->∀x H',gX (fun x=>decide (x∈rd)) (fun x=>max (tf x) ck) (nm.map (·.1)) none=some x->mU a H H'->Sx C Cm H' a most nm tg gs (max (tf x) ck) (.str x) N->Q (.str x) H')):zO cR cC C Cm vs H Q E
include T in
theorem zld:di P w K mg base (fJ P w) 5 cX "choose" ["self","ready"] [[]] (zO cU cG cX cF):=by
 have dU:=Qq P w base T;have vN:=znn P w base T;refine T.rZ.r9 (k:=4) lS (fun vs H Q E h=>?_) (fun f dF A outer s H vs Q E hr h=>?_)
 ·obtain⟨a,most,nm,tg,gs,ck,ch,N,rl,rd,tf,rfl,_⟩:=h;rfl
 ·obtain⟨a,most,nm,tg,gs,ck,ch,N,rl,rd,tf,rfl,S,vB,hn,ht,zc,kr,kc,k⟩:=h;refine⟨_,(dJ (dw (DR (VJ K rfl (pv 1))) (dD (vp K rfl rfl vt (vE T.qA T.qI rfl T.qQ (aS lF bP)))) jP) (dJ (DS PassesOwn.leaving rfl (yr K rfl (pv 1)) (nX (i:=2) lS.nd rfl (by first|left;rfl|right;rfl)) (dD (jV (iB (d7:=[]) dU (by simp) T.d8 (hr.mono (by decide)) eE (eT (pv 0) rfl) (aS (pv 2) bP))))) (dJ (lT (pv 0) (iB (d7:=[]) vN (by simp) T.bA (hr.mono (by decide)) eE (pv 0) (aS (pv 1) bP)) rfl) (dD (gZ (eT (pv 0) rfl)))))),?_⟩;show dW _ _ _ [some (.ref a.p),some (.ref rl),none] H;walk_at"s";by_cases zh:rd=[]
  ·refine⟨false,.inl ⟨_,.of vB,by rw[zh];rfl⟩,?_⟩;rw[if_pos rfl];exact gA (kr zh) T.rB
  refine⟨true,.inl ⟨_,.of vB,by cases rd with|nil=>exact absurd rfl zh|cons y r=>rfl⟩,?_⟩;rw[if_neg (by decide)];refine hR _ _ ?_;refine bJ fun R hR=>?_;refine DM fun Z hZ=>?_;walk_at"rd";refine⟨⟨_,.of vB⟩,hZ _ _ ?_⟩;obtain⟨dx,fs,pr,hp,ft,kI⟩:=S.ex;obtain⟨dm,fm,oF,Ic,pU,gw⟩:=S.mb.ex;refine Hz (K:=K) (a:=rl) (xs:=rd.map V.str) (fun i σ H'=>H'=H/\(∃v2,σ=[some (.ref a.p),some (.ref rl),v2])/\∀y∈rd.take i,bD nm y≠none) ⟨rfl,⟨none,rfl⟩,fun y h=>absurd h (by simp)⟩ (fun i σ H' _⟨e,_⟩=>by rw[e];exact .of vB) ?_ ?_
  ·rintro i x σ H2 hx ⟨rfl,⟨v2,rfl⟩,al⟩;obtain⟨y,hy,rfl⟩:∃y,rd[i]?=some y/\V.str y=x:=by simpa using hx
   show(_:TS) _ [some (.ref a.p),some (.ref rl),some (.str y)] _;refine Bj fun R hR=>?_;walk_at"rd";refine eL hp T.bA T.fj ft.me ?_;refine ig oF (pU _ (by decide+kernel)) ⟨a.pm,a.ps,nm,y,rfl,S.mb,fun SR=>hR _ _ ⟨rfl,⟨_,rfl⟩,fun z hz=>?_⟩,fun z=>kc zh ⟨y,bh hy,z⟩⟩;rw[YO hy]at hz;rcases ao.mp hz with v|v
   ·exact al z v
   ·rw[au.mp v];exact SR
  ·rintro σ H2 ⟨rfl,⟨v2,rfl⟩,al⟩;rw[ai,bF]at al;have DI:=al;refine hR _ _ ?_;walk_at"s";have hex:∃x∈nm.map (·.1),x∈rd:=by
    cases rd with
    |nil=>exact absurd rfl zh
    |cons y r=>
     have hy:=DI y (by simp);cases e:bD nm y with
     |none=>exact absurd e hy
     |some v=>exact⟨y,av.mpr ⟨_,zrv e,rfl⟩,by simp⟩
   refine ig hp (ft.x9 _) ⟨a,most,nm,tg,gs,ck,ch,N,rl,rd,tf,rfl,S,vB,hn,ht,zc,hex,fun x H3 e ow S3=>?_⟩;obtain⟨dx,fs,pr,hp,ft,kI⟩:=S3.ex;refine lU hp T.bA T.gP (by have:=ft.len;omega) (hR _ _ ?_);have S4:=S3.wY hp (ft.A2 (ch':=.str x)) kI;walk_at"rd";refine eL bX T.bA T.gP oS ?_;exact k zh DI x _ e (ow.trans zI) S4
inductive IS(C Cm:Addr)(vs:List V)(H:Hp)(Q:VK)(E:XK):Prop|mk (x dx most:_) (h1:vs=[.ref x,.int most]) (h2:H x=some (.ins C dx [])) (h3:∀pm iy H',tq x H H'->H pm=none->H iy=none->pm≠x->H' x=some (.ins C dx (aD "chosen" .cy (aD "members" (.ref pm) (aD "most" (.int most) []))))->Mb Cm H' pm iy []->Q .cy H'):IS C Cm vs H Q E
include T in
theorem zgj:Pg P w K mg base (fJ P w) 3 cD "__init__" ["self","most"] (IS cV cF):=by
 have rP:=Z0 P w base T;refine T.nP.okN (k:=2) zfl (fun vs H Q E h=>?_) (fun f dF A outer s H vs Q E hr h=>?_)
 ·obtain⟨x,dx,most,rfl,_⟩:=h;rfl
 ·obtain⟨x,dx,most,rfl,hx,k⟩:=h;refine⟨_,(dJ (lT (pv 0) (pv 1) rfl) (dJ (lT (pv 0) (ZJ (d7:=[]) rP (by simp) (hr.mono (by decide)) bj rfl T.uT) rfl) (dD (lT (pv 0) sZ rfl)))),?_⟩;show dW _ _ _ [some (.ref x),some (.int most)] H;have l1:=i9 (fs:=[]) (f:="most") (v:=.int most);simp only[bG]at l1;walk_at"s";refine lU hx T.aR T.nI (by simp) (hR _ _ ?_);walk_at"s";intro pm dm oF MT _;have nx:pm≠x:=fun z=>by rw[z,bX]at oF;cases oF
  have Kr:H pm=none:=by rw[bM nx]at oF;exact oF
  refine⟨pm,dm,rfl,bX,fun iy H1 bt zk M=>⟨rfl,?_⟩⟩;have s1:=bt.same (Fe oF MT) oF;have wQ:=s1 _ _ bX;have l2:=i9 (fs:=aD "most" (.int most) []) (f:="members") (v:=.ref pm);have xQ:upd H x (.ins cV dx (aD "most" (.int most) [])) iy=none:=(Fe oF MT).free zk;have DK:iy≠x:=fun z=>by rw[z,bX]at xQ;cases xQ
  have uW:H iy=none:=by rw[bM DK]at xQ;exact xQ
  refine lU wQ T.aR T.fQ (by omega) (hR _ _ ?_);walk_at"rd";refine lU bX T.aR T.gO (by omega) ?_;rw[Aa];refine k pm iy _ (fun b o n e=>?_) Kr uW nx bX ?_
  ·rw[bM n];exact s1 _ _ (by rw[bM n];exact e)
  ·obtain⟨d2,f2,g1,g2⟩:=M.ex;exact⟨⟨d2,f2,by rw[bM nx];exact g1,g2⟩,by rw[bM DK];exact M.hs⟩
inductive Cc(C Cm:Addr)(vs:List V)(H:Hp)(Q:VK)(E:XK):Prop|mk (x dx most:_) (h1:vs=[.ref x,.int most]) (h2:H x=some (.ins C dx [])) (h3:∀(a:lV) H',a.p=x->tq x H H'->H a.pm=none->H a.ps=none->H a.pt=none->H a.pg=none->Rx C Cm H' a most [] [] [] none .cy->Q .cy H'):Cc C Cm vs H Q E
include T in
theorem zxw:Fo P w K mg base (fJ P w) 4 cV ["self","most"] [[]] (Cc cV cF):=by
 have oB:=zgj P w base T;refine T.CU.okN (k:=3) zlp (fun vs H Q E h=>?_) (fun f dF A outer s H vs Q E hr h=>?_)
 ·obtain⟨x,dx,most,rfl,_⟩:=h;rfl
 ·obtain⟨x,dx,most,rfl,hx,k⟩:=h;refine⟨_,(dJ (jV (zva oB (hr.mono (by decide)) bj rfl T.uR (aS (pv 0) (aS (pv 1) bP)))) (dJ (lT (pv 0) (Ab bP) rfl) (dJ (lT (pv 0) LR rfl) (dD (lT (pv 0) sZ rfl))))),?_⟩;show dW _ _ _ [some (.ref x),some (.int most)] H;refine bJ fun R hR=>?_;walk_at"rdc";refine⟨x,dx,most,rfl,hx,fun pm iy H1 bt Kr uW nx wQ M=>hR _ _ ?_⟩;have l1:=i9 (fs:=[]) (f:="most") (v:=.int most);have l2:=i9 (fs:=aD "most" (.int most) []) (f:="members") (v:=.ref pm);have l3:=i9 (fs:=aD "members" (.ref pm) (aD "most" (.int most) [])) (f:="chosen") (v:=.cy);simp only[bG]at l1;have DK:iy≠x:=fun z=>by rw[z,hx]at uW;cases uW
  have free:∀{H':Hp}{b:Addr},tq x H H'->b≠x->H' b=none->H b=none:=fun{H' b} bt n e=>by
   cases q:H b with
   |none=>rfl
   |some o=>
    have:=bt _ _ n q;rw[e]at this;cases this
  have jo:∀{H':Hp}{fs:List (Str×V)}{b:Addr}{o:HO},b≠x->H' b=some o->upd H' x (.ins cV dx fs) b=some o:=fun n e=>by rw[bM n];exact e
  generalize Sg:aD "chosen" .cy (aD "members" (.ref pm) (aD "most" (.int most) []))=HZ at wQ l3;walk_at"s";intro pt uF;have Ku:pt≠x:=fun z=>by rw[z,wQ]at uF;cases uF
  have s3:=fV (o:=.lst []) uF;have vX:upd H1 pt (.lst []) pt=some (.lst []):=bX;refine lU (s3 _ _ wQ) T.aR T.gy (by omega) (hR _ _ ?_);have Th:=free bt Ku uF;have l4:=i9 (fs:=HZ) (f:="queue") (v:=.ref pt);have bt:tq x H (upd (upd H1 pt (.lst [])) x (.ins cV dx (aD "queue" (.ref pt) HZ))):=(bt.trans s3.but).trans LZ;have vX:=jo (fs:=aD "queue" (.ref pt) HZ) Ku vX;have M:Mb cF (upd (upd H1 pt (.lst [])) x (.ins cV dx (aD "queue" (.ref pt) HZ))) pm iy []:=by obtain⟨d2,f2,g1,g2⟩:=(M.same s3).ex;exact⟨⟨d2,f2,jo nx g1,g2⟩,jo DK (s3 _ _ M.hs)⟩
  have J9:upd (upd H1 pt (.lst [])) x (.ins cV dx (aD "queue" (.ref pt) HZ)) x=some (.ins cV dx (aD "queue" (.ref pt) HZ)):=bX;generalize upd (upd H1 pt (.lst [])) x (.ins cV dx (aD "queue" (.ref pt) HZ))=H4 at bt vX M J9⊢;clear s3 uF wQ;walk_at"s";intro pg rS;have Np:pg≠x:=fun z=>by rw[z,J9]at rS;cases rS
  have s5:=fV (o:=.dK []) rS;have S9:=i8 M.hs rS;refine lU (s5 _ _ J9) T.aR T.eo (by omega) (hR _ _ ?_);have Tg:=free bt Np rS;have l5:=i9 (fs:=aD "queue" (.ref pt) HZ) (f:="rests") (v:=.ref pg);walk_at"rd";refine lU bX T.aR T.ee (by omega) ?_;rw[Aa];refine k ⟨x,pm,iy,pt,pg⟩ _ rfl ((bt.trans s5.but).trans LZ) Kr uW Th Tg ⟨⟨dx,_,bX,?_⟩,?_,jo Ku (s5 _ _ vX),jo Np bX,S9.symm,nx.symm⟩
  ·rw[<-Sg];exact FR.G2 _ _ _ _ _
  ·obtain⟨d2,f2,g1,g2⟩:=(M.same s5).ex;exact⟨⟨d2,f2,jo nx g1,g2⟩,jo DK (s5 _ _ M.hs)⟩
inductive zR(C Cm:Addr)(vs:List V)(H:Hp)(Q:VK)(E:XK):Prop|mk (a most nm q rs tu ch x:_) (h1:vs=[.ref a.p,.str x]) (h2:Rx C Cm H a most nm q rs tu ch) (h3:q.length<900) (h4:rs.length<900) (h5:bD rs x=none) (h6:∀H',mU a H H'->Rx C Cm H' a most nm (q++[x]) (rs++[(x,0)]) tu ch->Q .cy H'):zR C Cm vs H Q E
include T in
theorem zlx:di P w K mg base (fJ P w) 1 cV "enter" ["self","name"] [[]] (zR cV cF):=by
 refine T.tP.okN (k:=0) zku (fun vs H Q E h=>?_) (fun f dF A outer s H vs Q E hr h=>?_)
 ·obtain⟨a,most,nm,q,rs,tu,ch,x,rfl,_⟩:=h;rfl
 ·obtain⟨a,most,nm,q,rs,tu,ch,x,rfl,S,lq,lr,hx,k⟩:=h;refine⟨_,(dJ (jV (nK bH dN dO F5 (eT (pv 0) rfl) (aS (pv 1) bP))) (dD (Du (dS hr) (eT (pv 0) rfl) (pv 1) bU rfl))),?_⟩;show dW _ _ _ [some (.ref a.p),some (.str x)] H;obtain⟨dx,fs,hp,ft⟩:=S.ex;walk_at"s";refine eL hp T.aR T.gy ft.qu ?_;refine⟨Fg S.hq,Lf S.hq (by rw[ai];omega) (hR _ _ ?_)⟩;have e:q.map V.str++[V.str x]=(q++[x]).map V.str:=by rw[aA];rfl
  rw[e];have S:=S.EN (q':=q++[x]);have ow:mU a H (upd H a.pt (.lst ((q++[x]).map V.str))):=zJ;generalize upd H a.pt (.lst ((q++[x]).map V.str))=H1 at S ow⊢;obtain⟨dx,fs,hp,ft⟩:=S.ex;walk_at"rd";refine eL hp T.aR T.eo ft.re ?_;walk_at"rd";refine⟨_,lW.k (k:=aC x) S.hr (gD (by rw[OE];omega)),?_⟩;rw[zru hx];exact k _ (ow.trans wV) S.BS
inductive zT(cC C Cm:Addr)(vs:List V)(H:Hp)(Q:VK)(E:XK):Prop|mk (a most nm q rs tu ch x:_) (h1:vs=[.ref a.p,.str x]) (h2:Rx C Cm H a most nm q rs tu ch) (h3:(bD nm x=none->Rs cC H E)) (h4:∀s,bD nm x=some s->Q (.int s) H):zT cC C Cm vs H Q E
include T in
theorem zii:di P w K mg base (fJ P w) 3 cV "share_of" ["self","name"] [[]] (zT cG cV cF):=by
 have g9:=XV P w base T;refine T.pL.r9 (k:=2) zhn (fun vs H Q E h=>?_) (fun f dF A outer s H vs Q E hr h=>?_)
 ·obtain⟨a,most,nm,q,rs,tu,ch,x,rfl,_⟩:=h;rfl
 ·obtain⟨a,most,nm,q,rs,tu,ch,x,rfl,S,kx,k⟩:=h;refine⟨_,(dD (gZ (iB (d7:=[]) g9 (by simp) T.d8 (hr.mono (by decide)) eE (eT (pv 0) rfl) (aS (pv 1) bP)))),?_⟩;show jF _ _ [some (.ref a.p),some (.str x)] H;obtain⟨dx,fs,hp,ft⟩:=S.ex;obtain⟨dm,fm,oF,Ic,pU,gw⟩:=S.mb.ex;walk_at"rd";refine eL hp T.aR T.fQ ft.me ?_;exact ig oF (pU _ (by decide+kernel)) ⟨a.pm,a.ps,nm,x,rfl,S.mb,kx,k⟩
inductive Cb(C Cm:Addr)(vs:List V)(H:Hp)(Q:VK)(E:XK):Prop|mk (a most nm q rs tu ch x s:_) (h1:vs=[.ref a.p,.str x]) (h2:Rx C Cm H a most nm q rs tu ch) (h3:bD nm x=some s) (h4:1<=s) (h5:s<=1000000) (h6:1<=most) (h7:most<=1000000) (h8:Q (.int (s*most)) H):Cb C Cm vs H Q E
include T in
theorem zhw:di P w K mg base (fJ P w) 4 cV "full_rest" ["self","name"] [[]] (Cb cV cF):=by
 have pZ:=zii P w base T;refine T.oH.okN (k:=3) zge (fun vs H Q E h=>?_) (fun f dF A outer s H vs Q E hr h=>?_)
 ·obtain⟨a,most,nm,q,rs,tu,ch,x,s,rfl,_⟩:=h;rfl
 ·obtain⟨a,most,nm,q,rs,tu,ch,x,s,rfl,S,hx,s0,s1,m0,m1,k⟩:=h;refine⟨_,(dD (gZ (aT sY (iB (d7:=[]) pZ (by simp) T.aR (hr.mono (by decide)) bj (pv 0) (aS (pv 1) bP)) (eT (pv 0) rfl)))),?_⟩;show jF _ _ [some (.ref a.p),some (.str x)] H;obtain⟨dx,fs,hp,ft⟩:=S.ex;walk_at"rd";refine S.uQ (by decide+kernel) ⟨a,most,nm,q,rs,tu,ch,x,rfl,S,fun z=>(by rw[hx]at z;cases z),fun s' vY=>?_⟩;rw[hx]at vY;cases vY
  refine eL hp T.aR T.nI ft.mo ?_;have zs:Sw.Sz 70 s:=Sw.Sz.sf (by omega) (by omega);have zm:Sw.Sz 70 most:=Sw.Sz.sf (by omega) (by omega);exact⟨_,rfl,_,rfl,⟨zs.mono (by decide),zm.mono (by decide)⟩,k⟩
inductive E2(cT cS C Cm:Addr)(vs:List V)(H:Hp)(Q:VK)(E:XK):Prop|mk (a most nm q rs tu ch x s:_) (h1:vs=[.ref a.p,.str x,.int s]) (h2:Rx C Cm H a most nm q rs tu ch) (h3:Sw.RI most nm q rs tu) (h4:nm.length<90) (h5:(bD nm x≠none->Rs cT H E)) (h6:(bD nm x=none->¬(1<=s/\s<=1000000)->Rs cS H E)) (h7:(bD nm x=none->1<=s/\s<=1000000->∀H',mU a H H'->Rx C Cm H' a most (nm++[(x,s)]) (q++[x]) (rs++[(x,0)]) tu ch->Q .cy H')):E2 cT cS C Cm vs H Q E
include T in
theorem zpt:di P w K mg base (fJ P w) 3 cV "put" ["self","name","share"] [[]] (E2 cY cO cV cF):=by
 have kT:=YN P w base T;have uv:=zlx P w base T;refine T.wj.r9 (k:=2) znj (fun vs H Q E h=>?_) (fun f dF A outer s H vs Q E hr h=>?_)
 ·obtain⟨a,most,nm,q,rs,tu,ch,x,s,rfl,_⟩:=h;rfl
 ·obtain⟨a,most,nm,q,rs,tu,ch,x,s,rfl,S,h,nl,kt,ks,k⟩:=h;refine⟨_,(dJ (jV (iB (d7:=[]) kT (by simp) T.d8 (hr.mono (by decide)) eE (eT (pv 0) rfl) (aS (pv 1) (aS (pv 2) bP)))) (dD (jV (iB (d7:=[]) uv (by simp) T.aR (hr.mono (by decide)) eE (pv 0) (aS (pv 1) bP))))),?_⟩;show dW _ _ _ [some (.ref a.p),some (.str x),some (.int s)] H;obtain⟨dx,fs,hp,ft⟩:=S.ex;obtain⟨dm,fm,oF,Ic,pU,gw⟩:=S.mb.ex;obtain⟨l1,l2⟩:=QV h;walk_at"s";refine eL hp T.aR T.fQ ft.me ?_;refine ig oF (pU _ (by decide+kernel)) ⟨a.pm,a.ps,nm,x,s,rfl,S.mb,by omega,kt,ks,fun hx hs=>hR _ _ ?_⟩;have S:=S.EO (C9:=nm++[(x,s)]);have ow:mU a H (upd H a.ps (.dK (kvsOf (nm++[(x,s)])))):=Iw;generalize upd H a.ps (.dK (kvsOf (nm++[(x,s)])))=H1 at S ow⊢;walk_at"rd";exact S.uQ (by decide+kernel) ⟨a,most,_,q,rs,tu,ch,x,rfl,S,by omega,by omega,(by rw[Sw.kO,h.ks,<-Sw.kO];exact hx),fun H' o' S'=>k hx hs H' (ow.trans o') S'⟩
inductive zS(C Cm:Addr)(vs:List V)(H:Hp)(Q:VK)(E:XK):Prop|mk (a most nm q rs tu ch:_) (h1:vs=[.ref a.p]) (h2:Rx C Cm H a most nm q rs tu ch) (h3:∀l,H l=none->Q (.ref l) (upd H l (.lst (yJ nm)))):zS C Cm vs H Q E
include T in
theorem zly:di P w K mg base (fJ P w) 2 cV "names" ["self"] [[]] (zS cV cF):=by
 have jz:=Yk P w base T;refine T.tQ.okN (k:=1) zkv (fun vs H Q E h=>?_) (fun f dF A outer s H vs Q E hr h=>?_)
 ·obtain⟨a,most,nm,q,rs,tu,ch,rfl,_⟩:=h;rfl
 ·obtain⟨a,most,nm,q,rs,tu,ch,rfl,S,k⟩:=h;refine⟨_,(dD (gZ (yK (d7:=[]) jz (by simp) T.d8 (hr.mono (by decide)) bj (eT (pv 0) rfl)))),?_⟩;show jF _ _ [some (.ref a.p)] H;obtain⟨dx,fs,hp,ft⟩:=S.ex;obtain⟨dm,fm,oF,Ic,pU,gw⟩:=S.mb.ex;walk_at"rd";refine eL hp T.aR T.fQ ft.me ?_;exact ig oF (pU _ (by decide+kernel)) ⟨a.pm,a.ps,nm,rfl,S.mb,k⟩
inductive EZ(C Cm:Addr)(vs:List V)(H:Hp)(Q:VK)(E:XK):Prop|mk (a most nm q rs tu ch:_) (h1:vs=[.ref a.p]) (h2:Rx C Cm H a most nm q rs tu ch) (h3:q.length<900) (h4:rs.length<900) (h5:(∀t,tu=some t->bD rs t≠none)) (h6:∀H',mU a H H'->Rx C Cm H' a most nm (Ei q tu) (CK rs tu) none ch->Q .cy H'):EZ C Cm vs H Q E
include T in
theorem zij:di P w K mg base (fJ P w) 1 cV "end_turn" ["self"] [[]] (EZ cV cF):=by
 refine T.pK.okN (k:=0) zhm (fun vs H Q E h=>?_) (fun f dF A outer s H vs Q E hr h=>?_)
 ·obtain⟨a,most,nm,q,rs,tu,ch,rfl,_⟩:=h;rfl
 ·obtain⟨a,most,nm,q,rs,tu,ch,rfl,S,lq,lr,ht,k⟩:=h;refine⟨_,(dD (dw (jG F6 (eT (pv 0) rfl) sZ (jH _)) (dJ (Du (dS hr) (eT (pv 0) rfl) (eT (pv 0) rfl) (Ct (VF rfl) rfl T.x8 boot_min (aS (sI (dS hr) (eT (pv 0) rfl) (eT (pv 0) rfl) (fun _ _=>rfl)) (aS bU bP))) rfl) (dJ (jV (nK bH dN dO F5 (eT (pv 0) rfl) (aS (eT (pv 0) rfl) bP))) (dD (lT (pv 0) sZ rfl)))) jP)),?_⟩;show(_:TS) _ [some (.ref a.p)] H;obtain⟨dx,fs,hp,ft⟩:=S.ex;walk_at"rd";refine eL hp T.aR T.ee ft.tu ?_;cases tu with
  |none=>
   unfold oQ;walk_at"rd";exact k _ (fun _ _ _ _ _ _ e=>e) S
  |some t=>
   cases e:bD rs t with
   |none=>exact absurd e (ht t rfl)
   |some r=>
    unfold Ei CK Bl at k;simp only[e,Option.getD_some]at k;unfold oQ;walk_at"rd";rw[if_neg (by intro z;cases z)];have hg:=g7.k (k:=aC t) S.hr;rw[HC,e]at hg;walk_at"s";refine eL hp T.aR T.eo ft.re ?_;refine eL hp T.aR T.ee ft.tu ?_;walk_at"rd";refine⟨.int r,hg,?_⟩;walk_at"rd";refine eL hp T.aR T.eo ft.re ?_;refine eL hp T.aR T.ee ft.tu ?_;walk_at"rd";refine⟨_,lW.k (k:=aC t) S.hr (gD (by rw[OE];omega)),hR _ _ ?_⟩;rw[VN (by rw[e];simp)];clear hR;have S:=S.BS (rs':=putN rs t (if 0<r then 0 else r));have ow:mU a H (upd H a.pg (.dK (kvsOf (putN rs t (if 0<r then 0 else r))))):=wV;generalize upd H a.pg (.dK (kvsOf (putN rs t (if 0<r then 0 else r))))=H1 at S ow⊢;obtain⟨dx,fs,hp,ft⟩:=S.ex;walk_at"s";refine eL hp T.aR T.gy ft.qu ?_;refine⟨Fg S.hq,?_⟩;refine eL hp T.aR T.ee ft.tu ?_;refine Lf S.hq (by rw[ai];omega) (hR _ _ ?_);clear hR;have em:q.map V.str++[V.str t]=(q++[t]).map V.str:=by rw[aA];rfl
    unfold oQ;rw[em];have S:=S.EN (q':=q++[t]);have ow:=ow.trans (zJ (a:=a) (H:=H1) (o:=.lst ((q++[t]).map V.str)));generalize upd H1 a.pt (.lst ((q++[t]).map V.str))=H2 at S ow⊢;obtain⟨dx,fs,hp,ft⟩:=S.ex;walk_at"rd";refine lU hp T.aR T.ee (by have:=ft.len;omega) ?_;exact k _ (ow.trans zI) (S.wY hp (ft.EI none))
def Tw(rd:List Str):V->Option V
 | .str x=>if x∈rd then some (.str x)else none
 |_=>none
theorem Uy(rd:List Str)(l:List Str):(l.map V.str).filterMap (Tw rd)=(l.filter fun x=>decide (x∈rd)).map V.str:=by
 induction l with
 |nil=>rfl
 |cons x r ih=>
  rw[ay,iq,fK];unfold Tw at ih⊢;by_cases h:x∈rd
  ·simp only[h,if_true,decide_true,ay];rw[ih]
  ·simp only[h,if_false,decide_false];rw[ih];rfl
theorem UA(rd:List Str):GV .cy (rd.map V.str)=false:=by unfold GV;rw[Bp];rw[t8];intro x _;show ¬BD (.str x) .cy=true;simp[BD]
inductive EY(C Cm:Addr)(vs:List V)(H:Hp)(Q:VK)(E:XK):Prop|mk (a most nm q rs tu ch rl:_) (rd:List Str) (x s r:_) (h1:vs=[.ref a.p,.ref rl]) (h2:Rx C Cm H a most nm q rs tu ch) (h3:H rl=some (.lst (rd.map V.str))) (h4:rl≠a.pt) (h5:q.find? (fun x=>decide (x∈rd))=some x) (h6:q.Nodup) (h7:q.length<=100) (h8:(∀y∈q,PyData.strOk y=true)) (h9:rs.length<900) (yH:bD nm x=some s) (BE:bD rs x=some r) (JP:1<=s) (JQ:s<=1000000) (h14:1<=most) (WI:most<=1000000) (h16:∀H',mU a H H'->Rx C Cm H' a most nm (q.erase x) (putN rs x (r+s*most)) (some x) ch->Q (.str x) H'):EY C Cm vs H Q E
include T in
theorem zgk:di P w K mg base (fJ P w) 5 cV "begin_turn" ["self","ready"] [[]] (EY cV cF):=by
 have pA:=zhw P w base T;refine T.nF.okN (k:=4) jr (fun vs H Q E h=>?_) (fun f dF A outer s H vs Q E hr h=>?_)
 ·obtain⟨a,most,nm,q,rs,tu,ch,rl,rd,x,s,r,rfl,_⟩:=h;rfl
 ·obtain⟨a,most,nm,q,rs,tu,ch,rl,rd,x,s,r,rfl,S,vB,nrl,hf,nd,lq,ok,lr,hx,kI,s0,s1,m0,m1,k⟩:=h;refine⟨_,(dJ (ju (i:=2) jr.nd rfl (bu (kK K rfl) (nM ["one"] [("ready",1)] rfl (by with_unfolding_all rfl) (by decide+kernel) rfl (by decide+kernel) (by exact⟨rfl,bB⟩) (by with_unfolding_all rfl) ⟨⟨rfl,rfl,rfl⟩,bB⟩ (yr K rfl (eT (pv 0) rfl)) (fun _ _ _=>(nX (i:=0) (show(["one","ready"]:List Str).Nodup from by decide+kernel) rfl (by first|left;rfl|right;rfl))) (fun _ _ _=>(OJ (jG (Wb K rfl) (pv 0) (pv 1) rfl))) (fun _ _ _=>(pv 0))) bU (fun _ _=>rfl))) (dJ (jV (nK bH PySem.F.slot_list_remove PySem.F.type_list_remove (zvd K rfl hr.Hu) (eT (pv 0) rfl) (aS (pv 2) bP))) (dJ (lT (pv 0) (pv 2) rfl) (dJ (Du (dS hr) (eT (pv 0) rfl) (pv 2) (aT sJ (sI (dS hr) (eT (pv 0) rfl) (pv 2) (fun _ _=>rfl)) (iB (d7:=[]) pA (by simp) T.aR (hr.mono (by decide)) bj (pv 0) (aS (pv 2) bP))) rfl) (dD (gZ (pv 2))))))),?_⟩;show dW _ _ _ [some (.ref a.p),some (.ref rl),none] H;obtain⟨dx,fs,hp,ft⟩:=S.ex;have xq:x∈q:=g8 hf;walk_at"s";refine eL hp T.aR T.gy ft.qu ?_;refine⟨_,rfl,⟨_,.of S.hq⟩,fun D hD=>?_⟩;refine zui (K:=K) (a:=a.pt) (xs:=q.map V.str) (v0:=none) (caps:=[some (.ref rl)]) (Tw rd) hD (.of S.hq) (by rw[ai];omega) (fun v hv v' H' C N' sm h1 h2=>?_) ?_
  ·obtain⟨y,hy,rfl⟩:=av.mp hv;walk_at"rd";refine⟨rl,_,rfl,.inl (.of (sm _ _ vB)),rfl,Qz rd,_,rfl,?_⟩;simp only[fM,if_false];rw[V1];by_cases c:y∈rd
   ·rw[decide_eq_true c];exact h1 _ (show(if y∈rd then some (V.str y)else none)=some (V.str y)by rw[if_pos c])
   ·rw[decide_eq_false c];exact h2 (show(if y∈rd then some (V.str y)else none)=none by rw[if_neg c])
  ·rw[Uy];have hh:∃l,(q.filter fun x=>decide (x∈rd))=x::l:=by
    rw[<-List.head?_filter]at hf;cases e:q.filter fun x=>decide (x∈rd)with
    |nil=>rw[e]at hf;cases hf
    |cons y l=>rw[e]at hf;cases hf;exact⟨l,rfl⟩
   obtain⟨l,hl⟩:=hh;rw[hl];refine vD (.of bX) (v:=.str x) (F7 (j:=0) rfl) ?_;have s4:=fV (o:=.lst ((x::l).map V.str)) hD;have S:=S.same s4;have vB:=s4 _ _ vB;have Xo:=s4.own (a:=a);generalize upd H D (.lst ((x::l).map V.str))=H1 at S vB Xo⊢;clear s4;walk_at"rd";refine hR _ _ ?_;clear hR;obtain⟨dx,fs,hp,ft⟩:=S.ex;walk_at"s";refine eL hp T.aR T.gy ft.qu ?_;refine⟨Fg S.hq,Vh nd xq lq ok S.hq (hR _ _ ?_)⟩;clear hR;have S:=S.EN (q':=q.erase x);have ow:=Xo.trans (zJ (a:=a) (H:=H1) (o:=.lst ((q.erase x).map V.str)));generalize upd H1 a.pt (.lst ((q.erase x).map V.str))=H2 at S ow⊢;obtain⟨dx,fs,hp,ft⟩:=S.ex;walk_at"s";refine lU hp T.aR T.ee (by have:=ft.len;omega) (hR _ _ ?_);clear hR;have S:=S.wY hp (ft.EI (some x));have ow:=ow.trans (zI (a:=a) (H:=H2) (o:=.ins cV dx (aD "turn" (.str x) fs)));have S:Rx cV cF (upd H2 a.p (.ins cV dx (aD "turn" (.str x) fs))) a most nm (q.erase x) rs (some x) ch:=S;generalize upd H2 a.p (.ins cV dx (aD "turn" (.str x) fs))=H3 at S ow⊢;obtain⟨dx,fs,hp,ft⟩:=S.ex;have hg:=g7.k (k:=aC x) S.hr;rw[HC,kI]at hg;walk_at"s";refine eL hp T.aR T.eo ft.re ?_;walk_at"rd";refine⟨.int r,hg,?_⟩;refine S.uQ (by decide+kernel) ⟨a,most,nm,_,rs,some x,ch,x,s,rfl,S,hx,s0,s1,m0,m1,?_⟩;refine⟨_,rfl,_,rfl,?_⟩;refine eL hp T.aR T.eo ft.re ?_;walk_at"rd";refine⟨_,lW.k (k:=aC x) S.hr (gD (by rw[OE];omega)),hR _ _ ?_⟩;rw[VN (by rw[kI];simp)];walk_at"rd";exact k _ (ow.trans wV) S.BS
inductive Cd(C Cm:Addr)(vs:List V)(H:Hp)(Q:VK)(E:XK):Prop|mk (a most nm q rs tu ch rl:_) (rd:List Str) (h1:vs=[.ref a.p,.ref rl]) (h2:Rx C Cm H a most nm q rs tu ch) (h3:D5 H a most nm q rs tu rl rd) (h4:∀x H',qS q rs tu rd=some x->mU a H H'->Rx C Cm H' a most nm (uX q rs tu rd x) (sV most nm rs tu rd x) (some x) ch->Q (.str x) H'):Cd C Cm vs H Q E
include T in
theorem zno:di P w K mg base (fJ P w) 6 cV "pick" ["self","ready"] [[]] (Cd cV cF):=by
 have pY:=zij P w base T;have oj:=zgk P w base T;refine T.uL.okN (k:=5) zlq (fun vs H Q E h=>?_) (fun f dF A outer s H vs Q E hr h=>?_)
 ·obtain⟨a,most,nm,q,rs,tu,ch,rl,rd,rfl,_⟩:=h;rfl
 ·obtain⟨a,most,nm,q,rs,tu,ch,rl,rd,rfl,S,O,k⟩:=h;refine⟨_,(dJ (dw (PW.pt (F8 (jG (Wb K rfl) (eT (pv 0) rfl) (pv 1) rfl) (Ji (jG zG (sI (dS hr) (eT (pv 0) rfl) (eT (pv 0) rfl) (fun _ _=>rfl)) bU (jH _))))) (dD (gZ (eT (pv 0) rfl))) jP) (dJ (jV (yK (d7:=[]) pY (by simp) T.aR (hr.mono (by decide)) bj (pv 0))) (dD (gZ (iB (d7:=[]) oj (by simp) T.aR (hr.mono (by decide)) bj (pv 0) (aS (pv 1) bP)))))),?_⟩;show dW _ _ _ [some (.ref a.p),some (.ref rl)] H;obtain⟨dx,fs,hp,ft⟩:=S.ex;have h:=O.ri;have nl:=O.nl;obtain⟨l1,l2⟩:=QV h;refine bJ fun R hR=>?_;have post:qH rs rd tu=false->R [some (.ref a.p),some (.ref rl)] H:=by
   intro kt;refine hR _ _ ?_;have h1:=zyq h;obtain⟨x,s,r,hf,xr,xq,e1,e2⟩:=zvj h1 O.ne O.sb;obtain⟨s0,s1⟩:=h.sh x s e1;obtain⟨l3,l4⟩:=QV h1;walk_at"s";refine S.uQ (by decide+kernel) ⟨a,most,nm,q,rs,tu,ch,rfl,S,by omega,by omega,fun t ht=>(zK h).mpr (BQ h ht),fun H1 ow S1=>hR _ _ ?_⟩;walk_at"rd";refine S1.uQ (by decide+kernel) ⟨a,most,nm,_,_,none,ch,rl,rd,x,s,r,rfl,S1,S.NF ow O.hl O.nq,O.nq,hf,NU h1,by omega,fun y hy=>O.ok y (Tz h1 hy),by omega,e1,e2,s0,s1,h.m0,O.m1,fun H2 ow2 S2=>?_⟩;refine k x H2 ?_ (ow.trans ow2) ?_
   ·unfold qS;rw[kt];exact hf
   ·unfold uX sV Bl;rw[kt,e1,e2];exact S2
  clear hR;walk_at"rd";refine eL hp T.aR T.ee ft.tu ?_;cases tu with
  |none=>
   unfold oQ;walk_at"rd";refine⟨rl,_,rfl,.inl (.of O.hl),rfl,Qz rd,_,rfl,?_⟩;simp only[fM,if_false];rw[UA,if_neg (by decide)];exact post rfl
  |some t=>
   unfold oQ;walk_at"rd";refine⟨rl,_,rfl,.inl (.of O.hl),rfl,Qz rd,_,rfl,?_⟩;simp only[fM,if_false];rw[V1];refine fE (fun c=>?_) fun c=>?_
   ·have c:t∈rd:=of_decide_eq_true c;cases e:bD rs t with
    |none=>exact absurd e ((zK h).mpr (BQ h rfl))
    |some r=>
     have hg:=g7.k (k:=aC t) S.hr;rw[HC,e]at hg;refine eL hp T.aR T.eo ft.re ?_;refine eL hp T.aR T.ee ft.tu ?_;walk_at"rd";refine⟨.int r,hg,?_⟩;walk_at"rd";have er:Bl rs t=r:=by unfold Bl;rw[e];rfl
     refine fE (fun c2=>?_) fun c2=>?_
     ·refine eL hp T.aR T.ee ft.tu ?_;have kt:qH rs rd (some t)=true:=by rw[LP,er,decide_eq_true c,decide_eq_true c2];rfl
      refine k t H ?_ (fun _ _ _ _ _ _ e=>e) ?_
      ·unfold qS;rw[if_pos kt]
      ·unfold uX sV;rw[if_pos kt,if_pos kt];exact S
     ·refine post ?_;rw[LP,er,decide_eq_false c2,Bool.and_false]
   ·refine post ?_;rw[LP,decide_eq_false (fun z=>c (decide_eq_true z)),Lg]
inductive w4(C Cm:Addr)(vs:List V)(H:Hp)(Q:VK)(E:XK):Prop|mk (a most nm q rs tu ch x r len:_) (h1:vs=[.ref a.p,.str x,.int len]) (h2:Rx C Cm H a most nm q rs tu ch) (h3:rs.length<900) (h4:bD rs x=some r) (h5:∀H',mU a H H'->Rx C Cm H' a most nm q (putN rs x (r-len)) tu ch->Q .cy H'):w4 C Cm vs H Q E
include T in
theorem zle:di P w K mg base (fJ P w) 1 cV "charge" ["self","name","length"] [[]] (w4 cV cF):=by
 refine T.rW.okN (k:=0) zjk (fun vs H Q E h=>?_) (fun f dF A outer s H vs Q E hr h=>?_)
 ·obtain⟨a,most,nm,q,rs,tu,ch,x,r,len,rfl,_⟩:=h;rfl
 ·obtain⟨a,most,nm,q,rs,tu,ch,x,r,len,rfl,S,lr,kI,k⟩:=h;refine⟨_,(dD (Du (dS hr) (eT (pv 0) rfl) (pv 1) (aT Ff (sI (dS hr) (eT (pv 0) rfl) (pv 1) (fun _ _=>rfl)) (pv 2)) rfl)),?_⟩;show(_:TS) _ [some (.ref a.p),some (.str x),some (.int len)] H;obtain⟨dx,fs,hp,ft⟩:=S.ex;have hg:=g7.k (k:=aC x) S.hr;rw[HC,kI]at hg;walk_at"rd";refine eL hp T.aR T.eo ft.re ?_;walk_at"rd";refine⟨.int r,hg,?_⟩;walk_at"rd";refine eL hp T.aR T.eo ft.re ?_;walk_at"rd";refine⟨_,lW.k (k:=aC x) S.hr (gD (by rw[OE];omega)),?_⟩;rw[VN (by rw[kI];simp)];exact k _ wV S.BS
inductive E1(C Cm:Addr)(vs:List V)(H:Hp)(Q:VK)(E:XK):Prop|mk (a most nm q rs tu x r len:_) (h1:vs=[.ref a.p,.int len]) (h2:Rx C Cm H a most nm q rs tu (.str x)) (h3:rs.length<900) (h4:bD rs x=some r) (h5:∀H',mU a H H'->Rx C Cm H' a most nm q (putN rs x (r-len)) tu (.str x)->Q .cy H'):E1 C Cm vs H Q E
include T in
theorem zpu:di P w K mg base (fJ P w) 2 cV "pay" ["self","length"] [[]] (E1 cV cF):=by
 have tG:=zle P w base T;refine T.wg.okN (k:=1) znk (fun vs H Q E h=>?_) (fun f dF A outer s H vs Q E hr h=>?_)
 ·obtain⟨a,most,nm,q,rs,tu,x,r,len,rfl,_⟩:=h;rfl
 ·obtain⟨a,most,nm,q,rs,tu,x,r,len,rfl,S,lr,kI,k⟩:=h;refine⟨_,(dD (jV (iB (d7:=[]) tG (by simp) T.aR (hr.mono (by decide)) bj (pv 0) (aS (eT (pv 0) rfl) (aS (pv 1) bP))))),?_⟩;show(_:TS) _ [some (.ref a.p),some (.int len)] H;obtain⟨dx,fs,hp,ft⟩:=S.ex;walk_at"rd";refine S.uQ (by decide+kernel) ?_;refine eL hp T.aR T.gO ft.ch ?_;exact⟨a,most,nm,q,rs,tu,.str x,x,r,len,rfl,S,lr,kI,k⟩
inductive w6(cR cC C Cm:Addr)(vs:List V)(H:Hp)(Q:VK)(E:XK):Prop|mk (a most nm q rs tu ch rl:_) (rd:List Str) (h1:vs=[.ref a.p,.ref rl]) (h2:Rx C Cm H a most nm q rs tu ch) (h3:H rl=some (.lst (rd.map V.str))) (h4:(rd=[]->Rs cR H E)) (h5:(rd≠[]->(∃x∈rd,bD nm x=none)->Rs cC H E)) (h6:(rd≠[]->(∀x∈rd,bD nm x≠none)->D5 H a most nm q rs tu rl rd/\∀x H',qS q rs tu rd=some x->mU a H H'->Rx C Cm H' a most nm (uX q rs tu rd x) (sV most nm rs tu rd x) (some x) (.str x)->Q (.str x) H')):w6 cR cC C Cm vs H Q E
include T in
theorem zlf:di P w K mg base (fJ P w) 7 cV "choose" ["self","ready"] [[]] (w6 cU cG cV cF):=by
 have dU:=Qq P w base T;have vM:=zno P w base T;refine T.rX.r9 (k:=6) lQ (fun vs H Q E h=>?_) (fun f dF A outer s H vs Q E hr h=>?_)
 ·obtain⟨a,most,nm,q,rs,tu,ch,rl,rd,rfl,_⟩:=h;rfl
 ·obtain⟨a,most,nm,q,rs,tu,ch,rl,rd,rfl,S,vB,kr,kc,k⟩:=h;refine⟨_,(dJ (dw (DR (VJ K rfl (pv 1))) (dD (vp K rfl rfl vt (vE T.qA T.qI rfl T.qQ (aS lF bP)))) jP) (dJ (DS PassesOwn.leaving rfl (yr K rfl (pv 1)) (nX (i:=2) lQ.nd rfl (by first|left;rfl|right;rfl)) (dD (jV (iB (d7:=[]) dU (by simp) T.d8 (hr.mono (by decide)) eE (eT (pv 0) rfl) (aS (pv 2) bP))))) (dJ (lT (pv 0) (iB (d7:=[]) vM (by simp) T.aR (hr.mono (by decide)) eE (pv 0) (aS (pv 1) bP)) rfl) (dD (gZ (eT (pv 0) rfl)))))),?_⟩;show dW _ _ _ [some (.ref a.p),some (.ref rl),none] H;walk_at"s";by_cases zh:rd=[]
  ·refine⟨false,.inl ⟨_,.of vB,by rw[zh];rfl⟩,?_⟩;rw[if_pos rfl];exact gA (kr zh) T.rB
  refine⟨true,.inl ⟨_,.of vB,by cases rd with|nil=>exact absurd rfl zh|cons y r=>rfl⟩,?_⟩;rw[if_neg (by decide)];refine hR _ _ ?_;refine bJ fun R hR=>?_;refine DM fun Z hZ=>?_;walk_at"rd";refine⟨⟨_,.of vB⟩,hZ _ _ ?_⟩;obtain⟨dx,fs,hp,ft⟩:=S.ex;obtain⟨dm,fm,oF,Ic,pU,gw⟩:=S.mb.ex;refine Hz (K:=K) (a:=rl) (xs:=rd.map V.str) (fun i σ H'=>H'=H/\(∃v2,σ=[some (.ref a.p),some (.ref rl),v2])/\∀y∈rd.take i,bD nm y≠none) ⟨rfl,⟨none,rfl⟩,fun y h=>absurd h (by simp)⟩ (fun i σ H' _⟨e,_⟩=>by rw[e];exact .of vB) ?_ ?_
  ·rintro i x σ H2 hx ⟨rfl,⟨v2,rfl⟩,al⟩;obtain⟨y,hy,rfl⟩:∃y,rd[i]?=some y/\V.str y=x:=by simpa using hx
   show(_:TS) _ [some (.ref a.p),some (.ref rl),some (.str y)] _;refine Bj fun R hR=>?_;walk_at"rd";refine eL hp T.aR T.fQ ft.me ?_;refine ig oF (pU _ (by decide+kernel)) ⟨a.pm,a.ps,nm,y,rfl,S.mb,fun SR=>hR _ _ ⟨rfl,⟨_,rfl⟩,fun z hz=>?_⟩,fun z=>kc zh ⟨y,bh hy,z⟩⟩;rw[YO hy]at hz;rcases ao.mp hz with v|v
   ·exact al z v
   ·rw[au.mp v];exact SR
  ·rintro σ H2 ⟨rfl,⟨v2,rfl⟩,al⟩;rw[ai,bF]at al;obtain⟨O,k⟩:=k zh al;refine hR _ _ ?_;walk_at"s";refine S.uQ (by decide+kernel) ⟨a,most,nm,q,rs,tu,ch,rl,rd,rfl,S,O,fun x H3 e ow S3=>?_⟩;obtain⟨dx,fs,hp,ft⟩:=S3.ex;refine lU hp T.aR T.gO (by have:=ft.len;omega) (hR _ _ ?_);have S4:=S3.wY hp (ft.A2 (ch':=.str x));walk_at"rd";refine eL bX T.aR T.gO oS ?_;exact k x _ e (ow.trans zI) S4
include T in
theorem zlz:sM P w K mg base (fJ P w) 1 "_law_cell_at" ["_law_script","_law_k"] (A8 K):=by
 refine T.su.okN (k:=0) zko (fun vs H Q E h=>?_) (fun f dF A outer s H vs Q E hr h=>?_)
 ·obtain⟨a,ns,i,rfl,_⟩:=h;rfl
 ·obtain⟨a,ns,i,rfl,hS,hi,k⟩:=h;refine⟨_,(dJ (dw (jG nJ (pv 1) (Ct (Qv K rfl) rfl T.uV boot_len (aS (pv 0) bP)) (jH _)) (dD (gZ (bu (kK K rfl) (pv 0) (pv 1) (fun _ _=>rfl)))) jP) (dD (gZ bU))),?_⟩;refine⟨_,rfl,_,rfl,a,_,rfl,.inl hS,_,_,rfl,rfl,_,rfl,?_⟩;refine fE (fun h=>?_) (fun h=>?_)
  ·have h':i<(ns.map V.int).length:=of_decide_eq_true h;exact⟨_,rfl,_,rfl,a,_,_,_,rfl,rfl,hS,zsu hi (by simpa using h'),k⟩
  ·have h':¬i<(ns.map V.int).length:=fun z=>h (decide_eq_true z);show Q (.int 0) H;rw[zqe hi (by simpa using h')]at k;exact k
theorem zsh(xs:List V)(n:Nat)(h:n<=xs.length):mL xs (some (n:Int)) none=xs.drop n:=by unfold mL;rw[HT.uY,HT.ug,xF h];exact ji (by rw[jK];omega)
def zxx:Sp:=fun vs H Q _=>∃c mn,vs=[.int c,.int ((mn:Nat):Int)]/\mn<=60/\∀p(ms:List Int) H',bE H H'->H p=none->H' p=some (.lst (ms.map V.int))->ms.length=mn->(∀m∈ms,0<=m/\m<2147483647)->Q (.ref p) H'
include T in
theorem znp:sM P w K mg base (fJ P w) 1 "_law_stream" ["_law_cell","_law_many"] zxx:=by
 refine T.tW.okN (k:=0) gK (fun vs H Q E h=>?_) (fun f dF A outer s H vs Q E hr h=>?_)
 ·obtain⟨c,mn,rfl,_⟩:=h;rfl
 ·obtain⟨c,mn,rfl,mn6,k⟩:=h;refine⟨_,(dJ (ju (i:=2) gK.nd rfl (Ab bP)) (dJ (ju (i:=3) gK.nd rfl (aT sJ (aT rC (pv 0) bU) bU)) (dJ (DS PassesOwn.never rfl (Zx rfl T.zC (aS (aT sJ (pv 1) bU) bP)) (nX (i:=4) gK.nd rfl (by first|left;rfl|right;rfl)) (dJ (ju (i:=3) gK.nd rfl (aT rC (aT sJ (aT sJ (aT sY (pv 3) (pv 3)) (aT sY bU (pv 3))) (pv 4)) bU)) (dD (jV (nK bH dN dO F5 (pv 2) (aS (pv 3) bP)))))) (dD (gZ (OG (OL K rfl) (pv 2) (LX bU) QH)))))),?_⟩;show dW _ _ _ [some (.int c),some (.int ((mn:Nat):Int)),none,none,none] H;walk_at"s";intro p0 wP;refine hR _ _ ?_;have s0:=fV (o:=.lst []) wP;have h0:upd H p0 (.lst []) p0=some (.lst (([]:List Int).map V.int)):=bX;generalize upd H p0 (.lst [])=H0 at s0 h0⊢;walk_at"s";refine hR _ _ ?_;have e1:=aW c (show(2147483647:Int)≠0 by decide);have e2:=aN c (show(0:Int)<2147483647 by decide);generalize hx:c % 2147483647+48271=x;have x0:0<=x:=by omega
  have x1:x<3000000000:=by omega
  clear hx e1 e2;refine bJ fun R hR=>?_;refine DM fun Z hZ=>?_;walk_at"rd";have e1:((mn:Int)+1).toNat=mn+1:=by omega
  rw[e1];refine⟨by omega,by omega,hZ _ _ ?_⟩;refine Zy (fun i σ H'=>∃n v4 ms,σ=[some (.int c),some (.int ((mn:Nat):Int)),some (.ref p0),some (.int n),v4]/\bE H H'/\H' p0=some (.lst ((ms:List Int).map V.int))/\ms.length=i/\(∀m∈ms,0<=m/\m<2147483647)/\0<=n/\n<3000000000) ⟨x,none,[],rfl,s0,h0,rfl,fun m h=>absurd h aI,x0,x1⟩ ?_ ?_
  ·rintro i σ H1 hi ⟨n,v4,ms,rfl,sm,hl,lm,mm,n0,n1⟩;show dW _ _ _ [some (.int c),some (.int ((mn:Nat):Int)),some (.ref p0),some (.int n),some (.int (0+(i:Int)))] H1;have zn:Sw.Sz 70 n:=Sw.Sz.sf (by omega) (by omega);walk_at"s";refine⟨⟨zn.mono (by decide),zn.mono (by decide)⟩,⟨Sw.Sz.lit (by decide),zn.mono (by decide)⟩,hR _ _ ?_⟩;generalize hy:(n*n+48271*n+(0+(i:Int))) % 2147483647=y;have y0:0<=y:=by rw[<-hy];exact aW _ (by decide)
   have y1:y<2147483647:=by rw[<-hy];exact aN _ (by decide)
   refine Bj fun R hR=>?_;walk_at"rd";refine⟨Fg hl,Lf hl (by rw[ai];omega) (hR _ _ ?_)⟩;refine⟨y,_,ms++[y],rfl,fun b o e=>?_,by rw[bX,aA];rfl,by simp[lm],fun m h=>?_,y0,by omega⟩
   ·rw[bM (i8 e wP)];exact sm _ _ e
   ·rcases ao.mp h with z|z
    ·exact mm m z
    ·have:m=y:=by simpa using z
     subst this;exact⟨y0,y1⟩
  ·rintro σ H1 ⟨n,v4,ms,rfl,sm,hl,lm,mm,n0,n1⟩;refine hR _ _ ?_;walk_at"rd";refine OW (.of hl) fun p hp=>?_;have lm:ms.length=mn+1:=by simpa using lm
   have ec:=zsh (ms.map V.int) 1 (by rw[ai];omega);refine k p (ms.drop 1) _ (sm.trans (fV hp)) (sm.free hp) (by rw[bX];exact congrArg (fun z=>some (HO.lst z)) (ec.trans (by rw[Af]))) (by rw[jK,lm];omega) fun m h=>mm m (DB h)
def TX(cL:Addr):Sp:=fun vs H Q E=>∃m:Int,vs=[.int m]/\(1<=m/\m<=1000000->Q .cy H)/\(¬(1<=m/\m<=1000000)->Rs cL H E)
include T in
theorem zpv:sM P w K mg base (fJ P w) 1 "check_most" ["most"] (TX cI):=by
 refine T.u9.r9 (k:=0) znd (fun vs H Q E h=>?_) (fun f dF A outer s H vs Q E hr h=>?_)
 ·obtain⟨m,rfl,_⟩:=h;rfl
 ·obtain⟨m,rfl,k,kx⟩:=h;refine⟨_,(dD (dw (DR (QB mH mH bU (pv 0) (OI rfl T.pP))) (dD (vp K rfl rfl vt (vE T.nA T.nD rfl T.nH (aS lF bP)))) jP)),?_⟩;show rh _ _ _ _ [some (.int m)] H;walk_at"rd";refine fE (fun c1=>fE (fun c2=>k ⟨c1,c2⟩) fun c2=>gA (kx fun q=>c2 q.2) T.jt) fun c1=>gA (kx fun q=>c1 q.1) T.jt
def T5:Sp:=fun vs H Q _=>∃z:Str,vs=[.str z]/\z.length<=10000/\∀H',bE H H'->Q (.bl (decide (yu z))) H'
include T in
theorem zvz:sM P w K mg base (fJ P w) 1 "is_name" ["text"] T5:=by
 refine T.zW.okN (k:=0) ztc (fun vs H Q E h=>?_) (fun f dF A outer s H vs Q E hr h=>?_)
 ·obtain⟨z,rfl,_⟩:=h;rfl
 ·obtain⟨z,rfl,zl,k⟩:=h;refine⟨_,(dD (gZ (UK (zwk mH mH bU (Ct zoj rfl T.uV boot_len (aS (pv 0) bP)) (OI rfl T.tU)) (zyb (Ct (zuh K rfl rfl) rfl T.Kn boot_all (aS (nM ["sign"] [] rfl (by with_unfolding_all rfl) (by decide+kernel) rfl (by decide+kernel) (by exact bB) (by with_unfolding_all rfl) bB (Vi (pv 0)) (fun _ _ _=>(nX (i:=0) (show(["sign"]:List Str).Nodup from by decide+kernel) rfl (by first|left;rfl|right;rfl))) (fun _ _ _=>Lb) (fun _ _ _=>(LW Vj (pv 0) (LU rfl T.AZ) rfl))) bP)))))),?_⟩;show jF _ _ [some (.str z)] H;walk_at"rd";have no:∀{H'},bE H H'->¬yu z->Q (.bl false) H':=fun s q=>by have:=k _ s;rw[decide_eq_false q]at this;exact this
  refine⟨Uj (by omega),fE (fun c1=>fE (fun c2=>?_) fun c2=>no (bE.refl _) fun q=>c2 (by have:=q.1.2;omega)) fun c1=>no (bE.refl _) fun q=>c1 (by have:=q.1.1;omega)⟩;simp only[Nc];walk_at"rd";intro D hD;show pV _ _ _ _ D [none] _ _;refine zxh (fun i τ H'=>(∃v,τ=[v])/\bE H H'/\H' D=some (.lst (((z.cps.toList.take i).map fun c=>decide (c∈lets.cps.toList)).map V.bl))) ⟨⟨none,rfl⟩,fV hD,bX⟩ ?_ ?_
  ·rintro i c τ H' hc ⟨⟨v,rfl⟩,s',xR⟩;have hi:=(aL.mp hc).1;rw[Sw.len_list]at hi;walk_at"rd";simp only[yo,if_true];walk_at"rd";refine⟨sg c,lets,rfl,rfl,?_⟩;refine⟨_,xR,Cu (by rw[ai,ai,aY];omega),fun b o e=>?_,?_⟩
   ·rw[bM (i8 e hD)];exact s' _ _ e
   ·rw[bX,Dt hc,aA,aA];show some (HO.lst (_++[V.bl (Txt.contains lets (sg c))]))=some (HO.lst (_++[V.bl (decide (c∈lets.cps.toList))]));rw[Sw.in_str lets c]
  ·rintro τ H1 ⟨_,s1,xR⟩;rw[<-Sw.len_list,bF]at xR;refine⟨D,_,rfl,.of xR,?_⟩;have e:((z.cps.toList.map fun c=>decide (c∈lets.cps.toList)).all id)=decide (yu z):=by
    rw[eU,jI,decide_eq_true_iff];constructor
    ·intro h;refine⟨⟨by omega,by omega⟩,fun c hc=>?_⟩;have:=h _ (av.mpr ⟨c,hc,rfl⟩)
     simpa using this
    ·intro h x hx;obtain⟨c,hc,rfl⟩:=av.mp hx
     simpa using h.2 c hc
   rw[e];exact k _ s1
def TY(cS cR cM:Addr):Sp:=fun vs H Q _=>∃(kd:Str)(m:Int),vs=[.str kd,.int m]/\1<=m/\(jW kd->∀(a:lV) H',bE H H'->(∀b∈kX a,H b=none)->Av cS cR cM H' a m (dZ.new (uG kd))->Q (.ref a.p) H')/\(¬jW kd->Q .cy H)
include T in
theorem Y4:sM P w K mg base (fJ P w) 6 "chooser_of" ["kind","most"] (TY cX cV cF):=by
 have DY:=zxv P w base T;have DX:=zxw P w base T;refine T.vc.okN (k:=5) zne (fun vs H Q E h=>?_) (fun f dF A outer s H vs Q E hr h=>?_)
 ·obtain⟨c,m,rfl,_⟩:=h;rfl
 ·obtain⟨kd,m,rfl,m1,k,kn⟩:=h;refine⟨_,(dJ (dw (jG o4 (pv 0) lF (jH _)) (dD (gZ (LQ (d7:=[]) DY (by simp) (hr.mono (by decide)) bj rfl T.C7 (aS (pv 1) bP)))) jP) (dJ (dw (jG o4 (pv 0) lF (jH _)) (dD (gZ (LQ (d7:=[]) DX (by simp) (hr.mono (by decide)) bj rfl T.C6 (aS (pv 1) bP)))) jP) (dD (gZ sZ)))),?_⟩;show dW _ _ _ [some (.str kd),some (.int m)] H;have no:∀{H1:Hp}{b:Addr},bE H H1->H1 b=none->H b=none:=fun{H1 b} s e=>by
   cases z:H b with
   |none=>rfl
   |some o=>rw[s _ _ z]at e;cases e
  have nw:∀{a:lV}{H1:Hp},bE H H1->H a.p=none->H1 a.pm=none->H1 a.ps=none->H1 a.pt=none->H1 a.pg=none->∀b∈kX a,H b=none:=fun{a H1} s h1 h2 h3 h4 h5 b hb=>by
   rcases iM.mp hb with z|z|z|z|z <;> subst z
   ·exact h1
   ·exact no s h2
   ·exact no s h3
   ·exact no s h4
   ·exact no s h5
  walk_at"s";refine fE (fun c1=>?_) fun c1=>hR _ _ ?_
  ·intro x dx hx GJ ne;refine⟨x,dx,m,rfl,bX,fun a H2 ea bt n1 n2 n3 n4 S=>⟨rfl,?_⟩⟩;subst ea;have e:uG kd=false:=by rw[c1];decide+kernel
   exact k (.inl c1) a H2 (bt.same (Fe hx GJ) hx) (nw (Fe hx GJ) hx n1 n2 n3 n4) (by rw[e];exact S)
  clear hR;walk_at"s";refine fE (fun c2=>?_) fun c2=>hR _ _ ?_
  ·intro x dx hx GJ ne;refine⟨x,dx,m,rfl,bX,fun a H2 ea bt n1 n2 n3 n4 S=>⟨rfl,?_⟩⟩;subst ea;have e:uG kd=true:=by rw[c2];decide+kernel
   exact k (.inr c2) a H2 (bt.same (Fe hx GJ) hx) (nw (Fe hx GJ) hx n1 n2 n3 n4) (by rw[e];exact S)
  walk_at"rd";exact kn fun q=>q.elim c1 c2
inductive KQ(cN:Addr)(vs:List V)(H:Hp)(Q:VK)(E:XK):Prop|mk (x dx ab ch rm:_) (h1:vs=[.ref x,ab,ch,rm]) (h2:H x=some (.ins cN dx [])) (h3:∀ql fs H',tq x H H'->H ql=none->H' x=some (.ins cN dx fs)->FN fs ab ch rm .cy ql->H' ql=some (.lst [])->Q .cy H'):KQ cN vs H Q E
include T in
theorem zyu:Fo P w K mg base (fJ P w) 1 cQ ["self","above","chooser","room"] [[],[V.cy]] (KQ cQ):=by
 refine T.GW.okN (k:=0) zpk (fun vs H Q E h=>?_) (fun f dF A outer s H vs Q E hr h=>?_)
 ·obtain⟨x,dx,ab,ch,rm,rfl,_⟩:=h;rfl
 ·obtain⟨x,dx,ab,ch,rm,rfl,hx,k⟩:=h;refine⟨_,(dJ (lT (pv 0) (pv 1) rfl) (dJ (lT (pv 0) (pv 2) rfl) (dJ (lT (pv 0) (pv 3) rfl) (dJ (lT (pv 0) sZ rfl) (dD (lT (pv 0) (Ab bP) rfl)))))),?_⟩;show dW _ _ _ [some (.ref x),some ab,some ch,some rm] H;have l1:=i9 (fs:=[]) (f:="above") (v:=ab);have l2:=i9 (fs:=aD "above" ab []) (f:="chooser") (v:=ch);have l3:=i9 (fs:=aD "chooser" ch (aD "above" ab [])) (f:="room") (v:=rm);have l4:=i9 (fs:=aD "room" rm (aD "chooser" ch (aD "above" ab []))) (f:="bucket") (v:=.cy);simp only[bG]at l1;walk_at"s";refine lU hx T.dh T.oZ (by simp) (hR _ _ ?_);clear hR;walk_at"s";refine lU bX T.dh T.dI (by omega) (hR _ _ ?_);clear hR;rw[Aa];walk_at"s";refine lU bX T.dh T.mq (by omega) (hR _ _ ?_);clear hR;rw[Aa];walk_at"s";refine lU bX T.dh T.fG (by omega) (hR _ _ ?_);clear hR;rw[Aa];walk_at"rd";intro ql GC;have nx:ql≠x:=fun z=>by rw[z,bX]at GC;cases GC
  have Dc:H ql=none:=by rw[bM nx]at GC;exact GC
  refine lU (by rw[bM (b9 nx),bX]) T.dh T.fS (by omega) ?_;refine k ql _ _ (fun b o n e=>?_) Dc bX (FN.G2 _ _ _ _ _) ?_
  ·rw[bM n,bM (i8 e Dc),bM n];exact e
  ·rw[bM nx,bX]
def TV(cC:Addr)(C:Cl):Sp:=fun vs H Q E=>∃(D:TD)(x:Str),vs=[.ref D.p,.str x]/\bW C H D/\(x≠road->aU D.ns x≠none->Q .cy H)/\(x=road\/aU D.ns x=none->Rs cC H E)
include T in
theorem Qs:di P w K mg base (fJ P w) 1 dA "check_class" ["self","name"] [[]] (TV cG (⟨cQ,cX,cV,cF,cA,dA⟩:Cl)):=by
 refine T.oJ.r9 (k:=0) zgf (fun vs H Q E h=>?_) (fun f dF A outer s H vs Q E hr h=>?_)
 ·obtain⟨D,x,rfl,_⟩:=h;rfl
 ·obtain⟨D,x,rfl,O,k,kx⟩:=h;refine⟨_,(dD (dw (PW.pt (pw_or (jG o4 (pv 1) (LU rfl T.xZ) (jH _)) (OV (Le (VI (dS hr) (pv 1) (eT (pv 0) rfl)))))) (dD (vp K rfl rfl vt (vE T.pH T.pJ rfl T.pQ (aS lF bP)))) jP)),?_⟩;show rh _ _ _ _ [some (.ref D.p),some (.str x)] H;obtain⟨dx,fs,hp,ft⟩:=O.ex;walk_at"rd";refine fE (fun c1=>gA (kx (.inl c1)) T.mE) fun c1=>?_;refine eL hp T.aH T.bq ft.no ?_;walk_at"rd";refine⟨_,g7.k (k:=aC x) O.hn,?_⟩;rw[OS];cases e:aU D.ns x with
  |none=>exact gA (kx (.inr e)) T.mE
  |some v=>exact k c1 (by rw[e];simp)
inductive N8(C:Cl)(vs:List V)(H:Hp)(Q:VK)(E:XK):Prop|mk (D:TD) (x:Str) (ys:List Str) (h1:vs=[.ref D.p,.str x]) (h2:bW C H D) (h3:Up D.ns x ys) (h4:ys.length<=900) (h5:∀l H',bE H H'->H l=none->H' l=some (.lst (ys.reverse.map V.str))->Q (.ref l) H'):N8 C vs H Q E
include T in
theorem Qt:di P w K mg base (fJ P w) 1 dA "from_road" ["self","name"] [[]] (N8 (⟨cQ,cX,cV,cF,cA,dA⟩:Cl)):=by
 refine T.qK.okN (k:=0) iQ (fun vs H Q E h=>?_) (fun f dF A outer s H vs Q E hr h=>?_)
 ·obtain⟨D,x,ys,rfl,_⟩:=h;rfl
 ·obtain⟨D,x,ys,rfl,O,U,yl,k⟩:=h;refine⟨_,(dJ (ju (i:=2) iQ.nd rfl (Ab bP)) (dJ (QA PassesOwn.never (jG F6 (pv 1) sZ (jH _)) (dJ (jV (nK bH dN dO F5 (pv 2) (aS (pv 1) bP))) (dD (ju (i:=1) iQ.nd rfl (eT (sI (dS hr) (eT (pv 0) rfl) (pv 1) (fun _ _=>rfl)) rfl))))) (dJ (jV (US bH PySem.F.slot_list_reverse PySem.F.type_list_reverse zss (pv 2))) (dD (gZ (pv 2)))))),?_⟩;show dW _ _ _ [some (.ref D.p),some (.str x),none] H;walk_at"s";intro l hl;have s0:=fV (o:=.lst []) hl;refine hR _ _ ?_;clear hR;refine bJ fun R hR=>?_;refine VX (fun m σ H'=>∃(xo:Option Str)(zs ws:List Str),σ=[some (.ref D.p),some (oQ xo),some (.ref l)]/\bE H H'/\H' l=some (.lst (zs.map V.str))/\ys=zs++ws/\(∀z,xo=some z->Up D.ns z ws)/\(xo=none->ws=[])/\m=ws.length) ⟨some x,[],ys,rfl,s0,bX,rfl,fun z e=>(by cases e;exact U),fun e=>(by cases e),rfl⟩ ?_;rintro m σ H1 ⟨xo,zs,ws,rfl,s1,h1,ey,hu,hn,rfl⟩;cases xo with
  |none=>
   refine⟨false,fun Q hQ=>?_,fun z=>(by cases z),fun _=>?_⟩
   ·walk_at"rd";exact hQ
   ·have:ws=[]:=hn rfl;subst this;rw[aJ]at ey;subst ey;refine hR _ _ ?_;clear hR;walk_at"s";refine⟨Fg h1,l,_,rfl,rfl,h1,hR _ _ ?_⟩;walk_at"rd";refine k l _ (fun b o e=>?_) hl ?_
    ·rw[bM (i8 e hl)];exact s1 _ _ e
    ·rw[bX,List.map_reverse]
  |some z=>
   have Uz:=hu z rfl;obtain⟨n,hz⟩:=Uz.RO;refine⟨true,fun Q hQ=>?_,fun _=>?_,fun z=>by cases z⟩
   ·walk_at"rd";exact hQ
   ·have zl:zs.length<=900:=by rw[ey,bg]at yl;omega
    walk_at"s";refine⟨Fg h1,Lf h1 (by rw[ai];omega) (hR _ _ ?_)⟩;clear hR;have O1:=O.same s1;have s2:bE H (upd H1 l (.lst (zs.map V.str++[.str z]))):=fun b o e=>by rw[bM (i8 e hl)];exact s1 _ _ e
    have O2:=O.same s2;have h2:upd H1 l (.lst (zs.map V.str++[.str z])) l=some (.lst ((zs++[z]).map V.str)):=by rw[bX,aA];rfl
    show yi _ _ _ _ (upd H1 l (.lst (zs.map V.str++[.str z])));generalize upd H1 l (.lst (zs.map V.str++[.str z]))=H2 at s2 O2 h2⊢;obtain⟨dx,fs,hp,ft⟩:=O2.ex;obtain⟨eZ,_⟩:=iD hz;obtain⟨dn,fn,lD,kA⟩:=(O2.nd n eZ).ex;walk_at"rd";refine eL hp T.aH T.bq ft.no ?_;walk_at"rd";refine⟨_,i7 O2 hz,?_⟩;refine eL lD T.dh T.oZ kA.ab ?_;cases Uz with
    |top q1 q2=>
     rw[hz]at q1;cases q1
     exact⟨0,by simp,none,by rw[q2],s2,zs++[z],h2,[],by rw[aJ];exact ey,fun z e=>(by cases e),fun _=>rfl,rfl⟩
    |on q1 q2 q3=>
     rw[hz]at q1;cases q1
     rename_i y Ue
     exact⟨Ue.length,by simp,some y,by rw[q2],s2,zs++[z],h2,Ue,by rw[ey];simp,fun z e=>(by cases e;exact q3),fun e=>(by cases e),rfl⟩
inductive N3(cP:Addr)(C:Cl)(vs:List V)(H:Hp)(Q:VK)(E:XK):Prop|mk (D:TD) (u kd:Str) (n:ND) (ys:List Str) (h1:vs=[.ref D.p,.str u,.str kd]) (h2:bW C H D) (h3:aU D.ns u=some n) (h4:Up D.ns u ys) (h5:ys.length<=900) (h6:(∀H',bE H H'->¬(qG kd/\n.ch≠none/\ys.length<=5)->Rs cP H' E)) (h7:(∀H',bE H H'->qG kd/\n.ch≠none/\ys.length<=5->Q .cy H')):N3 cP C vs H Q E
include T in
theorem zhx:di P w K mg base (fJ P w) 2 dA "check_place" ["self","under","kind"] [[]] (N3 cK (⟨cQ,cX,cV,cF,cA,dA⟩:Cl)):=by
 have eV:=Qt P w base T;refine T.oK.r9 (k:=1) zgg (fun vs H Q E h=>?_) (fun f dF A outer s H vs Q E hr h=>?_)
 ·obtain⟨D,u,kd,n,ys,rfl,_⟩:=h;rfl
 ·obtain⟨D,u,kd,n,ys,rfl,O,hu,U,yl,kx,k⟩:=h;obtain⟨lj,kY,lu⟩:=T.nG;refine⟨_,(dJ (dw (PW.pt (F8 (jG zH (pv 2) (LU rfl T.BH) (jH _)) (Ji (jG (ZN K rfl) (pv 2) (QG (v:=.ref lj) rfl kY rfl) rfl)))) (dD (vp K rfl rfl vt (vE T.j2 T.j5 rfl T.j6 (aS lF bP)))) jP) (dJ (dw (jG V8 (eT (sI (dS hr) (eT (pv 0) rfl) (pv 1) (fun _ _=>rfl)) rfl) sZ (jH _)) (dD (vp K rfl rfl vt (vE T.j2 T.j5 rfl T.j6 (aS lF bP)))) jP) (dD (dw (jG zG (Ct (Qv K rfl) rfl T.uV boot_len (aS (iB (d7:=[]) eV (by simp) T.aH (hr.mono (by decide)) eE (pv 0) (aS (pv 1) bP)) bP)) (OI rfl T.uS) (jH _)) (dD (vp K rfl rfl vt (vE T.j2 T.j5 rfl T.j6 (aS lF bP)))) jP)))),?_⟩;show dW _ _ _ [some (.ref D.p),some (.str u),some (.str kd)] H;obtain⟨dx,fs,hp,ft⟩:=O.ex;obtain⟨eZ,_⟩:=iD hu;obtain⟨dn,fn,lD,kA⟩:=(O.nd n eZ).ex;walk_at"s";have on:qG kd->R [some (.ref D.p),some (.str u),some (.str kd)] H:=fun ok=>hR _ _ (by
   clear hR;walk_at"s";refine eL hp T.aH T.bq ft.no ?_;walk_at"rd";refine⟨_,i7 O hu,?_⟩;refine eL lD T.dh T.dI kA.ch ?_;cases hc:n.ch with
   |none=>
    walk_at"rd";exact gA (kx H (bE.refl _) fun q=>q.2.1 hc) T.ki
   |some c=>
    show R _ _;refine hR _ _ ?_;walk_at"rd";refine ig hp (nW ft _) ⟨D,u,ys,rfl,O,U,yl,fun l H' s' hl e=>?_⟩;refine V9 (.of e) ⟨_,rfl,?_⟩;rw[ai,gh];refine fE (fun c2=>gA (kx H' s' fun q=>by omega) T.ki) fun c2=>k H' s' ⟨ok,by rw[hc];simp,by omega⟩)
  refine fE (fun c1=>on (.inl c1)) fun c1=>?_;refine⟨_,_,rfl,.inr (lu H),rfl,rfl,_,rfl,?_⟩;rw[zrz,if_pos rfl];by_cases c2:jW kd
  ·rw[if_neg (by simp[c2])];exact on (.inr c2)
  ·rw[if_pos (by simp[c2])];exact gA (kx H (bE.refl _) fun q=>q.1.elim c1 c2) T.ki
inductive Oj(cN cT cC cP cS cL:Addr)(C:Cl)(vs:List V)(H:Hp)(Q:VK)(E:XK):Prop|mk (D:TD) (x u kd:Str) (s:Int) (rm:V) (h1:vs=[.ref D.p,.str x,.str u,.str kd,.int s,rm]) (h2:bW C H D) (h3:D.Wf) (h4:D.fit) (h5:Rj 10000 x) (h6:(rm= .cy\/∃r,rm= .int r)) (h7:(∀r,kH D x u kd s rm=some r->∀H',bE H H'->Rs (r.at cN cT cC cP cS cL) H' E)) (h8:(kH D x u kd s rm=none->∀(un:ND)(c:lV×dZ)(n:ND) H',aU D.ns u=some un->un.ch=some c->n.nm=x->n.ab=some u->n.rm=rm->n.bk=none->n.ps=[]->n.qu=[]->(kd=Str.ofString "leaf"->n.ch=none)->(jW kd->∃a,n.ch=some (a,dZ.new (uG kd)))->(∀b∈n.foot,H b=none)->bW C H' (D.put un c s n)->iw D.foot H H'->Q .cy H')):Oj cN cT cC cP cS cL C vs H Q E
include T in
theorem zte:di P w K mg base (fJ P w) 7 dA "put" ["self", "name", "under", "kind", "share", "room"] [[],[V.cy]] (Oj cJ cY cG cK cO cI (⟨cQ,cX,cV,cF,cA,dA⟩:Cl)):=by
  have Cz:=zvz P w base T
  have pB:=zhx P w base T
  have kR:=YM P w base T
  have xD:=zpr P w base T
  have xB:=zpt P w base T
  have AA:=zyu P w base T
  have lY:=Y4 P w base T
  refine T.zz.r9 (k:=6) zqq (fun vs H Q E h=>?_) (fun f dF A outer s H vs Q E hr h=>?_)
  · obtain ⟨D,x,u,kd,s,rm,rfl,_⟩:=h
    rfl
  · obtain ⟨D,x,u,kd,s,rm,rfl,O,W,F,xl,SH,kx,k⟩:=h
    refine ⟨_,(dJ (dw (DR (Cv (kB Cz (hr.mono (by decide)) rfl eE (aS (pv 1) bP)))) (dD (vp K rfl rfl vt (vE T.CL T.CY rfl T.C5 (aS lF bP)))) jP) (dJ (dw (Le (OZ (dS hr) (pv 1) (eT (pv 0) rfl))) (dD (vp K rfl rfl vt (vE T.yZ T.zu rfl T.zA (aS lF bP)))) jP) (dJ (dw (Le (VI (dS hr) (pv 2) (eT (pv 0) rfl))) (dD (vp K rfl rfl vt (vE T.pH T.pJ rfl T.pQ (aS lF bP)))) jP) (dJ (jV (iB (d7:=[]) pB (by simp) T.aH (hr.mono (by decide)) eE (pv 0) (aS (pv 2) (aS (pv 3) bP)))) (dJ (jV (kB kR (hr.mono (by decide)) rfl eE (aS (pv 4) bP))) (dJ (dw (PW.pt (F8 (jG o4 (pv 3) (LU rfl T.BH) (jH _)) (F8 (jG F6 (pv 5) sZ (jH _)) (Ji (jG nJ (pv 5) bU (jH _)))))) (dD (vp K rfl rfl vt (vE T.nA T.nD rfl T.nH (aS lF bP)))) jP) (dJ (jV (O0 (iB (d7:=[]) xD (by simp) T.bA (hr.mono (by decide)) eE (eT (sI (dS hr) (eT (pv 0) rfl) (pv 2) (fun _ _=>rfl)) rfl) (aS (pv 1) (aS (pv 4) bP))) (iB (d7:=[]) xB (by simp) T.aR (hr.mono (by decide)) eE (eT (sI (dS hr) (eT (pv 0) rfl) (pv 2) (fun _ _=>rfl)) rfl) (aS (pv 1) (aS (pv 4) bP))))) (dD (Du (dS hr) (eT (pv 0) rfl) (pv 1) (LQ (d7:=[]) AA (by simp) (hr.mono (by decide)) eE rfl T.BI (aS (pv 2) (aS (kB lY (hr.mono (by decide)) rfl eE (aS (pv 3) (aS (eT (pv 0) rfl) bP))) (aS (pv 5) bP)))) rfl))))))))),?_⟩
    show dW _ _ _ [some (.ref D.p),some (.str x),some (.str u),some (.str kd),some (.int s),some rm] H
    walk_at "s"
    refine ⟨x,rfl,xl.2,fun H1 s1=>?_⟩
    by_cases c1:yu x
    case neg =>
      rw [decide_eq_false c1]
      walk_at "rd"
      exact gA (kx _ (zsa c1) H1 s1) T.Dr
    rw [decide_eq_true c1]
    walk_at "rd"
    refine hR _ _ ?_
    clear hR
    have O1:=O.same s1
    obtain ⟨dx,fs,hp,ft⟩:=O1.ex
    walk_at "s"
    refine eL hp T.aH T.bq ft.no ?_
    walk_at "rd"
    refine ⟨_,g7.k (k:=aC x) O1.hn,?_⟩
    rw [OS]
    cases hx:aU D.ns x with
    | some v =>
      exact gA (kx _ (ZQ c1 (by rw [hx]; simp)) H1 s1) T.z7
    | none =>
    refine hR _ _ ?_
    clear hR
    walk_at "s"
    refine eL hp T.aH T.bq ft.no ?_
    walk_at "rd"
    refine ⟨_,g7.k (k:=aC u) O1.hn,?_⟩
    rw [OS]
    cases hu:aU D.ns u with
    | none =>
      exact gA (kx _ (zvf c1 hx hu) H1 s1) T.mE
    | some un =>
    refine hR _ _ ?_
    clear hR
    obtain ⟨sX,Ht⟩:=iD hu
    obtain ⟨ys,U,yl⟩:=W.up un sX
    rw [Ht] at U
    walk_at "s"
    refine ig hp (nW ft _) ⟨D,u,kd,un,ys,rfl,O1,hu,U,by omega,fun H2 s2 bad=>?_,fun H2 s2 JO=>hR _ _ ?_⟩
    · exact kx _ (ZR c1 hx hu fun q=>bad ⟨q.1,q.2.1,q.2.2 ys U⟩) H2 (s1.trans s2)
    clear hR
    have gd:qG kd/\un.ch≠none/\∀ ys,Up D.ns u ys->ys.length<=5:=⟨JO.1,JO.2.1,fun zs z=>by rw [<- U.det z]; exact JO.2.2⟩
    walk_at "s"
    refine ⟨s,rfl,fun c3=>hR _ _ ?_,fun c3=>kx _ (ZS c1 hx hu gd c3) H2 (s1.trans s2)⟩
    clear hR
    have Qf:=s1.trans s2
    have O2:=O.same Qf
    clear hp ft dx fs O1 s1 s2
    walk_at "s"
    have post:¬ (kd=Str.ofString "leaf" /\ ∃ r:Int,rm = .int r/\r<0)->R [some (.ref D.p),some (.str x),some (.str u),some (.str kd),some (.int s),some rm] H2:=fun c4=>hR _ _ (by
      clear hR
      have k:=k (VO c1 hx hu gd c3 c4)
      cases hc:un.ch with
      | none=>exact absurd hc gd.2.1
      | some c =>
      obtain ⟨dx,fs,hp,ft⟩:=O2.ex
      have N2:=O2.nd un sX
      obtain ⟨dn,fn,lD,kA⟩:=N2.ex
      rw [hc] at kA
      have CS:=N2.ch c hc
      have vS:=W.vS un sX c hc
      have nx:bD c.2.nm x=none:=by
        rw [Sw.kO,W.CW un sX c hc]
        intro z
        unfold iL at z
        obtain ⟨y,hy,e⟩:=av.mp z
        exact lK.mp hx (av.mpr ⟨y,(fF.mp hy).1,e⟩)
      have csz:=F.2 un sX c hc
      have fl:=F.1
      have kl:=W.xW sX hc
      obtain ⟨a,cs⟩:=c
      refine bJ fun R hR=>?_
      have Ms:∀ H3,mU a H2 H3->Av cX cV cF H3 a D.most (cs.put x s)->R [some (.ref D.p),some (.str x),some (.str u),some (.str kd),some (.int s),some rm] H3:=fun H3 ow C3=>hR _ _ (by
        clear hR
        have O3:=O2.xN W.nn sX hc ow C3
        obtain ⟨d3,f3,lM,Ly⟩:=O3.ex
        walk_at "rd"
        refine eL lM T.aH T.eA Ly.mo ?_
        walk_at "rd"
        have b3:∀ {b o},H b=some o->∃ o',H3 b=some o':=fun {b o} e=>by
          by_cases q:b∈kX a
          · exact (C3.at q).imp fun _ z=>z.1
          · exact ⟨o,ow.kW _ _ q (Qf _ _ e)⟩
        have n3:∀ {b},H3 b=none->H b=none:=fun {b} e=>by
          cases z:H b with
          | none=>rfl
          | some o=>obtain ⟨o',z'⟩:=b3 z; rw [e] at z'; cases z'
        have hx3:aU (cu D.ns { un with ch:=some (a,cs.put x s) }) x=none:=by
          rw [Ld]
          split
          · rw [hx]; rfl
          · exact hx
        have fin:∀ (yF:Option (lV×dZ)) (H4:Hp),bE H3 H4->(∀ c,yF=some c->Av cX cV cF H4 c.1 D.most c.2/\∀ b∈kX c.1,H3 b=none)->(kd=Str.ofString "leaf" -> yF=none)->(jW kd->∃ a,yF=some (a,dZ.new (uG kd)))->∀ y dy,H4 y=none->H4 dy=none ->
            KQ cQ [V.ref y,V.str u,Mv yF,rm] (upd (upd H4 dy (.own y)) y (.ins cQ dy [])) (fun v H2=>v=V.cy/\KE K (Str.ofString "nodes") (V.ref D.p) H2 fun x3 H2=>∃ a,x3=V.ref a/\∃ x4,lW H2 a (V.str x) (V.ref y) x4/\Q V.cy x4) (fun v d H'=>E v d H'):=fun yF H4 s4 CO klf FP y dy hy FI=>by
          refine ⟨y,dy,.str u,Mv yF,rm,rfl,bX,fun ql fs H5 bt hq h1 h2 h3=>⟨rfl,?_⟩⟩
          obtain ⟨s5,N5,fd5,q4⟩:=mZ.new (C:=(⟨cQ,cX,cV,cF,cA,dA⟩:Cl)) (m:=D.most) (nm:=x) (ab:=some u) hy FI bt hq h1 h2 h3 fun c e=>(CO c e).1
          have O5:=O3.same (s4.trans s5)
          obtain ⟨d5,f5,hp5,ft5⟩:=O5.ex
          have Xi:∀ {b},H4 b=none->H3 b=none:=fun {b} e=>by
            cases z:H3 b with
            | none=>rfl
            | some o=>rw [s4 _ _ z] at e; cases e
          have fr:∀ b∈ND.foot ⟨x,y,ql,some u,yF,rm,none,[],[]⟩,H3 b=none:=fun b hb=>by
            unfold ND.foot at hb
            rcases ak.mp hb with z | hb
            · rw [z]; exact Xi hy
            rcases ak.mp hb with z | hb
            · rw [z]; exact Xi q4
            rcases ao.mp hb with z | z
            · cases yF with
              | none=>cases z
              | some c=>exact (CO c rfl).2 b z
            · cases z
          refine eL hp5 T.aH T.bq ft5.no ?_
          refine ⟨_,rfl,_,lW.k (k:=aC x) O5.hn (Cu (by rw [zve]; unfold cu; rw [ai]; omega)),?_⟩
          have e5:=Ui (n:=⟨x,y,ql,some u,yF,rm,none,[],[]⟩) hx3
          rw [e5]
          refine k un (a,cs) ⟨x,y,ql,some u,yF,rm,none,[],[]⟩ _ hu hc rfl rfl rfl rfl rfl rfl klf FP (fun b hb=>n3 (fr b hb)) (O3.snoc (s4.trans s5) N5 fd5 fr) fun b o nb e=>?_
          rw [bM (fun z=>nb (by rw [z]; exact ae _ (aj ..)))]
          refine s5 _ _ (s4 _ _ (ow.kW _ _ (fun z=>nb (TD.e8 sX ?_)) (Qf _ _ e)))
          unfold ND.foot
          rw [hc]
          exact ae _ (ae _ (ao.mpr (.inl z)))
        refine ⟨kd,D.most,rfl,W.m1.1,fun ik a' H4 s4 na C4 y dy hy FI _=>fin (some (a',dZ.new (uG kd))) H4 s4 (fun c e=>?_) (fun e=>?_) (fun _=>⟨a',rfl⟩) y dy hy FI,fun nk y dy hy FI _=>fin none H3 (bE.refl _) (fun c e=>by cases e) (fun _=>rfl) (fun z=>absurd z nk) y dy hy FI⟩
        · cases e; exact ⟨C4,na⟩
        · subst e
          exact absurd ik (by decide +kernel))
      clear hR
      walk_at "rd"
      cases cs with
      | st nm tg gs ck ch N =>
        refine .inl ?_
        walk_at "rd"
        refine eL hp T.aH T.bq ft.no ?_
        walk_at "rd"
        refine ⟨_,i7 O2 hu,?_⟩
        refine eL lD T.dh T.dI kA.ch ?_
        have S:Sx cX cF H2 a D.most nm tg gs ck ch N:=CS
        obtain ⟨Eh,rG,pr,CQ,Ib,kI⟩:=S.ex
        refine ig CQ (Ib.x9 _) ⟨a,D.most,nm,tg,gs,ck,ch,N,x,s,rfl,S,?_,fun z=>absurd nx z,fun _ z=>absurd c3 z,fun _ _ H3 ow S'=>Ms H3 ow S'⟩
        have:N<=800:=csz
        omega
      | rd nm q rs tu ch =>
        refine .inr ?_
        walk_at "rd"
        refine eL hp T.aH T.bq ft.no ?_
        walk_at "rd"
        refine ⟨_,i7 O2 hu,?_⟩
        refine eL lD T.dh T.dI kA.ch ?_
        have S:Rx cV cF H2 a D.most nm q rs tu ch:=CS
        refine S.uQ (by decide +kernel) ⟨a,D.most,nm,q,rs,tu,ch,x,s,rfl,S,vS.2,?_,fun z=>absurd nx z,fun _ z=>absurd c3 z,fun _ _ H3 ow S'=>Ms H3 ow S'⟩
        have:nm.length<=D.ns.length:=kl
        omega)
    clear hR
    refine fE (fun c4=>fE (fun c5=>post fun q=>?_) fun c5=>?_) fun c4=>post fun q=>c4 q.1
    · obtain ⟨r,e,_⟩:=q.2
      rw [c5] at e; cases e
    · obtain ⟨r,e⟩:=SH.resolve_left c5
      refine ⟨r,e,fE (fun c6=>gA (kx _ (zsz c1 hx hu gd c3 ⟨c4,r,e,c6⟩) H2 Qf) T.jt) fun c6=>post fun q=>?_⟩
      obtain ⟨r',e',h'⟩:=q.2
      rw [e] at e'; cases e'
      exact c6 h'
inductive Oi(cL cP:Addr)(C:Cl)(vs:List V)(H:Hp)(Q:VK)(E:XK):Prop|mk (x dx:Addr) (m:Int) (kd:Str) (h1:vs=[.ref x,.int m,.str kd]) (h2:H x=some (.ins C.t dx [])) (h3:(¬(1<=m/\m<=1000000)->Rs cL H E)) (h4:(1<=m/\m<=1000000->¬jW kd->Rs cP H E)) (h5:(1<=m/\m<=1000000->jW kd->∀(pn pg:Addr)(n:ND)(a:lV) H',n=⟨road,n.p,n.ql,none,some (a,dZ.new (uG kd)),.cy,none,[],[]⟩->tq x H H'->(∀b∈TD.foot ⟨x,pn,pg,m,0,0,0,[n],[],[]⟩,b=x\/H b=none)->bW C H' ⟨x,pn,pg,m,0,0,0,[n],[],[]⟩->Q .cy H')):Oi cL cP C vs H Q E
include T in
theorem Vs:Fo P w K mg base (fJ P w) 7 dA ["self","most","kind"] [[],[V.str (Str.ofString "starts")]] (Oi cI cK (⟨cQ,cX,cV,cF,cA,dA⟩:Cl)):=by
 have xx:=zpv P w base T;have lY:=Y4 P w base T;have AA:=zyu P w base T;refine T.GX.r9 (k:=6) zpl (fun vs H Q E h=>?_) (fun f dF A outer s H vs Q E hr h=>?_)
 ·obtain⟨x,dx,m,kd,rfl,_⟩:=h;rfl
 ·obtain⟨x,dx,m,kd,rfl,hx,kl,kp,k⟩:=h;obtain⟨lj,kY,lu⟩:=T.nG;refine⟨_,(dJ (jV (kB xx (hr.mono (by decide)) rfl eE (aS (pv 1) bP))) (dJ (dw (jG (ZN K rfl) (pv 2) (QG (v:=.ref lj) rfl kY rfl) rfl) (dD (vp K rfl rfl vt (vE T.j2 T.j5 rfl T.j6 (aS lF bP)))) jP) (dJ (lT (pv 0) (pv 1) rfl) (dJ (lT (pv 0) (zuy (VM (LU rfl T.xZ) (LQ (d7:=[V.cy]) AA (by simp) (hr.mono (by decide)) eE rfl T.BI (aS sZ (aS (kB lY (hr.mono (by decide)) rfl eE (aS (pv 2) (aS (pv 1) bP))) bP))) zux) rfl rfl (by intro z;cases z) (by decide)) rfl) (dJ (lT (pv 0) bU rfl) (dJ (lT (pv 0) bU rfl) (dJ (lT (pv 0) bU rfl) (dD (lT (pv 0) (Ab bP) rfl))))))))),?_⟩;show dW _ _ _ [some (.ref x),some (.int m),some (.str kd)] H;walk_at"s";refine⟨m,rfl,fun c1=>hR _ _ ?_,kl⟩;clear hR;walk_at"s";refine⟨_,_,rfl,.inr (lu H),rfl,rfl,_,rfl,?_⟩;rw[zrz,if_pos rfl];by_cases c2:jW kd
  case neg=>
   rw[if_pos (by simp[c2])];exact gA (kp c1 c2) T.ki
  rw[if_neg (by simp[c2])];refine hR _ _ ?_;clear hR;have k:=k c1 c2;have l1:=i9 (fs:=[]) (f:="most") (v:=.int m);simp only[bG]at l1;walk_at"s";refine lU hx T.aH T.eA (by simp) (hR _ _ ?_);clear hR;have h1:upd H x (.ins dA dx (aD "most" (.int m) [])) x=some (.ins dA dx (aD "most" (.int m) [])):=bX;have b1:tq x H (upd H x (.ins dA dx (aD "most" (.int m) []))):=LZ;have n1:∀{b},upd H x (.ins dA dx (aD "most" (.int m) [])) b=none->H b=none:=fun{b} e=>by
   by_cases z:b=x
   ·rw[z,bX]at e;cases e
   ·rw[bM z]at e;exact e
  show dW _ _ _ _ (upd H x (.ins dA dx (aD "most" (.int m) [])));generalize upd H x (.ins dA dx (aD "most" (.int m) []))=H1 at h1 b1 n1⊢;walk_at"s";unfold IW;intro pn GO;unfold sE sE;walk_at"rd";have s2:=fV (o:=.dK []) GO;have h2:upd H1 pn (.dK []) pn=some (.dK []):=bX;generalize upd H1 pn (.dK [])=H2 at s2 h2⊢;refine⟨kd,m,rfl,c1.1,fun _ a H3 s3 na C3 y dy hy FI _=>?_,fun z=>absurd c2 z⟩;refine⟨y,dy,.cy,.ref a.p,.cy,rfl,bX,fun ql fs H4 bt hq h4 f4 q4=>⟨rfl,?_⟩⟩;obtain⟨s4,N4,fd4,q3⟩:=mZ.new (C:=(⟨cQ,cX,cV,cF,cA,dA⟩:Cl)) (m:=m) (nm:=road) (ab:=none) (ch:=some (a,dZ.new (uG kd))) (rm:=.cy) hy FI bt hq h4 f4 q4 fun c e=>by cases e;exact C3
  refine⟨s4 _ _ (s3 _ _ h2),[((aC road:Key),V.ref y)],rfl,by simp,?_⟩;have ME:∀b∈ND.foot ⟨road,y,ql,none,some (a,dZ.new (uG kd)),.cy,none,[],[]⟩,H2 b=none:=fun b hb=>by
   have Xh:∀{b},H3 b=none->H2 b=none:=fun{b} e=>by
    cases z:H2 b with
    |none=>rfl
    |some o=>rw[s3 _ _ z]at e;cases e
   unfold ND.foot at hb;rcases ak.mp hb with z|hb
   ·rw[z];exact Xh hy
   rcases ak.mp hb with z|hb
   ·rw[z];exact Xh q3
   rcases ao.mp hb with z|z
   ·exact na b z
   ·cases z
  have Dg:bE H1 H4:=s2.trans (s3.trans s4);have no2:∀{b},H2 b=none->H1 b=none:=fun{b} e=>by
   cases z:H1 b with
   |none=>rfl
   |some o=>rw[s2 _ _ z]at e;cases e
  have Ud:x≠pn:=i8 h1 GO;have h5:upd H4 pn (.dK (Fi [] [((aC road:Key),V.ref y)])) pn=some (.dK (wU [⟨road,y,ql,none,some (a,dZ.new (uG kd)),.cy,none,[],[]⟩])):=bX;have x5:upd H4 pn (.dK (Fi [] [((aC road:Key),V.ref y)])) x=some (.ins dA dx (aD "most" (.int m) [])):=by rw[bM Ud];exact Dg _ _ h1
  have k5:∀b o,b≠pn->H4 b=some o->upd H4 pn (.dK (Fi [] [((aC road:Key),V.ref y)])) b=some o:=fun b o q e=>by rw[bM q];exact e
  have o5:∀b,upd H4 pn (.dK (Fi [] [((aC road:Key),V.ref y)])) b=none->H4 b=none:=fun b e=>by
   by_cases z:b=pn
   ·rw[z,bX]at e;cases e
   ·rw[bM z]at e;exact e
  have Xq:=s4 _ _ (s3 _ _ h2);generalize upd H4 pn (.dK (Fi [] [((aC road:Key),V.ref y)]))=H5 at h5 x5 k5 o5⊢;have l2:=i9 (fs:=aD "most" (.int m) []) (f:="nodes") (v:=.ref pn);have l3:=i9 (fs:=aD "nodes" (.ref pn) (aD "most" (.int m) [])) (f:="time") (v:=.int 0);have l4:=i9 (fs:=aD "time" (.int 0) (aD "nodes" (.ref pn) (aD "most" (.int m) []))) (f:="free") (v:=.int 0);have l5:=i9 (fs:=aD "free" (.int 0) (aD "time" (.int 0) (aD "nodes" (.ref pn) (aD "most" (.int m) [])))) (f:="counted") (v:=.int 0);refine lU x5 T.aH T.bq (by omega) (hR _ _ ?_);clear hR;walk_at"s";refine lU bX T.aH T.gQ (by omega) (hR _ _ ?_);clear hR;rw[Aa];walk_at"s";refine lU bX T.aH T.mw (by omega) (hR _ _ ?_);clear hR;rw[Aa];walk_at"s";refine lU bX T.aH T.jD (by omega) (hR _ _ ?_);clear hR;rw[Aa];walk_at"rd";intro pg rS;have xg:pg≠x:=fun z=>by rw[z,bX]at rS;cases rS
  have g5:H5 pg=none:=by rw[bM xg]at rS;exact rS
  have g4:=o5 _ g5;have ng:pn≠pg:=i8 Xq g4;refine lU (by rw[bM (b9 xg),bX]) T.aH T.mC (by omega) ?_;have kp:∀{b o},b≠x->b≠pg->H5 b=some o->upd (upd (upd H5 x (.ins dA dx (aD "counted" (.int 0) (aD "free" (.int 0) (aD "time" (.int 0) (aD "nodes" (.ref pn) (aD "most" (.int m) []))))))) pg (.lst [])) x (.ins dA dx (aD "gone" (.ref pg) (aD "counted" (.int 0) (aD "free" (.int 0) (aD "time" (.int 0) (aD "nodes" (.ref pn) (aD "most" (.int m) []))))))) b=some o:=fun{b o} q1 q2 e=>by rw[bM q1,bM q2,bM q1];exact e
  have hg:upd (upd (upd H5 x (.ins dA dx (aD "counted" (.int 0) (aD "free" (.int 0) (aD "time" (.int 0) (aD "nodes" (.ref pn) (aD "most" (.int m) []))))))) pg (.lst [])) x (.ins dA dx (aD "gone" (.ref pg) (aD "counted" (.int 0) (aD "free" (.int 0) (aD "time" (.int 0) (aD "nodes" (.ref pn) (aD "most" (.int m) []))))))) pg=some (.lst []):=by rw[bM xg,bX]
  have hf:upd (upd (upd H5 x (.ins dA dx (aD "counted" (.int 0) (aD "free" (.int 0) (aD "time" (.int 0) (aD "nodes" (.ref pn) (aD "most" (.int m) []))))))) pg (.lst [])) x (.ins dA dx (aD "gone" (.ref pg) (aD "counted" (.int 0) (aD "free" (.int 0) (aD "time" (.int 0) (aD "nodes" (.ref pn) (aD "most" (.int m) []))))))) x=some (.ins dA dx (aD "gone" (.ref pg) (aD "counted" (.int 0) (aD "free" (.int 0) (aD "time" (.int 0) (aD "nodes" (.ref pn) (aD "most" (.int m) []))))))):=bX;generalize upd (upd (upd H5 x (.ins dA dx (aD "counted" (.int 0) (aD "free" (.int 0) (aD "time" (.int 0) (aD "nodes" (.ref pn) (aD "most" (.int m) []))))))) pg (.lst [])) x (.ins dA dx (aD "gone" (.ref pg) (aD "counted" (.int 0) (aD "free" (.int 0) (aD "time" (.int 0) (aD "nodes" (.ref pn) (aD "most" (.int m) [])))))))=Hf at kp hg hf⊢;have bx:∀{b},H2 b=none->b≠x:=fun{b} e z=>by rw[z,s2 _ _ h1]at e;cases e
  have bn:∀{b},H2 b=none->b≠pn:=fun{b} e z=>by rw[z,h2]at e;cases e
  have k4:∀{b o},b≠x->b≠pn->H4 b=some o->Hf b=some o:=fun{b o} q1 q2 e=>kp q1 (i8 e g4) (k5 b o q2 e);refine k pn pg ⟨road,y,ql,none,some (a,dZ.new (uG kd)),.cy,none,[],[]⟩ a Hf rfl (fun b o nb e=>?_) (fun b hb=>?_) ⟨⟨dx,_,hf,Ay.G2 ..⟩,kp Ud.symm ng h5,fun z hz=>?_,hg,.nil,?_⟩
  ·have e1:=b1 b o nb e;exact k4 nb (i8 e1 GO) (Dg _ _ e1)
  ·unfold TD.foot at hb;rcases ak.mp hb with z|hb
   ·exact .inl z
   rcases ak.mp hb with z|hb
   ·rw[z];exact .inr (n1 GO)
   rcases ak.mp hb with z|hb
   ·rw[z];refine .inr (n1 ?_);cases z:H1 pg with
    |none=>rfl
    |some o=>rw[Dg _ _ z]at g4;cases g4
   obtain⟨w,hw,z⟩:=dR.mp hb;rw[au.mp hw]at z;exact .inr (n1 (no2 (ME b z)))
  ·rw[au.mp hz];refine N4.keep fun b o hb e=>?_;rcases hb with q|⟨xs,q⟩
   ·exact k4 (bx (ME b q)) (bn (ME b q)) e
   ·exact k4 (fun w=>by rw[w,Dg _ _ h1]at q;cases q) (fun w=>by rw[w,Xq]at q;cases q) e
  ·show(x::pn::pg::([⟨road,y,ql,none,some (a,dZ.new (uG kd)),.cy,none,[],[]⟩]:List ND).flatMap ND.foot).Nodup;rw[jf,HM,aJ];simp only[aG,ak,not_or];refine⟨⟨Ud,b9 xg,fun z=>bx (ME _ z) rfl⟩,⟨ng,fun z=>bn (ME _ z) rfl⟩,fun z=>?_,fd4⟩;obtain⟨o,ho,_⟩:=N4.at z;rw[g4]at ho;cases ho
theorem zsi{l D:Addr}{ps:List Addr}{gs:List D2}{H:Hp}{Q:VK}{te:TE}(pr:D2->Int)(R:CA H l ps gs)(hD:H D=none)(ng:ps.length<=900)(ht:∀(g:D2)(H':Hp)(Z:VK),Z (.int (pr g)) H'->te [some (.int g.1),some (.int g.2)] H' Z)(k:∀H',bE H H'->H' D=some (.lst ((gs.map pr).map V.int))->Q (.ref D) H'):pV (Gf K l) (CN K 2 (wO (nB 0) (wO (nB 1) Em))) yo te D [none,none] (upd H D (.lst [])) Q:=by
 have lg:=R.r.len;refine Jf (xs:=ps.map V.ref) (fun i τ H'=>(∃v0 v1,τ=[v0,v1])/\bE H H'/\H' D=some (.lst (((gs.take i).map pr).map V.int))) ⟨⟨none,none,rfl⟩,fV hD,bX⟩ (fun i τ H' _ h=>.of (h.2.1 _ _ R.hl)) ?_ ?_
 ·rintro i x τ H' hx ⟨⟨v0,v1,rfl⟩,s',xR⟩;rw[aP]at hx;cases e:ps[i]? with
  |none=>rw[e]at hx;cases hx
  |some p=>
   rw[e]at hx;cases hx
   obtain⟨g,hg,hp⟩:=R.r.get e;refine⟨p,_,rfl,.of (s' _ _ hp),rfl,_,_,rfl,_,_,rfl,rfl,?_⟩;show yo [some (.int g.1),some (.int g.2)] H' _;unfold yo;refine ht g H' _ ?_;refine⟨_,xR,Cu ?_,⟨_,_,rfl⟩,fun b o e=>?_,?_⟩
   ·rw[ai,ai,aY];omega
   ·rw[bM (i8 e hD)];exact s' _ _ e
   ·rw[bX,Dt hg,aA,aA];rfl
 ·rintro τ H' ⟨_,s',xR⟩;rw[ai,lg,bF]at xR;exact k H' s' xR
def BR(rm:V)(qu:List D2)(len:Int):Bool:=match rm with
 | .int r=>decide ((qu.map (·.2)).sum+len<=r)
 |_=>true
inductive N9(C:Cl)(vs:List V)(H:Hp)(Q:VK)(E:XK):Prop|mk (n:ND) (m len:Int) (h1:vs=[.ref n.p,.int len]) (h2:mZ C H m n) (h3:n.ps.length<=900) (h4:(n.rm= .cy\/∃r,n.rm= .int r)) (h5:∀H',bE H H'->Q (.bl (BR n.rm n.qu len)) H'):N9 C vs H Q E
include T in
theorem zgl:di P w K mg base (fJ P w) 1 cQ "has_room_for" ["self","length"] [[]] (N9 (⟨cQ,cX,cV,cF,cA,dA⟩:Cl)):=by
 refine T.nE.okN (k:=0) zfm (fun vs H Q E h=>?_) (fun f dF A outer s H vs Q E hr h=>?_)
 ·obtain⟨n,m,len,rfl,_⟩:=h;rfl
 ·obtain⟨n,m,len,rfl,N,nl,SH,k⟩:=h;refine⟨_,(dD (gZ (NI (LW V8 (eT (pv 0) rfl) sZ (jH _)) (zyb (LW mH (aT sJ (Ct (zug K rfl rfl) rfl T.Ko boot_sum (aS (nM ["number","each"] [] rfl (by with_unfolding_all rfl) (by decide+kernel) rfl (by decide+kernel) (by exact bB) (by with_unfolding_all rfl) bB (yr K rfl (eT (pv 0) rfl)) (fun _ _ _=>(LY (n:=2) K rfl rfl (Cs (nX (i:=0) (show(["number","each"]:List Str).Nodup from by decide+kernel) rfl (by first|left;rfl|right;rfl)) (Cs (nX (i:=1) (show(["number","each"]:List Str).Nodup from by decide+kernel) rfl (by first|left;rfl|right;rfl)) LV)))) (fun _ _ _=>Lb) (fun _ _ _=>(pv 1))) bP)) (pv 1)) (eT (pv 0) rfl) (jH _)))))),?_⟩;show jF _ _ [some (.ref n.p),some (.int len)] H;obtain⟨dn,fn,lD,kA⟩:=N.ex;walk_at"rd";refine eL lD T.dh T.mq kA.rm ?_;rcases SH with z|⟨r,z⟩
  ·rw[z]at k⊢;exact fE (fun _=>k H (bE.refl _)) fun y=>absurd rfl y
  ·rw[z]at k kA⊢;refine fE (fun y=>by cases y) fun _=>?_;refine eL lD T.dh T.fS kA.qu ?_;walk_at"rd";refine⟨⟨_,.of N.qu.hl⟩,fun D hD=>?_⟩;refine zsi (·.2) N.qu hD nl (fun g H' Z q=>⟨_,rfl,q⟩) fun H' s' xR=>?_;refine⟨D,_,rfl,.of xR,_,rfl,?_⟩;refine eL (s' _ _ lD) T.dh T.mq kA.rm ⟨_,rfl,?_⟩;exact k H' s'
def TW(cC cP:Addr)(C:Cl):Sp:=fun vs H Q E=>∃(D:TD)(x:Str),vs=[.ref D.p,.str x]/\bW C H D/\(x=road\/aU D.ns x=none->Rs cC H E)/\(x≠road->∀n,aU D.ns x=some n->n.ch≠none->Rs cP H E)/\(x≠road->∀n,aU D.ns x=some n->n.ch=none->Q .cy H)
include T in
theorem X4:di P w K mg base (fJ P w) 2 dA "check_leaf" ["self","name"] [[]] (TW cG cK (⟨cQ,cX,cV,cF,cA,dA⟩:Cl)):=by
 have eF:=Qs P w base T;refine T.pN.r9 (k:=1) zhp (fun vs H Q E h=>?_) (fun f dF A outer s H vs Q E hr h=>?_)
 ·obtain⟨D,x,rfl,_⟩:=h;rfl
 ·obtain⟨D,x,rfl,O,kc,kp,k⟩:=h;refine⟨_,(dJ (jV (iB (d7:=[]) eF (by simp) T.aH (hr.mono (by decide)) eE (pv 0) (aS (pv 1) bP))) (dD (dw (jG F6 (eT (sI (dS hr) (eT (pv 0) rfl) (pv 1) (fun _ _=>rfl)) rfl) sZ (jH _)) (dD (vp K rfl rfl vt (vE T.j2 T.j5 rfl T.j6 (aS lF bP)))) jP))),?_⟩;show dW _ _ _ [some (.ref D.p),some (.str x)] H;obtain⟨dx,fs,hp,ft⟩:=O.ex;walk_at"s";refine ig hp (nW ft _) ⟨D,x,rfl,O,fun c1 c2=>hR _ _ ?_,kc⟩;cases hx:aU D.ns x with
  |none=>exact absurd hx c2
  |some n=>
  obtain⟨dn,fn,lD,kA⟩:=(O.nd n (iD hx).1).ex;walk_at"rd";refine eL hp T.aH T.bq ft.no ?_;walk_at"rd";refine⟨_,i7 O hx,?_⟩;refine eL lD T.dh T.dI kA.ch ?_;cases hc:n.ch with
  |none=>exact k c1 n hx hc
  |some c=>exact gA (kp c1 n hx (by rw[hc];simp)) T.ki
def IA(n:ND):List V:=(n.qu.map (·.1)).map V.int
def T7(cC cP:Addr)(C:Cl):Sp:=fun vs H Q E=>∃(D:TD)(x:Str),vs=[.ref D.p,.str x]/\bW C H D/\(∀n∈D.ns,n.ps.length<=900)/\(x=road\/aU D.ns x=none->Rs cC H E)/\(x≠road->∀n,aU D.ns x=some n->n.ch≠none->Rs cP H E)/\(x≠road->∀n,aU D.ns x=some n->n.ch=none->∀l H',bE H H'->H l=none->H' l=some (.lst (IA n))->Q (.ref l) H')
include T in
theorem zma:di P w K mg base (fJ P w) 3 dA "waiting" ["self","name"] [[]] (T7 cG cK (⟨cQ,cX,cV,cF,cA,dA⟩:Cl)):=by
 have iI:=X4 P w base T;refine T.tT.r9 (k:=2) zla (fun vs H Q E h=>?_) (fun f dF A outer s H vs Q E hr h=>?_)
 ·obtain⟨D,x,rfl,_⟩:=h;rfl
 ·obtain⟨D,x,rfl,O,ql,kc,kp,k⟩:=h;refine⟨_,(dJ (jV (iB (d7:=[]) iI (by simp) T.aH (hr.mono (by decide)) eE (pv 0) (aS (pv 1) bP))) (dD (gZ (nM ["number","length"] [] rfl (by with_unfolding_all rfl) (by decide+kernel) rfl (by decide+kernel) (by exact bB) (by with_unfolding_all rfl) bB (yr K rfl (eT (sI (dS hr) (eT (pv 0) rfl) (pv 1) (fun _ _=>rfl)) rfl)) (fun _ _ _=>(LY (n:=2) K rfl rfl (Cs (nX (i:=0) (show(["number","length"]:List Str).Nodup from by decide+kernel) rfl (by first|left;rfl|right;rfl)) (Cs (nX (i:=1) (show(["number","length"]:List Str).Nodup from by decide+kernel) rfl (by first|left;rfl|right;rfl)) LV)))) (fun _ _ _=>Lb) (fun _ _ _=>(pv 0)))))),?_⟩;show dW _ _ _ [some (.ref D.p),some (.str x)] H;obtain⟨dx,fs,hp,ft⟩:=O.ex;walk_at"s";refine ig hp (nW ft _) ⟨D,x,rfl,O,kc,kp,fun c1 n hx hc=>hR _ _ ?_⟩;have eZ:=(iD hx).1;have N:=O.nd n eZ;obtain⟨dn,fn,lD,kA⟩:=N.ex;walk_at"rd";refine eL hp T.aH T.bq ft.no ?_;walk_at"rd";refine⟨_,i7 O hx,?_⟩;refine eL lD T.dh T.fS kA.qu ?_;walk_at"rd";refine⟨⟨_,.of N.qu.hl⟩,fun L hL=>?_⟩;exact zsi (·.1) N.qu hL (ql n eZ) (fun g H' Z q=>⟨_,rfl,q⟩) fun H' s' xR=>k c1 n hx hc L H' s' hL xR
def Od(C:Cl):Sp:=fun vs H Q _=>∃(D:TD),vs=[.ref D.p]/\bW C H D/\Q (.int D.tm) H
include T in
theorem VD:di P w K mg base (fJ P w) 1 dA "now" ["self"] [[]] (Od (⟨cQ,cX,cV,cF,cA,dA⟩:Cl)):=by
 refine T.zy.okN (k:=0) zqr (fun vs H Q E h=>?_) (fun f dF A outer s H vs Q E hr h=>?_)
 ·obtain⟨D,rfl,_⟩:=h;rfl
 ·obtain⟨D,rfl,O,k⟩:=h;refine⟨_,(dD (gZ (eT (pv 0) rfl))),?_⟩;show jF _ _ [some (.ref D.p)] H;obtain⟨dx,fs,hp,ft⟩:=O.ex;walk_at"rd";exact eL hp T.aH T.gQ ft.ti k
def TD.pF(D:TD)(n:ND)(q:Addr)(len:Int):TD:={D with ct:=D.ct+1,ns:=cu D.ns {n with ps:=n.ps++[q],qu:=n.qu++[(D.ct,len)]}}
inductive EQ(cC cP cL:Addr)(C:Cl)(vs:List V)(H:Hp)(Q:VK)(E:XK):Prop|mk (D:TD) (x:Str) (len:Int) (h1:vs=[.ref D.p,.str x,.int len]) (h2:bW C H D) (h3:D.Wf) (h4:(∀n∈D.ns,n.ps.length<=890/\(n.rm= .cy\/∃r,n.rm= .int r))) (h5:(x=road\/aU D.ns x=none->Rs cC H E)) (h6:(x≠road->∀n,aU D.ns x=some n->n.ch≠none->Rs cP H E)) (h7:(x≠road->∀n,aU D.ns x=some n->n.ch=none->(¬(1<=len/\len<=D.most)->Rs cL H E)/\(1<=len/\len<=D.most->(BR n.rm n.qu len=false->∀H',bE H H'->Q .cy H')/\(BR n.rm n.qu len=true->∀q H',H q=none->bW C H' (TD.pF D n q len)->iw D.foot H H'->Q (.int D.ct) H')))):EQ cC cP cL C vs H Q E
include T in
theorem zqt:di P w K mg base (fJ P w) 3 dA "come" ["self","name","length"] [[]] (EQ cG cK cI (⟨cQ,cX,cV,cF,cA,dA⟩:Cl)):=by
 have iI:=X4 P w base T;have oh:=zgl P w base T;refine T.xX.r9 (k:=2) qV (fun vs H Q E h=>?_) (fun f dF A outer s H vs Q E hr h=>?_)
 ·obtain⟨D,x,len,rfl,_⟩:=h;rfl
 ·obtain⟨D,x,len,rfl,O,W,ql,kc,kp,k⟩:=h;refine⟨_,(dJ (jV (iB (d7:=[]) iI (by simp) T.aH (hr.mono (by decide)) eE (pv 0) (aS (pv 1) bP))) (dJ (dw (DR (QB mH mH bU (pv 2) (eT (pv 0) rfl))) (dD (vp K rfl rfl vt (vE T.nA T.nD rfl T.nH (aS lF bP)))) jP) (dJ (dw (DR (Cv (iB (d7:=[]) oh (by simp) T.dh (hr.mono (by decide)) eE (sI (dS hr) (eT (pv 0) rfl) (pv 1) (fun _ _=>rfl)) (aS (pv 2) bP)))) (dD (gZ sZ)) jP) (dJ (ju (i:=3) qV.nd rfl (eT (pv 0) rfl)) (dJ (lT (pv 0) (aT sJ (pv 3) bU) rfl) (dJ (jV (nK bH dN dO F5 (eT (sI (dS hr) (eT (pv 0) rfl) (pv 1) (fun _ _=>rfl)) rfl) (aS (yt (aS (pv 3) (aS (pv 2) bP))) bP))) (dD (gZ (pv 3))))))))),?_⟩;show dW _ _ _ [some (.ref D.p),some (.str x),some (.int len),none] H;obtain⟨dx,fs,hp,ft⟩:=O.ex;walk_at"s";refine ig hp (nW ft _) ⟨D,x,rfl,O,kc,kp,fun c1 n hx hc=>hR _ _ ?_⟩;clear hR;obtain⟨kl,k⟩:=k c1 n hx hc;obtain⟨eZ,ne⟩:=iD hx;have N:=O.nd n eZ;obtain⟨dn,fn,lD,kA⟩:=N.ex;obtain⟨ql1,ql2⟩:=ql n eZ;walk_at"s";have post:1<=len/\len<=D.most->R [some (.ref D.p),some (.str x),some (.int len),none] H:=fun c2=>hR _ _ (by
   clear hR;obtain⟨kn,k⟩:=k c2;walk_at"s";refine eL hp T.aH T.bq ft.no ?_;walk_at"rd";refine⟨_,i7 O hx,?_⟩;refine ig lD (kA.x9 _) ⟨n,D.most,len,rfl,N,by omega,ql2,fun H1 s1=>?_⟩;cases hb:BR n.rm n.qu len with
   |false=>
    walk_at"rd";exact kn hb H1 s1
   |true=>
    walk_at"rd";refine hR _ _ ?_;clear hR;have k:=k hb;have O1:=O.same s1;obtain⟨dx,fs,hp,ft⟩:=O1.ex;walk_at"s";refine eL hp T.aH T.jD ft.co (hR _ _ ?_);clear hR;walk_at"s";refine lU hp T.aH T.jD (by have:=ft.len;omega) (hR _ _ ?_);clear hR;have O2:=O1.field hp (ft.Ky (Pj:=D.ct+1));have W8:∀b o,b≠D.p->H1 b=some o->upd H1 D.p (.ins dA dx (aD "counted" (.int (D.ct+1)) fs)) b=some o:=fun b o q e=>by rw[bM q];exact e
    have n2:∀b,upd H1 D.p (.ins dA dx (aD "counted" (.int (D.ct+1)) fs)) b=none->H b=none:=fun b e=>by
     by_cases z:b=D.p
     ·rw[z,bX]at e;cases e
     ·rw[bM z]at e;cases y:H b with
      |none=>rfl
      |some o=>rw[s1 _ _ y]at e;cases e
    refine(show dW _ _ _ [some (.ref D.p),some (.str x),some (.int len),some (.int D.ct)] (upd H1 D.p (.ins dA dx (aD "counted" (.int (D.ct+1)) fs)))from ?_);generalize upd H1 D.p (.ins dA dx (aD "counted" (.int (D.ct+1)) fs))=H2 at O2 W8 n2⊢;obtain⟨dx,fs,hp,ft⟩:=O2.ex;have N2:=O2.nd n eZ;obtain⟨dn,fn,lD,kA⟩:=N2.ex;walk_at"s";refine eL hp T.aH T.bq ft.no ?_;walk_at"rd";refine⟨_,i7 (D:={D with ct:=D.ct+1}) O2 hx,?_⟩;refine eL lD T.dh T.fS kA.qu ?_;walk_at"rd";refine⟨Fg N2.qu.hl,fun q hq=>?_⟩;have s3:=fV (o:=.tup [.int D.ct,.int len]) hq;have O3:=O2.same s3;have r3:jj (upd H2 q (.tup [.int D.ct,.int len])) (n.ps++[q]) (n.qu++[(D.ct,len)]):=OD (F:=fun p(g:D2)=>upd H2 q (.tup [.int D.ct,.int len]) p=some (.tup (d2 g))) bX (O3.nd n eZ).qu.r;have O4:=O3.queue W.nn eZ r3;rw[aA]at O4;refine Lf (s3 _ _ N2.qu.hl) (by rw[ai];omega) (hR _ _ ?_);clear hR;walk_at"rd";refine k q _ (n2 q hq) O4 fun b o nb e=>?_;have b1:b≠D.p:=fun z=>nb (z▸aj ..);have b2:b≠n.ql:=fun z=>nb (TD.e8 eZ (z▸ae _ (aj ..)));have e2:=W8 b o b1 (s1 _ _ e);rw[bM b2];exact s3 _ _ e2)
  clear hR;refine fE (fun a1=>eL hp T.aH T.eA ft.mo ⟨_,rfl,?_⟩) fun a1=>gA (kl fun z=>a1 z.1) T.jt;exact fE (fun a2=>post ⟨a1,a2⟩) fun a2=>gA (kl fun z=>a2 z.2) T.jt
def T4(C:Cl):Sp:=fun vs H Q _=>∃(D:TD),vs=[.ref D.p]/\bW C H D/\D.gs.length<=900/\∀l ps H',bE H H'->H l=none->H' l=some (.lst (ps.map V.ref))->Paired (fun p g=>H' p=some (.tup (HW g))) ps D.gs->(∀p∈ps,H p=none)->Q (.ref l) H'
include T in
theorem znq:di P w K mg base (fJ P w) 1 dA "goings" ["self"] [[]] (T4 (⟨cQ,cX,cV,cF,cA,dA⟩:Cl)):=by
 refine T.uO.okN (k:=0) zlu (fun vs H Q E h=>?_) (fun f dF A outer s H vs Q E hr h=>?_)
 ·obtain⟨D,rfl,_⟩:=h;rfl
 ·obtain⟨D,rfl,O,gl,k⟩:=h;refine⟨_,(dD (gZ (nM ["start","number","name"] [] rfl (by with_unfolding_all rfl) (by decide+kernel) rfl (by decide+kernel) (by exact bB) (by with_unfolding_all rfl) bB (yr K rfl (eT (pv 0) rfl)) (fun _ _ _=>(LY (n:=3) K rfl rfl (Cs (nX (i:=0) (show(["start","number","name"]:List Str).Nodup from by decide+kernel) rfl (by first|left;rfl|right;rfl)) (Cs (nX (i:=1) (show(["start","number","name"]:List Str).Nodup from by decide+kernel) rfl (by first|left;rfl|right;rfl)) (Cs (nX (i:=2) (show(["start","number","name"]:List Str).Nodup from by decide+kernel) rfl (by first|left;rfl|right;rfl)) LV))))) (fun _ _ _=>Lb) (fun _ _ _=>(yt (aS (pv 0) (aS (pv 1) (aS (pv 2) bP)))))))),?_⟩;show jF _ _ [some (.ref D.p)] H;obtain⟨dx,fs,hp,ft⟩:=O.ex;have lg:=O.gr.length;walk_at"rd";refine eL hp T.aH T.mC ft.go ?_;walk_at"rd";refine⟨⟨_,.of O.go⟩,fun L hL=>?_⟩;show pV _ _ _ _ L [none,none,none] _ _;refine Jf (xs:=D.gp.map V.ref) (fun i τ H'=>(∃v0 v1 v2,τ=[v0,v1,v2])/\bE H H'/\∃ps,H' L=some (.lst ((ps:List Addr).map V.ref))/\Paired (fun p g=>H' p=some (.tup (HW g))) ps (D.gs.take i)/\∀p∈ps,H p=none) ⟨⟨none,none,none,rfl⟩,fV hL,[],bX,.nil,fun p hp=>absurd hp aI⟩ (fun i τ H' _ h=>.of (h.2.1 _ _ O.go)) ?_ ?_
  ·rintro i x τ H' hx ⟨⟨v0,v1,v2,rfl⟩,s',ps,xR,pr,nw⟩;rw[aP]at hx;cases e:D.gp[i]? with
   |none=>rw[e]at hx;cases hx
   |some p=>
    rw[e]at hx;cases hx
    obtain⟨g,hg,hgp⟩:=Qu O.gr e;refine⟨p,_,rfl,.of (s' _ _ hgp),rfl,_,_,rfl,_,_,rfl,_,_,rfl,rfl,?_⟩;simp only[yo,if_true];walk_at"rd";intro q hq;have s2:=fV (o:=.tup [.int g.1,.int g.2.1,.str g.2.2]) hq;have nL:L≠q:=i8 xR hq;have lp:=pr.length;refine⟨_,s2 _ _ xR,Cu ?_,fun b o e=>?_,ps++[q],?_,?_,fun p hp=>?_⟩
    ·rw[ai,lp,aY];omega
    ·rw[bM (i8 e hL)];exact s2 _ _ (s' _ _ e)
    ·rw[bX,aA];rfl
    ·rw[Dt hg];refine OD (F:=fun p g=>upd (upd H' q (.tup [.int _,.int _,.str _])) L _ p=some (.tup (HW g))) ?_ (Hy (fun a b z=>?_) pr)
     ·rw[bM (b9 nL)];exact bX
     ·have:a≠L:=fun y=>by rw[y,xR]at z;cases z
      rw[bM this];exact s2 _ _ z
    ·rcases ao.mp hp with z|z
     ·exact nw p z
     ·rw[au.mp z];cases y:H q with
      |none=>rfl
      |some o=>rw[s' _ _ y]at hq;cases hq
  ·rintro τ H' ⟨_,s',ps,xR,pr,nw⟩;rw[ai,lg,bF]at pr;exact k L ps H' s' hL xR pr nw
def TZ(C:Cl):Sp:=fun vs H Q _=>∃(D:TD),vs=[.ref D.p]/\bW C H D/\D.ns.length<=900/\∀l H',bE H H'->H l=none->H' l=some (.lst ((f9 D.ns).map V.str))->Q (.ref l) H'
include T in
theorem XW:di P w K mg base (fJ P w) 1 dA "full_leaves" ["self"] [[]] (TZ (⟨cQ,cX,cV,cF,cA,dA⟩:Cl)):=by
 refine T.oM.okN (k:=0) zgh (fun vs H Q E h=>?_) (fun f dF A outer s H vs Q E hr h=>?_)
 ·obtain⟨D,rfl,_⟩:=h;rfl
 ·obtain⟨D,rfl,O,nl,k⟩:=h;refine⟨_,(dD (gZ (Uf (nM ["name","node"] [] rfl (by with_unfolding_all rfl) (by decide+kernel) rfl (by decide+kernel) (by exact bB) (by with_unfolding_all rfl) bB (zxe (eT (pv 0) rfl)) (fun _ _ _=>(LY (n:=2) K rfl rfl (Cs (nX (i:=0) (show(["name","node"]:List Str).Nodup from by decide+kernel) rfl (by first|left;rfl|right;rfl)) (Cs (nX (i:=1) (show(["name","node"]:List Str).Nodup from by decide+kernel) rfl (by first|left;rfl|right;rfl)) LV)))) (fun _ _ _=>(OJ (VJ K rfl (QK K rfl (pv 1) rfl)))) (fun _ _ _=>(pv 0)))))),?_⟩;show jF _ _ [some (.ref D.p)] H;obtain⟨dx,fs,hp,ft⟩:=O.ex;walk_at"rd";unfold IZ;walk_at"rd";unfold zym;walk_at"rd";refine eL hp T.aH T.bq ft.no ?_;refine⟨_,rfl,_,O.hn,fun o L hL=>?_⟩;have nL:L≠D.pn:=fun z=>by rw[z,bX]at hL;cases hL
  have hL0:H L=none:=by rw[bM nL]at hL;exact hL
  have lk:(wU D.ns).length=D.ns.length:=zve _;refine zsy (fun i τ H'=>(∃v0 v1,τ=[v0,v1])/\bE (upd H D.pn (.jx o (.dK (wU D.ns)))) H'/\H' L=some (.lst ((f9 (D.ns.take i)).map V.str))) ⟨⟨none,none,rfl⟩,fV hL,bX⟩ (fun i τ H' _⟨_,sm,_⟩=>sm _ _ bX) ?_ ?_
  ·rintro i kv τ H6 p ud ⟨⟨v0,v1,rfl⟩,sm,yI⟩ PK;obtain⟨n,hw,rfl⟩:∃n,D.ns[i]?=some n/\((aC n.nm:Key),V.ref n.p)=kv:=by
    unfold wU at ud;rw[aP]at ud;cases e:D.ns[i]? with
    |none=>rw[e]at ud;cases ud
    |some p=>rw[e]at ud;exact⟨p,rfl,aq ud⟩
   have eZ:=bh hw;have N:=O.nd n eZ;obtain⟨dn,fn,lD,kA⟩:=N.ex;have sn:=fV (o:=.tup [kV (aC n.nm:Key),V.ref n.p]) PK;have sm:=sm.trans sn;have yI:=sn _ _ yI;refine⟨p,_,rfl,.of bX,rfl,?_⟩;generalize upd H6 p (.tup [kV (aC n.nm:Key),V.ref n.p])=H7 at sm yI⊢;have a1:=(O.apart eZ (b:=n.p) (aj ..)).2.1;have a2:=(O.apart eZ (b:=n.ql) (ae _ (aj ..))).2.1;have h7:=sm _ _ (show upd H D.pn (.jx o (.dK (wU D.ns))) n.p=_ by rw[bM a1];exact lD);have q7:=sm _ _ (show upd H D.pn (.jx o (.dK (wU D.ns))) n.ql=_ by rw[bM a2];exact N.qu.hl);have ta:f9 (D.ns.take (i+1))=f9 (D.ns.take i)++(if decide (n.ps≠[])=true then[n.nm]else[]):=by unfold f9;rw[Dt hw,gB,aA,fK,Jy];split <;> rfl
   walk_at"rd";refine eL h7 T.dh T.fS kA.qu ⟨_,Ua (.of q7),?_⟩;rw[ta];cases e:n.ps with
   |nil=>
    refine fE (fun z=>by cases z) fun _=>⟨sm,?_⟩;rw[if_neg (by simp),aJ];exact yI
   |cons y r=>
    refine fE (fun _=>?_) fun z=>absurd rfl z;walk_at"rd";have ll:((f9 (D.ns.take i)).map V.str).length<=900:=by rw[ai];unfold f9;rw[ai];have:=fO (fun n:ND=>decide (n.ps≠[])) (D.ns.take i);rw[aY]at this;omega
    refine⟨_,yI,Cu (by omega),fun b u' e'=>?_,?_⟩
    ·rw[bM (i8 e' hL)];exact sm _ _ e'
    ·rw[bX,if_neg (show ¬(y::r=[])from by simp),aA];rfl
  ·rintro τ H6 ⟨_,sm,yI⟩;rw[lk,bF]at yI;refine⟨D.pn,⟨_,O.hn⟩,o,_,sm _ _ bX,?_⟩;refine k L _ (fun b u' e=>?_) hL0 (by rw[bM nL];exact yI);by_cases z:b=D.pn
   ·subst z;rw[O.hn]at e;cases e
    exact bX
   ·rw[bM z];exact sm _ _ (by rw[bM z];exact e)
inductive Ob(C:Cl)(vs:List V)(H:Hp)(Q:VK)(E:XK):Prop|mk (D:TD) (x:Str) (t:Int) (n:ND) (g:D2) (r:List D2) (ys:List Str) (h1:vs=[.ref D.p,.str x,.int t]) (h2:bW C H D) (h3:aU D.ns x=some n) (h4:n.qu=g::r) (h5:Up D.ns x ys) (h6:ys.length<=6) (h7:(1<=g.2/\g.2<=D.most/\D.most<=1000000)) (h8:(∀b∈fZ D.ns ys,gI D.most b/\b.s<=t)) (h9:(0<=t/\t<10000000000000000)) (yH:True) (BE:∀a H',bE H H'->Gh (fZ D.ns ys) t g.2 a->Q (.int a) H'):Ob C vs H Q E
include T in
theorem X7:di P w K mg base (fJ P w) 7 dA "leaf_time" ["self","name","at"] [[]] (Ob (⟨cQ,cX,cV,cF,cA,dA⟩:Cl)):=by
 have eV:=Qt P w base T;have vK:=znm P w base T;refine T.qL.okN (k:=6) iR (fun vs H Q E h=>?_) (fun f dF A outer s H vs Q E hr h=>?_)
 ·obtain⟨D,x,t,n,g,r,ys,rfl,_⟩:=h;rfl
 ·obtain⟨D,x,t,n,g,r,ys,rfl,O,hx,hq,U,yl,gb,ok,tb,nb,k⟩:=h;refine⟨_,(dJ (ju (i:=3) iR.nd rfl (bu (lE K rfl) (bu (kK K rfl) (eT (sI (dS hr) (eT (pv 0) rfl) (pv 1) (fun _ _=>rfl)) rfl) bU (fun _ _=>rfl)) bU (fun _ _=>rfl))) (dJ (zzy (i0:=4) ["one"] [("self",0)] rfl (by with_unfolding_all rfl) (by decide+kernel) rfl (by decide+kernel) (by exact⟨rfl,bB⟩) (by with_unfolding_all rfl) ⟨⟨rfl,rfl,rfl⟩,bB⟩ (yr K rfl (iB (d7:=[]) eV (by simp) T.aH (hr.mono (by decide)) bj (pv 0) (aS (pv 1) bP))) (fun _ _ _=>(nX (i:=0) (show(["one","self"]:List Str).Nodup from by decide+kernel) rfl (by first|left;rfl|right;rfl))) (fun _ _ _=>Lb) (fun _ _ _=>(QK K rfl (sI (dS hr) (QK K rfl (pv 1) rfl) (pv 0) (fun _ _=>rfl)) rfl)) (by with_unfolding_all rfl) iR.nd rfl (by first|left;rfl|right;rfl)) (dD (gZ (zzm K rfl rfl rfl T.A1 (aS (nM ["bucket"] [("at",2),("length",3)] rfl (by with_unfolding_all rfl) (by decide+kernel) rfl (by decide+kernel) (by exact⟨rfl,⟨rfl,bB⟩⟩) (by with_unfolding_all rfl) ⟨⟨rfl,rfl,rfl⟩,⟨⟨rfl,rfl,rfl⟩,bB⟩⟩ (yr K rfl (pv 4)) (fun _ _ _=>(nX (i:=0) (show(["bucket","at","length"]:List Str).Nodup from by decide+kernel) rfl (by first|left;rfl|right;rfl))) (fun _ _ _=>(OJ (jG F6 (pv 0) sZ (jH _)))) (fun _ _ _=>(iB (d7:=[]) vK (by simp) T.dX (hr.mono (by decide)) bj (pv 0) (aS (pv 1) (aS (pv 2) bP))))) bP) (pv 2)))))),?_⟩;show dW _ _ _ [some (.ref D.p),some (.str x),some (.int t),none,none] H;obtain⟨dx,fs,hp,ft⟩:=O.ex;obtain⟨eZ,ne⟩:=iD hx;have N:=O.nd n eZ;obtain⟨dn,fn,lD,kA⟩:=N.ex;have QL:=N.qu;rw[hq]at QL;obtain⟨p0,rest,ep,h0⟩:∃p0 rest,n.ps=p0::rest/\H p0=some (.tup (d2 g)):=by
   have r0:=QL.r;generalize n.ps=ps at r0;cases r0 with
   |cons a b=>exact⟨_,_,rfl,a⟩
  have hl:=N.qu.hl;rw[ep]at hl;walk_at"s";refine eL hp T.aH T.bq ft.no ⟨_,rfl,_,i7 O hx,?_⟩;refine eL lD T.dh T.fS kA.qu ?_;refine vD (.of hl) (F7 (xs:=(p0::rest).map V.ref) (j:=0) (v:=.ref p0) rfl) (lG (.of h0) (v:=.int g.2) rfl (hR _ _ ?_));clear hR;walk_at"s";refine ig hp (nW ft _) ⟨D,x,ys,rfl,O,U,by omega,fun l H1 s1 fl MV=>⟨l,rfl,⟨_,.of MV⟩,fun L hL=>?_⟩⟩;have O1:=O.same s1;have nL:l≠L:=i8 MV hL;refine Jf (K:=K) (a:=l) (xs:=ys.reverse.map V.str) (fun i τ H'=>(∃v0,τ=[v0,some (.ref D.p)])/\bE H1 H'/\H' L=some (.lst (JJ D.ns (ys.reverse.take i)))) ⟨⟨none,rfl⟩,fV hL,bX⟩ (fun i τ H' _ h=>.of (h.2.1 _ _ MV)) ?_ ?_
  ·rintro i v τ H2 hv ⟨⟨v0,rfl⟩,s2,yI⟩;obtain⟨y,hy,rfl⟩:∃y,ys.reverse[i]?=some y/\V.str y=v:=by
    rw[aP]at hv;cases e:ys.reverse[i]? with
    |none=>rw[e]at hv;cases hv
    |some z=>rw[e]at hv;exact⟨z,rfl,aq hv⟩
   obtain⟨m,hm⟩:=U.mem y (fg.mp (bh hy));obtain⟨min,me⟩:=iD hm;have O2:=O1.same s2;obtain⟨dx2,MF,FJ,RS⟩:=O2.ex;obtain⟨dm,fm,Sq,Ss⟩:=(O2.nd m min).ex;walk_at"rd";simp only[yo,if_true];walk_at"rd";refine eL FJ T.aH T.bq RS.no ⟨_,rfl,_,i7 O2 hm,?_⟩;refine eL Sq T.dh T.fG Ss.bk ?_;refine⟨_,yI,Cu ?_,fun b u' e=>?_,?_⟩
   ·unfold JJ;rw[ai,aY,gh];omega
   ·rw[bM (i8 e hL)];exact s2 _ _ e
   ·rw[bX,Dt hy];unfold JJ;rw[aA];show _=some (HO.lst (_++[JI ((aU D.ns y).bind (·.bk))]));rw[hm];rfl
  ·rintro τ H2 ⟨_,s2,yI⟩;rw[ai,bF]at yI;refine hR _ _ ?_;clear hR;have fL:H1 L=none:=hL;have TJ:=s1.trans s2;have O2:=O.same TJ;walk_at"rd";unfold IX;walk_at"rd";refine⟨⟨_,.of yI⟩,fun M hM=>?_⟩;refine Jf (K:=K) (a:=L) (xs:=JJ D.ns ys.reverse) (fun i τ H'=>(∃v0,τ=[v0,some (.int t),some (.int g.2)])/\bE H2 H'/\H' M=some (.lst (((fZ D.ns (ys.reverse.take i)).map fun b=>b.mR t g.2).map V.int))) ⟨⟨_,rfl⟩,fV hM,bX⟩ (fun i τ H' _ h=>.of (h.2.1 _ _ yI)) ?_ ?_
   ·rintro i v τ H3 hv ⟨⟨v0,rfl⟩,s3,MK⟩;obtain⟨y,hy,rfl⟩:∃y,ys.reverse[i]?=some y/\JI ((aU D.ns y).bind (·.bk))=v:=by
     unfold JJ at hv;rw[aP]at hv;cases e:ys.reverse[i]? with
     |none=>rw[e]at hv;cases hv
     |some z=>rw[e]at hv;exact⟨z,rfl,aq hv⟩
    obtain⟨m,hm⟩:=U.mem y (fg.mp (bh hy));have ta:fZ D.ns (ys.reverse.take (i+1))=fZ D.ns (ys.reverse.take i)++(m.bk.map (·.2)).toList:=by rw[Dt hy,zvr,zvq hm]
    have bl:(fZ D.ns (ys.reverse.take i)).length<=6:=by unfold fZ;refine bL (Ae _ _) ?_;rw[aY,gh];omega
    rw[hm,ta];have em:∀e,(some m).bind (fun z:ND=>z.bk)=e->m.bk=e:=fun e h=>h;cases hb:m.bk with
    |none=>
     rw[show(some m).bind (fun z:ND=>z.bk)=none from hb];walk_at"rd";exact⟨s3,by rw[show(Option.map (fun c:Addr×je=>c.2) none).toList=[]from rfl,aJ];exact MK⟩
    |some c=>
     have FA:c.2∈fZ D.ns ys:=QN (fg.mp (bh hy)) hm hb;obtain⟨bo,bs⟩:=ok c.2 FA;have B3:=((O2.nd m (iD hm).1).bk c hb).same s3;rw[show(some m).bind (fun z:ND=>z.bk)=some c from hb];walk_at"rd";refine fE (fun z=>by cases z) fun _=>?_;obtain⟨level,A3,el,_,_⟩:=bo.at B3 bs;obtain⟨dxb,fsb,prb,sb,plb,RY,fb,_⟩:=A3.ins;refine ig RY (fb.x9 _) ⟨c.1,t,g.2,level,c.2.d,c.2.r,rfl,bo.bd,A3,by omega,by omega,by omega,by omega,fun H4 s4=>?_⟩;rw[bo.xu el gb.2.1];refine⟨_,s4 _ _ MK,Cu (by rw[ai,ai];omega),fun b u' e=>?_,?_⟩
     ·rw[bM (i8 e hM)];exact s4 _ _ (s3 _ _ e)
     ·rw[bX,aA,aA];rfl
   ·rintro τ H3 ⟨_,s3,MK⟩;have lb:(JJ D.ns ys.reverse).length=ys.reverse.length:=by unfold JJ;rw[ai]
    rw[lb,bF]at MK;refine⟨M,rfl,_,.of MK,fun m h0 h1=>?_⟩;have pm:∀b,b∈fZ D.ns ys.reverse↔b∈fZ D.ns ys:=fun b=>by unfold fZ;rw[fN,fN];exact⟨fun⟨a,h,e⟩=>⟨a,fg.mp h,e⟩,fun⟨a,h,e⟩=>⟨a,fg.mpr h,e⟩⟩
    have lf:=Gh.of (fun b hb=>(ok b ((pm b).mp hb)).1) gb.2.1 h0 h1;exact k _ H3 (s1.trans (s2.trans s3)) ⟨lf.ge,fun b hb=>lf.ok b ((pm b).mpr hb),fun u tu hu=>lf.le u tu fun b hb=>hu b ((pm b).mp hb)⟩
inductive Oe(C:Cl)(vs:List V)(H:Hp)(Q:VK)(E:XK):Prop|mk (D:TD) (t:Int) (v:Nat) (h1:vs=[.ref D.p,.int t]) (h2:bW C H D) (h3:D.Dy t v) (h4:(0<=t/\t<10000000000000000)) (h5:True) (h6:∀l ks H',bE H H'->H l=none->H' l=some (.dK (A5 ks))->(∀y,y∈ks↔fk D t y)->Q (.ref l) H'):Oe C vs H Q E
include T in
theorem zlg:di P w K mg base (fJ P w) 8 dA "ready_at" ["self","at"] [[]] (Oe (⟨cQ,cX,cV,cF,cA,dA⟩:Cl)):=by
 have hU:=XW P w base T;have ja:=X7 P w base T;have eV:=Qt P w base T;refine T.r8.okN (k:=7) gS (fun vs H Q E h=>?_) (fun f dF A outer s H vs Q E hr h=>?_)
 ·obtain⟨D,t,v,rfl,_⟩:=h;rfl
 ·obtain⟨D,t,v,rfl,O,Y,tb,nb,k⟩:=h;refine⟨_,(dJ (ju (i:=2) gS.nd rfl LR) (dJ (DS PassesOwn.never rfl (yr K rfl (yK (d7:=[]) hU (by simp) T.aH (hr.mono (by decide)) bj (pv 0))) (nX (i:=3) gS.nd rfl (by first|left;rfl|right;rfl)) (dD (dw (jG o4 (iB (d7:=[]) ja (by simp) T.aH (hr.mono (by decide)) bj (pv 0) (aS (pv 3) (aS (pv 1) bP))) (pv 1) (jH _)) (dD (DS PassesOwn.never rfl (yr K rfl (iB (d7:=[]) eV (by simp) T.aH (hr.mono (by decide)) bj (pv 0) (aS (pv 3) bP))) (nX (i:=4) gS.nd rfl (by first|left;rfl|right;rfl)) (dD (Du (dS hr) (pv 2) (pv 4) jM rfl)))) jP))) (dD (gZ (pv 2))))),?_⟩;show dW _ _ _ [some (.ref D.p),some (.int t),none,none,none] H;have nl:=Y.ln;walk_at"s";intro l hl;refine hR _ _ ?_;clear hR;have s1:=fV (o:=.dK []) hl;have O1:=O.same s1;obtain⟨dx,fs,hp,ft⟩:=O1.ex;walk_at"s";refine DM fun Z hZ=>?_;walk_at"rd";refine ig hp (nW ft _) ⟨D,rfl,O1,by omega,fun l2 H2 s2 AO h2=>⟨l2,rfl,⟨_,.of h2⟩,hZ _ _ ?_⟩⟩;clear hZ;have fll:(f9 D.ns).length<=60:=by unfold f9;rw[ai];exact bL (fO _ _) nl
  have TJ:bE H H2:=s1.trans s2;have WT:H2 l=some (.dK (A5 [])):=s2 _ _ bX;have nl2:l2≠l:=fun z=>by rw[z,WT]at h2;cases h2
  have f2:H l2=none:=by
   cases z:H l2 with
   |none=>rfl
   |some o=>rw[s1 _ _ z]at AO;cases AO
  refine Hz (K:=K) (a:=l2) (xs:=(f9 D.ns).map V.str) (fun i σ H'=>∃v3 v4 ks,σ=[some (.ref D.p),some (.int t),some (.ref l),v3,v4]/\bE H H'/\H' l2=some (.lst ((f9 D.ns).map V.str))/\H' l=some (.dK (A5 ks))/\ks.length<=6*i/\(∀y,y∈ks↔∃x∈(f9 D.ns).take i,∃ys,wG D x t/\Up D.ns x ys/\y∈ys)) ⟨none,none,[],rfl,TJ,h2,WT,az _,fun y=>⟨fun z=>absurd z aI,fun⟨x,hx,_⟩=>absurd hx (by simp)⟩⟩ (fun i σ H' _⟨_,_,_,_,_,h,_⟩=>.of h) ?_ ?_
  ·rintro i w0 σ H3 hv ⟨v3,v4,ks,rfl,s3,h3,LF,kl,kk⟩;obtain⟨x,hx,rfl⟩:∃x,(f9 D.ns)[i]?=some x/\V.str x=w0:=by
    rw[aP]at hv;cases e:(f9 D.ns)[i]? with
    |none=>rw[e]at hv;cases hv
    |some z=>rw[e]at hv;exact⟨z,rfl,aq hv⟩
   have hi:i<60:=by have:=(aL.mp hx).1;omega
   have LO:=bh hx;obtain⟨n,g,r,ys,hn,hq,U,yl,gb,ok⟩:=Y.leaf O LO;have O3:=O.same s3;obtain⟨dx3,fs3,lM,Ly⟩:=O3.ex;have I0:∀y,(∃x∈(f9 D.ns).take (i+1),∃ys,wG D x t/\Up D.ns x ys/\y∈ys)↔(y∈ks\/(wG D x t/\y∈ys)):=fun y=>by
    rw[Dt hx];constructor
    ·rintro⟨z,hz,zs,h1,h2,h3⟩;rcases ao.mp hz with q|q
     ·exact .inl ((kk y).mpr ⟨z,q,zs,h1,h2,h3⟩)
     ·rw[au.mp q]at h1 h2;rw[h2.det U]at h3;exact .inr ⟨h1,h3⟩
    ·rintro(q|⟨q1,q2⟩)
     ·obtain⟨z,hz,zs,h⟩:=(kk y).mp q;exact⟨z,ao.mpr (.inl hz),zs,h⟩
     ·exact⟨x,ao.mpr (.inr (au.mpr rfl)),ys,q1,U,q2⟩
   show rh _ _ _ _ [some (.ref D.p),some (.int t),some (.ref l),some (.str x),v4] H3;refine Bj fun N hN=>?_;refine zxj fun Gp WK=>?_;walk_at"rd";refine ig lM (nW Ly _) ⟨D,x,t,n,g,r,ys,rfl,O3,hn,hq,U,yl,gb,ok,tb,nb,fun a H4 s4 la=>?_⟩;have LG:=s4 _ _ LF;have h4:=s4 _ _ h3;have TL:=s3.trans s4;have mi:=(QO hn hq U t).trans la.now.symm;walk_at"rd";refine fE (fun c=>WK _ _ ?_) fun c=>hN _ _ ⟨_,_,ks,rfl,TL,h4,LG,by omega,fun y=>?_⟩
   ·clear WK;have my:=mi.mpr c;have O4:=O.same TL;obtain⟨dx4,fs4,SD,Lz⟩:=O4.ex;refine DM fun Z hZ=>?_;walk_at"rd";refine ig SD (nW Lz _) ⟨D,x,ys,rfl,O4,U,by omega,fun l5 H5 s5 Ww MW=>⟨l5,rfl,⟨_,.of MW⟩,hZ _ _ ?_⟩⟩;clear hZ;have n5:l5≠l:=fun z=>by rw[z,LG]at Ww;cases Ww
    refine Hz (K:=K) (a:=l5) (xs:=ys.reverse.map V.str) (fun j σ H'=>∃v4 Ex,σ=[some (.ref D.p),some (.int t),some (.ref l),some (.str x),v4]/\bE H H'/\H' l2=some (.lst ((f9 D.ns).map V.str))/\H' l5=some (.lst (ys.reverse.map V.str))/\H' l=some (.dK (A5 Ex))/\Ex.length<=6*i+j/\∀y,y∈Ex↔y∈ks\/y∈ys.reverse.take j) ⟨v4,ks,rfl,TL.trans s5,s5 _ _ h4,MW,s5 _ _ LG,by omega,fun y=>⟨.inl,fun z=>z.elim id fun q=>absurd q (by simp)⟩⟩ (fun j σ H' _⟨_,_,_,_,_,h,_⟩=>.of h) ?_ ?_
    ·rintro j w1 σ H6 M9 ⟨v4',Ex,rfl,s6,h6,WJ,Sk,W7,P4⟩;obtain⟨y,hy,rfl⟩:∃y,ys.reverse[j]?=some y/\V.str y=w1:=by
      rw[aP]at M9;cases e:ys.reverse[j]? with
      |none=>rw[e]at M9;cases M9
      |some z=>rw[e]at M9;exact⟨z,rfl,aq M9⟩
     have hj:j<6:=by have:=(aL.mp hy).1;rw[gh]at this;omega
     show zL _ _ _ _ [some (.ref D.p),some (.int t),some (.ref l),some (.str x),some (.str y)] H6;refine Bj fun N2 hN2=>?_;walk_at"rd";have lk:(A5 Ex).length=Ex.length:=ai _;refine⟨_,lW.k (k:=aC y) Sk (Cu (by omega)),hN2 _ _ ?_⟩;rw[Ur];have kp:∀b o,b≠l->H6 b=some o->upd H6 l (.dK (A5 (yS Ex y))) b=some o:=fun b o q e=>by rw[bM q];exact e
     refine⟨_,yS Ex y,rfl,fun b o e=>kp b o (i8 e hl) (s6 _ _ e),kp _ _ nl2 h6,kp _ _ n5 WJ,bX,?_,fun z=>?_⟩
     ·have:=zxn Ex y;omega
     ·rw[zxm,P4,Dt hy,ao,au,or_assoc]
    ·rintro σ H6 ⟨v4',Ex,rfl,s6,h6,WJ,Sk,W7,P4⟩;rw[ai,bF]at P4;rw[ai,gh]at W7;refine hN _ _ ⟨_,_,Ex,rfl,s6,h6,Sk,by omega,fun y=>?_⟩;rw[I0,P4,fg];exact or_congr Iff.rfl ⟨fun q=>⟨my,q⟩,fun q=>q.2⟩
   ·rw[I0];exact⟨.inl,fun q=>q.elim id fun z=>absurd (mi.mp z.1) c⟩
  ·rintro σ H3 ⟨v3,v4,ks,rfl,s3,h3,LF,kl,kk⟩;rw[ai,bF]at kk;refine hR _ _ ?_;walk_at"rd";refine k l ks H3 s3 hl LF fun y=>?_;rw[kk];constructor
   ·rintro⟨x,_,ys,h1,h2,h3⟩;exact⟨x,ys,h1,h2,h3⟩
   ·rintro⟨x,ys,h1,h2,h3⟩;exact⟨x,Y.full O h1,ys,h1,h2,h3⟩
inductive KP(C:Cl)(vs:List V)(H:Hp)(Q:VK)(E:XK):Prop|mk (D:TD) (τ:Int) (v:Nat) (h1:vs=[.ref D.p]) (h2:bW C H D) (h3:D.Dy τ v) (h4:(τ<=D.tm\/τ<=D.fr)) (h5:(0<=D.tm/\D.tm<10000000000000000/\D.fr<10000000000000000)) (h6:True) (h7:(f9 D.ns=[]->∀H',bE H H'->Q .cy H')) (h8:(∀a,Nx D a->a<=max D.tm D.fr+1000000000000->∀H',bE H H'->Q (.int a) H')):KP C vs H Q E
include T in
theorem zhy:di P w K mg base (fJ P w) 8 dA "next_choice" ["self"] [[]] (KP (⟨cQ,cX,cV,cF,cA,dA⟩:Cl)):=by
 have hU:=XW P w base T;have ja:=X7 P w base T;refine T.oO.okN (k:=7) jN (fun vs H Q E h=>?_) (fun f dF A outer s H vs Q E hr h=>?_)
 ·obtain⟨D,τ,v,rfl,_⟩:=h;rfl
 ·obtain⟨D,τ,v,rfl,O,Y,tv,tb,nb,k0,k⟩:=h;refine⟨_,(dJ (ju (i:=1) jN.nd rfl (Ct (Zz rfl) rfl T.A1 boot_max (aS (eT (pv 0) rfl) (aS (eT (pv 0) rfl) bP)))) (dD (gZ (Uk K rfl rfl rfl T.x8 (aS (nM ["name"] [("at",1),("self",0)] rfl (by with_unfolding_all rfl) (by decide+kernel) rfl (by decide+kernel) (by exact⟨rfl,⟨rfl,bB⟩⟩) (by with_unfolding_all rfl) ⟨⟨rfl,rfl,rfl⟩,⟨⟨rfl,rfl,rfl⟩,bB⟩⟩ (yr K rfl (yK (d7:=[]) hU (by simp) T.aH (hr.mono (by decide)) bj (pv 0))) (fun _ _ _=>(nX (i:=0) (show(["name","at","self"]:List Str).Nodup from by decide+kernel) rfl (by first|left;rfl|right;rfl))) (fun _ _ _=>Lb) (fun _ _ _=>(iB (d7:=[]) ja (by simp) T.aH (hr.mono (by decide)) bj (pv 2) (aS (pv 0) (aS (pv 1) bP))))) bP) sZ)))),?_⟩;show dW _ _ _ [some (.ref D.p),none] H;obtain⟨dx,fs,hp,ft⟩:=O.ex;have nl:=Y.ln;walk_at"s";refine eL hp T.aH T.gQ ft.ti (eL hp T.aH T.mw ft.fr ⟨_,rfl,_,rfl,hR _ _ ?_⟩);clear hR;walk_at"rd";unfold IY;walk_at"rd";obtain⟨DF,e0,a1,a2,a3⟩:∃DF,(if D.fr > D.tm then D.fr else D.tm)=DF/\D.tm<=DF/\D.fr<=DF/\DF<=max D.tm D.fr:=by refine⟨_,rfl,?_,?_,?_⟩ <;> split <;> omega
  rw[e0];have tb0:0<=DF/\DF<10000000000000000:=by omega
  refine ig hp (nW ft _) ⟨D,rfl,O,by omega,fun l H1 s1 hl h1=>⟨l,rfl,⟨_,.of h1⟩,fun L hL=>?_⟩⟩;have nL:l≠L:=i8 h1 hL;have O1:=O.same s1;have fll:(f9 D.ns).length<=60:=by unfold f9;rw[ai];exact bL (fO _ _) nl
  refine Jf (K:=K) (a:=l) (xs:=(f9 D.ns).map V.str) (fun i τ H'=>∃v0 as,τ=[v0,some (.int DF),some (.ref D.p)]/\bE H1 H'/\H' L=some (.lst ((as:List Int).map V.int))/\Paired (fun x a=>Gg D DF x a) ((f9 D.ns).take i) as) ⟨none,[],rfl,fV hL,bX,.nil⟩ (fun i τ H' _⟨_,_,_,h,_⟩=>.of (h _ _ h1)) ?_ ?_
  ·rintro i w0 τ H2 hv ⟨v0,as,rfl,s2,yI,pr⟩;obtain⟨x,hx,rfl⟩:∃x,(f9 D.ns)[i]?=some x/\V.str x=w0:=by
    rw[aP]at hv;cases e:(f9 D.ns)[i]? with
    |none=>rw[e]at hv;cases hv
    |some z=>rw[e]at hv;exact⟨z,rfl,aq hv⟩
   have LO:=bh hx;obtain⟨n,g,r,ys,hn,hq,U,yl,gb,ok⟩:=Y.leaf O LO;have O2:=O1.same s2;obtain⟨dx2,MF,FJ,RS⟩:=O2.ex;have ok:∀b∈fZ D.ns ys,gI D.most b/\b.s<=DF:=fun b hb=>⟨(ok b hb).1,by have:=(ok b hb).2;omega⟩;walk_at"rd";simp only[yo,if_true];walk_at"rd";refine ig FJ (nW RS _) ⟨D,x,DF,n,g,r,ys,rfl,O2,hn,hq,U,yl,gb,ok,tb0,nb,fun a H3 s3 la=>?_⟩;have al:=pr.length;rw[aY]at al;refine⟨_,s3 _ _ yI,Cu (by rw[ai];omega),fun b u' e=>?_,as++[a],?_,?_⟩
   ·rw[bM (i8 e hL)];exact s3 _ _ (s2 _ _ e)
   ·rw[bX,aA];rfl
   ·rw[Dt hx];exact OD (F:=fun x a=>Gg D DF x a) ⟨n,g,r,ys,hn,hq,U,la,la.bound (fun b hb=>(ok b hb).1) gb.2.1 (by omega) gb.2.2 fun b hb=>(ok b hb).2⟩ pr
  ·rintro τ H2 ⟨v0,as,rfl,s2,yI,pr⟩;rw[ai,bF]at pr;refine⟨L,rfl,as,.of yI,fun ea=>?_,fun a ha la=>?_⟩
   ·refine k0 ?_ H2 (s1.trans s2);have:=pr.length;rw[ea]at this;exact jQ this
   ·obtain⟨x,hx,h⟩:=Zs pr a ha;obtain⟨m1,m2,m3⟩:=h.may;obtain⟨_,_,_,_,_,_,_,_,bd⟩:=h;refine k a ⟨⟨x,m1⟩,⟨by omega,by omega⟩,fun z u u1 u2 mz=>?_⟩ (by omega) H2 (s1.trans s2);obtain⟨a',ha',h'⟩:=Zc pr z (Y.full O mz);have:=h'.may.2.2 u (by rw[<-e0];split <;> omega) mz;have:=la a' ha';omega
inductive II(C:Cl)(vs:List V)(H:Hp)(Q:VK)(E:XK):Prop|mk (D:TD) (n:ND) (t len:Int) (h1:vs=[.ref n.p,.int t,.int len]) (h2:bW C H D) (h3:(D.ns.map (·.nm)).Nodup) (h4:n∈D.ns) (h5:(∀c,n.ch=some c->c.2.D4)) (h6:(1<=len/\len<=1000000)) (h7:(0<=t/\t<100000000000000000)) (h8:(∀b,n.bk=some b->gI D.most b.2/\b.2.s<=t/\(len:Rat)<=b.2.lv t)) (h9:True) (yH:∀H',bW C H' {D with ns:=cu D.ns (n.chg t len)}->iw n.foot H H'->Q .cy H'):II C vs H Q E
include T in
theorem znr:di P w K mg base (fJ P w) 6 cQ "charge" ["self","at","length"] [[]] (II (⟨cQ,cX,cV,cF,cA,dA⟩:Cl)):=by
 have xC:=zps P w base T;have xA:=zpu P w base T;have xz:=zpp P w base T;refine T.uK.okN (k:=5) zlr (fun vs H Q E h=>?_) (fun f dF A outer s H vs Q E hr h=>?_)
 ·obtain⟨D,n,t,len,rfl,_⟩:=h;rfl
 ·obtain⟨D,n,t,len,rfl,O,nn,eZ,pok,lb,tb,Lq,nb,k⟩:=h;refine⟨_,(dJ (dw (jG F6 (eT (pv 0) rfl) sZ (jH _)) (dD (jV (O0 (iB (d7:=[]) xC (by simp) T.bA (hr.mono (by decide)) bj (eT (pv 0) rfl) (aS (pv 2) bP)) (iB (d7:=[]) xA (by simp) T.aR (hr.mono (by decide)) bj (eT (pv 0) rfl) (aS (pv 2) bP))))) jP) (dD (dw (jG F6 (eT (pv 0) rfl) sZ (jH _)) (dD (jV (iB (d7:=[]) xz (by simp) T.dX (hr.mono (by decide)) bj (eT (pv 0) rfl) (aS (pv 1) (aS (pv 2) bP))))) jP))),?_⟩;show dW _ _ _ [some (.ref n.p),some (.int t),some (.int len)] H;have N:=O.nd n eZ;obtain⟨dn,fn,lD,kA⟩:=N.ex;refine bJ fun R hR=>?_;have post:∀H1 n1,n1.p=n.p->n1.bk=n.bk->bW (⟨cQ,cX,cV,cF,cA,dA⟩:Cl) H1 {D with ns:=cu D.ns n1}->({n1 with bk:=n.bk.map fun b=>(b.1,b.2.kN t len)}:ND)=n.chg t len->n1.nm=n.nm->n1.foot=n.foot->iw n.foot H H1->R [some (.ref n.p),some (.int t),some (.int len)] H1:=fun H1 n1 e1 e2 O1 e3 e4 e5 dd=>hR _ _ (by
   clear hR;have C8:n1∈cu D.ns n1:=by unfold cu;exact av.mpr ⟨n,eZ,by rw[if_pos e4.symm]⟩
   have nn1:((cu D.ns n1).map (·.nm)).Nodup:=by rw[Lc];exact nn
   obtain⟨d1,f1,h1,Px⟩:=(O1.nd n1 C8).ex;have h1':=h1;rw[e1]at h1;rw[e2]at Px;walk_at"rd";refine eL h1 T.dh T.fG Px.bk ?_;cases hb:n.bk with
   |none=>
    have:n1=n.chg t len:=by
     rw[<-e3,hb];obtain⟨a1,a2,a3,a4,a5,a6,a7,a8,a9⟩:=n1;rw[hb]at e2;cases e2
     rfl
    rw[this]at O1;exact fE (fun _=>k H1 O1 dd) fun z=>absurd rfl z
   |some b=>
    refine fE (fun z=>by cases z) fun _=>?_;obtain⟨bo,bs,bl⟩:=Lq b hb;have B1:=(O1.nd n1 C8).bk b (e2.trans hb);rw[hb]at Px;walk_at"rd";refine eL h1 T.dh T.fG Px.bk ?_;obtain⟨dxb,fsb,prb,plb,RY,fb,RZ,hbl⟩:=id B1.ex;have S7:Sw.Sz 300 len:=(Sw.Sz.sf (by omega) (by omega)).mono (by decide);have s0:=bo.s0;obtain⟨m0,el,v0,v1⟩:=bo.n;have bz:BZ b.2.d b.2.r b.2.l:=by rw[el];exact bo.bd.bz v0 v1
    refine ig RY (fb.x9 _) ⟨b.1,t,len,b.2.d,b.2.r,b.2.s,b.2.l,rfl,B1,bz,(Sw.Sz.sf (by omega) (by omega)).mono (by decide),S7,fun _ H2 bt B2=>?_,fun z=>absurd (show(len:Rat)<=Sw.lvl b.2.d b.2.r b.2.s b.2.l t from bl) (by intro q;exact absurd z (by rw[tL];exact q))⟩;have O2:=O1.bucket nn1 C8 (e2.trans hb) bt (b':=b.2.kN t len) B2;have:cu (cu D.ns n1) {n1 with bk:=some (b.1,b.2.kN t len)}=cu D.ns (n.chg t len):=by rw[<-e3,hb];exact ztb _ e4 eZ nn
    have O2:bW (⟨cQ,cX,cV,cF,cA,dA⟩:Cl) H2 {D with ns:=cu (cu D.ns n1) {n1 with bk:=some (b.1,b.2.kN t len)}}:=O2;rw[this]at O2;refine k H2 O2 fun c o nc e=>?_;refine bt c o (fun z=>nc ?_) (dd c o nc e);rw[z];unfold ND.foot;rw[hb];exact ae _ (ae _ (ao.mpr (.inr (au.mpr rfl)))))
  clear hR;walk_at"rd";refine eL lD T.dh T.dI kA.ch ?_;cases hc:n.ch with
  |none=>
   refine fE (fun _=>post H n rfl rfl (by rw[zvp nn eZ];exact O) ?_ rfl rfl (bE.refl _).kW) fun z=>absurd rfl z;unfold ND.chg;rw[hc];obtain⟨a1,a2,a3,a4,a5,a6,a7,a8,a9⟩:=n;cases hc
   rfl
  |some c=>
   refine fE (fun z=>by cases z) fun _=>?_;obtain⟨a,cs⟩:=c;have pk:=pok _ hc;have CS:=N.ch _ hc;rw[hc]at kA;have sub:∀b∈kX a,b∈n.foot:=fun b hb=>by unfold ND.foot;rw[hc];exact ae _ (ae _ (ao.mpr (.inl hb)))
   have Ms:∀H1,mU a H H1->Av cX cV cF H1 a D.most (cs.oR cs.yF len)->R [some (.ref n.p),some (.int t),some (.int len)] H1:=fun H1 ow C1=>post H1 {n with ch:=some (a,cs.oR cs.yF len)} rfl rfl (O.xN nn eZ hc ow C1) (by
    unfold ND.chg;rw[hc];rfl) rfl (by
    unfold ND.foot;rw[hc];rfl) (ow.kW.mono sub)
   clear post;walk_at"rd";cases cs with
   |st nm tg gs ck ch M=>
    obtain⟨x,s,g,e1,e2,sb,e3,e4,e5,e6,e7⟩:=pk;subst e1;refine .inl ?_;walk_at"rd";refine eL lD T.dh T.dI kA.ch ?_;have S:Sx cX cF H a D.most nm tg gs ck (.str x) M:=CS;obtain⟨Eh,rG,pr,CQ,Ib,kI⟩:=S.ex;refine ig CQ (Ib.x9 _) ⟨a,D.most,nm,tg,gs,ck,M,x,s,g,len,rfl,S,by omega,e2,e3,e4,sb.1,sb.2,by omega,lb.2,e6,e5.mono (by decide),fun H1 ow S1=>Ms H1 ow ?_⟩;show Sx cX cF H1 a D.most nm (iz tg x (ck+(len:Rat) / (((bD nm x).getD 1:Int):Rat))) (iz gs x (max ((gs x).getD 0) ((len:Rat) / (((bD nm x).getD 1:Int):Rat)))) ck (.str x) (M+2);rw[e2,e4];exact S1
   |rd nm q rs tu ch=>
    obtain⟨x,r,e1,e2,e3⟩:=pk;subst e1;refine .inr ?_;walk_at"rd";refine eL lD T.dh T.dI kA.ch ?_;have S:Rx cV cF H a D.most nm q rs tu (.str x):=CS;refine S.uQ (by decide+kernel) ⟨a,D.most,nm,q,rs,tu,x,r,len,rfl,S,by omega,e2,fun H1 ow S1=>Ms H1 ow ?_⟩;show Rx cV cF H1 a D.most nm q (putN rs x ((bD rs x).getD 0-len)) tu (.str x);rw[e2];exact S1
inductive Of(C:Cl)(vs:List V)(H:Hp)(Q:VK)(E:XK):Prop|mk (D:TD) (t:Int) (x:Str) (pre:List Str) (g:D2) (v:Nat) (h1:vs=[.ref D.p,.str x,.int t]) (h2:bW C H {D with ns:=D.ns.map (jS D.most (fk D t) (x::pre))}) (h3:(∀n∈D.ns,n.ch≠none->n.qu=[]/\n.ps=[])) (h4:D.Dy t v) (h5:vI D t x pre g) (h6:(0<=t/\t<10000000000000000)) (h7:True) (h8:D.gp.length<=900) (h9:∀p H',bW C H' (D.step (fk D t) (x::pre) x t g p)->iw D.foot H H'->Q .cy H'):Of C vs H Q E
include T in
theorem zil:di P w K mg base (fJ P w) 7 dA "send_first" ["self","name","at"] [[]] (Of (⟨cQ,cX,cV,cF,cA,dA⟩:Cl)):=by
 have eV:=Qt P w base T;have vL:=znr P w base T;refine T.pO.okN (k:=6) ie (fun vs H Q E h=>?_) (fun f dF A outer s H vs Q E hr h=>?_)
 ·obtain⟨D,t,x,pre,g,v,rfl,_⟩:=h;rfl
 ·obtain⟨D,t,x,pre,g,v,rfl,O,M1,Y,G,tb,nb,gl,k⟩:=h;refine⟨_,(dJ (ju (i:=3) ie.nd rfl (nK bH Aj Ak Z8 (eT (sI (dS hr) (eT (pv 0) rfl) (pv 1) (fun _ _=>rfl)) rfl) (aS bU bP))) (dJ (DS PassesOwn.never rfl (yr K rfl (iB (d7:=[]) eV (by simp) T.aH (hr.mono (by decide)) bj (pv 0) (aS (pv 1) bP))) (nX (i:=4) ie.nd rfl (by first|left;rfl|right;rfl)) (dD (jV (iB (d7:=[]) vL (by simp) T.dh (hr.mono (by decide)) bj (sI (dS hr) (eT (pv 0) rfl) (pv 4) (fun _ _=>rfl)) (aS (pv 2) (aS (bu (lE K rfl) (pv 3) bU (fun _ _=>rfl)) bP)))))) (dJ (jV (nK bH dN dO F5 (eT (pv 0) rfl) (aS (yt (aS (pv 2) (aS (bu (lE K rfl) (pv 3) bU (fun _ _=>rfl)) (aS (pv 1) bP)))) bP))) (dD (lT (pv 0) (aT sJ (pv 2) (bu (lE K rfl) (pv 3) bU (fun _ _=>rfl))) rfl))))),?_⟩;show dW _ _ _ [some (.ref D.p),some (.str x),some (.int t),none,none] H;obtain⟨n,r,hx,MQ,GQ,R0⟩:=G.q;obtain⟨eZ,ne⟩:=iD hx;have U:=G.up;obtain⟨ys,U',yl⟩:=Y.W.up n eZ;rw[ne]at U';obtain rfl:=U.det U';have gb:=Y.qu n eZ g (by rw[GQ];exact aj ..);have m6:=Y.W.m1.2;have en:∀f:ND->ND,(∀y,(f y).nm=y.nm)->((D.ns.map f).map (·.nm)).Nodup:=fun f hf=>by
   have:(D.ns.map f).map (·.nm)=D.ns.map (·.nm):=by rw[eI];exact br fun y _=>hf y
   rw[this];exact Y.W.nn
  have wQ:aU (D.ns.map (jS D.most (fk D t) (x::pre))) x=some (jS D.most (fk D t) (x::pre) n):=by rw[OU HD,hx];rfl
  obtain⟨C8,n1e⟩:=iD wQ;have N1:=O.nd _ C8;obtain⟨dn,fn,lD,kA⟩:=N1.ex;obtain⟨c1,c2,c3,c4⟩:=Vo (m:=D.most) (R:=fk D t) (S:=x::pre) n;have QL:=N1.qu;rw[c1,c2,c3,GQ]at QL;obtain⟨p0,rest,ep,h0,rr⟩:∃p0 rest,n.ps=p0::rest/\H p0=some (.tup (d2 g))/\jj H rest r:=by
   have r0:=QL.r;generalize n.ps=ps at r0;cases r0 with
   |cons a b=>exact⟨_,_,rfl,a,b⟩
  have hl:=QL.hl;rw[ep]at hl;obtain⟨dx,fs,hp,ft⟩:=O.ex;have Dc:(jS D.most (fk D t) (x::pre) n).ql=n.ql:=c3;walk_at"s";refine eL hp T.aH T.bq ft.no ⟨_,rfl,_,i7 O wQ,?_⟩;refine eL lD T.dh T.fS kA.qu ?_;rw[Dc];refine⟨Fg hl,n.ql,_,0,0,.ref p0,rfl,rfl,hl,by decide,by decide,by unfold seqIndex?;simp,rfl,hR _ _ ?_⟩;clear hR;have O2:=O.queue (en _ HD) C8 (ps:=rest) (qu:=r) rr;have eh:upd H (jS D.most (fk D t) (x::pre) n).ql (.lst (rest.map V.ref))=upd H n.ql (.lst (rest.map V.ref)):=by rw[Dc]
  rw[eh]at O2;have e2:cu (D.ns.map (jS D.most (fk D t) (x::pre))) {jS D.most (fk D t) (x::pre) n with ps:=rest,qu:=r}=D.ns.map (jq D.most (fk D t) (x::pre) x [] t g.2):=by
   refine OO Y.W.nn HD eZ (HD n) ?_ fun y _ q=>?_
   ·unfold jq;rw[if_neg aI,if_pos ne,ep,GQ];rfl
   ·unfold jq;rw[if_neg aI,if_neg (fun z=>q (z.trans ne.symm))]
  have O2:bW (⟨cQ,cX,cV,cF,cA,dA⟩:Cl) (upd H n.ql (.lst (rest.map V.ref))) {D with ns:=cu (D.ns.map (jS D.most (fk D t) (x::pre))) {jS D.most (fk D t) (x::pre) n with ps:=rest,qu:=r}}:=O2;rw[e2]at O2;have O2:bW (⟨cQ,cX,cV,cF,cA,dA⟩:Cl) (upd H n.ql (.lst (rest.map V.ref))) (D.mid t x pre [] g.2):=O2;have Gw:iw D.foot H (upd H n.ql (.lst (rest.map V.ref))):=ON (TD.e8 eZ (ae _ (aj ..)));have RW:upd H n.ql (.lst (rest.map V.ref)) p0=some (.tup (d2 g)):=by rw[bM (b8 h0 hl (by intro z;cases z))];exact h0
  refine(show dW _ _ _ [some (.ref D.p),some (.str x),some (.int t),some (.ref p0),none] (upd H n.ql (.lst (rest.map V.ref)))from ?_);generalize upd H n.ql (.lst (rest.map V.ref))=H2 at O2 Gw RW⊢;clear O N1 lD kA QL hl hp ft rr h0 e2;have Nk:∀T':List Str,(D.mid t x pre T' g.2).foot=D.foot:=fun T'=>zse fun y=>Qx y;have Um:∀T':List Str,Up (D.mid t x pre T' g.2).ns x (x::pre):=fun T'=>We OT (fun y=>by
   unfold jq;split
   ·exact Wd y
   ·split <;> exact Vm y) U
  refine bJ fun R hR=>?_;refine DM fun Z hZ=>?_;walk_at"rd";obtain⟨dx,fs,hp,ft⟩:=O2.ex;refine ig hp (nW ft _) ⟨D.mid t x pre [] g.2,x,x::pre,rfl,O2,Um [],by omega,fun l H3 s3 fl LF=>⟨l,rfl,⟨_,.of LF⟩,hZ _ _ ?_⟩⟩;clear hZ hp ft;have Lw:l∉D.foot:=by have:=O2.free fl;rw[Nk]at this;exact this
  have d3:iw D.foot H H3:=Gw.trans s3.kW;have WF:=s3 _ _ RW;have O3:=O2.same s3;clear O2 Gw RW s3 fl;have Xp:p0∉D.foot:=by have:=O3.BK WF;rw[Nk]at this;exact this
  refine Hz (K:=K) (a:=l) (xs:=(x::pre).reverse.map V.str) (fun j σ H'=>∃v4,σ=[some (.ref D.p),some (.str x),some (.int t),some (.ref p0),v4]/\bW (⟨cQ,cX,cV,cF,cA,dA⟩:Cl) H' (D.mid t x pre ((x::pre).reverse.take j) g.2)/\iw D.foot H H'/\H' p0=some (.tup (d2 g))/\H' l=some (.lst ((x::pre).reverse.map V.str))) ⟨none,rfl,O3,d3,WF,LF⟩ (fun j σ H' _⟨_,_,_,_,_,h⟩=>.of h) ?_ ?_
  ·rintro j w0 σ H4 hv ⟨v4,rfl,O4,d4,MI,LG⟩;obtain⟨y,hy,rfl⟩:∃y,(x::pre).reverse[j]?=some y/\V.str y=w0:=by
    rw[aP]at hv;cases e:(x::pre).reverse[j]? with
    |none=>rw[e]at hv;cases hv
    |some z=>rw[e]at hv;exact⟨z,rfl,aq hv⟩
   have OC:=fg.mp (bh hy);obtain⟨m,hm⟩:=U.mem y OC;obtain⟨min,me⟩:=iD hm;have nd:(x::pre).reverse.Nodup:=List.pairwise_reverse.mpr (U.nodup.imp b9);have yT:m.nm∉(x::pre).reverse.take j:=fun z=>by rw[me]at z;obtain⟨i,hi,e⟩:=DA.mp z;rw[aY]at hi;rw[Gj]at e;obtain⟨hj,e'⟩:=aL.mp hy;have:=(vy nd).mp (e.trans e'.symm);omega
   have WW:aU (D.mid t x pre ((x::pre).reverse.take j) g.2).ns y=some (jq D.most (fk D t) (x::pre) x ((x::pre).reverse.take j) t g.2 m):=by show aU (D.ns.map _) y=_;rw[OU OT,hm];rfl
   obtain⟨Nj,m4e⟩:=iD WW;obtain⟨dx4,fs4,SD,Lz⟩:=O4.ex;show zZ _ _ [some (.ref D.p),some (.str x),some (.int t),some (.ref p0),some (.str y)] H4;refine Bj fun N hN=>?_;walk_at"rd";refine eL SD T.aH T.bq Lz.no ⟨_,rfl,_,i7 O4 WW,?_⟩;obtain⟨dm,fm,Sq,Ss⟩:=(O4.nd _ Nj).ex;refine ig Sq (Ss.x9 _) (lG (.of MI) (v:=.int g.2) rfl ?_);have nn4:((D.mid t x pre ((x::pre).reverse.take j) g.2).ns.map (·.nm)).Nodup:=en _ OT;have eqs:=Ut Y G M1 (T:=(x::pre).reverse.take j) min (by rw[me];exact OC) yT;have Rt:(jq D.most (fk D t) (x::pre) x ((x::pre).reverse.take j) t g.2 m).bk=m.bk:=by unfold jq;rw[if_neg yT];split <;> exact Vn m
   refine⟨D.mid t x pre ((x::pre).reverse.take j) g.2,_,t,g.2,rfl,O4,nn4,Nj,fun c hc=>?_,⟨gb.1,by omega⟩,⟨by omega,by omega⟩,fun b hb=>?_,?_,fun H5 O5 d5=>hN _ _ ⟨_,rfl,?_,fun b o nb e=>?_,?_,?_⟩⟩
   ·
    unfold jq at hc;rw[if_neg yT]at hc;by_cases e:m.nm=x
    ·rw[if_pos e]at hc;have:m=n:=by have:=wD Y.W.nn min;rw[e,hx]at this;exact(aq this).symm
     subst this;have hc:(jS D.most (fk D t) (x::pre) m).ch=some c:=hc;unfold jS at hc;split at hc
     ·rw[MQ]at hc;cases hc
     ·rw[MQ]at hc;cases hc
    ·rw[if_neg e]at hc;have CQ:m.nm∈pre:=(ak.mp (by rw[me];exact OC:m.nm∈x::pre)).resolve_left e;obtain⟨m',c',z,q1,q2,q3⟩:=G.led.Nf m.nm CQ;rw[wD Y.W.nn min]at q1;cases q1
     unfold jS at hc;rw[if_pos (by rw[me];exact OC),q2]at hc;obtain rfl:(c'.1,c'.2.j8 D.most (fk D t))=c:=aq hc;exact(QE (R:=fk D t) (len:=g.2) Y min q2 q3).2.2.2.1
   ·rw[Rt]at hb;obtain⟨b1,b2⟩:=Y.bk m min b hb;exact⟨b1,b2,R0 b.2 (QN OC hm hb)⟩
   ·first
     |trivial
     |exact P6 nb t x pre _ g.2
   ·have e5:cu (D.ns.map (jq D.most (fk D t) (x::pre) x ((x::pre).reverse.take j) t g.2)) ((jq D.most (fk D t) (x::pre) x ((x::pre).reverse.take j) t g.2 m).chg t g.2)=D.ns.map (jq D.most (fk D t) (x::pre) x ((x::pre).reverse.take (j+1)) t g.2):=by
     refine OO Y.W.nn OT min ?_ ?_ fun y' _ q=>?_
     ·show(jq D.most (fk D t) (x::pre) x ((x::pre).reverse.take j) t g.2 m).nm=_;exact OT m
     ·rw[eqs];unfold jq;rw[if_pos (by rw[Dt hy,me];simp)]
     ·unfold jq;have:y'.nm∈(x::pre).reverse.take (j+1)↔y'.nm∈(x::pre).reverse.take j:=by rw[Dt hy,ao,au];exact⟨fun z=>z.resolve_right fun w=>q (w.trans me.symm),.inl⟩
      by_cases c:y'.nm∈(x::pre).reverse.take j
      ·rw[if_pos c,if_pos (this.mpr c)]
      ·rw[if_neg c,if_neg (fun z=>c (this.mp z))]
    have O5:bW (⟨cQ,cX,cV,cF,cA,dA⟩:Cl) H5 {D with ns:=cu (D.ns.map (jq D.most (fk D t) (x::pre) x ((x::pre).reverse.take j) t g.2)) ((jq D.most (fk D t) (x::pre) x ((x::pre).reverse.take j) t g.2 m).chg t g.2)}:=O5;rw[e5]at O5;exact O5
   ·refine d5 b o (fun z=>nb ?_) (d4 b o nb e);rw[Qx]at z;exact TD.e8 min z
   ·refine d5 _ _ (fun z=>Xp ?_) MI;rw[Qx]at z;exact TD.e8 min z
   ·refine d5 _ _ (fun z=>Lw ?_) LG;rw[Qx]at z;exact TD.e8 min z
  ·rintro σ H4 ⟨v4,rfl,O4,d4,MI,LG⟩;rw[ai,bF]at O4;refine hR _ _ ?_;clear hR;have e6:D.ns.map (jq D.most (fk D t) (x::pre) x (x::pre).reverse t g.2)=D.ns.map (stN D.most (fk D t) (x::pre) t g.2):=by
    refine br fun y _=>?_;unfold jq;by_cases c:y.nm∈x::pre
    ·rw[if_pos (fg.mpr c)]
    ·rw[if_neg (fun z=>c (fg.mp z)),if_neg (fun z=>c (by rw[z];exact aj ..))];unfold jS L2.stN;rw[if_neg c,if_neg c]
   have O4:bW (⟨cQ,cX,cV,cF,cA,dA⟩:Cl) H4 {D with ns:=D.ns.map (jq D.most (fk D t) (x::pre) x (x::pre).reverse t g.2)}:=O4;rw[e6]at O4;obtain⟨dx,fs,hp,ft⟩:=O4.ex;walk_at"s";refine eL hp T.aH T.mC ft.go ?_;refine⟨Fg O4.go,lG (.of MI) (v:=.int g.1) rfl fun p fp=>?_⟩;have s5:=fV (o:=.tup [.int t,.int g.1,.str x]) fp;have O5:=O4.same s5;have WG:=s5 _ _ MI;have h5:upd H4 p (.tup [.int t,.int g.1,.str x]) p=some (.tup (HW (t,g.1,x))):=bX;have d5:=d4.trans (s5.kW (S:=D.foot));generalize upd H4 p (.tup [.int t,.int g.1,.str x])=H5 at O5 WG h5 d5⊢;refine Lf O5.go (by rw[ai];show D.gp.length<1000;omega) (hR _ _ ?_);clear hR;have O6:=O5.gone h5;have NJ:D.pg∈D.foot:=ae _ (ae _ (aj ..));have eg:(HO.lst (D.gp.map V.ref++[V.ref p]))= .lst ((D.gp++[p]).map V.ref):=by rw[aA];rfl
   have WH:upd H5 D.pg (.lst ((D.gp++[p]).map V.ref)) p0=some (.tup (d2 g)):=by rw[bM (fun z=>Xp (by rw[z];exact NJ))];exact WG
   have d6:iw D.foot H (upd H5 D.pg (.lst ((D.gp++[p]).map V.ref))):=d5.trans (ON NJ);refine(show(_:TS) _ [some (.ref D.p),some (.str x),some (.int t),some (.ref p0),v4] (upd H5 D.pg (.lst (D.gp.map V.ref++[V.ref p])))from ?_);rw[eg];have O6:bW (⟨cQ,cX,cV,cF,cA,dA⟩:Cl) (upd H5 D.pg (.lst ((D.gp++[p]).map V.ref))) {D with ns:=D.ns.map (L2.stN D.most (fk D t) (x::pre) t g.2),gp:=D.gp++[p],gs:=D.gs++[(t,g.1,x)]}:=O6;generalize upd H5 D.pg (.lst ((D.gp++[p]).map V.ref))=H6 at O6 WH d6⊢;obtain⟨dx6,fs6,PK,Wz⟩:=O6.ex;walk_at"rd";refine lG (.of WH) (v:=.int g.2) rfl ?_;refine⟨_,rfl,lU PK T.aH T.mw (by have:=Wz.len;omega) ?_⟩;have O7:=O6.field PK (Wz.Kz (GD:=t+g.2));exact k p _ O7 (d6.trans (ON (aj ..)))
inductive Oc(C:Cl)(vs:List V)(H:Hp)(Q:VK)(E:XK):Prop|mk (D:TD) (t:Int) (v:Nat) (h1:vs=[.ref D.p,.int t]) (h2:bW C H D) (h3:D.Dy t v) (h4:(∃x,wG D x t)) (h5:(0<=t/\t<10000000000000000)) (h6:True) (h7:D.gp.length<=900) (h8:∀x pre g p H',vI D t x pre g->bW C H' (D.step (fk D t) (x::pre) x t g p)->iw D.foot H H'->Q .cy H'):Oc C vs H Q E
include T in
theorem zhz:di P w K mg base (fJ P w) 9 dA "make_choice" ["self","at"] [[]] (Oc (⟨cQ,cX,cV,cF,cA,dA⟩:Cl)):=by
 have tK:=zlg P w base T;have tJ:=zld P w base T;have tH:=zlf P w base T;have iH:=Yv P w base T;have mX:=zly P w base T;have qq:=zil P w base T;refine T.oN.okN (k:=8) fD (fun vs H Q E h=>?_) (fun f dF A outer s H vs Q E hr h=>?_)
 ·obtain⟨D,t,v,rfl,_⟩:=h;rfl
 ·obtain⟨D,t,v,rfl,O,Y,my,tb,nb,gl,k⟩:=h;refine⟨_,(dJ (ju (i:=2) fD.nd rfl (iB (d7:=[]) tK (by simp) T.aH (hr.mono (by decide)) bj (pv 0) (aS (pv 1) bP))) (dJ (ju (i:=3) fD.nd rfl (LU rfl T.xZ)) (dJ (QA PassesOwn.never (jG F6 (eT (sI (dS hr) (eT (pv 0) rfl) (pv 3) (fun _ _=>rfl)) rfl) sZ (jH _)) (dJ (ju (i:=4) fD.nd rfl (eT (sI (dS hr) (eT (pv 0) rfl) (pv 3) (fun _ _=>rfl)) rfl)) (dD (ju (i:=3) fD.nd rfl (O0 (iB (d7:=[]) tJ (by simp) T.bA (hr.mono (by decide)) bj (pv 4) (aS (nM ["child"] [("ready",2)] rfl (by with_unfolding_all rfl) (by decide+kernel) rfl (by decide+kernel) (by exact⟨rfl,bB⟩) (by with_unfolding_all rfl) ⟨⟨rfl,rfl,rfl⟩,bB⟩ (yr K rfl (O0 (yK (d7:=[]) iH (by simp) T.bA (hr.mono (by decide)) bj (pv 4)) (yK (d7:=[]) mX (by simp) T.aR (hr.mono (by decide)) bj (pv 4)))) (fun _ _ _=>(nX (i:=0) (show(["child","ready"]:List Str).Nodup from by decide+kernel) rfl (by first|left;rfl|right;rfl))) (fun _ _ _=>(OJ (Le (OZ (dS hr) (pv 0) (pv 1))))) (fun _ _ _=>(pv 0))) bP)) (iB (d7:=[]) tH (by simp) T.aR (hr.mono (by decide)) bj (pv 4) (aS (nM ["child"] [("ready",2)] rfl (by with_unfolding_all rfl) (by decide+kernel) rfl (by decide+kernel) (by exact⟨rfl,bB⟩) (by with_unfolding_all rfl) ⟨⟨rfl,rfl,rfl⟩,bB⟩ (yr K rfl (O0 (yK (d7:=[]) iH (by simp) T.bA (hr.mono (by decide)) bj (pv 4)) (yK (d7:=[]) mX (by simp) T.aR (hr.mono (by decide)) bj (pv 4)))) (fun _ _ _=>(nX (i:=0) (show(["child","ready"]:List Str).Nodup from by decide+kernel) rfl (by first|left;rfl|right;rfl))) (fun _ _ _=>(OJ (Le (OZ (dS hr) (pv 0) (pv 1))))) (fun _ _ _=>(pv 0))) bP))))))) (dD (jV (iB (d7:=[]) qq (by simp) T.aH (hr.mono (by decide)) bj (pv 0) (aS (pv 3) (aS (pv 1) bP)))))))),?_⟩;show dW _ _ _ [some (.ref D.p),some (.int t),none,none,none] H;obtain⟨dx,fs,hp,ft⟩:=O.ex;have M1:∀n∈D.ns,n.ch≠none->n.qu=[]/\n.ps=[]:=fun n eZ hc=>Lv.ps O Y.lv eZ hc;walk_at"s";refine ig hp (nW ft _) ⟨D,t,v,rfl,O,Y,tb,nb,fun l ks H1 s1 fl hl kk=>hR _ _ ?_⟩;clear hR hp ft;have Lw:l∉D.foot:=O.free fl;have O1:=O.same s1;walk_at"s";refine hR _ _ ?_;clear hR;have e0:D.ask t []=D:=by
   unfold TD.ask;have:D.ns.map (jS D.most (fk D t) [])=D.ns:=by
    conv=>rhs;rw[<-l7 D.ns]
    exact br fun y _=>Uq y
   rw[this]
  obtain⟨rn,hr0,ra0,rc0⟩:=Y.W.rdN;refine bJ fun R hR=>?_;refine VX (fun m σ H'=>∃y pre v4,σ=[some (.ref D.p),some (.int t),some (.ref l),some (.str y),v4]/\bW (⟨cQ,cX,cV,cF,cA,dA⟩:Cl) H' (D.ask t pre)/\iw D.foot H H'/\H' l=some (.dK (A5 ks))/\Jx D.ns (fk D t) pre y/\fk D t y/\Up D.ns y (y::pre)/\m+pre.length=6) (m0:=6) ⟨road,[],none,rfl,by rw[e0];exact O1,s1.kW,hl,.nil,my.elim fun x m=>m.road Y.W,.top hr0 ra0,rfl⟩ ?_;rintro m σ H2 ⟨y,pre,v4,rfl,O2,Gw,AO,ld,Xv,U,hm⟩;obtain⟨n,hy⟩:=U.RO;obtain⟨eZ,ne⟩:=iD hy;have nd:=U.nodup;rw[aG]at nd;have cn:jS D.most (fk D t) pre n=n:=by unfold jS;rw[if_neg (by rw[ne];exact nd.1)]
  have Ka:aU (D.ask t pre).ns y=some n:=by show aU (D.ns.map _) y=_;rw[OU HD,hy];exact congrArg some cn
  obtain⟨Nl,_⟩:=iD Ka;have N2:=O2.nd n Nl;obtain⟨dn,fn,lD,kA⟩:=N2.ex;obtain⟨dx,fs,hp,ft⟩:=O2.ex;have ul:(y::pre).length<=6:=by obtain⟨ys,U',l'⟩:=Y.W.up n eZ;rw[ne]at U';rw[U.det U'];exact l'
  rw[bw]at ul;cases hc:n.ch with
  |none=>
   refine⟨false,fun Q hQ=>?_,fun z=>(by cases z),fun _=>hR _ _ ?_⟩
   ·walk_at"rd";refine eL hp T.aH T.bq ft.no ⟨_,rfl,_,i7 O2 Ka,?_⟩;refine eL lD T.dh T.dI kA.ch ?_;rw[hc];exact hQ
   ·clear hR;have may:=Xv.leaf Y.W hy hc;obtain⟨n',ys,g,r,q1,q2,q3,q4⟩:=may;rw[hy]at q1;cases q1
    rw[<-U.det q3]at q4;have G:vI D t y pre g:=⟨ld,⟨n,ys,g,r,hy,q2,q3,by rw[<-U.det q3];exact q4⟩,U,n,r,hy,hc,q2,q4⟩;have O2:bW (⟨cQ,cX,cV,cF,cA,dA⟩:Cl) H2 {D with ns:=D.ns.map (jS D.most (fk D t) pre)}:=O2;rw[zxo Y.W.nn hy hc]at O2;walk_at"rd";exact ig hp (nW ft _) ⟨D,t,y,pre,g,v,rfl,O2,M1,Y,G,tb,nb,gl,fun p H3 O3 d3=>k y pre g p H3 G O3 (Gw.trans d3)⟩
  |some c=>
   refine⟨true,fun Q hQ=>?_,fun _=>?_,fun z=>by cases z⟩
   ·walk_at"rd";refine eL hp T.aH T.bq ft.no ⟨_,rfl,_,i7 O2 Ka,?_⟩;refine eL lD T.dh T.dI kA.ch ?_;rw[hc];exact hQ
   ·clear hR;rw[hc]at kA;walk_at"s";refine eL hp T.aH T.bq ft.no ⟨_,rfl,_,i7 O2 Ka,?_⟩;refine eL lD T.dh T.dI kA.ch (hR _ _ ?_);clear hR;obtain⟨a,cs⟩:=c;have TF:=Xv.child Y.W Y.lv hy hc;have sub:∀z∈sj cs (fk D t),bD cs.nm z≠none:=fun z hz=>Sw.k9.mpr (ue.mp hz).1;have vS:=Y.W.vS n eZ _ hc;obtain⟨f1,f2⟩:=Y.fin n eZ _ hc;have yV:=Y.yV;have kl:=Y.W.xW eZ hc;have nln:=Y.ln;have CS:=N2.ch _ hc;have rf:=zta (c:=cs) kk;have af:∀b∈kX a,b∈D.foot:=fun b hb=>TD.e8 eZ (by unfold ND.foot;rw[hc];exact ae _ (ae _ (ao.mpr (.inl hb))))
    refine Bj fun N hN=>?_;have post:∀z H3,cs.qR (sj cs (fk D t))=some z->∀Q2,bE H2 Q2->mU a Q2 H3->Av cX cV cF H3 a D.most (cs.gY D.most (sj cs (fk D t)) z)->N [some (.ref D.p),some (.int t),some (.ref l),some (.str z),some (.ref a.p)] H3:=fun z H3 hz Q2 s2 ow C3=>hN _ _ (by
     have O2':=O2.same s2;have O3:=O2'.xN (by show((D.ns.map (jS D.most (fk D t) pre)).map (fun x:ND=>x.nm)).Nodup;rw[eI];have:D.ns.map ((fun x:ND=>x.nm)∘jS D.most (fk D t) pre)=D.ns.map (·.nm):=br fun y _=>HD y;rw[this];exact Y.W.nn) Nl hc ow C3
     have e3:cu (D.ns.map (jS D.most (fk D t) pre)) {n with ch:=some (a,cs.gY D.most (sj cs (fk D t)) z)}=D.ns.map (jS D.most (fk D t) (y::pre)):=by
      refine OO Y.W.nn HD eZ rfl ?_ fun y' _ q=>?_
      ·unfold jS;rw[if_pos (by rw[ne];exact aj ..),hc];show({n with ch:=some (a,cs.j8 D.most (fk D t))}:ND)=_;rw[(QE (R:=fk D t) (len:=1) Y eZ hc hz).1]
      ·unfold jS;have:y'.nm∈y::pre↔y'.nm∈pre:=by rw[ak];exact⟨fun w=>w.resolve_left fun u=>q (u.trans ne.symm),.inr⟩
       by_cases c':y'.nm∈pre
       ·rw[if_pos c',if_pos (this.mpr c')]
       ·rw[if_neg c',if_neg (fun w=>c' (this.mp w))]
     have O3:bW (⟨cQ,cX,cV,cF,cA,dA⟩:Cl) H3 {D with ns:=cu (D.ns.map (jS D.most (fk D t) pre)) {n with ch:=some (a,cs.gY D.most (sj cs (fk D t)) z)}}:=O3;rw[e3]at O3;have zin:=ZV hz;obtain⟨z1,z2⟩:=ue.mp zin;rw[Y.W.CW n eZ _ hc,ne]at z1;obtain⟨mz,Su,ea⟩:=Uo Y.W.nn z1;have Uz:Up D.ns z (z::y::pre):=.on Su ea U;have zl:(z::y::pre).length<=6:=by obtain⟨ys,U',l'⟩:=Y.W.up mz (iD Su).1;rw[(iD Su).2]at U';rw[Uz.det U'];exact l'
     rw[bw,bw]at zl;refine⟨m-1,by omega,z,y::pre,_,rfl,O3,(Gw.trans s2.kW).trans (ow.kW.mono af),ow.kW _ _ (fun w=>Lw (af _ w)) (s2 _ _ AO),.snoc ld hy hc hz,z2,Uz,by rw[bw];omega⟩)
    clear hN;have Ws:∀(Hn:Hp)(ln:Addr)(Z:VK),bE H2 Hn->Hn ln=some (.lst (yJ cs.nm))->∀L,Hn L=none->(∀H',bE Hn H'->H' L=some (.lst ((sj cs (fk D t)).map V.str))->Z (.ref L) H')->pV (Gf K ln) (nB 0) (tB (Fb (wB 0) (wB 1))) (wB 0) L [none,some (.ref l)] (upd Hn L (.lst [])) Z:=fun Hn ln Z sn WV L hL kz=>by
     have ev:yJ cs.nm=(cs.nm.map (·.1)).map V.str:=by unfold yJ;rw[eI];rfl
     rw[ev]at WV;have nll:(cs.nm.map (·.1)).length<=60:=by rw[ai];exact bL kl nln
     have So:=sn _ _ AO;refine Jf (K:=K) (a:=ln) (xs:=(cs.nm.map (·.1)).map V.str) (fun i τ H'=>(∃v0,τ=[v0,some (.ref l)])/\bE Hn H'/\H' L=some (.lst ((((cs.nm.map (·.1)).take i).filter fun y=>decide (y∈ks)).map V.str))) ⟨⟨none,rfl⟩,fV hL,bX⟩ (fun i τ H' _ h=>.of (h.2.1 _ _ WV)) ?_ ?_
     ·rintro i w0 τ H5 hv ⟨⟨v0,rfl⟩,s5,MJ⟩;obtain⟨z,hz,rfl⟩:∃z,(cs.nm.map (·.1))[i]?=some z/\V.str z=w0:=by
       rw[aP]at hv;cases e:(cs.nm.map (·.1))[i]? with
       |none=>rw[e]at hv;cases hv
       |some z=>rw[e]at hv;exact⟨z,rfl,aq hv⟩
      have dg:=g7.k (k:=aC z) (s5 _ _ So);have dv:=Us ks z;walk_at"rd";refine⟨_,dg,?_⟩;rw[dv,Dt hz,gB,fK,Jy];by_cases c:z∈ks
      ·rw[if_pos (decide_eq_true c),if_pos (decide_eq_true c)];refine⟨_,MJ,Cu ?_,fun b u' e=>?_,?_⟩
       ·rw[ai];have:=fO (fun y=>decide (y∈ks)) ((cs.nm.map (·.1)).take i);rw[aY]at this;omega
       ·rw[bM (i8 e hL)];exact s5 _ _ e
       ·rw[bX,aA];rfl
      ·rw[if_neg (by simp[c]),if_neg (by simp[c]),aJ];exact⟨s5,MJ⟩
     ·rintro τ H5 ⟨_,s5,MJ⟩;rw[ai,bF,<-rf]at MJ;exact kz H5 s5 MJ
    walk_at"rd";cases cs with
    |st nm tg gs ck ch M=>
     refine .inl ?_;walk_at"rd";have S:Sx cX cF H2 a D.most nm tg gs ck ch M:=CS;obtain⟨Eh,rG,pr,CQ,Ib,kI⟩:=S.ex;refine ig CQ (Ib.x9 _) (.inl ?_);walk_at"rd";refine ig CQ (Ib.x9 _) ⟨a,D.most,nm,tg,gs,ck,ch,M,rfl,S,fun ln RN=>⟨ln,rfl,⟨_,.of bX⟩,fun L hL=>?_⟩⟩;have sn:=fV (o:=.lst (yJ nm)) RN;refine Ws _ ln _ sn bX L hL fun H4 s4 Pr=>?_;have NW:=sn.trans s4;have S4:=S.same NW;obtain⟨G,g0,gz,⟨c1,c2,c3⟩,ht,hg⟩:=f1;have tfo:∀z∈nm.map (·.1),tg z=some ((tg z).getD 0)/\Sw.fP 5000 ((tg z).getD 0):=fun z hz=>by obtain⟨tz,gz',e1,_⟩:=vS.2 z (Sw.k9.mpr hz);rw[e1];obtain⟨t1,t2,t3⟩:=ht z tz e1;exact⟨rfl,(V0 (by omega) g0 gz t1 t2 t3).mono (by decide)⟩
     refine⟨a,D.most,nm,tg,gs,ck,ch,M,L,sj (.st nm tg gs ck ch M) (fk D t),fun z=>(tg z).getD 0,rfl,S4,Pr,?_,tfo,(V0 (by omega) g0 gz c1 c2 c3).mono (by decide),fun z=>absurd z TF,fun _⟨z,hz,e⟩=>absurd e (sub z hz),fun _ _ z H5 hz ow S5=>post z H5 hz H4 NW ow S5⟩;have:nm.length<=D.ns.length:=kl;omega
    |rd nm q rs tu ch=>
     refine .inr ?_;walk_at"rd";have S:Rx cV cF H2 a D.most nm q rs tu ch:=CS;refine S.uQ (by decide+kernel) (.inr ?_);walk_at"rd";refine S.uQ (by decide+kernel) ⟨a,D.most,nm,q,rs,tu,ch,rfl,S,fun ln RN=>⟨ln,rfl,⟨_,.of bX⟩,fun L hL=>?_⟩⟩;have sn:=fV (o:=.lst (yJ nm)) RN;refine Ws _ ln _ sn bX L hL fun H4 s4 Pr=>?_;have NW:=sn.trans s4;have S4:=S.same NW;have nl9:nm.length<=90:=by have:nm.length<=D.ns.length:=kl;omega
     refine⟨a,D.most,nm,q,rs,tu,ch,L,sj (.rd nm q rs tu ch) (fk D t),rfl,S4,Pr,fun z=>absurd z TF,fun _⟨z,hz,e⟩=>absurd e (sub z hz),fun _ _=>⟨⟨vS.2,Y.W.m1.2,nl9,fun z hz=>vS.1.ok z hz,Pr,fun e=>?_,TF,sub⟩,fun z H5 hz ow S5=>post z H5 hz H4 NW ow S5⟩⟩;rw[e]at hL;rw[sn _ _ S.hq]at hL;cases hL
inductive Om(cE:Addr)(C:Cl)(vs:List V)(H:Hp)(Q:VK)(E:XK):Prop|mk (D:TD) (t:Int) (v:Nat) (h1:vs=[.ref D.p,.int t]) (h2:bW C H D) (h3:D.Dy D.tm v) (h4:(0<=D.tm/\D.tm<=1000000000000000/\D.fr<=1000000000000000/\t<=1000000000000000)) (h5:True) (h6:(t<D.tm->Rs cE H E)) (h7:(D.tm<=t->∀D' H',Runs t D D'->D'.foot=D.foot->bW C H' {D' with tm:=t}->iw D.foot H H'->Q .cy H')):Om cE C vs H Q E
include T in
theorem zpw:di P w K mg base (fJ P w) 10 dA "until" ["self", "at"] [[]] (Om cZ (⟨cQ,cX,cV,cF,cA,dA⟩:Cl)):=by
 have jX:=zhy P w base T
 have pC:=zhz P w base T
 refine T.wo.r9 (k:=9) k8 (fun vs H Q E h=>?_) (fun f dF A outer s H vs Q E hr h=>?_)
 ·obtain ⟨D,t,v,rfl,_⟩:=h
  rfl
 ·obtain ⟨D0,t,v,rfl,O,Y,tb,Xc,ke,k⟩:=h
  refine ⟨_,(dJ (dw (jG nJ (pv 1) (eT (pv 0) rfl) (jH _)) (dD (vp K rfl rfl vt (vE T.y9 T.zv rfl T.zB (aS lF bP)))) jP) (dJ (ju (i:=2) k8.nd rfl (yK (d7:=[]) jX (by simp) T.aH (hr.mono (by decide)) eE (pv 0))) (dJ (QA PassesOwn.leaving (PW.pt (F8 (jG F6 (pv 2) sZ (jH _)) (Ji (jG nJ (pv 2) (pv 1) (jH _))))) (dJ (jV (iB (d7:=[]) pC (by simp) T.aH (hr.mono (by decide)) eE (pv 0) (aS (pv 2) bP))) (dD (ju (i:=2) k8.nd rfl (yK (d7:=[]) jX (by simp) T.aH (hr.mono (by decide)) eE (pv 0)))))) (dD (lT (pv 0) (pv 1) rfl))))),?_⟩
  show dW _ _ _ [some (.ref D0.p),some (.int t),none] H
  obtain ⟨dx,fs,hp,ft⟩:=O.ex
  walk_at "s"
  refine eL hp T.aH T.gQ ft.ti ⟨_,rfl,fE (fun c=>gA (ke c) T.z9) fun c=>hR _ _ ?_⟩
  clear hR
  have t0:D0.tm<=t:=by omega
  have k:=k t0
  walk_at "s"
  have W5:∀ (D:TD) (Hx:Hp) (τ:Int) (Z:V->Hp->Prop),D.p=D0.p->D.tm=D0.tm->bW (⟨cQ,cX,cV,cF,cA,dA⟩:Cl) Hx D->D.Dy τ v->(τ<=D.tm\/τ<=D.fr)->D.fr<=2000000000000000->True->(∀ sv H',bE Hx H'->((sv = .cy/\CI D t)\/∃ a,sv = .int a/\Nx D a/\a<=4000000000000000)->Z sv H')->sW dA (Str.ofString "next_choice") (.ref D0.p) Hx (KP (⟨cQ,cX,cV,cF,cA,dA⟩:Cl) [.ref D0.p] Hx Z fun v d H'=>E v d H'):=fun D Hx τ Z ep et O Y tv fb nb kz=>by
   obtain ⟨dx,fs,hp,ft⟩:=O.ex
   rw [ep] at hp
   refine ig hp (nW ft _) ⟨D,τ,v,by rw [ep],O,Y,tv,⟨by omega,by omega,by omega⟩,nb,fun e H' s'=>kz _ H' s' (.inl ⟨rfl,fun x u _ _ m=>?_⟩),fun a na la H' s'=>kz _ H' s' (.inr ⟨a,rfl,na,by omega⟩)⟩
   have:=Y.full O m
   rw [e] at this; cases this
  refine W5 D0 H D0.tm _ rfl rfl O Y (.inl (dG _)) (by omega) Xc fun sv H1 s1 xV=>hR _ _ ?_
  clear hR hp ft
  refine bJ fun R hR=>?_
  refine VX (fun m σ H'=>∃ (D:TD) (τ:Int) (sv:V),σ = [some (.ref D0.p),some (.int t),some sv]/\D.p=D0.p/\D.tm=D0.tm/\bW (⟨cQ,cX,cV,cF,cA,dA⟩:Cl) H' D/\D.Dy τ v/\(τ<=D.tm\/τ<=D.fr)/\D.fr<=2000000000000000/\True/\((sv = .cy/\CI D t)\/∃ a,sv = .int a/\Nx D a/\a<=4000000000000000)/\D.foot=D0.foot/\iw D0.foot H H'/\(∀ D',Runs t D D'->Runs t D0 D')/\m=dQ D.ns) (m0:=dQ D0.ns) ⟨D0,D0.tm,sv,rfl,rfl,rfl,O.same s1,Y,.inl (dG _),by omega,Xc,xV,rfl,s1.kW,fun _ h=>h,rfl⟩ ?_
  rintro m σ H2 ⟨D,τ,sv,rfl,ep,et,O2,Y2,tv,fb,nb,xV,ef,Gw,rn,rfl⟩
  have fin:CI D t->R [some (.ref D0.p),some (.int t),some sv] H2:=fun rs=>hR _ _ (by
   obtain ⟨dx,fs,hp,ft⟩:=O2.ex
   have CQ:=hp
   rw [ep] at hp
   walk_at "rd"
   refine lU hp T.aH T.gQ (by have:=ft.len; omega) ?_
   have O3:=O2.field CQ (ft.KC (Qn:=t))
   have eh:upd H2 D.p (.ins dA dx (aD "time" (.int t) fs))=upd H2 D0.p (.ins dA dx (aD "time" (.int t) fs)):=by rw [ep]
   have O3:bW (⟨cQ,cX,cV,cF,cA,dA⟩:Cl) (upd H2 D.p (.ins dA dx (aD "time" (.int t) fs))) { D with tm:=t }:=O3
   rw [eh] at O3
   exact k D _ (rn D (.stop rs)) ef O3 (Gw.trans (ON (aj ..))))
  rcases xV with ⟨rfl,rs⟩ | ⟨a,rfl,na,ab⟩
  ·refine ⟨false,fun Q hQ=>?_,fun z=>(by cases z),fun _=>fin rs⟩
   walk_at "rd"
   exact hQ
  ·by_cases c:a<t
   ·refine ⟨true,fun Q hQ=>?_,fun _=>?_,fun z=>by cases z⟩
    ·walk_at "rd"
     rw [decide_eq_true c]
     exact hQ
    ·clear hR fin
     obtain ⟨dx,fs,hp,ft⟩:=O2.ex
     have CQ:=hp
     rw [ep] at hp
     obtain ⟨g1,g2⟩:=na.ge
     have Ya:=Y2.mono (τ':=a) (by omega)
     walk_at "s"
     refine ig hp (nW ft _) ⟨D,a,v,by rw [ep],O2,Ya,na.may,⟨by omega,by omega⟩,nb,?_,fun x pre g p H3 G O3 d3=>hR _ _ ?_⟩
     ·have:=O2.gr.length
      have:=Y2.yV
      omega
     ·clear hR
      obtain ⟨Y3,wl⟩:=G.dy Ya (dG _) p
      obtain ⟨nx,r,hx,_,GQ,_⟩:=G.q
      have gb:=Y2.qu nx (iD hx).1 g (by rw [GQ]; exact aj ..)
      have m6:=Y2.W.m1.2
      refine Bj fun N hN=>?_
      walk_at "rd"
      refine W5 (D.step (fk D a) (x :: pre) x a g p) H3 a _ ep et O3 Y3 (.inr ?_) ?_ ?_ fun sv H4 s4 xV=>hN _ _ ⟨_,?_,D.step (fk D a) (x :: pre) x a g p,a,sv,rfl,ep,et,O3.same s4,Y3,.inr ?_,?_,?_,xV,Dp.trans ef,?_,fun D' h=>rn D' (.go na c G h),rfl⟩
      ·show a<=a+g.2
       omega
      ·show a+g.2<=_
       omega
      ·first
        | trivial
        | exact EE nb _ _ _ _ _ _
      ·omega
      ·show a<=a+g.2
       omega
      ·show a+g.2<=_
       omega
      ·first
        | trivial
        | exact EE nb _ _ _ _ _ _
      ·rw [ef] at d3
       exact (Gw.trans d3).trans s4.kW
   ·refine ⟨false,fun Q hQ=>?_,fun z=>(by cases z),fun _=>fin (na.rest (by omega))⟩
    walk_at "rd"
    rw [decide_eq_false c]
    exact hQ
def lI(C:Cl)(D:TD)(x u kd:Str)(s:Int)(rm:V)(H H':Hp)(D':TD):Prop:=∃(un:ND)(c:lV×dZ)(n:ND),D'=D.put un c s n/\aU D.ns u=some un/\un.ch=some c/\n.nm=x/\n.ab=some u/\n.rm=rm/\n.bk=none/\n.ps=[]/\n.qu=[]/\(kd=Str.ofString "leaf"->n.ch=none)/\(jW kd->∃a,n.ch=some (a,dZ.new (uG kd)))/\(∀b∈n.foot,H b=none)/\bW C H' D'/\iw D.foot H H'
theorem V2{D:TD}{x u kd:Str}{s:Int}{rm:V}(h:kH D x u kd s rm=none):yu x/\aU D.ns x=none/\(∃n,aU D.ns u=some n/\qG kd/\n.ch≠none/\∀ys,Up D.ns u ys->ys.length<=5)/\(1<=s/\s<=1000000):=by
 by_cases c1:yu x
 case neg=>rw[zsa c1]at h;cases h
 cases hx:aU D.ns x with
 |some v=>rw[ZQ c1 (by rw[hx];simp)]at h;cases h
 |none=>
 cases hu:aU D.ns u with
 |none=>rw[zvf c1 hx hu]at h;cases h
 |some n=>
 by_cases c2:qG kd/\n.ch≠none/\∀ys,Up D.ns u ys->ys.length<=5
 case neg=>rw[ZR c1 hx hu c2]at h;cases h
 by_cases c3:1<=s/\s<=1000000
 case neg=>rw[ZS c1 hx hu c2 c3]at h;cases h
 exact⟨c1,rfl,⟨n,rfl,c2⟩,c3⟩
theorem VP{x:Str}(h:yu x):PyData.strOk x=true/\x.length<=8:=by
 refine⟨?_,h.1.2⟩;rw[Vk];intro c hc;have:∀c∈lets.cps.toList,c<1114112:=by decide+kernel
 exact this c (h.2 c hc)
theorem lI.wf{C:Cl}{D D':TD}{x u kd:Str}{s:Int}{rm:V}{H H':Hp}(h:lI C D x u kd s rm H H' D')(W:D.Wf)(d:kH D x u kd s rm=none):D'.Wf:=by
 obtain⟨un,c,n,rfl,hu,hc,h1,h2,h3,h4,h5,h6,h7,h8,h9,yH,BE⟩:=h;obtain⟨Kq,hx,⟨n',PP,ok,_,dp⟩,sh⟩:=V2 d;rw[hu]at PP;cases PP
 obtain⟨sX,Ht⟩:=iD hu;have nx:bD c.2.nm x=none:=by rw[Sw.kO,W.CW un sX c hc];intro z;unfold iL at z;obtain⟨y,hy,e⟩:=av.mp z;exact lK.mp hx (av.mpr ⟨y,(fF.mp hy).1,e⟩)
 have so:=VP Kq;subst h1;refine W.put sX hc rfl ((W.vS un sX c hc).put nx sh.1 sh.2 so.1) hx (by rw[h2,Ht]) (fun ys U=>dp ys (by rw[<-Ht];exact U)) (fun d hd=>?_) so;rcases ok with z|z
 ·rw[h7 z]at hd;cases hd
 ·obtain⟨a,e⟩:=h8 z;rw[e]at hd;cases hd
  exact⟨dZ.EC _,dZ.Ok.new W.m1.1 _⟩
theorem Jg{ns:List ND}{n y:ND}(h:y∈cu ns n):y=n\/(y∈ns/\y.nm≠n.nm):=by
 unfold cu at h;obtain⟨z,hz,q⟩:=av.mp h;split at q
 ·exact .inl q.symm
 ·rename_i k
  exact .inr ⟨q▸hz,q▸k⟩
theorem lI.foot{C:Cl}{D D':TD}{x u kd:Str}{s:Int}{rm:V}{H H':Hp}(h:lI C D x u kd s rm H H' D'):∀b∈D'.foot,b∈D.foot\/H b=none:=by
 obtain⟨un,c,n,rfl,hu,hc,h1,h2,h3,h4,h5,h6,h7,h8,h9,yH,BE⟩:=h;intro b hb;obtain⟨sX,Ht⟩:=iD hu;unfold TD.foot at hb;rcases ak.mp hb with z|hb
 ·exact .inl (z▸aj ..)
 rcases ak.mp hb with z|hb
 ·exact .inl (z▸ae _ (aj ..))
 rcases ak.mp hb with z|hb
 ·exact .inl (z▸ae _ (ae _ (aj ..)))
 obtain⟨y,hy,z⟩:=dR.mp hb;rcases ao.mp hy with hy|hy
 ·rcases Jg hy with q|q
  ·left;refine TD.e8 sX ?_;rw[q]at z;unfold ND.foot at z⊢;rw[hc];exact z
  ·exact .inl (TD.e8 q.1 z)
 ·rw[au.mp hy]at z;exact .inr (h9 b z)
theorem lI.len{C:Cl}{D D':TD}{x u kd:Str}{s:Int}{rm:V}{H H':Hp}(h:lI C D x u kd s rm H H' D'):D'.ns.length=D.ns.length+1:=by obtain⟨un,c,n,rfl,_⟩:=h;show(cu D.ns _++[n]).length=_;rw[bg];unfold cu;rw[ai];rfl
theorem zyv(c:dZ)(x:Str)(s:Int):(c.put x s).sz<=c.sz+3:=by
 cases c with
 |st=>exact az _
 |rd nm q rs tu ch=>
  show(nm++[(x,s)]).length<=nm.length+3;rw[bg];simp
theorem lI.full{C:Cl}{D D':TD}{x u kd:Str}{s:Int}{rm:V}{H H':Hp}(h:lI C D x u kd s rm H H' D')(ok:qG kd)(F:D.full)(l:D.ns.length<60):D'.full:=by
 have ln:=h.len;obtain⟨un,c,n,rfl,hu,hc,h1,h2,h3,h4,h5,h6,h7,h8,h9,yH,BE⟩:=h;obtain⟨sX,Ht⟩:=iD hu;refine⟨by omega,fun y hy d hd=>?_⟩;rw[ln];rcases ao.mp hy with hy|hy
 ·rcases Jg hy with q|q
  ·rw[q]at hd;cases hd
   have:=zyv c.2 n.nm s;have:=F.2 un sX c hc;show(c.2.put n.nm s).sz<=_;omega
  ·have:=F.2 y q.1 d hd;omega
 ·rw[au.mp hy]at hd;rcases ok with z|z
  ·rw[h7 z]at hd;cases hd
  ·obtain⟨a,e⟩:=h8 z;rw[e]at hd;cases hd
   have:(dZ.new (uG kd)).sz=0:=by cases uG kd <;> rfl
   show(dZ.new (uG kd)).sz<=_;rw[this];omega
theorem zwa(a b:List ND):dQ (a++b)=dQ a+dQ b:=by unfold dQ;rw[aA,List.sum_append]
theorem Z1{ns:List ND}(nn:(ns.map (·.nm)).Nodup){n n':ND}(hn:n∈ns)(e:n'.nm=n.nm)(l:n'.qu.length<=n.qu.length):dQ (cu ns n')<=dQ ns:=by
 have:=OO (ns:=ns) nn (f:=id) (g:=fun y=>if y.nm=n.nm then n' else y) (n:=n) (n':=n') (fun _=>rfl) hn e (by rw[if_pos rfl]) (fun y _ q=>by rw[if_neg q];rfl);rw[l7]at this;rw[this];refine Qy fun y hy=>?_;by_cases q:y.nm=n.nm
 ·rw[if_pos q];have a:=wD nn hy;rw[q,wD nn hn]at a;rw[<-aq a];exact l
 ·rw[if_neg q];exact az _
theorem lI.dy{C:Cl}{D D':TD}{x u kd:Str}{s:Int}{rm:V}{H H':Hp}{τ:Int}{v:Nat}(h:lI C D x u kd s rm H H' D')(d:kH D x u kd s rm=none)(Y:D.Dy τ v)(l:D.ns.length<60)(lv:v<180):D'.Dy τ (v+1):=by
 have W':=h.wf Y.W d;have ln:=h.len;obtain⟨un,c,n,rfl,hu,hc,h1,h2,h3,h4,h5,h6,h7,h8,h9,yH,BE⟩:=h;obtain⟨sX,Ht⟩:=iD hu;obtain⟨Kq,hx,⟨n0,PP,ok,_,_⟩,sh⟩:=V2 d;have mem:∀y∈(D.put un c s n).ns,y={un with ch:=some (c.1,c.2.put n.nm s)}\/y∈D.ns\/y=n:=fun y hy=>by
  rcases ao.mp hy with q|q
  ·rcases Jg q with q|q
   ·exact .inl q
   ·exact .inr (.inl q.1)
  ·exact .inr (.inr (au.mp q))
 have WE:(D.put un c s n).gs=D.gs:=rfl;have m0:(D.put un c s n).most=D.most:=rfl;refine⟨W',fun y hy e he=>?_,fun y hy b hb=>?_,fun y hy hq=>?_,fun y hy g hg=>?_,?_,by omega,by omega⟩
 ·rw[WE];rcases mem y hy with q|q|q
  ·rw[q]at he;cases he
   obtain⟨f1,f2⟩:=Y.fin un sX c hc;have:=zyv c.2 n.nm s;exact⟨f1.put n.nm s,by show(c.2.put n.nm s).sz<=_;omega⟩
  ·obtain⟨f1,f2⟩:=Y.fin y q e he;exact⟨f1,by omega⟩
  ·rw[q]at he;rcases ok with z|z
   ·rw[h7 z]at he;cases he
   ·obtain⟨a,e'⟩:=h8 z;rw[e']at he;cases he
    have:(dZ.new (uG kd)).sz=0:=by cases uG kd <;> rfl
    exact⟨(dZ.jy.new _).mono (bZ _),by show(dZ.new (uG kd)).sz<=_;omega⟩
 ·rcases mem y hy with q|q|q
  ·rw[q]at hb;exact Y.bk un sX b hb
  ·exact Y.bk y q b hb
  ·rw[q,h4]at hb;cases hb
 ·rcases mem y hy with q|q|q
  ·rw[q]at hq;have:=Y.lv un sX hq;rw[hc]at this;cases this
  ·exact Y.lv y q hq
  ·rw[q,h6]at hq;exact absurd rfl hq
 ·rcases mem y hy with q|q|q
  ·rw[q]at hg;exact Y.qu un sX g hg
  ·exact Y.qu y q g hg
  ·rw[q,h6]at hg;cases hg
 ·have e1:dQ (D.put un c s n).ns<=dQ D.ns:=by
   show dQ (cu D.ns _++[n])<=_;rw[zwa];have:=Z1 Y.W.nn (n':={un with ch:=some (c.1,c.2.put n.nm s)}) sX rfl (az _);have e2:dQ [n]=0:=by unfold dQ;rw[ay,jg,h6];rfl
   omega
  have:=Y.yV;rw[WE];omega
theorem Zv{D:TD}{x:Str}{n:ND}{q:Addr}{len τ:Int}{v:Nat}(Y:D.Dy τ v)(hx:aU D.ns x=some n):dQ (TD.pF D n q len).ns<=dQ D.ns+1:=by
 obtain⟨eZ,ne⟩:=iD hx;have e0:(TD.pF D n q len).ns=D.ns.map (fun y=>if y.nm=n.nm then{n with ps:=n.ps++[q],qu:=n.qu++[(D.ct,len)]}else y):=rfl;have:∀(f:ND->ND)(ns:List ND),(ns.map (·.nm)).Nodup->(∀y∈ns,y.nm≠n.nm->(f y).qu.length=y.qu.length)->(∀y∈ns,y.nm=n.nm->(f y).qu.length<=y.qu.length+1)->dQ (ns.map f)<=dQ ns+1:=fun f ns=>by
  induction ns with
  |nil=>intro _ _ _;exact bZ _
  |cons p r ih=>
   intro nd h1 h2;rw[ay,aG]at nd;by_cases e:p.nm=n.nm
   ·have h3:dQ (r.map f)<=dQ r:=Qy fun y hy=>by rw[h1 y (ae _ hy) fun z=>nd.1 (av.mpr ⟨y,hy,z.trans e.symm⟩)];exact az _
    have h4:=h2 p (aj ..) e;unfold dQ at h3⊢;rw[ay,ay,ay,eO,eO];omega
   ·have h3:=ih nd.2 (fun y hy=>h1 y (ae _ hy)) (fun y hy=>h2 y (ae _ hy));have h4:=h1 p (aj ..) e;unfold dQ at h3⊢;rw[ay,ay,ay,eO,eO];omega
 have:=this (fun y=>if y.nm=n.nm then{n with ps:=n.ps++[q],qu:=n.qu++[(D.ct,len)]}else y) D.ns Y.W.nn (fun y _ z=>by rw[if_neg z]) (fun y hy z=>by rw[if_pos z];have a:=wD Y.W.nn hy;rw[z,wD Y.W.nn eZ]at a;rw[<-aq a];show(n.qu++[(D.ct,len)]).length<=_;rw[bg];exact az _)
 rw[e0];exact this
theorem UB{D:TD}{x:Str}{n:ND}{q:Addr}{len τ:Int}{v:Nat}(Y:D.Dy τ v)(hx:aU D.ns x=some n)(hc:n.ch=none)(lb:1<=len/\len<=D.most)(l:dQ D.ns+D.gs.length<120):(TD.pF D n q len).Dy τ v:=by
 obtain⟨eZ,ne⟩:=iD hx;have mem:∀y∈(TD.pF D n q len).ns,y={n with ps:=n.ps++[q],qu:=n.qu++[(D.ct,len)]}\/y∈D.ns:=fun y hy=>by
  rcases Jg hy with z|z
  ·exact .inl z
  ·exact .inr z.1
 have W':{D with ns:=cu D.ns {n with ps:=n.ps++[q],qu:=n.qu++[(D.ct,len)]}}.Wf:=Y.W.set eZ rfl rfl Iff.rfl (fun c c' e1 e2=>by rw[show n.ch=some c' from e2]at e1;cases e1;rfl) fun c e=>Y.W.vS n eZ c e;refine⟨⟨W'.nn,W'.rd,W'.ra,W'.up,W'.CW,W'.lf,W'.vS,W'.m1,W'.IG⟩,fun y hy e he=>?_,fun y hy b hb=>?_,fun y hy hq=>?_,fun y hy g hg=>?_,?_,?_,Y.vl⟩
 ·rcases mem y hy with z|z
  ·rw[z]at he;exact Y.fin n eZ e he
  ·exact Y.fin y z e he
 ·rcases mem y hy with z|z
  ·rw[z]at hb;exact Y.bk n eZ b hb
  ·exact Y.bk y z b hb
 ·rcases mem y hy with z|z
  ·rw[z];exact hc
  ·exact Y.lv y z hq
 ·rcases mem y hy with z|z
  ·rw[z]at hg;rcases ao.mp hg with w|w
   ·exact Y.qu n eZ g w
   ·rw[au.mp w];exact lb
  ·exact Y.qu y z g hg
 ·show dQ (cu D.ns _)+D.gs.length<=120;have:=Zv (q:=q) (len:=len) Y hx;have e0:dQ (cu D.ns {n with ps:=n.ps++[q],qu:=n.qu++[(D.ct,len)]})=dQ (TD.pF D n q len).ns:=rfl;rw[e0];omega
 ·show(cu D.ns _).length<=60;unfold cu;rw[ai];exact Y.ln
def Ol(cC:Addr)(C:Cl):Sp:=fun vs H Q E=>∃(D:TD)(x:Str),vs=[.ref D.p,.str x]/\bW C H D/\D.Wf/\(x=road\/aU D.ns x=none->Rs cC H E)/\(x≠road->∀n H',aU D.ns x=some n->bW C H' (D.jO n none)->iw D.foot H H'->Q .cy H')
include T in
theorem znt:di P w K mg base (fJ P w) 2 dA "uncurb" ["self","name"] [[]] (Ol cG (⟨cQ,cX,cV,cF,cA,dA⟩:Cl)):=by
 have eF:=Qs P w base T;refine T.uP.r9 (k:=1) zls (fun vs H Q E h=>?_) (fun f dF A outer s H vs Q E hr h=>?_)
 ·obtain⟨D,x,rfl,_⟩:=h;rfl
 ·obtain⟨D,x,rfl,O,W,kc,k⟩:=h;refine⟨_,(dJ (jV (iB (d7:=[]) eF (by simp) T.aH (hr.mono (by decide)) eE (pv 0) (aS (pv 1) bP))) (dD (lT (sI (dS hr) (eT (pv 0) rfl) (pv 1) (fun _ _=>rfl)) sZ rfl))),?_⟩;show dW _ _ _ [some (.ref D.p),some (.str x)] H;obtain⟨dx,fs,hp,ft⟩:=O.ex;walk_at"s";refine ig hp (nW ft _) ⟨D,x,rfl,O,fun c1 c2=>hR _ _ ?_,kc⟩;clear hR;cases hx:aU D.ns x with
  |none=>exact absurd hx c2
  |some n=>
  obtain⟨eZ,ne⟩:=iD hx;obtain⟨dn,fn,lD,kA⟩:=(O.nd n eZ).ex;walk_at"rd";refine eL hp T.aH T.bq ft.no ?_;walk_at"rd";refine⟨_,i7 O hx,?_⟩;refine lU lD T.dh T.fG (by have:=kA.len;omega) ?_;refine k c1 n _ hx (O.jO W.nn eZ (bE.refl _) lD kA none fun b z=>by cases z) fun b o nb e=>?_;have:b≠n.p:=fun z=>nb (TD.e8 eZ (z▸aj ..));rw[bM this];exact e
def Oh(cC:Addr)(C:Cl):Sp:=fun vs H Q E=>∃(D:TD)(x:Str),vs=[.ref D.p,.str x]/\bW C H D/\(x=road\/aU D.ns x=none->Rs cC H E)/\(x≠road->∀n,aU D.ns x=some n->Q (.bl n.bk.isSome) H)
include T in
theorem znu:di P w K mg base (fJ P w) 2 dA "curbed" ["self","name"] [[]] (Oh cG (⟨cQ,cX,cV,cF,cA,dA⟩:Cl)):=by
 have eF:=Qs P w base T;refine T.uN.r9 (k:=1) zlt (fun vs H Q E h=>?_) (fun f dF A outer s H vs Q E hr h=>?_)
 ·obtain⟨D,x,rfl,_⟩:=h;rfl
 ·obtain⟨D,x,rfl,O,kc,k⟩:=h;refine⟨_,(dJ (jV (iB (d7:=[]) eF (by simp) T.aH (hr.mono (by decide)) eE (pv 0) (aS (pv 1) bP))) (dD (gZ (LW F6 (eT (sI (dS hr) (eT (pv 0) rfl) (pv 1) (fun _ _=>rfl)) rfl) sZ (jH _))))),?_⟩;show dW _ _ _ [some (.ref D.p),some (.str x)] H;obtain⟨dx,fs,hp,ft⟩:=O.ex;walk_at"s";refine ig hp (nW ft _) ⟨D,x,rfl,O,fun c1 c2=>hR _ _ ?_,kc⟩;clear hR;cases hx:aU D.ns x with
  |none=>exact absurd hx c2
  |some n=>
  obtain⟨eZ,ne⟩:=iD hx;obtain⟨dn,fn,lD,kA⟩:=(O.nd n eZ).ex;have k:=k c1 n hx;walk_at"rd";refine eL hp T.aH T.bq ft.no ?_;walk_at"rd";refine⟨_,i7 O hx,?_⟩;refine eL lD T.dh T.fG kA.bk ?_;cases hb:n.bk with
  |none=>rw[hb]at k;walk_at"rd";exact k
  |some b=>rw[hb]at k;walk_at"rd";exact k
inductive IQ(cC cN:Addr)(C:Cl)(vs:List V)(H:Hp)(Q:VK)(E:XK):Prop|mk (D:TD) (x:Str) (d:Int) (pr:Addr) (r:Rat) (h1:vs=[.ref D.p,.str x,.int d,.ref pr]) (h2:bW C H D) (h3:D.Wf) (h4:H pr=some (.tup (fq r))) (h5:Sw.fP 5000 r) (h6:(x=road\/aU D.ns x=none->Rs cC H E)) (h7:(x≠road->aU D.ns x≠none->¬(D.most<=d/\d<=1000000000000/\0<r)->Rs cN H E)) (h8:(x≠road->D.most<=d/\d<=1000000000000/\0<r->∀n y H',aU D.ns x=some n->H y=none->bW C H' (D.jO n (some (y,⟨d,r,D.tm,(d:Rat)⟩)))->iw D.foot H H'->Q .cy H')):IQ cC cN C vs H Q E
theorem uf{r:Rat}:0<r↔0<r.num:=by rw[<-Sw.KD];show(0:Int)*_ < _* ((1:Nat):Int)↔_;omega
include T in
theorem Zj:di P w K mg base (fJ P w) 5 dA "curb" ["self","name","depth","rate"] [[]] (IQ cG cH (⟨cQ,cX,cV,cF,cA,dA⟩:Cl)):=by
 have eF:=Qs P w base T;have DW:=zxu P w base T;refine T.xY.r9 (k:=4) zpm (fun vs H Q E h=>?_) (fun f dF A outer s H vs Q E hr h=>?_)
 ·obtain⟨D,x,d,pr,r,rfl,_⟩:=h;rfl
 ·obtain⟨D,x,d,pr,r,rfl,O,W,vW,sr,kc,kn,k⟩:=h;refine⟨_,(dJ (jV (iB (d7:=[]) eF (by simp) T.aH (hr.mono (by decide)) eE (pv 0) (aS (pv 1) bP))) (dJ (dw (DR (QB mH mH (eT (pv 0) rfl) (pv 2) (OI rfl T.qO))) (dD (vp K rfl rfl vt (vE T.nU T.nV rfl T.lO (aS lF bP)))) jP) (dJ (dw (jG mH (bu (lE K rfl) (pv 3) bU (fun _ _=>rfl)) bU (jH _)) (dD (vp K rfl rfl vt (vE T.nU T.nV rfl T.lO (aS lF bP)))) jP) (dD (lT (sI (dS hr) (eT (pv 0) rfl) (pv 1) (fun _ _=>rfl)) (LQ (d7:=[]) DW (by simp) (hr.mono (by decide)) eE rfl T.C0 (aS (pv 2) (aS (pv 3) (aS (eT (pv 0) rfl) bP)))) rfl))))),?_⟩;show dW _ _ _ [some (.ref D.p),some (.str x),some (.int d),some (.ref pr)] H;obtain⟨dx,fs,hp,ft⟩:=O.ex;walk_at"s";refine ig hp (nW ft _) ⟨D,x,rfl,O,fun c1 c2=>hR _ _ ?_,kc⟩;clear hR;have kn:=kn c1 c2;cases hx:aU D.ns x with
  |none=>exact absurd hx c2
  |some n=>
  obtain⟨eZ,ne⟩:=iD hx;have N:=O.nd n eZ;obtain⟨dn,fn,lD,kA⟩:=N.ex;walk_at"s";refine eL hp T.aH T.eA ft.mo ?_;walk_at"rd";have post:D.most<=d->d<=1000000000000->R [some (.ref D.p),some (.str x),some (.int d),some (.ref pr)] H:=fun d1 d2=>hR _ _ (by
   clear hR;walk_at"s";refine lG (.of vW) rfl ?_;walk_at"rd";refine fE (fun c3=>gA (kn fun z=>?_) T.jU) fun c3=>hR _ _ ?_
   ·have:=uf.mp z.2.2;omega
   clear hR;have r0:0<r:=uf.mpr (by omega);walk_at"rd";refine eL hp T.aH T.gQ ft.ti ?_;intro y dy hy FI nd;have pb:pr≠y:=i8 vW hy;have pd:pr≠dy:=i8 vW FI;refine⟨y,dy,d,pr,r,D.tm,rfl,bX,by rw[bM pb,bM pd];exact vW,sr,fun _ H1 bt B=>⟨rfl,?_⟩,fun z=>absurd ⟨by have:=W.m1.1;omega,oA r0⟩ z⟩;have s1:bE H H1:=fun b o e=>bt _ _ (i8 e hy) (by rw[bM (i8 e hy),bM (i8 e FI)];exact e);have O1:=O.same s1;obtain⟨dx,fs,hp,ft⟩:=O1.ex;obtain⟨dn,fn,lD,kA⟩:=(O1.nd n eZ).ex;refine eL hp T.aH T.bq ft.no ?_;refine⟨_,rfl,_,i7 O1 hx,?_⟩;refine lU lD T.dh T.fG (by have:=kA.len;omega) ?_;refine k c1 ⟨d1,d2,r0⟩ n y _ hx hy (O.jO W.nn eZ s1 lD kA (some (y,⟨d,r,D.tm,(d:Rat)⟩)) fun b z=>by cases z;exact⟨B,hy⟩) fun b o nb e=>?_;have:b≠n.p:=fun z=>nb (TD.e8 eZ (z▸aj ..));rw[bM this];exact s1 _ _ e)
  clear hR;refine fE (fun c3=>fE (fun c4=>post c3 c4) fun c4=>gA (kn fun z=>c4 z.2.1) T.jU) fun c3=>gA (kn fun z=>c3 z.1) T.jU
structure CR where
 nm:Str
 q:Addr
 pl:Addr
 d:Int
 num:Int
 den:Int
 L:Int
 T:Int
 wW:List Addr
 k7:List D2
def CJ(c:CR):List V:=[.int c.d,.int c.num,.int c.den,.int c.L,.int c.T,.ref c.pl]
def lB(cs:List CR):List (Key×V):=cs.map fun c=>((aC c.nm:Key),V.ref c.q)
def iE(cs:List CR):List Addr:=cs.map (·.q)++cs.map (·.pl)
structure Ac(H:Hp)(cs:List CR):Prop where
 ht:∀c∈cs,H c.q=some (.lst (CJ c))
 hg:∀c∈cs,CA H c.pl c.wW c.k7
 nd:(iE cs).Nodup
structure yL(H:Hp)(cd:Addr)(cs:List CR):Prop where
 hd:H cd=some (.dK (lB cs))
 r:Ac H cs
theorem Ac.same{H H':Hp}{cs:List CR}(h:Ac H cs)(s:bE H H'):Ac H' cs:=⟨fun c hc=>s _ _ (h.ht c hc),fun c hc=>(h.hg c hc).same s,h.nd⟩
theorem yL.same{H H':Hp}{cd:Addr}{cs:List CR}(h:yL H cd cs)(s:bE H H'):yL H' cd cs:=⟨s _ _ h.hd,h.r.same s⟩
structure CR.Sz(c:CR):Prop where
 d:1<=c.d/\c.d<=1000000000000
 n:1<=c.num/\c.num<=10
 e:1<=c.den/\c.den<=10000
 l:0<=c.L/\c.L<=c.d*c.den
 t:0<=c.T/\c.T<=1000000000000000
def CR.lv(c:CR)(t:Int):Int:=if c.L+c.num*(t-c.T)<c.d*c.den then c.L+c.num*(t-c.T)else c.d*c.den
def Vt:Sp:=fun vs H Q _=>∃(c:CR)(t:Int),vs=[.ref c.q,.int t]/\H c.q=some (.lst (CJ c))/\c.Sz/\(-10<=t/\t<=1000000000000000)/\Q (.int (c.lv t)) H
include T in
theorem Y5:sM P w K mg base (fJ P w) 1 "_law_level" ["_law_curb","_law_at"] Vt:=by
 refine T.u7.okN (k:=0) znf (fun vs H Q E h=>?_) (fun f dF A outer s H vs Q E hr h=>?_)
 ·obtain⟨c,t,rfl,_⟩:=h;rfl
 ·obtain⟨c,t,rfl,hc,z,tb,k⟩:=h;refine⟨_,(dD (gZ (Ct (VF rfl) rfl T.x8 boot_min (aS (aT sY (bu (kK K rfl) (pv 0) bU (fun _ _=>rfl)) (bu (kK K rfl) (pv 0) bU (fun _ _=>rfl))) (aS (aT sJ (bu (kK K rfl) (pv 0) bU (fun _ _=>rfl)) (aT sY (bu (kK K rfl) (pv 0) bU (fun _ _=>rfl)) (aT Ff (pv 1) (bu (kK K rfl) (pv 0) bU (fun _ _=>rfl))))) bP))))),?_⟩;show jF _ _ [some (.ref c.q),some (.int t)] H;have hT:iZ K H c.q (CJ c):=.of hc;have zd:=z.d;have zn:=z.n;have ze:=z.e;have zt:=z.t;walk_at"rd";refine vD hT (v:=.int c.d) rfl (vD hT (v:=.int c.den) rfl ?_);walk_at"rd";have sz:∀{y:Int},-10000000000000000<=y->y<=10000000000000000->Sw.Sz 5000 y:=fun{y} a b=>(show Sw.Sz 70 y from Sw.Sz.sf (by omega) (by omega)).mono (by decide);refine⟨⟨sz (by omega) (by omega),sz (by omega) (by omega)⟩,vD hT (v:=.int c.L) rfl (vD hT (v:=.int c.num) rfl (vD hT (v:=.int c.T) rfl ?_))⟩;exact⟨_,rfl,_,rfl,⟨sz (by omega) (by omega),sz (by omega) (by omega)⟩,_,rfl,k⟩
inductive BV(vs:List V)(H:Hp)(Q:VK)(E:XK):Prop|mk (cd:Addr) (cs:List CR) (t len:Int) (h1:vs=[.ref cd,.int t,.int len]) (h2:yL H cd cs) (h3:(∀c∈cs,c.Sz)) (h4:(-10<=t/\t<=1000000000000000)) (h5:(0<=len/\len<=1000000)) (h6:∀H',bE H H'->((∀c∈cs,len*c.den<=c.lv t)->Q (.bl true) H')/\((∃c∈cs,c.lv t<len*c.den)->Q (.bl false) H')):BV vs H Q E
theorem zwb{cs:List CR}{i:Nat}{kv:Key×V}(h:(lB cs)[i]?=some kv):∃c,cs[i]?=some c/\((aC c.nm:Key),V.ref c.q)=kv:=by
 unfold lB at h;rw[aP]at h;cases e:cs[i]? with
 |none=>rw[e]at h;cases h
 |some p=>rw[e]at h;exact⟨p,rfl,aq h⟩
include T in
theorem zqv:sM P w K mg base (fJ P w) 2 "_law_hold" ["_law_curbs","_law_at","_law_length"] BV:=by
 have lX:=Y5 P w base T;refine T.wz.okN (k:=1) qW (fun vs H Q E h=>?_) (fun f dF A outer s H vs Q E hr h=>?_)
 ·obtain⟨cd,cs,t,len,rfl,_⟩:=h;rfl
 ·obtain⟨cd,cs,t,len,rfl,O,z,tb,lb,k⟩:=h;refine⟨_,(dJ (zxp PassesOwn.never rfl (pv 0) (nX (i:=3) qW.nd rfl (by first|left;rfl|right;rfl)) (dD (dw (jG nJ (kB lX (hr.mono (by decide)) rfl bj (aS (pv 3) (aS (pv 1) bP))) (aT sY (pv 2) (bu (kK K rfl) (pv 3) bU (fun _ _=>rfl))) (jH _)) (dD (gZ jM)) jP))) (dD (gZ jM))),?_⟩;show dW _ _ _ [some (.ref cd),some (.int t),some (.int len),none] H;refine bJ fun R hR=>?_;refine⟨_,rfl,cd,_,rfl,O.hd,fun o=>?_⟩;have nq:∀c∈cs,c.q≠cd:=fun c hc e=>by have:=O.r.ht c hc;rw[e,O.hd]at this;cases this
  have hz:upd H cd (.jx o (.dK (lB cs))) cd=some (.jx o (.dK (lB cs))):=bX;have ht:∀c∈cs,upd H cd (.jx o (.dK (lB cs))) c.q=some (.lst (CJ c)):=fun c hc=>by rw[bM (nq c hc)];exact O.r.ht c hc
  have th:bE H (upd (upd H cd (.jx o (.dK (lB cs)))) cd (.dK (lB cs))):=fun b u e=>by
   by_cases q:b=cd
   ·subst q;rw[O.hd]at e;cases e;exact bX
   ·rw[bM q,bM q];exact e
  generalize upd H cd (.jx o (.dK (lB cs)))=HF at hz ht th⊢;refine zvs (kvs:=lB cs) (fun i σ H'=>(∃v3,σ=[some (.ref cd),some (.int t),some (.int len),v3])/\H'=HF/\∀c∈cs.take i,len*c.den<=c.lv t) ⟨⟨none,rfl⟩,rfl,fun c hc=>absurd hc (by simp)⟩ (fun i σ H' _ h=>h.2.1▸hz) ?_ ?_
  ·rintro i kv σ H6 ud ⟨⟨v3,rfl⟩,rfl,al⟩;obtain⟨c,hc,rfl⟩:=zwb ud;have FA:=bh hc;have zc:=z c FA;have ze:=zc.e;show rh _ _ _ _ [some (.ref cd),some (.int t),some (.int len),some (.ref c.q)] H6;refine Bj fun R2 GG=>?_;walk_at"rd";have sz:∀{y:Int},-10000000000000000<=y->y<=10000000000000000->Sw.Sz 5000 y:=fun{y} a b=>(show Sw.Sz 70 y from Sw.Sz.sf (by omega) (by omega)).mono (by decide);refine⟨c,t,rfl,ht c FA,zc,tb,vD (iZ.of (ht c FA)) (v:=.int c.den) rfl ⟨_,rfl,⟨sz (by omega) (by omega),sz (by omega) (by omega)⟩,_,rfl,?_⟩⟩;split
   ·rename_i lo
    exact⟨hz,(k _ th).2 ⟨c,FA,lo⟩⟩
   ·rename_i lo
    refine GG _ _ ⟨⟨_,rfl⟩,rfl,fun c' BF=>?_⟩;rw[Ll,hc]at BF;rcases ao.mp BF with q|q
    ·exact al c' q
    ·have:c'=c:=by simpa using q
     subst this;omega
  ·rintro σ H6 ⟨⟨v3,rfl⟩,rfl,al⟩;refine hR _ _ ?_;show jF _ _ [some (.ref cd),some (.int t),some (.int len),v3] _;refine(k _ th).1 fun c hc=>al c ?_;rw[show(lB cs).length=cs.length by simp[lB],bF];exact hc
def kJ:List D2->Int
 |[]=>0
 |g::r=>g.2+kJ r
theorem zxy(a b:List D2):kJ (a++b)=kJ a+kJ b:=by
 induction a with
 |nil=>simp[kJ]
 |cons g r ih=>rw[fc,kJ,kJ,ih];omega
def D6(d num den T L:Int):List D2->Prop
 |[]=>True
 |g::r=>kJ (g::r)*den+L<=d*den+num*(T-g.1)/\D6 d num den T L r
def CR.kN(c:CR)(t len:Int)(p:Addr):CR:={c with L:=c.lv t-len*c.den,T:=t,wW:=c.wW++[p],k7:=c.k7++[(t,len)]}
theorem D6.kN{d num den T L t len L':Int}(h1:len*den+L'<=d*den)(h2:len*den+L'<=L+num*(t-T)):∀{gs:List D2},D6 d num den T L gs->D6 d num den t L' (gs++[(t,len)])
 |[],_=>⟨by simp only[kJ,Int.sub_self,Int.mul_zero,Int.add_zero];exact h1,trivial⟩
 |g::r,⟨a,b⟩=>by
  refine⟨?_,D6.kN h1 h2 b⟩;have e:kJ (g::(r++[(t,len)]))=kJ (g::r)+len:=by rw[<-fc,zxy];simp[kJ]
  show kJ (g::(r++[(t,len)]))*den+L'<=_;rw[e,Int.add_mul];have f1:num*(t-g.1)=num*(T-g.1)+num*(t-T):=by rw[<-Int.mul_add];congr 1;omega
  omega
theorem CR.Il(c:CR)(t:Int):c.lv t<=c.d*c.den/\c.lv t<=c.L+c.num*(t-c.T):=by unfold CR.lv;split <;> constructor <;> omega
def CR.Py(c:CR):Prop:=D6 c.d c.num c.den c.T c.L c.k7
theorem CR.Py.kN{c:CR}(h:c.Py)(t len:Int)(p:Addr):(c.kN t len p).Py:=by have:=c.Il t;exact D6.kN (len:=len) (den:=c.den) (d:=c.d) (num:=c.num) (T:=c.T) (L:=c.L) (t:=t) (L':=c.lv t-len*c.den) (by omega) (by omega) h
theorem D6.drop{d num den T L:Int}{g:D2}:∀{gs:List D2}{i:Nat},D6 d num den T L gs->gs[i]?=some g->kJ (gs.drop i)*den+L<=d*den+num*(T-g.1)
 |x::r,0,h,e=>by cases e;exact h.1
 |x::r,i+1,h,e=>D6.drop (gs:=r) (i:=i) h.2 e
theorem CR.Sz.kN{c:CR}(z:c.Sz){t len:Int}{p:Addr}(ht:0<=t/\t<=1000000000000000)(lb:0<=len)(hl:len*c.den<=c.lv t):(c.kN t len p).Sz:=by have:=c.Il t;have q:0<=len*c.den:=jk lb (by have:=z.e;omega);exact⟨z.d,z.n,z.e,⟨show 0<=c.lv t-len*c.den by omega,show c.lv t-len*c.den<=c.d*c.den by omega⟩,ht⟩
def m8(t len:Int):List CR->List CR->Prop
 |[],ds=>ds=[]
 |c::cs,ds=>∃p Ls,ds=c.kN t len p::Ls/\m8 t len cs Ls
theorem m8.snoc{t len:Int}{c:CR}(p:Addr):∀{cs ds:List CR},m8 t len cs ds->m8 t len (cs++[c]) (ds++[c.kN t len p])
 |[],_,h=>by cases h;exact⟨p,[],rfl,rfl⟩
 |x::cs,_,⟨q,Ls,e,h⟩=>by subst e;exact⟨q,_,rfl,h.snoc p⟩
theorem m8.all{t len:Int}{S:CR->Prop}:∀{cs ds:List CR},m8 t len cs ds->(∀c∈cs,∀p,S (c.kN t len p))->∀d∈ds,S d
 |[],_,h,_=>by cases h;intro d hd;cases hd
 |x::cs,_,⟨q,Ls,e,h⟩,k=>by
  subst e;intro d hd;rcases ak.mp hd with rfl|hd
  ·exact k x (by simp) q
  ·exact h.all (fun c hc=>k c (by simp[hc])) d hd
theorem m8.keys{t len:Int}:∀{cs ds:List CR},m8 t len cs ds->lB ds=lB cs/\iE ds=iE cs
 |[],_,h=>by cases h;exact⟨rfl,rfl⟩
 |x::cs,_,⟨q,Ls,e,h⟩=>by subst e;have:=h.keys;unfold lB iE at*;have a2:=List.append_inj' this.2 (by have:=congrArg iV this.1;simpa using this);simp[CR.kN,this.1,a2.1,a2.2]
theorem Iz{as bs:List CR}{c:CR}(nd:(iE (as++c::bs)).Nodup):(∀x∈as++bs,x.q≠c.q/\x.pl≠c.q/\x.q≠c.pl/\x.pl≠c.pl)/\c.q≠c.pl:=by
 unfold iE at nd;obtain⟨n1,n2,dj⟩:=bO.mp nd;have one:∀f:CR->Addr,((as++c::bs).map f).Nodup->∀x∈as++bs,f x≠f c:=fun f n x hx e=>by
  rw[aA,ay]at n;obtain⟨_,m2,dk⟩:=bO.mp n;rcases ao.mp hx with q|q
  ·exact dk _ (av.mpr ⟨x,q,rfl⟩) _ (by simp) e
  ·exact(aG.mp m2).1 (av.mpr ⟨x,q,e⟩)
 have Nf:∀x∈as++bs,x∈as++c::bs:=fun x hx=>by rcases ao.mp hx with q|q <;> simp[q]
 have cc:c∈as++c::bs:=by simp
 have Ub:∀x∈as++c::bs,∀y∈as++c::bs,x.q≠y.pl:=fun x hx y hy=>dj _ (av.mpr ⟨x,hx,rfl⟩) _ (av.mpr ⟨y,hy,rfl⟩);exact⟨fun x hx=>⟨one _ n1 x hx,fun e=>Ub c cc x (Nf x hx) e.symm,Ub x (Nf x hx) c cc,one _ n2 x hx⟩,Ub c cc c cc⟩
theorem Jp{as bs:List CR}{c x:CR}(h:x∈as++c::bs):x=c\/x∈as++bs:=by
 rcases ao.mp h with q|q
 ·exact .inr (by simp[q])
 ·rcases ak.mp q with q|q
  ·exact .inl q
  ·exact .inr (by simp[q])
theorem Ma{as bs:List CR}{c x:CR}(h:x∈as++bs):x∈as++c::bs:=by rcases ao.mp h with q|q <;> simp[q]
theorem Ac.off{H H':Hp}{cs:List CR}(h:Ac H cs)(k:∀b u,H b=some u->(∀kvs,u≠.dK kvs)->(∀o v,u≠.jx o v)->H' b=some u):Ac H' cs:=
 ⟨fun c hc=>k _ _ (h.ht c hc) (by intro _ e;cases e) (by intro _ _ e;cases e),fun c hc=>⟨k _ _ (h.hg c hc).hl (by intro _ e;cases e) (by intro _ _ e;cases e),(h.hg c hc).r.mono fun p g e=>k _ _ e (by intro _ e;cases e) (by intro _ _ e;cases e)⟩,h.nd⟩
theorem Ac.TR{H:Hp}{as bs:List CR}{c:CR}(h:Ac H (as++c::bs))(c':CR)(e1:c'.q=c.q)(e2:c'.pl=c.pl)(e3:c'.wW=c.wW)(e4:c'.k7=c.k7):Ac (upd H c.q (.lst (CJ c'))) (as++c'::bs):=by
 obtain⟨n1,n2⟩:=Iz h.nd;have hc:=h.ht c (by simp);refine⟨fun x hx=>?_,fun x hx=>?_,by have:=h.nd;unfold iE at this⊢;simpa [e1,e2]using this⟩
 ·rcases Jp hx with rfl|q
  ·rw[e1,bX]
  ·rw[bM (n1 x q).1];exact h.ht x (Ma q)
 ·rcases Jp hx with rfl|q
  ·have:=h.hg c (by simp);rw[e2,e3,e4];exact this.upd hc (fun e=>n2 e.symm)
  ·exact(h.hg x (Ma q)).upd hc (n1 x q).2.1
theorem Ac.Rr{H:Hp}{as bs:List CR}{c:CR}(h:Ac H (as++c::bs)){p:Addr}{g:D2}(hp:H p=some (.tup (d2 g))):Ac (upd H c.pl (.lst ((c.wW++[p]).map V.ref))) (as++{c with wW:=c.wW++[p],k7:=c.k7++[g]}::bs):=by
 obtain⟨n1,n2⟩:=Iz h.nd;have hc:=(h.hg c (by simp)).hl;refine⟨fun x hx=>?_,fun x hx=>?_,by have:=h.nd;unfold iE at this⊢;simpa using this⟩
 ·rcases Jp hx with rfl|q
  ·show upd H c.pl _ c.q=_;rw[bM n2];exact h.ht c (by simp)
  ·rw[bM (n1 x q).2.2.1];exact h.ht x (Ma q)
 ·have st:∀b(g:D2),H b=some (.tup (d2 g))->upd H c.pl (.lst ((c.wW++[p]).map V.ref)) b=some (.tup (d2 g)):=fun b g e=>by rw[bM (fun z=>by rw[z,hc]at e;cases e)];exact e
  rcases Jp hx with rfl|q
  ·exact⟨bX,((h.hg c (by simp)).r.mono st).snoc (st p g hp)⟩
  ·exact(h.hg x (Ma q)).upd hc (n1 x q).2.2.2
theorem zwc:∀{gs:List D2},(∀g∈gs,0<=g.2)->0<=kJ gs
 |[],_=>dG _
 |g::r,h=>by have:=h g (by simp);have:=zwc (gs:=r) fun x hx=>h x (by simp[hx]);show 0<=g.2+kJ r;omega
inductive Ca(vs:List V)(H:Hp)(Q:VK)(E:XK):Prop|mk (cd:Addr) (cs:List CR) (t len:Int) (h1:vs=[.ref cd,.int t,.int len]) (h2:yL H cd cs) (h3:(∀c∈cs,c.Sz/\c.Py/\c.k7.length<=200/\(∀g∈c.k7,(0<=g.1/\g.1<=c.T)/\0<=g.2)/\c.T<=t/\len*c.den<=c.lv t)) (h4:(0<=t/\t<=1000000000000000)) (h5:(0<=len/\len<=1000000)) (h6:∀H' ds,m8 t len cs ds->yL H' cd ds->(∀b u,H b=some u->b∉iE cs->H' b=some u)->Q (.bl true) H'):Ca vs H Q E
include T in
theorem zqw:sM P w K mg base (fJ P w) 2 "_law_paid" ["_law_curbs","_law_at","_law_length"] Ca:=by
 have lX:=Y5 P w base T;refine T.wA.okN (k:=1) gU (fun vs H Q E h=>?_) (fun f dF A outer s H vs Q E hr h=>?_)
 ·obtain⟨cd,cs,t,len,rfl,_⟩:=h;rfl
 ·obtain⟨cd,cs,t,len,rfl,O,z,tb,lb,k⟩:=h;refine⟨_,(dJ (Ug PassesOwn.never rfl (pv 0) (nX (i:=3) gU.nd rfl (by first|left;rfl|right;rfl)) (dJ (zyd (aT Ff (kB lX (hr.mono (by decide)) rfl bj (aS (pv 3) (aS (pv 1) bP))) (aT sY (pv 2) (bu (kK K rfl) (pv 3) bU (fun _ _=>rfl)))) (zyc (pv 3) bU Z7)) (dJ (zyd (pv 1) (zyc (pv 3) bU Z7)) (dJ (jV (nK bH dN dO F5 (bu (kK K rfl) (pv 3) bU (fun _ _=>rfl)) (aS (yt (aS (pv 1) (aS (pv 2) bP))) bP))) (dJ (ju (i:=4) gU.nd rfl bU) (dD (DS PassesOwn.never rfl (Vg K rfl rfl T.zE (aS (bu (kK K rfl) (pv 3) bU (fun _ _=>rfl)) bP)) (LY (n:=2) K rfl rfl (Cs (nX (i:=5) gU.nd rfl (by first|left;rfl|right;rfl)) (Cs (nX (i:=6) gU.nd rfl (by first|left;rfl|right;rfl)) LV))) (dJ (ju (i:=4) gU.nd rfl (aT sJ (pv 4) (pv 6))) (dD (dw (jG zG (aT sY (pv 4) (bu (kK K rfl) (pv 3) bU (fun _ _=>rfl))) (aT sJ (aT sY (bu (kK K rfl) (pv 3) bU (fun _ _=>rfl)) (bu (kK K rfl) (pv 3) bU (fun _ _=>rfl))) (aT sY (bu (kK K rfl) (pv 3) bU (fun _ _=>rfl)) (aT Ff (pv 1) (pv 5)))) (jH _)) (dD (gZ jM)) jP)))))))))) (dD (gZ jM))),?_⟩;show dW _ _ _ [some (.ref cd),some (.int t),some (.int len),none,none,none,none] H;refine bJ fun R hR=>?_;refine⟨_,rfl,cd,_,rfl,O.hd,fun o=>?_⟩;have nq:∀b∈iE cs,b≠cd:=fun b hb e=>by
   subst e;rcases ao.mp hb with q|q
   ·obtain⟨c,hc,e⟩:=av.mp q;have:=O.r.ht c hc;rw[e,O.hd]at this;cases this
   ·obtain⟨c,hc,e⟩:=av.mp q;have:=(O.r.hg c hc).hl;rw[e,O.hd]at this;cases this
  refine zxf (kvs:=lB cs) (fun i σ H'=>(∃v3 v4 v5 v6,σ=[some (.ref cd),some (.int t),some (.int len),v3,v4,v5,v6])/\H' cd=some (.jx o (.dK (lB cs)))/\(∀b u,H b=some u->b≠cd->b∉iE cs->H' b=some u)/\∃ds,m8 t len (cs.take i) ds/\Ac H' (ds++cs.drop i)) ?_ (fun i σ H' _ h=>h.2.1) ?_ ?_
  ·refine⟨⟨_,_,_,_,rfl⟩,bX,fun b u e n _=>by rw[bM n];exact e,[],rfl,O.r.off fun b u e n _=>?_⟩;rw[bM fun q=>n _ (aq (e.symm.trans (q▸O.hd)))];exact e
  ·rintro i kv σ H6 ud ⟨⟨v3,v4,v5,v6,rfl⟩,hz,fr,ds,hp,R6⟩;obtain⟨c,hc,rfl⟩:=zwb ud;have FA:=bh hc;obtain⟨zc,py,adf,pb,tt,zj⟩:=z c FA;rw[Sw.yX hc]at R6;have hq:=R6.ht c (by simp);have hg:=R6.hg c (by simp);show dW _ _ _ [some (.ref cd),some (.int t),some (.int len),some (.ref c.q),v4,v5,v6] H6;refine bJ fun R2 GG=>?_;walk_at"rd";have ze:=zc.e;have zd:=zc.d;have zn:=zc.n;have Xs:c.q∈iE cs:=dY _ (av.mpr ⟨c,FA,rfl⟩);have Xa:c.pl∈iE cs:=aB _ (av.mpr ⟨c,FA,rfl⟩);have sz:∀{y:Int},-10000000000000000<=y->y<=10000000000000000->Sw.Sz 5000 y:=fun{y} a b=>(show Sw.Sz 70 y from Sw.Sz.sf (by omega) (by omega)).mono (by decide);refine⟨c,t,rfl,hq,zc,⟨by omega,by omega⟩,vD (iZ.of hq) (v:=.int c.den) rfl ⟨_,rfl,⟨sz (by omega) (by omega),sz (by omega) (by omega)⟩,_,rfl,?_⟩⟩;refine⟨_,rfl,c.q,CJ c,3,3,rfl,rfl,hq,rfl,GG _ _ ?_⟩;refine bJ fun R3 hR3=>?_;refine⟨_,rfl,_,rfl,c.q,_,4,4,rfl,rfl,bX,rfl,hR3 _ _ ?_⟩;rw[Aa];have R7:=R6.TR {c with L:=c.lv t-len*c.den,T:=t} rfl rfl rfl rfl;show dW _ _ _ _ (upd H6 c.q (.lst (CJ {c with L:=c.lv t-len*c.den,T:=t})));have P0:upd H6 c.q (.lst (CJ {c with L:=c.lv t-len*c.den,T:=t})) cd=some (.jx o (.dK (lB cs))):=by rw[bM (b9 (nq c.q Xs))];exact hz
   have Lx:∀b u,H b=some u->b≠cd->b∉iE cs->upd H6 c.q (.lst (CJ {c with L:=c.lv t-len*c.den,T:=t})) b=some u:=fun b u e n m=>by rw[bM (fun q=>m (by rw[q];exact Xs))];exact fr b u e n m
   generalize upd H6 c.q (.lst (CJ {c with L:=c.lv t-len*c.den,T:=t}))=H7 at R7 P0 Lx⊢;have hq7:=R7.ht _ (aB _ (aj ..));have WP:=R7.hg _ (aB _ (aj ..));refine bJ fun R4 hR4=>?_;walk_at"rd";have PB:H7 c.pl=some (.lst (c.wW.map V.ref)):=WP.hl;have el7:c.wW.length=c.k7.length:=Paired.length WP.r;refine vD (iZ.of hq7) (v:=.ref c.pl) rfl ⟨.inl ⟨rfl,_,.of PB⟩,fun p GO=>⟨c.pl,_,_,rfl,rfl,(fV GO) _ _ PB,by simp only[ai,sizeLine];omega,hR4 _ _ ?_⟩⟩;have R8:=(R7.same (fV (o:=.tup (d2 (t,len))) GO)).Rr (c:={c with L:=c.lv t-len*c.den,T:=t}) bX;rw[show c.wW.map V.ref++[V.ref p]=(c.wW++[p]).map V.ref by simp];have W3:upd (upd H7 p (.tup (d2 (t,len)))) c.pl (.lst ((c.wW++[p]).map V.ref)) cd=some (.jx o (.dK (lB cs))):=by rw[bM (b9 (nq c.pl Xa))];exact fV GO _ _ P0
   have Wx:∀b u,H b=some u->b≠cd->b∉iE cs->upd (upd H7 p (.tup (d2 (t,len)))) c.pl (.lst ((c.wW++[p]).map V.ref)) b=some u:=fun b u e n m=>by rw[bM (fun q=>m (by rw[q];exact Xa))];exact fV GO _ _ (Lx b u e n m)
   show dW _ _ _ _ (upd (upd H7 p (.tup (d2 (t,len)))) c.pl (.lst ((c.wW++[p]).map V.ref)));generalize upd (upd H7 p (.tup (d2 (t,len)))) c.pl (.lst ((c.wW++[p]).map V.ref))=H8 at R8 W3 Wx⊢;have M4:H8 c.q=some (.lst (CJ (c.kN t len p))):=R8.ht _ (aB _ (aj ..));have LD:CA H8 c.pl (c.wW++[p]) (c.k7++[(t,len)]):=R8.hg _ (aB _ (aj ..));have py8:=py.kN t len p;have z8:=zc.kN (p:=p) tb lb.1 zj;refine bJ fun R5 hR5=>?_;walk_at"rd";refine hR5 _ _ ?_;refine DM fun Z hZ=>?_;walk_at"rd";refine vD (iZ.of M4) (v:=.ref c.pl) rfl ?_;refine⟨c.pl,rfl,_,.of LD.hl,hZ _ _ ?_⟩;have en:(c.wW++[p]).length=(c.k7++[(t,len)]).length:=Paired.length LD.r;have Tn:∀g∈c.k7++[(t,len)],(0<=g.1/\g.1<=t)/\0<=g.2:=fun g hg=>by
    rcases ao.mp hg with q|q
    ·have:=pb g q;omega
    ·have:g=(t,len):=by simpa using q
     subst this;exact⟨⟨tb.1,dG _⟩,lb.1⟩
   have Xr:D6 c.d c.num c.den t (c.lv t-len*c.den) (c.k7++[(t,len)]):=py8;generalize c.k7++[(t,len)]=GS at en Tn Xr LD;generalize c.wW++[p]=PS at en LD;refine zzv (K:=K) (a:=c.pl) (xs:=PS.map V.ref) (fun i σ H'=>H'=H8/\∃v5 v6,σ=[some (.ref cd),some (.int t),some (.int len),some (.ref c.q),some (.int (kJ (GS.drop (GS.length-i)))),v5,v6]) ⟨rfl,v5,v6,by rw[Nat.sub_zero,HL];rfl⟩ (fun i σ H' _ q=>by rw[q.1];exact .of LD.hl) ?_ ?_
   ·rintro k' x σ H9 hx ⟨e9,u5,u6,rfl⟩;subst e9;have hi:k' < PS.length:=by have:=(aL.mp hx).1;simpa using this
    rw[CD (by simpa using hi),aP,ai]at hx;obtain⟨a,ha,rfl⟩:∃a,PS[PS.length-1-k']?=some a/\V.ref a=x:=by
     cases e:PS[PS.length-1-k']? with
     |none=>rw[e]at hx;cases hx
     |some y=>rw[e]at hx;exact⟨y,rfl,aq hx⟩
    obtain⟨g,Pz,rS⟩:=LD.r.get ha;refine⟨a,_,rfl,.of rS,rfl,?_⟩;have ed:=Sw.yX Pz;have e1:PS.length-1-k'=GS.length-(k' +1):=by omega
    have e2:PS.length-1-k' +1=GS.length-k':=by omega
    rw[e2,e1]at ed;rw[e1]at Pz;have bd:=Xr.drop Pz;have gb:=Tn g (bh Pz);have nn:0<=kJ (GS.drop (GS.length-(k' +1))):=zwc fun x hx=>(Tn x (DB hx)).2;have es:kJ (GS.drop (GS.length-(k' +1)))=kJ (GS.drop (GS.length-k'))+g.2:=by rw[ed];show g.2+_=_;omega
    refine⟨_,_,rfl,_,_,rfl,rfl,?_⟩;show dW _ _ _ [some (.ref cd),some (.int t),some (.int len),some (.ref c.q),some (.int (kJ (GS.drop (GS.length-k')))),some (.int g.1),some (.int g.2)] H9;refine bJ fun R9 hR9=>?_;walk_at"rd";refine hR9 _ _ ?_;rw[<-es];generalize kJ (GS.drop (GS.length-(k' +1)))=we at bd nn⊢;refine Bj fun Rx hRx=>?_;walk_at"rd";have l8:0<=c.lv t-len*c.den:=z8.l.1;have b1:c.d*c.den<=1000000000000*10000:=lH zd.2 ze.2 (by omega) (by omega);have b2:c.num*(t-g.1)<=10*1000000000000000:=lH zn.2 (by omega) (by omega) (by omega);have b3:we*1<=we*c.den:=Int.mul_le_mul_of_nonneg_left ze.1 nn;have sz2:∀{y:Int},-10<=y->y<=90000000000000000->Sw.Sz 5000 y:=fun{y} a b=>(show Sw.Sz 70 y from Sw.Sz.sf (by omega) (by omega)).mono (by decide);have X8:iZ K H9 c.q (CJ (c.kN t len p)):=.of M4;refine vD X8 (v:=.int c.den) rfl ⟨_,rfl,⟨sz2 (by omega) (by omega),sz (by omega) (by omega)⟩,vD X8 (v:=.int c.d) rfl (vD X8 (v:=.int c.den) rfl ⟨_,rfl,_,rfl,⟨sz (by omega) (by omega),sz (by omega) (by omega)⟩,vD X8 (v:=.int c.num) rfl ⟨_,rfl,⟨sz (by omega) (by omega),sz (by omega) (by omega)⟩,?_⟩⟩)⟩;rw[if_neg (by omega)];exact hRx _ _ ⟨rfl,_,_,rfl⟩
   ·rintro σ H9 ⟨e9,u5,u6,rfl⟩;subst e9;exact⟨⟨_,_,_,_,rfl⟩,W3,Wx,ds++[c.kN t len p],by rw[Ll,hc];exact hp.snoc p,by rw[lZ];exact R8⟩
  ·rintro σ H6 ⟨⟨v3,v4,v5,v6,rfl⟩,hz,fr,ds,hp,R6⟩;refine hR _ _ ?_;show jF _ _ [some (.ref cd),some (.int t),some (.int len),v3,v4,v5,v6] _;have el:(lB cs).length=cs.length:=by simp[lB]
   rw[el,bF]at hp;rw[el,HL,aJ]at R6;refine k _ ds hp ⟨by rw[bX,hp.keys.1],R6.off fun b u e _ n=>?_⟩ fun b u e n=>?_
   ·rw[bM fun q=>n _ _ (aq (e.symm.trans (q▸hz)))];exact e
   ·by_cases q:b=cd
    ·subst q;rw[O.hd]at e;cases e;exact bX
    ·rw[bM q];exact fr b u e q n
structure Fy(b:je)(c:CR):Prop where
 d:c.d=b.d
 n:c.num=b.r.num
 e:c.den=(b.r.den:Int)
 s:c.T=b.s
 l:b.l=(c.L:Rat) / ((b.r.den:Int):Rat)
theorem Fy.lv{b:je}{c:CR}(h:Fy b c)(t:Int):b.lv t=(c.lv t:Rat) / ((b.r.den:Int):Rat):=by unfold je.lv CR.lv;rw[h.d,h.n,h.e,h.s,h.l];exact QM
theorem Fy.holds{b:je}{c:CR}(h:Fy b c)(t len:Int):(len:Rat)<=b.lv t↔len*c.den<=c.lv t:=by rw[h.lv,uH,h.e]
theorem Fy.kN{b:je}{c:CR}(h:Fy b c)(t len:Int)(p:Addr):Fy (b.kN t len) (c.kN t len p):=by refine⟨h.d,h.n,h.e,rfl,?_⟩;show b.lv t-(len:Rat)=((c.lv t-len*c.den:Int):Rat) / ((b.r.den:Int):Rat);have dn:=Sw.bT (Sw.bQ b.r);rw[h.lv,h.e,kG,aK,Ea,Ea,Gq,Gq,Rat.add_mul,Rat.neg_mul,Rat.mul_assoc (len:Rat),Go _ dn,Rat.mul_one]
structure CR.Ok(c:CR)(k:Nat):Prop where
 z:c.Sz
 py:c.Py
 ln:c.k7.length<=k
 pb:∀g∈c.k7,(0<=g.1/\g.1<=c.T)/\0<=g.2
theorem CR.Ok.kN{c:CR}{k:Nat}(h:c.Ok k){t len:Int}(p:Addr)(ht:0<=t/\t<=1000000000000000)(lb:0<=len)(hl:len*c.den<=c.lv t)(tt:c.T<=t):(c.kN t len p).Ok (k+1):=by
 refine⟨h.z.kN ht lb hl,h.py.kN t len p,?_,fun g hg=>?_⟩
 ·show(c.k7++[(t,len)]).length<=k+1;rw[bg];exact JC h.ln
 ·show(0<=g.1/\g.1<=t)/\0<=g.2;rcases ao.mp hg with q|q
  ·have:=h.pb g q;omega
  ·rw[au.mp q];exact⟨⟨ht.1,dG _⟩,lb⟩
theorem m8.mem{t len:Int}:∀{cs ds:List CR},m8 t len cs ds->ds.map (·.nm)=cs.map (·.nm)/\(∀d∈ds,∃c∈cs,∃p,d=c.kN t len p)/\∀c∈cs,∃p,c.kN t len p∈ds
 |[],_,h=>by cases h;exact⟨rfl,fun d hd=>absurd hd aI,fun d hd=>absurd hd aI⟩
 |x::cs,_,⟨q,Ls,e,h⟩=>by
  subst e;obtain⟨a,b,c⟩:=h.mem;refine⟨by rw[ay,ay,a];rfl,fun d hd=>?_,fun z hz=>?_⟩
  ·rcases ak.mp hd with w|w
   ·exact⟨x,aj ..,q,w⟩
   ·obtain⟨c',h1,h2⟩:=b d w;exact⟨c',ae _ h1,h2⟩
  ·rcases ak.mp hz with w|w
   ·exact⟨q,by rw[w];exact aj ..⟩
   ·obtain⟨p,h1⟩:=c z w;exact⟨p,ae _ h1⟩
def dM:Str:=Str.ofString "leaf"
structure LI(D:TD)(qu:List D2)(cs:List CR)(t:Int):Prop where
 lf:∃n,aU D.ns dM=some n/\n.ch=none/\n.qu=qu
 ot:∀n∈D.ns,n.nm≠dM->n.qu=[]
 wy:∃ys,Up D.ns dM ys/\∀n∈D.ns,n.nm∈ys
 rm:∀n∈D.ns,n.rm= .cy
 nd:(cs.map (·.nm)).Nodup
 to:∀c∈cs,∃n b,aU D.ns c.nm=some n/\n.bk=some b/\Fy b.2 c
 of:∀n∈D.ns,∀b,n.bk=some b->∃c∈cs,c.nm=n.nm
 Y:∃τ,D.Dy τ 6/\τ<=t/\(τ<=D.tm\/τ<=D.fr)
 ok:∀c∈cs,c.Ok D.gs.length
 t0:0<=D.tm/\D.tm<=t
 f0:0<=D.fr/\D.fr<=t+1000000
 ct:((dQ D.ns+D.gs.length:Nat):Int)<=D.ct
section
variable{D:TD}{qu r:List D2}{cs:List CR}{t a u:Int}{x:Str}{pre:List Str}{g:D2}
theorem LI.who(L:LI D qu cs t)(h:wG D x u):x=dM:=vv fun z=>by obtain⟨m,ys,g,r,h1,h2,_⟩:=h;have:=L.ot m (iD h1).1 (by rw[(iD h1).2];exact z);rw[this]at h2;cases h2
theorem LI.may(L:LI D (g::r) cs t):wG D dM u↔∀c∈cs,g.2*c.den<=c.lv u:=by
 obtain⟨n,hn,hc,hq⟩:=L.lf;obtain⟨ys,U,al⟩:=L.wy;rw[QO hn hq U u];constructor
 ·intro h c hc;obtain⟨m,b,h1,h2,h3⟩:=L.to c hc;obtain⟨min,me⟩:=iD h1;exact(h3.holds u g.2).mp (h b.2 (QN (me▸al m min) h1 h2))
 ·intro h b hb;obtain⟨y,_,m,ad,hm,hb⟩:=zvo hb;obtain⟨min,me⟩:=iD hm;obtain⟨c,hc,ec⟩:=L.of m min _ hb;obtain⟨m',b',h1,h2,h3⟩:=L.to c hc;rw[ec,me,hm]at h1;cases h1
  rw[hb]at h2;cases h2
  exact(h3.holds u g.2).mpr (h c hc)
theorem LI.step(L:LI D qu cs t)(nx:Nx D a)(Ph:a<t)(tb:t<=1000000000000000)(G:vI D a x pre g):x=dM/\∃r,qu=g::r/\(1<=g.2/\g.2<=1000000)/\(∀c∈cs,g.2*c.den<=c.lv a/\c.T<=a)/\∀p ds,m8 a g.2 cs ds->LI (D.step (fk D a) (x::pre) x a g p) r ds t:=by
 obtain⟨n,hn,hc,hq⟩:=L.lf;obtain⟨ny,r,hy,LA,W2,_⟩:=G.q;have ex:=L.who G.may;subst ex;rw[hn]at hy;cases hy
 obtain rfl:qu=g::r:=hq.symm.trans W2;obtain⟨τ,Y,τt,τm⟩:=L.Y;have ge:=nx.ge;have τa:τ<=a:=by omega
 have gb:=Y.qu n (iD hn).1 g (by rw[W2];exact aj ..);have m6:=Y.W.m1.2;have zj:=L.may.mp G.may;have hT:∀c∈cs,c.T<=a:=fun c hc=>by obtain⟨m,b,h1,h2,h3⟩:=L.to c hc;have:=(Y.bk m (iD h1).1 b h2).2;rw[h3.s];omega
 refine⟨rfl,r,rfl,⟨gb.1,by omega⟩,fun c hc=>⟨zj c hc,hT c hc⟩,fun p ds hp=>?_⟩;obtain⟨Y1,wl⟩:=G.dy Y τa p;obtain⟨en,h1,h2⟩:=hp.mem;obtain⟨ys,U,al⟩:=L.wy;rw[U.det G.up]at al;have t0:=L.t0;have fd:∀y,aU (D.step (fk D a) (dM::pre) dM a g p).ns y=(aU D.ns y).map (stN D.most (fk D a) (dM::pre) a g.2):=OU Jo;have sq:∀m∈D.ns,(stN D.most (fk D a) (dM::pre) a g.2 m).qu=m.qu.tail/\(stN D.most (fk D a) (dM::pre) a g.2 m).bk=m.bk.map (fun b=>(b.1,b.2.kN a g.2))/\(m.ch=none->(stN D.most (fk D a) (dM::pre) a g.2 m).ch=none):=fun m hm=>by unfold L2.stN;rw[if_pos (al m hm)];exact⟨rfl,rfl,fun e=>by show m.ch.map _=none;rw[e];rfl⟩
 have all:∀{S:ND->Prop},(∀m∈D.ns,S (stN D.most (fk D a) (dM::pre) a g.2 m))->∀m∈(D.step (fk D a) (dM::pre) dM a g p).ns,S m:=fun{S} h m hm=>by obtain⟨m0,hm0,rfl⟩:=av.mp hm;exact h m0 hm0
 obtain⟨s1,s2,s3⟩:=sq n (iD hn).1;refine⟨⟨_,by rw[fd,hn];rfl,s3 hc,by rw[s1,hq];rfl⟩,all fun m hm q=>?_,⟨dM::pre,We Jo Wd G.up,all fun m hm=>by rw[Jo];exact al m hm⟩,all fun m hm=>by rw[(Oq m).2.2];exact L.rm m hm,by rw[en];exact L.nd,fun d hd=>?_,all fun m hm b hb=>?_,⟨a,Y1,by omega,.inr ?_⟩,fun d hd=>?_,t0,⟨?_,?_⟩,?_⟩
 ·rw[Jo]at q;rw[(sq m hm).1,L.ot m hm q];rfl
 ·obtain⟨c,hc,p',rfl⟩:=h1 d hd;obtain⟨m,b,e1,e2,e3⟩:=L.to c hc;exact⟨_,(b.1,b.2.kN a g.2),by rw[fd];show(aU D.ns c.nm).map _=_;rw[e1];rfl,by rw[(sq m (iD e1).1).2.1,e2];rfl,e3.kN a g.2 p'⟩
 ·rw[(sq m hm).2.1]at hb;cases e:m.bk with
  |none=>rw[e]at hb;cases hb
  |some b0=>
   obtain⟨c,hc,ec⟩:=L.of m hm b0 e;obtain⟨p',h3⟩:=h2 c hc;exact⟨_,h3,by rw[Jo];exact ec⟩
 ·show a<=a+g.2;omega
 ·obtain⟨c,hc,p',rfl⟩:=h1 d hd;have:=(L.ok c hc).kN p' (t:=a) (len:=g.2) ⟨by omega,by omega⟩ (by omega) (zj c hc) (hT c hc);show CR.Ok _ (D.gs++[_]).length;rw[bg];exact this
 ·show 0<=a+g.2;omega
 ·show a+g.2<=_;omega
 ·have:(D.step (fk D a) (dM::pre) dM a g p).gs.length=D.gs.length+1:=by show(D.gs++[_]).length=_;rw[bg];rfl
  have:=L.ct;show _<=D.ct;omega
theorem LI.stop(L:LI D qu cs t):LI {D with tm:=t} qu cs t:=by obtain⟨τ,Y,τt,_⟩:=L.Y;have W:=Y.W;have t0:=L.t0;exact⟨L.lf,L.ot,L.wy,L.rm,L.nd,L.to,L.of,⟨τ,⟨⟨W.nn,W.rd,W.ra,W.up,W.CW,W.lf,W.vS,W.m1,W.IG⟩,Y.fin,Y.bk,Y.lv,Y.qu,Y.yV,Y.ln,Y.vl⟩,τt,.inl τt⟩,L.ok,⟨by show 0<=t;omega,dG _⟩,L.f0,L.ct⟩
theorem LI.later(L:LI D qu cs t)(tu:t<=u):LI D qu cs u:=by obtain⟨τ,Y,τt,h⟩:=L.Y;have t0:=L.t0;have f0:=L.f0;exact⟨L.lf,L.ot,L.wy,L.rm,L.nd,L.to,L.of,⟨τ,Y,by omega,h⟩,L.ok,by omega,by omega,L.ct⟩
theorem LI.dy(L:LI D qu cs D.tm):D.Dy D.tm 6:=by obtain⟨τ,Y,τt,_⟩:=L.Y;exact Y.mono τt
theorem LI.pF(L:LI D qu cs D.tm){n:ND}(hn:aU D.ns dM=some n){q:Addr}{len:Int}(lb:1<=len/\len<=D.most)(bd:dQ D.ns+D.gs.length<120):LI (TD.pF D n q len) (qu++[(D.ct,len)]) cs D.tm:=by
 obtain⟨n',AR,hc,hq⟩:=L.lf;rw[hn]at AR;cases AR
 obtain⟨eZ,ne⟩:=iD hn;have Y:=UB (q:=q) L.dy hn hc lb bd;have fs:∀y,aU (TD.pF D n q len).ns y=if y=n.nm then(aU D.ns y).map (fun _=>{n with ps:=n.ps++[q],qu:=n.qu++[(D.ct,len)]})else aU D.ns y:=fun y=>Ld (n:={n with ps:=n.ps++[q],qu:=n.qu++[(D.ct,len)]}) y
 have mem:∀y∈(TD.pF D n q len).ns,y={n with ps:=n.ps++[q],qu:=n.qu++[(D.ct,len)]}\/(y∈D.ns/\y.nm≠n.nm):=fun y hy=>Jg hy;have kp:∀y m,aU D.ns y=some m->∃m',aU (TD.pF D n q len).ns y=some m'/\m'.ab=m.ab/\m'.bk=m.bk:=fun y m hm=>by
  rw[fs];by_cases e:y=n.nm
  ·rw[e,ne,hn]at hm;cases hm
   exact⟨{n with ps:=n.ps++[q],qu:=n.qu++[(D.ct,len)]},by rw[if_pos e,e,ne,hn];rfl,rfl,rfl⟩
  ·exact⟨m,by rw[if_neg e];exact hm,rfl,rfl⟩
 obtain⟨ys,U,al⟩:=L.wy;refine⟨⟨{n with ps:=n.ps++[q],qu:=n.qu++[(D.ct,len)]},by rw[fs,if_pos ne.symm,hn];rfl,hc,by rw[<-hq]⟩,fun y hy z=>?_,⟨ys,U.mono fun z _ m hm=>by obtain⟨m',a,b,_⟩:=kp z m hm;exact⟨m',a,b⟩,fun y hy=>?_⟩,fun y hy=>?_,L.nd,fun c hc=>?_,fun y hy b hb=>?_,⟨_,Y,dG _,.inl (dG _)⟩,L.ok,L.t0,L.f0,?_⟩
 ·rcases mem y hy with w|w
  ·rw[w]at z;exact absurd ne z
  ·exact L.ot y w.1 z
 ·rcases mem y hy with w|w
  ·rw[w];exact al n eZ
  ·exact al y w.1
 ·rcases mem y hy with w|w
  ·rw[w];exact L.rm n eZ
  ·exact L.rm y w.1
 ·obtain⟨m,b,h1,h2,h3⟩:=L.to c hc;obtain⟨m',a1,_,a2⟩:=kp _ m h1;exact⟨m',b,a1,by rw[a2];exact h2,h3⟩
 ·rcases mem y hy with w|w
  ·rw[w]at hb⊢;exact L.of n eZ b hb
  ·exact L.of y w.1 b hb
 ·have:=Zv (q:=q) (len:=len) L.dy hn;have:=L.ct;show((dQ (TD.pF D n q len).ns+D.gs.length:Nat):Int)<=D.ct+1;omega
theorem LI.jO(L:LI D qu cs D.tm){n:ND}(hn:aU D.ns x=some n){bk:Option (Addr×je)}{ds:List CR}(hb:∀b,bk=some b->gI D.most b.2/\b.2.s<=D.tm)(nd:(ds.map (·.nm)).Nodup)(h1:∀c∈ds,(c∈cs/\c.nm≠x)\/(c.nm=x/\c.Ok 0/\∃b,bk=some b/\Fy b.2 c))(h2:∀c∈cs,c.nm≠x->c∈ds)(h3:bk≠none->∃c∈ds,c.nm=x):LI (D.jO n bk) qu ds D.tm:=by
 obtain⟨eZ,ne⟩:=iD hn;have fs:∀y,aU (D.jO n bk).ns y=if y=n.nm then(aU D.ns y).map (fun _=>{n with bk:=bk})else aU D.ns y:=fun y=>Ld (n:={n with bk:=bk}) y
 have mem:∀y∈(D.jO n bk).ns,y={n with bk:=bk}\/(y∈D.ns/\y.nm≠n.nm):=fun y hy=>Jg hy;have kp:∀y m,aU D.ns y=some m->∃m',aU (D.jO n bk).ns y=some m'/\m'.ab=m.ab/\m'.ch=m.ch/\m'.qu=m.qu/\(y≠x->m'=m)/\(y=x->m'.bk=bk):=fun y m hm=>by
  rw[fs];by_cases e:y=n.nm
  ·rw[e,ne,hn]at hm;cases hm
   exact⟨{n with bk:=bk},by rw[if_pos e,e,ne,hn];rfl,rfl,rfl,rfl,fun z=>absurd (e.trans ne) z,fun _=>rfl⟩
  ·exact⟨m,by rw[if_neg e];exact hm,rfl,rfl,rfl,fun _=>rfl,fun z=>absurd (z.trans ne.symm) e⟩
 obtain⟨ys,U,al⟩:=L.wy;have Y:=L.dy;obtain⟨n0,hn0,MN,hq0⟩:=L.lf;have ww:dQ (D.jO n bk).ns<=dQ D.ns:=Z1 Y.W.nn (n':={n with bk:=bk}) eZ rfl (az _);have Yc:(D.jO n bk).Dy D.tm 6:=by
  refine⟨Y.W.jO eZ bk,fun y hy c hc=>?_,fun y hy b h=>?_,fun y hy z=>?_,fun y hy g hg=>?_,?_,?_,Y.vl⟩
  ·rcases mem y hy with w|w
   ·rw[w]at hc;exact Y.fin n eZ c hc
   ·exact Y.fin y w.1 c hc
  ·rcases mem y hy with w|w
   ·rw[w]at h;exact hb b h
   ·exact Y.bk y w.1 b h
  ·rcases mem y hy with w|w
   ·rw[w]at z⊢;exact Y.lv n eZ z
   ·exact Y.lv y w.1 z
  ·rcases mem y hy with w|w
   ·rw[w]at hg;exact Y.qu n eZ g hg
   ·exact Y.qu y w.1 g hg
  ·have:=Y.yV;show dQ (D.jO n bk).ns+D.gs.length<=120;omega
  ·show(cu D.ns _).length<=60;unfold cu;rw[ai];exact Y.ln
 refine⟨?_,fun y hy z=>?_,⟨ys,U.mono fun z _ m hm=>by obtain⟨m',a,b,_⟩:=kp z m hm;exact⟨m',a,b⟩,fun y hy=>?_⟩,fun y hy=>?_,nd,fun c hc=>?_,fun y hy b hb=>?_,⟨_,Yc,dG _,.inl (dG _)⟩,fun c hc=>?_,L.t0,L.f0,?_⟩
 ·obtain⟨m',a1,_,a2,a3,_⟩:=kp _ n0 hn0;exact⟨m',a1,a2.trans MN,a3.trans hq0⟩
 ·rcases mem y hy with w|w
  ·rw[w]at z⊢;exact L.ot n eZ z
  ·exact L.ot y w.1 z
 ·rcases mem y hy with w|w
  ·rw[w];exact al n eZ
  ·exact al y w.1
 ·rcases mem y hy with w|w
  ·rw[w];exact L.rm n eZ
  ·exact L.rm y w.1
 ·rcases h1 c hc with⟨q,z⟩ |⟨q,_,b,e,ti⟩
  ·obtain⟨m,b,h1,h2,h3⟩:=L.to c q;obtain⟨m',a1,_,_,_,a2,_⟩:=kp _ m h1;exact⟨m',b,a1,by rw[a2 z];exact h2,h3⟩
  ·obtain⟨m',a1,_,_,_,_,a2⟩:=kp x n hn;exact⟨m',b,by rw[q];exact a1,(a2 rfl).trans e,ti⟩
 ·rcases mem y hy with w|w
  ·rw[w]at hb⊢;obtain⟨c,h4,h5⟩:=h3 (by rw[show bk=some b from hb];simp);exact⟨c,h4,h5.trans ne.symm⟩
  ·obtain⟨c,h4,h5⟩:=L.of y w.1 b hb;exact⟨c,h2 c h4 (by rw[h5,<-ne];exact w.2),h5⟩
 ·rcases h1 c hc with⟨q,_⟩ |⟨_,q,_⟩
  ·exact L.ok c q
  ·exact⟨q.z,q.py,by have:=q.ln;omega,q.pb⟩
 ·have:=L.ct;show((dQ (D.jO n bk).ns+D.gs.length:Nat):Int)<=D.ct;omega
end
theorem VE{K:aa}{H:Hp}:∀xs:List Int,iG K H (xs.map V.int) (xs.map PyData.int)
 |[]=>.nil
 |_::r=>.cons (.int _) (VE r)
theorem zqx(l:List Int):aX (.list (l.map PyData.int))=true:=by
 have c:PyData.canLayAll0 (l.map PyData.int)=true:=by
  induction l with
  |nil=>rfl
  |cons x r ih=>
   simp only[ay,PyData.canLayAll0,PyData.canLay0,bY];exact⟨trivial,ih⟩
 have d:=VH (f:=PyData.int) (n:=0) (fun _=>by simp[PyData.depth]) l;unfold aX;rw[bY,decide_eq_true_eq];refine⟨by simpa only[PyData.canLay0]using c,?_⟩;simp only[PyData.depth];omega
theorem zsj{α β:Type}{R:α->β->Prop}:∀{l:List α}{k:List β},Paired R l k->∀i,Paired R (l.drop i) (k.drop i)
 |_,_,h,0=>h
 |_,_,.nil,i+1=>.nil
 |_,_,.cons _ t,i+1=>zsj t i
theorem V3{α β:Type}{R:α->β->Prop}:∀{l:List α}{k:List β},Paired R l k->∀{i:Nat}{a:α},l[i]?=some a->∃b,k[i]?=some b/\R a b
 |_,_,.nil,i,a,h=>by simp at h
 |_,_,.cons h t,0,a,e=>by cases e;exact⟨_,rfl,h⟩
 |_,_,.cons h t,i+1,a,e=>V3 t (i:=i) (by simpa using e)
def Au(fr:Int)(ql:Addr):List (Key×V):=[((aC (Str.ofString "free"):Key),.int fr),(aC (Str.ofString "queue"),.ref ql)]
structure KJ(F:List Addr)(wd cd ql:Addr)(H:Hp)(ps:List Addr)(qu:List D2)(cs:List CR)(fr:Int):Prop where
 hw:H wd=some (.dK (Au fr ql))
 hq:CA H ql ps qu
 hc:yL H cd cs
 ap:∀b∈wd::cd::ql::iE cs,b∉F
 nw:wd≠cd
 nq:ql∉iE cs
theorem KJ.keep{F:List Addr}{wd cd ql:Addr}{H H':Hp}{ps:List Addr}{qu:List D2}{cs:List CR}{fr:Int}(J:KJ F wd cd ql H ps qu cs fr)(k:∀b o,(b∈wd::cd::ql::iE cs\/∃xs,o= .tup xs)->H b=some o->H' b=some o):KJ F wd cd ql H' ps qu cs fr:=by have pq:∀c∈cs,c.q∈iE cs/\c.pl∈iE cs:=fun c hc=>⟨dY _ (av.mpr ⟨c,hc,rfl⟩),aB _ (av.mpr ⟨c,hc,rfl⟩)⟩;exact⟨k _ _ (.inl (by simp)) J.hw,⟨k _ _ (.inl (by simp)) J.hq.hl,J.hq.r.mono fun p g e=>k _ _ (.inr ⟨_,rfl⟩) e⟩,⟨k _ _ (.inl (by simp)) J.hc.hd,fun c hc=>k _ _ (.inl (by simp[(pq c hc).1])) (J.hc.r.ht c hc),fun c hc=>⟨k _ _ (.inl (by simp[(pq c hc).2])) (J.hc.r.hg c hc).hl,(J.hc.r.hg c hc).r.mono fun p g e=>k _ _ (.inr ⟨_,rfl⟩) e⟩,J.hc.r.nd⟩,J.ap,J.nw,J.nq⟩
theorem KJ.there{F:List Addr}{wd cd ql:Addr}{H:Hp}{ps:List Addr}{qu:List D2}{cs:List CR}{fr:Int}(J:KJ F wd cd ql H ps qu cs fr){b:Addr}(hb:b∈wd::cd::ql::iE cs):∃o,H b=some o/\∀xs,o≠.tup xs:=by
 simp only[iE,ak,ao,av]at hb;rcases hb with rfl|rfl|rfl|⟨c,hc,rfl⟩ |⟨c,hc,rfl⟩
 ·exact⟨_,J.hw,by intro _ z;cases z⟩
 ·exact⟨_,J.hc.hd,by intro _ z;cases z⟩
 ·exact⟨_,J.hq.hl,by intro _ z;cases z⟩
 ·exact⟨_,J.hc.r.ht c hc,by intro _ z;cases z⟩
 ·exact⟨_,(J.hc.r.hg c hc).hl,by intro _ z;cases z⟩
theorem KJ.kW{C:Cl}{D:TD}{wd cd ql:Addr}{H H':Hp}{ps:List Addr}{qu:List D2}{cs:List CR}{fr:Int}(J:KJ D.foot wd cd ql H ps qu cs fr)(O:bW C H D)(d:iw D.foot H H'):KJ D.foot wd cd ql H' ps qu cs fr:=J.keep fun b o h e=>d b o (by
 rcases h with q|⟨xs,rfl⟩
 ·exact J.ap b q
 ·exact O.BK e) e
theorem KJ.free{F:List Addr}{wd cd ql:Addr}{H:Hp}{ps:List Addr}{qu:List D2}{cs:List CR}{fr:Int}(J:KJ F wd cd ql H ps qu cs fr):g7 H wd (.str (Str.ofString "free")) (some (.int fr)):=g7.k (k:=aC (Str.ofString "free")) J.hw
theorem HY:(aC (Str.ofString "free"):Key)≠aC (Str.ofString "queue"):=fun e=>absurd (gj e) (by decide+kernel)
theorem KJ.Xu{F:List Addr}{wd cd ql:Addr}{H:Hp}{ps:List Addr}{qu:List D2}{cs:List CR}{fr:Int}(J:KJ F wd cd ql H ps qu cs fr):g7 H wd (.str (Str.ofString "queue")) (some (.ref ql)):=g7.k (k:=aC (Str.ofString "queue")) J.hw
theorem Vu(fr f':Int)(ql:Addr):fU (Au fr ql) (aC (Str.ofString "free"):Key) (.int f')=Au f' ql:=by unfold fU Au;rw[if_pos (by simp),ay,ay,if_pos rfl,if_neg HY.symm];rfl
theorem Runs.pre{t:Int}{D D':TD}(h:Runs t D D'):∃m,D'.gs=D.gs++m:=h.keep (I:=fun X=>∃m,X.gs=D.gs++m) ⟨[],by simp⟩ fun X a x pre g p⟨m,e⟩ _ _ _=>⟨m++[(a,g.1,x)],by show X.gs++_=_;rw[e,lZ]⟩
theorem Runs.next{t:Int}{D D':TD}{d:D3}(h:Runs t D D')(hd:D'.gs[D.gs.length]?=some d):∃a x pre g p,Nx D a/\a<t/\vI D a x pre g/\Runs t (D.step (fk D a) (x::pre) x a g p) D'/\d=(a,g.1,x):=by
 cases h with
 |stop _=>simp at hd
 | @go _ _ a x pre g p h1 h2 h3 h4=>
  refine⟨a,x,pre,g,p,h1,h2,h3,h4,?_⟩;obtain⟨m,e⟩:=Runs.pre h4;have e:D'.gs=D.gs++[(a,g.1,x)]++m:=e;rw[e]at hd;simp at hd;exact hd.symm
theorem Runs.last{t:Int}{D D':TD}(h:Runs t D D')(e:D'.gs.length<=D.gs.length):D'=D/\CI D t:=by
 cases h with
 |stop r=>exact⟨rfl,r⟩
 | @go _ _ a x pre g p h1 h2 h3 h4=>
  obtain⟨m,q⟩:=Runs.pre h4;have q:D'.gs=D.gs++[(a,g.1,x)]++m:=q;rw[q]at e;simp at e;omega
theorem m8.any(t len:Int):∀cs:List CR,∃ds,m8 t len cs ds
 |[]=>⟨[],rfl⟩
 |c::cs=>by obtain⟨ds,h⟩:=m8.any t len cs;exact⟨_,c.q,ds,rfl,h⟩
theorem LI.runs{D D':TD}{qu:List D2}{cs:List CR}{t:Int}(L:LI D qu cs t)(tb:t<=1000000000000000)(h:Runs t D D'):(∃qu cs,LI D' qu cs t)/\D'.tm=D.tm/\D'.p=D.p/\D'.ct=D.ct/\D'.most=D.most/\D'.ns.map (·.nm)=D.ns.map (·.nm):=h.keep (I:=fun X=>(∃qu cs,LI X qu cs t)/\X.tm=D.tm/\X.p=D.p/\X.ct=D.ct/\X.most=D.most/\X.ns.map (·.nm)=D.ns.map (·.nm)) ⟨⟨_,_,L⟩,rfl,rfl,rfl,rfl,rfl⟩ fun X a x pre g p⟨⟨qu,cs,L⟩,a1,a2,a3,a4,e⟩ nx Ph G=>by obtain⟨_,r,_,_,_,k⟩:=L.step nx Ph tb G;obtain⟨ds,hp⟩:=m8.any a g.2 cs;refine⟨⟨r,ds,k p ds hp⟩,a1,a2,a3,a4,?_⟩;show(X.ns.map _).map _=_;rw[eI];exact(br fun y _=>Jo y).trans e
theorem zwd(qu:List D2):PyData.eqv (.list (qu.map JL)) (.list [])=decide (qu=[]):=by cases qu <;> rfl
section
variable{C:Cl}{H0 H H':Hp}{F:List Addr}{D T:TD}{wd cd ql sl:Addr}{yG ps wq:List Addr}{gs:List D3}{DH cs Rw ds:List CR}{qu As r:List D2}{g:D2}{fr GD:Int}
structure RK(C:Cl)(H0:Hp)(F:List Addr)(T:TD)(wd cd ql sl:Addr)(yG:List Addr)(gs:List D3)(DH:List CR)(H:Hp)(ps:List Addr)(qu:List D2)(cs:List CR)(fr:Int):Prop where
 O:bW C H T
 ef:T.foot=F
 J:KJ F wd cd ql H ps qu cs fr
 hs:H sl=some (.lst (yG.map V.ref))
 gp:Paired (fun p g=>H p=some (.tup (HW g))) yG gs
 pc:iE cs=iE DH
 fr:∀b o,H0 b=some o->b∉F->b∉wd::cd::ql::iE DH->H b=some o
 ns:sl∉wd::cd::ql::iE DH
theorem RK.on(h:RK C H0 F T wd cd ql sl yG gs DH H ps qu cs fr)(k:∀b o,H b=some o->b∉wd::cd::ql::iE DH->H' b=some o)(J':KJ F wd cd ql H' wq As Rw GD)(pc:iE Rw=iE cs):RK C H0 F T wd cd ql sl yG gs DH H' wq As Rw GD:=by
 have tp:∀{b xs},H b=some (.tup xs)->b∉wd::cd::ql::iE DH:=fun{b xs} e z=>by rw[<-h.pc]at z;obtain⟨o,ho,n⟩:=h.J.there z;rw[e]at ho;exact n xs (aq ho).symm
 exact⟨h.O.keep fun b o hb e=>k b o e (hb.elim (fun q z=>h.J.ap b (by rw[h.pc];exact z) (h.ef▸q)) fun⟨_,q⟩=>tp q),h.ef,J',k _ _ h.hs h.ns,Hy (fun _ _ z=>k _ _ z (tp z)) h.gp,pc.trans h.pc,fun b o e n1 n2=>k _ _ (h.fr b o e n1 n2) n2,h.ns⟩
theorem RK.same(h:RK C H0 F T wd cd ql sl yG gs DH H ps qu cs fr)(s:bE H H'):RK C H0 F T wd cd ql sl yG gs DH H' ps qu cs fr:=h.on (fun b o e _=>s _ _ e) (h.J.keep fun b o _ e=>s _ _ e) rfl
theorem KJ.pop(J:KJ F wd cd ql H ps qu cs fr)(hd:jj H wq r):KJ F wd cd ql (upd H ql (.lst (wq.map V.ref))) wq r cs fr:=by
 have kp:∀{b o},H b=some o->(∀xs,o≠.lst xs)->upd H ql (.lst (wq.map V.ref)) b=some o:=fun{b o} e n=>by rw[bM fun z=>by rw[z,J.hq.hl]at e;exact n _ (aq e).symm];exact e
 have kq:∀{b o},b∈iE cs->H b=some o->upd H ql (.lst (wq.map V.ref)) b=some o:=fun{b o} q e=>by rw[bM fun z=>J.nq (by rw[<-z];exact q)];exact e
 have pq:∀c∈cs,c.q∈iE cs/\c.pl∈iE cs:=fun c hc=>⟨dY _ (av.mpr ⟨c,hc,rfl⟩),aB _ (av.mpr ⟨c,hc,rfl⟩)⟩;exact⟨kp J.hw (by intro _ z;cases z),⟨bX,hd.mono fun p g e=>kp e (by intro _ z;cases z)⟩,⟨kp J.hc.hd (by intro _ z;cases z),fun c hc=>kq (pq c hc).1 (J.hc.r.ht c hc),fun c hc=>⟨kq (pq c hc).2 (J.hc.r.hg c hc).hl,(J.hc.r.hg c hc).r.mono fun p g e=>kp e (by intro _ z;cases z)⟩,J.hc.r.nd⟩,J.ap,J.nw,J.nq⟩
theorem KJ.oR(J:KJ F wd cd ql H ps qu cs fr)(hc:yL H' cd ds)(pc:iE ds=iE cs)(k:∀b u,H b=some u->b∉iE cs->H' b=some u):KJ F wd cd ql H' ps qu ds fr:=by
 have tp:∀{b xs},H b=some (.tup xs)->b∉iE cs:=fun{b xs} e z=>by obtain⟨o,ho,n⟩:=J.there (b:=b) (by simp[z]);rw[e]at ho;exact n xs (aq ho).symm
 refine⟨k _ _ J.hw fun z=>?_,⟨k _ _ J.hq.hl J.nq,J.hq.r.mono fun p g e=>k _ _ e (tp e)⟩,hc,by rw[pc];exact J.ap,J.nw,by rw[pc];exact J.nq⟩;rcases ao.mp z with q|q
 ·obtain⟨c,hc,e⟩:=av.mp q;have:=J.hc.r.ht c hc;rw[e,J.hw]at this;cases this
 ·obtain⟨c,hc,e⟩:=av.mp q;have:=(J.hc.r.hg c hc).hl;rw[e,J.hw]at this;cases this
theorem KJ.put(J:KJ F wd cd ql H ps qu cs fr):KJ F wd cd ql (upd H wd (.dK (Au GD ql))) ps qu cs GD:=by
 have kp:∀{b o},H b=some o->(∀xs,o≠.dK xs)->upd H wd (.dK (Au GD ql)) b=some o:=fun{b o} e n=>by rw[bM fun z=>by rw[z,J.hw]at e;exact n _ (aq e).symm];exact e
 exact⟨bX,⟨kp J.hq.hl (by intro _ z;cases z),J.hq.r.mono fun p g e=>kp e (by intro _ z;cases z)⟩,⟨by rw[bM J.nw.symm];exact J.hc.hd,fun c hc=>kp (J.hc.r.ht c hc) (by intro _ z;cases z),fun c hc=>⟨kp (J.hc.r.hg c hc).hl (by intro _ z;cases z),(J.hc.r.hg c hc).r.mono fun p g e=>kp e (by intro _ z;cases z)⟩,J.hc.r.nd⟩,J.ap,J.nw,J.nq⟩
end
structure RJ(C:Cl)(H0:Hp)(D D':TD)(t:Int)(wd cd ql sl:Addr)(yG:List Addr)(DH:List CR)(H:Hp)(i:Nat)(Di:TD)(ps:List Addr)(qu:List D2)(cs:List CR):Prop where
 K:RK C H0 D.foot {D' with tm:=t} wd cd ql sl yG (D'.gs.drop D.gs.length) DH H ps qu cs Di.fr
 R:Runs t Di D'
 L:LI Di qu cs t
 gl:Di.gs.length=D.gs.length+i
 tm:Di.tm=D.tm
structure rL(C:Cl)(wd cd ql:Addr)(H:Hp)(D:TD)(ps:List Addr)(qu:List D2)(cs:List CR):Prop where
 O:bW C H D
 L:LI D qu cs D.tm
 J:KJ D.foot wd cd ql H ps qu cs D.fr
theorem rL.same{C:Cl}{wd cd ql:Addr}{H H':Hp}{D:TD}{ps:List Addr}{qu:List D2}{cs:List CR}(h:rL C wd cd ql H D ps qu cs)(s:bE H H'):rL C wd cd ql H' D ps qu cs:=⟨h.O.same s,h.L,h.J.keep fun b o _ e=>s _ _ e⟩
structure nj(wd cd ql:Addr)(H:Hp)(D:TD)(cs:List CR)(H':Hp)(D':TD)(ds:List CR):Prop where
 p:D'.p=D.p
 mo:D'.most=D.most
 nm:D'.ns.map (·.nm)=D.ns.map (·.nm)
 fr:∀b o,H b=some o->b∉D.foot->b∉wd::cd::ql::iE cs->H' b=some o/\b∉D'.foot/\b∉wd::cd::ql::iE ds
theorem nj.same{wd cd ql:Addr}{H H' Az:Hp}{D D':TD}{cs ds:List CR}(h:nj wd cd ql H D cs H' D' ds)(s:bE H' Az):nj wd cd ql H D cs Az D' ds:=⟨h.p,h.mo,h.nm,fun b o e n1 n2=>by obtain⟨a,b⟩:=h.fr b o e n1 n2;exact⟨s _ _ a,b⟩⟩
theorem nj.on{wd cd ql:Addr}{H H' Az:Hp}{D D' Wi:TD}{cs ds es:List CR}(h:nj wd cd ql H D cs H' D' ds)(g:nj wd cd ql H' D' ds Az Wi es):nj wd cd ql H D cs Az Wi es:=⟨g.p.trans h.p,g.mo.trans h.mo,g.nm.trans h.nm,fun b o e n1 n2=>by obtain⟨a,b,c⟩:=h.fr b o e n1 n2;exact g.fr _ _ a b c⟩
theorem nj.rfl' {wd cd ql:Addr}{H:Hp}{D:TD}{cs:List CR}:nj wd cd ql H D cs H D cs:=⟨rfl,rfl,rfl,fun _ _ e n1 n2=>⟨e,n1,n2⟩⟩
inductive E3(C:Cl)(vs:List V)(H:Hp)(Q:VK)(E:XK):Prop|mk (D:TD) (wd cd ql:Addr) (ps:List Addr) (qu:List D2) (cs:List CR) (t:Int) (h1:vs=[.ref D.p,.ref wd,.ref cd,.int t]) (h2:rL C wd cd ql H D ps qu cs) (h3:(D.tm<=t/\t<=1000000000000)) (h4:∀D' wq As ds H',rL C wd cd ql H' D' wq As ds->nj wd cd ql H D cs H' D' ds->D'.tm=t->D'.ct=D.ct->Q (.bl true) H'):E3 C vs H Q E
include T in
theorem zpy:sM P w K mg base (fJ P w) 11 "_law_until" ["_law_tree","_law_world","_law_curbs","_law_at"] (E3 (⟨cQ,cX,cV,cF,cA,dA⟩:Cl)):=by
 have xE:=zpw P w base T;have oW:=znq P w base T;have jb:=VD P w base T;have uy:=zma P w base T;have mW:=zqv P w base T;have yM:=zqw P w base T;refine T.u8.okN (k:=10) eY (fun vs H Q E h=>?_) (fun f dF A outer s H vs Q E hr h=>?_)
 ·obtain⟨D,wd,cd,ql,ps,qu,cs,t,rfl,_⟩:=h;rfl
 ·obtain⟨D,wd,cd,ql,ps,qu,cs,t,rfl,⟨O,L,J⟩,tt,k⟩:=h;refine⟨_,(dJ (ju (i:=4) eY.nd rfl (Ct (Qv K rfl) rfl T.uV boot_len (aS (yK (d7:=[]) oW (by simp) T.aH (hr.mono (by decide)) bj (pv 0)) bP))) (dJ (ju (i:=5) eY.nd rfl (Ct (Zz rfl) rfl T.A1 boot_max (aS (sI (dS hr) (pv 1) lF (fun _ _=>rfl)) (aS (yK (d7:=[]) jb (by simp) T.aH (hr.mono (by decide)) bj (pv 0)) bP)))) (dJ (jV (iB (d7:=[]) xE (by simp) T.aH (hr.mono (by decide)) bj (pv 0) (aS (pv 3) bP))) (dJ (ju (i:=6) eY.nd rfl (sI (dS hr) (pv 1) lF (fun _ _=>rfl))) (dJ (DS PassesOwn.never rfl (yr K rfl (OG (OL K rfl) (yK (d7:=[]) oW (by simp) T.aH (hr.mono (by decide)) bj (pv 0)) (LX (pv 4)) QH)) (LY (n:=3) K rfl rfl (Cs (nX (i:=7) eY.nd rfl (by first|left;rfl|right;rfl)) (Cs (nX (i:=8) eY.nd rfl (by first|left;rfl|right;rfl)) (Cs (nX (i:=9) eY.nd rfl (by first|left;rfl|right;rfl)) LV)))) (dJ (dw (PW.pt (pw_or (jG (VS K rfl hr.units) (pv 6) (Ab bP) (jH _)) (pw_or (jG zH (bu (lE K rfl) (bu (kK K rfl) (pv 6) bU (fun _ _=>rfl)) bU (fun _ _=>rfl)) (pv 8) (jH _)) (OV (jG zH (pv 9) lF (jH _)))))) (dD (gZ jM)) jP) (dJ (dw (PW.pt (pw_or (jG nJ (pv 7) (pv 5) (jH _)) (OV (jG NE (pv 7) (pv 3) (jH _))))) (dD (gZ jM)) jP) (dJ (ju (i:=10) eY.nd rfl (bu (lE K rfl) (nK bH Aj Ak Z8 (pv 6) (aS bU bP)) bU (fun _ _=>rfl))) (dJ (dw (DR (Cv (kB mW (hr.mono (by decide)) rfl bj (aS (pv 2) (aS (pv 7) (aS (pv 10) bP)))))) (dD (gZ jM)) jP) (dJ (dw (PW.pt (F8 (jG zG (pv 7) (pv 5) (jH _)) (Ji (Cv (kB mW (hr.mono (by decide)) rfl bj (aS (pv 2) (aS (aT Ff (pv 7) bU) (aS (pv 10) bP)))))))) (dD (gZ jM)) jP) (dJ (dw (DR (Cv (kB yM (hr.mono (by decide)) rfl bj (aS (pv 2) (aS (pv 7) (aS (pv 10) bP)))))) (dD (gZ jM)) jP) (dJ (ju (i:=5) eY.nd rfl (aT sJ (pv 7) (pv 10))) (dD (Du (dS hr) (pv 1) lF (pv 5) rfl)))))))))) (dJ (dw (PW.pt (F8 (jG (zzk K rfl hr.units) (pv 6) (Ab bP) (jH _)) (F8 (jG nJ (pv 5) (pv 3) (jH _)) (Ji (Cv (kB mW (hr.mono (by decide)) rfl bj (aS (pv 2) (aS (aT Ff (pv 3) bU) (aS (bu (lE K rfl) (bu (kK K rfl) (pv 6) bU (fun _ _=>rfl)) bU (fun _ _=>rfl)) bP))))))))) (dD (gZ jM)) jP) (dD (gZ (LW (VS K rfl hr.units) (iB (d7:=[]) uy (by simp) T.aH (hr.mono (by decide)) bj (pv 0) (aS lF bP)) (nM ["_law_entry"] [] rfl (by with_unfolding_all rfl) (by decide+kernel) rfl (by decide+kernel) (by exact bB) (by with_unfolding_all rfl) bB (yr K rfl (pv 6)) (fun _ _ _=>(nX (i:=0) (show(["_law_entry"]:List Str).Nodup from by decide+kernel) rfl (by first|left;rfl|right;rfl))) (fun _ _ _=>Lb) (fun _ _ _=>(bu (lE K rfl) (pv 0) bU (fun _ _=>rfl)))) (jH _)))))))))),?_⟩;show dW _ _ _ [some (.ref D.p),some (.ref wd),some (.ref cd),some (.int t),none,none,none,none,none,none,none] H;have gl:D.gs.length<=900:=by have:=L.dy.yV;omega
  have t0:=L.t0;have f0:=L.f0;obtain⟨dx,fs,hp,ft⟩:=O.ex;walk_at"s";refine ig hp (nW ft _) ⟨D,rfl,O,gl,fun l yG H1 s1 fl hl Pq _=>?_⟩;refine V9 (.of hl) (hR _ _ ?_);clear hR;rw[ai,Pq.length];have O1:=O.same s1;have J1:=J.keep fun b o _ e=>s1 _ _ e;clear hp ft;obtain⟨dx,fs,hp,ft⟩:=O1.ex;walk_at"s";refine⟨_,J1.free,ig hp (nW ft _) ⟨D,rfl,O1,⟨_,rfl,_,rfl,hR _ _ ?_⟩⟩⟩;clear hR;rw[show(if D.tm > D.fr then D.tm else D.fr)=max D.fr D.tm by split <;> omega];walk_at"s";refine ig hp (nW ft _) ⟨D,t,6,rfl,O1,L.dy,⟨by omega,by omega,by omega,by omega⟩,trivial,fun z=>absurd z (by omega),fun _ D' H2 rn ef O2 d2=>hR _ _ ?_⟩;clear hR hp ft;have J2:=J1.kW O1 d2;have L1:=L.later tt.1;obtain⟨⟨_,_,Pc⟩,e1,e2,e3,e4,e5⟩:=L1.runs (by omega) rn;have gl2:D'.gs.length<=120:=by obtain⟨_,Y,_⟩:=Pc.Y;have:=Y.yV;omega
  have f2:∀b o,H b=some o->b∉D.foot->b∉wd::cd::ql::iE cs->H2 b=some o:=fun b o e n _=>d2 b o n (s1 _ _ e);clear Pc d2 s1 J1 O1;walk_at"s";refine⟨_,J2.Xu,hR _ _ ?_⟩;clear hR;obtain⟨dx,fs,hp,ft⟩:=O2.ex;have hp:H2 D.p=some (.ins dA dx fs):=by rw[<-e2];exact hp
  refine bJ fun R hR=>?_;refine DM fun Z hZ=>?_;walk_at"rd";refine ig hp (nW ft _) ⟨{D' with tm:=t},by rw[<-e2],O2,by show D'.gs.length<=900;omega,fun l yG H3 s3 fl hl Pq _=>?_⟩;refine OW (.of hl) fun sl Ia=>?_;obtain⟨m,em⟩:=Runs.pre rn;have WC:yG.length=D'.gs.length:=Pq.length;rw[zsh _ _ (by rw[ai,WC,em,bg];omega),<-Af];have s4:=fV (o:=.lst ((yG.drop D.gs.length).map V.ref)) Ia;refine⟨sl,rfl,⟨_,.of bX⟩,hZ _ _ ?_⟩;clear hZ;have J3:=J2.keep fun b o _ e=>s3 _ _ e;have B:RJ (⟨cQ,cX,cV,cF,cA,dA⟩:Cl) H D D' t wd cd ql sl (yG.drop D.gs.length) cs (upd H3 sl (.lst ((yG.drop D.gs.length).map V.ref))) 0 D ps qu cs:=⟨⟨(O2.same s3).same s4,ef,J3.keep fun b o _ e=>s4 _ _ e,bX,zsj (Hy (fun _ _ z=>s4 _ _ z) Pq) _,rfl,fun b o e n1 n2=>s4 _ _ (s3 _ _ (f2 b o e n1 n2)),fun z=>by obtain⟨o,ho,_⟩:=J3.there z;rw[Ia]at ho;cases ho⟩,rn,L1,rfl,rfl⟩;have gdl:(yG.drop D.gs.length).length+D.gs.length=D'.gs.length:=by rw[jK,WC,em,bg];omega
  generalize upd H3 sl (.lst ((yG.drop D.gs.length).map V.ref))=H4 at B⊢;generalize yG.drop D.gs.length=Pp at B gdl⊢;clear s4 Ia J3 J2 s3 hl fl O2 f2 hp ft;refine Hz (K:=K) (a:=sl) (xs:=Pp.map V.ref) (fun i σ H'=>∃Di EH qi FD v7 v8 v9 Ox,σ=[some (.ref D.p),some (.ref wd),some (.ref cd),some (.int t),some (.int D.gs.length),some (.int (max Di.fr D.tm)),some (.ref ql),v7,v8,v9,Ox]/\RJ (⟨cQ,cX,cV,cF,cA,dA⟩:Cl) H D D' t wd cd ql sl Pp cs H' i Di EH qi FD) ⟨D,ps,qu,cs,none,none,none,none,rfl,B⟩ (fun i σ H' _⟨_,_,_,_,_,_,_,_,_,h⟩=>.of h.K.hs) ?_ ?_
  ·rintro i w0 σ H5 hv ⟨Di,EH,qi,FD,v7,v8,v9,Ox,rfl,B⟩;obtain⟨p,hp,rfl⟩:∃p,Pp[i]?=some p/\V.ref p=w0:=by
    rw[aP]at hv;cases e:Pp[i]? with
    |none=>rw[e]at hv;cases hv
    |some z=>rw[e]at hv;exact⟨z,rfl,aq hv⟩
   obtain⟨g3,hg,ht⟩:=V3 B.K.gp hp;rw[List.getElem?_drop,<-B.gl]at hg;obtain⟨a,x,pre,g,q,nx,Ph,G,R',rfl⟩:=Runs.next B.R hg;obtain⟨rfl,r,rfl,gb,zj,st⟩:=B.L.step nx Ph (by omega) G;refine⟨p,_,rfl,.of ht,rfl,?_⟩;refine⟨_,_,rfl,_,_,rfl,_,_,rfl,rfl,?_⟩;show dW _ _ _ [some (.ref D.p),some (.ref wd),some (.ref cd),some (.int t),some (.int D.gs.length),some (.int (max Di.fr D.tm)),some (.ref ql),some (.int a),some (.int g.1),some (.str dM),Ox] H5;refine Bj fun N hN=>?_;have ge:=nx.ge;rw[B.tm]at ge;walk_at"s";intro p5 f5;have B5:=B.K.same (fV (o:=.lst []) f5);refine Ej B5.J.hq.deep (.lst (.of bX) .nil) (Y8 _) (by decide) ⟨_,rfl,?_⟩;rw[zwd,if_neg (by simp)];obtain⟨p0,ya,rfl⟩:∃p0 ya,EH=p0::ya:=by
    have:=Paired.length B.K.J.hq.r;cases EH with
    |nil=>cases this
    |cons a b=>exact⟨_,_,rfl⟩
   obtain⟨h0,M6⟩:H5 p0=some (.tup (d2 g))/\jj H5 ya r:=by
    cases B.K.J.hq.r with
    |cons a b=>exact⟨a,b⟩
   refine vD (.of B5.J.hq.hl) (v:=.ref p0) (F7 (xs:=(p0::ya).map V.ref) (j:=0) rfl) (lG (.of (fV f5 _ _ h0)) (v:=.int g.1) rfl ⟨rfl,?_⟩);rw[if_pos rfl,if_pos (show dM=Str.ofString "leaf"from rfl)];refine hR _ _ ?_;clear hR;have h0:=fV (o:=.lst []) f5 _ _ h0;have M6:=M6.same (fV (o:=.lst []) f5);generalize upd H5 p5 (.lst [])=H6 at B5 h0 M6⊢;have RU:=B.gl;have Wq:=B.tm;have Lq:=B.L.ok;have gdi:Di.gs.length<=120:=by obtain⟨_,Y,_⟩:=B.L.Y;have:=Y.yV;omega
   have rest:=B.L.may (u:=a-1);clear f5 ht hg hp hv B;walk_at"s";rw[if_neg (by omega),if_neg (by omega)];refine hR _ _ ?_;clear hR;walk_at"s";refine⟨Fg B5.J.hq.hl,ql,_,0,0,.ref p0,rfl,rfl,B5.J.hq.hl,by decide,by decide,by unfold seqIndex?;simp,rfl,lG (.of (by rw[bM (fun z=>by rw[z,B5.J.hq.hl]at h0;cases h0)];exact h0)) (v:=.int g.2) rfl (hR _ _ ?_)⟩;clear hR h0;have B6:=B5.on (H':=upd H6 ql (.lst (ya.map V.ref))) (fun b o e n=>by rw[bM (fun z=>n (by simp[z]))];exact e) (B5.J.pop M6) rfl;show dW _ _ _ _ (upd H6 ql (.lst (ya.map V.ref)));generalize upd H6 ql (.lst (ya.map V.ref))=H7 at B6⊢;clear B5 M6;have zc:∀c∈FD,c.Sz:=fun c hc=>(Lq c hc).z;walk_at"s";refine⟨cd,FD,a,g.2,rfl,B6.J.hc,zc,⟨by omega,by omega⟩,⟨by omega,gb.2⟩,fun H8 s8=>⟨fun _=>?_,fun⟨c,hc,z⟩=>absurd (zj c hc).1 (by omega)⟩⟩;refine⟨true,rfl,?_⟩;rw[if_neg (by decide)];refine hR _ _ ?_;clear hR;have B7:=B6.same s8;clear B6 s8;refine bJ fun R hR=>?_;have on:∀H9,bE H8 H9->R [some (.ref D.p),some (.ref wd),some (.ref cd),some (.int t),some (.int D.gs.length),some (.int (max Di.fr D.tm)),some (.ref ql),some (.int a),some (.int g.1),some (.str dM),some (.int g.2)] H9:=fun H9 s9=>hR _ _ (by clear hR;have B9:=B7.same s9;clear B7 s9;walk_at"s";refine⟨cd,FD,a,g.2,rfl,B9.J.hc,fun c hc=>⟨zc c hc,(Lq c hc).py,by have:=(Lq c hc).ln;omega,(Lq c hc).pb,(zj c hc).2,(zj c hc).1⟩,⟨by omega,by omega⟩,⟨by omega,gb.2⟩,fun Js ds pd MO SW=>⟨true,rfl,?_⟩⟩;rw[if_neg (by decide)];refine hR _ _ ?_;clear hR;have kd:=pd.keys;have QW:=B9.on (fun b o e n=>SW b o e fun z=>n (by rw[B9.pc]at z;simp[z])) (B9.J.oR MO kd.2 SW) kd.2;clear MO SW B9;walk_at"s";refine hR _ _ ?_;clear hR;walk_at"rd";refine⟨_,lW.k (k:=aC (Str.ofString "free")) QW.J.hw (show 2<sizeLine by decide),hN _ _ ?_⟩;rw[Vu];refine⟨_,ya,r,ds,_,_,_,_,by rw[show max (Di.step (fk Di a) (dM::pre) dM a g q).fr D.tm=a+g.2 from Int.max_eq_left (show D.tm<=a+g.2 by omega)],QW.on (fun b o e n=>by rw[bM (fun z=>n (by simp[z]))];exact e) QW.J.put rfl,R',st q ds pd,?_,Wq⟩;show(Di.gs++[_]).length=_;rw[bg,RU];rfl)
   clear hR;walk_at"rd";exact fE (fun c=>⟨cd,FD,a-1,g.2,rfl,B7.J.hc,zc,⟨by omega,by omega⟩,⟨by omega,gb.2⟩,fun H9 s9=>⟨fun al=>absurd (nx.le _ (a-1) (by rw[Wq];omega) (by omega) (rest.mpr al)) (by omega),fun _=>⟨false,rfl,by rw[if_neg (by decide)];exact on H9 s9⟩⟩⟩) fun _=>on H8 fun _ _ e=>e
  ·rintro σ H5 ⟨Di,EH,qi,FD,v7,v8,v9,Ox,rfl,B⟩;refine hR _ _ ?_;clear hR;have RU:=B.gl;rw[ai]at RU;obtain⟨rfl,rest⟩:=Runs.last B.R (by omega);have tme:=B.tm;refine bJ fun R hR=>?_;have on:∀H6,bE H5 H6->R [some (.ref D.p),some (.ref wd),some (.ref cd),some (.int t),some (.int D.gs.length),some (.int (max D'.fr D.tm)),some (.ref ql),v7,v8,v9,Ox] H6:=fun H6 s6=>hR _ _ (by
    clear hR;have B6:=B.K.same s6;obtain⟨n,hn,Sb,LJ⟩:=B.L.lf;obtain⟨dx,fs,hp,ft⟩:=B6.O.ex;have hp:H6 D.p=some (.ins dA dx fs):=by rw[<-e2];exact hp
    have NN:∀m∈D'.ns,m.ps.length<=900:=fun m hm=>by have:=(B6.O.nd m hm).qu.r.len;have:=ZT hm;obtain⟨_,Y,_⟩:=B.L.Y;have:=Y.yV;omega
    walk_at"rd";refine ig hp (nW ft _) ⟨{D' with tm:=t},dM,by rw[<-e2];rfl,B6.O,NN,fun z=>absurd (z.resolve_left (by decide+kernel)) (by show ¬aU D'.ns dM=none;rw[hn];simp),fun _ m hm z=>(by rw[show aU D'.ns dM=some m from hm]at hn;cases hn;exact absurd Sb z),fun _ m hm _ l6 H7 s7 f7 PB=>?_⟩;rw[show aU D'.ns dM=some m from hm]at hn;cases hn
    have B7:=B6.same s7;have pql:=Paired.length B7.J.hq.r;have qle:qi.length<=900:=by have:=NN n (iD hm).1;have:=(B6.O.nd n (iD hm).1).qu.r.len;rw[LJ]at this;omega
    refine⟨⟨_,.of B7.J.hq.hl⟩,fun L8 WM=>?_⟩;refine Jf (K:=K) (a:=ql) (xs:=EH.map V.ref) (fun i τ H'=>(∃v0,τ=[v0])/\bE H7 H'/\H' L8=some (.lst (((qi.take i).map (·.1)).map V.int))) ⟨⟨none,rfl⟩,fV WM,bX⟩ (fun i τ H' _ h=>.of (h.2.1 _ _ B7.J.hq.hl)) ?_ ?_
    ·rintro i w0 τ H8 hv ⟨⟨v0,rfl⟩,s8,GF⟩;obtain⟨p,CQ,rfl⟩:∃p,EH[i]?=some p/\V.ref p=w0:=by
      rw[aP]at hv;cases e:EH[i]? with
      |none=>rw[e]at hv;cases hv
      |some z=>rw[e]at hv;exact⟨z,rfl,aq hv⟩
     obtain⟨g,hg,ht⟩:=V3 B7.J.hq.r CQ;walk_at"rd";simp only[yo,if_true];walk_at"rd";refine lG (.of (s8 _ _ ht)) (v:=.int g.1) rfl ?_;refine⟨_,GF,Cu (by rw[ai,ai,aY];omega),fun b u' e=>?_,?_⟩
     ·rw[bM (i8 e WM)];exact s8 _ _ e
     ·rw[bX,Dt hg,aA,aA];rfl
    ·rintro τ H8 ⟨_,s8,GF⟩;rw[ai,pql,bF]at GF;have Sl:=s8 _ _ PB;have B8:=B7.same s8;unfold IA at Sl;rw[LJ]at Sl;exact zzl (d:=.list ((qi.map (·.1)).map PyData.int)) (.lst (.of Sl) (VE _)) (.lst (.of GF) (VE _)) (zqx _) (k {D' with tm:=t} EH qi FD H8 ⟨B8.O,B.L.stop,by rw[show({D' with tm:=t}:TD).foot=D.foot from ef];exact B8.J⟩ ⟨e2,e4,e5,fun b o e n1 n2=>⟨B8.fr b o e n1 n2,by rw[show({D' with tm:=t}:TD).foot=D.foot from ef];exact n1,by rw[B8.pc];exact n2⟩⟩ rfl e3))
   clear hR;walk_at"rd";intro p6 f6;have s6:=fV (o:=.lst []) f6;have B6:=B.K.same s6;refine No B6.J.hq.deep (.lst (.of bX) .nil) (Y8 _) (by decide) ⟨_,rfl,?_⟩;rw[zwd];cases qi with
   |nil=>exact on _ s6
   |cons g r=>
    obtain⟨p0,ya,rfl⟩:∃p0 ya,EH=p0::ya:=by
     have:=Paired.length B6.J.hq.r;cases EH with
     |nil=>cases this
     |cons a b=>exact⟨_,_,rfl⟩
    have h0:upd H5 p6 (.lst []) p0=some (.tup (d2 g)):=by
     cases B6.J.hq.r with
     |cons a b=>exact a
    have zc:∀c∈FD,c.Sz:=fun c hc=>(B.L.ok c hc).z;rw[if_pos (by simp)];refine fE (fun c=>?_) fun _=>on _ s6;obtain⟨n,hn,_,LJ⟩:=B.L.lf;obtain⟨_,Y,_⟩:=B.L.Y;have gb:=Y.qu n (iD hn).1 g (by rw[LJ];exact aj ..);have m6:=Y.W.m1.2;refine vD (.of B6.J.hq.hl) (v:=.ref p0) (F7 (xs:=(p0::ya).map V.ref) (j:=0) rfl) (lG (.of h0) (v:=.int g.2) rfl ?_);exact⟨cd,FD,t-1,g.2,rfl,B6.J.hc,zc,⟨by omega,by omega⟩,⟨by omega,by omega⟩,fun H9 s9=>⟨fun al=>absurd (rest _ (t-1) (by rw[tme];omega) (by omega) (B.L.may.mpr al)) (by omega),fun _=>⟨false,rfl,by rw[if_neg (by decide)];exact on H9 (s6.trans s9)⟩⟩⟩
theorem NL{K:aa}{H:Hp}{t:Addr}{i:Int}{Q:VK}(xs:List V)(h0:0<=i)(h1:i<xs.length)(k:∀v∈xs,Q v (upd H t (.lst xs))):yb K (.ref t) (.int i) (upd H t (.lst xs)) Q:=by have e:=F7 (xs:=xs) (j:=i.toNat) (v:=xs[i.toNat]'(by omega)) (bK (by omega));rw[rO h0]at e;exact vD (.of bX) e (k _ (g6 _))
theorem EG{K:aa}{H:Hp}{p:Addr}{i:Int}{Q:VK}(xs:List V)(f:H p=none)(h0:0<=i)(h1:i<xs.length)(k:∀v∈xs,∀H',bE H H'->Q v H'):yb K (.ref p) (.int i) (upd H p (.lst xs)) Q:=NL xs h0 h1 fun v hv=>k v hv _ (fV f)
theorem VQ{D:TD}{n n':ND}{Pb:Addr->Prop}(eZ:n∈D.ns)(hf:∀b∈n'.foot,b∈n.foot\/Pb b):∀b∈TD.foot {D with ns:=cu D.ns n'},b∈D.foot\/Pb b:=by
 intro b hb;unfold TD.foot at hb;rcases ak.mp hb with z|hb
 ·exact .inl (z▸aj ..)
 rcases ak.mp hb with z|hb
 ·exact .inl (z▸ae _ (aj ..))
 rcases ak.mp hb with z|hb
 ·exact .inl (z▸ae _ (ae _ (aj ..)))
 obtain⟨y,hy,z⟩:=dR.mp hb;rcases Jg hy with q|q
 ·rw[q]at z;exact(hf b z).imp (fun w=>TD.e8 eZ w) id
 ·exact .inl (TD.e8 q.1 z)
theorem KJ.A6{F F':List Addr}{wd cd ql:Addr}{H:Hp}{ps:List Addr}{qu:List D2}{cs:List CR}{fr:Int}(J:KJ F wd cd ql H ps qu cs fr)(h:∀b∈F',b∈F\/H b=none):KJ F' wd cd ql H ps qu cs fr:=⟨J.hw,J.hq,J.hc,fun b hb z=>(h b z).elim (J.ap b hb) fun q=>(by obtain⟨o,ho,_⟩:=J.there hb;rw[q]at ho;cases ho),J.nw,J.nq⟩
theorem FO{K:aa}{H:Hp}{l:Addr}{xs:List Int}{Q:VK}(i:Nat)(hl:H l=some (.lst (xs.map V.int)))(hi:i<xs.length)(k:Q (.int (xs[i]'hi)) H):yb K (.ref l) (.int (i:Int)) H Q:=vD (.of hl) (F7 (by rw[aP,bK hi];rfl)) k
inductive IK(C:Cl)(vs:List V)(H:Hp)(Q:VK)(E:XK):Prop|mk (D:TD) (x:Str) (xl:Addr) (xs:List Int) (h1:vs=[.ref D.p,.str x,.ref xl]) (h2:bW C H D) (h3:D.Wf) (h4:x≠road) (h5:aU D.ns x≠none) (h6:H xl=some (.lst (xs.map V.int))) (h7:6<=xs.length) (h8:∀H',bE H H'->Q (.bl true) H'):IK C vs H Q E
include T in
theorem zmb:sM P w K mg base (fJ P w) 6 "_law_no_curb" ["_law_tree","_law_name","_law_xs"] (IK (⟨cQ,cX,cV,cF,cA,dA⟩:Cl)):=by
 have mY:=Zj P w base T;refine T.sA.okN (k:=5) zkp (fun vs H Q E h=>?_) (fun f dF A outer s H vs Q E hr h=>?_)
 ·obtain⟨D,x,xl,xs,rfl,_⟩:=h;rfl
 ·obtain⟨D,x,xl,xs,rfl,O,W,nr,hx,hl,l6,k⟩:=h;refine⟨_,(dJ (U9 rfl rfl K rfl rfl rfl T.jU rfl T.lO (fun _ _=>(dD (jV (iB (d7:=[]) mY (by simp) T.aH (hr.mono (by decide)) NG (pv 0) (aS (pv 1) (aS (aT Ff (QK K rfl (pv 0) rfl) (aT rC (bu (kK K rfl) (pv 2) bU (fun _ _=>rfl)) bU)) (aS (yt (aS (aT sY (aT Ff (aT rC (bu (kK K rfl) (pv 2) bU (fun _ _=>rfl)) bU) bU) (aT rC (bu (kK K rfl) (pv 2) bU (fun _ _=>rfl)) bU)) (aS bU bP))) bP))))))) (fun _=>(dD (gZ jM)))) (dD (gZ jM))),?_⟩;show dW _ _ _ [some (.ref D.p),some (.str x),some (.ref xl)] H;obtain⟨dx,fs,hp,ft⟩:=O.ex;walk_at"s";have r0:=aW (xs[3]'(by omega)) (show(2:Int)≠0 by decide);have r1:=aN (xs[3]'(by omega)) (show(0:Int)<2 by decide);have r2:=aW (xs[4]'(by omega)) (show(3:Int)≠0 by decide);have r3:=aN (xs[4]'(by omega)) (show(0:Int)<3 by decide);have sz:∀{y:Int},-10<=y->y<=10->Sw.Sz 5000 y:=fun{y} a b=>(show Sw.Sz 70 y from Sw.Sz.sf (by omega) (by omega)).mono (by decide);refine ig hp (nW ft _) (eL hp T.aH T.eA ft.mo (FO 3 hl (by omega) ⟨_,rfl,_,rfl,FO 3 hl (by omega) ⟨_,rfl,FO 4 hl (by omega) ⟨_,rfl,⟨sz (by omega) (by omega),sz (by omega) (by omega)⟩,fun p fp=>?_⟩⟩⟩));generalize(xs[3]'(by omega)) % 2=a at r0 r1⊢;generalize(xs[4]'(by omega)) % 3=b at r2 r3⊢;have bd:(a-1)*b<=0\/a=1:=by
   rcases(show a=0\/a=1 by omega)with q|q
   ·left;rw[q];omega
   ·exact .inr q
  have nb:-10<=(a-1)*b/\(a-1)*b<=10:=by rcases(show a=0\/a=1 by omega)with q|q <;> rw[q] <;> omega
  have s1:=fV (o:=.tup [V.int ((a-1)*b),V.int 1]) fp;refine⟨D,x,D.most-a,p,(((a-1)*b:Int):Rat),rfl,O.same s1,W,bX,?_,fun z=>absurd (z.resolve_left nr) hx,fun _ _ _ e he=>⟨e,rfl,cH,bX,T.qZ,k _ (s1.trans (fV he))⟩,fun _ z=>?_⟩
  ·exact Sw.fP.int (z:=4999) (sz nb.1 nb.2)
  ·exfalso;have:=uf.mp z.2.2;have:0<(a-1)*b:=this;omega
inductive EW(C:Cl)(vs:List V)(H:Hp)(Q:VK)(E:XK):Prop|mk (D:TD) (wd cd ql:Addr) (ps:List Addr) (qu:List D2) (cs:List CR) (xl:Addr) (xs:List Int) (h1:vs=[.ref D.p,.ref wd,.ref xl]) (h2:rL C wd cd ql H D ps qu cs) (h3:D.ct<=117) (h4:H xl=some (.lst (xs.map V.int))) (h5:6<=xs.length) (h6:xl∉D.foot) (h7:xl∉wd::cd::ql::iE cs) (h8:∀D' wq As H',rL C wd cd ql H' D' wq As cs->nj wd cd ql H D cs H' D' cs->D'.tm=D.tm->D'.ct<=D.ct+3->Q .cy H'):EW C vs H Q E
include T in
theorem znw:sM P w K mg base (fJ P w) 4 "_law_pieces" ["_law_tree","_law_world","_law_xs"] (EW (⟨cQ,cX,cV,cF,cA,dA⟩:Cl)):=by
 have yO:=zqt P w base T;refine T.tV.okN (k:=3) kh (fun vs H Q E h=>?_) (fun f dF A outer s H vs Q E hr h=>?_)
 ·obtain⟨D,wd,cd,ql,ps,qu,cs,xl,xs,rfl,_⟩:=h;rfl
 ·obtain⟨D,wd,cd,ql,ps,qu,cs,xl,xs,rfl,B,c1,hl,l6,nx,nw,k⟩:=h;refine⟨_,(dD (DS PassesOwn.never rfl (Zx rfl T.zC (aS (aT sJ bU (aT rC (bu (kK K rfl) (pv 2) bU (fun _ _=>rfl)) bU)) bP)) (nX (i:=3) kh.nd rfl (by first|left;rfl|right;rfl)) (dJ (ju (i:=4) kh.nd rfl (bu (kK K rfl) (Ab (aS (aT sJ bU (aT rC (bu (kK K rfl) (pv 2) (aT sJ bU (pv 3)) (fun _ _=>rfl)) (eT (pv 0) rfl))) (aS (eT (pv 0) rfl) (aS (aT sJ bU (aT rC (bu (kK K rfl) (pv 2) (aT sJ bU (pv 3)) (fun _ _=>rfl)) (Ct (VF rfl) rfl T.x8 boot_min (aS bU (aS (eT (pv 0) rfl) bP))))) bP)))) (aT rC (bu (kK K rfl) (pv 2) bU (fun _ _=>rfl)) bU) (fun _ _=>rfl))) (dD (jV (nK bH dN dO F5 (sI (dS hr) (pv 1) lF (fun _ _=>rfl)) (aS (yt (aS (iB (d7:=[]) yO (by simp) T.aH (hr.mono (by decide)) bj (pv 0) (aS lF (aS (pv 4) bP))) (aS (pv 4) bP))) bP))))))),?_⟩;show K0 _ _ _ _ [some (.ref D.p),some (.ref wd),some (.ref xl),none,none] H;refine DM fun Z hZ=>?_;walk_at"rd";refine nC 1 hl (by omega) fun y1 _=>?_;have c7:=aW y1 (show(3:Int)≠0 by decide);have c8:=aN y1 (show(0:Int)<3 by decide);refine⟨_,rfl,by omega,by omega,hZ _ _ ?_⟩;clear hZ;refine Zy (fun i σ H'=>(∃v3 v4,∃D' wq As,σ=[some (.ref D.p),some (.ref wd),some (.ref xl),v3,v4]/\rL (⟨cQ,cX,cV,cF,cA,dA⟩:Cl) wd cd ql H' D' wq As cs/\nj wd cd ql H D cs H' D' cs/\D'.tm=D.tm/\D'.ct<=D.ct+i)) ⟨none,none,D,ps,qu,rfl,B,nj.rfl',rfl,by omega⟩ ?_ ?_
  ·rintro i σ H2 hi ⟨v3,v4,D1,ya,Tq,rfl,B1,S1,T9,ct1⟩;have i3:i<3:=by omega
   show dW _ _ _ [some (.ref D.p),some (.ref wd),some (.ref xl),some (.int (0+(i:Int))),v4] H2;rw[Int.zero_add];refine Bj fun N hN=>?_;have AO:=(S1.fr _ _ hl nx nw).1;obtain⟨dx,fs,hp,ft⟩:=B1.O.ex;rw[S1.p]at hp;have m1:=B1.L.dy.W.m1;walk_at"s";refine FO (2+i) AO (by omega) (eL hp T.aH T.eA ft.mo ⟨_,rfl,_,rfl,by omega,eL hp T.aH T.eA ft.mo (FO (2+i) AO (by omega) (eL hp T.aH T.eA ft.mo ⟨_,rfl,_,rfl,by split <;> omega,fun p3 f3=>nC 5 (fV f3 _ _ AO) (by omega) fun y5 _=>⟨_,rfl,?_⟩⟩))⟩);refine EG _ f3 (aW _ (by decide)) (aN _ (by decide)) fun sv xV H3 s3=>?_;obtain⟨len,rfl,lb⟩:∃len:Int,sv= .int len/\1<=len/\len<=D1.most:=by
    have e0:=aW (xs[2+i]'(by omega)) (show D1.most≠0 by omega);have e1:=aN (xs[2+i]'(by omega)) (show 0<D1.most by omega);obtain⟨z,ez,z1,z2⟩:∃z:Int,(if D1.most<3 then D1.most else 3)=z/\1<=z/\z<=D1.most:=⟨_,rfl,by split <;> omega,by split <;> omega⟩;rw[ez]at xV;have e2:=aW (xs[2+i]'(by omega)) (show z≠0 by omega);have e3:=aN (xs[2+i]'(by omega)) (show 0<z by omega);simp only[ak,aI,or_false]at xV;rcases xV with q|q|q
    ·exact⟨_,q,by omega⟩
    ·exact⟨_,q,by omega⟩
    ·exact⟨_,q,by omega⟩
   refine hR _ _ ?_;clear hR xV f3 hp ft;have B3:=B1.same s3;have S3:=S1.same s3;clear B1 S1 AO s3;obtain⟨dx,fs,hp,ft⟩:=B3.O.ex;rw[S3.p]at hp;walk_at"rd";obtain⟨n,hn,Sb,LJ⟩:=B3.L.lf;have eZ:=(iD hn).1;have Y:=B3.L.dy;have yV:=Y.yV;have ct3:=B3.L.ct;have NN:∀m∈D1.ns,m.ps.length<=890/\(m.rm= .cy\/∃r,m.rm= .int r):=fun m hm=>⟨by have:=(B3.O.nd m hm).qu.r.len;have:=ZT hm;omega,.inl (B3.L.rm m hm)⟩
   have p1l:ya.length<=890:=by have:=(B3.O.nd n eZ).qu.r.len;have:=Paired.length B3.J.hq.r;have:=(NN n eZ).1;rw[LJ]at*;omega
   refine⟨_,B3.J.Xu,Fg B3.J.hq.hl,ig hp (nW ft _) ⟨D1,dM,len,by rw[S3.p];rfl,B3.O,Y.W,NN,fun z=>absurd (z.resolve_left (by decide+kernel)) (by rw[hn];simp),fun _ m hm z=>(by rw[hn]at hm;cases hm;exact absurd Sb z),fun _ m hm _=>⟨fun z=>absurd lb z,fun _=>⟨fun z=>?_,fun _ qa H4 fqa O4 d4=>fun p fp=>?_⟩⟩⟩⟩
   ·rw[B3.L.rm m (iD hm).1]at z;cases z
   ·rw[hn]at hm;cases hm
    have L4:=B3.L.pF (q:=qa) hn lb (by omega);have Lz:∀b∈(TD.pF D1 n qa len).foot,b∈D1.foot:=fun b hb=>(VQ (D:=D1) (n':={n with ps:=n.ps++[qa],qu:=n.qu++[(D1.ct,len)]}) (Pb:=fun _=>False) eZ (fun b hb=>.inl hb) b hb).resolve_right id;have J4:=(B3.J.kW B3.O d4).A6 fun b hb=>.inl (Lz b hb);have s5:=fV (o:=.tup [V.int D1.ct,V.int len]) fp;have J5:=J4.keep fun b o _ e=>s5 _ _ e;have J6:=J5.pop (jj.app (H:=upd H4 p (.tup [V.int D1.ct,V.int len])) (rs:=[p]) (ss:=[(D1.ct,len)]) (.cons bX .nil) J5.hq.r);refine Lf J5.hq.hl (by rw[ai];omega) (hN _ _ ?_);rw[show ya.map V.ref++[V.ref p]=(ya++[p]).map V.ref by simp];refine⟨_,_,TD.pF D1 n qa len,ya++[p],Tq++[(D1.ct,len)],rfl,⟨(O4.same s5).other (J5.ap ql (by simp)) J5.hq.hl (by intro _ z;cases z),L4,J6⟩,S3.on ⟨rfl,rfl,Lc _ _,fun b o e n1 n2=>⟨?_,fun z=>n1 (Lz b z),n2⟩⟩,T9,by show D1.ct+1<=_;omega⟩;rw[bM (fun z=>n2 (by simp[z]))];exact s5 _ _ (d4 _ _ n1 e)
  ·rintro σ H2 ⟨v3,v4,D1,ya,Tq,rfl,B1,S1,T9,ct1⟩;exact k D1 ya Tq H2 B1 S1 T9 (by omega)
structure QY(cs:List CR)(x:Str)(as bs:List CR):Prop where
 nx:∀c∈as++bs,c.nm≠x
 sub:∀c∈as++bs,c∈cs
 mem:∀c∈cs,c.nm≠x->c∈as++bs
 drop:qz (lB cs) (aC x:Key)=lB (as++bs)
 put:∀c:CR,c.nm=x->fU (lB cs) (aC x:Key) (.ref c.q)=lB (as++c::bs)
 nd:((as++bs).map (·.nm)).Nodup
 pl:(iE (as++bs)).Nodup
theorem V4(as bs:List CR)(c:CR):(iE (as++c::bs)).Perm (c.q::c.pl::iE (as++bs)):=by unfold iE;refine(((jL (l₁:=as) (a:=c) (l₂:=bs)).map (·.q)).append ((jL (l₁:=as) (a:=c) (l₂:=bs)).map (·.pl))).trans ?_;rw[ay,ay,fc];exact List.Perm.cons _ jL
theorem Ef{ds:List CR}{x:Str}(h:∀c∈ds,c.nm≠x):∀kv∈lB ds,kv.1≠(aC x:Key):=fun kv hk e=>by obtain⟨c,hc,rfl⟩:=av.mp hk;exact h c hc (gj e)
theorem V5{ds:List CR}{x:Str}(h:∀c∈ds,c.nm≠x):(lB ds).filter (fun kv=>decide (kv.1≠(aC x:Key)))=lB ds:=DZ.mpr fun kv hk=>decide_eq_true (Ef h kv hk)
theorem zyw{ds:List CR}{x:Str}(h:∀c∈ds,c.nm≠x)(v:V):(lB ds).map (fun kv=>if kv.1=(aC x:Key)then(kv.1,v)else kv)=lB ds:=(br fun kv hk=>if_neg (Ef h kv hk)).trans (l7 _)
theorem O9(as bs:List CR):lB (as++bs)=lB as++lB bs:=aA ..
theorem Vv{cs:List CR}(x:Str)(nd:(cs.map (·.nm)).Nodup)(pl:(iE cs).Nodup):∃as bs,QY cs x as bs:=by
 by_cases h:x∈cs.map (·.nm)
 ·obtain⟨c0,hc,e⟩:=av.mp h;obtain⟨as,bs,rfl⟩:=iU hc;have S8:=(((jL (l₁:=as) (a:=c0) (l₂:=bs)).map (·.nm)).nodup_iff).mp nd;rw[ay,aG]at S8;have nx:∀c∈as++bs,c.nm≠x:=fun c hc z=>S8.1 (av.mpr ⟨c,hc,z.trans e.symm⟩);have na:∀c∈as,c.nm≠x:=fun c hc=>nx c (dY _ hc);have nb:∀c∈bs,c.nm≠x:=fun c hc=>nx c (aB _ hc);have P9:=((V4 as bs c0).nodup_iff).mp pl;refine⟨as,bs,nx,fun c hc=>Ma hc,fun c hc z=>(Jp hc).elim (fun q=>absurd (q▸e) z) id,?_,fun c ec=>?_,S8.2,(aG.mp (aG.mp P9).2).2⟩
  ·unfold qz;rw[O9,O9,gB,V5 na,show lB (c0::bs)=(aC c0.nm,V.ref c0.q)::lB bs from rfl,fK,if_neg (by simp[e]),V5 nb]
  ·unfold fU;rw[if_pos (by rw[jJ];exact⟨_,av.mpr ⟨c0,hc,rfl⟩,decide_eq_true (by rw[e])⟩),O9,O9,aA,zyw na,show lB (c0::bs)=(aC c0.nm,V.ref c0.q)::lB bs from rfl,ay,zyw nb,if_pos (by rw[e])];rw[e,<-ec];rfl
 ·have nx:∀c∈cs,c.nm≠x:=fun c hc z=>h (av.mpr ⟨c,hc,z⟩);refine⟨cs,[],by rw[aJ];exact nx,by rw[aJ];exact fun c hc=>hc,by rw[aJ];exact fun c hc _=>hc,by rw[aJ];exact V5 nx,fun c ec=>?_,by rw[aJ];exact nd,by rw[aJ];exact pl⟩;unfold fU;rw[if_neg (by rw[jJ];rintro⟨kv,hk,e⟩;exact Ef nx kv hk (of_decide_eq_true e)),O9,<-ec];rfl
theorem QY.LL{cs:List CR}{x:Str}{as bs:List CR}(h:QY cs x as bs):∀b∈iE (as++bs),b∈iE cs:=fun b hb=>by
 unfold iE at hb⊢;simp only[ao,av]at hb⊢;rcases hb with⟨c,hc,e⟩ |⟨c,hc,e⟩
 ·exact .inl ⟨c,h.sub c (ao.mpr hc),e⟩
 ·exact .inr ⟨c,h.sub c (ao.mpr hc),e⟩
theorem zwe{kvs:List (Key×V)}{k:Key}(h:gi kvs k=none):qz kvs k=kvs:=DZ.mpr fun kv hk=>decide_eq_true fun e=>by have:=HA k kvs;rw[h,Option.isSome_none,t8]at this;exact this kv hk (decide_eq_true e)
theorem zxz{H:Hp}{a:Addr}{o:HO}(h:H a=some o):upd H a o=H:=funext fun b=>by
 by_cases q:b=a
 ·rw[q,bX,h]
 ·rw[bM q]
theorem zwf{n:ND}{bk:Option (Addr×je)}{b:Addr}:(b∈ND.foot {n with bk:=none}->b∈n.foot)/\(b∈ND.foot {n with bk:=bk}->b∈n.foot\/b∈Mu bk):=by
 simp only[ND.foot,Mu,aJ,ak,ao];constructor
 ·exact fun h=>h.imp id (DC id Or.inl)
 ·rintro(q|q|q|q)
  ·exact .inl (.inl q)
  ·exact .inl (.inr (.inl q))
  ·exact .inl (.inr (.inr (.inl q)))
  ·exact .inr q
theorem zyx:∀{l k:List Str},l.Nodup->(∀a∈l,a∈k)->l.length<=k.length
 |[],_,_,_=>bZ _
 |a::l,k,nd,h=>by obtain⟨n1,n2⟩:=aG.mp nd;have ha:=h a (aj ..);have:=zyx (l:=l) (k:=k.erase a) n2 fun b hb=>(List.mem_erase_of_ne (fun z=>n1 (by rw[<-z];exact hb))).mpr (h b (ae _ hb));rw[List.length_erase_of_mem ha]at this;have:=List.length_pos_of_mem ha;rw[bw];omega
theorem KJ.NT{F:List Addr}{wd cd ql:Addr}{H:Hp}{ps:List Addr}{qu:List D2}{cs ds:List CR}{fr:Int}(J:KJ F wd cd ql H ps qu cs fr)(r:Ac H ds)(ap:∀b∈iE ds,b∉F)(nq:ql∉iE ds):KJ F wd cd ql (upd H cd (.dK (lB ds))) ps qu ds fr:=by
 have kp:∀{b o},H b=some o->(∀xs,o≠.dK xs)->upd H cd (.dK (lB ds)) b=some o:=fun{b o} e n=>by rw[bM fun z=>by rw[z,J.hc.hd]at e;exact n _ (aq e).symm];exact e
 refine⟨by rw[bM J.nw];exact J.hw,⟨kp J.hq.hl (by intro _ z;cases z),J.hq.r.mono fun p g e=>kp e (by intro _ z;cases z)⟩,⟨bX,r.off fun b u e n _=>kp e n⟩,fun b hb=>?_,J.nw,nq⟩;simp only[ak]at hb;rcases hb with q|q|q|q
 ·exact J.ap b (by simp[q])
 ·exact J.ap b (by simp[q])
 ·exact J.ap b (by simp[q])
 ·exact ap b q
theorem UC{a b:Int}(ha:1<=a/\a<=10)(hb:V.int b∈[V.int 1,V.int 11,V.int 13,V.int 101,V.int 9973]):∃r:Rat,r.num=a/\(r.den:Int)=b/\1<=b/\b<=10000:=by
 have al:∀k∈yz 11,∀d∈[1,11,13,101,9973],k≠0->wH k d:=by decide+kernel
 obtain⟨k,rfl⟩:=Bm (show 0<=a by omega);obtain⟨d,hd,rfl⟩:∃d:Nat,d∈[1,11,13,101,9973]/\b=d:=by
  simp only[ak,aI,or_false,V.int.injEq]at hb;rcases hb with q|q|q|q|q
  ·exact⟨1,by decide,q⟩
  ·exact⟨11,by decide,q⟩
  ·exact⟨13,by decide,q⟩
  ·exact⟨101,by decide,q⟩
  ·exact⟨9973,by decide,q⟩
 have hd2:1<=d/\d<=10000:=by simp only[ak,aI,or_false]at hd;omega
 exact⟨⟨k,d,by omega,al k (pS.mpr (by omega)) d hd (by omega)⟩,rfl,rfl,by omega,by omega⟩
inductive ES(C:Cl)(vs:List V)(H:Hp)(Q:VK)(E:XK):Prop|mk (D:TD) (wd cd ql:Addr) (ps:List Addr) (qu:List D2) (cs:List CR) (x:Str) (xl:Addr) (xs:List Int) (h1:vs=[.ref D.p,.ref cd,.str x,.ref xl]) (h2:rL C wd cd ql H D ps qu cs) (h3:D.tm<=1000000000000) (h4:x≠road) (h5:aU D.ns x≠none) (h6:H xl=some (.lst (xs.map V.int))) (h7:6<=xs.length) (h8:xl∉D.foot) (h9:xl∉wd::cd::ql::iE cs) (yH:∀D' ds H',rL C wd cd ql H' D' ps qu ds->nj wd cd ql H D cs H' D' ds->D'.tm=D.tm->D'.ct=D.ct->Q .cy H'):ES C vs H Q E
include T in
theorem zli:sM P w K mg base (fJ P w) 6 "_law_new_curb" ["_law_tree","_law_curbs","_law_name","_law_xs"] (ES (⟨cQ,cX,cV,cF,cA,dA⟩:Cl)):=by
 have mY:=Zj P w base T;have vP:=znt P w base T;have jb:=VD P w base T;refine T.qY.okN (k:=5) gT (fun vs H Q E h=>?_) (fun f dF A outer s H vs Q E hr h=>?_)
 ·obtain⟨D,wd,cd,ql,ps,qu,cs,x,xl,xs,rfl,_⟩:=h;rfl
 ·obtain⟨D,wd,cd,ql,ps,qu,cs,x,xl,xs,rfl,B,tb,nr,hx,hl,l6,nx,nw,k⟩:=h;refine⟨_,(dD (dw (jG o4 (aT rC (bu (kK K rfl) (pv 3) bU (fun _ _=>rfl)) bU) bU (jH _)) (dJ (jV (iB (d7:=[]) vP (by simp) T.aH (hr.mono (by decide)) bj (pv 0) (aS (pv 2) bP))) (dD (jV (zxb (pv 1) (pv 2) sZ ⟨rfl,rfl,rfl,rfl⟩)))) (dJ (ju (i:=4) gT.nd rfl (aT sJ (eT (pv 0) rfl) (aT rC (bu (kK K rfl) (pv 3) bU (fun _ _=>rfl)) (aT sJ bU (aT sY bU (eT (pv 0) rfl)))))) (dJ (dw (jG o4 (aT rC (bu (kK K rfl) (pv 3) bU (fun _ _=>rfl)) bU) bU (jH _)) (dD (ju (i:=4) gT.nd rfl (aT Ff (aT V7 bU bU) (aT rC (bu (kK K rfl) (pv 3) bU (fun _ _=>rfl)) bU)))) jP) (dJ (ju (i:=5) gT.nd rfl (yt (aS (aT sJ bU (aT rC (bu (kK K rfl) (pv 3) bU (fun _ _=>rfl)) bU)) (aS (bu (kK K rfl) (Ab (aS bU (aS bU (aS bU (aS bU (aS bU bP)))))) (aT rC (bu (kK K rfl) (pv 3) bU (fun _ _=>rfl)) bU) (fun _ _=>rfl)) bP)))) (dJ (jV (iB (d7:=[]) mY (by simp) T.aH (hr.mono (by decide)) bj (pv 0) (aS (pv 2) (aS (pv 4) (aS (pv 5) bP))))) (dD (Du (dS hr) (pv 1) (pv 2) (Ab (aS (pv 4) (aS (bu (lE K rfl) (pv 5) bU (fun _ _=>rfl)) (aS (bu (lE K rfl) (pv 5) bU (fun _ _=>rfl)) (aS (aT sY (pv 4) (bu (lE K rfl) (pv 5) bU (fun _ _=>rfl))) (aS (yK (d7:=[]) jb (by simp) T.aH (hr.mono (by decide)) bj (pv 0)) (aS (Ab bP) bP))))))) rfl)))))))),?_⟩;show rh _ _ _ _ [some (.ref D.p),some (.ref cd),some (.str x),some (.ref xl),none,none] H;obtain⟨dx,fs,hp,ft⟩:=B.O.ex;obtain⟨as,bs,Z⟩:=Vv x B.L.nd B.J.hc.r.nd;have Y:=B.L.dy;have t0:=B.L.t0.1;have m1:=Y.W.m1;walk_at"rd";refine FO 2 hl (by omega) ⟨_,rfl,fE (fun c0=>?_) fun c0=>?_⟩
  ·walk_at"s";refine ig hp (nW ft _) ⟨D,x,rfl,B.O,Y.W,fun z=>absurd (z.resolve_left nr) hx,fun _ n H1 hn O1 d1=>hR _ _ ?_⟩;clear hR;have Wy:∀b∈(D.jO n none).foot,b∈D.foot:=fun b hb=>(VQ (D:=D) (n':={n with bk:=none}) (Pb:=fun _=>False) (iD hn).1 (fun b hb=>.inl ((zwf (bk:=none)).1 hb)) b hb).resolve_right id;have J1:=(B.J.kW B.O d1).A6 fun b hb=>.inl (Wy b hb);have J2:=J1.NT (ds:=as++bs) ⟨fun c hc=>J1.hc.r.ht c (Z.sub c hc),fun c hc=>J1.hc.r.hg c (Z.sub c hc),Z.pl⟩ (fun b hb=>J1.ap b (by simp[Z.LL b hb])) fun z=>J1.nq (Z.LL _ z);have Pc:=B.L.jO hn (bk:=none) (ds:=as++bs) (fun b z=>by cases z) Z.nd (fun c hc=>.inl ⟨Z.sub c hc,Z.nx c hc⟩) Z.mem fun z=>absurd rfl z;have post:Q .cy (upd H1 cd (.dK (lB (as++bs)))):=k (D.jO n none) (as++bs) _ ⟨O1.other (J1.ap cd (by simp)) J1.hc.hd (by intro _ z;cases z),Pc,J2⟩ ⟨rfl,rfl,Lc _ _,fun b o e n1 n2=>⟨by rw[bM (fun z=>n2 (by simp[z]))];exact d1 _ _ n1 e,fun z=>n1 (Wy b z),fun z=>n2 (by simp only[ak]at z⊢;exact z.imp id (DC id (DC id (Z.LL b))))⟩⟩ rfl rfl;walk_at"rd";simp only[L2.Fc];walk_at"rd";refine⟨.inl ⟨_,.inl J1.hc.hd⟩,_,J1.hc.hd,aC x,rfl,fun v _=>?_,fun z=>?_⟩
   ·rw[Z.drop];exact post
   ·rw[<-Z.drop,zwe z,zxz J1.hc.hd]at post;exact post
  ·walk_at"s";refine eL hp T.aH T.eA ft.mo (FO 3 hl (by omega) (eL hp T.aH T.eA ft.mo ?_));walk_at"rd";refine⟨⟨Sw.Sz.lit (by decide),(show Sw.Sz 70 D.most from Sw.Sz.sf (by omega) (by omega)).mono (by decide)⟩,by omega,hR _ _ ?_⟩;clear hR;have e0:=aW (xs[3]'(by omega)) (show 1+3*D.most≠0 by omega);have e1:=aN (xs[3]'(by omega)) (show 0<1+3*D.most by omega);have e2:=aW (xs[3]'(by omega)) (show(2:Int)≠0 by decide);have e3:=aN (xs[3]'(by omega)) (show(0:Int)<2 by decide);refine bJ fun R hR=>?_;have on:∀d:Int,D.most<=d/\d<=1000000000000->R [some (.ref D.p),some (.ref cd),some (.str x),some (.ref xl),some (.int d),none] H:=fun d db=>hR _ _ (by
    clear hR;walk_at"s";refine FO 4 hl (by omega) ⟨_,rfl,?_⟩;have e4:=aW (xs[4]'(by omega)) (show(10:Int)≠0 by decide);have e5:=aN (xs[4]'(by omega)) (show(0:Int)<10 by decide);generalize(xs[4]'(by omega)) % 10=y4 at e4 e5⊢;intro p1 f1;refine nC 5 (fV f1 _ _ hl) (by omega) fun y5 _=>⟨_,rfl,?_⟩;refine EG _ f1 (aW _ (by decide)) (aN _ (by decide)) fun sv xV H1 s1=>?_;intro pr fp;obtain⟨den,rfl⟩:∃den,sv=V.int den:=by simp only[ak,aI,or_false]at xV;rcases xV with q|q|q|q|q <;> exact⟨_,q⟩
    obtain⟨r,en,ed,d1,d2⟩:=UC (a:=1+y4) ⟨by omega,by omega⟩ xV;have s2:=s1.trans (fV (o:=.tup [V.int (1+y4),V.int den]) fp);have B2:=B.same s2;have vW:upd H1 pr (.tup [V.int (1+y4),V.int den]) pr=some (.tup (fq r)):=by rw[bX];unfold fq;rw[en,ed]
    refine hR _ _ ?_;clear hR hp ft;generalize upd H1 pr (.tup [V.int (1+y4),V.int den])=H2 at s2 B2 vW⊢;obtain⟨dx,fs,hp,ft⟩:=B2.O.ex;have r0:0<r:=uf.mpr (by omega);have rz:Sw.fP 70 r:=⟨Sw.Sz.sf (by omega) (by omega),by rw[ed];exact Sw.Sz.sf (by omega) (by omega)⟩;walk_at"s";refine ig hp (nW ft _) ⟨D,x,d,pr,r,rfl,B2.O,Y.W,vW,rz.mono (by decide),fun z=>absurd (z.resolve_left nr) hx,fun _ _ z=>absurd ⟨db.1,db.2,r0⟩ z,fun _ _ n y H3 hn hy O3 d3=>hR _ _ ?_⟩;clear hR hp ft f1 s1 fp xV;have Ly:∀b∈(D.jO n (some (y,⟨d,r,D.tm,(d:Rat)⟩))).foot,b∈D.foot\/b=y:=fun b hb=>VQ (D:=D) (n':={n with bk:=some (y,⟨d,r,D.tm,(d:Rat)⟩)}) (Pb:=fun b=>b=y) (iD hn).1 (fun b hb=>(zwf.2 hb).imp id au.mp) b hb;have J3:=(B2.J.A6 fun b hb=>(Ly b hb).imp id fun q=>by rw[q];exact hy).keep fun b o h e=>d3 b o (h.elim (B2.J.ap b) fun⟨xs,q⟩=>B2.O.BK (xs:=xs) (by rw[e,q])) e;have J0:=d3 _ _ (B2.O.BK vW) vW;have Ao:∀b o,H b=some o->b∉D.foot->H3 b=some o/\b∉(D.jO n (some (y,⟨d,r,D.tm,(d:Rat)⟩))).foot:=fun b o e n1=>⟨d3 _ _ n1 (s2 _ _ e),fun z=>(Ly b z).elim n1 fun q=>by rw[q]at e;rw[s2 _ _ e]at hy;cases hy⟩;obtain⟨dx,fs,hp,ft⟩:=O3.ex;have hp:H3 D.p=some (.ins dA dx fs):=hp;walk_at"rd";refine lG (.of J0) (v:=.int r.num) rfl (lG (.of J0) (v:=.int r.den) rfl (lG (.of J0) (v:=.int r.den) rfl ?_));have sz:∀{y:Int},0<=y->y<=1000000000000->Sw.Sz 5000 y:=fun{y} a b=>(show Sw.Sz 70 y from Sw.Sz.sf (by omega) (by omega)).mono (by decide);refine⟨_,rfl,⟨sz (by omega) (by omega),sz (by omega) (by omega)⟩,ig hp (nW ft _) ⟨D.jO n (some (y,⟨d,r,D.tm,(d:Rat)⟩)),rfl,O3,fun pl Pn q Po=>?_⟩⟩;have s5:=(fV (o:=.lst []) Pn).trans (fV (o:=.lst [V.int d,V.int r.num,V.int r.den,V.int (d*r.den),V.int D.tm,V.ref pl]) Po);have Ti:pl≠q:=fun z=>by rw[<-z,bX]at Po;cases Po
    have q3:H3 q=none:=by rw[<-Po,bM Ti.symm]
    have SE:upd (upd H3 pl (.lst [])) q (.lst [V.int d,V.int r.num,V.int r.den,V.int (d*r.den),V.int D.tm,V.ref pl]) q=some (.lst (CJ ⟨x,q,pl,d,r.num,r.den,d*r.den,D.tm,[],[]⟩)):=bX;have MW:upd (upd H3 pl (.lst [])) q (.lst [V.int d,V.int r.num,V.int r.den,V.int (d*r.den),V.int D.tm,V.ref pl]) pl=some (.lst []):=by rw[bM Ti];exact bX
    have th:∀b∈wd::cd::ql::iE cs,b≠q/\b≠pl:=fun b hb=>by obtain⟨o,ho,_⟩:=J3.there hb;exact⟨fun z=>(by rw[z,q3]at ho;cases ho),fun z=>(by rw[z,Pn]at ho;cases ho)⟩
    have Ok:CR.Ok ⟨x,q,pl,d,r.num,r.den,d*r.den,D.tm,[],[]⟩ 0:=⟨⟨⟨by show 1<=d;omega,db.2⟩,by show 1<=r.num/\r.num<=10;omega,by show 1<=(r.den:Int)/\(r.den:Int)<=10000;omega,⟨jk (by omega) (by omega),dG _⟩,by show 0<=D.tm/\D.tm<=1000000000000000;omega⟩,trivial,az _,fun g hg=>absurd hg aI⟩;have XA:Fy ⟨d,r,D.tm,(d:Rat)⟩ ⟨x,q,pl,d,r.num,r.den,d*r.den,D.tm,[],[]⟩:=⟨rfl,rfl,rfl,rfl,by have dn:=Sw.bT (Sw.bQ r);show(d:Rat)=((d*(r.den:Int):Int):Rat) / _;rw[aK,Ea,Rat.mul_assoc,Go _ dn,Rat.mul_one]⟩
    show ∃H',lW (upd (upd H3 pl (.lst [])) q (.lst [V.int d,V.int r.num,V.int r.den,V.int (d*r.den),V.int D.tm,V.ref pl])) cd (V.str x) (V.ref q) H'/\Q V.cy H';generalize upd (upd H3 pl (.lst [])) q (.lst [V.int d,V.int r.num,V.int r.den,V.int (d*r.den),V.int D.tm,V.ref pl])=H5 at s5 SE MW⊢;generalize ec:(⟨x,q,pl,d,r.num,r.den,d*r.den,D.tm,[],[]⟩:CR)=c' at SE Ok XA;have cn:c'.nm=x:=by rw[<-ec]
    have cq:c'.q=q:=by rw[<-ec]
    have cp:c'.pl=pl:=by rw[<-ec]
    have J5:=J3.keep fun b o _ e=>s5 _ _ e;have pm:∀{b},b∈iE (as++c'::bs)->b=q\/b=pl\/b∈iE cs:=fun{b} hb=>by have:=(V4 as bs c').mem_iff.mp hb;rw[cq,cp,ak,ak]at this;exact this.imp id (DC id (Z.LL b))
    have R5:Ac H5 (as++c'::bs):=by
     refine⟨fun c hc=>?_,fun c hc=>?_,(V4 as bs c').nodup_iff.mpr ?_⟩
     ·rcases Jp hc with z|z
      ·rw[z,cq];exact SE
      ·exact J5.hc.r.ht c (Z.sub c z)
     ·rcases Jp hc with z|z
      ·rw[z,cp,<-ec];exact⟨MW,.nil⟩
      ·exact J5.hc.r.hg c (Z.sub c z)
     ·rw[cq,cp];refine aG.mpr ⟨fun z=>?_,aG.mpr ⟨fun z=>(th pl (by simp[Z.LL _ z])).2 rfl,Z.pl⟩⟩;rcases ak.mp z with z|z
      ·exact Ti z.symm
      ·exact(th q (by simp[Z.LL _ z])).1 rfl
    have cl:cs.length<=60:=by
     have:=zyx B.L.nd (k:=D.ns.map (·.nm)) fun z hz=>by obtain⟨c,hc,rfl⟩:=av.mp hz;obtain⟨m,_,hm,_⟩:=B.L.to c hc;exact av.mpr ⟨m,(iD hm).1,(iD hm).2⟩
     rw[ai,ai]at this;have:=Y.ln;omega
    refine⟨_,lW.k (k:=aC x) J5.hc.hd (Cu (by unfold lB;rw[ai];omega)),?_⟩;have zp:=Z.put c' cn;rw[cq]at zp;rw[zp];have J6:=J5.NT R5 (fun b hb z=>by
     rcases pm hb with w|w|w
     ·rw[w]at z;exact O3.free q3 z
     ·rw[w]at z;exact O3.free Pn z
     ·exact J5.ap b (by simp[w]) z) fun z=>by
     rcases pm z with w|w|w
     ·exact(th ql (by simp)).1 w
     ·exact(th ql (by simp)).2 w
     ·exact J5.nq w
    have L6:=B.L.jO hn (bk:=some (y,⟨d,r,D.tm,(d:Rat)⟩)) (ds:=as++c'::bs) (fun b z=>by cases z;exact⟨gI.new m1.1 db.1 db.2 r0 rz (by omega) t0,dG _⟩) (((jL (l₁:=as) (a:=c') (l₂:=bs)).map (·.nm)).nodup_iff.mpr (aG.mpr ⟨fun z=>by obtain⟨c,hc,e⟩:=av.mp z;exact Z.nx c hc (e.trans cn),Z.nd⟩)) (fun c hc=>(Jp hc).elim (fun z=>.inr (by rw[z];exact⟨cn,Ok,_,rfl,XA⟩)) fun z=>.inl ⟨Z.sub c z,Z.nx c z⟩) (fun c hc z=>Ma (Z.mem c hc z)) fun _=>⟨c',by simp,cn⟩
    refine k _ (as++c'::bs) _ ⟨(O3.same s5).other (J5.ap cd (by simp)) J5.hc.hd (by intro _ z;cases z),L6,J6⟩ ⟨rfl,rfl,Lc _ _,fun b o e n1 n2=>?_⟩ rfl rfl;obtain⟨b3,bf⟩:=Ao b o e n1;refine⟨by rw[bM (fun z=>n2 (by simp[z]))];exact s5 _ _ b3,bf,fun z=>n2 ?_⟩;simp only[ak]at z⊢;refine z.imp id (DC id (DC id fun w=>?_));rcases pm w with w|w|w
    ·rw[w,q3]at b3;cases b3
    ·rw[w,Pn]at b3;cases b3
    ·exact w)
   clear hR;walk_at"rd";refine FO 2 hl (by omega) ⟨_,rfl,fE (fun c1=>?_) fun c1=>on _ ⟨by omega,by omega⟩⟩;walk_at"rd";exact FO 3 hl (by omega) ⟨_,rfl,on _ ⟨by omega,by omega⟩⟩
structure BJ(C:Cl)(H0:Hp)(D0:TD)(i:Nat)(H:Hp)(D:TD)(z:Str):Prop where
 O:bW C H D
 Y:D.Dy 0 i
 nb:NoB D
 qr:∀n∈D.ns,n.qu=[]/\n.rm= .cy
 wy:∃ys,Up D.ns z ys/\(∀n∈D.ns,n.nm∈ys)/\ys.length<=i+1
 kp:iw D0.foot H0 H
 fr:∀b∈D.foot,b∈D0.foot\/H0 b=none
 p:D.p=D0.p
 ze:D.tm=0/\D.fr=0/\D.ct=0/\D.gs=[]
 ms:D.most=D0.most
theorem BJ.same{C:Cl}{H0:Hp}{D0:TD}{i:Nat}{H H':Hp}{D:TD}{z:Str}(h:BJ C H0 D0 i H D z)(s:bE H H'):BJ C H0 D0 i H' D z:=⟨h.O.same s,h.Y,h.nb,h.qr,h.wy,h.kp.trans s.kW,h.fr,h.p,h.ze,h.ms⟩
theorem BJ.put{C:Cl}{H0:Hp}{D0 D D':TD}{i:Nat}{H H':Hp}{ab z kd:Str}{s:Int}(B:BJ C H0 D0 i H D ab)(i6:i<=4)(PO:lI C D z ab kd s .cy H H' D')(du:kH D z ab kd s .cy=none)(il:D.ns.length<=i+1):BJ C H0 D0 (i+1) H' D' z/\D'.ns.map (·.nm)=D.ns.map (·.nm)++[z]/\∃n,aU D'.ns z=some n/\n.qu=[]/\(kd=Str.ofString "leaf"->n.ch=none)/\(jW kd->n.ch≠none):=by
 have Y':=PO.dy du B.Y (by omega) (by omega);have Ib:=PO.foot;obtain⟨Kq,hx,⟨n0,PP,ok,_,_⟩,sh⟩:=V2 du;obtain⟨un,c,n,rfl,hu,hc,h1,h2,h3,h4,h5,h6,h7,h8,h9,yH,BE⟩:=PO;obtain⟨sX,Ht⟩:=iD hu;have mem:∀y∈(D.put un c s n).ns,y={un with ch:=some (c.1,c.2.put n.nm s)}\/y∈D.ns\/y=n:=fun y hy=>by
  rcases ao.mp hy with q|q
  ·rcases Jg q with q|q
   ·exact .inl q
   ·exact .inr (.inl q.1)
  ·exact .inr (.inr (au.mp q))
 have PY:aU (cu D.ns {un with ch:=some (c.1,c.2.put n.nm s)}) n.nm=none:=by rw[Ld,h1,hx];split <;> rfl
 have fz:aU (D.put un c s n).ns z=some n:=by show aU (cu D.ns _++[n]) z=_;rw[VZ PY,if_pos h1.symm]
 obtain⟨ys,U,al,yl⟩:=B.wy;have Jd:Up (D.put un c s n).ns ab ys:=U.mono fun z _ m hm=>by
  show ∃n',aU (cu D.ns _++[n]) z=some n'/\_;rw[VZ PY,if_neg (fun q=>by rw[q,h1,hx]at hm;cases hm),Ld];by_cases q:z=un.nm
  ·rw[if_pos q,hm];rw[q,Ht,hu]at hm;cases hm
   exact⟨_,rfl,rfl⟩
  ·rw[if_neg q];exact⟨m,hm,rfl⟩
 refine⟨⟨yH,Y',fun y hy=>?_,fun y hy=>?_,⟨z::ys,.on fz h2 Jd,fun y hy=>?_,by rw[bw];omega⟩,fun b o nb e=>?_,fun b hb=>?_,B.p,B.ze,B.ms⟩,?_,n,fz,h6,h7,fun ik e=>?_⟩
 ·rcases mem y hy with q|q|q
  ·rw[q];exact B.nb un sX
  ·exact B.nb y q
  ·rw[q];exact h4
 ·rcases mem y hy with q|q|q
  ·rw[q];exact B.qr un sX
  ·exact B.qr y q
  ·rw[q];exact⟨h6,h3⟩
 ·rcases mem y hy with q|q|q
  ·rw[q];exact ae _ (al un sX)
  ·exact ae _ (al y q)
  ·rw[q,h1];exact aj ..
 ·have nf:b∉D.foot:=fun q=>by
   rcases B.fr b q with r|r
   ·exact nb r
   ·rw[e]at r;cases r
  exact BE _ _ nf (B.kp b o nb e)
 ·rcases Ib b hb with q|q
  ·exact B.fr b q
  ·by_cases r:b∈D0.foot
   ·exact .inl r
   ·right;cases e:H0 b with
    |none=>rfl
    |some o=>rw[B.kp b o r e]at q;cases q
 ·show(cu D.ns _++[n]).map _=_;rw[aA,Lc,<-h1];rfl
 ·obtain⟨a,e'⟩:=h8 ik;rw[e]at e';cases e'
theorem BJ.start{C:Cl}{H0:Hp}{D0:TD}{H H':Hp}{z:Str}(h:BJ C H0 D0 0 H D0 z)(s:bE H H'):BJ C H' D0 0 H' D0 z:=⟨h.O.same s,h.Y,h.nb,h.qr,h.wy,fun _ _ _ e=>e,fun _ hb=>.inl hb,rfl,h.ze,rfl⟩
theorem VL:∀{ns:List ND},(∀m∈ns,m.qu=[])->dQ ns=0
 |[],_=>rfl
 |a::r,h=>by have:=VL (ns:=r) fun m hm=>h m (ae _ hm);unfold dQ at this⊢;rw[ay,eO,this,h a (aj ..)];rfl
theorem BJ.li{C:Cl}{H0:Hp}{D0:TD}{i:Nat}{H:Hp}{D:TD}(B:BJ C H0 D0 i H D dM)(i6:i<=6)(h:∃n,aU D.ns dM=some n/\n.qu=[]/\n.ch=none):LI D [] [] D.tm:=by obtain⟨n,hn,hq,hc⟩:=h;obtain⟨ys,U,al,_⟩:=B.wy;obtain⟨z1,z2,z3,z4⟩:=B.ze;have Y:=B.Y;refine⟨⟨n,hn,hc,hq⟩,fun m hm _=>(B.qr m hm).1,⟨ys,U,al⟩,fun m hm=>(B.qr m hm).2,yy,fun c hc=>absurd hc aI,fun m hm b hb=>(by rw[B.nb m hm]at hb;cases hb),⟨0,⟨Y.W,fun n hn c hc=>⟨(Y.fin n hn c hc).1,by have:=(Y.fin n hn c hc).2;omega⟩,Y.bk,Y.lv,Y.qu,Y.yV,Y.ln,by decide⟩,by omega,.inl (by omega)⟩,fun c hc=>absurd hc aI,by omega,by omega,?_⟩;rw[VL fun m hm=>(B.qr m hm).1,z4,z3];exact dG _
def mP:List Str:=[Str.ofString "a",Str.ofString "b",Str.ofString "c"]
theorem Wg:∀z∈mP,yu z/\z≠road/\z≠dM:=by decide+kernel
theorem Vw:mP.Nodup:=by decide+kernel
theorem QF:yu dM/\dM≠road:=by decide+kernel
theorem Vx(ql:Addr):Fi [] (Au 0 ql)=Au 0 ql:=by show fU (fU [] (aC (Str.ofString "free"):Key) (.int 0)) (aC (Str.ofString "queue")) (.ref ql)=_;unfold fU Au;simp[HY];decide+kernel
theorem LI.cur{D:TD}{qu:List D2}{cs:List CR}{t:Int}(L:LI D qu cs t){z:Str}{n:ND}(hn:aU D.ns z=some n):n.bk.isSome=(gi (lB cs) (aC z:Key)).isSome:=by
 rw[<-HA,eU,jJ];obtain⟨eZ,ne⟩:=iD hn;constructor
 ·intro h;obtain⟨b,hb⟩:=fY.mp h;obtain⟨c,hc,e⟩:=L.of n eZ b hb;exact⟨_,av.mpr ⟨c,hc,rfl⟩,decide_eq_true (by rw[e,ne])⟩
 ·rintro⟨kv,hk,e⟩;obtain⟨c,hc,rfl⟩:=av.mp hk;have e:c.nm=z:=gj (of_decide_eq_true e);obtain⟨m,b,h1,h2,_⟩:=L.to c hc;rw[e,hn]at h1;cases h1
  rw[h2];rfl
theorem UD(xs:List V)(lo hi:Nat):(mL xs (some (lo:Int)) (some (hi:Int))).length<=hi-lo:=by unfold mL;rw[HT.ug,HT.ug,aY];omega
theorem zya(xs:List V)(y:V):mL (xs++[y]) none (some (-1))=xs:=by
 unfold mL;have e:HT.wu (xs++[y]).length (xs++[y]).length (some (-1))=xs.length:=by show(if(-1:Int)<0 then((-1:Int)+((xs++[y]).length:Int)).toNat else min (-1:Int).toNat (xs++[y]).length)=_;rw[if_pos (by decide),bg];show((-1:Int)+((xs.length+1:Nat):Int)).toNat=_;omega
 rw[e,HT.uY,List.drop_zero,Nat.sub_zero,List.take_left' rfl]
theorem Vy{f:Addr}{fd:FuncData}(F:HJ K "law" "law" qU f fd)(T:Txt K mg dB cJ cY cG cK cO cH cI cZ cU cW cA cF cD cX cV cQ dA):pX P w K mg base Li 12 f fd ["_law_script"] (BW K):=by
 have ux:=zte P w base T;have jb:=VD P w base T;have vO:=znu P w base T;have Jw:=Vs P w base T;have uo:=zlz P w base T;have vG:=znp P w base T;have pW:=zpy P w base T;have vF:=znw P w base T;have uq:=zmb P w base T;have tD:=zli P w base T;refine F.ok jd (fun vs H Q E h=>?_) (fun dF A outer s H vs Q E hr h=>?_)
 ·obtain⟨a,ns,rfl,_⟩:=h;rfl
 ·obtain⟨sc,ns,rfl,hS,gw,k⟩:=h;refine RD ⟨_,(HB (F9 (ju (i:=1) jd.nd rfl (aT rC (kB uo (hr.mono (by decide)) rfl bj (aS (pv 0) (aS bU bP))) bU))) (HB (F9 (ju (i:=2) jd.nd rfl (LQ (d7:=[V.str (Str.ofString "starts")]) Jw (by simp) (hr.mono (by decide)) bj rfl T.G1 (aS (aT sJ bU (aT rC (aT QC (pv 1) bU) (bu (kK K rfl) (Ab (aS bU (aS bU (aS (aT V7 bU bU) bP)))) (aT rC (pv 1) bU) (fun _ _=>rfl)))) bP)))) (HB (F9 (ju (i:=3) jd.nd rfl (aT UU (OG (OL K rfl) (Ab (aS lF (aS lF (aS lF bP)))) QH (LX (aT rC (aT QC (pv 1) bU) bU))) (Ab (aS lF bP))))) (HB (F9 (ju (i:=4) jd.nd rfl lF)) (HB (F9 (DS PassesOwn.never rfl (yr K rfl (OG (OL K rfl) (pv 3) QH (LX (BN QS bU)))) (nX (i:=5) jd.nd rfl (by first|left;rfl|right;rfl)) (dJ (jV (iB (d7:=[V.cy]) ux (by simp) T.aH (hr.mono (by decide)) bj (pv 2) (aS (pv 5) (aS (pv 4) (aS (bu (kK K rfl) (Ab (aS lF (aS lF bP))) (aT rC (aT QC (pv 1) bU) bU) (fun _ _=>rfl)) (aS bU bP)))))) (dD (ju (i:=4) jd.nd rfl (pv 5)))))) (HB (F9 (jV (iB (d7:=[V.cy]) ux (by simp) T.aH (hr.mono (by decide)) bj (pv 2) (aS lF (aS (pv 4) (aS lF (aS bU bP))))))) (HB (F9 (ju (i:=6) jd.nd rfl (zuy (VM lF bU (VM lF (Ab bP) zux)) rfl rfl (by intro z;cases z) (by decide)))) (HB (F9 (ju (i:=7) jd.nd rfl LR)) (HB (F9 (DS PassesOwn.never rfl (yr K rfl (OG (OL K rfl) (pv 0) (LX bU) (LX bU))) (nX (i:=1) jd.nd rfl (by first|left;rfl|right;rfl)) (dJ (ju (i:=8) jd.nd rfl (kB vG (hr.mono (by decide)) rfl bj (aS (pv 1) (aS bU bP)))) (dJ (ju (i:=5) jd.nd rfl (bu (kK K rfl) (pv 3) (aT rC (bu (kK K rfl) (pv 8) bU (fun _ _=>rfl)) (Ct (Qv K rfl) rfl T.uV boot_len (aS (pv 3) bP))) (fun _ _=>rfl))) (dJ (dw (jG nJ (aT rC (bu (kK K rfl) (pv 8) bU (fun _ _=>rfl)) bU) bU (jH _)) (dD (jV (kB vF (hr.mono (by decide)) rfl bj (aS (pv 2) (aS (pv 6) (aS (pv 8) bP)))))) (dD (dw (jG o4 (aT rC (bu (kK K rfl) (pv 8) bU (fun _ _=>rfl)) bU) bU (jH _)) (dJ (dw (PW.pt (F8 (jG o4 (aT rC (bu (kK K rfl) (pv 8) bU (fun _ _=>rfl)) bU) bU (jH _)) (Ji (DR (Cv (kB uq (hr.mono (by decide)) rfl bj (aS (pv 2) (aS (pv 5) (aS (pv 8) bP))))))))) (dD (gZ jM)) jP) (dD (jV (kB tD (hr.mono (by decide)) rfl bj (aS (pv 2) (aS (pv 7) (aS (pv 5) (aS (pv 8) bP)))))))) (dJ (ju (i:=9) jd.nd rfl (bu (kK K rfl) (Ab (aS bU (aS (aT rC (bu (kK K rfl) (pv 8) bU (fun _ _=>rfl)) bU) (aS (aT rC (bu (kK K rfl) (pv 8) bU (fun _ _=>rfl)) (aT sJ bU (aT sY bU (eT (pv 2) rfl)))) (aS (aT rC (bu (kK K rfl) (pv 8) bU (fun _ _=>rfl)) (aT sJ bU (eT (pv 2) rfl))) (aS bU bP)))))) (aT rC (bu (kK K rfl) (pv 8) bU (fun _ _=>rfl)) bU) (fun _ _=>rfl))) (dD (dw (DR (Cv (kB pW (hr.mono (by decide)) rfl bj (aS (pv 2) (aS (pv 6) (aS (pv 7) (aS (aT sJ (yK (d7:=[]) jb (by simp) T.aH (hr.mono (by decide)) bj (pv 2)) (pv 9)) bP))))))) (dD (gZ jM)) jP)))))) (dD (dw (jG zH (iB (d7:=[]) vO (by simp) T.aH (hr.mono (by decide)) bj (pv 2) (aS (pv 5) bP)) (UJ (OZ (dS hr) (pv 5) (pv 7))) (jH _)) (dD (gZ jM)) jP))))))) (Uh (F9 (gZ (kB pW (hr.mono (by decide)) rfl bj (aS (pv 2) (aS (pv 6) (aS (pv 7) (aS (aT sJ (yK (d7:=[]) jb (by simp) T.aH (hr.mono (by decide)) bj (pv 2)) (aT V7 bU bU)) bP))))))))))))))))),?_⟩;show dW _ _ _ [some (.ref sc),none,none,none,none,none,none,none,none,none] H;walk_at"s";refine zue hS (by omega) ⟨_,rfl,hR _ _ ?_⟩;clear hR;have c0:=aW (oX ns 0) (show(2147483647:Int)≠0 by decide);have c1:=aN (oX ns 0) (show(0:Int)<2147483647 by decide);generalize oX ns 0 % 2147483647=c at c0 c1;walk_at"s";have r0:=aW c (show(3:Int)≠0 by decide);have r1:=aN c (show(0:Int)<3 by decide);intro p1 f1;have s1:=fV (o:=.lst [.int 9,.int 40,.int 1000000]) f1;refine NK [9,40,1000000] r0 (by show c % 3<3;omega) fun md WX=>?_;have mdb:1<=md/\md<=1000000:=by simp only[ak,aI,or_false]at WX;rcases WX with q|q|q <;> omega
  refine⟨_,rfl,by omega,?_⟩;have mb:1<=1+c / 3 % md/\1+c / 3 % md<=1000000:=by have:=aW (c / 3) (show md≠0 by omega);have:=aN (c / 3) (show(0:Int)<md by omega);omega
  generalize 1+c / 3 % md=most at mb;intro x dx hx GJ ne;refine⟨x,dx,most,Str.ofString "starts",rfl,bX,fun z=>absurd mb z,fun _ z=>absurd (.inl rfl) z,fun _ _ pn pg n a H' en bt fr O=>⟨rfl,hR _ _ ?_⟩⟩;clear hR;have sH:bE H H':=fun b o e=>by have e:=s1 _ _ e;exact bt b o (i8 e hx) (Fe hx GJ _ _ e)
  have W0:TD.Wf ⟨x,pn,pg,most,0,0,0,[n],[],[]⟩:=TD.Wf.new (n:=n) (a:=a) (b:=uG (Str.ofString "starts")) rfl (by rw[en]) (by rw[en]) (by rw[en]) mb;have fn:aU [n] n.nm=some n:=by unfold aU;simp
  have Mz:n.nm=road:=by rw[en]
  have P7:n.qu=[]:=by rw[en]
  have Ip:n.ch≠none:=by rw[en];simp
  have B0:BJ (⟨cQ,cX,cV,cF,cA,dA⟩:Cl) H' ⟨x,pn,pg,most,0,0,0,[n],[],[]⟩ 0 H' ⟨x,pn,pg,most,0,0,0,[n],[],[]⟩ road:=by
   refine⟨O,⟨W0,fun y hy d hd=>?_,fun y hy b hb=>?_,fun y hy hq=>?_,fun y hy g hg=>?_,?_,by show 1<=60;omega,by omega⟩,fun y hy=>?_,fun y hy=>?_,⟨[road],.top (by rw[<-Mz];exact fn) (by rw[en]),fun y hy=>?_,az _⟩,fun b o _ e=>e,fun b hb=>.inl hb,rfl,⟨rfl,rfl,rfl,rfl⟩,rfl⟩
   ·rw[au.mp hy,en]at hd;cases hd
    show dZ.jy 0 (dZ.new (uG (Str.ofString "starts")))/\(dZ.new (uG (Str.ofString "starts"))).sz<=_;generalize uG (Str.ofString "starts")=b;exact⟨dZ.jy.new b,by cases b <;> exact bZ _⟩
   ·rw[au.mp hy,en]at hb;cases hb
   ·rw[au.mp hy,P7]at hq;exact absurd rfl hq
   ·rw[au.mp hy,P7]at hg;cases hg
   ·show dQ [n]+0<=120;rw[VL fun m hm=>by rw[au.mp hm];exact P7];decide
   ·rw[au.mp hy,en]
   ·rw[au.mp hy,en];exact⟨rfl,rfl⟩
   ·rw[au.mp hy,Mz];exact au.mpr rfl
  have Ry:∃un,aU [n] road=some un/\un.ch≠none:=⟨n,by rw[<-Mz];exact fn,Ip⟩;have Tc:[n].map (·.nm)=road::mP.take 0:=by rw[ay,Mz];rfl
  have fH:∀b∈TD.foot ⟨x,pn,pg,most,0,0,0,[n],[],[]⟩,H b=none:=fun b hb=>by
   cases e:H b with
   |none=>rfl
   |some o=>
    have e2:=s1 _ _ e;rcases fr b hb with q|q
    ·subst q;exact absurd (e2.symm.trans hx) (by simp)
    ·rw[Fe hx GJ _ _ e2]at q;cases q
  have px:(⟨x,pn,pg,most,0,0,0,[n],[],[]⟩:TD).p=x:=rfl;have Td:(⟨x,pn,pg,most,0,0,0,[n],[],[]⟩:TD).ns=[n]:=rfl;rw[<-Td]at Ry Tc;clear bt fr hx GJ s1 f1 en W0 O fn Mz P7 Ip;generalize(⟨x,pn,pg,most,0,0,0,[n],[],[]⟩:TD)=D0 at B0 fH px Td Ry Tc;clear Td;walk_at"s";intro p1 f1;have j0:=aW (c / 7) (show(4:Int)≠0 by decide);have j1:=aN (c / 7) (show(0:Int)<4 by decide);obtain⟨j,ej⟩:=Bm j0;rw[ej]at j1⊢;have e1:mL [V.str (Str.ofString "a"),V.str (Str.ofString "b"),V.str (Str.ofString "c")] none (some (j:Int))=(mP.take j).map V.str:=(zwr (mP.map V.str) j (by show j<=3;omega)).trans (by rw[Ag]);refine OW (.of bX) fun p2 f2=>fun p3 f3=>?_;rw[e1]at f3⊢;have s3:=((fV (o:=.lst (mP.map V.str)) f1).trans (fV (o:=.lst ((mP.take j).map V.str)) f2)).trans (fV (o:=.lst [V.str dM]) f3);refine⟨p2,p3,_,_,rfl,rfl,fV f3 _ _ bX,bX,by have:=Cu (show min j 3+1<=1000000 by omega);rw[ai,aY];exact om this,fun nl RP=>hR _ _ ?_⟩;clear hR;have s4:=s3.trans (fV (o:=.lst ((mP.take j).map V.str++[V.str dM])) RP);have B4:=B0.start s4;have PJ:upd (upd (upd (upd H' p1 (.lst (mP.map V.str))) p2 (.lst ((mP.take j).map V.str))) p3 (.lst [V.str dM])) nl (.lst ((mP.take j).map V.str++[V.str dM])) nl=some (.lst ((mP.take j).map V.str++[V.str dM])):=bX;have Xf:nl∉D0.foot:=(B0.O.same s3).free RP;have TN:=sH.trans s4;show dW _ _ _ [some (.ref sc),some (.int c),some (.ref x),some (.ref nl),none,none,none,none,none,none] (upd (upd (upd (upd H' p1 (.lst (mP.map V.str))) p2 (.lst ((mP.take j).map V.str))) p3 (.lst [V.str dM])) nl (.lst ((mP.take j).map V.str++[V.str dM])));generalize upd (upd (upd (upd H' p1 (.lst (mP.map V.str))) p2 (.lst ((mP.take j).map V.str))) p3 (.lst [V.str dM])) nl (.lst ((mP.take j).map V.str++[V.str dM]))=H4 at B4 PJ TN⊢;clear s4 s3 RP f1 f2 f3 B0 sH;walk_at"s";refine hR _ _ ?_;clear hR;refine bJ fun R hR=>?_;refine DM fun Z hZ=>?_;walk_at"rd";refine OW (.of PJ) fun s2 MF=>⟨s2,rfl,⟨_,.of bX⟩,hZ _ _ ?_⟩;clear hZ;rw[zya];have s5:=fV (o:=.lst ((mP.take j).map V.str)) MF;have B5:=B4.start s5;have PF:=s5 _ _ PJ;have SI:upd H4 s2 (.lst ((mP.take j).map V.str)) s2=some (.lst ((mP.take j).map V.str)):=bX;have s2f:s2∉D0.foot:=B4.O.free MF;have TQ:=TN.trans s5;generalize upd H4 s2 (.lst ((mP.take j).map V.str))=H5 at B5 PF SI TQ⊢;clear B4 TN s5 MF PJ;refine Hz (K:=K) (a:=s2) (xs:=(mP.take j).map V.str) (fun i σ H'=>∃ab v5 D,σ=[some (.ref sc),some (.int c),some (.ref x),some (.ref nl),some (.str ab),v5,none,none,none,none]/\BJ (⟨cQ,cX,cV,cF,cA,dA⟩:Cl) H5 D0 i H' D ab/\D.ns.map (·.nm)=road::mP.take i/\∃un,aU D.ns ab=some un/\un.ch≠none) ⟨road,none,D0,rfl,B5,Tc,Ry⟩ (fun i σ H' _⟨_,_,_,_,h,_⟩=>.of (h.kp _ _ s2f SI)) ?_ ?_
  ·rintro i w0 σ H6 hv ⟨ab,v5,D,rfl,B,Iq,un,PR,Pw⟩;have hi:=(aL.mp hv).1;rw[ai,aY]at hi;have il:i<mP.length:=by omega
   obtain rfl:V.str (mP[i]'il)=w0:=by rw[aP,Ad (by omega),bK il]at hv;exact aq hv
   obtain⟨Kq,Iu,_⟩:=Wg _ (g6 il);have fz:aU D.ns (mP[i]'il)=none:=lK.mpr fun q=>by
    rw[Iq]at q;rcases ak.mp q with q|q
    ·exact Iu q
    ·obtain⟨j',hj,e⟩:=DA.mp q;rw[aY]at hj;rw[Gj]at e;have:=(vy Vw).mp e;omega
   have Xg:mP.take (i+1)=mP.take i++[mP[i]'il]:=ua il;generalize mP[i]'il=z at Kq Iu fz Xg;have i3:i<3:=il;have nle:D.ns.length=i+1:=by have:=congrArg iV Iq;rw[ai,bw,aY]at this;have:mP.length=3:=rfl;omega
   show dW _ _ _ [some (.ref sc),some (.int c),some (.ref x),some (.ref nl),some (.str ab),some (.str z),none,none,none,none] H6;refine Bj fun N hN=>?_;walk_at"s";obtain⟨dx,fs,hp,ft⟩:=B.O.ex;rw[B.p,px]at hp;refine ig hp (nW ft _) ?_;walk_at"rd";intro p7 f7;have s7:=fV (o:=.lst [V.str (Str.ofString "starts"),V.str (Str.ofString "rounds")]) f7;refine W6 (ks:=[Str.ofString "starts",Str.ofString "rounds"]) bX (aW _ (by decide)) (aN _ (by decide)) fun kd WS=>?_;have Xn:jW kd:=by simp only[ak,aI,or_false]at WS;exact WS
   have B7:=B.same s7;have du:kH D z ab kd 3 .cy=none:=VO Kq fz PR ⟨.inr Xn,Pw,fun ys U=>by obtain⟨zs,U',_,l⟩:=B.wy;rw[<-U'.det U];omega⟩ ⟨by decide,by decide⟩ fun⟨_,r,e,_⟩=>by cases e
   have so:=VP Kq;refine⟨D,z,ab,kd,3,.cy,by rw[B7.p,px],B7.O,B7.Y.W,B7.Y.fit,⟨so.1,by have:=so.2;omega⟩,.inl rfl,fun r e=>(by rw[du]at e;cases e),fun _ K6 c' n' H8 h1 h2 h3 h4 h5 h6 h7 h8 h9 yH BE JP JQ=>hR _ _ ?_⟩;clear hR;have PO:lI (⟨cQ,cX,cV,cF,cA,dA⟩:Cl) D z ab kd 3 .cy _ H8 (D.put K6 c' 3 n'):=⟨K6,c',n',rfl,h1,h2,h3,h4,h5,h6,h7,h8,h9,yH,BE,JP,JQ⟩;obtain⟨B8,Nr,nz,hz,_,_,DI⟩:=B7.put (by omega) PO du (by omega);walk_at"rd";exact hN _ _ ⟨z,_,D.put K6 c' 3 n',rfl,B8,by rw[Nr,Iq,Xg];rfl,nz,hz,DI Xn⟩
  ·rintro σ H6 ⟨ab,v5,D,rfl,B,Iq,un,PR,Pw⟩;have ij:((mP.take j).map V.str).length=j:=by rw[ai,aY];exact xF (show j<=3 by omega)
   rw[ij]at B Iq;refine hR _ _ ?_;clear hR;have nle:D.ns.length=j+1:=by have:=congrArg iV Iq;rw[ai,bw,aY]at this;have:mP.length=3:=rfl;omega
   have fz:aU D.ns dM=none:=lK.mpr fun q=>by
    rw[Iq]at q;rcases ak.mp q with q|q
    ·exact QF.2 q
    ·exact(Wg _ (jR q)).2.2 rfl
   have du:kH D dM ab (Str.ofString "leaf") 2 .cy=none:=VO QF.1 fz PR ⟨.inl rfl,Pw,fun ys U=>by obtain⟨zs,U',_,l⟩:=B.wy;rw[<-U'.det U];omega⟩ ⟨by decide,by decide⟩ fun⟨_,r,e,_⟩=>by cases e
   have so:=VP QF.1;walk_at"s";obtain⟨dx,fs,hp,ft⟩:=B.O.ex;rw[B.p,px]at hp;refine ig hp (nW ft _) ⟨D,dM,ab,Str.ofString "leaf",2,.cy,by rw[B.p,px];rfl,B.O,B.Y.W,B.Y.fit,⟨so.1,by have:=so.2;omega⟩,.inl rfl,fun r e=>(by rw[du]at e;cases e),fun _ K6 c' n' H8 h1 h2 h3 h4 h5 h6 h7 h8 h9 yH BE JP JQ=>hR _ _ ?_⟩;clear hR hp ft;have PO:lI (⟨cQ,cX,cV,cF,cA,dA⟩:Cl) D dM ab (Str.ofString "leaf") 2 .cy _ H8 (D.put K6 c' 2 n'):=⟨K6,c',n',rfl,h1,h2,h3,h4,h5,h6,h7,h8,h9,yH,BE,JP,JQ⟩;obtain⟨B8,Nr,nz,hz,M4,WU,_⟩:=B.put (by omega) PO du (by omega);have L8:=B8.li (by omega) ⟨nz,hz,M4,WU rfl⟩;rw[Iq]at Nr;clear PO h1 h2 h3 h4 h5 h6 h7 h8 h9 yH BE JP JQ WU hz M4;generalize D.put K6 c' 2 n'=D8 at B8 Nr L8;have Ig:=B8.kp _ _ Xf PF;have Xw:bE H H8:=fun b o e=>B8.kp b o (fun z=>by rw[fH b z]at e;cases e) (TQ _ _ e);have f8:∀b,H5 b≠none->b∉D0.foot->b∉D8.foot:=fun b h n z=>(B8.fr b z).elim n h;have p8:=B8.p;have O8:=B8.O;have z8:=B8.ze;have nl8:=f8 nl (by rw[PF];simp) Xf;clear B du PR Pw fz so;walk_at"s";intro wd MG;simp only[L2.sE];walk_at"rd";intro ql GC;have Dc:ql≠wd:=fun z=>by rw[z,bX]at GC;cases GC
   refine⟨by rw[bM Dc.symm];exact bX,Au 0 ql,rfl,by show 2<=15;decide,hR _ _ ?_⟩;clear hR;rw[Vx];have q8:H8 ql=none:=by rw[<-GC,bM Dc]
   have s9:bE H8 (upd (upd (upd H8 wd (.dK [])) ql (.lst [])) wd (.dK (Au 0 ql))):=fun b o e=>by rw[bM (i8 e MG),bM (i8 e q8),bM (i8 e MG)];exact e
   have Na:upd (upd (upd H8 wd (.dK [])) ql (.lst [])) wd (.dK (Au 0 ql)) wd=some (.dK (Au 0 ql)):=bX;have SG:upd (upd (upd H8 wd (.dK [])) ql (.lst [])) wd (.dK (Au 0 ql)) ql=some (.lst []):=by rw[bM Dc,bX]
   show dW _ _ _ _ (upd (upd (upd H8 wd (.dK [])) ql (.lst [])) wd (.dK (Au 0 ql)));generalize upd (upd (upd H8 wd (.dK [])) ql (.lst [])) wd (.dK (Au 0 ql))=H9 at s9 Na SG⊢;walk_at"s";intro cd MA;refine hR _ _ ?_;clear hR;have FZ:=fV (o:=.dK []) MA;have Ru:H8 cd=none:=by
    cases e:H8 cd with
    |none=>rfl
    |some o=>rw[s9 _ _ e]at MA;cases MA
   have Dk:rL (⟨cQ,cX,cV,cF,cA,dA⟩:Cl) wd cd ql (upd H9 cd (.dK [])) D8 [] [] []:=⟨(O8.same s9).same FZ,L8,⟨by rw[z8.2.1];exact FZ _ _ Na,⟨FZ _ _ SG,.nil⟩,⟨bX,fun c hc=>absurd hc aI,fun c hc=>absurd hc aI,yy⟩,fun b hb=>by
    simp only[iE,jg,aJ,ak,aI,or_false]at hb;rcases hb with q|q|q
    ·rw[q];exact O8.free MG
    ·rw[q];exact O8.free Ru
    ·rw[q];exact O8.free q8,fun z=>(by rw[z,MA]at Na;cases Na),fun z=>(by cases z)⟩⟩
   have JX:=FZ _ _ (s9 _ _ Ig);have KO:=Xw.trans (s9.trans FZ);have nlo:nl∉wd::cd::ql::iE []:=fun z=>by
    simp only[iE,jg,aJ,ak,aI,or_false]at z;rcases z with q|q|q
    ·rw[q,MG]at Ig;cases Ig
    ·rw[q,Ru]at Ig;cases Ig
    ·rw[q,q8]at Ig;cases Ig
   show dW _ _ _ _ (upd H9 cd (.dK []));generalize upd H9 cd (.dK [])=Js at Dk JX KO⊢;clear FZ s9 Na SG MA MG GC q8 Ru O8 B8 f8 L8 B5 PF SI TQ Xw fH Ig;have hS:=KO.seq hS;refine bJ fun R hR=>?_;refine DM fun Z hZ=>?_;walk_at"rd";obtain⟨ms,em,hm⟩:=zuj ns (some 1) (some 41);have ml:ms.length<=40:=by have:=UD (ns.map V.int) 1 41;rw[show mL (ns.map V.int) (some ((1:Nat):Int)) (some ((41:Nat):Int))=mL (ns.map V.int) (some 1) (some 41)from rfl,em,ai]at this;exact this
   refine OW hS fun sl Ia=>?_;rw[em];walk_at"rd";refine⟨⟨_,.of bX⟩,hZ _ _ ?_⟩;clear hZ;have NV:=fV (o:=.lst (ms.map V.int)) Ia;have Wj:=Dk.same NV;have JY:=NV _ _ JX;rw[show(mP.take j).map V.str++[V.str dM]=(mP.take j++[dM]).map V.str by rw[aA];rfl]at JY;have M7:upd Js sl (.lst (ms.map V.int)) sl=some (.lst (ms.map V.int)):=bX;have slf:sl∉D8.foot:=Dk.O.free Ia;have slo:sl∉wd::cd::ql::iE []:=fun z=>by obtain⟨o,ho,_⟩:=Dk.J.there z;rw[Ia]at ho;cases ho
   generalize upd Js sl (.lst (ms.map V.int))=Pa at Wj JY M7⊢;clear NV Ia JX Dk hS KO;have jl:(mP.take j++[dM]).length=j+1:=by rw[bg,aY];show min j 3+1=_;omega
   refine Hz (K:=K) (a:=sl) (xs:=ms.map V.int) (fun i σ H'=>∃v1 v5 v8 v9 D ps qu cs,σ=[some (.ref sc),v1,some (.ref x),some (.ref nl),some (.str ab),v5,some (.ref wd),some (.ref cd),v8,v9]/\rL (⟨cQ,cX,cV,cF,cA,dA⟩:Cl) wd cd ql H' D ps qu cs/\nj wd cd ql Pa D8 [] H' D cs/\D.ct<=3*i/\D.tm<=10000000*i) ⟨_,_,_,_,D8,[],[],[],rfl,Wj,nj.rfl',by omega,by omega⟩ (fun i σ H' _⟨_,_,_,_,_,_,_,_,_,_,h,_⟩=>.of (h.fr _ _ M7 slf slo).1) ?_ ?_
   ·rintro i w0 σ Wm hv ⟨v1,v5,v8,v9,D,ps,qu,cs,rfl,B,S,ct,tm⟩;obtain⟨y,rfl⟩:∃y,w0=V.int y:=by
     rw[aP]at hv;cases e:ms[i]? with
     |none=>rw[e]at hv;cases hv
     |some z=>rw[e]at hv;cases hv;exact⟨z,rfl⟩
    have hi:i<40:=by have:=(aL.mp hv).1;rw[ai]at this;omega
    show dW _ _ _ [some (.ref sc),some (.int y),some (.ref x),some (.ref nl),some (.str ab),v5,some (.ref wd),some (.ref cd),v8,v9] Wm;refine Bj fun N hN=>?_;walk_at"s";refine⟨y,6,rfl,by decide,fun xl xs Wn TM fx hx lx bx=>hR _ _ ?_⟩;clear hR;have xf:xl∉D.foot:=B.O.free fx;have xo:xl∉wd::cd::ql::iE cs:=fun z=>by obtain⟨o,ho,_⟩:=B.J.there z;rw[fx]at ho;cases ho
    have B:=B.same TM;have S:=S.same TM;clear TM fx;have hn:=(S.fr _ _ JY nl8 nlo).1;walk_at"s";refine nC 1 hx (by omega) fun y1 _=>V9 (.of hn) ⟨_,rfl,_,rfl,by rw[ai,jl];omega,?_⟩;rw[ai,jl];refine W6 hn (aW _ (by omega)) (by rw[jl];exact aN _ (by omega)) fun z hz=>hR _ _ ?_;clear hR;have zr:z≠road:=by
     rcases ao.mp hz with q|q
     ·exact(Wg _ (jR q)).2.1
     ·rw[au.mp q];exact QF.2
    have zf:∀{D':TD},D'.ns.map (·.nm)=D8.ns.map (·.nm)->aU D'.ns z≠none:=fun{D'} e=>GB.mpr (by rw[e,Nr];exact ae _ hz);refine bJ fun R hR=>?_;have last:∀CB D' wq As ds XD,rL (⟨cQ,cX,cV,cF,cA,dA⟩:Cl) wd cd ql CB D' wq As ds->nj wd cd ql Pa D8 [] CB D' ds->D'.ct<=3*(i+1)->D'.tm<=10000000*(i+1)->R [some (.ref sc),some (.int y),some (.ref x),some (.ref nl),some (.str ab),some (.str z),some (.ref wd),some (.ref cd),some (.ref xl),XD] CB:=fun CB D' wq As ds XD B' S' Pj Qn=>hR _ _ (by clear hR;obtain⟨dx,fs,hp,ft⟩:=B'.O.ex;rw[S'.p,p8,px]at hp;walk_at"rd";refine ig hp (nW ft _) ⟨D',z,by rw[S'.p,p8,px],B'.O,fun q=>absurd (q.resolve_left zr) (zf S'.nm),fun _ n AR=>?_⟩;refine⟨_,g7.k (k:=aC z) B'.J.hc.hd,rfl,?_⟩;rw[B'.L.cur AR,if_pos rfl];exact hN _ _ ⟨_,_,_,_,D',wq,As,ds,rfl,B',S',by omega,by omega⟩)
    clear hR hN;walk_at"rd";refine nC 0 hx (by omega) fun y0 _=>⟨_,rfl,fE (fun c0=>?_) fun c0=>?_⟩
    ·walk_at"rd";refine⟨D,wd,cd,ql,ps,qu,cs,xl,xs,by rw[S.p,p8,px],B,by omega,hx,by omega,xf,xo,fun D' wq As CB Mc S14 t14 c14=>last CB D' wq As cs v9 Mc (S.on S14) (by omega) (by omega)⟩
    ·walk_at"rd";refine nC 0 hx (by omega) fun y0' _=>⟨_,rfl,fE (fun c1=>?_) fun c1=>?_⟩
     ·refine bJ fun R2 GG=>?_;have on:∀CB,bE Wn CB->R2 [some (.ref sc),some (.int y),some (.ref x),some (.ref nl),some (.str ab),some (.str z),some (.ref wd),some (.ref cd),some (.ref xl),v9] CB:=fun CB Dg=>GG _ _ (by walk_at"rd";exact⟨D,wd,cd,ql,ps,qu,cs,z,xl,xs,by rw[S.p,p8,px],B.same Dg,by omega,zr,zf S.nm,Dg _ _ hx,by omega,xf,xo,fun D' ds Q0 QX Rh t15 c15=>last Q0 D' ps qu ds v9 QX ((S.same Dg).on Rh) (by omega) (by omega)⟩)
      clear GG last;walk_at"rd";refine nC 1 hx (by omega) fun y1' _=>⟨_,rfl,fE (fun c2=>?_) fun c2=>on Wn fun _ _ e=>e⟩;refine⟨D,z,xl,xs,by rw[S.p,p8,px],B.O,B.L.dy.W,zr,zf S.nm,hx,by omega,fun CB Dg=>⟨true,rfl,?_⟩⟩;rw[if_neg (by decide)];exact on CB Dg
     ·refine bJ fun R2 GG=>?_;obtain⟨dx,fs,hp,ft⟩:=B.O.ex;rw[S.p,p8,px]at hp;have m1:=B.L.dy.W.m1;have t0:=B.L.t0;walk_at"rd";refine nC 1 hx (by omega) fun a1 _=>⟨_,rfl,nC 1 hx (by omega) fun a2 _=>eL hp T.aH T.eA ft.mo ?_⟩;walk_at"rd";refine⟨⟨Sw.Sz.lit (by decide),(show Sw.Sz 70 D.most from Sw.Sz.sf (by omega) (by omega)).mono (by decide)⟩,by omega,nC 1 hx (by omega) fun a3 _=>eL hp T.aH T.eA ft.mo ⟨_,rfl,_,rfl,by omega,fun p14 RG=>nC 2 (fV RG _ _ hx) (by omega) fun a4 _=>⟨_,rfl,?_⟩⟩⟩;refine EG _ RG (aW _ (by decide)) (aN _ (by decide)) fun sv xV CB Dg=>?_;obtain⟨dv,rfl,db⟩:∃dv:Int,sv= .int dv/\0<=dv/\dv<=9000000:=by
       have b1:=aW a1 (show(6:Int)≠0 by decide);have b2:=aN a1 (show(0:Int)<6 by decide);have b3:=aW a2 (show 1+9*D.most≠0 by omega);have b4:=aN a2 (show 0<1+9*D.most by omega);have b5:=aW a3 (show 1+D.most≠0 by omega);have b6:=aN a3 (show 0<1+D.most by omega);simp only[ak,aI,or_false]at xV;rcases xV with q|q|q|q|q
       ·exact⟨_,q,by omega⟩
       ·exact⟨_,q,by omega⟩
       ·exact⟨_,q,by omega⟩
       ·exact⟨_,q,by omega⟩
       ·exact⟨_,q,by omega⟩
      refine GG _ _ ?_;clear GG xV RG hp ft;have Mc:=B.same Dg;obtain⟨dx,fs,hp,ft⟩:=Mc.O.ex;rw[S.p,p8,px]at hp;walk_at"rd";refine ig hp (nW ft _) ⟨D,by rw[S.p,p8,px],Mc.O,?_⟩;refine⟨_,rfl,D,wd,cd,ql,ps,qu,cs,_,by rw[S.p,p8,px],Mc,⟨by omega,by omega⟩,fun D' wq As ds Q0 QX Rh t15 c15=>⟨true,rfl,?_⟩⟩;rw[if_neg (by decide)];exact last Q0 D' wq As ds _ QX ((S.same Dg).on Rh) (by omega) (by omega)
   ·rintro σ Wm ⟨v1,v5,v8,v9,D,ps,qu,cs,rfl,B,S,ct,tm⟩;refine hR _ _ ?_;clear hR;rw[ai]at ct tm;obtain⟨dx,fs,hp,ft⟩:=B.O.ex;rw[S.p,p8,px]at hp;walk_at"rd";refine ig hp (nW ft _) ⟨D,by rw[S.p,p8,px],B.O,?_⟩;have t0:=B.L.t0;exact⟨_,rfl,D,wd,cd,ql,ps,qu,cs,_,by rw[S.p,p8,px],B,⟨by omega,by omega⟩,fun _ _ _ _ H' _ _ _ _=>k H'⟩
end
theorem all_mk{l:uz}{w:World}{K:aa}{h:Heap}{mg:Str->Option Value}{fa f qa qb qc qd qe qf qg qh qi qj qk ql qm qn qo qp qr qs:Addr}(X:K.In h)(G:h.Ns mainGlobals mg)(hfa:mg "law"=some (.ref fa)){od an:Option Addr}{sl:Array (Option Value)}{oc kV dc pm cd ct:Value}(a:mK K mainGlobals "law"=some (some (.ref f)))(lk:K.lookup f=some ⟨oc,od,.func (bC "law" "law" (vq qU) (o8 qU) (d9 qU) .none kV dc pm an cd ct),sl⟩)(c:c9 K cd "law"=true)(k:aO K (.ref f)=true)(T:Txt K mg qa qb qc qd qe qf qg qh qi qj qk ql qm qn qo qp qr qs):∃fd:FuncData,(∀(s:Shared)(v:Value),BindsTo s fd ⟨[v],[]⟩ [("_law_script",v)])/\∀base:Heap,K.In base->base.Ns mainGlobals mg->pX l.prog w K mg base Li 12 fa fd ["_law_script"] (BW K):=by
  have e:=hfa.symm.trans (eK X G a);cases e
  exact⟨bC "law" "law" (vq qU) (o8 qU) (d9 qU) .none kV dc pm an cd ct,fun s v=>.of_eq rfl,fun base _ _=>Vy _ _ _ (Jl (st:=qU) lk c k) T⟩
theorem walk{l:uz}{q:Program}{wS:List Str}{XP:(Str->Option Value)->Heap->Prop}{YP:World->Heap->Prop}{d:DefRec}{K:Params->aa}(hn:l.most=some 63)(MS:d.params.defaults=[])(hY:∀(w:World)(h:Heap),YP w h->(K w.params).In h)(F:∀(w:World)(mg:Str->Option Value)(fa:Addr)(h:Heap),(K w.params).In h->h.Ns mainGlobals mg->mg d.name=some (.ref fa)->
      ∃fd:FuncData,(∀(s:Shared)(u:Value),BindsTo s fd ⟨[u],[]⟩ [("_law_script",u)])/\∀base:Heap,(K w.params).In base->base.Ns mainGlobals mg->pX l.prog w (K w.params) mg base Li 12 fa fd ["_law_script"] (BW (K w.params))):
    HP q wS XP YP l.row.toRowW d [] (fun f vs=>D9 f vs):=
  L2.Hv (n:=63) (k:=12) (x:="_law_script") (CX:=fun _=>Li) (sp:=fun w=>BW (K w.params)) hn (by decide) MS ⟨rfl,by decide,by decide⟩ hY F (fun _ _ a ns hl _ hS=>⟨a,ns,rfl,hS,hl,fun _=>rfl⟩) fun _ _ _ _ _ z=>z
end K64
namespace PySem.W.Fast
theorem te11023435922332583018:True:=⟨⟩
theorem tw17798323734826050067:True:=⟨⟩
theorem tw11602817669112175440:True:=⟨⟩
theorem tw1034848017100798347:True:=⟨⟩
theorem tw3034953948551780218:True:=⟨⟩
theorem tw5134386039763180223:True:=⟨⟩
theorem tw18320451752498734499:True:=⟨⟩
theorem tw1411367520358525468:True:=⟨⟩
theorem tw16054896799171517366:True:=⟨⟩
theorem tw14678583949367158990:True:=⟨⟩
theorem tw4138665132232690602:True:=⟨⟩
theorem tw418059316212536451:True:=⟨⟩
theorem tw15783083969200328601:True:=⟨⟩
theorem tw9644873245058208034:True:=⟨⟩
theorem tw959922273486341801:True:=⟨⟩
theorem tw750312985650224267:True:=⟨⟩
theorem tw17955384643034731029:True:=⟨⟩
theorem tw6812938329098430566:True:=⟨⟩
theorem tw5833121130461878811:True:=⟨⟩
theorem tw3101758754072409256:True:=⟨⟩
theorem tw7158124824160986802:True:=⟨⟩
theorem tw10239500489480552414:True:=⟨⟩
theorem tw12517328940439251591:True:=⟨⟩
theorem tw14384623703445169281:True:=⟨⟩
theorem tw5903026625681406514:True:=⟨⟩
theorem tw14711337105060025910:True:=⟨⟩
theorem tw212493570814138716:True:=⟨⟩
theorem tw6926253787213250383:True:=⟨⟩
theorem tw11140558029446726895:True:=⟨⟩
theorem tw6927910631376859645:True:=⟨⟩
theorem tw11664413343433376325:True:=⟨⟩
theorem tw6980456250004098741:True:=⟨⟩
theorem tw17588682679056864147:True:=⟨⟩
theorem tw4232087756121744205:True:=⟨⟩
theorem tw16330273305366463608:True:=⟨⟩
theorem tw12747755452963407291:True:=⟨⟩
theorem tw17098496975991145910:True:=⟨⟩
theorem tw13563421521775048739:True:=⟨⟩
theorem tw11421275963350096434:True:=⟨⟩
theorem tw9964827498327638049:True:=⟨⟩
theorem tw10833701469413246634:True:=⟨⟩
theorem tw16530718799259360843:True:=⟨⟩
theorem tw17892313908528296572:True:=⟨⟩
theorem tw11667890917859841550:True:=⟨⟩
theorem tw11797381623916429982:True:=⟨⟩
theorem tw4116386377277623942:True:=⟨⟩
theorem tw14840699608457193924:True:=⟨⟩
theorem tw2294079773441588424:True:=⟨⟩
theorem tw17970321725951261171:True:=⟨⟩
theorem tw15564601702475482767:True:=⟨⟩
theorem tw15705069583745236280:True:=⟨⟩
theorem tw6849719069092511220:True:=⟨⟩
theorem tw10929912187737472456:True:=⟨⟩
theorem tw18444237492228117910:True:=⟨⟩
theorem tw10726367638597400970:True:=⟨⟩
theorem tw11919705090776450087:True:=⟨⟩
theorem tw7416469503773695582:True:=⟨⟩
theorem tw9003705020768571620:True:=⟨⟩
theorem tw16454152055375637362:True:=⟨⟩
theorem tw10077256177855526695:True:=⟨⟩
theorem tw6938493804674859845:True:=⟨⟩
theorem tw12737086268678353939:True:=⟨⟩
theorem tw8317544706008494768:True:=⟨⟩
theorem tw10635243846710587574:True:=⟨⟩
theorem tw9397228632118483820:True:=⟨⟩
theorem tw1201913598052109902:True:=⟨⟩
theorem tw10035290485141942913:True:=⟨⟩
theorem tw9780944219898214732:True:=⟨⟩
theorem tw11171961170660477116:True:=⟨⟩
theorem tw18101614208029514039:True:=⟨⟩
theorem tw15087352623725041078:True:=⟨⟩
theorem tw9978709676711689393:True:=⟨⟩
theorem tw12936709599716021372:True:=⟨⟩
theorem tw16839912435245842328:True:=⟨⟩
theorem tw6785363574838878605:True:=⟨⟩
theorem tw13760495297495350493:True:=⟨⟩
theorem tw714996485051739112:True:=⟨⟩
theorem tw6258445876431433926:True:=⟨⟩
theorem tw14011471894541774110:True:=⟨⟩
theorem tw8257310919561937021:True:=⟨⟩
theorem tw9244645619491380760:True:=⟨⟩
theorem tw12783998284950747893:True:=⟨⟩
theorem tw1904588135860345684:True:=⟨⟩
theorem tw341704107101461971:True:=⟨⟩
theorem tw7352993536132713918:True:=⟨⟩
theorem tw6421707054885078860:True:=⟨⟩
theorem tw3420119859284362633:True:=⟨⟩
theorem tw8996545563846902864:True:=⟨⟩
theorem tw6947845379696836451:True:=⟨⟩
theorem tw3573707542928589707:True:=⟨⟩
theorem tw7568353876880456486:True:=⟨⟩
theorem tw16569637445605640723:True:=⟨⟩
theorem tw6579389226543179458:True:=⟨⟩
theorem tw12776195535224160459:True:=⟨⟩
theorem tw6762031965895153062:True:=⟨⟩
theorem tw14927268374137883553:True:=⟨⟩
theorem tw16645000425559977092:True:=⟨⟩
theorem tw12481958959705942145:True:=⟨⟩
theorem tw17041325897278884299:True:=⟨⟩
theorem tw1513525698657833308:True:=⟨⟩
theorem tw1041008146327866790:True:=⟨⟩
theorem tw3680214659566544818:True:=⟨⟩
theorem tw11544735067864228191:True:=⟨⟩
theorem tw2192095475178083596:True:=⟨⟩
theorem tw16210856810259346986:True:=⟨⟩
theorem tw7885322056059721018:True:=⟨⟩
theorem tw15503702947869752776:True:=⟨⟩
theorem tw14252053711007223272:True:=⟨⟩
theorem tw13409149315976542012:True:=⟨⟩
theorem tw15270201454963235805:True:=⟨⟩
theorem tw16348704715832885672:True:=⟨⟩
theorem tw10669880724645950606:True:=⟨⟩
theorem tw13877375801064109182:True:=⟨⟩
theorem tw17465877492446830155:True:=⟨⟩
theorem tw1637291982673301853:True:=⟨⟩
theorem tw511550495001377709:True:=⟨⟩
theorem tw10451383997415826586:True:=⟨⟩
theorem tw4153400605567324836:True:=⟨⟩
theorem tw5541166864379512475:True:=⟨⟩
theorem tw4465381302801159009:True:=⟨⟩
theorem tw11371556212197382396:True:=⟨⟩
theorem tw5158952756732347679:True:=⟨⟩
theorem tw15529511459470058643:True:=⟨⟩
theorem tw10974110985827393458:True:=⟨⟩
theorem tw7663681106848697403:True:=⟨⟩
theorem tw12181031338518668393:True:=⟨⟩
theorem tw4682704458107256318:True:=⟨⟩
theorem tw10677560408873631037:True:=⟨⟩
theorem tw15427974637056946956:True:=⟨⟩
theorem tw12688166654231938281:True:=⟨⟩
theorem tw6220800598144567151:True:=⟨⟩
theorem tw6034732678763132954:True:=⟨⟩
theorem tw7496117608216546411:True:=⟨⟩
theorem tw4107674528579854023:True:=⟨⟩
theorem tw2122042425936921461:True:=⟨⟩
theorem tw10790289872717397282:True:=⟨⟩
theorem tw6067482753390922843:True:=⟨⟩
theorem tw7212119342147175039:True:=⟨⟩
theorem tw9574420981834595481:True:=⟨⟩
theorem tw13357961446153697002:True:=⟨⟩
theorem tw12968255945222141446:True:=⟨⟩
theorem tw8042100564731719423:True:=⟨⟩
theorem tw12326195589676259998:True:=⟨⟩
theorem tw13746262844787994933:True:=⟨⟩
theorem tw90396900205552155:True:=⟨⟩
theorem tw6022709932828518427:True:=⟨⟩
theorem tw9387144105501391371:True:=⟨⟩
theorem tw18065957289735685997:True:=⟨⟩
theorem tw5391969652638269728:True:=⟨⟩
theorem tw10240995737812908868:True:=⟨⟩
theorem tw3681360327971186047:True:=⟨⟩
theorem tw17655309321941958128:True:=⟨⟩
theorem tw17095893916705779216:True:=⟨⟩
theorem tw2811392333690483294:True:=⟨⟩
theorem tw11803664876333754113:True:=⟨⟩
theorem tw1409480944223830388:True:=⟨⟩
theorem tw15929758863177293913:True:=⟨⟩
theorem tw18128794333206790030:True:=⟨⟩
theorem tw3090026085831084819:True:=⟨⟩
theorem tw10425528991056008806:True:=⟨⟩
theorem tw14871414352185769316:True:=⟨⟩
theorem tw10331442481962177136:True:=⟨⟩
theorem tw4763801325116824068:True:=⟨⟩
theorem tw3610490130968712889:True:=⟨⟩
theorem tw16558837325333983806:True:=⟨⟩
theorem tw7692062058944483042:True:=⟨⟩
theorem tw8312755846522601400:True:=⟨⟩
theorem tw9074434849842567391:True:=⟨⟩
theorem tw11332225771012902443:True:=⟨⟩
theorem tw10787625101463535026:True:=⟨⟩
theorem tw3523723945857206412:True:=⟨⟩
theorem tw16119748579213227800:True:=⟨⟩
theorem tw858626033331679004:True:=⟨⟩
theorem tw16253145427934350371:True:=⟨⟩
theorem tw3831445022696816248:True:=⟨⟩
theorem tw7625664056544228961:True:=⟨⟩
theorem tw16645539213233398023:True:=⟨⟩
theorem tw9452324692051672836:True:=⟨⟩
theorem tw2561997681383586502:True:=⟨⟩
theorem tw6473676354512809736:True:=⟨⟩
theorem tw17382241190182091930:True:=⟨⟩
theorem tw10469637388487202856:True:=⟨⟩
theorem tw15393709535679298761:True:=⟨⟩
theorem tw15432822307910863655:True:=⟨⟩
theorem tw87897111365341802:True:=⟨⟩
theorem tw8173914336937830502:True:=⟨⟩
theorem tw13716688480513794724:True:=⟨⟩
theorem tw18388455737392089083:True:=⟨⟩
theorem tw2457061988909131570:True:=⟨⟩
theorem tw2535373098279063970:True:=⟨⟩
theorem tw921861957903937407:True:=⟨⟩
theorem tw5326605242764052915:True:=⟨⟩
theorem tw13916578239192794191:True:=⟨⟩
theorem tw15040688396592583460:True:=⟨⟩
theorem tw18348252411398728492:True:=⟨⟩
theorem tw3017116973230191471:True:=⟨⟩
theorem tw10476006041114299478:True:=⟨⟩
theorem tw17889198640283201121:True:=⟨⟩
theorem tw8217270547282413992:True:=⟨⟩
theorem tw14599550355385969594:True:=⟨⟩
theorem tw6672396679924914673:True:=⟨⟩
theorem tw14928850639256372876:True:=⟨⟩
theorem tw18274477183403077225:True:=⟨⟩
theorem tw7336539157849869837:True:=⟨⟩
theorem tw8368785249378215882:True:=⟨⟩
theorem tw18068305309379240816:True:=⟨⟩
theorem tw16094074229198473694:True:=⟨⟩
theorem tw12733376657637673041:True:=⟨⟩
theorem tw7223648523701058129:True:=⟨⟩
theorem tw315347583556739030:True:=⟨⟩
theorem tw13669126464631206197:True:=⟨⟩
theorem tw5599830998812886864:True:=⟨⟩
theorem tw495301352913633287:True:=⟨⟩
theorem tw7190843481849827829:True:=⟨⟩
theorem tw8097155856158877047:True:=⟨⟩
theorem tw12210732968110645128:True:=⟨⟩
theorem tw7749880862617644663:True:=⟨⟩
theorem tw11127246829894827664:True:=⟨⟩
theorem tw1227674321274967503:True:=⟨⟩
theorem tw369889285609413253:True:=⟨⟩
theorem tw11393417970463423394:True:=⟨⟩
theorem tw16967017255411337673:True:=⟨⟩
theorem tw16330714490139622728:True:=⟨⟩
theorem tw11768326415932361412:True:=⟨⟩
theorem tw18035130329412418438:True:=⟨⟩
theorem tw3998340898368129536:True:=⟨⟩
theorem tw8269177421355443575:True:=⟨⟩
theorem tw5922064437659573088:True:=⟨⟩
theorem tw13244954676931552729:True:=⟨⟩
theorem tw2188003326067043667:True:=⟨⟩
theorem tw7658529324326480747:True:=⟨⟩
theorem tw7867361062673351460:True:=⟨⟩
theorem tw6502368423796873068:True:=⟨⟩
theorem tw16496089260330822577:True:=⟨⟩
theorem tw11115351120744406316:True:=⟨⟩
theorem tw4875153657228969425:True:=⟨⟩
theorem tw11593656654228312189:True:=⟨⟩
theorem tw10412283879804299993:True:=⟨⟩
theorem tw399739133202534858:True:=⟨⟩
theorem tw14718376934280906991:True:=⟨⟩
theorem tw12816408677098782702:True:=⟨⟩
theorem tw814775888749051664:True:=⟨⟩
theorem tw10913584214509090515:True:=⟨⟩
theorem tw9239165007630550205:True:=⟨⟩
theorem tw18371167494085424736:True:=⟨⟩
theorem tw6732228121357568313:True:=⟨⟩
theorem tw4184119403281857866:True:=⟨⟩
theorem tw9037936628144025423:True:=⟨⟩
theorem tw15479664806897960462:True:=⟨⟩
theorem tw8060156390659236639:True:=⟨⟩
theorem tw1884155925735452476:True:=⟨⟩
theorem tw13491285529953640553:True:=⟨⟩
theorem tw5203977239492540613:True:=⟨⟩
theorem tw3816695945734335646:True:=⟨⟩
theorem tw7823668882197822992:True:=⟨⟩
theorem tw15888971480627928711:True:=⟨⟩
theorem tw99149216851828980:True:=⟨⟩
theorem tw13635858429292925726:True:=⟨⟩
theorem tw17742296671766959011:True:=⟨⟩
theorem tw274250880764984232:True:=⟨⟩
theorem tw15149874982094521702:True:=⟨⟩
theorem tw384249939860998383:True:=⟨⟩
theorem tw13849305451468863391:True:=⟨⟩
theorem tw6059291804664588431:True:=⟨⟩
theorem tw11621051307485608217:True:=⟨⟩
theorem tw2168293432365574094:True:=⟨⟩
theorem tw10146811829307009227:True:=⟨⟩
theorem tw7304316890597976024:True:=⟨⟩
theorem tw17875789434210773339:True:=⟨⟩
theorem tw16802996843742413829:True:=⟨⟩
theorem tw4419657540760937649:True:=⟨⟩
theorem tw3715755365261718864:True:=⟨⟩
theorem tw7250934213293520836:True:=⟨⟩
theorem tw7022061681940271635:True:=⟨⟩
theorem tw14913663891651164571:True:=⟨⟩
theorem tw15260183949867802404:True:=⟨⟩
theorem tw492862958921435034:True:=⟨⟩
theorem tw9265026062406513787:True:=⟨⟩
theorem tw13757678872651441687:True:=⟨⟩
theorem tw4930123117490402434:True:=⟨⟩
theorem tw10791221986879136719:True:=⟨⟩
theorem tw7955778890584957574:True:=⟨⟩
theorem tw2781787120315499270:True:=⟨⟩
theorem tw16337861371836623944:True:=⟨⟩
theorem tw5143450226103793670:True:=⟨⟩
theorem tw16539440953512614078:True:=⟨⟩
theorem tw1912534854539885156:True:=⟨⟩
theorem tw10074206458780772056:True:=⟨⟩
theorem tw15849590762368772897:True:=⟨⟩
theorem tw258554457910282287:True:=⟨⟩
theorem tw10844024200009665515:True:=⟨⟩
theorem tw15226981614192583954:True:=⟨⟩
theorem tw5379645488577044208:True:=⟨⟩
theorem tw6650416009495717183:True:=⟨⟩
theorem tw11798839651130943224:True:=⟨⟩
theorem tw10773370268328914979:True:=⟨⟩
theorem tw13884178808565099783:True:=⟨⟩
theorem tw9873193496752733256:True:=⟨⟩
theorem tw9341081120817137978:True:=⟨⟩
theorem tw13946919978920000395:True:=⟨⟩
theorem tw7395551685830003284:True:=⟨⟩
theorem tw2830179607278630735:True:=⟨⟩
theorem tw2604289487390698245:True:=⟨⟩
theorem tw4073203076282906308:True:=⟨⟩
theorem tw14812544946218599506:True:=⟨⟩
theorem tw16104092128064958243:True:=⟨⟩
theorem tw6526542072013574944:True:=⟨⟩
theorem tw4191813648657048128:True:=⟨⟩
theorem tw3772333406783446826:True:=⟨⟩
theorem tw3803843208999214428:True:=⟨⟩
theorem tw1719036771000946462:True:=⟨⟩
theorem tw7973640859009139185:True:=⟨⟩
theorem tw14908483799810855662:True:=⟨⟩
theorem tw15926025776638216332:True:=⟨⟩
theorem tw8372768649537076360:True:=⟨⟩
theorem tw11690807613003885857:True:=⟨⟩
theorem tw804559947897543721:True:=⟨⟩
theorem tw13942433774070558800:True:=⟨⟩
theorem tw14265549457199433794:True:=⟨⟩
theorem tw17627062468171975745:True:=⟨⟩
theorem tw2082917347967348911:True:=⟨⟩
theorem tw5068756502565913066:True:=⟨⟩
theorem tw14105418029111396736:True:=⟨⟩
theorem tw15080718367895363621:True:=⟨⟩
theorem tw13733708288184198668:True:=⟨⟩
theorem tw9528800772761764839:True:=⟨⟩
theorem tw898356259219011534:True:=⟨⟩
theorem tw2336383511389353471:True:=⟨⟩
theorem tw15457951087677808246:True:=⟨⟩
theorem tw5420251850697706794:True:=⟨⟩
theorem tw5751852264526837840:True:=⟨⟩
theorem tw8210964626676747542:True:=⟨⟩
theorem tw17002055500396874621:True:=⟨⟩
theorem tw4313833362388404621:True:=⟨⟩
theorem tw4189831683103160356:True:=⟨⟩
theorem tw2419744534116494346:True:=⟨⟩
theorem tw15619455194235653273:True:=⟨⟩
theorem tw5320959029100771749:True:=⟨⟩
theorem tw1938046257565621976:True:=⟨⟩
theorem tw989566525137650079:True:=⟨⟩
theorem tw13975910402652029300:True:=⟨⟩
theorem tw12943970294340808677:True:=⟨⟩
theorem tw8254353516392714416:True:=⟨⟩
theorem tw11859287096302729264:True:=⟨⟩
theorem tw1139930170396728314:True:=⟨⟩
theorem tw6947350890551369374:True:=⟨⟩
theorem tw15280132903337266222:True:=⟨⟩
theorem tw8348182567569064485:True:=⟨⟩
theorem tw12486833446705584858:True:=⟨⟩
theorem tw10127341221227348014:True:=⟨⟩
theorem tw1815135613876891556:True:=⟨⟩
theorem tw17598321750053817467:True:=⟨⟩
theorem tw10583199325744056459:True:=⟨⟩
theorem tw17964991911837544401:True:=⟨⟩
theorem tw6873078996996360137:True:=⟨⟩
theorem tw842361676713759509:True:=⟨⟩
theorem tw11277315261614610022:True:=⟨⟩
theorem tw9791678618187465221:True:=⟨⟩
theorem tw18305879340624090209:True:=⟨⟩
theorem tw11544333243821043278:True:=⟨⟩
theorem tw15024190811693517614:True:=⟨⟩
theorem tw12597350534094616905:True:=⟨⟩
theorem tw7520463508183579435:True:=⟨⟩
theorem tw10372257907163058469:True:=⟨⟩
theorem tw4580004385015191045:True:=⟨⟩
theorem tw12552707563781612723:True:=⟨⟩
theorem tw14898554938007343882:True:=⟨⟩
theorem tw16484987020033471749:True:=⟨⟩
theorem tw12431371441420518009:True:=⟨⟩
theorem tw9107361700839209364:True:=⟨⟩
theorem tw11800427842892195434:True:=⟨⟩
theorem tw16162876346493311764:True:=⟨⟩
theorem tw2487195795512334985:True:=⟨⟩
theorem tw15831969833830781186:True:=⟨⟩
theorem tw439136794829253976:True:=⟨⟩
theorem tw15259528737185389564:True:=⟨⟩
theorem tw12488160533685799583:True:=⟨⟩
theorem tw15490683905895224219:True:=⟨⟩
theorem tw8602675949031194935:True:=⟨⟩
theorem tw6290504938938073695:True:=⟨⟩
theorem tw6648491376520962911:True:=⟨⟩
theorem tw13887855689285561243:True:=⟨⟩
theorem tw5540320880045205687:True:=⟨⟩
theorem tw15415828052390067707:True:=⟨⟩
theorem tw16188776535604739423:True:=⟨⟩
theorem tw656605492164735433:True:=⟨⟩
theorem tw17230170445326739619:True:=⟨⟩
theorem tw13457377194464954159:True:=⟨⟩
theorem tw12628016741019704998:True:=⟨⟩
theorem tw13158611418040666343:True:=⟨⟩
theorem tw13041558775664193960:True:=⟨⟩
theorem tw11161396878568646583:True:=⟨⟩
theorem tw15574716908831647214:True:=⟨⟩
theorem tw1608938162486782175:True:=⟨⟩
theorem tw12118536608789791431:True:=⟨⟩
theorem tw5824774893771407237:True:=⟨⟩
theorem tw16605061525269137129:True:=⟨⟩
theorem tw11608563416144788962:True:=⟨⟩
theorem tw12226598049732027856:True:=⟨⟩
theorem tw1455471862762941455:True:=⟨⟩
theorem tw13776510906976108368:True:=⟨⟩
theorem tw12184356256424741427:True:=⟨⟩
theorem tw13774900379958844086:True:=⟨⟩
theorem tw16030339222366106303:True:=⟨⟩
theorem tw11592873633753192252:True:=⟨⟩
theorem tw12719388622744440589:True:=⟨⟩
theorem tw1152287672070896338:True:=⟨⟩
theorem tw7662143662617817579:True:=⟨⟩
theorem tw16806531623129144919:True:=⟨⟩
theorem tw10499830439631735129:True:=⟨⟩
theorem tw5325699780715697362:True:=⟨⟩
theorem tw11230300905157196587:True:=⟨⟩
theorem tw14371064231456654088:True:=⟨⟩
theorem tw12585359472444325479:True:=⟨⟩
theorem tw17536164663874302582:True:=⟨⟩
theorem tw3409484537611331989:True:=⟨⟩
theorem tw11282490639748415777:True:=⟨⟩
theorem tw5969918685979029892:True:=⟨⟩
theorem tw17201720203064260957:True:=⟨⟩
theorem tw9273046278570359483:True:=⟨⟩
theorem tw10593628419726760330:True:=⟨⟩
theorem tw664131153054349247:True:=⟨⟩
theorem tw1171441181692061096:True:=⟨⟩
theorem tw13950736042961401273:True:=⟨⟩
theorem tw2740168777470049526:True:=⟨⟩
theorem tw16944736016598359826:True:=⟨⟩
theorem tw351549178340666660:True:=⟨⟩
theorem tw14969672629021323841:True:=⟨⟩
theorem tw16439797384664885777:True:=⟨⟩
theorem tw11777166269730631824:True:=⟨⟩
theorem tw14149584462084241716:True:=⟨⟩
theorem tw11129763951574818449:True:=⟨⟩
theorem tw1936425530618242974:True:=⟨⟩
theorem tw11600162664419684255:True:=⟨⟩
theorem tw8955314980616802322:True:=⟨⟩
theorem tw9377559219324519955:True:=⟨⟩
theorem tw3048918903606156604:True:=⟨⟩
theorem tw5942727190456783411:True:=⟨⟩
theorem tw173364871156603593:True:=⟨⟩
theorem tw10207281783792164817:True:=⟨⟩
theorem tw8080672285003789327:True:=⟨⟩
theorem tw13788063664657523970:True:=⟨⟩
theorem tw750015571509057805:True:=⟨⟩
theorem tw3754889473723840684:True:=⟨⟩
theorem tw6214791860605655752:True:=⟨⟩
theorem tw624181874232991891:True:=⟨⟩
theorem tw13502351090872093430:True:=⟨⟩
theorem tw17379793050170966685:True:=⟨⟩
theorem tw7771225837135306198:True:=⟨⟩
theorem tw11740732746475753235:True:=⟨⟩
theorem tw10322856839275755689:True:=⟨⟩
theorem tw10535289028421741888:True:=⟨⟩
theorem tw7100308641740410762:True:=⟨⟩
theorem tw13713224528423653592:True:=⟨⟩
theorem tw1565542692116421873:True:=⟨⟩
theorem tw7709536785734677000:True:=⟨⟩
theorem tw6834223950086249055:True:=⟨⟩
theorem tw12054523907444592553:True:=⟨⟩
theorem tw1324023734659757368:True:=⟨⟩
theorem tw17234642100990707805:True:=⟨⟩
theorem tw17628909400429338382:True:=⟨⟩
theorem tw12577082737594383834:True:=⟨⟩
theorem tw18250035707021961850:True:=⟨⟩
theorem tw6191577836527474514:True:=⟨⟩
theorem tw10822347040823286334:True:=⟨⟩
theorem tw6755393472784395125:True:=⟨⟩
theorem tw10261615284070191719:True:=⟨⟩
theorem tw16159355408802199094:True:=⟨⟩
theorem tw16570836563422585532:True:=⟨⟩
theorem tw17644805696998931853:True:=⟨⟩
theorem tw14580247180633896766:True:=⟨⟩
theorem tw8002083761056592434:True:=⟨⟩
theorem tw12177116742599219686:True:=⟨⟩
theorem tw4296351046690342823:True:=⟨⟩
theorem tw7597591652569891918:True:=⟨⟩
theorem tw4805865870974724577:True:=⟨⟩
theorem tw11662960282243124111:True:=⟨⟩
theorem tw13559255986298110322:True:=⟨⟩
theorem tw2793476947019285548:True:=⟨⟩
theorem tw13542834717985196319:True:=⟨⟩
theorem tw16767258820873664427:True:=⟨⟩
theorem tw13091680671442544602:True:=⟨⟩
theorem tw18082845893675762157:True:=⟨⟩
theorem tw6288106086633089482:True:=⟨⟩
theorem tw16550902951664835022:True:=⟨⟩
theorem tw14256021071861139839:True:=⟨⟩
theorem tw16823577728606334803:True:=⟨⟩
theorem tw10138186400544149720:True:=⟨⟩
theorem tw18422166174840069328:True:=⟨⟩
theorem tw11186113664301972305:True:=⟨⟩
theorem tw11375295865759892849:True:=⟨⟩
theorem tw13422544711743047545:True:=⟨⟩
theorem tw5855382277564008898:True:=⟨⟩
theorem tw11283393136278908282:True:=⟨⟩
theorem tw377005000703883065:True:=⟨⟩
theorem tw7559856068819608972:True:=⟨⟩
theorem tw10849272897850053497:True:=⟨⟩
theorem tw12912951146353931003:True:=⟨⟩
theorem tw14572426732929745902:True:=⟨⟩
theorem tw8284224442915192648:True:=⟨⟩
theorem tw757503165449748:True:=⟨⟩
theorem tw5120005609132846711:True:=⟨⟩
theorem tw15274161542109660572:True:=⟨⟩
theorem tw3218460957548227248:True:=⟨⟩
theorem tw14647698378738802796:True:=⟨⟩
theorem tw12213858683523415510:True:=⟨⟩
theorem tw2583539193750483869:True:=⟨⟩
theorem tw553302029280949822:True:=⟨⟩
theorem tw1739502162778422930:True:=⟨⟩
theorem tw9823302187133112343:True:=⟨⟩
theorem tw18401897473583666729:True:=⟨⟩
theorem tw6778981627837969754:True:=⟨⟩
theorem tw15573905480358067893:True:=⟨⟩
theorem tw6181922487935669987:True:=⟨⟩
theorem tw7267204339344333121:True:=⟨⟩
theorem tw7024844287863532755:True:=⟨⟩
theorem tw9630253264126709466:True:=⟨⟩
theorem tw8978647952804436747:True:=⟨⟩
theorem tw3927461595774096024:True:=⟨⟩
theorem tw16689468445643479667:True:=⟨⟩
theorem tw14241172621145630447:True:=⟨⟩
theorem tw420356381599268141:True:=⟨⟩
theorem tw4961376017197793053:True:=⟨⟩
theorem tw5555132701778936803:True:=⟨⟩
theorem tw8670971897068265014:True:=⟨⟩
theorem tw11739747920918441113:True:=⟨⟩
theorem tw1708490441128374945:True:=⟨⟩
theorem tw12493957120311162857:True:=⟨⟩
theorem tw11516252095836281301:True:=⟨⟩
theorem tw3577313541001431993:True:=⟨⟩
theorem tw17738117520070995897:True:=⟨⟩
theorem tw12774006586300785767:True:=⟨⟩
theorem tw3385847755377366762:True:=⟨⟩
theorem tw46286198270473689:True:=⟨⟩
theorem tw12831130534431104994:True:=⟨⟩
theorem tw2162480053862123010:True:=⟨⟩
theorem tw6167037851032887423:True:=⟨⟩
theorem tw13090578434605477329:True:=⟨⟩
theorem tw12464883267368482335:True:=⟨⟩
theorem tw7211282300302705556:True:=⟨⟩
theorem tw9171566522139450337:True:=⟨⟩
theorem tw14104228484361934771:True:=⟨⟩
theorem tw8838733820097208915:True:=⟨⟩
theorem tw1929733257385395426:True:=⟨⟩
theorem tw2999969317012849924:True:=⟨⟩
theorem tw11373693583527317376:True:=⟨⟩
theorem tw8802033745703302084:True:=⟨⟩
theorem tw11827511135541031288:True:=⟨⟩
theorem tw13442963254726717014:True:=⟨⟩
theorem tw12113886091864350538:True:=⟨⟩
theorem tw3579156444649649616:True:=⟨⟩
theorem tw7095713587030472462:True:=⟨⟩
theorem tw18167292059631542335:True:=⟨⟩
theorem tw6594555675852485826:True:=⟨⟩
theorem tw18269428319397546834:True:=⟨⟩
theorem tw15500621099997824839:True:=⟨⟩
theorem tw17740984854998490421:True:=⟨⟩
theorem tw15067888981198492289:True:=⟨⟩
theorem tw9283534221753558614:True:=⟨⟩
theorem tw9262237037965077799:True:=⟨⟩
theorem tw16642045403726862079:True:=⟨⟩
theorem tw9559804374999793972:True:=⟨⟩
theorem tw3669573144926717901:True:=⟨⟩
theorem tw1755373099788127022:True:=⟨⟩
theorem tw5754188419069777217:True:=⟨⟩
theorem tw12479248549134417388:True:=⟨⟩
theorem tw13205613417117284562:True:=⟨⟩
theorem tw1194505968774408863:True:=⟨⟩
theorem tw4712594194810317809:True:=⟨⟩
theorem tw1828187118834583610:True:=⟨⟩
theorem tw14771781071392707721:True:=⟨⟩
theorem tw5197336735382949561:True:=⟨⟩
theorem tw18024273772457480003:True:=⟨⟩
theorem tw13538055806999742265:True:=⟨⟩
theorem tw4023578285894126541:True:=⟨⟩
theorem tw10749162487518208054:True:=⟨⟩
theorem tw14935259282059342142:True:=⟨⟩
theorem tw17189489361047570042:True:=⟨⟩
theorem tw7853147357924349854:True:=⟨⟩
theorem tw3409776747636165869:True:=⟨⟩
theorem tw360714002459577424:True:=⟨⟩
theorem tw12111330754956730226:True:=⟨⟩
theorem tw3733777892123186036:True:=⟨⟩
theorem tw4126643500975084449:True:=⟨⟩
theorem tw1048972909761106856:True:=⟨⟩
theorem tw1661103524965011987:True:=⟨⟩
theorem tw17949413380838409975:True:=⟨⟩
theorem tw371932167370162593:True:=⟨⟩
theorem tw10655349472910528723:True:=⟨⟩
theorem tw493506709044036057:True:=⟨⟩
theorem tw14828646710909247015:True:=⟨⟩
theorem tw12108351644646113613:True:=⟨⟩
theorem tw7702620958601399112:True:=⟨⟩
theorem tw12286252445848363359:True:=⟨⟩
theorem tw6427533056227687917:True:=⟨⟩
theorem tw7740588163644489615:True:=⟨⟩
theorem tw330871058830735753:True:=⟨⟩
theorem tw10602733251052229107:True:=⟨⟩
theorem tw859828288928531512:True:=⟨⟩
theorem tw9612957427544311129:True:=⟨⟩
theorem tw6633281751354620927:True:=⟨⟩
theorem tw9061696728499200278:True:=⟨⟩
theorem tw2192967622391535090:True:=⟨⟩
theorem tw11298784637690482874:True:=⟨⟩
theorem tw10059255104094715123:True:=⟨⟩
theorem tw306423348663617407:True:=⟨⟩
theorem tw12618013242768818071:True:=⟨⟩
theorem tw15189657497002552035:True:=⟨⟩
theorem tw13303898735218446410:True:=⟨⟩
theorem tw8827273661479209133:True:=⟨⟩
theorem tw16830301517710813409:True:=⟨⟩
theorem tw1244603140058715915:True:=⟨⟩
theorem tw16583141149564234165:True:=⟨⟩
theorem tw17736183621770842891:True:=⟨⟩
theorem tw5000389281357859034:True:=⟨⟩
theorem tw14903027882792616606:True:=⟨⟩
theorem tw12330210595863199927:True:=⟨⟩
theorem tw795434611098798713:True:=⟨⟩
theorem tw1430695638731312935:True:=⟨⟩
theorem tw8071711605536112172:True:=⟨⟩
theorem tw5848333345932744070:True:=⟨⟩
theorem tw714598003630744264:True:=⟨⟩
theorem tw16353324994351231739:True:=⟨⟩
theorem tw488244414767972049:True:=⟨⟩
theorem tw15024604213235515056:True:=⟨⟩
theorem tw11185789277114515623:True:=⟨⟩
theorem tw8942103037625356590:True:=⟨⟩
theorem tw15257415194621036202:True:=⟨⟩
theorem tw9287671830980175560:True:=⟨⟩
theorem tw9788010409400462593:True:=⟨⟩
theorem tw14699394224577110008:True:=⟨⟩
theorem tw13084416216048608400:True:=⟨⟩
theorem tw18223341404131238501:True:=⟨⟩
theorem tw17751255908141987893:True:=⟨⟩
theorem tw12354769512736369760:True:=⟨⟩
theorem tw8423566844772101116:True:=⟨⟩
theorem tw7283929027390373011:True:=⟨⟩
theorem tw2060750753559286293:True:=⟨⟩
theorem tw8162314585114387517:True:=⟨⟩
theorem tw16062432630544307312:True:=⟨⟩
theorem tw15757035498578060292:True:=⟨⟩
theorem tw3220232382637805465:True:=⟨⟩
theorem tw3575256659200356684:True:=⟨⟩
theorem tw11344035797711403212:True:=⟨⟩
theorem tw1353953072603556078:True:=⟨⟩
theorem tw10063945442638296729:True:=⟨⟩
theorem tw8771711684221353004:True:=⟨⟩
theorem tw9131446962023203807:True:=⟨⟩
theorem tw14006004712519973451:True:=⟨⟩
theorem tw17971861853820062073:True:=⟨⟩
theorem tw12809917650060814017:True:=⟨⟩
theorem tw15790817067603872708:True:=⟨⟩
theorem tw292078050322708320:True:=⟨⟩
theorem tw6392522931920646563:True:=⟨⟩
theorem tw11347254790321439743:True:=⟨⟩
theorem tw18155949616873566752:True:=⟨⟩
theorem tw12902126214850577114:True:=⟨⟩
theorem tw1550029130755520696:True:=⟨⟩
theorem tw10640503872820329471:True:=⟨⟩
theorem tw9628987098391553366:True:=⟨⟩
theorem tw2722365015025253506:True:=⟨⟩
theorem tw18283196639521952903:True:=⟨⟩
theorem tw6827030338709673723:True:=⟨⟩
theorem tw2245265541500575722:True:=⟨⟩
theorem tw3860939631667231928:True:=⟨⟩
theorem tw3009739237832249238:True:=⟨⟩
theorem tw11140669620927436760:True:=⟨⟩
theorem tw10876461911646886444:True:=⟨⟩
theorem tw15035493691320859918:True:=⟨⟩
theorem tw4781828039158706694:True:=⟨⟩
theorem tw3953034245172324659:True:=⟨⟩
theorem tw18118481763995806720:True:=⟨⟩
theorem tw2582740434500410275:True:=⟨⟩
theorem tw8198568477591275115:True:=⟨⟩
theorem tw10168915669297197128:True:=⟨⟩
theorem tw6380022789074113863:True:=⟨⟩
theorem tw12361435040489054049:True:=⟨⟩
theorem tw12040068487655411278:True:=⟨⟩
theorem tw17463556069319554551:True:=⟨⟩
theorem tw14954565896814922879:True:=⟨⟩
theorem tw9283923042841622116:True:=⟨⟩
theorem tw10350118808018827286:True:=⟨⟩
theorem tw8733214553941693176:True:=⟨⟩
end PySem.W.Fast
open PySem PySem.W PyProof.Rows
set_option maxRecDepth 100000 in
set_option maxHeartbeats 0 in
theorem PySem.Challenge.cw_sharewheel_k64_curbs_on_one_way_holds : PySem.Challenge.rw_sharewheel_k64_curbs_on_one_way.Holds := by
  w_on; o_law; k_head; (case hw=>w_witness2)
  k_fill
  refine K64.walk (l:=PySem.Challenge.rw_sharewheel_k64_curbs_on_one_way) rfl rfl (fun w h Y=>PySem.W.kIn_of Y) ?F
  case F =>
    intro w mg fa h KX G MX
    refine' K64.all_mk KX G MX ?a ?l ?c ?k ?T
    (case a=>k_is)
    (case l=>k_is)
    (case c=>k_is)
    (case k=>k_is)
    case T =>
      apply K64.Txt.mk
      iterate 10 ((· (refine' eK KX G ?_; k_is)); (· (refine' L2.Oz ?a ?b ?c ?d ?e ?f ?g ?h ?i ?j; (case a=>k_is); (case b=>k_is); (case c=>k_is); (case d=>k_is); (case e=>k_is); (case f=>k_is); (case g=>k_is); (case h=>k_is); (case i=>k_is); (case j=>k_exc))); (· k_is); (· k_exc))
      · (refine' eK KX G ?_; k_is)
      · (refine' L2.K8 ?a ?b ?c ?d ?e ?f ?g ?h ?i ?l ?j; (case a=>k_is); (case b=>k_is); (case c=>k_is); (case d=>k_is); (case e=>k_is); (case f=>k_is); (case g=>k_is); (case h=>k_is); (case i=>k_is); (case l=>k_is); (case j=>k_exc))
      · k_is
      · (refine' L2.Kd ?a ?l ?t ?c ?k ?b; (case a=>k_is); (case l=>k_is); (case t=>k_is); (case c=>k_is); (case k=>k_is); (case b=>first | exact fun _ _ _ _ _ _=>L2.yY fun _ _=>rfl))
      iterate 3 (· k_is)
      iterate 9 (· (refine' PySem.W.mg_none_of KX G ?_; k_is))
      iterate 5 (· (refine' L2.Ed KX G ?a; (case a=>k_is)))
      · (refine' L2.K5 KX G ?a ?w; (case a=>k_is); (case w=>k_is))
      iterate 3 (· (refine' L2.Ed KX G ?a; (case a=>k_is)))
      iterate 23 (· (refine' L2.KR KX G ?a ?l ?c ?k ?b; (case a=>k_is); (case l=>k_is); (case c=>k_is); (case k=>k_is); (case b=>first | exact fun _ _ _ _ _ _=>L2.Al fun _=>rfl | exact fun _ _ _ _ _ _=>L2.yY fun _ _=>rfl | exact fun _ _ _ _ _ _=>L2.Am fun _ _ _=>rfl | exact fun _ _ _ _ _ _=>L2.An fun _ _ _ _=>rfl)))
      · (refine' eK KX G ?_; k_is)
      · (refine' ⟨?a,?b,?c,?d⟩; (case a=>k_is); (case b=>k_is); (case c=>k_is); (case d=>k_is))
      iterate 4 (· (show aF _ _ _ = _; k_is))
      · (refine' L2.Ke ?a ?f ?l ?c ?e ?b ?m ?n; (case a=>k_is); (case f=>k_is); (case l=>k_is); (case c=>k_is); (case e=>k_is); (case m=>k_is); (case n=>k_is); (case b=>intro fd hf; subst hf; exact ⟨fun us hl=>match us,(show us.length = 4 from hl) with | [_,_,_,_],_=>⟨_,rfl,rfl⟩,fun us hl=>match us,(show us.length = 3 by simpa using hl) with | [_,_,_],_=>⟨_,rfl,rfl⟩⟩))
      iterate 4 (· (refine' L2.qM ?a ?f ?l ?c ?k ?b; (case a=>k_is); (case f=>k_is); (case l=>k_is); (case c=>k_is); (case k=>k_is); (case b=>first | exact fun _ _ _ _ _ _=>L2.Al fun _=>rfl | exact fun _ _ _ _ _ _=>L2.yY fun _ _=>rfl | exact fun _ _ _ _ _ _=>L2.Am fun _ _ _=>rfl | exact fun _ _ _ _ _ _=>L2.An fun _ _ _ _=>rfl | exact fun _ _ _ _ _ _=>L2.BC fun _ _ _ _ _ _=>rfl)))
      · (refine' eK KX G ?_; k_is)
      · (refine' ⟨?a,?b,?c,?d⟩; (case a=>k_is); (case b=>k_is); (case c=>k_is); (case d=>k_is))
      · (show aF _ _ _ = _; k_is)
      · (refine' L2.in_of ?a ?f ?l ?c ?k ?b ?m ?n; (case a=>k_is); (case f=>k_is); (case l=>k_is); (case c=>k_is); (case k=>k_is); (case m=>k_is); (case n=>k_is); (case b=>first | exact fun _ _ _ _ _ _=>L2.Al fun _=>rfl | exact fun _ _ _ _ _ _=>L2.yY fun _ _=>rfl | exact fun _ _ _ _ _ _=>L2.Am fun _ _ _=>rfl | exact fun _ _ _ _ _ _=>L2.An fun _ _ _ _=>rfl | exact fun _ _ _ _ _ _=>L2.BC fun _ _ _ _ _ _=>rfl))
      iterate 4 (· (refine' L2.qM ?a ?f ?l ?c ?k ?b; (case a=>k_is); (case f=>k_is); (case l=>k_is); (case c=>k_is); (case k=>k_is); (case b=>first | exact fun _ _ _ _ _ _=>L2.Al fun _=>rfl | exact fun _ _ _ _ _ _=>L2.yY fun _ _=>rfl | exact fun _ _ _ _ _ _=>L2.Am fun _ _ _=>rfl | exact fun _ _ _ _ _ _=>L2.An fun _ _ _ _=>rfl | exact fun _ _ _ _ _ _=>L2.BC fun _ _ _ _ _ _=>rfl)))
      iterate 2 (· (refine' eK KX G ?_; k_is))
      · (refine' ⟨?a,?b,?c,?d⟩; (case a=>k_is); (case b=>k_is); (case c=>k_is); (case d=>k_is))
      iterate 6 (· (show aF _ _ _ = _; k_is))
      · (refine' L2.in_of ?a ?f ?l ?c ?k ?b ?m ?n; (case a=>k_is); (case f=>k_is); (case l=>k_is); (case c=>k_is); (case k=>k_is); (case m=>k_is); (case n=>k_is); (case b=>first | exact fun _ _ _ _ _ _=>L2.Al fun _=>rfl | exact fun _ _ _ _ _ _=>L2.yY fun _ _=>rfl | exact fun _ _ _ _ _ _=>L2.Am fun _ _ _=>rfl | exact fun _ _ _ _ _ _=>L2.An fun _ _ _ _=>rfl | exact fun _ _ _ _ _ _=>L2.BC fun _ _ _ _ _ _=>rfl))
      iterate 4 (· (refine' L2.qM ?a ?f ?l ?c ?k ?b; (case a=>k_is); (case f=>k_is); (case l=>k_is); (case c=>k_is); (case k=>k_is); (case b=>first | exact fun _ _ _ _ _ _=>L2.Al fun _=>rfl | exact fun _ _ _ _ _ _=>L2.yY fun _ _=>rfl | exact fun _ _ _ _ _ _=>L2.Am fun _ _ _=>rfl | exact fun _ _ _ _ _ _=>L2.An fun _ _ _ _=>rfl | exact fun _ _ _ _ _ _=>L2.BC fun _ _ _ _ _ _=>rfl)))
      · (refine' L2.Jc ?a ?l ?c ?r ?f ?g ?k ?b; (case a=>k_is); (case l=>k_is); (case c=>k_is); (case r=>k_is); (case f=>k_is); (case g=>k_is); (case k=>k_is); (case b=>first | exact fun _ _ _ _ _ _=>L2.Al fun _=>rfl | exact fun _ _ _ _ _ _=>L2.yY fun _ _=>rfl | exact fun _ _ _ _ _ _=>L2.Am fun _ _ _=>rfl | exact fun _ _ _ _ _ _=>L2.An fun _ _ _ _=>rfl | exact fun _ _ _ _ _ _=>L2.BC fun _ _ _ _ _ _=>rfl))
      iterate 5 (· (refine' L2.qM ?a ?f ?l ?c ?k ?b; (case a=>k_is); (case f=>k_is); (case l=>k_is); (case c=>k_is); (case k=>k_is); (case b=>first | exact fun _ _ _ _ _ _=>L2.Al fun _=>rfl | exact fun _ _ _ _ _ _=>L2.yY fun _ _=>rfl | exact fun _ _ _ _ _ _=>L2.Am fun _ _ _=>rfl | exact fun _ _ _ _ _ _=>L2.An fun _ _ _ _=>rfl | exact fun _ _ _ _ _ _=>L2.BC fun _ _ _ _ _ _=>rfl)))
      · (refine' eK KX G ?_; k_is)
      · (refine' ⟨?a,?b,?c,?d⟩; (case a=>k_is); (case b=>k_is); (case c=>k_is); (case d=>k_is))
      iterate 6 (· (show aF _ _ _ = _; k_is))
      · (refine' L2.in_of ?a ?f ?l ?c ?k ?b ?m ?n; (case a=>k_is); (case f=>k_is); (case l=>k_is); (case c=>k_is); (case k=>k_is); (case m=>k_is); (case n=>k_is); (case b=>first | exact fun _ _ _ _ _ _=>L2.Al fun _=>rfl | exact fun _ _ _ _ _ _=>L2.yY fun _ _=>rfl | exact fun _ _ _ _ _ _=>L2.Am fun _ _ _=>rfl | exact fun _ _ _ _ _ _=>L2.An fun _ _ _ _=>rfl | exact fun _ _ _ _ _ _=>L2.BC fun _ _ _ _ _ _=>rfl))
      iterate 6 (· (refine' L2.qM ?a ?f ?l ?c ?k ?b; (case a=>k_is); (case f=>k_is); (case l=>k_is); (case c=>k_is); (case k=>k_is); (case b=>first | exact fun _ _ _ _ _ _=>L2.Al fun _=>rfl | exact fun _ _ _ _ _ _=>L2.yY fun _ _=>rfl | exact fun _ _ _ _ _ _=>L2.Am fun _ _ _=>rfl | exact fun _ _ _ _ _ _=>L2.An fun _ _ _ _=>rfl | exact fun _ _ _ _ _ _=>L2.BC fun _ _ _ _ _ _=>rfl)))
      · (refine' L2.Jc ?a ?l ?c ?r ?f ?g ?k ?b; (case a=>k_is); (case l=>k_is); (case c=>k_is); (case r=>k_is); (case f=>k_is); (case g=>k_is); (case k=>k_is); (case b=>first | exact fun _ _ _ _ _ _=>L2.Al fun _=>rfl | exact fun _ _ _ _ _ _=>L2.yY fun _ _=>rfl | exact fun _ _ _ _ _ _=>L2.Am fun _ _ _=>rfl | exact fun _ _ _ _ _ _=>L2.An fun _ _ _ _=>rfl | exact fun _ _ _ _ _ _=>L2.BC fun _ _ _ _ _ _=>rfl))
      iterate 5 (· (refine' L2.qM ?a ?f ?l ?c ?k ?b; (case a=>k_is); (case f=>k_is); (case l=>k_is); (case c=>k_is); (case k=>k_is); (case b=>first | exact fun _ _ _ _ _ _=>L2.Al fun _=>rfl | exact fun _ _ _ _ _ _=>L2.yY fun _ _=>rfl | exact fun _ _ _ _ _ _=>L2.Am fun _ _ _=>rfl | exact fun _ _ _ _ _ _=>L2.An fun _ _ _ _=>rfl | exact fun _ _ _ _ _ _=>L2.BC fun _ _ _ _ _ _=>rfl)))
      · (refine' eK KX G ?_; k_is)
      · (refine' ⟨?a,?b,?c,?d⟩; (case a=>k_is); (case b=>k_is); (case c=>k_is); (case d=>k_is))
      iterate 5 (· (show aF _ _ _ = _; k_is))
      · (refine' L2.AW (items:=#[.none]) ?a ?f ?l ?c ?e ?b ?m ?n; (case a=>k_is); (case f=>k_is); (case l=>k_is); (case c=>k_is); (case e=>k_is); (case m=>k_is); (case n=>k_is); (case b=>intro fd hf d7 h; subst hf; simp only [ak,aI,or_false] at h; rcases h with rfl | rfl <;> first | exact ⟨[],.nil,fun us hl=>match us,(show us.length = 4 by simpa using hl) with | [_,_,_,_],_=>⟨_,rfl,rfl⟩⟩ | exact ⟨[.none],(.cons rfl .nil),fun us hl=>match us,(show us.length = 3 by simpa using hl) with | [_,_,_],_=>⟨_,rfl,rfl⟩⟩))
      iterate 2 (· (refine' L2.qM ?a ?f ?l ?c ?k ?b; (case a=>k_is); (case f=>k_is); (case l=>k_is); (case c=>k_is); (case k=>k_is); (case b=>first | exact fun _ _ _ _ _ _=>L2.Al fun _=>rfl | exact fun _ _ _ _ _ _=>L2.yY fun _ _=>rfl | exact fun _ _ _ _ _ _=>L2.Am fun _ _ _=>rfl | exact fun _ _ _ _ _ _=>L2.An fun _ _ _ _=>rfl | exact fun _ _ _ _ _ _=>L2.BC fun _ _ _ _ _ _=>rfl)))
      · (refine' eK KX G ?_; k_is)
      · (refine' ⟨?a,?b,?c,?d⟩; (case a=>k_is); (case b=>k_is); (case c=>k_is); (case d=>k_is))
      iterate 6 (· (show aF _ _ _ = _; k_is))
      · (refine' L2.Kf ?a ?f ?l ?c ?e ?b ?m ?n; (case a=>k_is); (case f=>k_is); (case l=>k_is); (case c=>k_is); (case e=>k_is); (case m=>k_is); (case n=>k_is); (case b=>intro fd hf; subst hf; exact ⟨fun us hl=>match us,(show us.length = 3 from hl) with | [_,_,_],_=>⟨_,rfl,rfl⟩,fun us hl=>match us,(show us.length = 2 by simpa using hl) with | [_,_],_=>⟨_,rfl,rfl⟩⟩))
      iterate 3 (· (refine' L2.qM ?a ?f ?l ?c ?k ?b; (case a=>k_is); (case f=>k_is); (case l=>k_is); (case c=>k_is); (case k=>k_is); (case b=>first | exact fun _ _ _ _ _ _=>L2.Al fun _=>rfl | exact fun _ _ _ _ _ _=>L2.yY fun _ _=>rfl | exact fun _ _ _ _ _ _=>L2.Am fun _ _ _=>rfl | exact fun _ _ _ _ _ _=>L2.An fun _ _ _ _=>rfl | exact fun _ _ _ _ _ _=>L2.BC fun _ _ _ _ _ _=>rfl)))
      · (refine' L2.Kl (items:=#[.none]) ?a ?f ?l ?c ?k ?e ?b; (case a=>k_is); (case f=>k_is); (case l=>k_is); (case c=>k_is); (case k=>k_is); (case e=>k_is); (case b=>intro fd hf d7 h; subst hf; simp only [ak,aI,or_false] at h; rcases h with rfl | rfl <;> first | exact ⟨[],.nil,fun us hl=>match us,(show us.length = 6 by simpa using hl) with | [_,_,_,_,_,_],_=>⟨_,rfl,rfl⟩⟩ | exact ⟨[.none],(.cons rfl .nil),fun us hl=>match us,(show us.length = 5 by simpa using hl) with | [_,_,_,_,_],_=>⟨_,rfl,rfl⟩⟩))
      iterate 17 (· (refine' L2.qM ?a ?f ?l ?c ?k ?b; (case a=>k_is); (case f=>k_is); (case l=>k_is); (case c=>k_is); (case k=>k_is); (case b=>first | exact fun _ _ _ _ _ _=>L2.Al fun _=>rfl | exact fun _ _ _ _ _ _=>L2.yY fun _ _=>rfl | exact fun _ _ _ _ _ _=>L2.Am fun _ _ _=>rfl | exact fun _ _ _ _ _ _=>L2.An fun _ _ _ _=>rfl | exact fun _ _ _ _ _ _=>L2.BC fun _ _ _ _ _ _=>rfl)))

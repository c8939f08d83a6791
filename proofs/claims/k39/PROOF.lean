import PyProof.Rows.All
import Wide.All
import OpenK.AllK
import Wide.FinOn
import Lean
import PyProof.EqAt
import PyProof.EqKinds
import PyProof.TupleCall
import PySem.Challenge.RW_belfry_k39_whole_members
open List renaming length_map->zz,getElem?_eq_getElem->zv,getElem?_map->zu,getElem?_eq_some_iff->zr,map_append->zq,length_append->zp,mem_of_getElem?->zn,getD_eq_getElem?_getD->zm,getElem?_set_ne->zk,forall_mem_cons->zg,size_toArray->zf,map_cons->ze,mem_singleton->zd,getElem?_append_left->zA,length_take->zB,mem_map->zC,mem_cons_self->zD,mem_append->zF,take_add_one->zG,take_length->zI,mem_cons_of_mem->zK,getElem?_append_right->zL,length_cons->zM,mem_cons->zN,map_map->zP,getElem?_set_self->zQ,mem_map_of_mem->zS,append_nil->zT,length_set->zU,all_eq_true->zV,mem_append_right->zX,map_congr_left->zY,getElem?_eq_none->zZ,length_range->yz,drop_eq_getElem_cons->yx,mem_filter->yw,filter_append->yv,length_drop->yu,find?_cons->yt,length_replicate->yo,sum_cons->yn,drop_length->ym,mem_or_eq_of_mem_set->yk,mem_range->yh,length_nil->yg,length_eq_zero_iff->yf,nodup_append->yd,filter_eq_nil_iff->yc,nodup_cons->yb,length_filter_le->yA,all_cons->yD,mem_append_left->yE,replicate->yF,map_take->yJ,length_singleton->yK,take_append_drop->yL,getElem?_eq_none_iff->yM,map_nil->yO,append_assoc->yR,filterMap_cons->yT,lookup_cons->yV,getElem_mem->yW,getElem_map->yX,all_map->xz,any_cons->xx,nodup_nil->xt,getElem?_of_mem->xq,any_eq_true->xn,isEmpty_iff->xm,pairwise_iff_getElem->xl,zip_cons_cons->xk,pairwise_cons->xj,filter_filter->xg,getElem?_replicate->xf,pairwise_singleton->xc,reverse_cons->xb,take_of_length_le->xA,ext_getElem?->xC,pairwise_map->xE,isEmpty_map->xF,filter_cons->xG,not_mem_nil->xH,eq_nil_of_length_eq_zero->xJ,sum_append->xK,getElem?_range->xM,filterMap_map->xP,drop_zero->xR,mapM_cons->xS,getElem_range->xU,map_inj_right->xV,find?_eq_none->xW,take_sublist->xX,any_eq_false->xY,flatMap_cons->xZ,map_drop->wy,getElem_inj->wx,pairwise_mergeSort->ww,getElem?_cons_succ->wv,perm_middle->wp,range_succ_eq_map->wm,of_mem_zip->wj,range_succ->wc,mem_iff_getElem?->wb,perm_append_comm->wa,not_lt->wC,getElem?_mapIdx->wD,mem_of_mem_take->wE,mergeSort_perm->wI,getElem_of_mem->wK,flatMap_append->wL,mem_filterMap->wM,length_mapIdx->wO,any_map->wT,map_set->wW,nodup_range->vt,map_id->vq,perm_cons->vk,take_zero->vh,all_nil->vB
open PySem renaming wpAny_bind->zw,wpAny_pure->zj,sizeLine->zh
open Option renaming map_eq_some_iff->zt,map_some->xy,isSome_map->xa,getD_some->wu,bind_eq_some_iff->wq,bind_eq_bind->wJ,getD_none->wX,pure_def->vp,map_none->vo
open Nat renaming le_refl->zo,ne_of_lt->zE,le_trans->zH,lt_of_lt_of_le->zJ,zero_le->zO,lt_irrefl->yi,mod_eq_of_lt->yC,mul_le_mul_right->yH,le_succ->yQ,le_of_eq->yY,sub_self->yZ,le_succ_of_le->xv,ne_of_gt->xp,mod_eq_sub_mod->xh,lt_succ_of_lt->xB,le_of_lt->wo,le_add_left->we,pow_le_pow_right->wF,add_le_add_right->wG,add_sub_cancel->wN,lt_or_gt_of_ne->wQ,lt_of_succ_lt->wR,lt_trans->wS,lt_trichotomy->wU,succ_mul->wV,le_of_not_lt->wY,succ_ne_self->wZ,min_eq_right->vv,min_eq_left->vm,add_le_add->vj,add_assoc->vg,add_comm->vb,zero_add->va,sub_zero->vA
open Bool renaming false_ne_true->zi,and_eq_true->zc,false_eq_true->yq,and_false->yG,eq_iff_iff->yI,or_eq_true->yN,not_eq_true'->yP,not_true->yS,false_and->xO,true_and->wz,not_false->wA,and_eq_true_iff->wH,true_eq_false->wP,and_true->vf,and_comm->ve
open PySem.Heap renaming get?_push_of_some->zb,lt_size->za,get?_push_size->zR,get?_push_ne->yj,size_update->yB,get?_update_ne->yU,get?_update_self->xw,get?_none_of_le->xI,size_push->xQ,get?_update_other->wn
open Array renaming length_toList->zW,getD_eq_getD_getElem?->yp,getElem?_eq_getElem->yl,getElem?_toList->ya,toList_inj->xo,getElem?_eq_none->xD,forIn_toList->xN,getElem?_eq_some_iff->xT,toList->vc
open Int renaming eq_ofNat_of_zero_le->ye,toNat_natCast->xu,emod_lt_of_pos->xi,emod_nonneg->xL,zero_add->wk,le_antisymm->wg,le_refl->wB
set_option Elab.async false
set_option linter.all false
set_option maxRecDepth 100000
namespace L3
open PySem PySem.Spec PyProof.Rows
section
variable {prog:Program}{w:World}{K:Type}[DecidableEq K]{knd:PySem.KeyKind prog w K}{A:Around}{E:Value->Shared->Prop}{s:Shared}
inductive Its2 (knd:PySem.KeyKind prog w K) (h:Heap):List (List K)->List Value->Prop
 | nil:Its2 knd h [] []
 | cons {k:List K} {b:Addr} {ks:List (List K)} {vs:List Value}:IsTupleKey knd h k b->Its2 knd h ks vs->Its2 knd h (k::ks) (.ref b::vs)
def IsKey2 (knd:PySem.KeyKind prog w K)(h:Heap)(ks:List (List K))(a:Addr):Prop:=∃ o items n,h.get? a=some o/\o.cls=.type "tuple"/\o.data=.seq items n/\Its2 knd h ks items.toList
theorem Its2.inj {h:Heap}{x y:List (List K)}{vs:List Value}(hx:Its2 knd h x vs)(hy:Its2 knd h y vs):x=y:=by
 induction hx generalizing y with
 | nil=>cases hy;rfl
 | cons h1 _ ih =>
  cases hy with
  | cons h2 t2=>rw[h1.inj h2,ih t2]
theorem Its2.mono {h h':Heap}(k:∀ x b,IsTupleKey knd h x b->IsTupleKey knd h' x b){x:List (List K)}{vs:List Value}(hx:Its2 knd h x vs):Its2 knd h' x vs:=by
 induction hx with
 | nil=>exact .nil
 | cons h1 _ ih=>exact .cons (k _ _ h1) ih
theorem IsKey2.typeIs {ks:List (List K)}{a:Addr}(x:IsKey2 knd s.heap ks a):s.TypeIs (.ref a) "tuple":=let ⟨o,_,_,ho,hc,_⟩:=x;⟨o,ho,hc⟩
theorem IsKey2.inj {h:Heap}{a:Addr}{x y:List (List K)}(hx:IsKey2 knd h x a)(hy:IsKey2 knd h y a):x=y:=by
 obtain⟨o,items,n,ho,_,hd,hi⟩:=hx;obtain⟨o',items',n',ho',_,hd',hi'⟩:=hy;rw[ho]at ho';cases ho';rw[hd]at hd';cases hd';exact hi.inj hi'
theorem IsKey2.keeps {h h':Heap}{ks:List (List K)}{a d:Addr}{o:Obj}{es ep}(x:IsKey2 knd h ks a)(ho:h.get? d=some o)(hd:o.data=.dict es ep)(hs:Heap.SameBut d h h'):IsKey2 knd h' ks a:=by
 obtain⟨o',items,n,ho',hc,hd',hi⟩:=x;have hne:a≠d:=fun z=>by
  rw[z,ho]at ho';cases ho';rw[hd]at hd';cases hd'
 exact⟨o',items,n,(hs.2 a hne).trans ho',hc,hd',hi.mono fun _ _ q=>q.keeps ho hd hs⟩
def hash2 (knd:PySem.KeyKind prog w K)(ks:List (List K)):Int:=reduceHash (Builtin.Tuple.tupleHashOf (ks.map (tupleKeyHash knd)))
def draws2 (ks:List (List K)):Nat:=(ks.map fun k=>k.length + 1).sum + 1
theorem pyHash2 {ks:List (List K)}{a:Addr}{Q:Int->Shared->Prop}(hu:A.units + 1 < cLine)(hk:IsKey2 knd s.heap ks a)(h:Q (hash2 knd ks) { s with toks:=s.toks + draws2 ks }):wpAny (model prog w) A (pyHash (.ref a)) Q E s:=by
 have hT:=hk.typeIs;obtain⟨o,items,n,ho,_,hd,hi⟩:=hk;unfold pyHash;first | unfold pyHashByItsType | skip
 first | refine zw (wpAny_cRoomFor_or (.inr (wR hu)) ?_) | skip
 refine zw (wpAny_specialOf hT F.slot_tuple_hash.lookup ?_);show wpAny _ _ (if (some (Value.builtin "tuple.__hash__")==some Value.none)=true then _ else _) Q E s;rw[if_neg (by rw[beq_builtin_none];exact zi)];refine zw (wpAny_specialOf hT F.slot_tuple_hash.lookup ?_);show wpAny _ _ (callSpecialIfBoundUnlessNone? (.ref a) "__hash__" _ >>= _) Q E s;refine zw (wpAny_callSpecialIfBoundUnlessNone?_slot hT F.slot_tuple_hash (wpAny_call_entry F.slot_tuple_hash hT F.entry_tuple_hash ?_ (F.args_tuple_hash_1 _)));show wpAny _ _ (Builtin.Tuple.tupleItemsOf (.ref a) >>= _) _ _ s;refine zw (wpAny_tupleItemsOf ho hd ?_);refine zw ?_;rw[<- xN];refine wpAny_forIn_list _
  (fun rest (b:Array Int) s'=>∃ done left,ks=done++left/\Its2 knd s.heap left rest/\b.toList=done.map (tupleKeyHash knd)/\s' = { s with toks:=s.toks + (done.map fun k=>k.length + 1).sum })
  _ ?_ ?_ _ _ ⟨[],ks,rfl,hi,rfl,rfl⟩
 ·rintro x rest b s' ⟨done,left,rfl,hl,hb,rfl⟩
  cases hl with
  | @cons k b' ks' _ h1 hl' =>
   have fin:∀ t,t=s.toks + (done.map fun k=>k.length + 1).sum + (k.length + 1)->∃ d' l',done++k::ks'=d'++l'/\Its2 knd s.heap l' rest/\(b.push (tupleKeyHash knd k)).toList=d'.map (tupleKeyHash knd)/\({ s with toks:=t }:Shared) = { s with toks:=s.toks + (d'.map fun k=>k.length + 1).sum }:=fun t ht=>by
    refine⟨done++[k],ks',by simp,hl',by simp[hb],?_⟩;subst ht;congr 1;simp only[zq,xK,ze,yO,yn,List.sum_nil];first | lia | omega
   refine zw (wpAny_pyHash_tuple (knd:=knd) (show A.in1.units < cLine from hu) h1 ?_)
   first
    | exact zj (fin _ rfl)
    | exact zw (zj (zj (fin _ rfl)))
 ·rintro b s' ⟨done,left,rfl,hl,hb,rfl⟩
  cases hl;rw[zT]at h;show wpAny _ _ (retInt (Builtin.Tuple.tupleHashOf b.toList)) _ _ _;rw[hb];refine wpAny_ret_mkInt ?_;unfold hash2 reduceHash draws2 at h;show wpAny _ _ (if (decide (-(2:Int) ^ 63<=Builtin.Tuple.tupleHashOf (done.map (tupleKeyHash knd)))&&decide (Builtin.Tuple.tupleHashOf (done.map (tupleKeyHash knd)) < 2 ^ 63))=true then _ else _) Q E _;by_cases hr:(decide (-(2:Int) ^ 63<=Builtin.Tuple.tupleHashOf (done.map (tupleKeyHash knd)))&&decide (Builtin.Tuple.tupleHashOf (done.map (tupleKeyHash knd)) < 2 ^ 63))=true
  ·rw[if_pos hr]
   rw[if_pos hr]at h;exact zj (by simpa [vg] using h)
  ·rw[if_neg hr]
   rw[if_neg hr]at h;exact zw (wpAny_rule (zj (by simpa [vg] using h)))
theorem eq2_tree {x y:List (List K)}{a b:Addr}{P:Fin->Shared->Prop}(hu:A.units < cLine)(hx:IsKey2 knd s.heap x a)(hy:IsKey2 knd s.heap y b)(h:P (.done (.ret (.bool (decide (x=y))))) s) :
  wpAny (model prog w) A (Builtin.«tuple.__eq__» ⟨[.ref a,.ref b],[]⟩) P E s:=by
 have hTb:=hy.typeIs;obtain⟨oa,xs,na,hoa,_,hda,hia⟩:=hx;obtain⟨ob,ys,nb,hob,_,hdb,hib⟩:=hy;show wpAny _ _ (isInstance (.ref b) (.type "tuple") >>= _) _ _ s;refine zw (wpAny_isInstance hTb isSubtype_tuple_tuple ?_);simp only[yS,yq,if_false];refine zw (wpAny_tupleItemsOf hoa hda ?_);refine zw (wpAny_tupleItemsOf hob hdb ?_);refine zw ?_;refine wpAny_forIn_list _
  (fun rest r s'=>r.1=none/\s'=s/\∃ x' y' xs' ys',rest=List.zip xs' ys'/\Its2 knd s.heap x' xs'/\Its2 knd s.heap y' ys'/\decide (x'=y')=decide (x=y)/\(xs'.length==ys'.length)=(xs.size==ys.size))
  _ ?_ ?_ _ _ ⟨rfl,rfl,x,y,xs.toList,ys.toList,rfl,hia,hib,rfl,by simp⟩
 ·rintro ⟨u,v⟩ rest r s' ⟨hr,rfl,x',y',xs',ys',hz,hx',hy',hdec,hlen⟩
  cases hx' with
  | nil=>simp at hz
  | @cons k1 u' x'' xs'' h1 hx'' =>
   cases hy' with
   | nil=>simp at hz
   | @cons k2 v' y'' ys'' h2 hy'' =>
    simp only[xk,List.cons.injEq,Prod.mk.injEq]at hz;obtain⟨⟨rfl,rfl⟩,rfl⟩:=hz;refine zw (wpAny_eqBool_tuple (knd:=knd) (x:=k1) (y:=k2) hu h1 h2 ?_);by_cases hk:k1=k2
    ·subst hk
     rw[decide_eq_true rfl];simp only[yS,yq,if_false];refine zj ⟨rfl,rfl,x'',y'',xs'',ys'',rfl,hx'',hy'',?_,by simpa using hlen⟩;rw[<- hdec];by_cases hxy:x''=y''
     ·simp[hxy]
     ·simp[hxy]
    ·rw[decide_eq_false hk]
     simp only[wA,if_true];have hf:decide (x=y)=false:=by rw[<- hdec];simp[hk]
     rw[hf]at h;exact zw (zj (zj (zj h)))
 ·rintro ⟨r1,r2⟩ s' ⟨hr,rfl,x',y',xs',ys',hz,hx',hy',hdec,hlen⟩
  simp only at hr;subst hr;refine zj ?_;have hfin:(xs.size==ys.size)=decide (x=y):=by
   rw[<- hdec,<- hlen];cases hx' with
   | nil =>
    cases hy' with
    | nil=>simp
    | cons _ _=>simp
   | cons _ _ =>
    cases hy' with
    | nil=>simp
    | cons _ _=>simp at hz
  show P (.done (.ret (.bool (xs.size==ys.size)))) s';rw[hfin];exact h
theorem eqBool2 {x y:List (List K)}{a b:Addr}{Q:Bool->Shared->Prop}(hu:A.units + 1 < cLine)(hx:IsKey2 knd s.heap x a)(hy:IsKey2 knd s.heap y b)(h:Q (decide (x=y)) s):wpAny (model prog w) A (eqBool (.ref a) (.ref b)) Q E s:=by
 unfold eqBool
 try with_reducible refine wpAny_holding ?_
 show wpAny _ _ (if (Value.ref a==Value.ref b)=true then _ else _) Q E s;by_cases hab:(Value.ref a==Value.ref b)=true
 ·rw[if_pos hab]
  have e:a=b:=by have:=eq_of_beq hab;injection this
  subst e;obtain rfl:=hx.inj hy;exact zw (wpAny_rule (zj (by simpa using h)))
 ·rw[if_neg hab]
  exact zw (wpAny_richCompare_same_room (op:=.Eq) hx.typeIs hy.typeIs F.slot_tuple_eq
   (wpAny_call_entry F.slot_tuple_eq hx.typeIs F.entry_tuple_eq (eq2_tree (show A.in1.units < cLine from hu) hx hy ⟨_,rfl,(fun e=>nomatch e),wpAny_truthy_bool h⟩) (F.args_tuple_eq_2 _ _)) (wR hu))
theorem quietN (m:Nat){ks:List K}{a:Addr}{Q:Bool->Shared->Prop}(hk:IsTupleKey knd s.heap ks a)(h:Q true s):wpAny (model prog w) A (eqIsQuiet (m + 1) (.ref a)) Q E s:=by
 have hT:=hk.typeIs;obtain⟨o,items,n,ho,_,hd,hi⟩:=hk;unfold eqIsQuiet;refine zw (wpAny_specialOf hT F.slot_tuple_eq.lookup ?_);show wpAny _ _ (isInstance (.ref a) (.type "tuple") >>= _) _ _ s;refine zw (wpAny_isInstance hT isSubtype_tuple_tuple ?_);simp only[yS,yq,if_false];refine zw (wpAny_seqItems ho hd ?_);refine zw ?_;show wpAny _ _ (forIn items _ _) _ _ s;rw[<- xN];refine wpAny_forIn_list _ (fun rest r s'=>r.1=none/\s'=s/\∀ v∈rest,carriedByValue v=true) _ ?_ ?_ _ _ ⟨rfl,rfl,hi.byValue⟩
 ·rintro v rest r s' ⟨hr,rfl,hall⟩
  rw[eqIsQuiet_byValue _ (hall v zD)];refine zw (zj ?_);simp only[yS,yq,if_false];exact zj ⟨rfl,rfl,fun u hu'=>hall u (zK _ hu')⟩
 ·rintro ⟨r1,r2⟩ s' ⟨hr,rfl,_⟩
  simp only at hr;subst hr;exact zj h
theorem quiet2 {ks:List (List K)}{a:Addr}{Q:Bool->Shared->Prop}(hk:IsKey2 knd s.heap ks a)(h:Q true s):wpAny (model prog w) A (eqIsQuiet 8 (.ref a)) Q E s:=by
 have hT:=hk.typeIs;obtain⟨o,items,n,ho,_,hd,hi⟩:=hk;unfold eqIsQuiet;refine zw (wpAny_specialOf hT F.slot_tuple_eq.lookup ?_);show wpAny _ _ (isInstance (.ref a) (.type "tuple") >>= _) _ _ s;refine zw (wpAny_isInstance hT isSubtype_tuple_tuple ?_);simp only[yS,yq,if_false];refine zw (wpAny_seqItems ho hd ?_);refine zw ?_;show wpAny _ _ (forIn items _ _) _ _ s;rw[<- xN];refine wpAny_forIn_list _ (fun rest r s'=>r.1=none/\s'=s/\∃ kk,Its2 knd s.heap kk rest) _ ?_ ?_ _ _ ⟨rfl,rfl,ks,hi⟩
 ·rintro v rest r s' ⟨hr,rfl,kk,hall⟩
  cases hall with
  | cons h1 ht =>
   refine zw (quietN 6 h1 ?_);simp only[yS,yq,if_false];exact zj ⟨rfl,rfl,_,ht⟩
 ·rintro ⟨r1,r2⟩ s' ⟨hr,rfl,_⟩
  simp only at hr;subst hr;exact zj h
end
def kind2 {prog:Program}{w:World}{K:Type}[DecidableEq K](knd:PySem.KeyKind prog w K):HeapKind prog w (List (List K)) where
 is:=IsKey2 knd
 hash:=hash2 knd
 draws:=draws2
 room:=fun A=>A.units + 1 < cLine
 inj:=fun hx hy=>hx.inj hy
 keeps:=fun x ho hd hs=>x.keeps ho hd hs
 pyHash:=fun hu hk h=>pyHash2 hu hk h
 eqBool:=fun hu hx hy h=>eqBool2 hu hx hy h
 quiet:=fun hk h=>quiet2 hk h
end L3
namespace L2
open PySem PySem.Spec PyProof.Rows
abbrev Key:=Sum Int Str
def keyIs:Key->Value->Bool
 | .inl k,v=>Value.isInt k v
 | .inr x,v=>Value.isStrOf x v
def keyH (w:World):Key->Int
 | .inl k=>hashInt k
 | .inr x=>hashStr w x
theorem keyIs_shape:∀ {k:Key} {v:Value},keyIs k v=true->(∃ i t,k=Sum.inl i/\v=Value.int i t)\/(∃ x t,k=Sum.inr x/\v=Value.str x t)
 | .inl i,v,h=>by
  obtain⟨t,e⟩:=Value.isInt_shape (k:=i) (v:=v) h;exact .inl ⟨i,t,rfl,e⟩
 | .inr x,v,h=>by
  obtain⟨t,e⟩:=Value.isStrOf_shape (x:=x) (v:=v) h;exact .inr ⟨x,t,rfl,e⟩
theorem keyIs_int (i:Int)(t:Tok):keyIs (.inl i) (.int i t)=true:=by simp[keyIs,Value.isInt]
theorem keyIs_str (x:Str)(t:Tok):keyIs (.inr x) (.str x t)=true:=by simp[keyIs,Value.isStrOf]
theorem key_ll (a b:Int):decide ((Sum.inl a:Key)=Sum.inl b)=(a==b):=by
 by_cases e:a=b
 ·subst e;simp
 ·have h:¬ (Sum.inl a:Key)=Sum.inl b:=fun q=>e (Sum.inl.inj q)
  rw[decide_eq_false h];exact(beq_eq_false_iff_ne.mpr e).symm
theorem key_rr (a b:Str):decide ((Sum.inr a:Key)=Sum.inr b)=decide (a=b):=by
 by_cases e:a=b
 ·subst e;simp
 ·have h:¬ (Sum.inr a:Key)=Sum.inr b:=fun q=>e (Sum.inr.inj q)
  rw[decide_eq_false h,decide_eq_false e]
theorem key_lr (a:Int)(b:Str):decide ((Sum.inl a:Key)=Sum.inr b)=false:=decide_eq_false (fun q=>nomatch q)
theorem key_rl (a:Str)(b:Int):decide ((Sum.inr a:Key)=Sum.inl b)=false:=decide_eq_false (fun q=>nomatch q)
def mixKind (prog:Program)(w:World):PySem.KeyKind prog w Key where
 is:=keyIs
 hash:=keyH w
 inj:=fun v a b ha hb=>by
  rcases keyIs_shape ha with ⟨i,t,rfl,rfl⟩|⟨x,t,rfl,rfl⟩
  ·rcases keyIs_shape hb with ⟨j,u,rfl,e⟩|⟨y,u,rfl,e⟩
   ·injection e with e1 _;rw[e1]
   ·exact nomatch e
  ·rcases keyIs_shape hb with ⟨j,u,rfl,e⟩|⟨y,u,rfl,e⟩
   ·exact nomatch e
   ·injection e with e1 _;rw[e1]
 byValue:=fun k v h=>by
  rcases keyIs_shape h with ⟨i,t,rfl,rfl⟩|⟨x,t,rfl,rfl⟩ <;> rfl
 pyHash:=fun hv h=>by
  rcases keyIs_shape hv with ⟨i,t,rfl,rfl⟩|⟨x,t,rfl,rfl⟩
  ·exact wpAny_pyHash_int h
  ·exact wpAny_pyHash_str h
 eqBool:=fun hu hv h=>by
  rcases keyIs_shape hu with ⟨i,t,rfl,rfl⟩|⟨x,t,rfl,rfl⟩
  ·rcases keyIs_shape hv with ⟨j,u,rfl,rfl⟩|⟨y,u,rfl,rfl⟩
   ·rw[key_ll]at h;exact wpAny_eqBool_int h
   ·rw[key_lr]at h;exact SeqAt.EqAt.int_str i t y u _ _ _ _ h
  ·rcases keyIs_shape hv with ⟨j,u,rfl,rfl⟩|⟨y,u,rfl,rfl⟩
   ·rw[key_rl]at h;exact SeqAt.EqAt.str_int x t j u _ _ _ _ h
   ·rw[key_rr]at h;exact wpAny_eqBool_str h
 «strs»:=fun k x t v h=>by
  rcases keyIs_shape h with ⟨i,u,rfl,e⟩|⟨y,u,rfl,e⟩
  ·exact nomatch e
  ·injection e with e1 _
   subst e1;cases v <;> rfl
theorem mixKind_int (prog:Program)(w:World)(i:Int)(t:Tok):(mixKind prog w).is (.inl i) (.int i t)=true:=keyIs_int i t
theorem mixKind_str (prog:Program)(w:World)(x:Str)(t:Tok):(mixKind prog w).is (.inr x) (.str x t)=true:=keyIs_str x t
end L2
namespace L2
open PySem PySem.Spec PyProof.Rows
inductive V where
 | non | bl (b:Bool) | int (i:Int) | str (x:Str) | byt (b:Array UInt8) | flt (b:UInt64) | ref (a:Addr) | ty (n:String)
 deriving DecidableEq
def RelV:V->Value->Prop
 | .non,u=>u=Value.none
 | .bl b,u=>u=Value.bool b
 | .int i,u=>∃ t,u=Value.int i t
 | .str x,u=>∃ t,u=Value.str x t
 | .byt b,u=>∃ t,u=Value.bytes b t
 | .flt b,u=>∃ t,u=Value.float b t
 | .ref a,u=>u=Value.ref a
 | .ty n,u=>u=Value.type n
abbrev Vals:List V->List Value->Prop:=Paired RelV
theorem Vals.length {xs:List V}{us:List Value}(r:Vals xs us):xs.length=us.length:=Paired.length r
theorem Vals.get:∀ {xs:List V} {us:List Value} {i:Nat} {x:V},Vals xs us->xs[i]?=some x->∃ u,us[i]?=some u/\RelV x u
 | _,_,_,_,.nil,e=>by simp at e
 | _,_,0,_,.cons r _,e=>by simp at e;subst e;exact⟨_,rfl,r⟩
 | _,_,i + 1,x,.cons _ t,e=>by
  obtain⟨u,h1,h2⟩:=Vals.get (i:=i) (x:=x) t (by simpa using e);exact⟨u,by simpa using h1,h2⟩
theorem Vals.set {x:V}{u:Value}(r:RelV x u):∀ {xs:List V} {us:List Value} (i:Nat),Vals xs us->Vals (xs.set i x) (us.set i u)
 | _,_,_,.nil=>.nil
 | _,_,0,.cons _ t=>.cons r t
 | _,_,i + 1,.cons q t=>.cons q (Vals.set r i t)
theorem Vals.append:∀ {xs ys:List V} {us ws:List Value},Vals xs us->Vals ys ws->Vals (xs++ys) (us++ws)
 | _,_,_,_,.nil,s=>s
 | _,_,_,_,.cons r t,s=>.cons r (Vals.append t s)
theorem Vals.take:∀ {xs:List V} {us:List Value} (n:Nat),Vals xs us->Vals (xs.take n) (us.take n)
 | _,_,0,_=>.nil
 | _,_,_ + 1,.nil=>.nil
 | _,_,n + 1,.cons r t=>.cons r (Vals.take n t)
theorem Vals.drop:∀ {xs:List V} {us:List Value} (n:Nat),Vals xs us->Vals (xs.drop n) (us.drop n)
 | _,_,0,r=>r
 | _,_,_ + 1,.nil=>.nil
 | _,_,n + 1,.cons _ t=>Vals.drop n t
theorem Vals.none_of:∀ {xs:List V} {us:List Value} {i:Nat},Vals xs us->xs[i]?=none->us[i]?=none:=fun {xs us i} r e=>by
 have h1:=r.length;have h2:xs.length<=i:=yM.mp e;exact yM.mpr (by first | lia | omega)
def RelO:Option V->Option Value->Prop
 | some v,some u=>RelV v u
 | none,none=>True
 | _,_=>False
def KV {κ:Type}:List (κ×V)->List (κ×Value)->Prop:=Paired fun (p:κ×V) (q:κ×Value)=>p.1=q.1/\RelV p.2 q.2
def kV:Key->V
 | .inl i=>.int i
 | .inr x=>.str x
inductive HO where
 | lst (xs:List V)
 | tup (xs:List V)
 | dK (kvs:List (Key×V)) | dT (kvs:List (List Key×V)) | dTT (kvs:List (List (List Key)×V))
 | set (S:Int->Bool) (n:Nat)
 | ins (C dx:Addr) (fs:List (Str×V))
 | own (x:Addr)
 | xd (fs:List (Str×V))
 | met (f x:Addr)
 | rng (lo hi:Int)
 | frz (o:Obj) (u:HO)
 | tbl (ps:Array Value)
 | ext (φ:Heap->Prop)
abbrev Hp:=Addr->Option HO
def upd (H:Hp)(a:Addr)(o:HO):Hp:=fun b=>if b=a then some o else H b
theorem upd_same {H:Hp}{a:Addr}{o:HO}:upd H a o a=some o:=by unfold upd;rw[if_pos rfl]
theorem upd_ne {H:Hp}{a b:Addr}{o:HO}(h:b≠a):upd H a o b=H b:=by unfold upd;rw[if_neg h]
theorem upd_upd {H:Hp}{a:Addr}{o u:HO}:upd (upd H a o) a u=upd H a u:=by
 funext b;unfold upd;split <;> rfl
theorem ne_of {H:Hp}{a b:Addr}{o u:HO}(h:H a=some o)(h':H b=some u)(d:o≠u):a≠b:=by
 intro e;subst e;rw[h]at h';exact d (Option.some.inj h')
theorem ne_of_none {H:Hp}{a b:Addr}{o:HO}(h:H a=some o)(h':H b=none):a≠b:=by
 intro e;subst e;rw[h]at h';cases h'
def TupN (h:Heap)(a:Addr)(items:Array Value):Prop:=IsTup h a items/\∀ o,h.get? a=some o->o.dict=none/\o.slots = #[]
theorem TupN.new (h:Heap)(items:Array Value):TupN (h.push { cls:=.type "tuple",data:=.seq items }) h.objs.size items:=⟨IsTup.new _ _,fun o e=>by
 rw[zR _ rfl]at e;cases e;exact⟨rfl,rfl⟩⟩
def KeyAt (H:Hp)(k:List (List Key))(b:Addr):Prop:=∃ bs:List Addr,H b=some (.tup (bs.map V.ref))/\Paired (fun ks c=>H c=some (.tup (ks.map kV))) k bs
section
variable (P:Program)(w:World)
def ObjOk (H:Hp)(h:Heap)(a:Addr):HO->Prop
 | .lst xs=>xs.length<=zh/\∃ (its:List Value) (n:Nat),Vals xs its/\h.get? a=some { cls:=.type "list",data:=.seq its.toArray n }
 | .tup xs=>xs.length<=zh/\∃ its:List Value,Vals xs its/\TupN h a its.toArray
 | .dK kvs=>kvs.length<=zh/\(a==sysModules)=false/\∃ vs,KV kvs vs/\h.DictOf (mixKind P w) a vs
 | .dT kvs=>kvs.length<=zh/\(a==sysModules)=false/\∃ xs:List (List Key×Addr×Value),
   Paired (fun (p:List Key×V) (q:List Key×Addr×Value)=>p.1=q.1/\H q.2.1=some (.tup (p.1.map kV))/\RelV p.2 q.2.2) kvs xs /\
   ∃ o es ep,h.get? a=some o/\o.ExactDict/\o.data=.dict es ep/\es.toList=xs.map (entryOfKey (tupleKind (mixKind P w)))/\(xs.map (·.1)).Nodup
 | .dTT kvs=>kvs.length<=zh/\(a==sysModules)=false/\∃ xs:List (List (List Key)×Addr×Value),
   Paired (fun p q=>p.1=q.1/\KeyAt H p.1 q.2.1/\RelV p.2 q.2.2) kvs xs/\∃ o es ep,h.get? a=some o/\o.ExactDict/\o.data=.dict es ep/\es.toList=xs.map (entryOfKey (L3.kind2 (mixKind P w)))/\(xs.map (·.1)).Nodup
 | .set S n=>h.SetOf (intKind P w) a S n
 | .ins C dx fs=>H dx=some (.own a)/\fs.length<=1000/\dx≠a/\h.get? a=some (PySem.W.instObj C dx) /\
   ∃ mA,h.Ns1 dx mA/\(∀ f,RelO (fs.lookup f) (mA f))/\PySem.Within mA (fs.map (·.1))
 | .own _=>∃ o,h.get? a=some o
 | .xd fs=>∃ mA,h.Ns1 a mA/\∀ f,RelO (fs.lookup f) (mA f)
 | .rng lo hi=>∃ t u v,h.get? a=some { cls:=.type "range",data:=.fields #[.int lo t,.int hi u,.int 1 v] }
 | .frz o u=>h.get? a=some o/\ObjOk H h a u
 | .tbl ps=>h.get? a=some { cls:=.none,data:=.fields ps }
 | .met f x=>h.get? a=some (PySem.W.methodObj (.ref f) (.ref x))
 | .ext φ=>φ h/\(∃ o,h.get? a=some o)/\∀ h1 h2:Heap,φ h1->(∀ o,h1.get? a=some o->h2.get? a=some o)->φ h2
def HOk (H:Hp)(h:Heap):Prop:=∀ a o,H a=some o->ObjOk P w H h a o
end
section
variable {P:Program}{w:World}{H H':Hp}{h h':Heap}{a:Addr}{o:HO}
theorem ObjOk.lt (x:ObjOk P w H h a o):a < h.objs.size:=by
 cases o with
 | lst xs=>obtain⟨_,_,_,_,e⟩:=x;exact za e
 | tup xs=>obtain⟨_,_,_,p,_⟩:=x;exact p.lt
 | dK kvs=>obtain⟨_,_,_,_,o,_,_,e,_⟩:=x;exact za e
 | dT kvs=>obtain⟨_,_,_,_,o,_,_,e,_⟩:=x;exact za e
 | dTT kvs=>obtain⟨_,_,_,_,o,_,_,e,_⟩:=x;exact za e
 | set S n=>obtain⟨o,_,_,_,e,_⟩:=x;exact za e
 | ins C dx fs=>obtain⟨_,_,_,e,_⟩:=x;exact za e
 | own y=>obtain⟨_,e⟩:=x;exact za e
 | xd fs=>obtain⟨_,⟨_,_,_,e,_⟩,_⟩:=x;exact za e
 | rng lo hi=>obtain⟨_,_,_,e⟩:=x;exact za e
 | frz ob u=>obtain⟨e,_⟩:=x;exact za e
 | tbl ps=>exact za (show h.get? a=some _ from x)
 | met f y=>exact za (show h.get? a=some _ from x)
 | ext φ=>obtain⟨_,⟨_,e⟩,_⟩:=x;exact za e
theorem Paired.mapP {α β:Type}{F G:α->β->Prop}:∀ {l₁:List α} {l₂:List β},Paired F l₁ l₂->(∀ a b,F a b->G a b)->Paired G l₁ l₂
 | _,_,.nil,_=>.nil
 | _,_,.cons r t,f=>.cons (f _ _ r) (Paired.mapP t f)
theorem ObjOk.stay (x:ObjOk P w H h a o)(k:∀ b u,(b=a\/H b=some (.own a))->h.get? b=some u->h'.get? b=some u)
  (ho:∀ b,H b=some (.own a)->H' b=some (.own a)) (ht:∀ b xs,H b=some (.tup xs)->H' b=some (.tup xs)):ObjOk P w H' h' a o:=by
 induction o with
 | lst xs=>obtain⟨z,its,n,r,e⟩:=x;exact⟨z,its,n,r,k _ _ (.inl rfl) e⟩
 | tup xs =>
  obtain⟨z,its,r,⟨ob,e,c⟩,d⟩:=x;have e':=k _ _ (.inl rfl) e;exact⟨z,its,r,⟨ob,e',c⟩,fun o q=>by rw[e']at q;cases q;exact d _ e⟩
 | dK kvs=>obtain⟨z,y,vs,r,ob,es,ep,e,c⟩:=x;exact⟨z,y,vs,r,ob,es,ep,k _ _ (.inl rfl) e,c⟩
 | dT kvs =>
  obtain⟨z,y,xs,r,ob,es,ep,e,c⟩:=x;exact⟨z,y,xs,Paired.mapP r fun p q z=>⟨z.1,ht _ _ z.2.1,z.2.2⟩,ob,es,ep,k _ _ (.inl rfl) e,c⟩
 | dTT kvs =>
  obtain⟨z,y,xs,r,ob,es,ep,e,c⟩:=x;exact⟨z,y,xs,Paired.mapP r fun p q z=>⟨z.1,let ⟨bs,h1,h2⟩:=z.2.1;⟨bs,ht _ _ h1,Paired.mapP h2 fun _ _ w=>ht _ _ w⟩,z.2.2⟩,ob,es,ep,k _ _ (.inl rfl) e,c⟩
 | set S n=>obtain⟨ob,es,ep,t,e,c⟩:=x;exact⟨ob,es,ep,t,k _ _ (.inl rfl) e,c⟩
 | ins C dx fs =>
  obtain⟨d,z,ne,e,mA,⟨od,es,ep,e2,c⟩,r⟩:=x;exact⟨ho _ d,z,ne,k _ _ (.inl rfl) e,mA,⟨od,es,ep,k _ _ (.inr d) e2,c⟩,r⟩
 | own y=>obtain⟨ob,e⟩:=x;exact⟨ob,k _ _ (.inl rfl) e⟩
 | xd fs=>obtain⟨mA,⟨od,es,ep,e,c⟩,r⟩:=x;exact⟨mA,⟨od,es,ep,k _ _ (.inl rfl) e,c⟩,r⟩
 | rng lo hi=>obtain⟨t,u,v,e⟩:=x;exact⟨t,u,v,k _ _ (.inl rfl) e⟩
 | frz ob u ih=>obtain⟨e,q⟩:=x;exact⟨k _ _ (.inl rfl) e,ih q⟩
 | tbl ps =>
  have e:h.get? a=some { cls:=.none,data:=.fields ps }:=x;show h'.get? a=some { cls:=.none,data:=.fields ps };exact k a _ (.inl rfl) e
 | met f y =>
  have e:h.get? a=some (PySem.W.methodObj (.ref f) (.ref y)):=x;show h'.get? a=some (PySem.W.methodObj (.ref f) (.ref y));exact k a _ (.inl rfl) e
 | ext φ=>obtain⟨p,⟨o,e⟩,st⟩:=x;exact⟨st _ _ p fun o q=>k _ _ (.inl rfl) q,⟨o,k _ _ (.inl rfl) e⟩,st⟩
theorem HOk.lt (x:HOk P w H h)(e:H a=some o):a < h.objs.size:=(x a o e).lt
theorem HOk.fresh (x:HOk P w H h)(e:h.objs.size<=a):H a=none:=by
 cases q:H a with
 | none=>rfl
 | some u=>exact absurd (zJ (x.lt q) e) (yi _)
theorem HOk.kept (x:HOk P w H h)(k:∀ b u,h.get? b=some u->h'.get? b=some u):HOk P w H h':=fun a o e =>
 (x a o e).stay (fun b u _ q=>k b u q) (fun _ q=>q) fun _ _ q=>q
theorem HOk.laid (x:HOk P w H h)(k:∀ b u,h.get? b=some u->h'.get? b=some u)(hp:h.objs.size<=a)(new:ObjOk P w (upd H a o) h' a o):HOk P w (upd H a o) h':=fun b u e=>by
 have hn:=x.fresh hp;by_cases hb:b=a
 ·subst hb;rw[upd_same]at e;cases e;exact new
 ·rw[upd_ne hb]at e
  exact(x b u e).stay (fun c v _ q=>k c v q) (fun c q=>by rw[upd_ne (ne_of_none q hn)];exact q) fun c xs q=>by rw[upd_ne (ne_of_none q hn)];exact q
end
def Rd (H:Hp)(a:Addr)(u:HO):Prop:=H a=some u\/∃ o,H a=some (.frz o u)
theorem Rd.ok {P:Program}{w:World}{H:Hp}{h:Heap}{a:Addr}{u:HO}(r:Rd H a u)(x:HOk P w H h):ObjOk P w H h a u:=by
 rcases r with r | ⟨o,r⟩
 ·exact x a u r
 ·obtain⟨_,q⟩:=x a _ r
  exact q
def Mut:Option HO->Prop
 | some (.lst _)=>True
 | some (.dK _)=>True
 | some (.dT _)=>True
 | some (.dTT _)=>True
 | some (.set _ _)=>True
 | some (.ins _ _ _)=>True
 | some (.ext _)=>True
 | _=>False
section
variable {P:Program}{w:World}{H:Hp}{h h':Heap}{x e:Addr}{o':HO}
theorem HOk.write (ok:HOk P w H h)(mu:Mut (H x))(he:e=x\/H e=some (.own x))(k:∀ b u,b≠e->h.get? b=some u->h'.get? b=some u)(heo:∃ u,h'.get? e=some u)
  (new:ObjOk P w (upd H x o') h' x o'):HOk P w (upd H x o') h':=fun b u q=>by
 have nown:∀ c y,H c=some (.own y)->c≠x:=fun c y r z=>by subst z;rw[r]at mu;exact mu
 have ntup:∀ c xs,H c=some (.tup xs)->c≠x:=fun c xs r z=>by subst z;rw[r]at mu;exact mu
 by_cases hb:b=x
 ·subst hb;rw[upd_same]at q;cases q;exact new
 ·rw[upd_ne hb]at q
  by_cases hbe:b=e
  ·have q':H b=some (.own x):=by
    rcases he with z | z
    ·exact absurd (hbe.trans z) hb
    ·rw[hbe];exact z
   rw[q]at q';cases q';obtain⟨v,hv⟩:=heo;exact⟨v,by rw[hbe];exact hv⟩
  ·refine(ok b u q).stay (fun c v hc r=>k c v ?_ r) (fun c r=>by rw[upd_ne (nown c b r)];exact r) fun c xs r=>by rw[upd_ne (ntup c xs r)];exact r
   rcases hc with rfl | hc
   ·exact hbe
   ·rintro rfl
    rcases he with z | z
    ·exact nown c b hc z
    ·rw[hc]at z;cases z;exact hb rfl
end
structure Un (fs ex:List Addr) (H H':Hp) (h h':Heap):Prop where
 keep:∀ b o,h.get? b=some o->H b=none->b ∉ fs->b ∉ ex->h'.get? b=some o
 slot:∀ b o,h.get? b=some o->H b=none->b∈fs->b ∉ ex->∃ sl,h'.get? b=some { o with slots:=sl }
 free:∀ b o,h.get? b=some o->H b=none->b ∉ ex->H' b=none
 there:∀ b o,h.get? b=some o->b ∉ ex->∃ o',h'.get? b=some o'
 tups:∀ b xs,H b=some (.tup xs)->H' b=some (.tup xs)
 frzs:∀ b o u,H b=some (.frz o u)->H' b=some (.frz o u)
 tbls:∀ b ps,H b=some (.tbl ps)->∃ more,H' b=some (.tbl (ps++more))
section
variable {fs fs' ex ex':List Addr}{H H1 H2:Hp}{h h1 h2 h':Heap}{a x e:Addr}{o:HO}
theorem Un.any (u:Un fs ex H H1 h h1){b:Addr}{ob:Obj}(q:h.get? b=some ob)(n:H b=none)(hx:b ∉ ex):∃ sl,h1.get? b=some { ob with slots:=sl }:=by
 by_cases hb:b∈fs
 ·exact u.slot b ob q n hb hx
 ·exact⟨ob.slots,u.keep b ob q n hb hx⟩
theorem Un.kept (k:∀ b u,h.get? b=some u->h'.get? b=some u):Un fs ex H H h h' :=
 ⟨fun b ob q _ _ _=>k b ob q,fun b ob q _ _ _=>⟨ob.slots,k b ob q⟩,fun _ _ _ n _=>n,fun b ob q _=>⟨ob,k b ob q⟩,fun _ _ q=>q,fun _ _ _ q=>q,fun _ ps q=>⟨#[],by rw[q];simp⟩⟩
theorem Un.refl:Un fs ex H H h h:=Un.kept fun _ _ q=>q
theorem Un.laid (k:∀ b u,h.get? b=some u->h'.get? b=some u)(hp:h.objs.size<=a)(hn:H a=none):Un fs ex H (upd H a o) h h' where
 keep:=fun b u q _ _ _=>k b u q
 slot:=fun b u q _ _ _=>⟨u.slots,k b u q⟩
 free:=fun b u q n _=>by rw[upd_ne (zE (zJ (za q) hp))];exact n
 there:=fun b u q _=>⟨u,k b u q⟩
 tups:=fun b xs q=>by rw[upd_ne (ne_of_none q hn)];exact q
 frzs:=fun b u xs q=>by rw[upd_ne (ne_of_none q hn)];exact q
 tbls:=fun b ps q=>⟨#[],by rw[upd_ne (ne_of_none q hn),q];simp⟩
theorem Un.write (mu:Mut (H x))(he:e=x\/H e=some (.own x))(k:∀ b u,b≠e->h.get? b=some u->h'.get? b=some u)(heo:∃ u,h'.get? e=some u):Un fs ex H (upd H x o) h h':=by
 have hx:∀ b,H b=none->b≠x:=fun b n z=>by subst z;rw[n]at mu;exact mu
 have hb:∀ b,H b=none->b≠e:=fun b n z=>by
  subst z;rcases he with r | r
  ·exact hx b n r
  ·rw[n]at r;cases r
 have hm:∀ b u,H b=some u->¬ Mut (some u)->b≠x:=fun b u q nm z=>by subst z;rw[q]at mu;exact nm mu
 refine⟨fun b u q n _ _=>k b u (hb b n) q,fun b u q n _ _=>⟨u.slots,k b u (hb b n) q⟩,fun b u q n _=>by rw[upd_ne (hx b n)];exact n,fun b u q _=>?_,
  fun b xs q=>by rw[upd_ne (hm b _ q fun z=>z)];exact q,fun b u xs q=>by rw[upd_ne (hm b _ q fun z=>z)];exact q,fun b ps q=>⟨#[],by rw[upd_ne (hm b _ q fun z=>z),q];simp⟩⟩
 by_cases hbe:b=e
 ·subst hbe;exact heo
 ·exact⟨u,k b u hbe q⟩
end
def trk (h:Heap)(H:Hp):List Addr:=(List.range h.objs.size).filter fun a=>(H a).isSome
def hidT (h:Heap)(H:Hp):Heap:=PySem.W.hideAll h (trk h H)
theorem hidT_size (h:Heap)(H:Hp):(hidT h H).objs.size=h.objs.size:=PySem.W.hideAll_size _ _
theorem hidT_get {h:Heap}{H:Hp}{b:Addr}{o:Obj}(e:h.get? b=some o)(n:H b=none):(hidT h H).get? b=some o :=
 PySem.W.hideAll_get _ e fun hm=>by
  have q:(H b).isSome=true:=(yw.mp hm).2;rw[n]at q;simp at q
theorem of_hidT {h:Heap}{H:Hp}{b:Addr}{o:Obj}(e:(hidT h H).get? b=some o):h.get? b=some o/\H b=none:=by
 have e':h.get? b=some o:=PySem.W.of_hideAll (trk h H) e;refine⟨e',?_⟩;cases q:H b with
 | none=>rfl
 | some x =>
  have hm:b∈trk h H:=yw.mpr ⟨yh.mpr (za e'),by simp[q]⟩;have z:(hidT h H).get? b=none:=PySem.W.hideAll_none (trk h H) hm;rw[z]at e;cases e
end L2
namespace L2
open PySem PySem.Spec PyProof.Rows
structure Mod (K:PySem.W.Frag) (mg:Str->Option Value) (base:Heap):Prop where
 kin:K.In base
 glob:base.Ns mainGlobals mg
 blt:∃ mb,base.Ns builtinsNs mb/\∀ x:Str,x≠"__name__"->mb x=bootBuiltins x
 nolimit:base.NoLimit
/-- the context: a def's body (or a comprehension's block) running. base: fixed through the whole law;s₀,H₀: the entry;outer: the frames whose slots others may change (a def's callers);stack: all frames that run;
   ex: iterators that were made ahead of the entry and are walked here (a comprehension's);fn: the names whose cells were made at the entry (a def: all;a comprehension's block: its own);calm: not within an except suite;pn: pins that every state bears;xe: what is wanted of an exception that leaves the code -/
structure Cx where
 prog:Program
 w:World
 K:PySem.W.Frag
 mg:Str->Option Value
 base:Heap
 A:Around
 N:List Str
 s₀:Shared
 H₀:Hp
 env:Env
 outer:List Env
 stack:List Env
 ex:List Addr
 fn:Str->Bool
 calm:Bool
 pn:List (Addr×Obj)
 xe:Value->Shared->Prop
def frs (l:List Env):List Addr:=l.filterMap (·.frame)
abbrev Cx.fs (X:Cx):List Addr:=frs X.outer
def Vis (sc:Scope)(x:Str):Prop:=sc.names.lookup x=some .local\/sc.names.lookup x=some .cell\/sc.names.lookup x=some .free
def Loc (sc:Scope)(x:Str):Prop:=sc.names.lookup x=some .local\/sc.names.lookup x=some .cell
def Look (env:Env)(h:Heap)(m:Str->Option Value)(x:Str)(u:Value):Prop :=
 (env.kindOf x=some .local/\m x=some u)\/((env.kindOf x=some .cell\/env.kindOf x=some .free)/\∃ c,env.cells.lookup x=some c/\h.IsCell c (some u))
structure Cx.Ok (X:Cx):Prop where
 mod:Mod X.K X.mg X.base
 kind:X.env.scope.kind=.function
 glob:X.env.globals=mainGlobals
 blt:X.env.builtins=builtinsNs
 above:X.s₀.heap.objs.size<=X.env.locals
 inj:∀ x y c,X.env.cells.lookup x=some c->X.env.cells.lookup y=some c->x=y
 has:∀ x,(X.env.kindOf x=some .cell\/X.env.kindOf x=some .free)->∃ c,X.env.cells.lookup x=some c
 cab:∀ x c,X.fn x=true->X.env.cells.lookup x=some c->X.s₀.heap.objs.size<=c
 hd:X.calm=true->X.A.handled=none
 frames:X.A.frames=some X.stack
 stk:X.stack=X.outer\/(X.stack=X.env::X.outer/\X.env.frame=some X.env.locals)
 exf:∀ b∈X.ex,b≠X.env.locals/\∀ x c,X.env.cells.lookup x=some c->c≠b
 bs:∀ b o,X.base.get? b=some o->X.s₀.heap.get? b=some o/\X.H₀ b=none
 bsz:X.base.objs.size<=X.s₀.heap.objs.size
 noex:∀ b o,X.base.get? b=some o->b ∉ X.ex
 exfs:∀ b∈X.ex,b ∉ X.fs
 funs:X.s₀.heap.FunFrames X.base X.outer
 frf:∀ b∈X.fs,X.H₀ b=none
structure Inv (X:Cx) (pins:List (Addr×Obj)) (σ:List (Option V)) (H:Hp) (s:Shared):Prop where
 ok:X.Ok
 os:s.os=X.s₀.os
 bare:AllBare s.gens
 base:Un X.fs X.ex X.H₀ H X.s₀.heap s.heap
 loc:∃ m,s.heap.Ns X.env.locals m/\∀ (i:Nat) (x:Str) (v:V),X.N[i]?=some x->σ[i]?=some (some v)->Vis X.env.scope x->∃ u,RelV v u/\Look X.env s.heap m x u
 cell:∀ x c,X.env.cells.lookup x=some c->∃ v,s.heap.IsCell c v
 free:H X.env.locals=none
 freeC:∀ x c,X.env.cells.lookup x=some c->H c=none
 pin:∀ p∈X.pn++pins,s.heap.get? p.1=some p.2/\H p.1=none/\p.1≠X.env.locals/\p.1 ∉ X.fs/\∀ v,p.2.data≠.cell v
 hok:HOk X.prog X.w H s.heap
 len:σ.length=X.N.length
section
variable {X:Cx}{pins:List (Addr×Obj)}{σ:List (Option V)}{H H':Hp}{s:Shared}{h':Heap}
theorem Cx.Ok.nofr (ok:X.Ok){b:Addr}{o:Obj}(e:X.base.get? b=some o):b ∉ X.fs:=fun hb=>by
 have:=(ok.funs.mem hb).1
 rw[e]at this;cases this
theorem Inv.bs (I:Inv X pins σ H s):∀ b o,X.base.get? b=some o->s.heap.get? b=some o/\H b=none:=fun b o e =>
 ⟨I.base.keep b o (I.ok.bs b o e).1 (I.ok.bs b o e).2 (I.ok.nofr e) (I.ok.noex b o e),I.base.free b o (I.ok.bs b o e).1 (I.ok.bs b o e).2 (I.ok.noex b o e)⟩
theorem Inv.bk (I:Inv X pins σ H s):∀ b o,X.base.get? b=some o->s.heap.get? b=some o:=fun b o e=>(I.bs b o e).1
theorem Inv.mod (I:Inv X pins σ H s):Mod X.K X.mg X.base:=I.ok.mod
theorem Inv.kIn (I:Inv X pins σ H s):X.K.In s.heap:=I.ok.mod.kin.keeps I.bk
theorem Inv.lt (I:Inv X pins σ H s):X.env.locals < s.heap.objs.size:=let ⟨_,hn,_⟩:=I.loc;hn.lt
theorem Inv.sz (I:Inv X pins σ H s):X.s₀.heap.objs.size<=s.heap.objs.size:=zH I.ok.above (wo I.lt)
theorem Inv.nofs (I:Inv X pins σ H s){a:Addr}(h:s.heap.objs.size<=a):a ∉ X.fs:=fun hb=>by
 obtain⟨_,o,ho,_⟩:=I.ok.funs.mem hb;exact absurd (zJ (za ho) (zH I.sz h)) (yi _)
theorem Inv.cne (I:Inv X pins σ H s):∀ x c,X.env.cells.lookup x=some c->c≠X.env.locals:=fun x c e z=>by
 obtain⟨v,o,ho,hd⟩:=I.cell x c e;obtain⟨m,⟨o',es,ep,ho',hd',_⟩,_⟩:=I.loc;rw[z,ho']at ho;cases ho;rw[hd']at hd;cases hd
theorem Inv.funs (I:Inv X pins σ H s):s.heap.FunFrames X.base X.outer:=by
 have all:∀ (l:List Env),(∀ b∈frs l,b∈X.fs)->X.s₀.heap.FunFrames X.base l->s.heap.FunFrames X.base l:=by
  intro l;induction l with
  | nil=>intro _ _;trivial
  | cons env r ih =>
   intro hs hl;obtain⟨hk,⟨L,o,hf,hn,ho,hd⟩,hr⟩:=hl;have hL:L∈X.fs:=hs L (by unfold frs;rw[yT,hf];exact zD);obtain⟨sl,e⟩:=I.base.slot L o ho (I.ok.frf L hL) hL fun z=>I.ok.exfs L z hL;exact⟨hk,⟨L,_,hf,hn,e,hd⟩,ih (fun b hb=>hs b (by unfold frs;rw[yT,hf];exact zK _ hb)) hr⟩
 exact all X.outer (fun _ hb=>hb) I.ok.funs
theorem Inv.stack (I:Inv X pins σ H s):s.heap.FunFrames X.base X.stack:=by
 rcases I.ok.stk with e | ⟨e,hf⟩
 ·rw[e];exact I.funs
 ·rw[e]
  obtain⟨m,hn,_⟩:=I.loc;refine .cons (by rw[I.ok.kind];decide) hf hn ?_ I.funs;exact xI (zH I.ok.bsz I.ok.above)
theorem Inv.stkSub (I:Inv X pins σ H s):∀ b∈frs X.stack,b∈X.env.locals::X.fs:=fun b hb=>by
 rcases I.ok.stk with e | ⟨e,hf⟩
 ·rw[e]at hb;exact zK _ hb
 ·rw[e]at hb
  unfold frs at hb;rw[yT,hf]at hb;exact hb
theorem Inv.stkFree (I:Inv X pins σ H s):∀ b∈frs X.stack,H b=none:=fun b hb=>by
 rcases zN.mp (I.stkSub b hb) with e | hb
 ·rw[e];exact I.free
 ·obtain⟨_,o,ho,_⟩:=I.ok.funs.mem hb
  exact I.base.free b o ho (I.ok.frf b hb) fun z=>I.ok.exfs b z hb
theorem Inv.step {g':Array GenState}{t':Nat}{d':Drawn}{ch:List Addr}(I:Inv X pins σ H s)
  (hch:∀ b∈ch,(b∈X.ex\/X.s₀.heap.objs.size<=b)/\b≠X.env.locals/\(∀ x c,X.env.cells.lookup x=some c->c≠b)/\∀ p∈X.pn++pins,p.1≠b)
  (keep:∀ b o,b≠X.env.locals->b ∉ X.fs->b ∉ ch->s.heap.get? b=some o->H b=none->h'.get? b=some o)
  (slot:∀ b o,b≠X.env.locals->b∈X.fs->b ∉ ch->s.heap.get? b=some o->H b=none->∃ sl,h'.get? b=some { o with slots:=sl }) (free:∀ b o,b ∉ ch->s.heap.get? b=some o->H b=none->H' b=none)
  (there:∀ b o,b ∉ ch->s.heap.get? b=some o->∃ o',h'.get? b=some o')
  (tups:∀ b xs,H b=some (.tup xs)->H' b=some (.tup xs)) (frzs:∀ b o u,H b=some (.frz o u)->H' b=some (.frz o u)) (tbls:∀ b ps,H b=some (.tbl ps)->∃ more,H' b=some (.tbl (ps++more)))
  (ns:∀ m,s.heap.Ns X.env.locals m->h'.Ns X.env.locals m) (hok:HOk X.prog X.w H' h') (hg:AllBare g') :
  Inv X pins σ H' { s with heap:=h',gens:=g',drawn:=d',toks:=t' }:=by
 have neL:∀ b o,X.s₀.heap.get? b=some o->b≠X.env.locals:=fun b o e=>zE (zJ (za e) I.ok.above);have neC:∀ b o,X.s₀.heap.get? b=some o->b ∉ X.ex->b ∉ ch:=fun b o e hx hb=>by
  rcases (hch b hb).1 with z | z
  ·exact hx z
  ·exact absurd (zJ (za e) z) (yi _)
 have cellK:∀ x c,X.env.cells.lookup x=some c->∀ v,s.heap.IsCell c v->h'.IsCell c v:=fun x c e v ⟨o,ho,hd⟩=>by
  have nch:c ∉ ch:=fun z=>(hch c z).2.2.1 x c e rfl;by_cases hc:c∈X.fs
  ·obtain⟨sl,q⟩:=slot c o (I.cne x c e) hc nch ho (I.freeC x c e)
   exact⟨_,q,hd⟩
  ·exact⟨o,keep c o (I.cne x c e) hc nch ho (I.freeC x c e),hd⟩
 refine⟨I.ok,I.os,hg,⟨fun b o e n hb hx=>?_,fun b o e n hb hx=>?_,fun b o e n hx=>?_,fun b o e hx=>?_,fun b xs e=>tups b xs (I.base.tups b xs e),fun b o xs e=>frzs b o xs (I.base.frzs b o xs e),fun b ps e=>?_⟩,?_,fun x c e=>?_,?_,fun x c e=>?_,fun p hp=>?_,hok,I.len⟩
 ·exact keep b o (neL b o e) hb (neC b o e hx) (I.base.keep b o e n hb hx) (I.base.free b o e n hx)
 ·obtain⟨sl,e1⟩:=I.base.slot b o e n hb hx
  obtain⟨sl',e2⟩:=slot b _ (neL b o e) hb (neC b o e hx) e1 (I.base.free b o e n hx);exact⟨sl',e2⟩
 ·obtain⟨o',e1⟩:=I.base.there b o e hx
  exact free b o' (neC b o e hx) e1 (I.base.free b o e n hx)
 ·obtain⟨o',e1⟩:=I.base.there b o e hx
  exact there b o' (neC b o e hx) e1
 ·obtain⟨m1,e1⟩:=I.base.tbls b ps e
  obtain⟨m2,e2⟩:=tbls b _ e1;exact⟨m1++m2,by rw[e2,Array.append_assoc]⟩
 ·obtain⟨m,hn,hl⟩:=I.loc
  refine⟨m,ns m hn,fun i x v e1 e2 e3=>?_⟩;obtain⟨u,r,l⟩:=hl i x v e1 e2 e3;refine⟨u,r,?_⟩;rcases l with l | ⟨k,c,e,z⟩
  ·exact .inl l
  ·exact .inr ⟨k,c,e,cellK x c e _ z⟩
 ·obtain⟨v,z⟩:=I.cell x c e
  exact⟨v,cellK x c e v z⟩
 ·obtain⟨m,⟨o,_,_,ho,_⟩,_⟩:=I.loc
  exact free _ o (fun z=>(hch _ z).2.1 rfl) ho I.free
 ·obtain⟨v,o,ho,hd⟩:=I.cell x c e
  exact free c o (fun z=>(hch c z).2.2.1 x c e rfl) ho (I.freeC x c e)
 ·obtain⟨e,n,ne,nf,d⟩:=I.pin p hp
  have nch:p.1 ∉ ch:=fun z=>(hch p.1 z).2.2.2 p hp rfl;exact⟨keep p.1 p.2 ne nf nch e n,free p.1 p.2 nch e n,ne,nf,d⟩
theorem Inv.un {t':Nat}(I:Inv X pins σ H s)(u:Un X.fs [] H H' s.heap h')(hok:HOk X.prog X.w H' h'):Inv X pins σ H' { s with heap:=h',toks:=t' }:=by
 obtain⟨m,⟨o,es,ep,ho,r⟩,_⟩:=id I.loc;obtain⟨sl,hL⟩:=u.any ho I.free (by simp);exact I.step (g':=s.gens) (d':=s.drawn) (ch:=[]) (fun _ z=>nomatch z) (fun b o _ hb _ e n=>u.keep b o e n hb (by simp)) (fun b o _ hb _ e n=>u.slot b o e n hb (by simp)) (fun b o _ e n=>u.free b o e n (by simp)) (fun b o _ e=>u.there b o e (by simp)) u.tups u.frzs u.tbls (fun m' hm=>by
  obtain⟨o',es',ep',ho',r'⟩:=hm;rw[ho]at ho';cases ho';exact⟨_,es',ep',hL,r'⟩) hok I.bare
theorem Inv.call {g':Array GenState}{t':Nat}{d':Drawn}{ch:List Addr}(I:Inv X pins σ H s)(u:Un (frs X.stack) ch H H' s.heap h')(hok:HOk X.prog X.w H' h')(hg:AllBare g')
  (hch:∀ b∈ch,(b∈X.ex\/X.s₀.heap.objs.size<=b)/\b≠X.env.locals/\(∀ x c,X.env.cells.lookup x=some c->c≠b)/\∀ p∈X.pn++pins,p.1≠b) :
  Inv X pins σ H' { s with heap:=h',gens:=g',drawn:=d',toks:=t' }:=by
 obtain⟨m,⟨o,es,ep,ho,r⟩,_⟩:=id I.loc;obtain⟨sl,hL⟩:=u.any ho I.free fun z=>(hch _ z).2.1 rfl;exact I.step (ch:=ch) hch (fun b o hL hb hc e n=>u.keep b o e n (fun z=>(zN.mp (I.stkSub b z)).elim hL hb) hc) (fun b o _ _ hc e n=>u.any e n hc) (fun b o hc e n=>u.free b o e n hc) (fun b o hc e=>u.there b o e hc) u.tups u.frzs u.tbls (fun m' hm=>by
  obtain⟨o',es',ep',ho',r'⟩:=hm;rw[ho]at ho';cases ho';exact⟨_,es',ep',hL,r'⟩) hok hg
theorem Inv.turned {t':Nat}{it:Addr}(I:Inv X pins σ H s)(k:∀ b o,b≠it->s.heap.get? b=some o->h'.get? b=some o)(hn:H it=none)(hL:it≠X.env.locals)
  (h1:it∈X.ex\/X.s₀.heap.objs.size<=it) (h2:∀ x c,X.env.cells.lookup x=some c->c≠it) (h3:∀ p∈X.pn++pins,p.1≠it):Inv X pins σ H { s with heap:=h',toks:=t' }:=by
 have nit:∀ b u,H b=some u->b≠it:=fun b u e z=>by rw[z,hn]at e;cases e
 refine I.step (g':=s.gens) (d':=s.drawn) (ch:=[it]) (fun b hb=>?_) (fun b o _ _ hc e _=>k b o (fun z=>hc (by simp[z])) e) (fun b o _ _ hc e _=>⟨o.slots,k b o (fun z=>hc (by simp[z])) e⟩) (fun _ _ _ _ n=>n)
  (fun b o hc e=>⟨o,k b o (fun z=>hc (by simp[z])) e⟩) (fun _ _ e=>e) (fun _ _ _ e=>e) (fun b ps e=>⟨#[],by rw[e];simp⟩) (fun m hm=>?_) (fun b u e=>?_) I.bare
 ·have e:b=it:=by simpa using hb
  subst e;exact⟨h1,hL,h2,h3⟩
 ·obtain⟨o,es,ep,ho,r⟩:=hm
  exact⟨o,es,ep,k _ o (Ne.symm hL) ho,r⟩
 ·refine(I.hok b u e).stay (fun c v hc q=>k c v ?_ q) (fun _ q=>q) fun _ _ q=>q
  rcases hc with z | z
  ·rw[z];exact nit b u e
  ·exact nit c _ z
theorem Inv.tok (I:Inv X pins σ H s)(t:Nat):Inv X pins σ H { s with toks:=t }:=I.un (h':=s.heap) (t':=t) Un.refl I.hok
theorem Inv.kept {t':Nat}(I:Inv X pins σ H s)(k:∀ b u,s.heap.get? b=some u->h'.get? b=some u):Inv X pins σ H { s with heap:=h',toks:=t' }:=I.un (Un.kept k) (I.hok.kept k)
theorem Inv.laid {a:Addr}{o:HO}{t':Nat}(I:Inv X pins σ H s)(k:∀ b u,s.heap.get? b=some u->h'.get? b=some u)(hp:s.heap.objs.size<=a)(new:ObjOk X.prog X.w (upd H a o) h' a o) :
  Inv X pins σ (upd H a o) { s with heap:=h',toks:=t' }:=I.un (Un.laid k hp (I.hok.fresh hp)) (I.hok.laid k hp new)
theorem Inv.write {x e:Addr}{o:HO}{t':Nat}(I:Inv X pins σ H s)(mu:Mut (H x))(he:e=x\/H e=some (.own x))(k:∀ b u,b≠e->s.heap.get? b=some u->h'.get? b=some u)(heo:∃ u,h'.get? e=some u)
  (new:ObjOk X.prog X.w (upd H x o) h' x o):Inv X pins σ (upd H x o) { s with heap:=h',toks:=t' }:=I.un (Un.write mu he k heo) (I.hok.write mu he k heo new)
theorem Inv.pins_of {pins':List (Addr×Obj)}(I:Inv X pins σ H s)(h:∀ p∈pins',s.heap.get? p.1=some p.2/\H p.1=none/\p.1≠X.env.locals/\p.1 ∉ X.fs/\∀ v,p.2.data≠.cell v):Inv X pins' σ H s :=
 ⟨I.ok,I.os,I.bare,I.base,I.loc,I.cell,I.free,I.freeC,fun p hp=>(zF.mp hp).elim (fun z=>I.pin p (yE _ z)) (h p),I.hok,I.len⟩
theorem nodup_ix {N:List Str}(hN:N.Nodup){i j:Nat}{x:Str}(a:N[i]?=some x)(b:N[j]?=some x):i=j:=by
 obtain⟨h1,e1⟩:=zr.mp a;obtain⟨h2,e2⟩:=zr.mp b;exact(wx hN).mp (e1.trans e2.symm)
theorem store_ok2 {M:Model}{A:Around}{E:Value->Shared->Prop}{i:Nat}{x:Str}{v:V}{u:Value}{Q:Unit->Shared->Prop}(I:Inv X pins σ H s)(hN:X.N.Nodup)(hi:X.N[i]?=some x)(hx:Loc X.env.scope x)(r:RelV v u)
  (h:∀ s',Inv X pins (σ.set i (some v)) H s'->(∃ a,Heap.SameBut a s.heap s'.heap/\(a=X.env.locals\/X.env.cells.lookup x=some a))->Q () s') (hf:X.fn x=true\/X.env.scope.names.lookup x=some .local:=by first | exact .inl rfl | exact .inr rfl | assumption):wpAny M A (storeName X.env x u) Q E s:=by
 obtain⟨m,hn,hl⟩:=id I.loc;have hcls:(X.env.scope.kind==.class||(X.env.scope.kind==.module&&X.env.locals != X.env.globals))=false:=by rw[I.ok.kind];rfl
 have hiσ:i < σ.length:=by rw[I.len];exact(zr.mp hi).1
 have cne:=I.cne;have tracked:∀ {a:Addr} {h':Heap},(∃ o,s.heap.get? a=some o/\H a=none)->Heap.SameBut a s.heap h'->HOk X.prog X.w H h':=fun {a h'} ha hs b ob e=>by
  obtain⟨_,_,hfree⟩:=ha;refine(I.hok b ob e).stay (fun c w' hc q=>(hs.2 c ?_).trans q) (fun _ q=>q) fun _ _ q=>q;rintro rfl;rcases hc with rfl | hc
  ·rw[hfree]at e;cases e
  ·rw[hfree]at hc;cases hc
 rcases hx with hk | hk
 ·refine wpAny_storeName_local hk hn (fun h' hn' hs=>?_) hcls
  obtain⟨oL,_,_,hoL,_⟩:=id hn;refine h _ ⟨I.ok,I.os,I.bare,⟨fun b o e n hb hx=>?_,fun b o e n hb hx=>?_,I.base.free,fun b o e hx=>?_,I.base.tups,I.base.frzs,I.base.tbls⟩,⟨_,hn',fun j y v' e1 e2 e3=>?_⟩,fun y c e=>?_,I.free,I.freeC,fun p hp=>?_,tracked ⟨oL,hoL,I.free⟩ hs,by simpa using I.len⟩ ⟨_,hs,.inl rfl⟩
  ·exact(hs.2 b (zE (zJ (za e) I.ok.above))).trans (I.base.keep b o e n hb hx)
  ·obtain⟨sl,e1⟩:=I.base.slot b o e n hb hx
   exact⟨sl,(hs.2 b (zE (zJ (za e) I.ok.above))).trans e1⟩
  ·obtain⟨o',e1⟩:=I.base.there b o e hx
   exact⟨o',(hs.2 b (zE (zJ (za e) I.ok.above))).trans e1⟩
  ·by_cases hj:j=i
   ·subst hj
    rw[hi]at e1;cases e1;rw[zQ hiσ]at e2;cases e2;exact⟨u,r,.inl ⟨hk,by simp⟩⟩
   ·rw[zk (Ne.symm hj)]at e2
    obtain⟨u',r',q⟩:=hl j y v' e1 e2 e3;refine⟨u',r',?_⟩;rcases q with ⟨k,e⟩|⟨k,c,e,z⟩
    ·refine .inl ⟨k,?_⟩
     have:y≠x:=fun e=>hj (nodup_ix hN e1 (e ▸ hi))
     simp[this,e]
    ·exact .inr ⟨k,c,e,z.sameBut hs (cne y c e)⟩
  ·obtain⟨w',z⟩:=I.cell y c e
   exact⟨w',z.sameBut hs (cne y c e)⟩
  ·obtain⟨e,n,ne,nf,d⟩:=I.pin p hp
   exact⟨(hs.2 p.1 ne).trans e,n,ne,nf,d⟩
 ·have hfn:X.fn x=true:=by
   rcases hf with z | z
   ·exact z
   ·rw[z]at hk;cases hk
  obtain⟨c,hc⟩:=I.ok.has x (.inl hk);obtain⟨w',z⟩:=I.cell x c hc;refine wpAny_storeName_cell I.ok.kind hk hc z (fun h' hc' hs=>?_);obtain⟨oc,hoc,hocd⟩:=id z;refine h { s with heap:=h' } ⟨I.ok,I.os,I.bare,⟨fun b o e n hb hx=>?_,fun b o e n hb hx=>?_,I.base.free,fun b o e hx=>?_,I.base.tups,I.base.frzs,I.base.tbls⟩,⟨m,hn.sameBut hs (Ne.symm (cne x c hc)),fun j y v' e1 e2 e3=>?_⟩,fun y c' e=>?_,I.free,I.freeC,fun p hp=>?_,tracked ⟨oc,hoc,I.freeC x c hc⟩ hs,by simpa using I.len⟩ ⟨c,hs,.inr hc⟩
  ·exact(hs.2 b (zE (zJ (za e) (I.ok.cab x c hfn hc)))).trans (I.base.keep b o e n hb hx)
  ·obtain⟨sl,e1⟩:=I.base.slot b o e n hb hx
   exact⟨sl,(hs.2 b (zE (zJ (za e) (I.ok.cab x c hfn hc)))).trans e1⟩
  ·obtain⟨o',e1⟩:=I.base.there b o e hx
   exact⟨o',(hs.2 b (zE (zJ (za e) (I.ok.cab x c hfn hc)))).trans e1⟩
  ·by_cases hj:j=i
   ·subst hj
    rw[hi]at e1;cases e1;rw[zQ hiσ]at e2;cases e2;exact⟨u,r,.inr ⟨.inl hk,c,hc,hc'⟩⟩
   ·rw[zk (Ne.symm hj)]at e2
    obtain⟨u',r',q⟩:=hl j y v' e1 e2 e3;refine⟨u',r',?_⟩;rcases q with q | ⟨k,c',e,z'⟩
    ·exact .inl q
    ·refine .inr ⟨k,c',e,z'.sameBut hs ?_⟩
     rintro rfl;exact hj (nodup_ix hN e1 (I.ok.inj _ _ _ e hc ▸ hi))
  ·by_cases hcc:c'=c
   ·subst hcc;exact⟨_,hc'⟩
   ·obtain⟨w2,z2⟩:=I.cell y c' e
    exact⟨w2,z2.sameBut hs hcc⟩
  ·obtain⟨e,n,ne,nf,d⟩:=I.pin p hp
   refine⟨(hs.2 p.1 ?_).trans e,n,ne,nf,d⟩;intro q;rw[q,hoc]at e;have q':oc=p.2:=Option.some.inj e;exact d w' (by rw[<- q'];exact hocd)
theorem store_ok {M:Model}{A:Around}{E:Value->Shared->Prop}{i:Nat}{x:Str}{v:V}{u:Value}{Q:Unit->Shared->Prop}(I:Inv X pins σ H s)(hN:X.N.Nodup)(hi:X.N[i]?=some x)(hx:Loc X.env.scope x)(r:RelV v u)
  (h:∀ s',Inv X pins (σ.set i (some v)) H s'->Q () s') (hf:X.fn x=true\/X.env.scope.names.lookup x=some .local:=by first | exact .inl rfl | exact .inr rfl | assumption):wpAny M A (storeName X.env x u) Q E s :=
 store_ok2 I hN hi hx r (fun s' I' _=>h s' I') hf
theorem Inv.call' {s':Shared}{ch:List Addr}(I:Inv X pins σ H s)(ho:s'.os=s.os)(u:Un (frs X.stack) ch H H' s.heap s'.heap)(hok:HOk X.prog X.w H' s'.heap)(hg:AllBare s'.gens)
  (hch:∀ b∈ch,(b∈X.ex\/X.s₀.heap.objs.size<=b)/\b≠X.env.locals/\(∀ x c,X.env.cells.lookup x=some c->c≠b)/\∀ p∈X.pn++pins,p.1≠b):Inv X pins σ H' s':=by
 obtain⟨h',g',d',t',o'⟩:=s';have e:o'=s.os:=ho;subst e;exact I.call (g':=g') (t':=t') (d':=d') u hok hg hch
end
abbrev XK:=Value->Option Addr->Hp->Prop
abbrev St:=List (Option V)
abbrev VK:=V->Hp->Prop
abbrev TE:=St->Hp->VK->Prop
abbrev TT:=St->Hp->(Bool->Hp->Prop)->Prop
abbrev TA:=St->Hp->(List V->Hp->Prop)->Prop
structure Ends where
 nx:St->Hp->Prop
 rt:VK
 bk:St->Hp->Prop:=fun _ _=>False
 ct:St->Hp->Prop:=fun _ _=>False
abbrev TS:=Ends->St->Hp->Prop
def EP (X:Cx)(pins:List (Addr×Obj))(σ:St)(Q:VK)(u:Value)(s':Shared):Prop:=∃ v H',Inv X pins σ H' s'/\RelV v u/\Q v H'
def TP (X:Cx)(pins:List (Addr×Obj))(σ:St)(Q:Bool->Hp->Prop)(b:Bool)(s':Shared):Prop:=∃ H',Inv X pins σ H' s'/\Q b H'
def AP (X:Cx)(pins:List (Addr×Obj))(σ:St)(Q:List V->Hp->Prop)(us:List Value)(s':Shared):Prop:=∃ vs H',Inv X pins σ H' s'/\Vals vs us/\Q vs H'
def SP (X:Cx)(pins:List (Addr×Obj))(D:Ends)(f:Flow)(s':Shared):Prop :=
 match f with
 | .next=>∃ σ' H',Inv X pins σ' H' s'/\D.nx σ' H'
 | .brk=>∃ σ' H',Inv X pins σ' H' s'/\D.bk σ' H'
 | .cont=>∃ σ' H',Inv X pins σ' H' s'/\D.ct σ' H'
 | .ret u=>∃ v σ' H',Inv X pins σ' H' s'/\RelV v u/\D.rt v H'
def PE (X:Cx)(e:Expr)(t:TE):Prop :=
 ∀ (pins:List (Addr×Obj)) (s:Shared) (σ:St) (H:Hp) (Q:VK),Inv X pins σ H s->t σ H Q->wpAny (model X.prog X.w) X.A (eval e X.env) (EP X pins σ Q) X.xe s
def PT (X:Cx)(e:Expr)(t:TT):Prop :=
 ∀ (pins:List (Addr×Obj)) (s:Shared) (σ:St) (H:Hp) (Q:Bool->Hp->Prop),Inv X pins σ H s->t σ H Q->wpAny (model X.prog X.w) X.A (isTrue e X.env (eval e X.env)) (TP X pins σ Q) X.xe s
def PW (X:Cx)(e:Expr)(t:TT):Prop :=
 ∀ (whole:Sem Value) (pins:List (Addr×Obj)) (s:Shared) (σ:St) (H:Hp) (Q:Bool->Hp->Prop),Inv X pins σ H s->t σ H Q->wpAny (model X.prog X.w) X.A (isTrue e X.env whole) (TP X pins σ Q) X.xe s
theorem PW.pt {X:Cx}{e:Expr}{t:TT}(h:PW X e t):PT X e t:=h _
def PA (X:Cx)(es:List Expr)(t:TA):Prop :=
 ∀ (pos:Pos) (pins:List (Addr×Obj)) (s:Shared) (σ:St) (H:Hp) (Q:List V->Hp->Prop),Inv X pins σ H s->t σ H Q->wpAny (model X.prog X.w) X.A (spliced (backTo pos (starEach es X.env))) (AP X pins σ Q) X.xe s
def PS (X:Cx)(st:Stmt)(t:TS):Prop :=
 ∀ (pins:List (Addr×Obj)) (s:Shared) (σ:St) (H:Hp) (D:Ends),Inv X pins σ H s->t D σ H->wpAny (model X.prog X.w) X.A (exec st X.env) (SP X pins D) X.xe s
def PSs (X:Cx)(st:List Stmt)(t:TS):Prop :=
 ∀ (pins:List (Addr×Obj)) (s:Shared) (σ:St) (H:Hp) (D:Ends),Inv X pins σ H s->t D σ H->wpAny (model X.prog X.w) X.A (execs st X.env) (SP X pins D) X.xe s
theorem thn {α:Type}{t:Sem α}{Q Q':α->Shared->Prop}{M:Model}{A:Around}{E:Value->Shared->Prop}{s:Shared}(h:wpAny M A t Q E s)(hQ:∀ a s,Q a s->Q' a s):wpAny M A t Q' E s:=wpAny_mono h hQ fun _ _ x=>x
end L2
namespace L2
open PySem PySem.Spec PyProof.Rows
section
variable {X:Cx}
def tVar (i:Nat):TE:=fun σ H Q=>∃ v,σ[i]?=some (some v)/\Q v H
def tC (v:V):TE:=fun _ H Q=>Q v H
theorem pe_var {i:Nat}{x:Str}{pos:Pos}(hN:X.N[i]?=some x)(hv:Vis X.env.scope x)(hd:(x==("__debug__" : Str))=false:=by decide)(hcd:(x==("__classdict__" : Str))=false:=by decide):PE X (.Name x pos) (tVar i):=by
 intro pins s σ H Q I h;obtain⟨v,e,h⟩:=h;obtain⟨m,hn,hl⟩:=I.loc;obtain⟨u,r,l⟩:=hl i x v hN e hv;have fin:EP X pins σ Q u s:=⟨v,H,I,r,h⟩;rcases l with ⟨hk,hm⟩|⟨hk,c,hc,hcell⟩
 ·exact wpAny_Name (wpAny_loadName_local I.ok.kind hk hn hm fin) hd
 ·rcases hk with hk | hk
  ·exact wpAny_Name (wpAny_loadName_cell I.ok.kind hk hc hcell fin) hd
  ·exact wpAny_Name (wpAny_loadName_free I.ok.kind hk hc hcell fin hcd) hd
theorem pe_int {i j pos}:PE X (.Constant (.int i) j pos) (tC (.int i)):=fun _ _ _ H _ I h=>wpAny_Constant_int ⟨.int i,H,I.tok _,⟨_,rfl⟩,h⟩
theorem pe_bl {b j pos}:PE X (.Constant (.bool b) j pos) (tC (.bl b)):=fun _ _ _ H _ I h=>Constant_bool ⟨.bl b,H,I,rfl,h⟩
theorem pe_non {j pos}:PE X (.Constant .none j pos) (tC .non):=fun _ _ _ H _ I h=>Constant_none ⟨.non,H,I,rfl,h⟩
theorem pe_str {x j pos}:PE X (.Constant (.str x) j pos) (tC (.str x)):=fun _ _ _ H _ I h=>Calls.Constant_str ⟨.str x,H,I.tok _,⟨_,rfl⟩,h⟩
def Gl (X:Cx)(x:Str):Prop:=X.env.kindOf x=some .globalImplicit
theorem ld_glob {E:Value->Shared->Prop}{pins:List (Addr×Obj)}{s:Shared}{σ:St}{H:Hp}{x:Str}{u:Value}{pos:Pos}{Q:Value->Shared->Prop}(I:Inv X pins σ H s)(hg:Gl X x)(hm:X.mg x=some u)(h:Q u s)
  (hd:(x==("__debug__" : Str))=false:=by decide):wpAny (model X.prog X.w) X.A (eval (.Name x pos) X.env) Q E s :=
 Calls.Name_function_global I.ok.kind hg (Calls.loadGlobal_global (by rw[I.ok.glob];exact I.mod.glob.keeps I.bk) hm h) hd
theorem ld_blt {E:Value->Shared->Prop}{pins:List (Addr×Obj)}{s:Shared}{σ:St}{H:Hp}{x:Str}{u:Value}{pos:Pos}{Q:Value->Shared->Prop}(I:Inv X pins σ H s)(hg:Gl X x)(hm:X.mg x=none)(hv:bootBuiltins x=some u)(h:Q u s)
  (hn:x≠"__name__":=by decide) (hd:(x==("__debug__" : Str))=false:=by decide):wpAny (model X.prog X.w) X.A (eval (.Name x pos) X.env) Q E s:=by
 obtain⟨mb,h1,h2⟩:=I.mod.blt;exact Calls.Name_function_global I.ok.kind hg (Calls.loadGlobal_builtin (by rw[I.ok.glob];exact I.mod.glob.keeps I.bk) hm (by rw[I.ok.blt];exact h1.keeps I.bk) ((h2 x hn).trans hv) h) hd
theorem pe_glob {x:Str}{v:V}{u:Value}{pos:Pos}(hg:Gl X x)(hm:X.mg x=some u)(r:RelV v u)(hd:(x==("__debug__" : Str))=false:=by decide):PE X (.Name x pos) (tC v) :=
 fun _ _ _ H _ I h=>ld_glob I hg hm ⟨v,H,I,r,h⟩ hd
theorem pe_bltn {x:Str}{v:V}{u:Value}{pos:Pos}(hg:Gl X x)(hm:X.mg x=none)(hv:bootBuiltins x=some u)(r:RelV v u)(hn:x≠"__name__":=by decide)(hd:(x==("__debug__" : Str))=false:=by decide):PE X (.Name x pos) (tC v) :=
 fun _ _ _ H _ I h=>ld_blt I hg hm hv ⟨v,H,I,r,h⟩ hn hd
variable {a b:Expr}{ta tb:TE}{pos:Pos}
variable {tA tB':TT}{rest:List Expr}
def tAnd (t u:TT):TT:=fun σ H Q=>t σ H fun c H1=>if c=true then u σ H1 Q else Q false H1
def tOr (t u:TT):TT:=fun σ H Q=>t σ H fun c H1=>if c=true then Q true H1 else u σ H1 Q
def tNot (t:TT):TT:=fun σ H Q=>t σ H fun c H1=>Q (!c) H1
theorem pw_and1 (ha:PT X a tA):PW X (.BoolOp .And [a] pos) tA:=by
 intro wh pins s σ H Q I h;refine isTrue_and (thn (ha pins s σ H Q I h) fun c s1 e=>?_);cases c with
 | true=>exact isTrue_and_nil e
 | false=>exact e
theorem pw_or1 (ha:PT X a tA):PW X (.BoolOp .Or [a] pos) tA:=by
 intro wh pins s σ H Q I h;refine isTrue_or (thn (ha pins s σ H Q I h) fun c s1 e=>?_);cases c with
 | false=>exact isTrue_or_nil e
 | true=>exact e
theorem pw_and (ha:PT X a tA)(hb:PW X (.BoolOp .And (b::rest) pos) tB'):PW X (.BoolOp .And (a::b::rest) pos) (tAnd tA tB'):=by
 intro wh pins s σ H Q I h;refine isTrue_and (thn (ha pins s σ H _ I h) fun c s1 ⟨H1,I1,q1⟩=>?_);cases c with
 | true=>exact hb wh pins s1 σ H1 Q I1 q1
 | false=>exact⟨H1,I1,q1⟩
theorem pw_or (ha:PT X a tA)(hb:PW X (.BoolOp .Or (b::rest) pos) tB'):PW X (.BoolOp .Or (a::b::rest) pos) (tOr tA tB'):=by
 intro wh pins s σ H Q I h;refine isTrue_or (thn (ha pins s σ H _ I h) fun c s1 ⟨H1,I1,q1⟩=>?_);cases c with
 | true=>exact⟨H1,I1,q1⟩
 | false=>exact hb wh pins s1 σ H1 Q I1 q1
theorem pt_not (ha:PT X a tA):PT X (.UnaryOp .Not a pos) (tNot tA):=by
 intro pins s σ H Q I h;exact isTrue_not (ha pins s σ H (fun c H1=>Q (!c) H1) I h)
def tAndV (ta tb:TE):TE:=fun σ H Q=>ta σ H fun x H1=>∃ c,x=.bl c/\if c=true then tb σ H1 Q else Q (.bl false) H1
def tOrV (ta tb:TE):TE:=fun σ H Q=>ta σ H fun x H1=>∃ c,x=.bl c/\if c=true then Q (.bl true) H1 else tb σ H1 Q
def tNotV (ta:TE):TE:=fun σ H Q=>ta σ H fun x H1=>∃ c,x=.bl c/\Q (.bl (!c)) H1
theorem pe_one {op}{t:TE}(h:PE X a t):PE X (.BoolOp op [a] pos) t:=fun pins s σ H Q I hw=>BoolOp_one (h pins s σ H Q I hw)
theorem pe_and (ha:PE X a ta)(hb:PE X (.BoolOp .And (b::rest) pos) tb):PE X (.BoolOp .And (a::b::rest) pos) (tAndV ta tb):=by
 intro pins s σ H Q I h;refine BoolOp_and (thn (ha pins s σ H _ I h) fun v s1 ⟨x,H1,I1,r1,q1⟩=>?_);obtain⟨c,rfl,q1⟩:=q1;cases r1;refine wpAny_truthy_bool ?_;cases c with
 | true=>exact hb pins s1 σ H1 Q I1 q1
 | false=>exact⟨.bl false,H1,I1,rfl,q1⟩
theorem pe_or (ha:PE X a ta)(hb:PE X (.BoolOp .Or (b::rest) pos) tb):PE X (.BoolOp .Or (a::b::rest) pos) (tOrV ta tb):=by
 intro pins s σ H Q I h;refine BoolOp_or (thn (ha pins s σ H _ I h) fun v s1 ⟨x,H1,I1,r1,q1⟩=>?_);obtain⟨c,rfl,q1⟩:=q1;cases r1;refine wpAny_truthy_bool ?_;cases c with
 | false=>exact hb pins s1 σ H1 Q I1 q1
 | true=>exact⟨.bl true,H1,I1,rfl,q1⟩
theorem pe_not (ha:PE X a ta):PE X (.UnaryOp .Not a pos) (tNotV ta):=by
 intro pins s σ H Q I h;refine UnaryOp_ (thn (ha pins s σ H _ I h) fun v s1 ⟨x,H1,I1,r1,q1⟩=>?_);obtain⟨c,rfl,q1⟩:=q1;cases r1;exact not_of (wpAny_truthy_bool ⟨.bl (!c),H1,I1,rfl,q1⟩)
def tIf (t:TT)(ta tb:TE):TE:=fun σ H Q=>t σ H fun c H1=>if c=true then ta σ H1 Q else tb σ H1 Q
theorem pe_ifExp {c:Expr}(hc:PT X c tA)(ha:PE X a ta)(hb:PE X b tb):PE X (.IfExp c a b pos) (tIf tA ta tb):=by
 intro pins s σ H Q I h;refine wpAny_IfExp (thn (hc pins s σ H _ I h) fun d s1 ⟨H1,I1,q1⟩=>?_);cases d with
 | true=>exact ha pins s1 σ H1 Q I1 q1
 | false=>exact hb pins s1 σ H1 Q I1 q1
end
end L2
namespace L2
open PySem PySem.Spec PyProof.Rows
def SqL (K:PySem.W.Frag)(H:Hp)(a:Addr)(xs:List V):Prop :=
 Rd H a (.lst xs) \/
  ∃ (o:Obj) (its:Array Value) (n:Nat),K.lookup a=some o/\o.cls=.type "list"/\o.dict=none/\o.data=.seq its n/\its.size<=zh/\Vals xs its.toList
def SqT (K:PySem.W.Frag)(H:Hp)(a:Addr)(xs:List V):Prop :=
 Rd H a (.tup xs) \/
  ∃ (o:Obj) (its:Array Value) (n:Nat),K.lookup a=some o/\o.cls=.type "tuple"/\o.data=.seq its n/\its.size<=zh/\Vals xs its.toList/\o.dict=none/\o.slots = #[]
def absV:Value->Option V
 | .none=>some .non
 | .bool b=>some (.bl b)
 | .int i _=>some (.int i)
 | .str x _=>some (.str x)
 | .bytes b _=>some (.byt b)
 | .float b _=>some (.flt b)
 | .ref a=>some (.ref a)
 | .type n=>some (.ty n)
 | _=>none
theorem RelV.abs {x:V}{u:Value}(r:RelV x u):absV u=some x:=by
 cases x with
 | non=>cases r;rfl
 | bl _=>cases r;rfl
 | int _=>obtain⟨t,rfl⟩:=r;rfl
 | str _=>obtain⟨t,rfl⟩:=r;rfl
 | byt _=>obtain⟨t,rfl⟩:=r;rfl
 | flt _=>obtain⟨t,rfl⟩:=r;rfl
 | ref _=>cases r;rfl
 | ty _=>cases r;rfl
theorem RelV.inj {x y:V}{u:Value}(r:RelV x u)(q:RelV y u):x=y:=Option.some.inj (r.abs.symm.trans q.abs)
theorem Vals.inj:∀ {xs ys:List V} {us:List Value},Vals xs us->Vals ys us->xs=ys
 | _,_,_,.nil,.nil=>rfl
 | _,_,_,.cons r t,.cons r' t'=>by rw[r.inj r',Vals.inj t t']
section
variable {X:Cx}{pins:List (Addr×Obj)}{σ:St}{H:Hp}{s:Shared}{a:Addr}{xs ys:List V}
theorem SqL.of {K:PySem.W.Frag}(h:H a=some (.lst xs)):SqL K H a xs:=.inl (.inl h)
theorem Inv.list (I:Inv X pins σ H s)(h:SqL X.K H a xs):∃ its:List Value,Vals xs its/\PlainL s.heap a its.toArray/\xs.length<=zh:=by
 rcases h with h | ⟨o,its,n,hk,hc,hd,hs,hz,r⟩
 ·obtain⟨z,its,n,r,e⟩:=h.ok I.hok
  exact⟨its,r,⟨_,n,e,rfl,rfl,rfl⟩,z⟩
 ·refine⟨its.toList,r,⟨o,n,I.kIn a o hk,hc,hd,by simpa using hs⟩,?_⟩
  have e:=r.length;simp only[zW]at e;first | lia | omega
theorem Inv.tuple (I:Inv X pins σ H s)(h:SqT X.K H a xs):∃ its:List Value,Vals xs its/\IsTup s.heap a its.toArray/\xs.length<=zh:=by
 rcases h with h | ⟨o,its,n,hk,hc,hs,hz,r,_⟩
 ·obtain⟨z,its,r,p,_⟩:=h.ok I.hok
  exact⟨its,r,p,z⟩
 ·refine⟨its.toList,r,⟨o,I.kIn a o hk,hc,n,by simpa using hs⟩,?_⟩
  have e:=r.length;simp only[zW]at e;first | lia | omega
theorem Inv.tupNoDict (I:Inv X pins σ H s)(h:SqT X.K H a xs):∃ o,s.heap.get? a=some o/\o.dict=none/\o.slots = #[]:=by
 rcases h with h | ⟨o,its,n,hk,hc,hs,hz,r,hd⟩
 ·obtain⟨z,its,r,⟨o,e,_⟩,d⟩:=h.ok I.hok
  exact⟨o,e,d o e⟩
 ·exact⟨o,I.kIn a o hk,hd⟩
theorem Inv.list_inj (I:Inv X pins σ H s)(h:SqL X.K H a xs)(h':SqL X.K H a ys):xs=ys:=by
 obtain⟨its,r,⟨o,n,e,_,_,d⟩,_⟩:=I.list h;obtain⟨its',r',⟨o',n',e',_,_,d'⟩,_⟩:=I.list h';rw[e]at e';cases e';rw[d]at d';injection d' with d1 _
 have:its=its':=by simpa using congrArg vc d1
 subst this;exact r.inj r'
theorem Inv.tuple_inj (I:Inv X pins σ H s)(h:SqT X.K H a xs)(h':SqT X.K H a ys):xs=ys:=by
 obtain⟨its,r,⟨o,e,_,n,d⟩,_⟩:=I.tuple h;obtain⟨its',r',⟨o',e',_,n',d'⟩,_⟩:=I.tuple h';rw[e]at e';cases e';rw[d]at d';injection d' with d1 _
 have:its=its':=by simpa using congrArg vc d1
 subst this;exact r.inj r'
end
abbrev Cx.wish (X:Cx)(E:Value->Shared->Prop):Cx:={ X with xe:=E }
abbrev Cx.nox (X:Cx):Cx:=X.wish fun _ _=>False
theorem Cx.Ok.wish {X:Cx}(ok:X.Ok)(E:Value->Shared->Prop):(X.wish E).Ok :=
 ⟨ok.mod,ok.kind,ok.glob,ok.blt,ok.above,ok.inj,ok.has,ok.cab,ok.hd,ok.frames,ok.stk,ok.exf,ok.bs,ok.bsz,ok.noex,ok.exfs,ok.funs,ok.frf⟩
theorem Cx.Ok.unwish {X:Cx}{E:Value->Shared->Prop}(ok:(X.wish E).Ok):X.Ok :=
 ⟨ok.mod,ok.kind,ok.glob,ok.blt,ok.above,ok.inj,ok.has,ok.cab,ok.hd,ok.frames,ok.stk,ok.exf,ok.bs,ok.bsz,ok.noex,ok.exfs,ok.funs,ok.frf⟩
section
variable {X:Cx}{pins:List (Addr×Obj)}{σ:St}{H:Hp}{s:Shared}{E:Value->Shared->Prop}
theorem Inv.wish (I:Inv X pins σ H s)(E:Value->Shared->Prop):Inv (X.wish E) pins σ H s:=⟨I.ok.wish E,I.os,I.bare,I.base,I.loc,I.cell,I.free,I.freeC,I.pin,I.hok,I.len⟩
theorem Inv.unwish (I:Inv (X.wish E) pins σ H s):Inv X pins σ H s:=⟨I.ok.unwish,I.os,I.bare,I.base,I.loc,I.cell,I.free,I.freeC,I.pin,I.hok,I.len⟩
theorem SP.unwish {D:Ends}{f:Flow}{s':Shared}(h:SP (X.wish E) pins D f s'):SP X pins D f s':=by
 cases f with
 | next=>obtain⟨σ',H',I,q⟩:=h;exact⟨σ',H',I.unwish,q⟩
 | brk=>obtain⟨σ',H',I,q⟩:=h;exact⟨σ',H',I.unwish,q⟩
 | cont=>obtain⟨σ',H',I,q⟩:=h;exact⟨σ',H',I.unwish,q⟩
 | ret u=>obtain⟨v,σ',H',I,r,q⟩:=h;exact⟨v,σ',H',I.unwish,r,q⟩
theorem PSs.nox {st:List Stmt}{t:TS}(h:PSs X.nox st t):PSs X st t:=fun pins s σ H D I hw =>
 wpAny_mono (h pins s σ H D (I.wish _) hw) (fun _ _ q=>q.unwish) fun _ _ z=>False.elim z
end
section
variable {X:Cx}{st:Stmt}{rest:List Stmt}{t u:TS}{e:Expr}{te:TE}{pos:Pos}
def tNext:TS:=fun D σ H=>D.nx σ H
def tSeq (t u:TS):TS:=fun D σ H=>t { D with nx:=u D } σ H
theorem pss_nil:PSs X [] tNext:=fun _ _ σ H _ I h=>wpAny_execs_nil ⟨σ,H,I,h⟩
theorem pss_cons (h1:PS X st t)(h2:PSs X rest u):PSs X (st::rest) (tSeq t u):=by
 intro pins s σ H D I h;refine wpAny_execs_cons (thn (h1 pins s σ H { D with nx:=u D } I h) fun f s1 q=>?_);cases f with
 | next =>
  obtain⟨σ',H',I',q⟩:=q;exact h2 pins s1 σ' H' D I' q
 | ret v=>exact q
 | brk=>exact q
 | cont=>exact q
def tBreak:TS:=fun D σ H=>D.bk σ H
def tCont:TS:=fun D σ H=>D.ct σ H
theorem ps_pass:PS X (.Pass pos) tNext:=fun _ _ σ H _ I h=>wpAny_Pass ⟨σ,H,I,h⟩
theorem ps_break:PS X (.Break pos) tBreak:=fun _ _ σ H _ I h=>wpAny_Break ⟨σ,H,I,h⟩
theorem ps_continue:PS X (.Continue pos) tCont:=fun _ _ σ H _ I h=>wpAny_Continue ⟨σ,H,I,h⟩
theorem Inv.quiet {pins:List (Addr×Obj)}{σ:St}{H:Hp}{s:Shared}(I:Inv X pins σ H s):interactive X.env=false:=by simp[interactive,I.ok.kind]
def tDrop (te:TE):TS:=fun D σ H=>te σ H fun _ H1=>D.nx σ H1
theorem ps_expr (he:PE X e te)(hs:swapsWith e none pos.line X.env=pure false:=by rfl):PS X (.Expr e pos) (tDrop te):=by
 intro pins s σ H D I h;exact wpAny_Expr_any (thn (he pins s σ H _ I h) fun v s1 ⟨x,H1,I1,r1,q1⟩=>⟨σ,H1,I1,q1⟩) I.quiet hs
def tRet (te:TE):TS:=fun D σ H=>te σ H D.rt
theorem ps_ret (he:PE X e te):PS X (.Return (some e) pos) (tRet te):=by
 intro pins s σ H D I h;exact wpAny_Return_some (thn (he pins s σ H _ I h) fun v s1 ⟨x,H1,I1,r1,q1⟩=>⟨x,σ,H1,I1,r1,q1⟩)
def tRetN:TS:=fun D _ H=>D.rt .non H
theorem ps_retN:PS X (.Return none pos) tRetN:=fun _ _ σ H _ I h=>wpAny_Return_none ⟨.non,σ,H,I,rfl,h⟩
def tIfS (c:TT)(t u:TS):TS:=fun D σ H=>c σ H fun b H1=>if b=true then t D σ H1 else u D σ H1
theorem ps_if {c:Expr}{a b:List Stmt}{tc:TT}(hc:PT X c tc)(ha:PSs X a t)(hb:PSs X b u):PS X (.If c a b pos) (tIfS tc t u):=by
 intro pins s σ H D I h;refine wpAny_If (thn (hc pins s σ H _ I h) fun d s1 ⟨H1,I1,q1⟩=>?_);cases d with
 | true=>exact ha pins s1 σ H1 D I1 q1
 | false=>exact hb pins s1 σ H1 D I1 q1
end
abbrev TG:=V->St->Hp->(St->Hp->Prop)->Prop
abbrev TGs:=List V->St->Hp->(St->Hp->Prop)->Prop
def PG (X:Cx)(target:Expr)(t:TG):Prop :=
 ∀ (pins:List (Addr×Obj)) (s:Shared) (σ:St) (H:Hp) (v:V) (u:Value) (Q:St->Hp->Prop),Inv X pins σ H s->RelV v u->t v σ H Q ->
  wpAny (model X.prog X.w) X.A (assign target X.env u) (fun _ s'=>∃ σ' H',Inv X pins σ' H' s'/\Q σ' H') X.xe s
def PGs (X:Cx)(ts:List Expr)(t:TGs):Prop :=
 ∀ (pins:List (Addr×Obj)) (s:Shared) (σ:St) (H:Hp) (vs:List V) (us:List Value) (Q:St->Hp->Prop),Inv X pins σ H s->Vals vs us->t vs σ H Q ->
  wpAny (model X.prog X.w) X.A (assignInOrder ((assignEach ts X.env).map (·.2)) us) (fun _ s'=>∃ σ' H',Inv X pins σ' H' s'/\Q σ' H') X.xe s
abbrev TSet:=V->V->V->Hp->(Hp->Prop)->Prop
def PSet (X:Cx)(t:TSet):Prop :=
 ∀ (pins:List (Addr×Obj)) (s:Shared) (σ:St) (H:Hp) (o i v:V) (ov iv u:Value) (Q:Hp->Prop),Inv X pins σ H s->RelV o ov->RelV i iv->RelV v u->t o i v H Q ->
  wpAny (model X.prog X.w) X.A (setItem ov iv u) (fun _ s'=>∃ H',Inv X pins σ H' s'/\Q H') X.xe s
section
variable {X:Cx}{pos:Pos}
def gName (i:Nat):TG:=fun v σ H Q=>Q (σ.set i (some v)) H
theorem pg_name {i:Nat}{x:Str}(hN:X.N.Nodup)(hi:X.N[i]?=some x)(hx:Loc X.env.scope x)(hf:X.fn x=true\/X.env.scope.names.lookup x=some .local:=by first | exact .inl rfl | exact .inr rfl | assumption):PG X (.Name x pos) (gName i):=by
 intro pins s σ H v u Q I r h;exact wpAny_assign_Name (store_ok I hN hi hx r (fun s' I'=>⟨_,H,I',h⟩) hf)
def gNil:TGs:=fun vs σ H Q=>vs=[]/\Q σ H
def gCons (t:TG)(u:TGs):TGs:=fun vs σ H Q=>∃ v r,vs=v::r/\t v σ H fun σ' H'=>u r σ' H' Q
theorem pgs_nil:PGs X [] gNil:=by
 intro pins s σ H vs us Q I r h;obtain⟨e,h⟩:=h;subst e;cases r;exact assignInOrder_nil ⟨σ,H,I,h⟩
theorem pgs_cons {e:Expr}{es:List Expr}{t:TG}{u:TGs}(h1:PG X e t)(h2:PGs X es u)
  (hs:(assignEach (e::es) X.env).map (·.2)=assign e X.env::(assignEach es X.env).map (·.2):=by rfl):PGs X (e::es) (gCons t u):=by
 intro pins s σ H vs us Q I r h;obtain⟨v,vr,e1,h⟩:=h;subst e1;cases r with
 | cons r rr =>
  rw[hs];refine assignInOrder_cons (thn (h1 pins s σ H _ _ _ I r h) fun _ s1 ⟨σ1,H1,I1,q1⟩=>?_);exact h2 pins s1 σ1 H1 _ _ Q I1 rr q1
def gTup (K:PySem.W.Frag)(n:Nat)(t:TGs):TG:=fun v σ H Q=>∃ a xs,v=.ref a/\SqT K H a xs/\xs.length=n/\t xs σ H Q
theorem pg_tup {es:List Expr}{k:Nat}{t:TGs}{n:Nat}(hc:X.calm=true)(h:PGs X es t)
  (hn:(assignEach es X.env).length=n:=by rfl) (hst:(assignEach es X.env).findIdx? (·.1)=none:=by rfl):PG X (.Tuple es k pos) (gTup X.K n t):=by
 intro pins s σ H v u Q I r hw;obtain⟨a,xs,e1,hq,hl,hw⟩:=hw;subst e1;cases r;obtain⟨its,rv,ht,hz⟩:=I.tuple hq;refine assign_Tuple_tuple (I.ok.hd hc) ht (by simp[hn,<- hl,rv.length]) hst fun h' hx=>?_;have I1:Inv X pins σ H { s with heap:=h' }:=I.kept (t':=s.toks) fun b o e=>hx b o (zE (za e)) e;exact h pins _ σ H xs _ Q I1 (by simpa using rv) hw
def gSub (to ti:TE)(t:TSet):TG:=fun v σ H Q=>to σ H fun o H1=>ti σ H1 fun i H2=>t o i v H2 fun H3=>Q σ H3
theorem pg_sub {o i:Expr}{to ti:TE}{t:TSet}(ho:PE X o to)(hi:PE X i ti)(hs:PSet X t)
  (ha:∀ v,assign (.Subscript o i pos) X.env v=(do
   let ov <- holding [v] (eval o X.env)
   let iv <- holding [v,ov] (eval i X.env)
   standAt pos
   holding [v,ov,iv] (setItem ov iv v)
   release [v,ov,iv] []):=by intro _;rfl):PG X (.Subscript o i pos) (gSub to ti t):=by
 intro pins s σ H v u Q I r h;rw[ha];refine zw (wpAny_holding (thn (ho pins s σ H _ I h) fun ov s1 ⟨x,H1,I1,r1,q1⟩=>?_));refine zw (wpAny_holding (thn (hi pins s1 σ H1 _ I1 q1) fun iv s2 ⟨y,H2,I2,r2,q2⟩=>?_));refine zw (wpAny_standAt (zw (wpAny_holding (thn (hs pins s2 σ H2 x y v ov iv u _ I2 r1 r2 r q2) fun _ s3 ⟨H3,I3,q3⟩=>?_))));exact wpAny_release ⟨σ,H3,I3,q3⟩
def tAsg (te:TE)(g:TG):TS:=fun D σ H=>te σ H fun x H1=>g x σ H1 D.nx
theorem ps_asg {tg e:Expr}{te:TE}{g:TG}(he:PE X e te)(hg:PG X tg g)(hs:swapsWithSole [tg] e pos.line X.env=pure false:=by rfl)(hw:swappedStores [tg] e X.env=pure none:=by rfl)
  (h1:(assignEach [tg] X.env).map (·.2)=[assign tg X.env]:=by rfl):PS X (.Assign [tg] e pos) (tAsg te g):=by
 intro pins s σ H D I h;refine wpAny_Assign_stores (thn (he pins s σ H _ I h) fun v s1 ⟨x,H1,I1,r1,q1⟩=>?_) hs hw;rw[h1];exact thn (hg pins s1 σ H1 x v _ I1 r1 q1) fun _ s2 q=>q
theorem ps_set {i:Nat}{x:Str}{e:Expr}{te:TE}{pos':Pos}(hN:X.N.Nodup)(hi:X.N[i]?=some x)(hx:Loc X.env.scope x)(he:PE X e te)(hs:swapsWith e (some (.Name x pos')) pos.line X.env=pure false:=by rfl)(hf:X.fn x=true\/X.env.scope.names.lookup x=some .local:=by first | exact .inl rfl | exact .inr rfl | assumption) :
  PS X (.Assign [.Name x pos'] e pos) (tAsg te (gName i)):=by
 intro pins s σ H D I h;refine wpAny_Assign_Name (thn (he pins s σ H _ I h) fun v s1 ⟨y,H1,I1,r1,q1⟩=>?_) hs;exact store_ok I1 hN hi hx r1 (fun s2 I2=>⟨_,H1,I2,q1⟩) hf
end
section
variable {X:Cx}{pos:Pos}
end
structure It where
 go:Nat->Hp->Prop
 yld:Nat->Hp->V->Hp->Prop
 stop:Nat->Hp->Prop
def FpOk (X:Cx)(pins:List (Addr×Obj))(H:Hp)(b:Addr):Prop :=
 H b=none/\b≠X.env.locals/\b ∉ X.fs/\(b∈X.ex\/X.s₀.heap.objs.size<=b)/\(∀ x c,X.env.cells.lookup x=some c->c≠b)/\∀ p∈X.pn++pins,p.1≠b
theorem Inv.fpOk {X:Cx}{pins:List (Addr×Obj)}{σ:St}{H H':Hp}{s:Shared}{b:Addr}(I:Inv X pins σ H s)(hb:s.heap.objs.size<=b)(hn:H' b=none):FpOk X pins H' b:=by
 refine⟨hn,xp (zJ I.lt hb),I.nofs hb,.inr (zH I.sz hb),fun x c e z=>?_,fun p hp z=>?_⟩
 ·obtain⟨v,q⟩:=I.cell x c e
  exact absurd (zJ q.lt (by rw[z];exact hb)) (yi _)
 ·exact absurd (zJ (za (I.pin p hp).1) (by rw[z];exact hb)) (yi _)
structure Turn (P:Program) (w:World) (K:PySem.W.Frag) (tg:Expr) (J:It) (fp:List Addr) (it:Addr) (tn:Nat->Heap->Prop):Prop where
 mem:it∈fp
 obj:∀ i h,tn i h->∀ b∈fp,∃ o,h.get? b=some o/\∀ v,o.data≠.cell v
 keep:∀ i h h',tn i h->(∀ b∈fp,∀ o,h.get? b=some o->h'.get? b=some o)->tn i h'
 item:∀ (X:Cx),X.prog=P->X.w=w->X.K=K->X.calm=true->∀ (i:Nat) (pins:List (Addr×Obj)) (s:Shared) (σ:St) (H:Hp) (E:Value->Shared->Prop),Inv X pins σ H s->(∀ b∈fp,FpOk X pins H b)->tn i s.heap->J.go i H ->
  wpAny (model P w) X.A (pyNext (.ref it)) (fun r s1=>∃ u,r=some u /\
   wpAny (model P w) X.A (letOwnedTupleGo tg (.ref it) u) (fun _ s2=>∃ x H',Inv X pins σ H' s2/\RelV x u/\J.yld i H x H'/\tn (i + 1) s2.heap/\∀ b∈fp,H' b=none) E s1) E s
 done:∀ (X:Cx),X.prog=P->X.w=w->X.K=K->X.calm=true->∀ (i:Nat) (pins:List (Addr×Obj)) (s:Shared) (σ:St) (H:Hp) (E:Value->Shared->Prop),Inv X pins σ H s->(∀ b∈fp,FpOk X pins H b)->tn i s.heap->J.stop i H ->
  wpAny (model P w) X.A (pyNext (.ref it)) (fun r s1=>r=none/\Inv X pins σ H s1) E s
 self:∀ (A:Around) (i:Nat) (s:Shared) (Q:Value->Shared->Prop) (E:Value->Shared->Prop),tn i s.heap->Q (.ref it) s->wpAny (model P w) A (pyIter (.ref it)) Q E s
abbrev TI:=St->Hp->(It->Hp->Prop)->Prop
def PIE (X:Cx)(pins:List (Addr×Obj))(σ:St)(tg:Expr)(R:It->Hp->Prop)(itv:Value)(s2:Shared):Prop :=
 ∃ (it:Addr) (fp:List Addr) (tn:Nat->Heap->Prop) (J:It) (H':Hp),itv=.ref it/\Inv X pins σ H' s2/\Turn X.prog X.w X.K tg J fp it tn/\tn 0 s2.heap/\(∀ b∈fp,FpOk X pins H' b)/\R J H'
def PI (X:Cx)(tg iter:Expr)(wi:TI):Prop :=
 ∀ (pins:List (Addr×Obj)) (s:Shared) (σ:St) (H:Hp) (R:It->Hp->Prop),Inv X pins σ H s->wi σ H R ->
  wpAny (model X.prog X.w) X.A (eval iter X.env) (fun v s1=>wpAny (model X.prog X.w) X.A (pyIter v) (PIE X pins σ tg R) X.xe s1) X.xe s
theorem go_of {M:Model}{A:Around}{E:Value->Shared->Prop}{s:Shared}{tg:Expr}{it:Addr}{u:Value}{o:Obj}{n:String}{vs:Array Value}{Q:Unit->Shared->Prop}(ho:s.heap.get? it=some o)(hc:o.cls=.type n)(hd:o.data=.fields vs)
  (hn:["enumerate","zip","dict_itemiterator","dict_reverseitemiterator","odict_iterator","itertools.zip_longest","itertools.pairwise"].contains n=false) (hQ:Q () s):wpAny M A (letOwnedTupleGo tg (.ref it) u) Q E s:=by
 unfold letOwnedTupleGo;cases tg <;> first
  | exact zj hQ
  | (cases u <;> first
    | exact zj hQ
    | (refine zw (wpAny_load ho ?_)
       rw[hc,hd];show wpAny M A (if (["enumerate","zip","dict_itemiterator","dict_reverseitemiterator","odict_iterator","itertools.zip_longest","itertools.pairwise"].contains n&&vs[0]?==some (rawInt _))=true then _ else _) Q E s;rw[if_neg (by intro h;rw[hn,xO]at h;cases h)];exact zj hQ))
def Itl (K:PySem.W.Frag)(a:Addr):It :=
 ⟨fun i H=>∃ xs x,SqL K H a xs/\xs[i]?=some x,fun i H x H'=>H'=H/\∀ xs,SqL K H a xs->xs[i]?=some x,fun i H=>∃ xs,SqL K H a xs/\xs.length<=i⟩
def Itt (K:PySem.W.Frag)(a:Addr):It :=
 ⟨fun i H=>∃ xs x,SqT K H a xs/\xs[i]?=some x,fun i H x H'=>H'=H/\∀ xs,SqT K H a xs->xs[i]?=some x,fun i H=>∃ xs,SqT K H a xs/\xs.length<=i⟩
def Itr (lo:Int)(n:Nat):It:=⟨fun i _=>i < n,fun i H x H'=>H'=H/\x=.int (lo + i),fun i _=>n<=i⟩
theorem turn_list {P:Program}{w:World}{K:PySem.W.Frag}{tg:Expr}(a it:Addr):Turn P w K tg (Itl K a) [it] it (fun i h=>h.IsListIter it a i) where
 mem:=by simp
 obj:=fun i h st b hb=>by
  have e:b=it:=by simpa using hb
  subst e;obtain⟨o,e,c,d⟩:=st;exact⟨o,e,fun v z=>by rw[d]at z;cases z⟩
 keep:=fun i h h' st k=>st.at fun o e=>k it (by simp) o e
 item:=by
  intro X hP hw hK hc i pins s σ H E I hf st hg;subst hP hw hK;obtain⟨xs,x,hq,hx⟩:=hg;obtain⟨its,rv,p,hz⟩:=I.list hq;obtain⟨u,hu,ru⟩:=rv.get hx;obtain⟨f0,f1,f2,f3,f4,f5⟩:=hf it (by simp);refine wpAny_pyNext_list_item st p.isList (x:=u) (by simpa using hu) fun h' st' sb=>?_;have I1:Inv X pins σ H { s with heap:=h' }:=I.turned (t':=s.toks) (fun b o hb e=>(sb.2 b hb).trans e) f0 f1 f3 f4 f5;obtain⟨o,e,c,d⟩:=id st';exact⟨u,rfl,go_of (s:={ s with heap:=h' }) e c d (by decide) ⟨x,H,I1,ru,⟨rfl,fun ys hy=>by rw[I.list_inj hy hq];exact hx⟩,st',fun b hb=>(hf b hb).1⟩⟩
 done:=by
  intro X hP hw hK hc i pins s σ H E I hf st hg;subst hP hw hK;obtain⟨xs,hq,hx⟩:=hg;obtain⟨its,rv,p,hz⟩:=I.list hq;obtain⟨f0,f1,f2,f3,f4,f5⟩:=hf it (by simp);have hl:=rv.length;exact wpAny_pyNext_list_end (I.ok.hd hc) st p.isList (by simp;omega) fun h' eb=>⟨rfl,I.turned (t':=s.toks) (fun b o hb e=>eb b o hb e) f0 f1 f3 f4 f5⟩
 self:=fun _ _ _ _ _ st h=>wpAny_pyIter_listiter st h
theorem turn_tuple {P:Program}{w:World}{K:PySem.W.Frag}{tg:Expr}(a it:Addr):Turn P w K tg (Itt K a) [it] it (fun i h=>h.IsTupleIter it a i) where
 mem:=by simp
 obj:=fun i h st b hb=>by
  have e:b=it:=by simpa using hb
  subst e;obtain⟨o,e,c,d⟩:=st;exact⟨o,e,fun v z=>by rw[d]at z;cases z⟩
 keep:=fun i h h' st k=>st.at fun o e=>k it (by simp) o e
 item:=by
  intro X hP hw hK hc i pins s σ H E I hf st hg;subst hP hw hK;obtain⟨xs,x,hq,hx⟩:=hg;obtain⟨its,rv,p,hz⟩:=I.tuple hq;obtain⟨u,hu,ru⟩:=rv.get hx;obtain⟨f0,f1,f2,f3,f4,f5⟩:=hf it (by simp);refine wpAny_pyNext_tuple_item st (show s.heap.IsTuple a its.toArray from p) (x:=u) (by simpa using hu) fun h' st' sb=>?_;have I1:Inv X pins σ H { s with heap:=h' }:=I.turned (t':=s.toks) (fun b o hb e=>(sb.2 b hb).trans e) f0 f1 f3 f4 f5;obtain⟨o,e,c,d⟩:=id st';exact⟨u,rfl,go_of (s:={ s with heap:=h' }) e c d (by decide) ⟨x,H,I1,ru,⟨rfl,fun ys hy=>by rw[I.tuple_inj hy hq];exact hx⟩,st',fun b hb=>(hf b hb).1⟩⟩
 done:=by
  intro X hP hw hK hc i pins s σ H E I hf st hg;subst hP hw hK;obtain⟨xs,hq,hx⟩:=hg;obtain⟨its,rv,p,hz⟩:=I.tuple hq;obtain⟨f0,f1,f2,f3,f4,f5⟩:=hf it (by simp);have hl:=rv.length;exact wpAny_pyNext_tuple_end (I.ok.hd hc) st (show s.heap.IsTuple a its.toArray from p) (by simp;omega) fun h' eb=>⟨rfl,I.turned (t':=s.toks) (fun b o hb e=>eb b o hb e) f0 f1 f3 f4 f5⟩
 self:=fun _ _ _ _ _ st h=>wpAny_pyIter_tupleiter st h
theorem turn_range {P:Program}{w:World}{K:PySem.W.Frag}{tg:Expr}(it:Addr)(lo:Int)(n:Nat):Turn P w K tg (Itr lo n) [it] it (fun i h=>IsRangeIter h it (lo + (i:Nat) * 1) ((n:Int) - (i:Nat)) 1) where
 mem:=by simp
 obj:=fun i h st b hb=>by
  have e:b=it:=by simpa using hb
  subst e;exact⟨_,st,fun v z=>by
   have z':Data.fields _=Data.cell v:=z;cases z'⟩
 keep:=fun i h h' st k=>k it (by simp) _ st
 item:=by
  intro X hP hw hK hc i pins s σ H E I hf st hg;subst hP hw hK;obtain⟨f0,f1,f2,f3,f4,f5⟩:=hf it (by simp);have W:=Walks.range (prog:=X.prog) (w:=X.w) (I.ok.hd hc) it lo 1 n;refine W.item i s _ _ hg st fun v h' tk hv st' kk=>?_;obtain⟨t,rfl⟩:=hv;have I1:Inv X pins σ H { s with heap:=h',toks:=tk }:=I.turned (fun b o hb e=>kk b o (by simpa using hb) e) f0 f1 f3 f4 f5;refine⟨_,rfl,go_of (s:={ s with heap:=h',toks:=tk }) (n:="range_iterator") st' rfl rfl (by decide) ⟨.int (lo + i),H,I1,⟨t,?_⟩,⟨rfl,rfl⟩,st',fun b hb=>(hf b hb).1⟩⟩;rw[Int.mul_one]
 done:=by
  intro X hP hw hK hc i pins s σ H E I hf st hg;subst hP hw hK;obtain⟨f0,f1,f2,f3,f4,f5⟩:=hf it (by simp);exact wpAny_pyNext_range_end (I.ok.hd hc) st (by have:n<=i:=hg;omega) fun h' eb=>⟨rfl,I.turned (t':=s.toks) (fun b o hb e=>eb b o hb e) f0 f1 f3 f4 f5⟩
 self:=fun _ _ _ _ _ st h=>wpAny_pyIter_rangeiter st h
end L2
namespace L2
open PySem PySem.Spec PyProof.Rows
section
variable {X:Cx}{tg:Expr}
theorem range_it {pins:List (Addr×Obj)}{σ:St}{H:Hp}{s:Shared}{R:It->Hp->Prop}{E:Value->Shared->Prop}{lo hi:Int}{t u v:Tok}{tk:Nat}(I:Inv X pins σ H s)(h1:-(2 ^ 62)<=lo)(h2:lo < 2 ^ 62)(h3:-(2 ^ 62)<=hi)(h4:hi < 2 ^ 62)
  (q:R (Itr lo (hi - lo).toNat) H):wpAny (model X.prog X.w) X.A (pyIter (.ref s.heap.objs.size)) (PIE X pins σ tg R) E { s with heap:=s.heap.push { cls:=.type "range",data:=.fields #[.int lo t,.int hi u,.int 1 v] },toks:=tk }:=by
 refine wpAny_pyIter_range (IsRange.new ..) (small_one h1 h2 h3 h4) ?_;have I1:Inv X pins σ H { s with heap:=s.heap.push { cls:=.type "range",data:=.fields #[.int lo t,.int hi u,.int 1 v] },toks:=tk }:=I.kept fun b o e=>zb _ e;refine⟨(s.heap.push { cls:=.type "range",data:=.fields #[.int lo t,.int hi u,.int 1 v] }).objs.size,[(s.heap.push { cls:=.type "range",data:=.fields #[.int lo t,.int hi u,.int 1 v] }).objs.size],_,_,H,rfl,
  I1.kept (t':=tk) fun b o e=>zb _ e,turn_range _ lo (hi - lo).toNat,?_,fun b hb=>?_,q⟩
 ·have e1:lo + ((0:Nat):Int) * 1=lo:=by simp
  have e2:(((hi - lo).toNat:Nat):Int) - ((0:Nat):Int)=Builtin.Range.rangeSize lo hi 1:=by rw[rangeSize_one];split <;> omega
  show IsRangeIter _ _ (lo + ((0:Nat):Int) * 1) ((((hi - lo).toNat:Nat):Int) - ((0:Nat):Int)) 1;rw[e1,e2];exact zR _ rfl
 ·have e:b=(s.heap.push { cls:=.type "range",data:=.fields #[.int lo t,.int hi u,.int 1 v] }).objs.size:=by simpa using hb
  subst e;exact I1.fpOk (zo _) (I1.hok.fresh (zo _))
def iRng1 (ta:TA):TI:=fun σ H R=>ta σ H fun vs H1=>∃ j:Int,vs=[.int j]/\-(2 ^ 62)<=j/\j < 2 ^ 62/\R (Itr 0 j.toNat) H1
def iRng2 (ta:TA):TI:=fun σ H R=>ta σ H fun vs H1=>∃ i j:Int,vs=[.int i,.int j]/\(-(2 ^ 62)<=i/\i < 2 ^ 62/\-(2 ^ 62)<=j/\j < 2 ^ 62)/\R (Itr i (j - i).toNat) H1
theorem pi_range1 {a:Expr}{ta:TA}{p pos:Pos}(hg:Gl X "range")(hm:X.mg "range" = none)(ha:PA X [a] ta)(hs:starEach [a] X.env=[(false,eval a X.env)]:=by rfl):PI X tg (.Call (.Name "range" p) [a] [] pos) (iRng1 ta):=by
 intro pins s σ H R I h;refine Call_ (ld_blt I hg hm boot_range (PyProof.Rows.callWith_type1 (thn (ha pos pins s σ H _ I h) fun us s1 ⟨vs,H1,I1,r1,q1⟩=>?_) hs rfl));obtain⟨j,e,q1,q2,q⟩:=q1;subst e;cases r1 with
 | cons r rr =>
  cases rr;obtain⟨t,rfl⟩:=r;exact call_range_1 (range_it I1 (by first | lia | omega) (by first | lia | omega) q1 q2 (by simpa using q))
theorem pi_range2 {a b:Expr}{ta:TA}{p pos:Pos}(hg:Gl X "range")(hm:X.mg "range" = none)(ha:PA X [a,b] ta)(hs:starEach [a,b] X.env=[(false,eval a X.env),(false,eval b X.env)]:=by rfl)(hs2:starEach [b] X.env=[(false,eval b X.env)]:=by rfl) :
  PI X tg (.Call (.Name "range" p) [a,b] [] pos) (iRng2 ta):=by
 intro pins s σ H R I h;refine Call_ (ld_blt I hg hm boot_range (PyProof.Rows.callWith_type1 (thn (ha pos pins s σ H _ I h) fun us s1 ⟨vs,H1,I1,r1,q1⟩=>?_) (by rw[hs,hs2]) (by rw[hs2];rfl)));obtain⟨i,j,e,⟨q1,q2,q3,q4⟩,q⟩:=q1;subst e;cases r1 with
 | cons r rr =>
  cases rr with
  | cons r' rr =>
   cases rr;obtain⟨t,rfl⟩:=r;obtain⟨t',rfl⟩:=r';exact call_range_2 (range_it I1 q1 q2 q3 q4 q)
def tFor (wi:TI)(g:TG)(tb:TS):TS:=fun D σ H=>wi σ H fun J H1=>∃ W:Nat->Nat->St->Hp->Prop,(∃ m,W 0 m σ H1)/\∀ i m σ H,W i m σ H ->
 (J.stop i H/\D.nx σ H)\/(J.go i H/\∃ N:St->Hp->Prop,(∀ σ' H',N σ' H'->∃ m',m' < m/\W (i + 1) m' σ' H')/\∀ x H',J.yld i H x H'->g x σ H' fun σ2 H2=>tb { D with nx:=N,ct:=N,bk:=D.nx } σ2 H2)
def pinsAt (fp:List Addr)(h:Heap):List (Addr×Obj):=fp.filterMap fun b=>(h.get? b).map fun o=>(b,o)
theorem mem_pinsAt {fp:List Addr}{h:Heap}{b:Addr}{o:Obj}(hb:b∈fp)(e:h.get? b=some o):(b,o)∈pinsAt fp h:=wM.mpr ⟨b,hb,by rw[e];rfl⟩
theorem of_pinsAt {fp:List Addr}{h:Heap}{p:Addr×Obj}(hp:p∈pinsAt fp h):p.1∈fp/\h.get? p.1=some p.2:=by
 obtain⟨b,hb,e⟩:=wM.mp hp;cases q:h.get? b with
 | none=>rw[q]at e;cases e
 | some o =>
  rw[q]at e;have e':(b,o)=p:=Option.some.inj e;subst e';exact⟨hb,q⟩
theorem Inv.pinned {pins:List (Addr×Obj)}{σ:St}{H:Hp}{s:Shared}{fp:List Addr}(I:Inv X pins σ H s)(hf:∀ b∈fp,FpOk X pins H b)(ho:∀ b∈fp,∃ o,s.heap.get? b=some o/\∀ v,o.data≠.cell v):Inv X (pins++pinsAt fp s.heap) σ H s :=
 I.pins_of fun p hp=>(zF.mp hp).elim (fun z=>I.pin p (zX _ z)) fun z=>by
  obtain⟨hb,e⟩:=of_pinsAt z;obtain⟨f0,f1,f2,_⟩:=hf p.1 hb;obtain⟨o,e',d⟩:=ho p.1 hb;rw[e]at e';cases e';exact⟨e,f0,f1,f2,d⟩
theorem Inv.unpinned {pins pl:List (Addr×Obj)}{σ:St}{H:Hp}{s:Shared}(I:Inv X (pins++pl) σ H s):Inv X pins σ H s:=I.pins_of fun p hp=>I.pin p (zX _ (yE _ hp))
theorem ps_for {iter:Expr}{body:List Stmt}{wi:TI}{g:TG}{tb:TS}{pos:Pos}(hp:PassesOwn (model X.prog X.w) X.A X.env X.xe)(hc:X.calm=true)(hi:PI X tg iter wi)(hg:PG X tg g)(hb:PSs X body tb)
  (hs:∀ x,foldedSetIterable iter X.env x=pure x:=by intro _;rfl):PS X (.For tg iter body [] pos) (tFor wi g tb):=by
 intro pins s σ H D I h;refine wpAny_For (thn (hi pins s σ H _ I h) fun v s1 h1=>thn h1 fun itv s2 h2=>?_) hs;obtain⟨it,fp,tn,J,H2,e,I2,T,st2,f2,W,⟨m0,w0⟩,turn⟩:=h2;subst e;have stat:∀ {H':Hp},(∀ b∈fp,H' b=none)->∀ b∈fp,FpOk X pins H' b:=fun hn b hb=>⟨hn b hb,(f2 b hb).2⟩;refine codeAny_forLoop_any (fun n s'=>∃ i σ' H',Inv X pins σ' H' s'/\tn i s'.heap/\(∀ b∈fp,H' b=none)/\W i n σ' H') ?_ m0 ⟨0,σ,H2,I2,st2,fun b hb=>(f2 b hb).1,w0⟩;rintro n s3 ⟨i,σ3,H3,I3,st3,fr3,w3⟩;rcases turn i n σ3 H3 w3 with ⟨stop,qn⟩|⟨go,N,hN,step⟩
 ·refine wpAny_passesOwn hp (thn (T.done X rfl rfl rfl hc i pins s3 σ3 H3 X.xe I3 (stat fr3) st3 stop) fun r s4 ⟨hr,I4⟩=>?_)
  subst hr;exact wpAny_execs_nil ⟨σ3,H3,I4,qn⟩
 ·refine wpAny_passesOwn hp (thn (T.item X rfl rfl rfl hc i pins s3 σ3 H3 X.xe I3 (stat fr3) st3 go) fun r s4 ⟨u,hr,h4⟩=>?_)
  subst hr;refine wpAny_passesOwn hp (thn h4 fun _ s5 ⟨x,H5,I5,r5,y5,st5,fr5⟩=>?_);have I5':=I5.pinned (stat fr5) (T.obj _ _ st5);refine wpAny_passesOwn hp (thn (hg _ s5 σ3 H5 x u _ I5' r5 (step x H5 y5)) fun _ s6 ⟨σ6,H6,I6,q6⟩=>?_);refine wpAny_passesOwn hp (thn (hb _ s6 σ6 H6 _ I6 q6) fun f s7 q7=>?_);have again:∀ {σ7:St} {H7:Hp},Inv X (pins++pinsAt fp s5.heap) σ7 H7 s7->N σ7 H7->∃ m,m < n/\∃ i σ' H',Inv X pins σ' H' s7/\tn i s7.heap/\(∀ b∈fp,H' b=none)/\W i m σ' H':=fun {σ7 H7} I7 n7=>by
   obtain⟨m',hm,w7⟩:=hN σ7 H7 n7;refine⟨m',hm,i + 1,σ7,H7,I7.unpinned,T.keep _ _ _ st5 fun b hb o e=>(I7.pin (b,o) (zX _ (zX _ (mem_pinsAt hb e)))).1,fun b hb=>?_,w7⟩;obtain⟨o,e,d⟩:=T.obj _ _ st5 b hb;exact(I7.pin (b,o) (zX _ (zX _ (mem_pinsAt hb e)))).2.1
  cases f with
  | next=>obtain⟨σ7,H7,I7,n7⟩:=q7;exact again I7 n7
  | cont=>obtain⟨σ7,H7,I7,n7⟩:=q7;exact again I7 n7
  | brk=>obtain⟨σ7,H7,I7,q7⟩:=q7;exact⟨σ7,H7,I7.unpinned,q7⟩
  | ret v=>obtain⟨x7,σ7,H7,I7,r7,q7⟩:=q7;exact⟨x7,σ7,H7,I7.unpinned,r7,q7⟩
end
end L2
namespace L2
open PySem PySem.Spec PyProof.Rows
abbrev R2:=V->V->Hp->VK->Prop
def OpR (X:Cx)(f:Value->Value->Sem Value)(r:R2):Prop :=
 ∀ (pins:List (Addr×Obj)) (s:Shared) (σ:St) (H:Hp) (x y:V) (v u:Value) (Q:VK),Inv X pins σ H s->RelV x v->RelV y u->r x y H Q ->
  wpAny (model X.prog X.w) X.A (f v u) (EP X pins σ Q) X.xe s
def UnR (X:Cx)(f:Value->Sem Value)(r:V->Hp->VK->Prop):Prop :=
 ∀ (pins:List (Addr×Obj)) (s:Shared) (σ:St) (H:Hp) (x:V) (v:Value) (Q:VK),Inv X pins σ H s->RelV x v->r x H Q ->
  wpAny (model X.prog X.w) X.A (f v) (EP X pins σ Q) X.xe s
def CallR (X:Cx)(f:Value)(r:List V->Hp->VK->Prop):Prop :=
 ∀ (pins:List (Addr×Obj)) (s:Shared) (σ:St) (H:Hp) (xs:List V) (us:List Value) (Q:VK),Inv X pins σ H s->Vals xs us->r xs H Q ->
  wpAny (model X.prog X.w) X.A (call f us) (EP X pins σ Q) X.xe s
def TruR (X:Cx)(r:V->Hp->(Bool->Hp->Prop)->Prop):Prop :=
 ∀ (pins:List (Addr×Obj)) (s:Shared) (σ:St) (H:Hp) (x:V) (v:Value) (Q:Bool->Hp->Prop),Inv X pins σ H s->RelV x v->r x H Q ->
  wpAny (model X.prog X.w) X.A (truthy v) (TP X pins σ Q) X.xe s
def tOp (r:R2)(ta tb:TE):TE:=fun σ H Q=>ta σ H fun x H1=>tb σ H1 fun y H2=>r x y H2 Q
def tUn (r:V->Hp->VK->Prop)(ta:TE):TE:=fun σ H Q=>ta σ H fun x H1=>r x H1 Q
def rI (C:Int->Int->Prop)(g:Int->Int->V):R2:=fun x y H Q=>∃ i j,x=.int i/\y=.int j/\C i j/\Q (g i j) H
def rI0 (g:Int->Int->V):R2:=fun x y H Q=>∃ i j,x=.int i/\y=.int j/\Q (g i j) H
def rU (g:Int->V):V->Hp->VK->Prop:=fun x H Q=>∃ i,x=.int i/\Q (g i) H
section
variable {X:Cx}{a b c:Expr}{ta tb tc:TE}{pos:Pos}
theorem binT (ha:PE X a ta)(hb:PE X b tb){pins:List (Addr×Obj)}{s:Shared}{σ:St}{H:Hp}{R:V->V->Hp->Prop}(I:Inv X pins σ H s)
  (h:ta σ H fun x H1=>tb σ H1 fun y H2=>R x y H2) {Q:Value->Shared->Prop} {f:Value->Value->Sem Value}
  (hf:∀ v u s2 x y H2,Inv X pins σ H2 s2->RelV x v->RelV y u->R x y H2->wpAny (model X.prog X.w) X.A (f v u) Q X.xe s2) :
  wpAny (model X.prog X.w) X.A (eval a X.env) (fun v s₁=>wpAny (model X.prog X.w) X.A (eval b X.env) (fun u s₂=>wpAny (model X.prog X.w) X.A (f v u) Q X.xe s₂) X.xe s₁) X.xe s:=by
 refine thn (ha pins s σ H _ I h) fun v s1 ⟨x,H1,I1,r1,q1⟩=>?_;refine thn (hb pins s1 σ H1 _ I1 q1) fun u s2 ⟨y,H2,I2,r2,q2⟩=>?_;exact hf v u s2 x y H2 I2 r1 r2 q2
theorem pe_op {op:Operator}{r:R2}(ho:OpR X (binaryOp op) r)(ha:PE X a ta)(hb:PE X b tb):PE X (.BinOp a op b pos) (tOp r ta tb):=by
 intro pins s σ H Q I h;exact wpAny_BinOp (binT ha hb I h fun v u s2 x y H2 I2 rx ry q=>ho pins s2 σ H2 x y v u Q I2 rx ry q)
theorem pe_un {op:UnaryOp}{r:V->Hp->VK->Prop}(ho:UnR X (unaryOp op) r)(ha:PE X a ta):PE X (.UnaryOp op a pos) (tUn r ta):=by
 intro pins s σ H Q I h;exact UnaryOp_ (thn (ha pins s σ H _ I h) fun v s1 ⟨x,H1,I1,r1,q1⟩=>ho pins s1 σ H1 x v Q I1 r1 q1)
theorem opI {f:Value->Value->Sem Value}{C:Int->Int->Prop}{g:Int->Int->Int}
  (rule:∀ (i j:Int) (t u:Tok) (s:Shared) (Q:Value->Shared->Prop) (E:Value->Shared->Prop),C i j->Q (.int (g i j) s.toks) { s with toks:=s.toks + 1 }->wpAny (model X.prog X.w) X.A (f (.int i t) (.int j u)) Q E s) :
  OpR X f (rI C fun i j=>.int (g i j)):=by
 intro pins s σ H x y v u Q I rx ry h;obtain⟨i,j,rfl,rfl,hc,q⟩:=h;obtain⟨t,rfl⟩:=rx;obtain⟨t',rfl⟩:=ry;exact rule i j t t' s _ _ hc ⟨.int (g i j),H,I.tok _,⟨_,rfl⟩,q⟩
theorem opI0 {f:Value->Value->Sem Value}{g:Int->Int->Int}
  (rule:∀ (i j:Int) (t u:Tok) (s:Shared) (Q:Value->Shared->Prop) (E:Value->Shared->Prop),Q (.int (g i j) s.toks) { s with toks:=s.toks + 1 }->wpAny (model X.prog X.w) X.A (f (.int i t) (.int j u)) Q E s) :
  OpR X f (rI0 fun i j=>.int (g i j)):=by
 intro pins s σ H x y v u Q I rx ry h;obtain⟨i,j,rfl,rfl,q⟩:=h;obtain⟨t,rfl⟩:=rx;obtain⟨t',rfl⟩:=ry;exact rule i j t t' s _ _ ⟨.int (g i j),H,I.tok _,⟨_,rfl⟩,q⟩
theorem opB0 {f:Value->Value->Sem Value}{g:Int->Int->Bool}
  (rule:∀ (i j:Int) (t u:Tok) (s:Shared) (Q:Value->Shared->Prop) (E:Value->Shared->Prop),Q (.bool (g i j)) s->wpAny (model X.prog X.w) X.A (f (.int i t) (.int j u)) Q E s) :
  OpR X f (rI0 fun i j=>.bl (g i j)):=by
 intro pins s σ H x y v u Q I rx ry h;obtain⟨i,j,rfl,rfl,q⟩:=h;obtain⟨t,rfl⟩:=rx;obtain⟨t',rfl⟩:=ry;exact rule i j t t' s _ _ ⟨.bl (g i j),H,I,rfl,q⟩
def CDiv (i j:Int):Prop:=0 < j/\j < 1073741824
def CPow (i j:Int):Prop:=0<=j/\j<=1000000/\i.natAbs < 2 ^ 64
def CMul (i j:Int):Prop:=(-(2 ^ 64) < i/\i < 2 ^ 64)\/(-(2 ^ 64) < j/\j < 2 ^ 64)
theorem CMul.ok {i j:Int}(h:CMul i j):IntMulOk i j:=by
 rcases h with ⟨h1,h2⟩|⟨h1,h2⟩
 ·exact .of_left (intBits_le_64 h1 h2)
 ·exact .of_right (intBits_le_64 h1 h2)
theorem op_add:OpR X (binaryOp .Add) (rI0 fun i j=>.int (i + j)):=opI0 fun _ _ _ _ _ _ _ q=>add_int q
theorem op_sub:OpR X (binaryOp .Sub) (rI0 fun i j=>.int (i - j)):=opI0 fun _ _ _ _ _ _ _ q=>sub_int q
theorem op_mul:OpR X (binaryOp .Mult) (rI CMul fun i j=>.int (i * j)):=opI fun _ _ _ _ _ _ _ hc q=>mul_int q hc.ok
theorem op_fdiv:OpR X (binaryOp .FloorDiv) (rI CDiv fun i j=>.int (i / j)):=opI fun i j _ _ _ _ _ hc q=>by
 have h1:(0:Int) < j:=hc.1;have h2:j < 1073741824:=hc.2;exact floordiv_int (by first | lia | omega) (by rw[Int.fdiv_eq_ediv_of_nonneg i (by first | lia | omega)];exact q) (.inl (PyProof.noPylong_small (by first | lia | omega)))
theorem op_mod:OpR X (binaryOp .Mod) (rI (fun _ j=>0 < j) fun i j=>.int (i % j)):=opI fun i j _ _ _ _ _ hc q=>by
 have h1:(0:Int) < j:=hc;exact mod_int' (by first | lia | omega) (by rw[Int.fmod_eq_emod_of_nonneg i (by first | lia | omega)];exact q)
theorem op_pow:OpR X (binaryOp .Pow) (rI CPow fun i j=>.int (i ^ j.toNat)):=opI fun _ _ _ _ _ _ _ hc q=>pow_int_small hc.1 hc.2.1 hc.2.2 q
theorem unI {f:Value->Sem Value}{g:Int->Int}
  (rule:∀ (i:Int) (t:Tok) (s:Shared) (Q:Value->Shared->Prop) (E:Value->Shared->Prop),Q (.int (g i) s.toks) { s with toks:=s.toks + 1 }->wpAny (model X.prog X.w) X.A (f (.int i t)) Q E s) :
  UnR X f (rU fun i=>.int (g i)):=by
 intro pins s σ H x v Q I rx h;obtain⟨i,rfl,q⟩:=h;obtain⟨t,rfl⟩:=rx;exact rule i t s _ _ ⟨.int (g i),H,I.tok _,⟨_,rfl⟩,q⟩
theorem un_neg:UnR X (unaryOp .USub) (rU fun i=>.int (-i)):=unI fun _ _ _ _ _ q=>neg_int q
end
section
variable {X:Cx}{a b c:Expr}{ta tb tc:TE}{pos:Pos}
theorem fin_bl {pins:List (Addr×Obj)}{σ:St}{H:Hp}{s:Shared}{Q:VK}{k k':Bool}(I:Inv X pins σ H s)(q:Q (.bl k) H)(e:k=k'):EP X pins σ Q (.bool k') s:=by
 subst e;exact⟨.bl k,H,I,rfl,q⟩
theorem op_lt:OpR X (compareOp .Lt) (rI0 fun i j=>.bl (decide (i < j))):=opB0 fun _ _ _ _ _ _ _ q=>lt_int q
theorem op_le:OpR X (compareOp .LtE) (rI0 fun i j=>.bl (decide (i<=j))):=opB0 fun _ _ _ _ _ _ _ q=>le_int q
theorem op_gt:OpR X (compareOp .Gt) (rI0 fun i j=>.bl (decide (j < i))):=opB0 fun _ _ _ _ _ _ _ q=>gt_int q
theorem op_ge:OpR X (compareOp .GtE) (rI0 fun i j=>.bl (decide (j<=i))):=opB0 fun _ _ _ _ _ _ _ q=>ge_int q
theorem op_lt_str:OpR X (compareOp .Lt) (fun x y H Q=>∃ i j,x=.str i/\y=.str j/\Q (.bl (decide (i.cps.toList < j.cps.toList))) H):=by
 intro pins s σ H x y v u Q I rx ry h;obtain⟨i,j,rfl,rfl,q⟩:=h;obtain⟨t,rfl⟩:=rx;obtain⟨t',rfl⟩:=ry;exact lt_str (fin_bl I q rfl)
theorem op_in_str:OpR X (compareOp .In) (fun x y H Q=>∃ i j,x=.str i/\y=.str j/\Q (.bl (!(Builtin.Str.occurrences j i 0 j.length 1).isEmpty)) H):=by
 intro pins s σ H x y v u Q I rx ry h;obtain⟨i,j,rfl,rfl,q⟩:=h;obtain⟨t,rfl⟩:=rx;obtain⟨t',rfl⟩:=ry;exact in_str (fin_bl I q rfl)
theorem op_isN:OpR X (compareOp .Is) (fun x y H Q=>y=.non/\Q (.bl (decide (x=.non))) H):=by
 intro pins s σ H x y v u Q I rx ry h;obtain⟨rfl,q⟩:=h;cases ry;refine is_none_gen (fin_bl I q ?_);cases x <;> first
  | (cases rx;rfl)
  | (obtain⟨t,rfl⟩:=rx;rfl)
theorem op_notN:OpR X (compareOp .IsNot) (fun x y H Q=>y=.non/\Q (.bl (!decide (x=.non))) H):=by
 intro pins s σ H x y v u Q I rx ry h;obtain⟨rfl,q⟩:=h;cases ry;refine isnot_none_gen (fin_bl I q ?_);cases x <;> first
  | (cases rx;rfl)
  | (obtain⟨t,rfl⟩:=rx;rfl)
theorem op_notin_str:OpR X (compareOp .NotIn) (fun x y H Q=>∃ i j,x=.str i/\y=.str j/\Q (.bl (!(!(Builtin.Str.occurrences j i 0 j.length 1).isEmpty))) H):=by
 intro pins s σ H x y v u Q I rx ry h;obtain⟨i,j,rfl,rfl,q⟩:=h;obtain⟨t,rfl⟩:=rx;obtain⟨t',rfl⟩:=ry;exact notIn_str (fin_bl I q rfl)
theorem pe_cmpR {op:CmpOp}{r:R2}(ho:OpR X (compareOp op) r)(ha:PE X a ta)(hb:PE X b tb)(hm:behindInMarks op b=false):PE X (.Compare a [op] [b] pos) (tOp r ta tb):=by
 intro pins s σ H Q I h;exact wpAny_Compare1 (binT ha hb I h fun v u s2 x y H2 I2 rx ry q=>ho pins s2 σ H2 x y v u Q I2 rx ry q) hm
def tTest (t:TE):TT:=fun σ H Q=>t σ H fun x H'=>∃ k,x=.bl k/\Q k H'
theorem pt_cmpR {op:CmpOp}{r:R2}(ho:OpR X (compareOp op) r)(ha:PE X a ta)(hb:PE X b tb)(hm:behindInMarks op b=false):PT X (.Compare a [op] [b] pos) (tTest (tOp r ta tb)):=by
 intro pins s σ H Q I h;refine wpAny_isTrue_Compare1 (thn (ha pins s σ H _ I h) fun v s1 ⟨x,H1,I1,r1,q1⟩=>thn (hb pins s1 σ H1 _ I1 q1) fun u s2 ⟨y,H2,I2,r2,q2⟩ =>
  thn (ho pins s2 σ H2 x y v u _ I2 r1 r2 q2) fun c s3 ⟨z,H3,I3,r3,k,e,q3⟩=>?_) hm
 subst e;cases r3;exact wpAny_truthy_bool ⟨H3,I3,q3⟩
def tChain (r r':R2)(ta tb tc:TE):TE:=fun σ H Q=>ta σ H fun x H1=>tb σ H1 fun y H2=>r x y H2 fun z H3=>∃ k,z=.bl k /\
 (if k=true then tc σ H3 fun w' H4=>r' y w' H4 Q else Q (.bl false) H3)
theorem pe_chain {op op':CmpOp}{r r':R2}(ho:OpR X (compareOp op) r)(ho':OpR X (compareOp op') r')(ha:PE X a ta)(hb:PE X b tb)(hc:PE X c tc)
  (hm:lastMarks [op,op'] [b,c]=false:=by with_unfolding_all rfl):PE X (.Compare a [op,op'] [b,c] pos) (tChain r r' ta tb tc):=by
 intro pins s σ H Q I h;refine Compare_chain (thn (ha pins s σ H _ I h) fun v s1 ⟨x,H1,I1,r1,q1⟩=>chain_link (thn (hb pins s1 σ H1 _ I1 q1) fun u s2 ⟨y,H2,I2,r2,q2⟩ =>
  thn (ho pins s2 σ H2 x y v u _ I2 r1 r2 q2) fun d s3 ⟨z,H3,I3,r3,k,e,q3⟩=>?_)) hm
 subst e;cases r3;refine wpAny_truthy_bool ?_;cases k with
 | false=>exact ite_ff ⟨.bl false,H3,I3,rfl,q3⟩
 | true=>exact ite_tt (chain_last (thn (hc pins s3 σ H3 _ I3 q3) fun w' s4 ⟨z',H4,I4,r4,q4⟩=>ho' pins s4 σ H4 y z' u w' Q I4 r2 r4 q4))
theorem pt_chain {op op':CmpOp}{r r':R2}(ho:OpR X (compareOp op) r)(ho':OpR X (compareOp op') r')(ha:PE X a ta)(hb:PE X b tb)(hc:PE X c tc)
  (hm:lastMarks [op,op'] [b,c]=false:=by with_unfolding_all rfl):PT X (.Compare a [op,op'] [b,c] pos) (tTest (tChain r r' ta tb tc)):=by
 intro pins s σ H Q I h;refine isTrue_chain (thn (ha pins s σ H _ I h) fun v s1 ⟨x,H1,I1,r1,q1⟩=>test_link (thn (hb pins s1 σ H1 _ I1 q1) fun u s2 ⟨y,H2,I2,r2,q2⟩ =>
  thn (ho pins s2 σ H2 x y v u _ I2 r1 r2 q2) fun d s3 ⟨z,H3,I3,r3,k,e,q3⟩=>?_)) hm
 subst e;cases r3;refine wpAny_truthy_bool ?_;cases k with
 | false =>
  obtain⟨k',e',q'⟩:=q3;cases e';exact ite_ff ⟨H3,I3,q'⟩
 | true =>
  refine ite_tt (test_last (thn (hc pins s3 σ H3 _ I3 q3) fun w' s4 ⟨z',H4,I4,r4,q4⟩=>thn (ho' pins s4 σ H4 y z' u w' _ I4 r2 r4 q4) fun d' s5 ⟨z2,H5,I5,r5,k2,e2,q5⟩=>?_));subst e2;cases r5;exact wpAny_truthy_bool ⟨H5,I5,q5⟩
def TruV (K:PySem.W.Frag)(x:V)(H:Hp)(k:Bool):Prop :=
 match x with
 | .non=>k=false
 | .bl b=>k=b
 | .int i=>k=(i != 0)
 | .str y=>y.length<=zh/\k=((y.length:Int) != 0)
 | .byt y=>y.size<=zh/\k=((y.size:Int) != 0)
 | .ref p=>(∃ xs,SqL K H p xs/\k = !xs.isEmpty)\/(∃ xs,SqT K H p xs/\k = !xs.isEmpty)\/∃ kvs,H p=some (.dK kvs)/\k = !kvs.isEmpty
 | _=>False
theorem isEmpty_kv {κ:Type}{kvs:List (κ×V)}{vs:List (κ×Value)}(r:KV kvs vs):(!vs.isEmpty) = !kvs.isEmpty:=by
 cases r <;> rfl
theorem isEmpty_of {xs:List V}{its:List Value}(r:Vals xs its):(!its.toArray.isEmpty) = !xs.isEmpty:=by
 cases r <;> simp
theorem line63:(zh:Nat) < 2 ^ 63:=by rw[sizeLine_eq];decide
theorem tru_ok:TruR X (fun x H Q=>∃ k,TruV X.K x H k/\Q k H):=by
 intro pins s σ H x v Q I rx h;obtain⟨k,e,q⟩:=h;have hl:=line63;have hs:zh=16777216:=sizeLine_eq;cases x with
 | non =>
  cases rx;have e':k=false:=e;subst e';exact truthy_none ⟨H,I,q⟩
 | bl b =>
  cases rx;have e':k=b:=e;subst e';exact wpAny_truthy_bool ⟨H,I,q⟩
 | int i =>
  obtain⟨t,rfl⟩:=rx;have e':k=(i != 0):=e;subst e';exact PySem.P.truthy_int ⟨H,I,q⟩
 | str y =>
  obtain⟨t,rfl⟩:=rx;obtain⟨hy,e'⟩:y.length<=zh/\k=((y.length:Int) != 0):=e;subst e';exact PySem.P.truthy_str (by first | lia | omega) ⟨H,I.tok _,q⟩
 | byt y =>
  obtain⟨t,rfl⟩:=rx;obtain⟨hy,e'⟩:y.size<=zh/\k=((y.size:Int) != 0):=e;subst e';exact PySem.W.truthy_bytes (by first | lia | omega) ⟨H,I.tok _,q⟩
 | ref p =>
  cases rx;have e':(∃ xs,SqL X.K H p xs/\k = !xs.isEmpty)\/(∃ xs,SqT X.K H p xs/\k = !xs.isEmpty)\/∃ kvs,H p=some (.dK kvs)/\k = !kvs.isEmpty:=e;rcases e' with ⟨xs,hx,e'⟩|⟨xs,hx,e'⟩|⟨kvs,hx,e'⟩
  ·subst e'
   obtain⟨its,r,pl,hz⟩:=I.list hx;have hlen:=r.length;exact wpAny_truthy_list pl.isList (by simp only[zf];omega) ⟨H,I.tok _,by rw[isEmpty_of r];exact q⟩
  ·subst e'
   obtain⟨its,r,pl,hz⟩:=I.tuple hx;have hlen:=r.length;exact truthy_tuple pl (by simp only[zf];omega) ⟨H,I.tok _,by rw[isEmpty_of r];exact q⟩
  ·subst e'
   obtain⟨hz,hS,vs,r,m⟩:kvs.length<=zh/\(p==sysModules)=false/\∃ vs,KV kvs vs/\s.heap.DictOf (mixKind X.prog X.w) p vs:=I.hok p _ hx;have hlen:kvs.length=vs.length:=Paired.length r;exact wpAny_truthy_dict hS m (by first | lia | omega) ⟨H,I.tok _,by rw[isEmpty_kv r];exact q⟩
 | _=>exact(show False from e).elim
theorem op_add_str:OpR X (binaryOp .Add) (fun x y H Q=>∃ i j,x=.str i/\y=.str j/\i.length + j.length<=zh/\Q (.str (i++j)) H):=by
 intro pins s σ H x y v u Q I rx ry h;obtain⟨i,j,rfl,rfl,hz,q⟩:=h;obtain⟨t,rfl⟩:=rx;obtain⟨t',rfl⟩:=ry;exact add_str (fun t' tk=>⟨.str (i++j),H,I.tok _,⟨_,rfl⟩,q⟩) hz
theorem vals1 {x:V}{us:List Value}(r:Vals [x] us):∃ u,us=[u]/\RelV x u:=by
 cases r with
 | cons r1 r2=>cases r2;exact⟨_,rfl,r1⟩
theorem vals2 {x y:V}{us:List Value}(r:Vals [x,y] us):∃ u w',us=[u,w']/\RelV x u/\RelV y w':=by
 cases r with
 | cons r1 r2 =>
  cases r2 with
  | cons r3 r4=>cases r4;exact⟨_,_,rfl,r1,r3⟩
theorem call_max2 (hc:X.calm=true):CallR X (.builtin "max") (fun xs H Q=>∃ i j,xs=[.int i,.int j]/\Q (.int (if j > i then j else i)) H):=by
 intro pins s σ H xs us Q I r h;obtain⟨i,j,rfl,q⟩:=h;obtain⟨u,w',rfl,⟨t,rfl⟩,⟨t',rfl⟩⟩:=vals2 r;refine max_two_ints (I.ok.hd hc) fun h' tk k=>⟨_,H,I.kept k,?_,q⟩;by_cases hj:j > i
 ·rw[if_pos hj,if_pos hj];exact⟨_,rfl⟩
 ·rw[if_neg hj,if_neg hj];exact⟨_,rfl⟩
end
end L2
namespace L2
open PySem PySem.Spec PyProof.Rows
section
variable {prog:Program}{w:World}{A:Around}{E:Value->Shared->Prop}{s:Shared}{K:PySem.W.Frag}{x dx C f:Addr}{mA:Str->Option Value}{name:Str}{v:Value}
end
theorem RelO.some_of {v:V}{o:Option Value}(r:RelO (some v) o):∃ u,o=some u/\RelV v u:=by
 cases o with
 | none=>exact(show False from r).elim
 | some u=>exact⟨u,rfl,r⟩
section
variable {P:Program}{w:World}{H H':Hp}{h h':Heap}{a C dx:Addr}{fs fs':List (Str×V)}
end
section
variable {X:Cx}{pins:List (Addr×Obj)}{σ:St}{H:Hp}{s:Shared}{a C dx:Addr}{fs:List (Str×V)}{f:Str}{v:V}{A:Around}{E:Value->Shared->Prop}
end
section
variable {X:Cx}{o e value:Expr}{f:Str}{pos pos' tpos:Pos}{ta tv:TE}
end
section
variable {X:Cx}{pins:List (Addr×Obj)}{σ:St}{H:Hp}{s:Shared}{A:Around}{E:Value->Shared->Prop}{Q:Value->Shared->Prop}{c:Value}{b:Bool}
end
end L2
namespace L2
open PySem PySem.Spec PyProof.Rows
structure Room (k:Nat) (A:Around):Prop where
 hd:A.handled=none
 dp:A.depth + 3 * k + 5 < recursionLimit
 un:A.units + 16 * k + 200 < cLine
 gd:A.guards=some []
theorem Room.deeper {k:Nat}{A:Around}(r:Room (k + 1) A)(env:Env):Room k (A.deeper env) :=
 ⟨r.hd,by have:=r.dp;show A.depth + 1 + 3 * k + 5 < _;omega,by have:=r.un;show A.units + 3 + 16 * k + 200 < _;omega,r.gd⟩
theorem Room.depth {k:Nat}{A:Around}(r:Room k A):A.depth < recursionLimit:=by have:=r.dp;omega
def tNil:TA:=fun _ H Q=>Q [] H
def tCons (ta:TE)(tr:TA):TA:=fun σ H Q=>ta σ H fun x H1=>tr σ H1 fun xs H2=>Q (x::xs) H2
section
variable {X:Cx}{e:Expr}{es:List Expr}{te:TE}{t:TA}{pos:Pos}
theorem pa_nil:PA X [] tNil:=fun _ _ _ _ H Q I h=>Calls.spliced_nil ⟨[],H,I,.nil,h⟩
theorem pa_cons (ha:PE X e te)(hr:PA X es t)(hs:starEach (e::es) X.env=(false,eval e X.env)::starEach es X.env:=by rfl):PA X (e::es) (tCons te t):=by
 intro pos pins s σ H Q I h;rw[hs];show wpAny _ _ (spliced ((false,eval e X.env)::backTo pos (starEach es X.env))) _ _ s;refine Calls.spliced_cons (thn (ha pins s σ H _ I h) fun u s1 ⟨x,H1,I1,r1,q1⟩=>?_);exact thn (hr pos pins s1 σ H1 _ I1 q1) fun us s2 ⟨xs,H2,I2,r2,q2⟩=>⟨x::xs,H2,I2,.cons r1 r2,q2⟩
def tTup (t:TA):TE:=fun σ H Q=>t σ H fun xs H1=>xs.length<=zh/\∀ p,H1 p=none->Q (.ref p) (upd H1 p (.tup xs))
def tLst (t:TA):TE:=fun σ H Q=>t σ H fun xs H1=>xs.length<=zh/\∀ p,H1 p=none->Q (.ref p) (upd H1 p (.lst xs))
theorem pe_tup {x1}(h:PA X es t):PE X (.Tuple es x1 pos) (tTup t):=by
 intro pins s σ H Q I hq;refine wpAny_Tuple_spliced (thn (h pos pins s σ H _ I hq) fun us s1 ⟨xs,H1,I1,r,z,q⟩=>⟨by rw[<- r.length];exact z,?_⟩);have hf:H1 s1.heap.objs.size=none:=I1.hok.fresh (zo _);refine⟨.ref s1.heap.objs.size,upd H1 s1.heap.objs.size (.tup xs),I1.laid (t':=s1.toks) (fun b u e=>zb _ e) (zo _) ?_,rfl,q _ hf⟩;exact⟨z,us,r,TupN.new _ _⟩
theorem pe_lst (h:PA X es t):PE X (.List es pos) (tLst t):=by
 intro pins s σ H Q I hq;refine wpAny_List_spliced (thn (h pos pins s σ H _ I hq) fun us s1 ⟨xs,H1,I1,r,z,q⟩=>⟨by rw[<- r.length];exact z,?_⟩);have hf:H1 s1.heap.objs.size=none:=I1.hok.fresh (zo _);refine⟨.ref s1.heap.objs.size,upd H1 s1.heap.objs.size (.lst xs),I1.laid (t':=s1.toks) (fun b u e=>zb _ e) (zo _) ?_,rfl,q _ hf⟩;exact⟨z,us,0,r,zR _ rfl⟩
end
abbrev Sp:=List V->Hp->VK->XK->Prop
abbrev CXT:=List Env->Hp->Shared->XK->Value->Shared->Prop
structure Env0 (P:Program) (w:World) (K:PySem.W.Frag) (mg:Str->Option Value) (base:Heap) (A:Around) (outer:List Env) (s:Shared) (H:Hp):Prop where
 frames:A.frames=some outer
 mod:Mod K mg base
 bs:∀ b o,base.get? b=some o->s.heap.get? b=some o/\H b=none
 bsz:base.objs.size<=s.heap.objs.size
 funs:s.heap.FunFrames base outer
 frf:∀ b∈frs outer,H b=none
 hok:HOk P w H s.heap
 bare:AllBare s.gens
def CE (outer:List Env)(P:Program)(w:World)(H:Hp)(s:Shared)(Q:VK)(u:Value)(s':Shared):Prop :=
 ∃ v H',s'.os=s.os/\AllBare s'.gens/\Un (frs outer) [] H H' s.heap s'.heap/\HOk P w H' s'.heap/\RelV v u/\Q v H'
def CR (CX:CXT)(outer:List Env)(P:Program)(w:World)(H:Hp)(s:Shared)(Q:VK)(E:XK)(r:Result)(s':Shared):Prop :=
 match r with
 | .ok (.ret u)=>CE outer P w H s Q u s'
 | .ok _=>False
 | .error e=>CX outer H s E e s'
structure FnOk (P:Program) (w:World) (K:PySem.W.Frag) (mg:Str->Option Value) (base:Heap) (CX:CXT) (k:Nat) (f:Addr) (fd:FuncData) (ps:List Str) (sp:Sp):Prop where
 len:∀ vs H Q E,sp vs H Q E->vs.length=ps.length
 run:∀ (A:Around) (outer:List Env) (s:Shared) (H:Hp) (args:Args) (us:List Value) (vs:List V) (Q:VK) (E:XK),Room k A->Env0 P w K mg base A outer s H->BindsTo s fd args (ps.zip us)->Vals vs us->sp vs H Q E ->
  codeAny (model P w) A (.call (.ref f) args) (CR CX outer P w H s Q E) s
section
variable {X:Cx}{pins:List (Addr×Obj)}{σ:St}{H:Hp}{s s':Shared}
theorem Inv.env0 (I:Inv X pins σ H s):Env0 X.prog X.w X.K X.mg X.base X.A X.stack s H :=
 ⟨I.ok.frames,I.ok.mod,I.bs,zH I.ok.bsz I.sz,I.stack,I.stkFree,I.hok,I.bare⟩
theorem Inv.after {Q:VK}{u:Value}(I:Inv X pins σ H s)(h:CE X.stack X.prog X.w H s Q u s'):EP X pins σ Q u s':=by
 obtain⟨v,H',os,bare,un,hok,r,q⟩:=h;obtain⟨hh,g,d,t,os'⟩:=s';obtain rfl:os'=s.os:=os;exact⟨v,H',I.call (h':=hh) (g':=g) (d':=d) (t':=t) (ch:=[]) un hok bare (fun b z=>absurd z (by simp)),r,q⟩
end
def tCall (sp:Sp)(dvs:List V)(E:XK)(t:TA):TE:=fun σ H Q=>t σ H fun vs H1=>sp (vs++dvs) H1 Q E
def Binds (K:PySem.W.Frag)(fd:FuncData)(ps:List Str)(ds:List Value):Prop :=
 ∀ (s:Shared) (us:List Value),K.In s.heap->(us++ds).length=ps.length->BindsTo s fd ⟨us,[]⟩ (ps.zip (us++ds))
theorem Binds.all {K:PySem.W.Frag}{fd:FuncData}{ps:List Str}(h:∀ us:List Value,us.length=ps.length->bindArgs fd ⟨us,[]⟩=pure (ps.zip us)):Binds K fd ps []:=fun s us _ hl=>by
 rw[zT]at hl ⊢;exact .of_eq (h us hl)
def Passes (CX:CXT)(X:Cx)(E:XK):Prop:=∀ (pins:List (Addr×Obj)) (σ:St) (H:Hp) (s:Shared) (e:Value) (s':Shared),Inv X pins σ H s->CX X.stack H s E e s'->X.xe e s'
section
variable {X:Cx}{CX:CXT}{k:Nat}{f C:Addr}{fd:FuncData}{ps:List Str}{sp:Sp}{dvs:List V}{ds:List Value}{E:XK}{x m:Str}{p pos apos:Pos}{e o:Expr}{es:List Expr}{ta:TE}{t:TA}
theorem run_fn {pins:List (Addr×Obj)}{σ:St}{H:Hp}{s:Shared}{Q:VK}{us:List Value}{vs:List V}(F:FnOk X.prog X.w X.K X.mg X.base CX k f fd ps sp)(hr:Room k X.A)(hb:Binds X.K fd ps ds)(hd:Vals dvs ds)(hx:Passes CX X E)
  (I:Inv X pins σ H s) (r:Vals vs us) (h:sp (vs++dvs) H Q E):wpAny (model X.prog X.w) X.A (call (.ref f) us) (EP X pins σ Q) X.xe s:=by
 have r2:Vals (vs++dvs) (us++ds):=r.append hd;have hl:(us++ds).length=ps.length:=by rw[<- r2.length];exact F.len _ _ _ _ h
 refine wpAny_call (codeAny_mono (F.run X.A X.stack s H ⟨us,[]⟩ (us++ds) (vs++dvs) Q E hr I.env0 (hb s us I.kIn hl) r2 h) fun r s' hq=>?_);cases r with
 | error e=>exact hx pins σ H s e s' I hq
 | ok fl =>
  cases fl with
  | ret u=>exact I.after hq
  | next=>exact False.elim hq
  | brk=>exact False.elim hq
  | cont=>exact False.elim hq
theorem pe_call (F:FnOk X.prog X.w X.K X.mg X.base CX k f fd ps sp)(hr:Room k X.A)(hg:Gl X x)(hm:X.mg x=some (.ref f))(hk:PySem.W.keepIn X.K (.ref f)=true)(hb:Binds X.K fd ps ds)(hd:Vals dvs ds)(hx:Passes CX X E)
  (ha:PA X (e::es) t) (hdb:(x==("__debug__" : Str))=false:=by decide) (he:starEach (e::es) X.env=(false,eval e X.env)::starEach es X.env:=by rfl) (hpl:(backTo pos (starEach es X.env)).any (·.1)=false:=by rfl) :
  PE X (.Call (.Name x p) (e::es) [] pos) (tCall sp dvs E t):=by
 intro pins s σ H Q I h;refine wpAny_Call_Name_kw (ld_glob I hg hm ?_ hdb);refine PySem.W.callWith_K (h₀:=X.base) I.ok.mod.kin hk (thn (ha pos pins s σ H _ I h) fun us s1 ⟨vs,H1,I1,r,q⟩=>⟨I1.kIn,?_⟩) he hpl;exact run_fn F hr hb hd hx I1 r q
end
section
variable {X:Cx}{CX:CXT}{k:Nat}{f C:Addr}{fd:FuncData}{ps ks:List Str}{sp:Sp}{E:XK}{x m:Str}{p pos apos kpos:Pos}{e o:Expr}{es:List Expr}{kws:List Keyword}{te ta:TE}{t tk:TA}{nm:Option Str}
variable {g:List Value->List Value->List Value}{gV:List V->List V->List V}
end
structure FnScope (N P:List Str) (sc:Scope):Prop where
 kind:sc.kind=.function
 co:sc.isCoroutine=false
 gen:sc.isGenerator=false
 nd:N.Nodup
 pre:N.take P.length=P
 par:∀ x∈P,sc.names.lookup x=some .local\/sc.names.lookup x=some .cell
 nofree:∀ y∈sc.names,y.2≠.free
theorem bindL_out {kindOf:Str->Option NameKind}{x:Str}:∀ {binds:List (Str×Value)} {m:Str->Option Value},(∀ v,(x,v) ∉ binds)->bindL kindOf binds m x=m x
 | [],_,_=>rfl
 | (n,v)::r,m,h=>by
  unfold bindL;rw[bindL_out fun w hw=>h w (zK _ hw)];split
  ·have:x≠n:=by rintro rfl;exact h v zD
   simp[this]
  ·rfl
theorem bindC_out {kindOf:Str->Option NameKind}{x:Str}:∀ {binds:List (Str×Value)} {m:Str->Option Value},(∀ v,(x,v) ∉ binds)->bindC kindOf binds m x=m x
 | [],_,_=>rfl
 | (n,v)::r,m,h=>by
  unfold bindC;rw[bindC_out fun w hw=>h w (zK _ hw)];split
  ·rfl
  ·have:x≠n:=by rintro rfl;exact h v zD
   simp[this]
theorem bindL_get {kindOf:Str->Option NameKind}{x:Str}{v:Value}:∀ {P:List Str} {vs:List Value} {i:Nat} {m:Str->Option Value},P.Nodup->P[i]?=some x->vs[i]?=some v->kindOf x=some .local ->
  bindL kindOf (P.zip vs) m x=some v
 | [],_,_,_,_,h,_,_=>by simp at h
 | _::_,[],_,_,_,_,h,_=>by simp at h
 | p::P,w::vs,0,m,nd,h1,h2,hk=>by
  simp at h1 h2;subst h1;subst h2;show bindL kindOf ((p,w)::P.zip vs) m p=_;unfold bindL;rw[bindL_out fun v hv=>(yb.mp nd).1 (wj hv).1,if_pos hk];simp
 | p::P,w::vs,i + 1,m,nd,h1,h2,hk=>by
  show bindL kindOf ((p,w)::P.zip vs) m x=_;unfold bindL;exact bindL_get (i:=i) (yb.mp nd).2 (by simpa using h1) (by simpa using h2) hk
theorem bindC_get {kindOf:Str->Option NameKind}{x:Str}{v:Value}:∀ {P:List Str} {vs:List Value} {i:Nat} {m:Str->Option Value},P.Nodup->P[i]?=some x->vs[i]?=some v->kindOf x≠some .local ->
  bindC kindOf (P.zip vs) m x=some v
 | [],_,_,_,_,h,_,_=>by simp at h
 | _::_,[],_,_,_,_,h,_=>by simp at h
 | p::P,w::vs,0,m,nd,h1,h2,hk=>by
  simp at h1 h2;subst h1;subst h2;show bindC kindOf ((p,w)::P.zip vs) m p=_;unfold bindC;rw[bindC_out fun v hv=>(yb.mp nd).1 (wj hv).1,if_neg hk];simp
 | p::P,w::vs,i + 1,m,nd,h1,h2,hk=>by
  show bindC kindOf ((p,w)::P.zip vs) m x=_;unfold bindC;exact bindC_get (i:=i) (yb.mp nd).2 (by simpa using h1) (by simpa using h2) hk
def start (N:List Str)(vs:List V):St:=vs.map some++yF (N.length - vs.length) none
def cxOf (CX:CXT)(P:Program)(w:World)(K:PySem.W.Frag)(mg:Str->Option Value)(base:Heap)(N:List Str)(qual:Str)(scope:Scope)(f:Addr)(cd:Value)(A:Around)(outer:List Env)(s:Shared)(H:Hp)(E:XK):Cx where
 prog:=P
 w:=w
 K:=K
 mg:=mg
 base:=base
 A:=A.deeper (envOfC qual scope s.heap.objs.size f cd)
 N:=N
 s₀:=s
 H₀:=H
 env:=envOfC qual scope s.heap.objs.size f cd
 outer:=outer
 stack:=envOfC qual scope s.heap.objs.size f cd::outer
 ex:=[]
 calm:=true
 fn:=fun _=>true
 pn:=[]
 xe:=fun e s'=>wpAny (model P w) (A.deeper (envOfC qual scope s.heap.objs.size f cd)) (leaving (envOfC qual scope s.heap.objs.size f cd) e) (fun _ s''=>CX outer H s E e s'') (fun e' s''=>CX outer H s E e' s'') s'
theorem cell_has {sc:Scope}{n:Nat}{x:Str}(h:sc.names.lookup x=some .cell):∃ c,(cellsFrom n sc.names []).lookup x=some c:=by
 have q:=PySem.W.cellsFrom_some sc.names n [] (.inl h);exact Option.isSome_iff_exists.mp q
theorem inv_start {CX:CXT}{P:Program}{w:World}{K:PySem.W.Frag}{mg:Str->Option Value}{base:Heap}{N ps:List Str}{qual:Str}{scope:Scope}{f:Addr}{cd:Value}{A:Around}{outer:List Env}{s s1:Shared}{H:Hp}{E:XK}{us:List Value}{vs:List V}
  (S:FnScope N ps scope) (hd:A.handled=none) (e0:Env0 P w K mg base A outer s H) (hl:vs.length=ps.length) (r:Vals vs us)
  (x:InCallC s s.heap.objs.size (bindL (envOfC qual scope s.heap.objs.size f cd).kindOf (ps.zip us) fun _=>none) (cellsFrom (s.heap.objs.size + 1) scope.names []) (bindC (envOfC qual scope s.heap.objs.size f cd).kindOf (ps.zip us) fun _=>none) s1) :
  Inv (cxOf CX P w K mg base N qual scope f cd A outer s H E) [] (start N vs) H s1:=by
 have hpl:ps.length<=N.length:=by have:=congrArg List.length S.pre;rw[zB]at this;omega
 obtain⟨h1,tk,rfl,hk⟩:=x.done;have noA:∀ b:Addr,b ∉ (cxOf CX P w K mg base N qual scope f cd A outer s H E).ex:=fun b z=>absurd (show b∈([]:List Addr) from z) (by simp);refine⟨⟨e0.mod,S.kind,rfl,rfl,zo _,fun y z c h1 h2=>?_,fun y hy=>?_,fun y c _ h=>?_,fun _=>hd,Around.frames_deeper e0.frames,.inr ⟨rfl,rfl⟩,fun b z=>absurd z (noA b),e0.bs,e0.bsz,fun b _ _=>noA b,fun b z=>absurd z (noA b),e0.funs,e0.frf⟩,
  rfl,e0.bare,Un.kept hk,⟨_,x.toInCall.ns,fun i y v h1 h2 h3=>?_⟩,fun y c h=>⟨_,x.cell y c h⟩,e0.hok.fresh (zo _),fun y c h=>?_,fun p hp=>absurd (show p∈([]:List (Addr×Obj)) from hp) (by simp),e0.hok.kept hk,?_⟩
 ·exact name_of_addr x.apart (PySem.mem_of_lookup h1) (PySem.mem_of_lookup h2)
 ·have hy:scope.names.lookup y=some .cell\/scope.names.lookup y=some .free:=hy
  rcases hy with hy | hy
  ·exact cell_has hy
  ·exact absurd rfl (S.nofree _ (PySem.mem_of_lookup hy))
 ·exact wo (x.above y c (PySem.mem_of_lookup h))
 ·have hi:i < vs.length:=by
   unfold start at h2;by_cases hi:i < vs.length
   ·exact hi
   ·rw[zL (by simpa using hi)]at h2
    rw[xf]at h2;split at h2 <;> cases h2
  have ha:vs[i]?=some v:=by
   unfold start at h2;rw[zA (by simpa using hi),zu]at h2;cases e:vs[i]? with
   | none=>rw[e]at h2;cases h2
   | some a=>rw[e]at h2;cases h2;rfl
  obtain⟨u,hu,rv⟩:=r.get ha;have hp:ps[i]?=some y:=by
   rw[<- S.pre,List.getElem?_take_of_lt (by first | lia | omega)];exact h1
  have ndP:ps.Nodup:=by rw[<- S.pre];exact S.nd.sublist (xX _ _)
  refine⟨u,rv,?_⟩;rcases S.par y (zn hp) with k | k
  ·exact .inl ⟨k,bindL_get ndP hp hu k⟩
  ·obtain⟨c,e⟩:=cell_has (n:=s.heap.objs.size + 1) k
   refine .inr ⟨.inl k,c,e,?_⟩;have q:=x.cell y c e;rw[bindC_get ndP hp hu (by show scope.names.lookup y≠_;rw[k];decide)]at q;exact q
 ·exact e0.hok.fresh (wo (x.above y c (PySem.mem_of_lookup h)))
 ·unfold start
  show _=N.length;rw[zp,zz,yo];first | lia | omega
theorem fn_of {CX:CXT}{P:Program}{w:World}{K:PySem.W.Frag}{mg:Str->Option Value}{base:Heap}{k:Nat}{f:Addr}{name qual:Str}{params:Arguments}{body:List Stmt}{scope:Scope}{dV kV doc pm cdv ct oc:Value}{an od:Option Addr}
  {osl:Array (Option Value)} {N ps:List Str} {sp:Sp} (lk:K.lookup f=some ⟨oc,od,.func (PySem.W.fnOf name qual params body scope dV kV doc pm an cdv ct),osl⟩) (hcd:PySem.W.codeIn K cdv qual=true) (S:FnScope N ps scope)
  (len:∀ vs H Q E,sp vs H Q E->vs.length=ps.length)
  (hbody:∀ (A:Around) (outer:List Env) (s:Shared) (H:Hp) (vs:List V) (Q:VK) (E:XK),Room k (A.deeper (envOfC qual scope s.heap.objs.size f cdv))->sp vs H Q E ->
   ∃ t,PSs (cxOf CX P w K mg base N qual scope f cdv A outer s H E) body t/\t { nx:=fun _ H'=>Q .non H',rt:=Q } (start N vs) H) :
  FnOk P w K mg base CX (k + 1) f (PySem.W.fnOf name qual params body scope dV kV doc pm an cdv ct) ps sp:=by
 refine⟨len,fun A outer s H args us vs Q E hr e0 hb r hsp=>?_⟩;have hl:=len _ _ _ _ hsp;have KX:K.In s.heap:=e0.mod.kin.keeps fun b o e=>(e0.bs b o e).1;have lim:s.heap.NoLimit:=e0.mod.nolimit.keeps fun b o e=>(e0.bs b o e).1;have hkind:∀ y∈ps.zip us,scope.names.lookup y.1=some .local\/(scope.names.lookup y.1=some .cell/\((cellsFrom (s.heap.objs.size + 1) scope.names []).lookup y.1).isSome=true):=fun ⟨n,v⟩ hy=>by
  rcases S.par n (wj hy).1 with q | q
  ·exact .inl q
  ·exact .inr ⟨q,PySem.W.cellsFrom_some _ _ _ (.inl q)⟩
 refine codeAny_call_function hr.depth (KX _ _ lk) rfl S.co S.gen rfl (PySem.W.codeRec_of KX hcd) (hb _ _ _ _ ?_);refine wpAny_newFunctionEnv_cells S.kind hkind fun env he s1 x=>?_;subst he;refine⟨lim.keeps x.toInCall.keep,codeAny_func ?_⟩;obtain⟨t,ht,hq⟩:=hbody A outer s H vs Q E (hr.deeper _) hsp;have I:Inv (cxOf CX P w K mg base N qual scope f cdv A outer s H E) [] (start N vs) H s1:=inv_start S hr.hd e0 hl r x;refine wpAny_mono (ht [] s1 (start N vs) H _ I hq) (fun fl s' hs=>?_) fun e s' hs=>hs;have fin:∀ {σ':St} {H':Hp} {v:V} {u:Value},Inv (cxOf CX P w K mg base N qual scope f cdv A outer s H E) [] σ' H' s'->RelV v u->Q v H'->CE outer P w H s Q u s' :=
  fun {σ' H' v u} J rv q=>⟨v,H',J.os,J.bare,J.base,J.hok,rv,q⟩
 cases fl with
 | ret u =>
  obtain⟨v,σ',H',J,rv,q⟩:=hs;exact fin J rv q
 | next =>
  obtain⟨σ',H',J,q⟩:=hs;exact fin (v:=V.non) (u:=Value.none) J rfl q
 | brk =>
  obtain⟨_,_,_,q⟩:=hs;exact False.elim q
 | cont =>
  obtain⟨_,_,_,q⟩:=hs;exact False.elim q
end L2
namespace L2
open PySem PySem.Spec PyProof.Rows
section
variable {X:Cx}{x:Str}{p pos:Pos}{e:Expr}{es:List Expr}{t:TA}{id T:String}{r:List V->Hp->VK->Prop}
def tCB (r:List V->Hp->VK->Prop)(t:TA):TE:=fun σ H Q=>t σ H fun vs H1=>r vs H1 Q
theorem pe_callB (hc:CallR X (.builtin id) r)(hg:Gl X x)(hm:X.mg x=none)(hv:bootBuiltins x=some (.builtin id))(ha:PA X (e::es) t)(hn:x≠"__name__":=by decide)(hdb:(x==("__debug__" : Str))=false:=by decide)
  (he:starEach (e::es) X.env=(false,eval e X.env)::starEach es X.env:=by rfl) (hpl:(backTo pos (starEach es X.env)).any (·.1)=false:=by rfl):PE X (.Call (.Name x p) (e::es) [] pos) (tCB r t):=by
 intro pins s σ H Q I h;refine wpAny_Call_Name_kw (ld_blt I hg hm hv ?_ hn hdb);exact PyProof.Rows.callWith_builtin1 (thn (ha pos pins s σ H _ I h) fun us s1 ⟨vs,H1,I1,r1,q1⟩=>hc pins s1 σ H1 vs us Q I1 r1 q1) he hpl
theorem pe_callTy (hc:CallR X (.type T) r)(hg:Gl X x)(hm:X.mg x=none)(hv:bootBuiltins x=some (.type T))(ha:PA X (e::es) t)(hn:x≠"__name__":=by decide)(hdb:(x==("__debug__" : Str))=false:=by decide)
  (he:starEach (e::es) X.env=(false,eval e X.env)::starEach es X.env:=by rfl) (hpl:(backTo pos (starEach es X.env)).any (·.1)=false:=by rfl):PE X (.Call (.Name x p) (e::es) [] pos) (tCB r t):=by
 intro pins s σ H Q I h;refine wpAny_Call_Name_kw (ld_blt I hg hm hv ?_ hn hdb);exact PyProof.Rows.callWith_type1 (thn (ha pos pins s σ H _ I h) fun us s1 ⟨vs,H1,I1,r1,q1⟩=>hc pins s1 σ H1 vs us Q I1 r1 q1) he hpl
end
end L2
namespace HT
open PySem PyProof.Rows
section
open PySem.SeqAt
open PySem.AutoSeq1 (wpAny_loadPart')
open PySem.MeetsSeq PySem.MeetsSeq2 PySem.MeetsSeq3
end
section
variable {prog:Program}{w:World}{A:Around}{E:Value->Shared->Prop}{s:Shared}
theorem cat_tup {t b:Addr}{vs ws:List Value}{Q:Value->Shared->Prop}(ht:IsTup s.heap t vs.toArray)(hb:IsTup s.heap b ws.toArray)(hv:vs≠[])
  (h1:ws=[]->Q (.ref t) s) (h2:ws≠[]->Q (.ref s.heap.objs.size) { s with heap:=s.heap.push { cls:=.type "tuple",data:=.seq (vs++ws).toArray } })
  (hsz:vs.length + ws.length<=zh):wpAny (model prog w) A (binaryOp .Add (.ref t) (.ref b)) Q E s:=by
 obtain⟨⟨cls,dd,data,sl⟩,ho,hc,n,hd⟩:=id ht;obtain⟨⟨cls2,dd2,data2,sl2⟩,ho2,hc2,n2,hd2⟩:=id hb;simp only at hc hd hc2 hd2;subst hc hd hc2 hd2;have e:vs.toArray++ws.toArray=(vs++ws).toArray:=by simp
 by_cases hw:ws=[]
 ·exact concat_meets ⟨_,ho,rfl⟩ ⟨_,ho2,rfl⟩ noFill_tuple_add seq_tuple_add PySem.F.slot_tuple_add PySem.F.entry_tuple_add (PySem.F.args_tuple_add_2 _ _)
   (tuple_addW1 t b vs.toArray ws.toArray n n2 dd dd2 sl sl2 (by simpa using hv) (by simp[hw])) ⟨ho,ho2,h1 hw⟩
 ·refine concat_meets ⟨_,ho,rfl⟩ ⟨_,ho2,rfl⟩ noFill_tuple_add seq_tuple_add PySem.F.slot_tuple_add PySem.F.entry_tuple_add (PySem.F.args_tuple_add_2 _ _)
   (tuple_addW2 t b vs.toArray ws.toArray n n2 dd dd2 sl sl2 (by simpa using hv) (by simpa using hw) (by rw[zf,zf];exact hsz)) ⟨ho,ho2,?_⟩
  rw[e];exact h2 hw
def sIx (n d:Nat):Option Int->Nat
 | none=>d
 | some v=>if v < 0 then (v + (n:Int)).toNat else min v.toNat n
theorem sIx_le (n d:Nat)(hd:d<=n)(o:Option Int):sIx n d o<=n:=by
 cases o with
 | none=>exact hd
 | some v =>
  show (if v < 0 then (v + (n:Int)).toNat else min v.toNat n)<=n;by_cases hv:v < 0
  ·rw[if_pos hv];omega
  ·rw[if_neg hv];exact Nat.min_le_right _ _
theorem clip_eq (v:Int)(n d:Nat):(if v < 0 then max (v + (n:Int)) 0 else min v (n:Int))=((sIx n d (some v):Nat):Int):=by
 show (if v < 0 then max (v + (n:Int)) 0 else min v (n:Int))=(((if v < 0 then (v + (n:Int)).toNat else min v.toNat n):Nat):Int);by_cases hv:v < 0
 ·simp only[if_pos hv];omega
 ·simp only[if_neg hv];omega
theorem adjust_gen (lo hi:Option Int)(n:Nat):Builtin.Slice.sliceAdjust lo hi 1 (n:Int)=(((sIx n 0 lo:Nat):Int),((sIx n n hi:Nat):Int)):=by
 have h1:¬ ((1:Int) < 0):=by first | lia | omega
 unfold Builtin.Slice.sliceAdjust;simp only[h1,if_false];refine Prod.ext ?_ ?_
 ·cases lo with
  | none=>rfl
  | some v=>exact clip_eq v n 0
 ·cases hi with
  | none=>rfl
  | some v=>exact clip_eq v n n
theorem places_gen (i j:Nat):Builtin.Slice.slicePlaces (i:Int) (j:Int) 1=j - i:=by
 unfold Builtin.Slice.slicePlaces;have h1:(1:Int) > 0:=by first | lia | omega
 simp only[h1,if_true,Int.ediv_one];split <;> omega
theorem slicePart_ {v:Value}{o:Option Int}{Q:Option Int->Shared->Prop}(p:IsPart v o)(h:Q o s):wpAny (model prog w) A (Builtin.Slice.slicePartIndex v) Q E s:=by
 cases p with
 | none=>exact slicePart_none h
 | int i t=>exact slicePart_int h
theorem sliceApplied_gen {sl:Addr}{vl vu:Value}{lo hi:Option Int}{n:Nat}{Q:Int×Int×Nat->Shared->Prop}(hs:s.heap.IsSliceOf sl vl vu .none)(pl:IsPart vl lo)(pu:IsPart vu hi)
  (h:Q (((sIx n 0 lo:Nat):Int),1,sIx n n hi - sIx n 0 lo) s):wpAny (model prog w) A (Builtin.Slice.sliceApplied (.ref sl) (pure (n:Int))) Q E s:=by
 obtain⟨os,hos,hcs,hds⟩:=id hs;unfold Builtin.Slice.sliceApplied Builtin.Slice.sliceFields;refine zw (zw (wpAny_field hos hds (x:=vl) rfl (zw (wpAny_field hos hds (x:=vu) rfl (zw (wpAny_field hos hds (x:=.none) rfl (zj ?_)))))));refine zw (slicePart_none ?_);show wpAny _ _ (if ((1:Int)==0)=true then _ else _) _ _ s;rw[if_neg (by decide)];refine zw (slicePart_ pl (zw (slicePart_ pu (zw (zj ?_)))));show wpAny _ _ (match Builtin.Slice.sliceAdjust lo hi 1 (n:Int) with | (lo,hi)=>pure (lo,(1:Int),Builtin.Slice.slicePlaces lo hi 1)) _ _ s;rw[adjust_gen lo hi n];show wpAny _ _ (pure (((sIx n 0 lo:Nat):Int),(1:Int),Builtin.Slice.slicePlaces ((sIx n 0 lo:Nat):Int) ((sIx n n hi:Nat):Int) 1)) _ _ s;rw[places_gen];exact zj h
theorem pick_gen (xs:Array Value)(i k:Nat):((List.range k).filterMap fun (m:Nat)=>xs[((i:Int) + (m:Int) * 1).toNat]?).toArray=((xs.toList.drop i).take k).toArray:=by
 have e:(fun (m:Nat)=>xs[((i:Int) + (m:Int) * 1).toNat]?)=fun m=>xs[i + m]?:=by
  funext m
  have:((i:Int) + (m:Int) * 1).toNat=i + m:=by first | lia | omega
  rw[this]
 rw[e]
 have:=pick_run xs i k
 rw[xP]at this;have e2:((fun x=>xs[x]?) ∘ fun x=>i + x)=fun m=>xs[i + m]?:=rfl;rw[e2]at this;rw[this]
theorem getItem_tuple_cut {t sl:Addr}{items:Array Value}{vl vu:Value}{lo hi:Option Int}{Q:Value->Shared->Prop}(ht:IsTup s.heap t items)(hs:s.heap.IsSliceOf sl vl vu .none)(pl:IsPart vl lo)(pu:IsPart vu hi)
  (hw:¬ (sIx items.size 0 lo=0/\sIx items.size items.size hi=items.size))
  (h:Q (.ref s.heap.objs.size) { s with heap:=s.heap.push { cls:=.type "tuple",data:=.seq ((items.toList.drop (sIx items.size 0 lo)).take (sIx items.size items.size hi - sIx items.size 0 lo)).toArray } })
  (hsz:items.size<=zh):wpAny (model prog w) A (getItem (.ref t) (.ref sl)) Q E s:=by
 have htake:sizeOk (.seq ((items.toList.drop (sIx items.size 0 lo)).take (sIx items.size items.size hi - sIx items.size 0 lo)).toArray):=by
  show ((items.toList.drop (sIx items.size 0 lo)).take (sIx items.size items.size hi - sIx items.size 0 lo)).toArray.size<=zh;rw[zf,zB,yu,zW];first | lia | omega
 have hj:sIx items.size items.size hi<=items.size:=sIx_le _ _ (zo _) hi;obtain⟨os,hos,hcs,hds⟩:=id hs;have hTs:s.TypeIs (.ref sl) "slice":=⟨os,hos,hcs⟩;unfold getItem
 try with_reducible refine wpAny_holding ?_
 first | refine zw (zj ?_) | skip
 refine zw (wpAny_sequenceKey ht.typeIs (by decide) ?_);refine zw (wpAny_callSpecial?_slot (name:=Str.ofString "__getitem__") ht.typeIs PyProof.Rows.slot_tuple_getitem
  (wpAny_call_entry PyProof.Rows.slot_tuple_getitem ht.typeIs entry_tuple_getitem ?_ (args_tuple_getitem _ _)))
 show wpAny _ _ (Builtin.Tuple.tupleItemsOf (.ref t) >>= _) _ _ s;refine zw (tupleItemsOf_ ht ?_);refine zw (wpAny_typeOf hTs ?_);rw[if_pos (by decide)];refine zw (sliceApplied_gen hs pl pu ?_);have hno:¬ ((((sIx items.size 0 lo:Nat):Int)==0&&(1:Int)==1&&(sIx items.size items.size hi - sIx items.size 0 lo)==items.size)=true):=by
  intro q;rw[zc,zc]at q;have q1:((sIx items.size 0 lo:Nat):Int)=0:=eq_of_beq q.1.1;have q2:sIx items.size items.size hi - sIx items.size 0 lo=items.size:=eq_of_beq q.2;exact hw ⟨by omega,by omega⟩
 show wpAny _ _ (if (((sIx items.size 0 lo:Nat):Int)==0&&(1:Int)==1&&(sIx items.size items.size hi - sIx items.size 0 lo)==items.size)=true then _ else _) _ _ s;rw[if_neg hno,pick_gen]
 first
  | exact zw (m:=Builtin.Tuple.tupleExact _) (wpAny_newObj_type (zj ⟨_,rfl,zj h⟩) htake)
  | exact zw (m:=Builtin.Tuple.tupleExact _) (wpAny_newObj_type (zw (zj (zj ⟨_,rfl,zj h⟩))) htake)
  | exact zw (zw (m:=Builtin.Tuple.tupleExact _) (wpAny_newObj_type (zj (zj ⟨_,rfl,zj h⟩)) htake))
  | exact zw (zw (m:=Builtin.Tuple.tupleExact _) (wpAny_newObj_type (zj ⟨_,rfl,zj h⟩) htake))
end
end HT
namespace L2
open PySem PySem.Spec PyProof.Rows
abbrev TO:=St->Hp->(Option Int->Hp->Prop)->Prop
def PO (X:Cx)(e:Option Expr)(t:TO):Prop :=
 ∀ (pins:List (Addr×Obj)) (s:Shared) (σ:St) (H:Hp) (Q:Option Int->Hp->Prop),Inv X pins σ H s->t σ H Q ->
  wpAny (model X.prog X.w) X.A (evalPart e X.env) (fun u s'=>∃ o H',Inv X pins σ H' s'/\IsPart u o/\Q o H') X.xe s
def tNoPart:TO:=fun _ H Q=>Q none H
def tPart (t:TE):TO:=fun σ H Q=>t σ H fun x H1=>∃ i,x=.int i/\Q (some i) H1
section
variable {X:Cx}{e:Expr}{te:TE}{lo hi:Option Expr}{tl th:TO}{pos p2:Pos}
theorem po_none:PO X none tNoPart:=by
 intro pins s σ H Q I h;rw[evalPart_none];exact zj ⟨none,H,I,.none,h⟩
theorem po_some (h:PE X e te):PO X (some e) (tPart te):=by
 intro pins s σ H Q I hw;rw[evalPart_some];refine thn (h pins s σ H _ I hw) fun u s1 ⟨x,H1,I1,r1,q1⟩=>?_;obtain⟨i,rfl,q⟩:=q1;obtain⟨t,rfl⟩:=r1;exact⟨some i,H1,I1,.int i t,q⟩
def SlR (X:Cx)(r:V->Option Int->Option Int->Hp->VK->Prop):Prop :=
 ∀ (pins:List (Addr×Obj)) (s:Shared) (σ:St) (H:Hp) (x:V) (v vl vu:Value) (lo hi:Option Int) (sl:Addr) (Q:VK),Inv X pins σ H s->RelV x v->s.heap.IsSliceOf sl vl vu .none->IsPart vl lo->IsPart vu hi->r x lo hi H Q ->
  ∃ T id,typeLookup (.type T) "__getitem__" = pure (some (.builtin id))/\s.TypeIs v T/\wpAny (model X.prog X.w) X.A (getItem v (.ref sl)) (EP X pins σ Q) X.xe s
def tSl (r:V->Option Int->Option Int->Hp->VK->Prop)(te:TE)(tl th:TO):TE:=fun σ H Q=>te σ H fun x H1=>tl σ H1 fun l H2=>th σ H2 fun u H3=>r x l u H3 Q
theorem pe_slice {r:V->Option Int->Option Int->Hp->VK->Prop}(hr:SlR X r)(he:PE X e te)(hl:PO X lo tl)(hu:PO X hi th):PE X (.Subscript e (.Slice lo hi none p2) pos) (tSl r te tl th):=by
 intro pins s σ H Q I h;refine Subscript_ (thn (he pins s σ H _ I h) fun v s1 ⟨x,H1,I1,r1,q1⟩=>?_);refine wpAny_Slice (thn (hl pins s1 σ H1 _ I1 q1) fun vl s2 ⟨l,H2,I2,pl,q2⟩=>thn (hu pins s2 σ H2 _ I2 q2) fun vu s3 ⟨u,H3,I3,pu,q3⟩=>?_);rw[evalPart_none];refine zj ?_;have I4:Inv X pins σ H3 { s3 with heap:=s3.heap.push { cls:=.type "slice",data:=.fields #[vl,vu,.none] } }:=I3.kept (t':=s3.toks) fun b ob q=>zb _ q;obtain⟨T,id,hT,ht,hg⟩:=hr pins { s3 with heap:=s3.heap.push { cls:=.type "slice",data:=.fields #[vl,vu,.none] } } σ H3 x v vl vu l u s3.heap.objs.size Q I4 r1 (Heap.IsSliceOf.new ..) pl pu q3;show wpAny (model X.prog X.w) X.A (subscriptTail e (.Slice lo hi none p2) v (.ref s3.heap.objs.size)) (EP X pins σ Q) X.xe { s3 with heap:=s3.heap.push { cls:=.type "slice",data:=.fields #[vl,vu,.none] } };exact tail_any (ops:=[.ref s3.heap.objs.size,v]) ht hT hg (by with_unfolding_all rfl)
def cutV (xs:List V)(lo hi:Option Int):List V:=(xs.drop (HT.sIx xs.length 0 lo)).take (HT.sIx xs.length xs.length hi - HT.sIx xs.length 0 lo)
theorem cutV_length (xs:List V)(lo hi:Option Int):(cutV xs lo hi).length<=xs.length:=by
 unfold cutV;rw[zB,yu];first | lia | omega
def rSlT (K:PySem.W.Frag):V->Option Int->Option Int->Hp->VK->Prop:=fun x lo hi H Q=>∃ a xs,x=.ref a/\SqT K H a xs /\
 ¬ (HT.sIx xs.length 0 lo=0/\HT.sIx xs.length xs.length hi=xs.length)/\∀ p,H p=none->Q (.ref p) (upd H p (.tup (cutV xs lo hi)))
theorem sl_tup:SlR X (rSlT X.K):=by
 intro pins s σ H x v vl vu lo hi sl Q I rx hs pl pu h;obtain⟨a,xs,rfl,hx,hw,q⟩:=h;cases rx;obtain⟨its,r,ht,hz⟩:=I.tuple hx;have hlen:its.toArray.size=xs.length:=by rw[zf];exact r.length.symm
 refine⟨"tuple",_,PyProof.Rows.slot_tuple_getitem.lookup,ht.typeIs,?_⟩;refine HT.getItem_tuple_cut ht hs pl pu (by rw[hlen];exact hw) ?_ (by rw[hlen];exact hz);rw[hlen];refine⟨.ref s.heap.objs.size,_,I.laid (t':=s.toks) (o:=.tup (cutV xs lo hi)) (fun b ob q=>zb _ q) (zo _) ?_,rfl,q _ (I.hok.fresh (zo _))⟩;exact⟨zH (cutV_length xs lo hi) hz,_,(r.drop (HT.sIx xs.length 0 lo)).take (HT.sIx xs.length xs.length hi - HT.sIx xs.length 0 lo),TupN.new _ _⟩
def rCatT (K:PySem.W.Frag):R2:=fun x y H Q=>∃ a b xs ys,x=.ref a/\y=.ref b/\SqT K H a xs/\SqT K H b ys/\xs≠[]/\xs.length + ys.length<=zh /\
 (ys=[]->Q (.ref a) H)/\(ys≠[]->∀ p,H p=none->Q (.ref p) (upd H p (.tup (xs++ys))))
theorem Vals.nil_iff {xs:List V}{us:List Value}(r:Vals xs us):us=[] ↔ xs=[]:=by
 cases r with
 | nil=>simp
 | cons _ _=>simp
theorem op_catT:OpR X (binaryOp .Add) (rCatT X.K):=by
 intro pins s σ H x y v u Q I rx ry h;obtain⟨a,b,xs,ys,rfl,rfl,ha,hb,hx,hz,q1,q2⟩:=h;cases rx;cases ry;obtain⟨its,r1,p1,_⟩:=I.tuple ha;obtain⟨its2,r2,p2,_⟩:=I.tuple hb;refine HT.cat_tup p1 p2 (fun z=>hx (r1.nil_iff.mp z)) (fun z=>⟨.ref a,H,I,rfl,q1 (r2.nil_iff.mp z)⟩) (fun z=>?_) (by rw[<- r1.length,<- r2.length];exact hz);refine⟨.ref s.heap.objs.size,_,I.laid (t':=s.toks) (o:=.tup (xs++ys)) (fun b ob q=>zb _ q) (zo _) ?_,rfl,q2 (fun w=>z (r2.nil_iff.mpr w)) _ (I.hok.fresh (zo _))⟩;exact⟨by rw[zp];exact hz,_,r1.append r2,TupN.new _ _⟩
end
end L2
namespace L2
open PySem PySem.Spec PyProof.Rows
def ixN (n:Nat)(i:Int):Option Nat:=if 0<=i then (if i < n then some i.toNat else none) else if -(n:Int)<=i then some (i + n).toNat else none
def atI {α:Type}(xs:List α)(i:Int):Option α:=(ixN xs.length i).bind fun j=>xs[j]?
theorem ixN_seq {n:Nat}{i:Int}{j:Nat}(h:ixN n i=some j):seqIndex? i n=some j/\j < n/\-(n:Int)<=i/\i < n:=by
 unfold ixN at h;by_cases h0:0<=i
 ·rw[if_pos h0]at h
  by_cases h1:i < n
  ·rw[if_pos h1]at h
   have e:i.toNat=j:=Option.some.inj h;exact⟨by rw[seqIndex_of h0 h1,e],by omega,by omega,h1⟩
  ·rw[if_neg h1]at h;cases h
 ·rw[if_neg h0]at h
  by_cases h1:-(n:Int)<=i
  ·rw[if_pos h1]at h
   have e:(i + n).toNat=j:=Option.some.inj h;exact⟨by rw[seqIndex_neg (by first | lia | omega) h1,e],by omega,h1,by omega⟩
  ·rw[if_neg h1]at h;cases h
theorem atI_get {α:Type}{xs:List α}{i:Int}{v:α}(h:atI xs i=some v):∃ j,seqIndex? i xs.length=some j/\xs[j]?=some v/\j < xs.length/\-(xs.length:Int)<=i/\i < xs.length:=by
 unfold atI at h;cases e:ixN xs.length i with
 | none=>rw[e]at h;cases h
 | some j =>
  rw[e]at h;obtain⟨h1,h2,h3,h4⟩:=ixN_seq e;exact⟨j,h1,h,h2,h3,h4⟩
def PlainIx (b:Expr):Prop:=∀ o i,subscripted b false o i=operate [o,i] (getItem o i)
def IxR (X:Cx)(r:R2):Prop :=
 ∀ (value slice:Expr) (pins:List (Addr×Obj)) (s:Shared) (σ:St) (H:Hp) (x y:V) (v u:Value) (Q:VK),Inv X pins σ H s->RelV x v->RelV y u->r x y H Q ->
  subscripted slice false v u=operate [v,u] (getItem v u)->wpAny (model X.prog X.w) X.A (subscriptTail value slice v u) (EP X pins σ Q) X.xe s
def MtR (X:Cx)(id:String)(r:V->List V->Hp->VK->Prop):Prop :=
 ∀ (pins:List (Addr×Obj)) (s:Shared) (σ:St) (H:Hp) (x:V) (xs:List V) (v:Value) (us:List Value) (Q:VK),Inv X pins σ H s->RelV x v->Vals xs us->r x xs H Q ->
  wpAny (model X.prog X.w) X.A (call (.builtin id) (v::us)) (EP X pins σ Q) X.xe s
section
variable {X:Cx}{a b:Expr}{ta tb:TE}{pos:Pos}
theorem pe_ix {r:R2}(hr:IxR X r)(ha:PE X a ta)(hb:PE X b tb)(hs:PlainIx b):PE X (.Subscript a b pos) (tOp r ta tb):=by
 intro pins s σ H Q I h;exact Subscript_ (binT ha hb I h fun v u s2 x y H2 I2 rx ry q=>hr a b pins s2 σ H2 x y v u Q I2 rx ry q (hs _ _))
def rIxL (K:PySem.W.Frag):R2:=fun x y H Q=>∃ p xs i v,x=.ref p/\y=.int i/\SqL K H p xs/\atI xs i=some v/\Q v H
def rIxT (K:PySem.W.Frag):R2:=fun x y H Q=>∃ p xs i v,x=.ref p/\y=.int i/\SqT K H p xs/\atI xs i=some v/\Q v H
def rIxS:R2:=fun x y H Q=>∃ z i c,x=.str z/\y=.int i/\z.length<=zh/\atI z.cps.toList i=some c/\Q (.str ⟨#[c]⟩) H
theorem ix_list:IxR X (rIxL X.K):=by
 intro value slice pins s σ H x y v u Q I rx ry h hs;obtain⟨p,xs,i,z,rfl,rfl,hq,he,q⟩:=h;cases rx;obtain⟨t,rfl⟩:=ry;obtain⟨its,r,pl,hz⟩:=I.list hq;obtain⟨j,h1,h2,h3,h4,h5⟩:=atI_get he;obtain⟨w,ew,rw'⟩:=r.get h2;have hl:=r.length;have hn:=line63;have fin:EP X pins σ Q w s:=⟨z,H,I,rw',q⟩;by_cases h0:0<=i
 ·have hj:i.toNat=j:=by
   rw[seqIndex_of h0 h5]at h1;exact Option.some.inj h1
  exact item_listR pl.isList h0 (by first | lia | omega) (by rw[hj];simpa using ew) fin hs
 ·have hj:(i + (its.toArray.size:Int)).toNat=j:=by
   rw[seqIndex_neg (by first | lia | omega) h4]at h1
   rw[zf,<- hl];exact Option.some.inj h1
  exact subscriptTail_builtinR (x:=w) pl.isList.typeIs slot_list_getitem.lookup
   (wpAny_getItem_list_neg (Q:=fun r s'=>r=w/\EP X pins σ Q r s') pl.isList (by first | lia | omega) (by rw[zf] <;> omega) (by first | lia | omega) (by rw[hj];simpa using ew) ⟨rfl,fin⟩) hs
theorem ix_tup:IxR X (rIxT X.K):=by
 intro value slice pins s σ H x y v u Q I rx ry h hs;obtain⟨p,xs,i,z,rfl,rfl,hq,he,q⟩:=h;cases rx;obtain⟨t,rfl⟩:=ry;obtain⟨its,r,pl,hz⟩:=I.tuple hq;obtain⟨j,h1,h2,h3,h4,h5⟩:=atI_get he;obtain⟨w,ew,rw'⟩:=r.get h2;have hl:=r.length;have hn:=line63;have fin:EP X pins σ Q w s:=⟨z,H,I,rw',q⟩;exact subscriptTail_builtinR (x:=w) pl.typeIs slot_tuple_getitem.lookup
  (getItem_tuple (j:=j) (Q:=fun r s'=>r=w/\EP X pins σ Q r s') pl (by first | lia | omega) (by first | lia | omega) (by rw[zf,<- hl];exact h1) (by simpa using ew) ⟨rfl,fin⟩) hs
theorem ix_str:IxR X rIxS:=by
 intro value slice pins s σ H x y v u Q I rx ry h hs;obtain⟨z,i,c,rfl,rfl,hz,he,q⟩:=h;obtain⟨t,rfl⟩:=rx;obtain⟨t',rfl⟩:=ry;obtain⟨j,h1,h2,h3,h4,h5⟩:=atI_get he;have hl:z.cps.toList.length=z.length:=by simp[Str.length]
 rw[hl]at h1 h4 h5;have hn:=line63;exact tail_any (typeIs_str s z t) slot_str_getitem.lookup (getItem_str (c:=c) (by
  have e1:decide (i < -(2 ^ 63:Int))=false:=decide_eq_false (by first | lia | omega)
  have e2:decide (i ≥ 2 ^ 63)=false:=decide_eq_false (by first | lia | omega)
  rw[e1,e2,Bool.or_false]) (by rw[h1];simpa using h2) ⟨.str ⟨#[c]⟩,H,I.tok _,⟨_,rfl⟩,q⟩) hs
theorem mapSeq_set (its:List Value)(n j:Nat)(u:Value):Obj.mapSeq (·.setIfInBounds j u) { cls:=.type "list",data:=.seq its.toArray n } = { cls:=.type "list",data:=.seq (its.set j u).toArray n }:=by
 simp[Obj.mapSeq]
theorem Inv.lst {pins:List (Addr×Obj)}{σ:St}{H:Hp}{s:Shared}{p:Addr}{xs:List V}(I:Inv X pins σ H s)(h:H p=some (.lst xs)) :
  ∃ (its:List Value) (n:Nat),Vals xs its/\s.heap.get? p=some { cls:=.type "list",data:=.seq its.toArray n }/\xs.length<=zh:=by
 obtain⟨z,its,n,r,e⟩:=I.hok p _ h;exact⟨its,n,r,e,z⟩
theorem Inv.lstUpd {pins:List (Addr×Obj)}{σ:St}{H:Hp}{s:Shared}{p:Addr}{xs ys:List V}{its its':List Value}{n n':Nat}{f:Obj->Obj}(I:Inv X pins σ H s)(h:H p=some (.lst xs))
  (ho:s.heap.get? p=some { cls:=.type "list",data:=.seq its.toArray n }) (hf:f { cls:=.type "list",data:=.seq its.toArray n } = { cls:=.type "list",data:=.seq its'.toArray n' }) (r:Vals ys its') (hz:ys.length<=zh) (t:Nat) :
  Inv X pins σ (upd H p (.lst ys)) { s with heap:=s.heap.update p f,toks:=t }:=by
 have e:(s.heap.update p f).get? p=some { cls:=.type "list",data:=.seq its'.toArray n' }:=by
  rw[xw f ho (by rw[hf] <;> rfl),hf]
 refine I.write (x:=p) (e:=p) (by rw[h];trivial) (.inl rfl) (fun b u hb q=>(wn _ _ (Ne.symm hb)).trans q) ⟨_,e⟩ ?_;exact⟨hz,its',n',r,e⟩
def rSetL:V->V->V->Hp->(Hp->Prop)->Prop:=fun o i v H Q=>∃ p xs k j,o=.ref p/\i=.int k/\H p=some (.lst xs)/\ixN xs.length k=some j/\Q (upd H p (.lst (xs.set j v)))
theorem set_list:PSet X rSetL:=by
 intro pins s σ H o i v ov iv u Q I ro ri rv h;obtain⟨p,xs,k,j,rfl,rfl,hp,hj,q⟩:=h;cases ro;obtain⟨t,rfl⟩:=ri;obtain⟨its,n,r,ho,hz⟩:=I.lst hp;obtain⟨h1,h2,h3,h4⟩:=ixN_seq hj;have hl:=r.length;have hn:=line63;have I':Inv X pins σ (upd H p (.lst (xs.set j v))) { s with heap:=s.heap.update p (Obj.mapSeq (·.setIfInBounds j u)) } :=
  I.lstUpd hp ho (mapSeq_set its n j u) (r.set rv j) (by rw[zU];exact hz) s.toks
 by_cases h0:0<=k
 ·have hk:k.toNat=j:=by
   rw[seqIndex_of h0 h4]at h1;exact Option.some.inj h1
  exact PySem.W.ki_setAt ho h0 (by first | lia | omega) (by rw[zf,<- hl];exact h4) (by rw[hk];exact⟨_,I',q⟩)
 ·have hk:(k + (its.toArray.size:Int)).toNat=j:=by
   rw[seqIndex_neg (by first | lia | omega) h3]at h1
   rw[zf,<- hl];exact Option.some.inj h1
  exact PySem.W.ki_setBack ho (by first | lia | omega) (by rw[zf,<- hl];exact h3) (by first | lia | omega) (by rw[hk];exact⟨_,I',q⟩)
theorem slice_bounds (lo hi:Option Int)(n:Nat):(sliceBounds lo hi none n).1=((HT.sIx n 0 lo:Nat):Int)/\(sliceBounds lo hi none n).2.1=((HT.sIx n n hi:Nat):Int)/\(sliceBounds lo hi none n).2.2=1:=by
 refine⟨?_,?_,rfl⟩
 ·cases lo with
  | none=>simp[sliceBounds,HT.sIx]
  | some i =>
   simp only[sliceBounds,HT.sIx,wX,show (1:Int) > 0 by decide,if_true];by_cases h:i < 0
   ·simp only[h,if_true] <;> omega
   ·simp only[h,if_false] <;> omega
 ·cases hi with
  | none=>simp[sliceBounds,HT.sIx]
  | some i =>
   simp only[sliceBounds,HT.sIx,wX,show (1:Int) > 0 by decide,if_true];by_cases h:i < 0
   ·simp only[h,if_true] <;> omega
   ·simp only[h,if_false] <;> omega
theorem slicePick_cut (its:List Value)(lo hi:Option Int):slicePick its.toArray lo hi none=((its.drop (HT.sIx its.length 0 lo)).take (HT.sIx its.length its.length hi - HT.sIx its.length 0 lo)).toArray:=by
 obtain⟨h1,h2,h3⟩:=slice_bounds lo hi its.toArray.size;unfold slicePick;rw[h1,h2,h3];simp only[sliceRange_one,pick_run,zf] <;> rfl
def rSlL (K:PySem.W.Frag):V->Option Int->Option Int->Hp->VK->Prop:=fun x lo hi H Q=>∃ a xs,x=.ref a/\SqL K H a xs/\∀ p,H p=none->Q (.ref p) (upd H p (.lst (cutV xs lo hi)))
theorem sl_list:SlR X (rSlL X.K):=by
 intro pins s σ H x v vl vu lo hi sl Q I rx hs pl pu h;obtain⟨a,xs,rfl,hx,q⟩:=h;cases rx;obtain⟨its,r,ht,hz⟩:=I.list hx;have hlen:=r.length;refine⟨"list",_,slot_list_getitem.lookup,ht.isList.typeIs,?_⟩;refine wpAny_getItem_list_slice ht.isList hs pl pu .none (by simp) ?_ (by rw[zf] <;> omega);rw[slicePick_cut,<- hlen];refine⟨.ref s.heap.objs.size,_,I.laid (t':=s.toks) (o:=.lst (cutV xs lo hi)) (fun b ob q=>zb _ q) (zo _) ?_,rfl,q _ (I.hok.fresh (zo _))⟩;exact⟨zH (cutV_length xs lo hi) hz,_,0,(r.drop (HT.sIx xs.length 0 lo)).take (HT.sIx xs.length xs.length hi - HT.sIx xs.length 0 lo),zR _ rfl⟩
def flatV:V->Bool
 | .non=>true
 | .bl _=>true
 | .int _=>true
 | .str _=>true
 | _=>false
def eqV:V->V->Bool
 | .non,.non=>true
 | .bl a,.bl b=>a==b
 | .bl a,.int b=>(if a then 1 else 0)==b
 | .int a,.bl b=>a==(if b then 1 else 0)
 | .int a,.int b=>a==b
 | .str a,.str b=>a==b
 | _,_=>false
theorem eqAt_V {A:Around}{s:Shared}{y x:V}{u v:Value}(ry:RelV y u)(rx:RelV x v)(fy:flatV y=true)(fx:flatV x=true):SeqAt.EqAt A s u v (eqV y x):=by
 cases y with
 | non =>
  cases ry;cases x with
  | non=>cases rx;exact SeqAt.EqAt.same _
  | bl b=>cases rx;exact SeqAt.EqAt.none_bool b
  | int b=>obtain⟨t,rfl⟩:=rx;exact SeqAt.EqAt.none_int b t
  | str b=>obtain⟨t,rfl⟩:=rx;exact SeqAt.EqAt.none_str b t
  | _=>exact absurd (show false=true from fx) zi
 | bl a =>
  cases ry;cases x with
  | non=>cases rx;exact SeqAt.EqAt.bool_none a
  | bl b=>cases rx;exact SeqAt.EqAt.bool_bool a b
  | int b=>obtain⟨t,rfl⟩:=rx;exact SeqAt.EqAt.bool_int a b t
  | str b=>obtain⟨t,rfl⟩:=rx;exact SeqAt.EqAt.bool_str a b t
  | _=>exact absurd (show false=true from fx) zi
 | int a =>
  obtain⟨t',rfl⟩:=ry;cases x with
  | non=>cases rx;exact SeqAt.EqAt.int_none a t'
  | bl b=>cases rx;exact SeqAt.EqAt.int_bool a t' b
  | int b=>obtain⟨t,rfl⟩:=rx;exact SeqAt.EqAt.int_int a t' b t
  | str b=>obtain⟨t,rfl⟩:=rx;exact SeqAt.EqAt.int_str a t' b t
  | _=>exact absurd (show false=true from fx) zi
 | str a =>
  obtain⟨t',rfl⟩:=ry;cases x with
  | non=>cases rx;exact SeqAt.EqAt.str_none a t'
  | bl b=>cases rx;exact SeqAt.EqAt.str_bool a t' b
  | int b=>obtain⟨t,rfl⟩:=rx;exact SeqAt.EqAt.str_int a t' b t
  | str b=>obtain⟨t,rfl⟩:=rx;exact SeqAt.EqAt.str_str a t' b t
  | _=>exact absurd (show false=true from fx) zi
 | _=>exact absurd (show false=true from fy) zi
theorem call_len_seq:CallR X (.builtin "len") (fun xs H Q=>∃ p ys,xs=[.ref p]/\(SqL X.K H p ys\/SqT X.K H p ys)/\Q (.int ys.length) H):=by
 intro pins s σ H xs us Q I r h;obtain⟨p,ys,rfl,hq,q⟩:=h;obtain⟨u,rfl,rx⟩:=vals1 r;cases rx;have hn:=line63;rcases hq with hq | hq
 ·obtain⟨its,r',pl,hz⟩:=I.list hq
  have hlen:=r'.length;exact Calls.call_len_list pl.isList (by simp only[zf] <;> omega) ⟨.int ys.length,H,I.tok _,⟨s.toks + 1,by rw[zf,hlen]⟩,q⟩
 ·obtain⟨its,r',pl,hz⟩:=I.tuple hq
  have hlen:=r'.length;exact len_tuple pl (by simp only[zf] <;> omega) ⟨.int ys.length,H,I.tok _,⟨s.toks + 1,by rw[zf,hlen]⟩,q⟩
theorem call_len_str:CallR X (.builtin "len") (fun xs H Q=>∃ z,xs=[.str z]/\z.length<=zh/\Q (.int z.length) H):=by
 intro pins s σ H xs us Q I r h;obtain⟨z,rfl,hz,q⟩:=h;obtain⟨u,rfl,t,rfl⟩:=vals1 r;have hn:=line63;exact len_str (by first | lia | omega) ⟨.int z.length,H,I.tok _,⟨_,rfl⟩,q⟩
theorem call_list_of:CallR X (.type "list") (fun xs H Q=>∃ p ys,xs=[.ref p]/\(SqL X.K H p ys\/SqT X.K H p ys)/\∀ l,H l=none->Q (.ref l) (upd H l (.lst ys))):=by
 intro pins s σ H xs us Q I r h;obtain⟨p,ys,rfl,hq,q⟩:=h;obtain⟨u,rfl,rx⟩:=vals1 r;cases rx;have fin:∀ (its:List Value),Vals ys its->ys.length<=zh->∀ (h':Heap) (c':Nat),(∀ b o',s.heap.get? b=some o'->h'.get? b=some o') ->
   h'.get? s.heap.objs.size=some { cls:=.type "list",dict:=none,data:=.seq its.toArray c',slots:=#[] }->EP X pins σ Q (.ref s.heap.objs.size) { s with heap:=h' }:=fun its r' hz h' c' kp e =>
  ⟨.ref s.heap.objs.size,_,I.laid (t':=s.toks) kp (zo _) (show ObjOk X.prog X.w _ h' _ (.lst ys) from ⟨hz,its,c',r',e⟩),rfl,q _ (I.hok.fresh (zo _))⟩
 rcases hq with hq | hq
 ·obtain⟨its,r',pl,hz⟩:=I.list hq
  have hlen:=r'.length;obtain⟨o,ho,hc,n,hd⟩:=pl.isList;exact call_list_seq p (.inl rfl) ho hc hd (fun h' c' kp e=>fin its r' hz h' c' kp e) (by simp only[zf] <;> omega)
 ·obtain⟨its,r',pl,hz⟩:=I.tuple hq
  have hlen:=r'.length;obtain⟨o,ho,hc,n,hd⟩:=pl;exact call_list_seq p (.inr rfl) ho hc hd (fun h' c' kp e=>fin its r' hz h' c' kp e) (by simp only[zf] <;> omega)
theorem call_tuple_of:CallR X (.type "tuple") (fun xs H Q=>∃ p ys,xs=[.ref p]/\((SqL X.K H p ys/\∀ l,H l=none->Q (.ref l) (upd H l (.tup ys)))\/(SqT X.K H p ys/\Q (.ref p) H))):=by
 intro pins s σ H xs us Q I r h;obtain⟨p,ys,rfl,h⟩:=h;obtain⟨u,rfl,rx⟩:=vals1 r;cases rx;rcases h with ⟨hq,q⟩|⟨hq,q⟩
 ·obtain⟨its,r',pl,hz⟩:=I.list hq
  have hlen:=r'.length;refine call_tuple_list pl.isList (fun h' kp=>?_) (by simp only[zf] <;> omega);have I1:Inv X pins σ H { s with heap:=h' }:=I.kept (t':=s.toks) kp;have I2:Inv X pins σ (upd H h'.objs.size (.tup ys)) { s with heap:=h'.push { cls:=.type "tuple",data:=.seq its.toArray } } :=
   I1.laid (t':=s.toks) (fun b o e=>zb _ e) (zo _) (show ObjOk X.prog X.w _ _ _ (.tup ys) from ⟨hz,its,r',TupN.new _ _⟩)
  exact⟨.ref h'.objs.size,_,I2,rfl,q _ (I1.hok.fresh (zo _))⟩
 ·obtain⟨its,r',pl,hz⟩:=I.tuple hq
  exact call_tuple_same pl ⟨.ref p,H,I,rfl,q⟩
def tyV (K:PySem.W.Frag)(T:String)(x:V)(H:Hp):Prop:=match x with
 | .str _=>T = "str"
 | .int _=>T = "int"
 | .ref p=>(T = "list"/\∃ xs,SqL K H p xs)\/(T = "tuple"/\∃ o,K.lookup p=some o/\o.cls=.type "tuple"/\o.dict=none) \/
   (T = "dict"/\((∃ kvs,H p=some (.dK kvs))\/∃ kvs,H p=some (.dT kvs)))\/(T = "set"/\∃ S n,H p=some (.set S n))
 | _=>False
theorem tyV_is {pins:List (Addr×Obj)}{σ:St}{H:Hp}{s:Shared}{T:String}{x:V}{v:Value}(I:Inv X pins σ H s)(r:RelV x v)(ty:tyV X.K T x H) :
  s.TypeIs v T/\∀ a,v=.ref a->∃ ob,s.heap.get? a=some ob/\ob.dict=none:=by
 cases x with
 | str z =>
  obtain⟨t,rfl⟩:=r;cases (show T = "str" from ty);exact⟨typeIs_str s z t,fun _ e=>nomatch e⟩
 | int i =>
  obtain⟨t,rfl⟩:=r;cases (show T = "int" from ty);exact⟨typeIs_int s i t,fun _ e=>nomatch e⟩
 | ref p =>
  cases r;rcases ty with ⟨rfl,xs,hq⟩|⟨rfl,o,hk,hc,hd⟩|⟨rfl,hk⟩|⟨rfl,S,n,hk⟩
  ·obtain⟨its,_,pl,_⟩:=I.list hq
   refine⟨pl.isList.typeIs,fun a e=>?_⟩;cases e;obtain⟨o,n,e,c,hd,_⟩:=pl;exact⟨o,e,hd⟩
  ·refine⟨⟨o,I.kIn p o hk,hc⟩,fun a e=>?_⟩
   cases e;exact⟨o,I.kIn _ o hk,hd⟩
  ·have z:∃ o,s.heap.get? p=some o/\o.ExactDict:=by
    rcases hk with ⟨kvs,hk⟩|⟨kvs,hk⟩
    ·obtain⟨_,_,_,_,o,_,_,e,ex,_⟩:=I.hok p _ hk
     exact⟨o,e,ex⟩
    ·obtain⟨_,_,_,_,o,_,_,e,ex,_⟩:=I.hok p _ hk
     exact⟨o,e,ex⟩
   obtain⟨o,e,ex⟩:=z;refine⟨⟨o,e,ex.1⟩,fun a e2=>?_⟩;cases e2;exact⟨o,e,ex.2.1⟩
  ·obtain⟨o,_,_,_,e,ex,_⟩:=I.hok p _ hk
   refine⟨⟨o,e,ex.1⟩,fun a e2=>?_⟩;cases e2;exact⟨o,e,ex.2.1⟩
 | _=>exact False.elim ty
def tBM0 (K:PySem.W.Frag)(T:String)(r:V->List V->Hp->VK->Prop)(to:TE):TE:=fun σ H Q=>to σ H fun x H1=>tyV K T x H1/\r x [] H1 Q
variable {o e:Expr}{es:List Expr}{to:TE}{t:TA}{name:Str}{apos cpos:Pos}{T id:String}{r:V->List V->Hp->VK->Prop}
theorem pe_bm0 (pa:PlainAttrs T)(slot:Slot T name id)(hty:typeOf (.builtin id)=pure (.type "method_descriptor"))(hm:MtR X id r)(ho:PE X o to)
  (hbase:attributeBase o name X.env (eval o X.env)=eval o X.env:=by rfl) (hline:(apos.endLine==cpos.line)=true:=by rfl):PE X (.Call (.Attribute o name apos) [] [] cpos) (tBM0 X.K T r to):=by
 intro pins s σ H Q I h;refine wpAny_Call_method0_late hbase hline (thn (ho pins s σ H _ I h) fun v s1 ⟨x,H1,I1,r1,ty,q1⟩=>?_);obtain⟨h1,h2⟩:=tyV_is I1 r1 ty;exact⟨T,id,pa,slot,hty,h1,h2,Calls.callWith_builtin rfl (PySem.evalArgs_none (hm pins s1 σ H1 x [] v [] Q I1 r1 .nil q1))⟩
/- xs.append(e),list.index on a module's tuple .. are MtR facts of 06m -/
end
end L2
namespace L2
open PySem PySem.Spec PyProof.Rows
def MtM (X:Cx)(id:String)(r:V->List V->Hp->VK->Prop):Prop :=
 ∀ (pins:List (Addr×Obj)) (s:Shared) (σ:St) (H:Hp) (x:V) (xs:List V) (v:Value) (us:List Value) (Q:VK),Inv X pins σ H s->RelV x v->Vals xs us->r x xs H Q ->
  wpAny (model X.prog X.w) X.A (call (.builtin id) (v::us)) (EP X pins σ Q) X.xe s
theorem Vals.one:∀ {x:V} {us:List Value},Vals [x] us->∃ u,us=[u]/\RelV x u
 | _,_,.cons r .nil=>⟨_,rfl,r⟩
theorem Vals.two:∀ {x y:V} {us:List Value},Vals [x,y] us->∃ u v,us=[u,v]/\RelV x u/\RelV y v:=by
 intro x y us h;cases h with
 | cons r h =>
 cases h with
 | cons q h =>
 cases h;exact⟨_,_,rfl,r,q⟩
theorem Vals.dropLast {xs:List V}{us:List Value}(h:Vals xs us):Vals xs.dropLast us.dropLast:=by
 induction h with
 | nil=>exact .nil
 | cons r t ih =>
  cases t with
  | nil=>exact .nil
  | cons q t'=>exact .cons r ih
theorem Vals.reverse {xs:List V}{us:List Value}(h:Vals xs us):Vals xs.reverse us.reverse:=by
 induction h with
 | nil=>exact .nil
 | cons r t ih=>rw[xb,xb];exact Vals.append ih (.cons r .nil)
theorem erase_last {α:Type}(l:List α):l.eraseIdx (l.length - 1)=l.dropLast:=by
 induction l with
 | nil=>rfl
 | cons a r ih =>
  cases r with
  | nil=>rfl
  | cons b r =>
   have e:(a::b::r).length - 1=((b::r).length - 1) + 1:=by
    have h1:(a::b::r).length=r.length + 2:=rfl;have h2:(b::r).length=r.length + 1:=rfl;first | lia | omega
   rw[e,List.eraseIdx_cons_succ,ih]
   all_goals rfl
section
variable {X:Cx}{pins:List (Addr×Obj)}{σ:St}{H:Hp}{s:Shared}{l b:Addr}{xs ys zs:List V}
theorem Inv.lset {its its':List Value}{n:Nat}{f:Array Value->Array Value}{t':Nat}(I:Inv X pins σ H s)(hH:H l=some (.lst xs))
  (e:s.heap.get? l=some { cls:=.type "list",data:=.seq its.toArray n }) (hf:f its.toArray=its'.toArray) (hv:Vals ys its') (hz:ys.length<=zh) :
  Inv X pins σ (upd H l (.lst ys)) { s with heap:=s.heap.update l (Obj.mapSeq f),toks:=t' }:=by
 have q:=PySem.IsL.update e f;rw[hf]at q;refine I.write (x:=l) (e:=l) (by rw[hH];exact trivial) (.inl rfl) (fun b' u hb hu=>(wn s.heap (Obj.mapSeq f) (Ne.symm hb)).trans hu) ⟨_,q⟩ ?_;exact⟨hz,its',_,hv,q⟩
theorem Inv.lnew {its:List Value}{t':Nat}(I:Inv X pins σ H s)(hv:Vals ys its)(hz:ys.length<=zh) :
  Inv X pins σ (upd H s.heap.objs.size (.lst ys)) { s with heap:=s.heap.push { cls:=.type "list",data:=.seq its.toArray },toks:=t' } :=
 I.laid (fun _ _ q=>zb _ q) (zo _) ⟨hz,its,0,hv,zR _ rfl⟩
theorem Inv.fresh (I:Inv X pins σ H s):H s.heap.objs.size=none:=I.hok.fresh (zo _)
theorem Inv.lstM (I:Inv X pins σ H s)(hH:H l=some (.lst xs)):xs.length<=zh/\∃ (its:List Value) (n:Nat),Vals xs its/\xs.length=its.length/\s.heap.get? l=some { cls:=.type "list",data:=.seq its.toArray n }:=by
 obtain⟨z,its,n,r,e⟩:=I.hok l _ hH;exact⟨z,its,n,r,r.length,e⟩
theorem notLongL {n:Nat}(h:n<=zh):Builtin.List.listTooLong n=false:=by
 unfold Builtin.List.listTooLong;exact decide_eq_false (by first | lia | omega)
end
section
variable {X:Cx}
def rAppend:V->List V->Hp->VK->Prop:=fun x vs H Q=>∃ l xs y,x=.ref l/\vs=[y]/\H l=some (.lst xs)/\xs.length < zh/\Q .non (upd H l (.lst (xs++[y])))
theorem mt_append:MtM X "list.append" rAppend:=by
 intro pins s σ H x vs v us Q I rx rv h;obtain⟨l,xs,y,rfl,rfl,hH,hz,q⟩:=h;cases rx;obtain⟨u,rfl,ru⟩:=rv.one;obtain⟨z,its,n,r,hl,e⟩:=I.lstM hH;refine call_meets F.slot_list_append ⟨_,e,rfl⟩ F.entry_list_append (F.args_list_append_2 _ _) (PySem.list_append l its.toArray n u (by rw[zf];omega)) ⟨e,?_⟩;refine⟨.non,_,I.lset (its':=its++[u]) hH e (by simp) (r.append (.cons ru .nil)) ?_,rfl,q⟩;rw[zp,yK];first | lia | omega
def rExtend:V->List V->Hp->VK->Prop:=fun x vs H Q=>∃ l b xs zs,x=.ref l/\vs=[.ref b]/\H l=some (.lst xs)/\H b=some (.lst zs)/\xs.length + zs.length<=zh/\Q .non (upd H l (.lst (xs++zs)))
theorem mt_extend:MtM X "list.extend" rExtend:=by
 intro pins s σ H x vs v us Q I rx rv h;obtain⟨l,b,xs,zs,rfl,rfl,hH,hB,hz,q⟩:=h;cases rx;obtain⟨u,rfl,ru⟩:=rv.one;cases ru;obtain⟨z,its,n,r,hl,e⟩:=I.lstM hH;obtain⟨z2,its2,n2,r2,hl2,e2⟩:=I.lstM hB;have hsz:its.toArray.size + its2.toArray.size<=zh:=by rw[zf,zf];omega
 have hlong:¬ (!its.toArray.isEmpty&&Builtin.List.listTooLong (its.toArray.size + its2.toArray.size))=true:=by
  rw[notLongL hsz,yG];exact zi
 refine call_meets F.slot_list_extend ⟨_,e,rfl⟩ F.entry_list_extend (F.args_list_extend_2 _ _)
  (AutoSeq1.list_extend_list_list_0 l its.toArray n b its2.toArray n2 hlong (by rw[zf];omega) (by first | lia | omega)) ⟨e,e2,?_⟩
 refine⟨.non,_,I.lset (its':=its++its2) hH e (by simp) (r.append r2) ?_,rfl,q⟩;rw[zp];first | lia | omega
def rCat:R2:=fun x y H Q=>∃ l b xs zs,x=.ref l/\y=.ref b/\H l=some (.lst xs)/\H b=some (.lst zs)/\xs.length + zs.length<=zh/\∀ p,H p=none->Q (.ref p) (upd H p (.lst (xs++zs)))
theorem op_cat:OpR X (binaryOp .Add) rCat:=by
 intro pins s σ H x y v u Q I rx ry h;obtain⟨l,b,xs,zs,rfl,rfl,hH,hB,hz,q⟩:=h;cases rx;cases ry;obtain⟨z,its,n,r,hl,e⟩:=I.lstM hH;obtain⟨z2,its2,n2,r2,hl2,e2⟩:=I.lstM hB;refine PySem.P.add_list e e2 ?_ (by rw[zf,zf];omega);have ea:its.toArray++its2.toArray=(its++its2).toArray:=by simp
 rw[ea];exact⟨.ref _,_,I.lnew (t':=s.toks) (r.append r2) (by rw[zp];omega),rfl,q _ I.fresh⟩
end
section
variable {prog:Program}{w:World}{A:Around}{E:Value->Shared->Prop}{s:Shared}
set_option maxRecDepth 100000 in
end
section
variable {X:Cx}
end
end L2
namespace L2
open PySem PySem.Spec PyProof.Rows
section
variable {κ:Type}[DecidableEq κ]
def valV (kvs:List (κ×V))(k:κ):Option V:=(kvs.find? fun kv=>decide (kv.1=k)).map (·.2)
def putK (kvs:List (κ×V))(k:κ)(v:V):List (κ×V) :=
 if (kvs.any fun kv=>decide (kv.1=k))=true then kvs.map (fun kv=>if kv.1=k then (kv.1,v) else kv) else kvs++[(k,v)]
theorem valV_pos {p:κ×V}{r:List (κ×V)}{k:κ}(e:p.1=k):valV (p::r) k=some p.2:=by simp[valV,yt,e]
theorem valV_neg {p:κ×V}{r:List (κ×V)}{k:κ}(e:¬ p.1=k):valV (p::r) k=valV r k:=by simp[valV,yt,e]
theorem valV_any (k:κ):∀ kvs:List (κ×V),(kvs.any fun kv=>decide (kv.1=k))=(valV kvs k).isSome
 | []=>rfl
 | p::r=>by
  rw[xx];by_cases e:p.1=k
  ·simp only[valV_pos e,decide_eq_true e,Bool.true_or,Option.isSome_some]
  ·rw[valV_neg e,decide_eq_false e,Bool.false_or];exact valV_any k r
theorem length_putK (kvs:List (κ×V))(k:κ)(v:V):(putK kvs k v).length<=kvs.length + 1:=by
 unfold putK;split
 ·rw[zz];omega
 ·rw[zp,zM,yg];omega
theorem RelO.isSome_eq {o:Option V}{u:Option Value}(r:RelO o u):o.isSome=u.isSome:=by
 cases o with
 | none=>cases u with
  | none=>rfl
  | some _=>exact(show False from r).elim
 | some _=>cases u with
  | none=>exact(show False from r).elim
  | some _=>rfl
theorem RelO.getD {o:Option V}{u:Option Value}{d:V}{d':Value}(r:RelO o u)(rd:RelV d d'):RelV (o.getD d) (u.getD d'):=by
 cases o with
 | none=>cases u with
  | none=>exact rd
  | some _=>exact(show False from r).elim
 | some _=>cases u with
  | none=>exact(show False from r).elim
  | some _=>exact r
theorem KV.val {kvs:List (κ×V)}{vs:List (κ×Value)}(r:KV kvs vs)(k:κ):RelO (valV kvs k) (valueAt vs k):=by
 unfold KV at r;induction r with
 | nil=>exact True.intro
 | @cons p q ps qs h t ih =>
  obtain⟨h1,h2⟩:=h;by_cases e:p.1=k
  ·have e':q.1=k:=h1.symm.trans e
   have b:valueAt (q::qs) k=some q.2:=by simp[valueAt,yt,e']
   rw[valV_pos e,b];exact h2
  ·have e':¬ q.1=k:=fun z=>e (h1.trans z)
   have b:valueAt (q::qs) k=valueAt qs k:=by simp[valueAt,yt,e']
   rw[valV_neg e,b];exact ih
theorem KV.any {kvs:List (κ×V)}{vs:List (κ×Value)}(r:KV kvs vs)(k:κ):(kvs.any fun kv=>decide (kv.1=k))=vs.any fun kv=>decide (kv.1=k):=by
 unfold KV at r;induction r with
 | nil=>rfl
 | cons h t ih=>rw[xx,xx,ih,h.1]
theorem KV.repl {kvs:List (κ×V)}{vs:List (κ×Value)}(r:KV kvs vs)(k:κ){y:V}{u:Value}(ry:RelV y u) :
  KV (kvs.map fun kv=>if kv.1=k then (kv.1,y) else kv) (vs.map fun kv=>if kv.1=k then (kv.1,u) else kv):=by
 unfold KV at r ⊢;induction r with
 | nil=>exact .nil
 | @cons p q ps qs h t ih =>
  rw[ze,ze];refine .cons ?_ ih;obtain⟨h1,h2⟩:=h;by_cases e:p.1=k
  ·rw[if_pos e,if_pos (h1.symm.trans e)];exact⟨h1,ry⟩
  ·rw[if_neg e,if_neg (fun z=>e (h1.trans z))];exact⟨h1,h2⟩
theorem KV.put {kvs:List (κ×V)}{vs:List (κ×Value)}(r:KV kvs vs)(k:κ){y:V}{u:Value}(ry:RelV y u):KV (putK kvs k y) (stored vs k u):=by
 unfold putK stored;rw[r.any k];by_cases e:(vs.any fun kv=>decide (kv.1=k))=true
 ·rw[if_pos e,if_pos e];exact r.repl k ry
 ·rw[if_neg e,if_neg e];exact Paired.snoc r ⟨rfl,ry⟩
theorem KV.length {kvs:List (κ×V)}{vs:List (κ×Value)}(r:KV kvs vs):kvs.length=vs.length:=Paired.length r
end
theorem kV_is {P:Program}{w:World}{k:Key}{u:Value}(r:RelV (kV k) u):(mixKind P w).is k u=true:=by
 cases k with
 | inl i=>obtain⟨t,e⟩:=(show ∃ t,u=Value.int i t from r);subst e;exact mixKind_int P w i t
 | inr x=>obtain⟨t,e⟩:=(show ∃ t,u=Value.str x t from r);subst e;exact mixKind_str P w x t
theorem items_are {P:Program}{w:World}:∀ {ks:List Key} {us:List Value},Vals (ks.map kV) us->ItemsAre (mixKind P w) ks us
 | [],_,r=>by rw[yO]at r;cases r;exact .nil
 | k::ks,_,r=>by
  rw[ze]at r;cases r with
  | cons h t=>exact .cons (kV_is h) (items_are t)
abbrev KT (H:Hp):List (List Key×V)->List (List Key×Addr×Value)->Prop:=Paired fun p q=>p.1=q.1/\H q.2.1=some (.tup (p.1.map kV))/\RelV p.2 q.2.2
theorem KT.val {H:Hp}{kvs:List (List Key×V)}{xs:List (List Key×Addr×Value)}(r:KT H kvs xs)(k:List Key):RelO (valV kvs k) ((atKey xs k).map (·.2)):=by
 induction r with
 | nil=>exact True.intro
 | @cons p q ps qs h t ih =>
  obtain⟨h1,_,h2⟩:=h;by_cases e:p.1=k
  ·have e':q.1=k:=h1.symm.trans e
   have b:atKey (q::qs) k=some q.2:=by simp[atKey,yt,e']
   rw[valV_pos e,b];exact h2
  ·have e':¬ q.1=k:=fun z=>e (h1.trans z)
   have b:atKey (q::qs) k=atKey qs k:=by simp[atKey,yt,e']
   rw[valV_neg e,b];exact ih
theorem KT.repl {H:Hp}{kvs:List (List Key×V)}{xs:List (List Key×Addr×Value)}(r:KT H kvs xs)(k:List Key){y:V}{u:Value}(ry:RelV y u) :
  KT H (kvs.map fun kv=>if kv.1=k then (kv.1,y) else kv) (xs.map (putAt k u)):=by
 induction r with
 | nil=>exact .nil
 | @cons p q ps qs h t ih =>
  rw[ze,ze];refine .cons ?_ ih;obtain⟨h1,h2,h3⟩:=h;unfold putAt;by_cases e:p.1=k
  ·rw[if_pos e,if_pos (h1.symm.trans e)];exact⟨h1,h2,ry⟩
  ·rw[if_neg e,if_neg (fun z=>e (h1.trans z))];exact⟨h1,h2,h3⟩
theorem KT.put {H:Hp}{kvs:List (List Key×V)}{xs:List (List Key×Addr×Value)}(r:KT H kvs xs)(k:List Key){b:Addr}{y:V}{u:Value}(hb:H b=some (.tup (k.map kV)))(ry:RelV y u) :
  KT H (putK kvs k y) (storedH xs k b u):=by
 have e:(kvs.any fun kv=>decide (kv.1=k))=(atKey xs k).isSome:=by
  rw[valV_any,(r.val k).isSome_eq,xa]
 unfold putK storedH;rw[e];by_cases q:(atKey xs k).isSome=true
 ·rw[if_pos q,if_pos q];exact r.repl k ry
 ·rw[if_neg q,if_neg q];exact Paired.snoc r ⟨rfl,hb,ry⟩
theorem KT.keeps {H H':Hp}{kvs:List (List Key×V)}{xs:List (List Key×Addr×Value)}(r:KT H kvs xs)(ht:∀ b ys,H b=some (.tup ys)->H' b=some (.tup ys)):KT H' kvs xs :=
 Paired.mapP r fun _ _ z=>⟨z.1,ht _ _ z.2.1,z.2.2⟩
section
variable {P:Program}{w:World}{H:Hp}{h:Heap}{a:Addr}
theorem rd_of {u:HO}(ok:HOk P w H h)(e:Rd H a u):ObjOk P w H h a u:=e.ok ok
theorem dk_rd {kvs:List (Key×V)}(ok:HOk P w H h)(e:Rd H a (.dK kvs)):kvs.length<=zh/\(a==sysModules)=false/\∃ vs,KV kvs vs/\h.DictOf (mixKind P w) a vs :=
 show ObjOk P w H h a (.dK kvs) from rd_of ok e
theorem dk_of {kvs:List (Key×V)}(ok:HOk P w H h)(e:H a=some (.dK kvs)):kvs.length<=zh/\(a==sysModules)=false/\∃ vs,KV kvs vs/\h.DictOf (mixKind P w) a vs:=dk_rd ok (.inl e)
theorem key_of {ks:List Key}(ok:HOk P w H h)(e:H a=some (.tup (ks.map kV))):(tupleKind (mixKind P w)).is h ks a:=by
 obtain⟨_,its,r,⟨o,h1,h2,n,h3⟩,_⟩:=(show ObjOk P w H h a (.tup (ks.map kV)) from ok a _ e);exact⟨o,its.toArray,n,h1,h2,h3,by simpa using items_are r⟩
theorem dt_rd {kvs:List (List Key×V)}(ok:HOk P w H h)(e:Rd H a (.dT kvs)):kvs.length<=zh/\(a==sysModules)=false /\
  ∃ xs,KT H kvs xs/\h.DictOfH (tupleKind (mixKind P w)) a xs:=by
 obtain⟨z,y,xs,r,o,es,ep,h1,h2,h3,h4,h5⟩:=(show ObjOk P w H h a (.dT kvs) from rd_of ok e);refine⟨z,y,xs,r,o,es,ep,h1,h2,h3,h4,fun x hx=>?_,h5⟩;have all:∀ {l:List (List Key×V)} {m:List (List Key×Addr×Value)},KT H l m->∀ x∈m,(tupleKind (mixKind P w)).is h x.1 x.2.1:=by
  intro l m q;induction q with
  | nil=>intro x hx;exact nomatch hx
  | @cons p q ps qs hq t ih =>
   intro x hx;rcases zN.mp hx with e | hx
   ·subst e
    exact key_of ok (by rw[<- hq.1];exact hq.2.1)
   ·exact ih x hx
 exact all r x hx
theorem dt_of {kvs:List (List Key×V)}(ok:HOk P w H h)(e:H a=some (.dT kvs)):kvs.length<=zh/\(a==sysModules)=false /\
  ∃ xs,KT H kvs xs/\h.DictOfH (tupleKind (mixKind P w)) a xs:=dt_rd ok (.inl e)
end
def DGet (H:Hp)(a:Addr)(y:V)(r:Option V):Prop :=
 (∃ kvs k,Rd H a (.dK kvs)/\y=kV k/\r=valV kvs k)\/∃ kvs k b,Rd H a (.dT kvs)/\y=.ref b/\H b=some (.tup (k.map kV))/\r=valV kvs k
def DPut (H:Hp)(a:Addr)(y v:V)(H':Hp):Prop :=
 (∃ kvs k,H a=some (.dK kvs)/\y=kV k/\kvs.length < zh/\H'=upd H a (.dK (putK kvs k v))) \/
 ∃ kvs k b,H a=some (.dT kvs)/\y=.ref b/\H b=some (.tup (k.map kV))/\kvs.length < zh/\H'=upd H a (.dT (putK kvs k v))
theorem DGet.k {H:Hp}{a:Addr}{kvs:List (Key×V)}{k:Key}(e:H a=some (.dK kvs)):DGet H a (kV k) (valV kvs k):=.inl ⟨kvs,k,.inl e,rfl,rfl⟩
theorem DPut.k {H:Hp}{a:Addr}{kvs:List (Key×V)}{k:Key}{v:V}(e:H a=some (.dK kvs))(hl:kvs.length < zh):DPut H a (kV k) v (upd H a (.dK (putK kvs k v))):=.inl ⟨kvs,k,e,rfl,hl,rfl⟩
section
variable {X:Cx}{pins:List (Addr×Obj)}{σ:St}{H:Hp}{s:Shared}{a:Addr}{y v:V}{u r:Value}{o:Option V}{A:Around}{E:Value->Shared->Prop}
theorem Inv.big (I:Inv X pins σ H s):sysModules < s.heap.objs.size:=by
 have h:mainGlobals < s.heap.objs.size:=(I.mod.glob.keeps I.bk).lt;exact wS (by decide) h
theorem d_getItem {Q:Value->Shared->Prop}(hu:A.units + 1 < cLine)(I:Inv X pins σ H s)(g:DGet H a y (some v))(ry:RelV y u)(h:∀ w' s',Inv X pins σ H s'->RelV v w'->Q w' s') :
  wpAny (model X.prog X.w) A (getItem (.ref a) u) Q E s:=by
 rcases g with ⟨kvs,k,e,ey,l⟩|⟨kvs,k,b,e,ey,eb,l⟩
 ·subst ey
  obtain⟨z,hd,vs,rel,dd⟩:=dk_rd I.hok e;obtain⟨w',hw,rw'⟩:=RelO.some_of (v:=v) (o:=valueAt vs k) (by rw[l];exact rel.val k);exact wpAny_getItem_of (kV_is ry) dd.mapOf hw (h w' _ (I.tok _) rw')
 ·subst ey
  cases (show u=Value.ref b from ry);obtain⟨z,hd,xs,rel,dd⟩:=dt_rd I.hok e;obtain⟨w',hw,rw'⟩:=RelO.some_of (v:=v) (o:=(atKey xs k).map (·.2)) (by rw[l];exact rel.val k);obtain⟨p,hp,hp2⟩:=zt.mp hw;refine wpAny_getItem_heap (tupleKind_room_in1 hu) (key_of I.hok eb) dd hp ?_;rw[hp2];exact h w' _ (I.tok _) rw'
theorem d_in {Q:Value->Shared->Prop}(hu:A.units + 1 < cLine)(I:Inv X pins σ H s)(g:DGet H a y o)(ry:RelV y u)(h:∀ s',Inv X pins σ H s'->Q (.bool o.isSome) s') :
  wpAny (model X.prog X.w) A (compareOp .In u (.ref a)) Q E s:=by
 rcases g with ⟨kvs,k,e,ey,l⟩|⟨kvs,k,b,e,ey,eb,l⟩
 ·subst ey
  obtain⟨z,hd,vs,rel,dd⟩:=dk_rd I.hok e;refine wpAny_in_of (kV_is ry) hd dd.mapOf ?_;rw[<- (rel.val k).isSome_eq,<- l];exact h _ (I.tok _)
 ·subst ey
  cases (show u=Value.ref b from ry);obtain⟨z,hd,xs,rel,dd⟩:=dt_rd I.hok e;refine wpAny_in_heap (tupleKind_room_in1 hu) (key_of I.hok eb) hd dd ?_;have q:=(rel.val k).isSome_eq;rw[xa]at q;rw[<- q,<- l];exact h _ (I.tok _)
theorem d_notIn {Q:Value->Shared->Prop}(hu:A.units + 1 < cLine)(I:Inv X pins σ H s)(g:DGet H a y o)(ry:RelV y u)(h:∀ s',Inv X pins σ H s'->Q (.bool (!o.isSome)) s') :
  wpAny (model X.prog X.w) A (compareOp .NotIn u (.ref a)) Q E s:=by
 rcases g with ⟨kvs,k,e,ey,l⟩|⟨kvs,k,b,e,ey,eb,l⟩
 ·subst ey
  obtain⟨z,hd,vs,rel,dd⟩:=dk_rd I.hok e;refine wpAny_notIn_of (kV_is ry) hd dd.mapOf ?_;rw[<- (rel.val k).isSome_eq,<- l];exact h _ (I.tok _)
 ·subst ey
  cases (show u=Value.ref b from ry);obtain⟨z,hd,xs,rel,dd⟩:=dt_rd I.hok e;refine wpAny_notIn_heap (tupleKind_room_in1 hu) (key_of I.hok eb) hd dd ?_;have q:=(rel.val k).isSome_eq;rw[xa]at q;rw[<- q,<- l];exact h _ (I.tok _)
theorem d_write {h':Heap}{t':Nat}{ob:HO}(I:Inv X pins σ H s)(mu:Mut (H a))(hs:Heap.SameBut a s.heap h')(he:∃ q,h'.get? a=some q)(new:ObjOk X.prog X.w (upd H a ob) h' a ob) :
  Inv X pins σ (upd H a ob) { s with heap:=h',toks:=t' } :=
 I.write (x:=a) (e:=a) mu (.inl rfl) (fun b q hb z=>(hs.2 b hb).trans z) he new
theorem dk_new {P:Program}{w:World}{H':Hp}{h':Heap}{kvs:List (Key×V)}{vs:List (Key×Value)}(z:kvs.length<=zh)(hd:(a==sysModules)=false)(rel:KV kvs vs)(dd:h'.DictOf (mixKind P w) a vs) :
  ObjOk P w H' h' a (.dK kvs):=⟨z,hd,vs,rel,dd⟩
theorem d_setItem {H':Hp}{Q:Unit->Shared->Prop}(hu:A.units + 1 < cLine)(I:Inv X pins σ H s)(g:DPut H a y v H')(ry:RelV y u)(rv:RelV v r)(h:∀ s',Inv X pins σ H' s'->Q () s') :
  wpAny (model X.prog X.w) A (setItem (.ref a) u r) Q E s:=by
 rcases g with ⟨kvs,k,e,ey,l,eH⟩|⟨kvs,k,b,e,ey,eb,l,eH⟩
 ·subst ey eH
  obtain⟨z,hd,vs,rel,dd⟩:=dk_of I.hok e;have hz:vs.length<=zh:=by rw[<- rel.length];exact z
  have hl:(putK kvs k v).length<=zh:=by have:=length_putK kvs k v;omega
  refine wpAny_setItem_pairs (hsz:=hz) (kV_is ry) dd fun h' dd' hs=>h _ ?_;have he:∃ q,h'.get? a=some q:=let ⟨q,_,_,hq,_⟩:=dd';⟨q,hq⟩;exact d_write I (by rw[e];exact True.intro) hs he (dk_new hl hd (rel.put k rv) dd')
 ·subst ey eH
  cases (show u=Value.ref b from ry);obtain⟨z,hd,xs,rel,dd⟩:=dt_of I.hok e;have hz:xs.length<=zh:=by rw[<- Paired.length rel];exact z
  have hl:(putK kvs k v).length<=zh:=by have:=length_putK kvs k v;omega
  refine wpAny_setItem_heap (hsz:=hz) (tupleKind_room_in1 hu) (key_of I.hok eb) dd fun h' dd' hs=>h _ ?_;obtain⟨q,es,ep,hq,h2,h3,h4,_,h5⟩:=dd';refine d_write I (by rw[e];exact True.intro) hs ⟨q,hq⟩ ⟨hl,hd,_,(rel.put k eb rv).keeps fun c ys ec=>?_,q,es,ep,hq,h2,h3,h4,h5⟩;rw[upd_ne (ne_of ec e (fun z=>nomatch z))];exact ec
end
section
variable {X:Cx}{pins:List (Addr×Obj)}{σ:St}{H:Hp}{s:Shared}{a:Addr}{kvs:List (Key×V)}{k:Key}{u:Value}{A:Around}{E:Value->Shared->Prop}
theorem d_len {Q:Value->Shared->Prop}(I:Inv X pins σ H s)(e:Rd H a (.dK kvs))(h:∀ t s',Inv X pins σ H s'->Q (.int kvs.length t) s'):wpAny (model X.prog X.w) A (call (.builtin "len") [.ref a]) Q E s:=by
 obtain⟨z,hd,vs,rel,dd⟩:=dk_rd I.hok e;refine call_len_dict hd dd (by rw[<- rel.length];rw[sizeLine_eq]at z;omega) ?_;rw[<- rel.length];exact h _ _ (I.tok _)
end
theorem dict_typeIs {X:Cx}{pins:List (Addr×Obj)}{σ:St}{H:Hp}{s:Shared}{a:Addr}{y:V}{o:Option V}(I:Inv X pins σ H s)(g:DGet H a y o):s.TypeIs (.ref a) "dict":=by
 rcases g with ⟨kvs,k,e,_,_⟩|⟨kvs,k,b,e,_,_,_⟩
 ·obtain⟨_,_,vs,_,dd⟩:=dk_rd I.hok e
  exact dd.typeIs
 ·obtain⟨_,_,xs,_,dd⟩:=dt_rd I.hok e
  exact dd.typeIs
section
variable {X:Cx}{o i e value:Expr}{pos pos' tpos:Pos}{td ty tv:TE}
end
theorem dk_empty {P:Program}{w:World}{H:Hp}(h:Heap)(hb:sysModules < h.objs.size):ObjOk P w H (h.push { cls:=.type "dict",data:=.dict #[] }) h.objs.size (.dK []) :=
 ⟨zO _,beq_eq_false_iff_ne.mpr (Ne.symm (zE hb)),[],.nil,Heap.DictOf.new h⟩
def tDNewK:TE:=fun _ H Q=>∀ p,H p=none->Q (.ref p) (upd H p (.dK []))
section
variable {X:Cx}{pos:Pos}
theorem pe_dnewK:PE X (.Dict [] [] pos) tDNewK:=fun pins s σ H Q I h =>
 wpAny_Dict_empty ⟨.ref s.heap.objs.size,_,I.laid (a:=s.heap.objs.size) (o:=.dK []) (t':=s.toks) (fun _ _ q=>zb _ q) (zo _) (dk_empty s.heap I.big),rfl,h _ (I.hok.fresh (zo _))⟩
end
section
variable {X:Cx}{pins:List (Addr×Obj)}{σ:St}{H:Hp}{s:Shared}{a:Addr}{y d:V}{u r:Value}{o:Option V}{A:Around}{E:Value->Shared->Prop}
end
section
variable {X:Cx}{o e f:Expr}{apos cpos:Pos}{td ty tx:TE}
end
section
variable {X:Cx}{pins:List (Addr×Obj)}{σ:St}{H:Hp}{s:Shared}{a:Addr}{kvs:List (Key×V)}{A:Around}{E:Value->Shared->Prop}
end
section
variable {X:Cx}{pins:List (Addr×Obj)}{σ:St}{H:Hp}{s:Shared}{a:Addr}{y:V}{u:Value}{A:Around}{E:Value->Shared->Prop}
end
end L2
namespace Att
open PySem PySem.W PySem.Calls PyProof.Rows
theorem ints_of_wellAll {P:Params}{h:Heap}:∀ (ns:List Int) (vs:List Value),WellAll P h vs (ns.map WData.int)->IntsAre vs ns:=by
 intro ns;induction ns with
 | nil =>
  intro vs w;rw[yO]at w;cases w;exact .nil
 | cons n ns ih =>
  intro vs w;rw[ze]at w;cases w with
  | cons a b =>
   cases a;exact .cons _ _ (ih _ b)
theorem script_of {l:OpenLaw}{n:Nat}(hn:l.most=some n){P:Params}{h:Heap}{args:List WData}{vals:List Value}
  (hpre:l.row.toRowW.claim.pre args=true) (hwl:WellAll P h vals args) :
  ∃ a vs ns,vals=[Value.ref a]/\args=[WData.list (ns.map WData.int)]/\h.get? a=some { cls:=.type "list",data:=.seq vs.toArray }/\IntsAre vs ns/\ns.length<=n:=by
 have hsh:WShape.hasAll [] args [.list .int]=true:=(pre_splitW hpre).1;have hc:l.pre.holds [] { args:=args }=true:=(pre_splitW hpre).2;obtain⟨d,r,rfl,h1,h2⟩:=hasAllW_cons hsh;obtain rfl:=hasAllW_nil h2;obtain⟨xs,rfl,h3⟩:=hasW_list h1;obtain⟨ns,rfl⟩:=items_int h3;have hlen:ns.length<=n:=by
  unfold OpenLaw.pre at hc;have h4:(WTm.not (.lt (.lit (.int (n:Int))) (.len (.arg 0)))).holds [] { args:=[.list (ns.map .int)] }=true:=by
   have h4:=(holds_andW hc).1;rw[hn]at h4;exact h4
  have h5:=condW_of h4 (w_not (w_lt w_lit (w_len_list (w_arg rfl))));rw[zz]at h5;refine wY fun q=>?_;have q':(n:Int) < ((ns.length:Nat):Int):=by first | lia | omega
  first
   | (rw[decide_eq_true q']at h5;exact absurd h5 (by decide))
   | (simp at h5;omega)
 cases hwl with
 | cons w1 w2 =>
  cases w2;cases w1 with
  | list ho hall=>exact⟨_,_,ns,rfl,rfl,ho,ints_of_wellAll ns _ hall,hlen⟩
theorem post_true (l:OpenLaw)(args:List WData):l.row.toRowW.claim.post args (.bool true) args=true :=
 postW_of (r:=l.row.toRowW) (X:=(true==true))
  (show WShape.has [] (.bool true) .bool=true by first | rfl | decide | simp[WShape.has,WShape.arms,WShape.armsAll])
  (show (WTm.eq .res (.lit (.bool true))).value [] { args:=args,res:=some (.bool true),after:=args }=some (.bool (true==true)) from w_eq_bool (w_res rfl) w_lit) rfl
theorem attach_call {l:OpenLaw}{n:Nat}{q:Program}{loose:List Str}{XP:(Str->Option Value)->Heap->Prop}{YP:World->Heap->Prop}{d:DefRec}
  (hn:l.most=some n) (hdf:d.params.defaults=[])
  (call:∀ (w:World) (s₀ s₁:Shared) (mg mb:Str->Option Value) (fa:Addr) (o:Obj) (pm cd doc:Value) (a:Addr) (vs:List Value) (ns:List Int),
   Ground q loose [] XP w s₀ mg mb s₁.heap->YP w s₁.heap ->
   s₁.heap.get? fa=some o->o.data=.func (docDef d.name d.params d.body d.scope pm cd doc)->s₁.heap.CodeRec cd d.name->mg d.name=some (.ref fa) ->
   s₁.heap.get? a=some { cls:=.type "list",data:=.seq vs.toArray }->IntsAre vs ns->ns.length<=n->s₁.gens = #[] ->
   codeAny (model l.prog w) callerA (.call (.ref fa) ⟨[.ref a],[]⟩) (fun r s'=>r=.ok (.ret (.bool true))/\OldK s₁.heap s'.heap/\s'.os=s₁.os/\AllBare s'.gens) s₁) :
  WalkO q loose XP YP l.row.toRowW d [] (fun f vs=>PySem.call f vs):=by
 intro w s₀ s₁ mg mb G Y fa o pm cd doc dV kV ho hd hcd hD hmg hg args vals as hpre hlay hrd hwl hlo;obtain rfl:dV=.none:=Dflts.none hD hdf;obtain rfl:kV=.none:=Dflts.noKw hD;obtain⟨a,vs,ns,rfl,rfl,hobj,hints,hlen⟩:=script_of hn hpre hwl;refine enter_call (codeAny_mono (call w s₀ s₁ mg mb fa o pm cd doc a vs ns G Y ho (fd_plain hd) hcd hmg hobj hints hlen hg) fun r s' hq=>?_);obtain⟨rfl,h2,h3,h4⟩:=hq;exact⟨.inl ⟨.bool true,.bool true,[],rfl,fun _=>rfl,.bool true,post_true l _,fun _=>⟨List.Pairwise.nil,fun _ hm=>(nomatch hm)⟩⟩,h2,h3,h4⟩
section
variable {prog:Program}{w:World}{A:Around}{E:Value->Shared->Prop}{s:Shared}{K:Frag}
end
end Att
namespace L2
open PySem PySem.Spec PyProof.Rows
theorem vals_ints:∀ {vs:List Value} {ns:List Int},IntsAre vs ns->Vals (ns.map V.int) vs
 | _,_,.nil=>.nil
 | _,_,.cons n t h=>.cons ⟨t,rfl⟩ (vals_ints h)
def Only (H:Hp):Prop:=∀ b,H b=none\/∃ o xs,H b=some (.frz o (.lst xs))
theorem law_call {P:Program}{w:World}{K:PySem.W.Frag}{mg mb:Str->Option Value}{CX:CXT}{k:Nat}{fa a:Addr}{fd:FuncData}{x:Str}{sp:Sp}{s₁:Shared}{vs:List Value}{ns:List Int}
  (KX:K.In s₁.heap) (hns:s₁.heap.Ns mainGlobals mg) (hb:s₁.heap.Ns builtinsNs mb) (hbb:∀ x:Str,x≠"__name__"->mb x=bootBuiltins x) (hlim:s₁.heap.NoLimit) (hg:s₁.gens = #[])
  (ha:s₁.heap.get? a=some { cls:=.type "list",data:=.seq vs.toArray }) (hi:IntsAre vs ns) (hl:ns.length<=zh) (hr:Room k callerA)
  (F:∀ base:Heap,K.In base->base.Ns mainGlobals mg->FnOk P w K mg base CX k fa fd [x] sp) (hbind:∀ (s:Shared) (u:Value),BindsTo s fd ⟨[u],[]⟩ [(x,u)])
  (hsp:∀ H:Hp,Only H->SqL K H a (ns.map V.int)->sp [.ref a] H (fun v _=>v=.bl true) fun _ _ _=>False)
  (hCX:∀ H e s',CX [] H s₁ (fun _ _ _=>False) e s'->False) :
  codeAny (model P w) callerA (.call (.ref fa) ⟨[.ref a],[]⟩) (fun r s'=>r=.ok (.ret (.bool true))/\OldK s₁.heap s'.heap/\s'.os=s₁.os/\AllBare s'.gens) s₁:=by
 have rv:=vals_ints hi;have lenV:=hi.length;have core:∀ H:Hp,Only H->SqL K H a (ns.map V.int)->HOk P w H s₁.heap->(∀ b,H b≠none->b=a)->(H a≠none->K.lookup a=none) ->
   codeAny (model P w) callerA (.call (.ref fa) ⟨[.ref a],[]⟩) (fun r s'=>r=.ok (.ret (.bool true))/\OldK s₁.heap s'.heap/\s'.os=s₁.os/\AllBare s'.gens) s₁:=by
  intro H hO hS hok hA hK;have base_of:∀ {b:Addr} {o:Obj},s₁.heap.get? b=some o->H b=none->(hidT s₁.heap H).get? b=some o:=fun e n=>hidT_get e n;have noA:∀ {b:Addr} {o:Obj} {es:Array DictEntry} {ep:Nat},s₁.heap.get? b=some o->o.data=.dict es ep->H b=none:=fun {b o es ep} e d=>by
   cases q:H b with
   | none=>rfl
   | some u =>
    have e':b=a:=hA b (by rw[q];simp);subst e';rw[ha]at e;cases e;have d':Data.seq vs.toArray _=Data.dict es ep:=d;cases d'
  have nsK:∀ {b:Addr} {m:Str->Option Value},s₁.heap.Ns b m->(hidT s₁.heap H).Ns b m:=fun {b m} ⟨o,es,ep,e,d,r⟩=>⟨o,es,ep,base_of e (noA e d),d,r⟩;have hKb:K.In (hidT s₁.heap H):=fun b o e=>base_of (KX b o e) (by
   cases q:H b with
   | none=>rfl
   | some u =>
    have e':b=a:=hA b (by rw[q];simp);subst e';rw[hK (by rw[q];simp)]at e;cases e)
  have hM:Mod K mg (hidT s₁.heap H):=⟨hKb,nsK hns,⟨mb,nsK hb,hbb⟩,let ⟨mc,h1,h2⟩:=hlim;⟨mc,nsK h1,h2⟩⟩;have e0:Env0 P w K mg (hidT s₁.heap H) callerA [] s₁ H:=⟨rfl,hM,fun b o e=>of_hidT e,yY (hidT_size _ _),trivial,fun b hb=>absurd (show b∈([]:List Addr) from hb) (by simp),hok,.of_eq hg⟩;refine codeAny_mono ((F _ hKb (nsK hns)).run callerA [] s₁ H ⟨[.ref a],[]⟩ [.ref a] [.ref a] _ _ hr e0 (hbind s₁ (.ref a)) (.cons rfl .nil) (hsp H hO hS)) fun r s' h=>?_;cases r with
  | error e=>exact(hCX H e s' h).elim
  | ok fl =>
   cases fl with
   | next=>exact False.elim h
   | brk=>exact False.elim h
   | cont=>exact False.elim h
   | ret u =>
    obtain⟨v,H',os,bare,un,hok',r',q⟩:=h;have q':v=.bl true:=q;subst q';obtain rfl:u=Value.bool true:=r';refine⟨rfl,OldK.of_keep fun b o e=>?_,os,bare⟩;cases q:H b with
    | none=>exact un.keep b o e q (by intro z;exact absurd (show b∈([]:List Addr) from z) (by simp)) (by simp)
    | some u =>
     rcases hO b with z | ⟨ob,xs,z⟩
     ·rw[q]at z;cases z
     ·have z2:=un.frzs b ob _ z
      obtain⟨e1,_⟩:=hok b _ z;obtain⟨e2,_⟩:=hok' b _ z2;rw[e]at e1;cases e1;exact e2
 cases hk:K.lookup a with
 | some o =>
  have e:=KX a o hk;rw[ha]at e;cases e;refine core (fun _=>none) (fun _=>.inl rfl) (.inr ⟨_,vs.toArray,_,hk,rfl,rfl,rfl,by rw[zf,lenV];exact hl,by simpa using rv⟩) (fun b u z=>by have z':(none:Option HO)=some u:=z;cases z') (fun b z=>absurd rfl z) fun z=>absurd rfl z
 | none =>
  refine core (fun b=>if b=a then some (.frz { cls:=.type "list",data:=.seq vs.toArray } (.lst (ns.map V.int))) else none) (fun b=>?_) (.inl (.inr ⟨{ cls:=.type "list",data:=.seq vs.toArray },if_pos rfl⟩)) (fun b u z=>?_) (fun b z=>?_) fun _=>hk
  ·by_cases hb:b=a
   ·exact .inr ⟨_,_,if_pos hb⟩
   ·exact .inl (if_neg hb)
  ·by_cases hb:b=a
   ·have z':=(if_pos hb).symm.trans z
    cases z';subst hb;exact⟨ha,by rw[zz];exact hl,vs,_,rv,ha⟩
   ·have z':=(if_neg hb).symm.trans z
    cases z'
  ·by_cases hb:b=a
   ·exact hb
   ·exact absurd (if_neg hb) z
end L2
namespace L2
open PySem PySem.Spec PyProof.Rows
end L2
/- THE LAST THEOREM (shape;LID,My.* are yours):
   My.Adr: a structure of the addresses that your layer names (classes,functions);My.Txt K t: a structure (Prop) of the equations over K;
   My.txt_mk:{K} {implicit addresses ..} (e1:nsIn K mainGlobals "law" = some (some (.ref f))) (e2:K.lookup f=some ⟨oc,od,.func (fnOf "law" "law" params body scope dV kV doc pm an cdv ct),sl⟩) (e3:codeIn K cdv "law" = true) .. : ∃ t,My.Txt K t
set_option maxRecDepth 100000 in
set_option maxHeartbeats 0 in
theorem PySem.Challenge.cw_LID_holds:PySem.Challenge.rw_LID.Holds:=by
 w_on;o_law;k_head;(case hw=>w_witness2)
 k_fill
 refine L2.walk_of (l:=PySem.Challenge.rw_LID) (n:=63) (k:=40) (x:="script") (CX:=fun w=>..) (sp:=fun _=>My.sp_law) rfl (by decide) rfl ⟨rfl,by decide,by decide⟩ (fun w h Y=>PySem.W.kIn_of Y) ?F ?S ?C
 case F =>
  intro w mg fa h KX G hmg;have T:∃ t,My.Txt (L2.KOf KX) t:=by
   dsimp only[L2.KOf]                          -- K must stand as «<heap const> w.params» for k_is
   refine' My.txt_mk ?e1 ?e2 ?e3 ..
   (case e1=>PySem.W.k_is)                    -- in the order: a name -> its address -> its object -> its parts
   (case e2=>PySem.W.k_is)
   ..
  obtain⟨t,T⟩:=T;have e0:=hmg.symm.trans (PySem.W.mg_of KX G T.law);cases e0                                       -- fa is the law's own address
  exact⟨_,fun s u=>.of_eq rfl,fun base kb nb=>My.law_fn T kb nb⟩     -- if «.of_eq rfl» comes too early: refine' ⟨_,?b,fun base kb nb=>My.law_fn T kb nb⟩;exact fun s u=>.of_eq rfl
 case S=>exact fun w H a ns hl hO hS=>..
 case C=>exact ..
(the tactic k_is has no namespace: write k_is) -/
namespace L2
open PySem PySem.Spec PyProof.Rows
def defArgs (s:Stmt):Arguments:=match s with
 | .FunctionDef _ a _ _ _ _ _ _ _ _=>a
 | _=>{ posonlyargs:=[],args:=[],vararg:=none,kwonlyargs:=[],kw_defaults:=[],kwarg:=none,defaults:=[] }
def defBody (s:Stmt):List Stmt:=match s with
 | .FunctionDef _ _ b _ _ _ _ _ _ _=>b
 | _=>[]
def defScope (s:Stmt):Scope:=match s with
 | .FunctionDef _ _ _ _ _ _ sc _ _ _=>sc
 | _=>{ kind:=.function,names:=[],isGenerator:=false,isCoroutine:=false }
abbrev CX0:CXT:=fun _ _ _ _ _ _=>False
abbrev E0:XK:=fun _ _ _=>False
theorem pass0 {X:Cx}:Passes CX0 X E0:=fun _ _ _ _ _ _ _ h=>h.elim
structure Fun (K:PySem.W.Frag) (x qual:Str) (st:Stmt) (f:Addr) (fd:FuncData):Prop where
 ex:∃ (oc:Value) (od:Option Addr) (kV doc pm:Value) (an:Option Addr) (cdv ct:Value) (osl:Array (Option Value)),
  fd=PySem.W.fnOf x qual (defArgs st) (defBody st) (defScope st) .none kV doc pm an cdv ct/\K.lookup f=some ⟨oc,od,.func fd,osl⟩/\PySem.W.codeIn K cdv qual=true
 kp:PySem.W.keepIn K (.ref f)=true
section
variable {P:Program}{w:World}{K:PySem.W.Frag}{mg:Str->Option Value}{base:Heap}
theorem Fun.ok {x qual:Str}{st:Stmt}{f:Addr}{fd:FuncData}{N ps:List Str}{k:Nat}{sp:Sp}(F:Fun K x qual st f fd)(S:FnScope N ps (defScope st))(len:∀ vs H Q E,sp vs H Q E->vs.length=ps.length)
  (hbody:∀ (cdv:Value) (A:Around) (outer:List Env) (s:Shared) (H:Hp) (vs:List V) (Q:VK) (E:XK),Room k (A.deeper (envOfC qual (defScope st) s.heap.objs.size f cdv))->sp vs H Q E ->
   ∃ t,PSs (cxOf CX0 P w K mg base N qual (defScope st) f cdv A outer s H E).nox (defBody st) t/\t { nx:=fun _ H'=>Q .non H',rt:=Q } (start N vs) H):FnOk P w K mg base CX0 (k + 1) f fd ps sp:=by
 obtain⟨oc,od,kV,doc,pm,an,cdv,ct,osl,rfl,lk,hcd⟩:=F.ex;refine fn_of lk hcd S len fun A outer s H vs Q E hr hsp=>?_;obtain⟨t,h,q⟩:=hbody cdv A outer s H vs Q E hr hsp;exact⟨t,h.nox,q⟩
theorem Fun.binds {x qual:Str}{st:Stmt}{f:Addr}{fd:FuncData}{ps:List Str}(F:Fun K x qual st f fd)
  (h:∀ (kV doc pm:Value) (an:Option Addr) (cdv ct:Value) (us:List Value),us.length=ps.length->bindArgs (PySem.W.fnOf x qual (defArgs st) (defBody st) (defScope st) .none kV doc pm an cdv ct) ⟨us,[]⟩=pure (ps.zip us)):Binds K fd ps []:=by
 obtain⟨oc,od,kV,doc,pm,an,cdv,ct,osl,rfl,lk,hcd⟩:=F.ex;exact .all (h kV doc pm an cdv ct)
theorem fun_mk {x qual:Str}{st:Stmt}{f:Addr}{oc:Value}{od an:Option Addr}{osl:Array (Option Value)}{kV doc pm cdv ct:Value}(l:K.lookup f=some ⟨oc,od,.func (PySem.W.fnOf x qual (defArgs st) (defBody st) (defScope st) .none kV doc pm an cdv ct),osl⟩)
  (c:PySem.W.codeIn K cdv qual=true) (k:PySem.W.keepIn K (.ref f)=true):Fun K x qual st f (PySem.W.fnOf x qual (defArgs st) (defBody st) (defScope st) .none kV doc pm an cdv ct):=⟨⟨oc,od,kV,doc,pm,an,cdv,ct,osl,rfl,l,c⟩,k⟩
end
section
variable {X:Cx}
end
end L2
set_option maxHeartbeats 4000000
namespace L3
open PySem
noncomputable abbrev Ky:=Sum Int Str
inductive D where
 | non | bl (b:Bool) | int (i:Int) | str (x:Str) | tup (ds:List D) | fl (ds:List D) | ob (i:Nat)
inductive MO where
 | lst (ds:List D)
 | dic (kvs:List (Ky×D))
 | dtt (kvs:List (List (List Ky)×D))
noncomputable abbrev MH:=List MO
inductive Out (α:Type) where
 | ok (a:α)
 | ex (c:Str) (ds:List D)
noncomputable def Mo (α:Type):=MH->Option (Out α×MH)
noncomputable def Mo.ret {α:Type}(a:α):Mo α:=fun M=>some (.ok a,M)
noncomputable def Mo.bind {α β:Type}(m:Mo α)(k:α->Mo β):Mo β:=fun M=>match m M with
 | none=>none
 | some (.ok a,M')=>k a M'
 | some (.ex c ds,M')=>some (.ex c ds,M')
noncomputable def Mo.stop {α:Type}:Mo α:=fun _=>none
noncomputable instance:Monad Mo where
 pure:=Mo.ret
 bind:=Mo.bind
theorem run_ret {α:Type}(a:α)(M:MH):(pure a:Mo α) M=some (.ok a,M):=rfl
theorem run_bind {α β:Type}(m:Mo α)(k:α->Mo β)(M:MH):(m >>= k) M=match m M with
 | none=>none
 | some (.ok a,M')=>k a M'
 | some (.ex c ds,M')=>some (.ex c ds,M'):=rfl
theorem bind_ok {α β:Type}{m:Mo α}{k:α->Mo β}{M M':MH}{b:β}(h:(m >>= k) M=some (.ok b,M')):∃ a M1,m M=some (.ok a,M1)/\k a M1=some (.ok b,M'):=by
 rw[run_bind]at h;split at h
 ·cases h
 ·rename_i a M1 e
  exact⟨a,M1,e,h⟩
 ·cases h
theorem ok_bind {α β:Type}{m:Mo α}{k:α->Mo β}{M M1:MH}{a:α}(h:m M=some (.ok a,M1)):(m >>= k) M=k a M1:=by
 rw[run_bind,h]
noncomputable abbrev Ev:=List (Option D)
noncomputable def getM (i:Nat):Mo MO:=fun M=>match M[i]? with
 | some o=>some (.ok o,M)
 | none=>none
noncomputable def newM (o:MO):Mo D:=fun M=>some (.ok (.ob M.length),M++[o])
noncomputable def putM (i:Nat)(o:MO):Mo Unit:=fun M=>if i < M.length then some (.ok (),M.set i o) else none
noncomputable def need (p:Prop)[Decidable p]:Mo Unit:=if p then pure () else Mo.stop
noncomputable def lift {α:Type}(o:Option α):Mo α:=match o with
 | some a=>pure a
 | none=>Mo.stop
noncomputable def getL (i:Nat):Mo (List D):=fun M=>match M[i]? with
 | some (.lst ds)=>some (.ok ds,M)
 | _=>none
noncomputable def getD (i:Nat):Mo (List (Ky×D)):=fun M=>match M[i]? with
 | some (.dic ds)=>some (.ok ds,M)
 | _=>none
noncomputable def getT (i:Nat):Mo (List (List (List Ky)×D)):=fun M=>match M[i]? with
 | some (.dtt ds)=>some (.ok ds,M)
 | _=>none
noncomputable def kyD:D->Option Ky
 | .int i=>some (.inl i)
 | .str x=>some (.inr x)
 | _=>none
noncomputable def kysD:List D->Option (List Ky)
 | []=>some []
 | d::r=>match kyD d,kysD r with
  | some k,some ks=>some (k::ks)
  | _,_=>none
noncomputable def kyP:D->Option (List Ky)
 | .tup ds=>kysD ds
 | _=>none
noncomputable def kysT:List D->Option (List (List Ky))
 | []=>some []
 | d::r=>match kyP d,kysT r with
  | some k,some ks=>some (k::ks)
  | _,_=>none
noncomputable def kyT:D->Option (List (List Ky))
 | .tup ds=>kysT ds
 | _=>none
noncomputable def tkGet (kvs:List (List (List Ky)×D))(k:List (List Ky)):Option D:=(kvs.find? fun kv=>decide (kv.1=k)).map (·.2)
noncomputable def tkPut (kvs:List (List (List Ky)×D))(k:List (List Ky))(v:D):List (List (List Ky)×D) :=
 if (kvs.any fun kv=>decide (kv.1=k))=true then kvs.map (fun kv=>if kv.1=k then (kv.1,v) else kv) else kvs++[(k,v)]
noncomputable def flatD:D->Bool
 | .non=>true | .bl _=>true | .int _=>true | .str _=>true | _=>false
noncomputable def eqF:D->D->Bool
 | .non,.non=>true
 | .bl a,.bl b=>a==b
 | .bl a,.int b=>(if a then 1 else 0)==b
 | .int a,.bl b=>a==(if b then 1 else 0)
 | .int a,.int b=>a==b
 | .str a,.str b=>a==b
 | _,_=>false
noncomputable def eqL (f:D->D->Option Bool):List D->List D->Option Bool
 | [],[]=>some true
 | [],_::_=>some false
 | _::_,[]=>some false
 | x::xs,y::ys=>match f x y with
  | none=>none
  | some b=>match eqL f xs ys with
   | none=>none
   | some c=>some (b&&c)
noncomputable def eqO (M:MH):Nat->D->D->Option Bool
 | 0,_,_=>none
 | n + 1,x,y=>match x,y with
  | .tup xs,.tup ys=>eqL (eqO M n) xs ys
  | .ob i,.ob j=>(match M[i]?,M[j]? with
   | some (.lst xs),some (.lst ys)=>if xs.length=ys.length then eqL (eqO M n) xs ys else some false
   | _,_=>none)
  | .tup _,y=>if flatD y=true then some false else none
  | x,.tup _=>if flatD x=true then some false else none
  | x,y=>if (flatD x&&flatD y)=true then some (eqF x y) else none
noncomputable def eqMo (x y:D):Mo Bool:=fun M=>match eqO M 20 x y with
 | some b=>some (.ok b,M)
 | none=>none
noncomputable def inL (M:MH)(x:D):List D->Option Bool
 | []=>some false
 | d::ds=>match eqO M 8 d x with
  | none=>none
  | some b=>match inL M x ds with
   | none=>none
   | some c=>some (b||c)
noncomputable def inMo (x:D)(ds:List D):Mo Bool:=fun M=>match inL M x ds with
 | some b=>some (.ok b,M)
 | none=>none
noncomputable def kvGet (kvs:List (Ky×D))(k:Ky):Option D:=(kvs.find? fun kv=>decide (kv.1=k)).map (·.2)
noncomputable def kvPut (kvs:List (Ky×D))(k:Ky)(v:D):List (Ky×D) :=
 if (kvs.any fun kv=>decide (kv.1=k))=true then kvs.map (fun kv=>if kv.1=k then (kv.1,v) else kv) else kvs++[(k,v)]
noncomputable def dK:Ky->D
 | .inl i=>.int i
 | .inr x=>.str x
noncomputable def sgn (c:Nat):D:=.str ⟨#[c]⟩
noncomputable def ixD (n:Nat)(i:Int):Option Nat:=if 0<=i then (if i < n then some i.toNat else none) else if -(n:Int)<=i then some (i + n).toNat else none
noncomputable def atD {α:Type}(xs:List α)(i:Int):Option α:=(ixD xs.length i).bind fun j=>xs[j]?
noncomputable def cutIx (n d:Nat):Option Int->Nat
 | none=>d
 | some v=>if v < 0 then (v + (n:Int)).toNat else min v.toNat n
noncomputable def cutD {α:Type}(xs:List α)(lo hi:Option Int):List α:=(xs.drop (cutIx xs.length 0 lo)).take (cutIx xs.length xs.length hi - cutIx xs.length 0 lo)
noncomputable def strOcc (j i:Str):Bool:=!(Builtin.Str.occurrences j i 0 j.length 1).isEmpty
noncomputable def repS (a:Str)(n:Nat):Str:=⟨(yF n a.cps).foldl (·++·) #[]⟩
noncomputable def opD (op:Operator)(x y:D):Mo D:=match op,x,y with
 | .Add,.int i,.int j=>pure (.int (i + j))
 | .Add,.str a,.str b=>do need (a.length + b.length<=zh);pure (.str (a++b))
 | .Add,.ob i,.ob j=>do
  let xs <- getL i
  let ys <- getL j
  need (xs.length + ys.length<=zh)
  newM (.lst (xs++ys))
 | .Add,.tup xs,.tup ys=>do need (xs.length + ys.length<=zh);pure (.tup (xs++ys))
 | .Sub,.int i,.int j=>pure (.int (i - j))
 | .Mult,.int i,.int j=>do need ((-(2 ^ 64) < i/\i < 2 ^ 64)\/(-(2 ^ 64) < j/\j < 2 ^ 64));pure (.int (i * j))
 | .FloorDiv,.int i,.int j=>do need (0 < j/\j < 1073741824);pure (.int (i / j))
 | .Mod,.int i,.int j=>do need (0 < j);pure (.int (i % j))
 | .Pow,.int i,.int j=>do need (0<=j/\j<=1000000/\i.natAbs < 2 ^ 64);pure (.int (i ^ j.toNat))
 | .Mult,.str a,.int j=>do need (2<=j/\j < 1000/\0 < a.length/\a.length < 1000);pure (.str (repS a j.toNat))
 | _,_,_=>Mo.stop
noncomputable def inD (x y:D):Mo Bool:=match y with
 | .str j=>(match x with
  | .str i=>pure (strOcc j i)
  | _=>Mo.stop)
 | .tup ds=>inMo x ds
 | .fl ds=>inMo x ds
 | .ob i=>do
  let o <- getM i
  (match o with
  | .lst ds=>inMo x ds
  | .dic kvs=>do let k <- lift (kyD x);pure (kvGet kvs k).isSome
  | .dtt _=>Mo.stop
  )
 | _=>Mo.stop
noncomputable def ltD (x y:D):Option Bool:=match x,y with
 | .int i,.int j=>some (decide (i < j))
 | .str a,.str b=>some (decide (a.cps.toList < b.cps.toList))
 | _,_=>none
noncomputable def leD (x y:D):Option Bool:=match x,y with
 | .int i,.int j=>some (decide (i<=j))
 | .str a,.str b=>some (!decide (b.cps.toList < a.cps.toList))
 | _,_=>none
noncomputable def isN:D->Bool
 | .non=>true
 | _=>false
noncomputable def cmpD (op:CmpOp)(x y:D):Mo Bool:=match op with
 | .Eq=>eqMo x y
 | .NotEq=>do let b <- eqMo x y;pure (!b)
 | .Lt=>lift (ltD x y)
 | .LtE=>lift (leD x y)
 | .Gt=>(match x,y with
  | .int i,.int j=>pure (decide (j < i))
  | _,_=>Mo.stop)
 | .GtE=>(match x,y with
  | .int i,.int j=>pure (decide (j<=i))
  | _,_=>Mo.stop)
 | .In=>inD x y
 | .NotIn=>do let b <- inD x y;pure (!b)
 | .Is=>do need (isN y=true);pure (isN x)
 | .IsNot=>do need (isN y=true);pure (!isN x)
noncomputable def getIx (x y:D):Mo D:=match x,y with
 | .tup ds,.int i=>lift (atD ds i)
 | .fl ds,.int i=>lift (atD ds i)
 | .str s,.int i=>do need (s.length<=zh);let c <- lift (atD s.cps.toList i);pure (sgn c)
 | .ob k,y=>do
  let o <- getM k
  (match o with
  | .lst ds=>(match y with
   | .int i=>lift (atD ds i)
   | _=>Mo.stop)
  | .dic kvs=>do let q <- lift (kyD y);lift (kvGet kvs q)
  | .dtt kvs=>do let q <- lift (kyT y);lift (tkGet kvs q)
  )
 | _,_=>Mo.stop
noncomputable def setIx (x y v:D):Mo Unit:=match x with
 | .ob k=>do
  let o <- getM k
  (match o with
  | .lst ds=>(match y with
   | .int i=>do let j <- lift (ixD ds.length i);putM k (.lst (ds.set j v))
   | _=>Mo.stop)
  | .dic kvs=>do let q <- lift (kyD y);need (kvs.length < zh);putM k (.dic (kvPut kvs q v))
  | .dtt kvs=>do let q <- lift (kyT y);need (kvs.length < zh);putM k (.dtt (tkPut kvs q v))
  )
 | _=>Mo.stop
noncomputable def sliceD (x:D)(lo hi:Option Int):Mo D:=match x with
 | .str s=>do need (s.length<=zh);pure (.str ⟨(cutD s.cps.toList lo hi).toArray⟩)
 | .tup ds=>pure (.tup (cutD ds lo hi))
 | .ob k=>do let ds <- getL k;newM (.lst (cutD ds lo hi))
 | .fl ds=>newM (.lst (cutD ds lo hi))
 | _=>Mo.stop
noncomputable def truD (x:D):Mo Bool:=match x with
 | .non=>pure false
 | .bl b=>pure b
 | .int i=>pure (i != 0)
 | .str s=>do need (s.length<=zh);pure ((s.length:Int) != 0)
 | .tup ds=>pure (!ds.isEmpty)
 | .fl ds=>pure (!ds.isEmpty)
 | .ob k=>do
  let o <- getM k
  (match o with
  | .lst ds=>pure (!ds.isEmpty)
  | .dic kvs=>pure (!kvs.isEmpty)
  | .dtt _=>Mo.stop
  )
noncomputable def itemsD (x:D):Mo (List D):=match x with
 | .tup ds=>pure ds
 | .fl ds=>pure ds
 | .ob k=>getL k
 | _=>Mo.stop
noncomputable def lstD (x:D):Mo (List D):=match x with
 | .fl ds=>pure ds
 | .ob k=>getL k
 | _=>Mo.stop
noncomputable def boolD:D->Option Bool
 | .bl b=>some b
 | _=>none
noncomputable def strO:D->Option Str
 | .str x=>some x
 | _=>none
noncomputable def intD:D->Option Int
 | .int i=>some i
 | _=>none
noncomputable def allS:List D->Option (List Str)
 | []=>some []
 | d::ds=>match strO d,allS ds with
  | some x,some xs=>some (x::xs)
  | _,_=>none
noncomputable def allI:List D->Option (List Int)
 | []=>some []
 | d::ds=>match intD d,allI ds with
  | some x,some xs=>some (x::xs)
  | _,_=>none
noncomputable def minI:List Int->Int
 | []=>0
 | x::r=>r.foldl min x
noncomputable def kvPairs:List D->Option (List (Ky×D))
 | []=>some []
 | d::r=>match d with
  | .tup [x,v]=>(match kyD x,kvPairs r with
   | some k,some kvs=>some ((k,v)::kvs)
   | _,_=>none)
  | _=>none
noncomputable def kvPuts (kvs:List (Ky×D)):List (Ky×D)->List (Ky×D)
 | []=>kvs
 | p::r=>kvPuts (kvPut kvs p.1 p.2) r
inductive Bl where
 | len | tuple | list | repr | all | any | min2 | max2 | abs | dict1 | minL
 deriving DecidableEq
noncomputable def blD (b:Bl)(xs:List D):Mo D:=match b,xs with
 | .len,[.str s]=>do need (s.length<=zh);pure (.int s.length)
 | .len,[.ob k]=>do
  let o <- getM k
  (match o with
  | .lst ds=>pure (.int ds.length)
  | .dic kvs=>pure (.int kvs.length)
  | .dtt _=>Mo.stop
  )
 | .len,[.tup ds]=>pure (.int ds.length)
 | .len,[.fl ds]=>pure (.int ds.length)
 | .tuple,[.tup ds]=>pure (.tup ds)
 | .tuple,[.fl ds]=>pure (.tup ds)
 | .tuple,[.ob k]=>do let ds <- getL k;pure (.tup ds)
 | .list,[x]=>do let ds <- itemsD x;newM (.lst ds)
 | .all,[.ob k]=>do let ds <- getL k;let bs <- lift (ds.mapM boolD);pure (.bl (bs.all id))
 | .any,[.ob k]=>do let ds <- getL k;let bs <- lift (ds.mapM boolD);pure (.bl (bs.any id))
 | .max2,[.int i,.int j]=>pure (.int (if j > i then j else i))
 | .dict1,[.tup ds]=>do let ps <- lift (kvPairs ds);newM (.dic (kvPuts [] ps))
 | .minL,[.ob k]=>do let ds <- getL k;let ns <- lift (allI ds);need (ns≠[]);pure (.int (minI ns))
 | _,_=>Mo.stop
inductive Ty where
 | int | str | bool | list | tuple | dict
 deriving DecidableEq
noncomputable def tyD (t:Ty)(x:D):Mo Bool:=match x with
 | .non=>pure false
 | .bl _=>pure (t==.bool||t==.int)
 | .int _=>pure (t==.int)
 | .str _=>pure (t==.str)
 | .tup _=>pure (t==.tuple)
 | .fl _=>pure (t==.list)
 | .ob k=>do
  let o <- getM k
  (match o with
  | .lst _=>pure (t==.list)
  | .dic _=>pure (t==.dict)
  | .dtt _=>Mo.stop
  )
inductive Mt where
 | append | insert | join | get
 | extend
 | get1
 | sdf
 | gtd
 deriving DecidableEq
noncomputable def rcvD (m:Mt)(x:D):Mo Unit:=match m,x with
 | .append,.ob k=>do let _ <- getL k;pure ()
 | .insert,.ob k=>do let _ <- getL k;pure ()
 | .extend,.ob k=>do let _ <- getL k;pure ()
 | .join,.str _=>pure ()
 | .get,.ob k=>do let _ <- getD k;pure ()
 | .get1,.ob k=>do let _ <- getT k;pure ()
 | .sdf,.ob k=>do let _ <- getT k;pure ()
 | .gtd,.ob k=>do let _ <- getT k;pure ()
 | _,_=>Mo.stop
noncomputable def insIx (n:Nat)(i:Int):Nat:=if i < 0 then (i + (n:Int)).toNat else min i.toNat n
noncomputable def insD {α:Type}(xs:List α)(i:Int)(v:α):List α:=xs.take (insIx xs.length i)++v::xs.drop (insIx xs.length i)
noncomputable def isOb:D->Nat->Bool
 | .ob j,k=>j==k
 | _,_=>false
noncomputable def strD:D->Option Str
 | .str x=>some x
 | _=>none
noncomputable def glue (sep:List Nat):List (List Nat)->List Nat
 | []=>[]
 | [x]=>x
 | x::y::r=>x++sep++glue sep (y::r)
noncomputable def joinS (sep:Str)(ys:List Str):Str:=⟨(glue sep.cps.toList (ys.map (·.cps.toList))).toArray⟩
noncomputable def extD (x:D):Mo (List D):=match x with
 | .tup ds=>pure ds
 | .ob k=>getL k
 | _=>Mo.stop
noncomputable def sdfD (k:Nat)(kvs:List (List (List Ky)×D))(q:List (List Ky))(v:D):Mo D:=match tkGet kvs q with
 | some d=>pure d
 | none=>do putM k (.dtt (tkPut kvs q v));pure v
noncomputable def mtD (m:Mt)(x:D)(xs:List D):Mo D:=match m,x,xs with
 | .append,.ob k,[v]=>do let ds <- getL k;need (ds.length < zh);putM k (.lst (ds++[v]));pure .non
 | .insert,.ob k,[.int i,v]=>do let ds <- getL k;need (ds.length < zh/\-(2 ^ 62)<=i/\i < 2 ^ 62);putM k (.lst (insD ds i v));pure .non
 | .join,.str t,[.ob k]=>do let ds <- getL k;let ys <- lift (ds.mapM strD);need ((ys.map (·.length)).sum + ys.length * t.length<=16777216);pure (.str (joinS t ys))
 | .get,.ob k,[y,v]=>do let kvs <- getD k;let q <- lift (kyD y);pure ((kvGet kvs q).getD v)
 | .get1,.ob k,[y]=>do let kvs <- getT k;let q <- lift (kyT y);pure ((tkGet kvs q).getD .non)
 | .gtd,.ob k,[y,v]=>do let kvs <- getT k;let q <- lift (kyT y);pure ((tkGet kvs q).getD v)
 | .sdf,.ob k,[y,v]=>do let kvs <- getT k;let q <- lift (kyT y);need (kvs.length < zh);sdfD k kvs q v
 | .extend,.ob k,[y]=>do let es <- extD y;let ds <- getL k;need (ds.length + es.length<=zh/\isOb y k=false);putM k (.lst (ds++es));pure .non
 | _,_,_=>Mo.stop
inductive M0 where
 | clear | pop | reverse
 deriving DecidableEq
noncomputable def m0G {α:Type}(n:α)(m:M0)(xs:List α):Option (α×List α):=match m with
 | .clear=>some (n,[])
 | .reverse=>some (n,xs.reverse)
 | .pop=>(xs[xs.length - 1]?).map fun y=>(y,xs.dropLast)
noncomputable def clearO (m:M0)(x:D):Mo D:=match x with
 | .ob k=>do let ds <- getL k;let r <- lift (m0G .non m ds);putM k (.lst r.2);pure r.1
 | _=>Mo.stop
set_option genSizeOf false
set_option genInjectivity false
mutual
inductive IE where
 | var (i:Nat) | cint (i:Int) | cbl (b:Bool) | cnon | cstr (x:Str)
 | glb (x:Str)
 | bin (op:Operator) (a b:IE)
 | cmp (op:CmpOp) (a b:IE)
 | cmp2 (op op':CmpOp) (a b c:IE)
 | and (a b:IE) | or (a b:IE) | not (a:IE)
 | ifE (c:IC) (a b:IE)
 | tup (es:IEs) | lst (es:IEs) | dic0
 | dtt0
 | idx (a b:IE) | slc (a:IE) (lo hi:IEo)
 | call (f:Str) (es:IEs) | blt (b:Bl) (es:IEs)
 | sortL (a:IE)
 | srtT (a:IE)
 | clr (m:M0) (a:IE)
 | neg (a:IE)
 | isI (a:IE) (t:Ty)
 | mth (m:Mt) (a:IE) (es:IEs)
 | comp (j:Nat) (it:IT) (c:ICo) (e:IE)
inductive IEs where
 | nil | cons (e:IE) (es:IEs)
inductive IEo where
 | none | some (e:IE)
inductive IT where
 | seq (e:IE) | rng1 (a:IE) | rng2 (a b:IE)
inductive IC where
 | cmp (e:IE) | tru (e:IE) | not (c:IC) | and (a b:IC) | or (a b:IC)
inductive ICo where
 | none | some (c:IC)
end
inductive IP where
 | seq (e:IE) | enum (e:IE)
mutual
inductive IS where
 | set (i:Nat) (e:IE) | setIx (o i e:IE) | expr (e:IE) | ret (e:IE) | retN | pass | brk | cnt
 | halt
 | ifS (c:IC) (a b:ISs) | forS (i:Nat) (it:IT) (b:ISs) | forP (i j:Nat) (it:IP) (b:ISs)
inductive ISs where
 | nil | cons (s:IS) (r:ISs)
end
set_option genSizeOf true
set_option genInjectivity true
noncomputable def leS (a b:Str):Bool:=!decide (b.cps.toList < a.cps.toList)
noncomputable def leI (a b:Int):Bool:=decide (a<=b)
theorem minI_go:∀ (r:List Int) (x:Int),r.foldl min x∈x::r/\∀ a∈x::r,r.foldl min x<=a
 | [],x=>⟨by simp,fun a h=>by simp at h;subst h;exact wB _⟩
 | y::r,x=>by
  obtain⟨h1,h2⟩:=minI_go r (min x y);refine⟨?_,fun a ha=>?_⟩
  ·show r.foldl min (min x y)∈_
   rcases zN.mp h1 with e | e
   ·rw[e]
    rcases Int.le_total x y with z | z
    ·rw[Int.min_eq_left z];simp
    ·rw[Int.min_eq_right z];simp
   ·simp[e]
  ·show r.foldl min (min x y)<=a
   have h3:=h2 (min x y) zD;rcases zN.mp ha with rfl | ha
   ·omega
   ·rcases zN.mp ha with rfl | ha
    ·omega
    ·exact h2 a (zK _ ha)
theorem minI_mem {ns:List Int}(h:ns≠[]):minI ns∈ns/\∀ a∈ns,minI ns<=a:=by
 cases ns with
 | nil=>exact absurd rfl h
 | cons x r=>exact minI_go r x
noncomputable def sortS (xs:List Str):List Str:=xs.mergeSort leS
noncomputable def sortI (xs:List Int):List Int:=xs.mergeSort leI
theorem leS_trans (a b c:Str)(h1:leS a b=true)(h2:leS b c=true):leS a c=true:=by
 simp only[leS,yP,decide_eq_false_iff_not,wC]at *;exact List.le_trans h1 h2
theorem leS_total (a b:Str):(leS a b||leS b a)=true:=by
 simp only[leS,yN,yP,decide_eq_false_iff_not,wC];exact List.le_total _ _
theorem leS_anti {a b:Str}(h1:leS a b=true)(h2:leS b a=true):a=b:=by
 simp only[leS,yP,decide_eq_false_iff_not,wC]at *;have e:=List.le_antisymm h1 h2;cases a;cases b;congr 1;exact xo.mp e
theorem sortS_perm (xs:List Str):(sortS xs).Perm xs:=wI _ _
theorem sortS_pw (xs:List Str):(sortS xs).Pairwise fun a b=>leS a b=true:=ww leS_trans leS_total xs
theorem sortS_uniq {xs ys:List Str}(p:ys.Perm xs)(h:ys.Pairwise fun a b=>leS a b=true):ys=sortS xs :=
 List.Perm.eq_of_pairwise (fun _ _ _ _=>leS_anti) h (sortS_pw xs) (p.trans (sortS_perm xs).symm)
theorem sortI_perm (xs:List Int):(sortI xs).Perm xs:=wI _ _
theorem sortI_pw (xs:List Int):(sortI xs).Pairwise fun a b=>a<=b:=by
 have:=ww (le:=leI) (fun a b c h1 h2=>by simp only[leI,decide_eq_true_eq]at *;omega) (fun a b=>by simp only[leI,yN,decide_eq_true_eq];omega) xs
 exact this.imp fun h=>by simpa [leI] using h
theorem sortI_uniq {xs ys:List Int}(p:ys.Perm xs)(h:ys.Pairwise fun a b=>a<=b):ys=sortI xs :=
 List.Perm.eq_of_pairwise (fun _ _ _ _=>wg) h (sortI_pw xs) (p.trans (sortI_perm xs).symm)
theorem sortI_same {xs ys:List Int}(p:ys.Perm xs):sortI ys=sortI xs:=sortI_uniq ((sortI_perm ys).trans p) (sortI_pw ys)
theorem allS_map (xs:List Str):allS (xs.map .str)=some xs:=by
 induction xs with
 | nil=>rfl
 | cons x r ih=>simp only[ze,allS,strO,ih]
theorem allI_map (xs:List Int):allI (xs.map .int)=some xs:=by
 induction xs with
 | nil=>rfl
 | cons x r ih=>simp only[ze,allI,intD,ih]
theorem allS_eq:∀ {ds:List D} {xs:List Str},allS ds=some xs->ds=xs.map .str
 | [],xs,h=>by cases h;rfl
 | d::ds,xs,h=>by
  simp only[allS]at h;cases d <;> simp only[strO,reduceCtorEq]at h;cases e:allS ds with
  | none=>rw[e]at h;cases h
  | some ys=>rw[e]at h;cases h;rw[allS_eq e];rfl
theorem allI_eq:∀ {ds:List D} {xs:List Int},allI ds=some xs->ds=xs.map .int
 | [],xs,h=>by cases h;rfl
 | d::ds,xs,h=>by
  simp only[allI]at h;cases d <;> simp only[intD,reduceCtorEq]at h;cases e:allI ds with
  | none=>rw[e]at h;cases h
  | some ys=>rw[e]at h;cases h;rw[allI_eq e];rfl
noncomputable def keyD2 (k:List (List Ky)):D:=.tup (k.map fun r=>.tup (r.map dK))
noncomputable def keyTT (srt:List D->Option (List D))(x:D):Mo D:=match x with
 | .ob k=>do
  let kvs <- getT k
  let ys <- lift (srt (kvs.map fun p=>keyD2 p.1))
  newM (.lst ys)
 | _=>Mo.stop
noncomputable def sortF (ds:List D):Option (List D):=match allS ds with
 | some xs=>some ((sortS xs).map .str)
 | none=>match allI ds with
  | some xs=>some ((sortI xs).map .int)
  | none=>none
end L3
namespace L3
open PySem
structure Ctx where
 fn:Str->List D->Mo D
 gl:Str->Option D
 srt:List D->Option (List D)
 wh:Nat
inductive Fl where
 | nx (ρ:Ev) | rt (d:D) | bk (ρ:Ev) | ct (ρ:Ev)
structure Src where
 ck:Option (Nat×List D)
 ds:List D
noncomputable def okM (ck:Option (Nat×List D))(M:MH):Prop:=match ck with
 | none=>True
 | some (i,all)=>M[i]?=some (.lst all)
noncomputable def srcD (x:D):Mo Src:=match x with
 | .tup ds=>pure ⟨none,ds⟩
 | .fl ds=>pure ⟨none,ds⟩
 | .str s=>do need (s.length<=zh);pure ⟨none,s.cps.toList.map sgn⟩
 | .ob k=>do let ds <- getL k;pure ⟨some (k,ds),ds⟩
 | _=>Mo.stop
noncomputable def small (i:Int):Prop:=-(2 ^ 62)<=i/\i < 2 ^ 62
noncomputable instance (i:Int):Decidable (small i):=by unfold small;infer_instance
noncomputable def rngD (lo hi:Int):List D:=(List.range (hi - lo).toNat).map fun (k:Nat)=>D.int (lo + k)
open Classical in
noncomputable def stand (ck:Option (Nat×List D)):Mo Unit:=fun M=>if okM ck M then some (.ok (),M) else none
noncomputable def loopD (ck:Option (Nat×List D))(i:Nat)(body:Ev->Mo Fl):List D->Ev->Mo Fl
 | [],ρ=>do stand ck;pure (.nx ρ)
 | d::ds,ρ=>do
  stand ck
  let f <- body (ρ.set i (some d))
  (match f with
  | .nx ρ'=>loopD ck i body ds ρ'
  | .ct ρ'=>loopD ck i body ds ρ'
  | .bk ρ'=>pure (.nx ρ')
  | .rt v=>pure (.rt v))
noncomputable def enumD (ds:List D):List D:=ds.mapIdx fun n d=>.tup [.int n,d]
noncomputable def enumS (x:D):Mo Src:=match x with
 | .tup ds=>pure ⟨none,enumD ds⟩
 | .fl ds=>pure ⟨none,enumD ds⟩
 | .ob k=>do let ds <- getL k;pure ⟨some (k,ds),enumD ds⟩
 | _=>Mo.stop
noncomputable def pairD:D->Option (D×D)
 | .tup [x,y]=>some (x,y)
 | _=>none
noncomputable def loopP (ck:Option (Nat×List D))(i j:Nat)(body:Ev->Mo Fl):List D->Ev->Mo Fl
 | [],ρ=>do stand ck;pure (.nx ρ)
 | d::ds,ρ=>do
  stand ck
  let p <- lift (pairD d)
  let f <- body ((ρ.set i (some p.1)).set j (some p.2))
  (match f with
  | .nx ρ'=>loopP ck i j body ds ρ'
  | .ct ρ'=>loopP ck i j body ds ρ'
  | .bk ρ'=>pure (.nx ρ')
  | .rt v=>pure (.rt v))
noncomputable def compD (ck:Option (Nat×List D))(c:Ev->Mo Bool)(e:Ev->Mo D)(ρ:Ev):List D->Mo (List D)
 | []=>do stand ck;pure []
 | d::ds=>do
  stand ck
  let b <- c (some d::ρ)
  if b=true then do
   let y <- e (some d::ρ)
   let ys <- compD ck c e ρ ds
   pure (y::ys)
  else compD ck c e ρ ds
noncomputable def varD (ρ:Ev)(i:Nat):Mo D:=match ρ[i]? with
 | some (some d)=>pure d
 | _=>Mo.stop
mutual
noncomputable def semE (Γ:Ctx):IE->Ev->Mo D
 | .var i,ρ=>varD ρ i
 | .cint i,_=>pure (.int i)
 | .cbl b,_=>pure (.bl b)
 | .cnon,_=>pure .non
 | .cstr x,_=>pure (.str x)
 | .glb x,_=>lift (Γ.gl x)
 | .bin op a b,ρ=>do let x <- semE Γ a ρ;let y <- semE Γ b ρ;opD op x y
 | .cmp op a b,ρ=>do let x <- semE Γ a ρ;let y <- semE Γ b ρ;let k <- cmpD op x y;pure (.bl k)
 | .cmp2 op op' a b c,ρ=>do
  let x <- semE Γ a ρ
  let y <- semE Γ b ρ
  let k <- cmpD op x y
  if k=true then do let z <- semE Γ c ρ;let k' <- cmpD op' y z;pure (.bl k') else pure (.bl false)
 | .and a b,ρ=>do let x <- semE Γ a ρ;let k <- lift (boolD x);if k=true then semE Γ b ρ else pure (.bl false)
 | .or a b,ρ=>do let x <- semE Γ a ρ;let k <- lift (boolD x);if k=true then pure (.bl true) else semE Γ b ρ
 | .not a,ρ=>do let x <- semE Γ a ρ;let k <- lift (boolD x);pure (.bl (!k))
 | .ifE c a b,ρ=>do let k <- semC Γ c ρ;if k=true then semE Γ a ρ else semE Γ b ρ
 | .tup es,ρ=>do let xs <- semEs Γ es ρ;need (xs.length<=zh);pure (.tup xs)
 | .lst es,ρ=>do let xs <- semEs Γ es ρ;need (xs.length<=zh);newM (.lst xs)
 | .dic0,_=>newM (.dic [])
 | .dtt0,_=>newM (.dtt [])
 | .idx a b,ρ=>do let x <- semE Γ a ρ;let y <- semE Γ b ρ;getIx x y
 | .slc a lo hi,ρ=>do let x <- semE Γ a ρ;let l <- semO Γ lo ρ;let h <- semO Γ hi ρ;sliceD x l h
 | .call f es,ρ=>do let xs <- semEs Γ es ρ;Γ.fn f xs
 | .blt b es,ρ=>do let xs <- semEs Γ es ρ;blD b xs
 | .comp j it c e,ρ=>do
  let s <- semT Γ it ρ
  need (s.ds.length<=zh)
  let ys <- compD s.ck (semCo Γ c) (semE Γ e) (ρ.set j none) s.ds
  newM (.lst ys)
 | .srtT a,ρ=>do let x <- semE Γ a ρ;keyTT Γ.srt x
 | .sortL a,ρ=>do
  let x <- semE Γ a ρ
  let ds <- lstD x
  let ys <- lift (Γ.srt ds)
  newM (.lst ys)
 | .clr m a,ρ=>do let x <- semE Γ a ρ;clearO m x
 | .neg a,ρ=>do
  let x <- semE Γ a ρ
  (match x with
  | .int i=>pure (.int (-i))
  | _=>Mo.stop)
 | .isI a t,ρ=>do let x <- semE Γ a ρ;let k <- tyD t x;pure (.bl k)
 | .mth m a es,ρ=>do let x <- semE Γ a ρ;rcvD m x;let xs <- semEs Γ es ρ;mtD m x xs
noncomputable def semEs (Γ:Ctx):IEs->Ev->Mo (List D)
 | .nil,_=>pure []
 | .cons e es,ρ=>do let x <- semE Γ e ρ;let xs <- semEs Γ es ρ;pure (x::xs)
noncomputable def semO (Γ:Ctx):IEo->Ev->Mo (Option Int)
 | .none,_=>pure none
 | .some e,ρ=>do
  let x <- semE Γ e ρ
  (match x with
  | .int i=>pure (some i)
  | _=>Mo.stop)
noncomputable def semT (Γ:Ctx):IT->Ev->Mo Src
 | .seq e,ρ=>do let x <- semE Γ e ρ;srcD x
 | .rng1 a,ρ=>do
  let x <- semE Γ a ρ
  (match x with
  | .int i=>do need (small i);pure ⟨none,rngD 0 i⟩
  | _=>Mo.stop)
 | .rng2 a b,ρ=>do
  let x <- semE Γ a ρ
  let y <- semE Γ b ρ
  (match x,y with
  | .int i,.int j=>do need (small i/\small j);pure ⟨none,rngD i j⟩
  | _,_=>Mo.stop)
noncomputable def semC (Γ:Ctx):IC->Ev->Mo Bool
 | .cmp e,ρ=>do let x <- semE Γ e ρ;lift (boolD x)
 | .tru e,ρ=>do let x <- semE Γ e ρ;truD x
 | .not c,ρ=>do let k <- semC Γ c ρ;pure (!k)
 | .and a b,ρ=>do let k <- semC Γ a ρ;if k=true then semC Γ b ρ else pure false
 | .or a b,ρ=>do let k <- semC Γ a ρ;if k=true then pure true else semC Γ b ρ
noncomputable def semCo (Γ:Ctx):ICo->Ev->Mo Bool
 | .none,_=>pure true
 | .some c,ρ=>semC Γ c ρ
end
noncomputable def semP (Γ:Ctx):IP->Ev->Mo Src
 | .seq e,ρ=>do let x <- semE Γ e ρ;srcD x
 | .enum e,ρ=>do let x <- semE Γ e ρ;enumS x
mutual
noncomputable def semS (Γ:Ctx):IS->Ev->Mo Fl
 | .set i e,ρ=>do let x <- semE Γ e ρ;pure (.nx (ρ.set i (some x)))
 | .setIx o i e,ρ=>do let v <- semE Γ e ρ;let x <- semE Γ o ρ;let y <- semE Γ i ρ;setIx x y v;pure (.nx ρ)
 | .expr e,ρ=>do let _ <- semE Γ e ρ;pure (.nx ρ)
 | .ret e,ρ=>do let x <- semE Γ e ρ;pure (.rt x)
 | .retN,_=>pure (.rt .non)
 | .pass,ρ=>pure (.nx ρ)
 | .brk,ρ=>pure (.bk ρ)
 | .cnt,ρ=>pure (.ct ρ)
 | .halt,_=>Mo.stop
 | .ifS c a b,ρ=>do let k <- semC Γ c ρ;if k=true then semSs Γ a ρ else semSs Γ b ρ
 | .forS i it b,ρ=>do let s <- semT Γ it ρ;loopD s.ck i (semSs Γ b) s.ds ρ
 | .forP i j it b,ρ=>do let s <- semP Γ it ρ;loopP s.ck i j (semSs Γ b) s.ds ρ
noncomputable def semSs (Γ:Ctx):ISs->Ev->Mo Fl
 | .nil,ρ=>pure (.nx ρ)
 | .cons s r,ρ=>do
  let f <- semS Γ s ρ
  (match f with
  | .nx ρ'=>semSs Γ r ρ'
  | .rt v=>pure (.rt v)
  | .bk ρ'=>pure (.bk ρ')
  | .ct ρ'=>pure (.ct ρ'))
end
noncomputable def semF (Γ:Ctx)(n:Nat)(b:ISs)(xs:List D):Mo D:=do
 let f <- semSs Γ b (xs.map some++yF (n - xs.length) none)
 (match f with
 | .nx _=>pure .non
 | .rt v=>pure v
 | .bk _=>Mo.stop
 | .ct _=>Mo.stop)
structure Fd where
 n:Nat
 p:Nat
 b:ISs
noncomputable def CtxN (tab:List (Str×Fd))(gl:Str->Option D)(srt:List D->Option (List D))(wh:Nat):Nat->Ctx
 | 0=>⟨fun _ _=>Mo.stop,gl,srt,wh⟩
 | k + 1=>⟨fun f xs=>match tab.lookup f with
  | some d=>do need (xs.length=d.p);semF (CtxN tab gl srt wh k) d.n d.b xs
  | none=>Mo.stop,gl,srt,wh⟩
structure Sc where
 sc:Scope
 N:List Str
 fns:List Str
 gls:List Str
 bls:List Str
noncomputable def Sc.kind (S:Sc)(x:Str):Option NameKind:=S.sc.names.lookup x
noncomputable def Sc.vis (S:Sc)(x:Str):Bool:=S.kind x==some .local||S.kind x==some .cell||S.kind x==some .free
noncomputable def Sc.loc (S:Sc)(x:Str):Bool:=S.kind x==some .local||S.kind x==some .cell
noncomputable def Sc.glo (S:Sc)(x:Str):Bool:=S.kind x==some .globalImplicit
noncomputable def slot (N:List Str)(x:Str):Option Nat:=N.findIdx? (·==x)
noncomputable def blOf (x:Str)(n:Nat):Option Bl :=
 if x==("len" : Str)&&n==1 then some .len else if x==("tuple" : Str)&&n==1 then some .tuple else if x==("list" : Str)&&n==1 then some .list
 else if x==("repr" : Str)&&n==1 then some .repr else if x==("all" : Str)&&n==1 then some .all else if x==("any" : Str)&&n==1 then some .any
 else if x==("min" : Str)&&n==2 then some .min2 else if x==("max" : Str)&&n==2 then some .max2 else if x==("abs" : Str)&&n==1 then some .abs else if x==("dict" : Str)&&n==1 then some .dict1 else if x==("min" : Str)&&n==1 then some .minL else none
noncomputable def plainE:Expr->Bool
 | .Starred _ _=>false
 | _=>true
noncomputable def okName (x:Str):Bool:=x != ("__debug__" : Str)&&x != ("__classdict__" : Str)&&x != ("__name__" : Str)
noncomputable def ixE:Expr->Bool
 | .Name _ _=>true | .Constant _ _ _=>true | .BinOp _ _ _ _=>true | .Compare _ _ _ _=>true | .BoolOp _ _ _=>true | .UnaryOp _ _ _=>true | .IfExp _ _ _ _=>true
 | .List _ _=>true | .Subscript _ _ _=>true | .Call _ _ _ _=>true | _=>false
noncomputable def bsE:Expr->Bool
 | .Name _ _=>true | .Constant _ _ _=>true | .BinOp _ _ _ _=>true | .Subscript _ _ _=>true | .List _ _=>true | .Tuple _ _ _=>true | .Call _ (_::_) _ _=>true | _=>false
noncomputable def noComp:Expr->Bool
 | .ListComp _ _ _ _=>false
 | .SetComp _ _ _ _=>false
 | .DictComp _ _ _ _ _=>false
 | _=>true
noncomputable def blank (N:List Str)(xs:List Str):List Str:=N.map fun y=>if xs.contains y then "" else y
noncomputable def compOk (S:Sc)(sc:Scope)(xs:List Str):Bool :=
 sc.kind==.function&&(xs.all fun x=>sc.names.lookup x==some .local&&(x != (".0" : Str))&&(x != ("" : Str))) &&
 sc.names.all (fun p=>p.2 != .cell&&(p.2 != .local||(xs.contains p.1||p.1==(".0" : Str)))) &&
 sc.names.all (fun p=>p.2 != .free||(S.kind p.1==some .cell||S.kind p.1==some .free)) &&
 sc.names.all (fun p=>sc.names.lookup p.1==some p.2&&p.1 != ("" : Str))&&(S.N.all fun y=>y != (".0" : Str))&&decide (xs++blank S.N xs).Nodup
noncomputable def Sc.comp (S:Sc)(sc:Scope)(xs:List Str):Sc:={ S with sc:=sc,N:=xs++blank S.N xs }
noncomputable def inDomOp (op:Operator):Bool:=op==.Add||op==.Sub||op==.Mult||op==.FloorDiv||op==.Mod||op==.Pow
noncomputable def callK (S:Sc)(f:Str)(len:Nat)(xs:Option IEs):Option IE:=if okName f&&S.glo f then
 (if S.fns.contains f then xs.map (.call f)
 else if S.bls.contains f then (match blOf f len with
  | some b=>xs.map (.blt b)
  | none=>none)
 else none) else none
noncomputable def tyOf (t:Str):Option Ty :=
 if t==("int" : Str) then some .int else if t==("str" : Str) then some .str else if t==("bool" : Str) then some .bool
 else if t==("list" : Str) then some .list else if t==("tuple" : Str) then some .tuple else if t==("dict" : Str) then some .dict else none
noncomputable def mtOf (m:Str)(n:Nat):Option Mt :=
 if m==("append" : Str)&&n==1 then some .append else if m==("insert" : Str)&&n==2 then some .insert else
 if m==("extend" : Str)&&n==1 then some .extend else
 if m==("get" : Str)&&n==1 then some .get1 else
 if m==("setdefault" : Str)&&n==2 then some .sdf else
 if m==("join" : Str)&&n==1 then some .join else if m==("get" : Str)&&n==2 then some .get else none
noncomputable def isiOk (S:Sc)(f t:Str):Bool:=f==("isinstance" : Str)&&okName f&&S.glo f&&S.bls.contains f&&okName t&&S.glo t&&S.bls.contains t
noncomputable def nameK (S:Sc)(x:Str):Option IE:=if okName x then (if S.vis x then (slot S.N x).map .var else if S.glo x&&S.gls.contains x then some (.glb x) else none) else none
noncomputable def constK:Const->Option IE
 | .int i=>some (.cint i)
 | .bool b=>some (.cbl b)
 | .none=>some .cnon
 | .str x=>some (.cstr x)
 | _=>none
noncomputable def isRng:Expr->Bool
 | .Call (.Name f _) _ _ _=>f==("range" : Str)
 | _=>false
noncomputable def cmpK (r:Expr->Option IE)(a:Expr)(ops:List CmpOp)(bs:List Expr):Option IE:=match ops,bs with
 | [op],[b]=>if behindInMarks op b then none else do let x <- r a;let y <- r b;some (.cmp op x y)
 | [op,op'],[b,c]=>if behindInMarks op' c then none else do let x <- r a;let y <- r b;let z <- r c;some (.cmp2 op op' x y z)
 | _,_=>none
noncomputable def andor:BoolOp->IE->IE->IE
 | .And=>.and
 | .Or=>.or
noncomputable def boolK (r:Expr->Option IE)(op:BoolOp)(es:List Expr)(p:Pos):Option IE:=match es with
 | [a,b]=>do let x <- r a;let y <- r b;some (andor op x y)
 | a::b::c::l=>do let x <- r a;let y <- r (.BoolOp op (b::c::l) p);some (andor op x y)
 | _=>none
noncomputable def unK (r:Expr->Option IE)(op:UnaryOp)(a:Expr):Option IE:=match op with
 | .Not=>do let x <- r a;some (.not x)
 | .USub=>do let x <- r a;some (.neg x)
 | _=>none
noncomputable def dictK (_:Expr->Option IE)(ks:List (Option Expr))(vs:List Expr):Option IE:=match ks,vs with
 | [],[]=>some .dic0
 | _,_=>none
noncomputable def subK (r:Expr->Option IE)(ro:Option Expr->Option IEo)(a b:Expr):Option IE:=match b with
 | .Slice lo hi none _=>do let x <- r a;let l <- ro lo;let h <- ro hi;some (.slc x l h)
 | b=>if ixE b then do let x <- r a;let y <- r b;some (.idx x y) else none
noncomputable def itemsE:Expr->Option (Expr×Str×Pos×Pos)
 | .Call (.Attribute o m p2) [] [] p3=>some (o,m,p2,p3)
 | _=>none
noncomputable def nmE:Expr->Option (Str×Pos)
 | .Name t p=>some (t,p)
 | _=>none
noncomputable def dtName:Expr->Bool
 | .Name x _=>x==("numbers" : Str)||x==("_law_some" : Str)
 | _=>false
noncomputable def sortK (S:Sc)(r:Expr->Option IE)(f:Str)(as:List Expr):Option IE:=match as with
 | [a]=>(match itemsE a with
  | some _=>none
  | none=>(
    if dtName a then (if plainE a&&(f==("sorted" : Str)&&okName f&&S.glo f&&S.bls.contains f) then do let x <- r a;some (.srtT x) else none)
    else
    if plainE a&&(f==("sorted" : Str)&&okName f&&S.glo f&&S.bls.contains f) then do let x <- r a;some (.sortL x) else none))
 | _=>none
noncomputable def rngE:Expr->Option (Str×Pos×List Expr×Pos)
 | .Call (.Name f p) as [] q=>some (f,p,as,q)
 | _=>none
noncomputable def rngOk (S:Sc)(f:Str)(as:List Expr):Bool:=f==("range" : Str)&&okName f&&S.glo f&&S.bls.contains f&&as.all plainE
noncomputable def isiK (S:Sc)(r:Expr->Option IE)(f:Str)(as:List Expr):Option IE:=match as with
 | [a,t]=>(match nmE t with
  | some (t',_)=>if isiOk S f t'&&plainE a then (match tyOf t' with
   | some k=>do let x <- r a;some (.isI x k)
   | none=>none) else none
  | none=>none)
 | _=>none
noncomputable def m0Of (m:Str):Option M0:=if m==("clear" : Str) then some .clear else if m==("pop" : Str) then some .pop else if m==("reverse" : Str) then some .reverse else none
noncomputable def gtdK (o:Expr)(m:Str)(n:Nat)(k:Option Mt):Option Mt:=if dtName o&&(m==("get" : Str)&&n==2) then some .gtd else k
noncomputable def attrK (r:Expr->Option IE)(rs:List Expr->Option IEs)(o:Expr)(m:Str)(p2 p3:Pos)(as:List Expr):Option IE:=match as with
 | e::es=>if bsE o&&(p2.endLine==p3.line&&decide ((e::es).length < 29)) then (match
   gtdK o m (e::es).length <|
   mtOf m (e::es).length with
   | some k=>do let x <- r o;let xs <- rs (e::es);some (.mth k x xs)
   | none=>none) else none
 | []=>if bsE o&&p2.endLine==p3.line then (match m0Of m with
   | some k=>do let x <- r o;some (.clr k x)
   | none=>none) else none
noncomputable def fnK (S:Sc)(r:Expr->Option IE)(rs:List Expr->Option IEs)(f:Str)(as:List Expr):Option IE:=match as with
 | e::es=>if f==("sorted" : Str) then sortK S r f (e::es) else if f==("isinstance" : Str) then isiK S r f (e::es) else
  callK S f (e::es).length (rs (e::es))
 | _=>none
noncomputable def callE (S:Sc)(r:Expr->Option IE)(rs:List Expr->Option IEs)(f:Expr)(as:List Expr)(p:Pos):Option IE:=match f with
 | .Name g _=>fnK S r rs g as
 | .Attribute o m p2=>attrK r rs o m p2 p as
 | _=>none
noncomputable def rngK (S:Sc)(r:Expr->Option IE)(f:Str)(as:List Expr):Option IT:=if rngOk S f as then (match as with
 | [a]=>do let x <- r a;some (.rng1 x)
 | [a,b]=>do let x <- r a;let y <- r b;some (.rng2 x y)
 | _=>none) else none
noncomputable def itE:Expr->Bool
 | .Name _ _=>true | .Subscript _ _ _=>true | .BinOp _ _ _ _=>true | .Call _ _ _ _=>true | .List _ _=>true | .ListComp _ _ _ _=>true | _=>false
noncomputable def andorC:BoolOp->IC->IC->IC
 | .And=>.and
 | .Or=>.or
noncomputable def condK (r:Expr->Option IC)(op:BoolOp)(es:List Expr):Option IC:=match es with
 | [a,b]=>do let k <- r a;let j <- r b;some (andorC op k j)
 | [a,b,c]=>do let k <- r a;let j <- r b;let l <- r c;some (andorC op k (andorC op j l))
 | _=>none
noncomputable def cmpR (S:Sc)(r:Expr->Option IE)(a:Expr)(ops:List CmpOp)(bs:List Expr):Option IE:=match ops,bs with
 | [op],[b]=>if isRng b then
  none
  else cmpK r a [op] [b]
 | ops,bs=>cmpK r a ops bs
noncomputable def gensK:List Comprehension->Option (Str×Pos×Expr×List Expr)
 | [⟨.Name x p,iter,ifs,0⟩]=>some (x,p,iter,ifs)
 | _=>none
mutual
noncomputable def cE (S:Sc):Nat->Expr->Option IE
 | 0,_=>none
 | n + 1,e=>match e with
  | .Name x _=>nameK S x
  | .Constant c _ _=>constK c
  | .BinOp a op b _=>if inDomOp op then do let x <- cE S n a;let y <- cE S n b;some (.bin op x y) else none
  | .Compare a ops bs _=>cmpR S (cE S n) a ops bs
  | .BoolOp op es p=>boolK (cE S n) op es p
  | .UnaryOp op a _=>unK (cE S n) op a
  | .IfExp c a b _=>do let k <- cC S n c;let x <- cE S n a;let y <- cE S n b;some (.ifE k x y)
  | .Tuple es _ _=>do let xs <- cEs S n es;some (.tup xs)
  | .List es _=>do let xs <- cEs S n es;some (.lst xs)
  | .Dict ks vs _=>dictK (cE S n) ks vs
  | .Subscript a b _=>subK (cE S n) (cO S n) a b
  | .Call f as ks p=>if ks.isEmpty then callE S (cE S n) (cEs S n) f as p else none
  | .ListComp elt gs sc _=>(match gensK gs with
   | some (x,_,iter,ifs)=>if compOk S sc [x] then do
     let it <- cT S n iter
     let c <- cCo (S.comp sc [x]) n ifs
     let e <- cE (S.comp sc [x]) n elt
     some (.comp ((slot S.N x).getD S.N.length) it c e) else none
   | none=>none)
  | _=>none
noncomputable def cEs (S:Sc):Nat->List Expr->Option IEs
 | 0,_=>none
 | _ + 1,[]=>some .nil
 | n + 1,e::es=>if plainE e then do let x <- cE S n e;let xs <- cEs S n es;some (.cons x xs) else none
noncomputable def cO (S:Sc):Nat->Option Expr->Option IEo
 | 0,_=>none
 | _ + 1,none=>some .none
 | n + 1,some e=>do let x <- cE S n e;some (.some x)
noncomputable def cT (S:Sc):Nat->Expr->Option IT
 | 0,_=>none
 | n + 1,e=>match rngE e with
  | some (f,_,as,_)=>if f==("range" : Str) then rngK S (cE S n) f as else (cE S n e).map .seq
  | none=>if itE e then (cE S n e).map .seq else none
noncomputable def cC (S:Sc):Nat->Expr->Option IC
 | 0,_=>none
 | n + 1,e=>match e with
  | .UnaryOp op a _=>if op==.Not then (cC S n a).map .not else none
  | .BoolOp op es _=>condK (cC S n) op es
  | .Compare a ops bs _=>(cmpR S (cE S n) a ops bs).map .cmp
  | .Name x p=>(cE S n (.Name x p)).map .tru
  | .Call f as ks p=>(cE S n (.Call f as ks p)).map .tru
  | .Subscript a b p=>(cE S n (.Subscript a b p)).map .tru
  | _=>none
noncomputable def cCo (S:Sc):Nat->List Expr->Option ICo
 | 0,_=>none
 | _ + 1,[]=>some .none
 | n + 1,[c]=>do let k <- cC S n c;some (.some k)
 | _,_=>none
end
noncomputable def compP:Expr->Option (Expr×List Comprehension×Scope)
 | .ListComp elt gs sc _=>some (elt,gs,sc)
 | _=>none
noncomputable def tkNames:List Str:=["states_of","numbers","_law_some"]
noncomputable def emptyD:Expr->Bool
 | .Dict ks vs _=>ks.isEmpty&&vs.isEmpty
 | _=>false
noncomputable def asgN (S:Sc)(n:Nat)(x:Str)(v:Expr):Option IS:=match compP v with
 | some (elt,gs,sc)=>(match gensK gs with
  | some (y,_,iter,ifs)=>if S.loc x&&compOk S sc [y] then do
   let i <- slot S.N x
   let it <- cT S n iter
   let c <- cCo (S.comp sc [y]) n ifs
   let e <- cE (S.comp sc [y]) n elt
   some (.set i (.comp ((slot S.N y).getD S.N.length) it c e)) else none
  | none=>none)
 | none=>if tkNames.contains x&&emptyD v then (if S.loc x then do let i <- slot S.N x;some (.set i .dtt0) else none)
  else if S.loc x&&noComp v then do let i <- slot S.N x;let y <- cE S n v;some (.set i y) else none
noncomputable def asgT (S:Sc)(n:Nat)(t:Expr)(v:Expr):Option IS:=match t with
 | .Name x _=>asgN S n x v
 | .Subscript o i _=>if ixE i then do let y <- cE S n v;let a <- cE S n o;let b <- cE S n i;some (.setIx a b y) else none
 | _=>none
noncomputable def asgK (S:Sc)(n:Nat)(ts:List Expr)(v:Expr):Option IS:=match ts with
 | []=>none
 | t::r=>(match r with
  | []=>asgT S n t v
  | _::_=>none)
noncomputable def enumK (S:Sc)(r:Expr->Option IE)(f:Str)(as:List Expr):Option IP:=match as with
 | []=>none
 | a::l=>(match l with
  | []=>if okName f&&S.glo f&&S.bls.contains f&&plainE a then (r a).map .enum else none
  | _::_=>none)
noncomputable def cP (S:Sc)(n:Nat)(e:Expr):Option IP:=match rngE e with
 | some (f,_,as,_)=>if f==("enumerate" : Str) then enumK S (cE S n) f as else (cE S n e).map .seq
 | none=>if itE e then (cE S n e).map .seq else none
noncomputable def pair2 (S:Sc)(n:Nat)(a b iter:Expr)(r:Option ISs):Option IS:=match nmE a with
 | none=>none
 | some (x,_)=>(match nmE b with
  | none=>none
  | some (y,_)=>if S.loc x&&S.loc y then do let i <- slot S.N x;let j <- slot S.N y;let it <- cP S n iter;let z <- r;some (.forP i j it z) else none)
noncomputable def pairT (S:Sc)(n:Nat)(ts:List Expr)(iter:Expr)(r:Option ISs):Option IS:=match ts with
 | []=>none
 | a::l=>(match l with
  | []=>none
  | b::l2=>(match l2 with
   | []=>pair2 S n a b iter r
   | _::_=>none))
noncomputable def forT (S:Sc)(n:Nat)(t iter:Expr)(r:Option ISs):Option IS:=match t with
 | .Name x _=>if S.loc x then do let i <- slot S.N x;let it <- cT S n iter;let y <- r;some (.forS i it y) else none
 | .Tuple ts _ _=>pairT S n ts iter r
 | _=>none
noncomputable def noneK (o:List Stmt)(r:Option IS):Option IS:=match o with
 | []=>r
 | _::_=>none
mutual
noncomputable def cS (S:Sc):Nat->Stmt->Option IS
 | 0,_=>none
 | n + 1,s=>match s with
  | .Assign ts v _=>asgK S n ts v
  | .Expr e _=>if noComp e then do let y <- cE S n e;some (.expr y) else none
  | .Return o _=>(match o with
   | some e=>do let y <- cE S n e;some (.ret y)
   | none=>some .retN)
  | .Raise _ _ _=>some .halt
  | .Pass _=>some .pass
  | .Break _=>some .brk
  | .Continue _=>some .cnt
  | .If c a b _=>do let k <- cC S n c;let x <- cSs S n a;let y <- cSs S n b;some (.ifS k x y)
  | .For t iter b o _=>noneK o (forT S n t iter (cSs S n b))
  | _=>none
noncomputable def cSs (S:Sc):Nat->List Stmt->Option ISs
 | 0,_=>none
 | _ + 1,[]=>some .nil
 | n + 1,s::r=>do let x <- cS S n s;let y <- cSs S n r;some (.cons x y)
end
end L3
namespace L2
open PySem PySem.Spec PyProof.Rows
theorem codeAny_compLoop_own {prog:Program}{w:World}{A:Around}{R:Result->Shared->Prop}{s:Shared}{elt target iter:Expr}{ifs:List Expr}{scope:Scope}{pos:Pos}{it acc:Value}{env:Env}(I:Nat->Shared->Prop)
  (turn:∀ n s,I n s->wpAny (model prog w) A (pyNext it) (fun r s₁=>match r with
   | none=>R (.ok .next) s₁
   | some v=>wpAny (model prog w) A (letOwnedTupleGo target it v) (fun _ s₁'=>wpAny (model prog w) A (assign target env v) (fun _ s₂ =>
     wpAny (model prog w) A (forIn ifs true fun c r=>if r=true then do let ok <- isTrue c env (eval c env);pure (ForInStep.yield ok) else pure (ForInStep.yield r)) (fun ok s₃ =>
      if ok=true then wpAny (model prog w) A (eval elt env) (fun x s₄ =>
       wpAny (model prog w) A (call (.builtin "list.append") [acc,x]) (fun _ s₅=>∃ m,m < n/\I m s₅) (fun _ _=>False) s₄) (fun _ _=>False) s₃
      else ∃ m,m < n/\I m s₃) (fun _ _=>False) s₂) (fun _ _=>False) s₁') (fun _ _=>False) s₁) (fun _ _=>False) s)
  (n:Nat) (h:I n s) :
  codeAny (model prog w) A (.compLoop (.ListComp elt [⟨target,iter,ifs,0⟩] scope pos) 0 it acc env) R s:=by
 refine codeAny_loop rfl I (fun n s hI=>?_) n h;show wpAny _ A ((compTurn (.ListComp elt [⟨target,iter,ifs,0⟩] scope pos) 0 it acc env).onRaise (fun x=>do noteFrame x env;theTreesLotGoes x)) _ _ s;refine wpAny_noted ?_;rw[compTurn_list];refine zw (wpAny_standAt (zw (wpAny_mono (turn n s hI) (fun r s₁ h₁=>?_) fun _ _ h'=>h'.elim)));cases r with
 | none=>exact zj h₁
 | some v =>
  refine zw (wpAny_mono h₁ (fun _ s₁' h₁'=>?_) fun _ _ h'=>h'.elim);refine zw (wpAny_mono h₁' (fun _ s₂ h₂=>zw (wpAny_mono h₂ (fun ok s₃ h₃=>?_) fun _ _ h'=>h'.elim)) fun _ _ h'=>h'.elim);cases ok with
  | false=>exact zj ⟨rfl,h₃⟩
  | true =>
   exact zw (zw (wpAny_mono h₃ (fun x s₄ h₄=>zw (wpAny_mono h₄ (fun _ s₅ h₅=>zj (zj ⟨rfl,h₅⟩)) fun _ _ h'=>h'.elim)) fun _ _ h'=>h'.elim))
theorem lookup_relabel {env:Env}{y:Str}:∀ {names:List (Str×NameKind)},
  (names.map fun (n,k)=>if (k==NameKind.free&&env.scope.kind==.function&&env.kindOf n==some .cell) then (n,NameKind.cell) else (n,k)).lookup y =
   (names.lookup y).map fun k=>if (k==NameKind.free&&env.scope.kind==.function&&env.kindOf y==some .cell) then NameKind.cell else k
 | []=>rfl
 | (n,k)::r=>by
  have ih:=@lookup_relabel env y r;rw[ze];by_cases hx:y=n
  ·subst hx
   dsimp only;split <;> simp_all [yV]
  ·have hb:(y==n)=false:=beq_eq_false_iff_ne.mpr hx
   dsimp only;split <;> simp only[yV,hb] <;> exact ih
noncomputable def cxComp (X:Cx)(scope:Scope)(cl:List (Str×Addr))(C:Addr)(N':List Str)(s:Shared)(H:Hp)(fp:List Addr):Cx where
 prog:=X.prog
 w:=X.w
 K:=X.K
 mg:=X.mg
 base:=X.base
 A:=X.A
 N:=N'
 s₀:=s
 H₀:=H
 env:=compEnvC scope cl C X.env
 outer:=X.stack
 stack:=X.stack
 ex:=fp
 fn:=fun _=>false
 calm:=X.calm
 pn:=[]
 xe:=fun _ _=>False
structure CompSc (X:Cx) (scope:Scope) (cl:List (Str×Addr)) (xs:List Str) (N':List Str):Prop where
 kind:scope.kind=.function
 nocell:∀ y∈scope.names,y.2≠.cell
 loc:∀ x∈xs,scope.names.lookup x=some .local
 names:∀ y∈scope.names,y.2=.local->scope.names.lookup y.1=some .local
 only:∀ y,scope.names.lookup y=some .local->y∈xs\/y=(".0" : Str)
 clos:closureFor scope X.env=pure cl
 cls:∀ y c,cl.lookup y=some c->X.env.cells.lookup y=some c
 has:∀ y,scope.names.lookup y=some .free->∃ c,cl.lookup y=some c
 out:∀ y,scope.names.lookup y=some .free->X.env.kindOf y=some .cell\/X.env.kindOf y=some .free
 nd:N'.Nodup
 n0:∀ (i:Nat) (y:Str),xs[i]?=some y->N'[i]?=some y
 ns:∀ (i:Nat) (y:Str),N'[i + xs.length]?=some y->y ∉ xs/\y≠(".0" : Str)/\(X.N[i]?=some y\/¬ Vis scope y)
 len:N'.length=X.N.length + xs.length
theorem kind_relabel {scope:Scope}{env:Env}{y:Str}:(relabel scope env).names.lookup y=(scope.names.lookup y).map fun k=>if (k==NameKind.free&&env.scope.kind==.function&&env.kindOf y==some .cell) then NameKind.cell else k:=lookup_relabel
theorem lookup_mem {y:Str}{k:NameKind}:∀ {names:List (Str×NameKind)},names.lookup y=some k->(y,k)∈names:=fun h=>PySem.mem_of_lookup h
section
variable {X:Cx}{scope:Scope}{cl:List (Str×Addr)}{xs:List Str}{N':List Str}{pins:List (Addr×Obj)}{σ:St}{H:Hp}{s:Shared}{fp:List Addr}
theorem CompSc.cellAt (S:CompSc X scope cl xs N'){C:Addr}{y:Str}(h:(compEnvC scope cl C X.env).kindOf y=some .cell\/(compEnvC scope cl C X.env).kindOf y=some .free):scope.names.lookup y=some .free:=by
 have e:(compEnvC scope cl C X.env).kindOf y=(scope.names.lookup y).map fun k=>if (k==NameKind.free&&X.env.scope.kind==.function&&X.env.kindOf y==some .cell) then NameKind.cell else k:=kind_relabel;rw[e]at h;cases q:scope.names.lookup y with
 | none=>rw[q]at h;simp at h
 | some k =>
  rw[q]at h;cases k with
  | free=>rfl
  | cell=>exact absurd rfl (S.nocell _ (lookup_mem q))
  | _=>simp at h
theorem comp_ok (I:Inv X pins σ H s)(S:CompSc X scope cl xs N')(hf:∀ b∈fp,FpOk X pins H b){C:Addr}(hC:s.heap.objs.size<=C)(hfs:∀ b∈fp,b < s.heap.objs.size) :
  (cxComp X scope cl C N' s H fp).Ok where
 mod:=I.ok.mod
 kind:=S.kind
 glob:=I.ok.glob
 blt:=I.ok.blt
 above:=hC
 inj:=fun y z c h1 h2=>I.ok.inj y z c (S.cls _ _ h1) (S.cls _ _ h2)
 has:=fun y h=>S.has y (S.cellAt h)
 cab:=fun y c h=>by cases h
 hd:=I.ok.hd
 frames:=I.ok.frames
 stk:=.inl rfl
 exf:=fun b hb=>⟨zE (zJ (hfs b hb) hC),fun y c e=>(hf b hb).2.2.2.2.1 y c (S.cls _ _ e)⟩
 bs:=I.bs
 bsz:=zH I.ok.bsz I.sz
 noex:=fun b o e hb=>by
  rcases (hf b hb).2.2.2.1 with z | z
  ·exact I.ok.noex b o e z
  ·exact absurd (zJ (za e) (zH I.ok.bsz z)) (yi _)
 exfs:=fun b hb z=>by
  rcases zN.mp (I.stkSub b z) with e | e
  ·exact(hf b hb).2.1 e
  ·exact(hf b hb).2.2.1 e
 funs:=I.stack
 frf:=I.stkFree
theorem comp_enter (I:Inv X pins σ H s)(S:CompSc X scope cl xs N')(hf:∀ b∈fp,FpOk X pins H b){C:Addr}{h₁:Heap}{tk:Nat}{m:Str->Option Value}(hC:s.heap.objs.size<=C)(hfs:∀ b∈fp,b < s.heap.objs.size)
  (old:∀ b o,s.heap.get? b=some o->h₁.get? b=some o) (hns:h₁.Ns C m):Inv (cxComp X scope cl C N' s H fp) (X.pn++pins) (yF xs.length none++σ) H { s with heap:=h₁,toks:=tk }:=by
 refine⟨comp_ok I S hf hC hfs,rfl,I.bare,Un.kept old,⟨m,hns,fun i y v e1 e2 e3=>?_⟩,fun y c e=>?_,I.hok.fresh hC,fun y c e=>I.freeC y c (S.cls _ _ e),fun p hp=>?_,I.hok.kept old,?_⟩
 ·by_cases hi:i < xs.length
  ·rw[zA (by rw[yo];exact hi),xf,if_pos hi]at e2
   cases e2
  ·obtain⟨j,rfl⟩:∃ j,i=j + xs.length:=⟨i - xs.length,by omega⟩
   obtain⟨n1,n2,n3⟩:=S.ns j y e1;have e2':σ[j]?=some (some v):=by
    rw[zL (by rw[yo];omega),yo,wN]at e2;exact e2
   have e:(relabel scope X.env).names.lookup y=(scope.names.lookup y).map fun k=>if (k==NameKind.free&&X.env.scope.kind==.function&&X.env.kindOf y==some .cell) then NameKind.cell else k:=kind_relabel;have e3':(relabel scope X.env).names.lookup y=some .local\/(relabel scope X.env).names.lookup y=some .cell\/(relabel scope X.env).names.lookup y=some .free:=e3;have q:scope.names.lookup y=some .free:=by
    cases q:scope.names.lookup y with
    | none=>rw[e,q]at e3';simp at e3'
    | some k =>
     rw[e,q]at e3';cases k with
     | free=>rfl
     | cell=>exact absurd rfl (S.nocell _ (lookup_mem q))
     | «local» =>
      rcases S.only y q with z | z
      ·exact absurd z n1
      ·exact absurd z n2
     | _=>simp at e3'
   have hN:X.N[j]?=some y:=by
    rcases n3 with z | z
    ·exact z
    ·exact absurd (Or.inr (Or.inr q)) z
   obtain⟨m',hn',hl'⟩:=I.loc;have vx:Vis X.env.scope y:=by
    rcases S.out y q with z | z
    ·exact .inr (.inl z)
    ·exact .inr (.inr z)
   obtain⟨u,ru,lk⟩:=hl' j y v hN e2' vx;refine⟨u,ru,?_⟩;rcases lk with ⟨k1,_⟩|⟨_,c,hc,o,ho,hd⟩
   ·rcases S.out y q with z | z
    ·rw[z]at k1;cases k1
    ·rw[z]at k1;cases k1
   ·obtain⟨c',hc'⟩:=S.has y q
    have:=S.cls y c' hc'
    rw[hc]at this;cases this;refine .inr ⟨?_,c,hc',o,old _ _ ho,hd⟩;rw[e,q]at e3';show (relabel scope X.env).names.lookup y=some .cell\/(relabel scope X.env).names.lookup y=some .free;rw[e,q];rcases e3' with z | z
    ·simp only[xy,Option.some.injEq]at z
     split at z <;> cases z
    ·exact z
 ·obtain⟨v,o,ho,hd⟩:=I.cell y c (S.cls _ _ e)
  exact⟨v,o,old _ _ ho,hd⟩
 ·have hp':p∈X.pn++pins:=hp
  obtain⟨e,n,ne,nf,d⟩:=I.pin p hp';refine⟨old _ _ e,n,zE (zJ (za e) hC),fun z=>?_,d⟩;rcases zN.mp (I.stkSub _ z) with q | q
  ·exact ne q
  ·exact nf q
 ·show (yF xs.length none++σ).length=N'.length
  rw[S.len,zp,yo,I.len,vb]
end
theorem Un.adopt {fs ex:List Addr}{H H':Hp}{h h':Heap}{D:Addr}{o:HO}(u:Un fs ex H H' h h')(hD:h.get? D=none)(hn:H' D=none):Un fs ex H (upd H' D o) h h' where
 keep:=u.keep
 slot:=u.slot
 free:=fun b ob q n hx=>by
  have:b≠D:=fun z=>by rw[z,hD]at q;cases q
  rw[upd_ne this];exact u.free b ob q n hx
 there:=u.there
 tups:=fun b xs q=>by
  have q':=u.tups b xs q;rw[upd_ne (ne_of_none q' hn)];exact q'
 frzs:=fun b ob v q=>by
  have q':=u.frzs b ob v q;rw[upd_ne (ne_of_none q' hn)];exact q'
 tbls:=fun b ps q=>by
  obtain⟨more,q'⟩:=u.tbls b ps q;exact⟨more,by rw[upd_ne (ne_of_none q' hn)];exact q'⟩
theorem HOk.adopt {P:Program}{w:World}{H:Hp}{h:Heap}{D:Addr}{o:HO}(x:HOk P w H h)(hn:H D=none)(new:ObjOk P w (upd H D o) h D o):HOk P w (upd H D o) h:=fun b u e=>by
 by_cases hb:b=D
 ·subst hb;rw[upd_same]at e;cases e;exact new
 ·rw[upd_ne hb]at e
  exact(x b u e).stay (fun _ _ _ q=>q) (fun c q=>by rw[upd_ne (ne_of_none q hn)];exact q) fun c xs q=>by rw[upd_ne (ne_of_none q hn)];exact q
noncomputable def PTs (X:Cx)(ifs:List Expr)(tc:TT):Prop :=
 ∀ (pins:List (Addr×Obj)) (s:Shared) (σ:St) (H:Hp) (Q:Bool->Hp->Prop),Inv X pins σ H s->tc σ H Q ->
  wpAny (model X.prog X.w) X.A (forIn ifs true fun c r=>if r=true then do let ok <- isTrue c X.env (eval c X.env);pure (ForInStep.yield ok) else pure (ForInStep.yield r)) (TP X pins σ Q) X.xe s
noncomputable def tYes:TT:=fun _ H Q=>Q true H
theorem pts_nil {X:Cx}:PTs X [] tYes:=fun _ _ _ H _ I h=>wpAny_tests_nil ⟨H,I,h⟩
theorem pts_one {X:Cx}{c:Expr}{tc:TT}(hc:PT X c tc):PTs X [c] tc:=fun pins s σ H Q I h=>wpAny_tests_one (hc pins s σ H Q I h)
noncomputable abbrev lobj (its:List Value) (n:Nat):Obj:={ cls:=.type "list",data:=.seq its.toArray n }
noncomputable def CompW (J:It)(g:TG)(kk:Nat)(tc:TT)(te:TE)(σ:St)(Fin:List V->Hp->Prop)(W:Nat->Nat->List V->Hp->Prop):Prop:=∀ i m ys H,W i m ys H ->
 (J.stop i H/\ys.length<=zh/\Fin ys H) \/
 (J.go i H/\ys.length < zh/\∀ v H' (os:St),os.length=kk->J.yld i H v H'->g v (os++σ) H' fun σ1 H1=>∃ os1:St,os1.length=kk/\σ1=os1++σ/\tc σ1 H1 fun b H2=>if b=true then te σ1 H2 fun y H3=>∃ m',m' < m/\W (i + 1) m' (ys++[y]) H3 else ∃ m',m' < m/\W (i + 1) m' ys H2)
section
variable {X:Cx}{scope:Scope}{cl:List (Str×Addr)}{xs:List Str}{tg:Expr}{g:TG}{N':List Str}{pins:List (Addr×Obj)}{σ:St}{H:Hp}{s:Shared}{fp:List Addr}{it:Addr}{J:It}{tn:Nat->Heap->Prop}
 {elt iter:Expr} {ifs:List Expr} {pos:Pos} {tc:TT} {te:TE}
theorem comp_block (hc:X.calm=true)(S:CompSc X scope cl xs N')(hg:∀ C s H fp,PG (cxComp X scope cl C N' s H fp) tg g)(htc:∀ C s H fp,PTs (cxComp X scope cl C N' s H fp) ifs tc)(hte:∀ C s H fp,PE (cxComp X scope cl C N' s H fp) elt te)
  (I:Inv X pins σ H s) (T:Turn X.prog X.w X.K tg J fp it tn) (st:tn 0 s.heap) (hf:∀ b∈fp,FpOk X pins H b)
  {Fin:List V->Hp->Prop} {W:Nat->Nat->List V->Hp->Prop} (hW:CompW J g xs.length tc te σ Fin W) {m0:Nat} (w0:W 0 m0 [] H) {E:Value->Shared->Prop} {RR:Value->Addr->Result->Shared->Prop}
  (fin:∀ (D C:Addr) (s':Shared) (ys:List V) (H':Hp),Inv X pins σ (upd H' D (.lst ys)) s'->H' D=none->upd H' D (.lst ys) C=none->C≠X.env.locals->X.s₀.heap.objs.size<=C->(∀ y c,X.env.cells.lookup y=some c->c≠C)->(∀ p∈X.pn++pins,p.1≠C) ->
   (∃ m,s'.heap.Ns C m)->Fin ys H'->RR (.ref D) C (.ok .next) s') :
  wpAny (model X.prog X.w) X.A (newList []) (fun acc s₃=>wpAny (model X.prog X.w) X.A (newFunctionEnv scope X.env.globals cl [] X.env.qual none .none (some X.env)) (fun cenv s₄ =>
   codeAny (model X.prog X.w) X.A (.compStart (.ListComp elt [⟨tg,iter,ifs,0⟩] scope pos) 0 (.ref it) acc { cenv with scope:=relabel scope X.env }) (RR acc cenv.locals) s₄) E s₃) E s:=by
 have hfs:∀ b∈fp,b < s.heap.objs.size:=fun b hb=>by
  obtain⟨o,e,_⟩:=T.obj _ _ st b hb;exact za e
 refine wpAny_newObj_type (wpAny_newFunctionEnv S.nocell (by intro y hy;simp at hy) (fun h₁ hns₁ hsb₁=>?_) S.kind);dsimp only at hns₁ hsb₁ ⊢;generalize hH2:s.heap.push { cls:=.type "list",dict:=none,data:=.seq ([]:List Value).toArray }=H2 at hns₁ hsb₁ ⊢;generalize hDe:s.heap.objs.size=D at *;generalize hCe:H2.objs.size=C at *;have hC:C=D + 1:=by rw[<- hCe,<- hH2,xQ,hDe]
 have hDC:D≠C:=by rw[hC];exact zE (Nat.lt_succ_self _)
 have hDle:D<=C:=by rw[hC];exact yQ _
 have old:∀ b o,s.heap.get? b=some o->h₁.get? b=some o:=fun b o e=>by
  have hb:b < D:=hDe ▸ za e;exact hsb₁.extBut b o (zE (zJ hb hDle)) (zb _ (hH2 ▸ zb _ e))
 have hacc:h₁.get? D=some (lobj [] 0):=hsb₁.extBut _ _ hDC (zb _ (hH2 ▸ hDe ▸ zR _ rfl));have hsD:s.heap.get? D=none:=xI (yY hDe);have ptD:∀ p∈X.pn++pins,p.1 < D:=fun p hp=>hDe ▸ za (I.pin p hp).1;have clD:∀ y c,X.env.cells.lookup y=some c->c < D:=fun y c e=>by
  obtain⟨v,o,ho,_⟩:=I.cell y c e;exact hDe ▸ za ho
 have fsD:∀ b∈frs X.stack,b < D:=fun b hb=>by
  obtain⟨_,o,ho,_⟩:=I.stack.mem hb;exact hDe ▸ za ho
 have loop:∀ s₃:Shared,s₃ = { s with heap:=h₁,toks:=s.toks + ([]:List (Str×Value)).length } ->
   codeAny (model X.prog X.w) X.A (.compLoop (.ListComp elt [⟨tg,iter,ifs,0⟩] scope pos) 0 (.ref it) (.ref D) (compEnvC scope cl C X.env)) (RR (.ref D) C) s₃:=by
  rintro s₃ rfl;have I₁:Inv (cxComp X scope cl C N' s H fp) (X.pn++pins) (yF xs.length none++σ) H { s with heap:=h₁,toks:=s.toks + ([]:List (Str×Value)).length } :=
   comp_enter I S hf (by rw[hDe];exact hDle) (fun b hb=>by rw[hDe];exact hfs b hb) old hns₁
  have pinD:∀ {its:List Value} {n:Nat} {σ':St} {H':Hp} {s':Shared},Inv (cxComp X scope cl C N' s H fp) (X.pn++pins) σ' H' s'->s'.heap.get? D=some (lobj its n)->H' D=none ->
    Inv (cxComp X scope cl C N' s H fp) ((X.pn++pins)++[(D,lobj its n)]) σ' H' s':=fun {its n σ' H' s'} J' e n=>J'.pins_of fun p hp=>by
   rcases zF.mp hp with hp | hp
   ·exact J'.pin p (zX _ hp)
   ·rw[zd.mp hp]
    exact⟨e,n,hDC,fun z=>yi _ (fsD D z),fun v z=>by cases z⟩
  refine codeAny_compLoop_own (fun k s'=>∃ (i:Nat) (ys:List V) (its:List Value) (n:Nat) (os:St) (H':Hp),os.length=xs.length/\Inv (cxComp X scope cl C N' s H fp) ((X.pn++pins)++[(D,lobj its n)]) (os++σ) H' s'/\Vals ys its/\tn i s'.heap/\(∀ b∈fp,H' b=none)/\W i k ys H') ?_ m0
   ⟨0,[],[],0,yF xs.length none,H,yo ..,pinD I₁ hacc (I.hok.fresh (yY hDe)),.nil,T.keep _ _ _ st fun b _ o e=>old b o e,fun b hb=>(hf b hb).1,w0⟩
  rintro k s4 ⟨i,ys,its,n,os,H4,ho4,I4,rv,st4,fr4,w4⟩;have pD:∀ {its:List Value} {n:Nat} {pl:List (Addr×Obj)} {σ':St} {H':Hp} {s':Shared},Inv (cxComp X scope cl C N' s H fp) (((X.pn++pins)++[(D,lobj its n)])++pl) σ' H' s'->s'.heap.get? D=some (lobj its n)/\H' D=none:=fun J' =>
   let q:=J'.pin (D,lobj _ _) (zX _ (yE _ (zX _ zD)))
   ⟨q.1,q.2.1⟩
  have stat:∀ {its:List Value} {n:Nat} {H':Hp},(∀ b∈fp,H' b=none)->∀ b∈fp,FpOk (cxComp X scope cl C N' s H fp) ((X.pn++pins)++[(D,lobj its n)]) H' b:=fun {its n H'} hn b hb=>by
   obtain⟨f0,f1,f2,f3,f4,f5⟩:=hf b hb;refine⟨hn b hb,zE (zJ (hfs b hb) hDle),fun z=>?_,.inl hb,fun y c e=>f4 y c (S.cls _ _ e),fun p hp=>?_⟩
   ·rcases zN.mp (I.stkSub b z) with q | q
    ·exact f1 q
    ·exact f2 q
   ·have hp:p∈(X.pn++pins)++[(D,lobj its n)]:=hp
    rcases zF.mp hp with hp | hp
    ·exact f5 p hp
    ·rw[zd.mp hp]
     exact Ne.symm (zE (hfs b hb))
  rcases hW i k ys H4 w4 with ⟨stop,hz,q⟩|⟨go,hz,step⟩
  ·refine thn (T.done (cxComp X scope cl C N' s H fp) rfl rfl rfl hc i _ s4 _ H4 _ I4 (stat fr4) st4 stop) fun r s5 ⟨hr,I5⟩=>?_
   subst hr;obtain⟨gD,nD⟩:=pD (pl:=[]) (by rw[zT];exact I5);have un:Un (frs X.stack) fp H (upd H4 D (.lst ys)) s.heap s5.heap:=Un.adopt I5.base hsD nD;have hok:HOk X.prog X.w (upd H4 D (.lst ys)) s5.heap:=HOk.adopt I5.hok nD ⟨hz,its,n,rv,gD⟩;have I6:Inv X pins σ (upd H4 D (.lst ys)) s5:=I.call' (ch:=fp) I5.os un hok I5.bare fun b hb=>by
    obtain⟨f0,f1,f2,f3,f4,f5⟩:=hf b hb;exact⟨f3,f1,f4,f5⟩
   have cn:H4 C=none:=I5.free;have lo:X.s₀.heap.objs.size<=C:=zH I.sz (by rw[hDe];exact hDle);exact fin D C s5 ys H4 I6 nD (by rw[upd_ne (Ne.symm hDC)];exact cn) (xp (zJ (hDe ▸ I.lt) hDle)) lo (fun y c e=>zE (zJ (clD y c e) hDle)) (fun p hp=>zE (zJ (ptD p hp) hDle))
    (let ⟨m,hm,_⟩:=I5.loc;⟨m,hm⟩) q
  ·refine thn (T.item (cxComp X scope cl C N' s H fp) rfl rfl rfl hc i _ s4 _ H4 _ I4 (stat fr4) st4 go) fun r s5 ⟨u,hr,h5⟩=>?_
   subst hr;refine thn h5 fun _ s6 ⟨v,H6,I6,r6,y6,st6,fr6⟩=>?_;have I6':=I6.pinned (stat fr6) (T.obj _ _ st6);refine thn (hg C s H fp _ s6 _ H6 v u _ I6' r6 (step v H6 os ho4 y6)) fun _ s7 ⟨σ7,H7,I7,os7,ho7,e7,q7⟩=>?_;subst e7;have fpK:∀ {σ':St} {H':Hp} {s':Shared},Inv (cxComp X scope cl C N' s H fp) (((X.pn++pins)++[(D,lobj its n)])++pinsAt fp s6.heap) σ' H' s'->tn (i + 1) s'.heap/\∀ b∈fp,H' b=none:=fun {σ' H' s'} J' =>
    ⟨T.keep _ _ _ st6 fun b hb ob e=>(J'.pin (b,ob) (zX _ (zX _ (mem_pinsAt hb e)))).1,fun b hb=>by
     obtain⟨ob,e,d⟩:=T.obj _ _ st6 b hb;exact(J'.pin (b,ob) (zX _ (zX _ (mem_pinsAt hb e)))).2.1⟩
   refine thn (htc C s H fp _ s7 _ H7 _ I7 q7) fun b s8 ⟨H8,I8,q8⟩=>?_;cases b with
   | false =>
    rw[if_neg zi]at q8 ⊢;obtain⟨m',hm,w8⟩:=q8;obtain⟨t8,f8⟩:=fpK I8;exact⟨m',hm,i + 1,ys,its,n,os7,H8,ho7,I8.unpinned,rv,t8,f8,w8⟩
   | true =>
    rw[if_pos rfl]at q8 ⊢;refine thn (hte C s H fp _ s8 _ H8 _ I8 q8) fun u9 s9 ⟨y,H9,I9,r9,m',hm,w9⟩=>?_;obtain⟨gD,nD⟩:=pD I9;obtain⟨t9,f9⟩:=fpK I9;refine append_at (its:=its.toArray) (n:=n) gD (fun h' sb hD'=>?_) (by have:=rv.length;simp;omega);have I10:Inv (cxComp X scope cl C N' s H fp) (X.pn++pins) (os7++σ) H9 s9:=I9.unpinned.unpinned;have I11:Inv (cxComp X scope cl C N' s H fp) (X.pn++pins) (os7++σ) H9 { s9 with heap:=h' }:=I10.turned (t':=s9.toks) (it:=D) (fun b ob hb e=>sb.extBut b ob hb e) nD hDC (.inr (yY hDe))
     (fun z c e=>zE (clD z c (S.cls _ _ e))) fun p hp=>zE (ptD p hp)
    refine⟨m',hm,i + 1,ys++[y],its++[u9],n + 1,os7,H9,ho7,pinD I11 (by rw[hD'];simp) nD,rv.append (.cons r9 .nil),T.keep _ _ _ t9 fun b hb ob e=>sb.extBut b ob (zE (hfs b hb)) e,f9,w9⟩
 exact codeAny_compStart_list (loop _ rfl) (T.self X.A 0 _ _ _ (T.keep _ _ _ st fun b _ o e=>old b o e) (loop _ rfl))
end
noncomputable def tComp (wi:TI)(g:TG)(kk:Nat)(tc:TT)(te:TE):TE:=fun σ H Q=>wi σ H fun J H1=>∃ W:Nat->Nat->List V->Hp->Prop,(∃ m,W 0 m [] H1) /\
 CompW J g kk tc te σ (fun ys H'=>∀ p,H' p=none->Q (.ref p) (upd H' p (.lst ys))) W
section
variable {X:Cx}{scope:Scope}{cl:List (Str×Addr)}{xs:List Str}{tg:Expr}{g:TG}{N':List Str}{elt iter:Expr}{ifs:List Expr}{pos:Pos}{tc:TT}{te:TE}{wi:TI}
theorem ns_gone {pins:List (Addr×Obj)}{σ:St}{H:Hp}{s:Shared}{C:Addr}{h':Heap}(I:Inv X pins σ H s)(sb:Heap.SameBut C s.heap h')(h0:H C=none)(h1:C≠X.env.locals)(h2:X.s₀.heap.objs.size<=C)(h3:∀ y c,X.env.cells.lookup y=some c->c≠C)(h4:∀ p∈X.pn++pins,p.1≠C) :
  Inv X pins σ H { s with heap:=h' }:=I.turned (t':=s.toks) (it:=C) (fun b ob hb e=>sb.extBut b ob hb e) h0 h1 (.inr h2) h3 h4
theorem pe_comp (hc:X.calm=true)(S:CompSc X scope cl xs N')(hg:∀ C s H fp,PG (cxComp X scope cl C N' s H fp) tg g)(hi:PI X tg iter wi)(htc:∀ C s H fp,PTs (cxComp X scope cl C N' s H fp) ifs tc)(hte:∀ C s H fp,PE (cxComp X scope cl C N' s H fp) elt te)
  (hs:∀ x,foldedSetIterable iter X.env x=pure x):PE X (.ListComp elt [⟨tg,iter,ifs,0⟩] scope pos) (tComp wi g xs.length tc te):=by
 intro pins s σ H Q I h;rw[eval_ListComp];refine wpAny_comprehension_free (use:=none) rfl hs S.clos S.kind S.names (thn (hi pins s σ H _ I h) fun v s1 h1=>thn h1 fun itv s2 h2=>?_);obtain⟨it,fp,tn,J,H2,e,I2,T,st2,f2,W,⟨m0,w0⟩,hW⟩:=h2;subst e;refine comp_block (RR:=fun acc C=>compPost (model X.prog X.w) X.A X.xe none (EP X pins σ Q) acc C) hc S hg htc hte I2 T st2 f2 hW w0 ?_;intro D C s' ys H' I' nD cn c1 c2 c3 c4 ns q;obtain⟨m,hm⟩:=ns;exact⟨m,hm,fun h' sb=>⟨.ref D,_,ns_gone I' sb cn c1 c2 c3 c4,rfl,q D nD⟩⟩
theorem ps_comp {x:Str}{px:Pos}{i:Nat}{y:Str}{py spos:Pos}(hc:X.calm=true)(S:CompSc X scope cl xs N')(hg:∀ C s H fp,PG (cxComp X scope cl C N' s H fp) (.Name x px) g)(hi:PI X (.Name x px) iter wi)(htc:∀ C s H fp,PTs (cxComp X scope cl C N' s H fp) ifs tc)(hte:∀ C s H fp,PE (cxComp X scope cl C N' s H fp) elt te)
  (hs:∀ x,foldedSetIterable iter X.env x=pure x) (hN:X.N.Nodup) (hy:X.N[i]?=some y) (hx:Loc X.env.scope y) (hf:X.fn y=true\/X.env.scope.names.lookup y=some .local) :
  PS X (.Assign [.Name y py] (.ListComp elt [⟨.Name x px,iter,ifs,0⟩] scope pos) spos) (tAsg (tComp wi g xs.length tc te) (gName i)):=by
 have hsw:∃ b:Bool,swapsWith (.ListComp elt [⟨.Name x px,iter,ifs,0⟩] scope pos) (some (.Name y py)) spos.line X.env=pure b:=⟨_,rfl⟩;obtain⟨b,hsw⟩:=hsw;cases b with
 | false=>exact ps_set hN hy hx (pe_comp hc S hg hi htc hte hs) hsw hf
 | true =>
  intro pins s σ H D I h;rw[exec_Assign_Name_used _ _ _ _ hsw];refine zw (wpAny_standAt (zw ?_));show wpAny _ X.A (do let _ <- comprehension (.ListComp elt [⟨.Name x px,iter,ifs,0⟩] scope pos) scope X.env _ (newList []) false (eval iter X.env) (some (assign (.Name y py) X.env))) _ _ s;refine zw (thn (wpAny_comprehension_free (use:=some (assign (.Name y py) X.env)) (Q:=fun _ s'=>SP X pins D .next s') rfl hs S.clos S.kind S.names
   (thn (hi pins s σ H _ I h) fun v s1 h1=>thn h1 fun itv s2 h2=>?_)) fun _ s' hq=>zj (zj hq))
  obtain⟨it,fp,tn,J,H2,e,I2,T,st2,f2,W,⟨m0,w0⟩,hW⟩:=h2;subst e;refine comp_block (RR:=fun acc C=>compPost (model X.prog X.w) X.A X.xe (some (assign (.Name y py) X.env)) (fun _ s'=>SP X pins D .next s') acc C) hc S hg htc hte I2 T st2 f2 hW w0 ?_;intro Dl C s' ys H' I' nD cn c1 c2 c3 c4 ns q;obtain⟨m,hm⟩:=ns;show wpAny _ X.A (assign (.Name y py) X.env (.ref Dl)) _ _ _;refine wpAny_assign_Name (store_ok2 I' hN hy hx (v:=.ref Dl) rfl (fun s2 I2' ⟨a,sb,ha⟩=>?_) hf);have hCa:C≠a:=by
   rcases ha with z | z
   ·rw[z];exact c1
   ·exact fun e=>c3 _ _ z e.symm
  refine⟨m,hm.sameBut sb hCa,fun h' sb'=>?_⟩;exact⟨_,_,ns_gone I2' sb' cn c1 c2 c3 c4,q Dl nD⟩
end
end L2
namespace L3
open PySem PySem.Spec PyProof.Rows L2
noncomputable abbrev St:=L2.St
noncomputable def FzL (K:PySem.W.Frag)(H:Hp)(a:Addr)(xs:List V):Prop :=
 (∃ o,H a=some (.frz o (.lst xs))) \/
  ∃ (o:Obj) (its:Array Value) (n:Nat),K.lookup a=some o/\o.cls=.type "list"/\o.dict=none/\o.data=.seq its n/\its.size<=zh/\Vals xs its.toList
theorem FzL.seq {K:PySem.W.Frag}{H:Hp}{a:Addr}{xs:List V}(h:FzL K H a xs):SqL K H a xs:=by
 rcases h with ⟨o,h⟩ | h
 ·exact .inl (.inr ⟨o,h⟩)
 ·exact .inr h
mutual
inductive Rep (K:PySem.W.Frag) (ι:List Addr) (H:Hp):D->V->Prop where
 | non:Rep K ι H .non .non
 | bl (b:Bool):Rep K ι H (.bl b) (.bl b)
 | int (i:Int):Rep K ι H (.int i) (.int i)
 | str (x:Str):Rep K ι H (.str x) (.str x)
 | tup {a:Addr} {vs:List V} {ds:List D}:H a=some (.tup vs)->Reps K ι H ds vs->Rep K ι H (.tup ds) (.ref a)
 | fl {a:Addr} {vs:List V} {ds:List D}:FzL K H a vs->Reps K ι H ds vs->Rep K ι H (.fl ds) (.ref a)
 | ob {i:Nat} {a:Addr}:ι[i]?=some a->Rep K ι H (.ob i) (.ref a)
inductive Reps (K:PySem.W.Frag) (ι:List Addr) (H:Hp):List D->List V->Prop where
 | nil:Reps K ι H [] []
 | cons {d:D} {v:V} {ds:List D} {vs:List V}:Rep K ι H d v->Reps K ι H ds vs->Reps K ι H (d::ds) (v::vs)
end
structure Ext (K:PySem.W.Frag) (ι:List Addr) (H:Hp) (ι':List Addr) (H':Hp):Prop where
 pre:∀ (i:Nat) (a:Addr),ι[i]?=some a->ι'[i]?=some a
 tup:∀ a xs,H a=some (.tup xs)->H' a=some (.tup xs)
 fz:∀ a xs,FzL K H a xs->FzL K H' a xs
section
variable {K:PySem.W.Frag}{ι ι' ι'':List Addr}{H H' H'':Hp}
theorem Ext.refl:Ext K ι H ι H where
 pre:=fun _ _ e=>e
 tup:=fun _ _ e=>e
 fz:=fun _ _ e=>e
theorem Ext.trans (a:Ext K ι H ι' H')(b:Ext K ι' H' ι'' H''):Ext K ι H ι'' H'' where
 pre:=fun i c e=>b.pre i c (a.pre i c e)
 tup:=fun c xs e=>b.tup c xs (a.tup c xs e)
 fz:=fun c xs e=>b.fz c xs (a.fz c xs e)
mutual
theorem Rep.mono (x:Ext K ι H ι' H'):∀ {d:D} {v:V},Rep K ι H d v->Rep K ι' H' d v
 | _,_,.non=>.non
 | _,_,.bl b=>.bl b
 | _,_,.int i=>.int i
 | _,_,.str y=>.str y
 | _,_,.tup a r=>.tup (x.tup _ _ a) (Reps.mono x r)
 | _,_,.fl a r=>.fl (x.fz _ _ a) (Reps.mono x r)
 | _,_,.ob e=>.ob (x.pre _ _ e)
theorem Reps.mono (x:Ext K ι H ι' H'):∀ {ds:List D} {vs:List V},Reps K ι H ds vs->Reps K ι' H' ds vs
 | _,_,.nil=>.nil
 | _,_,.cons r t=>.cons (Rep.mono x r) (Reps.mono x t)
end
theorem Reps.length:∀ {ds:List D} {vs:List V},Reps K ι H ds vs->ds.length=vs.length
 | _,_,.nil=>rfl
 | _,_,.cons _ t=>by rw[zM,zM,Reps.length t]
theorem Reps.get:∀ {ds:List D} {vs:List V} {i:Nat} {d:D},Reps K ι H ds vs->ds[i]?=some d->∃ v,vs[i]?=some v/\Rep K ι H d v
 | _,_,_,_,.nil,e=>by simp at e
 | _,_,0,_,.cons r _,e=>by simp at e;subst e;exact⟨_,rfl,r⟩
 | _,_,i + 1,d,.cons _ t,e=>by
  obtain⟨v,h1,h2⟩:=Reps.get (i:=i) (d:=d) t (by simpa using e);exact⟨v,by simpa using h1,h2⟩
theorem Reps.append:∀ {ds es:List D} {vs us:List V},Reps K ι H ds vs->Reps K ι H es us->Reps K ι H (ds++es) (vs++us)
 | _,_,_,_,.nil,s=>s
 | _,_,_,_,.cons r t,s=>.cons r (Reps.append t s)
theorem Reps.take:∀ {ds:List D} {vs:List V} (n:Nat),Reps K ι H ds vs->Reps K ι H (ds.take n) (vs.take n)
 | _,_,0,_=>.nil
 | _,_,_ + 1,.nil=>.nil
 | _,_,n + 1,.cons r t=>.cons r (Reps.take n t)
theorem Reps.drop:∀ {ds:List D} {vs:List V} (n:Nat),Reps K ι H ds vs->Reps K ι H (ds.drop n) (vs.drop n)
 | _,_,0,r=>r
 | _,_,_ + 1,.nil=>.nil
 | _,_,n + 1,.cons _ t=>Reps.drop n t
theorem Reps.set {d:D}{v:V}(r:Rep K ι H d v):∀ {ds:List D} {vs:List V} (i:Nat),Reps K ι H ds vs->Reps K ι H (ds.set i d) (vs.set i v)
 | _,_,_,.nil=>.nil
 | _,_,0,.cons _ t=>.cons r t
 | _,_,i + 1,.cons q t=>.cons q (Reps.set r i t)
noncomputable def KR (K:PySem.W.Frag)(ι:List Addr)(H:Hp):List (Ky×D)->List (Key×V)->Prop:=Paired fun p q=>p.1=q.1/\Rep K ι H p.2 q.2
noncomputable def TR (K:PySem.W.Frag)(ι:List Addr)(H:Hp):List (List (List Ky)×D)->List (List (List Key)×V)->Prop:=Paired fun p q=>p.1=q.1/\Rep K ι H p.2 q.2
noncomputable def ORep (K:PySem.W.Frag)(ι:List Addr)(H:Hp):MO->Option HO->Prop
 | .lst ds,x=>∃ vs,x=some (.lst vs)/\Reps K ι H ds vs
 | .dic kvs,x=>∃ ws,x=some (.dK ws)/\KR K ι H kvs ws
 | .dtt kvs,x=>∃ ws,x=some (.dTT ws)/\TR K ι H kvs ws
theorem KR.mono (x:Ext K ι H ι' H'){a:List (Ky×D)}{b:List (Key×V)}(r:KR K ι H a b):KR K ι' H' a b:=Paired.mapP r fun _ _ z=>⟨z.1,z.2.mono x⟩
theorem TR.mono (x:Ext K ι H ι' H'){a:List (List (List Ky)×D)}{b:List (List (List Key)×V)}(r:TR K ι H a b):TR K ι' H' a b:=Paired.mapP r fun _ _ z=>⟨z.1,z.2.mono x⟩
theorem ORep.mono (x:Ext K ι H ι' H'){o:MO}{h:Option HO}(r:ORep K ι H o h):ORep K ι' H' o h:=by
 cases o with
 | lst ds=>obtain⟨vs,e,q⟩:=r;exact⟨vs,e,q.mono x⟩
 | dic kvs=>obtain⟨ws,e,q⟩:=r;exact⟨ws,e,q.mono x⟩
 | dtt kvs=>obtain⟨ws,e,q⟩:=r;exact⟨ws,e,q.mono x⟩
noncomputable def MutO (u:HO):Prop:=(∀ xs,u≠.tup xs)/\∀ o v,u≠.frz o v
theorem mut_l (vs:List V):MutO (.lst vs):=⟨fun _ z=>(nomatch z),fun _ _ z=>(nomatch z)⟩
theorem mut_d (vs:List (Key×V)):MutO (.dK vs):=⟨fun _ z=>(nomatch z),fun _ _ z=>(nomatch z)⟩
theorem mut_t (vs:List (List (List Key)×V)):MutO (.dTT vs):=⟨fun _ z=>(nomatch z),fun _ _ z=>(nomatch z)⟩
theorem ORep.some {o:MO}{h:Option HO}(r:ORep K ι H o h):∃ u,h=.some u/\MutO u:=by
 cases o with
 | lst ds=>obtain⟨vs,e,q⟩:=r;exact⟨_,e,mut_l _⟩
 | dic kvs=>obtain⟨ws,e,q⟩:=r;exact⟨_,e,mut_d _⟩
 | dtt kvs=>obtain⟨ws,e,q⟩:=r;exact⟨_,e,mut_t _⟩
structure Sim (K:PySem.W.Frag) (ι:List Addr) (M:MH) (H:Hp):Prop where
 len:ι.length=M.length
 inj:∀ (i j:Nat) (a:Addr),ι[i]?=some a->ι[j]?=some a->i=j
 obj:∀ (i:Nat) (a:Addr) (o:MO),ι[i]?=some a->M[i]?=some o->ORep K ι H o (H a)
theorem sqt {a:Addr}{xs:List V}(h:H a=some (.tup xs)):SqT K H a xs:=.inl (.inl h)
theorem Ext.new {p:Addr}{ho:HO}(hp:H p=none):Ext K ι H (ι++[p]) (upd H p ho) where
 pre:=fun i a e=>by
  have hi:i < ι.length:=(zr.mp e).1;rw[zA hi];exact e
 tup:=fun a xs h=>by rw[upd_ne (ne_of_none h hp)];exact h
 fz:=fun a xs h=>by
  rcases h with ⟨o,h⟩ | h
  ·exact .inl ⟨o,by rw[upd_ne (ne_of_none h hp)];exact h⟩
  ·exact .inr h
theorem Ext.tupN {p:Addr}{ho:HO}(hp:H p=none):Ext K ι H ι (upd H p ho) where
 pre:=fun i a e=>e
 tup:=fun a xs h=>by rw[upd_ne (ne_of_none h hp)];exact h
 fz:=fun a xs h=>by
  rcases h with ⟨o,h⟩ | h
  ·exact .inl ⟨o,by rw[upd_ne (ne_of_none h hp)];exact h⟩
  ·exact .inr h
theorem Ext.write {p:Addr}{u ho:HO}(hp:H p=some u)(hu:MutO u):Ext K ι H ι (upd H p ho) where
 pre:=fun i a e=>e
 tup:=fun a xs h=>by rw[upd_ne (ne_of h hp fun z=>hu.1 _ z.symm)];exact h
 fz:=fun a xs h=>by
  rcases h with ⟨o,h⟩ | h
  ·exact .inl ⟨o,by rw[upd_ne (ne_of h hp fun z=>hu.2 _ _ z.symm)];exact h⟩
  ·exact .inr h
variable {M M':MH}
theorem Sim.tracked (S:Sim K ι M H){i:Nat}{a:Addr}(e:ι[i]?=some a):∃ u,H a=some u/\MutO u:=by
 have hi:i < M.length:=by rw[<- S.len];exact(zr.mp e).1
 exact(S.obj i a _ e (zv hi)).some
theorem Sim.new (S:Sim K ι M H){p:Addr}{o:MO}{ho:HO}(hp:H p=none)(r:ORep K (ι++[p]) (upd H p ho) o (some ho)):Sim K (ι++[p]) (M++[o]) (upd H p ho) where
 len:=by rw[zp,zp,S.len];rfl
 inj:=fun i j a h1 h2=>by
  have np:∀ (k:Nat),ι[k]?=some p->False:=fun k e=>by
   obtain⟨u,hu,_⟩:=S.tracked e;rw[hp]at hu;cases hu
  by_cases hi:i < ι.length
  ·rw[zA hi]at h1
   by_cases hj:j < ι.length
   ·rw[zA hj]at h2
    exact S.inj i j a h1 h2
   ·rw[zL (by first | lia | omega)]at h2
    have e:a=p:=by
     have:=zn h2
     simpa using this
    subst e;exact(np i h1).elim
  ·rw[zL (by first | lia | omega)]at h1
   have e:a=p:=by
    have:=zn h1
    simpa using this
   subst e;by_cases hj:j < ι.length
   ·rw[zA hj]at h2
    exact(np j h2).elim
   ·have l1:=(zr.mp h1).1
    rw[zL (by first | lia | omega)]at h2
    have l2:=(zr.mp h2).1;simp at l1 l2;first | lia | omega
 obj:=fun i a q h1 h2=>by
  by_cases hi:i < ι.length
  ·rw[zA hi]at h1
   rw[zA (by rw[<- S.len];exact hi)]at h2;have z:=S.obj i a q h1 h2;obtain⟨u,hu,_⟩:=S.tracked h1;rw[upd_ne (ne_of_none hu hp)];exact z.mono (Ext.new hp)
  ·rw[zL (by first | lia | omega)]at h1
   rw[zL (by rw[<- S.len];omega)]at h2;have e:a=p:=by
    have:=zn h1
    simpa using this
   have e':q=o:=by
    have:=zn h2
    simpa using this
   subst e e';rw[upd_same];exact r
theorem Sim.tupN (S:Sim K ι M H){p:Addr}{ho:HO}(hp:H p=none):Sim K ι M (upd H p ho) where
 len:=S.len
 inj:=S.inj
 obj:=fun i a o h1 h2=>by
  obtain⟨u,hu,_⟩:=S.tracked h1;rw[upd_ne (ne_of_none hu hp)];exact(S.obj i a o h1 h2).mono (Ext.tupN hp)
theorem Sim.put (S:Sim K ι M H){i:Nat}{a:Addr}{o:MO}{ho:HO}(e:ι[i]?=some a)(r:ORep K ι (upd H a ho) o (some ho)):Sim K ι (M.set i o) (upd H a ho):=by
 obtain⟨u,hu,mu⟩:=S.tracked e;refine⟨by rw[zU];exact S.len,S.inj,fun j b q h1 h2=>?_⟩;by_cases hij:j=i
 ·subst hij
  rw[e]at h1;cases h1;have hj:j < M.length:=by rw[<- S.len];exact(zr.mp e).1
  rw[zQ hj]at h2;cases h2;rw[upd_same];exact r
 ·rw[zk (Ne.symm hij)]at h2
  have hb:b≠a:=fun z=>by subst z;exact hij (S.inj j i b h1 e)
  rw[upd_ne hb];exact(S.obj j b q h1 h2).mono (Ext.write hu mu)
structure EnvR (K:PySem.W.Frag) (ι:List Addr) (H:Hp) (ρ:Ev) (σ:St):Prop where
 len:ρ.length=σ.length
 val:∀ (i:Nat) (d:D),ρ[i]?=some (some d)->∃ v,σ[i]?=some (some v)/\Rep K ι H d v
theorem EnvR.mono (x:Ext K ι H ι' H'){ρ:Ev}{σ:St}(r:EnvR K ι H ρ σ):EnvR K ι' H' ρ σ:=⟨r.len,fun i d e=>let ⟨v,h1,h2⟩:=r.val i d e;⟨v,h1,h2.mono x⟩⟩
theorem EnvR.set {ρ:Ev}{σ:St}{d:D}{v:V}(r:EnvR K ι H ρ σ)(q:Rep K ι H d v)(i:Nat):EnvR K ι H (ρ.set i (some d)) (σ.set i (some v)) where
 len:=by rw[zU,zU];exact r.len
 val:=fun j c e=>by
  by_cases hij:j=i
  ·subst hij
   by_cases hj:j < ρ.length
   ·rw[zQ hj]at e
    cases e;exact⟨v,by rw[zQ (by rw[<- r.len];exact hj)],q⟩
   ·rw[zZ (by rw[zU];omega)]at e;cases e
  ·rw[zk (Ne.symm hij)]at e
   obtain⟨u,h1,h2⟩:=r.val j c e;exact⟨u,by rw[zk (Ne.symm hij)];exact h1,h2⟩
theorem EnvR.comp {ρ:Ev}{σ:St}{d:D}{v:V}(r:EnvR K ι H ρ σ)(q:Rep K ι H d v)(j:Nat):EnvR K ι H (some d::ρ.set j none) (some v::σ) where
 len:=by rw[zM,zM,zU,r.len]
 val:=fun i c e=>by
  cases i with
  | zero=>simp at e;subst e;exact⟨v,rfl,q⟩
  | succ i =>
   rw[wv]at e;by_cases hij:i=j
   ·subst hij
    by_cases hj:i < ρ.length
    ·rw[zQ hj]at e;cases e
    ·rw[zZ (by rw[zU];omega)]at e;cases e
   ·rw[zk (Ne.symm hij)]at e
    obtain⟨u,h1,h2⟩:=r.val i c e;exact⟨u,by rw[wv];exact h1,h2⟩
end
noncomputable abbrev DE:=Ev->Mo D
noncomputable def LE (K:PySem.W.Frag)(f:DE):TE:=fun σ H Q=>∃ ι ρ M d M',Sim K ι M H/\EnvR K ι H ρ σ/\f ρ M=some (.ok d,M') /\
 ∀ v H' ι',Rep K ι' H' d v->Sim K ι' M' H'->Ext K ι H ι' H'->Q v H'
noncomputable def LT (K:PySem.W.Frag)(f:Ev->Mo Bool):TT:=fun σ H Q=>∃ ι ρ M b M',Sim K ι M H/\EnvR K ι H ρ σ/\f ρ M=some (.ok b,M') /\
 ∀ H' ι',Sim K ι' M' H'->Ext K ι H ι' H'->Q b H'
noncomputable def LA (K:PySem.W.Frag)(f:Ev->Mo (List D)):TA:=fun σ H Q=>∃ ι ρ M ds M',Sim K ι M H/\EnvR K ι H ρ σ/\f ρ M=some (.ok ds,M') /\
 ∀ vs H' ι',Reps K ι' H' ds vs->Sim K ι' M' H'->Ext K ι H ι' H'->Q vs H'
noncomputable def LO (K:PySem.W.Frag)(f:Ev->Mo (Option Int)):TO:=fun σ H Q=>∃ ι ρ M o M',Sim K ι M H/\EnvR K ι H ρ σ/\f ρ M=some (.ok o,M') /\
 ∀ H' ι',Sim K ι' M' H'->Ext K ι H ι' H'->Q o H'
noncomputable def FlP (K:PySem.W.Frag)(D:Ends)(ι:List Addr)(H:Hp):Fl->Prop
 | .nx ρ=>∀ σ,EnvR K ι H ρ σ->D.nx σ H
 | .rt d=>∀ v,Rep K ι H d v->D.rt v H
 | .bk ρ=>∀ σ,EnvR K ι H ρ σ->D.bk σ H
 | .ct ρ=>∀ σ,EnvR K ι H ρ σ->D.ct σ H
noncomputable def LS (K:PySem.W.Frag)(f:Ev->Mo Fl):TS:=fun D σ H=>∃ ι ρ M fl M',Sim K ι M H/\EnvR K ι H ρ σ/\f ρ M=some (.ok fl,M') /\
 ∀ H' ι',Sim K ι' M' H'->Ext K ι H ι' H'->FlP K D ι' H' fl
theorem PE.imp {X:Cx}{e:Expr}{t t':TE}(h:PE X e t)(k:∀ σ H Q,t' σ H Q->t σ H Q):PE X e t':=fun pins s σ H Q I q=>h pins s σ H Q I (k σ H Q q)
theorem PT.imp {X:Cx}{e:Expr}{t t':TT}(h:PT X e t)(k:∀ σ H Q,t' σ H Q->t σ H Q):PT X e t':=fun pins s σ H Q I q=>h pins s σ H Q I (k σ H Q q)
theorem PTs.imp {X:Cx}{e:List Expr}{t t':TT}(h:PTs X e t)(k:∀ σ H Q,t' σ H Q->t σ H Q):PTs X e t':=fun pins s σ H Q I q=>h pins s σ H Q I (k σ H Q q)
theorem PA.imp {X:Cx}{e:List Expr}{t t':TA}(h:PA X e t)(k:∀ σ H Q,t' σ H Q->t σ H Q):PA X e t':=fun pos pins s σ H Q I q=>h pos pins s σ H Q I (k σ H Q q)
theorem PO.imp {X:Cx}{e:Option Expr}{t t':TO}(h:PO X e t)(k:∀ σ H Q,t' σ H Q->t σ H Q):PO X e t':=fun pins s σ H Q I q=>h pins s σ H Q I (k σ H Q q)
theorem PS.imp {X:Cx}{e:Stmt}{t t':TS}(h:PS X e t)(k:∀ D σ H,t' D σ H->t D σ H):PS X e t':=fun pins s σ H D I q=>h pins s σ H D I (k D σ H q)
theorem PSs.imp {X:Cx}{e:List Stmt}{t t':TS}(h:PSs X e t)(k:∀ D σ H,t' D σ H->t D σ H):PSs X e t':=fun pins s σ H D I q=>h pins s σ H D I (k D σ H q)
noncomputable def OpS (K:PySem.W.Frag)(r:R2)(g:D->D->Mo D):Prop:=∀ (ι:List Addr) (M M':MH) (H:Hp) (x y d:D) (vx vy:V) (Q:VK),Sim K ι M H->Rep K ι H x vx->Rep K ι H y vy->g x y M=some (.ok d,M') ->
 (∀ v H' ι',Rep K ι' H' d v->Sim K ι' M' H'->Ext K ι H ι' H'->Q v H')->r vx vy H Q
section
variable {K:PySem.W.Frag}
theorem LE.bin {fa fb:DE}{g:D->D->Mo D}{r:R2}(ho:OpS K r g)(σ:St)(H:Hp)(Q:VK)(h:LE K (fun ρ=>do let x <- fa ρ;let y <- fb ρ;g x y) σ H Q):tOp r (LE K fa) (LE K fb) σ H Q:=by
 obtain⟨ι,ρ,M,d,M',S,R,e,k⟩:=h;obtain⟨x,M1,e1,e⟩:=bind_ok e;obtain⟨y,M2,e2,e⟩:=bind_ok e;refine⟨ι,ρ,M,x,M1,S,R,e1,fun v1 H1 ι1 r1 S1 X1=>?_⟩;refine⟨ι1,ρ,M1,y,M2,S1,R.mono X1,e2,fun v2 H2 ι2 r2 S2 X2=>?_⟩;exact ho ι2 M2 M' H2 x y d v1 v2 Q S2 (r1.mono X2) r2 e fun v H' ι' r' S' X'=>k v H' ι' r' S' ((X1.trans X2).trans X')
end
theorem need_ok {p:Prop}[Decidable p]{M M':MH}{u:Unit}(h:need p M=some (.ok u,M')):p/\M'=M:=by
 unfold need at h;split at h
 ·rename_i hp
  cases h;exact⟨hp,rfl⟩
 ·cases h
theorem lift_ok {α:Type}{o:Option α}{a:α}{M M':MH}(h:lift o M=some (.ok a,M')):o=some a/\M'=M:=by
 cases o with
 | none=>cases h
 | some b=>cases h;exact⟨rfl,rfl⟩
theorem pure_ok {α:Type}{a b:α}{M M':MH}(h:(pure a:Mo α) M=some (.ok b,M')):b=a/\M'=M:=by
 cases h;exact⟨rfl,rfl⟩
theorem getM_ok {i:Nat}{o:MO}{M M':MH}(h:getM i M=some (.ok o,M')):M[i]?=some o/\M'=M:=by
 unfold getM at h;split at h
 ·rename_i e;cases h;exact⟨e,rfl⟩
 ·cases h
theorem getL_ok {i:Nat}{ds:List D}{M M':MH}(h:getL i M=some (.ok ds,M')):M[i]?=some (.lst ds)/\M'=M:=by
 unfold getL at h;split at h
 ·rename_i e;cases h;exact⟨e,rfl⟩
 ·cases h
theorem getD_ok {i:Nat}{ds:List (Ky×D)}{M M':MH}(h:getD i M=some (.ok ds,M')):M[i]?=some (.dic ds)/\M'=M:=by
 unfold getD at h;split at h
 ·rename_i e;cases h;exact⟨e,rfl⟩
 ·cases h
theorem newM_ok {o:MO}{d:D}{M M':MH}(h:newM o M=some (.ok d,M')):d=.ob M.length/\M'=M++[o]:=by
 cases h;exact⟨rfl,rfl⟩
theorem putM_ok {i:Nat}{o:MO}{u:Unit}{M M':MH}(h:putM i o M=some (.ok u,M')):i < M.length/\M'=M.set i o:=by
 unfold putM at h;split at h
 ·rename_i e;cases h;exact⟨e,rfl⟩
 ·cases h
theorem stop_ok {α:Type}{a:α}{M':MH}(h:(none:Option (Out α×MH))=some (.ok a,M')):False:=by cases h
theorem getT_ok {i:Nat}{ds:List (List (List Ky)×D)}{M M':MH}(h:getT i M=some (.ok ds,M')):M[i]?=some (.dtt ds)/\M'=M:=by
 unfold getT at h;split at h
 ·rename_i e;cases h;exact⟨e,rfl⟩
 ·cases h
end L3
namespace L3
open PySem PySem.Spec PyProof.Rows L2
section
variable {K:PySem.W.Frag}{ι:List Addr}{M:MH}{H:Hp}
theorem keyD_rep {d:D}{v:V}{k:Ky}(r:Rep K ι H d v)(h:kyD d=some k):v=kV k:=by
 cases r <;> simp[kyD]at h <;> subst h <;> rfl
theorem keys_rep:∀ {ds:List D} {vs:List V} {ks:List Ky},Reps K ι H ds vs->kysD ds=some ks->vs=ks.map kV
 | _,_,_,.nil,h=>by cases h;rfl
 | _,_,_,.cons (d:=d) (ds:=ds) r t,h=>by
  unfold kysD at h;split at h
  ·rename_i k ks e1 e2
   cases h;rw[ze,keyD_rep r e1,keys_rep t e2]
  ·cases h
theorem key_p {d:D}{v:V}{k:List Ky}(r:Rep K ι H d v)(h:kyP d=some k):∃ c,v=.ref c/\H c=some (.tup (k.map kV)):=by
 cases r with
 | tup t q=>rw[<- keys_rep q h];exact⟨_,rfl,t⟩
 | _=>cases h
end
end L3
namespace L3
open PySem PySem.Spec PyProof.Rows L2
section
variable {K:PySem.W.Frag}{ι:List Addr}{M:MH}{H:Hp}
theorem sim_tt (S:Sim K ι M H){i:Nat}{kvs:List (List (List Ky)×D)}{v:V}(r:Rep K ι H (.ob i) v)(e:M[i]?=some (.dtt kvs)):∃ a ws,v=.ref a/\ι[i]?=some a/\H a=some (.dTT ws)/\TR K ι H kvs ws:=by
 cases r with
 | ob h =>
  rename_i a;obtain⟨vs,e1,q⟩:=S.obj i a _ h e;exact⟨a,vs,rfl,h,e1,q⟩
theorem TR.find {kvs:List (List (List Ky)×D)}{ws:List (List (List Key)×V)}(r:TR K ι H kvs ws)(k:List (List Ky)):(tkGet kvs k=none/\valV ws k=none)\/∃ d v,tkGet kvs k=some d/\valV ws k=some v/\Rep K ι H d v:=by
 induction r with
 | nil=>exact .inl ⟨rfl,rfl⟩
 | cons h t ih =>
  rename_i a b l1 l2;by_cases e:a.1=k
  ·refine .inr ⟨a.2,b.2,?_,valV_pos (h.1 ▸ e),h.2⟩
   simp[tkGet,yt,e]
  ·have e2:¬ b.1=k:=fun z=>e (h.1.trans z)
   have e3:tkGet (a::l1) k=tkGet l1 k:=by simp[tkGet,yt,e]
   rw[valV_neg e2,e3];exact ih
theorem TR.anyk {kvs:List (List (List Ky)×D)}{ws:List (List (List Key)×V)}(r:TR K ι H kvs ws)(k:List (List Ky)):(kvs.any fun kv=>decide (kv.1=k))=ws.any fun kv=>decide (kv.1=k):=by
 induction r with
 | nil=>rfl
 | cons h t ih=>rw[xx,xx,ih,h.1]
theorem TR.repl {kvs:List (List (List Ky)×D)}{ws:List (List (List Key)×V)}(r:TR K ι H kvs ws)(k:List (List Ky)){d:D}{v:V}(q:Rep K ι H d v) :
  TR K ι H (kvs.map fun kv=>if kv.1=k then (kv.1,d) else kv) (ws.map fun kv=>if kv.1=k then (kv.1,v) else kv):=by
 induction r with
 | nil=>exact .nil
 | cons h t ih =>
  rename_i a b l1 l2;rw[ze,ze];refine .cons ?_ ih;by_cases e:a.1=k
  ·rw[if_pos e,if_pos (h.1 ▸ e)];exact⟨h.1,q⟩
  ·rw[if_neg e,if_neg (fun z=>e (h.1.trans z))];exact h
theorem TR.put {kvs:List (List (List Ky)×D)}{ws:List (List (List Key)×V)}(r:TR K ι H kvs ws)(k:List (List Ky)){d:D}{v:V}(q:Rep K ι H d v):TR K ι H (tkPut kvs k d) (putK ws k v):=by
 unfold tkPut putK;rw[r.anyk k];split
 ·exact r.repl k q
 ·exact Paired.snoc r ⟨rfl,q⟩
theorem keys_t:∀ {ds:List D} {vs:List V} {ks:List (List Ky)},Reps K ι H ds vs->kysT ds=some ks->∃ bs:List Addr,vs=bs.map V.ref/\Paired (fun (ks:List Key) c=>H c=some (.tup (ks.map kV))) ks bs
 | _,_,_,.nil,h=>by cases h;exact⟨[],rfl,.nil⟩
 | _,_,_,.cons (d:=d) (ds:=ds) r t,h=>by
  unfold kysT at h;split at h
  ·rename_i k ks e1 e2
   cases h;obtain⟨c,rfl,hc⟩:=key_p r e1;obtain⟨bs,rfl,hb⟩:=keys_t t e2;exact⟨c::bs,rfl,.cons hc hb⟩
  ·cases h
theorem key_at {d:D}{v:V}{k:List (List Ky)}(r:Rep K ι H d v)(h:kyT d=some k):∃ b,v=.ref b/\KeyAt H k b:=by
 cases r with
 | tup t q =>
  obtain⟨bs,rfl,hb⟩:=keys_t q h;exact⟨_,rfl,bs,t,hb⟩
 | _=>cases h
end
section
variable {P:Program}{w:World}{H:Hp}{h:Heap}{a:Addr}
theorem its2_of (ok:HOk P w H h):∀ {k:List (List Key)} {bs:List Addr} {us:List Value},Paired (fun (ks:List Key) c=>H c=some (.tup (ks.map kV))) k bs->Vals (bs.map V.ref) us->Its2 (mixKind P w) h k us
 | [],_,us,p,r=>by cases p;cases r;exact .nil
 | k::ks,_,us,p,r=>by
  cases p with
  | cons h1 t =>
   rw[ze]at r;cases r with
   | cons e q =>
    rename_i u us';cases (show u=Value.ref _ from e);exact .cons (key_of ok h1) (its2_of ok t q)
theorem key2_of {k:List (List Key)}(ok:HOk P w H h)(e:KeyAt H k a):(kind2 (mixKind P w)).is h k a:=by
 obtain⟨bs,e1,e2⟩:=e;obtain⟨_,its,r,⟨o,h1,h2,n,h3⟩,_⟩:=(show ObjOk P w H h a (.tup (bs.map V.ref)) from ok a _ e1);exact⟨o,its.toArray,n,h1,h2,h3,by simpa using its2_of ok e2 r⟩
noncomputable abbrev KTT (H:Hp):List (List (List Key)×V)->List (List (List Key)×Addr×Value)->Prop:=Paired fun p q=>p.1=q.1/\KeyAt H p.1 q.2.1/\RelV p.2 q.2.2
theorem KTT.val {kvs:List (List (List Key)×V)}{xs:List (List (List Key)×Addr×Value)}(r:KTT H kvs xs)(k:List (List Key)):RelO (valV kvs k) ((atKey xs k).map (·.2)):=by
 induction r with
 | nil=>exact True.intro
 | @cons p q ps qs h t ih =>
  obtain⟨h1,_,h2⟩:=h;by_cases e:p.1=k
  ·have e':q.1=k:=h1.symm.trans e
   have b:atKey (q::qs) k=some q.2:=by simp[atKey,yt,e']
   rw[valV_pos e,b];exact h2
  ·have e':¬ q.1=k:=fun z=>e (h1.trans z)
   have b:atKey (q::qs) k=atKey qs k:=by simp[atKey,yt,e']
   rw[valV_neg e,b];exact ih
theorem KTT.repl {kvs:List (List (List Key)×V)}{xs:List (List (List Key)×Addr×Value)}(r:KTT H kvs xs)(k:List (List Key)){y:V}{u:Value}(ry:RelV y u) :
  KTT H (kvs.map fun kv=>if kv.1=k then (kv.1,y) else kv) (xs.map (putAt k u)):=by
 induction r with
 | nil=>exact .nil
 | @cons p q ps qs h t ih =>
  rw[ze,ze];refine .cons ?_ ih;obtain⟨h1,h2,h3⟩:=h;unfold putAt;by_cases e:p.1=k
  ·rw[if_pos e,if_pos (h1.symm.trans e)];exact⟨h1,h2,ry⟩
  ·rw[if_neg e,if_neg (fun z=>e (h1.trans z))];exact⟨h1,h2,h3⟩
theorem KTT.put {kvs:List (List (List Key)×V)}{xs:List (List (List Key)×Addr×Value)}(r:KTT H kvs xs)(k:List (List Key)){b:Addr}{y:V}{u:Value}(hb:KeyAt H k b)(ry:RelV y u) :
  KTT H (putK kvs k y) (storedH xs k b u):=by
 have e:(kvs.any fun kv=>decide (kv.1=k))=(atKey xs k).isSome:=by
  rw[valV_any,(r.val k).isSome_eq,xa]
 unfold putK storedH;rw[e];by_cases q:(atKey xs k).isSome=true
 ·rw[if_pos q,if_pos q];exact r.repl k ry
 ·rw[if_neg q,if_neg q];exact Paired.snoc r ⟨rfl,hb,ry⟩
theorem KTT.keeps {H':Hp}{kvs:List (List (List Key)×V)}{xs:List (List (List Key)×Addr×Value)}(r:KTT H kvs xs)(ht:∀ b ys,H b=some (.tup ys)->H' b=some (.tup ys)):KTT H' kvs xs :=
 Paired.mapP r fun _ _ z=>⟨z.1,let ⟨bs,h1,h2⟩:=z.2.1;⟨bs,ht _ _ h1,Paired.mapP h2 fun _ _ w=>ht _ _ w⟩,z.2.2⟩
theorem dtt_of {kvs:List (List (List Key)×V)}(ok:HOk P w H h)(e:H a=some (.dTT kvs)):kvs.length<=zh/\(a==sysModules)=false /\
  ∃ xs,KTT H kvs xs/\h.DictOfH (kind2 (mixKind P w)) a xs:=by
 obtain⟨z,y,xs,r,o,es,ep,h1,h2,h3,h4,h5⟩:=(show ObjOk P w H h a (.dTT kvs) from ok a _ e);refine⟨z,y,xs,r,o,es,ep,h1,h2,h3,h4,fun x hx=>?_,h5⟩;have all:∀ {l:List (List (List Key)×V)} {m:List (List (List Key)×Addr×Value)},KTT H l m->∀ x∈m,(kind2 (mixKind P w)).is h x.1 x.2.1:=by
  intro l m q;induction q with
  | nil=>intro x hx;exact nomatch hx
  | @cons p q ps qs hq t ih =>
   intro x hx;rcases zN.mp hx with e | hx
   ·subst e
    exact key2_of ok (by rw[<- hq.1];exact hq.2.1)
   ·exact ih x hx
 exact all r x hx
end
section
variable {X:Cx}{pins:List (Addr×Obj)}{s:Shared}{σ:St}{H:Hp}{ι:List Addr}{M M':MH}{x y z d:D}{i:Nat}{kvs:List (List (List Ky)×D)}{o j v:V}{ov iv uv:Value}
theorem k2room (hu:X.A.units + 100 < cLine){P:Program}{w:World}:(kind2 (mixKind P w)).room X.A.in1:=by
 show X.A.units + 1 + 1 < cLine;omega
theorem tt_ix {value slice:Expr}{Q:VK}(hu:X.A.units + 100 < cLine)(S:Sim X.K ι M H)(r1:Rep X.K ι H (.ob i) o)(r2:Rep X.K ι H y j)(g:M[i]?=some (.dtt kvs))
  (e:(do let q <- lift (kyT y);lift (tkGet kvs q):Mo D) M=some (.ok d,M')) (I:Inv X pins σ H s) (rx:RelV o ov) (ry:RelV j iv) (hs:subscripted slice false ov iv=operate [ov,iv] (getItem ov iv))
  (k:∀ w',Rep X.K ι H d w'->M'=M->Q w' H):wpAny (model X.prog X.w) X.A (subscriptTail value slice ov iv) (EP X pins σ Q) X.xe s:=by
 have e0:=bind_ok e;clear e;obtain⟨q,_,e1,e⟩:=e0;have e10:=lift_ok e1;clear e1;obtain⟨hk,rfl⟩:=e10;have e0:=lift_ok e;clear e;obtain⟨e1,rfl⟩:=e0;obtain⟨a,ws,rfl,_,h3,h4⟩:=sim_tt S r1 g;obtain⟨b,rfl,kb⟩:=key_at r2 hk;obtain rfl:ov=Value.ref a:=rx;obtain rfl:iv=Value.ref b:=ry;obtain⟨z,hd,xs,rel,dd⟩:=dtt_of I.hok h3;rcases h4.find q with ⟨z1,z2⟩|⟨d',w',z1,z2,z3⟩
 ·rw[z1]at e1;cases e1
 ·rw[z1]at e1;cases e1
  obtain⟨u',hw,rw'⟩:=RelO.some_of (v:=w') (o:=(atKey xs q).map (·.2)) (by rw[<- z2];exact rel.val q);obtain⟨p,hp,hp2⟩:=zt.mp hw;refine tail_any dd.typeIs PySem.F.slot_dict_getitem.lookup (wpAny_getItem_heap (k2room hu) (key2_of I.hok kb) dd hp ?_) hs;rw[hp2];exact⟨w',H,I.tok _,rw',k w' z3 rfl⟩
theorem tt_set {Q:Hp->Prop}{u:Unit}(hu:X.A.units + 100 < cLine)(S:Sim X.K ι M H)(r1:Rep X.K ι H (.ob i) o)(r2:Rep X.K ι H y j)(r3:Rep X.K ι H z v)(g:M[i]?=some (.dtt kvs))
  (e:(do let q <- lift (kyT y);need (kvs.length < zh);putM i (.dtt (tkPut kvs q z)):Mo Unit) M=some (.ok u,M')) (I:Inv X pins σ H s) (ro:RelV o ov) (ri:RelV j iv) (rv:RelV v uv)
  (k:∀ H',Sim X.K ι M' H'->Ext X.K ι H ι H'->Q H'):wpAny (model X.prog X.w) X.A (setItem ov iv uv) (fun _ s'=>∃ H',Inv X pins σ H' s'/\Q H') X.xe s:=by
 have e0:=bind_ok e;clear e;obtain⟨q,_,e1,e⟩:=e0;have e10:=lift_ok e1;clear e1;obtain⟨hk,rfl⟩:=e10;have e0:=bind_ok e;clear e;obtain⟨_,_,e1,e⟩:=e0;have e10:=need_ok e1;clear e1;obtain⟨hn,rfl⟩:=e10;have e0:=putM_ok e;clear e;obtain⟨_,rfl⟩:=e0;obtain⟨a,ws,rfl,hi,h3,h4⟩:=sim_tt S r1 g;obtain⟨b,rfl,kb⟩:=key_at r2 hk;obtain rfl:ov=Value.ref a:=ro;obtain rfl:iv=Value.ref b:=ri;obtain⟨z',hd,xs,rel,dd⟩:=dtt_of I.hok h3;have hn2:ws.length < zh:=by rw[<- Paired.length h4];exact hn
 have x:Ext X.K ι H ι (upd H a (.dTT (putK ws q v))):=Ext.write h3 (mut_t _);have hz:xs.length<=zh:=by rw[<- Paired.length rel];exact z'
 have hl:(putK ws q v).length<=zh:=by have:=length_putK ws q v;omega
 refine wpAny_setItem_heap (hsz:=hz) (k2room hu) (key2_of I.hok kb) dd fun h' dd' hs=>⟨_,?_,k _ (S.put hi ⟨_,rfl,(h4.mono x).put q (r3.mono x)⟩) x⟩;obtain⟨q',es,ep,hq,h2,h3',h4',_,h5⟩:=dd';refine d_write I (by rw[h3];exact True.intro) hs ⟨q',hq⟩ ⟨hl,hd,_,(rel.put q kb rv).keeps fun c ys ec=>?_,q',es,ep,hq,h2,h3',h4',h5⟩;rw[upd_ne (ne_of ec h3 (fun z=>nomatch z))];exact ec
theorem rcv_tt {p:Addr}{ws:List (List (List Key)×V)}{u:Value}(I:Inv X pins σ H s)(r:RelV (.ref p) u)(h:H p=some (.dTT ws)):s.TypeIs u "dict"/\∀ a,u=.ref a->∃ ob,s.heap.get? a=some ob/\ob.dict=none:=by
 cases r;obtain⟨_,_,_,_,o,_,_,e,ex,_⟩:=I.hok p _ h;exact⟨⟨o,e,ex.1⟩,fun a e2=>by cases e2;exact⟨o,e,ex.2.1⟩⟩
theorem dtt_empty {P:Program}{w:World}{H:Hp}(h:Heap)(hb:sysModules < h.objs.size):ObjOk P w H (h.push { cls:=.type "dict",data:=.dict #[] }) h.objs.size (.dTT []) :=
 ⟨zO _,beq_eq_false_iff_ne.mpr (Ne.symm (zE hb)),[],.nil,_,#[],0,zR _ rfl,⟨rfl,rfl,rfl⟩,rfl,rfl,xt⟩
noncomputable def tDNewTT:TE:=fun _ H Q=>∀ p,H p=none->Q (.ref p) (upd H p (.dTT []))
theorem pe_dnewTT {pos:Pos}:PE X (.Dict [] [] pos) tDNewTT:=fun pins s σ H Q I h =>
 wpAny_Dict_empty ⟨.ref s.heap.objs.size,_,I.laid (a:=s.heap.objs.size) (o:=.dTT []) (t':=s.toks) (fun _ _ q=>zb _ q) (zo _) (dtt_empty s.heap I.big),rfl,h _ (I.hok.fresh (zo _))⟩
end
end L3
namespace L3
open PySem PySem.Spec PyProof.Rows L2
section
variable {prog:Program}{w:World}{K:Type}[DecidableEq K]{knd:HeapKind prog w K}{A:Around}{E:Value->Shared->Prop}{s:Shared}{d a:Addr}{k:K}{xs:List (K×Addr×Value)}
theorem sdf_heap {v:Value}{Q:Value->Shared->Prop}(hu:knd.room A)(hkey:knd.is s.heap k a)(hm:s.heap.DictOfH knd d xs)(hsz:xs.length<=zh)
  (h1:∀ p,atKey xs k=some p->Q p.2 { s with toks:=s.toks + knd.draws k })
  (h2:atKey xs k=none->∀ h',h'.DictOfH knd d (storedH xs k a v)->Heap.SameBut d s.heap h'->Q v { s with heap:=h',toks:=s.toks + knd.draws k }) :
  wpAny (model prog w) A (dictSetDefault d (.ref a) v) Q E s:=by
 obtain⟨o,es,ep,ho,hc,hd,he,his,hn⟩:=hm;unfold dictSetDefault
 try with_reducible refine wpAny_holding ?_
 refine zw (knd.pyHash hu hkey ?_);refine zw (wpAny_dictFind_heap (s:={ s with toks:=s.toks + knd.draws k }) hu hkey ho hd he his hn ?_ ?_)
 ·intro hno
  have hnot:k ∉ xs.map (·.1):=not_mem_keys_of_get hno;refine zw (wpAny_rule (zw (wpAny_updateDictKeys (hz:=by have e:=size_of_entries he;omega) (s:={ s with toks:=s.toks + knd.draws k }) ho hd (zj (h2 (atKey_none_of_get hno) _ ⟨_,_,ep + 1,xw _ ho (Obj.isFreed_of_dict (Obj.data_mapDictKeys hd _)),
   hc.mapDictKeys _,Obj.data_mapDictKeys hd _,?_,?_,?_⟩ (Heap.SameBut.update ..))))))
  ·rw[storedH_new (atKey_none_of_get hno)]
   simp[he,entryOfKey]
  ·rw[storedH_new (atKey_none_of_get hno)]
   intro x hx;rcases zF.mp hx with hx | hx
   ·exact knd.keeps (his x hx) ho hd (Heap.SameBut.update ..)
   ·simp only[zd]at hx
    subst hx;exact knd.keeps hkey ho hd (Heap.SameBut.update ..)
  ·rw[storedH_new (atKey_none_of_get hno),zq,yd]
   refine⟨hn,by simp,?_⟩;intro x hx y hy;simp only[ze,yO,zd]at hy;subst hy;exact fun e=>hnot (e ▸ hx)
 ·intro j p hj
  refine zw (wpAny_dictEntries (s:={ s with toks:=s.toks + knd.draws k }) ho hd ?_);rw[entry_at he j,hj];exact zw (wpAny_rule (zj (h1 p (atKey_of_get hn hj))))
variable (knd)(d a)
theorem meetsH_sdf (hd:(d==sysModules)=false)(dflt:Value) :
  MeetsIn prog w (Builtin.«dict.setdefault» ⟨[.ref d,.ref a,dflt],[]⟩) (fun A R s=>knd.room A.in1/\∃ k xs,knd.is s.heap k a/\s.heap.DictOfH knd d xs/\xs.length<=zh /\
   (∀ p,atKey xs k=some p->R (.ok (.ret p.2)) { s with toks:=s.toks + knd.draws k }) /\
   (atKey xs k=none->∀ h',h'.DictOfH knd d (storedH xs k a dflt)->Heap.SameBut d s.heap h'->R (.ok (.ret dflt)) { s with heap:=h',toks:=s.toks + knd.draws k })) :=
 .of_wp fun A R s ⟨hu,k,xs,hkey,hm,hz,h1,h2⟩=>by
  unfold Builtin.«dict.setdefault»;refine zw ?_;unfold Builtin.Dict.keyAndDefault;refine zw (wpAny_notOrdered_dict hm.typeIs ?_);show wpAny _ _ (pure (d,Value.ref a,some dflt)) _ _ s;refine zj ?_;show wpAny _ _ (if (d==sysModules)=true then _ else (dictSetDefault d (.ref a) dflt >>= _)) _ _ s;rw[if_neg (by rw[hd];exact zi)];exact zw (sdf_heap hu hkey hm hz (fun p hp=>zj ⟨p.2,rfl,h1 p hp⟩) fun hn h' hm' hs'=>zj ⟨dflt,rfl,h2 hn h' hm' hs'⟩)
end
end L3
namespace L3
open PySem PySem.Spec PyProof.Rows L2
noncomputable def R2S (K:PySem.W.Frag)(g:D->D->Mo D):R2:=fun x y H Q=>∃ ι M M' dx dy d,Sim K ι M H/\Rep K ι H dx x/\Rep K ι H dy y/\g dx dy M=some (.ok d,M') /\
 ∀ v H' ι',Rep K ι' H' d v->Sim K ι' M' H'->Ext K ι H ι' H'->Q v H'
theorem opS_R2S {K:PySem.W.Frag}{g:D->D->Mo D}:OpS K (R2S K g) g:=fun ι M M' _ x y d _ _ _ S r1 r2 e k=>⟨ι,M,M',x,y,d,S,r1,r2,e,k⟩
section
variable {K:PySem.W.Frag}{ι:List Addr}{H:Hp}{M M':MH}
theorem new_list {Q:VK}{ds:List D}{vs:List V}{d:D}(S:Sim K ι M H)(r:Reps K ι H ds vs)(e:newM (.lst ds) M=some (.ok d,M'))(k:∀ v H' ι',Rep K ι' H' d v->Sim K ι' M' H'->Ext K ι H ι' H'->Q v H') :
  ∀ p,H p=none->Q (.ref p) (upd H p (.lst vs)):=fun p hp=>by
 have e0:=newM_ok e;clear e;obtain⟨rfl,rfl⟩:=e0;have x:Ext K ι H (ι++[p]) (upd H p (.lst vs)):=Ext.new hp;exact k _ _ (ι++[p]) (.ob (by rw[<- S.len,zL (zo _),yZ];rfl)) (S.new hp ⟨vs,rfl,r.mono x⟩) x
theorem new_tup {Q:VK}{ds:List D}{vs:List V}(S:Sim K ι M H)(r:Reps K ι H ds vs)(k:∀ v H' ι',Rep K ι' H' (.tup ds) v->Sim K ι' M H'->Ext K ι H ι' H'->Q v H') :
  ∀ p,H p=none->Q (.ref p) (upd H p (.tup vs)):=fun p hp=>by
 have x:Ext K ι H ι (upd H p (.tup vs)):=Ext.tupN hp;exact k _ _ ι (.tup upd_same (r.mono x)) (S.tupN hp) x
theorem sim_list (S:Sim K ι M H){i:Nat}{ds:List D}{v:V}(r:Rep K ι H (.ob i) v)(e:M[i]?=some (.lst ds)):∃ a vs,v=.ref a/\ι[i]?=some a/\H a=some (.lst vs)/\Reps K ι H ds vs:=by
 cases r with
 | ob h =>
  rename_i a;obtain⟨vs,e1,q⟩:=S.obj i a _ h e;exact⟨a,vs,rfl,h,e1,q⟩
theorem sim_dict (S:Sim K ι M H){i:Nat}{kvs:List (Ky×D)}{v:V}(r:Rep K ι H (.ob i) v)(e:M[i]?=some (.dic kvs)):∃ a ws,v=.ref a/\ι[i]?=some a/\H a=some (.dK ws)/\KR K ι H kvs ws:=by
 cases r with
 | ob h =>
  rename_i a;obtain⟨vs,e1,q⟩:=S.obj i a _ h e;exact⟨a,vs,rfl,h,e1,q⟩
theorem flat_rep {d:D}{v:V}(r:Rep K ι H d v)(h:flatD d=true):flatV v=true:=by
 cases r <;> simp[flatD,flatV]at h ⊢
theorem eq_rep {d e:D}{v u:V}(r:Rep K ι H d v)(q:Rep K ι H e u)(h:flatD d=true)(h':flatD e=true):eqV v u=eqF d e:=by
 cases r <;> cases q <;> simp[flatD,eqV,eqF]at h h' ⊢
theorem KR.find {kvs:List (Ky×D)}{ws:List (Key×V)}(r:KR K ι H kvs ws)(k:Ky):(kvGet kvs k=none/\valV ws k=none)\/∃ d v,kvGet kvs k=some d/\valV ws k=some v/\Rep K ι H d v:=by
 induction r with
 | nil=>exact .inl ⟨rfl,rfl⟩
 | cons h t ih =>
  rename_i a b l1 l2;by_cases e:a.1=k
  ·refine .inr ⟨a.2,b.2,?_,valV_pos (h.1 ▸ e),h.2⟩
   simp[kvGet,yt,e]
  ·have e2:¬ b.1=k:=fun z=>e (h.1.trans z)
   have e3:kvGet (a::l1) k=kvGet l1 k:=by simp[kvGet,yt,e]
   rw[valV_neg e2,e3];exact ih
theorem KR.anyk {kvs:List (Ky×D)}{ws:List (Key×V)}(r:KR K ι H kvs ws)(k:Ky):(kvs.any fun kv=>decide (kv.1=k))=ws.any fun kv=>decide (kv.1=k):=by
 induction r with
 | nil=>rfl
 | cons h t ih=>rw[xx,xx,ih,h.1]
theorem KR.len {kvs:List (Ky×D)}{ws:List (Key×V)}(r:KR K ι H kvs ws):kvs.length=ws.length:=Paired.length r
theorem KR.repl {kvs:List (Ky×D)}{ws:List (Key×V)}(r:KR K ι H kvs ws)(k:Ky){d:D}{v:V}(q:Rep K ι H d v) :
  KR K ι H (kvs.map fun kv=>if kv.1=k then (kv.1,d) else kv) (ws.map fun kv=>if kv.1=k then (kv.1,v) else kv):=by
 induction r with
 | nil=>exact .nil
 | cons h t ih =>
  rename_i a b l1 l2;rw[ze,ze];refine .cons ?_ ih;by_cases e:a.1=k
  ·rw[if_pos e,if_pos (h.1 ▸ e)];exact⟨h.1,q⟩
  ·rw[if_neg e,if_neg (fun z=>e (h.1.trans z))];exact h
theorem KR.put {kvs:List (Ky×D)}{ws:List (Key×V)}(r:KR K ι H kvs ws)(k:Ky){d:D}{v:V}(q:Rep K ι H d v):KR K ι H (kvPut kvs k d) (putK ws k v):=by
 unfold kvPut putK;rw[r.anyk k];split
 ·exact r.repl k q
 ·exact Paired.snoc r ⟨rfl,q⟩
theorem key_rep {d:D}{v:V}{k:Ky}(r:Rep K ι H d v)(h:kyD d=some k):v=kV k:=by
 cases r <;> simp[kyD]at h <;> subst h <;> rfl
theorem seq_of {d:D}{v:V}{ds:List D}(S:Sim K ι M H)(r:Rep K ι H d v)(h:itemsD d M=some (.ok ds,M')):M'=M/\∃ a vs,v=.ref a/\(SqL K H a vs\/SqT K H a vs)/\Reps K ι H ds vs:=by
 cases r with
 | tup t q=>have h0:=pure_ok h;clear h;obtain⟨rfl,rfl⟩:=h0;exact⟨rfl,_,_,rfl,.inr (sqt t),q⟩
 | fl t q=>have h0:=pure_ok h;clear h;obtain⟨rfl,rfl⟩:=h0;exact⟨rfl,_,_,rfl,.inl t.seq,q⟩
 | ob t =>
  have h0:=getL_ok h;clear h;obtain⟨e,rfl⟩:=h0;obtain⟨a,vs,h1,_,h3,h4⟩:=sim_list S (.ob t) e;exact⟨rfl,a,vs,h1,.inl (SqL.of h3),h4⟩
 | _=>exact(stop_ok h).elim
theorem reps_at {ds:List D}{vs:List V}{i:Int}{d:D}(r:Reps K ι H ds vs)(h:atD ds i=some d):∃ v,atI vs i=some v/\Rep K ι H d v:=by
 unfold atD at h;unfold atI;have e:ixN vs.length i=ixD ds.length i:=by rw[r.length];rfl
 rw[e];cases q:ixD ds.length i with
 | none=>rw[q]at h;cases h
 | some j =>
  rw[q]at h;exact r.get h
end
section
variable {X:Cx}{pins:List (Addr×Obj)}{σ:St}{H:Hp}{s:Shared}{ι:List Addr}{M:MH}
theorem eqL_some {f:D->D->Option Bool}:∀ {xs ys:List D} {b:Bool},eqL f xs ys=some b->(∀ (j:Nat) (x y:D),xs[j]?=some x->ys[j]?=some y->∃ c,f x y=some c) /\
  b=((List.range (min xs.length ys.length)).all (fun j=>(f (xs.getD j .non) (ys.getD j .non)).getD false)&&xs.length==ys.length)
 | [],[],b,h=>by
  simp only[eqL,Option.some.injEq]at h;subst h;exact⟨fun j x y h=>by simp at h,rfl⟩
 | [],_::_,b,h=>by
  simp only[eqL,Option.some.injEq]at h;subst h;exact⟨fun j x y h=>by simp at h,by simp⟩
 | _::_,[],b,h=>by
  simp only[eqL,Option.some.injEq]at h;subst h;exact⟨fun j x y _ h=>by simp at h,by simp⟩
 | x::xs,y::ys,b,h=>by
  unfold eqL at h;cases e1:f x y with
  | none=>rw[e1]at h;cases h
  | some c =>
   rw[e1]at h;cases e2:eqL f xs ys with
   | none=>rw[e2]at h;cases h
   | some c2 =>
    rw[e2]at h;cases h;obtain⟨i1,i2⟩:=eqL_some e2;refine⟨fun j x' y' h1 h2=>?_,?_⟩
    ·cases j with
     | zero=>simp at h1 h2;subst h1 h2;exact⟨c,e1⟩
     | succ j=>exact i1 j x' y' (by simpa using h1) (by simpa using h2)
    ·rw[i2,zM,zM,Nat.add_min_add_right,wm,yD,xz]
     simp only[List.getD_cons_zero,e1,wu];have e3:(xs.length + 1==ys.length + 1)=(xs.length==ys.length):=by
      rw[yI];simp
     rw[e3,Bool.and_assoc];rfl
theorem same_true (I:Inv X pins σ H s)(S:Sim X.K ι M H):∀ (n:Nat) {d d':D} {v:V} {b:Bool},Rep X.K ι H d v->Rep X.K ι H d' v->eqO M n d d'=some b->b=true
 | 0,_,_,_,_,_,_,h=>by cases h
 | n + 1,d,d',v,b,r,r',h=>by
  have lst:∀ {ds ds':List D} {vs:List V} {b:Bool},Reps X.K ι H ds vs->Reps X.K ι H ds' vs->eqL (eqO M n) ds ds'=some b->b=true:=by
   intro ds;induction ds with
   | nil =>
    intro ds' vs b h1 h2 h3;cases h1;cases h2;cases h3;rfl
   | cons x xs ih =>
    intro ds' vs b h1 h2 h3;cases h1 with
    | cons r1 t1 =>
     cases h2 with
     | cons r2 t2 =>
      rename_i y ys;unfold eqL at h3;cases e1:eqO M n x y with
      | none=>rw[e1]at h3;cases h3
      | some c =>
       rw[e1]at h3;cases e2:eqL (eqO M n) xs ys with
       | none=>rw[e2]at h3;cases h3
       | some c2 =>
        rw[e2]at h3;cases h3;rw[same_true I S n r1 r2 e1,ih t1 t2 e2];rfl
  cases r with
  | non=>cases r' with | non=>cases h;rfl
  | bl a=>cases r' with | bl=>cases h;simp[eqF]
  | int a=>cases r' with | int=>cases h;simp[eqF]
  | str a=>cases r' with | str=>cases h;simp[eqF]
  | tup t q =>
   cases r' with
   | tup t' q' =>
    have:=I.tuple_inj (sqt t) (sqt t')
    subst this;exact lst q q' h
   | fl t' q'=>cases h
   | ob t'=>cases h
  | fl t q =>
   cases r' with
   | tup t' q'=>cases h
   | fl t' q'=>cases h
   | ob t'=>cases h
  | ob t =>
   rename_i i a;cases r' with
   | tup t' q'=>cases h
   | fl t' q'=>cases h
   | ob t' =>
    rename_i j
    have:=S.inj i j a t t'
    subst this;unfold eqO at h;dsimp only at h;split at h
    ·rename_i xs ys h1 h2
     rw[h1]at h2;cases h2;rw[if_pos rfl]at h;obtain⟨vs,_,q⟩:=S.obj i a _ t h1;exact lst q q h
    ·cases h
theorem items_at {A:Around}{n:Nat}(ih:∀ {dx dy:D} {vx vy:V} {u v:Value} {b:Bool},Rep X.K ι H dx vx->Rep X.K ι H dy vy->RelV vx u->RelV vy v->eqO M n dx dy=some b->SeqAt.EqAt A s u v b)
  {xs ys:List D} {vs ws:List V} {its its2:List Value} {b:Bool} (r1:Reps X.K ι H xs vs) (r2:Reps X.K ι H ys ws) (q1:Vals vs its) (q2:Vals ws its2) (h:eqL (eqO M n) xs ys=some b) :
  ∃ e:Nat->Bool,(∀ j (h1:j < its.toArray.size) (h2:j < its2.toArray.size),SeqAt.EqAt A s its.toArray[j] its2.toArray[j] (e j))/\b=((List.range (min its.toArray.size its2.toArray.size)).all e&&its.toArray.size==its2.toArray.size):=by
 obtain⟨h1,h2⟩:=eqL_some h;have l1:xs.length=its.toArray.size:=by rw[r1.length,q1.length];simp
 have l2:ys.length=its2.toArray.size:=by rw[r2.length,q2.length];simp
 refine⟨fun j=>(eqO M n (xs.getD j .non) (ys.getD j .non)).getD false,fun j g1 g2=>?_,by rw[<- l1,<- l2];exact h2⟩;have j1:j < xs.length:=by rw[l1];exact g1
 have j2:j < ys.length:=by rw[l2];exact g2
 obtain⟨c,hc⟩:=h1 j _ _ (zv j1) (zv j2);obtain⟨v1,e1,p1⟩:=r1.get (zv j1);obtain⟨v2,e2,p2⟩:=r2.get (zv j2);obtain⟨u1,f1,g1'⟩:=q1.get e1;obtain⟨u2,f2,g2'⟩:=q2.get e2;have k1:its.toArray[j]=u1:=by
  have:=(zr.mp f1).2
  simpa using this
 have k2:its2.toArray[j]=u2:=by
  have:=(zr.mp f2).2
  simpa using this
 rw[k1,k2];have k3:(eqO M n (xs.getD j .non) (ys.getD j .non)).getD false=c:=by
  rw[zm,zm,zv j1,zv j2];simp only[wu];rw[hc];rfl
 show SeqAt.EqAt A s u1 u2 ((eqO M n (xs.getD j .non) (ys.getD j .non)).getD false);rw[k3];exact ih p1 p2 g1' g2' hc
theorem len_ne {its its2:List Value}(h:its.length≠its2.length):(its.toArray.size != its2.toArray.size)=true:=by simpa using h
theorem rc_tup (I:Inv X pins σ H s){A:Around}(hu:A.units < cLine){n:Nat}(ih:∀ {dx dy:D} {vx vy:V} {u v:Value} {b:Bool},Rep X.K ι H dx vx->Rep X.K ι H dy vy->RelV vx u->RelV vy v->eqO M n dx dy=some b->SeqAt.EqAt A.in1 s u v b)
  {xs ys:List D} {vs ws:List V} {a c:Addr} {b:Bool} (t1:SqT X.K H a vs) (t2:SqT X.K H c ws) (r1:Reps X.K ι H xs vs) (r2:Reps X.K ι H ys ws) (h:eqL (eqO M n) xs ys=some b):SeqAt.RcAt A s (.ref a) (.ref c) b/\SeqAt.RcNeAt A s (.ref a) (.ref c) (!b):=by
 obtain⟨its,q1,p1,_⟩:=I.tuple t1;obtain⟨its2,q2,p2,_⟩:=I.tuple t2;obtain⟨e,he,rfl⟩:=items_at ih r1 r2 q1 q2 h;exact⟨SeqAt.RcAt.tuples p1 p2 hu he,SeqAt.RcNeAt.tuples p1 p2 hu he⟩
theorem rc_lst (I:Inv X pins σ H s){A:Around}(hu:A.units < cLine){n:Nat}(ih:∀ {dx dy:D} {vx vy:V} {u v:Value} {b:Bool},Rep X.K ι H dx vx->Rep X.K ι H dy vy->RelV vx u->RelV vy v->eqO M n dx dy=some b->SeqAt.EqAt A.in1 s u v b)
  {xs ys:List D} {vs ws:List V} {a c:Addr} {b:Bool} (t1:SqL X.K H a vs) (t2:SqL X.K H c ws) (r1:Reps X.K ι H xs vs) (r2:Reps X.K ι H ys ws) (h:(if xs.length=ys.length then eqL (eqO M n) xs ys else some false)=some b):SeqAt.RcAt A s (.ref a) (.ref c) b/\SeqAt.RcNeAt A s (.ref a) (.ref c) (!b):=by
 obtain⟨its,q1,p1,_⟩:=I.list t1;obtain⟨its2,q2,p2,_⟩:=I.list t2;have l1:xs.length=its.length:=by rw[r1.length,q1.length]
 have l2:ys.length=its2.length:=by rw[r2.length,q2.length]
 split at h
 ·rename_i hl
  obtain⟨e,he,rfl⟩:=items_at ih r1 r2 q1 q2 h;have hs:its.toArray.size=its2.toArray.size:=by simp;omega
  have e1:((List.range (min its.toArray.size its2.toArray.size)).all e&&its.toArray.size==its2.toArray.size)=(List.range its.toArray.size).all e:=by
   rw[hs,Nat.min_self];simp
  rw[e1];exact⟨SeqAt.RcAt.lists p1.isList p2.isList hs hu he,SeqAt.RcNeAt.lists p1.isList p2.isList hs hu he⟩
 ·rename_i hl
  cases h;exact⟨SeqAt.RcAt.lists_lengths p1.isList p2.isList (len_ne (by first | lia | omega)) hu,SeqAt.RcNeAt.lists_lengths p1.isList p2.isList (len_ne (by first | lia | omega)) hu⟩
theorem rc_flat {A:Around}{dx dy:D}{vx vy:V}{u v:Value}(r1:Rep X.K ι H dx vx)(r2:Rep X.K ι H dy vy)(g1:RelV vx u)(g2:RelV vy v)(f1:flatD dx=true)(f2:flatD dy=true):SeqAt.RcAt A s u v (eqF dx dy)/\SeqAt.RcNeAt A s u v (!eqF dx dy):=by
 cases r1 with
 | non =>
  cases g1;cases r2 with
  | non=>cases g2;exact⟨SeqAt.RcAt.none_none,SeqAt.RcNeAt.none_none⟩
  | bl b=>cases g2;exact⟨SeqAt.RcAt.none_bool b,SeqAt.RcNeAt.none_bool b⟩
  | int b=>obtain⟨t,rfl⟩:=g2;exact⟨SeqAt.RcAt.none_int b t,SeqAt.RcNeAt.none_int b t⟩
  | str b=>obtain⟨t,rfl⟩:=g2;exact⟨SeqAt.RcAt.none_str b t,SeqAt.RcNeAt.none_str b t⟩
  | _=>exact absurd f2 zi
 | bl a =>
  cases g1;cases r2 with
  | non=>cases g2;exact⟨SeqAt.RcAt.bool_none a,SeqAt.RcNeAt.bool_none a⟩
  | bl b=>cases g2;exact⟨SeqAt.RcAt.bool_bool a b,SeqAt.RcNeAt.bool_bool a b⟩
  | int b=>obtain⟨t,rfl⟩:=g2;exact⟨SeqAt.RcAt.bool_int a b t,SeqAt.RcNeAt.bool_int a b t⟩
  | str b=>obtain⟨t,rfl⟩:=g2;exact⟨SeqAt.RcAt.bool_str a b t,SeqAt.RcNeAt.bool_str a b t⟩
  | _=>exact absurd f2 zi
 | int a =>
  obtain⟨t',rfl⟩:=g1;cases r2 with
  | non=>cases g2;exact⟨SeqAt.RcAt.int_none a t',SeqAt.RcNeAt.int_none a t'⟩
  | bl b=>cases g2;exact⟨SeqAt.RcAt.int_bool a t' b,SeqAt.RcNeAt.int_bool a t' b⟩
  | int b=>obtain⟨t,rfl⟩:=g2;exact⟨SeqAt.RcAt.int_int a t' b t,SeqAt.RcNeAt.int_int a t' b t⟩
  | str b=>obtain⟨t,rfl⟩:=g2;exact⟨SeqAt.RcAt.int_str a t' b t,SeqAt.RcNeAt.int_str a t' b t⟩
  | _=>exact absurd f2 zi
 | str a =>
  obtain⟨t',rfl⟩:=g1;cases r2 with
  | non=>cases g2;exact⟨SeqAt.RcAt.str_none a t',SeqAt.RcNeAt.str_none a t'⟩
  | bl b=>cases g2;exact⟨SeqAt.RcAt.str_bool a t' b,SeqAt.RcNeAt.str_bool a t' b⟩
  | int b=>obtain⟨t,rfl⟩:=g2;exact⟨SeqAt.RcAt.str_int a t' b t,SeqAt.RcNeAt.str_int a t' b t⟩
  | str b=>obtain⟨t,rfl⟩:=g2;exact⟨SeqAt.RcAt.str_str a t' b t,SeqAt.RcNeAt.str_str a t' b t⟩
  | _=>exact absurd f2 zi
 | _=>exact absurd f1 zi
theorem at_tup_flat (I:Inv X pins σ H s){A:Around}(hu:A.units < cLine){dy:D}{vs:List V}{a:Addr}{vy:V}{v:Value}(t1:SqT X.K H a vs)(r2:Rep X.K ι H dy vy)(g2:RelV vy v)(f2:flatD dy=true) :
  (SeqAt.RcAt A s (.ref a) v false/\SeqAt.RcNeAt A s (.ref a) v true/\SeqAt.EqAt A s (.ref a) v false)/\(SeqAt.RcAt A s v (.ref a) false/\SeqAt.RcNeAt A s v (.ref a) true/\SeqAt.EqAt A s v (.ref a) false):=by
 obtain⟨its,q1,p1,_⟩:=I.tuple t1;cases r2 with
 | non=>cases g2;exact⟨⟨.tuple_none p1 hu,.tuple_none p1 hu,.tuple_none p1 hu⟩,⟨.none_tuple p1 hu,.none_tuple p1 hu,.none_tuple p1 hu⟩⟩
 | bl b=>cases g2;exact⟨⟨.tuple_bool b p1 hu,.tuple_bool b p1 hu,.tuple_bool b p1 hu⟩,⟨.bool_tuple b p1 hu,.bool_tuple b p1 hu,.bool_tuple b p1 hu⟩⟩
 | int b=>obtain⟨t,rfl⟩:=g2;exact⟨⟨.tuple_int b t p1 hu,.tuple_int b t p1 hu,.tuple_int b t p1 hu⟩,⟨.int_tuple b t p1 hu,.int_tuple b t p1 hu,.int_tuple b t p1 hu⟩⟩
 | str b=>obtain⟨t,rfl⟩:=g2;exact⟨⟨.tuple_str b t p1 hu,.tuple_str b t p1 hu,.tuple_str b t p1 hu⟩,⟨.str_tuple b t p1 hu,.str_tuple b t p1 hu,.str_tuple b t p1 hu⟩⟩
 | _=>exact absurd f2 zi
theorem eq_all (I:Inv X pins σ H s)(S:Sim X.K ι M H):∀ (n:Nat) {A:Around} {dx dy:D} {vx vy:V} {u v:Value} {b:Bool},A.units + n < cLine->Rep X.K ι H dx vx->Rep X.K ι H dy vy->RelV vx u->RelV vy v->eqO M n dx dy=some b ->
  SeqAt.RcAt A s u v b/\SeqAt.RcNeAt A s u v (!b)/\SeqAt.EqAt A s u v b
 | 0,_,_,_,_,_,_,_,_,_,_,_,_,_,h=>by cases h
 | n + 1,A,dx,dy,vx,vy,u,v,b,hA,r1,r2,g1,g2,h=>by
  have hu:A.units < cLine:=by first | lia | omega
  have ih:∀ {dx dy:D} {vx vy:V} {u v:Value} {b:Bool},Rep X.K ι H dx vx->Rep X.K ι H dy vy->RelV vx u->RelV vy v->eqO M n dx dy=some b->SeqAt.EqAt A.in1 s u v b :=
   fun r1 r2 g1 g2 h=>(eq_all I S n (A:=A.in1) (by show A.units + 1 + n < cLine;omega) r1 r2 g1 g2 h).2.2
  have refs:∀ {a c:Addr},vx=.ref a->vy=.ref c->SeqAt.RcAt A s (.ref a) (.ref c) b->SeqAt.EqAt A s (.ref a) (.ref c) b:=fun {a c} e1 e2 hr=>by
   by_cases hac:a=c
   ·subst hac
    subst e1;subst e2;rw[same_true I S (n + 1) r1 r2 h];exact SeqAt.EqAt.same _
   ·exact SeqAt.EqAt.of_refs hac hr
  by_cases hf:flatD dx=true/\flatD dy=true
  ·have hb:eqO M (n + 1) dx dy=some (eqF dx dy):=by
    cases dx <;> cases dy <;> first | exact absurd hf.1 zi | exact absurd hf.2 zi | rfl
   rw[hb]at h;cases h;obtain⟨q1,q2⟩:=rc_flat (X:=X) (H:=H) (s:=s) (ι:=ι) (A:=A) r1 r2 g1 g2 hf.1 hf.2;refine⟨q1,q2,?_⟩;rw[<- eq_rep r1 r2 hf.1 hf.2];exact eqAt_V g1 g2 (flat_rep r1 hf.1) (flat_rep r2 hf.2)
  ·cases r1 with
   | tup t q =>
    cases g1;cases r2 with
    | tup t' q' =>
     cases g2;obtain⟨h1,h2⟩:=rc_tup I hu ih (sqt t) (sqt t') q q' h;exact⟨h1,h2,refs rfl rfl h1⟩
    | fl t' q'=>cases h
    | ob t'=>cases h
    | non=>cases h;obtain⟨⟨h1,h2,h3⟩,_⟩:=at_tup_flat (ι:=ι) I hu (sqt t) .non g2 rfl;exact⟨h1,h2,h3⟩
    | bl b=>cases h;obtain⟨⟨h1,h2,h3⟩,_⟩:=at_tup_flat (ι:=ι) I hu (sqt t) (.bl b) g2 rfl;exact⟨h1,h2,h3⟩
    | int b=>cases h;obtain⟨⟨h1,h2,h3⟩,_⟩:=at_tup_flat (ι:=ι) I hu (sqt t) (.int b) g2 rfl;exact⟨h1,h2,h3⟩
    | str b=>cases h;obtain⟨⟨h1,h2,h3⟩,_⟩:=at_tup_flat (ι:=ι) I hu (sqt t) (.str b) g2 rfl;exact⟨h1,h2,h3⟩
   | ob t =>
    cases g1;cases r2 with
    | ob t' =>
     cases g2;unfold eqO at h;dsimp only at h;split at h
     ·rename_i i a j c xs ys h1 h2
      obtain⟨vs,e1,q1⟩:=S.obj _ _ _ t h1;obtain⟨ws,e2,q2⟩:=S.obj _ _ _ t' h2;obtain⟨k1,k2⟩:=rc_lst I hu ih (SqL.of e1) (SqL.of e2) q1 q2 h;refine⟨k1,k2,refs rfl rfl k1⟩
     ·cases h
    | tup t' q'=>cases h
    | _=>cases h
   | fl t q=>cases r2 <;> cases h
   | non =>
    cases r2 with
    | tup t' q'=>cases h;cases g2;obtain⟨_,h1,h2,h3⟩:=at_tup_flat (ι:=ι) I hu (sqt t') .non g1 rfl;exact⟨h1,h2,h3⟩
    | fl t' q'=>cases h
    | ob t'=>cases h
    | _=>exact absurd ⟨rfl,rfl⟩ hf
   | bl x =>
    cases r2 with
    | tup t' q'=>cases h;cases g2;obtain⟨_,h1,h2,h3⟩:=at_tup_flat (ι:=ι) I hu (sqt t') (.bl x) g1 rfl;exact⟨h1,h2,h3⟩
    | fl t' q'=>cases h
    | ob t'=>cases h
    | _=>exact absurd ⟨rfl,rfl⟩ hf
   | int x =>
    cases r2 with
    | tup t' q'=>cases h;cases g2;obtain⟨_,h1,h2,h3⟩:=at_tup_flat (ι:=ι) I hu (sqt t') (.int x) g1 rfl;exact⟨h1,h2,h3⟩
    | fl t' q'=>cases h
    | ob t'=>cases h
    | _=>exact absurd ⟨rfl,rfl⟩ hf
   | str x =>
    cases r2 with
    | tup t' q'=>cases h;cases g2;obtain⟨_,h1,h2,h3⟩:=at_tup_flat (ι:=ι) I hu (sqt t') (.str x) g1 rfl;exact⟨h1,h2,h3⟩
    | fl t' q'=>cases h
    | ob t'=>cases h
    | _=>exact absurd ⟨rfl,rfl⟩ hf
open Classical in
theorem in_all (I:Inv X pins σ H s)(S:Sim X.K ι M H){A:Around}(hu:A.units + 9 < cLine){x:D}{vx:V}{v:Value}(rx:Rep X.K ι H x vx)(gx:RelV vx v):∀ {ds:List D} {vs:List V} {its:List Value} {b:Bool},Reps X.K ι H ds vs->Vals vs its->inL M x ds=some b ->
  ∃ ans:List Bool,ans.length=its.length/\(∀ (j:Nat) (u:Value) (c:Bool),its[j]?=some u->ans[j]?=some c->SeqAt.EqAt A.in1 s u v c)/\b=ans.any id
 | _,_,_,b,.nil,.nil,h=>by cases h;exact⟨[],rfl,fun j u c h=>by simp at h,rfl⟩
 | d::ds,_,_,b,.cons r t,.cons q k,h=>by
  unfold inL at h;cases e1:eqO M 8 d x with
  | none=>rw[e1]at h;cases h
  | some c =>
   rw[e1]at h;cases e2:inL M x ds with
   | none=>rw[e2]at h;cases h
   | some c2 =>
    rw[e2]at h;cases h;obtain⟨ans,a1,a2,a3⟩:=in_all I S hu rx gx t k e2;refine⟨c::ans,by rw[zM,zM,a1],fun j u c' h1 h2=>?_,by rw[a3];rfl⟩;cases j with
    | zero =>
     simp at h1 h2;subst h1 h2;exact(eq_all I S 8 (A:=A.in1) (by show A.units + 1 + 8 < cLine;omega) r rx q gx e1).2.2
    | succ j=>exact a2 j u c' (by simpa using h1) (by simpa using h2)
open Classical in
theorem in_fun {A:Around}{its:List Value}{ans:List Bool}{v:Value}(hl:ans.length=its.length)(h:∀ (j:Nat) (u:Value) (c:Bool),its[j]?=some u->ans[j]?=some c->SeqAt.EqAt A s u v c) :
  ∃ e:Value->Bool,(∀ y,y∈its.toArray->SeqAt.EqAt A s y v (e y))/\its.toArray.any e=ans.any id:=by
 refine⟨fun y=>decide (∃ j:Nat,its[j]?=some y/\ans[j]?=some true),fun y hy=>?_,?_⟩
 ·by_cases hex:∃ j:Nat,its[j]?=some y/\ans[j]?=some true
  ·dsimp only
   rw[decide_eq_true hex];obtain⟨j,h1,h2⟩:=hex;exact h j y true h1 h2
  ·dsimp only
   rw[decide_eq_false hex];have hy':y∈its:=by simpa using hy
   obtain⟨j,hj⟩:=wb.mp hy';have hj2:j < ans.length:=by rw[hl];exact(zr.mp hj).1
   have e:=zv hj2;cases hb:ans[j] with
   | true=>rw[hb]at e;exact absurd ⟨j,hj,e⟩ hex
   | false=>rw[hb]at e;exact h j y false hj e
 ·rw[yI,Array.any_eq_true]
  simp only[decide_eq_true_eq,xn,id];constructor
  ·rintro ⟨i,hi,j,h1,h2⟩
   exact⟨true,zn h2,rfl⟩
  ·rintro ⟨c,hc,rfl⟩
   obtain⟨j,hj⟩:=wb.mp hc;have hj2:j < its.length:=by rw[<- hl];exact(zr.mp hj).1
   exact⟨j,by simpa using hj2,j,by simp[hj2],hj⟩
end
section
variable {X:Cx}
noncomputable def gCmp (op:CmpOp)(x y:D):Mo D:=do let k <- cmpD op x y;pure (.bl k)
theorem inMo_ok {x:D}{ds:List D}{M M':MH}{b:Bool}(h:inMo x ds M=some (.ok b,M')):inL M x ds=some b/\M'=M:=by
 unfold inMo at h;cases e:inL M x ds with
 | none=>rw[e]at h;cases h
 | some c=>rw[e]at h;cases h;exact⟨rfl,rfl⟩
theorem eqMo_ok {x y:D}{M M':MH}{b:Bool}(h:eqMo x y M=some (.ok b,M')):eqO M 20 x y=some b/\M'=M:=by
 unfold eqMo at h;cases e:eqO M 20 x y with
 | none=>rw[e]at h;cases h
 | some c=>rw[e]at h;cases h;exact⟨rfl,rfl⟩
theorem inD_M {x y:D}{M M':MH}{b:Bool}(h:inD x y M=some (.ok b,M')):M'=M:=by
 unfold inD at h;split at h
 ·split at h
  ·exact(pure_ok h).2
  ·exact(stop_ok h).elim
 ·exact(inMo_ok h).2
 ·exact(inMo_ok h).2
 ·have h0:=bind_ok h;clear h;obtain⟨o,M1,e,h2⟩:=h0
  have hM:=(getM_ok e).2;cases o with
  | lst ds=>rw[(inMo_ok h2).2,hM]
  | dic kvs =>
   have h20:=bind_ok h2;clear h2;obtain⟨_,_,e3,h3⟩:=h20;rw[(pure_ok h3).2,(lift_ok e3).2,hM]
  | dtt kvs=>exact(stop_ok h2).elim
 ·exact(stop_ok h).elim
theorem in_ok (hu:X.A.units + 100 < cLine)(neg:Bool){pins:List (Addr×Obj)}{s:Shared}{σ:St}{H:Hp}{x y:V}{v u:Value}{Q:VK}(I:Inv X pins σ H s)(rx:RelV x v)(ry:RelV y u){ι:List Addr}{M M':MH}{dx dy:D}{b:Bool}
  (S:Sim X.K ι M H) (r1:Rep X.K ι H dx x) (r2:Rep X.K ι H dy y) (e:inD dx dy M=some (.ok b,M')) (q:Q (.bl (if neg then !b else b)) H) :
  wpAny (model X.prog X.w) X.A (compareOp (if neg then .NotIn else .In) v u) (EP X pins σ Q) X.xe s:=by
 have seq:∀ {a:Addr} {vs:List V} {ds:List D},y=.ref a->(SqL X.K H a vs\/SqT X.K H a vs)->Reps X.K ι H ds vs->inL M dx ds=some b ->
   wpAny (model X.prog X.w) X.A (compareOp (if neg then .NotIn else .In) v u) (EP X pins σ Q) X.xe s:=fun {a vs ds} ey hs hr hb=>by
  subst ey;cases ry;rcases hs with hs | hs
  ·obtain⟨its,q1,p1,_⟩:=I.list hs
   obtain⟨ans,a1,a2,rfl⟩:=in_all I S (A:=X.A) (by first | lia | omega) r1 rx hr q1 hb
   obtain⟨e,e1,e2⟩:=in_fun a1 a2;cases neg with
   | false=>exact SeqAt.in_listAt e p1.isList e1 ⟨.bl _,H,I,rfl,by rw[e2];exact q⟩
   | true=>exact SeqAt.notIn_listAt e p1.isList e1 ⟨.bl _,H,I,rfl,by rw[e2];exact q⟩
  ·obtain⟨its,q1,p1,_⟩:=I.tuple hs
   obtain⟨ans,a1,a2,rfl⟩:=in_all I S (A:=X.A) (by first | lia | omega) r1 rx hr q1 hb
   obtain⟨e,e1,e2⟩:=in_fun a1 a2;cases neg with
   | false=>exact SeqAt.in_tupleAt e p1 e1 ⟨.bl _,H,I,rfl,by rw[e2];exact q⟩
   | true=>exact SeqAt.notIn_tupleAt e p1 e1 ⟨.bl _,H,I,rfl,by rw[e2];exact q⟩
 cases r2 with
 | str j =>
  cases r1 with
  | str i =>
   have e0:=pure_ok e;clear e;obtain⟨rfl,rfl⟩:=e0;cases neg with
   | false=>exact op_in_str pins s σ H _ _ v u Q I rx ry ⟨i,j,rfl,rfl,q⟩
   | true=>exact op_notin_str pins s σ H _ _ v u Q I rx ry ⟨i,j,rfl,rfl,q⟩
  | _=>exact(stop_ok e).elim
 | tup t r=>exact seq rfl (.inr (sqt t)) r (inMo_ok e).1
 | fl t r=>exact seq rfl (.inl t.seq) r (inMo_ok e).1
 | ob t =>
  have e0:=bind_ok e;clear e;obtain⟨o,M1,e1,e⟩:=e0;have e10:=getM_ok e1;clear e1;obtain⟨g,rfl⟩:=e10;cases o with
  | lst ds =>
   obtain⟨a,vs,h1,_,h3,h4⟩:=sim_list S (.ob t) g;exact seq h1 (.inl (SqL.of h3)) h4 (inMo_ok e).1
  | dtt kvs=>exact(stop_ok e).elim
  | dic kvs =>
   obtain⟨a,ws,h1,_,h3,h4⟩:=sim_dict S (.ob t) g;have e0:=bind_ok e;clear e;obtain⟨k,_,e5,e6⟩:=e0;have e50:=lift_ok e5;clear e5;obtain⟨hk,hM⟩:=e50;have e60:=pure_ok e6;clear e6;obtain⟨rfl,_⟩:=e60;have hx:=key_rep r1 hk;subst hx;cases h1;obtain rfl:u=Value.ref _:=ry;have hs:(valV ws k).isSome=(kvGet kvs k).isSome:=by
    rcases h4.find k with ⟨z1,z2⟩|⟨_,_,z1,z2,_⟩ <;> rw[z1,z2]
    ·rfl
    ·rfl
   rw[<- hs]at q;cases neg with
   | false=>exact d_in (by first | lia | omega) I (DGet.k (k:=k) h3) rx fun s3 I3=>⟨.bl _,H,I3,rfl,q⟩
   | true=>exact d_notIn (by first | lia | omega) I (DGet.k (k:=k) h3) rx fun s3 I3=>⟨.bl _,H,I3,rfl,q⟩
 | _=>exact(stop_ok e).elim
theorem op_cmp (hu:X.A.units + 100 < cLine)(op:CmpOp):OpR X (compareOp op) (R2S X.K (gCmp op)):=by
 intro pins s σ H x y v u Q I rx ry h;obtain⟨ι,M,M',dx,dy,d,S,r1,r2,e,k⟩:=h;have e0:=bind_ok e;clear e;obtain⟨b,M1,e1,e2⟩:=e0;have e20:=pure_ok e2;clear e2;obtain⟨rfl,rfl⟩:=e20;have fin:M'=M->Q (.bl b) H:=fun z=>by subst z;exact k (.bl b) H ι (.bl b) S Ext.refl
 cases op with
 | Eq =>
  have e10:=eqMo_ok e1;clear e1;obtain⟨hs,rfl⟩:=e10;exact(eq_all I S 20 (A:=X.A) (by first | lia | omega) r1 r2 rx ry hs).1 X.prog X.w X.xe _ ⟨.bl b,H,I,rfl,fin rfl⟩
 | NotEq =>
  have e10:=bind_ok e1;clear e1;obtain⟨c,_,e3,e4⟩:=e10;have e30:=eqMo_ok e3;clear e3;obtain⟨hs,rfl⟩:=e30;have e40:=pure_ok e4;clear e4;obtain⟨rfl,rfl⟩:=e40;exact(eq_all I S 20 (A:=X.A) (by first | lia | omega) r1 r2 rx ry hs).2.1 X.prog X.w X.xe _ ⟨.bl (!c),H,I,rfl,fin rfl⟩
 | Lt =>
  have e10:=lift_ok e1;clear e1;obtain⟨e3,rfl⟩:=e10;cases r1 <;> cases r2 <;> simp only[ltD,Option.some.injEq,reduceCtorEq]at e3
  ·exact op_lt pins s σ H _ _ v u Q I rx ry ⟨_,_,rfl,rfl,by show Q (.bl (decide _)) H;rw[e3];exact fin rfl⟩
  ·exact op_lt_str pins s σ H _ _ v u Q I rx ry ⟨_,_,rfl,rfl,by rw[e3];exact fin rfl⟩
 | LtE =>
  have e10:=lift_ok e1;clear e1;obtain⟨e3,rfl⟩:=e10;cases r1 <;> cases r2 <;> simp only[leD,Option.some.injEq,reduceCtorEq]at e3
  ·exact op_le pins s σ H _ _ v u Q I rx ry ⟨_,_,rfl,rfl,by show Q (.bl (decide _)) H;rw[e3];exact fin rfl⟩
  ·obtain⟨t,rfl⟩:=rx
   obtain⟨t',rfl⟩:=ry;exact PySem.P.le_str (fin_bl I (fin rfl) e3.symm)
 | Gt =>
  cases r1 <;> cases r2 <;> first
   | exact(stop_ok e1).elim
   | (have e10:=pure_ok e1;clear e1;obtain⟨rfl,rfl⟩:=e10;exact op_gt pins s σ H _ _ v u Q I rx ry ⟨_,_,rfl,rfl,fin rfl⟩)
 | GtE =>
  cases r1 <;> cases r2 <;> first
   | exact(stop_ok e1).elim
   | (have e10:=pure_ok e1;clear e1;obtain⟨rfl,rfl⟩:=e10;exact op_ge pins s σ H _ _ v u Q I rx ry ⟨_,_,rfl,rfl,fin rfl⟩)
 | In=>exact in_ok hu false I rx ry S r1 r2 e1 (fin (inD_M e1))
 | NotIn =>
  have e10:=bind_ok e1;clear e1;obtain⟨b',M2,e3,e4⟩:=e10;have e40:=pure_ok e4;clear e4;obtain⟨rfl,rfl⟩:=e40;exact in_ok hu true I rx ry S r1 r2 e3 (fin (inD_M e3))
 | Is =>
  have e10:=bind_ok e1;clear e1;obtain⟨_,_,e3,e4⟩:=e10;have e30:=need_ok e3;clear e3;obtain⟨hs,rfl⟩:=e30;have e40:=pure_ok e4;clear e4;obtain⟨rfl,rfl⟩:=e40;cases r2 <;> simp[isN]at hs;refine op_isN pins s σ H _ _ v u Q I rx ry ⟨rfl,?_⟩
  have:decide (x=V.non)=isN dx:=by cases r1 <;> simp[isN]
  rw[this];exact fin rfl
 | IsNot =>
  have e10:=bind_ok e1;clear e1;obtain⟨_,_,e3,e4⟩:=e10;have e30:=need_ok e3;clear e3;obtain⟨hs,rfl⟩:=e30;have e40:=pure_ok e4;clear e4;obtain⟨rfl,rfl⟩:=e40;cases r2 <;> simp[isN]at hs;refine op_notN pins s σ H _ _ v u Q I rx ry ⟨rfl,?_⟩
  have:decide (x=V.non)=isN dx:=by cases r1 <;> simp[isN]
  rw[this];exact fin rfl
theorem cat_nil {pins:List (Addr×Obj)}{s:Shared}{σ:St}{H:Hp}{a b:Addr}{us:List V}{Q:Value->Shared->Prop}{E:Value->Shared->Prop}(I:Inv X pins σ H s)(t1:SqT X.K H a [])(t2:SqT X.K H b us)(q:Q (.ref b) s):wpAny (model X.prog X.w) X.A (binaryOp .Add (.ref a) (.ref b)) Q E s:=by
 obtain⟨its,q1,p1,_⟩:=I.tuple t1;obtain⟨its2,q2,p2,_⟩:=I.tuple t2;cases q1;obtain⟨⟨cls,dd,data,sl⟩,ho,hc,n,hd⟩:=id p1;obtain⟨⟨cls2,dd2,data2,sl2⟩,ho2,hc2,n2,hd2⟩:=id p2;simp only at hc hd hc2 hd2;subst hc hd hc2 hd2;exact concat_meets ⟨_,ho,rfl⟩ ⟨_,ho2,rfl⟩ noFill_tuple_add seq_tuple_add PySem.F.slot_tuple_add PySem.F.entry_tuple_add (PySem.F.args_tuple_add_2 _ _)
  (tuple_addW0 a b _ its2.toArray n n2 dd dd2 sl sl2 (by simp)) ⟨ho,ho2,q⟩
theorem mul_str {pins:List (Addr×Obj)}{s:Shared}{σ:St}{H:Hp}{x:Str}{j:Int}{t t':Tok}{Q:VK}(I:Inv X pins σ H s)(n1:2<=j)(n2:j < 1000)(n3:0 < x.length)(n4:x.length < 1000)(q:Q (.str (repS x j.toNat)) H) :
  wpAny (model X.prog X.w) X.A (binaryOp .Mult (.str x t) (.int j t')) (EP X pins σ Q) X.xe s:=by
 have hb:x.length * j.toNat < 1000000:=by
  have h1:x.length * j.toNat<=999 * j.toNat:=yH _ (by first | lia | omega)
  first | lia | omega
 have e:PySem.Txt.mul x j=repS x j.toNat:=by
  unfold PySem.Txt.mul repS;rw[if_neg (by first | lia | omega),if_neg (by simp;omega)]
 have ok:PySem.MulOk x j:=by
  refine⟨by simp;omega,fun _ _=>?_,fun _ _=>?_⟩
  ·have:(1000:Int)<=(2 ^ 63 - 1:Int) / j:=Int.le_ediv_of_mul_le (by first | lia | omega) (by first | lia | omega)
   first | lia | omega
  ·unfold Builtin.Str.tooLong zh
   exact decide_eq_false (by first | lia | omega)
 refine PySem.SB.mul ok fun t2 k2=>?_;rw[e];exact⟨.str _,H,I.tok _,⟨t2,rfl⟩,q⟩
theorem op_bin (op:Operator):OpR X (binaryOp op) (R2S X.K (opD op)):=by
 intro pins s σ H x y v u Q I rx ry h;obtain⟨ι,M,M',dx,dy,d,S,r1,r2,e,k⟩:=h;have fin:∀ {w':V},M'=M->Rep X.K ι H d w'->Q w' H:=fun {w'} z r=>by subst z;exact k w' H ι r S Ext.refl
 cases op
 case Add =>
  cases dx <;> first | exact(stop_ok e).elim | (cases dy <;> first | exact(stop_ok e).elim | skip)
  ·delta opD at e
   dsimp only at e;have e0:=pure_ok e;clear e;obtain⟨rfl,rfl⟩:=e0;cases r1;cases r2;exact op_add pins s σ H _ _ v u Q I rx ry ⟨_,_,rfl,rfl,fin rfl (.int _)⟩
  ·delta opD at e
   dsimp only at e;have e0:=bind_ok e;clear e;obtain⟨_,_,e1,e⟩:=e0;have e10:=need_ok e1;clear e1;obtain⟨hn,rfl⟩:=e10;have e0:=pure_ok e;clear e;obtain⟨rfl,rfl⟩:=e0;cases r1;cases r2;exact op_add_str pins s σ H _ _ v u Q I rx ry ⟨_,_,rfl,rfl,hn,fin rfl (.str _)⟩
  ·delta opD at e
   dsimp only at e;have e0:=bind_ok e;clear e;obtain⟨_,_,e1,e⟩:=e0;have e10:=need_ok e1;clear e1;obtain⟨hz,rfl⟩:=e10;have e0:=pure_ok e;clear e;obtain⟨rfl,rfl⟩:=e0;cases r1 with
   | tup t1 q1 =>
    cases r2 with
    | tup t2 q2 =>
     rename_i a vs b us;by_cases hn:vs=[]
     ·subst hn
      cases q1;cases rx;cases ry;exact cat_nil I (sqt t1) (sqt t2) ⟨.ref _,H,I,rfl,k _ H ι (.tup t2 q2) S Ext.refl⟩
     ·refine op_catT pins s σ H _ _ v u Q I rx ry ⟨_,_,_,_,rfl,rfl,sqt t1,sqt t2,hn,by rw[<- q1.length,<- q2.length];exact hz,fun z=>?_,fun z=>new_tup S (q1.append q2) k⟩
      subst z;cases q2;rw[zT]at k;exact k _ H ι (.tup t1 q1) S Ext.refl
  ·delta opD at e
   dsimp only at e;have e0:=bind_ok e;clear e;obtain⟨xs,_,e1,e⟩:=e0;have e10:=getL_ok e1;clear e1;obtain⟨g1,rfl⟩:=e10;have e0:=bind_ok e;clear e;obtain⟨ys,_,e1,e⟩:=e0;have e10:=getL_ok e1;clear e1;obtain⟨g2,rfl⟩:=e10;have e0:=bind_ok e;clear e;obtain⟨_,_,e1,e⟩:=e0;have e10:=need_ok e1;clear e1;obtain⟨hn,rfl⟩:=e10;obtain⟨a,vs,rfl,_,h3,h4⟩:=sim_list S r1 g1;obtain⟨b,us,rfl,_,h5,h6⟩:=sim_list S r2 g2;exact op_cat pins s σ H _ _ v u Q I rx ry ⟨a,b,vs,us,rfl,rfl,h3,h5,by rw[<- h4.length,<- h6.length];exact hn,new_list S (h4.append h6) e k⟩
 case Sub =>
  cases dx <;> first | exact(stop_ok e).elim | (cases dy <;> first | exact(stop_ok e).elim | skip)
  ·delta opD at e
   dsimp only at e;have e0:=pure_ok e;clear e;obtain⟨rfl,rfl⟩:=e0;cases r1;cases r2;exact op_sub pins s σ H _ _ v u Q I rx ry ⟨_,_,rfl,rfl,fin rfl (.int _)⟩
 case Mult =>
  cases dx <;> first | exact(stop_ok e).elim | (cases dy <;> first | exact(stop_ok e).elim | skip)
  ·delta opD at e
   dsimp only at e;have e0:=bind_ok e;clear e;obtain⟨_,_,e1,e⟩:=e0;have e10:=need_ok e1;clear e1;obtain⟨hn,rfl⟩:=e10;have e0:=pure_ok e;clear e;obtain⟨rfl,rfl⟩:=e0;cases r1;cases r2;exact op_mul pins s σ H _ _ v u Q I rx ry ⟨_,_,rfl,rfl,hn,fin rfl (.int _)⟩
  ·delta opD at e
   dsimp only at e;have e0:=bind_ok e;clear e;obtain⟨_,_,e1,e⟩:=e0;have e10:=need_ok e1;clear e1;obtain⟨⟨n1,n2,n3,n4⟩,rfl⟩:=e10;have e0:=pure_ok e;clear e;obtain⟨rfl,rfl⟩:=e0;cases r1;cases r2;obtain⟨t,rfl⟩:=rx;obtain⟨t',rfl⟩:=ry;exact mul_str I n1 n2 n3 n4 (fin rfl (.str _))
 case FloorDiv =>
  cases dx <;> first | exact(stop_ok e).elim | (cases dy <;> first | exact(stop_ok e).elim | skip)
  ·delta opD at e
   dsimp only at e;have e0:=bind_ok e;clear e;obtain⟨_,_,e1,e⟩:=e0;have e10:=need_ok e1;clear e1;obtain⟨hn,rfl⟩:=e10;have e0:=pure_ok e;clear e;obtain⟨rfl,rfl⟩:=e0;cases r1;cases r2;exact op_fdiv pins s σ H _ _ v u Q I rx ry ⟨_,_,rfl,rfl,hn,fin rfl (.int _)⟩
 case Mod =>
  cases dx <;> first | exact(stop_ok e).elim | (cases dy <;> first | exact(stop_ok e).elim | skip)
  ·delta opD at e
   dsimp only at e;have e0:=bind_ok e;clear e;obtain⟨_,_,e1,e⟩:=e0;have e10:=need_ok e1;clear e1;obtain⟨hn,rfl⟩:=e10;have e0:=pure_ok e;clear e;obtain⟨rfl,rfl⟩:=e0;cases r1;cases r2;exact op_mod pins s σ H _ _ v u Q I rx ry ⟨_,_,rfl,rfl,hn,fin rfl (.int _)⟩
 case Pow =>
  cases dx <;> first | exact(stop_ok e).elim | (cases dy <;> first | exact(stop_ok e).elim | skip)
  ·delta opD at e
   dsimp only at e;have e0:=bind_ok e;clear e;obtain⟨_,_,e1,e⟩:=e0;have e10:=need_ok e1;clear e1;obtain⟨hn,rfl⟩:=e10;have e0:=pure_ok e;clear e;obtain⟨rfl,rfl⟩:=e0;cases r1;cases r2;exact op_pow pins s σ H _ _ v u Q I rx ry ⟨_,_,rfl,rfl,hn,fin rfl (.int _)⟩
 all_goals exact(stop_ok e).elim
theorem ix_dict (hu:X.A.units + 100 < cLine):IxR X (fun x y H Q=>∃ a v,x=.ref a/\DGet H a y (some v)/\Q v H):=by
 intro value slice pins s σ H x y v u Q I rx ry h hs;obtain⟨a,w',rfl,g,q⟩:=h;obtain rfl:v=Value.ref a:=rx;exact tail_any (dict_typeIs I g) PySem.F.slot_dict_getitem.lookup (d_getItem (by first | lia | omega) I g ry fun w2 s3 I3 rw'=>⟨w',H,I3,rw',q⟩) hs
theorem ix_get (hu:X.A.units + 100 < cLine):IxR X (R2S X.K getIx):=by
 intro value slice pins s σ H x y v u Q I rx ry h hs;obtain⟨ι,M,M',dx,dy,d,S,r1,r2,e,k⟩:=h;have fin:∀ {w':V},M'=M->Rep X.K ι H d w'->Q w' H:=fun {w'} z r=>by subst z;exact k w' H ι r S Ext.refl
 unfold getIx at e;split at e
 ·have e0:=lift_ok e;clear e;obtain⟨e1,rfl⟩:=e0
  cases r2;cases r1 with
  | tup t q =>
   obtain⟨w',h1,h2⟩:=reps_at q e1;exact ix_tup value slice pins s σ H _ _ v u Q I rx ry ⟨_,_,_,w',rfl,rfl,sqt t,h1,fin rfl h2⟩ hs
 ·have e0:=lift_ok e;clear e;obtain⟨e1,rfl⟩:=e0
  cases r2;cases r1 with
  | fl t q =>
   obtain⟨w',h1,h2⟩:=reps_at q e1;exact ix_list value slice pins s σ H _ _ v u Q I rx ry ⟨_,_,_,w',rfl,rfl,t.seq,h1,fin rfl h2⟩ hs
 ·have e0:=bind_ok e;clear e;obtain⟨_,_,e1,e⟩:=e0
  have e10:=need_ok e1;clear e1;obtain⟨hn,rfl⟩:=e10;have e0:=bind_ok e;clear e;obtain⟨c,_,e1,e⟩:=e0;have e10:=lift_ok e1;clear e1;obtain⟨hc,rfl⟩:=e10;have e0:=pure_ok e;clear e;obtain⟨rfl,rfl⟩:=e0;cases r2;cases r1;exact ix_str value slice pins s σ H _ _ v u Q I rx ry ⟨_,_,c,rfl,rfl,hn,hc,fin rfl (.str _)⟩ hs
 ·have e0:=bind_ok e;clear e;obtain⟨o,_,e1,e⟩:=e0
  have e10:=getM_ok e1;clear e1;obtain⟨g,rfl⟩:=e10;cases o with
  | lst ds =>
   dsimp only at e;split at e
   ·have e0:=lift_ok e;clear e;obtain⟨e1,rfl⟩:=e0
    obtain⟨a,vs,rfl,_,h3,h4⟩:=sim_list S r1 g;cases r2;obtain⟨w',h1,h2⟩:=reps_at h4 e1;exact ix_list value slice pins s σ H _ _ v u Q I rx ry ⟨_,_,_,w',rfl,rfl,SqL.of h3,h1,fin rfl h2⟩ hs
   ·exact(stop_ok e).elim
  | dic kvs =>
   have e0:=bind_ok e;clear e;obtain⟨q,_,e1,e⟩:=e0;have e10:=lift_ok e1;clear e1;obtain⟨hk,rfl⟩:=e10;have e0:=lift_ok e;clear e;obtain⟨e1,rfl⟩:=e0;obtain⟨a,ws,rfl,_,h3,h4⟩:=sim_dict S r1 g;have hy:=key_rep r2 hk;subst hy;rcases h4.find q with ⟨z1,z2⟩|⟨d',w',z1,z2,z3⟩
   ·rw[z1]at e1;cases e1
   ·rw[z1]at e1;cases e1
    have g2:DGet H a (kV q) (some w'):=z2 ▸ DGet.k (k:=q) h3;exact ix_dict hu value slice pins s σ H _ _ v u Q I rx ry ⟨a,w',rfl,g2,fin rfl z3⟩ hs
  | dtt kvs=>exact tt_ix hu S r1 r2 g e I rx ry hs fun w' z hM=>fin hM z
 ·exact(stop_ok e).elim
noncomputable def RSet (K:PySem.W.Frag):TSet:=fun o i v H Q=>∃ ι M M' x y z u,Sim K ι M H/\Rep K ι H x o/\Rep K ι H y i/\Rep K ι H z v/\setIx x y z M=some (.ok u,M') /\
 ∀ H',Sim K ι M' H'->Ext K ι H ι H'->Q H'
theorem set_ix (hu:X.A.units + 100 < cLine):PSet X (RSet X.K):=by
 intro pins s σ H o i v ov iv u Q I ro ri rv h;obtain⟨ι,M,M',x,y,z,w',S,r1,r2,r3,e,k⟩:=h;unfold setIx at e;split at e
 ·have e0:=bind_ok e;clear e;obtain⟨ob,_,e1,e⟩:=e0
  have e10:=getM_ok e1;clear e1;obtain⟨g,rfl⟩:=e10;cases ob with
  | lst ds =>
   dsimp only at e;split at e
   ·have e0:=bind_ok e;clear e;obtain⟨j,_,e1,e⟩:=e0
    have e10:=lift_ok e1;clear e1;obtain⟨hj,rfl⟩:=e10;have e0:=putM_ok e;clear e;obtain⟨_,rfl⟩:=e0;obtain⟨a,vs,rfl,hi,h3,h4⟩:=sim_list S r1 g;cases r2;refine set_list pins s σ H _ _ v ov iv u Q I ro ri rv ⟨a,vs,_,j,rfl,rfl,h3,by rw[<- h4.length];exact hj,?_⟩;have x:Ext X.K ι H ι (upd H a (.lst (vs.set j v))):=Ext.write h3 (mut_l _);exact k _ (S.put hi ⟨_,rfl,(h4.mono x).set (r3.mono x) j⟩) x
   ·exact(stop_ok e).elim
  | dic kvs =>
   have e0:=bind_ok e;clear e;obtain⟨q,_,e1,e⟩:=e0;have e10:=lift_ok e1;clear e1;obtain⟨hk,rfl⟩:=e10;have e0:=bind_ok e;clear e;obtain⟨_,_,e1,e⟩:=e0;have e10:=need_ok e1;clear e1;obtain⟨hn,rfl⟩:=e10;have e0:=putM_ok e;clear e;obtain⟨_,rfl⟩:=e0;obtain⟨a,ws,rfl,hi,h3,h4⟩:=sim_dict S r1 g;have hy:=key_rep r2 hk;subst hy;obtain rfl:ov=Value.ref a:=ro;have x:Ext X.K ι H ι (upd H a (.dK (putK ws q v))):=Ext.write h3 (mut_d _);refine d_setItem (by first | lia | omega) I (DPut.k (k:=q) h3 (by rw[<- h4.len];exact hn)) ri rv fun s4 I4=>⟨_,I4,?_⟩
   exact k _ (S.put hi ⟨_,rfl,(h4.mono x).put q (r3.mono x)⟩) x
  | dtt kvs=>exact tt_set hu S r1 r2 r3 g e I ro ri rv k
 ·exact(stop_ok e).elim
end
end L3
namespace L3
open PySem PySem.Spec PyProof.Rows L2
set_option maxRecDepth 8000 in
theorem no_keys {prog:Program}{w:World}{A:Around}{E:Value->Shared->Prop}{s:Shared}{a:Addr}{o:Obj}{xs:Array Value}{k:Nat}{Q:Option Value->Shared->Prop}
  (hx:s.heap.get? a=some o) (hc:o.cls=.type "tuple") (hdat:o.data=.seq xs k) (hd:o.dict=none) (hA:A.handled=none)
  (h:∀ h' tk e,Heap.NewExcOf s.heap h' e "AttributeError"->Q none { s with heap:=h',toks:=tk }) :
  wpAny (model prog w) A (getAttr? (.ref a) "keys") Q E s:=by
 obtain⟨c,dct,dat,sl⟩:=o;simp only at hc hdat hd;subst hc hdat hd;obtain⟨hp,g,d,tk,os⟩:=s;have hT:∀ tk',(⟨hp,g,d,tk',os⟩:Shared).TypeIs (.ref a) "tuple":=fun _=>⟨_,hx,rfl⟩;have f1:=sub_AttributeError;have f3:=F.slot_tuple_getattribute.lookup;have f4:=F.slot_tuple_getattribute.bind (.ref a);have f5:=am_tuple_getattr_none;have hmiss:typeLookup (.type "tuple") "keys" = pure none:=by rw[typeLookup_type,builtinLookup_eq_fast];kernel_rfl
 unfold getAttr? getAttrBy? getAttrBy
 repeat (any_goals (first | assumption | exact hT _ | ((with_reducible show wpAny _ _ (call (Value.builtin "tuple.__getattribute__") _ _) _ _ _);refine call_meets F.slot_tuple_getattribute (hT _) am_entry_tuple_getattribute (F.args_tuple_getattribute_2 _ _) (meets_getattribute_miss_tuple a xs k sl "keys" _ hmiss (by decide) (by decide)) ⟨hx,hA,fun h' tk' e hx'=>?_⟩) | wp_step))
 obtain⟨t',u',he⟩:=hx'.there;show wpAny _ _ (getattributeRaised _ _ _ _ _ _ _) _ _ _;unfold getattributeRaised
 repeat (any_goals (first | assumption | wp_step))
 exact h _ _ _ hx'.of
end L3
namespace L3
open PySem PySem.Spec PyProof.Rows L2
section
variable {prog:Program}{w:World}{K:Type}[DecidableEq K]{knd:PySem.KeyKind prog w K}{A:Around}{E:Value->Shared->Prop}
noncomputable def puts (kvs:List (K×Value)):List (K×Value)->List (K×Value)
 | []=>kvs
 | (k,v)::r=>puts (stored kvs k v) r
theorem stored_len (kvs:List (K×Value))(k:K)(v:Value):(stored kvs k v).length<=kvs.length + 1:=by
 unfold stored;split
 ·rw[zz];omega
 ·rw[zp];exact zo _
noncomputable def PairsAt (knd:PySem.KeyKind prog w K)(h:Heap):List Value->List (K×Value)->Prop
 | [],[]=>True
 | u::us,(k,v)::r=>(∃ p key o n,u=.ref p/\h.get? p=some o/\o.cls=.type "tuple"/\o.data=.seq #[key,v] n/\knd.is k key=true)/\PairsAt knd h us r
 | _,_=>False
theorem entry_loop:entryFor table "dict.update.loop" = some Builtin.«dict.update.loop»:=entryFor_of_tree (by kernel_rfl)
theorem loop_pairs {R:Result->Shared->Prop}{s₀:Shared}{d it a:Addr}{items:List Value}(hA:A.handled=none)(ha:s₀.heap.IsTuple a items.toArray)(nd:d≠it)(na:a≠d)(ni:a≠it) :
  ∀ (us:List Value) (ps kvs:List (K×Value)) (i:Nat) (s:Shared),items.drop i=us->PairsAt knd s₀.heap us ps->(∀ u∈us,u≠.ref d/\u≠.ref it)->s.heap.IsTupleIter it a i->s.heap.DictOf knd d kvs->kvs.length + us.length<=zh ->
   s.gens=s₀.gens->s.drawn=s₀.drawn->s.os=s₀.os->(∀ b o,b≠d->b≠it->s₀.heap.get? b=some o->s.heap.get? b=some o) ->
   (∀ h' tk,h'.DictOf knd d (puts kvs ps)->(∀ b o,b≠d->b≠it->s₀.heap.get? b=some o->h'.get? b=some o)->R (.ok (.ret .none)) { s₀ with heap:=h',toks:=tk }) ->
   codeAny (model prog w) A (.builtin "dict.update.loop" ⟨[.ref d,.ref it,rawInt i,.none],[]⟩) R s
 | [],[],kvs,i,s,hu,hp,hx,hi,hd,hz,e1,e2,e3,kk,fin=>by
  refine codeAny_builtin entry_loop ?_;unfold Builtin.«dict.update.loop»;have ha':s.heap.IsTuple a items.toArray:=ha.at fun o e=>kk a o na ni e;refine zw (wpAny_pyNext_tuple_end hA hi ha' (by simpa using hu) fun h' eb=>?_);show wpAny _ _ (Builtin.Dict.addKeywords d [] >>= fun _=>ret Value.none) _ _ _;refine zw (zj (zj ?_));have hd':h'.DictOf knd d (puts kvs []):=hd.at fun o e=>eb d o nd e
  have:=fin h' s.toks hd' fun b o n1 n2 e=>eb b o n2 (kk b o n1 n2 e)
  rw[<- e1,<- e2,<- e3]at this;exact this
 | u::us,(k,v)::ps,kvs,i,s,hu,hp,hx,hi,hd,hz,e1,e2,e3,kk,fin=>by
  refine codeAny_builtin entry_loop ?_;unfold Builtin.«dict.update.loop»;have ha':s.heap.IsTuple a items.toArray:=ha.at fun o e=>kk a o na ni e;have hget:items[i]?=some u:=by
   have:=congrArg (fun l=>l[0]?) hu
   simpa using this
  refine zw (wpAny_pyNext_tuple_item hi ha' (by simpa using hget) fun h' hi' sb=>?_);obtain⟨⟨p,key,o,n,rfl,ho,hc,hdt,hk⟩,hp2⟩:=hp;have hxu:=hx _ zD;have np:p≠d:=fun z=>hxu.1 (by rw[z]);have npi:p≠it:=fun z=>hxu.2 (by rw[z]);have ho':h'.get? p=some o:=(sb.2 p npi).trans (kk p o np npi ho);have hd1:h'.DictOf knd d kvs:=hd.at fun o e=>(sb.2 d nd).trans e;have hT:Shared.TypeIs { s with heap:=h' } (.ref p) "tuple":=⟨_,ho',hc⟩;refine zw (wpAny_holding (zw (wpAny_tryCatch ?_)));unfold Builtin.Dict.pairItems;refine zw (wpAny_typeOf hT ?_);rw[if_pos (by decide)];refine zw (wpAny_seqItems (s:={ s with heap:=h' }) ho' hdt ?_);refine zj ?_;show wpAny _ _ (holding [key,v] (dictSet d key v)) _ _ _;have hz':kvs.length + (us.length + 1)<=zh:=hz;refine wpAny_holding (wpAny_dictSet_pairs hk (s:={ s with heap:=h' }) hd1 (fun h2 hd2 sb2=>?_) (by first | lia | omega))
  have sb2:Heap.SameBut d h' h2:=sb2;refine zj ⟨Code.quiet_builtin _ (by decide +kernel),?_⟩;have ei:(i:Int) + 1=((i + 1:Nat):Int):=by first | lia | omega
  rw[ei];refine loop_pairs hA ha nd na ni us ps (stored kvs k v) (i + 1) _ ?_ hp2 (fun u hu=>hx u (zK _ hu)) ?_ hd2 ?_ e1 e2 e3 (fun b o n1 n2 e=>?_) fin
  ·rw[<- List.drop_drop,hu];rfl
  ·exact hi'.extBut sb2.extBut (Ne.symm nd)
  ·have:=stored_len kvs k v
   first | lia | omega
  ·exact(sb2.2 b n1).trans ((sb.2 b n2).trans (kk b o n1 n2 e))
 | [],_::_,_,_,_,_,hp,_,_,_,_,_,_,_,_,_=>hp.elim
 | _::_,[],_,_,_,_,hp,_,_,_,_,_,_,_,_,_=>hp.elim
theorem call_dict_pairs {s:Shared}{a:Addr}{o:Obj}{n:Nat}{items:List Value}{ps:List (K×Value)}{Q:Value->Shared->Prop}(hA:A.handled=none)(ho:s.heap.get? a=some o)(hc:o.cls=.type "tuple")(hd:o.dict=none)(hdt:o.data=.seq items.toArray n)
  (hp:PairsAt knd s.heap items ps) (hz:items.length<=zh)
  (h:∀ h' tk,h'.DictOf knd s.heap.objs.size (puts [] ps)->(∀ b o,s.heap.get? b=some o->h'.get? b=some o)->Q (.ref s.heap.objs.size) { s with heap:=h',toks:=tk }) :
  wpAny (model prog w) A (call (.type "dict") [.ref a]) Q E s:=by
 refine callType_codes (Q₁:=fun obj s₁=>obj=.ref s.heap.objs.size/\s₁ = { s with heap:=s.heap.push { cls:=.type "dict",data:=.dict #[] } }) F.kt_called_dict (F.kt_typeCall_dict_1 _) F.entry_dict_init (kt_code_dict_new _ ⟨rfl,rfl⟩) ?_;rintro obj s₁ ⟨rfl,rfl⟩;have hnew:(s.heap.push { cls:=.type "dict",data:=.dict #[] }).DictOf knd s.heap.objs.size []:=Heap.DictOf.new s.heap;have ha':(s.heap.push { cls:=.type "dict",data:=.dict #[] }).get? a=some o:=zb _ ho;have lta:a < s.heap.objs.size:=za ho;have hT:Shared.TypeIs { s with heap:=s.heap.push { cls:=.type "dict",data:=.dict #[] } } (.ref a) "tuple":=⟨_,ha',hc⟩;refine⟨hnew.typeIs,F.args_dict_init_2 _ _,?_⟩;unfold Builtin.«dict.__init__»;refine zw ?_;unfold Builtin.Dict.selfAndRest;refine zw (wpAny_notOrdered_dict hnew.typeIs ?_);show wpAny _ _ (pure (s.heap.objs.size,[Value.ref a])) _ _ _;refine zj ?_;show wpAny _ _ (Builtin.Dict.updateFrom "dict.__init__" s.heap.objs.size (.ref a) [] .none) _ _ _;unfold Builtin.Dict.updateFrom;refine zw (wpAny_typeOf hT ?_);rw[if_pos (by decide)];refine zw (no_keys (s:={ s with heap:=s.heap.push { cls:=.type "dict",data:=.dict #[] } }) ha' hc hdt hd hA fun h1 tk e hx=>?_);have k1:∀ b o,s.heap.get? b=some o->h1.get? b=some o:=fun b o e=>hx.keeps b o (zb _ e);have hnew1:h1.DictOf knd s.heap.objs.size []:=hnew.at fun o e=>hx.keeps _ o e;have lt1:s.heap.objs.size < h1.objs.size:=by
  obtain⟨_,_,_,hg,_⟩:=hnew1;exact za hg
 refine zw (wpAny_rule ?_);have hat:h1.IsTuple a items.toArray:=⟨_,k1 _ _ ho,hc,n,hdt⟩;refine zw (wpAny_pyIter_tuple (s:={ s with heap:=h1,toks:=tk }) hat ?_);refine zj ⟨Code.quiet_builtin _ (by decide +kernel),?_⟩;have pk:∀ {h2:Heap} {us:List Value} {qs:List (K×Value)},(∀ b o,s.heap.get? b=some o->h2.get? b=some o)->PairsAt knd s.heap us qs->PairsAt knd h2 us qs:=by
  intro h2 us qs kk;induction us generalizing qs with
  | nil=>cases qs <;> exact id
  | cons u us ih =>
   cases qs with
   | nil=>exact id
   | cons q qs=>exact fun ⟨⟨p,key,o,n,e1,e2,e3⟩,e4⟩=>⟨⟨p,key,o,n,e1,kk _ _ e2,e3⟩,ih e4⟩
 have pn:∀ {us:List Value} {qs:List (K×Value)},PairsAt knd s.heap us qs->∀ u∈us,∀ b,s.heap.objs.size<=b->u≠.ref b:=by
  intro us qs;induction us generalizing qs with
  | nil=>exact fun _ u hu=>by cases hu
  | cons u us ih =>
   cases qs with
   | nil=>exact fun z=>z.elim
   | cons q qs =>
    rintro ⟨⟨p,key,o,n,e1,e2,e3⟩,e4⟩ x hx b hb z;rcases zN.mp hx with rfl | hx
    ·rw[e1]at z
     cases z;exact absurd (za e2) (Nat.not_lt.mpr hb)
    ·exact ih e4 x hx b hb z
 have sz:(h1.push { cls:=.type "tuple_iterator",data:=.fields #[.ref a,.int 0 0] }).objs.size=h1.objs.size + 1:=xQ ..;refine loop_pairs (A:=A.in1) (R:=wants (fun r s₂=>r=Value.none/\Q (.ref s.heap.objs.size) s₂) E) (s₀:={ s with heap:=h1.push { cls:=.type "tuple_iterator",data:=.fields #[.ref a,.int 0 0] },toks:=tk }) (d:=s.heap.objs.size) (it:=h1.objs.size) (a:=a) (items:=items) hA (hat.push _) (zE lt1) (zE lta) (zE (wS lta lt1)) items ps [] 0 _ rfl (pk (fun b o e=>zb _ (k1 b o e)) hp)
  (fun u hu=>⟨pn hp u hu _ (zo _),pn hp u hu _ (wo lt1)⟩) ⟨_,zR _ rfl,rfl,rfl⟩ (hnew1.push _) (by rw[yg,va];exact hz) rfl rfl rfl (fun b o _ _ e=>e) fun h' tk' hd' kk=>(show Value.none=Value.none/\Q _ _ from ⟨rfl,h h' tk' hd' fun b o e=>?_⟩)
 have:=za e
 exact kk b o (zE this) (zE (wS this lt1)) (zb _ (k1 b o e))
end
end L3
namespace L3
open PySem PySem.Spec PyProof.Rows L2
section
variable {prog:Program}{w:World}{A:Around}{E:Value->Shared->Prop}{s:Shared}
theorem getItem_tuple_whole {t sl:Addr}{items:Array Value}{vl vu:Value}{lo hi:Option Int}{Q:Value->Shared->Prop}(ht:IsTup s.heap t items)(hs:s.heap.IsSliceOf sl vl vu .none)(pl:IsPart vl lo)(pu:IsPart vu hi)
  (hw:HT.sIx items.size 0 lo=0/\HT.sIx items.size items.size hi=items.size) (h:Q (.ref t) s):wpAny (model prog w) A (getItem (.ref t) (.ref sl)) Q E s:=by
 obtain⟨os,hos,hcs,hds⟩:=id hs;have hTs:s.TypeIs (.ref sl) "slice":=⟨os,hos,hcs⟩;unfold getItem
 try with_reducible refine wpAny_holding ?_
 first | refine zw (zj ?_) | skip
 refine zw (wpAny_sequenceKey ht.typeIs (by decide) ?_);refine zw (wpAny_callSpecial?_slot (name:=Str.ofString "__getitem__") ht.typeIs PyProof.Rows.slot_tuple_getitem
  (wpAny_call_entry PyProof.Rows.slot_tuple_getitem ht.typeIs entry_tuple_getitem ?_ (args_tuple_getitem _ _)))
 show wpAny _ _ (Builtin.Tuple.tupleItemsOf (.ref t) >>= _) _ _ s;refine zw (tupleItemsOf_ ht ?_);refine zw (wpAny_typeOf hTs ?_);rw[if_pos (by decide)];refine zw (HT.sliceApplied_gen hs pl pu ?_);have hyes:(((HT.sIx items.size 0 lo:Nat):Int)==0&&(1:Int)==1&&(HT.sIx items.size items.size hi - HT.sIx items.size 0 lo)==items.size)=true:=by
  rw[hw.1,hw.2];simp
 show wpAny _ _ (if (((HT.sIx items.size 0 lo:Nat):Int)==0&&(1:Int)==1&&(HT.sIx items.size items.size hi - HT.sIx items.size 0 lo)==items.size)=true then _ else _) _ _ s;rw[if_pos hyes];refine zw ?_;refine zw (wpAny_typeOf ht.typeIs ?_);refine zj ?_;rw[if_pos (by decide)];refine zw (wpAny_rule ?_)
 first
  | exact zw (zj (zj ⟨_,rfl,zj h⟩))
  | exact zj ⟨_,rfl,zj h⟩
  | exact zw (zj ⟨_,rfl,zj h⟩)
end
section
variable {X:Cx}
noncomputable def MFact (T:String)(name:Str)(id:String):Prop:=PlainAttrs T/\Slot T name id/\typeOf (.builtin id)=pure (.type "method_descriptor")
noncomputable def RcvIs (X:Cx)(T:String)(x:V)(H:Hp):Prop:=∀ (pins:List (Addr×Obj)) (σ:St) (s:Shared) (v:Value),Inv X pins σ H s->RelV x v->s.TypeIs v T/\∀ a,v=.ref a->∃ ob,s.heap.get? a=some ob/\ob.dict=none
noncomputable def tBMx (X:Cx)(name:Str)(r:String->V->List V->Hp->VK->Prop)(to:TE)(t:TA):TE:=fun σ H Q=>to σ H fun x H1=>∃ T id,MFact T name id/\RcvIs X T x H1/\t σ H1 fun xs H2=>r id x xs H2 Q
theorem pe_bmx {name:Str}{r:String->V->List V->Hp->VK->Prop}{o e:Expr}{es:List Expr}{to:TE}{t:TA}{apos cpos:Pos}(hm:∀ id,MtR X id (r id))(ho:PE X o to)(ha:PA X (e::es) t)
  (hbase:attributeBase o name X.env (eval o X.env)=eval o X.env)
  (hfew:((backTo cpos (starEach (e::es) X.env)).all (fun x=>!x.1)&&(backToKw cpos (keywordEach [] X.env)).all (fun x=>x.1.isSome)
  &&decide ((e::es).length + ([]:List Keyword).length + (if ([]:List Keyword).isEmpty then 0 else 1) < 30))=true)
  (hline:(apos.endLine==cpos.line)=true) (hs:starEach (e::es) X.env=(false,eval e X.env)::starEach es X.env) (hplain:(backTo cpos (starEach es X.env)).any (·.1)=false) :
  PE X (.Call (.Attribute o name apos) (e::es) [] cpos) (tBMx X name r to t):=by
 intro pins s σ H Q I h;refine wpAny_Call_method_late hbase hfew hline rfl (thn (ho pins s σ H _ I h) fun v s1 ⟨x,H1,I1,r1,T,id,⟨pa,slot,hty⟩,ty,q1⟩=>?_);obtain⟨h1,h2⟩:=ty pins σ s1 v I1 r1;refine⟨T,id,pa,slot,hty,h1,h2,?_⟩;have hA:=ha cpos pins s1 σ H1 _ I1 q1;rw[hs]at hA ⊢;refine Calls.callWith_builtin (by show (false||(backTo cpos (starEach es X.env)).any (·.1))=false;rw[hplain] <;> rfl) (Calls.evalArgs_plain ?_);exact thn hA fun us s2 ⟨vs,H2,I2,r2,q2⟩=>hm id pins s2 σ H2 x vs v us Q I2 r1 r2 q2
theorem rcv_list {a:Addr}{xs:List V}{H:Hp}(h:SqL X.K H a xs):RcvIs X "list" (.ref a) H:=fun pins σ s v I r=>tyV_is I r (.inl ⟨rfl,xs,h⟩)
theorem rcv_str {y:Str}{H:Hp}:RcvIs X "str" (.str y) H:=fun pins σ s v I r=>tyV_is (X:=X) I r rfl
theorem reps1 {K:PySem.W.Frag}{ι:List Addr}{H:Hp}{d:D}{vs:List V}(r:Reps K ι H [d] vs):∃ v,vs=[v]/\Rep K ι H d v:=by
 cases r with | cons r1 r2=>cases r2;exact⟨_,rfl,r1⟩
theorem reps2 {K:PySem.W.Frag}{ι:List Addr}{H:Hp}{d e:D}{vs:List V}(r:Reps K ι H [d,e] vs):∃ v u,vs=[v,u]/\Rep K ι H d v/\Rep K ι H e u:=by
 cases r with | cons r1 r2=>cases r2 with | cons r2 r3=>cases r3;exact⟨_,_,rfl,r1,r2⟩
theorem put_list {K:PySem.W.Frag}{ι:List Addr}{M M':MH}{H:Hp}{k:Nat}{a:Addr}{ds es:List D}{vs ws:List V}{u:Unit}(S:Sim K ι M H)(hi:ι[k]?=some a)(ha:H a=some (.lst vs))(r:Reps K ι H es ws)(e:putM k (.lst es) M=some (.ok u,M')) :
  Sim K ι M' (upd H a (.lst ws))/\Ext K ι H ι (upd H a (.lst ws)):=by
 have e0:=putM_ok e;clear e;obtain⟨_,rfl⟩:=e0;have x:Ext K ι H ι (upd H a (.lst ws)):=Ext.write ha (mut_l _);exact⟨S.put hi ⟨_,rfl,r.mono x⟩,x⟩
theorem Vals.ins {x:V}{u:Value}(r:RelV x u){xs:List V}{us:List Value}(i:Int)(h:Vals xs us):Vals (insD xs i x) (insD us i u):=by
 unfold insD;rw[h.length];exact(h.take _).append (.cons r (h.drop _))
theorem Reps.ins {K:PySem.W.Frag}{ι:List Addr}{H:Hp}{d:D}{v:V}(r:Rep K ι H d v){ds:List D}{vs:List V}(i:Int)(h:Reps K ι H ds vs):Reps K ι H (insD ds i d) (insD vs i v):=by
 unfold insD;rw[h.length];exact(h.take _).append (.cons r (h.drop _))
theorem insD_len {α:Type}(xs:List α)(i:Int)(v:α):(insD xs i v).length=xs.length + 1:=by
 unfold insD insIx;rw[zp,zM,zB,yu];split <;> omega
noncomputable def rInsert:V->List V->Hp->VK->Prop:=fun x vs H Q=>∃ l xs i y,x=.ref l/\vs=[.int i,y]/\H l=some (.lst xs)/\xs.length < zh/\(-(2 ^ 62)<=i/\i < 2 ^ 62)/\Q .non (upd H l (.lst (insD xs i y)))
theorem mt_insert:MtR X "list.insert" rInsert:=by
 intro pins s σ H x vs v us Q I rx rv h;obtain⟨l,xs,i,y,rfl,rfl,hH,hz,hi,q⟩:=h;cases rx;obtain⟨u1,u2,rfl,⟨t,rfl⟩,ru⟩:=rv.two;obtain⟨z,its,n,r,hl,e⟩:=I.lstM hH;have hf:Builtin.List.listFitsIndex i=true:=by unfold Builtin.List.listFitsIndex;simp;omega
 refine call_meets PySem.F.slot_list_insert ⟨_,e,rfl⟩ PySem.F.entry_list_insert (PySem.F.args_list_insert_3 _ _ _) (PySem.AutoSeq1.list_insert_list_int_val_1 l its.toArray n i t u2 (by simp[hf]) (by rw[zf];omega)) ⟨e,?_⟩;refine⟨.non,_,I.lset (its':=insD its i u2) hH e ?_ (Vals.ins ru i r) (by rw[insD_len];omega),rfl,q⟩;show (its.toArray.extract 0 (if i < 0 then (i + (its.toArray.size:Int)).toNat else min i.toNat its.toArray.size)).push u2++its.toArray.extract (if i < 0 then (i + (its.toArray.size:Int)).toNat else min i.toNat its.toArray.size)=_;rw[PySem.W.kl_ins_eq,zf];rfl
theorem mt_extendT:MtR X "list.extend" (fun x vs H Q=>∃ l b xs zs,x=.ref l/\vs=[.ref b]/\H l=some (.lst xs)/\SqT X.K H b zs/\xs.length + zs.length<=zh/\Q .non (upd H l (.lst (xs++zs)))):=by
 intro pins s σ H x vs v us Q I rx rv h;obtain⟨l,b,xs,zs,rfl,rfl,hH,hB,hz,q⟩:=h;cases rx;obtain⟨u,rfl,ru⟩:=rv.one;cases ru;obtain⟨z,its,n,r,hl,e⟩:=I.lstM hH;obtain⟨its2,r2,⟨⟨cls,dd,data,sl⟩,ho,hc,n2,hd⟩,z2⟩:=I.tuple hB;obtain⟨o2,e2,d2,d3⟩:=I.tupNoDict hB;rw[ho]at e2;cases e2;simp only at hc hd d2 d3;subst hc hd d2 d3;have hl2:=r2.length;have hsz:its.toArray.size + its2.toArray.size<=zh:=by rw[zf,zf];omega
 have hlong:¬ (!its.toArray.isEmpty&&Builtin.List.listTooLong (its.toArray.size + its2.toArray.size))=true:=by
  rw[notLongL hsz,yG];exact zi
 refine call_meets F.slot_list_extend ⟨_,e,rfl⟩ F.entry_list_extend (F.args_list_extend_2 _ _)
  (AutoSeq1.list_extend_list_tuple_0 l its.toArray n b its2.toArray n2 hlong (by rw[zf];omega) (by first | lia | omega)) ⟨e,ho,?_⟩
 refine⟨.non,_,I.lset (its':=its++its2) hH e (by simp) (r.append r2) ?_,rfl,q⟩;rw[zp];first | lia | omega
theorem glued_eq (t:Str)(ys:List Str):Builtin.Str.glued t ys=joinS t ys:=by
 have gen:∀ (ys:List Str) (acc:Array Nat),(ys.foldl (fun acc p=>acc++t.cps++p.cps) acc).toList=acc.toList++(ys.map fun p=>t.cps.toList++p.cps.toList).flatten:=by
  intro ys;induction ys with
  | nil=>intro acc;simp
  | cons y r ih =>
   intro acc;rw[List.foldl_cons,ih];simp
 have gl:∀ (y:Str) (r:List Str),glue t.cps.toList ((y::r).map (·.cps.toList))=y.cps.toList++(r.map fun p=>t.cps.toList++p.cps.toList).flatten:=by
  intro y r;induction r generalizing y with
  | nil=>simp[glue]
  | cons z r ih =>
   show y.cps.toList++t.cps.toList++glue t.cps.toList ((z::r).map (·.cps.toList))=_;rw[ih];simp
 unfold Builtin.Str.glued joinS;congr 1;apply xo.mp;cases ys with
 | nil=>rfl
 | cons y r =>
  rw[gl];simp only[List.drop_succ_cons,xR,List.headD_cons];rw[gen]
noncomputable def rJoin (K:PySem.W.Frag):V->List V->Hp->VK->Prop:=fun x vs H Q=>∃ t l ys,x=.str t/\vs=[.ref l]/\SqL K H l (ys.map V.str)/\(ys.map (·.length)).sum + ys.length * t.length<=16777216/\Q (.str (joinS t ys)) H
theorem strs_are:∀ {ys:List Str} {us:List Value},Vals (ys.map V.str) us->StrsAre us ys
 | [],_,.nil=>.nil
 | y::ys,_,.cons ⟨t,e⟩ r=>by subst e;exact .cons y t (strs_are r)
theorem mt_join:MtR X "str.join" (rJoin X.K):=by
 intro pins s σ H x vs v us Q I rx rv h;obtain⟨t,l,ys,rfl,rfl,hs,hz,q⟩:=h;obtain⟨tk,rfl⟩:=rx;obtain⟨u,rfl,ru⟩:=rv.one;cases ru;obtain⟨its,r,p,_⟩:=I.list hs;refine PyProof.Rows.join_list p.isList (strs_are (by simpa using r)) hz fun t' k=>?_;have e:PySem.Txt.join t ys=joinS t ys:=glued_eq t ys;rw[e];exact⟨.str _,H,I.tok _,⟨t',rfl⟩,q⟩
end
end L3
namespace L3
open PySem PySem.Spec PyProof.Rows L2
theorem cutV_eq (xs:List V)(lo hi:Option Int):cutV xs lo hi=cutD xs lo hi:=rfl
theorem reps_cut {K:PySem.W.Frag}{ι:List Addr}{H:Hp}{ds:List D}{vs:List V}(r:Reps K ι H ds vs)(lo hi:Option Int):Reps K ι H (cutD ds lo hi) (cutD vs lo hi):=by
 unfold cutD;rw[<- r.length];exact(r.drop _).take _
theorem cut_whole {α:Type}{xs:List α}{lo hi:Option Int}(h:(cutD xs lo hi).length=xs.length):cutD xs lo hi=xs:=by
 unfold cutD at h ⊢;rw[zB,yu]at h;have h1:cutIx xs.length 0 lo=0\/xs.length=0:=by first | lia | omega
 rcases h1 with h1 | h1
 ·rw[h1]at h ⊢
  rw[xR,xA (by first | lia | omega)]
 ·have e:xs=[]:=yf.mp h1
  subst e;simp
section
variable {X:Cx}
theorem slice_txt (x:Str)(lo hi:Option Int):Txt.slice x lo hi=⟨(cutD x.cps.toList lo hi).toArray⟩:=by
 have ext:∀ (a b:Str),a.cps.toList=b.cps.toList->a=b:=fun a b h=>by
  cases a;cases b;simp only at h;congr 1;exact xo.mp h
 have lenx:x.length=x.cps.toList.length:=by simp[Str.length]
 have key:∀ (i j n:Nat),i<=n->j<=n->Builtin.Str.strSliceIndices lo hi 1 n=sliceRange (i:Int) (j:Int) 1->((Builtin.Str.strSliceIndices lo hi 1 n).filterMap (x.cps[·]?))=((x.cps.toList.drop i).take (j - i))\/n≠x.length:=by
  intro i j n hi' hj e;by_cases hn:n=x.length
  ·left
   rw[e];unfold sliceRange;simp only[show (1:Int) > 0 by decide,if_true];have hc:(if (i:Int) < (j:Int) then ((j:Int) - (i:Int) + 1 - 1) / 1 else 0).toNat=j - i:=by split <;> omega
   rw[hc,xP];have hf:((fun k=>x.cps[k]?) ∘ fun (k:Nat)=>((i:Int) + 1 * (k:Int)).toNat)=fun k:Nat=>x.cps.toList[i + k]?:=by
    funext k;simp only[Function.comp]
    have:((i:Int) + 1 * (k:Int)).toNat=i + k:=by first | lia | omega
    rw[this];simp
   rw[hf];have hlen:j<=x.cps.toList.length:=by rw[<- lenx,<- hn];exact hj
   clear e hc hf;have gen:∀ (m:Nat) (l:List Nat),m<=l.length->(List.range m).filterMap (fun k=>l[k]?)=l.take m:=by
    intro m;induction m with
    | zero=>intro l _;rfl
    | succ m ih =>
     intro l hl;cases l with
     | nil=>simp at hl
     | cons a r =>
      rw[wm,yT];simp only[List.getElem?_cons_zero,List.take_succ_cons,xP];congr 1;rw[<- ih r (by simpa using hl)];rfl
   have hdrop:∀ k:Nat,x.cps.toList[i + k]?=(x.cps.toList.drop i)[k]?:=fun k=>by rw[List.getElem?_drop]
   simp only[hdrop];exact gen (j - i) (x.cps.toList.drop i) (by rw[yu];omega)
  ·exact .inr hn
 have hbnd:∀ (o:Option Int) (d n:Nat),d<=n->cutIx n d o<=n:=fun o d n hd=>by
  cases o with
  | none=>exact hd
  | some v=>simp only[cutIx];split <;> omega
 have hidx:Builtin.Str.strSliceIndices lo hi 1 x.length=sliceRange ((cutIx x.length 0 lo:Nat):Int) ((cutIx x.length x.length hi:Nat):Int) 1:=by
  unfold Builtin.Str.strSliceIndices;have c:∀ (o:Option Int) (d:Nat),(match o with
    | none=>(d:Int)
    | some i=>max 0 (min (if i < 0 then i + (x.length:Int) else i) (x.length:Int)))=((cutIx x.length d o:Nat):Int):=fun o d=>by
   cases o with
   | none=>rfl
   | some v=>simp only[cutIx];split <;> omega
  have c1:=c lo 0;have c2:=c hi x.length;simp only[show (1:Int) > 0 by decide,if_true]at c1 c2 ⊢;rw[<- c1,<- c2];cases lo <;> cases hi <;> rfl
 have hk:=key _ _ _ (hbnd lo 0 x.length (zO _)) (hbnd hi x.length x.length (zo _)) hidx;rcases hk with hk | hk
 ·have hcut:((Builtin.Str.strSliceIndices lo hi 1 x.length).filterMap (x.cps[·]?))=cutD x.cps.toList lo hi:=by
   rw[hk];unfold cutD;rw[<- lenx]
  have hlen:(Builtin.Str.strSliceIndices lo hi 1 x.length).length=(cutD x.cps.toList lo hi).length:=by
   rw[hidx];unfold sliceRange cutD;rw[<- lenx,zB,yu,<- lenx];simp only[show (1:Int) > 0 by decide,if_true,zz,yz];have b1:=hbnd lo 0 x.length (zO _);have b2:=hbnd hi x.length x.length (zo _);split <;> omega
  unfold Txt.slice;split
  ·rename_i hw
   apply ext;show x.cps.toList=cutD x.cps.toList lo hi;symm;apply cut_whole;rw[<- hlen];simp at hw;rw[hw,lenx]
  ·rw[hcut]
 ·exact absurd rfl hk
theorem sl_str:SlR X (fun x lo hi H Q=>∃ y,x=.str y/\y.length<=zh/\Q (.str ⟨(cutD y.cps.toList lo hi).toArray⟩) H):=by
 intro pins s σ H x v vl vu lo hi sl Q I rx hs pl pu h;obtain⟨y,rfl,hy,q⟩:=h;obtain⟨t,rfl⟩:=rx;refine⟨"str",_,PySem.F.slot_str_getitem.lookup,typeIs_str _ _ _,?_⟩;have part:∀ {u:Value} {o:Option Int},IsPart u o->∃ p:Option (Int×Tok),partValue p=u/\p.map (·.1)=o:=fun {u o} z=>by
  cases z
  ·exact⟨none,rfl,rfl⟩
  ·exact⟨some (_,_),rfl,rfl⟩
 obtain⟨l,e1,e2⟩:=part pl;obtain⟨r,e3,e4⟩:=part pu;have hs':s.heap.IsSlice sl l r none:=by
  obtain⟨o,h1,h2,h3⟩:=hs;exact⟨o,h1,h2,by rw[h3,<- e1,<- e3];rfl⟩
 refine wpAny_getItem_str_slice hs' rfl ?_;have e:(if (((none:Option (Int×Tok)).map (·.1)).getD 1==1&&(slicePicked y l r none).length==y.length)=true then y else ⟨((slicePicked y l r none).filterMap (y.cps[·]?)).toArray⟩)=Txt.slice y lo hi:=by
  unfold slicePicked Txt.slice;rw[e2,e4];rfl
 refine post_val_or_str ?_;rw[e];refine⟨zH (Txt.slice_le y _ _) hy,fun t' k=>?_⟩;rw[slice_txt];exact⟨.str _,H,I.tok _,⟨t',rfl⟩,q⟩
noncomputable def RSl (K:PySem.W.Frag):V->Option Int->Option Int->Hp->VK->Prop:=fun x lo hi H Q=>∃ ι M M' dx d,Sim K ι M H/\Rep K ι H dx x/\sliceD dx lo hi M=some (.ok d,M') /\
 ∀ v H' ι',Rep K ι' H' d v->Sim K ι' M' H'->Ext K ι H ι' H'->Q v H'
theorem sl_all:SlR X (RSl X.K):=by
 intro pins s σ H x v vl vu lo hi sl Q I rx hs pl pu h;obtain⟨ι,M,M',dx,d,S,r,e,k⟩:=h;cases r with
 | str y =>
  have e0:=bind_ok e;clear e;obtain⟨_,_,e1,e⟩:=e0;have e10:=need_ok e1;clear e1;obtain⟨hn,rfl⟩:=e10;have e0:=pure_ok e;clear e;obtain⟨rfl,rfl⟩:=e0;exact sl_str pins s σ H _ v vl vu lo hi sl Q I rx hs pl pu ⟨y,rfl,hn,k _ H ι (.str _) S Ext.refl⟩
 | ob t =>
  have e0:=bind_ok e;clear e;obtain⟨ds,_,e1,e⟩:=e0;have e10:=getL_ok e1;clear e1;obtain⟨g,rfl⟩:=e10;obtain⟨a,vs,h1,_,h3,h4⟩:=sim_list S (.ob t) g;cases h1;exact sl_list pins s σ H _ v vl vu lo hi sl Q I rx hs pl pu ⟨_,vs,rfl,SqL.of h3,new_list S (reps_cut h4 lo hi) e k⟩
 | fl t q=>exact sl_list pins s σ H _ v vl vu lo hi sl Q I rx hs pl pu ⟨_,_,rfl,t.seq,new_list S (reps_cut q lo hi) e k⟩
 | tup t q =>
  have e0:=pure_ok e;clear e;obtain⟨rfl,rfl⟩:=e0;rename_i a vs ds;by_cases hn:cutIx ds.length 0 lo=0/\cutIx ds.length ds.length hi=ds.length
  ·cases rx
   obtain⟨its,r,ht,hz⟩:=I.tuple (sqt t);have hlen:its.toArray.size=ds.length:=by rw[zf,<- r.length,q.length]
   refine⟨"tuple",_,PyProof.Rows.slot_tuple_getitem.lookup,ht.typeIs,getItem_tuple_whole ht hs pl pu (by rw[hlen];exact hn) ⟨.ref a,H,I,rfl,?_⟩⟩;have e:cutD ds lo hi=ds:=cut_whole (by
    unfold cutD;rw[hn.1,hn.2,xR,vA,zI])
   rw[e]at k;exact k _ H ι (.tup t q) S Ext.refl
  ·exact sl_tup pins s σ H _ v vl vu lo hi sl Q I rx hs pl pu ⟨_,_,rfl,sqt t,by rw[<- q.length];exact hn,new_tup S (reps_cut q lo hi) k⟩
 | _=>exact(stop_ok e).elim
theorem tru_all:TruR X (fun x H Q=>∃ ι M M' d b,Sim X.K ι M H/\Rep X.K ι H d x/\truD d M=some (.ok b,M')/\(M'=M->Q b H)):=by
 intro pins s σ H x v Q I rx h;obtain⟨ι,M,M',d,b,S,r,e,k⟩:=h;refine tru_ok pins s σ H x v Q I rx ?_;cases r with
 | non=>have e0:=pure_ok e;clear e;obtain⟨rfl,rfl⟩:=e0;exact⟨_,rfl,k rfl⟩
 | bl c=>have e0:=pure_ok e;clear e;obtain⟨rfl,rfl⟩:=e0;exact⟨_,rfl,k rfl⟩
 | int i=>have e0:=pure_ok e;clear e;obtain⟨rfl,rfl⟩:=e0;exact⟨_,rfl,k rfl⟩
 | str y =>
  have e0:=bind_ok e;clear e;obtain⟨_,_,e1,e⟩:=e0;have e10:=need_ok e1;clear e1;obtain⟨hn,rfl⟩:=e10;have e0:=pure_ok e;clear e;obtain⟨rfl,rfl⟩:=e0;exact⟨_,⟨hn,rfl⟩,k rfl⟩
 | tup t q =>
  have e0:=pure_ok e;clear e;obtain⟨rfl,rfl⟩:=e0;refine⟨_,.inr (.inl ⟨_,sqt t,rfl⟩),?_⟩;cases q <;> exact k rfl
 | fl t q =>
  have e0:=pure_ok e;clear e;obtain⟨rfl,rfl⟩:=e0;refine⟨_,.inl ⟨_,t.seq,rfl⟩,?_⟩;cases q <;> exact k rfl
 | ob t =>
  have e0:=bind_ok e;clear e;obtain⟨o,_,e1,e⟩:=e0;have e10:=getM_ok e1;clear e1;obtain⟨g,rfl⟩:=e10;cases o with
  | lst ds =>
   have e0:=pure_ok e;clear e;obtain⟨rfl,rfl⟩:=e0;obtain⟨a,vs,h1,_,h3,h4⟩:=sim_list S (.ob t) g;cases h1;refine⟨_,.inl ⟨_,SqL.of h3,rfl⟩,?_⟩;cases h4 <;> exact k rfl
  | dtt kvs=>exact(stop_ok e).elim
  | dic kvs =>
   have e0:=pure_ok e;clear e;obtain⟨rfl,rfl⟩:=e0;obtain⟨a,vs,h1,_,h3,h4⟩:=sim_dict S (.ob t) g;cases h1;refine⟨_,.inr (.inr ⟨_,h3,rfl⟩),?_⟩;cases h4 <;> exact k rfl
noncomputable def RLS (K:PySem.W.Frag)(g:List D->Mo D):List V->Hp->VK->Prop:=fun xs H Q=>∃ ι M M' ds d,Sim K ι M H/\Reps K ι H ds xs/\g ds M=some (.ok d,M') /\
 ∀ v H' ι',Rep K ι' H' d v->Sim K ι' M' H'->Ext K ι H ι' H'->Q v H'
theorem bools_of {K:PySem.W.Frag}{ι:List Addr}{H:Hp}:∀ {ds:List D} {vs:List V} {bs:List Bool},Reps K ι H ds vs->ds.mapM boolD=some bs->vs=bs.map V.bl
 | _,_,_,.nil,h=>by simp at h;subst h;rfl
 | _,_,_,.cons (d:=d) r t,h=>by
  rw[xS]at h;simp only[wJ,wq,vp,Option.some.injEq]at h;obtain⟨b,hb,bs',hbs,rfl⟩:=h;rw[bools_of t hbs];cases r <;> simp[boolD]at hb;subst hb;rfl
theorem all_range (bs:List Bool):((List.range bs.length).all fun i=>bs.getD i false)=bs.all id:=by
 rw[yI];simp only[zV,yh];constructor
 ·intro h b hb
  obtain⟨i,hi,rfl⟩:=wK hb
  have:=h i hi
  rw[zm,zv hi]at this;exact this
 ·intro h i hi
  rw[zm,zv hi];exact h _ (yW hi)
theorem any_range (bs:List Bool):((List.range bs.length).any fun i=>bs.getD i false)=bs.any id:=by
 rw[yI];simp only[xn,yh];constructor
 ·rintro ⟨i,hi,h⟩
  rw[zm,zv hi]at h;exact⟨_,yW hi,h⟩
 ·rintro ⟨b,hb,h⟩
  obtain⟨i,hi,rfl⟩:=wK hb;refine⟨i,hi,?_⟩;rw[zm,zv hi];exact h
theorem bools_walk (hc:X.calm=true){pins:List (Addr×Obj)}{s:Shared}{σ:St}{H:Hp}{a:Addr}{bs:List Bool}{Q:Value->Shared->Prop}(f:Nat->(Nat->Bool)->Bool)(I:Inv X pins σ H s)(h:H a=some (.lst (bs.map V.bl)))
  (q:∀ s',Inv X pins σ H s'->Q (.bool (f bs.length fun i=>bs.getD i false)) s') :
  wpAny (model X.prog X.w) X.A.in1 (pyIter (.ref a)) (fun it s₂=>∃ I fp wr n P St tr,it=.ref I/\Walks X.prog X.w X.A.in1 I fp wr n P St/\St 0 s₂.heap/\TruthOf X.prog X.w X.A.in1 P tr /\
   ∀ h' tk,(∀ b o,b ∉ wr->s₂.heap.get? b=some o->h'.get? b=some o)->Q (.bool (f n tr)) { s₂ with heap:=h',toks:=tk }) X.xe s:=by
 obtain⟨its,rv,p,hz⟩:=I.list (SqL.of h);have hlt:a < s.heap.objs.size:=by obtain⟨_,_,e,_⟩:=p;exact za e
 have hlen:its.toArray.size=bs.length:=by have:=rv.length;simp at this ⊢;omega
 refine wpAny_pyIter_list p.isList ?_;have hh:X.A.in1.handled=none:=I.ok.hd hc;refine⟨s.heap.objs.size,_,_,_,_,_,fun i=>bs.getD i false,rfl,Walks.list hh s.heap.objs.size a (zE hlt) its.toArray,⟨⟨_,zR _ rfl,rfl,rfl⟩,p.isList.push _⟩,?_,fun h' tk kk=>?_⟩
 ·intro i v s' Q' E' hv hq
  have hv':its[i]?=some v:=by simpa using hv
  have hi:i < bs.length:=by
   have:=(zr.mp hv').1
   rw[<- hlen];simpa using this
  have hb:(bs.map V.bl)[i]?=some (V.bl bs[i]):=by rw[zu,zv hi];rfl
  obtain⟨u,hu,ru⟩:=rv.get hb;rw[hv']at hu;cases hu;cases ru;refine wpAny_truthy_bool ?_;have hq':Q' (bs.getD i false) s':=hq;rw[zm,zv hi]at hq';exact hq'
 ·rw[hlen]
  have I1:Inv X pins σ H { s with heap:=s.heap.push { cls:=.type "list_iterator",data:=.fields #[.ref a,.int 0 0] } }:=I.kept (t':=s.toks) fun b o e=>zb _ e;refine q _ (I1.turned (it:=s.heap.objs.size) (fun b o hb e=>kk b o (by simpa using hb) e) (I.hok.fresh (zo _)) (xp I.lt) (.inr I.sz) (fun y c e z=>?_) fun p hp z=>?_)
  ·obtain⟨v,o,ho,_⟩:=I.cell y c e
   exact absurd (za ho) (by rw[z];exact yi _)
  ·exact absurd (za (I.pin p hp).1) (by rw[z];exact yi _)
theorem intsA {K:PySem.W.Frag}{ι:List Addr}{H:Hp}:∀ {xs:List Int} {vs:List V} {us:List Value},Reps K ι H (xs.map .int) vs->Vals vs us->IntsAre us xs
 | [],_,_,.nil,.nil=>.nil
 | x::xs,_,_,.cons r t,.cons g k=>by
  cases r;obtain⟨t',rfl⟩:=g;exact .cons x t' (intsA t k)
theorem min_ints {prog:Program}{w:World}{A:Around}{E:Value->Shared->Prop}{s:Shared}{l:Addr}{vs:List Value}{ns:List Int}{Q:Value->Shared->Prop}(hh:A.handled=none)(hl:s.heap.IsList l vs.toArray)(hi:IntsAre vs ns)(hne:0 < ns.length)
  (h:∀ h' M (t:Tok) tk,(∀ b o,s.heap.get? b=some o->h'.get? b=some o)->M∈ns->(∀ a,a∈ns->M<=a)->Q (.int M t) { s with heap:=h',toks:=tk }):wpAny (model prog w) A (call (.builtin "min") [.ref l]) Q E s:=by
 obtain⟨xs,e⟩:=hi.allInts.items;have hns:ns=xs.toList.map (·.1):=by rw[<- hi.numsOf,<- nums_intItems,<- e]
 have hsz:0 < xs.size:=by
  have h3:=hne;rw[hns,zz,zW]at h3;exact h3
 rw[e]at hl;refine min_intList hh hl hsz fun v h' tk hv hk=>?_;obtain⟨t,rfl⟩:=intItems_at hv;obtain⟨h1,h2⟩:=argBest_lt (numAt xs) (xs.size - 1);refine h _ _ t tk hk ?_ fun a ha=>?_
 ·rw[hns,numAt_eq];exact getD_mem (by rw[zz,zW];omega)
 ·rw[hns]at ha
  obtain⟨j,hj,rfl⟩:=mem_getD ha;rw[zz,zW]at hj;rw[<- numAt_eq];exact h2 j (by first | lia | omega)
noncomputable def putsV (kvs:List (Key×V)):List (Key×V)->List (Key×V)
 | []=>kvs
 | p::r=>putsV (putK kvs p.1 p.2) r
theorem putsV_len:∀ (r kvs:List (Key×V)),(putsV kvs r).length<=kvs.length + r.length
 | [],kvs=>zo _
 | p::r,kvs=>by
  have h1:=putsV_len r (putK kvs p.1 p.2);have h2:=length_putK kvs p.1 p.2;show (putsV (putK kvs p.1 p.2) r).length<=kvs.length + (r.length + 1);first | lia | omega
theorem puts_kv:∀ {r:List (Key×V)} {r':List (Key×Value)} {kvs:List (Key×V)} {vs:List (Key×Value)},KV r r'->KV kvs vs->KV (putsV kvs r) (puts vs r')
 | [],_,_,_,.nil,h=>h
 | (k,v)::r,(k',u)::r',kvs,vs,.cons h1 t,h=>by
  obtain⟨e,rv⟩:=h1;cases (show k=k' from e);exact(show KV (putsV (putK kvs k v) r) (puts (stored vs k u) r') from puts_kv t (h.put k rv))
theorem puts_kr {K:PySem.W.Frag}{ι:List Addr}{H:Hp}:∀ {r:List (Ky×D)} {r':List (Key×V)} {kvs:List (Ky×D)} {vs:List (Key×V)},KR K ι H r r'->KR K ι H kvs vs->KR K ι H (kvPuts kvs r) (putsV vs r')
 | [],_,_,_,.nil,h=>h
 | (k,v)::r,(k',u)::r',kvs,vs,.cons h1 t,h=>by
  obtain⟨e,rv⟩:=h1;cases (show k=k' from e);exact(show KR K ι H (kvPuts (kvPut kvs k v) r) (putsV (putK vs k u) r') from puts_kr t (h.put k rv))
theorem kvPairs_len:∀ {ds:List D} {ps:List (Ky×D)},kvPairs ds=some ps->ps.length=ds.length
 | [],_,h=>by cases h;rfl
 | d::ds,ps,h=>by
  unfold kvPairs at h;split at h
  ·rename_i x v
   cases h1:kyD x with
   | none=>rw[h1]at h;cases h
   | some k =>
    cases h2:kvPairs ds with
    | none=>rw[h1,h2]at h;cases h
    | some r =>
     rw[h1,h2]at h;cases h;rw[zM,zM,kvPairs_len h2]
  ·cases h
theorem pairs_of {X:Cx}{pins:List (Addr×Obj)}{σ:St}{H:Hp}{s:Shared}{ι:List Addr}(I:Inv X pins σ H s):∀ {ds:List D} {vs:List V} {us:List Value} {ps:List (Ky×D)},Reps X.K ι H ds vs->Vals vs us->kvPairs ds=some ps ->
  ∃ (ps':List (Key×Value)) (ws:List (Key×V)),PairsAt (mixKind X.prog X.w) s.heap us ps'/\KV ws ps'/\KR X.K ι H ps ws
 | [],_,_,_,.nil,.nil,h=>by cases h;exact⟨[],[],trivial,.nil,.nil⟩
 | d::ds,_,_,ps,.cons r t,.cons g g',h=>by
  unfold kvPairs at h;split at h
  ·rename_i x v
   cases h1:kyD x with
   | none=>rw[h1]at h;cases h
   | some k =>
    cases h2:kvPairs ds with
    | none=>rw[h1,h2]at h;cases h
    | some qs =>
     rw[h1,h2]at h;cases h;obtain⟨ps',ws,e1,e2,e3⟩:=pairs_of I t g' h2;cases r with
     | tup tt q =>
      cases q with
      | cons q1 q2 =>
       cases q2 with
       | cons q2 q3 =>
        cases q3;cases g;obtain⟨its,rel,⟨o,ho,hc',n,hdt⟩,_⟩:=I.tuple (sqt tt);obtain⟨u1,u2,rfl,ru1,ru2⟩:=vals2 rel;have hk:=key_rep q1 h1;subst hk;exact⟨(k,u2)::ps',(k,_)::ws,⟨⟨_,u1,o,n,rfl,ho,hc',hdt,kV_is ru1⟩,e1⟩,.cons ⟨rfl,ru2⟩ e2,.cons ⟨rfl,q2⟩ e3⟩
  ·cases h
noncomputable def blName:Bl->String
 | .len=>"len" | .tuple=>"tuple" | .list=>"list" | .repr=>"repr" | .all=>"all" | .any=>"any" | .min2=>"min" | .max2=>"max" | .abs=>"abs" | .dict1=>"dict" | .minL=>"min"
noncomputable def blTy:Bl->Bool
 | .tuple=>true | .list=>true | .dict1=>true | _=>false
noncomputable def blVal (b:Bl):Value:=if blTy b then .type (blName b) else .builtin (blName b)
theorem call_bl (hc:X.calm=true)(hu:X.A.units + 100 < cLine)(b:Bl):CallR X (blVal b) (RLS X.K (blD b)):=by
 intro pins s σ H xs us Q I rv h;obtain⟨ι,M,M',ds,d,S,r,e,k⟩:=h;have fin:∀ {w':V},M'=M->Rep X.K ι H d w'->Q w' H:=fun {w'} z r=>by subst z;exact k w' H ι r S Ext.refl
 cases b
 ·rcases ds with _ | ⟨x,t⟩
  ·exact(stop_ok e).elim
  cases x <;> first | exact(stop_ok e).elim | (cases t <;> first | exact(stop_ok e).elim | skip)
  ·delta blD at e
   dsimp only at e;have e0:=bind_ok e;clear e;obtain⟨_,_,e1,e⟩:=e0;have e10:=need_ok e1;clear e1;obtain⟨hn,rfl⟩:=e10;have e0:=pure_ok e;clear e;obtain⟨rfl,rfl⟩:=e0;cases r with | cons r1 r2=>cases r2;cases r1;exact call_len_str pins s σ H _ us Q I rv ⟨_,rfl,hn,fin rfl (.int _)⟩
  ·delta blD at e
   dsimp only at e;have e0:=pure_ok e;clear e;obtain⟨rfl,rfl⟩:=e0;cases r with | cons r1 r2 =>
   cases r2;cases r1 with | tup t q=>exact call_len_seq pins s σ H _ us Q I rv ⟨_,_,rfl,.inr (sqt t),by rw[<- q.length];exact fin rfl (.int _)⟩
  ·delta blD at e
   dsimp only at e;have e0:=pure_ok e;clear e;obtain⟨rfl,rfl⟩:=e0;cases r with | cons r1 r2 =>
   cases r2;cases r1 with | fl t q=>exact call_len_seq pins s σ H _ us Q I rv ⟨_,_,rfl,.inl t.seq,by rw[<- q.length];exact fin rfl (.int _)⟩
  ·delta blD at e
   dsimp only at e;have e0:=bind_ok e;clear e;obtain⟨o,_,e1,e⟩:=e0;have e10:=getM_ok e1;clear e1;obtain⟨g,rfl⟩:=e10;cases r with | cons r1 r2 =>
   cases r2;cases o with
   | lst ds =>
    have e0:=pure_ok e;clear e;obtain⟨rfl,rfl⟩:=e0;obtain⟨a,vs,rfl,_,h3,h4⟩:=sim_list S r1 g;exact call_len_seq pins s σ H _ us Q I rv ⟨a,vs,rfl,.inl (SqL.of h3),by rw[<- h4.length];exact fin rfl (.int _)⟩
   | dtt kvs=>exact(stop_ok e).elim
   | dic kvs =>
    have e0:=pure_ok e;clear e;obtain⟨rfl,rfl⟩:=e0;obtain⟨a,ws,rfl,_,h3,h4⟩:=sim_dict S r1 g;obtain⟨u,rfl,ru⟩:=vals1 rv;cases ru;exact d_len I (.inl h3) fun t s' I'=>⟨.int ws.length,H,I',⟨t,rfl⟩,by rw[<- h4.len];exact fin rfl (.int _)⟩
 ·rcases ds with _ | ⟨x,t⟩
  ·exact(stop_ok e).elim
  cases x <;> first | exact(stop_ok e).elim | (cases t <;> first | exact(stop_ok e).elim | skip)
  ·delta blD at e
   dsimp only at e;have e0:=pure_ok e;clear e;obtain⟨rfl,rfl⟩:=e0;cases r with | cons r1 r2 =>
   cases r2;cases r1 with | tup t q=>exact call_tuple_of pins s σ H _ us Q I rv ⟨_,_,rfl,.inr ⟨sqt t,fin rfl (.tup t q)⟩⟩
  ·delta blD at e
   dsimp only at e;have e0:=pure_ok e;clear e;obtain⟨rfl,rfl⟩:=e0;cases r with | cons r1 r2 =>
   cases r2;cases r1 with | fl t q=>exact call_tuple_of pins s σ H _ us Q I rv ⟨_,_,rfl,.inl ⟨t.seq,new_tup S q k⟩⟩
  ·delta blD at e
   dsimp only at e;have e0:=bind_ok e;clear e;obtain⟨ds,_,e1,e⟩:=e0;have e10:=getL_ok e1;clear e1;obtain⟨g,rfl⟩:=e10;have e0:=pure_ok e;clear e;obtain⟨rfl,rfl⟩:=e0;cases r with | cons r1 r2 =>
   cases r2;obtain⟨a,vs,rfl,_,h3,h4⟩:=sim_list S r1 g;exact call_tuple_of pins s σ H _ us Q I rv ⟨_,_,rfl,.inl ⟨SqL.of h3,new_tup S h4 k⟩⟩
 ·rcases ds with _ | ⟨x,t⟩
  ·exact(stop_ok e).elim
  cases t <;> first | exact(stop_ok e).elim | skip
  ·delta blD at e
   dsimp only at e;have e0:=bind_ok e;clear e;obtain⟨ds,M1,e1,e⟩:=e0;cases r with | cons r1 r2 =>
   cases r2;obtain⟨rfl,a,vs,rfl,hs,hr⟩:=seq_of S r1 e1;exact call_list_of pins s σ H _ us Q I rv ⟨a,vs,rfl,hs,new_list S hr e k⟩
 ·exact(stop_ok e).elim
 ·rcases ds with _ | ⟨x,t⟩
  ·exact(stop_ok e).elim
  cases x <;> first | exact(stop_ok e).elim | (cases t <;> first | exact(stop_ok e).elim | skip)
  ·delta blD at e
   dsimp only at e;have e0:=bind_ok e;clear e;obtain⟨ds,_,e1,e⟩:=e0;have e10:=getL_ok e1;clear e1;obtain⟨g,rfl⟩:=e10;have e0:=bind_ok e;clear e;obtain⟨bs,_,e1,e⟩:=e0;have e10:=lift_ok e1;clear e1;obtain⟨hb,rfl⟩:=e10;have e0:=pure_ok e;clear e;obtain⟨rfl,rfl⟩:=e0;cases r with | cons r1 r2 =>
   cases r2;obtain⟨a,vs,rfl,_,h3,h4⟩:=sim_list S r1 g;obtain⟨u,rfl,ru⟩:=vals1 rv;cases ru;rw[bools_of h4 hb]at h3;exact call_all_walk (bools_walk hc (fun n tr=>(List.range n).all tr) I h3 fun s' I'=>⟨.bl (bs.all id),H,I',by rw[all_range];rfl,fin rfl (.bl _)⟩)
 ·rcases ds with _ | ⟨x,t⟩
  ·exact(stop_ok e).elim
  cases x <;> first | exact(stop_ok e).elim | (cases t <;> first | exact(stop_ok e).elim | skip)
  ·delta blD at e
   dsimp only at e;have e0:=bind_ok e;clear e;obtain⟨ds,_,e1,e⟩:=e0;have e10:=getL_ok e1;clear e1;obtain⟨g,rfl⟩:=e10;have e0:=bind_ok e;clear e;obtain⟨bs,_,e1,e⟩:=e0;have e10:=lift_ok e1;clear e1;obtain⟨hb,rfl⟩:=e10;have e0:=pure_ok e;clear e;obtain⟨rfl,rfl⟩:=e0;cases r with | cons r1 r2 =>
   cases r2;obtain⟨a,vs,rfl,_,h3,h4⟩:=sim_list S r1 g;obtain⟨u,rfl,ru⟩:=vals1 rv;cases ru;rw[bools_of h4 hb]at h3;exact call_any_walk (bools_walk hc (fun n tr=>(List.range n).any tr) I h3 fun s' I'=>⟨.bl (bs.any id),H,I',by rw[any_range];rfl,fin rfl (.bl _)⟩)
 ·exact(stop_ok e).elim
 ·rcases ds with _ | ⟨x,t⟩
  ·exact(stop_ok e).elim
  rcases t with _ | ⟨y,t⟩
  ·cases x <;> exact(stop_ok e).elim
  cases x <;> first | exact(stop_ok e).elim | (cases y <;> first | exact(stop_ok e).elim | (cases t <;> first | exact(stop_ok e).elim | skip))
  ·delta blD at e
   dsimp only at e;have e0:=pure_ok e;clear e;obtain⟨rfl,rfl⟩:=e0;cases r with | cons r1 r2 =>
   cases r2 with | cons r2 r3 =>
   cases r3;cases r1;cases r2;exact call_max2 hc pins s σ H _ us Q I rv ⟨_,_,rfl,fin rfl (.int _)⟩
 ·exact(stop_ok e).elim
 ·rcases ds with _ | ⟨x,t⟩
  ·exact(stop_ok e).elim
  cases x <;> first | exact(stop_ok e).elim | (cases t <;> first | exact(stop_ok e).elim | skip)
  ·delta blD at e
   dsimp only at e;have e0:=bind_ok e;clear e;obtain⟨ps,_,e1,e⟩:=e0;have e10:=lift_ok e1;clear e1;obtain⟨hp,rfl⟩:=e10;have e0:=newM_ok e;clear e;obtain⟨rfl,rfl⟩:=e0;cases r with | cons r1 r2 =>
   cases r2;cases r1 with | tup t q =>
   obtain⟨u,rfl,ru⟩:=vals1 rv;cases ru;obtain⟨its,rel,⟨o,ho,hc',n,hdt⟩,hz⟩:=I.tuple (sqt t);obtain⟨o',ho',hdn,_⟩:=I.tupNoDict (sqt t);rw[ho]at ho';cases ho';obtain⟨ps',ws,hpa,hkv,hkr⟩:=pairs_of I q rel hp;refine call_dict_pairs (knd:=mixKind X.prog X.w) (I.ok.hd hc) ho hc' hdn hdt hpa (by rw[<- rel.length];exact hz) fun h' tk hd kk=>?_;have fr:H s.heap.objs.size=none:=I.hok.fresh (zo _);have hlen:(putsV [] ws).length<=zh:=zH (putsV_len ws []) (by rw[yg,va,<- hkr.len,kvPairs_len hp,q.length];exact hz);have I2:Inv X pins σ (upd H s.heap.objs.size (.dK (putsV [] ws))) { s with heap:=h',toks:=tk } :=
    I.laid kk (zo _) (dk_new hlen (beq_eq_false_iff_ne.mpr (xp I.big)) (puts_kv hkv .nil) hd)
   have X4:Ext X.K ι H (ι++[s.heap.objs.size]) (upd H s.heap.objs.size (.dK (putsV [] ws))):=Ext.new fr;exact⟨.ref s.heap.objs.size,_,I2,rfl,k _ _ _ (.ob (by rw[<- S.len,zL (zo _),yZ];rfl)) (S.new fr ⟨_,rfl,(puts_kr hkr .nil).mono X4⟩) X4⟩
 ·rcases ds with _ | ⟨x,t⟩
  ·exact(stop_ok e).elim
  cases x <;> first | exact(stop_ok e).elim | (cases t <;> first | exact(stop_ok e).elim | skip)
  ·delta blD at e
   dsimp only at e;have e0:=bind_ok e;clear e;obtain⟨ds,_,e1,e⟩:=e0;have e10:=getL_ok e1;clear e1;obtain⟨g,rfl⟩:=e10;have e0:=bind_ok e;clear e;obtain⟨ns,_,e1,e⟩:=e0;have e10:=lift_ok e1;clear e1;obtain⟨hb,rfl⟩:=e10;have e0:=bind_ok e;clear e;obtain⟨_,_,e1,e⟩:=e0;have e10:=need_ok e1;clear e1;obtain⟨hne,rfl⟩:=e10;have e0:=pure_ok e;clear e;obtain⟨rfl,rfl⟩:=e0;cases r with | cons r1 r2 =>
   cases r2;obtain⟨a,vs,rfl,_,h3,h4⟩:=sim_list S r1 g;obtain⟨u,rfl,ru⟩:=vals1 rv;cases ru;obtain⟨its,rel,pl,hz⟩:=I.list (SqL.of h3);have hds:=allI_eq hb;subst hds;refine min_ints (I.ok.hd hc) pl.isList (intsA h4 rel) (List.length_pos_iff.mpr hne) fun h' M t tk kk m1 m2=>?_;have e:M=minI ns:=wg (m2 _ (minI_mem hne).1) ((minI_mem hne).2 _ m1);subst e;exact⟨.int (minI ns),H,I.kept kk,⟨t,rfl⟩,fin rfl (.int _)⟩
end
end L3
namespace L3
open PySem PySem.Spec PyProof.Rows L2
section
variable {X:Cx}
noncomputable def mtId (m:Mt)(x:D):String:=match m,x with
 | .append,_=>"list.append"
 | .insert,_=>"list.insert"
 | .extend,_=>"list.extend"
 | .join,_=>"str.join"
 | .get,_=>"dict.get"
 | .get1,_=>"dict.get"
 | .sdf,_=>"dict.setdefault"
 | .gtd,_=>"dict.get"
noncomputable def mtName:Mt->Str
 | .append=>"append" | .insert=>"insert" | .join=>"join" | .get=>"get"
 | .extend=>"extend"
 | .get1=>"get"
 | .sdf=>"setdefault"
 | .gtd=>"get"
theorem mt_name {m:Str}{n:Nat}{k:Mt}(h:mtOf m n=some k):m=mtName k:=by
 unfold mtOf at h;have key:∀ (y:String) (k:Nat),(m==(Str.ofString y)&&n==k)=true->m=Str.ofString y:=fun y k e=>by
  simp only[zc,beq_iff_eq]at e;exact e.1
 split at h
 ·rename_i e;cases h;exact key _ _ e
 split at h
 ·rename_i e;cases h;exact key _ _ e
 split at h
 ·rename_i e;cases h;exact key _ _ e
 split at h
 ·rename_i e;cases h;exact key _ _ e
 split at h
 ·rename_i e;cases h;exact key _ _ e
 split at h
 ·rename_i e;cases h;exact key _ _ e
 split at h
 ·rename_i e;cases h;exact key _ _ e
 ·cases h
noncomputable def RM (K:PySem.W.Frag)(m:Mt)(id:String):V->List V->Hp->VK->Prop:=fun x xs H Q=>∃ ι M M' dx ds d,Sim K ι M H/\Rep K ι H dx x/\Reps K ι H ds xs/\mtId m dx=id/\mtD m dx ds M=some (.ok d,M') /\
 ∀ v H' ι',Rep K ι' H' d v->Sim K ι' M' H'->Ext K ι H ι' H'->Q v H'
theorem strs_of_reps {K:PySem.W.Frag}{ι:List Addr}{H:Hp}:∀ {ds:List D} {vs:List V} {ys:List Str},Reps K ι H ds vs->ds.mapM strD=some ys->vs=ys.map V.str
 | _,_,_,.nil,h=>by simp at h;subst h;rfl
 | _,_,_,.cons (d:=d) r t,h=>by
  rw[xS]at h;simp only[wJ,wq,vp,Option.some.injEq]at h;obtain⟨b,hb,bs',hbs,rfl⟩:=h;rw[strs_of_reps t hbs];cases r <;> simp[strD]at hb;subst hb;rfl
theorem mt_all (hu:X.A.units + 100 < cLine)(m:Mt)(id:String):MtR X id (RM X.K m id):=by
 intro pins s σ H x vs v us Q I rx rv h;obtain⟨ι,M,M',dx,ds,d,S,r,rs,rfl,e,k⟩:=h;have fin:∀ {w':V},M'=M->Rep X.K ι H d w'->Q w' H:=fun {w'} z r=>by subst z;exact k w' H ι r S Ext.refl
 cases m
 case append =>
  cases dx <;> first | exact(stop_ok e).elim | (rcases ds with _ | ⟨_,_ | ⟨_,_⟩⟩ <;> first | exact(stop_ok e).elim | skip)
  ·delta mtD at e
   dsimp only at e;rename_i a y;obtain⟨vy,rfl,ry⟩:=reps1 rs;have e0:=bind_ok e;clear e;obtain⟨xs,_,e1,e⟩:=e0;have e10:=getL_ok e1;clear e1;obtain⟨g,rfl⟩:=e10;have e0:=bind_ok e;clear e;obtain⟨_,_,e1,e⟩:=e0;have e10:=need_ok e1;clear e1;obtain⟨hn,rfl⟩:=e10;have e0:=bind_ok e;clear e;obtain⟨u,M2,e1,e⟩:=e0;have e0:=pure_ok e;clear e;obtain⟨rfl,rfl⟩:=e0;obtain⟨p,ws,rfl,hi,h3,h4⟩:=sim_list S r g;obtain⟨S2,X2⟩:=put_list (ds:=xs) S hi h3 (h4.append (.cons ry .nil)) e1;exact mt_append pins s σ H _ _ v us Q I rx rv ⟨p,ws,vy,rfl,rfl,h3,by rw[<- h4.length];exact hn,k .non _ ι .non S2 X2⟩
 case insert =>
  cases dx <;> first | exact(stop_ok e).elim | (rcases ds with _ | ⟨x,_ | ⟨_,_ | ⟨_,_⟩⟩⟩ <;> first | exact(stop_ok e).elim | (cases x <;> first | exact(stop_ok e).elim | skip))
  ·delta mtD at e
   dsimp only at e;rename_i a i y;obtain⟨vi,vy,rfl,ri,ry⟩:=reps2 rs;cases ri;have e0:=bind_ok e;clear e;obtain⟨xs,_,e1,e⟩:=e0;have e10:=getL_ok e1;clear e1;obtain⟨g,rfl⟩:=e10;have e0:=bind_ok e;clear e;obtain⟨_,_,e1,e⟩:=e0;have e10:=need_ok e1;clear e1;obtain⟨hn,rfl⟩:=e10;have e0:=bind_ok e;clear e;obtain⟨u,M2,e1,e⟩:=e0;have e0:=pure_ok e;clear e;obtain⟨rfl,rfl⟩:=e0;obtain⟨p,ws,rfl,hi,h3,h4⟩:=sim_list S r g;obtain⟨S2,X2⟩:=put_list (ds:=xs) S hi h3 (Reps.ins ry _ h4) e1;exact mt_insert pins s σ H _ _ v us Q I rx rv ⟨p,ws,_,vy,rfl,rfl,h3,by rw[<- h4.length];exact hn.1,hn.2,k .non _ ι .non S2 X2⟩
 case join =>
  cases dx <;> first | exact(stop_ok e).elim | (rcases ds with _ | ⟨x,_ | ⟨_,_⟩⟩ <;> first | exact(stop_ok e).elim | (cases x <;> first | exact(stop_ok e).elim | skip))
  ·delta mtD at e
   dsimp only at e;obtain⟨vy,rfl,ry⟩:=reps1 rs;have e0:=bind_ok e;clear e;obtain⟨xs,_,e1,e⟩:=e0;have e10:=getL_ok e1;clear e1;obtain⟨g,rfl⟩:=e10;have e0:=bind_ok e;clear e;obtain⟨ys,_,e1,e⟩:=e0;have e10:=lift_ok e1;clear e1;obtain⟨hj,rfl⟩:=e10;have e0:=bind_ok e;clear e;obtain⟨_,_,e1,e⟩:=e0;have e10:=need_ok e1;clear e1;obtain⟨hn,rfl⟩:=e10;have e0:=pure_ok e;clear e;obtain⟨rfl,rfl⟩:=e0;obtain⟨p,ws,rfl,hi,h3,h4⟩:=sim_list S ry g;cases r;have hw:=strs_of_reps h4 hj;subst hw;exact mt_join pins s σ H _ _ v us Q I rx rv ⟨_,p,ys,rfl,rfl,SqL.of h3,hn,fin rfl (.str _)⟩
 case extend =>
  cases dx <;> first | exact(stop_ok e).elim | (rcases ds with _ | ⟨_,_ | ⟨_,_⟩⟩ <;> first | exact(stop_ok e).elim | skip)
  ·delta mtD at e
   dsimp only at e;rename_i kk y;obtain⟨vy,rfl,ry⟩:=reps1 rs;have e0:=bind_ok e;clear e;obtain⟨es,_,e1,e⟩:=e0;have e0:=bind_ok e;clear e;obtain⟨xs,_,e2,e⟩:=e0;have e20:=getL_ok e2;clear e2;obtain⟨g,rfl⟩:=e20;have e0:=bind_ok e;clear e;obtain⟨_,_,e3,e⟩:=e0;have e30:=need_ok e3;clear e3;obtain⟨⟨hn,_⟩,rfl⟩:=e30;have e0:=bind_ok e;clear e;obtain⟨u,M2,e4,e⟩:=e0;have e0:=pure_ok e;clear e;obtain⟨rfl,rfl⟩:=e0;cases ry with
   | tup t q =>
    have e10:=pure_ok e1;clear e1;obtain⟨rfl,rfl⟩:=e10;obtain⟨p,ws,rfl,hi,h3,h4⟩:=sim_list S r g;obtain⟨S2,X2⟩:=put_list (ds:=xs) S hi h3 (h4.append q) e4;exact mt_extendT pins s σ H _ _ v us Q I rx rv ⟨p,_,ws,_,rfl,rfl,h3,sqt t,by rw[<- h4.length,<- q.length];exact hn,k .non _ ι .non S2 X2⟩
   | ob t =>
    have e10:=getL_ok e1;clear e1;obtain⟨g2,rfl⟩:=e10;obtain⟨p,ws,rfl,hi,h3,h4⟩:=sim_list S r g;obtain⟨p2,ws2,e5,hi2,h5,h6⟩:=sim_list S (.ob t) g2;cases e5;obtain⟨S2,X2⟩:=put_list (ds:=xs) S hi h3 (h4.append h6) e4;exact mt_extend pins s σ H _ _ v us Q I rx rv ⟨p,_,ws,ws2,rfl,rfl,h3,h5,by rw[<- h4.length,<- h6.length];exact hn,k .non _ ι .non S2 X2⟩
   | _=>exact(stop_ok e1).elim
 case get1 =>
  cases dx <;> first | exact(stop_ok e).elim | (rcases ds with _ | ⟨_,_ | ⟨_,_⟩⟩ <;> first | exact(stop_ok e).elim | skip)
  ·delta mtD at e
   dsimp only at e;rename_i kk y;obtain⟨vy,rfl,ry⟩:=reps1 rs;have e0:=bind_ok e;clear e;obtain⟨kvs,_,e1,e⟩:=e0;have e10:=getT_ok e1;clear e1;obtain⟨g,rfl⟩:=e10;have e0:=bind_ok e;clear e;obtain⟨q,_,e1,e⟩:=e0;have e10:=lift_ok e1;clear e1;obtain⟨hq,rfl⟩:=e10;have e0:=pure_ok e;clear e;obtain⟨rfl,rfl⟩:=e0;obtain⟨a,ws,rfl,hi,h3,h4⟩:=sim_tt S r g;cases rx;obtain⟨u1,rfl,ru1⟩:=vals1 rv;obtain⟨b,rfl,kb⟩:=key_at ry hq;cases ru1;obtain⟨z,hd,xs,rel,dd⟩:=dtt_of I.hok h3;show wpAny _ _ (call (.builtin "dict.get") [.ref a,.ref b]) _ _ _;refine call_meetsIn PySem.F.slot_dict_get dd.typeIs PySem.F.entry_dict_get (PySem.F.args_dict_get_2 _ _) (meetsH_dict_get (kind2 (mixKind X.prog X.w)) a b hd) ⟨k2room hu,q,xs,key2_of I.hok kb,dd,?_⟩;have w3:Rep X.K ι H ((tkGet kvs q).getD .non) ((valV ws q).getD .non):=by
    rcases h4.find q with ⟨z1,z2⟩|⟨d',v',z1,z2,z3⟩
    ·rw[z1,z2];exact .non
    ·rw[z1,z2];exact z3
   have rn:RelV .non .none:=rfl;exact⟨_,H,I.tok _,(rel.val q).getD rn,fin rfl w3⟩
 case gtd =>
  cases dx <;> first | exact(stop_ok e).elim | (rcases ds with _ | ⟨_,_ | ⟨_,_ | ⟨_,_⟩⟩⟩ <;> first | exact(stop_ok e).elim | skip)
  ·delta mtD at e
   dsimp only at e;rename_i kk y dv;obtain⟨vy,vd,rfl,ry,rd⟩:=reps2 rs;have e0:=bind_ok e;clear e;obtain⟨kvs,_,e1,e⟩:=e0;have e10:=getT_ok e1;clear e1;obtain⟨g,rfl⟩:=e10;have e0:=bind_ok e;clear e;obtain⟨q,_,e1,e⟩:=e0;have e10:=lift_ok e1;clear e1;obtain⟨hq,rfl⟩:=e10;have e0:=pure_ok e;clear e;obtain⟨rfl,rfl⟩:=e0;obtain⟨a,ws,rfl,hi,h3,h4⟩:=sim_tt S r g;cases rx;obtain⟨u1,u2,rfl,ru1,ru2⟩:=vals2 rv;obtain⟨b,rfl,kb⟩:=key_at ry hq;cases ru1;obtain⟨z,hd,xs,rel,dd⟩:=dtt_of I.hok h3;show wpAny _ _ (call (.builtin "dict.get") [.ref a,.ref b,u2]) _ _ _;refine call_meetsIn PySem.F.slot_dict_get dd.typeIs PySem.F.entry_dict_get (PySem.F.args_dict_get_3 _ _ _) (meetsH_dict_get_default (kind2 (mixKind X.prog X.w)) a b hd u2) ⟨k2room hu,q,xs,key2_of I.hok kb,dd,?_⟩;have w3:Rep X.K ι H ((tkGet kvs q).getD dv) ((valV ws q).getD vd):=by
    rcases h4.find q with ⟨z1,z2⟩|⟨d',v',z1,z2,z3⟩
    ·rw[z1,z2];exact rd
    ·rw[z1,z2];exact z3
   exact⟨_,H,I.tok _,(rel.val q).getD ru2,fin rfl w3⟩
 case sdf =>
  cases dx <;> first | exact(stop_ok e).elim | (rcases ds with _ | ⟨_,_ | ⟨_,_ | ⟨_,_⟩⟩⟩ <;> first | exact(stop_ok e).elim | skip)
  ·delta mtD at e
   dsimp only at e;rename_i kk y dv;obtain⟨vy,vd,rfl,ry,rd⟩:=reps2 rs;have e0:=bind_ok e;clear e;obtain⟨kvs,_,e1,e⟩:=e0;have e10:=getT_ok e1;clear e1;obtain⟨g,rfl⟩:=e10;have e0:=bind_ok e;clear e;obtain⟨q,_,e1,e⟩:=e0;have e10:=lift_ok e1;clear e1;obtain⟨hq,rfl⟩:=e10;have e0:=bind_ok e;clear e;obtain⟨_,_,e1,e⟩:=e0;have e10:=need_ok e1;clear e1;obtain⟨hn,rfl⟩:=e10;obtain⟨a,ws,rfl,hi,h3,h4⟩:=sim_tt S r g;cases rx;obtain⟨u1,u2,rfl,ru1,ru2⟩:=vals2 rv;obtain⟨b,rfl,kb⟩:=key_at ry hq;cases ru1;obtain⟨z,hd,xs,rel,dd⟩:=dtt_of I.hok h3;have hz:xs.length<=zh:=by rw[<- Paired.length rel];exact z
   have rl:=rel.val q;show wpAny _ _ (call (.builtin "dict.setdefault") [.ref a,.ref b,u2]) _ _ _;refine call_meetsIn PySem.F.slot_dict_setdefault dd.typeIs PySem.F.entry_dict_setdefault (PySem.F.args_dict_setdefault_3 _ _ _) (meetsH_sdf (kind2 (mixKind X.prog X.w)) a b hd u2) ⟨k2room hu,q,xs,key2_of I.hok kb,dd,hz,fun p hp=>?_,fun hp h' dd' hs=>?_⟩
   ·rcases h4.find q with ⟨z1,z2⟩|⟨d',v',z1,z2,z3⟩
    ·rw[z2,hp]at rl;exact rl.elim
    ·rw[z2,hp]at rl
     unfold sdfD at e;rw[z1]at e;have e0:=pure_ok e;clear e;obtain⟨rfl,rfl⟩:=e0;exact⟨_,H,I.tok _,rl,fin rfl z3⟩
   ·rcases h4.find q with ⟨z1,z2⟩|⟨d',v',z1,z2,z3⟩
    ·unfold sdfD at e
     rw[z1]at e;have e0:=bind_ok e;clear e;obtain⟨_,_,e1,e⟩:=e0;have e10:=putM_ok e1;clear e1;obtain⟨_,rfl⟩:=e10;have e0:=pure_ok e;clear e;obtain⟨rfl,rfl⟩:=e0;have hn2:ws.length < zh:=by rw[<- Paired.length h4];exact hn
     have x:Ext X.K ι H ι (upd H a (.dTT (putK ws q vd))):=Ext.write h3 (mut_t _);have hl:(putK ws q vd).length<=zh:=by have:=length_putK ws q vd;omega
     obtain⟨q',es,ep,hq',h2,h3',h4',_,h5⟩:=dd';refine⟨vd,upd H a (.dTT (putK ws q vd)),d_write I (by rw[h3];exact True.intro) hs ⟨q',hq'⟩ ⟨hl,hd,_,(rel.put q kb ru2).keeps fun c ys ec=>?_,q',es,ep,hq',h2,h3',h4',h5⟩,ru2,k vd _ ι (rd.mono x) (S.put hi ⟨_,rfl,(h4.mono x).put q (rd.mono x)⟩) x⟩;rw[upd_ne (ne_of ec h3 (fun z=>nomatch z))];exact ec
    ·rw[z2,hp]at rl;exact rl.elim
 case get =>
  cases dx <;> first | exact(stop_ok e).elim | (rcases ds with _ | ⟨_,_ | ⟨_,_ | ⟨_,_⟩⟩⟩ <;> first | exact(stop_ok e).elim | skip)
  ·delta mtD at e
   dsimp only at e;rename_i kk y dv;obtain⟨vy,vd,rfl,ry,rd⟩:=reps2 rs;have e0:=bind_ok e;clear e;obtain⟨kvs,_,e1,e⟩:=e0;have e10:=getD_ok e1;clear e1;obtain⟨g,rfl⟩:=e10;have e0:=bind_ok e;clear e;obtain⟨q,_,e1,e⟩:=e0;have e10:=lift_ok e1;clear e1;obtain⟨hq,rfl⟩:=e10;have e0:=pure_ok e;clear e;obtain⟨rfl,rfl⟩:=e0;obtain⟨a,ws,rfl,hi,h3,h4⟩:=sim_dict S r g;cases rx;obtain⟨u1,u2,rfl,ru1,ru2⟩:=vals2 rv;have hy:vy=kV q:=by
    cases ry <;> simp only[kyD,reduceCtorEq,Option.some.injEq]at hq <;> subst hq <;> rfl
   subst hy;obtain⟨z,hd,vs,rel,dd⟩:=dk_rd I.hok (.inl h3);show wpAny _ _ (call (.builtin "dict.get") [.ref a,u1,u2]) _ _ _;refine call_meetsIn PySem.F.slot_dict_get dd.typeIs PySem.F.entry_dict_get (PySem.F.args_dict_get_3 _ _ _) (meets_dict_get_default (mixKind X.prog X.w) a (kV_is ru1) hd u2) ⟨_,dd.mapOf,?_⟩;have w3:Rep X.K ι H ((kvGet kvs q).getD dv) ((valV ws q).getD vd):=by
    rcases h4.find q with ⟨z1,z2⟩|⟨d',v',z1,z2,z3⟩
    ·rw[z1,z2];exact rd
    ·rw[z1,z2];exact z3
   exact⟨_,H,I.tok _,(rel.val q).getD ru2,fin rfl w3⟩
theorem LE.mth {m:Mt}{fo:DE}{fa:Ev->Mo (List D)}(σ:St)(H:Hp)(Q:VK)(h:LE X.K (fun ρ=>do let x <- fo ρ;rcvD m x;let xs <- fa ρ;mtD m x xs) σ H Q):tBMx X (mtName m) (RM X.K m) (LE X.K fo) (LA X.K fa) σ H Q:=by
 obtain⟨ι,ρ,M,d,M',S,R,e,k⟩:=h;have e0:=bind_ok e;clear e;obtain⟨x,M1,e1,e⟩:=e0;have e0:=bind_ok e;clear e;obtain⟨u,M2,e2,e⟩:=e0;have e0:=bind_ok e;clear e;obtain⟨xs,M3,e3,e⟩:=e0;refine⟨ι,ρ,M,x,M1,S,R,e1,fun v H1 ι1 r1 S1 X1=>?_⟩;have fact:M2=M1/\∃ T,MFact T (mtName m) (mtId m x)/\RcvIs X T v H1:=by
  unfold rcvD at e2;split at e2
  ·have e0:=bind_ok e2;clear e2;obtain⟨ds,_,e4,e5⟩:=e0
   have e40:=getL_ok e4;clear e4;obtain⟨g,rfl⟩:=e40;obtain⟨p,ws,rfl,hi,h3,h4⟩:=sim_list S1 r1 g;exact⟨(pure_ok e5).2,"list",⟨PySem.F.plainAttrs_list,PySem.F.slot_list_append,PySem.F.type_list_append⟩,rcv_list (SqL.of h3)⟩
  ·have e0:=bind_ok e2;clear e2;obtain⟨ds,_,e4,e5⟩:=e0
   have e40:=getL_ok e4;clear e4;obtain⟨g,rfl⟩:=e40;obtain⟨p,ws,rfl,hi,h3,h4⟩:=sim_list S1 r1 g;exact⟨(pure_ok e5).2,"list",⟨PySem.F.plainAttrs_list,PySem.F.slot_list_insert,PySem.F.type_list_insert⟩,rcv_list (SqL.of h3)⟩
  ·have e0:=bind_ok e2;clear e2;obtain⟨ds,_,e4,e5⟩:=e0
   have e40:=getL_ok e4;clear e4;obtain⟨g,rfl⟩:=e40;obtain⟨p,ws,rfl,hi,h3,h4⟩:=sim_list S1 r1 g;exact⟨(pure_ok e5).2,"list",⟨PySem.F.plainAttrs_list,PySem.F.slot_list_extend,PySem.F.type_list_extend⟩,rcv_list (SqL.of h3)⟩
  ·cases r1 with
   | str y=>exact⟨(pure_ok e2).2,"str",⟨PySem.F.plainAttrs_str,PySem.F.slot_str_join,PySem.F.type_str_join⟩,rcv_str⟩
  ·have e0:=bind_ok e2;clear e2;obtain⟨ds,_,e4,e5⟩:=e0
   have e40:=getD_ok e4;clear e4;obtain⟨g,rfl⟩:=e40;obtain⟨p,ws,rfl,hi,h3,h4⟩:=sim_dict S1 r1 g;exact⟨(pure_ok e5).2,"dict",⟨PySem.F.plainAttrs_dict,PySem.F.slot_dict_get,PySem.F.type_dict_get⟩,fun pins σ s v I r=>tyV_is I r (.inr (.inr (.inl ⟨rfl,.inl ⟨ws,h3⟩⟩)))⟩
  ·have e0:=bind_ok e2;clear e2;obtain⟨ds,_,e4,e5⟩:=e0
   have e40:=getT_ok e4;clear e4;obtain⟨g,rfl⟩:=e40;obtain⟨p,ws,rfl,hi,h3,h4⟩:=sim_tt S1 r1 g;exact⟨(pure_ok e5).2,"dict",⟨PySem.F.plainAttrs_dict,PySem.F.slot_dict_get,PySem.F.type_dict_get⟩,fun pins σ s v I r=>rcv_tt I r h3⟩
  ·have e0:=bind_ok e2;clear e2;obtain⟨ds,_,e4,e5⟩:=e0
   have e40:=getT_ok e4;clear e4;obtain⟨g,rfl⟩:=e40;obtain⟨p,ws,rfl,hi,h3,h4⟩:=sim_tt S1 r1 g;exact⟨(pure_ok e5).2,"dict",⟨PySem.F.plainAttrs_dict,PySem.F.slot_dict_setdefault,PySem.F.type_dict_setdefault⟩,fun pins σ s v I r=>rcv_tt I r h3⟩
  ·have e0:=bind_ok e2;clear e2;obtain⟨ds,_,e4,e5⟩:=e0
   have e40:=getT_ok e4;clear e4;obtain⟨g,rfl⟩:=e40;obtain⟨p,ws,rfl,hi,h3,h4⟩:=sim_tt S1 r1 g;exact⟨(pure_ok e5).2,"dict",⟨PySem.F.plainAttrs_dict,PySem.F.slot_dict_get,PySem.F.type_dict_get⟩,fun pins σ s v I r=>rcv_tt I r h3⟩
  ·exact(stop_ok e2).elim
 obtain⟨rfl,T,f1,f2⟩:=fact;refine⟨T,mtId m x,f1,f2,?_⟩;refine⟨ι1,ρ,_,xs,M3,S1,R.mono X1,e3,fun vs H2 ι2 r2 S2 X2=>?_⟩;exact⟨ι2,M3,M',x,xs,d,S2,r1.mono X2,r2,rfl,e,fun v' H' ι' r' S' X'=>k v' H' ι' r' S' ((X1.trans X2).trans X')⟩
noncomputable def tyName:Ty->String
 | .int=>"int" | .str=>"str" | .bool=>"bool" | .list=>"list" | .tuple=>"tuple" | .dict=>"dict"
theorem ty_boot {t:Str}{k:Ty}(h:tyOf t=some k):bootBuiltins t=some (.type (tyName k)):=by
 unfold tyOf at h;have key:∀ (y:String),(t==(Str.ofString y))=true->t=Str.ofString y:=fun y e=>by simpa using e
 split at h
 ·rename_i e;cases h;rw[key _ e];decide +kernel
 split at h
 ·rename_i e;cases h;rw[key _ e];decide +kernel
 split at h
 ·rename_i e;cases h;rw[key _ e];decide +kernel
 split at h
 ·rename_i e;cases h;rw[key _ e];decide +kernel
 split at h
 ·rename_i e;cases h;rw[key _ e];decide +kernel
 split at h
 ·rename_i e;cases h;rw[key _ e];decide +kernel
 ·cases h
noncomputable def RIsI (K:PySem.W.Frag)(k:Ty):List V->Hp->VK->Prop:=fun xs H Q=>∃ ι M M' dx x b,xs=[x,.ty (tyName k)]/\Sim K ι M H/\Rep K ι H dx x/\tyD k dx M=some (.ok b,M')/\(M'=M->Q (.bl b) H)
theorem call_isi (k:Ty):CallR X (.builtin "isinstance") (RIsI X.K k):=by
 intro pins s σ H xs us Q I rv h;obtain⟨ι,M,M',dx,x,b,rfl,S,r,e,q⟩:=h;obtain⟨u,w',rfl,ru,rw'⟩:=vals2 rv;cases rw';have yes:∀ {c:Bool},Q (.bl c) H->EP X pins σ Q (.bool c) s:=fun h=>⟨.bl _,H,I,rfl,h⟩;have no:∀ {c:Bool},Q (.bl c) H->EP X pins σ Q (.bool c) { s with toks:=s.toks + 1 }:=fun h=>⟨.bl _,H,I.tok _,rfl,h⟩;have lst:∀ {a:Addr} {vs:List V},SqL X.K H a vs->Q (.bl (k==.list)) H->wpAny (model X.prog X.w) X.A (call (.builtin "isinstance") [.ref a,.type (tyName k)]) (EP X pins σ Q) X.xe s:=fun {a vs} hs q=>by
  obtain⟨its,_,⟨o,n,ho,hc,_⟩,_⟩:=I.list hs;cases k
  ·exact IsiPair.list_int ho hc (no q)
  ·exact IsiPair.list_str ho hc (no q)
  ·exact IsiPair.list_bool ho hc (no q)
  ·exact IsiPair.list_list ho hc (yes q)
  ·exact IsiPair.list_tuple ho hc (no q)
  ·exact IsiPair.list_dict ho hc (no q)
 cases r with
 | non =>
  cases ru;have e0:=pure_ok e;clear e;obtain⟨rfl,rfl⟩:=e0;have q:=q rfl;cases k
  ·exact IsiPair.NoneType_int (no q)
  ·exact IsiPair.NoneType_str (no q)
  ·exact IsiPair.NoneType_bool (no q)
  ·exact IsiPair.NoneType_list (no q)
  ·exact IsiPair.NoneType_tuple (no q)
  ·exact IsiPair.NoneType_dict (no q)
 | bl c =>
  cases ru;have e0:=pure_ok e;clear e;obtain⟨rfl,rfl⟩:=e0;have q:=q rfl;cases k
  ·exact IsiPair.bool_int (yes q)
  ·exact IsiPair.bool_str (no q)
  ·exact IsiPair.bool_bool (yes q)
  ·exact IsiPair.bool_list (no q)
  ·exact IsiPair.bool_tuple (no q)
  ·exact IsiPair.bool_dict (no q)
 | int c =>
  obtain⟨t,rfl⟩:=ru;have e0:=pure_ok e;clear e;obtain⟨rfl,rfl⟩:=e0;have q:=q rfl;cases k
  ·exact IsiPair.int_int (yes q)
  ·exact IsiPair.int_str (no q)
  ·exact IsiPair.int_bool (no q)
  ·exact IsiPair.int_list (no q)
  ·exact IsiPair.int_tuple (no q)
  ·exact IsiPair.int_dict (no q)
 | str c =>
  obtain⟨t,rfl⟩:=ru;have e0:=pure_ok e;clear e;obtain⟨rfl,rfl⟩:=e0;have q:=q rfl;cases k
  ·exact IsiPair.str_int (no q)
  ·exact IsiPair.str_str (yes q)
  ·exact IsiPair.str_bool (no q)
  ·exact IsiPair.str_list (no q)
  ·exact IsiPair.str_tuple (no q)
  ·exact IsiPair.str_dict (no q)
 | tup t qq =>
  cases ru;have e0:=pure_ok e;clear e;obtain⟨rfl,rfl⟩:=e0;have q:=q rfl;obtain⟨its,_,⟨o,ho,hc,_⟩,_⟩:=I.tuple (sqt t);cases k
  ·exact IsiPair.tuple_int ho hc (no q)
  ·exact IsiPair.tuple_str ho hc (no q)
  ·exact IsiPair.tuple_bool ho hc (no q)
  ·exact IsiPair.tuple_list ho hc (no q)
  ·exact IsiPair.tuple_tuple ho hc (yes q)
  ·exact IsiPair.tuple_dict ho hc (no q)
 | fl t qq =>
  cases ru;have e0:=pure_ok e;clear e;obtain⟨rfl,rfl⟩:=e0;exact lst t.seq (q rfl)
 | ob t =>
  cases ru;have e0:=bind_ok e;clear e;obtain⟨o,_,e1,e⟩:=e0;have e10:=getM_ok e1;clear e1;obtain⟨g,rfl⟩:=e10;cases o with
  | lst ds =>
   have e0:=pure_ok e;clear e;obtain⟨rfl,rfl⟩:=e0;obtain⟨p,ws,e1,hi,h3,h4⟩:=sim_list S (.ob t) g;cases e1;exact lst (SqL.of h3) (q rfl)
  | dtt kvs=>exact(stop_ok e).elim
  | dic kvs =>
   have e0:=pure_ok e;clear e;obtain⟨rfl,rfl⟩:=e0;obtain⟨p,ws,e1,hi,h3,h4⟩:=sim_dict S (.ob t) g;cases e1;have q:=q rfl;obtain⟨z,hd,rs,rel,o,es,ep,ho,⟨hc,_⟩,_⟩:=dk_rd I.hok (.inl h3);cases k
   ·exact IsiPair.dict_int ho hc (no q)
   ·exact IsiPair.dict_str ho hc (no q)
   ·exact IsiPair.dict_bool ho hc (no q)
   ·exact IsiPair.dict_list ho hc (no q)
   ·exact IsiPair.dict_tuple ho hc (no q)
   ·exact IsiPair.dict_dict ho hc (yes q)
theorem LE.isI {k:Ty}{fa:DE}(σ:St)(H:Hp)(Q:VK)(h:LE X.K (fun ρ=>do let x <- fa ρ;let b <- tyD k x;pure (.bl b)) σ H Q):tCB (RIsI X.K k) (tCons (LE X.K fa) (tCons (tC (.ty (tyName k))) tNil)) σ H Q:=by
 obtain⟨ι,ρ,M,d,M',S,R,e,q⟩:=h;have e0:=bind_ok e;clear e;obtain⟨x,M1,e1,e⟩:=e0;have e0:=bind_ok e;clear e;obtain⟨b,M2,e2,e⟩:=e0;have e0:=pure_ok e;clear e;obtain⟨rfl,rfl⟩:=e0;refine⟨ι,ρ,M,x,M1,S,R,e1,fun v H1 ι1 r1 S1 X1=>?_⟩;exact⟨ι1,M1,_,x,v,b,rfl,S1,r1,e2,fun z=>by subst z;exact q _ H1 ι1 (.bl b) S1 X1⟩
end
end L3
namespace L3
open PySem PySem.Spec PyProof.Rows L2
section
variable {X:Cx}
end
end L3
namespace L3
open PySem PySem.Spec PyProof.Rows L2
noncomputable def spOf (K:PySem.W.Frag)(n:Nat)(g:List D->Mo D):Sp:=fun vs H Q _=>vs.length=n/\∃ ι M M' ds d,Sim K ι M H/\Reps K ι H ds vs/\g ds M=some (.ok d,M') /\
 ∀ v H' ι',Rep K ι' H' d v->Sim K ι' M' H'->Ext K ι H ι' H'->Q v H'
noncomputable def FnR (X:Cx)(g:List D->Mo D)(f:Str):Prop:=∃ (k:Nat) (fa:Addr) (fd:FuncData) (ps:List Str),X.mg f=some (.ref fa)/\PySem.W.keepIn X.K (.ref fa)=true/\Binds X.K fd ps [] /\
 FnOk X.prog X.w X.K X.mg X.base CX0 k fa fd ps (spOf X.K ps.length g)/\Room k X.A/\∀ ds M d M',g ds M=some (.ok d,M')->ds.length=ps.length
structure CxOk (Γ:Ctx) (S:Sc) (X:Cx):Prop where
 n:X.N=S.N
 sc:∀ x k,S.sc.names.lookup x=some k->∃ k',X.env.scope.names.lookup x=some k'/\(k'=k\/(k=.free/\k'=.cell))
 calm:X.calm=true
 hu:X.A.units + 100 < cLine
 nox:X.xe=fun _ _=>False
 fns:∀ f∈S.fns,FnR X (Γ.fn f) f
 gls:∀ x∈S.gls,∃ d u v,Γ.gl x=some d/\X.mg x=some u/\RelV v u/\∀ ι H,Rep X.K ι H d v
 bls:∀ x∈S.bls,X.mg x=none
 nd:X.N.Nodup
section
variable {Γ:Ctx}{S:Sc}{X:Cx}
theorem CxOk.vis (C:CxOk Γ S X){x:Str}(h:S.vis x=true):Vis X.env.scope x:=by
 unfold Sc.vis Sc.kind at h;simp only[yN,beq_iff_eq]at h;rcases h with (h | h) | h
 ·obtain⟨k',h1,rfl | ⟨h2,_⟩⟩:=C.sc _ _ h
  ·exact .inl h1
  ·cases h2
 ·obtain⟨k',h1,rfl | ⟨h2,_⟩⟩:=C.sc _ _ h
  ·exact .inr (.inl h1)
  ·cases h2
 ·obtain⟨k',h1,rfl | ⟨_,rfl⟩⟩:=C.sc _ _ h
  ·exact .inr (.inr h1)
  ·exact .inr (.inl h1)
theorem CxOk.loc (C:CxOk Γ S X){x:Str}(h:S.loc x=true):Loc X.env.scope x:=by
 unfold Sc.loc Sc.kind at h;simp only[yN,beq_iff_eq]at h;rcases h with h | h
 ·obtain⟨k',h1,rfl | ⟨h2,_⟩⟩:=C.sc _ _ h
  ·exact .inl h1
  ·cases h2
 ·obtain⟨k',h1,rfl | ⟨h2,_⟩⟩:=C.sc _ _ h
  ·exact .inr h1
  ·cases h2
theorem CxOk.glo (C:CxOk Γ S X){x:Str}(h:S.glo x=true):Gl X x:=by
 unfold Sc.glo Sc.kind at h;simp only[beq_iff_eq]at h;obtain⟨k',h1,rfl | ⟨h2,_⟩⟩:=C.sc _ _ h
 ·exact h1
 ·cases h2
theorem slot_get {N:List Str}{x:Str}{i:Nat}(h:slot N x=some i):N[i]?=some x:=by
 unfold slot at h;obtain⟨hi,h1,_⟩:=List.findIdx?_eq_some_iff_getElem.mp h;rw[zv hi];simpa using h1
theorem okName_debug {x:Str}(h:okName x=true):(x==("__debug__" : Str))=false/\(x==("__classdict__" : Str))=false/\x≠"__name__":=by
 unfold okName at h;simp only[zc,bne_iff_ne,ne_eq]at h;exact⟨beq_eq_false_iff_ne.mpr h.1.1,beq_eq_false_iff_ne.mpr h.1.2,h.2⟩
theorem star_plain {e:Expr}{es:List Expr}{env:Env}(h:plainE e=true):starEach (e::es) env=(false,eval e env)::starEach es env:=by
 cases e <;> first | rfl | cases h
theorem back_plain {pos:Pos}{env:Env}:∀ {es:List Expr},es.all plainE=true->(backTo pos (starEach es env)).any (·.1)=false
 | [],_=>rfl
 | e::es,h=>by
  rw[yD,zc]at h;rw[star_plain h.1];show (false||(backTo pos (starEach es env)).any (·.1))=false;rw[back_plain h.2];rfl
noncomputable def Its (y:Str):It:=⟨fun i _=>i < y.cps.size,fun i H x H'=>H'=H/\∃ c,y.cps[i]?=some c/\x=.str ⟨#[c]⟩,fun i _=>i=y.cps.size⟩
theorem turn_str {P:Program}{w:World}{K:PySem.W.Frag}{tg:Expr}{it:Addr}{y:Str}{t:Tok}{ty:String}(hW:∀ A':Around,A'.handled=none->Walks P w A' it [it] [it] y.cps.size (SignAt y) (fun i h=>h.IsStrIter it ty y t i))
  (hn:["enumerate","zip","dict_itemiterator","dict_reverseitemiterator","odict_iterator","itertools.zip_longest","itertools.pairwise"].contains ty=false)
  (hself:∀ (A:Around) (i:Nat) (s:Shared) (Q:Value->Shared->Prop) (E:Value->Shared->Prop),s.heap.IsStrIter it ty y t i->Q (.ref it) s->wpAny (model P w) A (pyIter (.ref it)) Q E s) :
  Turn P w K tg (Its y) [it] it (fun i h=>h.IsStrIter it ty y t i) where
 mem:=by simp
 obj:=fun i h st b hb=>by
  have e:b=it:=by simpa using hb
  subst e;obtain⟨o,h1,h2,h3⟩:=st;exact⟨o,h1,fun v z=>by rw[h3]at z;cases z⟩
 keep:=fun i h h' st k=>by
  obtain⟨o,h1,h2⟩:=st;exact⟨o,k it (by simp) o h1,h2⟩
 item:=by
  intro X hP hw hK hc i pins s σ H E I hf st hg;subst hP hw hK;obtain⟨f0,f1,f2,f3,f4,f5⟩:=hf it (by simp);refine(hW X.A (I.ok.hd hc)).item i s _ _ hg st fun v h' tk hv st' kk=>?_;obtain⟨c,t',hc',rfl⟩:=hv;have I1:Inv X pins σ H { s with heap:=h',toks:=tk }:=I.turned (fun b o hb e=>kk b o (by simpa using hb) e) f0 f1 f3 f4 f5;obtain⟨o,h1,h2,h3⟩:=id st';exact⟨_,rfl,go_of (s:={ s with heap:=h',toks:=tk }) h1 h2 h3 hn ⟨.str ⟨#[c]⟩,H,I1,⟨t',rfl⟩,⟨rfl,c,hc',rfl⟩,st',fun b hb=>(hf b hb).1⟩⟩
 done:=by
  intro X hP hw hK hc i pins s σ H E I hf st hg;subst hP hw hK;obtain⟨f0,f1,f2,f3,f4,f5⟩:=hf it (by simp);have hg':i=y.cps.size:=hg;subst hg';exact(hW X.A (I.ok.hd hc)).done s _ _ st fun h' tk kk=>⟨rfl,I.turned (fun b o hb e=>kk b o (by simpa using hb) e) f0 f1 f3 f4 f5⟩
 self:=hself
noncomputable def iAny (K:PySem.W.Frag)(tl:TE):TI:=fun σ H R=>tl σ H fun x H1=>(∃ a xs,x=.ref a/\SqL K H1 a xs/\R (Itl K a) H1)\/(∃ a xs,x=.ref a/\SqT K H1 a xs/\R (Itt K a) H1)\/∃ y,x=.str y/\R (Its y) H1
theorem pi_any {X:Cx}{tg l:Expr}{tl:TE}(hl:PE X l tl):PI X tg l (iAny X.K tl):=by
 intro pins s σ H R I h;refine thn (hl pins s σ H _ I h) fun v s1 ⟨x,H1,I1,r1,q1⟩=>?_;rcases q1 with ⟨a,xs,e,hq,q⟩|⟨a,xs,e,hq,q⟩|⟨y,e,q⟩
 ·subst e
  cases r1;obtain⟨its,rv,p,hz⟩:=I1.list hq;refine wpAny_pyIter_list p.isList ?_;refine⟨s1.heap.objs.size,[s1.heap.objs.size],_,_,H1,rfl,I1.kept (t':=s1.toks) fun b o e=>zb _ e,turn_list a _,⟨_,zR _ rfl,rfl,rfl⟩,fun b hb=>?_,q⟩;have e:b=s1.heap.objs.size:=by simpa using hb
  subst e;exact I1.fpOk (zo _) (I1.hok.fresh (zo _))
 ·subst e
  cases r1;obtain⟨its,rv,p,hz⟩:=I1.tuple hq;refine wpAny_pyIter_tuple (show s1.heap.IsTuple a its.toArray from p) ?_;refine⟨s1.heap.objs.size,[s1.heap.objs.size],_,_,H1,rfl,I1.kept (t':=s1.toks) fun b o e=>zb _ e,turn_tuple a _,⟨_,zR _ rfl,rfl,rfl⟩,fun b hb=>?_,q⟩;have e:b=s1.heap.objs.size:=by simpa using hb
  subst e;exact I1.fpOk (zo _) (I1.hok.fresh (zo _))
 ·subst e
  obtain⟨t,rfl⟩:=r1;cases ha:y.cps.all (· < 128)
  ·refine wpAny_pyIter_wide ha ?_
   refine⟨s1.heap.objs.size,[s1.heap.objs.size],_,_,H1,rfl,I1.kept (t':=s1.toks) fun b o e=>zb _ e,turn_str (t:=t) (fun A' hA=>Walks.strWide hA _ y t) (by decide) (fun _ _ _ _ _ st hQ=>wpAny_pyIter_striter_wide st hQ),⟨_,zR _ rfl,rfl,rfl⟩,fun b hb=>?_,q⟩;have e:b=s1.heap.objs.size:=by simpa using hb
   subst e;exact I1.fpOk (zo _) (I1.hok.fresh (zo _))
  ·refine wpAny_pyIter_ascii ha ?_
   refine⟨s1.heap.objs.size,[s1.heap.objs.size],_,_,H1,rfl,I1.kept (t':=s1.toks) fun b o e=>zb _ e,turn_str (t:=t) (fun A' hA=>Walks.strAscii hA _ y t) (by decide) (fun _ _ _ _ _ st hQ=>wpAny_pyIter_striter_ascii st hQ),⟨_,zR _ rfl,rfl,rfl⟩,fun b hb=>?_,q⟩;have e:b=s1.heap.objs.size:=by simpa using hb
   subst e;exact I1.fpOk (zo _) (I1.hok.fresh (zo _))
noncomputable def ItOk (K:PySem.W.Frag)(ι:List Addr)(H:Hp)(src:Src)(J:It):Prop:=∀ (ι2:List Addr) (H2:Hp) (M2:MH),Ext K ι H ι2 H2->Sim K ι2 M2 H2->okM src.ck M2 ->
 (∀ (i:Nat) (d:D),src.ds[i]?=some d->J.go i H2/\∀ x H',J.yld i H2 x H'->H'=H2/\Rep K ι2 H2 d x)/\J.stop src.ds.length H2
noncomputable def LI (K:PySem.W.Frag)(f:Ev->Mo Src):TI:=fun σ H R=>∃ ι ρ M src M',Sim K ι M H/\EnvR K ι H ρ σ/\f ρ M=some (.ok src,M') /\
 ∀ J H' ι',Sim K ι' M' H'->Ext K ι H ι' H'->ItOk K ι' H' src J->R J H'
theorem PI.imp {X:Cx}{tg e:Expr}{t t':TI}(h:PI X tg e t)(k:∀ σ H R,t' σ H R->t σ H R):PI X tg e t':=fun pins s σ H R I q=>h pins s σ H R I (k σ H R q)
theorem LI.seq {K:PySem.W.Frag}{f:DE}(σ:St)(H:Hp)(R:It->Hp->Prop)(h:LI K (fun ρ=>do let x <- f ρ;srcD x) σ H R):iAny K (LE K f) σ H R:=by
 obtain⟨ι,ρ,M,src,M',S,Rr,e,k⟩:=h;have e0:=bind_ok e;clear e;obtain⟨x,M1,e1,e⟩:=e0;refine⟨ι,ρ,M,x,M1,S,Rr,e1,fun v H1 ι1 r1 S1 X1=>?_⟩;cases r1 with
 | tup t q =>
  have e0:=pure_ok e;clear e;obtain⟨rfl,rfl⟩:=e0;refine .inr (.inl ⟨_,_,rfl,sqt t,k _ H1 ι1 S1 X1 fun ι2 H2 M2 x2 S2 ok=>⟨fun i d hd=>?_,⟨_,sqt (x2.tup _ _ t),yY (q.length.symm)⟩⟩⟩);obtain⟨v,hv,rv⟩:=(q.mono x2).get hd;exact⟨⟨_,v,sqt (x2.tup _ _ t),hv⟩,fun x' H' y=>⟨y.1,by have:=y.2 _ (sqt (x2.tup _ _ t));rw[hv]at this;cases this;exact rv⟩⟩
 | fl t q =>
  have e0:=pure_ok e;clear e;obtain⟨rfl,rfl⟩:=e0;refine .inl ⟨_,_,rfl,t.seq,k _ H1 ι1 S1 X1 fun ι2 H2 M2 x2 S2 ok=>⟨fun i d hd=>?_,⟨_,(x2.fz _ _ t).seq,yY (q.length.symm)⟩⟩⟩;obtain⟨v,hv,rv⟩:=(q.mono x2).get hd;exact⟨⟨_,v,(x2.fz _ _ t).seq,hv⟩,fun x' H' y=>⟨y.1,by have:=y.2 _ (x2.fz _ _ t).seq;rw[hv]at this;cases this;exact rv⟩⟩
 | str y =>
  have e0:=bind_ok e;clear e;obtain⟨_,_,e2,e⟩:=e0;have e20:=need_ok e2;clear e2;obtain⟨hn,rfl⟩:=e20;have e0:=pure_ok e;clear e;obtain⟨rfl,rfl⟩:=e0;refine .inr (.inr ⟨y,rfl,k _ H1 ι1 S1 X1 fun ι2 H2 M2 x2 S2 ok=>⟨fun i d hd=>?_,?_⟩⟩)
  ·rw[zu]at hd
   cases hc:y.cps.toList[i]? with
   | none=>rw[hc]at hd;cases hd
   | some c =>
    rw[hc]at hd;cases hd;have hc':y.cps[i]?=some c:=by simpa using hc
    refine⟨?_,fun x' H' yy=>?_⟩
    ·exact(xT.mp hc').1
    ·obtain⟨h1,c',h2,rfl⟩:=yy
     rw[hc']at h2;cases h2;exact⟨h1,.str _⟩
  ·show (y.cps.toList.map sgn).length=y.cps.size
   simp
 | ob t =>
  have e0:=bind_ok e;clear e;obtain⟨ds,_,e2,e⟩:=e0;have e20:=getL_ok e2;clear e2;obtain⟨g,rfl⟩:=e20;have e0:=pure_ok e;clear e;obtain⟨rfl,rfl⟩:=e0;obtain⟨a,vs,h1,h2,h3,h4⟩:=sim_list S1 (.ob t) g;cases h1;refine .inl ⟨_,vs,rfl,SqL.of h3,k _ H1 ι1 S1 X1 fun ι2 H2 M2 x2 S2 ok=>?_⟩;have ok':M2[_]?=some (MO.lst ds):=ok;obtain⟨a2,vs2,g1,g2,g3,g4⟩:=sim_list S2 (.ob (x2.pre _ _ h2)) ok';cases g1;refine⟨fun i d hd=>?_,⟨vs2,SqL.of g3,yY (g4.length.symm)⟩⟩;obtain⟨v,hv,rv⟩:=g4.get hd;exact⟨⟨_,v,SqL.of g3,hv⟩,fun x' H' y=>⟨y.1,by have:=y.2 _ (SqL.of g3);rw[hv]at this;cases this;exact rv⟩⟩
 | _=>exact(stop_ok e).elim
theorem itr_ok {K:PySem.W.Frag}{ι:List Addr}{H:Hp}{lo hi:Int}:ItOk K ι H ⟨none,rngD lo hi⟩ (Itr lo (hi - lo).toNat):=fun ι2 H2 M2 x2 S2 _=>by
 refine⟨fun i d hd=>?_,?_⟩
 ·unfold rngD at hd
  rw[zu]at hd;cases hc:(List.range (hi - lo).toNat)[i]? with
  | none=>rw[hc]at hd;cases hd
  | some c =>
   rw[hc]at hd;cases hd;obtain⟨h1,h2⟩:=zr.mp hc;rw[yz]at h1;rw[xU]at h2;subst h2;refine⟨h1,fun x' H' y=>?_⟩;obtain⟨y1,rfl⟩:=y;exact⟨y1,.int _⟩
 ·show (hi - lo).toNat<=(rngD lo hi).length
  unfold rngD;rw[zz,yz];exact zo _
theorem LI.rng1 {K:PySem.W.Frag}{f:DE}(σ:St)(H:Hp)(R:It->Hp->Prop)(h:LI K (fun ρ=>do
  let x <- f ρ
  (match x with
  | .int i=>do need (small i);pure ⟨none,rngD 0 i⟩
  | _=>Mo.stop)) σ H R):iRng1 (tCons (LE K f) tNil) σ H R:=by
 obtain⟨ι,ρ,M,src,M',S,Rr,e,k⟩:=h;have e0:=bind_ok e;clear e;obtain⟨x,M1,e1,e⟩:=e0;refine⟨ι,ρ,M,x,M1,S,Rr,e1,fun v H1 ι1 r1 S1 X1=>?_⟩;cases r1 with
 | int i =>
  have e0:=bind_ok e;clear e;obtain⟨_,_,e2,e⟩:=e0;have e20:=need_ok e2;clear e2;obtain⟨hn,rfl⟩:=e20;have e0:=pure_ok e;clear e;obtain⟨rfl,rfl⟩:=e0;refine⟨i,rfl,hn.1,hn.2,k _ H1 ι1 S1 X1 ?_⟩
  have:=@itr_ok K ι1 H1 0 i
  rw[Int.sub_zero]at this;exact this
 | _=>exact(stop_ok e).elim
theorem LI.rng2 {K:PySem.W.Frag}{f g:DE}(σ:St)(H:Hp)(R:It->Hp->Prop)(h:LI K (fun ρ=>do
  let x <- f ρ
  let y <- g ρ
  (match x,y with
  | .int i,.int j=>do need (small i/\small j);pure ⟨none,rngD i j⟩
  | _,_=>Mo.stop)) σ H R):iRng2 (tCons (LE K f) (tCons (LE K g) tNil)) σ H R:=by
 obtain⟨ι,ρ,M,src,M',S,Rr,e,k⟩:=h;have e0:=bind_ok e;clear e;obtain⟨x,M1,e1,e⟩:=e0;have e0:=bind_ok e;clear e;obtain⟨y,M2,e2,e⟩:=e0;refine⟨ι,ρ,M,x,M1,S,Rr,e1,fun v H1 ι1 r1 S1 X1=>?_⟩;refine⟨ι1,ρ,M1,y,M2,S1,Rr.mono X1,e2,fun u H2 ι2 r2 S2 X2=>?_⟩;cases r1 with
 | int i =>
  cases r2 with
  | int j =>
   have e0:=bind_ok e;clear e;obtain⟨_,_,e2,e⟩:=e0;have e20:=need_ok e2;clear e2;obtain⟨hn,rfl⟩:=e20;have e0:=pure_ok e;clear e;obtain⟨rfl,rfl⟩:=e0;exact⟨i,j,rfl,⟨hn.1.1,hn.1.2,hn.2.1,hn.2.2⟩,k _ H2 ι2 S2 (X1.trans X2) itr_ok⟩
  | _=>exact(stop_ok e).elim
 | _=>exact(stop_ok e).elim
theorem stand_ok {ck:Option (Nat×List D)}{M M':MH}{u:Unit}(h:stand ck M=some (.ok u,M')):okM ck M/\M'=M:=by
 unfold stand at h;split at h
 ·rename_i hp;cases h;exact⟨hp,rfl⟩
 ·cases h
theorem LS.loop {K:PySem.W.Frag}{i:Nat}{fs:Ev->Mo Src}{fb:Ev->Mo Fl}(D:Ends)(σ:St)(H:Hp)(h:LS K (fun ρ=>do let s <- fs ρ;loopD s.ck i fb s.ds ρ) D σ H):tFor (LI K fs) (gName i) (LS K fb) D σ H:=by
 obtain⟨ι,ρ,M,fl,M',S,R,e,k⟩:=h;have e0:=bind_ok e;clear e;obtain⟨src,M1,e1,e⟩:=e0;refine⟨ι,ρ,M,src,M1,S,R,e1,fun J H1 ι1 S1 X1 hJ=>?_⟩;refine⟨fun j m σ' H'=>m=src.ds.length - j/\j<=src.ds.length/\∃ ι' ρ' M2,Sim K ι' M2 H'/\EnvR K ι' H' ρ' σ'/\Ext K ι1 H1 ι' H'/\loopD src.ck i fb (src.ds.drop j) ρ' M2=some (.ok fl,M'),
  ⟨_,rfl,zO _,ι1,ρ,M1,S1,R.mono X1,Ext.refl,e⟩,?_⟩
 rintro j m σ' H' ⟨rfl,hj,ι',ρ',M2,S2,R2,X2,e2⟩;by_cases hlt:j < src.ds.length
 ·right
  rw[yx hlt]at e2;have e20:=bind_ok e2;clear e2;obtain⟨_,_,e3,e2⟩:=e20;have e30:=stand_ok e3;clear e3;obtain⟨ok,rfl⟩:=e30;have e20:=bind_ok e2;clear e2;obtain⟨f,M3,e3,e2⟩:=e20;obtain⟨go,yld⟩:=(hJ ι' H' _ X2 S2 ok).1 j _ (zv hlt);refine⟨go,fun σ3 H3=>∃ ι3 ρ3 M4,Sim K ι3 M4 H3/\EnvR K ι3 H3 ρ3 σ3/\Ext K ι1 H1 ι3 H3/\loopD src.ck i fb (src.ds.drop (j + 1)) ρ3 M4=some (.ok fl,M'),
   fun σ3 H3 ⟨ι3,ρ3,M4,h1,h2,h3,h4⟩=>⟨src.ds.length - (j + 1),by omega,rfl,hlt,ι3,ρ3,M4,h1,h2,h3,h4⟩,fun x H'' y=>?_⟩
  obtain⟨rfl,rx⟩:=yld x H'' y;refine⟨ι',_,_,f,M3,S2,R2.set rx i,e3,fun H3 ι3 S3 X3=>?_⟩;cases f with
  | nx ρ3=>exact fun σ3 R3=>⟨ι3,ρ3,M3,S3,R3,X2.trans X3,e2⟩
  | ct ρ3=>exact fun σ3 R3=>⟨ι3,ρ3,M3,S3,R3,X2.trans X3,e2⟩
  | bk ρ3 =>
   have e20:=pure_ok e2;clear e2;obtain⟨rfl,rfl⟩:=e20;exact fun σ3 R3=>k H3 ι3 S3 ((X1.trans X2).trans X3) σ3 R3
  | rt v =>
   have e20:=pure_ok e2;clear e2;obtain⟨rfl,rfl⟩:=e20;exact fun v' r'=>k H3 ι3 S3 ((X1.trans X2).trans X3) v' r'
 ·left
  have ej:j=src.ds.length:=by first | lia | omega
  subst ej;rw[ym]at e2;have e20:=bind_ok e2;clear e2;obtain⟨_,_,e3,e2⟩:=e20;have e30:=stand_ok e3;clear e3;obtain⟨ok,rfl⟩:=e30;have e20:=pure_ok e2;clear e2;obtain⟨rfl,rfl⟩:=e20;exact⟨(hJ ι' H' _ X2 S2 ok).2,k H' ι' S2 (X1.trans X2) σ' R2⟩
theorem LE.comp {K:PySem.W.Frag}{j:Nat}{fs:Ev->Mo Src}{fc:Ev->Mo Bool}{fe:DE}(σ:St)(H:Hp)(Q:VK)(h:LE K (fun ρ=>do
  let s <- fs ρ
  need (s.ds.length<=zh)
  let ys <- compD s.ck fc fe (ρ.set j none) s.ds
  newM (.lst ys)) σ H Q):tComp (LI K fs) (gName 0) 1 (LT K fc) (LE K fe) σ H Q:=by
 obtain⟨ι,ρ,M,d,M',S,R,e,k⟩:=h;have e0:=bind_ok e;clear e;obtain⟨src,M1,e1,e⟩:=e0;have e0:=bind_ok e;clear e;obtain⟨_,_,e2,e⟩:=e0;have e20:=need_ok e2;clear e2;obtain⟨hn,rfl⟩:=e20;have e0:=bind_ok e;clear e;obtain⟨all,M2,e2,e⟩:=e0;refine⟨ι,ρ,M,src,_,S,R,e1,fun J H1 ι1 S1 X1 hJ=>?_⟩;refine⟨fun i m ys H'=>m=src.ds.length - i/\i<=src.ds.length/\ys.length<=i/\∃ ι' ds rest M3,Sim K ι' M3 H'/\Ext K ι1 H1 ι' H'/\Reps K ι' H' ds ys/\compD src.ck fc fe (ρ.set j none) (src.ds.drop i) M3=some (.ok rest,M2)/\all=ds++rest,
  ⟨_,rfl,zO _,zo _,ι1,[],all,_,S1,Ext.refl,.nil,e2,rfl⟩,?_⟩
 rintro i m ys H' ⟨rfl,hi,hy,ι',ds,rest,M3,S3,X3,r3,e3,ea⟩;by_cases hlt:i < src.ds.length
 ·right
  rw[yx hlt]at e3;have e30:=bind_ok e3;clear e3;obtain⟨_,_,e4,e3⟩:=e30;have e40:=stand_ok e4;clear e4;obtain⟨ok,rfl⟩:=e40;have e30:=bind_ok e3;clear e3;obtain⟨b,M4,e4,e3⟩:=e30;obtain⟨go,yld⟩:=(hJ ι' H' _ X3 S3 ok).1 i _ (zv hlt);refine⟨go,by omega,fun v H'' os ho y=>?_⟩;obtain⟨rfl,rx⟩:=yld v H'' y;obtain⟨o1,rfl⟩:=List.length_eq_one_iff.mp ho;refine⟨[some v],rfl,rfl,?_⟩;have RR:EnvR K ι' H'' (some src.ds[i]::ρ.set j none) (some v::σ):=((R.mono X1).mono X3).comp rx j;refine⟨ι',_,_,b,M4,S3,RR,e4,fun H4 ι4 S4 X4=>?_⟩;cases b with
  | true =>
   rw[if_pos rfl]at e3 ⊢;have e30:=bind_ok e3;clear e3;obtain⟨y',M5,e5,e3⟩:=e30;have e30:=bind_ok e3;clear e3;obtain⟨ys',M6,e6,e3⟩:=e30;have e30:=pure_ok e3;clear e3;obtain⟨rfl,rfl⟩:=e30;refine⟨ι4,_,_,y',M5,S4,RR.mono X4,e5,fun v5 H5 ι5 r5 S5 X5=>?_⟩;exact⟨src.ds.length - (i + 1),by omega,rfl,hlt,by rw[zp];exact Nat.succ_le_succ hy,ι5,ds++[y'],ys',M5,S5,(X3.trans X4).trans X5,((r3.mono X4).mono X5).append (.cons r5 .nil),e6,by rw[ea,yR];rfl⟩
  | false =>
   rw[if_neg zi]at e3 ⊢;exact⟨src.ds.length - (i + 1),by omega,rfl,hlt,xv hy,ι4,ds,rest,M4,S4,X3.trans X4,r3.mono X4,e3,ea⟩
 ·left
  have ei:i=src.ds.length:=by first | lia | omega
  subst ei;rw[ym]at e3;have e30:=bind_ok e3;clear e3;obtain⟨_,_,e4,e3⟩:=e30;have e40:=stand_ok e4;clear e4;obtain⟨ok,rfl⟩:=e40;have e30:=pure_ok e3;clear e3;obtain⟨rfl,rfl⟩:=e30;rw[zT]at ea;subst ea;refine⟨(hJ ι' H' _ X3 S3 ok).2,by omega,new_list S3 r3 e fun v H5 ι5 r5 S5 X5=>k v H5 ι5 r5 S5 ((X1.trans X3).trans X5)⟩
end
end L3
namespace L3
open PySem PySem.Spec PyProof.Rows L2
section
variable {X:Cx}{pins:List (Addr×Obj)}{σ:St}{H:Hp}{s:Shared}{h':Heap}
structure Young (X:Cx) (pins:List (Addr×Obj)) (a:Addr):Prop where
 lo:X.s₀.heap.objs.size<=a
 fr:a≠X.env.locals
 cl:∀ y c,X.env.cells.lookup y=some c->c≠a
 pn:∀ p∈X.pn++pins,p.1≠a
theorem young_of (I:Inv X pins σ H s){a:Addr}(h:s.heap.objs.size<=a):Young X pins a:=by
 refine⟨zH I.sz h,xp (zJ I.lt h),fun y c e z=>?_,fun p hp z=>?_⟩
 ·obtain⟨v,o,ho,_⟩:=I.cell y c e
  exact absurd (zJ (za ho) (by rw[z];exact h)) (yi _)
 ·exact absurd (zJ (za (I.pin p hp).1) (by rw[z];exact h)) (yi _)
theorem inv_adopt (I:Inv X pins σ H s){a:Addr}{o:HO}(hn:H a=none)(y:Young X pins a)(new:ObjOk X.prog X.w (upd H a o) s.heap a o):Inv X pins σ (upd H a o) s where
 ok:=I.ok
 os:=I.os
 bare:=I.bare
 base:=Un.adopt I.base (xI y.lo) hn
 loc:=I.loc
 cell:=I.cell
 free:=by rw[upd_ne (Ne.symm y.fr)];exact I.free
 freeC:=fun x c e=>by rw[upd_ne (y.cl x c e)];exact I.freeC x c e
 pin:=fun p hp=>by
  obtain⟨h1,h2,h3⟩:=I.pin p hp;exact⟨h1,by rw[upd_ne (y.pn p hp)];exact h2,h3⟩
 hok:=HOk.adopt I.hok hn new
 len:=I.len
theorem turned2 {t':Nat}{a b:Addr}(I:Inv X pins σ H s)(k:∀ c o,c≠a->c≠b->s.heap.get? c=some o->h'.get? c=some o)(fa:FpOk X pins H a)(fb:FpOk X pins H b):Inv X pins σ H { s with heap:=h',toks:=t' }:=by
 obtain⟨a0,a1,_,a3,a4,a5⟩:=fa;obtain⟨b0,b1,_,b3,b4,b5⟩:=fb;have na:∀ c u,H c=some u->c≠a:=fun c u e z=>by rw[z,a0]at e;cases e
 have nb:∀ c u,H c=some u->c≠b:=fun c u e z=>by rw[z,b0]at e;cases e
 have k':∀ c o,c ∉ [a,b]->s.heap.get? c=some o->h'.get? c=some o:=fun c o hc e=>k c o (fun z=>hc (by simp[z])) (fun z=>hc (by simp[z])) e;refine I.step (g':=s.gens) (d':=s.drawn) (ch:=[a,b]) (fun c hc=>?_) (fun c o _ _ hc e _=>k' c o hc e) (fun c o _ _ hc e _=>⟨o.slots,k' c o hc e⟩) (fun _ _ _ _ n=>n)
  (fun c o hc e=>⟨o,k' c o hc e⟩) (fun _ _ e=>e) (fun _ _ _ e=>e) (fun c ps e=>⟨#[],by rw[e];simp⟩) (fun m hm=>?_) (fun c u e=>?_) I.bare
 ·rcases zN.mp hc with rfl | hc
  ·exact⟨a3,a1,a4,a5⟩
  ·rw[zd.mp hc]
   exact⟨b3,b1,b4,b5⟩
 ·obtain⟨o,es,ep,ho,r⟩:=hm
  exact⟨o,es,ep,k _ o (Ne.symm a1) (Ne.symm b1) ho,r⟩
 ·refine(I.hok c u e).stay (fun d v hd q=>?_) (fun _ q=>q) fun _ _ q=>q
  rcases hd with z | z
  ·exact k d v (by rw[z];exact na c u e) (by rw[z];exact nb c u e) q
  ·exact k d v (na d _ z) (nb d _ z) q
end
noncomputable def Ite (K:PySem.W.Frag)(a:Addr):It :=
 ⟨fun i H=>∃ xs x,SqL K H a xs/\xs[i]?=some x,fun i H x H'=>∃ p v,x=.ref p/\H p=none/\H'=upd H p (.tup [.int i,v])/\∀ xs,SqL K H a xs->xs[i]?=some v,fun i H=>∃ xs,SqL K H a xs/\xs.length<=i⟩
theorem turn_enum {P:Program}{w:World}{K:PySem.W.Frag}{es:List Expr}{x1:Nat}{pos:Pos}(a e it:Addr)(ne:e≠it):Turn P w K (.Tuple es x1 pos) (Ite K a) [e,it] e (fun i h=>(∃ old,IsEnum h e it i old)/\h.IsListIter it a i) where
 mem:=by simp
 obj:=fun i h st b hb=>by
  obtain⟨⟨old,he⟩,o,h1,c,d⟩:=st;rcases zN.mp hb with rfl | hb
  ·exact⟨_,he,fun v z=>by cases z⟩
  ·rw[zd.mp hb]
   exact⟨o,h1,fun v z=>by rw[d]at z;cases z⟩
 keep:=fun i h h' st k=>by
  obtain⟨⟨old,he⟩,hi⟩:=st;exact⟨⟨old,k e (by simp) _ he⟩,hi.at fun o q=>k it (by simp) o q⟩
 item:=by
  intro X hP hw hK hc i pins s σ H E I hf st hg;subst hP hw hK;obtain⟨⟨old,he⟩,hi⟩:=st;obtain⟨xs,x,hq,hx⟩:=hg;obtain⟨its,rv,p,hz⟩:=I.list hq;obtain⟨u,hu,ru⟩:=rv.get hx;have fe:=hf e (by simp);have fi:=hf it (by simp);refine wpAny_pyNext_enum_item he hi p.isList (x:=u) (by simpa using hu) ne fun h1 ho hi1 ht hs1 hk=>?_;refine⟨_,rfl,wpAny_letOwnedTupleGo_enum (s:={ s with heap:=h1,toks:=s.toks + 1 }) ho fun h2 he2 sb=>?_⟩;have sb:Heap.SameBut e h1 h2:=sb;have lte:e < s.heap.objs.size:=za he;have keep:∀ c o,c≠e->c≠it->s.heap.get? c=some o->h2.get? c=some o:=fun c o n1 n2 q=>(sb.2 c n1).trans (hk c o n1 n2 q);have I1:Inv X pins σ H { s with heap:=h2,toks:=s.toks + 1 }:=turned2 I keep fe fi;have fr:H s.heap.objs.size=none:=I.hok.fresh (zo _);have ht2:h2.get? s.heap.objs.size=some { cls:=.type "tuple",data:=.seq #[.int i s.toks,u] }:=(sb.2 _ (xp lte)).trans ht;have y:Young X pins s.heap.objs.size:=young_of I (zo _);have I2:Inv X pins σ (upd H s.heap.objs.size (.tup [.int i,x])) { s with heap:=h2,toks:=s.toks + 1 } :=
   inv_adopt I1 fr y ⟨by show 2<=zh;decide,[.int i s.toks,u],.cons ⟨_,rfl⟩ (.cons ru .nil),⟨⟨_,ht2,rfl,0,rfl⟩,fun o q=>by rw[ht2]at q;cases q;exact⟨rfl,rfl⟩⟩⟩
  refine⟨.ref s.heap.objs.size,_,I2,rfl,⟨_,x,rfl,fr,rfl,fun ys hy=>by rw[I.list_inj hy hq];exact hx⟩,⟨⟨u,?_⟩,?_⟩,fun b hb=>?_⟩
  ·have:((i + 1:Nat):Int)=(i:Int) + 1:=by first | lia | omega
   rw[this];exact he2
  ·exact hi1.extBut sb.extBut (Ne.symm ne)
  ·have hbn:H b=none:=(hf b hb).1
   rcases zN.mp hb with rfl | hb
   ·rw[upd_ne (zE lte)];exact hbn
   ·have eb:=zd.mp hb
    subst eb;obtain⟨o,h3,_⟩:=hi;rw[upd_ne (zE (za h3))];exact hbn
 done:=by
  intro X hP hw hK hc i pins s σ H E I hf st hg;subst hP hw hK;obtain⟨⟨old,he⟩,hi⟩:=st;obtain⟨xs,hq,hx⟩:=hg;obtain⟨its,rv,p,hz⟩:=I.list hq;obtain⟨f0,f1,f2,f3,f4,f5⟩:=hf it (by simp);have hl:=rv.length;exact wpAny_pyNext_enum_end (I.ok.hd hc) he hi p.isList (by simp;omega) fun h' eb=>⟨rfl,I.turned (t':=s.toks) (fun b o hb e=>eb b o hb e) f0 f1 f3 f4 f5⟩
 self:=fun _ _ _ _ _ st h=>by
  obtain⟨⟨old,he⟩,hi⟩:=st;exact wpAny_pyIter_enum he h
section
variable {prog:Program}{w:World}{A:Around}{E:Value->Shared->Prop}{s:Shared}
theorem nextOf_tuple_item {it t:Addr}{i:Nat}{items:Array Value}{x:Value}{Q:Value->Shared->Prop}(hit:IsTupIter s.heap it t i)(ht:IsTup s.heap t items)(hx:items[i]?=some x)
  (hQ:∀ h',IsTupIter h' it t (i + 1)->Heap.SameBut it s.heap h'->Q x { s with heap:=h' }):wpAny (model prog w) A (Builtin.SmallTypes.nextOf (.ref it)) Q E s:=by
 obtain⟨o,ho,hc,hd⟩:=id hit;obtain⟨ol,hol,_,nl,hdl⟩:=ht;unfold Builtin.SmallTypes.nextOf;refine zw (wpAny_callSpecial?_slot (name:=Str.ofString "__next__") hit.typeIs slot_tupleiter_next (wpAny_call_entry slot_tupleiter_next hit.typeIs entry_tupleiter_next ?_ (args_tupleiter_next _)));show wpAny _ _ (field (.ref it) 0 >>= _) _ _ s;refine zw (wpAny_field ho hd (x:=.ref t) rfl ?_);show wpAny _ _ (if (Value.ref t==Value.none)=true then _ else _) _ _ s;rw[if_neg (show ¬ ((Value.ref t==Value.none)=true) from zi)];show wpAny _ _ (field (.ref it) 1 >>= _) _ _ s;refine zw (wpAny_field ho hd (x:=.int i 0) rfl ?_);show wpAny _ _ (seqItems? (.ref t) >>= _) _ _ s;refine zw (wpAny_seqItems hol hdl ?_);simp only[xu,hx];refine zw (wpAny_setField ho hd (by simp) (zj ⟨x,rfl,zj (hQ _ ?_ (Heap.SameBut.update ..))⟩));exact⟨_,xw _ ho (Obj.isFreed_of_fields (Obj.data_mapFields hd _)),(Obj.cls_mapFields ..).trans hc,by rw[Obj.data_mapFields hd];simp[rawInt]⟩
theorem nextOf_tuple_end {it t:Addr}{i:Nat}{items:Array Value}{Q:Value->Shared->Prop}(hh:A.handled=none)(hit:IsTupIter s.heap it t i)(ht:IsTup s.heap t items)(hx:items[i]?=none)
  (hE:∀ h' e,Heap.ExtBut it s.heap h'->(∃ o,h'.get? e=some o/\o.cls=.type "StopIteration")->E (.ref e) { s with heap:=h' }):wpAny (model prog w) A (Builtin.SmallTypes.nextOf (.ref it)) Q E s:=by
 obtain⟨o,ho,hc,hd⟩:=id hit;obtain⟨ol,hol,_,nl,hdl⟩:=ht;unfold Builtin.SmallTypes.nextOf;refine zw (wpAny_callSpecial?_slot (name:=Str.ofString "__next__") hit.typeIs slot_tupleiter_next (wpAny_call_entry slot_tupleiter_next hit.typeIs entry_tupleiter_next ?_ (args_tupleiter_next _)));show wpAny _ _ (field (.ref it) 0 >>= _) _ _ s;refine zw (wpAny_field ho hd (x:=.ref t) rfl ?_);show wpAny _ _ (if (Value.ref t==Value.none)=true then _ else _) _ _ s;rw[if_neg (show ¬ ((Value.ref t==Value.none)=true) from zi)];show wpAny _ _ (field (.ref it) 1 >>= _) _ _ s;refine zw (wpAny_field ho hd (x:=.int i 0) rfl ?_);show wpAny _ _ (seqItems? (.ref t) >>= _) _ _ s;refine zw (wpAny_seqItems hol hdl ?_);simp only[xu,hx];refine zw (wpAny_rule (zw (wpAny_setField ho hd (by simp) ?_)));show wpAny _ _ (newExc (.type "StopIteration") [] >>= _) _ _ _;refine zw ?_;simp only[newExc,newTuple];refine zw (wpAny_newObj_type ?_ (by size_fits));refine zw (m:=firstArgMember _ _) (wpAny_of_eq (a:=Value.none) (by first | rfl | (simp only[firstArgMember];rfl)) ?_)
 refine wpAny_newObj_type ?_ (by size_fits);simp only[raiseNew];refine zw (wpAny_handled ?_);first | rw[show A.in1.handled=none from hh] | rw[hh]
 refine zw (zj (wpAny_throw ?_));exact hE _ _ (((Heap.SameBut.update ..).extBut.push _).push _) ⟨_,zR _ rfl,rfl⟩
theorem draws_tup (hh:A.handled=none)(it t:Addr)(hne:t≠it)(items:Array Value):Draws prog w A it [it,t] items.size (fun i v=>items[i]?=some v) (fun i h=>IsTupIter h it t i/\IsTup h t items) where
 live:=fun _ _ st=>let ⟨o,ho,_⟩:=st.1;⟨o,ho⟩
 frame:=fun _ _ _ st hk=>⟨let ⟨o,ho,r⟩:=st.1;⟨o,hk it (by simp) _ ho,r⟩,let ⟨o,ho,r⟩:=st.2;⟨o,hk t (by simp) _ ho,r⟩⟩
 item:=fun i s Q E hi st hQ=>by
  refine nextOf_tuple_item st.1 st.2 (x:=items[i]) (by simp[hi]) fun h' hit' hs'=>?_;exact hQ _ h' s.toks (by simp[hi]) ⟨hit',let ⟨o,ho,r⟩:=st.2;⟨o,hs'.extBut t o hne ho,r⟩⟩ hs'
 done:=fun s Q E st hE=>nextOf_tuple_end hh st.1 st.2 (by simp) hE
end
section
variable {prog:Program}{w:World}{A:Around}{E:Value->Shared->Prop}{s:Shared}
theorem enum_endT {e it t:Addr}{i:Nat}{items:Array Value}{old:Value}{Q:Option Value->Shared->Prop}(hh:A.handled=none)(he:IsEnum s.heap e it i old)(hit:IsTupIter s.heap it t i)(ht:IsTup s.heap t items)(hx:items[i]?=none)
  (hQ:∀ h',Heap.ExtBut it s.heap h'->Q none { s with heap:=h' }):wpAny (model prog w) A (pyNext (.ref e)) Q E s:=by
 have hT:s.TypeIs (.ref e) "enumerate":=⟨_,he,rfl⟩;unfold pyNext;refine zw (wpAny_attempt (wpAny_callSpecial?_slot (name:=Str.ofString "__next__") hT F.slot_enumerate_next (wpAny_call_entry F.slot_enumerate_next hT F.entry_enumerate_next ?_ (F.args_enumerate_next_1 _))));show wpAny _ _ (field (.ref e) 2 >>= _) _ _ _;refine zw (wpAny_field he rfl (x:=.ref it) rfl ?_);refine zw (nextOf_tuple_end hh hit ht hx fun h' x he' hx'=>?_);obtain⟨o,ho,hc⟩:=hx';refine zw (wpAny_isInstance (T:="StopIteration") (b:=true) ⟨o,ho,hc⟩ isSubtype_stop ?_);exact zj (hQ _ he')
theorem meets_enum_newT (l:Addr)(items:Array Value)(n:Nat)(dct:Option Addr)(sl:Array (Option Value)) :
  Meets (Builtin.«enumerate.__new__» ⟨[.type "enumerate",.ref l],[]⟩) (fun _ R s=>s.heap.get? l=some { cls:=.type "tuple",dict:=dct,data:=.seq items n,slots:=sl } /\
   R (.ok (.ret (.ref (s.heap.push { cls:=.type "tuple_iterator",data:=.fields #[.ref l,.int 0 0] }).objs.size)))
    { s with heap:=(s.heap.push { cls:=.type "tuple_iterator",data:=.fields #[.ref l,.int 0 0] }).push { cls:=.type "enumerate",data:=.fields #[.none,.bool false,.ref s.heap.objs.size,rawInt 0,.none,.none] } }) :=
 .of_wp fun prog w A R s h=>by
  obtain⟨hp,g,d,tk,os⟩:=s;obtain⟨hl,h⟩:=h;have hsub:=sub_enumerate;have hL:IsTup (Shared.heap ⟨hp,g,d,tk,os⟩) l items:=⟨_,hl,rfl,n,rfl⟩;wp_walk using AutoSeq1.wpAny_loadPart' hl;refine wpAny_stack_any fun st=>zj ?_;split
  ·rename_i c _ _ _ _ _
   cases (c==Value.type "enumerate")
   ·wp_walk using AutoSeq1.wpAny_loadPart' hl,iter_tuple hL
    exact⟨_,rfl,h⟩
   ·wp_walk using AutoSeq1.wpAny_loadPart' hl,iter_tuple hL
    exact⟨_,rfl,h⟩
  ·wp_walk using AutoSeq1.wpAny_loadPart' hl,iter_tuple hL
   exact⟨_,rfl,h⟩
theorem call_enumerate_tup {l:Addr}{items:Array Value}{Q:Value->Shared->Prop}(hL:IsTup s.heap l items)
  (h:∀ h',IsEnum h' (s.heap.objs.size + 1) s.heap.objs.size 0 .none->IsTupIter h' s.heap.objs.size l 0->h'.objs.size=s.heap.objs.size + 2->(∀ b o,s.heap.get? b=some o->h'.get? b=some o)->Q (.ref (s.heap.objs.size + 1)) { s with heap:=h' }) :
  wpAny (model prog w) A (call (.type "enumerate") [.ref l]) Q E s:=by
 obtain⟨⟨c,dct,dt,sl⟩,hl,hc,n,hd⟩:=hL;replace hc:c=.type "tuple":=hc;replace hd:dt=.seq items n:=hd;subst hc hd;refine callType_new F.called_enumerate (by decide) (F.typeCall_enumerate_1 _) (F.newCall_enumerate_1 _) (fun obj=>F.args_object_init_2 obj _) F.entry_enumerate_new (meets_enum_newT l items n dct sl) ⟨hl,?_⟩;have hz:(s.heap.push { cls:=.type "tuple_iterator",data:=.fields #[.ref l,.int 0 0] }).objs.size=s.heap.objs.size + 1:=xQ ..;show _/\_;rw[hz];have he:IsEnum ((s.heap.push { cls:=.type "tuple_iterator",data:=.fields #[.ref l,.int 0 0] }).push { cls:=.type "enumerate",data:=.fields #[.none,.bool false,.ref s.heap.objs.size,rawInt 0,.none,.none] }) (s.heap.objs.size + 1) s.heap.objs.size 0 .none:=by
  have:=zR (s.heap.push { cls:=.type "tuple_iterator",data:=.fields #[.ref l,.int 0 0] }) (o:={ cls:=.type "enumerate",data:=.fields #[.none,.bool false,.ref s.heap.objs.size,rawInt 0,.none,.none] }) rfl
  rw[hz]at this;exact this
 refine⟨⟨_,he,rfl⟩,h _ he ⟨_,zb _ (zR _ rfl),rfl,rfl⟩ (by rw[xQ,hz]) fun b o x=>zb _ (zb _ x)⟩
end
noncomputable def IteT (K:PySem.W.Frag)(a:Addr):It :=
 ⟨fun i H=>∃ xs x,SqT K H a xs/\xs[i]?=some x,fun i H x H'=>∃ p v,x=.ref p/\H p=none/\H'=upd H p (.tup [.int i,v])/\∀ xs,SqT K H a xs->xs[i]?=some v,fun i H=>∃ xs,SqT K H a xs/\xs.length<=i⟩
theorem turn_enumT {P:Program}{w:World}{K:PySem.W.Frag}{es:List Expr}{x1:Nat}{pos:Pos}(a e it:Addr)(ne:e≠it):Turn P w K (.Tuple es x1 pos) (IteT K a) [e,it] e (fun i h=>(∃ old,IsEnum h e it i old)/\IsTupIter h it a i) where
 mem:=by simp
 obj:=fun i h st b hb=>by
  obtain⟨⟨old,he⟩,o,h1,c,d⟩:=st;rcases zN.mp hb with rfl | hb
  ·exact⟨_,he,fun v z=>by cases z⟩
  ·rw[zd.mp hb]
   exact⟨o,h1,fun v z=>by rw[d]at z;cases z⟩
 keep:=fun i h h' st k=>by
  obtain⟨⟨old,he⟩,o,ho,r⟩:=st;exact⟨⟨old,k e (by simp) _ he⟩,o,k it (by simp) _ ho,r⟩
 item:=by
  intro X hP hw hK hc i pins s σ H E I hf st hg;subst hP hw hK;obtain⟨⟨old,he⟩,hi⟩:=st;obtain⟨xs,x,hq,hx⟩:=hg;obtain⟨its,rv,p,hz⟩:=I.tuple hq;obtain⟨u,hu,ru⟩:=rv.get hx;have fe:=hf e (by simp);have fi:=hf it (by simp);obtain⟨oi,hoi,hci,_⟩:=id hi;obtain⟨op,hop,hcp,_⟩:=id p;have na:a≠it:=fun z=>by
   rw[z,hoi]at hop;cases hop;rw[hci]at hcp;exact absurd hcp (by decide)
  have nae:e≠a:=fun z=>by
   have he':s.heap.get? e=some _:=he;rw[z,hop]at he';cases he';exact absurd hcp (show ¬ (Value.type "enumerate" = Value.type "tuple") by decide)
  have hlt:i < its.toArray.size:=by rw[zf];exact(zr.mp hu).1
  refine wpAny_pyNext_enum_itemD (draws_tup (A:=X.A.in1) (I.ok.hd hc) it a na its.toArray) he ⟨hi,p⟩ hlt ne (by simp[ne,nae]) fun u' h1 tk hp ho hst ht hs1 hk=>?_;have eu:u'=u:=by
   have:its.toArray[i]?=some u:=by simpa using hu
   rw[this]at hp;cases hp;rfl
  subst eu;refine⟨_,rfl,wpAny_letOwnedTupleGo_enum (s:={ s with heap:=h1,toks:=tk + 1 }) ho fun h2 he2 sb=>?_⟩;have sb:Heap.SameBut e h1 h2:=sb;have lte:e < s.heap.objs.size:=za he;have keep:∀ c o,c≠e->c≠it->s.heap.get? c=some o->h2.get? c=some o:=fun c o n1 n2 q=>(sb.2 c n1).trans (hk c o n1 n2 q);have I1:Inv X pins σ H { s with heap:=h2,toks:=tk + 1 }:=turned2 I keep fe fi;have fr:H s.heap.objs.size=none:=I.hok.fresh (zo _);have ht2:h2.get? s.heap.objs.size=some { cls:=.type "tuple",data:=.seq #[.int i tk,u'] }:=(sb.2 _ (xp lte)).trans ht;have y:Young X pins s.heap.objs.size:=young_of I (zo _);have I2:Inv X pins σ (upd H s.heap.objs.size (.tup [.int i,x])) { s with heap:=h2,toks:=tk + 1 } :=
   inv_adopt I1 fr y ⟨by show 2<=zh;decide,[.int i tk,u'],.cons ⟨_,rfl⟩ (.cons ru .nil),⟨⟨_,ht2,rfl,0,rfl⟩,fun o q=>by rw[ht2]at q;cases q;exact⟨rfl,rfl⟩⟩⟩
  refine⟨.ref s.heap.objs.size,_,I2,rfl,⟨_,x,rfl,fr,rfl,fun ys hy=>by rw[I.tuple_inj hy hq];exact hx⟩,⟨⟨u',?_⟩,?_⟩,fun b hb=>?_⟩
  ·have:((i + 1:Nat):Int)=(i:Int) + 1:=by first | lia | omega
   rw[this];exact he2
  ·exact hst.1.extBut sb.extBut (Ne.symm ne)
  ·have hbn:H b=none:=(hf b hb).1
   rcases zN.mp hb with rfl | hb
   ·rw[upd_ne (zE lte)];exact hbn
   ·have eb:=zd.mp hb
    subst eb;rw[upd_ne (zE (za hoi))];exact hbn
 done:=by
  intro X hP hw hK hc i pins s σ H E I hf st hg;subst hP hw hK;obtain⟨⟨old,he⟩,hi⟩:=st;obtain⟨xs,hq,hx⟩:=hg;obtain⟨its,rv,p,hz⟩:=I.tuple hq;obtain⟨f0,f1,f2,f3,f4,f5⟩:=hf it (by simp);have hl:=rv.length;exact enum_endT (I.ok.hd hc) he hi p (by simp;omega) fun h' eb=>⟨rfl,I.turned (t':=s.toks) (fun b o hb e=>eb b o hb e) f0 f1 f3 f4 f5⟩
 self:=fun _ _ _ _ _ st h=>by
  obtain⟨⟨old,he⟩,hi⟩:=st;exact wpAny_pyIter_enum he h
noncomputable def iEnum (K:PySem.W.Frag)(ta:TA):TI:=fun σ H R=>ta σ H fun vs H1=>∃ a,vs=[.ref a]/\(((∃ xs,SqL K H1 a xs)/\R (Ite K a) H1)\/((∃ xs,SqT K H1 a xs)/\R (IteT K a) H1))
theorem pi_enum {X:Cx}{es:List Expr}{x1:Nat}{tp:Pos}{a:Expr}{ta:TA}{p pos:Pos}(hg:Gl X "enumerate")(hm:X.mg "enumerate" = none)(ha:PA X [a] ta)(hs:starEach [a] X.env=[(false,eval a X.env)]:=by rfl):PI X (.Tuple es x1 tp) (.Call (.Name "enumerate" p) [a] [] pos) (iEnum X.K ta):=by
 intro pins s σ H R I h;refine Call_ (ld_blt I hg hm boot_enumerate (PyProof.Rows.callWith_type1 (thn (ha pos pins s σ H _ I h) fun us s1 ⟨vs,H1,I1,r1,q1⟩=>?_) hs rfl));obtain⟨l,e,q⟩:=q1;subst e;cases r1 with
 | cons r rr =>
  cases rr;cases r;rcases q with ⟨⟨xs,hq⟩,q⟩|⟨⟨xs,hq⟩,q⟩
  rotate_left
  ·obtain⟨its,rv,pl,hz⟩:=I1.tuple hq
   refine call_enumerate_tup pl fun h' he hi hsz hk=>?_;have I2:Inv X pins σ H1 { s1 with heap:=h' }:=I1.kept (t':=s1.toks) hk;refine wpAny_pyIter_enum (s:={ s1 with heap:=h' }) he ?_;refine⟨s1.heap.objs.size + 1,[s1.heap.objs.size + 1,s1.heap.objs.size],_,_,H1,rfl,I2,turn_enumT l _ _ (wZ _),⟨⟨_,he⟩,hi⟩,fun b hb=>?_,q⟩;rcases zN.mp hb with rfl | hb
   ·exact I1.fpOk (yQ _) (I1.hok.fresh (yQ _))
   ·rw[zd.mp hb]
    exact I1.fpOk (zo _) (I1.hok.fresh (zo _))
  obtain⟨its,rv,pl,hz⟩:=I1.list hq;refine call_enumerate_list pl.isList fun h' he hi hsz hk=>?_;have I2:Inv X pins σ H1 { s1 with heap:=h' }:=I1.kept (t':=s1.toks) hk;refine wpAny_pyIter_enum (s:={ s1 with heap:=h' }) he ?_;refine⟨s1.heap.objs.size + 1,[s1.heap.objs.size + 1,s1.heap.objs.size],_,_,H1,rfl,I2,turn_enum l _ _ (wZ _),⟨⟨_,he⟩,hi⟩,fun b hb=>?_,q⟩;rcases zN.mp hb with rfl | hb
  ·exact I1.fpOk (yQ _) (I1.hok.fresh (yQ _))
  ·rw[zd.mp hb]
   exact I1.fpOk (zo _) (I1.hok.fresh (zo _))
noncomputable def ItOk2 (K:PySem.W.Frag)(ι:List Addr)(H:Hp)(src:Src)(J:It):Prop:=∀ (ι2:List Addr) (H2:Hp) (M2:MH),Ext K ι H ι2 H2->Sim K ι2 M2 H2->okM src.ck M2 ->
 (∀ (i:Nat) (d:D),src.ds[i]?=some d->J.go i H2/\∀ x H',J.yld i H2 x H'->Sim K ι2 M2 H'/\Ext K ι2 H2 ι2 H'/\Rep K ι2 H' d x)/\J.stop src.ds.length H2
noncomputable def LI2 (K:PySem.W.Frag)(f:Ev->Mo Src):TI:=fun σ H R=>∃ ι ρ M src M',Sim K ι M H/\EnvR K ι H ρ σ/\f ρ M=some (.ok src,M') /\
 ∀ J H' ι',Sim K ι' M' H'->Ext K ι H ι' H'->ItOk2 K ι' H' src J->R J H'
theorem LI2.to {K:PySem.W.Frag}{f:Ev->Mo Src}(σ:St)(H:Hp)(R:It->Hp->Prop)(h:LI2 K f σ H R):LI K f σ H R:=by
 obtain⟨ι,ρ,M,src,M',S,Rr,e,k⟩:=h;refine⟨ι,ρ,M,src,M',S,Rr,e,fun J H' ι' S' X' ok=>k J H' ι' S' X' fun ι2 H2 M2 x2 S2 hk=>?_⟩;obtain⟨h1,h2⟩:=ok ι2 H2 M2 x2 S2 hk;refine⟨fun i d hd=>?_,h2⟩;obtain⟨go,y⟩:=h1 i d hd;refine⟨go,fun x H'' hy=>?_⟩;obtain⟨rfl,r⟩:=y x H'' hy;exact⟨S2,Ext.refl,r⟩
theorem enum_get {ds:List D}{i:Nat}{d:D}(h:(enumD ds)[i]?=some d):∃ x,ds[i]?=some x/\d=.tup [.int i,x]:=by
 unfold enumD at h;rw[wD]at h;obtain⟨x,h1,h2⟩:=zt.mp h;exact⟨x,h1,h2.symm⟩
theorem enum_len {ds:List D}:(enumD ds).length=ds.length:=wO
theorem LI2.enum {K:PySem.W.Frag}{f:DE}(σ:St)(H:Hp)(R:It->Hp->Prop)(h:LI2 K (fun ρ=>do let x <- f ρ;enumS x) σ H R):iEnum K (tCons (LE K f) tNil) σ H R:=by
 obtain⟨ι,ρ,M,src,M',S,Rr,e,k⟩:=h;have e0:=bind_ok e;clear e;obtain⟨x,M1,e1,e⟩:=e0;refine⟨ι,ρ,M,x,M1,S,Rr,e1,fun v H1 ι1 r1 S1 X1=>?_⟩;have key:∀ {a:Addr} {xs:List V} {ds:List D} {ck:Option (Nat×List D)},SqL K H1 a xs->(∀ ι2 H2 M2,Ext K ι1 H1 ι2 H2->Sim K ι2 M2 H2->okM ck M2->∃ ys,SqL K H2 a ys/\Reps K ι2 H2 ds ys)->ItOk2 K ι1 H1 ⟨ck,enumD ds⟩ (Ite K a):=by
  intro a xs ds ck hq hr ι2 H2 M2 x2 S2 ok;obtain⟨ys,hy,r⟩:=hr ι2 H2 M2 x2 S2 ok;refine⟨fun i d hd=>?_,⟨ys,hy,by rw[enum_len,r.length];exact zo _⟩⟩;obtain⟨x,hx,rfl⟩:=enum_get hd;obtain⟨v,hv,rv⟩:=r.get hx;refine⟨⟨ys,v,hy,hv⟩,fun x' H' y=>?_⟩;obtain⟨p,v',rfl,hp,rfl,hz⟩:=y
  have:=hz ys hy
  rw[hv]at this;cases this;have X3:Ext K ι2 H2 ι2 (upd H2 p (.tup [.int i,v])):=Ext.tupN hp;exact⟨S2.tupN hp,X3,.tup upd_same (.cons (.int _) (.cons (rv.mono X3) .nil))⟩
 cases r1 with
 | fl t q =>
  have e0:=pure_ok e;clear e;obtain⟨rfl,rfl⟩:=e0;exact⟨_,rfl,.inl ⟨⟨_,t.seq⟩,k _ H1 ι1 S1 X1 (key t.seq fun ι2 H2 M2 x2 S2 _=>⟨_,(x2.fz _ _ t).seq,q.mono x2⟩)⟩⟩
 | tup t q =>
  have e0:=pure_ok e;clear e;obtain⟨rfl,rfl⟩:=e0;refine⟨_,rfl,.inr ⟨⟨_,sqt t⟩,k _ H1 ι1 S1 X1 fun ι2 H2 M2 x2 S2 _=>?_⟩⟩;have hy:=sqt (K:=K) (x2.tup _ _ t);have r:=q.mono x2;refine⟨fun i d hd=>?_,⟨_,hy,by rw[enum_len,r.length];exact zo _⟩⟩;obtain⟨x,hx,rfl⟩:=enum_get hd;obtain⟨v,hv,rv⟩:=r.get hx;refine⟨⟨_,v,hy,hv⟩,fun x' H' y=>?_⟩;obtain⟨p,v',rfl,hp,rfl,hz⟩:=y
  have:=hz _ hy
  rw[hv]at this;cases this;have X3:Ext K ι2 H2 ι2 (upd H2 p (.tup [.int i,v])):=Ext.tupN hp;exact⟨S2.tupN hp,X3,.tup upd_same (.cons (.int _) (.cons (rv.mono X3) .nil))⟩
 | ob t =>
  have e0:=bind_ok e;clear e;obtain⟨ds,M2,e2,e⟩:=e0;obtain⟨g,rfl⟩:=getL_ok e2;have e0:=pure_ok e;clear e;obtain⟨rfl,rfl⟩:=e0;obtain⟨a,vs,h1,h2,h3,h4⟩:=sim_list S1 (.ob t) g;cases h1;refine⟨_,rfl,.inl ⟨⟨_,SqL.of h3⟩,k _ H1 ι1 S1 X1 (key (SqL.of h3) fun ι2 H2 M2 x2 S2 ok=>?_)⟩⟩;have ok':M2[_]?=some (MO.lst ds):=ok;obtain⟨a2,vs2,g1,g2,g3,g4⟩:=sim_list S2 (.ob (x2.pre _ _ h2)) ok';cases g1;exact⟨_,SqL.of g3,g4⟩
 | _=>exact(stop_ok e).elim
theorem pairD_eq {d:D}{p:D×D}(h:pairD d=some p):d=.tup [p.1,p.2]:=by
 unfold pairD at h;split at h
 ·cases h;rfl
 ·cases h
theorem LS.lpair {K:PySem.W.Frag}{i j:Nat}{fs:Ev->Mo Src}{fb:Ev->Mo Fl}(D:Ends)(σ:St)(H:Hp)(h:LS K (fun ρ=>do let s <- fs ρ;loopP s.ck i j fb s.ds ρ) D σ H):tFor (LI2 K fs) (gTup K 2 (gCons (gName i) (gCons (gName j) gNil))) (LS K fb) D σ H:=by
 obtain⟨ι,ρ,M,fl,M',S,R,e,k⟩:=h;have e0:=bind_ok e;clear e;obtain⟨src,M1,e1,e⟩:=e0;refine⟨ι,ρ,M,src,M1,S,R,e1,fun J H1 ι1 S1 X1 hJ=>?_⟩;refine⟨fun n m σ' H'=>m=src.ds.length - n/\n<=src.ds.length/\∃ ι' ρ' M2,Sim K ι' M2 H'/\EnvR K ι' H' ρ' σ'/\Ext K ι1 H1 ι' H'/\loopP src.ck i j fb (src.ds.drop n) ρ' M2=some (.ok fl,M'),
  ⟨_,rfl,zO _,ι1,ρ,M1,S1,R.mono X1,Ext.refl,e⟩,?_⟩
 rintro n m σ' H' ⟨rfl,hj,ι',ρ',M2,S2,R2,X2,e2⟩;by_cases hlt:n < src.ds.length
 ·right
  rw[yx hlt]at e2;have e20:=bind_ok e2;clear e2;obtain⟨_,_,e3,e2⟩:=e20;have e30:=stand_ok e3;clear e3;obtain⟨ok,rfl⟩:=e30;have e20:=bind_ok e2;clear e2;obtain⟨pr,_,e3,e2⟩:=e20;have e30:=lift_ok e3;clear e3;obtain⟨hpr,rfl⟩:=e30;have e20:=bind_ok e2;clear e2;obtain⟨f,M3,e3,e2⟩:=e20;obtain⟨go,yld⟩:=(hJ ι' H' _ X2 S2 ok).1 n _ (zv hlt);refine⟨go,fun σ3 H3=>∃ ι3 ρ3 M4,Sim K ι3 M4 H3/\EnvR K ι3 H3 ρ3 σ3/\Ext K ι1 H1 ι3 H3/\loopP src.ck i j fb (src.ds.drop (n + 1)) ρ3 M4=some (.ok fl,M'),
   fun σ3 H3 ⟨ι3,ρ3,M4,h1,h2,h3,h4⟩=>⟨src.ds.length - (n + 1),by omega,rfl,hlt,ι3,ρ3,M4,h1,h2,h3,h4⟩,fun x H'' y=>?_⟩
  obtain⟨S5,X5,rx⟩:=yld x H'' y;rw[pairD_eq hpr]at rx;cases rx with
  | tup t q =>
   cases q with
   | cons q1 q2 =>
    cases q2 with
    | cons q2 q3 =>
     cases q3;refine⟨_,_,rfl,sqt t,rfl,_,_,rfl,_,_,rfl,rfl,?_⟩;refine⟨ι',_,_,f,M3,S5,((R2.mono X5).set q1 i).set q2 j,e3,fun H3 ι3 S3 X3=>?_⟩;have X6:=X2.trans (X5.trans X3);cases f with
     | nx ρ3=>exact fun σ3 R3=>⟨ι3,ρ3,M3,S3,R3,X6,e2⟩
     | ct ρ3=>exact fun σ3 R3=>⟨ι3,ρ3,M3,S3,R3,X6,e2⟩
     | bk ρ3 =>
      have e20:=pure_ok e2;clear e2;obtain⟨rfl,rfl⟩:=e20;exact fun σ3 R3=>k H3 ι3 S3 (X1.trans X6) σ3 R3
     | rt v =>
      have e20:=pure_ok e2;clear e2;obtain⟨rfl,rfl⟩:=e20;exact fun v' r'=>k H3 ι3 S3 (X1.trans X6) v' r'
 ·left
  have ej:n=src.ds.length:=by first | lia | omega
  subst ej;rw[ym]at e2;have e20:=bind_ok e2;clear e2;obtain⟨_,_,e3,e2⟩:=e20;have e30:=stand_ok e3;clear e3;obtain⟨ok,rfl⟩:=e30;have e20:=pure_ok e2;clear e2;obtain⟨rfl,rfl⟩:=e20;exact⟨(hJ ι' H' _ X2 S2 ok).2,k H' ι' S2 (X1.trans X2) σ' R2⟩
end L3
namespace L3
open PySem PySem.Spec PyProof.Rows L2
structure Sound (Γ:Ctx) (n:Nat):Prop where
 E:∀ (S:Sc) (X:Cx) (e:Expr) (i:IE),CxOk Γ S X->cE S n e=some i->PE X e (LE X.K (semE Γ i))
 Es:∀ (S:Sc) (X:Cx) (es:List Expr) (i:IEs),CxOk Γ S X->cEs S n es=some i->PA X es (LA X.K (semEs Γ i))/\es.all plainE=true
 O:∀ (S:Sc) (X:Cx) (e:Option Expr) (i:IEo),CxOk Γ S X->cO S n e=some i->PO X e (LO X.K (semO Γ i))
 T:∀ (S:Sc) (X:Cx) (tg e:Expr) (i:IT),CxOk Γ S X->cT S n e=some i->PI X tg e (LI X.K (semT Γ i))/\∀ x,foldedSetIterable e X.env x=pure x
 C:∀ (S:Sc) (X:Cx) (e:Expr) (i:IC),CxOk Γ S X->cC S n e=some i->PT X e (LT X.K (semC Γ i))
 Co:∀ (S:Sc) (X:Cx) (e:List Expr) (i:ICo),CxOk Γ S X->cCo S n e=some i->PTs X e (LT X.K (semCo Γ i))
section
variable {Γ:Ctx}{n:Nat}{K:PySem.W.Frag}
theorem obind {α β:Type}{o:Option α}{f:α->Option β}{b:β}(h:(o >>= f)=some b):∃ a,o=some a/\f a=some b:=by
 cases o with
 | none=>cases h
 | some a=>exact⟨a,rfl,h⟩
theorem varD_ok {ρ:Ev}{i:Nat}{M M':MH}{d:D}(e:varD ρ i M=some (.ok d,M')):ρ[i]?=some (some d)/\M'=M:=by
 unfold varD at e;cases q:ρ[i]? with
 | none=>rw[q]at e;exact(stop_ok e).elim
 | some o =>
  cases o with
  | none=>rw[q]at e;exact(stop_ok e).elim
  | some d'=>rw[q]at e;cases e;exact⟨rfl,rfl⟩
theorem LE.var {i:Nat}(σ:St)(H:Hp)(Q:VK)(h:LE K (semE Γ (.var i)) σ H Q):tVar i σ H Q:=by
 obtain⟨ι,ρ,M,d,M',S,R,e,k⟩:=h;have e:varD ρ i M=some (.ok d,M'):=e;obtain⟨hd,rfl⟩:=varD_ok e;obtain⟨v,hv,rv⟩:=R.val i d hd;exact⟨v,hv,k v H ι rv S Ext.refl⟩
theorem LE.const {d:D}{v:V}(hv:∀ ι H,Rep K ι H d v)(σ:St)(H:Hp)(Q:VK)(h:LE K (fun _=>pure d) σ H Q):tC v σ H Q:=by
 obtain⟨ι,ρ,M,d',M',S,R,e,k⟩:=h;have e0:=pure_ok e;clear e;obtain⟨rfl,rfl⟩:=e0;exact k v H ι (hv ι H) S Ext.refl
theorem LE.chain {op op':CmpOp}{fa fb fc:DE}(σ:St)(H:Hp)(Q:VK)(h:LE K (fun ρ=>do
  let x <- fa ρ
  let y <- fb ρ
  let k <- cmpD op x y
  if k=true then do let z <- fc ρ;let k' <- cmpD op' y z;pure (.bl k') else pure (.bl false)) σ H Q):tChain (R2S K (gCmp op)) (R2S K (gCmp op')) (LE K fa) (LE K fb) (LE K fc) σ H Q:=by
 obtain⟨ι,ρ,M,d,M',S,R,e,k⟩:=h;have e0:=bind_ok e;clear e;obtain⟨x,M1,e1,e⟩:=e0;have e0:=bind_ok e;clear e;obtain⟨y,M2,e2,e⟩:=e0;have e0:=bind_ok e;clear e;obtain⟨b,M3,e3,e⟩:=e0;refine⟨ι,ρ,M,x,M1,S,R,e1,fun v1 H1 ι1 r1 S1 X1=>?_⟩;refine⟨ι1,ρ,M1,y,M2,S1,R.mono X1,e2,fun v2 H2 ι2 r2 S2 X2=>?_⟩;refine⟨ι2,M2,M3,x,y,.bl b,S2,r1.mono X2,r2,by unfold gCmp;rw[ok_bind e3];rfl,fun v3 H3 ι3 r3 S3 X3=>?_⟩;cases r3;refine⟨b,rfl,?_⟩;cases b with
 | true =>
  rw[if_pos rfl]at e ⊢;have e0:=bind_ok e;clear e;obtain⟨z,M4,e4,e⟩:=e0;have e0:=bind_ok e;clear e;obtain⟨b',M5,e5,e⟩:=e0;refine⟨ι3,ρ,M3,z,M4,S3,((R.mono X1).mono X2).mono X3,e4,fun v4 H4 ι4 r4 S4 X4=>?_⟩;have e0:=pure_ok e;clear e;obtain⟨rfl,rfl⟩:=e0;exact⟨ι4,M4,_,y,z,.bl b',S4,(r2.mono X3).mono X4,r4,by unfold gCmp;rw[ok_bind e5];rfl,fun v5 H5 ι5 r5 S5 X5=>k v5 H5 ι5 r5 S5 ((((X1.trans X2).trans X3).trans X4).trans X5)⟩
 | false =>
  rw[if_neg zi]at e ⊢;have e0:=pure_ok e;clear e;obtain⟨rfl,rfl⟩:=e0;exact k _ H3 ι3 (.bl _) S3 ((X1.trans X2).trans X3)
theorem LE.and {fa fb:DE}(σ:St)(H:Hp)(Q:VK)(h:LE K (fun ρ=>do let x <- fa ρ;let k <- lift (boolD x);if k=true then fb ρ else pure (.bl false)) σ H Q):tAndV (LE K fa) (LE K fb) σ H Q:=by
 obtain⟨ι,ρ,M,d,M',S,R,e,k⟩:=h;have e0:=bind_ok e;clear e;obtain⟨x,M1,e1,e⟩:=e0;have e0:=bind_ok e;clear e;obtain⟨b,M2,e2,e⟩:=e0;have e20:=lift_ok e2;clear e2;obtain⟨hb,rfl⟩:=e20;refine⟨ι,ρ,M,x,_,S,R,e1,fun v1 H1 ι1 r1 S1 X1=>?_⟩;cases r1 <;> simp[boolD]at hb;subst hb;refine⟨_,rfl,?_⟩;split at e
 ·rename_i hb
  rw[if_pos hb];exact⟨ι1,ρ,_,d,M',S1,R.mono X1,e,fun v H' ι' r' S' X'=>k v H' ι' r' S' (X1.trans X')⟩
 ·rename_i hb
  rw[if_neg hb];have e0:=pure_ok e;clear e;obtain⟨rfl,rfl⟩:=e0;exact k _ H1 ι1 (.bl _) S1 X1
theorem LE.or {fa fb:DE}(σ:St)(H:Hp)(Q:VK)(h:LE K (fun ρ=>do let x <- fa ρ;let k <- lift (boolD x);if k=true then pure (.bl true) else fb ρ) σ H Q):tOrV (LE K fa) (LE K fb) σ H Q:=by
 obtain⟨ι,ρ,M,d,M',S,R,e,k⟩:=h;have e0:=bind_ok e;clear e;obtain⟨x,M1,e1,e⟩:=e0;have e0:=bind_ok e;clear e;obtain⟨b,M2,e2,e⟩:=e0;have e20:=lift_ok e2;clear e2;obtain⟨hb,rfl⟩:=e20;refine⟨ι,ρ,M,x,_,S,R,e1,fun v1 H1 ι1 r1 S1 X1=>?_⟩;cases r1 <;> simp[boolD]at hb;subst hb;refine⟨_,rfl,?_⟩;split at e
 ·rename_i hb
  rw[if_pos hb];have e0:=pure_ok e;clear e;obtain⟨rfl,rfl⟩:=e0;exact k _ H1 ι1 (.bl _) S1 X1
 ·rename_i hb
  rw[if_neg hb];exact⟨ι1,ρ,_,d,M',S1,R.mono X1,e,fun v H' ι' r' S' X'=>k v H' ι' r' S' (X1.trans X')⟩
theorem LE.not {fa:DE}(σ:St)(H:Hp)(Q:VK)(h:LE K (fun ρ=>do let x <- fa ρ;let k <- lift (boolD x);pure (.bl (!k))) σ H Q):tNotV (LE K fa) σ H Q:=by
 obtain⟨ι,ρ,M,d,M',S,R,e,k⟩:=h;have e0:=bind_ok e;clear e;obtain⟨x,M1,e1,e⟩:=e0;have e0:=bind_ok e;clear e;obtain⟨b,M2,e2,e⟩:=e0;have e20:=lift_ok e2;clear e2;obtain⟨hb,rfl⟩:=e20;have e0:=pure_ok e;clear e;obtain⟨rfl,rfl⟩:=e0;refine⟨ι,ρ,M,x,_,S,R,e1,fun v1 H1 ι1 r1 S1 X1=>?_⟩;cases r1 <;> simp[boolD]at hb;subst hb;exact⟨_,rfl,k _ H1 ι1 (.bl _) S1 X1⟩
theorem LE.ite {fc:Ev->Mo Bool}{fa fb:DE}(σ:St)(H:Hp)(Q:VK)(h:LE K (fun ρ=>do let k <- fc ρ;if k=true then fa ρ else fb ρ) σ H Q):tIf (LT K fc) (LE K fa) (LE K fb) σ H Q:=by
 obtain⟨ι,ρ,M,d,M',S,R,e,k⟩:=h;have e0:=bind_ok e;clear e;obtain⟨b,M1,e1,e⟩:=e0;refine⟨ι,ρ,M,b,M1,S,R,e1,fun H1 ι1 S1 X1=>?_⟩;split at e
 ·rename_i hb
  rw[if_pos hb];exact⟨ι1,ρ,_,d,M',S1,R.mono X1,e,fun v H' ι' r' S' X'=>k v H' ι' r' S' (X1.trans X')⟩
 ·rename_i hb
  rw[if_neg hb];exact⟨ι1,ρ,_,d,M',S1,R.mono X1,e,fun v H' ι' r' S' X'=>k v H' ι' r' S' (X1.trans X')⟩
theorem LE.tup {fa:Ev->Mo (List D)}(σ:St)(H:Hp)(Q:VK)(h:LE K (fun ρ=>do let xs <- fa ρ;need (xs.length<=zh);pure (.tup xs)) σ H Q):tTup (LA K fa) σ H Q:=by
 obtain⟨ι,ρ,M,d,M',S,R,e,k⟩:=h;have e0:=bind_ok e;clear e;obtain⟨xs,M1,e1,e⟩:=e0;have e0:=bind_ok e;clear e;obtain⟨_,_,e2,e⟩:=e0;have e20:=need_ok e2;clear e2;obtain⟨hn,rfl⟩:=e20;have e0:=pure_ok e;clear e;obtain⟨rfl,rfl⟩:=e0;refine⟨ι,ρ,M,xs,_,S,R,e1,fun vs H1 ι1 r1 S1 X1=>⟨by rw[<- r1.length];exact hn,new_tup S1 r1 fun v H' ι' r' S' X'=>k v H' ι' r' S' (X1.trans X')⟩⟩
theorem LE.lst {fa:Ev->Mo (List D)}(σ:St)(H:Hp)(Q:VK)(h:LE K (fun ρ=>do let xs <- fa ρ;need (xs.length<=zh);newM (.lst xs)) σ H Q):tLst (LA K fa) σ H Q:=by
 obtain⟨ι,ρ,M,d,M',S,R,e,k⟩:=h;have e0:=bind_ok e;clear e;obtain⟨xs,M1,e1,e⟩:=e0;have e0:=bind_ok e;clear e;obtain⟨_,_,e2,e⟩:=e0;have e20:=need_ok e2;clear e2;obtain⟨hn,rfl⟩:=e20;refine⟨ι,ρ,M,xs,_,S,R,e1,fun vs H1 ι1 r1 S1 X1=>⟨by rw[<- r1.length];exact hn,new_list S1 r1 e fun v H' ι' r' S' X'=>k v H' ι' r' S' (X1.trans X')⟩⟩
theorem LE.dic (σ:St)(H:Hp)(Q:VK)(h:LE K (fun _=>newM (.dic [])) σ H Q):tDNewK σ H Q:=by
 obtain⟨ι,ρ,M,d,M',S,R,e,k⟩:=h;intro p hp;have e0:=newM_ok e;clear e;obtain⟨rfl,rfl⟩:=e0;exact k _ _ (ι++[p]) (.ob (by rw[<- S.len,zL (zo _),yZ];rfl)) (S.new hp ⟨[],rfl,.nil⟩) (Ext.new hp)
theorem LE.dtt (σ:St)(H:Hp)(Q:VK)(h:LE K (fun _=>newM (.dtt [])) σ H Q):tDNewTT σ H Q:=by
 obtain⟨ι,ρ,M,d,M',S,R,e,k⟩:=h;intro p hp;have e0:=newM_ok e;clear e;obtain⟨rfl,rfl⟩:=e0;exact k _ _ (ι++[p]) (.ob (by rw[<- S.len,zL (zo _),yZ];rfl)) (S.new hp ⟨[],rfl,.nil⟩) (Ext.new hp)
theorem LE.slc {fa:DE}{fl fh:Ev->Mo (Option Int)}(σ:St)(H:Hp)(Q:VK)(h:LE K (fun ρ=>do let x <- fa ρ;let l <- fl ρ;let h <- fh ρ;sliceD x l h) σ H Q):tSl (RSl K) (LE K fa) (LO K fl) (LO K fh) σ H Q:=by
 obtain⟨ι,ρ,M,d,M',S,R,e,k⟩:=h;have e0:=bind_ok e;clear e;obtain⟨x,M1,e1,e⟩:=e0;have e0:=bind_ok e;clear e;obtain⟨l,M2,e2,e⟩:=e0;have e0:=bind_ok e;clear e;obtain⟨r,M3,e3,e⟩:=e0;refine⟨ι,ρ,M,x,M1,S,R,e1,fun v1 H1 ι1 r1 S1 X1=>?_⟩;refine⟨ι1,ρ,M1,l,M2,S1,R.mono X1,e2,fun H2 ι2 S2 X2=>?_⟩;refine⟨ι2,ρ,M2,r,M3,S2,(R.mono X1).mono X2,e3,fun H3 ι3 S3 X3=>?_⟩;exact⟨ι3,M3,M',x,d,S3,(r1.mono X2).mono X3,e,fun v H' ι' r' S' X'=>k v H' ι' r' S' (((X1.trans X2).trans X3).trans X')⟩
theorem LE.call {fa:Ev->Mo (List D)}{g:List D->Mo D}{m:Nat}(σ:St)(H:Hp)(Q:VK)(hm:∀ ds M d M',g ds M=some (.ok d,M')->ds.length=m)(h:LE K (fun ρ=>do let xs <- fa ρ;g xs) σ H Q):tCall (spOf K m g) [] E0 (LA K fa) σ H Q:=by
 obtain⟨ι,ρ,M,d,M',S,R,e,k⟩:=h;have e0:=bind_ok e;clear e;obtain⟨xs,M1,e1,e⟩:=e0;refine⟨ι,ρ,M,xs,M1,S,R,e1,fun vs H1 ι1 r1 S1 X1=>?_⟩;show spOf K m g (vs++[]) H1 Q E0;rw[zT];exact⟨by rw[<- r1.length];exact hm _ _ _ _ e,ι1,M1,M',xs,d,S1,r1,e,fun v H' ι' r' S' X'=>k v H' ι' r' S' (X1.trans X')⟩
theorem LE.blt {fa:Ev->Mo (List D)}{g:List D->Mo D}(σ:St)(H:Hp)(Q:VK)(h:LE K (fun ρ=>do let xs <- fa ρ;g xs) σ H Q):tCB (RLS K g) (LA K fa) σ H Q:=by
 obtain⟨ι,ρ,M,d,M',S,R,e,k⟩:=h;have e0:=bind_ok e;clear e;obtain⟨xs,M1,e1,e⟩:=e0;refine⟨ι,ρ,M,xs,M1,S,R,e1,fun vs H1 ι1 r1 S1 X1=>?_⟩;exact⟨ι1,M1,M',xs,d,S1,r1,e,fun v H' ι' r' S' X'=>k v H' ι' r' S' (X1.trans X')⟩
theorem LA.nil (σ:St)(H:Hp)(Q:List V->Hp->Prop)(h:LA K (fun _=>pure []) σ H Q):tNil σ H Q:=by
 obtain⟨ι,ρ,M,d,M',S,R,e,k⟩:=h;have e0:=pure_ok e;clear e;obtain⟨rfl,rfl⟩:=e0;exact k [] H ι .nil S Ext.refl
theorem LA.cons {fa:DE}{fs:Ev->Mo (List D)}(σ:St)(H:Hp)(Q:List V->Hp->Prop)(h:LA K (fun ρ=>do let x <- fa ρ;let xs <- fs ρ;pure (x::xs)) σ H Q):tCons (LE K fa) (LA K fs) σ H Q:=by
 obtain⟨ι,ρ,M,d,M',S,R,e,k⟩:=h;have e0:=bind_ok e;clear e;obtain⟨x,M1,e1,e⟩:=e0;have e0:=bind_ok e;clear e;obtain⟨xs,M2,e2,e⟩:=e0;have e0:=pure_ok e;clear e;obtain⟨rfl,rfl⟩:=e0;refine⟨ι,ρ,M,x,M1,S,R,e1,fun v1 H1 ι1 r1 S1 X1=>?_⟩;exact⟨ι1,ρ,M1,xs,_,S1,R.mono X1,e2,fun vs H2 ι2 r2 S2 X2=>k _ H2 ι2 (.cons (r1.mono X2) r2) S2 (X1.trans X2)⟩
theorem LO.none (σ:St)(H:Hp)(Q:Option Int->Hp->Prop)(h:LO K (fun _=>pure Option.none) σ H Q):tNoPart σ H Q:=by
 obtain⟨ι,ρ,M,d,M',S,R,e,k⟩:=h;have e0:=pure_ok e;clear e;obtain⟨rfl,rfl⟩:=e0;exact k H ι S Ext.refl
theorem LO.some {fa:DE}(σ:St)(H:Hp)(Q:Option Int->Hp->Prop)(h:LO K (fun ρ=>do
  let x <- fa ρ
  (match x with
  | .int i=>pure (Option.some i)
  | _=>Mo.stop)) σ H Q):tPart (LE K fa) σ H Q:=by
 obtain⟨ι,ρ,M,d,M',S,R,e,k⟩:=h;have e0:=bind_ok e;clear e;obtain⟨x,M1,e1,e⟩:=e0;refine⟨ι,ρ,M,x,M1,S,R,e1,fun v1 H1 ι1 r1 S1 X1=>?_⟩;cases r1 with
 | int i=>have e0:=pure_ok e;clear e;obtain⟨rfl,rfl⟩:=e0;exact⟨i,rfl,k H1 ι1 S1 X1⟩
 | _=>exact(stop_ok e).elim
theorem LT.test {fa:DE}(σ:St)(H:Hp)(Q:Bool->Hp->Prop)(h:LT K (fun ρ=>do let x <- fa ρ;lift (boolD x)) σ H Q):tTest (LE K fa) σ H Q:=by
 obtain⟨ι,ρ,M,b,M',S,R,e,k⟩:=h;have e0:=bind_ok e;clear e;obtain⟨x,M1,e1,e⟩:=e0;have e0:=lift_ok e;clear e;obtain⟨hb,rfl⟩:=e0;refine⟨ι,ρ,M,x,_,S,R,e1,fun v1 H1 ι1 r1 S1 X1=>?_⟩;cases r1 <;> simp[boolD]at hb;subst hb;exact⟨_,rfl,k H1 ι1 S1 X1⟩
theorem LT.not {fa:Ev->Mo Bool}(σ:St)(H:Hp)(Q:Bool->Hp->Prop)(h:LT K (fun ρ=>do let k <- fa ρ;pure (!k)) σ H Q):tNot (LT K fa) σ H Q:=by
 obtain⟨ι,ρ,M,b,M',S,R,e,k⟩:=h;have e0:=bind_ok e;clear e;obtain⟨x,M1,e1,e⟩:=e0;have e0:=pure_ok e;clear e;obtain⟨rfl,rfl⟩:=e0;exact⟨ι,ρ,M,x,_,S,R,e1,fun H1 ι1 S1 X1=>k H1 ι1 S1 X1⟩
theorem LT.and {fa fb:Ev->Mo Bool}(σ:St)(H:Hp)(Q:Bool->Hp->Prop)(h:LT K (fun ρ=>do let k <- fa ρ;if k=true then fb ρ else pure false) σ H Q):tAnd (LT K fa) (LT K fb) σ H Q:=by
 obtain⟨ι,ρ,M,b,M',S,R,e,k⟩:=h;have e0:=bind_ok e;clear e;obtain⟨x,M1,e1,e⟩:=e0;refine⟨ι,ρ,M,x,M1,S,R,e1,fun H1 ι1 S1 X1=>?_⟩;split at e
 ·rename_i hb
  rw[if_pos hb];exact⟨ι1,ρ,_,b,M',S1,R.mono X1,e,fun H' ι' S' X'=>k H' ι' S' (X1.trans X')⟩
 ·rename_i hb
  rw[if_neg hb];have e0:=pure_ok e;clear e;obtain⟨rfl,rfl⟩:=e0;exact k H1 ι1 S1 X1
theorem LT.or {fa fb:Ev->Mo Bool}(σ:St)(H:Hp)(Q:Bool->Hp->Prop)(h:LT K (fun ρ=>do let k <- fa ρ;if k=true then pure true else fb ρ) σ H Q):tOr (LT K fa) (LT K fb) σ H Q:=by
 obtain⟨ι,ρ,M,b,M',S,R,e,k⟩:=h;have e0:=bind_ok e;clear e;obtain⟨x,M1,e1,e⟩:=e0;refine⟨ι,ρ,M,x,M1,S,R,e1,fun H1 ι1 S1 X1=>?_⟩;split at e
 ·rename_i hb
  rw[if_pos hb];have e0:=pure_ok e;clear e;obtain⟨rfl,rfl⟩:=e0;exact k H1 ι1 S1 X1
 ·rename_i hb
  rw[if_neg hb];exact⟨ι1,ρ,_,b,M',S1,R.mono X1,e,fun H' ι' S' X'=>k H' ι' S' (X1.trans X')⟩
theorem pt_tru {X:Cx}{a:Expr}{fa:DE}(ha:PE X a (LE X.K fa))(he:∀ whole,isTrue a X.env whole=(do let v <- whole;standAt a.pos;holding [v] (truthy v))):PT X a (LT X.K fun ρ=>do let x <- fa ρ;truD x):=by
 intro pins s σ H Q I h;obtain⟨ι,ρ,M,b,M',S,R,e,k⟩:=h;have e0:=bind_ok e;clear e;obtain⟨x,M1,e1,e⟩:=e0;refine isTrue_plain (thn (ha pins s σ H (fun v H1=>∃ ι M M' d b,Sim X.K ι M H1/\Rep X.K ι H1 d v/\truD d M=some (.ok b,M')/\(M'=M->Q b H1)) I ⟨ι,ρ,M,x,M1,S,R,e1,fun v1 H1 ι1 r1 S1 X1=>⟨ι1,M1,M',x,b,S1,r1,e,fun z=>by subst z;exact k H1 ι1 S1 X1⟩⟩) fun v s1 ⟨x,H1,I1,r1,q1⟩=>tru_all pins s1 σ H1 x v Q I1 r1 q1) (he _)
end
end L3
namespace L3
open PySem PySem.Spec PyProof.Rows L2
section
variable {Γ:Ctx}{n:Nat}
theorem mem_of_contains {x:Str}{l:List Str}(h:l.contains x=true):x∈l:=by simpa using h
noncomputable def clOf (cells:List (Str×Addr)):List (Str×NameKind)->List (Str×Addr)->List (Str×Addr)
 | [],acc=>acc
 | p::r,acc=>clOf cells r (if p.2==.free then (p.1,(cells.lookup p.1).getD 0)::acc else acc)
theorem clOf_look {cells:List (Str×Addr)}{y:Str}{c:Addr}:∀ {names:List (Str×NameKind)} {acc:List (Str×Addr)},(∀ p∈names,p.2=.free->∃ c,cells.lookup p.1=some c)->(acc.lookup y=some c->cells.lookup y=some c) ->
  (clOf cells names acc).lookup y=some c->cells.lookup y=some c
 | [],acc,_,ha,h=>ha h
 | p::r,acc,hf,ha,h=>by
  unfold clOf at h;refine clOf_look (names:=r) (fun q hq=>hf q (zK _ hq)) (fun h'=>?_) h;by_cases hp:p.2=.free
  ·rw[if_pos (by simpa using hp)]at h'
   obtain⟨c',hc'⟩:=hf p zD hp;rw[hc',wu,yV]at h';by_cases hy:y=p.1
   ·subst hy
    simp at h';subst h';exact hc'
   ·have:(y==p.1)=false:=beq_eq_false_iff_ne.mpr hy
    rw[this]at h';exact ha h'
  ·rw[if_neg (by simpa using hp)]at h'
   exact ha h'
theorem clOf_acc {cells:List (Str×Addr)}{y:Str}:∀ {names:List (Str×NameKind)} {acc:List (Str×Addr)},(∃ c,acc.lookup y=some c)->∃ c,(clOf cells names acc).lookup y=some c
 | [],_,h=>h
 | p::r,acc,h=>by
  unfold clOf;refine clOf_acc (names:=r) ?_;split
  ·rw[yV]
   split
   ·exact⟨_,rfl⟩
   ·exact h
  ·exact h
theorem clOf_has {cells:List (Str×Addr)}{y:Str}:∀ {names:List (Str×NameKind)} {acc:List (Str×Addr)},(y,NameKind.free)∈names->∃ c,(clOf cells names acc).lookup y=some c
 | [],_,h=>by simp at h
 | p::r,acc,h=>by
  unfold clOf;rcases zN.mp h with h | h
  ·subst h
   refine clOf_acc ?_;rw[if_pos (by simp),yV];simp
  ·exact clOf_has h
theorem closureFor_eq {scope:Scope}{env:Env}(h:∀ p∈scope.names,p.2=.free->∃ c,env.cells.lookup p.1=some c):closureFor scope env=pure (clOf env.cells scope.names []):=by
 have gen:∀ (names:List (Str×NameKind)) (acc:List (Str×Addr)),(∀ p∈names,p.2=.free->∃ c,env.cells.lookup p.1=some c) ->
   (forIn names acc (fun (x:Str×NameKind) (r:List (Str×Addr))=>if (x.2==NameKind.free)=true then (cellOf env x.1 >>= fun a=>(pure (ForInStep.yield ((x.1,a)::r)):Sem (ForInStep (List (Str×Addr))))) else pure (ForInStep.yield r)):Sem (List (Str×Addr)))=pure (clOf env.cells names acc):=by
  intro names;induction names with
  | nil=>intro acc _;rfl
  | cons p r ih =>
   intro acc hf;rw[List.forIn_cons];obtain⟨name,kind⟩:=p;dsimp only;by_cases hk:kind=.free
   ·subst hk
    obtain⟨c,hc⟩:=hf (name,.free) zD rfl;have e:cellOf env name=pure c:=by unfold cellOf;rw[hc]
    rw[if_pos (by rfl),e];simp only[pure_bind];rw[ih _ fun q hq=>hf q (zK _ hq)]
    conv=>rhs;unfold clOf
    dsimp only;rw[if_pos (by rfl),hc];rfl
   ·have hb:(kind==NameKind.free)=false:=by simpa using hk
    rw[if_neg (by rw[hb];exact zi)];simp only[pure_bind];rw[ih _ fun q hq=>hf q (zK _ hq)]
    conv=>rhs;unfold clOf
    dsimp only;rw[if_neg (by rw[hb];exact zi)]
 unfold closureFor;refine Eq.trans ?_ (gen scope.names [] h);exact bind_pure _
theorem compOk_sc {S:Sc}{X:Cx}{sc:Scope}{xs:List Str}(C:CxOk Γ S X)(hx:X.Ok)(h:compOk S sc xs=true):CompSc X sc (clOf X.env.cells sc.names []) xs (xs++blank S.N xs):=by
 unfold compOk at h;simp only[zc,zV,bne_iff_ne,ne_eq,beq_iff_eq,yN,decide_eq_true_eq]at h;obtain⟨⟨⟨⟨⟨⟨h1,h2⟩,h5⟩,h6⟩,h7⟩,h8⟩,h9⟩:=h;have hout:∀ y,sc.names.lookup y=some .free->X.env.kindOf y=some .cell\/X.env.kindOf y=some .free:=fun y hy=>by
  rcases h6 _ (lookup_mem hy) with z | z
  ·exact absurd rfl z
  ·have z':S.sc.names.lookup y=some .cell\/S.sc.names.lookup y=some .free:=z
   rcases z' with z | z
   ·obtain⟨k',q1,rfl | ⟨q2,_⟩⟩:=C.sc _ _ z
    ·exact .inl q1
    ·cases q2
   ·obtain⟨k',q1,rfl | ⟨_,rfl⟩⟩:=C.sc _ _ z
    ·exact .inr q1
    ·exact .inl q1
 have hfree:∀ p∈sc.names,p.2=.free->∃ c,X.env.cells.lookup p.1=some c:=fun p hp hf=>by
  refine hx.has p.1 (hout p.1 ?_);rw[(h7 p hp).1,hf]
 refine⟨h1,fun y hy=>(h5 y hy).1,fun x hx=>(h2 x hx).1.1,fun y hy hl=>by rw[(h7 y hy).1,hl],fun y hy=>?_,closureFor_eq hfree,fun y c=>clOf_look hfree (fun z=>by cases z),fun y hy=>clOf_has (lookup_mem hy),hout,h9,fun i y hy=>?_,fun i y hy=>?_,?_⟩
 ·rcases (h5 _ (lookup_mem hy)).2 with z | z
  ·exact absurd rfl z
  ·rcases z with z | z
   ·exact .inl (by simpa using z)
   ·exact .inr z
 ·rw[zA (zr.mp hy).1]
  exact hy
 ·have hy':(blank S.N xs)[i]?=some y:=by
   rw[zL (we ..),wN]at hy;exact hy
  unfold blank at hy';rw[zu]at hy';cases q:S.N[i]? with
  | none=>rw[q]at hy';cases hy'
  | some z =>
   rw[q]at hy';simp only[xy,Option.some.injEq]at hy';by_cases hz:z∈xs
   ·rw[if_pos (by simpa using hz)]at hy'
    subst hy';refine⟨fun e=>(h2 _ e).2 rfl,by decide,.inr fun hv=>?_⟩;have nb:∀ k,sc.names.lookup ("" : Str)=some k->False:=fun k e=>(h7 _ (lookup_mem e)).2 rfl;rcases hv with e | e | e
    ·exact nb _ e
    ·exact nb _ e
    ·exact nb _ e
   ·rw[if_neg (by simpa using hz)]at hy'
    subst hy';exact⟨hz,h8 _ (zn q),.inl (by rw[C.n];exact q)⟩
 ·show (xs++blank S.N xs).length=X.N.length + xs.length
  unfold blank;rw[zp,zz,C.n,vb]
theorem comp_cx {S:Sc}{X:Cx}{sc:Scope}{x:List Str}(C:CxOk Γ S X)(h:compOk S sc x=true)(cl:List (Str×Addr))(Ca:Addr)(s:Shared)(H:Hp)(fp:List Addr):CxOk Γ (S.comp sc x) (cxComp X sc cl Ca (x++blank S.N x) s H fp) where
 n:=rfl
 sc:=fun y k hy=>by
  have e:(relabel sc X.env).names.lookup y=(sc.names.lookup y).map fun k=>if (k==NameKind.free&&X.env.scope.kind==.function&&X.env.kindOf y==some .cell) then NameKind.cell else k:=kind_relabel;have hy':sc.names.lookup y=some k:=hy;rw[hy']at e;refine⟨_,e,?_⟩;dsimp only;split
  ·rename_i hc
   simp only[zc,beq_iff_eq]at hc;exact .inr ⟨hc.1.1,rfl⟩
  ·exact .inl rfl
 calm:=C.calm
 hu:=C.hu
 nox:=rfl
 fns:=C.fns
 gls:=C.gls
 bls:=C.bls
 nd:=by
  unfold compOk at h;simp only[zc,decide_eq_true_eq]at h;exact h.2
theorem pg_own {X:Cx}{sc:Scope}{cl:List (Str×Addr)}{xs N':List Str}(CS:CompSc X sc cl xs N'){i:Nat}{x:Str}{px:Pos}(h:xs[i]?=some x)(Ca:Addr)(s:Shared)(H:Hp)(fp:List Addr):PG (cxComp X sc cl Ca N' s H fp) (.Name x px) (gName i) :=
 pg_name CS.nd (CS.n0 i x h) (.inl (lookup_relabel_local (CS.loc x (zn h)))) (.inr (lookup_relabel_local (CS.loc x (zn h))))
theorem pe_compS {S:Sc}{X:Cx}{sc:Scope}{x:Str}{px pos:Pos}{elt iter:Expr}{ifs:List Expr}{j:Nat}{fs:Ev->Mo Src}{fc:Ev->Mo Bool}{fe:DE}(C:CxOk Γ S X)(h:compOk S sc [x]=true)(hi:PI X (.Name x px) iter (LI X.K fs))(hs:∀ x,foldedSetIterable iter X.env x=pure x)
  (htc:∀ X',CxOk Γ (S.comp sc [x]) X'->X'.K=X.K->PTs X' ifs (LT X'.K fc)) (hte:∀ X',CxOk Γ (S.comp sc [x]) X'->X'.K=X.K->PE X' elt (LE X'.K fe)) :
  PE X (.ListComp elt [⟨.Name x px,iter,ifs,0⟩] sc pos) (LE X.K (fun ρ=>do
   let s <- fs ρ
   need (s.ds.length<=zh)
   let ys <- compD s.ck fc fe (ρ.set j none) s.ds
   newM (.lst ys))):=by
 intro pins s σ H Q I q;have CS:=compOk_sc C I.ok h;exact pe_comp C.calm CS (fun _ _ _ _=>pg_own CS rfl _ _ _ _) hi (fun Ca s H fp=>htc _ (comp_cx C h _ Ca s H fp) rfl) (fun Ca s H fp=>hte _ (comp_cx C h _ Ca s H fp) rfl) hs pins s σ H Q I (LE.comp σ H Q q)
theorem bl_boot {x:Str}{m:Nat}{b:Bl}(h:blOf x m=some b):bootBuiltins x=some (blVal b)/\∃ y:String,x=Str.ofString y:=by
 unfold blOf at h;have key:∀ (y:String) (k:Nat),(x==(Str.ofString y)&&m==k)=true->x=Str.ofString y:=fun y k e=>by
  simp only[zc,beq_iff_eq]at e;exact e.1
 split at h
 ·rename_i e;cases h;rw[key _ _ e];exact⟨by decide +kernel,_,rfl⟩
 split at h
 ·rename_i e;cases h;rw[key _ _ e];exact⟨by decide +kernel,_,rfl⟩
 split at h
 ·rename_i e;cases h;rw[key _ _ e];exact⟨by decide +kernel,_,rfl⟩
 split at h
 ·rename_i e;cases h;rw[key _ _ e];exact⟨by decide +kernel,_,rfl⟩
 split at h
 ·rename_i e;cases h;rw[key _ _ e];exact⟨by decide +kernel,_,rfl⟩
 split at h
 ·rename_i e;cases h;rw[key _ _ e];exact⟨by decide +kernel,_,rfl⟩
 split at h
 ·rename_i e;cases h;rw[key _ _ e];exact⟨by decide +kernel,_,rfl⟩
 split at h
 ·rename_i e;cases h;rw[key _ _ e];exact⟨by decide +kernel,_,rfl⟩
 split at h
 ·rename_i e;cases h;rw[key _ _ e];exact⟨by decide +kernel,_,rfl⟩
 split at h
 ·rename_i e;cases h;rw[key _ _ e];exact⟨by decide +kernel,_,rfl⟩
 split at h
 ·rename_i e;cases h;rw[key _ _ e];exact⟨by decide +kernel,_,rfl⟩
 ·cases h
theorem plainIx_of {b:Expr}(h:ixE b=true):PlainIx b:=by
 intro o i;cases b <;> first
  | rfl
  | exact absurd h zi
end
end L3
namespace L3
open PySem PySem.Spec PyProof.Rows L2
section
variable {X:Cx}
noncomputable def m0Id:M0->String
 | .clear=>"list.clear" | .pop=>"list.pop" | .reverse=>"list.reverse"
noncomputable def rM0 (m:M0):V->List V->Hp->VK->Prop:=fun x vs H Q=>∃ l xs y ys,x=.ref l/\vs=[]/\H l=some (.lst xs)/\m0G .non m xs=some (y,ys)/\Q y (upd H l (.lst ys))
theorem mt_m0 (m:M0):MtR X (m0Id m) (rM0 m):=by
 intro pins s σ H x vs v us Q I rx rv h;obtain⟨l,xs,y,ys,rfl,rfl,hH,hm,q⟩:=h;cases rx;cases rv;obtain⟨z,its,n,r,hl,e⟩:=I.lstM hH;cases m with
 | clear =>
  cases hm;refine call_meets F.slot_list_clear ⟨_,e,rfl⟩ F.entry_list_clear (F.args_list_clear_1 _) (AutoSeq1.list_clear_list_0 l its.toArray n (by rw[zf,<- hl];exact z)) ⟨e,?_⟩;exact⟨.non,_,I.lset (its':=[]) hH e rfl .nil (zO _),rfl,q⟩
 | reverse =>
  cases hm;refine call_meets F.slot_list_reverse ⟨_,e,rfl⟩ F.entry_list_reverse (F.args_list_reverse_1 _) (AutoSeq1.list_reverse_list_0 l its.toArray n (by rw[zf,<- hl];exact z)) ⟨e,?_⟩;refine⟨.non,_,I.lset (its':=its.reverse) hH e (by simp) r.reverse ?_,rfl,q⟩;rw[List.length_reverse];exact z
 | pop =>
  obtain⟨y',hy,e'⟩:=zt.mp hm;cases e';obtain⟨u,hu,ru⟩:=r.get hy;have hy':its.toArray[its.toArray.size - 1]?=some u:=by
   show its.toArray[its.length - 1]?=some u;rw[<- ya,<- hl];exact hu
  refine call_meets F.slot_list_pop ⟨_,e,rfl⟩ F.entry_list_pop (F.args_list_pop_1 _) (MeetsSeq.list_pop_last l its.toArray n u hy' (by rw[zf,<- hl];exact z)) ⟨e,?_⟩;refine⟨y,_,I.lset (its':=its.dropLast) hH e ?_ r.dropLast ?_,ru,q⟩
  ·show its.toArray.eraseIdxIfInBounds (its.toArray.size - 1)=its.dropLast.toArray
   rw[zf,List.eraseIdxIfInBounds_toArray,erase_last]
  ·rw[List.length_dropLast]
   exact zH (Nat.sub_le _ _) z
noncomputable def m0Name:M0->Str
 | .clear=>"clear" | .pop=>"pop" | .reverse=>"reverse"
theorem m0_name {m:Str}{k:M0}(h:m0Of m=some k):m=m0Name k:=by
 unfold m0Of at h;split at h
 ·rename_i e;cases h;exact beq_iff_eq.mp e
 split at h
 ·rename_i e;cases h;exact beq_iff_eq.mp e
 split at h
 ·rename_i e;cases h;exact beq_iff_eq.mp e
 ·cases h
theorem m0_fact (k:M0):Slot "list" (m0Name k) (m0Id k)/\typeOf (.builtin (m0Id k))=pure (.type "method_descriptor"):=by
 cases k
 ·exact⟨PySem.F.slot_list_clear,PySem.F.type_list_clear⟩
 ·exact⟨PySem.F.slot_list_pop,PySem.F.type_list_pop⟩
 ·exact⟨PySem.F.slot_list_reverse,PySem.F.type_list_reverse⟩
theorem m0_rev {K:PySem.W.Frag}{ι:List Addr}{H:Hp}:∀ {ds:List D} {vs:List V},Reps K ι H ds vs->Reps K ι H ds.reverse vs.reverse
 | _,_,.nil=>.nil
 | _,_,.cons r t=>by
  rw[xb,xb];exact(m0_rev t).append (.cons r .nil)
theorem m0_drop {K:PySem.W.Frag}{ι:List Addr}{H:Hp}:∀ {ds:List D} {vs:List V},Reps K ι H ds vs->Reps K ι H ds.dropLast vs.dropLast
 | _,_,.nil=>.nil
 | _,_,.cons _ .nil=>.nil
 | _,_,.cons r (.cons r2 t)=>.cons r (m0_drop (.cons r2 t))
theorem m0_reps {K:PySem.W.Frag}{ι:List Addr}{H:Hp}{m:M0}{ds es:List D}{vs:List V}{d:D}(r:Reps K ι H ds vs)(e:m0G .non m ds=some (d,es)):∃ v ws,m0G .non m vs=some (v,ws)/\Rep K ι H d v/\Reps K ι H es ws:=by
 cases m with
 | clear=>cases e;exact⟨_,_,rfl,.non,.nil⟩
 | reverse=>cases e;exact⟨_,_,rfl,.non,m0_rev r⟩
 | pop =>
  obtain⟨y,hy,e'⟩:=zt.mp e;cases e';obtain⟨v,hv,rv⟩:=r.get hy;rw[r.length]at hv;exact⟨v,_,by show (vs[vs.length - 1]?).map _=_;rw[hv];rfl,rv,m0_drop r⟩
theorem clr_sound {o:Expr}{m:Str}{k0:M0}{p2 p3:Pos}{fo:DE}(h:m0Of m=some k0)(hp:(p2.endLine==p3.line)=true)(ho:PE X o (LE X.K fo))(hb:∀ a w',attributeBase o a X.env w'=w') :
  PE X (.Call (.Attribute o m p2) [] [] p3) (LE X.K (fun ρ=>do let x <- fo ρ;clearO k0 x)):=by
 have hn:=m0_name h;subst hn;obtain⟨f1,f2⟩:=m0_fact k0;refine PE.imp (pe_bm0 (X:=X) (apos:=p2) (cpos:=p3) PySem.F.plainAttrs_list f1 f2 (mt_m0 k0) ho (hb _ _) (by simpa using hp)) fun σ H Q q=>?_;obtain⟨ι,ρ,M,d,M',S',R,e,k⟩:=q;obtain⟨x,M1,e1,e⟩:=bind_ok e;refine⟨ι,ρ,M,x,M1,S',R,e1,fun v1 H1 ι1 r1 S1 X1=>?_⟩;cases r1 with
 | ob t =>
  obtain⟨ds,M2,e2,ea⟩:=bind_ok e;obtain⟨g,rfl⟩:=getL_ok e2;obtain⟨⟨d',es⟩,M3,e3,eb⟩:=bind_ok ea;obtain⟨hm,rfl⟩:=lift_ok e3;obtain⟨_,M4,e4,ec⟩:=bind_ok eb;obtain⟨rfl,rfl⟩:=pure_ok ec;obtain⟨p,ws,h1,hi,h3,h4⟩:=sim_list S1 (.ob t) g;cases h1;obtain⟨v,ws',g1,g2,g3⟩:=m0_reps h4 hm;obtain⟨S2,X2⟩:=put_list (ds:=ds) S1 hi h3 g3 e4;exact⟨.inl ⟨rfl,_,SqL.of h3⟩,_,ws,v,ws',rfl,rfl,h3,g1,k _ _ _ (g2.mono X2) S2 (X1.trans X2)⟩
 | _=>exact(stop_ok e).elim
end
end L3
namespace L3
open PySem PySem.Spec PyProof.Rows L2
section
variable {Γ:Ctx}{n:Nat}
noncomputable def SrtI (_:Ctx):Prop:=True
noncomputable def SrtL (Γ:Ctx):Prop:=∀ (S:Sc) (X:Cx) (f:Str) (a:Expr) (p1 p4:Pos) (fa:DE),CxOk Γ S X->(f==("sorted" : Str)&&okName f&&S.glo f&&S.bls.contains f)=true->plainE a=true->PE X a (LE X.K fa) ->
 PE X (.Call (.Name f p1) [a] [] p4) (LE X.K (fun ρ=>do let x <- fa ρ;let ds <- lstD x;let ys <- lift (Γ.srt ds);newM (.lst ys)))
noncomputable def SrtS (_:Ctx):Prop:=True
noncomputable def SrtD (_:Ctx):Prop:=True
noncomputable def SrtT (Γ:Ctx):Prop:=∀ (S:Sc) (X:Cx) (f:Str) (a:Expr) (p1 p4:Pos) (fa:DE),CxOk Γ S X->(f==("sorted" : Str)&&okName f&&S.glo f&&S.bls.contains f)=true->plainE a=true->PE X a (LE X.K fa) ->
 PE X (.Call (.Name f p1) [a] [] p4) (LE X.K (fun ρ=>do let x <- fa ρ;keyTT Γ.srt x))
noncomputable def SrtOk (Γ:Ctx):Prop:=SrtI Γ/\SrtL Γ/\SrtS Γ/\SrtD Γ/\SrtT Γ
theorem base_of {o:Expr}{a:Str}{env:Env}{w':Sem Value}(h:bsE o=true):attributeBase o a env w'=w':=by
 cases o <;> first
  | rfl
  | exact absurd h zi
  | (rename_i f as ks p
     cases as with
     | nil=>exact absurd h zi
     | cons e es=>cases f <;> first | rfl | (cases ks <;> rfl))
theorem LE.neg {K:PySem.W.Frag}{fa:DE}(σ:St)(H:Hp)(Q:VK)(h:LE K (fun ρ=>do
  let x <- fa ρ
  (match x with
  | .int i=>pure (.int (-i))
  | _=>Mo.stop)) σ H Q):tUn (rU fun i=>.int (-i)) (LE K fa) σ H Q:=by
 obtain⟨ι,ρ,M,d,M',S,R,e,k⟩:=h;have e0:=bind_ok e;clear e;obtain⟨x,M1,e1,e⟩:=e0;refine⟨ι,ρ,M,x,M1,S,R,e1,fun v H1 ι1 r1 S1 X1=>?_⟩;cases r1 with
 | int i=>have e0:=pure_ok e;clear e;obtain⟨rfl,rfl⟩:=e0;exact⟨i,rfl,k _ H1 ι1 (.int _) S1 X1⟩
 | _=>exact(stop_ok e).elim
theorem not_any {α:Type}{l:List (Bool×α)}(h:l.any (·.1)=false):l.all (fun x=>!x.1)=true:=by
 rw[zV];intro x hx
 have:=xY.mp h x hx
 simpa using this
theorem isi_sound {S:Sc}{X:Cx}{f t:Str}{k:Ty}{a:Expr}{p1 p2 p3:Pos}{fa:DE}(C:CxOk Γ S X)(hs:isiOk S f t=true)(hk:tyOf t=some k)(ha:PE X a (LE X.K fa))(hp:plainE a=true) :
  PE X (.Call (.Name f p1) [a,.Name t p2] [] p3) (LE X.K (fun ρ=>do let x <- fa ρ;let b <- tyD k x;pure (.bl b))):=by
 unfold isiOk at hs;simp only[zc,beq_iff_eq]at hs;obtain⟨⟨⟨⟨⟨⟨h1,h2⟩,h3⟩,h4⟩,h5⟩,h6⟩,h7⟩:=hs;subst h1;obtain⟨o1,o2,o3⟩:=okName_debug h2;obtain⟨q1,q2,q3⟩:=okName_debug h5;have pt:PE X (.Name t p2) (tC (.ty (tyName k))):=pe_bltn (C.glo h6) (C.bls _ (mem_of_contains h7)) (ty_boot hk) rfl q3 q1;exact PE.imp (pe_callB (call_isi k) (C.glo h3) (C.bls _ (mem_of_contains h4)) PyProof.Rows.boot_isinstance (pa_cons ha (pa_cons pt pa_nil) (star_plain hp)) o3 o1 (star_plain hp) rfl) LE.isI
theorem call_sound {S:Sc}{X:Cx}{rs:List Expr->Option IEs}(hrs:∀ es i,rs es=some i->PA X es (LA X.K (semEs Γ i))/\es.all plainE=true){f:Str}{p1 pos:Pos}{a:Expr}{as:List Expr}{i:IE}(C:CxOk Γ S X)(h:callK S f (a::as).length (rs (a::as))=some i):PE X (.Call (.Name f p1) (a::as) [] pos) (LE X.K (semE Γ i)):=by
 unfold callK at h;split at h
 ·rename_i hs
  simp only[zc]at hs;obtain⟨o1,o2,o3⟩:=okName_debug hs.1;split at h
  ·rename_i hf
   obtain⟨xs,h1,rfl⟩:=zt.mp h;obtain⟨k,fa,fd,ps,g1,g2,g3,g4,g5,g6⟩:=C.fns f (mem_of_contains hf);obtain⟨pa,pl⟩:=hrs _ _ h1;rw[yD,zc]at pl;exact PE.imp (pe_call g4 g5 (C.glo hs.2) g1 g2 g3 .nil pass0 pa o1 (star_plain pl.1) (back_plain pl.2)) fun σ H Q q=>LE.call σ H Q g6 q
  ·split at h
   ·rename_i hb
    split at h
    ·rename_i b hbl
     obtain⟨xs,h1,rfl⟩:=zt.mp h;obtain⟨pa,pl⟩:=hrs _ _ h1;rw[yD,zc]at pl;have hbt:=(bl_boot hbl).1;have hmg:=C.bls f (mem_of_contains hb);have hc:=call_bl (X:=X) C.calm C.hu b;unfold blVal at hbt hc;split at hbt
     ·rename_i ht
      rw[if_pos ht]at hc;exact PE.imp (pe_callTy hc (C.glo hs.2) hmg hbt pa o3 o1 (star_plain pl.1) (back_plain pl.2)) LE.blt
     ·rename_i ht
      rw[if_neg ht]at hc;exact PE.imp (pe_callB hc (C.glo hs.2) hmg hbt pa o3 o1 (star_plain pl.1) (back_plain pl.2)) LE.blt
    ·cases h
   ·cases h
 ·cases h
section
variable {S:Sc}{X:Cx}{r:Expr->Option IE}{rs:List Expr->Option IEs}{ro:Option Expr->Option IEo}
theorem name_sound (C:CxOk Γ S X){x:Str}{pos:Pos}{i:IE}(h:nameK S x=some i):PE X (.Name x pos) (LE X.K (semE Γ i)):=by
 unfold nameK at h;split at h
 ·rename_i hok
  obtain⟨o1,o2,o3⟩:=okName_debug hok;split at h
  ·rename_i hv
   obtain⟨j,hs,rfl⟩:=zt.mp h;exact PE.imp (pe_var (by rw[C.n];exact slot_get hs) (C.vis hv) o1 o2) (LE.var)
  ·split at h
   ·rename_i hg
    cases h;simp only[zc]at hg;obtain⟨d,u,v,g1,g2,g3,g4⟩:=C.gls x (mem_of_contains hg.2);refine PE.imp (pe_glob (C.glo hg.1) g2 g3 o1) fun σ H Q h=>?_;refine LE.const g4 σ H Q ?_;have e:semE Γ (.glb x)=fun _=>(pure d:Mo D):=by funext ρ;show lift (Γ.gl x)=_;rw[g1];rfl
    rw[e]at h;exact h
   ·cases h
 ·cases h
theorem const_sound {c:Const}{k:Nat}{pos:Pos}{i:IE}(h:constK c=some i):PE X (.Constant c k pos) (LE X.K (semE Γ i)):=by
 cases c with
 | int j=>cases h;exact PE.imp pe_int (LE.const fun _ _=>.int _)
 | bool j=>cases h;exact PE.imp pe_bl (LE.const fun _ _=>.bl _)
 | none=>cases h;exact PE.imp pe_non (LE.const fun _ _=>.non)
 | str j=>cases h;exact PE.imp pe_str (LE.const fun _ _=>.str _)
 | _=>cases h
variable (hr:∀ e i,r e=some i->PE X e (LE X.K (semE Γ i)))
include hr
theorem cmp_sound (C:CxOk Γ S X){a:Expr}{ops:List CmpOp}{bs:List Expr}{pos:Pos}{i:IE}(h:cmpK r a ops bs=some i):PE X (.Compare a ops bs pos) (LE X.K (semE Γ i))/\PT X (.Compare a ops bs pos) (LT X.K (semC Γ (.cmp i))):=by
 unfold cmpK at h;split at h
 ·split at h
  ·cases h
  ·rename_i hm
   obtain⟨x,h1,h⟩:=obind h;obtain⟨y,h2,h⟩:=obind h;cases h;exact⟨PE.imp (pe_cmpR (op_cmp C.hu _) (hr _ _ h1) (hr _ _ h2) (by simpa using hm)) (LE.bin opS_R2S),PT.imp (pt_cmpR (op_cmp C.hu _) (hr _ _ h1) (hr _ _ h2) (by simpa using hm)) fun σ H Q q=>LE.bin opS_R2S σ H _ (LT.test σ H Q q)⟩
 ·split at h
  ·cases h
  ·rename_i op op' b c hm
   obtain⟨x,h1,h⟩:=obind h;obtain⟨y,h2,h⟩:=obind h;obtain⟨z,h3,h⟩:=obind h;cases h;exact⟨PE.imp (pe_chain (op_cmp C.hu op) (op_cmp C.hu op') (hr _ _ h1) (hr _ _ h2) (hr _ _ h3) (by show behindInMarks op' c=false;simpa using hm)) (LE.chain),PT.imp (pt_chain (op_cmp C.hu op) (op_cmp C.hu op') (hr _ _ h1) (hr _ _ h2) (hr _ _ h3) (by show behindInMarks op' c=false;simpa using hm)) fun σ H Q q=>LE.chain σ H _ (LT.test σ H Q q)⟩
 ·cases h
theorem bool_sound {op:BoolOp}{es:List Expr}{pos:Pos}{i:IE}(h:boolK r op es pos=some i):PE X (.BoolOp op es pos) (LE X.K (semE Γ i)):=by
 unfold boolK at h;split at h
 ·obtain⟨x,h1,h⟩:=obind h
  obtain⟨y,h2,h⟩:=obind h;cases h;cases op with
  | And=>exact PE.imp (pe_and (hr _ _ h1) (pe_one (hr _ _ h2))) (LE.and)
  | Or=>exact PE.imp (pe_or (hr _ _ h1) (pe_one (hr _ _ h2))) (LE.or)
 ·obtain⟨x,h1,h⟩:=obind h
  obtain⟨y,h2,h⟩:=obind h;cases h;cases op with
  | And=>exact PE.imp (pe_and (hr _ _ h1) (hr _ _ h2)) (LE.and)
  | Or=>exact PE.imp (pe_or (hr _ _ h1) (hr _ _ h2)) (LE.or)
 ·cases h
theorem un_sound {op:UnaryOp}{a:Expr}{pos:Pos}{i:IE}(h:unK r op a=some i):PE X (.UnaryOp op a pos) (LE X.K (semE Γ i)):=by
 cases op with
 | Not =>
  obtain⟨x,h1,h⟩:=obind h;cases h;exact PE.imp (pe_not (hr _ _ h1)) (LE.not)
 | USub =>
  obtain⟨x,h1,h⟩:=obind h;cases h;exact PE.imp (pe_un un_neg (hr _ _ h1)) (LE.neg)
 | _=>cases h
theorem sub_sound (C:CxOk Γ S X)(ho:∀ e i,ro e=some i->PO X e (LO X.K (semO Γ i))){a b:Expr}{pos:Pos}{i:IE}(h:subK r ro a b=some i):PE X (.Subscript a b pos) (LE X.K (semE Γ i)):=by
 unfold subK at h;split at h
 ·obtain⟨x,h1,h⟩:=obind h
  obtain⟨l,h2,h⟩:=obind h;obtain⟨q,h3,h⟩:=obind h;cases h;exact PE.imp (pe_slice sl_all (hr _ _ h1) (ho _ _ h2) (ho _ _ h3)) (LE.slc)
 ·split at h
  ·rename_i hix
   obtain⟨x,h1,h⟩:=obind h;obtain⟨y,h2,h⟩:=obind h;cases h;exact PE.imp (pe_ix (ix_get C.hu) (hr _ _ h1) (hr _ _ h2) (plainIx_of hix)) (LE.bin opS_R2S)
  ·cases h
omit hr in
theorem nm_eq {a:Expr}{m:Str}{p:Pos}(h:nmE a=some (m,p)):a=.Name m p:=by
 unfold nmE at h;split at h
 ·cases h;rfl
 ·cases h
theorem sort_sound (hsrt:SrtOk Γ)(C:CxOk Γ S X){f:Str}{as:List Expr}{p1 p4:Pos}{i:IE}(h:sortK S r f as=some i):PE X (.Call (.Name f p1) as [] p4) (LE X.K (semE Γ i)):=by
 unfold sortK at h;split at h
 ·rename_i a
  split at h
  ·cases h
  ·have fin:∀ {i:IE},(
    if dtName a then (if plainE a&&(f==("sorted" : Str)&&okName f&&S.glo f&&S.bls.contains f) then do let x <- r a;some (.srtT x) else none) else
    if plainE a&&(f==("sorted" : Str)&&okName f&&S.glo f&&S.bls.contains f) then do let x <- r a;some (.sortL x) else none)=some i->PE X (.Call (.Name f p1) [a] [] p4) (LE X.K (semE Γ i)):=fun {i} h=>by
    split at h
    ·split at h
     ·rename_i hs
      rw[zc]at hs;obtain⟨x,h1,h⟩:=obind h;cases h;exact hsrt.2.2.2.2 S X f _ p1 p4 (semE Γ x) C hs.2 hs.1 (hr _ _ h1)
     ·cases h
    rename_i nt;split at h
    ·rename_i hs
     rw[zc]at hs;obtain⟨x,h1,h⟩:=obind h;cases h;exact hsrt.2.1 S X f _ p1 p4 (semE Γ x) C hs.2 hs.1 (hr _ _ h1)
    ·cases h
   exact fin h
 ·cases h
theorem cmpR_sound (C:CxOk Γ S X){a:Expr}{ops:List CmpOp}{bs:List Expr}{pos:Pos}{i:IE}(h:cmpR S r a ops bs=some i):PE X (.Compare a ops bs pos) (LE X.K (semE Γ i))/\PT X (.Compare a ops bs pos) (LT X.K (semC Γ (.cmp i))):=by
 unfold cmpR at h;split at h
 ·split at h
  ·cases h
  ·exact cmp_sound hr C h
 ·exact cmp_sound hr C h
theorem isiK_sound (C:CxOk Γ S X){f:Str}{as:List Expr}{p1 p4:Pos}{i:IE}(h:isiK S r f as=some i):PE X (.Call (.Name f p1) as [] p4) (LE X.K (semE Γ i)):=by
 unfold isiK at h;split at h
 ·split at h
  ·rename_i t' p hn
   rw[nm_eq hn];split at h
   ·rename_i hs
    rw[zc]at hs;split at h
    ·rename_i kk hk
     obtain⟨x,h1,h⟩:=obind h;cases h;exact isi_sound C hs.1 hk (hr _ _ h1) hs.2
    ·cases h
   ·cases h
  ·cases h
 ·cases h
variable (hrs:∀ es i,rs es=some i->PA X es (LA X.K (semEs Γ i))/\es.all plainE=true)
include hrs
omit hr hrs in
theorem gtd_name {o:Expr}{m:Str}{n:Nat}{k:Mt}(h:gtdK o m n (mtOf m n)=some k):m=mtName k:=by
 unfold gtdK at h;split at h
 ·rename_i e
  simp only[zc,beq_iff_eq]at e;cases h;exact e.2.1
 ·exact mt_name h
theorem attr_sound (C:CxOk Γ S X){o:Expr}{m:Str}{p2 p3:Pos}{as:List Expr}{i:IE}(h:attrK r rs o m p2 p3 as=some i):PE X (.Call (.Attribute o m p2) as [] p3) (LE X.K (semE Γ i)):=by
 unfold attrK at h;split at h
 ·split at h
  ·rename_i hs
   simp only[zc,decide_eq_true_eq]at hs;obtain⟨hbs,hs⟩:=hs;split at h
   ·rename_i kk hk
    obtain⟨x,h1,h⟩:=obind h;obtain⟨xs,h2,h⟩:=obind h;cases h;obtain⟨pa,pl⟩:=hrs _ _ h2;have hnm:=gtd_name hk;subst hnm;have pl':=pl;rw[yD,zc]at pl;refine PE.imp (pe_bmx (mt_all C.hu kk) (hr _ _ h1) pa (base_of hbs) ?_ hs.1 (star_plain pl.1) (back_plain pl.2)) LE.mth;rw[zc,zc];refine⟨⟨not_any (back_plain pl'),rfl⟩,?_⟩
    have:=hs.2
    simp only[zM,yg,List.isEmpty_nil,if_true]at this ⊢;exact decide_eq_true (by first | lia | omega)
   ·cases h
  ·cases h
 ·split at h
  ·rename_i hs
   rw[zc]at hs;split at h
   ·rename_i k0 hk0
    obtain⟨x,h1,h⟩:=obind h;cases h;exact clr_sound hk0 hs.2 (hr _ _ h1) (fun a w'=>base_of hs.1)
   ·cases h
  ·cases h
theorem fn_sound (hsrt:SrtOk Γ)(C:CxOk Γ S X){f:Str}{as:List Expr}{p1 p4:Pos}{i:IE}(h:fnK S r rs f as=some i):PE X (.Call (.Name f p1) as [] p4) (LE X.K (semE Γ i)):=by
 unfold fnK at h;split at h
 ·split at h
  ·exact sort_sound hr hsrt C h
  ·split at h
   ·exact isiK_sound hr C h
   ·
    exact call_sound hrs C h
 ·cases h
theorem callE_sound (hsrt:SrtOk Γ)(C:CxOk Γ S X){f:Expr}{as:List Expr}{p:Pos}{i:IE}(h:callE S r rs f as p=some i):PE X (.Call f as [] p) (LE X.K (semE Γ i)):=by
 unfold callE at h;split at h
 ·exact fn_sound hr hrs hsrt C h
 ·exact attr_sound hr hrs C h
 ·cases h
end
theorem gens_eq {gs:List Comprehension}{x:Str}{p:Pos}{iter:Expr}{ifs:List Expr}(h:gensK gs=some (x,p,iter,ifs)):gs=[⟨.Name x p,iter,ifs,0⟩]:=by
 unfold gensK at h;split at h
 ·cases h;rfl
 ·cases h
theorem sound_E (hsrt:SrtOk Γ)(ih:Sound Γ n)(S:Sc)(X:Cx)(e:Expr)(i:IE)(C:CxOk Γ S X)(h:cE S (n + 1) e=some i):PE X e (LE X.K (semE Γ i)):=by
 have hr:∀ e i,cE S n e=some i->PE X e (LE X.K (semE Γ i)):=fun e i h=>ih.E _ _ _ _ C h;have hrs:∀ es i,cEs S n es=some i->PA X es (LA X.K (semEs Γ i))/\es.all plainE=true:=fun e i h=>ih.Es _ _ _ _ C h;cases e with
 | Name x p=>exact name_sound C h
 | Constant c k p=>exact const_sound h
 | BinOp a op b p =>
  have h:(if inDomOp op=true then (do let x <- cE S n a;let y <- cE S n b;some (IE.bin op x y)) else none)=some i:=h;split at h
  ·obtain⟨x,h1,h⟩:=obind h
   obtain⟨y,h2,h⟩:=obind h;cases h;exact PE.imp (pe_op (op_bin op) (hr _ _ h1) (hr _ _ h2)) (LE.bin opS_R2S)
  ·cases h
 | Compare a ops bs p=>exact(cmpR_sound hr C h).1
 | BoolOp op es p=>exact bool_sound hr h
 | UnaryOp op a p=>exact un_sound hr h
 | IfExp c a b p =>
  obtain⟨k,h0,h⟩:=obind h;obtain⟨x,h1,h⟩:=obind h;obtain⟨y,h2,h⟩:=obind h;cases h;exact PE.imp (pe_ifExp (ih.C _ _ _ _ C h0) (hr _ _ h1) (hr _ _ h2)) (LE.ite)
 | Tuple es k p =>
  obtain⟨x,h1,h⟩:=obind h;cases h;exact PE.imp (pe_tup (hrs _ _ h1).1) (LE.tup)
 | List es p =>
  obtain⟨x,h1,h⟩:=obind h;cases h;exact PE.imp (pe_lst (hrs _ _ h1).1) (LE.lst)
 | Dict ks vs p =>
  cases ks with
  | nil =>
   cases vs with
   | nil=>cases h;exact PE.imp pe_dnewK (LE.dic)
   | cons a l=>cases h
  | cons a l=>cases h
 | Subscript a b p=>exact sub_sound hr C (fun e i h=>ih.O _ _ _ _ C h) h
 | Call f as ks p =>
  have h:(if ks.isEmpty=true then callE S (cE S n) (cEs S n) f as p else none)=some i:=h;split at h
  ·rename_i hk
   have hk:ks=[]:=xm.mp hk;subst hk;exact callE_sound hr hrs hsrt C h
  ·cases h
 | ListComp elt gs sc p =>
  have h:(match gensK gs with
   | some (x,_,iter,ifs)=>if compOk S sc [x]=true then (do
     let it <- cT S n iter
     let c <- cCo (S.comp sc [x]) n ifs
     let e <- cE (S.comp sc [x]) n elt
     some (IE.comp ((slot S.N x).getD S.N.length) it c e)) else none
   | none=>none)=some i:=h
  split at h
  ·rename_i x px iter ifs hg
   rw[gens_eq hg];split at h
   ·rename_i hc
    obtain⟨it,h1,h⟩:=obind h;obtain⟨c,h2,h⟩:=obind h;obtain⟨y,h3,h⟩:=obind h;cases h;obtain⟨t1,t2⟩:=ih.T _ X (.Name x px) _ _ C h1;exact pe_compS C hc t1 t2 (fun X' C' _=>ih.Co _ _ _ _ C' h2) (fun X' C' _=>ih.E _ _ _ _ C' h3)
   ·cases h
  ·cases h
 | _=>cases h
theorem sound_Es (ih:Sound Γ n)(S:Sc)(X:Cx)(es:List Expr)(i:IEs)(C:CxOk Γ S X)(h:cEs S (n + 1) es=some i):PA X es (LA X.K (semEs Γ i))/\es.all plainE=true:=by
 cases es with
 | nil =>
  cases (show some IEs.nil=some i from h);exact⟨PA.imp pa_nil LA.nil,rfl⟩
 | cons e es =>
  replace h:(if plainE e then (do let x <- cE S n e;let xs <- cEs S n es;some (.cons x xs)) else none)=some i:=h;split at h
  ·rename_i hp
   obtain⟨x,h1,h⟩:=obind h;obtain⟨xs,h2,h⟩:=obind h;cases h;obtain⟨p1,p2⟩:=ih.Es _ _ _ _ C h2;exact⟨PA.imp (pa_cons (ih.E _ _ _ _ C h1) p1 (star_plain hp)) LA.cons,by rw[yD,hp,p2];rfl⟩
  ·cases h
theorem sound_O (ih:Sound Γ n)(S:Sc)(X:Cx)(e:Option Expr)(i:IEo)(C:CxOk Γ S X)(h:cO S (n + 1) e=some i):PO X e (LO X.K (semO Γ i)):=by
 cases e with
 | none =>
  cases (show some IEo.none=some i from h);exact PO.imp po_none LO.none
 | some e =>
  replace h:(do let x <- cE S n e;some (IEo.some x))=some i:=h;obtain⟨x,h1,h⟩:=obind h;cases h;exact PO.imp (po_some (ih.E _ _ _ _ C h1)) LO.some
theorem sound_Co (ih:Sound Γ n)(S:Sc)(X:Cx)(e:List Expr)(i:ICo)(C:CxOk Γ S X)(h:cCo S (n + 1) e=some i):PTs X e (LT X.K (semCo Γ i)):=by
 rcases e with _ | ⟨c,_ | ⟨c2,l⟩⟩
 ·cases (show some ICo.none=some i from h)
  exact PTs.imp pts_nil fun σ H Q q=>by
   obtain⟨ι,ρ,M,b,M',S,R,e,k⟩:=q;obtain⟨rfl,rfl⟩:=pure_ok e;exact k H ι S Ext.refl
 ·replace h:(do let k <- cC S n c;some (ICo.some k))=some i:=h
  obtain⟨x,h1,h⟩:=obind h;cases h;exact pts_one (ih.C _ _ _ _ C h1)
 ·cases (show (none:Option ICo)=some i from h)
theorem pw_imp {X:Cx}{e:Expr}{t t':TT}(h:PW X e t)(k:∀ σ H Q,t' σ H Q->t σ H Q):PW X e t':=fun whole pins s σ H Q I q=>h whole pins s σ H Q I (k σ H Q q)
theorem rngE_eq {b:Expr}{f:Str}{p q:Pos}{as:List Expr}(h:rngE b=some (f,p,as,q)):b=.Call (.Name f p) as [] q:=by
 unfold rngE at h;split at h
 ·cases h;rfl
 ·cases h
theorem fold_it {e:Expr}{env:Env}(h:itE e=true):∀ x,foldedSetIterable e env x=pure x:=by
 intro x;cases e <;> first | rfl | exact absurd h zi
theorem rngK_sound {S:Sc}{X:Cx}{r:Expr->Option IE}(hr:∀ e i,r e=some i->PE X e (LE X.K (semE Γ i)))(C:CxOk Γ S X){tg:Expr}{f:Str}{as:List Expr}{p q:Pos}{i:IT}(h:rngK S r f as=some i):PI X tg (.Call (.Name f p) as [] q) (LI X.K (semT Γ i)):=by
 unfold rngK at h;split at h
 ·rename_i hs
  unfold rngOk at hs;simp only[zc,beq_iff_eq]at hs;obtain⟨⟨⟨⟨h1,h2⟩,h3⟩,h4⟩,h5⟩:=hs;subst h1;split at h
  ·simp only[yD,vB,vf]at h5
   obtain⟨x,g1,h⟩:=obind h;cases h;exact PI.imp (pi_range1 (C.glo h3) (C.bls _ (mem_of_contains h4)) (pa_cons (hr _ _ g1) pa_nil (star_plain h5)) (star_plain h5)) LI.rng1
  ·simp only[yD,vB,vf,zc]at h5
   obtain⟨x,g1,h⟩:=obind h;obtain⟨y,g2,h⟩:=obind h;cases h;exact PI.imp (pi_range2 (C.glo h3) (C.bls _ (mem_of_contains h4)) (pa_cons (hr _ _ g1) (pa_cons (hr _ _ g2) pa_nil (star_plain h5.2)) (star_plain h5.1)) (by rw[star_plain h5.1,star_plain h5.2];rfl) (star_plain h5.2)) LI.rng2
  ·cases h
 ·cases h
theorem sound_T (ih:Sound Γ n)(S:Sc)(X:Cx)(tg e:Expr)(i:IT)(C:CxOk Γ S X)(h:cT S (n + 1) e=some i):PI X tg e (LI X.K (semT Γ i))/\∀ x,foldedSetIterable e X.env x=pure x:=by
 have seq:(cE S n e).map IT.seq=some i->PI X tg e (LI X.K (semT Γ i)):=fun h=>by
  obtain⟨x,h1,rfl⟩:=zt.mp h;exact PI.imp (pi_any (ih.E _ _ _ _ C h1)) LI.seq
 have h:(match rngE e with
  | some (f,_,as,_)=>if (f==("range" : Str))=true then rngK S (cE S n) f as else (cE S n e).map IT.seq
  | none=>if itE e=true then (cE S n e).map IT.seq else none)=some i:=h
 split at h
 ·rename_i f p as q hg
  have he:=rngE_eq hg;split at h
  ·refine⟨?_,by rw[he];exact fun _=>rfl⟩
   rw[he];exact rngK_sound (fun e i h=>ih.E _ _ _ _ C h) C h
  ·exact⟨seq h,by rw[he];exact fun _=>rfl⟩
 ·split at h
  ·rename_i hit
   exact⟨seq h,fold_it hit⟩
  ·cases h
theorem cond_sound {X:Cx}{r:Expr->Option IC}(hr:∀ e i,r e=some i->PT X e (LT X.K (semC Γ i))){op:BoolOp}{es:List Expr}{pos:Pos}{i:IC}(h:condK r op es=some i):PT X (.BoolOp op es pos) (LT X.K (semC Γ i)):=by
 unfold condK at h;split at h
 ·obtain⟨k,h1,h⟩:=obind h
  obtain⟨j,h2,h⟩:=obind h;cases h;cases op with
  | And=>exact PT.imp (pw_and (hr _ _ h1) (pw_and1 (hr _ _ h2))).pt LT.and
  | Or=>exact PT.imp (pw_or (hr _ _ h1) (pw_or1 (hr _ _ h2))).pt LT.or
 ·obtain⟨k,h1,h⟩:=obind h
  obtain⟨j,h2,h⟩:=obind h;obtain⟨l,h3,h⟩:=obind h;cases h;cases op with
  | And=>exact PT.imp (pw_and (hr _ _ h1) (pw_imp (pw_and (hr _ _ h2) (pw_and1 (hr _ _ h3))) LT.and)).pt LT.and
  | Or=>exact PT.imp (pw_or (hr _ _ h1) (pw_imp (pw_or (hr _ _ h2) (pw_or1 (hr _ _ h3))) LT.or)).pt LT.or
 ·cases h
theorem sound_C (ih:Sound Γ n)(S:Sc)(X:Cx)(e:Expr)(i:IC)(C:CxOk Γ S X)(h:cC S (n + 1) e=some i):PT X e (LT X.K (semC Γ i)):=by
 cases e with
 | UnaryOp op a p =>
  have h:(if (op==.Not)=true then (cC S n a).map IC.not else none)=some i:=h;split at h
  ·rename_i ho
   have ho:op=.Not:=by simpa using ho
   subst ho;obtain⟨k,h1,rfl⟩:=zt.mp h;exact PT.imp (pt_not (ih.C _ _ _ _ C h1)) LT.not
  ·cases h
 | BoolOp op es p=>exact cond_sound (fun e i h=>ih.C _ _ _ _ C h) h
 | Compare a ops bs p =>
  obtain⟨k,h1,rfl⟩:=zt.mp (show (cmpR S (cE S n) a ops bs).map IC.cmp=some i from h);exact(cmpR_sound (fun e i h=>ih.E _ _ _ _ C h) C h1).2
 | Name x p =>
  obtain⟨k,h1,rfl⟩:=zt.mp (show (cE S n (.Name x p)).map IC.tru=some i from h);exact pt_tru (ih.E _ _ _ _ C h1) fun _=>rfl
 | Call f as ks p =>
  obtain⟨k,h1,rfl⟩:=zt.mp (show (cE S n (.Call f as ks p)).map IC.tru=some i from h);exact pt_tru (ih.E _ _ _ _ C h1) fun _=>rfl
 | Subscript a b p =>
  obtain⟨k,h1,rfl⟩:=zt.mp (show (cE S n (.Subscript a b p)).map IC.tru=some i from h);exact pt_tru (ih.E _ _ _ _ C h1) fun _=>rfl
 | _=>cases h
theorem sound (hsrt:SrtOk Γ):∀ n,Sound Γ n
 | 0=>⟨(fun _ _ _ i _ h=>by cases (show (none:Option IE)=some i from h)),(fun _ _ _ i _ h=>by cases (show (none:Option IEs)=some i from h)),(fun _ _ _ i _ h=>by cases (show (none:Option IEo)=some i from h)),(fun _ _ _ _ i _ h=>by cases (show (none:Option IT)=some i from h)),(fun _ _ _ i _ h=>by cases (show (none:Option IC)=some i from h)),(fun _ _ _ i _ h=>by cases (show (none:Option ICo)=some i from h))⟩
 | n + 1=>⟨sound_E hsrt (sound hsrt n),sound_Es (sound hsrt n),sound_O (sound hsrt n),sound_T (sound hsrt n),sound_C (sound hsrt n),sound_Co (sound hsrt n)⟩
end
end L3
namespace L3
open PySem PySem.Spec PyProof.Rows L2
section
variable {Γ:Ctx}{n:Nat}{K:PySem.W.Frag}
theorem LS.set {i:Nat}{fe:DE}(D:Ends)(σ:St)(H:Hp)(h:LS K (fun ρ=>do let x <- fe ρ;pure (.nx (ρ.set i (some x)))) D σ H):tAsg (LE K fe) (gName i) D σ H:=by
 obtain⟨ι,ρ,M,fl,M',S,R,e,k⟩:=h;have e0:=bind_ok e;clear e;obtain⟨x,M1,e1,e⟩:=e0;have e0:=pure_ok e;clear e;obtain⟨rfl,rfl⟩:=e0;exact⟨ι,ρ,M,x,_,S,R,e1,fun v H1 ι1 r1 S1 X1=>k H1 ι1 S1 X1 _ ((R.mono X1).set r1 i)⟩
theorem LS.setIx {fo fi fe:DE}(D:Ends)(σ:St)(H:Hp)(h:LS K (fun ρ=>do let v <- fe ρ;let x <- fo ρ;let y <- fi ρ;setIx x y v;pure (.nx ρ)) D σ H):tAsg (LE K fe) (gSub (LE K fo) (LE K fi) (RSet K)) D σ H:=by
 obtain⟨ι,ρ,M,fl,M',S,R,e,k⟩:=h;have e0:=bind_ok e;clear e;obtain⟨v,M1,e1,e⟩:=e0;have e0:=bind_ok e;clear e;obtain⟨x,M2,e2,e⟩:=e0;have e0:=bind_ok e;clear e;obtain⟨y,M3,e3,e⟩:=e0;have e0:=bind_ok e;clear e;obtain⟨u,M4,e4,e⟩:=e0;have e0:=pure_ok e;clear e;obtain⟨rfl,rfl⟩:=e0;refine⟨ι,ρ,M,v,M1,S,R,e1,fun v1 H1 ι1 r1 S1 X1=>?_⟩;refine⟨ι1,ρ,M1,x,M2,S1,R.mono X1,e2,fun v2 H2 ι2 r2 S2 X2=>?_⟩;refine⟨ι2,ρ,M2,y,M3,S2,(R.mono X1).mono X2,e3,fun v3 H3 ι3 r3 S3 X3=>?_⟩;exact⟨ι3,M3,_,x,y,v,u,S3,r2.mono X3,r3,(r1.mono X2).mono X3,e4,fun H4 S4 X4=>k H4 ι3 S4 (((X1.trans X2).trans X3).trans X4) σ ((((R.mono X1).mono X2).mono X3).mono X4)⟩
theorem LS.expr {fe:DE}(D:Ends)(σ:St)(H:Hp)(h:LS K (fun ρ=>do let _ <- fe ρ;pure (.nx ρ)) D σ H):tDrop (LE K fe) D σ H:=by
 obtain⟨ι,ρ,M,fl,M',S,R,e,k⟩:=h;have e0:=bind_ok e;clear e;obtain⟨x,M1,e1,e⟩:=e0;have e0:=pure_ok e;clear e;obtain⟨rfl,rfl⟩:=e0;exact⟨ι,ρ,M,x,_,S,R,e1,fun v H1 ι1 r1 S1 X1=>k H1 ι1 S1 X1 _ (R.mono X1)⟩
theorem LS.ret {fe:DE}(D:Ends)(σ:St)(H:Hp)(h:LS K (fun ρ=>do let x <- fe ρ;pure (.rt x)) D σ H):tRet (LE K fe) D σ H:=by
 obtain⟨ι,ρ,M,fl,M',S,R,e,k⟩:=h;have e0:=bind_ok e;clear e;obtain⟨x,M1,e1,e⟩:=e0;have e0:=pure_ok e;clear e;obtain⟨rfl,rfl⟩:=e0;exact⟨ι,ρ,M,x,_,S,R,e1,fun v H1 ι1 r1 S1 X1=>k H1 ι1 S1 X1 v r1⟩
theorem LS.flow {fl:Ev->Fl}(D:Ends)(σ:St)(H:Hp)(h:LS K (fun ρ=>pure (fl ρ)) D σ H):∃ ι ρ,EnvR K ι H ρ σ/\FlP K D ι H (fl ρ):=by
 obtain⟨ι,ρ,M,f,M',S,R,e,k⟩:=h;have e0:=pure_ok e;clear e;obtain⟨rfl,rfl⟩:=e0;exact⟨ι,ρ,R,k H ι S Ext.refl⟩
theorem LS.ifS {fc:Ev->Mo Bool}{fa fb:Ev->Mo Fl}(D:Ends)(σ:St)(H:Hp)(h:LS K (fun ρ=>do let k <- fc ρ;if k=true then fa ρ else fb ρ) D σ H):tIfS (LT K fc) (LS K fa) (LS K fb) D σ H:=by
 obtain⟨ι,ρ,M,fl,M',S,R,e,k⟩:=h;have e0:=bind_ok e;clear e;obtain⟨b,M1,e1,e⟩:=e0;refine⟨ι,ρ,M,b,M1,S,R,e1,fun H1 ι1 S1 X1=>?_⟩;split at e
 ·rename_i hb
  rw[if_pos hb];exact⟨ι1,ρ,_,fl,M',S1,R.mono X1,e,fun H' ι' S' X'=>k H' ι' S' (X1.trans X')⟩
 ·rename_i hb
  rw[if_neg hb];exact⟨ι1,ρ,_,fl,M',S1,R.mono X1,e,fun H' ι' S' X'=>k H' ι' S' (X1.trans X')⟩
theorem LS.seq {fa fb:Ev->Mo Fl}(D:Ends)(σ:St)(H:Hp)(h:LS K (fun ρ=>do
  let f <- fa ρ
  (match f with
  | .nx ρ'=>fb ρ'
  | .rt v=>pure (.rt v)
  | .bk ρ'=>pure (.bk ρ')
  | .ct ρ'=>pure (.ct ρ'))) D σ H):tSeq (LS K fa) (LS K fb) D σ H:=by
 obtain⟨ι,ρ,M,fl,M',S,R,e,k⟩:=h;have e0:=bind_ok e;clear e;obtain⟨f,M1,e1,e⟩:=e0;refine⟨ι,ρ,M,f,M1,S,R,e1,fun H1 ι1 S1 X1=>?_⟩;cases f with
 | nx ρ1=>exact fun σ1 R1=>⟨ι1,ρ1,M1,fl,M',S1,R1,e,fun H' ι' S' X'=>k H' ι' S' (X1.trans X')⟩
 | rt v=>have e0:=pure_ok e;clear e;obtain⟨rfl,rfl⟩:=e0;exact k H1 ι1 S1 X1
 | bk ρ1=>have e0:=pure_ok e;clear e;obtain⟨rfl,rfl⟩:=e0;exact k H1 ι1 S1 X1
 | ct ρ1=>have e0:=pure_ok e;clear e;obtain⟨rfl,rfl⟩:=e0;exact k H1 ι1 S1 X1
structure SoundS (Γ:Ctx) (n:Nat):Prop where
 S:∀ (S:Sc) (X:Cx) (e:Stmt) (i:IS),CxOk Γ S X->(∀ x,X.fn x=true)->cS S n e=some i->PS X e (LS X.K (semS Γ i))
 Ss:∀ (S:Sc) (X:Cx) (e:List Stmt) (i:ISs),CxOk Γ S X->(∀ x,X.fn x=true)->cSs S n e=some i->PSs X e (LS X.K (semSs Γ i))
end
section
variable {Γ:Ctx}{n:Nat}
theorem sw_sub {e o i:Expr}{p:Pos}{l:Nat}{env:Env}:swapsWithSole [.Subscript o i p] e l env=pure false/\swappedStores [.Subscript o i p] e env=pure none:=by
 constructor
 ·cases e <;> rfl
 ·cases e <;> rfl
theorem sw_name {e:Expr}{x:Str}{p:Pos}{l:Nat}{env:Env}(hn:noComp e=true):swapsWith e (some (.Name x p)) l env=pure false:=by
 cases e <;> first | rfl | cases hn
theorem sw_none {e:Expr}{l:Nat}{env:Env}(hn:noComp e=true):swapsWith e none l env=pure false:=by
 cases e <;> first | rfl | cases hn
theorem as_sub {o i:Expr}{p:Pos}{env:Env}(h:ixE i=true):∀ v,assign (.Subscript o i p) env v=(do
   let ov <- holding [v] (eval o env)
   let iv <- holding [v,ov] (eval i env)
   standAt p
   holding [v,ov,iv] (setItem ov iv v)
   release [v,ov,iv] []):=by
 intro v;cases i <;> first | rfl | exact absurd h zi
theorem ps_compS {S:Sc}{X:Cx}{sc:Scope}{x y:Str}{px pos py spos:Pos}{elt iter:Expr}{ifs:List Expr}{j i:Nat}{fs:Ev->Mo Src}{fc:Ev->Mo Bool}{fe:DE}(C:CxOk Γ S X)(h:compOk S sc [x]=true)(hi:PI X (.Name x px) iter (LI X.K fs))(hs:∀ x,foldedSetIterable iter X.env x=pure x)
  (htc:∀ X',CxOk Γ (S.comp sc [x]) X'->X'.K=X.K->PTs X' ifs (LT X'.K fc)) (hte:∀ X',CxOk Γ (S.comp sc [x]) X'->X'.K=X.K->PE X' elt (LE X'.K fe)) (hy:X.N[i]?=some y) (hl:Loc X.env.scope y) (hf:X.fn y=true) :
  PS X (.Assign [.Name y py] (.ListComp elt [⟨.Name x px,iter,ifs,0⟩] sc pos) spos) (LS X.K (fun ρ=>do
   let v <- (do
    let s <- fs ρ
    need (s.ds.length<=zh)
    let ys <- compD s.ck fc fe (ρ.set j none) s.ds
    newM (.lst ys))
   pure (.nx (ρ.set i (some v))))):=by
 intro pins s σ H D I q;have CS:=compOk_sc C I.ok h;have q2:=LS.set D σ H q;exact ps_comp C.calm CS (fun _ _ _ _=>pg_own CS rfl _ _ _ _) hi (fun Ca s H fp=>htc _ (comp_cx C h _ Ca s H fp) rfl) (fun Ca s H fp=>hte _ (comp_cx C h _ Ca s H fp) rfl) hs C.nd hy hl (.inl hf) pins s σ H D I (LE.comp σ H _ q2)
theorem comp_of {v elt:Expr}{gs:List Comprehension}{sc:Scope}(h:compP v=some (elt,gs,sc)):∃ p,v=.ListComp elt gs sc p:=by
 cases v with
 | ListComp a b c p=>cases h;exact⟨p,rfl⟩
 | _=>cases h
theorem enum_sound (hE:∀ n,Sound Γ n){S:Sc}{X:Cx}(C:CxOk Γ S X){es:List Expr}{k1:Nat}{p1 p q:Pos}{f:Str}{as:List Expr}{i:IP}(h1:f = "enumerate")(h:enumK S (cE S n) f as=some i):PI X (.Tuple es k1 p1) (.Call (.Name f p) as [] q) (LI2 X.K (semP Γ i)):=by
 rcases as with _ | ⟨a,_ | ⟨_,_⟩⟩
 ·cases h
 ·replace h:(if okName f&&S.glo f&&S.bls.contains f&&plainE a then (cE S n a).map IP.enum else none)=some i:=h
  split at h
  ·rename_i hs
   simp only[zc]at hs;obtain⟨⟨⟨h2,h3⟩,h4⟩,h5⟩:=hs;obtain⟨x,g,rfl⟩:=zt.mp h;subst h1;exact PI.imp (pi_enum (C.glo h3) (C.bls _ (mem_of_contains h4)) (pa_cons ((hE n).E _ _ _ _ C g) pa_nil (star_plain h5)) (star_plain h5)) LI2.enum
  ·cases h
 ·cases h
theorem sound_P (hE:∀ n,Sound Γ n){S:Sc}{X:Cx}(C:CxOk Γ S X){es:List Expr}{k1:Nat}{p1:Pos}{e:Expr}{i:IP}(h:cP S n e=some i):PI X (.Tuple es k1 p1) e (LI2 X.K (semP Γ i))/\∀ x,foldedSetIterable e X.env x=pure x:=by
 have seq:(cE S n e).map IP.seq=some i->PI X (.Tuple es k1 p1) e (LI2 X.K (semP Γ i)):=fun h=>by
  obtain⟨x,h1,rfl⟩:=zt.mp h;exact PI.imp (pi_any ((hE n).E _ _ _ _ C h1)) fun σ H R q=>LI.seq σ H R (LI2.to σ H R q)
 delta cP at h;cases hr:rngE e with
 | some q =>
  obtain⟨f,p,as,q⟩:=q;rw[hr]at h;dsimp only at h;have he:=rngE_eq hr;split at h
  ·rename_i hf
   refine⟨?_,by rw[he];exact fun _=>rfl⟩;rw[he];exact enum_sound hE C (by simpa using hf) h
  ·exact⟨seq h,by rw[he];exact fun _=>rfl⟩
 | none =>
  rw[hr]at h;dsimp only at h;split at h
  ·rename_i hit
   exact⟨seq h,fold_it hit⟩
  ·cases h
theorem nmE_eq {e:Expr}{x:Str}{p:Pos}(h:nmE e=some (x,p)):e=.Name x p:=by
 cases e <;> first | cases h;rfl | cases h
theorem pair_sound (hE:∀ n,Sound Γ n){S:Sc}{X:Cx}(C:CxOk Γ S X)(hf:∀ x,X.fn x=true)(hp:PassesOwn (model X.prog X.w) X.A X.env X.xe){a b iter:Expr}{body:List Stmt}{r:Option ISs}{i:IS}{k1:Nat}{p1 p:Pos}(hb:∀ y,r=some y->PSs X body (LS X.K (semSs Γ y)))
  (h:pair2 S n a b iter r=some i):PS X (.For (.Tuple [a,b] k1 p1) iter body [] p) (LS X.K (semS Γ i)):=by
 delta pair2 at h;cases ha:nmE a with
 | none=>rw[ha]at h;cases h
 | some q =>
  obtain⟨x,pa⟩:=q;rw[ha]at h;dsimp only at h;cases hb2:nmE b with
  | none=>rw[hb2]at h;cases h
  | some q =>
   obtain⟨y,pb⟩:=q;rw[hb2]at h;dsimp only at h;obtain rfl:=nmE_eq ha;obtain rfl:=nmE_eq hb2;split at h
   ·rename_i hl
    rw[zc]at hl;obtain⟨i1,h1,h⟩:=obind h;obtain⟨j1,h2,h⟩:=obind h;obtain⟨it,h3,h⟩:=obind h;obtain⟨z,h4,h⟩:=obind h;cases h;have hN1:=slot_get h1;rw[<- C.n]at hN1;have hN2:=slot_get h2;rw[<- C.n]at hN2;obtain⟨t1,t2⟩:=sound_P hE C h3;exact PS.imp (ps_for hp C.calm t1 (pg_tup C.calm (pgs_cons (pg_name C.nd hN1 (C.loc hl.1) (.inl (hf x))) (pgs_cons (pg_name C.nd hN2 (C.loc hl.2) (.inl (hf y))) pgs_nil))) (hb _ h4) t2) LS.lpair
   ·cases h
theorem sound_S (hE:∀ n,Sound Γ n)(ih:SoundS Γ n)(S:Sc)(X:Cx)(e:Stmt)(i:IS)(C:CxOk Γ S X)(hf:∀ x,X.fn x=true)(h:cS S (n + 1) e=some i):PS X e (LS X.K (semS Γ i)):=by
 have hp:PassesOwn (model X.prog X.w) X.A X.env X.xe:=by rw[C.nox];exact PassesOwn.never
 cases e with
 | Assign ts v pos =>
  replace h:asgK S n ts v=some i:=h;rcases ts with _ | ⟨t,_ | ⟨t2,ts⟩⟩
  ·cases h
  ·replace h:asgT S n t v=some i:=h
   cases t with
   | Name x p =>
    replace h:asgN S n x v=some i:=h;delta asgN at h;cases hc:compP v with
    | some q =>
     obtain⟨elt,gs,sc⟩:=q;rw[hc]at h;dsimp only at h;cases hg:gensK gs with
     | none=>rw[hg]at h;cases h
     | some q =>
      obtain⟨y,py,iter,ifs⟩:=q;rw[hg]at h;dsimp only at h;obtain⟨cp,rfl⟩:=comp_of hc;obtain rfl:=gens_eq hg;split at h
      ·rename_i hl
       rw[zc]at hl;obtain⟨i',h1,h⟩:=obind h;obtain⟨it,g1,h⟩:=obind h;obtain⟨c,g2,h⟩:=obind h;obtain⟨y',g3,h⟩:=obind h;cases h;have hN:=slot_get h1;rw[<- C.n]at hN;obtain⟨t1,t2⟩:=(hE n).T _ X (.Name y py) _ _ C g1;exact ps_compS C hl.2 t1 t2 (fun X' C' _=>(hE n).Co _ _ _ _ C' g2) (fun X' C' _=>(hE n).E _ _ _ _ C' g3) hN (C.loc hl.1) (hf x)
      ·cases h
    | none =>
     rw[hc]at h;dsimp only at h;split at h
     ·rename_i hz
      rw[zc]at hz;have hv:=hz.2;cases v with
      | Dict ks vs pv =>
       unfold emptyD at hv;rw[zc,xm,xm]at hv;obtain⟨rfl,rfl⟩:=hv;split at h
       ·rename_i hl
        obtain⟨j,h1,h⟩:=obind h;cases h;have hN:=slot_get h1;rw[<- C.n]at hN;exact PS.imp (ps_set C.nd hN (C.loc hl) (PE.imp pe_dnewTT LE.dtt) (sw_name rfl) (.inl (hf x))) LS.set
       ·cases h
      | _=>cases hv
     split at h
     ·rename_i hl
      rw[zc]at hl;obtain⟨j,h1,h⟩:=obind h;obtain⟨y,h2,h⟩:=obind h;cases h;have hN:=slot_get h1;rw[<- C.n]at hN;exact PS.imp (ps_set C.nd hN (C.loc hl.1) ((hE n).E _ _ _ _ C h2) (sw_name hl.2) (.inl (hf x))) LS.set
     ·cases h
   | Subscript o ix p =>
    delta asgT at h;dsimp only at h;split at h
    ·rename_i hix
     obtain⟨y,h1,h⟩:=obind h;obtain⟨a,h2,h⟩:=obind h;obtain⟨b,h3,h⟩:=obind h;cases h;exact PS.imp (ps_asg ((hE n).E _ _ _ _ C h1) (pg_sub ((hE n).E _ _ _ _ C h2) ((hE n).E _ _ _ _ C h3) (set_ix C.hu) (as_sub hix)) sw_sub.1 (sw_sub (l:=0)).2 rfl) LS.setIx
    ·cases h
   | _=>cases h
  ·cases h
 | Expr e pos =>
  replace h:(if noComp e then (do let y <- cE S n e;some (.expr y)) else none)=some i:=h;split at h
  ·rename_i hn
   obtain⟨y,h1,h⟩:=obind h;cases h;exact PS.imp (ps_expr ((hE n).E _ _ _ _ C h1) (sw_none hn)) LS.expr
  ·cases h
 | Return o pos =>
  cases o with
  | some e =>
   replace h:(do let y <- cE S n e;some (.ret y))=some i:=h;obtain⟨y,h1,h⟩:=obind h;cases h;exact PS.imp (ps_ret ((hE n).E _ _ _ _ C h1)) LS.ret
  | none =>
   cases h;exact PS.imp ps_retN fun D σ H q=>by
    obtain⟨ι,ρ,R,k⟩:=LS.flow D σ H q;exact k .non .non
 | Raise a b c =>
  cases h;intro pins s σ H D I q;obtain⟨ι,ρ,M,fl,M',S',R,e,k⟩:=q;exact(stop_ok e).elim
 | Pass p =>
  cases h;exact PS.imp ps_pass fun D σ H q=>by
   obtain⟨ι,ρ,R,k⟩:=LS.flow D σ H q;exact k σ R
 | Break p =>
  cases h;exact PS.imp ps_break fun D σ H q=>by
   obtain⟨ι,ρ,R,k⟩:=LS.flow D σ H q;exact k σ R
 | Continue p =>
  cases h;exact PS.imp ps_continue fun D σ H q=>by
   obtain⟨ι,ρ,R,k⟩:=LS.flow D σ H q;exact k σ R
 | If c a b p =>
  replace h:(do let k <- cC S n c;let x <- cSs S n a;let y <- cSs S n b;some (.ifS k x y))=some i:=h;obtain⟨k,h0,h⟩:=obind h;obtain⟨x,h1,h⟩:=obind h;obtain⟨y,h2,h⟩:=obind h;cases h;exact PS.imp (ps_if ((hE n).C _ _ _ _ C h0) (ih.Ss _ _ _ _ C hf h1) (ih.Ss _ _ _ _ C hf h2)) LS.ifS
 | For t iter b o p =>
  replace h:noneK o (forT S n t iter (cSs S n b))=some i:=h;cases o with
  | cons _ _=>cases h
  | nil =>
   replace h:forT S n t iter (cSs S n b)=some i:=h;cases t with
   | Name x p =>
    replace h:(if S.loc x then (do let i <- slot S.N x;let it <- cT S n iter;let y <- cSs S n b;some (.forS i it y)) else none)=some i:=h;split at h
    ·rename_i hl
     obtain⟨j,h0,h⟩:=obind h;obtain⟨it,h1,h⟩:=obind h;obtain⟨y,h2,h⟩:=obind h;cases h;have hN:=slot_get h0;rw[<- C.n]at hN;obtain⟨t1,t2⟩:=(hE n).T _ X (.Name x p) _ _ C h1;exact PS.imp (ps_for hp C.calm t1 (pg_name C.nd hN (C.loc hl) (.inl (hf x))) (ih.Ss _ _ _ _ C hf h2) t2) LS.loop
    ·cases h
   | Tuple ts k1 p1 =>
    replace h:pairT S n ts iter (cSs S n b)=some i:=h;rcases ts with _ | ⟨a,_ | ⟨b2,_ | ⟨_,_⟩⟩⟩
    ·cases h
    ·cases h
    ·replace h:pair2 S n a b2 iter (cSs S n b)=some i:=h
     exact pair_sound hE C hf hp (fun y h2=>ih.Ss _ _ _ _ C hf h2) h
    ·cases h
   | _=>cases h
 | _=>cases h
theorem sound_Ss (ih:SoundS Γ n)(S:Sc)(X:Cx)(e:List Stmt)(i:ISs)(C:CxOk Γ S X)(hf:∀ x,X.fn x=true)(h:cSs S (n + 1) e=some i):PSs X e (LS X.K (semSs Γ i)):=by
 unfold cSs at h;cases e with
 | nil =>
  cases h;exact PSs.imp pss_nil fun D σ H q=>by
   obtain⟨ι,ρ,R,k⟩:=LS.flow D σ H q;exact k σ R
 | cons s r =>
  obtain⟨x,h1,h⟩:=obind h;obtain⟨y,h2,h⟩:=obind h;cases h;exact PSs.imp (pss_cons (ih.S _ _ _ _ C hf h1) (ih.Ss _ _ _ _ C hf h2)) LS.seq
theorem soundS (hE:∀ n,Sound Γ n):∀ n,SoundS Γ n
 | 0=>⟨(fun _ _ _ _ _ _ h=>by cases h),(fun _ _ _ _ _ _ h=>by unfold cSs at h;cases h)⟩
 | n + 1=>⟨sound_S hE (soundS hE n),sound_Ss (soundS hE n)⟩
end
end L3
namespace L3
open PySem PySem.Spec PyProof.Rows L2
theorem on1 {α:Type}{P:List α->Prop}(h:∀ a,P [a]):∀ us:List α,us.length=1->P us
 | [a],_=>h a
theorem on2 {α:Type}{P:List α->Prop}(h:∀ a b,P [a,b]):∀ us:List α,us.length=2->P us
 | a::r,z9=>on1 (P:=fun r=>P (a::r)) (fun b=>h a b) r (Nat.succ.inj z9)
theorem on3 {α:Type}{P:List α->Prop}(h:∀ a b c,P [a,b,c]):∀ us:List α,us.length=3->P us
 | a::r,z9=>on2 (P:=fun r=>P (a::r)) (fun b c=>h a b c) r (Nat.succ.inj z9)
theorem on4 {α:Type}{P:List α->Prop}(h:∀ a b c d,P [a,b,c,d]):∀ us:List α,us.length=4->P us
 | a::r,z9=>on3 (P:=fun r=>P (a::r)) (fun b c d=>h a b c d) r (Nat.succ.inj z9)
theorem on5 {α:Type}{P:List α->Prop}(h:∀ a b c d e,P [a,b,c,d,e]):∀ us:List α,us.length=5->P us
 | a::r,z9=>on4 (P:=fun r=>P (a::r)) (fun b c d e=>h a b c d e) r (Nat.succ.inj z9)
structure Ent where
 x:Str
 st:Stmt
 N:List Str
 ps:List Str
 b:ISs
noncomputable def tabOf (es:List Ent):List (Str×Fd):=es.map fun e=>(e.x,⟨e.N.length,e.ps.length,e.b⟩)
noncomputable def DefR (K:PySem.W.Frag)(mg:Str->Option Value)(es:List Ent)(gls bls:List Str)(e:Ent):Prop:=∃ (fa:Addr) (fd:FuncData),Fun K e.x e.x e.st fa fd/\mg e.x=some (.ref fa)/\Binds K fd e.ps []/\FnScope e.N e.ps (defScope e.st) /\
 cSs ⟨defScope e.st,e.N,es.map (·.x),gls,bls⟩ 200 (defBody e.st)=some e.b/\(tabOf es).lookup e.x=some ⟨e.N.length,e.ps.length,e.b⟩
noncomputable def GlR (K:PySem.W.Frag)(mg:Str->Option Value)(gl:Str->Option D)(x:Str):Prop:=∃ d u v,gl x=some d/\mg x=some u/\RelV v u/\∀ ι H,Rep K ι H d v
section
variable {P:Program}{w:World}{K:PySem.W.Frag}{mg:Str->Option Value}{base:Heap}{es:List Ent}{gls bls:List Str}{gl:Str->Option D}{srt:List D->Option (List D)}{wh:Nat}
theorem env_start {ι:List Addr}{H:Hp}{ds:List D}{vs:List V}{N:List Str}(r:Reps K ι H ds vs):EnvR K ι H (ds.map some++yF (N.length - ds.length) none) (start N vs) where
 len:=by
  unfold L2.start;rw[zp,zp,zz,zz,yo,yo,r.length]
 val:=fun i d e=>by
  unfold L2.start;by_cases hi:i < ds.length
  ·rw[zA (by rw[zz];exact hi),zu]at e
   rw[zA (by rw[zz,<- r.length];exact hi),zu];cases q:ds[i]? with
   | none=>rw[q]at e;cases e
   | some d' =>
    rw[q]at e;cases e;obtain⟨v,hv,rv⟩:=r.get q;exact⟨v,by rw[hv];rfl,rv⟩
  ·rw[zL (by rw[zz];omega),xf]at e
   split at e <;> cases e
theorem hu100 {A:Around}{k:Nat}(hr:Room k A):A.units + 100 < cLine:=by have:=hr.un;omega
theorem fns_ok (hsrt:∀ k,SrtOk (CtxN (tabOf es) gl srt wh k))(hd:∀ e∈es,DefR K mg es gls bls e)(hg:∀ x∈gls,GlR K mg gl x)(hb:∀ x∈bls,mg x=none):∀ (k:Nat) (e:Ent),e∈es->∃ (fa:Addr) (fd:FuncData),Fun K e.x e.x e.st fa fd /\
  mg e.x=some (.ref fa)/\PySem.W.keepIn K (.ref fa)=true/\Binds K fd e.ps []/\FnOk P w K mg base CX0 k fa fd e.ps (spOf K e.ps.length ((CtxN (tabOf es) gl srt wh k).fn e.x)) /\
  ∀ ds M d M',(CtxN (tabOf es) gl srt wh k).fn e.x ds M=some (.ok d,M')->ds.length=e.ps.length:=by
 intro k;induction k with
 | zero =>
  intro e he;obtain⟨fa,fd,F,hm,hbn,_⟩:=hd e he;refine⟨fa,fd,F,hm,F.kp,hbn,⟨fun vs H Q E h=>h.1,fun A outer s H args us vs Q E _ _ _ _ h=>?_⟩,fun ds M d M' h=>?_⟩
  ·obtain⟨_,_,_,_,_,_,_,_,e,_⟩:=h
   exact(stop_ok e).elim
  ·exact(stop_ok h).elim
 | succ k ih =>
  intro e he;obtain⟨fa,fd,F,hm,hbn,hS,hc,ht⟩:=hd e he;have hfn:(CtxN (tabOf es) gl srt wh (k + 1)).fn e.x=fun xs=>(do need (xs.length=e.ps.length);semF (CtxN (tabOf es) gl srt wh k) e.N.length e.b xs:Mo D):=by
   funext xs;show (match (tabOf es).lookup e.x with
    | some d=>(do need (xs.length=d.p);semF (CtxN (tabOf es) gl srt wh k) d.n d.b xs:Mo D)
    | none=>Mo.stop)=_
   rw[ht]
  refine⟨fa,fd,F,hm,F.kp,hbn,?_,fun ds M d M' h=>?_⟩
  ·refine F.ok hS (fun vs H Q E h=>h.1) (fun cdv A outer s H vs Q E hr h=>?_)
   obtain⟨hl,ι,M,M',ds,d,S,r,eq,kk⟩:=h;rw[hfn]at eq;obtain⟨_,M0,e1,eq1⟩:=bind_ok eq;obtain⟨hn,hM⟩:=need_ok e1;rw[hM]at eq1;obtain⟨f,M1,e2,eq2⟩:=bind_ok eq1;have C:CxOk (CtxN (tabOf es) gl srt wh k) ⟨defScope e.st,e.N,es.map (·.x),gls,bls⟩ (cxOf CX0 P w K mg base e.N e.x (defScope e.st) fa cdv A outer s H E).nox:={
    n:=rfl
    sc:=fun x q hx=>⟨q,hx,.inl rfl⟩
    calm:=rfl
    hu:=hu100 hr
    nox:=rfl
    fns:=fun x hx=>by
     obtain⟨e',he',rfl⟩:=zC.mp hx;obtain⟨fa',fd',_,g1,g2,g3,g4,g5⟩:=ih e' he';exact⟨k,fa',fd',e'.ps,g1,g2,g3,g4,hr,g5⟩
    gls:=fun x hx=>by
     obtain⟨d',u,v,g1,g2,g3,g4⟩:=hg x hx;refine⟨d',u,v,?_,g2,g3,g4⟩;cases k <;> exact g1
    bls:=hb
    nd:=hS.nd }
   refine⟨_,(soundS (sound (hsrt k)) 200).Ss _ _ _ _ C (fun _=>rfl) hc,?_⟩;refine⟨ι,_,_,f,M1,S,env_start (N:=e.N) r,e2,fun H' ι' S' X'=>?_⟩;cases f with
   | nx ρ=>obtain⟨rfl,rfl⟩:=pure_ok eq2;exact fun σ _=>kk .non H' ι' .non S' X'
   | rt v=>obtain⟨rfl,rfl⟩:=pure_ok eq2;exact fun v' r'=>kk v' H' ι' r' S' X'
   | bk ρ=>exact(stop_ok eq2).elim
   | ct ρ=>exact(stop_ok eq2).elim
  ·rw[hfn]at h
   obtain⟨_,_,e1,_⟩:=bind_ok h;exact(need_ok e1).1
theorem law_fn (hsrt:∀ k,SrtOk (CtxN (tabOf es) gl srt wh k))(hd:∀ e∈es,DefR K mg es gls bls e)(hg:∀ x∈gls,GlR K mg gl x)(hb:∀ x∈bls,mg x=none)(k:Nat){e:Ent}(he:e∈es){fa:Addr}{fd:FuncData}(F:Fun K e.x e.x e.st fa fd)(hm:mg e.x=some (.ref fa)) :
  FnOk P w K mg base CX0 k fa fd e.ps (spOf K e.ps.length ((CtxN (tabOf es) gl srt wh k).fn e.x)):=by
 obtain⟨fa',fd',F',hm',_,_,g,_⟩:=fns_ok (P:=P) (w:=w) (base:=base) hsrt hd hg hb k e he;rw[hm]at hm';cases hm';obtain⟨_,_,_,_,_,_,_,_,_,_,l1,_⟩:=F.ex;obtain⟨_,_,_,_,_,_,_,_,_,_,l2,_⟩:=F'.ex;rw[l1]at l2;cases l2;exact g
end
theorem ints_reps {K:PySem.W.Frag}{ι:List Addr}{H:Hp}:∀ ns:List Int,Reps K ι H (ns.map D.int) (ns.map V.int)
 | []=>.nil
 | n::r=>.cons (.int n) (ints_reps r)
theorem fz_of {K:PySem.W.Frag}{H:Hp}{a:Addr}{xs:List V}(hO:Only H)(h:SqL K H a xs):FzL K H a xs:=by
 rcases h with (h | h) | h
 ·rcases hO a with z | ⟨o,ys,z⟩
  ·rw[z]at h;cases h
  ·rw[z]at h;cases h
 ·exact .inl h
 ·exact .inr h
theorem sp_law {K:PySem.W.Frag}{H:Hp}{a:Addr}{ns:List Int}{g:List D->Mo D}{E:XK}(hO:Only H)(hS:SqL K H a (ns.map V.int))(hg:∃ M',g [.fl (ns.map .int)] []=some (.ok (.bl true),M')):spOf K 1 g [.ref a] H (fun v _=>v=.bl true) E:=by
 obtain⟨M',e⟩:=hg;refine⟨rfl,[],[],M',_,_,⟨rfl,fun i j a h=>by simp at h,fun i a o h=>by simp at h⟩,.cons (.fl (fz_of hO hS) (ints_reps ns)) .nil,e,fun v H' ι' r _ _=>?_⟩;cases r;rfl
end L3
namespace L3
open PySem PySem.Spec PyProof.Rows L2
noncomputable def evalK {α:Type}(lt:Nat->Nat->Option Bool):PySem.W.KasT α->Option α
 | .ret a=>some a
 | .ask i j k=>match lt i j with
  | none=>none
  | some b=>evalK lt (k b)
theorem evalK_wp {α:Type}{lt:Nat->Nat->Option Bool}{cmp:Nat->Nat->(Bool->Shared->Prop)->Shared->Prop}{s:Shared}{a:α}{Q:α->Shared->Prop}(hc:∀ i j b (C:Bool->Shared->Prop),lt i j=some b->C b s->cmp i j C s)(q:Q a s) :
  ∀ (t:PySem.W.KasT α),evalK lt t=some a->t.kasWp cmp Q s
 | .ret b,h=>by cases h;exact q
 | .ask i j k,h=>by
  unfold evalK at h;cases e:lt i j with
  | none=>rw[e]at h;cases h
  | some b =>
   rw[e]at h;exact hc i j b _ e (evalK_wp hc q (k b) h)
section
variable {prog:Program}{w:World}{A:Around}{E:Value->Shared->Prop}{s:Shared}{a:Addr}{vs:List Value}{n:Nat}{P:PySem.Fin->Shared->Prop}
theorem list_sort_small (ho:s.heap.get? a=some (seqObj "list" vs.toArray n))(h2:vs.length < 2)
  (h:∀ h' c,(∀ b o,b≠a->s.heap.get? b=some o->h'.get? b=some o)->h'.get? a=some (seqObj "list" vs.toArray c)->P (.done (.ret .none)) { s with heap:=h' }) :
  wpAny (model prog w) A (Builtin.«list.sort» ⟨[.ref a],[]⟩) P E s:=by
 rw[list_sort_plain];have ha:a < s.heap.objs.size:=za ho;refine zw (listItems_at ho rfl ?_);refine zw (listUpdate_at ho rfl ?_ (by rw[zf,sizeLine_eq];omega) (zO _));obtain⟨e1,ho1⟩:∃ e1,(s.heap.update a (Obj.mapSeq fun _=>#[])).get? a=some (seqObj "list" #[] e1):=⟨_,get?_update_seq ho (fun _=>#[])⟩;refine zw (seqEpoch_at ho1 rfl ?_);refine zw (wpAny_newTuple ?_ (by show vs.length<=_;rw[sizeLine_eq];omega));refine zw (wpAny_newList ?_ (zO _));refine wpAny_holding ?_;have ho6:(((s.heap.update a (Obj.mapSeq fun _=>#[])).push (seqObj "tuple" vs.toArray 0)).push (seqObj "list" #[] 0)).get? a=some (seqObj "list" #[] e1):=by
  rw[yj _ _ _ (by rw[size_push',yB];exact zE (xB ha)),yj _ _ _ (by rw[yB];exact zE ha)];exact ho1
 show wpAny (model prog w) A _ P E { s with heap:=((s.heap.update a (Obj.mapSeq fun _=>#[])).push (seqObj "tuple" vs.toArray 0)).push (seqObj "list" #[] 0) };dsimp only;have hlt:vs.toArray.size < 2:=by rw[zf];exact h2
 rw[if_pos hlt,if_pos hlt];refine zw (zj ?_);rw[StateT.run_pure];refine zw (zj ?_);dsimp only;have hz:∀ l:List Value,(l.toArray.zip l.toArray).map (fun x=>x.2)=l.toArray:=fun l=>by
  apply xo.mp;simp only[Array.toList_map,Array.toList_zip];induction l with
  | nil=>rfl
  | cons x r ih=>simpa using ih
 refine zw (seqEpoch_at ho6 rfl ?_);refine zw (listUpdate_at ho6 rfl ?_ (zO _) (hsz2:=by rw[hz,zf,sizeLine_eq];omega));simp only[bne_self_eq_false,yq,if_false];rw[hz];obtain⟨c2,hc2⟩:∃ c2,((((s.heap.update a (Obj.mapSeq fun _=>#[])).push (seqObj "tuple" vs.toArray 0)).push (seqObj "list" #[] 0)).update a (Obj.mapSeq fun _=>vs.toArray)).get? a=some (seqObj "list" vs.toArray c2):=⟨_,get?_update_seq ho6 fun _=>vs.toArray⟩;refine zj (h _ c2 (fun b o hb e=>?_) hc2);have hlt:b < s.heap.objs.size:=za e;rw[yU _ _ _ _ hb,yj _ _ _ (by rw[size_push',yB];exact zE (xB hlt)),yj _ _ _ (by rw[yB];exact zE hlt),yU _ _ _ _ hb];exact e
theorem list_sort_any {κ:SortKind}{lt:Nat->Nat->Option Bool}{p:Array Nat}(ho:s.heap.get? a=some (seqObj "list" vs.toArray n))(h2:2<=vs.length)(h64:vs.length < 64)
  (hk:∀ h',(∀ b o,b≠a->s.heap.get? b=some o->h'.get? b=some o)->∀ (Q:SortKind->Shared->Prop),Q κ { s with heap:=h' }->wpAny (model prog w) A (keyKind' vs.toArray) Q (fun _ _=>False) { s with heap:=h' })
  (hc:∀ h',(∀ b o,b≠a->s.heap.get? b=some o->h'.get? b=some o)->∀ i j b (C:Bool->Shared->Prop),lt i j=some b->C b { s with heap:=h' }->PySem.W.kas_ask prog w A κ vs i j C { s with heap:=h' })
  (he:evalK lt (PySem.W.kas_sort vs.length)=some p)
  (h:∀ h' c,p.size=vs.length->(∀ b o,b≠a->s.heap.get? b=some o->h'.get? b=some o)->h'.get? a=some (seqObj "list" (List.toArray (p.toList.map fun i=>vs.getD i Value.none)) c)->P (.done (.ret .none)) { s with heap:=h' }) :
  wpAny (model prog w) A (Builtin.«list.sort» ⟨[.ref a],[]⟩) P E s:=by
 have ha:a < s.heap.objs.size:=za ho;obtain⟨e1,ho1⟩:∃ e1,(s.heap.update a (Obj.mapSeq fun _=>(#[]:Array Value))).get? a=some (seqObj "list" #[] e1):=⟨_,get?_update_seq ho fun _=>#[]⟩;have keep:∀ b o,b≠a->s.heap.get? b=some o->(((s.heap.update a (Obj.mapSeq fun _=>(#[]:Array Value))).push (seqObj "tuple" vs.toArray 0)).push (seqObj "list" #[] 0)).get? b=some o:=fun b o hb e=>by
  have hlt:b < s.heap.objs.size:=za e;rw[yj _ _ _ (by rw[size_push',yB];exact zE (xB hlt)),yj _ _ _ (by rw[yB];exact zE hlt),yU _ _ _ _ hb];exact e
 have ho6:(((s.heap.update a (Obj.mapSeq fun _=>(#[]:Array Value))).push (seqObj "tuple" vs.toArray 0)).push (seqObj "list" #[] 0)).get? a=some (seqObj "list" #[] e1):=by
  rw[yj _ _ _ (by rw[size_push',yB];exact zE (xB ha)),yj _ _ _ (by rw[yB];exact zE ha)];exact ho1
 rw[list_sort_plain];refine zw (listItems_at ho rfl ?_);refine zw (listUpdate_at ho rfl ?_ (by rw[zf,sizeLine_eq];omega) (zO _));refine zw (seqEpoch_at ho1 rfl ?_);refine zw (wpAny_newTuple ?_ (by show vs.length<=_;rw[sizeLine_eq];omega));refine zw (wpAny_newList ?_ (zO _));refine wpAny_holding ?_;show wpAny (model prog w) A _ P E { s with heap:=((s.heap.update a (Obj.mapSeq fun _=>(#[]:Array Value))).push (seqObj "tuple" vs.toArray 0)).push (seqObj "list" #[] 0) };dsimp only;have hn2:¬ vs.toArray.size < 2:=by rw[zf];omega
 rw[if_neg hn2,if_neg hn2];refine zw (wpAny_mono (hk _ keep (fun κ' s'=>κ'=κ/\s' = { s with heap:=((s.heap.update a (Obj.mapSeq fun _=>(#[]:Array Value))).push (seqObj "tuple" vs.toArray 0)).push (seqObj "list" #[] 0) }) ⟨rfl,rfl⟩) (fun κ' s0 hq=>?_) fun _ _ x=>x.elim);obtain⟨rfl,rfl⟩:=hq;refine zw (wpAny_mono (PySem.W.kat_run (Q:=fun st' s'=>∃ q:Array Nat,q.size=vs.length/\arrOf st'=q.map (PySem.W.kas_item (vs.toArray.zip vs.toArray))/\failedOf st'=none/\q=p/\s' = { s with heap:=((s.heap.update a (Obj.mapSeq fun _=>(#[]:Array Value))).push (seqObj "tuple" vs.toArray 0)).push (seqObj "list" #[] 0) })
  (G:=fun q s'=>q=p/\s' = { s with heap:=((s.heap.update a (Obj.mapSeq fun _=>(#[]:Array Value))).push (seqObj "tuple" vs.toArray 0)).push (seqObj "list" #[] 0) })
  rfl h2 h64 (fun p' st' s' a1 a2 a3 a4=>⟨p',a1,a2,a3,a4.1,a4.2⟩) (evalK_wp (hc _ keep) ⟨rfl,rfl⟩ _ he)) ?_ fun _ _ e=>e)
 rintro ⟨⟨⟩,st'⟩ s' ⟨q,hp,har,hf,rfl,rfl⟩;dsimp only;have hout:=PySem.W.kat_snds rfl har;have hsz:(List.toArray (q.toList.map fun i=>vs.getD i Value.none)).size=vs.length:=by rw[zf,zz,zW,hp]
 rw[hout];obtain⟨c2,hc2⟩:∃ c2,((((s.heap.update a (Obj.mapSeq fun _=>(#[]:Array Value))).push (seqObj "tuple" vs.toArray 0)).push (seqObj "list" #[] 0)).update a (Obj.mapSeq fun _=>List.toArray (q.toList.map fun i=>vs.getD i Value.none))).get? a=some (seqObj "list" (List.toArray (q.toList.map fun i=>vs.getD i Value.none)) c2):=⟨_,get?_update_seq ho6 fun _=>List.toArray (q.toList.map fun i=>vs.getD i Value.none)⟩;refine zw (seqEpoch_at ho6 rfl ?_);refine zw (listUpdate_at ho6 rfl ?_ (zO _) (zH (yY hsz) (by rw[sizeLine_eq];omega)));rw[hf];simp only[bne_self_eq_false,yq,if_false];refine zj (h _ c2 hp (fun b o hb e=>?_) hc2);rw[yU _ _ _ _ hb];exact keep b o hb e
end
end L3
namespace L3
open PySem PyProof.Rows L2
noncomputable def lexG {α:Type}[DecidableEq α](lt:α->α->Bool):List α->List α->Bool
 | [],[]=>false
 | [],_::_=>true
 | _::_,[]=>false
 | x::xs,y::ys=>if x=y then lexG lt xs ys else lt x y
section
open PySem.SeqAt
open PySem.AutoSeq1 (wpAny_loadPart')
open PySem.MeetsSeq PySem.MeetsSeq2 PySem.MeetsSeq3
variable {α:Type}[DecidableEq α]{f:α->V}{lt:α->α->Bool}
theorem tuple_lt_gen (he:∀ (A:Around) (s:Shared) (v w:Value) (a c:α),RelV (f a) v->RelV (f c) w->SeqAt.EqAt A s v w (decide (a=c)))
  (hq:∀ (A:Around) (s:Shared) (v w:Value) (a c:α) (prog:Program) (w':World) (E:Value->Shared->Prop) (Q:Value->Shared->Prop),RelV (f a) v->RelV (f c) w->Q (.bool (lt a c)) s->wpAny (model prog w') A (richCompare .Lt v w) Q E s)
  (l b:Addr) (items items2:Array Value) (n n2:Nat) (dd dd2:Option Addr) (sl sl2:Array (Option Value)) (ns ms:List α) (hi:Vals (ns.map f) items.toList) (hj:Vals (ms.map f) items2.toList) :
  Meets (Builtin.«tuple.__lt__» ⟨[.ref l,.ref b],[]⟩)
   (fun _ R s=>s.heap.get? l=some { cls:=.type "tuple",dict:=dd,data:=.seq items n,slots:=sl }/\s.heap.get? b=some { cls:=.type "tuple",dict:=dd2,data:=.seq items2 n2,slots:=sl2 } /\
    R (.ok (.ret (.bool (lexG lt ns ms)))) s) :=
 .of_wp fun prog w A R s h=>by
  obtain⟨hp,g,d,tk,os⟩:=s;obtain⟨hl,hb,h⟩:=h;have f2:=AutoSeq1.sub_tuple_tuple;have z1:items.size=ns.length:=by have:=hi.length;rw[zz]at this;rw[this];simp
  have z2:items2.size=ms.length:=by have:=hj.length;rw[zz]at this;rw[this];simp
  wp_walk using wpAny_loadPart' hl,wpAny_loadPart' hb,wpAny_forIn_list _ (fun rest b s'=>b.1=none/\s'=⟨hp,g,d,tk,os⟩/\∃ (vs ws:List Value) (ns' ms':List α),rest=vs.zip ws /\
   Vals (ns'.map f) vs/\Vals (ms'.map f) ws/\ns'.length + items2.size=ms'.length + items.size/\R (.ok (.ret (.bool (lexG lt ns' ms')))) ⟨hp,g,d,tk,os⟩) _
  case turn =>
   rintro ⟨y,x⟩ rest b s' ⟨hb',rfl,vs,ws,ns',ms',hz,hvi,hwi,hlen,hR⟩;cases ns' with
   | nil=>cases hvi;rw[List.zip_nil_left]at hz;cases hz
   | cons a ns' =>
    cases ms' with
    | nil=>cases hwi;rw[List.zip_nil_right]at hz;cases hz
    | cons c ms' =>
     cases hvi with
     | cons ra hvi' =>
     cases hwi with
     | cons rc hwi' =>
     rw[xk]at hz;injection hz with hyx hrest
     injection hyx with hy hx
     subst hy hx;rw[lexG]at hR;simp only[zM]at hlen;refine zw (he A.in1 ⟨hp,g,d,tk,os⟩ _ _ a c ra rc prog w _ _ ?_);by_cases e:a=c
     ·rw[if_pos e]at hR
      rw[decide_eq_true e];wp_walk;exact⟨rfl,rfl,_,_,_,_,hrest,hvi',hwi',by omega,hR⟩
     ·rw[if_neg e]at hR
      rw[decide_eq_false e];have hri:=fun E Q=>hq A.in1 ⟨hp,g,d,tk,os⟩ _ _ a c prog w E Q ra rc;wp_walk using hri;exact⟨_,rfl,by simpa using hR⟩
  case fin =>
   rintro ⟨b1,b2⟩ s' ⟨hb',rfl,vs,ws,ns',ms',hz,hvi,hwi,hlen,hR⟩;simp only at hb';subst hb';have hv:lexG lt ns' ms'=decide (items.size < items2.size):=by
    cases ns' with
    | nil =>
     cases ms' with
     | nil =>
      simp only[yg]at hlen;exact(decide_eq_false (by omega)).symm
     | cons c ms' =>
      simp only[yg,zM]at hlen;exact(decide_eq_true (by omega)).symm
    | cons a ns' =>
     cases ms' with
     | nil =>
      simp only[yg,zM]at hlen;exact(decide_eq_false (by omega)).symm
     | cons c ms' =>
      cases hvi;cases hwi;rw[xk]at hz;cases hz
   rw[hv]at hR;wp_walk;exact⟨_,rfl,by simpa [Builtin.Tuple.tupleCompareSizes] using hR⟩
  case h =>
   exact⟨rfl,rfl,items.toList,items2.toList,ns,ms,rfl,hi,hj,by omega,h⟩
variable {prog:Program}{w:World}{A:Around}{E:Value->Shared->Prop}{s:Shared}
theorem lt_tupG (he:∀ (A:Around) (s:Shared) (v w:Value) (a c:α),RelV (f a) v->RelV (f c) w->SeqAt.EqAt A s v w (decide (a=c)))
  (hq:∀ (A:Around) (s:Shared) (v w:Value) (a c:α) (prog:Program) (w':World) (E:Value->Shared->Prop) (Q:Value->Shared->Prop),RelV (f a) v->RelV (f c) w->Q (.bool (lt a c)) s->wpAny (model prog w') A (richCompare .Lt v w) Q E s)
  {l b:Addr} {us zs:List Value} {ns ms:List α} {Q:Value->Shared->Prop} (hl:IsTup s.heap l us.toArray) (hb:IsTup s.heap b zs.toArray) (hi:Vals (ns.map f) us) (hj:Vals (ms.map f) zs)
  (hu:A.units < cLine) (h:Q (.bool (lexG lt ns ms)) s):wpAny (model prog w) A (compareOp .Lt (.ref l) (.ref b)) Q E s:=by
 obtain⟨⟨cls,dd,data,sl⟩,ho,hc,n,hd⟩:=id hl;obtain⟨⟨cls2,dd2,data2,sl2⟩,ho2,hc2,n2,hd2⟩:=id hb;simp only at hc hd hc2 hd2;subst hc hd hc2 hd2;exact richCompare_meets_room (op:=.Lt) ⟨_,ho,rfl⟩ ⟨_,ho2,rfl⟩ PySem.F.slot_tuple_lt PySem.F.entry_tuple_lt (PySem.F.args_tuple_lt_2 _ _) (tuple_lt_gen he hq l b us.toArray zs.toArray n n2 dd dd2 sl sl2 ns ms (by simpa using hi) (by simpa using hj))
  ⟨ho,ho2,show Value.bool (lexG lt ns ms)≠Value.notImplemented/\Q (.bool (lexG lt ns ms)) s from ⟨(fun x=>nomatch x),h⟩⟩ hu
theorem all_same {ns ms:List α}:((List.range (min ns.length ms.length)).all (fun j=>decide (ns[j]?=ms[j]?))&&ns.length==ms.length)=decide (ns=ms):=by
 rw[yI,zc,zV,beq_iff_eq,decide_eq_true_eq];refine⟨fun ⟨h1,h2⟩=>?_,fun e=>?_⟩
 ·apply xC
  intro j;by_cases hj:j < ns.length
  ·exact of_decide_eq_true (h1 j (yh.mpr (by omega)))
  ·rw[zZ (by omega),zZ (by omega)]
 ·subst e
  exact⟨fun j _=>by simp,rfl⟩
theorem eqAt_tupG (he:∀ (A:Around) (s:Shared) (v w:Value) (a c:α),RelV (f a) v->RelV (f c) w->SeqAt.EqAt A s v w (decide (a=c)))(hf:∀ a c,f a=f c->a=c)
  {l b:Addr} {us zs:List Value} {ns ms:List α} (hl:IsTup s.heap l us.toArray) (hb:IsTup s.heap b zs.toArray) (hi:Vals (ns.map f) us) (hj:Vals (ms.map f) zs) (hu:A.units < cLine):SeqAt.EqAt A s (.ref l) (.ref b) (decide (ns=ms)):=by
 have l1:=hi.length;have l2:=hj.length;rw[zz]at l1 l2;by_cases hlb:l=b
 ·subst hlb
  obtain⟨o,ho,_,n,hd⟩:=hl;obtain⟨o',ho',_,n',hd'⟩:=hb;rw[ho]at ho';cases ho';rw[hd]at hd';injection hd' with e1 e2
  have e1:us=zs:=by simpa using e1
  subst e1;have e:=hi.inj hj
  have:ns=ms:=xV hf |>.mp e
  rw[decide_eq_true this];exact SeqAt.EqAt.same _
 ·refine SeqAt.EqAt.of_refs hlb ?_
  rw[<- all_same,l1,l2]
  have:=SeqAt.RcAt.tuples (A:=A) (s:=s) (e:=fun j=>decide (ns[j]?=ms[j]?)) hl hb hu (fun j h1 h2=>by
   have j1:j < us.length:=by simpa using h1
   have j2:j < zs.length:=by simpa using h2
   obtain⟨u,hu1,r1⟩:=hi.get (i:=j) (x:=f ns[j]) (by rw[zu,zv (by omega)];rfl);obtain⟨z,hz1,r2⟩:=hj.get (i:=j) (x:=f ms[j]) (by rw[zu,zv (by omega)];rfl);have e1:us.toArray[j]=u:=by
    rw[zv j1]at hu1;simpa using Option.some.inj hu1
   have e2:zs.toArray[j]=z:=by
    rw[zv j2]at hz1;simpa using Option.some.inj hz1
   rw[e1,e2,zv (show j < ns.length by omega),zv (show j < ms.length by omega)];have q:=he A.in1 s u z ns[j] ms[j] r1 r2;simpa using q)
  simpa using this
end
theorem he_int (A:Around)(s:Shared)(v w:Value)(a c:Int)(h1:RelV (.int a) v)(h2:RelV (.int c) w):SeqAt.EqAt A s v w (decide (a=c)):=by
 obtain⟨t,rfl⟩:=h1;obtain⟨u,rfl⟩:=h2;exact SeqAt.EqAt.int_int a t c u
theorem he_str (A:Around)(s:Shared)(v w:Value)(a c:Str)(h1:RelV (.str a) v)(h2:RelV (.str c) w):SeqAt.EqAt A s v w (decide (a=c)):=by
 obtain⟨t,rfl⟩:=h1;obtain⟨u,rfl⟩:=h2
 have:=SeqAt.EqAt.str_str (A:=A) (s:=s) a t c u
 rwa [show (a==c)=decide (a=c) from by rw[yI,beq_iff_eq,decide_eq_true_eq]]at this
noncomputable def ltI (a c:Int):Bool:=decide (a < c)
noncomputable def ltSt (a c:Str):Bool:=decide (a.cps.toList < c.cps.toList)
theorem hq_int (A:Around)(s:Shared)(v w:Value)(a c:Int)(prog:Program)(w':World)(E:Value->Shared->Prop)(Q:Value->Shared->Prop)(h1:RelV (.int a) v)(h2:RelV (.int c) w)(h:Q (.bool (ltI a c)) s):wpAny (model prog w') A (richCompare .Lt v w) Q E s:=by
 obtain⟨t,rfl⟩:=h1;obtain⟨u,rfl⟩:=h2;exact(lt_int h:wpAny (model prog w') A (compareOp .Lt (.int a t) (.int c u)) Q E s)
theorem hq_str (A:Around)(s:Shared)(v w:Value)(a c:Str)(prog:Program)(w':World)(E:Value->Shared->Prop)(Q:Value->Shared->Prop)(h1:RelV (.str a) v)(h2:RelV (.str c) w)(h:Q (.bool (ltSt a c)) s):wpAny (model prog w') A (richCompare .Lt v w) Q E s:=by
 obtain⟨t,rfl⟩:=h1;obtain⟨u,rfl⟩:=h2;exact(lt_str h:wpAny (model prog w') A (compareOp .Lt (.str a t) (.str c u)) Q E s)
noncomputable abbrev Gk:=List Int×List Str
noncomputable def gD (g:Gk):D:=.tup [.tup (g.1.map .int),.tup (g.2.map .str)]
noncomputable def gP2 (is ks:List D):Option Gk:=match allI is,allS ks with
 | some a,some b=>some (a,b)
 | _,_=>none
noncomputable def gP:D->Option Gk
 | .tup [.tup is,.tup ks]=>gP2 is ks
 | _=>none
noncomputable def gsP:List D->Option (List Gk)
 | []=>some []
 | d::ds=>match gP d,gsP ds with
  | some g,some gs=>some (g::gs)
  | _,_=>none
theorem gP_eq {d:D}{g:Gk}(h:gP d=some g):d=gD g:=by
 unfold gP at h;split at h
 ·rename_i is ks
  unfold gP2 at h;split at h
  ·rename_i a b ha hb
   cases h;rw[allI_eq ha,allS_eq hb];rfl
  ·cases h
 ·cases h
theorem gsP_eq:∀ {ds:List D} {gs:List Gk},gsP ds=some gs->ds=gs.map gD
 | [],gs,h=>by cases h;rfl
 | d::ds,gs,h=>by
  rw[gsP]at h;split at h
  ·rename_i g gs' hg hgs
   cases h;rw[ze,gP_eq hg,gsP_eq hgs]
  ·cases h
noncomputable def ltG (g h:Gk):Bool:=if g.1=h.1 then (if g.2=h.2 then false else lexG ltSt g.2 h.2) else lexG ltI g.1 h.1
noncomputable def cmpP (gs:List Gk)(i j:Nat):Option Bool:=match gs[i]?,gs[j]? with
 | some a,some b=>some (ltG a b)
 | _,_=>none
noncomputable def sortP (ds:List D):Option (List D):=match gsP ds with
 | some gs=>if (decide (2<=ds.length)&&decide (ds.length < 64))=true then (evalK (cmpP gs) (PySem.W.kas_sort ds.length)).map fun p=>p.toList.map fun i=>ds.getD i .non else none
 | none=>none
end L3
namespace L3
open PySem PySem.Spec PyProof.Rows L2
noncomputable def lexK:List D->List D->Option Bool
 | [],[]=>some false
 | [],_::_=>some true
 | _::_,[]=>some false
 | x::xs,y::ys=>if (flatD x&&flatD y)=true then (if eqF x y=true then lexK xs ys else ltD x y) else none
noncomputable def firstStr:D->Bool
 | .tup (.str _::_)=>true
 | _=>false
noncomputable def firstInt:D->Bool
 | .tup (.int _::_)=>true
 | _=>false
noncomputable def cmpT (ds:List D)(i j:Nat):Option Bool:=match ds[i]?,ds[j]? with
 | some (.tup xs),some (.tup ys)=>lexK xs ys
 | _,_=>none
noncomputable def sortT (ds:List D):Option (List D):=if ds.length < 2 then some ds else if (decide (ds.length < 64)&&(ds.all firstStr||ds.all firstInt))=true then
 (evalK (cmpT ds) (PySem.W.kas_sort ds.length)).map fun p=>p.toList.map fun i=>ds.getD i .non else none
noncomputable def sortQ (ds:List D):Option (List D):=match sortP ds with
 | some ys=>some ys
 | none=>sortT ds
noncomputable def sortD (ds:List D):Option (List D):=match sortF ds with
 | some ys=>if ds.length < 64 then some ys else none
 | none=>sortQ ds
theorem sortD_str {xs:List Str}(h:xs.length < 64):sortD (xs.map .str)=some ((sortS xs).map .str):=by
 unfold sortD sortF;rw[allS_map];dsimp only;rw[if_pos (by rw[zz];exact h)]
section
variable {X:Cx}{pins:List (Addr×Obj)}{σ:St}{H:Hp}{s:Shared}{ι:List Addr}{A:Around}
noncomputable def TupAt (h:Heap)(u:Value)(us:List Value):Prop:=∃ a o n,u=.ref a/\h.get? a=some o/\o.cls=.type "tuple"/\o.data=.seq us.toArray n
theorem tupAt_of (I:Inv X pins σ H s){d:D}{ds:List D}{v:V}{u:Value}(r:Rep X.K ι H (.tup ds) v)(ru:RelV v u):∃ vs us,Reps X.K ι H ds vs/\Vals vs us/\TupAt s.heap u us:=by
 cases r with
 | tup t q =>
  obtain⟨its,rv,⟨o,h1,h2,n,h3⟩,_⟩:=I.tuple (sqt t);cases ru;exact⟨_,its,q,rv,_,o,n,rfl,h1,h2,h3⟩
theorem lex_wp {b fin:Bool}{Q:Bool->Shared->Prop}{xs:List D}:∀ {ys:List D} {vs ws:List V} {us zs:List Value} {c:Bool} {i:Nat} {s:Shared},Reps X.K ι H xs vs->Reps X.K ι H ys ws->Vals vs us->Vals ws zs->lexK xs ys=some c->(decide (xs.length < ys.length)=fin) ->
  Q c s->(b=true->i=0->∃ x y xs' ys',xs=x::xs'/\ys=y::ys'/\((∃ p q,x=.str p/\y=.str q)\/∃ p q,x=.int p/\y=.int q))->PySem.W.KatLex X.prog X.w A b fin Q (us.zip zs) i s:=by
 induction xs with
 | nil =>
  intro ys vs ws us zs c i s r1 r2 g1 g2 h hf q _;cases r1;cases g1;cases r2 with
  | nil =>
   cases g2;simp only[lexK,Option.some.injEq]at h;subst h
   have:fin=false:=by rw[<- hf];rfl
   subst this;exact PySem.W.kat_nil q
  | cons r2 t2 =>
   cases g2 with
   | cons g2 k2 =>
    simp only[lexK,Option.some.injEq]at h;subst h
    have:fin=true:=by rw[<- hf];simp
    subst this;exact PySem.W.kat_nil q
 | cons x xs ih =>
  intro ys vs ws us zs c i s r1 r2 g1 g2 h hf q h0;cases r1 with
  | cons r1 t1 =>
  cases g1 with
  | cons g1 k1 =>
  cases ys with
  | nil =>
   cases r2;cases g2;simp only[lexK,Option.some.injEq]at h;subst h
   have:fin=false:=by rw[<- hf];simp
   subst this;exact PySem.W.kat_nil q
  | cons y ys =>
  cases r2 with
  | cons r2 t2 =>
  cases g2 with
  | cons g2 k2 =>
  simp only[lexK]at h;split at h
  ·rename_i hfl
   rw[zc]at hfl;rw[xk];have eq:=eqAt_V (A:=A) (s:=s) g1 g2 (flat_rep r1 hfl.1) (flat_rep r2 hfl.2);refine PySem.W.kat_cons (eq X.prog X.w _ _ ?_);rw[eq_rep r1 r2 hfl.1 hfl.2];split at h
   ·rename_i he
    rw[he];refine PySem.W.kat_yes (ih t1 t2 k1 k2 h (by rw[<- hf];simp) q fun _ z=>by omega)
   ·rename_i he
    have he':eqF x y=false:=by simpa using he
    rw[he'];refine PySem.W.kat_no ?_;cases hb:(b&&i==0) with
    | true =>
     cases r1 <;> cases r2 <;> simp only[ltD,Option.some.injEq,reduceCtorEq]at h
     ·obtain⟨t,rfl⟩:=g1
      obtain⟨t',rfl⟩:=g2;exact oneLt_int (by rw[h];exact q)
     ·obtain⟨t,rfl⟩:=g1
      obtain⟨t',rfl⟩:=g2;exact oneLt_str (by rw[h];exact q)
    | false =>
     refine PySem.W.kat_one _ _ ?_;cases r1 <;> cases r2 <;> simp only[ltD,Option.some.injEq,reduceCtorEq]at h
     ·obtain⟨t,rfl⟩:=g1
      obtain⟨t',rfl⟩:=g2;exact lt_int (by show Q (decide _) s;rw[h];exact q)
     ·obtain⟨t,rfl⟩:=g1
      obtain⟨t',rfl⟩:=g2;exact lt_str (by show Q (decide _) s;rw[h];exact q)
  ·cases h
end
end L3
namespace L3
open PySem PySem.Spec PyProof.Rows L2
section
variable {X:Cx}{pins:List (Addr×Obj)}{σ:St}{H:Hp}{s:Shared}{ι:List Addr}{A:Around}
theorem reps_intsG:∀ {xs:List Int} {vs:List V},Reps X.K ι H (xs.map .int) vs->vs=xs.map V.int
 | [],_,.nil=>rfl
 | x::xs,_,.cons r t=>by cases r;rw[reps_intsG t];rfl
theorem reps_strsG:∀ {xs:List Str} {vs:List V},Reps X.K ι H (xs.map .str) vs->vs=xs.map V.str
 | [],_,.nil=>rfl
 | x::xs,_,.cons r t=>by cases r;rw[reps_strsG t];rfl
noncomputable def GAt (h:Heap)(g:Gk)(u:Value)(p:Addr):Prop:=∃ a o n k us1 us2,u=.ref a/\h.get? a=some o/\o.cls=.type "tuple"/\o.data=.seq #[.ref p,.ref k] n/\IsTup h p us1.toArray/\Vals (g.1.map .int) us1/\IsTup h k us2.toArray/\Vals (g.2.map .str) us2
theorem isTup_keeps {h h':Heap}{a:Addr}{its:Array Value}(kk:∀ b o,h.get? b=some o->o.cls=.type "tuple"->h'.get? b=some o)(t:IsTup h a its):IsTup h' a its:=by
 obtain⟨o,ho,hc,r⟩:=t;exact⟨o,kk _ _ ho hc,hc,r⟩
theorem GAt.keeps {h h':Heap}{g:Gk}{u:Value}{p:Addr}(kk:∀ b o,h.get? b=some o->o.cls=.type "tuple"->h'.get? b=some o)(t:GAt h g u p):GAt h' g u p:=by
 obtain⟨a,o,n,k,us1,us2,h1,h2,h3,h4,h5,h6,h7,h8⟩:=t;exact⟨a,o,n,k,us1,us2,h1,kk _ _ h2 h3,h3,h4,isTup_keeps kk h5,h6,isTup_keeps kk h7,h8⟩
theorem g_at (I:Inv X pins σ H s){g:Gk}{v:V}{u:Value}(r:Rep X.K ι H (gD g) v)(ru:RelV v u):∃ p,GAt s.heap g u p:=by
 obtain⟨vs,us,q,rv,a,o,n,rfl,ho,hc,hd⟩:=tupAt_of (d:=.non) I r ru;cases q with
 | cons q1 q =>
 cases q with
 | cons q2 q =>
 cases q;cases rv with
 | cons w1 rv =>
 cases rv with
 | cons w2 rv =>
 cases rv;obtain⟨vs1,us1,y1,z1,p,o1,n1,rfl,ho1,hc1,hd1⟩:=tupAt_of (d:=.non) I q1 w1;obtain⟨vs2,us2,y2,z2,k,o2,n2,rfl,ho2,hc2,hd2⟩:=tupAt_of (d:=.non) I q2 w2;rw[reps_intsG y1]at z1;rw[reps_strsG y2]at z2;exact⟨p,a,o,n,k,us1,us2,rfl,ho,hc,hd,⟨o1,ho1,hc1,n1,hd1⟩,z1,⟨o2,ho2,hc2,n2,hd2⟩,z2⟩
theorem g_less {prog:Program}{w:World}{g h:Gk}{u z:Value}{p q:Addr}{Q:Bool->Shared->Prop}{E:Value->Shared->Prop}(x:GAt s.heap g u p)(y:GAt s.heap h z q)(hu:A.units < cLine)(hq:Q (ltG g h) s):wpAny (model prog w) A (keyLt' (tuples' false) u z) Q E s:=by
 obtain⟨a,o,n,k,us1,us2,rfl,h2,h3,h4,h5,h6,h7,h8⟩:=x;obtain⟨a',o',n',k',us1',us2',rfl,y2,y3,y4,y5,y6,y7,y8⟩:=y;refine PySem.W.kat_lt h2 h4 y2 y4 ?_;show PySem.W.KatLex prog w A false false Q [(.ref p,.ref q),(.ref k,.ref k')] 0 s;unfold ltG at hq;refine PySem.W.kat_cons (eqAt_tupG (f:=V.int) he_int (fun a c e=>by cases e;rfl) h5 y5 h6 y6 hu prog w _ _ ?_);by_cases e:g.1=h.1
 ·rw[if_pos e]at hq
  rw[decide_eq_true e];refine PySem.W.kat_yes (PySem.W.kat_cons (eqAt_tupG (f:=V.str) he_str (fun a c e=>by cases e;rfl) h7 y7 h8 y8 hu prog w _ _ ?_));by_cases e2:g.2=h.2
  ·rw[if_pos e2]at hq
   rw[decide_eq_true e2];exact PySem.W.kat_yes (PySem.W.kat_nil hq)
  ·rw[if_neg e2]at hq
   rw[decide_eq_false e2];exact PySem.W.kat_no (PySem.W.kat_one _ _ (lt_tupG (f:=V.str) (lt:=ltSt) he_str hq_str h7 y7 h8 y8 hu hq))
 ·rw[if_neg e]at hq
  rw[decide_eq_false e];exact PySem.W.kat_no (PySem.W.kat_one _ _ (lt_tupG (f:=V.int) (lt:=ltI) he_int hq_int h5 y5 h6 y6 hu hq))
theorem g_firsts (I:Inv X pins σ H s):∀ {gs:List Gk} {vs:List V} {us:List Value},Reps X.K ι H (gs.map gD) vs->Vals vs us ->
  ∃ fs,(∀ h',(∀ b o,s.heap.get? b=some o->o.cls=.type "tuple"->h'.get? b=some o)->PySem.W.KatTups h' us fs/\∀ (M:Model),∀ f∈fs,PySem.W.Looks M h' (typeOf f) (.type "tuple"))/\fs.length=us.length
 | [],_,_,.nil,.nil=>⟨[],fun _ _=>⟨.nil,fun _ f hf=>nomatch hf⟩,rfl⟩
 | g::gs,_,_,.cons r t,.cons y k=>by
  obtain⟨fs,h1,h2⟩:=g_firsts I t k;obtain⟨p,a,o,n,k',us1,us2,rfl,ho,hc,hd,⟨o1,ho1,hc1,_⟩,_⟩:=g_at I r y;refine⟨.ref p::fs,fun h' kk=>⟨PySem.W.KatTups.cons (kk _ _ ho hc) hc hd rfl (h1 h' kk).1,fun M f hf=>?_⟩,by rw[zM,zM,h2]⟩;rcases zN.mp hf with rfl | hf
  ·have:PySem.W.Looks M h' (typeOf (.ref p)) o1.cls:=(PySem.W.Looks.ld (kk _ _ ho1 hc1)).andThen .now
   rw[hc1]at this;exact this
  ·exact(h1 h' kk).2 M f hf
end
end L3
namespace L3
open PySem PySem.Spec PyProof.Rows L2
section
variable {X:Cx}{pins:List (Addr×Obj)}{σ:St}{H:Hp}{s:Shared}{ι:List Addr}{M:MH}
theorem firsts_of (I:Inv X pins σ H s){T:Value}{ds:List D}:∀ {vs:List V} {us:List Value},Reps X.K ι H ds vs->Vals vs us->(∀ d∈ds,∃ x xs,d=.tup (x::xs)/\∀ (v:V) (u:Value),Rep X.K ι H x v->RelV v u->typeOf u=pure T) ->
  ∃ fs,(∀ h',(∀ b o,s.heap.get? b=some o->o.cls=.type "tuple"->h'.get? b=some o)->PySem.W.KatTups h' us fs)/\fs.length=us.length/\∀ f∈fs,typeOf f=pure T:=by
 induction ds with
 | nil =>
  intro vs us r g _;cases r;cases g;exact⟨[],fun _ _=>.nil,rfl,fun _ h=>by simp at h⟩
 | cons d ds ih =>
  intro vs us r g h;cases r with
  | cons r t =>
  cases g with
  | cons g k =>
  obtain⟨x,xs,rfl,hx⟩:=h d zD;obtain⟨fs,h1,h2,h3⟩:=ih t k fun e he=>h e (zK _ he);obtain⟨vs',us',q,rv,a,o,n,rfl,ho,hc,hd⟩:=tupAt_of (d:=.non) I r g;cases q with
  | cons q1 q2 =>
   cases rv with
   | cons g1 g2 =>
    rename_i v1 vr u1 ur;refine⟨u1::fs,fun h' kk=>PySem.W.KatTups.cons (kk _ _ ho hc) hc hd (by simp) (h1 h' kk),by rw[zM,zM,h2],fun f hf=>?_⟩;rcases zN.mp hf with rfl | hf
    ·exact hx v1 _ q1 g1
    ·exact h3 f hf
theorem vals_getD {vs:List V}{us:List Value}(r:Vals vs us)(i:Nat):RelV (vs.getD i .non) (us.getD i Value.none):=by
 rw[zm,zm];cases e:vs[i]? with
 | none=>rw[r.none_of e];rfl
 | some v =>
  obtain⟨u,hu,ru⟩:=r.get e;rw[hu];exact ru
theorem reps_getD {ds:List D}{vs:List V}(r:Reps X.K ι H ds vs)(i:Nat):Rep X.K ι H (ds.getD i .non) (vs.getD i .non):=by
 rw[zm,zm];cases e:ds[i]? with
 | none =>
  have:vs[i]?=none:=yM.mpr (by rw[<- r.length];exact yM.mp e)
  rw[this];exact .non
 | some d =>
  obtain⟨v,hv,rv⟩:=r.get e;rw[hv];exact rv
theorem vals_map {α:Type}{f:α->V}{g:α->Value}(h:∀ i,RelV (f i) (g i)):∀ l:List α,Vals (l.map f) (l.map g)
 | []=>.nil
 | i::l=>.cons (h i) (vals_map h l)
theorem reps_map {α:Type}{f:α->D}{g:α->V}(h:∀ i,Rep X.K ι H (f i) (g i)):∀ l:List α,Reps X.K ι H (l.map f) (l.map g)
 | []=>.nil
 | i::l=>.cons (h i) (reps_map h l)
theorem strsA:∀ {xs:List Str} {vs:List V} {us:List Value},Reps X.K ι H (xs.map .str) vs->Vals vs us->StrsAre us xs
 | [],_,_,.nil,.nil=>.nil
 | x::xs,_,_,.cons r t,.cons g k=>by
  cases r;obtain⟨t',rfl⟩:=g;exact .cons x t' (strsA t k)
theorem ofStrsA:∀ {xs:List Str} {us:List Value},StrsAre us xs->Vals (xs.map V.str) us/\Reps X.K ι H (xs.map .str) (xs.map V.str)
 | _,_,.nil=>⟨.nil,.nil⟩
 | _,_,.cons x t h=>⟨.cons ⟨t,rfl⟩ (ofStrsA h).1,.cons (.str x) (ofStrsA h).2⟩
theorem ofIntsA:∀ {xs:List Int} {us:List Value},IntsAre us xs->Vals (xs.map V.int) us/\Reps X.K ι H (xs.map .int) (xs.map V.int)
 | _,_,.nil=>⟨.nil,.nil⟩
 | _,_,.cons x t h=>⟨.cons ⟨t,rfl⟩ (ofIntsA h).1,.cons (.int x) (ofIntsA h).2⟩
theorem rising_pw:∀ {p:Str} {l:List Str},risingS p l=true->(p::l).Pairwise fun a b=>leS a b=true
 | p,[],_=>xc _ _
 | p,x::r,h=>by
  have h:(!ltCps x.cps.toList p.cps.toList&&risingS x r)=true:=h;rw[zc,ltCps_eq]at h;have h2:=rising_pw h.2;refine xj.mpr ⟨fun b hb=>?_,h2⟩;rcases zN.mp hb with rfl | hb
  ·exact h.1
  ·exact leS_trans _ _ _ h.1 (List.rel_of_pairwise_cons h2 hb)
theorem sorted_pw {l:List Str}(h:sortedS l=true):l.Pairwise fun a b=>leS a b=true:=by
 cases l with
 | nil=>exact .nil
 | cons x r=>exact rising_pw h
theorem sort_tracked {A:Around}{E:Value->Shared->Prop}(hu:A.units + 10 < cLine)(I:Inv X pins σ H s){l:Addr}{vs:List V}{ds ys:List D}(hl:H l=some (.lst vs))(r:Reps X.K ι H ds vs)(hs:sortD ds=some ys){Q:Value->Shared->Prop}
  (q:∀ (ws:List V) (s':Shared),Reps X.K ι H ys ws->Inv X pins σ (upd H l (.lst ws)) s'->Q .none s'):wpAny (model X.prog X.w) A (call (.builtin "list.sort") [.ref l]) Q E s:=by
 obtain⟨hz,its,n,rv,hg⟩:=I.hok l _ hl;have hlen:ds.length=its.length:=by rw[r.length,rv.length]
 have fin:∀ (ws:List V) (us:List Value) (h':Heap) (c:Nat),Reps X.K ι H ys ws->Vals ws us->ws.length<=zh->(∀ b o,b≠l->s.heap.get? b=some o->h'.get? b=some o)->h'.get? l=some (seqObj "list" us.toArray c)->Q .none { s with heap:=h' }:=fun ws us h' c hr hv hw kk hg' =>
  q ws _ hr (I.write (x:=l) (e:=l) (t':=s.toks) (by rw[hl];trivial) (.inl rfl) kk ⟨_,hg'⟩ ⟨hw,us,c,hv,hg'⟩)
 refine wpAny_call_entry slot_list_sort ⟨_,hg,rfl⟩ entry_list_sort ?_ (args_list_sort _);have hout:∀ {out:Array Value} (b:Addr) (o:Obj),b≠l->s.heap.get? b=some o->(sortedHeap s.heap l its out).get? b=some o:=fun b o hb e=>by
  rw[sortedHeap_old hb (za e)];exact e
 unfold sortD at hs;split at hs
 ·rename_i ys' hf
  split at hs
  ·rename_i h64
   cases hs;have h64':its.length < 64:=by rw[<- hlen];exact h64
   unfold sortF at hf;split at hf
   ·rename_i xs hx
    cases hf;have ex:=allS_eq hx;subst ex;have hS:=strsA r rv;refine list_sort_treeK strKind_oneLt hg hS.keysOf (fun v₁ v₂ rest e=>keyKind_strs (by rw[<- e];exact hS)) h64' fun st' hp hs=>?_;obtain⟨ss',h1,h2,h3⟩:=sorted_out_str hS hp hs;have e:=sortS_uniq h2 (sorted_pw h3);subst e;obtain⟨g1,g2⟩:=ofStrsA (X:=X) (H:=H) (ι:=ι) h1;obtain⟨c,hc⟩:=sortedHeap_at (out:=(arrOf st').map (·.2)) hg;exact⟨_,rfl,fin _ _ _ c g2 g1 (by rw[zz,(sortS_perm xs).length_eq,sizeLine_eq];rw[zz]at h64;omega) hout (by rw[hc])⟩
   ·split at hf
    ·rename_i xs hx
     cases hf;have ex:=allI_eq hx;subst ex;have hS:=intsA r rv;refine list_sort_tree hg hS h64' fun out ss' h1 h2 h3=>?_;have e:=sortI_uniq h2 h3;subst e;obtain⟨g1,g2⟩:=ofIntsA (X:=X) (H:=H) (ι:=ι) h1;obtain⟨c,hc⟩:=sortedHeap_at (out:=out) hg;exact⟨_,rfl,fin _ _ _ c g2 g1 (by rw[zz,(sortI_perm xs).length_eq,sizeLine_eq];rw[zz]at h64;omega) hout (by rw[hc])⟩
    ·cases hf
  ·cases hs
 unfold sortQ at hs;split at hs
 ·rename_i ys' hp
  cases hs;unfold sortP at hp;split at hp
  ·rename_i gs hgs
   have eg:=gsP_eq hgs;subst eg;split at hp
   ·rename_i h2
    simp only[zc,decide_eq_true_eq]at h2;cases he:evalK (cmpP gs) (PySem.W.kas_sort (gs.map gD).length) with
    | none=>rw[he]at hp;cases hp
    | some p =>
     rw[he]at hp;simp only[xy,Option.some.injEq]at hp;subst hp;obtain⟨fs,f1,f2⟩:=g_firsts I r rv;have tk:∀ {h':Heap},(∀ b o,b≠l->s.heap.get? b=some o->h'.get? b=some o)->∀ b o,s.heap.get? b=some o->o.cls=.type "tuple"->h'.get? b=some o:=fun {h'} kk b o e hc=>kk b o (fun z=>by
      subst z;rw[hg]at e;cases e;exact absurd hc (by show ¬ (Value.type "list" = Value.type "tuple");decide)) e
     refine list_sort_any (κ:=tuples' false) (lt:=cmpP gs) (p:=p) hg (by omega) (by omega) (fun h' kk Q' hq=>?_) (fun h' kk i j b C hlt hC=>?_) (by rw[<- hlen];exact he) (fun h' c hps kk hg'=>?_)
     ·exact PySem.W.kat_kind (f1 h' (tk kk)).1 (by rw[f2];omega) ((f1 h' (tk kk)).2 _) (by decide) hq
     ·unfold cmpP at hlt
      split at hlt
      ·rename_i g1 g2 hx hy
       cases hlt;obtain⟨v1,hv1,q1⟩:=r.get (i:=i) (d:=gD g1) (by rw[zu,hx];rfl);obtain⟨v2,hv2,q2⟩:=r.get (i:=j) (d:=gD g2) (by rw[zu,hy];rfl);obtain⟨u1,hu1,ru1⟩:=rv.get hv1;obtain⟨u2,hu2,ru2⟩:=rv.get hv2;obtain⟨p1,a1⟩:=g_at I q1 ru1;obtain⟨p2,a2⟩:=g_at I q2 ru2;unfold PySem.W.kas_ask;have z1:its.getD i Value.none=u1:=by rw[zm,hu1];rfl
       have z2:its.getD j Value.none=u2:=by rw[zm,hu2];rfl
       rw[z1,z2];exact g_less (s:={ s with heap:=h' }) (a1.keeps (tk kk)) (a2.keeps (tk kk)) (by show A.units + 1 < cLine;omega) hC
      ·cases hlt
     ·refine⟨_,rfl,fin (p.toList.map fun i=>vs.getD i .non) _ h' c (reps_map (fun i=>reps_getD r i) _) (vals_map (fun i=>vals_getD rv i) _) ?_ kk hg'⟩
      rw[zz,zW,hps,sizeLine_eq];omega
   ·cases hp
  ·cases hp
 unfold sortT at hs;split at hs
 ·rename_i h2
  cases hs;exact list_sort_small hg (by rw[<- hlen];exact h2) fun h' c kk hg'=>⟨_,rfl,fin vs its h' c r rv hz kk hg'⟩
 ·rename_i h2
  split at hs
  ·rename_i hb
   simp only[zc,decide_eq_true_eq,yN]at hb;cases he:evalK (cmpT ds) (PySem.W.kas_sort ds.length) with
   | none=>rw[he]at hs;cases hs
   | some p =>
    rw[he]at hs;simp only[xy,Option.some.injEq]at hs;subst hs;have key:∀ T:Value,(T==T)=true->(∀ d∈ds,∃ x xs,d=.tup (x::xs)/\∀ (v:V) (u:Value),Rep X.K ι H x v->RelV v u->typeOf u=pure T)->T≠.type "tuple" ->
      wpAny (model X.prog X.w) A.in1 (Builtin.«list.sort» ⟨[.ref l],[]⟩) (fun fin s'=>∃ v,fin=.done (.ret v)/\Q v s') E s:=fun T hT hd hne=>by
     obtain⟨fs,f1,f2,f3⟩:=firsts_of I r rv hd;have tk:∀ {h':Heap},(∀ b o,b≠l->s.heap.get? b=some o->h'.get? b=some o)->∀ b o,s.heap.get? b=some o->o.cls=.type "tuple"->h'.get? b=some o:=fun {h'} kk b o e hc=>kk b o (fun z=>by
      subst z;rw[hg]at e;cases e;exact absurd hc (by show ¬ (Value.type "list" = Value.type "tuple");decide)) e
     refine list_sort_any (κ:=tuples' (T != Value.type "tuple")) (lt:=cmpT ds) (p:=p) hg (by first | lia | omega) (by first | lia | omega) (fun h' kk Q' hq=>?_) (fun h' kk i j b C hlt hC=>?_) (by rw[<- hlen];exact he) (fun h' c hps kk hg'=>?_)
     ·exact PySem.W.kat_kind (f1 h' (tk kk)) (by rw[f2];omega) (fun f hf=>PySem.W.Looks.of_pure (f3 f hf)) hT hq
     ·unfold cmpT at hlt
      split at hlt
      ·rename_i xs ys hx hy
       obtain⟨v1,hv1,q1⟩:=r.get hx;obtain⟨v2,hv2,q2⟩:=r.get hy;obtain⟨u1,hu1,ru1⟩:=rv.get hv1;obtain⟨u2,hu2,ru2⟩:=rv.get hv2;have hmx:=hd _ (zn hx);have hmy:=hd _ (zn hy);obtain⟨vs1,us1,g1,g2,a1,o1,n1,e1,ho1,hc1,hd1⟩:=tupAt_of (d:=.non) I q1 ru1;obtain⟨vs2,us2,k1,k2,a2,o2,n2,e2,ho2,hc2,hd2⟩:=tupAt_of (d:=.non) I q2 ru2;unfold PySem.W.kas_ask;have z1:its.getD i Value.none=.ref a1:=by rw[zm,hu1,e1];rfl
       have z2:its.getD j Value.none=.ref a2:=by rw[zm,hu2,e2];rfl
       rw[z1,z2];refine PySem.W.kat_lt (s:={ s with heap:=h' }) (tk kk _ _ ho1 hc1) hd1 (tk kk _ _ ho2 hc2) hd2 ?_;refine lex_wp (X:=X) (xs:=xs) (ys:=ys) g1 k1 (by simpa using g2) (by simpa using k2) hlt ?_ hC ?_
       ·have l1:=g1.length
        have l2:=g2.length;have l3:=k1.length;have l4:=k2.length;simp only[zf];congr 1;rw[eq_iff_iff];first | lia | omega
       ·intro _ _
        obtain⟨x,xr,ex,hx'⟩:=hmx;obtain⟨y,yr,ey,hy'⟩:=hmy;cases ex;cases ey;rcases hb.2 with z | z
        ·have a1:=zV.mp z _ (zn hx)
         have a2:=zV.mp z _ (zn hy);cases x <;> simp[firstStr]at a1;cases y <;> simp[firstStr]at a2;exact⟨_,_,_,_,rfl,rfl,.inl ⟨_,_,rfl,rfl⟩⟩
        ·have a1:=zV.mp z _ (zn hx)
         have a2:=zV.mp z _ (zn hy);cases x <;> simp[firstInt]at a1;cases y <;> simp[firstInt]at a2;exact⟨_,_,_,_,rfl,rfl,.inr ⟨_,_,rfl,rfl⟩⟩
      ·cases hlt
     ·refine⟨_,rfl,fin (p.toList.map fun i=>vs.getD i .non) _ h' c (reps_map (fun i=>reps_getD r i) _) (vals_map (fun i=>vals_getD rv i) _) ?_ kk hg'⟩
      rw[zz,zW,hps,sizeLine_eq];omega
    rcases hb.2 with z | z
    ·refine key (.type "str") (by decide) (fun d hd=>?_) (by decide)
     have a1:=zV.mp z _ hd;cases d <;> simp[firstStr]at a1;rename_i ds';cases ds' with
     | nil=>simp[firstStr]at a1
     | cons x xs =>
      cases x <;> simp[firstStr]at a1;refine⟨_,_,rfl,fun v u r1 r2=>?_⟩;cases r1;obtain⟨t,rfl⟩:=r2;rfl
    ·refine key (.type "int") (by decide) (fun d hd=>?_) (by decide)
     have a1:=zV.mp z _ hd;cases d <;> simp[firstInt]at a1;rename_i ds';cases ds' with
     | nil=>simp[firstInt]at a1
     | cons x xs =>
      cases x <;> simp[firstInt]at a1;refine⟨_,_,rfl,fun v u r1 r2=>?_⟩;cases r1;obtain⟨t,rfl⟩:=r2;rfl
  ·cases hs
end
end L3
namespace L3
open PySem PySem.Spec PyProof.Rows L2
section
variable {X:Cx}
end
section
variable {X:Cx}
theorem call_sortedL (hu:X.A.units + 100 < cLine):CallR X (.builtin "sorted") (fun xs H Q=>∃ p vs ι M ds ys,xs=[.ref p]/\SqL X.K H p vs/\Sim X.K ι M H/\Reps X.K ι H ds vs/\sortD ds=some ys /\
  ∀ v H' ι',Rep X.K ι' H' (.ob M.length) v->Sim X.K ι' (M++[.lst ys]) H'->Ext X.K ι H ι' H'->Q v H'):=by
 intro pins s σ H xs us Q I rv h;obtain⟨p,vs,ι,M,ds,ys,rfl,hp,S,r,hs,k⟩:=h;obtain⟨u,rfl,ru⟩:=vals1 rv;cases ru;obtain⟨its,rel,pl,hz⟩:=I.list hp;have hl:its.length<=zh:=by rw[<- rel.length];exact hz
 refine Calls.call_function_entry kind_sorted plain_sorted entry_sorted (args_sorted1 _) ?_;unfold Builtin.«sorted»;refine zw (m:=checkCount "sorted" 1 1 _) (zj ?_);refine zw (collect_list pl.isList ?_ hl);generalize hh:(s.heap.push (seqObj "list" #[] 0)).update s.heap.objs.size (Obj.mapSeq (·++its.toArray))=h';have keep:∀ b o,s.heap.get? b=some o->h'.get? b=some o:=fun b o q=>by
  have hlt:b < s.heap.objs.size:=za q;rw[<- hh,yU _ _ _ _ (zE hlt),yj _ _ _ (zE hlt)];exact q
 have I1:Inv X pins σ H { s with heap:=h' }:=I.kept (t':=s.toks) keep;refine zw (wpAny_newList ?_ hl);have fr:H h'.objs.size=none:=I1.hok.fresh (zo _);have I3:Inv X pins σ (upd H h'.objs.size (.lst vs)) { s with heap:=h'.push { cls:=.type "list",data:=.seq its.toArray } } :=
  I1.laid (t':=s.toks) (fun b o e=>zb _ e) (zo _) ⟨hz,its,0,rel,zR _ rfl⟩
 have R3:=r.mono (Ext.tupN (ho:=.lst vs) fr);refine zw (wpAny_holding (sort_tracked (ι:=ι) (by first | (show X.A.units + 1 + 10 < cLine;omega) | (show X.A.units + 10 < cLine;omega)) I3 upd_same R3 hs fun ws' s' hr hI=>?_))
 refine zj ⟨_,rfl,?_⟩;rw[upd_upd]at hI;have X4:Ext X.K ι H (ι++[h'.objs.size]) (upd H h'.objs.size (.lst ws')):=Ext.new fr;have W:Ext X.K ι (upd H h'.objs.size (.lst vs)) ι (upd (upd H h'.objs.size (.lst vs)) h'.objs.size (.lst ws')):=Ext.write upd_same (mut_l _);rw[upd_upd]at W;have R4:Reps X.K (ι++[h'.objs.size]) (upd H h'.objs.size (.lst ws')) ys ws':=hr.mono { W with pre:=fun i b e=>(by rw[zA (zr.mp e).1];exact e) };exact⟨.ref h'.objs.size,_,hI,rfl,k _ _ _ (.ob (by rw[<- S.len,zL (zo _),yZ];rfl)) (S.new fr ⟨ws',rfl,R4⟩) X4⟩
end
theorem srt_l {Γ:Ctx}(hs:Γ.srt=sortD):SrtL Γ:=by
 intro S X f a p1 p4 fa C h hp ha;simp only[zc,beq_iff_eq]at h;obtain⟨⟨⟨h1,h2⟩,h3⟩,h4⟩:=h;subst h1;obtain⟨o1,o2,o3⟩:=okName_debug h2;refine PE.imp (pe_callB (call_sortedL C.hu) (C.glo h3) (C.bls _ (mem_of_contains h4)) PyProof.Rows.boot_sorted (pa_cons ha pa_nil (star_plain hp)) o3 o1 (star_plain hp) rfl) fun σ H Q q=>?_;obtain⟨ι,ρ,M,d,M',S',R,e,k⟩:=q;obtain⟨x,M1,e1,ea⟩:=bind_ok e;obtain⟨ds,M2,e2,eb⟩:=bind_ok ea;obtain⟨ys,M3,e3,ec⟩:=bind_ok eb;obtain⟨hy,hM3⟩:=lift_ok e3;rw[hM3]at ec;refine⟨ι,ρ,M,x,M1,S',R,e1,fun v1 H1 ι1 r1 S1 X1=>?_⟩;have fact:M2=M1/\∃ p vs,v1=.ref p/\SqL X.K H1 p vs/\Reps X.K ι1 H1 ds vs:=by
  cases r1 with
  | fl t q=>obtain⟨rfl,rfl⟩:=pure_ok e2;exact⟨rfl,_,_,rfl,t.seq,q⟩
  | ob t =>
   obtain⟨g,rfl⟩:=getL_ok e2;obtain⟨p,ws,g1,g2,g3,g4⟩:=sim_list S1 (.ob t) g;exact⟨rfl,p,ws,g1,SqL.of g3,g4⟩
  | _=>exact(stop_ok e2).elim
 obtain⟨rfl,p,vs,rfl,hq,hr⟩:=fact;obtain⟨rfl,rfl⟩:=newM_ok ec;exact⟨p,vs,ι1,_,ds,ys,rfl,hq,S1,hr,by rw[<- hs];exact hy,fun v H' ι' r' S'' X'=>k v H' ι' r' S'' (X1.trans X')⟩
theorem srt_i {Γ:Ctx}(_:Γ.srt=sortD):SrtI Γ:=trivial
end L3
namespace L3
open PySem PySem.Spec PyProof.Rows L2
section
variable {prog:Program}{w:World}{A:Around}{E:Value->Shared->Prop}{s:Shared}
theorem it_rawT {a:Addr}{ob:Obj}{es:Array DictEntry}{ep:Nat}{Q:Value->Shared->Prop}(hn:(a==sysModules)=false)(g1:s.heap.get? a=some ob)(gx:ob.ExactDict)(g2:ob.data=.dict es ep)
  (q:Q (.ref s.heap.objs.size) { s with heap:=s.heap.push { cls:=.type "dict_keyiterator",data:=.fields #[.ref a,.int 0 0,.int es.size 0,.int ep 0] } }):wpAny (model prog w) A (pyIter (.ref a)) Q E s:=by
 have ty:s.TypeIs (.ref a) "dict":=⟨ob,g1,gx.1⟩;refine wpAny_pyIter_slot ty F.slot_dict_iter (wpAny_call_entry F.slot_dict_iter ty F.entry_dict_iter ?_ (F.args_dict_iter_1 _));unfold Builtin.«dict.__iter__»;refine zw ?_;unfold Builtin.Dict.dictSlotNone;refine zw (wpAny_notOrdered_dict ty ?_);show wpAny _ _ (pure (Value.ref a)) _ _ s;refine zj ?_;show wpAny _ _ (Builtin.Dict.showsAll a >>= _) _ _ s;unfold Builtin.Dict.showsAll;rw[if_neg (by rw[hn];exact zi)];refine zw (zj (zw (wpAny_dictEntries g1 g2 (zw (wpAny_dictEpoch g1 g2 ?_)))));refine zw (wpAny_newObj_type (zj ⟨_,rfl,"dict_keyiterator",_,⟨_,zR _ rfl,rfl⟩,F.slot_dict_keyiterator_next.lookup,?_⟩));simpa [rawInt] using q
theorem nx_itemT {it a:Addr}{ob:Obj}{es:Array DictEntry}{i ep:Nat}{en:DictEntry}{Q:Option Value->Shared->Prop}(t:s.heap.IsKeyIter it a i es.size ep)(g1:s.heap.get? a=some ob)(g2:ob.data=.dict es ep)(hx:es[i]?=some en)
  (q:∀ h',h'.IsKeyIter it a (i + 1) es.size ep->Heap.SameBut it s.heap h'->Q (some en.key) { s with heap:=h' }):wpAny (model prog w) A (pyNext (.ref it)) Q E s:=by
 obtain⟨oi,k1,k2,k3⟩:=id t;unfold pyNext;refine zw (wpAny_attempt (wpAny_callSpecial?_slot (name:=Str.ofString "__next__") t.typeIs F.slot_dict_keyiterator_next
  (wpAny_call_entry F.slot_dict_keyiterator_next t.typeIs F.entry_dict_keyiterator_next ?_ (F.args_dict_keyiterator_next_1 _))))
 refine zw (zj (zw (zw ?_)));first | refine zw (wpAny_typeNameOfWhole_keyiter t.typeIs (zj ?_)) | refine zw (wpAny_typeNameOf_keyiter t.typeIs (zj ?_))
 refine zw (wpAny_fieldsOf k1 k3 ?_);simp only[show Builtin.Dict_items.ownsTuple "dict_keyiterator" = false by decide,yq,if_false];show wpAny _ _ (if (Value.ref a==Value.none)=true then _ else _) _ _ s;rw[if_neg (show ¬ ((Value.ref a==Value.none)=true) from zi)];refine zw (zj (zw (wpAny_dictEntries g1 g2 ?_)));rw[if_neg (by simp)];refine zw (zj (zw (wpAny_dictEpoch g1 g2 ?_)));rw[if_neg (by simp)];refine zj ?_;obtain⟨lt,hxe⟩:=xT.mp hx;simp only[show ¬ ((i:Int) < 0) from by omega,if_false,xu,yl lt,hxe];refine zw ?_;first | refine zw (wpAny_typeNameOfWhole_keyiter t.typeIs (zj ?_)) | refine zw (wpAny_typeNameOf_keyiter t.typeIs (zj ?_))
 refine zw (wpAny_isOneOf_keyiter t.typeIs ?_);show wpAny _ _ (setField (.ref it) 1 (rawInt ((i:Int) + 1)) >>= _) _ _ s;refine zw (wpAny_setField k1 k3 (by simp) ?_);have t':(s.heap.update it (Obj.mapFields (·.setIfInBounds 1 (rawInt ((i:Int) + 1))))).IsKeyIter it a (i + 1) es.size ep :=
  ⟨_,xw _ k1 (Obj.isFreed_of_fields (Obj.data_mapFields k3 _)),(Obj.cls_mapFields ..).trans k2,by rw[Obj.data_mapFields k3];simp[rawInt]⟩
 refine zw (wpAny_holding (zw (wpAny_isOneOf_keyiter (s:={ s with heap:=s.heap.update it (Obj.mapFields (·.setIfInBounds 1 (rawInt ((i:Int) + 1)))) }) t'.typeIs ?_)));show wpAny _ _ (pure en.key) _ _ _;exact zj (zj ⟨_,rfl,zj (q _ t' (Heap.SameBut.update ..))⟩)
theorem nx_endT {it a:Addr}{ob:Obj}{es:Array DictEntry}{i ep:Nat}{Q:Option Value->Shared->Prop}(hh:A.handled=none)(t:s.heap.IsKeyIter it a i es.size ep)(g1:s.heap.get? a=some ob)(g2:ob.data=.dict es ep)(ge:es.size<=i)
  (q:∀ h',Heap.ExtBut it s.heap h'->Q none { s with heap:=h' }):wpAny (model prog w) A (pyNext (.ref it)) Q E s:=by
 obtain⟨oi,k1,k2,k3⟩:=id t;unfold pyNext;refine zw (wpAny_attempt (wpAny_callSpecial?_slot (name:=Str.ofString "__next__") t.typeIs F.slot_dict_keyiterator_next
  (wpAny_call_entry F.slot_dict_keyiterator_next t.typeIs F.entry_dict_keyiterator_next ?_ (F.args_dict_keyiterator_next_1 _))))
 refine zw (zj (zw (zw ?_)));first | refine zw (wpAny_typeNameOfWhole_keyiter t.typeIs (zj ?_)) | refine zw (wpAny_typeNameOf_keyiter t.typeIs (zj ?_))
 refine zw (wpAny_fieldsOf k1 k3 ?_);simp only[show Builtin.Dict_items.ownsTuple "dict_keyiterator" = false by decide,yq,if_false];show wpAny _ _ (if (Value.ref a==Value.none)=true then _ else _) _ _ s;rw[if_neg (show ¬ ((Value.ref a==Value.none)=true) from zi)];refine zw (zj (zw (wpAny_dictEntries g1 g2 ?_)));rw[if_neg (by simp)];refine zw (zj (zw (wpAny_dictEpoch g1 g2 ?_)));rw[if_neg (by simp)];refine zj ?_;simp only[show ¬ ((i:Int) < 0) from by omega,if_false,xu,xD ge];refine zw ?_;first | refine zw (wpAny_typeNameOfWhole_keyiter t.typeIs (zj ?_)) | refine zw (wpAny_typeNameOf_keyiter t.typeIs (zj ?_))
 show wpAny _ _ (setField (.ref it) 0 .none >>= _) _ _ s;refine zw (wpAny_setField k1 k3 (by simp) ?_);show wpAny _ _ (newExc (.type "StopIteration") [] >>= fun _=>_) _ _ _;refine zw ?_;simp only[newExc,newTuple];refine zw (wpAny_newObj_type (zw (m:=firstArgMember _ _) (wpAny_of_eq (a:=Value.none) (by first | rfl | (simp only[firstArgMember];rfl)) ?_)) (by size_fits))
 refine wpAny_newObj_type ?_ (by size_fits);simp only[raiseNew];refine zw (wpAny_handled ?_);rw[show A.in1.handled=none from hh];refine zw (zj (wpAny_throw ?_));exact zw (wpAny_isInstance (T:="StopIteration") (b:=true) ⟨_,zR _ rfl,rfl⟩ isSubtype_stop (zj (q _ (((Heap.SameBut.update ..).extBut.push _).push _))))
end
section
variable {prog:Program}{w:World}
theorem walks_raw {A:Around}(hh:A.handled=none){I d:Addr}(hne:d≠I){ob:Obj}{es:Array DictEntry}{ep:Nat}(g2:ob.data=.dict es ep) :
  Walks prog w A I [I,d] [I] es.size (fun i v=>∃ en,es[i]?=some en/\v=en.key) (fun i h=>h.IsKeyIter I d i es.size ep/\h.get? d=some ob) where
 sub:=fun b hb=>by simp at hb;simp[hb]
 frame:=fun _ _ _ st hk=>⟨st.1.at fun o e=>hk I (by simp) o e,hk d (by simp) ob st.2⟩
 item:=fun i s Q E hi st hQ=>by
  have hx:es[i]?=some es[i]:=yl hi;refine nx_itemT st.1 st.2 g2 hx fun h' hit' hs'=>?_;exact hQ _ h' s.toks ⟨_,hx,rfl⟩ ⟨hit',(hs'.2 d hne).trans st.2⟩ fun b o hb e=>hs'.extBut b o (fun h=>hb (by simp[h])) e
 done:=fun s Q E st hQ=>nx_endT hh st.1 st.2 g2 (zo _) fun h' he'=>hQ h' s.toks fun b o hb e=>he' b o (fun h=>hb (by simp[h])) e
 self:=fun _ _ _ _ st hQ=>wpAny_pyIter_keyiter st.1 hQ
theorem kdl_raw {d:Addr}{ob:Obj}{es:Array DictEntry}{ep:Nat}(lo:(d==sysModules)=false)(gx:ob.ExactDict)(g2:ob.data=.dict es ep) :
  PySem.W.KdlSrc prog w "dict" d d es.size (fun i v=>∃ en,es[i]?=some en/\v=en.key) (fun h=>h.get? d=some ob) where
 type:=fun _ hm=>⟨ob,hm,gx.1⟩
 there:=fun _ hm=>⟨za hm,za hm⟩
 keep:=fun _ _ hm hk=>hk d (.inl rfl) ob hm
 notList:=by decide
 notTuple:=by decide
 hint:=fun _ _ s _ hm hq=>PySem.W.kdl_hint_dict (s:=s) ⟨ob,hm,gx.1⟩ hq
 iter:=fun _ _ hh hm=>⟨_,_,(fun _ _ hq=>it_rawT lo hm gx g2 hq),walks_raw hh (zE (za hm)) g2,⟨⟨_,zR _ rfl,rfl,rfl⟩,zb _ hm⟩⟩
end
section
variable {X:Cx}{pins:List (Addr×Obj)}{σ:St}{H:Hp}{s:Shared}
theorem reps_dK {K:PySem.W.Frag}{ι:List Addr}{H:Hp}:∀ k:List Ky,Reps K ι H (k.map dK) (k.map kV)
 | []=>.nil
 | .inl _::r=>.cons (.int _) (reps_dK r)
 | .inr _::r=>.cons (.str _) (reps_dK r)
theorem reps_keys {K:PySem.W.Frag}{ι:List Addr}{H:Hp}:∀ {k:List (List Ky)} {bs:List Addr},Paired (fun (ks:List Key) c=>H c=some (.tup (ks.map kV))) k bs->Reps K ι H (k.map fun r=>.tup (r.map dK)) (bs.map V.ref)
 | _,_,.nil=>.nil
 | _,_,.cons h t=>.cons (.tup h (reps_dK _)) (reps_keys t)
theorem rep_key2 {K:PySem.W.Frag}{ι:List Addr}{H:Hp}{k:List (List Ky)}{a:Addr}(h:KeyAt H k a):Rep K ι H (keyD2 k) (.ref a):=by
 obtain⟨bs,h1,h2⟩:=h;exact .tup h1 (reps_keys h2)
theorem ktt_reps {K:PySem.W.Frag}{ι:List Addr}{H:Hp}:∀ {kvs:List (List (List Ky)×D)} {ws:List (List (List Key)×V)} {xs:List (List (List Key)×Addr×Value)},TR K ι H kvs ws->KTT H ws xs->Reps K ι H (kvs.map fun p=>keyD2 p.1) (xs.map fun x=>V.ref x.2.1)
 | _,_,_,.nil,.nil=>.nil
 | _,_,_,.cons r t,.cons g g'=>.cons (by dsimp only;rw[r.1];exact rep_key2 g.2.1) (ktt_reps t g')
theorem vals_of_arr {vs:List Value}:∀ {as:List Addr},vs.length=as.length->(∀ (j:Nat) (v:Value),vs[j]?=some v->∃ a,as[j]?=some a/\v=Value.ref a)->Vals (as.map V.ref) vs:=by
 induction vs with
 | nil =>
  intro as hl _;cases as with
  | nil=>exact .nil
  | cons _ _=>cases hl
 | cons v vs ih =>
  intro as hl h;cases as with
  | nil=>cases hl
  | cons a as =>
   obtain⟨b,e,rfl⟩:=h 0 v rfl;cases e;exact .cons rfl (ih (by simpa using hl) fun j v' e'=>by simpa using h (j + 1) v' (by simpa using e'))
theorem call_sortedT (hc:X.calm=true)(hu:X.A.units + 100 < cLine):CallR X (.builtin "sorted") (fun xs H Q=>∃ a ws ι M kvs ys,xs=[.ref a]/\H a=some (.dTT ws)/\Sim X.K ι M H/\TR X.K ι H kvs ws/\sortD (kvs.map fun p=>keyD2 p.1)=some ys /\
  ∀ v H' ι',Rep X.K ι' H' (.ob M.length) v->Sim X.K ι' (M++[.lst ys]) H'->Ext X.K ι H ι' H'->Q v H'):=by
 intro pins s σ H xs us Q I rv h;obtain⟨a,ws,ι,M,kvs,ys,rfl,ha,S,tr,hs,k⟩:=h;obtain⟨u,rfl,ru⟩:=vals1 rv;cases ru;obtain⟨zl,hd,xs,rel,ob,es,ep,g1,gx,g2,g3,_⟩:=(show ObjOk X.prog X.w H s.heap a (.dTT ws) from I.hok a _ ha);have lx:xs.length=es.size:=by rw[<- zW,g3,zz]
 have lz:es.size<=zh:=by rw[<- lx,<- Paired.length rel];exact zl
 refine Calls.call_function_entry kind_sorted plain_sorted entry_sorted (args_sorted1 _) ?_;unfold Builtin.«sorted»;refine zw (m:=checkCount "sorted" 1 1 _) (zj ?_);refine zw (PySem.W.kdu_collect (A:=X.A.in1) (kdl_raw hd gx g2) (I.ok.hd hc) g1 lz fun h' tk acc kk hacc=>?_);have g4:Vals (xs.map fun x=>V.ref x.2.1) acc.toList:=by
  have e0:(xs.map fun x=>V.ref x.2.1)=(xs.map (·.2.1)).map V.ref:=by rw[zP];rfl
  rw[e0];refine vals_of_arr (by rw[zW,hacc.1,zz,lx]) fun j v e=>?_;rw[ya]at e;obtain⟨en,e1,rfl⟩:=hacc.2 j v e;rw[<- ya,g3,zu]at e1;obtain⟨x,hx,rfl⟩:=zt.mp e1;exact⟨x.2.1,by rw[zu,hx];rfl,rfl⟩
 have I1:Inv X pins σ H { s with heap:=h',toks:=tk }:=I.kept (t':=tk) kk;have R1:=ktt_reps tr rel;have hz:(xs.map fun x=>V.ref x.2.1).length<=zh:=by rw[zz,lx];exact lz
 refine zw (wpAny_newList ?_ (by rw[<- g4.length];exact hz));have fr:H h'.objs.size=none:=I1.hok.fresh (zo _);have I3:Inv X pins σ (upd H h'.objs.size (.lst (xs.map fun x=>V.ref x.2.1))) { s with heap:=h'.push { cls:=.type "list",data:=.seq acc.toList.toArray },toks:=tk } :=
  I1.laid (t':=tk) (fun b o e=>zb _ e) (zo _) ⟨hz,acc.toList,0,g4,zR _ rfl⟩
 have R3:=R1.mono (Ext.tupN (K:=X.K) (ι:=ι) (ho:=.lst (xs.map fun x=>V.ref x.2.1)) fr);refine zw (wpAny_holding (sort_tracked (ι:=ι) (by first | (show X.A.units + 1 + 10 < cLine;omega) | (show X.A.units + 10 < cLine;omega)) I3 upd_same R3 hs fun ws' s' hr hI=>?_))
 refine zj ⟨_,rfl,?_⟩;rw[upd_upd]at hI;have X4:Ext X.K ι H (ι++[h'.objs.size]) (upd H h'.objs.size (.lst ws')):=Ext.new fr;have W:Ext X.K ι (upd H h'.objs.size (.lst (xs.map fun x=>V.ref x.2.1))) ι (upd (upd H h'.objs.size (.lst (xs.map fun x=>V.ref x.2.1))) h'.objs.size (.lst ws')):=Ext.write upd_same (mut_l _);rw[upd_upd]at W;have R4:Reps X.K (ι++[h'.objs.size]) (upd H h'.objs.size (.lst ws')) ys ws':=hr.mono { W with pre:=fun i b e=>(by rw[zA (zr.mp e).1];exact e) };exact⟨.ref h'.objs.size,_,hI,rfl,k _ _ _ (.ob (by rw[<- S.len,zL (zo _),yZ];rfl)) (S.new fr ⟨ws',rfl,R4⟩) X4⟩
end
theorem srt_t {Γ:Ctx}(hs:Γ.srt=sortD):SrtT Γ:=by
 intro S X f a p1 p4 fa C h hp ha;simp only[zc,beq_iff_eq]at h;obtain⟨⟨⟨h1,h2⟩,h3⟩,h4⟩:=h;subst h1;obtain⟨o1,o2,o3⟩:=okName_debug h2;refine PE.imp (pe_callB (call_sortedT C.calm C.hu) (C.glo h3) (C.bls _ (mem_of_contains h4)) PyProof.Rows.boot_sorted (pa_cons ha pa_nil (star_plain hp)) o3 o1 (star_plain hp) rfl) fun σ H Q q=>?_;obtain⟨ι,ρ,M,d,M',S',R,e,k⟩:=q;obtain⟨x,M1,e1,e⟩:=bind_ok e;refine⟨ι,ρ,M,x,M1,S',R,e1,fun v1 H1 ι1 r1 S1 X1=>?_⟩;cases r1 with
 | ob t =>
  obtain⟨kvs,M2,e2,ea⟩:=bind_ok e;obtain⟨g,rfl⟩:=getT_ok e2;obtain⟨ys,M3,e3,eb⟩:=bind_ok ea;obtain⟨hx,rfl⟩:=lift_ok e3;obtain⟨rfl,rfl⟩:=newM_ok eb;rw[hs]at hx;obtain⟨a',ws,g1,g2,g3,g4⟩:=sim_tt S1 (.ob t) g;cases g1;exact⟨_,ws,ι1,_,kvs,ys,rfl,g3,S1,g4,hx,fun v H' ι' r' S'' X'=>k v H' ι' r' S'' (X1.trans X')⟩
 | _=>exact(stop_ok e).elim
end L3
namespace L3
open PySem PySem.Spec PyProof.Rows L2
section
variable {X:Cx}{pins:List (Addr×Obj)}{σ:St}{H:Hp}{s:Shared}
end
theorem srt_s {Γ:Ctx}:SrtS Γ:=trivial
theorem srt_d {Γ:Ctx}:SrtD Γ:=trivial
theorem srt_ok {Γ:Ctx}(hs:Γ.srt=sortD):SrtOk Γ:=⟨srt_i hs,srt_l hs,srt_s,srt_d,srt_t hs⟩
end L3
namespace L3
open PySem PySem.Spec PySem.Calls PyProof.Rows L2
noncomputable def heapK (h:Heap):PySem.W.Frag:=(List.range h.objs.size).filterMap fun a=>(h.get? a).map fun o=>(a,o)
theorem look_fm {h:Heap}{a:Addr}:∀ l:List Nat,(l.filterMap fun a=>(h.get? a).map fun o=>(a,o)).lookup a=if a∈l then h.get? a else none
 | []=>rfl
 | b::l=>by
  rw[yT];by_cases e:a=b
  ·subst e
   rw[if_pos (zD ..)];cases g:h.get? a with
   | none =>
    simp only[vo];rw[look_fm l,g];split <;> rfl
   | some o=>simp only[xy,List.lookup_cons_self]
  ·have hb:(a==b)=false:=by simpa using e
   have hm:(a∈b::l)=(a∈l):=by simp[e]
   simp only[hm];cases g:h.get? b with
   | none=>simp only[vo];exact look_fm l
   | some o=>simp only[xy,yV,hb];exact look_fm l
theorem heapK_look {h:Heap}{a:Addr}{o:Obj}(e:h.get? a=some o):(heapK h).lookup a=some o:=by
 unfold heapK;rw[look_fm,if_pos,e];rw[yh];unfold Heap.get? at e;by_cases q:a < h.objs.size
 ·exact q
 ·rw[xD (wY q)]at e
  simp at e
theorem heapK_in (h:Heap):(heapK h).In h:=by
 intro a o e;unfold heapK at e;rw[look_fm]at e;split at e
 ·exact e
 ·cases e
theorem code_in {h:Heap}{cd:Value}{x:Str}(c:h.CodeRec cd x):PySem.W.codeIn (heapK h) cd x=true:=by
 obtain⟨c,o,vs,t,rfl,e,d,v⟩:=c;have e':=heapK_look e;obtain⟨oc,od,da,sl⟩:=o;cases d;unfold PySem.W.codeIn;simp only[e'];rw[<- ya]at v;cases q:vs.toList with
 | nil=>rw[q]at v;cases v
 | cons y r =>
  cases r with
  | nil=>rw[q]at v;cases v
  | cons z r =>
   rw[q]at v;cases v;simp
noncomputable def defPos:Stmt->Pos
 | .FunctionDef _ _ _ _ _ _ _ _ _ pos=>pos
 | _=>⟨0,0,0,0⟩
noncomputable def recT (x:Str)(st:Stmt):DefRec:=⟨x,defArgs st,defBody st,defScope st,defPos st⟩
section
variable {q:Program}{lo:List Str}{mean:ExcName->Option Value}{mg mb:Str->Option Value}{h:Heap}{es:List Ent}{gls bls:List Str}{gl:Str->Option D}
theorem DefR.mkT (T:Top q lo mean mg mb h){rs:List DefRec}(hr:recsOf q=rs)(i:Nat){e:Ent}(hm:rs[i]?=some (recT e.x e.st))
  (hb:∀ (kV doc pm:Value) (an:Option Addr) (cdv ct:Value) (us:List Value),us.length=e.ps.length->bindArgs (PySem.W.fnOf e.x e.x (defArgs e.st) (defBody e.st) (defScope e.st) .none kV doc pm an cdv ct) ⟨us,[]⟩=pure (e.ps.zip us))
  (S:FnScope e.N e.ps (defScope e.st)) (hc:cSs ⟨defScope e.st,e.N,es.map (·.x),gls,bls⟩ 200 (defBody e.st)=some e.b) (ht:(tabOf es).lookup e.x=some ⟨e.N.length,e.ps.length,e.b⟩):DefR (heapK h) mg es gls bls e:=by
 obtain⟨a,o,pm,code,doc,h1,h2,h3,h4⟩:=T.fn _ (zn (hr ▸ hm));obtain⟨oc,od,da,sl⟩:=o;cases h3;have l:=heapK_look h2;have F:Fun (heapK h) e.x e.x e.st a _:=fun_mk (st:=e.st) (cdv:=code) l (code_in h4) (by unfold PySem.W.keepIn;simp only[l]);exact⟨a,_,F,h1,F.binds hb,S,hc,ht⟩
noncomputable def freeB (q:Program)(lo bls:List Str):Bool:=bls.all fun x=>!(startupNames.contains x||lo.contains x||((recsOf q).map (·.name)).contains x||((litsOf q).map (·.1)).contains x||((clssOf q lo).map (·.name)).contains x)
theorem free_of (T:Top q lo mean mg mb h)(e:freeB q lo bls=true):∀ x∈bls,mg x=none:=by
 intro x hx
 have:=zV.mp e x hx
 simp only[yP,Bool.or_eq_false_iff,List.contains_eq_mem,decide_eq_false_iff_not]at this;obtain⟨⟨⟨⟨h1,h2⟩,h3⟩,h4⟩,h5⟩:=this;exact T.free x h1 h2 h3 h4 h5
theorem law_mkT {srt:List D->Option (List D)}{wh:Nat}{P:Program}{w:World}(hsrt:∀ k,SrtOk (CtxN (tabOf es) gl srt wh k))(hd:∀ e∈es,DefR (heapK h) mg es gls bls e)(hg:∀ x∈gls,GlR (heapK h) mg gl x)(hb:∀ x∈bls,mg x=none)(k:Nat){e:Ent}(he:e∈es){x:Str}(hx:e.ps=[x])
  (hb1:∀ (kV doc pm:Value) (an:Option Addr) (cdv ct u:Value),bindArgs (PySem.W.fnOf e.x e.x (defArgs e.st) (defBody e.st) (defScope e.st) .none kV doc pm an cdv ct) ⟨[u],[]⟩=pure [(x,u)]) {fa:Addr} (hfa:mg e.x=some (.ref fa)) :
  ∃ fd:FuncData,(∀ (s:Shared) (u:Value),BindsTo s fd ⟨[u],[]⟩ [(x,u)])/\∀ base:Heap,(heapK h).In base->base.Ns mainGlobals mg->FnOk P w (heapK h) mg base CX0 k fa fd [x] (spOf (heapK h) 1 ((CtxN (tabOf es) gl srt wh k).fn e.x)):=by
 obtain⟨fa',fd,F,hm,_⟩:=hd e he;rw[hfa]at hm;cases hm;refine⟨fd,fun s u=>?_,fun base _ _=>?_⟩
 ·obtain⟨_,_,kV,doc,pm,an,cdv,ct,_,rfl,_⟩:=F.ex
  exact .of_eq (hb1 kV doc pm an cdv ct u)
 ·have:=law_fn (P:=P) (w:=w) (base:=base) hsrt hd hg hb k he F hfa
  rw[hx]at this;exact this
end
theorem walkT {l:PySem.W.OpenLaw}{q:Program}{loose:List Str}{XP:(Str->Option Value)->Heap->Prop}{YP:World->Heap->Prop}{d:DefRec}{x:Str}{k:Nat}{g:List D->Mo D}(hk:Room k callerA)(hn:l.most=some 63)(hdf:d.params.defaults=[])
  (hg:∀ ns:List Int,ns.length<=63->∃ M',g [.fl (ns.map .int)] []=some (.ok (.bl true),M'))
  (F:∀ (w:World) (mean:ExcName->Option Value) (mg mb:Str->Option Value) (fa:Addr) (h:Heap),Top q (PySem.W.looseW q loose) mean mg mb h->mg d.name=some (.ref fa) ->
   ∃ fd:FuncData,(∀ (s:Shared) (u:Value),BindsTo s fd ⟨[u],[]⟩ [(x,u)])/\∀ base:Heap,(heapK h).In base->base.Ns mainGlobals mg->FnOk l.prog w (heapK h) mg base CX0 k fa fd [x] (spOf (heapK h) 1 g)) :
  PySem.W.WalkO q loose XP YP l.row.toRowW d [] (fun f vs=>PySem.call f vs):=by
 refine Att.attach_call hn hdf fun w s₀ s₁ mg mb fa o pm cd doc a vs ns G Y ho hd hcd hmg hobj hints hlen hg'=>?_;obtain⟨fd,hb,hF⟩:=F w _ mg mb fa _ G.T hmg;exact law_call (heapK_in _) G.T.g G.T.b G.T.builtins G.T.nolimit hg' hobj hints (zH hlen (by decide)) hk hF hb (fun H hO hS=>sp_law hO hS (hg ns hlen)) fun _ _ _ z=>z
end L3
namespace L3
open PySem
theorem q_semE_var {Γ:Ctx}:∀ i ρ,semE Γ (.var i) ρ=(varD ρ i):=fun _ _=>rfl
theorem q_semE_cint {Γ:Ctx}:∀ i ρ,semE Γ (.cint i) ρ=(pure (.int i)):=fun _ _=>rfl
theorem q_semE_cbl {Γ:Ctx}:∀ b ρ,semE Γ (.cbl b) ρ=(pure (.bl b)):=fun _ _=>rfl
theorem q_semE_cnon {Γ:Ctx}:∀ ρ,semE Γ (.cnon) ρ=(pure .non):=fun _=>rfl
theorem q_semE_cstr {Γ:Ctx}:∀ x ρ,semE Γ (.cstr x) ρ=(pure (.str x)):=fun _ _=>rfl
theorem q_semE_glb {Γ:Ctx}:∀ x ρ,semE Γ (.glb x) ρ=(lift (Γ.gl x)):=fun _ _=>rfl
theorem q_semE_bin {Γ:Ctx}:∀ op a b ρ,semE Γ (.bin op a b) ρ=(do let x <- semE Γ a ρ;let y <- semE Γ b ρ;opD op x y):=fun _ _ _ _=>rfl
theorem q_semE_cmp {Γ:Ctx}:∀ op a b ρ,semE Γ (.cmp op a b) ρ=(do let x <- semE Γ a ρ;let y <- semE Γ b ρ;let k <- cmpD op x y;pure (.bl k)):=fun _ _ _ _=>rfl
theorem q_semE_cmp2 {Γ:Ctx}:∀ op op' a b c ρ,semE Γ (.cmp2 op op' a b c) ρ=(do
  let x <- semE Γ a ρ
  let y <- semE Γ b ρ
  let k <- cmpD op x y
  if k=true then do let z <- semE Γ c ρ;let k' <- cmpD op' y z;pure (.bl k') else pure (.bl false)):=fun _ _ _ _ _ _=>rfl
theorem q_semE_and {Γ:Ctx}:∀ a b ρ,semE Γ (.and a b) ρ=(do let x <- semE Γ a ρ;let k <- lift (boolD x);if k=true then semE Γ b ρ else pure (.bl false)):=fun _ _ _=>rfl
theorem q_semE_or {Γ:Ctx}:∀ a b ρ,semE Γ (.or a b) ρ=(do let x <- semE Γ a ρ;let k <- lift (boolD x);if k=true then pure (.bl true) else semE Γ b ρ):=fun _ _ _=>rfl
theorem q_semE_not {Γ:Ctx}:∀ a ρ,semE Γ (.not a) ρ=(do let x <- semE Γ a ρ;let k <- lift (boolD x);pure (.bl (!k))):=fun _ _=>rfl
theorem q_semE_ifE {Γ:Ctx}:∀ c a b ρ,semE Γ (.ifE c a b) ρ=(do let k <- semC Γ c ρ;if k=true then semE Γ a ρ else semE Γ b ρ):=fun _ _ _ _=>rfl
theorem q_semE_tup {Γ:Ctx}:∀ es ρ,semE Γ (.tup es) ρ=(do let xs <- semEs Γ es ρ;need (xs.length<=zh);pure (.tup xs)):=fun _ _=>rfl
theorem q_semE_lst {Γ:Ctx}:∀ es ρ,semE Γ (.lst es) ρ=(do let xs <- semEs Γ es ρ;need (xs.length<=zh);newM (.lst xs)):=fun _ _=>rfl
theorem q_semE_dic0 {Γ:Ctx}:∀ ρ,semE Γ (.dic0) ρ=(newM (.dic [])):=fun _=>rfl
theorem q_semE_dtt0 {Γ:Ctx}:∀ ρ,semE Γ (.dtt0) ρ=(newM (.dtt [])):=fun _=>rfl
theorem q_semE_idx {Γ:Ctx}:∀ a b ρ,semE Γ (.idx a b) ρ=(do let x <- semE Γ a ρ;let y <- semE Γ b ρ;getIx x y):=fun _ _ _=>rfl
theorem q_semE_slc {Γ:Ctx}:∀ a lo hi ρ,semE Γ (.slc a lo hi) ρ=(do let x <- semE Γ a ρ;let l <- semO Γ lo ρ;let h <- semO Γ hi ρ;sliceD x l h):=fun _ _ _ _=>rfl
theorem q_semE_call {Γ:Ctx}:∀ f es ρ,semE Γ (.call f es) ρ=(do let xs <- semEs Γ es ρ;Γ.fn f xs):=fun _ _ _=>rfl
theorem q_semE_blt {Γ:Ctx}:∀ b es ρ,semE Γ (.blt b es) ρ=(do let xs <- semEs Γ es ρ;blD b xs):=fun _ _ _=>rfl
theorem q_semE_comp {Γ:Ctx}:∀ j it c e ρ,semE Γ (.comp j it c e) ρ=(do
  let s <- semT Γ it ρ
  need (s.ds.length<=zh)
  let ys <- compD s.ck (semCo Γ c) (semE Γ e) (ρ.set j none) s.ds
  newM (.lst ys)):=fun _ _ _ _ _=>rfl
theorem q_semE_sortL {Γ:Ctx}:∀ a ρ,semE Γ (.sortL a) ρ=(do
  let x <- semE Γ a ρ
  let ds <- lstD x
  let ys <- lift (Γ.srt ds)
  newM (.lst ys)):=fun _ _=>rfl
theorem q_semE_clr {Γ:Ctx}:∀ m a ρ,semE Γ (.clr m a) ρ=(do let x <- semE Γ a ρ;clearO m x):=fun _ _ _=>rfl
theorem q_semE_neg {Γ:Ctx}:∀ a ρ,semE Γ (.neg a) ρ=(do
  let x <- semE Γ a ρ
  (match x with
  | .int i=>pure (.int (-i))
  | _=>Mo.stop)):=fun _ _=>rfl
theorem q_semE_isI {Γ:Ctx}:∀ a t ρ,semE Γ (.isI a t) ρ=(do let x <- semE Γ a ρ;let k <- tyD t x;pure (.bl k)):=fun _ _ _=>rfl
theorem q_semE_mth {Γ:Ctx}:∀ m a es ρ,semE Γ (.mth m a es) ρ=(do let x <- semE Γ a ρ;rcvD m x;let xs <- semEs Γ es ρ;mtD m x xs):=fun _ _ _ _=>rfl
theorem q_semEs_nil {Γ:Ctx}:∀ ρ,semEs Γ (.nil) ρ=(pure []):=fun _=>rfl
theorem q_semEs_cons {Γ:Ctx}:∀ e es ρ,semEs Γ (.cons e es) ρ=(do let x <- semE Γ e ρ;let xs <- semEs Γ es ρ;pure (x::xs)):=fun _ _ _=>rfl
theorem q_semO_none {Γ:Ctx}:∀ ρ,semO Γ (.none) ρ=(pure none):=fun _=>rfl
theorem q_semO_some {Γ:Ctx}:∀ e ρ,semO Γ (.some e) ρ=(do
  let x <- semE Γ e ρ
  (match x with
  | .int i=>pure (some i)
  | _=>Mo.stop)):=fun _ _=>rfl
theorem q_semT_seq {Γ:Ctx}:∀ e ρ,semT Γ (.seq e) ρ=(do let x <- semE Γ e ρ;srcD x):=fun _ _=>rfl
theorem q_semT_rng1 {Γ:Ctx}:∀ a ρ,semT Γ (.rng1 a) ρ=(do
  let x <- semE Γ a ρ
  (match x with
  | .int i=>do need (small i);pure ⟨none,rngD 0 i⟩
  | _=>Mo.stop)):=fun _ _=>rfl
theorem q_semT_rng2 {Γ:Ctx}:∀ a b ρ,semT Γ (.rng2 a b) ρ=(do
  let x <- semE Γ a ρ
  let y <- semE Γ b ρ
  (match x,y with
  | .int i,.int j=>do need (small i/\small j);pure ⟨none,rngD i j⟩
  | _,_=>Mo.stop)):=fun _ _ _=>rfl
theorem q_semC_cmp {Γ:Ctx}:∀ e ρ,semC Γ (.cmp e) ρ=(do let x <- semE Γ e ρ;lift (boolD x)):=fun _ _=>rfl
theorem q_semC_tru {Γ:Ctx}:∀ e ρ,semC Γ (.tru e) ρ=(do let x <- semE Γ e ρ;truD x):=fun _ _=>rfl
theorem q_semC_not {Γ:Ctx}:∀ c ρ,semC Γ (.not c) ρ=(do let k <- semC Γ c ρ;pure (!k)):=fun _ _=>rfl
theorem q_semC_and {Γ:Ctx}:∀ a b ρ,semC Γ (.and a b) ρ=(do let k <- semC Γ a ρ;if k=true then semC Γ b ρ else pure false):=fun _ _ _=>rfl
theorem q_semC_or {Γ:Ctx}:∀ a b ρ,semC Γ (.or a b) ρ=(do let k <- semC Γ a ρ;if k=true then pure true else semC Γ b ρ):=fun _ _ _=>rfl
theorem q_semCo_none {Γ:Ctx}:∀ ρ,semCo Γ (.none) ρ=(pure true):=fun _=>rfl
theorem q_semCo_some {Γ:Ctx}:∀ c ρ,semCo Γ (.some c) ρ=(semC Γ c ρ):=fun _ _=>rfl
theorem q_semP_seq {Γ:Ctx}:∀ e ρ,semP Γ (.seq e) ρ=(do let x <- semE Γ e ρ;srcD x):=fun _ _=>rfl
theorem q_semP_enum {Γ:Ctx}:∀ e ρ,semP Γ (.enum e) ρ=(do let x <- semE Γ e ρ;enumS x):=fun _ _=>rfl
theorem q_semS_set {Γ:Ctx}:∀ i e ρ,semS Γ (.set i e) ρ=(do let x <- semE Γ e ρ;pure (.nx (ρ.set i (some x)))):=fun _ _ _=>rfl
theorem q_semS_setIx {Γ:Ctx}:∀ o i e ρ,semS Γ (.setIx o i e) ρ=(do let v <- semE Γ e ρ;let x <- semE Γ o ρ;let y <- semE Γ i ρ;setIx x y v;pure (.nx ρ)):=fun _ _ _ _=>rfl
theorem q_semS_expr {Γ:Ctx}:∀ e ρ,semS Γ (.expr e) ρ=(do let _ <- semE Γ e ρ;pure (.nx ρ)):=fun _ _=>rfl
theorem q_semS_ret {Γ:Ctx}:∀ e ρ,semS Γ (.ret e) ρ=(do let x <- semE Γ e ρ;pure (.rt x)):=fun _ _=>rfl
theorem q_semS_retN {Γ:Ctx}:∀ ρ,semS Γ (.retN) ρ=(pure (.rt .non)):=fun _=>rfl
theorem q_semS_pass {Γ:Ctx}:∀ ρ,semS Γ (.pass) ρ=(pure (.nx ρ)):=fun _=>rfl
theorem q_semS_brk {Γ:Ctx}:∀ ρ,semS Γ (.brk) ρ=(pure (.bk ρ)):=fun _=>rfl
theorem q_semS_cnt {Γ:Ctx}:∀ ρ,semS Γ (.cnt) ρ=(pure (.ct ρ)):=fun _=>rfl
theorem q_semS_halt {Γ:Ctx}:∀ ρ,semS Γ (.halt) ρ=(Mo.stop):=fun _=>rfl
theorem q_semS_ifS {Γ:Ctx}:∀ c a b ρ,semS Γ (.ifS c a b) ρ=(do let k <- semC Γ c ρ;if k=true then semSs Γ a ρ else semSs Γ b ρ):=fun _ _ _ _=>rfl
theorem q_semS_forS {Γ:Ctx}:∀ i it b ρ,semS Γ (.forS i it b) ρ=(do let s <- semT Γ it ρ;loopD s.ck i (semSs Γ b) s.ds ρ):=fun _ _ _ _=>rfl
theorem q_semS_forP {Γ:Ctx}:∀ i j it b ρ,semS Γ (.forP i j it b) ρ=(do let s <- semP Γ it ρ;loopP s.ck i j (semSs Γ b) s.ds ρ):=fun _ _ _ _ _=>rfl
theorem q_semSs_nil {Γ:Ctx}:∀ ρ,semSs Γ (.nil) ρ=(pure (.nx ρ)):=fun _=>rfl
theorem q_semSs_cons {Γ:Ctx}:∀ s r ρ,semSs Γ (.cons s r) ρ=(do
  let f <- semS Γ s ρ
  (match f with
  | .nx ρ'=>semSs Γ r ρ'
  | .rt v=>pure (.rt v)
  | .bk ρ'=>pure (.bk ρ')
  | .ct ρ'=>pure (.ct ρ'))):=fun _ _ _=>rfl
end L3
namespace L3
open PySem
theorem need_run {p:Prop}[Decidable p](h:p)(M:MH):need p M=some (.ok (),M):=by unfold need;rw[if_pos h];rfl
theorem lift_run {α:Type}(a:α)(M:MH):lift (some a) M=some (.ok a,M):=rfl
theorem getM_run {i:Nat}{o:MO}{M:MH}(h:M[i]?=some o):getM i M=some (.ok o,M):=by unfold getM;rw[h]
theorem getL_run {i:Nat}{ds:List D}{M:MH}(h:M[i]?=some (.lst ds)):getL i M=some (.ok ds,M):=by unfold getL;rw[h]
theorem getD_run {i:Nat}{ds:List (Ky×D)}{M:MH}(h:M[i]?=some (.dic ds)):getD i M=some (.ok ds,M):=by unfold getD;rw[h]
theorem newM_run (o:MO)(M:MH):newM o M=some (.ok (.ob M.length),M++[o]):=rfl
theorem putM_run {i:Nat}{o:MO}{M:MH}(h:i < M.length):putM i o M=some (.ok (),M.set i o):=by unfold putM;rw[if_pos h]
theorem atD_nat {α:Type}{xs:List α}{j:Nat}{v:α}(h:xs[j]?=some v):atD xs (j:Int)=some v:=by
 have hj:j < xs.length:=(zr.mp h).1;unfold atD ixD;rw[if_pos (by first | lia | omega),if_pos (by first | lia | omega)]
 simpa using h
theorem get_new (M:MH)(o:MO):(M++[o])[M.length]?=some o:=by simp
structure Gr (M M':MH):Prop where
 keep:∀ (i:Nat) (o:MO),M[i]?=some o->M'[i]?=some o
 len:M.length<=M'.length
theorem Gr.refl {M:MH}:Gr M M:=⟨fun _ _ h=>h,zo _⟩
theorem Gr.trans {M M1 M2:MH}(a:Gr M M1)(b:Gr M1 M2):Gr M M2:=⟨fun i o e=>b.keep i o (a.keep i o e),zH a.len b.len⟩
theorem Gr.app (M X:MH):Gr M (M++X):=⟨fun i o e=>by rw[zA (zr.mp e).1];exact e,by rw[zp];omega⟩
theorem Gr.snoc {M M1:MH}(g:Gr M M1)(o:MO):Gr M (M1++[o]):=g.trans (Gr.app _ _)
theorem Gr.set {M M1:MH}(g:Gr M M1){j:Nat}(h:M.length<=j)(o:MO):Gr M (M1.set j o):=⟨fun i q e=>by
 have hi:i < M.length:=(zr.mp e).1;rw[zk (by first | lia | omega)]
 exact g.keep i q e,by rw[zU];exact g.len⟩
theorem set_get {M:MH}{j:Nat}{o q:MO}(h:M[j]?=some q):(M.set j o)[j]?=some o:=zQ (zr.mp h).1
theorem lt_of_get {α:Type}{M:List α}{j:Nat}{q:α}(h:M[j]?=some q):j < M.length:=(zr.mp h).1
theorem mapM_bools (bs:List Bool):(bs.map D.bl).mapM boolD=some bs:=by
 induction bs with
 | nil=>rfl
 | cons b r ih=>rw[ze,xS,ih];rfl
theorem mapM_strs (bs:List Str):(bs.map D.str).mapM strD=some bs:=by
 induction bs with
 | nil=>rfl
 | cons b r ih=>rw[ze,xS,ih];rfl
theorem ev_var {Γ:Ctx}{ρ:Ev}{M:MH}{d:D}{i:Nat}(h:ρ[i]?=some (some d)):semE Γ (.var i) ρ M=some (.ok d,M):=by
 show varD ρ i M=_;unfold varD;rw[h];rfl
theorem rng_len {lo hi:Int}:(rngD lo hi).length=(hi - lo).toNat:=by unfold rngD;rw[zz,yz]
theorem rng_get {lo hi:Int}{j:Nat}{d:D}(h:(rngD lo hi)[j]?=some d):d=.int (lo + j)/\j < (hi - lo).toNat:=by
 unfold rngD at h;rw[zu]at h;cases q:(List.range (hi - lo).toNat)[j]? with
 | none=>rw[q]at h;cases h
 | some n =>
  rw[q]at h;obtain⟨h1,h2⟩:=zr.mp q;rw[yz]at h1;rw[xU]at h2;subst h2;cases h;exact⟨rfl,h1⟩
end L3
namespace L3
open PySem
theorem atD_in {α:Type}{xs:List α}{i:Int}(h0:0<=i)(h1:i < xs.length):∃ v,atD xs i=some v/\v∈xs:=by
 obtain⟨n,rfl⟩:=ye h0;have hj:n < xs.length:=by first | lia | omega
 exact⟨xs[n],atD_nat (zv hj),yW hj⟩
theorem len_app (x y:Str):(x++y).length=x.length + y.length:=by
 show (x.cps++y.cps).size=x.cps.size + y.cps.size;simp
theorem len_toList (x:Str):x.cps.toList.length=x.length:=by simp[Str.length]
theorem line_big:(100000:Nat)<=zh:=by unfold zh;decide
theorem up_ {a b c d:Int}(h:a<=b)(h2:b + c<=d):a + c<=d:=Int.le_trans (Int.add_le_add_right h c) h2
end L3
namespace L3
open PySem
noncomputable def Wp {α:Type}(m:Mo α)(M:MH)(Q:α->MH->Prop):Prop:=∃ a M',m M=some (.ok a,M')/\Q a M'
inductive Dum {α:Type} (Q:α->MH->Prop):Type where
 | mk
noncomputable def W {α:Type}(m:Mo α)(M:MH)(Q:α->MH->Prop)(_:Dum Q:=.mk):Prop:=Wp m M Q
theorem W_eq {α:Type}{m:Mo α}{M:MH}{Q R:α->MH->Prop}(h:∀ a M,Q a M=R a M):W m M Q=W m M R:=by
 have:Q=R:=funext fun a=>funext fun M=>h a M
 subst this;rfl
theorem W.mono {α:Type}{m:Mo α}{M:MH}{Q R:α->MH->Prop}(h:W m M Q)(f:∀ a M',Q a M'->R a M'):W m M R:=by
 obtain⟨a,M',e,q⟩:=h;exact⟨a,M',e,f a M' q⟩
theorem W.of {α:Type}{m:Mo α}{M M':MH}{a:α}{Q:α->MH->Prop}(e:m M=some (.ok a,M'))(q:Q a M'):W m M Q:=⟨a,M',e,q⟩
theorem w_pure {α:Type}(a:α)(M:MH)(Q:α->MH->Prop):W (pure a:Mo α) M Q=Q a M:=by
 refine propext ⟨fun ⟨b,M',e,q⟩=>?_,fun q=>⟨a,M,rfl,q⟩⟩;cases e;exact q
theorem w_ret {α:Type}(a:α)(M:MH)(Q:α->MH->Prop):W (fun M=>some (.ok a,M)) M Q=Q a M:=w_pure a M Q
theorem w_bind {α β:Type}(m:Mo α)(k:α->Mo β)(M:MH)(Q:β->MH->Prop):W (m >>= k) M Q=W m M fun a M'=>W (k a) M' Q:=by
 refine propext ⟨fun ⟨b,M',e,q⟩=>?_,fun ⟨a,M1,e,b,M2,e2,q⟩=>⟨b,M2,by rw[ok_bind e];exact e2,q⟩⟩;obtain⟨a,M1,e1,e2⟩:=bind_ok e;exact⟨a,M1,e1,b,M',e2,q⟩
theorem w_need {p:Prop}[Decidable p](M:MH)(Q:Unit->MH->Prop):W (need p) M Q=(p/\Q () M):=by
 refine propext ⟨fun ⟨b,M',e,q⟩=>?_,fun ⟨hp,q⟩=>⟨(),M,need_run hp M,q⟩⟩;unfold need at e;split at e
 ·rename_i hp
  cases e;exact⟨hp,q⟩
 ·cases e
theorem w_lift {α:Type}(o:Option α)(M:MH)(Q:α->MH->Prop):W (lift o) M Q = ∃ a,o=some a/\Q a M:=by
 refine propext ⟨fun ⟨b,M',e,q⟩=>?_,fun ⟨a,ho,q⟩=>⟨a,M,by rw[ho];rfl,q⟩⟩;cases o with
 | none=>cases e
 | some a=>cases e;exact⟨_,rfl,q⟩
theorem w_getM (i:Nat)(M:MH)(Q:MO->MH->Prop):W (getM i) M Q = ∃ o,M[i]?=some o/\Q o M:=by
 refine propext ⟨fun ⟨b,M',e,q⟩=>?_,fun ⟨a,ho,q⟩=>⟨a,M,getM_run ho,q⟩⟩;unfold getM at e;split at e
 ·rename_i o h;cases e;exact⟨_,h,q⟩
 ·cases e
theorem w_getL (i:Nat)(M:MH)(Q:List D->MH->Prop):W (getL i) M Q = ∃ ds,M[i]?=some (.lst ds)/\Q ds M:=by
 refine propext ⟨fun ⟨b,M',e,q⟩=>?_,fun ⟨a,ho,q⟩=>⟨a,M,getL_run ho,q⟩⟩;unfold getL at e;split at e
 ·rename_i o h;cases e;exact⟨_,h,q⟩
 ·cases e
theorem w_getD (i:Nat)(M:MH)(Q:List (Ky×D)->MH->Prop):W (getD i) M Q = ∃ ds,M[i]?=some (.dic ds)/\Q ds M:=by
 refine propext ⟨fun ⟨b,M',e,q⟩=>?_,fun ⟨a,ho,q⟩=>⟨a,M,getD_run ho,q⟩⟩;unfold getD at e;split at e
 ·rename_i o h;cases e;exact⟨_,h,q⟩
 ·cases e
theorem w_newM (o:MO)(M:MH)(Q:D->MH->Prop):W (newM o) M Q=Q (.ob M.length) (M++[o]):=by
 refine propext ⟨fun ⟨b,M',e,q⟩=>?_,fun q=>⟨_,_,newM_run o M,q⟩⟩;cases e;exact q
theorem w_putM (i:Nat)(o:MO)(M:MH)(Q:Unit->MH->Prop):W (putM i o) M Q=(i < M.length/\Q () (M.set i o)):=by
 refine propext ⟨fun ⟨b,M',e,q⟩=>?_,fun ⟨h,q⟩=>⟨_,_,putM_run h,q⟩⟩;unfold putM at e;split at e
 ·rename_i h;cases e;exact⟨h,q⟩
 ·cases e
theorem w_stop {α:Type}(M:MH)(Q:α->MH->Prop):W (Mo.stop:Mo α) M Q=False:=by
 refine propext ⟨fun ⟨b,M',e,q⟩=>?_,fun q=>q.elim⟩;cases e
theorem w_if {α:Type}(b:Bool)(m n:Mo α)(M:MH)(Q:α->MH->Prop):W (if b=true then m else n) M Q=((b=true->W m M Q)/\(b=false->W n M Q)):=by
 cases b <;> simp
section
variable {α β:Type}
theorem v_pure (a:α)(M:MH)(Q:α->MH->Prop):Wp (pure a:Mo α) M Q=Q a M:=w_pure a M Q
theorem v_bind (m:Mo α)(k:α->Mo β)(M:MH)(Q:β->MH->Prop):Wp (m >>= k) M Q=Wp m M fun a M'=>Wp (k a) M' Q:=w_bind m k M Q
theorem v_need {p:Prop}[Decidable p](M:MH)(Q:Unit->MH->Prop):Wp (need p) M Q=(p/\Q () M):=w_need M Q
theorem v_lift (o:Option α)(M:MH)(Q:α->MH->Prop):Wp (lift o) M Q = ∃ a,o=some a/\Q a M:=w_lift o M Q
theorem v_getM (i:Nat)(M:MH)(Q:MO->MH->Prop):Wp (getM i) M Q = ∃ o,M[i]?=some o/\Q o M:=w_getM i M Q
theorem v_getL (i:Nat)(M:MH)(Q:List D->MH->Prop):Wp (getL i) M Q = ∃ ds,M[i]?=some (.lst ds)/\Q ds M:=w_getL i M Q
theorem v_getD (i:Nat)(M:MH)(Q:List (Ky×D)->MH->Prop):Wp (getD i) M Q = ∃ ds,M[i]?=some (.dic ds)/\Q ds M:=w_getD i M Q
theorem v_newM (o:MO)(M:MH)(Q:D->MH->Prop):Wp (newM o) M Q=Q (.ob M.length) (M++[o]):=w_newM o M Q
theorem v_putM (i:Nat)(o:MO)(M:MH)(Q:Unit->MH->Prop):Wp (putM i o) M Q=(i < M.length/\Q () (M.set i o)):=w_putM i o M Q
theorem v_stop (M:MH)(Q:α->MH->Prop):Wp (Mo.stop:Mo α) M Q=False:=w_stop M Q
theorem v_if (b:Bool)(m n:Mo α)(M:MH)(Q:α->MH->Prop):Wp (if b=true then m else n) M Q=((b=true->Wp m M Q)/\(b=false->Wp n M Q)):=w_if b m n M Q
end
section
variable {Γ:Ctx}{ρ:Ev}{M:MH}{a b c:IE}{Q:D->MH->Prop}{es:IEs}
theorem we_var {i:Nat}:W (semE Γ (.var i) ρ) M Q = ∃ d,ρ[i]?=some (some d)/\Q d M:=by
 refine propext ⟨fun ⟨b,M',e,q⟩=>?_,fun ⟨d,h,q⟩=>⟨d,M,ev_var h,q⟩⟩;simp only[q_semE_var]at e;unfold varD at e;cases h:ρ[i]? with
 | none=>rw[h]at e;cases e
 | some o =>
  rw[h]at e;cases o with
  | none=>cases e
  | some d=>cases e;exact⟨_,rfl,q⟩
theorem we_int {i:Int}:W (semE Γ (.cint i) ρ) M Q=Q (.int i) M:=w_pure _ M Q
theorem we_bl {i:Bool}:W (semE Γ (.cbl i) ρ) M Q=Q (.bl i) M:=w_pure _ M Q
theorem we_non:W (semE Γ .cnon ρ) M Q=Q .non M:=w_pure _ M Q
theorem we_str {i:Str}:W (semE Γ (.cstr i) ρ) M Q=Q (.str i) M:=w_pure _ M Q
theorem we_glb {i:Str}:W (semE Γ (.glb i) ρ) M Q = ∃ d,Γ.gl i=some d/\Q d M:=w_lift _ M Q
theorem we_bin {op:Operator}:W (semE Γ (.bin op a b) ρ) M Q=W (semE Γ a ρ) M fun x M1=>W (semE Γ b ρ) M1 fun y M2=>W (opD op x y) M2 Q:=by
 delta W;simp only[q_semE_bin,v_bind]
theorem we_cmp {op:CmpOp}:W (semE Γ (.cmp op a b) ρ) M Q=W (semE Γ a ρ) M fun x M1=>W (semE Γ b ρ) M1 fun y M2=>W (cmpD op x y) M2 fun k M3=>Q (.bl k) M3:=by
 delta W;simp only[q_semE_cmp,v_bind,v_pure]
theorem we_cmp2 {op op':CmpOp}:W (semE Γ (.cmp2 op op' a b c) ρ) M Q=W (semE Γ a ρ) M fun x M1=>W (semE Γ b ρ) M1 fun y M2=>W (cmpD op x y) M2 fun k M3=>(k=true->W (semE Γ c ρ) M3 fun z M4=>W (cmpD op' y z) M4 fun k' M5=>Q (.bl k') M5)/\(k=false->Q (.bl false) M3):=by
 delta W;simp only[q_semE_cmp2,v_bind,v_pure,v_if]
theorem we_and:W (semE Γ (.and a b) ρ) M Q=W (semE Γ a ρ) M fun x M1=>∃ k,boolD x=some k/\(k=true->W (semE Γ b ρ) M1 Q)/\(k=false->Q (.bl false) M1):=by
 delta W;simp only[q_semE_and,v_bind,v_pure,v_if,v_lift]
theorem we_or:W (semE Γ (.or a b) ρ) M Q=W (semE Γ a ρ) M fun x M1=>∃ k,boolD x=some k/\(k=true->Q (.bl true) M1)/\(k=false->W (semE Γ b ρ) M1 Q):=by
 delta W;simp only[q_semE_or,v_bind,v_pure,v_if,v_lift]
theorem we_not:W (semE Γ (.not a) ρ) M Q=W (semE Γ a ρ) M fun x M1=>∃ k,boolD x=some k/\Q (.bl (!k)) M1:=by
 delta W;simp only[q_semE_not,v_bind,v_pure,v_lift]
theorem we_ifE {q:IC}:W (semE Γ (.ifE q a b) ρ) M Q=W (semC Γ q ρ) M fun k M1=>(k=true->W (semE Γ a ρ) M1 Q)/\(k=false->W (semE Γ b ρ) M1 Q):=by
 delta W;simp only[q_semE_ifE,v_bind,v_if]
theorem we_tup:W (semE Γ (.tup es) ρ) M Q=W (semEs Γ es ρ) M fun xs M1=>xs.length<=zh/\Q (.tup xs) M1:=by
 delta W;simp only[q_semE_tup,v_bind,v_pure,v_need]
theorem we_lst:W (semE Γ (.lst es) ρ) M Q=W (semEs Γ es ρ) M fun xs M1=>xs.length<=zh/\Q (.ob M1.length) (M1++[.lst xs]):=by
 delta W;simp only[q_semE_lst,v_bind,v_newM,v_need]
theorem we_dic0:W (semE Γ .dic0 ρ) M Q=Q (.ob M.length) (M++[.dic []]):=w_newM _ M Q
theorem we_dtt0:W (semE Γ .dtt0 ρ) M Q=Q (.ob M.length) (M++[.dtt []]):=w_newM _ M Q
theorem we_idx:W (semE Γ (.idx a b) ρ) M Q=W (semE Γ a ρ) M fun x M1=>W (semE Γ b ρ) M1 fun y M2=>W (getIx x y) M2 Q:=by
 delta W;simp only[q_semE_idx,v_bind]
theorem we_slc {lo hi:IEo}:W (semE Γ (.slc a lo hi) ρ) M Q=W (semE Γ a ρ) M fun x M1=>W (semO Γ lo ρ) M1 fun l M2=>W (semO Γ hi ρ) M2 fun h M3=>W (sliceD x l h) M3 Q:=by
 delta W;simp only[q_semE_slc,v_bind]
theorem we_call {f:Str}:W (semE Γ (.call f es) ρ) M Q=W (semEs Γ es ρ) M fun xs M1=>W (Γ.fn f xs) M1 Q:=by
 delta W;simp only[q_semE_call,v_bind]
theorem we_blt {f:Bl}:W (semE Γ (.blt f es) ρ) M Q=W (semEs Γ es ρ) M fun xs M1=>W (blD f xs) M1 Q:=by
 delta W;simp only[q_semE_blt,v_bind]
theorem we_comp {j:Nat}{it:IT}{cc:ICo}:W (semE Γ (.comp j it cc a) ρ) M Q=W (semT Γ it ρ) M fun s M1=>s.ds.length<=zh/\W (compD s.ck (semCo Γ cc) (semE Γ a) (ρ.set j none) s.ds) M1 fun ys M2=>Q (.ob M2.length) (M2++[.lst ys]):=by
 delta W;simp only[q_semE_comp,v_bind,v_newM,v_need]
theorem wes_nil {Q:List D->MH->Prop}:W (semEs Γ .nil ρ) M Q=Q [] M:=w_pure _ M Q
theorem wes_cons {Q:List D->MH->Prop}:W (semEs Γ (.cons a es) ρ) M Q=W (semE Γ a ρ) M fun x M1=>W (semEs Γ es ρ) M1 fun xs M2=>Q (x::xs) M2:=by
 delta W;simp only[q_semEs_cons,v_bind,v_pure]
theorem wo_none {Q:Option Int->MH->Prop}:W (semO Γ .none ρ) M Q=Q none M:=w_pure _ M Q
theorem wo_some {Q:Option Int->MH->Prop}:W (semO Γ (.some a) ρ) M Q=W (semE Γ a ρ) M fun x M1=>∃ i,x=.int i/\Q (some i) M1:=by
 delta W;simp only[q_semO_some,v_bind];refine congrArg _ (funext fun x=>funext fun M1=>?_);cases x <;> simp[v_stop,v_pure]
theorem wt_seq {Q:Src->MH->Prop}:W (semT Γ (.seq a) ρ) M Q=W (semE Γ a ρ) M fun x M1=>W (srcD x) M1 Q:=by
 delta W;simp only[q_semT_seq,v_bind]
theorem wt_rng1 {Q:Src->MH->Prop}:W (semT Γ (.rng1 a) ρ) M Q=W (semE Γ a ρ) M fun x M1=>∃ i,x=.int i/\small i/\Q ⟨none,rngD 0 i⟩ M1:=by
 delta W;simp only[q_semT_rng1,v_bind];refine congrArg _ (funext fun x=>funext fun M1=>?_);cases x <;> simp[v_stop,v_pure,v_bind,v_need]
theorem wt_rng2 {Q:Src->MH->Prop}:W (semT Γ (.rng2 a b) ρ) M Q=W (semE Γ a ρ) M fun x M1=>W (semE Γ b ρ) M1 fun y M2=>∃ i j,x=.int i/\y=.int j/\small i/\small j/\Q ⟨none,rngD i j⟩ M2:=by
 delta W;simp only[q_semT_rng2,v_bind];refine congrArg _ (funext fun x=>funext fun M1=>congrArg _ (funext fun y=>funext fun M2=>?_));cases x <;> cases y <;> simp[v_stop,v_pure,v_bind,v_need,and_assoc]
section
variable {Q:Bool->MH->Prop}{q r:IC}
theorem wc_cmp:W (semC Γ (.cmp a) ρ) M Q=W (semE Γ a ρ) M fun x M1=>∃ k,boolD x=some k/\Q k M1:=by delta W;simp only[q_semC_cmp,v_bind,v_lift]
theorem wc_tru:W (semC Γ (.tru a) ρ) M Q=W (semE Γ a ρ) M fun x M1=>W (truD x) M1 Q:=by delta W;simp only[q_semC_tru,v_bind]
theorem wc_not:W (semC Γ (.not q) ρ) M Q=W (semC Γ q ρ) M fun k M1=>Q (!k) M1:=by delta W;simp only[q_semC_not,v_bind,v_pure]
theorem wc_and:W (semC Γ (.and q r) ρ) M Q=W (semC Γ q ρ) M fun k M1=>(k=true->W (semC Γ r ρ) M1 Q)/\(k=false->Q false M1):=by delta W;simp only[q_semC_and,v_bind,v_if,v_pure]
theorem wc_or:W (semC Γ (.or q r) ρ) M Q=W (semC Γ q ρ) M fun k M1=>(k=true->Q true M1)/\(k=false->W (semC Γ r ρ) M1 Q):=by delta W;simp only[q_semC_or,v_bind,v_if,v_pure]
theorem wco_none:W (semCo Γ .none ρ) M Q=Q true M:=w_pure _ M Q
theorem wco_some:W (semCo Γ (.some q) ρ) M Q=W (semC Γ q ρ) M Q:=by delta W;simp only[q_semCo_some]
end
section
variable {Q:Fl->MH->Prop}{s:IS}{r s1 s2:ISs}{q:IC}
noncomputable def nxt (Γ:Ctx)(r:ISs)(Q:Fl->MH->Prop)(f:Fl)(M:MH):Prop:=match f with
 | .nx ρ=>W (semSs Γ r ρ) M Q
 | .rt v=>Q (.rt v) M
 | .bk ρ=>Q (.bk ρ) M
 | .ct ρ=>Q (.ct ρ) M
theorem nxt_nx:nxt Γ r Q (.nx ρ) M=W (semSs Γ r ρ) M Q:=rfl
theorem nxt_rt {v:D}:nxt Γ r Q (.rt v) M=Q (.rt v) M:=rfl
theorem nxt_bk:nxt Γ r Q (.bk ρ) M=Q (.bk ρ) M:=rfl
theorem nxt_ct:nxt Γ r Q (.ct ρ) M=Q (.ct ρ) M:=rfl
theorem ws_nil:W (semSs Γ .nil ρ) M Q=Q (.nx ρ) M:=w_pure _ M Q
theorem ws_cons:W (semSs Γ (.cons s r) ρ) M Q=W (semS Γ s ρ) M (nxt Γ r Q):=by
 delta W;simp only[q_semSs_cons,v_bind];refine congrArg _ (funext fun f=>funext fun M1=>?_);cases f <;> simp[nxt,v_pure,W]
theorem ws_set {i:Nat}:W (semS Γ (.set i a) ρ) M Q=W (semE Γ a ρ) M fun x M1=>Q (.nx (ρ.set i (some x))) M1:=by delta W;simp only[q_semS_set,v_bind,v_pure]
theorem ws_setIx:W (semS Γ (.setIx a b c) ρ) M Q=W (semE Γ c ρ) M fun v M1=>W (semE Γ a ρ) M1 fun x M2=>W (semE Γ b ρ) M2 fun y M3=>W (setIx x y v) M3 fun _ M4=>Q (.nx ρ) M4:=by delta W;simp only[q_semS_setIx,v_bind,v_pure]
theorem ws_expr:W (semS Γ (.expr a) ρ) M Q=W (semE Γ a ρ) M fun _ M1=>Q (.nx ρ) M1:=by delta W;simp only[q_semS_expr,v_bind,v_pure]
theorem ws_ret:W (semS Γ (.ret a) ρ) M Q=W (semE Γ a ρ) M fun x M1=>Q (.rt x) M1:=by delta W;simp only[q_semS_ret,v_bind,v_pure]
theorem ws_retN:W (semS Γ .retN ρ) M Q=Q (.rt .non) M:=w_pure _ M Q
theorem ws_pass:W (semS Γ .pass ρ) M Q=Q (.nx ρ) M:=w_pure _ M Q
theorem ws_brk:W (semS Γ .brk ρ) M Q=Q (.bk ρ) M:=w_pure _ M Q
theorem ws_cnt:W (semS Γ .cnt ρ) M Q=Q (.ct ρ) M:=w_pure _ M Q
theorem ws_if:W (semS Γ (.ifS q s1 s2) ρ) M Q=W (semC Γ q ρ) M fun k M1=>(k=true->W (semSs Γ s1 ρ) M1 Q)/\(k=false->W (semSs Γ s2 ρ) M1 Q):=by delta W;simp only[q_semS_ifS,v_bind,v_if]
noncomputable def selS:Bool->ISs->ISs->ISs
 | true,a,_=>a
 | false,_,b=>b
theorem sel_t {a b:ISs}:selS true a b=a:=rfl
theorem sel_f {a b:ISs}:selS false a b=b:=rfl
theorem ws_sel:W (semS Γ (.ifS q s1 s2) ρ) M Q=W (semC Γ q ρ) M fun k M1=>W (semSs Γ (selS k s1 s2) ρ) M1 Q:=by
 rw[ws_if];refine congrArg _ (funext fun k=>funext fun M1=>?_);cases k <;> simp[selS]
theorem ws_for {i:Nat}{it:IT}:W (semS Γ (.forS i it s1) ρ) M Q=W (semT Γ it ρ) M fun s M1=>W (loopD s.ck i (semSs Γ s1) s.ds ρ) M1 Q:=by delta W;simp only[q_semS_forS,v_bind]
end
noncomputable def endF (Q:D->MH->Prop)(f:Fl)(M:MH):Prop:=match f with
 | .nx _=>Q .non M
 | .rt v=>Q v M
 | _=>False
theorem end_nx:endF Q (.nx ρ) M=Q .non M:=rfl
theorem end_rt {v:D}:endF Q (.rt v) M=Q v M:=rfl
theorem wf {n p:Nat}{b:ISs}{xs:List D}:W (do need (xs.length=p);semF Γ n b xs:Mo D) M Q=(xs.length=p/\W (semSs Γ b (xs.map some++yF (n - xs.length) none)) M (endF Q)):=by
 rw[w_bind,w_need];unfold semF;rw[w_bind];refine congrArg _ (W_eq fun f M1=>?_);cases f <;> simp[endF,w_pure,w_stop]
end
end L3
namespace L3
open PySem
section
variable {M:MH}{Q:D->MH->Prop}{B:Bool->MH->Prop}{U:Unit->MH->Prop}{S:Src->MH->Prop}{x y v:D}
theorem p_addI {i j:Int}:W (opD .Add (.int i) (.int j)) M Q=Q (.int (i + j)) M:=w_pure _ M Q
theorem p_subI {i j:Int}:W (opD .Sub (.int i) (.int j)) M Q=Q (.int (i - j)) M:=w_pure _ M Q
theorem p_addS {i j:Str}:W (opD .Add (.str i) (.str j)) M Q=(i.length + j.length<=zh/\Q (.str (i++j)) M):=by
 show W (need _ >>= fun _=>pure _) M Q=_;rw[w_bind,w_need,w_pure]
theorem p_addT {i j:List D}:W (opD .Add (.tup i) (.tup j)) M Q=(i.length + j.length<=zh/\Q (.tup (i++j)) M):=by
 show W (need _ >>= fun _=>pure _) M Q=_;rw[w_bind,w_need,w_pure]
theorem p_addL {i j:Nat}:W (opD .Add (.ob i) (.ob j)) M Q = ∃ xs,M[i]?=some (.lst xs)/\∃ ys,M[j]?=some (.lst ys)/\xs.length + ys.length<=zh/\Q (.ob M.length) (M++[.lst (xs++ys)]):=by
 show W (getL i >>= fun xs=>getL j >>= fun ys=>need _ >>= fun _=>newM _) M Q=_;delta W;simp only[v_bind,v_getL,v_need,v_newM]
theorem p_mul {i j:Int}:W (opD .Mult (.int i) (.int j)) M Q=(((-(2 ^ 64) < i/\i < 2 ^ 64)\/(-(2 ^ 64) < j/\j < 2 ^ 64))/\Q (.int (i * j)) M):=by
 show W (need _ >>= fun _=>pure _) M Q=_;rw[w_bind,w_need,w_pure]
theorem p_div {i j:Int}:W (opD .FloorDiv (.int i) (.int j)) M Q=((0 < j/\j < 1073741824)/\Q (.int (i / j)) M):=by
 show W (need _ >>= fun _=>pure _) M Q=_;rw[w_bind,w_need,w_pure]
theorem p_mod {i j:Int}:W (opD .Mod (.int i) (.int j)) M Q=(0 < j/\Q (.int (i % j)) M):=by
 show W (need _ >>= fun _=>pure _) M Q=_;rw[w_bind,w_need,w_pure]
theorem p_eq:W (cmpD .Eq x y) M B = ∃ b,eqO M 20 x y=some b/\B b M:=by
 show W (eqMo x y) M B=_;refine propext ⟨fun ⟨b,M',e,q⟩=>?_,fun ⟨b,e,q⟩=>⟨b,M,by unfold eqMo;rw[e],q⟩⟩;unfold eqMo at e;cases h:eqO M 20 x y with
 | none=>rw[h]at e;cases e
 | some k=>rw[h]at e;cases e;exact⟨_,rfl,q⟩
theorem p_ne:W (cmpD .NotEq x y) M B = ∃ b,eqO M 20 x y=some b/\B (!b) M:=by
 show W (cmpD .Eq x y >>= fun b=>pure (!b)) M B=_;rw[w_bind]
 have:∀ b M,W (pure (!b):Mo Bool) M B=B (!b) M:=fun b M=>w_pure _ M B
 rw[W_eq this,p_eq]
theorem eo_flat {n:Nat}(h1:flatD x=true)(h2:flatD y=true):eqO M (n + 1) x y=some (eqF x y):=by
 cases x <;> cases y <;> first | exact absurd h1 zi | exact absurd h2 zi | rfl
theorem eo_int {n:Nat}{i j:Int}:eqO M (n + 1) (.int i) (.int j)=some (i==j):=rfl
theorem eo_str {n:Nat}{i j:Str}:eqO M (n + 1) (.str i) (.str j)=some (i==j):=rfl
theorem eo_bl {n:Nat}{i j:Bool}:eqO M (n + 1) (.bl i) (.bl j)=some (i==j):=rfl
theorem eo_nn {n:Nat}:eqO M (n + 1) .non .non=some true:=rfl
theorem eo_ns {n:Nat}{j:Str}:eqO M (n + 1) .non (.str j)=some false:=rfl
theorem eo_sn {n:Nat}{j:Str}:eqO M (n + 1) (.str j) .non=some false:=rfl
theorem eo_tup {n:Nat}{i j:List D}:eqO M (n + 1) (.tup i) (.tup j)=eqL (eqO M n) i j:=rfl
theorem eo_nil {n:Nat}{i j:Nat}{xs:List D}(h1:M[i]?=some (.lst xs))(h2:M[j]?=some (.lst [])):eqO M (n + 1) (.ob i) (.ob j)=some xs.isEmpty:=by
 show (match M[i]?,M[j]? with
   | some (.lst xs),some (.lst ys)=>if xs.length=ys.length then eqL (eqO M n) xs ys else some false
   | _,_=>none)=_
 rw[h1,h2];cases xs <;> rfl
theorem p_eqI {i j:Int}:W (cmpD .Eq (.int i) (.int j)) M B=B (i==j) M:=by rw[p_eq];simp[eo_int]
theorem p_eqS {i j:Str}:W (cmpD .Eq (.str i) (.str j)) M B=B (i==j) M:=by rw[p_eq];simp[eo_str]
theorem p_eqB {i j:Bool}:W (cmpD .Eq (.bl i) (.bl j)) M B=B (i==j) M:=by rw[p_eq];simp[eo_bl]
theorem p_neI {i j:Int}:W (cmpD .NotEq (.int i) (.int j)) M B=B (!(i==j)) M:=by rw[p_ne];simp[eo_int]
theorem p_neS {i j:Str}:W (cmpD .NotEq (.str i) (.str j)) M B=B (!(i==j)) M:=by rw[p_ne];simp[eo_str]
theorem p_ltI {i j:Int}:W (cmpD .Lt (.int i) (.int j)) M B=B (decide (i < j)) M:=w_pure _ M B
theorem p_leI {i j:Int}:W (cmpD .LtE (.int i) (.int j)) M B=B (decide (i<=j)) M:=w_pure _ M B
theorem p_gtI {i j:Int}:W (cmpD .Gt (.int i) (.int j)) M B=B (decide (j < i)) M:=w_pure _ M B
theorem p_geI {i j:Int}:W (cmpD .GtE (.int i) (.int j)) M B=B (decide (j<=i)) M:=w_pure _ M B
theorem p_leS {i j:Str}:W (cmpD .LtE (.str i) (.str j)) M B=B (!decide (j.cps.toList < i.cps.toList)) M:=w_pure _ M B
theorem p_ltS {i j:Str}:W (cmpD .Lt (.str i) (.str j)) M B=B (decide (i.cps.toList < j.cps.toList)) M:=w_pure _ M B
theorem p_in:W (cmpD .In x y) M B=W (inD x y) M B:=rfl
theorem p_notIn:W (cmpD .NotIn x y) M B=W (inD x y) M fun k M1=>B (!k) M1:=by
 show W (inD x y >>= fun b=>pure (!b)) M B=_;delta W;simp only[v_bind,v_pure]
theorem p_inS {i j:Str}:W (inD (.str i) (.str j)) M B=B (strOcc j i) M:=w_pure _ M B
theorem w_inMo {ds:List D}:W (inMo x ds) M B = ∃ b,inL M x ds=some b/\B b M:=by
 refine propext ⟨fun ⟨b,M',e,q⟩=>?_,fun ⟨b,e,q⟩=>⟨b,M,by unfold inMo;rw[e],q⟩⟩;unfold inMo at e;cases h:inL M x ds with
 | none=>rw[h]at e;cases e
 | some k=>rw[h]at e;cases e;exact⟨_,rfl,q⟩
theorem inL_flat (h1:flatD x=true):∀ {ds:List D},ds.all flatD=true->inL M x ds=some (ds.any fun d=>eqF d x)
 | [],_=>rfl
 | d::ds,h=>by
  rw[yD,zc]at h;unfold inL;rw[eo_flat h.1 h1,inL_flat h1 h.2];rfl
theorem p_inT {ds:List D}:W (inD x (.tup ds)) M B = ∃ b,inL M x ds=some b/\B b M:=w_inMo
theorem p_is:W (cmpD .Is x y) M B=(isN y=true/\B (isN x) M):=by
 show W (need _ >>= fun _=>pure _) M B=_;rw[w_bind,w_need,w_pure]
theorem g_tup {ds:List D}{i:Int}:W (getIx (.tup ds) (.int i)) M Q = ∃ d,atD ds i=some d/\Q d M:=w_lift _ M Q
theorem g_fl {ds:List D}{i:Int}:W (getIx (.fl ds) (.int i)) M Q = ∃ d,atD ds i=some d/\Q d M:=w_lift _ M Q
theorem g_str {t:Str}{i:Int}:W (getIx (.str t) (.int i)) M Q=(t.length<=zh/\∃ c,atD t.cps.toList i=some c/\Q (sgn c) M):=by
 show W (need _ >>= fun _=>lift (atD t.cps.toList i) >>= fun c=>pure (sgn c)) M Q=_;delta W;simp only[v_bind,v_need,v_lift,v_pure]
noncomputable def obIx (o:MO)(y:D)(M:MH)(Q:D->MH->Prop):Prop:=match o with
 | .lst ds=>∃ i,y=.int i/\∃ d,atD ds i=some d/\Q d M
 | .dic kvs=>∃ k,kyD y=some k/\∃ d,kvGet kvs k=some d/\Q d M
 | .dtt kvs=>∃ k,kyT y=some k/\∃ d,tkGet kvs k=some d/\Q d M
theorem g_obl {ds:List D}{i:Int}:obIx (.lst ds) (.int i) M Q = ∃ d,atD ds i=some d/\Q d M:=by simp[obIx]
theorem g_obd {kvs:List (Ky×D)}:obIx (.dic kvs) y M Q = ∃ k,kyD y=some k/\∃ d,kvGet kvs k=some d/\Q d M:=rfl
theorem g_obt {kvs:List (List (List Ky)×D)}:obIx (.dtt kvs) y M Q = ∃ k,kyT y=some k/\∃ d,tkGet kvs k=some d/\Q d M:=rfl
theorem g_ob {j:Nat}:W (getIx (.ob j) y) M Q = ∃ o,M[j]?=some o/\obIx o y M Q:=by
 have e:getIx (.ob j) y=(getM j >>= fun o=>(match o with
  | .lst ds=>(match y with
   | .int i=>lift (atD ds i)
   | _=>Mo.stop)
  | .dic kvs=>(do let q <- lift (kyD y);lift (kvGet kvs q))
  | .dtt kvs=>(do let q <- lift (kyT y);lift (tkGet kvs q))
  ):Mo D):=by cases y <;> rfl
 rw[e,w_bind,w_getM];refine congrArg _ (funext fun o=>congrArg _ ?_);cases o with
 | lst ds=>cases y <;> simp[obIx,w_stop,w_lift]
 | dic kvs=>simp[obIx,w_bind,w_lift]
 | dtt kvs=>simp[obIx,w_bind,w_lift]
noncomputable def obSet (j:Nat)(o:MO)(y v:D)(M:MH)(U:Unit->MH->Prop):Prop:=match o with
 | .lst ds=>∃ i,y=.int i/\∃ n,ixD ds.length i=some n/\U () (M.set j (.lst (ds.set n v)))
 | .dic kvs=>∃ k,kyD y=some k/\kvs.length < zh/\U () (M.set j (.dic (kvPut kvs k v)))
 | .dtt kvs=>∃ k,kyT y=some k/\kvs.length < zh/\U () (M.set j (.dtt (tkPut kvs k v)))
theorem t_obl {j:Nat}{ds:List D}{i:Int}:obSet j (.lst ds) (.int i) v M U = ∃ n,ixD ds.length i=some n/\U () (M.set j (.lst (ds.set n v))):=by simp[obSet]
theorem t_obd {j:Nat}{kvs:List (Ky×D)}:obSet j (.dic kvs) y v M U = ∃ k,kyD y=some k/\kvs.length < zh/\U () (M.set j (.dic (kvPut kvs k v))):=rfl
theorem t_obt {j:Nat}{kvs:List (List (List Ky)×D)}:obSet j (.dtt kvs) y v M U = ∃ k,kyT y=some k/\kvs.length < zh/\U () (M.set j (.dtt (tkPut kvs k v))):=rfl
theorem t_ob {j:Nat}:W (setIx (.ob j) y v) M U = ∃ o,M[j]?=some o/\obSet j o y v M U:=by
 show W (getM j >>= _) M U=_;rw[w_bind,w_getM];refine congrArg _ (funext fun o=>?_);refine propext (and_congr_right fun h=>?_);have hl:j < M.length:=(zr.mp h).1;cases o with
 | lst ds=>cases y <;> simp[obSet,w_stop,w_lift,w_bind,w_putM,hl]
 | dic kvs=>simp[obSet,w_bind,w_lift,w_need,w_putM,hl]
 | dtt kvs=>simp[obSet,w_bind,w_lift,w_need,w_putM,hl]
theorem z_str {t:Str}{lo hi:Option Int}:W (sliceD (.str t) lo hi) M Q=(t.length<=zh/\Q (.str ⟨(cutD t.cps.toList lo hi).toArray⟩) M):=by
 show W (need _ >>= fun _=>pure _) M Q=_;rw[w_bind,w_need,w_pure]
theorem z_lst {j:Nat}{lo hi:Option Int}:W (sliceD (.ob j) lo hi) M Q = ∃ ds,M[j]?=some (.lst ds)/\Q (.ob M.length) (M++[.lst (cutD ds lo hi)]):=by
 show W (getL j >>= fun ds=>newM _) M Q=_;delta W;simp only[v_bind,v_getL,v_newM]
theorem z_tup {ds:List D}{lo hi:Option Int}:W (sliceD (.tup ds) lo hi) M Q=Q (.tup (cutD ds lo hi)) M:=w_pure _ M Q
theorem z_fl {ds:List D}{lo hi:Option Int}:W (sliceD (.fl ds) lo hi) M Q=Q (.ob M.length) (M++[.lst (cutD ds lo hi)]):=w_newM _ M Q
theorem k_lenS {t:Str}:W (blD .len [.str t]) M Q=(t.length<=zh/\Q (.int t.length) M):=by
 show W (need _ >>= fun _=>pure _) M Q=_;rw[w_bind,w_need,w_pure]
noncomputable def obG (o:MO)(p:Prop):Prop:=match o with
 | .dtt _=>False
 | _=>p
theorem og_l {ds:List D}{p:Prop}:obG (.lst ds) p=p:=rfl
theorem og_d {ds:List (Ky×D)}{p:Prop}:obG (.dic ds) p=p:=rfl
noncomputable def lenO (o:MO):Int:=match o with
 | .lst ds=>ds.length
 | .dic kvs=>kvs.length
 | .dtt _=>0
theorem k_lenO {j:Nat}:W (blD .len [.ob j]) M Q = ∃ o,M[j]?=some o/\obG o (Q (.int (lenO o)) M):=by
 show W (getM j >>= _) M Q=_;rw[w_bind,w_getM];refine congrArg _ (funext fun o=>congrArg _ ?_);cases o <;> simp[lenO,obG,w_pure,w_stop]
theorem k_lenl {ds:List D}:lenO (.lst ds)=ds.length:=rfl
theorem k_lend {ds:List (Ky×D)}:lenO (.dic ds)=ds.length:=rfl
theorem k_lenT {ds:List D}:W (blD .len [.tup ds]) M Q=Q (.int ds.length) M:=w_pure _ M Q
theorem k_lenF {ds:List D}:W (blD .len [.fl ds]) M Q=Q (.int ds.length) M:=w_pure _ M Q
theorem k_tupL {j:Nat}:W (blD .tuple [.ob j]) M Q = ∃ ds,M[j]?=some (.lst ds)/\Q (.tup ds) M:=by
 show W (getL j >>= fun ds=>pure _) M Q=_;delta W;simp only[v_bind,v_getL,v_pure]
theorem k_all {j:Nat}:W (blD .all [.ob j]) M Q = ∃ ds,M[j]?=some (.lst ds)/\∃ bs,ds.mapM boolD=some bs/\Q (.bl (bs.all id)) M:=by
 show W (getL j >>= fun ds=>lift (ds.mapM boolD) >>= fun bs=>pure _) M Q=_;delta W;simp only[v_bind,v_getL,v_lift,v_pure]
theorem k_any {j:Nat}:W (blD .any [.ob j]) M Q = ∃ ds,M[j]?=some (.lst ds)/\∃ bs,ds.mapM boolD=some bs/\Q (.bl (bs.any id)) M:=by
 show W (getL j >>= fun ds=>lift (ds.mapM boolD) >>= fun bs=>pure _) M Q=_;delta W;simp only[v_bind,v_getL,v_lift,v_pure]
theorem k_max {i j:Int}:W (blD .max2 [.int i,.int j]) M Q=Q (.int (max i j)) M:=by
 have e:max i j=if j > i then j else i:=by split <;> omega
 rw[e];exact w_pure _ M Q
theorem y_tup {ds:List D}:W (srcD (.tup ds)) M S=S ⟨none,ds⟩ M:=w_pure _ M S
theorem y_fl {ds:List D}:W (srcD (.fl ds)) M S=S ⟨none,ds⟩ M:=w_pure _ M S
theorem y_lst {j:Nat}:W (srcD (.ob j)) M S = ∃ ds,M[j]?=some (.lst ds)/\S ⟨some (j,ds),ds⟩ M:=by
 show W (getL j >>= fun ds=>pure _) M S=_;delta W;simp only[v_bind,v_getL,v_pure]
theorem u_bl {b:Bool}:W (truD (.bl b)) M B=B b M:=w_pure _ M B
theorem u_tup {ds:List D}:W (truD (.tup ds)) M B=B (!ds.isEmpty) M:=w_pure _ M B
theorem u_int {b:Int}:W (truD (.int b)) M B=B (b != 0) M:=w_pure _ M B
theorem b_bl {b:Bool}:boolD (.bl b)=some b:=rfl
theorem w_compI {ck:Option (Nat×List D)}{c:Ev->Mo Bool}{e:Ev->Mo D}{ρ:Ev}{ds:List D}{L:List D->MH->Prop}(I:Nat->List D->MH->Prop)(h0:I 0 [] M)(hs:∀ n ys M,I n ys M->okM ck M)
  (h:∀ (n:Nat) (d:D) (ys:List D) (M:MH),ds[n]?=some d->I n ys M->W (c (some d::ρ)) M fun b M1=>(b=true->W (e (some d::ρ)) M1 fun y M2=>I (n + 1) (ys++[y]) M2)/\(b=false->I (n + 1) ys M1))
  (q:∀ ys M,I ds.length ys M->L ys M):W (compD ck c e ρ ds) M L:=by
 suffices H:∀ (r:List D) (n:Nat) (ys:List D) (M:MH),(∀ j d,r[j]?=some d->ds[n + j]?=some d)->n + r.length=ds.length->I n ys M->W (compD ck c e ρ r) M fun zs M'=>L (ys++zs) M' by
  simpa using H ds 0 [] M (fun j d e=>by simpa using e) (by simp) h0
 intro r;induction r with
 | nil =>
  intro n ys M _ hn hI;unfold compD;rw[w_bind];refine W.of (show stand ck M=some (.ok (),M) from if_pos (hs _ _ _ hI)) ?_;rw[w_pure,zT]
  have:n=ds.length:=by simpa using hn
  exact q _ _ (this ▸ hI)
 | cons d r ih =>
  intro n ys M hr hn hI;unfold compD;rw[w_bind];refine W.of (show stand ck M=some (.ok (),M) from if_pos (hs _ _ _ hI)) ?_;rw[w_bind];have hd:ds[n]?=some d:=by simpa using hr 0 d rfl
  have hr':∀ j d',r[j]?=some d'->ds[n + 1 + j]?=some d':=fun j d' e=>by
   have:=hr (j + 1) d' (by simpa using e)
   rwa [show n + (j + 1)=n + 1 + j by omega]at this
  have hn':n + 1 + r.length=ds.length:=by rw[zM]at hn;first | lia | omega
  refine(h n d ys M hd hI).mono fun b M1 hb=>?_;rw[w_if];refine⟨fun hb'=>?_,fun hb'=>ih (n + 1) ys M1 hr' hn' (hb.2 hb')⟩;rw[w_bind];refine(hb.1 hb').mono fun y M2 hI2=>?_;rw[w_bind];refine(ih (n + 1) (ys++[y]) M2 hr' hn' hI2).mono fun zs M3 hL=>?_;rw[w_pure];simpa using hL
noncomputable def loopF (I:Nat->Ev->MH->Prop)(F:Fl->MH->Prop)(n:Nat)(f:Fl)(M1:MH):Prop:=match f with
 | .nx ρ'=>I (n + 1) ρ' M1
 | .ct ρ'=>I (n + 1) ρ' M1
 | .bk ρ'=>F (.nx ρ') M1
 | .rt v=>F (.rt v) M1
theorem lf_nx {I:Nat->Ev->MH->Prop}{F:Fl->MH->Prop}{n:Nat}{ρ:Ev}:loopF I F n (.nx ρ) M=I (n + 1) ρ M:=rfl
theorem lf_ct {I:Nat->Ev->MH->Prop}{F:Fl->MH->Prop}{n:Nat}{ρ:Ev}:loopF I F n (.ct ρ) M=I (n + 1) ρ M:=rfl
theorem lf_bk {I:Nat->Ev->MH->Prop}{F:Fl->MH->Prop}{n:Nat}{ρ:Ev}:loopF I F n (.bk ρ) M=F (.nx ρ) M:=rfl
theorem lf_rt {I:Nat->Ev->MH->Prop}{F:Fl->MH->Prop}{n:Nat}{v:D}:loopF I F n (.rt v) M=F (.rt v) M:=rfl
theorem w_loop {ck:Option (Nat×List D)}{i:Nat}{body:Ev->Mo Fl}{ds:List D}{ρ:Ev}{F:Fl->MH->Prop}(I:Nat->Ev->MH->Prop)(h0:I 0 ρ M)(hs:∀ n ρ M,I n ρ M->okM ck M)
  (h:∀ (n:Nat) (d:D) (ρ:Ev) (M:MH),ds[n]?=some d->I n ρ M->W (body (ρ.set i (some d))) M (loopF I F n))
  (q:∀ ρ M,I ds.length ρ M->F (.nx ρ) M):W (loopD ck i body ds ρ) M F:=by
 suffices H:∀ (r:List D) (n:Nat) (ρ:Ev) (M:MH),(∀ j d,r[j]?=some d->ds[n + j]?=some d)->n + r.length=ds.length->I n ρ M->W (loopD ck i body r ρ) M F from
  H ds 0 ρ M (fun j d e=>by simpa using e) (by simp) h0
 intro r;induction r with
 | nil =>
  intro n ρ M _ hn hI;unfold loopD;rw[w_bind];refine W.of (show stand ck M=some (.ok (),M) from if_pos (hs _ _ _ hI)) ?_;rw[w_pure]
  have:n=ds.length:=by simpa using hn
  exact q _ _ (this ▸ hI)
 | cons d r ih =>
  intro n ρ M hr hn hI;unfold loopD;rw[w_bind];refine W.of (show stand ck M=some (.ok (),M) from if_pos (hs _ _ _ hI)) ?_;rw[w_bind];have hd:ds[n]?=some d:=by simpa using hr 0 d rfl
  have hr':∀ j d',r[j]?=some d'->ds[n + 1 + j]?=some d':=fun j d' e=>by
   have:=hr (j + 1) d' (by simpa using e)
   rwa [show n + (j + 1)=n + 1 + j by omega]at this
  have hn':n + 1 + r.length=ds.length:=by rw[zM]at hn;first | lia | omega
  refine(h n d ρ M hd hI).mono fun f M1 hf=>?_;cases f with
  | nx ρ'=>exact ih (n + 1) ρ' M1 hr' hn' hf
  | ct ρ'=>exact ih (n + 1) ρ' M1 hr' hn' hf
  | bk ρ'=>exact(w_pure _ _ _).mpr hf
  | rt v=>exact(w_pure _ _ _).mpr hf
end
end L3
namespace L3
open PySem
theorem ky_str {x:Str}:kyD (.str x)=some (.inr x):=rfl
theorem ky_int {x:Int}:kyD (.int x)=some (.inl x):=rfl
theorem eq_str {a b:Str}:eqF (.str a) (.str b)=(a==b):=rfl
theorem eq_int {a b:Int}:eqF (.int a) (.int b)=(a==b):=rfl
end L3
namespace L3
open PySem
section
variable {Γ:Ctx}{ρ:Ev}{M:MH}{a b c:IE}{Q:D->MH->Prop}{es:IEs}{x y:D}{B:Bool->MH->Prop}
theorem we_neg:W (semE Γ (.neg a) ρ) M Q=W (semE Γ a ρ) M fun x M1=>∃ i,x=.int i/\Q (.int (-i)) M1:=by
 delta W;simp only[q_semE_neg,v_bind];refine congrArg _ (funext fun x=>funext fun M1=>?_);cases x <;> simp[v_stop,v_pure]
theorem q_semE_srtT {Γ:Ctx}:∀ a ρ,semE Γ (.srtT a) ρ=(do let x <- semE Γ a ρ;keyTT Γ.srt x):=fun _ _=>rfl
theorem we_srtT:W (semE Γ (.srtT a) ρ) M Q=W (semE Γ a ρ) M fun x M1=>W (keyTT Γ.srt x) M1 Q:=by delta W;simp only[q_semE_srtT,v_bind]
theorem we_sortL:W (semE Γ (.sortL a) ρ) M Q=W (semE Γ a ρ) M fun x M1=>W (lstD x) M1 fun ds M2=>∃ ys,Γ.srt ds=some ys/\Q (.ob M2.length) (M2++[.lst ys]):=by
 delta W;simp only[q_semE_sortL,v_bind,v_lift,v_newM]
theorem we_clr {m:M0}:W (semE Γ (.clr m a) ρ) M Q=W (semE Γ a ρ) M fun x M1=>∃ k,x=.ob k/\∃ ds,M1[k]?=some (.lst ds)/\∃ r,m0G .non m ds=some r/\Q r.1 (M1.set k (.lst r.2)):=by
 rw[q_semE_clr,w_bind];refine W_eq (fun x M1=>?_);cases x with
 | ob k =>
  show W (getL k >>= fun ds=>lift (m0G .non m ds) >>= fun r=>putM k (.lst r.2) >>= fun _=>pure r.1) M1 Q=_;rw[w_bind,w_getL];refine propext ⟨fun ⟨ds,h,q⟩=>?_,fun ⟨k',e,ds,h,r,hr,q⟩=>?_⟩
  ·rw[w_bind,w_lift]at q
   obtain⟨r,hr,q⟩:=q;rw[w_bind,w_putM,w_pure]at q;exact⟨k,rfl,ds,h,r,hr,q.2⟩
  ·cases e
   exact⟨ds,h,by rw[w_bind,w_lift];exact⟨r,hr,by rw[w_bind,w_putM,w_pure];exact⟨(zr.mp h).1,q⟩⟩⟩
 | _ =>
  show W Mo.stop M1 Q=_;rw[w_stop];exact propext ⟨fun h=>h.elim,fun ⟨k,e,_⟩=>by cases e⟩
theorem we_isI {t:Ty}:W (semE Γ (.isI a t) ρ) M Q=W (semE Γ a ρ) M fun x M1=>W (tyD t x) M1 fun k M2=>Q (.bl k) M2:=by
 delta W;simp only[q_semE_isI,v_bind,v_pure]
theorem we_mth {m:Mt}:W (semE Γ (.mth m a es) ρ) M Q=W (semE Γ a ρ) M fun x M1=>W (rcvD m x) M1 fun _ M2=>W (semEs Γ es ρ) M2 fun xs M3=>W (mtD m x xs) M3 Q:=by
 delta W;simp only[q_semE_mth,v_bind]
theorem p_pow {i j:Int}:W (opD .Pow (.int i) (.int j)) M Q=((0<=j/\j<=1000000/\i.natAbs < 2 ^ 64)/\Q (.int (i ^ j.toNat)) M):=by
 show W (need _ >>= fun _=>pure _) M Q=_;rw[w_bind,w_need,w_pure]
theorem q_non {t:Ty}:W (tyD t .non) M B=B false M:=w_pure _ M B
theorem q_bl {t:Ty}{k:Bool}:W (tyD t (.bl k)) M B=B (t==.bool||t==.int) M:=w_pure _ M B
theorem q_int {t:Ty}{k:Int}:W (tyD t (.int k)) M B=B (t==.int) M:=w_pure _ M B
theorem q_str {t:Ty}{k:Str}:W (tyD t (.str k)) M B=B (t==.str) M:=w_pure _ M B
theorem q_tup {t:Ty}{k:List D}:W (tyD t (.tup k)) M B=B (t==.tuple) M:=w_pure _ M B
theorem q_fl {t:Ty}{k:List D}:W (tyD t (.fl k)) M B=B (t==.list) M:=w_pure _ M B
theorem i_tup {ds:List D}{L:List D->MH->Prop}:W (itemsD (.tup ds)) M L=L ds M:=w_pure _ M L
theorem i_fl {ds:List D}{L:List D->MH->Prop}:W (itemsD (.fl ds)) M L=L ds M:=w_pure _ M L
theorem i_ob {k:Nat}{L:List D->MH->Prop}:W (itemsD (.ob k)) M L = ∃ ds,M[k]?=some (.lst ds)/\L ds M:=w_getL k M L
theorem l_fl {ds:List D}{L:List D->MH->Prop}:W (lstD (.fl ds)) M L=L ds M:=w_pure _ M L
theorem l_ob {k:Nat}{L:List D->MH->Prop}:W (lstD (.ob k)) M L = ∃ ds,M[k]?=some (.lst ds)/\L ds M:=w_getL k M L
theorem k_listI:W (blD .list [x]) M Q=W (itemsD x) M fun ds M1=>Q (.ob M1.length) (M1++[.lst ds]):=by
 show W (itemsD x >>= fun ds=>newM (.lst ds)) M Q=_;delta W;simp only[v_bind,v_newM]
section
variable {U:Unit->MH->Prop}
theorem r_append {k:Nat}:W (rcvD .append (.ob k)) M U = ∃ ds,M[k]?=some (.lst ds)/\U () M:=by
 show W (getL k >>= fun _=>pure ()) M U=_;delta W;simp only[v_bind,v_getL,v_pure]
theorem r_insert {k:Nat}:W (rcvD .insert (.ob k)) M U = ∃ ds,M[k]?=some (.lst ds)/\U () M:=r_append
theorem r_extend {k:Nat}:W (rcvD .extend (.ob k)) M U = ∃ ds,M[k]?=some (.lst ds)/\U () M:=r_append
theorem r_join {k:Str}:W (rcvD .join (.str k)) M U=U () M:=w_pure _ M U
end
theorem w_set {β:Type}{k:Nat}{o:MO}{r:β}{R:β->MH->Prop}{ds:List D}(h:M[k]?=some (.lst ds)):W (putM k o >>= fun _=>pure r) M R=R r (M.set k o):=by
 rw[w_bind,w_putM];have e:W (pure r:Mo β) (M.set k o) R=R r (M.set k o):=w_pure _ _ _;rw[e];simp[lt_of_get h]
theorem m_append {k:Nat}:W (mtD .append (.ob k) [y]) M Q = ∃ ds,M[k]?=some (.lst ds)/\ds.length < zh/\Q .non (M.set k (.lst (ds++[y]))):=by
 show W (getL k >>= fun ds=>need _ >>= fun _=>putM k _ >>= fun _=>pure D.non) M Q=_;rw[w_bind,w_getL];refine congrArg _ (funext fun ds=>propext (and_congr_right fun h=>?_));rw[w_bind,w_need,w_set h]
theorem m_insert {k:Nat}{i:Int}:W (mtD .insert (.ob k) [.int i,y]) M Q = ∃ ds,M[k]?=some (.lst ds)/\(ds.length < zh/\-(2 ^ 62)<=i/\i < 2 ^ 62)/\Q .non (M.set k (.lst (insD ds i y))):=by
 show W (getL k >>= fun ds=>need _ >>= fun _=>putM k _ >>= fun _=>pure D.non) M Q=_;rw[w_bind,w_getL];refine congrArg _ (funext fun ds=>propext (and_congr_right fun h=>?_));rw[w_bind,w_need,w_set h]
theorem m_join {t:Str}{k:Nat}:W (mtD .join (.str t) [.ob k]) M Q = ∃ ds,M[k]?=some (.lst ds)/\∃ ys,ds.mapM strD=some ys/\(ys.map (·.length)).sum + ys.length * t.length<=16777216/\Q (.str (joinS t ys)) M:=by
 show W (getL k >>= fun ds=>lift _ >>= fun ys=>need _ >>= fun _=>pure _) M Q=_;delta W;simp only[v_bind,v_getL,v_need,v_lift,v_pure]
theorem m_extendL {k j:Nat}:W (mtD .extend (.ob k) [.ob j]) M Q = ∃ es,M[j]?=some (.lst es)/\∃ ds,M[k]?=some (.lst ds)/\(ds.length + es.length<=zh/\(j==k)=false)/\Q .non (M.set k (.lst (ds++es))):=by
 show W (getL j >>= fun es=>getL k >>= fun ds=>need _ >>= fun _=>putM k _ >>= fun _=>pure D.non) M Q=_;rw[w_bind,w_getL];refine congrArg _ (funext fun es=>propext (and_congr_right fun h0=>?_));rw[w_bind,w_getL];refine exists_congr fun ds=>and_congr_right fun h=>?_;rw[w_bind,w_need,w_set h];rfl
theorem ws_halt {F:Fl->MH->Prop}:W (semS Γ .halt ρ) M F=False:=w_stop M F
end
section
variable {α:Type}{a b c d e f g:α}{l:List α}
theorem at0:atD (a::l) 0=some a:=by simp[atD,ixD]
theorem at1:atD (a::b::l) 1=some b:=atD_nat (j:=1) rfl
theorem at2:atD (a::b::c::l) 2=some c:=atD_nat (j:=2) rfl
theorem at3:atD (a::b::c::d::l) 3=some d:=atD_nat (j:=3) rfl
theorem at4:atD (a::b::c::d::e::l) 4=some e:=atD_nat (j:=4) rfl
theorem at6:atD (a::b::c::d::e::f::g::l) 6=some g:=atD_nat (j:=6) rfl
end
theorem cut_hi {α:Type}(xs:List α){v:Int}(h:0<=v):cutD xs none (some v)=xs.take v.toNat:=by
 unfold cutD;simp only[cutIx];rw[if_neg (by first | lia | omega),vA,xR]
 by_cases h2:v.toNat<=xs.length
 ·rw[vm h2]
 ·rw[vv (by first | lia | omega),zI,xA (by first | lia | omega)]
theorem cut_lo {α:Type}(xs:List α){v:Int}(h:0<=v):cutD xs (some v) none=xs.drop v.toNat:=by
 unfold cutD;simp only[cutIx];rw[if_neg (by first | lia | omega)]
 by_cases h2:v.toNat<=xs.length
 ·rw[vm h2,xA (by rw[yu];exact zo _)]
 ·rw[vv (by first | lia | omega),ym,List.drop_of_length_le (by first | lia | omega)]
  simp
theorem nodup_map_range {α:Type}{f:Nat->α}{m:Nat}(h:∀ i j,i < m->j < m->f i=f j->i=j):((List.range m).map f).Nodup:=by
 rw[List.Nodup,xE];refine(vt (n:=m)).imp_of_mem fun {a b} ha hb hne he=>hne (h a b (yh.mp ha) (yh.mp hb) he)
theorem eqL_refl {f:D->D->Option Bool}:∀ {xs:List D},(∀ x∈xs,f x x=some true)->eqL f xs xs=some true
 | [],_=>rfl
 | x::xs,h=>by
  unfold eqL;rw[h x zD,eqL_refl fun y hy=>h y (zK _ hy)];rfl
theorem eqF_refl {x:D}(h:flatD x=true):eqF x x=true:=by
 cases x <;> first | rfl | exact absurd h zi | simp[eqF]
theorem eo_reflF {M:MH}{n:Nat}{x:D}(h:flatD x=true):eqO M (n + 1) x x=some true:=by rw[eo_flat h h,eqF_refl h]
noncomputable def plainD:Nat->D->Bool
 | 0,_=>false
 | n + 1,.tup ds=>ds.all (plainD n)
 | _ + 1,d=>flatD d
theorem eo_reflP {M:MH}:∀ {n:Nat} {x:D},plainD n x=true->eqO M n x x=some true
 | 0,_,h=>by cases h
 | n + 1,x,h=>by
  cases x with
  | tup ds =>
   rw[eo_tup];exact eqL_refl fun y hy=>eo_reflP (zV.mp h y hy)
  | fl ds=>cases h
  | ob i=>cases h
  | _=>exact eo_reflF rfl
theorem eo_ob {M:MH}{n i j:Nat}{xs ys:List D}(h1:M[i]?=some (.lst xs))(h2:M[j]?=some (.lst ys)):eqO M (n + 1) (.ob i) (.ob j)=if xs.length=ys.length then eqL (eqO M n) xs ys else some false:=by
 show (match M[i]?,M[j]? with
   | some (.lst xs),some (.lst ys)=>if xs.length=ys.length then eqL (eqO M n) xs ys else some false
   | _,_=>none)=_
 rw[h1,h2]
theorem eo_obP {M:MH}{n i j:Nat}{xs:List D}(h1:M[i]?=some (.lst xs))(h2:M[j]?=some (.lst xs))(h:∀ x∈xs,plainD n x=true):eqO M (n + 1) (.ob i) (.ob j)=some true:=by
 rw[eo_ob h1 h2,if_pos rfl];exact eqL_refl fun x hx=>eo_reflP (h x hx)
noncomputable def dropS:Nat->ISs->ISs
 | 0,s=>s
 | n + 1,.cons _ r=>dropS n r
 | _ + 1,.nil=>.nil
theorem drop_0 {s:ISs}:dropS 0 s=s:=rfl
noncomputable def cutS:Nat->ISs->ISs->ISs
 | 0,_,t=>t
 | n + 1,.cons s r,t=>.cons s (cutS n r t)
 | _ + 1,.nil,t=>t
theorem cut_0 {s t:ISs}:cutS 0 s t=t:=rfl
theorem cut_s {n:Nat}{s:IS}{r t:ISs}:cutS (n + 1) (.cons s r) t=.cons s (cutS n r t):=rfl
theorem cut_S:∀ (n:Nat) (b:ISs),b=cutS n b (dropS n b)
 | 0,_=>rfl
 | n + 1,.cons s r=>congrArg _ (cut_S n r)
 | _ + 1,.nil=>rfl
theorem drop_s {n:Nat}{s:IS}{r:ISs}:dropS (n + 1) (.cons s r)=dropS n r:=rfl
end L3
namespace L3
open PySem
section
variable {Γ:Ctx}{ρ:Ev}{M:MH}{Q:D->MH->Prop}{x y v:D}{a:IE}{s1:ISs}{U:Unit->MH->Prop}{B:Bool->MH->Prop}{S:Src->MH->Prop}{F:Fl->MH->Prop}
theorem k_dict1 {ds:List D}:W (blD .dict1 [.tup ds]) M Q = ∃ ps,kvPairs ds=some ps/\Q (.ob M.length) (M++[.dic (kvPuts [] ps)]):=by
 show W (lift (kvPairs ds) >>= fun ps=>newM _) M Q=_;delta W;simp only[v_bind,v_lift,v_newM]
theorem k_minL {j:Nat}:W (blD .minL [.ob j]) M Q = ∃ ds,M[j]?=some (.lst ds)/\∃ ns,allI ds=some ns/\ns≠[]/\Q (.int (minI ns)) M:=by
 show W (getL j >>= fun ds=>lift (allI ds) >>= fun ns=>need (ns≠[]) >>= fun _=>pure _) M Q=_;delta W;simp only[v_bind,v_getL,v_lift,v_need,v_pure]
theorem r_get {k:Nat}:W (rcvD .get (.ob k)) M U = ∃ ds,M[k]?=some (.dic ds)/\U () M:=by
 show W (getD k >>= fun _=>pure ()) M U=_;delta W;simp only[v_bind,v_getD,v_pure]
theorem w_getT (i:Nat)(M:MH)(Q:List (List (List Ky)×D)->MH->Prop):W (getT i) M Q = ∃ ds,M[i]?=some (.dtt ds)/\Q ds M:=by
 refine propext ⟨fun ⟨b,M',e,q⟩=>?_,fun ⟨a,ho,q⟩=>⟨a,M,by unfold getT;rw[ho],q⟩⟩;unfold getT at e;split at e
 ·rename_i o h;cases e;exact⟨_,h,q⟩
 ·cases e
theorem v_getT (i:Nat)(M:MH)(Q:List (List (List Ky)×D)->MH->Prop):Wp (getT i) M Q = ∃ ds,M[i]?=some (.dtt ds)/\Q ds M:=w_getT i M Q
theorem r_gtd {k:Nat}:W (rcvD .gtd (.ob k)) M U = ∃ ds,M[k]?=some (.dtt ds)/\U () M:=by
 show W (getT k >>= fun _=>pure ()) M U=_;delta W;simp only[v_bind,v_getT,v_pure]
theorem m_gtd {k:Nat}:W (mtD .gtd (.ob k) [y,v]) M Q = ∃ kvs,M[k]?=some (.dtt kvs)/\∃ q,kyT y=some q/\Q ((tkGet kvs q).getD v) M:=by
 show W (getT k >>= fun kvs=>lift (kyT y) >>= fun q=>pure _) M Q=_;delta W;simp only[v_bind,v_getT,v_lift,v_pure]
theorem r_sdf {k:Nat}:W (rcvD .sdf (.ob k)) M U = ∃ ds,M[k]?=some (.dtt ds)/\U () M:=by
 show W (getT k >>= fun _=>pure ()) M U=_;delta W;simp only[v_bind,v_getT,v_pure]
theorem m_sdf {k:Nat}:W (mtD .sdf (.ob k) [y,v]) M Q = ∃ kvs,M[k]?=some (.dtt kvs)/\∃ q,kyT y=some q/\kvs.length < zh/\W (sdfD k kvs q v) M Q:=by
 show W (getT k >>= fun kvs=>lift (kyT y) >>= fun q=>need _ >>= fun _=>sdfD k kvs q v) M Q=_;delta W;simp only[v_bind,v_getT,v_lift,v_need]
theorem y_srtT {srt:List D->Option (List D)}{k:Nat}:W (keyTT srt (.ob k)) M Q = ∃ kvs,M[k]?=some (.dtt kvs)/\∃ ys,srt (kvs.map fun p=>keyD2 p.1)=some ys/\Q (.ob M.length) (M++[.lst ys]):=by
 show W (getT k >>= fun kvs=>lift _ >>= fun ys=>newM _) M Q=_;delta W;simp only[v_bind,v_getT,v_lift,v_newM]
theorem m_get {k:Nat}:W (mtD .get (.ob k) [y,v]) M Q = ∃ kvs,M[k]?=some (.dic kvs)/\∃ q,kyD y=some q/\Q ((kvGet kvs q).getD v) M:=by
 show W (getD k >>= fun kvs=>lift (kyD y) >>= fun q=>pure _) M Q=_;delta W;simp only[v_bind,v_getD,v_lift,v_pure]
theorem wp_enum:W (semP Γ (.enum a) ρ) M S=W (semE Γ a ρ) M fun x M1=>W (enumS x) M1 S:=by delta W;simp only[q_semP_enum,v_bind]
theorem y_enumF {ds:List D}:W (enumS (.fl ds)) M S=S ⟨none,enumD ds⟩ M:=w_pure _ M S
theorem y_enumT {ds:List D}:W (enumS (.tup ds)) M S=S ⟨none,enumD ds⟩ M:=w_pure _ M S
theorem y_enumO {j:Nat}:W (enumS (.ob j)) M S = ∃ ds,M[j]?=some (.lst ds)/\S ⟨some (j,ds),enumD ds⟩ M:=by
 show W (getL j >>= fun ds=>pure _) M S=_;delta W;simp only[v_bind,v_getL,v_pure]
theorem ws_forP {i j:Nat}{it:IP}:W (semS Γ (.forP i j it s1) ρ) M F=W (semP Γ it ρ) M fun s M1=>W (loopP s.ck i j (semSs Γ s1) s.ds ρ) M1 F:=by delta W;simp only[q_semS_forP,v_bind]
noncomputable def truO:MO->Bool
 | .lst ds=>!ds.isEmpty
 | .dic kvs=>!kvs.isEmpty
 | .dtt _=>false
theorem u_ob {k:Nat}:W (truD (.ob k)) M B = ∃ o,M[k]?=some o/\obG o (B (truO o) M):=by
 show W (getM k >>= _) M B=_;rw[w_bind,w_getM];refine congrArg _ (funext fun o=>congrArg _ ?_);cases o <;> simp[truO,obG,w_pure,w_stop]
theorem u_lst {ds:List D}:truO (.lst ds) = !ds.isEmpty:=rfl
theorem enumG {ds:List D}{n:Nat}{d:D}(h:(enumD ds)[n]?=some d):∃ x,ds[n]?=some x/\d=.tup [.int n,x]:=by
 unfold enumD at h;rw[wD]at h;obtain⟨x,h1,h2⟩:=zt.mp h;exact⟨x,h1,h2.symm⟩
theorem enumN {ds:List D}:(enumD ds).length=ds.length:=wO
theorem w_loopP {ck:Option (Nat×List D)}{i j:Nat}{body:Ev->Mo Fl}{ds:List D}(I:Nat->Ev->MH->Prop)(h0:I 0 ρ M)(hs:∀ n ρ M,I n ρ M->okM ck M)
  (h:∀ (n:Nat) (d:D) (ρ:Ev) (M:MH),ds[n]?=some d->I n ρ M->∃ x y,d=.tup [x,y]/\W (body ((ρ.set i (some x)).set j (some y))) M (loopF I F n))
  (q:∀ ρ M,I ds.length ρ M->F (.nx ρ) M):W (loopP ck i j body ds ρ) M F:=by
 suffices H:∀ (r:List D) (n:Nat) (ρ:Ev) (M:MH),(∀ j d,r[j]?=some d->ds[n + j]?=some d)->n + r.length=ds.length->I n ρ M->W (loopP ck i j body r ρ) M F from
  H ds 0 ρ M (fun j d e=>by simpa using e) (by simp) h0
 intro r;induction r with
 | nil =>
  intro n ρ M _ hn hI;unfold loopP;rw[w_bind];refine W.of (show stand ck M=some (.ok (),M) from if_pos (hs _ _ _ hI)) ?_;rw[w_pure]
  have:n=ds.length:=by simpa using hn
  exact q _ _ (this ▸ hI)
 | cons d r ih =>
  intro n ρ M hr hn hI;unfold loopP;rw[w_bind];refine W.of (show stand ck M=some (.ok (),M) from if_pos (hs _ _ _ hI)) ?_;have hd:ds[n]?=some d:=by simpa using hr 0 d rfl
  have hr':∀ j d',r[j]?=some d'->ds[n + 1 + j]?=some d':=fun j d' e=>by
   have:=hr (j + 1) d' (by simpa using e)
   rwa [show n + (j + 1)=n + 1 + j by omega]at this
  have hn':n + 1 + r.length=ds.length:=by rw[zM]at hn;first | lia | omega
  obtain⟨x,y,rfl,hw⟩:=h n d ρ M hd hI;rw[w_bind,w_lift];refine⟨(x,y),rfl,?_⟩;rw[w_bind];refine hw.mono fun f M1 hf=>?_;cases f with
  | nx ρ'=>exact ih (n + 1) ρ' M1 hr' hn' hf
  | ct ρ'=>exact ih (n + 1) ρ' M1 hr' hn' hf
  | bk ρ'=>exact(w_pure _ _ _).mpr hf
  | rt v=>exact(w_pure _ _ _).mpr hf
end
end L3
namespace L3
open PySem
section
variable {Γ:Ctx}{ρ:Ev}{M:MH}{Q:D->MH->Prop}{d:D}{e:IE}{r:ISs}{F:Fl->MH->Prop}{y:Option D}
theorem v0_:W (semE Γ (.var 0) (some d::ρ)) M Q=Q d M:=by rw[we_var];simp
theorem v1_ {o0:Option D}:W (semE Γ (.var 1) (o0::some d::ρ)) M Q=Q d M:=by rw[we_var];simp
theorem v2_ {o0 o1:Option D}:W (semE Γ (.var 2) (o0::o1::some d::ρ)) M Q=Q d M:=by rw[we_var];simp
theorem v3_ {o0 o1 o2:Option D}:W (semE Γ (.var 3) (o0::o1::o2::some d::ρ)) M Q=Q d M:=by rw[we_var];simp
theorem v4_ {o0 o1 o2 o3:Option D}:W (semE Γ (.var 4) (o0::o1::o2::o3::some d::ρ)) M Q=Q d M:=by rw[we_var];simp
theorem v5_ {o0 o1 o2 o3 o4:Option D}:W (semE Γ (.var 5) (o0::o1::o2::o3::o4::some d::ρ)) M Q=Q d M:=by rw[we_var];simp
theorem v6_ {o0 o1 o2 o3 o4 o5:Option D}:W (semE Γ (.var 6) (o0::o1::o2::o3::o4::o5::some d::ρ)) M Q=Q d M:=by rw[we_var];simp
theorem v7_ {o0 o1 o2 o3 o4 o5 o6:Option D}:W (semE Γ (.var 7) (o0::o1::o2::o3::o4::o5::o6::some d::ρ)) M Q=Q d M:=by rw[we_var];simp
theorem v8_ {o0 o1 o2 o3 o4 o5 o6 o7:Option D}:W (semE Γ (.var 8) (o0::o1::o2::o3::o4::o5::o6::o7::some d::ρ)) M Q=Q d M:=by rw[we_var];simp
theorem v9_ {o0 o1 o2 o3 o4 o5 o6 o7 o8:Option D}:W (semE Γ (.var 9) (o0::o1::o2::o3::o4::o5::o6::o7::o8::some d::ρ)) M Q=Q d M:=by rw[we_var];simp
theorem v10_ {o0 o1 o2 o3 o4 o5 o6 o7 o8 o9:Option D}:W (semE Γ (.var 10) (o0::o1::o2::o3::o4::o5::o6::o7::o8::o9::some d::ρ)) M Q=Q d M:=by rw[we_var];simp
theorem v11_ {o0 o1 o2 o3 o4 o5 o6 o7 o8 o9 o10:Option D}:W (semE Γ (.var 11) (o0::o1::o2::o3::o4::o5::o6::o7::o8::o9::o10::some d::ρ)) M Q=Q d M:=by rw[we_var];simp
theorem v12_ {o0 o1 o2 o3 o4 o5 o6 o7 o8 o9 o10 o11:Option D}:W (semE Γ (.var 12) (o0::o1::o2::o3::o4::o5::o6::o7::o8::o9::o10::o11::some d::ρ)) M Q=Q d M:=by rw[we_var];simp
theorem v13_ {o0 o1 o2 o3 o4 o5 o6 o7 o8 o9 o10 o11 o12:Option D}:W (semE Γ (.var 13) (o0::o1::o2::o3::o4::o5::o6::o7::o8::o9::o10::o11::o12::some d::ρ)) M Q=Q d M:=by rw[we_var];simp
theorem v14_ {o0 o1 o2 o3 o4 o5 o6 o7 o8 o9 o10 o11 o12 o13:Option D}:W (semE Γ (.var 14) (o0::o1::o2::o3::o4::o5::o6::o7::o8::o9::o10::o11::o12::o13::some d::ρ)) M Q=Q d M:=by rw[we_var];simp
theorem v15_ {o0 o1 o2 o3 o4 o5 o6 o7 o8 o9 o10 o11 o12 o13 o14:Option D}:W (semE Γ (.var 15) (o0::o1::o2::o3::o4::o5::o6::o7::o8::o9::o10::o11::o12::o13::o14::some d::ρ)) M Q=Q d M:=by rw[we_var];simp
theorem s0_:W (semSs Γ (.cons (.set 0 e) r) (y::ρ)) M F=W (semE Γ e (y::ρ)) M fun x M1=>W (semSs Γ r (some x::ρ)) M1 F:=by rw[ws_cons,ws_set];rfl
theorem s1_ {o0:Option D}:W (semSs Γ (.cons (.set 1 e) r) (o0::y::ρ)) M F=W (semE Γ e (o0::y::ρ)) M fun x M1=>W (semSs Γ r (o0::some x::ρ)) M1 F:=by rw[ws_cons,ws_set];rfl
theorem s2_ {o0 o1:Option D}:W (semSs Γ (.cons (.set 2 e) r) (o0::o1::y::ρ)) M F=W (semE Γ e (o0::o1::y::ρ)) M fun x M1=>W (semSs Γ r (o0::o1::some x::ρ)) M1 F:=by rw[ws_cons,ws_set];rfl
theorem s3_ {o0 o1 o2:Option D}:W (semSs Γ (.cons (.set 3 e) r) (o0::o1::o2::y::ρ)) M F=W (semE Γ e (o0::o1::o2::y::ρ)) M fun x M1=>W (semSs Γ r (o0::o1::o2::some x::ρ)) M1 F:=by rw[ws_cons,ws_set];rfl
theorem s4_ {o0 o1 o2 o3:Option D}:W (semSs Γ (.cons (.set 4 e) r) (o0::o1::o2::o3::y::ρ)) M F=W (semE Γ e (o0::o1::o2::o3::y::ρ)) M fun x M1=>W (semSs Γ r (o0::o1::o2::o3::some x::ρ)) M1 F:=by rw[ws_cons,ws_set];rfl
theorem s5_ {o0 o1 o2 o3 o4:Option D}:W (semSs Γ (.cons (.set 5 e) r) (o0::o1::o2::o3::o4::y::ρ)) M F=W (semE Γ e (o0::o1::o2::o3::o4::y::ρ)) M fun x M1=>W (semSs Γ r (o0::o1::o2::o3::o4::some x::ρ)) M1 F:=by rw[ws_cons,ws_set];rfl
theorem s6_ {o0 o1 o2 o3 o4 o5:Option D}:W (semSs Γ (.cons (.set 6 e) r) (o0::o1::o2::o3::o4::o5::y::ρ)) M F=W (semE Γ e (o0::o1::o2::o3::o4::o5::y::ρ)) M fun x M1=>W (semSs Γ r (o0::o1::o2::o3::o4::o5::some x::ρ)) M1 F:=by rw[ws_cons,ws_set];rfl
theorem s7_ {o0 o1 o2 o3 o4 o5 o6:Option D}:W (semSs Γ (.cons (.set 7 e) r) (o0::o1::o2::o3::o4::o5::o6::y::ρ)) M F=W (semE Γ e (o0::o1::o2::o3::o4::o5::o6::y::ρ)) M fun x M1=>W (semSs Γ r (o0::o1::o2::o3::o4::o5::o6::some x::ρ)) M1 F:=by rw[ws_cons,ws_set];rfl
theorem s8_ {o0 o1 o2 o3 o4 o5 o6 o7:Option D}:W (semSs Γ (.cons (.set 8 e) r) (o0::o1::o2::o3::o4::o5::o6::o7::y::ρ)) M F=W (semE Γ e (o0::o1::o2::o3::o4::o5::o6::o7::y::ρ)) M fun x M1=>W (semSs Γ r (o0::o1::o2::o3::o4::o5::o6::o7::some x::ρ)) M1 F:=by rw[ws_cons,ws_set];rfl
theorem s9_ {o0 o1 o2 o3 o4 o5 o6 o7 o8:Option D}:W (semSs Γ (.cons (.set 9 e) r) (o0::o1::o2::o3::o4::o5::o6::o7::o8::y::ρ)) M F=W (semE Γ e (o0::o1::o2::o3::o4::o5::o6::o7::o8::y::ρ)) M fun x M1=>W (semSs Γ r (o0::o1::o2::o3::o4::o5::o6::o7::o8::some x::ρ)) M1 F:=by rw[ws_cons,ws_set];rfl
theorem s10_ {o0 o1 o2 o3 o4 o5 o6 o7 o8 o9:Option D}:W (semSs Γ (.cons (.set 10 e) r) (o0::o1::o2::o3::o4::o5::o6::o7::o8::o9::y::ρ)) M F=W (semE Γ e (o0::o1::o2::o3::o4::o5::o6::o7::o8::o9::y::ρ)) M fun x M1=>W (semSs Γ r (o0::o1::o2::o3::o4::o5::o6::o7::o8::o9::some x::ρ)) M1 F:=by rw[ws_cons,ws_set];rfl
theorem s11_ {o0 o1 o2 o3 o4 o5 o6 o7 o8 o9 o10:Option D}:W (semSs Γ (.cons (.set 11 e) r) (o0::o1::o2::o3::o4::o5::o6::o7::o8::o9::o10::y::ρ)) M F=W (semE Γ e (o0::o1::o2::o3::o4::o5::o6::o7::o8::o9::o10::y::ρ)) M fun x M1=>W (semSs Γ r (o0::o1::o2::o3::o4::o5::o6::o7::o8::o9::o10::some x::ρ)) M1 F:=by rw[ws_cons,ws_set];rfl
theorem s12_ {o0 o1 o2 o3 o4 o5 o6 o7 o8 o9 o10 o11:Option D}:W (semSs Γ (.cons (.set 12 e) r) (o0::o1::o2::o3::o4::o5::o6::o7::o8::o9::o10::o11::y::ρ)) M F=W (semE Γ e (o0::o1::o2::o3::o4::o5::o6::o7::o8::o9::o10::o11::y::ρ)) M fun x M1=>W (semSs Γ r (o0::o1::o2::o3::o4::o5::o6::o7::o8::o9::o10::o11::some x::ρ)) M1 F:=by rw[ws_cons,ws_set];rfl
theorem s13_ {o0 o1 o2 o3 o4 o5 o6 o7 o8 o9 o10 o11 o12:Option D}:W (semSs Γ (.cons (.set 13 e) r) (o0::o1::o2::o3::o4::o5::o6::o7::o8::o9::o10::o11::o12::y::ρ)) M F=W (semE Γ e (o0::o1::o2::o3::o4::o5::o6::o7::o8::o9::o10::o11::o12::y::ρ)) M fun x M1=>W (semSs Γ r (o0::o1::o2::o3::o4::o5::o6::o7::o8::o9::o10::o11::o12::some x::ρ)) M1 F:=by rw[ws_cons,ws_set];rfl
theorem s14_ {o0 o1 o2 o3 o4 o5 o6 o7 o8 o9 o10 o11 o12 o13:Option D}:W (semSs Γ (.cons (.set 14 e) r) (o0::o1::o2::o3::o4::o5::o6::o7::o8::o9::o10::o11::o12::o13::y::ρ)) M F=W (semE Γ e (o0::o1::o2::o3::o4::o5::o6::o7::o8::o9::o10::o11::o12::o13::y::ρ)) M fun x M1=>W (semSs Γ r (o0::o1::o2::o3::o4::o5::o6::o7::o8::o9::o10::o11::o12::o13::some x::ρ)) M1 F:=by rw[ws_cons,ws_set];rfl
theorem s15_ {o0 o1 o2 o3 o4 o5 o6 o7 o8 o9 o10 o11 o12 o13 o14:Option D}:W (semSs Γ (.cons (.set 15 e) r) (o0::o1::o2::o3::o4::o5::o6::o7::o8::o9::o10::o11::o12::o13::o14::y::ρ)) M F=W (semE Γ e (o0::o1::o2::o3::o4::o5::o6::o7::o8::o9::o10::o11::o12::o13::o14::y::ρ)) M fun x M1=>W (semSs Γ r (o0::o1::o2::o3::o4::o5::o6::o7::o8::o9::o10::o11::o12::o13::o14::some x::ρ)) M1 F:=by rw[ws_cons,ws_set];rfl
end
end L3
local macro_rules | `(tactic| walk_at $s:str)=>do
 unless s.getString=="wp"||s.getString=="ws" do Lean.Macro.throwUnsupported
 let a <- (("v0_ v1_ v2_ v3_ v4_ v5_ v6_ v7_ v8_ v9_ v10_ v11_ v12_ v13_ v14_ v15_ s0_ s1_ s2_ s3_ s4_ s5_ s6_ s7_ s8_ s9_ s10_ s11_ s12_ s13_ s14_ s15_".splitOn " ").toArray.map fun s=>Lean.mkIdent (`L3++s.toName)).mapM fun i=>`(Lean.Parser.Tactic.simpLemma| ↓ $i:ident)
 let b <- ((("lf_nx u_tup lf_ct lf_bk lf_rt k_dict1 k_minL r_get m_get r_sdf m_sdf r_gtd m_gtd we_srtT y_srtT we_dtt0 g_obt t_obt og_l og_d wp_enum y_enumF y_enumT y_enumO ws_forP u_ob u_lst w_bind w_pure we_var we_int we_bl we_non we_str we_glb we_bin we_cmp we_cmp2 we_and we_or we_not we_ifE we_tup we_lst we_dic0 we_idx we_slc we_call we_blt we_comp we_sortL we_clr we_neg we_isI we_mth ws_halt wes_nil wes_cons wo_none wo_some wt_seq wt_rng1 wt_rng2 wc_cmp wc_tru wc_not wc_and wc_or wco_none wco_some nxt_nx nxt_rt nxt_bk nxt_ct ws_nil ws_cons ws_set ws_setIx ws_expr ws_ret ws_retN ws_pass ws_brk ws_cnt ws_if ws_for end_nx end_rt p_addI p_subI p_addS p_addT p_addL p_mul p_div p_mod p_eqI p_eqS p_eqB p_neI p_neS p_pow p_ltI p_leI p_gtI p_geI p_leS p_ltS p_in p_notIn p_inS p_inT w_inMo p_is g_tup g_fl g_str g_obl g_obd g_ob t_obl t_obd t_ob z_str z_lst z_fl z_tup k_lenS k_lenO k_lenl k_lend k_lenT k_lenF k_tupL k_listI i_tup i_fl i_ob l_fl l_ob q_non q_bl q_int q_str q_tup q_fl r_append r_insert r_extend r_join m_append m_insert m_join m_extendL at0 at1 at2 at3 at4 at6 k_all k_any k_max y_tup y_fl y_lst u_bl u_int b_bl w_lift w_need w_newM w_getL w_getM ky_str ky_int D.int.injEq D.bl.injEq D.ob.injEq MO.lst.injEq MO.dic.injEq MO.dtt.injEq".replace " ws_if " (if s.getString=="wp" then " ws_if " else " ws_sel sel_t sel_f ")).splitOn " ").toArray.map fun s=>Lean.mkIdent (`L3++s.toName)).mapM fun i=>`(Lean.Parser.Tactic.simpLemma| $i:ident)
 let c <- (("List.getElem?_cons_zero List.getElem?_cons_succ List.set_cons_zero List.set_cons_succ Option.some.injEq exists_eq_left' List.map_cons List.map_nil List.cons_append List.nil_append List.replicate_succ List.replicate_zero List.length_cons List.length_nil true_and and_true Nat.reduceAdd Nat.reduceSub".splitOn " ").toArray.map fun s=>Lean.mkIdent s.toName).mapM fun i=>`(Lean.Parser.Tactic.simpLemma| $i:ident)
 let l:=a++b++c
 `(tactic| try simp only[$l,*])
local macro_rules | `(tactic| walk_at "wq")=>`(tactic| (walk_at "wp";try simp only[yS,wA,yq,wP,false_implies,true_implies,implies_true,true_and,and_true]))
local macro_rules | `(tactic| walk_at "wr")=>`(tactic| (walk_at "ws";try simp only[yS,wA,yq,wP,false_implies,true_implies,implies_true,true_and,and_true]))
local macro_rules | `(tactic| walk_at "o")=>`(tactic| first | decide | exact L3.le_line (by decide) | with_reducible exact Int.add_nonneg (by assumption) (by decide) | with_reducible exact L3.up_ (by assumption) (by with_reducible decide) | lia | omega)
namespace L3
open PySem PySem.W PyProof.Rows
noncomputable def EvP {α:Type}(lt:Nat->Nat->Option Bool)(t:KasT α)(P:α->Prop):Prop:=∃ a,evalK lt t=some a/\P a
section
variable {lt:Nat->Nat->Option Bool}{n:Nat}
theorem EvP.ret {α:Type}{a:α}{P:α->Prop}(h:P a):EvP lt (.ret a) P:=⟨a,rfl,h⟩
theorem EvP.ask {α:Type}{i j:Nat}{k:Bool->KasT α}{P:α->Prop}{b:Bool}(e:lt i j=some b)(h:EvP lt (k b) P):EvP lt (.ask i j k) P:=by
 obtain⟨a,h1,h2⟩:=h;exact⟨a,by unfold evalK;rw[e];exact h1,h2⟩
theorem EvP.bind {α β:Type}{f:α->KasT β}{P:α->Prop}{R:β->Prop}:∀ {t:KasT α},EvP lt t P->(∀ a,P a->EvP lt (f a) R)->EvP lt (t.bind f) R
 | .ret a,⟨b,e,h⟩,g=>by cases e;exact g _ h
 | .ask i j k,⟨b,e,h⟩,g=>by
  unfold evalK at e;cases q:lt i j with
  | none=>rw[q]at e;cases e
  | some c =>
   rw[q]at e;exact EvP.ask q (EvP.bind ⟨b,e,h⟩ g)
noncomputable def Ord (n:Nat)(p:Array Nat):Prop:=p.toList.Perm (List.range n)
theorem Ord.below {p:Array Nat}(h:Ord n p)(hn:0 < n)(i:Nat):p.getD i 0 < n:=by
 by_cases hi:i < p.size
 ·have:p.getD i 0∈p.toList:=by
   rw[yp,yl hi];exact Array.getElem_mem_toList hi
  exact yh.mp (h.mem_iff.mp this)
 ·rw[yp,xD (by walk_at "o")]
  exact hn
theorem Ord.rev {p:Array Nat}(h:Ord n p)(i j:Nat):Ord n (kas_rev p i j):=(mirror_perm p i j _).toList.trans h
theorem Ord.bub {p:Array Nat}(h:Ord n p)(i j:Nat):Ord n (bubble p i j):=(bubble_perm p i j).toList.trans h
variable (hl:∀ i j,i < n->j < n->∃ b,lt i j=some b)(hn:0 < n)
include hl hn
theorem asc_ev {p:Array Nat}(h:Ord n p):∀ (f m:Nat),EvP lt (kas_asc p f m) fun _=>True
 | 0,_=>.ret trivial
 | f + 1,m=>by
  obtain⟨b,e⟩:=hl _ _ (h.below hn m) (h.below hn (m - 1));refine EvP.ask e ?_;cases b with
  | true=>exact .ret trivial
  | false=>exact asc_ev h f (m + 1)
theorem desc_ev:∀ (f:Nat) {p:Array Nat} (m q:Nat),Ord n p->EvP lt (kas_desc f p m q) fun r=>Ord n r.1
 | 0,_,_,_,h=>.ret h
 | f + 1,p,m,q,h=>by
  obtain⟨b,e⟩:=hl _ _ (h.below hn m) (h.below hn (m - 1));refine EvP.ask e ?_;cases b with
  | true =>
   show EvP lt (if q > 0 then _ else _) _;split
   ·exact desc_ev f _ _ (h.rev _ _)
   ·exact desc_ev f _ _ h
  | false =>
   obtain⟨c,e2⟩:=hl _ _ (h.below hn (m - 1)) (h.below hn m);refine EvP.ask e2 ?_;cases c with
   | true=>exact .ret h
   | false=>exact desc_ev f _ _ h
theorem tail3_ev {p:Array Nat}(h:Ord n p)(m r:Nat):EvP lt (kas_tail3 m r p) fun r=>Ord n r.2 :=
 EvP.bind (asc_ev hl hn (h.rev 0 m) _ _) fun _ _=>.ret (h.rev 0 m)
theorem descPart_ev {p:Array Nat}(h:Ord n p)(m r:Nat):EvP lt (kas_descPart m r p) fun r=>Ord n r.2 :=
 EvP.bind (desc_ev hl hn _ _ _ h) fun a ha=>by
  split
  ·exact tail3_ev hl hn (ha.rev _ _) _ _
  ·exact tail3_ev hl hn ha _ _
theorem count_ev {p:Array Nat}(h:Ord n p)(r:Nat):EvP lt (kas_count r p) fun r=>Ord n r.2 :=
 EvP.bind (asc_ev hl hn h _ _) fun m _=>by
  split
  ·exact .ret h
  ·split
   ·obtain⟨b,e⟩:=hl _ _ (h.below hn 0) (h.below hn (m - 1))
    refine EvP.ask e ?_;cases b with
    | true=>exact .ret h
    | false=>exact descPart_ev hl hn (h.rev _ _) _ _
   ·exact descPart_ev hl hn h _ _
theorem place_ev {p:Array Nat}(h:Ord n p)(k:Nat):∀ (f l r:Nat),EvP lt (kas_place p k f l r) fun _=>True
 | 0,_,_=>.ret trivial
 | f + 1,l,r=>by
  unfold kas_place;split
  ·exact .ret trivial
  ·obtain⟨b,e⟩:=hl _ _ (h.below hn k) (h.below hn ((l + r) / 2))
   refine EvP.ask e ?_;cases b with
   | true=>exact place_ev h k f _ _
   | false=>exact place_ev h k f _ _
theorem bin_ev:∀ (f:Nat) {p:Array Nat} (k:Nat),Ord n p->EvP lt (kas_bin f p k) fun r=>Ord n r
 | 0,_,_,h=>.ret h
 | f + 1,p,k,h=>EvP.bind (place_ev hl hn h _ _ _ _) fun l _=>bin_ev f _ (h.bub _ _)
theorem sort_ev:EvP lt (kas_sort n) fun r=>Ord n r :=
 EvP.bind (count_ev hl hn (p:=(List.range n).toArray) (List.Perm.refl _) _) fun r h=>by
  split
  ·exact bin_ev hl hn _ _ h
  ·exact .ret h
end
theorem sortT_perm {ds:List D}(h:ds.length < 64)(hf:ds.all firstStr=true\/ds.all firstInt=true)(hl:∀ i j,i < ds.length->j < ds.length->∃ b,cmpT ds i j=some b):∃ ys,sortT ds=some ys/\ys.Perm ds:=by
 unfold sortT;split
 ·exact⟨ds,rfl,List.Perm.refl _⟩
 ·rename_i h2
  have hc:(decide (ds.length < 64)&&(ds.all firstStr||ds.all firstInt))=true:=by
   rw[decide_eq_true h,wz,yN];exact hf
  rw[if_pos hc];obtain⟨p,e,ho⟩:=sort_ev hl (by walk_at "o");rw[e];refine⟨_,rfl,?_⟩
  have:=ho.map fun i=>ds.getD i .non
  refine this.trans (List.Perm.of_eq ?_);apply xC;intro i;rw[zu];by_cases hi:i < ds.length
  ·rw[xM hi,zv hi]
   simp[zm,zv hi]
  ·rw[zZ (by rw[yz];walk_at "o"),zZ (by walk_at "o")]
   rfl
end L3
namespace L3
open PySem
noncomputable def prD (p:Str×Str):D:=.tup [.str p.1,.str p.2]
noncomputable def unD:D->Str×Str
 | .tup [.str a,.str b]=>(a,b)
 | _=>("","")
noncomputable def kvsOf (ps:List (Str×Str)):List (Ky×D):=ps.map fun p=>(.inr p.1,.str p.2)
noncomputable def look (ps:List (Str×Str))(n:Str):Option Str:=(ps.find? fun p=>decide (p.1=n)).map (·.2)
noncomputable def putS (ps:List (Str×Str))(a b:Str):List (Str×Str):=if (ps.any fun p=>decide (p.1=a))=true then ps.map (fun p=>if p.1=a then (p.1,b) else p) else ps++[(a,b)]
theorem unD_prD (p:Str×Str):unD (prD p)=p:=rfl
theorem kvGet_of (ps:List (Str×Str))(a:Str):kvGet (kvsOf ps) (.inr a)=(look ps a).map .str:=by
 unfold kvGet kvsOf look;induction ps with
 | nil=>rfl
 | cons p r ih =>
  rw[ze,yt,yt];by_cases h:p.1=a
  ·simp[h]
  ·simpa [h] using ih
theorem kvPut_of (ps:List (Str×Str))(a b:Str):kvPut (kvsOf ps) (.inr a) (.str b)=kvsOf (putS ps a b):=by
 unfold kvPut putS kvsOf;have e:((ps.map fun p=>((.inr p.1:Ky),D.str p.2)).any fun kv=>decide (kv.1=.inr a))=ps.any fun p=>decide (p.1=a):=by
  rw[wT];congr 1;funext p;simp
 rw[e];split
 ·rw[zP,zP]
  refine zY fun p _=>?_;by_cases h:p.1=a <;> simp[h]
 ·rw[zq]
  rfl
end L3
namespace L3
open PySem PySem.W PyProof.Rows
theorem nd_ne {α:Type}{l:List α}(nd:l.Nodup){i j:Nat}(hi:i < l.length)(hj:j < l.length)(hij:i≠j):l[i]≠l[j]:=by
 have pw:=xl.mp nd;rcases wQ hij with z | z
 ·exact pw i j hi hj z
 ·exact fun e=>pw j i hj hi z e.symm
noncomputable def ga (p:Array Nat)(i:Nat):Nat:=p.getD i 0
theorem ga_eq {p q:Array Nat}{i j:Nat}(h:p[i]?=q[j]?):ga p i=ga q j:=by
 unfold ga;rw[yp,yp,h]
section
variable {lt:Nat->Nat->Option Bool}{n:Nat}{R:Nat->Nat->Bool}
noncomputable def Srt (R:Nat->Nat->Bool)(p:Array Nat)(m:Nat):Prop:=∀ i j,i < j->j < m->R (ga p i) (ga p j)=true
noncomputable def Dsc (R:Nat->Nat->Bool)(p:Array Nat)(m:Nat):Prop:=∀ i j,i < j->j < m->R (ga p j) (ga p i)=true
structure Tot (lt:Nat->Nat->Option Bool) (R:Nat->Nat->Bool) (n:Nat):Prop where
 is:∀ i j,i < n->j < n->i≠j->lt i j=some (R i j)
 tr:∀ i j k,i < n->j < n->k < n->R i j=true->R j k=true->R i k=true
 tot:∀ i j,i < n->j < n->i≠j->R i j=false->R j i=true
theorem Ord.size {p:Array Nat}(h:Ord n p):p.size=n:=by rw[<- zW,List.Perm.length_eq h,yz]
theorem Ord.ne {p:Array Nat}(h:Ord n p){i j:Nat}(hi:i < n)(hj:j < n)(hij:i≠j):ga p i≠ga p j:=by
 have nd:p.toList.Nodup:=(List.Perm.nodup_iff h).mpr vt;have si:=h.size;have e:∀ k,k < n->∃ hk:k < p.toList.length,ga p k=p.toList[k]:=fun k hk=>⟨by rw[zW,si];exact hk,by
  unfold ga;rw[yp,yl (by walk_at "o")]
  rfl⟩
 obtain⟨h1,e1⟩:=e i hi;obtain⟨h2,e2⟩:=e j hj;rw[e1,e2];intro z;exact nd_ne nd h1 h2 hij z
theorem Ord.lo {p:Array Nat}(h:Ord n p)(hn:0 < n)(i:Nat):ga p i < n:=h.below hn i
variable (T:Tot lt R n)(hn:0 < n)
include T hn
theorem asc_up {p:Array Nat}(h:Ord n p):∀ (f m:Nat),1<=m->m + f<=n->Srt R p m->EvP lt (kas_asc p f m) fun r=>m<=r/\r<=m + f/\Srt R p r/\(r < m + f->R (ga p r) (ga p (r - 1))=true)
 | 0,m,_,_,hs=>.ret ⟨zo _,zo _,hs,fun z=>absurd z (yi _)⟩
 | f + 1,m,h1,h2,hs=>by
  refine EvP.ask (T.is _ _ (h.below hn m) (h.below hn (m - 1)) (h.ne (i:=m) (j:=m - 1) (by walk_at "o") (by walk_at "o") (by walk_at "o"))) ?_;cases e:R (p.getD m 0) (p.getD (m - 1) 0) with
  | true=>exact .ret ⟨zo _,by walk_at "o",hs,fun _=>e⟩
  | false =>
   have up:=T.tot _ _ (h.below hn m) (h.below hn (m - 1)) (h.ne (i:=m) (j:=m - 1) (by walk_at "o") (by walk_at "o") (by walk_at "o")) e;have hs':Srt R p (m + 1):=fun i j hij hj=>by
    by_cases hm:j=m
    ·subst hm
     by_cases hi:i=j - 1
     ·subst hi;exact up
     ·exact T.tr _ _ _ (h.lo hn _) (h.lo hn (j - 1)) (h.lo hn _) (hs i (j - 1) (by walk_at "o") (by walk_at "o")) up
    ·exact hs i j hij (by walk_at "o")
   obtain⟨a,e1,a1,a2,a3,a4⟩:=asc_up h f (m + 1) (by walk_at "o") (by walk_at "o") hs';exact⟨a,e1,by walk_at "o",by walk_at "o",a3,fun z=>a4 (by walk_at "o")⟩
theorem desc_up {p:Array Nat}(h:Ord n p):∀ (f m:Nat),1<=m->m + f<=n->Dsc R p m->EvP lt (kas_desc f p m 0) fun r=>r.1=p/\r.2.2=0/\m<=r.2.1/\r.2.1<=m + f/\Dsc R p r.2.1
 | 0,m,_,_,hs=>.ret ⟨rfl,rfl,zo _,zo _,hs⟩
 | f + 1,m,h1,h2,hs=>by
  refine EvP.ask (T.is _ _ (h.below hn m) (h.below hn (m - 1)) (h.ne (i:=m) (j:=m - 1) (by walk_at "o") (by walk_at "o") (by walk_at "o"))) ?_;cases e:R (p.getD m 0) (p.getD (m - 1) 0) with
  | true =>
   show EvP lt (kas_desc f p (m + 1) 0) _;have hs':Dsc R p (m + 1):=fun i j hij hj=>by
    by_cases hm:j=m
    ·subst hm
     by_cases hi:i=j - 1
     ·subst hi;exact e
     ·exact T.tr _ _ _ (h.lo hn _) (h.lo hn (j - 1)) (h.lo hn _) e (hs i (j - 1) (by walk_at "o") (by walk_at "o"))
    ·exact hs i j hij (by walk_at "o")
   obtain⟨a,e1,a1,a2,a3,a4,a5⟩:=desc_up h f (m + 1) (by walk_at "o") (by walk_at "o") hs';exact⟨a,e1,a1,a2,by walk_at "o",by walk_at "o",a5⟩
  | false =>
   have up:=T.tot _ _ (h.below hn m) (h.below hn (m - 1)) (h.ne (i:=m) (j:=m - 1) (by walk_at "o") (by walk_at "o") (by walk_at "o")) e;refine EvP.ask (T.is _ _ (h.below hn (m - 1)) (h.below hn m) (h.ne (i:=m - 1) (j:=m) (by walk_at "o") (by walk_at "o") (by walk_at "o"))) ?_;have up:R (p.getD (m - 1) 0) (p.getD m 0)=true:=up;rw[up];exact .ret ⟨rfl,rfl,zo _,Nat.le_add_right _ _,hs⟩
theorem tail3_up {p:Array Nat}(h:Ord n p){m:Nat}(h1:1<=m)(h2:m<=n)(hd:Dsc R p m):EvP lt (kas_tail3 m n p) fun r=>Ord n r.2/\1<=r.1/\r.1<=n/\Srt R r.2 r.1:=by
 have ho:=h.rev 0 m;have hs:Srt R (kas_rev p 0 m) m:=fun i j hij hj=>by
  have g:∀ k,k < m->ga (kas_rev p 0 m) k=ga p (m - 1 - k):=fun k hk=>ga_eq (by
   unfold kas_rev;rw[getElem?_mirror_all (by rw[h.size];exact h2),if_pos ⟨zO _,hk⟩];congr 1;walk_at "o")
  rw[g i (by walk_at "o"),g j hj];exact hd _ _ (by walk_at "o") (by walk_at "o")
 exact EvP.bind (asc_up T hn ho (n - m) m h1 (by walk_at "o") hs) fun a ha=>.ret ⟨ho,by show 1<=a;walk_at "o",by show a<=n;walk_at "o",ha.2.2.1⟩
theorem count_up {p:Array Nat}(h:Ord n p):EvP lt (kas_count n p) fun r=>Ord n r.2/\1<=r.1/\r.1<=n/\Srt R r.2 r.1 :=
 EvP.bind (asc_up T hn h (n - 1) 1 (zo _) (by walk_at "o") (fun i j hij hj=>by walk_at "o")) fun m hm=>by
  obtain⟨m1,m2,m3,m4⟩:=hm;split
  ·exact .ret ⟨h,m1,by show m<=n;walk_at "o",m3⟩
  ·rename_i hne
   have hne:m≠n:=by simpa using hne
   split
   ·rename_i hm
    refine EvP.ask (T.is _ _ (h.below hn 0) (h.below hn (m - 1)) (h.ne (i:=0) (j:=m - 1) (by walk_at "o") (by walk_at "o") (by walk_at "o"))) ?_;have up:R (p.getD 0 0) (p.getD (m - 1) 0)=true:=m3 0 (m - 1) (by walk_at "o") (by walk_at "o");rw[up];exact .ret ⟨h,m1,by show m<=n;walk_at "o",m3⟩
   ·rename_i hm
    have e:m=1:=by walk_at "o"
    subst e;refine EvP.bind (desc_up T hn h (n - 2) 2 (by walk_at "o") (by walk_at "o") (fun i j hij hj=>?_)) fun r hr=>?_
    ·have ei:i=0:=by walk_at "o"
     have ej:j=1:=by walk_at "o"
     subst ei ej;exact m4 (by walk_at "o")
    ·obtain⟨r1,r2,r3,r4,r5⟩:=hr
     rw[if_neg (by walk_at "o"),r1];exact tail3_up T hn h (by walk_at "o") (by walk_at "o") r5
theorem place_up {p:Array Nat}(h:Ord n p){k:Nat}(hk:k < n)(hs:Srt R p k):∀ (f l r:Nat),r - l<=f->r<=k->l<=r->(∀ i,i < l->R (ga p i) (ga p k)=true)->(∀ i,r<=i->i < k->R (ga p k) (ga p i)=true) ->
  EvP lt (kas_place p k f l r) fun a=>a<=k/\(∀ i,i < a->R (ga p i) (ga p k)=true)/\(∀ i,a<=i->i < k->R (ga p k) (ga p i)=true)
 | 0,l,r,h0,h1,h2,hl,hr=>.ret ⟨by walk_at "o",hl,fun i a b=>hr i (by walk_at "o") b⟩
 | f + 1,l,r,h0,h1,h2,hl,hr=>by
  unfold kas_place;split
  ·exact .ret ⟨by walk_at "o",hl,fun i a b=>hr i (by walk_at "o") b⟩
  ·rename_i hlr
   have hm:(l + r) / 2 < k:=by walk_at "o"
   refine EvP.ask (T.is _ _ (h.below hn k) (h.below hn ((l + r) / 2)) (h.ne (i:=k) (j:=(l + r) / 2) hk (by walk_at "o") (by walk_at "o"))) ?_;cases e:R (p.getD k 0) (p.getD ((l + r) / 2) 0) with
   | true =>
    refine place_up h hk hs f l ((l + r) / 2) (by walk_at "o") (by walk_at "o") (by walk_at "o") hl fun i a b=>?_;by_cases z:i=(l + r) / 2
    ·subst z;exact e
    ·exact T.tr _ _ _ (h.lo hn _) (h.lo hn ((l + r) / 2)) (h.lo hn _) e (hs _ _ (by walk_at "o") b)
   | false =>
    have up:=T.tot _ _ (h.below hn k) (h.below hn ((l + r) / 2)) (h.ne (i:=k) (j:=(l + r) / 2) hk (by walk_at "o") (by walk_at "o")) e;refine place_up h hk hs f ((l + r) / 2 + 1) r (by walk_at "o") h1 (by walk_at "o") (fun i a=>?_) hr;by_cases z:i=(l + r) / 2
    ·subst z;exact up
    ·exact T.tr _ _ _ (h.lo hn _) (h.lo hn ((l + r) / 2)) (h.lo hn _) (hs _ _ (by walk_at "o") hm) up
theorem bin_up:∀ (f:Nat) {p:Array Nat} (k:Nat),Ord n p->k + f=n->Srt R p k->EvP lt (kas_bin f p k) fun r=>Ord n r/\Srt R r n
 | 0,_,k,h,e,hs=>.ret ⟨h,(by have e2:k=n:=(by walk_at "o");subst e2;exact hs)⟩
 | f + 1,p,k,h,e,hs=>EvP.bind (place_up T hn h (k:=k) (by walk_at "o") hs k 0 k (by walk_at "o") (zo _) (zO _) (fun i z=>absurd z (Nat.not_lt_zero _)) (fun i a b=>absurd b (by walk_at "o"))) fun l hl=>by
   obtain⟨l1,l2,l3⟩:=hl;refine bin_up f (k + 1) (h.bub _ _) (by walk_at "o") fun i j hij hj=>?_;have g:=getElem?_bubble (xs:=p) (src:=k) (by rw[h.size];walk_at "o") (k - l) (by walk_at "o");have g0:∀ i,i < l->ga (bubble p k (k - l)) i=ga p i:=fun i hi=>ga_eq (by rw[g,if_neg (by walk_at "o"),if_neg (by walk_at "o")]);have g1:ga (bubble p k (k - l)) l=ga p k:=ga_eq (by rw[g,if_pos (by walk_at "o")]);have g2:∀ i,l < i->i<=k->ga (bubble p k (k - l)) i=ga p (i - 1):=fun i a b=>ga_eq (by rw[g,if_neg (by walk_at "o"),if_pos (by walk_at "o")]);rcases wU i l with hi | hi | hi
   ·rw[g0 i hi]
    rcases wU j l with hj' | hj' | hj'
    ·rw[g0 j hj'];exact hs _ _ hij (by walk_at "o")
    ·subst hj';rw[g1];exact l2 i hi
    ·rw[g2 j hj' (by walk_at "o")];exact hs _ _ (by walk_at "o") (by walk_at "o")
   ·subst hi
    rw[g1,g2 j hij (by walk_at "o")];exact l3 _ (by walk_at "o") (by walk_at "o")
   ·rw[g2 i hi (by walk_at "o"),g2 j (by walk_at "o") (by walk_at "o")]
    exact hs _ _ (by walk_at "o") (by walk_at "o")
theorem sort_up:EvP lt (kas_sort n) fun r=>Ord n r/\Srt R r n :=
 EvP.bind (count_up T hn (p:=(List.range n).toArray) (List.Perm.refl _)) fun r h=>by
  obtain⟨h1,h2,h3,h4⟩:=h;split
  ·rename_i hlt
   rw[Nat.max_eq_left h2];exact bin_up T hn _ _ h1 (by walk_at "o") h4
  ·have:r.1=n:=by walk_at "o"
   rw[this]at h4;exact .ret ⟨h1,h4⟩
end
noncomputable def ltS (a b:Str):Bool:=decide (a.cps.toList < b.cps.toList)
theorem ltS_tot {a b:Str}(h:a≠b)(n:ltS a b=false):ltS b a=true:=by
 unfold ltS at *;simp only[decide_eq_false_iff_not,wC]at n;simp only[decide_eq_true_eq];rcases List.le_iff_lt_or_eq.mp n with z | z
 ·exact z
 ·refine(h ?_).elim
  cases a;cases b;congr 1;exact xo.mp z.symm
end L3
namespace L3
open PySem
structure StO {α:Type} (lt:α->α->Bool):Prop where
 irr:∀ a,lt a a=false
 tr:∀ a b c,lt a b=true->lt b c=true->lt a c=true
 tot:∀ a b,a≠b->lt a b=false->lt b a=true
theorem StO.asym {α:Type}{lt:α->α->Bool}(h:StO lt){a b:α}(x:lt a b=true)(y:lt b a=true):False:=by
 have:=h.tr a b a x y
 rw[h.irr]at this;cases this
section
variable {α:Type}[DecidableEq α]{lt:α->α->Bool}
theorem lexG_irr:∀ xs:List α,lexG lt xs xs=false
 | []=>rfl
 | x::xs=>by rw[lexG,if_pos rfl];exact lexG_irr xs
theorem lexG_tr (h:StO lt):∀ a b c:List α,lexG lt a b=true->lexG lt b c=true->lexG lt a c=true
 | [],[],c,x,_=>by cases x
 | [],_::_,[],_,y=>by cases y
 | [],_::_,_::_,_,_=>rfl
 | _::_,[],_,x,_=>by cases x
 | _::_,_::_,[],_,y=>by cases y
 | p::a,q::b,r::c,x,y=>by
  rw[lexG]at x y ⊢;by_cases e1:p=q
  ·subst e1
   rw[if_pos rfl]at x;by_cases e2:p=r
   ·rw[if_pos e2]at y ⊢
    exact lexG_tr h a b c x y
   ·rw[if_neg e2]at y ⊢
    exact y
  ·rw[if_neg e1]at x
   by_cases e2:q=r
   ·subst e2
    rw[if_neg e1];exact x
   ·rw[if_neg e2]at y
    have z:=h.tr p q r x y;rw[if_neg fun e=>by subst e;exact h.asym x y];exact z
theorem lexG_tot (h:StO lt):∀ a b:List α,a≠b->lexG lt a b=false->lexG lt b a=true
 | [],[],n,_=>absurd rfl n
 | [],_::_,_,x=>by cases x
 | _::_,[],_,_=>rfl
 | p::a,q::b,n,x=>by
  rw[lexG]at x ⊢;by_cases e:p=q
  ·subst e
   rw[if_pos rfl]at x ⊢;exact lexG_tot h a b (fun z=>n (by rw[z])) x
  ·rw[if_neg e]at x
   rw[if_neg fun z=>e z.symm];exact h.tot p q e x
theorem lexG_o (h:StO lt):StO (lexG lt):=⟨lexG_irr,lexG_tr h,lexG_tot h⟩
end
theorem ltI_o:StO ltI:=⟨fun a=>by unfold ltI;simp,fun a b c x y=>by unfold ltI at *;simp only[decide_eq_true_eq]at *;walk_at "o",fun a b n x=>by unfold ltI at *;simp only[decide_eq_true_eq,decide_eq_false_iff_not]at *;walk_at "o"⟩
theorem ltSt_o:StO ltSt:=⟨fun a=>by unfold ltSt;simp[List.lt_irrefl],fun a b c x y=>by
 unfold ltSt at *;simp only[decide_eq_true_eq]at *;exact List.lt_trans x y,fun a b n x=>ltS_tot n x⟩
theorem ltG_o:StO ltG:=by
 have hI:=lexG_o ltI_o;have hS:=lexG_o ltSt_o;refine⟨fun a=>by unfold ltG;simp,fun a b c x y=>?_,fun a b n x=>?_⟩
 ·unfold ltG at *
  by_cases e1:a.1=b.1
  ·rw[if_pos e1]at x
   by_cases e2:a.2=b.2
   ·rw[if_pos e2]at x;cases x
   rw[if_neg e2]at x;by_cases e3:b.1=c.1
   ·rw[if_pos e3]at y
    rw[if_pos (e1.trans e3)];by_cases e4:b.2=c.2
    ·rw[if_pos e4]at y;cases y
    rw[if_neg e4]at y;rw[if_neg fun e=>by rw[e]at x;exact hS.asym x y];exact hS.tr _ _ _ x y
   ·rw[if_neg e3]at y
    rw[e1,if_neg e3];exact y
  ·rw[if_neg e1]at x
   by_cases e3:b.1=c.1
   ·rw[<- e3,if_neg e1]
    exact x
   ·rw[if_neg e3]at y
    rw[if_neg fun e=>by rw[e]at x;exact hI.asym x y];exact hI.tr _ _ _ x y
 ·unfold ltG at *
  by_cases e1:a.1=b.1
  ·rw[if_pos e1]at x
   rw[if_pos e1.symm];by_cases e2:a.2=b.2
   ·exact absurd (Prod.ext e1 e2) n
   rw[if_neg e2]at x;rw[if_neg fun z=>e2 z.symm];exact hS.tot _ _ e2 x
  ·rw[if_neg e1]at x
   rw[if_neg fun z=>e1 z.symm];exact hI.tot _ _ e1 x
end L3
namespace L3
open PySem
theorem allI_of':∀ xs:List Int,allI (xs.map .int)=some xs
 | []=>rfl
 | x::xs=>by rw[ze];simp only[allI,intD,allI_of' xs]
theorem gsP_of':∀ gs:List Gk,gsP (gs.map gD)=some gs
 | []=>rfl
 | g::gs=>by
  have h1:gP (gD g)=some g:=by
   show gP2 (g.1.map .int) (g.2.map .str)=some g;rw[gP2,allI_of',allS_map]
  rw[ze,gsP,h1,gsP_of' gs]
theorem sort_gs {gs:List Gk}(h:gs.length < 64)(nd:gs.Nodup):∃ gs':List Gk,sortD (gs.map gD)=some (gs'.map gD)/\gs'.Perm gs/\gs'.Pairwise fun a b=>ltG a b=true:=by
 cases hg:gs with
 | nil =>
  have e:=sortD_str (xs:=[]) (by show 0 < 64;walk_at "o");have e2:sortS []=[]:=yf.mp (sortS_perm []).length_eq;rw[e2]at e;exact⟨[],e,.refl _,.nil⟩
 | cons g r =>
  have hn:sortF (gs.map gD)=none:=by rw[hg,ze];rfl
  rw[<- hg];unfold sortD;rw[hn];unfold sortQ;by_cases h2:2<=gs.length
  ·have hc:(decide (2<=(gs.map gD).length)&&decide ((gs.map gD).length < 64))=true:=by
    rw[zz,decide_eq_true h2,decide_eq_true h];rfl
   have T:Tot (cmpP gs) (fun i j=>ltG (gs.getD i g) (gs.getD j g)) gs.length:=by
    refine⟨fun i j hi hj _=>?_,fun i j k _ _ _ a b=>ltG_o.tr _ _ _ a b,fun i j hi hj hij a=>ltG_o.tot _ _ ?_ a⟩
    ·unfold cmpP
     rw[zv hi,zv hj];simp[zm,zv hi,zv hj]
    ·rw[zm,zm,zv hi,zv hj]
     exact nd_ne nd hi hj hij
   obtain⟨p,e,ho,hs⟩:=sort_up T (by walk_at "o");have hsz:=ho.size;have es:sortP (gs.map gD)=some (p.toList.map fun i=>(gs.map gD).getD i .non):=by
    unfold sortP;rw[gsP_of'];dsimp only;rw[if_pos hc,zz,e];rfl
   rw[es];refine⟨p.toList.map fun i=>gs.getD i g,?_,?_,?_⟩
   ·dsimp only
    congr 1;rw[zP];refine zY fun i hi=>?_;have hi':i < gs.length:=yh.mp (ho.mem_iff.mp hi);simp[zm,zv hi']
   ·have:=ho.map fun i=>gs.getD i g
    refine this.trans (List.Perm.of_eq ?_);apply xC;intro i;rw[zu];by_cases hi:i < gs.length
    ·rw[xM hi,zv hi]
     simp[zm,zv hi]
    ·rw[zZ (by rw[yz];walk_at "o"),zZ (by walk_at "o")]
     rfl
   ·rw[xl]
    intro i j hi hj hij;rw[zz,zW,hsz]at hi hj;have e1:∀ k (hk:k < gs.length),p.toList[k]?=some (ga p k):=fun k hk=>by
     unfold ga;rw[ya,yp,yl (by walk_at "o")];rfl
    have:=hs i j hij hj
    have a1:=e1 i hi;have a2:=e1 j hj;rw[zv (by rw[zW];walk_at "o"),Option.some.injEq]at a1 a2;rw[yX,yX,a1,a2];exact this
  ·have hc:(decide (2<=(gs.map gD).length)&&decide ((gs.map gD).length < 64))=false:=by
    rw[zz,decide_eq_false h2];rfl
   have es:sortP (gs.map gD)=none:=by
    unfold sortP;rw[gsP_of'];dsimp only;rw[if_neg (by rw[hc];exact zi)]
   rw[es];refine⟨gs,?_,.refl _,?_⟩
   ·dsimp only
    unfold sortT;rw[if_pos (by rw[zz];walk_at "o")]
   ·match gs,h2 with
    | [],_=>exact .nil
    | [a],_=>exact xc _ _
    | a::b::r,z=>exact absurd (by show 2<=r.length + 1 + 1;walk_at "o") z
end L3
namespace Law
open PySem L3
noncomputable def gl (_:Str):Option D:=none
noncomputable def b_has_name:ISs :=
 (.cons (.ret (.blt .any (.cons (.comp 2 (.seq (.var 0)) .none (.cmp .Eq (.idx (.var 0) (.cint 0)) (.var 2))) .nil)))
  .nil)
noncomputable def b_value_in:ISs :=
 (.cons (.forS 2 (.seq (.var 0)) (.cons (.ifS (.cmp (.cmp .Eq (.idx (.var 2) (.cint 0)) (.var 1))) (.cons (.ret (.idx (.var 2) (.cint 1)))
  .nil) .nil)
  .nil))
  (.cons (.ret (.cstr ("" : Str)))
  .nil))
noncomputable def b_meets:ISs :=
 (.cons (.set 2 (.idx (.var 0) (.cint 0)))
  (.cons (.set 3 (.idx (.var 0) (.cint 1)))
  (.cons (.set 4 (.idx (.var 0) (.cint 2)))
  (.cons (.ifS (.cmp (.cmp .Eq (.var 2) (.cstr ("is" : Str)))) (.cons (.ret (.cmp .In (.call ("value_in" : Str) (.cons (.var 1) (.cons (.var 3) .nil))) (.var 4)))
  .nil) .nil)
  (.cons (.ifS (.cmp (.cmp .Eq (.var 2) (.cstr ("no" : Str)))) (.cons (.ret (.cmp .NotIn (.call ("value_in" : Str) (.cons (.var 1) (.cons (.var 3) .nil))) (.var 4)))
  .nil) .nil)
  (.cons (.ifS (.cmp (.cmp .Eq (.var 2) (.cstr ("there" : Str)))) (.cons (.ret (.call ("has_name" : Str) (.cons (.var 1) (.cons (.var 3) .nil))))
  .nil) .nil)
  (.cons (.ret (.not (.call ("has_name" : Str) (.cons (.var 1) (.cons (.var 3) .nil)))))
  .nil)))))))
noncomputable def b_meets_all:ISs :=
 (.cons (.ret (.blt .all (.cons (.comp 2 (.seq (.var 0)) .none (.call ("meets" : Str) (.cons (.var 0) (.cons (.var 2) .nil)))) .nil)))
  .nil)
noncomputable def b_stands:ISs :=
 (.cons (.ret (.and (.cmp .LtE (.idx (.var 0) (.cint 3)) (.var 1)) (.or (.cmp .Is (.idx (.var 0) (.cint 4)) .cnon) (.cmp .Gt (.idx (.var 0) (.cint 4)) (.var 1)))))
  .nil)
noncomputable def b_in_force:ISs :=
 (.cons (.ret (.cmp2 .LtE .Lt (.idx (.var 0) (.cint 2)) (.var 1) (.idx (.var 0) (.cint 3))))
  .nil)
noncomputable def b_have_same_values:ISs :=
 (.cons (.ret (.blt .all (.cons (.comp 3 (.seq (.var 2)) .none (.cmp .Eq (.call ("value_in" : Str) (.cons (.var 1) (.cons (.var 0) .nil))) (.call ("value_in" : Str) (.cons (.var 2) (.cons (.var 0) .nil))))) .nil)))
  .nil)
noncomputable def b_is_greater:ISs :=
 (.cons (.ret (.and (.call ("meets_all" : Str) (.cons (.idx (.var 2) (.cint 0)) (.cons (.idx (.var 0) (.cint 1)) .nil))) (.call ("have_same_values" : Str) (.cons (.idx (.var 1) (.cint 1)) (.cons (.idx (.var 0) (.cint 1)) (.cons (.idx (.var 2) (.cint 2)) .nil))))))
  .nil)
noncomputable def b_ground:ISs :=
 (.cons (.set 5 (.comp 11 (.seq (.var 2)) (.some (.tru (.call ("in_force" : Str) (.cons (.var 0) (.cons (.var 5) .nil))))) (.var 0)))
  (.cons (.set 6 (.comp 11 (.seq (.var 5)) (.some (.tru (.call ("meets_all" : Str) (.cons (.idx (.var 0) (.cint 1)) (.cons (.idx (.var 1) (.cint 1)) .nil))))) (.idx (.var 0) (.cint 0))))
  (.cons (.ifS (.tru (.var 6)) (.cons (.ret (.tup (.cons (.cstr ("told" : Str)) (.cons (.blt .minL (.cons (.var 6) .nil)) .nil))))
  .nil) .nil)
  (.cons (.set 7 (.comp 11 (.seq (.var 1)) (.some (.and (.cmp (.cmp .Gt (.idx (.var 0) (.cint 2)) (.idx (.var 1) (.cint 2)))) (.tru (.call ("stands" : Str) (.cons (.var 0) (.cons (.var 5) .nil)))))) (.var 0)))
  (.cons (.forP 8 9 (.enum (.var 3)) (.cons (.ifS (.tru (.call ("meets_all" : Str) (.cons (.idx (.var 9) (.cint 1)) (.cons (.idx (.var 0) (.cint 1)) .nil)))) (.cons (.set 10 (.comp 11 (.seq (.var 7)) (.some (.tru (.call ("is_greater" : Str) (.cons (.var 0) (.cons (.var 1) (.cons (.var 10) .nil)))))) (.idx (.var 0) (.cint 0))))
  (.cons (.ifS (.tru (.var 10)) (.cons (.ret (.tup (.cons (.cstr ("greater" : Str)) (.cons (.var 8) (.cons (.blt .minL (.cons (.var 10) .nil)) .nil)))))
  .nil) .nil)
  .nil)) .nil)
  .nil))
  (.cons (.ret .cnon)
  .nil))))))
noncomputable def b_row_at:ISs :=
 (.cons (.set 2 (.var 0))
  (.cons (.forS 3 (.seq (.var 1)) (.cons (.ifS (.not (.cmp (.cmp2 .LtE .Lt (.cint 0) (.var 3) (.blt .len (.cons (.idx (.var 2) (.cint 6)) .nil))))) (.cons .halt
  .nil) .nil)
  (.cons (.set 2 (.idx (.idx (.var 2) (.cint 6)) (.var 3)))
  .nil)))
  (.cons (.ret (.var 2))
  .nil)))
noncomputable def b_taken_from:ISs :=
 (.cons (.set 3 (.lst .nil))
  (.cons (.forP 4 5 (.enum (.idx (.var 0) (.cint 6))) (.cons (.ifS (.tru (.call ("meets_all" : Str) (.cons (.idx (.var 5) (.cint 0)) (.cons (.var 2) .nil)))) (.cons (.expr (.mth .extend (.var 3) (.cons (.call ("taken_from" : Str) (.cons (.var 5) (.cons (.bin .Add (.var 1) (.tup (.cons (.var 4) .nil))) (.cons (.var 2) .nil)))) .nil)))
  (.cons (.ifS (.not (.tru (.idx (.var 5) (.cint 1)))) (.cons .brk
  .nil) .nil)
  .nil)) .nil)
  .nil))
  (.cons (.ret (.ifE (.tru (.var 3)) (.var 3) (.lst (.cons (.var 1) .nil))))
  .nil)))
noncomputable def b_taken:ISs :=
 (.cons (.ret (.call ("taken_from" : Str) (.cons (.var 0) (.cons (.tup .nil) (.cons (.var 1) .nil)))))
  .nil)
noncomputable def b_key_of:ISs :=
 (.cons (.ret (.blt .tuple (.cons (.comp 2 (.seq (.idx (.var 0) (.cint 2))) .none (.call ("value_in" : Str) (.cons (.var 2) (.cons (.var 0) .nil)))) .nil)))
  .nil)
noncomputable def b_groups_of:ISs :=
 (.cons (.ret (.comp 2 (.seq (.call ("taken" : Str) (.cons (.var 0) (.cons (.var 1) .nil)))) .none (.tup (.cons (.var 0) (.cons (.call ("key_of" : Str) (.cons (.call ("row_at" : Str) (.cons (.var 1) (.cons (.var 0) .nil))) (.cons (.var 2) .nil))) .nil)))))
  .nil)
noncomputable def b_members:ISs :=
 (.cons (.set 5 (.comp 8 (.seq (.var 1)) (.some (.tru (.call ("stands" : Str) (.cons (.var 0) (.cons (.var 5) .nil))))) (.var 0)))
  (.cons (.set 6 (.comp 10 (.seq (.var 2)) (.some (.tru (.call ("in_force" : Str) (.cons (.var 0) (.cons (.var 5) .nil))))) (.var 0)))
  (.cons (.set 7 .dtt0)
  (.cons (.forS 8 (.seq (.var 5)) (.cons (.ifS (.cmp (.cmp .Is (.call ("ground" : Str) (.cons (.var 8) (.cons (.var 5) (.cons (.var 6) (.cons (.var 3) (.cons (.var 4) .nil)))))) .cnon)) (.cons (.forS 9 (.seq (.call ("groups_of" : Str) (.cons (.var 0) (.cons (.idx (.var 8) (.cint 1)) .nil)))) (.cons (.expr (.mth .append (.mth .sdf (.var 7) (.cons (.var 9) (.cons (.lst .nil) .nil))) (.cons (.idx (.var 8) (.cint 0)) .nil)))
  .nil))
  .nil) .nil)
  .nil))
  (.cons (.ret (.comp 9 (.seq (.srtT (.var 7))) .none (.bin .Add (.var 0) (.tup (.cons (.sortL (.idx (.var 8) (.var 0))) .nil)))))
  .nil)))))
noncomputable def b__law_mixed:ISs :=
 (.cons (.set 2 (.bin .Add (.bin .Mult (.bin .Mult (.var 1) (.var 1)) (.cint 7919)) (.cint 11)))
  (.cons (.ifS (.cmp (.cmp .Gt (.blt .len (.cons (.var 0) .nil)) (.cint 0))) (.cons (.set 2 (.bin .Add (.var 2) (.idx (.var 0) (.bin .Mod (.var 1) (.blt .len (.cons (.var 0) .nil))))))
  .nil) .nil)
  (.cons (.ret (.var 2))
  .nil)))
noncomputable def b__law_pick:ISs :=
 (.cons (.ret (.bin .Mod (.bin .Mod (.bin .Mult (.call ("_law_mixed" : Str) (.cons (.var 0) (.cons (.var 1) .nil))) (.cint 48271)) (.cint 2147483647)) (.var 2)))
  .nil)
noncomputable def b__law_words:ISs :=
 (.cons (.set 4 (.mth .join (.cstr ("" : Str)) (.cons (.comp 9 (.rng1 (.cint 8)) .none (.idx (.var 3) (.call ("_law_pick" : Str) (.cons (.var 1) (.cons (.bin .Add (.var 2) (.var 0)) (.cons (.blt .len (.cons (.var 3) .nil)) .nil)))))) .nil)))
  (.cons (.set 5 (.call ("_law_pick" : Str) (.cons (.var 0) (.cons (.bin .Add (.var 1) (.cint 8)) (.cons (.cint 3) .nil)))))
  (.cons (.ifS (.cmp (.cmp .Eq (.var 5) (.cint 0))) (.cons (.ret (.comp 9 (.rng1 (.var 3)) .none (.slc (.var 5) .none (.some (.bin .Add (.var 0) (.cint 1))))))
  .nil) .nil)
  (.cons (.set 6 (.call ("_law_pick" : Str) (.cons (.var 0) (.cons (.bin .Add (.var 1) (.cint 9)) (.cons (.cint 8) .nil)))))
  (.cons (.set 7 (.call ("_law_pick" : Str) (.cons (.var 0) (.cons (.bin .Add (.var 1) (.cint 10)) (.cons (.blt .len (.cons (.var 2) .nil)) .nil)))))
  (.cons (.set 8 (.lst .nil))
  (.cons (.forS 9 (.rng1 (.var 3)) (.cons (.set 10 (.idx (.var 2) (.bin .Mod (.bin .Add (.var 7) (.var 9)) (.blt .len (.cons (.var 2) .nil)))))
  (.cons (.expr (.mth .append (.var 8) (.cons (.bin .Add (.bin .Add (.slc (.var 4) .none (.some (.var 6))) (.var 10)) (.slc (.var 4) (.some (.bin .Add (.var 6) (.cint 1))) .none)) .nil)))
  .nil)))
  (.cons (.ifS (.cmp (.cmp .Eq (.var 5) (.cint 1))) (.cons (.ret (.var 8))
  .nil) .nil)
  (.cons (.ret (.comp 11 (.seq (.var 8)) .none (.slc (.var 0) .none (.some (.bin .Add (.var 7) (.cint 1))))))
  .nil)))))))))
noncomputable def b__law_pool:ISs :=
 (.cons (.set 2 (.call ("_law_words" : Str) (.cons (.var 0) (.cons (.var 1) (.cons (.cstr ("abcdefghijklmnopqrstuvwxyz" : Str)) (.cons (.cint 6) .nil))))))
  (.cons (.set 3 (.call ("_law_words" : Str) (.cons (.var 0) (.cons (.bin .Add (.var 1) (.cint 11)) (.cons (.cstr ("abcdefghijklmnopqrstuvwxyz0123456789" : Str)) (.cons (.cint 4) .nil))))))
  (.cons (.ifS (.cmp (.cmp .Eq (.call ("_law_pick" : Str) (.cons (.var 0) (.cons (.bin .Add (.var 1) (.cint 22)) (.cons (.cint 2) .nil)))) (.cint 0))) (.cons (.set 3 (.comp 6 (.seq (.var 3)) .none (.bin .Add (.var 0) (.cstr ("0z9a" : Str)))))
  .nil) .nil)
  (.cons (.set 4 (.call ("_law_pick" : Str) (.cons (.var 0) (.cons (.bin .Add (.var 1) (.cint 23)) (.cons (.cint 6) .nil)))))
  (.cons (.set 2 (.bin .Add (.slc (.var 2) (.some (.var 4)) .none) (.slc (.var 2) .none (.some (.var 4)))))
  (.cons (.set 5 (.slc (.var 2) .none (.some (.idx (.lst (.cons (.cint 1) (.cons (.cint 2) (.cons (.cint 1) (.cons (.cint 2) (.cons (.cint 1) (.cons (.cint 2) (.cons (.cint 2) (.cons (.cint 1) (.cons (.cint 3) .nil)))))))))) (.call ("_law_pick" : Str) (.cons (.var 0) (.cons (.bin .Add (.var 1) (.cint 24)) (.cons (.cint 9) .nil))))))))
  (.cons (.ret (.tup (.cons (.var 5) (.cons (.slc (.var 3) .none (.some (.idx (.lst (.cons (.cint 1) (.cons (.cint 2) (.cons (.cint 1) (.cons (.cint 2) (.cons (.cint 2) (.cons (.cint 1) (.cons (.cint 2) (.cons (.cint 1) (.cons (.cint 3) .nil)))))))))) (.call ("_law_pick" : Str) (.cons (.var 0) (.cons (.bin .Add (.var 1) (.cint 25)) (.cons (.cint 9) .nil))))))) (.cons (.var 2) (.cons (.idx (.var 3) (.cint 3)) .nil))))))
  .nil)))))))
noncomputable def b__law_asking:ISs :=
 (.cons (.set 3 (.idx (.idx (.var 2) (.cint 0)) (.call ("_law_pick" : Str) (.cons (.var 0) (.cons (.var 1) (.cons (.blt .len (.cons (.idx (.var 2) (.cint 0)) .nil)) .nil))))))
  (.cons (.set 4 (.idx (.lst (.cons (.cstr ("is" : Str)) (.cons (.cstr ("is" : Str)) (.cons (.cstr ("no" : Str)) (.cons (.cstr ("there" : Str)) (.cons (.cstr ("lacks" : Str)) .nil)))))) (.call ("_law_pick" : Str) (.cons (.var 0) (.cons (.bin .Add (.var 1) (.cint 1)) (.cons (.cint 5) .nil))))))
  (.cons (.ifS (.or (.cmp (.cmp .Eq (.var 4) (.cstr ("there" : Str)))) (.cmp (.cmp .Eq (.var 4) (.cstr ("lacks" : Str))))) (.cons (.ret (.tup (.cons (.var 4) (.cons (.var 3) (.cons (.tup .nil) .nil)))))
  .nil) .nil)
  (.cons (.set 5 (.call ("_law_pick" : Str) (.cons (.var 0) (.cons (.bin .Add (.var 1) (.cint 2)) (.cons (.blt .len (.cons (.idx (.var 2) (.cint 1)) .nil)) .nil)))))
  (.cons (.set 6 (.bin .Add (.slc (.idx (.var 2) (.cint 1)) (.some (.var 5)) .none) (.slc (.idx (.var 2) (.cint 1)) .none (.some (.var 5)))))
  (.cons (.ret (.tup (.cons (.var 4) (.cons (.var 3) (.cons (.blt .tuple (.cons (.slc (.var 6) .none (.some (.bin .Add (.cint 1) (.call ("_law_pick" : Str) (.cons (.var 0) (.cons (.bin .Add (.var 1) (.cint 3)) (.cons (.blt .len (.cons (.idx (.var 2) (.cint 1)) .nil)) .nil))))))) .nil)) .nil)))))
  .nil))))))
noncomputable def b__law_askings:ISs :=
 (.cons (.ret (.blt .tuple (.cons (.comp 4 (.rng1 (.var 2)) .none (.call ("_law_asking" : Str) (.cons (.var 1) (.cons (.bin .Add (.var 2) (.bin .Mult (.cint 4) (.var 0))) (.cons (.var 4) .nil))))) .nil)))
  .nil)
noncomputable def b__law_nodes:ISs :=
 (.cons (.set 4 (.lst .nil))
  (.cons (.forS 5 (.rng1 (.bin .Add (.var 2) (.cint 1))) (.cons (.set 6 (.bin .Add (.var 1) (.bin .Mult (.cint 16) (.var 5))))
  (.cons (.set 7 (.call ("_law_askings" : Str) (.cons (.var 0) (.cons (.var 6) (.cons (.idx (.lst (.cons (.cint 0) (.cons (.cint 1) (.cons (.cint 1) (.cons (.cint 2) (.cons (.cint 1) (.cons (.cint 1) (.cons (.cint 3) .nil)))))))) (.call ("_law_pick" : Str) (.cons (.var 0) (.cons (.bin .Add (.var 6) (.cint 12)) (.cons (.cint 7) .nil))))) (.cons (.var 3) .nil))))))
  (.cons (.set 8 (.call ("_law_pick" : Str) (.cons (.var 0) (.cons (.bin .Add (.var 6) (.cint 13)) (.cons (.cint 6) .nil)))))
  (.cons (.set 9 (.slc (.bin .Add (.slc (.idx (.var 3) (.cint 2)) (.some (.var 8)) .none) (.slc (.idx (.var 3) (.cint 2)) .none (.some (.var 8)))) .none (.some (.call ("_law_pick" : Str) (.cons (.var 0) (.cons (.bin .Add (.var 6) (.cint 14)) (.cons (.cint 4) .nil)))))))
  (.cons (.set 10 (.comp 11 (.seq (.var 4)) (.some (.and (.cmp (.cmp .Lt (.idx (.var 0) (.cint 2)) (.cint 4))) (.cmp (.cmp .Lt (.blt .len (.cons (.idx (.var 0) (.cint 3)) .nil)) (.cint 5))))) (.var 0)))
  (.cons (.set 11 (.lst (.cons (.var 7) (.cons (.blt .tuple (.cons (.var 9) .nil)) (.cons (.cint 0) (.cons (.lst .nil) (.cons (.cmp .Eq (.call ("_law_pick" : Str) (.cons (.var 0) (.cons (.bin .Add (.var 6) (.cint 15)) (.cons (.cint 3) .nil)))) (.cint 0)) .nil)))))))
  (.cons (.ifS (.cmp (.cmp .Gt (.var 5) (.cint 0))) (.cons (.set 12 (.idx (.var 10) (.idx (.lst (.cons (.neg (.cint 1)) (.cons (.call ("_law_pick" : Str) (.cons (.var 0) (.cons (.bin .Add (.var 6) (.cint 11)) (.cons (.blt .len (.cons (.var 10) .nil)) .nil)))) .nil))) (.call ("_law_pick" : Str) (.cons (.var 0) (.cons (.bin .Add (.var 6) (.cint 10)) (.cons (.cint 2) .nil)))))))
  (.cons (.setIx (.var 11) (.cint 2) (.bin .Add (.idx (.var 12) (.cint 2)) (.cint 1)))
  (.cons (.expr (.mth .append (.idx (.var 12) (.cint 3)) (.cons (.var 5) .nil)))
  .nil))) .nil)
  (.cons (.expr (.mth .append (.var 4) (.cons (.var 11) .nil)))
  .nil)))))))))
  (.cons (.ret (.var 4))
  .nil)))
noncomputable def b__law_row:ISs :=
 (.cons (.set 2 (.idx (.var 0) (.var 1)))
  (.cons (.ret (.tup (.cons (.idx (.var 2) (.cint 0)) (.cons (.idx (.var 2) (.cint 4)) (.cons (.idx (.var 2) (.cint 1)) (.cons (.bin .Add (.cint 1) (.var 1)) (.cons (.bin .Add (.bin .Mult (.cint 2) (.var 1)) (.cint 1)) (.cons (.tup .nil) (.cons (.blt .tuple (.cons (.comp 3 (.seq (.idx (.var 2) (.cint 3))) .none (.call ("_law_row" : Str) (.cons (.var 1) (.cons (.var 0) .nil)))) .nil)) .nil)))))))))
  .nil))
noncomputable def b__law_tree:ISs :=
 (.cons (.set 4 (.call ("_law_nodes" : Str) (.cons (.var 0) (.cons (.var 1) (.cons (.var 2) (.cons (.var 3) .nil))))))
  (.cons (.setIx (.idx (.var 4) (.cint 0)) (.cint 0) (.tup (.cons (.tup (.cons (.cstr ("is" : Str)) (.cons (.idx (.idx (.var 3) (.cint 2)) (.neg (.cint 1))) (.cons (.tup (.cons (.idx (.var 3) (.cint 3)) .nil)) .nil)))) .nil)))
  (.cons (.ret (.call ("_law_row" : Str) (.cons (.var 4) (.cons (.cint 0) .nil))))
  .nil)))
noncomputable def b__law_marks:ISs :=
 (.cons (.set 3 (.lst .nil))
  (.cons (.forS 4 (.rng1 (.blt .len (.cons (.idx (.var 2) (.cint 2)) .nil))) (.cons (.set 5 (.call ("_law_pick" : Str) (.cons (.var 0) (.cons (.bin .Add (.var 1) (.var 4)) (.cons (.bin .Add (.blt .len (.cons (.idx (.var 2) (.cint 1)) .nil)) (.cint 3)) .nil)))))
  (.cons (.ifS (.cmp (.cmp .Lt (.var 5) (.blt .len (.cons (.idx (.var 2) (.cint 1)) .nil)))) (.cons (.expr (.mth .append (.var 3) (.cons (.tup (.cons (.idx (.idx (.var 2) (.cint 2)) (.var 4)) (.cons (.idx (.idx (.var 2) (.cint 1)) (.var 5)) .nil))) .nil)))
  .nil) .nil)
  (.cons (.ifS (.cmp (.cmp .Eq (.var 5) (.blt .len (.cons (.idx (.var 2) (.cint 1)) .nil)))) (.cons (.expr (.mth .append (.var 3) (.cons (.tup (.cons (.idx (.idx (.var 2) (.cint 2)) (.var 4)) (.cons (.idx (.var 2) (.cint 3)) .nil))) .nil)))
  .nil) .nil)
  .nil))))
  (.cons (.ret (.blt .tuple (.cons (.sortL (.var 3)) .nil)))
  .nil)))
noncomputable def b__law_met:ISs :=
 (.cons (.ifS (.cmp (.cmp .Eq (.idx (.var 0) (.cint 0)) (.cstr ("is" : Str)))) (.cons (.ret (.cmp .In (.var 1) (.idx (.var 0) (.cint 2))))
  .nil) .nil)
  (.cons (.ifS (.cmp (.cmp .Eq (.idx (.var 0) (.cint 0)) (.cstr ("no" : Str)))) (.cons (.ret (.cmp .NotIn (.var 1) (.idx (.var 0) (.cint 2))))
  .nil) .nil)
  (.cons (.ret (.cmp .Eq (.cmp .NotEq (.var 1) (.cstr ("" : Str))) (.cmp .Eq (.idx (.var 0) (.cint 0)) (.cstr ("there" : Str)))))
  .nil)))
noncomputable def b__law_lets:ISs :=
 (.cons (.set 2 (.blt .dict1 (.cons (.var 1) .nil)))
  (.cons (.ret (.cmp .Eq (.comp 3 (.seq (.var 0)) (.some (.not (.tru (.call ("_law_met" : Str) (.cons (.var 0) (.cons (.mth .get (.var 3) (.cons (.idx (.var 0) (.cint 1)) (.cons (.cstr ("" : Str)) .nil))) .nil)))))) (.var 0)) (.lst .nil)))
  .nil))
noncomputable def b__law_taken:ISs :=
 (.cons (.set 3 (.lst .nil))
  (.cons (.set 4 (.cbl false))
  (.cons (.forS 5 (.rng1 (.blt .len (.cons (.idx (.var 0) (.cint 6)) .nil))) (.cons (.ifS (.and (.not (.tru (.var 4))) (.tru (.call ("_law_lets" : Str) (.cons (.idx (.idx (.idx (.var 0) (.cint 6)) (.var 5)) (.cint 0)) (.cons (.var 1) .nil))))) (.cons (.set 3 (.bin .Add (.var 3) (.call ("_law_taken" : Str) (.cons (.idx (.idx (.var 0) (.cint 6)) (.var 5)) (.cons (.var 1) (.cons (.bin .Add (.var 2) (.tup (.cons (.var 5) .nil))) .nil))))))
  (.cons (.set 4 (.not (.idx (.idx (.idx (.var 0) (.cint 6)) (.var 5)) (.cint 1))))
  .nil)) .nil)
  .nil))
  (.cons (.ifS (.cmp (.cmp .Eq (.var 3) (.lst .nil))) (.cons (.ret (.lst (.cons (.var 2) .nil)))
  .nil) .nil)
  (.cons (.ret (.var 3))
  .nil)))))
noncomputable def b__law_number:ISs :=
 (.cons (.set 3 (.call ("_law_mixed" : Str) (.cons (.var 0) (.cons (.var 1) .nil))))
  (.cons (.set 4 (.idx (.lst (.cons (.cint 9) (.cons (.cint 60) (.cons (.bin .Pow (.cint 10) (.cint 6)) (.cons (.var 2) .nil))))) (.bin .Mod (.bin .Mod (.bin .Mult (.var 3) (.cint 69621)) (.cint 2147483629)) (.cint 4))))
  (.cons (.ret (.bin .Mod (.bin .Mult (.var 3) (.bin .Pow (.cint 48271) (.cint 4))) (.bin .Add (.var 4) (.cint 1))))
  .nil)))
noncomputable def b__law_mixed_up:ISs :=
 (.cons (.set 3 (.lst .nil))
  (.cons (.forS 4 (.rng1 (.blt .len (.cons (.var 2) .nil))) (.cons (.expr (.mth .insert (.var 3) (.cons (.call ("_law_pick" : Str) (.cons (.var 0) (.cons (.bin .Add (.var 1) (.var 4)) (.cons (.bin .Add (.var 4) (.cint 1)) .nil)))) (.cons (.idx (.var 2) (.var 4)) .nil))))
  .nil))
  (.cons (.ret (.var 3))
  .nil)))
noncomputable def b__law_sayings:ISs :=
 (.cons (.set 5 (.lst .nil))
  (.cons (.forS 6 (.rng1 (.var 2)) (.cons (.set 7 (.bin .Add (.var 1) (.bin .Mult (.cint 11) (.var 6))))
  (.cons (.set 8 (.blt .max2 (.cons (.cint 0) (.cons (.bin .Sub (.bin .Add (.var 3) (.cint 2)) (.call ("_law_pick" : Str) (.cons (.var 0) (.cons (.bin .Add (.var 7) (.cint 6)) (.cons (.cint 6) .nil))))) .nil))))
  (.cons (.set 9 (.idx (.lst (.cons .cnon (.cons (.bin .Add (.var 8) (.call ("_law_pick" : Str) (.cons (.var 0) (.cons (.bin .Add (.var 7) (.cint 8)) (.cons (.cint 6) .nil))))) .nil))) (.bin .FloorDiv (.call ("_law_pick" : Str) (.cons (.var 0) (.cons (.bin .Add (.var 7) (.cint 7)) (.cons (.cint 3) .nil)))) (.cint 2))))
  (.cons (.set 10 (.idx (.lst (.cons (.call ("_law_pick" : Str) (.cons (.var 0) (.cons (.bin .Add (.var 7) (.cint 9)) (.cons (.cint 3) .nil)))) (.cons (.call ("_law_pick" : Str) (.cons (.var 0) (.cons (.bin .Add (.var 7) (.cint 9)) (.cons (.cint 10) .nil)))) .nil))) (.call ("_law_pick" : Str) (.cons (.var 0) (.cons (.bin .Add (.var 7) (.cint 10)) (.cons (.cint 2) .nil))))))
  (.cons (.expr (.mth .append (.var 5) (.cons (.tup (.cons (.bin .Add (.bin .Add (.bin .Mult (.cint 3) (.var 6)) (.cint 1)) (.call ("_law_pick" : Str) (.cons (.var 0) (.cons (.bin .Add (.var 7) (.cint 9)) (.cons (.cint 3) .nil))))) (.cons (.call ("_law_marks" : Str) (.cons (.var 0) (.cons (.var 7) (.cons (.var 4) .nil)))) (.cons (.var 10) (.cons (.var 8) (.cons (.var 9) .nil)))))) .nil)))
  .nil))))))
  (.cons (.ret (.call ("_law_mixed_up" : Str) (.cons (.var 0) (.cons (.bin .Add (.var 1) (.bin .Mult (.cint 11) (.var 2))) (.cons (.var 5) .nil)))))
  .nil)))
noncomputable def b__law_quietings:ISs :=
 (.cons (.set 5 (.lst .nil))
  (.cons (.forS 6 (.rng1 (.var 2)) (.cons (.set 7 (.bin .Add (.var 1) (.bin .Mult (.cint 12) (.var 6))))
  (.cons (.set 8 (.blt .max2 (.cons (.cint 0) (.cons (.bin .Sub (.bin .Add (.var 3) (.cint 2)) (.call ("_law_pick" : Str) (.cons (.var 0) (.cons (.bin .Add (.var 7) (.cint 8)) (.cons (.cint 6) .nil))))) .nil))))
  (.cons (.set 9 (.blt .max2 (.cons (.cint 0) (.cons (.bin .Add (.bin .Sub (.var 8) (.cint 1)) (.call ("_law_pick" : Str) (.cons (.var 0) (.cons (.bin .Add (.var 7) (.cint 9)) (.cons (.cint 8) .nil))))) .nil))))
  (.cons (.set 10 (.call ("_law_askings" : Str) (.cons (.var 0) (.cons (.var 7) (.cons (.call ("_law_pick" : Str) (.cons (.var 0) (.cons (.bin .Add (.var 7) (.cint 10)) (.cons (.cint 3) .nil)))) (.cons (.var 4) .nil))))))
  (.cons (.expr (.mth .append (.var 5) (.cons (.tup (.cons (.bin .Add (.bin .Add (.bin .Mult (.cint 2) (.var 6)) (.cint 1)) (.call ("_law_pick" : Str) (.cons (.var 0) (.cons (.bin .Add (.var 7) (.cint 11)) (.cons (.cint 2) .nil))))) (.cons (.var 10) (.cons (.var 8) (.cons (.var 9) .nil))))) .nil)))
  .nil))))))
  (.cons (.ret (.call ("_law_mixed_up" : Str) (.cons (.var 0) (.cons (.bin .Add (.var 1) (.bin .Mult (.cint 12) (.var 2))) (.cons (.var 5) .nil)))))
  .nil)))
noncomputable def b__law_rules:ISs :=
 (.cons (.set 4 (.lst .nil))
  (.cons (.forS 5 (.rng1 (.var 2)) (.cons (.set 6 (.bin .Add (.var 1) (.bin .Mult (.cint 20) (.var 5))))
  (.cons (.set 7 (.call ("_law_pick" : Str) (.cons (.var 0) (.cons (.bin .Add (.var 6) (.cint 16)) (.cons (.cint 6) .nil)))))
  (.cons (.set 8 (.slc (.bin .Add (.slc (.idx (.var 3) (.cint 2)) (.some (.var 7)) .none) (.slc (.idx (.var 3) (.cint 2)) .none (.some (.var 7)))) .none (.some (.call ("_law_pick" : Str) (.cons (.var 0) (.cons (.bin .Add (.var 6) (.cint 17)) (.cons (.cint 3) .nil)))))))
  (.cons (.set 9 (.call ("_law_askings" : Str) (.cons (.var 0) (.cons (.var 6) (.cons (.call ("_law_pick" : Str) (.cons (.var 0) (.cons (.bin .Add (.var 6) (.cint 18)) (.cons (.cint 3) .nil)))) (.cons (.var 3) .nil))))))
  (.cons (.expr (.mth .append (.var 4) (.cons (.tup (.cons (.var 9) (.cons (.call ("_law_askings" : Str) (.cons (.var 0) (.cons (.bin .Add (.var 6) (.cint 8)) (.cons (.call ("_law_pick" : Str) (.cons (.var 0) (.cons (.bin .Add (.var 6) (.cint 19)) (.cons (.cint 3) .nil)))) (.cons (.var 3) .nil))))) (.cons (.blt .tuple (.cons (.var 8) .nil)) .nil)))) .nil)))
  .nil))))))
  (.cons (.ret (.var 4))
  .nil)))
noncomputable def b__law_there:ISs :=
 (.cons (.ret (.and (.cmp .LtE (.idx (.var 0) (.cint 3)) (.var 1)) (.or (.cmp .Is (.idx (.var 0) (.cint 4)) .cnon) (.cmp .Lt (.var 1) (.idx (.var 0) (.cint 4))))))
  .nil)
noncomputable def b__law_ground:ISs :=
 (.cons (.forS 5 (.seq (.sortL (.var 2))) (.cons (.ifS (.and (.cmp (.cmp .LtE (.idx (.var 5) (.cint 2)) (.var 4))) (.and (.cmp (.cmp .Lt (.var 4) (.idx (.var 5) (.cint 3)))) (.tru (.call ("_law_lets" : Str) (.cons (.idx (.var 5) (.cint 1)) (.cons (.idx (.var 0) (.cint 1)) .nil)))))) (.cons (.ret (.tup (.cons (.cstr ("told" : Str)) (.cons (.idx (.var 5) (.cint 0)) .nil))))
  .nil) .nil)
  .nil))
  (.cons (.set 6 (.blt .dict1 (.cons (.idx (.var 0) (.cint 1)) .nil)))
  (.cons (.forS 7 (.rng1 (.blt .len (.cons (.var 3) .nil))) (.cons (.ifS (.tru (.call ("_law_lets" : Str) (.cons (.idx (.idx (.var 3) (.var 7)) (.cint 1)) (.cons (.idx (.var 0) (.cint 1)) .nil)))) (.cons (.forS 8 (.seq (.sortL (.comp 5 (.seq (.var 1)) .none (.idx (.var 0) (.cint 0))))) (.cons (.set 9 (.idx (.comp 5 (.seq (.var 1)) (.some (.cmp (.cmp .Eq (.idx (.var 0) (.cint 0)) (.var 9)))) (.var 0)) (.cint 0)))
  (.cons (.set 10 (.blt .dict1 (.cons (.idx (.var 9) (.cint 1)) .nil)))
  (.cons (.set 11 (.comp 12 (.seq (.idx (.idx (.var 3) (.var 7)) (.cint 2))) (.some (.cmp (.cmp .NotEq (.mth .get (.var 7) (.cons (.var 0) (.cons (.cstr ("" : Str)) .nil))) (.mth .get (.var 11) (.cons (.var 0) (.cons (.cstr ("" : Str)) .nil)))))) (.var 0)))
  (.cons (.ifS (.and (.tru (.call ("_law_there" : Str) (.cons (.var 9) (.cons (.var 4) .nil)))) (.and (.cmp (.cmp .Gt (.idx (.var 9) (.cint 2)) (.idx (.var 0) (.cint 2)))) (.cmp (.cmp .Eq (.var 11) (.lst .nil))))) (.cons (.ifS (.tru (.call ("_law_lets" : Str) (.cons (.idx (.idx (.var 3) (.var 7)) (.cint 0)) (.cons (.idx (.var 9) (.cint 1)) .nil)))) (.cons (.ret (.tup (.cons (.cstr ("greater" : Str)) (.cons (.var 7) (.cons (.var 8) .nil)))))
  .nil) .nil)
  .nil) .nil)
  .nil)))))
  .nil) .nil)
  .nil))
  (.cons (.ret .cnon)
  .nil))))
noncomputable def b__law_key:ISs :=
 (.cons (.forS 3 (.seq (.var 1)) (.cons (.set 0 (.idx (.idx (.var 0) (.cint 6)) (.var 3)))
  .nil))
  (.cons (.set 4 (.blt .dict1 (.cons (.var 2) .nil)))
  (.cons (.ret (.blt .tuple (.cons (.comp 5 (.seq (.idx (.var 0) (.cint 2))) .none (.mth .get (.var 5) (.cons (.var 0) (.cons (.cstr ("" : Str)) .nil)))) .nil)))
  .nil)))
noncomputable def b__law_due:ISs :=
 (.cons (.set 5 .dtt0)
  (.cons (.forS 6 (.seq (.sortL (.var 1))) (.cons (.ifS (.and (.tru (.call ("_law_there" : Str) (.cons (.var 6) (.cons (.var 4) .nil)))) (.cmp (.cmp .Is (.call ("_law_ground" : Str) (.cons (.var 6) (.cons (.var 1) (.cons (.var 2) (.cons (.var 3) (.cons (.var 4) .nil)))))) .cnon))) (.cons (.forS 7 (.seq (.call ("_law_taken" : Str) (.cons (.var 0) (.cons (.idx (.var 6) (.cint 1)) (.cons (.tup .nil) .nil))))) (.cons (.set 8 (.tup (.cons (.var 7) (.cons (.call ("_law_key" : Str) (.cons (.var 0) (.cons (.var 7) (.cons (.idx (.var 6) (.cint 1)) .nil)))) .nil))))
  (.cons (.setIx (.var 5) (.var 8) (.bin .Add (.mth .gtd (.var 5) (.cons (.var 8) (.cons (.lst .nil) .nil))) (.lst (.cons (.idx (.var 6) (.cint 0)) .nil))))
  .nil)))
  .nil) .nil)
  .nil))
  (.cons (.ret (.comp 8 (.seq (.srtT (.var 5))) .none (.bin .Add (.var 0) (.tup (.cons (.idx (.var 6) (.var 0)) .nil)))))
  .nil)))
noncomputable def b__law_kinds:ISs :=
 (.cons (.ifS (.not (.tru (.isI (.var 0) .list))) (.cons (.ret (.cbl false))
  .nil) .nil)
  (.cons (.forS 1 (.seq (.var 0)) (.cons (.ifS (.or (.not (.tru (.isI (.var 1) .tuple))) (.or (.cmp (.cmp .NotEq (.blt .len (.cons (.var 1) .nil)) (.cint 3))) (.not (.tru (.isI (.idx (.var 1) (.cint 2)) .list))))) (.cons (.ret (.cbl false))
  .nil) .nil)
  (.cons (.ifS (.or (.not (.tru (.isI (.idx (.var 1) (.cint 0)) .tuple))) (.not (.tru (.isI (.idx (.var 1) (.cint 1)) .tuple)))) (.cons (.ret (.cbl false))
  .nil) .nil)
  (.cons (.forS 2 (.seq (.bin .Add (.blt .list (.cons (.idx (.var 1) (.cint 0)) .nil)) (.idx (.var 1) (.cint 2)))) (.cons (.ifS (.or (.not (.tru (.isI (.var 2) .int))) (.tru (.isI (.var 2) .bool))) (.cons (.ret (.cbl false))
  .nil) .nil)
  .nil))
  .nil))))
  (.cons (.ret (.cbl true))
  .nil)))
noncomputable def b_law:ISs :=
 (.cons (.set 1 (.call ("_law_pool" : Str) (.cons (.var 0) (.cons (.cint 0) .nil))))
  (.cons (.set 2 (.bin .Add (.cint 5) (.call ("_law_number" : Str) (.cons (.var 0) (.cons (.cint 26) (.cons (.bin .Pow (.cint 10) (.cint 11)) .nil))))))
  (.cons (.set 3 (.call ("_law_tree" : Str) (.cons (.var 0) (.cons (.cint 200) (.cons (.idx (.lst (.cons (.cint 1) (.cons (.cint 2) (.cons (.cint 3) (.cons (.cint 4) (.cons (.cint 2) (.cons (.cint 3) (.cons (.cint 4) (.cons (.cint 3) (.cons (.cint 8) .nil)))))))))) (.call ("_law_pick" : Str) (.cons (.var 0) (.cons (.cint 27) (.cons (.cint 9) .nil))))) (.cons (.var 1) .nil))))))
  (.cons (.set 4 (.call ("_law_sayings" : Str) (.cons (.var 0) (.cons (.cint 28) (.cons (.bin .Add (.cint 1) (.call ("_law_pick" : Str) (.cons (.var 0) (.cons (.cint 126) (.cons (.cint 5) .nil))))) (.cons (.var 2) (.cons (.var 1) .nil)))))))
  (.cons (.set 5 (.call ("_law_quietings" : Str) (.cons (.var 0) (.cons (.cint 95) (.cons (.call ("_law_pick" : Str) (.cons (.var 0) (.cons (.cint 127) (.cons (.cint 3) .nil)))) (.cons (.var 2) (.cons (.var 1) .nil)))))))
  (.cons (.set 6 (.call ("_law_rules" : Str) (.cons (.var 0) (.cons (.cint 130) (.cons (.call ("_law_pick" : Str) (.cons (.var 0) (.cons (.cint 128) (.cons (.cint 3) .nil)))) (.cons (.var 1) .nil))))))
  (.cons (.set 7 (.lst (.cons (.blt .list (.cons (.var 4) .nil)) (.cons (.blt .list (.cons (.var 5) .nil)) (.cons (.blt .list (.cons (.var 6) .nil)) .nil)))))
  (.cons (.forS 8 (.rng2 (.var 2) (.bin .Add (.var 2) (.cint 2))) (.cons (.set 9 (.call ("_law_due" : Str) (.cons (.var 3) (.cons (.var 4) (.cons (.var 5) (.cons (.var 6) (.cons (.var 8) .nil)))))))
  (.cons (.forS 10 (.rng1 (.cint 2)) (.cons (.set 11 (.call ("members" : Str) (.cons (.var 3) (.cons (.idx (.var 7) (.cint 0)) (.cons (.idx (.var 7) (.cint 1)) (.cons (.idx (.var 7) (.cint 2)) (.cons (.var 8) .nil)))))))
  (.cons (.ifS (.or (.not (.tru (.call ("_law_kinds" : Str) (.cons (.var 11) .nil)))) (.cmp (.cmp .NotEq (.var 11) (.var 9)))) (.cons (.ret (.cbl false))
  .nil) .nil)
  (.cons (.ifS (.cmp (.cmp .NotEq (.var 11) (.lst .nil))) (.cons (.expr (.mth .append (.idx (.idx (.var 11) (.cint 0)) (.cint 2)) (.cons (.cint 0) .nil)))
  (.cons (.expr (.clr .pop (.var 11)))
  .nil)) .nil)
  .nil))))
  .nil)))
  (.cons (.ret (.cmp .Eq (.var 7) (.lst (.cons (.var 4) (.cons (.var 5) (.cons (.var 6) .nil))))))
  .nil)))))))))
noncomputable def tab:List (Str×Fd):=[(("has_name" : Str),⟨2,2,b_has_name⟩),(("value_in" : Str),⟨3,2,b_value_in⟩),(("meets" : Str),⟨5,2,b_meets⟩),(("meets_all" : Str),⟨2,2,b_meets_all⟩),(("stands" : Str),⟨2,2,b_stands⟩),(("in_force" : Str),⟨2,2,b_in_force⟩),(("have_same_values" : Str),⟨3,3,b_have_same_values⟩),(("is_greater" : Str),⟨3,3,b_is_greater⟩),(("ground" : Str),⟨11,5,b_ground⟩),(("row_at" : Str),⟨4,2,b_row_at⟩),(("taken_from" : Str),⟨6,3,b_taken_from⟩),(("taken" : Str),⟨2,2,b_taken⟩),(("key_of" : Str),⟨2,2,b_key_of⟩),(("groups_of" : Str),⟨2,2,b_groups_of⟩),(("members" : Str),⟨10,5,b_members⟩),(("_law_mixed" : Str),⟨3,2,b__law_mixed⟩),(("_law_pick" : Str),⟨3,3,b__law_pick⟩),(("_law_words" : Str),⟨11,4,b__law_words⟩),(("_law_pool" : Str),⟨6,2,b__law_pool⟩),(("_law_asking" : Str),⟨7,3,b__law_asking⟩),(("_law_askings" : Str),⟨4,4,b__law_askings⟩),(("_law_nodes" : Str),⟨13,4,b__law_nodes⟩),(("_law_row" : Str),⟨3,2,b__law_row⟩),(("_law_tree" : Str),⟨5,4,b__law_tree⟩),(("_law_marks" : Str),⟨6,3,b__law_marks⟩),(("_law_met" : Str),⟨2,2,b__law_met⟩),(("_law_lets" : Str),⟨3,2,b__law_lets⟩),(("_law_taken" : Str),⟨6,3,b__law_taken⟩),(("_law_number" : Str),⟨5,3,b__law_number⟩),(("_law_mixed_up" : Str),⟨5,3,b__law_mixed_up⟩),(("_law_sayings" : Str),⟨11,5,b__law_sayings⟩),(("_law_quietings" : Str),⟨11,5,b__law_quietings⟩),(("_law_rules" : Str),⟨10,4,b__law_rules⟩),(("_law_there" : Str),⟨2,2,b__law_there⟩),(("_law_ground" : Str),⟨12,5,b__law_ground⟩),(("_law_key" : Str),⟨5,3,b__law_key⟩),(("_law_due" : Str),⟨9,5,b__law_due⟩),(("_law_kinds" : Str),⟨3,1,b__law_kinds⟩),(("law" : Str),⟨12,1,b_law⟩)]
section
variable {srt:List D->Option (List D)}
noncomputable abbrev cx (srt:List D->Option (List D)) (k:Nat):L3.Ctx:=CtxN tab gl srt 1000 k
theorem f_has_name (k:Nat)(xs:List D):(cx srt (k + 1)).fn "has_name" xs=(do need (xs.length=2);semF (cx srt k) 2 b_has_name xs:Mo D):=rfl
theorem f_value_in (k:Nat)(xs:List D):(cx srt (k + 1)).fn "value_in" xs=(do need (xs.length=2);semF (cx srt k) 3 b_value_in xs:Mo D):=rfl
theorem f_meets (k:Nat)(xs:List D):(cx srt (k + 1)).fn "meets" xs=(do need (xs.length=2);semF (cx srt k) 5 b_meets xs:Mo D):=rfl
theorem f_meets_all (k:Nat)(xs:List D):(cx srt (k + 1)).fn "meets_all" xs=(do need (xs.length=2);semF (cx srt k) 2 b_meets_all xs:Mo D):=rfl
theorem f_stands (k:Nat)(xs:List D):(cx srt (k + 1)).fn "stands" xs=(do need (xs.length=2);semF (cx srt k) 2 b_stands xs:Mo D):=rfl
theorem f_in_force (k:Nat)(xs:List D):(cx srt (k + 1)).fn "in_force" xs=(do need (xs.length=2);semF (cx srt k) 2 b_in_force xs:Mo D):=rfl
theorem f_have_same_values (k:Nat)(xs:List D):(cx srt (k + 1)).fn "have_same_values" xs=(do need (xs.length=3);semF (cx srt k) 3 b_have_same_values xs:Mo D):=rfl
theorem f_is_greater (k:Nat)(xs:List D):(cx srt (k + 1)).fn "is_greater" xs=(do need (xs.length=3);semF (cx srt k) 3 b_is_greater xs:Mo D):=rfl
theorem f_ground (k:Nat)(xs:List D):(cx srt (k + 1)).fn "ground" xs=(do need (xs.length=5);semF (cx srt k) 11 b_ground xs:Mo D):=rfl
theorem f_row_at (k:Nat)(xs:List D):(cx srt (k + 1)).fn "row_at" xs=(do need (xs.length=2);semF (cx srt k) 4 b_row_at xs:Mo D):=rfl
theorem f_taken_from (k:Nat)(xs:List D):(cx srt (k + 1)).fn "taken_from" xs=(do need (xs.length=3);semF (cx srt k) 6 b_taken_from xs:Mo D):=rfl
theorem f_taken (k:Nat)(xs:List D):(cx srt (k + 1)).fn "taken" xs=(do need (xs.length=2);semF (cx srt k) 2 b_taken xs:Mo D):=rfl
theorem f_key_of (k:Nat)(xs:List D):(cx srt (k + 1)).fn "key_of" xs=(do need (xs.length=2);semF (cx srt k) 2 b_key_of xs:Mo D):=rfl
theorem f_groups_of (k:Nat)(xs:List D):(cx srt (k + 1)).fn "groups_of" xs=(do need (xs.length=2);semF (cx srt k) 2 b_groups_of xs:Mo D):=rfl
theorem f_members (k:Nat)(xs:List D):(cx srt (k + 1)).fn "members" xs=(do need (xs.length=5);semF (cx srt k) 10 b_members xs:Mo D):=rfl
theorem f__law_mixed (k:Nat)(xs:List D):(cx srt (k + 1)).fn "_law_mixed" xs=(do need (xs.length=2);semF (cx srt k) 3 b__law_mixed xs:Mo D):=rfl
theorem f__law_pick (k:Nat)(xs:List D):(cx srt (k + 1)).fn "_law_pick" xs=(do need (xs.length=3);semF (cx srt k) 3 b__law_pick xs:Mo D):=rfl
theorem f__law_words (k:Nat)(xs:List D):(cx srt (k + 1)).fn "_law_words" xs=(do need (xs.length=4);semF (cx srt k) 11 b__law_words xs:Mo D):=rfl
theorem f__law_pool (k:Nat)(xs:List D):(cx srt (k + 1)).fn "_law_pool" xs=(do need (xs.length=2);semF (cx srt k) 6 b__law_pool xs:Mo D):=rfl
theorem f__law_asking (k:Nat)(xs:List D):(cx srt (k + 1)).fn "_law_asking" xs=(do need (xs.length=3);semF (cx srt k) 7 b__law_asking xs:Mo D):=rfl
theorem f__law_askings (k:Nat)(xs:List D):(cx srt (k + 1)).fn "_law_askings" xs=(do need (xs.length=4);semF (cx srt k) 4 b__law_askings xs:Mo D):=rfl
theorem f__law_nodes (k:Nat)(xs:List D):(cx srt (k + 1)).fn "_law_nodes" xs=(do need (xs.length=4);semF (cx srt k) 13 b__law_nodes xs:Mo D):=rfl
theorem f__law_row (k:Nat)(xs:List D):(cx srt (k + 1)).fn "_law_row" xs=(do need (xs.length=2);semF (cx srt k) 3 b__law_row xs:Mo D):=rfl
theorem f__law_tree (k:Nat)(xs:List D):(cx srt (k + 1)).fn "_law_tree" xs=(do need (xs.length=4);semF (cx srt k) 5 b__law_tree xs:Mo D):=rfl
theorem f__law_marks (k:Nat)(xs:List D):(cx srt (k + 1)).fn "_law_marks" xs=(do need (xs.length=3);semF (cx srt k) 6 b__law_marks xs:Mo D):=rfl
theorem f__law_met (k:Nat)(xs:List D):(cx srt (k + 1)).fn "_law_met" xs=(do need (xs.length=2);semF (cx srt k) 2 b__law_met xs:Mo D):=rfl
theorem f__law_lets (k:Nat)(xs:List D):(cx srt (k + 1)).fn "_law_lets" xs=(do need (xs.length=2);semF (cx srt k) 3 b__law_lets xs:Mo D):=rfl
theorem f__law_taken (k:Nat)(xs:List D):(cx srt (k + 1)).fn "_law_taken" xs=(do need (xs.length=3);semF (cx srt k) 6 b__law_taken xs:Mo D):=rfl
theorem f__law_number (k:Nat)(xs:List D):(cx srt (k + 1)).fn "_law_number" xs=(do need (xs.length=3);semF (cx srt k) 5 b__law_number xs:Mo D):=rfl
theorem f__law_mixed_up (k:Nat)(xs:List D):(cx srt (k + 1)).fn "_law_mixed_up" xs=(do need (xs.length=3);semF (cx srt k) 5 b__law_mixed_up xs:Mo D):=rfl
theorem f__law_sayings (k:Nat)(xs:List D):(cx srt (k + 1)).fn "_law_sayings" xs=(do need (xs.length=5);semF (cx srt k) 11 b__law_sayings xs:Mo D):=rfl
theorem f__law_quietings (k:Nat)(xs:List D):(cx srt (k + 1)).fn "_law_quietings" xs=(do need (xs.length=5);semF (cx srt k) 11 b__law_quietings xs:Mo D):=rfl
theorem f__law_rules (k:Nat)(xs:List D):(cx srt (k + 1)).fn "_law_rules" xs=(do need (xs.length=4);semF (cx srt k) 10 b__law_rules xs:Mo D):=rfl
theorem f__law_there (k:Nat)(xs:List D):(cx srt (k + 1)).fn "_law_there" xs=(do need (xs.length=2);semF (cx srt k) 2 b__law_there xs:Mo D):=rfl
theorem f__law_ground (k:Nat)(xs:List D):(cx srt (k + 1)).fn "_law_ground" xs=(do need (xs.length=5);semF (cx srt k) 12 b__law_ground xs:Mo D):=rfl
theorem f__law_key (k:Nat)(xs:List D):(cx srt (k + 1)).fn "_law_key" xs=(do need (xs.length=3);semF (cx srt k) 5 b__law_key xs:Mo D):=rfl
theorem f__law_due (k:Nat)(xs:List D):(cx srt (k + 1)).fn "_law_due" xs=(do need (xs.length=5);semF (cx srt k) 9 b__law_due xs:Mo D):=rfl
theorem f__law_kinds (k:Nat)(xs:List D):(cx srt (k + 1)).fn "_law_kinds" xs=(do need (xs.length=1);semF (cx srt k) 3 b__law_kinds xs:Mo D):=rfl
theorem f_law (k:Nat)(xs:List D):(cx srt (k + 1)).fn "law" xs=(do need (xs.length=1);semF (cx srt k) 12 b_law xs:Mo D):=rfl
end
end Law
namespace Law
open PySem L3
section
variable {srt:List D->Option (List D)}
noncomputable def mixV (sc:List Int)(i:Int):Int:=i * i * 7919 + 11 + (if sc.length > 0 then sc.getD (i % (sc.length:Int)).toNat 0 else 0)
noncomputable def pickV (sc:List Int)(i m:Int):Int:=mixV sc i * 48271 % 2147483647 % m
theorem pick_lo (sc:List Int)(i:Int){m:Int}(h:0 < m):0<=pickV sc i m:=xL _ (by walk_at "o")
theorem pick_hi (sc:List Int)(i:Int){m:Int}(h:0 < m):pickV sc i m < m:=xi _ h
theorem pick_nat (sc:List Int)(i:Int){m:Nat}(h:0 < m):∃ n:Nat,pickV sc i m=n/\n < m:=by
 obtain⟨n,hn⟩:=ye (pick_lo sc i (m:=(m:Int)) (by walk_at "o"))
 have:=pick_hi sc i (m:=(m:Int)) (by walk_at "o")
 exact⟨n,hn,by walk_at "o"⟩
theorem mixed_w (k:Nat)(sc:List Int)(i:Int)(M:MH){Q:D->MH->Prop}(h0:0<=i)(h1:i<=100000)(q:Q (.int (mixV sc i)) M):W ((cx srt (k + 1)).fn "_law_mixed" [.fl (sc.map .int),.int i]) M Q:=by
 rw[f__law_mixed,wf,b__law_mixed];walk_at "wq";refine⟨.inl ⟨by walk_at "o",by walk_at "o"⟩,.inr ⟨by walk_at "o",by walk_at "o"⟩,fun h=>?_,fun h=>?_⟩
 ·rw[decide_eq_true_eq,zz]at h
  have hp:(0:Int) < (sc.length:Int):=by walk_at "o"
  obtain⟨n,hn⟩:∃ n:Nat,i % (sc.length:Int)=n:=ye (xL _ (by walk_at "o"));have hlt:n < sc.length:=by
   have:=xi i hp
   walk_at "o"
  refine⟨by rw[zz];walk_at "o",.int sc[n],?_,?_⟩
  ·rw[zz,hn]
   exact atD_nat (by rw[zu,zv hlt];rfl)
  ·walk_at "wq"
   have e:mixV sc i=i * i * 7919 + 11 + sc[n]:=by
    unfold mixV;rw[if_pos (by walk_at "o"),hn,xu,zm,zv hlt];rfl
   rw[e]at q;exact q
 ·rw[decide_eq_false_iff_not,zz]at h
  have e:mixV sc i=i * i * 7919 + 11:=by
   unfold mixV;rw[if_neg (by walk_at "o")];walk_at "o"
  rw[e]at q;exact q
theorem pick_w (k:Nat)(sc:List Int)(i m:Int)(M:MH){Q:D->MH->Prop}(h0:0<=i)(h1:i<=100000)(hm:0 < m)(q:Q (.int (pickV sc i m)) M):W ((cx srt (k + 2)).fn "_law_pick" [.fl (sc.map .int),.int i,.int m]) M Q:=by
 rw[f__law_pick,wf,b__law_pick];walk_at "wq";refine mixed_w k sc i M h0 h1 ?_;walk_at "wq";exact⟨.inr ⟨by walk_at "o",by walk_at "o"⟩,by walk_at "o",hm,q⟩
theorem number_w (k:Nat)(sc:List Int)(i most:Int)(M:MH){Q:D->MH->Prop}(h0:0<=i)(h1:i<=100000)(hm:0<=most)(q:∀ (r:Int) (M':MH),0<=r->r<=max most 1000000->Gr M M'->Q (.int r) M'):W ((cx srt (k + 2)).fn "_law_number" [.fl (sc.map .int),.int i,.int most]) M Q:=by
 have big:=line_big;rw[f__law_number,wf,b__law_number];walk_at "wq";refine mixed_w k sc i M h0 h1 ?_;walk_at "wq";refine⟨⟨by walk_at "o",by walk_at "o",by decide⟩,by walk_at "o",.inr ⟨by walk_at "o",by walk_at "o"⟩,by walk_at "o",by walk_at "o",_,get_new _ _,?_⟩;obtain⟨n,hn⟩:∃ n:Nat,mixV sc i * 69621 % 2147483629 % 4=n:=ye (xL _ (by walk_at "o"));have hlt:n < 4:=by
  have:=xi (mixV sc i * 69621 % 2147483629) (show (0:Int) < 4 by decide)
  walk_at "o"
 rw[hn];walk_at "wq";have h4:n=0\/n=1\/n=2\/n=3:=by walk_at "o"
 obtain⟨r,r0,r1,e⟩:∃ r:Int,0<=r/\r<=max most 1000000/\atD [D.int 9,.int 60,.int (10 ^ (6:Int).toNat),.int most] (n:Int)=some (.int r):=by
  rcases h4 with rfl | rfl | rfl | rfl
  ·exact⟨9,by walk_at "o",by walk_at "o",rfl⟩
  ·exact⟨60,by walk_at "o",by walk_at "o",rfl⟩
  ·exact⟨1000000,by walk_at "o",by walk_at "o",rfl⟩
  ·exact⟨most,by walk_at "o",by walk_at "o",rfl⟩
 refine⟨.int r,e,⟨by walk_at "o",by walk_at "o",by decide⟩,.inr ⟨by decide,by decide⟩,?_⟩;walk_at "wq";refine⟨by walk_at "o",q _ _ (xL _ (by walk_at "o")) ?_ (Gr.app _ _)⟩
 have:=xi (mixV sc i * 48271 ^ (4:Int).toNat) (show 0 < r + 1 by walk_at "o")
 walk_at "o"
structure Words (m:Nat) (ws:List Str):Prop where
 len:ws.length=m
 nd:ws.Nodup
 sz:∀ w∈ws,1<=w.length/\w.length<=8
noncomputable def mkS (l:List Nat):Str:=⟨l.toArray⟩
theorem mkS_inj {a b:List Nat}(h:mkS a=mkS b):a=b:=by
 unfold mkS at h;simpa using congrArg (fun s:Str=>s.cps.toList) h
theorem mkS_len (a:List Nat):(mkS a).length=a.length:=by simp[mkS,Str.length]
theorem mkS_to (a:List Nat):(mkS a).cps.toList=a:=by simp[mkS]
theorem join_signs (l:List Nat):joinS "" (l.map fun c=>mkS [c])=mkS l:=by
 unfold joinS mkS;congr 2;have e:(("" : Str)).cps.toList=[]:=rfl;rw[e,zP];induction l with
 | nil=>rfl
 | cons a r ih =>
  cases r with
  | nil=>rfl
  | cons b r=>
   show [a]++[]++glue [] _=_;rw[zT];exact congrArg (a::·) ih
theorem sum_ones (l:List Nat):((l.map fun c=>mkS [c]).map (·.length)).sum=l.length:=by
 induction l with
 | nil=>rfl
 | cons a r ih =>
  simp only[ze,yn,zM];rw[ih,mkS_len];simp;walk_at "o"
theorem words_w (k:Nat)(sc:List Int)(i:Int)(sg:Str)(m:Nat)(M:MH){Q:D->MH->Prop}(h0:0<=i)(h1:i<=90000)(hm:m<=8)(hsg:sg.cps.toList.Nodup)(hl:m<=sg.length)(hl0:0 < sg.length)(hl1:sg.length<=1000)
  (q:∀ (ws:List Str) (j:Nat) (M':MH),Words m ws->Gr M M'->M.length<=j->M'[j]?=some (.lst (ws.map .str))->Q (.ob j) M'):W ((cx srt (k + 3)).fn "_law_words" [.fl (sc.map .int),.int i,.str sg,.int m]) M Q:=by
 have big:=line_big;have small8:small 8:=⟨by walk_at "o",by walk_at "o"⟩;have smallm:small (m:Int):=⟨by walk_at "o",by walk_at "o"⟩;rw[f__law_words,wf,b__law_words];walk_at "wq";refine⟨small8,by rw[rng_len];walk_at "o",?_⟩;refine w_compI (fun n ys M'=>M'=M/\∃ l:List Nat,l.length=n/\ys=l.map fun c=>.str (mkS [c])) ⟨rfl,[],rfl,rfl⟩ (fun _ _ _ _=>trivial) ?_ ?_
 ·rintro n d ys M' hd ⟨rfl,l,hl',rfl⟩
  obtain⟨rfl,hn⟩:=rng_get hd;walk_at "wq";refine⟨by walk_at "o",pick_w (k:=k) sc _ _ M' (by walk_at "o") (by walk_at "o") (by walk_at "o") ?_⟩;walk_at "wq";have a1:=pick_lo sc (i + (0 + (n:Int))) (show (0:Int) < (sg.length:Int) by walk_at "o");have a2:=pick_hi sc (i + (0 + (n:Int))) (show (0:Int) < (sg.length:Int) by walk_at "o");obtain⟨c,hc,_⟩:=atD_in (xs:=sg.cps.toList) a1 (by rw[len_toList];exact a2);refine⟨by walk_at "o",c,hc,l++[c],?_,?_⟩
  ·rw[zp,hl'];rfl
  ·rw[zq];rfl
 rintro ys M' ⟨rfl,l,hlen,rfl⟩;rw[rng_len]at hlen;have hlen:l.length=8:=by rw[hlen];rfl
 walk_at "wq";refine⟨_,get_new _ _,l.map (fun c=>mkS [c]),?_,?_,?_⟩
 ·rw[<- mapM_strs,zP];rfl
 ·rw[sum_ones,zz,hlen]
  show 8 + 8 * 0<=_;walk_at "o"
 rw[join_signs];have hw:(mkS l).length=8:=by rw[mkS_len,hlen]
 generalize hM1:M'++[MO.lst (l.map fun c=>D.str (mkS [c]))]=M1;have g1:Gr M' M1:=hM1 ▸ Gr.app _ _;clear hM1;refine pick_w (k:=k) sc _ _ M1 (by walk_at "o") (by walk_at "o") (by walk_at "o") ?_;walk_at "wq";refine⟨fun _=>⟨smallm,by rw[rng_len];walk_at "o",?_⟩,fun _=>?_⟩
 ·refine w_compI (fun n ys M'=>M'=M1/\ys=((List.range n).map fun j=>D.str (mkS (l.take (j + 1))))) ⟨rfl,rfl⟩ (fun _ _ _ _=>trivial) ?_ ?_
  ·rintro n d ys M2 hd ⟨rfl,rfl⟩
   obtain⟨rfl,hn⟩:=rng_get hd;walk_at "wq";refine⟨by walk_at "o",?_⟩;rw[cut_hi _ (by walk_at "o"),mkS_to,wc,zq]
   have:((0:Int) + (n:Int) + 1).toNat=n + 1:=by walk_at "o"
   rw[this];rfl
  ·rintro ys M2 ⟨rfl,rfl⟩
   rw[rng_len];walk_at "wq";have e:((m:Int) - 0).toNat=m:=by walk_at "o"
   rw[e];refine q ((List.range m).map fun j=>mkS (l.take (j + 1))) _ _ ⟨by rw[zz,yz],?_,?_⟩ (g1.snoc _) g1.len ?_
   ·refine nodup_map_range fun a b ha hb he=>?_
    have:=congrArg List.length (mkS_inj he)
    rw[zB,zB]at this;walk_at "o"
   ·intro w hw'
    obtain⟨j,hj,rfl⟩:=zC.mp hw'
    have:=yh.mp hj
    rw[mkS_len,zB];walk_at "o"
   ·rw[get_new,zP];rfl
 ·refine pick_w (k:=k) sc _ _ M1 (by walk_at "o") (by walk_at "o") (by walk_at "o") ?_
  walk_at "wq";have a1:=pick_lo sc (i + 9) (show (0:Int) < 8 by walk_at "o");have a2:=pick_hi sc (i + 9) (show (0:Int) < 8 by walk_at "o");obtain⟨at_,hat⟩:∃ n:Nat,pickV sc (i + 9) 8=n:=ye a1;rw[hat];have hat8:at_ < 8:=by walk_at "o"
  refine⟨by walk_at "o",pick_w (k:=k) sc _ _ M1 (by walk_at "o") (by walk_at "o") (by walk_at "o") ?_⟩;walk_at "wq";have f1:=pick_lo sc (i + 10) (show (0:Int) < (sg.length:Int) by walk_at "o");have f2:=pick_hi sc (i + 10) (show (0:Int) < (sg.length:Int) by walk_at "o");obtain⟨fst,hfst⟩:∃ n:Nat,pickV sc (i + 10) sg.length=n:=ye f1;rw[hfst];rw[hfst]at f2;refine⟨by walk_at "o",smallm,?_⟩;have sgl:∀ n:Nat,(fst + n) % sg.length < sg.cps.toList.length:=fun n=>by rw[len_toList];exact Nat.mod_lt _ hl0
  have w8:l.take at_++[sg.cps.toList.getD ((fst + 0) % sg.length) 0]++l.drop (at_ + 1)≠[]:=by simp
  refine w_loop (fun n ρ M'=>Gr M1 M'/\M'[M1.length]?=some (.lst ((List.range n).map fun j=>D.str (mkS (l.take at_++[sg.cps.toList.getD ((fst + j) % sg.length) 0]++l.drop (at_ + 1)))))/\∃ x9 x10,ρ=[some (.fl (sc.map .int)),some (.int i),some (.str sg),some (.int m),some (.str (mkS l)),some (.int (pickV sc (i + 8) 3)),some (.int at_),some (.int fst),some (.ob M1.length),x9,x10]) ⟨Gr.app _ _,get_new _ _,none,none,rfl⟩ (fun _ _ _ _=>trivial) ?_ ?_
  ·rintro n d ρ M2 hd ⟨g2,hg,x9,x10,rfl⟩
   obtain⟨rfl,hn⟩:=rng_get hd;walk_at "wq";have em:((fst:Int) + (0 + (n:Int))) % (sg.length:Int)=(((fst + n) % sg.length:Nat):Int):=by
    rw[Int.natCast_emod];congr 1;walk_at "o"
   refine⟨by walk_at "o",by walk_at "o",by walk_at "o",sg.cps.toList[(fst + n) % sg.length]'(sgl n),?_,?_⟩
   ·rw[em]
    exact atD_nat (zv (sgl n))
   unfold sgn;walk_at "wq";rw[cut_hi _ (by walk_at "o"),cut_lo _ (by walk_at "o"),mkS_to,hg];have e1:(at_:Int).toNat=at_:=rfl;have e2:((at_:Int) + 1).toNat=at_ + 1:=by walk_at "o"
   rw[e1,e2];have hn':n < m:=by walk_at "o"
   refine⟨_,rfl,by walk_at "o",?_,by walk_at "o",?_,?_⟩
   ·show (mkS (l.take at_)).length + 1<=_
    rw[mkS_len,zB];walk_at "o"
   ·rw[len_app]
    show (mkS (l.take at_)).length + 1 + (mkS (l.drop (at_ + 1))).length<=_;rw[mkS_len,mkS_len,zB,yu];walk_at "o"
   refine⟨_,rfl,?_,g2.set (zo _) _,?_,⟨_,_,rfl⟩⟩
   ·rw[zz,yz];walk_at "o"
   ·rw[set_get hg,wc,zq,ze,yO]
    have e3:sg.cps.toList.getD ((fst + n) % sg.length) 0=sg.cps.toList[(fst + n) % sg.length]'(sgl n):=by
     rw[zm,zv (sgl n)];rfl
    rw[e3];have e4:mkS (l.take at_++[sg.cps.toList[(fst + n) % sg.length]'(sgl n)]++l.drop (at_ + 1))=(⟨(l.take at_).toArray⟩:Str)++(⟨#[sg.cps.toList[(fst + n) % sg.length]'(sgl n)]⟩:Str)++(⟨(l.drop (at_ + 1)).toArray⟩:Str):=by
     show _=(⟨((l.take at_).toArray++#[_])++(l.drop (at_ + 1)).toArray⟩:Str);unfold mkS;simp
    rw[e4]
  ·rintro ρ M2 ⟨g2,hg,x9,x10,rfl⟩
   rw[rng_len]at hg;have em:((m:Int) - 0).toNat=m:=by walk_at "o"
   rw[em]at hg;have inj:∀ a b,a < m->b < m->sg.cps.toList.getD ((fst + a) % sg.length) 0=sg.cps.toList.getD ((fst + b) % sg.length) 0->a=b:=fun a b ha hb he=>by
    rw[zm,zm,zv (sgl a),zv (sgl b)]at he;have e6:(fst + a) % sg.length=(fst + b) % sg.length:=(wx hsg).mp he;by_cases c1:fst + a < sg.length <;> by_cases c2:fst + b < sg.length
    ·rw[yC c1,yC c2]at e6;walk_at "o"
    ·rw[yC c1,xh (by walk_at "o"),yC (by walk_at "o")]at e6;walk_at "o"
    ·rw[yC c2,xh (by walk_at "o"),yC (by walk_at "o")]at e6;walk_at "o"
    ·rw[xh (by walk_at "o"),yC (a:=fst + a - sg.length) (by walk_at "o"),xh (a:=fst + b) (by walk_at "o"),yC (by walk_at "o")]at e6;walk_at "o"
   have inj2:∀ (r:List Nat) (a b:Nat),a < m->b < m->l.take at_++[sg.cps.toList.getD ((fst + a) % sg.length) 0]++r=l.take at_++[sg.cps.toList.getD ((fst + b) % sg.length) 0]++r->a=b:=fun r a b ha hb he=>by
    rw[List.append_cancel_right_eq,List.append_cancel_left_eq]at he;exact inj a b ha hb (List.cons.inj he).1
   walk_at "wq";refine⟨fun _=>?_,fun _=>?_⟩
   ·refine q ((List.range m).map fun j=>mkS (l.take at_++[sg.cps.toList.getD ((fst + j) % sg.length) 0]++l.drop (at_ + 1))) _ _ ⟨by rw[zz,yz],?_,?_⟩ (g1.trans g2) g1.len ?_
    ·exact nodup_map_range fun a b ha hb he=>inj2 _ a b ha hb (mkS_inj he)
    ·intro w hw'
     obtain⟨j,hj,rfl⟩:=zC.mp hw';rw[mkS_len,zp,zp,zB,yu];simp;walk_at "o"
    ·rw[hg,zP];rfl
   ·refine⟨_,hg,by rw[zz,yz];walk_at "o",?_⟩
    refine w_compI (fun n ys M'=>M'=M2/\ys=((List.range n).map fun j=>D.str (mkS (l.take at_++[sg.cps.toList.getD ((fst + j) % sg.length) 0])))) ⟨rfl,rfl⟩ (fun _ _ _ h=>by rw[h.1];exact hg) ?_ ?_
    ·rintro n d ys M3 hd ⟨rfl,rfl⟩
     rw[zu]at hd;obtain⟨j,hj,rfl⟩:=zt.mp hd;have hjn:j=n/\n < m:=by
      obtain⟨z1,z2⟩:=zr.mp hj;rw[yz]at z1;rw[xU]at z2;exact⟨z2.symm,z1⟩
     obtain⟨rfl,hjm⟩:=hjn;walk_at "wq";refine⟨?_,?_⟩
     ·rw[mkS_len,zp,zp,zB,yu]
      simp;walk_at "o"
     ·rw[cut_hi _ (by walk_at "o"),mkS_to,wc,zq]
      have e2:((at_:Int) + 1).toNat=at_ + 1:=by walk_at "o"
      have e3:(l.take at_++[sg.cps.toList.getD ((fst + j) % sg.length) 0]++l.drop (at_ + 1)).take (at_ + 1)=l.take at_++[sg.cps.toList.getD ((fst + j) % sg.length) 0]:=by
       rw[List.take_left' (by rw[zp,zB];simp;walk_at "o")]
      rw[e2,e3];rfl
    ·rintro ys M3 ⟨rfl,rfl⟩
     rw[zz,yz];walk_at "wq";refine q ((List.range m).map fun j=>mkS (l.take at_++[sg.cps.toList.getD ((fst + j) % sg.length) 0])) _ _ ⟨by rw[zz,yz],?_,?_⟩ ((g1.trans g2).snoc _) (zH g1.len g2.len) ?_
     ·refine nodup_map_range fun a b ha hb he=>inj2 [] a b ha hb ?_
      rw[mkS_inj he]
     ·intro w hw'
      obtain⟨j,hj,rfl⟩:=zC.mp hw';rw[mkS_len,zp,zB];simp;walk_at "o"
     ·rw[get_new,zP];rfl
end
end Law
namespace Law
open PySem L3
section
variable {srt:List D->Option (List D)}
theorem insD_perm {α:Type}(xs:List α)(i:Int)(v:α):(insD xs i v).Perm (xs++[v]):=by
 unfold insD;refine wp.trans ?_;rw[yL];exact(List.perm_append_singleton v xs).symm
theorem mixedUp_w (k:Nat)(sc:List Int)(i:Int)(M:MH)(js:Nat)(ds:List D){Q:D->MH->Prop}(h0:0<=i)(h1:i<=90000)(hl:ds.length<=1000)(hj:M[js]?=some (.lst ds))
  (q:∀ (es:List D) (j:Nat) (M':MH),es.Perm ds->Gr M M'->M.length<=j->M'[j]?=some (.lst es)->Q (.ob j) M'):W ((cx srt (k + 3)).fn "_law_mixed_up" [.fl (sc.map .int),.int i,.ob js]) M Q:=by
 have big:=line_big;rw[f__law_mixed_up,wf,b__law_mixed_up];walk_at "wq";have hj1:(M++[MO.lst []])[js]?=some (.lst ds):=(Gr.app _ _).keep _ _ hj;refine⟨by walk_at "o",_,hj1,⟨by show -(2 ^ 62)<=(ds.length:Int);walk_at "o",by show (ds.length:Int) < 2 ^ 62;walk_at "o"⟩,?_⟩;walk_at "wq";refine w_loop (fun n ρ M'=>Gr M M'/\(∃ es:List D,es.Perm (ds.take n)/\M'[M.length]?=some (.lst es))/\∃ x,ρ=[some (.fl (sc.map .int)),some (.int i),some (.ob js),some (.ob M.length),x]) ⟨Gr.app _ _,⟨[],.refl _,get_new _ _⟩,none,rfl⟩ (fun _ _ _ _=>trivial) ?_ ?_
 ·rintro n d ρ M2 hd ⟨g2,⟨es,hp,he⟩,x,rfl⟩
  obtain⟨rfl,hn⟩:=rng_get hd;have hn':n < ds.length:=by walk_at "o"
  have hle:=hp.length_eq;rw[zB]at hle;walk_at "wq";refine⟨_,he,pick_w (k:=k) sc _ _ M2 (by walk_at "o") (by walk_at "o") (by walk_at "o") ?_⟩;walk_at "wq";have a1:=pick_lo sc (i + (0 + (n:Int))) (show (0:Int) < 0 + (n:Int) + 1 by walk_at "o");have a2:=pick_hi sc (i + (0 + (n:Int))) (show (0:Int) < 0 + (n:Int) + 1 by walk_at "o");refine⟨_,g2.keep _ _ hj,?_⟩;walk_at "wq";refine⟨ds[n],?_,_,he,⟨by walk_at "o",by walk_at "o",by walk_at "o"⟩,g2.set (zo _) _,⟨_,?_,set_get he⟩,_,rfl⟩
  ·rw[show (0:Int) + (n:Int)=(n:Int) by walk_at "o"]
   exact atD_nat (zv hn')
  ·refine(insD_perm _ _ _).trans ?_
   rw[zG,zv hn'];exact hp.append_right _
 ·rintro ρ M2 ⟨g2,⟨es,hp,he⟩,x,rfl⟩
  rw[rng_len]at hp;have e:((ds.length:Int) - 0).toNat=ds.length:=by walk_at "o"
  rw[e,zI]at hp;walk_at "wq";exact q es _ _ hp g2 (zo _) he
theorem alpha_nd:(("abcdefghijklmnopqrstuvwxyz" : Str)).cps.toList.Nodup:=by decide +kernel
theorem alpha_len:(("abcdefghijklmnopqrstuvwxyz" : Str)).length=26:=by decide +kernel
end
end Law
namespace Law
open PySem L3
section
variable {srt:List D->Option (List D)}
theorem alnum_nd:(("abcdefghijklmnopqrstuvwxyz0123456789" : Str)).cps.toList.Nodup:=by decide +kernel
theorem alnum_len:(("abcdefghijklmnopqrstuvwxyz0123456789" : Str)).length=36:=by decide +kernel
theorem tail_len:(("0z9a" : Str)).length=4:=by decide +kernel
theorem app_inj {a b t:Str}(h:a++t=b++t):a=b:=by
 have e:a.cps++t.cps=b.cps++t.cps:=congrArg (fun s:Str=>s.cps) h
 have:=Array.append_left_inj t.cps |>.mp e
 cases a;cases b;exact congrArg Str.mk this
structure Pool (M:MH) (d:D) (as vs ns:List Str) (ot:Str):Prop where
 is:∃ ia iv iN:Nat,d=.tup [.ob ia,.ob iv,.ob iN,.str ot]/\M[ia]?=some (.lst (as.map .str))/\M[iv]?=some (.lst (vs.map .str))/\M[iN]?=some (.lst (ns.map .str))
 pre:∃ n,as=ns.take n
 a1:1<=as.length
 a3:as.length<=3
 v1:1<=vs.length
 v3:vs.length<=3
 n6:ns.length=6
 nn:ns.Nodup
 vn:(vs++[ot]).Nodup
 nz:∀ x∈ns,1<=x.length/\x.length<=8
 vz:∀ x∈vs++[ot],1<=x.length/\x.length<=12
theorem Pool.keep {M M':MH}{d:D}{as vs ns:List Str}{ot:Str}(P:Pool M d as vs ns ot)(g:Gr M M'):Pool M' d as vs ns ot:=by
 obtain⟨ia,iv,iN,h1,h2,h3,h4⟩:=P.is;exact { P with is:=⟨ia,iv,iN,h1,g.keep _ _ h2,g.keep _ _ h3,g.keep _ _ h4⟩ }
theorem nine (n:Nat)(h:n < 9)(a b c d e f g i j:Int)(P:Int->Prop)(ha:P a)(hb:P b)(hc:P c)(hd:P d)(he:P e)(hf:P f)(hg:P g)(hi:P i)(hj:P j) :
  ∃ r:Int,P r/\atD [D.int a,.int b,.int c,.int d,.int e,.int f,.int g,.int i,.int j] (n:Int)=some (.int r):=by
 have h9:n=0\/n=1\/n=2\/n=3\/n=4\/n=5\/n=6\/n=7\/n=8:=by walk_at "o"
 rcases h9 with rfl | rfl | rfl | rfl | rfl | rfl | rfl | rfl | rfl
 ·exact⟨a,ha,rfl⟩
 ·exact⟨b,hb,rfl⟩
 ·exact⟨c,hc,rfl⟩
 ·exact⟨d,hd,rfl⟩
 ·exact⟨e,he,rfl⟩
 ·exact⟨f,hf,rfl⟩
 ·exact⟨g,hg,rfl⟩
 ·exact⟨i,hi,rfl⟩
 ·exact⟨j,hj,rfl⟩
theorem pool_w (k:Nat)(sc:List Int)(M:MH){Q:D->MH->Prop}(q:∀ (d:D) (as vs ns:List Str) (ot:Str) (M':MH),Pool M' d as vs ns ot->Gr M M'->Q d M'):W ((cx srt (k + 4)).fn "_law_pool" [.fl (sc.map .int),.int 0]) M Q:=by
 have big:=line_big;rw[f__law_pool,wf,b__law_pool];walk_at "wq";refine words_w k sc 0 _ 6 M (by walk_at "o") (by walk_at "o") (by walk_at "o") alpha_nd (by rw[alpha_len];walk_at "o") (by rw[alpha_len];walk_at "o") (by rw[alpha_len];walk_at "o") fun ns jn M1 hn g1 _ hjn=>?_;walk_at "wq";refine words_w k sc _ _ 4 M1 (by walk_at "o") (by walk_at "o") (by walk_at "o") alnum_nd (by rw[alnum_len];walk_at "o") (by rw[alnum_len];walk_at "o") (by rw[alnum_len];walk_at "o") fun vs jv M2 hv g2 _ hjv=>?_;walk_at "wq";refine pick_w (k:=k + 1) sc _ _ M2 (by walk_at "o") (by walk_at "o") (by walk_at "o") ?_;walk_at "wq";have tail:∀ (ws:List Str) (jw:Nat) (M3:MH),ws.length=4->ws.Nodup->(∀ x∈ws,1<=x.length/\x.length<=12)->Gr M2 M3->M3[jw]?=some (.lst (ws.map .str)) ->
   W (semSs (cx srt (k + 3)) (.cons (.set 4 (.call ("_law_pick" : Str) (.cons (.var 0) (.cons (.bin .Add (.var 1) (.cint 23)) (.cons (.cint 6) .nil)))))
  (.cons (.set 2 (.bin .Add (.slc (.var 2) (.some (.var 4)) .none) (.slc (.var 2) .none (.some (.var 4)))))
  (.cons (.set 5 (.slc (.var 2) .none (.some (.idx (.lst (.cons (.cint 1) (.cons (.cint 2) (.cons (.cint 1) (.cons (.cint 2) (.cons (.cint 1) (.cons (.cint 2) (.cons (.cint 2) (.cons (.cint 1) (.cons (.cint 3) .nil)))))))))) (.call ("_law_pick" : Str) (.cons (.var 0) (.cons (.bin .Add (.var 1) (.cint 24)) (.cons (.cint 9) .nil))))))))
  (.cons (.ret (.tup (.cons (.var 5) (.cons (.slc (.var 3) .none (.some (.idx (.lst (.cons (.cint 1) (.cons (.cint 2) (.cons (.cint 1) (.cons (.cint 2) (.cons (.cint 2) (.cons (.cint 1) (.cons (.cint 2) (.cons (.cint 1) (.cons (.cint 3) .nil)))))))))) (.call ("_law_pick" : Str) (.cons (.var 0) (.cons (.bin .Add (.var 1) (.cint 25)) (.cons (.cint 9) .nil))))))) (.cons (.var 2) (.cons (.idx (.var 3) (.cint 3)) .nil))))))
  .nil)))) [some (.fl (sc.map .int)),some (.int 0),some (.ob jn),some (.ob jw),none,none]) M3 (endF Q):=by
  intro ws jw M3 hl hnd hsz g3 hjw;walk_at "wq";refine pick_w (k:=k + 1) sc _ _ M3 (by walk_at "o") (by walk_at "o") (by walk_at "o") ?_;obtain⟨t,ht,ht6⟩:=pick_nat sc (0 + 23) (m:=6) (by walk_at "o");rw[show ((6:Nat):Int)=6 from rfl]at ht;rw[ht];walk_at "wq";have h1:M3[jn]?=some (.lst (ns.map .str)):=g3.keep _ _ (g2.keep _ _ hjn);refine⟨_,h1,_,(Gr.app _ _).keep _ _ h1,?_⟩;rw[cut_lo _ (by walk_at "o"),cut_hi _ (by walk_at "o")];have et:(t:Int).toNat=t:=rfl;rw[et];refine⟨_,(Gr.app _ _).keep _ _ (get_new _ _),_,get_new _ _,?_,by walk_at "o",?_⟩
  ·rw[yu,zB,zz,hn.len];walk_at "o"
  rw[<- wy,<- yJ,<- zq];have p1:(ns.drop t++ns.take t).Perm ns:=wa.trans (List.Perm.of_eq (yL t ns));generalize ns.drop t++ns.take t=ns' at p1 ⊢;generalize hM4:M3++[MO.lst (List.map D.str (ns.drop t))]++[MO.lst (List.map D.str (ns.take t))]=M4;have g4:Gr M3 M4:=hM4 ▸ (Gr.app _ _).snoc _;clear hM4;refine pick_w (k:=k + 1) sc _ _ _ (by walk_at "o") (by walk_at "o") (by walk_at "o") ?_;obtain⟨a,ha,ha9⟩:=pick_nat sc (0 + 24) (m:=9) (by walk_at "o");rw[show ((9:Nat):Int)=9 from rfl]at ha;rw[ha];walk_at "wq";refine⟨_,get_new _ _,?_⟩;walk_at "wq";obtain⟨ra,⟨ra1,ra3⟩,hra⟩:=nine a ha9 1 2 1 2 1 2 2 1 3 (fun r=>1<=r/\r<=3) (by walk_at "o") (by walk_at "o") (by walk_at "o") (by walk_at "o") (by walk_at "o") (by walk_at "o") (by walk_at "o") (by walk_at "o") (by walk_at "o");refine⟨_,hra,?_⟩;walk_at "wq";refine⟨_,(Gr.app _ _).keep _ _ (get_new _ _),by walk_at "o",?_⟩;rw[cut_hi _ (by walk_at "o"),<- yJ];have hN5:(M4++[MO.lst (List.map D.str ns')])[M4.length]?=some (.lst (ns'.map .str)):=get_new _ _;have g5:Gr M3 (M4++[MO.lst (List.map D.str ns')]):=g4.snoc _;generalize hM5:M4++[MO.lst (List.map D.str ns')]=M5 at hN5 g5 ⊢;generalize hiN:M4.length=iN at hN5 ⊢;have hA6:(M5++[MO.lst [D.int 1,D.int 2,D.int 1,D.int 2,D.int 1,D.int 2,D.int 2,D.int 1,D.int 3]]++[MO.lst (List.map D.str (ns'.take ra.toNat))])[(M5++[MO.lst [D.int 1,D.int 2,D.int 1,D.int 2,D.int 1,D.int 2,D.int 2,D.int 1,D.int 3]]).length]?=some (.lst ((ns'.take ra.toNat).map .str)):=get_new _ _;have g6:Gr M5 (M5++[MO.lst [D.int 1,D.int 2,D.int 1,D.int 2,D.int 1,D.int 2,D.int 2,D.int 1,D.int 3]]++[MO.lst (List.map D.str (ns'.take ra.toNat))]):=(Gr.app _ _).snoc _;generalize hM6:M5++[MO.lst [D.int 1,D.int 2,D.int 1,D.int 2,D.int 1,D.int 2,D.int 2,D.int 1,D.int 3]]++[MO.lst (List.map D.str (ns'.take ra.toNat))]=M6 at hA6 g6 ⊢;generalize hiA:(M5++[MO.lst [D.int 1,D.int 2,D.int 1,D.int 2,D.int 1,D.int 2,D.int 2,D.int 1,D.int 3]]).length=iA at hA6 ⊢;refine pick_w (k:=k + 1) sc _ _ _ (by walk_at "o") (by walk_at "o") (by walk_at "o") ?_;obtain⟨b,hb,hb9⟩:=pick_nat sc (0 + 25) (m:=9) (by walk_at "o");rw[show ((9:Nat):Int)=9 from rfl]at hb;rw[hb];walk_at "wq";refine⟨_,get_new _ _,?_⟩;walk_at "wq";obtain⟨rb,⟨rb1,rb3⟩,hrb⟩:=nine b hb9 1 2 1 2 2 1 2 1 3 (fun r=>1<=r/\r<=3) (by walk_at "o") (by walk_at "o") (by walk_at "o") (by walk_at "o") (by walk_at "o") (by walk_at "o") (by walk_at "o") (by walk_at "o") (by walk_at "o");refine⟨_,hrb,?_⟩;walk_at "wq";have hjw6:=g6.keep _ _ (g5.keep _ _ hjw);refine⟨_,(Gr.app _ _).keep _ _ hjw6,_,(Gr.app _ _).keep _ _ ((Gr.app _ _).keep _ _ hjw6),?_⟩;walk_at "wq";rw[cut_hi _ (by walk_at "o"),<- yJ];refine⟨.str (ws[3]'(by walk_at "o")),?_,by walk_at "o",?_⟩
  ·refine atD_nat (j:=3) ?_
   rw[zu,zv (by walk_at "o")];rfl
  have hsub:(ws.take rb.toNat++[ws[3]'(by walk_at "o")]).Sublist ws:=by
   have e:=yL rb.toNat ws;have h3:ws[3]'(by walk_at "o")∈ws.drop rb.toNat:=by
    rw[List.mem_drop_iff_getElem];exact⟨3 - rb.toNat,by walk_at "o",by congr 1;walk_at "o"⟩
   conv=>rhs;rw[<- e]
   exact(List.Sublist.refl _).append (List.singleton_sublist.mpr h3)
  refine q _ (ns'.take ra.toNat) (ws.take rb.toNat) ns' (ws[3]'(by walk_at "o")) _ ⟨⟨iA,_,iN,rfl,?_,get_new _ _,?_⟩,⟨_,rfl⟩,?_,?_,?_,?_,?_,?_,?_,?_,?_⟩ ((((((g1.trans g2).trans g3).trans g5).trans g6).snoc _).snoc _)
  ·exact(Gr.app _ _).keep _ _ ((Gr.app _ _).keep _ _ hA6)
  ·exact(Gr.app _ _).keep _ _ ((Gr.app _ _).keep _ _ (g6.keep _ _ hN5))
  ·rw[zB,p1.length_eq,hn.len];walk_at "o"
  ·rw[zB];walk_at "o"
  ·rw[zB];walk_at "o"
  ·rw[zB];walk_at "o"
  ·rw[p1.length_eq,hn.len]
  ·exact p1.nodup_iff.mpr hn.nd
  ·exact hnd.sublist hsub
  ·exact fun x hx=>hn.sz x (p1.mem_iff.mp hx)
  ·exact fun x hx=>hsz x (hsub.subset hx)
 refine⟨fun _=>⟨_,hjv,by rw[zz,hv.len];walk_at "o",?_⟩,fun _=>?_⟩
 ·refine w_compI (fun n ys M'=>M'=M2/\ys=((vs.take n).map fun x=>D.str (x++("0z9a" : Str)))) ⟨rfl,rfl⟩ (fun _ _ _ h=>by rw[h.1];exact hjv) ?_ ?_
  ·rintro n d ys M3 hd ⟨rfl,rfl⟩
   rw[zu]at hd;obtain⟨x,hx,rfl⟩:=zt.mp hd
   have:=hv.sz x (zn hx)
   walk_at "wq";refine⟨by rw[tail_len];walk_at "o",?_⟩;rw[zG,hx];simp
  ·rintro ys M3 ⟨rfl,rfl⟩
   rw[zz,zI];have t:=tail (vs.map fun x=>x++("0z9a" : Str)) M3.length (M3++[.lst (vs.map fun x=>D.str (x++("0z9a" : Str)))]) (by rw[zz,hv.len]) ?_ ?_ (Gr.app _ _) (by rw[get_new,zP];rfl)
   ·revert t
    walk_at "wq";exact id
   ·rw[List.Nodup,xE]
    exact hv.nd.imp fun h e=>h (app_inj e)
   ·intro x hx
    obtain⟨y,hy,rfl⟩:=zC.mp hx
    have:=hv.sz y hy
    rw[len_app,tail_len];walk_at "o"
 ·have t:=tail vs jv M2 hv.len hv.nd (fun x hx=>by have:=hv.sz x hx;walk_at "o") Gr.refl hjv
  revert t;walk_at "wq";exact id
end
end Law
namespace Law
open PySem L3
section
variable {srt:List D->Option (List D)}
structure Ask where
 w:Str
 n:Str
 vs:List Str
noncomputable def askD (a:Ask):D:=.tup [.str a.w,.str a.n,.tup (a.vs.map .str)]
structure Ask.Ok (a:Ask) (as vs:List Str):Prop where
 word:((a.w = "is"\/a.w = "no")/\a.vs≠[])\/((a.w = "there"\/a.w = "lacks")/\a.vs=[])
 name:a.n∈as
 vals:∀ v∈a.vs,v∈vs
 len:a.vs.length<=3
 nd:a.vs.Nodup
theorem words5 (n:Nat)(h:n < 5):∃ r:Str,(r = "is"\/r = "no"\/r = "there"\/r = "lacks")/\atD [D.str "is",.str "is",.str "no",.str "there",.str "lacks"] (n:Int)=some (.str r):=by
 have h9:n=0\/n=1\/n=2\/n=3\/n=4:=by walk_at "o"
 rcases h9 with rfl | rfl | rfl | rfl | rfl
 ·exact⟨"is",.inl rfl,rfl⟩
 ·exact⟨"is",.inl rfl,rfl⟩
 ·exact⟨"no",.inr (.inl rfl),rfl⟩
 ·exact⟨"there",.inr (.inr (.inl rfl)),rfl⟩
 ·exact⟨"lacks",.inr (.inr (.inr rfl)),rfl⟩
theorem str_get {xs:List Str}{n:Nat}(h:n < xs.length):atD (xs.map D.str) (n:Int)=some (.str xs[n]):=atD_nat (by rw[zu,zv h];rfl)
theorem asking_w (k:Nat)(sc:List Int)(i:Int)(M:MH){d:D}{as vs ns:List Str}{ot:Str}(P:Pool M d as vs ns ot){Q:D->MH->Prop}(h0:0<=i)(h1:i<=90000)(q:∀ (a:Ask) (M':MH),a.Ok as vs->Gr M M'->Q (askD a) M'):W ((cx srt (k + 3)).fn "_law_asking" [.fl (sc.map .int),.int i,d]) M Q:=by
 have big:=line_big;obtain⟨ia,iv,iN,rfl,h2,h3,h4⟩:=P.is
 have:=P.a1
 have:=P.v1
 have:=P.v3
 rw[f__law_asking,wf,b__law_asking];walk_at "wq";refine⟨_,h2,?_⟩;rw[k_lenl,zz];obtain⟨n,hn,hlt⟩:=pick_nat sc i (m:=as.length) (by walk_at "o");refine pick_w (k:=k) sc _ _ M (by walk_at "o") (by walk_at "o") (by walk_at "o") ?_;rw[hn];walk_at "wq";refine⟨_,h2,?_⟩;walk_at "wq";refine⟨_,str_get hlt,by walk_at "o",pick_w (k:=k) sc _ _ _ (by walk_at "o") (by walk_at "o") (by walk_at "o") ?_⟩;walk_at "wq";refine⟨_,get_new _ _,?_⟩;obtain⟨w,hw,hw5⟩:=pick_nat sc (i + 1) (m:=5) (by walk_at "o");rw[show ((5:Nat):Int)=5 from rfl]at hw;rw[hw];walk_at "wq";obtain⟨r,hr,hrw⟩:=words5 w hw5;refine⟨_,hrw,?_⟩;walk_at "wq";generalize hM1:M++[MO.lst [D.str "is",.str "is",.str "no",.str "there",.str "lacks"]]=M1;have g1:Gr M M1:=hM1 ▸ Gr.app _ _;clear hM1;have hname:as[n]∈as:=yW hlt;have bare:(r = "there"\/r = "lacks")->Q (.tup [.str r,.str as[n],.tup []]) M1:=fun h=>q ⟨r,as[n],[]⟩ M1 ⟨.inr ⟨h,rfl⟩,hname,fun v h=>by simp at h,by simp,by simp⟩ g1;refine⟨fun h=>⟨by walk_at "o",by walk_at "o",bare (.inl (beq_iff_eq.mp h))⟩,fun h5=>⟨fun h=>⟨by walk_at "o",by walk_at "o",bare (.inr (beq_iff_eq.mp h))⟩,fun h6=>?_⟩⟩;have hr':r = "is"\/r = "no":=by
  rcases hr with e | e | e | e
  ·exact .inl e
  ·exact .inr e
  ·rw[e]at h5;exact absurd h5 (by decide +kernel)
  ·rw[e]at h6;exact absurd h6 (by decide +kernel)
 have h3':=g1.keep _ _ h3;refine⟨_,h3',?_⟩;rw[k_lenl,zz];obtain⟨f,hf,hflt⟩:=pick_nat sc (i + 2) (m:=vs.length) (by walk_at "o");refine pick_w (k:=k) sc _ _ _ (by walk_at "o") (by walk_at "o") (by walk_at "o") ?_;rw[hf];walk_at "wq";refine⟨_,h3',_,(Gr.app _ _).keep _ _ h3',?_⟩;rw[cut_lo _ (by walk_at "o"),cut_hi _ (by walk_at "o")];have et:(f:Int).toNat=f:=rfl;rw[et];refine⟨_,(Gr.app _ _).keep _ _ (get_new _ _),_,get_new _ _,?_,?_⟩
 ·rw[yu,zB,zz];walk_at "o"
 rw[<- wy,<- yJ,<- zq];have p1:(vs.drop f++vs.take f).Perm vs:=wa.trans (List.Perm.of_eq (yL f vs));generalize vs.drop f++vs.take f=vs' at p1 ⊢;generalize hM2:M1++[MO.lst (List.map D.str (vs.drop f))]++[MO.lst (List.map D.str (vs.take f))]=M2;have g2:Gr M1 M2:=hM2 ▸ (Gr.app _ _).snoc _;clear hM2;refine⟨_,(g2.snoc _).keep _ _ h3',?_⟩;rw[k_lenl,zz];obtain⟨m,hm,hmlt⟩:=pick_nat sc (i + 3) (m:=vs.length) (by walk_at "o");refine pick_w (k:=k) sc _ _ _ (by walk_at "o") (by walk_at "o") (by walk_at "o") ?_;rw[hm];walk_at "wq";refine⟨_,get_new _ _,_,get_new _ _,by walk_at "o",?_⟩;rw[cut_hi _ (by walk_at "o"),<- yJ];have hl:=p1.length_eq;refine q ⟨r,as[n],vs'.take (1 + (m:Int)).toNat⟩ _ ⟨.inl ⟨hr',?_⟩,hname,fun v hv=>p1.mem_iff.mp (wE hv),?_,?_⟩ (((g1.trans g2).snoc _).snoc _)
 ·intro e
  have h7:=congrArg List.length e;have h8:(vs'.take (1 + (m:Int)).toNat).length=min (1 + (m:Int)).toNat vs'.length:=zB;rw[h8,yg]at h7;walk_at "o"
 ·show (vs'.take _).length<=3
  rw[zB];walk_at "o"
 ·have hvn:vs.Nodup:=P.vn.sublist (List.sublist_append_left _ _)
  exact(p1.nodup_iff.mpr hvn).sublist (xX _ _)
theorem askings_w (k:Nat)(sc:List Int)(i:Int)(m:Nat)(M:MH){d:D}{as vs ns:List Str}{ot:Str}(P:Pool M d as vs ns ot){Q:D->MH->Prop}(h0:0<=i)(h1:i<=80000)(hm:m<=100)(q:∀ (xs:List Ask) (M':MH),(∀ a∈xs,a.Ok as vs)->xs.length=m->Gr M M'->Q (.tup (xs.map askD)) M') :
  W ((cx srt (k + 4)).fn "_law_askings" [.fl (sc.map .int),.int i,.int m,d]) M Q:=by
 have big:=line_big;rw[f__law_askings,wf,b__law_askings];walk_at "wq";refine⟨⟨by walk_at "o",by walk_at "o"⟩,by rw[rng_len];walk_at "o",?_⟩;refine w_compI (fun n ys M'=>Gr M M'/\∃ xs:List Ask,(∀ a∈xs,a.Ok as vs)/\xs.length=n/\ys=xs.map askD) ⟨Gr.refl,[],fun _ h=>by simp at h,rfl,rfl⟩ (fun _ _ _ _=>trivial) ?_ ?_
 ·rintro n e ys M1 hd ⟨g,xs,hx,hl,rfl⟩
  obtain⟨rfl,hn⟩:=rng_get hd;walk_at "wq";refine⟨.inl ⟨by walk_at "o",by walk_at "o"⟩,asking_w k sc _ M1 (P.keep g) (by walk_at "o") (by walk_at "o") fun a M2 ha g2=>?_⟩;exact⟨g.trans g2,xs++[a],fun b hb=>by
   rcases zF.mp hb with h | h
   ·exact hx b h
   ·rw[zd.mp h];exact ha,by rw[zp,hl];rfl,by rw[zq];rfl⟩
 ·rintro ys M1 ⟨g,xs,hx,hl,rfl⟩
  rw[rng_len]at hl;walk_at "wq";refine⟨_,get_new _ _,q xs _ hx ?_ (g.snoc _)⟩;walk_at "o"
noncomputable def Sorts (srt:List D->Option (List D)):Prop:=∀ ps:List (Str×Str),ps.length < 64->∃ qs:List (Str×Str),srt (ps.map prD)=some (qs.map prD)/\qs.Perm ps
structure Marks (ps:List (Str×Str)) (vs ns:List Str) (ot:Str):Prop where
 len:ps.length<=6
 nd:(ps.map (·.1)).Nodup
 nm:∀ p∈ps,p.1∈ns
 vl:∀ p∈ps,p.2∈vs++[ot]
theorem marks_w (hsrt:Sorts srt)(k:Nat)(sc:List Int)(i:Int)(M:MH){d:D}{as vs ns:List Str}{ot:Str}(P:Pool M d as vs ns ot){Q:D->MH->Prop}(h0:0<=i)(h1:i<=90000)(q:∀ (ps:List (Str×Str)) (M':MH),Marks ps vs ns ot->Gr M M'->Q (.tup (ps.map prD)) M') :
  W ((cx srt (k + 3)).fn "_law_marks" [.fl (sc.map .int),.int i,d]) M Q:=by
 have big:=line_big;obtain⟨ia,iv,iN,rfl,h2,h3,h4⟩:=P.is
 have:=P.n6
 have:=P.v1
 have:=P.v3
 rw[f__law_marks,wf,b__law_marks];walk_at "wq";have h4':(M++[MO.lst []])[iN]?=some (.lst (ns.map .str)):=(Gr.app _ _).keep _ _ h4;refine⟨by walk_at "o",_,h4',?_⟩;rw[k_lenl,zz];refine⟨⟨by walk_at "o",by walk_at "o"⟩,?_⟩;refine w_loop (fun n ρ M'=>Gr M M'/\(∃ ps:List (Str×Str),M'[M.length]?=some (.lst (ps.map prD))/\(ps.map (·.1)).Sublist (ns.take n)/\∀ p∈ps,p.2∈vs++[ot])/\∃ x4 x5,ρ=[some (.fl (sc.map .int)),some (.int i),some (.tup [.ob ia,.ob iv,.ob iN,.str ot]),some (.ob M.length),x4,x5])
  ⟨Gr.app _ _,⟨[],get_new _ _,by simp,by simp⟩,none,none,rfl⟩ (fun _ _ _ _=>trivial) ?_ ?_
 ·rintro n e ρ M1 hd ⟨g,⟨ps,hps,hsub,hval⟩,x4,x5,rfl⟩
  obtain⟨rfl,hn⟩:=rng_get hd;have hn6:n < ns.length:=by walk_at "o"
  have hlen:ps.length<=n:=by
   have:=hsub.length_le
   rw[zz,zB]at this;walk_at "o"
  have hv1:=g.keep _ _ h3;have hn1:=g.keep _ _ h4;walk_at "wq";refine⟨_,hv1,?_⟩;rw[k_lenl,zz];obtain⟨w,hw,hwlt⟩:=pick_nat sc (i + (0 + (n:Int))) (m:=vs.length + 3) (by walk_at "o");rw[show ((vs.length + 3:Nat):Int)=(vs.length:Int) + 3 by walk_at "o"]at hw;refine pick_w (k:=k) sc _ _ M1 (by walk_at "o") (by walk_at "o") (by walk_at "o") ?_;rw[hw];walk_at "wq";have step:∀ v:Str,v∈vs++[ot]->∃ ps':List (Str×Str),(M1.set M.length (.lst (ps.map prD++[.tup [.str ns[n],.str v]])))[M.length]?=some (.lst (ps'.map prD))/\(ps'.map (·.1)).Sublist (ns.take (n + 1))/\∀ p∈ps',p.2∈vs++[ot]:=fun v hv=>by
   refine⟨ps++[(ns[n],v)],?_,?_,fun p hp=>?_⟩
   ·rw[set_get hps,zq];rfl
   ·rw[zq,zG,zv hn6]
    exact hsub.append (List.Sublist.refl _)
   ·rcases zF.mp hp with h | h
    ·exact hval p h
    ·rw[zd.mp h];exact hv
  have nat0:(0:Int) + (n:Int)=(n:Int):=by walk_at "o"
  refine⟨_,hv1,?_⟩;rw[k_lenl,zz];refine⟨fun h=>?_,fun h=>?_⟩
  ·have hwv:w < vs.length:=by
    have:=of_decide_eq_true h
    walk_at "o"
   refine⟨_,hps,_,hn1,?_⟩;walk_at "wq";refine⟨_,by rw[nat0];exact str_get hn6,_,hv1,?_⟩;walk_at "wq";refine⟨_,str_get hwv,by walk_at "o",_,hps,by rw[zz];walk_at "o",?_⟩;have gS:Gr M (M1.set M.length (.lst (ps.map prD++[.tup [.str ns[n],.str vs[w]]]))):=g.set (zo _) _;refine⟨_,gS.keep _ _ h3,?_⟩;rw[k_lenl,zz];walk_at "wq";refine⟨fun h2=>?_,fun _=>⟨gS,step _ (yE _ (yW hwv)),_,_,rfl⟩⟩
   have:=beq_iff_eq.mp h2
   walk_at "o"
  ·refine⟨_,hv1,?_⟩
   rw[k_lenl,zz];walk_at "wq";refine⟨fun h2=>?_,fun _=>⟨g,⟨ps,hps,hsub.trans (List.take_sublist_take_left (yQ n)),hval⟩,_,_,rfl⟩⟩;refine⟨_,hps,_,hn1,?_⟩;walk_at "wq";refine⟨_,by rw[nat0];exact str_get hn6,by walk_at "o",_,hps,by rw[zz];walk_at "o",?_⟩;exact⟨g.set (zo _) _,step _ (zX _ zD),_,_,rfl⟩
 ·rintro ρ M1 ⟨g,⟨ps,hps,hsub,hval⟩,x4,x5,rfl⟩
  have hlen:ps.length<=6:=by
   have:=hsub.length_le
   rw[zz,zB]at this;walk_at "o"
  walk_at "wq";obtain⟨qs,hq,hperm⟩:=hsrt ps (by walk_at "o");refine⟨_,hps,_,hq,_,get_new _ _,q qs _ ⟨by rw[hperm.length_eq];exact hlen,?_,fun p hp=>?_,fun p hp=>hval p (hperm.mem_iff.mp hp)⟩ (g.snoc _)⟩
  ·exact(hperm.map _).nodup_iff.mpr (P.nn.sublist (hsub.trans (xX _ _)))
  ·exact wE (hsub.subset (zC.mpr ⟨p,hperm.mem_iff.mp hp,rfl⟩))
structure Say where
 n:Int
 ps:List (Str×Str)
 w:Int
 came:Int
 gone:Option Int
noncomputable def optD:Option Int->D
 | none=>.non
 | some i=>.int i
noncomputable def sayD (s:Say):D:=.tup [.int s.n,.tup (s.ps.map prD),.int s.w,.int s.came,optD s.gone]
structure Say.Ok (s:Say) (vs ns:List Str) (ot:Str) (base:Int):Prop where
 n1:1<=s.n
 n2:s.n<=100000
 mks:Marks s.ps vs ns ot
 w0:0<=s.w
 w9:s.w<=9
 c0:0<=s.came
 c1:s.came<=base + 2
 gn:∀ g,s.gone=some g->s.came<=g/\g<=base + 10
theorem two (n:Nat)(h:n < 2)(a b:D)(P:D->Prop)(ha:P a)(hb:P b):∃ r,P r/\atD [a,b] (n:Int)=some r:=by
 have h9:n=0\/n=1:=by walk_at "o"
 rcases h9 with rfl | rfl
 ·exact⟨a,ha,rfl⟩
 ·exact⟨b,hb,rfl⟩
theorem map_of_perm {α:Type}{f:α->D}{es:List D}{ws:List α}(h:es.Perm (ws.map f)):∃ vs:List α,es=vs.map f/\vs.Perm ws:=by
 induction es generalizing ws with
 | nil =>
  have:=h.length_eq
  rw[zz]at this;cases ws with
  | nil=>exact⟨[],rfl,.refl _⟩
  | cons a r=>simp at this
 | cons d es ih =>
  have hm:d∈ws.map f:=h.mem_iff.mp zD;obtain⟨w,hw,rfl⟩:=zC.mp hm;obtain⟨l1,l2,rfl⟩:=List.append_of_mem hw;have h2:(f w::es).Perm (f w::((l1++l2).map f)):=by
   refine h.trans ?_;rw[zq,ze,zq];exact wp
  obtain⟨vs,rfl,hv⟩:=ih ((vk _).mp h2);exact⟨w::vs,rfl,((vk w).mpr hv).trans wp.symm⟩
theorem sayings_w (hsrt:Sorts srt)(k:Nat)(sc:List Int)(i:Int)(m:Nat)(base:Int)(M:MH){d:D}{as vs ns:List Str}{ot:Str}(P:Pool M d as vs ns ot){Q:D->MH->Prop}(h0:0<=i)(h1:i<=50000)(hm:m<=100)(hb:0<=base)
  (q:∀ (ws:List Say) (j:Nat) (M':MH),(∀ s∈ws,s.Ok vs ns ot base)->ws.length=m->(ws.map (·.n)).Nodup->Gr M M'->M'[j]?=some (.lst (ws.map sayD))->Q (.ob j) M') :
  W ((cx srt (k + 4)).fn "_law_sayings" [.fl (sc.map .int),.int i,.int m,.int base,d]) M Q:=by
 have big:=line_big;rw[f__law_sayings,wf,b__law_sayings];walk_at "wq";refine⟨by walk_at "o",⟨by walk_at "o",by walk_at "o"⟩,?_⟩;refine w_loop (fun n ρ M'=>Gr M M'/\(∃ ws:List Say,M'[M.length]?=some (.lst (ws.map sayD))/\(∀ s∈ws,s.Ok vs ns ot base)/\ws.length=n/\(ws.map (·.n)).Nodup/\∀ s∈ws,s.n<=3 * (n:Int))/\∃ x6 x7 x8 x9 x10,ρ=[some (.fl (sc.map .int)),some (.int i),some (.int m),some (.int base),some d,some (.ob M.length),x6,x7,x8,x9,x10])
  ⟨Gr.app _ _,⟨[],get_new _ _,by simp,rfl,by simp,by simp⟩,none,none,none,none,none,rfl⟩ (fun _ _ _ _=>trivial) ?_ ?_
 ·rintro n e ρ M1 hd ⟨g,⟨ws,hws,hok,hlen,hnd,hle⟩,x6,x7,x8,x9,x10,rfl⟩
  obtain⟨rfl,hn⟩:=rng_get hd;have hnm:n < m:=by walk_at "o"
  walk_at "wq";refine⟨.inl ⟨by walk_at "o",by walk_at "o"⟩,pick_w (k:=k + 1) sc _ _ M1 (by walk_at "o") (by walk_at "o") (by walk_at "o") ?_⟩;generalize hat:i + 11 * (0 + (n:Int))=at_;have hat0:0<=at_:=by walk_at "o"
  have hat1:at_<=60000:=by walk_at "o"
  obtain⟨c,hc,hc6⟩:=pick_nat sc (at_ + 6) (m:=6) (by walk_at "o");rw[show ((6:Nat):Int)=6 from rfl]at hc;rw[hc];walk_at "wq";refine pick_w (k:=k + 1) sc _ _ M1 (by walk_at "o") (by walk_at "o") (by walk_at "o") ?_;obtain⟨g1,hg1,hg6⟩:=pick_nat sc (at_ + 8) (m:=6) (by walk_at "o");rw[show ((6:Nat):Int)=6 from rfl]at hg1;rw[hg1];walk_at "wq";generalize hcame:max 0 (base + 2 - (c:Int))=came;have came0:0<=came:=by walk_at "o"
  have came1:came<=base + 2:=by walk_at "o"
  refine⟨by walk_at "o",pick_w (k:=k + 1) sc _ _ _ (by walk_at "o") (by walk_at "o") (by walk_at "o") ?_⟩;obtain⟨g3,hg3,hg33⟩:=pick_nat sc (at_ + 7) (m:=3) (by walk_at "o");rw[show ((3:Nat):Int)=3 from rfl]at hg3;rw[hg3];walk_at "wq";refine⟨⟨by walk_at "o",by walk_at "o"⟩,_,get_new _ _,?_⟩;have ed:(g3:Int) / 2=((g3 / 2:Nat):Int):=by walk_at "o"
  rw[ed];walk_at "wq";obtain⟨gd,⟨gone,rfl,hgone⟩,hgd⟩:=two (g3 / 2) (by walk_at "o") .non (.int (came + (g1:Int))) (fun r=>∃ gone:Option Int,r=optD gone/\∀ g,gone=some g->came<=g/\g<=base + 10) ⟨none,rfl,fun g h=>by cases h⟩ ⟨some (came + g1),rfl,fun g h=>by cases h;walk_at "o"⟩;refine⟨_,hgd,?_⟩;walk_at "wq";generalize hM2:M1++[MO.lst [D.non,D.int (came + (g1:Int))]]=M2;have g2:Gr M1 M2:=hM2 ▸ Gr.app _ _;clear hM2;refine pick_w (k:=k + 1) sc _ _ _ (by walk_at "o") (by walk_at "o") (by walk_at "o") ?_;walk_at "wq";refine pick_w (k:=k + 1) sc _ _ _ (by walk_at "o") (by walk_at "o") (by walk_at "o") ?_;obtain⟨w1,hw1,hw13⟩:=pick_nat sc (at_ + 9) (m:=3) (by walk_at "o");rw[show ((3:Nat):Int)=3 from rfl]at hw1;rw[hw1];obtain⟨w2,hw2,hw210⟩:=pick_nat sc (at_ + 9) (m:=10) (by walk_at "o");rw[show ((10:Nat):Int)=10 from rfl]at hw2;rw[hw2];walk_at "wq";refine⟨by walk_at "o",pick_w (k:=k + 1) sc _ _ _ (by walk_at "o") (by walk_at "o") (by walk_at "o") ?_⟩;obtain⟨w3,hw3,hw32⟩:=pick_nat sc (at_ + 10) (m:=2) (by walk_at "o");rw[show ((2:Nat):Int)=2 from rfl]at hw3;rw[hw3];walk_at "wq";refine⟨_,get_new _ _,?_⟩;walk_at "wq";obtain⟨wd,⟨wt,rfl,wt0,wt9⟩,hwd⟩:=two w3 hw32 (.int (w1:Int)) (.int (w2:Int)) (fun r=>∃ wt:Int,r=.int wt/\0<=wt/\wt<=9) ⟨_,rfl,by walk_at "o",by walk_at "o"⟩ ⟨_,rfl,by walk_at "o",by walk_at "o"⟩;refine⟨_,hwd,?_⟩;walk_at "wq";generalize hM3:M2++[MO.lst [D.int (w1:Int),D.int (w2:Int)]]=M3;have g4:Gr M2 M3:=hM3 ▸ Gr.app _ _;clear hM3;have g5:Gr M1 M3:=g2.trans g4;refine⟨_,g5.keep _ _ hws,.inl ⟨by walk_at "o",by walk_at "o"⟩,pick_w (k:=k + 1) sc _ _ _ (by walk_at "o") (by walk_at "o") (by walk_at "o") ?_⟩;rw[hw1];walk_at "wq";refine marks_w hsrt k sc _ M3 (P.keep (g.trans g5)) (by walk_at "o") (by walk_at "o") fun ps M4 hps g6=>?_;walk_at "wq";refine⟨by walk_at "o",_,g6.keep _ _ (g5.keep _ _ hws),by rw[zz];walk_at "o",((g.trans g5).trans g6).set (zo _) _,?_,_,_,_,_,_,rfl⟩;refine⟨ws++[⟨3 * (0 + (n:Int)) + 1 + (w1:Int),ps,wt,came,gone⟩],?_,fun s hs=>?_,by rw[zp,hlen];rfl,?_,fun s hs=>?_⟩
  ·rw[set_get (g6.keep _ _ (g5.keep _ _ hws)),zq];rfl
  ·rcases zF.mp hs with h | h
   ·exact hok s h
   ·rw[zd.mp h]
    exact⟨by show 1<=3 * (0 + (n:Int)) + 1 + (w1:Int);walk_at "o",by show 3 * (0 + (n:Int)) + 1 + (w1:Int)<=100000;walk_at "o",hps,wt0,wt9,came0,came1,hgone⟩
  ·rw[zq,yd]
   refine⟨hnd,by simp,fun a ha b hb=>?_⟩;obtain⟨s,hs,rfl⟩:=zC.mp ha;simp at hb
   have:=hle s hs
   walk_at "o"
  ·rcases zF.mp hs with h | h
   ·have:=hle s h;walk_at "o"
   ·rw[zd.mp h]
    show 3 * (0 + (n:Int)) + 1 + (w1:Int)<=_;walk_at "o"
 ·rintro ρ M1 ⟨g,⟨ws,hws,hok,hlen,hnd,hle⟩,x6,x7,x8,x9,x10,rfl⟩
  rw[rng_len]at hlen;walk_at "wq";refine⟨.inl ⟨by walk_at "o",by walk_at "o"⟩,mixedUp_w (k:=k) sc _ M1 _ _ (by walk_at "o") (by walk_at "o") (by rw[zz];walk_at "o") hws fun es j M2 hp g2 _ hj=>?_⟩;obtain⟨vs',rfl,hv⟩:=map_of_perm hp;walk_at "wq";exact q vs' j M2 (fun s hs=>hok s (hv.mem_iff.mp hs)) (by rw[hv.length_eq];walk_at "o") ((hv.map _).nodup_iff.mpr hnd) (g.trans g2) hj
end
end Law
namespace Law
open PySem L3
section
variable {srt:List D->Option (List D)}
structure Qt where
 n:Int
 xs:List Ask
 fst:Int
 lst:Int
noncomputable def qtD (s:Qt):D:=.tup [.int s.n,.tup (s.xs.map askD),.int s.fst,.int s.lst]
structure Qt.Ok (s:Qt) (as vs:List Str) (base:Int):Prop where
 n1:1<=s.n
 n2:s.n<=100000
 ok:∀ a∈s.xs,a.Ok as vs
 len:s.xs.length<=2
 f0:0<=s.fst
 f1:s.fst<=base + 2
 l0:0<=s.lst
 l1:s.lst<=base + 10
theorem quietings_w (k:Nat)(sc:List Int)(i:Int)(m:Nat)(base:Int)(M:MH){d:D}{as vs ns:List Str}{ot:Str}(P:Pool M d as vs ns ot){Q:D->MH->Prop}(h0:0<=i)(h1:i<=50000)(hm:m<=100)(hb:0<=base)
  (q:∀ (ws:List Qt) (j:Nat) (M':MH),(∀ s∈ws,s.Ok as vs base)->ws.length=m->(ws.map (·.n)).Nodup->Gr M M'->M'[j]?=some (.lst (ws.map qtD))->Q (.ob j) M') :
  W ((cx srt (k + 5)).fn "_law_quietings" [.fl (sc.map .int),.int i,.int m,.int base,d]) M Q:=by
 have big:=line_big;rw[f__law_quietings,wf,b__law_quietings];walk_at "wq";refine⟨by walk_at "o",⟨by walk_at "o",by walk_at "o"⟩,?_⟩;refine w_loop (fun n ρ M'=>Gr M M'/\(∃ ws:List Qt,M'[M.length]?=some (.lst (ws.map qtD))/\(∀ s∈ws,s.Ok as vs base)/\ws.length=n/\(ws.map (·.n)).Nodup/\∀ s∈ws,s.n<=2 * (n:Int))/\∃ x6 x7 x8 x9 x10,ρ=[some (.fl (sc.map .int)),some (.int i),some (.int m),some (.int base),some d,some (.ob M.length),x6,x7,x8,x9,x10])
  ⟨Gr.app _ _,⟨[],get_new _ _,by simp,rfl,by simp,by simp⟩,none,none,none,none,none,rfl⟩ (fun _ _ _ _=>trivial) ?_ ?_
 ·rintro n e ρ M1 hd ⟨g,⟨ws,hws,hok,hlen,hnd,hle⟩,x6,x7,x8,x9,x10,rfl⟩
  obtain⟨rfl,hn⟩:=rng_get hd;have hnm:n < m:=by walk_at "o"
  walk_at "wq";refine⟨.inl ⟨by walk_at "o",by walk_at "o"⟩,pick_w (k:=k + 2) sc _ _ M1 (by walk_at "o") (by walk_at "o") (by walk_at "o") ?_⟩;generalize hat:i + 12 * (0 + (n:Int))=at_;have hat0:0<=at_:=by walk_at "o"
  have hat1:at_<=60000:=by walk_at "o"
  obtain⟨c,hc,hc6⟩:=pick_nat sc (at_ + 8) (m:=6) (by walk_at "o");rw[show ((6:Nat):Int)=6 from rfl]at hc;rw[hc];walk_at "wq";generalize hcame:max 0 (base + 2 - (c:Int))=fst;have came0:0<=fst:=by walk_at "o"
  have came1:fst<=base + 2:=by walk_at "o"
  refine pick_w (k:=k + 2) sc _ _ M1 (by walk_at "o") (by walk_at "o") (by walk_at "o") ?_;obtain⟨g1,hg1,hg6⟩:=pick_nat sc (at_ + 9) (m:=8) (by walk_at "o");rw[show ((8:Nat):Int)=8 from rfl]at hg1;rw[hg1];walk_at "wq";generalize hlst:max 0 (fst - 1 + (g1:Int))=lst;have lst0:0<=lst:=by walk_at "o"
  have lst1:lst<=base + 10:=by walk_at "o"
  refine pick_w (k:=k + 2) sc _ _ M1 (by walk_at "o") (by walk_at "o") (by walk_at "o") ?_;obtain⟨a,ha,ha3⟩:=pick_nat sc (at_ + 10) (m:=3) (by walk_at "o");rw[show ((3:Nat):Int)=3 from rfl]at ha;rw[ha];walk_at "wq";refine askings_w (k:=k) sc _ a M1 (P.keep g) (by walk_at "o") (by walk_at "o") (by walk_at "o") fun xs M2 hxs hxl g2=>?_;walk_at "wq";refine⟨_,g2.keep _ _ hws,.inl ⟨by walk_at "o",by walk_at "o"⟩,pick_w (k:=k + 2) sc _ _ _ (by walk_at "o") (by walk_at "o") (by walk_at "o") ?_⟩;obtain⟨w1,hw1,hw12⟩:=pick_nat sc (at_ + 11) (m:=2) (by walk_at "o");rw[show ((2:Nat):Int)=2 from rfl]at hw1;rw[hw1];walk_at "wq";refine⟨by walk_at "o",_,g2.keep _ _ hws,by rw[zz];walk_at "o",(g.trans g2).set (zo _) _,?_,_,_,_,_,_,rfl⟩;refine⟨ws++[⟨2 * (0 + (n:Int)) + 1 + (w1:Int),xs,fst,lst⟩],?_,fun s hs=>?_,by rw[zp,hlen];rfl,?_,fun s hs=>?_⟩
  ·rw[set_get (g2.keep _ _ hws),zq];rfl
  ·rcases zF.mp hs with h | h
   ·exact hok s h
   ·rw[zd.mp h]
    exact⟨by show 1<=2 * (0 + (n:Int)) + 1 + (w1:Int);walk_at "o",by show 2 * (0 + (n:Int)) + 1 + (w1:Int)<=100000;walk_at "o",hxs,by show xs.length<=2;walk_at "o",came0,came1,lst0,lst1⟩
  ·rw[zq,yd]
   refine⟨hnd,by simp,fun a ha b hb=>?_⟩;obtain⟨s,hs,rfl⟩:=zC.mp ha;simp at hb
   have:=hle s hs
   walk_at "o"
  ·rcases zF.mp hs with h | h
   ·have:=hle s h;walk_at "o"
   ·rw[zd.mp h]
    show 2 * (0 + (n:Int)) + 1 + (w1:Int)<=_;walk_at "o"
 ·rintro ρ M1 ⟨g,⟨ws,hws,hok,hlen,hnd,hle⟩,x6,x7,x8,x9,x10,rfl⟩
  rw[rng_len]at hlen;walk_at "wq";refine⟨.inl ⟨by walk_at "o",by walk_at "o"⟩,mixedUp_w (k:=k + 1) sc _ M1 _ _ (by walk_at "o") (by walk_at "o") (by rw[zz];walk_at "o") hws fun es j M2 hp g2 _ hj=>?_⟩;obtain⟨vs',rfl,hv⟩:=map_of_perm hp;walk_at "wq";exact q vs' j M2 (fun s hs=>hok s (hv.mem_iff.mp hs)) (by rw[hv.length_eq];walk_at "o") ((hv.map _).nodup_iff.mpr hnd) (g.trans g2) hj
noncomputable def standsB (s:Say)(t:Int):Bool:=decide (s.came<=t)&&(match s.gone with
 | none=>true
 | some g=>decide (t < g))
noncomputable def forceB (s:Qt)(t:Int):Bool:=decide (s.fst<=t)&&decide (t < s.lst)
theorem stands_w (k:Nat)(M:MH)(s:Say)(t:Int){Q:D->MH->Prop}(q:Q (.bl (standsB s t)) M):W ((cx srt (k + 1)).fn "stands" [sayD s,.int t]) M Q:=by
 rw[f_stands,wf,b_stands];unfold sayD;walk_at "wq";unfold standsB at q;refine⟨fun h=>?_,fun h=>?_⟩
 ·rw[h]at q
  cases hg:s.gone with
  | none=>rw[hg]at q;exact⟨rfl,fun _=>q,fun h=>by cases h⟩
  | some g =>
   rw[hg]at q;refine⟨rfl,fun h=>(by cases h),fun _=>?_⟩;unfold optD;walk_at "wq";exact q
 ·rw[h]at q;exact q
theorem inForce_w (k:Nat)(M:MH)(s:Qt)(t:Int){Q:D->MH->Prop}(q:Q (.bl (forceB s t)) M):W ((cx srt (k + 1)).fn "in_force" [qtD s,.int t]) M Q:=by
 rw[f_in_force,wf,b_in_force];unfold qtD;walk_at "wq";unfold forceB at q;refine⟨fun h=>?_,fun h=>?_⟩
 ·rw[h]at q;exact q
 ·rw[h]at q;exact q
end
end Law
namespace Law
open PySem L3
section
variable {srt:List D->Option (List D)}
noncomputable def valV (ps:List (Str×Str))(n:Str):Str:=(look ps n).getD ""
noncomputable def hasN (ps:List (Str×Str))(n:Str):Bool:=ps.any fun p=>p.1==n
noncomputable def meetB (a:Ask)(ps:List (Str×Str)):Bool:=if a.w = "is" then a.vs.contains (valV ps a.n) else if a.w = "no" then !a.vs.contains (valV ps a.n) else if a.w = "there" then hasN ps a.n else !hasN ps a.n
noncomputable def meetA (xs:List Ask)(ps:List (Str×Str)):Bool:=xs.all fun a=>meetB a ps
theorem hasName_w (k:Nat)(M:MH)(ps:List (Str×Str))(n:Str)(hl:ps.length<=1000){Q:D->MH->Prop}(q:∀ M',Gr M M'->Q (.bl (hasN ps n)) M'):W ((cx srt (k + 1)).fn "has_name" [.tup (ps.map prD),.str n]) M Q:=by
 have big:=line_big;rw[f_has_name,wf,b_has_name];walk_at "wq";refine⟨by rw[zz];walk_at "o",?_⟩;refine w_compI (fun j ys M'=>M'=M/\ys=((ps.take j).map fun p=>p.1==n).map D.bl) ⟨rfl,rfl⟩ (fun _ _ _ _=>trivial) ?_ ?_
 ·rintro j d ys M' hd ⟨rfl,rfl⟩
  rw[zu]at hd;obtain⟨p,hp,rfl⟩:=zt.mp hd;unfold prD;walk_at "wq";rw[zG,hp];simp
 ·rintro ys M' ⟨rfl,rfl⟩
  rw[zz,zI];walk_at "wq";refine⟨_,get_new _ _,_,mapM_bools _,?_⟩;rw[wT];exact q _ (Gr.app _ _)
theorem look_none {ps:List (Str×Str)}{n:Str}(h:∀ p∈ps,p.1≠n):look ps n=none:=by
 unfold look;rw[xW.mpr (fun p hp=>by simpa using h p hp)];rfl
theorem valueIn_w (k:Nat)(M:MH)(ps:List (Str×Str))(n:Str){Q:D->MH->Prop}(q:Q (.str (valV ps n)) M):W ((cx srt (k + 1)).fn "value_in" [.tup (ps.map prD),.str n]) M Q:=by
 rw[f_value_in,wf,b_value_in];walk_at "wq";refine w_loop (fun j ρ M'=>M'=M/\(∀ p∈ps.take j,p.1≠n)/\∃ x,ρ=[some (.tup (ps.map prD)),some (.str n),x]) ⟨rfl,by simp,none,rfl⟩ (fun _ _ _ _=>trivial) ?_ ?_
 ·rintro j d ρ M' hd ⟨rfl,hne,x,rfl⟩
  rw[zu]at hd;obtain⟨p,hp,rfl⟩:=zt.mp hd;obtain⟨hlt,hg⟩:=zr.mp hp;unfold prD;walk_at "wq";refine⟨fun h=>?_,fun h=>⟨fun y hy=>?_,_,rfl⟩⟩
  ·have e:look ps n=some p.2:=by
    unfold look
    have:ps.find? (fun p=>decide (p.1=n))=some p:=by
     rw[List.find?_eq_some_iff_getElem];refine⟨by simpa using h,j,hlt,hg,fun i hi=>?_⟩;simpa using hne ps[i] (List.mem_take_iff_getElem.mpr ⟨i,by walk_at "o",rfl⟩)
    rw[this];rfl
   unfold valV at q;rw[e]at q;exact q
  ·rw[zG,hp]at hy
   rcases zF.mp hy with hy | hy
   ·exact hne y hy
   ·simp at hy
    subst hy;simpa using h
 ·rintro ρ M' ⟨rfl,hne,x,rfl⟩
  rw[zz,zI]at hne;walk_at "wq";unfold valV at q;rw[look_none hne]at q;exact q
theorem any_str {vs:List Str}{x:Str}:((vs.map D.str).any fun d=>eqF d (.str x))=vs.contains x:=by
 rw[wT,List.contains_eq_any_beq];congr 1;funext y;show (y==x)=(x==y);exact Bool.beq_comm
theorem in_strs {M:MH}{vs:List Str}{x:Str}:inL M (.str x) (vs.map D.str)=some (vs.contains x):=by
 rw[inL_flat rfl (by rw[xz,zV];exact fun _ _=>rfl),any_str]
theorem meets_w (k:Nat)(M:MH)(a:Ask)(ps:List (Str×Str))(hl:ps.length<=1000){Q:D->MH->Prop}(q:∀ M',Gr M M'->Q (.bl (meetB a ps)) M'):W ((cx srt (k + 2)).fn "meets" [askD a,.tup (ps.map prD)]) M Q:=by
 rw[f_meets,wf,b_meets];unfold askD;unfold meetB at q;walk_at "wq";refine⟨fun h1=>?_,fun h1=>⟨fun h2=>?_,fun h2=>⟨fun h3=>?_,fun h3=>?_⟩⟩⟩
 ·rw[if_pos (by simpa using h1)]at q
  walk_at "wq";refine valueIn_w k M ps a.n ?_;walk_at "wq";rw[in_strs];exact⟨_,rfl,q _ Gr.refl⟩
 ·rw[if_neg (by simpa using h1),if_pos (by simpa using h2)]at q
  walk_at "wq";refine valueIn_w k M ps a.n ?_;walk_at "wq";rw[in_strs];exact⟨_,rfl,q _ Gr.refl⟩
 ·rw[if_neg (by simpa using h1),if_neg (by simpa using h2),if_pos (by simpa using h3)]at q
  walk_at "wq";refine hasName_w k M ps a.n hl fun M' g=>?_;walk_at "wq";exact q _ g
 ·rw[if_neg (by simpa using h1),if_neg (by simpa using h2),if_neg (by simpa using h3)]at q
  walk_at "wq";refine hasName_w k M ps a.n hl fun M' g=>?_;walk_at "wq";exact q _ g
theorem meetsAll_w (k:Nat)(M:MH)(xs:List Ask)(ps:List (Str×Str))(hx:xs.length<=1000)(hl:ps.length<=1000){Q:D->MH->Prop}(q:∀ M',Gr M M'->Q (.bl (meetA xs ps)) M'):W ((cx srt (k + 3)).fn "meets_all" [.tup (xs.map askD),.tup (ps.map prD)]) M Q:=by
 have big:=line_big;rw[f_meets_all,wf,b_meets_all];walk_at "wq";refine⟨by rw[zz];walk_at "o",?_⟩;refine w_compI (fun j ys M'=>Gr M M'/\ys=((xs.take j).map fun a=>meetB a ps).map D.bl) ⟨Gr.refl,rfl⟩ (fun _ _ _ _=>trivial) ?_ ?_
 ·rintro j d ys M' hd ⟨g,rfl⟩
  rw[zu]at hd;obtain⟨a,ha,rfl⟩:=zt.mp hd;walk_at "wq";refine meets_w k M' a ps hl fun M2 g2=>?_;rw[zG,ha];exact⟨g.trans g2,by simp⟩
 ·rintro ys M' ⟨g,rfl⟩
  rw[zz,zI];walk_at "wq";refine⟨_,get_new _ _,_,mapM_bools _,?_⟩;rw[xz];exact q _ (g.snoc _)
end
end Law
namespace Law
open PySem L3
section
variable {srt:List D->Option (List D)}
structure Good (ps:List (Str×Str)):Prop where
 nd:(ps.map (·.1)).Nodup
 ne:∀ p∈ps,p.2≠""
 len:ps.length<=1000
theorem has_val {ps:List (Str×Str)}(G:Good ps)(n:Str):(!(valV ps n==""))=hasN ps n:=by
 unfold valV hasN look;cases h:ps.find? (fun p=>decide (p.1=n)) with
 | none =>
  have h':=xW.mp h
  have:ps.any (fun p=>p.1==n)=false:=by
   rw[xY];exact fun p hp=>by simpa using h' p hp
  rw[this];rfl
 | some p =>
  have h1:=List.find?_some h;have h2:=List.mem_of_find?_eq_some h
  have:ps.any (fun p=>p.1==n)=true:=xn.mpr ⟨p,h2,by simpa using h1⟩
  rw[this]
  have:=G.ne p h2
  simpa using this
theorem pairs_kv (ps:List (Str×Str)):kvPairs (ps.map prD)=some (kvsOf ps):=by
 induction ps with
 | nil=>rfl
 | cons p r ih =>
  show (match kyD (.str p.1),kvPairs (r.map prD) with
   | some k,some kvs=>some ((k,D.str p.2)::kvs)
   | _,_=>none)=_
  rw[ih];rfl
theorem puts_of:∀ (ps qs:List (Str×Str)),((qs++ps).map (·.1)).Nodup->kvPuts (kvsOf qs) (kvsOf ps)=kvsOf (qs++ps)
 | [],qs,_=>by rw[zT];rfl
 | p::r,qs,h=>by
  show kvPuts (kvPut (kvsOf qs) (.inr p.1) (.str p.2)) (kvsOf r)=_;have hn:(qs.any fun q=>decide (q.1=p.1))=false:=by
   rw[xY];intro q hq;rw[zq,yd]at h
   have:=h.2.2 q.1 (zC.mpr ⟨q,hq,rfl⟩) p.1 (by simp)
   simpa using this
  have e:putS qs p.1 p.2=qs++[p]:=by
   unfold putS;rw[hn];rfl
  rw[kvPut_of,e,puts_of r (qs++[p]) (by simpa using h)];simp
theorem dict_of {ps:List (Str×Str)}(G:Good ps):kvPuts [] (kvsOf ps)=kvsOf ps:=puts_of ps [] (by simpa using G.nd)
theorem get_of (ps:List (Str×Str))(n:Str):(kvGet (kvsOf ps) (.inr n)).getD (.str "")=.str (valV ps n):=by
 rw[kvGet_of];unfold valV;cases look ps n <;> rfl
theorem met_n (k:Nat)(M:MH)(a:Ask)(ps:List (Str×Str))(G:Good ps){Q:D->MH->Prop}(q:Q (.bl (meetB a ps)) M):W ((cx srt (k + 1)).fn "_law_met" [askD a,.str (valV ps a.n)]) M Q:=by
 rw[f__law_met,wf,b__law_met];unfold askD;unfold meetB at q;walk_at "wq";refine⟨fun h1=>?_,fun h1=>⟨fun h2=>?_,fun h2=>?_⟩⟩
 ·rw[if_pos (by simpa using h1)]at q
  walk_at "wq";rw[in_strs];exact⟨_,rfl,q⟩
 ·rw[if_neg (by simpa using h1),if_pos (by simpa using h2)]at q
  walk_at "wq";rw[in_strs];exact⟨_,rfl,q⟩
 ·rw[if_neg (by simpa using h1),if_neg (by simpa using h2)]at q
  have e:((!(valV ps a.n==""))==(a.w=="there"))=(if a.w = "there" then hasN ps a.n else !hasN ps a.n):=by
   rw[has_val G];split
   ·rename_i h;rw[h];simp
   ·rename_i h
    have:(a.w=="there")=false:=by simpa using h
    rw[this];cases hasN ps a.n <;> rfl
  walk_at "wq";have e':=e;rw[<- e']at q;exact q
theorem lets_n (k:Nat)(M:MH)(xs:List Ask)(hx:xs.length<=1000)(ps:List (Str×Str))(G:Good ps){Q:D->MH->Prop}(q:∀ M',Gr M M'->Q (.bl (meetA xs ps)) M'):W ((cx srt (k + 2)).fn "_law_lets" [.tup (xs.map askD),.tup (ps.map prD)]) M Q:=by
 have big:=line_big;rw[f__law_lets,wf,b__law_lets];walk_at "wq";refine⟨_,pairs_kv ps,?_⟩;rw[dict_of G];generalize hM1:M++[MO.dic (kvsOf ps)]=M1;have g1:Gr M M1:=hM1 ▸ Gr.app _ _;have h1:M1[M.length]?=some (.dic (kvsOf ps)):=hM1 ▸ get_new _ _;clear hM1;generalize M.length=jd at h1 ⊢;walk_at "wq";refine⟨by rw[zz];walk_at "o",?_⟩;refine w_compI (fun j ys M'=>M'=M1/\ys=((xs.take j).filter fun a=>!meetB a ps).map askD) ⟨rfl,rfl⟩ (fun _ _ _ _=>trivial) ?_ ?_
 ·rintro j d ys M' hd ⟨rfl,rfl⟩
  rw[zu]at hd;obtain⟨a,ha,rfl⟩:=zt.mp hd;have e:askD a=.tup [.str a.w,.str a.n,.tup (a.vs.map .str)]:=rfl;rw[zG,ha,yv,zq];walk_at "wq";refine⟨_,h1,?_⟩;rw[e];walk_at "wq";refine⟨_,h1,?_⟩;rw[get_of];refine met_n k M' a ps G ?_;walk_at "wq";refine⟨fun h=>?_,fun h=>?_⟩
  ·simp[h,e]
  ·simp[h]
 ·rintro ys M' ⟨rfl,rfl⟩
  rw[zz,zI];walk_at "wq";refine⟨by walk_at "o",?_⟩;rw[p_eq];refine⟨_,eo_nil ((Gr.app _ _).keep _ _ (get_new _ _)) (get_new _ _),?_⟩;have e:(List.map askD (xs.filter fun a=>!meetB a ps)).isEmpty=meetA xs ps:=by
   unfold meetA;rw[xF,yI];simp[yc]
  rw[e];exact q _ ((g1.snoc _).snoc _)
theorem lets_w (k:Nat)(M:MH)(xs:List Ask){as vs:List Str}(_:∀ a∈xs,a.Ok as vs)(hx:xs.length<=1000)(ps:List (Str×Str))(G:Good ps){Q:D->MH->Prop}(q:∀ M',Gr M M'->Q (.bl (meetA xs ps)) M'):W ((cx srt (k + 2)).fn "_law_lets" [.tup (xs.map askD),.tup (ps.map prD)]) M Q:=lets_n k M xs hx ps G q
end
end Law
namespace Law
open PySem L3
section
variable {srt:List D->Option (List D)}
inductive Tr where
 | mk (xs:List Ask) (on:Bool) (b:List Str) (p r:Int) (rows:List Tr)
mutual
noncomputable def trD:Tr->D
 | .mk xs on b p r rows=>.tup [.tup (xs.map askD),.bl on,.tup (b.map .str),.int p,.int r,.tup [],.tup (trDs rows)]
noncomputable def trDs:List Tr->List D
 | []=>[]
 | t::ts=>trD t::trDs ts
end
theorem trDs_eq:∀ ts:List Tr,trDs ts=ts.map trD
 | []=>rfl
 | t::ts=>by rw[trDs,trDs_eq ts];rfl
noncomputable def asksT:Tr->List Ask
 | .mk xs _ _ _ _ _=>xs
noncomputable def onT:Tr->Bool
 | .mk _ on _ _ _ _=>on
noncomputable def byT:Tr->List Str
 | .mk _ _ b _ _ _=>b
noncomputable def rowsT:Tr->List Tr
 | .mk _ _ _ _ _ rows=>rows
noncomputable def Fit:Nat->Tr->Prop
 | 0,_=>False
 | n + 1,t=>((asksT t).length<=3/\(byT t).length<=3)/\(rowsT t).length<=5/\∀ s∈rowsT t,Fit n s
noncomputable def goL (rec:Tr->List Int->List (List Int))(m:Tr->Bool)(p:List Int):Nat->List Tr->List (List Int)
 | _,[]=>[]
 | k,t::ts=>if m t=true then rec t (p++[(k:Int)])++(if onT t=true then goL rec m p (k + 1) ts else []) else goL rec m p (k + 1) ts
noncomputable def takenV (m:Tr->Bool):Nat->Tr->List Int->List (List Int)
 | 0,_,_=>[]
 | n + 1,t,p=>if (goL (takenV m n) m p 0 (rowsT t)).isEmpty=true then [p] else goL (takenV m n) m p 0 (rowsT t)
noncomputable def plD (p:List Int):D:=.tup (p.map .int)
theorem fit_rows {n:Nat}{t:Tr}(h:Fit (n + 1) t):(byT t).length<=3/\(asksT t).length<=4/\(rowsT t).length<=5/\∀ s∈rowsT t,Fit n s :=
 ⟨h.1.2,xv h.1.1,h.2.1,h.2.2⟩
theorem trD_by (t:Tr):∃ c p r,trD t=.tup [.tup ((asksT t).map askD),.bl (onT t),.tup ((byT t).map .str),p,r,c,.tup ((rowsT t).map trD)]:=by
 cases t with
 | mk xs on b p r rows=>exact⟨_,_,_,by rw[trD,trDs_eq];rfl⟩
theorem trD_eq (t:Tr):∃ b c p r,trD t=.tup [.tup ((asksT t).map askD),.bl (onT t),b,p,r,c,.tup ((rowsT t).map trD)]:=by
 cases t with
 | mk xs on b p r rows=>exact⟨_,_,_,_,by rw[trD,trDs_eq];rfl⟩
theorem goL_len {rec:Tr->List Int->List (List Int)}{m:Tr->Bool}{p:List Int}{B:Nat}:∀ (ts:List Tr) (k:Nat),(∀ t∈ts,∀ p',(rec t p').length<=B)->(goL rec m p k ts).length<=ts.length * B
 | [],_,_=>zO _
 | t::ts,k,h=>by
  have h1:=h t zD (p++[(k:Int)]);have h2:=goL_len (rec:=rec) (m:=m) (p:=p) ts (k + 1) fun s hs=>h s (zK _ hs);rw[goL,zM,wV];split
  ·rw[zp]
   split
   ·walk_at "o"
   ·simp only[yg];walk_at "o"
  ·walk_at "o"
theorem takenV_len {m:Tr->Bool}:∀ (n:Nat) (t:Tr) (p:List Int),Fit n t->(takenV m n t p).length<=5 ^ n
 | 0,_,_,h=>h.elim
 | n + 1,t,p,h=>by
  obtain⟨_,_,h3,h4⟩:=fit_rows h;have h1:=goL_len (rec:=takenV m n) (m:=m) (p:=p) (rowsT t) 0 fun s hs p'=>takenV_len n s p' (h4 s hs);have h2:=yH (5 ^ n) h3;have h0:1<=5 ^ n:=Nat.one_le_pow _ _ (by decide);rw[takenV,Nat.pow_succ];split
  ·show 1<=_;walk_at "o"
  ·walk_at "o"
noncomputable def szT:Nat->Tr->Nat
 | 0,_=>0
 | n + 1,t=>1 + ((rowsT t).map (szT n)).sum
theorem goL_sz {rec:Tr->List Int->List (List Int)}{m:Tr->Bool}{p:List Int}{B:Tr->Nat}:∀ (ts:List Tr) (k:Nat),(∀ t p',(rec t p').length<=B t)->(goL rec m p k ts).length<=(ts.map B).sum
 | [],_,_=>zO _
 | t::ts,k,h=>by
  have h1:=h t (p++[(k:Int)]);have h2:=goL_sz (m:=m) (p:=p) ts (k + 1) h;rw[goL,ze,yn];split
  ·rw[zp]
   split
   ·walk_at "o"
   ·simp only[yg];walk_at "o"
  ·walk_at "o"
theorem takenV_sz {m:Tr->Bool}:∀ (n:Nat) (t:Tr) (p:List Int),(takenV m n t p).length<=szT n t
 | 0,_,_=>zO _
 | n + 1,t,p=>by
  have h1:=goL_sz (rec:=takenV m n) (m:=m) (p:=p) (rowsT t) 0 fun s p'=>takenV_sz n s p';rw[takenV,szT];split
  ·show 1<=_;walk_at "o"
  ·walk_at "o"
noncomputable def mQ (qs:List (Str×Str))(t:Tr):Bool:=meetA (asksT t) qs
theorem takenFrom_w (qs:List (Str×Str))(lq:qs.length<=1000):∀ (n k:Nat) (M:MH) (t:Tr) (p:List Int),Fit n t->n<=5->p.length + n<=100->∀ {Q:D->MH->Prop} (_:∀ (j:Nat) (M':MH),Gr M M'->M.length<=j->M'[j]?=some (.lst ((takenV (mQ qs) n t p).map plD))->Q (.ob j) M'),
  W ((cx srt (k + n + 4)).fn "taken_from" [trD t,plD p,.tup (qs.map prD)]) M Q
 | 0,_,_,_,_,h,_,_,_,_=>h.elim
 | n + 1,k,M,t,p,fit,hn5,hpn,Q,q=>by
  have big:=line_big;obtain⟨hok,hxl,hrl,hfit⟩:=fit_rows fit;obtain⟨eb,ec,ep,er,et⟩:=trD_eq t;have B5:∀ s∈rowsT t,∀ p',(takenV (mQ qs) n s p').length<=625:=fun s hs p'=>zH (takenV_len n s p' (hfit s hs)) (zH (wF (by decide) (show n<=4 by walk_at "o")) (by decide));have fin:∀ (M':MH) (acc:List (List Int)) (x4 x5:Option D),Gr M M'->M'[M.length]?=some (.lst (acc.map plD))->goL (takenV (mQ qs) n) (mQ qs) p 0 (rowsT t)=acc ->
    W (semSs (cx srt (k + n + 4)) (dropS 2 b_taken_from) [some (trD t),some (plD p),some (.tup (qs.map prD)),some (.ob M.length),x4,x5]) M' (endF Q):=fun M' acc x4 x5 g h e=>by
   simp only[b_taken_from,drop_s,drop_0];walk_at "wq";refine⟨_,h,?_⟩;walk_at "wq";have et:takenV (mQ qs) (n + 1) t p=if acc.isEmpty=true then [p] else acc:=by rw[takenV,e]
   refine⟨fun z=>?_,fun z=>?_⟩
   ·have hne:acc.isEmpty=false:=by
     cases acc with
     | nil=>cases z
     | cons _ _=>rfl
    rw[hne]at et;exact q _ _ g (zo _) (by rw[et];exact h)
   ·have hne:acc.isEmpty=true:=by
     cases acc with
     | nil=>rfl
     | cons _ _=>cases z
    rw[hne]at et;refine⟨by walk_at "o",q _ _ (g.snoc _) g.len ?_⟩;rw[et];exact get_new _ _
  simp only[b_taken_from,drop_s,drop_0]at fin;rw[show k + (n + 1) + 4=k + n + 4 + 1 by walk_at "o",f_taken_from,wf,b_taken_from];walk_at "wq";refine⟨by walk_at "o",?_⟩;rw[et];walk_at "wq";rw[<- et];refine w_loopP (fun m ρ M'=>Gr M M'/\(∃ acc:List (List Int),M'[M.length]?=some (.lst (acc.map plD))/\goL (takenV (mQ qs) n) (mQ qs) p 0 (rowsT t)=acc++goL (takenV (mQ qs) n) (mQ qs) p m ((rowsT t).drop m)/\acc.length<=m * 625) /\
   ∃ x4 x5,ρ=[some (trD t),some (plD p),some (.tup (qs.map prD)),some (.ob M.length),x4,x5]) ⟨Gr.app _ _,⟨[],get_new _ _,rfl,zO _⟩,_,_,rfl⟩ (fun _ _ _ _=>trivial) ?_ ?_
  ·rintro m d ρ M1 hd ⟨g1,⟨acc,h1,e1,l1⟩,x4,x5,rfl⟩
   obtain⟨x,hx,rfl⟩:=enumG hd;rw[zu]at hx;obtain⟨s,hs,rfl⟩:=zt.mp hx;obtain⟨hlt,hsg⟩:=zr.mp hs;have hsm:=zn hs;rw[yx hlt,hsg]at e1;obtain⟨fb,fc,fp,fr,fs⟩:=trD_eq s;refine⟨_,_,rfl,?_⟩;walk_at "wq";rw[fs];walk_at "wq";rw[<- fs];refine meetsAll_w (k + n + 1) M1 (asksT s) qs (by have:=(fit_rows (n:=n - 1) (t:=s) (by have:=hfit s hsm;cases n with | zero=>exact this.elim | succ n=>exact this)).2.1;walk_at "o") lq fun M2 g2=>?_;have g2':=g1.trans g2;have h2:=g2.keep _ _ h1;walk_at "wq";refine⟨fun hm=>?_,fun hm=>⟨g2',⟨acc,h2,?_,zH l1 (yH _ (yQ m))⟩,_,_,rfl⟩⟩
   ·have em:mQ qs s=true:=hm
    rw[goL,if_pos em]at e1;have epl:D.tup (p.map D.int++[D.int m])=plD (p++[(m:Int)]):=by unfold plD;rw[zq];rfl
    walk_at "wq";refine⟨_,h2,by walk_at "o",?_⟩;have ep:plD p=.tup (p.map .int):=rfl;rw[ep];walk_at "wq";refine⟨by rw[zz];show _ + 1<=_;walk_at "o",?_⟩;rw[epl];refine takenFrom_w qs lq n k M2 s (p++[(m:Int)]) (hfit s hsm) (by walk_at "o") (by rw[zp];show _ + 1 + _<=_;walk_at "o") fun j M3 g3 hj h3=>?_;have g3':=g2'.trans g3;have h3a:=g3.keep _ _ h2;have l3:=B5 s hsm (p++[(m:Int)]);have hjl:M.length < M2.length:=(zr.mp h2).1;walk_at "wq";refine⟨_,h3,_,h3a,⟨by rw[zz,zz];exact zH (vj (zH l1 (yH _ (show m<=5 by walk_at "o"))) l3) (zH (by decide) big),?_⟩,?_⟩
    ·show (j==M.length)=false
     simp;walk_at "o"
    generalize hT:takenV (mQ qs) n s (p++[(m:Int)])=T at e1 l3 ⊢;have h4:(M3.set M.length (MO.lst (acc.map plD++T.map plD)))[M.length]?=some (.lst ((acc++T).map plD)):=by rw[zQ (by have:=g3.len;walk_at "o"),zq]
    have g4:Gr M (M3.set M.length (MO.lst (acc.map plD++T.map plD))):=g3'.set (zo _) _;generalize M3.set M.length (MO.lst (acc.map plD++T.map plD))=M4 at h4 g4 ⊢;rw[fs];walk_at "wq";rw[<- fs];refine⟨fun ho=>?_,fun ho=>?_⟩
    ·have ho:onT s=false:=by simpa using ho
     rw[ho,if_neg zi,zT]at e1;have t:=fin M4 (acc++T) (some (.int m)) (some (trD s)) g4 h4 e1;revert t;walk_at "wq";exact id
    ·have ho:onT s=true:=by simpa using ho
     rw[ho,if_pos rfl,<- yR]at e1;refine⟨g4,⟨acc++T,h4,e1,by rw[zp,wV];exact vj l1 l3⟩,_,_,rfl⟩
   ·have em:mQ qs s=false:=hm
    rw[e1,goL,if_neg (by rw[em];exact zi)]
  ·rintro ρ M1 ⟨g1,⟨acc,h1,e1,l1⟩,x4,x5,rfl⟩
   rw[enumN,zz,ym]at e1;have t:=fin M1 acc x4 x5 g1 h1 (by rw[e1];exact zT _);revert t;walk_at "wq";exact id
noncomputable def keyV (f:Str->Str)(t:Tr):D:=.tup ((byT t).map fun x=>.str (f x))
theorem keyOf_w (k:Nat)(M:MH)(t:Tr)(qs:List (Str×Str))(hb:(byT t).length<=4){Q:D->MH->Prop}(q:∀ M',Gr M M'->Q (keyV (valV qs) t) M'):W ((cx srt (k + 2)).fn "key_of" [trD t,.tup (qs.map prD)]) M Q:=by
 have big:=line_big;obtain⟨c,p,r,et⟩:=trD_by t;rw[f_key_of,wf,b_key_of];rw[et];walk_at "wq";rw[<- et];refine⟨by rw[zz];walk_at "o",?_⟩;refine w_compI (fun m ys M'=>M'=M/\ys=((byT t).take m).map fun x=>.str (valV qs x)) ⟨rfl,rfl⟩ (fun _ _ _ _=>trivial) ?_ ?_
 ·rintro m d ys M' hd ⟨rfl,rfl⟩
  rw[zu]at hd;obtain⟨x,hx,rfl⟩:=zt.mp hd;walk_at "wq";refine valueIn_w k M' qs x ?_;refine⟨rfl,?_⟩;rw[zG,hx,zq];rfl
 ·rintro ys M' ⟨rfl,rfl⟩
  rw[zz,zI];walk_at "wq";exact⟨_,get_new _ _,q _ (Gr.app _ _)⟩
noncomputable def subT:Tr->List Int->Option Tr
 | t,[]=>some t
 | t,i::p=>if i < 0 then none else match (rowsT t)[i.toNat]? with
  | some s=>subT s p
  | none=>none
theorem subT_cons {t s:Tr}{i:Int}{p:List Int}(h:subT t (i::p)=some s):∃ (n:Nat) (r:Tr),i=n/\(rowsT t)[n]?=some r/\subT r p=some s:=by
 unfold subT at h;split at h
 ·cases h
 ·rename_i hi
  split at h
  ·rename_i r hr
   exact⟨i.toNat,r,by walk_at "o",hr,h⟩
  ·cases h
theorem rowAt_w (k:Nat)(M:MH){n:Nat}(t s:Tr)(p:List Int)(h:subT t p=some s)(fit:Fit n t){Q:D->MH->Prop}(q:Q (trD s) M):W ((cx srt (k + 1)).fn "row_at" [trD t,plD p]) M Q:=by
 have big:=line_big;rw[f_row_at,wf,b_row_at,plD];walk_at "wq";refine w_loop (fun m ρ M'=>M'=M/\∃ r x3 n,subT r (p.drop m)=some s/\Fit n r/\ρ=[some (trD t),some (.tup (p.map .int)),some (trD r),x3]) ⟨rfl,t,_,n,h,fit,rfl⟩ (fun _ _ _ _=>trivial) ?_ ?_
 ·rintro m d ρ M' hd ⟨rfl,r,x3,n,hr,fr,rfl⟩
  rw[zu]at hd;obtain⟨i,hi,rfl⟩:=zt.mp hd;obtain⟨hlt,hg⟩:=zr.mp hi;rw[yx hlt,hg]at hr;obtain⟨j,r',rfl,hj,hs⟩:=subT_cons hr;cases n with
  | zero=>exact fr.elim
  | succ n =>
   obtain⟨_,_,h5,hf⟩:=fit_rows fr;have hjl:=(zr.mp hj).1;obtain⟨eb,ec,ep,er,et⟩:=trD_eq r;rw[et];walk_at "wq";refine⟨fun _=>⟨fun z=>?_,fun _=>?_⟩,fun z=>absurd (Int.natCast_nonneg j) (of_decide_eq_false z)⟩
   ·rw[zz]at z
    exact absurd z (by simp;walk_at "o")
   ·refine⟨_,atD_nat (by rw[zu,hj];rfl),r',_,n,hs,hf r' (zn hj),rfl⟩
 ·rintro ρ M' ⟨rfl,r,x3,n,hr,_,rfl⟩
  rw[zz,ym]at hr;cases hr;walk_at "wq";exact q
theorem goL_mem {rec:Tr->List Int->List (List Int)}{m:Tr->Bool}{p:List Int}:∀ (ts:List Tr) (k:Nat) (pl:List Int),pl∈goL rec m p k ts->∃ (i:Nat) (t:Tr),ts[i]?=some t/\pl∈rec t (p++[((k + i:Nat):Int)])
 | [],_,_,h=>by cases h
 | t::ts,k,pl,h=>by
  have go:pl∈goL rec m p (k + 1) ts->∃ (i:Nat) (s:Tr),(t::ts)[i]?=some s/\pl∈rec s (p++[((k + i:Nat):Int)]):=fun h=>by
   obtain⟨i,s,h1,h2⟩:=goL_mem ts (k + 1) pl h;exact⟨i + 1,s,by simpa using h1,by rw[show k + (i + 1)=k + 1 + i by walk_at "o"];exact h2⟩
  rw[goL]at h;split at h
  ·rcases zF.mp h with h | h
   ·exact⟨0,t,rfl,h⟩
   ·split at h
    ·exact go h
    ·cases h
  ·exact go h
theorem taken_sub {m:Tr->Bool}:∀ (n:Nat) (t:Tr) (p pl:List Int),Fit n t->pl∈takenV m n t p->∃ q s n',pl=p++q/\subT t q=some s/\Fit (n' + 1) s
 | 0,_,_,_,h,_=>h.elim
 | n + 1,t,p,pl,h,hp=>by
  rw[takenV]at hp;split at hp
  ·rw[zd.mp hp]
   exact⟨[],t,n,(zT _).symm,rfl,h⟩
  ·obtain⟨i,s,h1,h2⟩:=goL_mem _ _ _ hp
   obtain⟨q,r,n',e,h3,h4⟩:=taken_sub n s _ pl (h.2.2 s (zn h1)) h2;refine⟨((0 + i:Nat):Int)::q,r,n',by rw[e,yR];rfl,?_,h4⟩;unfold subT;rw[if_neg (by walk_at "o"),show (((0 + i:Nat):Int)).toNat=i by walk_at "o",h1];exact h3
noncomputable abbrev Gp:=List Int×List Str
noncomputable def gkD (g:Gp):D:=.tup [plD g.1,.tup (g.2.map .str)]
noncomputable def rowOf (t:Tr)(p:List Int):Tr:=(subT t p).getD t
noncomputable def grpV (t:Tr)(ps:List (Str×Str))(p:List Int):Gp:=(p,(byT (rowOf t p)).map (valV ps))
noncomputable def groupsV (t:Tr)(ps:List (Str×Str)):List Gp:=(takenV (mQ ps) 5 t []).map (grpV t ps)
theorem groups_w (k:Nat)(M:MH)(t:Tr)(fit:Fit 5 t)(ps:List (Str×Str))(hl:ps.length<=1000){Q:D->MH->Prop}(q:∀ (j:Nat) (M':MH),Gr M M'->M.length<=j->M'[j]?=some (.lst ((groupsV t ps).map gkD))->Q (.ob j) M'):W ((cx srt (k + 11)).fn "groups_of" [trD t,.tup (ps.map prD)]) M Q:=by
 have big:=line_big;rw[f_groups_of,wf,b_groups_of];walk_at "wq";rw[f_taken,wf,b_taken];walk_at "wq";have e0:D.tup []=plD []:=rfl;rw[e0];refine⟨zO _,takenFrom_w ps hl 5 k M t [] fit (zo _) (by decide) fun j M1 g1 hj h1=>?_⟩;have hln:=takenV_len (m:=mQ ps) 5 t [] fit;walk_at "wq";refine⟨_,h1,by rw[zz];exact zH hln (zH (by decide) big),?_⟩;refine w_compI (fun m ys M'=>Gr M1 M'/\ys=(((takenV (mQ ps) 5 t []).take m).map fun p=>gkD (grpV t ps p))) ⟨Gr.refl,rfl⟩ (fun _ _ _ h=>h.1.keep _ _ h1) ?_ ?_
 ·rintro m d ys M' hd ⟨g,rfl⟩
  rw[zu]at hd;obtain⟨p,hp,rfl⟩:=zt.mp hd;obtain⟨p',s,n',e,hs,fs⟩:=taken_sub 5 t [] p fit (zn hp);have e:p=p':=e;subst e;have er:rowOf t p=s:=by unfold rowOf;rw[hs];rfl
  walk_at "wq";refine rowAt_w (k + 9) M' t s p hs fit ?_;walk_at "wq";refine keyOf_w (k + 8) M' s ps (xv (fit_rows fs).1) fun M2 g2=>?_;walk_at "wq";refine⟨by walk_at "o",g.trans g2,?_⟩;rw[zG,hp,zq];have ek:keyV (valV ps) s=.tup ((grpV t ps p).2.map .str):=by
   unfold keyV grpV;rw[er];show _=D.tup (((byT s).map (valV ps)).map .str);rw[zP];rfl
  rw[ek];rfl
 ·rintro ys M' ⟨g,rfl⟩
  rw[zz,zI];walk_at "wq";refine q _ _ ((g1.trans g).snoc _) (g1.trans g).len ?_;unfold groupsV;rw[zP];exact get_new _ _
end
end Law
namespace Law
open PySem L3
section
structure Nd where
 a:List Ask
 n:List Str
 d:Nat
 kids:List Nat
 b:Bool
 id:Nat
noncomputable def okN (x:Nd):Bool:=decide (x.d < 4)&&decide (x.kids.length < 5)
noncomputable def nd0:Nd:=⟨[],[],0,[],false,0⟩
noncomputable def kidU (x:Nd)(m:Nat):Nd:={ x with kids:=x.kids++[m] }
noncomputable def cntN:Nat->(Nat->List Nat)->Nat->Nat->Nat
 | 0,_,_,_=>0
 | f + 1,K,n,x=>(if n=x then 1 else 0) + ((K n).map fun c=>cntN f K c x).sum
noncomputable def sizN:Nat->(Nat->List Nat)->Nat->Nat
 | 0,_,_=>0
 | f + 1,K,n=>1 + ((K n).map (sizN f K)).sum
noncomputable def addK (K:Nat->List Nat)(u m:Nat):Nat->List Nat:=fun n=>K n++(if n=u then [m] else [])
theorem sum_le {α:Type}{f g:α->Nat}:∀ {l:List α},(∀ x∈l,f x<=g x)->(l.map f).sum<=(l.map g).sum
 | [],_=>zo _
 | x::l,h=>by
  have h1:=h x zD;have h2:=sum_le (l:=l) fun y hy=>h y (zK _ hy);rw[ze,ze,yn,yn];walk_at "o"
theorem sum_add {α:Type}{f g:α->Nat}:∀ {l:List α},(l.map fun x=>f x + g x).sum=(l.map f).sum + (l.map g).sum
 | []=>rfl
 | x::l=>by
  rw[ze,ze,ze,yn,yn,yn,sum_add];walk_at "o"
theorem cnt_s (f:Nat)(K:Nat->List Nat)(u m n x:Nat):cntN (f + 1) (addK K u m) n x=(if n=x then 1 else 0) + (((K n).map fun c=>cntN f (addK K u m) c x).sum + if n=u then cntN f (addK K u m) m x else 0):=by
 rw[cntN];unfold addK;rw[zq,xK];split <;> split <;> simp
theorem siz_s (f:Nat)(K:Nat->List Nat)(u m n:Nat):sizN (f + 1) (addK K u m) n=1 + (((K n).map (sizN f (addK K u m))).sum + if n=u then sizN f (addK K u m) m else 0):=by
 rw[sizN];unfold addK;rw[zq,xK];split <;> simp
section
variable {K:Nat->List Nat}{u m:Nat}(km:K m=[])(um:u≠m)
include km um
theorem cnt_m (f x:Nat):cntN f (addK K u m) m x<=1/\(x≠m->cntN f (addK K u m) m x=0):=by
 cases f with
 | zero=>exact⟨zO _,fun _=>rfl⟩
 | succ f =>
  rw[cnt_s,km,if_neg (Ne.symm um)];refine⟨by split <;> simp,fun h=>?_⟩;rw[if_neg (Ne.symm h)];rfl
theorem siz_m (f:Nat):sizN f (addK K u m) m<=1:=by
 cases f with
 | zero=>exact zO _
 | succ f =>
  rw[siz_s,km,if_neg (Ne.symm um)];exact zo _
theorem cnt_old (kl:∀ n,∀ c∈K n,c≠m):∀ (f n x:Nat),x≠m->cntN f (addK K u m) n x<=cntN f K n x
 | 0,_,_,_=>zo _
 | f + 1,n,x,h=>by
  have e:(if n=u then cntN f (addK K u m) m x else 0)=0:=by
   rw[(cnt_m km um f x).2 h];split <;> rfl
  have:=sum_le (l:=K n) (f:=fun c=>cntN f (addK K u m) c x) (g:=fun c=>cntN f K c x) fun c _=>cnt_old kl f c x h
  rw[cnt_s,cntN,e];walk_at "o"
theorem cnt_new (kl:∀ n,∀ c∈K n,c≠m):∀ (f n:Nat),n≠m->cntN f (addK K u m) n m<=cntN f K n u
 | 0,_,_=>zo _
 | f + 1,n,h=>by
  have h1:=(cnt_m km um f m).1
  have:=sum_le (l:=K n) (f:=fun c=>cntN f (addK K u m) c m) (g:=fun c=>cntN f K c u) fun c hc=>cnt_new kl f c (kl n c hc)
  rw[cnt_s,cntN,if_neg h];split
  ·walk_at "o"
  ·walk_at "o"
theorem siz_new (kl:∀ n,∀ c∈K n,c≠m):∀ (f n:Nat),sizN f (addK K u m) n<=sizN f K n + cntN f K n u
 | 0,_=>zo _
 | f + 1,n=>by
  have h1:=siz_m km um f
  have:=sum_le (l:=K n) (f:=sizN f (addK K u m)) (g:=fun c=>sizN f K c + cntN f K c u) fun c hc=>siz_new kl f c
  rw[sum_add]at this;rw[siz_s,sizN,cntN];split
  ·walk_at "o"
  ·walk_at "o"
end
noncomputable def kN (N:List Nd):Nat->List Nat:=fun n=>(N.getD n nd0).kids
structure Once (N:List Nd):Prop where
 one:∀ f x,cntN f (kN N) 0 x<=1
 siz:∀ f,sizN f (kN N) 0<=N.length + 1
theorem once_bare {N:List Nd}(h:kN N=fun _=>[]):Once N:=by
 refine⟨fun f x=>?_,fun f=>?_⟩
 ·rw[h]
  cases f with
  | zero=>exact zO _
  | succ f=>rw[cntN];split <;> simp
 ·rw[h]
  cases f with
  | zero=>exact zO _
  | succ f=>rw[sizN];simp
noncomputable def uW:Nat->Int
 | 0=>25
 | 1=>5
 | 2=>1
 | _=>0
noncomputable def gW (x:Nd):Int:=uW x.d - x.kids.length * uW (x.d + 1)
noncomputable def potN (N:List Nd):Int:=(N.map gW).sum
theorem pot_set:∀ {N:List Nd} {i:Nat} {x:Nd} (y:Nd),N[i]?=some x->potN (N.set i y)=potN N - gW x + gW y
 | [],_,_,_,h=>by cases h
 | z::N,0,x,y,h=>by
  cases h;unfold potN;rw[List.set_cons_zero,ze,ze,yn,yn];walk_at "o"
 | z::N,i + 1,x,y,h=>by
  have ih:=pot_set (N:=N) (i:=i) (x:=x) y (by simpa using h);unfold potN at ih ⊢;rw[List.set_cons_succ,ze,ze,yn,yn,ih];walk_at "o"
theorem pot_snoc (N:List Nd)(y:Nd):potN (N++[y])=potN N + gW y:=by
 unfold potN;rw[zq,xK];show _ + (gW y + 0)=_;rw[Int.add_zero]
theorem pot_le:∀ (N:List Nd),(∀ x∈N,okN x=false)->potN N<=N.length
 | [],_=>by decide
 | x::N,h=>by
  have ih:=pot_le N fun y hy=>h y (zK _ hy);have hx:=h x zD
  have:gW x<=1:=by
   unfold okN at hx;unfold gW;have hk:(x.d < 4->5<=x.kids.length):=fun h4=>by
    rw[decide_eq_true h4,wz]at hx
    have:=of_decide_eq_false hx
    walk_at "o"
   generalize x.d=d at hk ⊢;rcases d with _ | _ | _ | d
   ·have:=hk (by decide)
    simp only[uW];walk_at "o"
   ·have:=hk (by decide)
    simp only[uW];walk_at "o"
   ·simp only[uW]
    walk_at "o"
   ·have e1:uW (d + 1 + 1 + 1)=0:=rfl
    have e2:uW (d + 1 + 1 + 1 + 1)=0:=rfl;rw[e1,e2];walk_at "o"
  unfold potN at ih ⊢;rw[ze,yn,zM];walk_at "o"
structure NF (N:List Nd):Prop where
 id:∀ (a:Nat) (x:Nd),N[a]?=some x->x.id=a
 d4:∀ x∈N,x.d<=4
 k5:∀ x∈N,x.kids.length<=5
 kd:∀ x∈N,∀ c∈x.kids,∃ y,N[c]?=some y/\y.d=x.d + 1
 ak:∀ x∈N,x.a.length<=3/\x.n.length<=3
 r0:∀ x,N[0]?=some x->x.d=0
 on:Once N
theorem NF.nil:NF []:=⟨fun _ _ h=>(nomatch h),fun _ h=>(nomatch h),fun _ h=>(nomatch h),fun _ h=>(nomatch h),fun _ h=>(nomatch h),fun _ h=>(nomatch h),once_bare rfl⟩
theorem NF.set {N:List Nd}(f:NF N){i:Nat}{x y:Nd}(h:N[i]?=some x)(e1:y.id=x.id)(e2:y.d=x.d)(e3:y.a.length<=3)(e5:y.n=x.n)(e4:y.kids=x.kids):NF (N.set i y):=by
 have hx:=zn h;have get:∀ (a:Nat) (z:Nd),N[a]?=some z->∃ z',(N.set i y)[a]?=some z'/\z'.d=z.d:=fun a z hz=>by
  by_cases e:i=a
  ·subst e
   rw[h]at hz;cases hz;exact⟨y,zQ (lt_of_get h),e2⟩
  ·exact⟨z,by rw[zk e];exact hz,rfl⟩
 refine⟨fun a z hz=>?_,fun z hz=>?_,fun z hz=>?_,fun z hz c hc=>?_,fun z hz=>?_,fun z hz=>?_,?_⟩
 ·by_cases e:i=a
  ·subst e
   rw[zQ (lt_of_get h)]at hz;cases hz;rw[e1];exact f.id _ _ h
  ·rw[zk e]at hz
   exact f.id _ _ hz
 ·rcases yk hz with hz | rfl
  ·exact f.d4 z hz
  ·rw[e2];exact f.d4 x hx
 ·rcases yk hz with hz | rfl
  ·exact f.k5 z hz
  ·rw[e4];exact f.k5 x hx
 ·have:∃ z0∈N,z0.d=z.d/\c∈z0.kids:=by
   rcases yk hz with hz | rfl
   ·exact⟨z,hz,rfl,hc⟩
   ·exact⟨x,hx,e2.symm,e4 ▸ hc⟩
  obtain⟨z0,h1,h2,h3⟩:=this;obtain⟨w,h4,h5⟩:=f.kd z0 h1 c h3;obtain⟨w',h6,h7⟩:=get c w h4;exact⟨w',h6,by rw[h7,h5,h2]⟩
 ·rcases yk hz with hz | rfl
  ·exact f.ak z hz
  ·exact⟨e3,by rw[e5];exact(f.ak x hx).2⟩
 ·by_cases e:i=0
  ·subst e
   rw[zQ (lt_of_get h)]at hz;cases hz;rw[e2];exact f.r0 _ h
  ·rw[zk e]at hz
   exact f.r0 _ hz
 ·have ek:kN (N.set i y)=kN N:=by
   funext n;unfold kN;rw[zm,zm];by_cases e:i=n
   ·subst e
    rw[zQ (lt_of_get h),h];exact e4
   ·rw[zk e]
  exact⟨fun g x=>by rw[ek];exact f.on.one g x,fun g=>by rw[ek,zU];exact f.on.siz g⟩
theorem NF.add {N:List Nd}(f:NF N){u new:Nd}(h:N[u.id]?=some u)(hu:okN u=true)(n1:new.id=N.length)(n2:new.d=u.d + 1)(n3:new.kids=[])(n4:new.a.length<=3/\new.n.length<=3):NF (N.set u.id (kidU u N.length)++[new]):=by
 have hx:=zn h;have hd:=f.d4 u hx;unfold okN at hu;rw[zc]at hu;have u1:=of_decide_eq_true hu.1;have u2:=of_decide_eq_true hu.2;have get:∀ (a:Nat) (z:Nd),N[a]?=some z->∃ z',(N.set u.id (kidU u N.length)++[new])[a]?=some z'/\z'.d=z.d:=fun a z hz=>by
  rw[zA (by rw[zU];exact lt_of_get hz)];by_cases e:u.id=a
  ·subst e
   rw[h]at hz;cases hz;exact⟨_,zQ (lt_of_get h),rfl⟩
  ·exact⟨z,by rw[zk e];exact hz,rfl⟩
 have last:(N.set u.id (kidU u N.length)++[new])[N.length]?=some new:=by
  rw[zL (by rw[zU];exact zo _),zU,yZ];rfl
 have cs:∀ z∈N.set u.id (kidU u N.length)++[new],z∈N\/z=kidU u N.length\/z=new:=fun z hz=>by
  rcases zF.mp hz with hz | hz
  ·rcases yk hz with hz | hz
   ·exact .inl hz
   ·exact .inr (.inl hz)
  ·exact .inr (.inr (zd.mp hz))
 refine⟨fun a z hz=>?_,fun z hz=>?_,fun z hz=>?_,fun z hz c hc=>?_,fun z hz=>?_,fun z hz=>?_,?_⟩
 ·by_cases e:a < N.length
  ·rw[zA (by rw[zU];exact e)]at hz
   by_cases e:u.id=a
   ·subst e
    rw[zQ (lt_of_get h)]at hz;cases hz;rfl
   ·rw[zk e]at hz
    exact f.id _ _ hz
  ·have hl:=lt_of_get hz
   rw[zp,zU,yK]at hl
   have:a=N.length:=by walk_at "o"
   subst this;rw[last]at hz;cases hz;exact n1
 ·rcases cs z hz with hz | rfl | rfl
  ·exact f.d4 z hz
  ·exact hd
  ·walk_at "o"
 ·rcases cs z hz with hz | rfl | rfl
  ·exact f.k5 z hz
  ·show (u.kids++[N.length]).length<=5
   rw[zp];show _ + 1<=_;walk_at "o"
  ·rw[n3];exact zO _
 ·rcases cs z hz with hz | rfl | rfl
  ·obtain⟨y,h1,h2⟩:=f.kd z hz c hc
   obtain⟨y',h3,h4⟩:=get c y h1;exact⟨y',h3,by rw[h4,h2]⟩
  ·rcases zF.mp (show c∈u.kids++[N.length] from hc) with hc | hc
   ·obtain⟨y,h1,h2⟩:=f.kd u hx c hc
    obtain⟨y',h3,h4⟩:=get c y h1;exact⟨y',h3,by rw[h4,h2];rfl⟩
   ·rw[zd.mp hc]
    exact⟨new,last,n2⟩
  ·rw[n3]at hc;cases hc
 ·rcases cs z hz with hz | rfl | rfl
  ·exact f.ak z hz
  ·exact f.ak u hx
  ·exact n4
 ·rw[zA (by rw[zU];exact Nat.lt_of_le_of_lt (zO _) (lt_of_get h))]at hz
  by_cases e:u.id=0
  ·rw[e]at h hz
   rw[zQ (lt_of_get h)]at hz;cases hz;exact f.r0 u h
  ·rw[zk e]at hz
   exact f.r0 _ hz
 ·have hlt:=lt_of_get h
  have ek:kN (N.set u.id (kidU u N.length)++[new])=addK (kN N) u.id N.length:=by
   funext n;unfold addK kN;rw[zm,zm];by_cases e:n < N.length
   ·rw[zA (by rw[zU];exact e)]
    by_cases e2:u.id=n
    ·subst e2
     rw[zQ e,h,if_pos rfl];rfl
    ·rw[zk e2,if_neg (Ne.symm e2),zT]
   ·rw[if_neg (by walk_at "o"),zT,zZ (l:=N) (by walk_at "o")]
    by_cases e2:n=N.length
    ·subst e2
     rw[last];exact n3
    ·rw[zZ (by rw[zp,zU,yK];walk_at "o")]
  have km:kN N N.length=[]:=by
   unfold kN;rw[zm,zZ (zo _)];rfl
  have kl:∀ n,∀ c∈kN N n,c≠N.length:=fun n c hc=>by
   unfold kN at hc;rw[zm]at hc;cases hn:N[n]? with
   | none=>rw[hn]at hc;cases hc
   | some x =>
    rw[hn]at hc;obtain⟨y,h1,_⟩:=f.kd x (zn hn) c hc;exact zE (lt_of_get h1)
  have um:u.id≠N.length:=zE hlt;refine⟨fun g x=>?_,fun g=>?_⟩
  ·rw[ek]
   by_cases e:x=N.length
   ·subst e
    exact zH (cnt_new km um kl g 0 (by walk_at "o")) (f.on.one g u.id)
   ·exact zH (cnt_old km um kl g 0 x e) (f.on.one g x)
  ·rw[ek,zp,zU,yK]
   have h1:=siz_new km um kl g 0;have h2:=f.on.siz g;have h3:=f.on.one g u.id;walk_at "o"
theorem pot_add {N:List Nd}{u new:Nd}(h:N[u.id]?=some u)(n2:new.d=u.d + 1)(n3:new.kids=[])(m:Nat):potN (N.set u.id (kidU u m)++[new])=potN N:=by
 rw[pot_snoc,pot_set _ h];unfold gW kidU;rw[n2,n3,zp];show potN N - (uW u.d - u.kids.length * uW (u.d + 1)) + (uW u.d - ((u.kids.length + 1:Nat):Int) * uW (u.d + 1)) + (uW (u.d + 1) - (0:Int) * _)=_;rw[Int.zero_mul,Int.natCast_add,Int.add_mul];generalize (u.kids.length:Int) * uW (u.d + 1)=A;show _ - (_ - A) + (_ - (A + 1 * uW (u.d + 1))) + _=_;walk_at "o"
theorem over_pos {N:List Nd}(hp:potN N=25)(hl:N.length<=19):0 < (N.filter okN).length:=by
 refine Nat.pos_of_ne_zero fun h0=>?_;have h1:=xJ h0
 have:=pot_le N fun x hx=>by
  cases e:okN x with
  | false=>rfl
  | true =>
   have:x∈N.filter okN:=yw.mpr ⟨hx,e⟩
   rw[h1]at this;cases this
 walk_at "o"
noncomputable def trV:Nat->List Nd->Nat->Tr
 | 0,_,_=>.mk [] false [] 0 0 []
 | f + 1,N,n=>.mk (N.getD n nd0).a (N.getD n nd0).b (N.getD n nd0).n (1 + (n:Int)) (2 * (n:Int) + 1) ((N.getD n nd0).kids.map (trV f N))
theorem getD_of {N:List Nd}{n:Nat}{x:Nd}(h:N[n]?=some x):N.getD n nd0=x:=by rw[zm,h];rfl
theorem trV_s {f:Nat}{N:List Nd}{n:Nat}{x:Nd}(h:N[n]?=some x):trV (f + 1) N n=.mk x.a x.b x.n (1 + (n:Int)) (2 * (n:Int) + 1) (x.kids.map (trV f N)):=by
 rw[trV,getD_of h]
theorem trV_fit {N:List Nd}(nf:NF N):∀ (f n:Nat) (x:Nd),N[n]?=some x->5<=x.d + f->Fit f (trV f N n)
 | 0,n,x,h,h5=>by
  have:=nf.d4 x (zn h)
  walk_at "o"
 | f + 1,n,x,h,h5=>by
  have hm:=zn h;rw[trV_s h];refine⟨nf.ak x hm,by show (x.kids.map (trV f N)).length<=5;rw[zz];exact nf.k5 x hm,fun s hs=>?_⟩;obtain⟨c,hc,rfl⟩:=zC.mp (show s∈x.kids.map (trV f N) from hs);obtain⟨y,h1,h2⟩:=nf.kd x hm c hc;exact trV_fit nf f c y h1 (by walk_at "o")
theorem trV_siz (N:List Nd):∀ (f n:Nat),szT f (trV f N n)=sizN f (kN N) n
 | 0,_=>rfl
 | f + 1,n=>by
  rw[szT,sizN,trV];show 1 + (((N.getD n nd0).kids.map (trV f N)).map (szT f)).sum=_;rw[zP];congr 2;exact zY fun c _=>trV_siz N f c
end
end Law
namespace Law
open PySem L3
section
variable {srt:List D->Option (List D)}
noncomputable def kidsD (x:Nd):MO:=.lst (x.kids.map fun (n:Nat)=>.int (n:Int))
noncomputable def ndD (j:Nat)(x:Nd):MO:=.lst [.tup (x.a.map askD),.tup (x.n.map .str),.int (x.d:Int),.ob j,.bl x.b]
structure Rep (M:MH) (jN:Nat) (E:List (Nat×Nd)):Prop where
 l:M[jN]?=some (.lst (E.map fun e=>.ob (e.1 + 1)))
 lt:∀ (a b:Nat) (e e':Nat×Nd),E[a]?=some e->E[b]?=some e'->a < b->e.1 + 1 < e'.1
 o:∀ e∈E,jN < e.1/\M[e.1]?=some (kidsD e.2)/\M[e.1 + 1]?=some (ndD e.1 e.2)
theorem Rep.keep {M M':MH}{jN:Nat}{E:List (Nat×Nd)}(r:Rep M jN E)(g:Gr M M'):Rep M' jN E:=⟨g.keep _ _ r.l,r.lt,fun e he=>⟨(r.o e he).1,g.keep _ _ (r.o e he).2.1,g.keep _ _ (r.o e he).2.2⟩⟩
theorem row_w:∀ (f k:Nat) (M:MH) (jN:Nat) (E:List (Nat×Nd)) (n:Nat) (e:Nat×Nd),Rep M jN E->NF (E.map (·.2))->E[n]?=some e->5<=e.2.d + f->n<=100->E.length<=100->∀ {Q:D->MH->Prop} (_:∀ (M':MH),Gr M M'->Q (trD (trV f (E.map (·.2)) n)) M'),
  W ((cx srt (k + f)).fn "_law_row" [.ob jN,.int (n:Int)]) M Q
 | 0,k,M,jN,E,n,e,_,nf,h,h5,_,_,Q,q=>by
  have:=nf.d4 e.2 (zS (zn h))
  walk_at "o"
 | f + 1,k,M,jN,E,n,e,R,nf,h,h5,hn,hE,Q,q=>by
  have big:=line_big;have hm:=zn h;have hN:(E.map (·.2))[n]?=some e.2:=by rw[zu,h];rfl
  have hmN:=zn hN;have hk5:=nf.k5 _ hmN;obtain⟨r1,r2,r3⟩:=R.o e hm;rw[show k + (f + 1)=k + f + 1 by walk_at "o",f__law_row,wf,b__law_row];walk_at "wq";refine⟨_,R.l,_,rfl,_,atD_nat (by rw[zu,h];rfl),?_⟩;walk_at "wq";refine⟨_,r3,_,rfl,_,rfl,?_⟩;walk_at "wq";refine⟨_,r3,_,rfl,_,rfl,_,r3,_,rfl,_,rfl,.inl ⟨by walk_at "o",by walk_at "o"⟩,zO _,_,r3,_,rfl,_,rfl,?_⟩;walk_at "wq";refine⟨_,r2,by rw[zz];walk_at "o",?_⟩;refine w_compI (fun m ys M'=>Gr M M'/\ys=((e.2.kids.take m).map fun c=>trD (trV f (E.map (·.2)) c))) ⟨Gr.refl,rfl⟩ (fun _ _ _ h=>h.1.keep _ _ r2) ?_ ?_
  ·rintro m d ys M' hd ⟨g,rfl⟩
   rw[zu]at hd;obtain⟨c,hc,rfl⟩:=zt.mp hd;obtain⟨y,y1,y2⟩:=nf.kd _ hmN c (zn hc);rw[zu]at y1;obtain⟨e',he',rfl⟩:=zt.mp y1;walk_at "wq";refine row_w f k M' jN E c e' (R.keep g) nf he' (by walk_at "o") (by have:=lt_of_get he';walk_at "o") hE fun M2 g2=>⟨g.trans g2,?_⟩;rw[zG,hc,zq];rfl
  ·rintro ys M' ⟨g,rfl⟩
   rw[zz,zI];walk_at "wq";refine⟨_,get_new _ _,?_⟩;walk_at "wq";refine⟨by walk_at "o",?_⟩;have q:=q _ (g.snoc (MO.lst (e.2.kids.map fun c=>trD (trV f (E.map (·.2)) c))));rw[trV_s hN,trD,trDs_eq,zP]at q;exact q
theorem Rep.add {M:MH}{jN k:Nat}{E:List (Nat×Nd)}{x:Nd}(R:Rep M jN E)(h1:M[k]?=some (kidsD x))(h2:M[k + 1]?=some (ndD k x))(hj:jN < k)(hE:∀ e∈E,e.1 + 1 < k):Rep (M.set jN (.lst ((E.map fun e=>.ob (e.1 + 1))++[.ob (k + 1)]))) jN (E++[(k,x)]):=by
 refine⟨?_,fun a b e e' ha hb hab=>?_,fun e he=>?_⟩
 ·rw[zq]
  exact set_get R.l
 ·by_cases hb':b < E.length
  ·rw[zA hb']at hb
   rw[zA (by walk_at "o")]at ha;exact R.lt a b e e' ha hb hab
  ·have hl:=lt_of_get hb
   rw[zp,yK]at hl
   have:b=E.length:=by walk_at "o"
   subst this;rw[zA (by walk_at "o")]at ha;rw[zL (zo _),yZ]at hb;cases hb;exact hE e (zn ha)
 ·rcases zF.mp he with he | he
  ·obtain⟨o1,o2,o3⟩:=R.o e he
   rw[zk (by walk_at "o"),zk (by walk_at "o")];exact⟨o1,o2,o3⟩
  ·rw[zd.mp he]
   rw[zk (by walk_at "o"),zk (by walk_at "o")];exact⟨hj,h1,h2⟩
theorem Rep.other {M:MH}{jN j:Nat}{E:List (Nat×Nd)}(R:Rep M jN E)(o:MO)(hj:jN < j)(hE:∀ e∈E,e.1 + 1 < j):Rep (M.set j o) jN E:=by
 refine⟨by rw[zk (by walk_at "o")];exact R.l,R.lt,fun e he=>?_⟩;obtain⟨o1,o2,o3⟩:=R.o e he
 have:=hE e he
 rw[zk (by walk_at "o"),zk (by walk_at "o")];exact⟨o1,o2,o3⟩
theorem Rep.ne {M:MH}{jN a b:Nat}{E:List (Nat×Nd)}(R:Rep M jN E){e e':Nat×Nd}(ha:E[a]?=some e)(hb:E[b]?=some e')(h:a≠b):e.1 + 1 < e'.1\/e'.1 + 1 < e.1:=by
 rcases wQ h with h | h
 ·exact .inl (R.lt a b e e' ha hb h)
 ·exact .inr (R.lt b a e' e hb ha h)
theorem Rep.upd {M:MH}{jN a j:Nat}{E:List (Nat×Nd)}(R:Rep M jN E){e:Nat×Nd}{y:Nd}{o:MO}(ha:E[a]?=some e)(hj:j=e.1\/j=e.1 + 1)(h1:(M.set j o)[e.1]?=some (kidsD y))(h2:(M.set j o)[e.1 + 1]?=some (ndD e.1 y)):Rep (M.set j o) jN (E.set a (e.1,y)):=by
 have hr:=(R.o e (zn ha)).1;have same:∀ (b:Nat) (z:Nat×Nd),(E.set a (e.1,y))[b]?=some z->∃ z0,E[b]?=some z0/\z0.1=z.1/\(b=a/\z=(e.1,y)\/b≠a/\z0=z):=fun b z hz=>by
  by_cases h:a=b
  ·subst h
   rw[zQ (lt_of_get ha)]at hz;cases hz;exact⟨e,ha,rfl,.inl ⟨rfl,rfl⟩⟩
  ·rw[zk h]at hz
   exact⟨z,hz,rfl,.inr ⟨Ne.symm h,rfl⟩⟩
 refine⟨?_,fun b c z z' hb hc hbc=>?_,fun z hz=>?_⟩
 ·rw[zk (by walk_at "o"),R.l,wW]
  have hg:(E.map fun e=>D.ob (e.1 + 1))[a]?=some (.ob (e.1 + 1)):=by rw[zu,ha];rfl
  obtain⟨hlt,he⟩:=zr.mp hg;show _=some (MO.lst ((E.map fun e=>D.ob (e.1 + 1)).set a (.ob (e.1 + 1))));rw[<- he,List.set_getElem_self hlt]
 ·obtain⟨z0,h3,h4,_⟩:=same b z hb
  obtain⟨z1,h5,h6,_⟩:=same c z' hc
  have:=R.lt b c z0 z1 h3 h5 hbc
  walk_at "o"
 ·obtain⟨b,hb⟩:=xq hz
  obtain⟨z0,h3,h4,h5⟩:=same b z hb;rcases h5 with ⟨rfl,rfl⟩|⟨hne,rfl⟩
  ·exact⟨hr,h1,h2⟩
  ·obtain⟨o1,o2,o3⟩:=R.o z0 (zn h3)
   have:=R.ne ha h3 (Ne.symm hne)
   rw[zk (by walk_at "o"),zk (by walk_at "o")];exact⟨o1,o2,o3⟩
end
end Law
namespace Law
open PySem L3
section
variable {srt:List D->Option (List D)}{as vs:List Str}
noncomputable def manyA (n:Nat):Nat:=[0,1,1,2,1,1,3].getD n 0
theorem many_at (n:Nat)(h:n < 7):atD [D.int 0,D.int 1,D.int 1,D.int 2,D.int 1,D.int 1,D.int 3] (n:Int)=some (.int (manyA n:Int))/\manyA n<=3:=by
 rcases n with _ | _ | _ | _ | _ | _ | _ | n
 all_goals first | exact⟨rfl,by decide⟩ | walk_at "o"
theorem up_at (sc:List Int)(i:Int)(O:List (Nat×Nd))(hl:0 < O.length){f:Nat×Nd->D}:∃ (y:Int) (e:Nat×Nd),atD [D.int (-1),D.int (pickV sc (i + 11) O.length)] (pickV sc (i + 10) 2)=some (.int y)/\atD (O.map f) y=some (f e)/\e∈O:=by
 obtain⟨v,hv,lv⟩:=pick_nat sc (i + 11) hl;obtain⟨w,hw,lw⟩:=pick_nat sc (i + 10) (m:=2) (by decide);rw[show ((2:Nat):Int)=2 from rfl]at hw;rw[hv,hw];have fin:∀ n:Nat,n < O.length->∃ e,O[n]?=some e/\e∈O:=fun n hn=>⟨O[n],zv hn,yW hn⟩
 have:w=0\/w=1:=by walk_at "o"
 rcases this with rfl | rfl
 ·obtain⟨e,h1,h2⟩:=fin (O.length - 1) (by walk_at "o")
  refine⟨-1,e,rfl,?_,h2⟩;unfold atD ixD;rw[zz,if_neg (by walk_at "o"),if_pos (by walk_at "o")];show (O.map f)[(-1 + (O.length:Int)).toNat]?=_;rw[show (-1 + (O.length:Int)).toNat=O.length - 1 by walk_at "o",zu,h1];rfl
 ·obtain⟨e,h1,h2⟩:=fin v lv
  exact⟨v,e,rfl,atD_nat (by rw[zu,h1];rfl),h2⟩
theorem nodes_w (k:Nat)(sc:List Int)(i:Int)(many:Nat)(M:MH){d:D}{ns:List Str}{ot:Str}(P:Pool M d as vs ns ot)(h0:0<=i)(h1:i<=1000)(hm:many<=19){Q:D->MH->Prop}(q:∀ (jN:Nat) (E:List (Nat×Nd)) (M':MH),Gr M M'->M.length<=jN->Rep M' jN E->NF (E.map (·.2))->E.length=many + 1->Q (.ob jN) M') :
  W ((cx srt (k + 5)).fn "_law_nodes" [.fl (sc.map .int),.int i,.int (many:Int),d]) M Q:=by
 have big:=line_big;rw[f__law_nodes,wf,b__law_nodes];walk_at "wq";refine⟨by walk_at "o",⟨by walk_at "o",by walk_at "o"⟩,?_⟩;have n0:(M++[MO.lst []])[M.length]?=some (.lst []):=get_new _ _;have g0:Gr M (M++[MO.lst []]):=Gr.app _ _;generalize M++[MO.lst []]=M0 at n0 g0 ⊢;refine w_loop (fun m ρ M'=>Gr M M'/\(∃ E:List (Nat×Nd),Rep M' M.length E/\NF (E.map (·.2))/\E.length=m/\(m≠0->potN (E.map (·.2))=25))/\∃ x5 x6 x7 x8 x9 x10 x11 x12,ρ=[some (.fl (sc.map .int)),some (.int i),some (.int (many:Int)),some d,some (.ob M.length),x5,x6,x7,x8,x9,x10,x11,x12])
  ⟨g0,⟨[],⟨n0,(fun _ _ _ _ h=>nomatch h),(fun _ h=>nomatch h)⟩,NF.nil,rfl,fun h=>absurd rfl h⟩,_,_,_,_,_,_,_,_,rfl⟩ (fun _ _ _ _=>trivial) ?_ ?_
 ·rintro m d' ρ M1 hd ⟨g1,⟨E,R,nf,hl,pot⟩,x5,x6,x7,x8,x9,x10,x11,x12,rfl⟩
  obtain⟨rfl,hmm⟩:=rng_get hd;rw[wk];have P1:=P.keep g1;obtain⟨ia,iv,iN,rfl,p2,p3,p4⟩:=P1.is;have hm19:m<=19:=by walk_at "o"
  obtain⟨v12,h12,l12⟩:=pick_nat sc (i + 16 * (m:Int) + 12) (m:=7) (by decide);obtain⟨v13,h13,l13⟩:=pick_nat sc (i + 16 * (m:Int) + 13) (m:=6) (by decide);obtain⟨v14,h14,l14⟩:=pick_nat sc (i + 16 * (m:Int) + 14) (m:=4) (by decide);rw[show ((7:Nat):Int)=7 from rfl]at h12;rw[show ((6:Nat):Int)=6 from rfl]at h13;rw[show ((4:Nat):Int)=4 from rfl]at h14;obtain⟨ma,mb⟩:=many_at v12 l12;walk_at "wq";refine⟨.inl ⟨by walk_at "o",by walk_at "o"⟩,by walk_at "o",pick_w (k + 2) sc _ _ _ (by walk_at "o") (by walk_at "o") (by decide) ?_⟩;rw[h12];walk_at "wq";refine⟨_,get_new _ _,?_⟩;walk_at "wq";refine⟨_,ma,?_⟩;have g2:Gr M1 (M1++[MO.lst [D.int 0,D.int 1,D.int 1,D.int 2,D.int 1,D.int 1,D.int 3]]):=Gr.app _ _;generalize M1++[MO.lst [D.int 0,D.int 1,D.int 1,D.int 2,D.int 1,D.int 1,D.int 3]]=M2 at g2 ⊢;refine askings_w k sc _ _ M2 (P1.keep g2) (by walk_at "o") (by walk_at "o") (by walk_at "o") fun A M3 _ hAl g3=>?_;replace g3:=g2.trans g3;walk_at "wq";refine pick_w (k + 2) sc _ _ _ (by walk_at "o") (by walk_at "o") (by decide) ?_;rw[h13];walk_at "wq";have p4':=g3.keep _ _ p4;refine⟨_,p4',_,(Gr.app _ _).keep _ _ p4',?_⟩;rw[cut_lo _ (by walk_at "o"),cut_hi _ (by walk_at "o")];have et:(v13:Int).toNat=v13:=rfl;rw[et];refine⟨_,(Gr.app _ _).keep _ _ (get_new _ _),_,get_new _ _,?_,?_⟩
  ·rw[yu,zB,zz,P1.n6];walk_at "o"
  rw[<- wy,<- yJ,<- zq];have g4:Gr M1 (M3++[MO.lst ((ns.drop v13).map .str)]++[MO.lst ((ns.take v13).map .str)]):=(g3.snoc _).snoc _;generalize M3++[MO.lst ((ns.drop v13).map .str)]++[MO.lst ((ns.take v13).map .str)]=M4 at g4 ⊢;refine pick_w (k + 2) sc _ _ _ (by walk_at "o") (by walk_at "o") (by decide) ?_;rw[h14];walk_at "wq";refine⟨_,get_new _ _,?_⟩;rw[cut_hi _ (by walk_at "o"),<- yJ];have et:(v14:Int).toNat=v14:=rfl;rw[et];walk_at "wq";generalize hB:(ns.drop v13++ns.take v13).take v14=B;have n5:(M4++[MO.lst ((ns.drop v13++ns.take v13).map .str)]++[MO.lst (B.map .str)])[(M4++[MO.lst ((ns.drop v13++ns.take v13).map .str)]).length]?=some (.lst (B.map .str)):=get_new _ _;have g5:Gr M1 (M4++[MO.lst ((ns.drop v13++ns.take v13).map .str)]++[MO.lst (B.map .str)]):=(g4.snoc _).snoc _;generalize M4++[MO.lst ((ns.drop v13++ns.take v13).map .str)]++[MO.lst (B.map .str)]=M5 at n5 g5 ⊢;generalize (M4++[MO.lst ((ns.drop v13++ns.take v13).map .str)]).length=j9 at n5 ⊢;have R5:=R.keep g5;refine⟨_,R5.l,by rw[zz];walk_at "o",?_⟩;refine w_compI (fun n ys M'=>M'=M5/\ys=((E.take n).filter fun e=>okN e.2).map fun e=>.ob (e.1 + 1)) ⟨rfl,rfl⟩ (fun _ _ _ h=>h.1 ▸ R5.l) ?_ ?_
  ·rintro n dd ys M' hd ⟨rfl,rfl⟩
   rw[zu]at hd;obtain⟨e,he,rfl⟩:=zt.mp hd;obtain⟨o1,o2,o3⟩:=R5.o e (zn he);have es:(E.take (n + 1)).filter (fun e=>okN e.2)=(E.take n).filter (fun e=>okN e.2)++(if okN e.2 then [e] else []):=by
    rw[zG,he,yv];congr 1;show [e].filter _=_;rw[xG];rfl
   walk_at "wq";refine⟨_,o3,_,rfl,_,rfl,?_⟩;walk_at "wq";rw[es];have e4:decide ((e.2.d:Int) < 4)=decide (e.2.d < 4):=by apply decide_eq_decide.mpr;walk_at "o"
   have e5:okN e.2=(decide (e.2.d < 4)&&decide (e.2.kids.length < 5)):=rfl;rw[e4,e5];refine⟨fun h=>?_,fun h=>by rw[h,xO];simp⟩;rw[h];refine⟨_,o3,_,rfl,_,rfl,?_⟩;walk_at "wq";refine⟨_,o2,?_⟩;walk_at "wq";have e6:decide (lenO (kidsD e.2) < 5)=decide (e.2.kids.length < 5):=by
    unfold kidsD;rw[k_lenl,zz];apply decide_eq_decide.mpr;walk_at "o"
   rw[e6,wz];exact⟨fun h=>by rw[h,zq];rfl,fun h=>by rw[h];simp⟩
  ·rintro ys M' ⟨rfl,rfl⟩
   rw[zz,zI];walk_at "wq";generalize hO:E.filter (fun e=>okN e.2)=O;refine⟨_,(Gr.app _ _).keep _ _ n5,zO _,pick_w (k + 2) sc _ _ _ (by walk_at "o") (by walk_at "o") (by decide) ?_⟩;walk_at "wq";refine⟨by walk_at "o",?_⟩;generalize hb:(pickV sc (i + 16 * (m:Int) + 15) 3==0)=b15;have hak:A.length<=3/\B.length<=3:=⟨by walk_at "o",by rw[<- hB,zB];walk_at "o"⟩;have l0:M.length < M1.length:=lt_of_get R.l;have lE:∀ e∈E,e.1 + 1 < M1.length:=fun e he=>lt_of_get (R.o e he).2.2;generalize hM6:M'++[MO.lst (O.map fun e=>D.ob (e.1 + 1))]=M6;have g6:Gr M1 M6:=hM6 ▸ g5.snoc _;have n6:M6[M'.length]?=some (.lst (O.map fun e=>D.ob (e.1 + 1))):=hM6 ▸ get_new _ _;have k1:(M6++[MO.lst []]++[MO.lst [D.tup (A.map askD),D.tup (B.map .str),D.int 0,D.ob M6.length,D.bl b15]])[M6.length]?=some (kidsD ⟨A,B,0,[],b15,m⟩):=(Gr.app _ _).keep _ _ (get_new _ _);have k2:(M6++[MO.lst []]++[MO.lst [D.tup (A.map askD),D.tup (B.map .str),D.int 0,D.ob M6.length,D.bl b15]])[M6.length + 1]?=some (ndD M6.length ⟨A,B,0,[],b15,m⟩):=by
    have:=get_new (M6++[MO.lst []]) (MO.lst [D.tup (A.map askD),D.tup (B.map .str),D.int 0,D.ob M6.length,D.bl b15])
    rw[zp]at this;exact this
   have g7:Gr M6 (M6++[MO.lst []]++[MO.lst [D.tup (A.map askD),D.tup (B.map .str),D.int 0,D.ob M6.length,D.bl b15]]):=(Gr.app _ _).snoc _;have el:(M6++[MO.lst []]).length=M6.length + 1:=zp;have l6:=g6.len;rw[el];generalize M6++[MO.lst []]++[MO.lst [D.tup (A.map askD),D.tup (B.map .str),D.int 0,D.ob M6.length,D.bl b15]]=M7 at k1 k2 g7 ⊢;have n7:=g7.keep _ _ n6;have R7:=R.keep (g6.trans g7);have G7:=g1.trans (g6.trans g7);generalize M6.length=kk at k1 k2 l6 ⊢;refine⟨fun h=>?_,fun h=>?_⟩
   ·have hm0:m≠0:=by have:=of_decide_eq_true h;walk_at "o"
    have pot:=pot hm0;have hol:0 < O.length:=by
     have:=over_pos pot (by rw[zz,hl];exact hm19)
     rw[List.filter_map,zz]at this;rw[<- hO];exact this
    obtain⟨y,e,y1,y2,y3⟩:=up_at sc (i + 16 * (m:Int)) O hol (f:=fun e=>.ob (e.1 + 1));refine⟨_,n7,?_⟩;rw[k_lenl,zz];refine pick_w (k + 2) sc _ _ _ (by walk_at "o") (by walk_at "o") (by walk_at "o") ?_;walk_at "wq";refine⟨by walk_at "o",pick_w (k + 2) sc _ _ _ (by walk_at "o") (by walk_at "o") (by decide) ?_⟩;walk_at "wq";refine⟨_,get_new _ _,_,rfl,_,y1,?_⟩;walk_at "wq";refine⟨_,(Gr.app _ _).keep _ _ n7,_,rfl,_,y2,?_⟩;walk_at "wq";have g8:Gr M7 (M7++[MO.lst [D.int (-1),D.int (pickV sc (i + 16 * (m:Int) + 11) O.length)]]):=Gr.app _ _;generalize M7++[MO.lst [D.int (-1),D.int (pickV sc (i + 16 * (m:Int) + 11) O.length)]]=M8 at g8 ⊢;have R8:=R7.keep g8;have G8:=G7.trans g8;rw[<- hO]at y3;obtain⟨eE,eok⟩:=yw.mp y3;obtain⟨a,hea⟩:=xq eE;have hNa:(E.map (·.2))[a]?=some e.2:=by rw[zu,hea];rfl
    have hid:=nf.id _ _ hNa;obtain⟨o1,o2,o3⟩:=R8.o e eE;have hle:=lE e eE;refine⟨_,o3,_,rfl,_,rfl,?_⟩;walk_at "wq";have k2':M8[kk + 1]?=some (MO.lst [D.tup (A.map askD),D.tup (B.map .str),D.int 0,D.ob kk,D.bl b15]):=g8.keep _ _ k2;refine⟨_,k2',?_⟩;walk_at "wq";refine⟨2,rfl,?_⟩;walk_at "wq";have R9:=R8.other (MO.lst [D.tup (A.map askD),D.tup (B.map .str),D.int ((e.2.d:Int) + 1),D.ob kk,D.bl b15]) (j:=kk + 1) (by walk_at "o") fun e he=>by have:=lE e he;walk_at "o"
    have c1:(M8.set (kk + 1) (MO.lst [D.tup (A.map askD),D.tup (B.map .str),D.int ((e.2.d:Int) + 1),D.ob kk,D.bl b15]))[kk]?=some (kidsD ⟨A,B,e.2.d + 1,[],b15,m⟩):=by
     rw[zk (by walk_at "o")];exact g8.keep _ _ k1
    have c2:(M8.set (kk + 1) (MO.lst [D.tup (A.map askD),D.tup (B.map .str),D.int ((e.2.d:Int) + 1),D.ob kk,D.bl b15]))[kk + 1]?=some (ndD kk ⟨A,B,e.2.d + 1,[],b15,m⟩):=set_get (g8.keep _ _ k2);have G9:Gr M (M8.set (kk + 1) (MO.lst [D.tup (A.map askD),D.tup (B.map .str),D.int ((e.2.d:Int) + 1),D.ob kk,D.bl b15])):=G8.set (by walk_at "o") _;generalize M8.set (kk + 1) (MO.lst [D.tup (A.map askD),D.tup (B.map .str),D.int ((e.2.d:Int) + 1),D.ob kk,D.bl b15])=M9 at R9 c1 c2 G9 ⊢;obtain⟨o1,o2,o3⟩:=R9.o e eE;refine⟨_,o3,_,rfl,_,rfl,?_⟩;walk_at "wq";have hk5:e.2.kids.length<=5:=nf.k5 _ (zn hNa);refine⟨_,o2,_,o2,by rw[zz];walk_at "o",?_⟩;have ek:(MO.lst ((e.2.kids.map fun (n:Nat)=>D.int (n:Int))++[D.int (m:Int)]))=kidsD (kidU e.2 m):=by
     unfold kidsD kidU;rw[zq];rfl
    rw[ek];have R10:=R9.upd (j:=e.1) (o:=kidsD (kidU e.2 m)) (y:=kidU e.2 m) hea (.inl rfl) (set_get o2) (by rw[zk (by walk_at "o")];exact o3);have c1':(M9.set e.1 (kidsD (kidU e.2 m)))[kk]?=some (kidsD ⟨A,B,e.2.d + 1,[],b15,m⟩):=by
     rw[zk (by walk_at "o")];exact c1
    have c2':(M9.set e.1 (kidsD (kidU e.2 m)))[kk + 1]?=some (ndD kk ⟨A,B,e.2.d + 1,[],b15,m⟩):=by
     rw[zk (by walk_at "o")];exact c2
    have G10:Gr M (M9.set e.1 (kidsD (kidU e.2 m))):=G9.set (by walk_at "o") _;generalize M9.set e.1 (kidsD (kidU e.2 m))=M10 at R10 c1' c2' G10 ⊢;walk_at "wq";have em:(E.set a (e.1,kidU e.2 m)).map (·.2)=(E.map (·.2)).set e.2.id (kidU e.2 m):=by rw[wW,hid]
    rw[<- hid]at hNa;have hnl:(E.map (·.2)).length=m:=by rw[zz,hl]
    refine⟨_,R10.l,_,R10.l,by rw[zz,zU];walk_at "o",G10.set (zo _) _,⟨_,R10.add c1' c2' (by walk_at "o") fun z hz=>?_,?_,?_,?_⟩,_,_,_,_,_,_,_,_,rfl⟩
    ·rcases yk hz with hz | rfl
     ·have:=lE z hz
      walk_at "o"
     ·show e.1 + 1 < kk
      walk_at "o"
    ·rw[zq,em]
     have:=nf.add (u:=e.2) (new:=⟨A,B,e.2.d + 1,[],b15,m⟩) hNa eok hnl.symm rfl rfl hak
     rw[hnl]at this;exact this
    ·rw[zp,zU,hl];rfl
    ·intro _
     rw[zq,em];rw[<- pot];exact pot_add (u:=e.2) (new:=⟨A,B,e.2.d + 1,[],b15,m⟩) hNa rfl rfl m
   ·have hm0:m=0:=by have:=of_decide_eq_false h;walk_at "o"
    subst hm0;have hE:E=[]:=xJ hl;refine⟨_,R7.l,_,R7.l,by rw[zz];walk_at "o",G7.set (zo _) _,⟨_,R7.add k1 k2 (by walk_at "o") fun e he=>zJ (lE e he) l6,?_,?_,?_⟩,_,_,_,_,_,_,_,_,rfl⟩
    ·rw[hE]
     refine⟨fun a x hx=>?_,fun x hx=>?_,fun x hx=>?_,fun x hx c hc=>?_,fun x hx=>?_,fun x hx=>by cases hx;rfl,once_bare ?_⟩
     ·have:=lt_of_get hx
      have:a=0:=by simpa using this
      subst this;cases hx;rfl
     ·rw[zd.mp hx];exact zO _
     ·rw[zd.mp hx];exact zO _
     ·rw[zd.mp hx]at hc;cases hc
     ·rw[zd.mp hx];exact hak
     ·funext n
      unfold kN;cases n <;> rfl
    ·rw[hE];rfl
    ·rw[hE]
     intro _;rfl
 ·rintro ρ M1 ⟨g1,⟨E,R,nf,hl,pot⟩,x5,x6,x7,x8,x9,x10,x11,x12,rfl⟩
  rw[rng_len]at hl;walk_at "wq";exact q _ E M1 g1 (zo _) R nf (by rw[hl];walk_at "o")
noncomputable def rootA (x:Nd)(nm ot:Str):Nd:={ x with a:=[⟨"is",nm,[ot]⟩] }
theorem last6 {ns:List Str}(h:ns.length=6):atD (ns.map D.str) (-1)=some (.str (ns.getD 5 "")):=by
 unfold atD ixD;rw[zz,h,if_neg (by decide),if_pos (by decide)];show (ns.map D.str)[5]?=_;rw[zu,zm,zv (by walk_at "o")];rfl
theorem tree_w (k:Nat)(sc:List Int)(i:Int)(many:Nat)(M:MH){d:D}{ns:List Str}{ot:Str}(P:Pool M d as vs ns ot)(h0:0<=i)(h1:i<=1000)(hm:many<=19){Q:D->MH->Prop}(q:∀ t M',Gr M M'->Fit 5 t->szT 5 t<=many + 2->Q (trD t) M') :
  W ((cx srt (k + 6)).fn "_law_tree" [.fl (sc.map .int),.int i,.int (many:Int),d]) M Q:=by
 have big:=line_big;rw[f__law_tree,wf,b__law_tree];walk_at "wq";refine nodes_w k sc i many M P h0 h1 hm fun jN E M1 g1 hj R nf hl=>?_;obtain⟨ia,iv,iN,rfl,p2,p3,p4⟩:=(P.keep g1).is;have h0:∃ e,E[0]?=some e:=⟨E[0],zv (by walk_at "o")⟩;obtain⟨e,he⟩:=h0;have hN:(E.map (·.2))[0]?=some e.2:=by rw[zu,he];rfl
 obtain⟨o1,o2,o3⟩:=R.o e (zn he);walk_at "wq";refine⟨_,p4,?_⟩;walk_at "wq";refine⟨_,last6 P.n6,by walk_at "o",?_⟩;refine⟨by walk_at "o",by walk_at "o",_,R.l,_,rfl,_,atD_nat (j:=0) (by rw[zu,he];rfl),?_⟩;walk_at "wq";have o3':M1[e.1 + 1]?=some (MO.lst [.tup (e.2.a.map askD),.tup (e.2.n.map .str),.int (e.2.d:Int),.ob e.1,.bl e.2.b]):=o3;refine⟨_,o3',?_⟩;walk_at "wq";refine⟨0,rfl,?_⟩;walk_at "wq";have R2:=R.upd (j:=e.1 + 1) (o:=ndD e.1 (rootA e.2 (ns.getD 5 "") ot)) (y:=rootA e.2 (ns.getD 5 "") ot) he (.inr rfl) (by rw[zk (by walk_at "o")];exact o2) (set_get o3);have em:(E.set 0 (e.1,rootA e.2 (ns.getD 5 "") ot)).map (·.2)=(E.map (·.2)).set 0 (rootA e.2 (ns.getD 5 "") ot):=wW;have nf2:NF ((E.set 0 (e.1,rootA e.2 (ns.getD 5 "") ot)).map (·.2)):=by
  rw[em];exact nf.set hN rfl rfl (by show 1<=3;decide) rfl rfl
 have hE0:(E.set 0 (e.1,rootA e.2 (ns.getD 5 "") ot))[0]?=some (e.1,rootA e.2 (ns.getD 5 "") ot):=zQ (by walk_at "o");have hfit:=trV_fit nf2 5 0 (rootA e.2 (ns.getD 5 "") ot) (by rw[zu,hE0];rfl) (we _ _);have hsz:szT 5 (trV 5 ((E.set 0 (e.1,rootA e.2 (ns.getD 5 "") ot)).map (·.2)) 0)<=many + 2:=by
  rw[trV_siz]
  have:=nf2.on.siz 5
  rw[zz,zU]at this;walk_at "o"
 have g2:Gr M (M1.set (e.1 + 1) (ndD e.1 (rootA e.2 (ns.getD 5 "") ot))):=g1.set (by walk_at "o") _;exact row_w 5 k _ jN _ 0 _ R2 nf2 hE0 (we _ _) (zO _) (by rw[zU];walk_at "o") fun M3 g3=>q _ _ (g2.trans g3) hfit hsz
end
end Law
namespace Law
open PySem L3
section
variable {srt:List D->Option (List D)}
structure Rule where
 a:List Ask
 b:List Ask
 ns:List Str
noncomputable def ruleD (r:Rule):D:=.tup [.tup (r.a.map askD),.tup (r.b.map askD),.tup (r.ns.map .str)]
structure Rule.Ok (r:Rule) (as vs:List Str):Prop where
 a:∀ x∈r.a,x.Ok as vs
 b:∀ x∈r.b,x.Ok as vs
 la:r.a.length<=100
 lb:r.b.length<=100
 ln:r.ns.length<=100
noncomputable def sameB (ps qs:List (Str×Str))(ns:List Str):Bool:=ns.all fun n=>valV ps n==valV qs n
noncomputable def isGr (o s:Say)(r:Rule):Bool:=meetA r.a o.ps&&sameB s.ps o.ps r.ns
theorem same_w (k:Nat)(M:MH)(ps qs:List (Str×Str))(ns:List Str)(hn:ns.length<=1000){Q:D->MH->Prop}(q:∀ M',Gr M M'->Q (.bl (sameB ps qs ns)) M'):W ((cx srt (k + 2)).fn "have_same_values" [.tup (ps.map prD),.tup (qs.map prD),.tup (ns.map .str)]) M Q:=by
 have big:=line_big;rw[f_have_same_values,wf,b_have_same_values];walk_at "wq";refine⟨by rw[zz];walk_at "o",?_⟩;refine w_compI (fun j ys M'=>M'=M/\ys=((ns.take j).map fun n=>valV ps n==valV qs n).map D.bl) ⟨rfl,rfl⟩ (fun _ _ _ _=>trivial) ?_ ?_
 ·rintro j d ys M' hd ⟨rfl,rfl⟩
  rw[zu]at hd;obtain⟨n,hn,rfl⟩:=zt.mp hd;walk_at "wq";refine valueIn_w k M' ps n ?_;walk_at "wq";refine valueIn_w k M' qs n ?_;walk_at "wq";rw[zG,hn];simp
 ·rintro ys M' ⟨rfl,rfl⟩
  rw[zz,zI];walk_at "wq";refine⟨_,get_new _ _,_,mapM_bools _,?_⟩;rw[xz];exact q _ (Gr.app _ _)
theorem isGreater_w (k:Nat)(M:MH)(o s:Say)(r:Rule)(hl:o.ps.length<=1000)(ha:r.a.length<=1000)(hn:r.ns.length<=1000){Q:D->MH->Prop}(q:∀ M',Gr M M'->Q (.bl (isGr o s r)) M'):W ((cx srt (k + 4)).fn "is_greater" [sayD o,sayD s,ruleD r]) M Q:=by
 rw[f_is_greater,wf,b_is_greater];unfold sayD ruleD;walk_at "wq";refine meetsAll_w k M r.a o.ps ha hl fun M1 g1=>?_;walk_at "wq";unfold isGr at q;refine⟨fun h=>?_,fun h=>?_⟩
 ·rw[h]at q
  refine same_w (k + 1) M1 s.ps o.ps r.ns hn fun M2 g2=>?_;exact q _ (g1.trans g2)
 ·rw[h]at q
  exact q _ g1
noncomputable def toldL (s:Say)(qs:List Qt)(t:Int):List Int:=(qs.filter fun q=>forceB q t&&meetA q.xs s.ps).map (·.n)
noncomputable def heavL (s:Say)(ss:List Say)(t:Int):List Say:=ss.filter fun o=>decide (s.w < o.w)&&standsB o t
noncomputable def greatL (s:Say)(hs:List Say)(r:Rule):List Int:=(hs.filter fun o=>isGr o s r).map (·.n)
theorem allI_of {α:Type}(f:α->Int)(xs:List α):allI (xs.map fun x=>D.int (f x))=some (xs.map f):=by
 have:=allI_map (xs.map f)
 rw[zP]at this;exact this
noncomputable def firstG (s:Say)(hs:List Say):Nat->List Rule->D
 | _,[]=>.non
 | k,r::rs=>if (meetA r.b s.ps&&!(greatL s hs r).isEmpty)=true then .tup [.str "greater",.int k,.int (minI (greatL s hs r))] else firstG s hs (k + 1) rs
noncomputable def groundV (s:Say)(ss:List Say)(qs:List Qt)(rs:List Rule)(t:Int):D:=if (toldL s qs t).isEmpty=true then firstG s (heavL s ss t) 0 rs else .tup [.str "told",.int (minI (toldL s qs t))]
inductive GrV (s:Say) (ss:List Say) (qs:List Qt) (rs:List Rule) (t:Int):D->Prop
 | non:GrV s ss qs rs t .non
 | told (q:Qt):q∈qs->forceB q t=true->meetA q.xs s.ps=true->GrV s ss qs rs t (.tup [.str "told",.int q.n])
 | great (k:Nat) (r:Rule) (o:Say):rs[k]?=some r->o∈ss->s.w < o.w->standsB o t=true->meetA r.b s.ps=true->isGr o s r=true->GrV s ss qs rs t (.tup [.str "greater",.int k,.int o.n])
theorem ground_w (k:Nat)(M:MH)(s:Say)(js jq jr:Nat)(ss:List Say)(qs:List Qt)(rs:List Rule)(t:Int)(ls:ss.length<=1000)(lq:qs.length<=1000)(lp:s.ps.length<=1000)(lo:∀ o∈ss,o.ps.length<=1000)(lx:∀ q∈qs,q.xs.length<=1000)(lr:∀ r∈rs,r.a.length<=1000/\r.b.length<=1000/\r.ns.length<=1000)
  (hs:M[js]?=some (.lst (ss.map sayD))) (hq:M[jq]?=some (.lst (qs.map qtD))) (hr:M[jr]?=some (.lst (rs.map ruleD))) {Q:D->MH->Prop}
  (q:∀ M',Gr M M'->Q (groundV s ss qs rs t) M'):W ((cx srt (k + 5)).fn "ground" [sayD s,.ob js,.ob jq,.ob jr,.int t]) M Q:=by
 have big:=line_big;have eS:sayD s=.tup [.int s.n,.tup (s.ps.map prD),.int s.w,.int s.came,optD s.gone]:=rfl;rw[f_ground,wf,b_ground];walk_at "wq";refine⟨_,hq,by rw[zz];walk_at "o",?_⟩;refine w_compI (fun j ys M'=>M'=M/\ys=((qs.take j).filter fun q=>forceB q t).map qtD) ⟨rfl,rfl⟩ (fun _ _ _ h=>by rw[h.1];exact hq) ?_ ?_
 ·rintro j d ys M' hd ⟨rfl,rfl⟩
  rw[zu]at hd;obtain⟨x,hx,rfl⟩:=zt.mp hd;rw[zG,hx,yv,zq];walk_at "wq";refine inForce_w (k + 3) M' x t ?_;walk_at "wq";refine⟨fun h=>?_,fun h=>?_⟩ <;> simp[h]
 ·rintro ys M' ⟨rfl,rfl⟩
  rw[zz,zI];generalize hF:qs.filter (fun q=>forceB q t)=F;have hFl:F.length<=1000:=by rw[<- hF];exact zH (yA _ _) lq
  generalize hM1:M'++[MO.lst (F.map qtD)]=M1;have g1:Gr M' M1:=hM1 ▸ Gr.app _ _;have h1:M1[M'.length]?=some (.lst (F.map qtD)):=hM1 ▸ get_new _ _;clear hM1;generalize M'.length=j1 at h1 ⊢;walk_at "wq";refine⟨_,h1,by rw[zz];walk_at "o",?_⟩;refine w_compI (fun j ys M2=>Gr M1 M2/\ys=((F.take j).filter fun q=>meetA q.xs s.ps).map fun q=>D.int q.n) ⟨Gr.refl,rfl⟩ (fun _ _ _ h=>h.1.keep _ _ h1) ?_ ?_
  ·rintro j d ys M2 hd ⟨g2,rfl⟩
   rw[zu]at hd;obtain⟨x,hx,rfl⟩:=zt.mp hd;have hxq:x∈qs:=by
    have:=zn hx
    rw[<- hF]at this;exact(yw.mp this).1
   rw[zG,hx,yv,zq,eS];unfold qtD;walk_at "wq";refine meetsAll_w (k + 1) M2 x.xs s.ps (lx x hxq) lp fun M3 g3=>?_;walk_at "wq";refine⟨fun h=>⟨g2.trans g3,?_⟩,fun h=>⟨g2.trans g3,?_⟩⟩ <;> simp[h]
  ·rintro ys M2 ⟨g2,rfl⟩
   rw[zz,zI];generalize hT:F.filter (fun q=>meetA q.xs s.ps)=T;generalize hM3:M2++[MO.lst (T.map fun q=>D.int q.n)]=M3;have g3:Gr M1 M3:=hM3 ▸ g2.snoc _;have h3:M3[M2.length]?=some (.lst (T.map fun q=>D.int q.n)):=hM3 ▸ get_new _ _;clear hM3;generalize M2.length=j2 at h3 ⊢;have g3':=g1.trans g3;have hTold:toldL s qs t=T.map (·.n):=by
    unfold toldL;rw[<- hT,<- hF,xg];congr 1;refine List.filter_congr fun x _=>?_;rw[ve]
   walk_at "wq";refine⟨_,h3,?_⟩;walk_at "wq";refine⟨fun h=>?_,fun h=>?_⟩
   ·have hne:T≠[]:=fun z=>by rw[z]at h;cases h
    walk_at "wq";refine⟨_,h3,_,allI_of _ _,fun z=>hne (List.map_eq_nil_iff.mp z),by walk_at "o",?_⟩;have e:groundV s ss qs rs t=.tup [.str "told",.int (minI (T.map (·.n)))]:=by
     unfold groundV;rw[hTold,if_neg (by simpa using hne)]
    have:=q _ g3'
    rw[e]at this;exact this
   ·have hT0:T=[]:=by
     cases T with
     | nil=>rfl
     | cons _ _=>cases h
    have eg:groundV s ss qs rs t=firstG s (heavL s ss t) 0 rs:=by
     unfold groundV;rw[hTold,hT0];rfl
    rw[eg]at q;clear eg hTold h3 h1;walk_at "wq";refine⟨_,g3'.keep _ _ hs,by rw[zz];walk_at "o",?_⟩;refine w_compI (fun j ys M4=>M4=M3/\ys=(heavL s (ss.take j) t).map sayD) ⟨rfl,rfl⟩ (fun _ _ _ h=>by rw[h.1];exact g3'.keep _ _ hs) ?_ ?_
    ·rintro j d ys M4 hd ⟨rfl,rfl⟩
     rw[zu]at hd;obtain⟨x,hx,rfl⟩:=zt.mp hd;have eX:sayD x=.tup [.int x.n,.tup (x.ps.map prD),.int x.w,.int x.came,optD x.gone]:=rfl;unfold heavL;rw[zG,hx,yv,zq,eS];walk_at "wq";rw[eX];walk_at "wq";rw[<- eX];refine⟨fun h=>?_,fun h=>?_⟩
     ·refine stands_w (k + 3) M4 x t ?_
      walk_at "wq";refine⟨fun h2=>?_,fun h2=>?_⟩ <;> simp[h,h2,eX]
     ·simp[h]
    ·rintro ys M4 ⟨rfl,rfl⟩
     rw[zz,zI];generalize hH:heavL s ss t=HL at q ⊢;have hHs:∀ o∈HL,o∈ss:=fun o ho=>by
      rw[<- hH]at ho;exact(yw.mp ho).1
     have hHl:HL.length<=1000:=by rw[<- hH];exact zH (yA _ _) ls
     generalize hM5:M4++[MO.lst (HL.map sayD)]=M5;have g5:Gr M4 M5:=hM5 ▸ Gr.app _ _;have h5:M5[M4.length]?=some (.lst (HL.map sayD)):=hM5 ▸ get_new _ _;clear hM5;generalize M4.length=j4 at h5 ⊢;have g5':=g3'.trans g5;walk_at "wq";refine⟨_,g5'.keep _ _ hr,?_⟩;refine w_loopP (fun n ρ M6=>Gr M5 M6/\firstG s HL 0 rs=firstG s HL n (rs.drop n)/\∃ x8 x9 x10,ρ=[some (sayD s),some (.ob js),some (.ob jq),some (.ob jr),some (.int t),some (.ob j1),some (.ob j2),some (.ob j4),x8,x9,x10]) ⟨Gr.refl,rfl,none,none,none,rfl⟩ (fun _ _ _ h=>h.1.keep _ _ (g5'.keep _ _ hr)) ?_ ?_
     ·rintro n d ρ M6 hd ⟨g6,ef,x8,x9,x10,rfl⟩
      obtain⟨x,hx,rfl⟩:=enumG hd;rw[zu]at hx;obtain⟨r,hrr,rfl⟩:=zt.mp hx;obtain⟨hlt,hrg⟩:=zr.mp hrr;have hrm:=lr r (zn hrr);rw[yx hlt,hrg]at ef;have eR:ruleD r=.tup [.tup (r.a.map askD),.tup (r.b.map askD),.tup (r.ns.map .str)]:=rfl;refine⟨_,_,rfl,?_⟩;walk_at "wq";rw[eR];walk_at "wq";rw[eS];walk_at "wq";rw[<- eS];refine meetsAll_w (k + 1) M6 r.b s.ps hrm.2.1 lp fun M7 g7=>?_;have g7':=g6.trans g7;walk_at "wq";refine⟨fun h=>?_,fun h=>?_⟩
      ·walk_at "wq"
       refine⟨_,g7'.keep _ _ h5,by rw[zz];walk_at "o",?_⟩;refine w_compI (fun j ys M8=>Gr M7 M8/\ys=(greatL s (HL.take j) r).map D.int) ⟨Gr.refl,rfl⟩ (fun _ _ _ h=>(g7'.trans h.1).keep _ _ h5) ?_ ?_
       ·rintro j d ys M8 hd ⟨g8,rfl⟩
        rw[zu]at hd;obtain⟨o,ho,rfl⟩:=zt.mp hd;have eO:sayD o=.tup [.int o.n,.tup (o.ps.map prD),.int o.w,.int o.came,optD o.gone]:=rfl;unfold greatL;rw[zG,ho,yv,zq,zq];walk_at "wq";rw[<- eR];refine isGreater_w k M8 o s r (lo o (hHs o (zn ho))) hrm.1 hrm.2.2 fun M9 g9=>?_;walk_at "wq";refine⟨fun h2=>?_,fun h2=>⟨g8.trans g9,?_⟩⟩
        ·rw[eO]
         walk_at "wq";exact⟨g8.trans g9,by simp[h2]⟩
        ·simp[h2]
       ·rintro ys M8 ⟨g8,rfl⟩
        rw[zz,zI];generalize hG:greatL s HL r=GL;generalize hM9:M8++[MO.lst (GL.map D.int)]=M9;have g9:Gr M5 M9:=hM9 ▸ (g7'.trans g8).snoc _;have h9:M9[M8.length]?=some (.lst (GL.map D.int)):=hM9 ▸ get_new _ _;clear hM9;generalize M8.length=j8 at h9 ⊢;walk_at "wq";refine⟨_,h9,?_⟩;walk_at "wq";refine⟨fun h2=>?_,fun h2=>⟨g9,?_,_,_,_,rfl⟩⟩
        ·have hne:GL≠[]:=fun z=>by rw[z]at h2;cases h2
         walk_at "wq";refine⟨_,h9,_,allI_map _,hne,by walk_at "o",?_⟩;have e:firstG s HL 0 rs=.tup [.str "greater",.int n,.int (minI GL)]:=by
          rw[ef];unfold firstG;rw[hG,if_pos (by rw[h];simpa using hne)]
         have:=q _ (g5'.trans g9)
         rw[e]at this;exact this
        ·have hG0:GL=[]:=by
          cases GL with
          | nil=>rfl
          | cons _ _=>cases h2
         rw[ef]
         conv=>lhs;unfold firstG
         rw[hG,hG0,if_neg (by simp)]
      ·refine⟨g7',?_,_,_,_,rfl⟩
       rw[ef]
       conv=>lhs;unfold firstG
       rw[h,if_neg (by simp)]
     ·rintro ρ M6 ⟨g6,ef,x8,x9,x10,rfl⟩
      rw[enumN,zz,ym]at ef;have e:firstG s HL 0 rs=.non:=ef;walk_at "wq"
      have:=q _ (g5'.trans g6)
      rw[e]at this;exact this
end
end Law
namespace Law
open PySem L3
section
variable {srt:List D->Option (List D)}
theorem there_w (k:Nat)(M:MH)(s:Say)(t:Int){Q:D->MH->Prop}(q:Q (.bl (standsB s t)) M):W ((cx srt (k + 1)).fn "_law_there" [sayD s,.int t]) M Q:=by
 rw[f__law_there,wf,b__law_there];unfold sayD;unfold standsB at q;walk_at "wq";refine⟨fun h=>⟨rfl,fun h2=>?_,fun h2=>?_⟩,fun h=>?_⟩
 ·have hg:s.gone=none:=by
   cases e:s.gone with
   | none=>rfl
   | some g=>rw[e]at h2;cases h2
  rw[hg,h]at q;exact q
 ·obtain⟨gv,hg⟩:∃ gv,s.gone=some gv:=by
   cases e:s.gone with
   | none=>rw[e]at h2;cases h2
   | some g=>exact⟨g,rfl⟩
  rw[hg,h]at q;rw[hg];unfold optD;walk_at "wq";exact q
 ·rw[h]at q
  exact q
theorem rules_w (k:Nat)(sc:List Int)(i:Int)(m:Nat)(M:MH){d:D}{as vs ns:List Str}{ot:Str}(P:Pool M d as vs ns ot){Q:D->MH->Prop}(h0:0<=i)(h1:i<=50000)(hm:m<=100)
  (q:∀ (rs:List Rule) (j:Nat) (M':MH),(∀ r∈rs,r.Ok as vs)->rs.length=m->Gr M M'->M.length<=j->M'[j]?=some (.lst (rs.map ruleD))->Q (.ob j) M') :
  W ((cx srt (k + 5)).fn "_law_rules" [.fl (sc.map .int),.int i,.int m,d]) M Q:=by
 have big:=line_big;have hn6:=P.n6;rw[f__law_rules,wf,b__law_rules];walk_at "wq";refine⟨by walk_at "o",⟨by walk_at "o",by walk_at "o"⟩,?_⟩;refine w_loop (fun n ρ M'=>Gr M M'/\(∃ rs:List Rule,M'[M.length]?=some (.lst (rs.map ruleD))/\(∀ r∈rs,r.Ok as vs)/\rs.length=n)/\∃ x5 x6 x7 x8 x9,ρ=[some (.fl (sc.map .int)),some (.int i),some (.int m),some d,some (.ob M.length),x5,x6,x7,x8,x9])
  ⟨Gr.app _ _,⟨[],get_new _ _,by simp,rfl⟩,none,none,none,none,none,rfl⟩ (fun _ _ _ _=>trivial) ?_ ?_
 ·rintro n e ρ M1 hd ⟨g,⟨rs,hrs,hok,hlen⟩,x5,x6,x7,x8,x9,rfl⟩
  obtain⟨rfl,hn⟩:=rng_get hd;have hnm:n < m:=by walk_at "o"
  obtain⟨ia,iv,iN,hdd,hia,hiv,hiN⟩:=(P.keep g).is;walk_at "wq";refine⟨.inl ⟨by walk_at "o",by walk_at "o"⟩,pick_w (k:=k + 2) sc _ _ M1 (by walk_at "o") (by walk_at "o") (by walk_at "o") ?_⟩;generalize hat:i + 20 * (0 + (n:Int))=at_;have hat0:0<=at_:=by walk_at "o"
  have hat1:at_<=60000:=by walk_at "o"
  have c0:=pick_lo sc (at_ + 16) (show (0:Int) < 6 by walk_at "o");generalize pickV sc (at_ + 16) 6=c at *;walk_at "wq";rw[hdd];walk_at "wq";refine⟨_,hiN,?_⟩;rw[cut_lo _ c0];refine⟨_,(Gr.app _ _).keep _ _ hiN,_,(Gr.app _ _).keep _ _ (get_new _ _),_,get_new _ _,?_⟩;rw[cut_hi _ c0,<- wy,<- yJ,<- zq];have hrl:(ns.drop c.toNat++ns.take c.toNat).length=6:=by rw[zp,yu,zB];walk_at "o"
  refine⟨by rw[<- zp,<- zq,zz,hrl];walk_at "o",?_⟩;generalize ns.drop c.toNat++ns.take c.toNat=rn at hrl ⊢;generalize hM2:M1++[MO.lst ((ns.drop c.toNat).map D.str)]++[MO.lst ((ns.take c.toNat).map D.str)]=M2;have g2:Gr M1 M2:=hM2 ▸ (Gr.app _ _).snoc _;clear hM2;generalize hM3:M2++[MO.lst (rn.map D.str)]=M3;have g3:Gr M1 M3:=hM3 ▸ g2.snoc _;have h3:M3[M2.length]?=some (.lst (rn.map D.str)):=hM3 ▸ get_new _ _;clear hM3;generalize M2.length=j3 at h3 ⊢;refine pick_w (k:=k + 2) sc _ _ M3 (by walk_at "o") (by walk_at "o") (by walk_at "o") ?_;have p0:=pick_lo sc (at_ + 17) (show (0:Int) < 3 by walk_at "o");generalize pickV sc (at_ + 17) 3=p at *;walk_at "wq";refine⟨_,h3,?_⟩;rw[cut_hi _ p0,<- yJ];have hsl:(rn.take p.toNat).length<=100:=by rw[zB];walk_at "o"
  generalize rn.take p.toNat=sn at hsl ⊢;generalize hM4:M3++[MO.lst (sn.map D.str)]=M4;have g4:Gr M1 M4:=hM4 ▸ g3.snoc _;have h4:M4[M3.length]?=some (.lst (sn.map D.str)):=hM4 ▸ get_new _ _;clear hM4;generalize M3.length=j4 at h4 ⊢;refine pick_w (k:=k + 2) sc _ _ M4 (by walk_at "o") (by walk_at "o") (by walk_at "o") ?_;obtain⟨a,ha,ha3⟩:=pick_nat sc (at_ + 18) (m:=3) (by walk_at "o");rw[show ((3:Nat):Int)=3 from rfl]at ha;rw[ha];walk_at "wq";rw[<- hdd];refine askings_w (k:=k) sc _ a M4 (P.keep (g.trans g4)) (by walk_at "o") (by walk_at "o") (by walk_at "o") fun xs M5 hxs hxl g5=>?_;walk_at "wq";refine⟨_,(g4.trans g5).keep _ _ hrs,pick_w (k:=k + 2) sc _ _ M5 (by walk_at "o") (by walk_at "o") (by walk_at "o") ?_⟩;obtain⟨b,hb,hb3⟩:=pick_nat sc (at_ + 19) (m:=3) (by walk_at "o");rw[show ((3:Nat):Int)=3 from rfl]at hb;rw[hb];walk_at "wq";refine askings_w (k:=k) sc _ b M5 (P.keep ((g.trans g4).trans g5)) (by walk_at "o") (by walk_at "o") (by walk_at "o") fun ys M6 hys hyl g6=>?_;have g6':=(g4.trans g5).trans g6;walk_at "wq";refine⟨_,(g5.trans g6).keep _ _ h4,by walk_at "o",_,g6'.keep _ _ hrs,by rw[zz];walk_at "o",(g.trans g6').set (zo _) _,?_,_,_,_,_,_,rfl⟩;refine⟨rs++[⟨xs,ys,sn⟩],?_,fun r hr=>?_,by rw[zp,hlen];rfl⟩
  ·rw[set_get (g6'.keep _ _ hrs),zq];rfl
  ·rcases zF.mp hr with h | h
   ·exact hok r h
   ·rw[zd.mp h]
    exact⟨hxs,hys,by show xs.length<=100;walk_at "o",by show ys.length<=100;walk_at "o",hsl⟩
 ·rintro ρ M1 ⟨g,⟨rs,hrs,hok,hlen⟩,x5,x6,x7,x8,x9,rfl⟩
  rw[rng_len]at hlen;walk_at "wq";exact q rs _ _ hok (by walk_at "o") g (zo _) hrs
end
end Law
namespace Law
open PySem L3
section
variable {srt:List D->Option (List D)}
structure Wld (M:MH) (js jq jr:Nat) (ss:List Say) (qs:List Qt) (rs:List Rule) (as vs:List Str):Prop where
 hs:M[js]?=some (.lst (ss.map sayD))
 hq:M[jq]?=some (.lst (qs.map qtD))
 hr:M[jr]?=some (.lst (rs.map ruleD))
 ls:ss.length < 64
 lq:qs.length < 4
 lr:rs.length<=1000
 ns:(ss.map (·.n)).Nodup
 nq:(qs.map (·.n)).Nodup
 gs:∀ s∈ss,Good s.ps
 oq:∀ q∈qs,(∀ a∈q.xs,a.Ok as vs)/\q.xs.length<=1000
 or:∀ r∈rs,r.Ok as vs
theorem Wld.keep {M M':MH}{js jq jr:Nat}{ss:List Say}{qs:List Qt}{rs:List Rule}{as vs:List Str}(w:Wld M js jq jr ss qs rs as vs)(g:Gr M M'):Wld M' js jq jr ss qs rs as vs :=
 ⟨g.keep _ _ w.hs,g.keep _ _ w.hq,g.keep _ _ w.hr,w.ls,w.lq,w.lr,w.ns,w.nq,w.gs,w.oq,w.or⟩
noncomputable def SortsI (srt:List D->Option (List D)):Prop:=∀ ns:List Int,ns.length < 64->srt (ns.map .int)=some ((sortI ns).map .int)
noncomputable def SortsQ (srt:List D->Option (List D)):Prop:=∀ qs:List Qt,qs.length < 4->(qs.map (·.n)).Nodup->∃ ws:List Qt,srt (qs.map qtD)=some (ws.map qtD)/\ws.Perm qs/\ws.Pairwise fun a b=>a.n<=b.n
theorem minI_eq {l:List Int}{x:Int}(hx:x∈l)(hle:∀ y∈l,x<=y):minI l=x:=by
 obtain⟨h1,h2⟩:=minI_mem (ns:=l) (fun z=>by rw[z]at hx;cases hx);exact wg (h2 x hx) (hle _ h1)
theorem pw_behind {α:Type}{r:α->α->Prop}(hr:∀ a,r a a){l:List α}(h:l.Pairwise r){n:Nat}{x y:α}(hx:l[n]?=some x)(hy:y∈l)(hn:y ∉ l.take n):r x y:=by
 rw[<- yL n l]at hy;rcases zF.mp hy with hy | hy
 ·exact absurd hy hn
 ·obtain⟨hlt,e⟩:=zr.mp hx
  have hd:l.drop n=x::l.drop (n + 1):=by rw[yx hlt,e]
  have:=h.drop (i:=n)
  rw[hd]at this hy;rcases zN.mp hy with rfl | hy
  ·exact hr _
  ·exact(xj.mp this).1 y hy
theorem eq_of_n {ss:List Say}(nd:(ss.map (·.n)).Nodup){a b:Say}(ha:a∈ss)(hb:b∈ss)(e:a.n=b.n):a=b:=by
 obtain⟨i,hi⟩:=xq ha;obtain⟨j,hj⟩:=xq hb;have l1:=(zr.mp hi).1;have l2:=(zr.mp hj).1
 have:i=j:=by
  refine(wx (i:=i) (j:=j) (h₀:=by rw[zz];exact l1) (h₁:=by rw[zz];exact l2) nd).mp ?_;rw[yX,yX,(zr.mp hi).2,(zr.mp hj).2,e]
 subst this;rw[hi]at hj;cases hj;rfl
theorem filter_n {ss:List Say}(nd:(ss.map (·.n)).Nodup){o:Say}(ho:o∈ss):ss.filter (fun x=>x.n==o.n)=[o]:=by
 induction ss with
 | nil=>cases ho
 | cons a r ih =>
  rw[ze,yb]at nd;rcases zN.mp ho with rfl | ho
  ·rw[List.filter_cons_of_pos (by simp)]
   congr 1;refine yc.mpr fun x hx h=>nd.1 ?_
   have:x.n=o.n:=by simpa using h
   exact this ▸ zS hx
  ·have hne:¬ a.n=o.n:=fun e=>nd.1 (e ▸ zS ho)
   rw[List.filter_cons_of_neg (by simpa using hne)];exact ih nd.2 ho
noncomputable def tells (s o:Say)(r:Rule)(t:Int):Bool:=(standsB o t&&decide (s.w < o.w))&&(sameB s.ps o.ps r.ns&&meetA r.a o.ps)
theorem mem_great {s o:Say}{ss:List Say}{r:Rule}{t:Int}(nd:(ss.map (·.n)).Nodup)(ho:o∈ss):o.n∈greatL s (heavL s ss t) r ↔ tells s o r t=true:=by
 unfold greatL heavL tells isGr;constructor
 ·intro h
  obtain⟨x,hx,e⟩:=zC.mp h;obtain⟨h1,h2⟩:=yw.mp hx;obtain⟨h3,h4⟩:=yw.mp h1
  have:=eq_of_n nd h3 ho e
  subst this;simp only[zc]at h2 h4 ⊢;exact⟨⟨h4.2,h4.1⟩,h2.2,h2.1⟩
 ·intro h
  simp only[zc]at h;exact zC.mpr ⟨o,yw.mpr ⟨yw.mpr ⟨ho,by rw[h.1.1,h.1.2];rfl⟩,by rw[h.2.1,h.2.2];rfl⟩,rfl⟩
theorem great_in {s:Say}{ss:List Say}{r:Rule}{t:Int}{x:Int}(h:x∈greatL s (heavL s ss t) r):∃ o∈ss,o.n=x:=by
 unfold greatL heavL at h;obtain⟨o,ho,e⟩:=zC.mp h;exact⟨o,(yw.mp (yw.mp ho).1).1,e⟩
end
end Law
namespace Law
open PySem L3
section
variable {srt:List D->Option (List D)}
theorem lawGround_w (hI:SortsI srt)(hQ:SortsQ srt)(k:Nat)(M:MH){js jq jr:Nat}{ss:List Say}{qs:List Qt}{rs:List Rule}{as vs:List Str}(w:Wld M js jq jr ss qs rs as vs)(s:Say)(hs:s∈ss)(t:Int){Q:D->MH->Prop}
  (q:∀ M',Gr M M'->Q (groundV s ss qs rs t) M'):W ((cx srt (k + 4)).fn "_law_ground" [sayD s,.ob js,.ob jq,.ob jr,.int t]) M Q:=by
 have big:=line_big;have eS:sayD s=.tup [.int s.n,.tup (s.ps.map prD),.int s.w,.int s.came,optD s.gone]:=rfl;have Gs:=w.gs s hs;have ls:=w.ls;have lq:=w.lq;have lr:=w.lr;obtain⟨ws,hws,hwp,hwo⟩:=hQ qs w.lq w.nq;rw[f__law_ground,wf,b__law_ground];walk_at "wq";refine⟨_,w.hq,_,hws,?_⟩;generalize hM1:M++[MO.lst (ws.map qtD)]=M1;have g1:Gr M M1:=hM1 ▸ Gr.app _ _;have h1:M1[M.length]?=some (.lst (ws.map qtD)):=hM1 ▸ get_new _ _;clear hM1;generalize M.length=j1 at h1 ⊢;walk_at "wq";refine⟨_,h1,?_⟩;refine w_loop (fun n ρ M'=>Gr M1 M'/\(∀ y∈ws.take n,(forceB y t&&meetA y.xs s.ps)=false)/\∃ x5,ρ=[some (sayD s),some (.ob js),some (.ob jq),some (.ob jr),some (.int t),x5,none,none,none,none,none,none]) ⟨Gr.refl,by simp,none,rfl⟩ (fun _ _ _ h=>h.1.keep _ _ h1) ?_ ?_
 ·rintro n d ρ M2 hd ⟨g2,hno,x5,rfl⟩
  rw[zu]at hd;obtain⟨x,hx,rfl⟩:=zt.mp hd;have hxq:x∈qs:=hwp.mem_iff.mp (zn hx);have eX:qtD x=.tup [.int x.n,.tup (x.xs.map askD),.int x.fst,.int x.lst]:=rfl;have step:(forceB x t&&meetA x.xs s.ps)=false->∀ y∈ws.take (n + 1),(forceB y t&&meetA y.xs s.ps)=false:=fun h y hy=>by
   rw[zG,hx]at hy;rcases zF.mp hy with hy | hy
   ·exact hno y hy
   ·simp at hy
    subst hy;exact h
  walk_at "wq";rw[eX];walk_at "wq";refine⟨fun h=>⟨fun h2=>?_,fun h2=>⟨g2,step ?_,_,rfl⟩⟩,fun h=>⟨g2,step ?_,_,rfl⟩⟩
  ·rw[eS]
   walk_at "wq";rw[<- eS];refine lets_w (k + 1) M2 x.xs (w.oq x hxq).1 (w.oq x hxq).2 s.ps Gs fun M3 g3=>?_;walk_at "wq";have hf:forceB x t=true:=by unfold forceB;rw[h,h2];rfl
   refine⟨fun h3=>?_,fun h3=>⟨g2.trans g3,step (by rw[h3,yG]),_,rfl⟩⟩;walk_at "wq";refine⟨by walk_at "o",?_⟩;have hmem:x.n∈toldL s qs t:=zC.mpr ⟨x,yw.mpr ⟨hxq,by rw[hf,h3];rfl⟩,rfl⟩;have e:groundV s ss qs rs t=.tup [.str "told",.int x.n]:=by
    unfold groundV;rw[if_neg (by intro z;rw[xm.mp z]at hmem;cases hmem),minI_eq hmem fun y hy=>?_];obtain⟨z,hz,rfl⟩:=zC.mp hy;obtain⟨z1,z2⟩:=yw.mp hz;refine pw_behind (r:=fun a b:Qt=>a.n<=b.n) (fun a=>wB _) hwo hx (hwp.mem_iff.mpr z1) fun z3=>?_;rw[hno z z3]at z2;cases z2
   have:=q _ ((g1.trans g2).trans g3)
   rw[e]at this;exact this
  ·unfold forceB;rw[h2,yG];rfl
  ·unfold forceB;rw[h];rfl
 ·rintro ρ M2 ⟨g2,hno,x5,rfl⟩
  rw[zz,zI]at hno;have hT:toldL s qs t=[]:=by
   unfold toldL;rw[yc.mpr fun y hy=>?_,yO];rw[hno y (hwp.mem_iff.mpr hy)];exact zi
  have eg:groundV s ss qs rs t=firstG s (heavL s ss t) 0 rs:=by
   unfold groundV;rw[hT];rfl
  rw[eg]at q;clear eg hT hno;rw[eS];walk_at "wq";refine⟨_,pairs_kv s.ps,?_⟩;rw[dict_of Gs];generalize hM3:M2++[MO.dic (kvsOf s.ps)]=M3;have g3:Gr M M3:=(g1.trans g2).trans (hM3 ▸ Gr.app _ _);have h3:M3[M2.length]?=some (.dic (kvsOf s.ps)):=hM3 ▸ get_new _ _;clear hM3;generalize M2.length=j3 at h3 ⊢;walk_at "wq";refine⟨_,g3.keep _ _ w.hr,?_⟩;rw[k_lenl,zz];refine⟨⟨by walk_at "o",by walk_at "o"⟩,?_⟩;rw[<- eS];refine w_loop (fun n ρ M'=>Gr M3 M'/\firstG s (heavL s ss t) 0 rs=firstG s (heavL s ss t) n (rs.drop n)/\∃ x5 x7 x8 x9 x10 x11,ρ=[some (sayD s),some (.ob js),some (.ob jq),some (.ob jr),some (.int t),x5,some (.ob j3),x7,x8,x9,x10,x11]) ⟨Gr.refl,rfl,_,_,_,_,_,_,rfl⟩ (fun _ _ _ _=>trivial) ?_ ?_
  ·rintro n d ρ M4 hd ⟨g4,ef,x5,x7,x8,x9,x10,x11,rfl⟩
   obtain⟨rfl,hn⟩:=rng_get hd;have hnr:n < rs.length:=by walk_at "o"
   rw[wk];obtain⟨r,hr⟩:∃ r,rs[n]?=some r:=⟨_,zv hnr⟩;have hrg:=(zr.mp hr).2;have ok:=w.or r (zn hr)
   have:=ok.la
   have:=ok.lb
   have:=ok.ln
   rw[yx hnr,hrg]at ef;have ar:atD (rs.map ruleD) (n:Int)=some (ruleD r):=atD_nat (by rw[zu,hr];rfl);have eR:ruleD r=.tup [.tup (r.a.map askD),.tup (r.b.map askD),.tup (r.ns.map .str)]:=rfl;have w4:=w.keep (g3.trans g4);walk_at "wq";refine⟨_,w4.hr,?_⟩;walk_at "wq";refine⟨_,ar,?_⟩;rw[eR,eS];walk_at "wq";refine lets_w (k + 1) M4 r.b ok.b (by walk_at "o") s.ps Gs fun M5 g5=>?_;rw[<- eS];have g5':=g4.trans g5;walk_at "wq";refine⟨fun hb=>?_,fun hb=>⟨g5',?_,_,_,_,_,_,_,rfl⟩⟩
   ·walk_at "wq"
    have w5:=w.keep (g3.trans g5');refine⟨_,w5.hs,by rw[zz];walk_at "o",?_⟩;refine w_compI (fun j ys M'=>M'=M5/\ys=((ss.take j).map (·.n)).map D.int) ⟨rfl,rfl⟩ (fun _ _ _ h=>by rw[h.1];exact w5.hs) ?_ ?_
    ·rintro j d ys M' hd ⟨rfl,rfl⟩
     rw[zu]at hd;obtain⟨o,ho,rfl⟩:=zt.mp hd;have eO:sayD o=.tup [.int o.n,.tup (o.ps.map prD),.int o.w,.int o.came,optD o.gone]:=rfl;rw[eO];walk_at "wq";rw[zG,ho];simp
    ·rintro ys M' ⟨rfl,rfl⟩
     rw[zz,zI];walk_at "wq";refine⟨_,get_new _ _,_,hI _ (by rw[zz];exact ls),?_⟩;generalize hM6:M'++[MO.lst ((ss.map (·.n)).map D.int)]=M6;have g6:Gr M' M6:=hM6 ▸ Gr.app _ _;clear hM6;generalize hM7:M6++[MO.lst ((sortI (ss.map (·.n))).map D.int)]=M7;have g7:Gr M3 M7:=(g5'.trans g6).trans (hM7 ▸ Gr.app _ _);have h7:M7[M6.length]?=some (.lst ((sortI (ss.map (·.n))).map D.int)):=hM7 ▸ get_new _ _;clear hM7 g6;generalize M6.length=j7 at h7 ⊢;have sp:=sortI_perm (ss.map (·.n));have so:=sortI_pw (ss.map (·.n));generalize sortI (ss.map (·.n))=nl at h7 sp so;walk_at "wq";refine⟨_,h7,?_⟩;refine w_loop (fun m ρ M'=>Gr M7 M'/\(∀ y∈nl.take m,y ∉ greatL s (heavL s ss t) r)/\∃ x5 x8 x9 x10 x11,ρ=[some (sayD s),some (.ob js),some (.ob jq),some (.ob jr),some (.int t),x5,some (.ob j3),some (.int n),x8,x9,x10,x11]) ⟨Gr.refl,by simp,_,_,_,_,_,rfl⟩ (fun _ _ _ h=>h.1.keep _ _ h7) ?_ ?_
     ·rintro m d ρ M8 hd ⟨g8,hno,x5,x8,x9,x10,x11,rfl⟩
      rw[zu]at hd;obtain⟨x,hx,rfl⟩:=zt.mp hd;obtain⟨o,ho,rfl⟩:=zC.mp (sp.mem_iff.mp (zn hx));have g8':=g7.trans g8;have w8:=w.keep (g3.trans g8');have Go:=w.gs o ho;have eO:sayD o=.tup [.int o.n,.tup (o.ps.map prD),.int o.w,.int o.came,optD o.gone]:=rfl;have step:tells s o r t=false->∀ y∈nl.take (m + 1),y ∉ greatL s (heavL s ss t) r:=fun h y hy=>by
       rw[zG,hx]at hy;rcases zF.mp hy with hy | hy
       ·exact hno y hy
       ·simp at hy
        subst hy;intro z;rw[(mem_great w.ns ho).mp z]at h;cases h
      walk_at "wq";refine⟨_,w8.hs,by rw[zz];walk_at "o",?_⟩;refine w_compI (fun j ys M'=>M'=M8/\ys=((ss.take j).filter fun y=>y.n==o.n).map sayD) ⟨rfl,rfl⟩ (fun _ _ _ h=>by rw[h.1];exact w8.hs) ?_ ?_
      ·rintro j d ys M' hd ⟨rfl,rfl⟩
       rw[zu]at hd;obtain⟨y,hy,rfl⟩:=zt.mp hd;have eY:sayD y=.tup [.int y.n,.tup (y.ps.map prD),.int y.w,.int y.came,optD y.gone]:=rfl;rw[zG,hy,yv,zq,eY];walk_at "wq";rw[<- eY];refine⟨fun h=>?_,fun h=>?_⟩ <;> simp[h]
      ·rintro ys M' ⟨rfl,rfl⟩
       rw[zz,zI,filter_n w.ns ho];generalize hM9:M'++[MO.lst ([o].map sayD)]=M9;have g9:Gr M' M9:=hM9 ▸ Gr.app _ _;have h9:M9[M'.length]?=some (.lst [sayD o]):=hM9 ▸ get_new _ _;clear hM9;generalize M'.length=j9 at h9 ⊢;walk_at "wq";refine⟨_,h9,?_⟩;walk_at "wq";rw[eO];walk_at "wq";refine⟨_,pairs_kv o.ps,?_⟩;rw[dict_of Go,<- eO];generalize hMa:M9++[MO.dic (kvsOf o.ps)]=Ma;have ga:Gr M9 Ma:=hMa ▸ Gr.app _ _;have ha:Ma[M9.length]?=some (.dic (kvsOf o.ps)):=hMa ▸ get_new _ _;clear hMa;generalize M9.length=ja at ha ⊢;have ga':=(g8'.trans g9).trans ga;have gb:Gr M7 Ma:=(g8.trans g9).trans ga;walk_at "wq";refine⟨_,ga'.keep _ _ (w.keep g3).hr,?_⟩;walk_at "wq";refine⟨_,ar,?_⟩;rw[eR];walk_at "wq";refine⟨by rw[zz];walk_at "o",?_⟩;have h3a:=ga'.keep _ _ h3;refine w_compI (fun j ys M'=>M'=Ma/\ys=((r.ns.take j).filter fun n=>!(valV s.ps n==valV o.ps n)).map D.str) ⟨rfl,rfl⟩ (fun _ _ _ _=>trivial) ?_ ?_
       ·rintro j d ys M' hd ⟨rfl,rfl⟩
        rw[zu]at hd;obtain⟨nm,hnm,rfl⟩:=zt.mp hd;rw[zG,hnm,yv,zq];walk_at "wq";refine⟨_,h3a,?_⟩;walk_at "wq";refine⟨_,h3a,_,ha,?_⟩;walk_at "wq";refine⟨_,ha,?_⟩;rw[get_of,get_of];walk_at "wq";refine⟨fun h=>?_,fun h=>?_⟩
        ·simp only[yP]at h
         simp[h]
        ·simp only[Bool.not_eq_false']at h
         simp[h]
       ·rintro ys M' ⟨rfl,rfl⟩
        rw[zz,zI];generalize hul:r.ns.filter (fun n=>!(valV s.ps n==valV o.ps n))=ul;have esame:sameB s.ps o.ps r.ns=ul.isEmpty:=by
         unfold sameB;rw[<- hul,yI,xm,yc,zV];exact⟨fun h a ha'=>by rw[h a ha'];decide,fun h a ha'=>by simpa using h a ha'⟩
        generalize hMc:M'++[MO.lst (ul.map D.str)]=Mc;have gc:Gr M7 Mc:=hMc ▸ gb.snoc _;have hc:Mc[M'.length]?=some (.lst (ul.map D.str)):=hMc ▸ get_new _ _;clear hMc hul;generalize M'.length=jc at hc ⊢;walk_at "wq";refine there_w (k + 2) Mc o t ?_;walk_at "wq";refine⟨fun h=>?_,fun h=>⟨gc,step (by unfold tells;rw[h];rfl),_,_,_,_,_,rfl⟩⟩;rw[eO,eS];walk_at "wq";rw[<- eO,<- eS];refine⟨fun h2=>?_,fun h2=>⟨gc,step (by unfold tells;rw[h2,yG];rfl),_,_,_,_,_,rfl⟩⟩;refine⟨by walk_at "o",?_⟩;rw[p_eq];refine⟨_,eo_nil ((Gr.app _ _).keep _ _ hc) (get_new _ _),?_⟩;generalize hMe:Mc++[MO.lst []]=Me;have ge:Gr M7 Me:=hMe ▸ gc.snoc _;clear hMe;rw[xF,<- esame];walk_at "wq";refine⟨fun h4=>?_,fun h4=>⟨ge,step (by unfold tells;rw[h4,xO,yG]),_,_,_,_,_,rfl⟩⟩;walk_at "wq";refine⟨_,(g7.trans ge).keep _ _ (w.keep g3).hr,?_⟩;walk_at "wq";refine⟨_,ar,?_⟩;rw[eR,eO];walk_at "wq";refine lets_w (k + 1) Me r.a ok.a (by walk_at "o") o.ps Go fun Mf gf=>?_;rw[<- eO];have gf':=ge.trans gf;walk_at "wq";refine⟨fun h5=>?_,fun h5=>⟨gf',step (by unfold tells;rw[h5,yG,yG]),_,_,_,_,_,rfl⟩⟩;walk_at "wq";refine⟨by walk_at "o",?_⟩;have ht:tells s o r t=true:=by unfold tells;rw[h,h2,h4,h5];rfl
        have hmem:=(mem_great w.ns ho).mpr ht;have e:firstG s (heavL s ss t) 0 rs=.tup [.str "greater",.int n,.int o.n]:=by
         rw[ef];unfold firstG;rw[if_pos ?_,minI_eq hmem fun y hy=>?_]
         ·obtain⟨z,hz,rfl⟩:=great_in hy
          exact pw_behind (r:=fun a b:Int=>a<=b) (fun a=>wB _) so hx (sp.mem_iff.mpr (zS hz)) fun z3=>hno _ z3 hy
         ·rw[hb,wz,yP]
          cases hg:greatL s (heavL s ss t) r with
          | nil=>rw[hg]at hmem;cases hmem
          | cons _ _=>rfl
        have:=q _ ((g3.trans g7).trans gf')
        rw[e]at this;exact this
     ·rintro ρ M8 ⟨g8,hno,x5,x8,x9,x10,x11,rfl⟩
      rw[zz,zI]at hno;walk_at "wq";refine⟨g7.trans g8,?_,_,_,_,_,_,_,rfl⟩;rw[ef]
      conv=>lhs;unfold firstG
      have hg:greatL s (heavL s ss t) r=[]:=by
       refine List.eq_nil_iff_forall_not_mem.mpr fun y hy=>?_;obtain⟨z,hz,rfl⟩:=great_in hy;exact hno _ (sp.mem_iff.mpr (zS hz)) hy
      rw[hg,if_neg (by simp)]
   ·rw[ef]
    conv=>lhs;unfold firstG
    rw[hb,if_neg (by simp)]
  ·rintro ρ M4 ⟨g4,ef,x5,x7,x8,x9,x10,x11,rfl⟩
   rw[rng_len]at ef;rw[show ((rs.length:Int) - 0).toNat=rs.length by walk_at "o",ym]at ef;have e:firstG s (heavL s ss t) 0 rs=.non:=ef;walk_at "wq"
   have:=q _ (g3.trans g4)
   rw[e]at this;exact this
end
end Law
namespace Law
open PySem L3
section
variable {srt:List D->Option (List D)}
noncomputable def gkK (g:Gp):List (List Ky):=[g.1.map .inl,g.2.map .inr]
theorem kys_ints:∀ p:List Int,kysD (p.map .int)=some (p.map .inl)
 | []=>rfl
 | i::p=>by rw[ze,kysD,kys_ints p];rfl
theorem kys_strs:∀ p:List Str,kysD (p.map .str)=some (p.map .inr)
 | []=>rfl
 | i::p=>by rw[ze,kysD,kys_strs p];rfl
theorem kyT_g (g:Gp):kyT (gkD g)=some (gkK g):=by
 show kysT [.tup (g.1.map .int),.tup (g.2.map .str)]=_;simp only[kysT,kyP,kys_ints,kys_strs];rfl
theorem keyD_g (g:Gp):keyD2 (gkK g)=gkD g:=by
 unfold keyD2 gkK gkD plD;simp only[ze,yO,zP];rfl
theorem gkK_inj {g h:Gp}(e:gkK g=gkK h):g=h:=by
 unfold gkK at e;injection e with e1 e2
 injection e2 with e2 _
 have h1:=(xV (fun a b h=>Sum.inl.inj h)).mp e1;have h2:=(xV (fun a b h=>Sum.inr.inj h)).mp e2;exact Prod.ext h1 h2
noncomputable abbrev En:=Nat×Gp×List Int
noncomputable def kvE (E:List En):List (List (List Ky)×D):=E.map fun e=>(gkK e.2.1,.ob e.1)
theorem nd_inj {α β:Type}{f:α->β}:∀ {l:List α} {x y:α},(l.map f).Nodup->x∈l->y∈l->f x=f y->x=y
 | a::l,x,y,h,hx,hy,e=>by
  rw[ze,yb]at h;rcases zN.mp hx with e1 | h1
  ·rcases zN.mp hy with e2 | h2
   ·rw[e1,e2]
   ·exact absurd (by rw[<- e1,e];exact zS h2) h.1
  ·rcases zN.mp hy with e2 | h2
   ·exact absurd (by rw[<- e2,<- e];exact zS h1) h.1
   ·exact nd_inj h.2 h1 h2 e
theorem tk_some:∀ {E:List En} {e:En},(E.map (·.2.1)).Nodup->e∈E->tkGet (kvE E) (gkK e.2.1)=some (.ob e.1)
 | a::E,e,h,he=>by
  rw[ze,yb]at h;unfold tkGet kvE;rw[ze,yt];rcases zN.mp he with rfl | he
  ·simp
  ·have hne:¬ gkK a.2.1=gkK e.2.1:=fun z=>h.1 (gkK_inj z ▸ zS he)
   rw[decide_eq_false hne];exact tk_some h.2 he
theorem tk_none {E:List En}{g:Gp}(h:g ∉ E.map (·.2.1)):tkGet (kvE E) (gkK g)=none:=by
 unfold tkGet kvE;rw[xW.mpr]
 ·rfl
 ·intro x hx
  obtain⟨e,he,rfl⟩:=zC.mp hx
  have:¬ gkK e.2.1=gkK g:=fun z=>h (gkK_inj z ▸ zS he)
  simpa using this
theorem tk_put {E:List En}{g:Gp}(h:g ∉ E.map (·.2.1))(j:Nat):tkPut (kvE E) (gkK g) (.ob j)=kvE (E++[(j,g,[])]):=by
 unfold tkPut;rw[if_neg]
 ·unfold kvE
  rw[zq];rfl
 ·rw[xn]
  rintro ⟨x,hx,hd⟩;obtain⟨e,he,rfl⟩:=zC.mp hx;exact h (gkK_inj (of_decide_eq_true hd) ▸ zS he)
theorem sdf_some {kvs:List (List (List Ky)×D)}{q:List (List Ky)}{d v:D}{k:Nat}{M:MH}{Q:D->MH->Prop}(h:tkGet kvs q=some d)(hq:Q d M):W (sdfD k kvs q v) M Q:=by
 unfold sdfD;rw[h];exact(w_pure _ _ _).mpr hq
theorem sdf_none {kvs:List (List (List Ky)×D)}{q:List (List Ky)}{v:D}{k:Nat}{M:MH}{o:MO}{Q:D->MH->Prop}(h:tkGet kvs q=none)(ho:M[k]?=some o)(hq:Q v (M.set k (.dtt (tkPut kvs q v)))):W (sdfD k kvs q v) M Q:=by
 unfold sdfD;rw[h];dsimp only;rw[w_bind,w_putM];exact⟨lt_of_get ho,(w_pure _ _ _).mpr hq⟩
noncomputable abbrev Pr:=Gp×Int
noncomputable def numsOf (P:List Pr)(g:Gp):List Int:=(P.filter fun p=>decide (p.1=g)).map (·.2)
theorem nums_app (P:List Pr)(g h:Gp)(n:Int):numsOf (P++[(h,n)]) g=numsOf P g++(if h=g then [n] else []):=by
 unfold numsOf;rw[yv,zq];congr 1;by_cases e:h=g
 ·rw[if_pos e];simp[e]
 ·rw[if_neg e];simp[e]
structure DM (M:MH) (jd:Nat) (E:List En) (P:List Pr):Prop where
 d:M[jd]?=some (.dtt (kvE E))
 o:∀ e∈E,jd < e.1/\M[e.1]?=some (.lst (e.2.2.map .int))
 nd:(E.map (·.2.1)).Nodup
 nj:(E.map (·.1)).Nodup
 ks:∀ g,g∈E.map (·.2.1) ↔ g∈P.map (·.1)
 vs:∀ e∈E,e.2.2=numsOf P e.2.1
 len:E.length<=P.length
theorem DM.keep {M M':MH}{jd:Nat}{E:List En}{P:List Pr}(h:DM M jd E P)(g:Gr M M'):DM M' jd E P:=⟨g.keep _ _ h.d,fun e he=>⟨(h.o e he).1,g.keep _ _ (h.o e he).2⟩,h.nd,h.nj,h.ks,h.vs,h.len⟩
theorem nums_len (P:List Pr)(g:Gp):(numsOf P g).length<=P.length:=by
 unfold numsOf;rw[zz];exact yA _ _
theorem put_w {M:MH}{jd:Nat}{E:List En}{P:List Pr}(h:DM M jd E P)(g:Gp)(n:Int)(hP:P.length<=1000){F:D->MH->Prop}
  (q:∀ E' M',DM M' jd E' (P++[(g,n)])->M.length<=M'.length->(∀ (i:Nat) (o:MO),M[i]?=some o->i≠jd->(∀ e∈E,e.1≠i)->M'[i]?=some o)->(∀ e∈E',(∃ e0∈E,e0.1=e.1)\/e.1=M.length)->F .non M') :
  W (sdfD jd (kvE E) (gkK g) (.ob M.length)) (M++[.lst []]) fun x M1=>∃ ds,M1[jd]?=some (.dtt ds)/\∃ j,x=.ob j/\∃ l,M1[j]?=some (.lst l)/\l.length < zh/\F .non (M1.set j (.lst (l++[.int n]))):=by
 have big:=line_big;have hlt:=lt_of_get h.d;have keep:=(Gr.app M [MO.lst []]).keep;by_cases hg:g∈E.map (·.2.1)
 ·obtain⟨e,he,rfl⟩:=zC.mp hg
  obtain⟨o1,o2⟩:=h.o e he;have hel:=lt_of_get o2;have o2':=keep _ _ o2;have hvl:e.2.2.length<=1000:=by rw[h.vs e he];exact zH (nums_len _ _) hP
  refine sdf_some (tk_some h.nd he) ⟨_,keep _ _ h.d,_,rfl,_,o2',by rw[zz];walk_at "o",?_⟩;have inj:∀ x∈E,x.2.1=e.2.1->x=e:=fun x hx z=>nd_inj h.nd hx he z;have injj:∀ x∈E,x.1=e.1->x=e:=fun x hx z=>nd_inj h.nj hx he z;let f:En->En:=fun x=>if x.2.1=e.2.1 then (x.1,x.2.1,x.2.2++[n]) else x
  have f1:∀ x,(f x).1=x.1:=fun x=>by show (if _ then _ else _:En).1=_;split <;> rfl
  have f2:∀ x,(f x).2.1=x.2.1:=fun x=>by show (if _ then _ else _:En).2.1=_;split <;> rfl
  have m1:(E.map f).map (·.1)=E.map (·.1):=by rw[zP];exact zY fun x _=>f1 x
  have m2:(E.map f).map (·.2.1)=E.map (·.2.1):=by rw[zP];exact zY fun x _=>f2 x
  refine q (E.map f) _ ⟨?_,fun x hx=>?_,by rw[m2];exact h.nd,by rw[m1];exact h.nj,fun z=>?_,fun x hx=>?_,?_⟩ ?_ (fun i o ho hi hE=>?_) fun x hx=>?_
  ·rw[zk (by walk_at "o"),keep _ _ h.d]
   unfold kvE;rw[zP];congr 2;exact zY fun x _=>by show _=(gkK (f x).2.1,D.ob (f x).1);rw[f1,f2]
  ·obtain⟨y,hy,rfl⟩:=zC.mp hx
   rw[f1];obtain⟨p1,p2⟩:=h.o y hy;refine⟨p1,?_⟩;by_cases z:y.2.1=e.2.1
   ·have:=inj y hy z
    subst this;rw[set_get o2'];show _=some (MO.lst ((if y.2.1=y.2.1 then (y.1,y.2.1,y.2.2++[n]) else y:En).2.2.map D.int));rw[if_pos rfl,zq];rfl
   ·rw[zk (fun w=>z (by rw[injj y hy w.symm])),keep _ _ p2]
    show _=some (MO.lst ((if y.2.1=e.2.1 then (y.1,y.2.1,y.2.2++[n]) else y:En).2.2.map D.int));rw[if_neg z]
  ·rw[m2,zq]
   refine(h.ks z).trans ⟨fun w=>yE _ w,fun w=>?_⟩;rcases zF.mp w with w | w
   ·exact w
   ·have:z=e.2.1:=by simpa using w
    rw[this];exact(h.ks _).mp hg
  ·obtain⟨y,hy,rfl⟩:=zC.mp hx
   rw[f2,nums_app,<- h.vs y hy];show (if y.2.1=e.2.1 then (y.1,y.2.1,y.2.2++[n]) else y:En).2.2=_;by_cases z:y.2.1=e.2.1
   ·rw[if_pos z,if_pos z.symm]
   ·rw[if_neg z,if_neg (Ne.symm z),zT]
  ·rw[zz,zp]
   exact xv h.len
  ·rw[zU,zp]
   exact yQ _
  ·rw[zk (hE e he)]
   exact keep _ _ ho
  ·obtain⟨y,hy,rfl⟩:=zC.mp hx
   exact .inl ⟨y,hy,(f1 y).symm⟩
 ·refine sdf_none (tk_none hg) (keep _ _ h.d) ?_
  rw[tk_put hg];have hl:((M++[MO.lst []]).set jd (.dtt (kvE (E++[(M.length,g,[])]))))[M.length]?=some (.lst []):=by
   rw[zk (by walk_at "o")];exact get_new _ _
  have lE:∀ e∈E,e.1 < M.length:=fun e he=>lt_of_get (h.o e he).2;refine⟨_,set_get (keep _ _ h.d),_,rfl,_,hl,by show 0 < _;walk_at "o",?_⟩;refine q (E++[(M.length,g,[n])]) _ ⟨?_,fun x hx=>?_,?_,?_,fun z=>?_,fun x hx=>?_,?_⟩ ?_ (fun i o ho hi hE=>?_) fun x hx=>?_
  ·rw[zk (by walk_at "o"),set_get (keep _ _ h.d)]
   unfold kvE;rw[zq,zq];rfl
  ·rcases zF.mp hx with hx | hx
   ·obtain⟨p1,p2⟩:=h.o x hx
    refine⟨p1,?_⟩;rw[zk (by have:=lE x hx;walk_at "o"),zk (by walk_at "o")];exact keep _ _ p2
   ·rw[zd.mp hx]
    exact⟨hlt,set_get hl⟩
  ·rw[zq,yd]
   exact⟨h.nd,by simp,fun a ha b hb z=>hg (by rw[show g=b by simpa using (zd.mp hb).symm,<- z];exact ha)⟩
  ·rw[zq,yd]
   refine⟨h.nj,by simp,fun a ha b hb z=>?_⟩;obtain⟨x,hx,rfl⟩:=zC.mp ha
   have:=lE x hx
   have:b=M.length:=zd.mp hb
   walk_at "o"
  ·rw[zq,zq,zF,zF,h.ks z]
   rfl
  ·rcases zF.mp hx with hx | hx
   ·have:¬ g=x.2.1:=fun z=>hg (z ▸ zS hx)
    rw[nums_app,if_neg this,zT];exact h.vs x hx
   ·rw[zd.mp hx]
    show [n]=numsOf (P++[(g,n)]) g;rw[nums_app,if_pos rfl]
    have:numsOf P g=[]:=by
     unfold numsOf;rw[yc.mpr]
     ·rfl
     ·intro p hp z
      exact hg ((h.ks g).mpr (by rw[<- of_decide_eq_true z];exact zS hp))
    rw[this];rfl
  ·rw[zp,zp]
   exact wG h.len _
  ·rw[zU,zU,zp]
   exact yQ _
  ·rw[zk (by have:=lt_of_get ho;walk_at "o"),zk (by walk_at "o")]
   exact keep _ _ ho
  ·rcases zF.mp hx with hx | hx
   ·exact .inl ⟨x,hx,rfl⟩
   ·rw[zd.mp hx]
    exact .inr rfl
end
end Law
namespace Law
open PySem L3
section
variable {srt:List D->Option (List D)}
structure SortsG (srt:List D->Option (List D)) (lt:Gp->Gp->Bool):Prop where
 as:∀ a b,lt a b=true->lt b a=true->False
 so:∀ gs:List Gp,gs.length < 64->gs.Nodup->∃ gs':List Gp,srt (gs.map gkD)=some (gs'.map gkD)/\gs'.Perm gs/\gs'.Pairwise fun a b=>lt a b=true
structure IsMem (lt:Gp->Gp->Bool) (P:List Pr) (L:List (Gp×List Int)):Prop where
 up:(L.map (·.1)).Pairwise fun a b=>lt a b=true
 ks:∀ g,g∈L.map (·.1) ↔ g∈P.map (·.1)
 vs:∀ x∈L,x.2=sortI (numsOf P x.1)
theorem rise_ext {lt:Gp->Gp->Bool}(as:∀ a b,lt a b=true->lt b a=true->False):∀ {l l':List Gp},(l.Pairwise fun a b=>lt a b=true)->(l'.Pairwise fun a b=>lt a b=true)->(∀ a,a∈l ↔ a∈l')->l=l'
 | [],[],_,_,_=>rfl
 | [],b::r,_,_,h=>absurd ((h b).mpr zD) (by simp)
 | a::r,[],_,_,h=>absurd ((h a).mp zD) (by simp)
 | a::r,b::r',h1,h2,h=>by
  rw[xj]at h1 h2;have e:a=b:=by
   rcases zN.mp ((h a).mp zD) with e | e
   ·exact e
   ·rcases zN.mp ((h b).mpr zD) with e' | e'
    ·exact e'.symm
    ·exact(as _ _ (h2.1 a e) (h1.1 b e')).elim
  subst e;have n1:a ∉ r:=fun z=>as a a (h1.1 a z) (h1.1 a z);have n2:a ∉ r':=fun z=>as a a (h2.1 a z) (h2.1 a z);rw[rise_ext as h1.2 h2.2 fun x=>⟨fun z=>?_,fun z=>?_⟩]
  ·rcases zN.mp ((h x).mp (zK _ z)) with e | e
   ·exact absurd (e ▸ z) n1
   ·exact e
  ·rcases zN.mp ((h x).mpr (zK _ z)) with e | e
   ·exact absurd (e ▸ z) n2
   ·exact e
theorem mem_uniq {lt:Gp->Gp->Bool}(as:∀ a b,lt a b=true->lt b a=true->False){P P':List Pr}{L L':List (Gp×List Int)}(h:IsMem lt P L)(h':IsMem lt P' L')(p:P.Perm P'):L=L':=by
 have e:L.map (·.1)=L'.map (·.1):=rise_ext as h.up h'.up fun g=>(h.ks g).trans (((p.map _).mem_iff).trans (h'.ks g).symm);have go:∀ (P:List Pr) (L:List (Gp×List Int)),(∀ x∈L,x.2=sortI (numsOf P x.1))->L=(L.map (·.1)).map fun g=>(g,sortI (numsOf P g)):=fun P L h=>by
  rw[zP]
  have:L.map ((fun g=>(g,sortI (numsOf P g))) ∘ fun x=>x.1)=L.map id:=zY fun x hx=>Prod.ext rfl (h x hx).symm
  rw[this,vq]
 rw[go P L h.vs,go P' L' h'.vs,e];refine zY fun g _=>Prod.ext rfl ?_;exact sortI_same ((p.filter _).map _)
noncomputable def rowR (r:En):D:=.tup [plD r.2.1.1,.tup (r.2.1.2.map .str),.ob r.1]
structure MemAt (M:MH) (j:Nat) (R:List En):Prop where
 l:M[j]?=some (.lst (R.map rowR))
 o:∀ r∈R,M[r.1]?=some (.lst (r.2.2.map .int))
theorem MemAt.keep {M M':MH}{j:Nat}{R:List En}(h:MemAt M j R)(g:Gr M M'):MemAt M' j R:=⟨g.keep _ _ h.l,fun r hr=>g.keep _ _ (h.o r hr)⟩
noncomputable def prOf (t:Tr)(s:Say):List Pr:=(groupsV t s.ps).map fun g=>(g,s.n)
noncomputable def prL (t:Tr)(st:List Say)(fo:List Qt)(rs:List Rule)(turn:Int)(l:List Say):List Pr:=(l.filter fun s=>isN (groundV s st fo rs turn)).flatMap (prOf t)
theorem prL_snoc (t:Tr)(st:List Say)(fo:List Qt)(rs:List Rule)(turn:Int)(l:List Say)(s:Say):prL t st fo rs turn (l++[s])=prL t st fo rs turn l++(if isN (groundV s st fo rs turn)=true then prOf t s else []):=by
 unfold prL;rw[yv,wL];congr 1;split
 ·rename_i h;simp[h]
 ·rename_i h;simp[h]
theorem prL_len {t:Tr}(hz:szT 5 t<=10)(st:List Say)(fo:List Qt)(rs:List Rule)(turn:Int):∀ l:List Say,(prL t st fo rs turn l).length<=10 * l.length
 | []=>zO _
 | s::l=>by
  have ih:=prL_len hz st fo rs turn l;have h1:(prOf t s).length<=10:=by
   unfold prOf groupsV;rw[zz,zz];exact zH (takenV_sz _ _ _) hz
  unfold prL at ih ⊢;rw[xG,zM];split
  ·rw[xZ,zp];walk_at "o"
  ·walk_at "o"
noncomputable def prsV (t:Tr)(ss:List Say)(qs:List Qt)(rs:List Rule)(turn:Int):List Pr:=prL t (ss.filter fun s=>standsB s turn) (qs.filter fun q=>forceB q turn) rs turn (ss.filter fun s=>standsB s turn)
theorem members_w {lt:Gp->Gp->Bool}(hG:SortsG srt lt)(hI:SortsI srt)(k:Nat)(M:MH)(t:Tr)(fit:Fit 5 t)(hz:szT 5 t<=10)(js jq jr:Nat)(ss:List Say)(qs:List Qt)(rs:List Rule)(turn:Int)(ls:ss.length<=5)(lq:qs.length<=1000)(lo:∀ o∈ss,o.ps.length<=1000)(lx:∀ q∈qs,q.xs.length<=1000)(lr:∀ r∈rs,r.a.length<=1000/\r.b.length<=1000/\r.ns.length<=1000)
  (hs:M[js]?=some (.lst (ss.map sayD))) (hq:M[jq]?=some (.lst (qs.map qtD))) (hr:M[jr]?=some (.lst (rs.map ruleD))) {Q:D->MH->Prop}
  (q:∀ (R:List En) (j:Nat) (M':MH),Gr M M'->MemAt M' j R->IsMem lt (prsV t ss qs rs turn) (R.map (·.2))->(M.length<=j/\∀ r∈R,M.length<=r.1)->Q (.ob j) M'):W ((cx srt (k + 12)).fn "members" [trD t,.ob js,.ob jq,.ob jr,.int turn]) M Q:=by
 have big:=line_big;unfold prsV at q;rw[f_members,wf,b_members];walk_at "wq";refine⟨_,hs,by rw[zz];walk_at "o",?_⟩;refine w_compI (fun j ys M'=>M'=M/\ys=((ss.take j).filter fun s=>standsB s turn).map sayD) ⟨rfl,rfl⟩ (fun _ _ _ h=>by rw[h.1];exact hs) ?_ ?_
 ·rintro j d ys M' hd ⟨rfl,rfl⟩
  rw[zu]at hd;obtain⟨x,hx,rfl⟩:=zt.mp hd;rw[zG,hx,yv,zq];walk_at "wq";refine stands_w (k + 10) M' x turn ?_;walk_at "wq";refine⟨fun h=>?_,fun h=>?_⟩ <;> simp[h]
 rintro ys M' ⟨rfl,rfl⟩;rw[zz,zI];generalize hF:ss.filter (fun s=>standsB s turn)=st at q ⊢;have stl:st.length<=5:=by rw[<- hF];exact zH (yA _ _) ls
 have sto:∀ o∈st,o.ps.length<=1000:=fun o ho=>lo o (yw.mp (hF ▸ ho)).1;clear hF;generalize hM1:M'++[MO.lst (st.map sayD)]=M1;have g1:Gr M' M1:=hM1 ▸ Gr.app _ _;have h1:M1[M'.length]?=some (.lst (st.map sayD)):=hM1 ▸ get_new _ _;clear hM1;generalize M'.length=j1 at h1 ⊢;have hq1:=g1.keep _ _ hq;walk_at "wq";refine⟨_,hq1,by rw[zz];walk_at "o",?_⟩;refine w_compI (fun j ys M2=>M2=M1/\ys=((qs.take j).filter fun s=>forceB s turn).map qtD) ⟨rfl,rfl⟩ (fun _ _ _ h=>by rw[h.1];exact hq1) ?_ ?_
 ·rintro j d ys M2 hd ⟨rfl,rfl⟩
  rw[zu]at hd;obtain⟨x,hx,rfl⟩:=zt.mp hd;rw[zG,hx,yv,zq];walk_at "wq";refine inForce_w (k + 10) M2 x turn ?_;walk_at "wq";refine⟨fun h=>?_,fun h=>?_⟩ <;> simp[h]
 rintro ys M2 ⟨rfl,rfl⟩;rw[zz,zI];generalize hF:qs.filter (fun s=>forceB s turn)=fo at q ⊢;have fol:fo.length<=1000:=by rw[<- hF];exact zH (yA _ _) lq
 have fox:∀ o∈fo,o.xs.length<=1000:=fun o ho=>lx o (yw.mp (hF ▸ ho)).1;clear hF;generalize hM2:M2++[MO.lst (fo.map qtD)]=M3;have g3:Gr M2 M3:=hM2 ▸ Gr.app _ _;have h3:M3[M2.length]?=some (.lst (fo.map qtD)):=hM2 ▸ get_new _ _;clear hM2;generalize M2.length=j2 at h3 ⊢;have h1':=g3.keep _ _ h1;have hr':=(g1.trans g3).keep _ _ hr;have g13:=g1.trans g3;walk_at "wq";have n4:(M3++[MO.dtt []])[M3.length]?=some (.dtt []):=get_new _ _;have g4:Gr M3 (M3++[MO.dtt []]):=Gr.app _ _;generalize M3++[MO.dtt []]=M4 at n4 g4 ⊢;refine⟨_,g4.keep _ _ h1',?_⟩;refine w_loop (fun m ρ M'=>Gr M3 M'/\(∃ E:List En,DM M' M3.length E (prL t st fo rs turn (st.take m)))/\∃ x8 x9,ρ=[some (trD t),some (.ob js),some (.ob jq),some (.ob jr),some (.int turn),some (.ob j1),some (.ob j2),some (.ob M3.length),x8,x9])
  ⟨g4,⟨[],n4,(fun _ h=>nomatch h),xt,xt,(fun g=>⟨fun h=>(nomatch h),fun h=>(nomatch h)⟩),(fun _ h=>nomatch h),zO _⟩,_,_,rfl⟩ (fun _ _ _ h=>h.1.keep _ _ h1') ?_ ?_
 ·rintro m d ρ M5 hd ⟨g5,⟨E,hE⟩,x8,x9,rfl⟩
  rw[zu]at hd;obtain⟨s,hsm,rfl⟩:=zt.mp hd;have hsl:=lt_of_get hsm;have hss:=zn hsm;have et:st.take (m + 1)=st.take m++[s]:=by rw[zG,hsm];rfl
  have eP:=prL_snoc t st fo rs turn (st.take m) s;rw[<- et]at eP;generalize hP:prL t st fo rs turn (st.take m)=P at hE eP;have hPl:P.length<=50:=by
   rw[<- hP]
   have:=prL_len hz st fo rs turn (st.take m)
   rw[zB]at this;walk_at "o"
  clear hP;walk_at "wq";refine ground_w (k + 6) M5 s j1 j2 jr st fo rs turn (by walk_at "o") fol (sto s hss) sto fox lr (g5.keep _ _ h1') (g5.keep _ _ h3) (g5.keep _ _ hr') fun M6 g6=>?_;walk_at "wq";refine⟨rfl,fun hn=>?_,fun hn=>?_⟩
  ·rw[if_pos hn]at eP
   have eS:sayD s=.tup [.int s.n,.tup (s.ps.map prD),.int s.w,.int s.came,optD s.gone]:=rfl;rw[eS];walk_at "wq";refine groups_w k M6 t fit s.ps (sto s hss) fun jg M7 g7 hjg h7=>?_;walk_at "wq";refine⟨_,h7,?_⟩;have G7:=(g5.trans g6).trans g7;have lE:∀ e∈E,e.1≠jg:=fun e he=>by
    have:=lt_of_get (hE.o e he).2
    have:=g6.len
    walk_at "o"
   unfold prOf at eP;have hgl:(groupsV t s.ps).length<=10:=by
    unfold groupsV;rw[zz];exact zH (takenV_sz _ _ _) hz
   generalize groupsV t s.ps=gs at h7 eP hgl ⊢;refine w_loop (fun i ρ M'=>Gr M3 M'/\M'[jg]?=some (.lst (gs.map gkD))/\(∃ E,DM M' M3.length E (P++(gs.take i).map fun g=>(g,s.n))/\∀ e∈E,e.1≠jg)/\∃ x9,ρ=[some (trD t),some (.ob js),some (.ob jq),some (.ob jr),some (.int turn),some (.ob j1),some (.ob j2),some (.ob M3.length),some (.tup [.int s.n,.tup (s.ps.map prD),.int s.w,.int s.came,optD s.gone]),x9])
    ⟨G7,h7,⟨E,by rw[vh,yO,zT];exact(hE.keep g6).keep g7,lE⟩,_,rfl⟩ (fun _ _ _ h=>h.2.1) ?_ ?_
   ·rintro i d ρ M8 hd ⟨g8,h8,⟨E8,hE8,lE8⟩,x9,rfl⟩
    rw[zu]at hd;obtain⟨g,hg,rfl⟩:=zt.mp hd;have hgi:=lt_of_get hg;have hP8:(P++(gs.take i).map fun g=>(g,s.n)).length<=1000:=by
     rw[zp,zz,zB];walk_at "o"
    have hkl:=hE8.len;walk_at "wq";refine⟨_,hE8.d,zO _,_,(Gr.app _ _).keep _ _ hE8.d,_,kyT_g g,by unfold kvE;rw[zz];walk_at "o",?_⟩;obtain⟨x,M9,ex,_,_,j,rfl,l,hl,hll,hF⟩:=put_w (F:=fun _ M'=>Gr M3 M'/\M'[jg]?=some (.lst (gs.map gkD))/\∃ E,DM M' M3.length E (P++(gs.take (i + 1)).map fun g=>(g,s.n))/\∀ e∈E,e.1≠jg) hE8 g s.n hP8 fun E9 M9 d9 hlen hkeep hnew=>by
     refine⟨⟨fun a o ho=>hkeep a o (g8.keep _ _ ho) (zE (lt_of_get ho)) fun e he=>?_,zH g8.len hlen⟩,hkeep jg _ h8 (fun z=>?_) lE8,E9,?_,fun e he=>?_⟩
     ·have:=(hE8.o e he).1
      have:=lt_of_get ho
      walk_at "o"
     ·rw[z,hE8.d]at h8
      cases h8
     ·rw[zG,hg,zq,<- yR]
      exact d9
     ·rcases hnew e he with ⟨e0,h0,h1⟩ | h0
      ·rw[<- h1];exact lE8 e0 h0
      ·have:=lt_of_get h8
       walk_at "o"
    refine⟨_,_,ex,?_⟩;walk_at "wq";exact⟨_,hl,_,hl,hll,hF.1,hF.2.1,hF.2.2,_,rfl⟩
   ·rintro ρ M8 ⟨g8,h8,⟨E8,hE8,lE8⟩,x9,rfl⟩
    rw[zz,zI,<- eP]at hE8;walk_at "wq";exact⟨g8,⟨E8,hE8⟩,_,_,rfl⟩
  ·rw[if_neg (by rw[hn];exact zi),zT]at eP
   exact⟨g5.trans g6,⟨E,by rw[eP];exact hE.keep g6⟩,_,_,rfl⟩
 ·rintro ρ M5 ⟨g5,⟨E,hE⟩,x8,x9,rfl⟩
  rw[zz,zI]at hE;have hPl:=prL_len hz st fo rs turn st;generalize prL t st fo rs turn st=P at hE q hPl;have hEl:=hE.len;walk_at "wq";have ek:(kvE E).map (fun p=>keyD2 p.1)=(E.map (·.2.1)).map gkD:=by
   unfold kvE;rw[zP,zP];exact zY fun e _=>keyD_g e.2.1
  obtain⟨gs,e1,e2,e3⟩:=hG.so (E.map (·.2.1)) (by rw[zz];walk_at "o") hE.nd;have egl:gs.length=E.length:=by rw[e2.length_eq,zz]
  refine⟨_,hE.d,_,by rw[ek];exact e1,_,get_new _ _,by rw[zz];walk_at "o",?_⟩;generalize hM6:M5++[MO.lst (gs.map gkD)]=M6;have g6:Gr M5 M6:=hM6 ▸ Gr.app _ _;have h6:M6[M5.length]?=some (.lst (gs.map gkD)):=hM6 ▸ get_new _ _;clear hM6;generalize M5.length=j6 at h6 ⊢;have hE6:=hE.keep g6;refine w_compI (fun i ys M'=>Gr M6 M'/\∃ R:List En,ys=R.map rowR/\R.map (·.2.1)=gs.take i/\∀ r∈R,M6.length<=r.1/\M'[r.1]?=some (.lst (r.2.2.map .int))/\r.2.2=sortI (numsOf P r.2.1)) ⟨Gr.refl,[],rfl,rfl,fun _ h=>nomatch h⟩ (fun _ _ _ h=>h.1.keep _ _ h6) ?_ ?_
  ·rintro i d ys M7 hd ⟨g7,R,rfl,hR,oR⟩
   rw[zu]at hd;obtain⟨g,hg,rfl⟩:=zt.mp hd;obtain⟨e,he,rfl⟩:=zC.mp (e2.mem_iff.mp (zn hg));have hE7:=hE6.keep g7;have evl:=nums_len P e.2.1;rw[<- hE.vs e he]at evl;have es:=hI e.2.2 (by walk_at "o");have egk:gkD e.2.1=.tup [plD e.2.1.1,.tup (e.2.1.2.map .str)]:=rfl;walk_at "wq";refine⟨_,hE7.d,_,kyT_g _,_,tk_some hE.nd he,?_⟩;walk_at "wq";refine⟨_,(hE7.o e he).2,_,es,?_⟩;rw[egk];walk_at "wq";refine⟨by walk_at "o",by walk_at "o",g7.snoc _,R++[(M7.length,e.2.1,sortI e.2.2)],?_,?_,fun r hr=>?_⟩
   ·rw[zq]
    rfl
   ·rw[zq,hR,zG,hg]
    rfl
   ·rcases zF.mp hr with hr | hr
    ·exact⟨(oR r hr).1,(Gr.app _ _).keep _ _ (oR r hr).2.1,(oR r hr).2.2⟩
    ·rw[zd.mp hr]
     exact⟨g7.len,get_new _ _,by show sortI e.2.2=sortI (numsOf P e.2.1);rw[hE.vs e he]⟩
  ·rintro ys M7 ⟨g7,R,rfl,hR,oR⟩
   rw[zz,zI]at hR;have G6:=(g13.trans g5).trans g6;have G7:=G6.trans g7;refine q R _ _ (G7.snoc _) ⟨get_new _ _,fun r hr=>(Gr.app _ _).keep _ _ (oR r hr).2.1⟩ ⟨?_,fun g=>?_,fun x hx=>?_⟩ ⟨G7.len,fun r hr=>zH G6.len (oR r hr).1⟩
   ·rw[zP]
    show (R.map fun r=>r.2.1).Pairwise _;rw[hR];exact e3
   ·rw[zP]
    show g∈(R.map fun r=>r.2.1) ↔ _;rw[hR,e2.mem_iff];exact hE.ks g
   ·obtain⟨r,hr,rfl⟩:=zC.mp hx
    exact(oR r hr).2.2
end
end Law
namespace Law
open PySem L3
section
variable {srt:List D->Option (List D)}
theorem lawTaken_w (ps:List (Str×Str))(G:Good ps):∀ (n k:Nat) (M:MH) (t:Tr) (p:List Int),Fit n t->n<=5->p.length + n<=100->∀ {Q:D->MH->Prop} (_:∀ (j:Nat) (M':MH),Gr M M'->M.length<=j->M'[j]?=some (.lst ((takenV (mQ ps) n t p).map plD))->Q (.ob j) M'),
  W ((cx srt (k + n + 2)).fn "_law_taken" [trD t,.tup (ps.map prD),plD p]) M Q
 | 0,_,_,_,_,h,_,_,_,_=>h.elim
 | n + 1,k,M,t,p,fit,hn5,hpn,Q,q=>by
  have big:=line_big;obtain⟨hok,hxl,hrl,hfit⟩:=fit_rows fit;obtain⟨eb,ec,ep,er,et⟩:=trD_eq t;have B5:∀ s∈rowsT t,∀ p',(takenV (mQ ps) n s p').length<=625:=fun s hs p'=>zH (takenV_len n s p' (hfit s hs)) (zH (wF (by decide) (show n<=4 by walk_at "o")) (by decide));have epD:plD p=.tup (p.map .int):=rfl;rw[show k + (n + 1) + 2=k + n + 2 + 1 by walk_at "o",f__law_taken,wf,b__law_taken];walk_at "wq";refine⟨zO _,?_⟩;rw[et];walk_at "wq";rw[<- et,zz];refine⟨⟨by walk_at "o",by walk_at "o"⟩,?_⟩;refine w_loop (fun m ρ M'=>Gr M M'/\(∃ (jf:Nat) (acc:List (List Int)) (gone:Bool) (x5:Option D),M.length<=jf/\M'[jf]?=some (.lst (acc.map plD))/\goL (takenV (mQ ps) n) (mQ ps) p 0 (rowsT t)=acc++(if gone=true then [] else goL (takenV (mQ ps) n) (mQ ps) p m ((rowsT t).drop m))/\acc.length<=m * 625 /\
   ρ=[some (trD t),some (.tup (ps.map prD)),some (plD p),some (.ob jf),some (.bl gone),x5])) ⟨Gr.app _ _,M.length,[],false,_,zo _,get_new _ _,rfl,zO _,rfl⟩ (fun _ _ _ _=>trivial) ?_ ?_
  ·rintro m d ρ M1 hd ⟨g1,jf,acc,gone,x5,hj,h1,e1,l1,rfl⟩
   obtain⟨rfl,hm⟩:=rng_get hd;have hml:m < (rowsT t).length:=by walk_at "o"
   have hs:(rowsT t)[m]?=some (rowsT t)[m]:=zv hml;generalize (rowsT t)[m]=s at hs;have hsm:=zn hs;have hat:atD ((rowsT t).map trD) (0 + (m:Int))=some (trD s):=by rw[wk];exact atD_nat (by rw[zu,hs];rfl)
   obtain⟨fb,fc,fp,fr,fs⟩:=trD_eq s;obtain⟨hlt,hsg⟩:=zr.mp hs;rw[yx hlt,hsg,goL]at e1;have l5:acc.length<=5 * 625:=zH l1 (yH _ (by walk_at "o"));have up:acc.length<=(m + 1) * 625:=zH l1 (yH _ (yQ m));rw[et];walk_at "wq";refine⟨fun hg=>?_,fun hg=>?_⟩
   ·have hg:gone=false:=by simpa using hg
    subst hg;rw[if_neg zi]at e1;refine⟨_,hat,?_⟩;rw[fs];walk_at "wq";refine lets_n (k + n) M1 (asksT s) (by have:=(fit_rows (n:=n - 1) (t:=s) (by have:=hfit s hsm;cases n with | zero=>exact this.elim | succ n=>exact this)).2.1;walk_at "o") ps G fun M2 g2=>?_
    have g2':=g1.trans g2;have h2:=g2.keep _ _ h1;walk_at "wq";refine⟨fun hm=>?_,fun hm=>?_⟩
    ·have em:mQ ps s=true:=hm
     rw[if_pos em]at e1;refine⟨_,hat,?_⟩;rw[epD];walk_at "wq";refine⟨by walk_at "o",by rw[zz];show _ + 1<=_;walk_at "o",?_⟩;have epl:D.tup (p.map D.int++[D.int (0 + (m:Int))])=plD (p++[(m:Int)]):=by unfold plD;rw[zq,wk];rfl
     rw[epl];refine lawTaken_w ps G n k M2 s (p++[(m:Int)]) (hfit s hsm) (by walk_at "o") (by rw[zp];show _ + 1 + _<=_;walk_at "o") fun j M3 g3 hj3 h3=>?_;have g3':=g2'.trans g3;have l3:=B5 s hsm (p++[(m:Int)]);generalize takenV (mQ ps) n s (p++[(m:Int)])=T at e1 l3 h3;walk_at "wq";refine⟨_,g3.keep _ _ h2,_,h3,by rw[zz,zz];walk_at "o",_,hat,?_⟩;rw[fs];walk_at "wq";rw[<- zq];refine⟨g3'.snoc _,_,acc++T,!onT s,_,g3'.len,get_new _ _,?_,by rw[zp,wV];walk_at "o",rfl⟩;rw[e1,yR];congr 2;cases onT s <;> rfl
    ·have em:mQ ps s=false:=hm
     rw[if_neg (by rw[em];exact zi)]at e1;exact⟨g2',jf,acc,false,_,hj,h2,e1,up,rfl⟩
   ·have hg:gone=true:=by simpa using hg
    subst hg;exact⟨g1,jf,acc,true,_,hj,h1,e1,up,rfl⟩
  ·rintro ρ M1 ⟨g1,jf,acc,gone,x5,hj,h1,e1,l1,rfl⟩
   rw[rng_len,show (((rowsT t).length:Int) - 0).toNat=(rowsT t).length by walk_at "o",ym]at e1;have e2:goL (takenV (mQ ps) n) (mQ ps) p 0 (rowsT t)=acc:=by
    rw[e1];cases gone
    ·show acc++[]=acc;rw[zT]
    ·show acc++[]=acc;rw[zT]
   have eT:takenV (mQ ps) (n + 1) t p=if acc.isEmpty=true then [p] else acc:=by rw[takenV,e2]
   walk_at "wq";refine⟨zO _,?_⟩;rw[p_eq];refine⟨_,eo_nil ((Gr.app _ _).keep _ _ h1) (get_new _ _),?_⟩;walk_at "wq";rw[xF];refine⟨fun z=>⟨by walk_at "o",q _ _ ((g1.snoc _).snoc _) (g1.snoc _).len ?_⟩,fun z=>q _ _ (g1.snoc _) hj ?_⟩
   ·rw[eT,if_pos z]
    exact get_new _ _
   ·rw[eT,if_neg (by rw[z];exact zi)]
    exact(Gr.app _ _).keep _ _ h1
theorem lawKey_w (k:Nat)(M:MH)(t s:Tr)(p:List Int)(h:subT t p=some s)(hb:(byT s).length<=3)(ps:List (Str×Str))(G:Good ps){Q:D->MH->Prop}(q:∀ M',Gr M M'->Q (keyV (valV ps) s) M'):W ((cx srt (k + 1)).fn "_law_key" [trD t,plD p,.tup (ps.map prD)]) M Q:=by
 have big:=line_big;rw[f__law_key,wf,b__law_key,plD];walk_at "wq";refine w_loop (fun m ρ M'=>M'=M/\∃ r x3,subT r (p.drop m)=some s/\ρ=[some (trD r),some (.tup (p.map .int)),some (.tup (ps.map prD)),x3,none]) ⟨rfl,t,_,h,rfl⟩ (fun _ _ _ _=>trivial) ?_ ?_
 ·rintro m d ρ M' hd ⟨rfl,r,x3,hr,rfl⟩
  rw[zu]at hd;obtain⟨i,hi,rfl⟩:=zt.mp hd;obtain⟨hlt,hg⟩:=zr.mp hi;rw[yx hlt,hg]at hr;obtain⟨j,r',rfl,hj,hs⟩:=subT_cons hr;obtain⟨eb,ec,ep,er,et⟩:=trD_eq r;rw[et];walk_at "wq";exact⟨_,atD_nat (by rw[zu,hj];rfl),r',_,hs,rfl⟩
 ·rintro ρ M' ⟨rfl,r,x3,hr,rfl⟩
  rw[zz,ym]at hr;cases hr;obtain⟨c,p',r',et⟩:=trD_by s;rw[et];walk_at "wq";refine⟨_,pairs_kv ps,?_⟩;rw[dict_of G];generalize hM1:M'++[MO.dic (kvsOf ps)]=M1;have g1:Gr M' M1:=hM1 ▸ Gr.app _ _;have h1:M1[M'.length]?=some (.dic (kvsOf ps)):=hM1 ▸ get_new _ _;clear hM1;generalize M'.length=jd at h1 ⊢;walk_at "wq";refine⟨by rw[zz];walk_at "o",?_⟩;refine w_compI (fun m ys M2=>M2=M1/\ys=((byT s).take m).map fun x=>.str (valV ps x)) ⟨rfl,rfl⟩ (fun _ _ _ _=>trivial) ?_ ?_
  ·rintro m d ys M2 hd ⟨rfl,rfl⟩
   rw[zu]at hd;obtain⟨x,hx,rfl⟩:=zt.mp hd;walk_at "wq";refine⟨_,h1,_,h1,?_⟩;rw[get_of,zG,hx,zq];rfl
  ·rintro ys M2 ⟨rfl,rfl⟩
   rw[zz,zI];walk_at "wq";exact⟨_,get_new _ _,q _ (g1.snoc _)⟩
end
end Law
namespace Law
open PySem L3
section
variable {srt:List D->Option (List D)}
noncomputable def SortsS (srt:List D->Option (List D)):Prop:=∀ ss:List Say,ss.length < 64->(ss.map (·.n)).Nodup->∃ ws:List Say,srt (ss.map sayD)=some (ws.map sayD)/\ws.Perm ss/\ws.Pairwise fun a b=>a.n<=b.n
theorem nums_no {E:List En}{P:List Pr}{g:Gp}(ks:∀ g,g∈E.map (·.2.1) ↔ g∈P.map (·.1))(hg:g ∉ E.map (·.2.1)):numsOf P g=[]:=by
 unfold numsOf;rw[yc.mpr]
 ·rfl
 ·intro p hp z
  exact hg ((ks g).mpr (by rw[<- of_decide_eq_true z];exact zS hp))
theorem get2 {M:MH}{jd:Nat}{E:List En}{P:List Pr}(h:DM M jd E P)(g:Gp)(jn:Nat)(hn:M[jn]?=some (.lst [])):∃ j0,(tkGet (kvE E) (gkK g)).getD (.ob jn)=.ob j0/\M[j0]?=some (.lst ((numsOf P g).map .int)):=by
 by_cases hg:g∈E.map (·.2.1)
 ·obtain⟨e,he,rfl⟩:=zC.mp hg
  exact⟨e.1,by rw[tk_some h.nd he];rfl,by rw[<- h.vs e he];exact(h.o e he).2⟩
 ·exact⟨jn,by rw[tk_none hg];rfl,by rw[nums_no h.ks hg];exact hn⟩
theorem put2 {M:MH}{jd:Nat}{E:List En}{P:List Pr}(h:DM M jd E P)(g:Gp)(n:Int)(j:Nat)(hj:M[j]?=some (.lst ((numsOf P g++[n]).map .int)))(hjd:jd < j)(hnew:∀ e∈E,e.1≠j) :
  ∃ E',DM (M.set jd (.dtt (tkPut (kvE E) (gkK g) (.ob j)))) jd E' (P++[(g,n)])/\∀ e∈E',e.1=j\/∃ e0∈E,e0.1=e.1:=by
 by_cases hg:g∈E.map (·.2.1)
 ·let f:En->En:=fun x=>if x.2.1=g then (j,x.2.1,x.2.2++[n]) else x
  have f2:∀ x,(f x).2.1=x.2.1:=fun x=>by show (if _ then _ else _:En).2.1=_;split <;> rfl
  have fp:∀ x,x.2.1=g->f x=(j,x.2.1,x.2.2++[n]):=fun x z=>if_pos z;have fn:∀ x,¬ x.2.1=g->f x=x:=fun x z=>if_neg z;have m2:(E.map f).map (·.2.1)=E.map (·.2.1):=by rw[zP];exact zY fun x _=>f2 x
  have eP:tkPut (kvE E) (gkK g) (.ob j)=kvE (E.map f):=by
   obtain⟨e,he,rfl⟩:=zC.mp hg;unfold tkPut;rw[if_pos]
   ·unfold kvE
    rw[zP,zP];refine zY fun x _=>?_;show (if gkK x.2.1=gkK e.2.1 then _ else _)=(gkK (f x).2.1,D.ob (f x).1);by_cases z:x.2.1=e.2.1
    ·rw[if_pos (by rw[z]),fp x z]
    ·rw[if_neg (fun w=>z (gkK_inj w)),fn x z]
   ·rw[xn]
    exact⟨_,zS he,by simp⟩
  have inj:∀ x∈E,∀ y∈E,x.2.1=g->y.2.1=g->x=y:=fun x hx y hy a b=>nd_inj h.nd hx hy (a.trans b.symm);refine⟨E.map f,⟨by rw[eP];exact set_get h.d,fun x hx=>?_,by rw[m2];exact h.nd,?_,fun z=>?_,fun x hx=>?_,?_⟩,fun x hx=>?_⟩
  ·obtain⟨y,hy,rfl⟩:=zC.mp hx
   obtain⟨o1,o2⟩:=h.o y hy;by_cases z:y.2.1=g
   ·rw[fp y z]
    refine⟨hjd,?_⟩;show (M.set jd _)[j]?=some (.lst ((y.2.2++[n]).map .int));rw[zk (by walk_at "o"),hj,h.vs y hy,z]
   ·rw[fn y z]
    refine⟨o1,?_⟩;rw[zk (by walk_at "o")];exact o2
  ·have key:∀ l:List En,(∀ x∈l,x∈E)->(l.map (·.1)).Nodup->(l.map (·.2.1)).Nodup->((l.map f).map (·.1)).Nodup:=by
    intro l;induction l with
    | nil=>intros;exact xt
    | cons x l ih =>
     intro hl n1 n2;rw[ze,yb]at n1 n2;rw[ze,ze,yb];refine⟨fun hm=>?_,ih (fun y hy=>hl y (zK _ hy)) n1.2 n2.2⟩;rw[zP]at hm;obtain⟨y,hy,e⟩:=zC.mp hm;have e:(f y).1=(f x).1:=e;have hxE:=hl x zD;have hyE:=hl y (zK _ hy);by_cases zx:x.2.1=g
     ·by_cases zy:y.2.1=g
      ·exact n2.1 (by rw[zx,<- zy];exact zS hy)
      ·rw[fn y zy,fp x zx]at e
       exact hnew y hyE e
     ·by_cases zy:y.2.1=g
      ·rw[fn x zx,fp y zy]at e
       exact hnew x hxE e.symm
      ·rw[fn x zx,fn y zy]at e
       exact n1.1 (by rw[<- e];exact zS hy)
   exact key E (fun _ h=>h) h.nj h.nd
  ·rw[m2,zq]
   refine(h.ks z).trans ⟨fun w=>yE _ w,fun w=>?_⟩;rcases zF.mp w with w | w
   ·exact w
   ·have:z=g:=by simpa using w
    rw[this];exact(h.ks _).mp hg
  ·obtain⟨y,hy,rfl⟩:=zC.mp hx
   rw[f2,nums_app,<- h.vs y hy];by_cases z:y.2.1=g
   ·rw[fp y z,if_pos z.symm]
   ·rw[fn y z,if_neg (Ne.symm z),zT]
  ·rw[zz,zp]
   exact xv h.len
  ·obtain⟨y,hy,rfl⟩:=zC.mp hx
   by_cases z:y.2.1=g
   ·rw[fp y z];exact .inl rfl
   ·rw[fn y z];exact .inr ⟨y,hy,rfl⟩
 ·have eP:tkPut (kvE E) (gkK g) (.ob j)=kvE (E++[(j,g,[n])]):=by
   rw[tk_put hg];unfold kvE;rw[zq,zq];rfl
  refine⟨E++[(j,g,[n])],⟨by rw[eP];exact set_get h.d,fun x hx=>?_,?_,?_,fun z=>?_,fun x hx=>?_,?_⟩,fun x hx=>?_⟩
  ·rcases zF.mp hx with hx | hx
   ·obtain⟨p1,p2⟩:=h.o x hx
    refine⟨p1,?_⟩;rw[zk (by walk_at "o")];exact p2
   ·rw[zd.mp hx]
    refine⟨hjd,?_⟩;rw[nums_no h.ks hg]at hj;show (M.set jd _)[j]?=_;rw[zk (by walk_at "o")];exact hj
  ·rw[zq,yd]
   exact⟨h.nd,by simp,fun a ha b hb z=>hg (by rw[show g=b by simpa using (zd.mp hb).symm,<- z];exact ha)⟩
  ·rw[zq,yd]
   refine⟨h.nj,by simp,fun a ha b hb z=>?_⟩;obtain⟨x,hx,rfl⟩:=zC.mp ha
   have:b=j:=zd.mp hb
   exact hnew x hx (z.trans this)
  ·rw[zq,zq,zF,zF,h.ks z]
   rfl
  ·rcases zF.mp hx with hx | hx
   ·have:¬ g=x.2.1:=fun z=>hg (z ▸ zS hx)
    rw[nums_app,if_neg this,zT];exact h.vs x hx
   ·rw[zd.mp hx]
    show [n]=numsOf (P++[(g,n)]) g;rw[nums_app,if_pos rfl,nums_no h.ks hg];rfl
  ·rw[zp,zp]
   exact wG h.len _
  ·rcases zF.mp hx with hx | hx
   ·exact .inr ⟨x,hx,rfl⟩
   ·rw[zd.mp hx];exact .inl rfl
noncomputable def dueC (ss:List Say)(qs:List Qt)(rs:List Rule)(t:Int)(s:Say):Bool:=standsB s t&&isN (groundV s ss qs rs t)
noncomputable def dueL (tr:Tr)(ss:List Say)(qs:List Qt)(rs:List Rule)(t:Int)(l:List Say):List Pr:=(l.filter (dueC ss qs rs t)).flatMap (prOf tr)
theorem ground_fil (s:Say)(ss:List Say)(qs:List Qt)(rs:List Rule)(t:Int):groundV s (ss.filter fun s=>standsB s t) (qs.filter fun q=>forceB q t) rs t=groundV s ss qs rs t:=by
 have e1:toldL s (qs.filter fun q=>forceB q t) t=toldL s qs t:=by
  unfold toldL;rw[xg];congr 2;funext q;cases forceB q t <;> simp
 have e2:heavL s (ss.filter fun s=>standsB s t) t=heavL s ss t:=by
  unfold heavL;rw[xg];congr 1;funext o;cases standsB o t <;> simp
 unfold groundV;rw[e1,e2]
theorem due_perm (tr:Tr){ss ws:List Say}(qs:List Qt)(rs:List Rule)(t:Int)(h:ws.Perm ss):(dueL tr ss qs rs t ws).Perm (prsV tr ss qs rs t):=by
 unfold dueL prsV prL;have e:(ss.filter fun s=>standsB s t).filter (fun s=>isN (groundV s (ss.filter fun s=>standsB s t) (qs.filter fun q=>forceB q t) rs t))=ss.filter (dueC ss qs rs t):=by
  rw[xg];congr 1;funext s;unfold dueC;rw[ground_fil,ve]
 rw[e];exact(h.filter _).flatMap_right _
theorem due_snoc (tr:Tr)(ss:List Say)(qs:List Qt)(rs:List Rule)(t:Int)(l:List Say)(s:Say):dueL tr ss qs rs t (l++[s])=dueL tr ss qs rs t l++(if dueC ss qs rs t s=true then prOf tr s else []):=by
 unfold dueL;rw[yv,wL];congr 1;split
 ·rename_i h;simp[h]
 ·rename_i h;simp[h]
theorem due_rise (tr:Tr)(ss:List Say)(qs:List Qt)(rs:List Rule)(t:Int):∀ {l:List Say},(l.Pairwise fun a b=>a.n<=b.n)->((dueL tr ss qs rs t l).Pairwise fun a b=>a.2<=b.2)/\∀ p∈dueL tr ss qs rs t l,∃ s∈l,p.2=s.n
 | [],_=>⟨.nil,fun _ h=>nomatch h⟩
 | s::l,h=>by
  rw[xj]at h;obtain⟨i1,i2⟩:=due_rise tr ss qs rs t h.2;unfold dueL at i1 i2 ⊢;rw[xG];split
  ·rw[xZ]
   refine⟨List.pairwise_append.mpr ⟨?_,i1,fun a ha b hb=>?_⟩,fun p hp=>?_⟩
   ·unfold prOf
    rw[xE];exact List.pairwise_of_forall fun _ _=>wB _
   ·obtain⟨x,_,rfl⟩:=zC.mp ha
    obtain⟨s',h1,h2⟩:=i2 b hb;rw[h2];exact h.1 s' h1
   ·rcases zF.mp hp with hp | hp
    ·obtain⟨x,_,rfl⟩:=zC.mp hp
     exact⟨s,zD,rfl⟩
    ·obtain⟨s',h1,h2⟩:=i2 p hp
     exact⟨s',zK _ h1,h2⟩
  ·exact⟨i1,fun p hp=>let ⟨s',h1,h2⟩:=i2 p hp;⟨s',zK _ h1,h2⟩⟩
theorem nums_rise {P:List Pr}(h:P.Pairwise fun a b=>a.2<=b.2)(g:Gp):numsOf P g=sortI (numsOf P g):=by
 refine sortI_uniq (.refl _) ?_;unfold numsOf;rw[xE];exact h.filter _
theorem due_len {tr:Tr}(hz:szT 5 tr<=10)(ss:List Say)(qs:List Qt)(rs:List Rule)(t:Int):∀ l:List Say,(dueL tr ss qs rs t l).length<=10 * l.length
 | []=>zO _
 | s::l=>by
  have ih:=due_len hz ss qs rs t l;have h1:(prOf tr s).length<=10:=by
   unfold prOf groupsV;rw[zz,zz];exact zH (takenV_sz _ _ _) hz
  unfold dueL at ih ⊢;rw[xG,zM];split
  ·rw[xZ,zp];walk_at "o"
  ·walk_at "o"
end
end Law
namespace Law
open PySem L3
section
variable {srt:List D->Option (List D)}
theorem due_w {lt:Gp->Gp->Bool}(hG:SortsG srt lt)(hI:SortsI srt)(hQ:SortsQ srt)(hS:SortsS srt)(k:Nat)(M:MH)(t:Tr)(fit:Fit 5 t)(hz:szT 5 t<=10){js jq jr:Nat}{ss:List Say}{qs:List Qt}{rs:List Rule}{as vs:List Str}(w:Wld M js jq jr ss qs rs as vs)(ls:ss.length<=5)(turn:Int){Q:D->MH->Prop}
  (q:∀ (R:List En) (j:Nat) (M':MH),Gr M M'->MemAt M' j R->IsMem lt (prsV t ss qs rs turn) (R.map (·.2))->Q (.ob j) M'):W ((cx srt (k + 8)).fn "_law_due" [trD t,.ob js,.ob jq,.ob jr,.int turn]) M Q:=by
 have big:=line_big;obtain⟨ws,hws,hwp,hwo⟩:=hS ss w.ls w.ns;have wl:ws.length<=5:=by rw[hwp.length_eq];exact ls
 rw[f__law_due,wf,b__law_due];walk_at "wq";have n0:(M++[MO.dtt []])[M.length]?=some (.dtt []):=get_new _ _;have g0:Gr M (M++[MO.dtt []]):=Gr.app _ _;generalize M++[MO.dtt []]=M0 at n0 g0 ⊢;refine⟨_,(w.keep g0).hs,_,hws,?_⟩;have n1:=(Gr.app M0 [MO.lst (ws.map sayD)]).keep _ _ n0;have h1:(M0++[MO.lst (ws.map sayD)])[M0.length]?=some (.lst (ws.map sayD)):=get_new _ _;have g1:Gr M (M0++[MO.lst (ws.map sayD)]):=g0.snoc _;have j1:M.length < M0.length:=lt_of_get n0;generalize M0++[MO.lst (ws.map sayD)]=M1 at n1 h1 g1 ⊢;generalize M0.length=jw at h1 j1 ⊢;walk_at "wq";refine⟨_,h1,?_⟩;refine w_loop (fun m ρ M'=>Gr M M'/\M'[jw]?=some (.lst (ws.map sayD))/\(∃ E:List En,DM M' M.length E (dueL t ss qs rs turn (ws.take m))/\∀ e∈E,e.1≠jw)/\∃ x6 x7 x8,ρ=[some (trD t),some (.ob js),some (.ob jq),some (.ob jr),some (.int turn),some (.ob M.length),x6,x7,x8])
  ⟨g1,h1,⟨[],⟨n1,(fun _ h=>nomatch h),xt,xt,(fun g=>⟨fun h=>(nomatch h),fun h=>(nomatch h)⟩),(fun _ h=>nomatch h),zO _⟩,fun _ h=>nomatch h⟩,_,_,_,rfl⟩ (fun _ _ _ h=>h.2.1) ?_ ?_
 ·rintro m d ρ M2 hd ⟨g2,h2,⟨E,hE,lE⟩,x6,x7,x8,rfl⟩
  rw[zu]at hd;obtain⟨s,hsm,rfl⟩:=zt.mp hd;have hsl:=lt_of_get hsm;have hss:s∈ss:=hwp.mem_iff.mp (zn hsm);have Gs:=w.gs s hss;have et:ws.take (m + 1)=ws.take m++[s]:=by rw[zG,hsm];rfl
  have eP:=due_snoc t ss qs rs turn (ws.take m) s;rw[<- et]at eP;have hPl:=due_len hz ss qs rs turn (ws.take m);rw[zB]at hPl;generalize dueL t ss qs rs turn (ws.take m)=P at hE eP hPl;walk_at "wq";refine there_w (k + 6) M2 s turn ?_;walk_at "wq";refine⟨fun ht=>?_,fun ht=>?_⟩
  ·refine lawGround_w hI hQ (k + 3) M2 (w.keep g2) s hss turn fun M3 g3=>?_
   walk_at "wq";refine⟨rfl,fun hn=>?_,fun hn=>?_⟩
   ·rw[if_pos (by unfold dueC;rw[ht,hn];rfl)]at eP
    have eS:sayD s=.tup [.int s.n,.tup (s.ps.map prD),.int s.w,.int s.came,optD s.gone]:=rfl;rw[eS];walk_at "wq";have e0:D.tup []=plD []:=rfl;rw[e0];refine⟨zO _,lawTaken_w s.ps Gs 5 k M3 t [] fit (zo _) (by decide) fun jg M4 g4 hjg h4=>?_⟩;walk_at "wq";refine⟨_,h4,?_⟩;have G4:=(g2.trans g3).trans g4;have h2':=(g3.trans g4).keep _ _ h2;have hE4:=(hE.keep g3).keep g4;have l3:=g3.len;have lE4:∀ e∈E,e.1≠jg:=fun e he=>by
     have:=lt_of_get (hE.o e he).2
     walk_at "o"
    have hgl:(takenV (mQ s.ps) 5 t []).length<=10:=zH (takenV_sz _ _ _) hz;have tk:∀ p∈takenV (mQ s.ps) 5 t [],∃ r n',subT t p=some r/\Fit (n' + 1) r/\rowOf t p=r:=fun p hp=>by
     obtain⟨p',r,n',e,hs,fs⟩:=taken_sub 5 t [] p fit hp;have e:p=p':=e;subst e;exact⟨r,n',hs,fs,by unfold rowOf;rw[hs];rfl⟩
    unfold prOf groupsV at eP;rw[zP]at eP;generalize takenV (mQ s.ps) 5 t []=ps at h4 eP hgl tk ⊢;refine w_loop (fun i ρ M'=>Gr M M'/\(M'[jw]?=some (.lst (ws.map sayD))/\M'[jg]?=some (.lst (ps.map plD)))/\(∃ E,DM M' M.length E (P++(ps.take i).map ((fun g=>(g,s.n)) ∘ grpV t s.ps))/\∀ e∈E,e.1≠jw/\e.1≠jg)/\∃ x7 x8,ρ=[some (trD t),some (.ob js),some (.ob jq),some (.ob jr),some (.int turn),some (.ob M.length),some (.tup [.int s.n,.tup (s.ps.map prD),.int s.w,.int s.came,optD s.gone]),x7,x8])
     ⟨G4,⟨h2',h4⟩,⟨E,by rw[vh,yO,zT];exact hE4,fun e he=>⟨lE e he,lE4 e he⟩⟩,_,_,rfl⟩ (fun _ _ _ h=>h.2.1.2) ?_ ?_
    ·rintro i d ρ M5 hd ⟨g5,⟨h5,h5'⟩,⟨E5,hE5,lE5⟩,x7,x8,rfl⟩
     rw[zu]at hd;obtain⟨p,hp,rfl⟩:=zt.mp hd;obtain⟨r,n',hr,fr,er⟩:=tk p (zn hp);have hpi:=lt_of_get hp;have hP8:(P++(ps.take i).map ((fun g=>(g,s.n)) ∘ grpV t s.ps)).length<=1000:=by
      rw[zp,zz,zB];walk_at "o"
     have hkl:=hE5.len;walk_at "wq";refine lawKey_w (k + 6) M5 t r p hr (fit_rows fr).1 s.ps Gs fun M6 g6=>?_;have hE6:=hE5.keep g6;have ek:D.tup [plD p,keyV (valV s.ps) r]=gkD (grpV t s.ps p):=by
      unfold gkD grpV keyV;rw[er];show _=D.tup [plD p,D.tup (((byT r).map (valV s.ps)).map .str)];rw[zP];rfl
     have eQ:P++(ps.take (i + 1)).map ((fun g=>(g,s.n)) ∘ grpV t s.ps)=P++(ps.take i).map ((fun g=>(g,s.n)) ∘ grpV t s.ps)++[(grpV t s.ps p,s.n)]:=by
      rw[zG,hp,zq,yR];rfl
     walk_at "wq";rw[ek];generalize grpV t s.ps p=g at eQ ⊢;generalize P++(ps.take i).map ((fun g=>(g,s.n)) ∘ grpV t s.ps)=P5 at hE6 eQ hP8 hkl;walk_at "wq";refine⟨by walk_at "o",_,hE6.d,zO _,_,(Gr.app _ _).keep _ _ hE6.d,_,kyT_g g,by walk_at "o",?_⟩;obtain⟨j0,ej,hj0⟩:=get2 (hE6.keep (Gr.app M6 [MO.lst []])) g M6.length (get_new _ _);rw[ej];have g8:Gr M6 (M6++[MO.lst []]++[MO.lst [D.int s.n]]):=(Gr.app _ _).snoc _;have hj8:=(Gr.app (M6++[MO.lst []]) [MO.lst [D.int s.n]]).keep _ _ hj0;have n8:(M6++[MO.lst []]++[MO.lst [D.int s.n]])[(M6++[MO.lst []]).length]?=some (.lst [.int s.n]):=get_new _ _;generalize M6++[MO.lst []]++[MO.lst [D.int s.n]]=M8 at g8 hj8 n8 ⊢;generalize (M6++[MO.lst []]).length=j8 at n8 ⊢;have hnl:=nums_len P5 g;walk_at "wq";refine⟨_,hj8,_,n8,by rw[zz];show _ + 1<=_;walk_at "o",?_⟩;have hE9:=(hE6.keep g8).keep (Gr.app M8 [MO.lst ((numsOf P5 g).map .int++[.int s.n])]);have g9:Gr M6 (M8++[MO.lst ((numsOf P5 g).map .int++[.int s.n])]):=g8.snoc _;have n9:(M8++[MO.lst ((numsOf P5 g).map .int++[.int s.n])])[M8.length]?=some (.lst ((numsOf P5 g++[s.n]).map .int)):=by
      rw[zq];exact get_new _ _
     have l8:=g8.len;generalize M8++[MO.lst ((numsOf P5 g).map .int++[.int s.n])]=M9 at hE9 g9 n9 ⊢;have lM:M.length < M6.length:=lt_of_get hE6.d;have ljw:=lt_of_get (g6.keep _ _ h5);have ljg:=lt_of_get (g6.keep _ _ h5');obtain⟨E',hE',lE'⟩:=put2 hE9 g s.n M8.length n9 (by walk_at "o") fun e he=>by have:=lt_of_get (hE6.o e he).2;walk_at "o"
     have jwd:M.length≠jw:=fun z=>by rw[<- z,hE5.d]at h5;cases h5
     have jgd:M.length≠jg:=fun z=>by rw[<- z,hE5.d]at h5';cases h5'
     walk_at "wq";refine⟨_,hE9.d,_,kyT_g g,by unfold kvE;rw[zz];walk_at "o",((g5.trans g6).trans g9).set (zo _) _,⟨?_,?_⟩,⟨E',by rw[eQ];exact hE',fun e he=>?_⟩,_,_,rfl⟩
     ·rw[zk jwd]
      exact(g6.trans g9).keep _ _ h5
     ·rw[zk jgd]
      exact(g6.trans g9).keep _ _ h5'
     ·rcases lE' e he with z | ⟨e0,h0,z⟩
      ·rw[z];exact⟨by walk_at "o",by walk_at "o"⟩
      ·rw[<- z];exact lE5 e0 h0
    ·rintro ρ M5 ⟨g5,⟨h5,h5'⟩,⟨E5,hE5,lE5⟩,x7,x8,rfl⟩
     rw[zz,zI,<- eP]at hE5;walk_at "wq";exact⟨g5,h5,⟨E5,hE5,fun e he=>(lE5 e he).1⟩,_,_,_,rfl⟩
   ·rw[if_neg (by unfold dueC;rw[hn,yG];exact zi),zT]at eP
    exact⟨g2.trans g3,g3.keep _ _ h2,⟨E,by rw[eP];exact hE.keep g3,lE⟩,_,_,_,rfl⟩
  ·rw[if_neg (by unfold dueC;rw[ht,xO];exact zi),zT]at eP
   exact⟨g2,h2,⟨E,by rw[eP];exact hE,lE⟩,_,_,_,rfl⟩
 ·rintro ρ M5 ⟨g5,h5,⟨E,hE,lE⟩,x6,x7,x8,rfl⟩
  rw[zz,zI]at hE;have hPl:=due_len hz ss qs rs turn ws;have hrise:=(due_rise t ss qs rs turn hwo).1;have hperm:=due_perm t qs rs turn hwp;generalize dueL t ss qs rs turn ws=P at hE hPl hrise hperm;have hEl:=hE.len;walk_at "wq";have ek:(kvE E).map (fun p=>keyD2 p.1)=(E.map (·.2.1)).map gkD:=by
   unfold kvE;rw[zP,zP];exact zY fun e _=>keyD_g e.2.1
  obtain⟨gs,e1,e2,e3⟩:=hG.so (E.map (·.2.1)) (by rw[zz];walk_at "o") hE.nd;have egl:gs.length=E.length:=by rw[e2.length_eq,zz]
  refine⟨_,hE.d,_,by rw[ek];exact e1,_,get_new _ _,by rw[zz];walk_at "o",?_⟩;generalize hM6:M5++[MO.lst (gs.map gkD)]=M6;have g6:Gr M5 M6:=hM6 ▸ Gr.app _ _;have h6:M6[M5.length]?=some (.lst (gs.map gkD)):=hM6 ▸ get_new _ _;clear hM6;generalize M5.length=j6 at h6 ⊢;have hE6:=hE.keep g6;refine w_compI (fun i ys M'=>M'=M6/\∃ R:List En,ys=R.map rowR/\R.map (·.2.1)=gs.take i/\∀ r∈R,M6[r.1]?=some (.lst (r.2.2.map .int))/\r.2.2=numsOf P r.2.1) ⟨rfl,[],rfl,rfl,fun _ h=>nomatch h⟩ (fun _ _ _ h=>h.1 ▸ h6) ?_ ?_
  ·rintro i d ys M7 hd ⟨rfl,R,rfl,hR,oR⟩
   rw[zu]at hd;obtain⟨g,hg,rfl⟩:=zt.mp hd;obtain⟨e,he,rfl⟩:=zC.mp (e2.mem_iff.mp (zn hg));have egk:gkD e.2.1=.tup [plD e.2.1.1,.tup (e.2.1.2.map .str)]:=rfl;walk_at "wq";refine⟨_,hE6.d,_,kyT_g _,_,tk_some hE.nd he,?_⟩;rw[egk];walk_at "wq";refine⟨by walk_at "o",by walk_at "o",R++[(e.1,e.2.1,e.2.2)],?_,?_,fun r hr=>?_⟩
   ·rw[zq]
    rfl
   ·rw[zq,hR,zG,hg]
    rfl
   ·rcases zF.mp hr with hr | hr
    ·exact oR r hr
    ·rw[zd.mp hr]
     exact⟨(hE6.o e he).2,hE.vs e he⟩
  ·rintro ys M7 ⟨rfl,R,rfl,hR,oR⟩
   rw[zz,zI]at hR;have G7:=g5.trans g6;refine q R _ _ (G7.snoc _) ⟨get_new _ _,fun r hr=>(Gr.app _ _).keep _ _ (oR r hr).1⟩ ⟨?_,fun g=>?_,fun x hx=>?_⟩
   ·rw[zP]
    show (R.map fun r=>r.2.1).Pairwise _;rw[hR];exact e3
   ·rw[zP]
    show g∈(R.map fun r=>r.2.1) ↔ _;rw[hR,e2.mem_iff,hE.ks g];exact(hperm.map _).mem_iff
   ·obtain⟨r,hr,rfl⟩:=zC.mp hx
    rw[(oR r hr).2,nums_rise hrise];exact sortI_same ((hperm.filter _).map _)
end
end Law
namespace Law
open PySem L3
section
variable {srt:List D->Option (List D)}
theorem q_obl {M:MH}{j:Nat}{ds:List D}(h:M[j]?=some (.lst ds)){B:Bool->MH->Prop}(q:B true M):W (tyD .list (.ob j)) M B:=⟨true,M,by
  show (getM j >>= fun o=>_:Mo Bool) M=_;rw[ok_bind (m:=getM j) (M1:=M) (a:=.lst ds) (by unfold getM;rw[h])]
  rfl,q⟩
theorem kinds_w (k:Nat)(M:MH)(j:Nat)(R:List En)(h:MemAt M j R)(hl:∀ r∈R,r.2.1.1.length<=1000/\r.2.2.length<=1000){Q:D->MH->Prop}(q:∀ M',Gr M M'->Q (.bl true) M'):W ((cx srt (k + 1)).fn "_law_kinds" [.ob j]) M Q:=by
 have big:=line_big;rw[f__law_kinds,wf,b__law_kinds];walk_at "wq";refine q_obl h.l ?_;walk_at "wq";refine⟨_,h.l,?_⟩;refine w_loop (fun i ρ M'=>Gr M M'/\∃ x1 x2,ρ=[some (.ob j),x1,x2]) ⟨Gr.refl,_,_,rfl⟩ (fun _ _ _ g=>g.1.keep _ _ h.l) ?_ ?_
 ·rintro i d ρ M1 hd ⟨g1,x1,x2,rfl⟩
  rw[zu]at hd;obtain⟨r,hr,rfl⟩:=zt.mp hd;have hrm:=zn hr;obtain⟨l1,l2⟩:=hl r hrm;have ho:=g1.keep _ _ (h.o r hrm);have eR:rowR r=.tup [.tup (r.2.1.1.map .int),.tup (r.2.1.2.map .str),.ob r.1]:=rfl;rw[eR];walk_at "wq";refine⟨fun z=>absurd z (by decide),fun _=>⟨fun z=>absurd z (by decide),fun _=>q_obl ho ?_⟩⟩;walk_at "wq";refine⟨fun z=>absurd z (by decide),fun _=>⟨fun z=>absurd z (by decide),fun _=>?_⟩⟩;refine⟨_,get_new _ _,_,(Gr.app _ _).keep _ _ ho,by rw[zz,zz];walk_at "o",_,get_new _ _,?_⟩;rw[<- zq];have G:Gr M (M1++[MO.lst (r.2.1.1.map .int)]++[MO.lst ((r.2.1.1++r.2.2).map .int)]):=(g1.snoc _).snoc _;have n:(M1++[MO.lst (r.2.1.1.map .int)]++[MO.lst ((r.2.1.1++r.2.2).map .int)])[(M1++[MO.lst (r.2.1.1.map .int)]).length]?=some (.lst ((r.2.1.1++r.2.2).map .int)):=get_new _ _;generalize M1++[MO.lst (r.2.1.1.map .int)]++[MO.lst ((r.2.1.1++r.2.2).map .int)]=M2 at G n ⊢;generalize (M1++[MO.lst (r.2.1.1.map .int)]).length=j2 at n ⊢;refine w_loop (fun i ρ M'=>M'=M2/\∃ x1 x2,ρ=[some (.ob j),x1,x2]) ⟨rfl,_,_,rfl⟩ (fun _ _ _ g=>g.1 ▸ n) ?_ ?_
  ·rintro i d ρ M3 hd ⟨rfl,x1,x2,rfl⟩
   rw[zu]at hd;obtain⟨x,hx,rfl⟩:=zt.mp hd;walk_at "wq";exact⟨fun z=>absurd z (by decide),fun _=>⟨fun z=>absurd z (by decide),fun _=>⟨_,_,rfl⟩⟩⟩
  ·rintro ρ M3 ⟨rfl,x1,x2,rfl⟩
   walk_at "wq";exact⟨G,_,_,rfl⟩
 ·rintro ρ M1 ⟨g1,x1,x2,rfl⟩
  walk_at "wq";exact q _ g1
end
end Law
namespace Law
open PySem L3
section
variable {srt:List D->Option (List D)}
theorem good_of {s:Say}{vs ns:List Str}{ot:Str}{base:Int}(h:s.Ok vs ns ot base)(vz:∀ x∈vs++[ot],1<=x.length/\x.length<=12):Good s.ps:=by
 refine⟨h.mks.nd,fun p hp e=>?_,by have:=h.mks.len;walk_at "o"⟩
 have:=(vz _ (h.mks.vl p hp)).1
 rw[e]at this;exact absurd this (by decide +kernel)
theorem plain_tup {n:Nat}{ds:List D}(h:∀ d∈ds,plainD n d=true):plainD (n + 1) (.tup ds)=true:=zV.mpr h
theorem plain_strs {n:Nat}(xs:List Str):plainD (n + 2) (.tup (xs.map .str))=true:=plain_tup fun d hd=>by
 obtain⟨x,_,rfl⟩:=zC.mp hd;rfl
theorem plain_pr {n:Nat}(p:Str×Str):plainD (n + 2) (prD p)=true:=rfl
theorem plain_opt {n:Nat}(o:Option Int):plainD (n + 1) (optD o)=true:=by cases o <;> rfl
theorem plain_ask {n:Nat}(a:Ask):plainD (n + 3) (askD a)=true:=by
 refine plain_tup fun d hd=>?_;simp only[zN,xH,or_false]at hd;rcases hd with rfl | rfl | rfl
 ·rfl
 ·rfl
 ·exact plain_strs _
theorem plain_asks {n:Nat}(xs:List Ask):plainD (n + 4) (.tup (xs.map askD))=true:=plain_tup fun d hd=>by
 obtain⟨x,_,rfl⟩:=zC.mp hd;exact plain_ask x
theorem plain_say (s:Say):plainD 6 (sayD s)=true:=by
 refine plain_tup fun d hd=>?_;simp only[zN,xH,or_false]at hd;rcases hd with rfl | rfl | rfl | rfl | rfl
 ·rfl
 ·refine plain_tup fun d hd=>?_
  obtain⟨x,_,rfl⟩:=zC.mp hd;exact plain_pr x
 ·rfl
 ·rfl
 ·exact plain_opt _
theorem plain_qt (s:Qt):plainD 6 (qtD s)=true:=by
 refine plain_tup fun d hd=>?_;simp only[zN,xH,or_false]at hd;rcases hd with rfl | rfl | rfl | rfl
 ·rfl
 ·exact plain_asks _
 ·rfl
 ·rfl
theorem plain_rule (r:Rule):plainD 6 (ruleD r)=true:=by
 refine plain_tup fun d hd=>?_;simp only[zN,xH,or_false]at hd;rcases hd with rfl | rfl | rfl
 ·exact plain_asks _
 ·exact plain_asks _
 ·exact plain_strs _
theorem plain_1:∀ {n:Nat} {d:D},plainD n d=true->plainD (n + 1) d=true
 | 0,_,h=>by cases h
 | n + 1,d,h=>by
  cases d with
  | tup ds =>
   show ds.all (plainD (n + 1))=true;rw[zV];exact fun x hx=>plain_1 (zV.mp (show ds.all (plainD n)=true from h) x hx)
  | _=>exact h
theorem plain_up {n:Nat}{d:D}(h:plainD n d=true):∀ m:Nat,plainD (n + m) d=true
 | 0=>h
 | m + 1=>plain_1 (plain_up h m)
theorem eo_list19 {α:Type}{M:MH}{f:α->D}(hf:∀ x,plainD 6 (f x)=true){i j:Nat}{xs:List α}(h1:M[i]?=some (.lst (xs.map f)))(h2:M[j]?=some (.lst (xs.map f))):eqO M 19 (.ob i) (.ob j)=some true :=
 eo_obP h1 h2 fun x hx=>by
  obtain⟨y,_,rfl⟩:=zC.mp hx;exact plain_up (hf y) 12
theorem eo_rows {M:MH}:∀ (R R':List En),R.map (·.2)=R'.map (·.2)->(∀ r∈R,M[r.1]?=some (.lst (r.2.2.map .int)))->(∀ r∈R',M[r.1]?=some (.lst (r.2.2.map .int)))->eqL (eqO M 19) (R.map rowR) (R'.map rowR)=some true
 | [],[],_,_,_=>rfl
 | [],_::_,h,_,_=>by cases h
 | _::_,[],h,_,_=>by cases h
 | r::R,r'::R',h,h1,h2=>by
  rw[ze,ze]at h;injection h with e1 e2
  have ih:=eo_rows R R' e2 (fun x hx=>h1 x (zK _ hx)) fun x hx=>h2 x (zK _ hx);have a1:eqO M 18 (plD r.2.1.1) (plD r.2.1.1)=some true:=eo_reflP (by
   show (r.2.1.1.map D.int).all (plainD 17)=true;rw[xz,zV];exact fun _ _=>rfl)
  have a2:eqO M 18 (.tup (r.2.1.2.map .str)) (.tup (r.2.1.2.map .str))=some true:=eo_reflP (by
   show (r.2.1.2.map D.str).all (plainD 17)=true;rw[xz,zV];exact fun _ _=>rfl)
  have a3:eqO M 18 (.ob r.1) (.ob r'.1)=some true:=eo_obP (h1 r zD) (by rw[e1];exact h2 r' zD) fun x hx=>by
   obtain⟨i,_,rfl⟩:=zC.mp hx;rfl
  rw[ze,ze,eqL,ih];have e:eqO M 19 (rowR r) (rowR r')=some true:=by
   unfold rowR;rw[<- e1,eo_tup];simp only[eqL,a1,a2,a3];rfl
  rw[e];rfl
theorem eo_mem {M:MH}{j j':Nat}{R R':List En}(h:MemAt M j R)(h':MemAt M j' R')(e:R.map (·.2)=R'.map (·.2)):eqO M 20 (.ob j) (.ob j')=some true:=by
 have hl:R.length=R'.length:=by have:=congrArg List.length e;simpa using this
 rw[eo_ob h.l h'.l,if_pos (by rw[zz,zz,hl])];exact eo_rows R R' e h.o h'.o
theorem sub_dep:∀ (n:Nat) (t s:Tr) (q:List Int),Fit n t->subT t q=some s->q.length<=n
 | 0,_,_,_,h,_=>h.elim
 | n + 1,t,s,[],_,_=>zO _
 | n + 1,t,s,i::q,h,e=>by
  obtain⟨m,r,rfl,h1,h2⟩:=subT_cons e
  have:=sub_dep n r s q (h.2.2 r (zn h1)) h2
  rw[zM];walk_at "o"
theorem mem_len {lt:Gp->Gp->Bool}{t:Tr}(fit:Fit 5 t){ss:List Say}{qs:List Qt}{rs:List Rule}{turn:Int}(hz:szT 5 t<=10)(ls:ss.length<=5){L:List (Gp×List Int)}(h:IsMem lt (prsV t ss qs rs turn) L):∀ x∈L,x.1.1.length<=1000/\x.2.length<=1000:=fun x hx=>by
 have hl:=prL_len hz (ss.filter fun s=>standsB s turn) (qs.filter fun q=>forceB q turn) rs turn (ss.filter fun s=>standsB s turn);have hf:=yA (fun s=>standsB s turn) ss;have h2:(prsV t ss qs rs turn).length<=50:=by unfold prsV;walk_at "o"
 refine⟨?_,?_⟩
 ·obtain⟨p,hp,e⟩:=zC.mp ((h.ks x.1).mp (zS hx))
  unfold prsV prL at hp;obtain⟨s,_,hs⟩:=List.mem_flatMap.mp hp;obtain⟨g,hg,rfl⟩:=zC.mp hs;obtain⟨pl,hpl,rfl⟩:=zC.mp hg;rw[<- e];show pl.length<=1000;obtain⟨q,r,n',e1,e2,_⟩:=taken_sub 5 t [] pl fit hpl;rw[e1]
  have:=sub_dep 5 t r q fit e2
  rw[List.nil_append];walk_at "o"
 ·rw[h.vs x hx,(sortI_perm _).length_eq]
  exact zH (nums_len _ _) (by walk_at "o")
end
end Law
namespace Law
open PySem L3
section
variable {srt:List D->Option (List D)}
theorem tailA {lt:Gp->Gp->Bool}{as vs:List Str}{M:MH}(hG:SortsG srt lt)(hI:SortsI srt)(hQ:SortsQ srt)(hS:SortsS srt)(sc:List Int)(pd:D)(base:Int)(t:Tr)(js jq jr jh ja jb jc:Nat)(ss:List Say)(qs:List Qt)(rs:List Rule)(b0:0<=base)(b1:base<=100000000005)(fit:Fit 5 t)(hz:szT 5 t<=10)(ls:ss.length<=5)(w:Wld M js jq jr ss qs rs as vs)(lr:∀ r∈rs,r.a.length<=1000/\r.b.length<=1000/\r.ns.length<=1000)
  (hh:M[jh]?=some (.lst [.ob ja,.ob jb,.ob jc])) (ha:M[ja]?=some (.lst (ss.map sayD))) (hb:M[jb]?=some (.lst (qs.map qtD))) (hc:M[jc]?=some (.lst (rs.map ruleD))) :
  W (semSs (cx srt 39) (dropS 7 b_law) [some (.fl (sc.map .int)),some pd,some (.int base),some (trD t),some (.ob js),some (.ob jq),some (.ob jr),some (.ob jh),none,none,none,none]) M (endF fun d _=>d=.bl true):=by
 have big:=line_big;have lq:=w.lq;simp only[b_law,drop_s,drop_0];walk_at "wq";refine⟨_,_,rfl,rfl,⟨by walk_at "o",by walk_at "o"⟩,⟨by walk_at "o",by walk_at "o"⟩,?_⟩;refine w_loop (fun i ρ M'=>Gr M M'/\∃ x8 x9 x10 x11,ρ=[some (.fl (sc.map .int)),some pd,some (.int base),some (trD t),some (.ob js),some (.ob jq),some (.ob jr),some (.ob jh),x8,x9,x10,x11]) ⟨Gr.refl,_,_,_,_,rfl⟩ (fun _ _ _ _=>trivial) ?_ ?_
 ·rintro i d ρ M1 hd ⟨g1,x8,x9,x10,x11,rfl⟩
  obtain⟨rfl,hi⟩:=rng_get hd;generalize base + (i:Int)=turn;walk_at "wq";refine due_w hG hI hQ hS 31 M1 t fit hz (w.keep g1) ls turn fun R9 j9 M9 g9 mem9 is9=>?_;have G9:=g1.trans g9;walk_at "wq";refine⟨⟨by walk_at "o",by walk_at "o"⟩,?_⟩;refine w_loop (fun i ρ M'=>Gr M9 M'/\∃ x10 x11,ρ=[some (.fl (sc.map .int)),some pd,some (.int base),some (trD t),some (.ob js),some (.ob jq),some (.ob jr),some (.ob jh),some (.int turn),some (.ob j9),x10,x11]) ⟨Gr.refl,_,_,rfl⟩ (fun _ _ _ _=>trivial) ?_ ?_
  ·rintro i2 d ρ M2 hd2 ⟨g2,x10,x11,rfl⟩
   obtain⟨rfl,hi2⟩:=rng_get hd2;have G2:=G9.trans g2;have hh2:=G2.keep _ _ hh;walk_at "wq";refine⟨_,hh2,?_⟩;walk_at "wq";refine⟨_,hh2,?_⟩;walk_at "wq";refine⟨_,hh2,?_⟩;walk_at "wq";refine members_w hG hI 27 M2 t fit hz ja jb jc ss qs rs turn ls (by walk_at "o") (fun o ho=>(w.gs o ho).len) (fun o ho=>(w.oq o ho).2) lr (G2.keep _ _ ha) (G2.keep _ _ hb) (G2.keep _ _ hc) fun R j M3 g3 mem3 is3 fr3=>?_;walk_at "wq";refine kinds_w 38 M3 j R mem3 (fun r hr=>mem_len fit hz ls is3 r.2 (zS hr)) fun M4 g4=>?_;have mem4:=mem3.keep g4;have g4':=g3.trans g4;walk_at "wq";rw[p_ne];refine⟨true,eo_mem mem4 (mem9.keep (g2.trans g4')) (mem_uniq hG.as is3 is9 (.refl _)),?_⟩;walk_at "wq";refine⟨zO _,?_⟩;rw[p_ne];refine⟨_,eo_nil ((Gr.app _ _).keep _ _ mem4.l) (get_new _ _),?_⟩;have g5:Gr M2 (M4++[MO.lst []]):=g4'.snoc _;have mem5:=mem4.keep (Gr.app M4 [MO.lst []]);generalize M4++[MO.lst []]=M5 at g5 mem5 ⊢;walk_at "wq";rw[xF];refine⟨fun z=>?_,fun z=>⟨g2.trans g5,_,_,rfl⟩⟩;cases R with
   | nil=>cases z
   | cons r R =>
    have fr:=fr3.2 r zD;have ml:=mem5.l;have mo:=mem5.o r zD;rw[ze]at ml;have eR:rowR r=.tup [plD r.2.1.1,.tup (r.2.1.2.map .str),.ob r.1]:=rfl;have a0:atD (rowR r::R.map rowR) 0=some (.tup [plD r.2.1.1,.tup (r.2.1.2.map .str),.ob r.1]):=at0;have lj:=mem_len fit hz ls is3 r.2 (zS zD);have jn:r.1≠j:=fun z=>by
     rw[z,ml]at mo;cases hr2:r.2.2 with
     | nil=>rw[hr2]at mo;cases mo
     | cons a b=>rw[hr2]at mo;cases mo
    walk_at "wq";refine⟨_,ml,_,rfl,_,a0,?_⟩;walk_at "wq";refine⟨_,mo,_,mo,by rw[zz];walk_at "o",?_⟩;have g6:Gr M2 (M5.set r.1 (.lst (r.2.2.map .int++[.int 0]))):=g5.set fr _;have ml6:(M5.set r.1 (.lst (r.2.2.map .int++[.int 0])))[j]?=some (.lst (rowR r::R.map rowR)):=by
     rw[zk jn];exact ml
    generalize M5.set r.1 (.lst (r.2.2.map .int++[.int 0]))=M6 at g6 ml6 ⊢;walk_at "wq"
    have:∃ y,(rowR r::R.map rowR)[(rowR r::R.map rowR).length - 1]?=some y:=⟨_,zv (by simp)⟩
    obtain⟨y,hy⟩:=this;exact⟨_,ml6,(y,(rowR r::R.map rowR).dropLast),by show Option.map _ _=_;rw[hy];rfl,g2.trans (g6.set fr3.1 _),_,_,rfl⟩
  ·rintro ρ M2 ⟨g2,x10,x11,rfl⟩
   walk_at "wq";exact⟨G9.trans g2,_,_,_,_,rfl⟩
 ·rintro ρ M1 ⟨g1,x8,x9,x10,x11,rfl⟩
  walk_at "wq";refine⟨by walk_at "o",?_⟩;have w2:=(w.keep g1).keep (Gr.app M1 [MO.lst [.ob js,.ob jq,.ob jr]]);have g2:Gr M (M1++[MO.lst [.ob js,.ob jq,.ob jr]]):=g1.snoc _;rw[p_eq];refine⟨true,?_,rfl⟩;rw[eo_ob (g2.keep _ _ hh) (get_new _ _),if_pos (by rfl)];simp only[eqL,eo_list19 plain_say (g2.keep _ _ ha) w2.hs,eo_list19 plain_qt (g2.keep _ _ hb) w2.hq,eo_list19 plain_rule (g2.keep _ _ hc) w2.hr];rfl
theorem law_w {lt:Gp->Gp->Bool}(hsrt:Sorts srt)(hG:SortsG srt lt)(hI:SortsI srt)(hQ:SortsQ srt)(hS:SortsS srt)(sc:List Int):W ((cx srt 40).fn "law" [.fl (sc.map .int)]) [] fun d _=>d=.bl true:=by
 have big:=line_big;have tA:=fun pd base t js jq jr jh ja jb jc ss qs rs as vs M b0 b1 fit hz ls w lr hh ha hb hc=>tailA (lt:=lt) (as:=as) (vs:=vs) (M:=M) hG hI hQ hS sc pd base t js jq jr jh ja jb jc ss qs rs b0 b1 fit hz ls w lr hh ha hb hc;rw[f_law,wf];rw[cut_S 7 b_law];generalize dropS 7 b_law=tl at tA ⊢;simp only[b_law,cut_s,cut_0];walk_at "wq";refine pool_w 35 sc [] fun pd as vs ns ot M1 P g1=>?_;walk_at "wq";refine⟨⟨by walk_at "o",by walk_at "o",by decide⟩,number_w (k:=37) sc _ _ M1 (by walk_at "o") (by walk_at "o") (by decide) fun b M2 b0 b1 g2=>?_⟩;have b1:b<=100000000000:=by
  have:max ((10:Int) ^ (11:Int).toNat) 1000000=100000000000:=by decide
  walk_at "o"
 clear g1;have P2:=P.keep g2;walk_at "wq";obtain⟨m0,hm0,hm04⟩:=pick_nat sc 27 (m:=9) (by walk_at "o");rw[show ((9:Nat):Int)=9 from rfl]at hm0;refine⟨by walk_at "o",pick_w (k:=37) sc _ _ _ (by walk_at "o") (by walk_at "o") (by walk_at "o") ?_⟩;rw[hm0];walk_at "wq";refine⟨_,get_new _ _,?_⟩;obtain⟨mt,hmt,hmm⟩:=nine m0 hm04 1 2 3 4 2 3 4 3 8 (fun i=>1<=i/\i<=8) (by decide) (by decide) (by decide) (by decide) (by decide) (by decide) (by decide) (by decide) (by decide);walk_at "wq";refine⟨_,hmm,?_⟩;obtain⟨m1,rfl⟩:∃ m1:Nat,mt=(m1:Int):=⟨mt.toNat,by walk_at "o"⟩;replace P2:=P2.keep (Gr.app M2 [MO.lst [D.int 1,D.int 2,D.int 3,D.int 4,D.int 2,D.int 3,D.int 4,D.int 3,D.int 8]]);generalize M2++[MO.lst [D.int 1,D.int 2,D.int 3,D.int 4,D.int 2,D.int 3,D.int 4,D.int 3,D.int 8]]=M2a at P2 ⊢;refine tree_w 33 sc 200 m1 M2a P2 (by decide) (by decide) (by walk_at "o") fun t M2' g2' fit hsz=>?_;have hz:szT 5 t<=10:=by walk_at "o"
 have P2:=P2.keep g2';clear g2 g2';walk_at "wq";obtain⟨m,hm,hm4⟩:=pick_nat sc 126 (m:=5) (by walk_at "o");rw[show ((5:Nat):Int)=5 from rfl]at hm;refine pick_w (k:=37) sc _ _ _ (by walk_at "o") (by walk_at "o") (by walk_at "o") ?_;rw[hm];walk_at "wq";rw[show (1:Int) + (m:Int)=((1 + m:Nat):Int) by walk_at "o"];refine sayings_w hsrt 35 sc _ (1 + m) (5 + b) M2' P2 (by walk_at "o") (by walk_at "o") (by walk_at "o") (by walk_at "o") fun ss js M3 hss hsl hsn g3 hjs=>?_;have P3:=P2.keep g3;walk_at "wq";obtain⟨m2,hm2,hm24⟩:=pick_nat sc 127 (m:=3) (by walk_at "o");rw[show ((3:Nat):Int)=3 from rfl]at hm2;refine pick_w (k:=37) sc _ _ _ (by walk_at "o") (by walk_at "o") (by walk_at "o") ?_;rw[hm2];walk_at "wq";refine quietings_w 34 sc _ m2 (5 + b) M3 P3 (by walk_at "o") (by walk_at "o") (by walk_at "o") (by walk_at "o") fun qs jq M4 hqs hql hqn g4 hjq=>?_;have P4:=P3.keep g4;walk_at "wq";obtain⟨m3,hm3,hm34⟩:=pick_nat sc 128 (m:=3) (by walk_at "o");rw[show ((3:Nat):Int)=3 from rfl]at hm3;refine pick_w (k:=37) sc _ _ _ (by walk_at "o") (by walk_at "o") (by walk_at "o") ?_;rw[hm3];walk_at "wq";refine rules_w 34 sc _ m3 M4 P4 (by walk_at "o") (by walk_at "o") (by walk_at "o") fun rs jr M5 hrs hrl g5 hjr5 hjr=>?_;walk_at "wq";have hjs5:=(g4.trans g5).keep _ _ hjs;have hjq5:=g5.keep _ _ hjq;refine⟨_,hjs5,_,(Gr.app _ _).keep _ _ hjq5,_,((Gr.app _ _).snoc _).keep _ _ hjr,by walk_at "o",?_⟩;have g6:Gr M5 (M5++[MO.lst (ss.map sayD)]++[MO.lst (qs.map qtD)]++[MO.lst (rs.map ruleD)]++[MO.lst [D.ob M5.length,D.ob (M5++[MO.lst (ss.map sayD)]).length,D.ob (M5++[MO.lst (ss.map sayD)]++[MO.lst (qs.map qtD)]).length]]):=(((Gr.app _ _).snoc _).snoc _).snoc _;have lrs:∀ r∈rs,r.a.length<=1000/\r.b.length<=1000/\r.ns.length<=1000:=fun r hr=>⟨by have:=(hrs r hr).la;walk_at "o",by have:=(hrs r hr).lb;walk_at "o",by have:=(hrs r hr).ln;walk_at "o"⟩;have wld:Wld M5 js jq jr ss qs rs as vs:=⟨hjs5,hjq5,hjr,by walk_at "o",by walk_at "o",by walk_at "o",hsn,hqn,fun s hs=>good_of (hss s hs) P.vz,fun x hx=>⟨(hqs x hx).ok,by have:=(hqs x hx).len;walk_at "o"⟩,hrs⟩;walk_at "wq";refine tA pd (5 + b) t js jq jr _ _ _ _ ss qs rs as vs _ (by walk_at "o") (by walk_at "o") fit hz (by walk_at "o") (wld.keep g6) lrs (get_new _ _) ?_ ?_ ?_
 ·exact(((Gr.app _ _).snoc _).snoc _).keep _ _ (get_new _ _)
 ·exact((Gr.app _ _).snoc _).keep _ _ (get_new _ _)
 ·exact(Gr.app _ _).keep _ _ (get_new _ _)
theorem law_d0 {lt:Gp->Gp->Bool}(hsrt:Sorts srt)(hG:SortsG srt lt)(hI:SortsI srt)(hQ:SortsQ srt)(hS:SortsS srt)(ns:List Int):∃ M',(cx srt 40).fn "law" [.fl (ns.map .int)] []=some (.ok (.bl true),M'):=by
 obtain⟨a,M',e,rfl⟩:=law_w hsrt hG hI hQ hS ns;exact⟨M',e⟩
end
end Law
namespace L3
open PySem
theorem sortD_permP {ds:List D}(h:ds.length < 64)(hg:∀ d∈ds,gP d=none)(hf:ds.all firstStr=true)(hl:∀ i j,i < ds.length->j < ds.length->∃ b,cmpT ds i j=some b):∃ ys,sortD ds=some ys/\ys.Perm ds:=by
 cases ds with
 | nil =>
  have e:=sortD_str (xs:=[]) (by show 0 < 64;walk_at "o");have e2:sortS []=[]:=yf.mp (sortS_perm []).length_eq;rw[e2]at e;exact⟨[],e,.refl _⟩
 | cons d r =>
  have hn:sortF (d::r)=none:=by
   have hd:strO d=none/\intD d=none:=by
    rw[yD,zc]at hf;cases d <;> first | exact⟨rfl,rfl⟩ | exact absurd hf.1 zi
   simp only[sortF,allS,allI,hd.1,hd.2]
  have hp:sortP (d::r)=none:=by
   unfold sortP;rw[gsP,hg d zD]
  unfold sortD;rw[hn];unfold sortQ;rw[hp];exact sortT_perm h (.inl hf) hl
theorem sort_pairs {ps:List (Str×Str)}(h:ps.length < 64):∃ qs:List (Str×Str),sortD (ps.map prD)=some (qs.map prD)/\qs.Perm ps:=by
 obtain⟨ys,e,hp⟩:=sortD_permP (ds:=ps.map prD) (by rw[zz];exact h) (fun d hd=>by obtain⟨p,_,rfl⟩:=zC.mp hd;rfl) (by rw[xz,zV];exact fun p _=>rfl) (fun i j hi hj=>by
  rw[zz]at hi hj;unfold cmpT;rw[zu,zu,zv hi,zv hj];show ∃ b,lexK [.str ps[i].1,.str ps[i].2] [.str ps[j].1,.str ps[j].2]=some b;simp only[lexK,flatD,Bool.and_self,if_true,ltD];split
  ·split <;> exact⟨_,rfl⟩
  ·exact⟨_,rfl⟩)
 have hy:∀ y∈ys,prD (unD y)=y:=fun y hy=>by
  obtain⟨p,_,rfl⟩:=zC.mp (hp.mem_iff.mp hy);rfl
 refine⟨ys.map unD,?_,?_⟩
 ·rw[zP,e]
  congr 1
  have:ys.map (prD ∘ unD)=ys.map id:=zY fun y h=>hy y h
  rw[this,vq]
 ·have:=hp.map unD
  rw[zP]at this;have e2:ps.map (unD ∘ prD)=ps.map id:=zY fun y h=>rfl;rw[e2,vq]at this;exact this
end L3
namespace Law
open PySem L3
theorem sorts_i:SortsI sortD:=fun ns h=>by
 cases ns with
 | nil =>
  have e:=sortD_str (xs:=[]) (by show 0 < 64;walk_at "o");have e2:sortS []=[]:=yf.mp (sortS_perm []).length_eq;have e3:sortI []=[]:=yf.mp (sortI_perm []).length_eq;rw[e2]at e;rw[e3];exact e
 | cons n r =>
  have e:sortF ((n::r).map D.int)=some ((sortI (n::r)).map .int):=by
   unfold sortF;have e1:allS ((n::r).map D.int)=none:=rfl;rw[e1,allI_map]
  unfold sortD;rw[e];dsimp only;rw[if_pos (by rw[zz];exact h)]
theorem sorts_g:SortsG sortD ltG:=⟨fun _ _ h1 h2=>ltG_o.asym h1 h2,fun _ h nd=>sort_gs h nd⟩
theorem sort_num {α:Type}{f:α->D}{num:α->Int}{rest:α->List D}(hf:∀ x,f x=.tup (.int (num x)::rest x))(hg:∀ x,gP (f x)=none){xs:List α}(h:xs.length < 64)(nd:(xs.map num).Nodup):∃ ws:List α,sortD (xs.map f)=some (ws.map f)/\ws.Perm xs/\ws.Pairwise fun a b=>num a<=num b:=by
 cases hx:xs with
 | nil =>
  have e:=sortD_str (xs:=[]) (by show 0 < 64;walk_at "o");have e2:sortS []=[]:=yf.mp (sortS_perm []).length_eq;rw[e2]at e;exact⟨[],e,.refl _,.nil⟩
 | cons x r =>
  have hn:sortF (xs.map f)=none:=by rw[hx,ze,hf x];rfl
  have hp:sortP (xs.map f)=none:=by rw[hx,ze];unfold sortP;rw[gsP,hg x]
  rw[<- hx];unfold sortD;rw[hn];unfold sortQ;rw[hp];dsimp only;unfold sortT;by_cases h2:2<=xs.length
  ·have at_:∀ i (hi:i < xs.length),xs.getD i x=xs[i]:=fun i hi=>by rw[zm,zv hi];rfl
   have ne:∀ i (hi:i < xs.length) j (hj:j < xs.length),i≠j->num xs[i]≠num xs[j]:=fun i hi j hj hij z=>L3.nd_ne nd (i:=i) (j:=j) (by simpa using hi) (by simpa using hj) hij (by simpa using z);have T:Tot (cmpT (xs.map f)) (fun i j=>decide (num (xs.getD i x) < num (xs.getD j x))) xs.length:=by
    refine⟨fun i j hi hj hij=>?_,fun i j k _ _ _ a b=>?_,fun i j hi hj hij a=>?_⟩
    ·unfold cmpT
     rw[zu,zu,zv hi,zv hj,at_ i hi,at_ j hj];show (match some (f xs[i]),some (f xs[j]) with
      | some (.tup xs),some (.tup ys)=>lexK xs ys
      | _,_=>none)=_
     rw[hf,hf];show (if (true&&true)=true then (if (num xs[i]==num xs[j])=true then _ else some (decide (num xs[i] < num xs[j]))) else none)=_;rw[if_pos (show (true&&true)=true from rfl),if_neg (by simpa using ne i hi j hj hij)]
    ·have a:=of_decide_eq_true a
     have b:=of_decide_eq_true b;exact decide_eq_true (by walk_at "o")
    ·have a:=of_decide_eq_false a
     have:=ne i hi j hj hij
     rw[at_ i hi,at_ j hj]at a ⊢;exact decide_eq_true (by walk_at "o")
   obtain⟨p,e,ho,hs⟩:=sort_up T (by walk_at "o");have hsz:=ho.size;have hc:(decide ((xs.map f).length < 64)&&((xs.map f).all firstStr||(xs.map f).all firstInt))=true:=by
    have:(xs.map f).all firstInt=true:=by
     rw[xz,zV];intro y _;show firstInt (f y)=true;rw[hf];rfl
    rw[this,zz,decide_eq_true h,Bool.or_true];rfl
   rw[if_neg (by rw[zz];walk_at "o"),if_pos hc,zz,e];refine⟨p.toList.map fun i=>xs.getD i x,?_,?_,?_⟩
   ·show some _=some _
    congr 1;rw[zP];refine zY fun i hi=>?_;have hi':i < xs.length:=yh.mp (ho.mem_iff.mp hi);simp[zm,zv hi']
   ·have:=ho.map fun i=>xs.getD i x
    refine this.trans (List.Perm.of_eq ?_);apply xC;intro i;rw[zu];by_cases hi:i < xs.length
    ·rw[xM hi,zv hi]
     simp[zm,zv hi]
    ·rw[zZ (by rw[yz];walk_at "o"),zZ (by walk_at "o")]
     rfl
   ·rw[xl]
    intro i j hi hj hij;rw[zz,zW,hsz]at hi hj;have e1:∀ k (hk:k < xs.length),p.toList[k]?=some (ga p k):=fun k hk=>by
     unfold ga;rw[ya,yp,yl (by walk_at "o")];rfl
    have:=of_decide_eq_true (hs i j hij hj)
    have a1:=e1 i hi;have a2:=e1 j hj;rw[zv (by rw[zW];walk_at "o"),Option.some.injEq]at a1 a2;rw[yX,yX,a1,a2];exact Int.le_of_lt this
  ·rw[if_pos (by rw[zz];walk_at "o")]
   refine⟨xs,rfl,.refl _,?_⟩;match xs,h2 with
   | [],_=>exact .nil
   | [a],_=>exact xc _ _
   | a::b::r,z=>exact absurd (by show 2<=r.length + 1 + 1;walk_at "o") z
theorem sorts_q:SortsQ sortD:=fun qs h nd=>sort_num (f:=qtD) (num:=(·.n)) (rest:=fun s=>[.tup (s.xs.map askD),.int s.fst,.int s.lst]) (fun _=>rfl) (fun _=>rfl) (by walk_at "o") nd
theorem sorts_s:SortsS sortD:=fun ss h nd=>sort_num (f:=sayD) (num:=(·.n)) (rest:=fun s=>[.tup (s.ps.map prD),.int s.w,.int s.came,optD s.gone]) (fun _=>rfl) (fun _=>rfl) h nd
theorem law_d (ns:List Int)(_:ns.length<=63):∃ M',(cx sortD 40).fn "law" [.fl (ns.map .int)] []=some (.ok (.bl true),M'):=law_d0 (fun _ h=>sort_pairs h) sorts_g sorts_i sorts_q sorts_s ns
end Law
namespace Law
open PySem PySem.Spec PySem.Calls PyProof.Rows L2 L3
def top (i:Nat):Stmt:=PySem.Challenge.pw_belfry_k39_whole_members.main.body.getD i (.Pass ⟨0,0,0,0⟩)
noncomputable def glN:List Str:=[]
noncomputable def blN:List Str:=["all","any","bool","dict","enumerate","int","isinstance","len","list","max","min","range","sorted","tuple"]
noncomputable def e_has_name:Ent:=⟨"has_name",top 1,["marks","name"],["marks","name"],b_has_name⟩
noncomputable def e_value_in:Ent:=⟨"value_in",top 2,["marks","name","pair"],["marks","name"],b_value_in⟩
noncomputable def e_meets:Ent:=⟨"meets",top 4,["asking","marks","word","name","values"],["asking","marks"],b_meets⟩
noncomputable def e_meets_all:Ent:=⟨"meets_all",top 5,["askings","marks"],["askings","marks"],b_meets_all⟩
noncomputable def e_stands:Ent:=⟨"stands",top 7,["saying","turn"],["saying","turn"],b_stands⟩
noncomputable def e_in_force:Ent:=⟨"in_force",top 8,["quieting","turn"],["quieting","turn"],b_in_force⟩
noncomputable def e_have_same_values:Ent:=⟨"have_same_values",top 9,["marks","others","names"],["marks","others","names"],b_have_same_values⟩
noncomputable def e_is_greater:Ent:=⟨"is_greater",top 10,["other","saying","rule"],["other","saying","rule"],b_is_greater⟩
noncomputable def e_ground:Ent:=⟨"ground",top 11,["saying","sayings","quietings","rules","turn","there","told","heavier","k","rule","greater"],["saying","sayings","quietings","rules","turn"],b_ground⟩
noncomputable def e_row_at:Ent:=⟨"row_at",top 16,["tree","place","row","k"],["tree","place"],b_row_at⟩
noncomputable def e_taken_from:Ent:=⟨"taken_from",top 17,["row","place","marks","found","k","below"],["row","place","marks"],b_taken_from⟩
noncomputable def e_taken:Ent:=⟨"taken",top 18,["tree","marks"],["tree","marks"],b_taken⟩
noncomputable def e_key_of:Ent:=⟨"key_of",top 19,["row","marks"],["row","marks"],b_key_of⟩
noncomputable def e_groups_of:Ent:=⟨"groups_of",top 20,["tree","marks"],["tree","marks"],b_groups_of⟩
noncomputable def e_members:Ent:=⟨"members",top 22,["tree","sayings","quietings","rules","turn","standing","forcing","numbers","saying","group"],["tree","sayings","quietings","rules","turn"],b_members⟩
noncomputable def e__law_mixed:Ent:=⟨"_law_mixed",top 24,["_law_script","_law_k","_law_number_here"],["_law_script","_law_k"],b__law_mixed⟩
noncomputable def e__law_pick:Ent:=⟨"_law_pick",top 25,["_law_script","_law_k","_law_many"],["_law_script","_law_k","_law_many"],b__law_pick⟩
noncomputable def e__law_words:Ent:=⟨"_law_words",top 26,["_law_script","_law_k","_law_signs","_law_many","_law_word","_law_way","_law_at","_law_first","_law_some","_law_j","_law_sign"],["_law_script","_law_k","_law_signs","_law_many"],b__law_words⟩
noncomputable def e__law_pool:Ent:=⟨"_law_pool",top 27,["_law_script","_law_k","_law_names","_law_values","_law_turn","_law_asked"],["_law_script","_law_k"],b__law_pool⟩
noncomputable def e__law_asking:Ent:=⟨"_law_asking",top 28,["_law_script","_law_k","_law_pool_here","_law_name","_law_word","_law_first","_law_some"],["_law_script","_law_k","_law_pool_here"],b__law_asking⟩
noncomputable def e__law_askings:Ent:=⟨"_law_askings",top 29,["_law_script","_law_k","_law_many","_law_pool_here"],["_law_script","_law_k","_law_many","_law_pool_here"],b__law_askings⟩
noncomputable def e__law_nodes:Ent:=⟨"_law_nodes",top 30,["_law_script","_law_k","_law_many","_law_pool_here","_law_nodes_here","_law_j","_law_at","_law_some","_law_turn","_law_names","_law_over","_law_node","_law_head"],["_law_script","_law_k","_law_many","_law_pool_here"],b__law_nodes⟩
noncomputable def e__law_row:Ent:=⟨"_law_row",top 31,["_law_nodes_here","_law_j","_law_node"],["_law_nodes_here","_law_j"],b__law_row⟩
noncomputable def e__law_tree:Ent:=⟨"_law_tree",top 32,["_law_script","_law_k","_law_many","_law_pool_here","_law_nodes_here"],["_law_script","_law_k","_law_many","_law_pool_here"],b__law_tree⟩
noncomputable def e__law_marks:Ent:=⟨"_law_marks",top 33,["_law_script","_law_k","_law_pool_here","_law_pairs","_law_j","_law_way"],["_law_script","_law_k","_law_pool_here"],b__law_marks⟩
noncomputable def e__law_met:Ent:=⟨"_law_met",top 34,["_law_asking_here","_law_value"],["_law_asking_here","_law_value"],b__law_met⟩
noncomputable def e__law_lets:Ent:=⟨"_law_lets",top 35,["_law_some","_law_marks_here","_law_pairs"],["_law_some","_law_marks_here"],b__law_lets⟩
noncomputable def e__law_taken:Ent:=⟨"_law_taken",top 36,["_law_row_here","_law_marks_here","_law_place","_law_found","_law_gone","_law_j"],["_law_row_here","_law_marks_here","_law_place"],b__law_taken⟩
noncomputable def e__law_number:Ent:=⟨"_law_number",top 37,["_law_script","_law_k","_law_most","_law_number_here","_law_reach"],["_law_script","_law_k","_law_most"],b__law_number⟩
noncomputable def e__law_mixed_up:Ent:=⟨"_law_mixed_up",top 38,["_law_script","_law_k","_law_some","_law_found","_law_j"],["_law_script","_law_k","_law_some"],b__law_mixed_up⟩
noncomputable def e__law_sayings:Ent:=⟨"_law_sayings",top 39,["_law_script","_law_k","_law_many","_law_base","_law_pool_here","_law_some","_law_j","_law_at","_law_came","_law_gone","_law_weight"],["_law_script","_law_k","_law_many","_law_base","_law_pool_here"],b__law_sayings⟩
noncomputable def e__law_quietings:Ent:=⟨"_law_quietings",top 40,["_law_script","_law_k","_law_many","_law_base","_law_pool_here","_law_some","_law_j","_law_at","_law_first","_law_last","_law_asked"],["_law_script","_law_k","_law_many","_law_base","_law_pool_here"],b__law_quietings⟩
noncomputable def e__law_rules:Ent:=⟨"_law_rules",top 41,["_law_script","_law_k","_law_many","_law_pool_here","_law_some","_law_j","_law_at","_law_turn","_law_names","_law_over"],["_law_script","_law_k","_law_many","_law_pool_here"],b__law_rules⟩
noncomputable def e__law_there:Ent:=⟨"_law_there",top 42,["_law_saying","_law_turn"],["_law_saying","_law_turn"],b__law_there⟩
noncomputable def e__law_ground:Ent:=⟨"_law_ground",top 43,["_law_saying","_law_sayings_here","_law_quietings_here","_law_rules_here","_law_turn","_law_one","_law_mine","_law_k","_law_number_here","_law_other","_law_its","_law_unlike"],["_law_saying","_law_sayings_here","_law_quietings_here","_law_rules_here","_law_turn"],b__law_ground⟩
noncomputable def e__law_key:Ent:=⟨"_law_key",top 44,["_law_tree_here","_law_place","_law_marks_here","_law_j","_law_pairs"],["_law_tree_here","_law_place","_law_marks_here"],b__law_key⟩
noncomputable def e__law_due:Ent:=⟨"_law_due",top 45,["_law_tree_here","_law_sayings_here","_law_quietings_here","_law_rules_here","_law_turn","_law_some","_law_one","_law_place","_law_group"],["_law_tree_here","_law_sayings_here","_law_quietings_here","_law_rules_here","_law_turn"],b__law_due⟩
noncomputable def e__law_kinds:Ent:=⟨"_law_kinds",top 46,["_law_found","_law_row_here","_law_number_here"],["_law_found"],b__law_kinds⟩
noncomputable def e_law:Ent:=⟨"law",top 47,["_law_script","_law_pool_here","_law_base","_law_tree_here","_law_sayings_here","_law_quietings_here","_law_rules_here","_law_handed","_law_turn","_law_due_here","_law_again","_law_found"],["_law_script"],b_law⟩
noncomputable def ents:List Ent:=[e_has_name,e_value_in,e_meets,e_meets_all,e_stands,e_in_force,e_have_same_values,e_is_greater,e_ground,e_row_at,e_taken_from,e_taken,e_key_of,e_groups_of,e_members,e__law_mixed,e__law_pick,e__law_words,e__law_pool,e__law_asking,e__law_askings,e__law_nodes,e__law_row,e__law_tree,e__law_marks,e__law_met,e__law_lets,e__law_taken,e__law_number,e__law_mixed_up,e__law_sayings,e__law_quietings,e__law_rules,e__law_there,e__law_ground,e__law_key,e__law_due,e__law_kinds,e_law]
theorem tab_eq:tabOf ents=tab:=rfl
theorem c_has_name:cSs ⟨defScope (top 1),e_has_name.N,ents.map (·.x),glN,blN⟩ 200 (defBody (top 1))=some b_has_name:=by kernel_rfl
theorem s_has_name:FnScope e_has_name.N e_has_name.ps (defScope (top 1)):=⟨rfl,rfl,rfl,by decide +kernel,rfl,by decide +kernel,by decide +kernel⟩
theorem t_has_name:(tabOf ents).lookup e_has_name.x=some ⟨e_has_name.N.length,e_has_name.ps.length,e_has_name.b⟩:=by kernel_rfl
theorem c_value_in:cSs ⟨defScope (top 2),e_value_in.N,ents.map (·.x),glN,blN⟩ 200 (defBody (top 2))=some b_value_in:=by kernel_rfl
theorem s_value_in:FnScope e_value_in.N e_value_in.ps (defScope (top 2)):=⟨rfl,rfl,rfl,by decide +kernel,rfl,by decide +kernel,by decide +kernel⟩
theorem t_value_in:(tabOf ents).lookup e_value_in.x=some ⟨e_value_in.N.length,e_value_in.ps.length,e_value_in.b⟩:=by kernel_rfl
theorem c_meets:cSs ⟨defScope (top 4),e_meets.N,ents.map (·.x),glN,blN⟩ 200 (defBody (top 4))=some b_meets:=by kernel_rfl
theorem s_meets:FnScope e_meets.N e_meets.ps (defScope (top 4)):=⟨rfl,rfl,rfl,by decide +kernel,rfl,by decide +kernel,by decide +kernel⟩
theorem t_meets:(tabOf ents).lookup e_meets.x=some ⟨e_meets.N.length,e_meets.ps.length,e_meets.b⟩:=by kernel_rfl
theorem c_meets_all:cSs ⟨defScope (top 5),e_meets_all.N,ents.map (·.x),glN,blN⟩ 200 (defBody (top 5))=some b_meets_all:=by kernel_rfl
theorem s_meets_all:FnScope e_meets_all.N e_meets_all.ps (defScope (top 5)):=⟨rfl,rfl,rfl,by decide +kernel,rfl,by decide +kernel,by decide +kernel⟩
theorem t_meets_all:(tabOf ents).lookup e_meets_all.x=some ⟨e_meets_all.N.length,e_meets_all.ps.length,e_meets_all.b⟩:=by kernel_rfl
theorem c_stands:cSs ⟨defScope (top 7),e_stands.N,ents.map (·.x),glN,blN⟩ 200 (defBody (top 7))=some b_stands:=by kernel_rfl
theorem s_stands:FnScope e_stands.N e_stands.ps (defScope (top 7)):=⟨rfl,rfl,rfl,by decide +kernel,rfl,by decide +kernel,by decide +kernel⟩
theorem t_stands:(tabOf ents).lookup e_stands.x=some ⟨e_stands.N.length,e_stands.ps.length,e_stands.b⟩:=by kernel_rfl
theorem c_in_force:cSs ⟨defScope (top 8),e_in_force.N,ents.map (·.x),glN,blN⟩ 200 (defBody (top 8))=some b_in_force:=by kernel_rfl
theorem s_in_force:FnScope e_in_force.N e_in_force.ps (defScope (top 8)):=⟨rfl,rfl,rfl,by decide +kernel,rfl,by decide +kernel,by decide +kernel⟩
theorem t_in_force:(tabOf ents).lookup e_in_force.x=some ⟨e_in_force.N.length,e_in_force.ps.length,e_in_force.b⟩:=by kernel_rfl
theorem c_have_same_values:cSs ⟨defScope (top 9),e_have_same_values.N,ents.map (·.x),glN,blN⟩ 200 (defBody (top 9))=some b_have_same_values:=by kernel_rfl
theorem s_have_same_values:FnScope e_have_same_values.N e_have_same_values.ps (defScope (top 9)):=⟨rfl,rfl,rfl,by decide +kernel,rfl,by decide +kernel,by decide +kernel⟩
theorem t_have_same_values:(tabOf ents).lookup e_have_same_values.x=some ⟨e_have_same_values.N.length,e_have_same_values.ps.length,e_have_same_values.b⟩:=by kernel_rfl
theorem c_is_greater:cSs ⟨defScope (top 10),e_is_greater.N,ents.map (·.x),glN,blN⟩ 200 (defBody (top 10))=some b_is_greater:=by kernel_rfl
theorem s_is_greater:FnScope e_is_greater.N e_is_greater.ps (defScope (top 10)):=⟨rfl,rfl,rfl,by decide +kernel,rfl,by decide +kernel,by decide +kernel⟩
theorem t_is_greater:(tabOf ents).lookup e_is_greater.x=some ⟨e_is_greater.N.length,e_is_greater.ps.length,e_is_greater.b⟩:=by kernel_rfl
theorem c_ground:cSs ⟨defScope (top 11),e_ground.N,ents.map (·.x),glN,blN⟩ 200 (defBody (top 11))=some b_ground:=by kernel_rfl
theorem s_ground:FnScope e_ground.N e_ground.ps (defScope (top 11)):=⟨rfl,rfl,rfl,by decide +kernel,rfl,by decide +kernel,by decide +kernel⟩
theorem t_ground:(tabOf ents).lookup e_ground.x=some ⟨e_ground.N.length,e_ground.ps.length,e_ground.b⟩:=by kernel_rfl
theorem c_row_at:cSs ⟨defScope (top 16),e_row_at.N,ents.map (·.x),glN,blN⟩ 200 (defBody (top 16))=some b_row_at:=by kernel_rfl
theorem s_row_at:FnScope e_row_at.N e_row_at.ps (defScope (top 16)):=⟨rfl,rfl,rfl,by decide +kernel,rfl,by decide +kernel,by decide +kernel⟩
theorem t_row_at:(tabOf ents).lookup e_row_at.x=some ⟨e_row_at.N.length,e_row_at.ps.length,e_row_at.b⟩:=by kernel_rfl
theorem c_taken_from:cSs ⟨defScope (top 17),e_taken_from.N,ents.map (·.x),glN,blN⟩ 200 (defBody (top 17))=some b_taken_from:=by kernel_rfl
theorem s_taken_from:FnScope e_taken_from.N e_taken_from.ps (defScope (top 17)):=⟨rfl,rfl,rfl,by decide +kernel,rfl,by decide +kernel,by decide +kernel⟩
theorem t_taken_from:(tabOf ents).lookup e_taken_from.x=some ⟨e_taken_from.N.length,e_taken_from.ps.length,e_taken_from.b⟩:=by kernel_rfl
theorem c_taken:cSs ⟨defScope (top 18),e_taken.N,ents.map (·.x),glN,blN⟩ 200 (defBody (top 18))=some b_taken:=by kernel_rfl
theorem s_taken:FnScope e_taken.N e_taken.ps (defScope (top 18)):=⟨rfl,rfl,rfl,by decide +kernel,rfl,by decide +kernel,by decide +kernel⟩
theorem t_taken:(tabOf ents).lookup e_taken.x=some ⟨e_taken.N.length,e_taken.ps.length,e_taken.b⟩:=by kernel_rfl
theorem c_key_of:cSs ⟨defScope (top 19),e_key_of.N,ents.map (·.x),glN,blN⟩ 200 (defBody (top 19))=some b_key_of:=by kernel_rfl
theorem s_key_of:FnScope e_key_of.N e_key_of.ps (defScope (top 19)):=⟨rfl,rfl,rfl,by decide +kernel,rfl,by decide +kernel,by decide +kernel⟩
theorem t_key_of:(tabOf ents).lookup e_key_of.x=some ⟨e_key_of.N.length,e_key_of.ps.length,e_key_of.b⟩:=by kernel_rfl
theorem c_groups_of:cSs ⟨defScope (top 20),e_groups_of.N,ents.map (·.x),glN,blN⟩ 200 (defBody (top 20))=some b_groups_of:=by kernel_rfl
theorem s_groups_of:FnScope e_groups_of.N e_groups_of.ps (defScope (top 20)):=⟨rfl,rfl,rfl,by decide +kernel,rfl,by decide +kernel,by decide +kernel⟩
theorem t_groups_of:(tabOf ents).lookup e_groups_of.x=some ⟨e_groups_of.N.length,e_groups_of.ps.length,e_groups_of.b⟩:=by kernel_rfl
theorem c_members:cSs ⟨defScope (top 22),e_members.N,ents.map (·.x),glN,blN⟩ 200 (defBody (top 22))=some b_members:=by kernel_rfl
theorem s_members:FnScope e_members.N e_members.ps (defScope (top 22)):=⟨rfl,rfl,rfl,by decide +kernel,rfl,by decide +kernel,by decide +kernel⟩
theorem t_members:(tabOf ents).lookup e_members.x=some ⟨e_members.N.length,e_members.ps.length,e_members.b⟩:=by kernel_rfl
theorem c__law_mixed:cSs ⟨defScope (top 24),e__law_mixed.N,ents.map (·.x),glN,blN⟩ 200 (defBody (top 24))=some b__law_mixed:=by kernel_rfl
theorem s__law_mixed:FnScope e__law_mixed.N e__law_mixed.ps (defScope (top 24)):=⟨rfl,rfl,rfl,by decide +kernel,rfl,by decide +kernel,by decide +kernel⟩
theorem t__law_mixed:(tabOf ents).lookup e__law_mixed.x=some ⟨e__law_mixed.N.length,e__law_mixed.ps.length,e__law_mixed.b⟩:=by kernel_rfl
theorem c__law_pick:cSs ⟨defScope (top 25),e__law_pick.N,ents.map (·.x),glN,blN⟩ 200 (defBody (top 25))=some b__law_pick:=by kernel_rfl
theorem s__law_pick:FnScope e__law_pick.N e__law_pick.ps (defScope (top 25)):=⟨rfl,rfl,rfl,by decide +kernel,rfl,by decide +kernel,by decide +kernel⟩
theorem t__law_pick:(tabOf ents).lookup e__law_pick.x=some ⟨e__law_pick.N.length,e__law_pick.ps.length,e__law_pick.b⟩:=by kernel_rfl
theorem c__law_words:cSs ⟨defScope (top 26),e__law_words.N,ents.map (·.x),glN,blN⟩ 200 (defBody (top 26))=some b__law_words:=by kernel_rfl
theorem s__law_words:FnScope e__law_words.N e__law_words.ps (defScope (top 26)):=⟨rfl,rfl,rfl,by decide +kernel,rfl,by decide +kernel,by decide +kernel⟩
theorem t__law_words:(tabOf ents).lookup e__law_words.x=some ⟨e__law_words.N.length,e__law_words.ps.length,e__law_words.b⟩:=by kernel_rfl
theorem c__law_pool:cSs ⟨defScope (top 27),e__law_pool.N,ents.map (·.x),glN,blN⟩ 200 (defBody (top 27))=some b__law_pool:=by kernel_rfl
theorem s__law_pool:FnScope e__law_pool.N e__law_pool.ps (defScope (top 27)):=⟨rfl,rfl,rfl,by decide +kernel,rfl,by decide +kernel,by decide +kernel⟩
theorem t__law_pool:(tabOf ents).lookup e__law_pool.x=some ⟨e__law_pool.N.length,e__law_pool.ps.length,e__law_pool.b⟩:=by kernel_rfl
theorem c__law_asking:cSs ⟨defScope (top 28),e__law_asking.N,ents.map (·.x),glN,blN⟩ 200 (defBody (top 28))=some b__law_asking:=by kernel_rfl
theorem s__law_asking:FnScope e__law_asking.N e__law_asking.ps (defScope (top 28)):=⟨rfl,rfl,rfl,by decide +kernel,rfl,by decide +kernel,by decide +kernel⟩
theorem t__law_asking:(tabOf ents).lookup e__law_asking.x=some ⟨e__law_asking.N.length,e__law_asking.ps.length,e__law_asking.b⟩:=by kernel_rfl
theorem c__law_askings:cSs ⟨defScope (top 29),e__law_askings.N,ents.map (·.x),glN,blN⟩ 200 (defBody (top 29))=some b__law_askings:=by kernel_rfl
theorem s__law_askings:FnScope e__law_askings.N e__law_askings.ps (defScope (top 29)):=⟨rfl,rfl,rfl,by decide +kernel,rfl,by decide +kernel,by decide +kernel⟩
theorem t__law_askings:(tabOf ents).lookup e__law_askings.x=some ⟨e__law_askings.N.length,e__law_askings.ps.length,e__law_askings.b⟩:=by kernel_rfl
theorem c__law_nodes:cSs ⟨defScope (top 30),e__law_nodes.N,ents.map (·.x),glN,blN⟩ 200 (defBody (top 30))=some b__law_nodes:=by kernel_rfl
theorem s__law_nodes:FnScope e__law_nodes.N e__law_nodes.ps (defScope (top 30)):=⟨rfl,rfl,rfl,by decide +kernel,rfl,by decide +kernel,by decide +kernel⟩
theorem t__law_nodes:(tabOf ents).lookup e__law_nodes.x=some ⟨e__law_nodes.N.length,e__law_nodes.ps.length,e__law_nodes.b⟩:=by kernel_rfl
theorem c__law_row:cSs ⟨defScope (top 31),e__law_row.N,ents.map (·.x),glN,blN⟩ 200 (defBody (top 31))=some b__law_row:=by kernel_rfl
theorem s__law_row:FnScope e__law_row.N e__law_row.ps (defScope (top 31)):=⟨rfl,rfl,rfl,by decide +kernel,rfl,by decide +kernel,by decide +kernel⟩
theorem t__law_row:(tabOf ents).lookup e__law_row.x=some ⟨e__law_row.N.length,e__law_row.ps.length,e__law_row.b⟩:=by kernel_rfl
theorem c__law_tree:cSs ⟨defScope (top 32),e__law_tree.N,ents.map (·.x),glN,blN⟩ 200 (defBody (top 32))=some b__law_tree:=by kernel_rfl
theorem s__law_tree:FnScope e__law_tree.N e__law_tree.ps (defScope (top 32)):=⟨rfl,rfl,rfl,by decide +kernel,rfl,by decide +kernel,by decide +kernel⟩
theorem t__law_tree:(tabOf ents).lookup e__law_tree.x=some ⟨e__law_tree.N.length,e__law_tree.ps.length,e__law_tree.b⟩:=by kernel_rfl
theorem c__law_marks:cSs ⟨defScope (top 33),e__law_marks.N,ents.map (·.x),glN,blN⟩ 200 (defBody (top 33))=some b__law_marks:=by kernel_rfl
theorem s__law_marks:FnScope e__law_marks.N e__law_marks.ps (defScope (top 33)):=⟨rfl,rfl,rfl,by decide +kernel,rfl,by decide +kernel,by decide +kernel⟩
theorem t__law_marks:(tabOf ents).lookup e__law_marks.x=some ⟨e__law_marks.N.length,e__law_marks.ps.length,e__law_marks.b⟩:=by kernel_rfl
theorem c__law_met:cSs ⟨defScope (top 34),e__law_met.N,ents.map (·.x),glN,blN⟩ 200 (defBody (top 34))=some b__law_met:=by kernel_rfl
theorem s__law_met:FnScope e__law_met.N e__law_met.ps (defScope (top 34)):=⟨rfl,rfl,rfl,by decide +kernel,rfl,by decide +kernel,by decide +kernel⟩
theorem t__law_met:(tabOf ents).lookup e__law_met.x=some ⟨e__law_met.N.length,e__law_met.ps.length,e__law_met.b⟩:=by kernel_rfl
theorem c__law_lets:cSs ⟨defScope (top 35),e__law_lets.N,ents.map (·.x),glN,blN⟩ 200 (defBody (top 35))=some b__law_lets:=by kernel_rfl
theorem s__law_lets:FnScope e__law_lets.N e__law_lets.ps (defScope (top 35)):=⟨rfl,rfl,rfl,by decide +kernel,rfl,by decide +kernel,by decide +kernel⟩
theorem t__law_lets:(tabOf ents).lookup e__law_lets.x=some ⟨e__law_lets.N.length,e__law_lets.ps.length,e__law_lets.b⟩:=by kernel_rfl
theorem c__law_taken:cSs ⟨defScope (top 36),e__law_taken.N,ents.map (·.x),glN,blN⟩ 200 (defBody (top 36))=some b__law_taken:=by kernel_rfl
theorem s__law_taken:FnScope e__law_taken.N e__law_taken.ps (defScope (top 36)):=⟨rfl,rfl,rfl,by decide +kernel,rfl,by decide +kernel,by decide +kernel⟩
theorem t__law_taken:(tabOf ents).lookup e__law_taken.x=some ⟨e__law_taken.N.length,e__law_taken.ps.length,e__law_taken.b⟩:=by kernel_rfl
theorem c__law_number:cSs ⟨defScope (top 37),e__law_number.N,ents.map (·.x),glN,blN⟩ 200 (defBody (top 37))=some b__law_number:=by kernel_rfl
theorem s__law_number:FnScope e__law_number.N e__law_number.ps (defScope (top 37)):=⟨rfl,rfl,rfl,by decide +kernel,rfl,by decide +kernel,by decide +kernel⟩
theorem t__law_number:(tabOf ents).lookup e__law_number.x=some ⟨e__law_number.N.length,e__law_number.ps.length,e__law_number.b⟩:=by kernel_rfl
theorem c__law_mixed_up:cSs ⟨defScope (top 38),e__law_mixed_up.N,ents.map (·.x),glN,blN⟩ 200 (defBody (top 38))=some b__law_mixed_up:=by kernel_rfl
theorem s__law_mixed_up:FnScope e__law_mixed_up.N e__law_mixed_up.ps (defScope (top 38)):=⟨rfl,rfl,rfl,by decide +kernel,rfl,by decide +kernel,by decide +kernel⟩
theorem t__law_mixed_up:(tabOf ents).lookup e__law_mixed_up.x=some ⟨e__law_mixed_up.N.length,e__law_mixed_up.ps.length,e__law_mixed_up.b⟩:=by kernel_rfl
theorem c__law_sayings:cSs ⟨defScope (top 39),e__law_sayings.N,ents.map (·.x),glN,blN⟩ 200 (defBody (top 39))=some b__law_sayings:=by kernel_rfl
theorem s__law_sayings:FnScope e__law_sayings.N e__law_sayings.ps (defScope (top 39)):=⟨rfl,rfl,rfl,by decide +kernel,rfl,by decide +kernel,by decide +kernel⟩
theorem t__law_sayings:(tabOf ents).lookup e__law_sayings.x=some ⟨e__law_sayings.N.length,e__law_sayings.ps.length,e__law_sayings.b⟩:=by kernel_rfl
theorem c__law_quietings:cSs ⟨defScope (top 40),e__law_quietings.N,ents.map (·.x),glN,blN⟩ 200 (defBody (top 40))=some b__law_quietings:=by kernel_rfl
theorem s__law_quietings:FnScope e__law_quietings.N e__law_quietings.ps (defScope (top 40)):=⟨rfl,rfl,rfl,by decide +kernel,rfl,by decide +kernel,by decide +kernel⟩
theorem t__law_quietings:(tabOf ents).lookup e__law_quietings.x=some ⟨e__law_quietings.N.length,e__law_quietings.ps.length,e__law_quietings.b⟩:=by kernel_rfl
theorem c__law_rules:cSs ⟨defScope (top 41),e__law_rules.N,ents.map (·.x),glN,blN⟩ 200 (defBody (top 41))=some b__law_rules:=by kernel_rfl
theorem s__law_rules:FnScope e__law_rules.N e__law_rules.ps (defScope (top 41)):=⟨rfl,rfl,rfl,by decide +kernel,rfl,by decide +kernel,by decide +kernel⟩
theorem t__law_rules:(tabOf ents).lookup e__law_rules.x=some ⟨e__law_rules.N.length,e__law_rules.ps.length,e__law_rules.b⟩:=by kernel_rfl
theorem c__law_there:cSs ⟨defScope (top 42),e__law_there.N,ents.map (·.x),glN,blN⟩ 200 (defBody (top 42))=some b__law_there:=by kernel_rfl
theorem s__law_there:FnScope e__law_there.N e__law_there.ps (defScope (top 42)):=⟨rfl,rfl,rfl,by decide +kernel,rfl,by decide +kernel,by decide +kernel⟩
theorem t__law_there:(tabOf ents).lookup e__law_there.x=some ⟨e__law_there.N.length,e__law_there.ps.length,e__law_there.b⟩:=by kernel_rfl
theorem c__law_ground:cSs ⟨defScope (top 43),e__law_ground.N,ents.map (·.x),glN,blN⟩ 200 (defBody (top 43))=some b__law_ground:=by kernel_rfl
theorem s__law_ground:FnScope e__law_ground.N e__law_ground.ps (defScope (top 43)):=⟨rfl,rfl,rfl,by decide +kernel,rfl,by decide +kernel,by decide +kernel⟩
theorem t__law_ground:(tabOf ents).lookup e__law_ground.x=some ⟨e__law_ground.N.length,e__law_ground.ps.length,e__law_ground.b⟩:=by kernel_rfl
theorem c__law_key:cSs ⟨defScope (top 44),e__law_key.N,ents.map (·.x),glN,blN⟩ 200 (defBody (top 44))=some b__law_key:=by kernel_rfl
theorem s__law_key:FnScope e__law_key.N e__law_key.ps (defScope (top 44)):=⟨rfl,rfl,rfl,by decide +kernel,rfl,by decide +kernel,by decide +kernel⟩
theorem t__law_key:(tabOf ents).lookup e__law_key.x=some ⟨e__law_key.N.length,e__law_key.ps.length,e__law_key.b⟩:=by kernel_rfl
theorem c__law_due:cSs ⟨defScope (top 45),e__law_due.N,ents.map (·.x),glN,blN⟩ 200 (defBody (top 45))=some b__law_due:=by kernel_rfl
theorem s__law_due:FnScope e__law_due.N e__law_due.ps (defScope (top 45)):=⟨rfl,rfl,rfl,by decide +kernel,rfl,by decide +kernel,by decide +kernel⟩
theorem t__law_due:(tabOf ents).lookup e__law_due.x=some ⟨e__law_due.N.length,e__law_due.ps.length,e__law_due.b⟩:=by kernel_rfl
theorem c__law_kinds:cSs ⟨defScope (top 46),e__law_kinds.N,ents.map (·.x),glN,blN⟩ 200 (defBody (top 46))=some b__law_kinds:=by kernel_rfl
theorem s__law_kinds:FnScope e__law_kinds.N e__law_kinds.ps (defScope (top 46)):=⟨rfl,rfl,rfl,by decide +kernel,rfl,by decide +kernel,by decide +kernel⟩
theorem t__law_kinds:(tabOf ents).lookup e__law_kinds.x=some ⟨e__law_kinds.N.length,e__law_kinds.ps.length,e__law_kinds.b⟩:=by kernel_rfl
theorem c_law:cSs ⟨defScope (top 47),e_law.N,ents.map (·.x),glN,blN⟩ 200 (defBody (top 47))=some b_law:=by kernel_rfl
theorem s_law:FnScope e_law.N e_law.ps (defScope (top 47)):=⟨rfl,rfl,rfl,by decide +kernel,rfl,by decide +kernel,by decide +kernel⟩
theorem t_law:(tabOf ents).lookup e_law.x=some ⟨e_law.N.length,e_law.ps.length,e_law.b⟩:=by kernel_rfl
noncomputable def recs:List DefRec:=[recT ("has_name" : Str) (top 1),recT ("value_in" : Str) (top 2),recT ("meets" : Str) (top 4),recT ("meets_all" : Str) (top 5),recT ("stands" : Str) (top 7),recT ("in_force" : Str) (top 8),recT ("have_same_values" : Str) (top 9),recT ("is_greater" : Str) (top 10),recT ("ground" : Str) (top 11),recT ("row_at" : Str) (top 16),recT ("taken_from" : Str) (top 17),recT ("taken" : Str) (top 18),recT ("key_of" : Str) (top 19),recT ("groups_of" : Str) (top 20),recT ("members" : Str) (top 22),recT ("_law_mixed" : Str) (top 24),recT ("_law_pick" : Str) (top 25),recT ("_law_words" : Str) (top 26),recT ("_law_pool" : Str) (top 27),recT ("_law_asking" : Str) (top 28),recT ("_law_askings" : Str) (top 29),recT ("_law_nodes" : Str) (top 30),recT ("_law_row" : Str) (top 31),recT ("_law_tree" : Str) (top 32),recT ("_law_marks" : Str) (top 33),recT ("_law_met" : Str) (top 34),recT ("_law_lets" : Str) (top 35),recT ("_law_taken" : Str) (top 36),recT ("_law_number" : Str) (top 37),recT ("_law_mixed_up" : Str) (top 38),recT ("_law_sayings" : Str) (top 39),recT ("_law_quietings" : Str) (top 40),recT ("_law_rules" : Str) (top 41),recT ("_law_there" : Str) (top 42),recT ("_law_ground" : Str) (top 43),recT ("_law_key" : Str) (top 44),recT ("_law_due" : Str) (top 45),recT ("_law_kinds" : Str) (top 46),recT ("law" : Str) (top 47)]
theorem all_mk {P q:Program}{w:World}{lo:List Str}{mean:ExcName->Option Value}{mg mb:Str->Option Value}{h:Heap}{fa:Addr}(T:Top q lo mean mg mb h)(hfa:mg "law" = some (.ref fa))(r:recsOf q=recs)(z:freeB q lo blN=true)
  : ∃ fd:FuncData,(∀ (s:Shared) (v:Value),BindsTo s fd ⟨[v],[]⟩ [("_law_script",v)])/\∀ base:Heap,(heapK h).In base->base.Ns mainGlobals mg->FnOk P w (heapK h) mg base CX0 40 fa fd ["_law_script"] (spOf (heapK h) 1 ((cx sortD 40).fn "law")) :=
 have hd:∀ e∈ents,DefR (heapK h) mg ents glN blN e:=zg.mpr ⟨DefR.mkT T r 0 rfl (fun _ _ _ _ _ _=>on2 fun _ _=>rfl) s_has_name c_has_name t_has_name,
  zg.mpr ⟨DefR.mkT T r 1 rfl (fun _ _ _ _ _ _=>on2 fun _ _=>rfl) s_value_in c_value_in t_value_in,
  zg.mpr ⟨DefR.mkT T r 2 rfl (fun _ _ _ _ _ _=>on2 fun _ _=>rfl) s_meets c_meets t_meets,
  zg.mpr ⟨DefR.mkT T r 3 rfl (fun _ _ _ _ _ _=>on2 fun _ _=>rfl) s_meets_all c_meets_all t_meets_all,
  zg.mpr ⟨DefR.mkT T r 4 rfl (fun _ _ _ _ _ _=>on2 fun _ _=>rfl) s_stands c_stands t_stands,
  zg.mpr ⟨DefR.mkT T r 5 rfl (fun _ _ _ _ _ _=>on2 fun _ _=>rfl) s_in_force c_in_force t_in_force,
  zg.mpr ⟨DefR.mkT T r 6 rfl (fun _ _ _ _ _ _=>on3 fun _ _ _=>rfl) s_have_same_values c_have_same_values t_have_same_values,
  zg.mpr ⟨DefR.mkT T r 7 rfl (fun _ _ _ _ _ _=>on3 fun _ _ _=>rfl) s_is_greater c_is_greater t_is_greater,
  zg.mpr ⟨DefR.mkT T r 8 rfl (fun _ _ _ _ _ _=>on5 fun _ _ _ _ _=>rfl) s_ground c_ground t_ground,
  zg.mpr ⟨DefR.mkT T r 9 rfl (fun _ _ _ _ _ _=>on2 fun _ _=>rfl) s_row_at c_row_at t_row_at,
  zg.mpr ⟨DefR.mkT T r 10 rfl (fun _ _ _ _ _ _=>on3 fun _ _ _=>rfl) s_taken_from c_taken_from t_taken_from,
  zg.mpr ⟨DefR.mkT T r 11 rfl (fun _ _ _ _ _ _=>on2 fun _ _=>rfl) s_taken c_taken t_taken,
  zg.mpr ⟨DefR.mkT T r 12 rfl (fun _ _ _ _ _ _=>on2 fun _ _=>rfl) s_key_of c_key_of t_key_of,
  zg.mpr ⟨DefR.mkT T r 13 rfl (fun _ _ _ _ _ _=>on2 fun _ _=>rfl) s_groups_of c_groups_of t_groups_of,
  zg.mpr ⟨DefR.mkT T r 14 rfl (fun _ _ _ _ _ _=>on5 fun _ _ _ _ _=>rfl) s_members c_members t_members,
  zg.mpr ⟨DefR.mkT T r 15 rfl (fun _ _ _ _ _ _=>on2 fun _ _=>rfl) s__law_mixed c__law_mixed t__law_mixed,
  zg.mpr ⟨DefR.mkT T r 16 rfl (fun _ _ _ _ _ _=>on3 fun _ _ _=>rfl) s__law_pick c__law_pick t__law_pick,
  zg.mpr ⟨DefR.mkT T r 17 rfl (fun _ _ _ _ _ _=>on4 fun _ _ _ _=>rfl) s__law_words c__law_words t__law_words,
  zg.mpr ⟨DefR.mkT T r 18 rfl (fun _ _ _ _ _ _=>on2 fun _ _=>rfl) s__law_pool c__law_pool t__law_pool,
  zg.mpr ⟨DefR.mkT T r 19 rfl (fun _ _ _ _ _ _=>on3 fun _ _ _=>rfl) s__law_asking c__law_asking t__law_asking,
  zg.mpr ⟨DefR.mkT T r 20 rfl (fun _ _ _ _ _ _=>on4 fun _ _ _ _=>rfl) s__law_askings c__law_askings t__law_askings,
  zg.mpr ⟨DefR.mkT T r 21 rfl (fun _ _ _ _ _ _=>on4 fun _ _ _ _=>rfl) s__law_nodes c__law_nodes t__law_nodes,
  zg.mpr ⟨DefR.mkT T r 22 rfl (fun _ _ _ _ _ _=>on2 fun _ _=>rfl) s__law_row c__law_row t__law_row,
  zg.mpr ⟨DefR.mkT T r 23 rfl (fun _ _ _ _ _ _=>on4 fun _ _ _ _=>rfl) s__law_tree c__law_tree t__law_tree,
  zg.mpr ⟨DefR.mkT T r 24 rfl (fun _ _ _ _ _ _=>on3 fun _ _ _=>rfl) s__law_marks c__law_marks t__law_marks,
  zg.mpr ⟨DefR.mkT T r 25 rfl (fun _ _ _ _ _ _=>on2 fun _ _=>rfl) s__law_met c__law_met t__law_met,
  zg.mpr ⟨DefR.mkT T r 26 rfl (fun _ _ _ _ _ _=>on2 fun _ _=>rfl) s__law_lets c__law_lets t__law_lets,
  zg.mpr ⟨DefR.mkT T r 27 rfl (fun _ _ _ _ _ _=>on3 fun _ _ _=>rfl) s__law_taken c__law_taken t__law_taken,
  zg.mpr ⟨DefR.mkT T r 28 rfl (fun _ _ _ _ _ _=>on3 fun _ _ _=>rfl) s__law_number c__law_number t__law_number,
  zg.mpr ⟨DefR.mkT T r 29 rfl (fun _ _ _ _ _ _=>on3 fun _ _ _=>rfl) s__law_mixed_up c__law_mixed_up t__law_mixed_up,
  zg.mpr ⟨DefR.mkT T r 30 rfl (fun _ _ _ _ _ _=>on5 fun _ _ _ _ _=>rfl) s__law_sayings c__law_sayings t__law_sayings,
  zg.mpr ⟨DefR.mkT T r 31 rfl (fun _ _ _ _ _ _=>on5 fun _ _ _ _ _=>rfl) s__law_quietings c__law_quietings t__law_quietings,
  zg.mpr ⟨DefR.mkT T r 32 rfl (fun _ _ _ _ _ _=>on4 fun _ _ _ _=>rfl) s__law_rules c__law_rules t__law_rules,
  zg.mpr ⟨DefR.mkT T r 33 rfl (fun _ _ _ _ _ _=>on2 fun _ _=>rfl) s__law_there c__law_there t__law_there,
  zg.mpr ⟨DefR.mkT T r 34 rfl (fun _ _ _ _ _ _=>on5 fun _ _ _ _ _=>rfl) s__law_ground c__law_ground t__law_ground,
  zg.mpr ⟨DefR.mkT T r 35 rfl (fun _ _ _ _ _ _=>on3 fun _ _ _=>rfl) s__law_key c__law_key t__law_key,
  zg.mpr ⟨DefR.mkT T r 36 rfl (fun _ _ _ _ _ _=>on5 fun _ _ _ _ _=>rfl) s__law_due c__law_due t__law_due,
  zg.mpr ⟨DefR.mkT T r 37 rfl (fun _ _ _ _ _ _=>on1 fun _=>rfl) s__law_kinds c__law_kinds t__law_kinds,
  zg.mpr ⟨DefR.mkT T r 38 rfl (fun _ _ _ _ _ _=>on1 fun _=>rfl) s_law c_law t_law,
  fun _ h9=>nomatch h9⟩⟩⟩⟩⟩⟩⟩⟩⟩⟩⟩⟩⟩⟩⟩⟩⟩⟩⟩⟩⟩⟩⟩⟩⟩⟩⟩⟩⟩⟩⟩⟩⟩⟩⟩⟩⟩⟩⟩
 have hg:∀ x∈glN,GlR (heapK h) mg gl x:=fun _ h9=>nomatch h9
 law_mkT (fun k=>srt_ok (by cases k <;> rfl)) hd hg (free_of T z) 40 (e:=e_law) (by simp[ents]) rfl (fun _ _ _ _ _ _ _=>rfl) hfa
end Law
open PySem PySem.W PyProof.Rows
def Law.pw2:Program:={ PySem.Challenge.pw_belfry_k39_whole_members with main:={ PySem.Challenge.pw_belfry_k39_whole_members.main with body:=[Law.top 0,Law.top 1,Law.top 2,Law.top 3,Law.top 4,Law.top 5,Law.top 6,Law.top 7,Law.top 8,Law.top 9,Law.top 10,Law.top 11,Law.top 12,Law.top 13,Law.top 14,Law.top 15,Law.top 16,Law.top 17,Law.top 18,Law.top 19,Law.top 20,Law.top 21,Law.top 22,Law.top 23,Law.top 24,Law.top 25,Law.top 26,Law.top 27,Law.top 28,Law.top 29,Law.top 30,Law.top 31,Law.top 32,Law.top 33,Law.top 34,Law.top 35,Law.top 36,Law.top 37,Law.top 38,Law.top 39,Law.top 40,Law.top 41,Law.top 42,Law.top 43,Law.top 44,Law.top 45,Law.top 46,Law.top 47] } }
def Law.rw2:OpenLaw:={ PySem.Challenge.rw_belfry_k39_whole_members with prog:=Law.pw2 }
theorem Law.rw_eq:Law.rw2=PySem.Challenge.rw_belfry_k39_whole_members:=by kernel_rfl
noncomputable def Law.vw:Program:={ Law.pw2 with main:={ Law.pw2.main with body:=[Law.top 1,Law.top 2,Law.top 4,Law.top 5,Law.top 7,Law.top 8,Law.top 9,Law.top 10,Law.top 11,Law.top 13,Law.top 14,Law.top 16,Law.top 17,Law.top 18,Law.top 19,Law.top 20,Law.top 22,Law.top 24,Law.top 25,Law.top 26,Law.top 27,Law.top 28,Law.top 29,Law.top 30,Law.top 31,Law.top 32,Law.top 33,Law.top 34,Law.top 35,Law.top 36,Law.top 37,Law.top 38,Law.top 39,Law.top 40,Law.top 41,Law.top 42,Law.top 43,Law.top 44,Law.top 45,Law.top 46,Law.top 47] } }
set_option maxRecDepth 100000 in
set_option maxHeartbeats 0 in
theorem Law.left:LeftO Law.rw2.row.prog Law.vw [] (fun s=>xlAt Law.vw [] s&&recOk (RowW.records (OpenRow.toRowW Law.rw2.row)) s) (Hook.obs PySem.W.Hook.none) (Hook.val PySem.W.Hook.none) 20000:=fun w=>by kernel_rfl
set_option maxRecDepth 100000 in
set_option maxHeartbeats 0 in
theorem Law.said:Law.rw2.wellSaid=true:=by kernel_rfl
set_option maxRecDepth 100000 in
set_option maxHeartbeats 0 in
theorem Law.holds2:Law.rw2.Holds:=by
 refine holds_law Law.said fun said=>?_;refine holds_open (q:=Law.vw) (loose:=[]) (Xt:=fun s=>xlAt Law.vw [] s&&recOk (RowW.records (OpenRow.toRowW Law.rw2.row)) s) (XP:=XL Law.vw []) (Yf:=Hook.obs PySem.W.Hook.none) (Ya:=Hook.val PySem.W.Hook.none) (YP:=Hook.says PySem.W.Hook.none) (N:=20000) Law.left (Hook.of PySem.W.Hook.none) (Hook.keeps PySem.W.Hook.none)
  (fun s e=>xl_of s (wH.mp e).1) XL.keeps (by rfl) (by rfl) (by rfl) (fun s e=>recFacts_of (wH.mp e).2) (by rfl) said (by decide +kernel) ⟨rfl,rfl,rfl,rfl,rfl,by decide +kernel⟩ ?hw ?hc
 case hw=>w_witness2
 refine L3.walkT (l:=Law.rw2) (x:="_law_script") (k:=40) (g:=(Law.cx L3.sortD 40).fn "law") ⟨rfl,by decide,by decide,rfl⟩ rfl rfl Law.law_d ?F
 case F =>
  intro w mean mg mb fa h T hmg;exact Law.all_mk T hmg (by kernel_rfl) (by kernel_rfl)
theorem PySem.Challenge.cw_belfry_k39_whole_members_holds : PySem.Challenge.rw_belfry_k39_whole_members.Holds := by
 exact Law.rw_eq ▸ Law.holds2

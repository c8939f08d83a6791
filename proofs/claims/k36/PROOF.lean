import PyProof.Rows.All
import Wide.All
import OpenK.AllK
import Wide.FinOn
import Lean
import PyProof.EqAt
import PyProof.EqKinds
import PyProof.TupleCall
import PySem.Challenge.RW_belfry_k36_hours
open PySem renaming wpAny_bind->zz,wpAny_pure->zu,sizeLine->zn
open List renaming length_map->zw,getElem?_eq_getElem->zt,getElem?_eq_some_iff->zr,length_append->zq,size_toArray->zm,getElem?_map->zh,getElem?_append_right->ze,map_append->zd,mem_append_right->zb,length_take->za,append_assoc->zA,getD_eq_getElem?_getD->zC,forall_mem_cons->zD,length_cons->zE,getElem?_append_left->zF,mem_append->zG,map_cons->zH,length_range->zI,mem_singleton->zJ,length_drop->zM,take_append_drop->zN,mem_cons->zO,mem_cons_of_mem->zP,mem_of_getElem?->zQ,take_length->zR,mem_cons_self->zU,extract_eq_drop_take->zW,pairwise_iff_getElem->yz,getElem_mem->yx,mem_append_left->yw,getElem?_set_ne->yv,take_of_length_le->yu,perm_append_comm->yt,getElem?_cons_succ->yr,all_cons->yq,drop_eq_getElem_cons->yp,length_replicate->ym,mem_map->yj,take_add_one->yi,getElem?_set_self->yh,all_eq_true->yf,drop_drop->yb,append_nil->ya,findIdx?_eq_some_iff_getElem->yA,length_set->yD,mem_range->yG,replicate->yH,pairwise_append->yJ,getElem_drop->yK,find?_cons->yL,filterMap_cons->yM,map_map->yO,drop_zero->yR,filter_append->yS,mem_iff_getElem->yU,getElem_take->yV,lookup_cons->yY,not_mem_nil->yZ,getElem_map->xz,pairwise_cons->xv,length_nil->xt,any_cons->xq,flatMap_cons->xo,mem_of_mem_take->xn,mem_of_mem_drop->xm,map_nil->xk,drop_length->xj,take_add->xh,mem_filter->xg,getElem?_drop->xb,findIdx?_cons->xa,getElem?_replicate->xB,pairwise_singleton->xC,take_sublist->xD,drop_of_length_le->xG,eraseIdx_eq_take_drop_succ->xH,length_singleton->xI,getElem?_eq_none->xJ,singleton_append->xK,length_filter_le->xL,mem_flatMap->xO,map_take->xP,eq_nil_of_length_eq_zero->xS,drop_append_of_le_length->xT,nodup_cons->xU,length_zip->xW,range_succ->xX,map_congr_left->xZ,filterMap_map->wz,mapM_cons->wy,getElem_range->wx,length_eraseIdx_of_lt->ww,take_take->wt,drop_take->wq,ext_getElem?->wm,nodup_append->wk,map_drop->we,getElem_inj->wb,any_eq_true->wA,filter_cons->wC,zipIdx_cons->wD,take_append->wE,range_succ_eq_map->wG,length_eq_one_iff->wH,of_mem_zip->wJ,forIn_cons->wK,filter_nil->wL,mem_iff_getElem?->wM,range'->wS,nodup_nil->wU,getLast?_concat->wV,getElem_of_mem->wY,flatMap_append->wZ,mem_filterMap->vv,getElem?_take->vo,find?_eq_none->vm,all_map->vj,drop_sublist->ve,range'_succ->vB,isEmpty_iff->vD,isEmpty_map->vG,foldl_cons->vI,zipIdx_nil->vL,forIn_nil->vQ,all_nil->vX,map_id->uy
open PySem.Heap renaming get?_push_of_some->zv,get?_push_size->zj,lt_size->zi,get?_update_self->yd,get?_update_other->yB,size_push->yI,get?_none_of_le->xQ,get?_push_ne->wl,size_update->vE
open Nat renaming le_refl->zp,lt_of_lt_of_le->zf,ne_of_lt->zB,le_trans->zS,zero_le->zV,lt_irrefl->yc,mod_eq_of_lt->yE,le_of_eq->yF,ne_of_gt->yN,zero_add->yP,lt_succ_self->yQ,sub_self->yT,lt_or_eq_of_le->xu,add_assoc->xi,mod_eq_sub_mod->xA,lt_succ_of_lt->xE,succ_le_succ->xN,le_succ_of_le->wn,le_of_lt->wF,le_succ->wR,add_sub_cancel->vt,eq_zero_or_pos->vq,add_comm->vk,sub_zero->vg,lt_trichotomy->vf,le_of_not_lt->vA,le_add_right->vC,min_eq_right->vF,not_lt_zero->vK,min_eq_left->vN,mod_lt->vP,reduceAdd->vS,lt_trans->vW,add_zero->vY,not_lt->uw
open Bool renaming false_ne_true->zo,and_eq_true->zk,false_eq_true->yo,or_eq_true->xr,eq_iff_iff->xc,or_false->wg,beq_comm->wc,and_false->wQ,not_false->wT,and_eq_true_iff->wW,true_eq_false->vn,false_and->vO,and_true->vT,not_true->vU
open Option renaming map_eq_some_iff->zg,map_some->xf,isSome_map->wo,getD_some->wa,bind_eq_some_iff->wB,bind_eq_bind->wX,getD_none->vc,pure_def->vJ,map_none->vM
open Array renaming toList_append->zc,length_toList->zK,toList_extract->zL,getElem?_eq_getElem->zZ,getElem?_toList->yk,getElem?_eq_some_iff->yC,toList_reverse->yX,toList_push->xp,perm_iff_toList_perm->xl,getElem?_eq_none->xF,toList_inj->xM,getElem_toList->xR,toList_setIfInBounds->wu,getD->wI,size_extract->vp,toList->vV
open Int renaming eq_ofNat_of_zero_le->zT,emod_lt_of_pos->zX,le_trans->zY,emod_nonneg->yn,toNat_natCast->ye,le_of_lt->yW,le_refl->xy,mul_le_mul_of_nonneg_left->xw,ediv_nonneg->xV,toNat_of_nonneg->xY,lt_of_le_of_lt->wv,emod_eq_of_lt->wj,le_ediv_of_mul_le->wN,emod_add_mul_ediv->wO,mul_ediv_add_emod->wP,mul_one->vH,mul_nonneg->vR,sub_emod->vZ,mul_comm->uz,mul_add->ux
set_option Elab.async false
set_option linter.all false
set_option maxRecDepth 100000
namespace L2
open PySem PySem.Spec PyProof.Rows
abbrev Key:=Sum Int Str
def keyIs:Key->Value->Bool
 | .inl k,v=>Value.isInt k v
 | .inr x,v=>Value.isStrOf x v
def keyH (w:World):Key->Int
 | .inl k=>hashInt k
 | .inr x=>hashStr w x
theorem keyIs_shape:∀ {k:Key} {v:Value},keyIs k v=true->(∃ i t,k=Sum.inl i/\v=Value.int i t)\/(∃ x t,k=Sum.inr x/\v=Value.str x t)
 | .inl i,v,h=>by
  obtain⟨t,e⟩:=Value.isInt_shape (k:=i) (v:=v) h;exact .inl ⟨i,t,rfl,e⟩
 | .inr x,v,h=>by
  obtain⟨t,e⟩:=Value.isStrOf_shape (x:=x) (v:=v) h;exact .inr ⟨x,t,rfl,e⟩
theorem keyIs_int (i:Int)(t:Tok):keyIs (.inl i) (.int i t)=true:=by simp[keyIs,Value.isInt]
theorem keyIs_str (x:Str)(t:Tok):keyIs (.inr x) (.str x t)=true:=by simp[keyIs,Value.isStrOf]
theorem key_ll (a b:Int):decide ((Sum.inl a:Key)=Sum.inl b)=(a==b):=by
 by_cases e:a=b
 ·subst e;simp
 ·have h:¬ (Sum.inl a:Key)=Sum.inl b:=fun q=>e (Sum.inl.inj q)
  rw[decide_eq_false h];exact(beq_eq_false_iff_ne.mpr e).symm
theorem key_rr (a b:Str):decide ((Sum.inr a:Key)=Sum.inr b)=decide (a=b):=by
 by_cases e:a=b
 ·subst e;simp
 ·have h:¬ (Sum.inr a:Key)=Sum.inr b:=fun q=>e (Sum.inr.inj q)
  rw[decide_eq_false h,decide_eq_false e]
theorem key_lr (a:Int)(b:Str):decide ((Sum.inl a:Key)=Sum.inr b)=false:=decide_eq_false (fun q=>nomatch q)
theorem key_rl (a:Str)(b:Int):decide ((Sum.inr a:Key)=Sum.inl b)=false:=decide_eq_false (fun q=>nomatch q)
def mixKind (prog:Program)(w:World):PySem.KeyKind prog w Key where
 is:=keyIs
 hash:=keyH w
 inj:=fun v a b ha hb=>by
  rcases keyIs_shape ha with ⟨i,t,rfl,rfl⟩|⟨x,t,rfl,rfl⟩
  ·rcases keyIs_shape hb with ⟨j,u,rfl,e⟩|⟨y,u,rfl,e⟩
   ·injection e with e1 _;rw[e1]
   ·exact nomatch e
  ·rcases keyIs_shape hb with ⟨j,u,rfl,e⟩|⟨y,u,rfl,e⟩
   ·exact nomatch e
   ·injection e with e1 _;rw[e1]
 byValue:=fun k v h=>by
  rcases keyIs_shape h with ⟨i,t,rfl,rfl⟩|⟨x,t,rfl,rfl⟩ <;> rfl
 pyHash:=fun hv h=>by
  rcases keyIs_shape hv with ⟨i,t,rfl,rfl⟩|⟨x,t,rfl,rfl⟩
  ·exact wpAny_pyHash_int h
  ·exact wpAny_pyHash_str h
 eqBool:=fun hu hv h=>by
  rcases keyIs_shape hu with ⟨i,t,rfl,rfl⟩|⟨x,t,rfl,rfl⟩
  ·rcases keyIs_shape hv with ⟨j,u,rfl,rfl⟩|⟨y,u,rfl,rfl⟩
   ·rw[key_ll]at h;exact wpAny_eqBool_int h
   ·rw[key_lr]at h;exact SeqAt.EqAt.int_str i t y u _ _ _ _ h
  ·rcases keyIs_shape hv with ⟨j,u,rfl,rfl⟩|⟨y,u,rfl,rfl⟩
   ·rw[key_rl]at h;exact SeqAt.EqAt.str_int x t j u _ _ _ _ h
   ·rw[key_rr]at h;exact wpAny_eqBool_str h
 «strs»:=fun k x t v h=>by
  rcases keyIs_shape h with ⟨i,u,rfl,e⟩|⟨y,u,rfl,e⟩
  ·exact nomatch e
  ·injection e with e1 _
   subst e1;cases v <;> rfl
theorem mixKind_int (prog:Program)(w:World)(i:Int)(t:Tok):(mixKind prog w).is (.inl i) (.int i t)=true:=keyIs_int i t
theorem mixKind_str (prog:Program)(w:World)(x:Str)(t:Tok):(mixKind prog w).is (.inr x) (.str x t)=true:=keyIs_str x t
end L2
namespace L2
open PySem PySem.Spec PyProof.Rows
inductive V where
 | non | bl (b:Bool) | int (i:Int) | str (x:Str) | byt (b:Array UInt8) | flt (b:UInt64) | ref (a:Addr) | ty (n:String)
 deriving DecidableEq
def RelV:V->Value->Prop
 | .non,u=>u=Value.none
 | .bl b,u=>u=Value.bool b
 | .int i,u=>∃ t,u=Value.int i t
 | .str x,u=>∃ t,u=Value.str x t
 | .byt b,u=>∃ t,u=Value.bytes b t
 | .flt b,u=>∃ t,u=Value.float b t
 | .ref a,u=>u=Value.ref a
 | .ty n,u=>u=Value.type n
abbrev Vals:List V->List Value->Prop:=Paired RelV
theorem Vals.length {xs:List V}{us:List Value}(r:Vals xs us):xs.length=us.length:=Paired.length r
theorem Vals.get:∀ {xs:List V} {us:List Value} {i:Nat} {x:V},Vals xs us->xs[i]?=some x->∃ u,us[i]?=some u/\RelV x u
 | _,_,_,_,.nil,e=>by simp at e
 | _,_,0,_,.cons r _,e=>by simp at e;subst e;exact⟨_,rfl,r⟩
 | _,_,i + 1,x,.cons _ t,e=>by
  obtain⟨u,h1,h2⟩:=Vals.get (i:=i) (x:=x) t (by simpa using e);exact⟨u,by simpa using h1,h2⟩
theorem Vals.set {x:V}{u:Value}(r:RelV x u):∀ {xs:List V} {us:List Value} (i:Nat),Vals xs us->Vals (xs.set i x) (us.set i u)
 | _,_,_,.nil=>.nil
 | _,_,0,.cons _ t=>.cons r t
 | _,_,i + 1,.cons q t=>.cons q (Vals.set r i t)
theorem Vals.append:∀ {xs ys:List V} {us ws:List Value},Vals xs us->Vals ys ws->Vals (xs++ys) (us++ws)
 | _,_,_,_,.nil,s=>s
 | _,_,_,_,.cons r t,s=>.cons r (Vals.append t s)
theorem Vals.take:∀ {xs:List V} {us:List Value} (n:Nat),Vals xs us->Vals (xs.take n) (us.take n)
 | _,_,0,_=>.nil
 | _,_,_ + 1,.nil=>.nil
 | _,_,n + 1,.cons r t=>.cons r (Vals.take n t)
theorem Vals.drop:∀ {xs:List V} {us:List Value} (n:Nat),Vals xs us->Vals (xs.drop n) (us.drop n)
 | _,_,0,r=>r
 | _,_,_ + 1,.nil=>.nil
 | _,_,n + 1,.cons _ t=>Vals.drop n t
def RelO:Option V->Option Value->Prop
 | some v,some u=>RelV v u
 | none,none=>True
 | _,_=>False
def KV {κ:Type}:List (κ×V)->List (κ×Value)->Prop:=Paired fun (p:κ×V) (q:κ×Value)=>p.1=q.1/\RelV p.2 q.2
def kV:Key->V
 | .inl i=>.int i
 | .inr x=>.str x
inductive HO where
 | lst (xs:List V)
 | tup (xs:List V)
 | dK (kvs:List (Key×V)) | dT (kvs:List (List Key×V))
 | set (S:Int->Bool) (n:Nat)
 | ins (C dx:Addr) (fs:List (Str×V))
 | own (x:Addr)
 | xd (fs:List (Str×V))
 | met (f x:Addr)
 | rng (lo hi:Int)
 | frz (o:Obj) (u:HO)
 | tbl (ps:Array Value)
 | ext (φ:Heap->Prop)
abbrev Hp:=Addr->Option HO
def upd (H:Hp)(a:Addr)(o:HO):Hp:=fun b=>if b=a then some o else H b
theorem upd_same {H:Hp}{a:Addr}{o:HO}:upd H a o a=some o:=by unfold upd;rw[if_pos rfl]
theorem upd_ne {H:Hp}{a b:Addr}{o:HO}(h:b≠a):upd H a o b=H b:=by unfold upd;rw[if_neg h]
theorem upd_upd {H:Hp}{a:Addr}{o u:HO}:upd (upd H a o) a u=upd H a u:=by
 funext b;unfold upd;split <;> rfl
theorem ne_of {H:Hp}{a b:Addr}{o u:HO}(h:H a=some o)(h':H b=some u)(d:o≠u):a≠b:=by
 intro e;subst e;rw[h]at h';exact d (Option.some.inj h')
theorem ne_of_none {H:Hp}{a b:Addr}{o:HO}(h:H a=some o)(h':H b=none):a≠b:=by
 intro e;subst e;rw[h]at h';cases h'
def TupN (h:Heap)(a:Addr)(items:Array Value):Prop:=IsTup h a items/\∀ o,h.get? a=some o->o.dict=none/\o.slots = #[]
theorem TupN.new (h:Heap)(items:Array Value):TupN (h.push { cls:=.type "tuple",data:=.seq items }) h.objs.size items:=⟨IsTup.new _ _,fun o e=>by
 rw[zj _ rfl]at e;cases e;exact⟨rfl,rfl⟩⟩
section
variable (P:Program)(w:World)
def ObjOk (H:Hp)(h:Heap)(a:Addr):HO->Prop
 | .lst xs=>xs.length<=zn/\∃ (its:List Value) (n:Nat),Vals xs its/\h.get? a=some { cls:=.type "list",data:=.seq its.toArray n }
 | .tup xs=>xs.length<=zn/\∃ its:List Value,Vals xs its/\TupN h a its.toArray
 | .dK kvs=>kvs.length<=zn/\(a==sysModules)=false/\∃ vs,KV kvs vs/\h.DictOf (mixKind P w) a vs
 | .dT kvs=>kvs.length<=zn/\(a==sysModules)=false/\∃ xs:List (List Key×Addr×Value),
   Paired (fun (p:List Key×V) (q:List Key×Addr×Value)=>p.1=q.1/\H q.2.1=some (.tup (p.1.map kV))/\RelV p.2 q.2.2) kvs xs /\
   ∃ o es ep,h.get? a=some o/\o.ExactDict/\o.data=.dict es ep/\es.toList=xs.map (entryOfKey (tupleKind (mixKind P w)))/\(xs.map (·.1)).Nodup
 | .set S n=>h.SetOf (intKind P w) a S n
 | .ins C dx fs=>H dx=some (.own a)/\fs.length<=1000/\dx≠a/\h.get? a=some (PySem.W.instObj C dx) /\
   ∃ mA,h.Ns1 dx mA/\(∀ f,RelO (fs.lookup f) (mA f))/\PySem.Within mA (fs.map (·.1))
 | .own _=>∃ o,h.get? a=some o
 | .xd fs=>∃ mA,h.Ns1 a mA/\∀ f,RelO (fs.lookup f) (mA f)
 | .rng lo hi=>∃ t u v,h.get? a=some { cls:=.type "range",data:=.fields #[.int lo t,.int hi u,.int 1 v] }
 | .frz o u=>h.get? a=some o/\ObjOk H h a u
 | .tbl ps=>h.get? a=some { cls:=.none,data:=.fields ps }
 | .met f x=>h.get? a=some (PySem.W.methodObj (.ref f) (.ref x))
 | .ext φ=>φ h/\(∃ o,h.get? a=some o)/\∀ h1 h2:Heap,φ h1->(∀ o,h1.get? a=some o->h2.get? a=some o)->φ h2
def HOk (H:Hp)(h:Heap):Prop:=∀ a o,H a=some o->ObjOk P w H h a o
end
section
variable {P:Program}{w:World}{H H':Hp}{h h':Heap}{a:Addr}{o:HO}
theorem ObjOk.lt (x:ObjOk P w H h a o):a < h.objs.size:=by
 cases o with
 | lst xs=>obtain⟨_,_,_,_,e⟩:=x;exact zi e
 | tup xs=>obtain⟨_,_,_,p,_⟩:=x;exact p.lt
 | dK kvs=>obtain⟨_,_,_,_,o,_,_,e,_⟩:=x;exact zi e
 | dT kvs=>obtain⟨_,_,_,_,o,_,_,e,_⟩:=x;exact zi e
 | set S n=>obtain⟨o,_,_,_,e,_⟩:=x;exact zi e
 | ins C dx fs=>obtain⟨_,_,_,e,_⟩:=x;exact zi e
 | own y=>obtain⟨_,e⟩:=x;exact zi e
 | xd fs=>obtain⟨_,⟨_,_,_,e,_⟩,_⟩:=x;exact zi e
 | rng lo hi=>obtain⟨_,_,_,e⟩:=x;exact zi e
 | frz ob u=>obtain⟨e,_⟩:=x;exact zi e
 | tbl ps=>exact zi (show h.get? a=some _ from x)
 | met f y=>exact zi (show h.get? a=some _ from x)
 | ext φ=>obtain⟨_,⟨_,e⟩,_⟩:=x;exact zi e
theorem Paired.mapP {α β:Type}{F G:α->β->Prop}:∀ {l₁:List α} {l₂:List β},Paired F l₁ l₂->(∀ a b,F a b->G a b)->Paired G l₁ l₂
 | _,_,.nil,_=>.nil
 | _,_,.cons r t,f=>.cons (f _ _ r) (Paired.mapP t f)
theorem ObjOk.stay (x:ObjOk P w H h a o)(k:∀ b u,(b=a\/H b=some (.own a))->h.get? b=some u->h'.get? b=some u)
  (ho:∀ b,H b=some (.own a)->H' b=some (.own a)) (ht:∀ b xs,H b=some (.tup xs)->H' b=some (.tup xs)):ObjOk P w H' h' a o:=by
 induction o with
 | lst xs=>obtain⟨z,its,n,r,e⟩:=x;exact⟨z,its,n,r,k _ _ (.inl rfl) e⟩
 | tup xs =>
  obtain⟨z,its,r,⟨ob,e,c⟩,d⟩:=x;have e':=k _ _ (.inl rfl) e;exact⟨z,its,r,⟨ob,e',c⟩,fun o q=>by rw[e']at q;cases q;exact d _ e⟩
 | dK kvs=>obtain⟨z,y,vs,r,ob,es,ep,e,c⟩:=x;exact⟨z,y,vs,r,ob,es,ep,k _ _ (.inl rfl) e,c⟩
 | dT kvs =>
  obtain⟨z,y,xs,r,ob,es,ep,e,c⟩:=x;exact⟨z,y,xs,Paired.mapP r fun p q z=>⟨z.1,ht _ _ z.2.1,z.2.2⟩,ob,es,ep,k _ _ (.inl rfl) e,c⟩
 | set S n=>obtain⟨ob,es,ep,t,e,c⟩:=x;exact⟨ob,es,ep,t,k _ _ (.inl rfl) e,c⟩
 | ins C dx fs =>
  obtain⟨d,z,ne,e,mA,⟨od,es,ep,e2,c⟩,r⟩:=x;exact⟨ho _ d,z,ne,k _ _ (.inl rfl) e,mA,⟨od,es,ep,k _ _ (.inr d) e2,c⟩,r⟩
 | own y=>obtain⟨ob,e⟩:=x;exact⟨ob,k _ _ (.inl rfl) e⟩
 | xd fs=>obtain⟨mA,⟨od,es,ep,e,c⟩,r⟩:=x;exact⟨mA,⟨od,es,ep,k _ _ (.inl rfl) e,c⟩,r⟩
 | rng lo hi=>obtain⟨t,u,v,e⟩:=x;exact⟨t,u,v,k _ _ (.inl rfl) e⟩
 | frz ob u ih=>obtain⟨e,q⟩:=x;exact⟨k _ _ (.inl rfl) e,ih q⟩
 | tbl ps =>
  have e:h.get? a=some { cls:=.none,data:=.fields ps }:=x;show h'.get? a=some { cls:=.none,data:=.fields ps };exact k a _ (.inl rfl) e
 | met f y =>
  have e:h.get? a=some (PySem.W.methodObj (.ref f) (.ref y)):=x;show h'.get? a=some (PySem.W.methodObj (.ref f) (.ref y));exact k a _ (.inl rfl) e
 | ext φ=>obtain⟨p,⟨o,e⟩,st⟩:=x;exact⟨st _ _ p fun o q=>k _ _ (.inl rfl) q,⟨o,k _ _ (.inl rfl) e⟩,st⟩
theorem HOk.lt (x:HOk P w H h)(e:H a=some o):a < h.objs.size:=(x a o e).lt
theorem HOk.fresh (x:HOk P w H h)(e:h.objs.size<=a):H a=none:=by
 cases q:H a with
 | none=>rfl
 | some u=>exact absurd (zf (x.lt q) e) (yc _)
theorem HOk.kept (x:HOk P w H h)(k:∀ b u,h.get? b=some u->h'.get? b=some u):HOk P w H h':=fun a o e =>
 (x a o e).stay (fun b u _ q=>k b u q) (fun _ q=>q) fun _ _ q=>q
theorem HOk.laid (x:HOk P w H h)(k:∀ b u,h.get? b=some u->h'.get? b=some u)(hp:h.objs.size<=a)(new:ObjOk P w (upd H a o) h' a o):HOk P w (upd H a o) h':=fun b u e=>by
 have hn:=x.fresh hp;by_cases hb:b=a
 ·subst hb;rw[upd_same]at e;cases e;exact new
 ·rw[upd_ne hb]at e
  exact(x b u e).stay (fun c v _ q=>k c v q) (fun c q=>by rw[upd_ne (ne_of_none q hn)];exact q) fun c xs q=>by rw[upd_ne (ne_of_none q hn)];exact q
end
def Rd (H:Hp)(a:Addr)(u:HO):Prop:=H a=some u\/∃ o,H a=some (.frz o u)
theorem Rd.ok {P:Program}{w:World}{H:Hp}{h:Heap}{a:Addr}{u:HO}(r:Rd H a u)(x:HOk P w H h):ObjOk P w H h a u:=by
 rcases r with r | ⟨o,r⟩
 ·exact x a u r
 ·obtain⟨_,q⟩:=x a _ r
  exact q
def Mut:Option HO->Prop
 | some (.lst _)=>True
 | some (.dK _)=>True
 | some (.dT _)=>True
 | some (.set _ _)=>True
 | some (.ins _ _ _)=>True
 | some (.ext _)=>True
 | _=>False
section
variable {P:Program}{w:World}{H:Hp}{h h':Heap}{x e:Addr}{o':HO}
theorem HOk.write (ok:HOk P w H h)(mu:Mut (H x))(he:e=x\/H e=some (.own x))(k:∀ b u,b≠e->h.get? b=some u->h'.get? b=some u)(heo:∃ u,h'.get? e=some u)
  (new:ObjOk P w (upd H x o') h' x o'):HOk P w (upd H x o') h':=fun b u q=>by
 have nown:∀ c y,H c=some (.own y)->c≠x:=fun c y r z=>by subst z;rw[r]at mu;exact mu
 have ntup:∀ c xs,H c=some (.tup xs)->c≠x:=fun c xs r z=>by subst z;rw[r]at mu;exact mu
 by_cases hb:b=x
 ·subst hb;rw[upd_same]at q;cases q;exact new
 ·rw[upd_ne hb]at q
  by_cases hbe:b=e
  ·have q':H b=some (.own x):=by
    rcases he with z | z
    ·exact absurd (hbe.trans z) hb
    ·rw[hbe];exact z
   rw[q]at q';cases q';obtain⟨v,hv⟩:=heo;exact⟨v,by rw[hbe];exact hv⟩
  ·refine(ok b u q).stay (fun c v hc r=>k c v ?_ r) (fun c r=>by rw[upd_ne (nown c b r)];exact r) fun c xs r=>by rw[upd_ne (ntup c xs r)];exact r
   rcases hc with rfl | hc
   ·exact hbe
   ·rintro rfl
    rcases he with z | z
    ·exact nown c b hc z
    ·rw[hc]at z;cases z;exact hb rfl
end
structure Un (fs ex:List Addr) (H H':Hp) (h h':Heap):Prop where
 keep:∀ b o,h.get? b=some o->H b=none->b ∉ fs->b ∉ ex->h'.get? b=some o
 slot:∀ b o,h.get? b=some o->H b=none->b∈fs->b ∉ ex->∃ sl,h'.get? b=some { o with slots:=sl }
 free:∀ b o,h.get? b=some o->H b=none->b ∉ ex->H' b=none
 there:∀ b o,h.get? b=some o->b ∉ ex->∃ o',h'.get? b=some o'
 tups:∀ b xs,H b=some (.tup xs)->H' b=some (.tup xs)
 frzs:∀ b o u,H b=some (.frz o u)->H' b=some (.frz o u)
 tbls:∀ b ps,H b=some (.tbl ps)->∃ more,H' b=some (.tbl (ps++more))
section
variable {fs fs' ex ex':List Addr}{H H1 H2:Hp}{h h1 h2 h':Heap}{a x e:Addr}{o:HO}
theorem Un.any (u:Un fs ex H H1 h h1){b:Addr}{ob:Obj}(q:h.get? b=some ob)(n:H b=none)(hx:b ∉ ex):∃ sl,h1.get? b=some { ob with slots:=sl }:=by
 by_cases hb:b∈fs
 ·exact u.slot b ob q n hb hx
 ·exact⟨ob.slots,u.keep b ob q n hb hx⟩
theorem Un.kept (k:∀ b u,h.get? b=some u->h'.get? b=some u):Un fs ex H H h h' :=
 ⟨fun b ob q _ _ _=>k b ob q,fun b ob q _ _ _=>⟨ob.slots,k b ob q⟩,fun _ _ _ n _=>n,fun b ob q _=>⟨ob,k b ob q⟩,fun _ _ q=>q,fun _ _ _ q=>q,fun _ ps q=>⟨#[],by rw[q];simp⟩⟩
theorem Un.refl:Un fs ex H H h h:=Un.kept fun _ _ q=>q
theorem Un.laid (k:∀ b u,h.get? b=some u->h'.get? b=some u)(hp:h.objs.size<=a)(hn:H a=none):Un fs ex H (upd H a o) h h' where
 keep:=fun b u q _ _ _=>k b u q
 slot:=fun b u q _ _ _=>⟨u.slots,k b u q⟩
 free:=fun b u q n _=>by rw[upd_ne (zB (zf (zi q) hp))];exact n
 there:=fun b u q _=>⟨u,k b u q⟩
 tups:=fun b xs q=>by rw[upd_ne (ne_of_none q hn)];exact q
 frzs:=fun b u xs q=>by rw[upd_ne (ne_of_none q hn)];exact q
 tbls:=fun b ps q=>⟨#[],by rw[upd_ne (ne_of_none q hn),q];simp⟩
theorem Un.write (mu:Mut (H x))(he:e=x\/H e=some (.own x))(k:∀ b u,b≠e->h.get? b=some u->h'.get? b=some u)(heo:∃ u,h'.get? e=some u):Un fs ex H (upd H x o) h h':=by
 have hx:∀ b,H b=none->b≠x:=fun b n z=>by subst z;rw[n]at mu;exact mu
 have hb:∀ b,H b=none->b≠e:=fun b n z=>by
  subst z;rcases he with r | r
  ·exact hx b n r
  ·rw[n]at r;cases r
 have hm:∀ b u,H b=some u->¬ Mut (some u)->b≠x:=fun b u q nm z=>by subst z;rw[q]at mu;exact nm mu
 refine⟨fun b u q n _ _=>k b u (hb b n) q,fun b u q n _ _=>⟨u.slots,k b u (hb b n) q⟩,fun b u q n _=>by rw[upd_ne (hx b n)];exact n,fun b u q _=>?_,
  fun b xs q=>by rw[upd_ne (hm b _ q fun z=>z)];exact q,fun b u xs q=>by rw[upd_ne (hm b _ q fun z=>z)];exact q,fun b ps q=>⟨#[],by rw[upd_ne (hm b _ q fun z=>z),q];simp⟩⟩
 by_cases hbe:b=e
 ·subst hbe;exact heo
 ·exact⟨u,k b u hbe q⟩
end
def trk (h:Heap)(H:Hp):List Addr:=(List.range h.objs.size).filter fun a=>(H a).isSome
def hidT (h:Heap)(H:Hp):Heap:=PySem.W.hideAll h (trk h H)
theorem hidT_size (h:Heap)(H:Hp):(hidT h H).objs.size=h.objs.size:=PySem.W.hideAll_size _ _
theorem hidT_get {h:Heap}{H:Hp}{b:Addr}{o:Obj}(e:h.get? b=some o)(n:H b=none):(hidT h H).get? b=some o :=
 PySem.W.hideAll_get _ e fun hm=>by
  have q:(H b).isSome=true:=(xg.mp hm).2;rw[n]at q;simp at q
theorem of_hidT {h:Heap}{H:Hp}{b:Addr}{o:Obj}(e:(hidT h H).get? b=some o):h.get? b=some o/\H b=none:=by
 have e':h.get? b=some o:=PySem.W.of_hideAll (trk h H) e;refine⟨e',?_⟩;cases q:H b with
 | none=>rfl
 | some x =>
  have hm:b∈trk h H:=xg.mpr ⟨yG.mpr (zi e'),by simp[q]⟩;have z:(hidT h H).get? b=none:=PySem.W.hideAll_none (trk h H) hm;rw[z]at e;cases e
end L2
namespace L2
open PySem PySem.Spec PyProof.Rows
structure Mod (K:PySem.W.Frag) (mg:Str->Option Value) (base:Heap):Prop where
 kin:K.In base
 glob:base.Ns mainGlobals mg
 blt:∃ mb,base.Ns builtinsNs mb/\∀ x:Str,x≠"__name__"->mb x=bootBuiltins x
 nolimit:base.NoLimit
/-- the context: a def's body (or a comprehension's block) running. base: fixed through the whole law;s₀,H₀: the entry;outer: the frames whose slots others may change (a def's callers);stack: all frames that run;
   ex: iterators that were made ahead of the entry and are walked here (a comprehension's);fn: the names whose cells were made at the entry (a def: all;a comprehension's block: its own);calm: not within an except suite;pn: pins that every state bears;xe: what is wanted of an exception that leaves the code -/
structure Cx where
 prog:Program
 w:World
 K:PySem.W.Frag
 mg:Str->Option Value
 base:Heap
 A:Around
 N:List Str
 s₀:Shared
 H₀:Hp
 env:Env
 outer:List Env
 stack:List Env
 ex:List Addr
 fn:Str->Bool
 calm:Bool
 pn:List (Addr×Obj)
 xe:Value->Shared->Prop
def frs (l:List Env):List Addr:=l.filterMap (·.frame)
abbrev Cx.fs (X:Cx):List Addr:=frs X.outer
def Vis (sc:Scope)(x:Str):Prop:=sc.names.lookup x=some .local\/sc.names.lookup x=some .cell\/sc.names.lookup x=some .free
def Loc (sc:Scope)(x:Str):Prop:=sc.names.lookup x=some .local\/sc.names.lookup x=some .cell
def Look (env:Env)(h:Heap)(m:Str->Option Value)(x:Str)(u:Value):Prop :=
 (env.kindOf x=some .local/\m x=some u)\/((env.kindOf x=some .cell\/env.kindOf x=some .free)/\∃ c,env.cells.lookup x=some c/\h.IsCell c (some u))
structure Cx.Ok (X:Cx):Prop where
 mod:Mod X.K X.mg X.base
 kind:X.env.scope.kind=.function
 glob:X.env.globals=mainGlobals
 blt:X.env.builtins=builtinsNs
 above:X.s₀.heap.objs.size<=X.env.locals
 inj:∀ x y c,X.env.cells.lookup x=some c->X.env.cells.lookup y=some c->x=y
 has:∀ x,(X.env.kindOf x=some .cell\/X.env.kindOf x=some .free)->∃ c,X.env.cells.lookup x=some c
 cab:∀ x c,X.fn x=true->X.env.cells.lookup x=some c->X.s₀.heap.objs.size<=c
 hd:X.calm=true->X.A.handled=none
 frames:X.A.frames=some X.stack
 stk:X.stack=X.outer\/(X.stack=X.env::X.outer/\X.env.frame=some X.env.locals)
 exf:∀ b∈X.ex,b≠X.env.locals/\∀ x c,X.env.cells.lookup x=some c->c≠b
 bs:∀ b o,X.base.get? b=some o->X.s₀.heap.get? b=some o/\X.H₀ b=none
 bsz:X.base.objs.size<=X.s₀.heap.objs.size
 noex:∀ b o,X.base.get? b=some o->b ∉ X.ex
 exfs:∀ b∈X.ex,b ∉ X.fs
 funs:X.s₀.heap.FunFrames X.base X.outer
 frf:∀ b∈X.fs,X.H₀ b=none
structure Inv (X:Cx) (pins:List (Addr×Obj)) (σ:List (Option V)) (H:Hp) (s:Shared):Prop where
 ok:X.Ok
 os:s.os=X.s₀.os
 bare:AllBare s.gens
 base:Un X.fs X.ex X.H₀ H X.s₀.heap s.heap
 loc:∃ m,s.heap.Ns X.env.locals m/\∀ (i:Nat) (x:Str) (v:V),X.N[i]?=some x->σ[i]?=some (some v)->Vis X.env.scope x->∃ u,RelV v u/\Look X.env s.heap m x u
 cell:∀ x c,X.env.cells.lookup x=some c->∃ v,s.heap.IsCell c v
 free:H X.env.locals=none
 freeC:∀ x c,X.env.cells.lookup x=some c->H c=none
 pin:∀ p∈X.pn++pins,s.heap.get? p.1=some p.2/\H p.1=none/\p.1≠X.env.locals/\p.1 ∉ X.fs/\∀ v,p.2.data≠.cell v
 hok:HOk X.prog X.w H s.heap
 len:σ.length=X.N.length
section
variable {X:Cx}{pins:List (Addr×Obj)}{σ:List (Option V)}{H H':Hp}{s:Shared}{h':Heap}
theorem Cx.Ok.nofr (ok:X.Ok){b:Addr}{o:Obj}(e:X.base.get? b=some o):b ∉ X.fs:=fun hb=>by
 have:=(ok.funs.mem hb).1
 rw[e]at this;cases this
theorem Inv.bs (I:Inv X pins σ H s):∀ b o,X.base.get? b=some o->s.heap.get? b=some o/\H b=none:=fun b o e =>
 ⟨I.base.keep b o (I.ok.bs b o e).1 (I.ok.bs b o e).2 (I.ok.nofr e) (I.ok.noex b o e),I.base.free b o (I.ok.bs b o e).1 (I.ok.bs b o e).2 (I.ok.noex b o e)⟩
theorem Inv.bk (I:Inv X pins σ H s):∀ b o,X.base.get? b=some o->s.heap.get? b=some o:=fun b o e=>(I.bs b o e).1
theorem Inv.mod (I:Inv X pins σ H s):Mod X.K X.mg X.base:=I.ok.mod
theorem Inv.kIn (I:Inv X pins σ H s):X.K.In s.heap:=I.ok.mod.kin.keeps I.bk
theorem Inv.lt (I:Inv X pins σ H s):X.env.locals < s.heap.objs.size:=let ⟨_,hn,_⟩:=I.loc;hn.lt
theorem Inv.sz (I:Inv X pins σ H s):X.s₀.heap.objs.size<=s.heap.objs.size:=zS I.ok.above (wF I.lt)
theorem Inv.nofs (I:Inv X pins σ H s){a:Addr}(h:s.heap.objs.size<=a):a ∉ X.fs:=fun hb=>by
 obtain⟨_,o,ho,_⟩:=I.ok.funs.mem hb;exact absurd (zf (zi ho) (zS I.sz h)) (yc _)
theorem Inv.cne (I:Inv X pins σ H s):∀ x c,X.env.cells.lookup x=some c->c≠X.env.locals:=fun x c e z=>by
 obtain⟨v,o,ho,hd⟩:=I.cell x c e;obtain⟨m,⟨o',es,ep,ho',hd',_⟩,_⟩:=I.loc;rw[z,ho']at ho;cases ho;rw[hd']at hd;cases hd
theorem Inv.funs (I:Inv X pins σ H s):s.heap.FunFrames X.base X.outer:=by
 have all:∀ (l:List Env),(∀ b∈frs l,b∈X.fs)->X.s₀.heap.FunFrames X.base l->s.heap.FunFrames X.base l:=by
  intro l;induction l with
  | nil=>intro _ _;trivial
  | cons env r ih =>
   intro hs hl;obtain⟨hk,⟨L,o,hf,hn,ho,hd⟩,hr⟩:=hl;have hL:L∈X.fs:=hs L (by unfold frs;rw[yM,hf];exact zU);obtain⟨sl,e⟩:=I.base.slot L o ho (I.ok.frf L hL) hL fun z=>I.ok.exfs L z hL;exact⟨hk,⟨L,_,hf,hn,e,hd⟩,ih (fun b hb=>hs b (by unfold frs;rw[yM,hf];exact zP _ hb)) hr⟩
 exact all X.outer (fun _ hb=>hb) I.ok.funs
theorem Inv.stack (I:Inv X pins σ H s):s.heap.FunFrames X.base X.stack:=by
 rcases I.ok.stk with e | ⟨e,hf⟩
 ·rw[e];exact I.funs
 ·rw[e]
  obtain⟨m,hn,_⟩:=I.loc;refine .cons (by rw[I.ok.kind];decide) hf hn ?_ I.funs;exact xQ (zS I.ok.bsz I.ok.above)
theorem Inv.stkSub (I:Inv X pins σ H s):∀ b∈frs X.stack,b∈X.env.locals::X.fs:=fun b hb=>by
 rcases I.ok.stk with e | ⟨e,hf⟩
 ·rw[e]at hb;exact zP _ hb
 ·rw[e]at hb
  unfold frs at hb;rw[yM,hf]at hb;exact hb
theorem Inv.stkFree (I:Inv X pins σ H s):∀ b∈frs X.stack,H b=none:=fun b hb=>by
 rcases zO.mp (I.stkSub b hb) with e | hb
 ·rw[e];exact I.free
 ·obtain⟨_,o,ho,_⟩:=I.ok.funs.mem hb
  exact I.base.free b o ho (I.ok.frf b hb) fun z=>I.ok.exfs b z hb
theorem Inv.step {g':Array GenState}{t':Nat}{d':Drawn}{ch:List Addr}(I:Inv X pins σ H s)
  (hch:∀ b∈ch,(b∈X.ex\/X.s₀.heap.objs.size<=b)/\b≠X.env.locals/\(∀ x c,X.env.cells.lookup x=some c->c≠b)/\∀ p∈X.pn++pins,p.1≠b)
  (keep:∀ b o,b≠X.env.locals->b ∉ X.fs->b ∉ ch->s.heap.get? b=some o->H b=none->h'.get? b=some o)
  (slot:∀ b o,b≠X.env.locals->b∈X.fs->b ∉ ch->s.heap.get? b=some o->H b=none->∃ sl,h'.get? b=some { o with slots:=sl }) (free:∀ b o,b ∉ ch->s.heap.get? b=some o->H b=none->H' b=none)
  (there:∀ b o,b ∉ ch->s.heap.get? b=some o->∃ o',h'.get? b=some o')
  (tups:∀ b xs,H b=some (.tup xs)->H' b=some (.tup xs)) (frzs:∀ b o u,H b=some (.frz o u)->H' b=some (.frz o u)) (tbls:∀ b ps,H b=some (.tbl ps)->∃ more,H' b=some (.tbl (ps++more)))
  (ns:∀ m,s.heap.Ns X.env.locals m->h'.Ns X.env.locals m) (hok:HOk X.prog X.w H' h') (hg:AllBare g') :
  Inv X pins σ H' { s with heap:=h',gens:=g',drawn:=d',toks:=t' }:=by
 have neL:∀ b o,X.s₀.heap.get? b=some o->b≠X.env.locals:=fun b o e=>zB (zf (zi e) I.ok.above);have neC:∀ b o,X.s₀.heap.get? b=some o->b ∉ X.ex->b ∉ ch:=fun b o e hx hb=>by
  rcases (hch b hb).1 with z | z
  ·exact hx z
  ·exact absurd (zf (zi e) z) (yc _)
 have cellK:∀ x c,X.env.cells.lookup x=some c->∀ v,s.heap.IsCell c v->h'.IsCell c v:=fun x c e v ⟨o,ho,hd⟩=>by
  have nch:c ∉ ch:=fun z=>(hch c z).2.2.1 x c e rfl;by_cases hc:c∈X.fs
  ·obtain⟨sl,q⟩:=slot c o (I.cne x c e) hc nch ho (I.freeC x c e)
   exact⟨_,q,hd⟩
  ·exact⟨o,keep c o (I.cne x c e) hc nch ho (I.freeC x c e),hd⟩
 refine⟨I.ok,I.os,hg,⟨fun b o e n hb hx=>?_,fun b o e n hb hx=>?_,fun b o e n hx=>?_,fun b o e hx=>?_,fun b xs e=>tups b xs (I.base.tups b xs e),fun b o xs e=>frzs b o xs (I.base.frzs b o xs e),fun b ps e=>?_⟩,?_,fun x c e=>?_,?_,fun x c e=>?_,fun p hp=>?_,hok,I.len⟩
 ·exact keep b o (neL b o e) hb (neC b o e hx) (I.base.keep b o e n hb hx) (I.base.free b o e n hx)
 ·obtain⟨sl,e1⟩:=I.base.slot b o e n hb hx
  obtain⟨sl',e2⟩:=slot b _ (neL b o e) hb (neC b o e hx) e1 (I.base.free b o e n hx);exact⟨sl',e2⟩
 ·obtain⟨o',e1⟩:=I.base.there b o e hx
  exact free b o' (neC b o e hx) e1 (I.base.free b o e n hx)
 ·obtain⟨o',e1⟩:=I.base.there b o e hx
  exact there b o' (neC b o e hx) e1
 ·obtain⟨m1,e1⟩:=I.base.tbls b ps e
  obtain⟨m2,e2⟩:=tbls b _ e1;exact⟨m1++m2,by rw[e2,Array.append_assoc]⟩
 ·obtain⟨m,hn,hl⟩:=I.loc
  refine⟨m,ns m hn,fun i x v e1 e2 e3=>?_⟩;obtain⟨u,r,l⟩:=hl i x v e1 e2 e3;refine⟨u,r,?_⟩;rcases l with l | ⟨k,c,e,z⟩
  ·exact .inl l
  ·exact .inr ⟨k,c,e,cellK x c e _ z⟩
 ·obtain⟨v,z⟩:=I.cell x c e
  exact⟨v,cellK x c e v z⟩
 ·obtain⟨m,⟨o,_,_,ho,_⟩,_⟩:=I.loc
  exact free _ o (fun z=>(hch _ z).2.1 rfl) ho I.free
 ·obtain⟨v,o,ho,hd⟩:=I.cell x c e
  exact free c o (fun z=>(hch c z).2.2.1 x c e rfl) ho (I.freeC x c e)
 ·obtain⟨e,n,ne,nf,d⟩:=I.pin p hp
  have nch:p.1 ∉ ch:=fun z=>(hch p.1 z).2.2.2 p hp rfl;exact⟨keep p.1 p.2 ne nf nch e n,free p.1 p.2 nch e n,ne,nf,d⟩
theorem Inv.un {t':Nat}(I:Inv X pins σ H s)(u:Un X.fs [] H H' s.heap h')(hok:HOk X.prog X.w H' h'):Inv X pins σ H' { s with heap:=h',toks:=t' }:=by
 obtain⟨m,⟨o,es,ep,ho,r⟩,_⟩:=id I.loc;obtain⟨sl,hL⟩:=u.any ho I.free (by simp);exact I.step (g':=s.gens) (d':=s.drawn) (ch:=[]) (fun _ z=>nomatch z) (fun b o _ hb _ e n=>u.keep b o e n hb (by simp)) (fun b o _ hb _ e n=>u.slot b o e n hb (by simp)) (fun b o _ e n=>u.free b o e n (by simp)) (fun b o _ e=>u.there b o e (by simp)) u.tups u.frzs u.tbls (fun m' hm=>by
  obtain⟨o',es',ep',ho',r'⟩:=hm;rw[ho]at ho';cases ho';exact⟨_,es',ep',hL,r'⟩) hok I.bare
theorem Inv.call {g':Array GenState}{t':Nat}{d':Drawn}{ch:List Addr}(I:Inv X pins σ H s)(u:Un (frs X.stack) ch H H' s.heap h')(hok:HOk X.prog X.w H' h')(hg:AllBare g')
  (hch:∀ b∈ch,(b∈X.ex\/X.s₀.heap.objs.size<=b)/\b≠X.env.locals/\(∀ x c,X.env.cells.lookup x=some c->c≠b)/\∀ p∈X.pn++pins,p.1≠b) :
  Inv X pins σ H' { s with heap:=h',gens:=g',drawn:=d',toks:=t' }:=by
 obtain⟨m,⟨o,es,ep,ho,r⟩,_⟩:=id I.loc;obtain⟨sl,hL⟩:=u.any ho I.free fun z=>(hch _ z).2.1 rfl;exact I.step (ch:=ch) hch (fun b o hL hb hc e n=>u.keep b o e n (fun z=>(zO.mp (I.stkSub b z)).elim hL hb) hc) (fun b o _ _ hc e n=>u.any e n hc) (fun b o hc e n=>u.free b o e n hc) (fun b o hc e=>u.there b o e hc) u.tups u.frzs u.tbls (fun m' hm=>by
  obtain⟨o',es',ep',ho',r'⟩:=hm;rw[ho]at ho';cases ho';exact⟨_,es',ep',hL,r'⟩) hok hg
theorem Inv.turned {t':Nat}{it:Addr}(I:Inv X pins σ H s)(k:∀ b o,b≠it->s.heap.get? b=some o->h'.get? b=some o)(hn:H it=none)(hL:it≠X.env.locals)
  (h1:it∈X.ex\/X.s₀.heap.objs.size<=it) (h2:∀ x c,X.env.cells.lookup x=some c->c≠it) (h3:∀ p∈X.pn++pins,p.1≠it):Inv X pins σ H { s with heap:=h',toks:=t' }:=by
 have nit:∀ b u,H b=some u->b≠it:=fun b u e z=>by rw[z,hn]at e;cases e
 refine I.step (g':=s.gens) (d':=s.drawn) (ch:=[it]) (fun b hb=>?_) (fun b o _ _ hc e _=>k b o (fun z=>hc (by simp[z])) e) (fun b o _ _ hc e _=>⟨o.slots,k b o (fun z=>hc (by simp[z])) e⟩) (fun _ _ _ _ n=>n)
  (fun b o hc e=>⟨o,k b o (fun z=>hc (by simp[z])) e⟩) (fun _ _ e=>e) (fun _ _ _ e=>e) (fun b ps e=>⟨#[],by rw[e];simp⟩) (fun m hm=>?_) (fun b u e=>?_) I.bare
 ·have e:b=it:=by simpa using hb
  subst e;exact⟨h1,hL,h2,h3⟩
 ·obtain⟨o,es,ep,ho,r⟩:=hm
  exact⟨o,es,ep,k _ o (Ne.symm hL) ho,r⟩
 ·refine(I.hok b u e).stay (fun c v hc q=>k c v ?_ q) (fun _ q=>q) fun _ _ q=>q
  rcases hc with z | z
  ·rw[z];exact nit b u e
  ·exact nit c _ z
theorem Inv.tok (I:Inv X pins σ H s)(t:Nat):Inv X pins σ H { s with toks:=t }:=I.un (h':=s.heap) (t':=t) Un.refl I.hok
theorem Inv.kept {t':Nat}(I:Inv X pins σ H s)(k:∀ b u,s.heap.get? b=some u->h'.get? b=some u):Inv X pins σ H { s with heap:=h',toks:=t' }:=I.un (Un.kept k) (I.hok.kept k)
theorem Inv.laid {a:Addr}{o:HO}{t':Nat}(I:Inv X pins σ H s)(k:∀ b u,s.heap.get? b=some u->h'.get? b=some u)(hp:s.heap.objs.size<=a)(new:ObjOk X.prog X.w (upd H a o) h' a o) :
  Inv X pins σ (upd H a o) { s with heap:=h',toks:=t' }:=I.un (Un.laid k hp (I.hok.fresh hp)) (I.hok.laid k hp new)
theorem Inv.write {x e:Addr}{o:HO}{t':Nat}(I:Inv X pins σ H s)(mu:Mut (H x))(he:e=x\/H e=some (.own x))(k:∀ b u,b≠e->s.heap.get? b=some u->h'.get? b=some u)(heo:∃ u,h'.get? e=some u)
  (new:ObjOk X.prog X.w (upd H x o) h' x o):Inv X pins σ (upd H x o) { s with heap:=h',toks:=t' }:=I.un (Un.write mu he k heo) (I.hok.write mu he k heo new)
theorem Inv.pins_of {pins':List (Addr×Obj)}(I:Inv X pins σ H s)(h:∀ p∈pins',s.heap.get? p.1=some p.2/\H p.1=none/\p.1≠X.env.locals/\p.1 ∉ X.fs/\∀ v,p.2.data≠.cell v):Inv X pins' σ H s :=
 ⟨I.ok,I.os,I.bare,I.base,I.loc,I.cell,I.free,I.freeC,fun p hp=>(zG.mp hp).elim (fun z=>I.pin p (yw _ z)) (h p),I.hok,I.len⟩
theorem nodup_ix {N:List Str}(hN:N.Nodup){i j:Nat}{x:Str}(a:N[i]?=some x)(b:N[j]?=some x):i=j:=by
 obtain⟨h1,e1⟩:=zr.mp a;obtain⟨h2,e2⟩:=zr.mp b;exact(wb hN).mp (e1.trans e2.symm)
theorem store_ok2 {M:Model}{A:Around}{E:Value->Shared->Prop}{i:Nat}{x:Str}{v:V}{u:Value}{Q:Unit->Shared->Prop}(I:Inv X pins σ H s)(hN:X.N.Nodup)(hi:X.N[i]?=some x)(hx:Loc X.env.scope x)(r:RelV v u)
  (h:∀ s',Inv X pins (σ.set i (some v)) H s'->(∃ a,Heap.SameBut a s.heap s'.heap/\(a=X.env.locals\/X.env.cells.lookup x=some a))->Q () s') (hf:X.fn x=true\/X.env.scope.names.lookup x=some .local:=by first | exact .inl rfl | exact .inr rfl | assumption):wpAny M A (storeName X.env x u) Q E s:=by
 obtain⟨m,hn,hl⟩:=id I.loc;have hcls:(X.env.scope.kind==.class||(X.env.scope.kind==.module&&X.env.locals != X.env.globals))=false:=by rw[I.ok.kind];rfl
 have hiσ:i < σ.length:=by rw[I.len];exact(zr.mp hi).1
 have cne:=I.cne;have tracked:∀ {a:Addr} {h':Heap},(∃ o,s.heap.get? a=some o/\H a=none)->Heap.SameBut a s.heap h'->HOk X.prog X.w H h':=fun {a h'} ha hs b ob e=>by
  obtain⟨_,_,hfree⟩:=ha;refine(I.hok b ob e).stay (fun c w' hc q=>(hs.2 c ?_).trans q) (fun _ q=>q) fun _ _ q=>q;rintro rfl;rcases hc with rfl | hc
  ·rw[hfree]at e;cases e
  ·rw[hfree]at hc;cases hc
 rcases hx with hk | hk
 ·refine wpAny_storeName_local hk hn (fun h' hn' hs=>?_) hcls
  obtain⟨oL,_,_,hoL,_⟩:=id hn;refine h _ ⟨I.ok,I.os,I.bare,⟨fun b o e n hb hx=>?_,fun b o e n hb hx=>?_,I.base.free,fun b o e hx=>?_,I.base.tups,I.base.frzs,I.base.tbls⟩,⟨_,hn',fun j y v' e1 e2 e3=>?_⟩,fun y c e=>?_,I.free,I.freeC,fun p hp=>?_,tracked ⟨oL,hoL,I.free⟩ hs,by simpa using I.len⟩ ⟨_,hs,.inl rfl⟩
  ·exact(hs.2 b (zB (zf (zi e) I.ok.above))).trans (I.base.keep b o e n hb hx)
  ·obtain⟨sl,e1⟩:=I.base.slot b o e n hb hx
   exact⟨sl,(hs.2 b (zB (zf (zi e) I.ok.above))).trans e1⟩
  ·obtain⟨o',e1⟩:=I.base.there b o e hx
   exact⟨o',(hs.2 b (zB (zf (zi e) I.ok.above))).trans e1⟩
  ·by_cases hj:j=i
   ·subst hj
    rw[hi]at e1;cases e1;rw[yh hiσ]at e2;cases e2;exact⟨u,r,.inl ⟨hk,by simp⟩⟩
   ·rw[yv (Ne.symm hj)]at e2
    obtain⟨u',r',q⟩:=hl j y v' e1 e2 e3;refine⟨u',r',?_⟩;rcases q with ⟨k,e⟩|⟨k,c,e,z⟩
    ·refine .inl ⟨k,?_⟩
     have:y≠x:=fun e=>hj (nodup_ix hN e1 (e ▸ hi))
     simp[this,e]
    ·exact .inr ⟨k,c,e,z.sameBut hs (cne y c e)⟩
  ·obtain⟨w',z⟩:=I.cell y c e
   exact⟨w',z.sameBut hs (cne y c e)⟩
  ·obtain⟨e,n,ne,nf,d⟩:=I.pin p hp
   exact⟨(hs.2 p.1 ne).trans e,n,ne,nf,d⟩
 ·have hfn:X.fn x=true:=by
   rcases hf with z | z
   ·exact z
   ·rw[z]at hk;cases hk
  obtain⟨c,hc⟩:=I.ok.has x (.inl hk);obtain⟨w',z⟩:=I.cell x c hc;refine wpAny_storeName_cell I.ok.kind hk hc z (fun h' hc' hs=>?_);obtain⟨oc,hoc,hocd⟩:=id z;refine h { s with heap:=h' } ⟨I.ok,I.os,I.bare,⟨fun b o e n hb hx=>?_,fun b o e n hb hx=>?_,I.base.free,fun b o e hx=>?_,I.base.tups,I.base.frzs,I.base.tbls⟩,⟨m,hn.sameBut hs (Ne.symm (cne x c hc)),fun j y v' e1 e2 e3=>?_⟩,fun y c' e=>?_,I.free,I.freeC,fun p hp=>?_,tracked ⟨oc,hoc,I.freeC x c hc⟩ hs,by simpa using I.len⟩ ⟨c,hs,.inr hc⟩
  ·exact(hs.2 b (zB (zf (zi e) (I.ok.cab x c hfn hc)))).trans (I.base.keep b o e n hb hx)
  ·obtain⟨sl,e1⟩:=I.base.slot b o e n hb hx
   exact⟨sl,(hs.2 b (zB (zf (zi e) (I.ok.cab x c hfn hc)))).trans e1⟩
  ·obtain⟨o',e1⟩:=I.base.there b o e hx
   exact⟨o',(hs.2 b (zB (zf (zi e) (I.ok.cab x c hfn hc)))).trans e1⟩
  ·by_cases hj:j=i
   ·subst hj
    rw[hi]at e1;cases e1;rw[yh hiσ]at e2;cases e2;exact⟨u,r,.inr ⟨.inl hk,c,hc,hc'⟩⟩
   ·rw[yv (Ne.symm hj)]at e2
    obtain⟨u',r',q⟩:=hl j y v' e1 e2 e3;refine⟨u',r',?_⟩;rcases q with q | ⟨k,c',e,z'⟩
    ·exact .inl q
    ·refine .inr ⟨k,c',e,z'.sameBut hs ?_⟩
     rintro rfl;exact hj (nodup_ix hN e1 (I.ok.inj _ _ _ e hc ▸ hi))
  ·by_cases hcc:c'=c
   ·subst hcc;exact⟨_,hc'⟩
   ·obtain⟨w2,z2⟩:=I.cell y c' e
    exact⟨w2,z2.sameBut hs hcc⟩
  ·obtain⟨e,n,ne,nf,d⟩:=I.pin p hp
   refine⟨(hs.2 p.1 ?_).trans e,n,ne,nf,d⟩;intro q;rw[q,hoc]at e;have q':oc=p.2:=Option.some.inj e;exact d w' (by rw[<- q'];exact hocd)
theorem store_ok {M:Model}{A:Around}{E:Value->Shared->Prop}{i:Nat}{x:Str}{v:V}{u:Value}{Q:Unit->Shared->Prop}(I:Inv X pins σ H s)(hN:X.N.Nodup)(hi:X.N[i]?=some x)(hx:Loc X.env.scope x)(r:RelV v u)
  (h:∀ s',Inv X pins (σ.set i (some v)) H s'->Q () s') (hf:X.fn x=true\/X.env.scope.names.lookup x=some .local:=by first | exact .inl rfl | exact .inr rfl | assumption):wpAny M A (storeName X.env x u) Q E s :=
 store_ok2 I hN hi hx r (fun s' I' _=>h s' I') hf
theorem Inv.call' {s':Shared}{ch:List Addr}(I:Inv X pins σ H s)(ho:s'.os=s.os)(u:Un (frs X.stack) ch H H' s.heap s'.heap)(hok:HOk X.prog X.w H' s'.heap)(hg:AllBare s'.gens)
  (hch:∀ b∈ch,(b∈X.ex\/X.s₀.heap.objs.size<=b)/\b≠X.env.locals/\(∀ x c,X.env.cells.lookup x=some c->c≠b)/\∀ p∈X.pn++pins,p.1≠b):Inv X pins σ H' s':=by
 obtain⟨h',g',d',t',o'⟩:=s';have e:o'=s.os:=ho;subst e;exact I.call (g':=g') (t':=t') (d':=d') u hok hg hch
end
abbrev XK:=Value->Option Addr->Hp->Prop
abbrev St:=List (Option V)
abbrev VK:=V->Hp->Prop
abbrev TE:=St->Hp->VK->Prop
abbrev TT:=St->Hp->(Bool->Hp->Prop)->Prop
abbrev TA:=St->Hp->(List V->Hp->Prop)->Prop
structure Ends where
 nx:St->Hp->Prop
 rt:VK
 bk:St->Hp->Prop:=fun _ _=>False
 ct:St->Hp->Prop:=fun _ _=>False
abbrev TS:=Ends->St->Hp->Prop
def EP (X:Cx)(pins:List (Addr×Obj))(σ:St)(Q:VK)(u:Value)(s':Shared):Prop:=∃ v H',Inv X pins σ H' s'/\RelV v u/\Q v H'
def TP (X:Cx)(pins:List (Addr×Obj))(σ:St)(Q:Bool->Hp->Prop)(b:Bool)(s':Shared):Prop:=∃ H',Inv X pins σ H' s'/\Q b H'
def AP (X:Cx)(pins:List (Addr×Obj))(σ:St)(Q:List V->Hp->Prop)(us:List Value)(s':Shared):Prop:=∃ vs H',Inv X pins σ H' s'/\Vals vs us/\Q vs H'
def SP (X:Cx)(pins:List (Addr×Obj))(D:Ends)(f:Flow)(s':Shared):Prop :=
 match f with
 | .next=>∃ σ' H',Inv X pins σ' H' s'/\D.nx σ' H'
 | .brk=>∃ σ' H',Inv X pins σ' H' s'/\D.bk σ' H'
 | .cont=>∃ σ' H',Inv X pins σ' H' s'/\D.ct σ' H'
 | .ret u=>∃ v σ' H',Inv X pins σ' H' s'/\RelV v u/\D.rt v H'
def PE (X:Cx)(e:Expr)(t:TE):Prop :=
 ∀ (pins:List (Addr×Obj)) (s:Shared) (σ:St) (H:Hp) (Q:VK),Inv X pins σ H s->t σ H Q->wpAny (model X.prog X.w) X.A (eval e X.env) (EP X pins σ Q) X.xe s
def PT (X:Cx)(e:Expr)(t:TT):Prop :=
 ∀ (pins:List (Addr×Obj)) (s:Shared) (σ:St) (H:Hp) (Q:Bool->Hp->Prop),Inv X pins σ H s->t σ H Q->wpAny (model X.prog X.w) X.A (isTrue e X.env (eval e X.env)) (TP X pins σ Q) X.xe s
def PW (X:Cx)(e:Expr)(t:TT):Prop :=
 ∀ (whole:Sem Value) (pins:List (Addr×Obj)) (s:Shared) (σ:St) (H:Hp) (Q:Bool->Hp->Prop),Inv X pins σ H s->t σ H Q->wpAny (model X.prog X.w) X.A (isTrue e X.env whole) (TP X pins σ Q) X.xe s
theorem PW.pt {X:Cx}{e:Expr}{t:TT}(h:PW X e t):PT X e t:=h _
def PA (X:Cx)(es:List Expr)(t:TA):Prop :=
 ∀ (pos:Pos) (pins:List (Addr×Obj)) (s:Shared) (σ:St) (H:Hp) (Q:List V->Hp->Prop),Inv X pins σ H s->t σ H Q->wpAny (model X.prog X.w) X.A (spliced (backTo pos (starEach es X.env))) (AP X pins σ Q) X.xe s
def PS (X:Cx)(st:Stmt)(t:TS):Prop :=
 ∀ (pins:List (Addr×Obj)) (s:Shared) (σ:St) (H:Hp) (D:Ends),Inv X pins σ H s->t D σ H->wpAny (model X.prog X.w) X.A (exec st X.env) (SP X pins D) X.xe s
def PSs (X:Cx)(st:List Stmt)(t:TS):Prop :=
 ∀ (pins:List (Addr×Obj)) (s:Shared) (σ:St) (H:Hp) (D:Ends),Inv X pins σ H s->t D σ H->wpAny (model X.prog X.w) X.A (execs st X.env) (SP X pins D) X.xe s
theorem thn {α:Type}{t:Sem α}{Q Q':α->Shared->Prop}{M:Model}{A:Around}{E:Value->Shared->Prop}{s:Shared}(h:wpAny M A t Q E s)(hQ:∀ a s,Q a s->Q' a s):wpAny M A t Q' E s:=wpAny_mono h hQ fun _ _ x=>x
end L2
namespace L2
open PySem PySem.Spec PyProof.Rows
section
variable {X:Cx}
def tVar (i:Nat):TE:=fun σ H Q=>∃ v,σ[i]?=some (some v)/\Q v H
def tC (v:V):TE:=fun _ H Q=>Q v H
theorem pe_var {i:Nat}{x:Str}{pos:Pos}(hN:X.N[i]?=some x)(hv:Vis X.env.scope x)(hd:(x==("__debug__" : Str))=false:=by decide)(hcd:(x==("__classdict__" : Str))=false:=by decide):PE X (.Name x pos) (tVar i):=by
 intro pins s σ H Q I h;obtain⟨v,e,h⟩:=h;obtain⟨m,hn,hl⟩:=I.loc;obtain⟨u,r,l⟩:=hl i x v hN e hv;have fin:EP X pins σ Q u s:=⟨v,H,I,r,h⟩;rcases l with ⟨hk,hm⟩|⟨hk,c,hc,hcell⟩
 ·exact wpAny_Name (wpAny_loadName_local I.ok.kind hk hn hm fin) hd
 ·rcases hk with hk | hk
  ·exact wpAny_Name (wpAny_loadName_cell I.ok.kind hk hc hcell fin) hd
  ·exact wpAny_Name (wpAny_loadName_free I.ok.kind hk hc hcell fin hcd) hd
theorem pe_int {i j pos}:PE X (.Constant (.int i) j pos) (tC (.int i)):=fun _ _ _ H _ I h=>wpAny_Constant_int ⟨.int i,H,I.tok _,⟨_,rfl⟩,h⟩
theorem pe_bl {b j pos}:PE X (.Constant (.bool b) j pos) (tC (.bl b)):=fun _ _ _ H _ I h=>Constant_bool ⟨.bl b,H,I,rfl,h⟩
theorem pe_non {j pos}:PE X (.Constant .none j pos) (tC .non):=fun _ _ _ H _ I h=>Constant_none ⟨.non,H,I,rfl,h⟩
theorem pe_str {x j pos}:PE X (.Constant (.str x) j pos) (tC (.str x)):=fun _ _ _ H _ I h=>Calls.Constant_str ⟨.str x,H,I.tok _,⟨_,rfl⟩,h⟩
def Gl (X:Cx)(x:Str):Prop:=X.env.kindOf x=some .globalImplicit
theorem ld_glob {E:Value->Shared->Prop}{pins:List (Addr×Obj)}{s:Shared}{σ:St}{H:Hp}{x:Str}{u:Value}{pos:Pos}{Q:Value->Shared->Prop}(I:Inv X pins σ H s)(hg:Gl X x)(hm:X.mg x=some u)(h:Q u s)
  (hd:(x==("__debug__" : Str))=false:=by decide):wpAny (model X.prog X.w) X.A (eval (.Name x pos) X.env) Q E s :=
 Calls.Name_function_global I.ok.kind hg (Calls.loadGlobal_global (by rw[I.ok.glob];exact I.mod.glob.keeps I.bk) hm h) hd
theorem ld_blt {E:Value->Shared->Prop}{pins:List (Addr×Obj)}{s:Shared}{σ:St}{H:Hp}{x:Str}{u:Value}{pos:Pos}{Q:Value->Shared->Prop}(I:Inv X pins σ H s)(hg:Gl X x)(hm:X.mg x=none)(hv:bootBuiltins x=some u)(h:Q u s)
  (hn:x≠"__name__":=by decide) (hd:(x==("__debug__" : Str))=false:=by decide):wpAny (model X.prog X.w) X.A (eval (.Name x pos) X.env) Q E s:=by
 obtain⟨mb,h1,h2⟩:=I.mod.blt;exact Calls.Name_function_global I.ok.kind hg (Calls.loadGlobal_builtin (by rw[I.ok.glob];exact I.mod.glob.keeps I.bk) hm (by rw[I.ok.blt];exact h1.keeps I.bk) ((h2 x hn).trans hv) h) hd
theorem pe_glob {x:Str}{v:V}{u:Value}{pos:Pos}(hg:Gl X x)(hm:X.mg x=some u)(r:RelV v u)(hd:(x==("__debug__" : Str))=false:=by decide):PE X (.Name x pos) (tC v) :=
 fun _ _ _ H _ I h=>ld_glob I hg hm ⟨v,H,I,r,h⟩ hd
theorem pe_bltn {x:Str}{v:V}{u:Value}{pos:Pos}(hg:Gl X x)(hm:X.mg x=none)(hv:bootBuiltins x=some u)(r:RelV v u)(hn:x≠"__name__":=by decide)(hd:(x==("__debug__" : Str))=false:=by decide):PE X (.Name x pos) (tC v) :=
 fun _ _ _ H _ I h=>ld_blt I hg hm hv ⟨v,H,I,r,h⟩ hn hd
variable {a b:Expr}{ta tb:TE}{pos:Pos}
variable {tA tB':TT}{rest:List Expr}
def tAnd (t u:TT):TT:=fun σ H Q=>t σ H fun c H1=>if c=true then u σ H1 Q else Q false H1
def tOr (t u:TT):TT:=fun σ H Q=>t σ H fun c H1=>if c=true then Q true H1 else u σ H1 Q
def tNot (t:TT):TT:=fun σ H Q=>t σ H fun c H1=>Q (!c) H1
theorem pw_and1 (ha:PT X a tA):PW X (.BoolOp .And [a] pos) tA:=by
 intro wh pins s σ H Q I h;refine isTrue_and (thn (ha pins s σ H Q I h) fun c s1 e=>?_);cases c with
 | true=>exact isTrue_and_nil e
 | false=>exact e
theorem pw_or1 (ha:PT X a tA):PW X (.BoolOp .Or [a] pos) tA:=by
 intro wh pins s σ H Q I h;refine isTrue_or (thn (ha pins s σ H Q I h) fun c s1 e=>?_);cases c with
 | false=>exact isTrue_or_nil e
 | true=>exact e
theorem pw_and (ha:PT X a tA)(hb:PW X (.BoolOp .And (b::rest) pos) tB'):PW X (.BoolOp .And (a::b::rest) pos) (tAnd tA tB'):=by
 intro wh pins s σ H Q I h;refine isTrue_and (thn (ha pins s σ H _ I h) fun c s1 ⟨H1,I1,q1⟩=>?_);cases c with
 | true=>exact hb wh pins s1 σ H1 Q I1 q1
 | false=>exact⟨H1,I1,q1⟩
theorem pw_or (ha:PT X a tA)(hb:PW X (.BoolOp .Or (b::rest) pos) tB'):PW X (.BoolOp .Or (a::b::rest) pos) (tOr tA tB'):=by
 intro wh pins s σ H Q I h;refine isTrue_or (thn (ha pins s σ H _ I h) fun c s1 ⟨H1,I1,q1⟩=>?_);cases c with
 | true=>exact⟨H1,I1,q1⟩
 | false=>exact hb wh pins s1 σ H1 Q I1 q1
theorem pt_not (ha:PT X a tA):PT X (.UnaryOp .Not a pos) (tNot tA):=by
 intro pins s σ H Q I h;exact isTrue_not (ha pins s σ H (fun c H1=>Q (!c) H1) I h)
def tAndV (ta tb:TE):TE:=fun σ H Q=>ta σ H fun x H1=>∃ c,x=.bl c/\if c=true then tb σ H1 Q else Q (.bl false) H1
def tOrV (ta tb:TE):TE:=fun σ H Q=>ta σ H fun x H1=>∃ c,x=.bl c/\if c=true then Q (.bl true) H1 else tb σ H1 Q
def tNotV (ta:TE):TE:=fun σ H Q=>ta σ H fun x H1=>∃ c,x=.bl c/\Q (.bl (!c)) H1
theorem pe_one {op}{t:TE}(h:PE X a t):PE X (.BoolOp op [a] pos) t:=fun pins s σ H Q I hw=>BoolOp_one (h pins s σ H Q I hw)
theorem pe_and (ha:PE X a ta)(hb:PE X (.BoolOp .And (b::rest) pos) tb):PE X (.BoolOp .And (a::b::rest) pos) (tAndV ta tb):=by
 intro pins s σ H Q I h;refine BoolOp_and (thn (ha pins s σ H _ I h) fun v s1 ⟨x,H1,I1,r1,q1⟩=>?_);obtain⟨c,rfl,q1⟩:=q1;cases r1;refine wpAny_truthy_bool ?_;cases c with
 | true=>exact hb pins s1 σ H1 Q I1 q1
 | false=>exact⟨.bl false,H1,I1,rfl,q1⟩
theorem pe_or (ha:PE X a ta)(hb:PE X (.BoolOp .Or (b::rest) pos) tb):PE X (.BoolOp .Or (a::b::rest) pos) (tOrV ta tb):=by
 intro pins s σ H Q I h;refine BoolOp_or (thn (ha pins s σ H _ I h) fun v s1 ⟨x,H1,I1,r1,q1⟩=>?_);obtain⟨c,rfl,q1⟩:=q1;cases r1;refine wpAny_truthy_bool ?_;cases c with
 | false=>exact hb pins s1 σ H1 Q I1 q1
 | true=>exact⟨.bl true,H1,I1,rfl,q1⟩
theorem pe_not (ha:PE X a ta):PE X (.UnaryOp .Not a pos) (tNotV ta):=by
 intro pins s σ H Q I h;refine UnaryOp_ (thn (ha pins s σ H _ I h) fun v s1 ⟨x,H1,I1,r1,q1⟩=>?_);obtain⟨c,rfl,q1⟩:=q1;cases r1;exact not_of (wpAny_truthy_bool ⟨.bl (!c),H1,I1,rfl,q1⟩)
def tIf (t:TT)(ta tb:TE):TE:=fun σ H Q=>t σ H fun c H1=>if c=true then ta σ H1 Q else tb σ H1 Q
theorem pe_ifExp {c:Expr}(hc:PT X c tA)(ha:PE X a ta)(hb:PE X b tb):PE X (.IfExp c a b pos) (tIf tA ta tb):=by
 intro pins s σ H Q I h;refine wpAny_IfExp (thn (hc pins s σ H _ I h) fun d s1 ⟨H1,I1,q1⟩=>?_);cases d with
 | true=>exact ha pins s1 σ H1 Q I1 q1
 | false=>exact hb pins s1 σ H1 Q I1 q1
end
end L2
namespace L2
open PySem PySem.Spec PyProof.Rows
def SqL (K:PySem.W.Frag)(H:Hp)(a:Addr)(xs:List V):Prop :=
 Rd H a (.lst xs) \/
  ∃ (o:Obj) (its:Array Value) (n:Nat),K.lookup a=some o/\o.cls=.type "list"/\o.dict=none/\o.data=.seq its n/\its.size<=zn/\Vals xs its.toList
def SqT (K:PySem.W.Frag)(H:Hp)(a:Addr)(xs:List V):Prop :=
 Rd H a (.tup xs) \/
  ∃ (o:Obj) (its:Array Value) (n:Nat),K.lookup a=some o/\o.cls=.type "tuple"/\o.data=.seq its n/\its.size<=zn/\Vals xs its.toList/\o.dict=none/\o.slots = #[]
def absV:Value->Option V
 | .none=>some .non
 | .bool b=>some (.bl b)
 | .int i _=>some (.int i)
 | .str x _=>some (.str x)
 | .bytes b _=>some (.byt b)
 | .float b _=>some (.flt b)
 | .ref a=>some (.ref a)
 | .type n=>some (.ty n)
 | _=>none
theorem RelV.abs {x:V}{u:Value}(r:RelV x u):absV u=some x:=by
 cases x with
 | non=>cases r;rfl
 | bl _=>cases r;rfl
 | int _=>obtain⟨t,rfl⟩:=r;rfl
 | str _=>obtain⟨t,rfl⟩:=r;rfl
 | byt _=>obtain⟨t,rfl⟩:=r;rfl
 | flt _=>obtain⟨t,rfl⟩:=r;rfl
 | ref _=>cases r;rfl
 | ty _=>cases r;rfl
theorem RelV.inj {x y:V}{u:Value}(r:RelV x u)(q:RelV y u):x=y:=Option.some.inj (r.abs.symm.trans q.abs)
theorem Vals.inj:∀ {xs ys:List V} {us:List Value},Vals xs us->Vals ys us->xs=ys
 | _,_,_,.nil,.nil=>rfl
 | _,_,_,.cons r t,.cons r' t'=>by rw[r.inj r',Vals.inj t t']
section
variable {X:Cx}{pins:List (Addr×Obj)}{σ:St}{H:Hp}{s:Shared}{a:Addr}{xs ys:List V}
theorem SqL.of {K:PySem.W.Frag}(h:H a=some (.lst xs)):SqL K H a xs:=.inl (.inl h)
theorem Inv.list (I:Inv X pins σ H s)(h:SqL X.K H a xs):∃ its:List Value,Vals xs its/\PlainL s.heap a its.toArray/\xs.length<=zn:=by
 rcases h with h | ⟨o,its,n,hk,hc,hd,hs,hz,r⟩
 ·obtain⟨z,its,n,r,e⟩:=h.ok I.hok
  exact⟨its,r,⟨_,n,e,rfl,rfl,rfl⟩,z⟩
 ·refine⟨its.toList,r,⟨o,n,I.kIn a o hk,hc,hd,by simpa using hs⟩,?_⟩
  have e:=r.length;simp only[zK]at e;first | lia | omega
theorem Inv.tuple (I:Inv X pins σ H s)(h:SqT X.K H a xs):∃ its:List Value,Vals xs its/\IsTup s.heap a its.toArray/\xs.length<=zn:=by
 rcases h with h | ⟨o,its,n,hk,hc,hs,hz,r,_⟩
 ·obtain⟨z,its,r,p,_⟩:=h.ok I.hok
  exact⟨its,r,p,z⟩
 ·refine⟨its.toList,r,⟨o,I.kIn a o hk,hc,n,by simpa using hs⟩,?_⟩
  have e:=r.length;simp only[zK]at e;first | lia | omega
theorem Inv.tupNoDict (I:Inv X pins σ H s)(h:SqT X.K H a xs):∃ o,s.heap.get? a=some o/\o.dict=none/\o.slots = #[]:=by
 rcases h with h | ⟨o,its,n,hk,hc,hs,hz,r,hd⟩
 ·obtain⟨z,its,r,⟨o,e,_⟩,d⟩:=h.ok I.hok
  exact⟨o,e,d o e⟩
 ·exact⟨o,I.kIn a o hk,hd⟩
theorem Inv.list_inj (I:Inv X pins σ H s)(h:SqL X.K H a xs)(h':SqL X.K H a ys):xs=ys:=by
 obtain⟨its,r,⟨o,n,e,_,_,d⟩,_⟩:=I.list h;obtain⟨its',r',⟨o',n',e',_,_,d'⟩,_⟩:=I.list h';rw[e]at e';cases e';rw[d]at d';injection d' with d1 _
 have:its=its':=by simpa using congrArg vV d1
 subst this;exact r.inj r'
theorem Inv.tuple_inj (I:Inv X pins σ H s)(h:SqT X.K H a xs)(h':SqT X.K H a ys):xs=ys:=by
 obtain⟨its,r,⟨o,e,_,n,d⟩,_⟩:=I.tuple h;obtain⟨its',r',⟨o',e',_,n',d'⟩,_⟩:=I.tuple h';rw[e]at e';cases e';rw[d]at d';injection d' with d1 _
 have:its=its':=by simpa using congrArg vV d1
 subst this;exact r.inj r'
end
abbrev Cx.wish (X:Cx)(E:Value->Shared->Prop):Cx:={ X with xe:=E }
abbrev Cx.nox (X:Cx):Cx:=X.wish fun _ _=>False
theorem Cx.Ok.wish {X:Cx}(ok:X.Ok)(E:Value->Shared->Prop):(X.wish E).Ok :=
 ⟨ok.mod,ok.kind,ok.glob,ok.blt,ok.above,ok.inj,ok.has,ok.cab,ok.hd,ok.frames,ok.stk,ok.exf,ok.bs,ok.bsz,ok.noex,ok.exfs,ok.funs,ok.frf⟩
theorem Cx.Ok.unwish {X:Cx}{E:Value->Shared->Prop}(ok:(X.wish E).Ok):X.Ok :=
 ⟨ok.mod,ok.kind,ok.glob,ok.blt,ok.above,ok.inj,ok.has,ok.cab,ok.hd,ok.frames,ok.stk,ok.exf,ok.bs,ok.bsz,ok.noex,ok.exfs,ok.funs,ok.frf⟩
section
variable {X:Cx}{pins:List (Addr×Obj)}{σ:St}{H:Hp}{s:Shared}{E:Value->Shared->Prop}
theorem Inv.wish (I:Inv X pins σ H s)(E:Value->Shared->Prop):Inv (X.wish E) pins σ H s:=⟨I.ok.wish E,I.os,I.bare,I.base,I.loc,I.cell,I.free,I.freeC,I.pin,I.hok,I.len⟩
theorem Inv.unwish (I:Inv (X.wish E) pins σ H s):Inv X pins σ H s:=⟨I.ok.unwish,I.os,I.bare,I.base,I.loc,I.cell,I.free,I.freeC,I.pin,I.hok,I.len⟩
theorem SP.unwish {D:Ends}{f:Flow}{s':Shared}(h:SP (X.wish E) pins D f s'):SP X pins D f s':=by
 cases f with
 | next=>obtain⟨σ',H',I,q⟩:=h;exact⟨σ',H',I.unwish,q⟩
 | brk=>obtain⟨σ',H',I,q⟩:=h;exact⟨σ',H',I.unwish,q⟩
 | cont=>obtain⟨σ',H',I,q⟩:=h;exact⟨σ',H',I.unwish,q⟩
 | ret u=>obtain⟨v,σ',H',I,r,q⟩:=h;exact⟨v,σ',H',I.unwish,r,q⟩
theorem PSs.nox {st:List Stmt}{t:TS}(h:PSs X.nox st t):PSs X st t:=fun pins s σ H D I hw =>
 wpAny_mono (h pins s σ H D (I.wish _) hw) (fun _ _ q=>q.unwish) fun _ _ z=>False.elim z
end
section
variable {X:Cx}{st:Stmt}{rest:List Stmt}{t u:TS}{e:Expr}{te:TE}{pos:Pos}
def tNext:TS:=fun D σ H=>D.nx σ H
def tSeq (t u:TS):TS:=fun D σ H=>t { D with nx:=u D } σ H
theorem pss_nil:PSs X [] tNext:=fun _ _ σ H _ I h=>wpAny_execs_nil ⟨σ,H,I,h⟩
theorem pss_cons (h1:PS X st t)(h2:PSs X rest u):PSs X (st::rest) (tSeq t u):=by
 intro pins s σ H D I h;refine wpAny_execs_cons (thn (h1 pins s σ H { D with nx:=u D } I h) fun f s1 q=>?_);cases f with
 | next =>
  obtain⟨σ',H',I',q⟩:=q;exact h2 pins s1 σ' H' D I' q
 | ret v=>exact q
 | brk=>exact q
 | cont=>exact q
def tBreak:TS:=fun D σ H=>D.bk σ H
def tCont:TS:=fun D σ H=>D.ct σ H
theorem ps_pass:PS X (.Pass pos) tNext:=fun _ _ σ H _ I h=>wpAny_Pass ⟨σ,H,I,h⟩
theorem ps_break:PS X (.Break pos) tBreak:=fun _ _ σ H _ I h=>wpAny_Break ⟨σ,H,I,h⟩
theorem ps_continue:PS X (.Continue pos) tCont:=fun _ _ σ H _ I h=>wpAny_Continue ⟨σ,H,I,h⟩
theorem Inv.quiet {pins:List (Addr×Obj)}{σ:St}{H:Hp}{s:Shared}(I:Inv X pins σ H s):interactive X.env=false:=by simp[interactive,I.ok.kind]
def tDrop (te:TE):TS:=fun D σ H=>te σ H fun _ H1=>D.nx σ H1
theorem ps_expr (he:PE X e te)(hs:swapsWith e none pos.line X.env=pure false:=by rfl):PS X (.Expr e pos) (tDrop te):=by
 intro pins s σ H D I h;exact wpAny_Expr_any (thn (he pins s σ H _ I h) fun v s1 ⟨x,H1,I1,r1,q1⟩=>⟨σ,H1,I1,q1⟩) I.quiet hs
def tRet (te:TE):TS:=fun D σ H=>te σ H D.rt
theorem ps_ret (he:PE X e te):PS X (.Return (some e) pos) (tRet te):=by
 intro pins s σ H D I h;exact wpAny_Return_some (thn (he pins s σ H _ I h) fun v s1 ⟨x,H1,I1,r1,q1⟩=>⟨x,σ,H1,I1,r1,q1⟩)
def tRetN:TS:=fun D _ H=>D.rt .non H
theorem ps_retN:PS X (.Return none pos) tRetN:=fun _ _ σ H _ I h=>wpAny_Return_none ⟨.non,σ,H,I,rfl,h⟩
def tIfS (c:TT)(t u:TS):TS:=fun D σ H=>c σ H fun b H1=>if b=true then t D σ H1 else u D σ H1
theorem ps_if {c:Expr}{a b:List Stmt}{tc:TT}(hc:PT X c tc)(ha:PSs X a t)(hb:PSs X b u):PS X (.If c a b pos) (tIfS tc t u):=by
 intro pins s σ H D I h;refine wpAny_If (thn (hc pins s σ H _ I h) fun d s1 ⟨H1,I1,q1⟩=>?_);cases d with
 | true=>exact ha pins s1 σ H1 D I1 q1
 | false=>exact hb pins s1 σ H1 D I1 q1
end
abbrev TG:=V->St->Hp->(St->Hp->Prop)->Prop
abbrev TGs:=List V->St->Hp->(St->Hp->Prop)->Prop
def PG (X:Cx)(target:Expr)(t:TG):Prop :=
 ∀ (pins:List (Addr×Obj)) (s:Shared) (σ:St) (H:Hp) (v:V) (u:Value) (Q:St->Hp->Prop),Inv X pins σ H s->RelV v u->t v σ H Q ->
  wpAny (model X.prog X.w) X.A (assign target X.env u) (fun _ s'=>∃ σ' H',Inv X pins σ' H' s'/\Q σ' H') X.xe s
def PGs (X:Cx)(ts:List Expr)(t:TGs):Prop :=
 ∀ (pins:List (Addr×Obj)) (s:Shared) (σ:St) (H:Hp) (vs:List V) (us:List Value) (Q:St->Hp->Prop),Inv X pins σ H s->Vals vs us->t vs σ H Q ->
  wpAny (model X.prog X.w) X.A (assignInOrder ((assignEach ts X.env).map (·.2)) us) (fun _ s'=>∃ σ' H',Inv X pins σ' H' s'/\Q σ' H') X.xe s
abbrev TSet:=V->V->V->Hp->(Hp->Prop)->Prop
def PSet (X:Cx)(t:TSet):Prop :=
 ∀ (pins:List (Addr×Obj)) (s:Shared) (σ:St) (H:Hp) (o i v:V) (ov iv u:Value) (Q:Hp->Prop),Inv X pins σ H s->RelV o ov->RelV i iv->RelV v u->t o i v H Q ->
  wpAny (model X.prog X.w) X.A (setItem ov iv u) (fun _ s'=>∃ H',Inv X pins σ H' s'/\Q H') X.xe s
section
variable {X:Cx}{pos:Pos}
def gName (i:Nat):TG:=fun v σ H Q=>Q (σ.set i (some v)) H
theorem pg_name {i:Nat}{x:Str}(hN:X.N.Nodup)(hi:X.N[i]?=some x)(hx:Loc X.env.scope x)(hf:X.fn x=true\/X.env.scope.names.lookup x=some .local:=by first | exact .inl rfl | exact .inr rfl | assumption):PG X (.Name x pos) (gName i):=by
 intro pins s σ H v u Q I r h;exact wpAny_assign_Name (store_ok I hN hi hx r (fun s' I'=>⟨_,H,I',h⟩) hf)
def gNil:TGs:=fun vs σ H Q=>vs=[]/\Q σ H
def gCons (t:TG)(u:TGs):TGs:=fun vs σ H Q=>∃ v r,vs=v::r/\t v σ H fun σ' H'=>u r σ' H' Q
theorem pgs_nil:PGs X [] gNil:=by
 intro pins s σ H vs us Q I r h;obtain⟨e,h⟩:=h;subst e;cases r;exact assignInOrder_nil ⟨σ,H,I,h⟩
theorem pgs_cons {e:Expr}{es:List Expr}{t:TG}{u:TGs}(h1:PG X e t)(h2:PGs X es u)
  (hs:(assignEach (e::es) X.env).map (·.2)=assign e X.env::(assignEach es X.env).map (·.2):=by rfl):PGs X (e::es) (gCons t u):=by
 intro pins s σ H vs us Q I r h;obtain⟨v,vr,e1,h⟩:=h;subst e1;cases r with
 | cons r rr =>
  rw[hs];refine assignInOrder_cons (thn (h1 pins s σ H _ _ _ I r h) fun _ s1 ⟨σ1,H1,I1,q1⟩=>?_);exact h2 pins s1 σ1 H1 _ _ Q I1 rr q1
def gTup (K:PySem.W.Frag)(n:Nat)(t:TGs):TG:=fun v σ H Q=>∃ a xs,v=.ref a/\SqT K H a xs/\xs.length=n/\t xs σ H Q
theorem pg_tup {es:List Expr}{k:Nat}{t:TGs}{n:Nat}(hc:X.calm=true)(h:PGs X es t)
  (hn:(assignEach es X.env).length=n:=by rfl) (hst:(assignEach es X.env).findIdx? (·.1)=none:=by rfl):PG X (.Tuple es k pos) (gTup X.K n t):=by
 intro pins s σ H v u Q I r hw;obtain⟨a,xs,e1,hq,hl,hw⟩:=hw;subst e1;cases r;obtain⟨its,rv,ht,hz⟩:=I.tuple hq;refine assign_Tuple_tuple (I.ok.hd hc) ht (by simp[hn,<- hl,rv.length]) hst fun h' hx=>?_;have I1:Inv X pins σ H { s with heap:=h' }:=I.kept (t':=s.toks) fun b o e=>hx b o (zB (zi e)) e;exact h pins _ σ H xs _ Q I1 (by simpa using rv) hw
def gSub (to ti:TE)(t:TSet):TG:=fun v σ H Q=>to σ H fun o H1=>ti σ H1 fun i H2=>t o i v H2 fun H3=>Q σ H3
theorem pg_sub {o i:Expr}{to ti:TE}{t:TSet}(ho:PE X o to)(hi:PE X i ti)(hs:PSet X t)
  (ha:∀ v,assign (.Subscript o i pos) X.env v=(do
   let ov <- holding [v] (eval o X.env)
   let iv <- holding [v,ov] (eval i X.env)
   standAt pos
   holding [v,ov,iv] (setItem ov iv v)
   release [v,ov,iv] []):=by intro _;rfl):PG X (.Subscript o i pos) (gSub to ti t):=by
 intro pins s σ H v u Q I r h;rw[ha];refine zz (wpAny_holding (thn (ho pins s σ H _ I h) fun ov s1 ⟨x,H1,I1,r1,q1⟩=>?_));refine zz (wpAny_holding (thn (hi pins s1 σ H1 _ I1 q1) fun iv s2 ⟨y,H2,I2,r2,q2⟩=>?_));refine zz (wpAny_standAt (zz (wpAny_holding (thn (hs pins s2 σ H2 x y v ov iv u _ I2 r1 r2 r q2) fun _ s3 ⟨H3,I3,q3⟩=>?_))));exact wpAny_release ⟨σ,H3,I3,q3⟩
def tAsg (te:TE)(g:TG):TS:=fun D σ H=>te σ H fun x H1=>g x σ H1 D.nx
theorem ps_asg {tg e:Expr}{te:TE}{g:TG}(he:PE X e te)(hg:PG X tg g)(hs:swapsWithSole [tg] e pos.line X.env=pure false:=by rfl)(hw:swappedStores [tg] e X.env=pure none:=by rfl)
  (h1:(assignEach [tg] X.env).map (·.2)=[assign tg X.env]:=by rfl):PS X (.Assign [tg] e pos) (tAsg te g):=by
 intro pins s σ H D I h;refine wpAny_Assign_stores (thn (he pins s σ H _ I h) fun v s1 ⟨x,H1,I1,r1,q1⟩=>?_) hs hw;rw[h1];exact thn (hg pins s1 σ H1 x v _ I1 r1 q1) fun _ s2 q=>q
theorem ps_set {i:Nat}{x:Str}{e:Expr}{te:TE}{pos':Pos}(hN:X.N.Nodup)(hi:X.N[i]?=some x)(hx:Loc X.env.scope x)(he:PE X e te)(hs:swapsWith e (some (.Name x pos')) pos.line X.env=pure false:=by rfl)(hf:X.fn x=true\/X.env.scope.names.lookup x=some .local:=by first | exact .inl rfl | exact .inr rfl | assumption) :
  PS X (.Assign [.Name x pos'] e pos) (tAsg te (gName i)):=by
 intro pins s σ H D I h;refine wpAny_Assign_Name (thn (he pins s σ H _ I h) fun v s1 ⟨y,H1,I1,r1,q1⟩=>?_) hs;exact store_ok I1 hN hi hx r1 (fun s2 I2=>⟨_,H1,I2,q1⟩) hf
end
section
variable {X:Cx}{pos:Pos}
def tWhile (c:TT)(tb:TS):TS:=fun D σ H=>∃ W:Nat->St->Hp->Prop,(∃ m,W m σ H)/\∀ m σ H,W m σ H ->
 c σ H fun b H1=>if b=true then ∃ N:St->Hp->Prop,(∀ σ' H',N σ' H'->∃ m',m' < m/\W m' σ' H')/\tb { D with nx:=N,ct:=N,bk:=D.nx } σ H1 else D.nx σ H1
theorem ps_while {c:Expr}{body:List Stmt}{tc:TT}{tb:TS}(hp:PassesOwn (model X.prog X.w) X.A X.env X.xe)(hc:PT X c tc)(hb:PSs X body tb):PS X (.While c body [] pos) (tWhile tc tb):=by
 intro pins s σ H D I h;obtain⟨W,⟨m0,w0⟩,turn⟩:=h;refine wpAny_While (codeAny_whileLoop (fun n s'=>∃ σ' H',Inv X pins σ' H' s'/\W n σ' H') ?_ m0 ⟨σ,H,I,w0⟩);rintro n s1 ⟨σ1,H1,I1,w1⟩;refine wpAny_passesOwn hp (thn (hc pins s1 σ1 H1 _ I1 (turn n σ1 H1 w1)) fun b s2 ⟨H2,I2,q2⟩=>?_);cases b with
 | true =>
  obtain⟨N,hN,q2⟩:=q2;rw[if_pos rfl];refine wpAny_passesOwn hp (thn (hb pins s2 σ1 H2 _ I2 q2) fun f s3 q3=>?_);cases f with
  | next =>
   obtain⟨σ3,H3,I3,n3⟩:=q3;obtain⟨m',hm,w3⟩:=hN σ3 H3 n3;exact⟨m',hm,σ3,H3,I3,w3⟩
  | cont =>
   obtain⟨σ3,H3,I3,n3⟩:=q3;obtain⟨m',hm,w3⟩:=hN σ3 H3 n3;exact⟨m',hm,σ3,H3,I3,w3⟩
  | brk=>exact q3
  | ret v=>exact q3
 | false =>
  rw[if_neg zo];exact wpAny_execs_nil ⟨σ1,H2,I2,q2⟩
end
structure It where
 go:Nat->Hp->Prop
 yld:Nat->Hp->V->Hp->Prop
 stop:Nat->Hp->Prop
def FpOk (X:Cx)(pins:List (Addr×Obj))(H:Hp)(b:Addr):Prop :=
 H b=none/\b≠X.env.locals/\b ∉ X.fs/\(b∈X.ex\/X.s₀.heap.objs.size<=b)/\(∀ x c,X.env.cells.lookup x=some c->c≠b)/\∀ p∈X.pn++pins,p.1≠b
theorem Inv.fpOk {X:Cx}{pins:List (Addr×Obj)}{σ:St}{H H':Hp}{s:Shared}{b:Addr}(I:Inv X pins σ H s)(hb:s.heap.objs.size<=b)(hn:H' b=none):FpOk X pins H' b:=by
 refine⟨hn,yN (zf I.lt hb),I.nofs hb,.inr (zS I.sz hb),fun x c e z=>?_,fun p hp z=>?_⟩
 ·obtain⟨v,q⟩:=I.cell x c e
  exact absurd (zf q.lt (by rw[z];exact hb)) (yc _)
 ·exact absurd (zf (zi (I.pin p hp).1) (by rw[z];exact hb)) (yc _)
structure Turn (P:Program) (w:World) (K:PySem.W.Frag) (tg:Expr) (J:It) (fp:List Addr) (it:Addr) (tn:Nat->Heap->Prop):Prop where
 mem:it∈fp
 obj:∀ i h,tn i h->∀ b∈fp,∃ o,h.get? b=some o/\∀ v,o.data≠.cell v
 keep:∀ i h h',tn i h->(∀ b∈fp,∀ o,h.get? b=some o->h'.get? b=some o)->tn i h'
 item:∀ (X:Cx),X.prog=P->X.w=w->X.K=K->X.calm=true->∀ (i:Nat) (pins:List (Addr×Obj)) (s:Shared) (σ:St) (H:Hp) (E:Value->Shared->Prop),Inv X pins σ H s->(∀ b∈fp,FpOk X pins H b)->tn i s.heap->J.go i H ->
  wpAny (model P w) X.A (pyNext (.ref it)) (fun r s1=>∃ u,r=some u /\
   wpAny (model P w) X.A (letOwnedTupleGo tg (.ref it) u) (fun _ s2=>∃ x H',Inv X pins σ H' s2/\RelV x u/\J.yld i H x H'/\tn (i + 1) s2.heap/\∀ b∈fp,H' b=none) E s1) E s
 done:∀ (X:Cx),X.prog=P->X.w=w->X.K=K->X.calm=true->∀ (i:Nat) (pins:List (Addr×Obj)) (s:Shared) (σ:St) (H:Hp) (E:Value->Shared->Prop),Inv X pins σ H s->(∀ b∈fp,FpOk X pins H b)->tn i s.heap->J.stop i H ->
  wpAny (model P w) X.A (pyNext (.ref it)) (fun r s1=>r=none/\Inv X pins σ H s1) E s
 self:∀ (A:Around) (i:Nat) (s:Shared) (Q:Value->Shared->Prop) (E:Value->Shared->Prop),tn i s.heap->Q (.ref it) s->wpAny (model P w) A (pyIter (.ref it)) Q E s
abbrev TI:=St->Hp->(It->Hp->Prop)->Prop
def PIE (X:Cx)(pins:List (Addr×Obj))(σ:St)(tg:Expr)(R:It->Hp->Prop)(itv:Value)(s2:Shared):Prop :=
 ∃ (it:Addr) (fp:List Addr) (tn:Nat->Heap->Prop) (J:It) (H':Hp),itv=.ref it/\Inv X pins σ H' s2/\Turn X.prog X.w X.K tg J fp it tn/\tn 0 s2.heap/\(∀ b∈fp,FpOk X pins H' b)/\R J H'
def PI (X:Cx)(tg iter:Expr)(wi:TI):Prop :=
 ∀ (pins:List (Addr×Obj)) (s:Shared) (σ:St) (H:Hp) (R:It->Hp->Prop),Inv X pins σ H s->wi σ H R ->
  wpAny (model X.prog X.w) X.A (eval iter X.env) (fun v s1=>wpAny (model X.prog X.w) X.A (pyIter v) (PIE X pins σ tg R) X.xe s1) X.xe s
theorem go_of {M:Model}{A:Around}{E:Value->Shared->Prop}{s:Shared}{tg:Expr}{it:Addr}{u:Value}{o:Obj}{n:String}{vs:Array Value}{Q:Unit->Shared->Prop}(ho:s.heap.get? it=some o)(hc:o.cls=.type n)(hd:o.data=.fields vs)
  (hn:["enumerate","zip","dict_itemiterator","dict_reverseitemiterator","odict_iterator","itertools.zip_longest","itertools.pairwise"].contains n=false) (hQ:Q () s):wpAny M A (letOwnedTupleGo tg (.ref it) u) Q E s:=by
 unfold letOwnedTupleGo;cases tg <;> first
  | exact zu hQ
  | (cases u <;> first
    | exact zu hQ
    | (refine zz (wpAny_load ho ?_)
       rw[hc,hd];show wpAny M A (if (["enumerate","zip","dict_itemiterator","dict_reverseitemiterator","odict_iterator","itertools.zip_longest","itertools.pairwise"].contains n&&vs[0]?==some (rawInt _))=true then _ else _) Q E s;rw[if_neg (by intro h;rw[hn,vO]at h;cases h)];exact zu hQ))
def Itl (K:PySem.W.Frag)(a:Addr):It :=
 ⟨fun i H=>∃ xs x,SqL K H a xs/\xs[i]?=some x,fun i H x H'=>H'=H/\∀ xs,SqL K H a xs->xs[i]?=some x,fun i H=>∃ xs,SqL K H a xs/\xs.length<=i⟩
def Itt (K:PySem.W.Frag)(a:Addr):It :=
 ⟨fun i H=>∃ xs x,SqT K H a xs/\xs[i]?=some x,fun i H x H'=>H'=H/\∀ xs,SqT K H a xs->xs[i]?=some x,fun i H=>∃ xs,SqT K H a xs/\xs.length<=i⟩
def Itr (lo:Int)(n:Nat):It:=⟨fun i _=>i < n,fun i H x H'=>H'=H/\x=.int (lo + i),fun i _=>n<=i⟩
theorem turn_list {P:Program}{w:World}{K:PySem.W.Frag}{tg:Expr}(a it:Addr):Turn P w K tg (Itl K a) [it] it (fun i h=>h.IsListIter it a i) where
 mem:=by simp
 obj:=fun i h st b hb=>by
  have e:b=it:=by simpa using hb
  subst e;obtain⟨o,e,c,d⟩:=st;exact⟨o,e,fun v z=>by rw[d]at z;cases z⟩
 keep:=fun i h h' st k=>st.at fun o e=>k it (by simp) o e
 item:=by
  intro X hP hw hK hc i pins s σ H E I hf st hg;subst hP hw hK;obtain⟨xs,x,hq,hx⟩:=hg;obtain⟨its,rv,p,hz⟩:=I.list hq;obtain⟨u,hu,ru⟩:=rv.get hx;obtain⟨f0,f1,f2,f3,f4,f5⟩:=hf it (by simp);refine wpAny_pyNext_list_item st p.isList (x:=u) (by simpa using hu) fun h' st' sb=>?_;have I1:Inv X pins σ H { s with heap:=h' }:=I.turned (t':=s.toks) (fun b o hb e=>(sb.2 b hb).trans e) f0 f1 f3 f4 f5;obtain⟨o,e,c,d⟩:=id st';exact⟨u,rfl,go_of (s:={ s with heap:=h' }) e c d (by decide) ⟨x,H,I1,ru,⟨rfl,fun ys hy=>by rw[I.list_inj hy hq];exact hx⟩,st',fun b hb=>(hf b hb).1⟩⟩
 done:=by
  intro X hP hw hK hc i pins s σ H E I hf st hg;subst hP hw hK;obtain⟨xs,hq,hx⟩:=hg;obtain⟨its,rv,p,hz⟩:=I.list hq;obtain⟨f0,f1,f2,f3,f4,f5⟩:=hf it (by simp);have hl:=rv.length;exact wpAny_pyNext_list_end (I.ok.hd hc) st p.isList (by simp;omega) fun h' eb=>⟨rfl,I.turned (t':=s.toks) (fun b o hb e=>eb b o hb e) f0 f1 f3 f4 f5⟩
 self:=fun _ _ _ _ _ st h=>wpAny_pyIter_listiter st h
theorem turn_tuple {P:Program}{w:World}{K:PySem.W.Frag}{tg:Expr}(a it:Addr):Turn P w K tg (Itt K a) [it] it (fun i h=>h.IsTupleIter it a i) where
 mem:=by simp
 obj:=fun i h st b hb=>by
  have e:b=it:=by simpa using hb
  subst e;obtain⟨o,e,c,d⟩:=st;exact⟨o,e,fun v z=>by rw[d]at z;cases z⟩
 keep:=fun i h h' st k=>st.at fun o e=>k it (by simp) o e
 item:=by
  intro X hP hw hK hc i pins s σ H E I hf st hg;subst hP hw hK;obtain⟨xs,x,hq,hx⟩:=hg;obtain⟨its,rv,p,hz⟩:=I.tuple hq;obtain⟨u,hu,ru⟩:=rv.get hx;obtain⟨f0,f1,f2,f3,f4,f5⟩:=hf it (by simp);refine wpAny_pyNext_tuple_item st (show s.heap.IsTuple a its.toArray from p) (x:=u) (by simpa using hu) fun h' st' sb=>?_;have I1:Inv X pins σ H { s with heap:=h' }:=I.turned (t':=s.toks) (fun b o hb e=>(sb.2 b hb).trans e) f0 f1 f3 f4 f5;obtain⟨o,e,c,d⟩:=id st';exact⟨u,rfl,go_of (s:={ s with heap:=h' }) e c d (by decide) ⟨x,H,I1,ru,⟨rfl,fun ys hy=>by rw[I.tuple_inj hy hq];exact hx⟩,st',fun b hb=>(hf b hb).1⟩⟩
 done:=by
  intro X hP hw hK hc i pins s σ H E I hf st hg;subst hP hw hK;obtain⟨xs,hq,hx⟩:=hg;obtain⟨its,rv,p,hz⟩:=I.tuple hq;obtain⟨f0,f1,f2,f3,f4,f5⟩:=hf it (by simp);have hl:=rv.length;exact wpAny_pyNext_tuple_end (I.ok.hd hc) st (show s.heap.IsTuple a its.toArray from p) (by simp;omega) fun h' eb=>⟨rfl,I.turned (t':=s.toks) (fun b o hb e=>eb b o hb e) f0 f1 f3 f4 f5⟩
 self:=fun _ _ _ _ _ st h=>wpAny_pyIter_tupleiter st h
theorem turn_range {P:Program}{w:World}{K:PySem.W.Frag}{tg:Expr}(it:Addr)(lo:Int)(n:Nat):Turn P w K tg (Itr lo n) [it] it (fun i h=>IsRangeIter h it (lo + (i:Nat) * 1) ((n:Int) - (i:Nat)) 1) where
 mem:=by simp
 obj:=fun i h st b hb=>by
  have e:b=it:=by simpa using hb
  subst e;exact⟨_,st,fun v z=>by
   have z':Data.fields _=Data.cell v:=z;cases z'⟩
 keep:=fun i h h' st k=>k it (by simp) _ st
 item:=by
  intro X hP hw hK hc i pins s σ H E I hf st hg;subst hP hw hK;obtain⟨f0,f1,f2,f3,f4,f5⟩:=hf it (by simp);have W:=Walks.range (prog:=X.prog) (w:=X.w) (I.ok.hd hc) it lo 1 n;refine W.item i s _ _ hg st fun v h' tk hv st' kk=>?_;obtain⟨t,rfl⟩:=hv;have I1:Inv X pins σ H { s with heap:=h',toks:=tk }:=I.turned (fun b o hb e=>kk b o (by simpa using hb) e) f0 f1 f3 f4 f5;refine⟨_,rfl,go_of (s:={ s with heap:=h',toks:=tk }) (n:="range_iterator") st' rfl rfl (by decide) ⟨.int (lo + i),H,I1,⟨t,?_⟩,⟨rfl,rfl⟩,st',fun b hb=>(hf b hb).1⟩⟩;rw[vH]
 done:=by
  intro X hP hw hK hc i pins s σ H E I hf st hg;subst hP hw hK;obtain⟨f0,f1,f2,f3,f4,f5⟩:=hf it (by simp);exact wpAny_pyNext_range_end (I.ok.hd hc) st (by have:n<=i:=hg;omega) fun h' eb=>⟨rfl,I.turned (t':=s.toks) (fun b o hb e=>eb b o hb e) f0 f1 f3 f4 f5⟩
 self:=fun _ _ _ _ _ st h=>wpAny_pyIter_rangeiter st h
end L2
namespace L2
open PySem PySem.Spec PyProof.Rows
section
variable {X:Cx}{tg:Expr}
theorem range_it {pins:List (Addr×Obj)}{σ:St}{H:Hp}{s:Shared}{R:It->Hp->Prop}{E:Value->Shared->Prop}{lo hi:Int}{t u v:Tok}{tk:Nat}(I:Inv X pins σ H s)(h1:-(2 ^ 62)<=lo)(h2:lo < 2 ^ 62)(h3:-(2 ^ 62)<=hi)(h4:hi < 2 ^ 62)
  (q:R (Itr lo (hi - lo).toNat) H):wpAny (model X.prog X.w) X.A (pyIter (.ref s.heap.objs.size)) (PIE X pins σ tg R) E { s with heap:=s.heap.push { cls:=.type "range",data:=.fields #[.int lo t,.int hi u,.int 1 v] },toks:=tk }:=by
 refine wpAny_pyIter_range (IsRange.new ..) (small_one h1 h2 h3 h4) ?_;have I1:Inv X pins σ H { s with heap:=s.heap.push { cls:=.type "range",data:=.fields #[.int lo t,.int hi u,.int 1 v] },toks:=tk }:=I.kept fun b o e=>zv _ e;refine⟨(s.heap.push { cls:=.type "range",data:=.fields #[.int lo t,.int hi u,.int 1 v] }).objs.size,[(s.heap.push { cls:=.type "range",data:=.fields #[.int lo t,.int hi u,.int 1 v] }).objs.size],_,_,H,rfl,
  I1.kept (t':=tk) fun b o e=>zv _ e,turn_range _ lo (hi - lo).toNat,?_,fun b hb=>?_,q⟩
 ·have e1:lo + ((0:Nat):Int) * 1=lo:=by simp
  have e2:(((hi - lo).toNat:Nat):Int) - ((0:Nat):Int)=Builtin.Range.rangeSize lo hi 1:=by rw[rangeSize_one];split <;> omega
  show IsRangeIter _ _ (lo + ((0:Nat):Int) * 1) ((((hi - lo).toNat:Nat):Int) - ((0:Nat):Int)) 1;rw[e1,e2];exact zj _ rfl
 ·have e:b=(s.heap.push { cls:=.type "range",data:=.fields #[.int lo t,.int hi u,.int 1 v] }).objs.size:=by simpa using hb
  subst e;exact I1.fpOk (zp _) (I1.hok.fresh (zp _))
def iRng1 (ta:TA):TI:=fun σ H R=>ta σ H fun vs H1=>∃ j:Int,vs=[.int j]/\-(2 ^ 62)<=j/\j < 2 ^ 62/\R (Itr 0 j.toNat) H1
def iRng2 (ta:TA):TI:=fun σ H R=>ta σ H fun vs H1=>∃ i j:Int,vs=[.int i,.int j]/\(-(2 ^ 62)<=i/\i < 2 ^ 62/\-(2 ^ 62)<=j/\j < 2 ^ 62)/\R (Itr i (j - i).toNat) H1
theorem pi_range1 {a:Expr}{ta:TA}{p pos:Pos}(hg:Gl X "range")(hm:X.mg "range" = none)(ha:PA X [a] ta)(hs:starEach [a] X.env=[(false,eval a X.env)]:=by rfl):PI X tg (.Call (.Name "range" p) [a] [] pos) (iRng1 ta):=by
 intro pins s σ H R I h;refine Call_ (ld_blt I hg hm boot_range (PyProof.Rows.callWith_type1 (thn (ha pos pins s σ H _ I h) fun us s1 ⟨vs,H1,I1,r1,q1⟩=>?_) hs rfl));obtain⟨j,e,q1,q2,q⟩:=q1;subst e;cases r1 with
 | cons r rr =>
  cases rr;obtain⟨t,rfl⟩:=r;exact call_range_1 (range_it I1 (by first | lia | omega) (by first | lia | omega) q1 q2 (by simpa using q))
theorem pi_range2 {a b:Expr}{ta:TA}{p pos:Pos}(hg:Gl X "range")(hm:X.mg "range" = none)(ha:PA X [a,b] ta)(hs:starEach [a,b] X.env=[(false,eval a X.env),(false,eval b X.env)]:=by rfl)(hs2:starEach [b] X.env=[(false,eval b X.env)]:=by rfl) :
  PI X tg (.Call (.Name "range" p) [a,b] [] pos) (iRng2 ta):=by
 intro pins s σ H R I h;refine Call_ (ld_blt I hg hm boot_range (PyProof.Rows.callWith_type1 (thn (ha pos pins s σ H _ I h) fun us s1 ⟨vs,H1,I1,r1,q1⟩=>?_) (by rw[hs,hs2]) (by rw[hs2];rfl)));obtain⟨i,j,e,⟨q1,q2,q3,q4⟩,q⟩:=q1;subst e;cases r1 with
 | cons r rr =>
  cases rr with
  | cons r' rr =>
   cases rr;obtain⟨t,rfl⟩:=r;obtain⟨t',rfl⟩:=r';exact call_range_2 (range_it I1 q1 q2 q3 q4 q)
def tFor (wi:TI)(g:TG)(tb:TS):TS:=fun D σ H=>wi σ H fun J H1=>∃ W:Nat->Nat->St->Hp->Prop,(∃ m,W 0 m σ H1)/\∀ i m σ H,W i m σ H ->
 (J.stop i H/\D.nx σ H)\/(J.go i H/\∃ N:St->Hp->Prop,(∀ σ' H',N σ' H'->∃ m',m' < m/\W (i + 1) m' σ' H')/\∀ x H',J.yld i H x H'->g x σ H' fun σ2 H2=>tb { D with nx:=N,ct:=N,bk:=D.nx } σ2 H2)
def pinsAt (fp:List Addr)(h:Heap):List (Addr×Obj):=fp.filterMap fun b=>(h.get? b).map fun o=>(b,o)
theorem mem_pinsAt {fp:List Addr}{h:Heap}{b:Addr}{o:Obj}(hb:b∈fp)(e:h.get? b=some o):(b,o)∈pinsAt fp h:=vv.mpr ⟨b,hb,by rw[e];rfl⟩
theorem of_pinsAt {fp:List Addr}{h:Heap}{p:Addr×Obj}(hp:p∈pinsAt fp h):p.1∈fp/\h.get? p.1=some p.2:=by
 obtain⟨b,hb,e⟩:=vv.mp hp;cases q:h.get? b with
 | none=>rw[q]at e;cases e
 | some o =>
  rw[q]at e;have e':(b,o)=p:=Option.some.inj e;subst e';exact⟨hb,q⟩
theorem Inv.pinned {pins:List (Addr×Obj)}{σ:St}{H:Hp}{s:Shared}{fp:List Addr}(I:Inv X pins σ H s)(hf:∀ b∈fp,FpOk X pins H b)(ho:∀ b∈fp,∃ o,s.heap.get? b=some o/\∀ v,o.data≠.cell v):Inv X (pins++pinsAt fp s.heap) σ H s :=
 I.pins_of fun p hp=>(zG.mp hp).elim (fun z=>I.pin p (zb _ z)) fun z=>by
  obtain⟨hb,e⟩:=of_pinsAt z;obtain⟨f0,f1,f2,_⟩:=hf p.1 hb;obtain⟨o,e',d⟩:=ho p.1 hb;rw[e]at e';cases e';exact⟨e,f0,f1,f2,d⟩
theorem Inv.unpinned {pins pl:List (Addr×Obj)}{σ:St}{H:Hp}{s:Shared}(I:Inv X (pins++pl) σ H s):Inv X pins σ H s:=I.pins_of fun p hp=>I.pin p (zb _ (yw _ hp))
theorem ps_for {iter:Expr}{body:List Stmt}{wi:TI}{g:TG}{tb:TS}{pos:Pos}(hp:PassesOwn (model X.prog X.w) X.A X.env X.xe)(hc:X.calm=true)(hi:PI X tg iter wi)(hg:PG X tg g)(hb:PSs X body tb)
  (hs:∀ x,foldedSetIterable iter X.env x=pure x:=by intro _;rfl):PS X (.For tg iter body [] pos) (tFor wi g tb):=by
 intro pins s σ H D I h;refine wpAny_For (thn (hi pins s σ H _ I h) fun v s1 h1=>thn h1 fun itv s2 h2=>?_) hs;obtain⟨it,fp,tn,J,H2,e,I2,T,st2,f2,W,⟨m0,w0⟩,turn⟩:=h2;subst e;have stat:∀ {H':Hp},(∀ b∈fp,H' b=none)->∀ b∈fp,FpOk X pins H' b:=fun hn b hb=>⟨hn b hb,(f2 b hb).2⟩;refine codeAny_forLoop_any (fun n s'=>∃ i σ' H',Inv X pins σ' H' s'/\tn i s'.heap/\(∀ b∈fp,H' b=none)/\W i n σ' H') ?_ m0 ⟨0,σ,H2,I2,st2,fun b hb=>(f2 b hb).1,w0⟩;rintro n s3 ⟨i,σ3,H3,I3,st3,fr3,w3⟩;rcases turn i n σ3 H3 w3 with ⟨stop,qn⟩|⟨go,N,hN,step⟩
 ·refine wpAny_passesOwn hp (thn (T.done X rfl rfl rfl hc i pins s3 σ3 H3 X.xe I3 (stat fr3) st3 stop) fun r s4 ⟨hr,I4⟩=>?_)
  subst hr;exact wpAny_execs_nil ⟨σ3,H3,I4,qn⟩
 ·refine wpAny_passesOwn hp (thn (T.item X rfl rfl rfl hc i pins s3 σ3 H3 X.xe I3 (stat fr3) st3 go) fun r s4 ⟨u,hr,h4⟩=>?_)
  subst hr;refine wpAny_passesOwn hp (thn h4 fun _ s5 ⟨x,H5,I5,r5,y5,st5,fr5⟩=>?_);have I5':=I5.pinned (stat fr5) (T.obj _ _ st5);refine wpAny_passesOwn hp (thn (hg _ s5 σ3 H5 x u _ I5' r5 (step x H5 y5)) fun _ s6 ⟨σ6,H6,I6,q6⟩=>?_);refine wpAny_passesOwn hp (thn (hb _ s6 σ6 H6 _ I6 q6) fun f s7 q7=>?_);have again:∀ {σ7:St} {H7:Hp},Inv X (pins++pinsAt fp s5.heap) σ7 H7 s7->N σ7 H7->∃ m,m < n/\∃ i σ' H',Inv X pins σ' H' s7/\tn i s7.heap/\(∀ b∈fp,H' b=none)/\W i m σ' H':=fun {σ7 H7} I7 n7=>by
   obtain⟨m',hm,w7⟩:=hN σ7 H7 n7;refine⟨m',hm,i + 1,σ7,H7,I7.unpinned,T.keep _ _ _ st5 fun b hb o e=>(I7.pin (b,o) (zb _ (zb _ (mem_pinsAt hb e)))).1,fun b hb=>?_,w7⟩;obtain⟨o,e,d⟩:=T.obj _ _ st5 b hb;exact(I7.pin (b,o) (zb _ (zb _ (mem_pinsAt hb e)))).2.1
  cases f with
  | next=>obtain⟨σ7,H7,I7,n7⟩:=q7;exact again I7 n7
  | cont=>obtain⟨σ7,H7,I7,n7⟩:=q7;exact again I7 n7
  | brk=>obtain⟨σ7,H7,I7,q7⟩:=q7;exact⟨σ7,H7,I7.unpinned,q7⟩
  | ret v=>obtain⟨x7,σ7,H7,I7,r7,q7⟩:=q7;exact⟨x7,σ7,H7,I7.unpinned,r7,q7⟩
end
end L2
namespace L2
open PySem PySem.Spec PyProof.Rows
abbrev R2:=V->V->Hp->VK->Prop
def OpR (X:Cx)(f:Value->Value->Sem Value)(r:R2):Prop :=
 ∀ (pins:List (Addr×Obj)) (s:Shared) (σ:St) (H:Hp) (x y:V) (v u:Value) (Q:VK),Inv X pins σ H s->RelV x v->RelV y u->r x y H Q ->
  wpAny (model X.prog X.w) X.A (f v u) (EP X pins σ Q) X.xe s
def UnR (X:Cx)(f:Value->Sem Value)(r:V->Hp->VK->Prop):Prop :=
 ∀ (pins:List (Addr×Obj)) (s:Shared) (σ:St) (H:Hp) (x:V) (v:Value) (Q:VK),Inv X pins σ H s->RelV x v->r x H Q ->
  wpAny (model X.prog X.w) X.A (f v) (EP X pins σ Q) X.xe s
def CallR (X:Cx)(f:Value)(r:List V->Hp->VK->Prop):Prop :=
 ∀ (pins:List (Addr×Obj)) (s:Shared) (σ:St) (H:Hp) (xs:List V) (us:List Value) (Q:VK),Inv X pins σ H s->Vals xs us->r xs H Q ->
  wpAny (model X.prog X.w) X.A (call f us) (EP X pins σ Q) X.xe s
def TruR (X:Cx)(r:V->Hp->(Bool->Hp->Prop)->Prop):Prop :=
 ∀ (pins:List (Addr×Obj)) (s:Shared) (σ:St) (H:Hp) (x:V) (v:Value) (Q:Bool->Hp->Prop),Inv X pins σ H s->RelV x v->r x H Q ->
  wpAny (model X.prog X.w) X.A (truthy v) (TP X pins σ Q) X.xe s
def tOp (r:R2)(ta tb:TE):TE:=fun σ H Q=>ta σ H fun x H1=>tb σ H1 fun y H2=>r x y H2 Q
def tUn (r:V->Hp->VK->Prop)(ta:TE):TE:=fun σ H Q=>ta σ H fun x H1=>r x H1 Q
def rI (C:Int->Int->Prop)(g:Int->Int->V):R2:=fun x y H Q=>∃ i j,x=.int i/\y=.int j/\C i j/\Q (g i j) H
def rI0 (g:Int->Int->V):R2:=fun x y H Q=>∃ i j,x=.int i/\y=.int j/\Q (g i j) H
def rU (g:Int->V):V->Hp->VK->Prop:=fun x H Q=>∃ i,x=.int i/\Q (g i) H
section
variable {X:Cx}{a b c:Expr}{ta tb tc:TE}{pos:Pos}
theorem binT (ha:PE X a ta)(hb:PE X b tb){pins:List (Addr×Obj)}{s:Shared}{σ:St}{H:Hp}{R:V->V->Hp->Prop}(I:Inv X pins σ H s)
  (h:ta σ H fun x H1=>tb σ H1 fun y H2=>R x y H2) {Q:Value->Shared->Prop} {f:Value->Value->Sem Value}
  (hf:∀ v u s2 x y H2,Inv X pins σ H2 s2->RelV x v->RelV y u->R x y H2->wpAny (model X.prog X.w) X.A (f v u) Q X.xe s2) :
  wpAny (model X.prog X.w) X.A (eval a X.env) (fun v s₁=>wpAny (model X.prog X.w) X.A (eval b X.env) (fun u s₂=>wpAny (model X.prog X.w) X.A (f v u) Q X.xe s₂) X.xe s₁) X.xe s:=by
 refine thn (ha pins s σ H _ I h) fun v s1 ⟨x,H1,I1,r1,q1⟩=>?_;refine thn (hb pins s1 σ H1 _ I1 q1) fun u s2 ⟨y,H2,I2,r2,q2⟩=>?_;exact hf v u s2 x y H2 I2 r1 r2 q2
theorem pe_op {op:Operator}{r:R2}(ho:OpR X (binaryOp op) r)(ha:PE X a ta)(hb:PE X b tb):PE X (.BinOp a op b pos) (tOp r ta tb):=by
 intro pins s σ H Q I h;exact wpAny_BinOp (binT ha hb I h fun v u s2 x y H2 I2 rx ry q=>ho pins s2 σ H2 x y v u Q I2 rx ry q)
theorem pe_un {op:UnaryOp}{r:V->Hp->VK->Prop}(ho:UnR X (unaryOp op) r)(ha:PE X a ta):PE X (.UnaryOp op a pos) (tUn r ta):=by
 intro pins s σ H Q I h;exact UnaryOp_ (thn (ha pins s σ H _ I h) fun v s1 ⟨x,H1,I1,r1,q1⟩=>ho pins s1 σ H1 x v Q I1 r1 q1)
theorem opI {f:Value->Value->Sem Value}{C:Int->Int->Prop}{g:Int->Int->Int}
  (rule:∀ (i j:Int) (t u:Tok) (s:Shared) (Q:Value->Shared->Prop) (E:Value->Shared->Prop),C i j->Q (.int (g i j) s.toks) { s with toks:=s.toks + 1 }->wpAny (model X.prog X.w) X.A (f (.int i t) (.int j u)) Q E s) :
  OpR X f (rI C fun i j=>.int (g i j)):=by
 intro pins s σ H x y v u Q I rx ry h;obtain⟨i,j,rfl,rfl,hc,q⟩:=h;obtain⟨t,rfl⟩:=rx;obtain⟨t',rfl⟩:=ry;exact rule i j t t' s _ _ hc ⟨.int (g i j),H,I.tok _,⟨_,rfl⟩,q⟩
theorem opI0 {f:Value->Value->Sem Value}{g:Int->Int->Int}
  (rule:∀ (i j:Int) (t u:Tok) (s:Shared) (Q:Value->Shared->Prop) (E:Value->Shared->Prop),Q (.int (g i j) s.toks) { s with toks:=s.toks + 1 }->wpAny (model X.prog X.w) X.A (f (.int i t) (.int j u)) Q E s) :
  OpR X f (rI0 fun i j=>.int (g i j)):=by
 intro pins s σ H x y v u Q I rx ry h;obtain⟨i,j,rfl,rfl,q⟩:=h;obtain⟨t,rfl⟩:=rx;obtain⟨t',rfl⟩:=ry;exact rule i j t t' s _ _ ⟨.int (g i j),H,I.tok _,⟨_,rfl⟩,q⟩
theorem opB0 {f:Value->Value->Sem Value}{g:Int->Int->Bool}
  (rule:∀ (i j:Int) (t u:Tok) (s:Shared) (Q:Value->Shared->Prop) (E:Value->Shared->Prop),Q (.bool (g i j)) s->wpAny (model X.prog X.w) X.A (f (.int i t) (.int j u)) Q E s) :
  OpR X f (rI0 fun i j=>.bl (g i j)):=by
 intro pins s σ H x y v u Q I rx ry h;obtain⟨i,j,rfl,rfl,q⟩:=h;obtain⟨t,rfl⟩:=rx;obtain⟨t',rfl⟩:=ry;exact rule i j t t' s _ _ ⟨.bl (g i j),H,I,rfl,q⟩
def CDiv (i j:Int):Prop:=0 < j/\j < 1073741824
def CPow (i j:Int):Prop:=0<=j/\j<=1000000/\i.natAbs < 2 ^ 64
def CMul (i j:Int):Prop:=(-(2 ^ 64) < i/\i < 2 ^ 64)\/(-(2 ^ 64) < j/\j < 2 ^ 64)
theorem CMul.ok {i j:Int}(h:CMul i j):IntMulOk i j:=by
 rcases h with ⟨h1,h2⟩|⟨h1,h2⟩
 ·exact .of_left (intBits_le_64 h1 h2)
 ·exact .of_right (intBits_le_64 h1 h2)
theorem op_add:OpR X (binaryOp .Add) (rI0 fun i j=>.int (i + j)):=opI0 fun _ _ _ _ _ _ _ q=>add_int q
theorem op_sub:OpR X (binaryOp .Sub) (rI0 fun i j=>.int (i - j)):=opI0 fun _ _ _ _ _ _ _ q=>sub_int q
theorem op_mul:OpR X (binaryOp .Mult) (rI CMul fun i j=>.int (i * j)):=opI fun _ _ _ _ _ _ _ hc q=>mul_int q hc.ok
theorem op_fdiv:OpR X (binaryOp .FloorDiv) (rI CDiv fun i j=>.int (i / j)):=opI fun i j _ _ _ _ _ hc q=>by
 have h1:(0:Int) < j:=hc.1;have h2:j < 1073741824:=hc.2;exact floordiv_int (by first | lia | omega) (by rw[Int.fdiv_eq_ediv_of_nonneg i (by first | lia | omega)];exact q) (.inl (PyProof.noPylong_small (by first | lia | omega)))
theorem op_mod:OpR X (binaryOp .Mod) (rI (fun _ j=>0 < j) fun i j=>.int (i % j)):=opI fun i j _ _ _ _ _ hc q=>by
 have h1:(0:Int) < j:=hc;exact mod_int' (by first | lia | omega) (by rw[Int.fmod_eq_emod_of_nonneg i (by first | lia | omega)];exact q)
theorem op_pow:OpR X (binaryOp .Pow) (rI CPow fun i j=>.int (i ^ j.toNat)):=opI fun _ _ _ _ _ _ _ hc q=>pow_int_small hc.1 hc.2.1 hc.2.2 q
theorem unI {f:Value->Sem Value}{g:Int->Int}
  (rule:∀ (i:Int) (t:Tok) (s:Shared) (Q:Value->Shared->Prop) (E:Value->Shared->Prop),Q (.int (g i) s.toks) { s with toks:=s.toks + 1 }->wpAny (model X.prog X.w) X.A (f (.int i t)) Q E s) :
  UnR X f (rU fun i=>.int (g i)):=by
 intro pins s σ H x v Q I rx h;obtain⟨i,rfl,q⟩:=h;obtain⟨t,rfl⟩:=rx;exact rule i t s _ _ ⟨.int (g i),H,I.tok _,⟨_,rfl⟩,q⟩
theorem un_neg:UnR X (unaryOp .USub) (rU fun i=>.int (-i)):=unI fun _ _ _ _ _ q=>neg_int q
end
section
variable {X:Cx}{a b c:Expr}{ta tb tc:TE}{pos:Pos}
theorem fin_bl {pins:List (Addr×Obj)}{σ:St}{H:Hp}{s:Shared}{Q:VK}{k k':Bool}(I:Inv X pins σ H s)(q:Q (.bl k) H)(e:k=k'):EP X pins σ Q (.bool k') s:=by
 subst e;exact⟨.bl k,H,I,rfl,q⟩
theorem op_lt:OpR X (compareOp .Lt) (rI0 fun i j=>.bl (decide (i < j))):=opB0 fun _ _ _ _ _ _ _ q=>lt_int q
theorem op_le:OpR X (compareOp .LtE) (rI0 fun i j=>.bl (decide (i<=j))):=opB0 fun _ _ _ _ _ _ _ q=>le_int q
theorem op_gt:OpR X (compareOp .Gt) (rI0 fun i j=>.bl (decide (j < i))):=opB0 fun _ _ _ _ _ _ _ q=>gt_int q
theorem op_ge:OpR X (compareOp .GtE) (rI0 fun i j=>.bl (decide (j<=i))):=opB0 fun _ _ _ _ _ _ _ q=>ge_int q
theorem op_lt_str:OpR X (compareOp .Lt) (fun x y H Q=>∃ i j,x=.str i/\y=.str j/\Q (.bl (decide (i.cps.toList < j.cps.toList))) H):=by
 intro pins s σ H x y v u Q I rx ry h;obtain⟨i,j,rfl,rfl,q⟩:=h;obtain⟨t,rfl⟩:=rx;obtain⟨t',rfl⟩:=ry;exact lt_str (fin_bl I q rfl)
theorem op_in_str:OpR X (compareOp .In) (fun x y H Q=>∃ i j,x=.str i/\y=.str j/\Q (.bl (!(Builtin.Str.occurrences j i 0 j.length 1).isEmpty)) H):=by
 intro pins s σ H x y v u Q I rx ry h;obtain⟨i,j,rfl,rfl,q⟩:=h;obtain⟨t,rfl⟩:=rx;obtain⟨t',rfl⟩:=ry;exact in_str (fin_bl I q rfl)
theorem op_isN:OpR X (compareOp .Is) (fun x y H Q=>y=.non/\Q (.bl (decide (x=.non))) H):=by
 intro pins s σ H x y v u Q I rx ry h;obtain⟨rfl,q⟩:=h;cases ry;refine is_none_gen (fin_bl I q ?_);cases x <;> first
  | (cases rx;rfl)
  | (obtain⟨t,rfl⟩:=rx;rfl)
theorem op_notN:OpR X (compareOp .IsNot) (fun x y H Q=>y=.non/\Q (.bl (!decide (x=.non))) H):=by
 intro pins s σ H x y v u Q I rx ry h;obtain⟨rfl,q⟩:=h;cases ry;refine isnot_none_gen (fin_bl I q ?_);cases x <;> first
  | (cases rx;rfl)
  | (obtain⟨t,rfl⟩:=rx;rfl)
theorem op_notin_str:OpR X (compareOp .NotIn) (fun x y H Q=>∃ i j,x=.str i/\y=.str j/\Q (.bl (!(!(Builtin.Str.occurrences j i 0 j.length 1).isEmpty))) H):=by
 intro pins s σ H x y v u Q I rx ry h;obtain⟨i,j,rfl,rfl,q⟩:=h;obtain⟨t,rfl⟩:=rx;obtain⟨t',rfl⟩:=ry;exact notIn_str (fin_bl I q rfl)
theorem pe_cmpR {op:CmpOp}{r:R2}(ho:OpR X (compareOp op) r)(ha:PE X a ta)(hb:PE X b tb)(hm:behindInMarks op b=false):PE X (.Compare a [op] [b] pos) (tOp r ta tb):=by
 intro pins s σ H Q I h;exact wpAny_Compare1 (binT ha hb I h fun v u s2 x y H2 I2 rx ry q=>ho pins s2 σ H2 x y v u Q I2 rx ry q) hm
def tTest (t:TE):TT:=fun σ H Q=>t σ H fun x H'=>∃ k,x=.bl k/\Q k H'
theorem pt_cmpR {op:CmpOp}{r:R2}(ho:OpR X (compareOp op) r)(ha:PE X a ta)(hb:PE X b tb)(hm:behindInMarks op b=false):PT X (.Compare a [op] [b] pos) (tTest (tOp r ta tb)):=by
 intro pins s σ H Q I h;refine wpAny_isTrue_Compare1 (thn (ha pins s σ H _ I h) fun v s1 ⟨x,H1,I1,r1,q1⟩=>thn (hb pins s1 σ H1 _ I1 q1) fun u s2 ⟨y,H2,I2,r2,q2⟩ =>
  thn (ho pins s2 σ H2 x y v u _ I2 r1 r2 q2) fun c s3 ⟨z,H3,I3,r3,k,e,q3⟩=>?_) hm
 subst e;cases r3;exact wpAny_truthy_bool ⟨H3,I3,q3⟩
def tChain (r r':R2)(ta tb tc:TE):TE:=fun σ H Q=>ta σ H fun x H1=>tb σ H1 fun y H2=>r x y H2 fun z H3=>∃ k,z=.bl k /\
 (if k=true then tc σ H3 fun w' H4=>r' y w' H4 Q else Q (.bl false) H3)
theorem pe_chain {op op':CmpOp}{r r':R2}(ho:OpR X (compareOp op) r)(ho':OpR X (compareOp op') r')(ha:PE X a ta)(hb:PE X b tb)(hc:PE X c tc)
  (hm:lastMarks [op,op'] [b,c]=false:=by with_unfolding_all rfl):PE X (.Compare a [op,op'] [b,c] pos) (tChain r r' ta tb tc):=by
 intro pins s σ H Q I h;refine Compare_chain (thn (ha pins s σ H _ I h) fun v s1 ⟨x,H1,I1,r1,q1⟩=>chain_link (thn (hb pins s1 σ H1 _ I1 q1) fun u s2 ⟨y,H2,I2,r2,q2⟩ =>
  thn (ho pins s2 σ H2 x y v u _ I2 r1 r2 q2) fun d s3 ⟨z,H3,I3,r3,k,e,q3⟩=>?_)) hm
 subst e;cases r3;refine wpAny_truthy_bool ?_;cases k with
 | false=>exact ite_ff ⟨.bl false,H3,I3,rfl,q3⟩
 | true=>exact ite_tt (chain_last (thn (hc pins s3 σ H3 _ I3 q3) fun w' s4 ⟨z',H4,I4,r4,q4⟩=>ho' pins s4 σ H4 y z' u w' Q I4 r2 r4 q4))
theorem pt_chain {op op':CmpOp}{r r':R2}(ho:OpR X (compareOp op) r)(ho':OpR X (compareOp op') r')(ha:PE X a ta)(hb:PE X b tb)(hc:PE X c tc)
  (hm:lastMarks [op,op'] [b,c]=false:=by with_unfolding_all rfl):PT X (.Compare a [op,op'] [b,c] pos) (tTest (tChain r r' ta tb tc)):=by
 intro pins s σ H Q I h;refine isTrue_chain (thn (ha pins s σ H _ I h) fun v s1 ⟨x,H1,I1,r1,q1⟩=>test_link (thn (hb pins s1 σ H1 _ I1 q1) fun u s2 ⟨y,H2,I2,r2,q2⟩ =>
  thn (ho pins s2 σ H2 x y v u _ I2 r1 r2 q2) fun d s3 ⟨z,H3,I3,r3,k,e,q3⟩=>?_)) hm
 subst e;cases r3;refine wpAny_truthy_bool ?_;cases k with
 | false =>
  obtain⟨k',e',q'⟩:=q3;cases e';exact ite_ff ⟨H3,I3,q'⟩
 | true =>
  refine ite_tt (test_last (thn (hc pins s3 σ H3 _ I3 q3) fun w' s4 ⟨z',H4,I4,r4,q4⟩=>thn (ho' pins s4 σ H4 y z' u w' _ I4 r2 r4 q4) fun d' s5 ⟨z2,H5,I5,r5,k2,e2,q5⟩=>?_));subst e2;cases r5;exact wpAny_truthy_bool ⟨H5,I5,q5⟩
def TruV (K:PySem.W.Frag)(x:V)(H:Hp)(k:Bool):Prop :=
 match x with
 | .non=>k=false
 | .bl b=>k=b
 | .int i=>k=(i != 0)
 | .str y=>y.length<=zn/\k=((y.length:Int) != 0)
 | .byt y=>y.size<=zn/\k=((y.size:Int) != 0)
 | .ref p=>(∃ xs,SqL K H p xs/\k = !xs.isEmpty)\/(∃ xs,SqT K H p xs/\k = !xs.isEmpty)\/∃ kvs,H p=some (.dK kvs)/\k = !kvs.isEmpty
 | _=>False
theorem isEmpty_kv {κ:Type}{kvs:List (κ×V)}{vs:List (κ×Value)}(r:KV kvs vs):(!vs.isEmpty) = !kvs.isEmpty:=by
 cases r <;> rfl
theorem isEmpty_of {xs:List V}{its:List Value}(r:Vals xs its):(!its.toArray.isEmpty) = !xs.isEmpty:=by
 cases r <;> simp
theorem line63:(zn:Nat) < 2 ^ 63:=by rw[sizeLine_eq];decide
theorem tru_ok:TruR X (fun x H Q=>∃ k,TruV X.K x H k/\Q k H):=by
 intro pins s σ H x v Q I rx h;obtain⟨k,e,q⟩:=h;have hl:=line63;have hs:zn=16777216:=sizeLine_eq;cases x with
 | non =>
  cases rx;have e':k=false:=e;subst e';exact truthy_none ⟨H,I,q⟩
 | bl b =>
  cases rx;have e':k=b:=e;subst e';exact wpAny_truthy_bool ⟨H,I,q⟩
 | int i =>
  obtain⟨t,rfl⟩:=rx;have e':k=(i != 0):=e;subst e';exact PySem.P.truthy_int ⟨H,I,q⟩
 | str y =>
  obtain⟨t,rfl⟩:=rx;obtain⟨hy,e'⟩:y.length<=zn/\k=((y.length:Int) != 0):=e;subst e';exact PySem.P.truthy_str (by first | lia | omega) ⟨H,I.tok _,q⟩
 | byt y =>
  obtain⟨t,rfl⟩:=rx;obtain⟨hy,e'⟩:y.size<=zn/\k=((y.size:Int) != 0):=e;subst e';exact PySem.W.truthy_bytes (by first | lia | omega) ⟨H,I.tok _,q⟩
 | ref p =>
  cases rx;have e':(∃ xs,SqL X.K H p xs/\k = !xs.isEmpty)\/(∃ xs,SqT X.K H p xs/\k = !xs.isEmpty)\/∃ kvs,H p=some (.dK kvs)/\k = !kvs.isEmpty:=e;rcases e' with ⟨xs,hx,e'⟩|⟨xs,hx,e'⟩|⟨kvs,hx,e'⟩
  ·subst e'
   obtain⟨its,r,pl,hz⟩:=I.list hx;have hlen:=r.length;exact wpAny_truthy_list pl.isList (by simp only[zm];omega) ⟨H,I.tok _,by rw[isEmpty_of r];exact q⟩
  ·subst e'
   obtain⟨its,r,pl,hz⟩:=I.tuple hx;have hlen:=r.length;exact truthy_tuple pl (by simp only[zm];omega) ⟨H,I.tok _,by rw[isEmpty_of r];exact q⟩
  ·subst e'
   obtain⟨hz,hS,vs,r,m⟩:kvs.length<=zn/\(p==sysModules)=false/\∃ vs,KV kvs vs/\s.heap.DictOf (mixKind X.prog X.w) p vs:=I.hok p _ hx;have hlen:kvs.length=vs.length:=Paired.length r;exact wpAny_truthy_dict hS m (by first | lia | omega) ⟨H,I.tok _,by rw[isEmpty_kv r];exact q⟩
 | _=>exact(show False from e).elim
theorem op_add_str:OpR X (binaryOp .Add) (fun x y H Q=>∃ i j,x=.str i/\y=.str j/\i.length + j.length<=zn/\Q (.str (i++j)) H):=by
 intro pins s σ H x y v u Q I rx ry h;obtain⟨i,j,rfl,rfl,hz,q⟩:=h;obtain⟨t,rfl⟩:=rx;obtain⟨t',rfl⟩:=ry;exact add_str (fun t' tk=>⟨.str (i++j),H,I.tok _,⟨_,rfl⟩,q⟩) hz
theorem vals1 {x:V}{us:List Value}(r:Vals [x] us):∃ u,us=[u]/\RelV x u:=by
 cases r with
 | cons r1 r2=>cases r2;exact⟨_,rfl,r1⟩
theorem vals2 {x y:V}{us:List Value}(r:Vals [x,y] us):∃ u w',us=[u,w']/\RelV x u/\RelV y w':=by
 cases r with
 | cons r1 r2 =>
  cases r2 with
  | cons r3 r4=>cases r4;exact⟨_,_,rfl,r1,r3⟩
theorem call_max2 (hc:X.calm=true):CallR X (.builtin "max") (fun xs H Q=>∃ i j,xs=[.int i,.int j]/\Q (.int (if j > i then j else i)) H):=by
 intro pins s σ H xs us Q I r h;obtain⟨i,j,rfl,q⟩:=h;obtain⟨u,w',rfl,⟨t,rfl⟩,⟨t',rfl⟩⟩:=vals2 r;refine max_two_ints (I.ok.hd hc) fun h' tk k=>⟨_,H,I.kept k,?_,q⟩;by_cases hj:j > i
 ·rw[if_pos hj,if_pos hj];exact⟨_,rfl⟩
 ·rw[if_neg hj,if_neg hj];exact⟨_,rfl⟩
end
end L2
namespace L2
open PySem PySem.Spec PyProof.Rows
section
variable {prog:Program}{w:World}{A:Around}{E:Value->Shared->Prop}{s:Shared}{K:PySem.W.Frag}{x dx C f:Addr}{mA:Str->Option Value}{name:Str}{v:Value}
end
theorem RelO.some_of {v:V}{o:Option Value}(r:RelO (some v) o):∃ u,o=some u/\RelV v u:=by
 cases o with
 | none=>exact(show False from r).elim
 | some u=>exact⟨u,rfl,r⟩
section
variable {P:Program}{w:World}{H H':Hp}{h h':Heap}{a C dx:Addr}{fs fs':List (Str×V)}
end
section
variable {X:Cx}{pins:List (Addr×Obj)}{σ:St}{H:Hp}{s:Shared}{a C dx:Addr}{fs:List (Str×V)}{f:Str}{v:V}{A:Around}{E:Value->Shared->Prop}
end
section
variable {X:Cx}{o e value:Expr}{f:Str}{pos pos' tpos:Pos}{ta tv:TE}
end
section
variable {X:Cx}{pins:List (Addr×Obj)}{σ:St}{H:Hp}{s:Shared}{A:Around}{E:Value->Shared->Prop}{Q:Value->Shared->Prop}{c:Value}{b:Bool}
end
end L2
namespace L2
open PySem PySem.Spec PyProof.Rows
structure Room (k:Nat) (A:Around):Prop where
 hd:A.handled=none
 dp:A.depth + 3 * k + 5 < recursionLimit
 un:A.units + 16 * k + 200 < cLine
 gd:A.guards=some []
theorem Room.deeper {k:Nat}{A:Around}(r:Room (k + 1) A)(env:Env):Room k (A.deeper env) :=
 ⟨r.hd,by have:=r.dp;show A.depth + 1 + 3 * k + 5 < _;omega,by have:=r.un;show A.units + 3 + 16 * k + 200 < _;omega,r.gd⟩
theorem Room.depth {k:Nat}{A:Around}(r:Room k A):A.depth < recursionLimit:=by have:=r.dp;omega
def tNil:TA:=fun _ H Q=>Q [] H
def tCons (ta:TE)(tr:TA):TA:=fun σ H Q=>ta σ H fun x H1=>tr σ H1 fun xs H2=>Q (x::xs) H2
section
variable {X:Cx}{e:Expr}{es:List Expr}{te:TE}{t:TA}{pos:Pos}
theorem pa_nil:PA X [] tNil:=fun _ _ _ _ H Q I h=>Calls.spliced_nil ⟨[],H,I,.nil,h⟩
theorem pa_cons (ha:PE X e te)(hr:PA X es t)(hs:starEach (e::es) X.env=(false,eval e X.env)::starEach es X.env:=by rfl):PA X (e::es) (tCons te t):=by
 intro pos pins s σ H Q I h;rw[hs];show wpAny _ _ (spliced ((false,eval e X.env)::backTo pos (starEach es X.env))) _ _ s;refine Calls.spliced_cons (thn (ha pins s σ H _ I h) fun u s1 ⟨x,H1,I1,r1,q1⟩=>?_);exact thn (hr pos pins s1 σ H1 _ I1 q1) fun us s2 ⟨xs,H2,I2,r2,q2⟩=>⟨x::xs,H2,I2,.cons r1 r2,q2⟩
def tTup (t:TA):TE:=fun σ H Q=>t σ H fun xs H1=>xs.length<=zn/\∀ p,H1 p=none->Q (.ref p) (upd H1 p (.tup xs))
def tLst (t:TA):TE:=fun σ H Q=>t σ H fun xs H1=>xs.length<=zn/\∀ p,H1 p=none->Q (.ref p) (upd H1 p (.lst xs))
theorem pe_tup {x1}(h:PA X es t):PE X (.Tuple es x1 pos) (tTup t):=by
 intro pins s σ H Q I hq;refine wpAny_Tuple_spliced (thn (h pos pins s σ H _ I hq) fun us s1 ⟨xs,H1,I1,r,z,q⟩=>⟨by rw[<- r.length];exact z,?_⟩);have hf:H1 s1.heap.objs.size=none:=I1.hok.fresh (zp _);refine⟨.ref s1.heap.objs.size,upd H1 s1.heap.objs.size (.tup xs),I1.laid (t':=s1.toks) (fun b u e=>zv _ e) (zp _) ?_,rfl,q _ hf⟩;exact⟨z,us,r,TupN.new _ _⟩
theorem pe_lst (h:PA X es t):PE X (.List es pos) (tLst t):=by
 intro pins s σ H Q I hq;refine wpAny_List_spliced (thn (h pos pins s σ H _ I hq) fun us s1 ⟨xs,H1,I1,r,z,q⟩=>⟨by rw[<- r.length];exact z,?_⟩);have hf:H1 s1.heap.objs.size=none:=I1.hok.fresh (zp _);refine⟨.ref s1.heap.objs.size,upd H1 s1.heap.objs.size (.lst xs),I1.laid (t':=s1.toks) (fun b u e=>zv _ e) (zp _) ?_,rfl,q _ hf⟩;exact⟨z,us,0,r,zj _ rfl⟩
end
abbrev Sp:=List V->Hp->VK->XK->Prop
abbrev CXT:=List Env->Hp->Shared->XK->Value->Shared->Prop
structure Env0 (P:Program) (w:World) (K:PySem.W.Frag) (mg:Str->Option Value) (base:Heap) (A:Around) (outer:List Env) (s:Shared) (H:Hp):Prop where
 frames:A.frames=some outer
 mod:Mod K mg base
 bs:∀ b o,base.get? b=some o->s.heap.get? b=some o/\H b=none
 bsz:base.objs.size<=s.heap.objs.size
 funs:s.heap.FunFrames base outer
 frf:∀ b∈frs outer,H b=none
 hok:HOk P w H s.heap
 bare:AllBare s.gens
def CE (outer:List Env)(P:Program)(w:World)(H:Hp)(s:Shared)(Q:VK)(u:Value)(s':Shared):Prop :=
 ∃ v H',s'.os=s.os/\AllBare s'.gens/\Un (frs outer) [] H H' s.heap s'.heap/\HOk P w H' s'.heap/\RelV v u/\Q v H'
def CR (CX:CXT)(outer:List Env)(P:Program)(w:World)(H:Hp)(s:Shared)(Q:VK)(E:XK)(r:Result)(s':Shared):Prop :=
 match r with
 | .ok (.ret u)=>CE outer P w H s Q u s'
 | .ok _=>False
 | .error e=>CX outer H s E e s'
structure FnOk (P:Program) (w:World) (K:PySem.W.Frag) (mg:Str->Option Value) (base:Heap) (CX:CXT) (k:Nat) (f:Addr) (fd:FuncData) (ps:List Str) (sp:Sp):Prop where
 len:∀ vs H Q E,sp vs H Q E->vs.length=ps.length
 run:∀ (A:Around) (outer:List Env) (s:Shared) (H:Hp) (args:Args) (us:List Value) (vs:List V) (Q:VK) (E:XK),Room k A->Env0 P w K mg base A outer s H->BindsTo s fd args (ps.zip us)->Vals vs us->sp vs H Q E ->
  codeAny (model P w) A (.call (.ref f) args) (CR CX outer P w H s Q E) s
section
variable {X:Cx}{pins:List (Addr×Obj)}{σ:St}{H:Hp}{s s':Shared}
theorem Inv.env0 (I:Inv X pins σ H s):Env0 X.prog X.w X.K X.mg X.base X.A X.stack s H :=
 ⟨I.ok.frames,I.ok.mod,I.bs,zS I.ok.bsz I.sz,I.stack,I.stkFree,I.hok,I.bare⟩
theorem Inv.after {Q:VK}{u:Value}(I:Inv X pins σ H s)(h:CE X.stack X.prog X.w H s Q u s'):EP X pins σ Q u s':=by
 obtain⟨v,H',os,bare,un,hok,r,q⟩:=h;obtain⟨hh,g,d,t,os'⟩:=s';obtain rfl:os'=s.os:=os;exact⟨v,H',I.call (h':=hh) (g':=g) (d':=d) (t':=t) (ch:=[]) un hok bare (fun b z=>absurd z (by simp)),r,q⟩
end
def tCall (sp:Sp)(dvs:List V)(E:XK)(t:TA):TE:=fun σ H Q=>t σ H fun vs H1=>sp (vs++dvs) H1 Q E
def Binds (K:PySem.W.Frag)(fd:FuncData)(ps:List Str)(ds:List Value):Prop :=
 ∀ (s:Shared) (us:List Value),K.In s.heap->(us++ds).length=ps.length->BindsTo s fd ⟨us,[]⟩ (ps.zip (us++ds))
theorem Binds.all {K:PySem.W.Frag}{fd:FuncData}{ps:List Str}(h:∀ us:List Value,us.length=ps.length->bindArgs fd ⟨us,[]⟩=pure (ps.zip us)):Binds K fd ps []:=fun s us _ hl=>by
 rw[ya]at hl ⊢;exact .of_eq (h us hl)
def Passes (CX:CXT)(X:Cx)(E:XK):Prop:=∀ (pins:List (Addr×Obj)) (σ:St) (H:Hp) (s:Shared) (e:Value) (s':Shared),Inv X pins σ H s->CX X.stack H s E e s'->X.xe e s'
section
variable {X:Cx}{CX:CXT}{k:Nat}{f C:Addr}{fd:FuncData}{ps:List Str}{sp:Sp}{dvs:List V}{ds:List Value}{E:XK}{x m:Str}{p pos apos:Pos}{e o:Expr}{es:List Expr}{ta:TE}{t:TA}
theorem run_fn {pins:List (Addr×Obj)}{σ:St}{H:Hp}{s:Shared}{Q:VK}{us:List Value}{vs:List V}(F:FnOk X.prog X.w X.K X.mg X.base CX k f fd ps sp)(hr:Room k X.A)(hb:Binds X.K fd ps ds)(hd:Vals dvs ds)(hx:Passes CX X E)
  (I:Inv X pins σ H s) (r:Vals vs us) (h:sp (vs++dvs) H Q E):wpAny (model X.prog X.w) X.A (call (.ref f) us) (EP X pins σ Q) X.xe s:=by
 have r2:Vals (vs++dvs) (us++ds):=r.append hd;have hl:(us++ds).length=ps.length:=by rw[<- r2.length];exact F.len _ _ _ _ h
 refine wpAny_call (codeAny_mono (F.run X.A X.stack s H ⟨us,[]⟩ (us++ds) (vs++dvs) Q E hr I.env0 (hb s us I.kIn hl) r2 h) fun r s' hq=>?_);cases r with
 | error e=>exact hx pins σ H s e s' I hq
 | ok fl =>
  cases fl with
  | ret u=>exact I.after hq
  | next=>exact False.elim hq
  | brk=>exact False.elim hq
  | cont=>exact False.elim hq
theorem pe_call (F:FnOk X.prog X.w X.K X.mg X.base CX k f fd ps sp)(hr:Room k X.A)(hg:Gl X x)(hm:X.mg x=some (.ref f))(hk:PySem.W.keepIn X.K (.ref f)=true)(hb:Binds X.K fd ps ds)(hd:Vals dvs ds)(hx:Passes CX X E)
  (ha:PA X (e::es) t) (hdb:(x==("__debug__" : Str))=false:=by decide) (he:starEach (e::es) X.env=(false,eval e X.env)::starEach es X.env:=by rfl) (hpl:(backTo pos (starEach es X.env)).any (·.1)=false:=by rfl) :
  PE X (.Call (.Name x p) (e::es) [] pos) (tCall sp dvs E t):=by
 intro pins s σ H Q I h;refine wpAny_Call_Name_kw (ld_glob I hg hm ?_ hdb);refine PySem.W.callWith_K (h₀:=X.base) I.ok.mod.kin hk (thn (ha pos pins s σ H _ I h) fun us s1 ⟨vs,H1,I1,r,q⟩=>⟨I1.kIn,?_⟩) he hpl;exact run_fn F hr hb hd hx I1 r q
end
section
variable {X:Cx}{CX:CXT}{k:Nat}{f C:Addr}{fd:FuncData}{ps ks:List Str}{sp:Sp}{E:XK}{x m:Str}{p pos apos kpos:Pos}{e o:Expr}{es:List Expr}{kws:List Keyword}{te ta:TE}{t tk:TA}{nm:Option Str}
variable {g:List Value->List Value->List Value}{gV:List V->List V->List V}
end
structure FnScope (N P:List Str) (sc:Scope):Prop where
 kind:sc.kind=.function
 co:sc.isCoroutine=false
 gen:sc.isGenerator=false
 nd:N.Nodup
 pre:N.take P.length=P
 par:∀ x∈P,sc.names.lookup x=some .local\/sc.names.lookup x=some .cell
 nofree:∀ y∈sc.names,y.2≠.free
theorem bindL_out {kindOf:Str->Option NameKind}{x:Str}:∀ {binds:List (Str×Value)} {m:Str->Option Value},(∀ v,(x,v) ∉ binds)->bindL kindOf binds m x=m x
 | [],_,_=>rfl
 | (n,v)::r,m,h=>by
  unfold bindL;rw[bindL_out fun w hw=>h w (zP _ hw)];split
  ·have:x≠n:=by rintro rfl;exact h v zU
   simp[this]
  ·rfl
theorem bindC_out {kindOf:Str->Option NameKind}{x:Str}:∀ {binds:List (Str×Value)} {m:Str->Option Value},(∀ v,(x,v) ∉ binds)->bindC kindOf binds m x=m x
 | [],_,_=>rfl
 | (n,v)::r,m,h=>by
  unfold bindC;rw[bindC_out fun w hw=>h w (zP _ hw)];split
  ·rfl
  ·have:x≠n:=by rintro rfl;exact h v zU
   simp[this]
theorem bindL_get {kindOf:Str->Option NameKind}{x:Str}{v:Value}:∀ {P:List Str} {vs:List Value} {i:Nat} {m:Str->Option Value},P.Nodup->P[i]?=some x->vs[i]?=some v->kindOf x=some .local ->
  bindL kindOf (P.zip vs) m x=some v
 | [],_,_,_,_,h,_,_=>by simp at h
 | _::_,[],_,_,_,_,h,_=>by simp at h
 | p::P,w::vs,0,m,nd,h1,h2,hk=>by
  simp at h1 h2;subst h1;subst h2;show bindL kindOf ((p,w)::P.zip vs) m p=_;unfold bindL;rw[bindL_out fun v hv=>(xU.mp nd).1 (wJ hv).1,if_pos hk];simp
 | p::P,w::vs,i + 1,m,nd,h1,h2,hk=>by
  show bindL kindOf ((p,w)::P.zip vs) m x=_;unfold bindL;exact bindL_get (i:=i) (xU.mp nd).2 (by simpa using h1) (by simpa using h2) hk
theorem bindC_get {kindOf:Str->Option NameKind}{x:Str}{v:Value}:∀ {P:List Str} {vs:List Value} {i:Nat} {m:Str->Option Value},P.Nodup->P[i]?=some x->vs[i]?=some v->kindOf x≠some .local ->
  bindC kindOf (P.zip vs) m x=some v
 | [],_,_,_,_,h,_,_=>by simp at h
 | _::_,[],_,_,_,_,h,_=>by simp at h
 | p::P,w::vs,0,m,nd,h1,h2,hk=>by
  simp at h1 h2;subst h1;subst h2;show bindC kindOf ((p,w)::P.zip vs) m p=_;unfold bindC;rw[bindC_out fun v hv=>(xU.mp nd).1 (wJ hv).1,if_neg hk];simp
 | p::P,w::vs,i + 1,m,nd,h1,h2,hk=>by
  show bindC kindOf ((p,w)::P.zip vs) m x=_;unfold bindC;exact bindC_get (i:=i) (xU.mp nd).2 (by simpa using h1) (by simpa using h2) hk
def start (N:List Str)(vs:List V):St:=vs.map some++yH (N.length - vs.length) none
def cxOf (CX:CXT)(P:Program)(w:World)(K:PySem.W.Frag)(mg:Str->Option Value)(base:Heap)(N:List Str)(qual:Str)(scope:Scope)(f:Addr)(cd:Value)(A:Around)(outer:List Env)(s:Shared)(H:Hp)(E:XK):Cx where
 prog:=P
 w:=w
 K:=K
 mg:=mg
 base:=base
 A:=A.deeper (envOfC qual scope s.heap.objs.size f cd)
 N:=N
 s₀:=s
 H₀:=H
 env:=envOfC qual scope s.heap.objs.size f cd
 outer:=outer
 stack:=envOfC qual scope s.heap.objs.size f cd::outer
 ex:=[]
 calm:=true
 fn:=fun _=>true
 pn:=[]
 xe:=fun e s'=>wpAny (model P w) (A.deeper (envOfC qual scope s.heap.objs.size f cd)) (leaving (envOfC qual scope s.heap.objs.size f cd) e) (fun _ s''=>CX outer H s E e s'') (fun e' s''=>CX outer H s E e' s'') s'
theorem cell_has {sc:Scope}{n:Nat}{x:Str}(h:sc.names.lookup x=some .cell):∃ c,(cellsFrom n sc.names []).lookup x=some c:=by
 have q:=PySem.W.cellsFrom_some sc.names n [] (.inl h);exact Option.isSome_iff_exists.mp q
theorem inv_start {CX:CXT}{P:Program}{w:World}{K:PySem.W.Frag}{mg:Str->Option Value}{base:Heap}{N ps:List Str}{qual:Str}{scope:Scope}{f:Addr}{cd:Value}{A:Around}{outer:List Env}{s s1:Shared}{H:Hp}{E:XK}{us:List Value}{vs:List V}
  (S:FnScope N ps scope) (hd:A.handled=none) (e0:Env0 P w K mg base A outer s H) (hl:vs.length=ps.length) (r:Vals vs us)
  (x:InCallC s s.heap.objs.size (bindL (envOfC qual scope s.heap.objs.size f cd).kindOf (ps.zip us) fun _=>none) (cellsFrom (s.heap.objs.size + 1) scope.names []) (bindC (envOfC qual scope s.heap.objs.size f cd).kindOf (ps.zip us) fun _=>none) s1) :
  Inv (cxOf CX P w K mg base N qual scope f cd A outer s H E) [] (start N vs) H s1:=by
 have hpl:ps.length<=N.length:=by have:=congrArg List.length S.pre;rw[za]at this;omega
 obtain⟨h1,tk,rfl,hk⟩:=x.done;have noA:∀ b:Addr,b ∉ (cxOf CX P w K mg base N qual scope f cd A outer s H E).ex:=fun b z=>absurd (show b∈([]:List Addr) from z) (by simp);refine⟨⟨e0.mod,S.kind,rfl,rfl,zp _,fun y z c h1 h2=>?_,fun y hy=>?_,fun y c _ h=>?_,fun _=>hd,Around.frames_deeper e0.frames,.inr ⟨rfl,rfl⟩,fun b z=>absurd z (noA b),e0.bs,e0.bsz,fun b _ _=>noA b,fun b z=>absurd z (noA b),e0.funs,e0.frf⟩,
  rfl,e0.bare,Un.kept hk,⟨_,x.toInCall.ns,fun i y v h1 h2 h3=>?_⟩,fun y c h=>⟨_,x.cell y c h⟩,e0.hok.fresh (zp _),fun y c h=>?_,fun p hp=>absurd (show p∈([]:List (Addr×Obj)) from hp) (by simp),e0.hok.kept hk,?_⟩
 ·exact name_of_addr x.apart (PySem.mem_of_lookup h1) (PySem.mem_of_lookup h2)
 ·have hy:scope.names.lookup y=some .cell\/scope.names.lookup y=some .free:=hy
  rcases hy with hy | hy
  ·exact cell_has hy
  ·exact absurd rfl (S.nofree _ (PySem.mem_of_lookup hy))
 ·exact wF (x.above y c (PySem.mem_of_lookup h))
 ·have hi:i < vs.length:=by
   unfold start at h2;by_cases hi:i < vs.length
   ·exact hi
   ·rw[ze (by simpa using hi)]at h2
    rw[xB]at h2;split at h2 <;> cases h2
  have ha:vs[i]?=some v:=by
   unfold start at h2;rw[zF (by simpa using hi),zh]at h2;cases e:vs[i]? with
   | none=>rw[e]at h2;cases h2
   | some a=>rw[e]at h2;cases h2;rfl
  obtain⟨u,hu,rv⟩:=r.get ha;have hp:ps[i]?=some y:=by
   rw[<- S.pre,List.getElem?_take_of_lt (by first | lia | omega)];exact h1
  have ndP:ps.Nodup:=by rw[<- S.pre];exact S.nd.sublist (xD _ _)
  refine⟨u,rv,?_⟩;rcases S.par y (zQ hp) with k | k
  ·exact .inl ⟨k,bindL_get ndP hp hu k⟩
  ·obtain⟨c,e⟩:=cell_has (n:=s.heap.objs.size + 1) k
   refine .inr ⟨.inl k,c,e,?_⟩;have q:=x.cell y c e;rw[bindC_get ndP hp hu (by show scope.names.lookup y≠_;rw[k];decide)]at q;exact q
 ·exact e0.hok.fresh (wF (x.above y c (PySem.mem_of_lookup h)))
 ·unfold start
  show _=N.length;rw[zq,zw,ym];first | lia | omega
theorem fn_of {CX:CXT}{P:Program}{w:World}{K:PySem.W.Frag}{mg:Str->Option Value}{base:Heap}{k:Nat}{f:Addr}{name qual:Str}{params:Arguments}{body:List Stmt}{scope:Scope}{dV kV doc pm cdv ct oc:Value}{an od:Option Addr}
  {osl:Array (Option Value)} {N ps:List Str} {sp:Sp} (lk:K.lookup f=some ⟨oc,od,.func (PySem.W.fnOf name qual params body scope dV kV doc pm an cdv ct),osl⟩) (hcd:PySem.W.codeIn K cdv qual=true) (S:FnScope N ps scope)
  (len:∀ vs H Q E,sp vs H Q E->vs.length=ps.length)
  (hbody:∀ (A:Around) (outer:List Env) (s:Shared) (H:Hp) (vs:List V) (Q:VK) (E:XK),Room k (A.deeper (envOfC qual scope s.heap.objs.size f cdv))->sp vs H Q E ->
   ∃ t,PSs (cxOf CX P w K mg base N qual scope f cdv A outer s H E) body t/\t { nx:=fun _ H'=>Q .non H',rt:=Q } (start N vs) H) :
  FnOk P w K mg base CX (k + 1) f (PySem.W.fnOf name qual params body scope dV kV doc pm an cdv ct) ps sp:=by
 refine⟨len,fun A outer s H args us vs Q E hr e0 hb r hsp=>?_⟩;have hl:=len _ _ _ _ hsp;have KX:K.In s.heap:=e0.mod.kin.keeps fun b o e=>(e0.bs b o e).1;have lim:s.heap.NoLimit:=e0.mod.nolimit.keeps fun b o e=>(e0.bs b o e).1;have hkind:∀ y∈ps.zip us,scope.names.lookup y.1=some .local\/(scope.names.lookup y.1=some .cell/\((cellsFrom (s.heap.objs.size + 1) scope.names []).lookup y.1).isSome=true):=fun ⟨n,v⟩ hy=>by
  rcases S.par n (wJ hy).1 with q | q
  ·exact .inl q
  ·exact .inr ⟨q,PySem.W.cellsFrom_some _ _ _ (.inl q)⟩
 refine codeAny_call_function hr.depth (KX _ _ lk) rfl S.co S.gen rfl (PySem.W.codeRec_of KX hcd) (hb _ _ _ _ ?_);refine wpAny_newFunctionEnv_cells S.kind hkind fun env he s1 x=>?_;subst he;refine⟨lim.keeps x.toInCall.keep,codeAny_func ?_⟩;obtain⟨t,ht,hq⟩:=hbody A outer s H vs Q E (hr.deeper _) hsp;have I:Inv (cxOf CX P w K mg base N qual scope f cdv A outer s H E) [] (start N vs) H s1:=inv_start S hr.hd e0 hl r x;refine wpAny_mono (ht [] s1 (start N vs) H _ I hq) (fun fl s' hs=>?_) fun e s' hs=>hs;have fin:∀ {σ':St} {H':Hp} {v:V} {u:Value},Inv (cxOf CX P w K mg base N qual scope f cdv A outer s H E) [] σ' H' s'->RelV v u->Q v H'->CE outer P w H s Q u s' :=
  fun {σ' H' v u} J rv q=>⟨v,H',J.os,J.bare,J.base,J.hok,rv,q⟩
 cases fl with
 | ret u =>
  obtain⟨v,σ',H',J,rv,q⟩:=hs;exact fin J rv q
 | next =>
  obtain⟨σ',H',J,q⟩:=hs;exact fin (v:=V.non) (u:=Value.none) J rfl q
 | brk =>
  obtain⟨_,_,_,q⟩:=hs;exact False.elim q
 | cont =>
  obtain⟨_,_,_,q⟩:=hs;exact False.elim q
end L2
namespace L2
open PySem PySem.Spec PyProof.Rows
section
variable {X:Cx}{x:Str}{p pos:Pos}{e:Expr}{es:List Expr}{t:TA}{id T:String}{r:List V->Hp->VK->Prop}
def tCB (r:List V->Hp->VK->Prop)(t:TA):TE:=fun σ H Q=>t σ H fun vs H1=>r vs H1 Q
theorem pe_callB (hc:CallR X (.builtin id) r)(hg:Gl X x)(hm:X.mg x=none)(hv:bootBuiltins x=some (.builtin id))(ha:PA X (e::es) t)(hn:x≠"__name__":=by decide)(hdb:(x==("__debug__" : Str))=false:=by decide)
  (he:starEach (e::es) X.env=(false,eval e X.env)::starEach es X.env:=by rfl) (hpl:(backTo pos (starEach es X.env)).any (·.1)=false:=by rfl):PE X (.Call (.Name x p) (e::es) [] pos) (tCB r t):=by
 intro pins s σ H Q I h;refine wpAny_Call_Name_kw (ld_blt I hg hm hv ?_ hn hdb);exact PyProof.Rows.callWith_builtin1 (thn (ha pos pins s σ H _ I h) fun us s1 ⟨vs,H1,I1,r1,q1⟩=>hc pins s1 σ H1 vs us Q I1 r1 q1) he hpl
theorem pe_callTy (hc:CallR X (.type T) r)(hg:Gl X x)(hm:X.mg x=none)(hv:bootBuiltins x=some (.type T))(ha:PA X (e::es) t)(hn:x≠"__name__":=by decide)(hdb:(x==("__debug__" : Str))=false:=by decide)
  (he:starEach (e::es) X.env=(false,eval e X.env)::starEach es X.env:=by rfl) (hpl:(backTo pos (starEach es X.env)).any (·.1)=false:=by rfl):PE X (.Call (.Name x p) (e::es) [] pos) (tCB r t):=by
 intro pins s σ H Q I h;refine wpAny_Call_Name_kw (ld_blt I hg hm hv ?_ hn hdb);exact PyProof.Rows.callWith_type1 (thn (ha pos pins s σ H _ I h) fun us s1 ⟨vs,H1,I1,r1,q1⟩=>hc pins s1 σ H1 vs us Q I1 r1 q1) he hpl
end
end L2
namespace HT
open PySem PyProof.Rows
section
open PySem.SeqAt
open PySem.AutoSeq1 (wpAny_loadPart')
open PySem.MeetsSeq PySem.MeetsSeq2 PySem.MeetsSeq3
end
section
variable {prog:Program}{w:World}{A:Around}{E:Value->Shared->Prop}{s:Shared}
theorem cat_tup {t b:Addr}{vs ws:List Value}{Q:Value->Shared->Prop}(ht:IsTup s.heap t vs.toArray)(hb:IsTup s.heap b ws.toArray)(hv:vs≠[])
  (h1:ws=[]->Q (.ref t) s) (h2:ws≠[]->Q (.ref s.heap.objs.size) { s with heap:=s.heap.push { cls:=.type "tuple",data:=.seq (vs++ws).toArray } })
  (hsz:vs.length + ws.length<=zn):wpAny (model prog w) A (binaryOp .Add (.ref t) (.ref b)) Q E s:=by
 obtain⟨⟨cls,dd,data,sl⟩,ho,hc,n,hd⟩:=id ht;obtain⟨⟨cls2,dd2,data2,sl2⟩,ho2,hc2,n2,hd2⟩:=id hb;simp only at hc hd hc2 hd2;subst hc hd hc2 hd2;have e:vs.toArray++ws.toArray=(vs++ws).toArray:=by simp
 by_cases hw:ws=[]
 ·exact concat_meets ⟨_,ho,rfl⟩ ⟨_,ho2,rfl⟩ noFill_tuple_add seq_tuple_add PySem.F.slot_tuple_add PySem.F.entry_tuple_add (PySem.F.args_tuple_add_2 _ _)
   (tuple_addW1 t b vs.toArray ws.toArray n n2 dd dd2 sl sl2 (by simpa using hv) (by simp[hw])) ⟨ho,ho2,h1 hw⟩
 ·refine concat_meets ⟨_,ho,rfl⟩ ⟨_,ho2,rfl⟩ noFill_tuple_add seq_tuple_add PySem.F.slot_tuple_add PySem.F.entry_tuple_add (PySem.F.args_tuple_add_2 _ _)
   (tuple_addW2 t b vs.toArray ws.toArray n n2 dd dd2 sl sl2 (by simpa using hv) (by simpa using hw) (by rw[zm,zm];exact hsz)) ⟨ho,ho2,?_⟩
  rw[e];exact h2 hw
def sIx (n d:Nat):Option Int->Nat
 | none=>d
 | some v=>if v < 0 then (v + (n:Int)).toNat else min v.toNat n
theorem sIx_le (n d:Nat)(hd:d<=n)(o:Option Int):sIx n d o<=n:=by
 cases o with
 | none=>exact hd
 | some v =>
  show (if v < 0 then (v + (n:Int)).toNat else min v.toNat n)<=n;by_cases hv:v < 0
  ·rw[if_pos hv];omega
  ·rw[if_neg hv];exact Nat.min_le_right _ _
theorem clip_eq (v:Int)(n d:Nat):(if v < 0 then max (v + (n:Int)) 0 else min v (n:Int))=((sIx n d (some v):Nat):Int):=by
 show (if v < 0 then max (v + (n:Int)) 0 else min v (n:Int))=(((if v < 0 then (v + (n:Int)).toNat else min v.toNat n):Nat):Int);by_cases hv:v < 0
 ·simp only[if_pos hv];omega
 ·simp only[if_neg hv];omega
theorem adjust_gen (lo hi:Option Int)(n:Nat):Builtin.Slice.sliceAdjust lo hi 1 (n:Int)=(((sIx n 0 lo:Nat):Int),((sIx n n hi:Nat):Int)):=by
 have h1:¬ ((1:Int) < 0):=by first | lia | omega
 unfold Builtin.Slice.sliceAdjust;simp only[h1,if_false];refine Prod.ext ?_ ?_
 ·cases lo with
  | none=>rfl
  | some v=>exact clip_eq v n 0
 ·cases hi with
  | none=>rfl
  | some v=>exact clip_eq v n n
theorem places_gen (i j:Nat):Builtin.Slice.slicePlaces (i:Int) (j:Int) 1=j - i:=by
 unfold Builtin.Slice.slicePlaces;have h1:(1:Int) > 0:=by first | lia | omega
 simp only[h1,if_true,Int.ediv_one];split <;> omega
theorem slicePart_ {v:Value}{o:Option Int}{Q:Option Int->Shared->Prop}(p:IsPart v o)(h:Q o s):wpAny (model prog w) A (Builtin.Slice.slicePartIndex v) Q E s:=by
 cases p with
 | none=>exact slicePart_none h
 | int i t=>exact slicePart_int h
theorem sliceApplied_gen {sl:Addr}{vl vu:Value}{lo hi:Option Int}{n:Nat}{Q:Int×Int×Nat->Shared->Prop}(hs:s.heap.IsSliceOf sl vl vu .none)(pl:IsPart vl lo)(pu:IsPart vu hi)
  (h:Q (((sIx n 0 lo:Nat):Int),1,sIx n n hi - sIx n 0 lo) s):wpAny (model prog w) A (Builtin.Slice.sliceApplied (.ref sl) (pure (n:Int))) Q E s:=by
 obtain⟨os,hos,hcs,hds⟩:=id hs;unfold Builtin.Slice.sliceApplied Builtin.Slice.sliceFields;refine zz (zz (wpAny_field hos hds (x:=vl) rfl (zz (wpAny_field hos hds (x:=vu) rfl (zz (wpAny_field hos hds (x:=.none) rfl (zu ?_)))))));refine zz (slicePart_none ?_);show wpAny _ _ (if ((1:Int)==0)=true then _ else _) _ _ s;rw[if_neg (by decide)];refine zz (slicePart_ pl (zz (slicePart_ pu (zz (zu ?_)))));show wpAny _ _ (match Builtin.Slice.sliceAdjust lo hi 1 (n:Int) with | (lo,hi)=>pure (lo,(1:Int),Builtin.Slice.slicePlaces lo hi 1)) _ _ s;rw[adjust_gen lo hi n];show wpAny _ _ (pure (((sIx n 0 lo:Nat):Int),(1:Int),Builtin.Slice.slicePlaces ((sIx n 0 lo:Nat):Int) ((sIx n n hi:Nat):Int) 1)) _ _ s;rw[places_gen];exact zu h
theorem pick_gen (xs:Array Value)(i k:Nat):((List.range k).filterMap fun (m:Nat)=>xs[((i:Int) + (m:Int) * 1).toNat]?).toArray=((xs.toList.drop i).take k).toArray:=by
 have e:(fun (m:Nat)=>xs[((i:Int) + (m:Int) * 1).toNat]?)=fun m=>xs[i + m]?:=by
  funext m
  have:((i:Int) + (m:Int) * 1).toNat=i + m:=by first | lia | omega
  rw[this]
 rw[e]
 have:=pick_run xs i k
 rw[wz]at this;have e2:((fun x=>xs[x]?) ∘ fun x=>i + x)=fun m=>xs[i + m]?:=rfl;rw[e2]at this;rw[this]
theorem getItem_tuple_cut {t sl:Addr}{items:Array Value}{vl vu:Value}{lo hi:Option Int}{Q:Value->Shared->Prop}(ht:IsTup s.heap t items)(hs:s.heap.IsSliceOf sl vl vu .none)(pl:IsPart vl lo)(pu:IsPart vu hi)
  (hw:¬ (sIx items.size 0 lo=0/\sIx items.size items.size hi=items.size))
  (h:Q (.ref s.heap.objs.size) { s with heap:=s.heap.push { cls:=.type "tuple",data:=.seq ((items.toList.drop (sIx items.size 0 lo)).take (sIx items.size items.size hi - sIx items.size 0 lo)).toArray } })
  (hsz:items.size<=zn):wpAny (model prog w) A (getItem (.ref t) (.ref sl)) Q E s:=by
 have htake:sizeOk (.seq ((items.toList.drop (sIx items.size 0 lo)).take (sIx items.size items.size hi - sIx items.size 0 lo)).toArray):=by
  show ((items.toList.drop (sIx items.size 0 lo)).take (sIx items.size items.size hi - sIx items.size 0 lo)).toArray.size<=zn;rw[zm,za,zM,zK];first | lia | omega
 have hj:sIx items.size items.size hi<=items.size:=sIx_le _ _ (zp _) hi;obtain⟨os,hos,hcs,hds⟩:=id hs;have hTs:s.TypeIs (.ref sl) "slice":=⟨os,hos,hcs⟩;unfold getItem
 try with_reducible refine wpAny_holding ?_
 first | refine zz (zu ?_) | skip
 refine zz (wpAny_sequenceKey ht.typeIs (by decide) ?_);refine zz (wpAny_callSpecial?_slot (name:=Str.ofString "__getitem__") ht.typeIs PyProof.Rows.slot_tuple_getitem
  (wpAny_call_entry PyProof.Rows.slot_tuple_getitem ht.typeIs entry_tuple_getitem ?_ (args_tuple_getitem _ _)))
 show wpAny _ _ (Builtin.Tuple.tupleItemsOf (.ref t) >>= _) _ _ s;refine zz (tupleItemsOf_ ht ?_);refine zz (wpAny_typeOf hTs ?_);rw[if_pos (by decide)];refine zz (sliceApplied_gen hs pl pu ?_);have hno:¬ ((((sIx items.size 0 lo:Nat):Int)==0&&(1:Int)==1&&(sIx items.size items.size hi - sIx items.size 0 lo)==items.size)=true):=by
  intro q;rw[zk,zk]at q;have q1:((sIx items.size 0 lo:Nat):Int)=0:=eq_of_beq q.1.1;have q2:sIx items.size items.size hi - sIx items.size 0 lo=items.size:=eq_of_beq q.2;exact hw ⟨by omega,by omega⟩
 show wpAny _ _ (if (((sIx items.size 0 lo:Nat):Int)==0&&(1:Int)==1&&(sIx items.size items.size hi - sIx items.size 0 lo)==items.size)=true then _ else _) _ _ s;rw[if_neg hno,pick_gen]
 first
  | exact zz (m:=Builtin.Tuple.tupleExact _) (wpAny_newObj_type (zu ⟨_,rfl,zu h⟩) htake)
  | exact zz (m:=Builtin.Tuple.tupleExact _) (wpAny_newObj_type (zz (zu (zu ⟨_,rfl,zu h⟩))) htake)
  | exact zz (zz (m:=Builtin.Tuple.tupleExact _) (wpAny_newObj_type (zu (zu ⟨_,rfl,zu h⟩)) htake))
  | exact zz (zz (m:=Builtin.Tuple.tupleExact _) (wpAny_newObj_type (zu ⟨_,rfl,zu h⟩) htake))
end
end HT
namespace L2
open PySem PySem.Spec PyProof.Rows
abbrev TO:=St->Hp->(Option Int->Hp->Prop)->Prop
def PO (X:Cx)(e:Option Expr)(t:TO):Prop :=
 ∀ (pins:List (Addr×Obj)) (s:Shared) (σ:St) (H:Hp) (Q:Option Int->Hp->Prop),Inv X pins σ H s->t σ H Q ->
  wpAny (model X.prog X.w) X.A (evalPart e X.env) (fun u s'=>∃ o H',Inv X pins σ H' s'/\IsPart u o/\Q o H') X.xe s
def tNoPart:TO:=fun _ H Q=>Q none H
def tPart (t:TE):TO:=fun σ H Q=>t σ H fun x H1=>∃ i,x=.int i/\Q (some i) H1
section
variable {X:Cx}{e:Expr}{te:TE}{lo hi:Option Expr}{tl th:TO}{pos p2:Pos}
theorem po_none:PO X none tNoPart:=by
 intro pins s σ H Q I h;rw[evalPart_none];exact zu ⟨none,H,I,.none,h⟩
theorem po_some (h:PE X e te):PO X (some e) (tPart te):=by
 intro pins s σ H Q I hw;rw[evalPart_some];refine thn (h pins s σ H _ I hw) fun u s1 ⟨x,H1,I1,r1,q1⟩=>?_;obtain⟨i,rfl,q⟩:=q1;obtain⟨t,rfl⟩:=r1;exact⟨some i,H1,I1,.int i t,q⟩
def SlR (X:Cx)(r:V->Option Int->Option Int->Hp->VK->Prop):Prop :=
 ∀ (pins:List (Addr×Obj)) (s:Shared) (σ:St) (H:Hp) (x:V) (v vl vu:Value) (lo hi:Option Int) (sl:Addr) (Q:VK),Inv X pins σ H s->RelV x v->s.heap.IsSliceOf sl vl vu .none->IsPart vl lo->IsPart vu hi->r x lo hi H Q ->
  ∃ T id,typeLookup (.type T) "__getitem__" = pure (some (.builtin id))/\s.TypeIs v T/\wpAny (model X.prog X.w) X.A (getItem v (.ref sl)) (EP X pins σ Q) X.xe s
def tSl (r:V->Option Int->Option Int->Hp->VK->Prop)(te:TE)(tl th:TO):TE:=fun σ H Q=>te σ H fun x H1=>tl σ H1 fun l H2=>th σ H2 fun u H3=>r x l u H3 Q
theorem pe_slice {r:V->Option Int->Option Int->Hp->VK->Prop}(hr:SlR X r)(he:PE X e te)(hl:PO X lo tl)(hu:PO X hi th):PE X (.Subscript e (.Slice lo hi none p2) pos) (tSl r te tl th):=by
 intro pins s σ H Q I h;refine Subscript_ (thn (he pins s σ H _ I h) fun v s1 ⟨x,H1,I1,r1,q1⟩=>?_);refine wpAny_Slice (thn (hl pins s1 σ H1 _ I1 q1) fun vl s2 ⟨l,H2,I2,pl,q2⟩=>thn (hu pins s2 σ H2 _ I2 q2) fun vu s3 ⟨u,H3,I3,pu,q3⟩=>?_);rw[evalPart_none];refine zu ?_;have I4:Inv X pins σ H3 { s3 with heap:=s3.heap.push { cls:=.type "slice",data:=.fields #[vl,vu,.none] } }:=I3.kept (t':=s3.toks) fun b ob q=>zv _ q;obtain⟨T,id,hT,ht,hg⟩:=hr pins { s3 with heap:=s3.heap.push { cls:=.type "slice",data:=.fields #[vl,vu,.none] } } σ H3 x v vl vu l u s3.heap.objs.size Q I4 r1 (Heap.IsSliceOf.new ..) pl pu q3;show wpAny (model X.prog X.w) X.A (subscriptTail e (.Slice lo hi none p2) v (.ref s3.heap.objs.size)) (EP X pins σ Q) X.xe { s3 with heap:=s3.heap.push { cls:=.type "slice",data:=.fields #[vl,vu,.none] } };exact tail_any (ops:=[.ref s3.heap.objs.size,v]) ht hT hg (by with_unfolding_all rfl)
def cutV (xs:List V)(lo hi:Option Int):List V:=(xs.drop (HT.sIx xs.length 0 lo)).take (HT.sIx xs.length xs.length hi - HT.sIx xs.length 0 lo)
theorem cutV_length (xs:List V)(lo hi:Option Int):(cutV xs lo hi).length<=xs.length:=by
 unfold cutV;rw[za,zM];first | lia | omega
def rSlT (K:PySem.W.Frag):V->Option Int->Option Int->Hp->VK->Prop:=fun x lo hi H Q=>∃ a xs,x=.ref a/\SqT K H a xs /\
 ¬ (HT.sIx xs.length 0 lo=0/\HT.sIx xs.length xs.length hi=xs.length)/\∀ p,H p=none->Q (.ref p) (upd H p (.tup (cutV xs lo hi)))
theorem sl_tup:SlR X (rSlT X.K):=by
 intro pins s σ H x v vl vu lo hi sl Q I rx hs pl pu h;obtain⟨a,xs,rfl,hx,hw,q⟩:=h;cases rx;obtain⟨its,r,ht,hz⟩:=I.tuple hx;have hlen:its.toArray.size=xs.length:=by rw[zm];exact r.length.symm
 refine⟨"tuple",_,PyProof.Rows.slot_tuple_getitem.lookup,ht.typeIs,?_⟩;refine HT.getItem_tuple_cut ht hs pl pu (by rw[hlen];exact hw) ?_ (by rw[hlen];exact hz);rw[hlen];refine⟨.ref s.heap.objs.size,_,I.laid (t':=s.toks) (o:=.tup (cutV xs lo hi)) (fun b ob q=>zv _ q) (zp _) ?_,rfl,q _ (I.hok.fresh (zp _))⟩;exact⟨zS (cutV_length xs lo hi) hz,_,(r.drop (HT.sIx xs.length 0 lo)).take (HT.sIx xs.length xs.length hi - HT.sIx xs.length 0 lo),TupN.new _ _⟩
def rCatT (K:PySem.W.Frag):R2:=fun x y H Q=>∃ a b xs ys,x=.ref a/\y=.ref b/\SqT K H a xs/\SqT K H b ys/\xs≠[]/\xs.length + ys.length<=zn /\
 (ys=[]->Q (.ref a) H)/\(ys≠[]->∀ p,H p=none->Q (.ref p) (upd H p (.tup (xs++ys))))
theorem Vals.nil_iff {xs:List V}{us:List Value}(r:Vals xs us):us=[] ↔ xs=[]:=by
 cases r with
 | nil=>simp
 | cons _ _=>simp
theorem op_catT:OpR X (binaryOp .Add) (rCatT X.K):=by
 intro pins s σ H x y v u Q I rx ry h;obtain⟨a,b,xs,ys,rfl,rfl,ha,hb,hx,hz,q1,q2⟩:=h;cases rx;cases ry;obtain⟨its,r1,p1,_⟩:=I.tuple ha;obtain⟨its2,r2,p2,_⟩:=I.tuple hb;refine HT.cat_tup p1 p2 (fun z=>hx (r1.nil_iff.mp z)) (fun z=>⟨.ref a,H,I,rfl,q1 (r2.nil_iff.mp z)⟩) (fun z=>?_) (by rw[<- r1.length,<- r2.length];exact hz);refine⟨.ref s.heap.objs.size,_,I.laid (t':=s.toks) (o:=.tup (xs++ys)) (fun b ob q=>zv _ q) (zp _) ?_,rfl,q2 (fun w=>z (r2.nil_iff.mpr w)) _ (I.hok.fresh (zp _))⟩;exact⟨by rw[zq];exact hz,_,r1.append r2,TupN.new _ _⟩
end
end L2
namespace L2
open PySem PySem.Spec PyProof.Rows
def ixN (n:Nat)(i:Int):Option Nat:=if 0<=i then (if i < n then some i.toNat else none) else if -(n:Int)<=i then some (i + n).toNat else none
def atI {α:Type}(xs:List α)(i:Int):Option α:=(ixN xs.length i).bind fun j=>xs[j]?
theorem ixN_seq {n:Nat}{i:Int}{j:Nat}(h:ixN n i=some j):seqIndex? i n=some j/\j < n/\-(n:Int)<=i/\i < n:=by
 unfold ixN at h;by_cases h0:0<=i
 ·rw[if_pos h0]at h
  by_cases h1:i < n
  ·rw[if_pos h1]at h
   have e:i.toNat=j:=Option.some.inj h;exact⟨by rw[seqIndex_of h0 h1,e],by omega,by omega,h1⟩
  ·rw[if_neg h1]at h;cases h
 ·rw[if_neg h0]at h
  by_cases h1:-(n:Int)<=i
  ·rw[if_pos h1]at h
   have e:(i + n).toNat=j:=Option.some.inj h;exact⟨by rw[seqIndex_neg (by first | lia | omega) h1,e],by omega,h1,by omega⟩
  ·rw[if_neg h1]at h;cases h
theorem atI_get {α:Type}{xs:List α}{i:Int}{v:α}(h:atI xs i=some v):∃ j,seqIndex? i xs.length=some j/\xs[j]?=some v/\j < xs.length/\-(xs.length:Int)<=i/\i < xs.length:=by
 unfold atI at h;cases e:ixN xs.length i with
 | none=>rw[e]at h;cases h
 | some j =>
  rw[e]at h;obtain⟨h1,h2,h3,h4⟩:=ixN_seq e;exact⟨j,h1,h,h2,h3,h4⟩
def PlainIx (b:Expr):Prop:=∀ o i,subscripted b false o i=operate [o,i] (getItem o i)
def IxR (X:Cx)(r:R2):Prop :=
 ∀ (value slice:Expr) (pins:List (Addr×Obj)) (s:Shared) (σ:St) (H:Hp) (x y:V) (v u:Value) (Q:VK),Inv X pins σ H s->RelV x v->RelV y u->r x y H Q ->
  subscripted slice false v u=operate [v,u] (getItem v u)->wpAny (model X.prog X.w) X.A (subscriptTail value slice v u) (EP X pins σ Q) X.xe s
def MtR (X:Cx)(id:String)(r:V->List V->Hp->VK->Prop):Prop :=
 ∀ (pins:List (Addr×Obj)) (s:Shared) (σ:St) (H:Hp) (x:V) (xs:List V) (v:Value) (us:List Value) (Q:VK),Inv X pins σ H s->RelV x v->Vals xs us->r x xs H Q ->
  wpAny (model X.prog X.w) X.A (call (.builtin id) (v::us)) (EP X pins σ Q) X.xe s
section
variable {X:Cx}{a b:Expr}{ta tb:TE}{pos:Pos}
theorem pe_ix {r:R2}(hr:IxR X r)(ha:PE X a ta)(hb:PE X b tb)(hs:PlainIx b):PE X (.Subscript a b pos) (tOp r ta tb):=by
 intro pins s σ H Q I h;exact Subscript_ (binT ha hb I h fun v u s2 x y H2 I2 rx ry q=>hr a b pins s2 σ H2 x y v u Q I2 rx ry q (hs _ _))
def rIxL (K:PySem.W.Frag):R2:=fun x y H Q=>∃ p xs i v,x=.ref p/\y=.int i/\SqL K H p xs/\atI xs i=some v/\Q v H
def rIxT (K:PySem.W.Frag):R2:=fun x y H Q=>∃ p xs i v,x=.ref p/\y=.int i/\SqT K H p xs/\atI xs i=some v/\Q v H
def rIxS:R2:=fun x y H Q=>∃ z i c,x=.str z/\y=.int i/\z.length<=zn/\atI z.cps.toList i=some c/\Q (.str ⟨#[c]⟩) H
theorem ix_list:IxR X (rIxL X.K):=by
 intro value slice pins s σ H x y v u Q I rx ry h hs;obtain⟨p,xs,i,z,rfl,rfl,hq,he,q⟩:=h;cases rx;obtain⟨t,rfl⟩:=ry;obtain⟨its,r,pl,hz⟩:=I.list hq;obtain⟨j,h1,h2,h3,h4,h5⟩:=atI_get he;obtain⟨w,ew,rw'⟩:=r.get h2;have hl:=r.length;have hn:=line63;have fin:EP X pins σ Q w s:=⟨z,H,I,rw',q⟩;by_cases h0:0<=i
 ·have hj:i.toNat=j:=by
   rw[seqIndex_of h0 h5]at h1;exact Option.some.inj h1
  exact item_listR pl.isList h0 (by first | lia | omega) (by rw[hj];simpa using ew) fin hs
 ·have hj:(i + (its.toArray.size:Int)).toNat=j:=by
   rw[seqIndex_neg (by first | lia | omega) h4]at h1
   rw[zm,<- hl];exact Option.some.inj h1
  exact subscriptTail_builtinR (x:=w) pl.isList.typeIs slot_list_getitem.lookup
   (wpAny_getItem_list_neg (Q:=fun r s'=>r=w/\EP X pins σ Q r s') pl.isList (by first | lia | omega) (by rw[zm] <;> omega) (by first | lia | omega) (by rw[hj];simpa using ew) ⟨rfl,fin⟩) hs
theorem ix_tup:IxR X (rIxT X.K):=by
 intro value slice pins s σ H x y v u Q I rx ry h hs;obtain⟨p,xs,i,z,rfl,rfl,hq,he,q⟩:=h;cases rx;obtain⟨t,rfl⟩:=ry;obtain⟨its,r,pl,hz⟩:=I.tuple hq;obtain⟨j,h1,h2,h3,h4,h5⟩:=atI_get he;obtain⟨w,ew,rw'⟩:=r.get h2;have hl:=r.length;have hn:=line63;have fin:EP X pins σ Q w s:=⟨z,H,I,rw',q⟩;exact subscriptTail_builtinR (x:=w) pl.typeIs slot_tuple_getitem.lookup
  (getItem_tuple (j:=j) (Q:=fun r s'=>r=w/\EP X pins σ Q r s') pl (by first | lia | omega) (by first | lia | omega) (by rw[zm,<- hl];exact h1) (by simpa using ew) ⟨rfl,fin⟩) hs
theorem ix_str:IxR X rIxS:=by
 intro value slice pins s σ H x y v u Q I rx ry h hs;obtain⟨z,i,c,rfl,rfl,hz,he,q⟩:=h;obtain⟨t,rfl⟩:=rx;obtain⟨t',rfl⟩:=ry;obtain⟨j,h1,h2,h3,h4,h5⟩:=atI_get he;have hl:z.cps.toList.length=z.length:=by simp[Str.length]
 rw[hl]at h1 h4 h5;have hn:=line63;exact tail_any (typeIs_str s z t) slot_str_getitem.lookup (getItem_str (c:=c) (by
  have e1:decide (i < -(2 ^ 63:Int))=false:=decide_eq_false (by first | lia | omega)
  have e2:decide (i ≥ 2 ^ 63)=false:=decide_eq_false (by first | lia | omega)
  rw[e1,e2,wg]) (by rw[h1];simpa using h2) ⟨.str ⟨#[c]⟩,H,I.tok _,⟨_,rfl⟩,q⟩) hs
theorem mapSeq_set (its:List Value)(n j:Nat)(u:Value):Obj.mapSeq (·.setIfInBounds j u) { cls:=.type "list",data:=.seq its.toArray n } = { cls:=.type "list",data:=.seq (its.set j u).toArray n }:=by
 simp[Obj.mapSeq]
theorem Inv.lst {pins:List (Addr×Obj)}{σ:St}{H:Hp}{s:Shared}{p:Addr}{xs:List V}(I:Inv X pins σ H s)(h:H p=some (.lst xs)) :
  ∃ (its:List Value) (n:Nat),Vals xs its/\s.heap.get? p=some { cls:=.type "list",data:=.seq its.toArray n }/\xs.length<=zn:=by
 obtain⟨z,its,n,r,e⟩:=I.hok p _ h;exact⟨its,n,r,e,z⟩
theorem Inv.lstUpd {pins:List (Addr×Obj)}{σ:St}{H:Hp}{s:Shared}{p:Addr}{xs ys:List V}{its its':List Value}{n n':Nat}{f:Obj->Obj}(I:Inv X pins σ H s)(h:H p=some (.lst xs))
  (ho:s.heap.get? p=some { cls:=.type "list",data:=.seq its.toArray n }) (hf:f { cls:=.type "list",data:=.seq its.toArray n } = { cls:=.type "list",data:=.seq its'.toArray n' }) (r:Vals ys its') (hz:ys.length<=zn) (t:Nat) :
  Inv X pins σ (upd H p (.lst ys)) { s with heap:=s.heap.update p f,toks:=t }:=by
 have e:(s.heap.update p f).get? p=some { cls:=.type "list",data:=.seq its'.toArray n' }:=by
  rw[yd f ho (by rw[hf] <;> rfl),hf]
 refine I.write (x:=p) (e:=p) (by rw[h];trivial) (.inl rfl) (fun b u hb q=>(yB _ _ (Ne.symm hb)).trans q) ⟨_,e⟩ ?_;exact⟨hz,its',n',r,e⟩
def rSetL:V->V->V->Hp->(Hp->Prop)->Prop:=fun o i v H Q=>∃ p xs k j,o=.ref p/\i=.int k/\H p=some (.lst xs)/\ixN xs.length k=some j/\Q (upd H p (.lst (xs.set j v)))
theorem set_list:PSet X rSetL:=by
 intro pins s σ H o i v ov iv u Q I ro ri rv h;obtain⟨p,xs,k,j,rfl,rfl,hp,hj,q⟩:=h;cases ro;obtain⟨t,rfl⟩:=ri;obtain⟨its,n,r,ho,hz⟩:=I.lst hp;obtain⟨h1,h2,h3,h4⟩:=ixN_seq hj;have hl:=r.length;have hn:=line63;have I':Inv X pins σ (upd H p (.lst (xs.set j v))) { s with heap:=s.heap.update p (Obj.mapSeq (·.setIfInBounds j u)) } :=
  I.lstUpd hp ho (mapSeq_set its n j u) (r.set rv j) (by rw[yD];exact hz) s.toks
 by_cases h0:0<=k
 ·have hk:k.toNat=j:=by
   rw[seqIndex_of h0 h4]at h1;exact Option.some.inj h1
  exact PySem.W.ki_setAt ho h0 (by first | lia | omega) (by rw[zm,<- hl];exact h4) (by rw[hk];exact⟨_,I',q⟩)
 ·have hk:(k + (its.toArray.size:Int)).toNat=j:=by
   rw[seqIndex_neg (by first | lia | omega) h3]at h1
   rw[zm,<- hl];exact Option.some.inj h1
  exact PySem.W.ki_setBack ho (by first | lia | omega) (by rw[zm,<- hl];exact h3) (by first | lia | omega) (by rw[hk];exact⟨_,I',q⟩)
theorem slice_bounds (lo hi:Option Int)(n:Nat):(sliceBounds lo hi none n).1=((HT.sIx n 0 lo:Nat):Int)/\(sliceBounds lo hi none n).2.1=((HT.sIx n n hi:Nat):Int)/\(sliceBounds lo hi none n).2.2=1:=by
 refine⟨?_,?_,rfl⟩
 ·cases lo with
  | none=>simp[sliceBounds,HT.sIx]
  | some i =>
   simp only[sliceBounds,HT.sIx,vc,show (1:Int) > 0 by decide,if_true];by_cases h:i < 0
   ·simp only[h,if_true] <;> omega
   ·simp only[h,if_false] <;> omega
 ·cases hi with
  | none=>simp[sliceBounds,HT.sIx]
  | some i =>
   simp only[sliceBounds,HT.sIx,vc,show (1:Int) > 0 by decide,if_true];by_cases h:i < 0
   ·simp only[h,if_true] <;> omega
   ·simp only[h,if_false] <;> omega
theorem slicePick_cut (its:List Value)(lo hi:Option Int):slicePick its.toArray lo hi none=((its.drop (HT.sIx its.length 0 lo)).take (HT.sIx its.length its.length hi - HT.sIx its.length 0 lo)).toArray:=by
 obtain⟨h1,h2,h3⟩:=slice_bounds lo hi its.toArray.size;unfold slicePick;rw[h1,h2,h3];simp only[sliceRange_one,pick_run,zm] <;> rfl
def rSlL (K:PySem.W.Frag):V->Option Int->Option Int->Hp->VK->Prop:=fun x lo hi H Q=>∃ a xs,x=.ref a/\SqL K H a xs/\∀ p,H p=none->Q (.ref p) (upd H p (.lst (cutV xs lo hi)))
theorem sl_list:SlR X (rSlL X.K):=by
 intro pins s σ H x v vl vu lo hi sl Q I rx hs pl pu h;obtain⟨a,xs,rfl,hx,q⟩:=h;cases rx;obtain⟨its,r,ht,hz⟩:=I.list hx;have hlen:=r.length;refine⟨"list",_,slot_list_getitem.lookup,ht.isList.typeIs,?_⟩;refine wpAny_getItem_list_slice ht.isList hs pl pu .none (by simp) ?_ (by rw[zm] <;> omega);rw[slicePick_cut,<- hlen];refine⟨.ref s.heap.objs.size,_,I.laid (t':=s.toks) (o:=.lst (cutV xs lo hi)) (fun b ob q=>zv _ q) (zp _) ?_,rfl,q _ (I.hok.fresh (zp _))⟩;exact⟨zS (cutV_length xs lo hi) hz,_,0,(r.drop (HT.sIx xs.length 0 lo)).take (HT.sIx xs.length xs.length hi - HT.sIx xs.length 0 lo),zj _ rfl⟩
def flatV:V->Bool
 | .non=>true
 | .bl _=>true
 | .int _=>true
 | .str _=>true
 | _=>false
def eqV:V->V->Bool
 | .non,.non=>true
 | .bl a,.bl b=>a==b
 | .bl a,.int b=>(if a then 1 else 0)==b
 | .int a,.bl b=>a==(if b then 1 else 0)
 | .int a,.int b=>a==b
 | .str a,.str b=>a==b
 | _,_=>false
theorem eqAt_V {A:Around}{s:Shared}{y x:V}{u v:Value}(ry:RelV y u)(rx:RelV x v)(fy:flatV y=true)(fx:flatV x=true):SeqAt.EqAt A s u v (eqV y x):=by
 cases y with
 | non =>
  cases ry;cases x with
  | non=>cases rx;exact SeqAt.EqAt.same _
  | bl b=>cases rx;exact SeqAt.EqAt.none_bool b
  | int b=>obtain⟨t,rfl⟩:=rx;exact SeqAt.EqAt.none_int b t
  | str b=>obtain⟨t,rfl⟩:=rx;exact SeqAt.EqAt.none_str b t
  | _=>exact absurd (show false=true from fx) zo
 | bl a =>
  cases ry;cases x with
  | non=>cases rx;exact SeqAt.EqAt.bool_none a
  | bl b=>cases rx;exact SeqAt.EqAt.bool_bool a b
  | int b=>obtain⟨t,rfl⟩:=rx;exact SeqAt.EqAt.bool_int a b t
  | str b=>obtain⟨t,rfl⟩:=rx;exact SeqAt.EqAt.bool_str a b t
  | _=>exact absurd (show false=true from fx) zo
 | int a =>
  obtain⟨t',rfl⟩:=ry;cases x with
  | non=>cases rx;exact SeqAt.EqAt.int_none a t'
  | bl b=>cases rx;exact SeqAt.EqAt.int_bool a t' b
  | int b=>obtain⟨t,rfl⟩:=rx;exact SeqAt.EqAt.int_int a t' b t
  | str b=>obtain⟨t,rfl⟩:=rx;exact SeqAt.EqAt.int_str a t' b t
  | _=>exact absurd (show false=true from fx) zo
 | str a =>
  obtain⟨t',rfl⟩:=ry;cases x with
  | non=>cases rx;exact SeqAt.EqAt.str_none a t'
  | bl b=>cases rx;exact SeqAt.EqAt.str_bool a t' b
  | int b=>obtain⟨t,rfl⟩:=rx;exact SeqAt.EqAt.str_int a t' b t
  | str b=>obtain⟨t,rfl⟩:=rx;exact SeqAt.EqAt.str_str a t' b t
  | _=>exact absurd (show false=true from fx) zo
 | _=>exact absurd (show false=true from fy) zo
def eqU (x:V)(u:Value):Bool:=match u with
 | .none=>eqV .non x
 | .bool b=>eqV (.bl b) x
 | .int i _=>eqV (.int i) x
 | .str z _=>eqV (.str z) x
 | _=>false
theorem eqU_of {x y:V}{u:Value}(r:RelV y u)(f:flatV y=true):eqU x u=eqV y x:=by
 cases y with
 | non=>cases r;rfl
 | bl b=>cases r;rfl
 | int i=>obtain⟨t,rfl⟩:=r;rfl
 | str z=>obtain⟨t,rfl⟩:=r;rfl
 | _=>exact absurd (show false=true from f) zo
theorem mem_eqAt {A:Around}{s:Shared}{x:V}{v:Value}(rx:RelV x v)(fx:flatV x=true):∀ {xs:List V} {us:List Value},Vals xs us->xs.all flatV=true->∀ u∈us,SeqAt.EqAt A s u v (eqU x u)
 | _,_,.nil,_=>fun u hu=>by cases hu
 | y::xs,u::us,.cons r t,f=>fun u' hu=>by
  rw[yq,zk]at f;rcases zO.mp hu with rfl | hu
  ·rw[eqU_of r f.1];exact eqAt_V r rx f.1 fx
  ·exact mem_eqAt rx fx t f.2 u' hu
theorem call_len_seq:CallR X (.builtin "len") (fun xs H Q=>∃ p ys,xs=[.ref p]/\(SqL X.K H p ys\/SqT X.K H p ys)/\Q (.int ys.length) H):=by
 intro pins s σ H xs us Q I r h;obtain⟨p,ys,rfl,hq,q⟩:=h;obtain⟨u,rfl,rx⟩:=vals1 r;cases rx;have hn:=line63;rcases hq with hq | hq
 ·obtain⟨its,r',pl,hz⟩:=I.list hq
  have hlen:=r'.length;exact Calls.call_len_list pl.isList (by simp only[zm] <;> omega) ⟨.int ys.length,H,I.tok _,⟨s.toks + 1,by rw[zm,hlen]⟩,q⟩
 ·obtain⟨its,r',pl,hz⟩:=I.tuple hq
  have hlen:=r'.length;exact len_tuple pl (by simp only[zm] <;> omega) ⟨.int ys.length,H,I.tok _,⟨s.toks + 1,by rw[zm,hlen]⟩,q⟩
theorem call_len_str:CallR X (.builtin "len") (fun xs H Q=>∃ z,xs=[.str z]/\z.length<=zn/\Q (.int z.length) H):=by
 intro pins s σ H xs us Q I r h;obtain⟨z,rfl,hz,q⟩:=h;obtain⟨u,rfl,t,rfl⟩:=vals1 r;have hn:=line63;exact len_str (by first | lia | omega) ⟨.int z.length,H,I.tok _,⟨_,rfl⟩,q⟩
theorem call_list_of:CallR X (.type "list") (fun xs H Q=>∃ p ys,xs=[.ref p]/\(SqL X.K H p ys\/SqT X.K H p ys)/\∀ l,H l=none->Q (.ref l) (upd H l (.lst ys))):=by
 intro pins s σ H xs us Q I r h;obtain⟨p,ys,rfl,hq,q⟩:=h;obtain⟨u,rfl,rx⟩:=vals1 r;cases rx;have fin:∀ (its:List Value),Vals ys its->ys.length<=zn->∀ (h':Heap) (c':Nat),(∀ b o',s.heap.get? b=some o'->h'.get? b=some o') ->
   h'.get? s.heap.objs.size=some { cls:=.type "list",dict:=none,data:=.seq its.toArray c',slots:=#[] }->EP X pins σ Q (.ref s.heap.objs.size) { s with heap:=h' }:=fun its r' hz h' c' kp e =>
  ⟨.ref s.heap.objs.size,_,I.laid (t':=s.toks) kp (zp _) (show ObjOk X.prog X.w _ h' _ (.lst ys) from ⟨hz,its,c',r',e⟩),rfl,q _ (I.hok.fresh (zp _))⟩
 rcases hq with hq | hq
 ·obtain⟨its,r',pl,hz⟩:=I.list hq
  have hlen:=r'.length;obtain⟨o,ho,hc,n,hd⟩:=pl.isList;exact call_list_seq p (.inl rfl) ho hc hd (fun h' c' kp e=>fin its r' hz h' c' kp e) (by simp only[zm] <;> omega)
 ·obtain⟨its,r',pl,hz⟩:=I.tuple hq
  have hlen:=r'.length;obtain⟨o,ho,hc,n,hd⟩:=pl;exact call_list_seq p (.inr rfl) ho hc hd (fun h' c' kp e=>fin its r' hz h' c' kp e) (by simp only[zm] <;> omega)
theorem call_tuple_of:CallR X (.type "tuple") (fun xs H Q=>∃ p ys,xs=[.ref p]/\((SqL X.K H p ys/\∀ l,H l=none->Q (.ref l) (upd H l (.tup ys)))\/(SqT X.K H p ys/\Q (.ref p) H))):=by
 intro pins s σ H xs us Q I r h;obtain⟨p,ys,rfl,h⟩:=h;obtain⟨u,rfl,rx⟩:=vals1 r;cases rx;rcases h with ⟨hq,q⟩|⟨hq,q⟩
 ·obtain⟨its,r',pl,hz⟩:=I.list hq
  have hlen:=r'.length;refine call_tuple_list pl.isList (fun h' kp=>?_) (by simp only[zm] <;> omega);have I1:Inv X pins σ H { s with heap:=h' }:=I.kept (t':=s.toks) kp;have I2:Inv X pins σ (upd H h'.objs.size (.tup ys)) { s with heap:=h'.push { cls:=.type "tuple",data:=.seq its.toArray } } :=
   I1.laid (t':=s.toks) (fun b o e=>zv _ e) (zp _) (show ObjOk X.prog X.w _ _ _ (.tup ys) from ⟨hz,its,r',TupN.new _ _⟩)
  exact⟨.ref h'.objs.size,_,I2,rfl,q _ (I1.hok.fresh (zp _))⟩
 ·obtain⟨its,r',pl,hz⟩:=I.tuple hq
  exact call_tuple_same pl ⟨.ref p,H,I,rfl,q⟩
def tyV (K:PySem.W.Frag)(T:String)(x:V)(H:Hp):Prop:=match x with
 | .str _=>T = "str"
 | .int _=>T = "int"
 | .ref p=>(T = "list"/\∃ xs,SqL K H p xs)\/(T = "tuple"/\∃ o,K.lookup p=some o/\o.cls=.type "tuple"/\o.dict=none) \/
   (T = "dict"/\((∃ kvs,H p=some (.dK kvs))\/∃ kvs,H p=some (.dT kvs)))\/(T = "set"/\∃ S n,H p=some (.set S n))
 | _=>False
theorem tyV_is {pins:List (Addr×Obj)}{σ:St}{H:Hp}{s:Shared}{T:String}{x:V}{v:Value}(I:Inv X pins σ H s)(r:RelV x v)(ty:tyV X.K T x H) :
  s.TypeIs v T/\∀ a,v=.ref a->∃ ob,s.heap.get? a=some ob/\ob.dict=none:=by
 cases x with
 | str z =>
  obtain⟨t,rfl⟩:=r;cases (show T = "str" from ty);exact⟨typeIs_str s z t,fun _ e=>nomatch e⟩
 | int i =>
  obtain⟨t,rfl⟩:=r;cases (show T = "int" from ty);exact⟨typeIs_int s i t,fun _ e=>nomatch e⟩
 | ref p =>
  cases r;rcases ty with ⟨rfl,xs,hq⟩|⟨rfl,o,hk,hc,hd⟩|⟨rfl,hk⟩|⟨rfl,S,n,hk⟩
  ·obtain⟨its,_,pl,_⟩:=I.list hq
   refine⟨pl.isList.typeIs,fun a e=>?_⟩;cases e;obtain⟨o,n,e,c,hd,_⟩:=pl;exact⟨o,e,hd⟩
  ·refine⟨⟨o,I.kIn p o hk,hc⟩,fun a e=>?_⟩
   cases e;exact⟨o,I.kIn _ o hk,hd⟩
  ·have z:∃ o,s.heap.get? p=some o/\o.ExactDict:=by
    rcases hk with ⟨kvs,hk⟩|⟨kvs,hk⟩
    ·obtain⟨_,_,_,_,o,_,_,e,ex,_⟩:=I.hok p _ hk
     exact⟨o,e,ex⟩
    ·obtain⟨_,_,_,_,o,_,_,e,ex,_⟩:=I.hok p _ hk
     exact⟨o,e,ex⟩
   obtain⟨o,e,ex⟩:=z;refine⟨⟨o,e,ex.1⟩,fun a e2=>?_⟩;cases e2;exact⟨o,e,ex.2.1⟩
  ·obtain⟨o,_,_,_,e,ex,_⟩:=I.hok p _ hk
   refine⟨⟨o,e,ex.1⟩,fun a e2=>?_⟩;cases e2;exact⟨o,e,ex.2.1⟩
 | _=>exact False.elim ty
variable {o e:Expr}{es:List Expr}{to:TE}{t:TA}{name:Str}{apos cpos:Pos}{T id:String}{r:V->List V->Hp->VK->Prop}
/- xs.append(e),list.index on a module's tuple .. are MtR facts of 06m -/
end
end L2
namespace L2
open PySem PySem.Spec PyProof.Rows
def MtM (X:Cx)(id:String)(r:V->List V->Hp->VK->Prop):Prop :=
 ∀ (pins:List (Addr×Obj)) (s:Shared) (σ:St) (H:Hp) (x:V) (xs:List V) (v:Value) (us:List Value) (Q:VK),Inv X pins σ H s->RelV x v->Vals xs us->r x xs H Q ->
  wpAny (model X.prog X.w) X.A (call (.builtin id) (v::us)) (EP X pins σ Q) X.xe s
theorem Vals.one:∀ {x:V} {us:List Value},Vals [x] us->∃ u,us=[u]/\RelV x u
 | _,_,.cons r .nil=>⟨_,rfl,r⟩
theorem Vals.two:∀ {x y:V} {us:List Value},Vals [x,y] us->∃ u v,us=[u,v]/\RelV x u/\RelV y v:=by
 intro x y us h;cases h with
 | cons r h =>
 cases h with
 | cons q h =>
 cases h;exact⟨_,_,rfl,r,q⟩
section
variable {X:Cx}{pins:List (Addr×Obj)}{σ:St}{H:Hp}{s:Shared}{l b:Addr}{xs ys zs:List V}
theorem Inv.lset {its its':List Value}{n:Nat}{f:Array Value->Array Value}{t':Nat}(I:Inv X pins σ H s)(hH:H l=some (.lst xs))
  (e:s.heap.get? l=some { cls:=.type "list",data:=.seq its.toArray n }) (hf:f its.toArray=its'.toArray) (hv:Vals ys its') (hz:ys.length<=zn) :
  Inv X pins σ (upd H l (.lst ys)) { s with heap:=s.heap.update l (Obj.mapSeq f),toks:=t' }:=by
 have q:=PySem.IsL.update e f;rw[hf]at q;refine I.write (x:=l) (e:=l) (by rw[hH];exact trivial) (.inl rfl) (fun b' u hb hu=>(yB s.heap (Obj.mapSeq f) (Ne.symm hb)).trans hu) ⟨_,q⟩ ?_;exact⟨hz,its',_,hv,q⟩
theorem Inv.lnew {its:List Value}{t':Nat}(I:Inv X pins σ H s)(hv:Vals ys its)(hz:ys.length<=zn) :
  Inv X pins σ (upd H s.heap.objs.size (.lst ys)) { s with heap:=s.heap.push { cls:=.type "list",data:=.seq its.toArray },toks:=t' } :=
 I.laid (fun _ _ q=>zv _ q) (zp _) ⟨hz,its,0,hv,zj _ rfl⟩
theorem Inv.fresh (I:Inv X pins σ H s):H s.heap.objs.size=none:=I.hok.fresh (zp _)
theorem Inv.lstM (I:Inv X pins σ H s)(hH:H l=some (.lst xs)):xs.length<=zn/\∃ (its:List Value) (n:Nat),Vals xs its/\xs.length=its.length/\s.heap.get? l=some { cls:=.type "list",data:=.seq its.toArray n }:=by
 obtain⟨z,its,n,r,e⟩:=I.hok l _ hH;exact⟨z,its,n,r,r.length,e⟩
theorem notLongL {n:Nat}(h:n<=zn):Builtin.List.listTooLong n=false:=by
 unfold Builtin.List.listTooLong;exact decide_eq_false (by first | lia | omega)
end
section
variable {X:Cx}
def rAppend:V->List V->Hp->VK->Prop:=fun x vs H Q=>∃ l xs y,x=.ref l/\vs=[y]/\H l=some (.lst xs)/\xs.length < zn/\Q .non (upd H l (.lst (xs++[y])))
theorem mt_append:MtM X "list.append" rAppend:=by
 intro pins s σ H x vs v us Q I rx rv h;obtain⟨l,xs,y,rfl,rfl,hH,hz,q⟩:=h;cases rx;obtain⟨u,rfl,ru⟩:=rv.one;obtain⟨z,its,n,r,hl,e⟩:=I.lstM hH;refine call_meets F.slot_list_append ⟨_,e,rfl⟩ F.entry_list_append (F.args_list_append_2 _ _) (PySem.list_append l its.toArray n u (by rw[zm];omega)) ⟨e,?_⟩;refine⟨.non,_,I.lset (its':=its++[u]) hH e (by simp) (r.append (.cons ru .nil)) ?_,rfl,q⟩;rw[zq,xI];first | lia | omega
def rExtend:V->List V->Hp->VK->Prop:=fun x vs H Q=>∃ l b xs zs,x=.ref l/\vs=[.ref b]/\H l=some (.lst xs)/\H b=some (.lst zs)/\xs.length + zs.length<=zn/\Q .non (upd H l (.lst (xs++zs)))
theorem mt_extend:MtM X "list.extend" rExtend:=by
 intro pins s σ H x vs v us Q I rx rv h;obtain⟨l,b,xs,zs,rfl,rfl,hH,hB,hz,q⟩:=h;cases rx;obtain⟨u,rfl,ru⟩:=rv.one;cases ru;obtain⟨z,its,n,r,hl,e⟩:=I.lstM hH;obtain⟨z2,its2,n2,r2,hl2,e2⟩:=I.lstM hB;have hsz:its.toArray.size + its2.toArray.size<=zn:=by rw[zm,zm];omega
 have hlong:¬ (!its.toArray.isEmpty&&Builtin.List.listTooLong (its.toArray.size + its2.toArray.size))=true:=by
  rw[notLongL hsz,wQ];exact zo
 refine call_meets F.slot_list_extend ⟨_,e,rfl⟩ F.entry_list_extend (F.args_list_extend_2 _ _)
  (AutoSeq1.list_extend_list_list_0 l its.toArray n b its2.toArray n2 hlong (by rw[zm];omega) (by first | lia | omega)) ⟨e,e2,?_⟩
 refine⟨.non,_,I.lset (its':=its++its2) hH e (by simp) (r.append r2) ?_,rfl,q⟩;rw[zq];first | lia | omega
def rCat:R2:=fun x y H Q=>∃ l b xs zs,x=.ref l/\y=.ref b/\H l=some (.lst xs)/\H b=some (.lst zs)/\xs.length + zs.length<=zn/\∀ p,H p=none->Q (.ref p) (upd H p (.lst (xs++zs)))
theorem op_cat:OpR X (binaryOp .Add) rCat:=by
 intro pins s σ H x y v u Q I rx ry h;obtain⟨l,b,xs,zs,rfl,rfl,hH,hB,hz,q⟩:=h;cases rx;cases ry;obtain⟨z,its,n,r,hl,e⟩:=I.lstM hH;obtain⟨z2,its2,n2,r2,hl2,e2⟩:=I.lstM hB;refine PySem.P.add_list e e2 ?_ (by rw[zm,zm];omega);have ea:its.toArray++its2.toArray=(its++its2).toArray:=by simp
 rw[ea];exact⟨.ref _,_,I.lnew (t':=s.toks) (r.append r2) (by rw[zq];omega),rfl,q _ I.fresh⟩
end
section
variable {prog:Program}{w:World}{A:Around}{E:Value->Shared->Prop}{s:Shared}
set_option maxRecDepth 100000 in
end
section
variable {X:Cx}
end
end L2
namespace L2
open PySem PySem.Spec PyProof.Rows
section
variable {κ:Type}[DecidableEq κ]
def valV (kvs:List (κ×V))(k:κ):Option V:=(kvs.find? fun kv=>decide (kv.1=k)).map (·.2)
def putK (kvs:List (κ×V))(k:κ)(v:V):List (κ×V) :=
 if (kvs.any fun kv=>decide (kv.1=k))=true then kvs.map (fun kv=>if kv.1=k then (kv.1,v) else kv) else kvs++[(k,v)]
theorem valV_pos {p:κ×V}{r:List (κ×V)}{k:κ}(e:p.1=k):valV (p::r) k=some p.2:=by simp[valV,yL,e]
theorem valV_neg {p:κ×V}{r:List (κ×V)}{k:κ}(e:¬ p.1=k):valV (p::r) k=valV r k:=by simp[valV,yL,e]
theorem valV_any (k:κ):∀ kvs:List (κ×V),(kvs.any fun kv=>decide (kv.1=k))=(valV kvs k).isSome
 | []=>rfl
 | p::r=>by
  rw[xq];by_cases e:p.1=k
  ·simp only[valV_pos e,decide_eq_true e,Bool.true_or,Option.isSome_some]
  ·rw[valV_neg e,decide_eq_false e,Bool.false_or];exact valV_any k r
theorem length_putK (kvs:List (κ×V))(k:κ)(v:V):(putK kvs k v).length<=kvs.length + 1:=by
 unfold putK;split
 ·rw[zw];omega
 ·rw[zq,zE,xt];omega
theorem RelO.isSome_eq {o:Option V}{u:Option Value}(r:RelO o u):o.isSome=u.isSome:=by
 cases o with
 | none=>cases u with
  | none=>rfl
  | some _=>exact(show False from r).elim
 | some _=>cases u with
  | none=>exact(show False from r).elim
  | some _=>rfl
theorem KV.val {kvs:List (κ×V)}{vs:List (κ×Value)}(r:KV kvs vs)(k:κ):RelO (valV kvs k) (valueAt vs k):=by
 unfold KV at r;induction r with
 | nil=>exact True.intro
 | @cons p q ps qs h t ih =>
  obtain⟨h1,h2⟩:=h;by_cases e:p.1=k
  ·have e':q.1=k:=h1.symm.trans e
   have b:valueAt (q::qs) k=some q.2:=by simp[valueAt,yL,e']
   rw[valV_pos e,b];exact h2
  ·have e':¬ q.1=k:=fun z=>e (h1.trans z)
   have b:valueAt (q::qs) k=valueAt qs k:=by simp[valueAt,yL,e']
   rw[valV_neg e,b];exact ih
theorem KV.any {kvs:List (κ×V)}{vs:List (κ×Value)}(r:KV kvs vs)(k:κ):(kvs.any fun kv=>decide (kv.1=k))=vs.any fun kv=>decide (kv.1=k):=by
 unfold KV at r;induction r with
 | nil=>rfl
 | cons h t ih=>rw[xq,xq,ih,h.1]
theorem KV.repl {kvs:List (κ×V)}{vs:List (κ×Value)}(r:KV kvs vs)(k:κ){y:V}{u:Value}(ry:RelV y u) :
  KV (kvs.map fun kv=>if kv.1=k then (kv.1,y) else kv) (vs.map fun kv=>if kv.1=k then (kv.1,u) else kv):=by
 unfold KV at r ⊢;induction r with
 | nil=>exact .nil
 | @cons p q ps qs h t ih =>
  rw[zH,zH];refine .cons ?_ ih;obtain⟨h1,h2⟩:=h;by_cases e:p.1=k
  ·rw[if_pos e,if_pos (h1.symm.trans e)];exact⟨h1,ry⟩
  ·rw[if_neg e,if_neg (fun z=>e (h1.trans z))];exact⟨h1,h2⟩
theorem KV.put {kvs:List (κ×V)}{vs:List (κ×Value)}(r:KV kvs vs)(k:κ){y:V}{u:Value}(ry:RelV y u):KV (putK kvs k y) (stored vs k u):=by
 unfold putK stored;rw[r.any k];by_cases e:(vs.any fun kv=>decide (kv.1=k))=true
 ·rw[if_pos e,if_pos e];exact r.repl k ry
 ·rw[if_neg e,if_neg e];exact Paired.snoc r ⟨rfl,ry⟩
theorem KV.length {kvs:List (κ×V)}{vs:List (κ×Value)}(r:KV kvs vs):kvs.length=vs.length:=Paired.length r
end
theorem kV_is {P:Program}{w:World}{k:Key}{u:Value}(r:RelV (kV k) u):(mixKind P w).is k u=true:=by
 cases k with
 | inl i=>obtain⟨t,e⟩:=(show ∃ t,u=Value.int i t from r);subst e;exact mixKind_int P w i t
 | inr x=>obtain⟨t,e⟩:=(show ∃ t,u=Value.str x t from r);subst e;exact mixKind_str P w x t
theorem items_are {P:Program}{w:World}:∀ {ks:List Key} {us:List Value},Vals (ks.map kV) us->ItemsAre (mixKind P w) ks us
 | [],_,r=>by rw[xk]at r;cases r;exact .nil
 | k::ks,_,r=>by
  rw[zH]at r;cases r with
  | cons h t=>exact .cons (kV_is h) (items_are t)
abbrev KT (H:Hp):List (List Key×V)->List (List Key×Addr×Value)->Prop:=Paired fun p q=>p.1=q.1/\H q.2.1=some (.tup (p.1.map kV))/\RelV p.2 q.2.2
theorem KT.val {H:Hp}{kvs:List (List Key×V)}{xs:List (List Key×Addr×Value)}(r:KT H kvs xs)(k:List Key):RelO (valV kvs k) ((atKey xs k).map (·.2)):=by
 induction r with
 | nil=>exact True.intro
 | @cons p q ps qs h t ih =>
  obtain⟨h1,_,h2⟩:=h;by_cases e:p.1=k
  ·have e':q.1=k:=h1.symm.trans e
   have b:atKey (q::qs) k=some q.2:=by simp[atKey,yL,e']
   rw[valV_pos e,b];exact h2
  ·have e':¬ q.1=k:=fun z=>e (h1.trans z)
   have b:atKey (q::qs) k=atKey qs k:=by simp[atKey,yL,e']
   rw[valV_neg e,b];exact ih
theorem KT.repl {H:Hp}{kvs:List (List Key×V)}{xs:List (List Key×Addr×Value)}(r:KT H kvs xs)(k:List Key){y:V}{u:Value}(ry:RelV y u) :
  KT H (kvs.map fun kv=>if kv.1=k then (kv.1,y) else kv) (xs.map (putAt k u)):=by
 induction r with
 | nil=>exact .nil
 | @cons p q ps qs h t ih =>
  rw[zH,zH];refine .cons ?_ ih;obtain⟨h1,h2,h3⟩:=h;unfold putAt;by_cases e:p.1=k
  ·rw[if_pos e,if_pos (h1.symm.trans e)];exact⟨h1,h2,ry⟩
  ·rw[if_neg e,if_neg (fun z=>e (h1.trans z))];exact⟨h1,h2,h3⟩
theorem KT.put {H:Hp}{kvs:List (List Key×V)}{xs:List (List Key×Addr×Value)}(r:KT H kvs xs)(k:List Key){b:Addr}{y:V}{u:Value}(hb:H b=some (.tup (k.map kV)))(ry:RelV y u) :
  KT H (putK kvs k y) (storedH xs k b u):=by
 have e:(kvs.any fun kv=>decide (kv.1=k))=(atKey xs k).isSome:=by
  rw[valV_any,(r.val k).isSome_eq,wo]
 unfold putK storedH;rw[e];by_cases q:(atKey xs k).isSome=true
 ·rw[if_pos q,if_pos q];exact r.repl k ry
 ·rw[if_neg q,if_neg q];exact Paired.snoc r ⟨rfl,hb,ry⟩
theorem KT.keeps {H H':Hp}{kvs:List (List Key×V)}{xs:List (List Key×Addr×Value)}(r:KT H kvs xs)(ht:∀ b ys,H b=some (.tup ys)->H' b=some (.tup ys)):KT H' kvs xs :=
 Paired.mapP r fun _ _ z=>⟨z.1,ht _ _ z.2.1,z.2.2⟩
section
variable {P:Program}{w:World}{H:Hp}{h:Heap}{a:Addr}
theorem rd_of {u:HO}(ok:HOk P w H h)(e:Rd H a u):ObjOk P w H h a u:=e.ok ok
theorem dk_rd {kvs:List (Key×V)}(ok:HOk P w H h)(e:Rd H a (.dK kvs)):kvs.length<=zn/\(a==sysModules)=false/\∃ vs,KV kvs vs/\h.DictOf (mixKind P w) a vs :=
 show ObjOk P w H h a (.dK kvs) from rd_of ok e
theorem dk_of {kvs:List (Key×V)}(ok:HOk P w H h)(e:H a=some (.dK kvs)):kvs.length<=zn/\(a==sysModules)=false/\∃ vs,KV kvs vs/\h.DictOf (mixKind P w) a vs:=dk_rd ok (.inl e)
theorem key_of {ks:List Key}(ok:HOk P w H h)(e:H a=some (.tup (ks.map kV))):(tupleKind (mixKind P w)).is h ks a:=by
 obtain⟨_,its,r,⟨o,h1,h2,n,h3⟩,_⟩:=(show ObjOk P w H h a (.tup (ks.map kV)) from ok a _ e);exact⟨o,its.toArray,n,h1,h2,h3,by simpa using items_are r⟩
theorem dt_rd {kvs:List (List Key×V)}(ok:HOk P w H h)(e:Rd H a (.dT kvs)):kvs.length<=zn/\(a==sysModules)=false /\
  ∃ xs,KT H kvs xs/\h.DictOfH (tupleKind (mixKind P w)) a xs:=by
 obtain⟨z,y,xs,r,o,es,ep,h1,h2,h3,h4,h5⟩:=(show ObjOk P w H h a (.dT kvs) from rd_of ok e);refine⟨z,y,xs,r,o,es,ep,h1,h2,h3,h4,fun x hx=>?_,h5⟩;have all:∀ {l:List (List Key×V)} {m:List (List Key×Addr×Value)},KT H l m->∀ x∈m,(tupleKind (mixKind P w)).is h x.1 x.2.1:=by
  intro l m q;induction q with
  | nil=>intro x hx;exact nomatch hx
  | @cons p q ps qs hq t ih =>
   intro x hx;rcases zO.mp hx with e | hx
   ·subst e
    exact key_of ok (by rw[<- hq.1];exact hq.2.1)
   ·exact ih x hx
 exact all r x hx
theorem dt_of {kvs:List (List Key×V)}(ok:HOk P w H h)(e:H a=some (.dT kvs)):kvs.length<=zn/\(a==sysModules)=false /\
  ∃ xs,KT H kvs xs/\h.DictOfH (tupleKind (mixKind P w)) a xs:=dt_rd ok (.inl e)
end
def DGet (H:Hp)(a:Addr)(y:V)(r:Option V):Prop :=
 (∃ kvs k,Rd H a (.dK kvs)/\y=kV k/\r=valV kvs k)\/∃ kvs k b,Rd H a (.dT kvs)/\y=.ref b/\H b=some (.tup (k.map kV))/\r=valV kvs k
def DPut (H:Hp)(a:Addr)(y v:V)(H':Hp):Prop :=
 (∃ kvs k,H a=some (.dK kvs)/\y=kV k/\kvs.length < zn/\H'=upd H a (.dK (putK kvs k v))) \/
 ∃ kvs k b,H a=some (.dT kvs)/\y=.ref b/\H b=some (.tup (k.map kV))/\kvs.length < zn/\H'=upd H a (.dT (putK kvs k v))
theorem DGet.k {H:Hp}{a:Addr}{kvs:List (Key×V)}{k:Key}(e:H a=some (.dK kvs)):DGet H a (kV k) (valV kvs k):=.inl ⟨kvs,k,.inl e,rfl,rfl⟩
theorem DPut.k {H:Hp}{a:Addr}{kvs:List (Key×V)}{k:Key}{v:V}(e:H a=some (.dK kvs))(hl:kvs.length < zn):DPut H a (kV k) v (upd H a (.dK (putK kvs k v))):=.inl ⟨kvs,k,e,rfl,hl,rfl⟩
section
variable {X:Cx}{pins:List (Addr×Obj)}{σ:St}{H:Hp}{s:Shared}{a:Addr}{y v:V}{u r:Value}{o:Option V}{A:Around}{E:Value->Shared->Prop}
theorem Inv.big (I:Inv X pins σ H s):sysModules < s.heap.objs.size:=by
 have h:mainGlobals < s.heap.objs.size:=(I.mod.glob.keeps I.bk).lt;exact vW (by decide) h
theorem d_getItem {Q:Value->Shared->Prop}(hu:A.units + 1 < cLine)(I:Inv X pins σ H s)(g:DGet H a y (some v))(ry:RelV y u)(h:∀ w' s',Inv X pins σ H s'->RelV v w'->Q w' s') :
  wpAny (model X.prog X.w) A (getItem (.ref a) u) Q E s:=by
 rcases g with ⟨kvs,k,e,ey,l⟩|⟨kvs,k,b,e,ey,eb,l⟩
 ·subst ey
  obtain⟨z,hd,vs,rel,dd⟩:=dk_rd I.hok e;obtain⟨w',hw,rw'⟩:=RelO.some_of (v:=v) (o:=valueAt vs k) (by rw[l];exact rel.val k);exact wpAny_getItem_of (kV_is ry) dd.mapOf hw (h w' _ (I.tok _) rw')
 ·subst ey
  cases (show u=Value.ref b from ry);obtain⟨z,hd,xs,rel,dd⟩:=dt_rd I.hok e;obtain⟨w',hw,rw'⟩:=RelO.some_of (v:=v) (o:=(atKey xs k).map (·.2)) (by rw[l];exact rel.val k);obtain⟨p,hp,hp2⟩:=zg.mp hw;refine wpAny_getItem_heap (tupleKind_room_in1 hu) (key_of I.hok eb) dd hp ?_;rw[hp2];exact h w' _ (I.tok _) rw'
theorem d_in {Q:Value->Shared->Prop}(hu:A.units + 1 < cLine)(I:Inv X pins σ H s)(g:DGet H a y o)(ry:RelV y u)(h:∀ s',Inv X pins σ H s'->Q (.bool o.isSome) s') :
  wpAny (model X.prog X.w) A (compareOp .In u (.ref a)) Q E s:=by
 rcases g with ⟨kvs,k,e,ey,l⟩|⟨kvs,k,b,e,ey,eb,l⟩
 ·subst ey
  obtain⟨z,hd,vs,rel,dd⟩:=dk_rd I.hok e;refine wpAny_in_of (kV_is ry) hd dd.mapOf ?_;rw[<- (rel.val k).isSome_eq,<- l];exact h _ (I.tok _)
 ·subst ey
  cases (show u=Value.ref b from ry);obtain⟨z,hd,xs,rel,dd⟩:=dt_rd I.hok e;refine wpAny_in_heap (tupleKind_room_in1 hu) (key_of I.hok eb) hd dd ?_;have q:=(rel.val k).isSome_eq;rw[wo]at q;rw[<- q,<- l];exact h _ (I.tok _)
theorem d_notIn {Q:Value->Shared->Prop}(hu:A.units + 1 < cLine)(I:Inv X pins σ H s)(g:DGet H a y o)(ry:RelV y u)(h:∀ s',Inv X pins σ H s'->Q (.bool (!o.isSome)) s') :
  wpAny (model X.prog X.w) A (compareOp .NotIn u (.ref a)) Q E s:=by
 rcases g with ⟨kvs,k,e,ey,l⟩|⟨kvs,k,b,e,ey,eb,l⟩
 ·subst ey
  obtain⟨z,hd,vs,rel,dd⟩:=dk_rd I.hok e;refine wpAny_notIn_of (kV_is ry) hd dd.mapOf ?_;rw[<- (rel.val k).isSome_eq,<- l];exact h _ (I.tok _)
 ·subst ey
  cases (show u=Value.ref b from ry);obtain⟨z,hd,xs,rel,dd⟩:=dt_rd I.hok e;refine wpAny_notIn_heap (tupleKind_room_in1 hu) (key_of I.hok eb) hd dd ?_;have q:=(rel.val k).isSome_eq;rw[wo]at q;rw[<- q,<- l];exact h _ (I.tok _)
theorem d_write {h':Heap}{t':Nat}{ob:HO}(I:Inv X pins σ H s)(mu:Mut (H a))(hs:Heap.SameBut a s.heap h')(he:∃ q,h'.get? a=some q)(new:ObjOk X.prog X.w (upd H a ob) h' a ob) :
  Inv X pins σ (upd H a ob) { s with heap:=h',toks:=t' } :=
 I.write (x:=a) (e:=a) mu (.inl rfl) (fun b q hb z=>(hs.2 b hb).trans z) he new
theorem dk_new {P:Program}{w:World}{H':Hp}{h':Heap}{kvs:List (Key×V)}{vs:List (Key×Value)}(z:kvs.length<=zn)(hd:(a==sysModules)=false)(rel:KV kvs vs)(dd:h'.DictOf (mixKind P w) a vs) :
  ObjOk P w H' h' a (.dK kvs):=⟨z,hd,vs,rel,dd⟩
theorem d_setItem {H':Hp}{Q:Unit->Shared->Prop}(hu:A.units + 1 < cLine)(I:Inv X pins σ H s)(g:DPut H a y v H')(ry:RelV y u)(rv:RelV v r)(h:∀ s',Inv X pins σ H' s'->Q () s') :
  wpAny (model X.prog X.w) A (setItem (.ref a) u r) Q E s:=by
 rcases g with ⟨kvs,k,e,ey,l,eH⟩|⟨kvs,k,b,e,ey,eb,l,eH⟩
 ·subst ey eH
  obtain⟨z,hd,vs,rel,dd⟩:=dk_of I.hok e;have hz:vs.length<=zn:=by rw[<- rel.length];exact z
  have hl:(putK kvs k v).length<=zn:=by have:=length_putK kvs k v;omega
  refine wpAny_setItem_pairs (hsz:=hz) (kV_is ry) dd fun h' dd' hs=>h _ ?_;have he:∃ q,h'.get? a=some q:=let ⟨q,_,_,hq,_⟩:=dd';⟨q,hq⟩;exact d_write I (by rw[e];exact True.intro) hs he (dk_new hl hd (rel.put k rv) dd')
 ·subst ey eH
  cases (show u=Value.ref b from ry);obtain⟨z,hd,xs,rel,dd⟩:=dt_of I.hok e;have hz:xs.length<=zn:=by rw[<- Paired.length rel];exact z
  have hl:(putK kvs k v).length<=zn:=by have:=length_putK kvs k v;omega
  refine wpAny_setItem_heap (hsz:=hz) (tupleKind_room_in1 hu) (key_of I.hok eb) dd fun h' dd' hs=>h _ ?_;obtain⟨q,es,ep,hq,h2,h3,h4,_,h5⟩:=dd';refine d_write I (by rw[e];exact True.intro) hs ⟨q,hq⟩ ⟨hl,hd,_,(rel.put k eb rv).keeps fun c ys ec=>?_,q,es,ep,hq,h2,h3,h4,h5⟩;rw[upd_ne (ne_of ec e (fun z=>nomatch z))];exact ec
end
section
variable {X:Cx}{pins:List (Addr×Obj)}{σ:St}{H:Hp}{s:Shared}{a:Addr}{kvs:List (Key×V)}{k:Key}{u:Value}{A:Around}{E:Value->Shared->Prop}
theorem d_len {Q:Value->Shared->Prop}(I:Inv X pins σ H s)(e:Rd H a (.dK kvs))(h:∀ t s',Inv X pins σ H s'->Q (.int kvs.length t) s'):wpAny (model X.prog X.w) A (call (.builtin "len") [.ref a]) Q E s:=by
 obtain⟨z,hd,vs,rel,dd⟩:=dk_rd I.hok e;refine call_len_dict hd dd (by rw[<- rel.length];rw[sizeLine_eq]at z;omega) ?_;rw[<- rel.length];exact h _ _ (I.tok _)
end
theorem dict_typeIs {X:Cx}{pins:List (Addr×Obj)}{σ:St}{H:Hp}{s:Shared}{a:Addr}{y:V}{o:Option V}(I:Inv X pins σ H s)(g:DGet H a y o):s.TypeIs (.ref a) "dict":=by
 rcases g with ⟨kvs,k,e,_,_⟩|⟨kvs,k,b,e,_,_,_⟩
 ·obtain⟨_,_,vs,_,dd⟩:=dk_rd I.hok e
  exact dd.typeIs
 ·obtain⟨_,_,xs,_,dd⟩:=dt_rd I.hok e
  exact dd.typeIs
section
variable {X:Cx}{o i e value:Expr}{pos pos' tpos:Pos}{td ty tv:TE}
end
theorem dk_empty {P:Program}{w:World}{H:Hp}(h:Heap)(hb:sysModules < h.objs.size):ObjOk P w H (h.push { cls:=.type "dict",data:=.dict #[] }) h.objs.size (.dK []) :=
 ⟨zV _,beq_eq_false_iff_ne.mpr (Ne.symm (zB hb)),[],.nil,Heap.DictOf.new h⟩
def tDNewK:TE:=fun _ H Q=>∀ p,H p=none->Q (.ref p) (upd H p (.dK []))
section
variable {X:Cx}{pos:Pos}
theorem pe_dnewK:PE X (.Dict [] [] pos) tDNewK:=fun pins s σ H Q I h =>
 wpAny_Dict_empty ⟨.ref s.heap.objs.size,_,I.laid (a:=s.heap.objs.size) (o:=.dK []) (t':=s.toks) (fun _ _ q=>zv _ q) (zp _) (dk_empty s.heap I.big),rfl,h _ (I.hok.fresh (zp _))⟩
end
def tPairs:List (TE×TE)->St->Hp->(List (V×V)->Hp->Prop)->Prop
 | [],_,H,Q=>Q [] H
 | (tk,tv)::r,σ,H,Q=>tk σ H fun x H1=>tv σ H1 fun y H2=>tPairs r σ H2 fun ps H3=>Q ((x,y)::ps) H3
abbrev VV:List (V×V)->List (Value×Value)->Prop:=Paired fun p q=>RelV p.1 q.1/\RelV p.2 q.2
def PPs (X:Cx)(pos:Pos)(keys:List (Option Expr))(values:List Expr)(trs:List (TE×TE)):Prop :=
 ∀ (pins:List (Addr×Obj)) (s:Shared) (σ:St) (H:Hp) (Q:List (V×V)->Hp->Prop),Inv X pins σ H s->tPairs trs σ H Q ->
  wpAny (model X.prog X.w) X.A (evalPairs (pairTrees keys values X.env pos)) (fun vs s'=>∃ ps H',Inv X pins σ H' s'/\VV ps vs/\Q ps H') X.xe s
theorem pps_nil {X:Cx}{pos:Pos}:PPs X pos [] [] []:=fun pins s σ H Q I h=>pairTrees_nil_walk ⟨[],H,I,.nil,h⟩
theorem pps_cons {X:Cx}{pos:Pos}{k v:Expr}{ks:List (Option Expr)}{vs:List Expr}{tk tv:TE}{trs:List (TE×TE)}(hk:PE X k tk)(hv:PE X v tv)(hr:PPs X pos ks vs trs) :
  PPs X pos (some k::ks) (v::vs) ((tk,tv)::trs):=fun pins s σ H Q I h =>
 pairTrees_cons_walk (thn (hk pins s σ H _ I h) fun u s1 ⟨x,H1,I1,rx,q1⟩=>thn (hv pins s1 σ H1 _ I1 q1) fun w2 s2 ⟨y,H2,I2,ry,q2⟩ =>
  thn (hr pins s2 σ H2 _ I2 q2) fun ws s3 ⟨ps,H3,I3,rel,q3⟩=>⟨(x,y)::ps,H3,I3,.cons ⟨rx,ry⟩ rel,q3⟩)
def mergeK (kvs more:List (Key×V)):List (Key×V):=more.foldl (fun acc kv=>putK acc kv.1 kv.2) kvs
theorem KV.merge:∀ {more:List (Key×V)} {rs:List (Key×Value)} {kvs:List (Key×V)} {vs:List (Key×Value)},KV more rs->KV kvs vs->KV (mergeK kvs more) (merged vs rs):=by
 intro more rs kvs vs r;unfold KV at r;induction r generalizing kvs vs with
 | nil=>intro q;exact q
 | @cons p q ps qs h t ih =>
  intro r0;have e:KV (putK kvs p.1 p.2) (stored vs q.1 q.2):=by
   have:=r0.put p.1 h.2
   rw[<- h.1];exact this
  exact ih e
theorem length_mergeK:∀ (more kvs:List (Key×V)),(mergeK kvs more).length<=kvs.length + more.length
 | [],kvs=>by show kvs.length<=kvs.length + 0;omega
 | p::r,kvs=>by
  have h1:=length_mergeK r (putK kvs p.1 p.2);have h2:=length_putK kvs p.1 p.2;show (mergeK (putK kvs p.1 p.2) r).length<=_;rw[zE];omega
theorem carries_of {P:Program}{w:World}:∀ {kvs:List (Key×V)} {ws:List (Value×Value)},VV (kvs.map fun kv=>(kV kv.1,kv.2)) ws->∃ rs,Carries (mixKind P w) ws rs/\KV kvs rs
 | [],_,r=>by rw[xk]at r;cases r;exact⟨[],True.intro,.nil⟩
 | p::kvs,_,r=>by
  rw[zH]at r;cases r with
  | @cons a b as bs h t =>
   obtain⟨rs,c,q⟩:=carries_of (P:=P) (w:=w) t;obtain⟨b1,b2⟩:=b;exact⟨(p.1,b2)::rs,⟨kV_is h.1,rfl,c⟩,.cons ⟨rfl,h.2⟩ q⟩
def tDisp (trs:List (TE×TE)):TE:=fun σ H Q=>∀ p,H p=none->tPairs trs σ (upd H p (.dK [])) fun ps H2=>H2 p=some (.dK [])/\∃ kvs:List (Key×V),ps=kvs.map (fun kv=>(kV kv.1,kv.2))/\kvs.length<=15/\Q (.ref p) (upd H2 p (.dK (mergeK [] kvs)))
theorem pe_disp {X:Cx}{pos:Pos}{keys:List (Option Expr)}{values:List Expr}{trs:List (TE×TE)}(h:PPs X pos keys values trs)(hall:keys.all (·.isSome)=true)(hl:keys.length=values.length)(h0:keys≠[])
  (h15:keys.length<=15):PE X (.Dict keys values pos) (tDisp trs):=by
 intro pins s σ H Q I q;have hn:=I.hok.fresh (zp s.heap.objs.size);have I1:=I.laid (a:=s.heap.objs.size) (o:=.dK []) (h':=s.heap.push { cls:=.type "dict",data:=.dict #[] }) (t':=s.toks) (fun _ _ q=>zv _ q) (zp _) (dk_empty s.heap I.big);refine wpAny_Dict_walk (knd:=mixKind X.prog X.w) hall hl h0 h15 (thn (h pins _ σ _ _ I1 (q _ hn)) fun ws s2 ⟨ps,H2,I2,rel,e,kvs,ep,lk,q2⟩=>?_);subst ep;obtain⟨rs,c,rk⟩:=carries_of (P:=X.prog) (w:=X.w) rel;obtain⟨z,hd,vs0,r0,dd⟩:=dk_of I2.hok e;cases r0;refine⟨rs,c,dd,fun h' dd' hs=>⟨.ref s.heap.objs.size,_,?_,rfl,q2⟩⟩;have hz:(mergeK [] kvs).length<=zn:=by
  have h1:=length_mergeK kvs [];rw[xt]at h1;rw[sizeLine_eq];omega
 have he:∃ q,h'.get? s.heap.objs.size=some q:=let ⟨q,_,_,hq,_⟩:=dd';⟨q,hq⟩;exact d_write I2 (by rw[e];exact True.intro) hs he (dk_new hz hd (rk.merge .nil) dd')
section
variable {X:Cx}{pins:List (Addr×Obj)}{σ:St}{H:Hp}{s:Shared}{a:Addr}{y d:V}{u r:Value}{o:Option V}{A:Around}{E:Value->Shared->Prop}
end
section
variable {X:Cx}{o e f:Expr}{apos cpos:Pos}{td ty tx:TE}
end
section
variable {X:Cx}{pins:List (Addr×Obj)}{σ:St}{H:Hp}{s:Shared}{a:Addr}{kvs:List (Key×V)}{A:Around}{E:Value->Shared->Prop}
end
section
variable {X:Cx}{pins:List (Addr×Obj)}{σ:St}{H:Hp}{s:Shared}{a:Addr}{y:V}{u:Value}{A:Around}{E:Value->Shared->Prop}
end
end L2
namespace Att
open PySem PySem.W PySem.Calls PyProof.Rows
theorem ints_of_wellAll {P:Params}{h:Heap}:∀ (ns:List Int) (vs:List Value),WellAll P h vs (ns.map WData.int)->IntsAre vs ns:=by
 intro ns;induction ns with
 | nil =>
  intro vs w;rw[xk]at w;cases w;exact .nil
 | cons n ns ih =>
  intro vs w;rw[zH]at w;cases w with
  | cons a b =>
   cases a;exact .cons _ _ (ih _ b)
theorem script_of {l:OpenLaw}{n:Nat}(hn:l.most=some n){P:Params}{h:Heap}{args:List WData}{vals:List Value}
  (hpre:l.row.toRowW.claim.pre args=true) (hwl:WellAll P h vals args) :
  ∃ a vs ns,vals=[Value.ref a]/\args=[WData.list (ns.map WData.int)]/\h.get? a=some { cls:=.type "list",data:=.seq vs.toArray }/\IntsAre vs ns/\ns.length<=n:=by
 have hsh:WShape.hasAll [] args [.list .int]=true:=(pre_splitW hpre).1;have hc:l.pre.holds [] { args:=args }=true:=(pre_splitW hpre).2;obtain⟨d,r,rfl,h1,h2⟩:=hasAllW_cons hsh;obtain rfl:=hasAllW_nil h2;obtain⟨xs,rfl,h3⟩:=hasW_list h1;obtain⟨ns,rfl⟩:=items_int h3;have hlen:ns.length<=n:=by
  unfold OpenLaw.pre at hc;have h4:(WTm.not (.lt (.lit (.int (n:Int))) (.len (.arg 0)))).holds [] { args:=[.list (ns.map .int)] }=true:=by
   have h4:=(holds_andW hc).1;rw[hn]at h4;exact h4
  have h5:=condW_of h4 (w_not (w_lt w_lit (w_len_list (w_arg rfl))));rw[zw]at h5;refine vA fun q=>?_;have q':(n:Int) < ((ns.length:Nat):Int):=by first | lia | omega
  first
   | (rw[decide_eq_true q']at h5;exact absurd h5 (by decide))
   | (simp at h5;omega)
 cases hwl with
 | cons w1 w2 =>
  cases w2;cases w1 with
  | list ho hall=>exact⟨_,_,ns,rfl,rfl,ho,ints_of_wellAll ns _ hall,hlen⟩
theorem post_true (l:OpenLaw)(args:List WData):l.row.toRowW.claim.post args (.bool true) args=true :=
 postW_of (r:=l.row.toRowW) (X:=(true==true))
  (show WShape.has [] (.bool true) .bool=true by first | rfl | decide | simp[WShape.has,WShape.arms,WShape.armsAll])
  (show (WTm.eq .res (.lit (.bool true))).value [] { args:=args,res:=some (.bool true),after:=args }=some (.bool (true==true)) from w_eq_bool (w_res rfl) w_lit) rfl
theorem attach_call {l:OpenLaw}{n:Nat}{q:Program}{loose:List Str}{XP:(Str->Option Value)->Heap->Prop}{YP:World->Heap->Prop}{d:DefRec}
  (hn:l.most=some n) (hdf:d.params.defaults=[])
  (call:∀ (w:World) (s₀ s₁:Shared) (mg mb:Str->Option Value) (fa:Addr) (o:Obj) (pm cd doc:Value) (a:Addr) (vs:List Value) (ns:List Int),
   Ground q loose [] XP w s₀ mg mb s₁.heap->YP w s₁.heap ->
   s₁.heap.get? fa=some o->o.data=.func (docDef d.name d.params d.body d.scope pm cd doc)->s₁.heap.CodeRec cd d.name->mg d.name=some (.ref fa) ->
   s₁.heap.get? a=some { cls:=.type "list",data:=.seq vs.toArray }->IntsAre vs ns->ns.length<=n->s₁.gens = #[] ->
   codeAny (model l.prog w) callerA (.call (.ref fa) ⟨[.ref a],[]⟩) (fun r s'=>r=.ok (.ret (.bool true))/\OldK s₁.heap s'.heap/\s'.os=s₁.os/\AllBare s'.gens) s₁) :
  WalkO q loose XP YP l.row.toRowW d [] (fun f vs=>PySem.call f vs):=by
 intro w s₀ s₁ mg mb G Y fa o pm cd doc dV kV ho hd hcd hD hmg hg args vals as hpre hlay hrd hwl hlo;obtain rfl:dV=.none:=Dflts.none hD hdf;obtain rfl:kV=.none:=Dflts.noKw hD;obtain⟨a,vs,ns,rfl,rfl,hobj,hints,hlen⟩:=script_of hn hpre hwl;refine enter_call (codeAny_mono (call w s₀ s₁ mg mb fa o pm cd doc a vs ns G Y ho (fd_plain hd) hcd hmg hobj hints hlen hg) fun r s' hq=>?_);obtain⟨rfl,h2,h3,h4⟩:=hq;exact⟨.inl ⟨.bool true,.bool true,[],rfl,fun _=>rfl,.bool true,post_true l _,fun _=>⟨List.Pairwise.nil,fun _ hm=>(nomatch hm)⟩⟩,h2,h3,h4⟩
section
variable {prog:Program}{w:World}{A:Around}{E:Value->Shared->Prop}{s:Shared}{K:Frag}
end
end Att
namespace L2
open PySem PySem.Spec PyProof.Rows
theorem vals_ints:∀ {vs:List Value} {ns:List Int},IntsAre vs ns->Vals (ns.map V.int) vs
 | _,_,.nil=>.nil
 | _,_,.cons n t h=>.cons ⟨t,rfl⟩ (vals_ints h)
def Only (H:Hp):Prop:=∀ b,H b=none\/∃ o xs,H b=some (.frz o (.lst xs))
theorem law_call {P:Program}{w:World}{K:PySem.W.Frag}{mg mb:Str->Option Value}{CX:CXT}{k:Nat}{fa a:Addr}{fd:FuncData}{x:Str}{sp:Sp}{s₁:Shared}{vs:List Value}{ns:List Int}
  (KX:K.In s₁.heap) (hns:s₁.heap.Ns mainGlobals mg) (hb:s₁.heap.Ns builtinsNs mb) (hbb:∀ x:Str,x≠"__name__"->mb x=bootBuiltins x) (hlim:s₁.heap.NoLimit) (hg:s₁.gens = #[])
  (ha:s₁.heap.get? a=some { cls:=.type "list",data:=.seq vs.toArray }) (hi:IntsAre vs ns) (hl:ns.length<=zn) (hr:Room k callerA)
  (F:∀ base:Heap,K.In base->base.Ns mainGlobals mg->FnOk P w K mg base CX k fa fd [x] sp) (hbind:∀ (s:Shared) (u:Value),BindsTo s fd ⟨[u],[]⟩ [(x,u)])
  (hsp:∀ H:Hp,Only H->SqL K H a (ns.map V.int)->sp [.ref a] H (fun v _=>v=.bl true) fun _ _ _=>False)
  (hCX:∀ H e s',CX [] H s₁ (fun _ _ _=>False) e s'->False) :
  codeAny (model P w) callerA (.call (.ref fa) ⟨[.ref a],[]⟩) (fun r s'=>r=.ok (.ret (.bool true))/\OldK s₁.heap s'.heap/\s'.os=s₁.os/\AllBare s'.gens) s₁:=by
 have rv:=vals_ints hi;have lenV:=hi.length;have core:∀ H:Hp,Only H->SqL K H a (ns.map V.int)->HOk P w H s₁.heap->(∀ b,H b≠none->b=a)->(H a≠none->K.lookup a=none) ->
   codeAny (model P w) callerA (.call (.ref fa) ⟨[.ref a],[]⟩) (fun r s'=>r=.ok (.ret (.bool true))/\OldK s₁.heap s'.heap/\s'.os=s₁.os/\AllBare s'.gens) s₁:=by
  intro H hO hS hok hA hK;have base_of:∀ {b:Addr} {o:Obj},s₁.heap.get? b=some o->H b=none->(hidT s₁.heap H).get? b=some o:=fun e n=>hidT_get e n;have noA:∀ {b:Addr} {o:Obj} {es:Array DictEntry} {ep:Nat},s₁.heap.get? b=some o->o.data=.dict es ep->H b=none:=fun {b o es ep} e d=>by
   cases q:H b with
   | none=>rfl
   | some u =>
    have e':b=a:=hA b (by rw[q];simp);subst e';rw[ha]at e;cases e;have d':Data.seq vs.toArray _=Data.dict es ep:=d;cases d'
  have nsK:∀ {b:Addr} {m:Str->Option Value},s₁.heap.Ns b m->(hidT s₁.heap H).Ns b m:=fun {b m} ⟨o,es,ep,e,d,r⟩=>⟨o,es,ep,base_of e (noA e d),d,r⟩;have hKb:K.In (hidT s₁.heap H):=fun b o e=>base_of (KX b o e) (by
   cases q:H b with
   | none=>rfl
   | some u =>
    have e':b=a:=hA b (by rw[q];simp);subst e';rw[hK (by rw[q];simp)]at e;cases e)
  have hM:Mod K mg (hidT s₁.heap H):=⟨hKb,nsK hns,⟨mb,nsK hb,hbb⟩,let ⟨mc,h1,h2⟩:=hlim;⟨mc,nsK h1,h2⟩⟩;have e0:Env0 P w K mg (hidT s₁.heap H) callerA [] s₁ H:=⟨rfl,hM,fun b o e=>of_hidT e,yF (hidT_size _ _),trivial,fun b hb=>absurd (show b∈([]:List Addr) from hb) (by simp),hok,.of_eq hg⟩;refine codeAny_mono ((F _ hKb (nsK hns)).run callerA [] s₁ H ⟨[.ref a],[]⟩ [.ref a] [.ref a] _ _ hr e0 (hbind s₁ (.ref a)) (.cons rfl .nil) (hsp H hO hS)) fun r s' h=>?_;cases r with
  | error e=>exact(hCX H e s' h).elim
  | ok fl =>
   cases fl with
   | next=>exact False.elim h
   | brk=>exact False.elim h
   | cont=>exact False.elim h
   | ret u =>
    obtain⟨v,H',os,bare,un,hok',r',q⟩:=h;have q':v=.bl true:=q;subst q';obtain rfl:u=Value.bool true:=r';refine⟨rfl,OldK.of_keep fun b o e=>?_,os,bare⟩;cases q:H b with
    | none=>exact un.keep b o e q (by intro z;exact absurd (show b∈([]:List Addr) from z) (by simp)) (by simp)
    | some u =>
     rcases hO b with z | ⟨ob,xs,z⟩
     ·rw[q]at z;cases z
     ·have z2:=un.frzs b ob _ z
      obtain⟨e1,_⟩:=hok b _ z;obtain⟨e2,_⟩:=hok' b _ z2;rw[e]at e1;cases e1;exact e2
 cases hk:K.lookup a with
 | some o =>
  have e:=KX a o hk;rw[ha]at e;cases e;refine core (fun _=>none) (fun _=>.inl rfl) (.inr ⟨_,vs.toArray,_,hk,rfl,rfl,rfl,by rw[zm,lenV];exact hl,by simpa using rv⟩) (fun b u z=>by have z':(none:Option HO)=some u:=z;cases z') (fun b z=>absurd rfl z) fun z=>absurd rfl z
 | none =>
  refine core (fun b=>if b=a then some (.frz { cls:=.type "list",data:=.seq vs.toArray } (.lst (ns.map V.int))) else none) (fun b=>?_) (.inl (.inr ⟨{ cls:=.type "list",data:=.seq vs.toArray },if_pos rfl⟩)) (fun b u z=>?_) (fun b z=>?_) fun _=>hk
  ·by_cases hb:b=a
   ·exact .inr ⟨_,_,if_pos hb⟩
   ·exact .inl (if_neg hb)
  ·by_cases hb:b=a
   ·have z':=(if_pos hb).symm.trans z
    cases z';subst hb;exact⟨ha,by rw[zw];exact hl,vs,_,rv,ha⟩
   ·have z':=(if_neg hb).symm.trans z
    cases z'
  ·by_cases hb:b=a
   ·exact hb
   ·exact absurd (if_neg hb) z
end L2
namespace L2
open PySem PySem.Spec PyProof.Rows
end L2
/- THE LAST THEOREM (shape;LID,My.* are yours):
   My.Adr: a structure of the addresses that your layer names (classes,functions);My.Txt K t: a structure (Prop) of the equations over K;
   My.txt_mk:{K} {implicit addresses ..} (e1:nsIn K mainGlobals "law" = some (some (.ref f))) (e2:K.lookup f=some ⟨oc,od,.func (fnOf "law" "law" params body scope dV kV doc pm an cdv ct),sl⟩) (e3:codeIn K cdv "law" = true) .. : ∃ t,My.Txt K t
set_option maxRecDepth 100000 in
set_option maxHeartbeats 0 in
theorem PySem.Challenge.cw_LID_holds:PySem.Challenge.rw_LID.Holds:=by
 w_on;o_law;k_head;(case hw=>w_witness2)
 k_fill
 refine L2.walk_of (l:=PySem.Challenge.rw_LID) (n:=63) (k:=40) (x:="script") (CX:=fun w=>..) (sp:=fun _=>My.sp_law) rfl (by decide) rfl ⟨rfl,by decide,by decide⟩ (fun w h Y=>PySem.W.kIn_of Y) ?F ?S ?C
 case F =>
  intro w mg fa h KX G hmg;have T:∃ t,My.Txt (L2.KOf KX) t:=by
   dsimp only[L2.KOf]                          -- K must stand as «<heap const> w.params» for k_is
   refine' My.txt_mk ?e1 ?e2 ?e3 ..
   (case e1=>PySem.W.k_is)                    -- in the order: a name -> its address -> its object -> its parts
   (case e2=>PySem.W.k_is)
   ..
  obtain⟨t,T⟩:=T;have e0:=hmg.symm.trans (PySem.W.mg_of KX G T.law);cases e0                                       -- fa is the law's own address
  exact⟨_,fun s u=>.of_eq rfl,fun base kb nb=>My.law_fn T kb nb⟩     -- if «.of_eq rfl» comes too early: refine' ⟨_,?b,fun base kb nb=>My.law_fn T kb nb⟩;exact fun s u=>.of_eq rfl
 case S=>exact fun w H a ns hl hO hS=>..
 case C=>exact ..
(the tactic k_is has no namespace: write k_is) -/
namespace L2
open PySem PySem.Spec PyProof.Rows
def defArgs (s:Stmt):Arguments:=match s with
 | .FunctionDef _ a _ _ _ _ _ _ _ _=>a
 | _=>{ posonlyargs:=[],args:=[],vararg:=none,kwonlyargs:=[],kw_defaults:=[],kwarg:=none,defaults:=[] }
def defBody (s:Stmt):List Stmt:=match s with
 | .FunctionDef _ _ b _ _ _ _ _ _ _=>b
 | _=>[]
def defScope (s:Stmt):Scope:=match s with
 | .FunctionDef _ _ _ _ _ _ sc _ _ _=>sc
 | _=>{ kind:=.function,names:=[],isGenerator:=false,isCoroutine:=false }
abbrev CX0:CXT:=fun _ _ _ _ _ _=>False
abbrev E0:XK:=fun _ _ _=>False
theorem pass0 {X:Cx}:Passes CX0 X E0:=fun _ _ _ _ _ _ _ h=>h.elim
structure Fun (K:PySem.W.Frag) (x qual:Str) (st:Stmt) (f:Addr) (fd:FuncData):Prop where
 ex:∃ (oc:Value) (od:Option Addr) (kV doc pm:Value) (an:Option Addr) (cdv ct:Value) (osl:Array (Option Value)),
  fd=PySem.W.fnOf x qual (defArgs st) (defBody st) (defScope st) .none kV doc pm an cdv ct/\K.lookup f=some ⟨oc,od,.func fd,osl⟩/\PySem.W.codeIn K cdv qual=true
 kp:PySem.W.keepIn K (.ref f)=true
section
variable {P:Program}{w:World}{K:PySem.W.Frag}{mg:Str->Option Value}{base:Heap}
theorem Fun.ok {x qual:Str}{st:Stmt}{f:Addr}{fd:FuncData}{N ps:List Str}{k:Nat}{sp:Sp}(F:Fun K x qual st f fd)(S:FnScope N ps (defScope st))(len:∀ vs H Q E,sp vs H Q E->vs.length=ps.length)
  (hbody:∀ (cdv:Value) (A:Around) (outer:List Env) (s:Shared) (H:Hp) (vs:List V) (Q:VK) (E:XK),Room k (A.deeper (envOfC qual (defScope st) s.heap.objs.size f cdv))->sp vs H Q E ->
   ∃ t,PSs (cxOf CX0 P w K mg base N qual (defScope st) f cdv A outer s H E).nox (defBody st) t/\t { nx:=fun _ H'=>Q .non H',rt:=Q } (start N vs) H):FnOk P w K mg base CX0 (k + 1) f fd ps sp:=by
 obtain⟨oc,od,kV,doc,pm,an,cdv,ct,osl,rfl,lk,hcd⟩:=F.ex;refine fn_of lk hcd S len fun A outer s H vs Q E hr hsp=>?_;obtain⟨t,h,q⟩:=hbody cdv A outer s H vs Q E hr hsp;exact⟨t,h.nox,q⟩
theorem Fun.binds {x qual:Str}{st:Stmt}{f:Addr}{fd:FuncData}{ps:List Str}(F:Fun K x qual st f fd)
  (h:∀ (kV doc pm:Value) (an:Option Addr) (cdv ct:Value) (us:List Value),us.length=ps.length->bindArgs (PySem.W.fnOf x qual (defArgs st) (defBody st) (defScope st) .none kV doc pm an cdv ct) ⟨us,[]⟩=pure (ps.zip us)):Binds K fd ps []:=by
 obtain⟨oc,od,kV,doc,pm,an,cdv,ct,osl,rfl,lk,hcd⟩:=F.ex;exact .all (h kV doc pm an cdv ct)
theorem fun_mk {x qual:Str}{st:Stmt}{f:Addr}{oc:Value}{od an:Option Addr}{osl:Array (Option Value)}{kV doc pm cdv ct:Value}(l:K.lookup f=some ⟨oc,od,.func (PySem.W.fnOf x qual (defArgs st) (defBody st) (defScope st) .none kV doc pm an cdv ct),osl⟩)
  (c:PySem.W.codeIn K cdv qual=true) (k:PySem.W.keepIn K (.ref f)=true):Fun K x qual st f (PySem.W.fnOf x qual (defArgs st) (defBody st) (defScope st) .none kV doc pm an cdv ct):=⟨⟨oc,od,kV,doc,pm,an,cdv,ct,osl,rfl,l,c⟩,k⟩
end
section
variable {X:Cx}
end
end L2
set_option maxHeartbeats 4000000
namespace L3
open PySem
noncomputable abbrev Ky:=Sum Int Str
inductive D where
 | non | bl (b:Bool) | int (i:Int) | str (x:Str) | tup (ds:List D) | fl (ds:List D) | ob (i:Nat)
inductive MO where
 | lst (ds:List D)
 | dic (kvs:List (Ky×D))
noncomputable abbrev MH:=List MO
inductive Out (α:Type) where
 | ok (a:α)
 | ex (c:Str) (ds:List D)
noncomputable def Mo (α:Type):=MH->Option (Out α×MH)
noncomputable def Mo.ret {α:Type}(a:α):Mo α:=fun M=>some (.ok a,M)
noncomputable def Mo.bind {α β:Type}(m:Mo α)(k:α->Mo β):Mo β:=fun M=>match m M with
 | none=>none
 | some (.ok a,M')=>k a M'
 | some (.ex c ds,M')=>some (.ex c ds,M')
noncomputable def Mo.stop {α:Type}:Mo α:=fun _=>none
noncomputable instance:Monad Mo where
 pure:=Mo.ret
 bind:=Mo.bind
theorem run_ret {α:Type}(a:α)(M:MH):(pure a:Mo α) M=some (.ok a,M):=rfl
theorem run_bind {α β:Type}(m:Mo α)(k:α->Mo β)(M:MH):(m >>= k) M=match m M with
 | none=>none
 | some (.ok a,M')=>k a M'
 | some (.ex c ds,M')=>some (.ex c ds,M'):=rfl
theorem bind_ok {α β:Type}{m:Mo α}{k:α->Mo β}{M M':MH}{b:β}(h:(m >>= k) M=some (.ok b,M')):∃ a M1,m M=some (.ok a,M1)/\k a M1=some (.ok b,M'):=by
 rw[run_bind]at h;split at h
 ·cases h
 ·rename_i a M1 e
  exact⟨a,M1,e,h⟩
 ·cases h
theorem ok_bind {α β:Type}{m:Mo α}{k:α->Mo β}{M M1:MH}{a:α}(h:m M=some (.ok a,M1)):(m >>= k) M=k a M1:=by
 rw[run_bind,h]
noncomputable abbrev Ev:=List (Option D)
noncomputable def getM (i:Nat):Mo MO:=fun M=>match M[i]? with
 | some o=>some (.ok o,M)
 | none=>none
noncomputable def newM (o:MO):Mo D:=fun M=>some (.ok (.ob M.length),M++[o])
noncomputable def putM (i:Nat)(o:MO):Mo Unit:=fun M=>if i < M.length then some (.ok (),M.set i o) else none
noncomputable def need (p:Prop)[Decidable p]:Mo Unit:=if p then pure () else Mo.stop
noncomputable def lift {α:Type}(o:Option α):Mo α:=match o with
 | some a=>pure a
 | none=>Mo.stop
noncomputable def getL (i:Nat):Mo (List D):=fun M=>match M[i]? with
 | some (.lst ds)=>some (.ok ds,M)
 | _=>none
noncomputable def getD (i:Nat):Mo (List (Ky×D)):=fun M=>match M[i]? with
 | some (.dic ds)=>some (.ok ds,M)
 | _=>none
noncomputable def kyD:D->Option Ky
 | .int i=>some (.inl i)
 | .str x=>some (.inr x)
 | _=>none
noncomputable def flatD:D->Bool
 | .non=>true | .bl _=>true | .int _=>true | .str _=>true | _=>false
noncomputable def eqF:D->D->Bool
 | .non,.non=>true
 | .bl a,.bl b=>a==b
 | .bl a,.int b=>(if a then 1 else 0)==b
 | .int a,.bl b=>a==(if b then 1 else 0)
 | .int a,.int b=>a==b
 | .str a,.str b=>a==b
 | _,_=>false
noncomputable def eqL (f:D->D->Option Bool):List D->List D->Option Bool
 | [],[]=>some true
 | [],_::_=>some false
 | _::_,[]=>some false
 | x::xs,y::ys=>match f x y with
  | none=>none
  | some b=>match eqL f xs ys with
   | none=>none
   | some c=>some (b&&c)
noncomputable def eqO (M:MH):Nat->D->D->Option Bool
 | 0,_,_=>none
 | n + 1,x,y=>match x,y with
  | .tup xs,.tup ys=>eqL (eqO M n) xs ys
  | .ob i,.ob j=>(match M[i]?,M[j]? with
   | some (.lst xs),some (.lst ys)=>if xs.length=ys.length then eqL (eqO M n) xs ys else some false
   | _,_=>none)
  | .tup _,y=>if flatD y=true then some false else none
  | x,.tup _=>if flatD x=true then some false else none
  | x,y=>if (flatD x&&flatD y)=true then some (eqF x y) else none
noncomputable def eqMo (x y:D):Mo Bool:=fun M=>match eqO M 20 x y with
 | some b=>some (.ok b,M)
 | none=>none
noncomputable def inL (M:MH)(x:D):List D->Option Bool
 | []=>some false
 | d::ds=>match eqO M 8 d x with
  | none=>none
  | some b=>match inL M x ds with
   | none=>none
   | some c=>some (b||c)
noncomputable def inMo (x:D)(ds:List D):Mo Bool:=fun M=>match inL M x ds with
 | some b=>some (.ok b,M)
 | none=>none
noncomputable def kvGet (kvs:List (Ky×D))(k:Ky):Option D:=(kvs.find? fun kv=>decide (kv.1=k)).map (·.2)
noncomputable def kvPut (kvs:List (Ky×D))(k:Ky)(v:D):List (Ky×D) :=
 if (kvs.any fun kv=>decide (kv.1=k))=true then kvs.map (fun kv=>if kv.1=k then (kv.1,v) else kv) else kvs++[(k,v)]
noncomputable def dK:Ky->D
 | .inl i=>.int i
 | .inr x=>.str x
noncomputable def sgn (c:Nat):D:=.str ⟨#[c]⟩
noncomputable def ixD (n:Nat)(i:Int):Option Nat:=if 0<=i then (if i < n then some i.toNat else none) else if -(n:Int)<=i then some (i + n).toNat else none
noncomputable def atD {α:Type}(xs:List α)(i:Int):Option α:=(ixD xs.length i).bind fun j=>xs[j]?
noncomputable def cutIx (n d:Nat):Option Int->Nat
 | none=>d
 | some v=>if v < 0 then (v + (n:Int)).toNat else min v.toNat n
noncomputable def cutD {α:Type}(xs:List α)(lo hi:Option Int):List α:=(xs.drop (cutIx xs.length 0 lo)).take (cutIx xs.length xs.length hi - cutIx xs.length 0 lo)
noncomputable def strOcc (j i:Str):Bool:=!(Builtin.Str.occurrences j i 0 j.length 1).isEmpty
noncomputable def repS (a:Str)(n:Nat):Str:=⟨(yH n a.cps).foldl (·++·) #[]⟩
noncomputable def opD (op:Operator)(x y:D):Mo D:=match op,x,y with
 | .Add,.int i,.int j=>pure (.int (i + j))
 | .Add,.str a,.str b=>do need (a.length + b.length<=zn);pure (.str (a++b))
 | .Add,.ob i,.ob j=>do
  let xs <- getL i
  let ys <- getL j
  need (xs.length + ys.length<=zn)
  newM (.lst (xs++ys))
 | .Add,.tup xs,.tup ys=>do need (xs.length + ys.length<=zn);pure (.tup (xs++ys))
 | .Sub,.int i,.int j=>pure (.int (i - j))
 | .Mult,.int i,.int j=>do need ((-(2 ^ 64) < i/\i < 2 ^ 64)\/(-(2 ^ 64) < j/\j < 2 ^ 64));pure (.int (i * j))
 | .FloorDiv,.int i,.int j=>do need (0 < j/\j < 1073741824);pure (.int (i / j))
 | .Mod,.int i,.int j=>do need (0 < j);pure (.int (i % j))
 | .Pow,.int i,.int j=>do need (0<=j/\j<=1000000/\i.natAbs < 2 ^ 64);pure (.int (i ^ j.toNat))
 | .Mult,.str a,.int j=>do need (2<=j/\j < 1000/\0 < a.length/\a.length < 1000);pure (.str (repS a j.toNat))
 | _,_,_=>Mo.stop
noncomputable def inD (x y:D):Mo Bool:=match y with
 | .str j=>(match x with
  | .str i=>pure (strOcc j i)
  | _=>Mo.stop)
 | .tup ds=>inMo x ds
 | .fl ds=>inMo x ds
 | .ob i=>do
  let o <- getM i
  (match o with
  | .lst ds=>inMo x ds
  | .dic kvs=>do let k <- lift (kyD x);pure (kvGet kvs k).isSome
  )
 | _=>Mo.stop
noncomputable def ltD (x y:D):Option Bool:=match x,y with
 | .int i,.int j=>some (decide (i < j))
 | .str a,.str b=>some (decide (a.cps.toList < b.cps.toList))
 | _,_=>none
noncomputable def leD (x y:D):Option Bool:=match x,y with
 | .int i,.int j=>some (decide (i<=j))
 | .str a,.str b=>some (!decide (b.cps.toList < a.cps.toList))
 | _,_=>none
noncomputable def isN:D->Bool
 | .non=>true
 | _=>false
noncomputable def cmpD (op:CmpOp)(x y:D):Mo Bool:=match op with
 | .Eq=>eqMo x y
 | .NotEq=>do let b <- eqMo x y;pure (!b)
 | .Lt=>lift (ltD x y)
 | .LtE=>lift (leD x y)
 | .Gt=>(match x,y with
  | .int i,.int j=>pure (decide (j < i))
  | _,_=>Mo.stop)
 | .GtE=>(match x,y with
  | .int i,.int j=>pure (decide (j<=i))
  | _,_=>Mo.stop)
 | .In=>inD x y
 | .NotIn=>do let b <- inD x y;pure (!b)
 | .Is=>do need (isN y=true);pure (isN x)
 | .IsNot=>do need (isN y=true);pure (!isN x)
noncomputable def getIx (x y:D):Mo D:=match x,y with
 | .tup ds,.int i=>lift (atD ds i)
 | .fl ds,.int i=>lift (atD ds i)
 | .str s,.int i=>do need (s.length<=zn);let c <- lift (atD s.cps.toList i);pure (sgn c)
 | .ob k,y=>do
  let o <- getM k
  (match o with
  | .lst ds=>(match y with
   | .int i=>lift (atD ds i)
   | _=>Mo.stop)
  | .dic kvs=>do let q <- lift (kyD y);lift (kvGet kvs q)
  )
 | _,_=>Mo.stop
noncomputable def setIx (x y v:D):Mo Unit:=match x with
 | .ob k=>do
  let o <- getM k
  (match o with
  | .lst ds=>(match y with
   | .int i=>do let j <- lift (ixD ds.length i);putM k (.lst (ds.set j v))
   | _=>Mo.stop)
  | .dic kvs=>do let q <- lift (kyD y);need (kvs.length < zn);putM k (.dic (kvPut kvs q v))
  )
 | _=>Mo.stop
noncomputable def sliceD (x:D)(lo hi:Option Int):Mo D:=match x with
 | .str s=>do need (s.length<=zn);pure (.str ⟨(cutD s.cps.toList lo hi).toArray⟩)
 | .tup ds=>pure (.tup (cutD ds lo hi))
 | .ob k=>do let ds <- getL k;newM (.lst (cutD ds lo hi))
 | .fl ds=>newM (.lst (cutD ds lo hi))
 | _=>Mo.stop
noncomputable def truD (x:D):Mo Bool:=match x with
 | .non=>pure false
 | .bl b=>pure b
 | .int i=>pure (i != 0)
 | .str s=>do need (s.length<=zn);pure ((s.length:Int) != 0)
 | .tup ds=>pure (!ds.isEmpty)
 | .fl ds=>pure (!ds.isEmpty)
 | .ob k=>do
  let o <- getM k
  (match o with
  | .lst ds=>pure (!ds.isEmpty)
  | .dic kvs=>pure (!kvs.isEmpty)
  )
noncomputable def itemsD (x:D):Mo (List D):=match x with
 | .tup ds=>pure ds
 | .fl ds=>pure ds
 | .ob k=>getL k
 | _=>Mo.stop
noncomputable def lstD (x:D):Mo (List D):=match x with
 | .fl ds=>pure ds
 | .ob k=>getL k
 | _=>Mo.stop
noncomputable def boolD:D->Option Bool
 | .bl b=>some b
 | _=>none
noncomputable def intD:D->Option Int
 | .int i=>some i
 | _=>none
noncomputable def allI:List D->Option (List Int)
 | []=>some []
 | d::ds=>match intD d,allI ds with
  | some x,some xs=>some (x::xs)
  | _,_=>none
noncomputable def kvPuts (kvs:List (Ky×D)):List (Ky×D)->List (Ky×D)
 | []=>kvs
 | p::r=>kvPuts (kvPut kvs p.1 p.2) r
inductive Bl where
 | len | tuple | list | repr | all | any | min2 | max2 | abs | dict1 | minL
 deriving DecidableEq
noncomputable def blD (b:Bl)(xs:List D):Mo D:=match b,xs with
 | .len,[.str s]=>do need (s.length<=zn);pure (.int s.length)
 | .len,[.ob k]=>do
  let o <- getM k
  (match o with
  | .lst ds=>pure (.int ds.length)
  | .dic kvs=>pure (.int kvs.length)
  )
 | .len,[.tup ds]=>pure (.int ds.length)
 | .len,[.fl ds]=>pure (.int ds.length)
 | .tuple,[.tup ds]=>pure (.tup ds)
 | .tuple,[.fl ds]=>pure (.tup ds)
 | .tuple,[.ob k]=>do let ds <- getL k;pure (.tup ds)
 | .list,[x]=>do let ds <- itemsD x;newM (.lst ds)
 | .all,[.ob k]=>do let ds <- getL k;let bs <- lift (ds.mapM boolD);pure (.bl (bs.all id))
 | .any,[.ob k]=>do let ds <- getL k;let bs <- lift (ds.mapM boolD);pure (.bl (bs.any id))
 | .max2,[.int i,.int j]=>pure (.int (if j > i then j else i))
 | _,_=>Mo.stop
inductive Ty where
 | int | str | bool | list | tuple | dict
 deriving DecidableEq
noncomputable def tyD (t:Ty)(x:D):Mo Bool:=match x with
 | .non=>pure false
 | .bl _=>pure (t==.bool||t==.int)
 | .int _=>pure (t==.int)
 | .str _=>pure (t==.str)
 | .tup _=>pure (t==.tuple)
 | .fl _=>pure (t==.list)
 | .ob k=>do
  let o <- getM k
  (match o with
  | .lst _=>pure (t==.list)
  | .dic _=>pure (t==.dict)
  )
inductive Mt where
 | append | insert | join | get
 | index
 | extend
 deriving DecidableEq
noncomputable def rcvD (m:Mt)(x:D):Mo Unit:=match m,x with
 | .append,.ob k=>do let _ <- getL k;pure ()
 | .insert,.ob k=>do let _ <- getL k;pure ()
 | .extend,.ob k=>do let _ <- getL k;pure ()
 | .index,.ob k=>do let _ <- getL k;pure ()
 | .index,.tup _=>pure ()
 | .join,.str _=>pure ()
 | .get,.ob k=>do let _ <- getD k;pure ()
 | _,_=>Mo.stop
noncomputable def insIx (n:Nat)(i:Int):Nat:=if i < 0 then (i + (n:Int)).toNat else min i.toNat n
noncomputable def insD {α:Type}(xs:List α)(i:Int)(v:α):List α:=xs.take (insIx xs.length i)++v::xs.drop (insIx xs.length i)
noncomputable def isOb:D->Nat->Bool
 | .ob j,k=>j==k
 | _,_=>false
noncomputable def strD:D->Option Str
 | .str x=>some x
 | _=>none
noncomputable def glue (sep:List Nat):List (List Nat)->List Nat
 | []=>[]
 | [x]=>x
 | x::y::r=>x++sep++glue sep (y::r)
noncomputable def joinS (sep:Str)(ys:List Str):Str:=⟨(glue sep.cps.toList (ys.map (·.cps.toList))).toArray⟩
noncomputable def extD (x:D):Mo (List D):=match x with
 | .tup ds=>pure ds
 | .ob k=>getL k
 | _=>Mo.stop
noncomputable def mtD (m:Mt)(x:D)(xs:List D):Mo D:=match m,x,xs with
 | .append,.ob k,[v]=>do let ds <- getL k;need (ds.length < zn);putM k (.lst (ds++[v]));pure .non
 | .insert,.ob k,[.int i,v]=>do let ds <- getL k;need (ds.length < zn/\-(2 ^ 62)<=i/\i < 2 ^ 62);putM k (.lst (insD ds i v));pure .non
 | .index,.tup ds,[v]=>do need (flatD v=true/\ds.all flatD=true);let j <- lift (ds.findIdx? fun d=>eqF d v);pure (.int (j:Nat))
 | .index,.ob k,[v]=>do let ds <- getL k;need (flatD v=true/\ds.all flatD=true);let j <- lift (ds.findIdx? fun d=>eqF d v);pure (.int (j:Nat))
 | .join,.str t,[.ob k]=>do let ds <- getL k;let ys <- lift (ds.mapM strD);need ((ys.map (·.length)).sum + ys.length * t.length<=16777216);pure (.str (joinS t ys))
 | .extend,.ob k,[y]=>do let es <- extD y;let ds <- getL k;need (ds.length + es.length<=zn/\isOb y k=false);putM k (.lst (ds++es));pure .non
 | _,_,_=>Mo.stop
set_option genSizeOf false
set_option genInjectivity false
mutual
inductive IE where
 | var (i:Nat) | cint (i:Int) | cbl (b:Bool) | cnon | cstr (x:Str)
 | glb (x:Str)
 | bin (op:Operator) (a b:IE)
 | cmp (op:CmpOp) (a b:IE)
 | cmp2 (op op':CmpOp) (a b c:IE)
 | and (a b:IE) | or (a b:IE) | not (a:IE)
 | ifE (c:IC) (a b:IE)
 | tup (es:IEs) | lst (es:IEs) | dic0
 | idx (a b:IE) | slc (a:IE) (lo hi:IEo)
 | call (f:Str) (es:IEs) | blt (b:Bl) (es:IEs)
 | sortL (a:IE)
 | sset (a:IE)
 | intB (a:IE)
 | lrng (a b c:IE)
 | dic2 (a b:IE)
 | kyr (d i j:Nat)
 | neg (a:IE)
 | isI (a:IE) (t:Ty)
 | mth (m:Mt) (a:IE) (es:IEs)
 | comp (j:Nat) (it:IT) (c:ICo) (e:IE)
inductive IEs where
 | nil | cons (e:IE) (es:IEs)
inductive IEo where
 | none | some (e:IE)
inductive IT where
 | seq (e:IE) | rng1 (a:IE) | rng2 (a b:IE)
inductive IC where
 | cmp (e:IE) | tru (e:IE) | not (c:IC) | and (a b:IC) | or (a b:IC)
inductive ICo where
 | none | some (c:IC)
end
inductive IP where
 | seq (e:IE) | enum (e:IE)
mutual
inductive IS where
 | set (i:Nat) (e:IE) | setIx (o i e:IE) | expr (e:IE) | ret (e:IE) | retN | pass | brk | cnt
 | halt
 | forZ (i j:Nat) (x y:IE) (b:ISs)
 | ifS (c:IC) (a b:ISs) | forS (i:Nat) (it:IT) (b:ISs) | forP (i j:Nat) (it:IP) (b:ISs)
 | whileS (c:IC) (b:ISs)
inductive ISs where
 | nil | cons (s:IS) (r:ISs)
end
set_option genSizeOf true
set_option genInjectivity true
noncomputable def leI (a b:Int):Bool:=decide (a<=b)
noncomputable def sortI (xs:List Int):List Int:=xs.mergeSort leI
theorem sortI_perm (xs:List Int):(sortI xs).Perm xs:=List.mergeSort_perm _ _
theorem sortI_pw (xs:List Int):(sortI xs).Pairwise fun a b=>a<=b:=by
 have:=List.pairwise_mergeSort (le:=leI) (fun a b c h1 h2=>by simp only[leI,decide_eq_true_eq]at *;omega) (fun a b=>by simp only[leI,xr,decide_eq_true_eq];omega) xs
 exact this.imp fun h=>by simpa [leI] using h
theorem sortI_uniq {xs ys:List Int}(p:ys.Perm xs)(h:ys.Pairwise fun a b=>a<=b):ys=sortI xs :=
 List.Perm.eq_of_pairwise (fun _ _ _ _=>Int.le_antisymm) h (sortI_pw xs) (p.trans (sortI_perm xs).symm)
theorem sortI_same {xs ys:List Int}(p:ys.Perm xs):sortI ys=sortI xs:=sortI_uniq ((sortI_perm ys).trans p) (sortI_pw ys)
theorem allI_map (xs:List Int):allI (xs.map .int)=some xs:=by
 induction xs with
 | nil=>rfl
 | cons x r ih=>simp only[zH,allI,intD,ih]
theorem allI_eq:∀ {ds:List D} {xs:List Int},allI ds=some xs->ds=xs.map .int
 | [],xs,h=>by cases h;rfl
 | d::ds,xs,h=>by
  simp only[allI]at h;cases d <;> simp only[intD,reduceCtorEq]at h;cases e:allI ds with
  | none=>rw[e]at h;cases h
  | some ys=>rw[e]at h;cases h;rw[allI_eq e];rfl
noncomputable def addS (xs:List Int)(x:Int):List Int:=if x∈xs then xs else xs++[x]
noncomputable def addAll (xs:List Int):List Int->List Int
 | []=>xs
 | x::r=>addAll (addS xs x) r
noncomputable def setS (x:D):Mo D:=do
 let ds <- lstD x
 let xs <- lift (allI ds)
 need ((addAll [] xs).length < 4000)
 newM (.lst ((sortI (addAll [] xs)).map .int))
end L3
namespace L3
open PySem
structure Ctx where
 fn:Str->List D->Mo D
 gl:Str->Option D
 srt:List D->Option (List D)
 wh:Nat
inductive Fl where
 | nx (ρ:Ev) | rt (d:D) | bk (ρ:Ev) | ct (ρ:Ev)
structure Src where
 ck:Option (Nat×List D)
 ds:List D
noncomputable def okM (ck:Option (Nat×List D))(M:MH):Prop:=match ck with
 | none=>True
 | some (i,all)=>M[i]?=some (.lst all)
noncomputable def srcD (x:D):Mo Src:=match x with
 | .tup ds=>pure ⟨none,ds⟩
 | .fl ds=>pure ⟨none,ds⟩
 | .str s=>do need (s.length<=zn);pure ⟨none,s.cps.toList.map sgn⟩
 | .ob k=>do let ds <- getL k;pure ⟨some (k,ds),ds⟩
 | _=>Mo.stop
noncomputable def small (i:Int):Prop:=-(2 ^ 62)<=i/\i < 2 ^ 62
noncomputable instance (i:Int):Decidable (small i):=by unfold small;infer_instance
noncomputable def rngD (lo hi:Int):List D:=(List.range (hi - lo).toNat).map fun (k:Nat)=>D.int (lo + k)
noncomputable def rngN3 (lo hi st:Int):Nat:=((hi - lo - 1) / st + 1).toNat
noncomputable def rngL3 (lo hi st:Int):List D:=(List.range (rngN3 lo hi st)).map fun (k:Nat)=>D.int (lo + k * st)
noncomputable def lrngD (x y z:D):Mo D:=match x,y,z with
 | .int i,.int j,.int st=>do need (small i/\small j/\0 < st/\st < 1073741824/\i < j/\rngN3 i j st<=100000);newM (.lst (rngL3 i j st))
 | _,_,_=>Mo.stop
open Classical in
noncomputable def stand (ck:Option (Nat×List D)):Mo Unit:=fun M=>if okM ck M then some (.ok (),M) else none
noncomputable def loopD (ck:Option (Nat×List D))(i:Nat)(body:Ev->Mo Fl):List D->Ev->Mo Fl
 | [],ρ=>do stand ck;pure (.nx ρ)
 | d::ds,ρ=>do
  stand ck
  let f <- body (ρ.set i (some d))
  (match f with
  | .nx ρ'=>loopD ck i body ds ρ'
  | .ct ρ'=>loopD ck i body ds ρ'
  | .bk ρ'=>pure (.nx ρ')
  | .rt v=>pure (.rt v))
noncomputable def enumS (x:D):Mo Src:=match x with
 | _=>Mo.stop
noncomputable def pairD:D->Option (D×D)
 | .tup [x,y]=>some (x,y)
 | _=>none
noncomputable def loopP (ck:Option (Nat×List D))(i j:Nat)(body:Ev->Mo Fl):List D->Ev->Mo Fl
 | [],ρ=>do stand ck;pure (.nx ρ)
 | d::ds,ρ=>do
  stand ck
  let p <- lift (pairD d)
  let f <- body ((ρ.set i (some p.1)).set j (some p.2))
  (match f with
  | .nx ρ'=>loopP ck i j body ds ρ'
  | .ct ρ'=>loopP ck i j body ds ρ'
  | .bk ρ'=>pure (.nx ρ')
  | .rt v=>pure (.rt v))
noncomputable def whileD (c:Ev->Mo Bool)(body:Ev->Mo Fl):Nat->Ev->Mo Fl
 | 0,_=>Mo.stop
 | n + 1,ρ=>do
  let b <- c ρ
  if b=true then do
   let f <- body ρ
   (match f with
   | .nx ρ'=>whileD c body n ρ'
   | .ct ρ'=>whileD c body n ρ'
   | .bk ρ'=>pure (.nx ρ')
   | .rt v=>pure (.rt v))
  else pure (.nx ρ)
noncomputable def compD (ck:Option (Nat×List D))(c:Ev->Mo Bool)(e:Ev->Mo D)(ρ:Ev):List D->Mo (List D)
 | []=>do stand ck;pure []
 | d::ds=>do
  stand ck
  let b <- c (some d::ρ)
  if b=true then do
   let y <- e (some d::ρ)
   let ys <- compD ck c e ρ ds
   pure (y::ys)
  else compD ck c e ρ ds
structure ZSr where
 c1:Option (Nat×List D)
 c2:Option (Nat×List D)
 ds:List (D×D)
noncomputable def zipL (x y:D):Mo ZSr:=match x with
 | .ob i=>(match y with
  | .ob j=>do let xs <- getL i;let ys <- getL j;need (ys.length < xs.length);pure ⟨some (i,xs),some (j,ys),xs.zip ys⟩
  | _=>Mo.stop)
 | _=>Mo.stop
noncomputable def loopZ (c1 c2:Option (Nat×List D))(i j:Nat)(body:Ev->Mo Fl):List (D×D)->Ev->Mo Fl
 | [],ρ=>do stand c1;stand c2;pure (.nx ρ)
 | p::ds,ρ=>do
  stand c1
  stand c2
  let f <- body ((ρ.set i (some p.1)).set j (some p.2))
  (match f with
  | .nx ρ'=>loopZ c1 c2 i j body ds ρ'
  | .ct ρ'=>loopZ c1 c2 i j body ds ρ'
  | .bk ρ'=>pure (.nx ρ')
  | .rt v=>pure (.rt v))
noncomputable def dic2D (o x y:D):Mo D:=match o,x,y with
 | .ob k,.int i,.int j=>do
  let kvs <- getD k
  need (kvs.isEmpty=true)
  putM k (.dic (kvPuts [] [(.inl i,.bl true),(.inl j,.bl true)]))
  pure (.ob k)
 | _,_,_=>Mo.stop
noncomputable def intKeys:List (Ky×D)->Option (List Int)
 | []=>some []
 | kv::r=>match kv.1,intKeys r with
  | .inl i,some is=>some (i::is)
  | _,_=>none
noncomputable def kyrD (x lo hi:D):Mo D:=match x,lo,hi with
 | .ob k,.int i,.int j=>do
  let kvs <- getD k
  let ns <- lift (intKeys kvs)
  need (ns.length<=zn)
  newM (.lst ((ns.filter fun n=>decide (i<=n)&&decide (n < j)).map .int))
 | _,_,_=>Mo.stop
noncomputable def varD (ρ:Ev)(i:Nat):Mo D:=match ρ[i]? with
 | some (some d)=>pure d
 | _=>Mo.stop
mutual
noncomputable def semE (Γ:Ctx):IE->Ev->Mo D
 | .var i,ρ=>varD ρ i
 | .cint i,_=>pure (.int i)
 | .cbl b,_=>pure (.bl b)
 | .cnon,_=>pure .non
 | .cstr x,_=>pure (.str x)
 | .glb x,_=>lift (Γ.gl x)
 | .bin op a b,ρ=>do let x <- semE Γ a ρ;let y <- semE Γ b ρ;opD op x y
 | .cmp op a b,ρ=>do let x <- semE Γ a ρ;let y <- semE Γ b ρ;let k <- cmpD op x y;pure (.bl k)
 | .cmp2 op op' a b c,ρ=>do
  let x <- semE Γ a ρ
  let y <- semE Γ b ρ
  let k <- cmpD op x y
  if k=true then do let z <- semE Γ c ρ;let k' <- cmpD op' y z;pure (.bl k') else pure (.bl false)
 | .and a b,ρ=>do let x <- semE Γ a ρ;let k <- lift (boolD x);if k=true then semE Γ b ρ else pure (.bl false)
 | .or a b,ρ=>do let x <- semE Γ a ρ;let k <- lift (boolD x);if k=true then pure (.bl true) else semE Γ b ρ
 | .not a,ρ=>do let x <- semE Γ a ρ;let k <- lift (boolD x);pure (.bl (!k))
 | .ifE c a b,ρ=>do let k <- semC Γ c ρ;if k=true then semE Γ a ρ else semE Γ b ρ
 | .tup es,ρ=>do let xs <- semEs Γ es ρ;need (xs.length<=zn);pure (.tup xs)
 | .lst es,ρ=>do let xs <- semEs Γ es ρ;need (xs.length<=zn);newM (.lst xs)
 | .dic0,_=>newM (.dic [])
 | .idx a b,ρ=>do let x <- semE Γ a ρ;let y <- semE Γ b ρ;getIx x y
 | .slc a lo hi,ρ=>do let x <- semE Γ a ρ;let l <- semO Γ lo ρ;let h <- semO Γ hi ρ;sliceD x l h
 | .call f es,ρ=>do let xs <- semEs Γ es ρ;Γ.fn f xs
 | .blt b es,ρ=>do let xs <- semEs Γ es ρ;blD b xs
 | .comp j it c e,ρ=>do
  let s <- semT Γ it ρ
  need (s.ds.length<=zn)
  let ys <- compD s.ck (semCo Γ c) (semE Γ e) (ρ.set j none) s.ds
  newM (.lst ys)
 | .sset a,ρ=>do let x <- semE Γ a ρ;setS x
 | .sortL a,ρ=>do
  let x <- semE Γ a ρ
  let ds <- lstD x
  let ys <- lift (Γ.srt ds)
  newM (.lst ys)
 | .intB a,ρ=>do let x <- semE Γ a ρ;let b <- lift (boolD x);pure (.int (if b then 1 else 0))
 | .lrng a b c,ρ=>do let x <- semE Γ a ρ;let y <- semE Γ b ρ;let z <- semE Γ c ρ;lrngD x y z
 | .dic2 a b,ρ=>do let o <- newM (.dic []);let x <- semE Γ a ρ;let y <- semE Γ b ρ;dic2D o x y
 | .kyr d i j,ρ=>do let x <- varD ρ d;let lo <- varD ρ i;let hi <- varD ρ j;kyrD x lo hi
 | .neg a,ρ=>do
  let x <- semE Γ a ρ
  (match x with
  | .int i=>pure (.int (-i))
  | _=>Mo.stop)
 | .isI a t,ρ=>do let x <- semE Γ a ρ;let k <- tyD t x;pure (.bl k)
 | .mth m a es,ρ=>do let x <- semE Γ a ρ;rcvD m x;let xs <- semEs Γ es ρ;mtD m x xs
noncomputable def semEs (Γ:Ctx):IEs->Ev->Mo (List D)
 | .nil,_=>pure []
 | .cons e es,ρ=>do let x <- semE Γ e ρ;let xs <- semEs Γ es ρ;pure (x::xs)
noncomputable def semO (Γ:Ctx):IEo->Ev->Mo (Option Int)
 | .none,_=>pure none
 | .some e,ρ=>do
  let x <- semE Γ e ρ
  (match x with
  | .int i=>pure (some i)
  | _=>Mo.stop)
noncomputable def semT (Γ:Ctx):IT->Ev->Mo Src
 | .seq e,ρ=>do let x <- semE Γ e ρ;srcD x
 | .rng1 a,ρ=>do
  let x <- semE Γ a ρ
  (match x with
  | .int i=>do need (small i);pure ⟨none,rngD 0 i⟩
  | _=>Mo.stop)
 | .rng2 a b,ρ=>do
  let x <- semE Γ a ρ
  let y <- semE Γ b ρ
  (match x,y with
  | .int i,.int j=>do need (small i/\small j);pure ⟨none,rngD i j⟩
  | _,_=>Mo.stop)
noncomputable def semC (Γ:Ctx):IC->Ev->Mo Bool
 | .cmp e,ρ=>do let x <- semE Γ e ρ;lift (boolD x)
 | .tru e,ρ=>do let x <- semE Γ e ρ;truD x
 | .not c,ρ=>do let k <- semC Γ c ρ;pure (!k)
 | .and a b,ρ=>do let k <- semC Γ a ρ;if k=true then semC Γ b ρ else pure false
 | .or a b,ρ=>do let k <- semC Γ a ρ;if k=true then pure true else semC Γ b ρ
noncomputable def semCo (Γ:Ctx):ICo->Ev->Mo Bool
 | .none,_=>pure true
 | .some c,ρ=>semC Γ c ρ
end
noncomputable def semP (Γ:Ctx):IP->Ev->Mo Src
 | .seq e,ρ=>do let x <- semE Γ e ρ;srcD x
 | .enum e,ρ=>do let x <- semE Γ e ρ;enumS x
mutual
noncomputable def semS (Γ:Ctx):IS->Ev->Mo Fl
 | .set i e,ρ=>do let x <- semE Γ e ρ;pure (.nx (ρ.set i (some x)))
 | .forZ i j a b c,ρ=>do let x <- semE Γ a ρ;let y <- semE Γ b ρ;let s <- zipL x y;loopZ s.c1 s.c2 i j (semSs Γ c) s.ds ρ
 | .setIx o i e,ρ=>do let v <- semE Γ e ρ;let x <- semE Γ o ρ;let y <- semE Γ i ρ;setIx x y v;pure (.nx ρ)
 | .expr e,ρ=>do let _ <- semE Γ e ρ;pure (.nx ρ)
 | .ret e,ρ=>do let x <- semE Γ e ρ;pure (.rt x)
 | .retN,_=>pure (.rt .non)
 | .pass,ρ=>pure (.nx ρ)
 | .brk,ρ=>pure (.bk ρ)
 | .cnt,ρ=>pure (.ct ρ)
 | .halt,_=>Mo.stop
 | .ifS c a b,ρ=>do let k <- semC Γ c ρ;if k=true then semSs Γ a ρ else semSs Γ b ρ
 | .forS i it b,ρ=>do let s <- semT Γ it ρ;loopD s.ck i (semSs Γ b) s.ds ρ
 | .forP i j it b,ρ=>do let s <- semP Γ it ρ;loopP s.ck i j (semSs Γ b) s.ds ρ
 | .whileS c b,ρ=>whileD (semC Γ c) (semSs Γ b) Γ.wh ρ
noncomputable def semSs (Γ:Ctx):ISs->Ev->Mo Fl
 | .nil,ρ=>pure (.nx ρ)
 | .cons s r,ρ=>do
  let f <- semS Γ s ρ
  (match f with
  | .nx ρ'=>semSs Γ r ρ'
  | .rt v=>pure (.rt v)
  | .bk ρ'=>pure (.bk ρ')
  | .ct ρ'=>pure (.ct ρ'))
end
noncomputable def semF (Γ:Ctx)(n:Nat)(b:ISs)(xs:List D):Mo D:=do
 let f <- semSs Γ b (xs.map some++yH (n - xs.length) none)
 (match f with
 | .nx _=>pure .non
 | .rt v=>pure v
 | .bk _=>Mo.stop
 | .ct _=>Mo.stop)
structure Fd where
 n:Nat
 p:Nat
 b:ISs
noncomputable def CtxN (tab:List (Str×Fd))(gl:Str->Option D)(srt:List D->Option (List D))(wh:Nat):Nat->Ctx
 | 0=>⟨fun _ _=>Mo.stop,gl,srt,wh⟩
 | k + 1=>⟨fun f xs=>match tab.lookup f with
  | some d=>do need (xs.length=d.p);semF (CtxN tab gl srt wh k) d.n d.b xs
  | none=>Mo.stop,gl,srt,wh⟩
structure Sc where
 sc:Scope
 N:List Str
 fns:List Str
 gls:List Str
 bls:List Str
noncomputable def Sc.kind (S:Sc)(x:Str):Option NameKind:=S.sc.names.lookup x
noncomputable def Sc.vis (S:Sc)(x:Str):Bool:=S.kind x==some .local||S.kind x==some .cell||S.kind x==some .free
noncomputable def Sc.loc (S:Sc)(x:Str):Bool:=S.kind x==some .local||S.kind x==some .cell
noncomputable def Sc.glo (S:Sc)(x:Str):Bool:=S.kind x==some .globalImplicit
noncomputable def slot (N:List Str)(x:Str):Option Nat:=N.findIdx? (·==x)
noncomputable def blOf (x:Str)(n:Nat):Option Bl :=
 if x==("len" : Str)&&n==1 then some .len else if x==("tuple" : Str)&&n==1 then some .tuple else if x==("list" : Str)&&n==1 then some .list
 else if x==("repr" : Str)&&n==1 then some .repr else if x==("all" : Str)&&n==1 then some .all else if x==("any" : Str)&&n==1 then some .any
 else if x==("min" : Str)&&n==2 then some .min2 else if x==("max" : Str)&&n==2 then some .max2 else if x==("abs" : Str)&&n==1 then some .abs else if x==("dict" : Str)&&n==1 then some .dict1 else if x==("min" : Str)&&n==1 then some .minL else none
noncomputable def plainE:Expr->Bool
 | .Starred _ _=>false
 | _=>true
noncomputable def okName (x:Str):Bool:=x != ("__debug__" : Str)&&x != ("__classdict__" : Str)&&x != ("__name__" : Str)
noncomputable def ixE:Expr->Bool
 | .Name _ _=>true | .Constant _ _ _=>true | .BinOp _ _ _ _=>true | .Compare _ _ _ _=>true | .BoolOp _ _ _=>true | .UnaryOp _ _ _=>true | .IfExp _ _ _ _=>true
 | .List _ _=>true | .Subscript _ _ _=>true | .Call _ _ _ _=>true | _=>false
noncomputable def bsE:Expr->Bool
 | .Name _ _=>true | .Constant _ _ _=>true | .BinOp _ _ _ _=>true | .Subscript _ _ _=>true | .List _ _=>true | .Tuple _ _ _=>true | .Call _ (_::_) _ _=>true | _=>false
noncomputable def noComp:Expr->Bool
 | .ListComp _ _ _ _=>false
 | .SetComp _ _ _ _=>false
 | .DictComp _ _ _ _ _=>false
 | _=>true
noncomputable def blank (N:List Str)(xs:List Str):List Str:=N.map fun y=>if xs.contains y then "" else y
noncomputable def compOk (S:Sc)(sc:Scope)(xs:List Str):Bool :=
 sc.kind==.function&&(xs.all fun x=>sc.names.lookup x==some .local&&(x != (".0" : Str))&&(x != ("" : Str))) &&
 sc.names.all (fun p=>p.2 != .cell&&(p.2 != .local||(xs.contains p.1||p.1==(".0" : Str)))) &&
 sc.names.all (fun p=>p.2 != .free||(S.kind p.1==some .cell||S.kind p.1==some .free)) &&
 sc.names.all (fun p=>sc.names.lookup p.1==some p.2&&p.1 != ("" : Str))&&(S.N.all fun y=>y != (".0" : Str))&&decide (xs++blank S.N xs).Nodup
noncomputable def Sc.comp (S:Sc)(sc:Scope)(xs:List Str):Sc:={ S with sc:=sc,N:=xs++blank S.N xs }
noncomputable def inDomOp (op:Operator):Bool:=op==.Add||op==.Sub||op==.Mult||op==.FloorDiv||op==.Mod||op==.Pow
noncomputable def callK (S:Sc)(f:Str)(len:Nat)(xs:Option IEs):Option IE:=if okName f&&S.glo f then
 (if S.fns.contains f then xs.map (.call f)
 else if S.bls.contains f then (match blOf f len with
  | some b=>xs.map (.blt b)
  | none=>none)
 else none) else none
noncomputable def tyOf (t:Str):Option Ty :=
 if t==("int" : Str) then some .int else if t==("str" : Str) then some .str else if t==("bool" : Str) then some .bool
 else if t==("list" : Str) then some .list else if t==("tuple" : Str) then some .tuple else if t==("dict" : Str) then some .dict else none
noncomputable def mtOf (m:Str)(n:Nat):Option Mt :=
 if m==("append" : Str)&&n==1 then some .append else if m==("insert" : Str)&&n==2 then some .insert else
 if m==("index" : Str)&&n==1 then some .index else
 if m==("extend" : Str)&&n==1 then some .extend else
 if m==("join" : Str)&&n==1 then some .join else if m==("get" : Str)&&n==2 then some .get else none
noncomputable def isiOk (S:Sc)(f t:Str):Bool:=f==("isinstance" : Str)&&okName f&&S.glo f&&S.bls.contains f&&okName t&&S.glo t&&S.bls.contains t
noncomputable def nameK (S:Sc)(x:Str):Option IE:=if okName x then (if S.vis x then (slot S.N x).map .var else if S.glo x&&S.gls.contains x then some (.glb x) else none) else none
noncomputable def constK:Const->Option IE
 | .int i=>some (.cint i)
 | .bool b=>some (.cbl b)
 | .none=>some .cnon
 | .str x=>some (.cstr x)
 | _=>none
noncomputable def isRng:Expr->Bool
 | .Call (.Name f _) _ _ _=>f==("range" : Str)
 | _=>false
noncomputable def cmpK (r:Expr->Option IE)(a:Expr)(ops:List CmpOp)(bs:List Expr):Option IE:=match ops,bs with
 | [op],[b]=>if behindInMarks op b then none else do let x <- r a;let y <- r b;some (.cmp op x y)
 | [op,op'],[b,c]=>if behindInMarks op' c then none else do let x <- r a;let y <- r b;let z <- r c;some (.cmp2 op op' x y z)
 | _,_=>none
noncomputable def andor:BoolOp->IE->IE->IE
 | .And=>.and
 | .Or=>.or
noncomputable def boolK (r:Expr->Option IE)(op:BoolOp)(es:List Expr)(p:Pos):Option IE:=match es with
 | [a,b]=>do let x <- r a;let y <- r b;some (andor op x y)
 | a::b::c::l=>do let x <- r a;let y <- r (.BoolOp op (b::c::l) p);some (andor op x y)
 | _=>none
noncomputable def unK (r:Expr->Option IE)(op:UnaryOp)(a:Expr):Option IE:=match op with
 | .Not=>do let x <- r a;some (.not x)
 | .USub=>do let x <- r a;some (.neg x)
 | _=>none
noncomputable def trueE:Expr->Bool
 | .Constant c _ _=>(match c with
  | .bool b=>b
  | _=>false)
 | _=>false
noncomputable def dictK (r:Expr->Option IE)(ks:List (Option Expr))(vs:List Expr):Option IE:=match ks,vs with
 | [],[]=>some .dic0
 | [some a,some b],[u,v]=>if trueE u&&trueE v then do let x <- r a;let y <- r b;some (.dic2 x y) else none
 | _,_=>none
noncomputable def subK (r:Expr->Option IE)(ro:Option Expr->Option IEo)(a b:Expr):Option IE:=match b with
 | .Slice lo hi none _=>do let x <- r a;let l <- ro lo;let h <- ro hi;some (.slc x l h)
 | b=>if ixE b then do let x <- r a;let y <- r b;some (.idx x y) else none
noncomputable def itemsE:Expr->Option (Expr×Str×Pos×Pos)
 | .Call (.Attribute o m p2) [] [] p3=>some (o,m,p2,p3)
 | _=>none
noncomputable def nmE:Expr->Option (Str×Pos)
 | .Name t p=>some (t,p)
 | _=>none
noncomputable def setE:Expr->Option (Pos×Expr×Pos)
 | .Call (.Name g p) [b] [] q=>if g==("set" : Str) then some (p,b,q) else none
 | _=>none
noncomputable def sortK (S:Sc)(r:Expr->Option IE)(f:Str)(as:List Expr):Option IE:=match as with
 | [a]=>(match itemsE a with
  | some _=>none
  | none=>(match setE a with
   | some (_,b,_)=>if plainE b&&(f==("sorted" : Str)&&okName f&&S.glo f&&S.bls.contains f&&(S.glo ("set" : Str)&&S.bls.contains ("set" : Str))) then do let x <- r b;some (.sset x) else none
   | none =>
    if plainE a&&(f==("sorted" : Str)&&okName f&&S.glo f&&S.bls.contains f) then do let x <- r a;some (.sortL x) else none))
 | _=>none
noncomputable def rngE:Expr->Option (Str×Pos×List Expr×Pos)
 | .Call (.Name f p) as [] q=>some (f,p,as,q)
 | _=>none
noncomputable def rngOk (S:Sc)(f:Str)(as:List Expr):Bool:=f==("range" : Str)&&okName f&&S.glo f&&S.bls.contains f&&as.all plainE
noncomputable def lrngOk (S:Sc)(f g:Str):Bool:=f==("list" : Str)&&g==("range" : Str)&&okName f&&okName g&&S.glo f&&S.glo g&&S.bls.contains f&&S.bls.contains g
noncomputable def lrngA (e:Expr):Option (Str×Pos×Expr×Expr×Expr×Pos):=match rngE e with
 | some (g,p,as,q)=>(match as with
  | [a,b,c]=>some (g,p,a,b,c,q)
  | _=>none)
 | none=>none
noncomputable def lrngK (S:Sc)(r:Expr->Option IE)(f:Str)(as:List Expr)(k:Option IE):Option IE:=match as with
 | [e]=>(match lrngA e with
  | some (g,_,a,b,c,_)=>if lrngOk S f g then (if plainE a&&(plainE b&&plainE c) then do let x <- r a;let y <- r b;let z <- r c;some (.lrng x y z) else none) else k
  | none=>k)
 | _=>k
noncomputable def intK (S:Sc)(r:Expr->Option IE)(f:Str)(as:List Expr)(k:Option IE):Option IE:=match as with
 | [a]=>if (f==("int" : Str)&&okName f&&S.glo f&&S.bls.contains f) then (if plainE a then do let x <- r a;some (.intB x) else none) else k
 | _=>k
noncomputable def isiK (S:Sc)(r:Expr->Option IE)(f:Str)(as:List Expr):Option IE:=match as with
 | [a,t]=>(match nmE t with
  | some (t',_)=>if isiOk S f t'&&plainE a then (match tyOf t' with
   | some k=>do let x <- r a;some (.isI x k)
   | none=>none) else none
  | none=>none)
 | _=>none
noncomputable def attrK (r:Expr->Option IE)(rs:List Expr->Option IEs)(o:Expr)(m:Str)(p2 p3:Pos)(as:List Expr):Option IE:=match as with
 | e::es=>if bsE o&&(p2.endLine==p3.line&&decide ((e::es).length < 29)) then (match
   mtOf m (e::es).length with
   | some k=>do let x <- r o;let xs <- rs (e::es);some (.mth k x xs)
   | none=>none) else none
 | _=>none
noncomputable def fnK (S:Sc)(r:Expr->Option IE)(rs:List Expr->Option IEs)(f:Str)(as:List Expr):Option IE:=match as with
 | e::es=>if f==("sorted" : Str) then sortK S r f (e::es) else if f==("isinstance" : Str) then isiK S r f (e::es) else
  lrngK S r f (e::es) <|
  intK S r f (e::es) <|
  callK S f (e::es).length (rs (e::es))
 | _=>none
noncomputable def callE (S:Sc)(r:Expr->Option IE)(rs:List Expr->Option IEs)(f:Expr)(as:List Expr)(p:Pos):Option IE:=match f with
 | .Name g _=>fnK S r rs g as
 | .Attribute o m p2=>attrK r rs o m p2 p as
 | _=>none
noncomputable def rngK (S:Sc)(r:Expr->Option IE)(f:Str)(as:List Expr):Option IT:=if rngOk S f as then (match as with
 | [a]=>do let x <- r a;some (.rng1 x)
 | [a,b]=>do let x <- r a;let y <- r b;some (.rng2 x y)
 | _=>none) else none
noncomputable def itE:Expr->Bool
 | .Name _ _=>true | .Subscript _ _ _=>true | .BinOp _ _ _ _=>true | .Call _ _ _ _=>true | .List _ _=>true | .ListComp _ _ _ _=>true | _=>false
noncomputable def andorC:BoolOp->IC->IC->IC
 | .And=>.and
 | .Or=>.or
noncomputable def condK (r:Expr->Option IC)(op:BoolOp)(es:List Expr):Option IC:=match es with
 | [a,b]=>do let k <- r a;let j <- r b;some (andorC op k j)
 | [a,b,c]=>do let k <- r a;let j <- r b;let l <- r c;some (andorC op k (andorC op j l))
 | [a,b,c,d]=>do let k <- r a;let j <- r b;let l <- r c;let m <- r d;some (andorC op k (andorC op j (andorC op l m)))
 | _=>none
noncomputable def cmpR (S:Sc)(r:Expr->Option IE)(a:Expr)(ops:List CmpOp)(bs:List Expr):Option IE:=match ops,bs with
 | [op],[b]=>if isRng b then
  none
  else cmpK r a [op] [b]
 | ops,bs=>cmpK r a ops bs
noncomputable def gensK:List Comprehension->Option (Str×Pos×Expr×List Expr)
 | [⟨.Name x p,iter,ifs,0⟩]=>some (x,p,iter,ifs)
 | _=>none
noncomputable def cmpN1 (a:Expr)(op:CmpOp)(bs:List Expr)(p:Pos):Option (Str×Pos×CmpOp×Str×Pos×Pos):=match bs with
 | []=>none
 | b::r=>(match r with
  | []=>(match nmE a with
   | some (x,px)=>(match nmE b with
    | some (y,py)=>some (x,px,op,y,py,p)
    | none=>none)
   | none=>none)
  | _::_=>none)
noncomputable def cmpN (e:Expr):Option (Str×Pos×CmpOp×Str×Pos×Pos):=match e with
 | .Compare a ops bs p=>(match ops with
  | []=>none
  | op::r=>(match r with
   | []=>cmpN1 a op bs p
   | _::_=>none))
 | _=>none
noncomputable def isLtE:CmpOp->Bool
 | .LtE=>true
 | _=>false
noncomputable def isLt:CmpOp->Bool
 | .Lt=>true
 | _=>false
noncomputable def isAnd:BoolOp->Bool
 | .And=>true
 | .Or=>false
noncomputable def kyrC2 (x:Str)(a b:Expr):Option (Str×Str):=match cmpN a with
 | some (lo,_,o1,y,_,_)=>(match cmpN b with
  | some (z,_,o2,hi,_,_)=>if isLtE o1&&(isLt o2&&(y==x&&(z==x&&(okName lo&&(okName hi&&okName x))))) then some (lo,hi) else none
  | none=>none)
 | none=>none
noncomputable def kyrC1 (x:Str)(es:List Expr):Option (Str×Str):=match es with
 | []=>none
 | a::r=>(match r with
  | []=>none
  | b::r2=>(match r2 with
   | []=>kyrC2 x a b
   | _::_=>none))
noncomputable def kyrC (x:Str)(e:Expr):Option (Str×Str):=match e with
 | .BoolOp op es _=>if isAnd op then kyrC1 x es else none
 | _=>none
noncomputable def kyrK (S:Sc)(elt:Expr)(sc:Scope)(x:Str)(iter:Expr)(ifs:List Expr)(k:Option IE):Option IE:=match nmE iter,nmE elt,ifs with
 | some (d,_),some (y,_),[c]=>if d==("_law_some" : Str) then (match kyrC x c with
  | some (lo,hi)=>if y==x&&(okName d&&(S.vis d&&(lo != x&&(hi != x&&((S.comp sc [x]).vis lo&&((S.comp sc [x]).vis hi&&(S.comp sc [x]).vis x)))))) then do
    let i <- slot S.N d
    let l <- slot S.N lo
    let h <- slot S.N hi
    some (.kyr i l h) else none
  | none=>none) else k
 | _,_,_=>k
mutual
noncomputable def cE (S:Sc):Nat->Expr->Option IE
 | 0,_=>none
 | n + 1,e=>match e with
  | .Name x _=>nameK S x
  | .Constant c _ _=>constK c
  | .BinOp a op b _=>if inDomOp op then do let x <- cE S n a;let y <- cE S n b;some (.bin op x y) else none
  | .Compare a ops bs _=>cmpR S (cE S n) a ops bs
  | .BoolOp op es p=>boolK (cE S n) op es p
  | .UnaryOp op a _=>unK (cE S n) op a
  | .IfExp c a b _=>do let k <- cC S n c;let x <- cE S n a;let y <- cE S n b;some (.ifE k x y)
  | .Tuple es _ _=>do let xs <- cEs S n es;some (.tup xs)
  | .List es _=>do let xs <- cEs S n es;some (.lst xs)
  | .Dict ks vs _=>dictK (cE S n) ks vs
  | .Subscript a b _=>subK (cE S n) (cO S n) a b
  | .Call f as ks p=>if ks.isEmpty then callE S (cE S n) (cEs S n) f as p else none
  | .ListComp elt gs sc _=>(match gensK gs with
   | some (x,_,iter,ifs)=>if compOk S sc [x] then kyrK S elt sc x iter ifs (do
     let it <- cT S n iter
     let c <- cCo (S.comp sc [x]) n ifs
     let e <- cE (S.comp sc [x]) n elt
     some (.comp ((slot S.N x).getD S.N.length) it c e)) else none
   | none=>none)
  | _=>none
noncomputable def cEs (S:Sc):Nat->List Expr->Option IEs
 | 0,_=>none
 | _ + 1,[]=>some .nil
 | n + 1,e::es=>if plainE e then do let x <- cE S n e;let xs <- cEs S n es;some (.cons x xs) else none
noncomputable def cO (S:Sc):Nat->Option Expr->Option IEo
 | 0,_=>none
 | _ + 1,none=>some .none
 | n + 1,some e=>do let x <- cE S n e;some (.some x)
noncomputable def cT (S:Sc):Nat->Expr->Option IT
 | 0,_=>none
 | n + 1,e=>match rngE e with
  | some (f,_,as,_)=>if f==("range" : Str) then rngK S (cE S n) f as else (cE S n e).map .seq
  | none=>if itE e then (cE S n e).map .seq else none
noncomputable def cC (S:Sc):Nat->Expr->Option IC
 | 0,_=>none
 | n + 1,e=>match e with
  | .UnaryOp op a _=>if op==.Not then (cC S n a).map .not else none
  | .BoolOp op es _=>condK (cC S n) op es
  | .Compare a ops bs _=>(cmpR S (cE S n) a ops bs).map .cmp
  | .Name x p=>(cE S n (.Name x p)).map .tru
  | .Call f as ks p=>(cE S n (.Call f as ks p)).map .tru
  | .Subscript a b p=>(cE S n (.Subscript a b p)).map .tru
  | _=>none
noncomputable def cCo (S:Sc):Nat->List Expr->Option ICo
 | 0,_=>none
 | _ + 1,[]=>some .none
 | n + 1,[c]=>do let k <- cC S n c;some (.some k)
 | _,_=>none
end
noncomputable def compP:Expr->Option (Expr×List Comprehension×Scope)
 | .ListComp elt gs sc _=>some (elt,gs,sc)
 | _=>none
noncomputable def asgN (S:Sc)(n:Nat)(x:Str)(v:Expr):Option IS:=match compP v with
 | some (elt,gs,sc)=>(match gensK gs with
  | some (y,_,iter,ifs)=>if S.loc x&&compOk S sc [y] then do
   let i <- slot S.N x
   let it <- cT S n iter
   let c <- cCo (S.comp sc [y]) n ifs
   let e <- cE (S.comp sc [y]) n elt
   some (.set i (.comp ((slot S.N y).getD S.N.length) it c e)) else none
  | none=>none)
 | none=>if S.loc x&&noComp v then do let i <- slot S.N x;let y <- cE S n v;some (.set i y) else none
noncomputable def asgT (S:Sc)(n:Nat)(t:Expr)(v:Expr):Option IS:=match t with
 | .Name x _=>asgN S n x v
 | .Subscript o i _=>if ixE i then do let y <- cE S n v;let a <- cE S n o;let b <- cE S n i;some (.setIx a b y) else none
 | _=>none
noncomputable def asgK (S:Sc)(n:Nat)(ts:List Expr)(v:Expr):Option IS:=match ts with
 | []=>none
 | t::r=>(match r with
  | []=>asgT S n t v
  | _::_=>none)
noncomputable def enumK (S:Sc)(r:Expr->Option IE)(f:Str)(as:List Expr):Option IP:=match as with
 | []=>none
 | a::l=>(match l with
  | []=>if okName f&&S.glo f&&S.bls.contains f&&plainE a then (r a).map .enum else none
  | _::_=>none)
noncomputable def cP (S:Sc)(n:Nat)(e:Expr):Option IP:=match rngE e with
 | some (f,_,as,_)=>if f==("enumerate" : Str) then enumK S (cE S n) f as else (cE S n e).map .seq
 | none=>if itE e then (cE S n e).map .seq else none
noncomputable def zipFE (S:Sc)(e:Expr):Option (Pos×Expr×Expr×Pos):=match rngE e with
 | some (f,p,as,q)=>if f==("zip" : Str) then (match as with
  | [a,b]=>if plainE a&&plainE b&&S.glo "zip"&&S.bls.contains "zip" then some (p,a,b,q) else none
  | _=>none) else none
 | none=>none
noncomputable def zipFK (S:Sc)(n:Nat)(i j:Nat)(e:Expr)(z:ISs)(k:Option IS):Option IS:=match zipFE S e with
 | some (_,a,b,_)=>do let x <- cE S n a;let y <- cE S n b;some (.forZ i j x y z)
 | none=>k
noncomputable def pair2 (S:Sc)(n:Nat)(a b iter:Expr)(r:Option ISs):Option IS:=match nmE a with
 | none=>none
 | some (x,_)=>(match nmE b with
  | none=>none
  | some (y,_)=>if S.loc x&&S.loc y then do 
   let i <- slot S.N x;let j <- slot S.N y;let z <- r;zipFK S n i j iter z (do let it <- cP S n iter;some (.forP i j it z)) else none)
noncomputable def pairT (S:Sc)(n:Nat)(ts:List Expr)(iter:Expr)(r:Option ISs):Option IS:=match ts with
 | []=>none
 | a::l=>(match l with
  | []=>none
  | b::l2=>(match l2 with
   | []=>pair2 S n a b iter r
   | _::_=>none))
noncomputable def forT (S:Sc)(n:Nat)(t iter:Expr)(r:Option ISs):Option IS:=match t with
 | .Name x _=>if S.loc x then do let i <- slot S.N x;let it <- cT S n iter;let y <- r;some (.forS i it y) else none
 | .Tuple ts _ _=>pairT S n ts iter r
 | _=>none
noncomputable def noneK (o:List Stmt)(r:Option IS):Option IS:=match o with
 | []=>r
 | _::_=>none
mutual
noncomputable def cS (S:Sc):Nat->Stmt->Option IS
 | 0,_=>none
 | n + 1,s=>match s with
  | .Assign ts v _=>asgK S n ts v
  | .Expr e _=>if noComp e then do let y <- cE S n e;some (.expr y) else none
  | .Return o _=>(match o with
   | some e=>do let y <- cE S n e;some (.ret y)
   | none=>some .retN)
  | .Raise _ _ _=>some .halt
  | .Pass _=>some .pass
  | .Break _=>some .brk
  | .Continue _=>some .cnt
  | .If c a b _=>do let k <- cC S n c;let x <- cSs S n a;let y <- cSs S n b;some (.ifS k x y)
  | .For t iter b o _=>noneK o (forT S n t iter (cSs S n b))
  | .While c b o _=>noneK o (do let k <- cC S n c;let y <- cSs S n b;some (.whileS k y))
  | _=>none
noncomputable def cSs (S:Sc):Nat->List Stmt->Option ISs
 | 0,_=>none
 | _ + 1,[]=>some .nil
 | n + 1,s::r=>do let x <- cS S n s;let y <- cSs S n r;some (.cons x y)
end
end L3
namespace L2
open PySem PySem.Spec PyProof.Rows
theorem codeAny_compLoop_own {prog:Program}{w:World}{A:Around}{R:Result->Shared->Prop}{s:Shared}{elt target iter:Expr}{ifs:List Expr}{scope:Scope}{pos:Pos}{it acc:Value}{env:Env}(I:Nat->Shared->Prop)
  (turn:∀ n s,I n s->wpAny (model prog w) A (pyNext it) (fun r s₁=>match r with
   | none=>R (.ok .next) s₁
   | some v=>wpAny (model prog w) A (letOwnedTupleGo target it v) (fun _ s₁'=>wpAny (model prog w) A (assign target env v) (fun _ s₂ =>
     wpAny (model prog w) A (forIn ifs true fun c r=>if r=true then do let ok <- isTrue c env (eval c env);pure (ForInStep.yield ok) else pure (ForInStep.yield r)) (fun ok s₃ =>
      if ok=true then wpAny (model prog w) A (eval elt env) (fun x s₄ =>
       wpAny (model prog w) A (call (.builtin "list.append") [acc,x]) (fun _ s₅=>∃ m,m < n/\I m s₅) (fun _ _=>False) s₄) (fun _ _=>False) s₃
      else ∃ m,m < n/\I m s₃) (fun _ _=>False) s₂) (fun _ _=>False) s₁') (fun _ _=>False) s₁) (fun _ _=>False) s)
  (n:Nat) (h:I n s) :
  codeAny (model prog w) A (.compLoop (.ListComp elt [⟨target,iter,ifs,0⟩] scope pos) 0 it acc env) R s:=by
 refine codeAny_loop rfl I (fun n s hI=>?_) n h;show wpAny _ A ((compTurn (.ListComp elt [⟨target,iter,ifs,0⟩] scope pos) 0 it acc env).onRaise (fun x=>do noteFrame x env;theTreesLotGoes x)) _ _ s;refine wpAny_noted ?_;rw[compTurn_list];refine zz (wpAny_standAt (zz (wpAny_mono (turn n s hI) (fun r s₁ h₁=>?_) fun _ _ h'=>h'.elim)));cases r with
 | none=>exact zu h₁
 | some v =>
  refine zz (wpAny_mono h₁ (fun _ s₁' h₁'=>?_) fun _ _ h'=>h'.elim);refine zz (wpAny_mono h₁' (fun _ s₂ h₂=>zz (wpAny_mono h₂ (fun ok s₃ h₃=>?_) fun _ _ h'=>h'.elim)) fun _ _ h'=>h'.elim);cases ok with
  | false=>exact zu ⟨rfl,h₃⟩
  | true =>
   exact zz (zz (wpAny_mono h₃ (fun x s₄ h₄=>zz (wpAny_mono h₄ (fun _ s₅ h₅=>zu (zu ⟨rfl,h₅⟩)) fun _ _ h'=>h'.elim)) fun _ _ h'=>h'.elim))
theorem lookup_relabel {env:Env}{y:Str}:∀ {names:List (Str×NameKind)},
  (names.map fun (n,k)=>if (k==NameKind.free&&env.scope.kind==.function&&env.kindOf n==some .cell) then (n,NameKind.cell) else (n,k)).lookup y =
   (names.lookup y).map fun k=>if (k==NameKind.free&&env.scope.kind==.function&&env.kindOf y==some .cell) then NameKind.cell else k
 | []=>rfl
 | (n,k)::r=>by
  have ih:=@lookup_relabel env y r;rw[zH];by_cases hx:y=n
  ·subst hx
   dsimp only;split <;> simp_all [yY]
  ·have hb:(y==n)=false:=beq_eq_false_iff_ne.mpr hx
   dsimp only;split <;> simp only[yY,hb] <;> exact ih
noncomputable def cxComp (X:Cx)(scope:Scope)(cl:List (Str×Addr))(C:Addr)(N':List Str)(s:Shared)(H:Hp)(fp:List Addr):Cx where
 prog:=X.prog
 w:=X.w
 K:=X.K
 mg:=X.mg
 base:=X.base
 A:=X.A
 N:=N'
 s₀:=s
 H₀:=H
 env:=compEnvC scope cl C X.env
 outer:=X.stack
 stack:=X.stack
 ex:=fp
 fn:=fun _=>false
 calm:=X.calm
 pn:=[]
 xe:=fun _ _=>False
structure CompSc (X:Cx) (scope:Scope) (cl:List (Str×Addr)) (xs:List Str) (N':List Str):Prop where
 kind:scope.kind=.function
 nocell:∀ y∈scope.names,y.2≠.cell
 loc:∀ x∈xs,scope.names.lookup x=some .local
 names:∀ y∈scope.names,y.2=.local->scope.names.lookup y.1=some .local
 only:∀ y,scope.names.lookup y=some .local->y∈xs\/y=(".0" : Str)
 clos:closureFor scope X.env=pure cl
 cls:∀ y c,cl.lookup y=some c->X.env.cells.lookup y=some c
 has:∀ y,scope.names.lookup y=some .free->∃ c,cl.lookup y=some c
 out:∀ y,scope.names.lookup y=some .free->X.env.kindOf y=some .cell\/X.env.kindOf y=some .free
 nd:N'.Nodup
 n0:∀ (i:Nat) (y:Str),xs[i]?=some y->N'[i]?=some y
 ns:∀ (i:Nat) (y:Str),N'[i + xs.length]?=some y->y ∉ xs/\y≠(".0" : Str)/\(X.N[i]?=some y\/¬ Vis scope y)
 len:N'.length=X.N.length + xs.length
theorem kind_relabel {scope:Scope}{env:Env}{y:Str}:(relabel scope env).names.lookup y=(scope.names.lookup y).map fun k=>if (k==NameKind.free&&env.scope.kind==.function&&env.kindOf y==some .cell) then NameKind.cell else k:=lookup_relabel
theorem lookup_mem {y:Str}{k:NameKind}:∀ {names:List (Str×NameKind)},names.lookup y=some k->(y,k)∈names:=fun h=>PySem.mem_of_lookup h
section
variable {X:Cx}{scope:Scope}{cl:List (Str×Addr)}{xs:List Str}{N':List Str}{pins:List (Addr×Obj)}{σ:St}{H:Hp}{s:Shared}{fp:List Addr}
theorem CompSc.cellAt (S:CompSc X scope cl xs N'){C:Addr}{y:Str}(h:(compEnvC scope cl C X.env).kindOf y=some .cell\/(compEnvC scope cl C X.env).kindOf y=some .free):scope.names.lookup y=some .free:=by
 have e:(compEnvC scope cl C X.env).kindOf y=(scope.names.lookup y).map fun k=>if (k==NameKind.free&&X.env.scope.kind==.function&&X.env.kindOf y==some .cell) then NameKind.cell else k:=kind_relabel;rw[e]at h;cases q:scope.names.lookup y with
 | none=>rw[q]at h;simp at h
 | some k =>
  rw[q]at h;cases k with
  | free=>rfl
  | cell=>exact absurd rfl (S.nocell _ (lookup_mem q))
  | _=>simp at h
theorem comp_ok (I:Inv X pins σ H s)(S:CompSc X scope cl xs N')(hf:∀ b∈fp,FpOk X pins H b){C:Addr}(hC:s.heap.objs.size<=C)(hfs:∀ b∈fp,b < s.heap.objs.size) :
  (cxComp X scope cl C N' s H fp).Ok where
 mod:=I.ok.mod
 kind:=S.kind
 glob:=I.ok.glob
 blt:=I.ok.blt
 above:=hC
 inj:=fun y z c h1 h2=>I.ok.inj y z c (S.cls _ _ h1) (S.cls _ _ h2)
 has:=fun y h=>S.has y (S.cellAt h)
 cab:=fun y c h=>by cases h
 hd:=I.ok.hd
 frames:=I.ok.frames
 stk:=.inl rfl
 exf:=fun b hb=>⟨zB (zf (hfs b hb) hC),fun y c e=>(hf b hb).2.2.2.2.1 y c (S.cls _ _ e)⟩
 bs:=I.bs
 bsz:=zS I.ok.bsz I.sz
 noex:=fun b o e hb=>by
  rcases (hf b hb).2.2.2.1 with z | z
  ·exact I.ok.noex b o e z
  ·exact absurd (zf (zi e) (zS I.ok.bsz z)) (yc _)
 exfs:=fun b hb z=>by
  rcases zO.mp (I.stkSub b z) with e | e
  ·exact(hf b hb).2.1 e
  ·exact(hf b hb).2.2.1 e
 funs:=I.stack
 frf:=I.stkFree
theorem comp_enter (I:Inv X pins σ H s)(S:CompSc X scope cl xs N')(hf:∀ b∈fp,FpOk X pins H b){C:Addr}{h₁:Heap}{tk:Nat}{m:Str->Option Value}(hC:s.heap.objs.size<=C)(hfs:∀ b∈fp,b < s.heap.objs.size)
  (old:∀ b o,s.heap.get? b=some o->h₁.get? b=some o) (hns:h₁.Ns C m):Inv (cxComp X scope cl C N' s H fp) (X.pn++pins) (yH xs.length none++σ) H { s with heap:=h₁,toks:=tk }:=by
 refine⟨comp_ok I S hf hC hfs,rfl,I.bare,Un.kept old,⟨m,hns,fun i y v e1 e2 e3=>?_⟩,fun y c e=>?_,I.hok.fresh hC,fun y c e=>I.freeC y c (S.cls _ _ e),fun p hp=>?_,I.hok.kept old,?_⟩
 ·by_cases hi:i < xs.length
  ·rw[zF (by rw[ym];exact hi),xB,if_pos hi]at e2
   cases e2
  ·obtain⟨j,rfl⟩:∃ j,i=j + xs.length:=⟨i - xs.length,by omega⟩
   obtain⟨n1,n2,n3⟩:=S.ns j y e1;have e2':σ[j]?=some (some v):=by
    rw[ze (by rw[ym];omega),ym,vt]at e2;exact e2
   have e:(relabel scope X.env).names.lookup y=(scope.names.lookup y).map fun k=>if (k==NameKind.free&&X.env.scope.kind==.function&&X.env.kindOf y==some .cell) then NameKind.cell else k:=kind_relabel;have e3':(relabel scope X.env).names.lookup y=some .local\/(relabel scope X.env).names.lookup y=some .cell\/(relabel scope X.env).names.lookup y=some .free:=e3;have q:scope.names.lookup y=some .free:=by
    cases q:scope.names.lookup y with
    | none=>rw[e,q]at e3';simp at e3'
    | some k =>
     rw[e,q]at e3';cases k with
     | free=>rfl
     | cell=>exact absurd rfl (S.nocell _ (lookup_mem q))
     | «local» =>
      rcases S.only y q with z | z
      ·exact absurd z n1
      ·exact absurd z n2
     | _=>simp at e3'
   have hN:X.N[j]?=some y:=by
    rcases n3 with z | z
    ·exact z
    ·exact absurd (Or.inr (Or.inr q)) z
   obtain⟨m',hn',hl'⟩:=I.loc;have vx:Vis X.env.scope y:=by
    rcases S.out y q with z | z
    ·exact .inr (.inl z)
    ·exact .inr (.inr z)
   obtain⟨u,ru,lk⟩:=hl' j y v hN e2' vx;refine⟨u,ru,?_⟩;rcases lk with ⟨k1,_⟩|⟨_,c,hc,o,ho,hd⟩
   ·rcases S.out y q with z | z
    ·rw[z]at k1;cases k1
    ·rw[z]at k1;cases k1
   ·obtain⟨c',hc'⟩:=S.has y q
    have:=S.cls y c' hc'
    rw[hc]at this;cases this;refine .inr ⟨?_,c,hc',o,old _ _ ho,hd⟩;rw[e,q]at e3';show (relabel scope X.env).names.lookup y=some .cell\/(relabel scope X.env).names.lookup y=some .free;rw[e,q];rcases e3' with z | z
    ·simp only[xf,Option.some.injEq]at z
     split at z <;> cases z
    ·exact z
 ·obtain⟨v,o,ho,hd⟩:=I.cell y c (S.cls _ _ e)
  exact⟨v,o,old _ _ ho,hd⟩
 ·have hp':p∈X.pn++pins:=hp
  obtain⟨e,n,ne,nf,d⟩:=I.pin p hp';refine⟨old _ _ e,n,zB (zf (zi e) hC),fun z=>?_,d⟩;rcases zO.mp (I.stkSub _ z) with q | q
  ·exact ne q
  ·exact nf q
 ·show (yH xs.length none++σ).length=N'.length
  rw[S.len,zq,ym,I.len,vk]
end
theorem Un.adopt {fs ex:List Addr}{H H':Hp}{h h':Heap}{D:Addr}{o:HO}(u:Un fs ex H H' h h')(hD:h.get? D=none)(hn:H' D=none):Un fs ex H (upd H' D o) h h' where
 keep:=u.keep
 slot:=u.slot
 free:=fun b ob q n hx=>by
  have:b≠D:=fun z=>by rw[z,hD]at q;cases q
  rw[upd_ne this];exact u.free b ob q n hx
 there:=u.there
 tups:=fun b xs q=>by
  have q':=u.tups b xs q;rw[upd_ne (ne_of_none q' hn)];exact q'
 frzs:=fun b ob v q=>by
  have q':=u.frzs b ob v q;rw[upd_ne (ne_of_none q' hn)];exact q'
 tbls:=fun b ps q=>by
  obtain⟨more,q'⟩:=u.tbls b ps q;exact⟨more,by rw[upd_ne (ne_of_none q' hn)];exact q'⟩
theorem HOk.adopt {P:Program}{w:World}{H:Hp}{h:Heap}{D:Addr}{o:HO}(x:HOk P w H h)(hn:H D=none)(new:ObjOk P w (upd H D o) h D o):HOk P w (upd H D o) h:=fun b u e=>by
 by_cases hb:b=D
 ·subst hb;rw[upd_same]at e;cases e;exact new
 ·rw[upd_ne hb]at e
  exact(x b u e).stay (fun _ _ _ q=>q) (fun c q=>by rw[upd_ne (ne_of_none q hn)];exact q) fun c xs q=>by rw[upd_ne (ne_of_none q hn)];exact q
noncomputable def PTs (X:Cx)(ifs:List Expr)(tc:TT):Prop :=
 ∀ (pins:List (Addr×Obj)) (s:Shared) (σ:St) (H:Hp) (Q:Bool->Hp->Prop),Inv X pins σ H s->tc σ H Q ->
  wpAny (model X.prog X.w) X.A (forIn ifs true fun c r=>if r=true then do let ok <- isTrue c X.env (eval c X.env);pure (ForInStep.yield ok) else pure (ForInStep.yield r)) (TP X pins σ Q) X.xe s
noncomputable def tYes:TT:=fun _ H Q=>Q true H
theorem pts_nil {X:Cx}:PTs X [] tYes:=fun _ _ _ H _ I h=>wpAny_tests_nil ⟨H,I,h⟩
theorem pts_one {X:Cx}{c:Expr}{tc:TT}(hc:PT X c tc):PTs X [c] tc:=fun pins s σ H Q I h=>wpAny_tests_one (hc pins s σ H Q I h)
noncomputable abbrev lobj (its:List Value) (n:Nat):Obj:={ cls:=.type "list",data:=.seq its.toArray n }
noncomputable def CompW (J:It)(g:TG)(kk:Nat)(tc:TT)(te:TE)(σ:St)(Fin:List V->Hp->Prop)(W:Nat->Nat->List V->Hp->Prop):Prop:=∀ i m ys H,W i m ys H ->
 (J.stop i H/\ys.length<=zn/\Fin ys H) \/
 (J.go i H/\ys.length < zn/\∀ v H' (os:St),os.length=kk->J.yld i H v H'->g v (os++σ) H' fun σ1 H1=>∃ os1:St,os1.length=kk/\σ1=os1++σ/\tc σ1 H1 fun b H2=>if b=true then te σ1 H2 fun y H3=>∃ m',m' < m/\W (i + 1) m' (ys++[y]) H3 else ∃ m',m' < m/\W (i + 1) m' ys H2)
section
variable {X:Cx}{scope:Scope}{cl:List (Str×Addr)}{xs:List Str}{tg:Expr}{g:TG}{N':List Str}{pins:List (Addr×Obj)}{σ:St}{H:Hp}{s:Shared}{fp:List Addr}{it:Addr}{J:It}{tn:Nat->Heap->Prop}
 {elt iter:Expr} {ifs:List Expr} {pos:Pos} {tc:TT} {te:TE}
theorem comp_block (hc:X.calm=true)(S:CompSc X scope cl xs N')(hg:∀ C s H fp,PG (cxComp X scope cl C N' s H fp) tg g)(htc:∀ C s H fp,PTs (cxComp X scope cl C N' s H fp) ifs tc)(hte:∀ C s H fp,PE (cxComp X scope cl C N' s H fp) elt te)
  (I:Inv X pins σ H s) (T:Turn X.prog X.w X.K tg J fp it tn) (st:tn 0 s.heap) (hf:∀ b∈fp,FpOk X pins H b)
  {Fin:List V->Hp->Prop} {W:Nat->Nat->List V->Hp->Prop} (hW:CompW J g xs.length tc te σ Fin W) {m0:Nat} (w0:W 0 m0 [] H) {E:Value->Shared->Prop} {RR:Value->Addr->Result->Shared->Prop}
  (fin:∀ (D C:Addr) (s':Shared) (ys:List V) (H':Hp),Inv X pins σ (upd H' D (.lst ys)) s'->H' D=none->upd H' D (.lst ys) C=none->C≠X.env.locals->X.s₀.heap.objs.size<=C->(∀ y c,X.env.cells.lookup y=some c->c≠C)->(∀ p∈X.pn++pins,p.1≠C) ->
   (∃ m,s'.heap.Ns C m)->Fin ys H'->RR (.ref D) C (.ok .next) s') :
  wpAny (model X.prog X.w) X.A (newList []) (fun acc s₃=>wpAny (model X.prog X.w) X.A (newFunctionEnv scope X.env.globals cl [] X.env.qual none .none (some X.env)) (fun cenv s₄ =>
   codeAny (model X.prog X.w) X.A (.compStart (.ListComp elt [⟨tg,iter,ifs,0⟩] scope pos) 0 (.ref it) acc { cenv with scope:=relabel scope X.env }) (RR acc cenv.locals) s₄) E s₃) E s:=by
 have hfs:∀ b∈fp,b < s.heap.objs.size:=fun b hb=>by
  obtain⟨o,e,_⟩:=T.obj _ _ st b hb;exact zi e
 refine wpAny_newObj_type (wpAny_newFunctionEnv S.nocell (by intro y hy;simp at hy) (fun h₁ hns₁ hsb₁=>?_) S.kind);dsimp only at hns₁ hsb₁ ⊢;generalize hH2:s.heap.push { cls:=.type "list",dict:=none,data:=.seq ([]:List Value).toArray }=H2 at hns₁ hsb₁ ⊢;generalize hDe:s.heap.objs.size=D at *;generalize hCe:H2.objs.size=C at *;have hC:C=D + 1:=by rw[<- hCe,<- hH2,yI,hDe]
 have hDC:D≠C:=by rw[hC];exact zB (yQ _)
 have hDle:D<=C:=by rw[hC];exact wR _
 have old:∀ b o,s.heap.get? b=some o->h₁.get? b=some o:=fun b o e=>by
  have hb:b < D:=hDe ▸ zi e;exact hsb₁.extBut b o (zB (zf hb hDle)) (zv _ (hH2 ▸ zv _ e))
 have hacc:h₁.get? D=some (lobj [] 0):=hsb₁.extBut _ _ hDC (zv _ (hH2 ▸ hDe ▸ zj _ rfl));have hsD:s.heap.get? D=none:=xQ (yF hDe);have ptD:∀ p∈X.pn++pins,p.1 < D:=fun p hp=>hDe ▸ zi (I.pin p hp).1;have clD:∀ y c,X.env.cells.lookup y=some c->c < D:=fun y c e=>by
  obtain⟨v,o,ho,_⟩:=I.cell y c e;exact hDe ▸ zi ho
 have fsD:∀ b∈frs X.stack,b < D:=fun b hb=>by
  obtain⟨_,o,ho,_⟩:=I.stack.mem hb;exact hDe ▸ zi ho
 have loop:∀ s₃:Shared,s₃ = { s with heap:=h₁,toks:=s.toks + ([]:List (Str×Value)).length } ->
   codeAny (model X.prog X.w) X.A (.compLoop (.ListComp elt [⟨tg,iter,ifs,0⟩] scope pos) 0 (.ref it) (.ref D) (compEnvC scope cl C X.env)) (RR (.ref D) C) s₃:=by
  rintro s₃ rfl;have I₁:Inv (cxComp X scope cl C N' s H fp) (X.pn++pins) (yH xs.length none++σ) H { s with heap:=h₁,toks:=s.toks + ([]:List (Str×Value)).length } :=
   comp_enter I S hf (by rw[hDe];exact hDle) (fun b hb=>by rw[hDe];exact hfs b hb) old hns₁
  have pinD:∀ {its:List Value} {n:Nat} {σ':St} {H':Hp} {s':Shared},Inv (cxComp X scope cl C N' s H fp) (X.pn++pins) σ' H' s'->s'.heap.get? D=some (lobj its n)->H' D=none ->
    Inv (cxComp X scope cl C N' s H fp) ((X.pn++pins)++[(D,lobj its n)]) σ' H' s':=fun {its n σ' H' s'} J' e n=>J'.pins_of fun p hp=>by
   rcases zG.mp hp with hp | hp
   ·exact J'.pin p (zb _ hp)
   ·rw[zJ.mp hp]
    exact⟨e,n,hDC,fun z=>yc _ (fsD D z),fun v z=>by cases z⟩
  refine codeAny_compLoop_own (fun k s'=>∃ (i:Nat) (ys:List V) (its:List Value) (n:Nat) (os:St) (H':Hp),os.length=xs.length/\Inv (cxComp X scope cl C N' s H fp) ((X.pn++pins)++[(D,lobj its n)]) (os++σ) H' s'/\Vals ys its/\tn i s'.heap/\(∀ b∈fp,H' b=none)/\W i k ys H') ?_ m0
   ⟨0,[],[],0,yH xs.length none,H,ym ..,pinD I₁ hacc (I.hok.fresh (yF hDe)),.nil,T.keep _ _ _ st fun b _ o e=>old b o e,fun b hb=>(hf b hb).1,w0⟩
  rintro k s4 ⟨i,ys,its,n,os,H4,ho4,I4,rv,st4,fr4,w4⟩;have pD:∀ {its:List Value} {n:Nat} {pl:List (Addr×Obj)} {σ':St} {H':Hp} {s':Shared},Inv (cxComp X scope cl C N' s H fp) (((X.pn++pins)++[(D,lobj its n)])++pl) σ' H' s'->s'.heap.get? D=some (lobj its n)/\H' D=none:=fun J' =>
   let q:=J'.pin (D,lobj _ _) (zb _ (yw _ (zb _ zU)))
   ⟨q.1,q.2.1⟩
  have stat:∀ {its:List Value} {n:Nat} {H':Hp},(∀ b∈fp,H' b=none)->∀ b∈fp,FpOk (cxComp X scope cl C N' s H fp) ((X.pn++pins)++[(D,lobj its n)]) H' b:=fun {its n H'} hn b hb=>by
   obtain⟨f0,f1,f2,f3,f4,f5⟩:=hf b hb;refine⟨hn b hb,zB (zf (hfs b hb) hDle),fun z=>?_,.inl hb,fun y c e=>f4 y c (S.cls _ _ e),fun p hp=>?_⟩
   ·rcases zO.mp (I.stkSub b z) with q | q
    ·exact f1 q
    ·exact f2 q
   ·have hp:p∈(X.pn++pins)++[(D,lobj its n)]:=hp
    rcases zG.mp hp with hp | hp
    ·exact f5 p hp
    ·rw[zJ.mp hp]
     exact Ne.symm (zB (hfs b hb))
  rcases hW i k ys H4 w4 with ⟨stop,hz,q⟩|⟨go,hz,step⟩
  ·refine thn (T.done (cxComp X scope cl C N' s H fp) rfl rfl rfl hc i _ s4 _ H4 _ I4 (stat fr4) st4 stop) fun r s5 ⟨hr,I5⟩=>?_
   subst hr;obtain⟨gD,nD⟩:=pD (pl:=[]) (by rw[ya];exact I5);have un:Un (frs X.stack) fp H (upd H4 D (.lst ys)) s.heap s5.heap:=Un.adopt I5.base hsD nD;have hok:HOk X.prog X.w (upd H4 D (.lst ys)) s5.heap:=HOk.adopt I5.hok nD ⟨hz,its,n,rv,gD⟩;have I6:Inv X pins σ (upd H4 D (.lst ys)) s5:=I.call' (ch:=fp) I5.os un hok I5.bare fun b hb=>by
    obtain⟨f0,f1,f2,f3,f4,f5⟩:=hf b hb;exact⟨f3,f1,f4,f5⟩
   have cn:H4 C=none:=I5.free;have lo:X.s₀.heap.objs.size<=C:=zS I.sz (by rw[hDe];exact hDle);exact fin D C s5 ys H4 I6 nD (by rw[upd_ne (Ne.symm hDC)];exact cn) (yN (zf (hDe ▸ I.lt) hDle)) lo (fun y c e=>zB (zf (clD y c e) hDle)) (fun p hp=>zB (zf (ptD p hp) hDle))
    (let ⟨m,hm,_⟩:=I5.loc;⟨m,hm⟩) q
  ·refine thn (T.item (cxComp X scope cl C N' s H fp) rfl rfl rfl hc i _ s4 _ H4 _ I4 (stat fr4) st4 go) fun r s5 ⟨u,hr,h5⟩=>?_
   subst hr;refine thn h5 fun _ s6 ⟨v,H6,I6,r6,y6,st6,fr6⟩=>?_;have I6':=I6.pinned (stat fr6) (T.obj _ _ st6);refine thn (hg C s H fp _ s6 _ H6 v u _ I6' r6 (step v H6 os ho4 y6)) fun _ s7 ⟨σ7,H7,I7,os7,ho7,e7,q7⟩=>?_;subst e7;have fpK:∀ {σ':St} {H':Hp} {s':Shared},Inv (cxComp X scope cl C N' s H fp) (((X.pn++pins)++[(D,lobj its n)])++pinsAt fp s6.heap) σ' H' s'->tn (i + 1) s'.heap/\∀ b∈fp,H' b=none:=fun {σ' H' s'} J' =>
    ⟨T.keep _ _ _ st6 fun b hb ob e=>(J'.pin (b,ob) (zb _ (zb _ (mem_pinsAt hb e)))).1,fun b hb=>by
     obtain⟨ob,e,d⟩:=T.obj _ _ st6 b hb;exact(J'.pin (b,ob) (zb _ (zb _ (mem_pinsAt hb e)))).2.1⟩
   refine thn (htc C s H fp _ s7 _ H7 _ I7 q7) fun b s8 ⟨H8,I8,q8⟩=>?_;cases b with
   | false =>
    rw[if_neg zo]at q8 ⊢;obtain⟨m',hm,w8⟩:=q8;obtain⟨t8,f8⟩:=fpK I8;exact⟨m',hm,i + 1,ys,its,n,os7,H8,ho7,I8.unpinned,rv,t8,f8,w8⟩
   | true =>
    rw[if_pos rfl]at q8 ⊢;refine thn (hte C s H fp _ s8 _ H8 _ I8 q8) fun u9 s9 ⟨y,H9,I9,r9,m',hm,w9⟩=>?_;obtain⟨gD,nD⟩:=pD I9;obtain⟨t9,f9⟩:=fpK I9;refine append_at (its:=its.toArray) (n:=n) gD (fun h' sb hD'=>?_) (by have:=rv.length;simp;omega);have I10:Inv (cxComp X scope cl C N' s H fp) (X.pn++pins) (os7++σ) H9 s9:=I9.unpinned.unpinned;have I11:Inv (cxComp X scope cl C N' s H fp) (X.pn++pins) (os7++σ) H9 { s9 with heap:=h' }:=I10.turned (t':=s9.toks) (it:=D) (fun b ob hb e=>sb.extBut b ob hb e) nD hDC (.inr (yF hDe))
     (fun z c e=>zB (clD z c (S.cls _ _ e))) fun p hp=>zB (ptD p hp)
    refine⟨m',hm,i + 1,ys++[y],its++[u9],n + 1,os7,H9,ho7,pinD I11 (by rw[hD'];simp) nD,rv.append (.cons r9 .nil),T.keep _ _ _ t9 fun b hb ob e=>sb.extBut b ob (zB (hfs b hb)) e,f9,w9⟩
 exact codeAny_compStart_list (loop _ rfl) (T.self X.A 0 _ _ _ (T.keep _ _ _ st fun b _ o e=>old b o e) (loop _ rfl))
end
noncomputable def tComp (wi:TI)(g:TG)(kk:Nat)(tc:TT)(te:TE):TE:=fun σ H Q=>wi σ H fun J H1=>∃ W:Nat->Nat->List V->Hp->Prop,(∃ m,W 0 m [] H1) /\
 CompW J g kk tc te σ (fun ys H'=>∀ p,H' p=none->Q (.ref p) (upd H' p (.lst ys))) W
section
variable {X:Cx}{scope:Scope}{cl:List (Str×Addr)}{xs:List Str}{tg:Expr}{g:TG}{N':List Str}{elt iter:Expr}{ifs:List Expr}{pos:Pos}{tc:TT}{te:TE}{wi:TI}
theorem ns_gone {pins:List (Addr×Obj)}{σ:St}{H:Hp}{s:Shared}{C:Addr}{h':Heap}(I:Inv X pins σ H s)(sb:Heap.SameBut C s.heap h')(h0:H C=none)(h1:C≠X.env.locals)(h2:X.s₀.heap.objs.size<=C)(h3:∀ y c,X.env.cells.lookup y=some c->c≠C)(h4:∀ p∈X.pn++pins,p.1≠C) :
  Inv X pins σ H { s with heap:=h' }:=I.turned (t':=s.toks) (it:=C) (fun b ob hb e=>sb.extBut b ob hb e) h0 h1 (.inr h2) h3 h4
theorem pe_comp (hc:X.calm=true)(S:CompSc X scope cl xs N')(hg:∀ C s H fp,PG (cxComp X scope cl C N' s H fp) tg g)(hi:PI X tg iter wi)(htc:∀ C s H fp,PTs (cxComp X scope cl C N' s H fp) ifs tc)(hte:∀ C s H fp,PE (cxComp X scope cl C N' s H fp) elt te)
  (hs:∀ x,foldedSetIterable iter X.env x=pure x):PE X (.ListComp elt [⟨tg,iter,ifs,0⟩] scope pos) (tComp wi g xs.length tc te):=by
 intro pins s σ H Q I h;rw[eval_ListComp];refine wpAny_comprehension_free (use:=none) rfl hs S.clos S.kind S.names (thn (hi pins s σ H _ I h) fun v s1 h1=>thn h1 fun itv s2 h2=>?_);obtain⟨it,fp,tn,J,H2,e,I2,T,st2,f2,W,⟨m0,w0⟩,hW⟩:=h2;subst e;refine comp_block (RR:=fun acc C=>compPost (model X.prog X.w) X.A X.xe none (EP X pins σ Q) acc C) hc S hg htc hte I2 T st2 f2 hW w0 ?_;intro D C s' ys H' I' nD cn c1 c2 c3 c4 ns q;obtain⟨m,hm⟩:=ns;exact⟨m,hm,fun h' sb=>⟨.ref D,_,ns_gone I' sb cn c1 c2 c3 c4,rfl,q D nD⟩⟩
theorem ps_comp {x:Str}{px:Pos}{i:Nat}{y:Str}{py spos:Pos}(hc:X.calm=true)(S:CompSc X scope cl xs N')(hg:∀ C s H fp,PG (cxComp X scope cl C N' s H fp) (.Name x px) g)(hi:PI X (.Name x px) iter wi)(htc:∀ C s H fp,PTs (cxComp X scope cl C N' s H fp) ifs tc)(hte:∀ C s H fp,PE (cxComp X scope cl C N' s H fp) elt te)
  (hs:∀ x,foldedSetIterable iter X.env x=pure x) (hN:X.N.Nodup) (hy:X.N[i]?=some y) (hx:Loc X.env.scope y) (hf:X.fn y=true\/X.env.scope.names.lookup y=some .local) :
  PS X (.Assign [.Name y py] (.ListComp elt [⟨.Name x px,iter,ifs,0⟩] scope pos) spos) (tAsg (tComp wi g xs.length tc te) (gName i)):=by
 have hsw:∃ b:Bool,swapsWith (.ListComp elt [⟨.Name x px,iter,ifs,0⟩] scope pos) (some (.Name y py)) spos.line X.env=pure b:=⟨_,rfl⟩;obtain⟨b,hsw⟩:=hsw;cases b with
 | false=>exact ps_set hN hy hx (pe_comp hc S hg hi htc hte hs) hsw hf
 | true =>
  intro pins s σ H D I h;rw[exec_Assign_Name_used _ _ _ _ hsw];refine zz (wpAny_standAt (zz ?_));show wpAny _ X.A (do let _ <- comprehension (.ListComp elt [⟨.Name x px,iter,ifs,0⟩] scope pos) scope X.env _ (newList []) false (eval iter X.env) (some (assign (.Name y py) X.env))) _ _ s;refine zz (thn (wpAny_comprehension_free (use:=some (assign (.Name y py) X.env)) (Q:=fun _ s'=>SP X pins D .next s') rfl hs S.clos S.kind S.names
   (thn (hi pins s σ H _ I h) fun v s1 h1=>thn h1 fun itv s2 h2=>?_)) fun _ s' hq=>zu (zu hq))
  obtain⟨it,fp,tn,J,H2,e,I2,T,st2,f2,W,⟨m0,w0⟩,hW⟩:=h2;subst e;refine comp_block (RR:=fun acc C=>compPost (model X.prog X.w) X.A X.xe (some (assign (.Name y py) X.env)) (fun _ s'=>SP X pins D .next s') acc C) hc S hg htc hte I2 T st2 f2 hW w0 ?_;intro Dl C s' ys H' I' nD cn c1 c2 c3 c4 ns q;obtain⟨m,hm⟩:=ns;show wpAny _ X.A (assign (.Name y py) X.env (.ref Dl)) _ _ _;refine wpAny_assign_Name (store_ok2 I' hN hy hx (v:=.ref Dl) rfl (fun s2 I2' ⟨a,sb,ha⟩=>?_) hf);have hCa:C≠a:=by
   rcases ha with z | z
   ·rw[z];exact c1
   ·exact fun e=>c3 _ _ z e.symm
  refine⟨m,hm.sameBut sb hCa,fun h' sb'=>?_⟩;exact⟨_,_,ns_gone I2' sb' cn c1 c2 c3 c4,q Dl nD⟩
end
end L2
namespace L3
open PySem PySem.Spec PyProof.Rows L2
noncomputable abbrev St:=L2.St
noncomputable def FzL (K:PySem.W.Frag)(H:Hp)(a:Addr)(xs:List V):Prop :=
 (∃ o,H a=some (.frz o (.lst xs))) \/
  ∃ (o:Obj) (its:Array Value) (n:Nat),K.lookup a=some o/\o.cls=.type "list"/\o.dict=none/\o.data=.seq its n/\its.size<=zn/\Vals xs its.toList
theorem FzL.seq {K:PySem.W.Frag}{H:Hp}{a:Addr}{xs:List V}(h:FzL K H a xs):SqL K H a xs:=by
 rcases h with ⟨o,h⟩ | h
 ·exact .inl (.inr ⟨o,h⟩)
 ·exact .inr h
mutual
inductive Rep (K:PySem.W.Frag) (ι:List Addr) (H:Hp):D->V->Prop where
 | non:Rep K ι H .non .non
 | bl (b:Bool):Rep K ι H (.bl b) (.bl b)
 | int (i:Int):Rep K ι H (.int i) (.int i)
 | str (x:Str):Rep K ι H (.str x) (.str x)
 | tup {a:Addr} {vs:List V} {ds:List D}:H a=some (.tup vs)->Reps K ι H ds vs->Rep K ι H (.tup ds) (.ref a)
 | fl {a:Addr} {vs:List V} {ds:List D}:FzL K H a vs->Reps K ι H ds vs->Rep K ι H (.fl ds) (.ref a)
 | ob {i:Nat} {a:Addr}:ι[i]?=some a->Rep K ι H (.ob i) (.ref a)
inductive Reps (K:PySem.W.Frag) (ι:List Addr) (H:Hp):List D->List V->Prop where
 | nil:Reps K ι H [] []
 | cons {d:D} {v:V} {ds:List D} {vs:List V}:Rep K ι H d v->Reps K ι H ds vs->Reps K ι H (d::ds) (v::vs)
end
structure Ext (K:PySem.W.Frag) (ι:List Addr) (H:Hp) (ι':List Addr) (H':Hp):Prop where
 pre:∀ (i:Nat) (a:Addr),ι[i]?=some a->ι'[i]?=some a
 tup:∀ a xs,H a=some (.tup xs)->H' a=some (.tup xs)
 fz:∀ a xs,FzL K H a xs->FzL K H' a xs
section
variable {K:PySem.W.Frag}{ι ι' ι'':List Addr}{H H' H'':Hp}
theorem Ext.refl:Ext K ι H ι H where
 pre:=fun _ _ e=>e
 tup:=fun _ _ e=>e
 fz:=fun _ _ e=>e
theorem Ext.trans (a:Ext K ι H ι' H')(b:Ext K ι' H' ι'' H''):Ext K ι H ι'' H'' where
 pre:=fun i c e=>b.pre i c (a.pre i c e)
 tup:=fun c xs e=>b.tup c xs (a.tup c xs e)
 fz:=fun c xs e=>b.fz c xs (a.fz c xs e)
mutual
theorem Rep.mono (x:Ext K ι H ι' H'):∀ {d:D} {v:V},Rep K ι H d v->Rep K ι' H' d v
 | _,_,.non=>.non
 | _,_,.bl b=>.bl b
 | _,_,.int i=>.int i
 | _,_,.str y=>.str y
 | _,_,.tup a r=>.tup (x.tup _ _ a) (Reps.mono x r)
 | _,_,.fl a r=>.fl (x.fz _ _ a) (Reps.mono x r)
 | _,_,.ob e=>.ob (x.pre _ _ e)
theorem Reps.mono (x:Ext K ι H ι' H'):∀ {ds:List D} {vs:List V},Reps K ι H ds vs->Reps K ι' H' ds vs
 | _,_,.nil=>.nil
 | _,_,.cons r t=>.cons (Rep.mono x r) (Reps.mono x t)
end
theorem Reps.length:∀ {ds:List D} {vs:List V},Reps K ι H ds vs->ds.length=vs.length
 | _,_,.nil=>rfl
 | _,_,.cons _ t=>by rw[zE,zE,Reps.length t]
theorem Reps.get:∀ {ds:List D} {vs:List V} {i:Nat} {d:D},Reps K ι H ds vs->ds[i]?=some d->∃ v,vs[i]?=some v/\Rep K ι H d v
 | _,_,_,_,.nil,e=>by simp at e
 | _,_,0,_,.cons r _,e=>by simp at e;subst e;exact⟨_,rfl,r⟩
 | _,_,i + 1,d,.cons _ t,e=>by
  obtain⟨v,h1,h2⟩:=Reps.get (i:=i) (d:=d) t (by simpa using e);exact⟨v,by simpa using h1,h2⟩
theorem Reps.append:∀ {ds es:List D} {vs us:List V},Reps K ι H ds vs->Reps K ι H es us->Reps K ι H (ds++es) (vs++us)
 | _,_,_,_,.nil,s=>s
 | _,_,_,_,.cons r t,s=>.cons r (Reps.append t s)
theorem Reps.take:∀ {ds:List D} {vs:List V} (n:Nat),Reps K ι H ds vs->Reps K ι H (ds.take n) (vs.take n)
 | _,_,0,_=>.nil
 | _,_,_ + 1,.nil=>.nil
 | _,_,n + 1,.cons r t=>.cons r (Reps.take n t)
theorem Reps.drop:∀ {ds:List D} {vs:List V} (n:Nat),Reps K ι H ds vs->Reps K ι H (ds.drop n) (vs.drop n)
 | _,_,0,r=>r
 | _,_,_ + 1,.nil=>.nil
 | _,_,n + 1,.cons _ t=>Reps.drop n t
theorem Reps.set {d:D}{v:V}(r:Rep K ι H d v):∀ {ds:List D} {vs:List V} (i:Nat),Reps K ι H ds vs->Reps K ι H (ds.set i d) (vs.set i v)
 | _,_,_,.nil=>.nil
 | _,_,0,.cons _ t=>.cons r t
 | _,_,i + 1,.cons q t=>.cons q (Reps.set r i t)
noncomputable def KR (K:PySem.W.Frag)(ι:List Addr)(H:Hp):List (Ky×D)->List (Key×V)->Prop:=Paired fun p q=>p.1=q.1/\Rep K ι H p.2 q.2
noncomputable def ORep (K:PySem.W.Frag)(ι:List Addr)(H:Hp):MO->Option HO->Prop
 | .lst ds,x=>∃ vs,x=some (.lst vs)/\Reps K ι H ds vs
 | .dic kvs,x=>∃ ws,x=some (.dK ws)/\KR K ι H kvs ws
theorem KR.mono (x:Ext K ι H ι' H'){a:List (Ky×D)}{b:List (Key×V)}(r:KR K ι H a b):KR K ι' H' a b:=Paired.mapP r fun _ _ z=>⟨z.1,z.2.mono x⟩
theorem ORep.mono (x:Ext K ι H ι' H'){o:MO}{h:Option HO}(r:ORep K ι H o h):ORep K ι' H' o h:=by
 cases o with
 | lst ds=>obtain⟨vs,e,q⟩:=r;exact⟨vs,e,q.mono x⟩
 | dic kvs=>obtain⟨ws,e,q⟩:=r;exact⟨ws,e,q.mono x⟩
noncomputable def MutO (u:HO):Prop:=(∀ xs,u≠.tup xs)/\∀ o v,u≠.frz o v
theorem mut_l (vs:List V):MutO (.lst vs):=⟨fun _ z=>(nomatch z),fun _ _ z=>(nomatch z)⟩
theorem mut_d (vs:List (Key×V)):MutO (.dK vs):=⟨fun _ z=>(nomatch z),fun _ _ z=>(nomatch z)⟩
theorem ORep.some {o:MO}{h:Option HO}(r:ORep K ι H o h):∃ u,h=.some u/\MutO u:=by
 cases o with
 | lst ds=>obtain⟨vs,e,q⟩:=r;exact⟨_,e,mut_l _⟩
 | dic kvs=>obtain⟨ws,e,q⟩:=r;exact⟨_,e,mut_d _⟩
structure Sim (K:PySem.W.Frag) (ι:List Addr) (M:MH) (H:Hp):Prop where
 len:ι.length=M.length
 inj:∀ (i j:Nat) (a:Addr),ι[i]?=some a->ι[j]?=some a->i=j
 obj:∀ (i:Nat) (a:Addr) (o:MO),ι[i]?=some a->M[i]?=some o->ORep K ι H o (H a)
theorem sqt {a:Addr}{xs:List V}(h:H a=some (.tup xs)):SqT K H a xs:=.inl (.inl h)
theorem Ext.new {p:Addr}{ho:HO}(hp:H p=none):Ext K ι H (ι++[p]) (upd H p ho) where
 pre:=fun i a e=>by
  have hi:i < ι.length:=(zr.mp e).1;rw[zF hi];exact e
 tup:=fun a xs h=>by rw[upd_ne (ne_of_none h hp)];exact h
 fz:=fun a xs h=>by
  rcases h with ⟨o,h⟩ | h
  ·exact .inl ⟨o,by rw[upd_ne (ne_of_none h hp)];exact h⟩
  ·exact .inr h
theorem Ext.tupN {p:Addr}{ho:HO}(hp:H p=none):Ext K ι H ι (upd H p ho) where
 pre:=fun i a e=>e
 tup:=fun a xs h=>by rw[upd_ne (ne_of_none h hp)];exact h
 fz:=fun a xs h=>by
  rcases h with ⟨o,h⟩ | h
  ·exact .inl ⟨o,by rw[upd_ne (ne_of_none h hp)];exact h⟩
  ·exact .inr h
theorem Ext.write {p:Addr}{u ho:HO}(hp:H p=some u)(hu:MutO u):Ext K ι H ι (upd H p ho) where
 pre:=fun i a e=>e
 tup:=fun a xs h=>by rw[upd_ne (ne_of h hp fun z=>hu.1 _ z.symm)];exact h
 fz:=fun a xs h=>by
  rcases h with ⟨o,h⟩ | h
  ·exact .inl ⟨o,by rw[upd_ne (ne_of h hp fun z=>hu.2 _ _ z.symm)];exact h⟩
  ·exact .inr h
variable {M M':MH}
theorem Sim.tracked (S:Sim K ι M H){i:Nat}{a:Addr}(e:ι[i]?=some a):∃ u,H a=some u/\MutO u:=by
 have hi:i < M.length:=by rw[<- S.len];exact(zr.mp e).1
 exact(S.obj i a _ e (zt hi)).some
theorem Sim.new (S:Sim K ι M H){p:Addr}{o:MO}{ho:HO}(hp:H p=none)(r:ORep K (ι++[p]) (upd H p ho) o (some ho)):Sim K (ι++[p]) (M++[o]) (upd H p ho) where
 len:=by rw[zq,zq,S.len];rfl
 inj:=fun i j a h1 h2=>by
  have np:∀ (k:Nat),ι[k]?=some p->False:=fun k e=>by
   obtain⟨u,hu,_⟩:=S.tracked e;rw[hp]at hu;cases hu
  by_cases hi:i < ι.length
  ·rw[zF hi]at h1
   by_cases hj:j < ι.length
   ·rw[zF hj]at h2
    exact S.inj i j a h1 h2
   ·rw[ze (by first | lia | omega)]at h2
    have e:a=p:=by
     have:=zQ h2
     simpa using this
    subst e;exact(np i h1).elim
  ·rw[ze (by first | lia | omega)]at h1
   have e:a=p:=by
    have:=zQ h1
    simpa using this
   subst e;by_cases hj:j < ι.length
   ·rw[zF hj]at h2
    exact(np j h2).elim
   ·have l1:=(zr.mp h1).1
    rw[ze (by first | lia | omega)]at h2
    have l2:=(zr.mp h2).1;simp at l1 l2;first | lia | omega
 obj:=fun i a q h1 h2=>by
  by_cases hi:i < ι.length
  ·rw[zF hi]at h1
   rw[zF (by rw[<- S.len];exact hi)]at h2;have z:=S.obj i a q h1 h2;obtain⟨u,hu,_⟩:=S.tracked h1;rw[upd_ne (ne_of_none hu hp)];exact z.mono (Ext.new hp)
  ·rw[ze (by first | lia | omega)]at h1
   rw[ze (by rw[<- S.len];omega)]at h2;have e:a=p:=by
    have:=zQ h1
    simpa using this
   have e':q=o:=by
    have:=zQ h2
    simpa using this
   subst e e';rw[upd_same];exact r
theorem Sim.tupN (S:Sim K ι M H){p:Addr}{ho:HO}(hp:H p=none):Sim K ι M (upd H p ho) where
 len:=S.len
 inj:=S.inj
 obj:=fun i a o h1 h2=>by
  obtain⟨u,hu,_⟩:=S.tracked h1;rw[upd_ne (ne_of_none hu hp)];exact(S.obj i a o h1 h2).mono (Ext.tupN hp)
theorem Sim.put (S:Sim K ι M H){i:Nat}{a:Addr}{o:MO}{ho:HO}(e:ι[i]?=some a)(r:ORep K ι (upd H a ho) o (some ho)):Sim K ι (M.set i o) (upd H a ho):=by
 obtain⟨u,hu,mu⟩:=S.tracked e;refine⟨by rw[yD];exact S.len,S.inj,fun j b q h1 h2=>?_⟩;by_cases hij:j=i
 ·subst hij
  rw[e]at h1;cases h1;have hj:j < M.length:=by rw[<- S.len];exact(zr.mp e).1
  rw[yh hj]at h2;cases h2;rw[upd_same];exact r
 ·rw[yv (Ne.symm hij)]at h2
  have hb:b≠a:=fun z=>by subst z;exact hij (S.inj j i b h1 e)
  rw[upd_ne hb];exact(S.obj j b q h1 h2).mono (Ext.write hu mu)
structure EnvR (K:PySem.W.Frag) (ι:List Addr) (H:Hp) (ρ:Ev) (σ:St):Prop where
 len:ρ.length=σ.length
 val:∀ (i:Nat) (d:D),ρ[i]?=some (some d)->∃ v,σ[i]?=some (some v)/\Rep K ι H d v
theorem EnvR.mono (x:Ext K ι H ι' H'){ρ:Ev}{σ:St}(r:EnvR K ι H ρ σ):EnvR K ι' H' ρ σ:=⟨r.len,fun i d e=>let ⟨v,h1,h2⟩:=r.val i d e;⟨v,h1,h2.mono x⟩⟩
theorem EnvR.set {ρ:Ev}{σ:St}{d:D}{v:V}(r:EnvR K ι H ρ σ)(q:Rep K ι H d v)(i:Nat):EnvR K ι H (ρ.set i (some d)) (σ.set i (some v)) where
 len:=by rw[yD,yD];exact r.len
 val:=fun j c e=>by
  by_cases hij:j=i
  ·subst hij
   by_cases hj:j < ρ.length
   ·rw[yh hj]at e
    cases e;exact⟨v,by rw[yh (by rw[<- r.len];exact hj)],q⟩
   ·rw[xJ (by rw[yD];omega)]at e;cases e
  ·rw[yv (Ne.symm hij)]at e
   obtain⟨u,h1,h2⟩:=r.val j c e;exact⟨u,by rw[yv (Ne.symm hij)];exact h1,h2⟩
theorem EnvR.comp {ρ:Ev}{σ:St}{d:D}{v:V}(r:EnvR K ι H ρ σ)(q:Rep K ι H d v)(j:Nat):EnvR K ι H (some d::ρ.set j none) (some v::σ) where
 len:=by rw[zE,zE,yD,r.len]
 val:=fun i c e=>by
  cases i with
  | zero=>simp at e;subst e;exact⟨v,rfl,q⟩
  | succ i =>
   rw[yr]at e;by_cases hij:i=j
   ·subst hij
    by_cases hj:i < ρ.length
    ·rw[yh hj]at e;cases e
    ·rw[xJ (by rw[yD];omega)]at e;cases e
   ·rw[yv (Ne.symm hij)]at e
    obtain⟨u,h1,h2⟩:=r.val i c e;exact⟨u,by rw[yr];exact h1,h2⟩
end
noncomputable abbrev DE:=Ev->Mo D
noncomputable def LE (K:PySem.W.Frag)(f:DE):TE:=fun σ H Q=>∃ ι ρ M d M',Sim K ι M H/\EnvR K ι H ρ σ/\f ρ M=some (.ok d,M') /\
 ∀ v H' ι',Rep K ι' H' d v->Sim K ι' M' H'->Ext K ι H ι' H'->Q v H'
noncomputable def LT (K:PySem.W.Frag)(f:Ev->Mo Bool):TT:=fun σ H Q=>∃ ι ρ M b M',Sim K ι M H/\EnvR K ι H ρ σ/\f ρ M=some (.ok b,M') /\
 ∀ H' ι',Sim K ι' M' H'->Ext K ι H ι' H'->Q b H'
noncomputable def LA (K:PySem.W.Frag)(f:Ev->Mo (List D)):TA:=fun σ H Q=>∃ ι ρ M ds M',Sim K ι M H/\EnvR K ι H ρ σ/\f ρ M=some (.ok ds,M') /\
 ∀ vs H' ι',Reps K ι' H' ds vs->Sim K ι' M' H'->Ext K ι H ι' H'->Q vs H'
noncomputable def LO (K:PySem.W.Frag)(f:Ev->Mo (Option Int)):TO:=fun σ H Q=>∃ ι ρ M o M',Sim K ι M H/\EnvR K ι H ρ σ/\f ρ M=some (.ok o,M') /\
 ∀ H' ι',Sim K ι' M' H'->Ext K ι H ι' H'->Q o H'
noncomputable def FlP (K:PySem.W.Frag)(D:Ends)(ι:List Addr)(H:Hp):Fl->Prop
 | .nx ρ=>∀ σ,EnvR K ι H ρ σ->D.nx σ H
 | .rt d=>∀ v,Rep K ι H d v->D.rt v H
 | .bk ρ=>∀ σ,EnvR K ι H ρ σ->D.bk σ H
 | .ct ρ=>∀ σ,EnvR K ι H ρ σ->D.ct σ H
noncomputable def LS (K:PySem.W.Frag)(f:Ev->Mo Fl):TS:=fun D σ H=>∃ ι ρ M fl M',Sim K ι M H/\EnvR K ι H ρ σ/\f ρ M=some (.ok fl,M') /\
 ∀ H' ι',Sim K ι' M' H'->Ext K ι H ι' H'->FlP K D ι' H' fl
theorem PE.imp {X:Cx}{e:Expr}{t t':TE}(h:PE X e t)(k:∀ σ H Q,t' σ H Q->t σ H Q):PE X e t':=fun pins s σ H Q I q=>h pins s σ H Q I (k σ H Q q)
theorem PT.imp {X:Cx}{e:Expr}{t t':TT}(h:PT X e t)(k:∀ σ H Q,t' σ H Q->t σ H Q):PT X e t':=fun pins s σ H Q I q=>h pins s σ H Q I (k σ H Q q)
theorem PTs.imp {X:Cx}{e:List Expr}{t t':TT}(h:PTs X e t)(k:∀ σ H Q,t' σ H Q->t σ H Q):PTs X e t':=fun pins s σ H Q I q=>h pins s σ H Q I (k σ H Q q)
theorem PA.imp {X:Cx}{e:List Expr}{t t':TA}(h:PA X e t)(k:∀ σ H Q,t' σ H Q->t σ H Q):PA X e t':=fun pos pins s σ H Q I q=>h pos pins s σ H Q I (k σ H Q q)
theorem PO.imp {X:Cx}{e:Option Expr}{t t':TO}(h:PO X e t)(k:∀ σ H Q,t' σ H Q->t σ H Q):PO X e t':=fun pins s σ H Q I q=>h pins s σ H Q I (k σ H Q q)
theorem PS.imp {X:Cx}{e:Stmt}{t t':TS}(h:PS X e t)(k:∀ D σ H,t' D σ H->t D σ H):PS X e t':=fun pins s σ H D I q=>h pins s σ H D I (k D σ H q)
theorem PSs.imp {X:Cx}{e:List Stmt}{t t':TS}(h:PSs X e t)(k:∀ D σ H,t' D σ H->t D σ H):PSs X e t':=fun pins s σ H D I q=>h pins s σ H D I (k D σ H q)
noncomputable def OpS (K:PySem.W.Frag)(r:R2)(g:D->D->Mo D):Prop:=∀ (ι:List Addr) (M M':MH) (H:Hp) (x y d:D) (vx vy:V) (Q:VK),Sim K ι M H->Rep K ι H x vx->Rep K ι H y vy->g x y M=some (.ok d,M') ->
 (∀ v H' ι',Rep K ι' H' d v->Sim K ι' M' H'->Ext K ι H ι' H'->Q v H')->r vx vy H Q
section
variable {K:PySem.W.Frag}
theorem LE.bin {fa fb:DE}{g:D->D->Mo D}{r:R2}(ho:OpS K r g)(σ:St)(H:Hp)(Q:VK)(h:LE K (fun ρ=>do let x <- fa ρ;let y <- fb ρ;g x y) σ H Q):tOp r (LE K fa) (LE K fb) σ H Q:=by
 obtain⟨ι,ρ,M,d,M',S,R,e,k⟩:=h;obtain⟨x,M1,e1,e⟩:=bind_ok e;obtain⟨y,M2,e2,e⟩:=bind_ok e;refine⟨ι,ρ,M,x,M1,S,R,e1,fun v1 H1 ι1 r1 S1 X1=>?_⟩;refine⟨ι1,ρ,M1,y,M2,S1,R.mono X1,e2,fun v2 H2 ι2 r2 S2 X2=>?_⟩;exact ho ι2 M2 M' H2 x y d v1 v2 Q S2 (r1.mono X2) r2 e fun v H' ι' r' S' X'=>k v H' ι' r' S' ((X1.trans X2).trans X')
end
theorem need_ok {p:Prop}[Decidable p]{M M':MH}{u:Unit}(h:need p M=some (.ok u,M')):p/\M'=M:=by
 unfold need at h;split at h
 ·rename_i hp
  cases h;exact⟨hp,rfl⟩
 ·cases h
theorem lift_ok {α:Type}{o:Option α}{a:α}{M M':MH}(h:lift o M=some (.ok a,M')):o=some a/\M'=M:=by
 cases o with
 | none=>cases h
 | some b=>cases h;exact⟨rfl,rfl⟩
theorem pure_ok {α:Type}{a b:α}{M M':MH}(h:(pure a:Mo α) M=some (.ok b,M')):b=a/\M'=M:=by
 cases h;exact⟨rfl,rfl⟩
theorem getM_ok {i:Nat}{o:MO}{M M':MH}(h:getM i M=some (.ok o,M')):M[i]?=some o/\M'=M:=by
 unfold getM at h;split at h
 ·rename_i e;cases h;exact⟨e,rfl⟩
 ·cases h
theorem getL_ok {i:Nat}{ds:List D}{M M':MH}(h:getL i M=some (.ok ds,M')):M[i]?=some (.lst ds)/\M'=M:=by
 unfold getL at h;split at h
 ·rename_i e;cases h;exact⟨e,rfl⟩
 ·cases h
theorem getD_ok {i:Nat}{ds:List (Ky×D)}{M M':MH}(h:getD i M=some (.ok ds,M')):M[i]?=some (.dic ds)/\M'=M:=by
 unfold getD at h;split at h
 ·rename_i e;cases h;exact⟨e,rfl⟩
 ·cases h
theorem newM_ok {o:MO}{d:D}{M M':MH}(h:newM o M=some (.ok d,M')):d=.ob M.length/\M'=M++[o]:=by
 cases h;exact⟨rfl,rfl⟩
theorem putM_ok {i:Nat}{o:MO}{u:Unit}{M M':MH}(h:putM i o M=some (.ok u,M')):i < M.length/\M'=M.set i o:=by
 unfold putM at h;split at h
 ·rename_i e;cases h;exact⟨e,rfl⟩
 ·cases h
theorem stop_ok {α:Type}{a:α}{M':MH}(h:(none:Option (Out α×MH))=some (.ok a,M')):False:=by cases h
end L3
namespace L3
open PySem PySem.Spec PyProof.Rows L2
section
variable {K:PySem.W.Frag}{ι:List Addr}{M:MH}{H:Hp}
end
end L3
namespace L3
open PySem PySem.Spec PyProof.Rows L2
noncomputable def R2S (K:PySem.W.Frag)(g:D->D->Mo D):R2:=fun x y H Q=>∃ ι M M' dx dy d,Sim K ι M H/\Rep K ι H dx x/\Rep K ι H dy y/\g dx dy M=some (.ok d,M') /\
 ∀ v H' ι',Rep K ι' H' d v->Sim K ι' M' H'->Ext K ι H ι' H'->Q v H'
theorem opS_R2S {K:PySem.W.Frag}{g:D->D->Mo D}:OpS K (R2S K g) g:=fun ι M M' _ x y d _ _ _ S r1 r2 e k=>⟨ι,M,M',x,y,d,S,r1,r2,e,k⟩
section
variable {K:PySem.W.Frag}{ι:List Addr}{H:Hp}{M M':MH}
theorem new_list {Q:VK}{ds:List D}{vs:List V}{d:D}(S:Sim K ι M H)(r:Reps K ι H ds vs)(e:newM (.lst ds) M=some (.ok d,M'))(k:∀ v H' ι',Rep K ι' H' d v->Sim K ι' M' H'->Ext K ι H ι' H'->Q v H') :
  ∀ p,H p=none->Q (.ref p) (upd H p (.lst vs)):=fun p hp=>by
 have e0:=newM_ok e;clear e;obtain⟨rfl,rfl⟩:=e0;have x:Ext K ι H (ι++[p]) (upd H p (.lst vs)):=Ext.new hp;exact k _ _ (ι++[p]) (.ob (by rw[<- S.len,ze (zp _),yT];rfl)) (S.new hp ⟨vs,rfl,r.mono x⟩) x
theorem new_tup {Q:VK}{ds:List D}{vs:List V}(S:Sim K ι M H)(r:Reps K ι H ds vs)(k:∀ v H' ι',Rep K ι' H' (.tup ds) v->Sim K ι' M H'->Ext K ι H ι' H'->Q v H') :
  ∀ p,H p=none->Q (.ref p) (upd H p (.tup vs)):=fun p hp=>by
 have x:Ext K ι H ι (upd H p (.tup vs)):=Ext.tupN hp;exact k _ _ ι (.tup upd_same (r.mono x)) (S.tupN hp) x
theorem sim_list (S:Sim K ι M H){i:Nat}{ds:List D}{v:V}(r:Rep K ι H (.ob i) v)(e:M[i]?=some (.lst ds)):∃ a vs,v=.ref a/\ι[i]?=some a/\H a=some (.lst vs)/\Reps K ι H ds vs:=by
 cases r with
 | ob h =>
  rename_i a;obtain⟨vs,e1,q⟩:=S.obj i a _ h e;exact⟨a,vs,rfl,h,e1,q⟩
theorem sim_dict (S:Sim K ι M H){i:Nat}{kvs:List (Ky×D)}{v:V}(r:Rep K ι H (.ob i) v)(e:M[i]?=some (.dic kvs)):∃ a ws,v=.ref a/\ι[i]?=some a/\H a=some (.dK ws)/\KR K ι H kvs ws:=by
 cases r with
 | ob h =>
  rename_i a;obtain⟨vs,e1,q⟩:=S.obj i a _ h e;exact⟨a,vs,rfl,h,e1,q⟩
theorem flat_rep {d:D}{v:V}(r:Rep K ι H d v)(h:flatD d=true):flatV v=true:=by
 cases r <;> simp[flatD,flatV]at h ⊢
theorem eq_rep {d e:D}{v u:V}(r:Rep K ι H d v)(q:Rep K ι H e u)(h:flatD d=true)(h':flatD e=true):eqV v u=eqF d e:=by
 cases r <;> cases q <;> simp[flatD,eqV,eqF]at h h' ⊢
theorem KR.find {kvs:List (Ky×D)}{ws:List (Key×V)}(r:KR K ι H kvs ws)(k:Ky):(kvGet kvs k=none/\valV ws k=none)\/∃ d v,kvGet kvs k=some d/\valV ws k=some v/\Rep K ι H d v:=by
 induction r with
 | nil=>exact .inl ⟨rfl,rfl⟩
 | cons h t ih =>
  rename_i a b l1 l2;by_cases e:a.1=k
  ·refine .inr ⟨a.2,b.2,?_,valV_pos (h.1 ▸ e),h.2⟩
   simp[kvGet,yL,e]
  ·have e2:¬ b.1=k:=fun z=>e (h.1.trans z)
   have e3:kvGet (a::l1) k=kvGet l1 k:=by simp[kvGet,yL,e]
   rw[valV_neg e2,e3];exact ih
theorem KR.anyk {kvs:List (Ky×D)}{ws:List (Key×V)}(r:KR K ι H kvs ws)(k:Ky):(kvs.any fun kv=>decide (kv.1=k))=ws.any fun kv=>decide (kv.1=k):=by
 induction r with
 | nil=>rfl
 | cons h t ih=>rw[xq,xq,ih,h.1]
theorem KR.len {kvs:List (Ky×D)}{ws:List (Key×V)}(r:KR K ι H kvs ws):kvs.length=ws.length:=Paired.length r
theorem KR.repl {kvs:List (Ky×D)}{ws:List (Key×V)}(r:KR K ι H kvs ws)(k:Ky){d:D}{v:V}(q:Rep K ι H d v) :
  KR K ι H (kvs.map fun kv=>if kv.1=k then (kv.1,d) else kv) (ws.map fun kv=>if kv.1=k then (kv.1,v) else kv):=by
 induction r with
 | nil=>exact .nil
 | cons h t ih =>
  rename_i a b l1 l2;rw[zH,zH];refine .cons ?_ ih;by_cases e:a.1=k
  ·rw[if_pos e,if_pos (h.1 ▸ e)];exact⟨h.1,q⟩
  ·rw[if_neg e,if_neg (fun z=>e (h.1.trans z))];exact h
theorem KR.put {kvs:List (Ky×D)}{ws:List (Key×V)}(r:KR K ι H kvs ws)(k:Ky){d:D}{v:V}(q:Rep K ι H d v):KR K ι H (kvPut kvs k d) (putK ws k v):=by
 unfold kvPut putK;rw[r.anyk k];split
 ·exact r.repl k q
 ·exact Paired.snoc r ⟨rfl,q⟩
theorem key_rep {d:D}{v:V}{k:Ky}(r:Rep K ι H d v)(h:kyD d=some k):v=kV k:=by
 cases r <;> simp[kyD]at h <;> subst h <;> rfl
theorem seq_of {d:D}{v:V}{ds:List D}(S:Sim K ι M H)(r:Rep K ι H d v)(h:itemsD d M=some (.ok ds,M')):M'=M/\∃ a vs,v=.ref a/\(SqL K H a vs\/SqT K H a vs)/\Reps K ι H ds vs:=by
 cases r with
 | tup t q=>have h0:=pure_ok h;clear h;obtain⟨rfl,rfl⟩:=h0;exact⟨rfl,_,_,rfl,.inr (sqt t),q⟩
 | fl t q=>have h0:=pure_ok h;clear h;obtain⟨rfl,rfl⟩:=h0;exact⟨rfl,_,_,rfl,.inl t.seq,q⟩
 | ob t =>
  have h0:=getL_ok h;clear h;obtain⟨e,rfl⟩:=h0;obtain⟨a,vs,h1,_,h3,h4⟩:=sim_list S (.ob t) e;exact⟨rfl,a,vs,h1,.inl (SqL.of h3),h4⟩
 | _=>exact(stop_ok h).elim
theorem reps_at {ds:List D}{vs:List V}{i:Int}{d:D}(r:Reps K ι H ds vs)(h:atD ds i=some d):∃ v,atI vs i=some v/\Rep K ι H d v:=by
 unfold atD at h;unfold atI;have e:ixN vs.length i=ixD ds.length i:=by rw[r.length];rfl
 rw[e];cases q:ixD ds.length i with
 | none=>rw[q]at h;cases h
 | some j =>
  rw[q]at h;exact r.get h
end
section
variable {X:Cx}{pins:List (Addr×Obj)}{σ:St}{H:Hp}{s:Shared}{ι:List Addr}{M:MH}
theorem eqL_some {f:D->D->Option Bool}:∀ {xs ys:List D} {b:Bool},eqL f xs ys=some b->(∀ (j:Nat) (x y:D),xs[j]?=some x->ys[j]?=some y->∃ c,f x y=some c) /\
  b=((List.range (min xs.length ys.length)).all (fun j=>(f (xs.getD j .non) (ys.getD j .non)).getD false)&&xs.length==ys.length)
 | [],[],b,h=>by
  simp only[eqL,Option.some.injEq]at h;subst h;exact⟨fun j x y h=>by simp at h,rfl⟩
 | [],_::_,b,h=>by
  simp only[eqL,Option.some.injEq]at h;subst h;exact⟨fun j x y h=>by simp at h,by simp⟩
 | _::_,[],b,h=>by
  simp only[eqL,Option.some.injEq]at h;subst h;exact⟨fun j x y _ h=>by simp at h,by simp⟩
 | x::xs,y::ys,b,h=>by
  unfold eqL at h;cases e1:f x y with
  | none=>rw[e1]at h;cases h
  | some c =>
   rw[e1]at h;cases e2:eqL f xs ys with
   | none=>rw[e2]at h;cases h
   | some c2 =>
    rw[e2]at h;cases h;obtain⟨i1,i2⟩:=eqL_some e2;refine⟨fun j x' y' h1 h2=>?_,?_⟩
    ·cases j with
     | zero=>simp at h1 h2;subst h1 h2;exact⟨c,e1⟩
     | succ j=>exact i1 j x' y' (by simpa using h1) (by simpa using h2)
    ·rw[i2,zE,zE,Nat.add_min_add_right,wG,yq,vj]
     simp only[List.getD_cons_zero,e1,wa];have e3:(xs.length + 1==ys.length + 1)=(xs.length==ys.length):=by
      rw[xc];simp
     rw[e3,Bool.and_assoc];rfl
theorem same_true (I:Inv X pins σ H s)(S:Sim X.K ι M H):∀ (n:Nat) {d d':D} {v:V} {b:Bool},Rep X.K ι H d v->Rep X.K ι H d' v->eqO M n d d'=some b->b=true
 | 0,_,_,_,_,_,_,h=>by cases h
 | n + 1,d,d',v,b,r,r',h=>by
  have lst:∀ {ds ds':List D} {vs:List V} {b:Bool},Reps X.K ι H ds vs->Reps X.K ι H ds' vs->eqL (eqO M n) ds ds'=some b->b=true:=by
   intro ds;induction ds with
   | nil =>
    intro ds' vs b h1 h2 h3;cases h1;cases h2;cases h3;rfl
   | cons x xs ih =>
    intro ds' vs b h1 h2 h3;cases h1 with
    | cons r1 t1 =>
     cases h2 with
     | cons r2 t2 =>
      rename_i y ys;unfold eqL at h3;cases e1:eqO M n x y with
      | none=>rw[e1]at h3;cases h3
      | some c =>
       rw[e1]at h3;cases e2:eqL (eqO M n) xs ys with
       | none=>rw[e2]at h3;cases h3
       | some c2 =>
        rw[e2]at h3;cases h3;rw[same_true I S n r1 r2 e1,ih t1 t2 e2];rfl
  cases r with
  | non=>cases r' with | non=>cases h;rfl
  | bl a=>cases r' with | bl=>cases h;simp[eqF]
  | int a=>cases r' with | int=>cases h;simp[eqF]
  | str a=>cases r' with | str=>cases h;simp[eqF]
  | tup t q =>
   cases r' with
   | tup t' q' =>
    have:=I.tuple_inj (sqt t) (sqt t')
    subst this;exact lst q q' h
   | fl t' q'=>cases h
   | ob t'=>cases h
  | fl t q =>
   cases r' with
   | tup t' q'=>cases h
   | fl t' q'=>cases h
   | ob t'=>cases h
  | ob t =>
   rename_i i a;cases r' with
   | tup t' q'=>cases h
   | fl t' q'=>cases h
   | ob t' =>
    rename_i j
    have:=S.inj i j a t t'
    subst this;unfold eqO at h;dsimp only at h;split at h
    ·rename_i xs ys h1 h2
     rw[h1]at h2;cases h2;rw[if_pos rfl]at h;obtain⟨vs,_,q⟩:=S.obj i a _ t h1;exact lst q q h
    ·cases h
theorem items_at {A:Around}{n:Nat}(ih:∀ {dx dy:D} {vx vy:V} {u v:Value} {b:Bool},Rep X.K ι H dx vx->Rep X.K ι H dy vy->RelV vx u->RelV vy v->eqO M n dx dy=some b->SeqAt.EqAt A s u v b)
  {xs ys:List D} {vs ws:List V} {its its2:List Value} {b:Bool} (r1:Reps X.K ι H xs vs) (r2:Reps X.K ι H ys ws) (q1:Vals vs its) (q2:Vals ws its2) (h:eqL (eqO M n) xs ys=some b) :
  ∃ e:Nat->Bool,(∀ j (h1:j < its.toArray.size) (h2:j < its2.toArray.size),SeqAt.EqAt A s its.toArray[j] its2.toArray[j] (e j))/\b=((List.range (min its.toArray.size its2.toArray.size)).all e&&its.toArray.size==its2.toArray.size):=by
 obtain⟨h1,h2⟩:=eqL_some h;have l1:xs.length=its.toArray.size:=by rw[r1.length,q1.length];simp
 have l2:ys.length=its2.toArray.size:=by rw[r2.length,q2.length];simp
 refine⟨fun j=>(eqO M n (xs.getD j .non) (ys.getD j .non)).getD false,fun j g1 g2=>?_,by rw[<- l1,<- l2];exact h2⟩;have j1:j < xs.length:=by rw[l1];exact g1
 have j2:j < ys.length:=by rw[l2];exact g2
 obtain⟨c,hc⟩:=h1 j _ _ (zt j1) (zt j2);obtain⟨v1,e1,p1⟩:=r1.get (zt j1);obtain⟨v2,e2,p2⟩:=r2.get (zt j2);obtain⟨u1,f1,g1'⟩:=q1.get e1;obtain⟨u2,f2,g2'⟩:=q2.get e2;have k1:its.toArray[j]=u1:=by
  have:=(zr.mp f1).2
  simpa using this
 have k2:its2.toArray[j]=u2:=by
  have:=(zr.mp f2).2
  simpa using this
 rw[k1,k2];have k3:(eqO M n (xs.getD j .non) (ys.getD j .non)).getD false=c:=by
  rw[zC,zC,zt j1,zt j2];simp only[wa];rw[hc];rfl
 show SeqAt.EqAt A s u1 u2 ((eqO M n (xs.getD j .non) (ys.getD j .non)).getD false);rw[k3];exact ih p1 p2 g1' g2' hc
theorem len_ne {its its2:List Value}(h:its.length≠its2.length):(its.toArray.size != its2.toArray.size)=true:=by simpa using h
theorem rc_tup (I:Inv X pins σ H s){A:Around}(hu:A.units < cLine){n:Nat}(ih:∀ {dx dy:D} {vx vy:V} {u v:Value} {b:Bool},Rep X.K ι H dx vx->Rep X.K ι H dy vy->RelV vx u->RelV vy v->eqO M n dx dy=some b->SeqAt.EqAt A.in1 s u v b)
  {xs ys:List D} {vs ws:List V} {a c:Addr} {b:Bool} (t1:SqT X.K H a vs) (t2:SqT X.K H c ws) (r1:Reps X.K ι H xs vs) (r2:Reps X.K ι H ys ws) (h:eqL (eqO M n) xs ys=some b):SeqAt.RcAt A s (.ref a) (.ref c) b/\SeqAt.RcNeAt A s (.ref a) (.ref c) (!b):=by
 obtain⟨its,q1,p1,_⟩:=I.tuple t1;obtain⟨its2,q2,p2,_⟩:=I.tuple t2;obtain⟨e,he,rfl⟩:=items_at ih r1 r2 q1 q2 h;exact⟨SeqAt.RcAt.tuples p1 p2 hu he,SeqAt.RcNeAt.tuples p1 p2 hu he⟩
theorem rc_lst (I:Inv X pins σ H s){A:Around}(hu:A.units < cLine){n:Nat}(ih:∀ {dx dy:D} {vx vy:V} {u v:Value} {b:Bool},Rep X.K ι H dx vx->Rep X.K ι H dy vy->RelV vx u->RelV vy v->eqO M n dx dy=some b->SeqAt.EqAt A.in1 s u v b)
  {xs ys:List D} {vs ws:List V} {a c:Addr} {b:Bool} (t1:SqL X.K H a vs) (t2:SqL X.K H c ws) (r1:Reps X.K ι H xs vs) (r2:Reps X.K ι H ys ws) (h:(if xs.length=ys.length then eqL (eqO M n) xs ys else some false)=some b):SeqAt.RcAt A s (.ref a) (.ref c) b/\SeqAt.RcNeAt A s (.ref a) (.ref c) (!b):=by
 obtain⟨its,q1,p1,_⟩:=I.list t1;obtain⟨its2,q2,p2,_⟩:=I.list t2;have l1:xs.length=its.length:=by rw[r1.length,q1.length]
 have l2:ys.length=its2.length:=by rw[r2.length,q2.length]
 split at h
 ·rename_i hl
  obtain⟨e,he,rfl⟩:=items_at ih r1 r2 q1 q2 h;have hs:its.toArray.size=its2.toArray.size:=by simp;omega
  have e1:((List.range (min its.toArray.size its2.toArray.size)).all e&&its.toArray.size==its2.toArray.size)=(List.range its.toArray.size).all e:=by
   rw[hs,Nat.min_self];simp
  rw[e1];exact⟨SeqAt.RcAt.lists p1.isList p2.isList hs hu he,SeqAt.RcNeAt.lists p1.isList p2.isList hs hu he⟩
 ·rename_i hl
  cases h;exact⟨SeqAt.RcAt.lists_lengths p1.isList p2.isList (len_ne (by first | lia | omega)) hu,SeqAt.RcNeAt.lists_lengths p1.isList p2.isList (len_ne (by first | lia | omega)) hu⟩
theorem rc_flat {A:Around}{dx dy:D}{vx vy:V}{u v:Value}(r1:Rep X.K ι H dx vx)(r2:Rep X.K ι H dy vy)(g1:RelV vx u)(g2:RelV vy v)(f1:flatD dx=true)(f2:flatD dy=true):SeqAt.RcAt A s u v (eqF dx dy)/\SeqAt.RcNeAt A s u v (!eqF dx dy):=by
 cases r1 with
 | non =>
  cases g1;cases r2 with
  | non=>cases g2;exact⟨SeqAt.RcAt.none_none,SeqAt.RcNeAt.none_none⟩
  | bl b=>cases g2;exact⟨SeqAt.RcAt.none_bool b,SeqAt.RcNeAt.none_bool b⟩
  | int b=>obtain⟨t,rfl⟩:=g2;exact⟨SeqAt.RcAt.none_int b t,SeqAt.RcNeAt.none_int b t⟩
  | str b=>obtain⟨t,rfl⟩:=g2;exact⟨SeqAt.RcAt.none_str b t,SeqAt.RcNeAt.none_str b t⟩
  | _=>exact absurd f2 zo
 | bl a =>
  cases g1;cases r2 with
  | non=>cases g2;exact⟨SeqAt.RcAt.bool_none a,SeqAt.RcNeAt.bool_none a⟩
  | bl b=>cases g2;exact⟨SeqAt.RcAt.bool_bool a b,SeqAt.RcNeAt.bool_bool a b⟩
  | int b=>obtain⟨t,rfl⟩:=g2;exact⟨SeqAt.RcAt.bool_int a b t,SeqAt.RcNeAt.bool_int a b t⟩
  | str b=>obtain⟨t,rfl⟩:=g2;exact⟨SeqAt.RcAt.bool_str a b t,SeqAt.RcNeAt.bool_str a b t⟩
  | _=>exact absurd f2 zo
 | int a =>
  obtain⟨t',rfl⟩:=g1;cases r2 with
  | non=>cases g2;exact⟨SeqAt.RcAt.int_none a t',SeqAt.RcNeAt.int_none a t'⟩
  | bl b=>cases g2;exact⟨SeqAt.RcAt.int_bool a t' b,SeqAt.RcNeAt.int_bool a t' b⟩
  | int b=>obtain⟨t,rfl⟩:=g2;exact⟨SeqAt.RcAt.int_int a t' b t,SeqAt.RcNeAt.int_int a t' b t⟩
  | str b=>obtain⟨t,rfl⟩:=g2;exact⟨SeqAt.RcAt.int_str a t' b t,SeqAt.RcNeAt.int_str a t' b t⟩
  | _=>exact absurd f2 zo
 | str a =>
  obtain⟨t',rfl⟩:=g1;cases r2 with
  | non=>cases g2;exact⟨SeqAt.RcAt.str_none a t',SeqAt.RcNeAt.str_none a t'⟩
  | bl b=>cases g2;exact⟨SeqAt.RcAt.str_bool a t' b,SeqAt.RcNeAt.str_bool a t' b⟩
  | int b=>obtain⟨t,rfl⟩:=g2;exact⟨SeqAt.RcAt.str_int a t' b t,SeqAt.RcNeAt.str_int a t' b t⟩
  | str b=>obtain⟨t,rfl⟩:=g2;exact⟨SeqAt.RcAt.str_str a t' b t,SeqAt.RcNeAt.str_str a t' b t⟩
  | _=>exact absurd f2 zo
 | _=>exact absurd f1 zo
theorem at_tup_flat (I:Inv X pins σ H s){A:Around}(hu:A.units < cLine){dy:D}{vs:List V}{a:Addr}{vy:V}{v:Value}(t1:SqT X.K H a vs)(r2:Rep X.K ι H dy vy)(g2:RelV vy v)(f2:flatD dy=true) :
  (SeqAt.RcAt A s (.ref a) v false/\SeqAt.RcNeAt A s (.ref a) v true/\SeqAt.EqAt A s (.ref a) v false)/\(SeqAt.RcAt A s v (.ref a) false/\SeqAt.RcNeAt A s v (.ref a) true/\SeqAt.EqAt A s v (.ref a) false):=by
 obtain⟨its,q1,p1,_⟩:=I.tuple t1;cases r2 with
 | non=>cases g2;exact⟨⟨.tuple_none p1 hu,.tuple_none p1 hu,.tuple_none p1 hu⟩,⟨.none_tuple p1 hu,.none_tuple p1 hu,.none_tuple p1 hu⟩⟩
 | bl b=>cases g2;exact⟨⟨.tuple_bool b p1 hu,.tuple_bool b p1 hu,.tuple_bool b p1 hu⟩,⟨.bool_tuple b p1 hu,.bool_tuple b p1 hu,.bool_tuple b p1 hu⟩⟩
 | int b=>obtain⟨t,rfl⟩:=g2;exact⟨⟨.tuple_int b t p1 hu,.tuple_int b t p1 hu,.tuple_int b t p1 hu⟩,⟨.int_tuple b t p1 hu,.int_tuple b t p1 hu,.int_tuple b t p1 hu⟩⟩
 | str b=>obtain⟨t,rfl⟩:=g2;exact⟨⟨.tuple_str b t p1 hu,.tuple_str b t p1 hu,.tuple_str b t p1 hu⟩,⟨.str_tuple b t p1 hu,.str_tuple b t p1 hu,.str_tuple b t p1 hu⟩⟩
 | _=>exact absurd f2 zo
theorem eq_all (I:Inv X pins σ H s)(S:Sim X.K ι M H):∀ (n:Nat) {A:Around} {dx dy:D} {vx vy:V} {u v:Value} {b:Bool},A.units + n < cLine->Rep X.K ι H dx vx->Rep X.K ι H dy vy->RelV vx u->RelV vy v->eqO M n dx dy=some b ->
  SeqAt.RcAt A s u v b/\SeqAt.RcNeAt A s u v (!b)/\SeqAt.EqAt A s u v b
 | 0,_,_,_,_,_,_,_,_,_,_,_,_,_,h=>by cases h
 | n + 1,A,dx,dy,vx,vy,u,v,b,hA,r1,r2,g1,g2,h=>by
  have hu:A.units < cLine:=by first | lia | omega
  have ih:∀ {dx dy:D} {vx vy:V} {u v:Value} {b:Bool},Rep X.K ι H dx vx->Rep X.K ι H dy vy->RelV vx u->RelV vy v->eqO M n dx dy=some b->SeqAt.EqAt A.in1 s u v b :=
   fun r1 r2 g1 g2 h=>(eq_all I S n (A:=A.in1) (by show A.units + 1 + n < cLine;omega) r1 r2 g1 g2 h).2.2
  have refs:∀ {a c:Addr},vx=.ref a->vy=.ref c->SeqAt.RcAt A s (.ref a) (.ref c) b->SeqAt.EqAt A s (.ref a) (.ref c) b:=fun {a c} e1 e2 hr=>by
   by_cases hac:a=c
   ·subst hac
    subst e1;subst e2;rw[same_true I S (n + 1) r1 r2 h];exact SeqAt.EqAt.same _
   ·exact SeqAt.EqAt.of_refs hac hr
  by_cases hf:flatD dx=true/\flatD dy=true
  ·have hb:eqO M (n + 1) dx dy=some (eqF dx dy):=by
    cases dx <;> cases dy <;> first | exact absurd hf.1 zo | exact absurd hf.2 zo | rfl
   rw[hb]at h;cases h;obtain⟨q1,q2⟩:=rc_flat (X:=X) (H:=H) (s:=s) (ι:=ι) (A:=A) r1 r2 g1 g2 hf.1 hf.2;refine⟨q1,q2,?_⟩;rw[<- eq_rep r1 r2 hf.1 hf.2];exact eqAt_V g1 g2 (flat_rep r1 hf.1) (flat_rep r2 hf.2)
  ·cases r1 with
   | tup t q =>
    cases g1;cases r2 with
    | tup t' q' =>
     cases g2;obtain⟨h1,h2⟩:=rc_tup I hu ih (sqt t) (sqt t') q q' h;exact⟨h1,h2,refs rfl rfl h1⟩
    | fl t' q'=>cases h
    | ob t'=>cases h
    | non=>cases h;obtain⟨⟨h1,h2,h3⟩,_⟩:=at_tup_flat (ι:=ι) I hu (sqt t) .non g2 rfl;exact⟨h1,h2,h3⟩
    | bl b=>cases h;obtain⟨⟨h1,h2,h3⟩,_⟩:=at_tup_flat (ι:=ι) I hu (sqt t) (.bl b) g2 rfl;exact⟨h1,h2,h3⟩
    | int b=>cases h;obtain⟨⟨h1,h2,h3⟩,_⟩:=at_tup_flat (ι:=ι) I hu (sqt t) (.int b) g2 rfl;exact⟨h1,h2,h3⟩
    | str b=>cases h;obtain⟨⟨h1,h2,h3⟩,_⟩:=at_tup_flat (ι:=ι) I hu (sqt t) (.str b) g2 rfl;exact⟨h1,h2,h3⟩
   | ob t =>
    cases g1;cases r2 with
    | ob t' =>
     cases g2;unfold eqO at h;dsimp only at h;split at h
     ·rename_i i a j c xs ys h1 h2
      obtain⟨vs,e1,q1⟩:=S.obj _ _ _ t h1;obtain⟨ws,e2,q2⟩:=S.obj _ _ _ t' h2;obtain⟨k1,k2⟩:=rc_lst I hu ih (SqL.of e1) (SqL.of e2) q1 q2 h;refine⟨k1,k2,refs rfl rfl k1⟩
     ·cases h
    | tup t' q'=>cases h
    | _=>cases h
   | fl t q=>cases r2 <;> cases h
   | non =>
    cases r2 with
    | tup t' q'=>cases h;cases g2;obtain⟨_,h1,h2,h3⟩:=at_tup_flat (ι:=ι) I hu (sqt t') .non g1 rfl;exact⟨h1,h2,h3⟩
    | fl t' q'=>cases h
    | ob t'=>cases h
    | _=>exact absurd ⟨rfl,rfl⟩ hf
   | bl x =>
    cases r2 with
    | tup t' q'=>cases h;cases g2;obtain⟨_,h1,h2,h3⟩:=at_tup_flat (ι:=ι) I hu (sqt t') (.bl x) g1 rfl;exact⟨h1,h2,h3⟩
    | fl t' q'=>cases h
    | ob t'=>cases h
    | _=>exact absurd ⟨rfl,rfl⟩ hf
   | int x =>
    cases r2 with
    | tup t' q'=>cases h;cases g2;obtain⟨_,h1,h2,h3⟩:=at_tup_flat (ι:=ι) I hu (sqt t') (.int x) g1 rfl;exact⟨h1,h2,h3⟩
    | fl t' q'=>cases h
    | ob t'=>cases h
    | _=>exact absurd ⟨rfl,rfl⟩ hf
   | str x =>
    cases r2 with
    | tup t' q'=>cases h;cases g2;obtain⟨_,h1,h2,h3⟩:=at_tup_flat (ι:=ι) I hu (sqt t') (.str x) g1 rfl;exact⟨h1,h2,h3⟩
    | fl t' q'=>cases h
    | ob t'=>cases h
    | _=>exact absurd ⟨rfl,rfl⟩ hf
open Classical in
theorem in_all (I:Inv X pins σ H s)(S:Sim X.K ι M H){A:Around}(hu:A.units + 9 < cLine){x:D}{vx:V}{v:Value}(rx:Rep X.K ι H x vx)(gx:RelV vx v):∀ {ds:List D} {vs:List V} {its:List Value} {b:Bool},Reps X.K ι H ds vs->Vals vs its->inL M x ds=some b ->
  ∃ ans:List Bool,ans.length=its.length/\(∀ (j:Nat) (u:Value) (c:Bool),its[j]?=some u->ans[j]?=some c->SeqAt.EqAt A.in1 s u v c)/\b=ans.any id
 | _,_,_,b,.nil,.nil,h=>by cases h;exact⟨[],rfl,fun j u c h=>by simp at h,rfl⟩
 | d::ds,_,_,b,.cons r t,.cons q k,h=>by
  unfold inL at h;cases e1:eqO M 8 d x with
  | none=>rw[e1]at h;cases h
  | some c =>
   rw[e1]at h;cases e2:inL M x ds with
   | none=>rw[e2]at h;cases h
   | some c2 =>
    rw[e2]at h;cases h;obtain⟨ans,a1,a2,a3⟩:=in_all I S hu rx gx t k e2;refine⟨c::ans,by rw[zE,zE,a1],fun j u c' h1 h2=>?_,by rw[a3];rfl⟩;cases j with
    | zero =>
     simp at h1 h2;subst h1 h2;exact(eq_all I S 8 (A:=A.in1) (by show A.units + 1 + 8 < cLine;omega) r rx q gx e1).2.2
    | succ j=>exact a2 j u c' (by simpa using h1) (by simpa using h2)
open Classical in
theorem in_fun {A:Around}{its:List Value}{ans:List Bool}{v:Value}(hl:ans.length=its.length)(h:∀ (j:Nat) (u:Value) (c:Bool),its[j]?=some u->ans[j]?=some c->SeqAt.EqAt A s u v c) :
  ∃ e:Value->Bool,(∀ y,y∈its.toArray->SeqAt.EqAt A s y v (e y))/\its.toArray.any e=ans.any id:=by
 refine⟨fun y=>decide (∃ j:Nat,its[j]?=some y/\ans[j]?=some true),fun y hy=>?_,?_⟩
 ·by_cases hex:∃ j:Nat,its[j]?=some y/\ans[j]?=some true
  ·dsimp only
   rw[decide_eq_true hex];obtain⟨j,h1,h2⟩:=hex;exact h j y true h1 h2
  ·dsimp only
   rw[decide_eq_false hex];have hy':y∈its:=by simpa using hy
   obtain⟨j,hj⟩:=wM.mp hy';have hj2:j < ans.length:=by rw[hl];exact(zr.mp hj).1
   have e:=zt hj2;cases hb:ans[j] with
   | true=>rw[hb]at e;exact absurd ⟨j,hj,e⟩ hex
   | false=>rw[hb]at e;exact h j y false hj e
 ·rw[xc,Array.any_eq_true]
  simp only[decide_eq_true_eq,wA,id];constructor
  ·rintro ⟨i,hi,j,h1,h2⟩
   exact⟨true,zQ h2,rfl⟩
  ·rintro ⟨c,hc,rfl⟩
   obtain⟨j,hj⟩:=wM.mp hc;have hj2:j < its.length:=by rw[<- hl];exact(zr.mp hj).1
   exact⟨j,by simpa using hj2,j,by simp[hj2],hj⟩
end
section
variable {X:Cx}
noncomputable def gCmp (op:CmpOp)(x y:D):Mo D:=do let k <- cmpD op x y;pure (.bl k)
theorem inMo_ok {x:D}{ds:List D}{M M':MH}{b:Bool}(h:inMo x ds M=some (.ok b,M')):inL M x ds=some b/\M'=M:=by
 unfold inMo at h;cases e:inL M x ds with
 | none=>rw[e]at h;cases h
 | some c=>rw[e]at h;cases h;exact⟨rfl,rfl⟩
theorem eqMo_ok {x y:D}{M M':MH}{b:Bool}(h:eqMo x y M=some (.ok b,M')):eqO M 20 x y=some b/\M'=M:=by
 unfold eqMo at h;cases e:eqO M 20 x y with
 | none=>rw[e]at h;cases h
 | some c=>rw[e]at h;cases h;exact⟨rfl,rfl⟩
theorem inD_M {x y:D}{M M':MH}{b:Bool}(h:inD x y M=some (.ok b,M')):M'=M:=by
 unfold inD at h;split at h
 ·split at h
  ·exact(pure_ok h).2
  ·exact(stop_ok h).elim
 ·exact(inMo_ok h).2
 ·exact(inMo_ok h).2
 ·have h0:=bind_ok h;clear h;obtain⟨o,M1,e,h2⟩:=h0
  have hM:=(getM_ok e).2;cases o with
  | lst ds=>rw[(inMo_ok h2).2,hM]
  | dic kvs =>
   have h20:=bind_ok h2;clear h2;obtain⟨_,_,e3,h3⟩:=h20;rw[(pure_ok h3).2,(lift_ok e3).2,hM]
 ·exact(stop_ok h).elim
theorem in_ok (hu:X.A.units + 100 < cLine)(neg:Bool){pins:List (Addr×Obj)}{s:Shared}{σ:St}{H:Hp}{x y:V}{v u:Value}{Q:VK}(I:Inv X pins σ H s)(rx:RelV x v)(ry:RelV y u){ι:List Addr}{M M':MH}{dx dy:D}{b:Bool}
  (S:Sim X.K ι M H) (r1:Rep X.K ι H dx x) (r2:Rep X.K ι H dy y) (e:inD dx dy M=some (.ok b,M')) (q:Q (.bl (if neg then !b else b)) H) :
  wpAny (model X.prog X.w) X.A (compareOp (if neg then .NotIn else .In) v u) (EP X pins σ Q) X.xe s:=by
 have seq:∀ {a:Addr} {vs:List V} {ds:List D},y=.ref a->(SqL X.K H a vs\/SqT X.K H a vs)->Reps X.K ι H ds vs->inL M dx ds=some b ->
   wpAny (model X.prog X.w) X.A (compareOp (if neg then .NotIn else .In) v u) (EP X pins σ Q) X.xe s:=fun {a vs ds} ey hs hr hb=>by
  subst ey;cases ry;rcases hs with hs | hs
  ·obtain⟨its,q1,p1,_⟩:=I.list hs
   obtain⟨ans,a1,a2,rfl⟩:=in_all I S (A:=X.A) (by first | lia | omega) r1 rx hr q1 hb
   obtain⟨e,e1,e2⟩:=in_fun a1 a2;cases neg with
   | false=>exact SeqAt.in_listAt e p1.isList e1 ⟨.bl _,H,I,rfl,by rw[e2];exact q⟩
   | true=>exact SeqAt.notIn_listAt e p1.isList e1 ⟨.bl _,H,I,rfl,by rw[e2];exact q⟩
  ·obtain⟨its,q1,p1,_⟩:=I.tuple hs
   obtain⟨ans,a1,a2,rfl⟩:=in_all I S (A:=X.A) (by first | lia | omega) r1 rx hr q1 hb
   obtain⟨e,e1,e2⟩:=in_fun a1 a2;cases neg with
   | false=>exact SeqAt.in_tupleAt e p1 e1 ⟨.bl _,H,I,rfl,by rw[e2];exact q⟩
   | true=>exact SeqAt.notIn_tupleAt e p1 e1 ⟨.bl _,H,I,rfl,by rw[e2];exact q⟩
 cases r2 with
 | str j =>
  cases r1 with
  | str i =>
   have e0:=pure_ok e;clear e;obtain⟨rfl,rfl⟩:=e0;cases neg with
   | false=>exact op_in_str pins s σ H _ _ v u Q I rx ry ⟨i,j,rfl,rfl,q⟩
   | true=>exact op_notin_str pins s σ H _ _ v u Q I rx ry ⟨i,j,rfl,rfl,q⟩
  | _=>exact(stop_ok e).elim
 | tup t r=>exact seq rfl (.inr (sqt t)) r (inMo_ok e).1
 | fl t r=>exact seq rfl (.inl t.seq) r (inMo_ok e).1
 | ob t =>
  have e0:=bind_ok e;clear e;obtain⟨o,M1,e1,e⟩:=e0;have e10:=getM_ok e1;clear e1;obtain⟨g,rfl⟩:=e10;cases o with
  | lst ds =>
   obtain⟨a,vs,h1,_,h3,h4⟩:=sim_list S (.ob t) g;exact seq h1 (.inl (SqL.of h3)) h4 (inMo_ok e).1
  | dic kvs =>
   obtain⟨a,ws,h1,_,h3,h4⟩:=sim_dict S (.ob t) g;have e0:=bind_ok e;clear e;obtain⟨k,_,e5,e6⟩:=e0;have e50:=lift_ok e5;clear e5;obtain⟨hk,hM⟩:=e50;have e60:=pure_ok e6;clear e6;obtain⟨rfl,_⟩:=e60;have hx:=key_rep r1 hk;subst hx;cases h1;obtain rfl:u=Value.ref _:=ry;have hs:(valV ws k).isSome=(kvGet kvs k).isSome:=by
    rcases h4.find k with ⟨z1,z2⟩|⟨_,_,z1,z2,_⟩ <;> rw[z1,z2]
    ·rfl
    ·rfl
   rw[<- hs]at q;cases neg with
   | false=>exact d_in (by first | lia | omega) I (DGet.k (k:=k) h3) rx fun s3 I3=>⟨.bl _,H,I3,rfl,q⟩
   | true=>exact d_notIn (by first | lia | omega) I (DGet.k (k:=k) h3) rx fun s3 I3=>⟨.bl _,H,I3,rfl,q⟩
 | _=>exact(stop_ok e).elim
theorem op_cmp (hu:X.A.units + 100 < cLine)(op:CmpOp):OpR X (compareOp op) (R2S X.K (gCmp op)):=by
 intro pins s σ H x y v u Q I rx ry h;obtain⟨ι,M,M',dx,dy,d,S,r1,r2,e,k⟩:=h;have e0:=bind_ok e;clear e;obtain⟨b,M1,e1,e2⟩:=e0;have e20:=pure_ok e2;clear e2;obtain⟨rfl,rfl⟩:=e20;have fin:M'=M->Q (.bl b) H:=fun z=>by subst z;exact k (.bl b) H ι (.bl b) S Ext.refl
 cases op with
 | Eq =>
  have e10:=eqMo_ok e1;clear e1;obtain⟨hs,rfl⟩:=e10;exact(eq_all I S 20 (A:=X.A) (by first | lia | omega) r1 r2 rx ry hs).1 X.prog X.w X.xe _ ⟨.bl b,H,I,rfl,fin rfl⟩
 | NotEq =>
  have e10:=bind_ok e1;clear e1;obtain⟨c,_,e3,e4⟩:=e10;have e30:=eqMo_ok e3;clear e3;obtain⟨hs,rfl⟩:=e30;have e40:=pure_ok e4;clear e4;obtain⟨rfl,rfl⟩:=e40;exact(eq_all I S 20 (A:=X.A) (by first | lia | omega) r1 r2 rx ry hs).2.1 X.prog X.w X.xe _ ⟨.bl (!c),H,I,rfl,fin rfl⟩
 | Lt =>
  have e10:=lift_ok e1;clear e1;obtain⟨e3,rfl⟩:=e10;cases r1 <;> cases r2 <;> simp only[ltD,Option.some.injEq,reduceCtorEq]at e3
  ·exact op_lt pins s σ H _ _ v u Q I rx ry ⟨_,_,rfl,rfl,by show Q (.bl (decide _)) H;rw[e3];exact fin rfl⟩
  ·exact op_lt_str pins s σ H _ _ v u Q I rx ry ⟨_,_,rfl,rfl,by rw[e3];exact fin rfl⟩
 | LtE =>
  have e10:=lift_ok e1;clear e1;obtain⟨e3,rfl⟩:=e10;cases r1 <;> cases r2 <;> simp only[leD,Option.some.injEq,reduceCtorEq]at e3
  ·exact op_le pins s σ H _ _ v u Q I rx ry ⟨_,_,rfl,rfl,by show Q (.bl (decide _)) H;rw[e3];exact fin rfl⟩
  ·obtain⟨t,rfl⟩:=rx
   obtain⟨t',rfl⟩:=ry;exact PySem.P.le_str (fin_bl I (fin rfl) e3.symm)
 | Gt =>
  cases r1 <;> cases r2 <;> first
   | exact(stop_ok e1).elim
   | (have e10:=pure_ok e1;clear e1;obtain⟨rfl,rfl⟩:=e10;exact op_gt pins s σ H _ _ v u Q I rx ry ⟨_,_,rfl,rfl,fin rfl⟩)
 | GtE =>
  cases r1 <;> cases r2 <;> first
   | exact(stop_ok e1).elim
   | (have e10:=pure_ok e1;clear e1;obtain⟨rfl,rfl⟩:=e10;exact op_ge pins s σ H _ _ v u Q I rx ry ⟨_,_,rfl,rfl,fin rfl⟩)
 | In=>exact in_ok hu false I rx ry S r1 r2 e1 (fin (inD_M e1))
 | NotIn =>
  have e10:=bind_ok e1;clear e1;obtain⟨b',M2,e3,e4⟩:=e10;have e40:=pure_ok e4;clear e4;obtain⟨rfl,rfl⟩:=e40;exact in_ok hu true I rx ry S r1 r2 e3 (fin (inD_M e3))
 | Is =>
  have e10:=bind_ok e1;clear e1;obtain⟨_,_,e3,e4⟩:=e10;have e30:=need_ok e3;clear e3;obtain⟨hs,rfl⟩:=e30;have e40:=pure_ok e4;clear e4;obtain⟨rfl,rfl⟩:=e40;cases r2 <;> simp[isN]at hs;refine op_isN pins s σ H _ _ v u Q I rx ry ⟨rfl,?_⟩
  have:decide (x=V.non)=isN dx:=by cases r1 <;> simp[isN]
  rw[this];exact fin rfl
 | IsNot =>
  have e10:=bind_ok e1;clear e1;obtain⟨_,_,e3,e4⟩:=e10;have e30:=need_ok e3;clear e3;obtain⟨hs,rfl⟩:=e30;have e40:=pure_ok e4;clear e4;obtain⟨rfl,rfl⟩:=e40;cases r2 <;> simp[isN]at hs;refine op_notN pins s σ H _ _ v u Q I rx ry ⟨rfl,?_⟩
  have:decide (x=V.non)=isN dx:=by cases r1 <;> simp[isN]
  rw[this];exact fin rfl
theorem cat_nil {pins:List (Addr×Obj)}{s:Shared}{σ:St}{H:Hp}{a b:Addr}{us:List V}{Q:Value->Shared->Prop}{E:Value->Shared->Prop}(I:Inv X pins σ H s)(t1:SqT X.K H a [])(t2:SqT X.K H b us)(q:Q (.ref b) s):wpAny (model X.prog X.w) X.A (binaryOp .Add (.ref a) (.ref b)) Q E s:=by
 obtain⟨its,q1,p1,_⟩:=I.tuple t1;obtain⟨its2,q2,p2,_⟩:=I.tuple t2;cases q1;obtain⟨⟨cls,dd,data,sl⟩,ho,hc,n,hd⟩:=id p1;obtain⟨⟨cls2,dd2,data2,sl2⟩,ho2,hc2,n2,hd2⟩:=id p2;simp only at hc hd hc2 hd2;subst hc hd hc2 hd2;exact concat_meets ⟨_,ho,rfl⟩ ⟨_,ho2,rfl⟩ noFill_tuple_add seq_tuple_add PySem.F.slot_tuple_add PySem.F.entry_tuple_add (PySem.F.args_tuple_add_2 _ _)
  (tuple_addW0 a b _ its2.toArray n n2 dd dd2 sl sl2 (by simp)) ⟨ho,ho2,q⟩
theorem mul_str {pins:List (Addr×Obj)}{s:Shared}{σ:St}{H:Hp}{x:Str}{j:Int}{t t':Tok}{Q:VK}(I:Inv X pins σ H s)(n1:2<=j)(n2:j < 1000)(n3:0 < x.length)(n4:x.length < 1000)(q:Q (.str (repS x j.toNat)) H) :
  wpAny (model X.prog X.w) X.A (binaryOp .Mult (.str x t) (.int j t')) (EP X pins σ Q) X.xe s:=by
 have hb:x.length * j.toNat < 1000000:=by
  have h1:x.length * j.toNat<=999 * j.toNat:=Nat.mul_le_mul_right _ (by first | lia | omega)
  first | lia | omega
 have e:PySem.Txt.mul x j=repS x j.toNat:=by
  unfold PySem.Txt.mul repS;rw[if_neg (by first | lia | omega),if_neg (by simp;omega)]
 have ok:PySem.MulOk x j:=by
  refine⟨by simp;omega,fun _ _=>?_,fun _ _=>?_⟩
  ·have:(1000:Int)<=(2 ^ 63 - 1:Int) / j:=wN (by first | lia | omega) (by first | lia | omega)
   first | lia | omega
  ·unfold Builtin.Str.tooLong zn
   exact decide_eq_false (by first | lia | omega)
 refine PySem.SB.mul ok fun t2 k2=>?_;rw[e];exact⟨.str _,H,I.tok _,⟨t2,rfl⟩,q⟩
theorem op_bin (op:Operator):OpR X (binaryOp op) (R2S X.K (opD op)):=by
 intro pins s σ H x y v u Q I rx ry h;obtain⟨ι,M,M',dx,dy,d,S,r1,r2,e,k⟩:=h;have fin:∀ {w':V},M'=M->Rep X.K ι H d w'->Q w' H:=fun {w'} z r=>by subst z;exact k w' H ι r S Ext.refl
 cases op
 case Add =>
  cases dx <;> first | exact(stop_ok e).elim | (cases dy <;> first | exact(stop_ok e).elim | skip)
  ·delta opD at e
   dsimp only at e;have e0:=pure_ok e;clear e;obtain⟨rfl,rfl⟩:=e0;cases r1;cases r2;exact op_add pins s σ H _ _ v u Q I rx ry ⟨_,_,rfl,rfl,fin rfl (.int _)⟩
  ·delta opD at e
   dsimp only at e;have e0:=bind_ok e;clear e;obtain⟨_,_,e1,e⟩:=e0;have e10:=need_ok e1;clear e1;obtain⟨hn,rfl⟩:=e10;have e0:=pure_ok e;clear e;obtain⟨rfl,rfl⟩:=e0;cases r1;cases r2;exact op_add_str pins s σ H _ _ v u Q I rx ry ⟨_,_,rfl,rfl,hn,fin rfl (.str _)⟩
  ·delta opD at e
   dsimp only at e;have e0:=bind_ok e;clear e;obtain⟨_,_,e1,e⟩:=e0;have e10:=need_ok e1;clear e1;obtain⟨hz,rfl⟩:=e10;have e0:=pure_ok e;clear e;obtain⟨rfl,rfl⟩:=e0;cases r1 with
   | tup t1 q1 =>
    cases r2 with
    | tup t2 q2 =>
     rename_i a vs b us;by_cases hn:vs=[]
     ·subst hn
      cases q1;cases rx;cases ry;exact cat_nil I (sqt t1) (sqt t2) ⟨.ref _,H,I,rfl,k _ H ι (.tup t2 q2) S Ext.refl⟩
     ·refine op_catT pins s σ H _ _ v u Q I rx ry ⟨_,_,_,_,rfl,rfl,sqt t1,sqt t2,hn,by rw[<- q1.length,<- q2.length];exact hz,fun z=>?_,fun z=>new_tup S (q1.append q2) k⟩
      subst z;cases q2;rw[ya]at k;exact k _ H ι (.tup t1 q1) S Ext.refl
  ·delta opD at e
   dsimp only at e;have e0:=bind_ok e;clear e;obtain⟨xs,_,e1,e⟩:=e0;have e10:=getL_ok e1;clear e1;obtain⟨g1,rfl⟩:=e10;have e0:=bind_ok e;clear e;obtain⟨ys,_,e1,e⟩:=e0;have e10:=getL_ok e1;clear e1;obtain⟨g2,rfl⟩:=e10;have e0:=bind_ok e;clear e;obtain⟨_,_,e1,e⟩:=e0;have e10:=need_ok e1;clear e1;obtain⟨hn,rfl⟩:=e10;obtain⟨a,vs,rfl,_,h3,h4⟩:=sim_list S r1 g1;obtain⟨b,us,rfl,_,h5,h6⟩:=sim_list S r2 g2;exact op_cat pins s σ H _ _ v u Q I rx ry ⟨a,b,vs,us,rfl,rfl,h3,h5,by rw[<- h4.length,<- h6.length];exact hn,new_list S (h4.append h6) e k⟩
 case Sub =>
  cases dx <;> first | exact(stop_ok e).elim | (cases dy <;> first | exact(stop_ok e).elim | skip)
  ·delta opD at e
   dsimp only at e;have e0:=pure_ok e;clear e;obtain⟨rfl,rfl⟩:=e0;cases r1;cases r2;exact op_sub pins s σ H _ _ v u Q I rx ry ⟨_,_,rfl,rfl,fin rfl (.int _)⟩
 case Mult =>
  cases dx <;> first | exact(stop_ok e).elim | (cases dy <;> first | exact(stop_ok e).elim | skip)
  ·delta opD at e
   dsimp only at e;have e0:=bind_ok e;clear e;obtain⟨_,_,e1,e⟩:=e0;have e10:=need_ok e1;clear e1;obtain⟨hn,rfl⟩:=e10;have e0:=pure_ok e;clear e;obtain⟨rfl,rfl⟩:=e0;cases r1;cases r2;exact op_mul pins s σ H _ _ v u Q I rx ry ⟨_,_,rfl,rfl,hn,fin rfl (.int _)⟩
  ·delta opD at e
   dsimp only at e;have e0:=bind_ok e;clear e;obtain⟨_,_,e1,e⟩:=e0;have e10:=need_ok e1;clear e1;obtain⟨⟨n1,n2,n3,n4⟩,rfl⟩:=e10;have e0:=pure_ok e;clear e;obtain⟨rfl,rfl⟩:=e0;cases r1;cases r2;obtain⟨t,rfl⟩:=rx;obtain⟨t',rfl⟩:=ry;exact mul_str I n1 n2 n3 n4 (fin rfl (.str _))
 case FloorDiv =>
  cases dx <;> first | exact(stop_ok e).elim | (cases dy <;> first | exact(stop_ok e).elim | skip)
  ·delta opD at e
   dsimp only at e;have e0:=bind_ok e;clear e;obtain⟨_,_,e1,e⟩:=e0;have e10:=need_ok e1;clear e1;obtain⟨hn,rfl⟩:=e10;have e0:=pure_ok e;clear e;obtain⟨rfl,rfl⟩:=e0;cases r1;cases r2;exact op_fdiv pins s σ H _ _ v u Q I rx ry ⟨_,_,rfl,rfl,hn,fin rfl (.int _)⟩
 case Mod =>
  cases dx <;> first | exact(stop_ok e).elim | (cases dy <;> first | exact(stop_ok e).elim | skip)
  ·delta opD at e
   dsimp only at e;have e0:=bind_ok e;clear e;obtain⟨_,_,e1,e⟩:=e0;have e10:=need_ok e1;clear e1;obtain⟨hn,rfl⟩:=e10;have e0:=pure_ok e;clear e;obtain⟨rfl,rfl⟩:=e0;cases r1;cases r2;exact op_mod pins s σ H _ _ v u Q I rx ry ⟨_,_,rfl,rfl,hn,fin rfl (.int _)⟩
 case Pow =>
  cases dx <;> first | exact(stop_ok e).elim | (cases dy <;> first | exact(stop_ok e).elim | skip)
  ·delta opD at e
   dsimp only at e;have e0:=bind_ok e;clear e;obtain⟨_,_,e1,e⟩:=e0;have e10:=need_ok e1;clear e1;obtain⟨hn,rfl⟩:=e10;have e0:=pure_ok e;clear e;obtain⟨rfl,rfl⟩:=e0;cases r1;cases r2;exact op_pow pins s σ H _ _ v u Q I rx ry ⟨_,_,rfl,rfl,hn,fin rfl (.int _)⟩
 all_goals exact(stop_ok e).elim
theorem ix_dict (hu:X.A.units + 100 < cLine):IxR X (fun x y H Q=>∃ a v,x=.ref a/\DGet H a y (some v)/\Q v H):=by
 intro value slice pins s σ H x y v u Q I rx ry h hs;obtain⟨a,w',rfl,g,q⟩:=h;obtain rfl:v=Value.ref a:=rx;exact tail_any (dict_typeIs I g) PySem.F.slot_dict_getitem.lookup (d_getItem (by first | lia | omega) I g ry fun w2 s3 I3 rw'=>⟨w',H,I3,rw',q⟩) hs
theorem ix_get (hu:X.A.units + 100 < cLine):IxR X (R2S X.K getIx):=by
 intro value slice pins s σ H x y v u Q I rx ry h hs;obtain⟨ι,M,M',dx,dy,d,S,r1,r2,e,k⟩:=h;have fin:∀ {w':V},M'=M->Rep X.K ι H d w'->Q w' H:=fun {w'} z r=>by subst z;exact k w' H ι r S Ext.refl
 unfold getIx at e;split at e
 ·have e0:=lift_ok e;clear e;obtain⟨e1,rfl⟩:=e0
  cases r2;cases r1 with
  | tup t q =>
   obtain⟨w',h1,h2⟩:=reps_at q e1;exact ix_tup value slice pins s σ H _ _ v u Q I rx ry ⟨_,_,_,w',rfl,rfl,sqt t,h1,fin rfl h2⟩ hs
 ·have e0:=lift_ok e;clear e;obtain⟨e1,rfl⟩:=e0
  cases r2;cases r1 with
  | fl t q =>
   obtain⟨w',h1,h2⟩:=reps_at q e1;exact ix_list value slice pins s σ H _ _ v u Q I rx ry ⟨_,_,_,w',rfl,rfl,t.seq,h1,fin rfl h2⟩ hs
 ·have e0:=bind_ok e;clear e;obtain⟨_,_,e1,e⟩:=e0
  have e10:=need_ok e1;clear e1;obtain⟨hn,rfl⟩:=e10;have e0:=bind_ok e;clear e;obtain⟨c,_,e1,e⟩:=e0;have e10:=lift_ok e1;clear e1;obtain⟨hc,rfl⟩:=e10;have e0:=pure_ok e;clear e;obtain⟨rfl,rfl⟩:=e0;cases r2;cases r1;exact ix_str value slice pins s σ H _ _ v u Q I rx ry ⟨_,_,c,rfl,rfl,hn,hc,fin rfl (.str _)⟩ hs
 ·have e0:=bind_ok e;clear e;obtain⟨o,_,e1,e⟩:=e0
  have e10:=getM_ok e1;clear e1;obtain⟨g,rfl⟩:=e10;cases o with
  | lst ds =>
   dsimp only at e;split at e
   ·have e0:=lift_ok e;clear e;obtain⟨e1,rfl⟩:=e0
    obtain⟨a,vs,rfl,_,h3,h4⟩:=sim_list S r1 g;cases r2;obtain⟨w',h1,h2⟩:=reps_at h4 e1;exact ix_list value slice pins s σ H _ _ v u Q I rx ry ⟨_,_,_,w',rfl,rfl,SqL.of h3,h1,fin rfl h2⟩ hs
   ·exact(stop_ok e).elim
  | dic kvs =>
   have e0:=bind_ok e;clear e;obtain⟨q,_,e1,e⟩:=e0;have e10:=lift_ok e1;clear e1;obtain⟨hk,rfl⟩:=e10;have e0:=lift_ok e;clear e;obtain⟨e1,rfl⟩:=e0;obtain⟨a,ws,rfl,_,h3,h4⟩:=sim_dict S r1 g;have hy:=key_rep r2 hk;subst hy;rcases h4.find q with ⟨z1,z2⟩|⟨d',w',z1,z2,z3⟩
   ·rw[z1]at e1;cases e1
   ·rw[z1]at e1;cases e1
    have g2:DGet H a (kV q) (some w'):=z2 ▸ DGet.k (k:=q) h3;exact ix_dict hu value slice pins s σ H _ _ v u Q I rx ry ⟨a,w',rfl,g2,fin rfl z3⟩ hs
 ·exact(stop_ok e).elim
noncomputable def RSet (K:PySem.W.Frag):TSet:=fun o i v H Q=>∃ ι M M' x y z u,Sim K ι M H/\Rep K ι H x o/\Rep K ι H y i/\Rep K ι H z v/\setIx x y z M=some (.ok u,M') /\
 ∀ H',Sim K ι M' H'->Ext K ι H ι H'->Q H'
theorem set_ix (hu:X.A.units + 100 < cLine):PSet X (RSet X.K):=by
 intro pins s σ H o i v ov iv u Q I ro ri rv h;obtain⟨ι,M,M',x,y,z,w',S,r1,r2,r3,e,k⟩:=h;unfold setIx at e;split at e
 ·have e0:=bind_ok e;clear e;obtain⟨ob,_,e1,e⟩:=e0
  have e10:=getM_ok e1;clear e1;obtain⟨g,rfl⟩:=e10;cases ob with
  | lst ds =>
   dsimp only at e;split at e
   ·have e0:=bind_ok e;clear e;obtain⟨j,_,e1,e⟩:=e0
    have e10:=lift_ok e1;clear e1;obtain⟨hj,rfl⟩:=e10;have e0:=putM_ok e;clear e;obtain⟨_,rfl⟩:=e0;obtain⟨a,vs,rfl,hi,h3,h4⟩:=sim_list S r1 g;cases r2;refine set_list pins s σ H _ _ v ov iv u Q I ro ri rv ⟨a,vs,_,j,rfl,rfl,h3,by rw[<- h4.length];exact hj,?_⟩;have x:Ext X.K ι H ι (upd H a (.lst (vs.set j v))):=Ext.write h3 (mut_l _);exact k _ (S.put hi ⟨_,rfl,(h4.mono x).set (r3.mono x) j⟩) x
   ·exact(stop_ok e).elim
  | dic kvs =>
   have e0:=bind_ok e;clear e;obtain⟨q,_,e1,e⟩:=e0;have e10:=lift_ok e1;clear e1;obtain⟨hk,rfl⟩:=e10;have e0:=bind_ok e;clear e;obtain⟨_,_,e1,e⟩:=e0;have e10:=need_ok e1;clear e1;obtain⟨hn,rfl⟩:=e10;have e0:=putM_ok e;clear e;obtain⟨_,rfl⟩:=e0;obtain⟨a,ws,rfl,hi,h3,h4⟩:=sim_dict S r1 g;have hy:=key_rep r2 hk;subst hy;obtain rfl:ov=Value.ref a:=ro;have x:Ext X.K ι H ι (upd H a (.dK (putK ws q v))):=Ext.write h3 (mut_d _);refine d_setItem (by first | lia | omega) I (DPut.k (k:=q) h3 (by rw[<- h4.len];exact hn)) ri rv fun s4 I4=>⟨_,I4,?_⟩
   exact k _ (S.put hi ⟨_,rfl,(h4.mono x).put q (r3.mono x)⟩) x
 ·exact(stop_ok e).elim
end
end L3
namespace L3
open PySem PySem.Spec PyProof.Rows L2
end L3
namespace L3
open PySem PySem.Spec PyProof.Rows L2
section
variable {prog:Program}{w:World}{K:Type}[DecidableEq K]{knd:PySem.KeyKind prog w K}{A:Around}{E:Value->Shared->Prop}
end
end L3
namespace L3
open PySem PySem.Spec PyProof.Rows L2
section
variable {prog:Program}{w:World}{A:Around}{E:Value->Shared->Prop}{s:Shared}
theorem getItem_tuple_whole {t sl:Addr}{items:Array Value}{vl vu:Value}{lo hi:Option Int}{Q:Value->Shared->Prop}(ht:IsTup s.heap t items)(hs:s.heap.IsSliceOf sl vl vu .none)(pl:IsPart vl lo)(pu:IsPart vu hi)
  (hw:HT.sIx items.size 0 lo=0/\HT.sIx items.size items.size hi=items.size) (h:Q (.ref t) s):wpAny (model prog w) A (getItem (.ref t) (.ref sl)) Q E s:=by
 obtain⟨os,hos,hcs,hds⟩:=id hs;have hTs:s.TypeIs (.ref sl) "slice":=⟨os,hos,hcs⟩;unfold getItem
 try with_reducible refine wpAny_holding ?_
 first | refine zz (zu ?_) | skip
 refine zz (wpAny_sequenceKey ht.typeIs (by decide) ?_);refine zz (wpAny_callSpecial?_slot (name:=Str.ofString "__getitem__") ht.typeIs PyProof.Rows.slot_tuple_getitem
  (wpAny_call_entry PyProof.Rows.slot_tuple_getitem ht.typeIs entry_tuple_getitem ?_ (args_tuple_getitem _ _)))
 show wpAny _ _ (Builtin.Tuple.tupleItemsOf (.ref t) >>= _) _ _ s;refine zz (tupleItemsOf_ ht ?_);refine zz (wpAny_typeOf hTs ?_);rw[if_pos (by decide)];refine zz (HT.sliceApplied_gen hs pl pu ?_);have hyes:(((HT.sIx items.size 0 lo:Nat):Int)==0&&(1:Int)==1&&(HT.sIx items.size items.size hi - HT.sIx items.size 0 lo)==items.size)=true:=by
  rw[hw.1,hw.2];simp
 show wpAny _ _ (if (((HT.sIx items.size 0 lo:Nat):Int)==0&&(1:Int)==1&&(HT.sIx items.size items.size hi - HT.sIx items.size 0 lo)==items.size)=true then _ else _) _ _ s;rw[if_pos hyes];refine zz ?_;refine zz (wpAny_typeOf ht.typeIs ?_);refine zu ?_;rw[if_pos (by decide)];refine zz (wpAny_rule ?_)
 first
  | exact zz (zu (zu ⟨_,rfl,zu h⟩))
  | exact zu ⟨_,rfl,zu h⟩
  | exact zz (zu ⟨_,rfl,zu h⟩)
end
theorem wpAny_forIn_rng {M:Model}{A:Around}{E:Value->Shared->Prop}{s:Shared}{β:Type}(r:Std.Legacy.Range)(f:Nat->β->Sem (ForInStep β))(I:List Nat->β->Shared->Prop)(Q:β->Shared->Prop){b:β}
  (turn:∀ a rest b s',I (a::rest) b s'->wpAny M A (f a b) (fun step s''=>match step with
   | .yield b'=>I rest b' s''
   | .done b'=>Q b' s'') E s')
  (fin:∀ b s',I [] b s'->Q b s') (h:I (wS r.start r.size r.step) b s):wpAny M A (forIn r b f) Q E s:=by
 rw[Std.Legacy.Range.forIn_eq_forIn_range'];exact wpAny_forIn_list f I Q turn fin _ _ h
theorem tuple_indexAt (l:Addr)(items:Array Value)(n:Nat)(dd:Option Addr)(sl:Array (Option Value))(x:Value)(e:Value->Bool)(j:Nat)(hj:j < items.size)(hit:e items[j]=true)(hno:∀ m (hm:m < items.size),m < j->e items[m]=false) :
  Meets (Builtin.«tuple.index» ⟨[.ref l,x],[]⟩)
   (fun A R s=>s.heap.get? l=some { cls:=.type "tuple",dict:=dd,data:=.seq items n,slots:=sl }/\(∀ y,y∈items->SeqAt.EqAt A.in1 s y x (e y))/\R (.ok (.ret (.int j s.toks))) { s with toks:=s.toks + 1 }) :=
 .of_wp fun prog w A R s h=>by
  obtain⟨hp,g,d,tk,os⟩:=s;obtain⟨hl,he,h⟩:=h;wp_walk using AutoSeq1.wpAny_loadPart' hl,wpAny_forIn_rng _ _ (fun rest b s'=>b.1=none/\s'=⟨hp,g,d,tk,os⟩/\∃ i,i<=j/\rest=wS i (items.size - i)) _
  case turn =>
   rintro a rest b s' ⟨hb,rfl,i,hi,hr⟩;have hlt:i < items.size:=by first | lia | omega
   have e1:items.size - i=(items.size - (i + 1)) + 1:=by first | lia | omega
   rw[e1,vB]at hr;injection hr with r1 r2
   subst r1;have hm:items[a]?=some items[a]:=zZ hlt;rw[hm];refine zz (he items[a] (Array.getElem_mem hlt) prog w _ _ ?_);by_cases hij:a=j
   ·subst hij
    rw[hit];wp_walk;exact⟨_,rfl,h⟩
   ·rw[hno a hlt (by first | lia | omega)]
    wp_walk;exact⟨rfl,rfl,a + 1,by omega,r2⟩
  case fin =>
   rintro ⟨b1,b2⟩ s' ⟨hb,rfl,i,hi,hr⟩
   have:=congrArg List.length hr
   rw[List.length_range']at this;simp at this;first | lia | omega
  case h =>
   refine⟨rfl,rfl,0,zV _,?_⟩;show wS 0 ((min items.size items.size - 0 + 1 - 1) / 1) 1=_;simp
section
variable {X:Cx}
noncomputable def MFact (T:String)(name:Str)(id:String):Prop:=PlainAttrs T/\Slot T name id/\typeOf (.builtin id)=pure (.type "method_descriptor")
noncomputable def RcvIs (X:Cx)(T:String)(x:V)(H:Hp):Prop:=∀ (pins:List (Addr×Obj)) (σ:St) (s:Shared) (v:Value),Inv X pins σ H s->RelV x v->s.TypeIs v T/\∀ a,v=.ref a->∃ ob,s.heap.get? a=some ob/\ob.dict=none
noncomputable def tBMx (X:Cx)(name:Str)(r:String->V->List V->Hp->VK->Prop)(to:TE)(t:TA):TE:=fun σ H Q=>to σ H fun x H1=>∃ T id,MFact T name id/\RcvIs X T x H1/\t σ H1 fun xs H2=>r id x xs H2 Q
theorem pe_bmx {name:Str}{r:String->V->List V->Hp->VK->Prop}{o e:Expr}{es:List Expr}{to:TE}{t:TA}{apos cpos:Pos}(hm:∀ id,MtR X id (r id))(ho:PE X o to)(ha:PA X (e::es) t)
  (hbase:attributeBase o name X.env (eval o X.env)=eval o X.env)
  (hfew:((backTo cpos (starEach (e::es) X.env)).all (fun x=>!x.1)&&(backToKw cpos (keywordEach [] X.env)).all (fun x=>x.1.isSome)
  &&decide ((e::es).length + ([]:List Keyword).length + (if ([]:List Keyword).isEmpty then 0 else 1) < 30))=true)
  (hline:(apos.endLine==cpos.line)=true) (hs:starEach (e::es) X.env=(false,eval e X.env)::starEach es X.env) (hplain:(backTo cpos (starEach es X.env)).any (·.1)=false) :
  PE X (.Call (.Attribute o name apos) (e::es) [] cpos) (tBMx X name r to t):=by
 intro pins s σ H Q I h;refine wpAny_Call_method_late hbase hfew hline rfl (thn (ho pins s σ H _ I h) fun v s1 ⟨x,H1,I1,r1,T,id,⟨pa,slot,hty⟩,ty,q1⟩=>?_);obtain⟨h1,h2⟩:=ty pins σ s1 v I1 r1;refine⟨T,id,pa,slot,hty,h1,h2,?_⟩;have hA:=ha cpos pins s1 σ H1 _ I1 q1;rw[hs]at hA ⊢;refine Calls.callWith_builtin (by show (false||(backTo cpos (starEach es X.env)).any (·.1))=false;rw[hplain] <;> rfl) (Calls.evalArgs_plain ?_);exact thn hA fun us s2 ⟨vs,H2,I2,r2,q2⟩=>hm id pins s2 σ H2 x vs v us Q I2 r1 r2 q2
theorem rcv_list {a:Addr}{xs:List V}{H:Hp}(h:SqL X.K H a xs):RcvIs X "list" (.ref a) H:=fun pins σ s v I r=>tyV_is I r (.inl ⟨rfl,xs,h⟩)
theorem rcv_str {y:Str}{H:Hp}:RcvIs X "str" (.str y) H:=fun pins σ s v I r=>tyV_is (X:=X) I r rfl
theorem rcv_tup {a:Addr}{xs:List V}{H:Hp}(h:SqT X.K H a xs):RcvIs X "tuple" (.ref a) H:=fun pins σ s v I r=>by
 cases r;obtain⟨its,_,p,_⟩:=I.tuple h;obtain⟨o,e,d,_⟩:=I.tupNoDict h;exact⟨p.typeIs,fun b eb=>by cases eb;exact⟨o,e,d⟩⟩
theorem reps1 {K:PySem.W.Frag}{ι:List Addr}{H:Hp}{d:D}{vs:List V}(r:Reps K ι H [d] vs):∃ v,vs=[v]/\Rep K ι H d v:=by
 cases r with | cons r1 r2=>cases r2;exact⟨_,rfl,r1⟩
theorem reps2 {K:PySem.W.Frag}{ι:List Addr}{H:Hp}{d e:D}{vs:List V}(r:Reps K ι H [d,e] vs):∃ v u,vs=[v,u]/\Rep K ι H d v/\Rep K ι H e u:=by
 cases r with | cons r1 r2=>cases r2 with | cons r2 r3=>cases r3;exact⟨_,_,rfl,r1,r2⟩
theorem put_list {K:PySem.W.Frag}{ι:List Addr}{M M':MH}{H:Hp}{k:Nat}{a:Addr}{ds es:List D}{vs ws:List V}{u:Unit}(S:Sim K ι M H)(hi:ι[k]?=some a)(ha:H a=some (.lst vs))(r:Reps K ι H es ws)(e:putM k (.lst es) M=some (.ok u,M')) :
  Sim K ι M' (upd H a (.lst ws))/\Ext K ι H ι (upd H a (.lst ws)):=by
 have e0:=putM_ok e;clear e;obtain⟨_,rfl⟩:=e0;have x:Ext K ι H ι (upd H a (.lst ws)):=Ext.write ha (mut_l _);exact⟨S.put hi ⟨_,rfl,r.mono x⟩,x⟩
theorem Vals.ins {x:V}{u:Value}(r:RelV x u){xs:List V}{us:List Value}(i:Int)(h:Vals xs us):Vals (insD xs i x) (insD us i u):=by
 unfold insD;rw[h.length];exact(h.take _).append (.cons r (h.drop _))
theorem Reps.ins {K:PySem.W.Frag}{ι:List Addr}{H:Hp}{d:D}{v:V}(r:Rep K ι H d v){ds:List D}{vs:List V}(i:Int)(h:Reps K ι H ds vs):Reps K ι H (insD ds i d) (insD vs i v):=by
 unfold insD;rw[h.length];exact(h.take _).append (.cons r (h.drop _))
theorem insD_len {α:Type}(xs:List α)(i:Int)(v:α):(insD xs i v).length=xs.length + 1:=by
 unfold insD insIx;rw[zq,zE,za,zM];split <;> omega
noncomputable def rInsert:V->List V->Hp->VK->Prop:=fun x vs H Q=>∃ l xs i y,x=.ref l/\vs=[.int i,y]/\H l=some (.lst xs)/\xs.length < zn/\(-(2 ^ 62)<=i/\i < 2 ^ 62)/\Q .non (upd H l (.lst (insD xs i y)))
theorem mt_insert:MtR X "list.insert" rInsert:=by
 intro pins s σ H x vs v us Q I rx rv h;obtain⟨l,xs,i,y,rfl,rfl,hH,hz,hi,q⟩:=h;cases rx;obtain⟨u1,u2,rfl,⟨t,rfl⟩,ru⟩:=rv.two;obtain⟨z,its,n,r,hl,e⟩:=I.lstM hH;have hf:Builtin.List.listFitsIndex i=true:=by unfold Builtin.List.listFitsIndex;simp;omega
 refine call_meets PySem.F.slot_list_insert ⟨_,e,rfl⟩ PySem.F.entry_list_insert (PySem.F.args_list_insert_3 _ _ _) (PySem.AutoSeq1.list_insert_list_int_val_1 l its.toArray n i t u2 (by simp[hf]) (by rw[zm];omega)) ⟨e,?_⟩;refine⟨.non,_,I.lset (its':=insD its i u2) hH e ?_ (Vals.ins ru i r) (by rw[insD_len];omega),rfl,q⟩;show (its.toArray.extract 0 (if i < 0 then (i + (its.toArray.size:Int)).toNat else min i.toNat its.toArray.size)).push u2++its.toArray.extract (if i < 0 then (i + (its.toArray.size:Int)).toNat else min i.toNat its.toArray.size)=_;rw[PySem.W.kl_ins_eq,zm];rfl
theorem mt_extendT:MtR X "list.extend" (fun x vs H Q=>∃ l b xs zs,x=.ref l/\vs=[.ref b]/\H l=some (.lst xs)/\SqT X.K H b zs/\xs.length + zs.length<=zn/\Q .non (upd H l (.lst (xs++zs)))):=by
 intro pins s σ H x vs v us Q I rx rv h;obtain⟨l,b,xs,zs,rfl,rfl,hH,hB,hz,q⟩:=h;cases rx;obtain⟨u,rfl,ru⟩:=rv.one;cases ru;obtain⟨z,its,n,r,hl,e⟩:=I.lstM hH;obtain⟨its2,r2,⟨⟨cls,dd,data,sl⟩,ho,hc,n2,hd⟩,z2⟩:=I.tuple hB;obtain⟨o2,e2,d2,d3⟩:=I.tupNoDict hB;rw[ho]at e2;cases e2;simp only at hc hd d2 d3;subst hc hd d2 d3;have hl2:=r2.length;have hsz:its.toArray.size + its2.toArray.size<=zn:=by rw[zm,zm];omega
 have hlong:¬ (!its.toArray.isEmpty&&Builtin.List.listTooLong (its.toArray.size + its2.toArray.size))=true:=by
  rw[notLongL hsz,wQ];exact zo
 refine call_meets F.slot_list_extend ⟨_,e,rfl⟩ F.entry_list_extend (F.args_list_extend_2 _ _)
  (AutoSeq1.list_extend_list_tuple_0 l its.toArray n b its2.toArray n2 hlong (by rw[zm];omega) (by first | lia | omega)) ⟨e,ho,?_⟩
 refine⟨.non,_,I.lset (its':=its++its2) hH e (by simp) (r.append r2) ?_,rfl,q⟩;rw[zq];first | lia | omega
noncomputable def rIndex (K:PySem.W.Frag)(T:Bool):V->List V->Hp->VK->Prop:=fun x vs H Q=>∃ l xs y j,x=.ref l/\vs=[y]/\(if T then SqT K H l xs else SqL K H l xs)/\flatV y=true/\xs.all flatV=true/\xs.findIdx? (fun z=>eqV z y)=some j/\Q (.int (j:Nat)) H
theorem idx_vals {xs:List V}{us:List Value}{y:V}{j:Nat}(r:Vals xs us)(hf:xs.all flatV=true)(h:xs.findIdx? (fun z=>eqV z y)=some j) :
  ∃ hj:j < us.toArray.size,eqU y us.toArray[j]=true/\∀ m (hm:m < us.toArray.size),m < j->eqU y us.toArray[m]=false:=by
 obtain⟨h1,h2,h3⟩:=yA.mp h;have hl:=r.length;have val:∀ m (hm:m < us.toArray.size) (hm':m < xs.length),eqU y us.toArray[m]=eqV xs[m] y:=fun m hm hm'=>by
  obtain⟨u,e1,e2⟩:=r.get (zt hm');have e3:us.toArray[m]=u:=by
   have:=(zr.mp e1).2
   simpa using this
  rw[e3];exact eqU_of e2 (yf.mp hf _ (yx hm'))
 refine⟨by rw[zm];omega,?_,fun m hm hmj=>?_⟩
 ·rw[val j _ h1];exact h2
 ·rw[val m _ (by first | lia | omega)]
  have:=h3 m hmj
  simpa using this
theorem mt_indexL:MtR X "list.index" (rIndex X.K false):=by
 intro pins s σ H x vs v us Q I rx rv h;obtain⟨l,xs,y,j,rfl,rfl,hs,fy,fx,hj,q⟩:=h;cases rx;obtain⟨u,rfl,ru⟩:=rv.one;obtain⟨its,r,p,hz⟩:=I.list (by simpa using hs);obtain⟨⟨cls,dd,data,sl⟩,ho,hc,n,hd⟩:=id p.isList;simp only at hc hd;subst hc hd;obtain⟨h1,h2,h3⟩:=idx_vals r fx hj;have hb:j < 2 ^ 62:=by
  have:=r.length
  rw[zm]at h1;unfold zn at hz;first | lia | omega
 refine call_meets PySem.F.slot_list_index ⟨_,ho,rfl⟩ PySem.F.entry_list_index (PySem.F.args_list_index_2 _ _) (SeqAt.list_indexAt l its.toArray n dd sl u (eqU y) j h1 (by first | lia | omega) h2 h3) ⟨ho,fun z hz'=>mem_eqAt ru fy r fx z (by simpa using hz'),?_⟩
 exact⟨.int (j:Nat),H,I.tok _,⟨_,rfl⟩,q⟩
theorem mt_indexT:MtR X "tuple.index" (rIndex X.K true):=by
 intro pins s σ H x vs v us Q I rx rv h;obtain⟨l,xs,y,j,rfl,rfl,hs,fy,fx,hj,q⟩:=h;cases rx;obtain⟨u,rfl,ru⟩:=rv.one;obtain⟨its,r,p,hz⟩:=I.tuple (by simpa using hs);obtain⟨⟨cls,dd,data,sl⟩,ho,hc,n,hd⟩:=id p;simp only at hc hd;subst hc hd;obtain⟨h1,h2,h3⟩:=idx_vals r fx hj;refine call_meets PySem.F.slot_tuple_index ⟨_,ho,rfl⟩ PySem.F.entry_tuple_index (PySem.F.args_tuple_index_2 _ _) (tuple_indexAt l its.toArray n dd sl u (eqU y) j h1 h2 h3) ⟨ho,fun z hz'=>mem_eqAt ru fy r fx z (by simpa using hz'),?_⟩;exact⟨.int (j:Nat),H,I.tok _,⟨_,rfl⟩,q⟩
theorem glued_eq (t:Str)(ys:List Str):Builtin.Str.glued t ys=joinS t ys:=by
 have gen:∀ (ys:List Str) (acc:Array Nat),(ys.foldl (fun acc p=>acc++t.cps++p.cps) acc).toList=acc.toList++(ys.map fun p=>t.cps.toList++p.cps.toList).flatten:=by
  intro ys;induction ys with
  | nil=>intro acc;simp
  | cons y r ih =>
   intro acc;rw[vI,ih];simp
 have gl:∀ (y:Str) (r:List Str),glue t.cps.toList ((y::r).map (·.cps.toList))=y.cps.toList++(r.map fun p=>t.cps.toList++p.cps.toList).flatten:=by
  intro y r;induction r generalizing y with
  | nil=>simp[glue]
  | cons z r ih =>
   show y.cps.toList++t.cps.toList++glue t.cps.toList ((z::r).map (·.cps.toList))=_;rw[ih];simp
 unfold Builtin.Str.glued joinS;congr 1;apply xM.mp;cases ys with
 | nil=>rfl
 | cons y r =>
  rw[gl];simp only[List.drop_succ_cons,yR,List.headD_cons];rw[gen]
noncomputable def rJoin (K:PySem.W.Frag):V->List V->Hp->VK->Prop:=fun x vs H Q=>∃ t l ys,x=.str t/\vs=[.ref l]/\SqL K H l (ys.map V.str)/\(ys.map (·.length)).sum + ys.length * t.length<=16777216/\Q (.str (joinS t ys)) H
theorem strs_are:∀ {ys:List Str} {us:List Value},Vals (ys.map V.str) us->StrsAre us ys
 | [],_,.nil=>.nil
 | y::ys,_,.cons ⟨t,e⟩ r=>by subst e;exact .cons y t (strs_are r)
theorem mt_join:MtR X "str.join" (rJoin X.K):=by
 intro pins s σ H x vs v us Q I rx rv h;obtain⟨t,l,ys,rfl,rfl,hs,hz,q⟩:=h;obtain⟨tk,rfl⟩:=rx;obtain⟨u,rfl,ru⟩:=rv.one;cases ru;obtain⟨its,r,p,_⟩:=I.list hs;refine PyProof.Rows.join_list p.isList (strs_are (by simpa using r)) hz fun t' k=>?_;have e:PySem.Txt.join t ys=joinS t ys:=glued_eq t ys;rw[e];exact⟨.str _,H,I.tok _,⟨t',rfl⟩,q⟩
end
end L3
namespace L3
open PySem PySem.Spec PyProof.Rows L2
theorem cutV_eq (xs:List V)(lo hi:Option Int):cutV xs lo hi=cutD xs lo hi:=rfl
theorem reps_cut {K:PySem.W.Frag}{ι:List Addr}{H:Hp}{ds:List D}{vs:List V}(r:Reps K ι H ds vs)(lo hi:Option Int):Reps K ι H (cutD ds lo hi) (cutD vs lo hi):=by
 unfold cutD;rw[<- r.length];exact(r.drop _).take _
theorem cut_whole {α:Type}{xs:List α}{lo hi:Option Int}(h:(cutD xs lo hi).length=xs.length):cutD xs lo hi=xs:=by
 unfold cutD at h ⊢;rw[za,zM]at h;have h1:cutIx xs.length 0 lo=0\/xs.length=0:=by first | lia | omega
 rcases h1 with h1 | h1
 ·rw[h1]at h ⊢
  rw[yR,yu (by first | lia | omega)]
 ·have e:xs=[]:=List.length_eq_zero_iff.mp h1
  subst e;simp
section
variable {X:Cx}
theorem slice_txt (x:Str)(lo hi:Option Int):Txt.slice x lo hi=⟨(cutD x.cps.toList lo hi).toArray⟩:=by
 have ext:∀ (a b:Str),a.cps.toList=b.cps.toList->a=b:=fun a b h=>by
  cases a;cases b;simp only at h;congr 1;exact xM.mp h
 have lenx:x.length=x.cps.toList.length:=by simp[Str.length]
 have key:∀ (i j n:Nat),i<=n->j<=n->Builtin.Str.strSliceIndices lo hi 1 n=sliceRange (i:Int) (j:Int) 1->((Builtin.Str.strSliceIndices lo hi 1 n).filterMap (x.cps[·]?))=((x.cps.toList.drop i).take (j - i))\/n≠x.length:=by
  intro i j n hi' hj e;by_cases hn:n=x.length
  ·left
   rw[e];unfold sliceRange;simp only[show (1:Int) > 0 by decide,if_true];have hc:(if (i:Int) < (j:Int) then ((j:Int) - (i:Int) + 1 - 1) / 1 else 0).toNat=j - i:=by split <;> omega
   rw[hc,wz];have hf:((fun k=>x.cps[k]?) ∘ fun (k:Nat)=>((i:Int) + 1 * (k:Int)).toNat)=fun k:Nat=>x.cps.toList[i + k]?:=by
    funext k;simp only[Function.comp]
    have:((i:Int) + 1 * (k:Int)).toNat=i + k:=by first | lia | omega
    rw[this];simp
   rw[hf];have hlen:j<=x.cps.toList.length:=by rw[<- lenx,<- hn];exact hj
   clear e hc hf;have gen:∀ (m:Nat) (l:List Nat),m<=l.length->(List.range m).filterMap (fun k=>l[k]?)=l.take m:=by
    intro m;induction m with
    | zero=>intro l _;rfl
    | succ m ih =>
     intro l hl;cases l with
     | nil=>simp at hl
     | cons a r =>
      rw[wG,yM];simp only[List.getElem?_cons_zero,List.take_succ_cons,wz];congr 1;rw[<- ih r (by simpa using hl)];rfl
   have hdrop:∀ k:Nat,x.cps.toList[i + k]?=(x.cps.toList.drop i)[k]?:=fun k=>by rw[xb]
   simp only[hdrop];exact gen (j - i) (x.cps.toList.drop i) (by rw[zM];omega)
  ·exact .inr hn
 have hbnd:∀ (o:Option Int) (d n:Nat),d<=n->cutIx n d o<=n:=fun o d n hd=>by
  cases o with
  | none=>exact hd
  | some v=>simp only[cutIx];split <;> omega
 have hidx:Builtin.Str.strSliceIndices lo hi 1 x.length=sliceRange ((cutIx x.length 0 lo:Nat):Int) ((cutIx x.length x.length hi:Nat):Int) 1:=by
  unfold Builtin.Str.strSliceIndices;have c:∀ (o:Option Int) (d:Nat),(match o with
    | none=>(d:Int)
    | some i=>max 0 (min (if i < 0 then i + (x.length:Int) else i) (x.length:Int)))=((cutIx x.length d o:Nat):Int):=fun o d=>by
   cases o with
   | none=>rfl
   | some v=>simp only[cutIx];split <;> omega
  have c1:=c lo 0;have c2:=c hi x.length;simp only[show (1:Int) > 0 by decide,if_true]at c1 c2 ⊢;rw[<- c1,<- c2];cases lo <;> cases hi <;> rfl
 have hk:=key _ _ _ (hbnd lo 0 x.length (zV _)) (hbnd hi x.length x.length (zp _)) hidx;rcases hk with hk | hk
 ·have hcut:((Builtin.Str.strSliceIndices lo hi 1 x.length).filterMap (x.cps[·]?))=cutD x.cps.toList lo hi:=by
   rw[hk];unfold cutD;rw[<- lenx]
  have hlen:(Builtin.Str.strSliceIndices lo hi 1 x.length).length=(cutD x.cps.toList lo hi).length:=by
   rw[hidx];unfold sliceRange cutD;rw[<- lenx,za,zM,<- lenx];simp only[show (1:Int) > 0 by decide,if_true,zw,zI];have b1:=hbnd lo 0 x.length (zV _);have b2:=hbnd hi x.length x.length (zp _);split <;> omega
  unfold Txt.slice;split
  ·rename_i hw
   apply ext;show x.cps.toList=cutD x.cps.toList lo hi;symm;apply cut_whole;rw[<- hlen];simp at hw;rw[hw,lenx]
  ·rw[hcut]
 ·exact absurd rfl hk
theorem sl_str:SlR X (fun x lo hi H Q=>∃ y,x=.str y/\y.length<=zn/\Q (.str ⟨(cutD y.cps.toList lo hi).toArray⟩) H):=by
 intro pins s σ H x v vl vu lo hi sl Q I rx hs pl pu h;obtain⟨y,rfl,hy,q⟩:=h;obtain⟨t,rfl⟩:=rx;refine⟨"str",_,PySem.F.slot_str_getitem.lookup,typeIs_str _ _ _,?_⟩;have part:∀ {u:Value} {o:Option Int},IsPart u o->∃ p:Option (Int×Tok),partValue p=u/\p.map (·.1)=o:=fun {u o} z=>by
  cases z
  ·exact⟨none,rfl,rfl⟩
  ·exact⟨some (_,_),rfl,rfl⟩
 obtain⟨l,e1,e2⟩:=part pl;obtain⟨r,e3,e4⟩:=part pu;have hs':s.heap.IsSlice sl l r none:=by
  obtain⟨o,h1,h2,h3⟩:=hs;exact⟨o,h1,h2,by rw[h3,<- e1,<- e3];rfl⟩
 refine wpAny_getItem_str_slice hs' rfl ?_;have e:(if (((none:Option (Int×Tok)).map (·.1)).getD 1==1&&(slicePicked y l r none).length==y.length)=true then y else ⟨((slicePicked y l r none).filterMap (y.cps[·]?)).toArray⟩)=Txt.slice y lo hi:=by
  unfold slicePicked Txt.slice;rw[e2,e4];rfl
 refine post_val_or_str ?_;rw[e];refine⟨zS (Txt.slice_le y _ _) hy,fun t' k=>?_⟩;rw[slice_txt];exact⟨.str _,H,I.tok _,⟨t',rfl⟩,q⟩
noncomputable def RSl (K:PySem.W.Frag):V->Option Int->Option Int->Hp->VK->Prop:=fun x lo hi H Q=>∃ ι M M' dx d,Sim K ι M H/\Rep K ι H dx x/\sliceD dx lo hi M=some (.ok d,M') /\
 ∀ v H' ι',Rep K ι' H' d v->Sim K ι' M' H'->Ext K ι H ι' H'->Q v H'
theorem sl_all:SlR X (RSl X.K):=by
 intro pins s σ H x v vl vu lo hi sl Q I rx hs pl pu h;obtain⟨ι,M,M',dx,d,S,r,e,k⟩:=h;cases r with
 | str y =>
  have e0:=bind_ok e;clear e;obtain⟨_,_,e1,e⟩:=e0;have e10:=need_ok e1;clear e1;obtain⟨hn,rfl⟩:=e10;have e0:=pure_ok e;clear e;obtain⟨rfl,rfl⟩:=e0;exact sl_str pins s σ H _ v vl vu lo hi sl Q I rx hs pl pu ⟨y,rfl,hn,k _ H ι (.str _) S Ext.refl⟩
 | ob t =>
  have e0:=bind_ok e;clear e;obtain⟨ds,_,e1,e⟩:=e0;have e10:=getL_ok e1;clear e1;obtain⟨g,rfl⟩:=e10;obtain⟨a,vs,h1,_,h3,h4⟩:=sim_list S (.ob t) g;cases h1;exact sl_list pins s σ H _ v vl vu lo hi sl Q I rx hs pl pu ⟨_,vs,rfl,SqL.of h3,new_list S (reps_cut h4 lo hi) e k⟩
 | fl t q=>exact sl_list pins s σ H _ v vl vu lo hi sl Q I rx hs pl pu ⟨_,_,rfl,t.seq,new_list S (reps_cut q lo hi) e k⟩
 | tup t q =>
  have e0:=pure_ok e;clear e;obtain⟨rfl,rfl⟩:=e0;rename_i a vs ds;by_cases hn:cutIx ds.length 0 lo=0/\cutIx ds.length ds.length hi=ds.length
  ·cases rx
   obtain⟨its,r,ht,hz⟩:=I.tuple (sqt t);have hlen:its.toArray.size=ds.length:=by rw[zm,<- r.length,q.length]
   refine⟨"tuple",_,PyProof.Rows.slot_tuple_getitem.lookup,ht.typeIs,getItem_tuple_whole ht hs pl pu (by rw[hlen];exact hn) ⟨.ref a,H,I,rfl,?_⟩⟩;have e:cutD ds lo hi=ds:=cut_whole (by
    unfold cutD;rw[hn.1,hn.2,yR,vg,zR])
   rw[e]at k;exact k _ H ι (.tup t q) S Ext.refl
  ·exact sl_tup pins s σ H _ v vl vu lo hi sl Q I rx hs pl pu ⟨_,_,rfl,sqt t,by rw[<- q.length];exact hn,new_tup S (reps_cut q lo hi) k⟩
 | _=>exact(stop_ok e).elim
theorem tru_all:TruR X (fun x H Q=>∃ ι M M' d b,Sim X.K ι M H/\Rep X.K ι H d x/\truD d M=some (.ok b,M')/\(M'=M->Q b H)):=by
 intro pins s σ H x v Q I rx h;obtain⟨ι,M,M',d,b,S,r,e,k⟩:=h;refine tru_ok pins s σ H x v Q I rx ?_;cases r with
 | non=>have e0:=pure_ok e;clear e;obtain⟨rfl,rfl⟩:=e0;exact⟨_,rfl,k rfl⟩
 | bl c=>have e0:=pure_ok e;clear e;obtain⟨rfl,rfl⟩:=e0;exact⟨_,rfl,k rfl⟩
 | int i=>have e0:=pure_ok e;clear e;obtain⟨rfl,rfl⟩:=e0;exact⟨_,rfl,k rfl⟩
 | str y =>
  have e0:=bind_ok e;clear e;obtain⟨_,_,e1,e⟩:=e0;have e10:=need_ok e1;clear e1;obtain⟨hn,rfl⟩:=e10;have e0:=pure_ok e;clear e;obtain⟨rfl,rfl⟩:=e0;exact⟨_,⟨hn,rfl⟩,k rfl⟩
 | tup t q =>
  have e0:=pure_ok e;clear e;obtain⟨rfl,rfl⟩:=e0;refine⟨_,.inr (.inl ⟨_,sqt t,rfl⟩),?_⟩;cases q <;> exact k rfl
 | fl t q =>
  have e0:=pure_ok e;clear e;obtain⟨rfl,rfl⟩:=e0;refine⟨_,.inl ⟨_,t.seq,rfl⟩,?_⟩;cases q <;> exact k rfl
 | ob t =>
  have e0:=bind_ok e;clear e;obtain⟨o,_,e1,e⟩:=e0;have e10:=getM_ok e1;clear e1;obtain⟨g,rfl⟩:=e10;cases o with
  | lst ds =>
   have e0:=pure_ok e;clear e;obtain⟨rfl,rfl⟩:=e0;obtain⟨a,vs,h1,_,h3,h4⟩:=sim_list S (.ob t) g;cases h1;refine⟨_,.inl ⟨_,SqL.of h3,rfl⟩,?_⟩;cases h4 <;> exact k rfl
  | dic kvs =>
   have e0:=pure_ok e;clear e;obtain⟨rfl,rfl⟩:=e0;obtain⟨a,vs,h1,_,h3,h4⟩:=sim_dict S (.ob t) g;cases h1;refine⟨_,.inr (.inr ⟨_,h3,rfl⟩),?_⟩;cases h4 <;> exact k rfl
noncomputable def RLS (K:PySem.W.Frag)(g:List D->Mo D):List V->Hp->VK->Prop:=fun xs H Q=>∃ ι M M' ds d,Sim K ι M H/\Reps K ι H ds xs/\g ds M=some (.ok d,M') /\
 ∀ v H' ι',Rep K ι' H' d v->Sim K ι' M' H'->Ext K ι H ι' H'->Q v H'
theorem bools_of {K:PySem.W.Frag}{ι:List Addr}{H:Hp}:∀ {ds:List D} {vs:List V} {bs:List Bool},Reps K ι H ds vs->ds.mapM boolD=some bs->vs=bs.map V.bl
 | _,_,_,.nil,h=>by simp at h;subst h;rfl
 | _,_,_,.cons (d:=d) r t,h=>by
  rw[wy]at h;simp only[wX,wB,vJ,Option.some.injEq]at h;obtain⟨b,hb,bs',hbs,rfl⟩:=h;rw[bools_of t hbs];cases r <;> simp[boolD]at hb;subst hb;rfl
theorem all_range (bs:List Bool):((List.range bs.length).all fun i=>bs.getD i false)=bs.all id:=by
 rw[xc];simp only[yf,yG];constructor
 ·intro h b hb
  obtain⟨i,hi,rfl⟩:=wY hb
  have:=h i hi
  rw[zC,zt hi]at this;exact this
 ·intro h i hi
  rw[zC,zt hi];exact h _ (yx hi)
theorem any_range (bs:List Bool):((List.range bs.length).any fun i=>bs.getD i false)=bs.any id:=by
 rw[xc];simp only[wA,yG];constructor
 ·rintro ⟨i,hi,h⟩
  rw[zC,zt hi]at h;exact⟨_,yx hi,h⟩
 ·rintro ⟨b,hb,h⟩
  obtain⟨i,hi,rfl⟩:=wY hb;refine⟨i,hi,?_⟩;rw[zC,zt hi];exact h
theorem bools_walk (hc:X.calm=true){pins:List (Addr×Obj)}{s:Shared}{σ:St}{H:Hp}{a:Addr}{bs:List Bool}{Q:Value->Shared->Prop}(f:Nat->(Nat->Bool)->Bool)(I:Inv X pins σ H s)(h:H a=some (.lst (bs.map V.bl)))
  (q:∀ s',Inv X pins σ H s'->Q (.bool (f bs.length fun i=>bs.getD i false)) s') :
  wpAny (model X.prog X.w) X.A.in1 (pyIter (.ref a)) (fun it s₂=>∃ I fp wr n P St tr,it=.ref I/\Walks X.prog X.w X.A.in1 I fp wr n P St/\St 0 s₂.heap/\TruthOf X.prog X.w X.A.in1 P tr /\
   ∀ h' tk,(∀ b o,b ∉ wr->s₂.heap.get? b=some o->h'.get? b=some o)->Q (.bool (f n tr)) { s₂ with heap:=h',toks:=tk }) X.xe s:=by
 obtain⟨its,rv,p,hz⟩:=I.list (SqL.of h);have hlt:a < s.heap.objs.size:=by obtain⟨_,_,e,_⟩:=p;exact zi e
 have hlen:its.toArray.size=bs.length:=by have:=rv.length;simp at this ⊢;omega
 refine wpAny_pyIter_list p.isList ?_;have hh:X.A.in1.handled=none:=I.ok.hd hc;refine⟨s.heap.objs.size,_,_,_,_,_,fun i=>bs.getD i false,rfl,Walks.list hh s.heap.objs.size a (zB hlt) its.toArray,⟨⟨_,zj _ rfl,rfl,rfl⟩,p.isList.push _⟩,?_,fun h' tk kk=>?_⟩
 ·intro i v s' Q' E' hv hq
  have hv':its[i]?=some v:=by simpa using hv
  have hi:i < bs.length:=by
   have:=(zr.mp hv').1
   rw[<- hlen];simpa using this
  have hb:(bs.map V.bl)[i]?=some (V.bl bs[i]):=by rw[zh,zt hi];rfl
  obtain⟨u,hu,ru⟩:=rv.get hb;rw[hv']at hu;cases hu;cases ru;refine wpAny_truthy_bool ?_;have hq':Q' (bs.getD i false) s':=hq;rw[zC,zt hi]at hq';exact hq'
 ·rw[hlen]
  have I1:Inv X pins σ H { s with heap:=s.heap.push { cls:=.type "list_iterator",data:=.fields #[.ref a,.int 0 0] } }:=I.kept (t':=s.toks) fun b o e=>zv _ e;refine q _ (I1.turned (it:=s.heap.objs.size) (fun b o hb e=>kk b o (by simpa using hb) e) (I.hok.fresh (zp _)) (yN I.lt) (.inr I.sz) (fun y c e z=>?_) fun p hp z=>?_)
  ·obtain⟨v,o,ho,_⟩:=I.cell y c e
   exact absurd (zi ho) (by rw[z];exact yc _)
  ·exact absurd (zi (I.pin p hp).1) (by rw[z];exact yc _)
theorem intsA {K:PySem.W.Frag}{ι:List Addr}{H:Hp}:∀ {xs:List Int} {vs:List V} {us:List Value},Reps K ι H (xs.map .int) vs->Vals vs us->IntsAre us xs
 | [],_,_,.nil,.nil=>.nil
 | x::xs,_,_,.cons r t,.cons g k=>by
  cases r;obtain⟨t',rfl⟩:=g;exact .cons x t' (intsA t k)
noncomputable def blName:Bl->String
 | .len=>"len" | .tuple=>"tuple" | .list=>"list" | .repr=>"repr" | .all=>"all" | .any=>"any" | .min2=>"min" | .max2=>"max" | .abs=>"abs" | .dict1=>"dict" | .minL=>"min"
noncomputable def blTy:Bl->Bool
 | .tuple=>true | .list=>true | .dict1=>true | _=>false
noncomputable def blVal (b:Bl):Value:=if blTy b then .type (blName b) else .builtin (blName b)
theorem call_bl (hc:X.calm=true)(hu:X.A.units + 100 < cLine)(b:Bl):CallR X (blVal b) (RLS X.K (blD b)):=by
 intro pins s σ H xs us Q I rv h;obtain⟨ι,M,M',ds,d,S,r,e,k⟩:=h;have fin:∀ {w':V},M'=M->Rep X.K ι H d w'->Q w' H:=fun {w'} z r=>by subst z;exact k w' H ι r S Ext.refl
 cases b
 ·rcases ds with _ | ⟨x,t⟩
  ·exact(stop_ok e).elim
  cases x <;> first | exact(stop_ok e).elim | (cases t <;> first | exact(stop_ok e).elim | skip)
  ·delta blD at e
   dsimp only at e;have e0:=bind_ok e;clear e;obtain⟨_,_,e1,e⟩:=e0;have e10:=need_ok e1;clear e1;obtain⟨hn,rfl⟩:=e10;have e0:=pure_ok e;clear e;obtain⟨rfl,rfl⟩:=e0;cases r with | cons r1 r2=>cases r2;cases r1;exact call_len_str pins s σ H _ us Q I rv ⟨_,rfl,hn,fin rfl (.int _)⟩
  ·delta blD at e
   dsimp only at e;have e0:=pure_ok e;clear e;obtain⟨rfl,rfl⟩:=e0;cases r with | cons r1 r2 =>
   cases r2;cases r1 with | tup t q=>exact call_len_seq pins s σ H _ us Q I rv ⟨_,_,rfl,.inr (sqt t),by rw[<- q.length];exact fin rfl (.int _)⟩
  ·delta blD at e
   dsimp only at e;have e0:=pure_ok e;clear e;obtain⟨rfl,rfl⟩:=e0;cases r with | cons r1 r2 =>
   cases r2;cases r1 with | fl t q=>exact call_len_seq pins s σ H _ us Q I rv ⟨_,_,rfl,.inl t.seq,by rw[<- q.length];exact fin rfl (.int _)⟩
  ·delta blD at e
   dsimp only at e;have e0:=bind_ok e;clear e;obtain⟨o,_,e1,e⟩:=e0;have e10:=getM_ok e1;clear e1;obtain⟨g,rfl⟩:=e10;cases r with | cons r1 r2 =>
   cases r2;cases o with
   | lst ds =>
    have e0:=pure_ok e;clear e;obtain⟨rfl,rfl⟩:=e0;obtain⟨a,vs,rfl,_,h3,h4⟩:=sim_list S r1 g;exact call_len_seq pins s σ H _ us Q I rv ⟨a,vs,rfl,.inl (SqL.of h3),by rw[<- h4.length];exact fin rfl (.int _)⟩
   | dic kvs =>
    have e0:=pure_ok e;clear e;obtain⟨rfl,rfl⟩:=e0;obtain⟨a,ws,rfl,_,h3,h4⟩:=sim_dict S r1 g;obtain⟨u,rfl,ru⟩:=vals1 rv;cases ru;exact d_len I (.inl h3) fun t s' I'=>⟨.int ws.length,H,I',⟨t,rfl⟩,by rw[<- h4.len];exact fin rfl (.int _)⟩
 ·rcases ds with _ | ⟨x,t⟩
  ·exact(stop_ok e).elim
  cases x <;> first | exact(stop_ok e).elim | (cases t <;> first | exact(stop_ok e).elim | skip)
  ·delta blD at e
   dsimp only at e;have e0:=pure_ok e;clear e;obtain⟨rfl,rfl⟩:=e0;cases r with | cons r1 r2 =>
   cases r2;cases r1 with | tup t q=>exact call_tuple_of pins s σ H _ us Q I rv ⟨_,_,rfl,.inr ⟨sqt t,fin rfl (.tup t q)⟩⟩
  ·delta blD at e
   dsimp only at e;have e0:=pure_ok e;clear e;obtain⟨rfl,rfl⟩:=e0;cases r with | cons r1 r2 =>
   cases r2;cases r1 with | fl t q=>exact call_tuple_of pins s σ H _ us Q I rv ⟨_,_,rfl,.inl ⟨t.seq,new_tup S q k⟩⟩
  ·delta blD at e
   dsimp only at e;have e0:=bind_ok e;clear e;obtain⟨ds,_,e1,e⟩:=e0;have e10:=getL_ok e1;clear e1;obtain⟨g,rfl⟩:=e10;have e0:=pure_ok e;clear e;obtain⟨rfl,rfl⟩:=e0;cases r with | cons r1 r2 =>
   cases r2;obtain⟨a,vs,rfl,_,h3,h4⟩:=sim_list S r1 g;exact call_tuple_of pins s σ H _ us Q I rv ⟨_,_,rfl,.inl ⟨SqL.of h3,new_tup S h4 k⟩⟩
 ·rcases ds with _ | ⟨x,t⟩
  ·exact(stop_ok e).elim
  cases t <;> first | exact(stop_ok e).elim | skip
  ·delta blD at e
   dsimp only at e;have e0:=bind_ok e;clear e;obtain⟨ds,M1,e1,e⟩:=e0;cases r with | cons r1 r2 =>
   cases r2;obtain⟨rfl,a,vs,rfl,hs,hr⟩:=seq_of S r1 e1;exact call_list_of pins s σ H _ us Q I rv ⟨a,vs,rfl,hs,new_list S hr e k⟩
 ·exact(stop_ok e).elim
 ·rcases ds with _ | ⟨x,t⟩
  ·exact(stop_ok e).elim
  cases x <;> first | exact(stop_ok e).elim | (cases t <;> first | exact(stop_ok e).elim | skip)
  ·delta blD at e
   dsimp only at e;have e0:=bind_ok e;clear e;obtain⟨ds,_,e1,e⟩:=e0;have e10:=getL_ok e1;clear e1;obtain⟨g,rfl⟩:=e10;have e0:=bind_ok e;clear e;obtain⟨bs,_,e1,e⟩:=e0;have e10:=lift_ok e1;clear e1;obtain⟨hb,rfl⟩:=e10;have e0:=pure_ok e;clear e;obtain⟨rfl,rfl⟩:=e0;cases r with | cons r1 r2 =>
   cases r2;obtain⟨a,vs,rfl,_,h3,h4⟩:=sim_list S r1 g;obtain⟨u,rfl,ru⟩:=vals1 rv;cases ru;rw[bools_of h4 hb]at h3;exact call_all_walk (bools_walk hc (fun n tr=>(List.range n).all tr) I h3 fun s' I'=>⟨.bl (bs.all id),H,I',by rw[all_range];rfl,fin rfl (.bl _)⟩)
 ·rcases ds with _ | ⟨x,t⟩
  ·exact(stop_ok e).elim
  cases x <;> first | exact(stop_ok e).elim | (cases t <;> first | exact(stop_ok e).elim | skip)
  ·delta blD at e
   dsimp only at e;have e0:=bind_ok e;clear e;obtain⟨ds,_,e1,e⟩:=e0;have e10:=getL_ok e1;clear e1;obtain⟨g,rfl⟩:=e10;have e0:=bind_ok e;clear e;obtain⟨bs,_,e1,e⟩:=e0;have e10:=lift_ok e1;clear e1;obtain⟨hb,rfl⟩:=e10;have e0:=pure_ok e;clear e;obtain⟨rfl,rfl⟩:=e0;cases r with | cons r1 r2 =>
   cases r2;obtain⟨a,vs,rfl,_,h3,h4⟩:=sim_list S r1 g;obtain⟨u,rfl,ru⟩:=vals1 rv;cases ru;rw[bools_of h4 hb]at h3;exact call_any_walk (bools_walk hc (fun n tr=>(List.range n).any tr) I h3 fun s' I'=>⟨.bl (bs.any id),H,I',by rw[any_range];rfl,fin rfl (.bl _)⟩)
 ·exact(stop_ok e).elim
 ·rcases ds with _ | ⟨x,t⟩
  ·exact(stop_ok e).elim
  rcases t with _ | ⟨y,t⟩
  ·cases x <;> exact(stop_ok e).elim
  cases x <;> first | exact(stop_ok e).elim | (cases y <;> first | exact(stop_ok e).elim | (cases t <;> first | exact(stop_ok e).elim | skip))
  ·delta blD at e
   dsimp only at e;have e0:=pure_ok e;clear e;obtain⟨rfl,rfl⟩:=e0;cases r with | cons r1 r2 =>
   cases r2 with | cons r2 r3 =>
   cases r3;cases r1;cases r2;exact call_max2 hc pins s σ H _ us Q I rv ⟨_,_,rfl,fin rfl (.int _)⟩
 ·exact(stop_ok e).elim
 ·exact(stop_ok e).elim
 ·exact(stop_ok e).elim
end
end L3
namespace L3
open PySem PySem.Spec PyProof.Rows L2
section
variable {X:Cx}
noncomputable def mtId (m:Mt)(x:D):String:=match m,x with
 | .append,_=>"list.append"
 | .insert,_=>"list.insert"
 | .extend,_=>"list.extend"
 | .index,.tup _=>"tuple.index"
 | .index,_=>"list.index"
 | .join,_=>"str.join"
 | .get,_=>"dict.get"
noncomputable def mtName:Mt->Str
 | .append=>"append" | .insert=>"insert" | .join=>"join" | .get=>"get"
 | .index=>"index"
 | .extend=>"extend"
theorem mt_name {m:Str}{n:Nat}{k:Mt}(h:mtOf m n=some k):m=mtName k:=by
 unfold mtOf at h;have key:∀ (y:String) (k:Nat),(m==(Str.ofString y)&&n==k)=true->m=Str.ofString y:=fun y k e=>by
  simp only[zk,beq_iff_eq]at e;exact e.1
 split at h
 ·rename_i e;cases h;exact key _ _ e
 split at h
 ·rename_i e;cases h;exact key _ _ e
 split at h
 ·rename_i e;cases h;exact key _ _ e
 split at h
 ·rename_i e;cases h;exact key _ _ e
 split at h
 ·rename_i e;cases h;exact key _ _ e
 split at h
 ·rename_i e;cases h;exact key _ _ e
 ·cases h
noncomputable def RM (K:PySem.W.Frag)(m:Mt)(id:String):V->List V->Hp->VK->Prop:=fun x xs H Q=>∃ ι M M' dx ds d,Sim K ι M H/\Rep K ι H dx x/\Reps K ι H ds xs/\mtId m dx=id/\mtD m dx ds M=some (.ok d,M') /\
 ∀ v H' ι',Rep K ι' H' d v->Sim K ι' M' H'->Ext K ι H ι' H'->Q v H'
theorem find_rep {K:PySem.W.Frag}{ι:List Addr}{H:Hp}{e:D}{u:V}(q:Rep K ι H e u)(h':flatD e=true):∀ {ds:List D} {vs:List V} {j:Nat},Reps K ι H ds vs->ds.all flatD=true->ds.findIdx? (fun d=>eqF d e)=some j->vs.findIdx? (fun v=>eqV v u)=some j
 | _,_,_,.nil,_,h=>by simp at h
 | d::ds,v::vs,j,.cons r t,h,hf=>by
  rw[yq,zk]at h;rw[xa]at hf ⊢;rw[eq_rep r q h.1 h'];split at hf
  ·rename_i hc;rw[if_pos hc];exact hf
  ·rename_i hc
   rw[if_neg hc];cases e1:ds.findIdx? (fun d=>eqF d e) with
   | none=>rw[e1]at hf;cases hf
   | some i =>
    rw[e1]at hf;rw[find_rep q h' t h.2 e1];exact hf
theorem all_flat {K:PySem.W.Frag}{ι:List Addr}{H:Hp}:∀ {ds:List D} {vs:List V},Reps K ι H ds vs->ds.all flatD=true->vs.all flatV=true
 | _,_,.nil,_=>rfl
 | _,_,.cons r t,h=>by
  rw[yq,zk]at h;rw[yq,flat_rep r h.1,all_flat t h.2];rfl
theorem strs_of_reps {K:PySem.W.Frag}{ι:List Addr}{H:Hp}:∀ {ds:List D} {vs:List V} {ys:List Str},Reps K ι H ds vs->ds.mapM strD=some ys->vs=ys.map V.str
 | _,_,_,.nil,h=>by simp at h;subst h;rfl
 | _,_,_,.cons (d:=d) r t,h=>by
  rw[wy]at h;simp only[wX,wB,vJ,Option.some.injEq]at h;obtain⟨b,hb,bs',hbs,rfl⟩:=h;rw[strs_of_reps t hbs];cases r <;> simp[strD]at hb;subst hb;rfl
theorem mt_all (hu:X.A.units + 100 < cLine)(m:Mt)(id:String):MtR X id (RM X.K m id):=by
 intro pins s σ H x vs v us Q I rx rv h;obtain⟨ι,M,M',dx,ds,d,S,r,rs,rfl,e,k⟩:=h;have fin:∀ {w':V},M'=M->Rep X.K ι H d w'->Q w' H:=fun {w'} z r=>by subst z;exact k w' H ι r S Ext.refl
 cases m
 case append =>
  cases dx <;> first | exact(stop_ok e).elim | (rcases ds with _ | ⟨_,_ | ⟨_,_⟩⟩ <;> first | exact(stop_ok e).elim | skip)
  ·delta mtD at e
   dsimp only at e;rename_i a y;obtain⟨vy,rfl,ry⟩:=reps1 rs;have e0:=bind_ok e;clear e;obtain⟨xs,_,e1,e⟩:=e0;have e10:=getL_ok e1;clear e1;obtain⟨g,rfl⟩:=e10;have e0:=bind_ok e;clear e;obtain⟨_,_,e1,e⟩:=e0;have e10:=need_ok e1;clear e1;obtain⟨hn,rfl⟩:=e10;have e0:=bind_ok e;clear e;obtain⟨u,M2,e1,e⟩:=e0;have e0:=pure_ok e;clear e;obtain⟨rfl,rfl⟩:=e0;obtain⟨p,ws,rfl,hi,h3,h4⟩:=sim_list S r g;obtain⟨S2,X2⟩:=put_list (ds:=xs) S hi h3 (h4.append (.cons ry .nil)) e1;exact mt_append pins s σ H _ _ v us Q I rx rv ⟨p,ws,vy,rfl,rfl,h3,by rw[<- h4.length];exact hn,k .non _ ι .non S2 X2⟩
 case insert =>
  cases dx <;> first | exact(stop_ok e).elim | (rcases ds with _ | ⟨x,_ | ⟨_,_ | ⟨_,_⟩⟩⟩ <;> first | exact(stop_ok e).elim | (cases x <;> first | exact(stop_ok e).elim | skip))
  ·delta mtD at e
   dsimp only at e;rename_i a i y;obtain⟨vi,vy,rfl,ri,ry⟩:=reps2 rs;cases ri;have e0:=bind_ok e;clear e;obtain⟨xs,_,e1,e⟩:=e0;have e10:=getL_ok e1;clear e1;obtain⟨g,rfl⟩:=e10;have e0:=bind_ok e;clear e;obtain⟨_,_,e1,e⟩:=e0;have e10:=need_ok e1;clear e1;obtain⟨hn,rfl⟩:=e10;have e0:=bind_ok e;clear e;obtain⟨u,M2,e1,e⟩:=e0;have e0:=pure_ok e;clear e;obtain⟨rfl,rfl⟩:=e0;obtain⟨p,ws,rfl,hi,h3,h4⟩:=sim_list S r g;obtain⟨S2,X2⟩:=put_list (ds:=xs) S hi h3 (Reps.ins ry _ h4) e1;exact mt_insert pins s σ H _ _ v us Q I rx rv ⟨p,ws,_,vy,rfl,rfl,h3,by rw[<- h4.length];exact hn.1,hn.2,k .non _ ι .non S2 X2⟩
 case index =>
  cases dx <;> first | exact(stop_ok e).elim | (rcases ds with _ | ⟨_,_ | ⟨_,_⟩⟩ <;> first | exact(stop_ok e).elim | skip)
  ·delta mtD at e
   dsimp only at e;obtain⟨vy,rfl,ry⟩:=reps1 rs;have e0:=bind_ok e;clear e;obtain⟨_,_,e1,e⟩:=e0;have e10:=need_ok e1;clear e1;obtain⟨hn,rfl⟩:=e10;have e0:=bind_ok e;clear e;obtain⟨j,_,e1,e⟩:=e0;have e10:=lift_ok e1;clear e1;obtain⟨hj,rfl⟩:=e10;have e0:=pure_ok e;clear e;obtain⟨rfl,rfl⟩:=e0;cases r with
   | tup t q=>exact mt_indexT pins s σ H _ _ v us Q I rx rv ⟨_,_,vy,j,rfl,rfl,sqt t,flat_rep ry hn.1,all_flat q hn.2,find_rep ry hn.1 q hn.2 hj,fin rfl (.int _)⟩
  ·delta mtD at e
   dsimp only at e;obtain⟨vy,rfl,ry⟩:=reps1 rs;have e0:=bind_ok e;clear e;obtain⟨xs,_,e1,e⟩:=e0;have e10:=getL_ok e1;clear e1;obtain⟨g,rfl⟩:=e10;have e0:=bind_ok e;clear e;obtain⟨_,_,e1,e⟩:=e0;have e10:=need_ok e1;clear e1;obtain⟨hn,rfl⟩:=e10;have e0:=bind_ok e;clear e;obtain⟨j,_,e1,e⟩:=e0;have e10:=lift_ok e1;clear e1;obtain⟨hj,rfl⟩:=e10;have e0:=pure_ok e;clear e;obtain⟨rfl,rfl⟩:=e0;obtain⟨p,ws,rfl,hi,h3,h4⟩:=sim_list S r g;exact mt_indexL pins s σ H _ _ v us Q I rx rv ⟨p,ws,vy,j,rfl,rfl,SqL.of h3,flat_rep ry hn.1,all_flat h4 hn.2,find_rep ry hn.1 h4 hn.2 hj,fin rfl (.int _)⟩
 case join =>
  cases dx <;> first | exact(stop_ok e).elim | (rcases ds with _ | ⟨x,_ | ⟨_,_⟩⟩ <;> first | exact(stop_ok e).elim | (cases x <;> first | exact(stop_ok e).elim | skip))
  ·delta mtD at e
   dsimp only at e;obtain⟨vy,rfl,ry⟩:=reps1 rs;have e0:=bind_ok e;clear e;obtain⟨xs,_,e1,e⟩:=e0;have e10:=getL_ok e1;clear e1;obtain⟨g,rfl⟩:=e10;have e0:=bind_ok e;clear e;obtain⟨ys,_,e1,e⟩:=e0;have e10:=lift_ok e1;clear e1;obtain⟨hj,rfl⟩:=e10;have e0:=bind_ok e;clear e;obtain⟨_,_,e1,e⟩:=e0;have e10:=need_ok e1;clear e1;obtain⟨hn,rfl⟩:=e10;have e0:=pure_ok e;clear e;obtain⟨rfl,rfl⟩:=e0;obtain⟨p,ws,rfl,hi,h3,h4⟩:=sim_list S ry g;cases r;have hw:=strs_of_reps h4 hj;subst hw;exact mt_join pins s σ H _ _ v us Q I rx rv ⟨_,p,ys,rfl,rfl,SqL.of h3,hn,fin rfl (.str _)⟩
 case extend =>
  cases dx <;> first | exact(stop_ok e).elim | (rcases ds with _ | ⟨_,_ | ⟨_,_⟩⟩ <;> first | exact(stop_ok e).elim | skip)
  ·delta mtD at e
   dsimp only at e;rename_i kk y;obtain⟨vy,rfl,ry⟩:=reps1 rs;have e0:=bind_ok e;clear e;obtain⟨es,_,e1,e⟩:=e0;have e0:=bind_ok e;clear e;obtain⟨xs,_,e2,e⟩:=e0;have e20:=getL_ok e2;clear e2;obtain⟨g,rfl⟩:=e20;have e0:=bind_ok e;clear e;obtain⟨_,_,e3,e⟩:=e0;have e30:=need_ok e3;clear e3;obtain⟨⟨hn,_⟩,rfl⟩:=e30;have e0:=bind_ok e;clear e;obtain⟨u,M2,e4,e⟩:=e0;have e0:=pure_ok e;clear e;obtain⟨rfl,rfl⟩:=e0;cases ry with
   | tup t q =>
    have e10:=pure_ok e1;clear e1;obtain⟨rfl,rfl⟩:=e10;obtain⟨p,ws,rfl,hi,h3,h4⟩:=sim_list S r g;obtain⟨S2,X2⟩:=put_list (ds:=xs) S hi h3 (h4.append q) e4;exact mt_extendT pins s σ H _ _ v us Q I rx rv ⟨p,_,ws,_,rfl,rfl,h3,sqt t,by rw[<- h4.length,<- q.length];exact hn,k .non _ ι .non S2 X2⟩
   | ob t =>
    have e10:=getL_ok e1;clear e1;obtain⟨g2,rfl⟩:=e10;obtain⟨p,ws,rfl,hi,h3,h4⟩:=sim_list S r g;obtain⟨p2,ws2,e5,hi2,h5,h6⟩:=sim_list S (.ob t) g2;cases e5;obtain⟨S2,X2⟩:=put_list (ds:=xs) S hi h3 (h4.append h6) e4;exact mt_extend pins s σ H _ _ v us Q I rx rv ⟨p,_,ws,ws2,rfl,rfl,h3,h5,by rw[<- h4.length,<- h6.length];exact hn,k .non _ ι .non S2 X2⟩
   | _=>exact(stop_ok e1).elim
 case get=>exact(stop_ok e).elim
theorem LE.mth {m:Mt}{fo:DE}{fa:Ev->Mo (List D)}(σ:St)(H:Hp)(Q:VK)(h:LE X.K (fun ρ=>do let x <- fo ρ;rcvD m x;let xs <- fa ρ;mtD m x xs) σ H Q):tBMx X (mtName m) (RM X.K m) (LE X.K fo) (LA X.K fa) σ H Q:=by
 obtain⟨ι,ρ,M,d,M',S,R,e,k⟩:=h;have e0:=bind_ok e;clear e;obtain⟨x,M1,e1,e⟩:=e0;have e0:=bind_ok e;clear e;obtain⟨u,M2,e2,e⟩:=e0;have e0:=bind_ok e;clear e;obtain⟨xs,M3,e3,e⟩:=e0;refine⟨ι,ρ,M,x,M1,S,R,e1,fun v H1 ι1 r1 S1 X1=>?_⟩;have fact:M2=M1/\∃ T,MFact T (mtName m) (mtId m x)/\RcvIs X T v H1:=by
  unfold rcvD at e2;split at e2
  ·have e0:=bind_ok e2;clear e2;obtain⟨ds,_,e4,e5⟩:=e0
   have e40:=getL_ok e4;clear e4;obtain⟨g,rfl⟩:=e40;obtain⟨p,ws,rfl,hi,h3,h4⟩:=sim_list S1 r1 g;exact⟨(pure_ok e5).2,"list",⟨PySem.F.plainAttrs_list,PySem.F.slot_list_append,PySem.F.type_list_append⟩,rcv_list (SqL.of h3)⟩
  ·have e0:=bind_ok e2;clear e2;obtain⟨ds,_,e4,e5⟩:=e0
   have e40:=getL_ok e4;clear e4;obtain⟨g,rfl⟩:=e40;obtain⟨p,ws,rfl,hi,h3,h4⟩:=sim_list S1 r1 g;exact⟨(pure_ok e5).2,"list",⟨PySem.F.plainAttrs_list,PySem.F.slot_list_insert,PySem.F.type_list_insert⟩,rcv_list (SqL.of h3)⟩
  ·have e0:=bind_ok e2;clear e2;obtain⟨ds,_,e4,e5⟩:=e0
   have e40:=getL_ok e4;clear e4;obtain⟨g,rfl⟩:=e40;obtain⟨p,ws,rfl,hi,h3,h4⟩:=sim_list S1 r1 g;exact⟨(pure_ok e5).2,"list",⟨PySem.F.plainAttrs_list,PySem.F.slot_list_extend,PySem.F.type_list_extend⟩,rcv_list (SqL.of h3)⟩
  ·have e0:=bind_ok e2;clear e2;obtain⟨ds,_,e4,e5⟩:=e0
   have e40:=getL_ok e4;clear e4;obtain⟨g,rfl⟩:=e40;obtain⟨p,ws,rfl,hi,h3,h4⟩:=sim_list S1 r1 g;exact⟨(pure_ok e5).2,"list",⟨PySem.F.plainAttrs_list,PySem.F.slot_list_index,PySem.F.type_list_index⟩,rcv_list (SqL.of h3)⟩
  ·cases r1 with
   | tup t q=>exact⟨(pure_ok e2).2,"tuple",⟨PySem.F.plainAttrs_tuple,PySem.F.slot_tuple_index,PySem.F.type_tuple_index⟩,rcv_tup (sqt t)⟩
  ·cases r1 with
   | str y=>exact⟨(pure_ok e2).2,"str",⟨PySem.F.plainAttrs_str,PySem.F.slot_str_join,PySem.F.type_str_join⟩,rcv_str⟩
  ·have e0:=bind_ok e2;clear e2;obtain⟨ds,_,e4,e5⟩:=e0
   have e40:=getD_ok e4;clear e4;obtain⟨g,rfl⟩:=e40;obtain⟨p,ws,rfl,hi,h3,h4⟩:=sim_dict S1 r1 g;exact⟨(pure_ok e5).2,"dict",⟨PySem.F.plainAttrs_dict,PySem.F.slot_dict_get,PySem.F.type_dict_get⟩,fun pins σ s v I r=>tyV_is I r (.inr (.inr (.inl ⟨rfl,.inl ⟨ws,h3⟩⟩)))⟩
  ·exact(stop_ok e2).elim
 obtain⟨rfl,T,f1,f2⟩:=fact;refine⟨T,mtId m x,f1,f2,?_⟩;refine⟨ι1,ρ,_,xs,M3,S1,R.mono X1,e3,fun vs H2 ι2 r2 S2 X2=>?_⟩;exact⟨ι2,M3,M',x,xs,d,S2,r1.mono X2,r2,rfl,e,fun v' H' ι' r' S' X'=>k v' H' ι' r' S' ((X1.trans X2).trans X')⟩
noncomputable def tyName:Ty->String
 | .int=>"int" | .str=>"str" | .bool=>"bool" | .list=>"list" | .tuple=>"tuple" | .dict=>"dict"
theorem ty_boot {t:Str}{k:Ty}(h:tyOf t=some k):bootBuiltins t=some (.type (tyName k)):=by
 unfold tyOf at h;have key:∀ (y:String),(t==(Str.ofString y))=true->t=Str.ofString y:=fun y e=>by simpa using e
 split at h
 ·rename_i e;cases h;rw[key _ e];decide +kernel
 split at h
 ·rename_i e;cases h;rw[key _ e];decide +kernel
 split at h
 ·rename_i e;cases h;rw[key _ e];decide +kernel
 split at h
 ·rename_i e;cases h;rw[key _ e];decide +kernel
 split at h
 ·rename_i e;cases h;rw[key _ e];decide +kernel
 split at h
 ·rename_i e;cases h;rw[key _ e];decide +kernel
 ·cases h
noncomputable def RIsI (K:PySem.W.Frag)(k:Ty):List V->Hp->VK->Prop:=fun xs H Q=>∃ ι M M' dx x b,xs=[x,.ty (tyName k)]/\Sim K ι M H/\Rep K ι H dx x/\tyD k dx M=some (.ok b,M')/\(M'=M->Q (.bl b) H)
theorem call_isi (k:Ty):CallR X (.builtin "isinstance") (RIsI X.K k):=by
 intro pins s σ H xs us Q I rv h;obtain⟨ι,M,M',dx,x,b,rfl,S,r,e,q⟩:=h;obtain⟨u,w',rfl,ru,rw'⟩:=vals2 rv;cases rw';have yes:∀ {c:Bool},Q (.bl c) H->EP X pins σ Q (.bool c) s:=fun h=>⟨.bl _,H,I,rfl,h⟩;have no:∀ {c:Bool},Q (.bl c) H->EP X pins σ Q (.bool c) { s with toks:=s.toks + 1 }:=fun h=>⟨.bl _,H,I.tok _,rfl,h⟩;have lst:∀ {a:Addr} {vs:List V},SqL X.K H a vs->Q (.bl (k==.list)) H->wpAny (model X.prog X.w) X.A (call (.builtin "isinstance") [.ref a,.type (tyName k)]) (EP X pins σ Q) X.xe s:=fun {a vs} hs q=>by
  obtain⟨its,_,⟨o,n,ho,hc,_⟩,_⟩:=I.list hs;cases k
  ·exact IsiPair.list_int ho hc (no q)
  ·exact IsiPair.list_str ho hc (no q)
  ·exact IsiPair.list_bool ho hc (no q)
  ·exact IsiPair.list_list ho hc (yes q)
  ·exact IsiPair.list_tuple ho hc (no q)
  ·exact IsiPair.list_dict ho hc (no q)
 cases r with
 | non =>
  cases ru;have e0:=pure_ok e;clear e;obtain⟨rfl,rfl⟩:=e0;have q:=q rfl;cases k
  ·exact IsiPair.NoneType_int (no q)
  ·exact IsiPair.NoneType_str (no q)
  ·exact IsiPair.NoneType_bool (no q)
  ·exact IsiPair.NoneType_list (no q)
  ·exact IsiPair.NoneType_tuple (no q)
  ·exact IsiPair.NoneType_dict (no q)
 | bl c =>
  cases ru;have e0:=pure_ok e;clear e;obtain⟨rfl,rfl⟩:=e0;have q:=q rfl;cases k
  ·exact IsiPair.bool_int (yes q)
  ·exact IsiPair.bool_str (no q)
  ·exact IsiPair.bool_bool (yes q)
  ·exact IsiPair.bool_list (no q)
  ·exact IsiPair.bool_tuple (no q)
  ·exact IsiPair.bool_dict (no q)
 | int c =>
  obtain⟨t,rfl⟩:=ru;have e0:=pure_ok e;clear e;obtain⟨rfl,rfl⟩:=e0;have q:=q rfl;cases k
  ·exact IsiPair.int_int (yes q)
  ·exact IsiPair.int_str (no q)
  ·exact IsiPair.int_bool (no q)
  ·exact IsiPair.int_list (no q)
  ·exact IsiPair.int_tuple (no q)
  ·exact IsiPair.int_dict (no q)
 | str c =>
  obtain⟨t,rfl⟩:=ru;have e0:=pure_ok e;clear e;obtain⟨rfl,rfl⟩:=e0;have q:=q rfl;cases k
  ·exact IsiPair.str_int (no q)
  ·exact IsiPair.str_str (yes q)
  ·exact IsiPair.str_bool (no q)
  ·exact IsiPair.str_list (no q)
  ·exact IsiPair.str_tuple (no q)
  ·exact IsiPair.str_dict (no q)
 | tup t qq =>
  cases ru;have e0:=pure_ok e;clear e;obtain⟨rfl,rfl⟩:=e0;have q:=q rfl;obtain⟨its,_,⟨o,ho,hc,_⟩,_⟩:=I.tuple (sqt t);cases k
  ·exact IsiPair.tuple_int ho hc (no q)
  ·exact IsiPair.tuple_str ho hc (no q)
  ·exact IsiPair.tuple_bool ho hc (no q)
  ·exact IsiPair.tuple_list ho hc (no q)
  ·exact IsiPair.tuple_tuple ho hc (yes q)
  ·exact IsiPair.tuple_dict ho hc (no q)
 | fl t qq =>
  cases ru;have e0:=pure_ok e;clear e;obtain⟨rfl,rfl⟩:=e0;exact lst t.seq (q rfl)
 | ob t =>
  cases ru;have e0:=bind_ok e;clear e;obtain⟨o,_,e1,e⟩:=e0;have e10:=getM_ok e1;clear e1;obtain⟨g,rfl⟩:=e10;cases o with
  | lst ds =>
   have e0:=pure_ok e;clear e;obtain⟨rfl,rfl⟩:=e0;obtain⟨p,ws,e1,hi,h3,h4⟩:=sim_list S (.ob t) g;cases e1;exact lst (SqL.of h3) (q rfl)
  | dic kvs =>
   have e0:=pure_ok e;clear e;obtain⟨rfl,rfl⟩:=e0;obtain⟨p,ws,e1,hi,h3,h4⟩:=sim_dict S (.ob t) g;cases e1;have q:=q rfl;obtain⟨z,hd,rs,rel,o,es,ep,ho,⟨hc,_⟩,_⟩:=dk_rd I.hok (.inl h3);cases k
   ·exact IsiPair.dict_int ho hc (no q)
   ·exact IsiPair.dict_str ho hc (no q)
   ·exact IsiPair.dict_bool ho hc (no q)
   ·exact IsiPair.dict_list ho hc (no q)
   ·exact IsiPair.dict_tuple ho hc (no q)
   ·exact IsiPair.dict_dict ho hc (yes q)
theorem LE.isI {k:Ty}{fa:DE}(σ:St)(H:Hp)(Q:VK)(h:LE X.K (fun ρ=>do let x <- fa ρ;let b <- tyD k x;pure (.bl b)) σ H Q):tCB (RIsI X.K k) (tCons (LE X.K fa) (tCons (tC (.ty (tyName k))) tNil)) σ H Q:=by
 obtain⟨ι,ρ,M,d,M',S,R,e,q⟩:=h;have e0:=bind_ok e;clear e;obtain⟨x,M1,e1,e⟩:=e0;have e0:=bind_ok e;clear e;obtain⟨b,M2,e2,e⟩:=e0;have e0:=pure_ok e;clear e;obtain⟨rfl,rfl⟩:=e0;refine⟨ι,ρ,M,x,M1,S,R,e1,fun v H1 ι1 r1 S1 X1=>?_⟩;exact⟨ι1,M1,_,x,v,b,rfl,S1,r1,e2,fun z=>by subst z;exact q _ H1 ι1 (.bl b) S1 X1⟩
end
end L3
namespace L3
open PySem PySem.Spec PyProof.Rows L2
section
variable {X:Cx}
end
end L3
namespace L3
open PySem PySem.Spec PyProof.Rows L2
noncomputable def spOf (K:PySem.W.Frag)(n:Nat)(g:List D->Mo D):Sp:=fun vs H Q _=>vs.length=n/\∃ ι M M' ds d,Sim K ι M H/\Reps K ι H ds vs/\g ds M=some (.ok d,M') /\
 ∀ v H' ι',Rep K ι' H' d v->Sim K ι' M' H'->Ext K ι H ι' H'->Q v H'
noncomputable def FnR (X:Cx)(g:List D->Mo D)(f:Str):Prop:=∃ (k:Nat) (fa:Addr) (fd:FuncData) (ps:List Str),X.mg f=some (.ref fa)/\PySem.W.keepIn X.K (.ref fa)=true/\Binds X.K fd ps [] /\
 FnOk X.prog X.w X.K X.mg X.base CX0 k fa fd ps (spOf X.K ps.length g)/\Room k X.A/\∀ ds M d M',g ds M=some (.ok d,M')->ds.length=ps.length
structure CxOk (Γ:Ctx) (S:Sc) (X:Cx):Prop where
 n:X.N=S.N
 sc:∀ x k,S.sc.names.lookup x=some k->∃ k',X.env.scope.names.lookup x=some k'/\(k'=k\/(k=.free/\k'=.cell))
 calm:X.calm=true
 hu:X.A.units + 100 < cLine
 nox:X.xe=fun _ _=>False
 fns:∀ f∈S.fns,FnR X (Γ.fn f) f
 gls:∀ x∈S.gls,∃ d u v,Γ.gl x=some d/\X.mg x=some u/\RelV v u/\∀ ι H,Rep X.K ι H d v
 bls:∀ x∈S.bls,X.mg x=none
 nd:X.N.Nodup
section
variable {Γ:Ctx}{S:Sc}{X:Cx}
theorem CxOk.vis (C:CxOk Γ S X){x:Str}(h:S.vis x=true):Vis X.env.scope x:=by
 unfold Sc.vis Sc.kind at h;simp only[xr,beq_iff_eq]at h;rcases h with (h | h) | h
 ·obtain⟨k',h1,rfl | ⟨h2,_⟩⟩:=C.sc _ _ h
  ·exact .inl h1
  ·cases h2
 ·obtain⟨k',h1,rfl | ⟨h2,_⟩⟩:=C.sc _ _ h
  ·exact .inr (.inl h1)
  ·cases h2
 ·obtain⟨k',h1,rfl | ⟨_,rfl⟩⟩:=C.sc _ _ h
  ·exact .inr (.inr h1)
  ·exact .inr (.inl h1)
theorem CxOk.loc (C:CxOk Γ S X){x:Str}(h:S.loc x=true):Loc X.env.scope x:=by
 unfold Sc.loc Sc.kind at h;simp only[xr,beq_iff_eq]at h;rcases h with h | h
 ·obtain⟨k',h1,rfl | ⟨h2,_⟩⟩:=C.sc _ _ h
  ·exact .inl h1
  ·cases h2
 ·obtain⟨k',h1,rfl | ⟨h2,_⟩⟩:=C.sc _ _ h
  ·exact .inr h1
  ·cases h2
theorem CxOk.glo (C:CxOk Γ S X){x:Str}(h:S.glo x=true):Gl X x:=by
 unfold Sc.glo Sc.kind at h;simp only[beq_iff_eq]at h;obtain⟨k',h1,rfl | ⟨h2,_⟩⟩:=C.sc _ _ h
 ·exact h1
 ·cases h2
theorem slot_get {N:List Str}{x:Str}{i:Nat}(h:slot N x=some i):N[i]?=some x:=by
 unfold slot at h;obtain⟨hi,h1,_⟩:=yA.mp h;rw[zt hi];simpa using h1
theorem okName_debug {x:Str}(h:okName x=true):(x==("__debug__" : Str))=false/\(x==("__classdict__" : Str))=false/\x≠"__name__":=by
 unfold okName at h;simp only[zk,bne_iff_ne,ne_eq]at h;exact⟨beq_eq_false_iff_ne.mpr h.1.1,beq_eq_false_iff_ne.mpr h.1.2,h.2⟩
theorem star_plain {e:Expr}{es:List Expr}{env:Env}(h:plainE e=true):starEach (e::es) env=(false,eval e env)::starEach es env:=by
 cases e <;> first | rfl | cases h
theorem back_plain {pos:Pos}{env:Env}:∀ {es:List Expr},es.all plainE=true->(backTo pos (starEach es env)).any (·.1)=false
 | [],_=>rfl
 | e::es,h=>by
  rw[yq,zk]at h;rw[star_plain h.1];show (false||(backTo pos (starEach es env)).any (·.1))=false;rw[back_plain h.2];rfl
noncomputable def Its (y:Str):It:=⟨fun i _=>i < y.cps.size,fun i H x H'=>H'=H/\∃ c,y.cps[i]?=some c/\x=.str ⟨#[c]⟩,fun i _=>i=y.cps.size⟩
theorem turn_str {P:Program}{w:World}{K:PySem.W.Frag}{tg:Expr}{it:Addr}{y:Str}{t:Tok}{ty:String}(hW:∀ A':Around,A'.handled=none->Walks P w A' it [it] [it] y.cps.size (SignAt y) (fun i h=>h.IsStrIter it ty y t i))
  (hn:["enumerate","zip","dict_itemiterator","dict_reverseitemiterator","odict_iterator","itertools.zip_longest","itertools.pairwise"].contains ty=false)
  (hself:∀ (A:Around) (i:Nat) (s:Shared) (Q:Value->Shared->Prop) (E:Value->Shared->Prop),s.heap.IsStrIter it ty y t i->Q (.ref it) s->wpAny (model P w) A (pyIter (.ref it)) Q E s) :
  Turn P w K tg (Its y) [it] it (fun i h=>h.IsStrIter it ty y t i) where
 mem:=by simp
 obj:=fun i h st b hb=>by
  have e:b=it:=by simpa using hb
  subst e;obtain⟨o,h1,h2,h3⟩:=st;exact⟨o,h1,fun v z=>by rw[h3]at z;cases z⟩
 keep:=fun i h h' st k=>by
  obtain⟨o,h1,h2⟩:=st;exact⟨o,k it (by simp) o h1,h2⟩
 item:=by
  intro X hP hw hK hc i pins s σ H E I hf st hg;subst hP hw hK;obtain⟨f0,f1,f2,f3,f4,f5⟩:=hf it (by simp);refine(hW X.A (I.ok.hd hc)).item i s _ _ hg st fun v h' tk hv st' kk=>?_;obtain⟨c,t',hc',rfl⟩:=hv;have I1:Inv X pins σ H { s with heap:=h',toks:=tk }:=I.turned (fun b o hb e=>kk b o (by simpa using hb) e) f0 f1 f3 f4 f5;obtain⟨o,h1,h2,h3⟩:=id st';exact⟨_,rfl,go_of (s:={ s with heap:=h',toks:=tk }) h1 h2 h3 hn ⟨.str ⟨#[c]⟩,H,I1,⟨t',rfl⟩,⟨rfl,c,hc',rfl⟩,st',fun b hb=>(hf b hb).1⟩⟩
 done:=by
  intro X hP hw hK hc i pins s σ H E I hf st hg;subst hP hw hK;obtain⟨f0,f1,f2,f3,f4,f5⟩:=hf it (by simp);have hg':i=y.cps.size:=hg;subst hg';exact(hW X.A (I.ok.hd hc)).done s _ _ st fun h' tk kk=>⟨rfl,I.turned (fun b o hb e=>kk b o (by simpa using hb) e) f0 f1 f3 f4 f5⟩
 self:=hself
noncomputable def iAny (K:PySem.W.Frag)(tl:TE):TI:=fun σ H R=>tl σ H fun x H1=>(∃ a xs,x=.ref a/\SqL K H1 a xs/\R (Itl K a) H1)\/(∃ a xs,x=.ref a/\SqT K H1 a xs/\R (Itt K a) H1)\/∃ y,x=.str y/\R (Its y) H1
theorem pi_any {X:Cx}{tg l:Expr}{tl:TE}(hl:PE X l tl):PI X tg l (iAny X.K tl):=by
 intro pins s σ H R I h;refine thn (hl pins s σ H _ I h) fun v s1 ⟨x,H1,I1,r1,q1⟩=>?_;rcases q1 with ⟨a,xs,e,hq,q⟩|⟨a,xs,e,hq,q⟩|⟨y,e,q⟩
 ·subst e
  cases r1;obtain⟨its,rv,p,hz⟩:=I1.list hq;refine wpAny_pyIter_list p.isList ?_;refine⟨s1.heap.objs.size,[s1.heap.objs.size],_,_,H1,rfl,I1.kept (t':=s1.toks) fun b o e=>zv _ e,turn_list a _,⟨_,zj _ rfl,rfl,rfl⟩,fun b hb=>?_,q⟩;have e:b=s1.heap.objs.size:=by simpa using hb
  subst e;exact I1.fpOk (zp _) (I1.hok.fresh (zp _))
 ·subst e
  cases r1;obtain⟨its,rv,p,hz⟩:=I1.tuple hq;refine wpAny_pyIter_tuple (show s1.heap.IsTuple a its.toArray from p) ?_;refine⟨s1.heap.objs.size,[s1.heap.objs.size],_,_,H1,rfl,I1.kept (t':=s1.toks) fun b o e=>zv _ e,turn_tuple a _,⟨_,zj _ rfl,rfl,rfl⟩,fun b hb=>?_,q⟩;have e:b=s1.heap.objs.size:=by simpa using hb
  subst e;exact I1.fpOk (zp _) (I1.hok.fresh (zp _))
 ·subst e
  obtain⟨t,rfl⟩:=r1;cases ha:y.cps.all (· < 128)
  ·refine wpAny_pyIter_wide ha ?_
   refine⟨s1.heap.objs.size,[s1.heap.objs.size],_,_,H1,rfl,I1.kept (t':=s1.toks) fun b o e=>zv _ e,turn_str (t:=t) (fun A' hA=>Walks.strWide hA _ y t) (by decide) (fun _ _ _ _ _ st hQ=>wpAny_pyIter_striter_wide st hQ),⟨_,zj _ rfl,rfl,rfl⟩,fun b hb=>?_,q⟩;have e:b=s1.heap.objs.size:=by simpa using hb
   subst e;exact I1.fpOk (zp _) (I1.hok.fresh (zp _))
  ·refine wpAny_pyIter_ascii ha ?_
   refine⟨s1.heap.objs.size,[s1.heap.objs.size],_,_,H1,rfl,I1.kept (t':=s1.toks) fun b o e=>zv _ e,turn_str (t:=t) (fun A' hA=>Walks.strAscii hA _ y t) (by decide) (fun _ _ _ _ _ st hQ=>wpAny_pyIter_striter_ascii st hQ),⟨_,zj _ rfl,rfl,rfl⟩,fun b hb=>?_,q⟩;have e:b=s1.heap.objs.size:=by simpa using hb
   subst e;exact I1.fpOk (zp _) (I1.hok.fresh (zp _))
noncomputable def ItOk (K:PySem.W.Frag)(ι:List Addr)(H:Hp)(src:Src)(J:It):Prop:=∀ (ι2:List Addr) (H2:Hp) (M2:MH),Ext K ι H ι2 H2->Sim K ι2 M2 H2->okM src.ck M2 ->
 (∀ (i:Nat) (d:D),src.ds[i]?=some d->J.go i H2/\∀ x H',J.yld i H2 x H'->H'=H2/\Rep K ι2 H2 d x)/\J.stop src.ds.length H2
noncomputable def LI (K:PySem.W.Frag)(f:Ev->Mo Src):TI:=fun σ H R=>∃ ι ρ M src M',Sim K ι M H/\EnvR K ι H ρ σ/\f ρ M=some (.ok src,M') /\
 ∀ J H' ι',Sim K ι' M' H'->Ext K ι H ι' H'->ItOk K ι' H' src J->R J H'
theorem PI.imp {X:Cx}{tg e:Expr}{t t':TI}(h:PI X tg e t)(k:∀ σ H R,t' σ H R->t σ H R):PI X tg e t':=fun pins s σ H R I q=>h pins s σ H R I (k σ H R q)
theorem LI.seq {K:PySem.W.Frag}{f:DE}(σ:St)(H:Hp)(R:It->Hp->Prop)(h:LI K (fun ρ=>do let x <- f ρ;srcD x) σ H R):iAny K (LE K f) σ H R:=by
 obtain⟨ι,ρ,M,src,M',S,Rr,e,k⟩:=h;have e0:=bind_ok e;clear e;obtain⟨x,M1,e1,e⟩:=e0;refine⟨ι,ρ,M,x,M1,S,Rr,e1,fun v H1 ι1 r1 S1 X1=>?_⟩;cases r1 with
 | tup t q =>
  have e0:=pure_ok e;clear e;obtain⟨rfl,rfl⟩:=e0;refine .inr (.inl ⟨_,_,rfl,sqt t,k _ H1 ι1 S1 X1 fun ι2 H2 M2 x2 S2 ok=>⟨fun i d hd=>?_,⟨_,sqt (x2.tup _ _ t),yF (q.length.symm)⟩⟩⟩);obtain⟨v,hv,rv⟩:=(q.mono x2).get hd;exact⟨⟨_,v,sqt (x2.tup _ _ t),hv⟩,fun x' H' y=>⟨y.1,by have:=y.2 _ (sqt (x2.tup _ _ t));rw[hv]at this;cases this;exact rv⟩⟩
 | fl t q =>
  have e0:=pure_ok e;clear e;obtain⟨rfl,rfl⟩:=e0;refine .inl ⟨_,_,rfl,t.seq,k _ H1 ι1 S1 X1 fun ι2 H2 M2 x2 S2 ok=>⟨fun i d hd=>?_,⟨_,(x2.fz _ _ t).seq,yF (q.length.symm)⟩⟩⟩;obtain⟨v,hv,rv⟩:=(q.mono x2).get hd;exact⟨⟨_,v,(x2.fz _ _ t).seq,hv⟩,fun x' H' y=>⟨y.1,by have:=y.2 _ (x2.fz _ _ t).seq;rw[hv]at this;cases this;exact rv⟩⟩
 | str y =>
  have e0:=bind_ok e;clear e;obtain⟨_,_,e2,e⟩:=e0;have e20:=need_ok e2;clear e2;obtain⟨hn,rfl⟩:=e20;have e0:=pure_ok e;clear e;obtain⟨rfl,rfl⟩:=e0;refine .inr (.inr ⟨y,rfl,k _ H1 ι1 S1 X1 fun ι2 H2 M2 x2 S2 ok=>⟨fun i d hd=>?_,?_⟩⟩)
  ·rw[zh]at hd
   cases hc:y.cps.toList[i]? with
   | none=>rw[hc]at hd;cases hd
   | some c =>
    rw[hc]at hd;cases hd;have hc':y.cps[i]?=some c:=by simpa using hc
    refine⟨?_,fun x' H' yy=>?_⟩
    ·exact(yC.mp hc').1
    ·obtain⟨h1,c',h2,rfl⟩:=yy
     rw[hc']at h2;cases h2;exact⟨h1,.str _⟩
  ·show (y.cps.toList.map sgn).length=y.cps.size
   simp
 | ob t =>
  have e0:=bind_ok e;clear e;obtain⟨ds,_,e2,e⟩:=e0;have e20:=getL_ok e2;clear e2;obtain⟨g,rfl⟩:=e20;have e0:=pure_ok e;clear e;obtain⟨rfl,rfl⟩:=e0;obtain⟨a,vs,h1,h2,h3,h4⟩:=sim_list S1 (.ob t) g;cases h1;refine .inl ⟨_,vs,rfl,SqL.of h3,k _ H1 ι1 S1 X1 fun ι2 H2 M2 x2 S2 ok=>?_⟩;have ok':M2[_]?=some (MO.lst ds):=ok;obtain⟨a2,vs2,g1,g2,g3,g4⟩:=sim_list S2 (.ob (x2.pre _ _ h2)) ok';cases g1;refine⟨fun i d hd=>?_,⟨vs2,SqL.of g3,yF (g4.length.symm)⟩⟩;obtain⟨v,hv,rv⟩:=g4.get hd;exact⟨⟨_,v,SqL.of g3,hv⟩,fun x' H' y=>⟨y.1,by have:=y.2 _ (SqL.of g3);rw[hv]at this;cases this;exact rv⟩⟩
 | _=>exact(stop_ok e).elim
theorem itr_ok {K:PySem.W.Frag}{ι:List Addr}{H:Hp}{lo hi:Int}:ItOk K ι H ⟨none,rngD lo hi⟩ (Itr lo (hi - lo).toNat):=fun ι2 H2 M2 x2 S2 _=>by
 refine⟨fun i d hd=>?_,?_⟩
 ·unfold rngD at hd
  rw[zh]at hd;cases hc:(List.range (hi - lo).toNat)[i]? with
  | none=>rw[hc]at hd;cases hd
  | some c =>
   rw[hc]at hd;cases hd;obtain⟨h1,h2⟩:=zr.mp hc;rw[zI]at h1;rw[wx]at h2;subst h2;refine⟨h1,fun x' H' y=>?_⟩;obtain⟨y1,rfl⟩:=y;exact⟨y1,.int _⟩
 ·show (hi - lo).toNat<=(rngD lo hi).length
  unfold rngD;rw[zw,zI];exact zp _
theorem LI.rng1 {K:PySem.W.Frag}{f:DE}(σ:St)(H:Hp)(R:It->Hp->Prop)(h:LI K (fun ρ=>do
  let x <- f ρ
  (match x with
  | .int i=>do need (small i);pure ⟨none,rngD 0 i⟩
  | _=>Mo.stop)) σ H R):iRng1 (tCons (LE K f) tNil) σ H R:=by
 obtain⟨ι,ρ,M,src,M',S,Rr,e,k⟩:=h;have e0:=bind_ok e;clear e;obtain⟨x,M1,e1,e⟩:=e0;refine⟨ι,ρ,M,x,M1,S,Rr,e1,fun v H1 ι1 r1 S1 X1=>?_⟩;cases r1 with
 | int i =>
  have e0:=bind_ok e;clear e;obtain⟨_,_,e2,e⟩:=e0;have e20:=need_ok e2;clear e2;obtain⟨hn,rfl⟩:=e20;have e0:=pure_ok e;clear e;obtain⟨rfl,rfl⟩:=e0;refine⟨i,rfl,hn.1,hn.2,k _ H1 ι1 S1 X1 ?_⟩
  have:=@itr_ok K ι1 H1 0 i
  rw[Int.sub_zero]at this;exact this
 | _=>exact(stop_ok e).elim
theorem LI.rng2 {K:PySem.W.Frag}{f g:DE}(σ:St)(H:Hp)(R:It->Hp->Prop)(h:LI K (fun ρ=>do
  let x <- f ρ
  let y <- g ρ
  (match x,y with
  | .int i,.int j=>do need (small i/\small j);pure ⟨none,rngD i j⟩
  | _,_=>Mo.stop)) σ H R):iRng2 (tCons (LE K f) (tCons (LE K g) tNil)) σ H R:=by
 obtain⟨ι,ρ,M,src,M',S,Rr,e,k⟩:=h;have e0:=bind_ok e;clear e;obtain⟨x,M1,e1,e⟩:=e0;have e0:=bind_ok e;clear e;obtain⟨y,M2,e2,e⟩:=e0;refine⟨ι,ρ,M,x,M1,S,Rr,e1,fun v H1 ι1 r1 S1 X1=>?_⟩;refine⟨ι1,ρ,M1,y,M2,S1,Rr.mono X1,e2,fun u H2 ι2 r2 S2 X2=>?_⟩;cases r1 with
 | int i =>
  cases r2 with
  | int j =>
   have e0:=bind_ok e;clear e;obtain⟨_,_,e2,e⟩:=e0;have e20:=need_ok e2;clear e2;obtain⟨hn,rfl⟩:=e20;have e0:=pure_ok e;clear e;obtain⟨rfl,rfl⟩:=e0;exact⟨i,j,rfl,⟨hn.1.1,hn.1.2,hn.2.1,hn.2.2⟩,k _ H2 ι2 S2 (X1.trans X2) itr_ok⟩
  | _=>exact(stop_ok e).elim
 | _=>exact(stop_ok e).elim
theorem stand_ok {ck:Option (Nat×List D)}{M M':MH}{u:Unit}(h:stand ck M=some (.ok u,M')):okM ck M/\M'=M:=by
 unfold stand at h;split at h
 ·rename_i hp;cases h;exact⟨hp,rfl⟩
 ·cases h
theorem LS.loop {K:PySem.W.Frag}{i:Nat}{fs:Ev->Mo Src}{fb:Ev->Mo Fl}(D:Ends)(σ:St)(H:Hp)(h:LS K (fun ρ=>do let s <- fs ρ;loopD s.ck i fb s.ds ρ) D σ H):tFor (LI K fs) (gName i) (LS K fb) D σ H:=by
 obtain⟨ι,ρ,M,fl,M',S,R,e,k⟩:=h;have e0:=bind_ok e;clear e;obtain⟨src,M1,e1,e⟩:=e0;refine⟨ι,ρ,M,src,M1,S,R,e1,fun J H1 ι1 S1 X1 hJ=>?_⟩;refine⟨fun j m σ' H'=>m=src.ds.length - j/\j<=src.ds.length/\∃ ι' ρ' M2,Sim K ι' M2 H'/\EnvR K ι' H' ρ' σ'/\Ext K ι1 H1 ι' H'/\loopD src.ck i fb (src.ds.drop j) ρ' M2=some (.ok fl,M'),
  ⟨_,rfl,zV _,ι1,ρ,M1,S1,R.mono X1,Ext.refl,e⟩,?_⟩
 rintro j m σ' H' ⟨rfl,hj,ι',ρ',M2,S2,R2,X2,e2⟩;by_cases hlt:j < src.ds.length
 ·right
  rw[yp hlt]at e2;have e20:=bind_ok e2;clear e2;obtain⟨_,_,e3,e2⟩:=e20;have e30:=stand_ok e3;clear e3;obtain⟨ok,rfl⟩:=e30;have e20:=bind_ok e2;clear e2;obtain⟨f,M3,e3,e2⟩:=e20;obtain⟨go,yld⟩:=(hJ ι' H' _ X2 S2 ok).1 j _ (zt hlt);refine⟨go,fun σ3 H3=>∃ ι3 ρ3 M4,Sim K ι3 M4 H3/\EnvR K ι3 H3 ρ3 σ3/\Ext K ι1 H1 ι3 H3/\loopD src.ck i fb (src.ds.drop (j + 1)) ρ3 M4=some (.ok fl,M'),
   fun σ3 H3 ⟨ι3,ρ3,M4,h1,h2,h3,h4⟩=>⟨src.ds.length - (j + 1),by omega,rfl,hlt,ι3,ρ3,M4,h1,h2,h3,h4⟩,fun x H'' y=>?_⟩
  obtain⟨rfl,rx⟩:=yld x H'' y;refine⟨ι',_,_,f,M3,S2,R2.set rx i,e3,fun H3 ι3 S3 X3=>?_⟩;cases f with
  | nx ρ3=>exact fun σ3 R3=>⟨ι3,ρ3,M3,S3,R3,X2.trans X3,e2⟩
  | ct ρ3=>exact fun σ3 R3=>⟨ι3,ρ3,M3,S3,R3,X2.trans X3,e2⟩
  | bk ρ3 =>
   have e20:=pure_ok e2;clear e2;obtain⟨rfl,rfl⟩:=e20;exact fun σ3 R3=>k H3 ι3 S3 ((X1.trans X2).trans X3) σ3 R3
  | rt v =>
   have e20:=pure_ok e2;clear e2;obtain⟨rfl,rfl⟩:=e20;exact fun v' r'=>k H3 ι3 S3 ((X1.trans X2).trans X3) v' r'
 ·left
  have ej:j=src.ds.length:=by first | lia | omega
  subst ej;rw[xj]at e2;have e20:=bind_ok e2;clear e2;obtain⟨_,_,e3,e2⟩:=e20;have e30:=stand_ok e3;clear e3;obtain⟨ok,rfl⟩:=e30;have e20:=pure_ok e2;clear e2;obtain⟨rfl,rfl⟩:=e20;exact⟨(hJ ι' H' _ X2 S2 ok).2,k H' ι' S2 (X1.trans X2) σ' R2⟩
theorem LE.comp {K:PySem.W.Frag}{j:Nat}{fs:Ev->Mo Src}{fc:Ev->Mo Bool}{fe:DE}(σ:St)(H:Hp)(Q:VK)(h:LE K (fun ρ=>do
  let s <- fs ρ
  need (s.ds.length<=zn)
  let ys <- compD s.ck fc fe (ρ.set j none) s.ds
  newM (.lst ys)) σ H Q):tComp (LI K fs) (gName 0) 1 (LT K fc) (LE K fe) σ H Q:=by
 obtain⟨ι,ρ,M,d,M',S,R,e,k⟩:=h;have e0:=bind_ok e;clear e;obtain⟨src,M1,e1,e⟩:=e0;have e0:=bind_ok e;clear e;obtain⟨_,_,e2,e⟩:=e0;have e20:=need_ok e2;clear e2;obtain⟨hn,rfl⟩:=e20;have e0:=bind_ok e;clear e;obtain⟨all,M2,e2,e⟩:=e0;refine⟨ι,ρ,M,src,_,S,R,e1,fun J H1 ι1 S1 X1 hJ=>?_⟩;refine⟨fun i m ys H'=>m=src.ds.length - i/\i<=src.ds.length/\ys.length<=i/\∃ ι' ds rest M3,Sim K ι' M3 H'/\Ext K ι1 H1 ι' H'/\Reps K ι' H' ds ys/\compD src.ck fc fe (ρ.set j none) (src.ds.drop i) M3=some (.ok rest,M2)/\all=ds++rest,
  ⟨_,rfl,zV _,zp _,ι1,[],all,_,S1,Ext.refl,.nil,e2,rfl⟩,?_⟩
 rintro i m ys H' ⟨rfl,hi,hy,ι',ds,rest,M3,S3,X3,r3,e3,ea⟩;by_cases hlt:i < src.ds.length
 ·right
  rw[yp hlt]at e3;have e30:=bind_ok e3;clear e3;obtain⟨_,_,e4,e3⟩:=e30;have e40:=stand_ok e4;clear e4;obtain⟨ok,rfl⟩:=e40;have e30:=bind_ok e3;clear e3;obtain⟨b,M4,e4,e3⟩:=e30;obtain⟨go,yld⟩:=(hJ ι' H' _ X3 S3 ok).1 i _ (zt hlt);refine⟨go,by omega,fun v H'' os ho y=>?_⟩;obtain⟨rfl,rx⟩:=yld v H'' y;obtain⟨o1,rfl⟩:=wH.mp ho;refine⟨[some v],rfl,rfl,?_⟩;have RR:EnvR K ι' H'' (some src.ds[i]::ρ.set j none) (some v::σ):=((R.mono X1).mono X3).comp rx j;refine⟨ι',_,_,b,M4,S3,RR,e4,fun H4 ι4 S4 X4=>?_⟩;cases b with
  | true =>
   rw[if_pos rfl]at e3 ⊢;have e30:=bind_ok e3;clear e3;obtain⟨y',M5,e5,e3⟩:=e30;have e30:=bind_ok e3;clear e3;obtain⟨ys',M6,e6,e3⟩:=e30;have e30:=pure_ok e3;clear e3;obtain⟨rfl,rfl⟩:=e30;refine⟨ι4,_,_,y',M5,S4,RR.mono X4,e5,fun v5 H5 ι5 r5 S5 X5=>?_⟩;exact⟨src.ds.length - (i + 1),by omega,rfl,hlt,by rw[zq];exact xN hy,ι5,ds++[y'],ys',M5,S5,(X3.trans X4).trans X5,((r3.mono X4).mono X5).append (.cons r5 .nil),e6,by rw[ea,zA];rfl⟩
  | false =>
   rw[if_neg zo]at e3 ⊢;exact⟨src.ds.length - (i + 1),by omega,rfl,hlt,wn hy,ι4,ds,rest,M4,S4,X3.trans X4,r3.mono X4,e3,ea⟩
 ·left
  have ei:i=src.ds.length:=by first | lia | omega
  subst ei;rw[xj]at e3;have e30:=bind_ok e3;clear e3;obtain⟨_,_,e4,e3⟩:=e30;have e40:=stand_ok e4;clear e4;obtain⟨ok,rfl⟩:=e40;have e30:=pure_ok e3;clear e3;obtain⟨rfl,rfl⟩:=e30;rw[ya]at ea;subst ea;refine⟨(hJ ι' H' _ X3 S3 ok).2,by omega,new_list S3 r3 e fun v H5 ι5 r5 S5 X5=>k v H5 ι5 r5 S5 ((X1.trans X3).trans X5)⟩
end
end L3
namespace L3
open PySem PySem.Spec PyProof.Rows L2
section
variable {X:Cx}{pins:List (Addr×Obj)}{σ:St}{H:Hp}{s:Shared}{h':Heap}
structure Young (X:Cx) (pins:List (Addr×Obj)) (a:Addr):Prop where
 lo:X.s₀.heap.objs.size<=a
 fr:a≠X.env.locals
 cl:∀ y c,X.env.cells.lookup y=some c->c≠a
 pn:∀ p∈X.pn++pins,p.1≠a
theorem young_of (I:Inv X pins σ H s){a:Addr}(h:s.heap.objs.size<=a):Young X pins a:=by
 refine⟨zS I.sz h,yN (zf I.lt h),fun y c e z=>?_,fun p hp z=>?_⟩
 ·obtain⟨v,o,ho,_⟩:=I.cell y c e
  exact absurd (zf (zi ho) (by rw[z];exact h)) (yc _)
 ·exact absurd (zf (zi (I.pin p hp).1) (by rw[z];exact h)) (yc _)
theorem inv_adopt (I:Inv X pins σ H s){a:Addr}{o:HO}(hn:H a=none)(y:Young X pins a)(new:ObjOk X.prog X.w (upd H a o) s.heap a o):Inv X pins σ (upd H a o) s where
 ok:=I.ok
 os:=I.os
 bare:=I.bare
 base:=Un.adopt I.base (xQ y.lo) hn
 loc:=I.loc
 cell:=I.cell
 free:=by rw[upd_ne (Ne.symm y.fr)];exact I.free
 freeC:=fun x c e=>by rw[upd_ne (y.cl x c e)];exact I.freeC x c e
 pin:=fun p hp=>by
  obtain⟨h1,h2,h3⟩:=I.pin p hp;exact⟨h1,by rw[upd_ne (y.pn p hp)];exact h2,h3⟩
 hok:=HOk.adopt I.hok hn new
 len:=I.len
end
noncomputable def ItOk2 (K:PySem.W.Frag)(ι:List Addr)(H:Hp)(src:Src)(J:It):Prop:=∀ (ι2:List Addr) (H2:Hp) (M2:MH),Ext K ι H ι2 H2->Sim K ι2 M2 H2->okM src.ck M2 ->
 (∀ (i:Nat) (d:D),src.ds[i]?=some d->J.go i H2/\∀ x H',J.yld i H2 x H'->Sim K ι2 M2 H'/\Ext K ι2 H2 ι2 H'/\Rep K ι2 H' d x)/\J.stop src.ds.length H2
noncomputable def LI2 (K:PySem.W.Frag)(f:Ev->Mo Src):TI:=fun σ H R=>∃ ι ρ M src M',Sim K ι M H/\EnvR K ι H ρ σ/\f ρ M=some (.ok src,M') /\
 ∀ J H' ι',Sim K ι' M' H'->Ext K ι H ι' H'->ItOk2 K ι' H' src J->R J H'
theorem LI2.to {K:PySem.W.Frag}{f:Ev->Mo Src}(σ:St)(H:Hp)(R:It->Hp->Prop)(h:LI2 K f σ H R):LI K f σ H R:=by
 obtain⟨ι,ρ,M,src,M',S,Rr,e,k⟩:=h;refine⟨ι,ρ,M,src,M',S,Rr,e,fun J H' ι' S' X' ok=>k J H' ι' S' X' fun ι2 H2 M2 x2 S2 hk=>?_⟩;obtain⟨h1,h2⟩:=ok ι2 H2 M2 x2 S2 hk;refine⟨fun i d hd=>?_,h2⟩;obtain⟨go,y⟩:=h1 i d hd;refine⟨go,fun x H'' hy=>?_⟩;obtain⟨rfl,r⟩:=y x H'' hy;exact⟨S2,Ext.refl,r⟩
theorem pairD_eq {d:D}{p:D×D}(h:pairD d=some p):d=.tup [p.1,p.2]:=by
 unfold pairD at h;split at h
 ·cases h;rfl
 ·cases h
theorem LS.lpair {K:PySem.W.Frag}{i j:Nat}{fs:Ev->Mo Src}{fb:Ev->Mo Fl}(D:Ends)(σ:St)(H:Hp)(h:LS K (fun ρ=>do let s <- fs ρ;loopP s.ck i j fb s.ds ρ) D σ H):tFor (LI2 K fs) (gTup K 2 (gCons (gName i) (gCons (gName j) gNil))) (LS K fb) D σ H:=by
 obtain⟨ι,ρ,M,fl,M',S,R,e,k⟩:=h;have e0:=bind_ok e;clear e;obtain⟨src,M1,e1,e⟩:=e0;refine⟨ι,ρ,M,src,M1,S,R,e1,fun J H1 ι1 S1 X1 hJ=>?_⟩;refine⟨fun n m σ' H'=>m=src.ds.length - n/\n<=src.ds.length/\∃ ι' ρ' M2,Sim K ι' M2 H'/\EnvR K ι' H' ρ' σ'/\Ext K ι1 H1 ι' H'/\loopP src.ck i j fb (src.ds.drop n) ρ' M2=some (.ok fl,M'),
  ⟨_,rfl,zV _,ι1,ρ,M1,S1,R.mono X1,Ext.refl,e⟩,?_⟩
 rintro n m σ' H' ⟨rfl,hj,ι',ρ',M2,S2,R2,X2,e2⟩;by_cases hlt:n < src.ds.length
 ·right
  rw[yp hlt]at e2;have e20:=bind_ok e2;clear e2;obtain⟨_,_,e3,e2⟩:=e20;have e30:=stand_ok e3;clear e3;obtain⟨ok,rfl⟩:=e30;have e20:=bind_ok e2;clear e2;obtain⟨pr,_,e3,e2⟩:=e20;have e30:=lift_ok e3;clear e3;obtain⟨hpr,rfl⟩:=e30;have e20:=bind_ok e2;clear e2;obtain⟨f,M3,e3,e2⟩:=e20;obtain⟨go,yld⟩:=(hJ ι' H' _ X2 S2 ok).1 n _ (zt hlt);refine⟨go,fun σ3 H3=>∃ ι3 ρ3 M4,Sim K ι3 M4 H3/\EnvR K ι3 H3 ρ3 σ3/\Ext K ι1 H1 ι3 H3/\loopP src.ck i j fb (src.ds.drop (n + 1)) ρ3 M4=some (.ok fl,M'),
   fun σ3 H3 ⟨ι3,ρ3,M4,h1,h2,h3,h4⟩=>⟨src.ds.length - (n + 1),by omega,rfl,hlt,ι3,ρ3,M4,h1,h2,h3,h4⟩,fun x H'' y=>?_⟩
  obtain⟨S5,X5,rx⟩:=yld x H'' y;rw[pairD_eq hpr]at rx;cases rx with
  | tup t q =>
   cases q with
   | cons q1 q2 =>
    cases q2 with
    | cons q2 q3 =>
     cases q3;refine⟨_,_,rfl,sqt t,rfl,_,_,rfl,_,_,rfl,rfl,?_⟩;refine⟨ι',_,_,f,M3,S5,((R2.mono X5).set q1 i).set q2 j,e3,fun H3 ι3 S3 X3=>?_⟩;have X6:=X2.trans (X5.trans X3);cases f with
     | nx ρ3=>exact fun σ3 R3=>⟨ι3,ρ3,M3,S3,R3,X6,e2⟩
     | ct ρ3=>exact fun σ3 R3=>⟨ι3,ρ3,M3,S3,R3,X6,e2⟩
     | bk ρ3 =>
      have e20:=pure_ok e2;clear e2;obtain⟨rfl,rfl⟩:=e20;exact fun σ3 R3=>k H3 ι3 S3 (X1.trans X6) σ3 R3
     | rt v =>
      have e20:=pure_ok e2;clear e2;obtain⟨rfl,rfl⟩:=e20;exact fun v' r'=>k H3 ι3 S3 (X1.trans X6) v' r'
 ·left
  have ej:n=src.ds.length:=by first | lia | omega
  subst ej;rw[xj]at e2;have e20:=bind_ok e2;clear e2;obtain⟨_,_,e3,e2⟩:=e20;have e30:=stand_ok e3;clear e3;obtain⟨ok,rfl⟩:=e30;have e20:=pure_ok e2;clear e2;obtain⟨rfl,rfl⟩:=e20;exact⟨(hJ ι' H' _ X2 S2 ok).2,k H' ι' S2 (X1.trans X2) σ' R2⟩
end L3
namespace L3
open PySem PySem.Spec PyProof.Rows L2
structure Sound (Γ:Ctx) (n:Nat):Prop where
 E:∀ (S:Sc) (X:Cx) (e:Expr) (i:IE),CxOk Γ S X->cE S n e=some i->PE X e (LE X.K (semE Γ i))
 Es:∀ (S:Sc) (X:Cx) (es:List Expr) (i:IEs),CxOk Γ S X->cEs S n es=some i->PA X es (LA X.K (semEs Γ i))/\es.all plainE=true
 O:∀ (S:Sc) (X:Cx) (e:Option Expr) (i:IEo),CxOk Γ S X->cO S n e=some i->PO X e (LO X.K (semO Γ i))
 T:∀ (S:Sc) (X:Cx) (tg e:Expr) (i:IT),CxOk Γ S X->cT S n e=some i->PI X tg e (LI X.K (semT Γ i))/\∀ x,foldedSetIterable e X.env x=pure x
 C:∀ (S:Sc) (X:Cx) (e:Expr) (i:IC),CxOk Γ S X->cC S n e=some i->PT X e (LT X.K (semC Γ i))
 Co:∀ (S:Sc) (X:Cx) (e:List Expr) (i:ICo),CxOk Γ S X->cCo S n e=some i->PTs X e (LT X.K (semCo Γ i))
section
variable {Γ:Ctx}{n:Nat}{K:PySem.W.Frag}
theorem obind {α β:Type}{o:Option α}{f:α->Option β}{b:β}(h:(o >>= f)=some b):∃ a,o=some a/\f a=some b:=by
 cases o with
 | none=>cases h
 | some a=>exact⟨a,rfl,h⟩
theorem varD_ok {ρ:Ev}{i:Nat}{M M':MH}{d:D}(e:varD ρ i M=some (.ok d,M')):ρ[i]?=some (some d)/\M'=M:=by
 unfold varD at e;cases q:ρ[i]? with
 | none=>rw[q]at e;exact(stop_ok e).elim
 | some o =>
  cases o with
  | none=>rw[q]at e;exact(stop_ok e).elim
  | some d'=>rw[q]at e;cases e;exact⟨rfl,rfl⟩
theorem LE.var {i:Nat}(σ:St)(H:Hp)(Q:VK)(h:LE K (semE Γ (.var i)) σ H Q):tVar i σ H Q:=by
 obtain⟨ι,ρ,M,d,M',S,R,e,k⟩:=h;have e:varD ρ i M=some (.ok d,M'):=e;obtain⟨hd,rfl⟩:=varD_ok e;obtain⟨v,hv,rv⟩:=R.val i d hd;exact⟨v,hv,k v H ι rv S Ext.refl⟩
theorem LE.const {d:D}{v:V}(hv:∀ ι H,Rep K ι H d v)(σ:St)(H:Hp)(Q:VK)(h:LE K (fun _=>pure d) σ H Q):tC v σ H Q:=by
 obtain⟨ι,ρ,M,d',M',S,R,e,k⟩:=h;have e0:=pure_ok e;clear e;obtain⟨rfl,rfl⟩:=e0;exact k v H ι (hv ι H) S Ext.refl
theorem LE.chain {op op':CmpOp}{fa fb fc:DE}(σ:St)(H:Hp)(Q:VK)(h:LE K (fun ρ=>do
  let x <- fa ρ
  let y <- fb ρ
  let k <- cmpD op x y
  if k=true then do let z <- fc ρ;let k' <- cmpD op' y z;pure (.bl k') else pure (.bl false)) σ H Q):tChain (R2S K (gCmp op)) (R2S K (gCmp op')) (LE K fa) (LE K fb) (LE K fc) σ H Q:=by
 obtain⟨ι,ρ,M,d,M',S,R,e,k⟩:=h;have e0:=bind_ok e;clear e;obtain⟨x,M1,e1,e⟩:=e0;have e0:=bind_ok e;clear e;obtain⟨y,M2,e2,e⟩:=e0;have e0:=bind_ok e;clear e;obtain⟨b,M3,e3,e⟩:=e0;refine⟨ι,ρ,M,x,M1,S,R,e1,fun v1 H1 ι1 r1 S1 X1=>?_⟩;refine⟨ι1,ρ,M1,y,M2,S1,R.mono X1,e2,fun v2 H2 ι2 r2 S2 X2=>?_⟩;refine⟨ι2,M2,M3,x,y,.bl b,S2,r1.mono X2,r2,by unfold gCmp;rw[ok_bind e3];rfl,fun v3 H3 ι3 r3 S3 X3=>?_⟩;cases r3;refine⟨b,rfl,?_⟩;cases b with
 | true =>
  rw[if_pos rfl]at e ⊢;have e0:=bind_ok e;clear e;obtain⟨z,M4,e4,e⟩:=e0;have e0:=bind_ok e;clear e;obtain⟨b',M5,e5,e⟩:=e0;refine⟨ι3,ρ,M3,z,M4,S3,((R.mono X1).mono X2).mono X3,e4,fun v4 H4 ι4 r4 S4 X4=>?_⟩;have e0:=pure_ok e;clear e;obtain⟨rfl,rfl⟩:=e0;exact⟨ι4,M4,_,y,z,.bl b',S4,(r2.mono X3).mono X4,r4,by unfold gCmp;rw[ok_bind e5];rfl,fun v5 H5 ι5 r5 S5 X5=>k v5 H5 ι5 r5 S5 ((((X1.trans X2).trans X3).trans X4).trans X5)⟩
 | false =>
  rw[if_neg zo]at e ⊢;have e0:=pure_ok e;clear e;obtain⟨rfl,rfl⟩:=e0;exact k _ H3 ι3 (.bl _) S3 ((X1.trans X2).trans X3)
theorem LE.and {fa fb:DE}(σ:St)(H:Hp)(Q:VK)(h:LE K (fun ρ=>do let x <- fa ρ;let k <- lift (boolD x);if k=true then fb ρ else pure (.bl false)) σ H Q):tAndV (LE K fa) (LE K fb) σ H Q:=by
 obtain⟨ι,ρ,M,d,M',S,R,e,k⟩:=h;have e0:=bind_ok e;clear e;obtain⟨x,M1,e1,e⟩:=e0;have e0:=bind_ok e;clear e;obtain⟨b,M2,e2,e⟩:=e0;have e20:=lift_ok e2;clear e2;obtain⟨hb,rfl⟩:=e20;refine⟨ι,ρ,M,x,_,S,R,e1,fun v1 H1 ι1 r1 S1 X1=>?_⟩;cases r1 <;> simp[boolD]at hb;subst hb;refine⟨_,rfl,?_⟩;split at e
 ·rename_i hb
  rw[if_pos hb];exact⟨ι1,ρ,_,d,M',S1,R.mono X1,e,fun v H' ι' r' S' X'=>k v H' ι' r' S' (X1.trans X')⟩
 ·rename_i hb
  rw[if_neg hb];have e0:=pure_ok e;clear e;obtain⟨rfl,rfl⟩:=e0;exact k _ H1 ι1 (.bl _) S1 X1
theorem LE.or {fa fb:DE}(σ:St)(H:Hp)(Q:VK)(h:LE K (fun ρ=>do let x <- fa ρ;let k <- lift (boolD x);if k=true then pure (.bl true) else fb ρ) σ H Q):tOrV (LE K fa) (LE K fb) σ H Q:=by
 obtain⟨ι,ρ,M,d,M',S,R,e,k⟩:=h;have e0:=bind_ok e;clear e;obtain⟨x,M1,e1,e⟩:=e0;have e0:=bind_ok e;clear e;obtain⟨b,M2,e2,e⟩:=e0;have e20:=lift_ok e2;clear e2;obtain⟨hb,rfl⟩:=e20;refine⟨ι,ρ,M,x,_,S,R,e1,fun v1 H1 ι1 r1 S1 X1=>?_⟩;cases r1 <;> simp[boolD]at hb;subst hb;refine⟨_,rfl,?_⟩;split at e
 ·rename_i hb
  rw[if_pos hb];have e0:=pure_ok e;clear e;obtain⟨rfl,rfl⟩:=e0;exact k _ H1 ι1 (.bl _) S1 X1
 ·rename_i hb
  rw[if_neg hb];exact⟨ι1,ρ,_,d,M',S1,R.mono X1,e,fun v H' ι' r' S' X'=>k v H' ι' r' S' (X1.trans X')⟩
theorem LE.not {fa:DE}(σ:St)(H:Hp)(Q:VK)(h:LE K (fun ρ=>do let x <- fa ρ;let k <- lift (boolD x);pure (.bl (!k))) σ H Q):tNotV (LE K fa) σ H Q:=by
 obtain⟨ι,ρ,M,d,M',S,R,e,k⟩:=h;have e0:=bind_ok e;clear e;obtain⟨x,M1,e1,e⟩:=e0;have e0:=bind_ok e;clear e;obtain⟨b,M2,e2,e⟩:=e0;have e20:=lift_ok e2;clear e2;obtain⟨hb,rfl⟩:=e20;have e0:=pure_ok e;clear e;obtain⟨rfl,rfl⟩:=e0;refine⟨ι,ρ,M,x,_,S,R,e1,fun v1 H1 ι1 r1 S1 X1=>?_⟩;cases r1 <;> simp[boolD]at hb;subst hb;exact⟨_,rfl,k _ H1 ι1 (.bl _) S1 X1⟩
theorem LE.ite {fc:Ev->Mo Bool}{fa fb:DE}(σ:St)(H:Hp)(Q:VK)(h:LE K (fun ρ=>do let k <- fc ρ;if k=true then fa ρ else fb ρ) σ H Q):tIf (LT K fc) (LE K fa) (LE K fb) σ H Q:=by
 obtain⟨ι,ρ,M,d,M',S,R,e,k⟩:=h;have e0:=bind_ok e;clear e;obtain⟨b,M1,e1,e⟩:=e0;refine⟨ι,ρ,M,b,M1,S,R,e1,fun H1 ι1 S1 X1=>?_⟩;split at e
 ·rename_i hb
  rw[if_pos hb];exact⟨ι1,ρ,_,d,M',S1,R.mono X1,e,fun v H' ι' r' S' X'=>k v H' ι' r' S' (X1.trans X')⟩
 ·rename_i hb
  rw[if_neg hb];exact⟨ι1,ρ,_,d,M',S1,R.mono X1,e,fun v H' ι' r' S' X'=>k v H' ι' r' S' (X1.trans X')⟩
theorem LE.tup {fa:Ev->Mo (List D)}(σ:St)(H:Hp)(Q:VK)(h:LE K (fun ρ=>do let xs <- fa ρ;need (xs.length<=zn);pure (.tup xs)) σ H Q):tTup (LA K fa) σ H Q:=by
 obtain⟨ι,ρ,M,d,M',S,R,e,k⟩:=h;have e0:=bind_ok e;clear e;obtain⟨xs,M1,e1,e⟩:=e0;have e0:=bind_ok e;clear e;obtain⟨_,_,e2,e⟩:=e0;have e20:=need_ok e2;clear e2;obtain⟨hn,rfl⟩:=e20;have e0:=pure_ok e;clear e;obtain⟨rfl,rfl⟩:=e0;refine⟨ι,ρ,M,xs,_,S,R,e1,fun vs H1 ι1 r1 S1 X1=>⟨by rw[<- r1.length];exact hn,new_tup S1 r1 fun v H' ι' r' S' X'=>k v H' ι' r' S' (X1.trans X')⟩⟩
theorem LE.lst {fa:Ev->Mo (List D)}(σ:St)(H:Hp)(Q:VK)(h:LE K (fun ρ=>do let xs <- fa ρ;need (xs.length<=zn);newM (.lst xs)) σ H Q):tLst (LA K fa) σ H Q:=by
 obtain⟨ι,ρ,M,d,M',S,R,e,k⟩:=h;have e0:=bind_ok e;clear e;obtain⟨xs,M1,e1,e⟩:=e0;have e0:=bind_ok e;clear e;obtain⟨_,_,e2,e⟩:=e0;have e20:=need_ok e2;clear e2;obtain⟨hn,rfl⟩:=e20;refine⟨ι,ρ,M,xs,_,S,R,e1,fun vs H1 ι1 r1 S1 X1=>⟨by rw[<- r1.length];exact hn,new_list S1 r1 e fun v H' ι' r' S' X'=>k v H' ι' r' S' (X1.trans X')⟩⟩
theorem LE.dic (σ:St)(H:Hp)(Q:VK)(h:LE K (fun _=>newM (.dic [])) σ H Q):tDNewK σ H Q:=by
 obtain⟨ι,ρ,M,d,M',S,R,e,k⟩:=h;intro p hp;have e0:=newM_ok e;clear e;obtain⟨rfl,rfl⟩:=e0;exact k _ _ (ι++[p]) (.ob (by rw[<- S.len,ze (zp _),yT];rfl)) (S.new hp ⟨[],rfl,.nil⟩) (Ext.new hp)
theorem LE.slc {fa:DE}{fl fh:Ev->Mo (Option Int)}(σ:St)(H:Hp)(Q:VK)(h:LE K (fun ρ=>do let x <- fa ρ;let l <- fl ρ;let h <- fh ρ;sliceD x l h) σ H Q):tSl (RSl K) (LE K fa) (LO K fl) (LO K fh) σ H Q:=by
 obtain⟨ι,ρ,M,d,M',S,R,e,k⟩:=h;have e0:=bind_ok e;clear e;obtain⟨x,M1,e1,e⟩:=e0;have e0:=bind_ok e;clear e;obtain⟨l,M2,e2,e⟩:=e0;have e0:=bind_ok e;clear e;obtain⟨r,M3,e3,e⟩:=e0;refine⟨ι,ρ,M,x,M1,S,R,e1,fun v1 H1 ι1 r1 S1 X1=>?_⟩;refine⟨ι1,ρ,M1,l,M2,S1,R.mono X1,e2,fun H2 ι2 S2 X2=>?_⟩;refine⟨ι2,ρ,M2,r,M3,S2,(R.mono X1).mono X2,e3,fun H3 ι3 S3 X3=>?_⟩;exact⟨ι3,M3,M',x,d,S3,(r1.mono X2).mono X3,e,fun v H' ι' r' S' X'=>k v H' ι' r' S' (((X1.trans X2).trans X3).trans X')⟩
theorem LE.call {fa:Ev->Mo (List D)}{g:List D->Mo D}{m:Nat}(σ:St)(H:Hp)(Q:VK)(hm:∀ ds M d M',g ds M=some (.ok d,M')->ds.length=m)(h:LE K (fun ρ=>do let xs <- fa ρ;g xs) σ H Q):tCall (spOf K m g) [] E0 (LA K fa) σ H Q:=by
 obtain⟨ι,ρ,M,d,M',S,R,e,k⟩:=h;have e0:=bind_ok e;clear e;obtain⟨xs,M1,e1,e⟩:=e0;refine⟨ι,ρ,M,xs,M1,S,R,e1,fun vs H1 ι1 r1 S1 X1=>?_⟩;show spOf K m g (vs++[]) H1 Q E0;rw[ya];exact⟨by rw[<- r1.length];exact hm _ _ _ _ e,ι1,M1,M',xs,d,S1,r1,e,fun v H' ι' r' S' X'=>k v H' ι' r' S' (X1.trans X')⟩
theorem LE.blt {fa:Ev->Mo (List D)}{g:List D->Mo D}(σ:St)(H:Hp)(Q:VK)(h:LE K (fun ρ=>do let xs <- fa ρ;g xs) σ H Q):tCB (RLS K g) (LA K fa) σ H Q:=by
 obtain⟨ι,ρ,M,d,M',S,R,e,k⟩:=h;have e0:=bind_ok e;clear e;obtain⟨xs,M1,e1,e⟩:=e0;refine⟨ι,ρ,M,xs,M1,S,R,e1,fun vs H1 ι1 r1 S1 X1=>?_⟩;exact⟨ι1,M1,M',xs,d,S1,r1,e,fun v H' ι' r' S' X'=>k v H' ι' r' S' (X1.trans X')⟩
theorem LA.nil (σ:St)(H:Hp)(Q:List V->Hp->Prop)(h:LA K (fun _=>pure []) σ H Q):tNil σ H Q:=by
 obtain⟨ι,ρ,M,d,M',S,R,e,k⟩:=h;have e0:=pure_ok e;clear e;obtain⟨rfl,rfl⟩:=e0;exact k [] H ι .nil S Ext.refl
theorem LA.cons {fa:DE}{fs:Ev->Mo (List D)}(σ:St)(H:Hp)(Q:List V->Hp->Prop)(h:LA K (fun ρ=>do let x <- fa ρ;let xs <- fs ρ;pure (x::xs)) σ H Q):tCons (LE K fa) (LA K fs) σ H Q:=by
 obtain⟨ι,ρ,M,d,M',S,R,e,k⟩:=h;have e0:=bind_ok e;clear e;obtain⟨x,M1,e1,e⟩:=e0;have e0:=bind_ok e;clear e;obtain⟨xs,M2,e2,e⟩:=e0;have e0:=pure_ok e;clear e;obtain⟨rfl,rfl⟩:=e0;refine⟨ι,ρ,M,x,M1,S,R,e1,fun v1 H1 ι1 r1 S1 X1=>?_⟩;exact⟨ι1,ρ,M1,xs,_,S1,R.mono X1,e2,fun vs H2 ι2 r2 S2 X2=>k _ H2 ι2 (.cons (r1.mono X2) r2) S2 (X1.trans X2)⟩
theorem LO.none (σ:St)(H:Hp)(Q:Option Int->Hp->Prop)(h:LO K (fun _=>pure Option.none) σ H Q):tNoPart σ H Q:=by
 obtain⟨ι,ρ,M,d,M',S,R,e,k⟩:=h;have e0:=pure_ok e;clear e;obtain⟨rfl,rfl⟩:=e0;exact k H ι S Ext.refl
theorem LO.some {fa:DE}(σ:St)(H:Hp)(Q:Option Int->Hp->Prop)(h:LO K (fun ρ=>do
  let x <- fa ρ
  (match x with
  | .int i=>pure (Option.some i)
  | _=>Mo.stop)) σ H Q):tPart (LE K fa) σ H Q:=by
 obtain⟨ι,ρ,M,d,M',S,R,e,k⟩:=h;have e0:=bind_ok e;clear e;obtain⟨x,M1,e1,e⟩:=e0;refine⟨ι,ρ,M,x,M1,S,R,e1,fun v1 H1 ι1 r1 S1 X1=>?_⟩;cases r1 with
 | int i=>have e0:=pure_ok e;clear e;obtain⟨rfl,rfl⟩:=e0;exact⟨i,rfl,k H1 ι1 S1 X1⟩
 | _=>exact(stop_ok e).elim
theorem LT.test {fa:DE}(σ:St)(H:Hp)(Q:Bool->Hp->Prop)(h:LT K (fun ρ=>do let x <- fa ρ;lift (boolD x)) σ H Q):tTest (LE K fa) σ H Q:=by
 obtain⟨ι,ρ,M,b,M',S,R,e,k⟩:=h;have e0:=bind_ok e;clear e;obtain⟨x,M1,e1,e⟩:=e0;have e0:=lift_ok e;clear e;obtain⟨hb,rfl⟩:=e0;refine⟨ι,ρ,M,x,_,S,R,e1,fun v1 H1 ι1 r1 S1 X1=>?_⟩;cases r1 <;> simp[boolD]at hb;subst hb;exact⟨_,rfl,k H1 ι1 S1 X1⟩
theorem LT.not {fa:Ev->Mo Bool}(σ:St)(H:Hp)(Q:Bool->Hp->Prop)(h:LT K (fun ρ=>do let k <- fa ρ;pure (!k)) σ H Q):tNot (LT K fa) σ H Q:=by
 obtain⟨ι,ρ,M,b,M',S,R,e,k⟩:=h;have e0:=bind_ok e;clear e;obtain⟨x,M1,e1,e⟩:=e0;have e0:=pure_ok e;clear e;obtain⟨rfl,rfl⟩:=e0;exact⟨ι,ρ,M,x,_,S,R,e1,fun H1 ι1 S1 X1=>k H1 ι1 S1 X1⟩
theorem LT.and {fa fb:Ev->Mo Bool}(σ:St)(H:Hp)(Q:Bool->Hp->Prop)(h:LT K (fun ρ=>do let k <- fa ρ;if k=true then fb ρ else pure false) σ H Q):tAnd (LT K fa) (LT K fb) σ H Q:=by
 obtain⟨ι,ρ,M,b,M',S,R,e,k⟩:=h;have e0:=bind_ok e;clear e;obtain⟨x,M1,e1,e⟩:=e0;refine⟨ι,ρ,M,x,M1,S,R,e1,fun H1 ι1 S1 X1=>?_⟩;split at e
 ·rename_i hb
  rw[if_pos hb];exact⟨ι1,ρ,_,b,M',S1,R.mono X1,e,fun H' ι' S' X'=>k H' ι' S' (X1.trans X')⟩
 ·rename_i hb
  rw[if_neg hb];have e0:=pure_ok e;clear e;obtain⟨rfl,rfl⟩:=e0;exact k H1 ι1 S1 X1
theorem LT.or {fa fb:Ev->Mo Bool}(σ:St)(H:Hp)(Q:Bool->Hp->Prop)(h:LT K (fun ρ=>do let k <- fa ρ;if k=true then pure true else fb ρ) σ H Q):tOr (LT K fa) (LT K fb) σ H Q:=by
 obtain⟨ι,ρ,M,b,M',S,R,e,k⟩:=h;have e0:=bind_ok e;clear e;obtain⟨x,M1,e1,e⟩:=e0;refine⟨ι,ρ,M,x,M1,S,R,e1,fun H1 ι1 S1 X1=>?_⟩;split at e
 ·rename_i hb
  rw[if_pos hb];have e0:=pure_ok e;clear e;obtain⟨rfl,rfl⟩:=e0;exact k H1 ι1 S1 X1
 ·rename_i hb
  rw[if_neg hb];exact⟨ι1,ρ,_,b,M',S1,R.mono X1,e,fun H' ι' S' X'=>k H' ι' S' (X1.trans X')⟩
theorem pt_tru {X:Cx}{a:Expr}{fa:DE}(ha:PE X a (LE X.K fa))(he:∀ whole,isTrue a X.env whole=(do let v <- whole;standAt a.pos;holding [v] (truthy v))):PT X a (LT X.K fun ρ=>do let x <- fa ρ;truD x):=by
 intro pins s σ H Q I h;obtain⟨ι,ρ,M,b,M',S,R,e,k⟩:=h;have e0:=bind_ok e;clear e;obtain⟨x,M1,e1,e⟩:=e0;refine isTrue_plain (thn (ha pins s σ H (fun v H1=>∃ ι M M' d b,Sim X.K ι M H1/\Rep X.K ι H1 d v/\truD d M=some (.ok b,M')/\(M'=M->Q b H1)) I ⟨ι,ρ,M,x,M1,S,R,e1,fun v1 H1 ι1 r1 S1 X1=>⟨ι1,M1,M',x,b,S1,r1,e,fun z=>by subst z;exact k H1 ι1 S1 X1⟩⟩) fun v s1 ⟨x,H1,I1,r1,q1⟩=>tru_all pins s1 σ H1 x v Q I1 r1 q1) (he _)
end
end L3
namespace L3
open PySem PySem.Spec PyProof.Rows L2
section
variable {Γ:Ctx}{n:Nat}
theorem mem_of_contains {x:Str}{l:List Str}(h:l.contains x=true):x∈l:=by simpa using h
noncomputable def clOf (cells:List (Str×Addr)):List (Str×NameKind)->List (Str×Addr)->List (Str×Addr)
 | [],acc=>acc
 | p::r,acc=>clOf cells r (if p.2==.free then (p.1,(cells.lookup p.1).getD 0)::acc else acc)
theorem clOf_look {cells:List (Str×Addr)}{y:Str}{c:Addr}:∀ {names:List (Str×NameKind)} {acc:List (Str×Addr)},(∀ p∈names,p.2=.free->∃ c,cells.lookup p.1=some c)->(acc.lookup y=some c->cells.lookup y=some c) ->
  (clOf cells names acc).lookup y=some c->cells.lookup y=some c
 | [],acc,_,ha,h=>ha h
 | p::r,acc,hf,ha,h=>by
  unfold clOf at h;refine clOf_look (names:=r) (fun q hq=>hf q (zP _ hq)) (fun h'=>?_) h;by_cases hp:p.2=.free
  ·rw[if_pos (by simpa using hp)]at h'
   obtain⟨c',hc'⟩:=hf p zU hp;rw[hc',wa,yY]at h';by_cases hy:y=p.1
   ·subst hy
    simp at h';subst h';exact hc'
   ·have:(y==p.1)=false:=beq_eq_false_iff_ne.mpr hy
    rw[this]at h';exact ha h'
  ·rw[if_neg (by simpa using hp)]at h'
   exact ha h'
theorem clOf_acc {cells:List (Str×Addr)}{y:Str}:∀ {names:List (Str×NameKind)} {acc:List (Str×Addr)},(∃ c,acc.lookup y=some c)->∃ c,(clOf cells names acc).lookup y=some c
 | [],_,h=>h
 | p::r,acc,h=>by
  unfold clOf;refine clOf_acc (names:=r) ?_;split
  ·rw[yY]
   split
   ·exact⟨_,rfl⟩
   ·exact h
  ·exact h
theorem clOf_has {cells:List (Str×Addr)}{y:Str}:∀ {names:List (Str×NameKind)} {acc:List (Str×Addr)},(y,NameKind.free)∈names->∃ c,(clOf cells names acc).lookup y=some c
 | [],_,h=>by simp at h
 | p::r,acc,h=>by
  unfold clOf;rcases zO.mp h with h | h
  ·subst h
   refine clOf_acc ?_;rw[if_pos (by simp),yY];simp
  ·exact clOf_has h
theorem closureFor_eq {scope:Scope}{env:Env}(h:∀ p∈scope.names,p.2=.free->∃ c,env.cells.lookup p.1=some c):closureFor scope env=pure (clOf env.cells scope.names []):=by
 have gen:∀ (names:List (Str×NameKind)) (acc:List (Str×Addr)),(∀ p∈names,p.2=.free->∃ c,env.cells.lookup p.1=some c) ->
   (forIn names acc (fun (x:Str×NameKind) (r:List (Str×Addr))=>if (x.2==NameKind.free)=true then (cellOf env x.1 >>= fun a=>(pure (ForInStep.yield ((x.1,a)::r)):Sem (ForInStep (List (Str×Addr))))) else pure (ForInStep.yield r)):Sem (List (Str×Addr)))=pure (clOf env.cells names acc):=by
  intro names;induction names with
  | nil=>intro acc _;rfl
  | cons p r ih =>
   intro acc hf;rw[wK];obtain⟨name,kind⟩:=p;dsimp only;by_cases hk:kind=.free
   ·subst hk
    obtain⟨c,hc⟩:=hf (name,.free) zU rfl;have e:cellOf env name=pure c:=by unfold cellOf;rw[hc]
    rw[if_pos (by rfl),e];simp only[pure_bind];rw[ih _ fun q hq=>hf q (zP _ hq)]
    conv=>rhs;unfold clOf
    dsimp only;rw[if_pos (by rfl),hc];rfl
   ·have hb:(kind==NameKind.free)=false:=by simpa using hk
    rw[if_neg (by rw[hb];exact zo)];simp only[pure_bind];rw[ih _ fun q hq=>hf q (zP _ hq)]
    conv=>rhs;unfold clOf
    dsimp only;rw[if_neg (by rw[hb];exact zo)]
 unfold closureFor;refine Eq.trans ?_ (gen scope.names [] h);exact bind_pure _
theorem compOk_sc {S:Sc}{X:Cx}{sc:Scope}{xs:List Str}(C:CxOk Γ S X)(hx:X.Ok)(h:compOk S sc xs=true):CompSc X sc (clOf X.env.cells sc.names []) xs (xs++blank S.N xs):=by
 unfold compOk at h;simp only[zk,yf,bne_iff_ne,ne_eq,beq_iff_eq,xr,decide_eq_true_eq]at h;obtain⟨⟨⟨⟨⟨⟨h1,h2⟩,h5⟩,h6⟩,h7⟩,h8⟩,h9⟩:=h;have hout:∀ y,sc.names.lookup y=some .free->X.env.kindOf y=some .cell\/X.env.kindOf y=some .free:=fun y hy=>by
  rcases h6 _ (lookup_mem hy) with z | z
  ·exact absurd rfl z
  ·have z':S.sc.names.lookup y=some .cell\/S.sc.names.lookup y=some .free:=z
   rcases z' with z | z
   ·obtain⟨k',q1,rfl | ⟨q2,_⟩⟩:=C.sc _ _ z
    ·exact .inl q1
    ·cases q2
   ·obtain⟨k',q1,rfl | ⟨_,rfl⟩⟩:=C.sc _ _ z
    ·exact .inr q1
    ·exact .inl q1
 have hfree:∀ p∈sc.names,p.2=.free->∃ c,X.env.cells.lookup p.1=some c:=fun p hp hf=>by
  refine hx.has p.1 (hout p.1 ?_);rw[(h7 p hp).1,hf]
 refine⟨h1,fun y hy=>(h5 y hy).1,fun x hx=>(h2 x hx).1.1,fun y hy hl=>by rw[(h7 y hy).1,hl],fun y hy=>?_,closureFor_eq hfree,fun y c=>clOf_look hfree (fun z=>by cases z),fun y hy=>clOf_has (lookup_mem hy),hout,h9,fun i y hy=>?_,fun i y hy=>?_,?_⟩
 ·rcases (h5 _ (lookup_mem hy)).2 with z | z
  ·exact absurd rfl z
  ·rcases z with z | z
   ·exact .inl (by simpa using z)
   ·exact .inr z
 ·rw[zF (zr.mp hy).1]
  exact hy
 ·have hy':(blank S.N xs)[i]?=some y:=by
   rw[ze (Nat.le_add_left ..),vt]at hy;exact hy
  unfold blank at hy';rw[zh]at hy';cases q:S.N[i]? with
  | none=>rw[q]at hy';cases hy'
  | some z =>
   rw[q]at hy';simp only[xf,Option.some.injEq]at hy';by_cases hz:z∈xs
   ·rw[if_pos (by simpa using hz)]at hy'
    subst hy';refine⟨fun e=>(h2 _ e).2 rfl,by decide,.inr fun hv=>?_⟩;have nb:∀ k,sc.names.lookup ("" : Str)=some k->False:=fun k e=>(h7 _ (lookup_mem e)).2 rfl;rcases hv with e | e | e
    ·exact nb _ e
    ·exact nb _ e
    ·exact nb _ e
   ·rw[if_neg (by simpa using hz)]at hy'
    subst hy';exact⟨hz,h8 _ (zQ q),.inl (by rw[C.n];exact q)⟩
 ·show (xs++blank S.N xs).length=X.N.length + xs.length
  unfold blank;rw[zq,zw,C.n,vk]
theorem comp_cx {S:Sc}{X:Cx}{sc:Scope}{x:List Str}(C:CxOk Γ S X)(h:compOk S sc x=true)(cl:List (Str×Addr))(Ca:Addr)(s:Shared)(H:Hp)(fp:List Addr):CxOk Γ (S.comp sc x) (cxComp X sc cl Ca (x++blank S.N x) s H fp) where
 n:=rfl
 sc:=fun y k hy=>by
  have e:(relabel sc X.env).names.lookup y=(sc.names.lookup y).map fun k=>if (k==NameKind.free&&X.env.scope.kind==.function&&X.env.kindOf y==some .cell) then NameKind.cell else k:=kind_relabel;have hy':sc.names.lookup y=some k:=hy;rw[hy']at e;refine⟨_,e,?_⟩;dsimp only;split
  ·rename_i hc
   simp only[zk,beq_iff_eq]at hc;exact .inr ⟨hc.1.1,rfl⟩
  ·exact .inl rfl
 calm:=C.calm
 hu:=C.hu
 nox:=rfl
 fns:=C.fns
 gls:=C.gls
 bls:=C.bls
 nd:=by
  unfold compOk at h;simp only[zk,decide_eq_true_eq]at h;exact h.2
theorem pg_own {X:Cx}{sc:Scope}{cl:List (Str×Addr)}{xs N':List Str}(CS:CompSc X sc cl xs N'){i:Nat}{x:Str}{px:Pos}(h:xs[i]?=some x)(Ca:Addr)(s:Shared)(H:Hp)(fp:List Addr):PG (cxComp X sc cl Ca N' s H fp) (.Name x px) (gName i) :=
 pg_name CS.nd (CS.n0 i x h) (.inl (lookup_relabel_local (CS.loc x (zQ h)))) (.inr (lookup_relabel_local (CS.loc x (zQ h))))
theorem pe_compS {S:Sc}{X:Cx}{sc:Scope}{x:Str}{px pos:Pos}{elt iter:Expr}{ifs:List Expr}{j:Nat}{fs:Ev->Mo Src}{fc:Ev->Mo Bool}{fe:DE}(C:CxOk Γ S X)(h:compOk S sc [x]=true)(hi:PI X (.Name x px) iter (LI X.K fs))(hs:∀ x,foldedSetIterable iter X.env x=pure x)
  (htc:∀ X',CxOk Γ (S.comp sc [x]) X'->X'.K=X.K->PTs X' ifs (LT X'.K fc)) (hte:∀ X',CxOk Γ (S.comp sc [x]) X'->X'.K=X.K->PE X' elt (LE X'.K fe)) :
  PE X (.ListComp elt [⟨.Name x px,iter,ifs,0⟩] sc pos) (LE X.K (fun ρ=>do
   let s <- fs ρ
   need (s.ds.length<=zn)
   let ys <- compD s.ck fc fe (ρ.set j none) s.ds
   newM (.lst ys))):=by
 intro pins s σ H Q I q;have CS:=compOk_sc C I.ok h;exact pe_comp C.calm CS (fun _ _ _ _=>pg_own CS rfl _ _ _ _) hi (fun Ca s H fp=>htc _ (comp_cx C h _ Ca s H fp) rfl) (fun Ca s H fp=>hte _ (comp_cx C h _ Ca s H fp) rfl) hs pins s σ H Q I (LE.comp σ H Q q)
theorem bl_boot {x:Str}{m:Nat}{b:Bl}(h:blOf x m=some b):bootBuiltins x=some (blVal b)/\∃ y:String,x=Str.ofString y:=by
 unfold blOf at h;have key:∀ (y:String) (k:Nat),(x==(Str.ofString y)&&m==k)=true->x=Str.ofString y:=fun y k e=>by
  simp only[zk,beq_iff_eq]at e;exact e.1
 split at h
 ·rename_i e;cases h;rw[key _ _ e];exact⟨by decide +kernel,_,rfl⟩
 split at h
 ·rename_i e;cases h;rw[key _ _ e];exact⟨by decide +kernel,_,rfl⟩
 split at h
 ·rename_i e;cases h;rw[key _ _ e];exact⟨by decide +kernel,_,rfl⟩
 split at h
 ·rename_i e;cases h;rw[key _ _ e];exact⟨by decide +kernel,_,rfl⟩
 split at h
 ·rename_i e;cases h;rw[key _ _ e];exact⟨by decide +kernel,_,rfl⟩
 split at h
 ·rename_i e;cases h;rw[key _ _ e];exact⟨by decide +kernel,_,rfl⟩
 split at h
 ·rename_i e;cases h;rw[key _ _ e];exact⟨by decide +kernel,_,rfl⟩
 split at h
 ·rename_i e;cases h;rw[key _ _ e];exact⟨by decide +kernel,_,rfl⟩
 split at h
 ·rename_i e;cases h;rw[key _ _ e];exact⟨by decide +kernel,_,rfl⟩
 split at h
 ·rename_i e;cases h;rw[key _ _ e];exact⟨by decide +kernel,_,rfl⟩
 split at h
 ·rename_i e;cases h;rw[key _ _ e];exact⟨by decide +kernel,_,rfl⟩
 ·cases h
theorem plainIx_of {b:Expr}(h:ixE b=true):PlainIx b:=by
 intro o i;cases b <;> first
  | rfl
  | exact absurd h zo
end
end L3
namespace L3
open PySem
noncomputable def Rise (xs:Array Nat):Prop:=xs.toList.Pairwise (· < ·)
theorem Rise.lt {xs:Array Nat}(h:Rise xs){i j:Nat}(hij:i < j)(hj:j < xs.size):xs[i] < xs[j]:=by
 have:=yz.mp h i j (by simp;omega) (by simpa using hj) hij
 simpa using this
theorem below_go {xs:Array Nat}(h:Rise xs)(j:Nat):∀ (f lo hi:Nat),lo<=hi->hi<=xs.size->hi - lo<=f->(∀ i (hx:i < xs.size),i < lo->xs[i] < j)->(∀ i (hx:i < xs.size),hi<=i->j<=xs[i]) ->
  SetTable.below.go xs j f lo hi<=xs.size/\(∀ i (hx:i < xs.size),i < SetTable.below.go xs j f lo hi->xs[i] < j)/\(∀ i (hx:i < xs.size),SetTable.below.go xs j f lo hi<=i->j<=xs[i])
 | 0,lo,hi,h1,h2,h3,h4,h5=>by
  have:lo=hi:=by omega
  subst this;exact⟨h2,h4,h5⟩
 | f + 1,lo,hi,h1,h2,h3,h4,h5=>by
  unfold SetTable.below.go;by_cases c:lo < hi
  ·rw[if_pos c]
   dsimp only;have hm:(lo + hi) / 2 < xs.size:=by omega
   have e:xs.getD ((lo + hi) / 2) j=xs[(lo + hi) / 2]:=by simp[wI,hm]
   rw[e];by_cases d:xs[(lo + hi) / 2] < j
   ·rw[if_pos d]
    refine below_go h j f _ _ (by omega) h2 (by omega) (fun i hi' hl=>?_) h5;by_cases k:i=(lo + hi) / 2
    ·subst k;exact d
    ·exact vW (h.lt (show i < (lo + hi) / 2 by omega) hm) d
   ·rw[if_neg d]
    refine below_go h j f _ _ (by omega) (by omega) (by omega) h4 fun i hi' hl=>?_;by_cases k:i=(lo + hi) / 2
    ·subst k;omega
    ·have:=h.lt (show (lo + hi) / 2 < i by omega) hi'
     omega
  ·rw[if_neg c]
   have:lo=hi:=by omega
   subst this;exact⟨h2,h4,h5⟩
theorem below_ok {xs:Array Nat}(h:Rise xs)(j:Nat):SetTable.below xs j<=xs.size/\(∀ i (hi:i < xs.size),i < SetTable.below xs j->xs[i] < j)/\(∀ i (hi':i < xs.size),SetTable.below xs j<=i->j<=xs[i]) :=
 below_go h j xs.size 0 xs.size (zV _) (zp _) (by omega) (fun i _ hl=>by omega) fun i hi hl=>by omega
theorem below_at {xs:Array Nat}(h:Rise xs){i:Nat}(hi:i < xs.size):SetTable.below xs (xs[i] + 1)=i + 1:=by
 obtain⟨a,b,c⟩:=below_ok h (xs[i] + 1);rcases vf (SetTable.below xs (xs[i] + 1)) (i + 1) with k | k | k
 ·have:=c i hi (by omega)
  omega
 ·exact k
 ·have h1:i + 1 < xs.size:=by omega
  have:=b (i + 1) h1 k
  have:=h.lt (show i < i + 1 by omega) h1
  omega
theorem below_zero {xs:Array Nat}(h:Rise xs):SetTable.below xs 0=0:=by
 obtain⟨a,b,c⟩:=below_ok h 0;rcases vq (SetTable.below xs 0) with k | k
 ·exact k
 ·exact absurd (b 0 (by omega) k) (vK _)
theorem ins_rise {xs:Array Nat}(h:Rise xs){j:Nat}(hj:xs[SetTable.below xs j]?≠some j):Rise (SetTable.insertAt xs (SetTable.below xs j) j):=by
 obtain⟨a,b,c⟩:=below_ok h j;unfold Rise SetTable.insertAt;rw[zc,xp,zL,zL];simp only[zW,yR,vg];rw[yu (l:=xs.toList.drop (SetTable.below xs j)) (by simp)];rw[zA,xK];refine yJ.mpr ⟨h.sublist (xD _ _),?_,?_⟩
 ·refine xv.mpr ⟨fun y hy=>?_,h.sublist (ve _ _)⟩
  obtain⟨i,hi,e⟩:=yU.mp hy;rw[zM,zK]at hi;rw[yK,xR]at e;have h1:=c (SetTable.below xs j + i) (by omega) (by omega);rw[e]at h1;rcases xu h1 with k | k
  ·exact k
  ·exfalso
   have h0:SetTable.below xs j < xs.size:=by omega
   by_cases i0:i=0
   ·subst i0
    refine hj ?_;rw[getElem?_pos xs _ h0,show xs[SetTable.below xs j]=y from e,k]
   ·have h2:=h.lt (show SetTable.below xs j < SetTable.below xs j + i by omega) (by omega)
    have h3:=c (SetTable.below xs j) h0 (zp _);rw[e]at h2;omega
 ·intro x hx y hy
  obtain⟨i,hi,e⟩:=yU.mp hx;rw[za,zK]at hi;rw[yV,xR]at e;have h1:x < j:=e ▸ b i (by omega) (by omega);rcases zO.mp hy with rfl | hy
  ·exact h1
  ·obtain⟨i',hi',e'⟩:=yU.mp hy
   rw[zM,zK]at hi';rw[yK,xR]at e'
   have:=c (SetTable.below xs j + i') (by omega) (by omega)
   omega
theorem has_nil (j:Nat):SetTable.has #[] j=false:=by
 unfold SetTable.has;simp
theorem probe_go {t:SetTable}{h:Int}(hd:t.dummies = #[]):∀ (f:Nat) (p:SetTable.Probe) (j:Nat) (d:Option Nat),p.dummy=none->SetTable.probe.go t (fun _=>h + 1) h f p=some (.empty j d)->d=none/\t.slot j=.empty
 | 0,p,j,d,_,e=>by
  unfold SetTable.probe.go at e;cases e
 | f + 1,p,j,d,hp,e=>by
  unfold SetTable.probe.go at e;have adv:∀ q:SetTable.Probe,q.dummy=none->(t.advance q).dummy=none:=fun q hq=>by
   unfold SetTable.advance;split
   ·exact hq
   ·exact hq
  split at e
  ·rename_i hs
   cases e;exact⟨hp,hs⟩
  ·rename_i hs
   exfalso;unfold SetTable.slot at hs
   rw[hd,has_nil]at hs;dsimp only at hs;split at hs
   ·cases hs
   ·cases hs
  ·rename_i i hs
   rw[if_neg (by simp;omega)]at e;exact probe_go hd f _ j d (adv p hp) e
theorem free_ok {t:SetTable}{h:Int}(hd:t.dummies = #[]){sl:Nat}{wd:Bool}(e:t.freeSlot h=some (sl,wd)):t.place[SetTable.below t.place sl]?≠some sl:=by
 unfold SetTable.freeSlot at e;split at e
 ·rename_i j d q
  unfold SetTable.probe at q;obtain⟨rfl,hs⟩:=probe_go hd _ _ j d rfl q;cases e;unfold SetTable.slot at hs;dsimp only at hs;intro z;show False;rw[if_pos (by simpa using z)]at hs;cases hs
 ·cases e
noncomputable def Gd (t:SetTable):Prop:=t.plain=true->Rise t.place/\t.dummies = #[]
theorem stand_gd (t:SetTable)(n:Nat):Gd (t.standIn n):=fun h=>by cases h
theorem lay_gd {t:SetTable}(g:Gd t)(es:Array (Int×Value))(h:Int)(x:Value):Gd (layNew t es h x).2.1:=by
 unfold layNew;split
 ·rename_i sl wd e
  dsimp only;unfold SetTable.orStandIn;split
  ·intro hp
   obtain⟨g1,g2⟩:=g hp;refine⟨ins_rise g1 (free_ok g2 e),?_⟩;show (if SetTable.has t.dummies sl=true then _ else t.dummies) = #[];rw[g2,has_nil];rfl
  ·exact stand_gd _ _
 ·exact stand_gd _ _
theorem laid_gd {m f v:Nat}{l p:Bool}{hs:Array Int}{t:SetTable}{o:Array Nat}(e:SetTable.laid m f v l p hs=some (t,o)):Gd t:=by
 unfold SetTable.laid at e;cases hl:SetTable.layClean m hs with
 | none=>rw[hl]at e;cases e
 | some ow =>
  rw[hl]at e;cases e;refine fun _=>⟨?_,rfl⟩;unfold Rise;show List.Pairwise (· < ·) (((List.range (m + 1)).filterMap fun j=>(ow.getD j none).map (j,·)).map (·.1))
  have:∀ l:List Nat,l.Pairwise (· < ·)->((l.filterMap fun j=>(ow.getD j none).map (j,·)).map (·.1)).Pairwise (· < ·)/\∀ x∈(l.filterMap fun j=>(ow.getD j none).map (j,·)).map (·.1),x∈l:=fun l=>by
   induction l with
   | nil=>exact fun _=>⟨List.Pairwise.nil,fun _ h=>nomatch h⟩
   | cons a l ih =>
    intro hp;obtain⟨i1,i2⟩:=ih (xv.mp hp).2;rw[yM];cases ow.getD a none with
    | none=>exact⟨i1,fun x hx=>zP _ (i2 x hx)⟩
    | some b =>
     refine⟨xv.mpr ⟨fun x hx=>(xv.mp hp).1 x (i2 x hx),i1⟩,fun x hx=>?_⟩;rcases zO.mp hx with rfl | hx
     ·exact zU
     ·exact zP _ (i2 x hx)
  exact(this _ List.pairwise_lt_range).1
theorem relay_gd (t:SetTable)(es:Array (Int×Value))(n:Nat):Gd (relayAll t es n).2.1:=by
 unfold relayAll;split
 ·rename_i t' o e
  dsimp only;split
  ·exact laid_gd e
  ·exact stand_gd _ _
 ·exact stand_gd _ _
end L3
namespace L3
open PySem PySem.Spec PyProof.Rows L2
noncomputable def intOf:Value->Int
 | .int y _=>y
 | _=>0
theorem or_led (t:SetTable)(n:Nat):(t.orStandIn n).led=t.led:=by
 unfold SetTable.orStandIn;split <;> rfl
theorem lay_led (t:SetTable)(es:Array (Int×Value))(h:Int)(x:Value):(layNew t es h x).2.1.led=t.led:=by
 unfold layNew;split
 ·exact or_led _ _
 ·rfl
theorem relay_led (t:SetTable)(es:Array (Int×Value))(n:Nat):(relayAll t es n).2.1.led=t.led/\(t.plain=false->(relayAll t es n).2.1.plain=false):=by
 unfold relayAll;split
 ·rename_i t' order e
  have z:t'.led=t.led/\t'.plain=t.plain:=by
   unfold SetTable.relaid SetTable.laid at e;cases hl:SetTable.layClean (SetTable.sizeAbove n - 1) (es.map (·.1)) with
   | none=>rw[hl]at e;cases e
   | some ow=>rw[hl]at e;cases e;exact⟨rfl,rfl⟩
  dsimp only;split
  ·exact⟨z.1,fun q=>z.2.trans q⟩
  ·exact⟨rfl,fun _=>rfl⟩
 ·exact⟨rfl,fun _=>rfl⟩
section
variable {prog:Program}{w:World}{A:Around}{E:Value->Shared->Prop}{s:Shared}
noncomputable def SSet (prog:Program)(w:World)(h:Heap)(a:Addr)(xs:List Int)(led:Bool):Prop :=
 ∃ o es ep t,h.get? a=some o/\o.ExactSet/\o.data=.set es ep t/\ElemsOf (mixKind prog w) es.toList/\(∀ e∈es.toList,∃ y u,e.2=.int y u)/\(es.toList.map fun e=>intOf e.2).Perm xs/\es.size < scanBound/\t.fits es.size=true/\t.led=led/\Gd t
theorem SSet.at {h h':Heap}{a:Addr}{xs:List Int}{led:Bool}(x:SSet prog w h a xs led)(k:∀ o,h.get? a=some o->h'.get? a=some o):SSet prog w h' a xs led :=
 let ⟨o,es,ep,t,e,r⟩:=x;⟨o,es,ep,t,k o e,r⟩
theorem sset_add {a:Addr}{xs:List Int}{led:Bool}{x:Int}{u:Tok}{Q:Bool->Shared->Prop}(hS:SSet prog w s.heap a xs led)(hr:xs.length + 1 < scanBound)
  (q:∀ r h',Heap.SameBut a s.heap h'->SSet prog w h' a (addS xs x) led->Q r { s with heap:=h' }):wpAny (model prog w) A (setAddHashed a (.int x u) ((mixKind prog w).hash (.inl x))) Q E s:=by
 obtain⟨o,es,ep,t,g1,gx,g2,el,hst,hp,hb,hf,hl,hpl⟩:=hS;have key:(mixKind prog w).is (.inl x) (.int x u)=true:=mixKind_int prog w x u;have hn:es.size=xs.length:=by rw[<- hp.length_eq,zw,zK]
 have isx:∀ e∈es.toList,(mixKind prog w).is (.inl x) e.2=decide (x=intOf e.2):=fun e he=>by
  obtain⟨y,v,ey⟩:=hst e he;rw[ey,KeyKind.is_eq_decide (mixKind_int prog w y v) (.inl x)];show decide ((Sum.inl x:Key)=.inl y)=decide (x=y);by_cases z:x=y
  ·rw[decide_eq_true z,decide_eq_true (by rw[z])]
  ·rw[decide_eq_false z,decide_eq_false fun z'=>z (by injection z')]
 unfold setAddHashed setAddHashedIn;refine wpAny_holding (zz (wpAny_setState_of g1 g2 hf ?_));dsimp only;rw[byScan_of (show (Value.int x u).scannable=true from rfl) hb el];simp only[↓reduceIte];unfold setAddByScan;refine zz (zz (wpAny_rule (zz (wpAny_setScan_of key g1 g2 hf el ?_))));cases hi:List.findIdx? (fun e=>(mixKind prog w).is (.inl x) e.2) es.toList with
 | some j =>
  dsimp only;obtain⟨hj,hpj,_⟩:=yA.mp hi;have hm:=yx hj;rw[isx _ hm]at hpj;have hx:x∈xs:=hp.mem_iff.mp (yj.mpr ⟨_,hm,(of_decide_eq_true hpj).symm⟩);refine zu (zu ?_)
  have:=q false s.heap (Heap.SameBut.refl a s.heap) (by unfold addS;rw[if_pos hx];exact⟨o,es,ep,t,g1,gx,g2,el,hst,hp,hb,hf,hl,hpl⟩)
  exact this
 | none =>
  dsimp only;have hx:¬ x∈xs:=fun z=>by
   obtain⟨e,he,ez⟩:=yj.mp (hp.mem_iff.mpr z)
   have:=List.findIdx?_eq_none_iff.mp hi e he
   rw[isx e he,ez,decide_eq_true rfl]at this;cases this
  have lperm:=layNew_perm t es ((mixKind prog w).hash (.inl x)) (.int x u);have lfits:=layNew_fits t es ((mixKind prog w).hash (.inl x)) (.int x u);have lled:=lay_led t es ((mixKind prog w).hash (.inl x)) (.int x u);have lgd:=lay_gd hpl es ((mixKind prog w).hash (.inl x)) (.int x u);generalize layNew t es ((mixKind prog w).hash (.inl x)) (.int x u)=L at lperm lfits lled lgd ⊢;obtain⟨e1,t1,dm,gv⟩:=L;dsimp only at lperm lfits lled lgd ⊢;rw[xp]at lperm;have el1:ElemsOf (mixKind prog w) e1.toList:=(el.push key rfl).perm lperm;have st1:∀ e∈e1.toList,∃ y u,e.2=.int y u:=fun e he=>by
   rcases zG.mp (lperm.mem_iff.mp he) with he | he
   ·exact hst e he
   ·rw[zJ.mp he];exact⟨x,u,rfl⟩
  have p1:(e1.toList.map fun e=>intOf e.2).Perm (xs++[x]):=by
   refine(lperm.map _).trans ?_;rw[zd];exact hp.append_right _
  have z1:e1.size=xs.length + 1:=by rw[<- zK,<- zw (f:=fun e:Int×Value=>intOf e.2),p1.length_eq,zq];rfl
  have b1:e1.size < scanBound:=by rw[z1];exact hr
  have gw:∀ (b:Bool) {s1:Shared} {Q':Unit->Shared->Prop},Q' () s1->wpAny (model prog w) A (match b with | true=>rule "set.scan.the-table-gave-way" | false=>pure ()) Q' E s1:=fun b s1 Q' h=>by
   cases b
   ·exact zu h
   ·exact wpAny_rule h
  refine zz (gw _ ?_);have fin:∀ t2:SetTable,t2.fits e1.size=true->t2.led=led->Gd t2->∀ {R:Option Bool->Shared->Prop},(∀ h',Heap.SameBut a s.heap h'->SSet prog w h' a (addS xs x) led->R (some true) { s with heap:=h' }) ->
    wpAny (model prog w) A (do
     storeSet a e1 t2
     if (!dm&&t2.tooFull)=true then do
      (match (relayAll t2 e1 (SetTable.grown e1.size)).2.2 with | true=>rule "set.scan.the-table-gave-way" | false=>pure ())
      storeSet a (relayAll t2 e1 (SetTable.grown e1.size)).1 (relayAll t2 e1 (SetTable.grown e1.size)).2.1
      pure (some true)
     else pure (some true)) R E s:=fun t2 f2 l2 pl2 {R} h=>by
   refine zz (wpAny_storeSet_of g1 g2 ?_ (fits_of_scanBound b1));have ho1:(s.heap.update a (Obj.putSet e1 t2)).get? a=some { o with data:=.set e1 (ep + 1) t2 }:=by
    have:=yd (Obj.putSet e1 t2) g1 (by rw[putSet_of e1 t2 g2];rfl)
    rw[putSet_of e1 t2 g2]at this;exact this
   have hadd:addS xs x=xs++[x]:=if_neg hx;split
   ·have rp:=relayAll_perm t2 e1 (SetTable.grown e1.size)
    have rf:=relayAll_fits t2 e1 (SetTable.grown e1.size);have rl:=relay_led t2 e1 (SetTable.grown e1.size);have rg:=relay_gd t2 e1 (SetTable.grown e1.size);generalize relayAll t2 e1 (SetTable.grown e1.size)=Rl at rp rf rl rg ⊢;obtain⟨e2,t3,g3⟩:=Rl;dsimp only at rp rf rl rg ⊢;have z2:e2.size=e1.size:=by rw[<- zK,rp.length_eq,zK]
    have b2:e2.size < scanBound:=by rw[z2];exact b1
    refine zz (gw _ (zz (wpAny_storeSet_of ho1 rfl ?_ (fits_of_scanBound b2))));have ho2:((s.heap.update a (Obj.putSet e1 t2)).update a (Obj.putSet e2 t3)).get? a=some { o with data:=.set e2 (ep + 1 + 1) t3 }:=by
     have:=yd (Obj.putSet e2 t3) ho1 (by rw[putSet_of e2 t3 rfl];rfl)
     rw[putSet_of e2 t3 rfl]at this;exact this
    exact zu (h _ ((Heap.SameBut.update ..).trans (Heap.SameBut.update ..)) ⟨_,e2,_,t3,ho2,gx,rfl,el1.perm rp,fun e he=>st1 e (rp.mem_iff.mp he),by rw[hadd];exact(rp.map _).trans p1,b2,rf,rl.1.trans l2,rg⟩)
   ·exact zu (h _ (Heap.SameBut.update ..) ⟨_,e1,_,t2,ho1,gx,rfl,el1,st1,by rw[hadd];exact p1,b1,f2,l2,pl2⟩)
  split
  ·refine zz ?_
   rw[hashByValue_scannable 8 (show (Value.int x u).scannable=true from rfl)];refine zu ?_;simp only[plainKind,↓reduceIte];exact fin t1 lfits (lled.trans hl) lgd fun h' sb z=>zu (q true h' sb z)
  ·refine zz (zu ?_)
   simp only[↓reduceIte];exact fin t1 lfits (lled.trans hl) lgd fun h' sb z=>zu (q true h' sb z)
end
end L3
namespace L3
open PySem PySem.Spec PyProof.Rows L2
section
variable {prog:Program}{w:World}{A:Around}{E:Value->Shared->Prop}{s:Shared}
theorem addAll_len:∀ (ys xs:List Int),xs.length<=(addAll xs ys).length
 | [],_=>zp _
 | y::ys,xs=>by
  refine zS ?_ (addAll_len ys (addS xs y));unfold addS;split
  ·exact zp _
  ·rw[zq];exact vC _ _
theorem set_loop {led:Bool}{R:Result->Shared->Prop}{s₀:Shared}{S it a:Addr}{items:List Value}(hA:A.handled=none)(ha:s₀.heap.IsList a items.toArray)(nS:S≠it)(na:a≠S)(ni:a≠it) :
  ∀ (us:List Value) (ys xs:List Int) (i:Nat) (s:Shared),items.drop i=us->IntsAre us ys->s.heap.IsListIter it a i->SSet prog w s.heap S xs led->(addAll xs ys).length + 1 < scanBound ->
   s.gens=s₀.gens->s.drawn=s₀.drawn->s.os=s₀.os->(∀ b o,b≠S->b≠it->s₀.heap.get? b=some o->s.heap.get? b=some o) ->
   (∀ h' tk,SSet prog w h' S (addAll xs ys) led->(∀ b o,b≠S->b≠it->s₀.heap.get? b=some o->h'.get? b=some o)->R (.ok (.ret .none)) { s₀ with heap:=h',toks:=tk }) ->
   codeAny (model prog w) A (.builtin "set.update.loop" ⟨[.ref S,.ref it],[]⟩) R s
 | [],_,xs,i,s,e0,hst,hi,hS,hz,e1,e2,e3,kk,fin=>by
  cases hst;refine codeAny_builtin PyProof.Rows.F.entry_set_update_loop ?_;unfold Builtin.«set.update.loop»;have ha':s.heap.IsList a items.toArray:=ha.at fun o e=>kk a o na ni e;refine zz (wpAny_pyNext_list_end hA hi ha' (by simpa using e0) fun h' eb=>?_);refine zu ?_
  have:=fin h' s.toks (hS.at fun o e=>eb S o nS e) fun b o n1 n2 e=>eb b o n2 (kk b o n1 n2 e)
  rw[<- e1,<- e2,<- e3]at this;exact this
 | _::us,_,xs,i,s,e0,hst,hi,hS,hz,e1,e2,e3,kk,fin=>by
  cases hst with | @cons x u _ ys hr =>
  refine codeAny_builtin PyProof.Rows.F.entry_set_update_loop ?_;unfold Builtin.«set.update.loop»;have ha':s.heap.IsList a items.toArray:=ha.at fun o e=>kk a o na ni e;have hget:items[i]?=some (.int x u):=by
   have:=congrArg (fun l=>l[0]?) e0
   simpa using this
  refine zz (wpAny_pyNext_list_item hi ha' (by simpa using hget) fun h' hi' sb=>?_);have hS1:SSet prog w h' S xs led:=hS.at fun o e=>(sb.2 S nS).trans e;have hz':=addAll_len (x::ys) xs;show wpAny _ _ (holding [Value.int x u] (setAdd S (.int x u)) >>= _) _ _ _;refine zz (wpAny_holding ?_);unfold setAdd;refine wpAny_holding (zz ((mixKind prog w).pyHash (k:=.inl x) (mixKind_int prog w x u) ?_));refine sset_add (s:={ s with heap:=h',toks:=s.toks + 1 }) hS1 (by omega) fun r h2 sb2 hS2=>?_;have sb2:Heap.SameBut S h' h2:=sb2;refine zu ⟨Code.quiet_builtin _ (by decide +kernel),?_⟩;refine set_loop hA ha nS na ni us ys (addS xs x) (i + 1) _ ?_ hr ?_ hS2 ?_ e1 e2 e3 (fun b o n1 n2 e=>?_) fin
  ·rw[<- yb,e0];rfl
  ·exact hi'.extBut sb2.extBut (Ne.symm nS)
  ·exact hz
  ·exact(sb2.2 b n1).trans ((sb.2 b n2).trans (kk b o n1 n2 e))
noncomputable def ledOf (w:World):Bool:=!(w.params.followText "set-order")
theorem new_set (a:Value){Q₁:Value->Shared->Prop}(q:Q₁ (.ref s.heap.objs.size) { s with heap:=s.heap.push { cls:=.type "set",dict:=none,data:=.set #[] 0 (.fresh 0 0 (ledOf w)) } }) :
  codeAny (model prog w) A (.call (.builtin "set.__new__") ⟨[.type "set",a],[]⟩) (wants Q₁ E) s:=by
 refine codeAny_of_tree ?_;show wpAny _ A.in1 (do checkBuiltinCall "set.__new__" ⟨[.type "set",a],[]⟩;again (.builtin "set.__new__" ⟨[.type "set",a],[]⟩)) _ _ s;refine zz (wpAny_of_eq (PySem.F.newCall_set_1 a) (zu ⟨plainId_quiet PySem.F.plain_set_new _,codeAny_builtin PySem.F.entry_set_new ?_⟩));rw[Around.under_plainId PySem.F.plain_set_new _];unfold Builtin.«set.__new__» Builtin.Frozenset.newClass;have sub1:=sub_set_self;obtain⟨hp,g,d,tk,os⟩:=s;dsimp only;wp_walk;refine wpAny_askSetting (zu ?_);dsimp only;simp only[newObj];exact zz (wpAny_alloc (zu (zu q)))
set_option maxRecDepth 100000 in
theorem call_set_strs {l:Addr}{items:List Value}{ys:List Int}{Q:Value->Shared->Prop}(hh:A.handled=none)(hl:s.heap.IsList l items.toArray)(hi:IntsAre items ys)(hb:(addAll [] ys).length + 1 < scanBound)
  (q:∀ (h':Heap) (tk:Nat),SSet prog w h' s.heap.objs.size (addAll [] ys) (ledOf w)->(∀ b o,s.heap.get? b=some o->h'.get? b=some o)->Q (.ref s.heap.objs.size) { s with heap:=h',toks:=tk }) :
  wpAny (model prog w) A (call (.type "set") [.ref l]) Q E s:=by
 obtain⟨c,tl,hmro⟩:=PySem.F.called_set.mro;have hmade:=PySem.F.called_set.made;have hsub:=PySem.F.called_set.sub;refine wpAny_call (codeAny_of_tree ?_);show wpAny _ _ (callAny (.type "set") _) _ _ _;refine zu ⟨Code.quiet_builtin _ (by decide +kernel),codeAny_builtin PySem.F.entry_type_call ?_⟩;rw[Around.under_plain (weight_type_call_type "set" [.ref l] []) rfl];have h1:=PySem.F.called_set.notType;have h2:=PySem.F.called_set.canCreate;have hct:=PySem.F.typeCall_set_1 (.ref l)
 repeat (any_goals (first | assumption | wp_step))
 refine codeAny_mono (new_set (.ref l) (E:=E) (Q₁:=fun obj s₁=>obj=.ref s.heap.objs.size/\s₁ = { s with heap:=s.heap.push { cls:=.type "set",dict:=none,data:=.set #[] 0 (.fresh 0 0 (ledOf w)) } }) ⟨rfl,rfl⟩) fun r s₁ hr=>?_;cases r with
 | error e=>exact hr
 | ok fl =>
  cases fl with
  | ret obj =>
   obtain⟨rfl,rfl⟩:=hr;have gS:(s.heap.push { cls:=.type "set",dict:=none,data:=.set #[] 0 (.fresh 0 0 (ledOf w)) }).get? s.heap.objs.size=some { cls:=.type "set",dict:=none,data:=.set #[] 0 (.fresh 0 0 (ledOf w)) }:=zj _ rfl;have ty:Shared.TypeIs { s with heap:=s.heap.push { cls:=.type "set",dict:=none,data:=.set #[] 0 (.fresh 0 0 (ledOf w)) } } (.ref s.heap.objs.size) "set":=⟨_,gS,rfl⟩;have hli:=PySem.F.called_set.init.lookup;have hbi:=PySem.F.called_set.init.bind (.ref s.heap.objs.size)
   repeat (any_goals (first | assumption | wp_step))
   refine codeAny_mono (codeAny_call_builtin (R:=wants (fun r s₂=>r=.none/\∃ h' tk,s₂ = { s with heap:=h',toks:=tk }/\SSet prog w h' s.heap.objs.size (addAll [] ys) (ledOf w)/\(∀ b o,s.heap.get? b=some o->h'.get? b=some o)) E) PySem.F.called_set.init.plain PySem.F.entry_set_init (check_set_init_1 ty ?_)) fun r₂ s₂ hr₂=>?_
   ·obtain⟨ol,hol,hcl,nl,hdl⟩:=id hl
    obtain⟨oc,od,odt,osl⟩:=ol;simp only at hcl hdl;subst hcl hdl;have hol':(s.heap.push { cls:=.type "set",dict:=none,data:=.set #[] 0 (.fresh 0 0 (ledOf w)) }).get? l=some { cls:=.type "list",dict:=od,data:=.seq items.toArray nl,slots:=osl }:=zv _ hol;have f1:=PySem.F.sub_list_set;have f2:=PySem.F.sub_list_frozenset;have f3:(Value.type "list"==Value.type "dict")=false:=by decide
    have hl1:(s.heap.push { cls:=.type "set",dict:=none,data:=.set #[] 0 (.fresh 0 0 (ledOf w)) }).IsList l items.toArray:=⟨_,hol',rfl,nl,rfl⟩;unfold Builtin.«set.__init__» noKeywords Builtin.Frozenset.updateFrom;generalize hPI:pyIter=PI;wp_walk;subst hPI;refine wpAny_pyIter_list hl1 ?_;refine zz (wpAny_runValue ?_);have lt:l < s.heap.objs.size:=zi hol;have sz:(s.heap.push { cls:=.type "set",dict:=none,data:=.set #[] 0 (.fresh 0 0 (ledOf w)) }).objs.size=s.heap.objs.size + 1:=yI ..;have S0:SSet prog w ((s.heap.push { cls:=.type "set",dict:=none,data:=.set #[] 0 (.fresh 0 0 (ledOf w)) }).push { cls:=.type "list_iterator",data:=.fields #[.ref l,.int 0 0] }) s.heap.objs.size [] (ledOf w) :=
     ⟨_,#[],0,_,zv _ gS,⟨rfl,rfl,rfl⟩,rfl,(fun e he=>by simp at he),(fun e he=>by simp at he),.nil,(by unfold scanBound;decide),rfl,rfl,fun _=>⟨List.Pairwise.nil,rfl⟩⟩
    refine set_loop (led:=ledOf w) (s₀:={ s with heap:=(s.heap.push { cls:=.type "set",dict:=none,data:=.set #[] 0 (.fresh 0 0 (ledOf w)) }).push { cls:=.type "list_iterator",data:=.fields #[.ref l,.int 0 0] } }) (S:=s.heap.objs.size) (it:=(s.heap.push { cls:=.type "set",dict:=none,data:=.set #[] 0 (.fresh 0 0 (ledOf w)) }).objs.size) (a:=l) (items:=items) (by simp[hh]) (hl1.push _) (by rw[sz];exact zB (yQ _)) (zB lt) (by rw[sz];exact zB (xE lt)) items ys [] 0 _ rfl hi ⟨_,zj _ rfl,rfl,rfl⟩ S0 hb rfl rfl rfl (fun b o _ _ e=>e) fun h' tk hS' kk=>?_;show wpAny _ _ _ _ _ _;refine zu ?_;show wpAny _ _ (ret Value.none) _ _ _;refine zu ⟨rfl,h',tk,rfl,hS',fun b o e=>?_⟩;have hb:=zi e;exact kk b o (zB hb) (by rw[sz];exact zB (xE hb)) (zv _ (zv _ e))
   ·cases r₂ with
    | error e=>exact hr₂
    | ok fl₂ =>
     cases fl₂ with
     | ret r =>
      obtain⟨rfl,h',tk,rfl,hS',hk'⟩:=hr₂
      repeat (any_goals (first | assumption | wp_step))
      exact q _ _ hS' hk'
     | _=>exact hr₂
  | _=>exact hr
end
end L3
namespace L3
open PySem PySem.Spec PyProof.Rows L2
theorem slot_si:Slot "set_iterator" "__next__" "set_iterator.__next__" :=
 Slot.of (owner:="set_iterator") (n:="__next__") (by rw[typeLookup_type,builtinLookup_eq_fast];kernel_rfl) (by decide +kernel) (by decide +kernel) (by decide +kernel) (by first | exact .inl (by decide +kernel) | exact .inr (by decide +kernel)) (by rw[isSubtype_type];kernel_rfl)
theorem entry_si:entryFor table "set_iterator.__next__" = some Builtin.«set_iterator.__next__»:=entryFor_of_tree (by kernel_rfl)
theorem args_si (a:Value):argsOk "set_iterator.__next__" ⟨[a],[]⟩:=by unfold argsOk;kernel_rfl
theorem entry_sit:entryFor table "set.__iter__" = some Builtin.«frozenset.__iter__»:=entryFor_alias (id':="frozenset.__iter__") (by kernel_rfl) (by decide +kernel) (by decide +kernel) (by kernel_rfl)
theorem er_perm {α:Type}:∀ {l:List α} {i:Nat} (h:i < l.length),(l[i]::l.eraseIdx i).Perm l
 | _::_,0,_=>.refl _
 | x::l,i + 1,h=>by
  have h':i < l.length:=by simpa using h
  exact(List.Perm.swap x l[i] _).trans ((er_perm h').cons x)
section
variable {prog:Program}{w:World}{A:Around}{E:Value->Shared->Prop}{s:Shared}
theorem wp_draw {src:Source}{n:Nat}{Q:Nat->Shared->Prop}(hn:n≠0)(q:∀ i d,i < n->Q i { s with drawn:=d }):wpAny (model prog w) A (choose src n) Q E s:=fun Γ p _=>by
 show Sem.wp _ _ (.choose src n .pure) _ _ _ _;rw[Sem.wp_choose];exact⟨hn,q _ _ (vP _ (Nat.pos_of_ne_zero hn))⟩
theorem wp_order {α:Type}:∀ (n:Nat) (xs:List α) (s:Shared) {Q:List α->Shared->Prop},xs.length=n->(∀ ys d,ys.Perm xs->Q ys { s with drawn:=d })->wpAny (model prog w) A (drawOrder n xs) Q E s
 | 0,xs,s,Q,h,q=>by
  obtain rfl:=xS h;exact zu (q [] s.drawn .nil)
 | n + 1,[],s,Q,h,q=>by cases h
 | n + 1,x::xs,s,Q,h,q=>by
  unfold drawOrder;refine zz (wp_draw (by simp) fun i d hi=>?_);rw[zt hi];dsimp only;refine zz (wp_order n ((x::xs).eraseIdx i) _ (by rw[ww hi,h];rfl) fun ys d' p=>?_);exact zu (q _ _ ((p.cons _).trans (er_perm hi)))
theorem pick_go {α:Type}(f:Nat->Nat):∀ (n k:Nat) (l:List α) (out:Array α),l.length=n->(pickOrder.go f n k l out).toList.Perm (out.toList++l)
 | 0,_,l,out,h=>by
  obtain rfl:=xS h;unfold pickOrder.go;rw[ya]
 | n + 1,k,l,out,h=>by
  unfold pickOrder.go;have hlt:f k % l.length < l.length:=vP _ (by omega);rw[zt hlt];dsimp only;refine(pick_go f n (k + 1) _ _ (by rw[ww hlt,h];rfl)).trans ?_;rw[xp,zA];exact(er_perm hlt).append_left _
theorem pick_perm {α:Type}(f:Nat->Nat)(xs:Array α):(pickOrder f xs).toList.Perm xs.toList:=by
 have:=pick_go f xs.size 0 xs.toList #[] (by simp)
 simpa [pickOrder] using this
noncomputable def SIt (h:Heap)(I a:Addr)(first:Value)(i n ep:Nat):Prop:=∃ o,h.get? I=some o/\o.cls=.type "set_iterator"/\o.data=.fields #[first,.int i 0,.ref a,.int n 0,.int ep 0]
theorem SIt.ty {I a:Addr}{first:Value}{i n ep:Nat}(x:SIt s.heap I a first i n ep):s.TypeIs (.ref I) "set_iterator":=let ⟨o,h,c,_⟩:=x;⟨o,h,c⟩
theorem SIt.at {h h':Heap}{I a:Addr}{first:Value}{i n ep:Nat}(x:SIt h I a first i n ep)(k:∀ o,h.get? I=some o->h'.get? I=some o):SIt h' I a first i n ep:=let ⟨o,e,r⟩:=x;⟨o,k o e,r⟩
variable {I a:Addr}{so:Obj}{es:Array (Int×Value)}{ep:Nat}{t:SetTable}
structure SAt (h:Heap) (a:Addr) (so:Obj) (es:Array (Int×Value)) (ep:Nat) (t:SetTable):Prop where
 g:h.get? a=some so
 d:so.data=.set es ep t
 f:t.fits es.size=true
theorem wp_ent {Q:Array (Int×Value)->Shared->Prop}(S:SAt s.heap a so es ep t)(q:Q es s):wpAny (model prog w) A (setEntries a) Q E s:=by
 unfold setEntries;exact zz (wpAny_setState_of S.g S.d S.f (zu q))
theorem wp_txt {Q:Bool->Shared->Prop}(q:Q (w.params.followText "set-order") s):wpAny (model prog w) A setsByText Q E s:=by
 unfold setsByText;exact zz (wpAny_askSetting (zu q))
theorem si_put {vs:Array Value}{o:Obj}{i:Nat}{x:Value}{Q:Unit->Shared->Prop}(k1:s.heap.get? I=some o)(k2:o.cls=.type "set_iterator")(k3:o.data=.fields vs)(hi:i < vs.size)
  (q:∀ h' o',h'.get? I=some o'->o'.cls=.type "set_iterator"->o'.data=.fields (vs.setIfInBounds i x)->Heap.SameBut I s.heap h'->Q () { s with heap:=h' }):wpAny (model prog w) A (setField (.ref I) i x) Q E s :=
 wpAny_setField k1 k3 hi (q _ _ (yd _ k1 (Obj.isFreed_of_fields (Obj.data_mapFields k3 _))) ((Obj.cls_mapFields ..).trans k2) (Obj.data_mapFields k3 _) (Heap.SameBut.update ..))
theorem si_stop {o:Obj}{vs:Array Value}{Q:Option Value->Shared->Prop}{P:PySem.Fin->Shared->Prop}(hh:A.handled=none)(k1:s.heap.get? I=some o)(k2:o.cls=.type "set_iterator")(k3:o.data=.fields vs)(hi:2 < vs.size)(q:∀ h',Heap.ExtBut I s.heap h'->Q none { s with heap:=h' }) :
  wpAny (model prog w) A.in1 (do setField (.ref I) 2 .none;let e <- newExc (.type "StopIteration") [];raiseNew e:Sem PySem.Fin) P (fun e s'=>wpAny (model prog w) A (do let b <- isInstance e (.type "StopIteration");if b=true then pure none else throw e) Q E s') s:=by
 refine zz (si_put k1 k2 k3 hi fun h1 o1 _ _ _ sb=>?_);refine zz ?_;simp only[newExc,newTuple];refine zz (wpAny_newObj_type (zz (m:=firstArgMember _ _) (wpAny_of_eq (a:=Value.none) (by first | rfl | (simp only[firstArgMember];rfl)) ?_)) (by size_fits))
 refine wpAny_newObj_type ?_ (by size_fits);simp only[raiseNew];refine zz (wpAny_handled ?_);rw[show A.in1.handled=none from hh];refine zz (zu (wpAny_throw ?_));exact zz (wpAny_isInstance (T:="StopIteration") (b:=true) ⟨_,zj _ rfl,rfl⟩ isSubtype_stop (zu (q _ ((sb.extBut.push _).push _))))
theorem siA_next {i:Nat}{Q:Option (Value×Nat)->Shared->Prop}(hb:w.params.followText "set-order" = true)(S:SAt s.heap a so es ep t)(q:Q (((pickOrder (w.params.setOrder a ep) es)[i]?).map fun e=>(e.2,0)) s):wpAny (model prog w) A (setNext a 0 i ep) Q E s:=by
 unfold setNext;refine zz (wpAny_setState_of S.g S.d S.f ?_);dsimp only;refine zz (wp_txt ?_);rw[hb,if_pos rfl,if_neg (by simp)];refine zz ?_;unfold setWalk;refine zz (wpAny_setState_of S.g S.d S.f ?_);dsimp only;refine zz (wp_txt ?_);rw[hb,if_pos rfl];exact zz (wpAny_askSetting (zu (zu q)))
theorem siA_item {i:Nat}{e:Int×Value}{Q:Option Value->Shared->Prop}(hb:w.params.followText "set-order" = true)(st:SIt s.heap I a (.int 0 0) i es.size ep)(S:SAt s.heap a so es ep t)(hx:(pickOrder (w.params.setOrder a ep) es)[i]?=some e)
  (q:∀ h',SIt h' I a (.int 0 0) (i + 1) es.size ep->Heap.SameBut I s.heap h'->Q (some e.2) { s with heap:=h' }):wpAny (model prog w) A (pyNext (.ref I)) Q E s:=by
 obtain⟨o,k1,k2,k3⟩:=id st;unfold pyNext;refine zz (wpAny_attempt (wpAny_callSpecial?_slot (name:=Str.ofString "__next__") st.ty slot_si (wpAny_call_entry slot_si st.ty entry_si ?_ (args_si _))));unfold Builtin.«set_iterator.__next__»;refine zz (zu ?_);refine zz (wpAny_fieldsOf k1 k3 ?_);dsimp only;refine zz (wp_ent S ?_);rw[if_neg (by simp)];simp only[ye];refine zz (siA_next hb S ?_);rw[hx];dsimp only[Option.map];refine zz (si_put k1 k2 k3 (by simp) fun h1 o1 j1 j2 j3 sb1=>zz (si_put (s:={ s with heap:=h1 }) j1 j2 j3 (by simp) fun h2 o2 l1 l2 l3 sb2=>?_));exact zu ⟨_,rfl,zu (q h2 ⟨o2,l1,l2,by rw[l3];simp[rawInt]⟩ (sb1.trans sb2))⟩
theorem siA_end {i:Nat}{Q:Option Value->Shared->Prop}(hh:A.handled=none)(hb:w.params.followText "set-order" = true)(st:SIt s.heap I a (.int 0 0) i es.size ep)(S:SAt s.heap a so es ep t)(hx:(pickOrder (w.params.setOrder a ep) es)[i]?=none)
  (q:∀ h',Heap.ExtBut I s.heap h'->Q none { s with heap:=h' }):wpAny (model prog w) A (pyNext (.ref I)) Q E s:=by
 obtain⟨o,k1,k2,k3⟩:=id st;unfold pyNext;refine zz (wpAny_attempt (wpAny_callSpecial?_slot (name:=Str.ofString "__next__") st.ty slot_si (wpAny_call_entry slot_si st.ty entry_si ?_ (args_si _))));unfold Builtin.«set_iterator.__next__»;refine zz (zu ?_);refine zz (wpAny_fieldsOf k1 k3 ?_);dsimp only;refine zz (wp_ent S ?_);rw[if_neg (by simp)];simp only[ye];refine zz (siA_next hb S ?_);rw[hx];exact si_stop hh k1 k2 k3 (by simp) q
theorem siB_item {i p:Nat}{pt:Addr}{po:Obj}{ps:List Nat}{c:Nat}{e:Int×Value}{Q:Option Value->Shared->Prop}(st:SIt s.heap I a (.ref pt) i es.size ep)(S:SAt s.heap a so es ep t)(g1:s.heap.get? pt=some po)(g2:po.data=.seq (ps.map fun (i:Nat)=>rawInt i).toArray c)(hp:ps[i]?=some p)(hx:es[p]?=some e)
  (q:∀ h',SIt h' I a (.ref pt) (i + 1) es.size ep->Heap.SameBut I s.heap h'->Q (some e.2) { s with heap:=h' }):wpAny (model prog w) A (pyNext (.ref I)) Q E s:=by
 obtain⟨o,k1,k2,k3⟩:=id st;unfold pyNext;refine zz (wpAny_attempt (wpAny_callSpecial?_slot (name:=Str.ofString "__next__") st.ty slot_si (wpAny_call_entry slot_si st.ty entry_si ?_ (args_si _))));unfold Builtin.«set_iterator.__next__»;refine zz (zu ?_);refine zz (wpAny_fieldsOf k1 k3 ?_);dsimp only;refine zz (wp_ent S ?_);rw[if_neg (by simp)];simp only[ye];refine zz (wpAny_seqItems g1 g2 ?_);have hpl:((ps.map fun (i:Nat)=>rawInt i).toArray)[i]?=some (.int p 0):=by simp[hp,rawInt]
 dsimp only;rw[hpl];dsimp only;refine zz ?_;unfold setNextDrawn;refine zz (wpAny_setState_of S.g S.d S.f ?_);dsimp only;rw[if_neg (by simp),ye,hx];refine zu ?_;refine zz (si_put k1 k2 k3 (by simp) fun h1 o1 j1 j2 j3 sb1=>?_);exact zu ⟨_,rfl,zu (q h1 ⟨o1,j1,j2,by rw[j3];simp[rawInt]⟩ sb1)⟩
theorem siB_end {i:Nat}{pt:Addr}{po:Obj}{ps:List Nat}{c:Nat}{Q:Option Value->Shared->Prop}(hh:A.handled=none)(st:SIt s.heap I a (.ref pt) i es.size ep)(S:SAt s.heap a so es ep t)(g1:s.heap.get? pt=some po)(g2:po.data=.seq (ps.map fun (i:Nat)=>rawInt i).toArray c)(hp:ps[i]?=none)
  (q:∀ h',Heap.ExtBut I s.heap h'->Q none { s with heap:=h' }):wpAny (model prog w) A (pyNext (.ref I)) Q E s:=by
 obtain⟨o,k1,k2,k3⟩:=id st;unfold pyNext;refine zz (wpAny_attempt (wpAny_callSpecial?_slot (name:=Str.ofString "__next__") st.ty slot_si (wpAny_call_entry slot_si st.ty entry_si ?_ (args_si _))));unfold Builtin.«set_iterator.__next__»;refine zz (zu ?_);refine zz (wpAny_fieldsOf k1 k3 ?_);dsimp only;refine zz (wp_ent S ?_);rw[if_neg (by simp)];simp only[ye];refine zz (wpAny_seqItems g1 g2 ?_);have hpl:((ps.map fun (i:Nat)=>rawInt i).toArray)[i]?=none:=by simpa using hp
 dsimp only;rw[hpl];dsimp only;refine zz (si_put k1 k2 k3 (by simp) fun h1 o1 j1 j2 j3 sb1=>?_);exact si_stop (s:={ s with heap:=h1 }) hh j1 j2 j3 (by simp) fun h' eb=>q h' (sb1.extBut.trans eb)
end
end L3
namespace L3
open PySem PySem.Spec PyProof.Rows L2
section
variable {prog:Program}{w:World}{A:Around}{E:Value->Shared->Prop}{s:Shared}{I a:Addr}{so:Obj}{es:Array (Int×Value)}{ep:Nat}{t:SetTable}
theorem siC_next {slot i:Nat}{Q:Option (Value×Nat)->Shared->Prop}(hb:w.params.followText "set-order" = false)(hl:t.led=true)(h1:(!t.plain&&decide (es.size > 1))=false)(S:SAt s.heap a so es ep t)
  (q:Q (match es[SetTable.below t.place slot]?,t.place[SetTable.below t.place slot]? with
   | some (_,x),some j=>some (x,j + 1)
   | _,_=>none) s):wpAny (model prog w) A (setNext a slot i ep) Q E s:=by
 unfold setNext;refine zz (wpAny_setState_of S.g S.d S.f ?_);dsimp only;refine zz (wp_txt ?_);rw[hb,if_neg zo];split
 ·rename_i z
  have z:(!t.plain&&decide (es.size > 1))=true:=z;rw[h1]at z;cases z
 ·refine zz (m:=if (!t.led&&!es.isEmpty)=true then unsupported "set:maker-not-led" else pure ()) ?_
  rw[hl,if_neg (by simp)];exact zu (zu q)
theorem siC_run {slot i:Nat}{r:Option (Value×Nat)}{Q:Option Value->Shared->Prop}(hh:A.handled=none)(hb:w.params.followText "set-order" = false)(hl:t.led=true)(h1:(!t.plain&&decide (es.size > 1))=false)(st:SIt s.heap I a (.int slot 0) i es.size ep)(S:SAt s.heap a so es ep t)
  (hr:(match es[SetTable.below t.place slot]?,t.place[SetTable.below t.place slot]? with
   | some (_,x),some j=>some (x,j + 1)
   | _,_=>none)=r)
  (q1:∀ x k h',r=some (x,k)->SIt h' I a (.int k 0) (i + 1) es.size ep->Heap.SameBut I s.heap h'->Q (some x) { s with heap:=h' }) (q2:∀ h',r=none->Heap.ExtBut I s.heap h'->Q none { s with heap:=h' }):wpAny (model prog w) A (pyNext (.ref I)) Q E s:=by
 obtain⟨o,k1,k2,k3⟩:=id st;unfold pyNext;refine zz (wpAny_attempt (wpAny_callSpecial?_slot (name:=Str.ofString "__next__") st.ty slot_si (wpAny_call_entry slot_si st.ty entry_si ?_ (args_si _))));unfold Builtin.«set_iterator.__next__»;refine zz (zu ?_);refine zz (wpAny_fieldsOf k1 k3 ?_);dsimp only;refine zz (wp_ent S ?_);rw[if_neg (by simp)];simp only[ye];refine zz (siC_next hb hl h1 S ?_);rw[hr];cases r with
 | none=>exact si_stop hh k1 k2 k3 (by simp) fun h' eb=>q2 h' rfl eb
 | some p =>
  obtain⟨x,k⟩:=p;dsimp only;refine zz (si_put k1 k2 k3 (by simp) fun h1 o1 j1 j2 j3 sb1=>zz (si_put (s:={ s with heap:=h1 }) j1 j2 j3 (by simp) fun h2 o2 l1 l2 l3 sb2=>?_));exact zu ⟨_,rfl,zu (q1 x k h2 rfl ⟨o2,l1,l2,by rw[l3];simp[rawInt]⟩ (sb1.trans sb2))⟩
theorem SAt.at {h h':Heap}(S:SAt h a so es ep t)(k:∀ o,h.get? a=some o->h'.get? a=some o):SAt h' a so es ep t:=⟨k _ S.g,S.d,S.f⟩
theorem slot_sii:Slot "set_iterator" "__iter__" "set_iterator.__iter__" :=
 Slot.of (owner:="set_iterator") (n:="__iter__") (by rw[typeLookup_type,builtinLookup_eq_fast];kernel_rfl) (by decide +kernel) (by decide +kernel) (by decide +kernel) (by first | exact .inl (by decide +kernel) | exact .inr (by decide +kernel)) (by rw[isSubtype_type];kernel_rfl)
theorem entry_sii:entryFor table "set_iterator.__iter__" = some Builtin.«dict_keyiterator.__iter__»:=entryFor_alias (id':="dict_keyiterator.__iter__") (by kernel_rfl) (by decide +kernel) (by decide +kernel) (by kernel_rfl)
theorem args_sii (a:Value):argsOk "set_iterator.__iter__" ⟨[a],[]⟩:=by unfold argsOk;kernel_rfl
theorem pyIter_si {first:Value}{i n:Nat}{Q:Value->Shared->Prop}(st:SIt s.heap I a first i n ep)(q:Q (.ref I) s):wpAny (model prog w) A (pyIter (.ref I)) Q E s:=by
 refine wpAny_pyIter_slot st.ty slot_sii (wpAny_call_entry slot_sii st.ty entry_sii ?_ (args_sii _));show wpAny _ _ (ret (.ref I)) _ _ s;exact zu ⟨_,rfl,"set_iterator",_,st.ty,slot_si.lookup,q⟩
theorem wkA (hh:A.handled=none)(hb:w.params.followText "set-order" = true)(nI:a≠I):Walks prog w A I [I,a] [I] ((pickOrder (w.params.setOrder a ep) es).toList.map (·.2)).length (fun i v=>((pickOrder (w.params.setOrder a ep) es).toList.map (·.2))[i]?=some v) (fun i h=>SIt h I a (.int 0 0) i es.size ep/\SAt h a so es ep t) where
 sub:=fun b hb=>zO.mpr (.inl (zJ.mp hb))
 frame:=fun i h h' st k=>⟨st.1.at fun o e=>k I (by simp) o e,st.2.at fun o e=>k a (by simp) o e⟩
 item:=fun i s Q E hi st q=>by
  have hi':i < (pickOrder (w.params.setOrder a ep) es).size:=by simpa using hi
  have hx:=zZ hi';refine siA_item hb st.1 st.2 hx fun h' st' sb=>?_
  have:=q ((pickOrder (w.params.setOrder a ep) es)[i]).2 h' s.toks (by simp[hx]) ⟨st',st.2.at fun o e=>(sb.2 a nI).trans e⟩ fun b o hb e=>(sb.2 b (by simpa using hb)).trans e
  exact this
 done:=fun s Q E st q=>by
  refine siA_end hh hb st.1 st.2 (by simp) fun h' eb=>?_;exact q h' s.toks fun b o hb e=>eb b o (by simpa using hb) e
 self:=fun i s Q E st q=>pyIter_si st.1 q
noncomputable def PlAt (h:Heap)(pt:Addr)(ps:List Nat):Prop:=h.get? pt=some { cls:=.type "tuple",data:=.seq (ps.map fun (i:Nat)=>rawInt i).toArray }
theorem wkB {pt:Addr}{ps:List Nat}(hh:A.handled=none)(nI:a≠I)(nP:pt≠I)(hps:ps.Perm (List.range es.size)):Walks prog w A I [I,a,pt] [I] (ps.map fun p=>(es.getD p default).2).length (fun i v=>(ps.map fun p=>(es.getD p default).2)[i]?=some v) (fun i h=>SIt h I a (.ref pt) i es.size ep/\SAt h a so es ep t/\PlAt h pt ps) where
 sub:=fun b hb=>zO.mpr (.inl (zJ.mp hb))
 frame:=fun i h h' st k=>⟨st.1.at fun o e=>k I (by simp) o e,st.2.1.at fun o e=>k a (by simp) o e,k pt (by simp) _ st.2.2⟩
 item:=fun i s Q E hi st q=>by
  have hi':i < ps.length:=by simpa using hi
  have hp:=zt hi';have hlt:ps[i] < es.size:=yG.mp (hps.mem_iff.mp (yx hi'));refine siB_item st.1 st.2.1 st.2.2 rfl hp (zZ hlt) fun h' st' sb=>?_;exact q _ h' s.toks (by simp[hp,wI,hlt]) ⟨st',st.2.1.at fun o e=>(sb.2 a nI).trans e,(sb.2 pt nP).trans st.2.2⟩ fun b o hb e=>(sb.2 b (by simpa using hb)).trans e
 done:=fun s Q E st q=>by
  refine siB_end hh st.1 st.2.1 st.2.2 rfl (by simp) fun h' eb=>?_;exact q h' s.toks fun b o hb e=>eb b o (by simpa using hb) e
 self:=fun i s Q E st q=>pyIter_si st.1 q
noncomputable def slotC (t:SetTable):Nat->Nat
 | 0=>0
 | i + 1=>t.place.getD i 0 + 1
theorem slotC_at {t:SetTable}(hr:Rise t.place){i:Nat}(h:i<=t.place.size):SetTable.below t.place (slotC t i)=i:=by
 cases i with
 | zero=>exact below_zero hr
 | succ i =>
  have h':i < t.place.size:=h;have e:slotC t (i + 1)=t.place[i] + 1:=by
   show t.place.getD i 0 + 1=_;simp[wI,h']
  rw[e];exact below_at hr h'
theorem wkC (hh:A.handled=none)(hb:w.params.followText "set-order" = false)(hl:t.led=true)(h1:(!t.plain&&decide (es.size > 1))=false)(hr:Rise t.place)(nI:a≠I)(hf:t.fits es.size=true):Walks prog w A I [I,a] [I] (es.toList.map (·.2)).length (fun i v=>(es.toList.map (·.2))[i]?=some v) (fun i h=>i<=es.size/\SIt h I a (.int (slotC t i:Nat) 0) i es.size ep/\SAt h a so es ep t) where
 sub:=fun b hb=>zO.mpr (.inl (zJ.mp hb))
 frame:=fun i h h' st k=>⟨st.1,st.2.1.at fun o e=>k I (by simp) o e,st.2.2.at fun o e=>k a (by simp) o e⟩
 item:=fun i s Q E hi st q=>by
  have hi':i < es.size:=by simpa using hi
  simp only[SetTable.fits,zk,beq_iff_eq]at hf;have hp:i < t.place.size:=by rw[hf.1];exact hi'
  have e0:=slotC_at hr (wF hp);refine siC_run hh hb hl h1 st.2.1 st.2.2 rfl (fun x k h' hr st' sb=>?_) fun h' hr eb=>?_
  ·rw[e0,zZ hi',zZ hp]at hr
   cases hr;refine q _ h' s.toks (by simp[hi']) ⟨hi',?_,st.2.2.at fun o e=>(sb.2 a nI).trans e⟩ fun b o hb e=>(sb.2 b (by simpa using hb)).trans e
   have:slotC t (i + 1)=t.place[i] + 1:=by
    show t.place.getD i 0 + 1=_;simp[wI,hp]
   rw[this];exact st'
  ·rw[e0,zZ hi',zZ hp]at hr
   cases hr
 done:=fun s Q E st q=>by
  have hn:(es.toList.map (·.2)).length=es.size:=by simp
  rw[hn]at st;simp only[SetTable.fits,zk,beq_iff_eq]at hf;refine siC_run hh hb hl h1 st.2.1 st.2.2 rfl (fun x k h' hq st' sb=>?_) fun h' hq eb=>q h' s.toks fun b o hb e=>eb b o (by simpa using hb) e;exfalso;rw[slotC_at hr (yF hf.1.symm),xF (zp _)]at hq;cases hq
 self:=fun i s Q E st q=>pyIter_si st.2.1 q
theorem iter_set {xs:List Int}{Q:Value->Shared->Prop}(hh:A.handled=none)(hS:SSet prog w s.heap a xs (ledOf w))
  (q:∀ I h' d fp vs St,(∀ b o,s.heap.get? b=some o->h'.get? b=some o)->s.heap.objs.size<=I->(∀ b∈fp,b=a\/s.heap.objs.size<=b)->Walks prog w A I fp [I] vs.length (fun i v=>vs[i]?=some v) St->St 0 h'->(∃ ys,IntsAre vs ys/\ys.Perm xs)->Q (.ref I) { s with heap:=h',drawn:=d }) :
  wpAny (model prog w) A (pyIter (.ref a)) Q E s:=by
 obtain⟨so,es,ep,t,g1,gx,g2,el,hst,hp,hbd,hf,hl,hpl⟩:=hS;have S:SAt s.heap a so es ep t:=⟨g1,g2,hf⟩;have lta:a < s.heap.objs.size:=zi g1;have ty:s.TypeIs (.ref a) "set":=⟨so,g1,gx.1⟩;have sts:∀ l:List (Int×Value),l.Perm es.toList->∃ ys,IntsAre (l.map (·.2)) ys/\ys.Perm xs:=fun l pl=>by
  refine⟨l.map fun e=>intOf e.2,?_,(pl.map _).trans hp⟩;have hl':∀ e∈l,∃ y u,e.2=.int y u:=fun e he=>hst e (pl.mem_iff.mp he);clear pl;induction l with
  | nil=>exact .nil
  | cons e l ih =>
   obtain⟨y,u,ey⟩:=hl' e zU;rw[zH,zH,ey];exact .cons y u (ih fun e' h=>hl' e' (zP _ h))
 refine wpAny_pyIter_slot ty PySem.F.slot_set_iter (wpAny_call_entry PySem.F.slot_set_iter ty entry_sit ?_ (PySem.F.args_set_iter_1 _));unfold Builtin.«frozenset.__iter__»;refine zz (zu ?_);refine zz (zz (wp_ent S (zu ?_)));refine zz ?_;unfold setDrawn;refine zz (wpAny_setState_of g1 g2 hf ?_);dsimp only;refine zz (wp_txt (zu ?_));have nI:a≠s.heap.objs.size:=zB lta;cases hb:w.params.followText "set-order" with
 | true =>
  refine zz (zu ?_);refine zz (wpAny_setEpoch_of g1 g2 hf ?_);refine zz (wpAny_newObj_type (zu ⟨_,rfl,"set_iterator",_,⟨_,zj _ rfl,rfl⟩,slot_si.lookup,?_⟩));refine q s.heap.objs.size _ s.drawn [s.heap.objs.size,a] _ _ (fun b o e=>zv _ e) (zp _) (fun b hm=>?_) (wkA (ep:=ep) (es:=es) (so:=so) (t:=t) hh hb nI) ⟨⟨_,zj _ rfl,rfl,rfl⟩,S.at fun o e=>zv _ e⟩ (sts _ (pick_perm _ es));rcases zO.mp hm with e | hm
  ·exact .inr (yF e.symm)
  ·exact .inl (zJ.mp hm)
 | false =>
  have hled:t.led=true:=by rw[hl];unfold ledOf;rw[hb];rfl
  cases h1:(!t.plain&&decide (es.size > 1)) with
  | false =>
   have hc:(!false&&(!t.plain&&decide (es.size > 1)))=false:=by rw[h1];rfl
   have hrise:Rise t.place:=by
    simp only[SetTable.fits,zk,beq_iff_eq]at hf;cases hpl2:t.plain with
    | true=>exact(hpl hpl2).1
    | false =>
     rw[hpl2]at h1;simp only[wT,Bool.true_and,decide_eq_false_iff_not]at h1;unfold Rise;have hz:t.place.toList.length<=1:=by rw[zK,hf.1];omega
     match hq:t.place.toList,hz with
     | [],_=>exact List.Pairwise.nil
     | [x],_=>exact xC _ _
   show wpAny _ _ (if (!false&&(!t.plain&&decide (es.size > 1)))=true then _ else _) _ _ _;rw[hc,if_neg zo];refine zz (zu ?_);refine zz (wpAny_setEpoch_of g1 g2 hf ?_);refine zz (wpAny_newObj_type (zu ⟨_,rfl,"set_iterator",_,⟨_,zj _ rfl,rfl⟩,slot_si.lookup,?_⟩));refine q s.heap.objs.size _ s.drawn [s.heap.objs.size,a] _ _ (fun b o e=>zv _ e) (zp _) (fun b hm=>?_) (wkC (ep:=ep) (es:=es) (so:=so) (t:=t) hh hb hled h1 hrise nI hf) ⟨zV _,⟨_,zj _ rfl,rfl,rfl⟩,S.at fun o e=>zv _ e⟩ (sts _ (.refl _));rcases zO.mp hm with e | hm
   ·exact .inr (yF e.symm)
   ·exact .inl (zJ.mp hm)
  | true =>
   have hc:(!false&&(!t.plain&&decide (es.size > 1)))=true:=by rw[h1];rfl
   show wpAny _ _ (if (!false&&(!t.plain&&decide (es.size > 1)))=true then _ else _) _ _ _;rw[hc,if_pos rfl];refine zz (wp_order es.size (List.range es.size) s (by simp) fun ps d pp=>?_);have lps:ps.length=es.size:=by rw[pp.length_eq,zI]
   refine zz (wpAny_newTuple ?_ (by rw[zw,lps];exact fits_of_scanBound hbd));have k1:∀ b o,s.heap.get? b=some o->(s.heap.push { cls:=.type "tuple",data:=.seq (ps.map fun (i:Nat)=>rawInt i).toArray }).get? b=some o:=fun b o e=>zv _ e;have z1:(s.heap.push { cls:=.type "tuple",data:=.seq (ps.map fun (i:Nat)=>rawInt i).toArray }).objs.size=s.heap.objs.size + 1:=yI ..;refine zz (wpAny_setEpoch_of (k1 _ _ g1) g2 hf ?_);refine zz (wpAny_newObj_type (zu ⟨_,rfl,"set_iterator",_,⟨_,zj _ rfl,rfl⟩,slot_si.lookup,?_⟩));have sq:∃ ys,IntsAre (ps.map fun p=>(es.getD p default).2) ys/\ys.Perm xs:=by
    have e1:(ps.map fun p=>(es.getD p default).2)=(ps.map fun p=>es.getD p default).map (·.2):=by rw[yO];rfl
    rw[e1];refine sts _ ((pp.map _).trans ?_);have e2:(List.range es.size).map (fun p=>es.getD p default)=es.toList:=by
     apply List.ext_getElem
     ·simp
     ·intro k hk1 hk2
      have:k < es.size:=by simpa using hk2
      simp[wI,this]
    rw[e2]
   dsimp only;rw[z1];refine q (s.heap.objs.size + 1) _ d [s.heap.objs.size + 1,a,s.heap.objs.size] _ _ (fun b o e=>zv _ (k1 b o e)) (wR _) (fun b hm=>?_) (wkB (ep:=ep) (es:=es) (so:=so) (t:=t) (pt:=s.heap.objs.size) (ps:=ps) hh (zB (xE lta)) (zB (yQ _)) pp) ⟨⟨{ cls:=.type "set_iterator",data:=.fields #[.ref s.heap.objs.size,.int 0 0,.ref a,.int es.size 0,.int ep 0] },by rw[<- z1];exact zj _ rfl,rfl,rfl⟩,S.at fun o e=>zv _ (k1 a o e),zv _ (zj _ rfl)⟩ sq;simp only[zO,yZ,or_false]at hm;rcases hm with e | e | e
   ·exact .inr (by rw[e];exact wR _)
   ·exact .inl e
   ·exact .inr (yF e.symm)
end
end L3
namespace L3
open PySem PySem.Spec PyProof.Rows L2
section
variable {prog:Program}{w:World}{A:Around}{E:Value->Shared->Prop}{s:Shared}{a:Addr}
theorem hint_set {Q:Bool->Shared->Prop}(ty:s.TypeIs (.ref a) "set")(q:Q false s):wpAny (model prog w) A (Builtin.List.listLengthHint (.ref a)) Q E s:=by
 unfold Builtin.List.listLengthHint;refine zz (wpAny_specialOf ty PySem.F.slot_set_len.lookup ?_);generalize hid:("set.__len__" : String)=id0
 wp_delta
 rw[show splitId id0=some ("set","__len__") from by subst hid;decide +kernel];subst hid;refine zz (wpAny_isInstance (T:="set") (b:=true) ty (by rw[isSubtype_type];kernel_rfl) ?_);refine wpAny_ite_split (fun z=>absurd z (by decide)) (fun _=>wpAny_ite_split (fun _=>?_) (fun z=>absurd (by decide +kernel) z));exact zz (wpAny_typeOf ty (zu q))
theorem acc_items {vs:List Value}{acc:Array Value}(h:ItemsOf (fun i v=>vs[i]?=some v) acc vs.length):acc.toList=vs:=by
 apply wm;intro i;rw[yk];cases e:acc[i]? with
 | some v=>exact(h.2 i v e).symm
 | none =>
  have:acc.size<=i:=by simpa using e
  rw[h.1]at this;exact(xJ this).symm
theorem ext_set {xs:List Int}{R:Result->Shared->Prop}(hh:A.handled=none)(hS:SSet prog w s.heap a xs (ledOf w)){S:Addr}(nS:S≠a)(res:Value){c₀:Nat}(gS:s.heap.get? S=some { cls:=.type "list",data:=.seq #[] c₀ })
  (hR:∀ h' tk d acc c ys,(∀ b o,b≠S->s.heap.get? b=some o->h'.get? b=some o)->h'.get? S=some { cls:=.type "list",dict:=none,data:=.seq acc c,slots:=#[] }->IntsAre acc.toList ys->ys.Perm xs->R (.ok (.ret res)) { s with heap:=h',toks:=tk,drawn:=d }) :
  wpAny (model prog w) A.in1 (Builtin.List.listExtendWith (.ref S) (.ref a) res) (fun fin s'=>match fin with | .done f=>R (.ok f) s' | .again c'=>c'.quiet=true/\codeAny (model prog w) A c' R s') (fun e s'=>R (.error e) s') s:=by
 have ltS:=zi gS;obtain⟨so,es,ep,t,g1,gx,rest⟩:=id hS;have ty:s.TypeIs (.ref a) "set":=⟨so,g1,gx.1⟩;have lx:xs.length<=zn:=by
  obtain⟨_,_,_,hp,hb,_⟩:=rest;rw[<- hp.length_eq,zw,zK];exact fits_of_scanBound hb
 unfold Builtin.List.listExtendWith;refine zz (wpAny_typeOf (T:="set") ty ?_);have h1:Builtin.List.listSameRef (.ref S) (.ref a)=false:=by simp[Builtin.List.listSameRef,nS]
 have n1:(Value.type "set"==Value.type "list")=false:=by decide
 have n2:(Value.type "set"==Value.type "tuple")=false:=by decide
 simp only[h1,n1,n2,wg,yo,if_false];refine zz (iter_set (A:=A.in1) hh hS fun I h1 d fp vs St kk hI hfp W st hvs=>?_);obtain⟨ys,hy,hperm⟩:=hvs;have lv:vs.length=xs.length:=by
  rw[<- hperm.length_eq];clear hperm st W;induction hy with
  | nil=>rfl
  | cons _ _ _ ih=>rw[zE,zE,ih]
 have nf:S ∉ fp:=fun z=>(hfp S z).elim nS fun z=>absurd ltS (uw.mpr z);have key:∀ (h:Heap) (c₁ tk:Nat),St 0 h->(∀ b o,b≠S->s.heap.get? b=some o->h.get? b=some o)->h.get? S=some { cls:=.type "list",data:=.seq #[] c₁ }->codeAny (model prog w) A (.builtin "list.extend.loop" ⟨[.ref S,.ref I,res],[]⟩) R { s with heap:=h,toks:=tk,drawn:=d }:=by
  intro h c₁ tk hst hk g;refine codeAny_extend_loopS W.toS (by rw[lv];exact lx) S nf res vs.length 0 _ #[] c₁ rfl (zV _) hst g (ItemsOf.nil _) fun s' acc c' hm g' hacc=>?_;rw[Moved.eq_with hm];refine hR s'.heap s'.toks d acc c' ys (fun b o hb e=>hm.heap b o (fun z=>?_) (hk b o hb e)) g' (by rw[acc_items hacc];exact hy) hperm;rcases zO.mp z with z | z
  ·exact hb z
  ·exact absurd (zi e) (by rw[zJ.mp z];exact uw.mpr hI)
 have gS1:=kk _ _ gS;refine zz (wpAny_holding (hint_set (s:={ s with heap:=h1,drawn:=d }) ⟨so,kk _ _ g1,gx.1⟩ ?_));refine wpAny_ite_split (fun _=>?_) (fun _=>zu ⟨plainId_quiet PySem.F.plain_extend_loop _,key _ c₀ _ st (fun b o _ e=>kk b o e) gS1⟩);refine zz (wpAny_rule (zz ?_));show wpAny _ _ (updateSeq S (·.push .none) >>= fun _=>updateSeq S (·.pop)) _ _ _;refine zz (wpAny_updateSeq gS1 rfl ?_);have gS2:=yd (Obj.mapSeq (·.push Value.none)) gS1 rfl;refine wpAny_updateSeq (hz:=by seq_fits) gS2 rfl ?_;have gS3:=yd (Obj.mapSeq (·.pop)) gS2 rfl;refine zu ⟨plainId_quiet PySem.F.plain_extend_loop _,key _ _ _ ?_ (fun b o hb e=>?_) gS3⟩
 ·refine W.frame 0 _ _ st fun b hb o e=>?_
  have nb:b≠S:=fun z=>nf (z ▸ hb);exact(yB _ _ (Ne.symm nb)).trans ((yB _ _ (Ne.symm nb)).trans e)
 ·exact(yB _ _ (Ne.symm hb)).trans ((yB _ _ (Ne.symm hb)).trans (kk b o e))
theorem collect_set {xs:List Int}{R:List Value->Shared->Prop}(hh:A.handled=none)(hS:SSet prog w s.heap a xs (ledOf w))
  (h:∀ h' tk d vs ys,(∀ b o,s.heap.get? b=some o->h'.get? b=some o)->IntsAre vs ys->ys.Perm xs->R vs { s with heap:=h',toks:=tk,drawn:=d }):wpAny (model prog w) A (collect (.ref a)) R E s:=by
 have lta:a < s.heap.objs.size:=by obtain⟨_,_,_,_,g,_⟩:=hS;exact zi g
 unfold collect;refine zz (wpAny_runValue (codeAny_builtin entry_proto_collect' ?_));rw[Around.under_plainId PySem.F.plain_proto_collect _];show wpAny _ A.in1 (newList [] >>= fun l=>again (.builtin "list.__iadd__" ⟨[l,.ref a],[]⟩)) _ _ s;refine zz (wpAny_newObj_type (zu ⟨plainId_quiet PySem.F.plain_list_iadd _,codeAny_builtin entry_list_iadd' ?_⟩));rw[Around.under_plainId PySem.F.plain_list_iadd _];have gS:(s.heap.push { cls:=.type "list",data:=.seq ([]:List Value).toArray }).get? s.heap.objs.size=some { cls:=.type "list",data:=.seq #[] }:=zj _ rfl;show wpAny _ A.in1 (Builtin.List.listExtendWith (.ref s.heap.objs.size) (.ref a) (.ref s.heap.objs.size)) _ _ _;have key:=ext_set (A:=A) (s:={ s with heap:=s.heap.push { cls:=.type "list",data:=.seq ([]:List Value).toArray } })
  (R:=fun (q:Result) (s':Shared)=>∃ (h':Heap) (tk:Nat) (d:Drawn) (acc:Array Value) (c:Nat) (ys:List Int),q=.ok (.ret (.ref s.heap.objs.size))/\s' = { s with heap:=h',toks:=tk,drawn:=d }/\(∀ b o,s.heap.get? b=some o->h'.get? b=some o)/\h'.get? s.heap.objs.size=some { cls:=.type "list",dict:=none,data:=.seq acc c,slots:=#[] }/\IntsAre acc.toList ys/\ys.Perm xs)
  hh (hS.at fun o e=>zv _ e) (yN lta) (.ref s.heap.objs.size) gS (fun h' tk d acc c ys hk hS' h1 h2=>⟨h',tk,d,acc,c,ys,rfl,rfl,fun b o e=>hk b o (zB (zi e)) (zv _ e),hS',h1,h2⟩)
 have last:∀ {h':Heap} {tk:Nat} {d:Drawn} {acc:Array Value} {c:Nat} {ys:List Int},(∀ b o,s.heap.get? b=some o->h'.get? b=some o)->h'.get? s.heap.objs.size=some { cls:=.type "list",dict:=none,data:=.seq acc c,slots:=#[] }->IntsAre acc.toList ys->ys.Perm xs ->
   wpAny (model prog w) A (do match (<- load s.heap.objs.size).data with | .seq xs _=>pure xs.toList | _=>unsupported "internal:collect") R E { s with heap:=h',toks:=tk,drawn:=d }:=fun hk g h1 h2=>zz (wpAny_load g (zu (h _ _ _ _ _ hk h1 h2)))
 refine wpAny_mono key (fun fin s' x=>?_) fun e s' x=>?_
 ·cases fin with
  | done f =>
   obtain⟨h',tk,d,acc,c,ys,e,rfl,hk,g,h1,h2⟩:=x;cases e;exact last hk g h1 h2
  | again c₁ =>
   refine⟨x.1,codeAny_mono x.2 fun q s₂ y=>?_⟩;obtain⟨h',tk,d,acc,c,ys,rfl,rfl,hk,g,h1,h2⟩:=y;exact last hk g h1 h2
 ·obtain⟨_,_,_,_,_,_,e',_⟩:=x
  cases e'
end
end L3
namespace L3
open PySem PySem.Spec PyProof.Rows L2
theorem lr_size {i j st:Int}(h0:0 < st)(h1:i < j):Builtin.Range.rangeSize i j st=((rngN3 i j st:Nat):Int):=by
 unfold Builtin.Range.rangeSize rngN3;rw[if_pos h0,if_pos h1]
 have:0<=(j - i - 1) / st:=xV (by omega) (by omega)
 rw[xY (by omega)]
theorem lr_small {a b c:Int}(h1:small a)(h2:small b)(hc:0 < c)(hc2:c < 1073741824)(hab:a < b):Builtin.Range.small a b c=true:=by
 obtain⟨a1,a2⟩:=h1;obtain⟨b1,b2⟩:=h2;have hn:0<=Builtin.Range.rangeSize a b c/\Builtin.Range.rangeSize a b c<=b - a:=by
  unfold Builtin.Range.rangeSize;rw[if_pos hc,if_pos hab];have h3:0<=(b - a - 1) / c:=xV (by first | lia | omega) (by first | lia | omega)
  have h4:(b - a - 1) / c<=b - a - 1:=Int.ediv_le_self _ (by first | lia | omega)
  first | lia | omega
 unfold Builtin.Range.small;simp only[Builtin.Range.rangeFitsLong,zk,xr,decide_eq_true_eq,beq_iff_eq];rw[if_pos hc];refine⟨by omega,.inr ?_⟩;rw[zk];exact⟨decide_eq_true (by first | lia | omega),decide_eq_true (by first | lia | omega)⟩
section
variable {X:Cx}
noncomputable def rgP (p:Addr)(i j st:Int)(h:Heap):Prop:=∃ t u v,IsRange h p i j st t u v
theorem call_rng3:CallR X (.type "range") (fun xs H Q=>∃ i j st,xs=[.int i,.int j,.int st]/\0 < st/\st < 1073741824/\∀ p,H p=none->Q (.ref p) (upd H p (.ext (rgP p i j st)))):=by
 intro pins s σ H xs us Q I rv h;obtain⟨i,j,st,rfl,h0,h1,q⟩:=h;cases rv with
 | cons r rr =>
  cases rr with
  | cons r' rr =>
   cases rr with
   | cons r'' rr =>
    cases rr;obtain⟨t,rfl⟩:=r;obtain⟨t',rfl⟩:=r';obtain⟨t'',rfl⟩:=r'';refine call_range_3 (by first | lia | omega) ?_ (.inl (PyProof.noPylong_small (by first | lia | omega)))
    refine⟨.ref s.heap.objs.size,_,I.laid (t':=s.toks) (o:=.ext (rgP s.heap.objs.size i j st)) (fun b o e=>zv _ e) (zp _) ?_,rfl,q _ (I.hok.fresh (zp _))⟩;exact⟨⟨t,t',t'',IsRange.new ..⟩,⟨_,zj _ rfl⟩,fun h1 h2 ⟨t,u,v,e1⟩ k=>⟨t,u,v,k _ e1⟩⟩
theorem lr_vals {i st:Int}{n:Nat}{acc:Array Value}(h:ItemsOf (fun k v=>∃ t,v=.int (i + (k:Int) * st) t) acc n):Vals ((List.range n).map fun (k:Nat)=>V.int (i + k * st)) acc.toList:=by
 have key:∀ (l:List Value) (m:Nat),(∀ (k:Nat) (v:Value),l[k]?=some v->∃ t,v=.int (i + ((m + k:Nat):Int) * st) t)->Vals ((wS m l.length).map fun (k:Nat)=>V.int (i + k * st)) l:=fun l=>by
  induction l with
  | nil=>intro m _;exact .nil
  | cons x l ih =>
   intro m hm;rw[zE,vB,zH];refine .cons ?_ (ih (m + 1) fun k v e=>?_)
   ·obtain⟨t,e⟩:=hm 0 x rfl
    exact⟨t,by rw[e];rfl⟩
   ·obtain⟨t,e⟩:=hm (k + 1) v (by simpa using e)
    exact⟨t,by rw[e,show m + (k + 1)=m + 1 + k from by omega]⟩
 have hl:acc.toList.length=n:=by rw[zK];exact h.1
 have:=key acc.toList 0 fun k v e=>by
  rw[yk]at e;obtain⟨t,z⟩:=h.2 k v e;exact⟨t,by rw[z,yP]⟩
 rw[hl,<- List.range_eq_range']at this;exact this
theorem call_listRng (hc:X.calm=true):CallR X (.type "list") (fun xs H Q=>∃ p i j st,xs=[.ref p]/\H p=some (.ext (rgP p i j st))/\(small i/\small j/\0 < st/\st < 1073741824/\i < j/\rngN3 i j st<=100000) /\
  ∀ l,H l=none->Q (.ref l) (upd H l (.lst ((List.range (rngN3 i j st)).map fun (k:Nat)=>V.int (i + k * st))))):=by
 intro pins s σ H xs us Q I rv h;obtain⟨p,i,j,st,rfl,hp,⟨n1,n2,n3,n4,n5,n6⟩,q⟩:=h;obtain⟨u,rfl,ru⟩:=vals1 rv;cases ru;obtain⟨⟨t,t',t'',hr⟩,_,_⟩:=I.hok p _ hp;refine call_list_range (I.ok.hd hc) hr (lr_small n1 n2 n3 n4 n5) (lr_size n3 n5) (by omega) fun h' tk acc c kk hS hacc=>?_;have fr:H s.heap.objs.size=none:=I.hok.fresh (zp _);refine⟨.ref s.heap.objs.size,_,I.laid (t':=tk) (o:=.lst ((List.range (rngN3 i j st)).map fun (k:Nat)=>V.int (i + k * st))) kk (zp _) ⟨?_,acc.toList,c,lr_vals hacc,?_⟩,rfl,q _ fr⟩
 ·rw[zw,zI,sizeLine_eq];omega
 ·rw[hS]
theorem lrng_sound {Γ:Ctx}{S:Sc}{f g:Str}{a b c:Expr}{p1 p2 p3 p4:Pos}{fa fb fc:DE}(C:CxOk Γ S X)(h:lrngOk S f g=true)(hp:(plainE a&&(plainE b&&plainE c))=true)(ha:PE X a (LE X.K fa))(hb:PE X b (LE X.K fb))(hc:PE X c (LE X.K fc)) :
  PE X (.Call (.Name f p1) [.Call (.Name g p2) [a,b,c] [] p3] [] p4) (LE X.K (fun ρ=>do let x <- fa ρ;let y <- fb ρ;let z <- fc ρ;lrngD x y z)):=by
 unfold lrngOk at h;simp only[zk,beq_iff_eq]at h hp;obtain⟨⟨⟨⟨⟨⟨⟨h1,h2⟩,h3⟩,h4⟩,h5⟩,h6⟩,h7⟩,h8⟩:=h;obtain⟨k1,k2,k3⟩:=hp;subst h1 h2;obtain⟨o1,o2,o3⟩:=okName_debug h3;obtain⟨q1,q2,q3⟩:=okName_debug h4;have pr:=pe_callTy (p:=p2) (pos:=p3) call_rng3 (C.glo h6) (C.bls _ (mem_of_contains h8)) PyProof.Rows.boot_range (pa_cons ha (pa_cons hb (pa_cons hc pa_nil (star_plain k3)) (star_plain k2)) (star_plain k1)) q3 q1 (star_plain k1) (back_plain (by rw[yq,yq,k2,k3];rfl));refine PE.imp (pe_callTy (call_listRng C.calm) (C.glo h5) (C.bls _ (mem_of_contains h7)) PyProof.Rows.boot_list (pa_cons pr pa_nil) o3 o1) fun σ H Q q=>?_;obtain⟨ι,ρ,M,d,M',S',R,e,k⟩:=q;have e0:=bind_ok e;clear e;obtain⟨x,M1,e1,e⟩:=e0;have e0:=bind_ok e;clear e;obtain⟨y,M2,e2,e⟩:=e0;have e0:=bind_ok e;clear e;obtain⟨z,M3,e3,e⟩:=e0;refine⟨ι,ρ,M,x,M1,S',R,e1,fun v1 H1 ι1 r1 S1 X1=>⟨ι1,ρ,M1,y,M2,S1,R.mono X1,e2,fun v2 H2 ι2 r2 S2 X2=>⟨ι2,ρ,M2,z,M3,S2,(R.mono X1).mono X2,e3,fun v3 H3 ι3 r3 S3 X3=>?_⟩⟩⟩;have r1:=(r1.mono X2).mono X3;have r2:=r2.mono X3;cases r1 with
 | int i =>
  cases r2 with
  | int j =>
   cases r3 with
   | int st =>
    replace e:(do need (small i/\small j/\0 < st/\st < 1073741824/\i < j/\rngN3 i j st<=100000);newM (.lst (rngL3 i j st))) M3=some (.ok d,M'):=e;have e0:=bind_ok e;clear e;obtain⟨_,_,e4,e⟩:=e0;have e40:=need_ok e4;clear e4;obtain⟨hn,rfl⟩:=e40;have e0:=newM_ok e;clear e;obtain⟨rfl,rfl⟩:=e0;refine⟨i,j,st,rfl,hn.2.2.1,hn.2.2.2.1,fun p hp=>⟨p,i,j,st,rfl,upd_same,hn,fun l hl=>?_⟩⟩;have X4:Ext X.K ι3 H3 ι3 (upd H3 p (.ext (rgP p i j st))):=Ext.tupN hp;have X5:Ext X.K ι3 (upd H3 p (.ext (rgP p i j st))) (ι3++[l]) (upd (upd H3 p (.ext (rgP p i j st))) l (.lst ((List.range (rngN3 i j st)).map fun (k:Nat)=>V.int (i + k * st)))):=Ext.new hl;have S4:=S3.tupN (ho:=.ext (rgP p i j st)) hp;refine k _ _ _ (.ob (by rw[<- S4.len,ze (zp _),yT];rfl)) (S4.new hl ⟨_,rfl,?_⟩) ((((X1.trans X2).trans X3).trans X4).trans X5);have rr:∀ (ι:List Addr) (H:Hp) (l:List Nat),Reps X.K ι H (l.map fun (k:Nat)=>D.int (i + k * st)) (l.map fun (k:Nat)=>V.int (i + k * st)):=fun ι H l=>by
     induction l with
     | nil=>exact .nil
     | cons n l ih=>exact .cons (.int _) ih
    exact rr _ _ _
   | _=>exact(stop_ok e).elim
  | _=>exact(stop_ok e).elim
 | _=>exact(stop_ok e).elim
end
theorem lrngA_eq {e a b c:Expr}{g:Str}{p q:Pos}(h:lrngA e=some (g,p,a,b,c,q)):e=.Call (.Name g p) [a,b,c] [] q:=by
 unfold lrngA at h;split at h
 ·rename_i f p' as q' hr
  split at h
  ·cases h
   unfold rngE at hr;split at hr
   ·cases hr;rfl
   ·cases hr
  ·cases h
 ·cases h
end L3
namespace L3
open PySem PySem.Spec PyProof.Rows L2
section
variable {X:Cx}{K:PySem.W.Frag}
theorem trueE_eq {e:Expr}(h:trueE e=true):∃ k p,e=.Constant (.bool true) k p:=by
 cases e with
 | Constant c k p =>
  cases c with
  | bool b=>cases b with
   | true=>exact⟨k,p,rfl⟩
   | false=>cases h
  | _=>cases h
 | _=>cases h
theorem LE.dic2 {fa fb:DE}(σ:St)(H:Hp)(Q:VK)(h:LE K (fun ρ=>do let o <- newM (.dic []);let x <- fa ρ;let y <- fb ρ;dic2D o x y) σ H Q):tDisp [(LE K fa,tC (.bl true)),(LE K fb,tC (.bl true))] σ H Q:=by
 obtain⟨ι,ρ,M,d,M',S,R,e,k⟩:=h;intro p hp;have e0:=bind_ok e;clear e;obtain⟨o,M1,e1,e⟩:=e0;have e10:=newM_ok e1;clear e1;obtain⟨rfl,rfl⟩:=e10;have e0:=bind_ok e;clear e;obtain⟨x,M2,e2,e⟩:=e0;have e0:=bind_ok e;clear e;obtain⟨y,M3,e3,e⟩:=e0;have S1:Sim K (ι++[p]) (M++[.dic []]) (upd H p (.dK [])):=S.new hp ⟨[],rfl,.nil⟩;have X1:Ext K ι H (ι++[p]) (upd H p (.dK [])):=Ext.new hp;have hip:(ι++[p])[M.length]?=some p:=by rw[<- S.len,ze (zp _),yT];rfl
 refine⟨ι++[p],ρ,_,x,M2,S1,R.mono X1,e2,fun v2 H2 ι2 r2 S2 X2=>⟨ι2,ρ,M2,y,M3,S2,(R.mono X1).mono X2,e3,fun v3 H3 ι3 r3 S3 X3=>?_⟩⟩;have r2:=r2.mono X3;cases r2 with
 | int i =>
  cases r3 with
  | int j =>
   replace e:(do let kvs <- getD M.length;need (kvs.isEmpty=true);putM M.length (.dic (kvPuts [] [(.inl i,.bl true),(.inl j,.bl true)]));pure (D.ob M.length)) M3=some (.ok d,M'):=e;have e0:=bind_ok e;clear e;obtain⟨kvs,_,e4,e⟩:=e0;have e40:=getD_ok e4;clear e4;obtain⟨g,rfl⟩:=e40;have e0:=bind_ok e;clear e;obtain⟨_,_,e4,e⟩:=e0;have e40:=need_ok e4;clear e4;obtain⟨n1,rfl⟩:=e40;have e0:=bind_ok e;clear e;obtain⟨_,_,e4,e⟩:=e0;have e40:=putM_ok e4;clear e4;obtain⟨_,rfl⟩:=e40;have e0:=pure_ok e;clear e;obtain⟨rfl,rfl⟩:=e0;have ek:kvs=[]:=vD.mp n1;subst ek;have hi3:=X3.pre _ _ (X2.pre _ _ hip);obtain⟨a,ws,h1,h2,h3,h4⟩:=sim_dict S3 (.ob hi3) g;cases h1;cases h4;refine⟨h3,[(.inl i,.bl true),(.inl j,.bl true)],rfl,by show 2<=15;decide,?_⟩;have X4:Ext K ι3 H3 ι3 (upd H3 p (.dK (mergeK [] [(.inl i,.bl true),(.inl j,.bl true)]))):=Ext.write h3 (mut_d _);refine k _ _ ι3 (.ob hi3) (S3.put hi3 ⟨_,rfl,?_⟩) (((X1.trans X2).trans X3).trans X4);exact KR.put (KR.put .nil (.inl i) (.bl true)) (.inl j) (.bl true)
  | _=>exact(stop_ok e).elim
 | _=>exact(stop_ok e).elim
end
end L3
namespace L3
open PySem PySem.Spec PyProof.Rows L2
section
variable {prog:Program}{w:World}{A:Around}{E:Value->Shared->Prop}{s:Shared}
theorem it_raw {a:Addr}{ob:Obj}{es:Array DictEntry}{ep:Nat}{Q:Value->Shared->Prop}(hn:(a==sysModules)=false)(g1:s.heap.get? a=some ob)(gx:ob.ExactDict)(g2:ob.data=.dict es ep)
  (q:Q (.ref s.heap.objs.size) { s with heap:=s.heap.push { cls:=.type "dict_keyiterator",data:=.fields #[.ref a,.int 0 0,.int es.size 0,.int ep 0] } }):wpAny (model prog w) A (pyIter (.ref a)) Q E s:=by
 have ty:s.TypeIs (.ref a) "dict":=⟨ob,g1,gx.1⟩;refine wpAny_pyIter_slot ty F.slot_dict_iter (wpAny_call_entry F.slot_dict_iter ty F.entry_dict_iter ?_ (F.args_dict_iter_1 _));unfold Builtin.«dict.__iter__»;refine zz ?_;unfold Builtin.Dict.dictSlotNone;refine zz (wpAny_notOrdered_dict ty ?_);show wpAny _ _ (pure (Value.ref a)) _ _ s;refine zu ?_;show wpAny _ _ (Builtin.Dict.showsAll a >>= _) _ _ s;unfold Builtin.Dict.showsAll;rw[if_neg (by rw[hn];exact zo)];refine zz (zu (zz (wpAny_dictEntries g1 g2 (zz (wpAny_dictEpoch g1 g2 ?_)))));refine zz (wpAny_newObj_type (zu ⟨_,rfl,"dict_keyiterator",_,⟨_,zj _ rfl,rfl⟩,F.slot_dict_keyiterator_next.lookup,?_⟩));simpa [rawInt] using q
theorem nx_item {it a:Addr}{ob:Obj}{es:Array DictEntry}{i ep:Nat}{en:DictEntry}{Q:Option Value->Shared->Prop}(t:s.heap.IsKeyIter it a i es.size ep)(g1:s.heap.get? a=some ob)(g2:ob.data=.dict es ep)(hx:es[i]?=some en)
  (q:∀ h',h'.IsKeyIter it a (i + 1) es.size ep->Heap.SameBut it s.heap h'->Q (some en.key) { s with heap:=h' }):wpAny (model prog w) A (pyNext (.ref it)) Q E s:=by
 obtain⟨oi,k1,k2,k3⟩:=id t;unfold pyNext;refine zz (wpAny_attempt (wpAny_callSpecial?_slot (name:=Str.ofString "__next__") t.typeIs F.slot_dict_keyiterator_next
  (wpAny_call_entry F.slot_dict_keyiterator_next t.typeIs F.entry_dict_keyiterator_next ?_ (F.args_dict_keyiterator_next_1 _))))
 refine zz (zu (zz (zz ?_)));first | refine zz (wpAny_typeNameOfWhole_keyiter t.typeIs (zu ?_)) | refine zz (wpAny_typeNameOf_keyiter t.typeIs (zu ?_))
 refine zz (wpAny_fieldsOf k1 k3 ?_);simp only[show Builtin.Dict_items.ownsTuple "dict_keyiterator" = false by decide,yo,if_false];show wpAny _ _ (if (Value.ref a==Value.none)=true then _ else _) _ _ s;rw[if_neg (show ¬ ((Value.ref a==Value.none)=true) from zo)];refine zz (zu (zz (wpAny_dictEntries g1 g2 ?_)));rw[if_neg (by simp)];refine zz (zu (zz (wpAny_dictEpoch g1 g2 ?_)));rw[if_neg (by simp)];refine zu ?_;obtain⟨lt,hxe⟩:=yC.mp hx;simp only[show ¬ ((i:Int) < 0) from by omega,if_false,ye,zZ lt,hxe];refine zz ?_;first | refine zz (wpAny_typeNameOfWhole_keyiter t.typeIs (zu ?_)) | refine zz (wpAny_typeNameOf_keyiter t.typeIs (zu ?_))
 refine zz (wpAny_isOneOf_keyiter t.typeIs ?_);show wpAny _ _ (setField (.ref it) 1 (rawInt ((i:Int) + 1)) >>= _) _ _ s;refine zz (wpAny_setField k1 k3 (by simp) ?_);have t':(s.heap.update it (Obj.mapFields (·.setIfInBounds 1 (rawInt ((i:Int) + 1))))).IsKeyIter it a (i + 1) es.size ep :=
  ⟨_,yd _ k1 (Obj.isFreed_of_fields (Obj.data_mapFields k3 _)),(Obj.cls_mapFields ..).trans k2,by rw[Obj.data_mapFields k3];simp[rawInt]⟩
 refine zz (wpAny_holding (zz (wpAny_isOneOf_keyiter (s:={ s with heap:=s.heap.update it (Obj.mapFields (·.setIfInBounds 1 (rawInt ((i:Int) + 1)))) }) t'.typeIs ?_)));show wpAny _ _ (pure en.key) _ _ _;exact zu (zu ⟨_,rfl,zu (q _ t' (Heap.SameBut.update ..))⟩)
theorem nx_end {it a:Addr}{ob:Obj}{es:Array DictEntry}{i ep:Nat}{Q:Option Value->Shared->Prop}(hh:A.handled=none)(t:s.heap.IsKeyIter it a i es.size ep)(g1:s.heap.get? a=some ob)(g2:ob.data=.dict es ep)(ge:es.size<=i)
  (q:∀ h',Heap.ExtBut it s.heap h'->Q none { s with heap:=h' }):wpAny (model prog w) A (pyNext (.ref it)) Q E s:=by
 obtain⟨oi,k1,k2,k3⟩:=id t;unfold pyNext;refine zz (wpAny_attempt (wpAny_callSpecial?_slot (name:=Str.ofString "__next__") t.typeIs F.slot_dict_keyiterator_next
  (wpAny_call_entry F.slot_dict_keyiterator_next t.typeIs F.entry_dict_keyiterator_next ?_ (F.args_dict_keyiterator_next_1 _))))
 refine zz (zu (zz (zz ?_)));first | refine zz (wpAny_typeNameOfWhole_keyiter t.typeIs (zu ?_)) | refine zz (wpAny_typeNameOf_keyiter t.typeIs (zu ?_))
 refine zz (wpAny_fieldsOf k1 k3 ?_);simp only[show Builtin.Dict_items.ownsTuple "dict_keyiterator" = false by decide,yo,if_false];show wpAny _ _ (if (Value.ref a==Value.none)=true then _ else _) _ _ s;rw[if_neg (show ¬ ((Value.ref a==Value.none)=true) from zo)];refine zz (zu (zz (wpAny_dictEntries g1 g2 ?_)));rw[if_neg (by simp)];refine zz (zu (zz (wpAny_dictEpoch g1 g2 ?_)));rw[if_neg (by simp)];refine zu ?_;simp only[show ¬ ((i:Int) < 0) from by omega,if_false,ye,xF ge];refine zz ?_;first | refine zz (wpAny_typeNameOfWhole_keyiter t.typeIs (zu ?_)) | refine zz (wpAny_typeNameOf_keyiter t.typeIs (zu ?_))
 show wpAny _ _ (setField (.ref it) 0 .none >>= _) _ _ s;refine zz (wpAny_setField k1 k3 (by simp) ?_);show wpAny _ _ (newExc (.type "StopIteration") [] >>= fun _=>_) _ _ _;refine zz ?_;simp only[newExc,newTuple];refine zz (wpAny_newObj_type (zz (m:=firstArgMember _ _) (wpAny_of_eq (a:=Value.none) (by first | rfl | (simp only[firstArgMember];rfl)) ?_)) (by size_fits))
 refine wpAny_newObj_type ?_ (by size_fits);simp only[raiseNew];refine zz (wpAny_handled ?_);rw[show A.in1.handled=none from hh];refine zz (zu (wpAny_throw ?_));exact zz (wpAny_isInstance (T:="StopIteration") (b:=true) ⟨_,zj _ rfl,rfl⟩ isSubtype_stop (zu (q _ (((Heap.SameBut.update ..).extBut.push _).push _))))
end
noncomputable def ItK (a:Addr)(ob:Obj)(ws:List (Key×V)):It :=
 ⟨fun i H=>H a=some (.frz ob (.dK ws))/\i < ws.length,fun i H x H'=>H'=H/\∃ k,(ws.map (·.1))[i]?=some k/\x=kV k,fun i H=>H a=some (.frz ob (.dK ws))/\ws.length<=i⟩
theorem key_rV {prog:Program}{w:World}{k:Key}{v:Value}(h:(mixKind prog w).is k v=true):RelV (kV k) v:=by
 rcases keyIs_shape (show keyIs k v=true from h) with ⟨i,t,rfl,rfl⟩|⟨x,t,rfl,rfl⟩
 ·exact⟨_,rfl⟩
 ·exact⟨_,rfl⟩
theorem kv_at {prog:Program}{w:World}:∀ {ws:List (Key×V)} {vs:List (Key×Value)} {es:List DictEntry} {i:Nat},KV ws vs->Pairs (mixKind prog w) es vs->i < ws.length->∃ en k,es[i]?=some en/\(ws.map (·.1))[i]?=some k/\(mixKind prog w).is k en.key=true
 | _,_,_,_,.nil,.nil,h=>absurd h (vK _)
 | p::_,_,_,0,.cons r t,.cons h1 h2 h3,_=>⟨_,_,rfl,rfl,by show (mixKind prog w).is p.1 _=true;rw[r.1];exact h1⟩
 | _,_,_,i + 1,.cons r t,.cons h1 h2 h3,h=>by
  obtain⟨en,k,a,b,c⟩:=kv_at (i:=i) t h3 (by simpa using h);exact⟨en,k,by simpa using a,by simpa using b,c⟩
theorem turn_kyr {P:Program}{w:World}{K:PySem.W.Frag}{tg:Expr}{a it:Addr}{ob:Obj}{ws:List (Key×V)}{es:Array DictEntry}{ep:Nat}(g2:ob.data=.dict es ep):Turn P w K tg (ItK a ob ws) [it] it (fun i h=>h.IsKeyIter it a i es.size ep) where
 mem:=by simp
 obj:=fun i h st b hb=>by
  have e:b=it:=by simpa using hb
  subst e;obtain⟨o,e,c,d⟩:=st;exact⟨o,e,fun v z=>by rw[d]at z;cases z⟩
 keep:=fun i h h' st k=>st.at fun o e=>k it (by simp) o e
 item:=by
  intro X hP hw hK hc i pins s σ H E I hf st hg;subst hP hw hK;obtain⟨hq,hx⟩:=hg;obtain⟨g1,z,y,vs,r,o',es',ep',h1,h2,h3,h4,h5,h6⟩:=(show ObjOk X.prog X.w H s.heap a (.frz ob (.dK ws)) from I.hok a _ hq);rw[g1]at h1;cases h1;rw[g2]at h3;cases h3;obtain⟨en,k,k1,k2,k3⟩:=kv_at r h5 hx;obtain⟨f0,f1,f2,f3,f4,f5⟩:=hf it (by simp);refine nx_item st g1 g2 (by rw[<- yk];exact k1) fun h' st' sb=>?_;have I1:Inv X pins σ H { s with heap:=h' }:=I.turned (t':=s.toks) (fun b o hb e=>(sb.2 b hb).trans e) f0 f1 f3 f4 f5;obtain⟨o,e,c,d⟩:=id st';exact⟨_,rfl,go_of (s:={ s with heap:=h' }) e c d (by decide) ⟨kV k,H,I1,key_rV k3,⟨rfl,_,k2,rfl⟩,st',fun b hb=>(hf b hb).1⟩⟩
 done:=by
  intro X hP hw hK hc i pins s σ H E I hf st hg;subst hP hw hK;obtain⟨hq,hx⟩:=hg;obtain⟨g1,z,y,vs,r,o',es',ep',h1,h2,h3,h4,h5,h6⟩:=(show ObjOk X.prog X.w H s.heap a (.frz ob (.dK ws)) from I.hok a _ hq);rw[g1]at h1;cases h1;rw[g2]at h3;cases h3;obtain⟨f0,f1,f2,f3,f4,f5⟩:=hf it (by simp);have hl:es.size=ws.length:=by rw[<- zK,h5.length,<- Paired.length r]
  exact nx_end (I.ok.hd hc) st g1 g2 (by omega) fun h' eb=>⟨rfl,I.turned (t':=s.toks) (fun b o hb e=>eb b o hb e) f0 f1 f3 f4 f5⟩
 self:=fun _ _ _ _ _ st h=>wpAny_pyIter_keyiter st h
section
variable {X:Cx}{pins:List (Addr×Obj)}{σ:St}{H H1:Hp}{s s1:Shared}{a:Addr}{ob:Obj}{ws:List (Key×V)}
theorem inv_frz (I:Inv X pins σ H s)(ha:H a=some (.dK ws))(hg:s.heap.get? a=some ob):Inv X pins σ (upd H a (.frz ob (.dK ws))) s:=by
 have ok:ObjOk X.prog X.w H s.heap a (.dK ws):=I.hok a _ ha;exact I.write (x:=a) (e:=a) (h':=s.heap) (t':=s.toks) (by rw[ha];trivial) (.inl rfl) (fun _ _ _ e=>e) ⟨_,hg⟩ ⟨hg,ok⟩
theorem inv_unfr (I:Inv X pins σ H s)(I1:Inv X pins σ H1 s1)(ha:H a=some (.dK ws))(h1:H1 a=some (.frz ob (.dK ws))):Inv X pins σ (upd H1 a (.dK ws)) s1 where
 ok:=I1.ok
 os:=I1.os
 bare:=I1.bare
 base:=by
  have u:=I1.base;have u0:=I.base;refine⟨u.keep,u.slot,fun b o q n hx=>?_,u.there,fun b xs q=>?_,fun b o v q=>?_,fun b ps q=>?_⟩
  ·have z:=u.free b o q n hx
   rw[upd_ne (fun e=>by rw[e,h1]at z;cases z)];exact z
  ·have z:=u0.tups b xs q
   rw[upd_ne (fun e=>by rw[e,ha]at z;cases z)];exact u.tups b xs q
  ·have z:=u0.frzs b o v q
   rw[upd_ne (fun e=>by rw[e,ha]at z;cases z)];exact u.frzs b o v q
  ·obtain⟨m,z⟩:=u0.tbls b ps q
   obtain⟨m',z'⟩:=u.tbls b ps q;exact⟨m',by rw[upd_ne (fun e=>by rw[e,ha]at z;cases z)];exact z'⟩
 loc:=I1.loc
 cell:=I1.cell
 free:=by rw[upd_ne (fun e=>by have z:=I1.free;rw[e,h1]at z;cases z)];exact I1.free
 freeC:=fun x c e=>by rw[upd_ne (fun e'=>by have z:=I1.freeC x c e;rw[e',h1]at z;cases z)];exact I1.freeC x c e
 pin:=fun p hp=>by
  obtain⟨k1,k2,k3⟩:=I1.pin p hp;exact⟨k1,by rw[upd_ne (fun e=>by rw[e,h1]at k2;cases k2)];exact k2,k3⟩
 hok:=fun b u e=>by
  by_cases hb:b=a
  ·subst hb
   rw[upd_same]at e;cases e;exact(show ObjOk X.prog X.w H1 s1.heap b (.frz ob (.dK ws)) from I1.hok b _ h1).2
  ·rw[upd_ne hb]at e
   refine(I1.hok b u e).stay (fun _ _ _ q=>q) (fun c q=>?_) fun c xs q=>?_
   ·rw[upd_ne (fun e'=>by rw[e',h1]at q;cases q)];exact q
   ·rw[upd_ne (fun e'=>by rw[e',h1]at q;cases q)];exact q
 len:=I1.len
end
noncomputable def iKyr (tl:TE):TI:=fun σ H R=>tl σ H fun x H1=>∃ a ws,x=.ref a/\H1 a=some (.dK ws)/\∀ ob,R (ItK a ob ws) (upd H1 a (.frz ob (.dK ws)))
theorem pi_kyr {X:Cx}{tg l:Expr}{tl:TE}(hl:PE X l tl):PI X tg l (iKyr tl):=by
 intro pins s σ H R I h;refine thn (hl pins s σ H _ I h) fun v s1 ⟨x,H1,I1,r1,q1⟩=>?_;obtain⟨a,ws,e,hq,q⟩:=q1;subst e;cases r1;obtain⟨z,y,vs,r,ob,es,ep,h1,h2,h3,h4,h5,h6⟩:=(show ObjOk X.prog X.w H1 s1.heap a (.dK ws) from I1.hok a _ hq);have I2:=inv_frz I1 hq h1;refine it_raw y h1 h2 h3 ?_;refine⟨s1.heap.objs.size,[s1.heap.objs.size],_,_,_,rfl,I2.kept (t':=s1.toks) fun b o e=>zv _ e,turn_kyr (a:=a) (ws:=ws) h3,⟨_,zj _ rfl,rfl,rfl⟩,fun b hb=>?_,q ob⟩;have e:b=s1.heap.objs.size:=by simpa using hb
 subst e;exact I2.fpOk (zp _) (I2.hok.fresh (zp _))
theorem intKeys_eq {K:PySem.W.Frag}{ι:List Addr}{H:Hp}:∀ {kvs:List (Ky×D)} {ws:List (Key×V)} {ns:List Int},KR K ι H kvs ws->intKeys kvs=some ns->ws.map (·.1)=ns.map Sum.inl
 | _,_,_,.nil,h=>by cases h;rfl
 | kv::kvs,_,ns,.cons r t,h=>by
  unfold intKeys at h;split at h
  ·rename_i i is e1 e2
   cases h;rw[zH,zH,intKeys_eq t e2,<- r.1,e1]
  ·cases h
noncomputable def tKyr (l h:Nat):TT:=tAnd (tTest (tOp (rI0 fun i j=>.bl (decide (i<=j))) (tVar (l + 1)) (tVar 0))) (tTest (tOp (rI0 fun i j=>.bl (decide (i < j))) (tVar 0) (tVar (h + 1))))
theorem pe_kyr {Γ:Ctx}{S:Sc}{X:Cx}{sc:Scope}{x d lo hi:Str}{px pos pe pd p1 p2 p3 p4 p5 p6 p7:Pos}{i l h:Nat}(C:CxOk Γ S X)(hc:compOk S sc [x]=true)(od:okName d=true)(vd:S.vis d=true)(ol:okName lo=true)(oh:okName hi=true)(ox:okName x=true)
  (nl:lo≠x) (nh:hi≠x) (vl:(S.comp sc [x]).vis lo=true) (vh:(S.comp sc [x]).vis hi=true) (vx:(S.comp sc [x]).vis x=true) (si:slot S.N d=some i) (sl:slot S.N lo=some l) (sh:slot S.N hi=some h) :
  PE X (.ListComp (.Name x pe) [⟨.Name x px,.Name d pd,[.BoolOp .And [.Compare (.Name lo p1) [.LtE] [.Name x p2] p3,.Compare (.Name x p4) [.Lt] [.Name hi p5] p6] p7],0⟩] sc pos) (LE X.K (fun ρ=>do let y <- varD ρ i;let a <- varD ρ l;let b <- varD ρ h;kyrD y a b)):=by
 intro pins s σ H Q I q;obtain⟨ι,ρ,M,dd,M',S',R,e,k⟩:=q;have e0:=bind_ok e;clear e;obtain⟨y,M1,e1,e⟩:=e0;have e10:=varD_ok e1;clear e1;obtain⟨v1,rfl⟩:=e10;have e0:=bind_ok e;clear e;obtain⟨va,M1,e1,e⟩:=e0;have e10:=varD_ok e1;clear e1;obtain⟨v2,rfl⟩:=e10;have e0:=bind_ok e;clear e;obtain⟨vb,M1,e1,e⟩:=e0;have e10:=varD_ok e1;clear e1;obtain⟨v3,rfl⟩:=e10;obtain⟨u1,w1,r1⟩:=R.val _ _ v1;obtain⟨u2,w2,r2⟩:=R.val _ _ v2;obtain⟨u3,w3,r3⟩:=R.val _ _ v3;cases r1 with
 | ob t =>
  cases r2 with
  | int A =>
   cases r3 with
   | int B =>
    rename_i k0 a0;replace e:(do let kvs <- getD k0;let ns <- lift (intKeys kvs);need (ns.length<=zn);newM (.lst ((ns.filter fun n=>decide (A<=n)&&decide (n < B)).map .int))) _=some (.ok dd,M'):=e;have e0:=bind_ok e;clear e;obtain⟨kvs,_,e4,e⟩:=e0;have e40:=getD_ok e4;clear e4;obtain⟨g,rfl⟩:=e40;have e0:=bind_ok e;clear e;obtain⟨ns,_,e4,e⟩:=e0;have e40:=lift_ok e4;clear e4;obtain⟨hns,rfl⟩:=e40;have e0:=bind_ok e;clear e;obtain⟨_,_,e4,e⟩:=e0;have e40:=need_ok e4;clear e4;obtain⟨hz,rfl⟩:=e40;have e0:=newM_ok e;clear e;obtain⟨rfl,rfl⟩:=e0;obtain⟨a,ws,g1,g2,g3,g4⟩:=sim_dict S' (.ob t) g;cases g1;have hk:=intKeys_eq g4 hns;have hl:ws.length=ns.length:=by rw[<- zw (f:=(·.1)),hk,zw]
    have CS:=compOk_sc C I.ok hc;have gN:∀ {z:Str} {j:Nat},z≠x->slot S.N z=some j->(S.comp sc [x]).N[j + 1]?=some z:=fun {z j} nz hs=>by
     show ([x]++blank S.N [x])[j + 1]?=some z;rw[xK,yr];unfold blank;rw[zh,slot_get hs]
     have:[x].contains z=false:=by simpa using nz
     simp only[xf,this,yo,if_false]
    have pv:∀ X',CxOk Γ (S.comp sc [x]) X'->∀ {z:Str} {j:Nat} {p:Pos},okName z=true->(S.comp sc [x]).vis z=true->(S.comp sc [x]).N[j]?=some z->PE X' (.Name z p) (tVar j):=fun X' C' {z j p} oz vz hz=>by
     obtain⟨o1,o2,o3⟩:=okName_debug oz;exact pe_var (by rw[C'.n];exact hz) (C'.vis vz) o1 o2
    have htc:∀ X',CxOk Γ (S.comp sc [x]) X'->PTs X' [.BoolOp .And [.Compare (.Name lo p1) [.LtE] [.Name x p2] p3,.Compare (.Name x p4) [.Lt] [.Name hi p5] p6] p7] (tKyr l h):=fun X' C' =>
     pts_one (pw_and (pt_cmpR op_le (pv X' C' ol vl (gN nl sl)) (pv X' C' ox vx rfl) rfl) (pw_and1 (pt_cmpR op_lt (pv X' C' ox vx rfl) (pv X' C' oh vh (gN nh sh)) rfl))).pt
    obtain⟨o1,o2,o3⟩:=okName_debug od;have pe:=pe_comp (tg:=.Name x px) (ifs:=[.BoolOp .And [.Compare (.Name lo p1) [.LtE] [.Name x p2] p3,.Compare (.Name x p4) [.Lt] [.Name hi p5] p6] p7]) (elt:=.Name x pe) (pos:=pos) C.calm CS (fun _ _ _ _=>pg_own CS (i:=0) rfl _ _ _ _) (pi_kyr (pe_var (pos:=pd) (by rw[C.n];exact slot_get si) (C.vis vd) o1 o2)) (fun Ca s H fp=>htc _ (comp_cx C hc _ Ca s H fp)) (fun Ca s H fp=>pv _ (comp_cx C hc _ Ca s H fp) (j:=0) ox vx rfl) (fun _=>rfl);refine thn (pe pins s σ H (fun v H'=>∃ ob,H' a0=some (.frz ob (.dK ws))/\Q v (upd H' a0 (.dK ws))) I ?_) fun v s1 ⟨y,H1,I1,r1,ob,h1,q1⟩=>⟨y,_,inv_unfr I I1 g3 h1,r1,q1⟩;refine⟨_,w1,a0,ws,rfl,g3,fun ob=>?_⟩;refine⟨fun n m ys H'=>m=ws.length - n/\n<=ws.length/\H'=upd H a0 (.frz ob (.dK ws))/\ys=((ns.take n).filter fun n=>decide (A<=n)&&decide (n < B)).map V.int,⟨_,rfl,zV _,rfl,rfl⟩,?_⟩;rintro n m ys H' ⟨rfl,hn,rfl,rfl⟩;have hys:(((ns.take n).filter fun n=>decide (A<=n)&&decide (n < B)).map V.int).length<=n:=by
     rw[zw];exact zS (xL _ _) (List.length_take_le _ _)
    by_cases hlt:n < ws.length
    ·right
     have hlt':n < ns.length:=by rw[<- hl];exact hlt
     refine⟨⟨upd_same,hlt⟩,by omega,fun v H'' os ho yl=>?_⟩;obtain⟨rfl,kk,y1,rfl⟩:=yl;rw[hk,zh,zt hlt']at y1;cases y1;obtain⟨p0,rfl⟩:=wH.mp ho;refine⟨[some (.int ns[n])],rfl,rfl,?_⟩;have tk:ns.take (n + 1)=ns.take n++[ns[n]]:=by rw[List.take_succ,zt hlt'];rfl
     refine⟨_,w2,_,rfl,A,ns[n],rfl,rfl,_,rfl,?_⟩;by_cases hA:A<=ns[n]
     ·rw[decide_eq_true hA]
      dsimp only;rw[if_pos rfl];refine⟨_,rfl,_,w3,ns[n],B,rfl,rfl,_,rfl,?_⟩;by_cases hB:ns[n] < B
      ·rw[decide_eq_true hB]
       dsimp only;rw[if_pos rfl];refine⟨_,rfl,ws.length - (n + 1),by omega,rfl,hlt,rfl,?_⟩;rw[tk,yS,zd];simp only[wC,decide_eq_true hA,decide_eq_true hB,Bool.and_self,if_true,wL,zH,xk];rfl
      ·rw[decide_eq_false hB]
       dsimp only;rw[if_neg zo];refine⟨ws.length - (n + 1),by omega,rfl,hlt,rfl,?_⟩;rw[tk,yS,zd];simp only[wC,decide_eq_false hB,wQ,yo,if_false,wL,xk,ya]
     ·rw[decide_eq_false hA]
      dsimp only;rw[if_neg zo,if_neg zo];refine⟨ws.length - (n + 1),by omega,rfl,hlt,rfl,?_⟩;rw[tk,yS,zd];simp only[wC,decide_eq_false hA,vO,yo,if_false,wL,xk,ya]
    ·left
     have en:n=ws.length:=by omega
     subst en;refine⟨⟨upd_same,zp _⟩,by omega,fun p hp=>?_⟩;have hpa:p≠a0:=fun z=>by rw[z,upd_same]at hp;cases hp
     rw[upd_ne hpa]at hp;have hc0:upd (upd (upd H a0 (.frz ob (.dK ws))) p (.lst (((ns.take ws.length).filter fun n=>decide (A<=n)&&decide (n < B)).map V.int))) a0 (.dK ws)=upd H p (.lst ((ns.filter fun n=>decide (A<=n)&&decide (n < B)).map V.int)):=by
      funext b;by_cases hb:b=a0
      ·subst hb
       rw[upd_same,upd_ne (Ne.symm hpa)];exact g3.symm
      ·rw[upd_ne hb]
       by_cases hb2:b=p
       ·subst hb2
        rw[upd_same,upd_same,hl,zR]
       ·rw[upd_ne hb2,upd_ne hb2,upd_ne hb]
     refine⟨ob,by rw[upd_ne (Ne.symm hpa),upd_same],?_⟩;rw[hc0];have rr:∀ (ι:List Addr) (H:Hp) (l:List Int),Reps X.K ι H (l.map D.int) (l.map V.int):=fun ι H l=>by
      induction l with
      | nil=>exact .nil
      | cons n l ih=>exact .cons (.int _) ih
     exact k _ _ (ι++[p]) (.ob (by rw[<- S'.len,ze (zp _),yT];rfl)) (S'.new hp ⟨_,rfl,rr _ _ _⟩) (Ext.new hp)
   | _=>exact(stop_ok e).elim
  | _=>exact(stop_ok e).elim
 | _=>exact(stop_ok e).elim
end L3
namespace L3
open PySem PySem.Spec PyProof.Rows L2
section
variable {prog:Program}{w:World}{A:Around}{E:Value->Shared->Prop}{s:Shared}
structure ZAp (z TI TO i1 i2:Addr) (f1 f2:List Addr):Prop where
 TIz:TI≠z
 TOz:TO≠z
 i1z:i1≠z
 i2z:i2≠z
 TITO:TI≠TO
 TIi1:TI≠i1
 TIi2:TI≠i2
 TOi1:TO≠i1
 TOi2:TO≠i2
 z1:z ∉ f1
 z2:z ∉ f2
 t1:TO ∉ f1
 t2:TO ∉ f2
 n12:i1 ∉ f2
 n21:i2 ∉ f1
theorem zip_item {z TI TO i1 i2:Addr}{f1 f2:List Addr}{n1 n2 i:Nat}{P1 P2:Nat->Value->Prop}{S1 S2:Nat->Heap->Prop}{a b:Value}{Q:Value->Shared->Prop}(D:ZAp z TI TO i1 i2 f1 f2)
  (D1:Draws prog w A i1 f1 n1 P1 S1) (D2:Draws prog w A i2 f2 n2 P2 S2)
  (hz:IsZip s.heap z TI TO .none) (hTI:IsPair s.heap TI (.ref i1) (.ref i2)) (hTO:IsPair s.heap TO a b) (st1:S1 i s.heap) (st2:S2 i s.heap) (l1:i < n1) (l2:i < n2)
  (hQ:∀ x y h' tk,P1 i x->P2 i y->IsZip h' z TI TO (rawInt s.heap.objs.size)->IsPair h' TO x y->S1 (i + 1) h'->S2 (i + 1) h'->IsPair h' s.heap.objs.size x y ->
   (∀ c o,c≠z->c≠TO->c≠i1->c≠i2->s.heap.get? c=some o->h'.get? c=some o)->Q (.ref s.heap.objs.size) { s with heap:=h',toks:=tk }) :
  wpAny (model prog w) A (Builtin.«zip.__next__» ⟨[.ref z],[]⟩) (fun fin s'=>∃ v,fin=.done (.ret v)/\Q v s') E s:=by
 show wpAny _ _ (field (.ref z) 2 >>= _) _ _ _;refine zz (wpAny_field hz rfl (x:=.bool false) rfl ?_);show wpAny _ _ (field (.ref z) 3 >>= _) _ _ _;refine zz (wpAny_field hz rfl (x:=.ref TI) rfl ?_);refine zz (wpAny_seqItems hTI rfl ?_);show wpAny _ _ (Builtin.SmallTypes.ownedTupleIsFree (.ref z) >>= _) _ _ _;refine zz ?_;unfold Builtin.SmallTypes.ownedTupleIsFree;refine zz (wpAny_field hz rfl (x:=.none) rfl (zu ?_));simp only[if_true];refine zz (wpAny_rule ?_);refine zz (wpAny_field hz rfl (x:=.ref TO) rfl ?_);refine zz (wpAny_setField_rec hz (by simp) fun h₁ hz₁ hs₁=>?_);replace hz₁:IsZip h₁ z TI TO .ellipsis:=hz₁;refine zz ?_;simp only[wD,vL,wK,vQ];refine zz (zz (wpAny_onRaise ?_));show wpAny _ _ (Builtin.SmallTypes.nextOf (.ref i1) >>= _) _ _ _;have k1:∀ b∈f1,∀ o,s.heap.get? b=some o->h₁.get? b=some o:=fun b hb o e=>hs₁.extBut b o (fun q=>D.z1 (q ▸ hb)) e;refine zz (D1.item i { s with heap:=h₁ } _ _ l1 (D1.frame _ _ _ st1 k1) fun x h₂ tk₂ p1 st1₂ hs₂=>zu ?_);replace hs₂:Heap.SameBut i1 h₁ h₂:=hs₂;have hTO₂:IsPair h₂ TO a b:=hs₂.extBut _ _ D.TOi1 (hs₁.extBut _ _ D.TOz hTO);refine zz (wpAny_seqItems (s:={ s with heap:=h₂,toks:=tk₂ }) hTO₂ rfl ?_);refine zz (wpAny_updateSeq_pair (s:={ s with heap:=h₂,toks:=tk₂ }) hTO₂ fun h₃ hTO₃ hs₃=>?_);replace hTO₃:IsPair h₃ TO x b:=hTO₃;replace hs₃:Heap.SameBut TO h₂ h₃:=hs₃;refine zz (wpAny_letGo (zu ?_));refine zz (zz (wpAny_onRaise ?_));show wpAny _ _ (Builtin.SmallTypes.nextOf (.ref i2) >>= _) _ _ _;have k2:∀ b∈f2,∀ o,s.heap.get? b=some o->h₃.get? b=some o:=fun b hb o e =>
  hs₃.extBut b o (fun q=>D.t2 (q ▸ hb)) (hs₂.extBut b o (fun q=>D.n12 (q ▸ hb)) (hs₁.extBut b o (fun q=>D.z2 (q ▸ hb)) e))
 refine zz (D2.item i { s with heap:=h₃,toks:=tk₂ } _ _ l2 (D2.frame _ _ _ st2 k2) fun y h₄ tk₄ p2 st2₄ hs₄=>zu ?_);replace hs₄:Heap.SameBut i2 h₃ h₄:=hs₄;have hTO₄:IsPair h₄ TO x b:=hs₄.extBut _ _ D.TOi2 hTO₃;refine zz (wpAny_seqItems (s:={ s with heap:=h₄,toks:=tk₄ }) hTO₄ rfl ?_);refine zz (wpAny_updateSeq_pair (s:={ s with heap:=h₄,toks:=tk₄ }) hTO₄ fun h₅ hTO₅ hs₅=>?_);replace hTO₅:IsPair h₅ TO x y:=hTO₅;replace hs₅:Heap.SameBut TO h₄ h₅:=hs₅;refine zz (wpAny_letGo (zu (zu ?_)));refine zz (wpAny_seqItems (s:={ s with heap:=h₅,toks:=tk₄ }) hTO₅ rfl ?_);refine zz (wpAny_newTuple ?_);have hsz:h₅.objs.size=s.heap.objs.size:=by rw[hs₅.1,hs₄.1,hs₃.1,hs₂.1,hs₁.1]
 have hz₅:IsZip h₅ z TI TO .ellipsis:=hs₅.extBut _ _ D.TOz.symm (hs₄.extBut _ _ D.i2z.symm (hs₃.extBut _ _ D.TOz.symm (hs₂.extBut _ _ D.i1z.symm hz₁)));have hk₅:∀ c o,c≠z->c≠TO->c≠i1->c≠i2->s.heap.get? c=some o->h₅.get? c=some o:=fun c o c1 c2 c3 c4 e =>
  hs₅.extBut _ _ c2 (hs₄.extBut _ _ c4 (hs₃.extBut _ _ c2 (hs₂.extBut _ _ c3 (hs₁.extBut _ _ c1 e))))
 have st1₅:S1 (i + 1) h₅:=D1.frame _ _ _ st1₂ fun b hb o e=>hs₅.extBut b o (fun q=>D.t1 (q ▸ hb)) (hs₄.extBut b o (fun q=>D.n21 (q ▸ hb)) (hs₃.extBut b o (fun q=>D.t1 (q ▸ hb)) e));have st2₅:S2 (i + 1) h₅:=D2.frame _ _ _ st2₄ fun b hb o e=>hs₅.extBut b o (fun q=>D.t2 (q ▸ hb)) e;have hzlt:z < h₅.objs.size:=zi hz₅;show wpAny _ _ (Builtin.SmallTypes.ownedTupleHandOut (.ref z) (.ref h₅.objs.size) >>= _) _ _ _;refine zz ?_;unfold Builtin.SmallTypes.ownedTupleHandOut;have hz₆:IsZip (h₅.push { cls:=.type "tuple",data:=.seq #[x,y] }) z TI TO .ellipsis:=zv _ hz₅;refine zz (wpAny_setField_rec (s:={ s with heap:=h₅.push { cls:=.type "tuple",data:=.seq #[x,y] },toks:=tk₄ }) hz₆ (by simp) fun h₇ hz₇ hs₇=>?_);replace hz₇:IsZip h₇ z TI TO (rawInt h₅.objs.size):=hz₇;refine wpAny_setField_rec (s:={ s with heap:=h₇,toks:=tk₄ }) hz₇ (by simp) fun h₈ hz₈ hs₈=>?_;replace hz₈:IsZip h₈ z TI TO (rawInt h₅.objs.size):=hz₈;have up:∀ c o,c≠z->h₅.get? c=some o->h₈.get? c=some o:=fun c o c1 e=>hs₈.extBut _ _ c1 (hs₇.extBut _ _ c1 (zv _ e));have hT₈:IsPair h₈ h₅.objs.size x y:=hs₈.extBut _ _ (yN hzlt) (hs₇.extBut _ _ (yN hzlt) (zj _ rfl));rw[hsz]at hz₈ hT₈;refine zu ⟨_,rfl,?_⟩;show Q (.ref h₅.objs.size) _;rw[hsz];exact hQ x y h₈ tk₄ p1 p2 hz₈ (up _ _ D.TOz hTO₅) (D1.frame _ _ _ st1₅ fun b hb o e=>up b o (fun q=>D.z1 (q ▸ hb)) e) (D2.frame _ _ _ st2₅ fun b hb o e=>up b o (fun q=>D.z2 (q ▸ hb)) e) hT₈ fun c o c1 c2 c3 c4 e=>up c o c1 (hk₅ c o c1 c2 c3 c4 e)
theorem zip_end2 {z TI TO i1 i2:Addr}{f1 f2:List Addr}{n1 n2:Nat}{P1 P2:Nat->Value->Prop}{S1 S2:Nat->Heap->Prop}{a b:Value}{Q:Fin->Shared->Prop}(D:ZAp z TI TO i1 i2 f1 f2)
  (D1:Draws prog w A i1 f1 n1 P1 S1) (D2:Draws prog w A i2 f2 n2 P2 S2)
  (hz:IsZip s.heap z TI TO .none) (hTI:IsPair s.heap TI (.ref i1) (.ref i2)) (hTO:IsPair s.heap TO a b) (st1:S1 n2 s.heap) (st2:S2 n2 s.heap) (l1:n2 < n1)
  (hE:∀ h' e tk,(∀ c o,c≠z->c≠TO->c≠i1->c≠i2->s.heap.get? c=some o->h'.get? c=some o)->(∃ o,h'.get? e=some o/\o.cls=.type "StopIteration")->E (.ref e) { s with heap:=h',toks:=tk }) :
  wpAny (model prog w) A (Builtin.«zip.__next__» ⟨[.ref z],[]⟩) Q E s:=by
 show wpAny _ _ (field (.ref z) 2 >>= _) _ _ _;refine zz (wpAny_field hz rfl (x:=.bool false) rfl ?_);show wpAny _ _ (field (.ref z) 3 >>= _) _ _ _;refine zz (wpAny_field hz rfl (x:=.ref TI) rfl ?_);refine zz (wpAny_seqItems hTI rfl ?_);show wpAny _ _ (Builtin.SmallTypes.ownedTupleIsFree (.ref z) >>= _) _ _ _;refine zz ?_;unfold Builtin.SmallTypes.ownedTupleIsFree;refine zz (wpAny_field hz rfl (x:=.none) rfl (zu ?_));simp only[if_true];refine zz (wpAny_rule ?_);refine zz (wpAny_field hz rfl (x:=.ref TO) rfl ?_);refine zz (wpAny_setField_rec hz (by simp) fun h₁ hz₁ hs₁=>?_);replace hz₁:IsZip h₁ z TI TO .ellipsis:=hz₁;refine zz ?_;simp only[wD,vL,wK,vQ];refine zz (zz (wpAny_onRaise ?_));show wpAny _ _ (Builtin.SmallTypes.nextOf (.ref i1) >>= _) _ _ _;have k1:∀ b∈f1,∀ o,s.heap.get? b=some o->h₁.get? b=some o:=fun b hb o e=>hs₁.extBut b o (fun q=>D.z1 (q ▸ hb)) e;refine zz (D1.item n2 { s with heap:=h₁ } _ _ l1 (D1.frame _ _ _ st1 k1) fun x h₂ tk₂ p1 st1₂ hs₂=>zu ?_);replace hs₂:Heap.SameBut i1 h₁ h₂:=hs₂;have hTO₂:IsPair h₂ TO a b:=hs₂.extBut _ _ D.TOi1 (hs₁.extBut _ _ D.TOz hTO);refine zz (wpAny_seqItems (s:={ s with heap:=h₂,toks:=tk₂ }) hTO₂ rfl ?_);refine zz (wpAny_updateSeq_pair (s:={ s with heap:=h₂,toks:=tk₂ }) hTO₂ fun h₃ hTO₃ hs₃=>?_);replace hTO₃:IsPair h₃ TO x b:=hTO₃;replace hs₃:Heap.SameBut TO h₂ h₃:=hs₃;refine zz (wpAny_letGo (zu ?_));refine zz (zz (wpAny_onRaise ?_));show wpAny _ _ (Builtin.SmallTypes.nextOf (.ref i2) >>= _) _ _ _;have k2:∀ b∈f2,∀ o,s.heap.get? b=some o->h₃.get? b=some o:=fun b hb o e =>
  hs₃.extBut b o (fun q=>D.t2 (q ▸ hb)) (hs₂.extBut b o (fun q=>D.n12 (q ▸ hb)) (hs₁.extBut b o (fun q=>D.z2 (q ▸ hb)) e))
 refine zz (D2.done { s with heap:=h₃,toks:=tk₂ } _ _ (D2.frame _ _ _ st2 k2) fun h₄ e hs₄ he=>?_);replace hs₄:Heap.ExtBut i2 h₃ h₄:=hs₄;obtain⟨oe,hoe,hce⟩:=he;have hz₄:IsZip h₄ z TI TO .ellipsis:=hs₄ _ _ D.i2z.symm (hs₃.extBut _ _ D.TOz.symm (hs₂.extBut _ _ D.i1z.symm hz₁));have hez:e≠z:=fun x=>by subst x;rw[hz₄]at hoe;cases hoe;simp at hce
 refine wpAny_setField_rec (s:={ s with heap:=h₄,toks:=tk₂ }) hz₄ (by simp) fun h₅ _ hs₅=>hE h₅ e tk₂ (fun c o c1 c2 c3 c4 x=>hs₅.extBut _ _ c1 (hs₄ _ _ c4 (hs₃.extBut _ _ c2 (hs₂.extBut _ _ c3 (hs₁.extBut _ _ c1 x))))) ⟨oe,hs₅.extBut _ _ hez hoe,hce⟩
theorem pyNext_zip_item {z TI TO i1 i2:Addr}{f1 f2:List Addr}{n1 n2 i:Nat}{P1 P2:Nat->Value->Prop}{S1 S2:Nat->Heap->Prop}{a b:Value}{Q:Option Value->Shared->Prop}(D:ZAp z TI TO i1 i2 f1 f2)
  (D1:Draws prog w A.in1 i1 f1 n1 P1 S1) (D2:Draws prog w A.in1 i2 f2 n2 P2 S2)
  (hz:IsZip s.heap z TI TO .none) (hTI:IsPair s.heap TI (.ref i1) (.ref i2)) (hTO:IsPair s.heap TO a b) (st1:S1 i s.heap) (st2:S2 i s.heap) (l1:i < n1) (l2:i < n2)
  (hQ:∀ x y h' tk,P1 i x->P2 i y->IsZip h' z TI TO (rawInt s.heap.objs.size)->IsPair h' TO x y->S1 (i + 1) h'->S2 (i + 1) h'->IsPair h' s.heap.objs.size x y ->
   (∀ c o,c≠z->c≠TO->c≠i1->c≠i2->s.heap.get? c=some o->h'.get? c=some o)->Q (some (.ref s.heap.objs.size)) { s with heap:=h',toks:=tk }) :
  wpAny (model prog w) A (pyNext (.ref z)) Q E s:=by
 have hT:s.TypeIs (.ref z) "zip":=⟨_,hz,rfl⟩;unfold pyNext;exact zz (wpAny_attempt (wpAny_callSpecial?_slot (name:=Str.ofString "__next__") hT F.slot_zip_next
  (wpAny_call_entry F.slot_zip_next hT F.entry_zip_next
   (zip_item D D1 D2 hz hTI hTO st1 st2 l1 l2 fun x y h' tk a1 a2 a3 a4 a5 a6 a7 a8=>zu (hQ x y h' tk a1 a2 a3 a4 a5 a6 a7 a8)) (F.args_zip_next_1 _))))
theorem pyNext_zip_end2 {z TI TO i1 i2:Addr}{f1 f2:List Addr}{n1 n2:Nat}{P1 P2:Nat->Value->Prop}{S1 S2:Nat->Heap->Prop}{a b:Value}{Q:Option Value->Shared->Prop}(D:ZAp z TI TO i1 i2 f1 f2)
  (D1:Draws prog w A.in1 i1 f1 n1 P1 S1) (D2:Draws prog w A.in1 i2 f2 n2 P2 S2)
  (hz:IsZip s.heap z TI TO .none) (hTI:IsPair s.heap TI (.ref i1) (.ref i2)) (hTO:IsPair s.heap TO a b) (st1:S1 n2 s.heap) (st2:S2 n2 s.heap) (l1:n2 < n1)
  (hQ:∀ h' tk,(∀ c o,c≠z->c≠TO->c≠i1->c≠i2->s.heap.get? c=some o->h'.get? c=some o)->Q none { s with heap:=h',toks:=tk }):wpAny (model prog w) A (pyNext (.ref z)) Q E s:=by
 have hT:s.TypeIs (.ref z) "zip":=⟨_,hz,rfl⟩;unfold pyNext;refine zz (wpAny_attempt (wpAny_callSpecial?_slot (name:=Str.ofString "__next__") hT F.slot_zip_next
  (wpAny_call_entry F.slot_zip_next hT F.entry_zip_next (zip_end2 D D1 D2 hz hTI hTO st1 st2 l1 fun h' e tk hk he=>?_) (F.args_zip_next_1 _))))
 obtain⟨o,ho,hc⟩:=he;refine zz (wpAny_isInstance (T:="StopIteration") (b:=true) ⟨o,ho,hc⟩ isSubtype_stop ?_);exact zu (hQ _ _ hk)
noncomputable def zipHp (n:String)(h:Heap)(l1 l2:Addr):Heap :=
 ((((h.push { cls:=.type n,data:=.fields #[.ref l1,.int 0 0] }).push { cls:=.type n,data:=.fields #[.ref l2,.int 0 0] }).push { cls:=.type "tuple",data:=.seq #[.ref h.objs.size,.ref (h.objs.size + 1)] }).push
  { cls:=.type "tuple",data:=.seq #[.none,.none] }).push { cls:=.type "zip",data:=.fields #[.none,.bool false,.bool false,.ref (h.objs.size + 2),.ref (h.objs.size + 3)] }
theorem zip_parts (n:String)(h:Heap)(l1 l2:Addr):IsZip (zipHp n h l1 l2) (h.objs.size + 4) (h.objs.size + 2) (h.objs.size + 3) .none/\IsPair (zipHp n h l1 l2) (h.objs.size + 2) (.ref h.objs.size) (.ref (h.objs.size + 1)) /\
  IsPair (zipHp n h l1 l2) (h.objs.size + 3) .none .none/\(zipHp n h l1 l2).get? h.objs.size=some { cls:=.type n,data:=.fields #[.ref l1,.int 0 0] }/\(zipHp n h l1 l2).get? (h.objs.size + 1)=some { cls:=.type n,data:=.fields #[.ref l2,.int 0 0] } /\
  ∀ c o,h.get? c=some o->(zipHp n h l1 l2).get? c=some o:=by
 have z1:(h.push { cls:=.type n,data:=.fields #[.ref l1,.int 0 0] }).objs.size=h.objs.size + 1:=yI ..;have z2:((h.push { cls:=.type n,data:=.fields #[.ref l1,.int 0 0] }).push { cls:=.type n,data:=.fields #[.ref l2,.int 0 0] }).objs.size=h.objs.size + 2:=by rw[yI,z1]
 have z3:(((h.push { cls:=.type n,data:=.fields #[.ref l1,.int 0 0] }).push { cls:=.type n,data:=.fields #[.ref l2,.int 0 0] }).push { cls:=.type "tuple",data:=.seq #[.ref h.objs.size,.ref (h.objs.size + 1)] }).objs.size=h.objs.size + 3:=by rw[yI,z2]
 have z4:((((h.push { cls:=.type n,data:=.fields #[.ref l1,.int 0 0] }).push { cls:=.type n,data:=.fields #[.ref l2,.int 0 0] }).push { cls:=.type "tuple",data:=.seq #[.ref h.objs.size,.ref (h.objs.size + 1)] }).push
  { cls:=.type "tuple",data:=.seq #[.none,.none] }).objs.size=h.objs.size + 4:=by rw[yI,z3]
 unfold zipHp;refine⟨?_,?_,?_,?_,?_,fun c o e=>zv _ (zv _ (zv _ (zv _ (zv _ e))))⟩
 ·rw[<- z4];exact zj _ rfl
 ·refine zv _ (zv _ ?_)
  rw[<- z2];exact zj _ rfl
 ·refine zv _ ?_
  rw[<- z3];exact zj _ rfl
 ·exact zv _ (zv _ (zv _ (zv _ (zj _ rfl))))
 ·refine zv _ (zv _ (zv _ ?_))
  rw[<- z1];exact zj _ rfl
theorem call_zipL {l1 l2:Addr}{xs ys:Array Value}{Q:Value->Shared->Prop}(hl1:s.heap.IsList l1 xs)(hl2:s.heap.IsList l2 ys)(h:Q (.ref (s.heap.objs.size + 4)) { s with heap:=zipHp "list_iterator" s.heap l1 l2 }) :
  wpAny (model prog w) A (call (.type "zip") [.ref l1,.ref l2]) Q E s:=by
 refine callType_new F.called_zip (by decide) (F.typeCall_zip_2 _ _) (F.newCall_zip_2 _ _) (fun obj=>F.args_object_init_3 obj _ _) F.entry_zip_new (meets_zip_new l1 l2 xs ys) ⟨hl1,hl2,?_⟩;have e:zipH5 s.heap l1 l2=zipHp "list_iterator" s.heap l1 l2:=by
  unfold zipHp;simp only[zipH5,zipH4,zipH3,zipH2,zipH1,yI,xi,vS]
 have e4:(zipH4 s.heap l1 l2).objs.size=s.heap.objs.size + 4:=by simp only[zipH4,zipH3,zipH2,zipH1,yI,xi,vS]
 rw[e,e4];show _/\_;exact⟨⟨_,(zip_parts _ _ _ _).1,rfl⟩,h⟩
end
section
variable {X:Cx}{pins:List (Addr×Obj)}{σ:St}{H:Hp}{s:Shared}{h':Heap}
theorem turnedL {t':Nat}(ch:List Addr)(I:Inv X pins σ H s)(k':∀ c o,c ∉ ch->s.heap.get? c=some o->h'.get? c=some o)(f:∀ b∈ch,FpOk X pins H b):Inv X pins σ H { s with heap:=h',toks:=t' }:=by
 have na:∀ c u,H c=some u->c ∉ ch:=fun c u e hc=>by have:=(f c hc).1;rw[e]at this;cases this
 refine I.step (g':=s.gens) (d':=s.drawn) (ch:=ch) (fun c hc=>?_) (fun c o _ _ hc e _=>k' c o hc e) (fun c o _ _ hc e _=>⟨o.slots,k' c o hc e⟩) (fun _ _ _ _ n=>n)
  (fun c o hc e=>⟨o,k' c o hc e⟩) (fun _ _ e=>e) (fun _ _ _ e=>e) (fun c ps e=>⟨#[],by rw[e];simp⟩) (fun m hm=>?_) (fun c u e=>?_) I.bare
 ·obtain⟨_,a1,_,a3,a4,a5⟩:=f c hc
  exact⟨a3,a1,a4,a5⟩
 ·obtain⟨o,es,ep,ho,r⟩:=hm
  exact⟨o,es,ep,k' _ o (fun hc=>(f _ hc).2.1 rfl) ho,r⟩
 ·refine(I.hok c u e).stay (fun d v hd q=>?_) (fun _ q=>q) fun _ _ q=>q
  rcases hd with z | z
  ·exact k' d v (by rw[z];exact na c u e) q
  ·exact k' d v (na d _ z) q
end
noncomputable def Itz (K:PySem.W.Frag)(a b:Addr):It :=
 ⟨fun i H=>∃ xs ys x y,SqL K H a xs/\SqL K H b ys/\xs[i]?=some x/\ys[i]?=some y,fun i H v H'=>∃ p x y,v=.ref p/\H p=none/\H'=upd H p (.tup [x,y])/\(∀ xs,SqL K H a xs->xs[i]?=some x)/\∀ ys,SqL K H b ys->ys[i]?=some y,
  fun i H=>∃ xs ys,SqL K H a xs/\SqL K H b ys/\ys.length=i/\i < xs.length⟩
structure ZNe (z TI TO i1 i2:Addr):Prop where
 TIz:TI≠z
 TOz:TO≠z
 i1z:i1≠z
 i2z:i2≠z
 TITO:TI≠TO
 TIi1:TI≠i1
 TIi2:TI≠i2
 TOi1:TO≠i1
 TOi2:TO≠i2
 i12:i1≠i2
theorem zne (n:Nat):ZNe (n + 4) (n + 2) (n + 3) n (n + 1):=by
 constructor <;> (intro h;have h:(_:Nat)=_:=h;omega)
theorem turn_zip {P:Program}{w:World}{K:PySem.W.Frag}{es:List Expr}{x1:Nat}{pos:Pos}{a b z TI TO i1 i2:Addr}(ne:ZNe z TI TO i1 i2)
  (fr:∀ c∈[z,TI,TO,i1,i2],c≠a/\c≠b) :
  Turn P w K (.Tuple es x1 pos) (Itz K a b) [z,TI,TO,i1,i2] z (fun i h=>IsZip h z TI TO .none/\IsPair h TI (.ref i1) (.ref i2)/\(∃ u v,IsPair h TO u v)/\h.IsListIter i1 a i/\h.IsListIter i2 b i) where
 mem:=by simp
 obj:=fun i h st c hc=>by
  obtain⟨hz,hTI,⟨u,v,hTO⟩,s1,s2⟩:=st;simp only[zO,yZ,or_false]at hc;rcases hc with rfl | rfl | rfl | rfl | rfl
  ·exact⟨_,hz,fun v e=>by cases e⟩
  ·exact⟨_,hTI,fun v e=>by cases e⟩
  ·exact⟨_,hTO,fun v e=>by cases e⟩
  ·obtain⟨o,h1,_,d⟩:=s1
   exact⟨o,h1,fun v e=>by rw[d]at e;cases e⟩
  ·obtain⟨o,h1,_,d⟩:=s2
   exact⟨o,h1,fun v e=>by rw[d]at e;cases e⟩
 keep:=fun i h h' st k=>by
  obtain⟨hz,hTI,⟨u,v,hTO⟩,s1,s2⟩:=st;exact⟨k z (by simp) _ hz,k TI (by simp) _ hTI,⟨u,v,k TO (by simp) _ hTO⟩,s1.at fun o e=>k i1 (by simp) o e,s2.at fun o e=>k i2 (by simp) o e⟩
 item:=by
  intro X hP hw hK hc i pins s σ H E I hf st hg;subst hP hw hK;obtain⟨hz,hTI,⟨u,v,hTO⟩,s1,s2⟩:=st;obtain⟨xs,ys,x,y,hq1,hq2,hx,hy⟩:=hg;obtain⟨it1,rv1,T1,z1⟩:=I.list hq1;obtain⟨it2,rv2,T2,z2⟩:=I.list hq2;obtain⟨u1,hu1,ru1⟩:=rv1.get hx;obtain⟨u2,hu2,ru2⟩:=rv2.get hy;have na:∀ c∈[z,TI,TO,i1,i2],c≠a:=fun c hc=>(fr c hc).1;have nb:∀ c∈[z,TI,TO,i1,i2],c≠b:=fun c hc=>(fr c hc).2;have D1:=Draws.list (prog:=X.prog) (w:=X.w) (A:=X.A.in1) (I.ok.hd hc) i1 a (Ne.symm (na i1 (by simp))) it1.toArray;have D2:=Draws.list (prog:=X.prog) (w:=X.w) (A:=X.A.in1) (I.ok.hd hc) i2 b (Ne.symm (nb i2 (by simp))) it2.toArray;have D:ZAp z TI TO i1 i2 [i1,a] [i2,b]:=⟨ne.TIz,ne.TOz,ne.i1z,ne.i2z,ne.TITO,ne.TIi1,ne.TIi2,ne.TOi1,ne.TOi2,by simp[Ne.symm ne.i1z,na z],by simp[Ne.symm ne.i2z,nb z],by simp[ne.TOi1,na TO],by simp[ne.TOi2,nb TO],by simp[ne.i12,nb i1],by simp[Ne.symm ne.i12,na i2]⟩;refine pyNext_zip_item D D1 D2 hz hTI hTO ⟨s1,T1.isList⟩ ⟨s2,T2.isList⟩ (by rw[zm];exact(zr.mp hu1).1) (by rw[zm];exact(zr.mp hu2).1) fun v1 v2 h1 tk p1 p2 ho hTO1 st1 st2 hT hk=>?_;have e1:v1=u1:=by
   have:it1.toArray[i]?=some u1:=by simpa using hu1
   rw[this]at p1;cases p1;rfl
  have e2:v2=u2:=by
   have:it2.toArray[i]?=some u2:=by simpa using hu2
   rw[this]at p2;cases p2;rfl
  subst e1 e2;refine⟨_,rfl,wpAny_letOwnedTupleGo_zip (s:={ s with heap:=h1,toks:=tk }) ho fun h2 hz2 sb=>?_⟩;replace sb:Heap.SameBut z h1 h2:=sb;have ltz:z < s.heap.objs.size:=zi hz;have keep:∀ c o,c ∉ [z,TI,TO,i1,i2]->s.heap.get? c=some o->h2.get? c=some o:=fun c o hc e=>by
   simp only[zO,yZ,or_false,not_or]at hc;exact(sb.2 c hc.1).trans (hk c o hc.1 hc.2.2.1 hc.2.2.2.1 hc.2.2.2.2 e)
  have I1:Inv X pins σ H { s with heap:=h2,toks:=tk }:=turnedL _ I keep hf;have frs:H s.heap.objs.size=none:=I.hok.fresh (zp _);have ht2:h2.get? s.heap.objs.size=some { cls:=.type "tuple",data:=.seq #[v1,v2] }:=(sb.2 _ (yN ltz)).trans hT;have yg:Young X pins s.heap.objs.size:=young_of I (zp _);have I2:Inv X pins σ (upd H s.heap.objs.size (.tup [x,y])) { s with heap:=h2,toks:=tk } :=
   inv_adopt I1 frs yg ⟨by show 2<=zn;decide,[v1,v2],.cons ru1 (.cons ru2 .nil),⟨⟨_,ht2,rfl,0,rfl⟩,fun o q=>by rw[ht2]at q;cases q;exact⟨rfl,rfl⟩⟩⟩
  refine⟨.ref s.heap.objs.size,_,I2,rfl,⟨_,x,y,rfl,frs,rfl,fun zs hz=>by rw[I.list_inj hz hq1];exact hx,fun zs hz=>by rw[I.list_inj hz hq2];exact hy⟩,⟨hz2,?_,⟨_,_,(sb.2 _ ne.TOz).trans hTO1⟩,?_,?_⟩,fun c hc=>?_⟩
  ·exact(sb.2 _ ne.TIz).trans (hk _ _ ne.TIz ne.TITO ne.TIi1 ne.TIi2 hTI)
  ·exact st1.1.at fun o e=>(sb.2 _ ne.i1z).trans e
  ·exact st2.1.at fun o e=>(sb.2 _ ne.i2z).trans e
  ·have hbn:H c=none:=(hf c hc).1
   have lt:c < s.heap.objs.size:=by
    simp only[zO,yZ,or_false]at hc;rcases hc with rfl | rfl | rfl | rfl | rfl
    ·exact ltz
    ·exact zi hTI
    ·exact zi hTO
    ·obtain⟨o,h1,_⟩:=s1
     exact zi h1
    ·obtain⟨o,h1,_⟩:=s2
     exact zi h1
   rw[upd_ne (zB lt)];exact hbn
 done:=by
  intro X hP hw hK hc i pins s σ H E I hf st hg;subst hP hw hK;obtain⟨hz,hTI,⟨u,v,hTO⟩,s1,s2⟩:=st;obtain⟨xs,ys,hq1,hq2,hy,hx⟩:=hg;obtain⟨it1,rv1,T1,z1⟩:=I.list hq1;obtain⟨it2,rv2,T2,z2⟩:=I.list hq2;have na:∀ c∈[z,TI,TO,i1,i2],c≠a:=fun c hc=>(fr c hc).1;have nb:∀ c∈[z,TI,TO,i1,i2],c≠b:=fun c hc=>(fr c hc).2;have D1:=Draws.list (prog:=X.prog) (w:=X.w) (A:=X.A.in1) (I.ok.hd hc) i1 a (Ne.symm (na i1 (by simp))) it1.toArray;have D2:=Draws.list (prog:=X.prog) (w:=X.w) (A:=X.A.in1) (I.ok.hd hc) i2 b (Ne.symm (nb i2 (by simp))) it2.toArray;have D:ZAp z TI TO i1 i2 [i1,a] [i2,b]:=⟨ne.TIz,ne.TOz,ne.i1z,ne.i2z,ne.TITO,ne.TIi1,ne.TIi2,ne.TOi1,ne.TOi2,by simp[Ne.symm ne.i1z,na z],by simp[Ne.symm ne.i2z,nb z],by simp[ne.TOi1,na TO],by simp[ne.TOi2,nb TO],by simp[ne.i12,nb i1],by simp[Ne.symm ne.i12,na i2]⟩;have e:it2.toArray.size=i:=by rw[zm,<- rv2.length];exact hy
  have e1:it1.toArray.size=xs.length:=by rw[zm,<- rv1.length]
  exact pyNext_zip_end2 D D1 D2 hz hTI hTO ⟨by rw[e];exact s1,T1.isList⟩ ⟨by rw[e];exact s2,T2.isList⟩ (by omega) fun h' tk hk=>⟨rfl,turnedL (t':=tk) [z,TI,TO,i1,i2] I (fun c o hc e=>by
   simp only[zO,yZ,or_false,not_or]at hc;exact hk c o hc.1 hc.2.2.1 hc.2.2.2.1 hc.2.2.2.2 e) hf⟩
 self:=fun _ _ _ _ _ st h=>wpAny_pyIter_zip st.1 h
noncomputable def iZip (K:PySem.W.Frag)(ta:TA):TI:=fun σ H R=>ta σ H fun vs H1=>∃ a b,vs=[.ref a,.ref b]/\(∃ xs ys,SqL K H1 a xs/\SqL K H1 b ys)/\R (Itz K a b) H1
theorem pi_zip {X:Cx}{es:List Expr}{x1:Nat}{tp:Pos}{e1 e2:Expr}{ta:TA}{p pos:Pos}(hg:Gl X "zip")(hm:X.mg "zip" = none)(ha:PA X [e1,e2] ta)(hs:starEach [e1,e2] X.env=[(false,eval e1 X.env),(false,eval e2 X.env)])(hs2:starEach [e2] X.env=[(false,eval e2 X.env)]) :
  PI X (.Tuple es x1 tp) (.Call (.Name "zip" p) [e1,e2] [] pos) (iZip X.K ta):=by
 intro pins s σ H R I h;refine Call_ (ld_blt I hg hm boot_zip (PyProof.Rows.callWith_type1 (thn (ha pos pins s σ H _ I h) fun us s1 ⟨vs,H1,I1,r1,q1⟩=>?_) (by rw[hs,hs2]) (by rw[hs2];rfl)));obtain⟨a,b,e,q⟩:=q1;subst e;cases r1 with
 | cons r rr =>
  cases rr with
  | cons r' rr =>
   cases rr;cases r;cases r';have ne:=zne s1.heap.objs.size;have ge:∀ c∈[s1.heap.objs.size + 4,s1.heap.objs.size + 2,s1.heap.objs.size + 3,s1.heap.objs.size,s1.heap.objs.size + 1],s1.heap.objs.size<=c:=fun c hc=>by
    simp only[zO,yZ,or_false]at hc;omega
   have fp:∀ c∈[s1.heap.objs.size + 4,s1.heap.objs.size + 2,s1.heap.objs.size + 3,s1.heap.objs.size,s1.heap.objs.size + 1],FpOk X pins H1 c:=fun c hc=>I1.fpOk (ge c hc) (I1.hok.fresh (ge c hc));obtain⟨⟨xs,ys,h1,h2⟩,q⟩:=q
   ·obtain⟨it1,rv1,p1,_⟩:=I1.list h1
    obtain⟨it2,rv2,p2,_⟩:=I1.list h2;obtain⟨g1,g2,g3,g4,g5,g6⟩:=zip_parts "list_iterator" s1.heap a b;obtain⟨o1,w1,_⟩:=id p1.isList;obtain⟨o2,w2,_⟩:=id p2.isList;have la:=zi w1;have lb:=zi w2;refine call_zipL p1.isList p2.isList ?_;have I2:Inv X pins σ H1 { s1 with heap:=zipHp "list_iterator" s1.heap a b }:=I1.kept (t':=s1.toks) g6;refine wpAny_pyIter_zip (s:={ s1 with heap:=zipHp "list_iterator" s1.heap a b }) g1 ?_;exact⟨_,_,_,_,H1,rfl,I2,turn_zip ne (fun c hc=>⟨yN (zf la (ge c hc)),yN (zf lb (ge c hc))⟩),⟨g1,g2,⟨_,_,g3⟩,⟨_,g4,rfl,rfl⟩,⟨_,g5,rfl,rfl⟩⟩,fp,q⟩
theorem zip_get2 {xs ys:List D}{i:Nat}(h:i < (xs.zip ys).length):xs[i]?=some ((xs.zip ys)[i]).1/\ys[i]?=some ((xs.zip ys)[i]).2:=by
 have h1:i < xs.length:=by rw[xW]at h;omega
 have h2:i < ys.length:=by rw[xW]at h;omega
 rw[List.getElem_zip,zt h1,zt h2];exact⟨rfl,rfl⟩
theorem LS.lzip {K:PySem.W.Frag}{i j:Nat}{fa fb:DE}{fc:Ev->Mo Fl}(D:Ends)(σ:St)(H:Hp)(h:LS K (fun ρ=>do let x <- fa ρ;let y <- fb ρ;let s <- zipL x y;loopZ s.c1 s.c2 i j fc s.ds ρ) D σ H):tFor (iZip K (tCons (LE K fa) (tCons (LE K fb) tNil))) (gTup K 2 (gCons (gName i) (gCons (gName j) gNil))) (LS K fc) D σ H:=by
 obtain⟨ι,ρ,M,fl,M',S,R,e,k⟩:=h;have e0:=bind_ok e;clear e;obtain⟨x,M1,e1,e⟩:=e0;have e0:=bind_ok e;clear e;obtain⟨y,M2,e2,e⟩:=e0;have e0:=bind_ok e;clear e;obtain⟨src,M3,e3,e⟩:=e0;refine⟨ι,ρ,M,x,M1,S,R,e1,fun v1 H1 ι1 r1 S1 X1=>⟨ι1,ρ,M1,y,M2,S1,R.mono X1,e2,fun v2 H2 ι2 r2 S2 X2=>?_⟩⟩;have r1:=r1.mono X2;have R2:=(R.mono X1).mono X2;cases r1 with
 | ob t =>
  cases r2 with
  | ob t' =>
   rename_i i0 a0 j0 b0;have e30:=bind_ok e3;clear e3;obtain⟨xs,_,e6,e3⟩:=e30;have e60:=getL_ok e6;clear e6;obtain⟨g1,rfl⟩:=e60;have e30:=bind_ok e3;clear e3;obtain⟨ys,_,e6,e3⟩:=e30;have e60:=getL_ok e6;clear e6;obtain⟨g2,rfl⟩:=e60;have e30:=bind_ok e3;clear e3;obtain⟨_,_,e6,e3⟩:=e30;have e60:=need_ok e6;clear e6;obtain⟨hlen,rfl⟩:=e60;have e30:=pure_ok e3;clear e3;obtain⟨rfl,rfl⟩:=e30;obtain⟨a,vs,h1,h2,h3,h4⟩:=sim_list S2 (.ob t) g1;obtain⟨b,ws,k1,k2,k3,k4⟩:=sim_list S2 (.ob t') g2;cases h1;cases k1;refine⟨_,_,rfl,⟨_,_,SqL.of h3,SqL.of k3⟩,?_⟩;dsimp only at e;have hq:∀ ι3 H3 M3,Ext K ι2 H2 ι3 H3->Sim K ι3 M3 H3->okM (some (i0,xs)) M3->okM (some (j0,ys)) M3->∃ us ws,SqL K H3 a0 us/\SqL K H3 b0 ws/\Reps K ι3 H3 xs us/\Reps K ι3 H3 ys ws:=fun ι3 H3 M3 x3 S3 ok1 ok2=>by
    have ok1:M3[_]?=some (MO.lst xs):=ok1;have ok2:M3[_]?=some (MO.lst ys):=ok2;obtain⟨a2,vs2,m1,m2,m3,m4⟩:=sim_list S3 (.ob (x3.pre _ _ h2)) ok1;obtain⟨b2,ws2,n1,n2,n3,n4⟩:=sim_list S3 (.ob (x3.pre _ _ k2)) ok2;cases m1;cases n1;exact⟨_,_,SqL.of m3,SqL.of n3,m4,n4⟩
   have hl2:(xs.zip ys).length=ys.length:=by rw[xW];omega
   refine⟨fun n m σ' H'=>m=(xs.zip ys).length - n/\n<=(xs.zip ys).length/\∃ ι' ρ' M5,Sim K ι' M5 H'/\EnvR K ι' H' ρ' σ'/\Ext K ι2 H2 ι' H'/\loopZ (some (i0,xs)) (some (j0,ys)) i j fc ((xs.zip ys).drop n) ρ' M5=some (.ok fl,M'),
    ⟨_,rfl,zV _,ι2,ρ,_,S2,R2,Ext.refl,e⟩,?_⟩
   rintro n m σ' H' ⟨rfl,hj,ι',ρ',M5,S5,R5,X5,e6⟩;by_cases hlt:n < (xs.zip ys).length
   ·right
    rw[yp hlt]at e6;have e60:=bind_ok e6;clear e6;obtain⟨_,_,e7,e6⟩:=e60;have e70:=stand_ok e7;clear e7;obtain⟨ok1,rfl⟩:=e70;have e60:=bind_ok e6;clear e6;obtain⟨_,_,e7,e6⟩:=e60;have e70:=stand_ok e7;clear e7;obtain⟨ok2,rfl⟩:=e70;have e60:=bind_ok e6;clear e6;obtain⟨f,M6,e7,e6⟩:=e60;obtain⟨us,ws',q1,q2,ra,rb⟩:=hq ι' H' _ X5 S5 ok1 ok2;have hz:=zip_get2 hlt;obtain⟨u,hu,ru⟩:=ra.get hz.1;obtain⟨w,hw,rw'⟩:=rb.get hz.2;refine⟨⟨us,ws',u,w,q1,q2,hu,hw⟩,fun σ3 H3=>∃ ι3 ρ3 M4,Sim K ι3 M4 H3/\EnvR K ι3 H3 ρ3 σ3/\Ext K ι2 H2 ι3 H3/\loopZ (some (i0,xs)) (some (j0,ys)) i j fc ((xs.zip ys).drop (n + 1)) ρ3 M4=some (.ok fl,M'),
     fun σ3 H3 ⟨ι3,ρ3,M4,h1,h2,h3,h4⟩=>⟨(xs.zip ys).length - (n + 1),by omega,rfl,hlt,ι3,ρ3,M4,h1,h2,h3,h4⟩,fun v H'' yl=>?_⟩
    obtain⟨p,x1,y1,rfl,hp,rfl,z1,z2⟩:=yl;have t1:=z1 us q1;rw[hu]at t1;cases t1;have t2:=z2 ws' q2;rw[hw]at t2;cases t2;have X6:Ext K ι' H' ι' (upd H' p (.tup [u,w])):=Ext.tupN hp;refine⟨p,[u,w],rfl,.inl (.inl upd_same),rfl,u,[w],rfl,w,[],rfl,rfl,?_⟩;refine⟨ι',_,_,f,M6,S5.tupN hp,((R5.mono X6).set (ru.mono X6) i).set (rw'.mono X6) j,e7,fun H3 ι3 S3 X3=>?_⟩;cases f with
    | nx ρ3=>exact fun σ3 R3=>⟨ι3,ρ3,M6,S3,R3,(X5.trans X6).trans X3,e6⟩
    | ct ρ3=>exact fun σ3 R3=>⟨ι3,ρ3,M6,S3,R3,(X5.trans X6).trans X3,e6⟩
    | bk ρ3 =>
     have e60:=pure_ok e6;clear e6;obtain⟨rfl,rfl⟩:=e60;exact fun σ3 R3=>k H3 ι3 S3 ((((X1.trans X2).trans X5).trans X6).trans X3) σ3 R3
    | rt v =>
     have e60:=pure_ok e6;clear e6;obtain⟨rfl,rfl⟩:=e60;exact fun v' r'=>k H3 ι3 S3 ((((X1.trans X2).trans X5).trans X6).trans X3) v' r'
   ·left
    have ei:n=(xs.zip ys).length:=by omega
    subst ei;rw[xj]at e6;have e60:=bind_ok e6;clear e6;obtain⟨_,_,e7,e6⟩:=e60;have e70:=stand_ok e7;clear e7;obtain⟨ok1,rfl⟩:=e70;have e60:=bind_ok e6;clear e6;obtain⟨_,_,e7,e6⟩:=e60;have e70:=stand_ok e7;clear e7;obtain⟨ok2,rfl⟩:=e70;have e60:=pure_ok e6;clear e6;obtain⟨rfl,rfl⟩:=e60;obtain⟨us,ws',q1,q2,ra,rb⟩:=hq ι' H' _ X5 S5 ok1 ok2;exact⟨⟨us,ws',q1,q2,by rw[<- rb.length,hl2],by rw[<- ra.length,hl2];exact hlen⟩,k H' ι' S5 ((X1.trans X2).trans X5) σ' R5⟩
  | _=>exact(stop_ok e3).elim
 | _=>exact(stop_ok e3).elim
end L3
namespace L3
open PySem PySem.Spec PyProof.Rows L2
section
variable {X:Cx}
theorem call_intB:CallR X (.type "int") (fun xs H Q=>∃ b:Bool,xs=[.bl b]/\Q (.int (if b then 1 else 0)) H):=by
 intro pins s σ H xs us Q I rv h;obtain⟨b,rfl,q⟩:=h;obtain⟨u,rfl,ru⟩:=vals1 rv;cases ru;exact call_int_bool ⟨.int (if b then 1 else 0),H,I.tok _,⟨_,rfl⟩,q⟩
theorem int_sound {Γ:Ctx}{S:Sc}{f:Str}{a:Expr}{p1 p4:Pos}{fa:DE}(C:CxOk Γ S X)(h:(f==("int" : Str)&&okName f&&S.glo f&&S.bls.contains f)=true)(hp:plainE a=true)(ha:PE X a (LE X.K fa)) :
  PE X (.Call (.Name f p1) [a] [] p4) (LE X.K (fun ρ=>do let x <- fa ρ;let b <- lift (boolD x);pure (.int (if b then 1 else 0)))):=by
 simp only[zk,beq_iff_eq]at h;obtain⟨⟨⟨h1,h2⟩,h3⟩,h4⟩:=h;subst h1;obtain⟨o1,o2,o3⟩:=okName_debug h2;refine PE.imp (pe_callTy call_intB (C.glo h3) (C.bls _ (mem_of_contains h4)) PyProof.Rows.boot_int (pa_cons ha pa_nil (star_plain hp)) o3 o1 (star_plain hp) rfl) fun σ H Q q=>?_;obtain⟨ι,ρ,M,d,M',S',R,e,k⟩:=q;obtain⟨x,M1,e1,ea⟩:=bind_ok e;obtain⟨b,M2,e2,eb⟩:=bind_ok ea;obtain⟨hb,rfl⟩:=lift_ok e2;obtain⟨rfl,rfl⟩:=pure_ok eb;refine⟨ι,ρ,M,x,_,S',R,e1,fun v1 H1 ι1 r1 S1 X1=>?_⟩;cases r1 with
 | bl c=>cases hb;exact⟨_,rfl,k _ H1 ι1 (.int _) S1 X1⟩
 | _=>cases hb
end
end L3
namespace L3
open PySem PySem.Spec PyProof.Rows L2
section
variable {Γ:Ctx}{n:Nat}
noncomputable def SrtI (_:Ctx):Prop:=True
noncomputable def SrtL (Γ:Ctx):Prop:=∀ (S:Sc) (X:Cx) (f:Str) (a:Expr) (p1 p4:Pos) (fa:DE),CxOk Γ S X->(f==("sorted" : Str)&&okName f&&S.glo f&&S.bls.contains f)=true->plainE a=true->PE X a (LE X.K fa) ->
 PE X (.Call (.Name f p1) [a] [] p4) (LE X.K (fun ρ=>do let x <- fa ρ;let ds <- lstD x;let ys <- lift (Γ.srt ds);newM (.lst ys)))
noncomputable def SrtS (Γ:Ctx):Prop:=∀ (S:Sc) (X:Cx) (f:Str) (b:Expr) (p1 p2 p3 p4:Pos) (fb:DE),CxOk Γ S X->(f==("sorted" : Str)&&okName f&&S.glo f&&S.bls.contains f&&(S.glo ("set" : Str)&&S.bls.contains ("set" : Str)))=true->plainE b=true->PE X b (LE X.K fb) ->
 PE X (.Call (.Name f p1) [.Call (.Name "set" p2) [b] [] p3] [] p4) (LE X.K (fun ρ=>do let x <- fb ρ;setS x))
noncomputable def SrtD (_:Ctx):Prop:=True
noncomputable def SrtT (_:Ctx):Prop:=True
noncomputable def SrtOk (Γ:Ctx):Prop:=SrtI Γ/\SrtL Γ/\SrtS Γ/\SrtD Γ/\SrtT Γ
theorem base_of {o:Expr}{a:Str}{env:Env}{w':Sem Value}(h:bsE o=true):attributeBase o a env w'=w':=by
 cases o <;> first
  | rfl
  | exact absurd h zo
  | (rename_i f as ks p
     cases as with
     | nil=>exact absurd h zo
     | cons e es=>cases f <;> first | rfl | (cases ks <;> rfl))
theorem LE.neg {K:PySem.W.Frag}{fa:DE}(σ:St)(H:Hp)(Q:VK)(h:LE K (fun ρ=>do
  let x <- fa ρ
  (match x with
  | .int i=>pure (.int (-i))
  | _=>Mo.stop)) σ H Q):tUn (rU fun i=>.int (-i)) (LE K fa) σ H Q:=by
 obtain⟨ι,ρ,M,d,M',S,R,e,k⟩:=h;have e0:=bind_ok e;clear e;obtain⟨x,M1,e1,e⟩:=e0;refine⟨ι,ρ,M,x,M1,S,R,e1,fun v H1 ι1 r1 S1 X1=>?_⟩;cases r1 with
 | int i=>have e0:=pure_ok e;clear e;obtain⟨rfl,rfl⟩:=e0;exact⟨i,rfl,k _ H1 ι1 (.int _) S1 X1⟩
 | _=>exact(stop_ok e).elim
theorem not_any {α:Type}{l:List (Bool×α)}(h:l.any (·.1)=false):l.all (fun x=>!x.1)=true:=by
 rw[yf];intro x hx
 have:=List.any_eq_false.mp h x hx
 simpa using this
theorem isi_sound {S:Sc}{X:Cx}{f t:Str}{k:Ty}{a:Expr}{p1 p2 p3:Pos}{fa:DE}(C:CxOk Γ S X)(hs:isiOk S f t=true)(hk:tyOf t=some k)(ha:PE X a (LE X.K fa))(hp:plainE a=true) :
  PE X (.Call (.Name f p1) [a,.Name t p2] [] p3) (LE X.K (fun ρ=>do let x <- fa ρ;let b <- tyD k x;pure (.bl b))):=by
 unfold isiOk at hs;simp only[zk,beq_iff_eq]at hs;obtain⟨⟨⟨⟨⟨⟨h1,h2⟩,h3⟩,h4⟩,h5⟩,h6⟩,h7⟩:=hs;subst h1;obtain⟨o1,o2,o3⟩:=okName_debug h2;obtain⟨q1,q2,q3⟩:=okName_debug h5;have pt:PE X (.Name t p2) (tC (.ty (tyName k))):=pe_bltn (C.glo h6) (C.bls _ (mem_of_contains h7)) (ty_boot hk) rfl q3 q1;exact PE.imp (pe_callB (call_isi k) (C.glo h3) (C.bls _ (mem_of_contains h4)) PyProof.Rows.boot_isinstance (pa_cons ha (pa_cons pt pa_nil) (star_plain hp)) o3 o1 (star_plain hp) rfl) LE.isI
theorem call_sound {S:Sc}{X:Cx}{rs:List Expr->Option IEs}(hrs:∀ es i,rs es=some i->PA X es (LA X.K (semEs Γ i))/\es.all plainE=true){f:Str}{p1 pos:Pos}{a:Expr}{as:List Expr}{i:IE}(C:CxOk Γ S X)(h:callK S f (a::as).length (rs (a::as))=some i):PE X (.Call (.Name f p1) (a::as) [] pos) (LE X.K (semE Γ i)):=by
 unfold callK at h;split at h
 ·rename_i hs
  simp only[zk]at hs;obtain⟨o1,o2,o3⟩:=okName_debug hs.1;split at h
  ·rename_i hf
   obtain⟨xs,h1,rfl⟩:=zg.mp h;obtain⟨k,fa,fd,ps,g1,g2,g3,g4,g5,g6⟩:=C.fns f (mem_of_contains hf);obtain⟨pa,pl⟩:=hrs _ _ h1;rw[yq,zk]at pl;exact PE.imp (pe_call g4 g5 (C.glo hs.2) g1 g2 g3 .nil pass0 pa o1 (star_plain pl.1) (back_plain pl.2)) fun σ H Q q=>LE.call σ H Q g6 q
  ·split at h
   ·rename_i hb
    split at h
    ·rename_i b hbl
     obtain⟨xs,h1,rfl⟩:=zg.mp h;obtain⟨pa,pl⟩:=hrs _ _ h1;rw[yq,zk]at pl;have hbt:=(bl_boot hbl).1;have hmg:=C.bls f (mem_of_contains hb);have hc:=call_bl (X:=X) C.calm C.hu b;unfold blVal at hbt hc;split at hbt
     ·rename_i ht
      rw[if_pos ht]at hc;exact PE.imp (pe_callTy hc (C.glo hs.2) hmg hbt pa o3 o1 (star_plain pl.1) (back_plain pl.2)) LE.blt
     ·rename_i ht
      rw[if_neg ht]at hc;exact PE.imp (pe_callB hc (C.glo hs.2) hmg hbt pa o3 o1 (star_plain pl.1) (back_plain pl.2)) LE.blt
    ·cases h
   ·cases h
 ·cases h
section
variable {S:Sc}{X:Cx}{r:Expr->Option IE}{rs:List Expr->Option IEs}{ro:Option Expr->Option IEo}
theorem name_sound (C:CxOk Γ S X){x:Str}{pos:Pos}{i:IE}(h:nameK S x=some i):PE X (.Name x pos) (LE X.K (semE Γ i)):=by
 unfold nameK at h;split at h
 ·rename_i hok
  obtain⟨o1,o2,o3⟩:=okName_debug hok;split at h
  ·rename_i hv
   obtain⟨j,hs,rfl⟩:=zg.mp h;exact PE.imp (pe_var (by rw[C.n];exact slot_get hs) (C.vis hv) o1 o2) (LE.var)
  ·split at h
   ·rename_i hg
    cases h;simp only[zk]at hg;obtain⟨d,u,v,g1,g2,g3,g4⟩:=C.gls x (mem_of_contains hg.2);refine PE.imp (pe_glob (C.glo hg.1) g2 g3 o1) fun σ H Q h=>?_;refine LE.const g4 σ H Q ?_;have e:semE Γ (.glb x)=fun _=>(pure d:Mo D):=by funext ρ;show lift (Γ.gl x)=_;rw[g1];rfl
    rw[e]at h;exact h
   ·cases h
 ·cases h
theorem const_sound {c:Const}{k:Nat}{pos:Pos}{i:IE}(h:constK c=some i):PE X (.Constant c k pos) (LE X.K (semE Γ i)):=by
 cases c with
 | int j=>cases h;exact PE.imp pe_int (LE.const fun _ _=>.int _)
 | bool j=>cases h;exact PE.imp pe_bl (LE.const fun _ _=>.bl _)
 | none=>cases h;exact PE.imp pe_non (LE.const fun _ _=>.non)
 | str j=>cases h;exact PE.imp pe_str (LE.const fun _ _=>.str _)
 | _=>cases h
variable (hr:∀ e i,r e=some i->PE X e (LE X.K (semE Γ i)))
include hr
theorem cmp_sound (C:CxOk Γ S X){a:Expr}{ops:List CmpOp}{bs:List Expr}{pos:Pos}{i:IE}(h:cmpK r a ops bs=some i):PE X (.Compare a ops bs pos) (LE X.K (semE Γ i))/\PT X (.Compare a ops bs pos) (LT X.K (semC Γ (.cmp i))):=by
 unfold cmpK at h;split at h
 ·split at h
  ·cases h
  ·rename_i hm
   obtain⟨x,h1,h⟩:=obind h;obtain⟨y,h2,h⟩:=obind h;cases h;exact⟨PE.imp (pe_cmpR (op_cmp C.hu _) (hr _ _ h1) (hr _ _ h2) (by simpa using hm)) (LE.bin opS_R2S),PT.imp (pt_cmpR (op_cmp C.hu _) (hr _ _ h1) (hr _ _ h2) (by simpa using hm)) fun σ H Q q=>LE.bin opS_R2S σ H _ (LT.test σ H Q q)⟩
 ·split at h
  ·cases h
  ·rename_i op op' b c hm
   obtain⟨x,h1,h⟩:=obind h;obtain⟨y,h2,h⟩:=obind h;obtain⟨z,h3,h⟩:=obind h;cases h;exact⟨PE.imp (pe_chain (op_cmp C.hu op) (op_cmp C.hu op') (hr _ _ h1) (hr _ _ h2) (hr _ _ h3) (by show behindInMarks op' c=false;simpa using hm)) (LE.chain),PT.imp (pt_chain (op_cmp C.hu op) (op_cmp C.hu op') (hr _ _ h1) (hr _ _ h2) (hr _ _ h3) (by show behindInMarks op' c=false;simpa using hm)) fun σ H Q q=>LE.chain σ H _ (LT.test σ H Q q)⟩
 ·cases h
theorem bool_sound {op:BoolOp}{es:List Expr}{pos:Pos}{i:IE}(h:boolK r op es pos=some i):PE X (.BoolOp op es pos) (LE X.K (semE Γ i)):=by
 unfold boolK at h;split at h
 ·obtain⟨x,h1,h⟩:=obind h
  obtain⟨y,h2,h⟩:=obind h;cases h;cases op with
  | And=>exact PE.imp (pe_and (hr _ _ h1) (pe_one (hr _ _ h2))) (LE.and)
  | Or=>exact PE.imp (pe_or (hr _ _ h1) (pe_one (hr _ _ h2))) (LE.or)
 ·obtain⟨x,h1,h⟩:=obind h
  obtain⟨y,h2,h⟩:=obind h;cases h;cases op with
  | And=>exact PE.imp (pe_and (hr _ _ h1) (hr _ _ h2)) (LE.and)
  | Or=>exact PE.imp (pe_or (hr _ _ h1) (hr _ _ h2)) (LE.or)
 ·cases h
theorem un_sound {op:UnaryOp}{a:Expr}{pos:Pos}{i:IE}(h:unK r op a=some i):PE X (.UnaryOp op a pos) (LE X.K (semE Γ i)):=by
 cases op with
 | Not =>
  obtain⟨x,h1,h⟩:=obind h;cases h;exact PE.imp (pe_not (hr _ _ h1)) (LE.not)
 | USub =>
  obtain⟨x,h1,h⟩:=obind h;cases h;exact PE.imp (pe_un un_neg (hr _ _ h1)) (LE.neg)
 | _=>cases h
theorem sub_sound (C:CxOk Γ S X)(ho:∀ e i,ro e=some i->PO X e (LO X.K (semO Γ i))){a b:Expr}{pos:Pos}{i:IE}(h:subK r ro a b=some i):PE X (.Subscript a b pos) (LE X.K (semE Γ i)):=by
 unfold subK at h;split at h
 ·obtain⟨x,h1,h⟩:=obind h
  obtain⟨l,h2,h⟩:=obind h;obtain⟨q,h3,h⟩:=obind h;cases h;exact PE.imp (pe_slice sl_all (hr _ _ h1) (ho _ _ h2) (ho _ _ h3)) (LE.slc)
 ·split at h
  ·rename_i hix
   obtain⟨x,h1,h⟩:=obind h;obtain⟨y,h2,h⟩:=obind h;cases h;exact PE.imp (pe_ix (ix_get C.hu) (hr _ _ h1) (hr _ _ h2) (plainIx_of hix)) (LE.bin opS_R2S)
  ·cases h
omit hr in
theorem nm_eq {a:Expr}{m:Str}{p:Pos}(h:nmE a=some (m,p)):a=.Name m p:=by
 unfold nmE at h;split at h
 ·cases h;rfl
 ·cases h
omit hr in
theorem setE_eq {a b:Expr}{p q:Pos}(h:setE a=some (p,b,q)):∃ p',a=.Call (.Name "set" p') [b] [] q:=by
 unfold setE at h;split at h
 ·rename_i g _ _ _
  split at h
  ·rename_i hg
   cases h
   have:g=("set" : Str):=by simpa using hg
   subst this;exact⟨_,rfl⟩
  ·cases h
 ·cases h
theorem sort_sound (hsrt:SrtOk Γ)(C:CxOk Γ S X){f:Str}{as:List Expr}{p1 p4:Pos}{i:IE}(h:sortK S r f as=some i):PE X (.Call (.Name f p1) as [] p4) (LE X.K (semE Γ i)):=by
 unfold sortK at h;split at h
 ·rename_i a
  split at h
  ·cases h
  ·have fin:∀ {i:IE},(
    if plainE a&&(f==("sorted" : Str)&&okName f&&S.glo f&&S.bls.contains f) then do let x <- r a;some (.sortL x) else none)=some i->PE X (.Call (.Name f p1) [a] [] p4) (LE X.K (semE Γ i)):=fun {i} h=>by
    split at h
    ·rename_i hs
     rw[zk]at hs;obtain⟨x,h1,h⟩:=obind h;cases h;exact hsrt.2.1 S X f _ p1 p4 (semE Γ x) C hs.2 hs.1 (hr _ _ h1)
    ·cases h
   split at h
   ·rename_i p2 b q hg
    obtain⟨p2',e⟩:=setE_eq hg;rw[e];split at h
    ·rename_i hs
     rw[zk]at hs;obtain⟨x,h1,h⟩:=obind h;cases h;exact hsrt.2.2.1 S X f b p1 _ _ p4 (semE Γ x) C hs.2 hs.1 (hr _ _ h1)
    ·cases h
   exact fin h
 ·cases h
theorem cmpR_sound (C:CxOk Γ S X){a:Expr}{ops:List CmpOp}{bs:List Expr}{pos:Pos}{i:IE}(h:cmpR S r a ops bs=some i):PE X (.Compare a ops bs pos) (LE X.K (semE Γ i))/\PT X (.Compare a ops bs pos) (LT X.K (semC Γ (.cmp i))):=by
 unfold cmpR at h;split at h
 ·split at h
  ·cases h
  ·exact cmp_sound hr C h
 ·exact cmp_sound hr C h
theorem isiK_sound (C:CxOk Γ S X){f:Str}{as:List Expr}{p1 p4:Pos}{i:IE}(h:isiK S r f as=some i):PE X (.Call (.Name f p1) as [] p4) (LE X.K (semE Γ i)):=by
 unfold isiK at h;split at h
 ·split at h
  ·rename_i t' p hn
   rw[nm_eq hn];split at h
   ·rename_i hs
    rw[zk]at hs;split at h
    ·rename_i kk hk
     obtain⟨x,h1,h⟩:=obind h;cases h;exact isi_sound C hs.1 hk (hr _ _ h1) hs.2
    ·cases h
   ·cases h
  ·cases h
 ·cases h
variable (hrs:∀ es i,rs es=some i->PA X es (LA X.K (semEs Γ i))/\es.all plainE=true)
include hrs
theorem attr_sound (C:CxOk Γ S X){o:Expr}{m:Str}{p2 p3:Pos}{as:List Expr}{i:IE}(h:attrK r rs o m p2 p3 as=some i):PE X (.Call (.Attribute o m p2) as [] p3) (LE X.K (semE Γ i)):=by
 unfold attrK at h;split at h
 ·split at h
  ·rename_i hs
   simp only[zk,decide_eq_true_eq]at hs;obtain⟨hbs,hs⟩:=hs;split at h
   ·rename_i kk hk
    obtain⟨x,h1,h⟩:=obind h;obtain⟨xs,h2,h⟩:=obind h;cases h;obtain⟨pa,pl⟩:=hrs _ _ h2;have hnm:=mt_name hk;subst hnm;have pl':=pl;rw[yq,zk]at pl;refine PE.imp (pe_bmx (mt_all C.hu kk) (hr _ _ h1) pa (base_of hbs) ?_ hs.1 (star_plain pl.1) (back_plain pl.2)) LE.mth;rw[zk,zk];refine⟨⟨not_any (back_plain pl'),rfl⟩,?_⟩
    have:=hs.2
    simp only[zE,xt,List.isEmpty_nil,if_true]at this ⊢;exact decide_eq_true (by first | lia | omega)
   ·cases h
  ·cases h
 ·cases h
theorem lrngK_sound (C:CxOk Γ S X){f:Str}{as:List Expr}{p1 p4:Pos}{i:IE}{k:Option IE}(h:lrngK S r f as k=some i)(hk:k=some i->PE X (.Call (.Name f p1) as [] p4) (LE X.K (semE Γ i))):PE X (.Call (.Name f p1) as [] p4) (LE X.K (semE Γ i)):=by
 unfold lrngK at h;split at h
 ·split at h
  ·rename_i e g p a b c q hv
   split at h
   ·rename_i ho
    split at h
    ·rename_i hp
     obtain⟨x,h1,h⟩:=obind h;obtain⟨y,h2,h⟩:=obind h;obtain⟨z,h3,h⟩:=obind h;cases h;rw[lrngA_eq hv];exact lrng_sound C ho hp (hr _ _ h1) (hr _ _ h2) (hr _ _ h3)
    ·cases h
   ·exact hk h
  ·exact hk h
 ·exact hk h
theorem intK_sound (C:CxOk Γ S X){f:Str}{as:List Expr}{p1 p4:Pos}{i:IE}{k:Option IE}(h:intK S r f as k=some i)(hk:k=some i->PE X (.Call (.Name f p1) as [] p4) (LE X.K (semE Γ i))):PE X (.Call (.Name f p1) as [] p4) (LE X.K (semE Γ i)):=by
 unfold intK at h;split at h
 ·split at h
  ·rename_i ho
   split at h
   ·rename_i hp
    obtain⟨x,h1,h⟩:=obind h;cases h;exact int_sound C ho hp (hr _ _ h1)
   ·cases h
  ·exact hk h
 ·exact hk h
theorem fn_sound (hsrt:SrtOk Γ)(C:CxOk Γ S X){f:Str}{as:List Expr}{p1 p4:Pos}{i:IE}(h:fnK S r rs f as=some i):PE X (.Call (.Name f p1) as [] p4) (LE X.K (semE Γ i)):=by
 unfold fnK at h;split at h
 ·split at h
  ·exact sort_sound hr hsrt C h
  ·split at h
   ·exact isiK_sound hr C h
   ·
    refine lrngK_sound hr hrs C h fun h=>?_;refine intK_sound hr hrs C h fun h=>?_;exact call_sound hrs C h
 ·cases h
theorem callE_sound (hsrt:SrtOk Γ)(C:CxOk Γ S X){f:Expr}{as:List Expr}{p:Pos}{i:IE}(h:callE S r rs f as p=some i):PE X (.Call f as [] p) (LE X.K (semE Γ i)):=by
 unfold callE at h;split at h
 ·exact fn_sound hr hrs hsrt C h
 ·exact attr_sound hr hrs C h
 ·cases h
end
theorem gens_eq {gs:List Comprehension}{x:Str}{p:Pos}{iter:Expr}{ifs:List Expr}(h:gensK gs=some (x,p,iter,ifs)):gs=[⟨.Name x p,iter,ifs,0⟩]:=by
 unfold gensK at h;split at h
 ·cases h;rfl
 ·cases h
theorem cmpN_eq {e:Expr}{x y:Str}{px py p:Pos}{op:CmpOp}(h:cmpN e=some (x,px,op,y,py,p)):e=.Compare (.Name x px) [op] [.Name y py] p:=by
 cases e with
 | Compare a ops bs q =>
  rcases ops with _ | ⟨o,_ | ⟨_,_⟩⟩
  ·cases h
  ·replace h:cmpN1 a o bs q=some (x,px,op,y,py,p):=h
   rcases bs with _ | ⟨b,_ | ⟨_,_⟩⟩
   ·cases h
   ·unfold cmpN1 at h
    dsimp only at h;split at h
    ·rename_i h1
     split at h
     ·rename_i h2
      cases h;rw[nm_eq h1,nm_eq h2]
     ·cases h
    ·cases h
   ·cases h
  ·cases h
 | _=>cases h
theorem kyrC_eq {x lo hi:Str}{e:Expr}(h:kyrC x e=some (lo,hi)):okName lo=true/\okName hi=true/\okName x=true/\∃ p1 p2 p3 p4 p5 p6 p7,e=.BoolOp .And [.Compare (.Name lo p1) [.LtE] [.Name x p2] p3,.Compare (.Name x p4) [.Lt] [.Name hi p5] p6] p7:=by
 cases e with
 | BoolOp op es p =>
  replace h:(if isAnd op then kyrC1 x es else none)=some (lo,hi):=h;cases op with
  | Or=>cases h
  | And =>
   rcases es with _ | ⟨a,_ | ⟨b,_ | ⟨_,_⟩⟩⟩
   ·cases h
   ·cases h
   ·replace h:kyrC2 x a b=some (lo,hi):=h
    unfold kyrC2 at h;split at h
    ·rename_i lo' p1 o1 y p2 p3 ha
     split at h
     ·rename_i z p4 o2 hi' p5 p6 hb
      split at h
      ·rename_i hq
       simp only[zk,beq_iff_eq]at hq;obtain⟨q1,q2,rfl,rfl,h1,h2,h3⟩:=hq;cases h;rw[cmpN_eq ha,cmpN_eq hb];cases o1 <;> cases q1;cases o2 <;> cases q2;exact⟨h1,h2,h3,_,_,_,_,_,_,_,rfl⟩
      ·cases h
     ·cases h
    ·cases h
   ·cases h
 | _=>cases h
theorem kyrK_sound {S:Sc}{X:Cx}(C:CxOk Γ S X){elt iter:Expr}{sc:Scope}{x:Str}{px pos:Pos}{ifs:List Expr}{i:IE}{k:Option IE}(hc:compOk S sc [x]=true)(h:kyrK S elt sc x iter ifs k=some i)(hk:k=some i->PE X (.ListComp elt [⟨.Name x px,iter,ifs,0⟩] sc pos) (LE X.K (semE Γ i))) :
  PE X (.ListComp elt [⟨.Name x px,iter,ifs,0⟩] sc pos) (LE X.K (semE Γ i)):=by
 unfold kyrK at h;split at h
 ·rename_i d pd y py c hd hy
  split at h
  ·split at h
   ·rename_i lo hi hq
    split at h
    ·rename_i hs
     simp only[zk,bne_iff_ne,ne_eq,beq_iff_eq]at hs;obtain⟨rfl,s1,s2,s3,s4,s5,s6,s7⟩:=hs;obtain⟨a,h1,h⟩:=obind h;obtain⟨b,h2,h⟩:=obind h;obtain⟨e,h3,h⟩:=obind h;cases h;obtain⟨q1,q2,q3,p1,p2,p3,p4,p5,p6,p7,rfl⟩:=kyrC_eq hq;rw[nm_eq hd,nm_eq hy];exact pe_kyr C hc s1 s2 q1 q2 q3 s3 s4 s5 s6 s7 h1 h2 h3
    ·cases h
   ·cases h
  ·exact hk h
 ·exact hk h
theorem sound_E (hsrt:SrtOk Γ)(ih:Sound Γ n)(S:Sc)(X:Cx)(e:Expr)(i:IE)(C:CxOk Γ S X)(h:cE S (n + 1) e=some i):PE X e (LE X.K (semE Γ i)):=by
 have hr:∀ e i,cE S n e=some i->PE X e (LE X.K (semE Γ i)):=fun e i h=>ih.E _ _ _ _ C h;have hrs:∀ es i,cEs S n es=some i->PA X es (LA X.K (semEs Γ i))/\es.all plainE=true:=fun e i h=>ih.Es _ _ _ _ C h;cases e with
 | Name x p=>exact name_sound C h
 | Constant c k p=>exact const_sound h
 | BinOp a op b p =>
  have h:(if inDomOp op=true then (do let x <- cE S n a;let y <- cE S n b;some (IE.bin op x y)) else none)=some i:=h;split at h
  ·obtain⟨x,h1,h⟩:=obind h
   obtain⟨y,h2,h⟩:=obind h;cases h;exact PE.imp (pe_op (op_bin op) (hr _ _ h1) (hr _ _ h2)) (LE.bin opS_R2S)
  ·cases h
 | Compare a ops bs p=>exact(cmpR_sound hr C h).1
 | BoolOp op es p=>exact bool_sound hr h
 | UnaryOp op a p=>exact un_sound hr h
 | IfExp c a b p =>
  obtain⟨k,h0,h⟩:=obind h;obtain⟨x,h1,h⟩:=obind h;obtain⟨y,h2,h⟩:=obind h;cases h;exact PE.imp (pe_ifExp (ih.C _ _ _ _ C h0) (hr _ _ h1) (hr _ _ h2)) (LE.ite)
 | Tuple es k p =>
  obtain⟨x,h1,h⟩:=obind h;cases h;exact PE.imp (pe_tup (hrs _ _ h1).1) (LE.tup)
 | List es p =>
  obtain⟨x,h1,h⟩:=obind h;cases h;exact PE.imp (pe_lst (hrs _ _ h1).1) (LE.lst)
 | Dict ks vs p =>
  cases ks with
  | nil =>
   cases vs with
   | nil=>cases h;exact PE.imp pe_dnewK (LE.dic)
   | cons a l=>cases h
  | cons a l =>
   replace h:dictK (cE S n) (a::l) vs=some i:=h;unfold dictK at h;split at h
   ·exact absurd (by assumption:(a::l:List (Option Expr))=[]) (List.cons_ne_nil _ _)
   ·rename_i a b u v hks
    split at h
    ·rename_i ht
     rw[zk]at ht;obtain⟨x,h1,h⟩:=obind h;obtain⟨y,h2,h⟩:=obind h;cases h;obtain⟨k1,p1,rfl⟩:=trueE_eq ht.1;obtain⟨k2,p2,rfl⟩:=trueE_eq ht.2;cases hks;exact PE.imp (pe_disp (pps_cons (hr _ _ h1) pe_bl (pps_cons (hr _ _ h2) pe_bl pps_nil)) rfl rfl (fun z=>by cases z) (by show 2<=15;decide)) LE.dic2
    ·cases h
   ·cases h
 | Subscript a b p=>exact sub_sound hr C (fun e i h=>ih.O _ _ _ _ C h) h
 | Call f as ks p =>
  have h:(if ks.isEmpty=true then callE S (cE S n) (cEs S n) f as p else none)=some i:=h;split at h
  ·rename_i hk
   have hk:ks=[]:=vD.mp hk;subst hk;exact callE_sound hr hrs hsrt C h
  ·cases h
 | ListComp elt gs sc p =>
  have h:(match gensK gs with
   | some (x,_,iter,ifs)=>if compOk S sc [x]=true then kyrK S elt sc x iter ifs (do
     let it <- cT S n iter
     let c <- cCo (S.comp sc [x]) n ifs
     let e <- cE (S.comp sc [x]) n elt
     some (IE.comp ((slot S.N x).getD S.N.length) it c e)) else none
   | none=>none)=some i:=h
  split at h
  ·rename_i x px iter ifs hg
   rw[gens_eq hg];split at h
   ·rename_i hc
    refine kyrK_sound C hc h fun h=>?_;obtain⟨it,h1,h⟩:=obind h;obtain⟨c,h2,h⟩:=obind h;obtain⟨y,h3,h⟩:=obind h;cases h;obtain⟨t1,t2⟩:=ih.T _ X (.Name x px) _ _ C h1;exact pe_compS C hc t1 t2 (fun X' C' _=>ih.Co _ _ _ _ C' h2) (fun X' C' _=>ih.E _ _ _ _ C' h3)
   ·cases h
  ·cases h
 | _=>cases h
theorem sound_Es (ih:Sound Γ n)(S:Sc)(X:Cx)(es:List Expr)(i:IEs)(C:CxOk Γ S X)(h:cEs S (n + 1) es=some i):PA X es (LA X.K (semEs Γ i))/\es.all plainE=true:=by
 cases es with
 | nil =>
  cases (show some IEs.nil=some i from h);exact⟨PA.imp pa_nil LA.nil,rfl⟩
 | cons e es =>
  replace h:(if plainE e then (do let x <- cE S n e;let xs <- cEs S n es;some (.cons x xs)) else none)=some i:=h;split at h
  ·rename_i hp
   obtain⟨x,h1,h⟩:=obind h;obtain⟨xs,h2,h⟩:=obind h;cases h;obtain⟨p1,p2⟩:=ih.Es _ _ _ _ C h2;exact⟨PA.imp (pa_cons (ih.E _ _ _ _ C h1) p1 (star_plain hp)) LA.cons,by rw[yq,hp,p2];rfl⟩
  ·cases h
theorem sound_O (ih:Sound Γ n)(S:Sc)(X:Cx)(e:Option Expr)(i:IEo)(C:CxOk Γ S X)(h:cO S (n + 1) e=some i):PO X e (LO X.K (semO Γ i)):=by
 cases e with
 | none =>
  cases (show some IEo.none=some i from h);exact PO.imp po_none LO.none
 | some e =>
  replace h:(do let x <- cE S n e;some (IEo.some x))=some i:=h;obtain⟨x,h1,h⟩:=obind h;cases h;exact PO.imp (po_some (ih.E _ _ _ _ C h1)) LO.some
theorem sound_Co (ih:Sound Γ n)(S:Sc)(X:Cx)(e:List Expr)(i:ICo)(C:CxOk Γ S X)(h:cCo S (n + 1) e=some i):PTs X e (LT X.K (semCo Γ i)):=by
 rcases e with _ | ⟨c,_ | ⟨c2,l⟩⟩
 ·cases (show some ICo.none=some i from h)
  exact PTs.imp pts_nil fun σ H Q q=>by
   obtain⟨ι,ρ,M,b,M',S,R,e,k⟩:=q;obtain⟨rfl,rfl⟩:=pure_ok e;exact k H ι S Ext.refl
 ·replace h:(do let k <- cC S n c;some (ICo.some k))=some i:=h
  obtain⟨x,h1,h⟩:=obind h;cases h;exact pts_one (ih.C _ _ _ _ C h1)
 ·cases (show (none:Option ICo)=some i from h)
theorem pw_imp {X:Cx}{e:Expr}{t t':TT}(h:PW X e t)(k:∀ σ H Q,t' σ H Q->t σ H Q):PW X e t':=fun whole pins s σ H Q I q=>h whole pins s σ H Q I (k σ H Q q)
theorem rngE_eq {b:Expr}{f:Str}{p q:Pos}{as:List Expr}(h:rngE b=some (f,p,as,q)):b=.Call (.Name f p) as [] q:=by
 unfold rngE at h;split at h
 ·cases h;rfl
 ·cases h
theorem fold_it {e:Expr}{env:Env}(h:itE e=true):∀ x,foldedSetIterable e env x=pure x:=by
 intro x;cases e <;> first | rfl | exact absurd h zo
theorem rngK_sound {S:Sc}{X:Cx}{r:Expr->Option IE}(hr:∀ e i,r e=some i->PE X e (LE X.K (semE Γ i)))(C:CxOk Γ S X){tg:Expr}{f:Str}{as:List Expr}{p q:Pos}{i:IT}(h:rngK S r f as=some i):PI X tg (.Call (.Name f p) as [] q) (LI X.K (semT Γ i)):=by
 unfold rngK at h;split at h
 ·rename_i hs
  unfold rngOk at hs;simp only[zk,beq_iff_eq]at hs;obtain⟨⟨⟨⟨h1,h2⟩,h3⟩,h4⟩,h5⟩:=hs;subst h1;split at h
  ·simp only[yq,vX,vT]at h5
   obtain⟨x,g1,h⟩:=obind h;cases h;exact PI.imp (pi_range1 (C.glo h3) (C.bls _ (mem_of_contains h4)) (pa_cons (hr _ _ g1) pa_nil (star_plain h5)) (star_plain h5)) LI.rng1
  ·simp only[yq,vX,vT,zk]at h5
   obtain⟨x,g1,h⟩:=obind h;obtain⟨y,g2,h⟩:=obind h;cases h;exact PI.imp (pi_range2 (C.glo h3) (C.bls _ (mem_of_contains h4)) (pa_cons (hr _ _ g1) (pa_cons (hr _ _ g2) pa_nil (star_plain h5.2)) (star_plain h5.1)) (by rw[star_plain h5.1,star_plain h5.2];rfl) (star_plain h5.2)) LI.rng2
  ·cases h
 ·cases h
theorem sound_T (ih:Sound Γ n)(S:Sc)(X:Cx)(tg e:Expr)(i:IT)(C:CxOk Γ S X)(h:cT S (n + 1) e=some i):PI X tg e (LI X.K (semT Γ i))/\∀ x,foldedSetIterable e X.env x=pure x:=by
 have seq:(cE S n e).map IT.seq=some i->PI X tg e (LI X.K (semT Γ i)):=fun h=>by
  obtain⟨x,h1,rfl⟩:=zg.mp h;exact PI.imp (pi_any (ih.E _ _ _ _ C h1)) LI.seq
 have h:(match rngE e with
  | some (f,_,as,_)=>if (f==("range" : Str))=true then rngK S (cE S n) f as else (cE S n e).map IT.seq
  | none=>if itE e=true then (cE S n e).map IT.seq else none)=some i:=h
 split at h
 ·rename_i f p as q hg
  have he:=rngE_eq hg;split at h
  ·refine⟨?_,by rw[he];exact fun _=>rfl⟩
   rw[he];exact rngK_sound (fun e i h=>ih.E _ _ _ _ C h) C h
  ·exact⟨seq h,by rw[he];exact fun _=>rfl⟩
 ·split at h
  ·rename_i hit
   exact⟨seq h,fold_it hit⟩
  ·cases h
theorem cond_sound {X:Cx}{r:Expr->Option IC}(hr:∀ e i,r e=some i->PT X e (LT X.K (semC Γ i))){op:BoolOp}{es:List Expr}{pos:Pos}{i:IC}(h:condK r op es=some i):PT X (.BoolOp op es pos) (LT X.K (semC Γ i)):=by
 unfold condK at h;split at h
 ·obtain⟨k,h1,h⟩:=obind h
  obtain⟨j,h2,h⟩:=obind h;cases h;cases op with
  | And=>exact PT.imp (pw_and (hr _ _ h1) (pw_and1 (hr _ _ h2))).pt LT.and
  | Or=>exact PT.imp (pw_or (hr _ _ h1) (pw_or1 (hr _ _ h2))).pt LT.or
 ·obtain⟨k,h1,h⟩:=obind h
  obtain⟨j,h2,h⟩:=obind h;obtain⟨l,h3,h⟩:=obind h;cases h;cases op with
  | And=>exact PT.imp (pw_and (hr _ _ h1) (pw_imp (pw_and (hr _ _ h2) (pw_and1 (hr _ _ h3))) LT.and)).pt LT.and
  | Or=>exact PT.imp (pw_or (hr _ _ h1) (pw_imp (pw_or (hr _ _ h2) (pw_or1 (hr _ _ h3))) LT.or)).pt LT.or
 ·obtain⟨k,h1,h⟩:=obind h
  obtain⟨j,h2,h⟩:=obind h;obtain⟨l,h3,h⟩:=obind h;obtain⟨m,h4,h⟩:=obind h;cases h;cases op with
  | And=>exact PT.imp (pw_and (hr _ _ h1) (pw_imp (pw_and (hr _ _ h2) (pw_imp (pw_and (hr _ _ h3) (pw_and1 (hr _ _ h4))) LT.and)) LT.and)).pt LT.and
  | Or=>exact PT.imp (pw_or (hr _ _ h1) (pw_imp (pw_or (hr _ _ h2) (pw_imp (pw_or (hr _ _ h3) (pw_or1 (hr _ _ h4))) LT.or)) LT.or)).pt LT.or
 ·cases h
theorem sound_C (ih:Sound Γ n)(S:Sc)(X:Cx)(e:Expr)(i:IC)(C:CxOk Γ S X)(h:cC S (n + 1) e=some i):PT X e (LT X.K (semC Γ i)):=by
 cases e with
 | UnaryOp op a p =>
  have h:(if (op==.Not)=true then (cC S n a).map IC.not else none)=some i:=h;split at h
  ·rename_i ho
   have ho:op=.Not:=by simpa using ho
   subst ho;obtain⟨k,h1,rfl⟩:=zg.mp h;exact PT.imp (pt_not (ih.C _ _ _ _ C h1)) LT.not
  ·cases h
 | BoolOp op es p=>exact cond_sound (fun e i h=>ih.C _ _ _ _ C h) h
 | Compare a ops bs p =>
  obtain⟨k,h1,rfl⟩:=zg.mp (show (cmpR S (cE S n) a ops bs).map IC.cmp=some i from h);exact(cmpR_sound (fun e i h=>ih.E _ _ _ _ C h) C h1).2
 | Name x p =>
  obtain⟨k,h1,rfl⟩:=zg.mp (show (cE S n (.Name x p)).map IC.tru=some i from h);exact pt_tru (ih.E _ _ _ _ C h1) fun _=>rfl
 | Call f as ks p =>
  obtain⟨k,h1,rfl⟩:=zg.mp (show (cE S n (.Call f as ks p)).map IC.tru=some i from h);exact pt_tru (ih.E _ _ _ _ C h1) fun _=>rfl
 | Subscript a b p =>
  obtain⟨k,h1,rfl⟩:=zg.mp (show (cE S n (.Subscript a b p)).map IC.tru=some i from h);exact pt_tru (ih.E _ _ _ _ C h1) fun _=>rfl
 | _=>cases h
theorem sound (hsrt:SrtOk Γ):∀ n,Sound Γ n
 | 0=>⟨(fun _ _ _ i _ h=>by cases (show (none:Option IE)=some i from h)),(fun _ _ _ i _ h=>by cases (show (none:Option IEs)=some i from h)),(fun _ _ _ i _ h=>by cases (show (none:Option IEo)=some i from h)),(fun _ _ _ _ i _ h=>by cases (show (none:Option IT)=some i from h)),(fun _ _ _ i _ h=>by cases (show (none:Option IC)=some i from h)),(fun _ _ _ i _ h=>by cases (show (none:Option ICo)=some i from h))⟩
 | n + 1=>⟨sound_E hsrt (sound hsrt n),sound_Es (sound hsrt n),sound_O (sound hsrt n),sound_T (sound hsrt n),sound_C (sound hsrt n),sound_Co (sound hsrt n)⟩
end
end L3
namespace L3
open PySem PySem.Spec PyProof.Rows L2
section
variable {Γ:Ctx}{n:Nat}{K:PySem.W.Frag}
theorem LS.set {i:Nat}{fe:DE}(D:Ends)(σ:St)(H:Hp)(h:LS K (fun ρ=>do let x <- fe ρ;pure (.nx (ρ.set i (some x)))) D σ H):tAsg (LE K fe) (gName i) D σ H:=by
 obtain⟨ι,ρ,M,fl,M',S,R,e,k⟩:=h;have e0:=bind_ok e;clear e;obtain⟨x,M1,e1,e⟩:=e0;have e0:=pure_ok e;clear e;obtain⟨rfl,rfl⟩:=e0;exact⟨ι,ρ,M,x,_,S,R,e1,fun v H1 ι1 r1 S1 X1=>k H1 ι1 S1 X1 _ ((R.mono X1).set r1 i)⟩
theorem LS.setIx {fo fi fe:DE}(D:Ends)(σ:St)(H:Hp)(h:LS K (fun ρ=>do let v <- fe ρ;let x <- fo ρ;let y <- fi ρ;setIx x y v;pure (.nx ρ)) D σ H):tAsg (LE K fe) (gSub (LE K fo) (LE K fi) (RSet K)) D σ H:=by
 obtain⟨ι,ρ,M,fl,M',S,R,e,k⟩:=h;have e0:=bind_ok e;clear e;obtain⟨v,M1,e1,e⟩:=e0;have e0:=bind_ok e;clear e;obtain⟨x,M2,e2,e⟩:=e0;have e0:=bind_ok e;clear e;obtain⟨y,M3,e3,e⟩:=e0;have e0:=bind_ok e;clear e;obtain⟨u,M4,e4,e⟩:=e0;have e0:=pure_ok e;clear e;obtain⟨rfl,rfl⟩:=e0;refine⟨ι,ρ,M,v,M1,S,R,e1,fun v1 H1 ι1 r1 S1 X1=>?_⟩;refine⟨ι1,ρ,M1,x,M2,S1,R.mono X1,e2,fun v2 H2 ι2 r2 S2 X2=>?_⟩;refine⟨ι2,ρ,M2,y,M3,S2,(R.mono X1).mono X2,e3,fun v3 H3 ι3 r3 S3 X3=>?_⟩;exact⟨ι3,M3,_,x,y,v,u,S3,r2.mono X3,r3,(r1.mono X2).mono X3,e4,fun H4 S4 X4=>k H4 ι3 S4 (((X1.trans X2).trans X3).trans X4) σ ((((R.mono X1).mono X2).mono X3).mono X4)⟩
theorem LS.expr {fe:DE}(D:Ends)(σ:St)(H:Hp)(h:LS K (fun ρ=>do let _ <- fe ρ;pure (.nx ρ)) D σ H):tDrop (LE K fe) D σ H:=by
 obtain⟨ι,ρ,M,fl,M',S,R,e,k⟩:=h;have e0:=bind_ok e;clear e;obtain⟨x,M1,e1,e⟩:=e0;have e0:=pure_ok e;clear e;obtain⟨rfl,rfl⟩:=e0;exact⟨ι,ρ,M,x,_,S,R,e1,fun v H1 ι1 r1 S1 X1=>k H1 ι1 S1 X1 _ (R.mono X1)⟩
theorem LS.ret {fe:DE}(D:Ends)(σ:St)(H:Hp)(h:LS K (fun ρ=>do let x <- fe ρ;pure (.rt x)) D σ H):tRet (LE K fe) D σ H:=by
 obtain⟨ι,ρ,M,fl,M',S,R,e,k⟩:=h;have e0:=bind_ok e;clear e;obtain⟨x,M1,e1,e⟩:=e0;have e0:=pure_ok e;clear e;obtain⟨rfl,rfl⟩:=e0;exact⟨ι,ρ,M,x,_,S,R,e1,fun v H1 ι1 r1 S1 X1=>k H1 ι1 S1 X1 v r1⟩
theorem LS.flow {fl:Ev->Fl}(D:Ends)(σ:St)(H:Hp)(h:LS K (fun ρ=>pure (fl ρ)) D σ H):∃ ι ρ,EnvR K ι H ρ σ/\FlP K D ι H (fl ρ):=by
 obtain⟨ι,ρ,M,f,M',S,R,e,k⟩:=h;have e0:=pure_ok e;clear e;obtain⟨rfl,rfl⟩:=e0;exact⟨ι,ρ,R,k H ι S Ext.refl⟩
theorem LS.ifS {fc:Ev->Mo Bool}{fa fb:Ev->Mo Fl}(D:Ends)(σ:St)(H:Hp)(h:LS K (fun ρ=>do let k <- fc ρ;if k=true then fa ρ else fb ρ) D σ H):tIfS (LT K fc) (LS K fa) (LS K fb) D σ H:=by
 obtain⟨ι,ρ,M,fl,M',S,R,e,k⟩:=h;have e0:=bind_ok e;clear e;obtain⟨b,M1,e1,e⟩:=e0;refine⟨ι,ρ,M,b,M1,S,R,e1,fun H1 ι1 S1 X1=>?_⟩;split at e
 ·rename_i hb
  rw[if_pos hb];exact⟨ι1,ρ,_,fl,M',S1,R.mono X1,e,fun H' ι' S' X'=>k H' ι' S' (X1.trans X')⟩
 ·rename_i hb
  rw[if_neg hb];exact⟨ι1,ρ,_,fl,M',S1,R.mono X1,e,fun H' ι' S' X'=>k H' ι' S' (X1.trans X')⟩
theorem LS.while {fc:Ev->Mo Bool}{fb:Ev->Mo Fl}{wh:Nat}(D:Ends)(σ:St)(H:Hp)(h:LS K (fun ρ=>whileD fc fb wh ρ) D σ H):tWhile (LT K fc) (LS K fb) D σ H:=by
 obtain⟨ι,ρ,M,fl,M',S,R,e,k⟩:=h;refine⟨fun m σ' H'=>∃ ι' ρ' M2,Sim K ι' M2 H'/\EnvR K ι' H' ρ' σ'/\Ext K ι H ι' H'/\whileD fc fb m ρ' M2=some (.ok fl,M'),⟨wh,ι,ρ,M,S,R,Ext.refl,e⟩,?_⟩;rintro m σ' H' ⟨ι',ρ',M2,S2,R2,X2,e2⟩;cases m with
 | zero=>exact(stop_ok e2).elim
 | succ m =>
  unfold whileD at e2;have e20:=bind_ok e2;clear e2;obtain⟨b,M3,e3,e2⟩:=e20;refine⟨ι',ρ',M2,b,M3,S2,R2,e3,fun H3 ι3 S3 X3=>?_⟩;cases b with
  | true =>
   rw[if_pos rfl]at e2 ⊢;have e20:=bind_ok e2;clear e2;obtain⟨f,M4,e4,e2⟩:=e20;refine⟨fun σ4 H4=>∃ ι' ρ' M2,Sim K ι' M2 H4/\EnvR K ι' H4 ρ' σ4/\Ext K ι H ι' H4/\whileD fc fb m ρ' M2=some (.ok fl,M'),fun σ4 H4 q=>⟨m,yQ _,q⟩,?_⟩;refine⟨ι3,ρ',M3,f,M4,S3,R2.mono X3,e4,fun H4 ι4 S4 X4=>?_⟩;cases f with
   | nx ρ4=>exact fun σ4 R4=>⟨ι4,ρ4,M4,S4,R4,(X2.trans X3).trans X4,e2⟩
   | ct ρ4=>exact fun σ4 R4=>⟨ι4,ρ4,M4,S4,R4,(X2.trans X3).trans X4,e2⟩
   | bk ρ4 =>
    have e20:=pure_ok e2;clear e2;obtain⟨rfl,rfl⟩:=e20;exact fun σ4 R4=>k H4 ι4 S4 ((X2.trans X3).trans X4) σ4 R4
   | rt v =>
    have e20:=pure_ok e2;clear e2;obtain⟨rfl,rfl⟩:=e20;exact fun v' r'=>k H4 ι4 S4 ((X2.trans X3).trans X4) v' r'
  | false =>
   rw[if_neg zo]at e2 ⊢;have e20:=pure_ok e2;clear e2;obtain⟨rfl,rfl⟩:=e20;exact k H3 ι3 S3 (X2.trans X3) σ' (R2.mono X3)
theorem LS.seq {fa fb:Ev->Mo Fl}(D:Ends)(σ:St)(H:Hp)(h:LS K (fun ρ=>do
  let f <- fa ρ
  (match f with
  | .nx ρ'=>fb ρ'
  | .rt v=>pure (.rt v)
  | .bk ρ'=>pure (.bk ρ')
  | .ct ρ'=>pure (.ct ρ'))) D σ H):tSeq (LS K fa) (LS K fb) D σ H:=by
 obtain⟨ι,ρ,M,fl,M',S,R,e,k⟩:=h;have e0:=bind_ok e;clear e;obtain⟨f,M1,e1,e⟩:=e0;refine⟨ι,ρ,M,f,M1,S,R,e1,fun H1 ι1 S1 X1=>?_⟩;cases f with
 | nx ρ1=>exact fun σ1 R1=>⟨ι1,ρ1,M1,fl,M',S1,R1,e,fun H' ι' S' X'=>k H' ι' S' (X1.trans X')⟩
 | rt v=>have e0:=pure_ok e;clear e;obtain⟨rfl,rfl⟩:=e0;exact k H1 ι1 S1 X1
 | bk ρ1=>have e0:=pure_ok e;clear e;obtain⟨rfl,rfl⟩:=e0;exact k H1 ι1 S1 X1
 | ct ρ1=>have e0:=pure_ok e;clear e;obtain⟨rfl,rfl⟩:=e0;exact k H1 ι1 S1 X1
structure SoundS (Γ:Ctx) (n:Nat):Prop where
 S:∀ (S:Sc) (X:Cx) (e:Stmt) (i:IS),CxOk Γ S X->(∀ x,X.fn x=true)->cS S n e=some i->PS X e (LS X.K (semS Γ i))
 Ss:∀ (S:Sc) (X:Cx) (e:List Stmt) (i:ISs),CxOk Γ S X->(∀ x,X.fn x=true)->cSs S n e=some i->PSs X e (LS X.K (semSs Γ i))
end
section
variable {Γ:Ctx}{n:Nat}
theorem sw_sub {e o i:Expr}{p:Pos}{l:Nat}{env:Env}:swapsWithSole [.Subscript o i p] e l env=pure false/\swappedStores [.Subscript o i p] e env=pure none:=by
 constructor
 ·cases e <;> rfl
 ·cases e <;> rfl
theorem sw_name {e:Expr}{x:Str}{p:Pos}{l:Nat}{env:Env}(hn:noComp e=true):swapsWith e (some (.Name x p)) l env=pure false:=by
 cases e <;> first | rfl | cases hn
theorem sw_none {e:Expr}{l:Nat}{env:Env}(hn:noComp e=true):swapsWith e none l env=pure false:=by
 cases e <;> first | rfl | cases hn
theorem as_sub {o i:Expr}{p:Pos}{env:Env}(h:ixE i=true):∀ v,assign (.Subscript o i p) env v=(do
   let ov <- holding [v] (eval o env)
   let iv <- holding [v,ov] (eval i env)
   standAt p
   holding [v,ov,iv] (setItem ov iv v)
   release [v,ov,iv] []):=by
 intro v;cases i <;> first | rfl | exact absurd h zo
theorem ps_compS {S:Sc}{X:Cx}{sc:Scope}{x y:Str}{px pos py spos:Pos}{elt iter:Expr}{ifs:List Expr}{j i:Nat}{fs:Ev->Mo Src}{fc:Ev->Mo Bool}{fe:DE}(C:CxOk Γ S X)(h:compOk S sc [x]=true)(hi:PI X (.Name x px) iter (LI X.K fs))(hs:∀ x,foldedSetIterable iter X.env x=pure x)
  (htc:∀ X',CxOk Γ (S.comp sc [x]) X'->X'.K=X.K->PTs X' ifs (LT X'.K fc)) (hte:∀ X',CxOk Γ (S.comp sc [x]) X'->X'.K=X.K->PE X' elt (LE X'.K fe)) (hy:X.N[i]?=some y) (hl:Loc X.env.scope y) (hf:X.fn y=true) :
  PS X (.Assign [.Name y py] (.ListComp elt [⟨.Name x px,iter,ifs,0⟩] sc pos) spos) (LS X.K (fun ρ=>do
   let v <- (do
    let s <- fs ρ
    need (s.ds.length<=zn)
    let ys <- compD s.ck fc fe (ρ.set j none) s.ds
    newM (.lst ys))
   pure (.nx (ρ.set i (some v))))):=by
 intro pins s σ H D I q;have CS:=compOk_sc C I.ok h;have q2:=LS.set D σ H q;exact ps_comp C.calm CS (fun _ _ _ _=>pg_own CS rfl _ _ _ _) hi (fun Ca s H fp=>htc _ (comp_cx C h _ Ca s H fp) rfl) (fun Ca s H fp=>hte _ (comp_cx C h _ Ca s H fp) rfl) hs C.nd hy hl (.inl hf) pins s σ H D I (LE.comp σ H _ q2)
theorem comp_of {v elt:Expr}{gs:List Comprehension}{sc:Scope}(h:compP v=some (elt,gs,sc)):∃ p,v=.ListComp elt gs sc p:=by
 cases v with
 | ListComp a b c p=>cases h;exact⟨p,rfl⟩
 | _=>cases h
theorem enum_sound (hE:∀ n,Sound Γ n){S:Sc}{X:Cx}(C:CxOk Γ S X){es:List Expr}{k1:Nat}{p1 p q:Pos}{f:Str}{as:List Expr}{i:IP}(h1:f = "enumerate")(h:enumK S (cE S n) f as=some i):PI X (.Tuple es k1 p1) (.Call (.Name f p) as [] q) (LI2 X.K (semP Γ i)):=by
 rcases as with _ | ⟨a,_ | ⟨_,_⟩⟩
 ·cases h
 ·replace h:(if okName f&&S.glo f&&S.bls.contains f&&plainE a then (cE S n a).map IP.enum else none)=some i:=h
  split at h
  ·rename_i hs
   simp only[zk]at hs;obtain⟨⟨⟨h2,h3⟩,h4⟩,h5⟩:=hs;obtain⟨x,g,rfl⟩:=zg.mp h;subst h1;intro pins s σ H R I q0;obtain⟨ι,ρ,M,src,M',S',R',e,k⟩:=q0;obtain⟨x0,M1,e1,ea⟩:=bind_ok e;exact(stop_ok ea).elim
  ·cases h
 ·cases h
theorem sound_P (hE:∀ n,Sound Γ n){S:Sc}{X:Cx}(C:CxOk Γ S X){es:List Expr}{k1:Nat}{p1:Pos}{e:Expr}{i:IP}(h:cP S n e=some i):PI X (.Tuple es k1 p1) e (LI2 X.K (semP Γ i))/\∀ x,foldedSetIterable e X.env x=pure x:=by
 have seq:(cE S n e).map IP.seq=some i->PI X (.Tuple es k1 p1) e (LI2 X.K (semP Γ i)):=fun h=>by
  obtain⟨x,h1,rfl⟩:=zg.mp h;exact PI.imp (pi_any ((hE n).E _ _ _ _ C h1)) fun σ H R q=>LI.seq σ H R (LI2.to σ H R q)
 delta cP at h;cases hr:rngE e with
 | some q =>
  obtain⟨f,p,as,q⟩:=q;rw[hr]at h;dsimp only at h;have he:=rngE_eq hr;split at h
  ·rename_i hf
   refine⟨?_,by rw[he];exact fun _=>rfl⟩;rw[he];exact enum_sound hE C (by simpa using hf) h
  ·exact⟨seq h,by rw[he];exact fun _=>rfl⟩
 | none =>
  rw[hr]at h;dsimp only at h;split at h
  ·rename_i hit
   exact⟨seq h,fold_it hit⟩
  ·cases h
theorem nmE_eq {e:Expr}{x:Str}{p:Pos}(h:nmE e=some (x,p)):e=.Name x p:=by
 cases e <;> first | cases h;rfl | cases h
theorem zipFE_eq {S:Sc}{e a b:Expr}{p q:Pos}(h:zipFE S e=some (p,a,b,q)):e=.Call (.Name "zip" p) [a,b] [] q/\plainE a=true/\plainE b=true/\S.glo "zip" = true/\S.bls.contains "zip" = true:=by
 unfold zipFE at h;split at h
 ·rename_i f p' as q' hr
  split at h
  ·rename_i hf
   have hf:f = "zip":=by simpa using hf
   subst hf;split at h
   ·split at h
    ·rename_i hs
     simp only[zk]at hs;cases h;exact⟨rngE_eq hr,hs.1.1.1,hs.1.1.2,hs.1.2,hs.2⟩
    ·cases h
   ·cases h
  ·cases h
 ·cases h
theorem pair_sound (hE:∀ n,Sound Γ n){S:Sc}{X:Cx}(C:CxOk Γ S X)(hf:∀ x,X.fn x=true)(hp:PassesOwn (model X.prog X.w) X.A X.env X.xe){a b iter:Expr}{body:List Stmt}{r:Option ISs}{i:IS}{k1:Nat}{p1 p:Pos}(hb:∀ y,r=some y->PSs X body (LS X.K (semSs Γ y)))
  (h:pair2 S n a b iter r=some i):PS X (.For (.Tuple [a,b] k1 p1) iter body [] p) (LS X.K (semS Γ i)):=by
 delta pair2 at h;cases ha:nmE a with
 | none=>rw[ha]at h;cases h
 | some q =>
  obtain⟨x,pa⟩:=q;rw[ha]at h;dsimp only at h;cases hb2:nmE b with
  | none=>rw[hb2]at h;cases h
  | some q =>
   obtain⟨y,pb⟩:=q;rw[hb2]at h;dsimp only at h;obtain rfl:=nmE_eq ha;obtain rfl:=nmE_eq hb2;split at h
   ·rename_i hl
    rw[zk]at hl;obtain⟨i1,h1,h⟩:=obind h;obtain⟨j1,h2,h⟩:=obind h;have hN1:=slot_get h1;rw[<- C.n]at hN1;have hN2:=slot_get h2;rw[<- C.n]at hN2;obtain⟨z,h4,h⟩:=obind h;unfold zipFK at h;split at h
    ·rename_i pz a2 b2 qz hze
     obtain⟨x2,g1,h⟩:=obind h;obtain⟨y2,g2,h⟩:=obind h;cases h;obtain⟨rfl,k1,k2,k3,k4⟩:=zipFE_eq hze;exact PS.imp (ps_for hp C.calm (pi_zip (C.glo k3) (C.bls _ (mem_of_contains k4)) (pa_cons ((hE n).E _ _ _ _ C g1) (pa_cons ((hE n).E _ _ _ _ C g2) pa_nil (star_plain k2)) (star_plain k1)) (by rw[star_plain k1,star_plain k2];rfl) (star_plain k2)) (pg_tup C.calm (pgs_cons (pg_name C.nd hN1 (C.loc hl.1) (.inl (hf x))) (pgs_cons (pg_name C.nd hN2 (C.loc hl.2) (.inl (hf y))) pgs_nil))) (hb _ h4) (fun _=>rfl)) LS.lzip
    obtain⟨it,h3,h⟩:=obind h;cases h;obtain⟨t1,t2⟩:=sound_P hE C h3;exact PS.imp (ps_for hp C.calm t1 (pg_tup C.calm (pgs_cons (pg_name C.nd hN1 (C.loc hl.1) (.inl (hf x))) (pgs_cons (pg_name C.nd hN2 (C.loc hl.2) (.inl (hf y))) pgs_nil))) (hb _ h4) t2) LS.lpair
   ·cases h
theorem sound_S (hE:∀ n,Sound Γ n)(ih:SoundS Γ n)(S:Sc)(X:Cx)(e:Stmt)(i:IS)(C:CxOk Γ S X)(hf:∀ x,X.fn x=true)(h:cS S (n + 1) e=some i):PS X e (LS X.K (semS Γ i)):=by
 have hp:PassesOwn (model X.prog X.w) X.A X.env X.xe:=by rw[C.nox];exact PassesOwn.never
 cases e with
 | Assign ts v pos =>
  replace h:asgK S n ts v=some i:=h;rcases ts with _ | ⟨t,_ | ⟨t2,ts⟩⟩
  ·cases h
  ·replace h:asgT S n t v=some i:=h
   cases t with
   | Name x p =>
    replace h:asgN S n x v=some i:=h;delta asgN at h;cases hc:compP v with
    | some q =>
     obtain⟨elt,gs,sc⟩:=q;rw[hc]at h;dsimp only at h;cases hg:gensK gs with
     | none=>rw[hg]at h;cases h
     | some q =>
      obtain⟨y,py,iter,ifs⟩:=q;rw[hg]at h;dsimp only at h;obtain⟨cp,rfl⟩:=comp_of hc;obtain rfl:=gens_eq hg;split at h
      ·rename_i hl
       rw[zk]at hl;obtain⟨i',h1,h⟩:=obind h;obtain⟨it,g1,h⟩:=obind h;obtain⟨c,g2,h⟩:=obind h;obtain⟨y',g3,h⟩:=obind h;cases h;have hN:=slot_get h1;rw[<- C.n]at hN;obtain⟨t1,t2⟩:=(hE n).T _ X (.Name y py) _ _ C g1;exact ps_compS C hl.2 t1 t2 (fun X' C' _=>(hE n).Co _ _ _ _ C' g2) (fun X' C' _=>(hE n).E _ _ _ _ C' g3) hN (C.loc hl.1) (hf x)
      ·cases h
    | none =>
     rw[hc]at h;dsimp only at h;split at h
     ·rename_i hl
      rw[zk]at hl;obtain⟨j,h1,h⟩:=obind h;obtain⟨y,h2,h⟩:=obind h;cases h;have hN:=slot_get h1;rw[<- C.n]at hN;exact PS.imp (ps_set C.nd hN (C.loc hl.1) ((hE n).E _ _ _ _ C h2) (sw_name hl.2) (.inl (hf x))) LS.set
     ·cases h
   | Subscript o ix p =>
    delta asgT at h;dsimp only at h;split at h
    ·rename_i hix
     obtain⟨y,h1,h⟩:=obind h;obtain⟨a,h2,h⟩:=obind h;obtain⟨b,h3,h⟩:=obind h;cases h;exact PS.imp (ps_asg ((hE n).E _ _ _ _ C h1) (pg_sub ((hE n).E _ _ _ _ C h2) ((hE n).E _ _ _ _ C h3) (set_ix C.hu) (as_sub hix)) sw_sub.1 (sw_sub (l:=0)).2 rfl) LS.setIx
    ·cases h
   | _=>cases h
  ·cases h
 | Expr e pos =>
  replace h:(if noComp e then (do let y <- cE S n e;some (.expr y)) else none)=some i:=h;split at h
  ·rename_i hn
   obtain⟨y,h1,h⟩:=obind h;cases h;exact PS.imp (ps_expr ((hE n).E _ _ _ _ C h1) (sw_none hn)) LS.expr
  ·cases h
 | Return o pos =>
  cases o with
  | some e =>
   replace h:(do let y <- cE S n e;some (.ret y))=some i:=h;obtain⟨y,h1,h⟩:=obind h;cases h;exact PS.imp (ps_ret ((hE n).E _ _ _ _ C h1)) LS.ret
  | none =>
   cases h;exact PS.imp ps_retN fun D σ H q=>by
    obtain⟨ι,ρ,R,k⟩:=LS.flow D σ H q;exact k .non .non
 | Raise a b c =>
  cases h;intro pins s σ H D I q;obtain⟨ι,ρ,M,fl,M',S',R,e,k⟩:=q;exact(stop_ok e).elim
 | Pass p =>
  cases h;exact PS.imp ps_pass fun D σ H q=>by
   obtain⟨ι,ρ,R,k⟩:=LS.flow D σ H q;exact k σ R
 | Break p =>
  cases h;exact PS.imp ps_break fun D σ H q=>by
   obtain⟨ι,ρ,R,k⟩:=LS.flow D σ H q;exact k σ R
 | Continue p =>
  cases h;exact PS.imp ps_continue fun D σ H q=>by
   obtain⟨ι,ρ,R,k⟩:=LS.flow D σ H q;exact k σ R
 | If c a b p =>
  replace h:(do let k <- cC S n c;let x <- cSs S n a;let y <- cSs S n b;some (.ifS k x y))=some i:=h;obtain⟨k,h0,h⟩:=obind h;obtain⟨x,h1,h⟩:=obind h;obtain⟨y,h2,h⟩:=obind h;cases h;exact PS.imp (ps_if ((hE n).C _ _ _ _ C h0) (ih.Ss _ _ _ _ C hf h1) (ih.Ss _ _ _ _ C hf h2)) LS.ifS
 | For t iter b o p =>
  replace h:noneK o (forT S n t iter (cSs S n b))=some i:=h;cases o with
  | cons _ _=>cases h
  | nil =>
   replace h:forT S n t iter (cSs S n b)=some i:=h;cases t with
   | Name x p =>
    replace h:(if S.loc x then (do let i <- slot S.N x;let it <- cT S n iter;let y <- cSs S n b;some (.forS i it y)) else none)=some i:=h;split at h
    ·rename_i hl
     obtain⟨j,h0,h⟩:=obind h;obtain⟨it,h1,h⟩:=obind h;obtain⟨y,h2,h⟩:=obind h;cases h;have hN:=slot_get h0;rw[<- C.n]at hN;obtain⟨t1,t2⟩:=(hE n).T _ X (.Name x p) _ _ C h1;exact PS.imp (ps_for hp C.calm t1 (pg_name C.nd hN (C.loc hl) (.inl (hf x))) (ih.Ss _ _ _ _ C hf h2) t2) LS.loop
    ·cases h
   | Tuple ts k1 p1 =>
    replace h:pairT S n ts iter (cSs S n b)=some i:=h;rcases ts with _ | ⟨a,_ | ⟨b2,_ | ⟨_,_⟩⟩⟩
    ·cases h
    ·cases h
    ·replace h:pair2 S n a b2 iter (cSs S n b)=some i:=h
     exact pair_sound hE C hf hp (fun y h2=>ih.Ss _ _ _ _ C hf h2) h
    ·cases h
   | _=>cases h
 | While c b o p =>
  cases o with
  | cons _ _=>cases h
  | nil =>
   replace h:(do let k <- cC S n c;let y <- cSs S n b;some (.whileS k y))=some i:=h;obtain⟨k,h0,h⟩:=obind h;obtain⟨x,h1,h⟩:=obind h;cases h;exact PS.imp (ps_while hp ((hE n).C _ _ _ _ C h0) (ih.Ss _ _ _ _ C hf h1)) LS.while
 | _=>cases h
theorem sound_Ss (ih:SoundS Γ n)(S:Sc)(X:Cx)(e:List Stmt)(i:ISs)(C:CxOk Γ S X)(hf:∀ x,X.fn x=true)(h:cSs S (n + 1) e=some i):PSs X e (LS X.K (semSs Γ i)):=by
 unfold cSs at h;cases e with
 | nil =>
  cases h;exact PSs.imp pss_nil fun D σ H q=>by
   obtain⟨ι,ρ,R,k⟩:=LS.flow D σ H q;exact k σ R
 | cons s r =>
  obtain⟨x,h1,h⟩:=obind h;obtain⟨y,h2,h⟩:=obind h;cases h;exact PSs.imp (pss_cons (ih.S _ _ _ _ C hf h1) (ih.Ss _ _ _ _ C hf h2)) LS.seq
theorem soundS (hE:∀ n,Sound Γ n):∀ n,SoundS Γ n
 | 0=>⟨(fun _ _ _ _ _ _ h=>by cases h),(fun _ _ _ _ _ _ h=>by unfold cSs at h;cases h)⟩
 | n + 1=>⟨sound_S hE (soundS hE n),sound_Ss (soundS hE n)⟩
end
end L3
namespace L3
open PySem PySem.Spec PyProof.Rows L2
theorem on1 {α:Type}{P:List α->Prop}(h:∀ a,P [a]):∀ us:List α,us.length=1->P us
 | [a],_=>h a
theorem on2 {α:Type}{P:List α->Prop}(h:∀ a b,P [a,b]):∀ us:List α,us.length=2->P us
 | a::r,z9=>on1 (P:=fun r=>P (a::r)) (fun b=>h a b) r (Nat.succ.inj z9)
theorem on3 {α:Type}{P:List α->Prop}(h:∀ a b c,P [a,b,c]):∀ us:List α,us.length=3->P us
 | a::r,z9=>on2 (P:=fun r=>P (a::r)) (fun b c=>h a b c) r (Nat.succ.inj z9)
theorem on4 {α:Type}{P:List α->Prop}(h:∀ a b c d,P [a,b,c,d]):∀ us:List α,us.length=4->P us
 | a::r,z9=>on3 (P:=fun r=>P (a::r)) (fun b c d=>h a b c d) r (Nat.succ.inj z9)
theorem on5 {α:Type}{P:List α->Prop}(h:∀ a b c d e,P [a,b,c,d,e]):∀ us:List α,us.length=5->P us
 | a::r,z9=>on4 (P:=fun r=>P (a::r)) (fun b c d e=>h a b c d e) r (Nat.succ.inj z9)
structure Ent where
 x:Str
 st:Stmt
 N:List Str
 ps:List Str
 b:ISs
noncomputable def tabOf (es:List Ent):List (Str×Fd):=es.map fun e=>(e.x,⟨e.N.length,e.ps.length,e.b⟩)
noncomputable def DefR (K:PySem.W.Frag)(mg:Str->Option Value)(es:List Ent)(gls bls:List Str)(e:Ent):Prop:=∃ (fa:Addr) (fd:FuncData),Fun K e.x e.x e.st fa fd/\mg e.x=some (.ref fa)/\Binds K fd e.ps []/\FnScope e.N e.ps (defScope e.st) /\
 cSs ⟨defScope e.st,e.N,es.map (·.x),gls,bls⟩ 200 (defBody e.st)=some e.b/\(tabOf es).lookup e.x=some ⟨e.N.length,e.ps.length,e.b⟩
noncomputable def GlR (K:PySem.W.Frag)(mg:Str->Option Value)(gl:Str->Option D)(x:Str):Prop:=∃ d u v,gl x=some d/\mg x=some u/\RelV v u/\∀ ι H,Rep K ι H d v
section
variable {P:Program}{w:World}{K:PySem.W.Frag}{mg:Str->Option Value}{base:Heap}{es:List Ent}{gls bls:List Str}{gl:Str->Option D}{srt:List D->Option (List D)}{wh:Nat}
theorem env_start {ι:List Addr}{H:Hp}{ds:List D}{vs:List V}{N:List Str}(r:Reps K ι H ds vs):EnvR K ι H (ds.map some++yH (N.length - ds.length) none) (start N vs) where
 len:=by
  unfold L2.start;rw[zq,zq,zw,zw,ym,ym,r.length]
 val:=fun i d e=>by
  unfold L2.start;by_cases hi:i < ds.length
  ·rw[zF (by rw[zw];exact hi),zh]at e
   rw[zF (by rw[zw,<- r.length];exact hi),zh];cases q:ds[i]? with
   | none=>rw[q]at e;cases e
   | some d' =>
    rw[q]at e;cases e;obtain⟨v,hv,rv⟩:=r.get q;exact⟨v,by rw[hv];rfl,rv⟩
  ·rw[ze (by rw[zw];omega),xB]at e
   split at e <;> cases e
theorem hu100 {A:Around}{k:Nat}(hr:Room k A):A.units + 100 < cLine:=by have:=hr.un;omega
theorem fns_ok (hsrt:∀ k,SrtOk (CtxN (tabOf es) gl srt wh k))(hd:∀ e∈es,DefR K mg es gls bls e)(hg:∀ x∈gls,GlR K mg gl x)(hb:∀ x∈bls,mg x=none):∀ (k:Nat) (e:Ent),e∈es->∃ (fa:Addr) (fd:FuncData),Fun K e.x e.x e.st fa fd /\
  mg e.x=some (.ref fa)/\PySem.W.keepIn K (.ref fa)=true/\Binds K fd e.ps []/\FnOk P w K mg base CX0 k fa fd e.ps (spOf K e.ps.length ((CtxN (tabOf es) gl srt wh k).fn e.x)) /\
  ∀ ds M d M',(CtxN (tabOf es) gl srt wh k).fn e.x ds M=some (.ok d,M')->ds.length=e.ps.length:=by
 intro k;induction k with
 | zero =>
  intro e he;obtain⟨fa,fd,F,hm,hbn,_⟩:=hd e he;refine⟨fa,fd,F,hm,F.kp,hbn,⟨fun vs H Q E h=>h.1,fun A outer s H args us vs Q E _ _ _ _ h=>?_⟩,fun ds M d M' h=>?_⟩
  ·obtain⟨_,_,_,_,_,_,_,_,e,_⟩:=h
   exact(stop_ok e).elim
  ·exact(stop_ok h).elim
 | succ k ih =>
  intro e he;obtain⟨fa,fd,F,hm,hbn,hS,hc,ht⟩:=hd e he;have hfn:(CtxN (tabOf es) gl srt wh (k + 1)).fn e.x=fun xs=>(do need (xs.length=e.ps.length);semF (CtxN (tabOf es) gl srt wh k) e.N.length e.b xs:Mo D):=by
   funext xs;show (match (tabOf es).lookup e.x with
    | some d=>(do need (xs.length=d.p);semF (CtxN (tabOf es) gl srt wh k) d.n d.b xs:Mo D)
    | none=>Mo.stop)=_
   rw[ht]
  refine⟨fa,fd,F,hm,F.kp,hbn,?_,fun ds M d M' h=>?_⟩
  ·refine F.ok hS (fun vs H Q E h=>h.1) (fun cdv A outer s H vs Q E hr h=>?_)
   obtain⟨hl,ι,M,M',ds,d,S,r,eq,kk⟩:=h;rw[hfn]at eq;obtain⟨_,M0,e1,eq1⟩:=bind_ok eq;obtain⟨hn,hM⟩:=need_ok e1;rw[hM]at eq1;obtain⟨f,M1,e2,eq2⟩:=bind_ok eq1;have C:CxOk (CtxN (tabOf es) gl srt wh k) ⟨defScope e.st,e.N,es.map (·.x),gls,bls⟩ (cxOf CX0 P w K mg base e.N e.x (defScope e.st) fa cdv A outer s H E).nox:={
    n:=rfl
    sc:=fun x q hx=>⟨q,hx,.inl rfl⟩
    calm:=rfl
    hu:=hu100 hr
    nox:=rfl
    fns:=fun x hx=>by
     obtain⟨e',he',rfl⟩:=yj.mp hx;obtain⟨fa',fd',_,g1,g2,g3,g4,g5⟩:=ih e' he';exact⟨k,fa',fd',e'.ps,g1,g2,g3,g4,hr,g5⟩
    gls:=fun x hx=>by
     obtain⟨d',u,v,g1,g2,g3,g4⟩:=hg x hx;refine⟨d',u,v,?_,g2,g3,g4⟩;cases k <;> exact g1
    bls:=hb
    nd:=hS.nd }
   refine⟨_,(soundS (sound (hsrt k)) 200).Ss _ _ _ _ C (fun _=>rfl) hc,?_⟩;refine⟨ι,_,_,f,M1,S,env_start (N:=e.N) r,e2,fun H' ι' S' X'=>?_⟩;cases f with
   | nx ρ=>obtain⟨rfl,rfl⟩:=pure_ok eq2;exact fun σ _=>kk .non H' ι' .non S' X'
   | rt v=>obtain⟨rfl,rfl⟩:=pure_ok eq2;exact fun v' r'=>kk v' H' ι' r' S' X'
   | bk ρ=>exact(stop_ok eq2).elim
   | ct ρ=>exact(stop_ok eq2).elim
  ·rw[hfn]at h
   obtain⟨_,_,e1,_⟩:=bind_ok h;exact(need_ok e1).1
theorem law_fn (hsrt:∀ k,SrtOk (CtxN (tabOf es) gl srt wh k))(hd:∀ e∈es,DefR K mg es gls bls e)(hg:∀ x∈gls,GlR K mg gl x)(hb:∀ x∈bls,mg x=none)(k:Nat){e:Ent}(he:e∈es){fa:Addr}{fd:FuncData}(F:Fun K e.x e.x e.st fa fd)(hm:mg e.x=some (.ref fa)) :
  FnOk P w K mg base CX0 k fa fd e.ps (spOf K e.ps.length ((CtxN (tabOf es) gl srt wh k).fn e.x)):=by
 obtain⟨fa',fd',F',hm',_,_,g,_⟩:=fns_ok (P:=P) (w:=w) (base:=base) hsrt hd hg hb k e he;rw[hm]at hm';cases hm';obtain⟨_,_,_,_,_,_,_,_,_,_,l1,_⟩:=F.ex;obtain⟨_,_,_,_,_,_,_,_,_,_,l2,_⟩:=F'.ex;rw[l1]at l2;cases l2;exact g
end
theorem ints_reps {K:PySem.W.Frag}{ι:List Addr}{H:Hp}:∀ ns:List Int,Reps K ι H (ns.map D.int) (ns.map V.int)
 | []=>.nil
 | n::r=>.cons (.int n) (ints_reps r)
theorem fz_of {K:PySem.W.Frag}{H:Hp}{a:Addr}{xs:List V}(hO:Only H)(h:SqL K H a xs):FzL K H a xs:=by
 rcases h with (h | h) | h
 ·rcases hO a with z | ⟨o,ys,z⟩
  ·rw[z]at h;cases h
  ·rw[z]at h;cases h
 ·exact .inl h
 ·exact .inr h
theorem sp_law {K:PySem.W.Frag}{H:Hp}{a:Addr}{ns:List Int}{g:List D->Mo D}{E:XK}(hO:Only H)(hS:SqL K H a (ns.map V.int))(hg:∃ M',g [.fl (ns.map .int)] []=some (.ok (.bl true),M')):spOf K 1 g [.ref a] H (fun v _=>v=.bl true) E:=by
 obtain⟨M',e⟩:=hg;refine⟨rfl,[],[],M',_,_,⟨rfl,fun i j a h=>by simp at h,fun i a o h=>by simp at h⟩,.cons (.fl (fz_of hO hS) (ints_reps ns)) .nil,e,fun v H' ι' r _ _=>?_⟩;cases r;rfl
end L3
namespace L3
open PySem PyProof.Rows
noncomputable def gallop':Bool->Keyed->Array Keyed->Nat->Nat->Nat->StateT SortSt Sem (Option Nat):=sortPriv% PySem.Builtin.gallop
noncomputable def bydM (l:Bool)(ky:Keyed)(ar:Array Keyed)(bs i:Nat):StateT SortSt Sem (Option Bool):=do
 let z <- elem' ar (bs + i)
 if l then lt' z ky else return (<- lt' ky z).map (!·)
noncomputable def finG (l:Bool)(ky:Keyed)(ar:Array Keyed)(bs n l0 h0:Nat):StateT SortSt Sem (Option Nat):=do
 let mut lo:=l0
 let mut hi:=h0
 for _ in [0:n] do
  if lo ≥ hi then break
  let m:=lo + (hi - lo) / 2
  let some mo <- bydM l ky ar bs m | return none
  if mo then lo:=m + 1 else hi:=m
 return some hi
theorem gallop'_eq (l:Bool)(ky:Keyed)(ar:Array Keyed)(bs n ht:Nat):gallop' l ky ar bs n ht=(do
 let mut la:=0
 let mut os:=1
 let some rt <- bydM l ky ar bs ht | return none
 if rt then
  let mx:=n - ht
  for _ in [0:n] do
   if os ≥ mx then break
   let some mo <- bydM l ky ar bs (ht + os) | return none
   if !mo then break
   la:=os
   os:=2 * os + 1
  finG l ky ar bs n (ht + la + 1) (ht + min os mx)
 else
  let mx:=ht + 1
  for _ in [0:n] do
   if os ≥ mx then break
   let some fo <- bydM l ky ar bs (ht - os) | return none
   if fo then break
   la:=os
   os:=2 * os + 1
  finG l ky ar bs n (ht + 1 - min os mx) (ht - la)):=rfl
section
variable {prog:Program}{w:World}{A:Around}{E:Value->Shared->Prop}{s:Shared}
theorem wpS_lt {st:SortSt}{x y:Keyed}{a b:Int}{t u:Tok}{Q:Option Bool->SortSt->Prop}(hk:kindOf st=oneType')(hx:x.1=.int a t)(hy:y.1=.int b u)(h:Q (some (decide (a < b))) st):wpS (model prog w) A E s (lt' x y) Q st:=by
 rw[lt'_eq];refine wpS_bind (wpS_get ?_);rw[hk,keyLt'_oneType,hx,hy];refine wpS_bind (wpS_lift (wpAny_attempt (oneLt_int ⟨rfl,?_⟩)));exact wpS_pure h
theorem wpS_elem {st:SortSt}{ar:Array Keyed}{i:Nat}{p:Keyed}{Q:Keyed->SortSt->Prop}(h:ar[i]?=some p)(q:Q p st):wpS (model prog w) A E s (elem' ar i) Q st:=by
 rw[elem'_eq,h];exact wpS_pure q
noncomputable def bydB (l:Bool)(kv:Int)(ar:Array Keyed)(bs i:Nat):Bool:=if l=true then decide (K ar (bs + i) < kv) else !decide (kv < K ar (bs + i))
theorem int_at {ar:Array Keyed}{i:Nat}(h0:IntKeys ar)(hi:i < ar.size):∃ t q,ar[i]?=some (.int (K ar i) t,q):=by
 obtain⟨n,t,hn⟩:=h0 ar[i] (by simp);refine⟨t,ar[i].2,?_⟩;have e:ar[i]?=some ar[i]:=getElem?_pos _ i hi;have e2:ar[i]=(.int n t,ar[i].2):=Prod.ext hn rfl;unfold K;rw[e,e2];rfl
theorem wpS_byd {st:SortSt}{l:Bool}{ky:Keyed}{ar:Array Keyed}{bs i:Nat}{kv:Int}{t:Tok}{Q:Option Bool->SortSt->Prop}(hk:kindOf st=oneType')(h0:IntKeys ar)(hy:ky.1=.int kv t)(hi:bs + i < ar.size)(q:Q (some (bydB l kv ar bs i)) st):wpS (model prog w) A E s (bydM l ky ar bs i) Q st:=by
 obtain⟨u,v,e⟩:=int_at h0 hi;unfold bydM;refine wpS_bind (wpS_elem e ?_);unfold bydB at q;cases l with
 | true =>
  rw[if_pos rfl]at q ⊢;exact wpS_lt hk rfl hy q
 | false =>
  rw[if_neg zo]at q ⊢;exact wpS_bind (wpS_lt hk hy rfl (wpS_pure q))
theorem wpS_gallop {st:SortSt}{l:Bool}{ky:Keyed}{ar:Array Keyed}{bs n ht:Nat}{kv:Int}{t:Tok}{Q:Option Nat->SortSt->Prop}(hk:kindOf st=oneType')(h0:IntKeys ar)(hy:ky.1=.int kv t)(hn:bs + n<=ar.size)(hh:ht < n)
  (mono:∀ i j,i<=j->j < n->bydB l kv ar bs j=true->bydB l kv ar bs i=true)
  (q:∀ r,r<=n->(∀ i,i < r->bydB l kv ar bs i=true)->(∀ i,r<=i->i < n->bydB l kv ar bs i=false)->Q (some r) st):wpS (model prog w) A E s (gallop' l ky ar bs n ht) Q st:=by
 rw[gallop'_eq];have anti:∀ i j,i<=j->j < n->bydB l kv ar bs i=false->bydB l kv ar bs j=false:=fun i j h1 h2 h3=>by
  cases e:bydB l kv ar bs j with
  | false=>rfl
  | true=>rw[mono i j h1 h2 e]at h3;cases h3
 generalize hB:bydB l kv ar bs=B at mono q anti;have bd:∀ {i:Nat} {R:Option Bool->SortSt->Prop},i < n->R (some (B i)) st->wpS (model prog w) A E s (bydM l ky ar bs i) R st:=fun {i R} h1 h2=>wpS_byd hk h0 hy (by omega) (by rw[hB];exact h2);have fin:∀ lo hi,lo<=hi->hi<=n->(∀ i,i < lo->B i=true)->(∀ i,hi<=i->i < n->B i=false)->wpS (model prog w) A E s (finG l ky ar bs n lo hi) Q st:=fun lo hi h1 h2 h3 h4=>by
  unfold finG;dsimp only;refine wpS_bind (wpS_mono (wpS_forRange (I:=fun x c st'=>st'=st/\∃ lo hi,c=(none,lo,hi)/\lo<=hi/\hi<=n/\hi - lo + x<=n/\(∀ i,i < lo->B i=true)/\(∀ i,hi<=i->i < n->B i=false)) (Q:=fun c st'=>st'=st/\∃ hi,c=(none,hi,hi)/\hi<=n/\(∀ i,i < hi->B i=true)/\(∀ i,hi<=i->i < n->B i=false)) ?step ?fi ⟨rfl,lo,hi,rfl,h1,h2,by omega,h3,h4⟩) ?post)
  case step =>
   rintro x c st' _ hx ⟨rfl,lo,hi,rfl,a1,a2,a3,a4,a5⟩;dsimp only;by_cases c1:lo ≥ hi
   ·rw[if_pos c1]
    have:lo=hi:=by omega
    subst this;exact wpS_pure ⟨rfl,lo,rfl,a2,a4,a5⟩
   ·rw[if_neg c1]
    refine wpS_bind (bd (by omega) ?_);dsimp only;cases e:B (lo + (hi - lo) / 2) with
    | true =>
     rw[if_pos rfl];exact wpS_pure ⟨rfl,_,_,rfl,by omega,a2,by omega,fun i hi'=>mono i _ (by omega) (by omega) e,a5⟩
    | false =>
     rw[if_neg zo];exact wpS_pure ⟨rfl,_,_,rfl,by omega,by omega,by omega,a4,fun i h1 h2=>anti _ i h1 h2 e⟩
  case fi =>
   rintro c st' ⟨rfl,lo,hi,rfl,a1,a2,a3,a4,a5⟩
   have:lo=hi:=by omega
   subst this;exact⟨rfl,lo,rfl,a2,a4,a5⟩
  case post =>
   rintro c st' ⟨rfl,hi,rfl,a2,a4,a5⟩;exact wpS_pure (q hi a2 a4 a5)
 dsimp only;refine wpS_bind (bd hh ?_);dsimp only;cases e:B ht with
 | true =>
  rw[if_pos rfl];refine wpS_bind (wpS_mono (wpS_forRange (I:=fun x c st'=>st'=st/\∃ la os,c=(none,la,os)/\la < os/\x + 1<=os/\ht + la < n/\(∀ i,i<=ht + la->B i=true)) (Q:=fun c st'=>st'=st/\∃ la os,c=(none,la,os)/\la < os/\ht + la < n/\(∀ i,i<=ht + la->B i=true)/\(∀ i,ht + os<=i->i < n->B i=false)) ?step ?fi ⟨rfl,0,1,rfl,by omega,by omega,by omega,fun i hi=>mono i ht (by omega) hh e⟩) ?post)
  case step =>
   rintro x c st' _ hx ⟨rfl,la,os,rfl,a1,a2,a3,a4⟩;dsimp only;by_cases c1:os ≥ n - ht
   ·rw[if_pos c1]
    exact wpS_pure ⟨rfl,la,os,rfl,a1,a3,a4,fun i h1 h2=>by omega⟩
   ·rw[if_neg c1]
    refine wpS_bind (bd (by omega) ?_);dsimp only;cases e2:B (ht + os) with
    | true=>exact wpS_pure ⟨rfl,_,_,rfl,by omega,by omega,by omega,fun i hi=>mono i _ hi (by omega) e2⟩
    | false=>exact wpS_pure ⟨rfl,la,os,rfl,a1,a3,a4,fun i h1 h2=>anti _ i h1 h2 e2⟩
  case fi =>
   rintro c st' ⟨rfl,la,os,rfl,a1,a2,a3,a4⟩;exact⟨rfl,la,os,rfl,a1,a3,a4,fun i h1 h2=>by omega⟩
  case post =>
   rintro c st' ⟨rfl,la,os,rfl,a1,a3,a4,a5⟩;show wpS _ _ _ _ (finG _ _ _ _ _ _ _) _ _;dsimp only;exact fin _ _ (by omega) (by omega) (fun i hi=>a4 i (by omega)) fun i h1 h2=>a5 i (by omega) h2
 | false =>
  rw[if_neg zo];refine wpS_bind (wpS_mono (wpS_forRange (I:=fun x c st'=>st'=st/\∃ la os,c=(none,la,os)/\la < os/\x + 1<=os/\la<=ht/\(∀ i,ht - la<=i->i < n->B i=false)) (Q:=fun c st'=>st'=st/\∃ la os,c=(none,la,os)/\la < os/\la<=ht/\(∀ i,ht - la<=i->i < n->B i=false)/\(∀ i,i + os<=ht->B i=true)) ?step ?fi ⟨rfl,0,1,rfl,by omega,by omega,by omega,fun i h1 h2=>anti ht i (by omega) h2 e⟩) ?post)
  case step =>
   rintro x c st' _ hx ⟨rfl,la,os,rfl,a1,a2,a3,a4⟩;dsimp only;by_cases c1:os ≥ ht + 1
   ·rw[if_pos c1]
    exact wpS_pure ⟨rfl,la,os,rfl,a1,a3,a4,fun i h1=>by omega⟩
   ·rw[if_neg c1]
    refine wpS_bind (bd (by omega) ?_);dsimp only;cases e2:B (ht - os) with
    | false=>exact wpS_pure ⟨rfl,_,_,rfl,by omega,by omega,by omega,fun i h1 h2=>anti _ i h1 h2 e2⟩
    | true=>exact wpS_pure ⟨rfl,la,os,rfl,a1,a3,a4,fun i h1=>mono i _ (by omega) (by omega) e2⟩
  case fi =>
   rintro c st' ⟨rfl,la,os,rfl,a1,a2,a3,a4⟩;exact⟨rfl,la,os,rfl,a1,a3,a4,fun i h1=>by omega⟩
  case post =>
   rintro c st' ⟨rfl,la,os,rfl,a1,a3,a4,a5⟩;show wpS _ _ _ _ (finG _ _ _ _ _ _ _) _ _;dsimp only;exact fin _ _ (by omega) (by omega) (fun i hi=>a5 i (by omega)) fun i h1 h2=>a4 i (by omega) h2
end
end L3
namespace L3
open PySem PyProof.Rows
noncomputable def setMinGallop':Nat->StateT SortSt Sem Unit:=sortPriv% PySem.Builtin.setMinGallop
noncomputable def mergeLo':Array Keyed->Array Keyed->StateT SortSt Sem (Array Keyed):=sortPriv% PySem.Builtin.mergeLo
noncomputable def dnL (a b ou:Array Keyed)(i j:Nat):Array Keyed:=ou++a.extract i a.size++b.extract j b.size
noncomputable def laL (a b ou:Array Keyed)(i j:Nat):Array Keyed:=ou++b.extract j b.size++a.extract i a.size
theorem setMin_eq (g:Nat):setMinGallop' g=modify fun s=>SortSt.mk' (kindOf s) (arrOf s) (pendingOf s) g (failedOf s):=rfl
noncomputable abbrev L1:=Option (Array Keyed)×Array Keyed×Nat×Nat×Nat×Nat
noncomputable abbrev L2':=Option (Array Keyed)×Array Keyed×Nat×Nat×Nat×Nat×Nat
noncomputable def loOne (a b:Array Keyed)(mg:Nat)(ou:Array Keyed)(i j ac bc:Nat):StateT SortSt Sem (ForInStep L1):=do
 let some bw <- lt' (<- elem' b j) (<- elem' a i) | return .done (some (dnL a b ou i j),ou,i,j,ac,bc)
 if bw then
  let x <- elem' b j
  if j + 1==b.size then return .done (some (dnL a b (ou.push x) i (j + 1)),ou.push x,i,j + 1,0,bc + 1)
  if bc + 1 ≥ mg then return .done (none,ou.push x,i,j + 1,0,bc + 1)
  return .yield (none,ou.push x,i,j + 1,0,bc + 1)
 else
  let x <- elem' a i
  if i + 1 + 1==a.size then return .done (some (laL a b (ou.push x) (i + 1) j),ou.push x,i + 1,j,ac + 1,0)
  if ac + 1 ≥ mg then return .done (none,ou.push x,i + 1,j,ac + 1,0)
  return .yield (none,ou.push x,i + 1,j,ac + 1,0)
noncomputable def loC (a b ou:Array Keyed)(i j mg ac bc:Nat):StateT SortSt Sem (ForInStep L2'):=do
 let x <- elem' a i
 if i + 1 + 1==a.size then return .done (some (laL a b (ou.push x) (i + 1) j),ou.push x,i + 1,j,mg,ac,bc)
 if ac < 7&&bc < 7 then return .done (none,ou.push x,i + 1,j,mg,ac,bc)
 return .yield (none,ou.push x,i + 1,j,mg,ac,bc)
noncomputable def loB (a b ou:Array Keyed)(i j mg ac bc:Nat):StateT SortSt Sem (ForInStep L2'):=do
 let x <- elem' b j
 if j + 1==b.size then return .done (some (dnL a b (ou.push x) i (j + 1)),ou.push x,i,j + 1,mg,ac,bc)
 let some k <- gallop' true (<- elem' a i) b (j + 1) (b.size - (j + 1)) 0 | return .done (some (dnL a b (ou.push x) i (j + 1)),ou.push x,i,j + 1,mg,ac,bc)
 if k > 0 then
  if j + 1 + k==b.size then return .done (some (dnL a b (ou.push x++b.extract (j + 1) (j + 1 + k)) i (j + 1 + k)),ou.push x++b.extract (j + 1) (j + 1 + k),i,j + 1 + k,mg,ac,k)
  loC a b (ou.push x++b.extract (j + 1) (j + 1 + k)) i (j + 1 + k) mg ac k
 else loC a b (ou.push x) i (j + 1) mg ac k
noncomputable def loA (a b ou:Array Keyed)(i j mg ac bc:Nat):StateT SortSt Sem (ForInStep L2'):=do
 setMinGallop' mg
 let some k <- gallop' false (<- elem' b j) a i (a.size - i) 0 | return .done (some (dnL a b ou i j),ou,i,j,mg,ac,bc)
 if k > 0 then
  if i + k + 1==a.size then return .done (some (laL a b (ou++a.extract i (i + k)) (i + k) j),ou++a.extract i (i + k),i + k,j,mg,k,bc)
  if i + k==a.size then return .done (some (dnL a b (ou++a.extract i (i + k)) (i + k) j),ou++a.extract i (i + k),i + k,j,mg,k,bc)
  loB a b (ou++a.extract i (i + k)) (i + k) j mg k bc
 else loB a b ou i j mg k bc
noncomputable abbrev L0:=Option (Array Keyed)×Array Keyed×Nat×Nat×Nat
noncomputable def loRound (a b ou:Array Keyed)(i j mg:Nat):StateT SortSt Sem (ForInStep L0):=do
 let c <- forIn [0:a.size + b.size] ((none,ou,i,j,0,0):L1) fun _ c=>loOne a b mg c.2.1 c.2.2.1 c.2.2.2.1 c.2.2.2.2.1 c.2.2.2.2.2
 match c.1 with
 | some r=>return .done (some r,c.2.1,c.2.2.1,c.2.2.2.1,mg)
 | none =>
  rule "list.sort.gallop"
  let c <- forIn [0:a.size + b.size] ((none,c.2.1,c.2.2.1,c.2.2.2.1,mg + 1,c.2.2.2.2.1,c.2.2.2.2.2):L2') fun _ c =>
   if c.2.2.2.2.1 > 1 then loA a b c.2.1 c.2.2.1 c.2.2.2.1 (c.2.2.2.2.1 - 1) c.2.2.2.2.2.1 c.2.2.2.2.2.2 else loA a b c.2.1 c.2.2.1 c.2.2.2.1 c.2.2.2.2.1 c.2.2.2.2.2.1 c.2.2.2.2.2.2
  match c.1 with
  | some r=>return .done (some r,c.2.1,c.2.2.1,c.2.2.2.1,c.2.2.2.2.1)
  | none =>
   setMinGallop' (c.2.2.2.2.1 + 1)
   return .yield (none,c.2.1,c.2.2.1,c.2.2.2.1,c.2.2.2.2.1 + 1)
theorem bd_eq {α β:Type}{m m':StateT SortSt Sem α}{f f':α->StateT SortSt Sem β}(h:m=m')(k:∀ x,f x=f' x):(m >>= f)=(m' >>= f'):=by rw[h,funext k]
theorem for_eq {β:Type}{r:Std.Legacy.Range}{c:β}{f f':Nat->β->StateT SortSt Sem (ForInStep β)}(h:∀ i c,f i c=f' i c):forIn r c f=forIn r c f':=by rw[show f=f' from funext fun i=>funext fun c=>h i c]
theorem ite_eq {α:Type}{p:Prop}[Decidable p]{x x' y y':α}(h:x=x')(k:y=y'):(if p then x else y)=if p then x' else y':=by rw[h,k]
theorem mergeLo'_eq0 (a b:Array Keyed):mergeLo' a b=(do
 rule "list.sort.merge-lo"
 let mut ou:Array Keyed:=#[<- elem' b 0]
 let mut i:=0
 let mut j:=1
 if j==b.size then return dnL a b ou i j
 if i + 1==a.size then return laL a b ou i j
 let mut mg:=gallopOf (<- get)
 for _ in [0:a.size + b.size] do
  let mut ac:=0
  let mut bc:=0
  for _ in [0:a.size + b.size] do
   let some bw <- lt' (<- elem' b j) (<- elem' a i) | return dnL a b ou i j
   if bw then
    ou:=ou.push (<- elem' b j);j:=j + 1;bc:=bc + 1;ac:=0
    if j==b.size then return dnL a b ou i j
    if bc ≥ mg then break
   else
    ou:=ou.push (<- elem' a i);i:=i + 1;ac:=ac + 1;bc:=0
    if i + 1==a.size then return laL a b ou i j
    if ac ≥ mg then break
  rule "list.sort.gallop"
  mg:=mg + 1
  for _ in [0:a.size + b.size] do
   if mg > 1 then mg:=mg - 1
   setMinGallop' mg
   let some k <- gallop' false (<- elem' b j) a i (a.size - i) 0 | return dnL a b ou i j
   ac:=k
   if k > 0 then
    ou:=ou++a.extract i (i + k);i:=i + k
    if i + 1==a.size then return laL a b ou i j
    if i==a.size then return dnL a b ou i j
   ou:=ou.push (<- elem' b j);j:=j + 1
   if j==b.size then return dnL a b ou i j
   let some k <- gallop' true (<- elem' a i) b j (b.size - j) 0 | return dnL a b ou i j
   bc:=k
   if k > 0 then
    ou:=ou++b.extract j (j + k);j:=j + k
    if j==b.size then return dnL a b ou i j
   ou:=ou.push (<- elem' a i);i:=i + 1
   if i + 1==a.size then return laL a b ou i j
   if ac < 7&&bc < 7 then break
  mg:=mg + 1
  setMinGallop' mg
 unsupported "internal:list.sort.merge-bound"):=rfl
theorem mergeLo'_eq (a b:Array Keyed):mergeLo' a b=(do
 rule "list.sort.merge-lo"
 let x <- elem' b 0
 if 1==b.size then return dnL a b #[x] 0 1
 if 0 + 1==a.size then return laL a b #[x] 0 1
 let g <- get
 let c <- forIn [0:a.size + b.size] ((none,#[x],0,1,gallopOf g):L0) fun _ c=>loRound a b c.2.1 c.2.2.1 c.2.2.2.1 c.2.2.2.2
 match c.1 with
 | some r=>return r
 | none=>unsupported "internal:list.sort.merge-bound"):=by
 rw[mergeLo'_eq0];refine bd_eq rfl fun _=>bd_eq rfl fun x=>?_;dsimp only;refine ite_eq rfl (ite_eq rfl (bd_eq rfl fun g=>bd_eq (for_eq fun _ c=>?_) fun c=>?_))
 ·unfold loRound
  refine bd_eq (for_eq fun _ d=>?_) fun d=>?_
  ·rfl
  ·obtain⟨d1,d2⟩:=d
   cases d1 with
   | some r=>rfl
   | none =>
    refine bd_eq rfl fun _=>bd_eq (for_eq fun _ e=>?_) fun e=>?_
    ·refine ite_eq ?_ ?_
     ·unfold loA
      refine bd_eq rfl fun _=>bd_eq rfl fun _=>bd_eq rfl fun k=>?_;cases k with
      | none=>rfl
      | some k =>
       dsimp only;refine ite_eq (ite_eq rfl (ite_eq rfl ?_)) ?_
       ·rfl
       ·rfl
     ·rfl
    ·obtain⟨e1,e2⟩:=e
     cases e1 with
     | some r=>rfl
     | none=>rfl
 ·obtain⟨c1,c2⟩:=c
  cases c1 with
  | some r=>rfl
  | none=>rfl
section
variable {prog:Program}{w:World}{A:Around}{E:Value->Shared->Prop}{s:Shared}
noncomputable def Sm (st st':SortSt):Prop:=kindOf st'=kindOf st/\arrOf st'=arrOf st/\pendingOf st'=pendingOf st/\failedOf st'=failedOf st
theorem Sm.refl (st:SortSt):Sm st st:=⟨rfl,rfl,rfl,rfl⟩
theorem Sm.trans {a b c:SortSt}(h:Sm a b)(k:Sm b c):Sm a c:=⟨k.1.trans h.1,k.2.1.trans h.2.1,k.2.2.1.trans h.2.2.1,k.2.2.2.trans h.2.2.2⟩
theorem wpS_setMin {st:SortSt}{g:Nat}{Q:Unit->SortSt->Prop}(q:∀ st',Sm st st'->Q () st'):wpS (model prog w) A E s (setMinGallop' g) Q st:=by
 rw[setMin_eq];exact wpS_modify (q _ ⟨rfl,rfl,rfl,rfl⟩)
noncomputable def nk (x:Keyed):Int:=numOf x.1
noncomputable def So (l:List Keyed):Prop:=l.Pairwise fun x y=>nk x<=nk y
noncomputable def Le (l m:List Keyed):Prop:=∀ x∈l,∀ y∈m,nk x<=nk y
structure Mg (a b:Array Keyed) (ou:Array Keyed) (i j:Nat):Prop where
 pm:ou.toList.Perm (a.toList.take i++b.toList.take j)
 so:So ou.toList
 la:Le ou.toList (a.toList.drop i)
 lb:Le ou.toList (b.toList.drop j)
theorem So.app {l m:List Keyed}(h1:So l)(h2:So m)(h3:Le l m):So (l++m):=yJ.mpr ⟨h1,h2,h3⟩
theorem So.drop {l:List Keyed}(h:So l)(n:Nat):So (l.drop n):=List.Pairwise.sublist (ve n l) h
theorem So.take {l:List Keyed}(h:So l)(n:Nat):So (l.take n):=List.Pairwise.sublist (xD n l) h
theorem So.cut {l:List Keyed}(h:So l)(n:Nat):Le (l.take n) (l.drop n):=by
 have e:=zN n l;rw[<- e]at h;exact(yJ.mp h).2.2
theorem Mg.stepA {a b ou:Array Keyed}{i j:Nat}(h:Mg a b ou i j)(sa:So a.toList)(k:Nat)(hk:Le ((a.toList.drop i).take k) (b.toList.drop j)):Mg a b (ou++a.extract i (i + k)) (i + k) j:=by
 have e:(a.extract i (i + k)).toList=(a.toList.drop i).take k:=by rw[zL];simp[zW]
 have e2:a.toList.drop (i + k)=(a.toList.drop i).drop k:=by rw[yb]
 have s1:=sa.drop i;refine⟨?_,?_,?_,?_⟩
 ·rw[zc,e]
  have:a.toList.take (i + k)=a.toList.take i++(a.toList.drop i).take k:=by rw[xh]
  rw[this];refine(h.pm.append_right _).trans ?_;rw[zA,zA];exact List.Perm.append_left _ yt
 ·rw[zc,e]
  exact h.so.app (s1.take k) fun x hx y hy=>h.la x hx y (xn hy)
 ·rw[zc,e,e2]
  intro x hx y hy;rcases zG.mp hx with hx | hx
  ·exact h.la x hx y (xm hy)
  ·exact s1.cut k x hx y hy
 ·rw[zc,e]
  intro x hx y hy;rcases zG.mp hx with hx | hx
  ·exact h.lb x hx y hy
  ·exact hk x hx y hy
theorem Mg.stepB {a b ou:Array Keyed}{i j:Nat}(h:Mg a b ou i j)(sb:So b.toList)(k:Nat)(hk:Le ((b.toList.drop j).take k) (a.toList.drop i)):Mg a b (ou++b.extract j (j + k)) i (j + k):=by
 have e:(b.extract j (j + k)).toList=(b.toList.drop j).take k:=by rw[zL];simp[zW]
 have e2:b.toList.drop (j + k)=(b.toList.drop j).drop k:=by rw[yb]
 have s1:=sb.drop j;refine⟨?_,?_,?_,?_⟩
 ·rw[zc,e]
  have:b.toList.take (j + k)=b.toList.take j++(b.toList.drop j).take k:=by rw[xh]
  rw[this,<- zA];exact h.pm.append_right _
 ·rw[zc,e]
  exact h.so.app (s1.take k) fun x hx y hy=>h.lb x hx y (xn hy)
 ·rw[zc,e]
  intro x hx y hy;rcases zG.mp hx with hx | hx
  ·exact h.la x hx y hy
  ·exact hk x hx y hy
 ·rw[zc,e,e2]
  intro x hx y hy;rcases zG.mp hx with hx | hx
  ·exact h.lb x hx y (xm hy)
  ·exact s1.cut k x hx y hy
noncomputable def Mr (a b r:Array Keyed):Prop:=r.toList.Perm (a.toList++b.toList)/\So r.toList
theorem Mg.dnB {a b ou:Array Keyed}{i:Nat}(h:Mg a b ou i b.size)(sa:So a.toList):Mr a b (dnL a b ou i b.size):=by
 have e:(dnL a b ou i b.size).toList=ou.toList++a.toList.drop i:=by
  unfold dnL;rw[zc,zc,zL,zL];simp[zW,yu]
 refine⟨?_,?_⟩
 ·rw[e]
  refine(h.pm.append_right _).trans ?_;rw[show b.size=b.toList.length by simp,zR];refine((zA _ _ _) ▸ List.Perm.append_left (a.toList.take i) (yt (l₁:=b.toList) (l₂:=a.toList.drop i))).trans ?_;rw[<- zA,zN]
 ·rw[e]
  exact h.so.app (sa.drop i) h.la
theorem Mg.dnA {a b ou:Array Keyed}{j:Nat}(h:Mg a b ou a.size j)(sb:So b.toList):Mr a b (dnL a b ou a.size j):=by
 have e:(dnL a b ou a.size j).toList=ou.toList++b.toList.drop j:=by
  unfold dnL;rw[zc,zc,zL,zL];simp[zW,yu]
 refine⟨?_,?_⟩
 ·rw[e]
  refine(h.pm.append_right _).trans ?_;rw[show a.size=a.toList.length by simp,zR,zA,zN]
 ·rw[e]
  exact h.so.app (sb.drop j) h.lb
theorem Mg.last {a b ou:Array Keyed}{i j:Nat}(h:Mg a b ou i j)(hi:i + 1=a.size)(sa:So a.toList)(sb:So b.toList)(hl:∀ y∈b.toList,nk y<=K a (a.size - 1)):Mr a b (laL a b ou i j):=by
 have e:(laL a b ou i j).toList=ou.toList++(b.toList.drop j++a.toList.drop i):=by
  unfold laL;rw[zc,zc,zL,zL];simp[zW,yu]
 have hlast:∀ y∈a.toList.drop i,nk y=K a (a.size - 1):=fun y hy=>by
  have hl:i < a.toList.length:=by simp;omega
  rw[yp hl,xG (by simp;omega)]at hy;rw[zJ.mp hy];unfold K nk;rw[show a.size - 1=i by omega,getElem?_pos a i (by omega)];simp
 refine⟨?_,?_⟩
 ·rw[e]
  refine(h.pm.append_right _).trans ?_;have p1:(a.toList.take i++b.toList.take j++(b.toList.drop j++a.toList.drop i)).Perm (a.toList.take i++(b.toList++a.toList.drop i)):=by
   rw[zA,<- zA (b.toList.take j),zN]
  refine p1.trans ((List.Perm.append_left _ yt).trans ?_);rw[<- zA,zN]
 ·rw[e]
  refine h.so.app ((sb.drop j).app (sa.drop i) fun x hx y hy=>?_) fun x hx y hy=>?_
  ·rw[hlast y hy]
   exact hl x (xm hx)
  ·rcases zG.mp hy with hy | hy
   ·exact h.lb x hx y hy
   ·exact h.la x hx y hy
end
end L3
namespace L3
open PySem PyProof.Rows
theorem push_ext {a ou:Array Keyed}{i:Nat}{p:Keyed}(h:a[i]?=some p):ou.push p=ou++a.extract i (i + 1):=by
 have hi:i < a.size:=(yC.mp h).1;have e:a[i]=p:=(yC.mp h).2;apply xM.mp;rw[xp,zc,zL];congr 1;simp only[zW];have hl:i < a.toList.length:=by simpa using hi
 rw[yp hl];simp[e]
theorem nk_at {a:Array Keyed}{i:Nat}{p:Keyed}(h:a[i]?=some p):nk p=K a i:=by
 unfold nk K;rw[h]
theorem K_list {a:Array Keyed}{i:Nat}(hi:i < a.toList.length):nk a.toList[i]=K a i:=nk_at (by rw[<- yk,zt hi])
theorem K_mono {a:Array Keyed}(sa:So a.toList){i j:Nat}(h:i<=j)(hj:j < a.size):K a i<=K a j:=by
 have hj':j < a.toList.length:=by simpa using hj
 rcases xu h with h | rfl
 ·rw[<- K_list (by omega),<- K_list hj']
  exact yz.mp sa i j (by omega) hj' h
 ·exact xy _
theorem mem_seg {a:Array Keyed}{i k:Nat}{x:Keyed}(h:x∈(a.toList.drop i).take k):∃ m,m < k/\i + m < a.size/\nk x=K a (i + m):=by
 obtain⟨m,hm,e⟩:=yU.mp h;rw[yV,yK]at e;rw[za,zM]at hm;refine⟨m,by omega,by rw[<- zK];omega,?_⟩;rw[<- e,K_list]
theorem mem_rest {a:Array Keyed}{i:Nat}{x:Keyed}(h:x∈a.toList.drop i):∃ m,i<=m/\m < a.size/\nk x=K a m:=by
 rw[<- zR (l:=a.toList.drop i)]at h;obtain⟨m,_,h2,h3⟩:=mem_seg h;exact⟨i + m,by omega,h2,h3⟩
section
variable {prog:Program}{w:World}{A:Around}{E:Value->Shared->Prop}{s:Shared}
structure MH0 (a b:Array Keyed):Prop where
 ia:IntKeys a
 ib:IntKeys b
 sa:So a.toList
 sb:So b.toList
 hl:∀ y∈b.toList,nk y<=K a (a.size - 1)
structure Lv (a b ou:Array Keyed) (i j:Nat):Prop where
 mg:Mg a b ou i j
 hi:i + 1 < a.size
 hj:j < b.size
variable {a b:Array Keyed}
theorem Lv.b1 {ou:Array Keyed}{i j:Nat}(h:Lv a b ou i j)(m:MH0 a b)(c:K b j<=K a i){x:Keyed}(e:b[j]?=some x):Mg a b (ou.push x) i (j + 1):=by
 rw[push_ext e];refine h.mg.stepB m.sb 1 fun x hx y hy=>?_;obtain⟨k,h1,h2,h3⟩:=mem_seg hx;obtain⟨k',h1',h2',h3'⟩:=mem_rest hy;rw[h3,h3',show j + k=j by omega];exact zY c (K_mono m.sa h1' h2')
theorem Mg.a1 {ou:Array Keyed}{i j:Nat}(h:Mg a b ou i j)(m:MH0 a b)(c:j < b.size->K a i<=K b j){x:Keyed}(e:a[i]?=some x):Mg a b (ou.push x) (i + 1) j:=by
 rw[push_ext e];refine h.stepA m.sa 1 fun x hx y hy=>?_;obtain⟨k,h1,h2,h3⟩:=mem_seg hx;obtain⟨k',h1',h2',h3'⟩:=mem_rest hy;rw[h3,h3',show i + k=i by omega];exact zY (c (by omega)) (K_mono m.sb h1' h2')
theorem wpS_loOne {st:SortSt}(hk:kindOf st=oneType')(m:MH0 a b){mg:Nat}{ou:Array Keyed}{i j ac bc:Nat}(h:Lv a b ou i j){Q:ForInStep L1->SortSt->Prop}
  (q1:∀ r c,Mr a b r->Q (.done (some r,c)) st) (q2:∀ ou' i' j' c,Lv a b ou' i' j'->i + j < i' + j'->Q (.done (none,ou',i',j',c)) st) (q3:∀ ou' i' j' c,Lv a b ou' i' j'->i + j < i' + j'->Q (.yield (none,ou',i',j',c)) st):wpS (model prog w) A E s (loOne a b mg ou i j ac bc) Q st:=by
 obtain⟨t1,v1,e1⟩:=int_at m.ib h.hj;obtain⟨t2,v2,e2⟩:=int_at m.ia (show i < a.size by have:=h.hi;omega);have hi:=h.hi;have hj:=h.hj;unfold loOne;refine wpS_bind (wpS_elem e1 (wpS_bind (wpS_elem e2 (wpS_bind (wpS_lt hk rfl rfl ?_)))));dsimp only;by_cases c:K b j < K a i
 ·rw[if_pos (decide_eq_true c)]
  refine wpS_bind (wpS_elem e1 ?_);have M:=h.b1 m (yW c) e1;by_cases c1:j + 1=b.size
  ·rw[if_pos (by simpa using c1)]
   refine wpS_pure (q1 _ _ ?_);rw[c1]at M ⊢;exact M.dnB m.sa
  ·rw[if_neg (by simpa using c1)]
   have L:Lv a b (ou.push (Value.int (K b j) t1,v1)) i (j + 1):=⟨M,hi,by omega⟩;split
   ·exact wpS_pure (q2 _ _ _ _ L (by omega))
   ·exact wpS_pure (q3 _ _ _ _ L (by omega))
 ·rw[if_neg (by simpa using c)]
  refine wpS_bind (wpS_elem e2 ?_);have M:=h.mg.a1 m (fun _=>by omega) e2;by_cases c1:i + 1 + 1=a.size
  ·rw[if_pos (by simpa using c1)]
   exact wpS_pure (q1 _ _ (M.last c1 m.sa m.sb m.hl))
  ·rw[if_neg (by simpa using c1)]
   have L:Lv a b (ou.push (Value.int (K a i) t2,v2)) (i + 1) j:=⟨M,by omega,hj⟩;split
   ·exact wpS_pure (q2 _ _ _ _ L (by omega))
   ·exact wpS_pure (q3 _ _ _ _ L (by omega))
theorem wpS_loC {st:SortSt}(m:MH0 a b){mg:Nat}{ou:Array Keyed}{i j ac bc:Nat}(h:Lv a b ou i j)(c:K a i<=K b j){Q:ForInStep L2'->SortSt->Prop}
  (q1:∀ r c,Mr a b r->Q (.done (some r,c)) st) (q2:∀ ou' i' j' c,Lv a b ou' i' j'->i + j < i' + j'->Q (.done (none,ou',i',j',c)) st) (q3:∀ ou' i' j' c,Lv a b ou' i' j'->i + j < i' + j'->Q (.yield (none,ou',i',j',c)) st):wpS (model prog w) A E s (loC a b ou i j mg ac bc) Q st:=by
 have hi:=h.hi;have hj:=h.hj;obtain⟨t2,v2,e2⟩:=int_at m.ia (show i < a.size by omega);unfold loC;refine wpS_bind (wpS_elem e2 ?_);have M:=h.mg.a1 m (fun _=>c) e2;by_cases c1:i + 1 + 1=a.size
 ·rw[if_pos (by simpa using c1)]
  exact wpS_pure (q1 _ _ (M.last c1 m.sa m.sb m.hl))
 ·rw[if_neg (by simpa using c1)]
  have L:Lv a b (ou.push (Value.int (K a i) t2,v2)) (i + 1) j:=⟨M,by omega,hj⟩;split
  ·exact wpS_pure (q2 _ _ _ _ L (by omega))
  ·exact wpS_pure (q3 _ _ _ _ L (by omega))
theorem wpS_loB {st:SortSt}(hk:kindOf st=oneType')(m:MH0 a b){mg:Nat}{ou:Array Keyed}{i j ac bc:Nat}(h:Lv a b ou i j)(c:K b j<=K a i){Q:ForInStep L2'->SortSt->Prop}
  (q1:∀ r c,Mr a b r->Q (.done (some r,c)) st) (q2:∀ ou' i' j' c,Lv a b ou' i' j'->i + j < i' + j'->Q (.done (none,ou',i',j',c)) st) (q3:∀ ou' i' j' c,Lv a b ou' i' j'->i + j < i' + j'->Q (.yield (none,ou',i',j',c)) st):wpS (model prog w) A E s (loB a b ou i j mg ac bc) Q st:=by
 have hi:=h.hi;have hj:=h.hj;obtain⟨t1,v1,e1⟩:=int_at m.ib hj;obtain⟨t2,v2,e2⟩:=int_at m.ia (show i < a.size by omega);unfold loB;refine wpS_bind (wpS_elem e1 ?_);have M:=h.b1 m c e1;by_cases c1:j + 1=b.size
 ·rw[if_pos (by simpa using c1)]
  refine wpS_pure (q1 _ _ ?_);rw[c1]at M ⊢;exact M.dnB m.sa
 rw[if_neg (by simpa using c1)];refine wpS_bind (wpS_elem e2 (wpS_bind (wpS_gallop (kv:=K a i) hk m.ib rfl (by omega) (by omega) (fun x y h1 h2 h3=>?_) fun k k1 k2 k3=>?_)))
 ·unfold bydB at h3 ⊢
  rw[if_pos rfl]at h3 ⊢;have h3:=of_decide_eq_true h3;exact decide_eq_true (wv (K_mono m.sb (by omega) (by omega)) h3)
 ·dsimp only
  have k2':∀ x,x < k->K b (j + 1 + x) < K a i:=fun x hx=>by
   have:=k2 x hx
   unfold bydB at this;rw[if_pos rfl]at this;exact of_decide_eq_true this
  have k3':j + 1 + k < b.size->K a i<=K b (j + 1 + k):=fun hx=>by
   have:=k3 k (zp _) (by omega)
   unfold bydB at this;rw[if_pos rfl]at this
   have:=of_decide_eq_false this
   omega
  have M2:Mg a b (ou.push (Value.int (K b j) t1,v1)++b.extract (j + 1) (j + 1 + k)) i (j + 1 + k):=M.stepB m.sb k fun x hx y hy=>by
   obtain⟨n,h1,h2,h3⟩:=mem_seg hx;obtain⟨n',h1',h2',h3'⟩:=mem_rest hy;rw[h3,h3'];exact zY (yW (k2' n h1)) (K_mono m.sa h1' h2')
  by_cases c2:k > 0
  ·rw[if_pos c2]
   by_cases c3:j + 1 + k=b.size
   ·rw[if_pos (by simpa using c3)]
    refine wpS_pure (q1 _ _ ?_);rw[c3]at M2 ⊢;exact M2.dnB m.sa
   ·rw[if_neg (by simpa using c3)]
    exact wpS_loC m ⟨M2,hi,by omega⟩ (k3' (by omega)) q1 (fun ou' i' j' c L h=>q2 _ _ _ _ L (by omega)) (fun ou' i' j' c L h=>q3 _ _ _ _ L (by omega))
  ·rw[if_neg c2]
   have k0:k=0:=by omega
   subst k0;exact wpS_loC m ⟨M,hi,by omega⟩ (k3' (by omega)) q1 (fun ou' i' j' c L h=>q2 _ _ _ _ L (by omega)) (fun ou' i' j' c L h=>q3 _ _ _ _ L (by omega))
theorem wpS_loA {st:SortSt}(hk:kindOf st=oneType')(m:MH0 a b){mg:Nat}{ou:Array Keyed}{i j ac bc:Nat}(h:Lv a b ou i j){Q:ForInStep L2'->SortSt->Prop}
  (q1:∀ r c st',Sm st st'->Mr a b r->Q (.done (some r,c)) st') (q2:∀ ou' i' j' c st',Sm st st'->Lv a b ou' i' j'->i + j < i' + j'->Q (.done (none,ou',i',j',c)) st') (q3:∀ ou' i' j' c st',Sm st st'->Lv a b ou' i' j'->i + j < i' + j'->Q (.yield (none,ou',i',j',c)) st'):wpS (model prog w) A E s (loA a b ou i j mg ac bc) Q st:=by
 have hi:=h.hi;have hj:=h.hj;obtain⟨t1,v1,e1⟩:=int_at m.ib hj;unfold loA;refine wpS_bind (wpS_setMin fun st' sm=>?_);have hk':kindOf st'=oneType':=sm.1.trans hk;refine wpS_bind (wpS_elem e1 (wpS_bind (wpS_gallop (kv:=K b j) hk' m.ia rfl (by omega) (by omega) (fun x y h1 h2 h3=>?_) fun k k1 k2 k3=>?_)))
 ·unfold bydB at h3 ⊢
  rw[if_neg zo]at h3 ⊢;have h3:¬ K b j < K a (i + y):=by simpa using h3
  have:=K_mono m.sa (show i + x<=i + y by omega) (by omega)
  simpa using (show ¬ K b j < K a (i + x) by omega)
 ·dsimp only
  have k2':∀ x,x < k->K a (i + x)<=K b j:=fun x hx=>by
   have:=k2 x hx
   unfold bydB at this;rw[if_neg zo]at this
   have:¬ K b j < K a (i + x):=by simpa using this
   omega
  have k3':i + k < a.size->K b j<=K a (i + k):=fun hx=>by
   have:=k3 k (zp _) (by omega)
   unfold bydB at this;rw[if_neg zo]at this
   have:K b j < K a (i + k):=by simpa using this
   omega
  have M2:Mg a b (ou++a.extract i (i + k)) (i + k) j:=h.mg.stepA m.sa k fun x hx y hy=>by
   obtain⟨n,h1,h2,h3⟩:=mem_seg hx;obtain⟨n',h1',h2',h3'⟩:=mem_rest hy;rw[h3,h3'];exact zY (k2' n h1) (K_mono m.sb h1' h2')
  by_cases c2:k > 0
  ·rw[if_pos c2]
   by_cases c3:i + k + 1=a.size
   ·rw[if_pos (by simpa using c3)]
    exact wpS_pure (q1 _ _ _ sm (M2.last c3 m.sa m.sb m.hl))
   rw[if_neg (by simpa using c3)];by_cases c4:i + k=a.size
   ·rw[if_pos (by simpa using c4)]
    refine wpS_pure (q1 _ _ _ sm ?_);rw[c4]at M2 ⊢;exact M2.dnA m.sb
   ·rw[if_neg (by simpa using c4)]
    exact wpS_loB hk' m ⟨M2,by omega,hj⟩ (k3' (by omega)) (fun r c=>q1 r c _ sm) (fun ou' i' j' c L h=>q2 _ _ _ _ _ sm L (by omega)) (fun ou' i' j' c L h=>q3 _ _ _ _ _ sm L (by omega))
  ·rw[if_neg c2]
   have k0:k=0:=by omega
   subst k0;exact wpS_loB hk' m h (k3' (by omega)) (fun r c=>q1 r c _ sm) (fun ou' i' j' c L h=>q2 _ _ _ _ _ sm L (by omega)) (fun ou' i' j' c L h=>q3 _ _ _ _ _ sm L (by omega))
theorem wpS_loRound {st:SortSt}(hk:kindOf st=oneType')(m:MH0 a b){mg:Nat}{ou:Array Keyed}{i j:Nat}(h:Lv a b ou i j){Q:ForInStep L0->SortSt->Prop}
  (q1:∀ r c st',Sm st st'->Mr a b r->Q (.done (some r,c)) st') (q3:∀ ou' i' j' c st',Sm st st'->Lv a b ou' i' j'->i + j < i' + j'->Q (.yield (none,ou',i',j',c)) st'):wpS (model prog w) A E s (loRound a b ou i j mg) Q st:=by
 unfold loRound;refine wpS_bind (wpS_mono (wpS_forRange (I:=fun x c st'=>Sm st st'/\∃ ou' i' j' d,c=(none,ou',i',j',d)/\Lv a b ou' i' j'/\i + j + x<=i' + j') (Q:=fun c st'=>Sm st st'/\((∃ r d,c=(some r,d)/\Mr a b r)\/∃ ou' i' j' d,c=(none,ou',i',j',d)/\Lv a b ou' i' j'/\i + j < i' + j')) ?step ?fi ⟨Sm.refl _,ou,i,j,_,rfl,h,by omega⟩) ?post)
 case step =>
  rintro x c st' _ _ ⟨sm,ou',i',j',d,rfl,L,hx⟩;exact wpS_loOne (sm.1.trans hk) m L (fun r c mr=>⟨sm,.inl ⟨r,c,rfl,mr⟩⟩) (fun ou2 i2 j2 c L2 h2=>⟨sm,.inr ⟨_,_,_,_,rfl,L2,by omega⟩⟩) fun ou2 i2 j2 c L2 h2=>⟨sm,_,_,_,_,rfl,L2,by omega⟩
 case fi =>
  rintro c st' ⟨sm,ou',i',j',d,rfl,L,hx⟩
  have:=L.hi
  have:=L.hj
  omega
 case post =>
  rintro c st' ⟨sm,⟨r,d,rfl,mr⟩|⟨ou',i',j',d,rfl,L,hx⟩⟩
  ·exact wpS_pure (q1 _ _ _ sm mr)
  ·dsimp only
   refine wpS_bind (wpS_lift (wpAny_rule ⟨rfl,?_⟩));refine wpS_bind (wpS_mono (wpS_forRange (I:=fun x c st'=>Sm st st'/\∃ ou' i' j' d,c=(none,ou',i',j',d)/\Lv a b ou' i' j'/\i + j + x < i' + j') (Q:=fun c st'=>Sm st st'/\((∃ r d,c=(some r,d)/\Mr a b r)\/∃ ou' i' j' d,c=(none,ou',i',j',d)/\Lv a b ou' i' j'/\i + j < i' + j')) ?step ?fi ⟨sm,ou',i',j',_,rfl,L,by omega⟩) ?post)
   case step =>
    rintro x c st' _ _ ⟨sm,ou',i',j',d,rfl,L,hx⟩;dsimp only;split
    ·exact wpS_loA (sm.1.trans hk) m L (fun r c st2 s2 mr=>⟨sm.trans s2,.inl ⟨r,c,rfl,mr⟩⟩) (fun ou2 i2 j2 c st2 s2 L2 h2=>⟨sm.trans s2,.inr ⟨_,_,_,_,rfl,L2,by omega⟩⟩) fun ou2 i2 j2 c st2 s2 L2 h2=>⟨sm.trans s2,_,_,_,_,rfl,L2,by omega⟩
    ·exact wpS_loA (sm.1.trans hk) m L (fun r c st2 s2 mr=>⟨sm.trans s2,.inl ⟨r,c,rfl,mr⟩⟩) (fun ou2 i2 j2 c st2 s2 L2 h2=>⟨sm.trans s2,.inr ⟨_,_,_,_,rfl,L2,by omega⟩⟩) fun ou2 i2 j2 c st2 s2 L2 h2=>⟨sm.trans s2,_,_,_,_,rfl,L2,by omega⟩
   case fi =>
    rintro c st' ⟨sm,ou',i',j',d,rfl,L,hx⟩
    have:=L.hi
    have:=L.hj
    omega
   case post =>
    rintro c st' ⟨sm,⟨r,d,rfl,mr⟩|⟨ou',i',j',d,rfl,L,hx⟩⟩
    ·exact wpS_pure (q1 _ _ _ sm mr)
    ·dsimp only
     exact wpS_bind (wpS_setMin fun st2 s2=>wpS_pure (q3 _ _ _ _ _ (sm.trans s2) L hx))
theorem wpS_mergeLo {st:SortSt}{Q:Array Keyed->SortSt->Prop}(hk:kindOf st=oneType')(m:MH0 a b)(a1:0 < a.size)(b1:0 < b.size)(h0:K b 0<=K a 0)(q:∀ r st',Sm st st'->Mr a b r->Q r st'):wpS (model prog w) A E s (mergeLo' a b) Q st:=by
 rw[mergeLo'_eq];refine wpS_bind (wpS_lift (wpAny_rule ⟨rfl,?_⟩));obtain⟨t0,v0,e0⟩:=int_at m.ib b1;refine wpS_bind (wpS_elem e0 ?_);have M0:Mg a b #[] 0 0:=⟨by simp,List.Pairwise.nil,(fun _ h=>nomatch h),(fun _ h=>nomatch h)⟩;have M1:Mg a b #[(Value.int (K b 0) t0,v0)] 0 1:=by
  have:=M0.stepB m.sb 1 fun x hx y hy=>by
   obtain⟨n,h1,h2,h3⟩:=mem_seg hx;obtain⟨n',h1',h2',h3'⟩:=mem_rest hy;rw[h3,h3',show 0 + n=0 by omega];exact zY h0 (K_mono m.sa (by omega) h2')
  rwa [<- push_ext e0]at this
 by_cases c1:1=b.size
 ·rw[if_pos (by simpa using c1)]
  refine wpS_pure (q _ _ (Sm.refl _) ?_);rw[c1]at M1 ⊢;exact M1.dnB m.sa
 rw[if_neg (by simpa using c1)];by_cases c2:0 + 1=a.size
 ·rw[if_pos (by simpa using c2)]
  exact wpS_pure (q _ _ (Sm.refl _) (M1.last c2 m.sa m.sb m.hl))
 rw[if_neg (by simpa using c2)];refine wpS_bind (wpS_get (wpS_bind (wpS_mono (wpS_forRange (I:=fun x c st'=>Sm st st'/\∃ ou' i' j' d,c=(none,ou',i',j',d)/\Lv a b ou' i' j'/\1 + x<=i' + j') (Q:=fun c st'=>Sm st st'/\∃ r d,c=(some r,d)/\Mr a b r) ?step ?fi ⟨Sm.refl _,_,0,1,_,rfl,⟨M1,by omega,by omega⟩,by omega⟩) ?post)))
 case step =>
  rintro x c st' _ _ ⟨sm,ou',i',j',d,rfl,L,hx⟩;exact wpS_loRound (sm.1.trans hk) m L (fun r c st2 s2 mr=>⟨sm.trans s2,r,c,rfl,mr⟩) fun ou2 i2 j2 c st2 s2 L2 h2=>⟨sm.trans s2,_,_,_,_,rfl,L2,by omega⟩
 case fi =>
  rintro c st' ⟨sm,ou',i',j',d,rfl,L,hx⟩
  have:=L.hi
  have:=L.hj
  omega
 case post =>
  rintro c st' ⟨sm,r,d,rfl,mr⟩;exact wpS_pure (q _ _ sm mr)
end
end L3
namespace L3
open PySem PyProof.Rows
noncomputable def mergeHi':Array Keyed->Array Keyed->StateT SortSt Sem (Array Keyed):=sortPriv% PySem.Builtin.mergeHi
noncomputable def dnH (a b ou:Array Keyed)(i j:Nat):Array Keyed:=a.extract 0 i++b.extract 0 j++ou.reverse
noncomputable def fbH (a b ou:Array Keyed)(i j:Nat):Array Keyed:=b.extract 0 j++a.extract 0 i++ou.reverse
noncomputable abbrev H1':=Option (Array Keyed)×Nat×Nat×Array Keyed×Nat×Nat
noncomputable abbrev H2':=Option (Array Keyed)×Nat×Nat×Array Keyed×Nat×Nat×Nat
noncomputable abbrev H0':=Option (Array Keyed)×Nat×Nat×Array Keyed×Nat
noncomputable def hiOne (a b:Array Keyed)(mg:Nat)(i j:Nat)(ou:Array Keyed)(ac bc:Nat):StateT SortSt Sem (ForInStep H1'):=do
 let some aw <- lt' (<- elem' b (j - 1)) (<- elem' a (i - 1)) | return .done (some (dnH a b ou i j),i,j,ou,ac,bc)
 if aw then
  let x <- elem' a (i - 1)
  if i - 1==0 then return .done (some (dnH a b (ou.push x) (i - 1) j),i - 1,j,ou.push x,ac + 1,0)
  if ac + 1 ≥ mg then return .done (none,i - 1,j,ou.push x,ac + 1,0)
  return .yield (none,i - 1,j,ou.push x,ac + 1,0)
 else
  let x <- elem' b (j - 1)
  if j - 1==1 then return .done (some (fbH a b (ou.push x) i (j - 1)),i,j - 1,ou.push x,0,bc + 1)
  if bc + 1 ≥ mg then return .done (none,i,j - 1,ou.push x,0,bc + 1)
  return .yield (none,i,j - 1,ou.push x,0,bc + 1)
noncomputable def hiC (a b:Array Keyed)(i j:Nat)(ou:Array Keyed)(mg ac bc:Nat):StateT SortSt Sem (ForInStep H2'):=do
 let x <- elem' a (i - 1)
 if i - 1==0 then return .done (some (dnH a b (ou.push x) (i - 1) j),i - 1,j,ou.push x,mg,ac,bc)
 if ac < 7&&bc < 7 then return .done (none,i - 1,j,ou.push x,mg,ac,bc)
 return .yield (none,i - 1,j,ou.push x,mg,ac,bc)
noncomputable def hiB (a b:Array Keyed)(i j:Nat)(ou:Array Keyed)(mg ac bc:Nat):StateT SortSt Sem (ForInStep H2'):=do
 let x <- elem' b (j - 1)
 if j - 1==1 then return .done (some (fbH a b (ou.push x) i (j - 1)),i,j - 1,ou.push x,mg,ac,bc)
 let some r <- gallop' true (<- elem' a (i - 1)) b 0 (j - 1) (j - 1 - 1) | return .done (some (dnH a b (ou.push x) i (j - 1)),i,j - 1,ou.push x,mg,ac,bc)
 if j - 1 - r > 0 then
  if r==1 then return .done (some (fbH a b (ou.push x++(b.extract r (j - 1)).reverse) i r),i,r,ou.push x++(b.extract r (j - 1)).reverse,mg,ac,j - 1 - r)
  if r==0 then return .done (some (dnH a b (ou.push x++(b.extract r (j - 1)).reverse) i r),i,r,ou.push x++(b.extract r (j - 1)).reverse,mg,ac,j - 1 - r)
  hiC a b i r (ou.push x++(b.extract r (j - 1)).reverse) mg ac (j - 1 - r)
 else hiC a b i (j - 1) (ou.push x) mg ac (j - 1 - r)
noncomputable def hiA (a b:Array Keyed)(i j:Nat)(ou:Array Keyed)(mg ac bc:Nat):StateT SortSt Sem (ForInStep H2'):=do
 setMinGallop' mg
 let some r <- gallop' false (<- elem' b (j - 1)) a 0 i (i - 1) | return .done (some (dnH a b ou i j),i,j,ou,mg,ac,bc)
 if i - r > 0 then
  if r==0 then return .done (some (dnH a b (ou++(a.extract r i).reverse) r j),r,j,ou++(a.extract r i).reverse,mg,i - r,bc)
  hiB a b r j (ou++(a.extract r i).reverse) mg (i - r) bc
 else hiB a b i j ou mg (i - r) bc
noncomputable def hiRound (a b:Array Keyed)(i j:Nat)(ou:Array Keyed)(mg:Nat):StateT SortSt Sem (ForInStep H0'):=do
 let c <- forIn [0:a.size + b.size] ((none,i,j,ou,0,0):H1') fun _ c=>hiOne a b mg c.2.1 c.2.2.1 c.2.2.2.1 c.2.2.2.2.1 c.2.2.2.2.2
 match c.1 with
 | some r=>return .done (some r,c.2.1,c.2.2.1,c.2.2.2.1,mg)
 | none =>
  rule "list.sort.gallop"
  let c <- forIn [0:a.size + b.size] ((none,c.2.1,c.2.2.1,c.2.2.2.1,mg + 1,c.2.2.2.2.1,c.2.2.2.2.2):H2') fun _ c =>
   if c.2.2.2.2.1 > 1 then hiA a b c.2.1 c.2.2.1 c.2.2.2.1 (c.2.2.2.2.1 - 1) c.2.2.2.2.2.1 c.2.2.2.2.2.2 else hiA a b c.2.1 c.2.2.1 c.2.2.2.1 c.2.2.2.2.1 c.2.2.2.2.2.1 c.2.2.2.2.2.2
  match c.1 with
  | some r=>return .done (some r,c.2.1,c.2.2.1,c.2.2.2.1,c.2.2.2.2.1)
  | none =>
   setMinGallop' (c.2.2.2.2.1 + 1)
   return .yield (none,c.2.1,c.2.2.1,c.2.2.2.1,c.2.2.2.2.1 + 1)
theorem mergeHi'_eq0 (a b:Array Keyed):mergeHi' a b=(do
 rule "list.sort.merge-hi"
 let mut i:=a.size - 1
 let mut j:=b.size
 let mut ou:Array Keyed:=#[<- elem' a i]
 if i==0 then return dnH a b ou i j
 if j==1 then return fbH a b ou i j
 let mut mg:=gallopOf (<- get)
 for _ in [0:a.size + b.size] do
  let mut ac:=0
  let mut bc:=0
  for _ in [0:a.size + b.size] do
   let some aw <- lt' (<- elem' b (j - 1)) (<- elem' a (i - 1)) | return dnH a b ou i j
   if aw then
    i:=i - 1;ou:=ou.push (<- elem' a i);ac:=ac + 1;bc:=0
    if i==0 then return dnH a b ou i j
    if ac ≥ mg then break
   else
    j:=j - 1;ou:=ou.push (<- elem' b j);bc:=bc + 1;ac:=0
    if j==1 then return fbH a b ou i j
    if bc ≥ mg then break
  rule "list.sort.gallop"
  mg:=mg + 1
  for _ in [0:a.size + b.size] do
   if mg > 1 then mg:=mg - 1
   setMinGallop' mg
   let some r <- gallop' false (<- elem' b (j - 1)) a 0 i (i - 1) | return dnH a b ou i j
   let k:=i - r
   ac:=k
   if k > 0 then
    ou:=ou++(a.extract r i).reverse;i:=r
    if i==0 then return dnH a b ou i j
   j:=j - 1;ou:=ou.push (<- elem' b j)
   if j==1 then return fbH a b ou i j
   let some r <- gallop' true (<- elem' a (i - 1)) b 0 j (j - 1) | return dnH a b ou i j
   let k:=j - r
   bc:=k
   if k > 0 then
    ou:=ou++(b.extract r j).reverse;j:=r
    if j==1 then return fbH a b ou i j
    if j==0 then return dnH a b ou i j
   i:=i - 1;ou:=ou.push (<- elem' a i)
   if i==0 then return dnH a b ou i j
   if ac < 7&&bc < 7 then break
  mg:=mg + 1
  setMinGallop' mg
 unsupported "internal:list.sort.merge-bound"):=rfl
theorem mergeHi'_eq (a b:Array Keyed):mergeHi' a b=(do
 rule "list.sort.merge-hi"
 let x <- elem' a (a.size - 1)
 if a.size - 1==0 then return dnH a b #[x] (a.size - 1) b.size
 if b.size==1 then return fbH a b #[x] (a.size - 1) b.size
 let g <- get
 let c <- forIn [0:a.size + b.size] ((none,a.size - 1,b.size,#[x],gallopOf g):H0') fun _ c=>hiRound a b c.2.1 c.2.2.1 c.2.2.2.1 c.2.2.2.2
 match c.1 with
 | some r=>return r
 | none=>unsupported "internal:list.sort.merge-bound"):=by
 rw[mergeHi'_eq0];refine bd_eq rfl fun _=>bd_eq rfl fun x=>?_;dsimp only;refine ite_eq rfl (ite_eq rfl (bd_eq rfl fun g=>bd_eq (for_eq fun _ c=>?_) fun c=>?_))
 ·unfold hiRound
  refine bd_eq (for_eq fun _ d=>?_) fun d=>?_
  ·rfl
  ·obtain⟨d1,d2⟩:=d
   cases d1 with
   | some r=>rfl
   | none =>
    refine bd_eq rfl fun _=>bd_eq (for_eq fun _ e=>?_) fun e=>?_
    ·refine ite_eq ?_ ?_
     ·unfold hiA
      refine bd_eq rfl fun _=>bd_eq rfl fun _=>bd_eq rfl fun k=>?_;cases k with
      | none=>rfl
      | some k =>
       dsimp only;refine ite_eq (ite_eq rfl ?_) ?_
       ·rfl
       ·rfl
     ·rfl
    ·obtain⟨e1,e2⟩:=e
     cases e1 with
     | some r=>rfl
     | none=>rfl
 ·obtain⟨c1,c2⟩:=c
  cases c1 with
  | some r=>rfl
  | none=>rfl
end L3
namespace L3
open PySem PyProof.Rows
structure Hg (a b:Array Keyed) (ou:Array Keyed) (i j:Nat):Prop where
 pm:ou.toList.reverse.Perm (a.toList.drop i++b.toList.drop j)
 so:So ou.toList.reverse
 la:Le (a.toList.take i) ou.toList.reverse
 lb:Le (b.toList.take j) ou.toList.reverse
section
variable {a b:Array Keyed}
theorem seg_rev (ou:Array Keyed)(r i:Nat):(ou++(a.extract r i).reverse).toList.reverse=(a.toList.drop r).take (i - r)++ou.toList.reverse:=by
 rw[zc,List.reverse_append,yX,List.reverse_reverse,zL]
theorem push_rev {ou:Array Keyed}{i:Nat}{p:Keyed}(h:a[i - 1]?=some p)(h0:0 < i):ou.push p=ou++(a.extract (i - 1) i).reverse:=by
 have e:=push_ext (ou:=ou) h;rw[show i - 1 + 1=i by omega]at e;rw[e];congr 1;have hi:i - 1 < a.size:=(yC.mp h).1;apply xM.mp;rw[yX,zL];simp only[zW];have hl:i - 1 < a.toList.length:=by simpa using hi
 rw[yp hl,show i - (i - 1)=1 by omega];simp
theorem Hg.stepA {ou:Array Keyed}{i j:Nat}(h:Hg a b ou i j)(sa:So a.toList){r:Nat}(hr:r<=i)(hk:Le (b.toList.take j) ((a.toList.drop r).take (i - r))):Hg a b (ou++(a.extract r i).reverse) r j:=by
 have e1:a.toList.drop r=(a.toList.drop r).take (i - r)++a.toList.drop i:=by
  have:=zN (i - r) (a.toList.drop r)
  rw[yb,show r + (i - r)=i by omega]at this;exact this.symm
 have e2:a.toList.take i=a.toList.take r++(a.toList.drop r).take (i - r):=by
  rw[<- xh,show r + (i - r)=i by omega]
 have sub:∀ x∈(a.toList.drop r).take (i - r),x∈a.toList.take i:=fun x hx=>by rw[e2];exact zb _ hx
 refine⟨?_,?_,?_,?_⟩
 ·rw[seg_rev]
  refine(List.Perm.append_left _ h.pm).trans ?_;rw[<- zA,<- e1]
 ·rw[seg_rev]
  exact((sa.drop r).take _).app h.so fun x hx y hy=>h.la x (sub x hx) y hy
 ·rw[seg_rev]
  intro x hx y hy;rcases zG.mp hy with hy | hy
  ·have s:=sa.take i
   rw[e2]at s;exact(yJ.mp s).2.2 x hx y hy
  ·exact h.la x (by rw[e2];exact yw _ hx) y hy
 ·rw[seg_rev]
  intro x hx y hy;rcases zG.mp hy with hy | hy
  ·exact hk x hx y hy
  ·exact h.lb x hx y hy
theorem Hg.stepB {ou:Array Keyed}{i j:Nat}(h:Hg a b ou i j)(sb:So b.toList){r:Nat}(hr:r<=j)(hk:Le (a.toList.take i) ((b.toList.drop r).take (j - r))):Hg a b (ou++(b.extract r j).reverse) i r:=by
 have e1:b.toList.drop r=(b.toList.drop r).take (j - r)++b.toList.drop j:=by
  have:=zN (j - r) (b.toList.drop r)
  rw[yb,show r + (j - r)=j by omega]at this;exact this.symm
 have e2:b.toList.take j=b.toList.take r++(b.toList.drop r).take (j - r):=by
  rw[<- xh,show r + (j - r)=j by omega]
 have sub:∀ x∈(b.toList.drop r).take (j - r),x∈b.toList.take j:=fun x hx=>by rw[e2];exact zb _ hx
 refine⟨?_,?_,?_,?_⟩
 ·rw[seg_rev]
  refine(List.Perm.append_left _ h.pm).trans ((yt).trans ?_);rw[zA];refine List.Perm.append_left _ (yt.trans ?_);rw[<- e1]
 ·rw[seg_rev]
  exact((sb.drop r).take _).app h.so fun x hx y hy=>h.lb x (sub x hx) y hy
 ·rw[seg_rev]
  intro x hx y hy;rcases zG.mp hy with hy | hy
  ·exact hk x hx y hy
  ·exact h.la x hx y hy
 ·rw[seg_rev]
  intro x hx y hy;rcases zG.mp hy with hy | hy
  ·have s:=sb.take j
   rw[e2]at s;exact(yJ.mp s).2.2 x hx y hy
  ·exact h.lb x (by rw[e2];exact yw _ hx) y hy
theorem ext0 (a:Array Keyed)(i:Nat):(a.extract 0 i).toList=a.toList.take i:=by
 rw[zL];simp[zW]
theorem mem_take {i:Nat}{x:Keyed}(h:x∈a.toList.take i):∃ m,m < i/\m < a.size/\nk x=K a m:=by
 have:=mem_seg (a:=a) (i:=0) (k:=i) (x:=x) (by rwa [yR])
 obtain⟨m,h1,h2,h3⟩:=this;exact⟨m,h1,by omega,by rw[h3,yP]⟩
theorem Hg.dnA {ou:Array Keyed}{j:Nat}(h:Hg a b ou 0 j)(sb:So b.toList):Mr a b (dnH a b ou 0 j):=by
 have e:(dnH a b ou 0 j).toList=b.toList.take j++ou.toList.reverse:=by
  unfold dnH;rw[zc,zc,ext0,ext0,yX];simp
 refine⟨?_,by rw[e];exact(sb.take j).app h.so h.lb⟩;rw[e];refine(List.Perm.append_left _ h.pm).trans ?_;rw[yR];refine yt.trans ?_;rw[zA];refine List.Perm.append_left _ ?_;refine yt.trans ?_;rw[zN]
theorem Hg.dnB {ou:Array Keyed}{i:Nat}(h:Hg a b ou i 0)(sa:So a.toList):Mr a b (dnH a b ou i 0):=by
 have e:(dnH a b ou i 0).toList=a.toList.take i++ou.toList.reverse:=by
  unfold dnH;rw[zc,zc,ext0,ext0,yX];simp
 refine⟨?_,by rw[e];exact(sa.take i).app h.so h.la⟩;rw[e];refine(List.Perm.append_left _ h.pm).trans ?_;rw[<- zA,zN,yR]
theorem Hg.first {ou:Array Keyed}{i:Nat}(h:Hg a b ou i 1)(sa:So a.toList)(h0:K b 0<=K a 0):Mr a b (fbH a b ou i 1):=by
 have e:(fbH a b ou i 1).toList=b.toList.take 1++(a.toList.take i++ou.toList.reverse):=by
  unfold fbH;rw[zc,zc,ext0,ext0,yX,zA]
 have so1:So (b.toList.take 1):=by
  unfold So;match b.toList with
  | []=>exact List.Pairwise.nil
  | x::_=>exact xC _ _
 refine⟨?_,?_⟩
 ·rw[e]
  refine(List.Perm.append_left _ (List.Perm.append_left _ h.pm)).trans ?_;rw[<- zA (a.toList.take i),zN];refine yt.trans ?_;rw[zA];refine List.Perm.append_left _ ?_;refine yt.trans ?_;rw[zN]
 ·rw[e]
  refine so1.app ((sa.take i).app h.so h.la) fun x hx y hy=>?_;rcases zG.mp hy with hy | hy
  ·obtain⟨m,h1,h2,h3⟩:=mem_take hx
   obtain⟨m',h1',h2',h3'⟩:=mem_take hy;rw[h3,h3',show m=0 by omega];exact zY h0 (K_mono sa (zV _) h2')
  ·exact h.lb x hx y hy
structure MH1 (a b:Array Keyed):Prop where
 ia:IntKeys a
 ib:IntKeys b
 sa:So a.toList
 sb:So b.toList
 h0:K b 0<=K a 0
structure Lh (a b ou:Array Keyed) (i j:Nat):Prop where
 mg:Hg a b ou i j
 hi:0 < i
 hj:1 < j
 ha:i<=a.size
 hb:j<=b.size
theorem Lh.a1 {ou:Array Keyed}{i j:Nat}(h:Hg a b ou i j)(m:MH1 a b)(hi:0 < i)(ha:i<=a.size)(hj:0 < j)(hb:j<=b.size)(c:K b (j - 1)<=K a (i - 1)){x:Keyed}(e:a[i - 1]?=some x):Hg a b (ou.push x) (i - 1) j:=by
 rw[push_rev e hi];refine h.stepA m.sa (by omega) fun x hx y hy=>?_;obtain⟨k,h1,h2,h3⟩:=mem_take hx;obtain⟨k',h1',h2',h3'⟩:=mem_seg hy;rw[h3,h3',show i - 1 + k'=i - 1 by omega];exact zY (K_mono m.sb (by omega) (by omega)) c
theorem Lh.b1 {ou:Array Keyed}{i j:Nat}(h:Hg a b ou i j)(m:MH1 a b)(hi:0 < i)(ha:i<=a.size)(hj:0 < j)(hb:j<=b.size)(c:K a (i - 1)<=K b (j - 1)){x:Keyed}(e:b[j - 1]?=some x):Hg a b (ou.push x) i (j - 1):=by
 rw[push_rev e hj];refine h.stepB m.sb (by omega) fun x hx y hy=>?_;obtain⟨k,h1,h2,h3⟩:=mem_take hx;obtain⟨k',h1',h2',h3'⟩:=mem_seg hy;rw[h3,h3',show j - 1 + k'=j - 1 by omega];exact zY (K_mono m.sa (by omega) (by omega)) c
variable {prog:Program}{w:World}{A:Around}{E:Value->Shared->Prop}{s:Shared}
theorem wpS_hiOne {st:SortSt}(hk:kindOf st=oneType')(m:MH1 a b){mg:Nat}{ou:Array Keyed}{i j ac bc:Nat}(h:Lh a b ou i j){Q:ForInStep H1'->SortSt->Prop}
  (q1:∀ r c,Mr a b r->Q (.done (some r,c)) st) (q2:∀ ou' i' j' c,Lh a b ou' i' j'->i' + j' < i + j->Q (.done (none,i',j',ou',c)) st) (q3:∀ ou' i' j' c,Lh a b ou' i' j'->i' + j' < i + j->Q (.yield (none,i',j',ou',c)) st):wpS (model prog w) A E s (hiOne a b mg i j ou ac bc) Q st:=by
 obtain⟨M,hi,hj,ha,hb⟩:=h;obtain⟨t1,v1,e1⟩:=int_at m.ib (show j - 1 < b.size by omega);obtain⟨t2,v2,e2⟩:=int_at m.ia (show i - 1 < a.size by omega);unfold hiOne;refine wpS_bind (wpS_elem e1 (wpS_bind (wpS_elem e2 (wpS_bind (wpS_lt hk rfl rfl ?_)))));dsimp only;by_cases c:K b (j - 1) < K a (i - 1)
 ·rw[if_pos (decide_eq_true c)]
  refine wpS_bind (wpS_elem e2 ?_);have M:=Lh.a1 M m hi ha (by omega) hb (yW c) e2;by_cases c1:i - 1=0
  ·rw[if_pos (by simpa using c1)]
   refine wpS_pure (q1 _ _ ?_);rw[c1]at M ⊢;exact M.dnA m.sb
  ·rw[if_neg (by simpa using c1)]
   have L:Lh a b (ou.push (Value.int (K a (i - 1)) t2,v2)) (i - 1) j:=⟨M,by omega,by omega,by omega,by omega⟩;split
   ·exact wpS_pure (q2 _ _ _ _ L (by omega))
   ·exact wpS_pure (q3 _ _ _ _ L (by omega))
 ·rw[if_neg (by simpa using c)]
  refine wpS_bind (wpS_elem e1 ?_);have M:=Lh.b1 M m hi ha (by omega) hb (by omega) e1;by_cases c1:j - 1=1
  ·rw[if_pos (by simpa using c1)]
   refine wpS_pure (q1 _ _ ?_);rw[c1]at M ⊢;exact M.first m.sa m.h0
  ·rw[if_neg (by simpa using c1)]
   have L:Lh a b (ou.push (Value.int (K b (j - 1)) t1,v1)) i (j - 1):=⟨M,by omega,by omega,by omega,by omega⟩;split
   ·exact wpS_pure (q2 _ _ _ _ L (by omega))
   ·exact wpS_pure (q3 _ _ _ _ L (by omega))
theorem wpS_hiC {st:SortSt}(m:MH1 a b){mg:Nat}{ou:Array Keyed}{i j ac bc:Nat}(h:Lh a b ou i j)(c:K b (j - 1)<=K a (i - 1)){Q:ForInStep H2'->SortSt->Prop}
  (q1:∀ r c,Mr a b r->Q (.done (some r,c)) st) (q2:∀ ou' i' j' c,Lh a b ou' i' j'->i' + j' < i + j->Q (.done (none,i',j',ou',c)) st) (q3:∀ ou' i' j' c,Lh a b ou' i' j'->i' + j' < i + j->Q (.yield (none,i',j',ou',c)) st):wpS (model prog w) A E s (hiC a b i j ou mg ac bc) Q st:=by
 obtain⟨M,hi,hj,ha,hb⟩:=h;obtain⟨t2,v2,e2⟩:=int_at m.ia (show i - 1 < a.size by omega);unfold hiC;refine wpS_bind (wpS_elem e2 ?_);have M:=Lh.a1 M m hi ha (by omega) hb c e2;by_cases c1:i - 1=0
 ·rw[if_pos (by simpa using c1)]
  refine wpS_pure (q1 _ _ ?_);rw[c1]at M ⊢;exact M.dnA m.sb
 ·rw[if_neg (by simpa using c1)]
  have L:Lh a b (ou.push (Value.int (K a (i - 1)) t2,v2)) (i - 1) j:=⟨M,by omega,by omega,by omega,by omega⟩;split
  ·exact wpS_pure (q2 _ _ _ _ L (by omega))
  ·exact wpS_pure (q3 _ _ _ _ L (by omega))
theorem wpS_hiB {st:SortSt}(hk:kindOf st=oneType')(m:MH1 a b){mg:Nat}{ou:Array Keyed}{i j ac bc:Nat}(h:Lh a b ou i j)(c:K a (i - 1)<=K b (j - 1)){Q:ForInStep H2'->SortSt->Prop}
  (q1:∀ r c,Mr a b r->Q (.done (some r,c)) st) (q2:∀ ou' i' j' c,Lh a b ou' i' j'->i' + j' < i + j->Q (.done (none,i',j',ou',c)) st) (q3:∀ ou' i' j' c,Lh a b ou' i' j'->i' + j' < i + j->Q (.yield (none,i',j',ou',c)) st):wpS (model prog w) A E s (hiB a b i j ou mg ac bc) Q st:=by
 obtain⟨M,hi,hj,ha,hb⟩:=h;obtain⟨t1,v1,e1⟩:=int_at m.ib (show j - 1 < b.size by omega);obtain⟨t2,v2,e2⟩:=int_at m.ia (show i - 1 < a.size by omega);unfold hiB;refine wpS_bind (wpS_elem e1 ?_);have M:=Lh.b1 M m hi ha (by omega) hb c e1;by_cases c1:j - 1=1
 ·rw[if_pos (by simpa using c1)]
  refine wpS_pure (q1 _ _ ?_);rw[c1]at M ⊢;exact M.first m.sa m.h0
 rw[if_neg (by simpa using c1)];refine wpS_bind (wpS_elem e2 (wpS_bind (wpS_gallop (kv:=K a (i - 1)) hk m.ib rfl (by omega) (by omega) (fun x y h1 h2 h3=>?_) fun k k1 k2 k3=>?_)))
 ·unfold bydB at h3 ⊢
  rw[if_pos rfl]at h3 ⊢;have h3:=of_decide_eq_true h3;exact decide_eq_true (wv (K_mono m.sb (by omega) (by omega)) h3)
 ·dsimp only
  have k2':∀ x,x < k->K b x < K a (i - 1):=fun x hx=>by
   have:=k2 x hx
   unfold bydB at this;rw[if_pos rfl,yP]at this;exact of_decide_eq_true this
  have k3':∀ x,k<=x->x < j - 1->K a (i - 1)<=K b x:=fun x h1 h2=>by
   have:=k3 x h1 h2
   unfold bydB at this;rw[if_pos rfl,yP]at this
   have:=of_decide_eq_false this
   omega
  have M2:Hg a b (ou.push (Value.int (K b (j - 1)) t1,v1)++(b.extract k (j - 1)).reverse) i k:=M.stepB m.sb k1 fun x hx y hy=>by
   obtain⟨n,h1,h2,h3⟩:=mem_take hx;obtain⟨n',h1',h2',h3'⟩:=mem_seg hy;rw[h3,h3'];exact zY (K_mono m.sa (by omega) (by omega)) (k3' _ (by omega) (by omega))
  by_cases c2:j - 1 - k > 0
  ·rw[if_pos c2]
   by_cases c3:k=1
   ·rw[if_pos (by simpa using c3)]
    refine wpS_pure (q1 _ _ ?_);subst c3;exact M2.first m.sa m.h0
   rw[if_neg (by simpa using c3)];by_cases c4:k=0
   ·rw[if_pos (by simpa using c4)]
    refine wpS_pure (q1 _ _ ?_);subst c4;exact M2.dnB m.sa
   rw[if_neg (by simpa using c4)];exact wpS_hiC m ⟨M2,hi,by omega,ha,by omega⟩ (yW (k2' _ (by omega))) q1 (fun ou' i' j' c L h=>q2 _ _ _ _ L (by omega)) (fun ou' i' j' c L h=>q3 _ _ _ _ L (by omega))
  ·rw[if_neg c2]
   exact wpS_hiC m ⟨M,hi,by omega,ha,by omega⟩ (yW (k2' _ (by omega))) q1 (fun ou' i' j' c L h=>q2 _ _ _ _ L (by omega)) (fun ou' i' j' c L h=>q3 _ _ _ _ L (by omega))
theorem wpS_hiA {st:SortSt}(hk:kindOf st=oneType')(m:MH1 a b){mg:Nat}{ou:Array Keyed}{i j ac bc:Nat}(h:Lh a b ou i j){Q:ForInStep H2'->SortSt->Prop}
  (q1:∀ r c st',Sm st st'->Mr a b r->Q (.done (some r,c)) st') (q2:∀ ou' i' j' c st',Sm st st'->Lh a b ou' i' j'->i' + j' < i + j->Q (.done (none,i',j',ou',c)) st') (q3:∀ ou' i' j' c st',Sm st st'->Lh a b ou' i' j'->i' + j' < i + j->Q (.yield (none,i',j',ou',c)) st'):wpS (model prog w) A E s (hiA a b i j ou mg ac bc) Q st:=by
 obtain⟨M,hi,hj,ha,hb⟩:=id h;obtain⟨t1,v1,e1⟩:=int_at m.ib (show j - 1 < b.size by omega);unfold hiA;refine wpS_bind (wpS_setMin fun st' sm=>?_);have hk':kindOf st'=oneType':=sm.1.trans hk;refine wpS_bind (wpS_elem e1 (wpS_bind (wpS_gallop (kv:=K b (j - 1)) hk' m.ia rfl (by omega) (by omega) (fun x y h1 h2 h3=>?_) fun k k1 k2 k3=>?_)))
 ·unfold bydB at h3 ⊢
  rw[if_neg zo]at h3 ⊢;have h3:¬ K b (j - 1) < K a (0 + y):=by simpa using h3
  have:=K_mono m.sa (show 0 + x<=0 + y by omega) (by omega)
  simpa using (show ¬ K b (j - 1) < K a (0 + x) by omega)
 ·dsimp only
  have k2':∀ x,x < k->K a x<=K b (j - 1):=fun x hx=>by
   have:=k2 x hx
   unfold bydB at this;rw[if_neg zo,yP]at this
   have:¬ K b (j - 1) < K a x:=by simpa using this
   omega
  have k3':∀ x,k<=x->x < i->K b (j - 1)<=K a x:=fun x h1 h2=>by
   have:=k3 x h1 h2
   unfold bydB at this;rw[if_neg zo,yP]at this
   have:K b (j - 1) < K a x:=by simpa using this
   omega
  have M2:Hg a b (ou++(a.extract k i).reverse) k j:=M.stepA m.sa k1 fun x hx y hy=>by
   obtain⟨n,h1,h2,h3⟩:=mem_take hx;obtain⟨n',h1',h2',h3'⟩:=mem_seg hy;rw[h3,h3'];exact zY (K_mono m.sb (by omega) (by omega)) (k3' _ (by omega) (by omega))
  by_cases c2:i - k > 0
  ·rw[if_pos c2]
   by_cases c3:k=0
   ·rw[if_pos (by simpa using c3)]
    refine wpS_pure (q1 _ _ _ sm ?_);subst c3;exact M2.dnA m.sb
   rw[if_neg (by simpa using c3)];exact wpS_hiB hk' m ⟨M2,by omega,hj,by omega,hb⟩ (k2' _ (by omega)) (fun r c=>q1 r c _ sm) (fun ou' i' j' c L h=>q2 _ _ _ _ _ sm L (by omega)) (fun ou' i' j' c L h=>q3 _ _ _ _ _ sm L (by omega))
  ·rw[if_neg c2]
   exact wpS_hiB hk' m h (k2' _ (by omega)) (fun r c=>q1 r c _ sm) (fun ou' i' j' c L h=>q2 _ _ _ _ _ sm L (by omega)) (fun ou' i' j' c L h=>q3 _ _ _ _ _ sm L (by omega))
theorem wpS_hiRound {st:SortSt}(hk:kindOf st=oneType')(m:MH1 a b){mg:Nat}{ou:Array Keyed}{i j:Nat}(h:Lh a b ou i j){Q:ForInStep H0'->SortSt->Prop}
  (q1:∀ r c st',Sm st st'->Mr a b r->Q (.done (some r,c)) st') (q3:∀ ou' i' j' c st',Sm st st'->Lh a b ou' i' j'->i' + j' < i + j->Q (.yield (none,i',j',ou',c)) st'):wpS (model prog w) A E s (hiRound a b i j ou mg) Q st:=by
 have hij:i + j<=a.size + b.size:=by have:=h.ha;have:=h.hb;omega
 unfold hiRound;refine wpS_bind (wpS_mono (wpS_forRange (I:=fun x c st'=>Sm st st'/\∃ ou' i' j' d,c=(none,i',j',ou',d)/\Lh a b ou' i' j'/\i' + j' + x<=i + j) (Q:=fun c st'=>Sm st st'/\((∃ r d,c=(some r,d)/\Mr a b r)\/∃ ou' i' j' d,c=(none,i',j',ou',d)/\Lh a b ou' i' j'/\i' + j' < i + j)) ?step ?fi ⟨Sm.refl _,ou,i,j,_,rfl,h,by omega⟩) ?post)
 case step =>
  rintro x c st' _ _ ⟨sm,ou',i',j',d,rfl,L,hx⟩;exact wpS_hiOne (sm.1.trans hk) m L (fun r c mr=>⟨sm,.inl ⟨r,c,rfl,mr⟩⟩) (fun ou2 i2 j2 c L2 h2=>⟨sm,.inr ⟨_,_,_,_,rfl,L2,by omega⟩⟩) fun ou2 i2 j2 c L2 h2=>⟨sm,_,_,_,_,rfl,L2,by omega⟩
 case fi =>
  rintro c st' ⟨sm,ou',i',j',d,rfl,L,hx⟩
  have:=L.hi
  have:=L.hj
  omega
 case post =>
  rintro c st' ⟨sm,⟨r,d,rfl,mr⟩|⟨ou',i',j',d,rfl,L,hx⟩⟩
  ·exact wpS_pure (q1 _ _ _ sm mr)
  ·dsimp only
   refine wpS_bind (wpS_lift (wpAny_rule ⟨rfl,?_⟩));refine wpS_bind (wpS_mono (wpS_forRange (I:=fun x c st'=>Sm st st'/\∃ ou' i' j' d,c=(none,i',j',ou',d)/\Lh a b ou' i' j'/\i' + j' + x < i + j) (Q:=fun c st'=>Sm st st'/\((∃ r d,c=(some r,d)/\Mr a b r)\/∃ ou' i' j' d,c=(none,i',j',ou',d)/\Lh a b ou' i' j'/\i' + j' < i + j)) ?step ?fi ⟨sm,ou',i',j',_,rfl,L,by omega⟩) ?post)
   case step =>
    rintro x c st' _ _ ⟨sm,ou',i',j',d,rfl,L,hx⟩;dsimp only;split
    ·exact wpS_hiA (sm.1.trans hk) m L (fun r c st2 s2 mr=>⟨sm.trans s2,.inl ⟨r,c,rfl,mr⟩⟩) (fun ou2 i2 j2 c st2 s2 L2 h2=>⟨sm.trans s2,.inr ⟨_,_,_,_,rfl,L2,by omega⟩⟩) fun ou2 i2 j2 c st2 s2 L2 h2=>⟨sm.trans s2,_,_,_,_,rfl,L2,by omega⟩
    ·exact wpS_hiA (sm.1.trans hk) m L (fun r c st2 s2 mr=>⟨sm.trans s2,.inl ⟨r,c,rfl,mr⟩⟩) (fun ou2 i2 j2 c st2 s2 L2 h2=>⟨sm.trans s2,.inr ⟨_,_,_,_,rfl,L2,by omega⟩⟩) fun ou2 i2 j2 c st2 s2 L2 h2=>⟨sm.trans s2,_,_,_,_,rfl,L2,by omega⟩
   case fi =>
    rintro c st' ⟨sm,ou',i',j',d,rfl,L,hx⟩
    have:=L.hi
    have:=L.hj
    omega
   case post =>
    rintro c st' ⟨sm,⟨r,d,rfl,mr⟩|⟨ou',i',j',d,rfl,L,hx⟩⟩
    ·exact wpS_pure (q1 _ _ _ sm mr)
    ·dsimp only
     exact wpS_bind (wpS_setMin fun st2 s2=>wpS_pure (q3 _ _ _ _ _ (sm.trans s2) L hx))
theorem wpS_mergeHi {st:SortSt}{Q:Array Keyed->SortSt->Prop}(hk:kindOf st=oneType')(m:MH1 a b)(a1:0 < a.size)(b1:0 < b.size)(hl:∀ y∈b.toList,nk y<=K a (a.size - 1))(q:∀ r st',Sm st st'->Mr a b r->Q r st'):wpS (model prog w) A E s (mergeHi' a b) Q st:=by
 rw[mergeHi'_eq];refine wpS_bind (wpS_lift (wpAny_rule ⟨rfl,?_⟩));obtain⟨t0,v0,e0⟩:=int_at m.ia (show a.size - 1 < a.size by omega);refine wpS_bind (wpS_elem e0 ?_);have M0:Hg a b #[] a.size b.size:=⟨by simp,List.Pairwise.nil,(fun _ _ _ h=>nomatch h),(fun _ _ _ h=>nomatch h)⟩;have M1:Hg a b #[(Value.int (K a (a.size - 1)) t0,v0)] (a.size - 1) b.size:=by
  have:=M0.stepA m.sa (r:=a.size - 1) (by omega) fun x hx y hy=>by
   obtain⟨n',h1',h2',h3'⟩:=mem_seg hy;rw[h3',show a.size - 1 + n'=a.size - 1 by omega];exact hl x (xn hx)
  rwa [<- push_rev e0 a1]at this
 by_cases c1:a.size - 1=0
 ·rw[if_pos (by simpa using c1)]
  refine wpS_pure (q _ _ (Sm.refl _) ?_);rw[c1]at M1 ⊢;exact M1.dnA m.sb
 rw[if_neg (by simpa using c1)];by_cases c2:b.size=1
 ·rw[if_pos (by simpa using c2)]
  refine wpS_pure (q _ _ (Sm.refl _) ?_);rw[c2]at M1 ⊢;exact M1.first m.sa m.h0
 rw[if_neg (by simpa using c2)];refine wpS_bind (wpS_get (wpS_bind (wpS_mono (wpS_forRange (I:=fun x c st'=>Sm st st'/\∃ ou' i' j' d,c=(none,i',j',ou',d)/\Lh a b ou' i' j'/\i' + j' + x < a.size + b.size) (Q:=fun c st'=>Sm st st'/\∃ r d,c=(some r,d)/\Mr a b r) ?step ?fi ⟨Sm.refl _,_,a.size - 1,b.size,_,rfl,⟨M1,by omega,by omega,by omega,by omega⟩,by omega⟩) ?post)))
 case step =>
  rintro x c st' _ _ ⟨sm,ou',i',j',d,rfl,L,hx⟩;exact wpS_hiRound (sm.1.trans hk) m L (fun r c st2 s2 mr=>⟨sm.trans s2,r,c,rfl,mr⟩) fun ou2 i2 j2 c st2 s2 L2 h2=>⟨sm.trans s2,_,_,_,_,rfl,L2,by omega⟩
 case fi =>
  rintro c st' ⟨sm,ou',i',j',d,rfl,L,hx⟩
  have:=L.hi
  have:=L.hj
  omega
 case post =>
  rintro c st' ⟨sm,r,d,rfl,mr⟩;exact wpS_pure (q _ _ sm mr)
end
end L3
namespace L3
open PySem PyProof.Rows
theorem mergeAt'_eq (i:Nat):mergeAt' i=(do
 let s <- get
 let (some (p,n,pw),some (q,m,_)):=((pendingOf s)[i]?,(pendingOf s)[i + 1]?) | unsupported "internal:list.sort.pending"
 set (setPending s (((pendingOf s).setIfInBounds i (p,n + m,pw)).eraseIdxIfInBounds (i + 1)))
 let some k <- gallop' false (<- elem' (arrOf s) q) (arrOf s) p n 0 | return false
 let (p,n):=(p + k,n - k)
 if n==0 then return true
 let some m <- gallop' true (<- elem' (arrOf s) (p + n - 1)) (arrOf s) q m (m - 1) | return false
 if m==0 then return true
 let x:=(arrOf s).extract p q
 let y:=(arrOf s).extract q (q + m)
 let r <- if n<=m then mergeLo' x y else mergeHi' x y
 modify fun s=>setArr s (r.toList.zipIdx.foldl (fun a (v,j)=>a.setIfInBounds (p + j) v) (arrOf s))
 return (failedOf (<- get)).isNone):=rfl
theorem put_run (o:Nat):∀ (l:List Keyed) (n:Nat) (ar:Array Keyed),o + n + l.length<=ar.size->((l.zipIdx n).foldl (fun a (v,j)=>a.setIfInBounds (o + j) v) ar).toList=ar.toList.take (o + n)++l++ar.toList.drop (o + n + l.length)
 | [],n,ar,h=>by simp
 | v::l,n,ar,h=>by
  rw[wD,vI,put_run o l (n + 1) _ (by rw[Array.size_setIfInBounds];rw[zE]at h;omega),wu];rw[zE]at h ⊢;have hl:o + n < ar.toList.length:=by simp;omega
  have e1:(ar.toList.set (o + n) v).take (o + (n + 1))=ar.toList.take (o + n)++[v]:=by
   rw[List.set_eq_take_append_cons_drop,if_pos hl,wE,wt,za];rw[show o + (n + 1) - min (o + n) ar.toList.length=1 by omega,show min (o + (n + 1)) (o + n)=o + n by omega];simp
  have e2:(ar.toList.set (o + n) v).drop (o + (n + 1) + l.length)=ar.toList.drop (o + n + (l.length + 1)):=by
   rw[List.drop_set_of_lt (by omega)];congr 1;omega
  rw[e1,e2];simp
noncomputable def Sg (ar:Array Keyed)(lo n:Nat):Prop:=So ((ar.toList.drop lo).take n)
theorem K_ext {ar:Array Keyed}{i j m:Nat}(h:i + m < j)(hj:j<=ar.size):K (ar.extract i j) m=K ar (i + m):=K_congr (by rw[Array.getElem?_extract,if_pos (by omega)])
theorem ext_list (ar:Array Keyed)(i j:Nat):(ar.extract i j).toList=(ar.toList.drop i).take (j - i):=by
 rw[zL]
theorem Sg.mono {ar:Array Keyed}{lo n:Nat}(h:Sg ar lo n){i j:Nat}(h1:i<=j)(h2:j < n)(h3:lo + n<=ar.size):K ar (lo + i)<=K ar (lo + j):=by
 rcases xu h1 with h1 | rfl
 ·have hl:((ar.toList.drop lo).take n).length=n:=by simp;omega
  have:=yz.mp h i j (by omega) (by omega) h1
  rw[yV,yV,yK,yK,K_list,K_list]at this;exact this
 ·exact xy _
section
variable {prog:Program}{w:World}{A:Around}{E:Value->Shared->Prop}{s:Shared}
theorem wpS_set {st st':SortSt}{Q:PUnit->SortSt->Prop}(h:Q ⟨⟩ st'):wpS (model prog w) A E s (set st':StateT SortSt Sem PUnit) Q st:=by
 unfold wpS;rw[StateT.run_set];exact zu ⟨rfl,h⟩
theorem ik_ext {ar:Array Keyed}(h:IntKeys ar)(i j:Nat):IntKeys (ar.extract i j):=fun p hp=>h p (by rw[ext_list]at hp;exact xm (xn hp))
theorem wpS_mergeAt {st:SortSt}{i p n pw m z:Nat}{Q:Bool->SortSt->Prop}(hk:kindOf st=oneType')(hf:failedOf st=none)(hI:IntKeys (arrOf st))(e1:(pendingOf st)[i]?=some (p,n,pw))(e2:(pendingOf st)[i + 1]?=some (p + n,m,z))(n0:0 < n)(m0:0 < m)(sz:p + n + m<=(arrOf st).size)(sa:Sg (arrOf st) p n)(sb:Sg (arrOf st) (p + n) m)
  (q:∀ st',kindOf st'=oneType'->failedOf st'=none->pendingOf st'=((pendingOf st).setIfInBounds i (p,n + m,pw)).eraseIdxIfInBounds (i + 1)->(arrOf st').Perm (arrOf st)->Sg (arrOf st') p (n + m)->(∀ lo k,lo + k<=p\/p + n + m<=lo->((arrOf st').toList.drop lo).take k=((arrOf st).toList.drop lo).take k)->Q true st'):wpS (model prog w) A E s (mergeAt' i) Q st:=by
 rw[mergeAt'_eq];refine wpS_bind (wpS_get ?_);rw[e1,e2];dsimp only;refine wpS_bind (wpS_set ?_);generalize hpe:((pendingOf st).setIfInBounds i (p,n + m,pw)).eraseIdxIfInBounds (i + 1)=pe at q ⊢;generalize har:arrOf st=ar at *;obtain⟨tb,vb,eb⟩:=int_at hI (show p + n < ar.size by omega);refine wpS_bind (wpS_elem eb (wpS_bind (wpS_gallop (kv:=K ar (p + n)) (by exact hk) hI rfl (by omega) n0 (fun x y h1 h2 h3=>?_) fun k k1 k2 k3=>?_)))
 ·unfold bydB at h3 ⊢
  rw[if_neg zo]at h3 ⊢;have h3:¬ K ar (p + n) < K ar (p + y):=by simpa using h3
  have:=sa.mono h1 h2 (by omega)
  simpa using (show ¬ K ar (p + n) < K ar (p + x) by omega)
 dsimp only;have k2':∀ x,x < k->K ar (p + x)<=K ar (p + n):=fun x hx=>by
  have:=k2 x hx
  unfold bydB at this;rw[if_neg zo]at this
  have:¬ K ar (p + n) < K ar (p + x):=by simpa using this
  omega
 have k3':∀ x,k<=x->x < n->K ar (p + n)<=K ar (p + x):=fun x h1 h2=>by
  have:=k3 x h1 h2
  unfold bydB at this;rw[if_neg zo]at this
  have:K ar (p + n) < K ar (p + x):=by simpa using this
  omega
 have hcut:(ar.toList.drop p).take (n + m)=(ar.toList.drop p).take n++(ar.toList.drop (p + n)).take m:=by rw[xh,yb]
 by_cases c1:n - k=0
 ·rw[if_pos (by simpa using c1)]
  have kn:k=n:=by omega
  refine wpS_pure (q _ hk hf rfl (har ▸ Array.Perm.refl _) ?_ fun lo k _=>by rw[har]);show Sg (arrOf st) p (n + m);rw[har];unfold Sg;rw[hcut];refine So.app sa sb fun x hx y hy=>?_;obtain⟨u,h1,h2,h3⟩:=mem_seg hx;obtain⟨v,h1',h2',h3'⟩:=mem_seg hy;rw[h3,h3'];exact zY (k2' u (by omega)) (sb.mono (zV v) h1' (by omega))
 rw[if_neg (by simpa using c1)];obtain⟨ta,va,ea⟩:=int_at hI (show p + k + (n - k) - 1 < ar.size by omega);refine wpS_bind (wpS_elem ea (wpS_bind (wpS_gallop (kv:=K ar (p + k + (n - k) - 1)) (by exact hk) hI rfl (by omega) (by omega) (fun x y h1 h2 h3=>?_) fun r r1 r2 r3=>?_)))
 ·unfold bydB at h3 ⊢
  rw[if_pos rfl]at h3 ⊢;have h3:=of_decide_eq_true h3;exact decide_eq_true (wv (sb.mono h1 h2 (by omega)) h3)
 dsimp only;rw[show p + k + (n - k) - 1=p + (n - 1) by omega]at r2 r3;have r2':∀ x,x < r->K ar (p + n + x) < K ar (p + (n - 1)):=fun x hx=>by
  have:=r2 x hx
  unfold bydB at this;rw[if_pos rfl]at this;exact of_decide_eq_true this
 have r3':∀ x,r<=x->x < m->K ar (p + (n - 1))<=K ar (p + n + x):=fun x h1 h2=>by
  have:=r3 x h1 h2
  unfold bydB at this;rw[if_pos rfl]at this
  have:=of_decide_eq_false this
  omega
 by_cases c2:r=0
 ·rw[if_pos (by simpa using c2)]
  refine wpS_pure (q _ hk hf rfl (har ▸ Array.Perm.refl _) ?_ fun lo k _=>by rw[har]);show Sg (arrOf st) p (n + m);rw[har];unfold Sg;rw[hcut];refine So.app sa sb fun x hx y hy=>?_;obtain⟨u,h1,h2,h3⟩:=mem_seg hx;obtain⟨v,h1',h2',h3'⟩:=mem_seg hy;rw[h3,h3'];exact zY (sa.mono (show u<=n - 1 by omega) (by omega) (by omega)) (r3' v (by omega) h1')
 rw[if_neg (by simpa using c2)];have ex:(ar.extract (p + k) (p + n)).toList=(ar.toList.drop (p + k)).take (n - k):=by rw[ext_list,show p + n - (p + k)=n - k by omega]
 have ey:(ar.extract (p + n) (p + n + r)).toList=(ar.toList.drop (p + n)).take r:=by rw[ext_list,show p + n + r - (p + n)=r by omega]
 have zx:(ar.extract (p + k) (p + n)).size=n - k:=by rw[vp];omega
 have zy:(ar.extract (p + n) (p + n + r)).size=r:=by rw[vp];omega
 have sx:So (ar.extract (p + k) (p + n)).toList:=by
  rw[ex]
  have:(ar.toList.drop (p + k)).take (n - k)=((ar.toList.drop p).take n).drop k:=by rw[wq,yb]
  rw[this];exact So.drop sa k
 have sy:So (ar.extract (p + n) (p + n + r)).toList:=by
  rw[ey]
  have:(ar.toList.drop (p + n)).take r=((ar.toList.drop (p + n)).take m).take r:=by rw[wt,show min r m=r by omega]
  rw[this];exact So.take sb r
 have h0:K (ar.extract (p + n) (p + n + r)) 0<=K (ar.extract (p + k) (p + n)) 0:=by
  rw[K_ext (by omega) (by omega),K_ext (by omega) (by omega)];exact k3' k (zp _) (by omega)
 have hl:∀ y∈(ar.extract (p + n) (p + n + r)).toList,nk y<=K (ar.extract (p + k) (p + n)) ((ar.extract (p + k) (p + n)).size - 1):=fun y hy=>by
  rw[ey]at hy;obtain⟨v,h1',h2',h3'⟩:=mem_seg hy;rw[h3',zx,K_ext (by omega) (by omega),show p + k + (n - k - 1)=p + (n - 1) by omega];exact yW (r2' v h1')
 have fin:∀ (l:Array Keyed) (st':SortSt),Sm (setPending st pe) st'->Mr (ar.extract (p + k) (p + n)) (ar.extract (p + n) (p + n + r)) l->wpS (model prog w) A E s (do
   modify fun s=>setArr s (l.toList.zipIdx.foldl (fun a (v,j)=>a.setIfInBounds (p + k + j) v) (arrOf s))
   return (failedOf (<- get)).isNone) Q st':=fun l st' sm mr=>by
  obtain⟨f1,f2,f3,f4⟩:=sm;replace f2:arrOf st'=ar:=f2.trans har;have ll:l.toList.length=n - k + r:=by
   rw[mr.1.length_eq,zq,ex,ey];simp;omega
  refine wpS_bind (wpS_modify (wpS_bind (wpS_get (wpS_pure ?_))));have ft:(failedOf st').isNone=true:=by rw[show failedOf st'=none from f4.trans hf];rfl
  show Q (failedOf st').isNone _;rw[ft];have e3:(l.toList.zipIdx.foldl (fun a (v,j)=>a.setIfInBounds (p + k + j) v) (arrOf st')).toList=ar.toList.take (p + k)++l.toList++ar.toList.drop (p + n + r):=by
   rw[f2,put_run (p + k) l.toList 0 ar (by omega),ll,vY,show p + k + (n - k + r)=p + n + r by omega]
  have e4:ar.toList=ar.toList.take (p + k)++((ar.toList.drop (p + k)).take (n - k)++(ar.toList.drop (p + n)).take r)++ar.toList.drop (p + n + r):=by
   rw[show (ar.toList.drop (p + k)).take (n - k)++(ar.toList.drop (p + n)).take r=(ar.toList.drop (p + k)).take (n - k + r) by rw[xh,yb,show p + k + (n - k)=p + n by omega],zA];rw[show p + n + r=p + k + (n - k + r) by omega,<- yb (i:=n - k + r) (j:=p + k),zN,zN]
  have lp:(ar.toList.take (p + k)).length=p + k:=by simp;omega
  refine q _ (f1.trans hk) (f4.trans hf) f3 ?_ ?_ ?_
  ·rw[xl]
   show List.Perm (l.toList.zipIdx.foldl (fun a (v,j)=>a.setIfInBounds (p + k + j) v) (arrOf st')).toList ar.toList;rw[e3];refine List.Perm.trans ?_ (List.Perm.of_eq e4.symm);refine List.Perm.append_right _ (List.Perm.append_left _ ?_);rw[<- ex,<- ey];exact mr.1
  ·show Sg (l.toList.zipIdx.foldl (fun a (v,j)=>a.setIfInBounds (p + k + j) v) (arrOf st')) p (n + m)
   unfold Sg;rw[e3];have e5:((ar.toList.take (p + k)++l.toList++ar.toList.drop (p + n + r)).drop p).take (n + m)=(ar.toList.drop p).take k++(l.toList++(ar.toList.drop (p + n + r)).take (m - r)):=by
    rw[zA,xT (by omega),wq,show p + k - p=k by omega];have l1:((ar.toList.drop p).take k).length=k:=by simp;omega
    rw[wE,l1,yu (show ((ar.toList.drop p).take k).length<=n + m by omega),wE,ll,yu (show l.toList.length<=n + m - k by omega),show n + m - k - (n - k + r)=m - r by omega]
   rw[e5];have mem:∀ v∈l.toList,(∃ u,k<=u/\u < n/\nk v=K ar (p + u))\/∃ u,u < r/\nk v=K ar (p + n + u):=fun v hv=>by
    rcases zG.mp (mr.1.mem_iff.mp hv) with hv | hv
    ·rw[ex]at hv
     obtain⟨u,h1,h2,h3⟩:=mem_seg hv;exact .inl ⟨k + u,by omega,by omega,by rw[h3,xi]⟩
    ·rw[ey]at hv
     obtain⟨u,h1,h2,h3⟩:=mem_seg hv;exact .inr ⟨u,h1,h3⟩
   have s1:So ((ar.toList.drop p).take k):=by
    have:(ar.toList.drop p).take k=((ar.toList.drop p).take n).take k:=by rw[wt,show min k n=k by omega]
    rw[this];exact So.take sa k
   have s2:So ((ar.toList.drop (p + n + r)).take (m - r)):=by
    have:(ar.toList.drop (p + n + r)).take (m - r)=((ar.toList.drop (p + n)).take m).drop r:=by rw[wq,yb]
    rw[this];exact So.drop sb r
   refine s1.app (mr.2.app s2 fun x hx y hy=>?_) fun x hx y hy=>?_
   ·obtain⟨v,h1',h2',h3'⟩:=mem_seg hy
    rw[h3',xi]
    have:=r3' (r + v) (by omega) (by omega)
    rcases mem x hx with ⟨u,h1,h2,h3⟩|⟨u,h1,h3⟩
    ·rw[h3]
     exact zY (sa.mono (show u<=n - 1 by omega) (by omega) (by omega)) this
    ·rw[h3]
     exact zY (yW (r2' u h1)) this
   ·obtain⟨v,h1',h2',h3'⟩:=mem_seg hx
    rw[h3'];rcases zG.mp hy with hy | hy
    ·rcases mem y hy with ⟨u,h1,h2,h3⟩|⟨u,h1,h3⟩
     ·rw[h3]
      exact sa.mono (by omega) h2 (by omega)
     ·rw[h3]
      exact zY (k2' v h1') (sb.mono (zV u) (by omega) (by omega))
    ·obtain⟨u,h1,h2,h3⟩:=mem_seg hy
     rw[h3,xi];exact zY (k2' v h1') (sb.mono (zV (r + u)) (by omega) (by omega))
  ·intro lo c hc
   show ((l.toList.zipIdx.foldl (fun a (v,j)=>a.setIfInBounds (p + k + j) v) (arrOf st')).toList.drop lo).take c=_;rw[e3];rcases hc with hc | hc
   ·rw[zA,xT (by omega),List.take_append_of_le_length (by rw[zM];omega),wq,wt,show min c (p + k - lo)=c by omega]
   ·have l3:(ar.toList.take (p + k)++l.toList).length=p + n + r:=by rw[zq,lp,ll];omega
    rw[List.drop_append,l3,xG (by omega),List.nil_append,yb,show p + n + r + (lo - (p + n + r))=lo by omega]
 by_cases c3:n - k<=r
 ·rw[if_pos c3]
  exact wpS_bind (wpS_mergeLo (by exact hk) ⟨ik_ext hI _ _,ik_ext hI _ _,sx,sy,hl⟩ (by omega) (by omega) h0 fun l st' sm mr=>fin l st' sm mr)
 ·rw[if_neg c3]
  exact wpS_bind (wpS_mergeHi (by exact hk) ⟨ik_ext hI _ _,ik_ext hI _ _,sx,sy,h0⟩ (by omega) (by omega) hl fun l st' sm mr=>fin l st' sm mr)
end
end L3
namespace L3
open PySem PyProof.Rows
structure Ks (lo hi:Nat) (st st':SortSt):Prop where
 kind:kindOf st'=kindOf st
 failed:failedOf st'=failedOf st
 pend:pendingOf st'=pendingOf st
 perm:(arrOf st').Perm (arrOf st)
 out:∀ i,i < lo\/hi<=i->(arrOf st')[i]?=(arrOf st)[i]?
theorem Ks.refl {lo hi:Nat}{st:SortSt}:Ks lo hi st st:=⟨rfl,rfl,rfl,.refl _,fun _ _=>rfl⟩
theorem Ks.trans {lo hi:Nat}{a b c:SortSt}(h:Ks lo hi a b)(k:Ks lo hi b c):Ks lo hi a c:=⟨k.kind.trans h.kind,k.failed.trans h.failed,k.pend.trans h.pend,k.perm.trans h.perm,fun i hi=>(k.out i hi).trans (h.out i hi)⟩
noncomputable def Sa (ar:Array Keyed)(lo n:Nat):Prop:=∀ i j,i<=j->j < n->K ar (lo + i)<=K ar (lo + j)
noncomputable def Dt (ar:Array Keyed):Prop:=∀ i j,i < j->j < ar.size->K ar i≠K ar j
theorem ik_perm {a b:Array Keyed}(h:a.Perm b)(k:IntKeys b):IntKeys a:=fun p hp=>k p ((xl.mp h).mem_iff.mp hp)
theorem dt_iff (a:Array Keyed):Dt a ↔ (a.toList.map nk).Nodup:=by
 rw[List.Nodup,yz];refine⟨fun h i j hi hj hij=>?_,fun h i j hij hj=>?_⟩
 ·rw[zw]at hi hj
  rw[xz,xz,K_list,K_list];exact h i j hij (by simpa using hj)
 ·have hl:a.toList.length=a.size:=by simp
  have:=h i j (by rw[zw];omega) (by rw[zw];omega) hij
  rwa [xz,xz,K_list,K_list]at this
theorem dt_perm {a b:Array Keyed}(h:a.Perm b)(k:Dt b):Dt a:=by
 rw[dt_iff]at k ⊢;exact((xl.mp h).map nk).nodup_iff.mpr k
section
variable {prog:Program}{w:World}{A:Around}{E:Value->Shared->Prop}{s:Shared}
theorem wpS_ltI {st:SortSt}{i j:Nat}{Q:Option Bool->SortSt->Prop}(hk:kindOf st=oneType')(h0:IntKeys (arrOf st))(hi:i < (arrOf st).size)(hj:j < (arrOf st).size)
  (h:Q (some (decide (K (arrOf st) i < K (arrOf st) j))) st):wpS (model prog w) A E s (ltAt' i j) Q st:=by
 obtain⟨t,p,e1⟩:=int_at h0 hi;obtain⟨u,q,e2⟩:=int_at h0 hj;exact wpS_ltAt hk e1 e2 h
theorem wpS_binS {st:SortSt}{lo n ok:Nat}{Q:Bool->SortSt->Prop}(hk:kindOf st=oneType')(h0:IntKeys (arrOf st))(hn:lo + n<=(arrOf st).size)(hok:ok<=n)(hs:Sa (arrOf st) lo ok)
  (h:∀ st',Ks lo (lo + n) st st'->Sa (arrOf st') lo n->Q true st'):wpS (model prog w) A E s (binarySort' lo n ok) Q st:=by
 rw[binarySort'_eq];refine wpS_bind (wpS_mono (wpS_forRange (I:=fun k c st'=>c=(none,())/\Ks lo (lo + n) st st'/\Sa (arrOf st') lo (min k n))
  (Q:=fun c st'=>c=(none,())/\Ks lo (lo + n) st st'/\Sa (arrOf st') lo n) ?step ?fin ?init) ?post)
 case post =>
  rintro c st' ⟨rfl,hB',hs'⟩;exact wpS_pure (h st' hB' hs')
 case init =>
  refine⟨rfl,.refl,fun i j hij hj=>?_⟩;by_cases h1:ok=0
  ·have:i=j:=by omega
   subst this;exact xy _
  ·exact hs i j hij (by omega)
 case fin =>
  rintro c st' ⟨hc,hB',hs'⟩;refine⟨hc,hB',?_⟩
  rwa [show min (max (max ok 1) n) n=n by omega]at hs'
 case step =>
  rintro k c st' hak hkn ⟨rfl,hB',hs'⟩;rw[show min k n=k by omega]at hs';have sz':(arrOf st').size=(arrOf st).size:=hB'.perm.size_eq;refine wpS_bind (wpS_mono (wpS_forRange (I:=fun x c st''=>st''=st'/\∃ l r,c=(none,l,r)/\l<=r/\r<=k/\r - l<=k - x /\
    (∀ i,i < l->K (arrOf st') (lo + i)<=K (arrOf st') (lo + k))/\(∀ i,r<=i->i < k->K (arrOf st') (lo + k) < K (arrOf st') (lo + i)))
   (Q:=fun c st''=>st''=st'/\∃ l r,c=(none,l,r)/\l<=k /\
    (∀ i,i < l->K (arrOf st') (lo + i)<=K (arrOf st') (lo + k))/\(∀ i,l<=i->i < k->K (arrOf st') (lo + k) < K (arrOf st') (lo + i))) ?istep ?ifin ?iinit) ?ipost)
  case iinit=>exact⟨rfl,0,k,rfl,by omega,by omega,by omega,fun i hi=>by omega,fun i h1 h2=>by omega⟩
  case ifin =>
   rintro c st'' ⟨rfl,l,r,rfl,hlr,hrk,hm,hlo,hhi⟩
   have:l=r:=by omega
   subst this;exact⟨rfl,l,l,rfl,hrk,hlo,hhi⟩
  case istep =>
   rintro x c st'' _ hxk ⟨rfl,l,r,rfl,hlr,hrk,hm,hlo,hhi⟩;dsimp only;by_cases hge:l ≥ r
   ·rw[if_pos hge]
    have:l=r:=by omega
    subst this;exact wpS_pure ⟨rfl,l,l,rfl,hrk,hlo,hhi⟩
   ·rw[if_neg hge]
    refine wpS_bind (wpS_ltI (hB'.kind.trans hk) (ik_perm hB'.perm h0) (by omega) (by omega) ?_);by_cases hless:K (arrOf st'') (lo + k) < K (arrOf st'') (lo + (l + r) / 2)
    ·simp only[hless,decide_true,if_true]
     refine wpS_pure ⟨rfl,l,(l + r) / 2,rfl,by omega,by omega,by omega,hlo,fun i h1 h2=>?_⟩;exact Int.lt_of_lt_of_le hless (hs' _ _ h1 h2)
    ·simp only[hless,decide_false,yo,if_false]
     refine wpS_pure ⟨rfl,(l + r) / 2 + 1,r,rfl,by omega,by omega,by omega,fun i h1=>?_,hhi⟩;exact zY (hs' i ((l + r) / 2) (by omega) (by omega)) (Int.not_lt.mp hless)
  case ipost =>
   rintro c st'' ⟨rfl,l,r,rfl,hlk,hlo,hhi⟩;show wpS _ _ _ _ (do moveDown' (lo + k) (lo + l);pure (ForInStep.yield (none,()))) _ _;rw[moveDown'_eq];have hks:lo + k < (arrOf st'').size:=by omega
   have hd:lo + k - (lo + l)=k - l:=by omega
   rw[hd];refine wpS_bind (wpS_modify (wpS_pure ⟨rfl,⟨hB'.kind,hB'.failed,hB'.pend,(bubble_perm _ _ _).trans hB'.perm,fun i hi=>?_⟩,?_⟩))
   ·show (bubble (arrOf st'') (lo + k) (k - l))[i]?=_
    rw[getElem?_bubble hks _ (by omega),if_neg (by omega),if_neg (by omega)];exact hB'.out i hi
   rw[show min (k + 1) n=k + 1 by omega];intro i j hij hj;show K (bubble (arrOf st'') (lo + k) (k - l)) (lo + i)<=K (bubble (arrOf st'') (lo + k) (k - l)) (lo + j);rw[K_bubble hks (by omega),K_bubble hks (by omega),show lo + k - (k - l)=lo + l by omega];by_cases i1:i=l
   ·subst i1
    rw[if_pos rfl];by_cases j1:j=i
    ·subst j1
     rw[if_pos rfl];exact xy _
    ·rw[if_neg (by omega),if_pos (by omega),show lo + j - 1=lo + (j - 1) by omega]
     exact yW (hhi _ (by omega) (by omega))
   ·rw[if_neg (by omega)]
    by_cases i2:l < i
    ·rw[if_pos (by omega),if_neg (by omega),if_pos (by omega),show lo + i - 1=lo + (i - 1) by omega,show lo + j - 1=lo + (j - 1) by omega]
     exact hs' _ _ (by omega) (by omega)
    ·rw[if_neg (by omega)]
     by_cases j1:j=l
     ·subst j1
      rw[if_pos rfl];exact hlo _ (by omega)
     ·rw[if_neg (by omega)]
      by_cases j2:l < j
      ·rw[if_pos (by omega),show lo + j - 1=lo + (j - 1) by omega]
       exact hs' _ _ (by omega) (by omega)
      ·rw[if_neg (by omega)]
       exact hs' _ _ hij (by omega)
noncomputable def ascF (lo:Nat)(_:Nat)(c:Option (Option Nat)×Nat):StateT SortSt Sem (ForInStep (Option (Option Nat)×Nat)):=do
 let some sm <- ltAt' (lo + c.2) (lo + c.2 - 1) | return .done (some none,c.2)
 if sm then return .done (none,c.2) else return .yield (none,c.2 + 1)
theorem wpS_asc {st:SortSt}{lo a nr:Nat}{Q:Option (Option Nat)×Nat->SortSt->Prop}(hk:kindOf st=oneType')(h0:IntKeys (arrOf st))(hn:lo + nr<=(arrOf st).size)(ha:1<=a)(han:a<=nr)(hs:Sa (arrOf st) lo a)
  (q:∀ m,a<=m->m<=nr->Sa (arrOf st) lo m->(m < nr->K (arrOf st) (lo + m) < K (arrOf st) (lo + m - 1))->Q (none,m) st):wpS (model prog w) A E s (forIn [a:nr] ((none,a):Option (Option Nat)×Nat) (ascF lo)) Q st:=by
 refine wpS_mono (wpS_forRange (I:=fun x c st'=>st'=st/\c=(none,x)/\Sa (arrOf st) lo x) (Q:=fun c st'=>st'=st/\∃ m,c=(none,m)/\a<=m/\m<=nr/\Sa (arrOf st) lo m/\(m < nr->K (arrOf st) (lo + m) < K (arrOf st) (lo + m - 1))) ?step ?fi ⟨rfl,rfl,hs⟩) ?post
 case step =>
  rintro x c st' hx1 hx2 ⟨rfl,rfl,s⟩;unfold ascF;refine wpS_bind (wpS_ltI hk h0 (by dsimp only;omega) (by dsimp only;omega) ?_);dsimp only;by_cases e:K (arrOf st') (lo + x) < K (arrOf st') (lo + x - 1)
  ·rw[if_pos (decide_eq_true e)]
   exact wpS_pure ⟨rfl,x,rfl,hx1,by omega,s,fun _=>e⟩
  ·rw[if_neg (by simpa using e)]
   refine wpS_pure ⟨rfl,rfl,fun i j hij hj=>?_⟩;by_cases hj2:j < x
   ·exact s i j hij hj2
   ·have hjx:j=x:=by omega
    subst hjx;by_cases hi2:i=j
    ·subst hi2
     exact xy _
    ·have:=s i (j - 1) (by omega) (by omega)
     rw[show lo + (j - 1)=lo + j - 1 by omega]at this;omega
 case fi =>
  rintro c st' ⟨rfl,rfl,s⟩;exact⟨rfl,_,rfl,by omega,by omega,s,fun h=>by omega⟩
 case post =>
  rintro c st' ⟨rfl,m,rfl,m1,m2,m3,m4⟩;exact q m m1 m2 m3 m4
theorem wpS_rev {st:SortSt}{i j:Nat}{Q:Unit->SortSt->Prop}(hj:j<=(arrOf st).size)(q:∀ st',Ks i j st st'->(∀ k,i<=k->k < j->K (arrOf st') k=K (arrOf st) (i + j - 1 - k))->Q () st'):wpS (model prog w) A E s (reverseSlice' i j) Q st:=by
 rw[reverseSlice'_eq];refine wpS_modify (q _ ⟨rfl,rfl,rfl,mirror_perm _ _ _ _,fun k hk=>?_⟩ fun k h1 h2=>?_)
 ·show (mirror (arrOf st) i j ((j - i) / 2))[k]?=_
  rw[getElem?_mirror_all hj,if_neg (by omega)]
 ·show K (mirror (arrOf st) i j ((j - i) / 2)) k=_
  rw[K_mirror hj,if_pos (by omega)]
theorem Ks.wide {a b c d:Nat}{st st':SortSt}(h:Ks a b st st')(h1:c<=a)(h2:b<=d):Ks c d st st':=⟨h.kind,h.failed,h.pend,h.perm,fun i hi=>h.out i (by omega)⟩
theorem wpS_count {st:SortSt}{lo nr:Nat}{Q:Option Nat->SortSt->Prop}(hk:kindOf st=oneType')(h0:IntKeys (arrOf st))(hd:Dt (arrOf st))(hn:lo + nr<=(arrOf st).size)(h1:1<=nr)
  (h:∀ m st',1<=m->m<=nr->Ks lo (lo + nr) st st'->Sa (arrOf st') lo m->Q (some m) st'):wpS (model prog w) A E s (countRun' lo nr) Q st:=by
 rw[countRun'_eq];dsimp only;refine wpS_bind (wpS_asc hk h0 hn (zp 1) h1 (fun i j hij hj=>by rw[show i=j by omega];exact xy _) fun m m1 m2 m3 m4=>?_);dsimp only;by_cases c1:m=nr
 ·rw[if_pos (by simpa using c1)]
  exact wpS_pure (h m st m1 m2 .refl m3)
 rw[if_neg (by simpa using c1)];by_cases c2:m > 1
 ·rw[if_pos c2]
  refine wpS_bind (wpS_ltI hk h0 (by omega) (by omega) ?_);dsimp only;have e1:=m3 0 (m - 1) (by omega) (by omega);rw[show lo + (m - 1)=lo + m - 1 by omega,vY]at e1;have e2:=hd lo (lo + m - 1) (by omega) (by omega);rw[if_pos (decide_eq_true (by omega))];exact wpS_pure (h m st m1 m2 .refl m3)
 rw[if_neg c2];have m1':m=1:=by omega
 subst m1';refine wpS_bind (wpS_lift (wpAny_rule ⟨rfl,?_⟩));refine wpS_bind (wpS_mono (wpS_forRange (I:=fun x c st'=>st'=st/\c=(none,x,0)/\x<=nr/\∀ i j,i<=j->j < x->K (arrOf st) (lo + j)<=K (arrOf st) (lo + i)) (Q:=fun c st'=>st'=st/\∃ x,c=(none,x,0)/\2<=x/\x<=nr/\∀ i j,i<=j->j < x->K (arrOf st) (lo + j)<=K (arrOf st) (lo + i)) ?step ?fi ?init) ?post)
 case init =>
  refine⟨rfl,rfl,by omega,fun i j hij hj=>?_⟩
  have:=m4 (by omega)
  rw[show lo + 1 - 1=lo by omega]at this;by_cases e:i=j
  ·subst e
   exact xy _
  ·have i0:i=0:=by omega
   have j1:j=1:=by omega
   subst i0 j1;exact yW this
 case step =>
  rintro x c st' hx1 hx2 ⟨rfl,rfl,hx,s⟩;dsimp only;refine wpS_bind (wpS_ltI hk h0 (by omega) (by omega) ?_);dsimp only;by_cases e:K (arrOf st') (lo + x) < K (arrOf st') (lo + x - 1)
  ·rw[if_pos (decide_eq_true e),if_neg (by omega)]
   refine wpS_pure ⟨rfl,rfl,by omega,fun i j hij hj=>?_⟩;by_cases hj2:j < x
   ·exact s i j hij hj2
   ·have hjx:j=x:=by omega
    subst hjx;by_cases hi2:i=j
    ·subst hi2
     exact xy _
    ·have:=s i (j - 1) (by omega) (by omega)
     rw[show lo + (j - 1)=lo + j - 1 by omega]at this;omega
  ·rw[if_neg (by simpa using e)]
   refine wpS_bind (wpS_ltI hk h0 (by omega) (by omega) ?_);dsimp only
   have:=hd (lo + x - 1) (lo + x) (by omega) (by omega)
   rw[if_pos (decide_eq_true (by omega))];exact wpS_pure ⟨rfl,x,rfl,by omega,by omega,s⟩
 case fi =>
  rintro c st' ⟨rfl,rfl,hx,s⟩;exact⟨rfl,_,rfl,by omega,hx,s⟩
 case post =>
  rintro c st' ⟨rfl,x,rfl,x1,x2,s⟩;dsimp only;rw[if_neg (by omega)];refine wpS_bind (wpS_rev (by omega) fun st2 k2 e2=>?_);have sz:=k2.perm.size_eq;have s2:Sa (arrOf st2) lo x:=fun i j hij hj=>by
   rw[e2 _ (by omega) (by omega),e2 _ (by omega) (by omega)]
   have:=s (x - 1 - j) (x - 1 - i) (by omega) (by omega)
   rw[show lo + (lo + x) - 1 - (lo + i)=lo + (x - 1 - i) by omega,show lo + (lo + x) - 1 - (lo + j)=lo + (x - 1 - j) by omega];exact this
  refine wpS_bind (wpS_asc (k2.kind.trans hk) (ik_perm k2.perm h0) (by omega) (by omega) x2 s2 fun m m1 m2 m3 m4=>?_);exact wpS_pure (h m st2 (by omega) m2 (k2.wide (zp _) (by omega)) m3)
end
end L3
namespace L3
open PySem PyProof.Rows
theorem seg_same {a b:Array Keyed}{l k:Nat}(h:∀ i,l<=i->i < l + k->a[i]?=b[i]?):(a.toList.drop l).take k=(b.toList.drop l).take k:=by
 refine wm fun i=>?_;rw[vo,vo];by_cases hi:i < k
 ·rw[if_pos hi,if_pos hi,xb,xb,yk,yk]
  exact h _ (by omega) (by omega)
 ·rw[if_neg hi,if_neg hi]
theorem sg_of {a:Array Keyed}{lo n:Nat}(h:Sa a lo n)(hn:lo + n<=a.size):Sg a lo n:=by
 refine yz.mpr fun i j hi hj hij=>?_;rw[za]at hi hj;rw[yV,yV,yK,yK,K_list,K_list];exact h i j (by omega) (by omega)
noncomputable def Rn (ar:Array Keyed):List (Nat×Nat)->Nat->Nat->Prop
 | [],a,b=>a=b
 | (s,n)::l,a,b=>s=a/\0 < n/\Sg ar a n/\Rn ar l (a + n) b
noncomputable def pr (r:Nat×Nat×Nat):Nat×Nat:=(r.1,r.2.1)
theorem Rn.le {ar:Array Keyed}:∀ {l:List (Nat×Nat)} {a b:Nat},Rn ar l a b->a + l.length<=b
 | [],a,b,h=>by have:a=b:=h;simp;omega
 | (s,n)::l,a,b,h=>by
  have:=Rn.le h.2.2.2
  have:=h.2.1
  rw[zE];omega
theorem Rn.keep {ar ar':Array Keyed}:∀ {l:List (Nat×Nat)} {a b:Nat},(∀ lo k,a<=lo->lo + k<=b->(ar'.toList.drop lo).take k=(ar.toList.drop lo).take k)->Rn ar l a b->Rn ar' l a b
 | [],a,b,_,h=>h
 | (s,n)::l,a,b,e,h=>by
  have hl:=h.2.2.2.le;refine⟨h.1,h.2.1,?_,Rn.keep (fun lo k h1 h2=>e lo k (by omega) h2) h.2.2.2⟩;unfold Sg;rw[e a n (zp _) (by omega)];exact h.2.2.1
theorem Rn.snoc {ar:Array Keyed}:∀ {l:List (Nat×Nat)} {a b n:Nat},Rn ar l a b->0 < n->Sg ar b n->Rn ar (l++[(b,n)]) a (b + n)
 | [],a,b,n,h,h1,h2=>by
  have:a=b:=h
  subst this;exact⟨rfl,h1,h2,rfl⟩
 | (s,m)::l,a,b,n,h,h1,h2=>⟨h.1,h.2.1,h.2.2.1,Rn.snoc h.2.2.2 h1 h2⟩
theorem Rn.at {ar:Array Keyed}:∀ {l:List (Nat×Nat)} {a b:Nat} (i:Nat),Rn ar l a b->i + 1 < l.length->∃ s n m,l[i]?=some (s,n)/\l[i + 1]?=some (s + n,m)/\0 < n/\0 < m/\Sg ar s n/\Sg ar (s + n) m/\a<=s/\s + n + m<=b /\
  ∀ ar':Array Keyed,Sg ar' s (n + m)->(∀ lo k,lo + k<=s\/s + n + m<=lo->(ar'.toList.drop lo).take k=(ar.toList.drop lo).take k)->Rn ar' ((l.set i (s,n + m)).eraseIdx (i + 1)) a b
 | [],_,_,i,_,hi=>by simp at hi
 | [_],_,_,i,_,hi=>by simp at hi
 | (s,n)::(t,m)::l,a,b,0,h,_=>by
  obtain⟨rfl,n0,sa,h⟩:=h;obtain⟨rfl,m0,sb,h⟩:=h;have hl:=h.le;refine⟨s,n,m,rfl,rfl,n0,m0,sa,sb,zp _,by omega,fun ar' sg e=>⟨rfl,by omega,sg,?_⟩⟩;show Rn ar' l (s + (n + m)) b;rw[<- xi];exact h.keep fun lo k h1 h2=>e lo k (.inr h1)
 | (s,n)::x::l,a,b,i + 1,h,hi=>by
  obtain⟨rfl,n0,sa,h⟩:=h;obtain⟨s',n',m',e1,e2,n1,m1,sa',sb',h1,h2,h3⟩:=h.at i (by simpa using hi);refine⟨s',n',m',e1,e2,n1,m1,sa',sb',by omega,h2,fun ar' sg e=>⟨rfl,n0,?_,h3 ar' sg e⟩⟩;unfold Sg;rw[e s n (.inl (by omega))];exact sa
section
variable {prog:Program}{w:World}{A:Around}{E:Value->Shared->Prop}{s:Shared}{a₀:Array Keyed}
structure Tm (a₀:Array Keyed) (lo:Nat) (st:SortSt):Prop where
 perm:(arrOf st).Perm a₀
 kind:kindOf st=oneType'
 failed:failedOf st=none
 runs:Rn (arrOf st) ((pendingOf st).toList.map pr) 0 lo
theorem er_list (pe:Array (Nat×Nat×Nat))(i:Nat)(v:Nat×Nat×Nat):((pe.setIfInBounds i v).eraseIdxIfInBounds (i + 1)).toList.map pr=((pe.toList.map pr).set i (pr v)).eraseIdx (i + 1):=by
 rw[Array.toList_eraseIdxIfInBounds,wu,<- List.map_set];rw[xH,xH,zd,xP,we]
theorem pr_at {pe:Array (Nat×Nat×Nat)}{i s n:Nat}(h:(pe.toList.map pr)[i]?=some (s,n)):∃ pw,pe[i]?=some (s,n,pw):=by
 rw[zh,yk]at h;obtain⟨⟨x,y,z⟩,e,h⟩:=zg.mp h;obtain⟨rfl,rfl⟩:=Prod.mk.inj h;exact⟨z,e⟩
theorem wpS_mAt {st:SortSt}{lo i:Nat}{Q:Bool->SortSt->Prop}(h0:IntKeys a₀)(hT:Tm a₀ lo st)(hlo:lo<=a₀.size)(hi:i + 1 < (pendingOf st).size)
  (q:∀ st',Tm a₀ lo st'->(pendingOf st').size + 1=(pendingOf st).size->Q true st'):wpS (model prog w) A E s (mergeAt' i) Q st:=by
 obtain⟨s',n,m,e1,e2,n1,m1,sa,sb,h1,h2,h3⟩:=hT.runs.at i (by simpa using hi);obtain⟨pw,e1⟩:=pr_at e1;obtain⟨z,e2⟩:=pr_at e2;have sz:(arrOf st).size=a₀.size:=hT.perm.size_eq;refine wpS_mergeAt hT.kind hT.failed (ik_perm hT.perm h0) e1 e2 n1 m1 (by omega) sa sb fun st' k f p pm sg o=>?_;refine q st' ⟨pm.trans hT.perm,k,f,?_⟩ ?_
 ·rw[p,er_list]
  exact h3 _ sg o
 ·have e:=congrArg List.length (er_list (pendingOf st) i (s',n + m,pw))
  rw[<- p,zw,List.length_eraseIdx,yD,zw]at e;simp only[zK]at e;rw[if_pos hi]at e;omega
theorem wpS_of {α:Type}{m m':StateT SortSt Sem α}{Q:α->SortSt->Prop}{st:SortSt}(e:m=m')(h:wpS (model prog w) A E s m' Q st):wpS (model prog w) A E s m Q st:=e ▸ h
noncomputable def addRun (sz lo n:Nat):StateT SortSt Sem (ForInStep (Option Unit×Nat)):=do
 let g <- get
 match (pendingOf g).back? with
 | some (s1,n1,_) =>
  let c <- forIn [0:sz] ((none,()):Option Unit×Unit) fun _ _=>do
   let g <- get
   match (if (pendingOf g).size > 1 then (pendingOf g)[(pendingOf g).size - 2]? else none) with
   | some (_,_,ol) =>
    if ol<=power' sz (2 * s1 + n1) (2 * s1 + n1 + n1 + n) sz then pure (ForInStep.done (none,()))
    else
     let b <- mergeAt' ((pendingOf g).size - 2)
     if (!b)=true then pure (ForInStep.done (some (),())) else pure (ForInStep.yield (none,()))
   | _=>pure (ForInStep.done (none,()))
  match c.1 with
  | some r=>pure (ForInStep.done (some r,lo))
  | none =>
   modify fun s=>setPending s ((pendingOf s).modify ((pendingOf s).size - 1) fun x=>(x.1,x.2.1,power' sz (2 * s1 + n1) (2 * s1 + n1 + n1 + n) sz))
   modify fun s=>setPending s ((pendingOf s).push (lo,n,0))
   pure (ForInStep.yield (none,lo + n))
 | _ =>
  modify fun s=>setPending s ((pendingOf s).push (lo,n,0))
  pure (ForInStep.yield (none,lo + n))
theorem pr_mod (pe:Array (Nat×Nat×Nat))(i z:Nat):(pe.modify i fun x=>(x.1,x.2.1,z)).toList.map pr=pe.toList.map pr:=by
 rw[Array.toList_modify];refine wm fun j=>?_;rw[zh,zh,List.getElem?_modify];split
 ·cases pe.toList[j]? <;> rfl
 ·cases pe.toList[j]? <;> rfl
theorem wpS_addRun {st:SortSt}{lo n:Nat}{Q:ForInStep (Option Unit×Nat)->SortSt->Prop}(h0:IntKeys a₀)(hT:Tm a₀ lo st)(hn:0 < n)(hlo:lo + n<=a₀.size)(hs:Sg (arrOf st) lo n)
  (q:∀ st',Tm a₀ (lo + n) st'->Q (.yield (none,lo + n)) st'):wpS (model prog w) A E s (addRun a₀.size lo n) Q st:=by
 have push:∀ st',Tm a₀ lo st'->Sg (arrOf st') lo n->Tm a₀ (lo + n) (setPending st' ((pendingOf st').push (lo,n,0))):=fun st' T sg=>⟨T.perm,T.kind,T.failed,by
  show Rn (arrOf st') (((pendingOf st').push (lo,n,0)).toList.map pr) 0 (lo + n);rw[xp,zd];exact T.runs.snoc hn sg⟩
 unfold addRun;refine wpS_bind (wpS_get ?_);cases hb:(pendingOf st).back? with
 | none=>exact wpS_bind (wpS_modify (wpS_pure (q _ (push st hT hs))))
 | some v =>
  obtain⟨s1,n1,z⟩:=v;dsimp only;generalize power' a₀.size (2 * s1 + n1) (2 * s1 + n1 + n1 + n) a₀.size=pw;refine wpS_bind (wpS_mono (wpS_forRange (I:=fun x c st'=>c=(none,())/\Tm a₀ lo st'/\Sg (arrOf st') lo n) (Q:=fun c st'=>c=(none,())/\Tm a₀ lo st'/\Sg (arrOf st') lo n) ?step (fun _ _ h=>h) ⟨rfl,hT,hs⟩) ?post)
  case step =>
   rintro x c st' _ _ ⟨rfl,T,sg⟩;refine wpS_bind (wpS_get ?_);by_cases c1:(pendingOf st').size > 1
   ·rw[if_pos c1]
    have e:(pendingOf st')[(pendingOf st').size - 2]?=some (pendingOf st')[(pendingOf st').size - 2]:=getElem?_pos _ _ (by omega);rw[e];generalize (pendingOf st')[(pendingOf st').size - 2]=v;obtain⟨v1,v2,v3⟩:=v;dsimp only;split
    ·exact wpS_pure ⟨rfl,T,sg⟩
    ·obtain⟨s',n',m',e1,e2,n1,m1,sa,sb,h1,h2,h3⟩:=T.runs.at ((pendingOf st').size - 2) (by simp;omega)
     obtain⟨pw,e1⟩:=pr_at e1;obtain⟨z,e2⟩:=pr_at e2;have sz:(arrOf st').size=a₀.size:=T.perm.size_eq;refine wpS_bind (wpS_mergeAt T.kind T.failed (ik_perm T.perm h0) e1 e2 n1 m1 (by omega) sa sb fun st2 k f p pm sg2 o=>?_);refine wpS_pure ⟨rfl,⟨pm.trans T.perm,k,f,?_⟩,?_⟩
     ·rw[p,er_list]
      exact h3 _ sg2 o
     ·unfold Sg
      rw[o lo n (.inr h2)];exact sg
   ·rw[if_neg c1]
    exact wpS_pure ⟨rfl,T,sg⟩
  case post =>
   rintro c st' ⟨rfl,T,sg⟩;dsimp only;refine wpS_bind (wpS_modify (wpS_bind (wpS_modify (wpS_pure (q _ (push _ ⟨T.perm,T.kind,T.failed,?_⟩ sg))))));show Rn (arrOf st') (((pendingOf st').modify _ _).toList.map pr) 0 lo;rw[pr_mod];exact T.runs
theorem wpS_sortAll {st:SortSt}{Q:Unit->SortSt->Prop}(h0:IntKeys a₀)(hd:Dt a₀)(hB:SBase a₀ st)(h2:2<=a₀.size)
  (h:∀ st',(arrOf st').Perm a₀->failedOf st'=none->SortedTo (arrOf st') a₀.size->Q () st'):wpS (model prog w) A E s sortRuns' Q st:=by
 rw[sortRuns'_eq];refine wpS_bind (wpS_get ?_);dsimp only;simp only[hB.size];generalize minRun' a₀.size a₀.size 0=mr;have T0:Tm a₀ 0 st:=⟨hB.perm,hB.kind,hB.failed,by rw[hB.pend];exact rfl⟩;refine wpS_bind (wpS_mono (wpS_forRange (I:=fun x c st'=>∃ lo,c=(none,lo)/\Tm a₀ lo st'/\lo<=a₀.size/\(x<=lo\/lo=a₀.size)) (Q:=fun c st'=>c=(none,a₀.size)/\Tm a₀ a₀.size st') ?step ?fi ⟨0,rfl,T0,by omega,.inl (zp _)⟩) ?post)
 case step =>
  rintro x c st' _ hx ⟨lo,rfl,T,l1,l2⟩;dsimp only;by_cases c1:lo ≥ a₀.size
  ·rw[if_pos c1]
   have:lo=a₀.size:=by omega
   subst this;exact wpS_pure ⟨rfl,T⟩
  rw[if_neg c1];have sz:(arrOf st').size=a₀.size:=T.perm.size_eq;have hI:=ik_perm T.perm h0;refine wpS_bind (wpS_count T.kind hI (dt_perm T.perm hd) (by omega) (by omega) fun m st2 m1 m2 k2 s2=>?_);dsimp only;have sz2:(arrOf st2).size=a₀.size:=k2.perm.size_eq.trans sz;have old:∀ {st3:SortSt} {hi:Nat},Ks lo hi st' st3->Tm a₀ lo st3:=fun {st3 hi} k=>⟨k.perm.trans T.perm,k.kind.trans T.kind,k.failed.trans T.failed,by
   rw[k.pend];exact T.runs.keep fun l k' h1 h2=>seg_same fun i h3 h4=>k.out i (.inl (by omega))⟩
  have go:∀ (n:Nat) (st3:SortSt),Tm a₀ lo st3->0 < n->lo + n<=a₀.size->Sg (arrOf st3) lo n->wpS (model prog w) A E s (addRun a₀.size lo n) (fun r st'=>match r with
    | .done c'=>c'=(none,a₀.size)/\Tm a₀ a₀.size st'
    | .yield c'=>∃ lo,c'=(none,lo)/\Tm a₀ lo st'/\lo<=a₀.size/\(x + 1<=lo\/lo=a₀.size)) st3:=fun n st3 T3 n0 nl sg =>
   wpS_addRun h0 T3 n0 nl sg fun st4 T4=>⟨_,rfl,T4,nl,by omega⟩
  by_cases c2:m < mr
  ·rw[if_pos c2]
   refine wpS_bind (wpS_lift (wpAny_rule ⟨rfl,?_⟩));refine wpS_bind (wpS_binS (k2.kind.trans T.kind) (ik_perm k2.perm hI) (by omega) (by omega) s2 fun st3 k3 s3=>?_);rw[if_neg (by simp)];have k23:=k2.trans (k3.wide (zp _) (show lo + min (a₀.size - lo) mr<=lo + (a₀.size - lo) by omega));refine wpS_of (m':=addRun a₀.size lo (min (a₀.size - lo) mr)) (bd_eq rfl fun g=>by
    cases (pendingOf g).back? with
    | none=>rfl
    | some v =>
     obtain⟨v1,v2,v3⟩:=v;refine bd_eq (for_eq fun _ _=>bd_eq rfl fun g=>?_) fun c=>?_
     ·generalize (if (pendingOf g).size > 1 then (pendingOf g)[(pendingOf g).size - 2]? else none)=o
      cases o with
      | none=>rfl
      | some v=>rfl
     ·obtain⟨c1,c2⟩:=c
      cases c1 with
      | none=>rfl
      | some r=>rfl) (wpS_mono (go (min (a₀.size - lo) mr) st3 (old k23) (by omega) (by omega) (sg_of s3 ?_)) fun r st4 z=>?_)
   ·have:=k3.perm.size_eq
    omega
   ·cases r <;> exact z
  ·rw[if_neg c2]
   refine wpS_of (m':=addRun a₀.size lo m) (bd_eq rfl fun g=>by
    cases (pendingOf g).back? with
    | none=>rfl
    | some v =>
     obtain⟨v1,v2,v3⟩:=v;refine bd_eq (for_eq fun _ _=>bd_eq rfl fun g=>?_) fun c=>?_
     ·generalize (if (pendingOf g).size > 1 then (pendingOf g)[(pendingOf g).size - 2]? else none)=o
      cases o with
      | none=>rfl
      | some v=>rfl
     ·obtain⟨c1,c2⟩:=c
      cases c1 with
      | none=>rfl
      | some r=>rfl) (wpS_mono (go m st2 (old k2) (by omega) (by omega) (sg_of s2 (by omega))) fun r st4 z=>?_)
   cases r <;> exact z
 case fi =>
  rintro c st' ⟨lo,rfl,T,l1,l2⟩
  have:lo=a₀.size:=by omega
  subst this;exact⟨rfl,T⟩
 case post =>
  rintro c st' ⟨rfl,T⟩;dsimp only;have pl:∀ st2,Tm a₀ a₀.size st2->(pendingOf st2).size<=a₀.size:=fun st2 T2=>by
   have:=T2.runs.le
   simpa using this
  refine wpS_bind (wpS_mono (wpS_forRange (I:=fun x c st2=>c=(none,())/\Tm a₀ a₀.size st2/\((pendingOf st2).size + x<=a₀.size\/(pendingOf st2).size<=1)) (Q:=fun c st2=>c=(none,())/\Tm a₀ a₀.size st2/\(pendingOf st2).size<=1) ?step ?fi ⟨rfl,T,.inl (pl _ T)⟩) ?post)
  case step =>
   rintro x c st2 _ hx ⟨rfl,T2,hp⟩;refine wpS_bind (wpS_get ?_);by_cases c1:(pendingOf st2).size<=1
   ·rw[if_pos c1]
    exact wpS_pure ⟨rfl,T2,c1⟩
   rw[if_neg c1];refine wpS_bind (wpS_mAt h0 T2 (zp _) ?_ fun st3 T3 e3=>wpS_pure ⟨rfl,T3,by omega⟩);by_cases c2:(pendingOf st2).size - 2 > 0
   ·rw[if_pos c2]
    split
    ·omega
    ·omega
   ·rw[if_neg c2,if_neg (by simp)]
    omega
  case fi =>
   rintro c st2 ⟨rfl,T2,hp⟩;exact⟨rfl,T2,by omega⟩
  case post =>
   rintro c st2 ⟨rfl,T2,hp⟩;refine wpS_pure (h st2 T2.perm T2.failed ?_);have sz:(arrOf st2).size=a₀.size:=T2.perm.size_eq;have hr:=T2.runs;have hl:((pendingOf st2).toList.map pr).length<=1:=by simpa using hp
   generalize (pendingOf st2).toList.map pr=l at hr hl;match l,hr,hl with
   | [],hr,_ =>
    have:0=a₀.size:=hr
    omega
   | [(s1,n1)],hr,_ =>
    obtain⟨rfl,n0,sg,e⟩:=hr;have e:0 + n1=a₀.size:=e;intro i j hij hj
    have:=sg.mono hij (show j < n1 by omega) (by omega)
    rwa [yP,yP]at this
end
end L3
namespace L3
open PySem PyProof.Rows
theorem dt_pairs {vs:List Value}{ns:List Int}(hI:IntsAre vs ns)(nd:ns.Nodup):Dt (pairsOf vs):=by
 rw[dt_iff,pairsOf_toList];have e:(vs.zip vs).map nk=vs.map numOf:=by
  have:∀ l:List Value,(l.zip l).map nk=l.map numOf:=fun l=>by
   induction l with
   | nil=>rfl
   | cons x l ih=>rw[List.zip_cons_cons,zH,zH,ih];rfl
  exact this vs
 rw[e,hI.nums];exact nd
section
variable {prog:Program}{w:World}{A:Around}{E:Value->Shared->Prop}{s:Shared}
theorem list_sort_big {a:Addr}{vs:List Value}{ns:List Int}{n:Nat}{P:PySem.Fin->Shared->Prop}(ho:s.heap.get? a=some (seqObj "list" vs.toArray n))(hI:IntsAre vs ns)(nd:ns.Nodup)(h2:2<=vs.length)(hb:vs.length<=zn)
  (h:∀ (out:Array Value) (ns':List Int),IntsAre out.toList ns'->ns'.Perm ns->ns'.Pairwise (·<=·)->P (.done (.ret .none)) { s with heap:=sortedHeap s.heap a vs out }):wpAny (model prog w) A (Builtin.«list.sort» ⟨[.ref a],[]⟩) P E s:=by
 have ha:a < s.heap.objs.size:=zi ho;obtain⟨e1,ho1⟩:∃ e1,(s.heap.update a (Obj.mapSeq fun _=>(#[]:Array Value))).get? a=some (seqObj "list" #[] e1):=⟨_,get?_update_seq ho fun _=>#[]⟩;have ho6:(((s.heap.update a (Obj.mapSeq fun _=>(#[]:Array Value))).push (seqObj "tuple" vs.toArray 0)).push (seqObj "list" #[] 0)).get? a=some (seqObj "list" #[] e1):=by
  rw[wl _ _ _ (by rw[size_push',vE];exact zB (xE ha)),wl _ _ _ (by rw[vE];exact zB ha)];exact ho1
 rw[list_sort_plain];refine zz (listItems_at ho rfl ?_);refine zz (listUpdate_at ho rfl ?_ (by rw[zm];exact hb) (zV _));refine zz (seqEpoch_at ho1 rfl ?_);refine zz (wpAny_newTuple ?_ (by show vs.length<=_;exact hb));refine zz (wpAny_newList ?_ (zV _));refine wpAny_holding ?_;show wpAny (model prog w) A _ P E { s with heap:=((s.heap.update a (Obj.mapSeq fun _=>(#[]:Array Value))).push (seqObj "tuple" vs.toArray 0)).push (seqObj "list" #[] 0) };dsimp only;have hn2:¬ vs.toArray.size < 2:=by rw[zm];omega
 rw[if_neg hn2,if_neg hn2];have hk:keyKind' vs.toArray=pure oneType':=by
  match vs,h2,hI with
  | v₁::v₂::r,_,hI=>exact keyKind_ints hI
 rw[hk];refine zz (zu ?_);refine zz (wpAny_mono (wpS_sortAll (a₀:=pairsOf vs) (st:=SortSt.mk' oneType' (vs.toArray.zip vs.toArray) #[] 7 none) (Q:=fun _ st'=>(arrOf st').Perm (pairsOf vs)/\failedOf st'=none/\SortedTo (arrOf st') (pairsOf vs).size) hI.intKeys (dt_pairs hI nd) ⟨Array.Perm.refl _,rfl,rfl,rfl⟩ (by rw[pairsOf_size];exact h2) fun st' a1 a2 a3=>⟨a1,a2,a3⟩) ?_ fun _ _ e=>e);rintro ⟨⟨⟩,st'⟩ s' ⟨rfl,hp,hf,hs⟩;dsimp only;have hz:((arrOf st').map fun x=>x.2).size<=zn:=by
  rw[Array.size_map,hp.size_eq,pairsOf_size];exact hb
 refine zz (seqEpoch_at ho6 rfl ?_);refine zz (listUpdate_at ho6 rfl ?_ (zV _) (wn hz));rw[hf];simp only[bne_self_eq_false,yo,if_false];obtain⟨ns',q1,q2,q3⟩:=sorted_out hI hp hs;exact zu (h _ ns' q1 q2 q3)
end
end L3
namespace L3
open PySem PySem.Spec PyProof.Rows L2
noncomputable def sortD (ds:List D):Option (List D):=match allI ds with
 | some ns=>if ns.Nodup then some ((sortI ns).map .int) else none
 | none=>none
theorem sortD_int {ns:List Int}(h:ns.Nodup):sortD (ns.map .int)=some ((sortI ns).map .int):=by
 unfold sortD;rw[allI_map];dsimp only;rw[if_pos h]
section
variable {X:Cx}{pins:List (Addr×Obj)}{σ:St}{H:Hp}{s:Shared}{ι:List Addr}
theorem ofIntsA:∀ {xs:List Int} {us:List Value},IntsAre us xs->Vals (xs.map V.int) us/\Reps X.K ι H (xs.map .int) (xs.map V.int)
 | _,_,.nil=>⟨.nil,.nil⟩
 | _,_,.cons x t h=>⟨.cons ⟨t,rfl⟩ (ofIntsA h).1,.cons (.int x) (ofIntsA h).2⟩
theorem sort_tracked {A:Around}{E:Value->Shared->Prop}(I:Inv X pins σ H s){l:Addr}{vs:List V}{ds ys:List D}(hl:H l=some (.lst vs))(r:Reps X.K ι H ds vs)(hs:sortD ds=some ys){Q:Value->Shared->Prop}
  (q:∀ (ws:List V) (s':Shared),Reps X.K ι H ys ws->Inv X pins σ (upd H l (.lst ws)) s'->Q .none s'):wpAny (model X.prog X.w) A (call (.builtin "list.sort") [.ref l]) Q E s:=by
 obtain⟨hz,its,n,rv,hg⟩:=I.hok l _ hl;refine wpAny_call_entry slot_list_sort ⟨_,hg,rfl⟩ entry_list_sort ?_ (args_list_sort _);unfold sortD at hs;split at hs
 ·rename_i xs hx
  split at hs
  ·rename_i nd
   cases hs;have ex:=allI_eq hx;subst ex;have hS:=intsA r rv;have hlen:xs.length=its.length:=by rw[<- rv.length,<- r.length,zw]
   have fin:∀ (out:Array Value) (ns':List Int),IntsAre out.toList ns'->ns'.Perm xs->ns'.Pairwise (·<=·)->∃ v,Fin.done (.ret .none)=Fin.done (.ret v)/\Q v { s with heap:=sortedHeap s.heap l its out }:=fun out ss' h1 h2 h3=>by
    have e:=sortI_uniq h2 h3;subst e;obtain⟨g1,g2⟩:=ofIntsA (X:=X) (H:=H) (ι:=ι) h1;obtain⟨c,hc⟩:=sortedHeap_at (out:=out) hg;refine⟨_,rfl,q _ _ g2 (I.write (x:=l) (e:=l) (t':=s.toks) (by rw[hl];trivial) (.inl rfl) (fun b o hb e=>by rw[sortedHeap_old hb (zi e)];exact e) ⟨_,hc⟩ ⟨?_,_,c,g1,hc⟩)⟩;rw[zw,(sortI_perm xs).length_eq,hlen,<- rv.length];exact hz
   by_cases h64:its.length < 64
   ·exact list_sort_tree hg hS h64 fin
   ·exact list_sort_big hg hS nd (by omega) (by rw[<- rv.length];exact hz) fin
  ·cases hs
 ·cases hs
end
section
variable {X:Cx}{pins:List (Addr×Obj)}{σ:St}{H:Hp}{s:Shared}
theorem Inv.drew (I:Inv X pins σ H s)(d:Drawn):Inv X pins σ H { s with drawn:=d }:=by
 cases I
 constructor <;> assumption
theorem ints_of:∀ {ds:List D} {vs:List V} {us:List Value} {xs:List Int} {ι:List Addr},Reps X.K ι H ds vs->Vals vs us->allI ds=some xs->IntsAre us xs:=fun r g h=>by
 have:=allI_eq h
 subst this;exact intsA r g
theorem addAll_nodup:∀ (ys xs:List Int),xs.Nodup->(addAll xs ys).Nodup
 | [],_,h=>h
 | y::ys,xs,h=>addAll_nodup ys _ (by
  unfold addS;split
  ·exact h
  ·rename_i hy
   exact wk.mpr ⟨h,by simp,fun a ha b hb=>by rw[zJ.mp hb];exact fun e=>hy (e ▸ ha)⟩)
noncomputable def rSet (X:Cx):List V->Hp->VK->Prop:=fun xs H Q=>∃ p vs ι ds ts,xs=[.ref p]/\SqL X.K H p vs/\Reps X.K ι H ds vs/\allI ds=some ts/\(addAll [] ts).length < 4000/\∀ q,H q=none->Q (.ref q) (upd H q (.ext fun h=>SSet X.prog X.w h q (addAll [] ts) (ledOf X.w)))
theorem call_setS (hc:X.calm=true):CallR X (.type "set") (rSet X):=by
 intro pins s σ H xs us Q I rv h;obtain⟨p,vs,ι,ds,ts,rfl,hp,r,ha,hz,k⟩:=h;obtain⟨u,rfl,ru⟩:=vals1 rv;cases ru;obtain⟨its,rel,pl,hl⟩:=I.list hp;have hst:=ints_of r rel ha;refine call_set_strs (I.ok.hd hc) pl.isList hst (by unfold scanBound;omega) fun h' tk hS kk=>?_;refine⟨.ref s.heap.objs.size,_,I.laid (t':=tk) (o:=.ext fun h=>SSet X.prog X.w h s.heap.objs.size (addAll [] ts) (ledOf X.w)) kk (zp _) ?_,rfl,k _ (I.hok.fresh (zp _))⟩;exact⟨hS,by obtain⟨o,_,_,_,e,_⟩:=hS;exact⟨o,e⟩,fun h1 h2 x k=>x.at k⟩
theorem call_sortedS (hc:X.calm=true):CallR X (.builtin "sorted") (fun xs H Q=>∃ p ts ι M,xs=[.ref p]/\H p=some (.ext fun h=>SSet X.prog X.w h p ts (ledOf X.w))/\Sim X.K ι M H/\ts.length < 4000/\ts.Nodup /\
  ∀ v H' ι',Rep X.K ι' H' (.ob M.length) v->Sim X.K ι' (M++[.lst ((sortI ts).map .int)]) H'->Ext X.K ι H ι' H'->Q v H'):=by
 intro pins s σ H xs us Q I rv h;obtain⟨p,ts,ι,M,rfl,hp,S,h64,nd,k⟩:=h;obtain⟨u,rfl,ru⟩:=vals1 rv;cases ru;obtain⟨hS,_,_⟩:=I.hok p _ hp;refine Calls.call_function_entry kind_sorted plain_sorted entry_sorted (args_sorted1 _) ?_;unfold Builtin.«sorted»;refine zz (m:=checkCount "sorted" 1 1 _) (zu ?_);refine zz (collect_set (A:=X.A.in1) (I.ok.hd hc) hS fun h' tk d vs ys kk hst hperm=>?_);have I1:Inv X pins σ H { s with heap:=h',toks:=tk,drawn:=d }:=Inv.drew (I.kept (t':=tk) kk) d;obtain⟨g1,g2⟩:=ofIntsA (X:=X) (H:=H) (ι:=ι) hst;have ly:ys.length < 4000:=by rw[hperm.length_eq];exact h64
 have lv:vs.length=ys.length:=by rw[<- g1.length,zw]
 have hz:(ys.map V.int).length<=zn:=by rw[zw,sizeLine_eq];omega
 refine zz (wpAny_newList ?_ (by rw[lv,sizeLine_eq];omega));have fr:H h'.objs.size=none:=I1.hok.fresh (zp _);have I3:Inv X pins σ (upd H h'.objs.size (.lst (ys.map V.int))) { s with heap:=h'.push { cls:=.type "list",data:=.seq vs.toArray },toks:=tk,drawn:=d } :=
  I1.laid (t':=tk) (fun b o e=>zv _ e) (zp _) ⟨hz,vs,0,g1,zj _ rfl⟩
 have R3:=g2.mono (Ext.tupN (K:=X.K) (ι:=ι) (ho:=.lst (ys.map V.int)) fr);refine zz (wpAny_holding (sort_tracked (ι:=ι) I3 upd_same R3 (sortD_int (hperm.nodup_iff.mpr nd)) fun ws' s' hr hI=>?_));refine zu ⟨_,rfl,?_⟩;rw[upd_upd]at hI;rw[sortI_same hperm]at hr;have X4:Ext X.K ι H (ι++[h'.objs.size]) (upd H h'.objs.size (.lst ws')):=Ext.new fr;have W:Ext X.K ι (upd H h'.objs.size (.lst (ys.map V.int))) ι (upd (upd H h'.objs.size (.lst (ys.map V.int))) h'.objs.size (.lst ws')):=Ext.write upd_same (mut_l _);rw[upd_upd]at W;have R4:Reps X.K (ι++[h'.objs.size]) (upd H h'.objs.size (.lst ws')) ((sortI ts).map .int) ws':=hr.mono { W with pre:=fun i b e=>(by rw[zF (zr.mp e).1];exact e) };exact⟨.ref h'.objs.size,_,hI,rfl,k _ _ _ (.ob (by rw[<- S.len,ze (zp _),yT];rfl)) (S.new fr ⟨ws',rfl,R4⟩) X4⟩
theorem call_sortedL:CallR X (.builtin "sorted") (fun xs H Q=>∃ p vs ι M ds ys,xs=[.ref p]/\SqL X.K H p vs/\Sim X.K ι M H/\Reps X.K ι H ds vs/\sortD ds=some ys /\
  ∀ v H' ι',Rep X.K ι' H' (.ob M.length) v->Sim X.K ι' (M++[.lst ys]) H'->Ext X.K ι H ι' H'->Q v H'):=by
 intro pins s σ H xs us Q I rv h;obtain⟨p,vs,ι,M,ds,ys,rfl,hp,S,r,hs,k⟩:=h;obtain⟨u,rfl,ru⟩:=vals1 rv;cases ru;obtain⟨its,rel,pl,hz⟩:=I.list hp;have hl:its.length<=zn:=by rw[<- rel.length];exact hz
 refine Calls.call_function_entry kind_sorted plain_sorted entry_sorted (args_sorted1 _) ?_;unfold Builtin.«sorted»;refine zz (m:=checkCount "sorted" 1 1 _) (zu ?_);refine zz (collect_list pl.isList ?_ hl);generalize hh:(s.heap.push (seqObj "list" #[] 0)).update s.heap.objs.size (Obj.mapSeq (·++its.toArray))=h';have keep:∀ b o,s.heap.get? b=some o->h'.get? b=some o:=fun b o q=>by
  have hlt:b < s.heap.objs.size:=zi q;rw[<- hh,Heap.get?_update_ne _ _ _ _ (zB hlt),wl _ _ _ (zB hlt)];exact q
 have I1:Inv X pins σ H { s with heap:=h' }:=I.kept (t':=s.toks) keep;refine zz (wpAny_newList ?_ hl);have fr:H h'.objs.size=none:=I1.hok.fresh (zp _);have I3:Inv X pins σ (upd H h'.objs.size (.lst vs)) { s with heap:=h'.push { cls:=.type "list",data:=.seq its.toArray } } :=
  I1.laid (t':=s.toks) (fun b o e=>zv _ e) (zp _) ⟨hz,its,0,rel,zj _ rfl⟩
 have R3:=r.mono (Ext.tupN (ho:=.lst vs) fr);refine zz (wpAny_holding (sort_tracked (ι:=ι) I3 upd_same R3 hs fun ws' s' hr hI=>?_));refine zu ⟨_,rfl,?_⟩;rw[upd_upd]at hI;have X4:Ext X.K ι H (ι++[h'.objs.size]) (upd H h'.objs.size (.lst ws')):=Ext.new fr;have W:Ext X.K ι (upd H h'.objs.size (.lst vs)) ι (upd (upd H h'.objs.size (.lst vs)) h'.objs.size (.lst ws')):=Ext.write upd_same (mut_l _);rw[upd_upd]at W;have R4:Reps X.K (ι++[h'.objs.size]) (upd H h'.objs.size (.lst ws')) ys ws':=hr.mono { W with pre:=fun i b e=>(by rw[zF (zr.mp e).1];exact e) };exact⟨.ref h'.objs.size,_,hI,rfl,k _ _ _ (.ob (by rw[<- S.len,ze (zp _),yT];rfl)) (S.new fr ⟨ws',rfl,R4⟩) X4⟩
end
theorem srt_l {Γ:Ctx}(hs:Γ.srt=sortD):SrtL Γ:=by
 intro S X f a p1 p4 fa C h hp ha;simp only[zk,beq_iff_eq]at h;obtain⟨⟨⟨h1,h2⟩,h3⟩,h4⟩:=h;subst h1;obtain⟨o1,o2,o3⟩:=okName_debug h2;refine PE.imp (pe_callB (call_sortedL) (C.glo h3) (C.bls _ (mem_of_contains h4)) PyProof.Rows.boot_sorted (pa_cons ha pa_nil (star_plain hp)) o3 o1 (star_plain hp) rfl) fun σ H Q q=>?_;obtain⟨ι,ρ,M,d,M',S',R,e,k⟩:=q;obtain⟨x,M1,e1,ea⟩:=bind_ok e;obtain⟨ds,M2,e2,eb⟩:=bind_ok ea;obtain⟨ys,M3,e3,ec⟩:=bind_ok eb;obtain⟨hy,hM3⟩:=lift_ok e3;rw[hM3]at ec;refine⟨ι,ρ,M,x,M1,S',R,e1,fun v1 H1 ι1 r1 S1 X1=>?_⟩;have fact:M2=M1/\∃ p vs,v1=.ref p/\SqL X.K H1 p vs/\Reps X.K ι1 H1 ds vs:=by
  cases r1 with
  | fl t q=>obtain⟨rfl,rfl⟩:=pure_ok e2;exact⟨rfl,_,_,rfl,t.seq,q⟩
  | ob t =>
   obtain⟨g,rfl⟩:=getL_ok e2;obtain⟨p,ws,g1,g2,g3,g4⟩:=sim_list S1 (.ob t) g;exact⟨rfl,p,ws,g1,SqL.of g3,g4⟩
  | _=>exact(stop_ok e2).elim
 obtain⟨rfl,p,vs,rfl,hq,hr⟩:=fact;obtain⟨rfl,rfl⟩:=newM_ok ec;exact⟨p,vs,ι1,_,ds,ys,rfl,hq,S1,hr,by rw[<- hs];exact hy,fun v H' ι' r' S'' X'=>k v H' ι' r' S'' (X1.trans X')⟩
theorem srt_s {Γ:Ctx}:SrtS Γ:=by
 intro S X f b p1 p2 p3 p4 fb C h hp ha;simp only[zk,beq_iff_eq]at h;obtain⟨⟨⟨⟨h1,h2⟩,h3⟩,h4⟩,h5,h6⟩:=h;subst h1;obtain⟨o1,o2,o3⟩:=okName_debug h2;have ps:=pe_callTy (X:=X) (p:=p2) (pos:=p3) (call_setS C.calm) (C.glo h5) (C.bls _ (mem_of_contains h6)) PyProof.Rows.boot_set (pa_cons ha pa_nil (star_plain hp)) (by decide) (by decide) (star_plain hp) rfl;refine PE.imp (pe_callB (call_sortedS C.calm) (C.glo h3) (C.bls _ (mem_of_contains h4)) PyProof.Rows.boot_sorted (pa_cons ps pa_nil) o3 o1) fun σ H Q q=>?_;obtain⟨ι,ρ,M,d,M',S',R,e,k⟩:=q;obtain⟨x,M1,e1,e⟩:=bind_ok e;refine⟨ι,ρ,M,x,M1,S',R,e1,fun v1 H1 ι1 r1 S1 X1=>?_⟩;obtain⟨ds,M2,e2,ea⟩:=bind_ok e;have fact:M2=M1/\∃ p vs,v1=.ref p/\SqL X.K H1 p vs/\Reps X.K ι1 H1 ds vs:=by
  cases r1 with
  | fl t q=>obtain⟨rfl,rfl⟩:=pure_ok e2;exact⟨rfl,_,_,rfl,t.seq,q⟩
  | ob t =>
   obtain⟨g,rfl⟩:=getL_ok e2;obtain⟨p,ws,g1,g2,g3,g4⟩:=sim_list S1 (.ob t) g;exact⟨rfl,p,ws,g1,SqL.of g3,g4⟩
  | _=>exact(stop_ok e2).elim
 obtain⟨rfl,p,vs,rfl,hq,hr⟩:=fact;obtain⟨xs,M3,e3,eb⟩:=bind_ok ea;obtain⟨hx,rfl⟩:=lift_ok e3;obtain⟨_,M4,e4,ec⟩:=bind_ok eb;obtain⟨hn,rfl⟩:=need_ok e4;obtain⟨rfl,rfl⟩:=newM_ok ec;refine⟨p,vs,ι1,ds,xs,rfl,hq,hr,hx,hn,fun q' hq'=>?_⟩;have X2:Ext X.K ι1 H1 ι1 (upd H1 q' (.ext fun h=>SSet X.prog X.w h q' (addAll [] xs) (ledOf X.w))):=Ext.tupN hq';exact⟨q',addAll [] xs,ι1,_,rfl,upd_same,S1.tupN hq',hn,addAll_nodup _ _ wU,fun v H' ι' r' S'' X'=>k v H' ι' r' S'' ((X1.trans X2).trans X')⟩
theorem srt_i {Γ:Ctx}(_:Γ.srt=sortD):SrtI Γ:=trivial
theorem srt_d {Γ:Ctx}:SrtD Γ:=trivial
theorem srt_t {Γ:Ctx}(_:Γ.srt=sortD):SrtT Γ:=trivial
theorem srt_ok {Γ:Ctx}(hs:Γ.srt=sortD):SrtOk Γ:=⟨srt_i hs,srt_l hs,srt_s,srt_d,srt_t hs⟩
end L3
namespace L3
open PySem PySem.Spec PySem.Calls PyProof.Rows L2
noncomputable def heapK (h:Heap):PySem.W.Frag:=(List.range h.objs.size).filterMap fun a=>(h.get? a).map fun o=>(a,o)
theorem look_fm {h:Heap}{a:Addr}:∀ l:List Nat,(l.filterMap fun a=>(h.get? a).map fun o=>(a,o)).lookup a=if a∈l then h.get? a else none
 | []=>rfl
 | b::l=>by
  rw[yM];by_cases e:a=b
  ·subst e
   rw[if_pos (zU ..)];cases g:h.get? a with
   | none =>
    simp only[vM];rw[look_fm l,g];split <;> rfl
   | some o=>simp only[xf,List.lookup_cons_self]
  ·have hb:(a==b)=false:=by simpa using e
   have hm:(a∈b::l)=(a∈l):=by simp[e]
   simp only[hm];cases g:h.get? b with
   | none=>simp only[vM];exact look_fm l
   | some o=>simp only[xf,yY,hb];exact look_fm l
theorem heapK_look {h:Heap}{a:Addr}{o:Obj}(e:h.get? a=some o):(heapK h).lookup a=some o:=by
 unfold heapK;rw[look_fm,if_pos,e];rw[yG];unfold Heap.get? at e;by_cases q:a < h.objs.size
 ·exact q
 ·rw[xF (vA q)]at e
  simp at e
theorem heapK_in (h:Heap):(heapK h).In h:=by
 intro a o e;unfold heapK at e;rw[look_fm]at e;split at e
 ·exact e
 ·cases e
theorem code_in {h:Heap}{cd:Value}{x:Str}(c:h.CodeRec cd x):PySem.W.codeIn (heapK h) cd x=true:=by
 obtain⟨c,o,vs,t,rfl,e,d,v⟩:=c;have e':=heapK_look e;obtain⟨oc,od,da,sl⟩:=o;cases d;unfold PySem.W.codeIn;simp only[e'];rw[<- yk]at v;cases q:vs.toList with
 | nil=>rw[q]at v;cases v
 | cons y r =>
  cases r with
  | nil=>rw[q]at v;cases v
  | cons z r =>
   rw[q]at v;cases v;simp
noncomputable def defPos:Stmt->Pos
 | .FunctionDef _ _ _ _ _ _ _ _ _ pos=>pos
 | _=>⟨0,0,0,0⟩
noncomputable def recT (x:Str)(st:Stmt):DefRec:=⟨x,defArgs st,defBody st,defScope st,defPos st⟩
section
variable {q:Program}{lo:List Str}{mean:ExcName->Option Value}{mg mb:Str->Option Value}{h:Heap}{es:List Ent}{gls bls:List Str}{gl:Str->Option D}
theorem DefR.mkT (T:Top q lo mean mg mb h){rs:List DefRec}(hr:recsOf q=rs)(i:Nat){e:Ent}(hm:rs[i]?=some (recT e.x e.st))
  (hb:∀ (kV doc pm:Value) (an:Option Addr) (cdv ct:Value) (us:List Value),us.length=e.ps.length->bindArgs (PySem.W.fnOf e.x e.x (defArgs e.st) (defBody e.st) (defScope e.st) .none kV doc pm an cdv ct) ⟨us,[]⟩=pure (e.ps.zip us))
  (S:FnScope e.N e.ps (defScope e.st)) (hc:cSs ⟨defScope e.st,e.N,es.map (·.x),gls,bls⟩ 200 (defBody e.st)=some e.b) (ht:(tabOf es).lookup e.x=some ⟨e.N.length,e.ps.length,e.b⟩):DefR (heapK h) mg es gls bls e:=by
 obtain⟨a,o,pm,code,doc,h1,h2,h3,h4⟩:=T.fn _ (zQ (hr ▸ hm));obtain⟨oc,od,da,sl⟩:=o;cases h3;have l:=heapK_look h2;have F:Fun (heapK h) e.x e.x e.st a _:=fun_mk (st:=e.st) (cdv:=code) l (code_in h4) (by unfold PySem.W.keepIn;simp only[l]);exact⟨a,_,F,h1,F.binds hb,S,hc,ht⟩
noncomputable def freeB (q:Program)(lo bls:List Str):Bool:=bls.all fun x=>!(startupNames.contains x||lo.contains x||((recsOf q).map (·.name)).contains x||((litsOf q).map (·.1)).contains x||((clssOf q lo).map (·.name)).contains x)
theorem free_of (T:Top q lo mean mg mb h)(e:freeB q lo bls=true):∀ x∈bls,mg x=none:=by
 intro x hx
 have:=yf.mp e x hx
 simp only[Bool.not_eq_true',Bool.or_eq_false_iff,List.contains_eq_mem,decide_eq_false_iff_not]at this;obtain⟨⟨⟨⟨h1,h2⟩,h3⟩,h4⟩,h5⟩:=this;exact T.free x h1 h2 h3 h4 h5
theorem law_mkT {srt:List D->Option (List D)}{wh:Nat}{P:Program}{w:World}(hsrt:∀ k,SrtOk (CtxN (tabOf es) gl srt wh k))(hd:∀ e∈es,DefR (heapK h) mg es gls bls e)(hg:∀ x∈gls,GlR (heapK h) mg gl x)(hb:∀ x∈bls,mg x=none)(k:Nat){e:Ent}(he:e∈es){x:Str}(hx:e.ps=[x])
  (hb1:∀ (kV doc pm:Value) (an:Option Addr) (cdv ct u:Value),bindArgs (PySem.W.fnOf e.x e.x (defArgs e.st) (defBody e.st) (defScope e.st) .none kV doc pm an cdv ct) ⟨[u],[]⟩=pure [(x,u)]) {fa:Addr} (hfa:mg e.x=some (.ref fa)) :
  ∃ fd:FuncData,(∀ (s:Shared) (u:Value),BindsTo s fd ⟨[u],[]⟩ [(x,u)])/\∀ base:Heap,(heapK h).In base->base.Ns mainGlobals mg->FnOk P w (heapK h) mg base CX0 k fa fd [x] (spOf (heapK h) 1 ((CtxN (tabOf es) gl srt wh k).fn e.x)):=by
 obtain⟨fa',fd,F,hm,_⟩:=hd e he;rw[hfa]at hm;cases hm;refine⟨fd,fun s u=>?_,fun base _ _=>?_⟩
 ·obtain⟨_,_,kV,doc,pm,an,cdv,ct,_,rfl,_⟩:=F.ex
  exact .of_eq (hb1 kV doc pm an cdv ct u)
 ·have:=law_fn (P:=P) (w:=w) (base:=base) hsrt hd hg hb k he F hfa
  rw[hx]at this;exact this
end
theorem walkT {l:PySem.W.OpenLaw}{q:Program}{loose:List Str}{XP:(Str->Option Value)->Heap->Prop}{YP:World->Heap->Prop}{d:DefRec}{x:Str}{k:Nat}{g:List D->Mo D}(hk:Room k callerA)(hn:l.most=some 63)(hdf:d.params.defaults=[])
  (hg:∀ ns:List Int,ns.length<=63->∃ M',g [.fl (ns.map .int)] []=some (.ok (.bl true),M'))
  (F:∀ (w:World) (mean:ExcName->Option Value) (mg mb:Str->Option Value) (fa:Addr) (h:Heap),Top q (PySem.W.looseW q loose) mean mg mb h->mg d.name=some (.ref fa) ->
   ∃ fd:FuncData,(∀ (s:Shared) (u:Value),BindsTo s fd ⟨[u],[]⟩ [(x,u)])/\∀ base:Heap,(heapK h).In base->base.Ns mainGlobals mg->FnOk l.prog w (heapK h) mg base CX0 k fa fd [x] (spOf (heapK h) 1 g)) :
  PySem.W.WalkO q loose XP YP l.row.toRowW d [] (fun f vs=>PySem.call f vs):=by
 refine Att.attach_call hn hdf fun w s₀ s₁ mg mb fa o pm cd doc a vs ns G Y ho hd hcd hmg hobj hints hlen hg'=>?_;obtain⟨fd,hb,hF⟩:=F w _ mg mb fa _ G.T hmg;exact law_call (heapK_in _) G.T.g G.T.b G.T.builtins G.T.nolimit hg' hobj hints (zS hlen (by decide)) hk hF hb (fun H hO hS=>sp_law hO hS (hg ns hlen)) fun _ _ _ z=>z
end L3
namespace L3
open PySem
theorem q_semE_var {Γ:Ctx}:∀ i ρ,semE Γ (.var i) ρ=(varD ρ i):=fun _ _=>rfl
theorem q_semE_cint {Γ:Ctx}:∀ i ρ,semE Γ (.cint i) ρ=(pure (.int i)):=fun _ _=>rfl
theorem q_semE_cbl {Γ:Ctx}:∀ b ρ,semE Γ (.cbl b) ρ=(pure (.bl b)):=fun _ _=>rfl
theorem q_semE_cnon {Γ:Ctx}:∀ ρ,semE Γ (.cnon) ρ=(pure .non):=fun _=>rfl
theorem q_semE_cstr {Γ:Ctx}:∀ x ρ,semE Γ (.cstr x) ρ=(pure (.str x)):=fun _ _=>rfl
theorem q_semE_glb {Γ:Ctx}:∀ x ρ,semE Γ (.glb x) ρ=(lift (Γ.gl x)):=fun _ _=>rfl
theorem q_semE_bin {Γ:Ctx}:∀ op a b ρ,semE Γ (.bin op a b) ρ=(do let x <- semE Γ a ρ;let y <- semE Γ b ρ;opD op x y):=fun _ _ _ _=>rfl
theorem q_semE_cmp {Γ:Ctx}:∀ op a b ρ,semE Γ (.cmp op a b) ρ=(do let x <- semE Γ a ρ;let y <- semE Γ b ρ;let k <- cmpD op x y;pure (.bl k)):=fun _ _ _ _=>rfl
theorem q_semE_cmp2 {Γ:Ctx}:∀ op op' a b c ρ,semE Γ (.cmp2 op op' a b c) ρ=(do
  let x <- semE Γ a ρ
  let y <- semE Γ b ρ
  let k <- cmpD op x y
  if k=true then do let z <- semE Γ c ρ;let k' <- cmpD op' y z;pure (.bl k') else pure (.bl false)):=fun _ _ _ _ _ _=>rfl
theorem q_semE_and {Γ:Ctx}:∀ a b ρ,semE Γ (.and a b) ρ=(do let x <- semE Γ a ρ;let k <- lift (boolD x);if k=true then semE Γ b ρ else pure (.bl false)):=fun _ _ _=>rfl
theorem q_semE_or {Γ:Ctx}:∀ a b ρ,semE Γ (.or a b) ρ=(do let x <- semE Γ a ρ;let k <- lift (boolD x);if k=true then pure (.bl true) else semE Γ b ρ):=fun _ _ _=>rfl
theorem q_semE_not {Γ:Ctx}:∀ a ρ,semE Γ (.not a) ρ=(do let x <- semE Γ a ρ;let k <- lift (boolD x);pure (.bl (!k))):=fun _ _=>rfl
theorem q_semE_ifE {Γ:Ctx}:∀ c a b ρ,semE Γ (.ifE c a b) ρ=(do let k <- semC Γ c ρ;if k=true then semE Γ a ρ else semE Γ b ρ):=fun _ _ _ _=>rfl
theorem q_semE_tup {Γ:Ctx}:∀ es ρ,semE Γ (.tup es) ρ=(do let xs <- semEs Γ es ρ;need (xs.length<=zn);pure (.tup xs)):=fun _ _=>rfl
theorem q_semE_lst {Γ:Ctx}:∀ es ρ,semE Γ (.lst es) ρ=(do let xs <- semEs Γ es ρ;need (xs.length<=zn);newM (.lst xs)):=fun _ _=>rfl
theorem q_semE_dic0 {Γ:Ctx}:∀ ρ,semE Γ (.dic0) ρ=(newM (.dic [])):=fun _=>rfl
theorem q_semE_idx {Γ:Ctx}:∀ a b ρ,semE Γ (.idx a b) ρ=(do let x <- semE Γ a ρ;let y <- semE Γ b ρ;getIx x y):=fun _ _ _=>rfl
theorem q_semE_slc {Γ:Ctx}:∀ a lo hi ρ,semE Γ (.slc a lo hi) ρ=(do let x <- semE Γ a ρ;let l <- semO Γ lo ρ;let h <- semO Γ hi ρ;sliceD x l h):=fun _ _ _ _=>rfl
theorem q_semE_call {Γ:Ctx}:∀ f es ρ,semE Γ (.call f es) ρ=(do let xs <- semEs Γ es ρ;Γ.fn f xs):=fun _ _ _=>rfl
theorem q_semE_blt {Γ:Ctx}:∀ b es ρ,semE Γ (.blt b es) ρ=(do let xs <- semEs Γ es ρ;blD b xs):=fun _ _ _=>rfl
theorem q_semE_comp {Γ:Ctx}:∀ j it c e ρ,semE Γ (.comp j it c e) ρ=(do
  let s <- semT Γ it ρ
  need (s.ds.length<=zn)
  let ys <- compD s.ck (semCo Γ c) (semE Γ e) (ρ.set j none) s.ds
  newM (.lst ys)):=fun _ _ _ _ _=>rfl
theorem q_semE_sortL {Γ:Ctx}:∀ a ρ,semE Γ (.sortL a) ρ=(do
  let x <- semE Γ a ρ
  let ds <- lstD x
  let ys <- lift (Γ.srt ds)
  newM (.lst ys)):=fun _ _=>rfl
theorem q_semE_intB {Γ:Ctx}:∀ a ρ,semE Γ (.intB a) ρ=(do let x <- semE Γ a ρ;let b <- lift (boolD x);pure (.int (if b then 1 else 0))):=fun _ _=>rfl
theorem q_semE_neg {Γ:Ctx}:∀ a ρ,semE Γ (.neg a) ρ=(do
  let x <- semE Γ a ρ
  (match x with
  | .int i=>pure (.int (-i))
  | _=>Mo.stop)):=fun _ _=>rfl
theorem q_semE_isI {Γ:Ctx}:∀ a t ρ,semE Γ (.isI a t) ρ=(do let x <- semE Γ a ρ;let k <- tyD t x;pure (.bl k)):=fun _ _ _=>rfl
theorem q_semE_mth {Γ:Ctx}:∀ m a es ρ,semE Γ (.mth m a es) ρ=(do let x <- semE Γ a ρ;rcvD m x;let xs <- semEs Γ es ρ;mtD m x xs):=fun _ _ _ _=>rfl
theorem q_semEs_nil {Γ:Ctx}:∀ ρ,semEs Γ (.nil) ρ=(pure []):=fun _=>rfl
theorem q_semEs_cons {Γ:Ctx}:∀ e es ρ,semEs Γ (.cons e es) ρ=(do let x <- semE Γ e ρ;let xs <- semEs Γ es ρ;pure (x::xs)):=fun _ _ _=>rfl
theorem q_semO_none {Γ:Ctx}:∀ ρ,semO Γ (.none) ρ=(pure none):=fun _=>rfl
theorem q_semO_some {Γ:Ctx}:∀ e ρ,semO Γ (.some e) ρ=(do
  let x <- semE Γ e ρ
  (match x with
  | .int i=>pure (some i)
  | _=>Mo.stop)):=fun _ _=>rfl
theorem q_semT_seq {Γ:Ctx}:∀ e ρ,semT Γ (.seq e) ρ=(do let x <- semE Γ e ρ;srcD x):=fun _ _=>rfl
theorem q_semT_rng1 {Γ:Ctx}:∀ a ρ,semT Γ (.rng1 a) ρ=(do
  let x <- semE Γ a ρ
  (match x with
  | .int i=>do need (small i);pure ⟨none,rngD 0 i⟩
  | _=>Mo.stop)):=fun _ _=>rfl
theorem q_semT_rng2 {Γ:Ctx}:∀ a b ρ,semT Γ (.rng2 a b) ρ=(do
  let x <- semE Γ a ρ
  let y <- semE Γ b ρ
  (match x,y with
  | .int i,.int j=>do need (small i/\small j);pure ⟨none,rngD i j⟩
  | _,_=>Mo.stop)):=fun _ _ _=>rfl
theorem q_semC_cmp {Γ:Ctx}:∀ e ρ,semC Γ (.cmp e) ρ=(do let x <- semE Γ e ρ;lift (boolD x)):=fun _ _=>rfl
theorem q_semC_tru {Γ:Ctx}:∀ e ρ,semC Γ (.tru e) ρ=(do let x <- semE Γ e ρ;truD x):=fun _ _=>rfl
theorem q_semC_not {Γ:Ctx}:∀ c ρ,semC Γ (.not c) ρ=(do let k <- semC Γ c ρ;pure (!k)):=fun _ _=>rfl
theorem q_semC_and {Γ:Ctx}:∀ a b ρ,semC Γ (.and a b) ρ=(do let k <- semC Γ a ρ;if k=true then semC Γ b ρ else pure false):=fun _ _ _=>rfl
theorem q_semC_or {Γ:Ctx}:∀ a b ρ,semC Γ (.or a b) ρ=(do let k <- semC Γ a ρ;if k=true then pure true else semC Γ b ρ):=fun _ _ _=>rfl
theorem q_semCo_none {Γ:Ctx}:∀ ρ,semCo Γ (.none) ρ=(pure true):=fun _=>rfl
theorem q_semCo_some {Γ:Ctx}:∀ c ρ,semCo Γ (.some c) ρ=(semC Γ c ρ):=fun _ _=>rfl
theorem q_semP_seq {Γ:Ctx}:∀ e ρ,semP Γ (.seq e) ρ=(do let x <- semE Γ e ρ;srcD x):=fun _ _=>rfl
theorem q_semP_enum {Γ:Ctx}:∀ e ρ,semP Γ (.enum e) ρ=(do let x <- semE Γ e ρ;enumS x):=fun _ _=>rfl
theorem q_semS_set {Γ:Ctx}:∀ i e ρ,semS Γ (.set i e) ρ=(do let x <- semE Γ e ρ;pure (.nx (ρ.set i (some x)))):=fun _ _ _=>rfl
theorem q_semS_setIx {Γ:Ctx}:∀ o i e ρ,semS Γ (.setIx o i e) ρ=(do let v <- semE Γ e ρ;let x <- semE Γ o ρ;let y <- semE Γ i ρ;setIx x y v;pure (.nx ρ)):=fun _ _ _ _=>rfl
theorem q_semS_expr {Γ:Ctx}:∀ e ρ,semS Γ (.expr e) ρ=(do let _ <- semE Γ e ρ;pure (.nx ρ)):=fun _ _=>rfl
theorem q_semS_ret {Γ:Ctx}:∀ e ρ,semS Γ (.ret e) ρ=(do let x <- semE Γ e ρ;pure (.rt x)):=fun _ _=>rfl
theorem q_semS_retN {Γ:Ctx}:∀ ρ,semS Γ (.retN) ρ=(pure (.rt .non)):=fun _=>rfl
theorem q_semS_pass {Γ:Ctx}:∀ ρ,semS Γ (.pass) ρ=(pure (.nx ρ)):=fun _=>rfl
theorem q_semS_brk {Γ:Ctx}:∀ ρ,semS Γ (.brk) ρ=(pure (.bk ρ)):=fun _=>rfl
theorem q_semS_cnt {Γ:Ctx}:∀ ρ,semS Γ (.cnt) ρ=(pure (.ct ρ)):=fun _=>rfl
theorem q_semS_halt {Γ:Ctx}:∀ ρ,semS Γ (.halt) ρ=(Mo.stop):=fun _=>rfl
theorem q_semS_ifS {Γ:Ctx}:∀ c a b ρ,semS Γ (.ifS c a b) ρ=(do let k <- semC Γ c ρ;if k=true then semSs Γ a ρ else semSs Γ b ρ):=fun _ _ _ _=>rfl
theorem q_semS_forS {Γ:Ctx}:∀ i it b ρ,semS Γ (.forS i it b) ρ=(do let s <- semT Γ it ρ;loopD s.ck i (semSs Γ b) s.ds ρ):=fun _ _ _ _=>rfl
theorem q_semS_forP {Γ:Ctx}:∀ i j it b ρ,semS Γ (.forP i j it b) ρ=(do let s <- semP Γ it ρ;loopP s.ck i j (semSs Γ b) s.ds ρ):=fun _ _ _ _ _=>rfl
theorem q_semS_whileS {Γ:Ctx}:∀ c b ρ,semS Γ (.whileS c b) ρ=(whileD (semC Γ c) (semSs Γ b) Γ.wh ρ):=fun _ _ _=>rfl
theorem q_semSs_nil {Γ:Ctx}:∀ ρ,semSs Γ (.nil) ρ=(pure (.nx ρ)):=fun _=>rfl
theorem q_semSs_cons {Γ:Ctx}:∀ s r ρ,semSs Γ (.cons s r) ρ=(do
  let f <- semS Γ s ρ
  (match f with
  | .nx ρ'=>semSs Γ r ρ'
  | .rt v=>pure (.rt v)
  | .bk ρ'=>pure (.bk ρ')
  | .ct ρ'=>pure (.ct ρ'))):=fun _ _ _=>rfl
end L3
namespace L3
open PySem
theorem need_run {p:Prop}[Decidable p](h:p)(M:MH):need p M=some (.ok (),M):=by unfold need;rw[if_pos h];rfl
theorem lift_run {α:Type}(a:α)(M:MH):lift (some a) M=some (.ok a,M):=rfl
theorem getM_run {i:Nat}{o:MO}{M:MH}(h:M[i]?=some o):getM i M=some (.ok o,M):=by unfold getM;rw[h]
theorem getL_run {i:Nat}{ds:List D}{M:MH}(h:M[i]?=some (.lst ds)):getL i M=some (.ok ds,M):=by unfold getL;rw[h]
theorem getD_run {i:Nat}{ds:List (Ky×D)}{M:MH}(h:M[i]?=some (.dic ds)):getD i M=some (.ok ds,M):=by unfold getD;rw[h]
theorem newM_run (o:MO)(M:MH):newM o M=some (.ok (.ob M.length),M++[o]):=rfl
theorem putM_run {i:Nat}{o:MO}{M:MH}(h:i < M.length):putM i o M=some (.ok (),M.set i o):=by unfold putM;rw[if_pos h]
theorem atD_nat {α:Type}{xs:List α}{j:Nat}{v:α}(h:xs[j]?=some v):atD xs (j:Int)=some v:=by
 have hj:j < xs.length:=(zr.mp h).1;unfold atD ixD;rw[if_pos (by first | lia | omega),if_pos (by first | lia | omega)]
 simpa using h
theorem get_new (M:MH)(o:MO):(M++[o])[M.length]?=some o:=by simp
structure Gr (M M':MH):Prop where
 keep:∀ (i:Nat) (o:MO),M[i]?=some o->M'[i]?=some o
 len:M.length<=M'.length
theorem Gr.refl {M:MH}:Gr M M:=⟨fun _ _ h=>h,zp _⟩
theorem Gr.trans {M M1 M2:MH}(a:Gr M M1)(b:Gr M1 M2):Gr M M2:=⟨fun i o e=>b.keep i o (a.keep i o e),zS a.len b.len⟩
theorem Gr.app (M X:MH):Gr M (M++X):=⟨fun i o e=>by rw[zF (zr.mp e).1];exact e,by rw[zq];omega⟩
theorem Gr.snoc {M M1:MH}(g:Gr M M1)(o:MO):Gr M (M1++[o]):=g.trans (Gr.app _ _)
theorem Gr.set {M M1:MH}(g:Gr M M1){j:Nat}(h:M.length<=j)(o:MO):Gr M (M1.set j o):=⟨fun i q e=>by
 have hi:i < M.length:=(zr.mp e).1;rw[yv (by first | lia | omega)]
 exact g.keep i q e,by rw[yD];exact g.len⟩
theorem set_get {M:MH}{j:Nat}{o q:MO}(h:M[j]?=some q):(M.set j o)[j]?=some o:=yh (zr.mp h).1
theorem lt_of_get {α:Type}{M:List α}{j:Nat}{q:α}(h:M[j]?=some q):j < M.length:=(zr.mp h).1
theorem mapM_bools (bs:List Bool):(bs.map D.bl).mapM boolD=some bs:=by
 induction bs with
 | nil=>rfl
 | cons b r ih=>rw[zH,wy,ih];rfl
theorem mapM_strs (bs:List Str):(bs.map D.str).mapM strD=some bs:=by
 induction bs with
 | nil=>rfl
 | cons b r ih=>rw[zH,wy,ih];rfl
theorem ev_var {Γ:Ctx}{ρ:Ev}{M:MH}{d:D}{i:Nat}(h:ρ[i]?=some (some d)):semE Γ (.var i) ρ M=some (.ok d,M):=by
 show varD ρ i M=_;unfold varD;rw[h];rfl
theorem rng_len {lo hi:Int}:(rngD lo hi).length=(hi - lo).toNat:=by unfold rngD;rw[zw,zI]
theorem rng_get {lo hi:Int}{j:Nat}{d:D}(h:(rngD lo hi)[j]?=some d):d=.int (lo + j)/\j < (hi - lo).toNat:=by
 unfold rngD at h;rw[zh]at h;cases q:(List.range (hi - lo).toNat)[j]? with
 | none=>rw[q]at h;cases h
 | some n =>
  rw[q]at h;obtain⟨h1,h2⟩:=zr.mp q;rw[zI]at h1;rw[wx]at h2;subst h2;cases h;exact⟨rfl,h1⟩
end L3
namespace L3
open PySem
theorem atD_in {α:Type}{xs:List α}{i:Int}(h0:0<=i)(h1:i < xs.length):∃ v,atD xs i=some v/\v∈xs:=by
 obtain⟨n,rfl⟩:=zT h0;have hj:n < xs.length:=by first | lia | omega
 exact⟨xs[n],atD_nat (zt hj),yx hj⟩
theorem len_app (x y:Str):(x++y).length=x.length + y.length:=by
 show (x.cps++y.cps).size=x.cps.size + y.cps.size;simp
theorem len_toList (x:Str):x.cps.toList.length=x.length:=by simp[Str.length]
theorem line_big:(100000:Nat)<=zn:=by unfold zn;decide
theorem up_ {a b c d:Int}(h:a<=b)(h2:b + c<=d):a + c<=d:=zY (Int.add_le_add_right h c) h2
end L3
namespace L3
open PySem
noncomputable def Wp {α:Type}(m:Mo α)(M:MH)(Q:α->MH->Prop):Prop:=∃ a M',m M=some (.ok a,M')/\Q a M'
inductive Dum {α:Type} (Q:α->MH->Prop):Type where
 | mk
noncomputable def W {α:Type}(m:Mo α)(M:MH)(Q:α->MH->Prop)(_:Dum Q:=.mk):Prop:=Wp m M Q
theorem W_eq {α:Type}{m:Mo α}{M:MH}{Q R:α->MH->Prop}(h:∀ a M,Q a M=R a M):W m M Q=W m M R:=by
 have:Q=R:=funext fun a=>funext fun M=>h a M
 subst this;rfl
theorem W.mono {α:Type}{m:Mo α}{M:MH}{Q R:α->MH->Prop}(h:W m M Q)(f:∀ a M',Q a M'->R a M'):W m M R:=by
 obtain⟨a,M',e,q⟩:=h;exact⟨a,M',e,f a M' q⟩
theorem W.of {α:Type}{m:Mo α}{M M':MH}{a:α}{Q:α->MH->Prop}(e:m M=some (.ok a,M'))(q:Q a M'):W m M Q:=⟨a,M',e,q⟩
theorem w_pure {α:Type}(a:α)(M:MH)(Q:α->MH->Prop):W (pure a:Mo α) M Q=Q a M:=by
 refine propext ⟨fun ⟨b,M',e,q⟩=>?_,fun q=>⟨a,M,rfl,q⟩⟩;cases e;exact q
theorem w_ret {α:Type}(a:α)(M:MH)(Q:α->MH->Prop):W (fun M=>some (.ok a,M)) M Q=Q a M:=w_pure a M Q
theorem w_bind {α β:Type}(m:Mo α)(k:α->Mo β)(M:MH)(Q:β->MH->Prop):W (m >>= k) M Q=W m M fun a M'=>W (k a) M' Q:=by
 refine propext ⟨fun ⟨b,M',e,q⟩=>?_,fun ⟨a,M1,e,b,M2,e2,q⟩=>⟨b,M2,by rw[ok_bind e];exact e2,q⟩⟩;obtain⟨a,M1,e1,e2⟩:=bind_ok e;exact⟨a,M1,e1,b,M',e2,q⟩
theorem w_need {p:Prop}[Decidable p](M:MH)(Q:Unit->MH->Prop):W (need p) M Q=(p/\Q () M):=by
 refine propext ⟨fun ⟨b,M',e,q⟩=>?_,fun ⟨hp,q⟩=>⟨(),M,need_run hp M,q⟩⟩;unfold need at e;split at e
 ·rename_i hp
  cases e;exact⟨hp,q⟩
 ·cases e
theorem w_lift {α:Type}(o:Option α)(M:MH)(Q:α->MH->Prop):W (lift o) M Q = ∃ a,o=some a/\Q a M:=by
 refine propext ⟨fun ⟨b,M',e,q⟩=>?_,fun ⟨a,ho,q⟩=>⟨a,M,by rw[ho];rfl,q⟩⟩;cases o with
 | none=>cases e
 | some a=>cases e;exact⟨_,rfl,q⟩
theorem w_getM (i:Nat)(M:MH)(Q:MO->MH->Prop):W (getM i) M Q = ∃ o,M[i]?=some o/\Q o M:=by
 refine propext ⟨fun ⟨b,M',e,q⟩=>?_,fun ⟨a,ho,q⟩=>⟨a,M,getM_run ho,q⟩⟩;unfold getM at e;split at e
 ·rename_i o h;cases e;exact⟨_,h,q⟩
 ·cases e
theorem w_getL (i:Nat)(M:MH)(Q:List D->MH->Prop):W (getL i) M Q = ∃ ds,M[i]?=some (.lst ds)/\Q ds M:=by
 refine propext ⟨fun ⟨b,M',e,q⟩=>?_,fun ⟨a,ho,q⟩=>⟨a,M,getL_run ho,q⟩⟩;unfold getL at e;split at e
 ·rename_i o h;cases e;exact⟨_,h,q⟩
 ·cases e
theorem w_getD (i:Nat)(M:MH)(Q:List (Ky×D)->MH->Prop):W (getD i) M Q = ∃ ds,M[i]?=some (.dic ds)/\Q ds M:=by
 refine propext ⟨fun ⟨b,M',e,q⟩=>?_,fun ⟨a,ho,q⟩=>⟨a,M,getD_run ho,q⟩⟩;unfold getD at e;split at e
 ·rename_i o h;cases e;exact⟨_,h,q⟩
 ·cases e
theorem w_newM (o:MO)(M:MH)(Q:D->MH->Prop):W (newM o) M Q=Q (.ob M.length) (M++[o]):=by
 refine propext ⟨fun ⟨b,M',e,q⟩=>?_,fun q=>⟨_,_,newM_run o M,q⟩⟩;cases e;exact q
theorem w_putM (i:Nat)(o:MO)(M:MH)(Q:Unit->MH->Prop):W (putM i o) M Q=(i < M.length/\Q () (M.set i o)):=by
 refine propext ⟨fun ⟨b,M',e,q⟩=>?_,fun ⟨h,q⟩=>⟨_,_,putM_run h,q⟩⟩;unfold putM at e;split at e
 ·rename_i h;cases e;exact⟨h,q⟩
 ·cases e
theorem w_stop {α:Type}(M:MH)(Q:α->MH->Prop):W (Mo.stop:Mo α) M Q=False:=by
 refine propext ⟨fun ⟨b,M',e,q⟩=>?_,fun q=>q.elim⟩;cases e
theorem w_if {α:Type}(b:Bool)(m n:Mo α)(M:MH)(Q:α->MH->Prop):W (if b=true then m else n) M Q=((b=true->W m M Q)/\(b=false->W n M Q)):=by
 cases b <;> simp
section
variable {α β:Type}
theorem v_pure (a:α)(M:MH)(Q:α->MH->Prop):Wp (pure a:Mo α) M Q=Q a M:=w_pure a M Q
theorem v_bind (m:Mo α)(k:α->Mo β)(M:MH)(Q:β->MH->Prop):Wp (m >>= k) M Q=Wp m M fun a M'=>Wp (k a) M' Q:=w_bind m k M Q
theorem v_need {p:Prop}[Decidable p](M:MH)(Q:Unit->MH->Prop):Wp (need p) M Q=(p/\Q () M):=w_need M Q
theorem v_lift (o:Option α)(M:MH)(Q:α->MH->Prop):Wp (lift o) M Q = ∃ a,o=some a/\Q a M:=w_lift o M Q
theorem v_getM (i:Nat)(M:MH)(Q:MO->MH->Prop):Wp (getM i) M Q = ∃ o,M[i]?=some o/\Q o M:=w_getM i M Q
theorem v_getL (i:Nat)(M:MH)(Q:List D->MH->Prop):Wp (getL i) M Q = ∃ ds,M[i]?=some (.lst ds)/\Q ds M:=w_getL i M Q
theorem v_getD (i:Nat)(M:MH)(Q:List (Ky×D)->MH->Prop):Wp (getD i) M Q = ∃ ds,M[i]?=some (.dic ds)/\Q ds M:=w_getD i M Q
theorem v_newM (o:MO)(M:MH)(Q:D->MH->Prop):Wp (newM o) M Q=Q (.ob M.length) (M++[o]):=w_newM o M Q
theorem v_putM (i:Nat)(o:MO)(M:MH)(Q:Unit->MH->Prop):Wp (putM i o) M Q=(i < M.length/\Q () (M.set i o)):=w_putM i o M Q
theorem v_stop (M:MH)(Q:α->MH->Prop):Wp (Mo.stop:Mo α) M Q=False:=w_stop M Q
theorem v_if (b:Bool)(m n:Mo α)(M:MH)(Q:α->MH->Prop):Wp (if b=true then m else n) M Q=((b=true->Wp m M Q)/\(b=false->Wp n M Q)):=w_if b m n M Q
end
section
variable {Γ:Ctx}{ρ:Ev}{M:MH}{a b c:IE}{Q:D->MH->Prop}{es:IEs}
theorem we_var {i:Nat}:W (semE Γ (.var i) ρ) M Q = ∃ d,ρ[i]?=some (some d)/\Q d M:=by
 refine propext ⟨fun ⟨b,M',e,q⟩=>?_,fun ⟨d,h,q⟩=>⟨d,M,ev_var h,q⟩⟩;simp only[q_semE_var]at e;unfold varD at e;cases h:ρ[i]? with
 | none=>rw[h]at e;cases e
 | some o =>
  rw[h]at e;cases o with
  | none=>cases e
  | some d=>cases e;exact⟨_,rfl,q⟩
theorem we_int {i:Int}:W (semE Γ (.cint i) ρ) M Q=Q (.int i) M:=w_pure _ M Q
theorem we_bl {i:Bool}:W (semE Γ (.cbl i) ρ) M Q=Q (.bl i) M:=w_pure _ M Q
theorem we_non:W (semE Γ .cnon ρ) M Q=Q .non M:=w_pure _ M Q
theorem we_str {i:Str}:W (semE Γ (.cstr i) ρ) M Q=Q (.str i) M:=w_pure _ M Q
theorem we_glb {i:Str}:W (semE Γ (.glb i) ρ) M Q = ∃ d,Γ.gl i=some d/\Q d M:=w_lift _ M Q
theorem we_bin {op:Operator}:W (semE Γ (.bin op a b) ρ) M Q=W (semE Γ a ρ) M fun x M1=>W (semE Γ b ρ) M1 fun y M2=>W (opD op x y) M2 Q:=by
 delta W;simp only[q_semE_bin,v_bind]
theorem we_cmp {op:CmpOp}:W (semE Γ (.cmp op a b) ρ) M Q=W (semE Γ a ρ) M fun x M1=>W (semE Γ b ρ) M1 fun y M2=>W (cmpD op x y) M2 fun k M3=>Q (.bl k) M3:=by
 delta W;simp only[q_semE_cmp,v_bind,v_pure]
theorem we_cmp2 {op op':CmpOp}:W (semE Γ (.cmp2 op op' a b c) ρ) M Q=W (semE Γ a ρ) M fun x M1=>W (semE Γ b ρ) M1 fun y M2=>W (cmpD op x y) M2 fun k M3=>(k=true->W (semE Γ c ρ) M3 fun z M4=>W (cmpD op' y z) M4 fun k' M5=>Q (.bl k') M5)/\(k=false->Q (.bl false) M3):=by
 delta W;simp only[q_semE_cmp2,v_bind,v_pure,v_if]
theorem we_and:W (semE Γ (.and a b) ρ) M Q=W (semE Γ a ρ) M fun x M1=>∃ k,boolD x=some k/\(k=true->W (semE Γ b ρ) M1 Q)/\(k=false->Q (.bl false) M1):=by
 delta W;simp only[q_semE_and,v_bind,v_pure,v_if,v_lift]
theorem we_ifE {q:IC}:W (semE Γ (.ifE q a b) ρ) M Q=W (semC Γ q ρ) M fun k M1=>(k=true->W (semE Γ a ρ) M1 Q)/\(k=false->W (semE Γ b ρ) M1 Q):=by
 delta W;simp only[q_semE_ifE,v_bind,v_if]
theorem we_tup:W (semE Γ (.tup es) ρ) M Q=W (semEs Γ es ρ) M fun xs M1=>xs.length<=zn/\Q (.tup xs) M1:=by
 delta W;simp only[q_semE_tup,v_bind,v_pure,v_need]
theorem we_lst:W (semE Γ (.lst es) ρ) M Q=W (semEs Γ es ρ) M fun xs M1=>xs.length<=zn/\Q (.ob M1.length) (M1++[.lst xs]):=by
 delta W;simp only[q_semE_lst,v_bind,v_newM,v_need]
theorem we_dic0:W (semE Γ .dic0 ρ) M Q=Q (.ob M.length) (M++[.dic []]):=w_newM _ M Q
theorem we_idx:W (semE Γ (.idx a b) ρ) M Q=W (semE Γ a ρ) M fun x M1=>W (semE Γ b ρ) M1 fun y M2=>W (getIx x y) M2 Q:=by
 delta W;simp only[q_semE_idx,v_bind]
theorem we_slc {lo hi:IEo}:W (semE Γ (.slc a lo hi) ρ) M Q=W (semE Γ a ρ) M fun x M1=>W (semO Γ lo ρ) M1 fun l M2=>W (semO Γ hi ρ) M2 fun h M3=>W (sliceD x l h) M3 Q:=by
 delta W;simp only[q_semE_slc,v_bind]
theorem we_call {f:Str}:W (semE Γ (.call f es) ρ) M Q=W (semEs Γ es ρ) M fun xs M1=>W (Γ.fn f xs) M1 Q:=by
 delta W;simp only[q_semE_call,v_bind]
theorem we_blt {f:Bl}:W (semE Γ (.blt f es) ρ) M Q=W (semEs Γ es ρ) M fun xs M1=>W (blD f xs) M1 Q:=by
 delta W;simp only[q_semE_blt,v_bind]
theorem we_comp {j:Nat}{it:IT}{cc:ICo}:W (semE Γ (.comp j it cc a) ρ) M Q=W (semT Γ it ρ) M fun s M1=>s.ds.length<=zn/\W (compD s.ck (semCo Γ cc) (semE Γ a) (ρ.set j none) s.ds) M1 fun ys M2=>Q (.ob M2.length) (M2++[.lst ys]):=by
 delta W;simp only[q_semE_comp,v_bind,v_newM,v_need]
theorem wes_nil {Q:List D->MH->Prop}:W (semEs Γ .nil ρ) M Q=Q [] M:=w_pure _ M Q
theorem wes_cons {Q:List D->MH->Prop}:W (semEs Γ (.cons a es) ρ) M Q=W (semE Γ a ρ) M fun x M1=>W (semEs Γ es ρ) M1 fun xs M2=>Q (x::xs) M2:=by
 delta W;simp only[q_semEs_cons,v_bind,v_pure]
theorem wo_none {Q:Option Int->MH->Prop}:W (semO Γ .none ρ) M Q=Q none M:=w_pure _ M Q
theorem wo_some {Q:Option Int->MH->Prop}:W (semO Γ (.some a) ρ) M Q=W (semE Γ a ρ) M fun x M1=>∃ i,x=.int i/\Q (some i) M1:=by
 delta W;simp only[q_semO_some,v_bind];refine congrArg _ (funext fun x=>funext fun M1=>?_);cases x <;> simp[v_stop,v_pure]
theorem wt_seq {Q:Src->MH->Prop}:W (semT Γ (.seq a) ρ) M Q=W (semE Γ a ρ) M fun x M1=>W (srcD x) M1 Q:=by
 delta W;simp only[q_semT_seq,v_bind]
theorem wt_rng1 {Q:Src->MH->Prop}:W (semT Γ (.rng1 a) ρ) M Q=W (semE Γ a ρ) M fun x M1=>∃ i,x=.int i/\small i/\Q ⟨none,rngD 0 i⟩ M1:=by
 delta W;simp only[q_semT_rng1,v_bind];refine congrArg _ (funext fun x=>funext fun M1=>?_);cases x <;> simp[v_stop,v_pure,v_bind,v_need]
section
variable {Q:Bool->MH->Prop}{q r:IC}
theorem wc_cmp:W (semC Γ (.cmp a) ρ) M Q=W (semE Γ a ρ) M fun x M1=>∃ k,boolD x=some k/\Q k M1:=by delta W;simp only[q_semC_cmp,v_bind,v_lift]
theorem wc_tru:W (semC Γ (.tru a) ρ) M Q=W (semE Γ a ρ) M fun x M1=>W (truD x) M1 Q:=by delta W;simp only[q_semC_tru,v_bind]
theorem wc_not:W (semC Γ (.not q) ρ) M Q=W (semC Γ q ρ) M fun k M1=>Q (!k) M1:=by delta W;simp only[q_semC_not,v_bind,v_pure]
theorem wc_and:W (semC Γ (.and q r) ρ) M Q=W (semC Γ q ρ) M fun k M1=>(k=true->W (semC Γ r ρ) M1 Q)/\(k=false->Q false M1):=by delta W;simp only[q_semC_and,v_bind,v_if,v_pure]
theorem wc_or:W (semC Γ (.or q r) ρ) M Q=W (semC Γ q ρ) M fun k M1=>(k=true->Q true M1)/\(k=false->W (semC Γ r ρ) M1 Q):=by delta W;simp only[q_semC_or,v_bind,v_if,v_pure]
theorem wco_none:W (semCo Γ .none ρ) M Q=Q true M:=w_pure _ M Q
theorem wco_some:W (semCo Γ (.some q) ρ) M Q=W (semC Γ q ρ) M Q:=by delta W;simp only[q_semCo_some]
end
section
variable {Q:Fl->MH->Prop}{s:IS}{r s1 s2:ISs}{q:IC}
noncomputable def nxt (Γ:Ctx)(r:ISs)(Q:Fl->MH->Prop)(f:Fl)(M:MH):Prop:=match f with
 | .nx ρ=>W (semSs Γ r ρ) M Q
 | .rt v=>Q (.rt v) M
 | .bk ρ=>Q (.bk ρ) M
 | .ct ρ=>Q (.ct ρ) M
theorem nxt_nx:nxt Γ r Q (.nx ρ) M=W (semSs Γ r ρ) M Q:=rfl
theorem nxt_rt {v:D}:nxt Γ r Q (.rt v) M=Q (.rt v) M:=rfl
theorem nxt_bk:nxt Γ r Q (.bk ρ) M=Q (.bk ρ) M:=rfl
theorem nxt_ct:nxt Γ r Q (.ct ρ) M=Q (.ct ρ) M:=rfl
theorem ws_nil:W (semSs Γ .nil ρ) M Q=Q (.nx ρ) M:=w_pure _ M Q
theorem ws_cons:W (semSs Γ (.cons s r) ρ) M Q=W (semS Γ s ρ) M (nxt Γ r Q):=by
 delta W;simp only[q_semSs_cons,v_bind];refine congrArg _ (funext fun f=>funext fun M1=>?_);cases f <;> simp[nxt,v_pure,W]
theorem ws_set {i:Nat}:W (semS Γ (.set i a) ρ) M Q=W (semE Γ a ρ) M fun x M1=>Q (.nx (ρ.set i (some x))) M1:=by delta W;simp only[q_semS_set,v_bind,v_pure]
theorem ws_setIx:W (semS Γ (.setIx a b c) ρ) M Q=W (semE Γ c ρ) M fun v M1=>W (semE Γ a ρ) M1 fun x M2=>W (semE Γ b ρ) M2 fun y M3=>W (setIx x y v) M3 fun _ M4=>Q (.nx ρ) M4:=by delta W;simp only[q_semS_setIx,v_bind,v_pure]
theorem ws_expr:W (semS Γ (.expr a) ρ) M Q=W (semE Γ a ρ) M fun _ M1=>Q (.nx ρ) M1:=by delta W;simp only[q_semS_expr,v_bind,v_pure]
theorem ws_ret:W (semS Γ (.ret a) ρ) M Q=W (semE Γ a ρ) M fun x M1=>Q (.rt x) M1:=by delta W;simp only[q_semS_ret,v_bind,v_pure]
theorem ws_retN:W (semS Γ .retN ρ) M Q=Q (.rt .non) M:=w_pure _ M Q
theorem ws_pass:W (semS Γ .pass ρ) M Q=Q (.nx ρ) M:=w_pure _ M Q
theorem ws_brk:W (semS Γ .brk ρ) M Q=Q (.bk ρ) M:=w_pure _ M Q
theorem ws_cnt:W (semS Γ .cnt ρ) M Q=Q (.ct ρ) M:=w_pure _ M Q
theorem ws_if:W (semS Γ (.ifS q s1 s2) ρ) M Q=W (semC Γ q ρ) M fun k M1=>(k=true->W (semSs Γ s1 ρ) M1 Q)/\(k=false->W (semSs Γ s2 ρ) M1 Q):=by delta W;simp only[q_semS_ifS,v_bind,v_if]
noncomputable def selS:Bool->ISs->ISs->ISs
 | true,a,_=>a
 | false,_,b=>b
theorem sel_t {a b:ISs}:selS true a b=a:=rfl
theorem sel_f {a b:ISs}:selS false a b=b:=rfl
theorem ws_sel:W (semS Γ (.ifS q s1 s2) ρ) M Q=W (semC Γ q ρ) M fun k M1=>W (semSs Γ (selS k s1 s2) ρ) M1 Q:=by
 rw[ws_if];refine congrArg _ (funext fun k=>funext fun M1=>?_);cases k <;> simp[selS]
theorem sT {k:Bool}(h:k=true)(t:W (semSs Γ s1 ρ) M Q):W (semSs Γ (selS k s1 s2) ρ) M Q:=h ▸ t
theorem sF {k:Bool}(h:k=false)(t:W (semSs Γ s2 ρ) M Q):W (semSs Γ (selS k s1 s2) ρ) M Q:=h ▸ t
theorem ws_for {i:Nat}{it:IT}:W (semS Γ (.forS i it s1) ρ) M Q=W (semT Γ it ρ) M fun s M1=>W (loopD s.ck i (semSs Γ s1) s.ds ρ) M1 Q:=by delta W;simp only[q_semS_forS,v_bind]
end
noncomputable def endF (Q:D->MH->Prop)(f:Fl)(M:MH):Prop:=match f with
 | .nx _=>Q .non M
 | .rt v=>Q v M
 | _=>False
theorem end_nx:endF Q (.nx ρ) M=Q .non M:=rfl
theorem end_rt {v:D}:endF Q (.rt v) M=Q v M:=rfl
theorem wf {n p:Nat}{b:ISs}{xs:List D}:W (do need (xs.length=p);semF Γ n b xs:Mo D) M Q=(xs.length=p/\W (semSs Γ b (xs.map some++yH (n - xs.length) none)) M (endF Q)):=by
 rw[w_bind,w_need];unfold semF;rw[w_bind];refine congrArg _ (W_eq fun f M1=>?_);cases f <;> simp[endF,w_pure,w_stop]
end
end L3
namespace L3
open PySem
section
variable {M:MH}{Q:D->MH->Prop}{B:Bool->MH->Prop}{U:Unit->MH->Prop}{S:Src->MH->Prop}{x y v:D}
theorem p_addI {i j:Int}:W (opD .Add (.int i) (.int j)) M Q=Q (.int (i + j)) M:=w_pure _ M Q
theorem p_subI {i j:Int}:W (opD .Sub (.int i) (.int j)) M Q=Q (.int (i - j)) M:=w_pure _ M Q
theorem p_addS {i j:Str}:W (opD .Add (.str i) (.str j)) M Q=(i.length + j.length<=zn/\Q (.str (i++j)) M):=by
 show W (need _ >>= fun _=>pure _) M Q=_;rw[w_bind,w_need,w_pure]
theorem p_addT {i j:List D}:W (opD .Add (.tup i) (.tup j)) M Q=(i.length + j.length<=zn/\Q (.tup (i++j)) M):=by
 show W (need _ >>= fun _=>pure _) M Q=_;rw[w_bind,w_need,w_pure]
theorem p_addL {i j:Nat}:W (opD .Add (.ob i) (.ob j)) M Q = ∃ xs,M[i]?=some (.lst xs)/\∃ ys,M[j]?=some (.lst ys)/\xs.length + ys.length<=zn/\Q (.ob M.length) (M++[.lst (xs++ys)]):=by
 show W (getL i >>= fun xs=>getL j >>= fun ys=>need _ >>= fun _=>newM _) M Q=_;delta W;simp only[v_bind,v_getL,v_need,v_newM]
theorem p_mul {i j:Int}:W (opD .Mult (.int i) (.int j)) M Q=(((-(2 ^ 64) < i/\i < 2 ^ 64)\/(-(2 ^ 64) < j/\j < 2 ^ 64))/\Q (.int (i * j)) M):=by
 show W (need _ >>= fun _=>pure _) M Q=_;rw[w_bind,w_need,w_pure]
theorem p_div {i j:Int}:W (opD .FloorDiv (.int i) (.int j)) M Q=((0 < j/\j < 1073741824)/\Q (.int (i / j)) M):=by
 show W (need _ >>= fun _=>pure _) M Q=_;rw[w_bind,w_need,w_pure]
theorem p_mod {i j:Int}:W (opD .Mod (.int i) (.int j)) M Q=(0 < j/\Q (.int (i % j)) M):=by
 show W (need _ >>= fun _=>pure _) M Q=_;rw[w_bind,w_need,w_pure]
theorem p_eq:W (cmpD .Eq x y) M B = ∃ b,eqO M 20 x y=some b/\B b M:=by
 show W (eqMo x y) M B=_;refine propext ⟨fun ⟨b,M',e,q⟩=>?_,fun ⟨b,e,q⟩=>⟨b,M,by unfold eqMo;rw[e],q⟩⟩;unfold eqMo at e;cases h:eqO M 20 x y with
 | none=>rw[h]at e;cases e
 | some k=>rw[h]at e;cases e;exact⟨_,rfl,q⟩
theorem p_ne:W (cmpD .NotEq x y) M B = ∃ b,eqO M 20 x y=some b/\B (!b) M:=by
 show W (cmpD .Eq x y >>= fun b=>pure (!b)) M B=_;rw[w_bind]
 have:∀ b M,W (pure (!b):Mo Bool) M B=B (!b) M:=fun b M=>w_pure _ M B
 rw[W_eq this,p_eq]
theorem eo_flat {n:Nat}(h1:flatD x=true)(h2:flatD y=true):eqO M (n + 1) x y=some (eqF x y):=by
 cases x <;> cases y <;> first | exact absurd h1 zo | exact absurd h2 zo | rfl
theorem eo_int {n:Nat}{i j:Int}:eqO M (n + 1) (.int i) (.int j)=some (i==j):=rfl
theorem eo_str {n:Nat}{i j:Str}:eqO M (n + 1) (.str i) (.str j)=some (i==j):=rfl
theorem eo_bl {n:Nat}{i j:Bool}:eqO M (n + 1) (.bl i) (.bl j)=some (i==j):=rfl
theorem eo_nn {n:Nat}:eqO M (n + 1) .non .non=some true:=rfl
theorem eo_ns {n:Nat}{j:Str}:eqO M (n + 1) .non (.str j)=some false:=rfl
theorem eo_sn {n:Nat}{j:Str}:eqO M (n + 1) (.str j) .non=some false:=rfl
theorem eo_tup {n:Nat}{i j:List D}:eqO M (n + 1) (.tup i) (.tup j)=eqL (eqO M n) i j:=rfl
theorem eo_nil {n:Nat}{i j:Nat}{xs:List D}(h1:M[i]?=some (.lst xs))(h2:M[j]?=some (.lst [])):eqO M (n + 1) (.ob i) (.ob j)=some xs.isEmpty:=by
 show (match M[i]?,M[j]? with
   | some (.lst xs),some (.lst ys)=>if xs.length=ys.length then eqL (eqO M n) xs ys else some false
   | _,_=>none)=_
 rw[h1,h2];cases xs <;> rfl
theorem p_eqI {i j:Int}:W (cmpD .Eq (.int i) (.int j)) M B=B (i==j) M:=by rw[p_eq];simp[eo_int]
theorem p_eqS {i j:Str}:W (cmpD .Eq (.str i) (.str j)) M B=B (i==j) M:=by rw[p_eq];simp[eo_str]
theorem p_neI {i j:Int}:W (cmpD .NotEq (.int i) (.int j)) M B=B (!(i==j)) M:=by rw[p_ne];simp[eo_int]
theorem p_ltI {i j:Int}:W (cmpD .Lt (.int i) (.int j)) M B=B (decide (i < j)) M:=w_pure _ M B
theorem p_leI {i j:Int}:W (cmpD .LtE (.int i) (.int j)) M B=B (decide (i<=j)) M:=w_pure _ M B
theorem p_gtI {i j:Int}:W (cmpD .Gt (.int i) (.int j)) M B=B (decide (j < i)) M:=w_pure _ M B
theorem p_geI {i j:Int}:W (cmpD .GtE (.int i) (.int j)) M B=B (decide (j<=i)) M:=w_pure _ M B
theorem p_leS {i j:Str}:W (cmpD .LtE (.str i) (.str j)) M B=B (!decide (j.cps.toList < i.cps.toList)) M:=w_pure _ M B
theorem p_ltS {i j:Str}:W (cmpD .Lt (.str i) (.str j)) M B=B (decide (i.cps.toList < j.cps.toList)) M:=w_pure _ M B
theorem p_in:W (cmpD .In x y) M B=W (inD x y) M B:=rfl
theorem p_inS {i j:Str}:W (inD (.str i) (.str j)) M B=B (strOcc j i) M:=w_pure _ M B
theorem w_inMo {ds:List D}:W (inMo x ds) M B = ∃ b,inL M x ds=some b/\B b M:=by
 refine propext ⟨fun ⟨b,M',e,q⟩=>?_,fun ⟨b,e,q⟩=>⟨b,M,by unfold inMo;rw[e],q⟩⟩;unfold inMo at e;cases h:inL M x ds with
 | none=>rw[h]at e;cases e
 | some k=>rw[h]at e;cases e;exact⟨_,rfl,q⟩
theorem inL_flat (h1:flatD x=true):∀ {ds:List D},ds.all flatD=true->inL M x ds=some (ds.any fun d=>eqF d x)
 | [],_=>rfl
 | d::ds,h=>by
  rw[yq,zk]at h;unfold inL;rw[eo_flat h.1 h1,inL_flat h1 h.2];rfl
theorem p_inT {ds:List D}:W (inD x (.tup ds)) M B = ∃ b,inL M x ds=some b/\B b M:=w_inMo
theorem p_inO {i:Nat}:W (inD x (.ob i)) M B = ∃ o,M[i]?=some o/\W (match o with
  | .lst ds=>inMo x ds
  | .dic kvs=>(do let k <- lift (kyD x);pure (kvGet kvs k).isSome)
  ) M B:=by
 exact(w_bind (getM i) _ M B).trans (w_getM i M _)
theorem p_isnot:W (cmpD .IsNot x y) M B=(isN y=true/\B (!isN x) M):=by
 show W (need _ >>= fun _=>pure _) M B=_;rw[w_bind,w_need,w_pure]
theorem g_tup {ds:List D}{i:Int}:W (getIx (.tup ds) (.int i)) M Q = ∃ d,atD ds i=some d/\Q d M:=w_lift _ M Q
theorem g_fl {ds:List D}{i:Int}:W (getIx (.fl ds) (.int i)) M Q = ∃ d,atD ds i=some d/\Q d M:=w_lift _ M Q
theorem g_str {t:Str}{i:Int}:W (getIx (.str t) (.int i)) M Q=(t.length<=zn/\∃ c,atD t.cps.toList i=some c/\Q (sgn c) M):=by
 show W (need _ >>= fun _=>lift (atD t.cps.toList i) >>= fun c=>pure (sgn c)) M Q=_;delta W;simp only[v_bind,v_need,v_lift,v_pure]
noncomputable def obIx (o:MO)(y:D)(M:MH)(Q:D->MH->Prop):Prop:=match o with
 | .lst ds=>∃ i,y=.int i/\∃ d,atD ds i=some d/\Q d M
 | .dic kvs=>∃ k,kyD y=some k/\∃ d,kvGet kvs k=some d/\Q d M
theorem g_obl {ds:List D}{i:Int}:obIx (.lst ds) (.int i) M Q = ∃ d,atD ds i=some d/\Q d M:=by simp[obIx]
theorem g_obd {kvs:List (Ky×D)}:obIx (.dic kvs) y M Q = ∃ k,kyD y=some k/\∃ d,kvGet kvs k=some d/\Q d M:=rfl
theorem g_ob {j:Nat}:W (getIx (.ob j) y) M Q = ∃ o,M[j]?=some o/\obIx o y M Q:=by
 have e:getIx (.ob j) y=(getM j >>= fun o=>(match o with
  | .lst ds=>(match y with
   | .int i=>lift (atD ds i)
   | _=>Mo.stop)
  | .dic kvs=>(do let q <- lift (kyD y);lift (kvGet kvs q))
  ):Mo D):=by cases y <;> rfl
 rw[e,w_bind,w_getM];refine congrArg _ (funext fun o=>congrArg _ ?_);cases o with
 | lst ds=>cases y <;> simp[obIx,w_stop,w_lift]
 | dic kvs=>simp[obIx,w_bind,w_lift]
noncomputable def obSet (j:Nat)(o:MO)(y v:D)(M:MH)(U:Unit->MH->Prop):Prop:=match o with
 | .lst ds=>∃ i,y=.int i/\∃ n,ixD ds.length i=some n/\U () (M.set j (.lst (ds.set n v)))
 | .dic kvs=>∃ k,kyD y=some k/\kvs.length < zn/\U () (M.set j (.dic (kvPut kvs k v)))
theorem t_obl {j:Nat}{ds:List D}{i:Int}:obSet j (.lst ds) (.int i) v M U = ∃ n,ixD ds.length i=some n/\U () (M.set j (.lst (ds.set n v))):=by simp[obSet]
theorem t_obd {j:Nat}{kvs:List (Ky×D)}:obSet j (.dic kvs) y v M U = ∃ k,kyD y=some k/\kvs.length < zn/\U () (M.set j (.dic (kvPut kvs k v))):=rfl
theorem t_ob {j:Nat}:W (setIx (.ob j) y v) M U = ∃ o,M[j]?=some o/\obSet j o y v M U:=by
 show W (getM j >>= _) M U=_;rw[w_bind,w_getM];refine congrArg _ (funext fun o=>?_);refine propext (and_congr_right fun h=>?_);have hl:j < M.length:=(zr.mp h).1;cases o with
 | lst ds=>cases y <;> simp[obSet,w_stop,w_lift,w_bind,w_putM,hl]
 | dic kvs=>simp[obSet,w_bind,w_lift,w_need,w_putM,hl]
theorem z_str {t:Str}{lo hi:Option Int}:W (sliceD (.str t) lo hi) M Q=(t.length<=zn/\Q (.str ⟨(cutD t.cps.toList lo hi).toArray⟩) M):=by
 show W (need _ >>= fun _=>pure _) M Q=_;rw[w_bind,w_need,w_pure]
theorem z_lst {j:Nat}{lo hi:Option Int}:W (sliceD (.ob j) lo hi) M Q = ∃ ds,M[j]?=some (.lst ds)/\Q (.ob M.length) (M++[.lst (cutD ds lo hi)]):=by
 show W (getL j >>= fun ds=>newM _) M Q=_;delta W;simp only[v_bind,v_getL,v_newM]
theorem z_tup {ds:List D}{lo hi:Option Int}:W (sliceD (.tup ds) lo hi) M Q=Q (.tup (cutD ds lo hi)) M:=w_pure _ M Q
theorem z_fl {ds:List D}{lo hi:Option Int}:W (sliceD (.fl ds) lo hi) M Q=Q (.ob M.length) (M++[.lst (cutD ds lo hi)]):=w_newM _ M Q
theorem k_lenS {t:Str}:W (blD .len [.str t]) M Q=(t.length<=zn/\Q (.int t.length) M):=by
 show W (need _ >>= fun _=>pure _) M Q=_;rw[w_bind,w_need,w_pure]
noncomputable def lenO (o:MO):Int:=match o with
 | .lst ds=>ds.length
 | .dic kvs=>kvs.length
theorem k_lenO {j:Nat}:W (blD .len [.ob j]) M Q = ∃ o,M[j]?=some o/\Q (.int (lenO o)) M:=by
 show W (getM j >>= _) M Q=_;rw[w_bind,w_getM];refine congrArg _ (funext fun o=>congrArg _ ?_);cases o <;> simp[lenO,w_pure]
theorem k_lenl {ds:List D}:lenO (.lst ds)=ds.length:=rfl
theorem k_lend {ds:List (Ky×D)}:lenO (.dic ds)=ds.length:=rfl
theorem k_lenT {ds:List D}:W (blD .len [.tup ds]) M Q=Q (.int ds.length) M:=w_pure _ M Q
theorem k_lenF {ds:List D}:W (blD .len [.fl ds]) M Q=Q (.int ds.length) M:=w_pure _ M Q
theorem k_tupL {j:Nat}:W (blD .tuple [.ob j]) M Q = ∃ ds,M[j]?=some (.lst ds)/\Q (.tup ds) M:=by
 show W (getL j >>= fun ds=>pure _) M Q=_;delta W;simp only[v_bind,v_getL,v_pure]
theorem k_any {j:Nat}:W (blD .any [.ob j]) M Q = ∃ ds,M[j]?=some (.lst ds)/\∃ bs,ds.mapM boolD=some bs/\Q (.bl (bs.any id)) M:=by
 show W (getL j >>= fun ds=>lift (ds.mapM boolD) >>= fun bs=>pure _) M Q=_;delta W;simp only[v_bind,v_getL,v_lift,v_pure]
theorem k_max {i j:Int}:W (blD .max2 [.int i,.int j]) M Q=Q (.int (max i j)) M:=by
 have e:max i j=if j > i then j else i:=by split <;> omega
 rw[e];exact w_pure _ M Q
theorem y_tup {ds:List D}:W (srcD (.tup ds)) M S=S ⟨none,ds⟩ M:=w_pure _ M S
theorem y_fl {ds:List D}:W (srcD (.fl ds)) M S=S ⟨none,ds⟩ M:=w_pure _ M S
theorem y_lst {j:Nat}:W (srcD (.ob j)) M S = ∃ ds,M[j]?=some (.lst ds)/\S ⟨some (j,ds),ds⟩ M:=by
 show W (getL j >>= fun ds=>pure _) M S=_;delta W;simp only[v_bind,v_getL,v_pure]
theorem u_bl {b:Bool}:W (truD (.bl b)) M B=B b M:=w_pure _ M B
theorem u_tup {ds:List D}:W (truD (.tup ds)) M B=B (!ds.isEmpty) M:=w_pure _ M B
theorem u_int {b:Int}:W (truD (.int b)) M B=B (b != 0) M:=w_pure _ M B
theorem b_bl {b:Bool}:boolD (.bl b)=some b:=rfl
theorem w_compI {ck:Option (Nat×List D)}{c:Ev->Mo Bool}{e:Ev->Mo D}{ρ:Ev}{ds:List D}{L:List D->MH->Prop}(I:Nat->List D->MH->Prop)(h0:I 0 [] M)(hs:∀ n ys M,I n ys M->okM ck M)
  (h:∀ (n:Nat) (d:D) (ys:List D) (M:MH),ds[n]?=some d->I n ys M->W (c (some d::ρ)) M fun b M1=>(b=true->W (e (some d::ρ)) M1 fun y M2=>I (n + 1) (ys++[y]) M2)/\(b=false->I (n + 1) ys M1))
  (q:∀ ys M,I ds.length ys M->L ys M):W (compD ck c e ρ ds) M L:=by
 suffices H:∀ (r:List D) (n:Nat) (ys:List D) (M:MH),(∀ j d,r[j]?=some d->ds[n + j]?=some d)->n + r.length=ds.length->I n ys M->W (compD ck c e ρ r) M fun zs M'=>L (ys++zs) M' by
  simpa using H ds 0 [] M (fun j d e=>by simpa using e) (by simp) h0
 intro r;induction r with
 | nil =>
  intro n ys M _ hn hI;unfold compD;rw[w_bind];refine W.of (show stand ck M=some (.ok (),M) from if_pos (hs _ _ _ hI)) ?_;rw[w_pure,ya]
  have:n=ds.length:=by simpa using hn
  exact q _ _ (this ▸ hI)
 | cons d r ih =>
  intro n ys M hr hn hI;unfold compD;rw[w_bind];refine W.of (show stand ck M=some (.ok (),M) from if_pos (hs _ _ _ hI)) ?_;rw[w_bind];have hd:ds[n]?=some d:=by simpa using hr 0 d rfl
  have hr':∀ j d',r[j]?=some d'->ds[n + 1 + j]?=some d':=fun j d' e=>by
   have:=hr (j + 1) d' (by simpa using e)
   rwa [show n + (j + 1)=n + 1 + j by omega]at this
  have hn':n + 1 + r.length=ds.length:=by rw[zE]at hn;first | lia | omega
  refine(h n d ys M hd hI).mono fun b M1 hb=>?_;rw[w_if];refine⟨fun hb'=>?_,fun hb'=>ih (n + 1) ys M1 hr' hn' (hb.2 hb')⟩;rw[w_bind];refine(hb.1 hb').mono fun y M2 hI2=>?_;rw[w_bind];refine(ih (n + 1) (ys++[y]) M2 hr' hn' hI2).mono fun zs M3 hL=>?_;rw[w_pure];simpa using hL
noncomputable def loopF (I:Nat->Ev->MH->Prop)(F:Fl->MH->Prop)(n:Nat)(f:Fl)(M1:MH):Prop:=match f with
 | .nx ρ'=>I (n + 1) ρ' M1
 | .ct ρ'=>I (n + 1) ρ' M1
 | .bk ρ'=>F (.nx ρ') M1
 | .rt v=>F (.rt v) M1
theorem lf_nx {I:Nat->Ev->MH->Prop}{F:Fl->MH->Prop}{n:Nat}{ρ:Ev}:loopF I F n (.nx ρ) M=I (n + 1) ρ M:=rfl
theorem lf_ct {I:Nat->Ev->MH->Prop}{F:Fl->MH->Prop}{n:Nat}{ρ:Ev}:loopF I F n (.ct ρ) M=I (n + 1) ρ M:=rfl
theorem lf_bk {I:Nat->Ev->MH->Prop}{F:Fl->MH->Prop}{n:Nat}{ρ:Ev}:loopF I F n (.bk ρ) M=F (.nx ρ) M:=rfl
theorem lf_rt {I:Nat->Ev->MH->Prop}{F:Fl->MH->Prop}{n:Nat}{v:D}:loopF I F n (.rt v) M=F (.rt v) M:=rfl
theorem w_loop {ck:Option (Nat×List D)}{i:Nat}{body:Ev->Mo Fl}{ds:List D}{ρ:Ev}{F:Fl->MH->Prop}(I:Nat->Ev->MH->Prop)(h0:I 0 ρ M)(hs:∀ n ρ M,I n ρ M->okM ck M)
  (h:∀ (n:Nat) (d:D) (ρ:Ev) (M:MH),ds[n]?=some d->I n ρ M->W (body (ρ.set i (some d))) M (loopF I F n))
  (q:∀ ρ M,I ds.length ρ M->F (.nx ρ) M):W (loopD ck i body ds ρ) M F:=by
 suffices H:∀ (r:List D) (n:Nat) (ρ:Ev) (M:MH),(∀ j d,r[j]?=some d->ds[n + j]?=some d)->n + r.length=ds.length->I n ρ M->W (loopD ck i body r ρ) M F from
  H ds 0 ρ M (fun j d e=>by simpa using e) (by simp) h0
 intro r;induction r with
 | nil =>
  intro n ρ M _ hn hI;unfold loopD;rw[w_bind];refine W.of (show stand ck M=some (.ok (),M) from if_pos (hs _ _ _ hI)) ?_;rw[w_pure]
  have:n=ds.length:=by simpa using hn
  exact q _ _ (this ▸ hI)
 | cons d r ih =>
  intro n ρ M hr hn hI;unfold loopD;rw[w_bind];refine W.of (show stand ck M=some (.ok (),M) from if_pos (hs _ _ _ hI)) ?_;rw[w_bind];have hd:ds[n]?=some d:=by simpa using hr 0 d rfl
  have hr':∀ j d',r[j]?=some d'->ds[n + 1 + j]?=some d':=fun j d' e=>by
   have:=hr (j + 1) d' (by simpa using e)
   rwa [show n + (j + 1)=n + 1 + j by omega]at this
  have hn':n + 1 + r.length=ds.length:=by rw[zE]at hn;first | lia | omega
  refine(h n d ρ M hd hI).mono fun f M1 hf=>?_;cases f with
  | nx ρ'=>exact ih (n + 1) ρ' M1 hr' hn' hf
  | ct ρ'=>exact ih (n + 1) ρ' M1 hr' hn' hf
  | bk ρ'=>exact(w_pure _ _ _).mpr hf
  | rt v=>exact(w_pure _ _ _).mpr hf
end
end L3
namespace L3
open PySem
theorem ky_str {x:Str}:kyD (.str x)=some (.inr x):=rfl
theorem ky_int {x:Int}:kyD (.int x)=some (.inl x):=rfl
theorem eq_str {a b:Str}:eqF (.str a) (.str b)=(a==b):=rfl
theorem eq_int {a b:Int}:eqF (.int a) (.int b)=(a==b):=rfl
end L3
namespace L3
open PySem
section
variable {Γ:Ctx}{ρ:Ev}{M:MH}{a b c:IE}{Q:D->MH->Prop}{es:IEs}{x y:D}{B:Bool->MH->Prop}
theorem we_neg:W (semE Γ (.neg a) ρ) M Q=W (semE Γ a ρ) M fun x M1=>∃ i,x=.int i/\Q (.int (-i)) M1:=by
 delta W;simp only[q_semE_neg,v_bind];refine congrArg _ (funext fun x=>funext fun M1=>?_);cases x <;> simp[v_stop,v_pure]
theorem q_semE_sset {Γ:Ctx}:∀ a ρ,semE Γ (.sset a) ρ=(do let x <- semE Γ a ρ;setS x):=fun _ _=>rfl
theorem we_sset:W (semE Γ (.sset a) ρ) M Q=W (semE Γ a ρ) M fun x M1=>W (setS x) M1 Q:=by delta W;simp only[q_semE_sset,v_bind]
theorem y_sset {k:Nat}:W (setS (.ob k)) M Q = ∃ ds,M[k]?=some (.lst ds)/\∃ xs,allI ds=some xs/\(addAll [] xs).length < 4000/\Q (.ob M.length) (M++[.lst ((sortI (addAll [] xs)).map .int)]):=by
 show W (getL k >>= fun ds=>lift (allI ds) >>= fun xs=>need _ >>= fun _=>newM _) M Q=_;delta W;simp only[v_bind,v_getL,v_lift,v_need,v_newM]
theorem q_semE_lrng {Γ:Ctx}:∀ a b c ρ,semE Γ (.lrng a b c) ρ=(do let x <- semE Γ a ρ;let y <- semE Γ b ρ;let z <- semE Γ c ρ;lrngD x y z):=fun _ _ _ _=>rfl
theorem we_lrng:W (semE Γ (.lrng a b c) ρ) M Q=W (semE Γ a ρ) M fun x M1=>W (semE Γ b ρ) M1 fun y M2=>W (semE Γ c ρ) M2 fun z M3=>W (lrngD x y z) M3 Q:=by delta W;simp only[q_semE_lrng,v_bind]
theorem y_lrng {i j st:Int}:W (lrngD (.int i) (.int j) (.int st)) M Q=((small i/\small j/\0 < st/\st < 1073741824/\i < j/\rngN3 i j st<=100000)/\Q (.ob M.length) (M++[.lst (rngL3 i j st)])):=by
 show W (need _ >>= fun _=>newM _) M Q=_;delta W;simp only[v_bind,v_need,v_newM]
theorem q_semE_dic2 {Γ:Ctx}:∀ a b ρ,semE Γ (.dic2 a b) ρ=(do let o <- newM (.dic []);let x <- semE Γ a ρ;let y <- semE Γ b ρ;dic2D o x y):=fun _ _ _=>rfl
theorem we_dic2:W (semE Γ (.dic2 a b) ρ) M Q=W (semE Γ a ρ) (M++[.dic []]) fun x M1=>W (semE Γ b ρ) M1 fun y M2=>W (dic2D (.ob M.length) x y) M2 Q:=by delta W;simp only[q_semE_dic2,v_bind,v_newM]
theorem y_dic2 {k:Nat}{i j:Int}:W (dic2D (.ob k) (.int i) (.int j)) M Q = ∃ kvs,M[k]?=some (.dic kvs)/\kvs.isEmpty=true/\Q (.ob k) (M.set k (.dic (kvPuts [] [(.inl i,.bl true),(.inl j,.bl true)]))):=by
 show W (getD k >>= fun kvs=>need _ >>= fun _=>putM _ _ >>= fun _=>pure _) M Q=_;rw[w_bind,w_getD];refine congrArg _ (funext fun kvs=>?_);refine propext (and_congr_right fun h=>?_);have hl:k < M.length:=(zr.mp h).1;simp only[w_bind,w_need,w_putM,w_pure,hl,true_and]
theorem q_semE_kyr {Γ:Ctx}:∀ d i j ρ,semE Γ (.kyr d i j) ρ=(do let x <- semE Γ (.var d) ρ;let lo <- semE Γ (.var i) ρ;let hi <- semE Γ (.var j) ρ;kyrD x lo hi):=fun _ _ _ _=>rfl
theorem we_kyr {d i j:Nat}:W (semE Γ (.kyr d i j) ρ) M Q=W (semE Γ (.var d) ρ) M fun x M1=>W (semE Γ (.var i) ρ) M1 fun y M2=>W (semE Γ (.var j) ρ) M2 fun z M3=>W (kyrD x y z) M3 Q:=by delta W;simp only[q_semE_kyr,v_bind]
theorem y_kyr {k:Nat}{i j:Int}:W (kyrD (.ob k) (.int i) (.int j)) M Q = ∃ kvs,M[k]?=some (.dic kvs)/\∃ ns,intKeys kvs=some ns/\ns.length<=zn/\Q (.ob M.length) (M++[.lst ((ns.filter fun n=>decide (i<=n)&&decide (n < j)).map .int)]):=by
 show W (getD k >>= fun kvs=>lift _ >>= fun _=>need _ >>= fun _=>newM _) M Q=_;rw[w_bind,w_getD];simp only[w_bind,w_lift,w_need,w_newM]
theorem we_sortL:W (semE Γ (.sortL a) ρ) M Q=W (semE Γ a ρ) M fun x M1=>W (lstD x) M1 fun ds M2=>∃ ys,Γ.srt ds=some ys/\Q (.ob M2.length) (M2++[.lst ys]):=by
 delta W;simp only[q_semE_sortL,v_bind,v_lift,v_newM]
theorem we_intB:W (semE Γ (.intB a) ρ) M Q=W (semE Γ a ρ) M fun x M1=>∃ b,boolD x=some b/\Q (.int (if b then 1 else 0)) M1:=by
 delta W;simp only[q_semE_intB,v_bind,v_lift,v_pure]
theorem we_isI {t:Ty}:W (semE Γ (.isI a t) ρ) M Q=W (semE Γ a ρ) M fun x M1=>W (tyD t x) M1 fun k M2=>Q (.bl k) M2:=by
 delta W;simp only[q_semE_isI,v_bind,v_pure]
theorem we_mth {m:Mt}:W (semE Γ (.mth m a es) ρ) M Q=W (semE Γ a ρ) M fun x M1=>W (rcvD m x) M1 fun _ M2=>W (semEs Γ es ρ) M2 fun xs M3=>W (mtD m x xs) M3 Q:=by
 delta W;simp only[q_semE_mth,v_bind]
theorem p_pow {i j:Int}:W (opD .Pow (.int i) (.int j)) M Q=((0<=j/\j<=1000000/\i.natAbs < 2 ^ 64)/\Q (.int (i ^ j.toNat)) M):=by
 show W (need _ >>= fun _=>pure _) M Q=_;rw[w_bind,w_need,w_pure]
theorem p_rep {i:Str}{j:Int}:W (opD .Mult (.str i) (.int j)) M Q=((2<=j/\j < 1000/\0 < i.length/\i.length < 1000)/\Q (.str (repS i j.toNat)) M):=by
 show W (need _ >>= fun _=>pure _) M Q=_;rw[w_bind,w_need,w_pure]
theorem q_non {t:Ty}:W (tyD t .non) M B=B false M:=w_pure _ M B
theorem q_bl {t:Ty}{k:Bool}:W (tyD t (.bl k)) M B=B (t==.bool||t==.int) M:=w_pure _ M B
theorem q_int {t:Ty}{k:Int}:W (tyD t (.int k)) M B=B (t==.int) M:=w_pure _ M B
theorem q_str {t:Ty}{k:Str}:W (tyD t (.str k)) M B=B (t==.str) M:=w_pure _ M B
theorem q_tup {t:Ty}{k:List D}:W (tyD t (.tup k)) M B=B (t==.tuple) M:=w_pure _ M B
theorem q_fl {t:Ty}{k:List D}:W (tyD t (.fl k)) M B=B (t==.list) M:=w_pure _ M B
theorem i_tup {ds:List D}{L:List D->MH->Prop}:W (itemsD (.tup ds)) M L=L ds M:=w_pure _ M L
theorem i_fl {ds:List D}{L:List D->MH->Prop}:W (itemsD (.fl ds)) M L=L ds M:=w_pure _ M L
theorem i_ob {k:Nat}{L:List D->MH->Prop}:W (itemsD (.ob k)) M L = ∃ ds,M[k]?=some (.lst ds)/\L ds M:=w_getL k M L
theorem l_fl {ds:List D}{L:List D->MH->Prop}:W (lstD (.fl ds)) M L=L ds M:=w_pure _ M L
theorem l_ob {k:Nat}{L:List D->MH->Prop}:W (lstD (.ob k)) M L = ∃ ds,M[k]?=some (.lst ds)/\L ds M:=w_getL k M L
theorem k_listI:W (blD .list [x]) M Q=W (itemsD x) M fun ds M1=>Q (.ob M1.length) (M1++[.lst ds]):=by
 show W (itemsD x >>= fun ds=>newM (.lst ds)) M Q=_;delta W;simp only[v_bind,v_newM]
section
variable {U:Unit->MH->Prop}
theorem r_append {k:Nat}:W (rcvD .append (.ob k)) M U = ∃ ds,M[k]?=some (.lst ds)/\U () M:=by
 show W (getL k >>= fun _=>pure ()) M U=_;delta W;simp only[v_bind,v_getL,v_pure]
theorem r_insert {k:Nat}:W (rcvD .insert (.ob k)) M U = ∃ ds,M[k]?=some (.lst ds)/\U () M:=r_append
theorem r_extend {k:Nat}:W (rcvD .extend (.ob k)) M U = ∃ ds,M[k]?=some (.lst ds)/\U () M:=r_append
theorem r_indexL {k:Nat}:W (rcvD .index (.ob k)) M U = ∃ ds,M[k]?=some (.lst ds)/\U () M:=r_append
theorem r_indexT {k:List D}:W (rcvD .index (.tup k)) M U=U () M:=w_pure _ M U
theorem r_join {k:Str}:W (rcvD .join (.str k)) M U=U () M:=w_pure _ M U
end
theorem w_set {β:Type}{k:Nat}{o:MO}{r:β}{R:β->MH->Prop}{ds:List D}(h:M[k]?=some (.lst ds)):W (putM k o >>= fun _=>pure r) M R=R r (M.set k o):=by
 rw[w_bind,w_putM];have e:W (pure r:Mo β) (M.set k o) R=R r (M.set k o):=w_pure _ _ _;rw[e];simp[lt_of_get h]
theorem m_append {k:Nat}:W (mtD .append (.ob k) [y]) M Q = ∃ ds,M[k]?=some (.lst ds)/\ds.length < zn/\Q .non (M.set k (.lst (ds++[y]))):=by
 show W (getL k >>= fun ds=>need _ >>= fun _=>putM k _ >>= fun _=>pure D.non) M Q=_;rw[w_bind,w_getL];refine congrArg _ (funext fun ds=>propext (and_congr_right fun h=>?_));rw[w_bind,w_need,w_set h]
theorem m_insert {k:Nat}{i:Int}:W (mtD .insert (.ob k) [.int i,y]) M Q = ∃ ds,M[k]?=some (.lst ds)/\(ds.length < zn/\-(2 ^ 62)<=i/\i < 2 ^ 62)/\Q .non (M.set k (.lst (insD ds i y))):=by
 show W (getL k >>= fun ds=>need _ >>= fun _=>putM k _ >>= fun _=>pure D.non) M Q=_;rw[w_bind,w_getL];refine congrArg _ (funext fun ds=>propext (and_congr_right fun h=>?_));rw[w_bind,w_need,w_set h]
theorem m_indexT {ds:List D}:W (mtD .index (.tup ds) [y]) M Q=((flatD y=true/\ds.all flatD=true)/\∃ j,ds.findIdx? (fun d=>eqF d y)=some j/\Q (.int (j:Nat)) M):=by
 show W (need _ >>= fun _=>lift _ >>= fun j=>pure _) M Q=_;delta W;simp only[v_bind,v_need,v_lift,v_pure]
theorem m_indexL {k:Nat}:W (mtD .index (.ob k) [y]) M Q = ∃ ds,M[k]?=some (.lst ds)/\(flatD y=true/\ds.all flatD=true)/\∃ j,ds.findIdx? (fun d=>eqF d y)=some j/\Q (.int (j:Nat)) M:=by
 show W (getL k >>= fun ds=>need _ >>= fun _=>lift _ >>= fun j=>pure _) M Q=_;delta W;simp only[v_bind,v_getL,v_need,v_lift,v_pure]
theorem m_join {t:Str}{k:Nat}:W (mtD .join (.str t) [.ob k]) M Q = ∃ ds,M[k]?=some (.lst ds)/\∃ ys,ds.mapM strD=some ys/\(ys.map (·.length)).sum + ys.length * t.length<=16777216/\Q (.str (joinS t ys)) M:=by
 show W (getL k >>= fun ds=>lift _ >>= fun ys=>need _ >>= fun _=>pure _) M Q=_;delta W;simp only[v_bind,v_getL,v_need,v_lift,v_pure]
theorem m_extendT {k:Nat}{es:List D}:W (mtD .extend (.ob k) [.tup es]) M Q = ∃ ds,M[k]?=some (.lst ds)/\(ds.length + es.length<=zn/\true)/\Q .non (M.set k (.lst (ds++es))):=by
 show W (pure es >>= fun es=>getL k >>= fun ds=>need _ >>= fun _=>putM k _ >>= fun _=>pure D.non) M Q=_;rw[w_bind,w_pure,w_bind,w_getL];refine congrArg _ (funext fun ds=>propext (and_congr_right fun h=>?_));rw[w_bind,w_need,w_set h];simp[isOb]
theorem ws_halt {F:Fl->MH->Prop}:W (semS Γ .halt ρ) M F=False:=w_stop M F
end
section
variable {α:Type}{a b c d e f g:α}{l:List α}
theorem at0:atD (a::l) 0=some a:=by simp[atD,ixD]
theorem at1:atD (a::b::l) 1=some b:=atD_nat (j:=1) rfl
theorem at2:atD (a::b::c::l) 2=some c:=atD_nat (j:=2) rfl
theorem at3:atD (a::b::c::d::l) 3=some d:=atD_nat (j:=3) rfl
end
theorem cut_hi {α:Type}(xs:List α){v:Int}(h:0<=v):cutD xs none (some v)=xs.take v.toNat:=by
 unfold cutD;simp only[cutIx];rw[if_neg (by first | lia | omega),vg,yR]
 by_cases h2:v.toNat<=xs.length
 ·rw[vN h2]
 ·rw[vF (by first | lia | omega),zR,yu (by first | lia | omega)]
theorem cut_lo {α:Type}(xs:List α){v:Int}(h:0<=v):cutD xs (some v) none=xs.drop v.toNat:=by
 unfold cutD;simp only[cutIx];rw[if_neg (by first | lia | omega)]
 by_cases h2:v.toNat<=xs.length
 ·rw[vN h2,yu (by rw[zM];exact zp _)]
 ·rw[vF (by first | lia | omega),xj,xG (by first | lia | omega)]
  simp
theorem nodup_map_range {α:Type}{f:Nat->α}{m:Nat}(h:∀ i j,i < m->j < m->f i=f j->i=j):((List.range m).map f).Nodup:=by
 rw[List.Nodup,List.pairwise_map];refine(List.nodup_range (n:=m)).imp_of_mem fun {a b} ha hb hne he=>hne (h a b (yG.mp ha) (yG.mp hb) he)
theorem eqL_refl {f:D->D->Option Bool}:∀ {xs:List D},(∀ x∈xs,f x x=some true)->eqL f xs xs=some true
 | [],_=>rfl
 | x::xs,h=>by
  unfold eqL;rw[h x zU,eqL_refl fun y hy=>h y (zP _ hy)];rfl
theorem eqF_refl {x:D}(h:flatD x=true):eqF x x=true:=by
 cases x <;> first | rfl | exact absurd h zo | simp[eqF]
theorem eo_reflF {M:MH}{n:Nat}{x:D}(h:flatD x=true):eqO M (n + 1) x x=some true:=by rw[eo_flat h h,eqF_refl h]
noncomputable def plainD:Nat->D->Bool
 | 0,_=>false
 | n + 1,.tup ds=>ds.all (plainD n)
 | _ + 1,d=>flatD d
theorem eo_reflP {M:MH}:∀ {n:Nat} {x:D},plainD n x=true->eqO M n x x=some true
 | 0,_,h=>by cases h
 | n + 1,x,h=>by
  cases x with
  | tup ds =>
   rw[eo_tup];exact eqL_refl fun y hy=>eo_reflP (yf.mp h y hy)
  | fl ds=>cases h
  | ob i=>cases h
  | _=>exact eo_reflF rfl
theorem eo_ob {M:MH}{n i j:Nat}{xs ys:List D}(h1:M[i]?=some (.lst xs))(h2:M[j]?=some (.lst ys)):eqO M (n + 1) (.ob i) (.ob j)=if xs.length=ys.length then eqL (eqO M n) xs ys else some false:=by
 show (match M[i]?,M[j]? with
   | some (.lst xs),some (.lst ys)=>if xs.length=ys.length then eqL (eqO M n) xs ys else some false
   | _,_=>none)=_
 rw[h1,h2]
theorem eo_obP {M:MH}{n i j:Nat}{xs:List D}(h1:M[i]?=some (.lst xs))(h2:M[j]?=some (.lst xs))(h:∀ x∈xs,plainD n x=true):eqO M (n + 1) (.ob i) (.ob j)=some true:=by
 rw[eo_ob h1 h2,if_pos rfl];exact eqL_refl fun x hx=>eo_reflP (h x hx)
noncomputable def dropS:Nat->ISs->ISs
 | 0,s=>s
 | n + 1,.cons _ r=>dropS n r
 | _ + 1,.nil=>.nil
theorem drop_0 {s:ISs}:dropS 0 s=s:=rfl
noncomputable def cutS:Nat->ISs->ISs->ISs
 | 0,_,t=>t
 | n + 1,.cons s r,t=>.cons s (cutS n r t)
 | _ + 1,.nil,t=>t
theorem cut_0 {s t:ISs}:cutS 0 s t=t:=rfl
theorem cut_s {n:Nat}{s:IS}{r t:ISs}:cutS (n + 1) (.cons s r) t=.cons s (cutS n r t):=rfl
theorem cut_S:∀ (n:Nat) (b:ISs),b=cutS n b (dropS n b)
 | 0,_=>rfl
 | n + 1,.cons s r=>congrArg _ (cut_S n r)
 | _ + 1,.nil=>rfl
theorem drop_s {n:Nat}{s:IS}{r:ISs}:dropS (n + 1) (.cons s r)=dropS n r:=rfl
end L3
namespace L3
open PySem
section
variable {Γ:Ctx}{ρ:Ev}{M:MH}{Q:D->MH->Prop}{x y v:D}{a:IE}{s1:ISs}{U:Unit->MH->Prop}{B:Bool->MH->Prop}{S:Src->MH->Prop}{F:Fl->MH->Prop}
theorem q_semS_forZ {Γ:Ctx}:∀ i j a b c ρ,semS Γ (.forZ i j a b c) ρ=(do let x <- semE Γ a ρ;let y <- semE Γ b ρ;let s <- zipL x y;loopZ s.c1 s.c2 i j (semSs Γ c) s.ds ρ):=fun _ _ _ _ _ _=>rfl
theorem ws_forZ {i j:Nat}:W (semS Γ (.forZ i j a b s1) ρ) M F=W (semE Γ a ρ) M fun x M1=>W (semE Γ b ρ) M1 fun y M2=>W (zipL x y) M2 fun s M3=>W (loopZ s.c1 s.c2 i j (semSs Γ s1) s.ds ρ) M3 F:=by delta W;simp only[q_semS_forZ,v_bind]
theorem y_zipL {i j:Nat}{S:ZSr->MH->Prop}:W (zipL (.ob i) (.ob j)) M S = ∃ xs,M[i]?=some (.lst xs)/\∃ ys,M[j]?=some (.lst ys)/\ys.length < xs.length/\S ⟨some (i,xs),some (j,ys),xs.zip ys⟩ M:=by
 show W (getL i >>= fun xs=>getL j >>= fun ys=>need _ >>= fun _=>pure _) M S=_;delta W;simp only[v_bind,v_getL,v_need,v_pure]
theorem w_loopZ {c1 c2:Option (Nat×List D)}{i j:Nat}{body:Ev->Mo Fl}{ds:List (D×D)}(I:Nat->Ev->MH->Prop)(h0:I 0 ρ M)(hs:∀ n ρ M,I n ρ M->okM c1 M/\okM c2 M)
  (h:∀ (n:Nat) (x y:D) (ρ:Ev) (M:MH),ds[n]?=some (x,y)->I n ρ M->W (body ((ρ.set i (some x)).set j (some y))) M (loopF I F n))
  (q:∀ ρ M,I ds.length ρ M->F (.nx ρ) M):W (loopZ c1 c2 i j body ds ρ) M F:=by
 suffices H:∀ (r:List (D×D)) (n:Nat) (ρ:Ev) (M:MH),(∀ j d,r[j]?=some d->ds[n + j]?=some d)->n + r.length=ds.length->I n ρ M->W (loopZ c1 c2 i j body r ρ) M F from
  H ds 0 ρ M (fun j d e=>by simpa using e) (by simp) h0
 intro r;induction r with
 | nil =>
  intro n ρ M _ hn hI;unfold loopZ;rw[w_bind];refine W.of (show stand c1 M=some (.ok (),M) from if_pos (hs _ _ _ hI).1) ?_;rw[w_bind];refine W.of (show stand c2 M=some (.ok (),M) from if_pos (hs _ _ _ hI).2) ?_;rw[w_pure]
  have:n=ds.length:=by simpa using hn
  exact q _ _ (this ▸ hI)
 | cons d r ih =>
  intro n ρ M hr hn hI;unfold loopZ;rw[w_bind];refine W.of (show stand c1 M=some (.ok (),M) from if_pos (hs _ _ _ hI).1) ?_;rw[w_bind];refine W.of (show stand c2 M=some (.ok (),M) from if_pos (hs _ _ _ hI).2) ?_;rw[w_bind];have hd:ds[n]?=some d:=by simpa using hr 0 d rfl
  have hr':∀ j d',r[j]?=some d'->ds[n + 1 + j]?=some d':=fun j d' e=>by
   have:=hr (j + 1) d' (by simpa using e)
   rwa [show n + (j + 1)=n + 1 + j by omega]at this
  have hn':n + 1 + r.length=ds.length:=by rw[zE]at hn;first | lia | omega
  refine(h n d.1 d.2 ρ M hd hI).mono fun f M1 hf=>?_;cases f with
  | nx ρ'=>exact ih (n + 1) ρ' M1 hr' hn' hf
  | ct ρ'=>exact ih (n + 1) ρ' M1 hr' hn' hf
  | bk ρ'=>exact(w_pure _ _ _).mpr hf
  | rt v=>exact(w_pure _ _ _).mpr hf
noncomputable def truO:MO->Bool
 | .lst ds=>!ds.isEmpty
 | .dic kvs=>!kvs.isEmpty
theorem u_ob {k:Nat}:W (truD (.ob k)) M B = ∃ o,M[k]?=some o/\B (truO o) M:=by
 show W (getM k >>= _) M B=_;rw[w_bind,w_getM];refine congrArg _ (funext fun o=>congrArg _ ?_);cases o <;> simp[truO,w_pure]
theorem u_lst {ds:List D}:truO (.lst ds) = !ds.isEmpty:=rfl
end
end L3
namespace L3
open PySem
section
variable {Γ:Ctx}{ρ:Ev}{M:MH}{Q:D->MH->Prop}{d:D}{e:IE}{r:ISs}{F:Fl->MH->Prop}{y:Option D}
theorem v0_:W (semE Γ (.var 0) (some d::ρ)) M Q=Q d M:=by rw[we_var];simp
theorem v1_ {o0:Option D}:W (semE Γ (.var 1) (o0::some d::ρ)) M Q=Q d M:=by rw[we_var];simp
theorem v2_ {o0 o1:Option D}:W (semE Γ (.var 2) (o0::o1::some d::ρ)) M Q=Q d M:=by rw[we_var];simp
theorem v3_ {o0 o1 o2:Option D}:W (semE Γ (.var 3) (o0::o1::o2::some d::ρ)) M Q=Q d M:=by rw[we_var];simp
theorem v4_ {o0 o1 o2 o3:Option D}:W (semE Γ (.var 4) (o0::o1::o2::o3::some d::ρ)) M Q=Q d M:=by rw[we_var];simp
theorem v5_ {o0 o1 o2 o3 o4:Option D}:W (semE Γ (.var 5) (o0::o1::o2::o3::o4::some d::ρ)) M Q=Q d M:=by rw[we_var];simp
theorem v6_ {o0 o1 o2 o3 o4 o5:Option D}:W (semE Γ (.var 6) (o0::o1::o2::o3::o4::o5::some d::ρ)) M Q=Q d M:=by rw[we_var];simp
theorem v7_ {o0 o1 o2 o3 o4 o5 o6:Option D}:W (semE Γ (.var 7) (o0::o1::o2::o3::o4::o5::o6::some d::ρ)) M Q=Q d M:=by rw[we_var];simp
theorem v8_ {o0 o1 o2 o3 o4 o5 o6 o7:Option D}:W (semE Γ (.var 8) (o0::o1::o2::o3::o4::o5::o6::o7::some d::ρ)) M Q=Q d M:=by rw[we_var];simp
theorem v9_ {o0 o1 o2 o3 o4 o5 o6 o7 o8:Option D}:W (semE Γ (.var 9) (o0::o1::o2::o3::o4::o5::o6::o7::o8::some d::ρ)) M Q=Q d M:=by rw[we_var];simp
theorem v10_ {o0 o1 o2 o3 o4 o5 o6 o7 o8 o9:Option D}:W (semE Γ (.var 10) (o0::o1::o2::o3::o4::o5::o6::o7::o8::o9::some d::ρ)) M Q=Q d M:=by rw[we_var];simp
theorem v11_ {o0 o1 o2 o3 o4 o5 o6 o7 o8 o9 o10:Option D}:W (semE Γ (.var 11) (o0::o1::o2::o3::o4::o5::o6::o7::o8::o9::o10::some d::ρ)) M Q=Q d M:=by rw[we_var];simp
theorem v12_ {o0 o1 o2 o3 o4 o5 o6 o7 o8 o9 o10 o11:Option D}:W (semE Γ (.var 12) (o0::o1::o2::o3::o4::o5::o6::o7::o8::o9::o10::o11::some d::ρ)) M Q=Q d M:=by rw[we_var];simp
theorem v13_ {o0 o1 o2 o3 o4 o5 o6 o7 o8 o9 o10 o11 o12:Option D}:W (semE Γ (.var 13) (o0::o1::o2::o3::o4::o5::o6::o7::o8::o9::o10::o11::o12::some d::ρ)) M Q=Q d M:=by rw[we_var];simp
theorem v14_ {o0 o1 o2 o3 o4 o5 o6 o7 o8 o9 o10 o11 o12 o13:Option D}:W (semE Γ (.var 14) (o0::o1::o2::o3::o4::o5::o6::o7::o8::o9::o10::o11::o12::o13::some d::ρ)) M Q=Q d M:=by rw[we_var];simp
theorem v15_ {o0 o1 o2 o3 o4 o5 o6 o7 o8 o9 o10 o11 o12 o13 o14:Option D}:W (semE Γ (.var 15) (o0::o1::o2::o3::o4::o5::o6::o7::o8::o9::o10::o11::o12::o13::o14::some d::ρ)) M Q=Q d M:=by rw[we_var];simp
theorem s0_:W (semSs Γ (.cons (.set 0 e) r) (y::ρ)) M F=W (semE Γ e (y::ρ)) M fun x M1=>W (semSs Γ r (some x::ρ)) M1 F:=by rw[ws_cons,ws_set];rfl
theorem s1_ {o0:Option D}:W (semSs Γ (.cons (.set 1 e) r) (o0::y::ρ)) M F=W (semE Γ e (o0::y::ρ)) M fun x M1=>W (semSs Γ r (o0::some x::ρ)) M1 F:=by rw[ws_cons,ws_set];rfl
theorem s2_ {o0 o1:Option D}:W (semSs Γ (.cons (.set 2 e) r) (o0::o1::y::ρ)) M F=W (semE Γ e (o0::o1::y::ρ)) M fun x M1=>W (semSs Γ r (o0::o1::some x::ρ)) M1 F:=by rw[ws_cons,ws_set];rfl
theorem s3_ {o0 o1 o2:Option D}:W (semSs Γ (.cons (.set 3 e) r) (o0::o1::o2::y::ρ)) M F=W (semE Γ e (o0::o1::o2::y::ρ)) M fun x M1=>W (semSs Γ r (o0::o1::o2::some x::ρ)) M1 F:=by rw[ws_cons,ws_set];rfl
theorem s4_ {o0 o1 o2 o3:Option D}:W (semSs Γ (.cons (.set 4 e) r) (o0::o1::o2::o3::y::ρ)) M F=W (semE Γ e (o0::o1::o2::o3::y::ρ)) M fun x M1=>W (semSs Γ r (o0::o1::o2::o3::some x::ρ)) M1 F:=by rw[ws_cons,ws_set];rfl
theorem s5_ {o0 o1 o2 o3 o4:Option D}:W (semSs Γ (.cons (.set 5 e) r) (o0::o1::o2::o3::o4::y::ρ)) M F=W (semE Γ e (o0::o1::o2::o3::o4::y::ρ)) M fun x M1=>W (semSs Γ r (o0::o1::o2::o3::o4::some x::ρ)) M1 F:=by rw[ws_cons,ws_set];rfl
theorem s6_ {o0 o1 o2 o3 o4 o5:Option D}:W (semSs Γ (.cons (.set 6 e) r) (o0::o1::o2::o3::o4::o5::y::ρ)) M F=W (semE Γ e (o0::o1::o2::o3::o4::o5::y::ρ)) M fun x M1=>W (semSs Γ r (o0::o1::o2::o3::o4::o5::some x::ρ)) M1 F:=by rw[ws_cons,ws_set];rfl
theorem s7_ {o0 o1 o2 o3 o4 o5 o6:Option D}:W (semSs Γ (.cons (.set 7 e) r) (o0::o1::o2::o3::o4::o5::o6::y::ρ)) M F=W (semE Γ e (o0::o1::o2::o3::o4::o5::o6::y::ρ)) M fun x M1=>W (semSs Γ r (o0::o1::o2::o3::o4::o5::o6::some x::ρ)) M1 F:=by rw[ws_cons,ws_set];rfl
theorem s8_ {o0 o1 o2 o3 o4 o5 o6 o7:Option D}:W (semSs Γ (.cons (.set 8 e) r) (o0::o1::o2::o3::o4::o5::o6::o7::y::ρ)) M F=W (semE Γ e (o0::o1::o2::o3::o4::o5::o6::o7::y::ρ)) M fun x M1=>W (semSs Γ r (o0::o1::o2::o3::o4::o5::o6::o7::some x::ρ)) M1 F:=by rw[ws_cons,ws_set];rfl
theorem s9_ {o0 o1 o2 o3 o4 o5 o6 o7 o8:Option D}:W (semSs Γ (.cons (.set 9 e) r) (o0::o1::o2::o3::o4::o5::o6::o7::o8::y::ρ)) M F=W (semE Γ e (o0::o1::o2::o3::o4::o5::o6::o7::o8::y::ρ)) M fun x M1=>W (semSs Γ r (o0::o1::o2::o3::o4::o5::o6::o7::o8::some x::ρ)) M1 F:=by rw[ws_cons,ws_set];rfl
theorem s10_ {o0 o1 o2 o3 o4 o5 o6 o7 o8 o9:Option D}:W (semSs Γ (.cons (.set 10 e) r) (o0::o1::o2::o3::o4::o5::o6::o7::o8::o9::y::ρ)) M F=W (semE Γ e (o0::o1::o2::o3::o4::o5::o6::o7::o8::o9::y::ρ)) M fun x M1=>W (semSs Γ r (o0::o1::o2::o3::o4::o5::o6::o7::o8::o9::some x::ρ)) M1 F:=by rw[ws_cons,ws_set];rfl
theorem s11_ {o0 o1 o2 o3 o4 o5 o6 o7 o8 o9 o10:Option D}:W (semSs Γ (.cons (.set 11 e) r) (o0::o1::o2::o3::o4::o5::o6::o7::o8::o9::o10::y::ρ)) M F=W (semE Γ e (o0::o1::o2::o3::o4::o5::o6::o7::o8::o9::o10::y::ρ)) M fun x M1=>W (semSs Γ r (o0::o1::o2::o3::o4::o5::o6::o7::o8::o9::o10::some x::ρ)) M1 F:=by rw[ws_cons,ws_set];rfl
theorem s12_ {o0 o1 o2 o3 o4 o5 o6 o7 o8 o9 o10 o11:Option D}:W (semSs Γ (.cons (.set 12 e) r) (o0::o1::o2::o3::o4::o5::o6::o7::o8::o9::o10::o11::y::ρ)) M F=W (semE Γ e (o0::o1::o2::o3::o4::o5::o6::o7::o8::o9::o10::o11::y::ρ)) M fun x M1=>W (semSs Γ r (o0::o1::o2::o3::o4::o5::o6::o7::o8::o9::o10::o11::some x::ρ)) M1 F:=by rw[ws_cons,ws_set];rfl
theorem s13_ {o0 o1 o2 o3 o4 o5 o6 o7 o8 o9 o10 o11 o12:Option D}:W (semSs Γ (.cons (.set 13 e) r) (o0::o1::o2::o3::o4::o5::o6::o7::o8::o9::o10::o11::o12::y::ρ)) M F=W (semE Γ e (o0::o1::o2::o3::o4::o5::o6::o7::o8::o9::o10::o11::o12::y::ρ)) M fun x M1=>W (semSs Γ r (o0::o1::o2::o3::o4::o5::o6::o7::o8::o9::o10::o11::o12::some x::ρ)) M1 F:=by rw[ws_cons,ws_set];rfl
theorem s14_ {o0 o1 o2 o3 o4 o5 o6 o7 o8 o9 o10 o11 o12 o13:Option D}:W (semSs Γ (.cons (.set 14 e) r) (o0::o1::o2::o3::o4::o5::o6::o7::o8::o9::o10::o11::o12::o13::y::ρ)) M F=W (semE Γ e (o0::o1::o2::o3::o4::o5::o6::o7::o8::o9::o10::o11::o12::o13::y::ρ)) M fun x M1=>W (semSs Γ r (o0::o1::o2::o3::o4::o5::o6::o7::o8::o9::o10::o11::o12::o13::some x::ρ)) M1 F:=by rw[ws_cons,ws_set];rfl
theorem s15_ {o0 o1 o2 o3 o4 o5 o6 o7 o8 o9 o10 o11 o12 o13 o14:Option D}:W (semSs Γ (.cons (.set 15 e) r) (o0::o1::o2::o3::o4::o5::o6::o7::o8::o9::o10::o11::o12::o13::o14::y::ρ)) M F=W (semE Γ e (o0::o1::o2::o3::o4::o5::o6::o7::o8::o9::o10::o11::o12::o13::o14::y::ρ)) M fun x M1=>W (semSs Γ r (o0::o1::o2::o3::o4::o5::o6::o7::o8::o9::o10::o11::o12::o13::o14::some x::ρ)) M1 F:=by rw[ws_cons,ws_set];rfl
end
end L3
local macro_rules | `(tactic| walk_at $s:str)=>do
 unless s.getString=="wp"||s.getString=="ws" do Lean.Macro.throwUnsupported
 let a <- (("v0_ v1_ v2_ v3_ v4_ v5_ v6_ v7_ v8_ v9_ v10_ v11_ v12_ v13_ v14_ v15_ s0_ s1_ s2_ s3_ s4_ s5_ s6_ s7_ s8_ s9_ s10_ s11_ s12_ s13_ s14_ s15_".splitOn " ").toArray.map fun s=>Lean.mkIdent (`L3++s.toName)).mapM fun i=>`(Lean.Parser.Tactic.simpLemma| ↓ $i:ident)
 let b <- ((("lf_nx we_lrng y_lrng we_dic2 y_dic2 we_kyr y_kyr ws_forZ y_zipL u_tup lf_ct lf_bk lf_rt u_ob u_lst w_bind w_pure we_var we_int we_bl we_non we_str we_glb we_bin we_cmp we_cmp2 we_and we_ifE we_tup we_lst we_dic0 we_idx we_slc we_call we_blt we_comp we_sortL we_sset y_sset we_intB we_neg we_isI we_mth ws_halt wes_nil wes_cons wo_none wo_some wt_seq wt_rng1 wc_cmp wc_tru wc_not wc_and wc_or wco_none wco_some nxt_nx nxt_rt nxt_bk nxt_ct ws_nil ws_cons ws_set ws_setIx ws_expr ws_ret ws_retN ws_pass ws_brk ws_cnt ws_if ws_for end_nx end_rt p_addI p_subI p_addS p_addT p_addL p_mul p_div p_mod p_eqI p_eqS p_neI p_pow p_rep p_ltI p_leI p_gtI p_geI p_leS p_ltS p_in p_inS p_inT p_inO w_inMo p_isnot g_tup g_fl g_str g_obl g_obd g_ob t_obl t_obd t_ob z_str z_lst z_fl z_tup k_lenS k_lenO k_lenl k_lend k_lenT k_lenF k_tupL k_listI i_tup i_fl i_ob l_fl l_ob q_non q_bl q_int q_str q_tup q_fl r_append r_insert r_extend r_indexL r_indexT r_join m_append m_insert m_indexT m_indexL m_join m_extendT at0 at1 at2 at3 k_any k_max y_tup y_fl y_lst u_bl u_int b_bl w_lift w_need w_newM w_getL w_getM ky_str ky_int D.int.injEq D.bl.injEq D.ob.injEq MO.lst.injEq MO.dic.injEq".replace " ws_if " (if s.getString=="wp" then " ws_if " else " ws_sel sel_t sel_f ")).splitOn " ").toArray.map fun s=>Lean.mkIdent (`L3++s.toName)).mapM fun i=>`(Lean.Parser.Tactic.simpLemma| $i:ident)
 let c <- (("List.getElem?_cons_zero List.getElem?_cons_succ List.set_cons_zero List.set_cons_succ Option.some.injEq exists_eq_left' List.map_cons List.map_nil List.cons_append List.nil_append List.replicate_succ List.replicate_zero List.length_cons List.length_nil true_and and_true Nat.reduceAdd Nat.reduceSub".splitOn " ").toArray.map fun s=>Lean.mkIdent s.toName).mapM fun i=>`(Lean.Parser.Tactic.simpLemma| $i:ident)
 let l:=a++b++c
 `(tactic| try simp only[$l,*])
local macro_rules | `(tactic| walk_at "wq")=>`(tactic| (walk_at "wp";try simp only[vU,wT,yo,vn,false_implies,true_implies,implies_true,true_and,and_true]))
local macro_rules | `(tactic| walk_at "wr")=>`(tactic| (walk_at "ws";try simp only[vU,wT,yo,vn,false_implies,true_implies,implies_true,true_and,and_true]))
local macro_rules | `(tactic| walk_at "o")=>`(tactic| first | decide | exact L3.le_line (by decide) | with_reducible exact Int.add_nonneg (by assumption) (by decide) | with_reducible exact L3.up_ (by assumption) (by with_reducible decide) | lia | omega)
namespace L3
open PySem
noncomputable def prD (p:Str×Str):D:=.tup [.str p.1,.str p.2]
noncomputable def unD:D->Str×Str
 | .tup [.str a,.str b]=>(a,b)
 | _=>("","")
theorem unD_prD (p:Str×Str):unD (prD p)=p:=rfl
end L3
namespace Law
open PySem L3
noncomputable def gl (_:Str):Option D:=none
noncomputable def b_turn_of:ISs :=
 (.cons (.set 2 (.idx (.var 0) (.cint 0)))
  (.cons (.ret (.idx (.var 2) (.bin .Mod (.bin .FloorDiv (.bin .Sub (.var 1) (.idx (.var 0) (.cint 1))) (.idx (.var 0) (.cint 2))) (.blt .len (.cons (.var 2) .nil)))))
  .nil))
noncomputable def b_swapped:ISs :=
 (.cons (.set 3 (.var 0))
  (.cons (.forS 4 (.seq (.var 1)) (.cons (.ifS (.and (.cmp (.cmp2 .LtE .Lt (.idx (.var 4) (.cint 2)) (.var 2) (.idx (.var 4) (.cint 3)))) (.cmp (.cmp .In (.var 3) (.slc (.var 4) .none (.some (.cint 2)))))) (.cons (.set 3 (.ifE (.cmp (.cmp .Eq (.var 3) (.idx (.var 4) (.cint 0)))) (.idx (.var 4) (.cint 1)) (.idx (.var 4) (.cint 0))))
  .nil) .nil)
  .nil))
  (.cons (.ret (.var 3))
  .nil)))
noncomputable def b_is_away:ISs :=
 (.cons (.ret (.blt .any (.cons (.comp 3 (.seq (.var 1)) .none (.and (.cmp .Eq (.idx (.var 0) (.cint 0)) (.var 1)) (.cmp2 .LtE .Lt (.idx (.var 0) (.cint 1)) (.var 3) (.idx (.var 0) (.cint 2))))) .nil)))
  .nil)
noncomputable def b_hand_on:ISs :=
 (.cons (.set 4 (.idx (.var 0) (.cint 0)))
  (.cons (.set 5 (.mth .index (.var 4) (.cons (.call ("swapped" : Str) (.cons (.call ("turn_of" : Str) (.cons (.var 0) (.cons (.var 3) .nil))) (.cons (.var 1) (.cons (.var 3) .nil)))) .nil)))
  (.cons (.forS 6 (.seq (.bin .Add (.slc (.var 4) (.some (.var 5)) .none) (.slc (.var 4) .none (.some (.var 5))))) (.cons (.ifS (.not (.tru (.call ("is_away" : Str) (.cons (.var 6) (.cons (.var 2) (.cons (.var 3) .nil)))))) (.cons (.ret (.var 6))
  .nil) .nil)
  .nil))
  (.cons (.ret .cnon)
  .nil))))
noncomputable def b_edges:ISs :=
 (.cons (.set 5 (.bin .Sub (.var 3) (.bin .Mod (.bin .Sub (.var 3) (.idx (.var 0) (.cint 1))) (.idx (.var 0) (.cint 2)))))
  (.cons (.set 6 (.lrng (.var 5) (.var 4) (.idx (.var 0) (.cint 2))))
  (.cons (.forS 7 (.seq (.var 1)) (.cons (.expr (.mth .extend (.var 6) (.cons (.slc (.var 7) (.some (.cint 2)) .none) .nil)))
  .nil))
  (.cons (.forS 8 (.seq (.var 2)) (.cons (.expr (.mth .extend (.var 6) (.cons (.slc (.var 8) (.some (.cint 1)) .none) .nil)))
  .nil))
  (.cons (.ret (.bin .Add (.bin .Add (.lst (.cons (.var 3) .nil)) (.sset (.comp 9 (.seq (.var 6)) (.some (.cmp (.cmp2 .Lt .Lt (.var 4) (.var 0) (.var 5)))) (.var 0)))) (.lst (.cons (.var 4) .nil))))
  .nil)))))
noncomputable def b_hours:ISs :=
 (.cons (.set 5 (.call ("edges" : Str) (.cons (.var 0) (.cons (.var 1) (.cons (.var 2) (.cons (.var 3) (.cons (.var 4) .nil)))))))
  (.cons (.set 6 (.lst .nil))
  (.cons (.forZ 7 8 (.var 5) (.slc (.var 5) (.some (.cint 1)) .none) (.cons (.set 9 (.call ("hand_on" : Str) (.cons (.var 0) (.cons (.var 1) (.cons (.var 2) (.cons (.var 7) .nil))))))
  (.cons (.ifS (.and (.tru (.var 6)) (.cmp (.cmp .Eq (.idx (.idx (.var 6) (.neg (.cint 1))) (.cint 2)) (.var 9)))) (.cons (.setIx (.var 6) (.neg (.cint 1)) (.tup (.cons (.idx (.idx (.var 6) (.neg (.cint 1))) (.cint 0)) (.cons (.var 8) (.cons (.var 9) .nil)))))
  .nil) (.cons (.expr (.mth .append (.var 6) (.cons (.tup (.cons (.var 7) (.cons (.var 8) (.cons (.var 9) .nil)))) .nil)))
  .nil))
  .nil)))
  (.cons (.ret (.var 6))
  .nil))))
noncomputable def b__law_mixed:ISs :=
 (.cons (.set 2 (.bin .Add (.bin .Mult (.bin .Mult (.var 1) (.var 1)) (.cint 7919)) (.cint 11)))
  (.cons (.ifS (.cmp (.cmp .Gt (.blt .len (.cons (.var 0) .nil)) (.cint 0))) (.cons (.set 2 (.bin .Add (.var 2) (.idx (.var 0) (.bin .Mod (.var 1) (.blt .len (.cons (.var 0) .nil))))))
  .nil) .nil)
  (.cons (.ret (.var 2))
  .nil)))
noncomputable def b__law_pick:ISs :=
 (.cons (.ret (.bin .Mod (.bin .Mod (.bin .Mult (.call ("_law_mixed" : Str) (.cons (.var 0) (.cons (.var 1) .nil))) (.cint 48271)) (.cint 2147483647)) (.var 2)))
  .nil)
noncomputable def b__law_words:ISs :=
 (.cons (.set 4 (.mth .join (.cstr ("" : Str)) (.cons (.comp 9 (.rng1 (.cint 8)) .none (.idx (.var 3) (.call ("_law_pick" : Str) (.cons (.var 1) (.cons (.bin .Add (.var 2) (.var 0)) (.cons (.blt .len (.cons (.var 3) .nil)) .nil)))))) .nil)))
  (.cons (.set 5 (.call ("_law_pick" : Str) (.cons (.var 0) (.cons (.bin .Add (.var 1) (.cint 8)) (.cons (.cint 3) .nil)))))
  (.cons (.ifS (.cmp (.cmp .Eq (.var 5) (.cint 0))) (.cons (.ret (.comp 9 (.rng1 (.var 3)) .none (.slc (.var 5) .none (.some (.bin .Add (.var 0) (.cint 1))))))
  .nil) .nil)
  (.cons (.set 6 (.call ("_law_pick" : Str) (.cons (.var 0) (.cons (.bin .Add (.var 1) (.cint 9)) (.cons (.cint 8) .nil)))))
  (.cons (.set 7 (.call ("_law_pick" : Str) (.cons (.var 0) (.cons (.bin .Add (.var 1) (.cint 10)) (.cons (.blt .len (.cons (.var 2) .nil)) .nil)))))
  (.cons (.set 8 (.lst .nil))
  (.cons (.forS 9 (.rng1 (.var 3)) (.cons (.set 10 (.idx (.var 2) (.bin .Mod (.bin .Add (.var 7) (.var 9)) (.blt .len (.cons (.var 2) .nil)))))
  (.cons (.expr (.mth .append (.var 8) (.cons (.bin .Add (.bin .Add (.slc (.var 4) .none (.some (.var 6))) (.var 10)) (.slc (.var 4) (.some (.bin .Add (.var 6) (.cint 1))) .none)) .nil)))
  .nil)))
  (.cons (.ifS (.cmp (.cmp .Eq (.var 5) (.cint 1))) (.cons (.ret (.var 8))
  .nil) .nil)
  (.cons (.ret (.comp 11 (.seq (.var 8)) .none (.slc (.var 0) .none (.some (.bin .Add (.var 7) (.cint 1))))))
  .nil)))))))))
noncomputable def b__law_number:ISs :=
 (.cons (.set 3 (.call ("_law_mixed" : Str) (.cons (.var 0) (.cons (.var 1) .nil))))
  (.cons (.set 4 (.idx (.lst (.cons (.cint 9) (.cons (.cint 60) (.cons (.bin .Pow (.cint 10) (.cint 6)) (.cons (.var 2) .nil))))) (.bin .Mod (.bin .Mod (.bin .Mult (.var 3) (.cint 69621)) (.cint 2147483629)) (.cint 4))))
  (.cons (.ret (.bin .Mod (.bin .Mult (.var 3) (.bin .Pow (.cint 48271) (.cint 4))) (.bin .Add (.var 4) (.cint 1))))
  .nil)))
noncomputable def b__law_mixed_up:ISs :=
 (.cons (.set 3 (.lst .nil))
  (.cons (.forS 4 (.rng1 (.blt .len (.cons (.var 2) .nil))) (.cons (.expr (.mth .insert (.var 3) (.cons (.call ("_law_pick" : Str) (.cons (.var 0) (.cons (.bin .Add (.var 1) (.var 4)) (.cons (.bin .Add (.var 4) (.cint 1)) .nil)))) (.cons (.idx (.var 2) (.var 4)) .nil))))
  .nil))
  (.cons (.ret (.var 3))
  .nil)))
noncomputable def b__law_rota:ISs :=
 (.cons (.set 3 (.call ("_law_mixed_up" : Str) (.cons (.var 0) (.cons (.bin .Add (.var 1) (.cint 11)) (.cons (.call ("_law_words" : Str) (.cons (.var 0) (.cons (.var 1) (.cons (.cstr ("abcdefghijklmnopqrstuvwxyz" : Str)) (.cons (.cint 8) .nil))))) .nil)))))
  (.cons (.set 4 (.call ("_law_number" : Str) (.cons (.var 0) (.cons (.bin .Add (.var 1) (.cint 19)) (.cons (.bin .Pow (.cint 10) (.cint 11)) .nil)))))
  (.cons (.set 5 (.idx (.lst (.cons (.cint 1) (.cons (.cint 2) (.cons (.cint 3) (.cons (.cint 7) (.cons (.cint 24) (.cons (.bin .Pow (.cint 10) (.cint 6)) (.cons (.bin .Pow (.cint 10) (.cint 9)) .nil)))))))) (.call ("_law_pick" : Str) (.cons (.var 0) (.cons (.bin .Add (.var 1) (.cint 20)) (.cons (.cint 7) .nil))))))
  (.cons (.ret (.tup (.cons (.blt .tuple (.cons (.slc (.var 3) .none (.some (.bin .Add (.cint 1) (.call ("_law_pick" : Str) (.cons (.var 0) (.cons (.bin .Add (.var 1) (.cint 21)) (.cons (.var 2) .nil))))))) .nil)) (.cons (.var 4) (.cons (.var 5) .nil)))))
  .nil))))
noncomputable def b__law_swaps:ISs :=
 (.cons (.set 5 (.lst .nil))
  (.cons (.forS 6 (.rng1 (.var 4)) (.cons (.set 7 (.call ("_law_pick" : Str) (.cons (.var 0) (.cons (.bin .Add (.var 1) (.bin .Mult (.cint 4) (.var 6))) (.cons (.blt .len (.cons (.var 2) .nil)) .nil)))))
  (.cons (.set 8 (.bin .Mod (.bin .Add (.bin .Add (.var 7) (.cint 1)) (.call ("_law_pick" : Str) (.cons (.var 0) (.cons (.bin .Add (.bin .Add (.var 1) (.bin .Mult (.cint 4) (.var 6))) (.cint 1)) (.cons (.bin .Sub (.blt .len (.cons (.var 2) .nil)) (.cint 1)) .nil))))) (.blt .len (.cons (.var 2) .nil))))
  (.cons (.set 9 (.blt .max2 (.cons (.cint 0) (.cons (.bin .Sub (.bin .Add (.var 3) (.cint 2)) (.call ("_law_pick" : Str) (.cons (.var 0) (.cons (.bin .Add (.bin .Add (.var 1) (.bin .Mult (.cint 4) (.var 6))) (.cint 2)) (.cons (.cint 8) .nil))))) .nil))))
  (.cons (.expr (.mth .append (.var 5) (.cons (.tup (.cons (.idx (.var 2) (.var 7)) (.cons (.idx (.var 2) (.var 8)) (.cons (.var 9) (.cons (.bin .Add (.bin .Add (.var 9) (.cint 1)) (.call ("_law_pick" : Str) (.cons (.var 0) (.cons (.bin .Add (.bin .Add (.var 1) (.bin .Mult (.cint 4) (.var 6))) (.cint 3)) (.cons (.cint 9) .nil))))) .nil))))) .nil)))
  .nil)))))
  (.cons (.ret (.var 5))
  .nil)))
noncomputable def b__law_swapped:ISs :=
 (.cons (.forS 3 (.seq (.var 1)) (.cons (.set 4 (.blt .list (.cons (.slc (.var 3) .none (.some (.cint 2))) .nil)))
  (.cons (.ifS (.and (.cmp (.cmp .LtE (.idx (.var 3) (.cint 2)) (.var 2))) (.and (.cmp (.cmp .Lt (.var 2) (.idx (.var 3) (.cint 3)))) (.cmp (.cmp .In (.var 0) (.var 4))))) (.cons (.set 0 (.idx (.var 4) (.bin .Sub (.cint 1) (.mth .index (.var 4) (.cons (.var 0) .nil)))))
  .nil) .nil)
  .nil)))
  (.cons (.ret (.var 0))
  .nil))
noncomputable def b__law_absences:ISs :=
 (.cons (.set 5 (.lst .nil))
  (.cons (.forS 6 (.rng1 (.var 4)) (.cons (.set 7 (.blt .max2 (.cons (.cint 0) (.cons (.bin .Sub (.bin .Add (.var 3) (.cint 2)) (.call ("_law_pick" : Str) (.cons (.var 0) (.cons (.bin .Add (.var 1) (.bin .Mult (.cint 3) (.var 6))) (.cons (.cint 8) .nil))))) .nil))))
  (.cons (.set 8 (.idx (.var 2) (.call ("_law_pick" : Str) (.cons (.var 0) (.cons (.bin .Add (.bin .Add (.var 1) (.bin .Mult (.cint 3) (.var 6))) (.cint 1)) (.cons (.blt .len (.cons (.var 2) .nil)) .nil))))))
  (.cons (.expr (.mth .append (.var 5) (.cons (.tup (.cons (.var 8) (.cons (.var 7) (.cons (.bin .Add (.bin .Add (.var 7) (.cint 1)) (.call ("_law_pick" : Str) (.cons (.var 0) (.cons (.bin .Add (.bin .Add (.var 1) (.bin .Mult (.cint 3) (.var 6))) (.cint 2)) (.cons (.cint 9) .nil))))) .nil)))) .nil)))
  .nil))))
  (.cons (.ret (.var 5))
  .nil)))
noncomputable def b__law_here:ISs :=
 (.cons (.ret (.cmp .Eq (.comp 3 (.seq (.var 1)) (.some (.and (.cmp (.cmp .Eq (.idx (.var 0) (.cint 0)) (.var 1))) (.and (.cmp (.cmp .LtE (.idx (.var 0) (.cint 1)) (.var 3))) (.cmp (.cmp .Lt (.var 3) (.idx (.var 0) (.cint 2))))))) (.var 0)) (.lst .nil)))
  .nil)
noncomputable def b__law_hand_on:ISs :=
 (.cons (.set 4 (.idx (.var 0) (.cint 0)))
  (.cons (.set 5 (.bin .Mod (.bin .Sub (.var 3) (.idx (.var 0) (.cint 1))) (.bin .Mult (.idx (.var 0) (.cint 2)) (.blt .len (.cons (.var 4) .nil)))))
  (.cons (.set 6 (.call ("_law_swapped" : Str) (.cons (.idx (.var 4) (.bin .FloorDiv (.var 5) (.idx (.var 0) (.cint 2)))) (.cons (.var 1) (.cons (.var 3) .nil)))))
  (.cons (.set 7 (.mth .index (.var 4) (.cons (.var 6) .nil)))
  (.cons (.set 8 (.comp 9 (.seq (.bin .Add (.slc (.var 4) (.some (.var 7)) .none) (.slc (.var 4) .none (.some (.var 7))))) (.some (.tru (.call ("_law_here" : Str) (.cons (.var 0) (.cons (.var 3) (.cons (.var 4) .nil)))))) (.var 0)))
  (.cons (.ifS (.cmp (.cmp .Eq (.var 8) (.lst .nil))) (.cons (.ret .cnon)
  .nil) .nil)
  (.cons (.ret (.idx (.var 8) (.cint 0)))
  .nil)))))))
noncomputable def b__law_end_to_end:ISs :=
 (.cons (.ifS (.or (.not (.tru (.isI (.var 0) .list))) (.cmp (.cmp .Eq (.var 0) (.lst .nil)))) (.cons (.ret (.cbl false))
  .nil) .nil)
  (.cons (.set 3 (.var 1))
  (.cons (.forS 4 (.rng1 (.blt .len (.cons (.var 0) .nil))) (.cons (.set 5 (.idx (.var 0) (.var 4)))
  (.cons (.ifS (.or (.not (.tru (.isI (.var 5) .tuple))) (.or (.cmp (.cmp .NotEq (.blt .len (.cons (.var 5) .nil)) (.cint 3))) (.or (.cmp (.cmp .NotEq (.idx (.var 5) (.cint 0)) (.var 3))) (.tru (.isI (.idx (.var 5) (.cint 1)) .bool))))) (.cons (.ret (.cbl false))
  .nil) .nil)
  (.cons (.ifS (.or (.not (.tru (.isI (.idx (.var 5) (.cint 0)) .int))) (.or (.not (.tru (.isI (.idx (.var 5) (.cint 1)) .int))) (.cmp (.cmp .LtE (.idx (.var 5) (.cint 1)) (.idx (.var 5) (.cint 0)))))) (.cons (.ret (.cbl false))
  .nil) .nil)
  (.cons (.ifS (.or (.and (.cmp (.cmp .IsNot (.idx (.var 5) (.cint 2)) .cnon)) (.not (.tru (.isI (.idx (.var 5) (.cint 2)) .str)))) (.and (.cmp (.cmp .Gt (.var 4) (.cint 0))) (.cmp (.cmp .Eq (.idx (.idx (.var 0) (.bin .Sub (.var 4) (.cint 1))) (.cint 2)) (.idx (.var 5) (.cint 2)))))) (.cons (.ret (.cbl false))
  .nil) .nil)
  (.cons (.set 3 (.idx (.var 5) (.cint 1)))
  .nil))))))
  (.cons (.ret (.cmp .Eq (.var 3) (.var 2)))
  .nil))))
noncomputable def b__law_turns:ISs :=
 (.cons (.set 5 (.dic2 (.var 3) (.bin .Sub (.var 4) (.cint 1))))
  (.cons (.set 6 (.bin .Sub (.bin .Add (.var 3) (.idx (.var 0) (.cint 2))) (.bin .Mod (.bin .Sub (.var 3) (.idx (.var 0) (.cint 1))) (.idx (.var 0) (.cint 2)))))
  (.cons (.whileS (.cmp (.cmp .Lt (.var 6) (.var 4))) (.cons (.setIx (.var 5) (.var 6) (.cbl true))
  (.cons (.set 6 (.bin .Add (.var 6) (.idx (.var 0) (.cint 2))))
  .nil)))
  (.cons (.forS 7 (.seq (.bin .Add (.var 1) (.var 2))) (.cons (.setIx (.var 5) (.idx (.var 7) (.neg (.cint 2))) (.cbl true))
  (.cons (.setIx (.var 5) (.idx (.var 7) (.neg (.cint 1))) (.cbl true))
  .nil)))
  (.cons (.ret (.sortL (.kyr 5 3 4)))
  .nil)))))
noncomputable def b_law:ISs :=
 (.cons (.set 1 (.call ("_law_rota" : Str) (.cons (.var 0) (.cons (.cint 0) (.cons (.cint 8) .nil)))))
  (.cons (.set 2 (.call ("_law_number" : Str) (.cons (.var 0) (.cons (.cint 22) (.cons (.bin .Pow (.cint 10) (.cint 11)) .nil)))))
  (.cons (.set 3 (.bin .Add (.bin .Add (.bin .Add (.var 2) (.cint 1)) (.bin .Mult (.call ("_law_pick" : Str) (.cons (.var 0) (.cons (.cint 23) (.cons (.cint 9) .nil)))) (.idx (.var 1) (.cint 2)))) (.call ("_law_pick" : Str) (.cons (.var 0) (.cons (.cint 24) (.cons (.cint 12) .nil))))))
  (.cons (.ifS (.cmp (.cmp .Eq (.call ("_law_pick" : Str) (.cons (.var 0) (.cons (.cint 25) (.cons (.cint 9) .nil)))) (.cint 4))) (.cons (.set 1 (.tup (.cons (.idx (.var 1) (.cint 0)) (.cons (.idx (.var 1) (.cint 1)) (.cons (.bin .Add (.cint 1) (.call ("_law_pick" : Str) (.cons (.var 0) (.cons (.cint 26) (.cons (.cint 2) .nil))))) .nil)))))
  (.cons (.set 3 (.bin .Add (.var 2) (.bin .Mult (.cint 200) (.idx (.var 1) (.cint 2)))))
  .nil)) .nil)
  (.cons (.set 4 (.lst (.cons (.var 2) (.cons (.var 3) (.cons (.bin .FloorDiv (.bin .Add (.var 2) (.var 3)) (.cint 2)) .nil)))))
  (.cons (.set 5 (.lst .nil))
  (.cons (.forS 6 (.rng1 (.bin .Mult (.call ("_law_pick" : Str) (.cons (.var 0) (.cons (.cint 27) (.cons (.cint 4) .nil)))) (.intB (.cmp .Gt (.blt .len (.cons (.idx (.var 1) (.cint 0)) .nil)) (.cint 1))))) (.cons (.set 5 (.bin .Add (.var 5) (.call ("_law_swaps" : Str) (.cons (.var 0) (.cons (.bin .Add (.cint 28) (.bin .Mult (.cint 4) (.var 6))) (.cons (.idx (.var 1) (.cint 0)) (.cons (.idx (.var 4) (.call ("_law_pick" : Str) (.cons (.var 0) (.cons (.bin .Add (.cint 40) (.var 6)) (.cons (.cint 3) .nil))))) (.cons (.cint 1) .nil))))))))
  .nil))
  (.cons (.set 7 (.lst .nil))
  (.cons (.set 8 (.bin .Add (.blt .list (.cons (.idx (.var 1) (.cint 0)) .nil)) (.lst (.cons (.bin .Mult (.cstr ("z" : Str)) (.cint 8)) .nil))))
  (.cons (.forS 6 (.rng1 (.call ("_law_pick" : Str) (.cons (.var 0) (.cons (.cint 43) (.cons (.cint 5) .nil))))) (.cons (.set 7 (.bin .Add (.var 7) (.call ("_law_absences" : Str) (.cons (.var 0) (.cons (.bin .Add (.cint 44) (.bin .Mult (.cint 3) (.var 6))) (.cons (.var 8) (.cons (.idx (.var 4) (.call ("_law_pick" : Str) (.cons (.var 0) (.cons (.bin .Add (.cint 56) (.var 6)) (.cons (.cint 3) .nil))))) (.cons (.cint 1) .nil))))))))
  .nil))
  (.cons (.ifS (.cmp (.cmp .Eq (.call ("_law_pick" : Str) (.cons (.var 0) (.cons (.cint 60) (.cons (.cint 3) .nil)))) (.cint 0))) (.cons (.forS 9 (.seq (.idx (.var 1) (.cint 0))) (.cons (.expr (.mth .insert (.var 7) (.cons (.call ("_law_pick" : Str) (.cons (.var 0) (.cons (.cint 61) (.cons (.bin .Add (.blt .len (.cons (.var 7) .nil)) (.cint 1)) .nil)))) (.cons (.tup (.cons (.var 9) (.cons (.bin .FloorDiv (.var 2) (.cint 2)) (.cons (.bin .Add (.idx (.var 4) (.cint 2)) (.cint 1)) .nil)))) .nil))))
  .nil))
  .nil) .nil)
  (.cons (.set 10 (.lst (.cons (.blt .list (.cons (.var 5) .nil)) (.cons (.blt .list (.cons (.var 7) .nil)) .nil))))
  (.cons (.set 11 (.call ("hours" : Str) (.cons (.var 1) (.cons (.idx (.var 10) (.cint 0)) (.cons (.idx (.var 10) (.cint 1)) (.cons (.var 2) (.cons (.var 3) .nil)))))))
  (.cons (.ifS (.or (.not (.tru (.call ("_law_end_to_end" : Str) (.cons (.var 11) (.cons (.var 2) (.cons (.var 3) .nil)))))) (.cmp (.cmp .NotEq (.var 10) (.lst (.cons (.var 5) (.cons (.var 7) .nil)))))) (.cons (.ret (.cbl false))
  .nil) .nil)
  (.cons (.set 12 (.cint 0))
  (.cons (.forS 13 (.seq (.call ("_law_turns" : Str) (.cons (.var 1) (.cons (.var 5) (.cons (.var 7) (.cons (.var 2) (.cons (.var 3) .nil))))))) (.cons (.whileS (.cmp (.cmp .LtE (.idx (.idx (.var 11) (.var 12)) (.cint 1)) (.var 13))) (.cons (.set 12 (.bin .Add (.var 12) (.cint 1)))
  .nil))
  (.cons (.ifS (.cmp (.cmp .NotEq (.idx (.idx (.var 11) (.var 12)) (.cint 2)) (.call ("_law_hand_on" : Str) (.cons (.var 1) (.cons (.var 5) (.cons (.var 7) (.cons (.var 13) .nil))))))) (.cons (.ret (.cbl false))
  .nil) .nil)
  .nil)))
  (.cons (.ret (.cbl true))
  .nil)))))))))))))))))
noncomputable def tab:List (Str×Fd):=[(("turn_of" : Str),⟨3,2,b_turn_of⟩),(("swapped" : Str),⟨5,3,b_swapped⟩),(("is_away" : Str),⟨3,3,b_is_away⟩),(("hand_on" : Str),⟨7,4,b_hand_on⟩),(("edges" : Str),⟨9,5,b_edges⟩),(("hours" : Str),⟨10,5,b_hours⟩),(("_law_mixed" : Str),⟨3,2,b__law_mixed⟩),(("_law_pick" : Str),⟨3,3,b__law_pick⟩),(("_law_words" : Str),⟨11,4,b__law_words⟩),(("_law_number" : Str),⟨5,3,b__law_number⟩),(("_law_mixed_up" : Str),⟨5,3,b__law_mixed_up⟩),(("_law_rota" : Str),⟨6,3,b__law_rota⟩),(("_law_swaps" : Str),⟨10,5,b__law_swaps⟩),(("_law_swapped" : Str),⟨5,3,b__law_swapped⟩),(("_law_absences" : Str),⟨9,5,b__law_absences⟩),(("_law_here" : Str),⟨3,3,b__law_here⟩),(("_law_hand_on" : Str),⟨9,4,b__law_hand_on⟩),(("_law_end_to_end" : Str),⟨6,3,b__law_end_to_end⟩),(("_law_turns" : Str),⟨8,5,b__law_turns⟩),(("law" : Str),⟨14,1,b_law⟩)]
section
variable {srt:List D->Option (List D)}
noncomputable abbrev cx (srt:List D->Option (List D)) (k:Nat):L3.Ctx:=CtxN tab gl srt 1000 k
theorem f_turn_of (k:Nat)(xs:List D):(cx srt (k + 1)).fn "turn_of" xs=(do need (xs.length=2);semF (cx srt k) 3 b_turn_of xs:Mo D):=rfl
theorem f_swapped (k:Nat)(xs:List D):(cx srt (k + 1)).fn "swapped" xs=(do need (xs.length=3);semF (cx srt k) 5 b_swapped xs:Mo D):=rfl
theorem f_is_away (k:Nat)(xs:List D):(cx srt (k + 1)).fn "is_away" xs=(do need (xs.length=3);semF (cx srt k) 3 b_is_away xs:Mo D):=rfl
theorem f_hand_on (k:Nat)(xs:List D):(cx srt (k + 1)).fn "hand_on" xs=(do need (xs.length=4);semF (cx srt k) 7 b_hand_on xs:Mo D):=rfl
theorem f_edges (k:Nat)(xs:List D):(cx srt (k + 1)).fn "edges" xs=(do need (xs.length=5);semF (cx srt k) 9 b_edges xs:Mo D):=rfl
theorem f_hours (k:Nat)(xs:List D):(cx srt (k + 1)).fn "hours" xs=(do need (xs.length=5);semF (cx srt k) 10 b_hours xs:Mo D):=rfl
theorem f__law_mixed (k:Nat)(xs:List D):(cx srt (k + 1)).fn "_law_mixed" xs=(do need (xs.length=2);semF (cx srt k) 3 b__law_mixed xs:Mo D):=rfl
theorem f__law_pick (k:Nat)(xs:List D):(cx srt (k + 1)).fn "_law_pick" xs=(do need (xs.length=3);semF (cx srt k) 3 b__law_pick xs:Mo D):=rfl
theorem f__law_words (k:Nat)(xs:List D):(cx srt (k + 1)).fn "_law_words" xs=(do need (xs.length=4);semF (cx srt k) 11 b__law_words xs:Mo D):=rfl
theorem f__law_number (k:Nat)(xs:List D):(cx srt (k + 1)).fn "_law_number" xs=(do need (xs.length=3);semF (cx srt k) 5 b__law_number xs:Mo D):=rfl
theorem f__law_mixed_up (k:Nat)(xs:List D):(cx srt (k + 1)).fn "_law_mixed_up" xs=(do need (xs.length=3);semF (cx srt k) 5 b__law_mixed_up xs:Mo D):=rfl
theorem f__law_rota (k:Nat)(xs:List D):(cx srt (k + 1)).fn "_law_rota" xs=(do need (xs.length=3);semF (cx srt k) 6 b__law_rota xs:Mo D):=rfl
theorem f__law_swaps (k:Nat)(xs:List D):(cx srt (k + 1)).fn "_law_swaps" xs=(do need (xs.length=5);semF (cx srt k) 10 b__law_swaps xs:Mo D):=rfl
theorem f__law_swapped (k:Nat)(xs:List D):(cx srt (k + 1)).fn "_law_swapped" xs=(do need (xs.length=3);semF (cx srt k) 5 b__law_swapped xs:Mo D):=rfl
theorem f__law_absences (k:Nat)(xs:List D):(cx srt (k + 1)).fn "_law_absences" xs=(do need (xs.length=5);semF (cx srt k) 9 b__law_absences xs:Mo D):=rfl
theorem f__law_here (k:Nat)(xs:List D):(cx srt (k + 1)).fn "_law_here" xs=(do need (xs.length=3);semF (cx srt k) 3 b__law_here xs:Mo D):=rfl
theorem f__law_hand_on (k:Nat)(xs:List D):(cx srt (k + 1)).fn "_law_hand_on" xs=(do need (xs.length=4);semF (cx srt k) 9 b__law_hand_on xs:Mo D):=rfl
theorem f__law_end_to_end (k:Nat)(xs:List D):(cx srt (k + 1)).fn "_law_end_to_end" xs=(do need (xs.length=3);semF (cx srt k) 6 b__law_end_to_end xs:Mo D):=rfl
theorem f__law_turns (k:Nat)(xs:List D):(cx srt (k + 1)).fn "_law_turns" xs=(do need (xs.length=5);semF (cx srt k) 8 b__law_turns xs:Mo D):=rfl
theorem f_law (k:Nat)(xs:List D):(cx srt (k + 1)).fn "law" xs=(do need (xs.length=1);semF (cx srt k) 14 b_law xs:Mo D):=rfl
end
end Law
namespace Law
open PySem L3
section
variable {srt:List D->Option (List D)}
noncomputable def mixV (sc:List Int)(i:Int):Int:=i * i * 7919 + 11 + (if sc.length > 0 then sc.getD (i % (sc.length:Int)).toNat 0 else 0)
noncomputable def pickV (sc:List Int)(i m:Int):Int:=mixV sc i * 48271 % 2147483647 % m
theorem pick_lo (sc:List Int)(i:Int){m:Int}(h:0 < m):0<=pickV sc i m:=yn _ (by walk_at "o")
theorem pick_hi (sc:List Int)(i:Int){m:Int}(h:0 < m):pickV sc i m < m:=zX _ h
theorem pick_nat (sc:List Int)(i:Int){m:Nat}(h:0 < m):∃ n:Nat,pickV sc i m=n/\n < m:=by
 obtain⟨n,hn⟩:=zT (pick_lo sc i (m:=(m:Int)) (by walk_at "o"))
 have:=pick_hi sc i (m:=(m:Int)) (by walk_at "o")
 exact⟨n,hn,by walk_at "o"⟩
theorem mixed_w (k:Nat)(sc:List Int)(i:Int)(M:MH){Q:D->MH->Prop}(h0:0<=i)(h1:i<=100000)(q:Q (.int (mixV sc i)) M):W ((cx srt (k + 1)).fn "_law_mixed" [.fl (sc.map .int),.int i]) M Q:=by
 rw[f__law_mixed,wf,b__law_mixed];walk_at "wq";refine⟨.inl ⟨by walk_at "o",by walk_at "o"⟩,.inr ⟨by walk_at "o",by walk_at "o"⟩,fun h=>?_,fun h=>?_⟩
 ·rw[decide_eq_true_eq,zw]at h
  have hp:(0:Int) < (sc.length:Int):=by walk_at "o"
  obtain⟨n,hn⟩:∃ n:Nat,i % (sc.length:Int)=n:=zT (yn _ (by walk_at "o"));have hlt:n < sc.length:=by
   have:=zX i hp
   walk_at "o"
  refine⟨by rw[zw];walk_at "o",.int sc[n],?_,?_⟩
  ·rw[zw,hn]
   exact atD_nat (by rw[zh,zt hlt];rfl)
  ·walk_at "wq"
   have e:mixV sc i=i * i * 7919 + 11 + sc[n]:=by
    unfold mixV;rw[if_pos (by walk_at "o"),hn,ye,zC,zt hlt];rfl
   rw[e]at q;exact q
 ·rw[decide_eq_false_iff_not,zw]at h
  have e:mixV sc i=i * i * 7919 + 11:=by
   unfold mixV;rw[if_neg (by walk_at "o")];walk_at "o"
  rw[e]at q;exact q
theorem pick_w (k:Nat)(sc:List Int)(i m:Int)(M:MH){Q:D->MH->Prop}(h0:0<=i)(h1:i<=100000)(hm:0 < m)(q:Q (.int (pickV sc i m)) M):W ((cx srt (k + 2)).fn "_law_pick" [.fl (sc.map .int),.int i,.int m]) M Q:=by
 rw[f__law_pick,wf,b__law_pick];walk_at "wq";refine mixed_w k sc i M h0 h1 ?_;walk_at "wq";exact⟨.inr ⟨by walk_at "o",by walk_at "o"⟩,by walk_at "o",hm,q⟩
theorem number_w (k:Nat)(sc:List Int)(i most:Int)(M:MH){Q:D->MH->Prop}(h0:0<=i)(h1:i<=100000)(hm:0<=most)(q:∀ (r:Int) (M':MH),0<=r->r<=max most 1000000->Gr M M'->Q (.int r) M'):W ((cx srt (k + 2)).fn "_law_number" [.fl (sc.map .int),.int i,.int most]) M Q:=by
 have big:=line_big;rw[f__law_number,wf,b__law_number];walk_at "wq";refine mixed_w k sc i M h0 h1 ?_;walk_at "wq";refine⟨⟨by walk_at "o",by walk_at "o",by decide⟩,by walk_at "o",.inr ⟨by walk_at "o",by walk_at "o"⟩,by walk_at "o",by walk_at "o",_,get_new _ _,?_⟩;obtain⟨n,hn⟩:∃ n:Nat,mixV sc i * 69621 % 2147483629 % 4=n:=zT (yn _ (by walk_at "o"));have hlt:n < 4:=by
  have:=zX (mixV sc i * 69621 % 2147483629) (show (0:Int) < 4 by decide)
  walk_at "o"
 rw[hn];walk_at "wq";have h4:n=0\/n=1\/n=2\/n=3:=by walk_at "o"
 obtain⟨r,r0,r1,e⟩:∃ r:Int,0<=r/\r<=max most 1000000/\atD [D.int 9,.int 60,.int (10 ^ (6:Int).toNat),.int most] (n:Int)=some (.int r):=by
  rcases h4 with rfl | rfl | rfl | rfl
  ·exact⟨9,by walk_at "o",by walk_at "o",rfl⟩
  ·exact⟨60,by walk_at "o",by walk_at "o",rfl⟩
  ·exact⟨1000000,by walk_at "o",by walk_at "o",rfl⟩
  ·exact⟨most,by walk_at "o",by walk_at "o",rfl⟩
 refine⟨.int r,e,⟨by walk_at "o",by walk_at "o",by decide⟩,.inr ⟨by decide,by decide⟩,?_⟩;walk_at "wq";refine⟨by walk_at "o",q _ _ (yn _ (by walk_at "o")) ?_ (Gr.app _ _)⟩
 have:=zX (mixV sc i * 48271 ^ (4:Int).toNat) (show 0 < r + 1 by walk_at "o")
 walk_at "o"
structure Words (m:Nat) (ws:List Str):Prop where
 len:ws.length=m
 nd:ws.Nodup
 sz:∀ w∈ws,1<=w.length/\w.length<=8
noncomputable def mkS (l:List Nat):Str:=⟨l.toArray⟩
theorem mkS_inj {a b:List Nat}(h:mkS a=mkS b):a=b:=by
 unfold mkS at h;simpa using congrArg (fun s:Str=>s.cps.toList) h
theorem mkS_len (a:List Nat):(mkS a).length=a.length:=by simp[mkS,Str.length]
theorem mkS_to (a:List Nat):(mkS a).cps.toList=a:=by simp[mkS]
theorem join_signs (l:List Nat):joinS "" (l.map fun c=>mkS [c])=mkS l:=by
 unfold joinS mkS;congr 2;have e:(("" : Str)).cps.toList=[]:=rfl;rw[e,yO];induction l with
 | nil=>rfl
 | cons a r ih =>
  cases r with
  | nil=>rfl
  | cons b r=>
   show [a]++[]++glue [] _=_;rw[ya];exact congrArg (a::·) ih
theorem sum_ones (l:List Nat):((l.map fun c=>mkS [c]).map (·.length)).sum=l.length:=by
 induction l with
 | nil=>rfl
 | cons a r ih =>
  simp only[zH,List.sum_cons,zE];rw[ih,mkS_len];simp;walk_at "o"
theorem words_w (k:Nat)(sc:List Int)(i:Int)(sg:Str)(m:Nat)(M:MH){Q:D->MH->Prop}(h0:0<=i)(h1:i<=90000)(hm:m<=8)(hsg:sg.cps.toList.Nodup)(hl:m<=sg.length)(hl0:0 < sg.length)(hl1:sg.length<=1000)
  (q:∀ (ws:List Str) (j:Nat) (M':MH),Words m ws->Gr M M'->M.length<=j->M'[j]?=some (.lst (ws.map .str))->Q (.ob j) M'):W ((cx srt (k + 3)).fn "_law_words" [.fl (sc.map .int),.int i,.str sg,.int m]) M Q:=by
 have big:=line_big;have small8:small 8:=⟨by walk_at "o",by walk_at "o"⟩;have smallm:small (m:Int):=⟨by walk_at "o",by walk_at "o"⟩;rw[f__law_words,wf,b__law_words];walk_at "wq";refine⟨small8,by rw[rng_len];walk_at "o",?_⟩;refine w_compI (fun n ys M'=>M'=M/\∃ l:List Nat,l.length=n/\ys=l.map fun c=>.str (mkS [c])) ⟨rfl,[],rfl,rfl⟩ (fun _ _ _ _=>trivial) ?_ ?_
 ·rintro n d ys M' hd ⟨rfl,l,hl',rfl⟩
  obtain⟨rfl,hn⟩:=rng_get hd;walk_at "wq";refine⟨by walk_at "o",pick_w (k:=k) sc _ _ M' (by walk_at "o") (by walk_at "o") (by walk_at "o") ?_⟩;walk_at "wq";have a1:=pick_lo sc (i + (0 + (n:Int))) (show (0:Int) < (sg.length:Int) by walk_at "o");have a2:=pick_hi sc (i + (0 + (n:Int))) (show (0:Int) < (sg.length:Int) by walk_at "o");obtain⟨c,hc,_⟩:=atD_in (xs:=sg.cps.toList) a1 (by rw[len_toList];exact a2);refine⟨by walk_at "o",c,hc,l++[c],?_,?_⟩
  ·rw[zq,hl'];rfl
  ·rw[zd];rfl
 rintro ys M' ⟨rfl,l,hlen,rfl⟩;rw[rng_len]at hlen;have hlen:l.length=8:=by rw[hlen];rfl
 walk_at "wq";refine⟨_,get_new _ _,l.map (fun c=>mkS [c]),?_,?_,?_⟩
 ·rw[<- mapM_strs,yO];rfl
 ·rw[sum_ones,zw,hlen]
  show 8 + 8 * 0<=_;walk_at "o"
 rw[join_signs];have hw:(mkS l).length=8:=by rw[mkS_len,hlen]
 generalize hM1:M'++[MO.lst (l.map fun c=>D.str (mkS [c]))]=M1;have g1:Gr M' M1:=hM1 ▸ Gr.app _ _;clear hM1;refine pick_w (k:=k) sc _ _ M1 (by walk_at "o") (by walk_at "o") (by walk_at "o") ?_;walk_at "wq";refine⟨fun _=>⟨smallm,by rw[rng_len];walk_at "o",?_⟩,fun _=>?_⟩
 ·refine w_compI (fun n ys M'=>M'=M1/\ys=((List.range n).map fun j=>D.str (mkS (l.take (j + 1))))) ⟨rfl,rfl⟩ (fun _ _ _ _=>trivial) ?_ ?_
  ·rintro n d ys M2 hd ⟨rfl,rfl⟩
   obtain⟨rfl,hn⟩:=rng_get hd;walk_at "wq";refine⟨by walk_at "o",?_⟩;rw[cut_hi _ (by walk_at "o"),mkS_to,xX,zd]
   have:((0:Int) + (n:Int) + 1).toNat=n + 1:=by walk_at "o"
   rw[this];rfl
  ·rintro ys M2 ⟨rfl,rfl⟩
   rw[rng_len];walk_at "wq";have e:((m:Int) - 0).toNat=m:=by walk_at "o"
   rw[e];refine q ((List.range m).map fun j=>mkS (l.take (j + 1))) _ _ ⟨by rw[zw,zI],?_,?_⟩ (g1.snoc _) g1.len ?_
   ·refine nodup_map_range fun a b ha hb he=>?_
    have:=congrArg List.length (mkS_inj he)
    rw[za,za]at this;walk_at "o"
   ·intro w hw'
    obtain⟨j,hj,rfl⟩:=yj.mp hw'
    have:=yG.mp hj
    rw[mkS_len,za];walk_at "o"
   ·rw[get_new,yO];rfl
 ·refine pick_w (k:=k) sc _ _ M1 (by walk_at "o") (by walk_at "o") (by walk_at "o") ?_
  walk_at "wq";have a1:=pick_lo sc (i + 9) (show (0:Int) < 8 by walk_at "o");have a2:=pick_hi sc (i + 9) (show (0:Int) < 8 by walk_at "o");obtain⟨at_,hat⟩:∃ n:Nat,pickV sc (i + 9) 8=n:=zT a1;rw[hat];have hat8:at_ < 8:=by walk_at "o"
  refine⟨by walk_at "o",pick_w (k:=k) sc _ _ M1 (by walk_at "o") (by walk_at "o") (by walk_at "o") ?_⟩;walk_at "wq";have f1:=pick_lo sc (i + 10) (show (0:Int) < (sg.length:Int) by walk_at "o");have f2:=pick_hi sc (i + 10) (show (0:Int) < (sg.length:Int) by walk_at "o");obtain⟨fst,hfst⟩:∃ n:Nat,pickV sc (i + 10) sg.length=n:=zT f1;rw[hfst];rw[hfst]at f2;refine⟨by walk_at "o",smallm,?_⟩;have sgl:∀ n:Nat,(fst + n) % sg.length < sg.cps.toList.length:=fun n=>by rw[len_toList];exact vP _ hl0
  have w8:l.take at_++[sg.cps.toList.getD ((fst + 0) % sg.length) 0]++l.drop (at_ + 1)≠[]:=by simp
  refine w_loop (fun n ρ M'=>Gr M1 M'/\M'[M1.length]?=some (.lst ((List.range n).map fun j=>D.str (mkS (l.take at_++[sg.cps.toList.getD ((fst + j) % sg.length) 0]++l.drop (at_ + 1)))))/\∃ x9 x10,ρ=[some (.fl (sc.map .int)),some (.int i),some (.str sg),some (.int m),some (.str (mkS l)),some (.int (pickV sc (i + 8) 3)),some (.int at_),some (.int fst),some (.ob M1.length),x9,x10]) ⟨Gr.app _ _,get_new _ _,none,none,rfl⟩ (fun _ _ _ _=>trivial) ?_ ?_
  ·rintro n d ρ M2 hd ⟨g2,hg,x9,x10,rfl⟩
   obtain⟨rfl,hn⟩:=rng_get hd;walk_at "wq";have em:((fst:Int) + (0 + (n:Int))) % (sg.length:Int)=(((fst + n) % sg.length:Nat):Int):=by
    rw[Int.natCast_emod];congr 1;walk_at "o"
   refine⟨by walk_at "o",by walk_at "o",by walk_at "o",sg.cps.toList[(fst + n) % sg.length]'(sgl n),?_,?_⟩
   ·rw[em]
    exact atD_nat (zt (sgl n))
   unfold sgn;walk_at "wq";rw[cut_hi _ (by walk_at "o"),cut_lo _ (by walk_at "o"),mkS_to,hg];have e1:(at_:Int).toNat=at_:=rfl;have e2:((at_:Int) + 1).toNat=at_ + 1:=by walk_at "o"
   rw[e1,e2];have hn':n < m:=by walk_at "o"
   refine⟨_,rfl,by walk_at "o",?_,by walk_at "o",?_,?_⟩
   ·show (mkS (l.take at_)).length + 1<=_
    rw[mkS_len,za];walk_at "o"
   ·rw[len_app]
    show (mkS (l.take at_)).length + 1 + (mkS (l.drop (at_ + 1))).length<=_;rw[mkS_len,mkS_len,za,zM];walk_at "o"
   refine⟨_,rfl,?_,g2.set (zp _) _,?_,⟨_,_,rfl⟩⟩
   ·rw[zw,zI];walk_at "o"
   ·rw[set_get hg,xX,zd,zH,xk]
    have e3:sg.cps.toList.getD ((fst + n) % sg.length) 0=sg.cps.toList[(fst + n) % sg.length]'(sgl n):=by
     rw[zC,zt (sgl n)];rfl
    rw[e3];have e4:mkS (l.take at_++[sg.cps.toList[(fst + n) % sg.length]'(sgl n)]++l.drop (at_ + 1))=(⟨(l.take at_).toArray⟩:Str)++(⟨#[sg.cps.toList[(fst + n) % sg.length]'(sgl n)]⟩:Str)++(⟨(l.drop (at_ + 1)).toArray⟩:Str):=by
     show _=(⟨((l.take at_).toArray++#[_])++(l.drop (at_ + 1)).toArray⟩:Str);unfold mkS;simp
    rw[e4]
  ·rintro ρ M2 ⟨g2,hg,x9,x10,rfl⟩
   rw[rng_len]at hg;have em:((m:Int) - 0).toNat=m:=by walk_at "o"
   rw[em]at hg;have inj:∀ a b,a < m->b < m->sg.cps.toList.getD ((fst + a) % sg.length) 0=sg.cps.toList.getD ((fst + b) % sg.length) 0->a=b:=fun a b ha hb he=>by
    rw[zC,zC,zt (sgl a),zt (sgl b)]at he;have e6:(fst + a) % sg.length=(fst + b) % sg.length:=(wb hsg).mp he;by_cases c1:fst + a < sg.length <;> by_cases c2:fst + b < sg.length
    ·rw[yE c1,yE c2]at e6;walk_at "o"
    ·rw[yE c1,xA (by walk_at "o"),yE (by walk_at "o")]at e6;walk_at "o"
    ·rw[yE c2,xA (by walk_at "o"),yE (by walk_at "o")]at e6;walk_at "o"
    ·rw[xA (by walk_at "o"),yE (a:=fst + a - sg.length) (by walk_at "o"),xA (a:=fst + b) (by walk_at "o"),yE (by walk_at "o")]at e6;walk_at "o"
   have inj2:∀ (r:List Nat) (a b:Nat),a < m->b < m->l.take at_++[sg.cps.toList.getD ((fst + a) % sg.length) 0]++r=l.take at_++[sg.cps.toList.getD ((fst + b) % sg.length) 0]++r->a=b:=fun r a b ha hb he=>by
    rw[List.append_cancel_right_eq,List.append_cancel_left_eq]at he;exact inj a b ha hb (List.cons.inj he).1
   walk_at "wq";refine⟨fun _=>?_,fun _=>?_⟩
   ·refine q ((List.range m).map fun j=>mkS (l.take at_++[sg.cps.toList.getD ((fst + j) % sg.length) 0]++l.drop (at_ + 1))) _ _ ⟨by rw[zw,zI],?_,?_⟩ (g1.trans g2) g1.len ?_
    ·exact nodup_map_range fun a b ha hb he=>inj2 _ a b ha hb (mkS_inj he)
    ·intro w hw'
     obtain⟨j,hj,rfl⟩:=yj.mp hw';rw[mkS_len,zq,zq,za,zM];simp;walk_at "o"
    ·rw[hg,yO];rfl
   ·refine⟨_,hg,by rw[zw,zI];walk_at "o",?_⟩
    refine w_compI (fun n ys M'=>M'=M2/\ys=((List.range n).map fun j=>D.str (mkS (l.take at_++[sg.cps.toList.getD ((fst + j) % sg.length) 0])))) ⟨rfl,rfl⟩ (fun _ _ _ h=>by rw[h.1];exact hg) ?_ ?_
    ·rintro n d ys M3 hd ⟨rfl,rfl⟩
     rw[zh]at hd;obtain⟨j,hj,rfl⟩:=zg.mp hd;have hjn:j=n/\n < m:=by
      obtain⟨z1,z2⟩:=zr.mp hj;rw[zI]at z1;rw[wx]at z2;exact⟨z2.symm,z1⟩
     obtain⟨rfl,hjm⟩:=hjn;walk_at "wq";refine⟨?_,?_⟩
     ·rw[mkS_len,zq,zq,za,zM]
      simp;walk_at "o"
     ·rw[cut_hi _ (by walk_at "o"),mkS_to,xX,zd]
      have e2:((at_:Int) + 1).toNat=at_ + 1:=by walk_at "o"
      have e3:(l.take at_++[sg.cps.toList.getD ((fst + j) % sg.length) 0]++l.drop (at_ + 1)).take (at_ + 1)=l.take at_++[sg.cps.toList.getD ((fst + j) % sg.length) 0]:=by
       rw[List.take_left' (by rw[zq,za];simp;walk_at "o")]
      rw[e2,e3];rfl
    ·rintro ys M3 ⟨rfl,rfl⟩
     rw[zw,zI];walk_at "wq";refine q ((List.range m).map fun j=>mkS (l.take at_++[sg.cps.toList.getD ((fst + j) % sg.length) 0])) _ _ ⟨by rw[zw,zI],?_,?_⟩ ((g1.trans g2).snoc _) (zS g1.len g2.len) ?_
     ·refine nodup_map_range fun a b ha hb he=>inj2 [] a b ha hb ?_
      rw[mkS_inj he]
     ·intro w hw'
      obtain⟨j,hj,rfl⟩:=yj.mp hw';rw[mkS_len,zq,za];simp;walk_at "o"
     ·rw[get_new,yO];rfl
end
end Law
namespace Law
open PySem L3
section
variable {srt:List D->Option (List D)}
theorem insD_perm {α:Type}(xs:List α)(i:Int)(v:α):(insD xs i v).Perm (xs++[v]):=by
 unfold insD;refine List.perm_middle.trans ?_;rw[zN];exact(List.perm_append_singleton v xs).symm
theorem mixedUp_w (k:Nat)(sc:List Int)(i:Int)(M:MH)(js:Nat)(ds:List D){Q:D->MH->Prop}(h0:0<=i)(h1:i<=90000)(hl:ds.length<=1000)(hj:M[js]?=some (.lst ds))
  (q:∀ (es:List D) (j:Nat) (M':MH),es.Perm ds->Gr M M'->M.length<=j->M'[j]?=some (.lst es)->Q (.ob j) M'):W ((cx srt (k + 3)).fn "_law_mixed_up" [.fl (sc.map .int),.int i,.ob js]) M Q:=by
 have big:=line_big;rw[f__law_mixed_up,wf,b__law_mixed_up];walk_at "wq";have hj1:(M++[MO.lst []])[js]?=some (.lst ds):=(Gr.app _ _).keep _ _ hj;refine⟨by walk_at "o",_,hj1,⟨by show -(2 ^ 62)<=(ds.length:Int);walk_at "o",by show (ds.length:Int) < 2 ^ 62;walk_at "o"⟩,?_⟩;walk_at "wq";refine w_loop (fun n ρ M'=>Gr M M'/\(∃ es:List D,es.Perm (ds.take n)/\M'[M.length]?=some (.lst es))/\∃ x,ρ=[some (.fl (sc.map .int)),some (.int i),some (.ob js),some (.ob M.length),x]) ⟨Gr.app _ _,⟨[],.refl _,get_new _ _⟩,none,rfl⟩ (fun _ _ _ _=>trivial) ?_ ?_
 ·rintro n d ρ M2 hd ⟨g2,⟨es,hp,he⟩,x,rfl⟩
  obtain⟨rfl,hn⟩:=rng_get hd;have hn':n < ds.length:=by walk_at "o"
  have hle:=hp.length_eq;rw[za]at hle;walk_at "wq";refine⟨_,he,pick_w (k:=k) sc _ _ M2 (by walk_at "o") (by walk_at "o") (by walk_at "o") ?_⟩;walk_at "wq";have a1:=pick_lo sc (i + (0 + (n:Int))) (show (0:Int) < 0 + (n:Int) + 1 by walk_at "o");have a2:=pick_hi sc (i + (0 + (n:Int))) (show (0:Int) < 0 + (n:Int) + 1 by walk_at "o");refine⟨_,g2.keep _ _ hj,?_⟩;walk_at "wq";refine⟨ds[n],?_,_,he,⟨by walk_at "o",by walk_at "o",by walk_at "o"⟩,g2.set (zp _) _,⟨_,?_,set_get he⟩,_,rfl⟩
  ·rw[show (0:Int) + (n:Int)=(n:Int) by walk_at "o"]
   exact atD_nat (zt hn')
  ·refine(insD_perm _ _ _).trans ?_
   rw[yi,zt hn'];exact hp.append_right _
 ·rintro ρ M2 ⟨g2,⟨es,hp,he⟩,x,rfl⟩
  rw[rng_len]at hp;have e:((ds.length:Int) - 0).toNat=ds.length:=by walk_at "o"
  rw[e,zR]at hp;walk_at "wq";exact q es _ _ hp g2 (zp _) he
theorem alpha_nd:(("abcdefghijklmnopqrstuvwxyz" : Str)).cps.toList.Nodup:=by decide +kernel
theorem alpha_len:(("abcdefghijklmnopqrstuvwxyz" : Str)).length=26:=by decide +kernel
theorem strs_of_perm {es:List D}{ws:List Str}(h:es.Perm (ws.map .str)):∃ vs:List Str,es=vs.map .str/\vs.Perm ws:=by
 refine⟨es.map fun d=>(strD d).getD "",?_,?_⟩
 ·rw[yO]
  refine(uy es).symm.trans (xZ fun d hd=>?_);obtain⟨w,_,rfl⟩:=yj.mp (h.mem_iff.mp hd);rfl
 ·have:=h.map fun d=>(strD d).getD ""
  rw[yO]at this;refine this.trans (List.Perm.of_eq ?_);exact(xZ fun d _=>rfl).trans (uy ws)
end
end Law
namespace Law
open PySem L3
section
variable {srt:List D->Option (List D)}
structure Rota (d:D) (hs:List Str) (fst lng:Int):Prop where
 is:d=.tup [.tup (hs.map .str),.int fst,.int lng]
 nd:hs.Nodup
 lo:1<=hs.length
 hi:hs.length<=8
 f0:0<=fst
 f1:fst<=100000000000
 l0:1<=lng
 l1:lng<=1000000000
theorem longs (n:Nat)(h:n < 7):∃ r:Int,1<=r/\r<=1000000000/\atD [D.int 1,.int 2,.int 3,.int 7,.int 24,.int (10 ^ (6:Int).toNat),.int (10 ^ (9:Int).toNat)] (n:Int)=some (.int r):=by
 have h4:n=0\/n=1\/n=2\/n=3\/n=4\/n=5\/n=6:=by walk_at "o"
 rcases h4 with rfl | rfl | rfl | rfl | rfl | rfl | rfl
 ·exact⟨1,by walk_at "o",by walk_at "o",rfl⟩
 ·exact⟨2,by walk_at "o",by walk_at "o",rfl⟩
 ·exact⟨3,by walk_at "o",by walk_at "o",rfl⟩
 ·exact⟨7,by walk_at "o",by walk_at "o",rfl⟩
 ·exact⟨24,by walk_at "o",by walk_at "o",rfl⟩
 ·exact⟨1000000,by walk_at "o",by walk_at "o",rfl⟩
 ·exact⟨1000000000,by walk_at "o",by walk_at "o",rfl⟩
theorem rota_w (k:Nat)(sc:List Int)(M:MH)(most:Int){Q:D->MH->Prop}(hm:1<=most)(hm8:most<=8)(q:∀ (d:D) (hs:List Str) (fst lng:Int) (M':MH),Rota d hs fst lng->Gr M M'->Q d M'):W ((cx srt (k + 4)).fn "_law_rota" [.fl (sc.map .int),.int 0,.int most]) M Q:=by
 have big:=line_big;rw[f__law_rota,wf,b__law_rota];walk_at "wq";refine words_w k sc 0 _ 8 M (by walk_at "o") (by walk_at "o") (by walk_at "o") alpha_nd (by rw[alpha_len];walk_at "o") (by rw[alpha_len];walk_at "o") (by rw[alpha_len];walk_at "o") fun ws j M1 hw g1 _ hj=>?_;walk_at "wq";refine mixedUp_w k sc _ M1 j _ (by walk_at "o") (by walk_at "o") (by rw[zw,hw.len];walk_at "o") hj fun es j2 M2 hp g2 _ hj2=>?_;obtain⟨vs,rfl,hv⟩:=strs_of_perm hp;walk_at "wq";refine⟨⟨by walk_at "o",by walk_at "o",by decide⟩,number_w (k:=k + 1) sc _ _ M2 (by walk_at "o") (by walk_at "o") (by decide) fun fst M3 f0 f1 g3=>?_⟩;walk_at "wq";refine⟨⟨by walk_at "o",by walk_at "o",by decide⟩,⟨by walk_at "o",by walk_at "o",by decide⟩,by walk_at "o",pick_w (k:=k + 1) sc _ _ _ (by walk_at "o") (by walk_at "o") (by walk_at "o") ?_⟩;walk_at "wq";refine⟨_,get_new _ _,?_⟩;obtain⟨n,hn⟩:∃ n:Nat,pickV sc (0 + 20) 7=n:=zT (pick_lo sc _ (by walk_at "o"));have hn7:n < 7:=by
  have:=pick_hi sc (0 + 20) (show (0:Int) < 7 by walk_at "o")
  walk_at "o"
 rw[hn];walk_at "wq";obtain⟨r,r0,r1,e⟩:=longs n hn7;refine⟨.int r,e,?_⟩;walk_at "wq";generalize hM4:M3++[MO.lst [D.int 1,.int 2,.int 3,.int 7,.int 24,.int (10 ^ (6:Int).toNat),.int (10 ^ (9:Int).toNat)]]=M4;have g4:Gr M3 M4:=hM4 ▸ Gr.app _ _;clear hM4;refine pick_w (k:=k + 1) sc _ _ M4 (by walk_at "o") (by walk_at "o") (by walk_at "o") ?_;walk_at "wq";have p1:=pick_lo sc (0 + 21) (show (0:Int) < most by walk_at "o");have p2:=pick_hi sc (0 + 21) (show (0:Int) < most by walk_at "o");refine⟨_,(g3.trans g4).keep _ _ hj2,_,get_new _ _,by walk_at "o",?_⟩;rw[cut_hi _ (by walk_at "o"),<- xP];have hlen:vs.length=8:=by rw[hv.length_eq,hw.len]
 refine q _ (vs.take (1 + pickV sc (0 + 21) most).toNat) fst r _ ⟨rfl,?_,?_,?_,f0,?_,r0,r1⟩ ((((g1.trans g2).trans g3).trans g4).snoc _)
 ·exact(hv.nodup_iff.mpr hw.nd).sublist (xD _ _)
 ·rw[za];walk_at "o"
 ·rw[za];walk_at "o"
 ·have:max ((10:Int) ^ (11:Int).toNat) 1000000=100000000000:=by decide
  walk_at "o"
end
end Law
namespace Law
open PySem L3
section
variable {srt:List D->Option (List D)}
noncomputable def tix (n:Nat)(fst lng t:Int):Nat:=(((t - fst) / lng) % (n:Int)).toNat
theorem tix_int {n:Nat}(h:1<=n)(fst lng t:Int):((t - fst) / lng) % (n:Int)=(tix n fst lng t:Int):=by
 unfold tix;rw[xY (yn _ (by walk_at "o"))]
theorem tix_lt {n:Nat}(h:1<=n)(fst lng t:Int):tix n fst lng t < n:=by
 have:=zX ((t - fst) / lng) (show (0:Int) < n by walk_at "o")
 have:=tix_int h fst lng t
 walk_at "o"
theorem div_round (a l n:Int)(hl:0 < l)(hn:0 < n):a % (l * n) / l=a / l % n:=by
 have h1:=wO a l;have r0:=yn a (show l≠0 by walk_at "o");have r1:=zX a hl;have h2:=wO (a / l) n;have s0:=yn (a / l) (show n≠0 by walk_at "o");have s1:=zX (a / l) hn;have e:a=(l * (a / l % n) + a % l) + (l * n) * (a / l / n):=by
  have:l * (a / l)=l * (a / l % n) + l * n * (a / l / n):=by
   conv=>lhs;rw[<- h2]
   rw[ux,Int.mul_assoc]
  walk_at "o"
 have hb:l * (a / l % n) + a % l < l * n:=by
  have:l * (a / l % n)<=l * (n - 1):=xw (by walk_at "o") (by walk_at "o")
  rw[Int.mul_sub,vH]at this;walk_at "o"
 have hb0:0<=l * (a / l % n) + a % l:=by
  have:=vR (show 0<=l by walk_at "o") s0
  walk_at "o"
 have e2:a % (l * n)=l * (a / l % n) + a % l:=by
  conv=>lhs;rw[e]
  rw[Int.add_mul_emod_self_left,wj hb0 hb]
 rw[e2,Int.add_comm,Int.add_mul_ediv_left _ _ (by walk_at "o"),Int.ediv_eq_zero_of_lt r0 r1,Int.zero_add]
theorem turnOf_w (k:Nat)(M:MH){d:D}{hs:List Str}{fst lng:Int}(R:Rota d hs fst lng)(t:Int){Q:D->MH->Prop}(q:Q (.str (hs[tix hs.length fst lng t]'(tix_lt R.lo _ _ _))) M):W ((cx srt (k + 1)).fn "turn_of" [d,.int t]) M Q:=by
 have:=R.lo
 have:=R.l0
 have:=R.l1
 rw[R.is,f_turn_of,wf,b_turn_of];walk_at "wq";refine⟨⟨by walk_at "o",by walk_at "o"⟩,by rw[zw];walk_at "o",_,?_,q⟩;rw[zw,tix_int R.lo];refine atD_nat ?_;rw[zh,zt (tix_lt R.lo _ _ _)];rfl
end
end Law
namespace Law
open PySem L3
section
variable {srt:List D->Option (List D)}
structure Sw where
 one:Str
 oth:Str
 fst:Int
 lst:Int
noncomputable def swD (s:Sw):D:=.tup [.str s.one,.str s.oth,.int s.fst,.int s.lst]
structure Sw.Ok (s:Sw) (hs:List Str) (turn:Int):Prop where
 o1:s.one∈hs
 o2:s.oth∈hs
 ne:s.one≠s.oth
 f0:0<=s.fst
 fl:s.fst < s.lst
 f1:s.fst<=turn + 2
 l1:s.lst<=turn + 20
structure Ab where
 h:Str
 fst:Int
 lst:Int
noncomputable def abD (s:Ab):D:=.tup [.str s.h,.int s.fst,.int s.lst]
noncomputable def swapB (s:Sw)(t:Int)(h:Str):Str:=if (decide (s.fst<=t)&&decide (t < s.lst)&&(h==s.one||h==s.oth))=true then (if h=s.one then s.oth else s.one) else h
noncomputable def swapV (ss:List Sw)(t:Int)(h:Str):Str:=ss.foldl (fun h s=>swapB s t h) h
noncomputable def awayB (as:List Ab)(t:Int)(h:Str):Bool:=as.any fun a=>a.h==h&&(decide (a.fst<=t)&&decide (t < a.lst))
theorem swapV_snoc (ss:List Sw)(s:Sw)(t:Int)(h:Str):swapV (ss++[s]) t h=swapB s t (swapV ss t h):=by
 unfold swapV;rw[List.foldl_append];rfl
theorem swapped_w (k:Nat)(M:MH)(h:Str)(js:Nat)(ss:List Sw)(t:Int)(hj:M[js]?=some (.lst (ss.map swD))){Q:D->MH->Prop}(q:Q (.str (swapV ss t h)) M):W ((cx srt (k + 1)).fn "swapped" [.str h,.ob js,.int t]) M Q:=by
 rw[f_swapped,wf,b_swapped];walk_at "wq";refine⟨_,hj,?_⟩;refine w_loop (fun n ρ M'=>M'=M/\∃ x,ρ=[some (.str h),some (.ob js),some (.int t),some (.str (swapV (ss.take n) t h)),x]) ⟨rfl,none,rfl⟩ (fun _ _ _ h=>by rw[h.1];exact hj) ?_ ?_
 ·rintro n d ρ M' hd ⟨rfl,x,rfl⟩
  rw[zh]at hd;obtain⟨s,hs,rfl⟩:=zg.mp hd;have step:swapV (ss.take (n + 1)) t h=swapB s t (swapV (ss.take n) t h):=by
   rw[yi,hs];exact swapV_snoc _ _ _ _
  unfold swD;walk_at "wq";rw[step];generalize swapV (ss.take n) t h=c;have e2:cutD [D.str s.one,D.str s.oth,D.int s.fst,D.int s.lst] none (some 2)=[D.str s.one,D.str s.oth]:=rfl;have e3:inL M' (.str c) [D.str s.one,D.str s.oth]=some (c==s.one||c==s.oth):=by
   rw[inL_flat rfl rfl];show some (s.one==c||(s.oth==c||false))=_;rw[wg,wc (a:=s.one),wc (a:=s.oth)]
  refine⟨fun h1=>⟨fun h2=>?_,fun h2=>?_⟩,fun h1=>?_⟩
  ·rw[e2,e3]
   refine⟨_,rfl,fun h3=>⟨fun h4=>?_,fun h4=>?_⟩,fun h3=>?_⟩
   ·have e:swapB s t c=s.oth:=by
     unfold swapB;rw[h1,h2,h3,if_pos (by rfl),if_pos (beq_iff_eq.mp h4)]
    rw[e];exact⟨_,rfl⟩
   ·have e:swapB s t c=s.one:=by
     unfold swapB;rw[h1,h2,h3,if_pos (by rfl),if_neg (by simpa using h4)]
    rw[e];exact⟨_,rfl⟩
   ·have e:swapB s t c=c:=by
     unfold swapB;rw[h1,h2,h3,if_neg (by simp)]
    rw[e];exact⟨_,rfl⟩
  ·have e:swapB s t c=c:=by
    unfold swapB;rw[h1,h2,if_neg (by simp)]
   rw[e];exact⟨_,rfl⟩
  ·have e:swapB s t c=c:=by
    unfold swapB;rw[h1,if_neg (by simp)]
   rw[e];exact⟨_,rfl⟩
 ·rintro ρ M' ⟨rfl,x,rfl⟩
  rw[zw,zR];walk_at "wq";exact q
theorem isAway_w (k:Nat)(M:MH)(h:Str)(ja:Nat)(as:List Ab)(t:Int)(hl:as.length<=1000)(hj:M[ja]?=some (.lst (as.map abD))){Q:D->MH->Prop}(q:∀ M',Gr M M'->Q (.bl (awayB as t h)) M'):W ((cx srt (k + 1)).fn "is_away" [.str h,.ob ja,.int t]) M Q:=by
 have big:=line_big;rw[f_is_away,wf,b_is_away];walk_at "wq";refine⟨_,hj,by rw[zw];walk_at "o",?_⟩;refine w_compI (fun n ys M'=>M'=M/\ys=((as.take n).map fun a=>a.h==h&&(decide (a.fst<=t)&&decide (t < a.lst))).map D.bl) ⟨rfl,rfl⟩ (fun _ _ _ h=>by rw[h.1];exact hj) ?_ ?_
 ·rintro n d ys M' hd ⟨rfl,rfl⟩
  rw[zh]at hd;obtain⟨a,ha,rfl⟩:=zg.mp hd;unfold abD;walk_at "wq";rw[yi,ha];refine⟨fun h1=>⟨fun h2=>?_,fun h2=>?_⟩,fun h1=>?_⟩
  ·simp[h1,h2]
  ·simp[h1,h2]
  ·simp[h1]
 ·rintro ys M' ⟨rfl,rfl⟩
  rw[zw,zR];walk_at "wq";refine⟨_,get_new _ _,_,mapM_bools _,?_⟩;rw[List.any_map];exact q _ (Gr.app _ _)
noncomputable def round (hs:List Str)(n:Nat):List Str:=hs.drop n++hs.take n
noncomputable def onV (hs:List Str)(as:List Ab)(t:Int)(h:Str):Option Str:=(round hs (hs.idxOf h)).find? fun x=>!awayB as t x
noncomputable def sOpt:Option Str->D
 | none=>.non
 | some x=>.str x
theorem idx_of {hs:List Str}{h:Str}(hm:h∈hs):(hs.map D.str).findIdx? (fun d=>eqF d (.str h))=some (hs.idxOf h):=by
 rw[yA];have hi:=List.idxOf_lt_length_iff.mpr hm;refine⟨by rw[zw];exact hi,?_,fun j hj=>?_⟩
 ·rw[xz]
  show (hs[hs.idxOf h]==h)=true;simp
 ·rw[xz]
  show ¬ (hs[j]==h)=true
  have:=List.not_of_lt_findIdx hj
  simpa using this
theorem handOn_w (k:Nat)(M:MH){d:D}{hs:List Str}{fst lng:Int}(R:Rota d hs fst lng)(js ja:Nat)(ss:List Sw)(as:List Ab)(t:Int)(hl:as.length<=1000)(hj:M[js]?=some (.lst (ss.map swD)))(hja:M[ja]?=some (.lst (as.map abD)))
  (hm:swapV ss t (hs[tix hs.length fst lng t]'(tix_lt R.lo _ _ _))∈hs) {Q:D->MH->Prop} (q:∀ M',Gr M M'->Q (sOpt (onV hs as t (swapV ss t (hs[tix hs.length fst lng t]'(tix_lt R.lo _ _ _))))) M'):W ((cx srt (k + 2)).fn "hand_on" [d,.ob js,.ob ja,.int t]) M Q:=by
 have big:=line_big
 have:=R.hi
 rw[f_hand_on,wf,b_hand_on,R.is];walk_at "wq";have R':=R;rw[R.is]at R';refine turnOf_w k M R' t ?_;walk_at "wq";refine swapped_w k M _ js ss t hj ?_;generalize swapV ss t (hs[tix hs.length fst lng t]'(tix_lt R.lo _ _ _))=h at hm q ⊢;walk_at "wq";refine⟨⟨rfl,by rw[vj,yf];exact fun _ _=>rfl⟩,_,idx_of hm,?_⟩;walk_at "wq";rw[cut_lo _ (by walk_at "o"),cut_hi _ (by walk_at "o")];have en:((hs.idxOf h:Nat):Int).toNat=hs.idxOf h:=rfl;rw[en,<- we,<- xP,<- zd];refine⟨by rw[zw,zw,zM,za];walk_at "o",?_⟩;unfold onV at q;show W (loopD none 6 _ ((round hs (hs.idxOf h)).map D.str) _) M _;generalize round hs (hs.idxOf h)=rs at q ⊢;refine w_loop (fun n ρ M'=>Gr M M'/\(∀ x∈rs.take n,awayB as t x=true)/\∃ x,ρ=[some (.tup [.tup (hs.map .str),.int fst,.int lng]),some (.ob js),some (.ob ja),some (.int t),some (.tup (hs.map .str)),some (.int (hs.idxOf h:Nat)),x]) ⟨Gr.refl,by simp,none,rfl⟩ (fun _ _ _ _=>trivial) ?_ ?_
 ·rintro n e ρ M' hd ⟨g,ha,x,rfl⟩
  rw[zh]at hd;obtain⟨y,hy,rfl⟩:=zg.mp hd;walk_at "wq";refine isAway_w k M' y ja as t hl (g.keep _ _ hja) fun M2 g2=>?_;walk_at "wq";refine⟨fun h1=>?_,fun h1=>⟨g.trans g2,fun z hz=>?_,_,rfl⟩⟩
  ·have e:rs.find? (fun x=>!awayB as t x)=some y:=by
    rw[List.find?_eq_some_iff_getElem];obtain⟨hlt,hg⟩:=zr.mp hy;refine⟨h1,n,hlt,hg,fun j hj=>?_⟩
    have:=ha rs[j] (List.mem_take_iff_getElem.mpr ⟨j,by walk_at "o",rfl⟩)
    simp[this]
   have:=q M2 (g.trans g2)
   rw[e]at this;exact this
  ·rw[yi,hy]at hz
   rcases zG.mp hz with hz | hz
   ·exact ha z hz
   ·simp at hz
    subst hz;simpa using h1
 ·rintro ρ M' ⟨g,ha,x,rfl⟩
  rw[zw,zR]at ha;walk_at "wq";have e:rs.find? (fun x=>!awayB as t x)=none:=by
   rw[vm];exact fun x hx=>by simp[ha x hx]
  have:=q M' g
  rw[e]at this;exact this
end
end Law
namespace Law
open PySem L3
section
variable {srt:List D->Option (List D)}
theorem hands_get {hs:List Str}{n:Nat}(h:n < hs.length):atD (hs.map D.str) (n:Int)=some (.str (hs.getD n "")):=by
 rw[zC,zt h];exact atD_nat (by rw[zh,zt h];rfl)
noncomputable def swJ (sc:List Int)(i:Int)(hs:List Str)(turn:Int)(j:Nat):Sw :=
 let at_:=pickV sc (i + 4 * (0 + (j:Int))) hs.length
 let to:=(at_ + 1 + pickV sc (i + 4 * (0 + (j:Int)) + 1) ((hs.length:Int) - 1)) % (hs.length:Int)
 let fst:=max 0 (turn + 2 - pickV sc (i + 4 * (0 + (j:Int)) + 2) 8)
 ⟨hs.getD at_.toNat "",hs.getD to.toNat "",fst,fst + 1 + pickV sc (i + 4 * (0 + (j:Int)) + 3) 9⟩
theorem swJ_ok (sc:List Int)(i:Int)(hs:List Str)(turn:Int)(j:Nat)(h2:2<=hs.length)(nd:hs.Nodup)(ht:0<=turn):(swJ sc i hs turn j).Ok hs turn:=by
 unfold swJ;dsimp only;have a0:=pick_lo sc (i + 4 * (0 + (j:Int))) (show (0:Int) < hs.length by walk_at "o");have a1:=pick_hi sc (i + 4 * (0 + (j:Int))) (show (0:Int) < hs.length by walk_at "o");have b0:=pick_lo sc (i + 4 * (0 + (j:Int)) + 1) (show (0:Int) < (hs.length:Int) - 1 by walk_at "o");have b1:=pick_hi sc (i + 4 * (0 + (j:Int)) + 1) (show (0:Int) < (hs.length:Int) - 1 by walk_at "o");have c0:=pick_lo sc (i + 4 * (0 + (j:Int)) + 2) (show (0:Int) < 8 by walk_at "o");have c1:=pick_hi sc (i + 4 * (0 + (j:Int)) + 2) (show (0:Int) < 8 by walk_at "o");have d0:=pick_lo sc (i + 4 * (0 + (j:Int)) + 3) (show (0:Int) < 9 by walk_at "o");have d1:=pick_hi sc (i + 4 * (0 + (j:Int)) + 3) (show (0:Int) < 9 by walk_at "o");generalize pickV sc (i + 4 * (0 + (j:Int))) hs.length=a at *;generalize pickV sc (i + 4 * (0 + (j:Int)) + 1) ((hs.length:Int) - 1)=b at *;generalize pickV sc (i + 4 * (0 + (j:Int)) + 2) 8=c at *;generalize pickV sc (i + 4 * (0 + (j:Int)) + 3) 9=d at *;have e0:0<=(a + 1 + b) % (hs.length:Int):=yn _ (by walk_at "o");have e1:(a + 1 + b) % (hs.length:Int) < hs.length:=zX _ (by walk_at "o");have e2:(a + 1 + b) % (hs.length:Int)≠a:=by
  by_cases hb:a + 1 + b < hs.length
  ·rw[wj (by walk_at "o") hb];walk_at "o"
  ·have:(a + 1 + b) % (hs.length:Int)=a + 1 + b - hs.length:=by
    rw[<- Int.sub_emod_right,wj (by walk_at "o") (by walk_at "o")]
   walk_at "o"
 generalize (a + 1 + b) % (hs.length:Int)=to at *;have g:∀ x:Int,0<=x->x < hs.length->∃ hx:x.toNat < hs.length,hs.getD x.toNat "" = hs[x.toNat]:=fun x h1 h2=>⟨by walk_at "o",by rw[zC,zt (by walk_at "o")];rfl⟩;obtain⟨g1,g2⟩:=g a a0 a1;obtain⟨g3,g4⟩:=g to e0 e1;refine⟨by show hs.getD a.toNat ""∈hs;rw[g2];exact yx _,by show hs.getD to.toNat ""∈hs;rw[g4];exact yx _,?_,?_,?_,?_,?_⟩
 ·show hs.getD a.toNat ""≠hs.getD to.toNat ""
  rw[g2,g4];intro e
  have:=(wb nd).mp e
  walk_at "o"
 ·show 0<=max 0 (turn + 2 - c);walk_at "o"
 ·show max 0 (turn + 2 - c) < max 0 (turn + 2 - c) + 1 + d;walk_at "o"
 ·show max 0 (turn + 2 - c)<=turn + 2;walk_at "o"
 ·show max 0 (turn + 2 - c) + 1 + d<=turn + 20;walk_at "o"
theorem swaps_w (k:Nat)(sc:List Int)(i:Int)(hs:List Str)(turn:Int)(m:Nat)(M:MH){Q:D->MH->Prop}(h0:0<=i)(h1:i<=90000)(hm:m<=100)(h2:2<=hs.length)(h8:hs.length<=100)
  (q:∀ (j:Nat) (M':MH),Gr M M'->M.length<=j->M'[j]?=some (.lst (((List.range m).map (swJ sc i hs turn)).map swD))->Q (.ob j) M'):W ((cx srt (k + 3)).fn "_law_swaps" [.fl (sc.map .int),.int i,.tup (hs.map .str),.int turn,.int m]) M Q:=by
 have big:=line_big;rw[f__law_swaps,wf,b__law_swaps];walk_at "wq";refine⟨by walk_at "o",⟨by walk_at "o",by walk_at "o"⟩,?_⟩;refine w_loop (fun n ρ M'=>Gr M M'/\M'[M.length]?=some (.lst (((List.range n).map (swJ sc i hs turn)).map swD))/\∃ x6 x7 x8 x9,ρ=[some (.fl (sc.map .int)),some (.int i),some (.tup (hs.map .str)),some (.int turn),some (.int m),some (.ob M.length),x6,x7,x8,x9]) ⟨Gr.app _ _,get_new _ _,none,none,none,none,rfl⟩ (fun _ _ _ _=>trivial) ?_ ?_
 ·rintro n d ρ M2 hd ⟨g,hg,x6,x7,x8,x9,rfl⟩
  obtain⟨rfl,hn⟩:=rng_get hd;walk_at "wq";have step:((List.range (n + 1)).map (swJ sc i hs turn)).map swD=((List.range n).map (swJ sc i hs turn)).map swD++[swD (swJ sc i hs turn n)]:=by
   rw[xX,zd,zd];rfl
  have sw:=@rfl _ (swD (swJ sc i hs turn n))
  conv at sw=>rhs;unfold swD swJ
  dsimp only at sw;rw[zw];refine⟨.inl ⟨by walk_at "o",by walk_at "o"⟩,pick_w (k:=k) sc _ _ M2 (by walk_at "o") (by walk_at "o") (by walk_at "o") ?_⟩;have a0:=pick_lo sc (i + 4 * (0 + (n:Int))) (show (0:Int) < hs.length by walk_at "o");have a1:=pick_hi sc (i + 4 * (0 + (n:Int))) (show (0:Int) < hs.length by walk_at "o");walk_at "wq";rw[zw];refine⟨.inl ⟨by walk_at "o",by walk_at "o"⟩,pick_w (k:=k) sc _ _ M2 (by walk_at "o") (by walk_at "o") (by walk_at "o") ?_⟩;have e0:0<=(pickV sc (i + 4 * (0 + (n:Int))) hs.length + 1 + pickV sc (i + 4 * (0 + (n:Int)) + 1) ((hs.length:Int) - 1)) % (hs.length:Int):=yn _ (by walk_at "o");have e1:(pickV sc (i + 4 * (0 + (n:Int))) hs.length + 1 + pickV sc (i + 4 * (0 + (n:Int)) + 1) ((hs.length:Int) - 1)) % (hs.length:Int) < hs.length:=zX _ (by walk_at "o");generalize pickV sc (i + 4 * (0 + (n:Int))) hs.length=a at *;generalize pickV sc (i + 4 * (0 + (n:Int)) + 1) ((hs.length:Int) - 1)=b at *;walk_at "wq";rw[zw];refine⟨by walk_at "o",.inl ⟨by walk_at "o",by walk_at "o"⟩,pick_w (k:=k) sc _ _ M2 (by walk_at "o") (by walk_at "o") (by walk_at "o") ?_⟩;walk_at "wq";obtain⟨an,rfl⟩:=zT a0;generalize (((an:Int) + 1 + b) % (hs.length:Int))=to at *;obtain⟨tn,rfl⟩:=zT e0;refine⟨_,hg,_,hands_get (by walk_at "o"),_,hands_get (by walk_at "o"),.inl ⟨by walk_at "o",by walk_at "o"⟩,pick_w (k:=k) sc _ _ M2 (by walk_at "o") (by walk_at "o") (by walk_at "o") ?_⟩;walk_at "wq";refine⟨by walk_at "o",_,hg,by rw[zw,zw,zI];walk_at "o",g.set (zp _) _,?_,_,_,_,_,rfl⟩;rw[set_get hg,step,sw];rfl
 ·rintro ρ M2 ⟨g,hg,x6,x7,x8,x9,rfl⟩
  rw[rng_len]at hg;have em:((m:Int) - 0).toNat=m:=by walk_at "o"
  rw[em]at hg;walk_at "wq";exact q _ _ g (zp _) hg
theorem lswapped_w (k:Nat)(M:MH)(h:Str)(js:Nat)(ss:List Sw)(t:Int)(hj:M[js]?=some (.lst (ss.map swD))){Q:D->MH->Prop}(q:∀ M',Gr M M'->Q (.str (swapV ss t h)) M'):W ((cx srt (k + 1)).fn "_law_swapped" [.str h,.ob js,.int t]) M Q:=by
 rw[f__law_swapped,wf,b__law_swapped];walk_at "wq";refine⟨_,hj,?_⟩;refine w_loop (fun n ρ M'=>Gr M M'/\∃ x y,ρ=[some (.str (swapV (ss.take n) t h)),some (.ob js),some (.int t),x,y]) ⟨Gr.refl,none,none,rfl⟩ (fun _ _ _ h=>h.1.keep _ _ hj) ?_ ?_
 ·rintro n d ρ M' hd ⟨g,x,y,rfl⟩
  rw[zh]at hd;obtain⟨s,hs,rfl⟩:=zg.mp hd;have step:swapV (ss.take (n + 1)) t h=swapB s t (swapV (ss.take n) t h):=by
   rw[yi,hs];exact swapV_snoc _ _ _ _
  unfold swD;walk_at "wq";generalize swapV (ss.take n) t h=c at step ⊢;have e2:cutD [D.str s.one,D.str s.oth,D.int s.fst,D.int s.lst] none (some 2)=[D.str s.one,D.str s.oth]:=rfl;rw[e2];generalize hM2:M'++[MO.lst [D.str s.one,D.str s.oth]]=M2;have g2:Gr M M2:=hM2 ▸ g.snoc _;have hb:M2[M'.length]?=some (.lst [D.str s.one,D.str s.oth]):=hM2 ▸ get_new _ _;generalize M'.length=jb at hb ⊢;have e3:inL M2 (.str c) [D.str s.one,D.str s.oth]=some (c==s.one||c==s.oth):=by
   rw[inL_flat rfl rfl];show some (s.one==c||(s.oth==c||false))=_;rw[wg,wc (a:=s.one),wc (a:=s.oth)]
  have stay:swapB s t c=c->Gr M M2/\∃ x y,[some (D.str c),some (.ob js),some (.int t),some (D.tup [D.str s.one,D.str s.oth,D.int s.fst,D.int s.lst]),some (.ob jb)]=[some (D.str (swapV (ss.take (n + 1)) t h)),some (.ob js),some (.int t),x,y]:=fun e=>by
   rw[step,e];exact⟨g2,_,_,rfl⟩
  refine⟨fun h1=>⟨fun h2=>?_,fun h2=>stay ?_⟩,fun h1=>stay ?_⟩
  ·refine⟨_,hb,?_⟩
   walk_at "wq";rw[e3];refine⟨_,rfl,fun h3=>?_,fun h3=>stay ?_⟩
   ·refine⟨_,hb,?_⟩
    by_cases h4:c=s.one
    ·have e:swapB s t c=s.oth:=by
      unfold swapB;rw[h1,h2,h3,if_pos (by rfl),if_pos h4]
     rw[step,e];refine⟨_,hb,⟨rfl,rfl⟩,0,by rw[h4];simp[xa,eqF],?_⟩;walk_at "wq";refine⟨_,hb,?_⟩;walk_at "wq";exact⟨_,rfl,g2,_,_,rfl⟩
    ·have h5:c=s.oth:=by
      simp only[xr,beq_iff_eq]at h3;exact h3.resolve_left h4
     have e:swapB s t c=s.one:=by
      unfold swapB;rw[h1,h2,h3,if_pos (by rfl),if_neg h4]
     rw[step,e];refine⟨_,hb,⟨rfl,rfl⟩,1,?_,?_⟩
     ·have:(s.one==c)=false:=by simpa using fun z=>h4 z.symm
      rw[xa];show (if (s.one==c)=true then _ else _)=_;rw[this,if_neg (by simp),h5];simp[xa,eqF]
     ·walk_at "wq"
      refine⟨_,hb,?_⟩;walk_at "wq";exact⟨_,rfl,g2,_,_,rfl⟩
   ·unfold swapB
    rw[h1,h2,h3,if_neg (by simp)]
  ·unfold swapB
   rw[h1,h2,if_neg (by simp)]
  ·unfold swapB
   rw[h1,if_neg (by simp)]
 ·rintro ρ M' ⟨g,x,y,rfl⟩
  rw[zw,zR];walk_at "wq";exact q _ g
structure Ab.Ok (s:Ab) (names:List Str) (turn:Int):Prop where
 h:s.h∈names
 f0:0<=s.fst
 fl:s.fst < s.lst
 f1:s.fst<=turn + 2
 l1:s.lst<=turn + 20
theorem absences_w (k:Nat)(sc:List Int)(i:Int)(jn:Nat)(names:List Str)(turn:Int)(m:Nat)(M:MH){Q:D->MH->Prop}(h0:0<=i)(h1:i<=90000)(hm:m<=100)(ht:0<=turn)(h2:1<=names.length)(h8:names.length<=100)(hjn:M[jn]?=some (.lst (names.map .str)))
  (q:∀ (as:List Ab) (j:Nat) (M':MH),(∀ a∈as,a.Ok names turn)->as.length=m->Gr M M'->M.length<=j->M'[j]?=some (.lst (as.map abD))->Q (.ob j) M'):W ((cx srt (k + 3)).fn "_law_absences" [.fl (sc.map .int),.int i,.ob jn,.int turn,.int m]) M Q:=by
 have big:=line_big;rw[f__law_absences,wf,b__law_absences];walk_at "wq";refine⟨by walk_at "o",⟨by walk_at "o",by walk_at "o"⟩,?_⟩;refine w_loop (fun n ρ M'=>Gr M M'/\(∃ as:List Ab,M'[M.length]?=some (.lst (as.map abD))/\as.length=n/\∀ a∈as,a.Ok names turn)/\∃ x6 x7 x8,ρ=[some (.fl (sc.map .int)),some (.int i),some (.ob jn),some (.int turn),some (.int m),some (.ob M.length),x6,x7,x8]) ⟨Gr.app _ _,⟨[],get_new _ _,rfl,by simp⟩,none,none,none,rfl⟩ (fun _ _ _ _=>trivial) ?_ ?_
 ·rintro n d ρ M2 hd ⟨g,⟨as,hg,hl,hok⟩,x6,x7,x8,rfl⟩
  obtain⟨rfl,hn⟩:=rng_get hd;walk_at "wq";refine⟨.inl ⟨by walk_at "o",by walk_at "o"⟩,pick_w (k:=k) sc _ _ M2 (by walk_at "o") (by walk_at "o") (by walk_at "o") ?_⟩;have c0:=pick_lo sc (i + 3 * (0 + (n:Int))) (show (0:Int) < 8 by walk_at "o");have c1:=pick_hi sc (i + 3 * (0 + (n:Int))) (show (0:Int) < 8 by walk_at "o");generalize pickV sc (i + 3 * (0 + (n:Int))) 8=c at *;walk_at "wq";refine⟨.inl ⟨by walk_at "o",by walk_at "o"⟩,_,g.keep _ _ hjn,?_⟩;rw[k_lenl,zw];obtain⟨an,ha,halt⟩:=pick_nat sc (i + 3 * (0 + (n:Int)) + 1) (m:=names.length) (by walk_at "o");refine pick_w (k:=k) sc _ _ M2 (by walk_at "o") (by walk_at "o") (by walk_at "o") ?_;rw[ha];walk_at "wq";refine⟨_,g.keep _ _ hjn,?_⟩;walk_at "wq";refine⟨_,hands_get halt,?_⟩;walk_at "wq";refine⟨_,hg,.inl ⟨by walk_at "o",by walk_at "o"⟩,pick_w (k:=k) sc _ _ M2 (by walk_at "o") (by walk_at "o") (by walk_at "o") ?_⟩;have d0:=pick_lo sc (i + 3 * (0 + (n:Int)) + 2) (show (0:Int) < 9 by walk_at "o");have d1:=pick_hi sc (i + 3 * (0 + (n:Int)) + 2) (show (0:Int) < 9 by walk_at "o");generalize pickV sc (i + 3 * (0 + (n:Int)) + 2) 9=dd at *;walk_at "wq";refine⟨by walk_at "o",_,hg,by rw[zw];walk_at "o",g.set (zp _) _,⟨as++[⟨names.getD an "",max 0 (turn + 2 - c),max 0 (turn + 2 - c) + 1 + dd⟩],?_,by rw[zq,hl];rfl,fun a ha=>?_⟩,_,_,_,rfl⟩
  ·rw[set_get hg,zd];rfl
  ·rcases zG.mp ha with h | h
   ·exact hok a h
   ·rw[zJ.mp h]
    refine⟨?_,?_,?_,?_,?_⟩
    ·show names.getD an ""∈names
     rw[zC,zt halt];exact yx _
    ·show 0<=max 0 (turn + 2 - c);walk_at "o"
    ·show max 0 (turn + 2 - c) < max 0 (turn + 2 - c) + 1 + dd;walk_at "o"
    ·show max 0 (turn + 2 - c)<=turn + 2;walk_at "o"
    ·show max 0 (turn + 2 - c) + 1 + dd<=turn + 20;walk_at "o"
 ·rintro ρ M2 ⟨g,⟨as,hg,hl,hok⟩,x6,x7,x8,rfl⟩
  rw[rng_len]at hl;walk_at "wq";exact q as _ _ hok (by walk_at "o") g (zp _) hg
theorem here_w (k:Nat)(M:MH)(h:Str)(ja:Nat)(as:List Ab)(t:Int)(hl:as.length<=1000)(hj:M[ja]?=some (.lst (as.map abD))){Q:D->MH->Prop}(q:∀ M',Gr M M'->Q (.bl (!awayB as t h)) M'):W ((cx srt (k + 1)).fn "_law_here" [.str h,.ob ja,.int t]) M Q:=by
 have big:=line_big;rw[f__law_here,wf,b__law_here];walk_at "wq";refine⟨_,hj,by rw[zw];walk_at "o",?_⟩;refine w_compI (fun n ys M'=>M'=M/\ys=((as.take n).filter fun a=>a.h==h&&(decide (a.fst<=t)&&decide (t < a.lst))).map abD) ⟨rfl,rfl⟩ (fun _ _ _ h=>by rw[h.1];exact hj) ?_ ?_
 ·rintro n d ys M' hd ⟨rfl,rfl⟩
  rw[zh]at hd;obtain⟨a,ha,rfl⟩:=zg.mp hd;rw[yi,ha,yS,zd];unfold abD;walk_at "wq";refine⟨fun h1=>⟨fun h2=>⟨fun h3=>?_,fun h3=>?_⟩,fun h2=>?_⟩,fun h1=>?_⟩
  ·simp[h1,h2,h3]
  ·simp[h1,h2,h3]
  ·simp[h1,h2]
  ·simp[h1]
 ·rintro ys M' ⟨rfl,rfl⟩
  rw[zw,zR];walk_at "wq";refine⟨by walk_at "o",?_⟩;rw[p_eq];refine⟨_,eo_nil ((Gr.app _ _).keep _ _ (get_new _ _)) (get_new _ _),?_⟩;have e:(List.map abD (as.filter fun a=>a.h==h&&(decide (a.fst<=t)&&decide (t < a.lst)))).isEmpty = !awayB as t h:=by
   unfold awayB;rw[vG,xc];simp[List.filter_eq_nil_iff]
  rw[e];exact q _ ((Gr.app _ _).snoc _)
end
end Law
namespace Law
open PySem L3
section
variable {srt:List D->Option (List D)}
theorem lhandOn_w (k:Nat)(M:MH){d:D}{hs:List Str}{fst lng:Int}(R:Rota d hs fst lng)(js ja:Nat)(ss:List Sw)(as:List Ab)(t:Int)(hl:as.length<=1000)(hj:M[js]?=some (.lst (ss.map swD)))(hja:M[ja]?=some (.lst (as.map abD)))
  (hm:swapV ss t (hs[tix hs.length fst lng t]'(tix_lt R.lo _ _ _))∈hs) {Q:D->MH->Prop} (q:∀ M',Gr M M'->Q (sOpt (onV hs as t (swapV ss t (hs[tix hs.length fst lng t]'(tix_lt R.lo _ _ _))))) M'):W ((cx srt (k + 2)).fn "_law_hand_on" [d,.ob js,.ob ja,.int t]) M Q:=by
 have big:=line_big
 have:=R.lo
 have:=R.hi
 have:=R.l0
 have:=R.l1
 have hp:0 < lng * (hs.length:Int):=Int.mul_pos (by walk_at "o") (by walk_at "o");rw[f__law_hand_on,wf,b__law_hand_on,R.is];walk_at "wq";rw[zw];refine⟨.inr ⟨by walk_at "o",by walk_at "o"⟩,hp,⟨by walk_at "o",by walk_at "o"⟩,.str (hs[tix hs.length fst lng t]'(tix_lt R.lo _ _ _)),?_,?_⟩
 ·rw[div_round _ _ _ (by walk_at "o") (by walk_at "o"),tix_int R.lo]
  refine atD_nat ?_;rw[zh,zt (tix_lt R.lo _ _ _)];rfl
 refine lswapped_w k M _ js ss t hj fun M1 g1=>?_;generalize swapV ss t (hs[tix hs.length fst lng t]'(tix_lt R.lo _ _ _))=h at hm q ⊢;walk_at "wq";refine⟨⟨rfl,by rw[vj,yf];exact fun _ _=>rfl⟩,_,idx_of hm,?_⟩;walk_at "wq";rw[cut_lo _ (by walk_at "o"),cut_hi _ (by walk_at "o")];have en:((hs.idxOf h:Nat):Int).toNat=hs.idxOf h:=rfl;rw[en,<- we,<- xP,<- zd];unfold onV at q;have hrl:(hs.drop (hs.idxOf h)++hs.take (hs.idxOf h)).length=hs.length:=by rw[zq,zM,za];walk_at "o"
 refine⟨by rw[zw,zw,zM,za];walk_at "o",by rw[zw,hrl];walk_at "o",?_⟩;show W (compD none _ _ _ ((round hs (hs.idxOf h)).map D.str)) M1 _;generalize round hs (hs.idxOf h)=rs at q ⊢;refine w_compI (fun n ys M'=>Gr M M'/\ys=((rs.take n).filter fun x=>!awayB as t x).map D.str) ⟨g1,rfl⟩ (fun _ _ _ _=>trivial) ?_ ?_
 ·rintro n e ys M' hd ⟨g,rfl⟩
  rw[zh]at hd;obtain⟨y,hy,rfl⟩:=zg.mp hd;walk_at "wq";refine here_w k M' y ja as t hl (g.keep _ _ hja) fun M2 g2=>?_;walk_at "wq";rw[yi,hy,yS,zd];refine⟨fun h1=>⟨g.trans g2,by simp[h1]⟩,fun h1=>⟨g.trans g2,by simp[h1]⟩⟩
 ·rintro ys M' ⟨g,rfl⟩
  rw[zw,zR];walk_at "wq";refine⟨by walk_at "o",?_⟩;rw[p_eq];refine⟨_,eo_nil ((Gr.app _ _).keep _ _ (get_new _ _)) (get_new _ _),?_⟩;rw[vG];cases hf:rs.filter (fun x=>!awayB as t x) with
  | nil =>
   refine⟨_,rfl,fun _=>?_,fun z=>(by cases z)⟩;have e:rs.find? (fun x=>!awayB as t x)=none:=by
    rw[vm];intro x hx hc
    have:x∈rs.filter (fun x=>!awayB as t x):=xg.mpr ⟨hx,hc⟩
    rw[hf]at this;cases this
   have:=q _ ((g.snoc (.lst (([]:List Str).map D.str))).snoc (.lst []))
   rw[e]at this;walk_at "wq";exact this
  | cons y r =>
   refine⟨_,rfl,fun z=>(by cases z),fun _=>?_⟩;walk_at "wq";refine⟨_,(Gr.app _ _).keep _ _ (get_new _ _),?_⟩;walk_at "wq";have e:rs.find? (fun x=>!awayB as t x)=some y:=by
    have:=List.head?_filter (p:=fun x=>!awayB as t x) (l:=rs)
    rw[hf]at this;exact this.symm
   have:=q _ ((g.snoc (.lst ((y::r).map D.str))).snoc (.lst []))
   rw[e]at this;exact this
theorem abD_plain (a:Ab):plainD 2 (abD a)=true:=rfl
theorem swD_plain (a:Sw):plainD 2 (swD a)=true:=rfl
theorem plain_up:∀ {n:Nat} {d:D},plainD n d=true->plainD (n + 1) d=true
 | 0,_,h=>by cases h
 | n + 1,d,h=>by
  cases d with
  | tup ds =>
   show ds.all (plainD (n + 1))=true;rw[yf];exact fun x hx=>plain_up (yf.mp h x hx)
  | _=>exact h
theorem z_len:(("z" : Str)).length=1:=by decide +kernel
theorem sO_n:sOpt none=.non:=rfl
theorem sO_s {y:Str}:sOpt (some y)=.str y:=rfl
theorem swapV_in {ss:List Sw}{hs:List Str}(hss:∀ s∈ss,s.one∈hs/\s.oth∈hs)(t:Int):∀ {h:Str},h∈hs->swapV ss t h∈hs:=by
 induction ss with
 | nil=>exact fun h=>h
 | cons s ss ih =>
  intro h hm;show swapV ss t (swapB s t h)∈hs;refine ih (fun z hz=>hss z (zP _ hz)) ?_
  have:=hss s zU
  unfold swapB;split
  ·split
   ·exact this.2
   ·exact this.1
  ·exact hm
noncomputable def onT (hs:List Str)(fst lng:Int)(ss:List Sw)(as:List Ab)(t:Int):Option Str:=onV hs as t (swapV ss t (hs.getD (tix hs.length fst lng t) ""))
theorem onT_eq {d:D}{hs:List Str}{fst lng:Int}(R:Rota d hs fst lng)(ss:List Sw)(as:List Ab)(t:Int):onV hs as t (swapV ss t (hs[tix hs.length fst lng t]'(tix_lt R.lo _ _ _)))=onT hs fst lng ss as t:=by
 unfold onT;rw[zC,zt (tix_lt R.lo _ _ _)];rfl
theorem hOn_w (k:Nat)(M:MH){d:D}{hs:List Str}{fst lng:Int}(R:Rota d hs fst lng)(js ja:Nat)(ss:List Sw)(as:List Ab)(t:Int)(hss:∀ s∈ss,s.one∈hs/\s.oth∈hs)(hl:as.length<=1000)(hj:M[js]?=some (.lst (ss.map swD)))(hja:M[ja]?=some (.lst (as.map abD)))
  {Q:D->MH->Prop} (q:∀ M',Gr M M'->Q (sOpt (onT hs fst lng ss as t)) M'):W ((cx srt (k + 2)).fn "hand_on" [d,.ob js,.ob ja,.int t]) M Q :=
 handOn_w k M R js ja ss as t hl hj hja (swapV_in hss t (yx _)) fun M' g=>by rw[onT_eq R];exact q M' g
theorem lOn_w (k:Nat)(M:MH){d:D}{hs:List Str}{fst lng:Int}(R:Rota d hs fst lng)(js ja:Nat)(ss:List Sw)(as:List Ab)(t:Int)(hss:∀ s∈ss,s.one∈hs/\s.oth∈hs)(hl:as.length<=1000)(hj:M[js]?=some (.lst (ss.map swD)))(hja:M[ja]?=some (.lst (as.map abD)))
  {Q:D->MH->Prop} (q:∀ M',Gr M M'->Q (sOpt (onT hs fst lng ss as t)) M'):W ((cx srt (k + 2)).fn "_law_hand_on" [d,.ob js,.ob ja,.int t]) M Q :=
 lhandOn_w k M R js ja ss as t hl hj hja (swapV_in hss t (yx _)) fun M' g=>by rw[onT_eq R];exact q M' g
noncomputable def Out (a t x:Int):Prop:=¬ (a < x/\x<=t)
theorem dec_same {a t x:Int}(h:a<=t)(o:Out a t x):decide (x<=t)=decide (x<=a)/\decide (t < x)=decide (a < x):=by
 unfold Out at o;by_cases h1:x<=a
 ·rw[decide_eq_true h1,decide_eq_true (by walk_at "o"),decide_eq_false (by walk_at "o"),decide_eq_false (by walk_at "o")]
  exact⟨rfl,rfl⟩
 ·rw[decide_eq_false h1,decide_eq_false (by walk_at "o"),decide_eq_true (by walk_at "o"),decide_eq_true (by walk_at "o")]
  exact⟨rfl,rfl⟩
theorem swapV_same {a t:Int}(h:a<=t):∀ {ss:List Sw} (_:∀ s∈ss,Out a t s.fst/\Out a t s.lst) (x:Str),swapV ss t x=swapV ss a x
 | [],_,_=>rfl
 | s::ss,ho,x=>by
  have o:=ho s zU;have e:swapB s t x=swapB s a x:=by
   unfold swapB;rw[(dec_same h o.1).1,(dec_same h o.2).2]
  show swapV ss t (swapB s t x)=swapV ss a (swapB s a x);rw[e];exact swapV_same h (fun z hz=>ho z (zP _ hz)) _
theorem awayB_same {a t:Int}(h:a<=t){as:List Ab}(ho:∀ s∈as,Out a t s.fst/\Out a t s.lst)(x:Str):awayB as t x=awayB as a x:=by
 unfold awayB;induction as with
 | nil=>rfl
 | cons s as ih =>
  have o:=ho s zU;rw[xq,xq,ih fun z hz=>ho z (zP _ hz),(dec_same h o.1).1,(dec_same h o.2).2]
theorem div_same {fst lng a t:Int}(hl:0 < lng)(h:a<=t)(ho:∀ x,a < x->x<=t->(x - fst) % lng≠0):(t - fst) / lng=(a - fst) / lng:=by
 have e1:=wP (t - fst) lng;have e2:=wP (a - fst) lng;have m1:=yn (t - fst) (show lng≠0 by walk_at "o");have m2:=zX (t - fst) hl;have m3:=yn (a - fst) (show lng≠0 by walk_at "o");have m4:=zX (a - fst) hl;have hle:(a - fst) / lng<=(t - fst) / lng:=Int.ediv_le_ediv hl (by walk_at "o");rcases Int.lt_or_eq_of_le hle with hlt | he
 ·exfalso
  have hx:a < fst + lng * ((t - fst) / lng):=by
   have h1:lng * ((a - fst) / lng + 1)<=lng * ((t - fst) / lng):=xw (by walk_at "o") (by walk_at "o");rw[ux]at h1;walk_at "o"
  refine ho (fst + lng * ((t - fst) / lng)) hx (by walk_at "o") ?_;rw[show fst + lng * ((t - fst) / lng) - fst=lng * ((t - fst) / lng) by walk_at "o"];exact Int.mul_emod_right _ _
 ·exact he.symm
theorem onT_same {hs:List Str}{fst lng:Int}{ss:List Sw}{as:List Ab}{a t:Int}(hl:0 < lng)(h:a<=t)(h1:∀ x,a < x->x<=t->(x - fst) % lng≠0)(h2:∀ s∈ss,Out a t s.fst/\Out a t s.lst)(h3:∀ s∈as,Out a t s.fst/\Out a t s.lst) :
  onT hs fst lng ss as t=onT hs fst lng ss as a:=by
 have e1:tix hs.length fst lng t=tix hs.length fst lng a:=by
  unfold tix;rw[div_same hl h h1]
 unfold onT onV;rw[e1,swapV_same h h2];have e2:(fun x=>!awayB as t x)=fun x=>!awayB as a x:=funext fun x=>by rw[awayB_same h h3]
 rw[e2]
structure Hw where
 b:Int
 e:Int
 h:Option Str
noncomputable def hwD (r:Hw):D:=.tup [.int r.b,.int r.e,sOpt r.h]
noncomputable def Hr (on:Int->Option Str):Int->List Hw->Int->Prop
 | s,[],e=>s=e
 | s,r::F,e=>r.b=s/\s < r.e/\(∀ t,s<=t->t < r.e->on t=r.h)/\(∀ r',F.head?=some r'->r'.h≠r.h)/\Hr on r.e F e
theorem hr_snoc {on:Int->Option Str}{m e:Int}{h:Option Str}(hme:m < e)(ho:∀ t,m<=t->t < e->on t=h):∀ {F:List Hw} {s:Int},Hr on s F m->(∀ r,F.getLast?=some r->r.h≠h)->Hr on s (F++[⟨m,e,h⟩]) e
 | [],s,hr,_=>by
  have:s=m:=hr
  subst this;exact⟨rfl,hme,ho,fun _ z=>(by cases z),rfl⟩
 | r::F,s,⟨h1,h2,h3,h4,h5⟩,hl=>by
  refine⟨h1,h2,h3,fun r' hr'=>?_,hr_snoc hme ho h5 fun r'' hr''=>?_⟩
  ·cases F with
   | nil =>
    cases hr';exact fun z=>hl r rfl z.symm
   | cons r2 F=>exact h4 r' hr'
  ·cases F with
   | nil=>cases hr''
   | cons r2 F=>exact hl r'' (by rw[List.getLast?_cons_cons];exact hr'')
theorem hr_more {on:Int->Option Str}{b m e:Int}{h:Option Str}(hme:m < e)(ho:∀ t,m<=t->t < e->on t=h):∀ {F:List Hw} {s:Int},Hr on s (F++[⟨b,m,h⟩]) m->Hr on s (F++[⟨b,e,h⟩]) e
 | [],s,⟨h1,h2,h3,h4,h5⟩=>⟨h1,Int.lt_trans h2 hme,fun t t0 t1=>by
   by_cases hm:t < m
   ·exact h3 t t0 hm
   ·exact ho t (by walk_at "o") t1,fun _ z=>(by cases z),rfl⟩
 | r::F,s,⟨h1,h2,h3,h4,h5⟩=>by
  refine⟨h1,h2,h3,fun r' hr'=>?_,hr_more hme ho h5⟩;cases F with
  | nil =>
   cases hr';exact h4 ⟨b,m,h⟩ rfl
  | cons r2 F=>exact h4 r' hr'
noncomputable def endAt (s:Int)(F:List Hw):Nat->Int
 | 0=>s
 | n + 1=>match F[n]? with
  | some r=>r.e
  | none=>s
theorem hr_at {on:Int->Option Str}{e:Int}:∀ {F:List Hw} {s:Int} {n:Nat} {r:Hw},Hr on s F e->F[n]?=some r->r.b=endAt s F n/\r.b < r.e/\(∀ t,r.b<=t->t < r.e->on t=r.h)/\∀ r',F[n + 1]?=some r'->r'.h≠r.h
 | [],_,_,_,_,h=>by cases h
 | r0::F,s,0,r,⟨h1,h2,h3,h4,h5⟩,h=>by
  cases h;refine⟨h1,by rw[h1];exact h2,fun t t0 t1=>h3 t (by rw[<- h1];exact t0) t1,fun r' hr'=>h4 r' ?_⟩;rw[yr]at hr';rw[List.head?_eq_getElem?];exact hr'
 | r0::F,s,n + 1,r,⟨h1,h2,h3,h4,h5⟩,h=>by
  rw[yr]at h;obtain⟨k1,k2,k3,k4⟩:=hr_at h5 h;refine⟨?_,k2,k3,fun r' hr'=>k4 r' (by rw[yr]at hr';exact hr')⟩;rw[k1];cases n with
  | zero=>rfl
  | succ n =>
   show (match F[n]? with | some r=>r.e | none=>r0.e)=(match (r0::F)[n + 1]? with | some r=>r.e | none=>s)
   rw[yr];cases hn:F[n]? with
   | some r=>rfl
   | none =>
    exfalso
    have:=List.getElem?_eq_none_iff.mp hn
    have:=(zr.mp h).1
    walk_at "o"
theorem hr_end {on:Int->Option Str}{e:Int}:∀ {F:List Hw} {s:Int},Hr on s F e->endAt s F F.length=e
 | [],s,h=>h
 | r0::F,s,⟨h1,h2,h3,h4,h5⟩=>by
  have:=hr_end h5
  cases F with
  | nil=>exact this
  | cons r1 F =>
   show (match (r0::r1::F)[F.length + 1]? with | some r=>r.e | none=>s)=e
   rw[yr];have k:(match (r1::F)[F.length]? with | some r=>r.e | none=>r0.e)=e:=this
   rw[zt (show F.length < (r1::F).length by simp)]at k ⊢;exact k
end
end Law
namespace Law
open PySem L3
section
variable {srt:List D->Option (List D)}
noncomputable def rgI (b l st:Int):List Int:=(List.range (rngN3 b l st)).map fun (k:Nat)=>b + k * st
theorem rgI_d (b l st:Int):rngL3 b l st=(rgI b l st).map D.int:=by
 unfold rngL3 rgI;rw[yO];rfl
noncomputable def bgn (fst lng first:Int):Int:=first - (first - fst) % lng
noncomputable def edX (fst lng first last:Int)(ss:List Sw)(as:List Ab):List Int:=rgI (bgn fst lng first) last lng++(ss.flatMap fun s=>[s.fst,s.lst])++as.flatMap fun a=>[a.fst,a.lst]
noncomputable def edS (fst lng first last:Int)(ss:List Sw)(as:List Ab):List Int:=sortI (addAll [] ((edX fst lng first last ss as).filter fun x=>decide (first < x)&&decide (x < last)))
noncomputable def edT (fst lng first last:Int)(ss:List Sw)(as:List Ab):List Int:=[first]++edS fst lng first last ss as++[last]
theorem bgn_lo {fst lng first:Int}(hl:0 < lng):first - lng < bgn fst lng first/\bgn fst lng first<=first:=by
 have:=yn (first - fst) (show lng≠0 by walk_at "o")
 have:=zX (first - fst) hl
 unfold bgn;walk_at "o"
theorem rgI_len {b l st:Int}{m:Nat}(h0:0 < st)(h:l - b<=m * st):(rgI b l st).length<=m:=by
 unfold rgI;rw[zw,zI];unfold rngN3;by_cases hm:0 < l - b
 ·have:(l - b - 1) / st < m:=Int.ediv_lt_of_lt_mul h0 (by walk_at "o")
  walk_at "o"
 ·have:(l - b - 1) / st < 0:=Int.ediv_neg_of_neg_of_pos (by walk_at "o") h0
  walk_at "o"
theorem addS_mem {xs:List Int}{x y:Int}:y∈addS xs x ↔ y∈xs\/y=x:=by
 unfold addS;split
 ·rename_i h
  exact⟨.inl,fun z=>z.elim id fun e=>e ▸ h⟩
 ·simp
theorem addAll_mem:∀ {ys xs:List Int} {y:Int},y∈addAll xs ys ↔ y∈xs\/y∈ys
 | [],xs,y=>by simp[addAll]
 | z::ys,xs,y=>by
  rw[addAll,addAll_mem,addS_mem,zO];constructor
  ·rintro ((h | h) | h)
   ·exact .inl h
   ·exact .inr (.inl h)
   ·exact .inr (.inr h)
  ·rintro (h | h | h)
   ·exact .inl (.inl h)
   ·exact .inl (.inr h)
   ·exact .inr h
theorem addAll_nd:∀ (ys xs:List Int),xs.Nodup->(addAll xs ys).Nodup
 | [],_,h=>h
 | y::ys,xs,h=>addAll_nd ys _ (by
  unfold addS;split
  ·exact h
  ·rename_i hy
   exact wk.mpr ⟨h,by simp,fun a ha b hb=>by rw[zJ.mp hb];exact fun e=>hy (e ▸ ha)⟩)
theorem addAll_le:∀ (ys xs:List Int),(addAll xs ys).length<=xs.length + ys.length
 | [],_=>zp _
 | y::ys,xs=>by
  refine zS (addAll_le ys (addS xs y)) ?_
  have:(addS xs y).length<=xs.length + 1:=by
   unfold addS;split
   ·walk_at "o"
   ·rw[zq];exact zp _
  rw[zE];walk_at "o"
theorem edS_mem {fst lng first last:Int}{ss:List Sw}{as:List Ab}{x:Int}:x∈edS fst lng first last ss as ↔ x∈edX fst lng first last ss as/\first < x/\x < last:=by
 unfold edS;rw[(sortI_perm _).mem_iff,addAll_mem,xg];simp
theorem edS_lt (fst lng first last:Int)(ss:List Sw)(as:List Ab):(edS fst lng first last ss as).Pairwise (· < ·):=by
 have h1:=sortI_pw (addAll [] ((edX fst lng first last ss as).filter fun x=>decide (first < x)&&decide (x < last)))
 have h2:(edS fst lng first last ss as).Nodup:=(sortI_perm _).nodup_iff.mpr (addAll_nd _ _ wU)
 exact(List.Pairwise.and h1 h2).imp fun ⟨a,b⟩=>by walk_at "o"
theorem edT_lt {fst lng first last:Int}(h:first < last)(ss:List Sw)(as:List Ab):(edT fst lng first last ss as).Pairwise (· < ·):=by
 unfold edT;rw[zA,xK];refine xv.mpr ⟨fun x hx=>?_,yJ.mpr ⟨edS_lt _ _ _ _ _ _,xC _ _,fun x hx y hy=>?_⟩⟩
 ·rcases zG.mp hx with hx | hx
  ·exact(edS_mem.mp hx).2.1
  ·rw[zJ.mp hx];exact h
 ·rw[zJ.mp hy]
  exact(edS_mem.mp hx).2.2
theorem rg_mem {fst lng first last x:Int}(hl:0 < lng)(h0:first < x)(h1:x < last)(hx:(x - fst) % lng=0):x∈rgI (bgn fst lng first) last lng:=by
 have b:=bgn_lo (fst:=fst) (first:=first) hl
 have hm:(x - bgn fst lng first) % lng=0:=by
  unfold bgn;rw[show x - (first - (first - fst) % lng)=(x - fst) - ((first - fst) - (first - fst) % lng) by walk_at "o",vZ,hx,vZ]
  simp
 obtain⟨q,hq⟩:=Int.dvd_of_emod_eq_zero hm;have q0:0<=q:=by
  rcases Int.lt_or_le q 0 with z | z
  ·have:lng * q<=lng * (-1):=xw (by walk_at "o") (by walk_at "o")
   walk_at "o"
  ·exact z
 unfold rgI;refine yj.mpr ⟨q.toNat,yG.mpr ?_,?_⟩
 ·unfold rngN3
  have:q<=(last - bgn fst lng first - 1) / lng:=wN hl (by rw[uz];walk_at "o")
  walk_at "o"
 ·rw[xY q0,uz]
  walk_at "o"
theorem edX_out {fst lng first last a t:Int}{ss:List Sw}{as:List Ab}(hl:0 < lng)(ha:first<=a)(ht:t < last)(hn:∀ x∈edS fst lng first last ss as,¬ (a < x/\x<=t))(hat:a<=t)(hs:List Str):onT hs fst lng ss as t=onT hs fst lng ss as a:=by
 have key:∀ x,x∈edX fst lng first last ss as->Out a t x:=fun x hx z=>hn x (edS_mem.mpr ⟨hx,by walk_at "o",by walk_at "o"⟩) z
 refine onT_same hl hat (fun x x0 x1 hx=>?_) (fun s hs=>⟨key _ ?_,key _ ?_⟩) fun s hs=>⟨key _ ?_,key _ ?_⟩
 ·exact key x (by unfold edX;exact yw _ (yw _ (rg_mem hl (by walk_at "o") (by walk_at "o") hx))) ⟨x0,x1⟩
 ·unfold edX;exact yw _ (zb _ (xO.mpr ⟨s,hs,by simp⟩))
 ·unfold edX;exact yw _ (zb _ (xO.mpr ⟨s,hs,by simp⟩))
 ·unfold edX;exact zb _ (xO.mpr ⟨s,hs,by simp⟩)
 ·unfold edX;exact zb _ (xO.mpr ⟨s,hs,by simp⟩)
theorem edT_on {fst lng first last:Int}{ss:List Sw}{as:List Ab}(hl:0 < lng)(h:first < last){n:Nat}{a b t:Int}(ha:(edT fst lng first last ss as)[n]?=some a)(hb:(edT fst lng first last ss as)[n + 1]?=some b)(h0:a<=t)(h1:t < b)(hs:List Str) :
  a < b/\onT hs fst lng ss as t=onT hs fst lng ss as a:=by
 have pw:=yz.mp (edT_lt (fst:=fst) (lng:=lng) h ss as);obtain⟨la,ea⟩:=zr.mp ha;obtain⟨lb,eb⟩:=zr.mp hb;have hab:a < b:=by rw[<- ea,<- eb];exact pw n (n + 1) la lb (yQ _)
 have bd:∀ x∈edT fst lng first last ss as,first<=x/\x<=last:=fun x hx=>by
  unfold edT at hx;rcases zG.mp hx with hx | hx
  ·rcases zG.mp hx with hx | hx
   ·rw[zJ.mp hx];walk_at "o"
   ·have:=(edS_mem.mp hx).2;walk_at "o"
  ·rw[zJ.mp hx];walk_at "o"
 have ba:=bd a (ea ▸ yx _);have bb:=bd b (eb ▸ yx _);refine⟨hab,edX_out (last:=last) hl ba.1 (by walk_at "o") (fun x hx z=>?_) h0 hs⟩;have hm:x∈edT fst lng first last ss as:=by unfold edT;exact yw _ (zb _ hx)
 obtain⟨i,li,ei⟩:=yU.mp hm;rcases vf i n with c | c | c
 ·have:=pw i n li la c;walk_at "o"
 ·subst c;walk_at "o"
 ·rcases xu (show n + 1<=i from c) with c | c
  ·have:=pw (n + 1) i lb li c;walk_at "o"
  ·subst c;walk_at "o"
theorem edT_len {fst lng first last:Int}{ss:List Sw}{as:List Ab}(hl:0 < lng)(h:last<=first + 300 * lng)(h1:ss.length<=100)(h2:as.length<=100):(edX fst lng first last ss as).length<=701/\2<=(edT fst lng first last ss as).length/\(edT fst lng first last ss as).length<=703:=by
 have b:=bgn_lo (fst:=fst) (first:=first) hl
 have e1:(rgI (bgn fst lng first) last lng).length<=301:=rgI_len hl (by walk_at "o")
 have f1:∀ l:List Sw,(l.flatMap fun s=>[s.fst,s.lst]).length=2 * l.length:=fun l=>by
  induction l with
  | nil=>rfl
  | cons x l ih=>rw[xo,zq,ih,show (x::l).length=l.length + 1 from rfl];show 2 + _=_;walk_at "o"
 have f2:∀ l:List Ab,(l.flatMap fun s=>[s.fst,s.lst]).length=2 * l.length:=fun l=>by
  induction l with
  | nil=>rfl
  | cons x l ih=>rw[xo,zq,ih,show (x::l).length=l.length + 1 from rfl];show 2 + _=_;walk_at "o"
 have e2:(edX fst lng first last ss as).length<=701:=by
  unfold edX;rw[zq,zq,f1,f2];walk_at "o"
 have e3:(edS fst lng first last ss as).length<=701:=by
  unfold edS;rw[(sortI_perm _).length_eq];refine zS (addAll_le _ _) ?_;rw[xt,yP];exact zS (xL _ _) e2
 unfold edT;rw[zq,zq,xI,xI];walk_at "o"
theorem edges_w (k:Nat)(M:MH){d:D}{hs:List Str}{fst lng:Int}(R:Rota d hs fst lng)(js ja:Nat)(ss:List Sw)(as:List Ab)(first last:Int)(f0:0<=first)(f1:first<=200000000000)(fl:first < last)(f2:last<=first + 300 * lng)(h1:ss.length<=100)(h2:as.length<=100)(hj:M[js]?=some (.lst (ss.map swD)))(hja:M[ja]?=some (.lst (as.map abD)))
  {Q:D->MH->Prop} (q:∀ (j:Nat) (M':MH),Gr M M'->M.length<=j->M'[j]?=some (.lst ((edT fst lng first last ss as).map .int))->Q (.ob j) M'):W ((cx srt (k + 1)).fn "edges" [d,.ob js,.ob ja,.int first,.int last]) M Q:=by
 have big:=line_big
 have:=R.l0
 have:=R.l1
 have el:=edT_len (fst:=fst) (ss:=ss) (as:=as) (show 0 < lng by walk_at "o") f2 h1 h2;have b:=bgn_lo (fst:=fst) (first:=first) (show 0 < lng by walk_at "o")
 rw[f_edges,wf,b_edges,R.is];walk_at "wq";have hn:rngN3 (bgn fst lng first) last lng<=301:=by
  have:=rgI_len (b:=bgn fst lng first) (l:=last) (m:=301) (show 0 < lng by walk_at "o") (by walk_at "o")
  unfold rgI at this
  rwa [zw,zI]at this
 rw[show first - (first - fst) % lng=bgn fst lng first from rfl]
 refine⟨by walk_at "o",⟨⟨by walk_at "o",by walk_at "o"⟩,⟨by walk_at "o",by walk_at "o"⟩,by walk_at "o",by walk_at "o",by walk_at "o",by walk_at "o"⟩,_,(Gr.app _ _).keep _ _ hj,?_⟩;rw[rgI_d];generalize hM1:M++[MO.lst ((rgI (bgn fst lng first) last lng).map D.int)]=M1
 have g1:Gr M M1:=hM1 ▸ Gr.app _ _;have h3:M1[M.length]?=some (.lst ((rgI (bgn fst lng first) last lng).map D.int)):=hM1 ▸ get_new _ _
 clear hM1;have hx:(rgI (bgn fst lng first) last lng).length + 2 * ss.length + 2 * as.length<=701:=by
  unfold rgI;rw[zw,zI];walk_at "o"
 generalize hrg:rgI (bgn fst lng first) last lng=rg at h3 hx
 refine w_loop (fun n ρ M'=>Gr M M'/\M'[M.length]?=some (.lst ((rg++(ss.take n).flatMap fun s=>[s.fst,s.lst]).map D.int))/\∃ x7,ρ=[some (D.tup [D.tup (hs.map D.str),D.int fst,D.int lng]),some (D.ob js),some (D.ob ja),some (D.int first),some (D.int last),some (D.int (bgn fst lng first)),some (D.ob M.length),x7,none]) ⟨g1,by simpa using h3,none,rfl⟩ (fun _ _ _ h=>h.1.keep _ _ hj) ?_ ?_
 ·rintro n e ρ M' hd ⟨g,hg,x7,rfl⟩
  rw[zh]at hd;obtain⟨s,hs',rfl⟩:=zg.mp hd;unfold swD;walk_at "wq";have e2:cutD [D.str s.one,D.str s.oth,D.int s.fst,D.int s.lst] (some 2) none=[D.int s.fst,D.int s.lst]:=rfl;have lt:=(zr.mp hs').1;have fl2:∀ l:List Sw,(l.flatMap fun s=>[s.fst,s.lst]).length=2 * l.length:=fun l=>by
   induction l with
   | nil=>rfl
   | cons x l ih=>rw[xo,zq,ih,show (x::l).length=l.length + 1 from rfl];show 2 + _=_;walk_at "o"
  refine⟨_,hg,_,hg,?_,g.set (zp _) _,?_,_,rfl⟩
  ·rw[e2,zw,zq,fl2,za]
   show _ + 2<=_;walk_at "o"
  ·rw[set_get hg,e2,yi,hs',wZ,<- zA]
   exact congrArg (fun l=>some (MO.lst l)) (zd (l₂:=[s.fst,s.lst])).symm
 ·rintro ρ M' ⟨g,hg,x7,rfl⟩
  rw[zw,zR]at hg;walk_at "wq";refine⟨_,g.keep _ _ hja,?_⟩;have fl2:∀ l:List Sw,(l.flatMap fun s=>[s.fst,s.lst]).length=2 * l.length:=fun l=>by
   induction l with
   | nil=>rfl
   | cons x l ih=>rw[xo,zq,ih,show (x::l).length=l.length + 1 from rfl];show 2 + _=_;walk_at "o"
  have fl3:∀ l:List Ab,(l.flatMap fun s=>[s.fst,s.lst]).length=2 * l.length:=fun l=>by
   induction l with
   | nil=>rfl
   | cons x l ih=>rw[xo,zq,ih,show (x::l).length=l.length + 1 from rfl];show 2 + _=_;walk_at "o"
  have hrg2:rg++(ss.flatMap fun s=>[s.fst,s.lst])=rgI (bgn fst lng first) last lng++ss.flatMap fun s=>[s.fst,s.lst]:=by rw[hrg]
  have hlr:(rg++(ss.flatMap fun s=>[s.fst,s.lst])).length + 2 * as.length<=701:=by rw[zq,fl2];walk_at "o"
  generalize rg++(ss.flatMap fun s=>[s.fst,s.lst])=rg2 at hg hrg2 hlr;refine w_loop (fun n ρ M'=>Gr M M'/\M'[M.length]?=some (.lst ((rg2++(as.take n).flatMap fun s=>[s.fst,s.lst]).map D.int))/\∃ x8,ρ=[some (D.tup [D.tup (hs.map D.str),D.int fst,D.int lng]),some (D.ob js),some (D.ob ja),some (D.int first),some (D.int last),some (D.int (bgn fst lng first)),some (D.ob M.length),x7,x8]) ⟨g,by simpa using hg,none,rfl⟩ (fun _ _ _ h=>h.1.keep _ _ hja) ?_ ?_
  ·rintro n e ρ M' hd ⟨g,hg,x8,rfl⟩
   rw[zh]at hd;obtain⟨s,hs',rfl⟩:=zg.mp hd;unfold abD;walk_at "wq";have e2:cutD [D.str s.h,D.int s.fst,D.int s.lst] (some 1) none=[D.int s.fst,D.int s.lst]:=rfl;have lt:=(zr.mp hs').1;refine⟨_,hg,_,hg,?_,g.set (zp _) _,?_,_,rfl⟩
   ·rw[e2,zw,zq,fl3,za]
    show _ + 2<=_;walk_at "o"
   ·rw[set_get hg,e2,yi,hs',wZ,<- zA]
    exact congrArg (fun l=>some (MO.lst l)) (zd (l₂:=[s.fst,s.lst])).symm
  ·rintro ρ M' ⟨g,hg,x8,rfl⟩
   rw[zw,zR]at hg;have hX:edX fst lng first last ss as=rg2++as.flatMap fun s=>[s.fst,s.lst]:=by unfold edX;rw[hrg2]
   rw[<- hX]at hg;walk_at "wq";refine⟨by walk_at "o",_,(Gr.app _ _).keep _ _ hg,by rw[zw];walk_at "o",?_⟩;have hfi:M'.length < (M'++[MO.lst [D.int first]]).length:=by rw[zq];exact yQ _
   have hf:(M'++[MO.lst [D.int first]])[M'.length]?=some (.lst [D.int first]):=get_new _ _
   have hg2:=(Gr.app M' [MO.lst [D.int first]]).keep _ _ hg
   have g2:Gr M (M'++[MO.lst [D.int first]]):=g.snoc _
   generalize M'++[MO.lst [D.int first]]=M2 at hf hg2 g2
   unfold edT edS at q;have hz:(addAll [] ((edX fst lng first last ss as).filter fun x=>decide (first < x)&&decide (x < last))).length<=701:=by
    refine zS (addAll_le _ _) ?_;rw[xt,yP];exact zS (xL _ _) el.1
   generalize edX fst lng first last ss as=X at q hg2 hz
   refine w_compI (fun n ys M3=>M3=M2/\ys=((X.take n).filter fun x=>decide (first < x)&&decide (x < last)).map D.int) ⟨rfl,rfl⟩ (fun _ _ _ h=>by rw[h.1];exact hg2) ?_ ?_
   ·rintro n e ys M3 hd ⟨rfl,rfl⟩
    rw[zh]at hd;obtain⟨x,hx',rfl⟩:=zg.mp hd;walk_at "wq";rw[yi,hx',yS,zd];refine⟨fun z1=>⟨fun z2=>?_,fun z2=>?_⟩,fun z1=>?_⟩
    ·simp[z1,z2]
    ·simp[z1,z2]
    ·simp[z1]
   ·rintro ys M3 ⟨rfl,rfl⟩
    rw[zw,zR];walk_at "wq";generalize (X.filter fun x=>decide (first < x)&&decide (x < last))=Y at q hz ⊢
    refine⟨_,get_new _ _,Y,allI_map Y,by walk_at "o",_,((Gr.app _ _).snoc _).keep _ _ hf,_,get_new _ _,?_,by walk_at "o",_,(Gr.app _ _).keep _ _ (get_new _ _),_,get_new _ _,?_,?_⟩
    ·rw[zw,(sortI_perm _).length_eq]
     show 1 + _<=_;walk_at "o"
    ·rw[zq,zw,(sortI_perm _).length_eq]
     show 1 + _ + 1<=_;walk_at "o"
    ·refine q _ _ (((((g2.snoc _).snoc _).snoc _).snoc _).snoc _) ?_ ?_
     ·have:=g2.len
      simp only[zq,zE,xt];walk_at "o"
     ·rw[get_new,zd,zd]
      rfl
end
end Law
namespace Law
open PySem L3
section
variable {srt:List D->Option (List D)}
theorem eq_sopt {M:MH}{n:Nat}(a b:Option Str):eqO M (n + 1) (sOpt a) (sOpt b)=some (decide (a=b)):=by
 cases a with
 | none=>cases b with
  | none=>rfl
  | some y=>rfl
 | some x=>cases b with
  | none=>rfl
  | some y =>
   show some (x==y)=some (decide (some x=some y));by_cases h:x=y
   ·subst h;simp
   ·have h1:(x==y)=false:=by simpa using h
    have h2:¬ (some x=some y):=fun z=>h (by injection z);rw[h1,decide_eq_false h2]
theorem at_last {α:Type}(l:List α)(x:α):atD (l++[x]) (-1)=some x:=by
 unfold atD ixD;rw[if_neg (by walk_at "o"),if_pos (by rw[zq];show -((l.length + 1:Nat):Int)<=-1;walk_at "o")];show (l++[x])[(-1 + ((l++[x]).length:Int)).toNat]?=some x;rw[show (-1 + ((l++[x]).length:Int)).toNat=l.length by rw[zq];show (-1 + ((l.length + 1:Nat):Int)).toNat=_;walk_at "o"];simp
theorem ix_last {α:Type}(l:List α)(x:α):ixD (l++[x]).length (-1)=some l.length:=by
 unfold ixD;rw[if_neg (by walk_at "o"),if_pos (by rw[zq];show -((l.length + 1:Nat):Int)<=-1;walk_at "o")];rw[show (-1 + ((l++[x]).length:Int)).toNat=l.length by rw[zq];show (-1 + ((l.length + 1:Nat):Int)).toNat=_;walk_at "o"]
theorem hours_w (k:Nat)(M:MH){d:D}{hs:List Str}{fst lng:Int}(R:Rota d hs fst lng)(js ja:Nat)(ss:List Sw)(as:List Ab)(first last:Int)(hss:∀ s∈ss,s.one∈hs/\s.oth∈hs)(f0:0<=first)(f1:first<=200000000000)(fl:first < last)(f2:last<=first + 300 * lng)(h1:ss.length<=100)(h2:as.length<=100)(hj:M[js]?=some (.lst (ss.map swD)))(hja:M[ja]?=some (.lst (as.map abD)))
  {Q:D->MH->Prop} (q:∀ (j:Nat) (F:List Hw) (M':MH),Gr M M'->M.length<=j->M'[j]?=some (.lst (F.map hwD))->Hr (onT hs fst lng ss as) first F last->F.length<=703->F≠[]->Q (.ob j) M'):W ((cx srt (k + 3)).fn "hours" [d,.ob js,.ob ja,.int first,.int last]) M Q:=by
 have big:=line_big
 have:=R.l0
 have:=R.l1
 have el:=edT_len (fst:=fst) (ss:=ss) (as:=as) (show 0 < lng by walk_at "o") f2 h1 h2;have eon:∀ {n:Nat} {a b t:Int},(edT fst lng first last ss as)[n]?=some a->(edT fst lng first last ss as)[n + 1]?=some b->a<=t->t < b->a < b/\onT hs fst lng ss as t=onT hs fst lng ss as a:=fun h1 h2 h3 h4=>edT_on (show 0 < lng by walk_at "o") fl h1 h2 h3 h4 hs
 have elt:=edT_lt (fst:=fst) (lng:=lng) fl ss as;have e0:(edT fst lng first last ss as)[0]?=some first:=rfl
 have eL:(edT fst lng first last ss as)[(edT fst lng first last ss as).length - 1]?=some last:=by
  rw[<- List.getLast?_eq_getElem?];unfold edT;exact wV
 rw[f_hours,wf,b_hours];walk_at "wq";refine edges_w (k + 1) M R js ja ss as first last f0 f1 fl f2 h1 h2 hj hja fun jT M1 g1 _ hT=>?_
 generalize edT fst lng first last ss as=T at el eon elt e0 eL hT
 walk_at "wq";refine⟨zV _,_,(Gr.app _ _).keep _ _ hT,_,((Gr.app _ _).snoc _).keep _ _ hT,_,get_new _ _,?_,?_⟩
 ·rw[cut_lo _ (by walk_at "o"),zM,zw]
  show _ - 1 < _;walk_at "o"
 rw[cut_lo _ (by walk_at "o"),show (1:Int).toNat=1 from rfl];have hF0:(M1++[MO.lst []]++[MO.lst ((T.map D.int).drop 1)])[M1.length]?=some (.lst (([]:List Hw).map hwD)):=(Gr.app _ _).keep _ _ (get_new _ _);have hT1:(M1++[MO.lst []]++[MO.lst ((T.map D.int).drop 1)])[(M1++[MO.lst []]).length]?=some (.lst ((T.map D.int).drop 1)):=get_new _ _;have g3:Gr M1 (M1++[MO.lst []]++[MO.lst ((T.map D.int).drop 1)]):=(Gr.app _ _).snoc _;have hne:(M1++[MO.lst []]).length≠M1.length:=by rw[zq];exact Nat.succ_ne_self _
 have hge:M1.length<=(M1++[MO.lst []]).length:=by rw[zq];exact vC _ _
 generalize M1++[MO.lst []]++[MO.lst ((T.map D.int).drop 1)]=M3 at hF0 hT1 g3;generalize (M1++[MO.lst []]).length=j1 at hT1 hne hge;have zl:((T.map D.int).zip ((T.map D.int).drop 1)).length=T.length - 1:=by
  rw[xW,zM,zw];walk_at "o"
 refine w_loopZ (fun n ρ M'=>Gr M1 M'/\M'[j1]?=some (.lst ((T.map D.int).drop 1))/\(∃ (F:List Hw) (m:Int),M'[M1.length]?=some (.lst (F.map hwD))/\T[n]?=some m/\Hr (onT hs fst lng ss as) first F m/\F.length<=n/\(F=[]->n=0))/\∃ x7 x8 x9,ρ=[some d,some (D.ob js),some (D.ob ja),some (D.int first),some (D.int last),some (D.ob jT),some (D.ob M1.length),x7,x8,x9])
  ⟨g3,hT1,⟨[],first,hF0,e0,rfl,zp _,fun _=>rfl⟩,none,none,none,rfl⟩ (fun n ρ M' h=>⟨h.1.keep _ _ hT,h.2.1⟩) ?_ ?_
 ·rintro n x y ρ M' hd ⟨g,hj1,⟨F,m,hF,hm,hr,hl,hn⟩,x7,x8,x9,rfl⟩
  obtain⟨dx,dy⟩:=List.getElem?_zip_eq_some.mp hd;rw[zh,hm]at dx;cases dx;rw[xb,zh]at dy;obtain⟨e,he,rfl⟩:=zg.mp dy;rw[vk]at he;have lt:=(zr.mp he).1;have hme:m < e:=(eon hm he (xy _) (by
   have:=yz.mp elt n (n + 1) (by walk_at "o") lt (yQ _)
   rw[(zr.mp hm).2,(zr.mp he).2]at this;exact this)).1
  have hon:∀ t,m<=t->t < e->onT hs fst lng ss as t=onT hs fst lng ss as m:=fun t t0 t1=>(eon hm he t0 t1).2;walk_at "wq";refine hOn_w k M' R js ja ss as m hss (by walk_at "o") ((g1.trans g).keep _ _ hj) ((g1.trans g).keep _ _ hja) fun M4 g4=>?_;generalize onT hs fst lng ss as m=hand at hon;have hF4:=g4.keep _ _ hF;have hj4:=g4.keep _ _ hj1;have g5:=g.trans g4;walk_at "wq";refine⟨_,hF4,?_⟩;walk_at "wq";have fin:∀ F':List Hw,Hr (onT hs fst lng ss as) first F' e->F'.length<=n + 1->F'≠[]->Gr M1 (M4.set M1.length (.lst (F'.map hwD)))/\(M4.set M1.length (.lst (F'.map hwD)))[j1]?=some (.lst ((T.map D.int).drop 1))/\(∃ (F:List Hw) (m:Int),(M4.set M1.length (.lst (F'.map hwD)))[M1.length]?=some (.lst (F.map hwD))/\T[n + 1]?=some m/\Hr (onT hs fst lng ss as) first F m/\F.length<=n + 1/\(F=[]->n + 1=0)):=fun F' r1 r2 r3 =>
   ⟨g5.set (zp _) _,by rw[yv (Ne.symm hne)];exact hj4,F',e,set_get hF4,he,r1,r2,fun z=>absurd z r3⟩
  have app:(∀ r,F.getLast?=some r->r.h≠hand)->Gr M1 (M4.set M1.length (.lst (F.map hwD++[D.tup [D.int m,D.int e,sOpt hand]])))/\(M4.set M1.length (.lst (F.map hwD++[D.tup [D.int m,D.int e,sOpt hand]])))[j1]?=some (.lst ((T.map D.int).drop 1))/\(∃ (F0:List Hw) (m0:Int),(M4.set M1.length (.lst (F.map hwD++[D.tup [D.int m,D.int e,sOpt hand]])))[M1.length]?=some (.lst (F0.map hwD))/\T[n + 1]?=some m0/\Hr (onT hs fst lng ss as) first F0 m0/\F0.length<=n + 1/\(F0=[]->n + 1=0)):=fun hl2=>by
   have:=fin (F++[⟨m,e,hand⟩]) (hr_snoc hme hon hr hl2) (by rw[zq];exact xN hl) (by simp)
   rw[zd]at this;exact this
  have hlF:(F.map hwD).length < zn:=by rw[zw];walk_at "o"
  refine⟨fun z=>?_,fun z=>?_⟩
  ·refine⟨_,hF4,?_⟩
   have hne2:F≠[]:=fun e0=>by subst e0;cases z
   obtain⟨F0,r,rfl⟩:∃ F0 r,F=F0++[r]:=⟨F.dropLast,F.getLast hne2,(List.dropLast_concat_getLast hne2).symm⟩;rw[zd]at hF4 app hlF ⊢;walk_at "wq";refine⟨_,at_last _ _,?_⟩;have er:hwD r=D.tup [.int r.b,.int r.e,sOpt r.h]:=rfl;rw[er];walk_at "wq";rw[p_eq,eq_sopt];refine⟨_,rfl,_,rfl,fun z2=>?_,fun z2=>?_⟩
   ·have eh:=of_decide_eq_true z2
    subst eh;walk_at "wq";refine⟨_,hF4,?_⟩;walk_at "wq";refine⟨_,at_last _ _,?_⟩;rw[er];walk_at "wq";refine⟨by walk_at "o",_,hF4,?_⟩;walk_at "wq";refine⟨_,ix_last _ _,?_⟩;have em:r.e=m:=by
     have:=hr_end hr
     rw[zq]at this;have k:(match (F0++[r])[F0.length]? with | some r=>r.e | none=>first)=m:=this
     rw[ze (zp _),yT]at k;exact k
    have hr2:Hr (onT hs fst lng ss as) first (F0++[⟨r.b,m,r.h⟩]) m:=by
     rw[<- em];rw[<- em]at hr;exact hr
    have:=fin (F0++[⟨r.b,e,r.h⟩]) (hr_more hme hon hr2) (by rw[zq]at hl ⊢;exact wn hl) (by simp)
    rw[zd]at this;have es:(F0.map hwD++[hwD r]).set F0.length (D.tup [.int r.b,.int e,sOpt r.h])=F0.map hwD++[⟨r.b,e,r.h⟩].map hwD:=by
     rw[List.set_append_right _ _ (by rw[zw];exact zp _),zw,yT];rfl
    rw[zw,es];exact⟨this.1,this.2.1,this.2.2,_,_,_,rfl⟩
   ·walk_at "wq"
    have a:=app fun r' hr' z3=>by
     rw[wV]at hr';cases hr';exact of_decide_eq_false z2 z3
    exact⟨_,hF4,by walk_at "o",_,hF4,hlF,a.1,a.2.1,a.2.2,_,_,_,rfl⟩
  ·have e0:F=[]:=by
    cases F with
    | nil=>rfl
    | cons r F=>cases z
   have a:=app fun r hr'=>by subst e0;cases hr'
   exact⟨_,hF4,by walk_at "o",_,hF4,hlF,a.1,a.2.1,a.2.2,_,_,_,rfl⟩
 ·rintro ρ M' ⟨g,hj1,⟨F,m,hF,hm,hr,hl,hn⟩,x7,x8,x9,rfl⟩
  rw[zl]at hm hl hn;rw[eL]at hm;cases hm;walk_at "wq";exact q _ F _ (g1.trans g) g1.len hF hr (by walk_at "o") fun z=>by have:=hn z;walk_at "o"
end
end Law
namespace L3
open PySem
section
variable {Γ:Ctx}{ρ:Ev}{M:MH}{F:Fl->MH->Prop}
theorem ws_while {c:IC}{b:ISs}:W (semS Γ (.whileS c b) ρ) M F=W (whileD (semC Γ c) (semSs Γ b) Γ.wh ρ) M F:=by delta W;simp only[q_semS_whileS]
theorem w_while {c:Ev->Mo Bool}{body:Ev->Mo Fl}(I:Nat->Ev->MH->Prop)
  (hs:∀ n ρ M,I n ρ M->W (c ρ) M fun b M1=>(b=true->∃ m,n=m + 1/\W (body ρ) M1 fun f M2=>match f with | .nx ρ'=>I m ρ' M2 | .ct ρ'=>I m ρ' M2 | .bk ρ'=>F (.nx ρ') M2 | .rt v=>F (.rt v) M2)/\(b=false->F (.nx ρ) M1)) :
  ∀ (n:Nat) (ρ:Ev) (M:MH),I n ρ M->W (whileD c body (n + 1) ρ) M F:=by
 intro n;induction n with
 | zero =>
  intro ρ M hI;unfold whileD;rw[w_bind];refine(hs 0 ρ M hI).mono fun b M1 h=>?_;cases b with
  | false=>rw[if_neg zo];exact(w_pure _ _ _).mpr (h.2 rfl)
  | true=>obtain⟨m,e,_⟩:=h.1 rfl;cases e
 | succ n ih =>
  intro ρ M hI;unfold whileD;rw[w_bind];refine(hs _ ρ M hI).mono fun b M1 h=>?_;cases b with
  | false=>rw[if_neg zo];exact(w_pure _ _ _).mpr (h.2 rfl)
  | true =>
   obtain⟨m,e,hw⟩:=h.1 rfl;cases e;rw[if_pos rfl,w_bind];refine hw.mono fun f M2 hf=>?_;cases f with
   | nx ρ'=>exact ih ρ' M2 hf
   | ct ρ'=>exact ih ρ' M2 hf
   | bk ρ'=>exact(w_pure _ _ _).mpr hf
   | rt v=>exact(w_pure _ _ _).mpr hf
end
end L3
namespace Law
open PySem L3
section
variable {srt:List D->Option (List D)}
theorem q_obl {M:MH}{j:Nat}{ds:List D}(h:M[j]?=some (.lst ds)){B:Bool->MH->Prop}(q:B true M):W (tyD .list (.ob j)) M B:=⟨true,M,by
  show (getM j >>= fun o=>_:Mo Bool) M=_;rw[ok_bind (m:=getM j) (M1:=M) (a:=.lst ds) (by unfold getM;rw[h])]
  rfl,q⟩
theorem e2e_w (k:Nat)(M:MH)(j:Nat)(F:List Hw){on:Int->Option Str}{first last:Int}(hj:M[j]?=some (.lst (F.map hwD)))(hr:Hr on first F last)(hl:F.length<=703)(hne:F≠[]){Q:D->MH->Prop}(q:∀ M',Gr M M'->Q (.bl true) M') :
  W ((cx srt (k + 1)).fn "_law_end_to_end" [.ob j,.int first,.int last]) M Q:=by
 have big:=line_big;rw[f__law_end_to_end,wf,b__law_end_to_end];walk_at "wr";refine q_obl hj ?_;walk_at "wr";refine⟨zV _,?_⟩;rw[p_eq];refine⟨_,eo_nil ((Gr.app _ _).keep _ _ hj) (get_new _ _),?_⟩;have hem:(F.map hwD).isEmpty=false:=by
  cases F with
  | nil=>exact absurd rfl hne
  | cons r F=>rfl
 rw[hem];walk_at "wr";have g1:Gr M (M++[MO.lst []]):=Gr.app _ _;have hj1:=g1.keep _ _ hj;generalize M++[MO.lst []]=M1 at g1 hj1;refine⟨_,hj1,?_⟩;rw[k_lenl,zw];refine⟨⟨by walk_at "o",by walk_at "o"⟩,?_⟩;refine w_loop (fun n ρ M'=>M'=M1/\∃ x4 x5,ρ=[some (D.ob j),some (D.int first),some (D.int last),some (D.int (endAt first F n)),x4,x5]) ⟨rfl,none,none,rfl⟩ (fun _ _ _ _=>trivial) ?_ ?_
 ·rintro n e ρ M' hd ⟨rfl,x4,x5,rfl⟩
  obtain⟨rfl,hn⟩:=rng_get hd;have hn':n < F.length:=by walk_at "o"
  obtain⟨r,hr'⟩:∃ r,F[n]?=some r:=⟨_,zt hn'⟩;obtain⟨a1,a2,a3,a4⟩:=hr_at hr hr';walk_at "wr";refine⟨_,hj1,?_⟩;walk_at "wr";refine⟨hwD r,?_,?_⟩
  ·rw[show (0:Int) + (n:Int)=(n:Int) by walk_at "o"]
   exact atD_nat (by rw[zh,hr'];rfl)
  rw[show hwD r=D.tup [.int r.b,.int r.e,sOpt r.h] from rfl];walk_at "wr";refine⟨fun z=>absurd z (by decide),fun _=>⟨fun z=>absurd z (by decide),fun _=>⟨fun z=>?_,fun _=>sF rfl ?_⟩⟩⟩
  ·rw[a1]at z
   simp at z
  walk_at "wr";refine⟨fun z=>absurd z (by decide),fun _=>⟨fun z=>absurd z (by decide),fun _=>sF (decide_eq_false (by walk_at "o")) ?_⟩⟩;have fin:M'=M'/\∃ x4 x5,[some (D.ob j),some (D.int first),some (D.int last),some (D.int r.e),some (D.int (0 + (n:Int))),some (D.tup [D.int r.b,D.int r.e,sOpt r.h])]=[some (D.ob j),some (D.int first),some (D.int last),some (D.int (endAt first F (n + 1))),x4,x5]:=by
   have e1:endAt first F (n + 1)=r.e:=by
    show (match F[n]? with | some r=>r.e | none=>first)=r.e
    rw[hr']
   rw[e1];exact⟨rfl,_,_,rfl⟩
  have ne:0 < n->∃ m r0,n=m + 1/\F[m]?=some r0/\r0.h≠r.h:=fun z=>by
   obtain⟨m,rfl⟩:∃ m,n=m + 1:=⟨n - 1,by walk_at "o"⟩;obtain⟨r0,hr0⟩:∃ r0,F[m]?=some r0:=⟨_,zt (by walk_at "o")⟩;exact⟨m,r0,rfl,hr0,fun e=>(hr_at hr hr0).2.2.2 r hr' e.symm⟩
  cases hh:r.h with
  | none =>
   rw[hh]at fin ne;walk_at "wr";refine⟨rfl,fun z=>absurd z (by decide),fun _=>⟨fun z=>?_,fun _=>?_⟩⟩
   ·obtain⟨m,r0,rfl,hr0,hn0⟩:=ne (by have:=of_decide_eq_true z;walk_at "o")
    refine⟨_,hj1,?_⟩;walk_at "wr";refine⟨hwD r0,?_,?_⟩
    ·rw[show (0:Int) + ((m + 1:Nat):Int) - 1=(m:Int) by walk_at "o"]
     exact atD_nat (by rw[zh,hr0];rfl)
    rw[show hwD r0=D.tup [.int r0.b,.int r0.e,sOpt r0.h] from rfl];walk_at "wr";rw[p_eq,eq_sopt,decide_eq_false hn0];refine⟨_,rfl,_,rfl,sF rfl ?_⟩;walk_at "wr";exact fin.2
   ·exact fin.2
  | some y =>
   rw[hh]at fin ne;walk_at "wr";refine⟨rfl,fun _=>?_,fun z=>absurd (show true=false from z) (by decide)⟩;refine(show ∀ B:Bool->MH->Prop,B true M'->W (tyD Ty.str (sOpt (some y))) M' B from fun B h=>by rw[show sOpt (some y)=D.str y from rfl,q_str];exact h) _ ?_;walk_at "wr";refine⟨fun z=>?_,fun _=>?_⟩
   ·obtain⟨m,r0,rfl,hr0,hn0⟩:=ne (by have:=of_decide_eq_true z;walk_at "o")
    refine⟨_,hj1,?_⟩;walk_at "wr";refine⟨hwD r0,?_,?_⟩
    ·rw[show (0:Int) + ((m + 1:Nat):Int) - 1=(m:Int) by walk_at "o"]
     exact atD_nat (by rw[zh,hr0];rfl)
    rw[show hwD r0=D.tup [.int r0.b,.int r0.e,sOpt r0.h] from rfl];walk_at "wr";rw[p_eq,eq_sopt,decide_eq_false hn0];refine⟨_,rfl,_,rfl,sF rfl ?_⟩;walk_at "wr";exact fin.2
   ·exact fin.2
 ·rintro ρ M' ⟨rfl,x4,x5,rfl⟩
  rw[rng_len,show ((F.length:Int) - 0).toNat=F.length by walk_at "o",hr_end hr];walk_at "wr"
  have:=q M' g1
  rwa [show (last==last)=true by simp]
end
end Law
namespace Law
open PySem L3
section
variable {srt:List D->Option (List D)}
noncomputable def KI (kvs:List (Ky×D))(ns:List Int):Prop:=intKeys kvs=some ns/\ns.Nodup
theorem ik_map:∀ {kvs:List (Ky×D)} {ns:List Int},intKeys kvs=some ns->kvs.map (·.1)=ns.map Sum.inl
 | [],_,h=>by cases h;rfl
 | kv::kvs,ns,h=>by
  unfold intKeys at h;split at h
  ·rename_i i is e1 e2
   cases h;rw[zH,zH,ik_map e2,e1]
  ·cases h
theorem ik_of:∀ {kvs:List (Ky×D)} {ns:List Int},kvs.map (·.1)=ns.map Sum.inl->intKeys kvs=some ns
 | [],[],_=>rfl
 | [],_::_,h=>by cases h
 | _::_,[],h=>by cases h
 | kv::kvs,n::ns,h=>by
  rw[zH,zH]at h;injection h with h1 h2
  unfold intKeys;rw[ik_of h2,h1]
theorem ki_put {kvs:List (Ky×D)}{ns:List Int}(h:KI kvs ns)(i:Int)(v:D):∃ ns',KI (kvPut kvs (.inl i) v) ns'/\ns'.length<=ns.length + 1:=by
 have hm:=ik_map h.1;unfold kvPut;split
 ·refine⟨ns,⟨ik_of ?_,h.2⟩,wR _⟩
  rw[yO,<- hm];apply xZ;intro kv _;show (if kv.1=Sum.inl i then (kv.1,v) else kv).1=kv.1;split <;> rfl
 ·rename_i hn
  refine⟨ns++[i],⟨ik_of ?_,?_⟩,by rw[zq];exact zp _⟩
  ·rw[zd,zd,hm];rfl
  ·refine wk.mpr ⟨h.2,by simp,fun a ha b hb e=>hn ?_⟩
   rw[zJ.mp hb]at e;subst e
   have:(Sum.inl a:Ky)∈kvs.map (·.1):=by rw[hm];exact yj.mpr ⟨a,ha,rfl⟩
   obtain⟨kv,hk,e⟩:=yj.mp this;exact wA.mpr ⟨kv,hk,decide_eq_true e⟩
theorem ki_len {kvs:List (Ky×D)}{ns:List Int}(h:KI kvs ns):kvs.length=ns.length:=by
 have:=congrArg List.length (ik_map h.1)
 rwa [zw,zw]at this
theorem lturns_w (hsrt:∀ ns:List Int,ns.Nodup->srt (ns.map .int)=some ((sortI ns).map .int))(k:Nat)(M:MH){d:D}{hs:List Str}{fst lng:Int}(R:Rota d hs fst lng)(js ja:Nat)(ss:List Sw)(as:List Ab)(first last:Int)(f0:0<=first)(f1:first<=200000000000)(fl:first < last)(f2:last<=first + 300 * lng)(h1:ss.length<=100)(h2:as.length<=100)(hj:M[js]?=some (.lst (ss.map swD)))(hja:M[ja]?=some (.lst (as.map abD)))
  {Q:D->MH->Prop} (q:∀ (j:Nat) (L:List Int) (M':MH),Gr M M'->M.length<=j->M'[j]?=some (.lst (L.map .int))->L.Pairwise (·<=·)->(∀ t∈L,first<=t/\t < last)->Q (.ob j) M'):W ((cx srt (k + 1)).fn "_law_turns" [d,.ob js,.ob ja,.int first,.int last]) M Q:=by
 have big:=line_big
 have:=R.l0
 have:=R.l1
 rw[f__law_turns,wf,b__law_turns,R.is];walk_at "wq";have hwh:(cx srt k).wh=1000:=by cases k <;> rfl
 have b:=bgn_lo (fst:=fst) (first:=first) (show 0 < lng by walk_at "o")
 obtain⟨n1,k1,l1⟩:=ki_put (kvs:=[]) (ns:=[]) ⟨rfl,wU⟩ first (.bl true)
 obtain⟨n2,k2,l2⟩:=ki_put k1 (last - 1) (.bl true);refine⟨_,get_new _ _,rfl,by walk_at "o",?_⟩;have g2:Gr M ((M++[MO.dic []]).set M.length (MO.dic (kvPuts [] [(Sum.inl first,D.bl true),(Sum.inl (last - 1),D.bl true)]))):=(Gr.app _ _).set (zp _) _
 have hd2:((M++[MO.dic []]).set M.length (MO.dic (kvPuts [] [(Sum.inl first,D.bl true),(Sum.inl (last - 1),D.bl true)])))[M.length]?=some (.dic (kvPuts [] [(Sum.inl first,D.bl true),(Sum.inl (last - 1),D.bl true)])):=set_get (get_new _ _)
 have k2:KI (kvPuts [] [(Sum.inl first,D.bl true),(Sum.inl (last - 1),D.bl true)]) n2:=k2
 generalize (M++[MO.dic []]).set M.length (MO.dic (kvPuts [] [(Sum.inl first,D.bl true),(Sum.inl (last - 1),D.bl true)]))=M2 at g2 hd2
 generalize kvPuts [] [(Sum.inl first,D.bl true),(Sum.inl (last - 1),D.bl true)]=kvs2 at k2 hd2
 rw[ws_while,hwh];have lt0:last - (first + lng - (first - fst) % lng)<=(999:Nat) * lng:=by
  unfold bgn at b;walk_at "o"
 refine w_while (fun n ρ M'=>∃ kvs ns t,KI kvs ns/\ns.length + n<=1001/\last - t<=n * lng/\Gr M M'/\M'[M.length]?=some (.dic kvs)/\ρ=[some (D.tup [D.tup (hs.map D.str),D.int fst,D.int lng]),some (D.ob js),some (D.ob ja),some (D.int first),some (D.int last),some (D.ob M.length),some (D.int t),none]) ?_ 999 _ _ ⟨kvs2,n2,_,k2,by simp at l1;walk_at "o",lt0,g2,hd2,rfl⟩
 rintro n ρ M' ⟨kvs,ns,t,ki,hn,hlt,g,hd,rfl⟩;walk_at "wq";refine⟨fun z=>?_,fun _=>?_⟩
 ·have z:=of_decide_eq_true z
  obtain⟨m,rfl⟩:∃ m,n=m + 1:=⟨n - 1,by
   rcases vq n with e | e
   ·subst e;simp at hlt;walk_at "o"
   ·walk_at "o"⟩
  obtain⟨n3,k3,l3⟩:=ki_put ki t (.bl true);refine⟨m,rfl,_,hd,?_⟩;rw[t_obd];have lk:=ki_len ki;refine⟨_,rfl,by walk_at "o",_,n3,_,k3,by walk_at "o",?_,g.set (zp _) _,set_get hd,rfl⟩;have e:((m + 1:Nat):Int) * lng=m * lng + lng:=by rw[show ((m + 1:Nat):Int)=(m:Int) + 1 from rfl,Int.add_mul,Int.one_mul]
  walk_at "o"
 ·have lk:=ki_len ki
  refine⟨_,g.keep _ _ hj,_,g.keep _ _ hja,by rw[zw,zw];walk_at "o",_,get_new _ _,?_⟩;have hrow:∀ x∈ss.map swD++as.map abD,∃ ds a b,x=.tup ds/\atD ds (-2)=some (.int a)/\atD ds (-1)=some (.int b):=fun x hx=>by
   rcases zG.mp hx with hx | hx
   ·obtain⟨s,_,rfl⟩:=yj.mp hx
    exact⟨_,_,_,rfl,rfl,rfl⟩
   ·obtain⟨s,_,rfl⟩:=yj.mp hx
    exact⟨_,_,_,rfl,rfl,rfl⟩
  have hlr:(ss.map swD++as.map abD).length<=200:=by rw[zq,zw,zw];walk_at "o"
  generalize ss.map swD++as.map abD=rows at hrow hlr;have g3:Gr M' (M'++[MO.lst rows]):=Gr.app _ _;have hrw:(M'++[MO.lst rows])[M'.length]?=some (.lst rows):=get_new _ _;have hne:M'.length≠M.length:=fun e=>by have:=(zr.mp hd).1;walk_at "o"
  have hd3:=g3.keep _ _ hd;have g4:=g.trans g3;generalize M'++[MO.lst rows]=M3 at g3 hrw hd3 g4;generalize M'.length=jr at hrw hne;refine w_loop (fun i ρ M'=>∃ kvs ns x,KI kvs ns/\ns.length<=1001 + 2 * i/\Gr M M'/\M'[jr]?=some (.lst rows)/\M'[M.length]?=some (.dic kvs)/\ρ=[some (D.tup [D.tup (hs.map D.str),D.int fst,D.int lng]),some (D.ob js),some (D.ob ja),some (D.int first),some (D.int last),some (D.ob M.length),some (D.int t),x]) ⟨kvs,ns,none,ki,by walk_at "o",g4,hrw,hd3,rfl⟩ (fun _ _ _ ⟨_,_,_,_,_,_,h,_⟩=>h) ?_ ?_
  ·rintro i x ρ M' hx ⟨kvs,ns,xx,ki,hl,g,hr,hd,rfl⟩
   obtain⟨ds,a,b,rfl,ha,hb⟩:=hrow x (zQ hx);have li:=(zr.mp hx).1;have lk:=ki_len ki;obtain⟨n3,k3,l3⟩:=ki_put ki a (.bl true);obtain⟨n4,k4,l4⟩:=ki_put k3 b (.bl true);have lk3:=ki_len k3;walk_at "wq";refine⟨_,ha,_,hd,?_⟩;rw[t_obd];refine⟨_,rfl,by walk_at "o",?_⟩;walk_at "wq";refine⟨_,hb,_,set_get hd,?_⟩;rw[t_obd];refine⟨_,rfl,by walk_at "o",_,n4,_,k4,by walk_at "o",(g.set (zp _) _).set (zp _) _,?_,set_get (set_get hd),rfl⟩;rw[yv (Ne.symm hne),yv (Ne.symm hne)];exact hr
  ·rintro ρ M' ⟨kvs,ns,xx,ki,hl,g,hr,hd,rfl⟩
   walk_at "wq";have hs':(cx srt k).srt=srt:=by cases k <;> rfl
   have hnd:(ns.filter fun n=>decide (first<=n)&&decide (n < last)).Nodup:=ki.2.sublist List.filter_sublist
   refine⟨_,hd,ns,ki.1,by walk_at "o",_,get_new _ _,_,by rw[hs'];exact hsrt _ hnd,?_⟩;refine q _ (sortI (ns.filter fun n=>decide (first<=n)&&decide (n < last))) _ ((g.snoc _).snoc _) ?_ (get_new _ _) (sortI_pw _) fun t ht=>?_
   ·have:=g.len
    rw[zq];walk_at "o"
   ·have:=(sortI_perm _).mem_iff.mp ht
    have:=(xg.mp this).2
    simpa using this
end
end Law
namespace Law
open PySem L3
section
variable {srt:List D->Option (List D)}
theorem tailC (hsrt:∀ ns:List Int,ns.Nodup->srt (ns.map .int)=some ((sortI ns).map .int))(sc:List Int){hs:List Str}{fst lng:Int}(R:Rota (.tup [.tup (hs.map .str),.int fst,.int lng]) hs fst lng)(first last:Int)(hss':List Sw)(as:List Ab)(hss:∀ s∈hss',s.one∈hs/\s.oth∈hs)(f0:0<=first)(f1:first<=200000000000)(fl:first < last)(f2:last<=first + 300 * lng)(h1:hss'.length<=100)(h2:as.length<=100)(js ja:Nat)(M:MH)(x4 x6 x8 x9:Option D)
  (hjs:M[js]?=some (.lst (hss'.map swD))) (hja:M[ja]?=some (.lst (as.map abD))) :
  W (semSs (cx srt 39) (dropS 11 b_law) [some (.fl (sc.map .int)),some (.tup [.tup (hs.map .str),.int fst,.int lng]),some (.int first),some (.int last),x4,some (.ob js),x6,some (.ob ja),x8,x9,none,none,none,none]) M (endF fun d _=>d=.bl true):=by
 have big:=line_big;simp only[b_law,drop_s,drop_0];walk_at "wr";refine⟨_,hjs,_,(Gr.app _ _).keep _ _ hja,by walk_at "o",?_⟩;generalize hM1:M++[MO.lst (hss'.map swD)]=M1;have g1:Gr M M1:=hM1 ▸ Gr.app _ _;have e1:M1[M.length]?=some (.lst (hss'.map swD)):=hM1 ▸ get_new _ _;generalize M.length=js' at e1 ⊢;generalize hM2:M1++[MO.lst (as.map abD)]=M2;have g2:Gr M1 M2:=hM2 ▸ Gr.app _ _;have e2:M2[M1.length]?=some (.lst (as.map abD)):=hM2 ▸ get_new _ _;generalize M1.length=ja' at e2 ⊢;generalize hM3:M2++[MO.lst [D.ob js',D.ob ja']]=M3;have g3:Gr M2 M3:=hM3 ▸ Gr.app _ _;have e3:M3[M2.length]?=some (.lst [D.ob js',D.ob ja']):=hM3 ▸ get_new _ _;generalize M2.length=jh at e3 ⊢;clear hM1 hM2 hM3;have k1:M3[js']?=some (.lst (hss'.map swD)):=g3.keep _ _ (g2.keep _ _ e1);have k2:M3[ja']?=some (.lst (as.map abD)):=g3.keep _ _ e2;have k4:=g3.keep _ _ (g2.keep _ _ (g1.keep _ _ hjs));have k5:=g3.keep _ _ (g2.keep _ _ (g1.keep _ _ hja));clear g1 g2 g3 e1 e2 hjs hja;refine⟨_,e3,?_⟩;walk_at "wr";refine⟨_,e3,?_⟩;walk_at "wr";refine hours_w 36 M3 R js' ja' hss' as first last hss f0 f1 fl f2 h1 h2 k1 k2 fun jf F M4 g4 _ hF hr hl hne=>?_
 walk_at "wr";refine e2e_w 38 M4 jf F hF hr hl hne fun M5 g5=>?_;have g5':=g4.trans g5;have hF5:=g5.keep _ _ hF;walk_at "wr";refine⟨by walk_at "o",?_⟩;rw[p_ne];have gg:Gr M5 (M5++[MO.lst [D.ob js,D.ob ja]]):=Gr.app _ _;have gn:(M5++[MO.lst [D.ob js,D.ob ja]])[M5.length]?=some (.lst [D.ob js,D.ob ja]):=get_new _ _;generalize M5++[MO.lst [D.ob js,D.ob ja]]=M6 at gg gn;have g6:=g5'.trans gg;have hF6:=gg.keep _ _ hF5;refine⟨true,?_,_,rfl,sF rfl ?_⟩
 ·rw[eo_ob (g6.keep _ _ e3) gn,if_pos (show ([D.ob js',D.ob ja']:List D).length=([D.ob js,D.ob ja]:List D).length from rfl)]
  unfold eqL;rw[eo_obP (g6.keep _ _ k1) (g6.keep _ _ k4) fun x hx=>?_]
  ·dsimp only
   unfold eqL;rw[eo_obP (g6.keep _ _ k2) (g6.keep _ _ k5) fun x hx=>?_]
   ·rfl
   ·obtain⟨a,_,rfl⟩:=yj.mp hx
    exact plain_up (plain_up (plain_up (plain_up (abD_plain a))))
  ·obtain⟨a,_,rfl⟩:=yj.mp hx
   exact plain_up (plain_up (plain_up (plain_up (swD_plain a))))
 have k4:=g6.keep _ _ k4;have k5:=g6.keep _ _ k5;clear g4 g5 g5' gg gn g6 k1 k2 e3 hF hF5;walk_at "wr";refine lturns_w hsrt 38 M6 R js ja hss' as first last f0 f1 fl f2 h1 h2 k4 k5 fun jl L M7 g7 _ hL hpw hbd=>?_
 walk_at "wr";refine⟨_,hL,?_⟩;have hF7:=g7.keep _ _ hF6;have k4:=g7.keep _ _ k4;have k5:=g7.keep _ _ k5;have pw:=yz.mp hpw;have hz:0 < F.length:=List.length_pos_iff.mpr hne;refine w_loop (fun n ρ M'=>Gr M7 M'/\∃ (a:Nat) (x:Option D),a < F.length/\(∀ (m:Nat) (t:Int),n<=m->L[m]?=some t->endAt first F a<=t)/\ρ=[some (.fl (sc.map .int)),some (.tup [.tup (hs.map .str),.int fst,.int lng]),some (.int first),some (.int last),x4,some (.ob js),x6,some (.ob ja),x8,x9,some (.ob jh),some (.ob jf),some (.int (a:Nat)),x])
  ⟨Gr.refl,0,none,hz,fun m t _ ht=>(hbd t (zQ ht)).1,rfl⟩ (fun _ _ _ h=>h.1.keep _ _ hL) ?_ ?_
 ·rintro n d ρ M' hd ⟨g,a,x,ha,hge,rfl⟩
  rw[zh]at hd;obtain⟨t,ht,rfl⟩:=zg.mp hd;have htb:=hbd t (zQ ht);walk_at "wr";rw[ws_while,show (cx srt 39).wh=1000 from rfl];refine w_while (fun f ρ M'=>Gr M7 M'/\∃ a:Nat,a < F.length/\F.length<=a + f/\endAt first F a<=t/\ρ=[some (.fl (sc.map .int)),some (.tup [.tup (hs.map .str),.int fst,.int lng]),some (.int first),some (.int last),x4,some (.ob js),x6,some (.ob ja),x8,x9,some (.ob jh),some (.ob jf),some (.int (a:Nat)),some (.int t)]) ?_ 999 _ _ ⟨g,a,ha,by walk_at "o",hge n t (zp _) ht,rfl⟩
  rintro f ρ M' ⟨g,a,ha,hf,hle,rfl⟩;obtain⟨r,hr'⟩:∃ r,F[a]?=some r:=⟨_,zt ha⟩;obtain⟨a1,a2,a3,a4⟩:=hr_at hr hr';have hF':=g.keep _ _ hF7;have hat:atD (F.map hwD) ((a:Nat):Int)=some (hwD r):=atD_nat (by rw[zh,hr'];rfl);walk_at "wr";refine⟨_,hF',?_⟩;walk_at "wr";refine⟨_,hat,?_⟩;have er:hwD r=D.tup [.int r.b,.int r.e,sOpt r.h]:=rfl;rw[er];walk_at "wr";have en:endAt first F (a + 1)=r.e:=by
   show (match F[a]? with | some r=>r.e | none=>first)=r.e
   rw[hr']
  refine⟨fun z=>?_,fun z=>?_⟩
  ·have z:=of_decide_eq_true z
   have hlt:a + 1 < F.length:=by
    rcases xu (show a + 1<=F.length from ha) with c | c
    ·exact c
    ·have:=hr_end hr
     rw[<- c,en]at this;walk_at "o"
   exact⟨f - 1,by walk_at "o",g,a + 1,hlt,by walk_at "o",by rw[en];exact z,rfl⟩
  ·have z:=of_decide_eq_false z
   refine⟨_,hF',?_⟩;walk_at "wr";refine⟨_,hat,?_⟩;rw[er];walk_at "wr";refine lOn_w 37 M' R js ja hss' as t hss (by walk_at "o") (g.keep _ _ k4) (g.keep _ _ k5) fun M8 g8=>?_;rw[a3 t (by rw[a1];exact hle) (by walk_at "o")];walk_at "wr";rw[p_ne,eq_sopt,decide_eq_true rfl];refine⟨_,rfl,_,rfl,sF rfl ?_⟩;walk_at "wr";refine⟨g.trans g8,a,_,ha,fun m t' hm ht'=>?_,rfl⟩;refine zY hle ?_;have l1:=(zr.mp ht);have l2:=(zr.mp ht')
   have:=pw n m l1.1 l2.1 (by walk_at "o")
   rw[l1.2,l2.2]at this;exact this
 ·rintro ρ M' ⟨g,a,x,ha,hge,rfl⟩
  walk_at "wr"
theorem insA_map {α β:Type}(f:α->β)(xs:List α)(i:Int)(v:α):insD (xs.map f) i (f v)=(insD xs i v).map f:=by
 unfold insD;rw[zd,zH,xP,we,zw]
theorem insA_len {α:Type}(xs:List α)(i:Int)(v:α):(insD xs i v).length=xs.length + 1:=by
 have:=(insD_perm xs i v).length_eq
 rwa [zq]at this
theorem tailB (hsrt:∀ ns:List Int,ns.Nodup->srt (ns.map .int)=some ((sortI ns).map .int))(sc:List Int){hs:List Str}{fst lng:Int}(R:Rota (.tup [.tup (hs.map .str),.int fst,.int lng]) hs fst lng)(first last mid:Int)(ss:List Sw)(hss:∀ s∈ss,s.one∈hs/\s.oth∈hs)(f0:0<=first)(f1:first<=200000000000)(fl:first < last)(f2:last<=first + 300 * lng)(hm0:0<=mid)(h1:ss.length<=100)(js jp:Nat)(M:MH)(x6:Option D)
  (hjs:M[js]?=some (.lst (ss.map swD))) (hjp:M[jp]?=some (.lst [.int first,.int last,.int mid])) :
  W (semSs (cx srt 39) (dropS 7 b_law) [some (.fl (sc.map .int)),some (.tup [.tup (hs.map .str),.int fst,.int lng]),some (.int first),some (.int last),some (.ob jp),some (.ob js),x6,none,none,none,none,none,none,none]) M (endF fun d _=>d=.bl true):=by
 have big:=line_big
 have:=R.lo
 have:=R.hi
 have tC:=fun as (x6 x8 x9:Option D) (ja:Nat) M=>tailC (srt:=srt) hsrt sc R first last ss as hss f0 f1 fl f2 h1 (js:=js) (ja:=ja) (M:=M) (x4:=some (.ob jp)) (x6:=x6) (x8:=x8) (x9:=x9)
 have cut:dropS 7 b_law=cutS 4 (dropS 7 b_law) (dropS 11 b_law):=cut_S 4 (dropS 7 b_law);rw[cut];generalize dropS 11 b_law=tl at tC ⊢;simp only[b_law,drop_s,drop_0,cut_s,cut_0];walk_at "wr";refine⟨zV _,⟨by walk_at "o",by walk_at "o",by rw[z_len];walk_at "o",by rw[z_len];walk_at "o"⟩,by walk_at "o",_,(Gr.app _ _).keep _ _ (get_new _ _),_,get_new _ _,by rw[zw];show _ + 1<=_;walk_at "o",?_⟩;have g0:Gr M (M++[MO.lst []]):=Gr.app _ _;have e0:(M++[MO.lst []])[M.length]?=some (.lst (([]:List Ab).map abD)):=get_new _ _;generalize M++[MO.lst []]=M0 at g0 e0;generalize hM2:M0++[MO.lst (hs.map D.str)]++[MO.lst [D.str (repS ("z" : Str) (Int.toNat 8))]]=M2;have g2:Gr M0 M2:=hM2 ▸ ((Gr.app _ _).snoc _);clear hM2;have en:hs.map D.str++[D.str (repS ("z" : Str) (Int.toNat 8))]=(hs++[repS ("z" : Str) (Int.toNat 8)]).map D.str:=by rw[zd];rfl
 rw[en];have hnl:(hs++[repS ("z" : Str) (Int.toNat 8)]).length=hs.length + 1:=by rw[zq];rfl
 generalize hs++[repS ("z" : Str) (Int.toNat 8)]=names at hnl ⊢;generalize hM3:M2++[MO.lst (names.map D.str)]=M3;have g3:Gr M0 M3:=hM3 ▸ (g2.snoc _);have hjn:M3[M2.length]?=some (.lst (names.map .str)):=hM3 ▸ get_new _ _;have hn0:M0.length<=M2.length:=g2.len;clear hM3;generalize M2.length=jn at hjn hn0 ⊢;have g3':=g0.trans g3;have e3:=g3.keep _ _ e0;refine pick_w (k:=37) sc _ _ M3 (by walk_at "o") (by walk_at "o") (by walk_at "o") ?_;have p0:=pick_lo sc 43 (show (0:Int) < 5 by walk_at "o");have p1:=pick_hi sc 43 (show (0:Int) < 5 by walk_at "o");generalize pickV sc 43 5=m0 at p0 p1 ⊢;obtain⟨m,rfl⟩:=zT p0;refine⟨_,rfl,⟨by walk_at "o",by walk_at "o"⟩,?_⟩;have hspot:∀ n:Nat,n < 3->∃ t:Int,0<=t/\atD [D.int first,D.int last,D.int mid] (n:Int)=some (.int t):=fun n hn=>by
  have h3:n=0\/n=1\/n=2:=by walk_at "o"
  rcases h3 with rfl | rfl | rfl
  ·exact⟨first,f0,rfl⟩
  ·exact⟨last,by walk_at "o",rfl⟩
  ·exact⟨mid,hm0,rfl⟩
 refine w_loop (fun n ρ M'=>Gr M M'/\M'[jn]?=some (.lst (names.map .str))/\∃ (ja:Nat) (as:List Ab) (x6:Option D),M.length<=ja/\M'[ja]?=some (.lst (as.map abD))/\as.length<=n/\ρ=[some (.fl (sc.map .int)),some (.tup [.tup (hs.map .str),.int fst,.int lng]),some (.int first),some (.int last),some (.ob jp),some (.ob js),x6,some (.ob ja),some (.ob jn),none,none,none,none,none])
  ⟨g3',hjn,M.length,[],x6,zp _,e3,zp _,rfl⟩ (fun _ _ _ _=>trivial) ?_ ?_
 ·rintro n d ρ M' hd ⟨g,hjn,ja,as,y6,hge,hja,hal,rfl⟩
  obtain⟨rfl,hn⟩:=rng_get hd;walk_at "wr";refine⟨.inl ⟨by walk_at "o",by walk_at "o"⟩,?_⟩;refine pick_w (k:=37) sc _ _ M' (by walk_at "o") (by walk_at "o") (by walk_at "o") ?_;obtain⟨pn,hp,hplt⟩:=pick_nat sc (56 + (0 + (n:Int))) (m:=3) (by walk_at "o");rw[show pickV sc (56 + (0 + (n:Int))) 3=(pn:Int) from hp];obtain⟨tt,ht0,hta⟩:=hspot pn hplt;walk_at "wr";refine⟨_,g.keep _ _ hjp,?_⟩;walk_at "wr";refine⟨_,hta,?_⟩;walk_at "wr";refine absences_w 36 sc (44 + 3 * (0 + (n:Int))) jn names tt 1 M' (by walk_at "o") (by walk_at "o") (by walk_at "o") ht0 (by walk_at "o") (by walk_at "o") hjn fun bs jb M4 _ hbl g4 _ hjb=>?_;walk_at "wr";refine⟨_,g4.keep _ _ hja,_,hjb,by rw[zw,zw];walk_at "o",?_⟩;have g5:=g.trans g4;rw[<- zd];refine⟨g5.snoc _,(Gr.app _ _).keep _ _ (g4.keep _ _ hjn),_,as++bs,_,g5.len,get_new _ _,by rw[zq,hbl];exact xN hal,rfl⟩
 ·rintro ρ M' ⟨g,hjn,ja,as,y6,hge,hja,hal,rfl⟩
  rw[rng_len]at hal;walk_at "wr";refine pick_w (k:=37) sc _ _ M' (by walk_at "o") (by walk_at "o") (by walk_at "o") ?_;walk_at "wr";have hal5:as.length<=4:=by walk_at "o"
  clear hal;cases hp:(pickV sc 60 3==0) with
  | false =>
   refine sF rfl ?_;walk_at "wr";exact tC as _ _ _ ja M' (by walk_at "o") (g.keep _ _ hjs) hja
  | true =>
   refine sT rfl ?_;walk_at "wr";refine w_loop (fun n ρ M'=>Gr M M'/\∃ (as:List Ab) (x9:Option D),M'[ja]?=some (.lst (as.map abD))/\as.length<=4 + n/\ρ=[some (.fl (sc.map .int)),some (.tup [.tup (hs.map .str),.int fst,.int lng]),some (.int first),some (.int last),some (.ob jp),some (.ob js),y6,some (.ob ja),some (.ob jn),x9,none,none,none,none])
    ⟨g,as,none,hja,hal5,rfl⟩ (fun _ _ _ _=>trivial) ?_ ?_
   ·rintro n d ρ M' hd ⟨g,as,x9,hja,hal,rfl⟩
    rw[zh]at hd;obtain⟨y,hy,rfl⟩:=zg.mp hd;have ly:=(zr.mp hy).1;walk_at "wr";refine⟨_,hja,_,hja,?_⟩;rw[k_lenl,zw];refine pick_w (k:=37) sc _ _ M' (by walk_at "o") (by walk_at "o") (by walk_at "o") ?_;have q0:=pick_lo sc 61 (show (0:Int) < (as.length:Int) + 1 by walk_at "o");have q1:=pick_hi sc 61 (show (0:Int) < (as.length:Int) + 1 by walk_at "o");generalize pickV sc 61 ((as.length:Int) + 1)=pi at q0 q1 ⊢;walk_at "wr";refine⟨⟨by walk_at "o",by walk_at "o"⟩,_,g.keep _ _ hjp,?_⟩;walk_at "wr";refine⟨by walk_at "o",_,hja,⟨by rw[zw];walk_at "o",by walk_at "o",by walk_at "o"⟩,g.set hge _,insD as pi ⟨y,first / 2,mid + 1⟩,_,?_,by rw[insA_len];walk_at "o",rfl⟩
    rw[set_get hja,<- insA_map];rfl
   ·rintro ρ M' ⟨g,as,x9,hja,hal,rfl⟩
    rw[zw]at hal;walk_at "wr";exact tC as _ _ _ ja M' (by walk_at "o") (g.keep _ _ hjs) hja
theorem tailA (hsrt:∀ ns:List Int,ns.Nodup->srt (ns.map .int)=some ((sortI ns).map .int))(sc:List Int){hs:List Str}{fst lng:Int}(R:Rota (.tup [.tup (hs.map .str),.int fst,.int lng]) hs fst lng)(first last:Int)(f0:0<=first)(f1:first<=200000000000)(fl:first < last)(f2:last<=first + 300 * lng)(M:MH) :
  W (semSs (cx srt 39) (dropS 4 b_law) [some (.fl (sc.map .int)),some (.tup [.tup (hs.map .str),.int fst,.int lng]),some (.int first),some (.int last),none,none,none,none,none,none,none,none,none,none]) M (endF fun d _=>d=.bl true):=by
 have big:=line_big
 have:=R.lo
 have:=R.hi
 have tB:=fun ss hss h1 js jp M x6=>tailB (srt:=srt) hsrt sc R first last ((first + last) / 2) ss hss f0 f1 fl f2 (show 0<=(first + last) / 2 from xV (by walk_at "o") (by walk_at "o")) h1 js jp M x6
 have cut:dropS 4 b_law=cutS 3 (dropS 4 b_law) (dropS 7 b_law):=cut_S 3 (dropS 4 b_law);rw[cut];generalize dropS 7 b_law=tl at tB ⊢;simp only[b_law,drop_s,drop_0,cut_s,cut_0];have mid0:0<=(first + last) / 2:=xV (by walk_at "o") (by walk_at "o")
 walk_at "wr";refine⟨⟨by walk_at "o",by walk_at "o"⟩,by walk_at "o",zV _,?_⟩;generalize (first + last) / 2=mid at tB mid0 ⊢
 have g1:Gr M (M++[MO.lst [D.int first,D.int last,D.int mid]]):=Gr.app _ _
 have hjp:(M++[MO.lst [D.int first,D.int last,D.int mid]])[M.length]?=some (.lst [D.int first,D.int last,D.int mid]):=get_new _ _
 generalize M++[MO.lst [D.int first,D.int last,D.int mid]]=M1 at g1 hjp
 generalize M.length=jp at hjp ⊢;have hjp2:=(Gr.app M1 [MO.lst []]).keep _ _ hjp;have hjs:(M1++[MO.lst []])[M1.length]?=some (.lst (([]:List Sw).map swD)):=get_new _ _;generalize M1++[MO.lst []]=M2 at hjp2 hjs;generalize M1.length=js0 at hjs ⊢;refine pick_w (k:=37) sc _ _ M2 (by walk_at "o") (by walk_at "o") (by walk_at "o") ?_;have p0:=pick_lo sc 27 (show (0:Int) < 4 by walk_at "o");have p1:=pick_hi sc 27 (show (0:Int) < 4 by walk_at "o");generalize pickV sc 27 4=m0 at p0 p1 ⊢;walk_at "wr";rw[zw];have hcnt:∃ c:Nat,m0 * (if decide (1 < (hs.length:Int))=true then 1 else 0)=(c:Int)/\c<=3/\(0 < c->2<=hs.length):=by
  by_cases h:1 < (hs.length:Int)
  ·rw[decide_eq_true h,if_pos rfl,vH]
   exact⟨m0.toNat,by walk_at "o",by walk_at "o",fun _=>by walk_at "o"⟩
  ·rw[decide_eq_false h,if_neg zo,Int.mul_zero]
   exact⟨0,rfl,by walk_at "o",fun z=>absurd z (yc _)⟩
 obtain⟨c,hc,hc3,hc2⟩:=hcnt;rw[hc];refine⟨.inl ⟨by walk_at "o",by walk_at "o"⟩,⟨by walk_at "o",by walk_at "o"⟩,?_⟩;have hspot:∀ n:Nat,n < 3->∃ t:Int,0<=t/\atD [D.int first,D.int last,D.int mid] (n:Int)=some (.int t):=fun n hn=>by
  have h3:n=0\/n=1\/n=2:=by walk_at "o"
  rcases h3 with rfl | rfl | rfl
  ·exact⟨first,f0,rfl⟩
  ·exact⟨last,by walk_at "o",rfl⟩
  ·exact⟨mid,mid0,rfl⟩
 refine w_loop (fun n ρ M'=>Gr M2 M'/\∃ (js:Nat) (ss:List Sw) (x6:Option D),M'[js]?=some (.lst (ss.map swD))/\ss.length<=n/\(∀ s∈ss,s.one∈hs/\s.oth∈hs)/\ρ=[some (.fl (sc.map .int)),some (.tup [.tup (hs.map .str),.int fst,.int lng]),some (.int first),some (.int last),some (.ob jp),some (.ob js),x6,none,none,none,none,none,none,none])
  ⟨Gr.refl,js0,[],none,hjs,zp _,fun _ h=>(by cases h),rfl⟩ (fun _ _ _ _=>trivial) ?_ ?_
 ·rintro n d ρ M' hd ⟨g,js,ss,x6,hjs,hsl,hss,rfl⟩
  obtain⟨rfl,hn⟩:=rng_get hd;have h2:2<=hs.length:=hc2 (by walk_at "o");walk_at "wr";refine⟨.inl ⟨by walk_at "o",by walk_at "o"⟩,?_⟩;refine pick_w (k:=37) sc _ _ M' (by walk_at "o") (by walk_at "o") (by walk_at "o") ?_;obtain⟨pn,hp,hplt⟩:=pick_nat sc (40 + (0 + (n:Int))) (m:=3) (by walk_at "o");rw[show pickV sc (40 + (0 + (n:Int))) 3=(pn:Int) from hp];obtain⟨tt,ht0,hta⟩:=hspot pn hplt;walk_at "wr";refine⟨_,g.keep _ _ hjp2,?_⟩;walk_at "wr";refine⟨_,hta,?_⟩;walk_at "wr";refine swaps_w 36 sc (28 + 4 * (0 + (n:Int))) hs tt 1 M' (by walk_at "o") (by walk_at "o") (by walk_at "o") h2 (by walk_at "o") fun jb M4 g4 _ hjb=>?_;walk_at "wr";refine⟨_,g4.keep _ _ hjs,_,hjb,by rw[zw,zw,zw,zI];walk_at "o",?_⟩;have g5:=g.trans g4;rw[<- zd];refine⟨g5.snoc _,_,_,_,get_new _ _,by rw[zq,zw,zI];exact xN hsl,fun s hs'=>?_,rfl⟩;rcases zG.mp hs' with hs' | hs'
  ·exact hss s hs'
  ·obtain⟨j,_,rfl⟩:=yj.mp hs'
   have:=swJ_ok sc (28 + 4 * (0 + (n:Int))) hs tt j h2 R.nd ht0
   exact⟨this.o1,this.o2⟩
 ·rintro ρ M' ⟨g,js,ss,x6,hjs,hsl,hss,rfl⟩
  rw[rng_len]at hsl;walk_at "wr";exact tB ss hss (by walk_at "o") js jp M' x6 hjs (g.keep _ _ hjp2)
theorem law_w (hsrt:∀ ns:List Int,ns.Nodup->srt (ns.map .int)=some ((sortI ns).map .int))(sc:List Int):W ((cx srt 40).fn "law" [.fl (sc.map .int)]) [] fun d _=>d=.bl true:=by
 have big:=line_big;have tA:=fun hs fst lng (R:Rota (.tup [.tup (hs.map .str),.int fst,.int lng]) hs fst lng)=>tailA (srt:=srt) hsrt sc R;rw[f_law,wf,cut_S 4 b_law];generalize dropS 4 b_law=tl at tA ⊢;simp only[b_law,cut_s,cut_0];walk_at "wr";refine rota_w 35 sc [] 8 (by walk_at "o") (by walk_at "o") fun d hs fst lng M1 R g1=>?_;have lo:=R.lo;have hi:=R.hi
 have:=R.l0
 have:=R.l1
 rw[R.is];have R':=R;rw[R.is]at R';walk_at "wr";have e11:((10:Int) ^ Int.toNat 11)=100000000000:=by decide
 refine⟨⟨by walk_at "o",by walk_at "o",by decide⟩,?_⟩;rw[e11];refine number_w 37 sc 22 _ M1 (by walk_at "o") (by walk_at "o") (by walk_at "o") fun r M2 r0 r1 g2=>?_;walk_at "wr";refine pick_w (k:=37) sc _ _ M2 (by walk_at "o") (by walk_at "o") (by walk_at "o") ?_;have p0:=pick_lo sc 23 (show (0:Int) < 9 by walk_at "o");have p1:=pick_hi sc 23 (show (0:Int) < 9 by walk_at "o");generalize pickV sc 23 9=pa at p0 p1 ⊢;walk_at "wr";refine⟨.inl ⟨by walk_at "o",by walk_at "o"⟩,?_⟩;refine pick_w (k:=37) sc _ _ M2 (by walk_at "o") (by walk_at "o") (by walk_at "o") ?_;have q0:=pick_lo sc 24 (show (0:Int) < 12 by walk_at "o");have q1:=pick_hi sc 24 (show (0:Int) < 12 by walk_at "o");generalize pickV sc 24 12=pb at q0 q1 ⊢;walk_at "wr";refine pick_w (k:=37) sc _ _ M2 (by walk_at "o") (by walk_at "o") (by walk_at "o") ?_;walk_at "wr";have mx:r<=200000000000:=by walk_at "o"
 cases (pickV sc 25 9==4) with
 | false =>
  refine sF rfl ?_;walk_at "wr";have hp:pa * lng<=8 * lng:=Int.mul_le_mul_of_nonneg_right (by walk_at "o") (by walk_at "o");have hp0:0<=pa * lng:=vR p0 (by walk_at "o");exact tA hs fst lng R' r _ r0 mx (by walk_at "o") (by walk_at "o") M2
 | true =>
  refine sT rfl ?_;walk_at "wr";refine pick_w (k:=37) sc _ _ M2 (by walk_at "o") (by walk_at "o") (by walk_at "o") ?_;have s0:=pick_lo sc 26 (show (0:Int) < 2 by walk_at "o");have s1:=pick_hi sc 26 (show (0:Int) < 2 by walk_at "o");generalize pickV sc 26 2=pc at s0 s1 ⊢;walk_at "wr";refine⟨by walk_at "o",.inl ⟨by walk_at "o",by walk_at "o"⟩,?_⟩;exact tA hs fst (1 + pc) ⟨rfl,R.nd,lo,hi,R.f0,R.f1,by walk_at "o",by walk_at "o"⟩ r _ r0 mx (by walk_at "o") (by walk_at "o") M2
end
end Law
namespace Law
open PySem L3
theorem law_d (ns:List Int)(_:ns.length<=63):∃ M',(cx sortD 40).fn "law" [.fl (ns.map .int)] []=some (.ok (.bl true),M'):=by
 obtain⟨a,M',e,rfl⟩:=law_w (srt:=sortD) (fun ns h=>sortD_int h) ns;exact⟨M',e⟩
end Law
namespace Law
open PySem PySem.Spec PySem.Calls PyProof.Rows L2 L3
def top (i:Nat):Stmt:=PySem.Challenge.pw_belfry_k36_hours.main.body.getD i (.Pass ⟨0,0,0,0⟩)
noncomputable def glN:List Str:=[]
noncomputable def blN:List Str:=["any","bool","int","isinstance","len","list","max","range","set","sorted","str","tuple","zip"]
noncomputable def e_turn_of:Ent:=⟨"turn_of",top 1,["rota","turn","hands"],["rota","turn"],b_turn_of⟩
noncomputable def e_swapped:Ent:=⟨"swapped",top 2,["hand","swaps","turn","found","swap"],["hand","swaps","turn"],b_swapped⟩
noncomputable def e_is_away:Ent:=⟨"is_away",top 3,["hand","absences","turn"],["hand","absences","turn"],b_is_away⟩
noncomputable def e_hand_on:Ent:=⟨"hand_on",top 4,["rota","swaps","absences","turn","hands","at","hand"],["rota","swaps","absences","turn"],b_hand_on⟩
noncomputable def e_edges:Ent:=⟨"edges",top 6,["rota","swaps","absences","first","last","begin","turns","swap","absence"],["rota","swaps","absences","first","last"],b_edges⟩
noncomputable def e_hours:Ent:=⟨"hours",top 7,["rota","swaps","absences","first","last","turns","found","begin","end","hand"],["rota","swaps","absences","first","last"],b_hours⟩
noncomputable def e__law_mixed:Ent:=⟨"_law_mixed",top 9,["_law_script","_law_k","_law_number_here"],["_law_script","_law_k"],b__law_mixed⟩
noncomputable def e__law_pick:Ent:=⟨"_law_pick",top 10,["_law_script","_law_k","_law_many"],["_law_script","_law_k","_law_many"],b__law_pick⟩
noncomputable def e__law_words:Ent:=⟨"_law_words",top 11,["_law_script","_law_k","_law_signs","_law_many","_law_word","_law_way","_law_at","_law_first","_law_some","_law_j","_law_sign"],["_law_script","_law_k","_law_signs","_law_many"],b__law_words⟩
noncomputable def e__law_number:Ent:=⟨"_law_number",top 12,["_law_script","_law_k","_law_most","_law_number_here","_law_reach"],["_law_script","_law_k","_law_most"],b__law_number⟩
noncomputable def e__law_mixed_up:Ent:=⟨"_law_mixed_up",top 13,["_law_script","_law_k","_law_some","_law_found","_law_j"],["_law_script","_law_k","_law_some"],b__law_mixed_up⟩
noncomputable def e__law_rota:Ent:=⟨"_law_rota",top 14,["_law_script","_law_k","_law_most","_law_hands","_law_first","_law_long"],["_law_script","_law_k","_law_most"],b__law_rota⟩
noncomputable def e__law_swaps:Ent:=⟨"_law_swaps",top 15,["_law_script","_law_k","_law_hands","_law_turn","_law_many","_law_some","_law_j","_law_at","_law_to","_law_first"],["_law_script","_law_k","_law_hands","_law_turn","_law_many"],b__law_swaps⟩
noncomputable def e__law_swapped:Ent:=⟨"_law_swapped",top 16,["_law_hand","_law_swaps_here","_law_turn","_law_swap","_law_both"],["_law_hand","_law_swaps_here","_law_turn"],b__law_swapped⟩
noncomputable def e__law_absences:Ent:=⟨"_law_absences",top 17,["_law_script","_law_k","_law_names","_law_turn","_law_many","_law_some","_law_j","_law_first","_law_hand"],["_law_script","_law_k","_law_names","_law_turn","_law_many"],b__law_absences⟩
noncomputable def e__law_here:Ent:=⟨"_law_here",top 18,["_law_hand","_law_absences_here","_law_turn"],["_law_hand","_law_absences_here","_law_turn"],b__law_here⟩
noncomputable def e__law_hand_on:Ent:=⟨"_law_hand_on",top 19,["_law_rota_here","_law_swaps_here","_law_absences_here","_law_turn","_law_hands","_law_part","_law_hand","_law_at","_law_some"],["_law_rota_here","_law_swaps_here","_law_absences_here","_law_turn"],b__law_hand_on⟩
noncomputable def e__law_end_to_end:Ent:=⟨"_law_end_to_end",top 20,["_law_found","_law_first","_law_last","_law_turn","_law_j","_law_row"],["_law_found","_law_first","_law_last"],b__law_end_to_end⟩
noncomputable def e__law_turns:Ent:=⟨"_law_turns",top 21,["_law_rota_here","_law_swaps_here","_law_absences_here","_law_first","_law_last","_law_some","_law_turn","_law_row"],["_law_rota_here","_law_swaps_here","_law_absences_here","_law_first","_law_last"],b__law_turns⟩
noncomputable def e_law:Ent:=⟨"law",top 22,["_law_script","_law_rota_here","_law_first","_law_last","_law_spots","_law_swaps_here","_law_j","_law_absences_here","_law_names","_law_hand","_law_handed","_law_found","_law_at","_law_turn"],["_law_script"],b_law⟩
noncomputable def ents:List Ent:=[e_turn_of,e_swapped,e_is_away,e_hand_on,e_edges,e_hours,e__law_mixed,e__law_pick,e__law_words,e__law_number,e__law_mixed_up,e__law_rota,e__law_swaps,e__law_swapped,e__law_absences,e__law_here,e__law_hand_on,e__law_end_to_end,e__law_turns,e_law]
theorem tab_eq:tabOf ents=tab:=rfl
theorem c_turn_of:cSs ⟨defScope (top 1),e_turn_of.N,ents.map (·.x),glN,blN⟩ 200 (defBody (top 1))=some b_turn_of:=by kernel_rfl
theorem s_turn_of:FnScope e_turn_of.N e_turn_of.ps (defScope (top 1)):=⟨rfl,rfl,rfl,by decide +kernel,rfl,by decide +kernel,by decide +kernel⟩
theorem t_turn_of:(tabOf ents).lookup e_turn_of.x=some ⟨e_turn_of.N.length,e_turn_of.ps.length,e_turn_of.b⟩:=by kernel_rfl
theorem c_swapped:cSs ⟨defScope (top 2),e_swapped.N,ents.map (·.x),glN,blN⟩ 200 (defBody (top 2))=some b_swapped:=by kernel_rfl
theorem s_swapped:FnScope e_swapped.N e_swapped.ps (defScope (top 2)):=⟨rfl,rfl,rfl,by decide +kernel,rfl,by decide +kernel,by decide +kernel⟩
theorem t_swapped:(tabOf ents).lookup e_swapped.x=some ⟨e_swapped.N.length,e_swapped.ps.length,e_swapped.b⟩:=by kernel_rfl
theorem c_is_away:cSs ⟨defScope (top 3),e_is_away.N,ents.map (·.x),glN,blN⟩ 200 (defBody (top 3))=some b_is_away:=by kernel_rfl
theorem s_is_away:FnScope e_is_away.N e_is_away.ps (defScope (top 3)):=⟨rfl,rfl,rfl,by decide +kernel,rfl,by decide +kernel,by decide +kernel⟩
theorem t_is_away:(tabOf ents).lookup e_is_away.x=some ⟨e_is_away.N.length,e_is_away.ps.length,e_is_away.b⟩:=by kernel_rfl
theorem c_hand_on:cSs ⟨defScope (top 4),e_hand_on.N,ents.map (·.x),glN,blN⟩ 200 (defBody (top 4))=some b_hand_on:=by kernel_rfl
theorem s_hand_on:FnScope e_hand_on.N e_hand_on.ps (defScope (top 4)):=⟨rfl,rfl,rfl,by decide +kernel,rfl,by decide +kernel,by decide +kernel⟩
theorem t_hand_on:(tabOf ents).lookup e_hand_on.x=some ⟨e_hand_on.N.length,e_hand_on.ps.length,e_hand_on.b⟩:=by kernel_rfl
theorem c_edges:cSs ⟨defScope (top 6),e_edges.N,ents.map (·.x),glN,blN⟩ 200 (defBody (top 6))=some b_edges:=by kernel_rfl
theorem s_edges:FnScope e_edges.N e_edges.ps (defScope (top 6)):=⟨rfl,rfl,rfl,by decide +kernel,rfl,by decide +kernel,by decide +kernel⟩
theorem t_edges:(tabOf ents).lookup e_edges.x=some ⟨e_edges.N.length,e_edges.ps.length,e_edges.b⟩:=by kernel_rfl
theorem c_hours:cSs ⟨defScope (top 7),e_hours.N,ents.map (·.x),glN,blN⟩ 200 (defBody (top 7))=some b_hours:=by kernel_rfl
theorem s_hours:FnScope e_hours.N e_hours.ps (defScope (top 7)):=⟨rfl,rfl,rfl,by decide +kernel,rfl,by decide +kernel,by decide +kernel⟩
theorem t_hours:(tabOf ents).lookup e_hours.x=some ⟨e_hours.N.length,e_hours.ps.length,e_hours.b⟩:=by kernel_rfl
theorem c__law_mixed:cSs ⟨defScope (top 9),e__law_mixed.N,ents.map (·.x),glN,blN⟩ 200 (defBody (top 9))=some b__law_mixed:=by kernel_rfl
theorem s__law_mixed:FnScope e__law_mixed.N e__law_mixed.ps (defScope (top 9)):=⟨rfl,rfl,rfl,by decide +kernel,rfl,by decide +kernel,by decide +kernel⟩
theorem t__law_mixed:(tabOf ents).lookup e__law_mixed.x=some ⟨e__law_mixed.N.length,e__law_mixed.ps.length,e__law_mixed.b⟩:=by kernel_rfl
theorem c__law_pick:cSs ⟨defScope (top 10),e__law_pick.N,ents.map (·.x),glN,blN⟩ 200 (defBody (top 10))=some b__law_pick:=by kernel_rfl
theorem s__law_pick:FnScope e__law_pick.N e__law_pick.ps (defScope (top 10)):=⟨rfl,rfl,rfl,by decide +kernel,rfl,by decide +kernel,by decide +kernel⟩
theorem t__law_pick:(tabOf ents).lookup e__law_pick.x=some ⟨e__law_pick.N.length,e__law_pick.ps.length,e__law_pick.b⟩:=by kernel_rfl
theorem c__law_words:cSs ⟨defScope (top 11),e__law_words.N,ents.map (·.x),glN,blN⟩ 200 (defBody (top 11))=some b__law_words:=by kernel_rfl
theorem s__law_words:FnScope e__law_words.N e__law_words.ps (defScope (top 11)):=⟨rfl,rfl,rfl,by decide +kernel,rfl,by decide +kernel,by decide +kernel⟩
theorem t__law_words:(tabOf ents).lookup e__law_words.x=some ⟨e__law_words.N.length,e__law_words.ps.length,e__law_words.b⟩:=by kernel_rfl
theorem c__law_number:cSs ⟨defScope (top 12),e__law_number.N,ents.map (·.x),glN,blN⟩ 200 (defBody (top 12))=some b__law_number:=by kernel_rfl
theorem s__law_number:FnScope e__law_number.N e__law_number.ps (defScope (top 12)):=⟨rfl,rfl,rfl,by decide +kernel,rfl,by decide +kernel,by decide +kernel⟩
theorem t__law_number:(tabOf ents).lookup e__law_number.x=some ⟨e__law_number.N.length,e__law_number.ps.length,e__law_number.b⟩:=by kernel_rfl
theorem c__law_mixed_up:cSs ⟨defScope (top 13),e__law_mixed_up.N,ents.map (·.x),glN,blN⟩ 200 (defBody (top 13))=some b__law_mixed_up:=by kernel_rfl
theorem s__law_mixed_up:FnScope e__law_mixed_up.N e__law_mixed_up.ps (defScope (top 13)):=⟨rfl,rfl,rfl,by decide +kernel,rfl,by decide +kernel,by decide +kernel⟩
theorem t__law_mixed_up:(tabOf ents).lookup e__law_mixed_up.x=some ⟨e__law_mixed_up.N.length,e__law_mixed_up.ps.length,e__law_mixed_up.b⟩:=by kernel_rfl
theorem c__law_rota:cSs ⟨defScope (top 14),e__law_rota.N,ents.map (·.x),glN,blN⟩ 200 (defBody (top 14))=some b__law_rota:=by kernel_rfl
theorem s__law_rota:FnScope e__law_rota.N e__law_rota.ps (defScope (top 14)):=⟨rfl,rfl,rfl,by decide +kernel,rfl,by decide +kernel,by decide +kernel⟩
theorem t__law_rota:(tabOf ents).lookup e__law_rota.x=some ⟨e__law_rota.N.length,e__law_rota.ps.length,e__law_rota.b⟩:=by kernel_rfl
theorem c__law_swaps:cSs ⟨defScope (top 15),e__law_swaps.N,ents.map (·.x),glN,blN⟩ 200 (defBody (top 15))=some b__law_swaps:=by kernel_rfl
theorem s__law_swaps:FnScope e__law_swaps.N e__law_swaps.ps (defScope (top 15)):=⟨rfl,rfl,rfl,by decide +kernel,rfl,by decide +kernel,by decide +kernel⟩
theorem t__law_swaps:(tabOf ents).lookup e__law_swaps.x=some ⟨e__law_swaps.N.length,e__law_swaps.ps.length,e__law_swaps.b⟩:=by kernel_rfl
theorem c__law_swapped:cSs ⟨defScope (top 16),e__law_swapped.N,ents.map (·.x),glN,blN⟩ 200 (defBody (top 16))=some b__law_swapped:=by kernel_rfl
theorem s__law_swapped:FnScope e__law_swapped.N e__law_swapped.ps (defScope (top 16)):=⟨rfl,rfl,rfl,by decide +kernel,rfl,by decide +kernel,by decide +kernel⟩
theorem t__law_swapped:(tabOf ents).lookup e__law_swapped.x=some ⟨e__law_swapped.N.length,e__law_swapped.ps.length,e__law_swapped.b⟩:=by kernel_rfl
theorem c__law_absences:cSs ⟨defScope (top 17),e__law_absences.N,ents.map (·.x),glN,blN⟩ 200 (defBody (top 17))=some b__law_absences:=by kernel_rfl
theorem s__law_absences:FnScope e__law_absences.N e__law_absences.ps (defScope (top 17)):=⟨rfl,rfl,rfl,by decide +kernel,rfl,by decide +kernel,by decide +kernel⟩
theorem t__law_absences:(tabOf ents).lookup e__law_absences.x=some ⟨e__law_absences.N.length,e__law_absences.ps.length,e__law_absences.b⟩:=by kernel_rfl
theorem c__law_here:cSs ⟨defScope (top 18),e__law_here.N,ents.map (·.x),glN,blN⟩ 200 (defBody (top 18))=some b__law_here:=by kernel_rfl
theorem s__law_here:FnScope e__law_here.N e__law_here.ps (defScope (top 18)):=⟨rfl,rfl,rfl,by decide +kernel,rfl,by decide +kernel,by decide +kernel⟩
theorem t__law_here:(tabOf ents).lookup e__law_here.x=some ⟨e__law_here.N.length,e__law_here.ps.length,e__law_here.b⟩:=by kernel_rfl
theorem c__law_hand_on:cSs ⟨defScope (top 19),e__law_hand_on.N,ents.map (·.x),glN,blN⟩ 200 (defBody (top 19))=some b__law_hand_on:=by kernel_rfl
theorem s__law_hand_on:FnScope e__law_hand_on.N e__law_hand_on.ps (defScope (top 19)):=⟨rfl,rfl,rfl,by decide +kernel,rfl,by decide +kernel,by decide +kernel⟩
theorem t__law_hand_on:(tabOf ents).lookup e__law_hand_on.x=some ⟨e__law_hand_on.N.length,e__law_hand_on.ps.length,e__law_hand_on.b⟩:=by kernel_rfl
theorem c__law_end_to_end:cSs ⟨defScope (top 20),e__law_end_to_end.N,ents.map (·.x),glN,blN⟩ 200 (defBody (top 20))=some b__law_end_to_end:=by kernel_rfl
theorem s__law_end_to_end:FnScope e__law_end_to_end.N e__law_end_to_end.ps (defScope (top 20)):=⟨rfl,rfl,rfl,by decide +kernel,rfl,by decide +kernel,by decide +kernel⟩
theorem t__law_end_to_end:(tabOf ents).lookup e__law_end_to_end.x=some ⟨e__law_end_to_end.N.length,e__law_end_to_end.ps.length,e__law_end_to_end.b⟩:=by kernel_rfl
theorem c__law_turns:cSs ⟨defScope (top 21),e__law_turns.N,ents.map (·.x),glN,blN⟩ 200 (defBody (top 21))=some b__law_turns:=by kernel_rfl
theorem s__law_turns:FnScope e__law_turns.N e__law_turns.ps (defScope (top 21)):=⟨rfl,rfl,rfl,by decide +kernel,rfl,by decide +kernel,by decide +kernel⟩
theorem t__law_turns:(tabOf ents).lookup e__law_turns.x=some ⟨e__law_turns.N.length,e__law_turns.ps.length,e__law_turns.b⟩:=by kernel_rfl
theorem c_law:cSs ⟨defScope (top 22),e_law.N,ents.map (·.x),glN,blN⟩ 200 (defBody (top 22))=some b_law:=by kernel_rfl
theorem s_law:FnScope e_law.N e_law.ps (defScope (top 22)):=⟨rfl,rfl,rfl,by decide +kernel,rfl,by decide +kernel,by decide +kernel⟩
theorem t_law:(tabOf ents).lookup e_law.x=some ⟨e_law.N.length,e_law.ps.length,e_law.b⟩:=by kernel_rfl
noncomputable def recs:List DefRec:=[recT ("turn_of" : Str) (top 1),recT ("swapped" : Str) (top 2),recT ("is_away" : Str) (top 3),recT ("hand_on" : Str) (top 4),recT ("edges" : Str) (top 6),recT ("hours" : Str) (top 7),recT ("_law_mixed" : Str) (top 9),recT ("_law_pick" : Str) (top 10),recT ("_law_words" : Str) (top 11),recT ("_law_number" : Str) (top 12),recT ("_law_mixed_up" : Str) (top 13),recT ("_law_rota" : Str) (top 14),recT ("_law_swaps" : Str) (top 15),recT ("_law_swapped" : Str) (top 16),recT ("_law_absences" : Str) (top 17),recT ("_law_here" : Str) (top 18),recT ("_law_hand_on" : Str) (top 19),recT ("_law_end_to_end" : Str) (top 20),recT ("_law_turns" : Str) (top 21),recT ("law" : Str) (top 22)]
theorem all_mk {P q:Program}{w:World}{lo:List Str}{mean:ExcName->Option Value}{mg mb:Str->Option Value}{h:Heap}{fa:Addr}(T:Top q lo mean mg mb h)(hfa:mg "law" = some (.ref fa))(r:recsOf q=recs)(z:freeB q lo blN=true)
  : ∃ fd:FuncData,(∀ (s:Shared) (v:Value),BindsTo s fd ⟨[v],[]⟩ [("_law_script",v)])/\∀ base:Heap,(heapK h).In base->base.Ns mainGlobals mg->FnOk P w (heapK h) mg base CX0 40 fa fd ["_law_script"] (spOf (heapK h) 1 ((cx sortD 40).fn "law")) :=
 have hd:∀ e∈ents,DefR (heapK h) mg ents glN blN e:=zD.mpr ⟨DefR.mkT T r 0 rfl (fun _ _ _ _ _ _=>on2 fun _ _=>rfl) s_turn_of c_turn_of t_turn_of,
  zD.mpr ⟨DefR.mkT T r 1 rfl (fun _ _ _ _ _ _=>on3 fun _ _ _=>rfl) s_swapped c_swapped t_swapped,
  zD.mpr ⟨DefR.mkT T r 2 rfl (fun _ _ _ _ _ _=>on3 fun _ _ _=>rfl) s_is_away c_is_away t_is_away,
  zD.mpr ⟨DefR.mkT T r 3 rfl (fun _ _ _ _ _ _=>on4 fun _ _ _ _=>rfl) s_hand_on c_hand_on t_hand_on,
  zD.mpr ⟨DefR.mkT T r 4 rfl (fun _ _ _ _ _ _=>on5 fun _ _ _ _ _=>rfl) s_edges c_edges t_edges,
  zD.mpr ⟨DefR.mkT T r 5 rfl (fun _ _ _ _ _ _=>on5 fun _ _ _ _ _=>rfl) s_hours c_hours t_hours,
  zD.mpr ⟨DefR.mkT T r 6 rfl (fun _ _ _ _ _ _=>on2 fun _ _=>rfl) s__law_mixed c__law_mixed t__law_mixed,
  zD.mpr ⟨DefR.mkT T r 7 rfl (fun _ _ _ _ _ _=>on3 fun _ _ _=>rfl) s__law_pick c__law_pick t__law_pick,
  zD.mpr ⟨DefR.mkT T r 8 rfl (fun _ _ _ _ _ _=>on4 fun _ _ _ _=>rfl) s__law_words c__law_words t__law_words,
  zD.mpr ⟨DefR.mkT T r 9 rfl (fun _ _ _ _ _ _=>on3 fun _ _ _=>rfl) s__law_number c__law_number t__law_number,
  zD.mpr ⟨DefR.mkT T r 10 rfl (fun _ _ _ _ _ _=>on3 fun _ _ _=>rfl) s__law_mixed_up c__law_mixed_up t__law_mixed_up,
  zD.mpr ⟨DefR.mkT T r 11 rfl (fun _ _ _ _ _ _=>on3 fun _ _ _=>rfl) s__law_rota c__law_rota t__law_rota,
  zD.mpr ⟨DefR.mkT T r 12 rfl (fun _ _ _ _ _ _=>on5 fun _ _ _ _ _=>rfl) s__law_swaps c__law_swaps t__law_swaps,
  zD.mpr ⟨DefR.mkT T r 13 rfl (fun _ _ _ _ _ _=>on3 fun _ _ _=>rfl) s__law_swapped c__law_swapped t__law_swapped,
  zD.mpr ⟨DefR.mkT T r 14 rfl (fun _ _ _ _ _ _=>on5 fun _ _ _ _ _=>rfl) s__law_absences c__law_absences t__law_absences,
  zD.mpr ⟨DefR.mkT T r 15 rfl (fun _ _ _ _ _ _=>on3 fun _ _ _=>rfl) s__law_here c__law_here t__law_here,
  zD.mpr ⟨DefR.mkT T r 16 rfl (fun _ _ _ _ _ _=>on4 fun _ _ _ _=>rfl) s__law_hand_on c__law_hand_on t__law_hand_on,
  zD.mpr ⟨DefR.mkT T r 17 rfl (fun _ _ _ _ _ _=>on3 fun _ _ _=>rfl) s__law_end_to_end c__law_end_to_end t__law_end_to_end,
  zD.mpr ⟨DefR.mkT T r 18 rfl (fun _ _ _ _ _ _=>on5 fun _ _ _ _ _=>rfl) s__law_turns c__law_turns t__law_turns,
  zD.mpr ⟨DefR.mkT T r 19 rfl (fun _ _ _ _ _ _=>on1 fun _=>rfl) s_law c_law t_law,
  fun _ h9=>nomatch h9⟩⟩⟩⟩⟩⟩⟩⟩⟩⟩⟩⟩⟩⟩⟩⟩⟩⟩⟩⟩
 have hg:∀ x∈glN,GlR (heapK h) mg gl x:=fun _ h9=>nomatch h9
 law_mkT (fun k=>srt_ok (by cases k <;> rfl)) hd hg (free_of T z) 40 (e:=e_law) (by simp[ents]) rfl (fun _ _ _ _ _ _ _=>rfl) hfa
end Law
open PySem PySem.W PyProof.Rows
def Law.pw2:Program:={ PySem.Challenge.pw_belfry_k36_hours with main:={ PySem.Challenge.pw_belfry_k36_hours.main with body:=[Law.top 0,Law.top 1,Law.top 2,Law.top 3,Law.top 4,Law.top 5,Law.top 6,Law.top 7,Law.top 8,Law.top 9,Law.top 10,Law.top 11,Law.top 12,Law.top 13,Law.top 14,Law.top 15,Law.top 16,Law.top 17,Law.top 18,Law.top 19,Law.top 20,Law.top 21,Law.top 22] } }
def Law.rw2:OpenLaw:={ PySem.Challenge.rw_belfry_k36_hours with prog:=Law.pw2 }
theorem Law.rw_eq:Law.rw2=PySem.Challenge.rw_belfry_k36_hours:=by kernel_rfl
noncomputable def Law.vw:Program:={ Law.pw2 with main:={ Law.pw2.main with body:=[Law.top 1,Law.top 2,Law.top 3,Law.top 4,Law.top 6,Law.top 7,Law.top 9,Law.top 10,Law.top 11,Law.top 12,Law.top 13,Law.top 14,Law.top 15,Law.top 16,Law.top 17,Law.top 18,Law.top 19,Law.top 20,Law.top 21,Law.top 22] } }
set_option maxRecDepth 100000 in
set_option maxHeartbeats 0 in
theorem Law.left:LeftO Law.rw2.row.prog Law.vw [] (fun s=>xlAt Law.vw [] s&&recOk (RowW.records (OpenRow.toRowW Law.rw2.row)) s) (Hook.obs PySem.W.Hook.none) (Hook.val PySem.W.Hook.none) 20000:=fun w=>by kernel_rfl
set_option maxRecDepth 100000 in
set_option maxHeartbeats 0 in
theorem Law.said:Law.rw2.wellSaid=true:=by kernel_rfl
set_option maxRecDepth 100000 in
set_option maxHeartbeats 0 in
theorem Law.holds2:Law.rw2.Holds:=by
 refine holds_law Law.said fun said=>?_;refine holds_open (q:=Law.vw) (loose:=[]) (Xt:=fun s=>xlAt Law.vw [] s&&recOk (RowW.records (OpenRow.toRowW Law.rw2.row)) s) (XP:=XL Law.vw []) (Yf:=Hook.obs PySem.W.Hook.none) (Ya:=Hook.val PySem.W.Hook.none) (YP:=Hook.says PySem.W.Hook.none) (N:=20000) Law.left (Hook.of PySem.W.Hook.none) (Hook.keeps PySem.W.Hook.none)
  (fun s e=>xl_of s (wW.mp e).1) XL.keeps (by rfl) (by rfl) (by rfl) (fun s e=>recFacts_of (wW.mp e).2) (by rfl) said (by decide +kernel) ⟨rfl,rfl,rfl,rfl,rfl,by decide +kernel⟩ ?hw ?hc
 case hw=>w_witness2
 refine L3.walkT (l:=Law.rw2) (x:="_law_script") (k:=40) (g:=(Law.cx L3.sortD 40).fn "law") ⟨rfl,by decide,by decide,rfl⟩ rfl rfl Law.law_d ?F
 case F =>
  intro w mean mg mb fa h T hmg;exact Law.all_mk T hmg (by kernel_rfl) (by kernel_rfl)
theorem PySem.Challenge.cw_belfry_k36_hours_holds : PySem.Challenge.rw_belfry_k36_hours.Holds := by
 exact Law.rw_eq ▸ Law.holds2

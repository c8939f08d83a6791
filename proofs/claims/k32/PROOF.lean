import PyProof.Rows.All
import Wide.All
import OpenK.AllK
import Wide.FinOn
import Lean
import PyProof.EqAt
import PyProof.EqKinds
import PyProof.TupleCall
import PySem.Challenge.RW_belfry_k32_whole_shown
open PySem renaming Value->jp,Shared->kt,Addr->kw,Program->ul,World->ut,Around->Zx,Stmt->Zy
open PySem.W renaming Frag->Q_,keepIn->Z0,fnOf->Z1,codeIn->Z2,methodObj->Z3,kas_sort->Z4,kat_nil->Z5,callWith_K->Z6,cellsFrom_some->Z7,kdl_dict->Z8,KasT->Z9,kas_ask->Z_
open PyProof.Rows renaming callWith_type1->X_,slot_tuple_getitem->K_,boot_isinstance->J_,boot_sorted->Y_
open List renaming length_map->zz,mem_of_getElem?->zx,getElem?_map->zw,getElem?_eq_getElem->zv,map_append->zo,getElem?_eq_some_iff->zn,length_append->zm,getElem?_set_ne->zj,getD_eq_getElem?_getD->zi,size_toArray->ze,mem_cons->zc,mem_singleton->zA,length_take->zD,length_cons->zE,map_cons->zG,getElem?_append_left->zH,mem_cons_of_mem->zI,mem_cons_self->zJ,getElem?_append_right->zK,mem_append->zL,take_length->zN,append_nil->zO,mem_map->zQ,take_add_one->zR,all_eq_true->zS,contains_iff_mem->zT,getElem?_set_self->zU,mem_append_right->zW,all_cons->zX,length_range->zZ,append_assoc->yz,length_set->yx,mem_of_mem_take->yv,replicate->yq,map_map->yp,mem_append_left->yo,drop_eq_getElem_cons->ym,mem_filter->yl,mem_range->yk,find?_cons->yj,length_drop->yh,mem_or_eq_of_mem_set->yf,length_nil->ye,map_take->yd,length_replicate->yc,any_eq_false->ya,not_mem_nil->yA,drop_length->yB,any_eq_true->yF,filterMap_cons->yJ,mem_map_of_mem->yK,lookup_cons->yL,getElem_mem->yM,mem_flatMap->yN,any_cons->yP,eq_nil_of_length_eq_zero->yS,range_succ->yV,find?_eq_none->yX,length_singleton->yY,getElem?_eq_none->yZ,length_filter_le->xz,getElem?_eq_none_iff->xy,nodup_cons->xx,nodup_append->xt,map_set->xj,filter_append->xi,nodup_nil->xf,getLastD_eq_getLast?->xb,take_succ_cons->xa,map_congr_left->xA,flatMap_append->xB,sum_cons->xC,nil_append->xE,getElem?_replicate->xF,findIdx?_eq_some_iff_getElem->xH,map_nil->xI,all_map->xJ,drop_zero->xK,take_of_length_le->xL,flatMap_cons->xM,all_eq_false->xN,mem_iff_getElem?->xO,take_append_drop->xP,isEmpty_iff->xU,getLast?_eq_some_getLast->xW,filter_sublist->xX,filterMap_map->wy,length_eraseIdx_of_lt->ww,mapM_cons->wv,getElem_range->wu,zip_cons_cons->wq,mem_take_iff_getElem->wn,take_sublist->wm,pairwise_mergeSort->wg,getElem?_cons_succ->we,length_eq_zero_iff->wc,cons_append->wa,range_succ_eq_map->wB,filter_eq_nil_iff->wC,any_map->wD,of_mem_zip->wE,filter_map->wG,perm_append_comm->wI,getElem?_mapIdx->wK,getElem?_of_mem->wM,mergeSort_perm->wN,getElem_of_mem->wP,map_drop->wQ,mem_filterMap->wR,length_mapIdx->wU,contains_cons->wX,ext_getElem?->vt,map_inj_left->vo,pairwise_map->vn,getElem_inj->vi,filter_cons->vb,flatMap_nil->va,isEmpty_map->vA,not_lt->vB,any_append->vI,drop_drop->vJ,tail_cons->vN,drop_nil->vR,drop_one->vS,all_nil->vW,map_id->uz
open PySem renaming wpAny_bind->zy,wpAny_pure->zt,sizeLine->zg
open Option renaming map_eq_some_iff->zu,isSome_iff_exists->yw,map_some->xD,bind_eq_some_iff->xG,getD_some->xS,isNone_iff_eq_none->wo,isSome_map->wl,bind_eq_bind->wO,getD_none->vh,pure_def->vC,map_none->vF
open PySem.Heap renaming get?_push_of_some->zq,lt_size->zf,get?_push_size->zC,get?_update_other->zY,get?_update_self->yu,get?_push_ne->yC,size_update->yG,get?_none_of_le->yR,get?_update_ne->xp,size_push->xg,clsAt_spec->vE
open Nat renaming le_refl->zp,ne_of_lt->zd,lt_of_lt_of_le->zB,zero_le->zM,le_trans->zP,lt_succ_of_lt->yb,lt_irrefl->yD,ne_of_gt->yO,le_of_eq->yQ,sub_self->yW,min_eq_left->xw,mul_le_mul_right->xv,le_succ->xo,le_of_lt->xn,zero_add->xl,mod_eq_of_lt->xc,lt_succ_self->xR,succ_ne_self->xT,min_le_right->wk,le_of_not_lt->wj,succ_le_succ->wb,le_add_left->wF,not_lt_zero->wH,sub_le_sub_right->wJ,pow_le_pow_right->wL,add_sub_cancel->wS,pos_of_ne_zero->wT,lt_of_le_of_ne->wY,lt_trans->wZ,sub_zero->vq,le_succ_of_le->vp,succ_mul->vm,lt_of_succ_lt->vk,lt_or_ge->vj,le_add_right->vg,min_eq_right->vc,mod_lt->vK,not_lt->vL,add_comm->vV
open Bool renaming and_eq_true->zl,false_ne_true->zk,false_eq_true->yn,eq_iff_iff->yi,true_and->yE,not_eq_true'->yT,or_eq_true->yU,and_eq_true_iff->xq,not_true->xV,false_and->xZ,and_false->wx,true_eq_false->wV,not_eq_true->vf,not_false->vM,or_false->vO,false_or->vP,and_true->vQ,or_true->vZ
open Int renaming toNat_natCast->zV,eq_ofNat_of_zero_le->yH,zero_add->xu,natCast_nonneg->xk,emod_lt_of_pos->wW,emod_nonneg->vG,natCast_add->vH,ediv_one->vU,le_trans->vX,ofNat_lt->vY
open Array renaming length_toList->yt,getElem?_eq_getElem->yg,getElem?_eq_some_iff->yI,getElem?_eq_none->xm,getElem?_toList->xh,toList_inj->xQ,getD_eq_getD_getElem?->xY,getD->wA,toList_push->vv,toList->vT,ext->uy
set_option Elab.async false
set_option linter.all false
set_option maxRecDepth 100000
namespace Law
open PySem PySem.Spec PyProof.Rows
def top(i:Nat):Zy:=PySem.Challenge.pw_belfry_k32_whole_shown.main.body.getD i (.Pass ⟨0,0,0,0⟩)
end Law
section
open PySem PySem.W PyProof.Rows
def Law.MT:ul:={ PySem.Challenge.pw_belfry_k32_whole_shown with main:={ PySem.Challenge.pw_belfry_k32_whole_shown.main with body:=[Law.top 0,Law.top 1,Law.top 2,Law.top 3,Law.top 4,Law.top 5,Law.top 6,Law.top 7,Law.top 8,Law.top 9,Law.top 10,Law.top 11,Law.top 12,Law.top 13,Law.top 14,Law.top 15,Law.top 16,Law.top 17,Law.top 18,Law.top 19,Law.top 20,Law.top 21,Law.top 22,Law.top 23,Law.top 24,Law.top 25,Law.top 26,Law.top 27,Law.top 28,Law.top 29,Law.top 30,Law.top 31,Law.top 32,Law.top 33,Law.top 34,Law.top 35,Law.top 36,Law.top 37,Law.top 38,Law.top 39,Law.top 40,Law.top 41,Law.top 42,Law.top 43,Law.top 44,Law.top 45,Law.top 46,Law.top 47,Law.top 48,Law.top 49,Law.top 50,Law.top 51,Law.top 52,Law.top 53,Law.top 54,Law.top 55,Law.top 56,Law.top 57,Law.top 58,Law.top 59,Law.top 60,Law.top 61,Law.top 62,Law.top 63,Law.top 64,Law.top 65,Law.top 66,Law.top 67,Law.top 68] } }
def Law.ud:OpenLaw:={ PySem.Challenge.rw_belfry_k32_whole_shown with prog:=Law.MT }
theorem Law.rw_eq:Law.ud=PySem.Challenge.rw_belfry_k32_whole_shown:=by kernel_rfl
set_option maxRecDepth 100000 in
set_option maxHeartbeats 0 in
theorem Law.Hl:Law.ud.wellSaid=true:=by kernel_rfl
def Law.vw:ul:={ Law.MT with main:={ Law.MT.main with body:=[Law.top 1,Law.top 2,Law.top 4,Law.top 5,Law.top 6,Law.top 7,Law.top 9,Law.top 10,Law.top 11,Law.top 12,Law.top 13,Law.top 14,Law.top 15,Law.top 17,Law.top 18,Law.top 19,Law.top 21,Law.top 22,Law.top 23,Law.top 24,Law.top 25,Law.top 26,Law.top 27,Law.top 28,Law.top 29,Law.top 30,Law.top 31,Law.top 32,Law.top 33,Law.top 34,Law.top 35,Law.top 36,Law.top 37,Law.top 38,Law.top 39,Law.top 41,Law.top 42,Law.top 43,Law.top 44,Law.top 45,Law.top 46,Law.top 47,Law.top 48,Law.top 49,Law.top 50,Law.top 51,Law.top 52,Law.top 53,Law.top 54,Law.top 55,Law.top 56,Law.top 57,Law.top 58,Law.top 59,Law.top 60,Law.top 61,Law.top 62,Law.top 63,Law.top 64,Law.top 65,Law.top 66,Law.top 67,Law.top 68] } }
namespace Law
abbrev PP:ul:=Law.ud.row.prog
noncomputable def goN(tb:String->Option Builtin)(p:ul)(w:ut)(n₀:Nat)(ann:Option jp):Nat->kt->Thread->Option (kt×Thread)
 |0,s,t=>some (s,t)
 |n+1,s,t=>match through t with
  |true=>none
  |false=>match stepOk n₀ ann t with
   |false=>none
   |true=>match step (denote tb) p w s t with
    |.go s' t'=>goN tb p w n₀ ann n s' t'
    |.halt _ _=>none
noncomputable def fA:Zy->Arguments
 |.FunctionDef (args:=a) ..=>a
 |_=>default
noncomputable def fB:Zy->List Zy
 |.FunctionDef (body:=b) ..=>b
 |_=>[]
noncomputable def fS:Zy->Scope
 |.FunctionDef (scope:=s) ..=>s
 |_=>default
noncomputable def cB:Zy->List Zy
 |.ClassDef (body:=b) ..=>b
 |_=>[]
noncomputable def mem(i k:Nat):Zy:=(cB (top i)).getD k (.Pass ⟨0,0,0,0⟩)
noncomputable def fd(n q:Str)(st:Zy)(g:kw)(c:List (Str×kw))(d kd doc m:jp)(an:Option kw)(co ct:jp)(bl:kw):FuncData:=⟨n,q,fA st,.stmts (fB st),fS st,g,c,d,kd,doc,m,an,co,ct,bl⟩
noncomputable def en(w:ut)(x:Str)(t:Nat)(v:jp):DictEntry:=⟨hashStr w x,.str x t,v⟩
noncomputable def tp(vs:List jp):Obj:=⟨.type "tuple",none,.seq ⟨vs⟩ 0,#[]⟩
noncomputable def fo(vs:List jp):Obj:=⟨.none,none,.fields ⟨vs⟩,#[]⟩
noncomputable def sv:List Str->Nat->List jp
 |[],_=>[]
 |x::r,b=>.str x b::sv r (b+1)
noncomputable def cd(n q:Str)(l c a k b b2:Nat)(v1 v2:jp):Obj:=⟨.type "code",none,.fields ⟨[.str n b,.str q (b+1),.str "/claim/cut.py" (b+2),.int l 0,.int c 0,.int 0 0,.int 0 0,.int 3 0,.ref a,.bool true,.int 181 0,.ref (a+1),.none,v1,v2,.ref k,.int b2 0,.int l 0,.str "/claim/cut.py" (b2+1)]⟩,#[]⟩
noncomputable def fn(n q:Str)(st:Zy)(m:jp)(k:Nat):Obj:=⟨.type "function",none,.func (fd n q st 3 [] .none .none .none m none (.ref k) .none 0),#[]⟩
noncomputable def fr(n q:Str)(st:Zy):Obj:=⟨.none,none,.func (fd n q st 0 [] .none .none .none .none none .none .none 0),#[]⟩
noncomputable def g7(n p:Str)(st:Zy)(l c:Nat)(vs:List Str)(m:jp)(a b:Nat):List Obj:=[tp [],fo [],tp (sv vs (b+3)),tp [],fr n (p++n) st,cd n (p++n) l c a (a+4) b (b+3+vs.length) (.ref (a+2)) (.ref (a+3)),fn n (p++n) st m (a+5)]
noncomputable def g5(n p:Str)(st:Zy)(l c:Nat)(m:jp)(a b:Nat):List Obj:=[tp [],fo [],fr n (p++n) st,cd n (p++n) l c a (a+2) b (b+3) .none .none,fn n (p++n) st m (a+3)]
noncomputable def dc(es:List DictEntry)(n:Nat):Obj:=⟨.type "dict",none,.dict ⟨es⟩ n,#[]⟩
noncomputable def bm(x:String)(v:jp):Obj:=⟨.type "builtin_function_or_method",none,.fields #[.builtin x,v],#[]⟩
noncomputable def gc(w:ut)(n:Str)(l:Nat)(m:jp)(a b:Nat):List Obj:=[tp [.ref 60],bm "type.__prepare__" (.type "type"),dc [en w "__module__" (b+7) m,en w "__qualname__" (b+9) (.str n (b+8)),en w "__firstlineno__" (b+11) (.int l (b+10)),en w "__static_attributes__" (b+12) (.ref (a+7))] 4,tp [],fo [],
 ⟨.type "code",none,.fields #[.str n (b+2),.str n (b+3),.str "/claim/cut.py" (b+4),.int l 0,.int 0 0,.int 0 0,.int 0 0,.int 0 0,.ref (a+3),.bool false,.int 181 0,.ref (a+4),.none,.none,.none,.none,.int (b+5:Nat) 0,.int l 0,.str "/claim/cut.py" (b+6)],#[]⟩,
 ⟨.type "frame",none,.plain,#[some (.ref (a+5)),some (.ref 3),some (.ref (a+2)),none,some m,none,some (.ref 0)]⟩,tp [],dc [en w "__module__" (b+7) m,en w "__firstlineno__" (b+11) (.int l (b+10)),en w "__static_attributes__" (b+12) (.ref (a+7)),en w "__doc__" (b+13) .none] 2,
 ⟨.type "type",none,.cls ⟨n,[.ref 60],[.ref (a+9),.ref 60,.type "ValueError",.type "Exception",.type "BaseException",.type "object"],a+8,n,true,[],[],false,none,false⟩,#[some (.ref a),none,some (.str n b),some (.str n (b+8)),some (.builtin "ValueError.__new__"),some (.bool true)]⟩,
 ⟨.type "super",none,.fields #[.ref (a+9),.ref (a+9),.ref (a+9)],#[]⟩,bm "object.__init_subclass__" (.ref (a+9))]
noncomputable def m0:jp:=.str "belfry.marks" 187
noncomputable def m1:jp:=.str "belfry.askings" 204
noncomputable def m2:jp:=.str "belfry.errors" 239
noncomputable def m3:jp:=.str "belfry.trees" 375
noncomputable def m4:jp:=.str "belfry.cases" 405
noncomputable def m5:jp:=.str "law_belfry_k32_whole_shown" 568
noncomputable def L1(w:ut):List Obj:=g5 "has_name" "" (top 1) 2 2 m0 15 189 ++
(g7 "value_in" "" (top 2) 4 2 ["marks","name","pair"] m0 20 195 ++
(g7 "meets" "" (top 4) 10 2 ["asking","marks","word","name","values"] m1 27 206 ++
(g5 "meets_all" "" (top 5) 21 2 m1 34 217 ++
(g5 "names_in" "" (top 6) 23 1 m1 39 223 ++
(g7 "values_beside" "" (top 7) 25 2 ["askings","name","values","asking"] m1 44 229 ++
([tp [.type "ValueError"],
bm "type.__prepare__" (.type "type"),
dc [en w "__module__" 248 m2,en w "__qualname__" 250 (.str "HouseError" 249),en w "__firstlineno__" 252 (.int (32) 251),en w "__static_attributes__" 253 (.ref 58)] 4,
tp [],
fo [],
⟨.type "code",none,(.fields #[.str "HouseError" 243,.str "HouseError" 244,.str "/claim/cut.py" 245,.int 32 0,.int 0 0,.int 0 0,.int 0 0,.int 0 0,.ref 54,.bool false,.int 181 0,.ref 55,.none,.none,.none,.none,.int 246 0,.int 32 0,.str "/claim/cut.py" 247]),#[]⟩,
⟨.type "frame",none,.plain,#[(some (.ref 56)),(some (.ref 3)),(some (.ref 53)),none,(some m2),none,(some (.ref 0))]⟩,
tp [],
dc [en w "__module__" 248 m2,en w "__firstlineno__" 252 (.int (32) 251),en w "__static_attributes__" 253 (.ref 58),en w "__weakref__" 255 (.ref 61),en w "__doc__" 256 .none] 3,
⟨.type "type",none,(.cls ⟨"HouseError",[.type "ValueError"],[.ref 60,.type "ValueError",.type "Exception",.type "BaseException",.type "object"],59,"HouseError",true,[],[.ref 80,.ref 92,.ref 104,.ref 116,.ref 128,.ref 147],false,none,false⟩),#[(some (.ref 51)),none,(some (.str "HouseError" 241)),(some (.str "HouseError" 249)),(some (.builtin "ValueError.__new__")),(some (.bool true))]⟩,
⟨.type "getset_descriptor",none,(.fields #[.str "__weakref__" 254,.ref 60,.builtin "ExceptionGroup.__weakref__",.none]),#[]⟩,
⟨.type "super",none,(.fields #[.ref 60,.ref 60,.ref 60]),#[]⟩,
bm "object.__init_subclass__" (.ref 60),
tp [.ref 60],
bm "type.__prepare__" (.type "type"),
dc [en w "__module__" 266 m2,en w "__qualname__" 268 (.str "BadWord" 267),en w "__firstlineno__" 270 (.int (34) 269),en w "__init__" 278 (.ref 77),en w "__static_attributes__" 280 (.ref 78)] 5,
tp [],
fo [.int 36 0,.int 4 0,.ref 76],
⟨.type "code",none,(.fields #[.str "BadWord" 261,.str "BadWord" 262,.str "/claim/cut.py" 263,.int 34 0,.int 0 0,.int 0 0,.int 0 0,.int 0 0,.ref 67,.bool false,.int 181 0,.ref 68,.none,.none,.none,.none,.int 264 0,.int 34 0,.str "/claim/cut.py" 265]),#[]⟩,
⟨.type "frame",none,.plain,#[(some (.ref 69)),(some (.ref 3)),(some (.ref 66)),none,(some m2),none,(some (.ref 0))]⟩] ++
(g7 "__init__" "BadWord." (mem 10 0) 36 2 ["self","at"] m2 71 271 ++
([tp [.str "at" 279],
dc [en w "__module__" 266 m2,en w "__firstlineno__" 270 (.int (34) 269),en w "__init__" 278 (.ref 77),en w "__static_attributes__" 280 (.ref 78),en w "__doc__" 281 .none] 2,
⟨.type "type",none,(.cls ⟨"BadWord",[.ref 60],[.ref 80,.ref 60,.type "ValueError",.type "Exception",.type "BaseException",.type "object"],79,"BadWord",true,[],[],false,none,false⟩),#[(some (.ref 64)),none,(some (.str "BadWord" 259)),(some (.str "BadWord" 267)),(some (.builtin "ValueError.__new__")),(some (.bool true))]⟩,
⟨.type "super",none,(.fields #[.ref 80,.ref 80,.ref 80]),#[]⟩,
bm "object.__init_subclass__" (.ref 80)] ++
(gc w "NoPlace" 38 m2 83 284 ++
(gc w "Late" 40 m2 95 300 ++
(gc w "Twice" 42 m2 107 316 ++
(gc w "Unknown" 44 m2 119 332 ++
([tp [.ref 60],
bm "type.__prepare__" (.type "type"),
dc [en w "__module__" 355 m2,en w "__qualname__" 357 (.str "BadTree" 356),en w "__firstlineno__" 359 (.int (46) 358),en w "__init__" 368 (.ref 144),en w "__static_attributes__" 371 (.ref 145)] 5,
tp [],
fo [.int 48 0,.int 4 0,.ref 143],
⟨.type "code",none,(.fields #[.str "BadTree" 350,.str "BadTree" 351,.str "/claim/cut.py" 352,.int 46 0,.int 0 0,.int 0 0,.int 0 0,.int 0 0,.ref 134,.bool false,.int 181 0,.ref 135,.none,.none,.none,.none,.int 353 0,.int 46 0,.str "/claim/cut.py" 354]),#[]⟩,
⟨.type "frame",none,.plain,#[(some (.ref 136)),(some (.ref 3)),(some (.ref 133)),none,(some m2),none,(some (.ref 0))]⟩] ++
(g7 "__init__" "BadTree." (mem 15 0) 48 3 ["self","row","at"] m2 138 360 ++
([tp [.str "at" 369,.str "row" 370],
dc [en w "__module__" 355 m2,en w "__firstlineno__" 359 (.int (46) 358),en w "__init__" 368 (.ref 144),en w "__static_attributes__" 371 (.ref 145),en w "__doc__" 372 .none] 2,
⟨.type "type",none,(.cls ⟨"BadTree",[.ref 60],[.ref 147,.ref 60,.type "ValueError",.type "Exception",.type "BaseException",.type "object"],146,"BadTree",true,[],[],false,none,false⟩),#[(some (.ref 131)),none,(some (.str "BadTree" 348)),(some (.str "BadTree" 356)),(some (.builtin "ValueError.__new__")),(some (.bool true))]⟩,
⟨.type "super",none,(.fields #[.ref 147,.ref 147,.ref 147]),#[]⟩,
bm "object.__init_subclass__" (.ref 147)])))))))))))))))
noncomputable def L2(w:ut):List Obj:=g7 "places_from" "" (top 17) 52 2 ["row","place","found","k","below"] m3 150 377 ++
(g7 "places" "" (top 18) 57 1 ["tree"] m3 157 388 ++
(g7 "row_at" "" (top 19) 59 2 ["tree","place","row","k"] m3 164 395 ++
(g7 "askings_at" "" (top 21) 67 2 ["tree","some_places","askings","place"] m4 171 407 ++
(g7 "askings_below" "" (top 22) 72 1 ["tree"] m4 178 417 ++
(g7 "values_with" "" (top 23) 74 2 ["tree","name"] m4 185 424 ++
(g7 "names_asked" "" (top 24) 76 1 ["tree"] m4 192 432 ++
(g7 "values_to_split" "" (top 25) 78 2 ["tree","name"] m4 199 439 ++
(g5 "marks_split" "" (top 26) 80 1 m4 206 447 ++
(g7 "lies_above" "" (top 27) 82 2 ["at","place"] m4 211 453 ++
(g7 "takes_away" "" (top 28) 84 3 ["tree","at","place","above"] m4 218 461 ++
(g5 "fails" "" (top 29) 93 4 m4 225 471 ++
(g5 "is_caught" "" (top 30) 98 4 m4 230 477 ++
(g7 "bears_for" "" (top 31) 103 4 ["tree","place","case","split"] m4 235 483 ++
(g5 "bears_split" "" (top 32) 111 4 m4 242 493 ++
(g7 "bears" "" (top 33) 118 3 ["tree","place","case"] m4 247 499 ++
(g5 "places_that_matter" "" (top 34) 120 2 m4 254 508 ++
(g7 "plain_case" "" (top 35) 122 4 ["tree","place","matter","split","at"] m4 259 514 ++
(g7 "value_beside" "" (top 36) 129 1 ["values","k"] m4 266 525 ++
(g7 "marks_told" "" (top 37) 134 2 ["tree","split","marks","pair","value"] m4 273 533 ++
(g7 "shown_for" "" (top 38) 140 5 ["tree","place","matter","names","split","case","cases","value","found"] m4 280 544 ++
(g7 "shown" "" (top 39) 153 2 ["tree","place","matter"] m4 287 559 ++
(g7 "_law_mixed" "" (top 41) 158 2 ["_law_script","_law_k","_law_number"] m5 294 570 ++
(g7 "_law_pick" "" (top 42) 163 3 ["_law_script","_law_k","_law_many"] m5 301 579 ++
(g5 "_law_words" "" (top 43) 165 4 m5 308 588 ++
(g5 "_law_pool" "" (top 44) 179 2 m5 313 594 ++
(g7 "_law_asking" "" (top 45) 188 3 ["_law_script","_law_k","_law_pool_here","_law_name","_law_word","_law_first","_law_some"] m5 318 600 ++
(g5 "_law_askings" "" (top 46) 196 4 m5 325 613 ++
(g5 "_law_nodes" "" (top 47) 198 4 m5 330 619 ++
(g5 "_law_row" "" (top 48) 213 2 m5 335 625 ++
(g7 "_law_tree" "" (top 49) 216 4 ["_law_script","_law_k","_law_many","_law_pool_here","_law_nodes_here"] m5 340 631 ++
(g7 "_law_marks" "" (top 50) 220 3 ["_law_script","_law_k","_law_pool_here","_law_pairs","_law_j","_law_way"] m5 347 642 ++
(g7 "_law_met" "" (top 51) 229 2 ["_law_asking_here","_law_value"] m5 354 654 ++
(g5 "_law_lets" "" (top 52) 235 2 m5 361 662 ++
(g7 "_law_taken" "" (top 53) 238 3 ["_law_row_here","_law_marks_here","_law_place","_law_found","_law_gone","_law_j"] m5 366 668 ++
(g7 "_law_places" "" (top 54) 248 2 ["_law_row_here","_law_place","_law_found","_law_j"] m5 373 680)))))))))))))))))))))))))))))))))))
noncomputable def E1(w:ut):List DictEntry:=[en w "__doc__" 166 .none,en w "__package__" 167 .none,en w "__loader__" 168 (.builtin "__main__.__loader__#opaque"),en w "__spec__" 169 .none,en w "__annotations__" 170 (.ref 6),en w "__builtins__" 171 (.ref 4),en w "__file__" 173 (.str "/claim/cut.py" 172),en w "__cached__" 174 .none,en w "has_name" 194 (.ref 19),en w "value_in" 203 (.ref 26),en w "meets" 216 (.ref 33),en w "meets_all" 222 (.ref 38),en w "names_in" 228 (.ref 43),en w "values_beside" 238 (.ref 50),en w "HouseError" 258 (.ref 60),en w "BadWord" 283 (.ref 80),en w "NoPlace" 299 (.ref 92),en w "Late" 315 (.ref 104),en w "Twice" 331 (.ref 116),en w "Unknown" 347 (.ref 128),en w "BadTree" 374 (.ref 147)]
noncomputable def F1:List jp:=[.int 2 0,.int 0 0,.ref 18,.int 4 0,.int 0 0,.ref 25,.int 10 0,.int 0 0,.ref 32,.int 21 0,.int 0 0,.ref 37,.int 23 0,.int 0 0,.ref 42,.int 25 0,.int 0 0,.ref 49,.int 32 0,.int 0 0,.ref 56,.int 34 0,.int 0 0,.ref 69,.int 38 0,.int 0 0,.ref 88,.int 40 0,.int 0 0,.ref 100,.int 42 0,.int 0 0,.ref 112,.int 44 0,.int 0 0,.ref 124,.int 46 0,.int 0 0,.ref 136]
noncomputable def lo(w:ut)(s₀:kt)(a b:Obj):List Obj:=[s₀.heap.objs.getD 0 default,
s₀.heap.objs.getD 1 default,
s₀.heap.objs.getD 2 default,
a,
s₀.heap.objs.getD 4 default,
s₀.heap.objs.getD 5 default,
s₀.heap.objs.getD 6 default,
s₀.heap.objs.getD 7 default,
s₀.heap.objs.getD 8 default,
s₀.heap.objs.getD 9 default,
s₀.heap.objs.getD 10 default,
tp [],
b,
⟨.type "code",none,(.fields #[.str "<module>" 182,.str "<module>" 183,.str "/claim/cut.py" 184,.int 1 0,.int 0 0,.int 0 0,.int 0 0,.int 0 0,.ref 11,.bool false,.int 181 0,.ref 12,.none,.none,.none,.none,.int 185 0,.int 1 0,.str "/claim/cut.py" 186]),#[]⟩,
⟨.type "frame",none,.plain,#[(some (.ref 13)),(some (.ref 3)),(some (.ref 3)),none,(some (.str "__main__" 164)),none,(some (.ref 0))]⟩]
noncomputable def SS(s₀:kt)(n:Nat)(l:List Obj):kt:={ s₀ with toks:=n,heap:={ s₀.heap with objs:=⟨l⟩ } }
noncomputable def S(w:ut)(s₀:kt):kt:=SS s₀ 375 (lo w s₀ (dc (en w "__name__" 165 m2::E1 w) 22) (fo F1)++L1 w)
noncomputable def S2(w:ut)(s₀:kt):kt:=SS s₀ 690 (lo w s₀ (dc (en w "__name__" 165 m5::(E1 w++[en w "places_from" 387 (.ref 156),en w "places" 394 (.ref 163),en w "row_at" 404 (.ref 170),en w "askings_at" 416 (.ref 177),en w "askings_below" 423 (.ref 184),en w "values_with" 431 (.ref 191),en w "names_asked" 438 (.ref 198),en w "values_to_split" 446 (.ref 205),en w "marks_split" 452 (.ref 210),en w "lies_above" 460 (.ref 217),en w "takes_away" 470 (.ref 224),en w "fails" 476 (.ref 229),en w "is_caught" 482 (.ref 234),en w "bears_for" 492 (.ref 241),en w "bears_split" 498 (.ref 246),en w "bears" 507 (.ref 253),en w "places_that_matter" 513 (.ref 258),en w "plain_case" 524 (.ref 265),en w "value_beside" 532 (.ref 272),en w "marks_told" 543 (.ref 279),en w "shown_for" 558 (.ref 286),en w "shown" 567 (.ref 293),en w "_law_mixed" 578 (.ref 300),en w "_law_pick" 587 (.ref 307),en w "_law_words" 593 (.ref 312),en w "_law_pool" 599 (.ref 317),en w "_law_asking" 612 (.ref 324),en w "_law_askings" 618 (.ref 329),en w "_law_nodes" 624 (.ref 334),en w "_law_row" 630 (.ref 339),en w "_law_tree" 641 (.ref 346),en w "_law_marks" 653 (.ref 353),en w "_law_met" 661 (.ref 360),en w "_law_lets" 667 (.ref 365),en w "_law_taken" 679 (.ref 372),en w "_law_places" 689 (.ref 379)])) 58) (fo (F1++[.int 52 0,.int 0 0,.ref 155,.int 57 0,.int 0 0,.ref 162,.int 59 0,.int 0 0,.ref 169,.int 67 0,.int 0 0,.ref 176,.int 72 0,.int 0 0,.ref 183,.int 74 0,.int 0 0,.ref 190,.int 76 0,.int 0 0,.ref 197,.int 78 0,.int 0 0,.ref 204,.int 80 0,.int 0 0,.ref 209,.int 82 0,.int 0 0,.ref 216,.int 84 0,.int 0 0,.ref 223,.int 93 0,.int 0 0,.ref 228,.int 98 0,.int 0 0,.ref 233,.int 103 0,.int 0 0,.ref 240,.int 111 0,.int 0 0,.ref 245,.int 118 0,.int 0 0,.ref 252,.int 120 0,.int 0 0,.ref 257,.int 122 0,.int 0 0,.ref 264,.int 129 0,.int 0 0,.ref 271,.int 134 0,.int 0 0,.ref 278,.int 140 0,.int 0 0,.ref 285,.int 153 0,.int 0 0,.ref 292,.int 158 0,.int 0 0,.ref 299,.int 163 0,.int 0 0,.ref 306,.int 165 0,.int 0 0,.ref 311,.int 179 0,.int 0 0,.ref 316,.int 188 0,.int 0 0,.ref 323,.int 196 0,.int 0 0,.ref 328,.int 198 0,.int 0 0,.ref 333,.int 213 0,.int 0 0,.ref 338,.int 216 0,.int 0 0,.ref 345,.int 220 0,.int 0 0,.ref 352,.int 229 0,.int 0 0,.ref 359,.int 235 0,.int 0 0,.ref 364,.int 238 0,.int 0 0,.ref 371,.int 248 0,.int 0 0,.ref 378]))++(L1 w++L2 w))
noncomputable def ev:Env:={ scope:=PP.main.scope,locals:=mainNs,globals:=mainNs,cells:=[],code:=.ref 13,frame:=some 14 }
noncomputable def tl(rest:List Zy):Sem Fin:=do return .done (<- (execs rest ev).onRaise (leaving ev))
noncomputable def TT(i:Nat)(q:Pos)(w:ut)(s₀:kt):Thread:=⟨tl (PP.main.body.drop i),.body (behindTheImports PP) ev,q,match goN treeTable PP w s₀.heap.objs.size (s₀.heap.nsMap mainGlobals "__annotations__") 12 s₀ (topStub PP) with
 |some x=>x.2.stack
 |none=>[]⟩
noncomputable abbrev T:=TT 16 ⟨46,0,50,20⟩
noncomputable abbrev T2:=TT 55 ⟨248,0,252,21⟩
noncomputable abbrev gg(w:ut) (s₀:kt):=goN treeTable PP w s₀.heap.objs.size (s₀.heap.nsMap mainGlobals "__annotations__")
set_option maxRecDepth 100000 in
set_option maxHeartbeats 0 in
theorem MZ(w:ut):(fencedOpening treeTable PP w 20000).map (fun s₀=>gg w s₀ 1743 s₀ (topStub PP))=(fencedOpening treeTable PP w 20000).map (fun s₀=>some (S w s₀,T w s₀)):=by kernel_rfl
set_option maxRecDepth 100000 in
set_option maxHeartbeats 0 in
theorem MY(w:ut):(fencedOpening treeTable PP w 20000).map (fun s₀=>gg w s₀ 1106 (S w s₀) (T w s₀))=(fencedOpening treeTable PP w 20000).map (fun s₀=>some (S2 w s₀,T2 w s₀)):=by kernel_rfl
noncomputable abbrev qB(w:ut) (s₀:kt):Option kt:=topRun treeTable PP w s₀.heap.objs.size (s₀.heap.nsMap mainGlobals "__annotations__") 17151 (S2 w s₀) (T2 w s₀)
noncomputable abbrev XT:kt->Bool:=fun s=>xlAt Law.vw [] s&&recOk (RowW.records (OpenRow.toRowW Law.ud.row)) s
noncomputable abbrev sn(s:kt):=openSeen Law.vw [] (importedModules PP.main.body) XT true s
set_option maxRecDepth 100000 in
set_option maxHeartbeats 0 in
theorem VG(w:ut):(fencedOpening treeTable PP w 20000).map (fun s₀=>(qB w s₀).map fun s₁=>(s₀.heap.isNs mainGlobals&&s₀.gens.size==0&&(staticsOk (importedModules PP.main.body) s₀.heap s₁.heap&&namesBound PP s₁.heap&&gensDone s₁&&laidKept s₀.heap s₁.heap)))=some (some true):=by kernel_rfl
set_option maxRecDepth 100000 in
set_option maxHeartbeats 0 in
theorem Tq(w:ut):(fencedOpening treeTable PP w 20000).map (fun s₀=>(qB w s₀).map fun s₁=>((sn s₁).1,(sn s₁).2.1))=some (some ((openGood Law.vw []).1,(openGood Law.vw []).2.1)):=by kernel_rfl
set_option maxRecDepth 100000 in
set_option maxHeartbeats 0 in
theorem Tp(w:ut):(fencedOpening treeTable PP w 20000).map (fun s₀=>(qB w s₀).map fun s₁=>(sn s₁).2.2.1)=some (some (openGood Law.vw []).2.2.1):=by kernel_rfl
set_option maxRecDepth 100000 in
set_option maxHeartbeats 0 in
theorem To(w:ut):(fencedOpening treeTable PP w 20000).map (fun s₀=>(qB w s₀).map fun s₁=>(sn s₁).2.2.2)=some (some (openGood Law.vw []).2.2.2):=by kernel_rfl
end Law
end
namespace L2
open PySem PySem.Spec PyProof.Rows
abbrev Key:=Sum Int Str
def kb:Key->jp->Bool
 |.inl k,v=>Value.isInt k v
 |.inr x,v=>Value.isStrOf x v
def TF(w:ut):Key->Int
 |.inl k=>hashInt k
 |.inr x=>hashStr w x
theorem bS:∀{k:Key} {v:jp},kb k v=true->(∃i t,k=Sum.inl i/\v=Value.int i t)\/(∃x t,k=Sum.inr x/\v=Value.str x t)
 |.inl i,v,h=>by
  obtain⟨t,e⟩:=Value.isInt_shape (k:=i) (v:=v) h;exact .inl ⟨i,t,rfl,e⟩
 |.inr x,v,h=>by
  obtain⟨t,e⟩:=Value.isStrOf_shape (x:=x) (v:=v) h;exact .inr ⟨x,t,rfl,e⟩
theorem FE(i:Int)(t:Tok):kb (.inl i) (.int i t)=true:=by simp[kb,Value.isInt]
theorem FD(x:Str)(t:Tok):kb (.inr x) (.str x t)=true:=by simp[kb,Value.isStrOf]
theorem NT(a b:Int):decide ((Sum.inl a:Key)=Sum.inl b)=(a==b):=by
 by_cases e:a=b
 ·subst e;simp
 ·have h:¬ (Sum.inl a:Key)=Sum.inl b:=fun q=>e (Sum.inl.inj q)
  rw[decide_eq_false h];exact(beq_eq_false_iff_ne.mpr e).symm
theorem NQ(a b:Str):decide ((Sum.inr a:Key)=Sum.inr b)=decide (a=b):=by
 by_cases e:a=b
 ·subst e;simp
 ·have h:¬ (Sum.inr a:Key)=Sum.inr b:=fun q=>e (Sum.inr.inj q)
  rw[decide_eq_false h,decide_eq_false e]
theorem NS(a:Int)(b:Str):decide ((Sum.inl a:Key)=Sum.inr b)=false:=decide_eq_false (fun q=>nomatch q)
theorem NR(a:Str)(b:Int):decide ((Sum.inr a:Key)=Sum.inl b)=false:=decide_eq_false (fun q=>nomatch q)
def aK(prog:ul)(w:ut):PySem.KeyKind prog w Key where
 is:=kb
 hash:=TF w
 inj:=fun v a b ha hb=>by
  rcases bS ha with ⟨i,t,rfl,rfl⟩|⟨x,t,rfl,rfl⟩
  ·rcases bS hb with ⟨j,u,rfl,e⟩|⟨y,u,rfl,e⟩
   ·injection e with e1 _;rw[e1]
   ·exact nomatch e
  ·rcases bS hb with ⟨j,u,rfl,e⟩|⟨y,u,rfl,e⟩
   ·exact nomatch e
   ·injection e with e1 _;rw[e1]
 byValue:=fun k v h=>by
  rcases bS h with ⟨i,t,rfl,rfl⟩|⟨x,t,rfl,rfl⟩ <;> rfl
 pyHash:=fun hv h=>by
  rcases bS hv with ⟨i,t,rfl,rfl⟩|⟨x,t,rfl,rfl⟩
  ·exact wpAny_pyHash_int h
  ·exact wpAny_pyHash_str h
 eqBool:=fun hu hv h=>by
  rcases bS hu with ⟨i,t,rfl,rfl⟩|⟨x,t,rfl,rfl⟩
  ·rcases bS hv with ⟨j,u,rfl,rfl⟩|⟨y,u,rfl,rfl⟩
   ·rw[NT]at h;exact wpAny_eqBool_int h
   ·rw[NS]at h;exact SeqAt.EqAt.int_str i t y u _ _ _ _ h
  ·rcases bS hv with ⟨j,u,rfl,rfl⟩|⟨y,u,rfl,rfl⟩
   ·rw[NR]at h;exact SeqAt.EqAt.str_int x t j u _ _ _ _ h
   ·rw[NQ]at h;exact wpAny_eqBool_str h
 «strs»:=fun k x t v h=>by
  rcases bS h with ⟨i,u,rfl,e⟩|⟨y,u,rfl,e⟩
  ·exact nomatch e
  ·injection e with e1 _
   subst e1;cases v <;> rfl
theorem AO(prog:ul)(w:ut)(i:Int)(t:Tok):(aK prog w).is (.inl i) (.int i t)=true:=FE i t
theorem ip(prog:ul)(w:ut)(x:Str)(t:Tok):(aK prog w).is (.inr x) (.str x t)=true:=FD x t
end L2
namespace L2
open PySem PySem.Spec PyProof.Rows
inductive V where
 |non|bl (b:Bool)|int (i:Int)|str (x:Str)|byt (b:Array UInt8)|flt (b:UInt64)|ref (a:kw)|ty (n:String)
 deriving DecidableEq
def RelV:V->jp->Prop
 |.non,u=>u=Value.none
 |.bl b,u=>u=Value.bool b
 |.int i,u=>∃t,u=Value.int i t
 |.str x,u=>∃t,u=Value.str x t
 |.byt b,u=>∃t,u=Value.bytes b t
 |.flt b,u=>∃t,u=Value.float b t
 |.ref a,u=>u=Value.ref a
 |.ty n,u=>u=Value.type n
abbrev Vals:List V->List jp->Prop:=Paired RelV
theorem Vals.length{xs:List V}{us:List jp}(r:Vals xs us):xs.length=us.length:=Paired.length r
theorem Vals.get:∀{xs:List V} {us:List jp} {i:Nat} {x:V},Vals xs us->xs[i]?=some x->∃u,us[i]?=some u/\RelV x u
 |_,_,_,_,.nil,e=>by simp at e
 |_,_,0,_,.cons r _,e=>by simp at e;subst e;exact⟨_,rfl,r⟩
 |_,_,i+1,x,.cons _ t,e=>by
  obtain⟨u,h1,h2⟩:=Vals.get (i:=i) (x:=x) t (by simpa using e);exact⟨u,by simpa using h1,h2⟩
theorem Vals.set{x:V}{u:jp}(r:RelV x u):∀{xs:List V} {us:List jp} (i:Nat),Vals xs us->Vals (xs.set i x) (us.set i u)
 |_,_,_,.nil=>.nil
 |_,_,0,.cons _ t=>.cons r t
 |_,_,i+1,.cons q t=>.cons q (Vals.set r i t)
theorem Vals.append:∀{xs ys:List V} {us ws:List jp},Vals xs us->Vals ys ws->Vals (xs++ys) (us++ws)
 |_,_,_,_,.nil,s=>s
 |_,_,_,_,.cons r t,s=>.cons r (Vals.append t s)
theorem Vals.take:∀{xs:List V} {us:List jp} (n:Nat),Vals xs us->Vals (xs.take n) (us.take n)
 |_,_,0,_=>.nil
 |_,_,_+1,.nil=>.nil
 |_,_,n+1,.cons r t=>.cons r (Vals.take n t)
theorem Vals.drop:∀{xs:List V} {us:List jp} (n:Nat),Vals xs us->Vals (xs.drop n) (us.drop n)
 |_,_,0,r=>r
 |_,_,_+1,.nil=>.nil
 |_,_,n+1,.cons _ t=>Vals.drop n t
theorem Vals.none_of:∀{xs:List V} {us:List jp} {i:Nat},Vals xs us->xs[i]?=none->us[i]?=none:=fun {xs us i} r e=>by
 have h1:=r.length;have h2:xs.length<=i:=xy.mp e;exact xy.mpr (by first|lia|omega)
def iT:Option V->Option jp->Prop
 |some v,some u=>RelV v u
 |none,none=>True
 |_,_=>False
def KV{κ:Type}:List (κ×V)->List (κ×jp)->Prop:=Paired fun (p:κ×V) (q:κ×jp)=>p.1=q.1/\RelV p.2 q.2
def kV:Key->V
 |.inl i=>.int i
 |.inr x=>.str x
inductive HO where
 |lst (xs:List V)
 |tup (xs:List V)
 |dK (kvs:List (Key×V))|dT (kvs:List (List Key×V))
 |set (S:Int->Bool) (n:Nat)
 |ins (C dx:kw) (fs:List (Str×V))
 |own (x:kw)
 |xd (fs:List (Str×V))
 |met (f x:kw)
 |rng (lo hi:Int)
 |frz (o:Obj) (u:HO)
 |tbl (ps:Array jp)
 |ext (φ:Heap->Prop)
abbrev Hp:=kw->Option HO
def upd(H:Hp)(a:kw)(o:HO):Hp:=fun b=>if b=a then some o else H b
theorem bO{H:Hp}{a:kw}{o:HO}:upd H a o a=some o:=by unfold upd;rw[if_pos rfl]
theorem aL{H:Hp}{a b:kw}{o:HO}(h:b≠a):upd H a o b=H b:=by unfold upd;rw[if_neg h]
theorem jl{H:Hp}{a:kw}{o u:HO}:upd (upd H a o) a u=upd H a u:=by
 funext b;unfold upd;split <;> rfl
theorem DH{H:Hp}{a b:kw}{o u:HO}(h:H a=some o)(h':H b=some u)(d:o≠u):a≠b:=by
 intro e;subst e;rw[h]at h';exact d (Option.some.inj h')
theorem bp{H:Hp}{a b:kw}{o:HO}(h:H a=some o)(h':H b=none):a≠b:=by
 intro e;subst e;rw[h]at h';cases h'
def pA(h:Heap)(a:kw)(items:Array jp):Prop:=IsTup h a items/\∀o,h.get? a=some o->o.dict=none/\o.slots=#[]
theorem pA.new(h:Heap)(items:Array jp):pA (h.push { cls:=.type "tuple",data:=.seq items }) h.objs.size items:=⟨IsTup.new _ _,fun o e=>by
 rw[zC _ rfl]at e;cases e;exact⟨rfl,rfl⟩⟩
section
variable (P:ul)(w:ut)
def b9(H:Hp)(h:Heap)(a:kw):HO->Prop
 |.lst xs=>xs.length<=zg/\∃(its:List jp) (n:Nat),Vals xs its/\h.get? a=some { cls:=.type "list",data:=.seq its.toArray n }
 |.tup xs=>xs.length<=zg/\∃its:List jp,Vals xs its/\pA h a its.toArray
 |.dK kvs=>kvs.length<=zg/\(a==sysModules)=false/\∃vs,KV kvs vs/\h.DictOf (aK P w) a vs
 |.dT kvs=>kvs.length<=zg/\(a==sysModules)=false/\∃xs:List (List Key×kw×jp),
   Paired (fun (p:List Key×V) (q:List Key×kw×jp)=>p.1=q.1/\H q.2.1=some (.tup (p.1.map kV))/\RelV p.2 q.2.2) kvs xs /\
   ∃o es ep,h.get? a=some o/\o.ExactDict/\o.data=.dict es ep/\es.toList=xs.map (entryOfKey (tupleKind (aK P w)))/\(xs.map (·.1)).Nodup
 |.set S n=>h.SetOf (intKind P w) a S n
 |.ins C dx fs=>H dx=some (.own a)/\fs.length<=1000/\dx≠a/\h.get? a=some (PySem.W.instObj C dx) /\
   ∃mA,h.Ns1 dx mA/\(∀f,iT (fs.lookup f) (mA f))/\PySem.Within mA (fs.map (·.1))
 |.own _=>∃o,h.get? a=some o
 |.xd fs=>∃mA,h.Ns1 a mA/\∀f,iT (fs.lookup f) (mA f)
 |.rng lo hi=>∃t u v,h.get? a=some { cls:=.type "range",data:=.fields #[.int lo t,.int hi u,.int 1 v] }
 |.frz o u=>h.get? a=some o/\b9 H h a u
 |.tbl ps=>h.get? a=some { cls:=.none,data:=.fields ps }
 |.met f x=>h.get? a=some (Z3 (.ref f) (.ref x))
 |.ext φ=>φ h/\(∃o,h.get? a=some o)/\∀h1 h2:Heap,φ h1->(∀o,h1.get? a=some o->h2.get? a=some o)->φ h2
def cA(H:Hp)(h:Heap):Prop:=∀a o,H a=some o->b9 P w H h a o
end
section
variable {P:ul}{w:ut}{H H':Hp}{h h':Heap}{a:kw}{o:HO}
theorem b9.lt(x:b9 P w H h a o):a<h.objs.size:=by
 cases o with
 |lst xs=>obtain⟨_,_,_,_,e⟩:=x;exact zf e
 |tup xs=>obtain⟨_,_,_,p,_⟩:=x;exact p.lt
 |dK kvs=>obtain⟨_,_,_,_,o,_,_,e,_⟩:=x;exact zf e
 |dT kvs=>obtain⟨_,_,_,_,o,_,_,e,_⟩:=x;exact zf e
 |set S n=>obtain⟨o,_,_,_,e,_⟩:=x;exact zf e
 |ins C dx fs=>obtain⟨_,_,_,e,_⟩:=x;exact zf e
 |own y=>obtain⟨_,e⟩:=x;exact zf e
 |xd fs=>obtain⟨_,⟨_,_,_,e,_⟩,_⟩:=x;exact zf e
 |rng lo hi=>obtain⟨_,_,_,e⟩:=x;exact zf e
 |frz ob u=>obtain⟨e,_⟩:=x;exact zf e
 |tbl ps=>exact zf (show h.get? a=some _ from x)
 |met f y=>exact zf (show h.get? a=some _ from x)
 |ext φ=>obtain⟨_,⟨_,e⟩,_⟩:=x;exact zf e
theorem Paired.DO{α β:Type}{F G:α->β->Prop}:∀{l₁:List α} {l₂:List β},Paired F l₁ l₂->(∀a b,F a b->G a b)->Paired G l₁ l₂
 |_,_,.nil,_=>.nil
 |_,_,.cons r t,f=>.cons (f _ _ r) (Paired.DO t f)
theorem b9.lD(x:b9 P w H h a o)(k:∀b u,(b=a\/H b=some (.own a))->h.get? b=some u->h'.get? b=some u)
  (ho:∀b,H b=some (.own a)->H' b=some (.own a)) (ht:∀b xs,H b=some (.tup xs)->H' b=some (.tup xs)):b9 P w H' h' a o:=by
 induction o with
 |lst xs=>obtain⟨z,its,n,r,e⟩:=x;exact⟨z,its,n,r,k _ _ (.inl rfl) e⟩
 |tup xs =>
  obtain⟨z,its,r,⟨ob,e,c⟩,d⟩:=x;have e':=k _ _ (.inl rfl) e;exact⟨z,its,r,⟨ob,e',c⟩,fun o q=>by rw[e']at q;cases q;exact d _ e⟩
 |dK kvs=>obtain⟨z,y,vs,r,ob,es,ep,e,c⟩:=x;exact⟨z,y,vs,r,ob,es,ep,k _ _ (.inl rfl) e,c⟩
 |dT kvs =>
  obtain⟨z,y,xs,r,ob,es,ep,e,c⟩:=x;exact⟨z,y,xs,Paired.DO r fun p q z=>⟨z.1,ht _ _ z.2.1,z.2.2⟩,ob,es,ep,k _ _ (.inl rfl) e,c⟩
 |set S n=>obtain⟨ob,es,ep,t,e,c⟩:=x;exact⟨ob,es,ep,t,k _ _ (.inl rfl) e,c⟩
 |ins C dx fs =>
  obtain⟨d,z,ne,e,mA,⟨od,es,ep,e2,c⟩,r⟩:=x;exact⟨ho _ d,z,ne,k _ _ (.inl rfl) e,mA,⟨od,es,ep,k _ _ (.inr d) e2,c⟩,r⟩
 |own y=>obtain⟨ob,e⟩:=x;exact⟨ob,k _ _ (.inl rfl) e⟩
 |xd fs=>obtain⟨mA,⟨od,es,ep,e,c⟩,r⟩:=x;exact⟨mA,⟨od,es,ep,k _ _ (.inl rfl) e,c⟩,r⟩
 |rng lo hi=>obtain⟨t,u,v,e⟩:=x;exact⟨t,u,v,k _ _ (.inl rfl) e⟩
 |frz ob u ih=>obtain⟨e,q⟩:=x;exact⟨k _ _ (.inl rfl) e,ih q⟩
 |tbl ps =>
  have e:h.get? a=some { cls:=.none,data:=.fields ps }:=x;show h'.get? a=some { cls:=.none,data:=.fields ps };exact k a _ (.inl rfl) e
 |met f y =>
  have e:h.get? a=some (Z3 (.ref f) (.ref y)):=x;show h'.get? a=some (Z3 (.ref f) (.ref y));exact k a _ (.inl rfl) e
 |ext φ=>obtain⟨p,⟨o,e⟩,st⟩:=x;exact⟨st _ _ p fun o q=>k _ _ (.inl rfl) q,⟨o,k _ _ (.inl rfl) e⟩,st⟩
theorem cA.lt(x:cA P w H h)(e:H a=some o):a<h.objs.size:=(x a o e).lt
theorem cA.fresh(x:cA P w H h)(e:h.objs.size<=a):H a=none:=by
 cases q:H a with
 |none=>rfl
 |some u=>exact absurd (zB (x.lt q) e) (yD _)
theorem cA.kept(x:cA P w H h)(k:∀b u,h.get? b=some u->h'.get? b=some u):cA P w H h':=fun a o e =>
 (x a o e).lD (fun b u _ q=>k b u q) (fun _ q=>q) fun _ _ q=>q
theorem cA.laid(x:cA P w H h)(k:∀b u,h.get? b=some u->h'.get? b=some u)(hp:h.objs.size<=a)(new:b9 P w (upd H a o) h' a o):cA P w (upd H a o) h':=fun b u e=>by
 have hn:=x.fresh hp;by_cases hb:b=a
 ·subst hb;rw[bO]at e;cases e;exact new
 ·rw[aL hb]at e
  exact(x b u e).lD (fun c v _ q=>k c v q) (fun c q=>by rw[aL (bp q hn)];exact q) fun c xs q=>by rw[aL (bp q hn)];exact q
end
def Rd(H:Hp)(a:kw)(u:HO):Prop:=H a=some u\/∃o,H a=some (.frz o u)
theorem Rd.ok{P:ul}{w:ut}{H:Hp}{h:Heap}{a:kw}{u:HO}(r:Rd H a u)(x:cA P w H h):b9 P w H h a u:=by
 rcases r with r|⟨o,r⟩
 ·exact x a u r
 ·obtain⟨_,q⟩:=x a _ r
  exact q
def GS:Option HO->Prop
 |some (.lst _)=>True
 |some (.dK _)=>True
 |some (.dT _)=>True
 |some (.set _ _)=>True
 |some (.ins _ _ _)=>True
 |some (.ext _)=>True
 |_=>False
section
variable {P:ul}{w:ut}{H:Hp}{h h':Heap}{x e:kw}{o':HO}
theorem cA.write(ok:cA P w H h)(mu:GS (H x))(he:e=x\/H e=some (.own x))(k:∀b u,b≠e->h.get? b=some u->h'.get? b=some u)(BM:∃u,h'.get? e=some u)
  (new:b9 P w (upd H x o') h' x o'):cA P w (upd H x o') h':=fun b u q=>by
 have nown:∀c y,H c=some (.own y)->c≠x:=fun c y r z=>by subst z;rw[r]at mu;exact mu
 have ntup:∀c xs,H c=some (.tup xs)->c≠x:=fun c xs r z=>by subst z;rw[r]at mu;exact mu
 by_cases hb:b=x
 ·subst hb;rw[bO]at q;cases q;exact new
 ·rw[aL hb]at q
  by_cases mf:b=e
  ·have q':H b=some (.own x):=by
    rcases he with z|z
    ·exact absurd (mf.trans z) hb
    ·rw[mf];exact z
   rw[q]at q';cases q';obtain⟨v,hv⟩:=BM;exact⟨v,by rw[mf];exact hv⟩
  ·refine(ok b u q).lD (fun c v hc r=>k c v ?_ r) (fun c r=>by rw[aL (nown c b r)];exact r) fun c xs r=>by rw[aL (ntup c xs r)];exact r
   rcases hc with rfl|hc
   ·exact mf
   ·rintro rfl
    rcases he with z|z
    ·exact nown c b hc z
    ·rw[hc]at z;cases z;exact hb rfl
end
structure Un (fs ex:List kw) (H H':Hp) (h h':Heap):Prop where
 keep:∀b o,h.get? b=some o->H b=none->b ∉ fs->b ∉ ex->h'.get? b=some o
 slot:∀b o,h.get? b=some o->H b=none->b∈fs->b ∉ ex->∃sl,h'.get? b=some { o with slots:=sl }
 free:∀b o,h.get? b=some o->H b=none->b ∉ ex->H' b=none
 there:∀b o,h.get? b=some o->b ∉ ex->∃o',h'.get? b=some o'
 iL:∀b xs,H b=some (.tup xs)->H' b=some (.tup xs)
 ib:∀b o u,H b=some (.frz o u)->H' b=some (.frz o u)
 iM:∀b ps,H b=some (.tbl ps)->∃more,H' b=some (.tbl (ps++more))
section
variable {fs fs' ex ex':List kw}{H H1 H2:Hp}{h h1 h2 h':Heap}{a x e:kw}{o:HO}
theorem Un.any(u:Un fs ex H H1 h h1){b:kw}{ob:Obj}(q:h.get? b=some ob)(n:H b=none)(hx:b ∉ ex):∃sl,h1.get? b=some { ob with slots:=sl }:=by
 by_cases hb:b∈fs
 ·exact u.slot b ob q n hb hx
 ·exact⟨ob.slots,u.keep b ob q n hb hx⟩
theorem Un.kept(k:∀b u,h.get? b=some u->h'.get? b=some u):Un fs ex H H h h' :=
 ⟨fun b ob q _ _ _=>k b ob q,fun b ob q _ _ _=>⟨ob.slots,k b ob q⟩,fun _ _ _ n _=>n,fun b ob q _=>⟨ob,k b ob q⟩,fun _ _ q=>q,fun _ _ _ q=>q,fun _ ps q=>⟨#[],by rw[q];simp⟩⟩
theorem Un.refl:Un fs ex H H h h:=Un.kept fun _ _ q=>q
theorem Un.laid(k:∀b u,h.get? b=some u->h'.get? b=some u)(hp:h.objs.size<=a)(hn:H a=none):Un fs ex H (upd H a o) h h' where
 keep:=fun b u q _ _ _=>k b u q
 slot:=fun b u q _ _ _=>⟨u.slots,k b u q⟩
 free:=fun b u q n _=>by rw[aL (zd (zB (zf q) hp))];exact n
 there:=fun b u q _=>⟨u,k b u q⟩
 iL:=fun b xs q=>by rw[aL (bp q hn)];exact q
 ib:=fun b u xs q=>by rw[aL (bp q hn)];exact q
 iM:=fun b ps q=>⟨#[],by rw[aL (bp q hn),q];simp⟩
theorem Un.write(mu:GS (H x))(he:e=x\/H e=some (.own x))(k:∀b u,b≠e->h.get? b=some u->h'.get? b=some u)(BM:∃u,h'.get? e=some u):Un fs ex H (upd H x o) h h':=by
 have hx:∀b,H b=none->b≠x:=fun b n z=>by subst z;rw[n]at mu;exact mu
 have hb:∀b,H b=none->b≠e:=fun b n z=>by
  subst z;rcases he with r|r
  ·exact hx b n r
  ·rw[n]at r;cases r
 have hm:∀b u,H b=some u->¬ GS (some u)->b≠x:=fun b u q nm z=>by subst z;rw[q]at mu;exact nm mu
 refine⟨fun b u q n _ _=>k b u (hb b n) q,fun b u q n _ _=>⟨u.slots,k b u (hb b n) q⟩,fun b u q n _=>by rw[aL (hx b n)];exact n,fun b u q _=>?_,
  fun b xs q=>by rw[aL (hm b _ q fun z=>z)];exact q,fun b u xs q=>by rw[aL (hm b _ q fun z=>z)];exact q,fun b ps q=>⟨#[],by rw[aL (hm b _ q fun z=>z),q];simp⟩⟩
 by_cases mf:b=e
 ·subst mf;exact BM
 ·exact⟨u,k b u mf q⟩
end
def IZ(h:Heap)(H:Hp):List kw:=(List.range h.objs.size).filter fun a=>(H a).isSome
def lP(h:Heap)(H:Hp):Heap:=PySem.W.hideAll h (IZ h H)
theorem FY(h:Heap)(H:Hp):(lP h H).objs.size=h.objs.size:=PySem.W.hideAll_size _ _
theorem Ih{h:Heap}{H:Hp}{b:kw}{o:Obj}(e:h.get? b=some o)(n:H b=none):(lP h H).get? b=some o :=
 PySem.W.hideAll_get _ e fun hm=>by
  have q:(H b).isSome=true:=(yl.mp hm).2;rw[n]at q;simp at q
theorem Lm{h:Heap}{H:Hp}{b:kw}{o:Obj}(e:(lP h H).get? b=some o):h.get? b=some o/\H b=none:=by
 have e':h.get? b=some o:=PySem.W.of_hideAll (IZ h H) e;refine⟨e',?_⟩;cases q:H b with
 |none=>rfl
 |some x =>
  have hm:b∈IZ h H:=yl.mpr ⟨yk.mpr (zf e'),by simp[q]⟩;have z:(lP h H).get? b=none:=PySem.W.hideAll_none (IZ h H) hm;rw[z]at e;cases e
end L2
namespace L2
open PySem PySem.Spec PyProof.Rows
structure Mod (K:Q_) (mg:Str->Option jp) (base:Heap):Prop where
 JC:K.In base
 glob:base.Ns mainGlobals mg
 blt:∃mb,base.Ns builtinsNs mb/\∀x:Str,x≠"__name__"->mb x=bootBuiltins x
 nolimit:base.NoLimit
structure Cx where
 prog:ul
 w:ut
 K:Q_
 mg:Str->Option jp
 base:Heap
 A:Zx
 N:List Str
 s₀:kt
 H₀:Hp
 env:Env
 outer:List Env
 stack:List Env
 ex:List kw
 fn:Str->Bool
 calm:Bool
 pn:List (kw×Obj)
 xe:jp->kt->Prop
def fV(l:List Env):List kw:=l.filterMap (·.frame)
abbrev Cx.fs(X:Cx):List kw:=fV X.outer
def GP(sc:Scope)(x:Str):Prop:=sc.names.lookup x=some .local\/sc.names.lookup x=some .cell\/sc.names.lookup x=some .free
def Loc(sc:Scope)(x:Str):Prop:=sc.names.lookup x=some .local\/sc.names.lookup x=some .cell
def Look(env:Env)(h:Heap)(m:Str->Option jp)(x:Str)(u:jp):Prop :=
 (env.kindOf x=some .local/\m x=some u)\/((env.kindOf x=some .cell\/env.kindOf x=some .free)/\∃c,env.cells.lookup x=some c/\h.IsCell c (some u))
structure Cx.Ok (X:Cx):Prop where
 mod:Mod X.K X.mg X.base
 kind:X.env.scope.kind=.function
 glob:X.env.globals=mainGlobals
 blt:X.env.builtins=builtinsNs
 above:X.s₀.heap.objs.size<=X.env.locals
 inj:∀x y c,X.env.cells.lookup x=some c->X.env.cells.lookup y=some c->x=y
 has:∀x,(X.env.kindOf x=some .cell\/X.env.kindOf x=some .free)->∃c,X.env.cells.lookup x=some c
 Al:∀x c,X.fn x=true->X.env.cells.lookup x=some c->X.s₀.heap.objs.size<=c
 hd:X.calm=true->X.A.handled=none
 frames:X.A.frames=some X.stack
 A9:X.stack=X.outer\/(X.stack=X.env::X.outer/\X.env.frame=some X.env.locals)
 J7:∀b∈X.ex,b≠X.env.locals/\∀x c,X.env.cells.lookup x=some c->c≠b
 bs:∀b o,X.base.get? b=some o->X.s₀.heap.get? b=some o/\X.H₀ b=none
 oE:X.base.objs.size<=X.s₀.heap.objs.size
 oY:∀b o,X.base.get? b=some o->b ∉ X.ex
 q0:∀b∈X.ex,b ∉ X.fs
 gr:X.s₀.heap.FunFrames X.base X.outer
 sk:∀b∈X.fs,X.H₀ b=none
structure Inv (X:Cx) (Zz:List (kw×Obj)) (σ:List (Option V)) (H:Hp) (s:kt):Prop where
 ok:X.Ok
 os:s.os=X.s₀.os
 bare:AllBare s.gens
 base:Un X.fs X.ex X.H₀ H X.s₀.heap s.heap
 loc:∃m,s.heap.Ns X.env.locals m/\∀(i:Nat) (x:Str) (v:V),X.N[i]?=some x->σ[i]?=some (some v)->GP X.env.scope x->∃u,RelV v u/\Look X.env s.heap m x u
 cell:∀x c,X.env.cells.lookup x=some c->∃v,s.heap.IsCell c v
 free:H X.env.locals=none
 dF:∀x c,X.env.cells.lookup x=some c->H c=none
 pin:∀p∈X.pn++Zz,s.heap.get? p.1=some p.2/\H p.1=none/\p.1≠X.env.locals/\p.1 ∉ X.fs/\∀v,p.2.data≠.cell v
 ax:cA X.prog X.w H s.heap
 len:σ.length=X.N.length
section
variable {X:Cx}{Zz:List (kw×Obj)}{σ:List (Option V)}{H H':Hp}{s:kt}{h':Heap}
theorem Cx.Ok.Tt(ok:X.Ok){b:kw}{o:Obj}(e:X.base.get? b=some o):b ∉ X.fs:=fun hb=>by
 have:=(ok.gr.mem hb).1
 rw[e]at this;cases this
theorem Inv.bs(I:Inv X Zz σ H s):∀b o,X.base.get? b=some o->s.heap.get? b=some o/\H b=none:=fun b o e =>
 ⟨I.base.keep b o (I.ok.bs b o e).1 (I.ok.bs b o e).2 (I.ok.Tt e) (I.ok.oY b o e),I.base.free b o (I.ok.bs b o e).1 (I.ok.bs b o e).2 (I.ok.oY b o e)⟩
theorem Inv.bk(I:Inv X Zz σ H s):∀b o,X.base.get? b=some o->s.heap.get? b=some o:=fun b o e=>(I.bs b o e).1
theorem Inv.mod(I:Inv X Zz σ H s):Mod X.K X.mg X.base:=I.ok.mod
theorem Inv.kc(I:Inv X Zz σ H s):X.K.In s.heap:=I.ok.mod.JC.keeps I.bk
theorem Inv.lt(I:Inv X Zz σ H s):X.env.locals<s.heap.objs.size:=let ⟨_,hn,_⟩:=I.loc;hn.lt
theorem Inv.sz(I:Inv X Zz σ H s):X.s₀.heap.objs.size<=s.heap.objs.size:=zP I.ok.above (xn I.lt)
theorem Inv.Ts(I:Inv X Zz σ H s){a:kw}(h:s.heap.objs.size<=a):a ∉ X.fs:=fun hb=>by
 obtain⟨_,o,ho,_⟩:=I.ok.gr.mem hb;exact absurd (zB (zf ho) (zP I.sz h)) (yD _)
theorem Inv.m8(I:Inv X Zz σ H s):∀x c,X.env.cells.lookup x=some c->c≠X.env.locals:=fun x c e z=>by
 obtain⟨v,o,ho,hd⟩:=I.cell x c e;obtain⟨m,⟨o',es,ep,ho',hd',_⟩,_⟩:=I.loc;rw[z,ho']at ho;cases ho;rw[hd']at hd;cases hd
theorem Inv.gr(I:Inv X Zz σ H s):s.heap.FunFrames X.base X.outer:=by
 have all:∀(l:List Env),(∀b∈fV l,b∈X.fs)->X.s₀.heap.FunFrames X.base l->s.heap.FunFrames X.base l:=by
  intro l;induction l with
  |nil=>intro _ _;trivial
  |cons env r ih =>
   intro hs hl;obtain⟨hk,⟨L,o,hf,hn,ho,hd⟩,hr⟩:=hl;have hL:L∈X.fs:=hs L (by unfold fV;rw[yJ,hf];exact zJ);obtain⟨sl,e⟩:=I.base.slot L o ho (I.ok.sk L hL) hL fun z=>I.ok.q0 L z hL;exact⟨hk,⟨L,_,hf,hn,e,hd⟩,ih (fun b hb=>hs b (by unfold fV;rw[yJ,hf];exact zI _ hb)) hr⟩
 exact all X.outer (fun _ hb=>hb) I.ok.gr
theorem Inv.stack(I:Inv X Zz σ H s):s.heap.FunFrames X.base X.stack:=by
 rcases I.ok.A9 with e|⟨e,hf⟩
 ·rw[e];exact I.gr
 ·rw[e]
  obtain⟨m,hn,_⟩:=I.loc;refine .cons (by rw[I.ok.kind];decide) hf hn ?_ I.gr;exact yR (zP I.ok.oE I.ok.above)
theorem Inv.jz(I:Inv X Zz σ H s):∀b∈fV X.stack,b∈X.env.locals::X.fs:=fun b hb=>by
 rcases I.ok.A9 with e|⟨e,hf⟩
 ·rw[e]at hb;exact zI _ hb
 ·rw[e]at hb
  unfold fV at hb;rw[yJ,hf]at hb;exact hb
theorem Inv.qx(I:Inv X Zz σ H s):∀b∈fV X.stack,H b=none:=fun b hb=>by
 rcases zc.mp (I.jz b hb) with e|hb
 ·rw[e];exact I.free
 ·obtain⟨_,o,ho,_⟩:=I.ok.gr.mem hb
  exact I.base.free b o ho (I.ok.sk b hb) fun z=>I.ok.q0 b z hb
theorem Inv.step{g':Array GenState}{t':Nat}{d':Drawn}{ch:List kw}(I:Inv X Zz σ H s)
  (hch:∀b∈ch,(b∈X.ex\/X.s₀.heap.objs.size<=b)/\b≠X.env.locals/\(∀x c,X.env.cells.lookup x=some c->c≠b)/\∀p∈X.pn++Zz,p.1≠b)
  (keep:∀b o,b≠X.env.locals->b ∉ X.fs->b ∉ ch->s.heap.get? b=some o->H b=none->h'.get? b=some o)
  (slot:∀b o,b≠X.env.locals->b∈X.fs->b ∉ ch->s.heap.get? b=some o->H b=none->∃sl,h'.get? b=some { o with slots:=sl }) (free:∀b o,b ∉ ch->s.heap.get? b=some o->H b=none->H' b=none)
  (there:∀b o,b ∉ ch->s.heap.get? b=some o->∃o',h'.get? b=some o')
  (iL:∀b xs,H b=some (.tup xs)->H' b=some (.tup xs)) (ib:∀b o u,H b=some (.frz o u)->H' b=some (.frz o u)) (iM:∀b ps,H b=some (.tbl ps)->∃more,H' b=some (.tbl (ps++more)))
  (ns:∀m,s.heap.Ns X.env.locals m->h'.Ns X.env.locals m) (ax:cA X.prog X.w H' h') (hg:AllBare g') :
  Inv X Zz σ H' { s with heap:=h',gens:=g',drawn:=d',toks:=t' }:=by
 have neL:∀b o,X.s₀.heap.get? b=some o->b≠X.env.locals:=fun b o e=>zd (zB (zf e) I.ok.above);have neC:∀b o,X.s₀.heap.get? b=some o->b ∉ X.ex->b ∉ ch:=fun b o e hx hb=>by
  rcases (hch b hb).1 with z|z
  ·exact hx z
  ·exact absurd (zB (zf e) z) (yD _)
 have cellK:∀x c,X.env.cells.lookup x=some c->∀v,s.heap.IsCell c v->h'.IsCell c v:=fun x c e v ⟨o,ho,hd⟩=>by
  have Fp:c ∉ ch:=fun z=>(hch c z).2.2.1 x c e rfl;by_cases hc:c∈X.fs
  ·obtain⟨sl,q⟩:=slot c o (I.m8 x c e) hc Fp ho (I.dF x c e)
   exact⟨_,q,hd⟩
  ·exact⟨o,keep c o (I.m8 x c e) hc Fp ho (I.dF x c e),hd⟩
 refine⟨I.ok,I.os,hg,⟨fun b o e n hb hx=>?_,fun b o e n hb hx=>?_,fun b o e n hx=>?_,fun b o e hx=>?_,fun b xs e=>iL b xs (I.base.iL b xs e),fun b o xs e=>ib b o xs (I.base.ib b o xs e),fun b ps e=>?_⟩,?_,fun x c e=>?_,?_,fun x c e=>?_,fun p hp=>?_,ax,I.len⟩
 ·exact keep b o (neL b o e) hb (neC b o e hx) (I.base.keep b o e n hb hx) (I.base.free b o e n hx)
 ·obtain⟨sl,e1⟩:=I.base.slot b o e n hb hx
  obtain⟨sl',e2⟩:=slot b _ (neL b o e) hb (neC b o e hx) e1 (I.base.free b o e n hx);exact⟨sl',e2⟩
 ·obtain⟨o',e1⟩:=I.base.there b o e hx
  exact free b o' (neC b o e hx) e1 (I.base.free b o e n hx)
 ·obtain⟨o',e1⟩:=I.base.there b o e hx
  exact there b o' (neC b o e hx) e1
 ·obtain⟨m1,e1⟩:=I.base.iM b ps e
  obtain⟨m2,e2⟩:=iM b _ e1;exact⟨m1++m2,by rw[e2,Array.append_assoc]⟩
 ·obtain⟨m,hn,hl⟩:=I.loc
  refine⟨m,ns m hn,fun i x v e1 e2 e3=>?_⟩;obtain⟨u,r,l⟩:=hl i x v e1 e2 e3;refine⟨u,r,?_⟩;rcases l with l|⟨k,c,e,z⟩
  ·exact .inl l
  ·exact .inr ⟨k,c,e,cellK x c e _ z⟩
 ·obtain⟨v,z⟩:=I.cell x c e
  exact⟨v,cellK x c e v z⟩
 ·obtain⟨m,⟨o,_,_,ho,_⟩,_⟩:=I.loc
  exact free _ o (fun z=>(hch _ z).2.1 rfl) ho I.free
 ·obtain⟨v,o,ho,hd⟩:=I.cell x c e
  exact free c o (fun z=>(hch c z).2.2.1 x c e rfl) ho (I.dF x c e)
 ·obtain⟨e,n,ne,nf,d⟩:=I.pin p hp
  have Fp:p.1 ∉ ch:=fun z=>(hch p.1 z).2.2.2 p hp rfl;exact⟨keep p.1 p.2 ne nf Fp e n,free p.1 p.2 Fp e n,ne,nf,d⟩
theorem Inv.un{t':Nat}(I:Inv X Zz σ H s)(u:Un X.fs [] H H' s.heap h')(ax:cA X.prog X.w H' h'):Inv X Zz σ H' { s with heap:=h',toks:=t' }:=by
 obtain⟨m,⟨o,es,ep,ho,r⟩,_⟩:=id I.loc;obtain⟨sl,hL⟩:=u.any ho I.free (by simp);exact I.step (g':=s.gens) (d':=s.drawn) (ch:=[]) (fun _ z=>nomatch z) (fun b o _ hb _ e n=>u.keep b o e n hb (by simp)) (fun b o _ hb _ e n=>u.slot b o e n hb (by simp)) (fun b o _ e n=>u.free b o e n (by simp)) (fun b o _ e=>u.there b o e (by simp)) u.iL u.ib u.iM (fun m' hm=>by
  obtain⟨o',es',ep',ho',r'⟩:=hm;rw[ho]at ho';cases ho';exact⟨_,es',ep',hL,r'⟩) ax I.bare
theorem Inv.call{g':Array GenState}{t':Nat}{d':Drawn}{ch:List kw}(I:Inv X Zz σ H s)(u:Un (fV X.stack) ch H H' s.heap h')(ax:cA X.prog X.w H' h')(hg:AllBare g')
  (hch:∀b∈ch,(b∈X.ex\/X.s₀.heap.objs.size<=b)/\b≠X.env.locals/\(∀x c,X.env.cells.lookup x=some c->c≠b)/\∀p∈X.pn++Zz,p.1≠b) :
  Inv X Zz σ H' { s with heap:=h',gens:=g',drawn:=d',toks:=t' }:=by
 obtain⟨m,⟨o,es,ep,ho,r⟩,_⟩:=id I.loc;obtain⟨sl,hL⟩:=u.any ho I.free fun z=>(hch _ z).2.1 rfl;exact I.step (ch:=ch) hch (fun b o hL hb hc e n=>u.keep b o e n (fun z=>(zc.mp (I.jz b z)).elim hL hb) hc) (fun b o _ _ hc e n=>u.any e n hc) (fun b o hc e n=>u.free b o e n hc) (fun b o hc e=>u.there b o e hc) u.iL u.ib u.iM (fun m' hm=>by
  obtain⟨o',es',ep',ho',r'⟩:=hm;rw[ho]at ho';cases ho';exact⟨_,es',ep',hL,r'⟩) ax hg
theorem Inv.turned{t':Nat}{it:kw}(I:Inv X Zz σ H s)(k:∀b o,b≠it->s.heap.get? b=some o->h'.get? b=some o)(hn:H it=none)(hL:it≠X.env.locals)
  (h1:it∈X.ex\/X.s₀.heap.objs.size<=it) (h2:∀x c,X.env.cells.lookup x=some c->c≠it) (h3:∀p∈X.pn++Zz,p.1≠it):Inv X Zz σ H { s with heap:=h',toks:=t' }:=by
 have Rb:∀b u,H b=some u->b≠it:=fun b u e z=>by rw[z,hn]at e;cases e
 refine I.step (g':=s.gens) (d':=s.drawn) (ch:=[it]) (fun b hb=>?_) (fun b o _ _ hc e _=>k b o (fun z=>hc (by simp[z])) e) (fun b o _ _ hc e _=>⟨o.slots,k b o (fun z=>hc (by simp[z])) e⟩) (fun _ _ _ _ n=>n)
  (fun b o hc e=>⟨o,k b o (fun z=>hc (by simp[z])) e⟩) (fun _ _ e=>e) (fun _ _ _ e=>e) (fun b ps e=>⟨#[],by rw[e];simp⟩) (fun m hm=>?_) (fun b u e=>?_) I.bare
 ·have e:b=it:=by simpa using hb
  subst e;exact⟨h1,hL,h2,h3⟩
 ·obtain⟨o,es,ep,ho,r⟩:=hm
  exact⟨o,es,ep,k _ o (Ne.symm hL) ho,r⟩
 ·refine(I.ax b u e).lD (fun c v hc q=>k c v ?_ q) (fun _ q=>q) fun _ _ q=>q
  rcases hc with z|z
  ·rw[z];exact Rb b u e
  ·exact Rb c _ z
theorem Inv.tok(I:Inv X Zz σ H s)(t:Nat):Inv X Zz σ H { s with toks:=t }:=I.un (h':=s.heap) (t':=t) Un.refl I.ax
theorem Inv.kept{t':Nat}(I:Inv X Zz σ H s)(k:∀b u,s.heap.get? b=some u->h'.get? b=some u):Inv X Zz σ H { s with heap:=h',toks:=t' }:=I.un (Un.kept k) (I.ax.kept k)
theorem Inv.laid{a:kw}{o:HO}{t':Nat}(I:Inv X Zz σ H s)(k:∀b u,s.heap.get? b=some u->h'.get? b=some u)(hp:s.heap.objs.size<=a)(new:b9 X.prog X.w (upd H a o) h' a o) :
  Inv X Zz σ (upd H a o) { s with heap:=h',toks:=t' }:=I.un (Un.laid k hp (I.ax.fresh hp)) (I.ax.laid k hp new)
theorem Inv.write{x e:kw}{o:HO}{t':Nat}(I:Inv X Zz σ H s)(mu:GS (H x))(he:e=x\/H e=some (.own x))(k:∀b u,b≠e->s.heap.get? b=some u->h'.get? b=some u)(BM:∃u,h'.get? e=some u)
  (new:b9 X.prog X.w (upd H x o) h' x o):Inv X Zz σ (upd H x o) { s with heap:=h',toks:=t' }:=I.un (Un.write mu he k BM) (I.ax.write mu he k BM new)
theorem Inv.qL{pins':List (kw×Obj)}(I:Inv X Zz σ H s)(h:∀p∈pins',s.heap.get? p.1=some p.2/\H p.1=none/\p.1≠X.env.locals/\p.1 ∉ X.fs/\∀v,p.2.data≠.cell v):Inv X pins' σ H s :=
 ⟨I.ok,I.os,I.bare,I.base,I.loc,I.cell,I.free,I.dF,fun p hp=>(zL.mp hp).elim (fun z=>I.pin p (yo _ z)) (h p),I.ax,I.len⟩
theorem oZ{N:List Str}(hN:N.Nodup){i j:Nat}{x:Str}(a:N[i]?=some x)(b:N[j]?=some x):i=j:=by
 obtain⟨h1,e1⟩:=zn.mp a;obtain⟨h2,e2⟩:=zn.mp b;exact(vi hN).mp (e1.trans e2.symm)
theorem rJ{M:Model}{A:Zx}{E:jp->kt->Prop}{i:Nat}{x:Str}{v:V}{u:jp}{Q:Unit->kt->Prop}(I:Inv X Zz σ H s)(hN:X.N.Nodup)(hi:X.N[i]?=some x)(hx:Loc X.env.scope x)(r:RelV v u)
  (h:∀s',Inv X Zz (σ.set i (some v)) H s'->(∃a,Heap.SameBut a s.heap s'.heap/\(a=X.env.locals\/X.env.cells.lookup x=some a))->Q () s') (hf:X.fn x=true\/X.env.scope.names.lookup x=some .local:=by first|exact .inl rfl|exact .inr rfl|assumption):wpAny M A (storeName X.env x u) Q E s:=by
 obtain⟨m,hn,hl⟩:=id I.loc;have gq:(X.env.scope.kind==.class||(X.env.scope.kind==.module&&X.env.locals != X.env.globals))=false:=by rw[I.ok.kind];rfl
 have D0:i<σ.length:=by rw[I.len];exact(zn.mp hi).1
 have m8:=I.m8;have tracked:∀{a:kw} {h':Heap},(∃o,s.heap.get? a=some o/\H a=none)->Heap.SameBut a s.heap h'->cA X.prog X.w H h':=fun {a h'} ha hs b ob e=>by
  obtain⟨_,_,p7⟩:=ha;refine(I.ax b ob e).lD (fun c w' hc q=>(hs.2 c ?_).trans q) (fun _ q=>q) fun _ _ q=>q;rintro rfl;rcases hc with rfl|hc
  ·rw[p7]at e;cases e
  ·rw[p7]at hc;cases hc
 rcases hx with hk|hk
 ·refine wpAny_storeName_local hk hn (fun h' hn' hs=>?_) gq
  obtain⟨oL,_,_,Wn,_⟩:=id hn;refine h _ ⟨I.ok,I.os,I.bare,⟨fun b o e n hb hx=>?_,fun b o e n hb hx=>?_,I.base.free,fun b o e hx=>?_,I.base.iL,I.base.ib,I.base.iM⟩,⟨_,hn',fun j y v' e1 e2 e3=>?_⟩,fun y c e=>?_,I.free,I.dF,fun p hp=>?_,tracked ⟨oL,Wn,I.free⟩ hs,by simpa using I.len⟩ ⟨_,hs,.inl rfl⟩
  ·exact(hs.2 b (zd (zB (zf e) I.ok.above))).trans (I.base.keep b o e n hb hx)
  ·obtain⟨sl,e1⟩:=I.base.slot b o e n hb hx
   exact⟨sl,(hs.2 b (zd (zB (zf e) I.ok.above))).trans e1⟩
  ·obtain⟨o',e1⟩:=I.base.there b o e hx
   exact⟨o',(hs.2 b (zd (zB (zf e) I.ok.above))).trans e1⟩
  ·by_cases hj:j=i
   ·subst hj
    rw[hi]at e1;cases e1;rw[zU D0]at e2;cases e2;exact⟨u,r,.inl ⟨hk,by simp⟩⟩
   ·rw[zj (Ne.symm hj)]at e2
    obtain⟨u',r',q⟩:=hl j y v' e1 e2 e3;refine⟨u',r',?_⟩;rcases q with ⟨k,e⟩|⟨k,c,e,z⟩
    ·refine .inl ⟨k,?_⟩
     have:y≠x:=fun e=>hj (oZ hN e1 (e▸hi))
     simp[this,e]
    ·exact .inr ⟨k,c,e,z.sameBut hs (m8 y c e)⟩
  ·obtain⟨w',z⟩:=I.cell y c e
   exact⟨w',z.sameBut hs (m8 y c e)⟩
  ·obtain⟨e,n,ne,nf,d⟩:=I.pin p hp
   exact⟨(hs.2 p.1 ne).trans e,n,ne,nf,d⟩
 ·have BL:X.fn x=true:=by
   rcases hf with z|z
   ·exact z
   ·rw[z]at hk;cases hk
  obtain⟨c,hc⟩:=I.ok.has x (.inl hk);obtain⟨w',z⟩:=I.cell x c hc;refine wpAny_storeName_cell I.ok.kind hk hc z (fun h' hc' hs=>?_);obtain⟨oc,FU,TM⟩:=id z;refine h { s with heap:=h' } ⟨I.ok,I.os,I.bare,⟨fun b o e n hb hx=>?_,fun b o e n hb hx=>?_,I.base.free,fun b o e hx=>?_,I.base.iL,I.base.ib,I.base.iM⟩,⟨m,hn.sameBut hs (Ne.symm (m8 x c hc)),fun j y v' e1 e2 e3=>?_⟩,fun y c' e=>?_,I.free,I.dF,fun p hp=>?_,tracked ⟨oc,FU,I.dF x c hc⟩ hs,by simpa using I.len⟩ ⟨c,hs,.inr hc⟩
  ·exact(hs.2 b (zd (zB (zf e) (I.ok.Al x c BL hc)))).trans (I.base.keep b o e n hb hx)
  ·obtain⟨sl,e1⟩:=I.base.slot b o e n hb hx
   exact⟨sl,(hs.2 b (zd (zB (zf e) (I.ok.Al x c BL hc)))).trans e1⟩
  ·obtain⟨o',e1⟩:=I.base.there b o e hx
   exact⟨o',(hs.2 b (zd (zB (zf e) (I.ok.Al x c BL hc)))).trans e1⟩
  ·by_cases hj:j=i
   ·subst hj
    rw[hi]at e1;cases e1;rw[zU D0]at e2;cases e2;exact⟨u,r,.inr ⟨.inl hk,c,hc,hc'⟩⟩
   ·rw[zj (Ne.symm hj)]at e2
    obtain⟨u',r',q⟩:=hl j y v' e1 e2 e3;refine⟨u',r',?_⟩;rcases q with q|⟨k,c',e,z'⟩
    ·exact .inl q
    ·refine .inr ⟨k,c',e,z'.sameBut hs ?_⟩
     rintro rfl;exact hj (oZ hN e1 (I.ok.inj _ _ _ e hc▸hi))
  ·by_cases RV:c'=c
   ·subst RV;exact⟨_,hc'⟩
   ·obtain⟨w2,z2⟩:=I.cell y c' e
    exact⟨w2,z2.sameBut hs RV⟩
  ·obtain⟨e,n,ne,nf,d⟩:=I.pin p hp
   refine⟨(hs.2 p.1 ?_).trans e,n,ne,nf,d⟩;intro q;rw[q,FU]at e;have q':oc=p.2:=Option.some.inj e;exact d w' (by rw[<- q'];exact TM)
theorem oO{M:Model}{A:Zx}{E:jp->kt->Prop}{i:Nat}{x:Str}{v:V}{u:jp}{Q:Unit->kt->Prop}(I:Inv X Zz σ H s)(hN:X.N.Nodup)(hi:X.N[i]?=some x)(hx:Loc X.env.scope x)(r:RelV v u)
  (h:∀s',Inv X Zz (σ.set i (some v)) H s'->Q () s') (hf:X.fn x=true\/X.env.scope.names.lookup x=some .local:=by first|exact .inl rfl|exact .inr rfl|assumption):wpAny M A (storeName X.env x u) Q E s :=
 rJ I hN hi hx r (fun s' I' _=>h s' I') hf
theorem Inv.call'{s':kt}{ch:List kw}(I:Inv X Zz σ H s)(ho:s'.os=s.os)(u:Un (fV X.stack) ch H H' s.heap s'.heap)(ax:cA X.prog X.w H' s'.heap)(hg:AllBare s'.gens)
  (hch:∀b∈ch,(b∈X.ex\/X.s₀.heap.objs.size<=b)/\b≠X.env.locals/\(∀x c,X.env.cells.lookup x=some c->c≠b)/\∀p∈X.pn++Zz,p.1≠b):Inv X Zz σ H' s':=by
 obtain⟨h',g',d',t',o'⟩:=s';have e:o'=s.os:=ho;subst e;exact I.call (g':=g') (t':=t') (d':=d') u ax hg hch
end
abbrev XK:=jp->Option kw->Hp->Prop
abbrev St:=List (Option V)
abbrev VK:=V->Hp->Prop
abbrev TE:=St->Hp->VK->Prop
abbrev TT:=St->Hp->(Bool->Hp->Prop)->Prop
abbrev TA:=St->Hp->(List V->Hp->Prop)->Prop
structure Ends where
 nx:St->Hp->Prop
 rt:VK
 bk:St->Hp->Prop:=fun _ _=>False
 ct:St->Hp->Prop:=fun _ _=>False
abbrev TS:=Ends->St->Hp->Prop
inductive EP (X:Cx) (Zz:List (kw×Obj)) (σ:St) (Q:VK) (u:jp) (s':kt):Prop
 |mk (v:V) (H':Hp) (I:Inv X Zz σ H' s') (r:RelV v u) (q:Q v H')
inductive TP (X:Cx) (Zz:List (kw×Obj)) (σ:St) (Q:Bool->Hp->Prop) (b:Bool) (s':kt):Prop
 |mk (H':Hp) (I:Inv X Zz σ H' s') (q:Q b H')
inductive AP (X:Cx) (Zz:List (kw×Obj)) (σ:St) (Q:List V->Hp->Prop) (us:List jp) (s':kt):Prop
 |mk (vs:List V) (H':Hp) (I:Inv X Zz σ H' s') (r:Vals vs us) (q:Q vs H')
inductive NP (X:Cx) (Zz:List (kw×Obj)) (Q:St->Hp->Prop) (s':kt):Prop
 |mk (σ':St) (H':Hp) (I:Inv X Zz σ' H' s') (q:Q σ' H')
inductive RP (X:Cx) (Zz:List (kw×Obj)) (Q:VK) (u:jp) (s':kt):Prop
 |mk (v:V) (σ':St) (H':Hp) (I:Inv X Zz σ' H' s') (r:RelV v u) (q:Q v H')
def SP(X:Cx)(Zz:List (kw×Obj))(D:Ends)(f:Flow)(s':kt):Prop :=
 match f with
 |.next=>NP X Zz D.nx s'
 |.brk=>NP X Zz D.bk s'
 |.cont=>NP X Zz D.ct s'
 |.ret u=>RP X Zz D.rt u s'
def PE(X:Cx)(e:Expr)(t:TE):Prop :=
 ∀(Zz:List (kw×Obj)) (s:kt) (σ:St) (H:Hp) (Q:VK),Inv X Zz σ H s->t σ H Q->wpAny (model X.prog X.w) X.A (eval e X.env) (EP X Zz σ Q) X.xe s
def PT(X:Cx)(e:Expr)(t:TT):Prop :=
 ∀(Zz:List (kw×Obj)) (s:kt) (σ:St) (H:Hp) (Q:Bool->Hp->Prop),Inv X Zz σ H s->t σ H Q->wpAny (model X.prog X.w) X.A (isTrue e X.env (eval e X.env)) (TP X Zz σ Q) X.xe s
def PW(X:Cx)(e:Expr)(t:TT):Prop :=
 ∀(whole:Sem jp) (Zz:List (kw×Obj)) (s:kt) (σ:St) (H:Hp) (Q:Bool->Hp->Prop),Inv X Zz σ H s->t σ H Q->wpAny (model X.prog X.w) X.A (isTrue e X.env whole) (TP X Zz σ Q) X.xe s
theorem PW.pt{X:Cx}{e:Expr}{t:TT}(h:PW X e t):PT X e t:=h _
def PA(X:Cx)(es:List Expr)(t:TA):Prop :=
 ∀(pos:Pos) (Zz:List (kw×Obj)) (s:kt) (σ:St) (H:Hp) (Q:List V->Hp->Prop),Inv X Zz σ H s->t σ H Q->wpAny (model X.prog X.w) X.A (spliced (backTo pos (starEach es X.env))) (AP X Zz σ Q) X.xe s
def PS(X:Cx)(st:Zy)(t:TS):Prop :=
 ∀(Zz:List (kw×Obj)) (s:kt) (σ:St) (H:Hp) (D:Ends),Inv X Zz σ H s->t D σ H->wpAny (model X.prog X.w) X.A (exec st X.env) (SP X Zz D) X.xe s
def c0(X:Cx)(st:List Zy)(t:TS):Prop :=
 ∀(Zz:List (kw×Obj)) (s:kt) (σ:St) (H:Hp) (D:Ends),Inv X Zz σ H s->t D σ H->wpAny (model X.prog X.w) X.A (execs st X.env) (SP X Zz D) X.xe s
theorem aQ{α:Type}{t:Sem α}{Q Q':α->kt->Prop}{M:Model}{A:Zx}{E:jp->kt->Prop}{s:kt}(h:wpAny M A t Q E s)(hQ:∀a s,Q a s->Q' a s):wpAny M A t Q' E s:=wpAny_mono h hQ fun _ _ x=>x
end L2
namespace L2
open PySem PySem.Spec PyProof.Rows
section
variable {X:Cx}
def qv(i:Nat):TE:=fun σ H Q=>∃v,σ[i]?=some (some v)/\Q v H
def tC(v:V):TE:=fun _ H Q=>Q v H
theorem pR{i:Nat}{x:Str}{pos:Pos}(hN:X.N[i]?=some x)(hv:GP X.env.scope x)(hd:(x==("__debug__":Str))=false:=by decide)(mU:(x==("__classdict__":Str))=false:=by decide):PE X (.Name x pos) (qv i):=by
 intro Zz s σ H Q I h;obtain⟨v,e,h⟩:=h;obtain⟨m,hn,hl⟩:=I.loc;obtain⟨u,r,l⟩:=hl i x v hN e hv;have fin:EP X Zz σ Q u s:=⟨v,H,I,r,h⟩;rcases l with ⟨hk,hm⟩|⟨hk,c,hc,JW⟩
 ·exact wpAny_Name (wpAny_loadName_local I.ok.kind hk hn hm fin) hd
 ·rcases hk with hk|hk
  ·exact wpAny_Name (wpAny_loadName_cell I.ok.kind hk hc JW fin) hd
  ·exact wpAny_Name (wpAny_loadName_free I.ok.kind hk hc JW fin mU) hd
theorem Nh{i j pos}:PE X (.Constant (.int i) j pos) (tC (.int i)):=fun _ _ _ H _ I h=>wpAny_Constant_int ⟨.int i,H,I.tok _,⟨_,rfl⟩,h⟩
theorem Ju{b j pos}:PE X (.Constant (.bool b) j pos) (tC (.bl b)):=fun _ _ _ H _ I h=>Constant_bool ⟨.bl b,H,I,rfl,h⟩
theorem Nf{j pos}:PE X (.Constant .none j pos) (tC .non):=fun _ _ _ H _ I h=>Constant_none ⟨.non,H,I,rfl,h⟩
theorem Nc{x j pos}:PE X (.Constant (.str x) j pos) (tC (.str x)):=fun _ _ _ H _ I h=>Calls.Constant_str ⟨.str x,H,I.tok _,⟨_,rfl⟩,h⟩
def Gl(X:Cx)(x:Str):Prop:=X.env.kindOf x=some .globalImplicit
theorem k6{E:jp->kt->Prop}{Zz:List (kw×Obj)}{s:kt}{σ:St}{H:Hp}{x:Str}{u:jp}{pos:Pos}{Q:jp->kt->Prop}(I:Inv X Zz σ H s)(hg:Gl X x)(hm:X.mg x=some u)(h:Q u s)
  (hd:(x==("__debug__":Str))=false:=by decide):wpAny (model X.prog X.w) X.A (eval (.Name x pos) X.env) Q E s :=
 Calls.Name_function_global I.ok.kind hg (Calls.loadGlobal_global (by rw[I.ok.glob];exact I.mod.glob.keeps I.bk) hm h) hd
theorem k7{E:jp->kt->Prop}{Zz:List (kw×Obj)}{s:kt}{σ:St}{H:Hp}{x:Str}{u:jp}{pos:Pos}{Q:jp->kt->Prop}(I:Inv X Zz σ H s)(hg:Gl X x)(hm:X.mg x=none)(hv:bootBuiltins x=some u)(h:Q u s)
  (hn:x≠"__name__":=by decide) (hd:(x==("__debug__":Str))=false:=by decide):wpAny (model X.prog X.w) X.A (eval (.Name x pos) X.env) Q E s:=by
 obtain⟨mb,h1,h2⟩:=I.mod.blt;exact Calls.Name_function_global I.ok.kind hg (Calls.loadGlobal_builtin (by rw[I.ok.glob];exact I.mod.glob.keeps I.bk) hm (by rw[I.ok.blt];exact h1.keeps I.bk) ((h2 x hn).trans hv) h) hd
theorem Bn{x:Str}{v:V}{u:jp}{pos:Pos}(hg:Gl X x)(hm:X.mg x=some u)(r:RelV v u)(hd:(x==("__debug__":Str))=false:=by decide):PE X (.Name x pos) (tC v) :=
 fun _ _ _ H _ I h=>k6 I hg hm ⟨v,H,I,r,h⟩ hd
theorem Bp{x:Str}{v:V}{u:jp}{pos:Pos}(hg:Gl X x)(hm:X.mg x=none)(hv:bootBuiltins x=some u)(r:RelV v u)(hn:x≠"__name__":=by decide)(hd:(x==("__debug__":Str))=false:=by decide):PE X (.Name x pos) (tC v) :=
 fun _ _ _ H _ I h=>k7 I hg hm hv ⟨v,H,I,r,h⟩ hn hd
variable {a b:Expr}{ta tb:TE}{pos:Pos}
variable {tA tB':TT}{rest:List Expr}
def Mu(t u:TT):TT:=fun σ H Q=>t σ H fun c H1=>if c=true then u σ H1 Q else Q false H1
def QZ(t u:TT):TT:=fun σ H Q=>t σ H fun c H1=>if c=true then Q true H1 else u σ H1 Q
def Mp(t:TT):TT:=fun σ H Q=>t σ H fun c H1=>Q (!c) H1
theorem qG(ha:PT X a tA):PW X (.BoolOp .And [a] pos) tA:=by
 intro wh Zz s σ H Q I h;refine isTrue_and (aQ (ha Zz s σ H Q I h) fun c s1 e=>?_);cases c with
 |true=>exact isTrue_and_nil e
 |false=>exact e
theorem uv(ha:PT X a tA):PW X (.BoolOp .Or [a] pos) tA:=by
 intro wh Zz s σ H Q I h;refine isTrue_or (aQ (ha Zz s σ H Q I h) fun c s1 e=>?_);cases c with
 |false=>exact isTrue_or_nil e
 |true=>exact e
theorem kP(ha:PT X a tA)(hb:PW X (.BoolOp .And (b::rest) pos) tB'):PW X (.BoolOp .And (a::b::rest) pos) (Mu tA tB'):=by
 intro wh Zz s σ H Q I h;refine isTrue_and (aQ (ha Zz s σ H _ I h) fun c s1 ⟨H1,I1,q1⟩=>?_);cases c with
 |true=>exact hb wh Zz s1 σ H1 Q I1 q1
 |false=>exact⟨H1,I1,q1⟩
theorem ny(ha:PT X a tA)(hb:PW X (.BoolOp .Or (b::rest) pos) tB'):PW X (.BoolOp .Or (a::b::rest) pos) (QZ tA tB'):=by
 intro wh Zz s σ H Q I h;refine isTrue_or (aQ (ha Zz s σ H _ I h) fun c s1 ⟨H1,I1,q1⟩=>?_);cases c with
 |true=>exact⟨H1,I1,q1⟩
 |false=>exact hb wh Zz s1 σ H1 Q I1 q1
theorem MU(ha:PT X a tA):PT X (.UnaryOp .Not a pos) (Mp tA):=by
 intro Zz s σ H Q I h;exact isTrue_not (aQ (ha Zz s σ H (fun c H1=>Q (!c) H1) I h) fun _ _ ⟨H1,I1,q1⟩=>⟨H1,I1,q1⟩)
def Jh(ta tb:TE):TE:=fun σ H Q=>ta σ H fun x H1=>∃c,x=.bl c/\if c=true then tb σ H1 Q else Q (.bl false) H1
def Mn(ta tb:TE):TE:=fun σ H Q=>ta σ H fun x H1=>∃c,x=.bl c/\if c=true then Q (.bl true) H1 else tb σ H1 Q
def Jd(ta:TE):TE:=fun σ H Q=>ta σ H fun x H1=>∃c,x=.bl c/\Q (.bl (!c)) H1
theorem uF{op}{t:TE}(h:PE X a t):PE X (.BoolOp op [a] pos) t:=fun Zz s σ H Q I hw=>BoolOp_one (h Zz s σ H Q I hw)
theorem pS(ha:PE X a ta)(hb:PE X (.BoolOp .And (b::rest) pos) tb):PE X (.BoolOp .And (a::b::rest) pos) (Jh ta tb):=by
 intro Zz s σ H Q I h;refine BoolOp_and (aQ (ha Zz s σ H _ I h) fun v s1 ⟨x,H1,I1,r1,q1⟩=>?_);obtain⟨c,rfl,q1⟩:=q1;cases r1;refine wpAny_truthy_bool ?_;cases c with
 |true=>exact hb Zz s1 σ H1 Q I1 q1
 |false=>exact⟨.bl false,H1,I1,rfl,q1⟩
theorem Jt(ha:PE X a ta)(hb:PE X (.BoolOp .Or (b::rest) pos) tb):PE X (.BoolOp .Or (a::b::rest) pos) (Mn ta tb):=by
 intro Zz s σ H Q I h;refine BoolOp_or (aQ (ha Zz s σ H _ I h) fun v s1 ⟨x,H1,I1,r1,q1⟩=>?_);obtain⟨c,rfl,q1⟩:=q1;cases r1;refine wpAny_truthy_bool ?_;cases c with
 |false=>exact hb Zz s1 σ H1 Q I1 q1
 |true=>exact⟨.bl true,H1,I1,rfl,q1⟩
theorem Fh(ha:PE X a ta):PE X (.UnaryOp .Not a pos) (Jd ta):=by
 intro Zz s σ H Q I h;refine UnaryOp_ (aQ (ha Zz s σ H _ I h) fun v s1 ⟨x,H1,I1,r1,q1⟩=>?_);obtain⟨c,rfl,q1⟩:=q1;cases r1;exact not_of (wpAny_truthy_bool ⟨.bl (!c),H1,I1,rfl,q1⟩)
def Q0(t:TT)(ta tb:TE):TE:=fun σ H Q=>t σ H fun c H1=>if c=true then ta σ H1 Q else tb σ H1 Q
theorem HA{c:Expr}(hc:PT X c tA)(ha:PE X a ta)(hb:PE X b tb):PE X (.IfExp c a b pos) (Q0 tA ta tb):=by
 intro Zz s σ H Q I h;refine wpAny_IfExp (aQ (hc Zz s σ H _ I h) fun d s1 ⟨H1,I1,q1⟩=>?_);cases d with
 |true=>exact ha Zz s1 σ H1 Q I1 q1
 |false=>exact hb Zz s1 σ H1 Q I1 q1
end
end L2
namespace L2
open PySem PySem.Spec PyProof.Rows
def aZ(K:Q_)(H:Hp)(a:kw)(xs:List V):Prop :=
 Rd H a (.lst xs) \/
  ∃(o:Obj) (its:Array jp) (n:Nat),K.lookup a=some o/\o.cls=.type "list"/\o.dict=none/\o.data=.seq its n/\its.size<=zg/\Vals xs its.toList
def de(K:Q_)(H:Hp)(a:kw)(xs:List V):Prop :=
 Rd H a (.tup xs) \/
  ∃(o:Obj) (its:Array jp) (n:Nat),K.lookup a=some o/\o.cls=.type "tuple"/\o.data=.seq its n/\its.size<=zg/\Vals xs its.toList/\o.dict=none/\o.slots=#[]
def T9:jp->Option V
 |.none=>some .non
 |.bool b=>some (.bl b)
 |.int i _=>some (.int i)
 |.str x _=>some (.str x)
 |.bytes b _=>some (.byt b)
 |.float b _=>some (.flt b)
 |.ref a=>some (.ref a)
 |.type n=>some (.ty n)
 |_=>none
theorem RelV.abs{x:V}{u:jp}(r:RelV x u):T9 u=some x:=by
 cases x with
 |non=>cases r;rfl
 |bl _=>cases r;rfl
 |int _=>obtain⟨t,rfl⟩:=r;rfl
 |str _=>obtain⟨t,rfl⟩:=r;rfl
 |byt _=>obtain⟨t,rfl⟩:=r;rfl
 |flt _=>obtain⟨t,rfl⟩:=r;rfl
 |ref _=>cases r;rfl
 |ty _=>cases r;rfl
theorem RelV.inj{x y:V}{u:jp}(r:RelV x u)(q:RelV y u):x=y:=Option.some.inj (r.abs.symm.trans q.abs)
theorem Vals.inj:∀{xs ys:List V} {us:List jp},Vals xs us->Vals ys us->xs=ys:=by
 intro xs;induction xs with
 |nil=>intro ys us h g;cases h;cases g;rfl
 |cons x xs ih=>intro ys us h g;cases h with|cons r t=>cases g with|cons r' t'=>rw[r.inj r',ih t t']
section
variable {X:Cx}{Zz:List (kw×Obj)}{σ:St}{H:Hp}{s:kt}{a:kw}{xs ys:List V}
theorem aZ.of{K:Q_}(h:H a=some (.lst xs)):aZ K H a xs:=.inl (.inl h)
inductive Ud (xs:List V) (h:Heap) (a:kw):Prop
 |mk (its:List jp) (r:Vals xs its) (p:PlainL h a its.toArray) (l:xs.length<=zg)
theorem Inv.list(I:Inv X Zz σ H s)(h:aZ X.K H a xs):Ud xs s.heap a:=by
 rcases h with h|⟨o,its,n,hk,hc,hd,hs,hz,r⟩
 ·obtain⟨z,its,n,r,e⟩:=h.ok I.ax
  exact⟨its,r,⟨_,n,e,rfl,rfl,rfl⟩,z⟩
 ·refine⟨its.toList,r,⟨o,n,I.kc a o hk,hc,hd,by simpa using hs⟩,?_⟩
  have e:=r.length;simp only[yt]at e;first|lia|omega
inductive Uc (xs:List V) (h:Heap) (a:kw):Prop
 |mk (its:List jp) (r:Vals xs its) (p:IsTup h a its.toArray) (l:xs.length<=zg)
theorem Inv.tuple(I:Inv X Zz σ H s)(h:de X.K H a xs):Uc xs s.heap a:=by
 rcases h with h|⟨o,its,n,hk,hc,hs,hz,r,_⟩
 ·obtain⟨z,its,r,p,_⟩:=h.ok I.ax
  exact⟨its,r,p,z⟩
 ·refine⟨its.toList,r,⟨o,I.kc a o hk,hc,n,by simpa using hs⟩,?_⟩
  have e:=r.length;simp only[yt]at e;first|lia|omega
theorem Inv.rD(I:Inv X Zz σ H s)(h:de X.K H a xs):∃o,s.heap.get? a=some o/\o.dict=none/\o.slots=#[]:=by
 rcases h with h|⟨o,its,n,hk,hc,hs,hz,r,hd⟩
 ·obtain⟨z,its,r,⟨o,e,_⟩,d⟩:=h.ok I.ax
  exact⟨o,e,d o e⟩
 ·exact⟨o,I.kc a o hk,hd⟩
theorem Inv.uQ(I:Inv X Zz σ H s)(h:aZ X.K H a xs)(h':aZ X.K H a ys):xs=ys:=by
 obtain⟨its,r,⟨o,n,e,_,_,d⟩,_⟩:=I.list h;obtain⟨its',r',⟨o',n',e',_,_,d'⟩,_⟩:=I.list h';rw[e]at e';cases e';rw[d]at d';injection d' with d1 _
 have:its=its':=by simpa using congrArg vT d1
 subst this;exact r.inj r'
theorem Inv.mx(I:Inv X Zz σ H s)(h:de X.K H a xs)(h':de X.K H a ys):xs=ys:=by
 obtain⟨its,r,⟨o,e,_,n,d⟩,_⟩:=I.tuple h;obtain⟨its',r',⟨o',e',_,n',d'⟩,_⟩:=I.tuple h';rw[e]at e';cases e';rw[d]at d';injection d' with d1 _
 have:its=its':=by simpa using congrArg vT d1
 subst this;exact r.inj r'
end
abbrev Cx.eG(X:Cx)(E:jp->kt->Prop):Cx:={ X with xe:=E }
abbrev Cx.dQ(X:Cx):Cx:=X.eG fun _ _=>False
theorem Cx.Ok.eG{X:Cx}(ok:X.Ok)(E:jp->kt->Prop):(X.eG E).Ok :=
 ⟨ok.mod,ok.kind,ok.glob,ok.blt,ok.above,ok.inj,ok.has,ok.Al,ok.hd,ok.frames,ok.A9,ok.J7,ok.bs,ok.oE,ok.oY,ok.q0,ok.gr,ok.sk⟩
theorem Cx.Ok.dJ{X:Cx}{E:jp->kt->Prop}(ok:(X.eG E).Ok):X.Ok :=
 ⟨ok.mod,ok.kind,ok.glob,ok.blt,ok.above,ok.inj,ok.has,ok.Al,ok.hd,ok.frames,ok.A9,ok.J7,ok.bs,ok.oE,ok.oY,ok.q0,ok.gr,ok.sk⟩
section
variable {X:Cx}{Zz:List (kw×Obj)}{σ:St}{H:Hp}{s:kt}{E:jp->kt->Prop}
theorem Inv.eG(I:Inv X Zz σ H s)(E:jp->kt->Prop):Inv (X.eG E) Zz σ H s:=⟨I.ok.eG E,I.os,I.bare,I.base,I.loc,I.cell,I.free,I.dF,I.pin,I.ax,I.len⟩
theorem Inv.dJ(I:Inv (X.eG E) Zz σ H s):Inv X Zz σ H s:=⟨I.ok.dJ,I.os,I.bare,I.base,I.loc,I.cell,I.free,I.dF,I.pin,I.ax,I.len⟩
theorem SP.dJ{D:Ends}{f:Flow}{s':kt}(h:SP (X.eG E) Zz D f s'):SP X Zz D f s':=by
 cases f with
 |next=>obtain⟨σ',H',I,q⟩:=h;exact⟨σ',H',I.dJ,q⟩
 |brk=>obtain⟨σ',H',I,q⟩:=h;exact⟨σ',H',I.dJ,q⟩
 |cont=>obtain⟨σ',H',I,q⟩:=h;exact⟨σ',H',I.dJ,q⟩
 |ret u=>obtain⟨v,σ',H',I,r,q⟩:=h;exact⟨v,σ',H',I.dJ,r,q⟩
theorem PT.dQ{e:Expr}{t:TT}(h:PT X.dQ e t):PT X e t:=fun Zz s σ H Q I hw =>
 wpAny_mono (h Zz s σ H Q (I.eG _) hw) (fun _ _ ⟨H',I',q⟩=>⟨H',I'.dJ,q⟩) fun _ _ z=>False.elim z
theorem c0.dQ{st:List Zy}{t:TS}(h:c0 X.dQ st t):c0 X st t:=fun Zz s σ H D I hw =>
 wpAny_mono (h Zz s σ H D (I.eG _) hw) (fun _ _ q=>q.dJ) fun _ _ z=>False.elim z
end
section
variable {X:Cx}{st:Zy}{rest:List Zy}{t u:TS}{e:Expr}{te:TE}{pos:Pos}
def Je:TS:=fun D σ H=>D.nx σ H
def G5(t u:TS):TS:=fun D σ H=>t { D with nx:=u D } σ H
theorem qJ:c0 X [] Je:=fun _ _ σ H _ I h=>wpAny_execs_nil ⟨σ,H,I,h⟩
theorem gZ(h1:PS X st t)(h2:c0 X rest u):c0 X (st::rest) (G5 t u):=by
 intro Zz s σ H D I h;refine wpAny_execs_cons (aQ (h1 Zz s σ H { D with nx:=u D } I h) fun f s1 q=>?_);cases f with
 |next =>
  obtain⟨σ',H',I',q⟩:=q;exact h2 Zz s1 σ' H' D I' q
 |ret v=>exact q
 |brk=>exact q
 |cont=>exact q
def Mr:TS:=fun D σ H=>D.bk σ H
def PQ:TS:=fun D σ H=>D.ct σ H
theorem La:PS X (.Pass pos) Je:=fun _ _ σ H _ I h=>wpAny_Pass ⟨σ,H,I,h⟩
theorem Hw:PS X (.Break pos) Mr:=fun _ _ σ H _ I h=>wpAny_Break ⟨σ,H,I,h⟩
theorem AN:PS X (.Continue pos) PQ:=fun _ _ σ H _ I h=>wpAny_Continue ⟨σ,H,I,h⟩
theorem Inv.quiet{Zz:List (kw×Obj)}{σ:St}{H:Hp}{s:kt}(I:Inv X Zz σ H s):interactive X.env=false:=by simp[interactive,I.ok.kind]
def Jf(te:TE):TS:=fun D σ H=>te σ H fun _ H1=>D.nx σ H1
theorem Bh(he:PE X e te)(hs:swapsWith e none pos.line X.env=pure false:=by rfl):PS X (.Expr e pos) (Jf te):=by
 intro Zz s σ H D I h;exact wpAny_Expr_any (aQ (he Zz s σ H _ I h) fun v s1 ⟨x,H1,I1,r1,q1⟩=>⟨σ,H1,I1,q1⟩) I.quiet hs
def Mm(te:TE):TS:=fun D σ H=>te σ H D.rt
theorem uA(he:PE X e te):PS X (.Return (some e) pos) (Mm te):=by
 intro Zz s σ H D I h;exact wpAny_Return_some (aQ (he Zz s σ H _ I h) fun v s1 ⟨x,H1,I1,r1,q1⟩=>⟨x,σ,H1,I1,r1,q1⟩)
def PN:TS:=fun D _ H=>D.rt .non H
theorem K9:PS X (.Return none pos) PN:=fun _ _ σ H _ I h=>wpAny_Return_none ⟨.non,σ,H,I,rfl,h⟩
def G6(c:TT)(t u:TS):TS:=fun D σ H=>c σ H fun b H1=>if b=true then t D σ H1 else u D σ H1
theorem Js{c:Expr}{a b:List Zy}{tc:TT}(hc:PT X c tc)(ha:c0 X a t)(hb:c0 X b u):PS X (.If c a b pos) (G6 tc t u):=by
 intro Zz s σ H D I h;refine wpAny_If (aQ (hc Zz s σ H _ I h) fun d s1 ⟨H1,I1,q1⟩=>?_);cases d with
 |true=>exact ha Zz s1 σ H1 D I1 q1
 |false=>exact hb Zz s1 σ H1 D I1 q1
end
abbrev TG:=V->St->Hp->(St->Hp->Prop)->Prop
abbrev Au:=List V->St->Hp->(St->Hp->Prop)->Prop
def PG(X:Cx)(target:Expr)(t:TG):Prop :=
 ∀(Zz:List (kw×Obj)) (s:kt) (σ:St) (H:Hp) (v:V) (u:jp) (Q:St->Hp->Prop),Inv X Zz σ H s->RelV v u->t v σ H Q ->
  wpAny (model X.prog X.w) X.A (assign target X.env u) (fun _ s'=>∃σ' H',Inv X Zz σ' H' s'/\Q σ' H') X.xe s
def Kg(X:Cx)(ts:List Expr)(t:Au):Prop :=
 ∀(Zz:List (kw×Obj)) (s:kt) (σ:St) (H:Hp) (vs:List V) (us:List jp) (Q:St->Hp->Prop),Inv X Zz σ H s->Vals vs us->t vs σ H Q ->
  wpAny (model X.prog X.w) X.A (assignInOrder ((assignEach ts X.env).map (·.2)) us) (fun _ s'=>∃σ' H',Inv X Zz σ' H' s'/\Q σ' H') X.xe s
abbrev Em:=V->V->V->Hp->(Hp->Prop)->Prop
def IW(X:Cx)(t:Em):Prop :=
 ∀(Zz:List (kw×Obj)) (s:kt) (σ:St) (H:Hp) (o i v:V) (ov iv u:jp) (Q:Hp->Prop),Inv X Zz σ H s->RelV o ov->RelV i iv->RelV v u->t o i v H Q ->
  wpAny (model X.prog X.w) X.A (setItem ov iv u) (fun _ s'=>∃H',Inv X Zz σ H' s'/\Q H') X.xe s
section
variable {X:Cx}{pos:Pos}
def iu(i:Nat):TG:=fun v σ H Q=>Q (σ.set i (some v)) H
theorem kS{i:Nat}{x:Str}(hN:X.N.Nodup)(hi:X.N[i]?=some x)(hx:Loc X.env.scope x)(hf:X.fn x=true\/X.env.scope.names.lookup x=some .local:=by first|exact .inl rfl|exact .inr rfl|assumption):PG X (.Name x pos) (iu i):=by
 intro Zz s σ H v u Q I r h;exact wpAny_assign_Name (oO I hN hi hx r (fun s' I'=>⟨_,H,I',h⟩) hf)
def OO:Au:=fun vs σ H Q=>vs=[]/\Q σ H
def D2(t:TG)(u:Au):Au:=fun vs σ H Q=>∃v r,vs=v::r/\t v σ H fun σ' H'=>u r σ' H' Q
theorem Lh:Kg X [] OO:=by
 intro Zz s σ H vs us Q I r h;obtain⟨e,h⟩:=h;subst e;cases r;exact assignInOrder_nil ⟨σ,H,I,h⟩
theorem uE{e:Expr}{es:List Expr}{t:TG}{u:Au}(h1:PG X e t)(h2:Kg X es u)
  (hs:(assignEach (e::es) X.env).map (·.2)=assign e X.env::(assignEach es X.env).map (·.2):=by rfl):Kg X (e::es) (D2 t u):=by
 intro Zz s σ H vs us Q I r h;obtain⟨v,vr,e1,h⟩:=h;subst e1;cases r with
 |cons r rr =>
  rw[hs];refine assignInOrder_cons (aQ (h1 Zz s σ H _ _ _ I r h) fun _ s1 ⟨σ1,H1,I1,q1⟩=>?_);exact h2 Zz s1 σ1 H1 _ _ Q I1 rr q1
def OL(K:Q_)(n:Nat)(t:Au):TG:=fun v σ H Q=>∃a xs,v=.ref a/\de K H a xs/\xs.length=n/\t xs σ H Q
theorem Na{es:List Expr}{k:Nat}{t:Au}{n:Nat}(hc:X.calm=true)(h:Kg X es t)
  (hn:(assignEach es X.env).length=n:=by rfl) (hst:(assignEach es X.env).findIdx? (·.1)=none:=by rfl):PG X (.Tuple es k pos) (OL X.K n t):=by
 intro Zz s σ H v u Q I r hw;obtain⟨a,xs,e1,hq,hl,hw⟩:=hw;subst e1;cases r;obtain⟨its,rv,ht,hz⟩:=I.tuple hq;refine assign_Tuple_tuple (I.ok.hd hc) ht (by simp[hn,<- hl,rv.length]) hst fun h' hx=>?_;have I1:Inv X Zz σ H { s with heap:=h' }:=I.kept (t':=s.toks) fun b o e=>hx b o (zd (zf e)) e;exact h Zz _ σ H xs _ Q I1 (by simpa using rv) hw
def OM(to ti:TE)(t:Em):TG:=fun v σ H Q=>to σ H fun o H1=>ti σ H1 fun i H2=>t o i v H2 fun H3=>Q σ H3
theorem Nb{o i:Expr}{to ti:TE}{t:Em}(ho:PE X o to)(hi:PE X i ti)(hs:IW X t)
  (ha:∀v,assign (.Subscript o i pos) X.env v=(do
   let ov<-holding [v] (eval o X.env)
   let iv<-holding [v,ov] (eval i X.env)
   standAt pos
   holding [v,ov,iv] (setItem ov iv v)
   release [v,ov,iv] []):=by intro _;rfl):PG X (.Subscript o i pos) (OM to ti t):=by
 intro Zz s σ H v u Q I r h;rw[ha];refine zy (wpAny_holding (aQ (ho Zz s σ H _ I h) fun ov s1 ⟨x,H1,I1,r1,q1⟩=>?_));refine zy (wpAny_holding (aQ (hi Zz s1 σ H1 _ I1 q1) fun iv s2 ⟨y,H2,I2,r2,q2⟩=>?_));refine zy (wpAny_standAt (zy (wpAny_holding (aQ (hs Zz s2 σ H2 x y v ov iv u _ I2 r1 r2 r q2) fun _ s3 ⟨H3,I3,q3⟩=>?_))));exact wpAny_release ⟨σ,H3,I3,q3⟩
def tT(te:TE)(g:TG):TS:=fun D σ H=>te σ H fun x H1=>g x σ H1 D.nx
theorem MV{tg e:Expr}{te:TE}{g:TG}(he:PE X e te)(hg:PG X tg g)(hs:swapsWithSole [tg] e pos.line X.env=pure false:=by rfl)(hw:swappedStores [tg] e X.env=pure none:=by rfl)
  (h1:(assignEach [tg] X.env).map (·.2)=[assign tg X.env]:=by rfl):PS X (.Assign [tg] e pos) (tT te g):=by
 intro Zz s σ H D I h;refine wpAny_Assign_stores (aQ (he Zz s σ H _ I h) fun v s1 ⟨x,H1,I1,r1,q1⟩=>?_) hs hw;rw[h1];exact aQ (hg Zz s1 σ H1 x v _ I1 r1 q1) fun _ s2 ⟨a,b,c,d⟩=>⟨a,b,c,d⟩
theorem ux{i:Nat}{x:Str}{e:Expr}{te:TE}{pos':Pos}(hN:X.N.Nodup)(hi:X.N[i]?=some x)(hx:Loc X.env.scope x)(he:PE X e te)(hs:swapsWith e (some (.Name x pos')) pos.line X.env=pure false:=by rfl)(hf:X.fn x=true\/X.env.scope.names.lookup x=some .local:=by first|exact .inl rfl|exact .inr rfl|assumption) :
  PS X (.Assign [.Name x pos'] e pos) (tT te (iu i)):=by
 intro Zz s σ H D I h;refine wpAny_Assign_Name (aQ (he Zz s σ H _ I h) fun v s1 ⟨y,H1,I1,r1,q1⟩=>?_) hs;exact oO I1 hN hi hx r1 (fun s2 I2=>⟨_,H1,I2,q1⟩) hf
end
section
variable {X:Cx}{pos:Pos}
def EC(c:TT)(tb:TS):TS:=fun D σ H=>∃W:Nat->St->Hp->Prop,(∃m,W m σ H)/\∀m σ H,W m σ H ->
 c σ H fun b H1=>if b=true then ∃N:St->Hp->Prop,(∀σ' H',N σ' H'->∃m',m'<m/\W m' σ' H')/\tb { D with nx:=N,ct:=N,bk:=D.nx } σ H1 else D.nx σ H1
theorem Hu{c:Expr}{body:List Zy}{tc:TT}{tb:TS}(hp:PassesOwn (model X.prog X.w) X.A X.env X.xe)(hc:PT X c tc)(hb:c0 X body tb):PS X (.While c body [] pos) (EC tc tb):=by
 intro Zz s σ H D I h;obtain⟨W,⟨m0,w0⟩,turn⟩:=h;refine wpAny_While (codeAny_whileLoop (fun n s'=>∃σ' H',Inv X Zz σ' H' s'/\W n σ' H') ?_ m0 ⟨σ,H,I,w0⟩);rintro n s1 ⟨σ1,H1,I1,w1⟩;refine wpAny_passesOwn hp (aQ (hc Zz s1 σ1 H1 _ I1 (turn n σ1 H1 w1)) fun b s2 ⟨H2,I2,q2⟩=>?_);cases b with
 |true =>
  obtain⟨N,hN,q2⟩:=q2;rw[if_pos rfl];refine wpAny_passesOwn hp (aQ (hb Zz s2 σ1 H2 _ I2 q2) fun f s3 q3=>?_);cases f with
  |next =>
   obtain⟨σ3,H3,I3,n3⟩:=q3;obtain⟨m',hm,w3⟩:=hN σ3 H3 n3;exact⟨m',hm,σ3,H3,I3,w3⟩
  |cont =>
   obtain⟨σ3,H3,I3,n3⟩:=q3;obtain⟨m',hm,w3⟩:=hN σ3 H3 n3;exact⟨m',hm,σ3,H3,I3,w3⟩
  |brk=>exact q3
  |ret v=>exact q3
 |false =>
  rw[if_neg zk];exact wpAny_execs_nil ⟨σ1,H2,I2,q2⟩
end
structure It where
 go:Nat->Hp->Prop
 kF:Nat->Hp->V->Hp->Prop
 stop:Nat->Hp->Prop
def iU(X:Cx)(Zz:List (kw×Obj))(H:Hp)(b:kw):Prop :=
 H b=none/\b≠X.env.locals/\b ∉ X.fs/\(b∈X.ex\/X.s₀.heap.objs.size<=b)/\(∀x c,X.env.cells.lookup x=some c->c≠b)/\∀p∈X.pn++Zz,p.1≠b
theorem Inv.lR{X:Cx}{Zz:List (kw×Obj)}{σ:St}{H H':Hp}{s:kt}{b:kw}(I:Inv X Zz σ H s)(hb:s.heap.objs.size<=b)(hn:H' b=none):iU X Zz H' b:=by
 refine⟨hn,yO (zB I.lt hb),I.Ts hb,.inr (zP I.sz hb),fun x c e z=>?_,fun p hp z=>?_⟩
 ·obtain⟨v,q⟩:=I.cell x c e
  exact absurd (zB q.lt (by rw[z];exact hb)) (yD _)
 ·exact absurd (zB (zf (I.pin p hp).1) (by rw[z];exact hb)) (yD _)
structure Turn (P:ul) (w:ut) (K:Q_) (tg:Expr) (J:It) (fp:List kw) (it:kw) (tn:Nat->Heap->Prop):Prop where
 mem:it∈fp
 obj:∀i h,tn i h->∀b∈fp,∃o,h.get? b=some o/\∀v,o.data≠.cell v
 keep:∀i h h',tn i h->(∀b∈fp,∀o,h.get? b=some o->h'.get? b=some o)->tn i h'
 item:∀(X:Cx),X.prog=P->X.w=w->X.K=K->X.calm=true->∀(i:Nat) (Zz:List (kw×Obj)) (s:kt) (σ:St) (H:Hp) (E:jp->kt->Prop),Inv X Zz σ H s->(∀b∈fp,iU X Zz H b)->tn i s.heap->J.go i H ->
  wpAny (model P w) X.A (pyNext (.ref it)) (fun r s1=>∃u,r=some u /\
   wpAny (model P w) X.A (letOwnedTupleGo tg (.ref it) u) (fun _ s2=>∃x H',Inv X Zz σ H' s2/\RelV x u/\J.kF i H x H'/\tn (i+1) s2.heap/\∀b∈fp,H' b=none) E s1) E s
 done:∀(X:Cx),X.prog=P->X.w=w->X.K=K->X.calm=true->∀(i:Nat) (Zz:List (kw×Obj)) (s:kt) (σ:St) (H:Hp) (E:jp->kt->Prop),Inv X Zz σ H s->(∀b∈fp,iU X Zz H b)->tn i s.heap->J.stop i H ->
  wpAny (model P w) X.A (pyNext (.ref it)) (fun r s1=>r=none/\Inv X Zz σ H s1) E s
 self:∀(A:Zx) (i:Nat) (s:kt) (Q:jp->kt->Prop) (E:jp->kt->Prop),tn i s.heap->Q (.ref it) s->wpAny (model P w) A (pyIter (.ref it)) Q E s
abbrev TI:=St->Hp->(It->Hp->Prop)->Prop
def SD(X:Cx)(Zz:List (kw×Obj))(σ:St)(tg:Expr)(R:It->Hp->Prop)(JE:jp)(s2:kt):Prop :=
 ∃(it:kw) (fp:List kw) (tn:Nat->Heap->Prop) (J:It) (H':Hp),JE=.ref it/\Inv X Zz σ H' s2/\Turn X.prog X.w X.K tg J fp it tn/\tn 0 s2.heap/\(∀b∈fp,iU X Zz H' b)/\R J H'
def PI(X:Cx)(tg iter:Expr)(wi:TI):Prop :=
 ∀(Zz:List (kw×Obj)) (s:kt) (σ:St) (H:Hp) (R:It->Hp->Prop),Inv X Zz σ H s->wi σ H R ->
  wpAny (model X.prog X.w) X.A (eval iter X.env) (fun v s1=>wpAny (model X.prog X.w) X.A (pyIter v) (SD X Zz σ tg R) X.xe s1) X.xe s
theorem sY{M:Model}{A:Zx}{E:jp->kt->Prop}{s:kt}{tg:Expr}{it:kw}{u:jp}{o:Obj}{n:String}{vs:Array jp}{Q:Unit->kt->Prop}(ho:s.heap.get? it=some o)(hc:o.cls=.type n)(hd:o.data=.fields vs)
  (hn:["enumerate","zip","dict_itemiterator","dict_reverseitemiterator","odict_iterator","itertools.zip_longest","itertools.pairwise"].contains n=false) (hQ:Q () s):wpAny M A (letOwnedTupleGo tg (.ref it) u) Q E s:=by
 unfold letOwnedTupleGo;cases tg <;> first
  |exact zt hQ
  | (cases u <;> first
    |exact zt hQ
    | (refine zy (wpAny_load ho ?_)
       rw[hc,hd];show wpAny M A (if (["enumerate","zip","dict_itemiterator","dict_reverseitemiterator","odict_iterator","itertools.zip_longest","itertools.pairwise"].contains n&&vs[0]?==some (rawInt _))=true then _ else _) Q E s;rw[if_neg (by intro h;rw[hn,xZ]at h;cases h)];exact zt hQ))
def SI(K:Q_)(a:kw):It :=
 ⟨fun i H=>∃xs x,aZ K H a xs/\xs[i]?=some x,fun i H x H'=>H'=H/\∀xs,aZ K H a xs->xs[i]?=some x,fun i H=>∃xs,aZ K H a xs/\xs.length<=i⟩
def SG(K:Q_)(a:kw):It :=
 ⟨fun i H=>∃xs x,de K H a xs/\xs[i]?=some x,fun i H x H'=>H'=H/\∀xs,de K H a xs->xs[i]?=some x,fun i H=>∃xs,de K H a xs/\xs.length<=i⟩
def GU(lo:Int)(n:Nat):It:=⟨fun i _=>i<n,fun i H x H'=>H'=H/\x=.int (lo+i),fun i _=>n<=i⟩
theorem Ez{P:ul}{w:ut}{K:Q_}{tg:Expr}(a it:kw):Turn P w K tg (SI K a) [it] it (fun i h=>h.IsListIter it a i) where
 mem:=by simp
 obj:=fun i h st b hb=>by
  have e:b=it:=by simpa using hb
  subst e;obtain⟨o,e,c,d⟩:=st;exact⟨o,e,fun v z=>by rw[d]at z;cases z⟩
 keep:=fun i h h' st k=>st.at fun o e=>k it (by simp) o e
 item:=by
  intro X hP hw hK hc i Zz s σ H E I hf st hg;subst hP hw hK;obtain⟨xs,x,hq,hx⟩:=hg;obtain⟨its,rv,p,hz⟩:=I.list hq;obtain⟨u,hu,ru⟩:=rv.get hx;obtain⟨f0,f1,f2,f3,f4,f5⟩:=hf it (by simp);refine wpAny_pyNext_list_item st p.isList (x:=u) (by simpa using hu) fun h' st' sb=>?_;have I1:Inv X Zz σ H { s with heap:=h' }:=I.turned (t':=s.toks) (fun b o hb e=>(sb.2 b hb).trans e) f0 f1 f3 f4 f5;obtain⟨o,e,c,d⟩:=id st';exact⟨u,rfl,sY (s:={ s with heap:=h' }) e c d (by decide) ⟨x,H,I1,ru,⟨rfl,fun ys hy=>by rw[I.uQ hy hq];exact hx⟩,st',fun b hb=>(hf b hb).1⟩⟩
 done:=by
  intro X hP hw hK hc i Zz s σ H E I hf st hg;subst hP hw hK;obtain⟨xs,hq,hx⟩:=hg;obtain⟨its,rv,p,hz⟩:=I.list hq;obtain⟨f0,f1,f2,f3,f4,f5⟩:=hf it (by simp);have hl:=rv.length;exact wpAny_pyNext_list_end (I.ok.hd hc) st p.isList (by simp;omega) fun h' eb=>⟨rfl,I.turned (t':=s.toks) (fun b o hb e=>eb b o hb e) f0 f1 f3 f4 f5⟩
 self:=fun _ _ _ _ _ st h=>wpAny_pyIter_listiter st h
theorem Cq{P:ul}{w:ut}{K:Q_}{tg:Expr}(a it:kw):Turn P w K tg (SG K a) [it] it (fun i h=>h.IsTupleIter it a i) where
 mem:=by simp
 obj:=fun i h st b hb=>by
  have e:b=it:=by simpa using hb
  subst e;obtain⟨o,e,c,d⟩:=st;exact⟨o,e,fun v z=>by rw[d]at z;cases z⟩
 keep:=fun i h h' st k=>st.at fun o e=>k it (by simp) o e
 item:=by
  intro X hP hw hK hc i Zz s σ H E I hf st hg;subst hP hw hK;obtain⟨xs,x,hq,hx⟩:=hg;obtain⟨its,rv,p,hz⟩:=I.tuple hq;obtain⟨u,hu,ru⟩:=rv.get hx;obtain⟨f0,f1,f2,f3,f4,f5⟩:=hf it (by simp);refine wpAny_pyNext_tuple_item st (show s.heap.IsTuple a its.toArray from p) (x:=u) (by simpa using hu) fun h' st' sb=>?_;have I1:Inv X Zz σ H { s with heap:=h' }:=I.turned (t':=s.toks) (fun b o hb e=>(sb.2 b hb).trans e) f0 f1 f3 f4 f5;obtain⟨o,e,c,d⟩:=id st';exact⟨u,rfl,sY (s:={ s with heap:=h' }) e c d (by decide) ⟨x,H,I1,ru,⟨rfl,fun ys hy=>by rw[I.mx hy hq];exact hx⟩,st',fun b hb=>(hf b hb).1⟩⟩
 done:=by
  intro X hP hw hK hc i Zz s σ H E I hf st hg;subst hP hw hK;obtain⟨xs,hq,hx⟩:=hg;obtain⟨its,rv,p,hz⟩:=I.tuple hq;obtain⟨f0,f1,f2,f3,f4,f5⟩:=hf it (by simp);have hl:=rv.length;exact wpAny_pyNext_tuple_end (I.ok.hd hc) st (show s.heap.IsTuple a its.toArray from p) (by simp;omega) fun h' eb=>⟨rfl,I.turned (t':=s.toks) (fun b o hb e=>eb b o hb e) f0 f1 f3 f4 f5⟩
 self:=fun _ _ _ _ _ st h=>wpAny_pyIter_tupleiter st h
theorem Cr{P:ul}{w:ut}{K:Q_}{tg:Expr}(it:kw)(lo:Int)(n:Nat):Turn P w K tg (GU lo n) [it] it (fun i h=>IsRangeIter h it (lo+(i:Nat)*1) ((n:Int)-(i:Nat)) 1) where
 mem:=by simp
 obj:=fun i h st b hb=>by
  have e:b=it:=by simpa using hb
  subst e;exact⟨_,st,fun v z=>by
   have z':Data.fields _=Data.cell v:=z;cases z'⟩
 keep:=fun i h h' st k=>k it (by simp) _ st
 item:=by
  intro X hP hw hK hc i Zz s σ H E I hf st hg;subst hP hw hK;obtain⟨f0,f1,f2,f3,f4,f5⟩:=hf it (by simp);have W:=Walks.range (prog:=X.prog) (w:=X.w) (I.ok.hd hc) it lo 1 n;refine W.item i s _ _ hg st fun v h' tk hv st' kk=>?_;obtain⟨t,rfl⟩:=hv;have I1:Inv X Zz σ H { s with heap:=h',toks:=tk }:=I.turned (fun b o hb e=>kk b o (by simpa using hb) e) f0 f1 f3 f4 f5;refine⟨_,rfl,sY (s:={ s with heap:=h',toks:=tk }) (n:="range_iterator") st' rfl rfl (by decide) ⟨.int (lo+i),H,I1,⟨t,?_⟩,⟨rfl,rfl⟩,st',fun b hb=>(hf b hb).1⟩⟩;rw[Int.mul_one]
 done:=by
  intro X hP hw hK hc i Zz s σ H E I hf st hg;subst hP hw hK;obtain⟨f0,f1,f2,f3,f4,f5⟩:=hf it (by simp);exact wpAny_pyNext_range_end (I.ok.hd hc) st (by have:n<=i:=hg;omega) fun h' eb=>⟨rfl,I.turned (t':=s.toks) (fun b o hb e=>eb b o hb e) f0 f1 f3 f4 f5⟩
 self:=fun _ _ _ _ _ st h=>wpAny_pyIter_rangeiter st h
end L2
namespace L2
open PySem PySem.Spec PyProof.Rows
section
variable {X:Cx}{tg:Expr}
theorem uj{Zz:List (kw×Obj)}{σ:St}{H:Hp}{s:kt}{R:It->Hp->Prop}{E:jp->kt->Prop}{lo hi:Int}{t u v:Tok}{tk:Nat}(I:Inv X Zz σ H s)(h1:-(2 ^ 62)<=lo)(h2:lo<2 ^ 62)(h3:-(2 ^ 62)<=hi)(h4:hi<2 ^ 62)
  (q:R (GU lo (hi-lo).toNat) H):wpAny (model X.prog X.w) X.A (pyIter (.ref s.heap.objs.size)) (SD X Zz σ tg R) E { s with heap:=s.heap.push { cls:=.type "range",data:=.fields #[.int lo t,.int hi u,.int 1 v] },toks:=tk }:=by
 refine wpAny_pyIter_range (IsRange.new ..) (small_one h1 h2 h3 h4) ?_;have I1:Inv X Zz σ H { s with heap:=s.heap.push { cls:=.type "range",data:=.fields #[.int lo t,.int hi u,.int 1 v] },toks:=tk }:=I.kept fun b o e=>zq _ e;refine⟨(s.heap.push { cls:=.type "range",data:=.fields #[.int lo t,.int hi u,.int 1 v] }).objs.size,[(s.heap.push { cls:=.type "range",data:=.fields #[.int lo t,.int hi u,.int 1 v] }).objs.size],_,_,H,rfl,
  I1.kept (t':=tk) fun b o e=>zq _ e,Cr _ lo (hi-lo).toNat,?_,fun b hb=>?_,q⟩
 ·have e1:lo+((0:Nat):Int)*1=lo:=by simp
  have e2:(((hi-lo).toNat:Nat):Int)-((0:Nat):Int)=Builtin.Range.rangeSize lo hi 1:=by rw[rangeSize_one];split <;> omega
  show IsRangeIter _ _ (lo+((0:Nat):Int)*1) ((((hi-lo).toNat:Nat):Int)-((0:Nat):Int)) 1;rw[e1,e2];exact zC _ rfl
 ·have e:b=(s.heap.push { cls:=.type "range",data:=.fields #[.int lo t,.int hi u,.int 1 v] }).objs.size:=by simpa using hb
  subst e;exact I1.lR (zp _) (I1.ax.fresh (zp _))
def JL(ta:TA):TI:=fun σ H R=>ta σ H fun vs H1=>∃j:Int,vs=[.int j]/\-(2 ^ 62)<=j/\j<2 ^ 62/\R (GU 0 j.toNat) H1
def JK(ta:TA):TI:=fun σ H R=>ta σ H fun vs H1=>∃i j:Int,vs=[.int i,.int j]/\(-(2 ^ 62)<=i/\i<2 ^ 62/\-(2 ^ 62)<=j/\j<2 ^ 62)/\R (GU i (j-i).toNat) H1
theorem Fc{a:Expr}{ta:TA}{p pos:Pos}(hg:Gl X "range")(hm:X.mg "range" = none)(ha:PA X [a] ta)(hs:starEach [a] X.env=[(false,eval a X.env)]:=by rfl):PI X tg (.Call (.Name "range" p) [a] [] pos) (JL ta):=by
 intro Zz s σ H R I h;refine Call_ (k7 I hg hm boot_range (X_ (aQ (ha pos Zz s σ H _ I h) fun us s1 ⟨vs,H1,I1,r1,q1⟩=>?_) hs rfl));obtain⟨j,e,q1,q2,q⟩:=q1;subst e;cases r1 with
 |cons r rr =>
  cases rr;obtain⟨t,rfl⟩:=r;exact call_range_1 (uj I1 (by first|lia|omega) (by first|lia|omega) q1 q2 (by simpa using q))
theorem Fb{a b:Expr}{ta:TA}{p pos:Pos}(hg:Gl X "range")(hm:X.mg "range" = none)(ha:PA X [a,b] ta)(hs:starEach [a,b] X.env=[(false,eval a X.env),(false,eval b X.env)]:=by rfl)(FQ:starEach [b] X.env=[(false,eval b X.env)]:=by rfl) :
  PI X tg (.Call (.Name "range" p) [a,b] [] pos) (JK ta):=by
 intro Zz s σ H R I h;refine Call_ (k7 I hg hm boot_range (X_ (aQ (ha pos Zz s σ H _ I h) fun us s1 ⟨vs,H1,I1,r1,q1⟩=>?_) (by rw[hs,FQ]) (by rw[FQ];rfl)));obtain⟨i,j,e,⟨q1,q2,q3,q4⟩,q⟩:=q1;subst e;cases r1 with
 |cons r rr =>
  cases rr with
  |cons r' rr =>
   cases rr;obtain⟨t,rfl⟩:=r;obtain⟨t',rfl⟩:=r';exact call_range_2 (uj I1 q1 q2 q3 q4 q)
def CB(wi:TI)(g:TG)(tb:TS):TS:=fun D σ H=>wi σ H fun J H1=>∃W:Nat->Nat->St->Hp->Prop,(∃m,W 0 m σ H1)/\∀i m σ H,W i m σ H ->
 (J.stop i H/\D.nx σ H)\/(J.go i H/\∃N:St->Hp->Prop,(∀σ' H',N σ' H'->∃m',m'<m/\W (i+1) m' σ' H')/\∀x H',J.kF i H x H'->g x σ H' fun σ2 H2=>tb { D with nx:=N,ct:=N,bk:=D.nx } σ2 H2)
def mF(fp:List kw)(h:Heap):List (kw×Obj):=fp.filterMap fun b=>(h.get? b).map fun o=>(b,o)
theorem i5{fp:List kw}{h:Heap}{b:kw}{o:Obj}(hb:b∈fp)(e:h.get? b=some o):(b,o)∈mF fp h:=wR.mpr ⟨b,hb,by rw[e];rfl⟩
theorem Fm{fp:List kw}{h:Heap}{p:kw×Obj}(hp:p∈mF fp h):p.1∈fp/\h.get? p.1=some p.2:=by
 obtain⟨b,hb,e⟩:=wR.mp hp;cases q:h.get? b with
 |none=>rw[q]at e;cases e
 |some o =>
  rw[q]at e;have e':(b,o)=p:=Option.some.inj e;subst e';exact⟨hb,q⟩
theorem Inv.pinned{Zz:List (kw×Obj)}{σ:St}{H:Hp}{s:kt}{fp:List kw}(I:Inv X Zz σ H s)(hf:∀b∈fp,iU X Zz H b)(ho:∀b∈fp,∃o,s.heap.get? b=some o/\∀v,o.data≠.cell v):Inv X (Zz++mF fp s.heap) σ H s :=
 I.qL fun p hp=>(zL.mp hp).elim (fun z=>I.pin p (zW _ z)) fun z=>by
  obtain⟨hb,e⟩:=Fm z;obtain⟨f0,f1,f2,_⟩:=hf p.1 hb;obtain⟨o,e',d⟩:=ho p.1 hb;rw[e]at e';cases e';exact⟨e,f0,f1,f2,d⟩
theorem Inv.gU{Zz pl:List (kw×Obj)}{σ:St}{H:Hp}{s:kt}(I:Inv X (Zz++pl) σ H s):Inv X Zz σ H s:=I.qL fun p hp=>I.pin p (zW _ (yo _ hp))
theorem uB{iter:Expr}{body:List Zy}{wi:TI}{g:TG}{tb:TS}{pos:Pos}(hp:PassesOwn (model X.prog X.w) X.A X.env X.xe)(hc:X.calm=true)(hi:PI X tg iter wi)(hg:PG X tg g)(hb:c0 X body tb)
  (hs:∀x,foldedSetIterable iter X.env x=pure x:=by intro _;rfl):PS X (.For tg iter body [] pos) (CB wi g tb):=by
 intro Zz s σ H D I h;refine wpAny_For (aQ (hi Zz s σ H _ I h) fun v s1 h1=>aQ h1 fun JE s2 h2=>?_) hs;obtain⟨it,fp,tn,J,H2,e,I2,T,st2,f2,W,⟨m0,w0⟩,turn⟩:=h2;subst e;have stat:∀{H':Hp},(∀b∈fp,H' b=none)->∀b∈fp,iU X Zz H' b:=fun hn b hb=>⟨hn b hb,(f2 b hb).2⟩;refine codeAny_forLoop_any (fun n s'=>∃i σ' H',Inv X Zz σ' H' s'/\tn i s'.heap/\(∀b∈fp,H' b=none)/\W i n σ' H') ?_ m0 ⟨0,σ,H2,I2,st2,fun b hb=>(f2 b hb).1,w0⟩;rintro n s3 ⟨i,σ3,H3,I3,Q2,Sn,w3⟩;rcases turn i n σ3 H3 w3 with ⟨stop,qn⟩|⟨go,N,hN,step⟩
 ·refine wpAny_passesOwn hp (aQ (T.done X rfl rfl rfl hc i Zz s3 σ3 H3 X.xe I3 (stat Sn) Q2 stop) fun r s4 ⟨hr,I4⟩=>?_)
  subst hr;exact wpAny_execs_nil ⟨σ3,H3,I4,qn⟩
 ·refine wpAny_passesOwn hp (aQ (T.item X rfl rfl rfl hc i Zz s3 σ3 H3 X.xe I3 (stat Sn) Q2 go) fun r s4 ⟨u,hr,h4⟩=>?_)
  subst hr;refine wpAny_passesOwn hp (aQ h4 fun _ s5 ⟨x,H5,I5,r5,y5,Mx,W6⟩=>?_);have I5':=I5.pinned (stat W6) (T.obj _ _ Mx);refine wpAny_passesOwn hp (aQ (hg _ s5 σ3 H5 x u _ I5' r5 (step x H5 y5)) fun _ s6 ⟨σ6,H6,I6,q6⟩=>?_);refine wpAny_passesOwn hp (aQ (hb _ s6 σ6 H6 _ I6 q6) fun f s7 q7=>?_);have again:∀{σ7:St} {H7:Hp},Inv X (Zz++mF fp s5.heap) σ7 H7 s7->N σ7 H7->∃m,m<n/\∃i σ' H',Inv X Zz σ' H' s7/\tn i s7.heap/\(∀b∈fp,H' b=none)/\W i m σ' H':=fun {σ7 H7} I7 n7=>by
   obtain⟨m',hm,w7⟩:=hN σ7 H7 n7;refine⟨m',hm,i+1,σ7,H7,I7.gU,T.keep _ _ _ Mx fun b hb o e=>(I7.pin (b,o) (zW _ (zW _ (i5 hb e)))).1,fun b hb=>?_,w7⟩;obtain⟨o,e,d⟩:=T.obj _ _ Mx b hb;exact(I7.pin (b,o) (zW _ (zW _ (i5 hb e)))).2.1
  cases f with
  |next=>obtain⟨σ7,H7,I7,n7⟩:=q7;exact again I7 n7
  |cont=>obtain⟨σ7,H7,I7,n7⟩:=q7;exact again I7 n7
  |brk=>obtain⟨σ7,H7,I7,q7⟩:=q7;exact⟨σ7,H7,I7.gU,q7⟩
  |ret v=>obtain⟨x7,σ7,H7,I7,r7,q7⟩:=q7;exact⟨x7,σ7,H7,I7.gU,r7,q7⟩
end
end L2
namespace L2
open PySem PySem.Spec PyProof.Rows
abbrev R2:=V->V->Hp->VK->Prop
def dg(X:Cx)(f:jp->jp->Sem jp)(r:R2):Prop :=
 ∀(Zz:List (kw×Obj)) (s:kt) (σ:St) (H:Hp) (x y:V) (v u:jp) (Q:VK),Inv X Zz σ H s->RelV x v->RelV y u->r x y H Q ->
  wpAny (model X.prog X.w) X.A (f v u) (EP X Zz σ Q) X.xe s
def O9(X:Cx)(f:jp->Sem jp)(r:V->Hp->VK->Prop):Prop :=
 ∀(Zz:List (kw×Obj)) (s:kt) (σ:St) (H:Hp) (x:V) (v:jp) (Q:VK),Inv X Zz σ H s->RelV x v->r x H Q ->
  wpAny (model X.prog X.w) X.A (f v) (EP X Zz σ Q) X.xe s
def dz(X:Cx)(f:jp)(r:List V->Hp->VK->Prop):Prop :=
 ∀(Zz:List (kw×Obj)) (s:kt) (σ:St) (H:Hp) (xs:List V) (us:List jp) (Q:VK),Inv X Zz σ H s->Vals xs us->r xs H Q ->
  wpAny (model X.prog X.w) X.A (call f us) (EP X Zz σ Q) X.xe s
def Pa(X:Cx)(r:V->Hp->(Bool->Hp->Prop)->Prop):Prop :=
 ∀(Zz:List (kw×Obj)) (s:kt) (σ:St) (H:Hp) (x:V) (v:jp) (Q:Bool->Hp->Prop),Inv X Zz σ H s->RelV x v->r x H Q ->
  wpAny (model X.prog X.w) X.A (truthy v) (TP X Zz σ Q) X.xe s
def ED(r:R2)(ta tb:TE):TE:=fun σ H Q=>ta σ H fun x H1=>tb σ H1 fun y H2=>r x y H2 Q
def QX(r:V->Hp->VK->Prop)(ta:TE):TE:=fun σ H Q=>ta σ H fun x H1=>r x H1 Q
def rI(C:Int->Int->Prop)(g:Int->Int->V):R2:=fun x y H Q=>∃i j,x=.int i/\y=.int j/\C i j/\Q (g i j) H
def rN(g:Int->Int->V):R2:=fun x y H Q=>∃i j,x=.int i/\y=.int j/\Q (g i j) H
def rU(g:Int->V):V->Hp->VK->Prop:=fun x H Q=>∃i,x=.int i/\Q (g i) H
section
variable {X:Cx}{a b c:Expr}{ta tb tc:TE}{pos:Pos}
theorem IG(ha:PE X a ta)(hb:PE X b tb){Zz:List (kw×Obj)}{s:kt}{σ:St}{H:Hp}{R:V->V->Hp->Prop}(I:Inv X Zz σ H s)
  (h:ta σ H fun x H1=>tb σ H1 fun y H2=>R x y H2) {Q:jp->kt->Prop} {f:jp->jp->Sem jp}
  (hf:∀v u s2 x y H2,Inv X Zz σ H2 s2->RelV x v->RelV y u->R x y H2->wpAny (model X.prog X.w) X.A (f v u) Q X.xe s2) :
  wpAny (model X.prog X.w) X.A (eval a X.env) (fun v s₁=>wpAny (model X.prog X.w) X.A (eval b X.env) (fun u s₂=>wpAny (model X.prog X.w) X.A (f v u) Q X.xe s₂) X.xe s₁) X.xe s:=by
 refine aQ (ha Zz s σ H _ I h) fun v s1 ⟨x,H1,I1,r1,q1⟩=>?_;refine aQ (hb Zz s1 σ H1 _ I1 q1) fun u s2 ⟨y,H2,I2,r2,q2⟩=>?_;exact hf v u s2 x y H2 I2 r1 r2 q2
theorem Qk{op:Operator}{r:R2}(ho:dg X (binaryOp op) r)(ha:PE X a ta)(hb:PE X b tb):PE X (.BinOp a op b pos) (ED r ta tb):=by
 intro Zz s σ H Q I h;exact wpAny_BinOp (IG ha hb I h fun v u s2 x y H2 I2 rx ry q=>ho Zz s2 σ H2 x y v u Q I2 rx ry q)
theorem Qj{op:UnaryOp}{r:V->Hp->VK->Prop}(ho:O9 X (unaryOp op) r)(ha:PE X a ta):PE X (.UnaryOp op a pos) (QX r ta):=by
 intro Zz s σ H Q I h;exact UnaryOp_ (aQ (ha Zz s σ H _ I h) fun v s1 ⟨x,H1,I1,r1,q1⟩=>ho Zz s1 σ H1 x v Q I1 r1 q1)
theorem Jw{f:jp->jp->Sem jp}{C:Int->Int->Prop}{g:Int->Int->Int}
  (rule:∀(i j:Int) (t u:Tok) (s:kt) (Q:jp->kt->Prop) (E:jp->kt->Prop),C i j->Q (.int (g i j) s.toks) { s with toks:=s.toks+1 }->wpAny (model X.prog X.w) X.A (f (.int i t) (.int j u)) Q E s) :
  dg X f (rI C fun i j=>.int (g i j)):=by
 intro Zz s σ H x y v u Q I rx ry h;obtain⟨i,j,rfl,rfl,hc,q⟩:=h;obtain⟨t,rfl⟩:=rx;obtain⟨t',rfl⟩:=ry;exact rule i j t t' s _ _ hc ⟨.int (g i j),H,I.tok _,⟨_,rfl⟩,q⟩
theorem Nv{f:jp->jp->Sem jp}{g:Int->Int->Int}
  (rule:∀(i j:Int) (t u:Tok) (s:kt) (Q:jp->kt->Prop) (E:jp->kt->Prop),Q (.int (g i j) s.toks) { s with toks:=s.toks+1 }->wpAny (model X.prog X.w) X.A (f (.int i t) (.int j u)) Q E s) :
  dg X f (rN fun i j=>.int (g i j)):=by
 intro Zz s σ H x y v u Q I rx ry h;obtain⟨i,j,rfl,rfl,q⟩:=h;obtain⟨t,rfl⟩:=rx;obtain⟨t',rfl⟩:=ry;exact rule i j t t' s _ _ ⟨.int (g i j),H,I.tok _,⟨_,rfl⟩,q⟩
theorem DF{f:jp->jp->Sem jp}{g:Int->Int->Bool}
  (rule:∀(i j:Int) (t u:Tok) (s:kt) (Q:jp->kt->Prop) (E:jp->kt->Prop),Q (.bool (g i j)) s->wpAny (model X.prog X.w) X.A (f (.int i t) (.int j u)) Q E s) :
  dg X f (rN fun i j=>.bl (g i j)):=by
 intro Zz s σ H x y v u Q I rx ry h;obtain⟨i,j,rfl,rfl,q⟩:=h;obtain⟨t,rfl⟩:=rx;obtain⟨t',rfl⟩:=ry;exact rule i j t t' s _ _ ⟨.bl (g i j),H,I,rfl,q⟩
def Ug(i j:Int):Prop:=0<j/\j<1073741824
def Ue(i j:Int):Prop:=0<=j/\j<=1000000/\i.natAbs<2 ^ 64
def IX(i j:Int):Prop:=(-(2 ^ 64)<i/\i<2 ^ 64)\/(-(2 ^ 64)<j/\j<2 ^ 64)
theorem IX.ok{i j:Int}(h:IX i j):IntMulOk i j:=by
 rcases h with ⟨h1,h2⟩|⟨h1,h2⟩
 ·exact .of_left (intBits_le_64 h1 h2)
 ·exact .of_right (intBits_le_64 h1 h2)
theorem Nu:dg X (binaryOp .Add) (rN fun i j=>.int (i+j)):=Nv fun _ _ _ _ _ _ _ q=>add_int q
theorem Nl:dg X (binaryOp .Sub) (rN fun i j=>.int (i-j)):=Nv fun _ _ _ _ _ _ _ q=>sub_int q
theorem Nn:dg X (binaryOp .Mult) (rI IX fun i j=>.int (i*j)):=Jw fun _ _ _ _ _ _ _ hc q=>mul_int q hc.ok
theorem Lk:dg X (binaryOp .FloorDiv) (rI Ug fun i j=>.int (i / j)):=Jw fun i j _ _ _ _ _ hc q=>by
 have h1:(0:Int)<j:=hc.1;have h2:j<1073741824:=hc.2;exact floordiv_int (by first|lia|omega) (by rw[Int.fdiv_eq_ediv_of_nonneg i (by first|lia|omega)];exact q) (.inl (PyProof.noPylong_small (by first|lia|omega)))
theorem Np:dg X (binaryOp .Mod) (rI (fun _ j=>0<j) fun i j=>.int (i % j)):=Jw fun i j _ _ _ _ _ hc q=>by
 have h1:(0:Int)<j:=hc;exact mod_int' (by first|lia|omega) (by rw[Int.fmod_eq_emod_of_nonneg i (by first|lia|omega)];exact q)
theorem Nm:dg X (binaryOp .Pow) (rI Ue fun i j=>.int (i ^ j.toNat)):=Jw fun _ _ _ _ _ _ _ hc q=>pow_int_small hc.1 hc.2.1 hc.2.2 q
theorem Vp{f:jp->Sem jp}{g:Int->Int}
  (rule:∀(i:Int) (t:Tok) (s:kt) (Q:jp->kt->Prop) (E:jp->kt->Prop),Q (.int (g i) s.toks) { s with toks:=s.toks+1 }->wpAny (model X.prog X.w) X.A (f (.int i t)) Q E s) :
  O9 X f (rU fun i=>.int (g i)):=by
 intro Zz s σ H x v Q I rx h;obtain⟨i,rfl,q⟩:=h;obtain⟨t,rfl⟩:=rx;exact rule i t s _ _ ⟨.int (g i),H,I.tok _,⟨_,rfl⟩,q⟩
theorem Mg:O9 X (unaryOp .USub) (rU fun i=>.int (-i)):=Vp fun _ _ _ _ _ q=>neg_int q
end
section
variable {X:Cx}{a b c:Expr}{ta tb tc:TE}{pos:Pos}
theorem lh{Zz:List (kw×Obj)}{σ:St}{H:Hp}{s:kt}{Q:VK}{k k':Bool}(I:Inv X Zz σ H s)(q:Q (.bl k) H)(e:k=k'):EP X Zz σ Q (.bool k') s:=by
 subst e;exact⟨.bl k,H,I,rfl,q⟩
theorem Qm:dg X (compareOp .Lt) (rN fun i j=>.bl (decide (i<j))):=DF fun _ _ _ _ _ _ _ q=>lt_int q
theorem Qn:dg X (compareOp .LtE) (rN fun i j=>.bl (decide (i<=j))):=DF fun _ _ _ _ _ _ _ q=>le_int q
theorem Qo:dg X (compareOp .Gt) (rN fun i j=>.bl (decide (j<i))):=DF fun _ _ _ _ _ _ _ q=>gt_int q
theorem Qp:dg X (compareOp .GtE) (rN fun i j=>.bl (decide (j<=i))):=DF fun _ _ _ _ _ _ _ q=>ge_int q
theorem Fi:dg X (compareOp .Lt) (fun x y H Q=>∃i j,x=.str i/\y=.str j/\Q (.bl (decide (i.cps.toList<j.cps.toList))) H):=by
 intro Zz s σ H x y v u Q I rx ry h;obtain⟨i,j,rfl,rfl,q⟩:=h;obtain⟨t,rfl⟩:=rx;obtain⟨t',rfl⟩:=ry;exact lt_str (lh I q rfl)
theorem Fj:dg X (compareOp .In) (fun x y H Q=>∃i j,x=.str i/\y=.str j/\Q (.bl (!(Builtin.Str.occurrences j i 0 j.length 1).isEmpty)) H):=by
 intro Zz s σ H x y v u Q I rx ry h;obtain⟨i,j,rfl,rfl,q⟩:=h;obtain⟨t,rfl⟩:=rx;obtain⟨t',rfl⟩:=ry;exact in_str (lh I q rfl)
theorem Nq:dg X (compareOp .Is) (fun x y H Q=>y=.non/\Q (.bl (decide (x=.non))) H):=by
 intro Zz s σ H x y v u Q I rx ry h;obtain⟨rfl,q⟩:=h;cases ry;refine is_none_gen (lh I q ?_);cases x <;> first
  | (cases rx;rfl)
  | (obtain⟨t,rfl⟩:=rx;rfl)
theorem Lj:dg X (compareOp .IsNot) (fun x y H Q=>y=.non/\Q (.bl (!decide (x=.non))) H):=by
 intro Zz s σ H x y v u Q I rx ry h;obtain⟨rfl,q⟩:=h;cases ry;refine isnot_none_gen (lh I q ?_);cases x <;> first
  | (cases rx;rfl)
  | (obtain⟨t,rfl⟩:=rx;rfl)
theorem uG:dg X (compareOp .NotIn) (fun x y H Q=>∃i j,x=.str i/\y=.str j/\Q (.bl (!(!(Builtin.Str.occurrences j i 0 j.length 1).isEmpty))) H):=by
 intro Zz s σ H x y v u Q I rx ry h;obtain⟨i,j,rfl,rfl,q⟩:=h;obtain⟨t,rfl⟩:=rx;obtain⟨t',rfl⟩:=ry;exact notIn_str (lh I q rfl)
theorem Li{op:CmpOp}{r:R2}(ho:dg X (compareOp op) r)(ha:PE X a ta)(hb:PE X b tb)(hm:behindInMarks op b=false):PE X (.Compare a [op] [b] pos) (ED r ta tb):=by
 intro Zz s σ H Q I h;exact wpAny_Compare1 (IG ha hb I h fun v u s2 x y H2 I2 rx ry q=>ho Zz s2 σ H2 x y v u Q I2 rx ry q) hm
def CA(t:TE):TT:=fun σ H Q=>t σ H fun x H'=>∃k,x=.bl k/\Q k H'
theorem K8{op:CmpOp}{r:R2}(ho:dg X (compareOp op) r)(ha:PE X a ta)(hb:PE X b tb)(hm:behindInMarks op b=false):PT X (.Compare a [op] [b] pos) (CA (ED r ta tb)):=by
 intro Zz s σ H Q I h;refine wpAny_isTrue_Compare1 (aQ (ha Zz s σ H _ I h) fun v s1 ⟨x,H1,I1,r1,q1⟩=>aQ (hb Zz s1 σ H1 _ I1 q1) fun u s2 ⟨y,H2,I2,r2,q2⟩ =>
  aQ (ho Zz s2 σ H2 x y v u _ I2 r1 r2 q2) fun c s3 ⟨z,H3,I3,r3,k,e,q3⟩=>?_) hm
 subst e;cases r3;exact wpAny_truthy_bool ⟨H3,I3,q3⟩
def tS(r r':R2)(ta tb tc:TE):TE:=fun σ H Q=>ta σ H fun x H1=>tb σ H1 fun y H2=>r x y H2 fun z H3=>∃k,z=.bl k /\
 (if k=true then tc σ H3 fun w' H4=>r' y w' H4 Q else Q (.bl false) H3)
theorem HD{op op':CmpOp}{r r':R2}(ho:dg X (compareOp op) r)(ho':dg X (compareOp op') r')(ha:PE X a ta)(hb:PE X b tb)(hc:PE X c tc)
  (hm:lastMarks [op,op'] [b,c]=false:=by with_unfolding_all rfl):PE X (.Compare a [op,op'] [b,c] pos) (tS r r' ta tb tc):=by
 intro Zz s σ H Q I h;refine Compare_chain (aQ (ha Zz s σ H _ I h) fun v s1 ⟨x,H1,I1,r1,q1⟩=>chain_link (aQ (hb Zz s1 σ H1 _ I1 q1) fun u s2 ⟨y,H2,I2,r2,q2⟩ =>
  aQ (ho Zz s2 σ H2 x y v u _ I2 r1 r2 q2) fun d s3 ⟨z,H3,I3,r3,k,e,q3⟩=>?_)) hm
 subst e;cases r3;refine wpAny_truthy_bool ?_;cases k with
 |false=>exact ite_ff ⟨.bl false,H3,I3,rfl,q3⟩
 |true=>exact ite_tt (chain_last (aQ (hc Zz s3 σ H3 _ I3 q3) fun w' s4 ⟨z',H4,I4,r4,q4⟩=>ho' Zz s4 σ H4 y z' u w' Q I4 r2 r4 q4))
theorem Ht{op op':CmpOp}{r r':R2}(ho:dg X (compareOp op) r)(ho':dg X (compareOp op') r')(ha:PE X a ta)(hb:PE X b tb)(hc:PE X c tc)
  (hm:lastMarks [op,op'] [b,c]=false:=by with_unfolding_all rfl):PT X (.Compare a [op,op'] [b,c] pos) (CA (tS r r' ta tb tc)):=by
 intro Zz s σ H Q I h;refine isTrue_chain (aQ (ha Zz s σ H _ I h) fun v s1 ⟨x,H1,I1,r1,q1⟩=>test_link (aQ (hb Zz s1 σ H1 _ I1 q1) fun u s2 ⟨y,H2,I2,r2,q2⟩ =>
  aQ (ho Zz s2 σ H2 x y v u _ I2 r1 r2 q2) fun d s3 ⟨z,H3,I3,r3,k,e,q3⟩=>?_)) hm
 subst e;cases r3;refine wpAny_truthy_bool ?_;cases k with
 |false =>
  obtain⟨k',e',q'⟩:=q3;cases e';exact ite_ff ⟨H3,I3,q'⟩
 |true =>
  refine ite_tt (test_last (aQ (hc Zz s3 σ H3 _ I3 q3) fun w' s4 ⟨z',H4,I4,r4,q4⟩=>aQ (ho' Zz s4 σ H4 y z' u w' _ I4 r2 r4 q4) fun d' s5 ⟨z2,H5,I5,r5,k2,e2,q5⟩=>?_));subst e2;cases r5;exact wpAny_truthy_bool ⟨H5,I5,q5⟩
def Ua(K:Q_)(x:V)(H:Hp)(k:Bool):Prop :=
 match x with
 |.non=>k=false
 |.bl b=>k=b
 |.int i=>k=(i != 0)
 |.str y=>y.length<=zg/\k=((y.length:Int) != 0)
 |.byt y=>y.size<=zg/\k=((y.size:Int) != 0)
 |.ref p=>(∃xs,aZ K H p xs/\k=!xs.isEmpty)\/(∃xs,de K H p xs/\k=!xs.isEmpty)\/∃kvs,H p=some (.dK kvs)/\k=!kvs.isEmpty
 |_=>False
theorem DV{κ:Type}{kvs:List (κ×V)}{vs:List (κ×jp)}(r:KV kvs vs):(!vs.isEmpty)=!kvs.isEmpty:=by
 cases r <;> rfl
theorem pY{xs:List V}{its:List jp}(r:Vals xs its):(!its.toArray.isEmpty)=!xs.isEmpty:=by
 cases r <;> simp
theorem jK:(zg:Nat)<2 ^ 63:=by rw[sizeLine_eq];decide
theorem Mh:Pa X (fun x H Q=>∃k,Ua X.K x H k/\Q k H):=by
 intro Zz s σ H x v Q I rx h;obtain⟨k,e,q⟩:=h;have hl:=jK;have hs:zg=16777216:=sizeLine_eq;cases x with
 |non =>
  cases rx;have e':k=false:=e;subst e';exact truthy_none ⟨H,I,q⟩
 |bl b =>
  cases rx;have e':k=b:=e;subst e';exact wpAny_truthy_bool ⟨H,I,q⟩
 |int i =>
  obtain⟨t,rfl⟩:=rx;have e':k=(i != 0):=e;subst e';exact PySem.P.truthy_int ⟨H,I,q⟩
 |str y =>
  obtain⟨t,rfl⟩:=rx;obtain⟨hy,e'⟩:y.length<=zg/\k=((y.length:Int) != 0):=e;subst e';exact PySem.P.truthy_str (by first|lia|omega) ⟨H,I.tok _,q⟩
 |byt y =>
  obtain⟨t,rfl⟩:=rx;obtain⟨hy,e'⟩:y.size<=zg/\k=((y.size:Int) != 0):=e;subst e';exact PySem.W.truthy_bytes (by first|lia|omega) ⟨H,I.tok _,q⟩
 |ref p =>
  cases rx;have e':(∃xs,aZ X.K H p xs/\k=!xs.isEmpty)\/(∃xs,de X.K H p xs/\k=!xs.isEmpty)\/∃kvs,H p=some (.dK kvs)/\k=!kvs.isEmpty:=e;rcases e' with ⟨xs,hx,e'⟩|⟨xs,hx,e'⟩|⟨kvs,hx,e'⟩
  ·subst e'
   obtain⟨its,r,pl,hz⟩:=I.list hx;have hlen:=r.length;exact wpAny_truthy_list pl.isList (by simp only[ze];omega) ⟨H,I.tok _,by rw[pY r];exact q⟩
  ·subst e'
   obtain⟨its,r,pl,hz⟩:=I.tuple hx;have hlen:=r.length;exact truthy_tuple pl (by simp only[ze];omega) ⟨H,I.tok _,by rw[pY r];exact q⟩
  ·subst e'
   obtain⟨hz,hS,vs,r,m⟩:kvs.length<=zg/\(p==sysModules)=false/\∃vs,KV kvs vs/\s.heap.DictOf (aK X.prog X.w) p vs:=I.ax p _ hx;have hlen:kvs.length=vs.length:=Paired.length r;exact wpAny_truthy_dict hS m (by first|lia|omega) ⟨H,I.tok _,by rw[DV r];exact q⟩
 |_=>exact(show False from e).elim
theorem DD:dg X (binaryOp .Add) (fun x y H Q=>∃i j,x=.str i/\y=.str j/\i.length+j.length<=zg/\Q (.str (i++j)) H):=by
 intro Zz s σ H x y v u Q I rx ry h;obtain⟨i,j,rfl,rfl,hz,q⟩:=h;obtain⟨t,rfl⟩:=rx;obtain⟨t',rfl⟩:=ry;exact add_str (fun t' tk=>⟨.str (i++j),H,I.tok _,⟨_,rfl⟩,q⟩) hz
inductive Xj (x:V) (us:List jp):Prop
 |mk (u:jp) (e:us=[u]) (r:RelV x u)
theorem vals1{x:V}{us:List jp}(r:Vals [x] us):Xj x us:=by
 cases r with
 |cons r1 r2=>cases r2;exact⟨_,rfl,r1⟩
inductive Xi (x y:V) (us:List jp):Prop
 |mk (u w':jp) (e:us=[u,w']) (r:RelV x u) (r2:RelV y w')
theorem vals2{x y:V}{us:List jp}(r:Vals [x,y] us):Xi x y us:=by
 cases r with
 |cons r1 r2 =>
  cases r2 with
  |cons r3 r4=>cases r4;exact⟨_,_,rfl,r1,r3⟩
end
end L2
namespace L2
open PySem PySem.Spec PyProof.Rows
section
variable {prog:ul}{w:ut}{A:Zx}{E:jp->kt->Prop}{s:kt}{K:Q_}{x dx C f:kw}{mA:Str->Option jp}{name:Str}{v:jp}
end
theorem iT.some_of{v:V}{o:Option jp}(r:iT (some v) o):∃u,o=some u/\RelV v u:=by
 cases o with
 |none=>exact(show False from r).elim
 |some u=>exact⟨u,rfl,r⟩
section
variable {P:ul}{w:ut}{H H':Hp}{h h':Heap}{a C dx:kw}{fs fs':List (Str×V)}
end
section
variable {X:Cx}{Zz:List (kw×Obj)}{σ:St}{H:Hp}{s:kt}{a C dx:kw}{fs:List (Str×V)}{f:Str}{v:V}{A:Zx}{E:jp->kt->Prop}
end
section
variable {X:Cx}{o e value:Expr}{f:Str}{pos pos' S8:Pos}{ta tv:TE}
end
section
variable {X:Cx}{Zz:List (kw×Obj)}{σ:St}{H:Hp}{s:kt}{A:Zx}{E:jp->kt->Prop}{Q:jp->kt->Prop}{c:jp}{b:Bool}
end
end L2
namespace L2
open PySem PySem.Spec PyProof.Rows
structure d8 (k:Nat) (A:Zx):Prop where
 hd:A.handled=none
 dp:A.depth+3*k+5<recursionLimit
 un:A.units+16*k+200<cLine
 gd:A.guards=some []
theorem d8.deeper{k:Nat}{A:Zx}(r:d8 (k+1) A)(env:Env):d8 k (A.deeper env) :=
 ⟨r.hd,by have:=r.dp;show A.depth+1+3*k+5<_;omega,by have:=r.un;show A.units+3+16*k+200<_;omega,r.gd⟩
theorem d8.depth{k:Nat}{A:Zx}(r:d8 k A):A.depth<recursionLimit:=by have:=r.dp;omega
def oM:TA:=fun _ H Q=>Q [] H
def ij(ta:TE)(tr:TA):TA:=fun σ H Q=>ta σ H fun x H1=>tr σ H1 fun xs H2=>Q (x::xs) H2
section
variable {X:Cx}{e:Expr}{es:List Expr}{te:TE}{t:TA}{pos:Pos}
theorem cN:PA X [] oM:=fun _ _ _ _ H Q I h=>Calls.spliced_nil ⟨[],H,I,.nil,h⟩
theorem a7(ha:PE X e te)(hr:PA X es t)(hs:starEach (e::es) X.env=(false,eval e X.env)::starEach es X.env:=by rfl):PA X (e::es) (ij te t):=by
 intro pos Zz s σ H Q I h;rw[hs];show wpAny _ _ (spliced ((false,eval e X.env)::backTo pos (starEach es X.env))) _ _ s;refine Calls.spliced_cons (aQ (ha Zz s σ H _ I h) fun u s1 ⟨x,H1,I1,r1,q1⟩=>?_);exact aQ (hr pos Zz s1 σ H1 _ I1 q1) fun us s2 ⟨xs,H2,I2,r2,q2⟩=>⟨x::xs,H2,I2,.cons r1 r2,q2⟩
def Ml(t:TA):TE:=fun σ H Q=>t σ H fun xs H1=>xs.length<=zg/\∀p,H1 p=none->Q (.ref p) (upd H1 p (.tup xs))
def Mq(t:TA):TE:=fun σ H Q=>t σ H fun xs H1=>xs.length<=zg/\∀p,H1 p=none->Q (.ref p) (upd H1 p (.lst xs))
theorem Fg{x1}(h:PA X es t):PE X (.Tuple es x1 pos) (Ml t):=by
 intro Zz s σ H Q I hq;refine wpAny_Tuple_spliced (aQ (h pos Zz s σ H _ I hq) fun us s1 ⟨xs,H1,I1,r,z,q⟩=>⟨by rw[<- r.length];exact z,?_⟩);have hf:H1 s1.heap.objs.size=none:=I1.ax.fresh (zp _);refine⟨.ref s1.heap.objs.size,upd H1 s1.heap.objs.size (.tup xs),I1.laid (t':=s1.toks) (fun b u e=>zq _ e) (zp _) ?_,rfl,q _ hf⟩;exact⟨z,us,r,pA.new _ _⟩
theorem Ng(h:PA X es t):PE X (.List es pos) (Mq t):=by
 intro Zz s σ H Q I hq;refine wpAny_List_spliced (aQ (h pos Zz s σ H _ I hq) fun us s1 ⟨xs,H1,I1,r,z,q⟩=>⟨by rw[<- r.length];exact z,?_⟩);have hf:H1 s1.heap.objs.size=none:=I1.ax.fresh (zp _);refine⟨.ref s1.heap.objs.size,upd H1 s1.heap.objs.size (.lst xs),I1.laid (t':=s1.toks) (fun b u e=>zq _ e) (zp _) ?_,rfl,q _ hf⟩;exact⟨z,us,0,r,zC _ rfl⟩
end
abbrev Sp:=List V->Hp->VK->XK->Prop
abbrev nt:=List Env->Hp->kt->XK->jp->kt->Prop
structure Eo (P:ul) (w:ut) (K:Q_) (mg:Str->Option jp) (base:Heap) (A:Zx) (outer:List Env) (s:kt) (H:Hp):Prop where
 frames:A.frames=some outer
 mod:Mod K mg base
 bs:∀b o,base.get? b=some o->s.heap.get? b=some o/\H b=none
 oE:base.objs.size<=s.heap.objs.size
 gr:s.heap.FunFrames base outer
 sk:∀b∈fV outer,H b=none
 ax:cA P w H s.heap
 bare:AllBare s.gens
def CE(outer:List Env)(P:ul)(w:ut)(H:Hp)(s:kt)(Q:VK)(u:jp)(s':kt):Prop :=
 ∃v H',s'.os=s.os/\AllBare s'.gens/\Un (fV outer) [] H H' s.heap s'.heap/\cA P w H' s'.heap/\RelV v u/\Q v H'
def CR(CX:nt)(outer:List Env)(P:ul)(w:ut)(H:Hp)(s:kt)(Q:VK)(E:XK)(r:Result)(s':kt):Prop :=
 match r with
 |.ok (.ret u)=>CE outer P w H s Q u s'
 |.ok _=>False
 |.error e=>CX outer H s E e s'
structure dD (P:ul) (w:ut) (K:Q_) (mg:Str->Option jp) (base:Heap) (CX:nt) (k:Nat) (f:kw) (fd:FuncData) (ps:List Str) (sp:Sp):Prop where
 len:∀vs H Q E,sp vs H Q E->vs.length=ps.length
 run:∀(A:Zx) (outer:List Env) (s:kt) (H:Hp) (args:Args) (us:List jp) (vs:List V) (Q:VK) (E:XK),d8 k A->Eo P w K mg base A outer s H->BindsTo s fd args (ps.zip us)->Vals vs us->sp vs H Q E ->
  codeAny (model P w) A (.call (.ref f) args) (CR CX outer P w H s Q E) s
section
variable {X:Cx}{Zz:List (kw×Obj)}{σ:St}{H:Hp}{s s':kt}
theorem Inv.OU(I:Inv X Zz σ H s):Eo X.prog X.w X.K X.mg X.base X.A X.stack s H :=
 ⟨I.ok.frames,I.ok.mod,I.bs,zP I.ok.oE I.sz,I.stack,I.qx,I.ax,I.bare⟩
theorem Inv.after{Q:VK}{u:jp}(I:Inv X Zz σ H s)(h:CE X.stack X.prog X.w H s Q u s'):EP X Zz σ Q u s':=by
 obtain⟨v,H',os,bare,un,ax,r,q⟩:=h;obtain⟨hh,g,d,t,os'⟩:=s';obtain rfl:os'=s.os:=os;exact⟨v,H',I.call (h':=hh) (g':=g) (d':=d) (t':=t) (ch:=[]) un ax bare (fun b z=>absurd z (by simp)),r,q⟩
end
def CD(sp:Sp)(sr:List V)(E:XK)(t:TA):TE:=fun σ H Q=>t σ H fun vs H1=>sp (vs++sr) H1 Q E
def Binds(K:Q_)(fd:FuncData)(ps:List Str)(ds:List jp):Prop :=
 ∀(s:kt) (us:List jp),K.In s.heap->(us++ds).length=ps.length->BindsTo s fd ⟨us,[]⟩ (ps.zip (us++ds))
theorem Binds.all{K:Q_}{fd:FuncData}{ps:List Str}(h:∀us:List jp,us.length=ps.length->bindArgs fd ⟨us,[]⟩=pure (ps.zip us)):Binds K fd ps []:=fun s us _ hl=>by
 rw[zO]at hl ⊢;exact .of_eq (h us hl)
def Passes(CX:nt)(X:Cx)(E:XK):Prop:=∀(Zz:List (kw×Obj)) (σ:St) (H:Hp) (s:kt) (e:jp) (s':kt),Inv X Zz σ H s->CX X.stack H s E e s'->X.xe e s'
section
variable {X:Cx}{CX:nt}{k:Nat}{f C:kw}{fd:FuncData}{ps:List Str}{sp:Sp}{sr:List V}{ds:List jp}{E:XK}{x m:Str}{p pos apos:Pos}{e o:Expr}{es:List Expr}{ta:TE}{t:TA}
theorem ML{Zz:List (kw×Obj)}{σ:St}{H:Hp}{s:kt}{Q:VK}{us:List jp}{vs:List V}(F:dD X.prog X.w X.K X.mg X.base CX k f fd ps sp)(hr:d8 k X.A)(hb:Binds X.K fd ps ds)(hd:Vals sr ds)(hx:Passes CX X E)
  (I:Inv X Zz σ H s) (r:Vals vs us) (h:sp (vs++sr) H Q E):wpAny (model X.prog X.w) X.A (call (.ref f) us) (EP X Zz σ Q) X.xe s:=by
 have r2:Vals (vs++sr) (us++ds):=r.append hd;have hl:(us++ds).length=ps.length:=by rw[<- r2.length];exact F.len _ _ _ _ h
 refine wpAny_call (codeAny_mono (F.run X.A X.stack s H ⟨us,[]⟩ (us++ds) (vs++sr) Q E hr I.OU (hb s us I.kc hl) r2 h) fun r s' hq=>?_);cases r with
 |error e=>exact hx Zz σ H s e s' I hq
 |ok fl =>
  cases fl with
  |ret u=>exact I.after hq
  |next=>exact False.elim hq
  |brk=>exact False.elim hq
  |cont=>exact False.elim hq
theorem qM(F:dD X.prog X.w X.K X.mg X.base CX k f fd ps sp)(hr:d8 k X.A)(hg:Gl X x)(hm:X.mg x=some (.ref f))(hk:Z0 X.K (.ref f)=true)(hb:Binds X.K fd ps ds)(hd:Vals sr ds)(hx:Passes CX X E)
  (ha:PA X (e::es) t) (F4:(x==("__debug__":Str))=false:=by decide) (he:starEach (e::es) X.env=(false,eval e X.env)::starEach es X.env:=by rfl) (ft:(backTo pos (starEach es X.env)).any (·.1)=false:=by rfl) :
  PE X (.Call (.Name x p) (e::es) [] pos) (CD sp sr E t):=by
 intro Zz s σ H Q I h;refine wpAny_Call_Name_kw (k6 I hg hm ?_ F4);refine Z6 (h₀:=X.base) I.ok.mod.JC hk (aQ (ha pos Zz s σ H _ I h) fun us s1 ⟨vs,H1,I1,r,q⟩=>⟨I1.kc,?_⟩) he ft;exact ML F hr hb hd hx I1 r q
end
section
variable {X:Cx}{CX:nt}{k:Nat}{f C:kw}{fd:FuncData}{ps ks:List Str}{sp:Sp}{E:XK}{x m:Str}{p pos apos YH:Pos}{e o:Expr}{es:List Expr}{Y3:List Keyword}{te ta:TE}{t tk:TA}{nm:Option Str}
variable {g:List jp->List jp->List jp}{gV:List V->List V->List V}
end
structure dk (N P:List Str) (sc:Scope):Prop where
 kind:sc.kind=.function
 co:sc.isCoroutine=false
 gen:sc.isGenerator=false
 nd:N.Nodup
 pre:N.take P.length=P
 par:∀x∈P,sc.names.lookup x=some .local\/sc.names.lookup x=some .cell
 NB:∀y∈sc.names,y.2≠.free
theorem sD{kindOf:Str->Option NameKind}{x:Str}:∀{binds:List (Str×jp)} {m:Str->Option jp},(∀v,(x,v) ∉ binds)->bindL kindOf binds m x=m x
 |[],_,_=>rfl
 | (n,v)::r,m,h=>by
  unfold bindL;rw[sD fun w hw=>h w (zI _ hw)];split
  ·have:x≠n:=by rintro rfl;exact h v zJ
   simp[this]
  ·rfl
theorem sG{kindOf:Str->Option NameKind}{x:Str}:∀{binds:List (Str×jp)} {m:Str->Option jp},(∀v,(x,v) ∉ binds)->bindC kindOf binds m x=m x
 |[],_,_=>rfl
 | (n,v)::r,m,h=>by
  unfold bindC;rw[sG fun w hw=>h w (zI _ hw)];split
  ·rfl
  ·have:x≠n:=by rintro rfl;exact h v zJ
   simp[this]
theorem sE{kindOf:Str->Option NameKind}{x:Str}{v:jp}:∀{P:List Str} {vs:List jp} {i:Nat} {m:Str->Option jp},P.Nodup->P[i]?=some x->vs[i]?=some v->kindOf x=some .local ->
  bindL kindOf (P.zip vs) m x=some v
 |[],_,_,_,_,h,_,_=>by simp at h
 |_::_,[],_,_,_,_,h,_=>by simp at h
 |p::P,w::vs,0,m,nd,h1,h2,hk=>by
  simp at h1 h2;subst h1;subst h2;show bindL kindOf ((p,w)::P.zip vs) m p=_;unfold bindL;rw[sD fun v hv=>(xx.mp nd).1 (wE hv).1,if_pos hk];simp
 |p::P,w::vs,i+1,m,nd,h1,h2,hk=>by
  show bindL kindOf ((p,w)::P.zip vs) m x=_;unfold bindL;exact sE (i:=i) (xx.mp nd).2 (by simpa using h1) (by simpa using h2) hk
theorem sH{kindOf:Str->Option NameKind}{x:Str}{v:jp}:∀{P:List Str} {vs:List jp} {i:Nat} {m:Str->Option jp},P.Nodup->P[i]?=some x->vs[i]?=some v->kindOf x≠some .local ->
  bindC kindOf (P.zip vs) m x=some v
 |[],_,_,_,_,h,_,_=>by simp at h
 |_::_,[],_,_,_,_,h,_=>by simp at h
 |p::P,w::vs,0,m,nd,h1,h2,hk=>by
  simp at h1 h2;subst h1;subst h2;show bindC kindOf ((p,w)::P.zip vs) m p=_;unfold bindC;rw[sG fun v hv=>(xx.mp nd).1 (wE hv).1,if_neg hk];simp
 |p::P,w::vs,i+1,m,nd,h1,h2,hk=>by
  show bindC kindOf ((p,w)::P.zip vs) m x=_;unfold bindC;exact sH (i:=i) (xx.mp nd).2 (by simpa using h1) (by simpa using h2) hk
def start(N:List Str)(vs:List V):St:=vs.map some++yq (N.length-vs.length) none
def fN(CX:nt)(P:ul)(w:ut)(K:Q_)(mg:Str->Option jp)(base:Heap)(N:List Str)(qual:Str)(scope:Scope)(f:kw)(cd:jp)(A:Zx)(outer:List Env)(s:kt)(H:Hp)(E:XK):Cx where
 prog:=P
 w:=w
 K:=K
 mg:=mg
 base:=base
 A:=A.deeper (envOfC qual scope s.heap.objs.size f cd)
 N:=N
 s₀:=s
 H₀:=H
 env:=envOfC qual scope s.heap.objs.size f cd
 outer:=outer
 stack:=envOfC qual scope s.heap.objs.size f cd::outer
 ex:=[]
 calm:=true
 fn:=fun _=>true
 pn:=[]
 xe:=fun e s'=>wpAny (model P w) (A.deeper (envOfC qual scope s.heap.objs.size f cd)) (leaving (envOfC qual scope s.heap.objs.size f cd) e) (fun _ s''=>CX outer H s E e s'') (fun e' s''=>CX outer H s E e' s'') s'
theorem Ae{sc:Scope}{n:Nat}{x:Str}(h:sc.names.lookup x=some .cell):∃c,(cellsFrom n sc.names []).lookup x=some c:=by
 have q:=Z7 sc.names n [] (.inl h);exact yw.mp q
theorem FK{CX:nt}{P:ul}{w:ut}{K:Q_}{mg:Str->Option jp}{base:Heap}{N ps:List Str}{qual:Str}{scope:Scope}{f:kw}{cd:jp}{A:Zx}{outer:List Env}{s s1:kt}{H:Hp}{E:XK}{us:List jp}{vs:List V}
  (S:dk N ps scope) (hd:A.handled=none) (e0:Eo P w K mg base A outer s H) (hl:vs.length=ps.length) (r:Vals vs us)
  (x:InCallC s s.heap.objs.size (bindL (envOfC qual scope s.heap.objs.size f cd).kindOf (ps.zip us) fun _=>none) (cellsFrom (s.heap.objs.size+1) scope.names []) (bindC (envOfC qual scope s.heap.objs.size f cd).kindOf (ps.zip us) fun _=>none) s1) :
  Inv (fN CX P w K mg base N qual scope f cd A outer s H E) [] (start N vs) H s1:=by
 have ft:ps.length<=N.length:=by have:=congrArg List.length S.pre;rw[zD]at this;omega
 obtain⟨h1,tk,rfl,hk⟩:=x.done;have noA:∀b:kw,b ∉ (fN CX P w K mg base N qual scope f cd A outer s H E).ex:=fun b z=>absurd (show b∈([]:List kw) from z) (by simp);refine⟨⟨e0.mod,S.kind,rfl,rfl,zp _,fun y z c h1 h2=>?_,fun y hy=>?_,fun y c _ h=>?_,fun _=>hd,Around.frames_deeper e0.frames,.inr ⟨rfl,rfl⟩,fun b z=>absurd z (noA b),e0.bs,e0.oE,fun b _ _=>noA b,fun b z=>absurd z (noA b),e0.gr,e0.sk⟩,
  rfl,e0.bare,Un.kept hk,⟨_,x.toInCall.ns,fun i y v h1 h2 h3=>?_⟩,fun y c h=>⟨_,x.cell y c h⟩,e0.ax.fresh (zp _),fun y c h=>?_,fun p hp=>absurd (show p∈([]:List (kw×Obj)) from hp) (by simp),e0.ax.kept hk,?_⟩
 ·exact name_of_addr x.apart (PySem.mem_of_lookup h1) (PySem.mem_of_lookup h2)
 ·have hy:scope.names.lookup y=some .cell\/scope.names.lookup y=some .free:=hy
  rcases hy with hy|hy
  ·exact Ae hy
  ·exact absurd rfl (S.NB _ (PySem.mem_of_lookup hy))
 ·exact xn (x.above y c (PySem.mem_of_lookup h))
 ·have hi:i<vs.length:=by
   unfold start at h2;by_cases hi:i<vs.length
   ·exact hi
   ·rw[zK (by simpa using hi)]at h2
    rw[xF]at h2;split at h2 <;> cases h2
  have ha:vs[i]?=some v:=by
   unfold start at h2;rw[zH (by simpa using hi),zw]at h2;cases e:vs[i]? with
   |none=>rw[e]at h2;cases h2
   |some a=>rw[e]at h2;cases h2;rfl
  obtain⟨u,hu,rv⟩:=r.get ha;have hp:ps[i]?=some y:=by
   rw[<- S.pre,List.getElem?_take_of_lt (by first|lia|omega)];exact h1
  have Rf:ps.Nodup:=by rw[<- S.pre];exact S.nd.sublist (wm _ _)
  refine⟨u,rv,?_⟩;rcases S.par y (zx hp) with k|k
  ·exact .inl ⟨k,sE Rf hp hu k⟩
  ·obtain⟨c,e⟩:=Ae (n:=s.heap.objs.size+1) k
   refine .inr ⟨.inl k,c,e,?_⟩;have q:=x.cell y c e;rw[sH Rf hp hu (by show scope.names.lookup y≠_;rw[k];decide)]at q;exact q
 ·exact e0.ax.fresh (xn (x.above y c (PySem.mem_of_lookup h)))
 ·unfold start
  show _=N.length;rw[zm,zz,yc];first|lia|omega
theorem J5{CX:nt}{P:ul}{w:ut}{K:Q_}{mg:Str->Option jp}{base:Heap}{k:Nat}{f:kw}{name qual:Str}{params:Arguments}{body:List Zy}{scope:Scope}{dV kV doc pm cdv ct oc:jp}{an od:Option kw}
  {mG:Array (Option jp)} {N ps:List Str} {sp:Sp} (lk:K.lookup f=some ⟨oc,od,.func (Z1 name qual params body scope dV kV doc pm an cdv ct),mG⟩) (mU:Z2 K cdv qual=true) (S:dk N ps scope)
  (len:∀vs H Q E,sp vs H Q E->vs.length=ps.length)
  (D1:∀(A:Zx) (outer:List Env) (s:kt) (H:Hp) (vs:List V) (Q:VK) (E:XK),d8 k (A.deeper (envOfC qual scope s.heap.objs.size f cdv))->sp vs H Q E ->
   ∃t,c0 (fN CX P w K mg base N qual scope f cdv A outer s H E) body t/\t { nx:=fun _ H'=>Q .non H',rt:=Q } (start N vs) H) :
  dD P w K mg base CX (k+1) f (Z1 name qual params body scope dV kV doc pm an cdv ct) ps sp:=by
 refine⟨len,fun A outer s H args us vs Q E hr e0 hb r hsp=>?_⟩;have hl:=len _ _ _ _ hsp;have KX:K.In s.heap:=e0.mod.JC.keeps fun b o e=>(e0.bs b o e).1;have lim:s.heap.NoLimit:=e0.mod.nolimit.keeps fun b o e=>(e0.bs b o e).1;have QE:∀y∈ps.zip us,scope.names.lookup y.1=some .local\/(scope.names.lookup y.1=some .cell/\((cellsFrom (s.heap.objs.size+1) scope.names []).lookup y.1).isSome=true):=fun ⟨n,v⟩ hy=>by
  rcases S.par n (wE hy).1 with q|q
  ·exact .inl q
  ·exact .inr ⟨q,Z7 _ _ _ (.inl q)⟩
 refine codeAny_call_function hr.depth (KX _ _ lk) rfl S.co S.gen rfl (PySem.W.codeRec_of KX mU) (hb _ _ _ _ ?_);refine wpAny_newFunctionEnv_cells S.kind QE fun env he s1 x=>?_;subst he;refine⟨lim.keeps x.toInCall.keep,codeAny_func ?_⟩;obtain⟨t,ht,hq⟩:=D1 A outer s H vs Q E (hr.deeper _) hsp;have I:Inv (fN CX P w K mg base N qual scope f cdv A outer s H E) [] (start N vs) H s1:=FK S hr.hd e0 hl r x;refine wpAny_mono (ht [] s1 (start N vs) H _ I hq) (fun fl s' hs=>?_) fun e s' hs=>hs;have fin:∀{σ':St} {H':Hp} {v:V} {u:jp},Inv (fN CX P w K mg base N qual scope f cdv A outer s H E) [] σ' H' s'->RelV v u->Q v H'->CE outer P w H s Q u s' :=
  fun {σ' H' v u} J rv q=>⟨v,H',J.os,J.bare,J.base,J.ax,rv,q⟩
 cases fl with
 |ret u =>
  obtain⟨v,σ',H',J,rv,q⟩:=hs;exact fin J rv q
 |next =>
  obtain⟨σ',H',J,q⟩:=hs;exact fin (v:=V.non) (u:=Value.none) J rfl q
 |brk =>
  obtain⟨_,_,_,q⟩:=hs;exact False.elim q
 |cont =>
  obtain⟨_,_,_,q⟩:=hs;exact False.elim q
end L2
namespace L2
open PySem PySem.Spec PyProof.Rows
section
variable {X:Cx}{x:Str}{p pos:Pos}{e:Expr}{es:List Expr}{t:TA}{id T:String}{r:List V->Hp->VK->Prop}
def Jg(r:List V->Hp->VK->Prop)(t:TA):TE:=fun σ H Q=>t σ H fun vs H1=>r vs H1 Q
theorem eK(hc:dz X (.builtin id) r)(hg:Gl X x)(hm:X.mg x=none)(hv:bootBuiltins x=some (.builtin id))(ha:PA X (e::es) t)(hn:x≠"__name__":=by decide)(F4:(x==("__debug__":Str))=false:=by decide)
  (he:starEach (e::es) X.env=(false,eval e X.env)::starEach es X.env:=by rfl) (ft:(backTo pos (starEach es X.env)).any (·.1)=false:=by rfl):PE X (.Call (.Name x p) (e::es) [] pos) (Jg r t):=by
 intro Zz s σ H Q I h;refine wpAny_Call_Name_kw (k7 I hg hm hv ?_ hn F4);exact PyProof.Rows.callWith_builtin1 (aQ (ha pos Zz s σ H _ I h) fun us s1 ⟨vs,H1,I1,r1,q1⟩=>hc Zz s1 σ H1 vs us Q I1 r1 q1) he ft
theorem j8(hc:dz X (.type T) r)(hg:Gl X x)(hm:X.mg x=none)(hv:bootBuiltins x=some (.type T))(ha:PA X (e::es) t)(hn:x≠"__name__":=by decide)(F4:(x==("__debug__":Str))=false:=by decide)
  (he:starEach (e::es) X.env=(false,eval e X.env)::starEach es X.env:=by rfl) (ft:(backTo pos (starEach es X.env)).any (·.1)=false:=by rfl):PE X (.Call (.Name x p) (e::es) [] pos) (Jg r t):=by
 intro Zz s σ H Q I h;refine wpAny_Call_Name_kw (k7 I hg hm hv ?_ hn F4);exact X_ (aQ (ha pos Zz s σ H _ I h) fun us s1 ⟨vs,H1,I1,r1,q1⟩=>hc Zz s1 σ H1 vs us Q I1 r1 q1) he ft
end
end L2
namespace HT
open PySem PyProof.Rows
section
open PySem.SeqAt
open PySem.AutoSeq1 (wpAny_loadPart')
open PySem.MeetsSeq PySem.MeetsSeq2 PySem.MeetsSeq3
end
section
variable {prog:ul}{w:ut}{A:Zx}{E:jp->kt->Prop}{s:kt}
theorem LW{t b:kw}{vs ws:List jp}{Q:jp->kt->Prop}(ht:IsTup s.heap t vs.toArray)(hb:IsTup s.heap b ws.toArray)(hv:vs≠[])
  (h1:ws=[]->Q (.ref t) s) (h2:ws≠[]->Q (.ref s.heap.objs.size) { s with heap:=s.heap.push { cls:=.type "tuple",data:=.seq (vs++ws).toArray } })
  (hsz:vs.length+ws.length<=zg):wpAny (model prog w) A (binaryOp .Add (.ref t) (.ref b)) Q E s:=by
 obtain⟨⟨cls,dd,data,sl⟩,ho,hc,n,hd⟩:=id ht;obtain⟨⟨T6,Ka,data2,Jj⟩,mR,jQ,n2,hd2⟩:=id hb;simp only at hc hd jQ hd2;subst hc hd jQ hd2;have e:vs.toArray++ws.toArray=(vs++ws).toArray:=by simp
 by_cases hw:ws=[]
 ·exact concat_meets ⟨_,ho,rfl⟩ ⟨_,mR,rfl⟩ noFill_tuple_add seq_tuple_add PySem.F.slot_tuple_add PySem.F.entry_tuple_add (PySem.F.args_tuple_add_2 _ _)
   (tuple_addW1 t b vs.toArray ws.toArray n n2 dd Ka sl Jj (by simpa using hv) (by simp[hw])) ⟨ho,mR,h1 hw⟩
 ·refine concat_meets ⟨_,ho,rfl⟩ ⟨_,mR,rfl⟩ noFill_tuple_add seq_tuple_add PySem.F.slot_tuple_add PySem.F.entry_tuple_add (PySem.F.args_tuple_add_2 _ _)
   (tuple_addW2 t b vs.toArray ws.toArray n n2 dd Ka sl Jj (by simpa using hv) (by simpa using hw) (by rw[ze,ze];exact hsz)) ⟨ho,mR,?_⟩
  rw[e];exact h2 hw
def bf(n d:Nat):Option Int->Nat
 |none=>d
 |some v=>if v<0 then (v+(n:Int)).toNat else min v.toNat n
theorem MG(n d:Nat)(hd:d<=n)(o:Option Int):bf n d o<=n:=by
 cases o with
 |none=>exact hd
 |some v =>
  show (if v<0 then (v+(n:Int)).toNat else min v.toNat n)<=n;by_cases hv:v<0
  ·rw[if_pos hv];omega
  ·rw[if_neg hv];exact wk _ _
theorem B6(v:Int)(n d:Nat):(if v<0 then max (v+(n:Int)) 0 else min v (n:Int))=((bf n d (some v):Nat):Int):=by
 show (if v<0 then max (v+(n:Int)) 0 else min v (n:Int))=(((if v<0 then (v+(n:Int)).toNat else min v.toNat n):Nat):Int);by_cases hv:v<0
 ·simp only[if_pos hv];omega
 ·simp only[if_neg hv];omega
theorem El(lo hi:Option Int)(n:Nat):Builtin.Slice.sliceAdjust lo hi 1 (n:Int)=(((bf n 0 lo:Nat):Int),((bf n n hi:Nat):Int)):=by
 have h1:¬ ((1:Int)<0):=by first|lia|omega
 unfold Builtin.Slice.sliceAdjust;simp only[h1,if_false];refine Prod.ext ?_ ?_
 ·cases lo with
  |none=>rfl
  |some v=>exact B6 v n 0
 ·cases hi with
  |none=>rfl
  |some v=>exact B6 v n n
theorem DA(i j:Nat):Builtin.Slice.slicePlaces (i:Int) (j:Int) 1=j-i:=by
 unfold Builtin.Slice.slicePlaces;have h1:(1:Int) > 0:=by first|lia|omega
 simp only[h1,if_true,vU];split <;> omega
theorem pO{v:jp}{o:Option Int}{Q:Option Int->kt->Prop}(p:IsPart v o)(h:Q o s):wpAny (model prog w) A (Builtin.Slice.slicePartIndex v) Q E s:=by
 cases p with
 |none=>exact slicePart_none h
 |int i t=>exact slicePart_int h
theorem jC{sl:kw}{vl vu:jp}{lo hi:Option Int}{n:Nat}{Q:Int×Int×Nat->kt->Prop}(hs:s.heap.IsSliceOf sl vl vu .none)(pl:IsPart vl lo)(pu:IsPart vu hi)
  (h:Q (((bf n 0 lo:Nat):Int),1,bf n n hi-bf n 0 lo) s):wpAny (model prog w) A (Builtin.Slice.sliceApplied (.ref sl) (pure (n:Int))) Q E s:=by
 obtain⟨os,u4,JV,F3⟩:=id hs;unfold Builtin.Slice.sliceApplied Builtin.Slice.sliceFields;refine zy (zy (wpAny_field u4 F3 (x:=vl) rfl (zy (wpAny_field u4 F3 (x:=vu) rfl (zy (wpAny_field u4 F3 (x:=.none) rfl (zt ?_)))))));refine zy (slicePart_none ?_);show wpAny _ _ (if ((1:Int)==0)=true then _ else _) _ _ s;rw[if_neg (by decide)];refine zy (pO pl (zy (pO pu (zy (zt ?_)))));show wpAny _ _ (match Builtin.Slice.sliceAdjust lo hi 1 (n:Int) with|(lo,hi)=>pure (lo,(1:Int),Builtin.Slice.slicePlaces lo hi 1)) _ _ s;rw[El lo hi n];show wpAny _ _ (pure (((bf n 0 lo:Nat):Int),(1:Int),Builtin.Slice.slicePlaces ((bf n 0 lo:Nat):Int) ((bf n n hi:Nat):Int) 1)) _ _ s;rw[DA];exact zt h
theorem Hy(xs:Array jp)(i k:Nat):((List.range k).filterMap fun (m:Nat)=>xs[((i:Int)+(m:Int)*1).toNat]?).toArray=((xs.toList.drop i).take k).toArray:=by
 have e:(fun (m:Nat)=>xs[((i:Int)+(m:Int)*1).toNat]?)=fun m=>xs[i+m]?:=by
  funext m
  have:((i:Int)+(m:Int)*1).toNat=i+m:=by first|lia|omega
  rw[this]
 rw[e]
 have:=pick_run xs i k
 rw[wy]at this;have e2:((fun x=>xs[x]?) ∘ fun x=>i+x)=fun m=>xs[i+m]?:=rfl;rw[e2]at this;rw[this]
theorem oh{t sl:kw}{items:Array jp}{vl vu:jp}{lo hi:Option Int}{Q:jp->kt->Prop}(ht:IsTup s.heap t items)(hs:s.heap.IsSliceOf sl vl vu .none)(pl:IsPart vl lo)(pu:IsPart vu hi)
  (hw:¬ (bf items.size 0 lo=0/\bf items.size items.size hi=items.size))
  (h:Q (.ref s.heap.objs.size) { s with heap:=s.heap.push { cls:=.type "tuple",data:=.seq ((items.toList.drop (bf items.size 0 lo)).take (bf items.size items.size hi-bf items.size 0 lo)).toArray } })
  (hsz:items.size<=zg):wpAny (model prog w) A (getItem (.ref t) (.ref sl)) Q E s:=by
 have sX:sizeOk (.seq ((items.toList.drop (bf items.size 0 lo)).take (bf items.size items.size hi-bf items.size 0 lo)).toArray):=by
  show ((items.toList.drop (bf items.size 0 lo)).take (bf items.size items.size hi-bf items.size 0 lo)).toArray.size<=zg;rw[ze,zD,yh,yt];first|lia|omega
 have hj:bf items.size items.size hi<=items.size:=MG _ _ (zp _) hi;obtain⟨os,u4,JV,F3⟩:=id hs;have F9:s.TypeIs (.ref sl) "slice":=⟨os,u4,JV⟩;unfold getItem
 try with_reducible refine wpAny_holding ?_
 first|refine zy (zt ?_)|skip
 refine zy (wpAny_sequenceKey ht.typeIs (by decide) ?_);refine zy (wpAny_callSpecial?_slot (name:=Str.ofString "__getitem__") ht.typeIs K_
  (wpAny_call_entry K_ ht.typeIs entry_tuple_getitem ?_ (args_tuple_getitem _ _)))
 show wpAny _ _ (Builtin.Tuple.tupleItemsOf (.ref t) >>= _) _ _ s;refine zy (tupleItemsOf_ ht ?_);refine zy (wpAny_typeOf F9 ?_);rw[if_pos (by decide)];refine zy (jC hs pl pu ?_);have kg:¬ ((((bf items.size 0 lo:Nat):Int)==0&&(1:Int)==1&&(bf items.size items.size hi-bf items.size 0 lo)==items.size)=true):=by
  intro q;rw[zl,zl]at q;have q1:((bf items.size 0 lo:Nat):Int)=0:=eq_of_beq q.1.1;have q2:bf items.size items.size hi-bf items.size 0 lo=items.size:=eq_of_beq q.2;exact hw ⟨by omega,by omega⟩
 show wpAny _ _ (if (((bf items.size 0 lo:Nat):Int)==0&&(1:Int)==1&&(bf items.size items.size hi-bf items.size 0 lo)==items.size)=true then _ else _) _ _ s;rw[if_neg kg,Hy]
 first
  |exact zy (m:=Builtin.Tuple.tupleExact _) (wpAny_newObj_type (zt ⟨_,rfl,zt h⟩) sX)
  |exact zy (m:=Builtin.Tuple.tupleExact _) (wpAny_newObj_type (zy (zt (zt ⟨_,rfl,zt h⟩))) sX)
  |exact zy (zy (m:=Builtin.Tuple.tupleExact _) (wpAny_newObj_type (zt (zt ⟨_,rfl,zt h⟩)) sX))
  |exact zy (zy (m:=Builtin.Tuple.tupleExact _) (wpAny_newObj_type (zt ⟨_,rfl,zt h⟩) sX))
end
end HT
namespace L2
open PySem PySem.Spec PyProof.Rows
abbrev TO:=St->Hp->(Option Int->Hp->Prop)->Prop
def PO(X:Cx)(e:Option Expr)(t:TO):Prop :=
 ∀(Zz:List (kw×Obj)) (s:kt) (σ:St) (H:Hp) (Q:Option Int->Hp->Prop),Inv X Zz σ H s->t σ H Q ->
  wpAny (model X.prog X.w) X.A (evalPart e X.env) (fun u s'=>∃o H',Inv X Zz σ H' s'/\IsPart u o/\Q o H') X.xe s
def A7:TO:=fun _ H Q=>Q none H
def Jc(t:TE):TO:=fun σ H Q=>t σ H fun x H1=>∃i,x=.int i/\Q (some i) H1
section
variable {X:Cx}{e:Expr}{te:TE}{lo hi:Option Expr}{tl th:TO}{pos p2:Pos}
theorem Le:PO X none A7:=by
 intro Zz s σ H Q I h;rw[evalPart_none];exact zt ⟨none,H,I,.none,h⟩
theorem Ld(h:PE X e te):PO X (some e) (Jc te):=by
 intro Zz s σ H Q I hw;rw[evalPart_some];refine aQ (h Zz s σ H _ I hw) fun u s1 ⟨x,H1,I1,r1,q1⟩=>?_;obtain⟨i,rfl,q⟩:=q1;obtain⟨t,rfl⟩:=r1;exact⟨some i,H1,I1,.int i t,q⟩
def GQ(X:Cx)(r:V->Option Int->Option Int->Hp->VK->Prop):Prop :=
 ∀(Zz:List (kw×Obj)) (s:kt) (σ:St) (H:Hp) (x:V) (v vl vu:jp) (lo hi:Option Int) (sl:kw) (Q:VK),Inv X Zz σ H s->RelV x v->s.heap.IsSliceOf sl vl vu .none->IsPart vl lo->IsPart vu hi->r x lo hi H Q ->
  ∃T id,typeLookup (.type T) "__getitem__" = pure (some (.builtin id))/\s.TypeIs v T/\wpAny (model X.prog X.w) X.A (getItem v (.ref sl)) (EP X Zz σ Q) X.xe s
def QY(r:V->Option Int->Option Int->Hp->VK->Prop)(te:TE)(tl th:TO):TE:=fun σ H Q=>te σ H fun x H1=>tl σ H1 fun l H2=>th σ H2 fun u H3=>r x l u H3 Q
theorem Hz{r:V->Option Int->Option Int->Hp->VK->Prop}(hr:GQ X r)(he:PE X e te)(hl:PO X lo tl)(hu:PO X hi th):PE X (.Subscript e (.Slice lo hi none p2) pos) (QY r te tl th):=by
 intro Zz s σ H Q I h;refine Subscript_ (aQ (he Zz s σ H _ I h) fun v s1 ⟨x,H1,I1,r1,q1⟩=>?_);refine wpAny_Slice (aQ (hl Zz s1 σ H1 _ I1 q1) fun vl s2 ⟨l,H2,I2,pl,q2⟩=>aQ (hu Zz s2 σ H2 _ I2 q2) fun vu s3 ⟨u,H3,I3,pu,q3⟩=>?_);rw[evalPart_none];refine zt ?_;have I4:Inv X Zz σ H3 { s3 with heap:=s3.heap.push { cls:=.type "slice",data:=.fields #[vl,vu,.none] } }:=I3.kept (t':=s3.toks) fun b ob q=>zq _ q;obtain⟨T,id,hT,ht,hg⟩:=hr Zz { s3 with heap:=s3.heap.push { cls:=.type "slice",data:=.fields #[vl,vu,.none] } } σ H3 x v vl vu l u s3.heap.objs.size Q I4 r1 (Heap.IsSliceOf.new ..) pl pu q3;show wpAny (model X.prog X.w) X.A (subscriptTail e (.Slice lo hi none p2) v (.ref s3.heap.objs.size)) (EP X Zz σ Q) X.xe { s3 with heap:=s3.heap.push { cls:=.type "slice",data:=.fields #[vl,vu,.none] } };exact tail_any (ops:=[.ref s3.heap.objs.size,v]) ht hT hg (by with_unfolding_all rfl)
def pw(xs:List V)(lo hi:Option Int):List V:=(xs.drop (HT.bf xs.length 0 lo)).take (HT.bf xs.length xs.length hi-HT.bf xs.length 0 lo)
theorem oD(xs:List V)(lo hi:Option Int):(pw xs lo hi).length<=xs.length:=by
 unfold pw;rw[zD,yh];first|lia|omega
def Te(K:Q_):V->Option Int->Option Int->Hp->VK->Prop:=fun x lo hi H Q=>∃a xs,x=.ref a/\de K H a xs /\
 ¬ (HT.bf xs.length 0 lo=0/\HT.bf xs.length xs.length hi=xs.length)/\∀p,H p=none->Q (.ref p) (upd H p (.tup (pw xs lo hi)))
theorem MB:GQ X (Te X.K):=by
 intro Zz s σ H x v vl vu lo hi sl Q I rx hs pl pu h;obtain⟨a,xs,rfl,hx,hw,q⟩:=h;cases rx;obtain⟨its,r,ht,hz⟩:=I.tuple hx;have hlen:its.toArray.size=xs.length:=by rw[ze];exact r.length.symm
 refine⟨"tuple",_,PyProof.Rows.slot_tuple_getitem.lookup,ht.typeIs,?_⟩;refine HT.oh ht hs pl pu (by rw[hlen];exact hw) ?_ (by rw[hlen];exact hz);rw[hlen];refine⟨.ref s.heap.objs.size,_,I.laid (t':=s.toks) (o:=.tup (pw xs lo hi)) (fun b ob q=>zq _ q) (zp _) ?_,rfl,q _ (I.ax.fresh (zp _))⟩;exact⟨zP (oD xs lo hi) hz,_,(r.drop (HT.bf xs.length 0 lo)).take (HT.bf xs.length xs.length hi-HT.bf xs.length 0 lo),pA.new _ _⟩
def Qd(K:Q_):R2:=fun x y H Q=>∃a b xs ys,x=.ref a/\y=.ref b/\de K H a xs/\de K H b ys/\xs≠[]/\xs.length+ys.length<=zg /\
 (ys=[]->Q (.ref a) H)/\(ys≠[]->∀p,H p=none->Q (.ref p) (upd H p (.tup (xs++ys))))
theorem Vals.qP{xs:List V}{us:List jp}(r:Vals xs us):us=[] ↔ xs=[]:=by
 cases r with
 |nil=>simp
 |cons _ _=>simp
theorem Ll:dg X (binaryOp .Add) (Qd X.K):=by
 intro Zz s σ H x y v u Q I rx ry h;obtain⟨a,b,xs,ys,rfl,rfl,ha,hb,hx,hz,q1,q2⟩:=h;cases rx;cases ry;obtain⟨its,r1,p1,_⟩:=I.tuple ha;obtain⟨bT,r2,p2,_⟩:=I.tuple hb;refine HT.LW p1 p2 (fun z=>hx (r1.qP.mp z)) (fun z=>⟨.ref a,H,I,rfl,q1 (r2.qP.mp z)⟩) (fun z=>?_) (by rw[<- r1.length,<- r2.length];exact hz);refine⟨.ref s.heap.objs.size,_,I.laid (t':=s.toks) (o:=.tup (xs++ys)) (fun b ob q=>zq _ q) (zp _) ?_,rfl,q2 (fun w=>z (r2.qP.mpr w)) _ (I.ax.fresh (zp _))⟩;exact⟨by rw[zm];exact hz,_,r1.append r2,pA.new _ _⟩
end
end L2
namespace L2
open PySem PySem.Spec PyProof.Rows
def BD(n:Nat)(i:Int):Option Nat:=if 0<=i then (if i<n then some i.toNat else none) else if -(n:Int)<=i then some (i+n).toNat else none
def Ao{α:Type}(xs:List α)(i:Int):Option α:=(BD xs.length i).bind fun j=>xs[j]?
theorem BC{n:Nat}{i:Int}{j:Nat}(h:BD n i=some j):seqIndex? i n=some j/\j<n/\-(n:Int)<=i/\i<n:=by
 unfold BD at h;by_cases h0:0<=i
 ·rw[if_pos h0]at h
  by_cases h1:i<n
  ·rw[if_pos h1]at h
   have e:i.toNat=j:=Option.some.inj h;exact⟨by rw[seqIndex_of h0 h1,e],by omega,by omega,h1⟩
  ·rw[if_neg h1]at h;cases h
 ·rw[if_neg h0]at h
  by_cases h1:-(n:Int)<=i
  ·rw[if_pos h1]at h
   have e:(i+n).toNat=j:=Option.some.inj h;exact⟨by rw[seqIndex_neg (by first|lia|omega) h1,e],by omega,h1,by omega⟩
  ·rw[if_neg h1]at h;cases h
theorem rj{α:Type}{xs:List α}{i:Int}{v:α}(h:Ao xs i=some v):∃j,seqIndex? i xs.length=some j/\xs[j]?=some v/\j<xs.length/\-(xs.length:Int)<=i/\i<xs.length:=by
 unfold Ao at h;cases e:BD xs.length i with
 |none=>rw[e]at h;cases h
 |some j =>
  rw[e]at h;obtain⟨h1,h2,h3,h4⟩:=BC e;exact⟨j,h1,h,h2,h3,h4⟩
def B9(b:Expr):Prop:=∀o i,subscripted b false o i=operate [o,i] (getItem o i)
def Cb(X:Cx)(r:R2):Prop :=
 ∀(value slice:Expr) (Zz:List (kw×Obj)) (s:kt) (σ:St) (H:Hp) (x y:V) (v u:jp) (Q:VK),Inv X Zz σ H s->RelV x v->RelV y u->r x y H Q ->
  subscripted slice false v u=operate [v,u] (getItem v u)->wpAny (model X.prog X.w) X.A (subscriptTail value slice v u) (EP X Zz σ Q) X.xe s
def Ki(X:Cx)(id:String)(r:V->List V->Hp->VK->Prop):Prop :=
 ∀(Zz:List (kw×Obj)) (s:kt) (σ:St) (H:Hp) (x:V) (xs:List V) (v:jp) (us:List jp) (Q:VK),Inv X Zz σ H s->RelV x v->Vals xs us->r x xs H Q ->
  wpAny (model X.prog X.w) X.A (call (.builtin id) (v::us)) (EP X Zz σ Q) X.xe s
section
variable {X:Cx}{a b:Expr}{ta tb:TE}{pos:Pos}
theorem Ql{r:R2}(hr:Cb X r)(ha:PE X a ta)(hb:PE X b tb)(hs:B9 b):PE X (.Subscript a b pos) (ED r ta tb):=by
 intro Zz s σ H Q I h;exact Subscript_ (IG ha hb I h fun v u s2 x y H2 I2 rx ry q=>hr a b Zz s2 σ H2 x y v u Q I2 rx ry q (hs _ _))
def Tj(K:Q_):R2:=fun x y H Q=>∃p xs i v,x=.ref p/\y=.int i/\aZ K H p xs/\Ao xs i=some v/\Q v H
def Th(K:Q_):R2:=fun x y H Q=>∃p xs i v,x=.ref p/\y=.int i/\de K H p xs/\Ao xs i=some v/\Q v H
def Ti:R2:=fun x y H Q=>∃z i c,x=.str z/\y=.int i/\z.length<=zg/\Ao z.cps.toList i=some c/\Q (.str ⟨#[c]⟩) H
theorem BB:Cb X (Tj X.K):=by
 intro value slice Zz s σ H x y v u Q I rx ry h hs;obtain⟨p,xs,i,z,rfl,rfl,hq,he,q⟩:=h;cases rx;obtain⟨t,rfl⟩:=ry;obtain⟨its,r,pl,hz⟩:=I.list hq;obtain⟨j,h1,h2,h3,h4,h5⟩:=rj he;obtain⟨w,ew,rw'⟩:=r.get h2;have hl:=r.length;have hn:=jK;have fin:EP X Zz σ Q w s:=⟨z,H,I,rw',q⟩;by_cases h0:0<=i
 ·have hj:i.toNat=j:=by
   rw[seqIndex_of h0 h5]at h1;exact Option.some.inj h1
  exact item_listR pl.isList h0 (by first|lia|omega) (by rw[hj];simpa using ew) fin hs
 ·have hj:(i+(its.toArray.size:Int)).toNat=j:=by
   rw[seqIndex_neg (by first|lia|omega) h4]at h1
   rw[ze,<- hl];exact Option.some.inj h1
  exact subscriptTail_builtinR (x:=w) pl.isList.typeIs slot_list_getitem.lookup
   (wpAny_getItem_list_neg (Q:=fun r s'=>r=w/\EP X Zz σ Q r s') pl.isList (by first|lia|omega) (by rw[ze] <;> omega) (by first|lia|omega) (by rw[hj];simpa using ew) ⟨rfl,fin⟩) hs
theorem NU:Cb X (Th X.K):=by
 intro value slice Zz s σ H x y v u Q I rx ry h hs;obtain⟨p,xs,i,z,rfl,rfl,hq,he,q⟩:=h;cases rx;obtain⟨t,rfl⟩:=ry;obtain⟨its,r,pl,hz⟩:=I.tuple hq;obtain⟨j,h1,h2,h3,h4,h5⟩:=rj he;obtain⟨w,ew,rw'⟩:=r.get h2;have hl:=r.length;have hn:=jK;have fin:EP X Zz σ Q w s:=⟨z,H,I,rw',q⟩;exact subscriptTail_builtinR (x:=w) pl.typeIs slot_tuple_getitem.lookup
  (getItem_tuple (j:=j) (Q:=fun r s'=>r=w/\EP X Zz σ Q r s') pl (by first|lia|omega) (by first|lia|omega) (by rw[ze,<- hl];exact h1) (by simpa using ew) ⟨rfl,fin⟩) hs
theorem NV:Cb X Ti:=by
 intro value slice Zz s σ H x y v u Q I rx ry h hs;obtain⟨z,i,c,rfl,rfl,hz,he,q⟩:=h;obtain⟨t,rfl⟩:=rx;obtain⟨t',rfl⟩:=ry;obtain⟨j,h1,h2,h3,h4,h5⟩:=rj he;have hl:z.cps.toList.length=z.length:=by simp[Str.length]
 rw[hl]at h1 h4 h5;have hn:=jK;exact tail_any (typeIs_str s z t) slot_str_getitem.lookup (getItem_str (c:=c) (by
  have e1:decide (i < -(2 ^ 63:Int))=false:=decide_eq_false (by first|lia|omega)
  have e2:decide (i ≥ 2 ^ 63)=false:=decide_eq_false (by first|lia|omega)
  rw[e1,e2,vO]) (by rw[h1];simpa using h2) ⟨.str ⟨#[c]⟩,H,I.tok _,⟨_,rfl⟩,q⟩) hs
theorem DN(its:List jp)(n j:Nat)(u:jp):Obj.mapSeq (·.setIfInBounds j u) { cls:=.type "list",data:=.seq its.toArray n }={ cls:=.type "list",data:=.seq (its.set j u).toArray n }:=by
 simp[Obj.mapSeq]
theorem Inv.lst{Zz:List (kw×Obj)}{σ:St}{H:Hp}{s:kt}{p:kw}{xs:List V}(I:Inv X Zz σ H s)(h:H p=some (.lst xs)) :
  ∃(its:List jp) (n:Nat),Vals xs its/\s.heap.get? p=some { cls:=.type "list",data:=.seq its.toArray n }/\xs.length<=zg:=by
 obtain⟨z,its,n,r,e⟩:=I.ax p _ h;exact⟨its,n,r,e,z⟩
theorem Inv.NI{Zz:List (kw×Obj)}{σ:St}{H:Hp}{s:kt}{p:kw}{xs ys:List V}{its its':List jp}{n n':Nat}{f:Obj->Obj}(I:Inv X Zz σ H s)(h:H p=some (.lst xs))
  (ho:s.heap.get? p=some { cls:=.type "list",data:=.seq its.toArray n }) (hf:f { cls:=.type "list",data:=.seq its.toArray n }={ cls:=.type "list",data:=.seq its'.toArray n' }) (r:Vals ys its') (hz:ys.length<=zg) (t:Nat) :
  Inv X Zz σ (upd H p (.lst ys)) { s with heap:=s.heap.update p f,toks:=t }:=by
 have e:(s.heap.update p f).get? p=some { cls:=.type "list",data:=.seq its'.toArray n' }:=by
  rw[yu f ho (by rw[hf] <;> rfl),hf]
 refine I.write (x:=p) (e:=p) (by rw[h];trivial) (.inl rfl) (fun b u hb q=>(zY _ _ (Ne.symm hb)).trans q) ⟨_,e⟩ ?_;exact⟨hz,its',n',r,e⟩
def Qc:V->V->V->Hp->(Hp->Prop)->Prop:=fun o i v H Q=>∃p xs k j,o=.ref p/\i=.int k/\H p=some (.lst xs)/\BD xs.length k=some j/\Q (upd H p (.lst (xs.set j v)))
theorem set_list:IW X Qc:=by
 intro Zz s σ H o i v ov iv u Q I ro ri rv h;obtain⟨p,xs,k,j,rfl,rfl,hp,hj,q⟩:=h;cases ro;obtain⟨t,rfl⟩:=ri;obtain⟨its,n,r,ho,hz⟩:=I.lst hp;obtain⟨h1,h2,h3,h4⟩:=BC hj;have hl:=r.length;have hn:=jK;have I':Inv X Zz σ (upd H p (.lst (xs.set j v))) { s with heap:=s.heap.update p (Obj.mapSeq (·.setIfInBounds j u)) } :=
  I.NI hp ho (DN its n j u) (r.set rv j) (by rw[yx];exact hz) s.toks
 by_cases h0:0<=k
 ·have hk:k.toNat=j:=by
   rw[seqIndex_of h0 h4]at h1;exact Option.some.inj h1
  exact PySem.W.ki_setAt ho h0 (by first|lia|omega) (by rw[ze,<- hl];exact h4) (by rw[hk];exact⟨_,I',q⟩)
 ·have hk:(k+(its.toArray.size:Int)).toNat=j:=by
   rw[seqIndex_neg (by first|lia|omega) h3]at h1
   rw[ze,<- hl];exact Option.some.inj h1
  exact PySem.W.ki_setBack ho (by first|lia|omega) (by rw[ze,<- hl];exact h3) (by first|lia|omega) (by rw[hk];exact⟨_,I',q⟩)
theorem t6(lo hi:Option Int)(n:Nat):(sliceBounds lo hi none n).1=((HT.bf n 0 lo:Nat):Int)/\(sliceBounds lo hi none n).2.1=((HT.bf n n hi:Nat):Int)/\(sliceBounds lo hi none n).2.2=1:=by
 refine⟨?_,?_,rfl⟩
 ·cases lo with
  |none=>simp[sliceBounds,HT.bf]
  |some i =>
   simp only[sliceBounds,HT.bf,vh,show (1:Int) > 0 by decide,if_true];by_cases h:i<0
   ·simp only[h,if_true] <;> omega
   ·simp only[h,if_false] <;> omega
 ·cases hi with
  |none=>simp[sliceBounds,HT.bf]
  |some i =>
   simp only[sliceBounds,HT.bf,vh,show (1:Int) > 0 by decide,if_true];by_cases h:i<0
   ·simp only[h,if_true] <;> omega
   ·simp only[h,if_false] <;> omega
theorem sJ(its:List jp)(lo hi:Option Int):slicePick its.toArray lo hi none=((its.drop (HT.bf its.length 0 lo)).take (HT.bf its.length its.length hi-HT.bf its.length 0 lo)).toArray:=by
 obtain⟨h1,h2,h3⟩:=t6 lo hi its.toArray.size;unfold slicePick;rw[h1,h2,h3];simp only[sliceRange_one,pick_run,ze] <;> rfl
def Tf(K:Q_):V->Option Int->Option Int->Hp->VK->Prop:=fun x lo hi H Q=>∃a xs,x=.ref a/\aZ K H a xs/\∀p,H p=none->Q (.ref p) (upd H p (.lst (pw xs lo hi)))
theorem Bb:GQ X (Tf X.K):=by
 intro Zz s σ H x v vl vu lo hi sl Q I rx hs pl pu h;obtain⟨a,xs,rfl,hx,q⟩:=h;cases rx;obtain⟨its,r,ht,hz⟩:=I.list hx;have hlen:=r.length;refine⟨"list",_,slot_list_getitem.lookup,ht.isList.typeIs,?_⟩;refine wpAny_getItem_list_slice ht.isList hs pl pu .none (by simp) ?_ (by rw[ze] <;> omega);rw[sJ,<- hlen];refine⟨.ref s.heap.objs.size,_,I.laid (t':=s.toks) (o:=.lst (pw xs lo hi)) (fun b ob q=>zq _ q) (zp _) ?_,rfl,q _ (I.ax.fresh (zp _))⟩;exact⟨zP (oD xs lo hi) hz,_,0,(r.drop (HT.bf xs.length 0 lo)).take (HT.bf xs.length xs.length hi-HT.bf xs.length 0 lo),zC _ rfl⟩
def sZ:V->Bool
 |.non=>true
 |.bl _=>true
 |.int _=>true
 |.str _=>true
 |_=>false
def OS:V->V->Bool
 |.non,.non=>true
 |.bl a,.bl b=>a==b
 |.bl a,.int b=>(if a then 1 else 0)==b
 |.int a,.bl b=>a==(if b then 1 else 0)
 |.int a,.int b=>a==b
 |.str a,.str b=>a==b
 |_,_=>false
theorem Gm{A:Zx}{s:kt}{y x:V}{u v:jp}(ry:RelV y u)(rx:RelV x v)(fy:sZ y=true)(fx:sZ x=true):SeqAt.EqAt A s u v (OS y x):=by
 cases y with
 |non =>
  cases ry;cases x with
  |non=>cases rx;exact SeqAt.EqAt.same _
  |bl b=>cases rx;exact SeqAt.EqAt.none_bool b
  |int b=>obtain⟨t,rfl⟩:=rx;exact SeqAt.EqAt.none_int b t
  |str b=>obtain⟨t,rfl⟩:=rx;exact SeqAt.EqAt.none_str b t
  |_=>exact absurd (show false=true from fx) zk
 |bl a =>
  cases ry;cases x with
  |non=>cases rx;exact SeqAt.EqAt.bool_none a
  |bl b=>cases rx;exact SeqAt.EqAt.bool_bool a b
  |int b=>obtain⟨t,rfl⟩:=rx;exact SeqAt.EqAt.bool_int a b t
  |str b=>obtain⟨t,rfl⟩:=rx;exact SeqAt.EqAt.bool_str a b t
  |_=>exact absurd (show false=true from fx) zk
 |int a =>
  obtain⟨t',rfl⟩:=ry;cases x with
  |non=>cases rx;exact SeqAt.EqAt.int_none a t'
  |bl b=>cases rx;exact SeqAt.EqAt.int_bool a t' b
  |int b=>obtain⟨t,rfl⟩:=rx;exact SeqAt.EqAt.int_int a t' b t
  |str b=>obtain⟨t,rfl⟩:=rx;exact SeqAt.EqAt.int_str a t' b t
  |_=>exact absurd (show false=true from fx) zk
 |str a =>
  obtain⟨t',rfl⟩:=ry;cases x with
  |non=>cases rx;exact SeqAt.EqAt.str_none a t'
  |bl b=>cases rx;exact SeqAt.EqAt.str_bool a t' b
  |int b=>obtain⟨t,rfl⟩:=rx;exact SeqAt.EqAt.str_int a t' b t
  |str b=>obtain⟨t,rfl⟩:=rx;exact SeqAt.EqAt.str_str a t' b t
  |_=>exact absurd (show false=true from fx) zk
 |_=>exact absurd (show false=true from fy) zk
theorem jV:dz X (.builtin "len") (fun xs H Q=>∃p ys,xs=[.ref p]/\(aZ X.K H p ys\/de X.K H p ys)/\Q (.int ys.length) H):=by
 intro Zz s σ H xs us Q I r h;obtain⟨p,ys,rfl,hq,q⟩:=h;obtain⟨u,rfl,rx⟩:=vals1 r;cases rx;have hn:=jK;rcases hq with hq|hq
 ·obtain⟨its,r',pl,hz⟩:=I.list hq
  have hlen:=r'.length;exact Calls.call_len_list pl.isList (by simp only[ze] <;> omega) ⟨.int ys.length,H,I.tok _,⟨s.toks+1,by rw[ze,hlen]⟩,q⟩
 ·obtain⟨its,r',pl,hz⟩:=I.tuple hq
  have hlen:=r'.length;exact len_tuple pl (by simp only[ze] <;> omega) ⟨.int ys.length,H,I.tok _,⟨s.toks+1,by rw[ze,hlen]⟩,q⟩
theorem Ak:dz X (.builtin "len") (fun xs H Q=>∃z,xs=[.str z]/\z.length<=zg/\Q (.int z.length) H):=by
 intro Zz s σ H xs us Q I r h;obtain⟨z,rfl,hz,q⟩:=h;obtain⟨u,rfl,t,rfl⟩:=vals1 r;have hn:=jK;exact len_str (by first|lia|omega) ⟨.int z.length,H,I.tok _,⟨_,rfl⟩,q⟩
theorem Aj:dz X (.type "list") (fun xs H Q=>∃p ys,xs=[.ref p]/\(aZ X.K H p ys\/de X.K H p ys)/\∀l,H l=none->Q (.ref l) (upd H l (.lst ys))):=by
 intro Zz s σ H xs us Q I r h;obtain⟨p,ys,rfl,hq,q⟩:=h;obtain⟨u,rfl,rx⟩:=vals1 r;cases rx;have fin:∀(its:List jp),Vals ys its->ys.length<=zg->∀(h':Heap) (c':Nat),(∀b o',s.heap.get? b=some o'->h'.get? b=some o') ->
   h'.get? s.heap.objs.size=some { cls:=.type "list",dict:=none,data:=.seq its.toArray c',slots:=#[] }->EP X Zz σ Q (.ref s.heap.objs.size) { s with heap:=h' }:=fun its r' hz h' c' kp e =>
  ⟨.ref s.heap.objs.size,_,I.laid (t':=s.toks) kp (zp _) (show b9 X.prog X.w _ h' _ (.lst ys) from ⟨hz,its,c',r',e⟩),rfl,q _ (I.ax.fresh (zp _))⟩
 rcases hq with hq|hq
 ·obtain⟨its,r',pl,hz⟩:=I.list hq
  have hlen:=r'.length;obtain⟨o,ho,hc,n,hd⟩:=pl.isList;exact call_list_seq p (.inl rfl) ho hc hd (fun h' c' kp e=>fin its r' hz h' c' kp e) (by simp only[ze] <;> omega)
 ·obtain⟨its,r',pl,hz⟩:=I.tuple hq
  have hlen:=r'.length;obtain⟨o,ho,hc,n,hd⟩:=pl;exact call_list_seq p (.inr rfl) ho hc hd (fun h' c' kp e=>fin its r' hz h' c' kp e) (by simp only[ze] <;> omega)
theorem iR:dz X (.type "tuple") (fun xs H Q=>∃p ys,xs=[.ref p]/\((aZ X.K H p ys/\∀l,H l=none->Q (.ref l) (upd H l (.tup ys)))\/(de X.K H p ys/\Q (.ref p) H))):=by
 intro Zz s σ H xs us Q I r h;obtain⟨p,ys,rfl,h⟩:=h;obtain⟨u,rfl,rx⟩:=vals1 r;cases rx;rcases h with ⟨hq,q⟩|⟨hq,q⟩
 ·obtain⟨its,r',pl,hz⟩:=I.list hq
  have hlen:=r'.length;refine call_tuple_list pl.isList (fun h' kp=>?_) (by simp only[ze] <;> omega);have I1:Inv X Zz σ H { s with heap:=h' }:=I.kept (t':=s.toks) kp;have I2:Inv X Zz σ (upd H h'.objs.size (.tup ys)) { s with heap:=h'.push { cls:=.type "tuple",data:=.seq its.toArray } } :=
   I1.laid (t':=s.toks) (fun b o e=>zq _ e) (zp _) (show b9 X.prog X.w _ _ _ (.tup ys) from ⟨hz,its,r',pA.new _ _⟩)
  exact⟨.ref h'.objs.size,_,I2,rfl,q _ (I1.ax.fresh (zp _))⟩
 ·obtain⟨its,r',pl,hz⟩:=I.tuple hq
  exact call_tuple_same pl ⟨.ref p,H,I,rfl,q⟩
def Vq(K:Q_)(T:String)(x:V)(H:Hp):Prop:=match x with
 |.str _=>T = "str"
 |.int _=>T = "int"
 |.ref p=>(T = "list"/\∃xs,aZ K H p xs)\/(T = "tuple"/\∃o,K.lookup p=some o/\o.cls=.type "tuple"/\o.dict=none) \/
   (T = "dict"/\((∃kvs,H p=some (.dK kvs))\/∃kvs,H p=some (.dT kvs)))\/(T = "set"/\∃S n,H p=some (.set S n))
 |_=>False
theorem tM{Zz:List (kw×Obj)}{σ:St}{H:Hp}{s:kt}{T:String}{x:V}{v:jp}(I:Inv X Zz σ H s)(r:RelV x v)(ty:Vq X.K T x H) :
  s.TypeIs v T/\∀a,v=.ref a->∃ob,s.heap.get? a=some ob/\ob.dict=none:=by
 cases x with
 |str z =>
  obtain⟨t,rfl⟩:=r;cases (show T = "str" from ty);exact⟨typeIs_str s z t,fun _ e=>nomatch e⟩
 |int i =>
  obtain⟨t,rfl⟩:=r;cases (show T = "int" from ty);exact⟨typeIs_int s i t,fun _ e=>nomatch e⟩
 |ref p =>
  cases r;rcases ty with ⟨rfl,xs,hq⟩|⟨rfl,o,hk,hc,hd⟩|⟨rfl,hk⟩|⟨rfl,S,n,hk⟩
  ·obtain⟨its,_,pl,_⟩:=I.list hq
   refine⟨pl.isList.typeIs,fun a e=>?_⟩;cases e;obtain⟨o,n,e,c,hd,_⟩:=pl;exact⟨o,e,hd⟩
  ·refine⟨⟨o,I.kc p o hk,hc⟩,fun a e=>?_⟩
   cases e;exact⟨o,I.kc _ o hk,hd⟩
  ·have z:∃o,s.heap.get? p=some o/\o.ExactDict:=by
    rcases hk with ⟨kvs,hk⟩|⟨kvs,hk⟩
    ·obtain⟨_,_,_,_,o,_,_,e,ex,_⟩:=I.ax p _ hk
     exact⟨o,e,ex⟩
    ·obtain⟨_,_,_,_,o,_,_,e,ex,_⟩:=I.ax p _ hk
     exact⟨o,e,ex⟩
   obtain⟨o,e,ex⟩:=z;refine⟨⟨o,e,ex.1⟩,fun a e2=>?_⟩;cases e2;exact⟨o,e,ex.2.1⟩
  ·obtain⟨o,_,_,_,e,ex,_⟩:=I.ax p _ hk
   refine⟨⟨o,e,ex.1⟩,fun a e2=>?_⟩;cases e2;exact⟨o,e,ex.2.1⟩
 |_=>exact False.elim ty
variable {o e:Expr}{es:List Expr}{to:TE}{t:TA}{name:Str}{apos fO:Pos}{T id:String}{r:V->List V->Hp->VK->Prop}
end
end L2
namespace L2
open PySem PySem.Spec PyProof.Rows
def SF(X:Cx)(id:String)(r:V->List V->Hp->VK->Prop):Prop :=
 ∀(Zz:List (kw×Obj)) (s:kt) (σ:St) (H:Hp) (x:V) (xs:List V) (v:jp) (us:List jp) (Q:VK),Inv X Zz σ H s->RelV x v->Vals xs us->r x xs H Q ->
  wpAny (model X.prog X.w) X.A (call (.builtin id) (v::us)) (EP X Zz σ Q) X.xe s
theorem Vals.one:∀{x:V} {us:List jp},Vals [x] us->∃u,us=[u]/\RelV x u:=by
 intro x us h;cases h with|cons r t=>cases t;exact⟨_,rfl,r⟩
section
variable {X:Cx}{Zz:List (kw×Obj)}{σ:St}{H:Hp}{s:kt}{l b:kw}{xs ys zs:List V}
theorem Inv.HR{its its':List jp}{n:Nat}{f:Array jp->Array jp}{t':Nat}(I:Inv X Zz σ H s)(hH:H l=some (.lst xs))
  (e:s.heap.get? l=some { cls:=.type "list",data:=.seq its.toArray n }) (hf:f its.toArray=its'.toArray) (hv:Vals ys its') (hz:ys.length<=zg) :
  Inv X Zz σ (upd H l (.lst ys)) { s with heap:=s.heap.update l (Obj.mapSeq f),toks:=t' }:=by
 have q:=PySem.IsL.update e f;rw[hf]at q;refine I.write (x:=l) (e:=l) (by rw[hH];exact trivial) (.inl rfl) (fun b' u hb hu=>(zY s.heap (Obj.mapSeq f) (Ne.symm hb)).trans hu) ⟨_,q⟩ ?_;exact⟨hz,its',_,hv,q⟩
theorem Inv.Tx{its:List jp}{t':Nat}(I:Inv X Zz σ H s)(hv:Vals ys its)(hz:ys.length<=zg) :
  Inv X Zz σ (upd H s.heap.objs.size (.lst ys)) { s with heap:=s.heap.push { cls:=.type "list",data:=.seq its.toArray },toks:=t' } :=
 I.laid (fun _ _ q=>zq _ q) (zp _) ⟨hz,its,0,hv,zC _ rfl⟩
theorem Inv.fresh(I:Inv X Zz σ H s):H s.heap.objs.size=none:=I.ax.fresh (zp _)
theorem Inv.qT(I:Inv X Zz σ H s)(hH:H l=some (.lst xs)):xs.length<=zg/\∃(its:List jp) (n:Nat),Vals xs its/\xs.length=its.length/\s.heap.get? l=some { cls:=.type "list",data:=.seq its.toArray n }:=by
 obtain⟨z,its,n,r,e⟩:=I.ax l _ hH;exact⟨z,its,n,r,r.length,e⟩
theorem uJ{n:Nat}(h:n<=zg):Builtin.List.listTooLong n=false:=by
 unfold Builtin.List.listTooLong;exact decide_eq_false (by first|lia|omega)
end
section
variable {X:Cx}
def K2:V->List V->Hp->VK->Prop:=fun x vs H Q=>∃l xs y,x=.ref l/\vs=[y]/\H l=some (.lst xs)/\xs.length<zg/\Q .non (upd H l (.lst (xs++[y])))
theorem Fs:SF X "list.append" K2:=by
 intro Zz s σ H x vs v us Q I rx rv h;obtain⟨l,xs,y,rfl,rfl,hH,hz,q⟩:=h;cases rx;obtain⟨u,rfl,ru⟩:=rv.one;obtain⟨z,its,n,r,hl,e⟩:=I.qT hH;refine call_meets F.slot_list_append ⟨_,e,rfl⟩ F.entry_list_append (F.args_list_append_2 _ _) (PySem.list_append l its.toArray n u (by rw[ze];omega)) ⟨e,?_⟩;refine⟨.non,_,I.HR (its':=its++[u]) hH e (by simp) (r.append (.cons ru .nil)) ?_,rfl,q⟩;rw[zm,yY];first|lia|omega
def K1:V->List V->Hp->VK->Prop:=fun x vs H Q=>∃l b xs zs,x=.ref l/\vs=[.ref b]/\H l=some (.lst xs)/\H b=some (.lst zs)/\xs.length+zs.length<=zg/\Q .non (upd H l (.lst (xs++zs)))
theorem Fq:SF X "list.extend" K1:=by
 intro Zz s σ H x vs v us Q I rx rv h;obtain⟨l,b,xs,zs,rfl,rfl,hH,hB,hz,q⟩:=h;cases rx;obtain⟨u,rfl,ru⟩:=rv.one;cases ru;obtain⟨z,its,n,r,hl,e⟩:=I.qT hH;obtain⟨z2,bT,n2,r2,RI,e2⟩:=I.qT hB;have hsz:its.toArray.size+bT.toArray.size<=zg:=by rw[ze,ze];omega
 have DZ:¬ (!its.toArray.isEmpty&&Builtin.List.listTooLong (its.toArray.size+bT.toArray.size))=true:=by
  rw[uJ hsz,wx];exact zk
 refine call_meets F.slot_list_extend ⟨_,e,rfl⟩ F.entry_list_extend (F.args_list_extend_2 _ _)
  (AutoSeq1.list_extend_list_list_0 l its.toArray n b bT.toArray n2 DZ (by rw[ze];omega) (by first|lia|omega)) ⟨e,e2,?_⟩
 refine⟨.non,_,I.HR (its':=its++bT) hH e (by simp) (r.append r2) ?_,rfl,q⟩;rw[zm];first|lia|omega
def Tn:R2:=fun x y H Q=>∃l b xs zs,x=.ref l/\y=.ref b/\H l=some (.lst xs)/\H b=some (.lst zs)/\xs.length+zs.length<=zg/\∀p,H p=none->Q (.ref p) (upd H p (.lst (xs++zs)))
theorem Nr:dg X (binaryOp .Add) Tn:=by
 intro Zz s σ H x y v u Q I rx ry h;obtain⟨l,b,xs,zs,rfl,rfl,hH,hB,hz,q⟩:=h;cases rx;cases ry;obtain⟨z,its,n,r,hl,e⟩:=I.qT hH;obtain⟨z2,bT,n2,r2,RI,e2⟩:=I.qT hB;refine PySem.P.add_list e e2 ?_ (by rw[ze,ze];omega);have ea:its.toArray++bT.toArray=(its++bT).toArray:=by simp
 rw[ea];exact⟨.ref _,_,I.Tx (t':=s.toks) (r.append r2) (by rw[zm];omega),rfl,q _ I.fresh⟩
end
section
variable {prog:ul}{w:ut}{A:Zx}{E:jp->kt->Prop}{s:kt}
set_option maxRecDepth 100000 in
end
section
variable {X:Cx}
end
end L2
namespace L2
open PySem PySem.Spec PyProof.Rows
section
variable {κ:Type}[DecidableEq κ]
def fK(kvs:List (κ×V))(k:κ):Option V:=(kvs.find? fun kv=>decide (kv.1=k)).map (·.2)
def putK(kvs:List (κ×V))(k:κ)(v:V):List (κ×V) :=
 if (kvs.any fun kv=>decide (kv.1=k))=true then kvs.map (fun kv=>if kv.1=k then (kv.1,v) else kv) else kvs++[(k,v)]
theorem lA{p:κ×V}{r:List (κ×V)}{k:κ}(e:p.1=k):fK (p::r) k=some p.2:=by simp[fK,yj,e]
theorem lB{p:κ×V}{r:List (κ×V)}{k:κ}(e:¬ p.1=k):fK (p::r) k=fK r k:=by simp[fK,yj,e]
theorem tJ(k:κ):∀kvs:List (κ×V),(kvs.any fun kv=>decide (kv.1=k))=(fK kvs k).isSome
 |[]=>rfl
 |p::r=>by
  rw[yP];by_cases e:p.1=k
  ·simp only[lA e,decide_eq_true e,Bool.true_or,Option.isSome_some]
  ·rw[lB e,decide_eq_false e,vP];exact tJ k r
theorem kD(kvs:List (κ×V))(k:κ)(v:V):(putK kvs k v).length<=kvs.length+1:=by
 unfold putK;split
 ·rw[zz];omega
 ·rw[zm,zE,ye];omega
theorem iT.iI{o:Option V}{u:Option jp}(r:iT o u):o.isSome=u.isSome:=by
 cases o with
 |none=>cases u with
  |none=>rfl
  |some _=>exact(show False from r).elim
 |some _=>cases u with
  |none=>exact(show False from r).elim
  |some _=>rfl
theorem iT.getD{o:Option V}{u:Option jp}{d:V}{d':jp}(r:iT o u)(rd:RelV d d'):RelV (o.getD d) (u.getD d'):=by
 cases o with
 |none=>cases u with
  |none=>exact rd
  |some _=>exact(show False from r).elim
 |some _=>cases u with
  |none=>exact(show False from r).elim
  |some _=>exact r
theorem KV.val{kvs:List (κ×V)}{vs:List (κ×jp)}(r:KV kvs vs)(k:κ):iT (fK kvs k) (valueAt vs k):=by
 unfold KV at r;induction r with
 |nil=>exact True.intro
 |@cons p q ps qs h t ih =>
  obtain⟨h1,h2⟩:=h;by_cases e:p.1=k
  ·have e':q.1=k:=h1.symm.trans e
   have b:valueAt (q::qs) k=some q.2:=by simp[valueAt,yj,e']
   rw[lA e,b];exact h2
  ·have e':¬ q.1=k:=fun z=>e (h1.trans z)
   have b:valueAt (q::qs) k=valueAt qs k:=by simp[valueAt,yj,e']
   rw[lB e,b];exact ih
theorem KV.any{kvs:List (κ×V)}{vs:List (κ×jp)}(r:KV kvs vs)(k:κ):(kvs.any fun kv=>decide (kv.1=k))=vs.any fun kv=>decide (kv.1=k):=by
 unfold KV at r;induction r with
 |nil=>rfl
 |cons h t ih=>rw[yP,yP,ih,h.1]
theorem KV.ui{kvs:List (κ×V)}{vs:List (κ×jp)}(r:KV kvs vs)(k:κ){y:V}{u:jp}(ry:RelV y u) :
  KV (kvs.map fun kv=>if kv.1=k then (kv.1,y) else kv) (vs.map fun kv=>if kv.1=k then (kv.1,u) else kv):=by
 unfold KV at r ⊢;induction r with
 |nil=>exact .nil
 |@cons p q ps qs h t ih =>
  rw[zG,zG];refine .cons ?_ ih;obtain⟨h1,h2⟩:=h;by_cases e:p.1=k
  ·rw[if_pos e,if_pos (h1.symm.trans e)];exact⟨h1,ry⟩
  ·rw[if_neg e,if_neg (fun z=>e (h1.trans z))];exact⟨h1,h2⟩
theorem KV.put{kvs:List (κ×V)}{vs:List (κ×jp)}(r:KV kvs vs)(k:κ){y:V}{u:jp}(ry:RelV y u):KV (putK kvs k y) (stored vs k u):=by
 unfold putK stored;rw[r.any k];by_cases e:(vs.any fun kv=>decide (kv.1=k))=true
 ·rw[if_pos e,if_pos e];exact r.ui k ry
 ·rw[if_neg e,if_neg e];exact Paired.snoc r ⟨rfl,ry⟩
theorem KV.length{kvs:List (κ×V)}{vs:List (κ×jp)}(r:KV kvs vs):kvs.length=vs.length:=Paired.length r
end
theorem lN{P:ul}{w:ut}{k:Key}{u:jp}(r:RelV (kV k) u):(aK P w).is k u=true:=by
 cases k with
 |inl i=>obtain⟨t,e⟩:=(show ∃t,u=Value.int i t from r);subst e;exact AO P w i t
 |inr x=>obtain⟨t,e⟩:=(show ∃t,u=Value.str x t from r);subst e;exact ip P w x t
theorem rX{P:ul}{w:ut}:∀{ks:List Key} {us:List jp},Vals (ks.map kV) us->ItemsAre (aK P w) ks us
 |[],_,r=>by rw[xI]at r;cases r;exact .nil
 |k::ks,_,r=>by
  rw[zG]at r;cases r with
  |cons h t=>exact .cons (lN h) (rX t)
abbrev KT(H:Hp):List (List Key×V)->List (List Key×kw×jp)->Prop:=Paired fun p q=>p.1=q.1/\H q.2.1=some (.tup (p.1.map kV))/\RelV p.2 q.2.2
theorem KT.val{H:Hp}{kvs:List (List Key×V)}{xs:List (List Key×kw×jp)}(r:KT H kvs xs)(k:List Key):iT (fK kvs k) ((atKey xs k).map (·.2)):=by
 induction r with
 |nil=>exact True.intro
 |@cons p q ps qs h t ih =>
  obtain⟨h1,_,h2⟩:=h;by_cases e:p.1=k
  ·have e':q.1=k:=h1.symm.trans e
   have b:atKey (q::qs) k=some q.2:=by simp[atKey,yj,e']
   rw[lA e,b];exact h2
  ·have e':¬ q.1=k:=fun z=>e (h1.trans z)
   have b:atKey (q::qs) k=atKey qs k:=by simp[atKey,yj,e']
   rw[lB e,b];exact ih
theorem KT.ui{H:Hp}{kvs:List (List Key×V)}{xs:List (List Key×kw×jp)}(r:KT H kvs xs)(k:List Key){y:V}{u:jp}(ry:RelV y u) :
  KT H (kvs.map fun kv=>if kv.1=k then (kv.1,y) else kv) (xs.map (putAt k u)):=by
 induction r with
 |nil=>exact .nil
 |@cons p q ps qs h t ih =>
  rw[zG,zG];refine .cons ?_ ih;obtain⟨h1,h2,h3⟩:=h;unfold putAt;by_cases e:p.1=k
  ·rw[if_pos e,if_pos (h1.symm.trans e)];exact⟨h1,h2,ry⟩
  ·rw[if_neg e,if_neg (fun z=>e (h1.trans z))];exact⟨h1,h2,h3⟩
theorem KT.put{H:Hp}{kvs:List (List Key×V)}{xs:List (List Key×kw×jp)}(r:KT H kvs xs)(k:List Key){b:kw}{y:V}{u:jp}(hb:H b=some (.tup (k.map kV)))(ry:RelV y u) :
  KT H (putK kvs k y) (storedH xs k b u):=by
 have e:(kvs.any fun kv=>decide (kv.1=k))=(atKey xs k).isSome:=by
  rw[tJ,(r.val k).iI,wl]
 unfold putK storedH;rw[e];by_cases q:(atKey xs k).isSome=true
 ·rw[if_pos q,if_pos q];exact r.ui k ry
 ·rw[if_neg q,if_neg q];exact Paired.snoc r ⟨rfl,hb,ry⟩
theorem KT.keeps{H H':Hp}{kvs:List (List Key×V)}{xs:List (List Key×kw×jp)}(r:KT H kvs xs)(ht:∀b ys,H b=some (.tup ys)->H' b=some (.tup ys)):KT H' kvs xs :=
 Paired.DO r fun _ _ z=>⟨z.1,ht _ _ z.2.1,z.2.2⟩
section
variable {P:ul}{w:ut}{H:Hp}{h:Heap}{a:kw}
theorem Jr{u:HO}(ok:cA P w H h)(e:Rd H a u):b9 P w H h a u:=e.ok ok
theorem gu{kvs:List (Key×V)}(ok:cA P w H h)(e:Rd H a (.dK kvs)):kvs.length<=zg/\(a==sysModules)=false/\∃vs,KV kvs vs/\h.DictOf (aK P w) a vs :=
 show b9 P w H h a (.dK kvs) from Jr ok e
theorem QP{kvs:List (Key×V)}(ok:cA P w H h)(e:H a=some (.dK kvs)):kvs.length<=zg/\(a==sysModules)=false/\∃vs,KV kvs vs/\h.DictOf (aK P w) a vs:=gu ok (.inl e)
theorem mL{ks:List Key}(ok:cA P w H h)(e:H a=some (.tup (ks.map kV))):(tupleKind (aK P w)).is h ks a:=by
 obtain⟨_,its,r,⟨o,h1,h2,n,h3⟩,_⟩:=(show b9 P w H h a (.tup (ks.map kV)) from ok a _ e);exact⟨o,its.toArray,n,h1,h2,h3,by simpa using rX r⟩
theorem qd{kvs:List (List Key×V)}(ok:cA P w H h)(e:Rd H a (.dT kvs)):kvs.length<=zg/\(a==sysModules)=false /\
  ∃xs,KT H kvs xs/\h.DictOfH (tupleKind (aK P w)) a xs:=by
 obtain⟨z,y,xs,r,o,es,ep,h1,h2,h3,h4,h5⟩:=(show b9 P w H h a (.dT kvs) from Jr ok e);refine⟨z,y,xs,r,o,es,ep,h1,h2,h3,h4,fun x hx=>?_,h5⟩;have all:∀{l:List (List Key×V)} {m:List (List Key×kw×jp)},KT H l m->∀x∈m,(tupleKind (aK P w)).is h x.1 x.2.1:=by
  intro l m q;induction q with
  |nil=>intro x hx;exact nomatch hx
  |@cons p q ps qs hq t ih =>
   intro x hx;rcases zc.mp hx with e|hx
   ·subst e
    exact mL ok (by rw[<- hq.1];exact hq.2.1)
   ·exact ih x hx
 exact all r x hx
theorem QO{kvs:List (List Key×V)}(ok:cA P w H h)(e:H a=some (.dT kvs)):kvs.length<=zg/\(a==sysModules)=false /\
  ∃xs,KT H kvs xs/\h.DictOfH (tupleKind (aK P w)) a xs:=qd ok (.inl e)
end
def jZ(H:Hp)(a:kw)(y:V)(r:Option V):Prop :=
 (∃kvs k,Rd H a (.dK kvs)/\y=kV k/\r=fK kvs k)\/∃kvs k b,Rd H a (.dT kvs)/\y=.ref b/\H b=some (.tup (k.map kV))/\r=fK kvs k
def Ep(H:Hp)(a:kw)(y v:V)(H':Hp):Prop :=
 (∃kvs k,H a=some (.dK kvs)/\y=kV k/\kvs.length<zg/\H'=upd H a (.dK (putK kvs k v))) \/
 ∃kvs k b,H a=some (.dT kvs)/\y=.ref b/\H b=some (.tup (k.map kV))/\kvs.length<zg/\H'=upd H a (.dT (putK kvs k v))
theorem jZ.k{H:Hp}{a:kw}{kvs:List (Key×V)}{k:Key}(e:H a=some (.dK kvs)):jZ H a (kV k) (fK kvs k):=.inl ⟨kvs,k,.inl e,rfl,rfl⟩
theorem Ep.k{H:Hp}{a:kw}{kvs:List (Key×V)}{k:Key}{v:V}(e:H a=some (.dK kvs))(hl:kvs.length<zg):Ep H a (kV k) v (upd H a (.dK (putK kvs k v))):=.inl ⟨kvs,k,e,rfl,hl,rfl⟩
section
variable {X:Cx}{Zz:List (kw×Obj)}{σ:St}{H:Hp}{s:kt}{a:kw}{y v:V}{u r:jp}{o:Option V}{A:Zx}{E:jp->kt->Prop}
theorem Inv.big(I:Inv X Zz σ H s):sysModules<s.heap.objs.size:=by
 have h:mainGlobals<s.heap.objs.size:=(I.mod.glob.keeps I.bk).lt;exact wZ (by decide) h
theorem GA{Q:jp->kt->Prop}(hu:A.units+1<cLine)(I:Inv X Zz σ H s)(g:jZ H a y (some v))(ry:RelV y u)(h:∀w' s',Inv X Zz σ H s'->RelV v w'->Q w' s') :
  wpAny (model X.prog X.w) A (getItem (.ref a) u) Q E s:=by
 rcases g with ⟨kvs,k,e,ey,l⟩|⟨kvs,k,b,e,ey,eb,l⟩
 ·subst ey
  obtain⟨z,hd,vs,rel,dd⟩:=gu I.ax e;obtain⟨w',hw,rw'⟩:=iT.some_of (v:=v) (o:=valueAt vs k) (by rw[l];exact rel.val k);exact wpAny_getItem_of (lN ry) dd.mapOf hw (h w' _ (I.tok _) rw')
 ·subst ey
  cases (show u=Value.ref b from ry);obtain⟨z,hd,xs,rel,dd⟩:=qd I.ax e;obtain⟨w',hw,rw'⟩:=iT.some_of (v:=v) (o:=(atKey xs k).map (·.2)) (by rw[l];exact rel.val k);obtain⟨p,hp,BG⟩:=zu.mp hw;refine wpAny_getItem_heap (tupleKind_room_in1 hu) (mL I.ax eb) dd hp ?_;rw[BG];exact h w' _ (I.tok _) rw'
theorem T5{Q:jp->kt->Prop}(hu:A.units+1<cLine)(I:Inv X Zz σ H s)(g:jZ H a y o)(ry:RelV y u)(h:∀s',Inv X Zz σ H s'->Q (.bool o.isSome) s') :
  wpAny (model X.prog X.w) A (compareOp .In u (.ref a)) Q E s:=by
 rcases g with ⟨kvs,k,e,ey,l⟩|⟨kvs,k,b,e,ey,eb,l⟩
 ·subst ey
  obtain⟨z,hd,vs,rel,dd⟩:=gu I.ax e;refine wpAny_in_of (lN ry) hd dd.mapOf ?_;rw[<- (rel.val k).iI,<- l];exact h _ (I.tok _)
 ·subst ey
  cases (show u=Value.ref b from ry);obtain⟨z,hd,xs,rel,dd⟩:=qd I.ax e;refine wpAny_in_heap (tupleKind_room_in1 hu) (mL I.ax eb) hd dd ?_;have q:=(rel.val k).iI;rw[wl]at q;rw[<- q,<- l];exact h _ (I.tok _)
theorem LQ{Q:jp->kt->Prop}(hu:A.units+1<cLine)(I:Inv X Zz σ H s)(g:jZ H a y o)(ry:RelV y u)(h:∀s',Inv X Zz σ H s'->Q (.bool (!o.isSome)) s') :
  wpAny (model X.prog X.w) A (compareOp .NotIn u (.ref a)) Q E s:=by
 rcases g with ⟨kvs,k,e,ey,l⟩|⟨kvs,k,b,e,ey,eb,l⟩
 ·subst ey
  obtain⟨z,hd,vs,rel,dd⟩:=gu I.ax e;refine wpAny_notIn_of (lN ry) hd dd.mapOf ?_;rw[<- (rel.val k).iI,<- l];exact h _ (I.tok _)
 ·subst ey
  cases (show u=Value.ref b from ry);obtain⟨z,hd,xs,rel,dd⟩:=qd I.ax e;refine wpAny_notIn_heap (tupleKind_room_in1 hu) (mL I.ax eb) hd dd ?_;have q:=(rel.val k).iI;rw[wl]at q;rw[<- q,<- l];exact h _ (I.tok _)
theorem BZ{h':Heap}{t':Nat}{ob:HO}(I:Inv X Zz σ H s)(mu:GS (H a))(hs:Heap.SameBut a s.heap h')(he:∃q,h'.get? a=some q)(new:b9 X.prog X.w (upd H a ob) h' a ob) :
  Inv X Zz σ (upd H a ob) { s with heap:=h',toks:=t' } :=
 I.write (x:=a) (e:=a) mu (.inl rfl) (fun b q hb z=>(hs.2 b hb).trans z) he new
theorem z8{P:ul}{w:ut}{H':Hp}{h':Heap}{kvs:List (Key×V)}{vs:List (Key×jp)}(z:kvs.length<=zg)(hd:(a==sysModules)=false)(rel:KV kvs vs)(dd:h'.DictOf (aK P w) a vs) :
  b9 P w H' h' a (.dK kvs):=⟨z,hd,vs,rel,dd⟩
theorem Gz{H':Hp}{Q:Unit->kt->Prop}(hu:A.units+1<cLine)(I:Inv X Zz σ H s)(g:Ep H a y v H')(ry:RelV y u)(rv:RelV v r)(h:∀s',Inv X Zz σ H' s'->Q () s') :
  wpAny (model X.prog X.w) A (setItem (.ref a) u r) Q E s:=by
 rcases g with ⟨kvs,k,e,ey,l,eH⟩|⟨kvs,k,b,e,ey,eb,l,eH⟩
 ·subst ey eH
  obtain⟨z,hd,vs,rel,dd⟩:=QP I.ax e;have hz:vs.length<=zg:=by rw[<- rel.length];exact z
  have hl:(putK kvs k v).length<=zg:=by have:=kD kvs k v;omega
  refine wpAny_setItem_pairs (hsz:=hz) (lN ry) dd fun h' dd' hs=>h _ ?_;have he:∃q,h'.get? a=some q:=let ⟨q,_,_,hq,_⟩:=dd';⟨q,hq⟩;exact BZ I (by rw[e];exact True.intro) hs he (z8 hl hd (rel.put k rv) dd')
 ·subst ey eH
  cases (show u=Value.ref b from ry);obtain⟨z,hd,xs,rel,dd⟩:=QO I.ax e;have hz:xs.length<=zg:=by rw[<- Paired.length rel];exact z
  have hl:(putK kvs k v).length<=zg:=by have:=kD kvs k v;omega
  refine wpAny_setItem_heap (hsz:=hz) (tupleKind_room_in1 hu) (mL I.ax eb) dd fun h' dd' hs=>h _ ?_;obtain⟨q,es,ep,hq,h2,h3,h4,_,h5⟩:=dd';refine BZ I (by rw[e];exact True.intro) hs ⟨q,hq⟩ ⟨hl,hd,_,(rel.put k eb rv).keeps fun c ys ec=>?_,q,es,ep,hq,h2,h3,h4,h5⟩;rw[aL (DH ec e (fun z=>nomatch z))];exact ec
end
section
variable {X:Cx}{Zz:List (kw×Obj)}{σ:St}{H:Hp}{s:kt}{a:kw}{kvs:List (Key×V)}{k:Key}{u:jp}{A:Zx}{E:jp->kt->Prop}
theorem QR{Q:jp->kt->Prop}(I:Inv X Zz σ H s)(e:Rd H a (.dK kvs))(h:∀t s',Inv X Zz σ H s'->Q (.int kvs.length t) s'):wpAny (model X.prog X.w) A (call (.builtin "len") [.ref a]) Q E s:=by
 obtain⟨z,hd,vs,rel,dd⟩:=gu I.ax e;refine call_len_dict hd dd (by rw[<- rel.length];rw[sizeLine_eq]at z;omega) ?_;rw[<- rel.length];exact h _ _ (I.tok _)
end
theorem AR{X:Cx}{Zz:List (kw×Obj)}{σ:St}{H:Hp}{s:kt}{a:kw}{y:V}{o:Option V}(I:Inv X Zz σ H s)(g:jZ H a y o):s.TypeIs (.ref a) "dict":=by
 rcases g with ⟨kvs,k,e,_,_⟩|⟨kvs,k,b,e,_,_,_⟩
 ·obtain⟨_,_,vs,_,dd⟩:=gu I.ax e
  exact dd.typeIs
 ·obtain⟨_,_,xs,_,dd⟩:=qd I.ax e
  exact dd.typeIs
section
variable {X:Cx}{o i e value:Expr}{pos pos' S8:Pos}{td ty tv:TE}
end
theorem Iy{P:ul}{w:ut}{H:Hp}(h:Heap)(hb:sysModules<h.objs.size):b9 P w H (h.push { cls:=.type "dict",data:=.dict #[] }) h.objs.size (.dK []) :=
 ⟨zM _,beq_eq_false_iff_ne.mpr (Ne.symm (zd hb)),[],.nil,Heap.DictOf.new h⟩
def EF:TE:=fun _ H Q=>∀p,H p=none->Q (.ref p) (upd H p (.dK []))
section
variable {X:Cx}{pos:Pos}
theorem HB:PE X (.Dict [] [] pos) EF:=fun Zz s σ H Q I h =>
 wpAny_Dict_empty ⟨.ref s.heap.objs.size,_,I.laid (a:=s.heap.objs.size) (o:=.dK []) (t':=s.toks) (fun _ _ q=>zq _ q) (zp _) (Iy s.heap I.big),rfl,h _ (I.ax.fresh (zp _))⟩
end
section
variable {X:Cx}{Zz:List (kw×Obj)}{σ:St}{H:Hp}{s:kt}{a:kw}{y d:V}{u r:jp}{o:Option V}{A:Zx}{E:jp->kt->Prop}
end
section
variable {X:Cx}{o e f:Expr}{apos fO:Pos}{td ty tx:TE}
end
section
variable {X:Cx}{Zz:List (kw×Obj)}{σ:St}{H:Hp}{s:kt}{a:kw}{kvs:List (Key×V)}{A:Zx}{E:jp->kt->Prop}
end
section
variable {X:Cx}{Zz:List (kw×Obj)}{σ:St}{H:Hp}{s:kt}{a:kw}{y:V}{u:jp}{A:Zx}{E:jp->kt->Prop}
end
end L2
namespace SQ
open PySem PySem.W PySem.Calls PyProof.Rows
theorem pZ{P:Params}{h:Heap}:∀(ns:List Int) (vs:List jp),WellAll P h vs (ns.map WData.int)->IntsAre vs ns:=by
 intro ns;induction ns with
 |nil =>
  intro vs w;rw[xI]at w;cases w;exact .nil
 |cons n ns ih =>
  intro vs w;rw[zG]at w;cases w with
  |cons a b =>
   cases a;exact .cons _ _ (ih _ b)
theorem EM{l:OpenLaw}{n:Nat}(hn:l.most=some n){P:Params}{h:Heap}{args:List WData}{vals:List jp}
  (DY:l.row.toRowW.claim.pre args=true) (N2:WellAll P h vals args) :
  ∃a vs ns,vals=[Value.ref a]/\args=[WData.list (ns.map WData.int)]/\h.get? a=some { cls:=.type "list",data:=.seq vs.toArray }/\IntsAre vs ns/\ns.length<=n:=by
 have We:WShape.hasAll [] args [.list .int]=true:=(pre_splitW DY).1;have hc:l.pre.holds [] { args:=args }=true:=(pre_splitW DY).2;obtain⟨d,r,rfl,h1,h2⟩:=hasAllW_cons We;obtain rfl:=hasAllW_nil h2;obtain⟨xs,rfl,h3⟩:=hasW_list h1;obtain⟨ns,rfl⟩:=items_int h3;have hlen:ns.length<=n:=by
  unfold OpenLaw.pre at hc;have h4:(WTm.not (.lt (.lit (.int (n:Int))) (.len (.arg 0)))).holds [] { args:=[.list (ns.map .int)] }=true:=by
   have h4:=(holds_andW hc).1;rw[hn]at h4;exact h4
  have h5:=condW_of h4 (w_not (w_lt w_lit (w_len_list (w_arg rfl))));rw[zz]at h5;refine wj fun q=>?_;have q':(n:Int)<((ns.length:Nat):Int):=by first|lia|omega
  first
   | (rw[decide_eq_true q']at h5;exact absurd h5 (by decide))
   | (simp at h5;omega)
 cases N2 with
 |cons w1 w2 =>
  cases w2;cases w1 with
  |list ho TZ=>exact⟨_,_,ns,rfl,rfl,ho,pZ ns _ TZ,hlen⟩
theorem E7(l:OpenLaw)(args:List WData):l.row.toRowW.claim.post args (.bool true) args=true :=
 postW_of (r:=l.row.toRowW) (X:=(true==true))
  (show WShape.has [] (.bool true) .bool=true by first|rfl|decide|simp[WShape.has,WShape.arms,WShape.armsAll])
  (show (WTm.eq .res (.lit (.bool true))).value [] { args:=args,res:=some (.bool true),after:=args }=some (.bool (true==true)) from w_eq_bool (w_res rfl) w_lit) rfl
theorem AW{l:OpenLaw}{n:Nat}{q:ul}{loose:List Str}{XP:(Str->Option jp)->Heap->Prop}{YP:ut->Heap->Prop}{d:DefRec}
  (hn:l.most=some n) (Ot:d.params.defaults=[])
  (call:∀(w:ut) (s₀ s₁:kt) (mg mb:Str->Option jp) (fa:kw) (o:Obj) (pm cd doc:jp) (a:kw) (vs:List jp) (ns:List Int),
   Ground q loose [] XP w s₀ mg mb s₁.heap->YP w s₁.heap ->
   s₁.heap.get? fa=some o->o.data=.func (docDef d.name d.params d.body d.scope pm cd doc)->s₁.heap.CodeRec cd d.name->mg d.name=some (.ref fa) ->
   s₁.heap.get? a=some { cls:=.type "list",data:=.seq vs.toArray }->IntsAre vs ns->ns.length<=n->s₁.gens=#[] ->
   codeAny (model l.prog w) callerA (.call (.ref fa) ⟨[.ref a],[]⟩) (fun r s'=>r=.ok (.ret (.bool true))/\OldK s₁.heap s'.heap/\s'.os=s₁.os/\AllBare s'.gens) s₁) :
  WalkO q loose XP YP l.row.toRowW d [] (fun f vs=>PySem.call f vs):=by
 intro w s₀ s₁ mg mb G Y fa o pm cd doc dV kV ho hd mU hD sf hg args vals as DY YM Y8 N2 Zf;obtain rfl:dV=.none:=Dflts.none hD Ot;obtain rfl:kV=.none:=Dflts.noKw hD;obtain⟨a,vs,ns,rfl,rfl,Ib,hints,hlen⟩:=EM hn DY N2;refine enter_call (codeAny_mono (call w s₀ s₁ mg mb fa o pm cd doc a vs ns G Y ho (fd_plain hd) mU sf Ib hints hlen hg) fun r s' hq=>?_);obtain⟨rfl,h2,h3,h4⟩:=hq;exact⟨.inl ⟨.bool true,.bool true,[],rfl,fun _=>rfl,.bool true,E7 l _,fun _=>⟨List.Pairwise.nil,fun _ hm=>(nomatch hm)⟩⟩,h2,h3,h4⟩
section
variable {prog:ul}{w:ut}{A:Zx}{E:jp->kt->Prop}{s:kt}{K:Frag}
end
end SQ
namespace L2
open PySem PySem.Spec PyProof.Rows
theorem rC:∀{vs:List jp} {ns:List Int},IntsAre vs ns->Vals (ns.map V.int) vs
 |_,_,.nil=>.nil
 |_,_,.cons n t h=>.cons ⟨t,rfl⟩ (rC h)
def En(H:Hp):Prop:=∀b,H b=none\/∃o xs,H b=some (.frz o (.lst xs))
theorem HV{P:ul}{w:ut}{K:Q_}{mg mb:Str->Option jp}{CX:nt}{k:Nat}{fa a:kw}{fd:FuncData}{x:Str}{sp:Sp}{s₁:kt}{vs:List jp}{ns:List Int}
  (KX:K.In s₁.heap) (se:s₁.heap.Ns mainGlobals mg) (hb:s₁.heap.Ns builtinsNs mb) (WN:∀x:Str,x≠"__name__"->mb x=bootBuiltins x) (TR:s₁.heap.NoLimit) (hg:s₁.gens=#[])
  (ha:s₁.heap.get? a=some { cls:=.type "list",data:=.seq vs.toArray }) (hi:IntsAre vs ns) (hl:ns.length<=zg) (hr:d8 k callerA)
  (F:∀base:Heap,K.In base->base.Ns mainGlobals mg->dD P w K mg base CX k fa fd [x] sp) (hbind:∀(s:kt) (u:jp),BindsTo s fd ⟨[u],[]⟩ [(x,u)])
  (hsp:∀H:Hp,En H->aZ K H a (ns.map V.int)->sp [.ref a] H (fun v _=>v=.bl true) fun _ _ _=>False)
  (hCX:∀H e s',CX [] H s₁ (fun _ _ _=>False) e s'->False) :
  codeAny (model P w) callerA (.call (.ref fa) ⟨[.ref a],[]⟩) (fun r s'=>r=.ok (.ret (.bool true))/\OldK s₁.heap s'.heap/\s'.os=s₁.os/\AllBare s'.gens) s₁:=by
 have rv:=rC hi;have TB:=hi.length;have core:∀H:Hp,En H->aZ K H a (ns.map V.int)->cA P w H s₁.heap->(∀b,H b≠none->b=a)->(H a≠none->K.lookup a=none) ->
   codeAny (model P w) callerA (.call (.ref fa) ⟨[.ref a],[]⟩) (fun r s'=>r=.ok (.ret (.bool true))/\OldK s₁.heap s'.heap/\s'.os=s₁.os/\AllBare s'.gens) s₁:=by
  intro H hO hS ax hA hK;have nX:∀{b:kw} {o:Obj},s₁.heap.get? b=some o->H b=none->(lP s₁.heap H).get? b=some o:=fun e n=>Ih e n;have noA:∀{b:kw} {o:Obj} {es:Array DictEntry} {ep:Nat},s₁.heap.get? b=some o->o.data=.dict es ep->H b=none:=fun {b o es ep} e d=>by
   cases q:H b with
   |none=>rfl
   |some u =>
    have e':b=a:=hA b (by rw[q];simp);subst e';rw[ha]at e;cases e;have d':Data.seq vs.toArray _=Data.dict es ep:=d;cases d'
  have nsK:∀{b:kw} {m:Str->Option jp},s₁.heap.Ns b m->(lP s₁.heap H).Ns b m:=fun {b m} ⟨o,es,ep,e,d,r⟩=>⟨o,es,ep,nX e (noA e d),d,r⟩;have Sf:K.In (lP s₁.heap H):=fun b o e=>nX (KX b o e) (by
   cases q:H b with
   |none=>rfl
   |some u =>
    have e':b=a:=hA b (by rw[q];simp);subst e';rw[hK (by rw[q];simp)]at e;cases e)
  have hM:Mod K mg (lP s₁.heap H):=⟨Sf,nsK se,⟨mb,nsK hb,WN⟩,let ⟨mc,h1,h2⟩:=TR;⟨mc,nsK h1,h2⟩⟩;have e0:Eo P w K mg (lP s₁.heap H) callerA [] s₁ H:=⟨rfl,hM,fun b o e=>Lm e,yQ (FY _ _),trivial,fun b hb=>absurd (show b∈([]:List kw) from hb) (by simp),ax,.of_eq hg⟩;refine codeAny_mono ((F _ Sf (nsK se)).run callerA [] s₁ H ⟨[.ref a],[]⟩ [.ref a] [.ref a] _ _ hr e0 (hbind s₁ (.ref a)) (.cons rfl .nil) (hsp H hO hS)) fun r s' h=>?_;cases r with
  |error e=>exact(hCX H e s' h).elim
  |ok fl =>
   cases fl with
   |next=>exact False.elim h
   |brk=>exact False.elim h
   |cont=>exact False.elim h
   |ret u =>
    obtain⟨v,H',os,bare,un,hok',r',q⟩:=h;have q':v=.bl true:=q;subst q';obtain rfl:u=Value.bool true:=r';refine⟨rfl,OldK.of_keep fun b o e=>?_,os,bare⟩;cases q:H b with
    |none=>exact un.keep b o e q (by intro z;exact absurd (show b∈([]:List kw) from z) (by simp)) (by simp)
    |some u =>
     rcases hO b with z|⟨ob,xs,z⟩
     ·rw[q]at z;cases z
     ·have z2:=un.ib b ob _ z
      obtain⟨e1,_⟩:=ax b _ z;obtain⟨e2,_⟩:=hok' b _ z2;rw[e]at e1;cases e1;exact e2
 cases hk:K.lookup a with
 |some o =>
  have e:=KX a o hk;rw[ha]at e;cases e;refine core (fun _=>none) (fun _=>.inl rfl) (.inr ⟨_,vs.toArray,_,hk,rfl,rfl,rfl,by rw[ze,TB];exact hl,by simpa using rv⟩) (fun b u z=>by have z':(none:Option HO)=some u:=z;cases z') (fun b z=>absurd rfl z) fun z=>absurd rfl z
 |none =>
  refine core (fun b=>if b=a then some (.frz { cls:=.type "list",data:=.seq vs.toArray } (.lst (ns.map V.int))) else none) (fun b=>?_) (.inl (.inr ⟨{ cls:=.type "list",data:=.seq vs.toArray },if_pos rfl⟩)) (fun b u z=>?_) (fun b z=>?_) fun _=>hk
  ·by_cases hb:b=a
   ·exact .inr ⟨_,_,if_pos hb⟩
   ·exact .inl (if_neg hb)
  ·by_cases hb:b=a
   ·have z':=(if_pos hb).symm.trans z
    cases z';subst hb;exact⟨ha,by rw[zz];exact hl,vs,_,rv,ha⟩
   ·have z':=(if_neg hb).symm.trans z
    cases z'
  ·by_cases hb:b=a
   ·exact hb
   ·exact absurd (if_neg hb) z
end L2
namespace L2
open PySem PySem.Spec PyProof.Rows
end L2
namespace L2
open PySem PySem.Spec PyProof.Rows
def cm(s:Zy):Arguments:=match s with
 |.FunctionDef _ a _ _ _ _ _ _ _ _=>a
 |_=>{ posonlyargs:=[],args:=[],vararg:=none,kwonlyargs:=[],kw_defaults:=[],kwarg:=none,defaults:=[] }
def ba(s:Zy):List Zy:=match s with
 |.FunctionDef _ _ b _ _ _ _ _ _ _=>b
 |_=>[]
def au(s:Zy):Scope:=match s with
 |.FunctionDef _ _ _ _ _ _ sc _ _ _=>sc
 |_=>{ kind:=.function,names:=[],isGenerator:=false,isCoroutine:=false }
abbrev kq:nt:=fun _ _ _ _ _ _=>False
abbrev E0:XK:=fun _ _ _=>False
theorem Jv{X:Cx}:Passes kq X E0:=fun _ _ _ _ _ _ _ h=>h.elim
structure ko (K:Q_) (x qual:Str) (st:Zy) (f:kw) (fd:FuncData):Prop where
 ex:∃(oc:jp) (od:Option kw) (kV doc pm:jp) (an:Option kw) (cdv ct:jp) (mG:Array (Option jp)),
  fd=Z1 x qual (cm st) (ba st) (au st) .none kV doc pm an cdv ct/\K.lookup f=some ⟨oc,od,.func fd,mG⟩/\Z2 K cdv qual=true
 kp:Z0 K (.ref f)=true
section
variable {P:ul}{w:ut}{K:Q_}{mg:Str->Option jp}{base:Heap}
theorem ko.ok{x qual:Str}{st:Zy}{f:kw}{fd:FuncData}{N ps:List Str}{k:Nat}{sp:Sp}(F:ko K x qual st f fd)(S:dk N ps (au st))(len:∀vs H Q E,sp vs H Q E->vs.length=ps.length)
  (D1:∀(cdv:jp) (A:Zx) (outer:List Env) (s:kt) (H:Hp) (vs:List V) (Q:VK) (E:XK),d8 k (A.deeper (envOfC qual (au st) s.heap.objs.size f cdv))->sp vs H Q E ->
   ∃t,c0 (fN kq P w K mg base N qual (au st) f cdv A outer s H E).dQ (ba st) t/\t { nx:=fun _ H'=>Q .non H',rt:=Q } (start N vs) H):dD P w K mg base kq (k+1) f fd ps sp:=by
 obtain⟨oc,od,kV,doc,pm,an,cdv,ct,mG,rfl,lk,mU⟩:=F.ex;refine J5 lk mU S len fun A outer s H vs Q E hr hsp=>?_;obtain⟨t,h,q⟩:=D1 cdv A outer s H vs Q E hr hsp;exact⟨t,h.dQ,q⟩
theorem ko.binds{x qual:Str}{st:Zy}{f:kw}{fd:FuncData}{ps:List Str}(F:ko K x qual st f fd)
  (h:∀(kV doc pm:jp) (an:Option kw) (cdv ct:jp) (us:List jp),us.length=ps.length->bindArgs (Z1 x qual (cm st) (ba st) (au st) .none kV doc pm an cdv ct) ⟨us,[]⟩=pure (ps.zip us)):Binds K fd ps []:=by
 obtain⟨oc,od,kV,doc,pm,an,cdv,ct,mG,rfl,lk,mU⟩:=F.ex;exact .all (h kV doc pm an cdv ct)
theorem Gf{x qual:Str}{st:Zy}{f:kw}{oc:jp}{od an:Option kw}{mG:Array (Option jp)}{kV doc pm cdv ct:jp}(l:K.lookup f=some ⟨oc,od,.func (Z1 x qual (cm st) (ba st) (au st) .none kV doc pm an cdv ct),mG⟩)
  (c:Z2 K cdv qual=true) (k:Z0 K (.ref f)=true):ko K x qual st f (Z1 x qual (cm st) (ba st) (au st) .none kV doc pm an cdv ct):=⟨⟨oc,od,kV,doc,pm,an,cdv,ct,mG,rfl,l,c⟩,k⟩
end
section
variable {X:Cx}
end
end L2
set_option maxHeartbeats 4000000
namespace L3
open PySem
noncomputable abbrev Ky:=Sum Int Str
inductive D where
 |non|bl (b:Bool)|int (i:Int)|str (x:Str)|tup (ds:List D)|fl (ds:List D)|ob (i:Nat)
inductive MO where
 |lst (ds:List D)
 |aO (kvs:List (Ky×D))
noncomputable abbrev MH:=List MO
inductive Out (α:Type) where
 |ok (a:α)
 |ex (c:Str) (ds:List D)
noncomputable def Mo(α:Type):=MH->Option (Out α×MH)
noncomputable def Mo.ret{α:Type}(a:α):Mo α:=fun M=>some (.ok a,M)
noncomputable def Mo.bind{α β:Type}(m:Mo α)(k:α->Mo β):Mo β:=fun M=>match m M with
 |none=>none
 |some (.ok a,M')=>k a M'
 |some (.ex c ds,M')=>some (.ex c ds,M')
noncomputable def Mo.stop{α:Type}:Mo α:=fun _=>none
noncomputable instance:Monad Mo where
 pure:=Mo.ret
 bind:=Mo.bind
theorem UC{α:Type}(a:α)(M:MH):(pure a:Mo α) M=some (.ok a,M):=rfl
theorem run_bind{α β:Type}(m:Mo α)(k:α->Mo β)(M:MH):(m >>= k) M=match m M with
 |none=>none
 |some (.ok a,M')=>k a M'
 |some (.ex c ds,M')=>some (.ex c ds,M'):=rfl
inductive QT {α β:Type} (m:Mo α) (k:α->Mo β) (M M':MH) (b:β):Prop
 |mk (a:α) (M1:MH) (e:m M=some (.ok a,M1)) (h:k a M1=some (.ok b,M'))
theorem aa{α β:Type}{m:Mo α}{k:α->Mo β}{M M':MH}{b:β}(h:(m >>= k) M=some (.ok b,M')):QT m k M M' b:=by
 rw[run_bind]at h;split at h
 ·cases h
 ·rename_i a M1 e
  exact⟨a,M1,e,h⟩
 ·cases h
theorem hG{α β:Type}{m:Mo α}{k:α->Mo β}{M M1:MH}{a:α}(h:m M=some (.ok a,M1)):(m >>= k) M=k a M1:=by
 rw[run_bind,h]
noncomputable abbrev Ev:=List (Option D)
noncomputable def getM(i:Nat):Mo MO:=fun M=>match M[i]? with
 |some o=>some (.ok o,M)
 |none=>none
noncomputable def bI(o:MO):Mo D:=fun M=>some (.ok (.ob M.length),M++[o])
noncomputable def e8(i:Nat)(o:MO):Mo Unit:=fun M=>if i<M.length then some (.ok (),M.set i o) else none
noncomputable def need(p:Prop)[Decidable p]:Mo Unit:=if p then pure () else Mo.stop
noncomputable def lift{α:Type}(o:Option α):Mo α:=match o with
 |some a=>pure a
 |none=>Mo.stop
noncomputable def getL(i:Nat):Mo (List D):=fun M=>match M[i]? with
 |some (.lst ds)=>some (.ok ds,M)
 |_=>none
noncomputable def getD(i:Nat):Mo (List (Ky×D)):=fun M=>match M[i]? with
 |some (.aO ds)=>some (.ok ds,M)
 |_=>none
noncomputable def fq:D->Option Ky
 |.int i=>some (.inl i)
 |.str x=>some (.inr x)
 |_=>none
noncomputable def bV:D->Bool
 |.non=>true|.bl _=>true|.int _=>true|.str _=>true|_=>false
noncomputable def eY:D->D->Bool
 |.non,.non=>true
 |.bl a,.bl b=>a==b
 |.bl a,.int b=>(if a then 1 else 0)==b
 |.int a,.bl b=>a==(if b then 1 else 0)
 |.int a,.int b=>a==b
 |.str a,.str b=>a==b
 |_,_=>false
noncomputable def c9(f:D->D->Option Bool):List D->List D->Option Bool
 |[],[]=>some true
 |[],_::_=>some false
 |_::_,[]=>some false
 |x::xs,y::ys=>match f x y with
  |none=>none
  |some b=>match c9 f xs ys with
   |none=>none
   |some c=>some (b&&c)
noncomputable def bA(M:MH):Nat->D->D->Option Bool
 |0,_,_=>none
 |n+1,x,y=>match x,y with
  |.tup xs,.tup ys=>c9 (bA M n) xs ys
  |.ob i,.ob j=>(match M[i]?,M[j]? with
   |some (.lst xs),some (.lst ys)=>if xs.length=ys.length then c9 (bA M n) xs ys else some false
   |_,_=>none)
  |.tup _,y=>if bV y=true then some false else none
  |x,.tup _=>if bV x=true then some false else none
  |x,y=>if (bV x&&bV y)=true then some (eY x y) else none
noncomputable def pv(x y:D):Mo Bool:=fun M=>match bA M 20 x y with
 |some b=>some (.ok b,M)
 |none=>none
noncomputable def iY(M:MH)(x:D):List D->Option Bool
 |[]=>some false
 |d::ds=>match bA M 8 d x with
  |none=>none
  |some b=>match iY M x ds with
   |none=>none
   |some c=>some (b||c)
noncomputable def hY(x:D)(ds:List D):Mo Bool:=fun M=>match iY M x ds with
 |some b=>some (.ok b,M)
 |none=>none
noncomputable def bq(kvs:List (Ky×D))(k:Ky):Option D:=(kvs.find? fun kv=>decide (kv.1=k)).map (·.2)
noncomputable def ee(kvs:List (Ky×D))(k:Ky)(v:D):List (Ky×D) :=
 if (kvs.any fun kv=>decide (kv.1=k))=true then kvs.map (fun kv=>if kv.1=k then (kv.1,v) else kv) else kvs++[(k,v)]
noncomputable def dK:Ky->D
 |.inl i=>.int i
 |.inr x=>.str x
noncomputable def sgn(c:Nat):D:=.str ⟨#[c]⟩
noncomputable def k8(n:Nat)(i:Int):Option Nat:=if 0<=i then (if i<n then some i.toNat else none) else if -(n:Int)<=i then some (i+n).toNat else none
noncomputable def cz{α:Type}(xs:List α)(i:Int):Option α:=(k8 xs.length i).bind fun j=>xs[j]?
noncomputable def d6(n d:Nat):Option Int->Nat
 |none=>d
 |some v=>if v<0 then (v+(n:Int)).toNat else min v.toNat n
noncomputable def cutD{α:Type}(xs:List α)(lo hi:Option Int):List α:=(xs.drop (d6 xs.length 0 lo)).take (d6 xs.length xs.length hi-d6 xs.length 0 lo)
noncomputable def kL(j i:Str):Bool:=!(Builtin.Str.occurrences j i 0 j.length 1).isEmpty
noncomputable def C5(a:Str)(n:Nat):Str:=⟨(yq n a.cps).foldl (·++·) #[]⟩
noncomputable def fm(op:Operator)(x y:D):Mo D:=match op,x,y with
 |.Add,.int i,.int j=>pure (.int (i+j))
 |.Add,.str a,.str b=>do need (a.length+b.length<=zg);pure (.str (a++b))
 |.Add,.ob i,.ob j=>do
  let xs<-getL i
  let ys<-getL j
  need (xs.length+ys.length<=zg)
  bI (.lst (xs++ys))
 |.Add,.tup xs,.tup ys=>do need (xs.length+ys.length<=zg);pure (.tup (xs++ys))
 |.Sub,.int i,.int j=>pure (.int (i-j))
 |.Mult,.int i,.int j=>do need ((-(2 ^ 64)<i/\i<2 ^ 64)\/(-(2 ^ 64)<j/\j<2 ^ 64));pure (.int (i*j))
 |.FloorDiv,.int i,.int j=>do need (0<j/\j<1073741824);pure (.int (i / j))
 |.Mod,.int i,.int j=>do need (0<j);pure (.int (i % j))
 |.Pow,.int i,.int j=>do need (0<=j/\j<=1000000/\i.natAbs<2 ^ 64);pure (.int (i ^ j.toNat))
 |.Mult,.str a,.int j=>do need (2<=j/\j<1000/\0<a.length/\a.length<1000);pure (.str (C5 a j.toNat))
 |_,_,_=>Mo.stop
noncomputable def inD(x y:D):Mo Bool:=match y with
 |.str j=>(match x with
  |.str i=>pure (kL j i)
  |_=>Mo.stop)
 |.tup ds=>hY x ds
 |.fl ds=>hY x ds
 |.ob i=>do
  let o<-getM i
  (match o with
  |.lst ds=>hY x ds
  |.aO kvs=>do let k<-lift (fq x);pure (bq kvs k).isSome
  )
 |_=>Mo.stop
noncomputable def Bx(x y:D):Option Bool:=match x,y with
 |.int i,.int j=>some (decide (i<j))
 |.str a,.str b=>some (decide (a.cps.toList<b.cps.toList))
 |_,_=>none
noncomputable def Rj(x y:D):Option Bool:=match x,y with
 |.int i,.int j=>some (decide (i<=j))
 |.str a,.str b=>some (!decide (b.cps.toList<a.cps.toList))
 |_,_=>none
noncomputable def k9:D->Bool
 |.non=>true
 |_=>false
noncomputable def Rm(x y:D):Mo Bool:=match y with
 |.bl b=>(match b,x with
  |true,.bl c=>pure c
  |_,_=>Mo.stop)
 |y=>do need (k9 y=true);pure (k9 x)
noncomputable def bJ(op:CmpOp)(x y:D):Mo Bool:=match op with
 |.Eq=>pv x y
 |.NotEq=>do let b<-pv x y;pure (!b)
 |.Lt=>lift (Bx x y)
 |.LtE=>lift (Rj x y)
 |.Gt=>(match x,y with
  |.int i,.int j=>pure (decide (j<i))
  |_,_=>Mo.stop)
 |.GtE=>(match x,y with
  |.int i,.int j=>pure (decide (j<=i))
  |_,_=>Mo.stop)
 |.In=>inD x y
 |.NotIn=>do let b<-inD x y;pure (!b)
 |.Is=>Rm x y
 |.IsNot=>do need (k9 y=true);pure (!k9 x)
noncomputable def ir(x y:D):Mo D:=match x,y with
 |.tup ds,.int i=>lift (cz ds i)
 |.fl ds,.int i=>lift (cz ds i)
 |.str s,.int i=>do need (s.length<=zg);let c<-lift (cz s.cps.toList i);pure (sgn c)
 |.ob k,y=>do
  let o<-getM k
  (match o with
  |.lst ds=>(match y with
   |.int i=>lift (cz ds i)
   |_=>Mo.stop)
  |.aO kvs=>do let q<-lift (fq y);lift (bq kvs q)
  )
 |_,_=>Mo.stop
noncomputable def setIx(x y v:D):Mo Unit:=match x with
 |.ob k=>do
  let o<-getM k
  (match o with
  |.lst ds=>(match y with
   |.int i=>do let j<-lift (k8 ds.length i);e8 k (.lst (ds.set j v))
   |_=>Mo.stop)
  |.aO kvs=>do let q<-lift (fq y);need (kvs.length<zg);e8 k (.aO (ee kvs q v))
  )
 |_=>Mo.stop
noncomputable def gi(x:D)(lo hi:Option Int):Mo D:=match x with
 |.str s=>do need (s.length<=zg);pure (.str ⟨(cutD s.cps.toList lo hi).toArray⟩)
 |.tup ds=>pure (.tup (cutD ds lo hi))
 |.ob k=>do let ds<-getL k;bI (.lst (cutD ds lo hi))
 |.fl ds=>bI (.lst (cutD ds lo hi))
 |_=>Mo.stop
noncomputable def kx(x:D):Mo Bool:=match x with
 |.non=>pure false
 |.bl b=>pure b
 |.int i=>pure (i != 0)
 |.str s=>do need (s.length<=zg);pure ((s.length:Int) != 0)
 |.tup ds=>pure (!ds.isEmpty)
 |.fl ds=>pure (!ds.isEmpty)
 |.ob k=>do
  let o<-getM k
  (match o with
  |.lst ds=>pure (!ds.isEmpty)
  |.aO kvs=>pure (!kvs.isEmpty)
  )
noncomputable def jO(x:D):Mo (List D):=match x with
 |.tup ds=>pure ds
 |.fl ds=>pure ds
 |.ob k=>getL k
 |_=>Mo.stop
noncomputable def pe(x:D):Mo (List D):=match x with
 |.fl ds=>pure ds
 |.ob k=>getL k
 |_=>Mo.stop
noncomputable def bG:D->Option Bool
 |.bl b=>some b
 |_=>none
noncomputable def CG:D->Option Str
 |.str x=>some x
 |_=>none
noncomputable def intD:D->Option Int
 |.int i=>some i
 |_=>none
noncomputable def ie:List D->Option (List Str)
 |[]=>some []
 |d::ds=>match CG d,ie ds with
  |some x,some xs=>some (x::xs)
  |_,_=>none
noncomputable def allI:List D->Option (List Int)
 |[]=>some []
 |d::ds=>match intD d,allI ds with
  |some x,some xs=>some (x::xs)
  |_,_=>none
noncomputable def dj:List D->Option (List (Ky×D))
 |[]=>some []
 |d::r=>match d with
  |.tup [x,v]=>(match fq x,dj r with
   |some k,some kvs=>some ((k,v)::kvs)
   |_,_=>none)
  |_=>none
noncomputable def iH(kvs:List (Ky×D)):List (Ky×D)->List (Ky×D)
 |[]=>kvs
 |p::r=>iH (ee kvs p.1 p.2) r
inductive Bl where
 |len|tuple|list|repr|all|any|min2|max2|abs|dict1|minL
 deriving DecidableEq
noncomputable def dR(b:Bl)(xs:List D):Mo D:=match b,xs with
 |.len,[.str s]=>do need (s.length<=zg);pure (.int s.length)
 |.len,[.ob k]=>do
  let o<-getM k
  (match o with
  |.lst ds=>pure (.int ds.length)
  |.aO kvs=>pure (.int kvs.length)
  )
 |.len,[.tup ds]=>pure (.int ds.length)
 |.len,[.fl ds]=>pure (.int ds.length)
 |.tuple,[.tup ds]=>pure (.tup ds)
 |.tuple,[.fl ds]=>pure (.tup ds)
 |.tuple,[.ob k]=>do let ds<-getL k;pure (.tup ds)
 |.list,[x]=>do let ds<-jO x;bI (.lst ds)
 |.all,[.ob k]=>do let ds<-getL k;let bs<-lift (ds.mapM bG);pure (.bl (bs.all id))
 |.any,[.ob k]=>do let ds<-getL k;let bs<-lift (ds.mapM bG);pure (.bl (bs.any id))
 |.dict1,[.tup ds]=>do let ps<-lift (dj ds);bI (.aO (iH [] ps))
 |.dict1,[.ob k]=>do let kvs<-getD k;bI (.aO kvs)
 |_,_=>Mo.stop
inductive Ty where
 |int|str|bool|list|tuple|dict
 deriving DecidableEq
noncomputable def l7(t:Ty)(x:D):Mo Bool:=match x with
 |.non=>pure false
 |.bl _=>pure (t==.bool||t==.int)
 |.int _=>pure (t==.int)
 |.str _=>pure (t==.str)
 |.tup _=>pure (t==.tuple)
 |.fl _=>pure (t==.list)
 |.ob k=>do
  let o<-getM k
  (match o with
  |.lst _=>pure (t==.list)
  |.aO _=>pure (t==.dict)
  )
inductive Mt where
 |append|insert|join|get
 |extend
 deriving DecidableEq
noncomputable def lI(m:Mt)(x:D):Mo Unit:=match m,x with
 |.append,.ob k=>do let _<-getL k;pure ()
 |.insert,.ob k=>do let _<-getL k;pure ()
 |.extend,.ob k=>do let _<-getL k;pure ()
 |.join,.str _=>pure ()
 |.get,.ob k=>do let _<-getD k;pure ()
 |_,_=>Mo.stop
noncomputable def NY:D->Nat->Bool
 |.ob j,k=>j==k
 |_,_=>false
noncomputable def tZ:D->Option Str
 |.str x=>some x
 |_=>none
noncomputable def glue(sep:List Nat):List (List Nat)->List Nat
 |[]=>[]
 |[x]=>x
 |x::y::r=>x++sep++glue sep (y::r)
noncomputable def ke(sep:Str)(ys:List Str):Str:=⟨(glue sep.cps.toList (ys.map (·.cps.toList))).toArray⟩
noncomputable def T3(x:D):Mo (List D):=match x with
 |.tup ds=>pure ds
 |.ob k=>getL k
 |_=>Mo.stop
noncomputable def ka(m:Mt)(x:D)(xs:List D):Mo D:=match m,x,xs with
 |.append,.ob k,[v]=>do let ds<-getL k;need (ds.length<zg);e8 k (.lst (ds++[v]));pure .non
 |.join,.str t,[.ob k]=>do let ds<-getL k;let ys<-lift (ds.mapM tZ);need ((ys.map (·.length)).sum+ys.length*t.length<=16777216);pure (.str (ke t ys))
 |.get,.ob k,[y,v]=>do let kvs<-getD k;let q<-lift (fq y);pure ((bq kvs q).getD v)
 |.extend,.ob k,[y]=>do let es<-T3 y;let ds<-getL k;need (ds.length+es.length<=zg/\NY y k=false);e8 k (.lst (ds++es));pure .non
 |_,_,_=>Mo.stop
noncomputable def nu:D->Option Str
 |.int i=>if i.natAbs<2 ^ 64 then some (Str.ofString (toString i)) else none
 |_=>none
set_option genSizeOf false
set_option genInjectivity false
mutual
inductive IE where
 |var (i:Nat)|cint (i:Int)|cbl (b:Bool)|cnon|cstr (x:Str)
 |glb (x:Str)
 |bin (op:Operator) (a b:IE)
 |cmp (op:CmpOp) (a b:IE)
 |cmp2 (op op':CmpOp) (a b c:IE)
 |and (a b:IE)|or (a b:IE)|not (a:IE)
 |ifE (c:IC) (a b:IE)
 |tup (es:eZ)|lst (es:eZ)|dic0
 |idx (a b:IE)|slc (a:IE) (lo hi:nr)
 |call (f:Str) (es:eZ)|blt (b:Bl) (es:eZ)
 |sortL (a:IE)
 |sset (a:IE)
 |srtK (a:IE)
 |lsk (a:IE)
 |rfs (es:eZ)
 |strI (a:IE)
 |neg (a:IE)
 |isI (a:IE) (t:Ty)
 |mth (m:Mt) (a:IE) (es:eZ)
 |comp (j:Nat) (it:IT) (c:oJ) (e:IE)
inductive eZ where
 |nil|cons (e:IE) (es:eZ)
inductive nr where
 |none|some (e:IE)
inductive IT where
 |seq (e:IE)|rng1 (a:IE)|ue (a b:IE)
inductive IC where
 |cmp (e:IE)|tru (e:IE)|not (c:IC)|and (a b:IC)|or (a b:IC)
inductive oJ where
 |none|some (c:IC)
end
inductive IP where
 |seq (e:IE)|enum (e:IE)
mutual
inductive IS where
 |set (i:Nat) (e:IE)|setIx (o i e:IE)|expr (e:IE)|ret (e:IE)|retN|pass|brk|cnt
 |halt
 |rz
 |ifS (c:IC) (a b:aE)|forS (i:Nat) (it:IT) (b:aE)|forP (i j:Nat) (it:IP) (b:aE)
 |whileS (c:IC) (b:aE)
inductive aE where
 |nil|cons (s:IS) (r:aE)
end
set_option genSizeOf true
set_option genInjectivity true
noncomputable def jL(a b:Str):Bool:=!decide (b.cps.toList<a.cps.toList)
noncomputable def FA(a b:Int):Bool:=decide (a<=b)
noncomputable def a6(xs:List Str):List Str:=xs.mergeSort jL
noncomputable def sortI(xs:List Int):List Int:=xs.mergeSort FA
theorem rW(a b c:Str)(h1:jL a b=true)(h2:jL b c=true):jL a c=true:=by
 simp only[jL,yT,decide_eq_false_iff_not,vB]at *;exact List.le_trans h1 h2
theorem Fz(a b:Str):(jL a b||jL b a)=true:=by
 simp only[jL,yU,yT,decide_eq_false_iff_not,vB];exact List.le_total _ _
theorem HU{a b:Str}(h1:jL a b=true)(h2:jL b a=true):a=b:=by
 simp only[jL,yT,decide_eq_false_iff_not,vB]at *;have e:=List.le_antisymm h1 h2;cases a;cases b;congr 1;exact xQ.mp e
theorem aP(xs:List Str):(a6 xs).Perm xs:=wN _ _
theorem oP(xs:List Str):(a6 xs).Pairwise fun a b=>jL a b=true:=wg rW Fz xs
theorem lH{xs ys:List Str}(p:ys.Perm xs)(h:ys.Pairwise fun a b=>jL a b=true):ys=a6 xs :=
 List.Perm.eq_of_pairwise (fun _ _ _ _=>HU) h (oP xs) (p.trans (aP xs).symm)
theorem CP{xs ys:List Str}(p:ys.Perm xs):a6 ys=a6 xs:=lH ((aP ys).trans p) (oP ys)
theorem sortI_perm(xs:List Int):(sortI xs).Perm xs:=wN _ _
theorem Hg(xs:List Int):(sortI xs).Pairwise fun a b=>a<=b:=by
 have:=wg (le:=FA) (fun a b c h1 h2=>by simp only[FA,decide_eq_true_eq]at *;omega) (fun a b=>by simp only[FA,yU,decide_eq_true_eq];omega) xs
 exact this.imp fun h=>by simpa [FA] using h
theorem CT{xs ys:List Int}(p:ys.Perm xs)(h:ys.Pairwise fun a b=>a<=b):ys=sortI xs :=
 List.Perm.eq_of_pairwise (fun _ _ _ _=>Int.le_antisymm) h (Hg xs) (p.trans (sortI_perm xs).symm)
theorem jX(xs:List Str):ie (xs.map .str)=some xs:=by
 induction xs with
 |nil=>rfl
 |cons x r ih=>simp only[zG,ie,CG,ih]
theorem rn:∀{ds:List D} {xs:List Str},ie ds=some xs->ds=xs.map .str
 |[],xs,h=>by cases h;rfl
 |d::ds,xs,h=>by
  simp only[ie]at h;cases d <;> simp only[CG,reduceCtorEq]at h;cases e:ie ds with
  |none=>rw[e]at h;cases h
  |some ys=>rw[e]at h;cases h;rw[rn e];rfl
theorem B7:∀{ds:List D} {xs:List Int},allI ds=some xs->ds=xs.map .int
 |[],xs,h=>by cases h;rfl
 |d::ds,xs,h=>by
  simp only[allI]at h;cases d <;> simp only[intD,reduceCtorEq]at h;cases e:allI ds with
  |none=>rw[e]at h;cases h
  |some ys=>rw[e]at h;cases h;rw[B7 e];rfl
noncomputable def dC(xs:List Str)(x:Str):List Str:=if x∈xs then xs else xs++[x]
noncomputable def aF(xs:List Str):List Str->List Str
 |[]=>xs
 |x::r=>aF (dC xs x) r
noncomputable def ub(x:D):Mo D:=do
 let ds<-pe x
 let xs<-lift (ie ds)
 need ((aF [] xs).length<64)
 bI (.lst ((a6 (aF [] xs)).map .str))
noncomputable def strKeys:List (Ky×D)->Option (List Str)
 |[]=>some []
 |kv::r=>match kv.1,strKeys r with
  |.inr x,some xs=>some (x::xs)
  |_,_=>none
noncomputable def uS(x:D):Mo D:=match x with
 |.ob k=>do
  let kvs<-getD k
  let xs<-lift (strKeys kvs)
  need (xs.length<64)
  bI (.lst ((a6 xs).map .str))
 |_=>Mo.stop
noncomputable def DR(x:D):Mo D:=match x with
 |.ob k=>do
  let kvs<-getD k
  bI (.lst (kvs.map fun kv=>dK kv.1))
 |_=>Mo.stop
noncomputable def pN(ds:List D):Option (List D):=match ie ds with
 |some xs=>some ((a6 xs).map .str)
 |none=>match allI ds with
  |some xs=>some ((sortI xs).map .int)
  |none=>none
end L3
namespace L3
open PySem
structure Ctx where
 fn:Str->List D->Mo D
 gl:Str->Option D
 srt:List D->Option (List D)
 wh:Nat
 rz:Str->List D->MH->Option MH
 rf:List D->MH->Option MH
inductive Fl where
 |nx (ρ:Ev)|rt (d:D)|bk (ρ:Ev)|ct (ρ:Ev)
structure Src where
 ck:Option (Nat×List D)
 ds:List D
noncomputable def ou(ck:Option (Nat×List D))(M:MH):Prop:=match ck with
 |none=>True
 |some (i,all)=>M[i]?=some (.lst all)
noncomputable def jA(x:D):Mo Src:=match x with
 |.tup ds=>pure ⟨none,ds⟩
 |.fl ds=>pure ⟨none,ds⟩
 |.str s=>do need (s.length<=zg);pure ⟨none,s.cps.toList.map sgn⟩
 |.ob k=>do let ds<-getL k;pure ⟨some (k,ds),ds⟩
 |_=>Mo.stop
noncomputable def small(i:Int):Prop:=-(2 ^ 62)<=i/\i<2 ^ 62
noncomputable instance (i:Int):Decidable (small i):=by unfold small;infer_instance
noncomputable def fM(lo hi:Int):List D:=(List.range (hi-lo).toNat).map fun (k:Nat)=>D.int (lo+k)
open Classical in
noncomputable def cR(ck:Option (Nat×List D)):Mo Unit:=fun M=>if ou ck M then some (.ok (),M) else none
noncomputable def dU(ck:Option (Nat×List D))(i:Nat)(body:Ev->Mo Fl):List D->Ev->Mo Fl
 |[],ρ=>do cR ck;pure (.nx ρ)
 |d::ds,ρ=>do
  cR ck
  let f<-body (ρ.set i (some d))
  (match f with
  |.nx ρ'=>dU ck i body ds ρ'
  |.ct ρ'=>dU ck i body ds ρ'
  |.bk ρ'=>pure (.nx ρ')
  |.rt v=>pure (.rt v))
noncomputable def fC(ds:List D):List D:=ds.mapIdx fun n d=>.tup [.int n,d]
noncomputable def nU(x:D):Mo Src:=match x with
 |.tup ds=>pure ⟨none,fC ds⟩
 |.fl ds=>pure ⟨none,fC ds⟩
 |.ob k=>do let ds<-getL k;pure ⟨some (k,ds),fC ds⟩
 |_=>Mo.stop
noncomputable def pairD:D->Option (D×D)
 |.tup [x,y]=>some (x,y)
 |_=>none
noncomputable def fv(ck:Option (Nat×List D))(i j:Nat)(body:Ev->Mo Fl):List D->Ev->Mo Fl
 |[],ρ=>do cR ck;pure (.nx ρ)
 |d::ds,ρ=>do
  cR ck
  let p<-lift (pairD d)
  let f<-body ((ρ.set i (some p.1)).set j (some p.2))
  (match f with
  |.nx ρ'=>fv ck i j body ds ρ'
  |.ct ρ'=>fv ck i j body ds ρ'
  |.bk ρ'=>pure (.nx ρ')
  |.rt v=>pure (.rt v))
noncomputable def d9(c:Ev->Mo Bool)(body:Ev->Mo Fl):Nat->Ev->Mo Fl
 |0,_=>Mo.stop
 |n+1,ρ=>do
  let b<-c ρ
  if b=true then do
   let f<-body ρ
   (match f with
   |.nx ρ'=>d9 c body n ρ'
   |.ct ρ'=>d9 c body n ρ'
   |.bk ρ'=>pure (.nx ρ')
   |.rt v=>pure (.rt v))
  else pure (.nx ρ)
noncomputable def eg(ck:Option (Nat×List D))(c:Ev->Mo Bool)(e:Ev->Mo D)(ρ:Ev):List D->Mo (List D)
 |[]=>do cR ck;pure []
 |d::ds=>do
  cR ck
  let b<-c (some d::ρ)
  if b=true then do
   let y<-e (some d::ρ)
   let ys<-eg ck c e ρ ds
   pure (y::ys)
  else eg ck c e ρ ds
noncomputable def mq(ρ:Ev)(i:Nat):Mo D:=match ρ[i]? with
 |some (some d)=>pure d
 |_=>Mo.stop
noncomputable def ug(Γ:Ctx)(xs:List D):Mo D:=fun M=>match Γ.rf xs M with
 |some M'=>some (.ok (.bl true),M')
 |none=>none
mutual
noncomputable def ae(Γ:Ctx):IE->Ev->Mo D
 |.var i,ρ=>mq ρ i
 |.cint i,_=>pure (.int i)
 |.cbl b,_=>pure (.bl b)
 |.cnon,_=>pure .non
 |.cstr x,_=>pure (.str x)
 |.glb x,_=>lift (Γ.gl x)
 |.bin op a b,ρ=>do let x<-ae Γ a ρ;let y<-ae Γ b ρ;fm op x y
 |.cmp op a b,ρ=>do let x<-ae Γ a ρ;let y<-ae Γ b ρ;let k<-bJ op x y;pure (.bl k)
 |.cmp2 op op' a b c,ρ=>do
  let x<-ae Γ a ρ
  let y<-ae Γ b ρ
  let k<-bJ op x y
  if k=true then do let z<-ae Γ c ρ;let k'<-bJ op' y z;pure (.bl k') else pure (.bl false)
 |.and a b,ρ=>do let x<-ae Γ a ρ;let k<-lift (bG x);if k=true then ae Γ b ρ else pure (.bl false)
 |.or a b,ρ=>do let x<-ae Γ a ρ;let k<-lift (bG x);if k=true then pure (.bl true) else ae Γ b ρ
 |.not a,ρ=>do let x<-ae Γ a ρ;let k<-lift (bG x);pure (.bl (!k))
 |.ifE c a b,ρ=>do let k<-a9 Γ c ρ;if k=true then ae Γ a ρ else ae Γ b ρ
 |.tup es,ρ=>do let xs<-bu Γ es ρ;need (xs.length<=zg);pure (.tup xs)
 |.lst es,ρ=>do let xs<-bu Γ es ρ;need (xs.length<=zg);bI (.lst xs)
 |.dic0,_=>bI (.aO [])
 |.idx a b,ρ=>do let x<-ae Γ a ρ;let y<-ae Γ b ρ;ir x y
 |.slc a lo hi,ρ=>do let x<-ae Γ a ρ;let l<-gY Γ lo ρ;let h<-gY Γ hi ρ;gi x l h
 |.call f es,ρ=>do let xs<-bu Γ es ρ;Γ.fn f xs
 |.blt b es,ρ=>do let xs<-bu Γ es ρ;dR b xs
 |.comp j it c e,ρ=>do
  let s<-ed Γ it ρ
  need (s.ds.length<=zg)
  let ys<-eg s.ck (i0 Γ c) (ae Γ e) (ρ.set j none) s.ds
  bI (.lst ys)
 |.sset a,ρ=>do let x<-ae Γ a ρ;ub x
 |.srtK a,ρ=>do let x<-ae Γ a ρ;uS x
 |.lsk a,ρ=>do let x<-ae Γ a ρ;DR x
 |.rfs es,ρ=>do let xs<-bu Γ es ρ;ug Γ xs
 |.sortL a,ρ=>do
  let x<-ae Γ a ρ
  let ds<-pe x
  let ys<-lift (Γ.srt ds)
  bI (.lst ys)
 |.strI a,ρ=>do let x<-ae Γ a ρ;let s<-lift (nu x);pure (.str s)
 |.neg a,ρ=>do
  let x<-ae Γ a ρ
  (match x with
  |.int i=>pure (.int (-i))
  |_=>Mo.stop)
 |.isI a t,ρ=>do let x<-ae Γ a ρ;let k<-l7 t x;pure (.bl k)
 |.mth m a es,ρ=>do let x<-ae Γ a ρ;lI m x;let xs<-bu Γ es ρ;ka m x xs
noncomputable def bu(Γ:Ctx):eZ->Ev->Mo (List D)
 |.nil,_=>pure []
 |.cons e es,ρ=>do let x<-ae Γ e ρ;let xs<-bu Γ es ρ;pure (x::xs)
noncomputable def gY(Γ:Ctx):nr->Ev->Mo (Option Int)
 |.none,_=>pure none
 |.some e,ρ=>do
  let x<-ae Γ e ρ
  (match x with
  |.int i=>pure (some i)
  |_=>Mo.stop)
noncomputable def ed(Γ:Ctx):IT->Ev->Mo Src
 |.seq e,ρ=>do let x<-ae Γ e ρ;jA x
 |.rng1 a,ρ=>do
  let x<-ae Γ a ρ
  (match x with
  |.int i=>do need (small i);pure ⟨none,fM 0 i⟩
  |_=>Mo.stop)
 |.ue a b,ρ=>do
  let x<-ae Γ a ρ
  let y<-ae Γ b ρ
  (match x,y with
  |.int i,.int j=>do need (small i/\small j);pure ⟨none,fM i j⟩
  |_,_=>Mo.stop)
noncomputable def a9(Γ:Ctx):IC->Ev->Mo Bool
 |.cmp e,ρ=>do let x<-ae Γ e ρ;lift (bG x)
 |.tru e,ρ=>do let x<-ae Γ e ρ;kx x
 |.not c,ρ=>do let k<-a9 Γ c ρ;pure (!k)
 |.and a b,ρ=>do let k<-a9 Γ a ρ;if k=true then a9 Γ b ρ else pure false
 |.or a b,ρ=>do let k<-a9 Γ a ρ;if k=true then pure true else a9 Γ b ρ
noncomputable def i0(Γ:Ctx):oJ->Ev->Mo Bool
 |.none,_=>pure true
 |.some c,ρ=>a9 Γ c ρ
end
noncomputable def ky(Γ:Ctx):IP->Ev->Mo Src
 |.seq e,ρ=>do let x<-ae Γ e ρ;jA x
 |.enum e,ρ=>do let x<-ae Γ e ρ;nU x
mutual
noncomputable def bz(Γ:Ctx):IS->Ev->Mo Fl
 |.set i e,ρ=>do let x<-ae Γ e ρ;pure (.nx (ρ.set i (some x)))
 |.setIx o i e,ρ=>do let v<-ae Γ e ρ;let x<-ae Γ o ρ;let y<-ae Γ i ρ;setIx x y v;pure (.nx ρ)
 |.expr e,ρ=>do let _<-ae Γ e ρ;pure (.nx ρ)
 |.ret e,ρ=>do let x<-ae Γ e ρ;pure (.rt x)
 |.retN,_=>pure (.rt .non)
 |.pass,ρ=>pure (.nx ρ)
 |.brk,ρ=>pure (.bk ρ)
 |.cnt,ρ=>pure (.ct ρ)
 |.halt,_=>Mo.stop
 |.rz,_=>Mo.stop
 |.ifS c a b,ρ=>do let k<-a9 Γ c ρ;if k=true then aq Γ a ρ else aq Γ b ρ
 |.forS i it b,ρ=>do let s<-ed Γ it ρ;dU s.ck i (aq Γ b) s.ds ρ
 |.forP i j it b,ρ=>do let s<-ky Γ it ρ;fv s.ck i j (aq Γ b) s.ds ρ
 |.whileS c b,ρ=>d9 (a9 Γ c) (aq Γ b) Γ.wh ρ
noncomputable def aq(Γ:Ctx):aE->Ev->Mo Fl
 |.nil,ρ=>pure (.nx ρ)
 |.cons s r,ρ=>do
  let f<-bz Γ s ρ
  (match f with
  |.nx ρ'=>aq Γ r ρ'
  |.rt v=>pure (.rt v)
  |.bk ρ'=>pure (.bk ρ')
  |.ct ρ'=>pure (.ct ρ'))
end
noncomputable def Bt:Option (Out Fl×MH)->Option (Ev×MH)
 |some (.ok (.nx ρ),M)=>some (ρ,M)
 |_=>none
noncomputable def rR:Option (Out Fl×MH)->Option (Ev×MH)
 |some (.ok (.nx ρ),M)=>some (ρ,M)
 |some (.ok (.ct ρ),M)=>some (ρ,M)
 |_=>none
noncomputable def oj(ck:Option (Nat×List D))(i:Nat)(fb:Ev->Mo Fl)(zb:Ev->MH->Option MH):List D->Ev->MH->Option MH
 |[],_,_=>none
 |d::ds,ρ,M=>match cR ck M with
  |none=>none
  |some _=>match rR (fb (ρ.set i (some d)) M) with
   |some (ρ',M1)=>oj ck i fb zb ds ρ' M1
   |none=>zb (ρ.set i (some d)) M
noncomputable def MK(Γ:Ctx)(e:IE)(ρ:Ev)(M:MH):Option MH:=match e with
 |.call f es=>if f==("row_at":Str) then (match bu Γ es ρ M with
  |some (.ok xs,M1)=>Γ.rz f xs M1
  |_=>none) else none
 |_=>none
mutual
noncomputable def rL(Γ:Ctx):IS->Ev->MH->Option MH
 |.rz,_,M=>some M
 |.ifS c a b,ρ,M=>match a9 Γ c ρ M with
  |some (.ok k,M1)=>if k=true then cU Γ a ρ M1 else cU Γ b ρ M1
  |_=>none
 |.forS i it b,ρ,M=>match ed Γ it ρ M with
  |some (.ok s,M1)=>oj s.ck i (aq Γ b) (cU Γ b) s.ds ρ M1
  |_=>none
 |.expr e,ρ,M=>MK Γ e ρ M
 |_,_,_=>none
noncomputable def cU(Γ:Ctx):aE->Ev->MH->Option MH
 |.nil,_,_=>none
 |.cons s r,ρ,M=>match Bt (bz Γ s ρ M) with
  |some (ρ',M1)=>cU Γ r ρ' M1
  |none=>rL Γ s ρ M
end
noncomputable def oQ(Γ:Ctx)(n:Nat)(b:aE)(xs:List D):Mo D:=do
 let f<-aq Γ b (xs.map some++yq (n-xs.length) none)
 (match f with
 |.nx _=>pure .non
 |.rt v=>pure v
 |.bk _=>Mo.stop
 |.ct _=>Mo.stop)
structure Fd where
 n:Nat
 p:Nat
 b:aE
noncomputable def cv(tab:List (Str×Fd))(gl:Str->Option D)(srt:List D->Option (List D))(wh:Nat):Nat->Ctx
 |0=>⟨fun _ _=>Mo.stop,gl,srt,wh,fun _ _ _=>none,fun _ _=>none⟩
 |k+1=>⟨fun f xs=>match tab.lookup f with
  |some d=>do need (xs.length=d.p);oQ (cv tab gl srt wh k) d.n d.b xs
  |none=>Mo.stop,gl,srt,wh,fun f xs M=>match tab.lookup f with
  |some d=>if xs.length=d.p then cU (cv tab gl srt wh k) d.b (xs.map some++yq (d.n-xs.length) none) M else none
  |none=>none,(cv tab gl srt wh k).rz "shown"⟩
structure Sc where
 sc:Scope
 N:List Str
 fns:List Str
 gls:List Str
 aY:List Str
noncomputable def Sc.kind(S:Sc)(x:Str):Option NameKind:=S.sc.names.lookup x
noncomputable def Sc.Ew(S:Sc)(x:Str):Bool:=S.kind x==some .local||S.kind x==some .cell||S.kind x==some .free
noncomputable def Sc.loc(S:Sc)(x:Str):Bool:=S.kind x==some .local||S.kind x==some .cell
noncomputable def Sc.bE(S:Sc)(x:Str):Bool:=S.kind x==some .globalImplicit
noncomputable def slot(N:List Str)(x:Str):Option Nat:=N.findIdx? (·==x)
noncomputable def Ei(x:Str)(n:Nat):Option Bl :=
 if x==("len":Str)&&n==1 then some .len else if x==("tuple":Str)&&n==1 then some .tuple else if x==("list":Str)&&n==1 then some .list
 else if x==("repr":Str)&&n==1 then some .repr else if x==("all":Str)&&n==1 then some .all else if x==("any":Str)&&n==1 then some .any
 else if x==("min":Str)&&n==2 then some .min2 else if x==("max":Str)&&n==2 then some .max2 else if x==("abs":Str)&&n==1 then some .abs else if x==("dict":Str)&&n==1 then some .dict1 else if x==("min":Str)&&n==1 then some .minL else none
noncomputable def bx:Expr->Bool
 |.Starred _ _=>false
 |_=>true
noncomputable def bM(x:Str):Bool:=x != ("__debug__":Str)&&x != ("__classdict__":Str)&&x != ("__name__":Str)
noncomputable def JD:Expr->Bool
 |.Name _ _=>true|.Constant _ _ _=>true|.BinOp _ _ _ _=>true|.Compare _ _ _ _=>true|.BoolOp _ _ _=>true|.UnaryOp _ _ _=>true|.IfExp _ _ _ _=>true
 |.List _ _=>true|.Subscript _ _ _=>true|.Call _ _ _ _=>true|_=>false
noncomputable def Sw:Expr->Bool
 |.Name _ _=>true|.Constant _ _ _=>true|.BinOp _ _ _ _=>true|.Subscript _ _ _=>true|.List _ _=>true|.Tuple _ _ _=>true|.Call _ (_::_) _ _=>true|_=>false
noncomputable def kW:Expr->Bool
 |.ListComp _ _ _ _=>false
 |.SetComp _ _ _ _=>false
 |.DictComp _ _ _ _ _=>false
 |_=>true
noncomputable def blank(N:List Str)(xs:List Str):List Str:=N.map fun y=>if xs.contains y then "" else y
noncomputable def gy(S:Sc)(sc:Scope)(xs:List Str):Bool :=
 sc.kind==.function&&(xs.all fun x=>sc.names.lookup x==some .local&&(x != (".0":Str))&&(x != ("":Str))) &&
 sc.names.all (fun p=>p.2 != .cell&&(p.2 != .local||(xs.contains p.1||p.1==(".0":Str)))) &&
 sc.names.all (fun p=>p.2 != .free||(S.kind p.1==some .cell||S.kind p.1==some .free)) &&
 sc.names.all (fun p=>sc.names.lookup p.1==some p.2&&p.1 != ("":Str))&&(S.N.all fun y=>y != (".0":Str))&&decide (xs++blank S.N xs).Nodup
noncomputable def Sc.comp(S:Sc)(sc:Scope)(xs:List Str):Sc:={ S with sc:=sc,N:=xs++blank S.N xs }
noncomputable def BE(op:Operator):Bool:=op==.Add||op==.Sub||op==.Mult||op==.FloorDiv||op==.Mod||op==.Pow
noncomputable def qh(S:Sc)(f:Str)(len:Nat)(xs:Option eZ):Option IE:=if bM f&&S.bE f then
 (if S.fns.contains f then xs.map (.call f)
 else if S.aY.contains f then (match Ei f len with
  |some b=>xs.map (.blt b)
  |none=>none)
 else none) else none
noncomputable def Cp(t:Str):Option Ty :=
 if t==("int":Str) then some .int else if t==("str":Str) then some .str else if t==("bool":Str) then some .bool
 else if t==("list":Str) then some .list else if t==("tuple":Str) then some .tuple else if t==("dict":Str) then some .dict else none
noncomputable def HL(m:Str)(n:Nat):Option Mt :=
 if m==("append":Str)&&n==1 then some .append else if m==("insert":Str)&&n==2 then some .insert else
 if m==("extend":Str)&&n==1 then some .extend else
 if m==("join":Str)&&n==1 then some .join else if m==("get":Str)&&n==2 then some .get else none
noncomputable def DT(S:Sc)(f t:Str):Bool:=f==("isinstance":Str)&&bM f&&S.bE f&&S.aY.contains f&&bM t&&S.bE t&&S.aY.contains t
noncomputable def DJ(S:Sc)(x:Str):Option IE:=if bM x then (if S.Ew x then (slot S.N x).map .var else if S.bE x&&S.gls.contains x then some (.glb x) else none) else none
noncomputable def GB:Const->Option IE
 |.int i=>some (.cint i)
 |.bool b=>some (.cbl b)
 |.none=>some .cnon
 |.str x=>some (.cstr x)
 |_=>none
noncomputable def Qx:Expr->Bool
 |.Call (.Name f _) _ _ _=>f==("range":Str)
 |_=>false
noncomputable def Eb(r:Expr->Option IE)(a:Expr)(ops:List CmpOp)(bs:List Expr):Option IE:=match ops,bs with
 |[op],[b]=>if behindInMarks op b then none else do let x<-r a;let y<-r b;some (.cmp op x y)
 |[op,op'],[b,c]=>if behindInMarks op' c then none else do let x<-r a;let y<-r b;let z<-r c;some (.cmp2 op op' x y z)
 |_,_=>none
noncomputable def Kd:BoolOp->IE->IE->IE
 |.And=>.and
 |.Or=>.or
noncomputable def Eg(r:Expr->Option IE)(op:BoolOp)(es:List Expr)(p:Pos):Option IE:=match es with
 |[a,b]=>do let x<-r a;let y<-r b;some (Kd op x y)
 |a::b::c::l=>do let x<-r a;let y<-r (.BoolOp op (b::c::l) p);some (Kd op x y)
 |_=>none
noncomputable def QV(r:Expr->Option IE)(op:UnaryOp)(a:Expr):Option IE:=match op with
 |.Not=>do let x<-r a;some (.not x)
 |.USub=>do let x<-r a;some (.neg x)
 |_=>none
noncomputable def QQ(_:Expr->Option IE)(ks:List (Option Expr))(vs:List Expr):Option IE:=match ks,vs with
 |[],[]=>some .dic0
 |_,_=>none
noncomputable def Hb(r:Expr->Option IE)(ro:Option Expr->Option nr)(a b:Expr):Option IE:=match b with
 |.Slice lo hi none _=>do let x<-r a;let l<-ro lo;let h<-ro hi;some (.slc x l h)
 |b=>if JD b then do let x<-r a;let y<-r b;some (.idx x y) else none
noncomputable def NX:Expr->Option (Expr×Str×Pos×Pos)
 |.Call (.Attribute o m p2) [] [] p3=>some (o,m,p2,p3)
 |_=>none
noncomputable def rS:Expr->Option (Str×Pos)
 |.Name t p=>some (t,p)
 |_=>none
noncomputable def Hk:Expr->Option (Pos×Expr×Pos)
 |.Call (.Name g p) [b] [] q=>if g==("set":Str) then some (p,b,q) else none
 |_=>none
noncomputable def Gx:Expr->Bool
 |.Name x _=>x==("_law_some":Str)||x==("_law_here":Str)
 |_=>false
noncomputable def CQ(S:Sc)(r:Expr->Option IE)(f:Str)(as:List Expr):Option IE:=match as with
 |[a]=>(match NX a with
  |some _=>none
  |none=>(match Hk a with
   |some (_,b,_)=>if bx b&&(f==("sorted":Str)&&bM f&&S.bE f&&S.aY.contains f&&(S.bE ("set":Str)&&S.aY.contains ("set":Str))) then do let x<-r b;some (.sset x) else none
   |none =>
    if Gx a then (if bx a&&(f==("sorted":Str)&&bM f&&S.bE f&&S.aY.contains f) then do let x<-r a;some (.srtK x) else none)
    else
    if bx a&&(f==("sorted":Str)&&bM f&&S.bE f&&S.aY.contains f) then do let x<-r a;some (.sortL x) else none))
 |_=>none
noncomputable def kz:Expr->Option (Str×Pos×List Expr×Pos)
 |.Call (.Name f p) as [] q=>some (f,p,as,q)
 |_=>none
noncomputable def Jp(S:Sc)(f:Str)(as:List Expr):Bool:=f==("range":Str)&&bM f&&S.bE f&&S.aY.contains f&&as.all bx
noncomputable def CJ(S:Sc)(r:Expr->Option IE)(f:Str)(as:List Expr)(k:Option IE):Option IE:=match as with
 |[a]=>if (f==("str":Str)&&bM f&&S.bE f&&S.aY.contains f) then (if bx a then do let x<-r a;some (.strI x) else none) else k
 |_=>k
noncomputable def CZ(S:Sc)(f:Str):Bool:=f==("_law_refused":Str)&&bM f&&S.bE f
noncomputable def uf(S:Sc)(f:Str)(xs:Option eZ)(k:Option IE):Option IE:=if CZ S f then xs.map .rfs else k
noncomputable def HZ(S:Sc)(r:Expr->Option IE)(f:Str)(as:List Expr):Option IE:=match as with
 |[a,t]=>(match rS t with
  |some (t',_)=>if DT S f t'&&bx a then (match Cp t' with
   |some k=>do let x<-r a;some (.isI x k)
   |none=>none) else none
  |none=>none)
 |_=>none
noncomputable def Ek(r:Expr->Option IE)(rs:List Expr->Option eZ)(o:Expr)(m:Str)(p2 p3:Pos)(as:List Expr):Option IE:=match as with
 |e::es=>if Sw o&&(p2.endLine==p3.line&&decide ((e::es).length<29)) then (match
   HL m (e::es).length with
   |some k=>do let x<-r o;let xs<-rs (e::es);some (.mth k x xs)
   |none=>none) else none
 |_=>none
noncomputable def NK:Expr->Bool
 |.Name x _=>x==("_law_splits_here":Str)
 |_=>false
noncomputable def HQ(S:Sc)(r:Expr->Option IE)(f:Str)(as:List Expr)(k:Option IE):Option IE:=match as with
 |[a]=>if NK a&&(f==("list":Str)&&bM f&&S.bE f&&S.aY.contains f) then (if bx a then do let x<-r a;some (.lsk x) else none) else k
 |_=>k
noncomputable def Gg(S:Sc)(r:Expr->Option IE)(rs:List Expr->Option eZ)(f:Str)(as:List Expr):Option IE:=match as with
 |e::es=>if f==("sorted":Str) then
  CQ S r f (e::es) else if f==("isinstance":Str) then HZ S r f (e::es) else
  CJ S r f (e::es) <|
  HQ S r f (e::es) <|
  uf S f (rs (e::es)) <|
  qh S f (e::es).length (rs (e::es))
 |_=>none
noncomputable def tj(S:Sc)(r:Expr->Option IE)(rs:List Expr->Option eZ)(f:Expr)(as:List Expr)(p:Pos):Option IE:=match f with
 |.Name g _=>Gg S r rs g as
 |.Attribute o m p2=>Ek r rs o m p2 p as
 |_=>none
noncomputable def CY(S:Sc)(r:Expr->Option IE)(f:Str)(as:List Expr):Option IT:=if Jp S f as then (match as with
 |[a]=>do let x<-r a;some (.rng1 x)
 |[a,b]=>do let x<-r a;let y<-r b;some (.ue x y)
 |_=>none) else none
noncomputable def JF:Expr->Bool
 |.Name _ _=>true|.Subscript _ _ _=>true|.BinOp _ _ _ _=>true|.Call _ _ _ _=>true|.List _ _=>true|.ListComp _ _ _ _=>true|_=>false
noncomputable def lu:BoolOp->IC->IC->IC
 |.And=>.and
 |.Or=>.or
noncomputable def D8(r:Expr->Option IC)(op:BoolOp)(es:List Expr):Option IC:=match es with
 |[a,b]=>do let k<-r a;let j<-r b;some (lu op k j)
 |[a,b,c]=>do let k<-r a;let j<-r b;let l<-r c;some (lu op k (lu op j l))
 |[a,b,c,d]=>do let k<-r a;let j<-r b;let l<-r c;let m<-r d;some (lu op k (lu op j (lu op l m)))
 |_=>none
noncomputable def Ab(S:Sc)(r:Expr->Option IE)(a:Expr)(ops:List CmpOp)(bs:List Expr):Option IE:=match ops,bs with
 |[op],[b]=>if Qx b then
  none
  else Eb r a [op] [b]
 |ops,bs=>Eb r a ops bs
noncomputable def nT:List Comprehension->Option (Str×Pos×Expr×List Expr)
 |[⟨.Name x p,iter,ifs,0⟩]=>some (x,p,iter,ifs)
 |_=>none
mutual
noncomputable def cE(S:Sc):Nat->Expr->Option IE
 |0,_=>none
 |n+1,e=>match e with
  |.Name x _=>DJ S x
  |.Constant c _ _=>GB c
  |.BinOp a op b _=>if BE op then do let x<-cE S n a;let y<-cE S n b;some (.bin op x y) else none
  |.Compare a ops bs _=>Ab S (cE S n) a ops bs
  |.BoolOp op es p=>Eg (cE S n) op es p
  |.UnaryOp op a _=>QV (cE S n) op a
  |.IfExp c a b _=>do let k<-cC S n c;let x<-cE S n a;let y<-cE S n b;some (.ifE k x y)
  |.Tuple es _ _=>do let xs<-mi S n es;some (.tup xs)
  |.List es _=>do let xs<-mi S n es;some (.lst xs)
  |.Dict ks vs _=>QQ (cE S n) ks vs
  |.Subscript a b _=>Hb (cE S n) (cO S n) a b
  |.Call f as ks p=>if ks.isEmpty then tj S (cE S n) (mi S n) f as p else none
  |.ListComp elt gs sc _=>(match nT gs with
   |some (x,_,iter,ifs)=>if gy S sc [x] then do
     let it<-cT S n iter
     let c<-GG (S.comp sc [x]) n ifs
     let e<-cE (S.comp sc [x]) n elt
     some (.comp ((slot S.N x).getD S.N.length) it c e) else none
   |none=>none)
  |_=>none
noncomputable def mi(S:Sc):Nat->List Expr->Option eZ
 |0,_=>none
 |_+1,[]=>some .nil
 |n+1,e::es=>if bx e then do let x<-cE S n e;let xs<-mi S n es;some (.cons x xs) else none
noncomputable def cO(S:Sc):Nat->Option Expr->Option nr
 |0,_=>none
 |_+1,none=>some .none
 |n+1,some e=>do let x<-cE S n e;some (.some x)
noncomputable def cT(S:Sc):Nat->Expr->Option IT
 |0,_=>none
 |n+1,e=>match kz e with
  |some (f,_,as,_)=>if f==("range":Str) then CY S (cE S n) f as else (cE S n e).map .seq
  |none=>if JF e then (cE S n e).map .seq else none
noncomputable def cC(S:Sc):Nat->Expr->Option IC
 |0,_=>none
 |n+1,e=>match e with
  |.UnaryOp op a _=>if op==.Not then (cC S n a).map .not else none
  |.BoolOp op es _=>D8 (cC S n) op es
  |.Compare a ops bs _=>(Ab S (cE S n) a ops bs).map .cmp
  |.Name x p=>(cE S n (.Name x p)).map .tru
  |.Call f as ks p=>(cE S n (.Call f as ks p)).map .tru
  |.Subscript a b p=>(cE S n (.Subscript a b p)).map .tru
  |_=>none
noncomputable def GG(S:Sc):Nat->List Expr->Option oJ
 |0,_=>none
 |_+1,[]=>some .none
 |n+1,[c]=>do let k<-cC S n c;some (.some k)
 |_,_=>none
end
noncomputable def Ea:Expr->Option (Expr×List Comprehension×Scope)
 |.ListComp elt gs sc _=>some (elt,gs,sc)
 |_=>none
noncomputable def IL(S:Sc)(n:Nat)(x:Str)(v:Expr):Option IS:=match Ea v with
 |some (elt,gs,sc)=>(match nT gs with
  |some (y,_,iter,ifs)=>if S.loc x&&gy S sc [y] then do
   let i<-slot S.N x
   let it<-cT S n iter
   let c<-GG (S.comp sc [y]) n ifs
   let e<-cE (S.comp sc [y]) n elt
   some (.set i (.comp ((slot S.N y).getD S.N.length) it c e)) else none
  |none=>none)
 |none=>if S.loc x&&kW v then do let i<-slot S.N x;let y<-cE S n v;some (.set i y) else none
noncomputable def IK(S:Sc)(n:Nat)(t:Expr)(v:Expr):Option IS:=match t with
 |.Name x _=>IL S n x v
 |.Subscript o i _=>if JD i then do let y<-cE S n v;let a<-cE S n o;let b<-cE S n i;some (.setIx a b y) else none
 |_=>none
noncomputable def O6(S:Sc)(n:Nat)(ts:List Expr)(v:Expr):Option IS:=match ts with
 |[]=>none
 |t::r=>(match r with
  |[]=>IK S n t v
  |_::_=>none)
noncomputable def J8(S:Sc)(r:Expr->Option IE)(f:Str)(as:List Expr):Option IP:=match as with
 |[]=>none
 |a::l=>(match l with
  |[]=>if bM f&&S.bE f&&S.aY.contains f&&bx a then (r a).map .enum else none
  |_::_=>none)
noncomputable def cP(S:Sc)(n:Nat)(e:Expr):Option IP:=match kz e with
 |some (f,_,as,_)=>if f==("enumerate":Str) then J8 S (cE S n) f as else (cE S n e).map .seq
 |none=>if JF e then (cE S n e).map .seq else none
noncomputable def nC(S:Sc)(n:Nat)(a b iter:Expr)(r:Option aE):Option IS:=match rS a with
 |none=>none
 |some (x,_)=>(match rS b with
  |none=>none
  |some (y,_)=>if S.loc x&&S.loc y then do
   let i<-slot S.N x;let j<-slot S.N y;let it<-cP S n iter;let z<-r;some (.forP i j it z) else none)
noncomputable def DC(S:Sc)(n:Nat)(ts:List Expr)(iter:Expr)(r:Option aE):Option IS:=match ts with
 |[]=>none
 |a::l=>(match l with
  |[]=>none
  |b::l2=>(match l2 with
   |[]=>nC S n a b iter r
   |_::_=>none))
noncomputable def v8(S:Sc)(n:Nat)(t iter:Expr)(r:Option aE):Option IS:=match t with
 |.Name x _=>if S.loc x then do let i<-slot S.N x;let it<-cT S n iter;let y<-r;some (.forS i it y) else none
 |.Tuple ts _ _=>DC S n ts iter r
 |_=>none
noncomputable def sU(o:List Zy)(r:Option IS):Option IS:=match o with
 |[]=>r
 |_::_=>none
noncomputable def Ta:Expr->Bool
 |.Constant c _ _=>(match c with
  |.str _=>true
  |_=>false)
 |_=>false
noncomputable def Nw(as:List Expr):Bool:=match as with
 |[a]=>Ta a
 |_=>false
noncomputable def Q5(S:Sc)(e:Expr):Bool:=match kz e with
 |some (f,_,as,_)=>f==("NoPlace":Str)&&S.bE f&&Nw as
 |none=>false
noncomputable def ER(S:Sc)(a b:Option Expr):IS:=match a with
 |some e=>(match b with
  |none=>if Q5 S e then .rz else .halt
  |some _=>.halt)
 |none=>.halt
mutual
noncomputable def cS(S:Sc):Nat->Zy->Option IS
 |0,_=>none
 |n+1,s=>match s with
  |.Assign ts v _=>O6 S n ts v
  |.Expr e _=>if kW e then do let y<-cE S n e;some (.expr y) else none
  |.Return o _=>(match o with
   |some e=>do let y<-cE S n e;some (.ret y)
   |none=>some .retN)
  |.Raise a b _=>some (ER S a b)
  |.Pass _=>some .pass
  |.Break _=>some .brk
  |.Continue _=>some .cnt
  |.If c a b _=>do let k<-cC S n c;let x<-cX S n a;let y<-cX S n b;some (.ifS k x y)
  |.For t iter b o _=>sU o (v8 S n t iter (cX S n b))
  |.While c b o _=>sU o (do let k<-cC S n c;let y<-cX S n b;some (.whileS k y))
  |_=>none
noncomputable def cX(S:Sc):Nat->List Zy->Option aE
 |0,_=>none
 |_+1,[]=>some .nil
 |n+1,s::r=>do let x<-cS S n s;let y<-cX S n r;some (.cons x y)
end
end L3
namespace L2
open PySem PySem.Spec PyProof.Rows
theorem lV{prog:ul}{w:ut}{A:Zx}{R:Result->kt->Prop}{s:kt}{elt target iter:Expr}{ifs:List Expr}{scope:Scope}{pos:Pos}{it acc:jp}{env:Env}(I:Nat->kt->Prop)
  (turn:∀n s,I n s->wpAny (model prog w) A (pyNext it) (fun r s₁=>match r with
   |none=>R (.ok .next) s₁
   |some v=>wpAny (model prog w) A (letOwnedTupleGo target it v) (fun _ s₁'=>wpAny (model prog w) A (assign target env v) (fun _ s₂ =>
     wpAny (model prog w) A (forIn ifs true fun c r=>if r=true then do let ok<-isTrue c env (eval c env);pure (ForInStep.yield ok) else pure (ForInStep.yield r)) (fun ok s₃ =>
      if ok=true then wpAny (model prog w) A (eval elt env) (fun x s₄ =>
       wpAny (model prog w) A (call (.builtin "list.append") [acc,x]) (fun _ s₅=>∃m,m<n/\I m s₅) (fun _ _=>False) s₄) (fun _ _=>False) s₃
      else ∃m,m<n/\I m s₃) (fun _ _=>False) s₂) (fun _ _=>False) s₁') (fun _ _=>False) s₁) (fun _ _=>False) s)
  (n:Nat) (h:I n s) :
  codeAny (model prog w) A (.compLoop (.ListComp elt [⟨target,iter,ifs,0⟩] scope pos) 0 it acc env) R s:=by
 refine codeAny_loop rfl I (fun n s hI=>?_) n h;show wpAny _ A ((compTurn (.ListComp elt [⟨target,iter,ifs,0⟩] scope pos) 0 it acc env).onRaise (fun x=>do noteFrame x env;theTreesLotGoes x)) _ _ s;refine wpAny_noted ?_;rw[compTurn_list];refine zy (wpAny_standAt (zy (wpAny_mono (turn n s hI) (fun r s₁ h₁=>?_) fun _ _ h'=>h'.elim)));cases r with
 |none=>exact zt h₁
 |some v =>
  refine zy (wpAny_mono h₁ (fun _ s₁' h₁'=>?_) fun _ _ h'=>h'.elim);refine zy (wpAny_mono h₁' (fun _ s₂ h₂=>zy (wpAny_mono h₂ (fun ok s₃ h₃=>?_) fun _ _ h'=>h'.elim)) fun _ _ h'=>h'.elim);cases ok with
  |false=>exact zt ⟨rfl,h₃⟩
  |true =>
   exact zy (zy (wpAny_mono h₃ (fun x s₄ h₄=>zy (wpAny_mono h₄ (fun _ s₅ h₅=>zt (zt ⟨rfl,h₅⟩)) fun _ _ h'=>h'.elim)) fun _ _ h'=>h'.elim))
theorem kZ{env:Env}{y:Str}:∀{names:List (Str×NameKind)},
  (names.map fun (n,k)=>if (k==NameKind.free&&env.scope.kind==.function&&env.kindOf n==some .cell) then (n,NameKind.cell) else (n,k)).lookup y =
   (names.lookup y).map fun k=>if (k==NameKind.free&&env.scope.kind==.function&&env.kindOf y==some .cell) then NameKind.cell else k
 |[]=>rfl
 | (n,k)::r=>by
  have ih:=@kZ env y r;rw[zG];by_cases hx:y=n
  ·subst hx
   dsimp only;split <;> simp_all [yL]
  ·have hb:(y==n)=false:=beq_eq_false_iff_ne.mpr hx
   dsimp only;split <;> simp only[yL,hb] <;> exact ih
noncomputable def bF(X:Cx)(scope:Scope)(cl:List (Str×kw))(C:kw)(N':List Str)(s:kt)(H:Hp)(fp:List kw):Cx where
 prog:=X.prog
 w:=X.w
 K:=X.K
 mg:=X.mg
 base:=X.base
 A:=X.A
 N:=N'
 s₀:=s
 H₀:=H
 env:=compEnvC scope cl C X.env
 outer:=X.stack
 stack:=X.stack
 ex:=fp
 fn:=fun _=>false
 calm:=X.calm
 pn:=[]
 xe:=fun _ _=>False
structure gP (X:Cx) (scope:Scope) (cl:List (Str×kw)) (xs:List Str) (N':List Str):Prop where
 kind:scope.kind=.function
 uK:∀y∈scope.names,y.2≠.cell
 loc:∀x∈xs,scope.names.lookup x=some .local
 names:∀y∈scope.names,y.2=.local->scope.names.lookup y.1=some .local
 only:∀y,scope.names.lookup y=some .local->y∈xs\/y=(".0":Str)
 OY:closureFor scope X.env=pure cl
 cls:∀y c,cl.lookup y=some c->X.env.cells.lookup y=some c
 has:∀y,scope.names.lookup y=some .free->∃c,cl.lookup y=some c
 out:∀y,scope.names.lookup y=some .free->X.env.kindOf y=some .cell\/X.env.kindOf y=some .free
 nd:N'.Nodup
 n0:∀(i:Nat) (y:Str),xs[i]?=some y->N'[i]?=some y
 ns:∀(i:Nat) (y:Str),N'[i+xs.length]?=some y->y ∉ xs/\y≠(".0":Str)/\(X.N[i]?=some y\/¬ GP scope y)
 len:N'.length=X.N.length+xs.length
theorem jM{scope:Scope}{env:Env}{y:Str}:(relabel scope env).names.lookup y=(scope.names.lookup y).map fun k=>if (k==NameKind.free&&env.scope.kind==.function&&env.kindOf y==some .cell) then NameKind.cell else k:=kZ
theorem lookup_mem{y:Str}{k:NameKind}:∀{names:List (Str×NameKind)},names.lookup y=some k->(y,k)∈names:=fun h=>PySem.mem_of_lookup h
section
variable {X:Cx}{scope:Scope}{cl:List (Str×kw)}{xs:List Str}{N':List Str}{Zz:List (kw×Obj)}{σ:St}{H:Hp}{s:kt}{fp:List kw}
theorem gP.cellAt(S:gP X scope cl xs N'){C:kw}{y:Str}(h:(compEnvC scope cl C X.env).kindOf y=some .cell\/(compEnvC scope cl C X.env).kindOf y=some .free):scope.names.lookup y=some .free:=by
 have e:(compEnvC scope cl C X.env).kindOf y=(scope.names.lookup y).map fun k=>if (k==NameKind.free&&X.env.scope.kind==.function&&X.env.kindOf y==some .cell) then NameKind.cell else k:=jM;rw[e]at h;cases q:scope.names.lookup y with
 |none=>rw[q]at h;simp at h
 |some k =>
  rw[q]at h;cases k with
  |free=>rfl
  |cell=>exact absurd rfl (S.uK _ (lookup_mem q))
  |_=>simp at h
theorem LU(I:Inv X Zz σ H s)(S:gP X scope cl xs N')(hf:∀b∈fp,iU X Zz H b){C:kw}(hC:s.heap.objs.size<=C)(hfs:∀b∈fp,b<s.heap.objs.size) :
  (bF X scope cl C N' s H fp).Ok where
 mod:=I.ok.mod
 kind:=S.kind
 glob:=I.ok.glob
 blt:=I.ok.blt
 above:=hC
 inj:=fun y z c h1 h2=>I.ok.inj y z c (S.cls _ _ h1) (S.cls _ _ h2)
 has:=fun y h=>S.has y (S.cellAt h)
 Al:=fun y c h=>by cases h
 hd:=I.ok.hd
 frames:=I.ok.frames
 A9:=.inl rfl
 J7:=fun b hb=>⟨zd (zB (hfs b hb) hC),fun y c e=>(hf b hb).2.2.2.2.1 y c (S.cls _ _ e)⟩
 bs:=I.bs
 oE:=zP I.ok.oE I.sz
 oY:=fun b o e hb=>by
  rcases (hf b hb).2.2.2.1 with z|z
  ·exact I.ok.oY b o e z
  ·exact absurd (zB (zf e) (zP I.ok.oE z)) (yD _)
 q0:=fun b hb z=>by
  rcases zc.mp (I.jz b z) with e|e
  ·exact(hf b hb).2.1 e
  ·exact(hf b hb).2.2.1 e
 gr:=I.stack
 sk:=I.qx
theorem D9(I:Inv X Zz σ H s)(S:gP X scope cl xs N')(hf:∀b∈fp,iU X Zz H b){C:kw}{h₁:Heap}{tk:Nat}{m:Str->Option jp}(hC:s.heap.objs.size<=C)(hfs:∀b∈fp,b<s.heap.objs.size)
  (old:∀b o,s.heap.get? b=some o->h₁.get? b=some o) (se:h₁.Ns C m):Inv (bF X scope cl C N' s H fp) (X.pn++Zz) (yq xs.length none++σ) H { s with heap:=h₁,toks:=tk }:=by
 refine⟨LU I S hf hC hfs,rfl,I.bare,Un.kept old,⟨m,se,fun i y v e1 e2 e3=>?_⟩,fun y c e=>?_,I.ax.fresh hC,fun y c e=>I.dF y c (S.cls _ _ e),fun p hp=>?_,I.ax.kept old,?_⟩
 ·by_cases hi:i<xs.length
  ·rw[zH (by rw[yc];exact hi),xF,if_pos hi]at e2
   cases e2
  ·obtain⟨j,rfl⟩:∃j,i=j+xs.length:=⟨i-xs.length,by omega⟩
   obtain⟨n1,n2,n3⟩:=S.ns j y e1;have e2':σ[j]?=some (some v):=by
    rw[zK (by rw[yc];omega),yc,wS]at e2;exact e2
   have e:(relabel scope X.env).names.lookup y=(scope.names.lookup y).map fun k=>if (k==NameKind.free&&X.env.scope.kind==.function&&X.env.kindOf y==some .cell) then NameKind.cell else k:=jM;have e3':(relabel scope X.env).names.lookup y=some .local\/(relabel scope X.env).names.lookup y=some .cell\/(relabel scope X.env).names.lookup y=some .free:=e3;have q:scope.names.lookup y=some .free:=by
    cases q:scope.names.lookup y with
    |none=>rw[e,q]at e3';simp at e3'
    |some k =>
     rw[e,q]at e3';cases k with
     |free=>rfl
     |cell=>exact absurd rfl (S.uK _ (lookup_mem q))
     |«local» =>
      rcases S.only y q with z|z
      ·exact absurd z n1
      ·exact absurd z n2
     |_=>simp at e3'
   have hN:X.N[j]?=some y:=by
    rcases n3 with z|z
    ·exact z
    ·exact absurd (Or.inr (Or.inr q)) z
   obtain⟨m',hn',hl'⟩:=I.loc;have vx:GP X.env.scope y:=by
    rcases S.out y q with z|z
    ·exact .inr (.inl z)
    ·exact .inr (.inr z)
   obtain⟨u,ru,lk⟩:=hl' j y v hN e2' vx;refine⟨u,ru,?_⟩;rcases lk with ⟨k1,_⟩|⟨_,c,hc,o,ho,hd⟩
   ·rcases S.out y q with z|z
    ·rw[z]at k1;cases k1
    ·rw[z]at k1;cases k1
   ·obtain⟨c',hc'⟩:=S.has y q
    have:=S.cls y c' hc'
    rw[hc]at this;cases this;refine .inr ⟨?_,c,hc',o,old _ _ ho,hd⟩;rw[e,q]at e3';show (relabel scope X.env).names.lookup y=some .cell\/(relabel scope X.env).names.lookup y=some .free;rw[e,q];rcases e3' with z|z
    ·simp only[xD,Option.some.injEq]at z
     split at z <;> cases z
    ·exact z
 ·obtain⟨v,o,ho,hd⟩:=I.cell y c (S.cls _ _ e)
  exact⟨v,o,old _ _ ho,hd⟩
 ·have hp':p∈X.pn++Zz:=hp
  obtain⟨e,n,ne,nf,d⟩:=I.pin p hp';refine⟨old _ _ e,n,zd (zB (zf e) hC),fun z=>?_,d⟩;rcases zc.mp (I.jz _ z) with q|q
  ·exact ne q
  ·exact nf q
 ·show (yq xs.length none++σ).length=N'.length
  rw[S.len,zm,yc,I.len,vV]
end
theorem Un.adopt{fs ex:List kw}{H H':Hp}{h h':Heap}{D:kw}{o:HO}(u:Un fs ex H H' h h')(hD:h.get? D=none)(hn:H' D=none):Un fs ex H (upd H' D o) h h' where
 keep:=u.keep
 slot:=u.slot
 free:=fun b ob q n hx=>by
  have:b≠D:=fun z=>by rw[z,hD]at q;cases q
  rw[aL this];exact u.free b ob q n hx
 there:=u.there
 iL:=fun b xs q=>by
  have q':=u.iL b xs q;rw[aL (bp q' hn)];exact q'
 ib:=fun b ob v q=>by
  have q':=u.ib b ob v q;rw[aL (bp q' hn)];exact q'
 iM:=fun b ps q=>by
  obtain⟨more,q'⟩:=u.iM b ps q;exact⟨more,by rw[aL (bp q' hn)];exact q'⟩
theorem cA.adopt{P:ul}{w:ut}{H:Hp}{h:Heap}{D:kw}{o:HO}(x:cA P w H h)(hn:H D=none)(new:b9 P w (upd H D o) h D o):cA P w (upd H D o) h:=fun b u e=>by
 by_cases hb:b=D
 ·subst hb;rw[bO]at e;cases e;exact new
 ·rw[aL hb]at e
  exact(x b u e).lD (fun _ _ _ q=>q) (fun c q=>by rw[aL (bp q hn)];exact q) fun c xs q=>by rw[aL (bp q hn)];exact q
noncomputable def lz(X:Cx)(ifs:List Expr)(tc:TT):Prop :=
 ∀(Zz:List (kw×Obj)) (s:kt) (σ:St) (H:Hp) (Q:Bool->Hp->Prop),Inv X Zz σ H s->tc σ H Q ->
  wpAny (model X.prog X.w) X.A (forIn ifs true fun c r=>if r=true then do let ok<-isTrue c X.env (eval c X.env);pure (ForInStep.yield ok) else pure (ForInStep.yield r)) (TP X Zz σ Q) X.xe s
noncomputable def S9:TT:=fun _ H Q=>Q true H
theorem K7{X:Cx}:lz X [] S9:=fun _ _ _ H _ I h=>wpAny_tests_nil ⟨H,I,h⟩
theorem K6{X:Cx}{c:Expr}{tc:TT}(hc:PT X c tc):lz X [c] tc:=fun Zz s σ H Q I h=>wpAny_tests_one (hc Zz s σ H Q I h)
noncomputable abbrev lobj(its:List jp) (n:Nat):Obj:={ cls:=.type "list",data:=.seq its.toArray n }
noncomputable def Kl(J:It)(g:TG)(kk:Nat)(tc:TT)(te:TE)(σ:St)(Fin:List V->Hp->Prop)(W:Nat->Nat->List V->Hp->Prop):Prop:=∀i m ys H,W i m ys H ->
 (J.stop i H/\ys.length<=zg/\Fin ys H) \/
 (J.go i H/\ys.length<zg/\∀v H' (os:St),os.length=kk->J.kF i H v H'->g v (os++σ) H' fun σ1 H1=>∃Q8:St,Q8.length=kk/\σ1=Q8++σ/\tc σ1 H1 fun b H2=>if b=true then te σ1 H2 fun y H3=>∃m',m'<m/\W (i+1) m' (ys++[y]) H3 else ∃m',m'<m/\W (i+1) m' ys H2)
section
variable {X:Cx}{scope:Scope}{cl:List (Str×kw)}{xs:List Str}{tg:Expr}{g:TG}{N':List Str}{Zz:List (kw×Obj)}{σ:St}{H:Hp}{s:kt}{fp:List kw}{it:kw}{J:It}{tn:Nat->Heap->Prop}
 {elt iter:Expr} {ifs:List Expr} {pos:Pos} {tc:TT} {te:TE}
theorem qe
  (hc:X.calm=true)
  (S:gP X scope cl xs N') (hg:∀C s H fp,PG (bF X scope cl C N' s H fp) tg g) (htc:∀C s H fp,lz (bF X scope cl C N' s H fp) ifs tc) (hte:∀C s H fp,PE (bF X scope cl C N' s H fp) elt te)
  (I:Inv X Zz σ H s)
  (T:Turn X.prog X.w X.K tg J fp it tn)
  (st:tn 0 s.heap) (hf:∀b∈fp,iU X Zz H b)
  {Fin:List V->Hp->Prop} {W:Nat->Nat->List V->Hp->Prop} (hW:Kl J g xs.length tc te σ Fin W) {m0:Nat} (w0:W 0 m0 [] H) {E:jp->kt->Prop} {RR:jp->kw->Result->kt->Prop}
  (fin:∀(D C:kw) (s':kt) (ys:List V) (H':Hp),Inv X Zz σ (upd H' D (.lst ys)) s'->H' D=none->upd H' D (.lst ys) C=none->C≠X.env.locals->X.s₀.heap.objs.size<=C->(∀y c,X.env.cells.lookup y=some c->c≠C)->(∀p∈X.pn++Zz,p.1≠C) ->
   (∃m,s'.heap.Ns C m)->Fin ys H'->RR (.ref D) C (.ok .next) s') :
  wpAny (model X.prog X.w) X.A (newList []) (fun acc s₃=>wpAny (model X.prog X.w) X.A (newFunctionEnv scope X.env.globals cl [] X.env.qual none .none (some X.env)) (fun OZ s₄ =>
   codeAny (model X.prog X.w) X.A (.compStart (.ListComp elt [⟨tg,iter,ifs,0⟩] scope pos) 0 (.ref it) acc { OZ with scope:=relabel scope X.env }) (RR acc OZ.locals) s₄) E s₃) E s:=by
 have hfs:∀b∈fp,b<s.heap.objs.size:=fun b hb=>by
  obtain⟨o,e,_⟩:=T.obj _ _ st b hb;exact zf e
 refine wpAny_newObj_type (wpAny_newFunctionEnv S.uK (by intro y hy;simp at hy) (fun h₁ u6 p6=>?_) S.kind);dsimp only at u6 p6 ⊢;generalize hH2:s.heap.push { cls:=.type "list",dict:=none,data:=.seq ([]:List jp).toArray }=H2 at u6 p6 ⊢;generalize hDe:s.heap.objs.size=D at *;generalize W0:H2.objs.size=C at *;have hC:C=D+1:=by rw[<- W0,<- hH2,xg,hDe]
 have J1:D≠C:=by rw[hC];exact zd (xR _)
 have pj:D<=C:=by rw[hC];exact xo _
 have old:∀b o,s.heap.get? b=some o->h₁.get? b=some o:=fun b o e=>by
  have hb:b<D:=hDe▸zf e;exact p6.extBut b o (zd (zB hb pj)) (zq _ (hH2▸zq _ e))
 have lQ:h₁.get? D=some (lobj [] 0):=p6.extBut _ _ J1 (zq _ (hH2▸hDe▸zC _ rfl));have Wf:s.heap.get? D=none:=yR (yQ hDe);have ptD:∀p∈X.pn++Zz,p.1<D:=fun p hp=>hDe▸zf (I.pin p hp).1;have clD:∀y c,X.env.cells.lookup y=some c->c<D:=fun y c e=>by
  obtain⟨v,o,ho,_⟩:=I.cell y c e;exact hDe▸zf ho
 have fsD:∀b∈fV X.stack,b<D:=fun b hb=>by
  obtain⟨_,o,ho,_⟩:=I.stack.mem hb;exact hDe▸zf ho
 have loop:∀s₃:kt,s₃={ s with heap:=h₁,toks:=s.toks+([]:List (Str×jp)).length } ->
   codeAny (model X.prog X.w) X.A (.compLoop (.ListComp elt [⟨tg,iter,ifs,0⟩] scope pos) 0 (.ref it) (.ref D) (compEnvC scope cl C X.env)) (RR (.ref D) C) s₃:=by
  rintro s₃ rfl;have I₁:Inv (bF X scope cl C N' s H fp) (X.pn++Zz) (yq xs.length none++σ) H { s with heap:=h₁,toks:=s.toks+([]:List (Str×jp)).length } :=
   D9 I S hf (by rw[hDe];exact pj) (fun b hb=>by rw[hDe];exact hfs b hb) old u6
  have MX:∀{its:List jp} {n:Nat} {σ':St} {H':Hp} {s':kt},Inv (bF X scope cl C N' s H fp) (X.pn++Zz) σ' H' s'->s'.heap.get? D=some (lobj its n)->H' D=none ->
    Inv (bF X scope cl C N' s H fp) ((X.pn++Zz)++[(D,lobj its n)]) σ' H' s':=fun {its n σ' H' s'} J' e n=>J'.qL fun p hp=>by
   rcases zL.mp hp with hp|hp
   ·exact J'.pin p (zW _ hp)
   ·rw[zA.mp hp]
    exact⟨e,n,J1,fun z=>yD _ (fsD D z),fun v z=>by cases z⟩
  refine lV (fun k s'=>∃(i:Nat) (ys:List V) (its:List jp) (n:Nat) (os:St) (H':Hp),os.length=xs.length/\Inv (bF X scope cl C N' s H fp) ((X.pn++Zz)++[(D,lobj its n)]) (os++σ) H' s'/\Vals ys its/\tn i s'.heap/\(∀b∈fp,H' b=none)/\W i k ys H') ?_ m0
   ⟨0,[],[],0,yq xs.length none,H,yc ..,MX I₁ lQ (I.ax.fresh (yQ hDe)),.nil,T.keep _ _ _ st fun b _ o e=>old b o e,fun b hb=>(hf b hb).1,w0⟩
  rintro k s4 ⟨i,ys,its,n,os,H4,Wo,I4,rv,Q1,Sm,w4⟩;have pD:∀{its:List jp} {n:Nat} {pl:List (kw×Obj)} {σ':St} {H':Hp} {s':kt},Inv (bF X scope cl C N' s H fp) (((X.pn++Zz)++[(D,lobj its n)])++pl) σ' H' s'->s'.heap.get? D=some (lobj its n)/\H' D=none:=fun J' =>
   let q:=J'.pin (D,lobj _ _) (zW _ (yo _ (zW _ zJ)))
   ⟨q.1,q.2.1⟩
  have stat:∀{its:List jp} {n:Nat} {H':Hp},(∀b∈fp,H' b=none)->∀b∈fp,iU (bF X scope cl C N' s H fp) ((X.pn++Zz)++[(D,lobj its n)]) H' b:=fun {its n H'} hn b hb=>by
   obtain⟨f0,f1,f2,f3,f4,f5⟩:=hf b hb;refine⟨hn b hb,zd (zB (hfs b hb) pj),fun z=>?_,.inl hb,fun y c e=>f4 y c (S.cls _ _ e),fun p hp=>?_⟩
   ·rcases zc.mp (I.jz b z) with q|q
    ·exact f1 q
    ·exact f2 q
   ·have hp:p∈(X.pn++Zz)++[(D,lobj its n)]:=hp
    rcases zL.mp hp with hp|hp
    ·exact f5 p hp
    ·rw[zA.mp hp]
     exact Ne.symm (zd (hfs b hb))
  rcases hW i k ys H4 w4 with ⟨stop,hz,q⟩|⟨go,hz,step⟩
  ·refine aQ (T.done (bF X scope cl C N' s H fp) rfl rfl rfl
    hc
    i _ s4 _ H4 _ I4 (stat Sm) Q1 stop) fun r s5 ⟨hr,I5⟩=>?_
   subst hr;obtain⟨gD,nD⟩:=pD (pl:=[]) (by rw[zO];exact I5);have un:Un (fV X.stack) fp H (upd H4 D (.lst ys)) s.heap s5.heap:=Un.adopt I5.base Wf nD;have ax:cA X.prog X.w (upd H4 D (.lst ys)) s5.heap:=cA.adopt I5.ax nD ⟨hz,its,n,rv,gD⟩;have I6:Inv X Zz σ (upd H4 D (.lst ys)) s5:=I.call' (ch:=fp) I5.os un ax I5.bare fun b hb=>by
    obtain⟨f0,f1,f2,f3,f4,f5⟩:=hf b hb;exact⟨f3,f1,f4,f5⟩
   have cn:H4 C=none:=I5.free;have lo:X.s₀.heap.objs.size<=C:=zP I.sz (by rw[hDe];exact pj);exact fin D C s5 ys H4 I6 nD (by rw[aL (Ne.symm J1)];exact cn) (yO (zB (hDe▸I.lt) pj)) lo (fun y c e=>zd (zB (clD y c e) pj)) (fun p hp=>zd (zB (ptD p hp) pj))
    (let ⟨m,hm,_⟩:=I5.loc;⟨m,hm⟩) q
  ·refine aQ (T.item (bF X scope cl C N' s H fp) rfl rfl rfl
    hc
    i _ s4 _ H4 _ I4 (stat Sm) Q1 go) fun r s5 ⟨u,hr,h5⟩=>?_
   subst hr;refine aQ h5 fun _ s6 ⟨v,H6,I6,r6,y6,Mw,W5⟩=>?_;have I6':=I6.pinned (stat W5) (T.obj _ _ Mw);refine aQ (hg C s H fp _ s6 _ H6 v u _ I6' r6 (step v H6 os Wo y6)) fun _ s7 ⟨σ7,H7,I7,os7,RC,e7,q7⟩=>?_;subst e7;have So:∀{σ':St} {H':Hp} {s':kt},Inv (bF X scope cl C N' s H fp) (((X.pn++Zz)++[(D,lobj its n)])++mF fp s6.heap) σ' H' s'->tn (i+1) s'.heap/\∀b∈fp,H' b=none:=fun {σ' H' s'} J' =>
    ⟨T.keep _ _ _ Mw fun b hb ob e=>(J'.pin (b,ob) (zW _ (zW _ (i5 hb e)))).1,fun b hb=>by
     obtain⟨ob,e,d⟩:=T.obj _ _ Mw b hb;exact(J'.pin (b,ob) (zW _ (zW _ (i5 hb e)))).2.1⟩
   refine aQ (htc C s H fp _ s7 _ H7 _ I7 q7) fun b s8 ⟨H8,I8,q8⟩=>?_;cases b with
   |false =>
    rw[if_neg zk]at q8 ⊢;obtain⟨m',hm,w8⟩:=q8;obtain⟨t8,f8⟩:=So I8;exact⟨m',hm,i+1,ys,its,n,os7,H8,RC,I8.gU,rv,t8,f8,w8⟩
   |true =>
    rw[if_pos rfl]at q8 ⊢;refine aQ (hte C s H fp _ s8 _ H8 _ I8 q8) fun u9 s9 ⟨y,H9,I9,r9,m',hm,w9⟩=>?_;obtain⟨gD,nD⟩:=pD I9;obtain⟨t9,f9⟩:=So I9;refine append_at (its:=its.toArray) (n:=n) gD (fun h' sb hD'=>?_) (by have:=rv.length;simp;omega);have Pp:Inv (bF X scope cl C N' s H fp) (X.pn++Zz) (os7++σ) H9 s9:=I9.gU.gU;have Xo:Inv (bF X scope cl C N' s H fp) (X.pn++Zz) (os7++σ) H9 { s9 with heap:=h' }:=Pp.turned (t':=s9.toks) (it:=D) (fun b ob hb e=>sb.extBut b ob hb e) nD J1 (.inr (yQ hDe))
     (fun z c e=>zd (clD z c (S.cls _ _ e))) fun p hp=>zd (ptD p hp)
    refine⟨m',hm,i+1,ys++[y],its++[u9],n+1,os7,H9,RC,MX Xo (by rw[hD'];simp) nD,rv.append (.cons r9 .nil),T.keep _ _ _ t9 fun b hb ob e=>sb.extBut b ob (zd (hfs b hb)) e,f9,w9⟩
 exact codeAny_compStart_list (loop _ rfl) (T.self X.A 0 _ _ _ (T.keep _ _ _ st fun b _ o e=>old b o e) (loop _ rfl))
end
noncomputable def CC(wi:TI)(g:TG)(kk:Nat)(tc:TT)(te:TE):TE:=fun σ H Q=>wi σ H fun J H1=>∃W:Nat->Nat->List V->Hp->Prop,(∃m,W 0 m [] H1) /\
 Kl J g kk tc te σ (fun ys H'=>∀p,H' p=none->Q (.ref p) (upd H' p (.lst ys))) W
section
variable {X:Cx}{scope:Scope}{cl:List (Str×kw)}{xs:List Str}{tg:Expr}{g:TG}{N':List Str}{elt iter:Expr}{ifs:List Expr}{pos:Pos}{tc:TT}{te:TE}{wi:TI}
theorem Bu{Zz:List (kw×Obj)}{σ:St}{H:Hp}{s:kt}{C:kw}{h':Heap}(I:Inv X Zz σ H s)(sb:Heap.SameBut C s.heap h')(h0:H C=none)(h1:C≠X.env.locals)(h2:X.s₀.heap.objs.size<=C)(h3:∀y c,X.env.cells.lookup y=some c->c≠C)(h4:∀p∈X.pn++Zz,p.1≠C) :
  Inv X Zz σ H { s with heap:=h' }:=I.turned (t':=s.toks) (it:=C) (fun b ob hb e=>sb.extBut b ob hb e) h0 h1 (.inr h2) h3 h4
theorem Bo(hc:X.calm=true)(S:gP X scope cl xs N')(hg:∀C s H fp,PG (bF X scope cl C N' s H fp) tg g)(hi:PI X tg iter wi)(htc:∀C s H fp,lz (bF X scope cl C N' s H fp) ifs tc)(hte:∀C s H fp,PE (bF X scope cl C N' s H fp) elt te)
  (hs:∀x,foldedSetIterable iter X.env x=pure x):PE X (.ListComp elt [⟨tg,iter,ifs,0⟩] scope pos) (CC wi g xs.length tc te):=by
 intro Zz s σ H Q I h;rw[eval_ListComp];refine wpAny_comprehension_free (use:=none) rfl hs S.OY S.kind S.names (aQ (hi Zz s σ H _ I h) fun v s1 h1=>aQ h1 fun JE s2 h2=>?_);obtain⟨it,fp,tn,J,H2,e,I2,T,st2,f2,W,⟨m0,w0⟩,hW⟩:=h2;subst e;refine qe (RR:=fun acc C=>compPost (model X.prog X.w) X.A X.xe none (EP X Zz σ Q) acc C)
  hc
  S hg htc hte I2
  T
  st2 f2 hW w0 ?_
 intro D C s' ys H' I' nD cn c1 c2 c3 c4 ns q;obtain⟨m,hm⟩:=ns;exact⟨m,hm,fun h' sb=>⟨.ref D,_,Bu I' sb cn c1 c2 c3 c4,rfl,q D nD⟩⟩
theorem Lb{x:Str}{px:Pos}{i:Nat}{y:Str}{py CL:Pos}(hc:X.calm=true)(S:gP X scope cl xs N')(hg:∀C s H fp,PG (bF X scope cl C N' s H fp) (.Name x px) g)(hi:PI X (.Name x px) iter wi)(htc:∀C s H fp,lz (bF X scope cl C N' s H fp) ifs tc)(hte:∀C s H fp,PE (bF X scope cl C N' s H fp) elt te)
  (hs:∀x,foldedSetIterable iter X.env x=pure x) (hN:X.N.Nodup) (hy:X.N[i]?=some y) (hx:Loc X.env.scope y) (hf:X.fn y=true\/X.env.scope.names.lookup y=some .local) :
  PS X (.Assign [.Name y py] (.ListComp elt [⟨.Name x px,iter,ifs,0⟩] scope pos) CL) (tT (CC wi g xs.length tc te) (iu i)):=by
 have JO:∃b:Bool,swapsWith (.ListComp elt [⟨.Name x px,iter,ifs,0⟩] scope pos) (some (.Name y py)) CL.line X.env=pure b:=⟨_,rfl⟩;obtain⟨b,JO⟩:=JO;cases b with
 |false=>exact ux hN hy hx (Bo hc S hg hi htc hte hs) JO hf
 |true =>
  intro Zz s σ H D I h;rw[exec_Assign_Name_used _ _ _ _ JO];refine zy (wpAny_standAt (zy ?_));show wpAny _ X.A (do let _<-comprehension (.ListComp elt [⟨.Name x px,iter,ifs,0⟩] scope pos) scope X.env _ (newList []) false (eval iter X.env) (some (assign (.Name y py) X.env))) _ _ s;refine zy (aQ (wpAny_comprehension_free (use:=some (assign (.Name y py) X.env)) (Q:=fun _ s'=>SP X Zz D .next s') rfl hs S.OY S.kind S.names
   (aQ (hi Zz s σ H _ I h) fun v s1 h1=>aQ h1 fun JE s2 h2=>?_)) fun _ s' hq=>zt (zt hq))
  obtain⟨it,fp,tn,J,H2,e,I2,T,st2,f2,W,⟨m0,w0⟩,hW⟩:=h2;subst e;refine qe (RR:=fun acc C=>compPost (model X.prog X.w) X.A X.xe (some (assign (.Name y py) X.env)) (fun _ s'=>SP X Zz D .next s') acc C)
   hc
   S hg htc hte I2
   T
   st2 f2 hW w0 ?_
  intro Dl C s' ys H' I' nD cn c1 c2 c3 c4 ns q;obtain⟨m,hm⟩:=ns;show wpAny _ X.A (assign (.Name y py) X.env (.ref Dl)) _ _ _;refine wpAny_assign_Name (rJ I' hN hy hx (v:=.ref Dl) rfl (fun s2 I2' ⟨a,sb,ha⟩=>?_) hf);have W2:C≠a:=by
   rcases ha with z|z
   ·rw[z];exact c1
   ·exact fun e=>c3 _ _ z e.symm
  refine⟨m,hm.sameBut sb W2,fun h' sb'=>?_⟩;exact⟨_,_,Bu I2' sb' cn c1 c2 c3 c4,q Dl nD⟩
end
end L2
namespace L3
open PySem PySem.Spec PyProof.Rows L2
noncomputable abbrev St:=L2.St
noncomputable def Cd(K:Q_)(H:Hp)(a:kw)(xs:List V):Prop :=
 (∃o,H a=some (.frz o (.lst xs))) \/
  ∃(o:Obj) (its:Array jp) (n:Nat),K.lookup a=some o/\o.cls=.type "list"/\o.dict=none/\o.data=.seq its n/\its.size<=zg/\Vals xs its.toList
theorem Cd.seq{K:Q_}{H:Hp}{a:kw}{xs:List V}(h:Cd K H a xs):aZ K H a xs:=by
 rcases h with ⟨o,h⟩|h
 ·exact .inl (.inr ⟨o,h⟩)
 ·exact .inr h
mutual
inductive Rep (K:Q_) (ι:List kw) (H:Hp):D->V->Prop where
 |non:Rep K ι H .non .non
 |bl (b:Bool):Rep K ι H (.bl b) (.bl b)
 |int (i:Int):Rep K ι H (.int i) (.int i)
 |str (x:Str):Rep K ι H (.str x) (.str x)
 |tup {a:kw} {vs:List V} {ds:List D}:H a=some (.tup vs)->az K ι H ds vs->Rep K ι H (.tup ds) (.ref a)
 |fl {a:kw} {vs:List V} {ds:List D}:Cd K H a vs->az K ι H ds vs->Rep K ι H (.fl ds) (.ref a)
 |ob {i:Nat} {a:kw}:ι[i]?=some a->Rep K ι H (.ob i) (.ref a)
inductive az (K:Q_) (ι:List kw) (H:Hp):List D->List V->Prop where
 |nil:az K ι H [] []
 |cons {d:D} {v:V} {ds:List D} {vs:List V}:Rep K ι H d v->az K ι H ds vs->az K ι H (d::ds) (v::vs)
end
structure Ext (K:Q_) (ι:List kw) (H:Hp) (ι':List kw) (H':Hp):Prop where
 pre:∀(i:Nat) (a:kw),ι[i]?=some a->ι'[i]?=some a
 tup:∀a xs,H a=some (.tup xs)->H' a=some (.tup xs)
 fz:∀a xs,Cd K H a xs->Cd K H' a xs
section
variable {K:Q_}{ι ι' ι'':List kw}{H H' H'':Hp}
theorem Ext.refl:Ext K ι H ι H where
 pre:=fun _ _ e=>e
 tup:=fun _ _ e=>e
 fz:=fun _ _ e=>e
theorem Ext.trans(a:Ext K ι H ι' H')(b:Ext K ι' H' ι'' H''):Ext K ι H ι'' H'' where
 pre:=fun i c e=>b.pre i c (a.pre i c e)
 tup:=fun c xs e=>b.tup c xs (a.tup c xs e)
 fz:=fun c xs e=>b.fz c xs (a.fz c xs e)
theorem Rep.mono(x:Ext K ι H ι' H'){d:D}{v:V}(h:Rep K ι H d v):Rep K ι' H' d v:=by
 refine Rep.rec (motive_1:=fun d v _=>Rep K ι' H' d v) (motive_2:=fun ds vs _=>az K ι' H' ds vs) .non .bl .int .str ?_ ?_ ?_ .nil ?_ h
 ·intro _ _ _ a _ ih;exact .tup (x.tup _ _ a) ih
 ·intro _ _ _ a _ ih;exact .fl (x.fz _ _ a) ih
 ·intro _ _ e;exact .ob (x.pre _ _ e)
 ·intro _ _ _ _ _ _ r t;exact .cons r t
theorem az.mono(x:Ext K ι H ι' H'):∀{ds:List D} {vs:List V},az K ι H ds vs->az K ι' H' ds vs:=by
 intro ds;induction ds with
 |nil=>intro vs r;cases r;exact .nil
 |cons d ds ih=>intro vs r;cases r with|cons r t=>exact .cons (r.mono x) (ih t)
theorem az.length:∀{ds:List D} {vs:List V},az K ι H ds vs->ds.length=vs.length:=by
 intro ds;induction ds with
 |nil=>intro vs r;cases r;rfl
 |cons d ds ih=>intro vs r;cases r with|cons _ t=>rw[zE,zE,ih t]
theorem az.get:∀{ds:List D} {vs:List V} {i:Nat} {d:D},az K ι H ds vs->ds[i]?=some d->∃v,vs[i]?=some v/\Rep K ι H d v
 |_,_,_,_,.nil,e=>by simp at e
 |_,_,0,_,.cons r _,e=>by simp at e;subst e;exact⟨_,rfl,r⟩
 |_,_,i+1,d,.cons _ t,e=>by
  obtain⟨v,h1,h2⟩:=az.get (i:=i) (d:=d) t (by simpa using e);exact⟨v,by simpa using h1,h2⟩
theorem az.append:∀{ds es:List D} {vs us:List V},az K ι H ds vs->az K ι H es us->az K ι H (ds++es) (vs++us):=by
 intro ds;induction ds with
 |nil=>intro es vs us r s;cases r;exact s
 |cons d ds ih=>intro es vs us r s;cases r with|cons r t=>exact .cons r (ih t s)
theorem az.take:∀{ds:List D} {vs:List V} (n:Nat),az K ι H ds vs->az K ι H (ds.take n) (vs.take n):=by
 intro ds;induction ds with
 |nil=>intro vs n r;cases r;cases n <;> exact .nil
 |cons d ds ih=>intro vs n r;cases r with|cons r t=>cases n with|zero=>exact .nil|succ n=>exact .cons r (ih n t)
theorem az.drop:∀{ds:List D} {vs:List V} (n:Nat),az K ι H ds vs->az K ι H (ds.drop n) (vs.drop n):=by
 intro ds;induction ds with
 |nil=>intro vs n r;cases r;cases n <;> exact .nil
 |cons d ds ih=>intro vs n r;cases n with|zero=>exact r|succ n=>cases r with|cons _ t=>exact ih n t
theorem az.set{d:D}{v:V}(r:Rep K ι H d v):∀{ds:List D} {vs:List V} (i:Nat),az K ι H ds vs->az K ι H (ds.set i d) (vs.set i v):=by
 intro ds;induction ds with
 |nil=>intro vs i q;cases q;exact .nil
 |cons d ds ih=>intro vs i q;cases q with|cons q t=>cases i with|zero=>exact .cons r t|succ i=>exact .cons q (ih i t)
noncomputable def KR(K:Q_)(ι:List kw)(H:Hp):List (Ky×D)->List (Key×V)->Prop:=Paired fun p q=>p.1=q.1/\Rep K ι H p.2 q.2
noncomputable def nq(K:Q_)(ι:List kw)(H:Hp):MO->Option HO->Prop
 |.lst ds,x=>∃vs,x=some (.lst vs)/\az K ι H ds vs
 |.aO kvs,x=>∃ws,x=some (.dK ws)/\KR K ι H kvs ws
theorem KR.mono(x:Ext K ι H ι' H'){a:List (Ky×D)}{b:List (Key×V)}(r:KR K ι H a b):KR K ι' H' a b:=Paired.DO r fun _ _ z=>⟨z.1,z.2.mono x⟩
theorem nq.mono(x:Ext K ι H ι' H'){o:MO}{h:Option HO}(r:nq K ι H o h):nq K ι' H' o h:=by
 cases o with
 |lst ds=>obtain⟨vs,e,q⟩:=r;exact⟨vs,e,q.mono x⟩
 |aO kvs=>obtain⟨ws,e,q⟩:=r;exact⟨ws,e,q.mono x⟩
noncomputable def Aw(u:HO):Prop:=(∀xs,u≠.tup xs)/\∀o v,u≠.frz o v
theorem nJ(vs:List V):Aw (.lst vs):=⟨fun _ z=>(nomatch z),fun _ _ z=>(nomatch z)⟩
theorem Jz(vs:List (Key×V)):Aw (.dK vs):=⟨fun _ z=>(nomatch z),fun _ _ z=>(nomatch z)⟩
theorem nq.some{o:MO}{h:Option HO}(r:nq K ι H o h):∃u,h=.some u/\Aw u:=by
 cases o with
 |lst ds=>obtain⟨vs,e,q⟩:=r;exact⟨_,e,nJ _⟩
 |aO kvs=>obtain⟨ws,e,q⟩:=r;exact⟨_,e,Jz _⟩
structure aJ (K:Q_) (ι:List kw) (M:MH) (H:Hp):Prop where
 len:ι.length=M.length
 inj:∀(i j:Nat) (a:kw),ι[i]?=some a->ι[j]?=some a->i=j
 obj:∀(i:Nat) (a:kw) (o:MO),ι[i]?=some a->M[i]?=some o->nq K ι H o (H a)
theorem cy{a:kw}{xs:List V}(h:H a=some (.tup xs)):de K H a xs:=.inl (.inl h)
theorem Ext.new{p:kw}{ho:HO}(hp:H p=none):Ext K ι H (ι++[p]) (upd H p ho) where
 pre:=fun i a e=>by
  have hi:i<ι.length:=(zn.mp e).1;rw[zH hi];exact e
 tup:=fun a xs h=>by rw[aL (bp h hp)];exact h
 fz:=fun a xs h=>by
  rcases h with ⟨o,h⟩|h
  ·exact .inl ⟨o,by rw[aL (bp h hp)];exact h⟩
  ·exact .inr h
theorem Ext.fL{p:kw}{ho:HO}(hp:H p=none):Ext K ι H ι (upd H p ho) where
 pre:=fun i a e=>e
 tup:=fun a xs h=>by rw[aL (bp h hp)];exact h
 fz:=fun a xs h=>by
  rcases h with ⟨o,h⟩|h
  ·exact .inl ⟨o,by rw[aL (bp h hp)];exact h⟩
  ·exact .inr h
theorem Ext.write{p:kw}{u ho:HO}(hp:H p=some u)(hu:Aw u):Ext K ι H ι (upd H p ho) where
 pre:=fun i a e=>e
 tup:=fun a xs h=>by rw[aL (DH h hp fun z=>hu.1 _ z.symm)];exact h
 fz:=fun a xs h=>by
  rcases h with ⟨o,h⟩|h
  ·exact .inl ⟨o,by rw[aL (DH h hp fun z=>hu.2 _ _ z.symm)];exact h⟩
  ·exact .inr h
variable {M M':MH}
theorem aJ.tracked(S:aJ K ι M H){i:Nat}{a:kw}(e:ι[i]?=some a):∃u,H a=some u/\Aw u:=by
 have hi:i<M.length:=by rw[<- S.len];exact(zn.mp e).1
 exact(S.obj i a _ e (zv hi)).some
theorem aJ.new(S:aJ K ι M H){p:kw}{o:MO}{ho:HO}(hp:H p=none)(r:nq K (ι++[p]) (upd H p ho) o (some ho)):aJ K (ι++[p]) (M++[o]) (upd H p ho) where
 len:=by rw[zm,zm,S.len];rfl
 inj:=fun i j a h1 h2=>by
  have np:∀(k:Nat),ι[k]?=some p->False:=fun k e=>by
   obtain⟨u,hu,_⟩:=S.tracked e;rw[hp]at hu;cases hu
  by_cases hi:i<ι.length
  ·rw[zH hi]at h1
   by_cases hj:j<ι.length
   ·rw[zH hj]at h2
    exact S.inj i j a h1 h2
   ·rw[zK (by first|lia|omega)]at h2
    have e:a=p:=by
     have:=zx h2
     simpa using this
    subst e;exact(np i h1).elim
  ·rw[zK (by first|lia|omega)]at h1
   have e:a=p:=by
    have:=zx h1
    simpa using this
   subst e;by_cases hj:j<ι.length
   ·rw[zH hj]at h2
    exact(np j h2).elim
   ·have l1:=(zn.mp h1).1
    rw[zK (by first|lia|omega)]at h2
    have l2:=(zn.mp h2).1;simp at l1 l2;first|lia|omega
 obj:=fun i a q h1 h2=>by
  by_cases hi:i<ι.length
  ·rw[zH hi]at h1
   rw[zH (by rw[<- S.len];exact hi)]at h2;have z:=S.obj i a q h1 h2;obtain⟨u,hu,_⟩:=S.tracked h1;rw[aL (bp hu hp)];exact z.mono (Ext.new hp)
  ·rw[zK (by first|lia|omega)]at h1
   rw[zK (by rw[<- S.len];omega)]at h2;have e:a=p:=by
    have:=zx h1
    simpa using this
   have e':q=o:=by
    have:=zx h2
    simpa using this
   subst e e';rw[bO];exact r
theorem aJ.fL(S:aJ K ι M H){p:kw}{ho:HO}(hp:H p=none):aJ K ι M (upd H p ho) where
 len:=S.len
 inj:=S.inj
 obj:=fun i a o h1 h2=>by
  obtain⟨u,hu,_⟩:=S.tracked h1;rw[aL (bp hu hp)];exact(S.obj i a o h1 h2).mono (Ext.fL hp)
theorem aJ.put(S:aJ K ι M H){i:Nat}{a:kw}{o:MO}{ho:HO}(e:ι[i]?=some a)(r:nq K ι (upd H a ho) o (some ho)):aJ K ι (M.set i o) (upd H a ho):=by
 obtain⟨u,hu,mu⟩:=S.tracked e;refine⟨by rw[yx];exact S.len,S.inj,fun j b q h1 h2=>?_⟩;by_cases oB:j=i
 ·subst oB
  rw[e]at h1;cases h1;have hj:j<M.length:=by rw[<- S.len];exact(zn.mp e).1
  rw[zU hj]at h2;cases h2;rw[bO];exact r
 ·rw[zj (Ne.symm oB)]at h2
  have hb:b≠a:=fun z=>by subst z;exact oB (S.inj j i b h1 e)
  rw[aL hb];exact(S.obj j b q h1 h2).mono (Ext.write hu mu)
structure bY (K:Q_) (ι:List kw) (H:Hp) (ρ:Ev) (σ:St):Prop where
 len:ρ.length=σ.length
 val:∀(i:Nat) (d:D),ρ[i]?=some (some d)->∃v,σ[i]?=some (some v)/\Rep K ι H d v
theorem bY.mono(x:Ext K ι H ι' H'){ρ:Ev}{σ:St}(r:bY K ι H ρ σ):bY K ι' H' ρ σ:=⟨r.len,fun i d e=>let ⟨v,h1,h2⟩:=r.val i d e;⟨v,h1,h2.mono x⟩⟩
theorem bY.set{ρ:Ev}{σ:St}{d:D}{v:V}(r:bY K ι H ρ σ)(q:Rep K ι H d v)(i:Nat):bY K ι H (ρ.set i (some d)) (σ.set i (some v)) where
 len:=by rw[yx,yx];exact r.len
 val:=fun j c e=>by
  by_cases oB:j=i
  ·subst oB
   by_cases hj:j<ρ.length
   ·rw[zU hj]at e
    cases e;exact⟨v,by rw[zU (by rw[<- r.len];exact hj)],q⟩
   ·rw[yZ (by rw[yx];omega)]at e;cases e
  ·rw[zj (Ne.symm oB)]at e
   obtain⟨u,h1,h2⟩:=r.val j c e;exact⟨u,by rw[zj (Ne.symm oB)];exact h1,h2⟩
theorem bY.comp{ρ:Ev}{σ:St}{d:D}{v:V}(r:bY K ι H ρ σ)(q:Rep K ι H d v)(j:Nat):bY K ι H (some d::ρ.set j none) (some v::σ) where
 len:=by rw[zE,zE,yx,r.len]
 val:=fun i c e=>by
  cases i with
  |zero=>simp at e;subst e;exact⟨v,rfl,q⟩
  |succ i =>
   rw[we]at e;by_cases oB:i=j
   ·subst oB
    by_cases hj:i<ρ.length
    ·rw[zU hj]at e;cases e
    ·rw[yZ (by rw[yx];omega)]at e;cases e
   ·rw[zj (Ne.symm oB)]at e
    obtain⟨u,h1,h2⟩:=r.val i c e;exact⟨u,by rw[we];exact h1,h2⟩
end
noncomputable abbrev DE:=Ev->Mo D
inductive LE (K:Q_) (f:DE) (σ:St) (H:Hp) (Q:VK):Prop
 |mk (ι:List kw) (ρ:Ev) (M:MH) (d:D) (M':MH) (S0:aJ K ι M H) (R0:bY K ι H ρ σ) (e:f ρ M=some (.ok d,M')) (k:∀v H' ι',Rep K ι' H' d v->aJ K ι' M' H'->Ext K ι H ι' H'->Q v H')
inductive LT (K:Q_) (f:Ev->Mo Bool) (σ:St) (H:Hp) (Q:Bool->Hp->Prop):Prop
 |mk (ι:List kw) (ρ:Ev) (M:MH) (b:Bool) (M':MH) (S0:aJ K ι M H) (R0:bY K ι H ρ σ) (e:f ρ M=some (.ok b,M')) (k:∀H' ι',aJ K ι' M' H'->Ext K ι H ι' H'->Q b H')
inductive LA (K:Q_) (f:Ev->Mo (List D)) (σ:St) (H:Hp) (Q:List V->Hp->Prop):Prop
 |mk (ι:List kw) (ρ:Ev) (M:MH) (ds:List D) (M':MH) (S0:aJ K ι M H) (R0:bY K ι H ρ σ) (e:f ρ M=some (.ok ds,M')) (k:∀vs H' ι',az K ι' H' ds vs->aJ K ι' M' H'->Ext K ι H ι' H'->Q vs H')
inductive LO (K:Q_) (f:Ev->Mo (Option Int)) (σ:St) (H:Hp) (Q:Option Int->Hp->Prop):Prop
 |mk (ι:List kw) (ρ:Ev) (M:MH) (o:Option Int) (M':MH) (S0:aJ K ι M H) (R0:bY K ι H ρ σ) (e:f ρ M=some (.ok o,M')) (k:∀H' ι',aJ K ι' M' H'->Ext K ι H ι' H'->Q o H')
noncomputable def SO(K:Q_)(D:Ends)(ι:List kw)(H:Hp):Fl->Prop
 |.nx ρ=>∀σ,bY K ι H ρ σ->D.nx σ H
 |.rt d=>∀v,Rep K ι H d v->D.rt v H
 |.bk ρ=>∀σ,bY K ι H ρ σ->D.bk σ H
 |.ct ρ=>∀σ,bY K ι H ρ σ->D.ct σ H
inductive LS (K:Q_) (f:Ev->Mo Fl) (D:Ends) (σ:St) (H:Hp):Prop
 |mk (ι:List kw) (ρ:Ev) (M:MH) (fl:Fl) (M':MH) (S0:aJ K ι M H) (R0:bY K ι H ρ σ) (e:f ρ M=some (.ok fl,M')) (k:∀H' ι',aJ K ι' M' H'->Ext K ι H ι' H'->SO K D ι' H' fl)
theorem PE.imp{X:Cx}{e:Expr}{t t':TE}(h:PE X e t)(k:∀σ H Q,t' σ H Q->t σ H Q):PE X e t':=fun Zz s σ H Q I q=>h Zz s σ H Q I (k σ H Q q)
theorem PT.imp{X:Cx}{e:Expr}{t t':TT}(h:PT X e t)(k:∀σ H Q,t' σ H Q->t σ H Q):PT X e t':=fun Zz s σ H Q I q=>h Zz s σ H Q I (k σ H Q q)
theorem lz.imp{X:Cx}{e:List Expr}{t t':TT}(h:lz X e t)(k:∀σ H Q,t' σ H Q->t σ H Q):lz X e t':=fun Zz s σ H Q I q=>h Zz s σ H Q I (k σ H Q q)
theorem PA.imp{X:Cx}{e:List Expr}{t t':TA}(h:PA X e t)(k:∀σ H Q,t' σ H Q->t σ H Q):PA X e t':=fun pos Zz s σ H Q I q=>h pos Zz s σ H Q I (k σ H Q q)
theorem PO.imp{X:Cx}{e:Option Expr}{t t':TO}(h:PO X e t)(k:∀σ H Q,t' σ H Q->t σ H Q):PO X e t':=fun Zz s σ H Q I q=>h Zz s σ H Q I (k σ H Q q)
theorem PS.imp{X:Cx}{e:Zy}{t t':TS}(h:PS X e t)(k:∀D σ H,t' D σ H->t D σ H):PS X e t':=fun Zz s σ H D I q=>h Zz s σ H D I (k D σ H q)
theorem c0.imp{X:Cx}{e:List Zy}{t t':TS}(h:c0 X e t)(k:∀D σ H,t' D σ H->t D σ H):c0 X e t':=fun Zz s σ H D I q=>h Zz s σ H D I (k D σ H q)
noncomputable def SE(K:Q_)(r:R2)(g:D->D->Mo D):Prop:=∀(ι:List kw) (M M':MH) (H:Hp) (x y d:D) (vx vy:V) (Q:VK),aJ K ι M H->Rep K ι H x vx->Rep K ι H y vy->g x y M=some (.ok d,M') ->
 (∀v H' ι',Rep K ι' H' d v->aJ K ι' M' H'->Ext K ι H ι' H'->Q v H')->r vx vy H Q
section
variable {K:Q_}
theorem LE.bin{fa fb:DE}{g:D->D->Mo D}{r:R2}(ho:SE K r g)(σ:St)(H:Hp)(Q:VK)(h:LE K (fun ρ=>do let x<-fa ρ;let y<-fb ρ;g x y) σ H Q):ED r (LE K fa) (LE K fb) σ H Q:=by
 obtain⟨ι,ρ,M,d,M',S,R,e,k⟩:=h;obtain⟨x,M1,e1,e⟩:=aa e;obtain⟨y,M2,e2,e⟩:=aa e;refine⟨ι,ρ,M,x,M1,S,R,e1,fun v1 H1 ι1 r1 S1 X1=>?_⟩;refine⟨ι1,ρ,M1,y,M2,S1,R.mono X1,e2,fun v2 H2 ι2 r2 S2 X2=>?_⟩;exact ho ι2 M2 M' H2 x y d v1 v2 Q S2 (r1.mono X2) r2 e fun v H' ι' r' S' X'=>k v H' ι' r' S' ((X1.trans X2).trans X')
end
theorem aU{p:Prop}[Decidable p]{M M':MH}{u:Unit}(h:need p M=some (.ok u,M')):p/\M'=M:=by
 unfold need at h;split at h
 ·rename_i hp
  cases h;exact⟨hp,rfl⟩
 ·cases h
theorem a8{α:Type}{o:Option α}{a:α}{M M':MH}(h:lift o M=some (.ok a,M')):o=some a/\M'=M:=by
 cases o with
 |none=>cases h
 |some b=>cases h;exact⟨rfl,rfl⟩
theorem af{α:Type}{a b:α}{M M':MH}(h:(pure a:Mo α) M=some (.ok b,M')):b=a/\M'=M:=by
 cases h;exact⟨rfl,rfl⟩
theorem hZ{i:Nat}{o:MO}{M M':MH}(h:getM i M=some (.ok o,M')):M[i]?=some o/\M'=M:=by
 unfold getM at h;split at h
 ·rename_i e;cases h;exact⟨e,rfl⟩
 ·cases h
theorem bR{i:Nat}{ds:List D}{M M':MH}(h:getL i M=some (.ok ds,M')):M[i]?=some (.lst ds)/\M'=M:=by
 unfold getL at h;split at h
 ·rename_i e;cases h;exact⟨e,rfl⟩
 ·cases h
theorem lg{i:Nat}{ds:List (Ky×D)}{M M':MH}(h:getD i M=some (.ok ds,M')):M[i]?=some (.aO ds)/\M'=M:=by
 unfold getD at h;split at h
 ·rename_i e;cases h;exact⟨e,rfl⟩
 ·cases h
theorem fU{o:MO}{d:D}{M M':MH}(h:bI o M=some (.ok d,M')):d=.ob M.length/\M'=M++[o]:=by
 cases h;exact⟨rfl,rfl⟩
theorem qI{i:Nat}{o:MO}{u:Unit}{M M':MH}(h:e8 i o M=some (.ok u,M')):i<M.length/\M'=M.set i o:=by
 unfold e8 at h;split at h
 ·rename_i e;cases h;exact⟨e,rfl⟩
 ·cases h
theorem ah{α:Type}{a:α}{M':MH}(h:(none:Option (Out α×MH))=some (.ok a,M')):False:=by cases h
end L3
namespace L3
open PySem PySem.Spec PyProof.Rows L2
section
variable {K:Q_}{ι:List kw}{M:MH}{H:Hp}
end
end L3
namespace L3
open PySem PySem.Spec PyProof.Rows L2
noncomputable def strOf:jp->Str
 |.str y _=>y
 |_=>""
theorem Nk(t:SetTable)(n:Nat):(t.orStandIn n).led=t.led:=by
 unfold SetTable.orStandIn;split <;> rfl
theorem LH(t:SetTable)(es:Array (Int×jp))(h:Int)(x:jp):(layNew t es h x).2.1.led=t.led:=by
 unfold layNew;split
 ·exact Nk _ _
 ·rfl
theorem EY(t:SetTable)(es:Array (Int×jp))(n:Nat):(relayAll t es n).2.1.led=t.led/\(t.plain=false->(relayAll t es n).2.1.plain=false):=by
 unfold relayAll;split
 ·rename_i t' order e
  have z:t'.led=t.led/\t'.plain=t.plain:=by
   unfold SetTable.relaid SetTable.laid at e;cases hl:SetTable.layClean (SetTable.sizeAbove n-1) (es.map (·.1)) with
   |none=>rw[hl]at e;cases e
   |some ow=>rw[hl]at e;cases e;exact⟨rfl,rfl⟩
  dsimp only;split
  ·exact⟨z.1,fun q=>z.2.trans q⟩
  ·exact⟨rfl,fun _=>rfl⟩
 ·exact⟨rfl,fun _=>rfl⟩
section
variable {prog:ul}{w:ut}{A:Zx}{E:jp->kt->Prop}{s:kt}
noncomputable def SSet(prog:ul)(w:ut)(h:Heap)(a:kw)(xs:List Str)(led:Bool):Prop :=
 ∃o es ep t,h.get? a=some o/\o.ExactSet/\o.data=.set es ep t/\ElemsOf (aK prog w) es.toList/\(∀e∈es.toList,∃y u,e.2=.str y u)/\(es.toList.map fun e=>strOf e.2).Perm xs/\es.size<scanBound/\t.fits es.size=true/\t.led=led/\(t.plain=false\/es.size=0)
theorem SSet.at{h h':Heap}{a:kw}{xs:List Str}{led:Bool}(x:SSet prog w h a xs led)(k:∀o,h.get? a=some o->h'.get? a=some o):SSet prog w h' a xs led :=
 let ⟨o,es,ep,t,e,r⟩:=x;⟨o,es,ep,t,k o e,r⟩
theorem Hc{a:kw}{xs:List Str}{led:Bool}{x:Str}{u:Tok}{Q:Bool->kt->Prop}(hS:SSet prog w s.heap a xs led)(hr:xs.length+1<scanBound)
  (q:∀r h',Heap.SameBut a s.heap h'->SSet prog w h' a (dC xs x) led->Q r { s with heap:=h' }):wpAny (model prog w) A (setAddHashed a (.str x u) ((aK prog w).hash (.inr x))) Q E s:=by
 obtain⟨o,es,ep,t,g1,gx,g2,el,hst,hp,hb,hf,hl,ft⟩:=hS;have key:(aK prog w).is (.inr x) (.str x u)=true:=ip prog w x u;have hn:es.size=xs.length:=by rw[<- hp.length_eq,zz,yt]
 have Rk:∀e∈es.toList,(aK prog w).is (.inr x) e.2=decide (x=strOf e.2):=fun e he=>by
  obtain⟨y,v,ey⟩:=hst e he;rw[ey,KeyKind.is_eq_decide (ip prog w y v) (.inr x)];show decide ((Sum.inr x:Key)=.inr y)=decide (x=y);by_cases z:x=y
  ·rw[decide_eq_true z,decide_eq_true (by rw[z])]
  ·rw[decide_eq_false z,decide_eq_false fun z'=>z (by injection z')]
 unfold setAddHashed setAddHashedIn;refine wpAny_holding (zy (wpAny_setState_of g1 g2 hf ?_));dsimp only;rw[byScan_of (show (Value.str x u).scannable=true from rfl) hb el];simp only[↓reduceIte];unfold setAddByScan;refine zy (zy (wpAny_rule (zy (wpAny_setScan_of key g1 g2 hf el ?_))));cases hi:List.findIdx? (fun e=>(aK prog w).is (.inr x) e.2) es.toList with
 |some j =>
  dsimp only;obtain⟨hj,RA,_⟩:=xH.mp hi;have hm:=yM hj;rw[Rk _ hm]at RA;have hx:x∈xs:=hp.mem_iff.mp (zQ.mpr ⟨_,hm,(of_decide_eq_true RA).symm⟩);refine zt (zt ?_)
  have:=q false s.heap (Heap.SameBut.refl a s.heap) (by unfold dC;rw[if_pos hx];exact⟨o,es,ep,t,g1,gx,g2,el,hst,hp,hb,hf,hl,ft⟩)
  exact this
 |none =>
  dsimp only;have hx:¬ x∈xs:=fun z=>by
   obtain⟨e,he,ez⟩:=zQ.mp (hp.mem_iff.mpr z)
   have:=List.findIdx?_eq_none_iff.mp hi e he
   rw[Rk e he,ez,decide_eq_true rfl]at this;cases this
  have nN:=layNew_perm t es ((aK prog w).hash (.inr x)) (.str x u);have sW:=layNew_fits t es ((aK prog w).hash (.inr x)) (.str x u);have DQ:=LH t es ((aK prog w).hash (.inr x)) (.str x u);generalize layNew t es ((aK prog w).hash (.inr x)) (.str x u)=L at nN sW DQ ⊢;obtain⟨e1,t1,dm,gv⟩:=L;dsimp only at nN sW DQ ⊢;rw[vv]at nN;have Sv:ElemsOf (aK prog w) e1.toList:=(el.push key rfl).perm nN;have Q3:∀e∈e1.toList,∃y u,e.2=.str y u:=fun e he=>by
   rcases zL.mp (nN.mem_iff.mp he) with he|he
   ·exact hst e he
   ·rw[zA.mp he];exact⟨x,u,rfl⟩
  have p1:(e1.toList.map fun e=>strOf e.2).Perm (xs++[x]):=by
   refine(nN.map _).trans ?_;rw[zo];exact hp.append_right _
  have z1:e1.size=xs.length+1:=by rw[<- yt,<- zz (f:=fun e:Int×jp=>strOf e.2),p1.length_eq,zm];rfl
  have b1:e1.size<scanBound:=by rw[z1];exact hr
  have gw:∀(b:Bool) {s1:kt} {Q':Unit->kt->Prop},Q' () s1->wpAny (model prog w) A (match b with|true=>rule "set.scan.the-table-gave-way" |false=>pure ()) Q' E s1:=fun b s1 Q' h=>by
   cases b
   ·exact zt h
   ·exact wpAny_rule h
  refine zy (gw _ ?_);have fin:∀t2:SetTable,t2.fits e1.size=true->t2.led=led->t2.plain=false->∀{R:Option Bool->kt->Prop},(∀h',Heap.SameBut a s.heap h'->SSet prog w h' a (dC xs x) led->R (some true) { s with heap:=h' }) ->
    wpAny (model prog w) A (do
     storeSet a e1 t2
     if (!dm&&t2.tooFull)=true then do
      (match (relayAll t2 e1 (SetTable.grown e1.size)).2.2 with|true=>rule "set.scan.the-table-gave-way" |false=>pure ())
      storeSet a (relayAll t2 e1 (SetTable.grown e1.size)).1 (relayAll t2 e1 (SetTable.grown e1.size)).2.1
      pure (some true)
     else pure (some true)) R E s:=fun t2 f2 l2 Q7 {R} h=>by
   refine zy (wpAny_storeSet_of g1 g2 ?_ (fits_of_scanBound b1));have mS:(s.heap.update a (Obj.putSet e1 t2)).get? a=some { o with data:=.set e1 (ep+1) t2 }:=by
    have:=yu (Obj.putSet e1 t2) g1 (by rw[putSet_of e1 t2 g2];rfl)
    rw[putSet_of e1 t2 g2]at this;exact this
   have OC:dC xs x=xs++[x]:=if_neg hx;split
   ·have rp:=relayAll_perm t2 e1 (SetTable.grown e1.size)
    have rf:=relayAll_fits t2 e1 (SetTable.grown e1.size);have rl:=EY t2 e1 (SetTable.grown e1.size);generalize relayAll t2 e1 (SetTable.grown e1.size)=Rl at rp rf rl ⊢;obtain⟨e2,t3,g3⟩:=Rl;dsimp only at rp rf rl ⊢;have z2:e2.size=e1.size:=by rw[<- yt,rp.length_eq,yt]
    have b2:e2.size<scanBound:=by rw[z2];exact b1
    refine zy (gw _ (zy (wpAny_storeSet_of mS rfl ?_ (fits_of_scanBound b2))));have mR:((s.heap.update a (Obj.putSet e1 t2)).update a (Obj.putSet e2 t3)).get? a=some { o with data:=.set e2 (ep+1+1) t3 }:=by
     have:=yu (Obj.putSet e2 t3) mS (by rw[putSet_of e2 t3 rfl];rfl)
     rw[putSet_of e2 t3 rfl]at this;exact this
    exact zt (h _ ((Heap.SameBut.update ..).trans (Heap.SameBut.update ..)) ⟨_,e2,_,t3,mR,gx,rfl,Sv.perm rp,fun e he=>Q3 e (rp.mem_iff.mp he),by rw[OC];exact(rp.map _).trans p1,b2,rf,rl.1.trans l2,.inl (rl.2 Q7)⟩)
   ·exact zt (h _ (Heap.SameBut.update ..) ⟨_,e1,_,t2,mS,gx,rfl,Sv,Q3,by rw[OC];exact p1,b1,f2,l2,.inl Q7⟩)
  split
  ·refine zy ?_
   rw[hashByValue_scannable 8 (show (Value.str x u).scannable=true from rfl)];refine zt ?_;simp only[plainKind,yn,↓reduceIte];exact fin { t1 with plain:=false } (SetTable.fits_plain_off sW) (DQ.trans hl) rfl fun h' sb z=>zt (q true h' sb z)
  ·rename_i Wq
   refine zy (zt ?_);simp only[↓reduceIte];exact fin t1 sW (DQ.trans hl) (by simpa using Wq) fun h' sb z=>zt (q true h' sb z)
end
end L3
namespace L3
open PySem PySem.Spec PyProof.Rows L2
section
variable {prog:ul}{w:ut}{A:Zx}{E:jp->kt->Prop}{s:kt}
theorem qk:∀(ys xs:List Str),xs.length<=(aF xs ys).length
 |[],_=>zp _
 |y::ys,xs=>by
  refine zP ?_ (qk ys (dC xs y));unfold dC;split
  ·exact zp _
  ·rw[zm];exact vg _ _
theorem ua{led:Bool}{R:Result->kt->Prop}{s₀:kt}{S it a:kw}{items:List jp}(hA:A.handled=none)(ha:s₀.heap.IsList a items.toArray)(nS:S≠it)(na:a≠S)(ni:a≠it) :
  ∀(us:List jp) (ys xs:List Str) (i:Nat) (s:kt),items.drop i=us->StrsAre us ys->s.heap.IsListIter it a i->SSet prog w s.heap S xs led->(aF xs ys).length+1<scanBound ->
   s.gens=s₀.gens->s.drawn=s₀.drawn->s.os=s₀.os->(∀b o,b≠S->b≠it->s₀.heap.get? b=some o->s.heap.get? b=some o) ->
   (∀h' tk,SSet prog w h' S (aF xs ys) led->(∀b o,b≠S->b≠it->s₀.heap.get? b=some o->h'.get? b=some o)->R (.ok (.ret .none)) { s₀ with heap:=h',toks:=tk }) ->
   codeAny (model prog w) A (.builtin "set.update.loop" ⟨[.ref S,.ref it],[]⟩) R s
 |[],_,xs,i,s,e0,hst,hi,hS,hz,e1,e2,e3,kk,fin=>by
  cases hst;refine codeAny_builtin PyProof.Rows.F.entry_set_update_loop ?_;unfold Builtin.«set.update.loop»;have ha':s.heap.IsList a items.toArray:=ha.at fun o e=>kk a o na ni e;refine zy (wpAny_pyNext_list_end hA hi ha' (by simpa using e0) fun h' eb=>?_);refine zt ?_
  have:=fin h' s.toks (hS.at fun o e=>eb S o nS e) fun b o n1 n2 e=>eb b o n2 (kk b o n1 n2 e)
  rw[<- e1,<- e2,<- e3]at this;exact this
 |_::us,_,xs,i,s,e0,hst,hi,hS,hz,e1,e2,e3,kk,fin=>by
  cases hst with|@cons x u _ ys hr =>
  refine codeAny_builtin PyProof.Rows.F.entry_set_update_loop ?_;unfold Builtin.«set.update.loop»;have ha':s.heap.IsList a items.toArray:=ha.at fun o e=>kk a o na ni e;have Ii:items[i]?=some (.str x u):=by
   have:=congrArg (fun l=>l[0]?) e0
   simpa using this
  refine zy (wpAny_pyNext_list_item hi ha' (by simpa using Ii) fun h' hi' sb=>?_);have WW:SSet prog w h' S xs led:=hS.at fun o e=>(sb.2 S nS).trans e;have hz':=qk (x::ys) xs;show wpAny _ _ (holding [Value.str x u] (setAdd S (.str x u)) >>= _) _ _ _;refine zy (wpAny_holding ?_);unfold setAdd;refine wpAny_holding (zy ((aK prog w).pyHash (k:=.inr x) (ip prog w x u) ?_));refine Hc (s:={ s with heap:=h',toks:=s.toks+1 }) WW (by omega) fun r h2 kM WV=>?_;have kM:Heap.SameBut S h' h2:=kM;refine zt ⟨Code.quiet_builtin _ (by decide +kernel),?_⟩;refine ua hA ha nS na ni us ys (dC xs x) (i+1) _ ?_ hr ?_ WV ?_ e1 e2 e3 (fun b o n1 n2 e=>?_) fin
  ·rw[<- vJ,e0];rfl
  ·exact hi'.extBut kM.extBut (Ne.symm nS)
  ·exact hz
  ·exact(kM.2 b n1).trans ((sb.2 b n2).trans (kk b o n1 n2 e))
noncomputable def cg(w:ut):Bool:=!(w.params.followText "set-order")
theorem Lr(a:jp){Q₁:jp->kt->Prop}(q:Q₁ (.ref s.heap.objs.size) { s with heap:=s.heap.push { cls:=.type "set",dict:=none,data:=.set #[] 0 (.fresh 0 0 (cg w)) } }) :
  codeAny (model prog w) A (.call (.builtin "set.__new__") ⟨[.type "set",a],[]⟩) (wants Q₁ E) s:=by
 refine codeAny_of_tree ?_;show wpAny _ A.in1 (do checkBuiltinCall "set.__new__" ⟨[.type "set",a],[]⟩;again (.builtin "set.__new__" ⟨[.type "set",a],[]⟩)) _ _ s;refine zy (wpAny_of_eq (PySem.F.newCall_set_1 a) (zt ⟨plainId_quiet PySem.F.plain_set_new _,codeAny_builtin PySem.F.entry_set_new ?_⟩));rw[Around.under_plainId PySem.F.plain_set_new _];unfold Builtin.«set.__new__» Builtin.Frozenset.newClass;have YA:=sub_set_self;obtain⟨hp,g,d,tk,os⟩:=s;dsimp only;wp_walk;refine wpAny_askSetting (zt ?_);dsimp only;simp only[newObj];exact zy (wpAny_alloc (zt (zt q)))
set_option maxRecDepth 100000 in
theorem sO{l:kw}{items:List jp}{ys:List Str}{Q:jp->kt->Prop}(hh:A.handled=none)(hl:s.heap.IsList l items.toArray)(hi:StrsAre items ys)(hb:(aF [] ys).length+1<scanBound)
  (q:∀(h':Heap) (tk:Nat),SSet prog w h' s.heap.objs.size (aF [] ys) (cg w)->(∀b o,s.heap.get? b=some o->h'.get? b=some o)->Q (.ref s.heap.objs.size) { s with heap:=h',toks:=tk }) :
  wpAny (model prog w) A (call (.type "set") [.ref l]) Q E s:=by
 obtain⟨c,tl,YK⟩:=PySem.F.called_set.mro;have Yn:=PySem.F.called_set.made;have mP:=PySem.F.called_set.sub;refine wpAny_call (codeAny_of_tree ?_);show wpAny _ _ (callAny (.type "set") _) _ _ _;refine zt ⟨Code.quiet_builtin _ (by decide +kernel),codeAny_builtin PySem.F.entry_type_call ?_⟩;rw[Around.under_plain (weight_type_call_type "set" [.ref l] []) rfl];have h1:=PySem.F.called_set.notType;have h2:=PySem.F.called_set.canCreate;have Zl:=PySem.F.typeCall_set_1 (.ref l)
 repeat (any_goals (first|assumption|wp_step))
 refine codeAny_mono (Lr (.ref l) (E:=E) (Q₁:=fun obj s₁=>obj=.ref s.heap.objs.size/\s₁={ s with heap:=s.heap.push { cls:=.type "set",dict:=none,data:=.set #[] 0 (.fresh 0 0 (cg w)) } }) ⟨rfl,rfl⟩) fun r s₁ hr=>?_;cases r with
 |error e=>exact hr
 |ok fl =>
  cases fl with
  |ret obj =>
   obtain⟨rfl,rfl⟩:=hr;have gS:(s.heap.push { cls:=.type "set",dict:=none,data:=.set #[] 0 (.fresh 0 0 (cg w)) }).get? s.heap.objs.size=some { cls:=.type "set",dict:=none,data:=.set #[] 0 (.fresh 0 0 (cg w)) }:=zC _ rfl;have ty:Shared.TypeIs { s with heap:=s.heap.push { cls:=.type "set",dict:=none,data:=.set #[] 0 (.fresh 0 0 (cg w)) } } (.ref s.heap.objs.size) "set":=⟨_,gS,rfl⟩;have Zg:=PySem.F.called_set.init.lookup;have Zm:=PySem.F.called_set.init.bind (.ref s.heap.objs.size)
   repeat (any_goals (first|assumption|wp_step))
   refine codeAny_mono (codeAny_call_builtin (R:=wants (fun r s₂=>r=.none/\∃h' tk,s₂={ s with heap:=h',toks:=tk }/\SSet prog w h' s.heap.objs.size (aF [] ys) (cg w)/\(∀b o,s.heap.get? b=some o->h'.get? b=some o)) E) PySem.F.called_set.init.plain PySem.F.entry_set_init (check_set_init_1 ty ?_)) fun r₂ s₂ DX=>?_
   ·obtain⟨ol,sd,RU,nl,BO⟩:=id hl
    obtain⟨oc,od,Y0,mG⟩:=ol;simp only at RU BO;subst RU BO;have hol':(s.heap.push { cls:=.type "set",dict:=none,data:=.set #[] 0 (.fresh 0 0 (cg w)) }).get? l=some { cls:=.type "list",dict:=od,data:=.seq items.toArray nl,slots:=mG }:=zq _ sd;have f1:=PySem.F.sub_list_set;have f2:=PySem.F.sub_list_frozenset;have f3:(Value.type "list"==Value.type "dict")=false:=by decide
    have Oa:(s.heap.push { cls:=.type "set",dict:=none,data:=.set #[] 0 (.fresh 0 0 (cg w)) }).IsList l items.toArray:=⟨_,hol',rfl,nl,rfl⟩;unfold Builtin.«set.__init__» noKeywords Builtin.Frozenset.updateFrom;generalize WX:pyIter=PI;wp_walk;subst WX;refine wpAny_pyIter_list Oa ?_;refine zy (wpAny_runValue ?_);have lt:l<s.heap.objs.size:=zf sd;have sz:(s.heap.push { cls:=.type "set",dict:=none,data:=.set #[] 0 (.fresh 0 0 (cg w)) }).objs.size=s.heap.objs.size+1:=xg ..;have S0:SSet prog w ((s.heap.push { cls:=.type "set",dict:=none,data:=.set #[] 0 (.fresh 0 0 (cg w)) }).push { cls:=.type "list_iterator",data:=.fields #[.ref l,.int 0 0] }) s.heap.objs.size [] (cg w) :=
     ⟨_,#[],0,_,zq _ gS,⟨rfl,rfl,rfl⟩,rfl,(fun e he=>by simp at he),(fun e he=>by simp at he),.nil,(by unfold scanBound;decide),rfl,rfl,.inr rfl⟩
    refine ua (led:=cg w) (s₀:={ s with heap:=(s.heap.push { cls:=.type "set",dict:=none,data:=.set #[] 0 (.fresh 0 0 (cg w)) }).push { cls:=.type "list_iterator",data:=.fields #[.ref l,.int 0 0] } }) (S:=s.heap.objs.size) (it:=(s.heap.push { cls:=.type "set",dict:=none,data:=.set #[] 0 (.fresh 0 0 (cg w)) }).objs.size) (a:=l) (items:=items) (by simp[hh]) (Oa.push _) (by rw[sz];exact zd (xR _)) (zd lt) (by rw[sz];exact zd (yb lt)) items ys [] 0 _ rfl hi ⟨_,zC _ rfl,rfl,rfl⟩ S0 hb rfl rfl rfl (fun b o _ _ e=>e) fun h' tk hS' kk=>?_;show wpAny _ _ _ _ _ _;refine zt ?_;show wpAny _ _ (ret Value.none) _ _ _;refine zt ⟨rfl,h',tk,rfl,hS',fun b o e=>?_⟩;have hb:=zf e;exact kk b o (zd hb) (by rw[sz];exact zd (yb hb)) (zq _ (zq _ e))
   ·cases r₂ with
    |error e=>exact DX
    |ok QJ =>
     cases QJ with
     |ret r =>
      obtain⟨rfl,h',tk,rfl,hS',hk'⟩:=DX
      repeat (any_goals (first|assumption|wp_step))
      exact q _ _ hS' hk'
     |_=>exact DX
  |_=>exact hr
end
end L3
namespace L3
open PySem PySem.Spec PyProof.Rows L2
theorem cI:Slot "set_iterator" "__next__" "set_iterator.__next__" :=
 Slot.of (owner:="set_iterator") (n:="__next__") (by rw[typeLookup_type,builtinLookup_eq_fast];kernel_rfl) (by decide +kernel) (by decide +kernel) (by decide +kernel) (by first|exact .inl (by decide +kernel)|exact .inr (by decide +kernel)) (by rw[isSubtype_type];kernel_rfl)
theorem jT:entryFor table "set_iterator.__next__" = some Builtin.«set_iterator.__next__»:=entryFor_of_tree (by kernel_rfl)
theorem lq(a:jp):argsOk "set_iterator.__next__" ⟨[a],[]⟩:=by unfold argsOk;kernel_rfl
theorem Gs:entryFor table "set.__iter__" = some Builtin.«frozenset.__iter__»:=entryFor_alias (id':="frozenset.__iter__") (by kernel_rfl) (by decide +kernel) (by decide +kernel) (by kernel_rfl)
theorem q9{α:Type}:∀{l:List α} {i:Nat} (h:i<l.length),(l[i]::l.eraseIdx i).Perm l
 |_::_,0,_=>.refl _
 |x::l,i+1,h=>by
  have h':i<l.length:=by simpa using h
  exact(List.Perm.swap x l[i] _).trans ((q9 h').cons x)
section
variable {prog:ul}{w:ut}{A:Zx}{E:jp->kt->Prop}{s:kt}
theorem Ks{src:Source}{n:Nat}{Q:Nat->kt->Prop}(hn:n≠0)(q:∀i d,i<n->Q i { s with drawn:=d }):wpAny (model prog w) A (choose src n) Q E s:=fun Γ p _=>by
 show Sem.wp _ _ (.choose src n .pure) _ _ _ _;rw[Sem.wp_choose];exact⟨hn,q _ _ (vK _ (wT hn))⟩
theorem tF{α:Type}:∀(n:Nat) (xs:List α) (s:kt) {Q:List α->kt->Prop},xs.length=n->(∀ys d,ys.Perm xs->Q ys { s with drawn:=d })->wpAny (model prog w) A (drawOrder n xs) Q E s
 |0,xs,s,Q,h,q=>by
  obtain rfl:=yS h;exact zt (q [] s.drawn .nil)
 |n+1,[],s,Q,h,q=>by cases h
 |n+1,x::xs,s,Q,h,q=>by
  unfold drawOrder;refine zy (Ks (by simp) fun i d hi=>?_);rw[zv hi];dsimp only;refine zy (tF n ((x::xs).eraseIdx i) _ (by rw[ww hi,h];rfl) fun ys d' p=>?_);exact zt (q _ _ ((p.cons _).trans (q9 hi)))
theorem Bm{α:Type}(f:Nat->Nat):∀(n k:Nat) (l:List α) (out:Array α),l.length=n->(pickOrder.go f n k l out).toList.Perm (out.toList++l)
 |0,_,l,out,h=>by
  obtain rfl:=yS h;unfold pickOrder.go;rw[zO]
 |n+1,k,l,out,h=>by
  unfold pickOrder.go;have aS:f k % l.length<l.length:=vK _ (by omega);rw[zv aS];dsimp only;refine(Bm f n (k+1) _ _ (by rw[ww aS,h];rfl)).trans ?_;rw[vv,yz];exact(q9 aS).append_left _
theorem E9{α:Type}(f:Nat->Nat)(xs:Array α):(pickOrder f xs).toList.Perm xs.toList:=by
 have:=Bm f xs.size 0 xs.toList #[] (by simp)
 simpa [pickOrder] using this
noncomputable def iK(h:Heap)(I a:kw)(first:jp)(i n ep:Nat):Prop:=∃o,h.get? I=some o/\o.cls=.type "set_iterator"/\o.data=.fields #[first,.int i 0,.ref a,.int n 0,.int ep 0]
theorem iK.ty{I a:kw}{first:jp}{i n ep:Nat}(x:iK s.heap I a first i n ep):s.TypeIs (.ref I) "set_iterator":=let ⟨o,h,c,_⟩:=x;⟨o,h,c⟩
theorem iK.at{h h':Heap}{I a:kw}{first:jp}{i n ep:Nat}(x:iK h I a first i n ep)(k:∀o,h.get? I=some o->h'.get? I=some o):iK h' I a first i n ep:=let ⟨o,e,r⟩:=x;⟨o,k o e,r⟩
variable {I a:kw}{so:Obj}{es:Array (Int×jp)}{ep:Nat}{t:SetTable}
structure jY (h:Heap) (a:kw) (so:Obj) (es:Array (Int×jp)) (ep:Nat) (t:SetTable):Prop where
 g:h.get? a=some so
 d:so.data=.set es ep t
 f:t.fits es.size=true
theorem kG{Q:Array (Int×jp)->kt->Prop}(S:jY s.heap a so es ep t)(q:Q es s):wpAny (model prog w) A (setEntries a) Q E s:=by
 unfold setEntries;exact zy (wpAny_setState_of S.g S.d S.f (zt q))
theorem pE{Q:Bool->kt->Prop}(q:Q (w.params.followText "set-order") s):wpAny (model prog w) A setsByText Q E s:=by
 unfold setsByText;exact zy (wpAny_askSetting (zt q))
theorem jD{vs:Array jp}{o:Obj}{i:Nat}{x:jp}{Q:Unit->kt->Prop}(k1:s.heap.get? I=some o)(k2:o.cls=.type "set_iterator")(k3:o.data=.fields vs)(hi:i<vs.size)
  (q:∀h' o',h'.get? I=some o'->o'.cls=.type "set_iterator"->o'.data=.fields (vs.setIfInBounds i x)->Heap.SameBut I s.heap h'->Q () { s with heap:=h' }):wpAny (model prog w) A (setField (.ref I) i x) Q E s :=
 wpAny_setField k1 k3 hi (q _ _ (yu _ k1 (Obj.isFreed_of_fields (Obj.data_mapFields k3 _))) ((Obj.cls_mapFields ..).trans k2) (Obj.data_mapFields k3 _) (Heap.SameBut.update ..))
theorem qy{o:Obj}{vs:Array jp}{Q:Option jp->kt->Prop}{P:PySem.Fin->kt->Prop}(hh:A.handled=none)(k1:s.heap.get? I=some o)(k2:o.cls=.type "set_iterator")(k3:o.data=.fields vs)(hi:2<vs.size)(q:∀h',Heap.ExtBut I s.heap h'->Q none { s with heap:=h' }) :
  wpAny (model prog w) A.in1 (do setField (.ref I) 2 .none;let e<-newExc (.type "StopIteration") [];raiseNew e:Sem PySem.Fin) P (fun e s'=>wpAny (model prog w) A (do let b<-isInstance e (.type "StopIteration");if b=true then pure none else throw e) Q E s') s:=by
 refine zy (jD k1 k2 k3 hi fun h1 o1 _ _ _ sb=>?_);refine zy ?_;simp only[newExc,newTuple];refine zy (wpAny_newObj_type (zy (m:=firstArgMember _ _) (wpAny_of_eq (a:=Value.none) (by first|rfl|(simp only[firstArgMember];rfl)) ?_)) (by size_fits))
 refine wpAny_newObj_type ?_ (by size_fits);simp only[raiseNew];refine zy (wpAny_handled ?_);rw[show A.in1.handled=none from hh];refine zy (zt (wpAny_throw ?_));exact zy (wpAny_isInstance (T:="StopIteration") (b:=true) ⟨_,zC _ rfl,rfl⟩ isSubtype_stop (zt (q _ ((sb.extBut.push _).push _))))
theorem t7{i:Nat}{Q:Option (jp×Nat)->kt->Prop}(hb:w.params.followText "set-order" = true)(S:jY s.heap a so es ep t)(q:Q (((pickOrder (w.params.setOrder a ep) es)[i]?).map fun e=>(e.2,0)) s):wpAny (model prog w) A (setNext a 0 i ep) Q E s:=by
 unfold setNext;refine zy (wpAny_setState_of S.g S.d S.f ?_);dsimp only;refine zy (pE ?_);rw[hb,if_pos rfl,if_neg (by simp)];refine zy ?_;unfold setWalk;refine zy (wpAny_setState_of S.g S.d S.f ?_);dsimp only;refine zy (pE ?_);rw[hb,if_pos rfl];exact zy (wpAny_askSetting (zt (zt q)))
theorem Hj{i:Nat}{e:Int×jp}{Q:Option jp->kt->Prop}(hb:w.params.followText "set-order" = true)(st:iK s.heap I a (.int 0 0) i es.size ep)(S:jY s.heap a so es ep t)(hx:(pickOrder (w.params.setOrder a ep) es)[i]?=some e)
  (q:∀h',iK h' I a (.int 0 0) (i+1) es.size ep->Heap.SameBut I s.heap h'->Q (some e.2) { s with heap:=h' }):wpAny (model prog w) A (pyNext (.ref I)) Q E s:=by
 obtain⟨o,k1,k2,k3⟩:=id st;unfold pyNext;refine zy (wpAny_attempt (wpAny_callSpecial?_slot (name:=Str.ofString "__next__") st.ty cI (wpAny_call_entry cI st.ty jT ?_ (lq _))));unfold Builtin.«set_iterator.__next__»;refine zy (zt ?_);refine zy (wpAny_fieldsOf k1 k3 ?_);dsimp only;refine zy (kG S ?_);rw[if_neg (by simp)];simp only[zV];refine zy (t7 hb S ?_);rw[hx];dsimp only[Option.map];refine zy (jD k1 k2 k3 (by simp) fun h1 o1 j1 j2 j3 uc=>zy (jD (s:={ s with heap:=h1 }) j1 j2 j3 (by simp) fun h2 o2 l1 l2 l3 kM=>?_));exact zt ⟨_,rfl,zt (q h2 ⟨o2,l1,l2,by rw[l3];simp[rawInt]⟩ (uc.trans kM))⟩
theorem KQ{i:Nat}{Q:Option jp->kt->Prop}(hh:A.handled=none)(hb:w.params.followText "set-order" = true)(st:iK s.heap I a (.int 0 0) i es.size ep)(S:jY s.heap a so es ep t)(hx:(pickOrder (w.params.setOrder a ep) es)[i]?=none)
  (q:∀h',Heap.ExtBut I s.heap h'->Q none { s with heap:=h' }):wpAny (model prog w) A (pyNext (.ref I)) Q E s:=by
 obtain⟨o,k1,k2,k3⟩:=id st;unfold pyNext;refine zy (wpAny_attempt (wpAny_callSpecial?_slot (name:=Str.ofString "__next__") st.ty cI (wpAny_call_entry cI st.ty jT ?_ (lq _))));unfold Builtin.«set_iterator.__next__»;refine zy (zt ?_);refine zy (wpAny_fieldsOf k1 k3 ?_);dsimp only;refine zy (kG S ?_);rw[if_neg (by simp)];simp only[zV];refine zy (t7 hb S ?_);rw[hx];exact qy hh k1 k2 k3 (by simp) q
theorem Hi{i p:Nat}{pt:kw}{po:Obj}{ps:List Nat}{c:Nat}{e:Int×jp}{Q:Option jp->kt->Prop}(st:iK s.heap I a (.ref pt) i es.size ep)(S:jY s.heap a so es ep t)(g1:s.heap.get? pt=some po)(g2:po.data=.seq (ps.map fun (i:Nat)=>rawInt i).toArray c)(hp:ps[i]?=some p)(hx:es[p]?=some e)
  (q:∀h',iK h' I a (.ref pt) (i+1) es.size ep->Heap.SameBut I s.heap h'->Q (some e.2) { s with heap:=h' }):wpAny (model prog w) A (pyNext (.ref I)) Q E s:=by
 obtain⟨o,k1,k2,k3⟩:=id st;unfold pyNext;refine zy (wpAny_attempt (wpAny_callSpecial?_slot (name:=Str.ofString "__next__") st.ty cI (wpAny_call_entry cI st.ty jT ?_ (lq _))));unfold Builtin.«set_iterator.__next__»;refine zy (zt ?_);refine zy (wpAny_fieldsOf k1 k3 ?_);dsimp only;refine zy (kG S ?_);rw[if_neg (by simp)];simp only[zV];refine zy (wpAny_seqItems g1 g2 ?_);have ft:((ps.map fun (i:Nat)=>rawInt i).toArray)[i]?=some (.int p 0):=by simp[hp,rawInt]
 dsimp only;rw[ft];dsimp only;refine zy ?_;unfold setNextDrawn;refine zy (wpAny_setState_of S.g S.d S.f ?_);dsimp only;rw[if_neg (by simp),zV,hx];refine zt ?_;refine zy (jD k1 k2 k3 (by simp) fun h1 o1 j1 j2 j3 uc=>?_);exact zt ⟨_,rfl,zt (q h1 ⟨o1,j1,j2,by rw[j3];simp[rawInt]⟩ uc)⟩
theorem KP{i:Nat}{pt:kw}{po:Obj}{ps:List Nat}{c:Nat}{Q:Option jp->kt->Prop}(hh:A.handled=none)(st:iK s.heap I a (.ref pt) i es.size ep)(S:jY s.heap a so es ep t)(g1:s.heap.get? pt=some po)(g2:po.data=.seq (ps.map fun (i:Nat)=>rawInt i).toArray c)(hp:ps[i]?=none)
  (q:∀h',Heap.ExtBut I s.heap h'->Q none { s with heap:=h' }):wpAny (model prog w) A (pyNext (.ref I)) Q E s:=by
 obtain⟨o,k1,k2,k3⟩:=id st;unfold pyNext;refine zy (wpAny_attempt (wpAny_callSpecial?_slot (name:=Str.ofString "__next__") st.ty cI (wpAny_call_entry cI st.ty jT ?_ (lq _))));unfold Builtin.«set_iterator.__next__»;refine zy (zt ?_);refine zy (wpAny_fieldsOf k1 k3 ?_);dsimp only;refine zy (kG S ?_);rw[if_neg (by simp)];simp only[zV];refine zy (wpAny_seqItems g1 g2 ?_);have ft:((ps.map fun (i:Nat)=>rawInt i).toArray)[i]?=none:=by simpa using hp
 dsimp only;rw[ft];dsimp only;refine zy (jD k1 k2 k3 (by simp) fun h1 o1 j1 j2 j3 uc=>?_);exact qy (s:={ s with heap:=h1 }) hh j1 j2 j3 (by simp) fun h' eb=>q h' (uc.extBut.trans eb)
end
end L3
namespace L3
open PySem PySem.Spec PyProof.Rows L2
section
variable {prog:ul}{w:ut}{A:Zx}{E:jp->kt->Prop}{s:kt}{I a:kw}{so:Obj}{es:Array (Int×jp)}{ep:Nat}{t:SetTable}
theorem Hh{slot i:Nat}{Q:Option (jp×Nat)->kt->Prop}(hb:w.params.followText "set-order" = false)(hl:t.led=true)(h1:es.size<=1)(S:jY s.heap a so es ep t)
  (q:Q (match es[SetTable.below t.place slot]?,t.place[SetTable.below t.place slot]? with
   |some (_,x),some j=>some (x,j+1)
   |_,_=>none) s):wpAny (model prog w) A (setNext a slot i ep) Q E s:=by
 unfold setNext;refine zy (wpAny_setState_of S.g S.d S.f ?_);dsimp only;refine zy (pE ?_);rw[hb,if_neg zk];split
 ·rename_i z
  have z:(!t.plain&&decide (es.size > 1))=true:=z;rw[decide_eq_false (by omega),wx]at z;cases z
 ·refine zy (m:=if (!t.led&&!es.isEmpty)=true then unsupported "set:maker-not-led" else pure ()) ?_
  rw[hl,if_neg (by simp)];exact zt (zt q)
theorem Bd{slot i:Nat}{r:Option (jp×Nat)}{Q:Option jp->kt->Prop}(hh:A.handled=none)(hb:w.params.followText "set-order" = false)(hl:t.led=true)(h1:es.size<=1)(st:iK s.heap I a (.int slot 0) i es.size ep)(S:jY s.heap a so es ep t)
  (hr:(match es[SetTable.below t.place slot]?,t.place[SetTable.below t.place slot]? with
   |some (_,x),some j=>some (x,j+1)
   |_,_=>none)=r)
  (q1:∀x k h',r=some (x,k)->iK h' I a (.int k 0) (i+1) es.size ep->Heap.SameBut I s.heap h'->Q (some x) { s with heap:=h' }) (q2:∀h',r=none->Heap.ExtBut I s.heap h'->Q none { s with heap:=h' }):wpAny (model prog w) A (pyNext (.ref I)) Q E s:=by
 obtain⟨o,k1,k2,k3⟩:=id st;unfold pyNext;refine zy (wpAny_attempt (wpAny_callSpecial?_slot (name:=Str.ofString "__next__") st.ty cI (wpAny_call_entry cI st.ty jT ?_ (lq _))));unfold Builtin.«set_iterator.__next__»;refine zy (zt ?_);refine zy (wpAny_fieldsOf k1 k3 ?_);dsimp only;refine zy (kG S ?_);rw[if_neg (by simp)];simp only[zV];refine zy (Hh hb hl h1 S ?_);rw[hr];cases r with
 |none=>exact qy hh k1 k2 k3 (by simp) fun h' eb=>q2 h' rfl eb
 |some p =>
  obtain⟨x,k⟩:=p;dsimp only;refine zy (jD k1 k2 k3 (by simp) fun h1 o1 j1 j2 j3 uc=>zy (jD (s:={ s with heap:=h1 }) j1 j2 j3 (by simp) fun h2 o2 l1 l2 l3 kM=>?_));exact zt ⟨_,rfl,zt (q1 x k h2 rfl ⟨o2,l1,l2,by rw[l3];simp[rawInt]⟩ (uc.trans kM))⟩
theorem L4(j:Nat):SetTable.below #[j] 0=0:=by
 unfold SetTable.below;simp[SetTable.below.go]
theorem below_1(j:Nat):SetTable.below #[j] (j+1)=1:=by
 unfold SetTable.below;simp[SetTable.below.go]
theorem jY.at{h h':Heap}(S:jY h a so es ep t)(k:∀o,h.get? a=some o->h'.get? a=some o):jY h' a so es ep t:=⟨k _ S.g,S.d,S.f⟩
theorem t5:Slot "set_iterator" "__iter__" "set_iterator.__iter__" :=
 Slot.of (owner:="set_iterator") (n:="__iter__") (by rw[typeLookup_type,builtinLookup_eq_fast];kernel_rfl) (by decide +kernel) (by decide +kernel) (by decide +kernel) (by first|exact .inl (by decide +kernel)|exact .inr (by decide +kernel)) (by rw[isSubtype_type];kernel_rfl)
theorem Gu:entryFor table "set_iterator.__iter__" = some Builtin.«dict_keyiterator.__iter__»:=entryFor_alias (id':="dict_keyiterator.__iter__") (by kernel_rfl) (by decide +kernel) (by decide +kernel) (by kernel_rfl)
theorem IM(a:jp):argsOk "set_iterator.__iter__" ⟨[a],[]⟩:=by unfold argsOk;kernel_rfl
theorem mC{first:jp}{i n:Nat}{Q:jp->kt->Prop}(st:iK s.heap I a first i n ep)(q:Q (.ref I) s):wpAny (model prog w) A (pyIter (.ref I)) Q E s:=by
 refine wpAny_pyIter_slot st.ty t5 (wpAny_call_entry t5 st.ty Gu ?_ (IM _));show wpAny _ _ (ret (.ref I)) _ _ s;exact zt ⟨_,rfl,"set_iterator",_,st.ty,cI.lookup,q⟩
theorem UY(hh:A.handled=none)(hb:w.params.followText "set-order" = true)(nI:a≠I):Walks prog w A I [I,a] [I] ((pickOrder (w.params.setOrder a ep) es).toList.map (·.2)).length (fun i v=>((pickOrder (w.params.setOrder a ep) es).toList.map (·.2))[i]?=some v) (fun i h=>iK h I a (.int 0 0) i es.size ep/\jY h a so es ep t) where
 sub:=fun b hb=>zc.mpr (.inl (zA.mp hb))
 frame:=fun i h h' st k=>⟨st.1.at fun o e=>k I (by simp) o e,st.2.at fun o e=>k a (by simp) o e⟩
 item:=fun i s Q E hi st q=>by
  have hi':i<(pickOrder (w.params.setOrder a ep) es).size:=by simpa using hi
  have hx:=yg hi';refine Hj hb st.1 st.2 hx fun h' st' sb=>?_
  have:=q ((pickOrder (w.params.setOrder a ep) es)[i]).2 h' s.toks (by simp[hx]) ⟨st',st.2.at fun o e=>(sb.2 a nI).trans e⟩ fun b o hb e=>(sb.2 b (by simpa using hb)).trans e
  exact this
 done:=fun s Q E st q=>by
  refine KQ hh hb st.1 st.2 (by simp) fun h' eb=>?_;exact q h' s.toks fun b o hb e=>eb b o (by simpa using hb) e
 self:=fun i s Q E st q=>mC st.1 q
noncomputable def Ub(h:Heap)(pt:kw)(ps:List Nat):Prop:=h.get? pt=some { cls:=.type "tuple",data:=.seq (ps.map fun (i:Nat)=>rawInt i).toArray }
theorem UX{pt:kw}{ps:List Nat}(hh:A.handled=none)(nI:a≠I)(nP:pt≠I)(hps:ps.Perm (List.range es.size)):Walks prog w A I [I,a,pt] [I] (ps.map fun p=>(es.getD p default).2).length (fun i v=>(ps.map fun p=>(es.getD p default).2)[i]?=some v) (fun i h=>iK h I a (.ref pt) i es.size ep/\jY h a so es ep t/\Ub h pt ps) where
 sub:=fun b hb=>zc.mpr (.inl (zA.mp hb))
 frame:=fun i h h' st k=>⟨st.1.at fun o e=>k I (by simp) o e,st.2.1.at fun o e=>k a (by simp) o e,k pt (by simp) _ st.2.2⟩
 item:=fun i s Q E hi st q=>by
  have hi':i<ps.length:=by simpa using hi
  have hp:=zv hi';have aS:ps[i]<es.size:=yk.mp (hps.mem_iff.mp (yM hi'));refine Hi st.1 st.2.1 st.2.2 rfl hp (yg aS) fun h' st' sb=>?_;exact q _ h' s.toks (by simp[hp,wA,aS]) ⟨st',st.2.1.at fun o e=>(sb.2 a nI).trans e,(sb.2 pt nP).trans st.2.2⟩ fun b o hb e=>(sb.2 b (by simpa using hb)).trans e
 done:=fun s Q E st q=>by
  refine KP hh st.1 st.2.1 st.2.2 rfl (by simp) fun h' eb=>?_;exact q h' s.toks fun b o hb e=>eb b o (by simpa using hb) e
 self:=fun i s Q E st q=>mC st.1 q
noncomputable def sS(t:SetTable):Nat->Nat
 |0=>0
 |_+1=>t.place.getD 0 0+1
theorem UW(hh:A.handled=none)(hb:w.params.followText "set-order" = false)(hl:t.led=true)(h1:es.size<=1)(nI:a≠I)(hf:t.fits es.size=true):Walks prog w A I [I,a] [I] (es.toList.map (·.2)).length (fun i v=>(es.toList.map (·.2))[i]?=some v) (fun i h=>i<=es.size/\iK h I a (.int (sS t i:Nat) 0) i es.size ep/\jY h a so es ep t) where
 sub:=fun b hb=>zc.mpr (.inl (zA.mp hb))
 frame:=fun i h h' st k=>⟨st.1,st.2.1.at fun o e=>k I (by simp) o e,st.2.2.at fun o e=>k a (by simp) o e⟩
 item:=fun i s Q E hi st q=>by
  have hi':i<es.size:=by simpa using hi
  obtain rfl:i=0:=by omega
  have hs:es.size=1:=by omega
  simp only[SetTable.fits,zl,beq_iff_eq]at hf;have hp:t.place=#[t.place.getD 0 0]:=by
   have z:=hf.1;rw[hs]at z;apply uy
   ·simp[z]
   ·intro k JS Ob
    obtain rfl:k=0:=by omega
    simp[wA,z]
  have e0:SetTable.below t.place (sS t 0)=0:=by rw[hp];exact L4 _
  refine Bd hh hb hl h1 st.2.1 st.2.2 rfl (fun x k h' hr st' sb=>?_) fun h' hr eb=>?_
  ·rw[e0,yg hi',yg (by rw[hf.1,hs];decide)]at hr
   cases hr;refine q _ h' s.toks (by simp[hi']) ⟨by omega,?_,st.2.2.at fun o e=>(sb.2 a nI).trans e⟩ fun b o hb e=>(sb.2 b (by simpa using hb)).trans e
   have:sS t (0+1)=t.place[0]'(by rw[hf.1,hs];decide)+1:=by
    show t.place.getD 0 0+1=_;simp[wA,hf.1,hs]
   rw[this];exact st'
  ·rw[e0,yg hi',yg (by rw[hf.1,hs];decide)]at hr
   cases hr
 done:=fun s Q E st q=>by
  have hn:(es.toList.map (·.2)).length=es.size:=by simp
  rw[hn]at st;simp only[SetTable.fits,zl,beq_iff_eq]at hf;refine Bd hh hb hl h1 st.2.1 st.2.2 rfl (fun x k h' hr st' sb=>?_) fun h' hr eb=>q h' s.toks fun b o hb e=>eb b o (by simpa using hb) e;exfalso;have hs:es.size=0\/es.size=1:=by omega
  rcases hs with hs|hs
  ·rw[xm (by omega)]at hr
   cases hr
  ·have hp:t.place=#[t.place.getD 0 0]:=by
    have z:=hf.1;rw[hs]at z;apply uy
    ·simp[z]
    ·intro k JS Ob
     obtain rfl:k=0:=by omega
     simp[wA,z]
   have e1:SetTable.below t.place (sS t es.size)=1:=by rw[hs,hp];exact below_1 _
   rw[e1,xm (by omega)]at hr;cases hr
 self:=fun i s Q E st q=>mC st.2.1 q
theorem HY{xs:List Str}{Q:jp->kt->Prop}(hh:A.handled=none)(hS:SSet prog w s.heap a xs (cg w))
  (q:∀I h' d fp vs St,(∀b o,s.heap.get? b=some o->h'.get? b=some o)->s.heap.objs.size<=I->(∀b∈fp,b=a\/s.heap.objs.size<=b)->Walks prog w A I fp [I] vs.length (fun i v=>vs[i]?=some v) St->St 0 h'->(∃ys,StrsAre vs ys/\ys.Perm xs)->Q (.ref I) { s with heap:=h',drawn:=d }) :
  wpAny (model prog w) A (pyIter (.ref a)) Q E s:=by
 obtain⟨so,es,ep,t,g1,gx,g2,el,hst,hp,OB,hf,hl,ft⟩:=hS;have S:jY s.heap a so es ep t:=⟨g1,g2,hf⟩;have uO:a<s.heap.objs.size:=zf g1;have ty:s.TypeIs (.ref a) "set":=⟨so,g1,gx.1⟩;have sts:∀l:List (Int×jp),l.Perm es.toList->∃ys,StrsAre (l.map (·.2)) ys/\ys.Perm xs:=fun l pl=>by
  refine⟨l.map fun e=>strOf e.2,?_,(pl.map _).trans hp⟩;have hl':∀e∈l,∃y u,e.2=.str y u:=fun e he=>hst e (pl.mem_iff.mp he);clear pl;induction l with
  |nil=>exact .nil
  |cons e l ih =>
   obtain⟨y,u,ey⟩:=hl' e zJ;rw[zG,zG,ey];exact .cons y u (ih fun e' h=>hl' e' (zI _ h))
 refine wpAny_pyIter_slot ty PySem.F.slot_set_iter (wpAny_call_entry PySem.F.slot_set_iter ty Gs ?_ (PySem.F.args_set_iter_1 _));unfold Builtin.«frozenset.__iter__»;refine zy (zt ?_);refine zy (zy (kG S (zt ?_)));refine zy ?_;unfold setDrawn;refine zy (wpAny_setState_of g1 g2 hf ?_);dsimp only;refine zy (pE (zt ?_));have nI:a≠s.heap.objs.size:=zd uO;cases hb:w.params.followText "set-order" with
 |true =>
  refine zy (zt ?_);refine zy (wpAny_setEpoch_of g1 g2 hf ?_);refine zy (wpAny_newObj_type (zt ⟨_,rfl,"set_iterator",_,⟨_,zC _ rfl,rfl⟩,cI.lookup,?_⟩));refine q s.heap.objs.size _ s.drawn [s.heap.objs.size,a] _ _ (fun b o e=>zq _ e) (zp _) (fun b hm=>?_) (UY (ep:=ep) (es:=es) (so:=so) (t:=t) hh hb nI) ⟨⟨_,zC _ rfl,rfl,rfl⟩,S.at fun o e=>zq _ e⟩ (sts _ (E9 _ es));rcases zc.mp hm with e|hm
  ·exact .inr (yQ e.symm)
  ·exact .inl (zA.mp hm)
 |false =>
  have TU:t.led=true:=by rw[hl];unfold cg;rw[hb];rfl
  by_cases h1:es.size<=1
  ·have hc:(!false&&(!t.plain&&decide (es.size > 1)))=false:=by rw[decide_eq_false (by omega),wx];rfl
   show wpAny _ _ (if (!false&&(!t.plain&&decide (es.size > 1)))=true then _ else _) _ _ _;rw[hc,if_neg zk];refine zy (zt ?_);refine zy (wpAny_setEpoch_of g1 g2 hf ?_);refine zy (wpAny_newObj_type (zt ⟨_,rfl,"set_iterator",_,⟨_,zC _ rfl,rfl⟩,cI.lookup,?_⟩));refine q s.heap.objs.size _ s.drawn [s.heap.objs.size,a] _ _ (fun b o e=>zq _ e) (zp _) (fun b hm=>?_) (UW (ep:=ep) (es:=es) (so:=so) (t:=t) hh hb TU h1 nI hf) ⟨zM _,⟨_,zC _ rfl,rfl,rfl⟩,S.at fun o e=>zq _ e⟩ (sts _ (.refl _));rcases zc.mp hm with e|hm
   ·exact .inr (yQ e.symm)
   ·exact .inl (zA.mp hm)
  ·have Wj:t.plain=false:=ft.elim id fun z=>by omega
   have hc:(!false&&(!t.plain&&decide (es.size > 1)))=true:=by rw[Wj,decide_eq_true (by omega)];rfl
   show wpAny _ _ (if (!false&&(!t.plain&&decide (es.size > 1)))=true then _ else _) _ _ _;rw[hc,if_pos rfl];refine zy (tF es.size (List.range es.size) s (by simp) fun ps d pp=>?_);have Ri:ps.length=es.size:=by rw[pp.length_eq,zZ]
   refine zy (wpAny_newTuple ?_ (by rw[zz,Ri];exact fits_of_scanBound OB));have k1:∀b o,s.heap.get? b=some o->(s.heap.push { cls:=.type "tuple",data:=.seq (ps.map fun (i:Nat)=>rawInt i).toArray }).get? b=some o:=fun b o e=>zq _ e;have z1:(s.heap.push { cls:=.type "tuple",data:=.seq (ps.map fun (i:Nat)=>rawInt i).toArray }).objs.size=s.heap.objs.size+1:=xg ..;refine zy (wpAny_setEpoch_of (k1 _ _ g1) g2 hf ?_);refine zy (wpAny_newObj_type (zt ⟨_,rfl,"set_iterator",_,⟨_,zC _ rfl,rfl⟩,cI.lookup,?_⟩));have sq:∃ys,StrsAre (ps.map fun p=>(es.getD p default).2) ys/\ys.Perm xs:=by
    have e1:(ps.map fun p=>(es.getD p default).2)=(ps.map fun p=>es.getD p default).map (·.2):=by rw[yp];rfl
    rw[e1];refine sts _ ((pp.map _).trans ?_);have e2:(List.range es.size).map (fun p=>es.getD p default)=es.toList:=by
     apply List.ext_getElem
     ·simp
     ·intro k JS Ob
      have:k<es.size:=by simpa using Ob
      simp[wA,this]
    rw[e2]
   dsimp only;rw[z1];refine q (s.heap.objs.size+1) _ d [s.heap.objs.size+1,a,s.heap.objs.size] _ _ (fun b o e=>zq _ (k1 b o e)) (xo _) (fun b hm=>?_) (UX (ep:=ep) (es:=es) (so:=so) (t:=t) (pt:=s.heap.objs.size) (ps:=ps) hh (zd (yb uO)) (zd (xR _)) pp) ⟨⟨{ cls:=.type "set_iterator",data:=.fields #[.ref s.heap.objs.size,.int 0 0,.ref a,.int es.size 0,.int ep 0] },by rw[<- z1];exact zC _ rfl,rfl,rfl⟩,S.at fun o e=>zq _ (k1 a o e),zq _ (zC _ rfl)⟩ sq;simp only[zc,yA,or_false]at hm;rcases hm with e|e|e
   ·exact .inr (by rw[e];exact xo _)
   ·exact .inl e
   ·exact .inr (yQ e.symm)
end
end L3
namespace L3
open PySem PySem.Spec PyProof.Rows L2
section
variable {prog:ul}{w:ut}{A:Zx}{E:jp->kt->Prop}{s:kt}{a:kw}
theorem Ig{Q:Bool->kt->Prop}(ty:s.TypeIs (.ref a) "set")(q:Q false s):wpAny (model prog w) A (Builtin.List.listLengthHint (.ref a)) Q E s:=by
 unfold Builtin.List.listLengthHint;refine zy (wpAny_specialOf ty PySem.F.slot_set_len.lookup ?_);generalize FZ:("set.__len__":String)=V2
 wp_delta
 rw[show splitId V2=some ("set","__len__") from by subst FZ;decide +kernel];subst FZ;refine zy (wpAny_isInstance (T:="set") (b:=true) ty (by rw[isSubtype_type];kernel_rfl) ?_);refine wpAny_ite_split (fun z=>absurd z (by decide)) (fun _=>wpAny_ite_split (fun _=>?_) (fun z=>absurd (by decide +kernel) z));exact zy (wpAny_typeOf ty (zt q))
theorem GO{vs:List jp}{acc:Array jp}(h:ItemsOf (fun i v=>vs[i]?=some v) acc vs.length):acc.toList=vs:=by
 apply vt;intro i;rw[xh];cases e:acc[i]? with
 |some v=>exact(h.2 i v e).symm
 |none =>
  have:acc.size<=i:=by simpa using e
  rw[h.1]at this;exact(yZ this).symm
theorem LP{xs:List Str}{R:Result->kt->Prop}(hh:A.handled=none)(hS:SSet prog w s.heap a xs (cg w)){S:kw}(nS:S≠a)(res:jp){c₀:Nat}(gS:s.heap.get? S=some { cls:=.type "list",data:=.seq #[] c₀ })
  (hR:∀h' tk d acc c ys,(∀b o,b≠S->s.heap.get? b=some o->h'.get? b=some o)->h'.get? S=some { cls:=.type "list",dict:=none,data:=.seq acc c,slots:=#[] }->StrsAre acc.toList ys->ys.Perm xs->R (.ok (.ret res)) { s with heap:=h',toks:=tk,drawn:=d }) :
  wpAny (model prog w) A.in1 (Builtin.List.listExtendWith (.ref S) (.ref a) res) (fun fin s'=>match fin with|.done f=>R (.ok f) s'|.again c'=>c'.quiet=true/\codeAny (model prog w) A c' R s') (fun e s'=>R (.error e) s') s:=by
 have VS:=zf gS;obtain⟨so,es,ep,t,g1,gx,rest⟩:=id hS;have ty:s.TypeIs (.ref a) "set":=⟨so,g1,gx.1⟩;have lx:xs.length<=zg:=by
  obtain⟨_,_,_,hp,hb,_⟩:=rest;rw[<- hp.length_eq,zz,yt];exact fits_of_scanBound hb
 unfold Builtin.List.listExtendWith;refine zy (wpAny_typeOf (T:="set") ty ?_);have h1:Builtin.List.listSameRef (.ref S) (.ref a)=false:=by simp[Builtin.List.listSameRef,nS]
 have n1:(Value.type "set"==Value.type "list")=false:=by decide
 have n2:(Value.type "set"==Value.type "tuple")=false:=by decide
 simp only[h1,n1,n2,vO,yn,if_false];refine zy (HY (A:=A.in1) hh hS fun I h1 d fp vs St kk hI hfp W st V5=>?_);obtain⟨ys,hy,nR⟩:=V5;have lv:vs.length=xs.length:=by
  rw[<- nR.length_eq];clear nR st W;induction hy with
  |nil=>rfl
  |cons _ _ _ ih=>rw[zE,zE,ih]
 have nf:S ∉ fp:=fun z=>(hfp S z).elim nS fun z=>absurd VS (vL.mpr z);have key:∀(h:Heap) (c₁ tk:Nat),St 0 h->(∀b o,b≠S->s.heap.get? b=some o->h.get? b=some o)->h.get? S=some { cls:=.type "list",data:=.seq #[] c₁ }->codeAny (model prog w) A (.builtin "list.extend.loop" ⟨[.ref S,.ref I,res],[]⟩) R { s with heap:=h,toks:=tk,drawn:=d }:=by
  intro h c₁ tk hst hk g;refine codeAny_extend_loopS W.toS (by rw[lv];exact lx) S nf res vs.length 0 _ #[] c₁ rfl (zM _) hst g (ItemsOf.nil _) fun s' acc c' hm g' lQ=>?_;rw[Moved.eq_with hm];refine hR s'.heap s'.toks d acc c' ys (fun b o hb e=>hm.heap b o (fun z=>?_) (hk b o hb e)) g' (by rw[GO lQ];exact hy) nR;rcases zc.mp z with z|z
  ·exact hb z
  ·exact absurd (zf e) (by rw[zA.mp z];exact vL.mpr hI)
 have ON:=kk _ _ gS;refine zy (wpAny_holding (Ig (s:={ s with heap:=h1,drawn:=d }) ⟨so,kk _ _ g1,gx.1⟩ ?_));refine wpAny_ite_split (fun _=>?_) (fun _=>zt ⟨plainId_quiet PySem.F.plain_extend_loop _,key _ c₀ _ st (fun b o _ e=>kk b o e) ON⟩);refine zy (wpAny_rule (zy ?_));show wpAny _ _ (updateSeq S (·.push .none) >>= fun _=>updateSeq S (·.pop)) _ _ _;refine zy (wpAny_updateSeq ON rfl ?_);have Sj:=yu (Obj.mapSeq (·.push Value.none)) ON rfl;refine wpAny_updateSeq (hz:=by seq_fits) Sj rfl ?_;have W4:=yu (Obj.mapSeq (·.pop)) Sj rfl;refine zt ⟨plainId_quiet PySem.F.plain_extend_loop _,key _ _ _ ?_ (fun b o hb e=>?_) W4⟩
 ·refine W.frame 0 _ _ st fun b hb o e=>?_
  have nb:b≠S:=fun z=>nf (z▸hb);exact(zY _ _ (Ne.symm nb)).trans ((zY _ _ (Ne.symm nb)).trans e)
 ·exact(zY _ _ (Ne.symm hb)).trans ((zY _ _ (Ne.symm hb)).trans (kk b o e))
theorem AU{xs:List Str}{R:List jp->kt->Prop}(hh:A.handled=none)(hS:SSet prog w s.heap a xs (cg w))
  (h:∀h' tk d vs ys,(∀b o,s.heap.get? b=some o->h'.get? b=some o)->StrsAre vs ys->ys.Perm xs->R vs { s with heap:=h',toks:=tk,drawn:=d }):wpAny (model prog w) A (collect (.ref a)) R E s:=by
 have uO:a<s.heap.objs.size:=by obtain⟨_,_,_,_,g,_⟩:=hS;exact zf g
 unfold collect;refine zy (wpAny_runValue (codeAny_builtin entry_proto_collect' ?_));rw[Around.under_plainId PySem.F.plain_proto_collect _];show wpAny _ A.in1 (newList [] >>= fun l=>again (.builtin "list.__iadd__" ⟨[l,.ref a],[]⟩)) _ _ s;refine zy (wpAny_newObj_type (zt ⟨plainId_quiet PySem.F.plain_list_iadd _,codeAny_builtin entry_list_iadd' ?_⟩));rw[Around.under_plainId PySem.F.plain_list_iadd _];have gS:(s.heap.push { cls:=.type "list",data:=.seq ([]:List jp).toArray }).get? s.heap.objs.size=some { cls:=.type "list",data:=.seq #[] }:=zC _ rfl;show wpAny _ A.in1 (Builtin.List.listExtendWith (.ref s.heap.objs.size) (.ref a) (.ref s.heap.objs.size)) _ _ _;have key:=LP (A:=A) (s:={ s with heap:=s.heap.push { cls:=.type "list",data:=.seq ([]:List jp).toArray } })
  (R:=fun (q:Result) (s':kt)=>∃(h':Heap) (tk:Nat) (d:Drawn) (acc:Array jp) (c:Nat) (ys:List Str),q=.ok (.ret (.ref s.heap.objs.size))/\s'={ s with heap:=h',toks:=tk,drawn:=d }/\(∀b o,s.heap.get? b=some o->h'.get? b=some o)/\h'.get? s.heap.objs.size=some { cls:=.type "list",dict:=none,data:=.seq acc c,slots:=#[] }/\StrsAre acc.toList ys/\ys.Perm xs)
  hh (hS.at fun o e=>zq _ e) (yO uO) (.ref s.heap.objs.size) gS (fun h' tk d acc c ys hk hS' h1 h2=>⟨h',tk,d,acc,c,ys,rfl,rfl,fun b o e=>hk b o (zd (zf e)) (zq _ e),hS',h1,h2⟩)
 have last:∀{h':Heap} {tk:Nat} {d:Drawn} {acc:Array jp} {c:Nat} {ys:List Str},(∀b o,s.heap.get? b=some o->h'.get? b=some o)->h'.get? s.heap.objs.size=some { cls:=.type "list",dict:=none,data:=.seq acc c,slots:=#[] }->StrsAre acc.toList ys->ys.Perm xs ->
   wpAny (model prog w) A (do match (<- load s.heap.objs.size).data with|.seq xs _=>pure xs.toList|_=>unsupported "internal:collect") R E { s with heap:=h',toks:=tk,drawn:=d }:=fun hk g h1 h2=>zy (wpAny_load g (zt (h _ _ _ _ _ hk h1 h2)))
 refine wpAny_mono key (fun fin s' x=>?_) fun e s' x=>?_
 ·cases fin with
  |done f =>
   obtain⟨h',tk,d,acc,c,ys,e,rfl,hk,g,h1,h2⟩:=x;cases e;exact last hk g h1 h2
  |again c₁ =>
   refine⟨x.1,codeAny_mono x.2 fun q s₂ y=>?_⟩;obtain⟨h',tk,d,acc,c,ys,rfl,rfl,hk,g,h1,h2⟩:=y;exact last hk g h1 h2
 ·obtain⟨_,_,_,_,_,_,e',_⟩:=x
  cases e'
end
end L3
namespace L3
open PySem PySem.Spec PyProof.Rows L2
noncomputable def B8(K:Q_)(g:D->D->Mo D):R2:=fun x y H Q=>∃ι M M' dx dy d,aJ K ι M H/\Rep K ι H dx x/\Rep K ι H dy y/\g dx dy M=some (.ok d,M') /\
 ∀v H' ι',Rep K ι' H' d v->aJ K ι' M' H'->Ext K ι H ι' H'->Q v H'
theorem nE{K:Q_}{g:D->D->Mo D}:SE K (B8 K g) g:=fun ι M M' _ x y d _ _ _ S r1 r2 e k=>⟨ι,M,M',x,y,d,S,r1,r2,e,k⟩
section
variable {K:Q_}{ι:List kw}{H:Hp}{M M':MH}
theorem hU{Q:VK}{ds:List D}{vs:List V}{d:D}(S:aJ K ι M H)(r:az K ι H ds vs)(e:bI (.lst ds) M=some (.ok d,M'))(k:∀v H' ι',Rep K ι' H' d v->aJ K ι' M' H'->Ext K ι H ι' H'->Q v H') :
  ∀p,H p=none->Q (.ref p) (upd H p (.lst vs)):=fun p hp=>by
 have e0:=fU e;clear e;obtain⟨rfl,rfl⟩:=e0;have x:Ext K ι H (ι++[p]) (upd H p (.lst vs)):=Ext.new hp;exact k _ _ (ι++[p]) (.ob (by rw[<- S.len,zK (zp _),yW];rfl)) (S.new hp ⟨vs,rfl,r.mono x⟩) x
theorem kX{Q:VK}{ds:List D}{vs:List V}(S:aJ K ι M H)(r:az K ι H ds vs)(k:∀v H' ι',Rep K ι' H' (.tup ds) v->aJ K ι' M H'->Ext K ι H ι' H'->Q v H') :
  ∀p,H p=none->Q (.ref p) (upd H p (.tup vs)):=fun p hp=>by
 have x:Ext K ι H ι (upd H p (.tup vs)):=Ext.fL hp;exact k _ _ ι (.tup bO (r.mono x)) (S.fL hp) x
inductive Xl (K:Q_) (ι:List kw) (H:Hp) (i:Nat) (ds:List D) (v:V):Prop
 |mk (a:kw) (vs:List V) (h:v=.ref a) (h1:ι[i]?=some a) (h2:H a=some (.lst vs)) (h3:az K ι H ds vs)
theorem aT(S:aJ K ι M H){i:Nat}{ds:List D}{v:V}(r:Rep K ι H (.ob i) v)(e:M[i]?=some (.lst ds)):Xl K ι H i ds v:=by
 cases r with
 |ob h =>
  rename_i a;obtain⟨vs,e1,q⟩:=S.obj i a _ h e;exact⟨a,vs,rfl,h,e1,q⟩
inductive Xm (K:Q_) (ι:List kw) (H:Hp) (i:Nat) (kvs:List (Ky×D)) (v:V):Prop
 |mk (a:kw) (ws:List (Ky×V)) (h:v=.ref a) (h1:ι[i]?=some a) (h2:H a=some (.dK ws)) (h3:KR K ι H kvs ws)
theorem c7(S:aJ K ι M H){i:Nat}{kvs:List (Ky×D)}{v:V}(r:Rep K ι H (.ob i) v)(e:M[i]?=some (.aO kvs)):Xm K ι H i kvs v:=by
 cases r with
 |ob h =>
  rename_i a;obtain⟨vs,e1,q⟩:=S.obj i a _ h e;exact⟨a,vs,rfl,h,e1,q⟩
theorem lS{d:D}{v:V}(r:Rep K ι H d v)(h:bV d=true):sZ v=true:=by
 cases r <;> simp[bV,sZ]at h ⊢
theorem Gj{d e:D}{v u:V}(r:Rep K ι H d v)(q:Rep K ι H e u)(h:bV d=true)(h':bV e=true):OS v u=eY d e:=by
 cases r <;> cases q <;> simp[bV,OS,eY]at h h' ⊢
theorem KR.find{kvs:List (Ky×D)}{ws:List (Key×V)}(r:KR K ι H kvs ws)(k:Ky):(bq kvs k=none/\fK ws k=none)\/∃d v,bq kvs k=some d/\fK ws k=some v/\Rep K ι H d v:=by
 induction r with
 |nil=>exact .inl ⟨rfl,rfl⟩
 |cons h t ih =>
  rename_i a b l1 l2;by_cases e:a.1=k
  ·refine .inr ⟨a.2,b.2,?_,lA (h.1▸e),h.2⟩
   simp[bq,yj,e]
  ·have e2:¬ b.1=k:=fun z=>e (h.1.trans z)
   have e3:bq (a::l1) k=bq l1 k:=by simp[bq,yj,e]
   rw[lB e2,e3];exact ih
theorem KR.T8{kvs:List (Ky×D)}{ws:List (Key×V)}(r:KR K ι H kvs ws)(k:Ky):(kvs.any fun kv=>decide (kv.1=k))=ws.any fun kv=>decide (kv.1=k):=by
 induction r with
 |nil=>rfl
 |cons h t ih=>rw[yP,yP,ih,h.1]
theorem KR.len{kvs:List (Ky×D)}{ws:List (Key×V)}(r:KR K ι H kvs ws):kvs.length=ws.length:=Paired.length r
theorem KR.ui{kvs:List (Ky×D)}{ws:List (Key×V)}(r:KR K ι H kvs ws)(k:Ky){d:D}{v:V}(q:Rep K ι H d v) :
  KR K ι H (kvs.map fun kv=>if kv.1=k then (kv.1,d) else kv) (ws.map fun kv=>if kv.1=k then (kv.1,v) else kv):=by
 induction r with
 |nil=>exact .nil
 |cons h t ih =>
  rename_i a b l1 l2;rw[zG,zG];refine .cons ?_ ih;by_cases e:a.1=k
  ·rw[if_pos e,if_pos (h.1▸e)];exact⟨h.1,q⟩
  ·rw[if_neg e,if_neg (fun z=>e (h.1.trans z))];exact h
theorem KR.put{kvs:List (Ky×D)}{ws:List (Key×V)}(r:KR K ι H kvs ws)(k:Ky){d:D}{v:V}(q:Rep K ι H d v):KR K ι H (ee kvs k d) (putK ws k v):=by
 unfold ee putK;rw[r.T8 k];split
 ·exact r.ui k q
 ·exact Paired.snoc r ⟨rfl,q⟩
theorem nQ{d:D}{v:V}{k:Ky}(r:Rep K ι H d v)(h:fq d=some k):v=kV k:=by
 cases r <;> simp[fq]at h <;> subst h <;> rfl
theorem MF{d:D}{v:V}{ds:List D}(S:aJ K ι M H)(r:Rep K ι H d v)(h:jO d M=some (.ok ds,M')):M'=M/\∃a vs,v=.ref a/\(aZ K H a vs\/de K H a vs)/\az K ι H ds vs:=by
 cases r with
 |tup t q=>have h0:=af h;clear h;obtain⟨rfl,rfl⟩:=h0;exact⟨rfl,_,_,rfl,.inr (cy t),q⟩
 |fl t q=>have h0:=af h;clear h;obtain⟨rfl,rfl⟩:=h0;exact⟨rfl,_,_,rfl,.inl t.seq,q⟩
 |ob t =>
  have h0:=bR h;clear h;obtain⟨e,rfl⟩:=h0;obtain⟨a,vs,h1,_,h3,h4⟩:=aT S (.ob t) e;exact⟨rfl,a,vs,h1,.inl (aZ.of h3),h4⟩
 |_=>exact(ah h).elim
theorem qE{ds:List D}{vs:List V}{i:Int}{d:D}(r:az K ι H ds vs)(h:cz ds i=some d):∃v,Ao vs i=some v/\Rep K ι H d v:=by
 unfold cz at h;unfold Ao;have e:BD vs.length i=k8 ds.length i:=by rw[r.length];rfl
 rw[e];cases q:k8 ds.length i with
 |none=>rw[q]at h;cases h
 |some j =>
  rw[q]at h;exact r.get h
end
section
variable {X:Cx}{Zz:List (kw×Obj)}{σ:St}{H:Hp}{s:kt}{ι:List kw}{M:MH}
theorem w6{f:D->D->Option Bool}:∀{xs ys:List D} {b:Bool},c9 f xs ys=some b->(∀(j:Nat) (x y:D),xs[j]?=some x->ys[j]?=some y->∃c,f x y=some c) /\
  b=((List.range (min xs.length ys.length)).all (fun j=>(f (xs.getD j .non) (ys.getD j .non)).getD false)&&xs.length==ys.length)
 |[],[],b,h=>by
  simp only[c9,Option.some.injEq]at h;subst h;exact⟨fun j x y h=>by simp at h,rfl⟩
 |[],_::_,b,h=>by
  simp only[c9,Option.some.injEq]at h;subst h;exact⟨fun j x y h=>by simp at h,by simp⟩
 |_::_,[],b,h=>by
  simp only[c9,Option.some.injEq]at h;subst h;exact⟨fun j x y _ h=>by simp at h,by simp⟩
 |x::xs,y::ys,b,h=>by
  unfold c9 at h;cases e1:f x y with
  |none=>rw[e1]at h;cases h
  |some c =>
   rw[e1]at h;cases e2:c9 f xs ys with
   |none=>rw[e2]at h;cases h
   |some c2 =>
    rw[e2]at h;cases h;obtain⟨i1,i2⟩:=w6 e2;refine⟨fun j x' y' h1 h2=>?_,?_⟩
    ·cases j with
     |zero=>simp at h1 h2;subst h1 h2;exact⟨c,e1⟩
     |succ j=>exact i1 j x' y' (by simpa using h1) (by simpa using h2)
    ·rw[i2,zE,zE,Nat.add_min_add_right,wB,zX,xJ]
     simp only[List.getD_cons_zero,e1,xS];have e3:(xs.length+1==ys.length+1)=(xs.length==ys.length):=by
      rw[yi];simp
     rw[e3,Bool.and_assoc];rfl
theorem rK(I:Inv X Zz σ H s)(S:aJ X.K ι M H):∀(n:Nat) {d d':D} {v:V} {b:Bool},Rep X.K ι H d v->Rep X.K ι H d' v->bA M n d d'=some b->b=true
 |0,_,_,_,_,_,_,h=>by cases h
 |n+1,d,d',v,b,r,r',h=>by
  have lst:∀{ds ds':List D} {vs:List V} {b:Bool},az X.K ι H ds vs->az X.K ι H ds' vs->c9 (bA M n) ds ds'=some b->b=true:=by
   intro ds;induction ds with
   |nil =>
    intro ds' vs b h1 h2 h3;cases h1;cases h2;cases h3;rfl
   |cons x xs ih =>
    intro ds' vs b h1 h2 h3;cases h1 with
    |cons r1 t1 =>
     cases h2 with
     |cons r2 t2 =>
      rename_i y ys;unfold c9 at h3;cases e1:bA M n x y with
      |none=>rw[e1]at h3;cases h3
      |some c =>
       rw[e1]at h3;cases e2:c9 (bA M n) xs ys with
       |none=>rw[e2]at h3;cases h3
       |some c2 =>
        rw[e2]at h3;cases h3;rw[rK I S n r1 r2 e1,ih t1 t2 e2];rfl
  cases r with
  |non=>cases r' with|non=>cases h;rfl
  |bl a=>cases r' with|bl=>cases h;simp[eY]
  |int a=>cases r' with|int=>cases h;simp[eY]
  |str a=>cases r' with|str=>cases h;simp[eY]
  |tup t q =>
   cases r' with
   |tup t' q' =>
    have:=I.mx (cy t) (cy t')
    subst this;exact lst q q' h
   |fl t' q'=>cases h
   |ob t'=>cases h
  |fl t q =>
   cases r' with
   |tup t' q'=>cases h
   |fl t' q'=>cases h
   |ob t'=>cases h
  |ob t =>
   rename_i i a;cases r' with
   |tup t' q'=>cases h
   |fl t' q'=>cases h
   |ob t' =>
    rename_i j
    have:=S.inj i j a t t'
    subst this;unfold bA at h;dsimp only at h;split at h
    ·rename_i xs ys h1 h2
     rw[h1]at h2;cases h2;rw[if_pos rfl]at h;obtain⟨vs,_,q⟩:=S.obj i a _ t h1;exact lst q q h
    ·cases h
theorem uT{A:Zx}{n:Nat}(ih:∀{dx dy:D} {vx vy:V} {u v:jp} {b:Bool},Rep X.K ι H dx vx->Rep X.K ι H dy vy->RelV vx u->RelV vy v->bA M n dx dy=some b->SeqAt.EqAt A s u v b)
  {xs ys:List D} {vs ws:List V} {its bT:List jp} {b:Bool} (r1:az X.K ι H xs vs) (r2:az X.K ι H ys ws) (q1:Vals vs its) (q2:Vals ws bT) (h:c9 (bA M n) xs ys=some b) :
  ∃e:Nat->Bool,(∀j (h1:j<its.toArray.size) (h2:j<bT.toArray.size),SeqAt.EqAt A s its.toArray[j] bT.toArray[j] (e j))/\b=((List.range (min its.toArray.size bT.toArray.size)).all e&&its.toArray.size==bT.toArray.size):=by
 obtain⟨h1,h2⟩:=w6 h;have l1:xs.length=its.toArray.size:=by rw[r1.length,q1.length];simp
 have l2:ys.length=bT.toArray.size:=by rw[r2.length,q2.length];simp
 refine⟨fun j=>(bA M n (xs.getD j .non) (ys.getD j .non)).getD false,fun j g1 g2=>?_,by rw[<- l1,<- l2];exact h2⟩;have j1:j<xs.length:=by rw[l1];exact g1
 have j2:j<ys.length:=by rw[l2];exact g2
 obtain⟨c,hc⟩:=h1 j _ _ (zv j1) (zv j2);obtain⟨v1,e1,p1⟩:=r1.get (zv j1);obtain⟨v2,e2,p2⟩:=r2.get (zv j2);obtain⟨u1,f1,g1'⟩:=q1.get e1;obtain⟨u2,f2,g2'⟩:=q2.get e2;have k1:its.toArray[j]=u1:=by
  have:=(zn.mp f1).2
  simpa using this
 have k2:bT.toArray[j]=u2:=by
  have:=(zn.mp f2).2
  simpa using this
 rw[k1,k2];have k3:(bA M n (xs.getD j .non) (ys.getD j .non)).getD false=c:=by
  rw[zi,zi,zv j1,zv j2];simp only[xS];rw[hc];rfl
 show SeqAt.EqAt A s u1 u2 ((bA M n (xs.getD j .non) (ys.getD j .non)).getD false);rw[k3];exact ih p1 p2 g1' g2' hc
theorem Fy{its bT:List jp}(h:its.length≠bT.length):(its.toArray.size != bT.toArray.size)=true:=by simpa using h
theorem MQ(I:Inv X Zz σ H s){A:Zx}(hu:A.units<cLine){n:Nat}(ih:∀{dx dy:D} {vx vy:V} {u v:jp} {b:Bool},Rep X.K ι H dx vx->Rep X.K ι H dy vy->RelV vx u->RelV vy v->bA M n dx dy=some b->SeqAt.EqAt A.in1 s u v b)
  {xs ys:List D} {vs ws:List V} {a c:kw} {b:Bool} (t1:de X.K H a vs) (t2:de X.K H c ws) (r1:az X.K ι H xs vs) (r2:az X.K ι H ys ws) (h:c9 (bA M n) xs ys=some b):SeqAt.RcAt A s (.ref a) (.ref c) b/\SeqAt.RcNeAt A s (.ref a) (.ref c) (!b):=by
 obtain⟨its,q1,p1,_⟩:=I.tuple t1;obtain⟨bT,q2,p2,_⟩:=I.tuple t2;obtain⟨e,he,rfl⟩:=uT ih r1 r2 q1 q2 h;exact⟨SeqAt.RcAt.tuples p1 p2 hu he,SeqAt.RcNeAt.tuples p1 p2 hu he⟩
theorem MR(I:Inv X Zz σ H s){A:Zx}(hu:A.units<cLine){n:Nat}(ih:∀{dx dy:D} {vx vy:V} {u v:jp} {b:Bool},Rep X.K ι H dx vx->Rep X.K ι H dy vy->RelV vx u->RelV vy v->bA M n dx dy=some b->SeqAt.EqAt A.in1 s u v b)
  {xs ys:List D} {vs ws:List V} {a c:kw} {b:Bool} (t1:aZ X.K H a vs) (t2:aZ X.K H c ws) (r1:az X.K ι H xs vs) (r2:az X.K ι H ys ws) (h:(if xs.length=ys.length then c9 (bA M n) xs ys else some false)=some b):SeqAt.RcAt A s (.ref a) (.ref c) b/\SeqAt.RcNeAt A s (.ref a) (.ref c) (!b):=by
 obtain⟨its,q1,p1,_⟩:=I.list t1;obtain⟨bT,q2,p2,_⟩:=I.list t2;have l1:xs.length=its.length:=by rw[r1.length,q1.length]
 have l2:ys.length=bT.length:=by rw[r2.length,q2.length]
 split at h
 ·rename_i hl
  obtain⟨e,he,rfl⟩:=uT ih r1 r2 q1 q2 h;have hs:its.toArray.size=bT.toArray.size:=by simp;omega
  have e1:((List.range (min its.toArray.size bT.toArray.size)).all e&&its.toArray.size==bT.toArray.size)=(List.range its.toArray.size).all e:=by
   rw[hs,Nat.min_self];simp
  rw[e1];exact⟨SeqAt.RcAt.lists p1.isList p2.isList hs hu he,SeqAt.RcNeAt.lists p1.isList p2.isList hs hu he⟩
 ·rename_i hl
  cases h;exact⟨SeqAt.RcAt.lists_lengths p1.isList p2.isList (Fy (by first|lia|omega)) hu,SeqAt.RcNeAt.lists_lengths p1.isList p2.isList (Fy (by first|lia|omega)) hu⟩
theorem K0{A:Zx}{dx dy:D}{vx vy:V}{u v:jp}(r1:Rep X.K ι H dx vx)(r2:Rep X.K ι H dy vy)(g1:RelV vx u)(g2:RelV vy v)(f1:bV dx=true)(f2:bV dy=true):SeqAt.RcAt A s u v (eY dx dy)/\SeqAt.RcNeAt A s u v (!eY dx dy):=by
 cases r1 with
 |non =>
  cases g1;cases r2 with
  |non=>cases g2;exact⟨SeqAt.RcAt.none_none,SeqAt.RcNeAt.none_none⟩
  |bl b=>cases g2;exact⟨SeqAt.RcAt.none_bool b,SeqAt.RcNeAt.none_bool b⟩
  |int b=>obtain⟨t,rfl⟩:=g2;exact⟨SeqAt.RcAt.none_int b t,SeqAt.RcNeAt.none_int b t⟩
  |str b=>obtain⟨t,rfl⟩:=g2;exact⟨SeqAt.RcAt.none_str b t,SeqAt.RcNeAt.none_str b t⟩
  |_=>exact absurd f2 zk
 |bl a =>
  cases g1;cases r2 with
  |non=>cases g2;exact⟨SeqAt.RcAt.bool_none a,SeqAt.RcNeAt.bool_none a⟩
  |bl b=>cases g2;exact⟨SeqAt.RcAt.bool_bool a b,SeqAt.RcNeAt.bool_bool a b⟩
  |int b=>obtain⟨t,rfl⟩:=g2;exact⟨SeqAt.RcAt.bool_int a b t,SeqAt.RcNeAt.bool_int a b t⟩
  |str b=>obtain⟨t,rfl⟩:=g2;exact⟨SeqAt.RcAt.bool_str a b t,SeqAt.RcNeAt.bool_str a b t⟩
  |_=>exact absurd f2 zk
 |int a =>
  obtain⟨t',rfl⟩:=g1;cases r2 with
  |non=>cases g2;exact⟨SeqAt.RcAt.int_none a t',SeqAt.RcNeAt.int_none a t'⟩
  |bl b=>cases g2;exact⟨SeqAt.RcAt.int_bool a t' b,SeqAt.RcNeAt.int_bool a t' b⟩
  |int b=>obtain⟨t,rfl⟩:=g2;exact⟨SeqAt.RcAt.int_int a t' b t,SeqAt.RcNeAt.int_int a t' b t⟩
  |str b=>obtain⟨t,rfl⟩:=g2;exact⟨SeqAt.RcAt.int_str a t' b t,SeqAt.RcNeAt.int_str a t' b t⟩
  |_=>exact absurd f2 zk
 |str a =>
  obtain⟨t',rfl⟩:=g1;cases r2 with
  |non=>cases g2;exact⟨SeqAt.RcAt.str_none a t',SeqAt.RcNeAt.str_none a t'⟩
  |bl b=>cases g2;exact⟨SeqAt.RcAt.str_bool a t' b,SeqAt.RcNeAt.str_bool a t' b⟩
  |int b=>obtain⟨t,rfl⟩:=g2;exact⟨SeqAt.RcAt.str_int a t' b t,SeqAt.RcNeAt.str_int a t' b t⟩
  |str b=>obtain⟨t,rfl⟩:=g2;exact⟨SeqAt.RcAt.str_str a t' b t,SeqAt.RcNeAt.str_str a t' b t⟩
  |_=>exact absurd f2 zk
 |_=>exact absurd f1 zk
theorem cZ(I:Inv X Zz σ H s){A:Zx}(hu:A.units<cLine){dy:D}{vs:List V}{a:kw}{vy:V}{v:jp}(t1:de X.K H a vs)(r2:Rep X.K ι H dy vy)(g2:RelV vy v)(f2:bV dy=true) :
  (SeqAt.RcAt A s (.ref a) v false/\SeqAt.RcNeAt A s (.ref a) v true/\SeqAt.EqAt A s (.ref a) v false)/\(SeqAt.RcAt A s v (.ref a) false/\SeqAt.RcNeAt A s v (.ref a) true/\SeqAt.EqAt A s v (.ref a) false):=by
 obtain⟨its,q1,p1,_⟩:=I.tuple t1;cases r2 with
 |non=>cases g2;exact⟨⟨.tuple_none p1 hu,.tuple_none p1 hu,.tuple_none p1 hu⟩,⟨.none_tuple p1 hu,.none_tuple p1 hu,.none_tuple p1 hu⟩⟩
 |bl b=>cases g2;exact⟨⟨.tuple_bool b p1 hu,.tuple_bool b p1 hu,.tuple_bool b p1 hu⟩,⟨.bool_tuple b p1 hu,.bool_tuple b p1 hu,.bool_tuple b p1 hu⟩⟩
 |int b=>obtain⟨t,rfl⟩:=g2;exact⟨⟨.tuple_int b t p1 hu,.tuple_int b t p1 hu,.tuple_int b t p1 hu⟩,⟨.int_tuple b t p1 hu,.int_tuple b t p1 hu,.int_tuple b t p1 hu⟩⟩
 |str b=>obtain⟨t,rfl⟩:=g2;exact⟨⟨.tuple_str b t p1 hu,.tuple_str b t p1 hu,.tuple_str b t p1 hu⟩,⟨.str_tuple b t p1 hu,.str_tuple b t p1 hu,.str_tuple b t p1 hu⟩⟩
 |_=>exact absurd f2 zk
theorem qb(I:Inv X Zz σ H s)(S:aJ X.K ι M H):∀(n:Nat) {A:Zx} {dx dy:D} {vx vy:V} {u v:jp} {b:Bool},A.units+n<cLine->Rep X.K ι H dx vx->Rep X.K ι H dy vy->RelV vx u->RelV vy v->bA M n dx dy=some b ->
  SeqAt.RcAt A s u v b/\SeqAt.RcNeAt A s u v (!b)/\SeqAt.EqAt A s u v b
 |0,_,_,_,_,_,_,_,_,_,_,_,_,_,h=>by cases h
 |n+1,A,dx,dy,vx,vy,u,v,b,hA,r1,r2,g1,g2,h=>by
  have hu:A.units<cLine:=by first|lia|omega
  have ih:∀{dx dy:D} {vx vy:V} {u v:jp} {b:Bool},Rep X.K ι H dx vx->Rep X.K ι H dy vy->RelV vx u->RelV vy v->bA M n dx dy=some b->SeqAt.EqAt A.in1 s u v b :=
   fun r1 r2 g1 g2 h=>(qb I S n (A:=A.in1) (by show A.units+1+n<cLine;omega) r1 r2 g1 g2 h).2.2
  have refs:∀{a c:kw},vx=.ref a->vy=.ref c->SeqAt.RcAt A s (.ref a) (.ref c) b->SeqAt.EqAt A s (.ref a) (.ref c) b:=fun {a c} e1 e2 hr=>by
   by_cases RX:a=c
   ·subst RX
    subst e1;subst e2;rw[rK I S (n+1) r1 r2 h];exact SeqAt.EqAt.same _
   ·exact SeqAt.EqAt.of_refs RX hr
  by_cases hf:bV dx=true/\bV dy=true
  ·have hb:bA M (n+1) dx dy=some (eY dx dy):=by
    cases dx <;> cases dy <;> first|exact absurd hf.1 zk|exact absurd hf.2 zk|rfl
   rw[hb]at h;cases h;obtain⟨q1,q2⟩:=K0 (X:=X) (H:=H) (s:=s) (ι:=ι) (A:=A) r1 r2 g1 g2 hf.1 hf.2;refine⟨q1,q2,?_⟩;rw[<- Gj r1 r2 hf.1 hf.2];exact Gm g1 g2 (lS r1 hf.1) (lS r2 hf.2)
  ·cases r1 with
   |tup t q =>
    cases g1;cases r2 with
    |tup t' q' =>
     cases g2;obtain⟨h1,h2⟩:=MQ I hu ih (cy t) (cy t') q q' h;exact⟨h1,h2,refs rfl rfl h1⟩
    |fl t' q'=>cases h
    |ob t'=>cases h
    |non=>cases h;obtain⟨⟨h1,h2,h3⟩,_⟩:=cZ (ι:=ι) I hu (cy t) .non g2 rfl;exact⟨h1,h2,h3⟩
    |bl b=>cases h;obtain⟨⟨h1,h2,h3⟩,_⟩:=cZ (ι:=ι) I hu (cy t) (.bl b) g2 rfl;exact⟨h1,h2,h3⟩
    |int b=>cases h;obtain⟨⟨h1,h2,h3⟩,_⟩:=cZ (ι:=ι) I hu (cy t) (.int b) g2 rfl;exact⟨h1,h2,h3⟩
    |str b=>cases h;obtain⟨⟨h1,h2,h3⟩,_⟩:=cZ (ι:=ι) I hu (cy t) (.str b) g2 rfl;exact⟨h1,h2,h3⟩
   |ob t =>
    cases g1;cases r2 with
    |ob t' =>
     cases g2;unfold bA at h;dsimp only at h;split at h
     ·rename_i i a j c xs ys h1 h2
      obtain⟨vs,e1,q1⟩:=S.obj _ _ _ t h1;obtain⟨ws,e2,q2⟩:=S.obj _ _ _ t' h2;obtain⟨k1,k2⟩:=MR I hu ih (aZ.of e1) (aZ.of e2) q1 q2 h;refine⟨k1,k2,refs rfl rfl k1⟩
     ·cases h
    |tup t' q'=>cases h
    |_=>cases h
   |fl t q=>cases r2 <;> cases h
   |non =>
    cases r2 with
    |tup t' q'=>cases h;cases g2;obtain⟨_,h1,h2,h3⟩:=cZ (ι:=ι) I hu (cy t') .non g1 rfl;exact⟨h1,h2,h3⟩
    |fl t' q'=>cases h
    |ob t'=>cases h
    |_=>exact absurd ⟨rfl,rfl⟩ hf
   |bl x =>
    cases r2 with
    |tup t' q'=>cases h;cases g2;obtain⟨_,h1,h2,h3⟩:=cZ (ι:=ι) I hu (cy t') (.bl x) g1 rfl;exact⟨h1,h2,h3⟩
    |fl t' q'=>cases h
    |ob t'=>cases h
    |_=>exact absurd ⟨rfl,rfl⟩ hf
   |int x =>
    cases r2 with
    |tup t' q'=>cases h;cases g2;obtain⟨_,h1,h2,h3⟩:=cZ (ι:=ι) I hu (cy t') (.int x) g1 rfl;exact⟨h1,h2,h3⟩
    |fl t' q'=>cases h
    |ob t'=>cases h
    |_=>exact absurd ⟨rfl,rfl⟩ hf
   |str x =>
    cases r2 with
    |tup t' q'=>cases h;cases g2;obtain⟨_,h1,h2,h3⟩:=cZ (ι:=ι) I hu (cy t') (.str x) g1 rfl;exact⟨h1,h2,h3⟩
    |fl t' q'=>cases h
    |ob t'=>cases h
    |_=>exact absurd ⟨rfl,rfl⟩ hf
open Classical in
theorem FN(I:Inv X Zz σ H s)(S:aJ X.K ι M H){A:Zx}(hu:A.units+9<cLine){x:D}{vx:V}{v:jp}(rx:Rep X.K ι H x vx)(gx:RelV vx v):∀{ds:List D} {vs:List V} {its:List jp} {b:Bool},az X.K ι H ds vs->Vals vs its->iY M x ds=some b ->
  ∃jW:List Bool,jW.length=its.length/\(∀(j:Nat) (u:jp) (c:Bool),its[j]?=some u->jW[j]?=some c->SeqAt.EqAt A.in1 s u v c)/\b=jW.any id:=by
 intro ds;induction ds with
 |nil=>intro vs its b r q h;cases r;cases q;cases h;exact⟨[],rfl,fun j u c h=>by simp at h,rfl⟩
 |cons d ds ih =>
  intro vs its b r q h;cases r with|cons r t =>
  cases q with|cons q k =>
  unfold iY at h;cases e1:bA M 8 d x with
  |none=>rw[e1]at h;cases h
  |some c =>
   rw[e1]at h;cases e2:iY M x ds with
   |none=>rw[e2]at h;cases h
   |some c2 =>
    rw[e2]at h;cases h;obtain⟨jW,a1,a2,a3⟩:=ih t k e2;refine⟨c::jW,by rw[zE,zE,a1],fun j u c' h1 h2=>?_,by rw[a3];rfl⟩;cases j with
    |zero =>
     simp at h1 h2;subst h1 h2;exact(qb I S 8 (A:=A.in1) (by show A.units+1+8<cLine;omega) r rx q gx e1).2.2
    |succ j=>exact a2 j u c' (by simpa using h1) (by simpa using h2)
open Classical in
theorem FL{A:Zx}{its:List jp}{jW:List Bool}{v:jp}(hl:jW.length=its.length)(h:∀(j:Nat) (u:jp) (c:Bool),its[j]?=some u->jW[j]?=some c->SeqAt.EqAt A s u v c) :
  ∃e:jp->Bool,(∀y,y∈its.toArray->SeqAt.EqAt A s y v (e y))/\its.toArray.any e=jW.any id:=by
 refine⟨fun y=>decide (∃j:Nat,its[j]?=some y/\jW[j]?=some true),fun y hy=>?_,?_⟩
 ·by_cases hex:∃j:Nat,its[j]?=some y/\jW[j]?=some true
  ·dsimp only
   rw[decide_eq_true hex];obtain⟨j,h1,h2⟩:=hex;exact h j y true h1 h2
  ·dsimp only
   rw[decide_eq_false hex];have hy':y∈its:=by simpa using hy
   obtain⟨j,hj⟩:=xO.mp hy';have BK:j<jW.length:=by rw[hl];exact(zn.mp hj).1
   have e:=zv BK;cases hb:jW[j] with
   |true=>rw[hb]at e;exact absurd ⟨j,hj,e⟩ hex
   |false=>rw[hb]at e;exact h j y false hj e
 ·rw[yi,Array.any_eq_true]
  simp only[decide_eq_true_eq,yF,id];constructor
  ·rintro ⟨i,hi,j,h1,h2⟩
   exact⟨true,zx h2,rfl⟩
  ·rintro ⟨c,hc,rfl⟩
   obtain⟨j,hj⟩:=xO.mp hc;have BK:j<its.length:=by rw[<- hl];exact(zn.mp hj).1
   exact⟨j,by simpa using BK,j,by simp[BK],hj⟩
end
section
variable {X:Cx}
noncomputable def v7(op:CmpOp)(x y:D):Mo D:=do let k<-bJ op x y;pure (.bl k)
theorem jr{x:D}{ds:List D}{M M':MH}{b:Bool}(h:hY x ds M=some (.ok b,M')):iY M x ds=some b/\M'=M:=by
 unfold hY at h;cases e:iY M x ds with
 |none=>rw[e]at h;cases h
 |some c=>rw[e]at h;cases h;exact⟨rfl,rfl⟩
theorem BX{x y:D}{M M':MH}{b:Bool}(h:pv x y M=some (.ok b,M')):bA M 20 x y=some b/\M'=M:=by
 unfold pv at h;cases e:bA M 20 x y with
 |none=>rw[e]at h;cases h
 |some c=>rw[e]at h;cases h;exact⟨rfl,rfl⟩
theorem JJ{x y:D}{M M':MH}{b:Bool}(h:inD x y M=some (.ok b,M')):M'=M:=by
 unfold inD at h;split at h
 ·split at h
  ·exact(af h).2
  ·exact(ah h).elim
 ·exact(jr h).2
 ·exact(jr h).2
 ·have h0:=aa h;clear h;obtain⟨o,M1,e,h2⟩:=h0
  have hM:=(hZ e).2;cases o with
  |lst ds=>rw[(jr h2).2,hM]
  |aO kvs =>
   have W3:=aa h2;clear h2;obtain⟨_,_,e3,h3⟩:=W3;rw[(af h3).2,(a8 e3).2,hM]
 ·exact(ah h).elim
theorem JI(hu:X.A.units+100<cLine)(neg:Bool){Zz:List (kw×Obj)}{s:kt}{σ:St}{H:Hp}{x y:V}{v u:jp}{Q:VK}(I:Inv X Zz σ H s)(rx:RelV x v)(ry:RelV y u){ι:List kw}{M M':MH}{dx dy:D}{b:Bool}
  (S:aJ X.K ι M H) (r1:Rep X.K ι H dx x) (r2:Rep X.K ι H dy y) (e:inD dx dy M=some (.ok b,M')) (q:Q (.bl (if neg then !b else b)) H) :
  wpAny (model X.prog X.w) X.A (compareOp (if neg then .NotIn else .In) v u) (EP X Zz σ Q) X.xe s:=by
 have seq:∀{a:kw} {vs:List V} {ds:List D},y=.ref a->(aZ X.K H a vs\/de X.K H a vs)->az X.K ι H ds vs->iY M dx ds=some b ->
   wpAny (model X.prog X.w) X.A (compareOp (if neg then .NotIn else .In) v u) (EP X Zz σ Q) X.xe s:=fun {a vs ds} ey hs hr hb=>by
  subst ey;cases ry;rcases hs with hs|hs
  ·obtain⟨its,q1,p1,_⟩:=I.list hs
   obtain⟨jW,a1,a2,rfl⟩:=FN I S (A:=X.A) (by first|lia|omega) r1 rx hr q1 hb
   obtain⟨e,e1,e2⟩:=FL a1 a2;cases neg with
   |false=>exact SeqAt.in_listAt e p1.isList e1 ⟨.bl _,H,I,rfl,by rw[e2];exact q⟩
   |true=>exact SeqAt.notIn_listAt e p1.isList e1 ⟨.bl _,H,I,rfl,by rw[e2];exact q⟩
  ·obtain⟨its,q1,p1,_⟩:=I.tuple hs
   obtain⟨jW,a1,a2,rfl⟩:=FN I S (A:=X.A) (by first|lia|omega) r1 rx hr q1 hb
   obtain⟨e,e1,e2⟩:=FL a1 a2;cases neg with
   |false=>exact SeqAt.in_tupleAt e p1 e1 ⟨.bl _,H,I,rfl,by rw[e2];exact q⟩
   |true=>exact SeqAt.notIn_tupleAt e p1 e1 ⟨.bl _,H,I,rfl,by rw[e2];exact q⟩
 cases r2 with
 |str j =>
  cases r1 with
  |str i =>
   have e0:=af e;clear e;obtain⟨rfl,rfl⟩:=e0;cases neg with
   |false=>exact Fj Zz s σ H _ _ v u Q I rx ry ⟨i,j,rfl,rfl,q⟩
   |true=>exact uG Zz s σ H _ _ v u Q I rx ry ⟨i,j,rfl,rfl,q⟩
  |_=>exact(ah e).elim
 |tup t r=>exact seq rfl (.inr (cy t)) r (jr e).1
 |fl t r=>exact seq rfl (.inl t.seq) r (jr e).1
 |ob t =>
  have e0:=aa e;clear e;obtain⟨o,M1,e1,e⟩:=e0;have aB:=hZ e1;clear e1;obtain⟨g,rfl⟩:=aB;cases o with
  |lst ds =>
   obtain⟨a,vs,h1,_,h3,h4⟩:=aT S (.ob t) g;exact seq h1 (.inl (aZ.of h3)) h4 (jr e).1
  |aO kvs =>
   obtain⟨a,ws,h1,_,h3,h4⟩:=c7 S (.ob t) g;have e0:=aa e;clear e;obtain⟨k,_,e5,e6⟩:=e0;have Xg:=a8 e5;clear e5;obtain⟨hk,hM⟩:=Xg;have Xf:=af e6;clear e6;obtain⟨rfl,_⟩:=Xf;have hx:=nQ r1 hk;subst hx;cases h1;obtain rfl:u=Value.ref _:=ry;have hs:(fK ws k).isSome=(bq kvs k).isSome:=by
    rcases h4.find k with ⟨z1,z2⟩|⟨_,_,z1,z2,_⟩ <;> rw[z1,z2]
    ·rfl
    ·rfl
   rw[<- hs]at q;cases neg with
   |false=>exact T5 (by first|lia|omega) I (jZ.k (k:=k) h3) rx fun s3 I3=>⟨.bl _,H,I3,rfl,q⟩
   |true=>exact LQ (by first|lia|omega) I (jZ.k (k:=k) h3) rx fun s3 I3=>⟨.bl _,H,I3,rfl,q⟩
 |_=>exact(ah e).elim
theorem FH{Mo':Model}{A:Zx}{Q:jp->kt->Prop}{E:jp->kt->Prop}{s:kt}{c:Bool}(h:Q (.bool c) s):wpAny Mo' A (compareOp .Is (.bool c) (.bool true)) Q E s:=by
 have e:compareOp .Is (.bool c) (.bool true)=pure (.bool c):=by cases c <;> rfl
 rw[e];exact zt h
theorem kT(hu:X.A.units+100<cLine)(op:CmpOp):dg X (compareOp op) (B8 X.K (v7 op)):=by
 intro Zz s σ H x y v u Q I rx ry h;obtain⟨ι,M,M',dx,dy,d,S,r1,r2,e,k⟩:=h;have e0:=aa e;clear e;obtain⟨b,M1,e1,e2⟩:=e0;have bg:=af e2;clear e2;obtain⟨rfl,rfl⟩:=bg;have fin:M'=M->Q (.bl b) H:=fun z=>by subst z;exact k (.bl b) H ι (.bl b) S Ext.refl
 cases op with
 |Eq =>
  have aB:=BX e1;clear e1;obtain⟨hs,rfl⟩:=aB;exact(qb I S 20 (A:=X.A) (by first|lia|omega) r1 r2 rx ry hs).1 X.prog X.w X.xe _ ⟨.bl b,H,I,rfl,fin rfl⟩
 |NotEq =>
  have aB:=aa e1;clear e1;obtain⟨c,_,e3,e4⟩:=aB;have cQ:=BX e3;clear e3;obtain⟨hs,rfl⟩:=cQ;have fu:=af e4;clear e4;obtain⟨rfl,rfl⟩:=fu;exact(qb I S 20 (A:=X.A) (by first|lia|omega) r1 r2 rx ry hs).2.1 X.prog X.w X.xe _ ⟨.bl (!c),H,I,rfl,fin rfl⟩
 |Lt =>
  have aB:=a8 e1;clear e1;obtain⟨e3,rfl⟩:=aB;cases r1 <;> cases r2 <;> simp only[Bx,Option.some.injEq,reduceCtorEq]at e3
  ·exact Qm Zz s σ H _ _ v u Q I rx ry ⟨_,_,rfl,rfl,by show Q (.bl (decide _)) H;rw[e3];exact fin rfl⟩
  ·exact Fi Zz s σ H _ _ v u Q I rx ry ⟨_,_,rfl,rfl,by rw[e3];exact fin rfl⟩
 |LtE =>
  have aB:=a8 e1;clear e1;obtain⟨e3,rfl⟩:=aB;cases r1 <;> cases r2 <;> simp only[Rj,Option.some.injEq,reduceCtorEq]at e3
  ·exact Qn Zz s σ H _ _ v u Q I rx ry ⟨_,_,rfl,rfl,by show Q (.bl (decide _)) H;rw[e3];exact fin rfl⟩
  ·obtain⟨t,rfl⟩:=rx
   obtain⟨t',rfl⟩:=ry;exact PySem.P.le_str (lh I (fin rfl) e3.symm)
 |Gt =>
  cases r1 <;> cases r2 <;> first
   |exact(ah e1).elim
   | (have aB:=af e1;clear e1;obtain⟨rfl,rfl⟩:=aB;exact Qo Zz s σ H _ _ v u Q I rx ry ⟨_,_,rfl,rfl,fin rfl⟩)
 |GtE =>
  cases r1 <;> cases r2 <;> first
   |exact(ah e1).elim
   | (have aB:=af e1;clear e1;obtain⟨rfl,rfl⟩:=aB;exact Qp Zz s σ H _ _ v u Q I rx ry ⟨_,_,rfl,rfl,fin rfl⟩)
 |In=>exact JI hu false I rx ry S r1 r2 e1 (fin (JJ e1))
 |NotIn =>
  have aB:=aa e1;clear e1;obtain⟨b',M2,e3,e4⟩:=aB;have fu:=af e4;clear e4;obtain⟨rfl,rfl⟩:=fu;exact JI hu true I rx ry S r1 r2 e3 (fin (JJ e3))
 |Is =>
  replace e1:Rm dx dy M=some (.ok b,M'):=e1;cases dy with
  |non =>
   have aB:=aa e1;clear e1;obtain⟨_,_,e3,e4⟩:=aB;have cQ:=aU e3;clear e3;obtain⟨hs,rfl⟩:=cQ;have fu:=af e4;clear e4;obtain⟨rfl,rfl⟩:=fu;cases r2;refine Nq Zz s σ H _ _ v u Q I rx ry ⟨rfl,?_⟩
   have:decide (x=V.non)=k9 dx:=by cases r1 <;> simp[k9]
   rw[this];exact fin rfl
  |bl c =>
   cases c with
   |false=>exact(ah e1).elim
   |true =>
    cases dx <;> first
     |exact(ah e1).elim
     |skip
    have fu:=af e1;clear e1;obtain⟨rfl,rfl⟩:=fu;cases r1;cases r2;cases rx;cases ry;exact FH ⟨.bl _,H,I,rfl,fin rfl⟩
  |_ =>
   have aB:=aa e1;clear e1;obtain⟨_,_,e3,e4⟩:=aB;have cQ:=aU e3;clear e3;obtain⟨hs,rfl⟩:=cQ;cases hs
 |IsNot =>
  have aB:=aa e1;clear e1;obtain⟨_,_,e3,e4⟩:=aB;have cQ:=aU e3;clear e3;obtain⟨hs,rfl⟩:=cQ;have fu:=af e4;clear e4;obtain⟨rfl,rfl⟩:=fu;cases r2 <;> simp[k9]at hs;refine Lj Zz s σ H _ _ v u Q I rx ry ⟨rfl,?_⟩
  have:decide (x=V.non)=k9 dx:=by cases r1 <;> simp[k9]
  rw[this];exact fin rfl
theorem LY{Zz:List (kw×Obj)}{s:kt}{σ:St}{H:Hp}{a b:kw}{us:List V}{Q:jp->kt->Prop}{E:jp->kt->Prop}(I:Inv X Zz σ H s)(t1:de X.K H a [])(t2:de X.K H b us)(q:Q (.ref b) s):wpAny (model X.prog X.w) X.A (binaryOp .Add (.ref a) (.ref b)) Q E s:=by
 obtain⟨its,q1,p1,_⟩:=I.tuple t1;obtain⟨bT,q2,p2,_⟩:=I.tuple t2;cases q1;obtain⟨⟨cls,dd,data,sl⟩,ho,hc,n,hd⟩:=id p1;obtain⟨⟨T6,Ka,data2,Jj⟩,mR,jQ,n2,hd2⟩:=id p2;simp only at hc hd jQ hd2;subst hc hd jQ hd2;exact concat_meets ⟨_,ho,rfl⟩ ⟨_,mR,rfl⟩ noFill_tuple_add seq_tuple_add PySem.F.slot_tuple_add PySem.F.entry_tuple_add (PySem.F.args_tuple_add_2 _ _)
  (tuple_addW0 a b _ bT.toArray n n2 dd Ka sl Jj (by simp)) ⟨ho,mR,q⟩
theorem mul_str{Zz:List (kw×Obj)}{s:kt}{σ:St}{H:Hp}{x:Str}{j:Int}{t t':Tok}{Q:VK}(I:Inv X Zz σ H s)(n1:2<=j)(n2:j<1000)(n3:0<x.length)(n4:x.length<1000)(q:Q (.str (C5 x j.toNat)) H) :
  wpAny (model X.prog X.w) X.A (binaryOp .Mult (.str x t) (.int j t')) (EP X Zz σ Q) X.xe s:=by
 have hb:x.length*j.toNat<1000000:=by
  have h1:x.length*j.toNat<=999*j.toNat:=xv _ (by first|lia|omega)
  first|lia|omega
 have e:PySem.Txt.mul x j=C5 x j.toNat:=by
  unfold PySem.Txt.mul C5;rw[if_neg (by first|lia|omega),if_neg (by simp;omega)]
 have ok:PySem.MulOk x j:=by
  refine⟨by simp;omega,fun _ _=>?_,fun _ _=>?_⟩
  ·have:(1000:Int)<=(2 ^ 63-1:Int) / j:=Int.le_ediv_of_mul_le (by first|lia|omega) (by first|lia|omega)
   first|lia|omega
  ·unfold Builtin.Str.tooLong zg
   exact decide_eq_false (by first|lia|omega)
 refine PySem.SB.mul ok fun t2 k2=>?_;rw[e];exact⟨.str _,H,I.tok _,⟨t2,rfl⟩,q⟩
theorem Nt(op:Operator):dg X (binaryOp op) (B8 X.K (fm op)):=by
 intro Zz s σ H x y v u Q I rx ry h;obtain⟨ι,M,M',dx,dy,d,S,r1,r2,e,k⟩:=h;have fin:∀{w':V},M'=M->Rep X.K ι H d w'->Q w' H:=fun {w'} z r=>by subst z;exact k w' H ι r S Ext.refl
 cases op
 case Add =>
  cases dx <;> first|exact(ah e).elim|(cases dy <;> first|exact(ah e).elim|skip)
  ·delta fm at e
   dsimp only at e;have e0:=af e;clear e;obtain⟨rfl,rfl⟩:=e0;cases r1;cases r2;exact Nu Zz s σ H _ _ v u Q I rx ry ⟨_,_,rfl,rfl,fin rfl (.int _)⟩
  ·delta fm at e
   dsimp only at e;have e0:=aa e;clear e;obtain⟨_,_,e1,e⟩:=e0;have aB:=aU e1;clear e1;obtain⟨hn,rfl⟩:=aB;have e0:=af e;clear e;obtain⟨rfl,rfl⟩:=e0;cases r1;cases r2;exact DD Zz s σ H _ _ v u Q I rx ry ⟨_,_,rfl,rfl,hn,fin rfl (.str _)⟩
  ·delta fm at e
   dsimp only at e;have e0:=aa e;clear e;obtain⟨_,_,e1,e⟩:=e0;have aB:=aU e1;clear e1;obtain⟨hz,rfl⟩:=aB;have e0:=af e;clear e;obtain⟨rfl,rfl⟩:=e0;cases r1 with
   |tup t1 q1 =>
    cases r2 with
    |tup t2 q2 =>
     rename_i a vs b us;by_cases hn:vs=[]
     ·subst hn
      cases q1;cases rx;cases ry;exact LY I (cy t1) (cy t2) ⟨.ref _,H,I,rfl,k _ H ι (.tup t2 q2) S Ext.refl⟩
     ·refine Ll Zz s σ H _ _ v u Q I rx ry ⟨_,_,_,_,rfl,rfl,cy t1,cy t2,hn,by rw[<- q1.length,<- q2.length];exact hz,fun z=>?_,fun z=>kX S (q1.append q2) k⟩
      subst z;cases q2;rw[zO]at k;exact k _ H ι (.tup t1 q1) S Ext.refl
  ·delta fm at e
   dsimp only at e;have e0:=aa e;clear e;obtain⟨xs,_,e1,e⟩:=e0;have aB:=bR e1;clear e1;obtain⟨g1,rfl⟩:=aB;have e0:=aa e;clear e;obtain⟨ys,_,e1,e⟩:=e0;have aB:=bR e1;clear e1;obtain⟨g2,rfl⟩:=aB;have e0:=aa e;clear e;obtain⟨_,_,e1,e⟩:=e0;have aB:=aU e1;clear e1;obtain⟨hn,rfl⟩:=aB;obtain⟨a,vs,rfl,_,h3,h4⟩:=aT S r1 g1;obtain⟨b,us,rfl,_,h5,h6⟩:=aT S r2 g2;exact Nr Zz s σ H _ _ v u Q I rx ry ⟨a,b,vs,us,rfl,rfl,h3,h5,by rw[<- h4.length,<- h6.length];exact hn,hU S (h4.append h6) e k⟩
 case Sub =>
  cases dx <;> first|exact(ah e).elim|(cases dy <;> first|exact(ah e).elim|skip)
  ·delta fm at e
   dsimp only at e;have e0:=af e;clear e;obtain⟨rfl,rfl⟩:=e0;cases r1;cases r2;exact Nl Zz s σ H _ _ v u Q I rx ry ⟨_,_,rfl,rfl,fin rfl (.int _)⟩
 case Mult =>
  cases dx <;> first|exact(ah e).elim|(cases dy <;> first|exact(ah e).elim|skip)
  ·delta fm at e
   dsimp only at e;have e0:=aa e;clear e;obtain⟨_,_,e1,e⟩:=e0;have aB:=aU e1;clear e1;obtain⟨hn,rfl⟩:=aB;have e0:=af e;clear e;obtain⟨rfl,rfl⟩:=e0;cases r1;cases r2;exact Nn Zz s σ H _ _ v u Q I rx ry ⟨_,_,rfl,rfl,hn,fin rfl (.int _)⟩
  ·delta fm at e
   dsimp only at e;have e0:=aa e;clear e;obtain⟨_,_,e1,e⟩:=e0;have aB:=aU e1;clear e1;obtain⟨⟨n1,n2,n3,n4⟩,rfl⟩:=aB;have e0:=af e;clear e;obtain⟨rfl,rfl⟩:=e0;cases r1;cases r2;obtain⟨t,rfl⟩:=rx;obtain⟨t',rfl⟩:=ry;exact mul_str I n1 n2 n3 n4 (fin rfl (.str _))
 case FloorDiv =>
  cases dx <;> first|exact(ah e).elim|(cases dy <;> first|exact(ah e).elim|skip)
  ·delta fm at e
   dsimp only at e;have e0:=aa e;clear e;obtain⟨_,_,e1,e⟩:=e0;have aB:=aU e1;clear e1;obtain⟨hn,rfl⟩:=aB;have e0:=af e;clear e;obtain⟨rfl,rfl⟩:=e0;cases r1;cases r2;exact Lk Zz s σ H _ _ v u Q I rx ry ⟨_,_,rfl,rfl,hn,fin rfl (.int _)⟩
 case Mod =>
  cases dx <;> first|exact(ah e).elim|(cases dy <;> first|exact(ah e).elim|skip)
  ·delta fm at e
   dsimp only at e;have e0:=aa e;clear e;obtain⟨_,_,e1,e⟩:=e0;have aB:=aU e1;clear e1;obtain⟨hn,rfl⟩:=aB;have e0:=af e;clear e;obtain⟨rfl,rfl⟩:=e0;cases r1;cases r2;exact Np Zz s σ H _ _ v u Q I rx ry ⟨_,_,rfl,rfl,hn,fin rfl (.int _)⟩
 case Pow =>
  cases dx <;> first|exact(ah e).elim|(cases dy <;> first|exact(ah e).elim|skip)
  ·delta fm at e
   dsimp only at e;have e0:=aa e;clear e;obtain⟨_,_,e1,e⟩:=e0;have aB:=aU e1;clear e1;obtain⟨hn,rfl⟩:=aB;have e0:=af e;clear e;obtain⟨rfl,rfl⟩:=e0;cases r1;cases r2;exact Nm Zz s σ H _ _ v u Q I rx ry ⟨_,_,rfl,rfl,hn,fin rfl (.int _)⟩
 all_goals exact(ah e).elim
theorem LK(hu:X.A.units+100<cLine):Cb X (fun x y H Q=>∃a v,x=.ref a/\jZ H a y (some v)/\Q v H):=by
 intro value slice Zz s σ H x y v u Q I rx ry h hs;obtain⟨a,w',rfl,g,q⟩:=h;obtain rfl:v=Value.ref a:=rx;exact tail_any (AR I g) PySem.F.slot_dict_getitem.lookup (GA (by first|lia|omega) I g ry fun w2 s3 I3 rw'=>⟨w',H,I3,rw',q⟩) hs
theorem NW(hu:X.A.units+100<cLine):Cb X (B8 X.K ir):=by
 intro value slice Zz s σ H x y v u Q I rx ry h hs;obtain⟨ι,M,M',dx,dy,d,S,r1,r2,e,k⟩:=h;have fin:∀{w':V},M'=M->Rep X.K ι H d w'->Q w' H:=fun {w'} z r=>by subst z;exact k w' H ι r S Ext.refl
 unfold ir at e;split at e
 ·have e0:=a8 e;clear e;obtain⟨e1,rfl⟩:=e0
  cases r2;cases r1 with
  |tup t q =>
   obtain⟨w',h1,h2⟩:=qE q e1;exact NU value slice Zz s σ H _ _ v u Q I rx ry ⟨_,_,_,w',rfl,rfl,cy t,h1,fin rfl h2⟩ hs
 ·have e0:=a8 e;clear e;obtain⟨e1,rfl⟩:=e0
  cases r2;cases r1 with
  |fl t q =>
   obtain⟨w',h1,h2⟩:=qE q e1;exact BB value slice Zz s σ H _ _ v u Q I rx ry ⟨_,_,_,w',rfl,rfl,t.seq,h1,fin rfl h2⟩ hs
 ·have e0:=aa e;clear e;obtain⟨_,_,e1,e⟩:=e0
  have aB:=aU e1;clear e1;obtain⟨hn,rfl⟩:=aB;have e0:=aa e;clear e;obtain⟨c,_,e1,e⟩:=e0;have aB:=a8 e1;clear e1;obtain⟨hc,rfl⟩:=aB;have e0:=af e;clear e;obtain⟨rfl,rfl⟩:=e0;cases r2;cases r1;exact NV value slice Zz s σ H _ _ v u Q I rx ry ⟨_,_,c,rfl,rfl,hn,hc,fin rfl (.str _)⟩ hs
 ·have e0:=aa e;clear e;obtain⟨o,_,e1,e⟩:=e0
  have aB:=hZ e1;clear e1;obtain⟨g,rfl⟩:=aB;cases o with
  |lst ds =>
   dsimp only at e;split at e
   ·have e0:=a8 e;clear e;obtain⟨e1,rfl⟩:=e0
    obtain⟨a,vs,rfl,_,h3,h4⟩:=aT S r1 g;cases r2;obtain⟨w',h1,h2⟩:=qE h4 e1;exact BB value slice Zz s σ H _ _ v u Q I rx ry ⟨_,_,_,w',rfl,rfl,aZ.of h3,h1,fin rfl h2⟩ hs
   ·exact(ah e).elim
  |aO kvs =>
   have e0:=aa e;clear e;obtain⟨q,_,e1,e⟩:=e0;have aB:=a8 e1;clear e1;obtain⟨hk,rfl⟩:=aB;have e0:=a8 e;clear e;obtain⟨e1,rfl⟩:=e0;obtain⟨a,ws,rfl,_,h3,h4⟩:=c7 S r1 g;have hy:=nQ r2 hk;subst hy;rcases h4.find q with ⟨z1,z2⟩|⟨d',w',z1,z2,z3⟩
   ·rw[z1]at e1;cases e1
   ·rw[z1]at e1;cases e1
    have g2:jZ H a (kV q) (some w'):=z2▸jZ.k (k:=q) h3;exact LK hu value slice Zz s σ H _ _ v u Q I rx ry ⟨a,w',rfl,g2,fin rfl z3⟩ hs
 ·exact(ah e).elim
noncomputable def Ph(K:Q_):Em:=fun o i v H Q=>∃ι M M' x y z u,aJ K ι M H/\Rep K ι H x o/\Rep K ι H y i/\Rep K ι H z v/\setIx x y z M=some (.ok u,M') /\
 ∀H',aJ K ι M' H'->Ext K ι H ι H'->Q H'
theorem ME(hu:X.A.units+100<cLine):IW X (Ph X.K):=by
 intro Zz s σ H o i v ov iv u Q I ro ri rv h;obtain⟨ι,M,M',x,y,z,w',S,r1,r2,r3,e,k⟩:=h;unfold setIx at e;split at e
 ·have e0:=aa e;clear e;obtain⟨ob,_,e1,e⟩:=e0
  have aB:=hZ e1;clear e1;obtain⟨g,rfl⟩:=aB;cases ob with
  |lst ds =>
   dsimp only at e;split at e
   ·have e0:=aa e;clear e;obtain⟨j,_,e1,e⟩:=e0
    have aB:=a8 e1;clear e1;obtain⟨hj,rfl⟩:=aB;have e0:=qI e;clear e;obtain⟨_,rfl⟩:=e0;obtain⟨a,vs,rfl,hi,h3,h4⟩:=aT S r1 g;cases r2;refine set_list Zz s σ H _ _ v ov iv u Q I ro ri rv ⟨a,vs,_,j,rfl,rfl,h3,by rw[<- h4.length];exact hj,?_⟩;have x:Ext X.K ι H ι (upd H a (.lst (vs.set j v))):=Ext.write h3 (nJ _);exact k _ (S.put hi ⟨_,rfl,(h4.mono x).set (r3.mono x) j⟩) x
   ·exact(ah e).elim
  |aO kvs =>
   have e0:=aa e;clear e;obtain⟨q,_,e1,e⟩:=e0;have aB:=a8 e1;clear e1;obtain⟨hk,rfl⟩:=aB;have e0:=aa e;clear e;obtain⟨_,_,e1,e⟩:=e0;have aB:=aU e1;clear e1;obtain⟨hn,rfl⟩:=aB;have e0:=qI e;clear e;obtain⟨_,rfl⟩:=e0;obtain⟨a,ws,rfl,hi,h3,h4⟩:=c7 S r1 g;have hy:=nQ r2 hk;subst hy;obtain rfl:ov=Value.ref a:=ro;have x:Ext X.K ι H ι (upd H a (.dK (putK ws q v))):=Ext.write h3 (Jz _);refine Gz (by first|lia|omega) I (Ep.k (k:=q) h3 (by rw[<- h4.len];exact hn)) ri rv fun s4 I4=>⟨_,I4,?_⟩
   exact k _ (S.put hi ⟨_,rfl,(h4.mono x).put q (r3.mono x)⟩) x
 ·exact(ah e).elim
end
end L3
namespace L3
open PySem PySem.Spec PyProof.Rows L2
set_option maxRecDepth 8000 in
theorem Lq{prog:ul}{w:ut}{A:Zx}{E:jp->kt->Prop}{s:kt}{a:kw}{o:Obj}{xs:Array jp}{k:Nat}{Q:Option jp->kt->Prop}
  (hx:s.heap.get? a=some o) (hc:o.cls=.type "tuple") (Ou:o.data=.seq xs k) (hd:o.dict=none) (hA:A.handled=none)
  (h:∀h' tk e,Heap.NewExcOf s.heap h' e "AttributeError"->Q none { s with heap:=h',toks:=tk }) :
  wpAny (model prog w) A (getAttr? (.ref a) "keys") Q E s:=by
 obtain⟨c,Gy,dat,sl⟩:=o;simp only at hc Ou hd;subst hc Ou hd;obtain⟨hp,g,d,tk,os⟩:=s;have hT:∀tk',(⟨hp,g,d,tk',os⟩:kt).TypeIs (.ref a) "tuple":=fun _=>⟨_,hx,rfl⟩;have f1:=sub_AttributeError;have f3:=F.slot_tuple_getattribute.lookup;have f4:=F.slot_tuple_getattribute.bind (.ref a);have f5:=am_tuple_getattr_none;have QB:typeLookup (.type "tuple") "keys" = pure none:=by rw[typeLookup_type,builtinLookup_eq_fast];kernel_rfl
 unfold getAttr? getAttrBy? getAttrBy
 repeat (any_goals (first|assumption|exact hT _|((with_reducible show wpAny _ _ (call (Value.builtin "tuple.__getattribute__") _ _) _ _ _);refine call_meets F.slot_tuple_getattribute (hT _) am_entry_tuple_getattribute (F.args_tuple_getattribute_2 _ _) (meets_getattribute_miss_tuple a xs k sl "keys" _ QB (by decide) (by decide)) ⟨hx,hA,fun h' tk' e hx'=>?_⟩)|wp_step))
 obtain⟨t',u',he⟩:=hx'.there;show wpAny _ _ (getattributeRaised _ _ _ _ _ _ _) _ _ _;unfold getattributeRaised
 repeat (any_goals (first|assumption|wp_step))
 exact h _ _ _ hx'.of
end L3
namespace L3
open PySem PySem.Spec PyProof.Rows L2
section
variable {prog:ul}{w:ut}{K:Type}[DecidableEq K]{knd:PySem.KeyKind prog w K}{A:Zx}{E:jp->kt->Prop}
noncomputable def qH(kvs:List (K×jp)):List (K×jp)->List (K×jp)
 |[]=>kvs
 | (k,v)::r=>qH (stored kvs k v) r
theorem CK(kvs:List (K×jp))(k:K)(v:jp):(stored kvs k v).length<=kvs.length+1:=by
 unfold stored;split
 ·rw[zz];omega
 ·rw[zm];exact zp _
noncomputable def ig(knd:PySem.KeyKind prog w K)(h:Heap):List jp->List (K×jp)->Prop
 |[],[]=>True
 |u::us,(k,v)::r=>(∃p key o n,u=.ref p/\h.get? p=some o/\o.cls=.type "tuple"/\o.data=.seq #[key,v] n/\knd.is k key=true)/\ig knd h us r
 |_,_=>False
theorem qc:entryFor table "dict.update.loop" = some Builtin.«dict.update.loop»:=entryFor_of_tree (by kernel_rfl)
theorem pV{R:Result->kt->Prop}{s₀:kt}{d it a:kw}{items:List jp}(hA:A.handled=none)(ha:s₀.heap.IsTuple a items.toArray)(nd:d≠it)(na:a≠d)(ni:a≠it) :
  ∀(us:List jp) (ps kvs:List (K×jp)) (i:Nat) (s:kt),items.drop i=us->ig knd s₀.heap us ps->(∀u∈us,u≠.ref d/\u≠.ref it)->s.heap.IsTupleIter it a i->s.heap.DictOf knd d kvs->kvs.length+us.length<=zg ->
   s.gens=s₀.gens->s.drawn=s₀.drawn->s.os=s₀.os->(∀b o,b≠d->b≠it->s₀.heap.get? b=some o->s.heap.get? b=some o) ->
   (∀h' tk,h'.DictOf knd d (qH kvs ps)->(∀b o,b≠d->b≠it->s₀.heap.get? b=some o->h'.get? b=some o)->R (.ok (.ret .none)) { s₀ with heap:=h',toks:=tk }) ->
   codeAny (model prog w) A (.builtin "dict.update.loop" ⟨[.ref d,.ref it,rawInt i,.none],[]⟩) R s
 |[],[],kvs,i,s,hu,hp,hx,hi,hd,hz,e1,e2,e3,kk,fin=>by
  refine codeAny_builtin qc ?_;unfold Builtin.«dict.update.loop»;have ha':s.heap.IsTuple a items.toArray:=ha.at fun o e=>kk a o na ni e;refine zy (wpAny_pyNext_tuple_end hA hi ha' (by simpa using hu) fun h' eb=>?_);show wpAny _ _ (Builtin.Dict.addKeywords d [] >>= fun _=>ret Value.none) _ _ _;refine zy (zt (zt ?_));have hd':h'.DictOf knd d (qH kvs []):=hd.at fun o e=>eb d o nd e
  have:=fin h' s.toks hd' fun b o n1 n2 e=>eb b o n2 (kk b o n1 n2 e)
  rw[<- e1,<- e2,<- e3]at this;exact this
 |u::us,(k,v)::ps,kvs,i,s,hu,hp,hx,hi,hd,hz,e1,e2,e3,kk,fin=>by
  refine codeAny_builtin qc ?_;unfold Builtin.«dict.update.loop»;have ha':s.heap.IsTuple a items.toArray:=ha.at fun o e=>kk a o na ni e;have Ii:items[i]?=some u:=by
   have:=congrArg (fun l=>l[0]?) hu
   simpa using this
  refine zy (wpAny_pyNext_tuple_item hi ha' (by simpa using Ii) fun h' hi' sb=>?_);obtain⟨⟨p,key,o,n,rfl,ho,hc,si,hk⟩,BG⟩:=hp;have Rq:=hx _ zJ;have np:p≠d:=fun z=>Rq.1 (by rw[z]);have Ra:p≠it:=fun z=>Rq.2 (by rw[z]);have ho':h'.get? p=some o:=(sb.2 p Ra).trans (kk p o np Ra ho);have Ov:h'.DictOf knd d kvs:=hd.at fun o e=>(sb.2 d nd).trans e;have hT:Shared.TypeIs { s with heap:=h' } (.ref p) "tuple":=⟨_,ho',hc⟩;refine zy (wpAny_holding (zy (wpAny_tryCatch ?_)));unfold Builtin.Dict.pairItems;refine zy (wpAny_typeOf hT ?_);rw[if_pos (by decide)];refine zy (wpAny_seqItems (s:={ s with heap:=h' }) ho' si ?_);refine zt ?_;show wpAny _ _ (holding [key,v] (dictSet d key v)) _ _ _;have hz':kvs.length+(us.length+1)<=zg:=hz;refine wpAny_holding (wpAny_dictSet_pairs hk (s:={ s with heap:=h' }) Ov (fun h2 hd2 kM=>?_) (by first|lia|omega))
  have kM:Heap.SameBut d h' h2:=kM;refine zt ⟨Code.quiet_builtin _ (by decide +kernel),?_⟩;have ei:(i:Int)+1=((i+1:Nat):Int):=by first|lia|omega
  rw[ei];refine pV hA ha nd na ni us ps (stored kvs k v) (i+1) _ ?_ BG (fun u hu=>hx u (zI _ hu)) ?_ hd2 ?_ e1 e2 e3 (fun b o n1 n2 e=>?_) fin
  ·rw[<- vJ,hu];rfl
  ·exact hi'.extBut kM.extBut (Ne.symm nd)
  ·have:=CK kvs k v
   first|lia|omega
  ·exact(kM.2 b n1).trans ((sb.2 b n2).trans (kk b o n1 n2 e))
 |[],_::_,_,_,_,_,hp,_,_,_,_,_,_,_,_,_=>hp.elim
 |_::_,[],_,_,_,_,hp,_,_,_,_,_,_,_,_,_=>hp.elim
theorem qg{s:kt}{a:kw}{o:Obj}{n:Nat}{items:List jp}{ps:List (K×jp)}{Q:jp->kt->Prop}(hA:A.handled=none)(ho:s.heap.get? a=some o)(hc:o.cls=.type "tuple")(hd:o.dict=none)(si:o.data=.seq items.toArray n)
  (hp:ig knd s.heap items ps) (hz:items.length<=zg)
  (h:∀h' tk,h'.DictOf knd s.heap.objs.size (qH [] ps)->(∀b o,s.heap.get? b=some o->h'.get? b=some o)->Q (.ref s.heap.objs.size) { s with heap:=h',toks:=tk }) :
  wpAny (model prog w) A (call (.type "dict") [.ref a]) Q E s:=by
 refine callType_codes (Q₁:=fun obj s₁=>obj=.ref s.heap.objs.size/\s₁={ s with heap:=s.heap.push { cls:=.type "dict",data:=.dict #[] } }) F.kt_called_dict (F.kt_typeCall_dict_1 _) F.entry_dict_init (kt_code_dict_new _ ⟨rfl,rfl⟩) ?_;rintro obj s₁ ⟨rfl,rfl⟩;have qV:(s.heap.push { cls:=.type "dict",data:=.dict #[] }).DictOf knd s.heap.objs.size []:=Heap.DictOf.new s.heap;have ha':(s.heap.push { cls:=.type "dict",data:=.dict #[] }).get? a=some o:=zq _ ho;have uO:a<s.heap.objs.size:=zf ho;have hT:Shared.TypeIs { s with heap:=s.heap.push { cls:=.type "dict",data:=.dict #[] } } (.ref a) "tuple":=⟨_,ha',hc⟩;refine⟨qV.typeIs,F.args_dict_init_2 _ _,?_⟩;unfold Builtin.«dict.__init__»;refine zy ?_;unfold Builtin.Dict.selfAndRest;refine zy (wpAny_notOrdered_dict qV.typeIs ?_);show wpAny _ _ (pure (s.heap.objs.size,[Value.ref a])) _ _ _;refine zt ?_;show wpAny _ _ (Builtin.Dict.updateFrom "dict.__init__" s.heap.objs.size (.ref a) [] .none) _ _ _;unfold Builtin.Dict.updateFrom;refine zy (wpAny_typeOf hT ?_);rw[if_pos (by decide)];refine zy (Lq (s:={ s with heap:=s.heap.push { cls:=.type "dict",data:=.dict #[] } }) ha' hc si hd hA fun h1 tk e hx=>?_);have k1:∀b o,s.heap.get? b=some o->h1.get? b=some o:=fun b o e=>hx.keeps b o (zq _ e);have JP:h1.DictOf knd s.heap.objs.size []:=qV.at fun o e=>hx.keeps _ o e;have JA:s.heap.objs.size<h1.objs.size:=by
  obtain⟨_,_,_,hg,_⟩:=JP;exact zf hg
 refine zy (wpAny_rule ?_);have jR:h1.IsTuple a items.toArray:=⟨_,k1 _ _ ho,hc,n,si⟩;refine zy (wpAny_pyIter_tuple (s:={ s with heap:=h1,toks:=tk }) jR ?_);refine zt ⟨Code.quiet_builtin _ (by decide +kernel),?_⟩;have pk:∀{h2:Heap} {us:List jp} {qs:List (K×jp)},(∀b o,s.heap.get? b=some o->h2.get? b=some o)->ig knd s.heap us qs->ig knd h2 us qs:=by
  intro h2 us qs kk;induction us generalizing qs with
  |nil=>cases qs <;> exact id
  |cons u us ih =>
   cases qs with
   |nil=>exact id
   |cons q qs=>exact fun ⟨⟨p,key,o,n,e1,e2,e3⟩,e4⟩=>⟨⟨p,key,o,n,e1,kk _ _ e2,e3⟩,ih e4⟩
 have pn:∀{us:List jp} {qs:List (K×jp)},ig knd s.heap us qs->∀u∈us,∀b,s.heap.objs.size<=b->u≠.ref b:=by
  intro us qs;induction us generalizing qs with
  |nil=>exact fun _ u hu=>by cases hu
  |cons u us ih =>
   cases qs with
   |nil=>exact fun z=>z.elim
   |cons q qs =>
    rintro ⟨⟨p,key,o,n,e1,e2,e3⟩,e4⟩ x hx b hb z;rcases zc.mp hx with rfl|hx
    ·rw[e1]at z
     cases z;exact absurd (zf e2) (vL.mpr hb)
    ·exact ih e4 x hx b hb z
 have sz:(h1.push { cls:=.type "tuple_iterator",data:=.fields #[.ref a,.int 0 0] }).objs.size=h1.objs.size+1:=xg ..;refine pV (A:=A.in1) (R:=wants (fun r s₂=>r=Value.none/\Q (.ref s.heap.objs.size) s₂) E) (s₀:={ s with heap:=h1.push { cls:=.type "tuple_iterator",data:=.fields #[.ref a,.int 0 0] },toks:=tk }) (d:=s.heap.objs.size) (it:=h1.objs.size) (a:=a) (items:=items) hA (jR.push _) (zd JA) (zd uO) (zd (wZ uO JA)) items ps [] 0 _ rfl (pk (fun b o e=>zq _ (k1 b o e)) hp)
  (fun u hu=>⟨pn hp u hu _ (zp _),pn hp u hu _ (xn JA)⟩) ⟨_,zC _ rfl,rfl,rfl⟩ (JP.push _) (by rw[ye,xl];exact hz) rfl rfl rfl (fun b o _ _ e=>e) fun h' tk' hd' kk=>(show Value.none=Value.none/\Q _ _ from ⟨rfl,h h' tk' hd' fun b o e=>?_⟩)
 have:=zf e
 exact kk b o (zd this) (zd (wZ this JA)) (zq _ (k1 b o e))
end
end L3
namespace L3
open PySem PySem.Spec PyProof.Rows L2
section
variable {prog:ul}{w:ut}{A:Zx}{E:jp->kt->Prop}{s:kt}
theorem mj{t sl:kw}{items:Array jp}{vl vu:jp}{lo hi:Option Int}{Q:jp->kt->Prop}(ht:IsTup s.heap t items)(hs:s.heap.IsSliceOf sl vl vu .none)(pl:IsPart vl lo)(pu:IsPart vu hi)
  (hw:HT.bf items.size 0 lo=0/\HT.bf items.size items.size hi=items.size) (h:Q (.ref t) s):wpAny (model prog w) A (getItem (.ref t) (.ref sl)) Q E s:=by
 obtain⟨os,u4,JV,F3⟩:=id hs;have F9:s.TypeIs (.ref sl) "slice":=⟨os,u4,JV⟩;unfold getItem
 try with_reducible refine wpAny_holding ?_
 first|refine zy (zt ?_)|skip
 refine zy (wpAny_sequenceKey ht.typeIs (by decide) ?_);refine zy (wpAny_callSpecial?_slot (name:=Str.ofString "__getitem__") ht.typeIs K_
  (wpAny_call_entry K_ ht.typeIs entry_tuple_getitem ?_ (args_tuple_getitem _ _)))
 show wpAny _ _ (Builtin.Tuple.tupleItemsOf (.ref t) >>= _) _ _ s;refine zy (tupleItemsOf_ ht ?_);refine zy (wpAny_typeOf F9 ?_);rw[if_pos (by decide)];refine zy (HT.jC hs pl pu ?_);have TJ:(((HT.bf items.size 0 lo:Nat):Int)==0&&(1:Int)==1&&(HT.bf items.size items.size hi-HT.bf items.size 0 lo)==items.size)=true:=by
  rw[hw.1,hw.2];simp
 show wpAny _ _ (if (((HT.bf items.size 0 lo:Nat):Int)==0&&(1:Int)==1&&(HT.bf items.size items.size hi-HT.bf items.size 0 lo)==items.size)=true then _ else _) _ _ s;rw[if_pos TJ];refine zy ?_;refine zy (wpAny_typeOf ht.typeIs ?_);refine zt ?_;rw[if_pos (by decide)];refine zy (wpAny_rule ?_)
 first
  |exact zy (zt (zt ⟨_,rfl,zt h⟩))
  |exact zt ⟨_,rfl,zt h⟩
  |exact zy (zt ⟨_,rfl,zt h⟩)
end
section
variable {X:Cx}
noncomputable def Kj(T:String)(name:Str)(id:String):Prop:=PlainAttrs T/\Slot T name id/\typeOf (.builtin id)=pure (.type "method_descriptor")
noncomputable def tq(X:Cx)(T:String)(x:V)(H:Hp):Prop:=∀(Zz:List (kw×Obj)) (σ:St) (s:kt) (v:jp),Inv X Zz σ H s->RelV x v->s.TypeIs v T/\∀a,v=.ref a->∃ob,s.heap.get? a=some ob/\ob.dict=none
noncomputable def Ms(X:Cx)(name:Str)(r:String->V->List V->Hp->VK->Prop)(to:TE)(t:TA):TE:=fun σ H Q=>to σ H fun x H1=>∃T id,Kj T name id/\tq X T x H1/\t σ H1 fun xs H2=>r id x xs H2 Q
theorem Ni{name:Str}{r:String->V->List V->Hp->VK->Prop}{o e:Expr}{es:List Expr}{to:TE}{t:TA}{apos fO:Pos}(hm:∀id,Ki X id (r id))(ho:PE X o to)(ha:PA X (e::es) t)
  (QG:attributeBase o name X.env (eval o X.env)=eval o X.env)
  (TV:((backTo fO (starEach (e::es) X.env)).all (fun x=>!x.1)&&(backToKw fO (keywordEach [] X.env)).all (fun x=>x.1.isSome)
  &&decide ((e::es).length+([]:List Keyword).length+(if ([]:List Keyword).isEmpty then 0 else 1)<30))=true)
  (QC:(apos.endLine==fO.line)=true) (hs:starEach (e::es) X.env=(false,eval e X.env)::starEach es X.env) (N6:(backTo fO (starEach es X.env)).any (·.1)=false) :
  PE X (.Call (.Attribute o name apos) (e::es) [] fO) (Ms X name r to t):=by
 intro Zz s σ H Q I h;refine wpAny_Call_method_late QG TV QC rfl (aQ (ho Zz s σ H _ I h) fun v s1 ⟨x,H1,I1,r1,T,id,⟨pa,slot,Wb⟩,ty,q1⟩=>?_);obtain⟨h1,h2⟩:=ty Zz σ s1 v I1 r1;refine⟨T,id,pa,slot,Wb,h1,h2,?_⟩;have hA:=ha fO Zz s1 σ H1 _ I1 q1;rw[hs]at hA ⊢;refine Calls.callWith_builtin (by show (false||(backTo fO (starEach es X.env)).any (·.1))=false;rw[N6] <;> rfl) (Calls.evalArgs_plain ?_);exact aQ hA fun us s2 ⟨vs,H2,I2,r2,q2⟩=>hm id Zz s2 σ H2 x vs v us Q I2 r1 r2 q2
theorem oS{a:kw}{xs:List V}{H:Hp}(h:aZ X.K H a xs):tq X "list" (.ref a) H:=fun Zz σ s v I r=>tM I r (.inl ⟨rfl,xs,h⟩)
theorem KZ{y:Str}{H:Hp}:tq X "str" (.str y) H:=fun Zz σ s v I r=>tM (X:=X) I r rfl
theorem C4{K:Q_}{ι:List kw}{H:Hp}{d:D}{vs:List V}(r:az K ι H [d] vs):∃v,vs=[v]/\Rep K ι H d v:=by
 cases r with|cons r1 r2=>cases r2;exact⟨_,rfl,r1⟩
theorem Qa{K:Q_}{ι:List kw}{H:Hp}{d e:D}{vs:List V}(r:az K ι H [d,e] vs):∃v u,vs=[v,u]/\Rep K ι H d v/\Rep K ι H e u:=by
 cases r with|cons r1 r2=>cases r2 with|cons r2 r3=>cases r3;exact⟨_,_,rfl,r1,r2⟩
theorem oU{K:Q_}{ι:List kw}{M M':MH}{H:Hp}{k:Nat}{a:kw}{ds es:List D}{vs ws:List V}{u:Unit}(S:aJ K ι M H)(hi:ι[k]?=some a)(ha:H a=some (.lst vs))(r:az K ι H es ws)(e:e8 k (.lst es) M=some (.ok u,M')) :
  aJ K ι M' (upd H a (.lst ws))/\Ext K ι H ι (upd H a (.lst ws)):=by
 have e0:=qI e;clear e;obtain⟨_,rfl⟩:=e0;have x:Ext K ι H ι (upd H a (.lst ws)):=Ext.write ha (nJ _);exact⟨S.put hi ⟨_,rfl,r.mono x⟩,x⟩
theorem DK:Ki X "list.extend" (fun x vs H Q=>∃l b xs zs,x=.ref l/\vs=[.ref b]/\H l=some (.lst xs)/\de X.K H b zs/\xs.length+zs.length<=zg/\Q .non (upd H l (.lst (xs++zs)))):=by
 intro Zz s σ H x vs v us Q I rx rv h;obtain⟨l,b,xs,zs,rfl,rfl,hH,hB,hz,q⟩:=h;cases rx;obtain⟨u,rfl,ru⟩:=rv.one;cases ru;obtain⟨z,its,n,r,hl,e⟩:=I.qT hH;obtain⟨bT,r2,⟨⟨cls,dd,data,sl⟩,ho,hc,n2,hd⟩,z2⟩:=I.tuple hB;obtain⟨o2,e2,d2,d3⟩:=I.rD hB;rw[ho]at e2;cases e2;simp only at hc hd d2 d3;subst hc hd d2 d3;have RI:=r2.length;have hsz:its.toArray.size+bT.toArray.size<=zg:=by rw[ze,ze];omega
 have DZ:¬ (!its.toArray.isEmpty&&Builtin.List.listTooLong (its.toArray.size+bT.toArray.size))=true:=by
  rw[uJ hsz,wx];exact zk
 refine call_meets F.slot_list_extend ⟨_,e,rfl⟩ F.entry_list_extend (F.args_list_extend_2 _ _)
  (AutoSeq1.list_extend_list_tuple_0 l its.toArray n b bT.toArray n2 DZ (by rw[ze];omega) (by first|lia|omega)) ⟨e,ho,?_⟩
 refine⟨.non,_,I.HR (its':=its++bT) hH e (by simp) (r.append r2) ?_,rfl,q⟩;rw[zm];first|lia|omega
theorem Im(t:Str)(ys:List Str):Builtin.Str.glued t ys=ke t ys:=by
 have gen:∀(ys:List Str) (acc:Array Nat),(ys.foldl (fun acc p=>acc++t.cps++p.cps) acc).toList=acc.toList++(ys.map fun p=>t.cps.toList++p.cps.toList).flatten:=by
  intro ys;induction ys with
  |nil=>intro acc;simp
  |cons y r ih =>
   intro acc;rw[List.foldl_cons,ih];simp
 have gl:∀(y:Str) (r:List Str),glue t.cps.toList ((y::r).map (·.cps.toList))=y.cps.toList++(r.map fun p=>t.cps.toList++p.cps.toList).flatten:=by
  intro y r;induction r generalizing y with
  |nil=>simp[glue]
  |cons z r ih =>
   show y.cps.toList++t.cps.toList++glue t.cps.toList ((z::r).map (·.cps.toList))=_;rw[ih];simp
 unfold Builtin.Str.glued ke;congr 1;apply xQ.mp;cases ys with
 |nil=>rfl
 |cons y r =>
  rw[gl];simp only[List.drop_succ_cons,xK,List.headD_cons];rw[gen]
noncomputable def rJoin(K:Q_):V->List V->Hp->VK->Prop:=fun x vs H Q=>∃t l ys,x=.str t/\vs=[.ref l]/\aZ K H l (ys.map V.str)/\(ys.map (·.length)).sum+ys.length*t.length<=16777216/\Q (.str (ke t ys)) H
theorem tV:∀{ys:List Str} {us:List jp},Vals (ys.map V.str) us->StrsAre us ys
 |[],_,.nil=>.nil
 |y::ys,_,.cons ⟨t,e⟩ r=>by subst e;exact .cons y t (tV r)
theorem Lu:Ki X "str.join" (rJoin X.K):=by
 intro Zz s σ H x vs v us Q I rx rv h;obtain⟨t,l,ys,rfl,rfl,hs,hz,q⟩:=h;obtain⟨tk,rfl⟩:=rx;obtain⟨u,rfl,ru⟩:=rv.one;cases ru;obtain⟨its,r,p,_⟩:=I.list hs;refine PyProof.Rows.join_list p.isList (tV (by simpa using r)) hz fun t' k=>?_;have e:PySem.Txt.join t ys=ke t ys:=Im t ys;rw[e];exact⟨.str _,H,I.tok _,⟨t',rfl⟩,q⟩
end
end L3
namespace L3
open PySem PySem.Spec PyProof.Rows L2
theorem UK(xs:List V)(lo hi:Option Int):pw xs lo hi=cutD xs lo hi:=rfl
theorem oR{K:Q_}{ι:List kw}{H:Hp}{ds:List D}{vs:List V}(r:az K ι H ds vs)(lo hi:Option Int):az K ι H (cutD ds lo hi) (cutD vs lo hi):=by
 unfold cutD;rw[<- r.length];exact(r.drop _).take _
theorem sx{α:Type}{xs:List α}{lo hi:Option Int}(h:(cutD xs lo hi).length=xs.length):cutD xs lo hi=xs:=by
 unfold cutD at h ⊢;rw[zD,yh]at h;have h1:d6 xs.length 0 lo=0\/xs.length=0:=by first|lia|omega
 rcases h1 with h1|h1
 ·rw[h1]at h ⊢
  rw[xK,xL (by first|lia|omega)]
 ·have e:xs=[]:=wc.mp h1
  subst e;simp
section
variable {X:Cx}
theorem GC(i j:Nat):(if (i:Int)<(j:Int) then ((j:Int)-(i:Int)+1-1) / 1 else 0).toNat=j-i:=by
 rw[Int.add_sub_cancel,vU];split
 ·exact Int.toNat_sub j i
 ·rename_i h
  exact(Nat.sub_eq_zero_of_le (Int.ofNat_le.mp (Int.not_lt.mp h))).symm
theorem EK(x:Str)(lo hi:Option Int):Txt.slice x lo hi=⟨(cutD x.cps.toList lo hi).toArray⟩:=by
 have ext:∀(a b:Str),a.cps.toList=b.cps.toList->a=b:=fun a b h=>by
  cases a;cases b;simp only at h;congr 1;exact xQ.mp h
 have uR:x.length=x.cps.toList.length:=by simp[Str.length]
 have key:∀(i j n:Nat),i<=n->j<=n->Builtin.Str.strSliceIndices lo hi 1 n=sliceRange (i:Int) (j:Int) 1->((Builtin.Str.strSliceIndices lo hi 1 n).filterMap (x.cps[·]?))=((x.cps.toList.drop i).take (j-i))\/n≠x.length:=by
  intro i j n hi' hj e;by_cases hn:n=x.length
  ·left
   rw[e];unfold sliceRange;simp only[show (1:Int) > 0 by decide,if_true];have hc:(if (i:Int)<(j:Int) then ((j:Int)-(i:Int)+1-1) / 1 else 0).toNat=j-i:=GC i j;rw[hc,wy];have hf:((fun k=>x.cps[k]?) ∘ fun (k:Nat)=>((i:Int)+1*(k:Int)).toNat)=fun k:Nat=>x.cps.toList[i+k]?:=by
    funext k;simp only[Function.comp]
    have:((i:Int)+1*(k:Int)).toNat=i+k:=by first|lia|omega
    rw[this];simp
   rw[hf];have hlen:j<=x.cps.toList.length:=by rw[<- uR,<- hn];exact hj
   clear e hc hf;have gen:∀(m:Nat) (l:List Nat),m<=l.length->(List.range m).filterMap (fun k=>l[k]?)=l.take m:=by
    intro m;induction m with
    |zero=>intro l _;rfl
    |succ m ih =>
     intro l hl;cases l with
     |nil=>simp at hl
     |cons a r =>
      rw[wB,yJ];simp only[List.getElem?_cons_zero,xa,wy];congr 1;rw[<- ih r (by simpa using hl)];rfl
   have QF:∀k:Nat,x.cps.toList[i+k]?=(x.cps.toList.drop i)[k]?:=fun k=>by rw[List.getElem?_drop]
   simp only[QF];exact gen (j-i) (x.cps.toList.drop i) (by rw[yh];exact wJ hlen _)
  ·exact .inr hn
 have hbnd:∀(o:Option Int) (d n:Nat),d<=n->d6 n d o<=n:=fun o d n hd=>by
  cases o with
  |none=>exact hd
  |some v =>
   simp only[d6];split
   ·omega
   ·exact wk _ _
 have Oi:Builtin.Str.strSliceIndices lo hi 1 x.length=sliceRange ((d6 x.length 0 lo:Nat):Int) ((d6 x.length x.length hi:Nat):Int) 1:=by
  unfold Builtin.Str.strSliceIndices;have c:∀(o:Option Int) (d:Nat),(match o with
    |none=>(d:Int)
    |some i=>max 0 (min (if i<0 then i+(x.length:Int) else i) (x.length:Int)))=((d6 x.length d o:Nat):Int):=fun o d=>by
   cases o with
   |none=>rfl
   |some v=>simp only[d6];split <;> omega
  have c1:=c lo 0;have c2:=c hi x.length;simp only[show (1:Int) > 0 by decide,if_true]at c1 c2 ⊢;rw[<- c1,<- c2];cases lo <;> cases hi <;> rfl
 have hk:=key _ _ _ (hbnd lo 0 x.length (zM _)) (hbnd hi x.length x.length (zp _)) Oi;rcases hk with hk|hk
 ·have TY:((Builtin.Str.strSliceIndices lo hi 1 x.length).filterMap (x.cps[·]?))=cutD x.cps.toList lo hi:=by
   rw[hk];unfold cutD;rw[<- uR]
  have hlen:(Builtin.Str.strSliceIndices lo hi 1 x.length).length=(cutD x.cps.toList lo hi).length:=by
   rw[Oi];unfold sliceRange cutD;rw[<- uR,zD,yh,<- uR];simp only[show (1:Int) > 0 by decide,if_true,zz,zZ];have b1:=hbnd lo 0 x.length (zM _);have b2:=hbnd hi x.length x.length (zp _);rw[GC];exact(xw (wJ b2 _)).symm
  unfold Txt.slice;split
  ·rename_i hw
   apply ext;show x.cps.toList=cutD x.cps.toList lo hi;symm;apply sx;rw[<- hlen];simp at hw;rw[hw,uR]
  ·rw[TY]
 ·exact absurd rfl hk
theorem MC:GQ X (fun x lo hi H Q=>∃y,x=.str y/\y.length<=zg/\Q (.str ⟨(cutD y.cps.toList lo hi).toArray⟩) H):=by
 intro Zz s σ H x v vl vu lo hi sl Q I rx hs pl pu h;obtain⟨y,rfl,hy,q⟩:=h;obtain⟨t,rfl⟩:=rx;refine⟨"str",_,PySem.F.slot_str_getitem.lookup,typeIs_str _ _ _,?_⟩;have part:∀{u:jp} {o:Option Int},IsPart u o->∃p:Option (Int×Tok),partValue p=u/\p.map (·.1)=o:=fun {u o} z=>by
  cases z
  ·exact⟨none,rfl,rfl⟩
  ·exact⟨some (_,_),rfl,rfl⟩
 obtain⟨l,e1,e2⟩:=part pl;obtain⟨r,e3,e4⟩:=part pu;have hs':s.heap.IsSlice sl l r none:=by
  obtain⟨o,h1,h2,h3⟩:=hs;exact⟨o,h1,h2,by rw[h3,<- e1,<- e3];rfl⟩
 refine wpAny_getItem_str_slice hs' rfl ?_;have e:(if (((none:Option (Int×Tok)).map (·.1)).getD 1==1&&(slicePicked y l r none).length==y.length)=true then y else ⟨((slicePicked y l r none).filterMap (y.cps[·]?)).toArray⟩)=Txt.slice y lo hi:=by
  unfold slicePicked Txt.slice;rw[e2,e4];rfl
 refine post_val_or_str ?_;rw[e];refine⟨zP (Txt.slice_le y _ _) hy,fun t' k=>?_⟩;rw[EK];exact⟨.str _,H,I.tok _,⟨t',rfl⟩,q⟩
noncomputable def Sz(K:Q_):V->Option Int->Option Int->Hp->VK->Prop:=fun x lo hi H Q=>∃ι M M' dx d,aJ K ι M H/\Rep K ι H dx x/\gi dx lo hi M=some (.ok d,M') /\
 ∀v H' ι',Rep K ι' H' d v->aJ K ι' M' H'->Ext K ι H ι' H'->Q v H'
theorem MD:GQ X (Sz X.K):=by
 intro Zz s σ H x v vl vu lo hi sl Q I rx hs pl pu h;obtain⟨ι,M,M',dx,d,S,r,e,k⟩:=h;cases r with
 |str y =>
  have e0:=aa e;clear e;obtain⟨_,_,e1,e⟩:=e0;have aB:=aU e1;clear e1;obtain⟨hn,rfl⟩:=aB;have e0:=af e;clear e;obtain⟨rfl,rfl⟩:=e0;exact MC Zz s σ H _ v vl vu lo hi sl Q I rx hs pl pu ⟨y,rfl,hn,k _ H ι (.str _) S Ext.refl⟩
 |ob t =>
  have e0:=aa e;clear e;obtain⟨ds,_,e1,e⟩:=e0;have aB:=bR e1;clear e1;obtain⟨g,rfl⟩:=aB;obtain⟨a,vs,h1,_,h3,h4⟩:=aT S (.ob t) g;cases h1;exact Bb Zz s σ H _ v vl vu lo hi sl Q I rx hs pl pu ⟨_,vs,rfl,aZ.of h3,hU S (oR h4 lo hi) e k⟩
 |fl t q=>exact Bb Zz s σ H _ v vl vu lo hi sl Q I rx hs pl pu ⟨_,_,rfl,t.seq,hU S (oR q lo hi) e k⟩
 |tup t q =>
  have e0:=af e;clear e;obtain⟨rfl,rfl⟩:=e0;rename_i a vs ds;by_cases hn:d6 ds.length 0 lo=0/\d6 ds.length ds.length hi=ds.length
  ·cases rx
   obtain⟨its,r,ht,hz⟩:=I.tuple (cy t);have hlen:its.toArray.size=ds.length:=by rw[ze,<- r.length,q.length]
   refine⟨"tuple",_,PyProof.Rows.slot_tuple_getitem.lookup,ht.typeIs,mj ht hs pl pu (by rw[hlen];exact hn) ⟨.ref a,H,I,rfl,?_⟩⟩;have e:cutD ds lo hi=ds:=sx (by
    unfold cutD;rw[hn.1,hn.2,xK,vq,zN])
   rw[e]at k;exact k _ H ι (.tup t q) S Ext.refl
  ·exact MB Zz s σ H _ v vl vu lo hi sl Q I rx hs pl pu ⟨_,_,rfl,cy t,by rw[<- q.length];exact hn,kX S (oR q lo hi) k⟩
 |_=>exact(ah e).elim
theorem Kz:Pa X (fun x H Q=>∃ι M M' d b,aJ X.K ι M H/\Rep X.K ι H d x/\kx d M=some (.ok b,M')/\(M'=M->Q b H)):=by
 intro Zz s σ H x v Q I rx h;obtain⟨ι,M,M',d,b,S,r,e,k⟩:=h;refine Mh Zz s σ H x v Q I rx ?_;cases r with
 |non=>have e0:=af e;clear e;obtain⟨rfl,rfl⟩:=e0;exact⟨_,rfl,k rfl⟩
 |bl c=>have e0:=af e;clear e;obtain⟨rfl,rfl⟩:=e0;exact⟨_,rfl,k rfl⟩
 |int i=>have e0:=af e;clear e;obtain⟨rfl,rfl⟩:=e0;exact⟨_,rfl,k rfl⟩
 |str y =>
  have e0:=aa e;clear e;obtain⟨_,_,e1,e⟩:=e0;have aB:=aU e1;clear e1;obtain⟨hn,rfl⟩:=aB;have e0:=af e;clear e;obtain⟨rfl,rfl⟩:=e0;exact⟨_,⟨hn,rfl⟩,k rfl⟩
 |tup t q =>
  have e0:=af e;clear e;obtain⟨rfl,rfl⟩:=e0;refine⟨_,.inr (.inl ⟨_,cy t,rfl⟩),?_⟩;cases q <;> exact k rfl
 |fl t q =>
  have e0:=af e;clear e;obtain⟨rfl,rfl⟩:=e0;refine⟨_,.inl ⟨_,t.seq,rfl⟩,?_⟩;cases q <;> exact k rfl
 |ob t =>
  have e0:=aa e;clear e;obtain⟨o,_,e1,e⟩:=e0;have aB:=hZ e1;clear e1;obtain⟨g,rfl⟩:=aB;cases o with
  |lst ds =>
   have e0:=af e;clear e;obtain⟨rfl,rfl⟩:=e0;obtain⟨a,vs,h1,_,h3,h4⟩:=aT S (.ob t) g;cases h1;refine⟨_,.inl ⟨_,aZ.of h3,rfl⟩,?_⟩;cases h4 <;> exact k rfl
  |aO kvs =>
   have e0:=af e;clear e;obtain⟨rfl,rfl⟩:=e0;obtain⟨a,vs,h1,_,h3,h4⟩:=c7 S (.ob t) g;cases h1;refine⟨_,.inr (.inr ⟨_,h3,rfl⟩),?_⟩;cases h4 <;> exact k rfl
noncomputable def SA(K:Q_)(g:List D->Mo D):List V->Hp->VK->Prop:=fun xs H Q=>∃ι M M' ds d,aJ K ι M H/\az K ι H ds xs/\g ds M=some (.ok d,M') /\
 ∀v H' ι',Rep K ι' H' d v->aJ K ι' M' H'->Ext K ι H ι' H'->Q v H'
theorem Am{K:Q_}{ι:List kw}{H:Hp}:∀{ds:List D} {vs:List V} {bs:List Bool},az K ι H ds vs->ds.mapM bG=some bs->vs=bs.map V.bl:=by
 intro ds;induction ds with
 |nil=>intro vs bs r h;cases r;simp at h;subst h;rfl
 |cons d ds ih =>
  intro vs bs r h;cases r with|cons r t =>
  rw[wv]at h;simp only[wO,xG,vC,Option.some.injEq]at h;obtain⟨b,hb,bs',F6,rfl⟩:=h;rw[ih t F6];cases r <;> simp[bG]at hb;subst hb;rfl
theorem all_range(bs:List Bool):((List.range bs.length).all fun i=>bs.getD i false)=bs.all id:=by
 rw[yi];simp only[zS,yk];constructor
 ·intro h b hb
  obtain⟨i,hi,rfl⟩:=wP hb
  have:=h i hi
  rw[zi,zv hi]at this;exact this
 ·intro h i hi
  rw[zi,zv hi];exact h _ (yM hi)
theorem any_range(bs:List Bool):((List.range bs.length).any fun i=>bs.getD i false)=bs.any id:=by
 rw[yi];simp only[yF,yk];constructor
 ·rintro ⟨i,hi,h⟩
  rw[zi,zv hi]at h;exact⟨_,yM hi,h⟩
 ·rintro ⟨b,hb,h⟩
  obtain⟨i,hi,rfl⟩:=wP hb;refine⟨i,hi,?_⟩;rw[zi,zv hi];exact h
theorem qi(hc:X.calm=true){Zz:List (kw×Obj)}{s:kt}{σ:St}{H:Hp}{a:kw}{bs:List Bool}{Q:jp->kt->Prop}(f:Nat->(Nat->Bool)->Bool)(I:Inv X Zz σ H s)(h:H a=some (.lst (bs.map V.bl)))
  (q:∀s',Inv X Zz σ H s'->Q (.bool (f bs.length fun i=>bs.getD i false)) s') :
  wpAny (model X.prog X.w) X.A.in1 (pyIter (.ref a)) (fun it s₂=>∃I fp wr n P St tr,it=.ref I/\Walks X.prog X.w X.A.in1 I fp wr n P St/\St 0 s₂.heap/\TruthOf X.prog X.w X.A.in1 P tr /\
   ∀h' tk,(∀b o,b ∉ wr->s₂.heap.get? b=some o->h'.get? b=some o)->Q (.bool (f n tr)) { s₂ with heap:=h',toks:=tk }) X.xe s:=by
 obtain⟨its,rv,p,hz⟩:=I.list (aZ.of h);have aS:a<s.heap.objs.size:=by obtain⟨_,_,e,_⟩:=p;exact zf e
 have hlen:its.toArray.size=bs.length:=by have:=rv.length;simp at this ⊢;omega
 refine wpAny_pyIter_list p.isList ?_;have hh:X.A.in1.handled=none:=I.ok.hd hc;refine⟨s.heap.objs.size,_,_,_,_,_,fun i=>bs.getD i false,rfl,Walks.list hh s.heap.objs.size a (zd aS) its.toArray,⟨⟨_,zC _ rfl,rfl,rfl⟩,p.isList.push _⟩,?_,fun h' tk kk=>?_⟩
 ·intro i v s' Q' E' hv hq
  have hv':its[i]?=some v:=by simpa using hv
  have hi:i<bs.length:=by
   have:=(zn.mp hv').1
   rw[<- hlen];simpa using this
  have hb:(bs.map V.bl)[i]?=some (V.bl bs[i]):=by rw[zw,zv hi];rfl
  obtain⟨u,hu,ru⟩:=rv.get hb;rw[hv']at hu;cases hu;cases ru;refine wpAny_truthy_bool ?_;have hq':Q' (bs.getD i false) s':=hq;rw[zi,zv hi]at hq';exact hq'
 ·rw[hlen]
  have I1:Inv X Zz σ H { s with heap:=s.heap.push { cls:=.type "list_iterator",data:=.fields #[.ref a,.int 0 0] } }:=I.kept (t':=s.toks) fun b o e=>zq _ e;refine q _ (I1.turned (it:=s.heap.objs.size) (fun b o hb e=>kk b o (by simpa using hb) e) (I.ax.fresh (zp _)) (yO I.lt) (.inr I.sz) (fun y c e z=>?_) fun p hp z=>?_)
  ·obtain⟨v,o,ho,_⟩:=I.cell y c e
   exact absurd (zf ho) (by rw[z];exact yD _)
  ·exact absurd (zf (I.pin p hp).1) (by rw[z];exact yD _)
theorem JG{K:Q_}{ι:List kw}{H:Hp}:∀{xs:List Int} {vs:List V} {us:List jp},az K ι H (xs.map .int) vs->Vals vs us->IntsAre us xs
 |[],_,_,.nil,.nil=>.nil
 |x::xs,_,_,.cons r t,.cons g k=>by
  cases r;obtain⟨t',rfl⟩:=g;exact .cons x t' (JG t k)
noncomputable def ik(kvs:List (Key×V)):List (Key×V)->List (Key×V)
 |[]=>kvs
 |p::r=>ik (putK kvs p.1 p.2) r
theorem rO:∀(r kvs:List (Key×V)),(ik kvs r).length<=kvs.length+r.length
 |[],kvs=>zp _
 |p::r,kvs=>by
  have h1:=rO r (putK kvs p.1 p.2);have h2:=kD kvs p.1 p.2;show (ik (putK kvs p.1 p.2) r).length<=kvs.length+(r.length+1);first|lia|omega
theorem K3:∀{r:List (Key×V)} {r':List (Key×jp)} {kvs:List (Key×V)} {vs:List (Key×jp)},KV r r'->KV kvs vs->KV (ik kvs r) (qH vs r'):=by
 intro r;induction r with
 |nil=>intro r' kvs vs q h;cases q;exact h
 |cons p r ih =>
  intro r' kvs vs q h;obtain⟨k,v⟩:=p;cases q with|cons h1 t =>
  rename_i p' r';obtain⟨k',u⟩:=p';obtain⟨e,rv⟩:=h1;cases (show k=k' from e);exact(show KV (ik (putK kvs k v) r) (qH (stored vs k u) r') from ih t (h.put k rv))
theorem K4{K:Q_}{ι:List kw}{H:Hp}:∀{r:List (Ky×D)} {r':List (Key×V)} {kvs:List (Ky×D)} {vs:List (Key×V)},KR K ι H r r'->KR K ι H kvs vs->KR K ι H (iH kvs r) (ik vs r'):=by
 intro r;induction r with
 |nil=>intro r' kvs vs q h;cases q;exact h
 |cons p r ih =>
  intro r' kvs vs q h;obtain⟨k,v⟩:=p;cases q with|cons h1 t =>
  rename_i p' r';obtain⟨k',u⟩:=p';obtain⟨e,rv⟩:=h1;cases (show k=k' from e);exact(show KR K ι H (iH (ee kvs k v) r) (ik (putK vs k u) r') from ih t (h.put k rv))
theorem oy:∀{ds:List D} {ps:List (Ky×D)},dj ds=some ps->ps.length=ds.length
 |[],_,h=>by cases h;rfl
 |d::ds,ps,h=>by
  unfold dj at h;split at h
  ·rename_i x v
   cases h1:fq x with
   |none=>rw[h1]at h;cases h
   |some k =>
    cases h2:dj ds with
    |none=>rw[h1,h2]at h;cases h
    |some r =>
     rw[h1,h2]at h;cases h;rw[zE,zE,oy h2]
  ·cases h
theorem HE{X:Cx}{Zz:List (kw×Obj)}{σ:St}{H:Hp}{s:kt}{ι:List kw}(I:Inv X Zz σ H s):∀{ds:List D} {vs:List V} {us:List jp} {ps:List (Ky×D)},az X.K ι H ds vs->Vals vs us->dj ds=some ps ->
  ∃(ps':List (Key×jp)) (ws:List (Key×V)),ig (aK X.prog X.w) s.heap us ps'/\KV ws ps'/\KR X.K ι H ps ws:=by
 intro ds;induction ds with
 |nil=>intro vs us ps r g h;cases r;cases g;cases h;exact⟨[],[],trivial,.nil,.nil⟩
 |cons d ds ih =>
  intro vs us ps r g h;cases r with|cons r t =>
  cases g with|cons g g' =>
  unfold dj at h;split at h
  ·rename_i x v
   cases h1:fq x with
   |none=>rw[h1]at h;cases h
   |some k =>
    cases h2:dj ds with
    |none=>rw[h1,h2]at h;cases h
    |some qs =>
     rw[h1,h2]at h;cases h;obtain⟨ps',ws,e1,e2,e3⟩:=ih t g' h2;cases r with
     |tup tt q =>
      cases q with
      |cons q1 q2 =>
       cases q2 with
       |cons q2 q3 =>
        cases q3;cases g;obtain⟨its,rel,⟨o,ho,hc',n,si⟩,_⟩:=I.tuple (cy tt);obtain⟨u1,u2,rfl,ET,ES⟩:=vals2 rel;have hk:=nQ q1 h1;subst hk;exact⟨(k,u2)::ps',(k,_)::ws,⟨⟨_,u1,o,n,rfl,ho,hc',si,lN ET⟩,e1⟩,.cons ⟨rfl,ES⟩ e2,.cons ⟨rfl,q2⟩ e3⟩
  ·cases h
noncomputable def GI:Bl->String
 |.len=>"len" |.tuple=>"tuple" |.list=>"list" |.repr=>"repr" |.all=>"all" |.any=>"any" |.min2=>"min" |.max2=>"max" |.abs=>"abs" |.dict1=>"dict" |.minL=>"min"
noncomputable def T7:Bl->Bool
 |.tuple=>true|.list=>true|.dict1=>true|_=>false
noncomputable def Eh(b:Bl):jp:=if T7 b then .type (GI b) else .builtin (GI b)
theorem LZ(hc:X.calm=true)(hu:X.A.units+100<cLine)(b:Bl):dz X (Eh b) (SA X.K (dR b)):=by
 intro Zz s σ H xs us Q I rv h;obtain⟨ι,M,M',ds,d,S,r,e,k⟩:=h;have fin:∀{w':V},M'=M->Rep X.K ι H d w'->Q w' H:=fun {w'} z r=>by subst z;exact k w' H ι r S Ext.refl
 cases b
 ·rcases ds with _|⟨x,t⟩
  ·exact(ah e).elim
  cases x <;> first|exact(ah e).elim|(cases t <;> first|exact(ah e).elim|skip)
  ·delta dR at e
   dsimp only at e;have e0:=aa e;clear e;obtain⟨_,_,e1,e⟩:=e0;have aB:=aU e1;clear e1;obtain⟨hn,rfl⟩:=aB;have e0:=af e;clear e;obtain⟨rfl,rfl⟩:=e0;cases r with|cons r1 r2=>cases r2;cases r1;exact Ak Zz s σ H _ us Q I rv ⟨_,rfl,hn,fin rfl (.int _)⟩
  ·delta dR at e
   dsimp only at e;have e0:=af e;clear e;obtain⟨rfl,rfl⟩:=e0;cases r with|cons r1 r2 =>
   cases r2;cases r1 with|tup t q=>exact jV Zz s σ H _ us Q I rv ⟨_,_,rfl,.inr (cy t),by rw[<- q.length];exact fin rfl (.int _)⟩
  ·delta dR at e
   dsimp only at e;have e0:=af e;clear e;obtain⟨rfl,rfl⟩:=e0;cases r with|cons r1 r2 =>
   cases r2;cases r1 with|fl t q=>exact jV Zz s σ H _ us Q I rv ⟨_,_,rfl,.inl t.seq,by rw[<- q.length];exact fin rfl (.int _)⟩
  ·delta dR at e
   dsimp only at e;have e0:=aa e;clear e;obtain⟨o,_,e1,e⟩:=e0;have aB:=hZ e1;clear e1;obtain⟨g,rfl⟩:=aB;cases r with|cons r1 r2 =>
   cases r2;cases o with
   |lst ds =>
    have e0:=af e;clear e;obtain⟨rfl,rfl⟩:=e0;obtain⟨a,vs,rfl,_,h3,h4⟩:=aT S r1 g;exact jV Zz s σ H _ us Q I rv ⟨a,vs,rfl,.inl (aZ.of h3),by rw[<- h4.length];exact fin rfl (.int _)⟩
   |aO kvs =>
    have e0:=af e;clear e;obtain⟨rfl,rfl⟩:=e0;obtain⟨a,ws,rfl,_,h3,h4⟩:=c7 S r1 g;obtain⟨u,rfl,ru⟩:=vals1 rv;cases ru;exact QR I (.inl h3) fun t s' I'=>⟨.int ws.length,H,I',⟨t,rfl⟩,by rw[<- h4.len];exact fin rfl (.int _)⟩
 ·rcases ds with _|⟨x,t⟩
  ·exact(ah e).elim
  cases x <;> first|exact(ah e).elim|(cases t <;> first|exact(ah e).elim|skip)
  ·delta dR at e
   dsimp only at e;have e0:=af e;clear e;obtain⟨rfl,rfl⟩:=e0;cases r with|cons r1 r2 =>
   cases r2;cases r1 with|tup t q=>exact iR Zz s σ H _ us Q I rv ⟨_,_,rfl,.inr ⟨cy t,fin rfl (.tup t q)⟩⟩
  ·delta dR at e
   dsimp only at e;have e0:=af e;clear e;obtain⟨rfl,rfl⟩:=e0;cases r with|cons r1 r2 =>
   cases r2;cases r1 with|fl t q=>exact iR Zz s σ H _ us Q I rv ⟨_,_,rfl,.inl ⟨t.seq,kX S q k⟩⟩
  ·delta dR at e
   dsimp only at e;have e0:=aa e;clear e;obtain⟨ds,_,e1,e⟩:=e0;have aB:=bR e1;clear e1;obtain⟨g,rfl⟩:=aB;have e0:=af e;clear e;obtain⟨rfl,rfl⟩:=e0;cases r with|cons r1 r2 =>
   cases r2;obtain⟨a,vs,rfl,_,h3,h4⟩:=aT S r1 g;exact iR Zz s σ H _ us Q I rv ⟨_,_,rfl,.inl ⟨aZ.of h3,kX S h4 k⟩⟩
 ·rcases ds with _|⟨x,t⟩
  ·exact(ah e).elim
  cases t <;> first|exact(ah e).elim|skip
  ·delta dR at e
   dsimp only at e;have e0:=aa e;clear e;obtain⟨ds,M1,e1,e⟩:=e0;cases r with|cons r1 r2 =>
   cases r2;obtain⟨rfl,a,vs,rfl,hs,hr⟩:=MF S r1 e1;exact Aj Zz s σ H _ us Q I rv ⟨a,vs,rfl,hs,hU S hr e k⟩
 ·exact(ah e).elim
 ·rcases ds with _|⟨x,t⟩
  ·exact(ah e).elim
  cases x <;> first|exact(ah e).elim|(cases t <;> first|exact(ah e).elim|skip)
  ·delta dR at e
   dsimp only at e;have e0:=aa e;clear e;obtain⟨ds,_,e1,e⟩:=e0;have aB:=bR e1;clear e1;obtain⟨g,rfl⟩:=aB;have e0:=aa e;clear e;obtain⟨bs,_,e1,e⟩:=e0;have aB:=a8 e1;clear e1;obtain⟨hb,rfl⟩:=aB;have e0:=af e;clear e;obtain⟨rfl,rfl⟩:=e0;cases r with|cons r1 r2 =>
   cases r2;obtain⟨a,vs,rfl,_,h3,h4⟩:=aT S r1 g;obtain⟨u,rfl,ru⟩:=vals1 rv;cases ru;rw[Am h4 hb]at h3;exact call_all_walk (qi hc (fun n tr=>(List.range n).all tr) I h3 fun s' I'=>⟨.bl (bs.all id),H,I',by rw[all_range];rfl,fin rfl (.bl _)⟩)
 ·rcases ds with _|⟨x,t⟩
  ·exact(ah e).elim
  cases x <;> first|exact(ah e).elim|(cases t <;> first|exact(ah e).elim|skip)
  ·delta dR at e
   dsimp only at e;have e0:=aa e;clear e;obtain⟨ds,_,e1,e⟩:=e0;have aB:=bR e1;clear e1;obtain⟨g,rfl⟩:=aB;have e0:=aa e;clear e;obtain⟨bs,_,e1,e⟩:=e0;have aB:=a8 e1;clear e1;obtain⟨hb,rfl⟩:=aB;have e0:=af e;clear e;obtain⟨rfl,rfl⟩:=e0;cases r with|cons r1 r2 =>
   cases r2;obtain⟨a,vs,rfl,_,h3,h4⟩:=aT S r1 g;obtain⟨u,rfl,ru⟩:=vals1 rv;cases ru;rw[Am h4 hb]at h3;exact call_any_walk (qi hc (fun n tr=>(List.range n).any tr) I h3 fun s' I'=>⟨.bl (bs.any id),H,I',by rw[any_range];rfl,fin rfl (.bl _)⟩)
 ·exact(ah e).elim
 ·exact(ah e).elim
 ·exact(ah e).elim
 ·rcases ds with _|⟨x,t⟩
  ·exact(ah e).elim
  cases x <;> first|exact(ah e).elim|(cases t <;> first|exact(ah e).elim|skip)
  ·delta dR at e
   dsimp only at e;have e0:=aa e;clear e;obtain⟨ps,_,e1,e⟩:=e0;have aB:=a8 e1;clear e1;obtain⟨hp,rfl⟩:=aB;have e0:=fU e;clear e;obtain⟨rfl,rfl⟩:=e0;cases r with|cons r1 r2 =>
   cases r2;cases r1 with|tup t q =>
   obtain⟨u,rfl,ru⟩:=vals1 rv;cases ru;obtain⟨its,rel,⟨o,ho,hc',n,si⟩,hz⟩:=I.tuple (cy t);obtain⟨o',ho',WE,_⟩:=I.rD (cy t);rw[ho]at ho';cases ho';obtain⟨ps',ws,Wk,Wx,RK⟩:=HE I q rel hp;refine qg (knd:=aK X.prog X.w) (I.ok.hd hc) ho hc' WE si Wk (by rw[<- rel.length];exact hz) fun h' tk hd kk=>?_;have fr:H s.heap.objs.size=none:=I.ax.fresh (zp _);have hlen:(ik [] ws).length<=zg:=zP (rO ws []) (by rw[ye,xl,<- RK.len,oy hp,q.length];exact hz);have I2:Inv X Zz σ (upd H s.heap.objs.size (.dK (ik [] ws))) { s with heap:=h',toks:=tk } :=
    I.laid kk (zp _) (z8 hlen (beq_eq_false_iff_ne.mpr (yO I.big)) (K3 Wx .nil) hd)
   have X4:Ext X.K ι H (ι++[s.heap.objs.size]) (upd H s.heap.objs.size (.dK (ik [] ws))):=Ext.new fr;exact⟨.ref s.heap.objs.size,_,I2,rfl,k _ _ _ (.ob (by rw[<- S.len,zK (zp _),yW];rfl)) (S.new fr ⟨_,rfl,(K4 RK .nil).mono X4⟩) X4⟩
  ·delta dR at e
   dsimp only at e;have e0:=aa e;clear e;obtain⟨kvs,_,e1,e⟩:=e0;have aB:=lg e1;clear e1;obtain⟨g,rfl⟩:=aB;have e0:=fU e;clear e;obtain⟨rfl,rfl⟩:=e0;cases r with|cons r1 r2 =>
   cases r2;obtain⟨a,ws,rfl,hi,h3,h4⟩:=c7 S r1 g;obtain⟨u,rfl,ru⟩:=vals1 rv;cases ru;obtain⟨z,hd,rs,rel,dd⟩:=gu I.ax (.inl h3);refine PySem.kt_call_dict (knd:=aK X.prog X.w) hd dd (by rw[<- rel.length];exact z) fun h' hm hs=>?_;have fr:H s.heap.objs.size=none:=I.ax.fresh (zp _);have kk:∀b o,s.heap.get? b=some o->h'.get? b=some o:=fun b o e=>(hs.2 b (zd (zf e))).trans (zq _ e);have I2:Inv X Zz σ (upd H s.heap.objs.size (.dK ws)) { s with heap:=h',toks:=s.toks } :=
    I.laid kk (zp _) (z8 z (beq_eq_false_iff_ne.mpr (yO I.big)) rel hm)
   have X4:Ext X.K ι H (ι++[s.heap.objs.size]) (upd H s.heap.objs.size (.dK ws)):=Ext.new fr;exact⟨.ref s.heap.objs.size,_,I2,rfl,k _ _ _ (.ob (by rw[<- S.len,zK (zp _),yW];rfl)) (S.new fr ⟨_,rfl,KR.mono X4 h4⟩) X4⟩
 ·exact(ah e).elim
end
end L3
namespace L3
open PySem PySem.Spec PyProof.Rows L2
section
variable {X:Cx}
noncomputable def HM(m:Mt)(x:D):String:=match m,x with
 |.append,_=>"list.append"
 |.insert,_=>"list.insert"
 |.extend,_=>"list.extend"
 |.join,_=>"str.join"
 |.get,_=>"dict.get"
noncomputable def uM:Mt->Str
 |.append=>"append" |.insert=>"insert" |.join=>"join" |.get=>"get"
 |.extend=>"extend"
theorem Ls{m:Str}{n:Nat}{k:Mt}(h:HL m n=some k):m=uM k:=by
 unfold HL at h;have key:∀(y:String) (k:Nat),(m==(Str.ofString y)&&n==k)=true->m=Str.ofString y:=fun y k e=>by
  simp only[zl,beq_iff_eq]at e;exact e.1
 split at h
 ·rename_i e;cases h;exact key _ _ e
 split at h
 ·rename_i e;cases h;exact key _ _ e
 split at h
 ·rename_i e;cases h;exact key _ _ e
 split at h
 ·rename_i e;cases h;exact key _ _ e
 split at h
 ·rename_i e;cases h;exact key _ _ e
 ·cases h
noncomputable def RM(K:Q_)(m:Mt)(id:String):V->List V->Hp->VK->Prop:=fun x xs H Q=>∃ι M M' dx ds d,aJ K ι M H/\Rep K ι H dx x/\az K ι H ds xs/\HM m dx=id/\ka m dx ds M=some (.ok d,M') /\
 ∀v H' ι',Rep K ι' H' d v->aJ K ι' M' H'->Ext K ι H ι' H'->Q v H'
theorem tU{K:Q_}{ι:List kw}{H:Hp}:∀{ds:List D} {vs:List V} {ys:List Str},az K ι H ds vs->ds.mapM tZ=some ys->vs=ys.map V.str:=by
 intro ds;induction ds with
 |nil=>intro vs bs r h;cases r;simp at h;subst h;rfl
 |cons d ds ih =>
  intro vs bs r h;cases r with|cons r t =>
  rw[wv]at h;simp only[wO,xG,vC,Option.some.injEq]at h;obtain⟨b,hb,bs',F6,rfl⟩:=h;rw[ih t F6];cases r <;> simp[tZ]at hb;subst hb;rfl
theorem NG(hu:X.A.units+100<cLine)(m:Mt)(id:String):Ki X id (RM X.K m id):=by
 intro Zz s σ H x vs v us Q I rx rv h;obtain⟨ι,M,M',dx,ds,d,S,r,rs,rfl,e,k⟩:=h;have fin:∀{w':V},M'=M->Rep X.K ι H d w'->Q w' H:=fun {w'} z r=>by subst z;exact k w' H ι r S Ext.refl
 cases m
 case append =>
  cases dx <;> first|exact(ah e).elim|(rcases ds with _|⟨_,_|⟨_,_⟩⟩ <;> first|exact(ah e).elim|skip)
  ·delta ka at e
   dsimp only at e;rename_i a y;obtain⟨vy,rfl,ry⟩:=C4 rs;have e0:=aa e;clear e;obtain⟨xs,_,e1,e⟩:=e0;have aB:=bR e1;clear e1;obtain⟨g,rfl⟩:=aB;have e0:=aa e;clear e;obtain⟨_,_,e1,e⟩:=e0;have aB:=aU e1;clear e1;obtain⟨hn,rfl⟩:=aB;have e0:=aa e;clear e;obtain⟨u,M2,e1,e⟩:=e0;have e0:=af e;clear e;obtain⟨rfl,rfl⟩:=e0;obtain⟨p,ws,rfl,hi,h3,h4⟩:=aT S r g;obtain⟨S2,X2⟩:=oU (ds:=xs) S hi h3 (h4.append (.cons ry .nil)) e1;exact Fs Zz s σ H _ _ v us Q I rx rv ⟨p,ws,vy,rfl,rfl,h3,by rw[<- h4.length];exact hn,k .non _ ι .non S2 X2⟩
 case insert=>exact(ah e).elim
 case join =>
  cases dx <;> first|exact(ah e).elim|(rcases ds with _|⟨x,_|⟨_,_⟩⟩ <;> first|exact(ah e).elim|(cases x <;> first|exact(ah e).elim|skip))
  ·delta ka at e
   dsimp only at e;obtain⟨vy,rfl,ry⟩:=C4 rs;have e0:=aa e;clear e;obtain⟨xs,_,e1,e⟩:=e0;have aB:=bR e1;clear e1;obtain⟨g,rfl⟩:=aB;have e0:=aa e;clear e;obtain⟨ys,_,e1,e⟩:=e0;have aB:=a8 e1;clear e1;obtain⟨hj,rfl⟩:=aB;have e0:=aa e;clear e;obtain⟨_,_,e1,e⟩:=e0;have aB:=aU e1;clear e1;obtain⟨hn,rfl⟩:=aB;have e0:=af e;clear e;obtain⟨rfl,rfl⟩:=e0;obtain⟨p,ws,rfl,hi,h3,h4⟩:=aT S ry g;cases r;have hw:=tU h4 hj;subst hw;exact Lu Zz s σ H _ _ v us Q I rx rv ⟨_,p,ys,rfl,rfl,aZ.of h3,hn,fin rfl (.str _)⟩
 case extend =>
  cases dx <;> first|exact(ah e).elim|(rcases ds with _|⟨_,_|⟨_,_⟩⟩ <;> first|exact(ah e).elim|skip)
  ·delta ka at e
   dsimp only at e;rename_i kk y;obtain⟨vy,rfl,ry⟩:=C4 rs;have e0:=aa e;clear e;obtain⟨es,_,e1,e⟩:=e0;have e0:=aa e;clear e;obtain⟨xs,_,e2,e⟩:=e0;have bg:=bR e2;clear e2;obtain⟨g,rfl⟩:=bg;have e0:=aa e;clear e;obtain⟨_,_,e3,e⟩:=e0;have cQ:=aU e3;clear e3;obtain⟨⟨hn,_⟩,rfl⟩:=cQ;have e0:=aa e;clear e;obtain⟨u,M2,e4,e⟩:=e0;have e0:=af e;clear e;obtain⟨rfl,rfl⟩:=e0;cases ry with
   |tup t q =>
    have aB:=af e1;clear e1;obtain⟨rfl,rfl⟩:=aB;obtain⟨p,ws,rfl,hi,h3,h4⟩:=aT S r g;obtain⟨S2,X2⟩:=oU (ds:=xs) S hi h3 (h4.append q) e4;exact DK Zz s σ H _ _ v us Q I rx rv ⟨p,_,ws,_,rfl,rfl,h3,cy t,by rw[<- h4.length,<- q.length];exact hn,k .non _ ι .non S2 X2⟩
   |ob t =>
    have aB:=bR e1;clear e1;obtain⟨g2,rfl⟩:=aB;obtain⟨p,ws,rfl,hi,h3,h4⟩:=aT S r g;obtain⟨p2,UU,e5,Zk,h5,h6⟩:=aT S (.ob t) g2;cases e5;obtain⟨S2,X2⟩:=oU (ds:=xs) S hi h3 (h4.append h6) e4;exact Fq Zz s σ H _ _ v us Q I rx rv ⟨p,_,ws,UU,rfl,rfl,h3,h5,by rw[<- h4.length,<- h6.length];exact hn,k .non _ ι .non S2 X2⟩
   |_=>exact(ah e1).elim
 case get =>
  cases dx <;> first|exact(ah e).elim|(rcases ds with _|⟨_,_|⟨_,_|⟨_,_⟩⟩⟩ <;> first|exact(ah e).elim|skip)
  ·delta ka at e
   dsimp only at e;rename_i kk y dv;obtain⟨vy,vd,rfl,ry,rd⟩:=Qa rs;have e0:=aa e;clear e;obtain⟨kvs,_,e1,e⟩:=e0;have aB:=lg e1;clear e1;obtain⟨g,rfl⟩:=aB;have e0:=aa e;clear e;obtain⟨q,_,e1,e⟩:=e0;have aB:=a8 e1;clear e1;obtain⟨hq,rfl⟩:=aB;have e0:=af e;clear e;obtain⟨rfl,rfl⟩:=e0;obtain⟨a,ws,rfl,hi,h3,h4⟩:=c7 S r g;cases rx;obtain⟨u1,u2,rfl,ET,ES⟩:=vals2 rv;have hy:vy=kV q:=by
    cases ry <;> simp only[fq,reduceCtorEq,Option.some.injEq]at hq <;> subst hq <;> rfl
   subst hy;obtain⟨z,hd,vs,rel,dd⟩:=gu I.ax (.inl h3);show wpAny _ _ (call (.builtin "dict.get") [.ref a,u1,u2]) _ _ _;refine call_meetsIn PySem.F.slot_dict_get dd.typeIs PySem.F.entry_dict_get (PySem.F.args_dict_get_3 _ _ _) (meets_dict_get_default (aK X.prog X.w) a (lN ET) hd u2) ⟨_,dd.mapOf,?_⟩;have w3:Rep X.K ι H ((bq kvs q).getD dv) ((fK ws q).getD vd):=by
    rcases h4.find q with ⟨z1,z2⟩|⟨d',v',z1,z2,z3⟩
    ·rw[z1,z2];exact rd
    ·rw[z1,z2];exact z3
   exact⟨_,H,I.tok _,(rel.val q).getD ES,fin rfl w3⟩
theorem LE.mth{m:Mt}{fo:DE}{fa:Ev->Mo (List D)}(σ:St)(H:Hp)(Q:VK)(h:LE X.K (fun ρ=>do let x<-fo ρ;lI m x;let xs<-fa ρ;ka m x xs) σ H Q):Ms X (uM m) (RM X.K m) (LE X.K fo) (LA X.K fa) σ H Q:=by
 obtain⟨ι,ρ,M,d,M',S,R,e,k⟩:=h;have e0:=aa e;clear e;obtain⟨x,M1,e1,e⟩:=e0;have e0:=aa e;clear e;obtain⟨u,M2,e2,e⟩:=e0;have e0:=aa e;clear e;obtain⟨xs,M3,e3,e⟩:=e0;refine⟨ι,ρ,M,x,M1,S,R,e1,fun v H1 ι1 r1 S1 X1=>?_⟩;have fact:M2=M1/\∃T,Kj T (uM m) (HM m x)/\tq X T v H1:=by
  unfold lI at e2;split at e2
  ·have e0:=aa e2;clear e2;obtain⟨ds,_,e4,e5⟩:=e0
   have fu:=bR e4;clear e4;obtain⟨g,rfl⟩:=fu;obtain⟨p,ws,rfl,hi,h3,h4⟩:=aT S1 r1 g;exact⟨(af e5).2,"list",⟨PySem.F.plainAttrs_list,PySem.F.slot_list_append,PySem.F.type_list_append⟩,oS (aZ.of h3)⟩
  ·have e0:=aa e2;clear e2;obtain⟨ds,_,e4,e5⟩:=e0
   have fu:=bR e4;clear e4;obtain⟨g,rfl⟩:=fu;obtain⟨p,ws,rfl,hi,h3,h4⟩:=aT S1 r1 g;exact⟨(af e5).2,"list",⟨PySem.F.plainAttrs_list,PySem.F.slot_list_insert,PySem.F.type_list_insert⟩,oS (aZ.of h3)⟩
  ·have e0:=aa e2;clear e2;obtain⟨ds,_,e4,e5⟩:=e0
   have fu:=bR e4;clear e4;obtain⟨g,rfl⟩:=fu;obtain⟨p,ws,rfl,hi,h3,h4⟩:=aT S1 r1 g;exact⟨(af e5).2,"list",⟨PySem.F.plainAttrs_list,PySem.F.slot_list_extend,PySem.F.type_list_extend⟩,oS (aZ.of h3)⟩
  ·cases r1 with
   |str y=>exact⟨(af e2).2,"str",⟨PySem.F.plainAttrs_str,PySem.F.slot_str_join,PySem.F.type_str_join⟩,KZ⟩
  ·have e0:=aa e2;clear e2;obtain⟨ds,_,e4,e5⟩:=e0
   have fu:=lg e4;clear e4;obtain⟨g,rfl⟩:=fu;obtain⟨p,ws,rfl,hi,h3,h4⟩:=c7 S1 r1 g;exact⟨(af e5).2,"dict",⟨PySem.F.plainAttrs_dict,PySem.F.slot_dict_get,PySem.F.type_dict_get⟩,fun Zz σ s v I r=>tM I r (.inr (.inr (.inl ⟨rfl,.inl ⟨ws,h3⟩⟩)))⟩
  ·exact(ah e2).elim
 obtain⟨rfl,T,f1,f2⟩:=fact;refine⟨T,HM m x,f1,f2,?_⟩;refine⟨ι1,ρ,_,xs,M3,S1,R.mono X1,e3,fun vs H2 ι2 r2 S2 X2=>?_⟩;exact⟨ι2,M3,M',x,xs,d,S2,r1.mono X2,r2,rfl,e,fun v' H' ι' r' S' X'=>k v' H' ι' r' S' ((X1.trans X2).trans X')⟩
noncomputable def tyName:Ty->String
 |.int=>"int" |.str=>"str" |.bool=>"bool" |.list=>"list" |.tuple=>"tuple" |.dict=>"dict"
theorem Kx{t:Str}{k:Ty}(h:Cp t=some k):bootBuiltins t=some (.type (tyName k)):=by
 unfold Cp at h;have key:∀(y:String),(t==(Str.ofString y))=true->t=Str.ofString y:=fun y e=>by simpa using e
 split at h
 ·rename_i e;cases h;rw[key _ e];decide +kernel
 split at h
 ·rename_i e;cases h;rw[key _ e];decide +kernel
 split at h
 ·rename_i e;cases h;rw[key _ e];decide +kernel
 split at h
 ·rename_i e;cases h;rw[key _ e];decide +kernel
 split at h
 ·rename_i e;cases h;rw[key _ e];decide +kernel
 split at h
 ·rename_i e;cases h;rw[key _ e];decide +kernel
 ·cases h
noncomputable def Pj(K:Q_)(k:Ty):List V->Hp->VK->Prop:=fun xs H Q=>∃ι M M' dx x b,xs=[x,.ty (tyName k)]/\aJ K ι M H/\Rep K ι H dx x/\l7 k dx M=some (.ok b,M')/\(M'=M->Q (.bl b) H)
theorem ID(k:Ty):dz X (.builtin "isinstance") (Pj X.K k):=by
 intro Zz s σ H xs us Q I rv h;obtain⟨ι,M,M',dx,x,b,rfl,S,r,e,q⟩:=h;obtain⟨u,w',rfl,ru,rw'⟩:=vals2 rv;cases rw';have yes:∀{c:Bool},Q (.bl c) H->EP X Zz σ Q (.bool c) s:=fun h=>⟨.bl _,H,I,rfl,h⟩;have no:∀{c:Bool},Q (.bl c) H->EP X Zz σ Q (.bool c) { s with toks:=s.toks+1 }:=fun h=>⟨.bl _,H,I.tok _,rfl,h⟩;have lst:∀{a:kw} {vs:List V},aZ X.K H a vs->Q (.bl (k==.list)) H->wpAny (model X.prog X.w) X.A (call (.builtin "isinstance") [.ref a,.type (tyName k)]) (EP X Zz σ Q) X.xe s:=fun {a vs} hs q=>by
  obtain⟨its,_,⟨o,n,ho,hc,_⟩,_⟩:=I.list hs;cases k
  ·exact IsiPair.list_int ho hc (no q)
  ·exact IsiPair.list_str ho hc (no q)
  ·exact IsiPair.list_bool ho hc (no q)
  ·exact IsiPair.list_list ho hc (yes q)
  ·exact IsiPair.list_tuple ho hc (no q)
  ·exact IsiPair.list_dict ho hc (no q)
 cases r with
 |non =>
  cases ru;have e0:=af e;clear e;obtain⟨rfl,rfl⟩:=e0;have q:=q rfl;cases k
  ·exact IsiPair.NoneType_int (no q)
  ·exact IsiPair.NoneType_str (no q)
  ·exact IsiPair.NoneType_bool (no q)
  ·exact IsiPair.NoneType_list (no q)
  ·exact IsiPair.NoneType_tuple (no q)
  ·exact IsiPair.NoneType_dict (no q)
 |bl c =>
  cases ru;have e0:=af e;clear e;obtain⟨rfl,rfl⟩:=e0;have q:=q rfl;cases k
  ·exact IsiPair.bool_int (yes q)
  ·exact IsiPair.bool_str (no q)
  ·exact IsiPair.bool_bool (yes q)
  ·exact IsiPair.bool_list (no q)
  ·exact IsiPair.bool_tuple (no q)
  ·exact IsiPair.bool_dict (no q)
 |int c =>
  obtain⟨t,rfl⟩:=ru;have e0:=af e;clear e;obtain⟨rfl,rfl⟩:=e0;have q:=q rfl;cases k
  ·exact IsiPair.int_int (yes q)
  ·exact IsiPair.int_str (no q)
  ·exact IsiPair.int_bool (no q)
  ·exact IsiPair.int_list (no q)
  ·exact IsiPair.int_tuple (no q)
  ·exact IsiPair.int_dict (no q)
 |str c =>
  obtain⟨t,rfl⟩:=ru;have e0:=af e;clear e;obtain⟨rfl,rfl⟩:=e0;have q:=q rfl;cases k
  ·exact IsiPair.str_int (no q)
  ·exact IsiPair.str_str (yes q)
  ·exact IsiPair.str_bool (no q)
  ·exact IsiPair.str_list (no q)
  ·exact IsiPair.str_tuple (no q)
  ·exact IsiPair.str_dict (no q)
 |tup t qq =>
  cases ru;have e0:=af e;clear e;obtain⟨rfl,rfl⟩:=e0;have q:=q rfl;obtain⟨its,_,⟨o,ho,hc,_⟩,_⟩:=I.tuple (cy t);cases k
  ·exact IsiPair.tuple_int ho hc (no q)
  ·exact IsiPair.tuple_str ho hc (no q)
  ·exact IsiPair.tuple_bool ho hc (no q)
  ·exact IsiPair.tuple_list ho hc (no q)
  ·exact IsiPair.tuple_tuple ho hc (yes q)
  ·exact IsiPair.tuple_dict ho hc (no q)
 |fl t qq =>
  cases ru;have e0:=af e;clear e;obtain⟨rfl,rfl⟩:=e0;exact lst t.seq (q rfl)
 |ob t =>
  cases ru;have e0:=aa e;clear e;obtain⟨o,_,e1,e⟩:=e0;have aB:=hZ e1;clear e1;obtain⟨g,rfl⟩:=aB;cases o with
  |lst ds =>
   have e0:=af e;clear e;obtain⟨rfl,rfl⟩:=e0;obtain⟨p,ws,e1,hi,h3,h4⟩:=aT S (.ob t) g;cases e1;exact lst (aZ.of h3) (q rfl)
  |aO kvs =>
   have e0:=af e;clear e;obtain⟨rfl,rfl⟩:=e0;obtain⟨p,ws,e1,hi,h3,h4⟩:=c7 S (.ob t) g;cases e1;have q:=q rfl;obtain⟨z,hd,rs,rel,o,es,ep,ho,⟨hc,_⟩,_⟩:=gu I.ax (.inl h3);cases k
   ·exact IsiPair.dict_int ho hc (no q)
   ·exact IsiPair.dict_str ho hc (no q)
   ·exact IsiPair.dict_bool ho hc (no q)
   ·exact IsiPair.dict_list ho hc (no q)
   ·exact IsiPair.dict_tuple ho hc (no q)
   ·exact IsiPair.dict_dict ho hc (yes q)
theorem LE.isI{k:Ty}{fa:DE}(σ:St)(H:Hp)(Q:VK)(h:LE X.K (fun ρ=>do let x<-fa ρ;let b<-l7 k x;pure (.bl b)) σ H Q):Jg (Pj X.K k) (ij (LE X.K fa) (ij (tC (.ty (tyName k))) oM)) σ H Q:=by
 obtain⟨ι,ρ,M,d,M',S,R,e,q⟩:=h;have e0:=aa e;clear e;obtain⟨x,M1,e1,e⟩:=e0;have e0:=aa e;clear e;obtain⟨b,M2,e2,e⟩:=e0;have e0:=af e;clear e;obtain⟨rfl,rfl⟩:=e0;refine⟨ι,ρ,M,x,M1,S,R,e1,fun v H1 ι1 r1 S1 X1=>?_⟩;exact⟨ι1,M1,_,x,v,b,rfl,S1,r1,e2,fun z=>by subst z;exact q _ H1 ι1 (.bl b) S1 X1⟩
end
end L3
namespace L3
open PySem PySem.Spec PyProof.Rows L2
section
variable {X:Cx}
end
end L3
namespace L3
open PySem PySem.Spec PyProof.Rows L2
noncomputable def iO(K:Q_)(n:Nat)(g:List D->Mo D):Sp:=fun vs H Q _=>vs.length=n/\∃ι M M' ds d,aJ K ι M H/\az K ι H ds vs/\g ds M=some (.ok d,M') /\
 ∀v H' ι',Rep K ι' H' d v->aJ K ι' M' H'->Ext K ι H ι' H'->Q v H'
noncomputable def SK(X:Cx)(g:List D->Mo D)(f:Str):Prop:=∃(k:Nat) (fa:kw) (fd:FuncData) (ps:List Str),X.mg f=some (.ref fa)/\Z0 X.K (.ref fa)=true/\Binds X.K fd ps [] /\
 dD X.prog X.w X.K X.mg X.base kq k fa fd ps (iO X.K ps.length g)/\d8 k X.A/\∀ds M d M',g ds M=some (.ok d,M')->ds.length=ps.length
structure aN (Γ:Ctx) (S:Sc) (X:Cx):Prop where
 n:X.N=S.N
 sc:∀x k,S.sc.names.lookup x=some k->∃k',X.env.scope.names.lookup x=some k'/\(k'=k\/(k=.free/\k'=.cell))
 calm:X.calm=true
 hu:X.A.units+100<cLine
 dQ:X.xe=fun _ _=>False
 fns:∀f∈S.fns,SK X (Γ.fn f) f
 gls:∀x∈S.gls,∃d u v,Γ.gl x=some d/\X.mg x=some u/\RelV v u/\∀ι H,Rep X.K ι H d v
 aY:∀x∈S.aY,X.mg x=none
 rfs:SK X (ug Γ) "_law_refused"
 nd:X.N.Nodup
section
variable {Γ:Ctx}{S:Sc}{X:Cx}
theorem aN.Ew(C:aN Γ S X){x:Str}(h:S.Ew x=true):GP X.env.scope x:=by
 unfold Sc.Ew Sc.kind at h;simp only[yU,beq_iff_eq]at h;rcases h with (h|h)|h
 ·obtain⟨k',h1,rfl|⟨h2,_⟩⟩:=C.sc _ _ h
  ·exact .inl h1
  ·cases h2
 ·obtain⟨k',h1,rfl|⟨h2,_⟩⟩:=C.sc _ _ h
  ·exact .inr (.inl h1)
  ·cases h2
 ·obtain⟨k',h1,rfl|⟨_,rfl⟩⟩:=C.sc _ _ h
  ·exact .inr (.inr h1)
  ·exact .inr (.inl h1)
theorem aN.loc(C:aN Γ S X){x:Str}(h:S.loc x=true):Loc X.env.scope x:=by
 unfold Sc.loc Sc.kind at h;simp only[yU,beq_iff_eq]at h;rcases h with h|h
 ·obtain⟨k',h1,rfl|⟨h2,_⟩⟩:=C.sc _ _ h
  ·exact .inl h1
  ·cases h2
 ·obtain⟨k',h1,rfl|⟨h2,_⟩⟩:=C.sc _ _ h
  ·exact .inr h1
  ·cases h2
theorem aN.bE(C:aN Γ S X){x:Str}(h:S.bE x=true):Gl X x:=by
 unfold Sc.bE Sc.kind at h;simp only[beq_iff_eq]at h;obtain⟨k',h1,rfl|⟨h2,_⟩⟩:=C.sc _ _ h
 ·exact h1
 ·cases h2
theorem slot_get{N:List Str}{x:Str}{i:Nat}(h:slot N x=some i):N[i]?=some x:=by
 unfold slot at h;obtain⟨hi,h1,_⟩:=xH.mp h;rw[zv hi];simpa using h1
theorem bH{x:Str}(h:bM x=true):(x==("__debug__":Str))=false/\(x==("__classdict__":Str))=false/\x≠"__name__":=by
 unfold bM at h;simp only[zl,bne_iff_ne,ne_eq]at h;exact⟨beq_eq_false_iff_ne.mpr h.1.1,beq_eq_false_iff_ne.mpr h.1.2,h.2⟩
theorem aC{e:Expr}{es:List Expr}{env:Env}(h:bx e=true):starEach (e::es) env=(false,eval e env)::starEach es env:=by
 cases e <;> first|rfl|cases h
theorem du{pos:Pos}{env:Env}:∀{es:List Expr},es.all bx=true->(backTo pos (starEach es env)).any (·.1)=false
 |[],_=>rfl
 |e::es,h=>by
  rw[zX,zl]at h;rw[aC h.1];show (false||(backTo pos (starEach es env)).any (·.1))=false;rw[du h.2];rfl
noncomputable def SH(y:Str):It:=⟨fun i _=>i<y.cps.size,fun i H x H'=>H'=H/\∃c,y.cps[i]?=some c/\x=.str ⟨#[c]⟩,fun i _=>i=y.cps.size⟩
theorem tN{P:ul}{w:ut}{K:Q_}{tg:Expr}{it:kw}{y:Str}{t:Tok}{ty:String}(hW:∀A':Zx,A'.handled=none->Walks P w A' it [it] [it] y.cps.size (SignAt y) (fun i h=>h.IsStrIter it ty y t i))
  (hn:["enumerate","zip","dict_itemiterator","dict_reverseitemiterator","odict_iterator","itertools.zip_longest","itertools.pairwise"].contains ty=false)
  (Qz:∀(A:Zx) (i:Nat) (s:kt) (Q:jp->kt->Prop) (E:jp->kt->Prop),s.heap.IsStrIter it ty y t i->Q (.ref it) s->wpAny (model P w) A (pyIter (.ref it)) Q E s) :
  Turn P w K tg (SH y) [it] it (fun i h=>h.IsStrIter it ty y t i) where
 mem:=by simp
 obj:=fun i h st b hb=>by
  have e:b=it:=by simpa using hb
  subst e;obtain⟨o,h1,h2,h3⟩:=st;exact⟨o,h1,fun v z=>by rw[h3]at z;cases z⟩
 keep:=fun i h h' st k=>by
  obtain⟨o,h1,h2⟩:=st;exact⟨o,k it (by simp) o h1,h2⟩
 item:=by
  intro X hP hw hK hc i Zz s σ H E I hf st hg;subst hP hw hK;obtain⟨f0,f1,f2,f3,f4,f5⟩:=hf it (by simp);refine(hW X.A (I.ok.hd hc)).item i s _ _ hg st fun v h' tk hv st' kk=>?_;obtain⟨c,t',hc',rfl⟩:=hv;have I1:Inv X Zz σ H { s with heap:=h',toks:=tk }:=I.turned (fun b o hb e=>kk b o (by simpa using hb) e) f0 f1 f3 f4 f5;obtain⟨o,h1,h2,h3⟩:=id st';exact⟨_,rfl,sY (s:={ s with heap:=h',toks:=tk }) h1 h2 h3 hn ⟨.str ⟨#[c]⟩,H,I1,⟨t',rfl⟩,⟨rfl,c,hc',rfl⟩,st',fun b hb=>(hf b hb).1⟩⟩
 done:=by
  intro X hP hw hK hc i Zz s σ H E I hf st hg;subst hP hw hK;obtain⟨f0,f1,f2,f3,f4,f5⟩:=hf it (by simp);have hg':i=y.cps.size:=hg;subst hg';exact(hW X.A (I.ok.hd hc)).done s _ _ st fun h' tk kk=>⟨rfl,I.turned (fun b o hb e=>kk b o (by simpa using hb) e) f0 f1 f3 f4 f5⟩
 self:=Qz
noncomputable def N0(K:Q_)(tl:TE):TI:=fun σ H R=>tl σ H fun x H1=>(∃a xs,x=.ref a/\aZ K H1 a xs/\R (SI K a) H1)\/(∃a xs,x=.ref a/\de K H1 a xs/\R (SG K a) H1)\/∃y,x=.str y/\R (SH y) H1
theorem Fe{X:Cx}{tg l:Expr}{tl:TE}(hl:PE X l tl):PI X tg l (N0 X.K tl):=by
 intro Zz s σ H R I h;refine aQ (hl Zz s σ H _ I h) fun v s1 ⟨x,H1,I1,r1,q1⟩=>?_;rcases q1 with ⟨a,xs,e,hq,q⟩|⟨a,xs,e,hq,q⟩|⟨y,e,q⟩
 ·subst e
  cases r1;obtain⟨its,rv,p,hz⟩:=I1.list hq;refine wpAny_pyIter_list p.isList ?_;refine⟨s1.heap.objs.size,[s1.heap.objs.size],_,_,H1,rfl,I1.kept (t':=s1.toks) fun b o e=>zq _ e,Ez a _,⟨_,zC _ rfl,rfl,rfl⟩,fun b hb=>?_,q⟩;have e:b=s1.heap.objs.size:=by simpa using hb
  subst e;exact I1.lR (zp _) (I1.ax.fresh (zp _))
 ·subst e
  cases r1;obtain⟨its,rv,p,hz⟩:=I1.tuple hq;refine wpAny_pyIter_tuple (show s1.heap.IsTuple a its.toArray from p) ?_;refine⟨s1.heap.objs.size,[s1.heap.objs.size],_,_,H1,rfl,I1.kept (t':=s1.toks) fun b o e=>zq _ e,Cq a _,⟨_,zC _ rfl,rfl,rfl⟩,fun b hb=>?_,q⟩;have e:b=s1.heap.objs.size:=by simpa using hb
  subst e;exact I1.lR (zp _) (I1.ax.fresh (zp _))
 ·subst e
  obtain⟨t,rfl⟩:=r1;cases ha:y.cps.all (·<128)
  ·refine wpAny_pyIter_wide ha ?_
   refine⟨s1.heap.objs.size,[s1.heap.objs.size],_,_,H1,rfl,I1.kept (t':=s1.toks) fun b o e=>zq _ e,tN (t:=t) (fun A' hA=>Walks.strWide hA _ y t) (by decide) (fun _ _ _ _ _ st hQ=>wpAny_pyIter_striter_wide st hQ),⟨_,zC _ rfl,rfl,rfl⟩,fun b hb=>?_,q⟩;have e:b=s1.heap.objs.size:=by simpa using hb
   subst e;exact I1.lR (zp _) (I1.ax.fresh (zp _))
  ·refine wpAny_pyIter_ascii ha ?_
   refine⟨s1.heap.objs.size,[s1.heap.objs.size],_,_,H1,rfl,I1.kept (t':=s1.toks) fun b o e=>zq _ e,tN (t:=t) (fun A' hA=>Walks.strAscii hA _ y t) (by decide) (fun _ _ _ _ _ st hQ=>wpAny_pyIter_striter_ascii st hQ),⟨_,zC _ rfl,rfl,rfl⟩,fun b hb=>?_,q⟩;have e:b=s1.heap.objs.size:=by simpa using hb
   subst e;exact I1.lR (zp _) (I1.ax.fresh (zp _))
noncomputable def Po(K:Q_)(ι:List kw)(H:Hp)(src:Src)(J:It):Prop:=∀(ι2:List kw) (H2:Hp) (M2:MH),Ext K ι H ι2 H2->aJ K ι2 M2 H2->ou src.ck M2 ->
 (∀(i:Nat) (d:D),src.ds[i]?=some d->J.go i H2/\∀x H',J.kF i H2 x H'->H'=H2/\Rep K ι2 H2 d x)/\J.stop src.ds.length H2
inductive LI (K:Q_) (f:Ev->Mo Src) (σ:St) (H:Hp) (R:It->Hp->Prop):Prop
 |mk (ι:List kw) (ρ:Ev) (M:MH) (src:Src) (M':MH) (S0:aJ K ι M H) (R0:bY K ι H ρ σ) (e:f ρ M=some (.ok src,M')) (k:∀J H' ι',aJ K ι' M' H'->Ext K ι H ι' H'->Po K ι' H' src J->R J H')
theorem PI.imp{X:Cx}{tg e:Expr}{t t':TI}(h:PI X tg e t)(k:∀σ H R,t' σ H R->t σ H R):PI X tg e t':=fun Zz s σ H R I q=>h Zz s σ H R I (k σ H R q)
theorem LI.seq{K:Q_}{f:DE}(σ:St)(H:Hp)(R:It->Hp->Prop)(h:LI K (fun ρ=>do let x<-f ρ;jA x) σ H R):N0 K (LE K f) σ H R:=by
 obtain⟨ι,ρ,M,src,M',S,Rr,e,k⟩:=h;have e0:=aa e;clear e;obtain⟨x,M1,e1,e⟩:=e0;refine⟨ι,ρ,M,x,M1,S,Rr,e1,fun v H1 ι1 r1 S1 X1=>?_⟩;cases r1 with
 |tup t q =>
  have e0:=af e;clear e;obtain⟨rfl,rfl⟩:=e0;refine .inr (.inl ⟨_,_,rfl,cy t,k _ H1 ι1 S1 X1 fun ι2 H2 M2 x2 S2 ok=>⟨fun i d hd=>?_,⟨_,cy (x2.tup _ _ t),yQ (q.length.symm)⟩⟩⟩);obtain⟨v,hv,rv⟩:=(q.mono x2).get hd;exact⟨⟨_,v,cy (x2.tup _ _ t),hv⟩,fun x' H' y=>⟨y.1,by have:=y.2 _ (cy (x2.tup _ _ t));rw[hv]at this;cases this;exact rv⟩⟩
 |fl t q =>
  have e0:=af e;clear e;obtain⟨rfl,rfl⟩:=e0;refine .inl ⟨_,_,rfl,t.seq,k _ H1 ι1 S1 X1 fun ι2 H2 M2 x2 S2 ok=>⟨fun i d hd=>?_,⟨_,(x2.fz _ _ t).seq,yQ (q.length.symm)⟩⟩⟩;obtain⟨v,hv,rv⟩:=(q.mono x2).get hd;exact⟨⟨_,v,(x2.fz _ _ t).seq,hv⟩,fun x' H' y=>⟨y.1,by have:=y.2 _ (x2.fz _ _ t).seq;rw[hv]at this;cases this;exact rv⟩⟩
 |str y =>
  have e0:=aa e;clear e;obtain⟨_,_,e2,e⟩:=e0;have bg:=aU e2;clear e2;obtain⟨hn,rfl⟩:=bg;have e0:=af e;clear e;obtain⟨rfl,rfl⟩:=e0;refine .inr (.inr ⟨y,rfl,k _ H1 ι1 S1 X1 fun ι2 H2 M2 x2 S2 ok=>⟨fun i d hd=>?_,?_⟩⟩)
  ·rw[zw]at hd
   cases hc:y.cps.toList[i]? with
   |none=>rw[hc]at hd;cases hd
   |some c =>
    rw[hc]at hd;cases hd;have hc':y.cps[i]?=some c:=by simpa using hc
    refine⟨?_,fun x' H' yy=>?_⟩
    ·exact(yI.mp hc').1
    ·obtain⟨h1,c',h2,rfl⟩:=yy
     rw[hc']at h2;cases h2;exact⟨h1,.str _⟩
  ·show (y.cps.toList.map sgn).length=y.cps.size
   simp
 |ob t =>
  have e0:=aa e;clear e;obtain⟨ds,_,e2,e⟩:=e0;have bg:=bR e2;clear e2;obtain⟨g,rfl⟩:=bg;have e0:=af e;clear e;obtain⟨rfl,rfl⟩:=e0;obtain⟨a,vs,h1,h2,h3,h4⟩:=aT S1 (.ob t) g;cases h1;refine .inl ⟨_,vs,rfl,aZ.of h3,k _ H1 ι1 S1 X1 fun ι2 H2 M2 x2 S2 ok=>?_⟩;have ok':M2[_]?=some (MO.lst ds):=ok;obtain⟨a2,Md,g1,g2,g3,g4⟩:=aT S2 (.ob (x2.pre _ _ h2)) ok';cases g1;refine⟨fun i d hd=>?_,⟨Md,aZ.of g3,yQ (g4.length.symm)⟩⟩;obtain⟨v,hv,rv⟩:=g4.get hd;exact⟨⟨_,v,aZ.of g3,hv⟩,fun x' H' y=>⟨y.1,by have:=y.2 _ (aZ.of g3);rw[hv]at this;cases this;exact rv⟩⟩
 |_=>exact(ah e).elim
theorem FF{K:Q_}{ι:List kw}{H:Hp}{lo hi:Int}:Po K ι H ⟨none,fM lo hi⟩ (GU lo (hi-lo).toNat):=fun ι2 H2 M2 x2 S2 _=>by
 refine⟨fun i d hd=>?_,?_⟩
 ·unfold fM at hd
  rw[zw]at hd;cases hc:(List.range (hi-lo).toNat)[i]? with
  |none=>rw[hc]at hd;cases hd
  |some c =>
   rw[hc]at hd;cases hd;obtain⟨h1,h2⟩:=zn.mp hc;rw[zZ]at h1;rw[wu]at h2;subst h2;refine⟨h1,fun x' H' y=>?_⟩;obtain⟨y1,rfl⟩:=y;exact⟨y1,.int _⟩
 ·show (hi-lo).toNat<=(fM lo hi).length
  unfold fM;rw[zz,zZ];exact zp _
theorem LI.rng1{K:Q_}{f:DE}(σ:St)(H:Hp)(R:It->Hp->Prop)(h:LI K (fun ρ=>do
  let x<-f ρ
  (match x with
  |.int i=>do need (small i);pure ⟨none,fM 0 i⟩
  |_=>Mo.stop)) σ H R):JL (ij (LE K f) oM) σ H R:=by
 obtain⟨ι,ρ,M,src,M',S,Rr,e,k⟩:=h;have e0:=aa e;clear e;obtain⟨x,M1,e1,e⟩:=e0;refine⟨ι,ρ,M,x,M1,S,Rr,e1,fun v H1 ι1 r1 S1 X1=>?_⟩;cases r1 with
 |int i =>
  have e0:=aa e;clear e;obtain⟨_,_,e2,e⟩:=e0;have bg:=aU e2;clear e2;obtain⟨hn,rfl⟩:=bg;have e0:=af e;clear e;obtain⟨rfl,rfl⟩:=e0;refine⟨i,rfl,hn.1,hn.2,k _ H1 ι1 S1 X1 ?_⟩
  have:=@FF K ι1 H1 0 i
  rw[Int.sub_zero]at this;exact this
 |_=>exact(ah e).elim
theorem LI.ue{K:Q_}{f g:DE}(σ:St)(H:Hp)(R:It->Hp->Prop)(h:LI K (fun ρ=>do
  let x<-f ρ
  let y<-g ρ
  (match x,y with
  |.int i,.int j=>do need (small i/\small j);pure ⟨none,fM i j⟩
  |_,_=>Mo.stop)) σ H R):JK (ij (LE K f) (ij (LE K g) oM)) σ H R:=by
 obtain⟨ι,ρ,M,src,M',S,Rr,e,k⟩:=h;have e0:=aa e;clear e;obtain⟨x,M1,e1,e⟩:=e0;have e0:=aa e;clear e;obtain⟨y,M2,e2,e⟩:=e0;refine⟨ι,ρ,M,x,M1,S,Rr,e1,fun v H1 ι1 r1 S1 X1=>?_⟩;refine⟨ι1,ρ,M1,y,M2,S1,Rr.mono X1,e2,fun u H2 ι2 r2 S2 X2=>?_⟩;cases r1 with
 |int i =>
  cases r2 with
  |int j =>
   have e0:=aa e;clear e;obtain⟨_,_,e2,e⟩:=e0;have bg:=aU e2;clear e2;obtain⟨hn,rfl⟩:=bg;have e0:=af e;clear e;obtain⟨rfl,rfl⟩:=e0;exact⟨i,j,rfl,⟨hn.1.1,hn.1.2,hn.2.1,hn.2.2⟩,k _ H2 ι2 S2 (X1.trans X2) FF⟩
  |_=>exact(ah e).elim
 |_=>exact(ah e).elim
theorem gX{ck:Option (Nat×List D)}{M M':MH}{u:Unit}(h:cR ck M=some (.ok u,M')):ou ck M/\M'=M:=by
 unfold cR at h;split at h
 ·rename_i hp;cases h;exact⟨hp,rfl⟩
 ·cases h
theorem LS.loop{K:Q_}{i:Nat}{fs:Ev->Mo Src}{fb:Ev->Mo Fl}(D:Ends)(σ:St)(H:Hp)(h:LS K (fun ρ=>do let s<-fs ρ;dU s.ck i fb s.ds ρ) D σ H):CB (LI K fs) (iu i) (LS K fb) D σ H:=by
 obtain⟨ι,ρ,M,fl,M',S,R,e,k⟩:=h;have e0:=aa e;clear e;obtain⟨src,M1,e1,e⟩:=e0;refine⟨ι,ρ,M,src,M1,S,R,e1,fun J H1 ι1 S1 X1 hJ=>?_⟩;refine⟨fun j m σ' H'=>m=src.ds.length-j/\j<=src.ds.length/\∃ι' ρ' M2,aJ K ι' M2 H'/\bY K ι' H' ρ' σ'/\Ext K ι1 H1 ι' H'/\dU src.ck i fb (src.ds.drop j) ρ' M2=some (.ok fl,M'),
  ⟨_,rfl,zM _,ι1,ρ,M1,S1,R.mono X1,Ext.refl,e⟩,?_⟩
 rintro j m σ' H' ⟨rfl,hj,ι',ρ',M2,S2,R2,X2,e2⟩;by_cases aS:j<src.ds.length
 ·right
  rw[ym aS]at e2;have bg:=aa e2;clear e2;obtain⟨_,_,e3,e2⟩:=bg;have cQ:=gX e3;clear e3;obtain⟨ok,rfl⟩:=cQ;have bg:=aa e2;clear e2;obtain⟨f,M3,e3,e2⟩:=bg;obtain⟨go,kF⟩:=(hJ ι' H' _ X2 S2 ok).1 j _ (zv aS);refine⟨go,fun σ3 H3=>∃ι3 ρ3 M4,aJ K ι3 M4 H3/\bY K ι3 H3 ρ3 σ3/\Ext K ι1 H1 ι3 H3/\dU src.ck i fb (src.ds.drop (j+1)) ρ3 M4=some (.ok fl,M'),
   fun σ3 H3 ⟨ι3,ρ3,M4,h1,h2,h3,h4⟩=>⟨src.ds.length-(j+1),by omega,rfl,aS,ι3,ρ3,M4,h1,h2,h3,h4⟩,fun x H'' y=>?_⟩
  obtain⟨rfl,rx⟩:=kF x H'' y;refine⟨ι',_,_,f,M3,S2,R2.set rx i,e3,fun H3 ι3 S3 X3=>?_⟩;cases f with
  |nx ρ3=>exact fun σ3 R3=>⟨ι3,ρ3,M3,S3,R3,X2.trans X3,e2⟩
  |ct ρ3=>exact fun σ3 R3=>⟨ι3,ρ3,M3,S3,R3,X2.trans X3,e2⟩
  |bk ρ3 =>
   have bg:=af e2;clear e2;obtain⟨rfl,rfl⟩:=bg;exact fun σ3 R3=>k H3 ι3 S3 ((X1.trans X2).trans X3) σ3 R3
  |rt v =>
   have bg:=af e2;clear e2;obtain⟨rfl,rfl⟩:=bg;exact fun v' r'=>k H3 ι3 S3 ((X1.trans X2).trans X3) v' r'
 ·left
  have ej:j=src.ds.length:=by first|lia|omega
  subst ej;rw[yB]at e2;have bg:=aa e2;clear e2;obtain⟨_,_,e3,e2⟩:=bg;have cQ:=gX e3;clear e3;obtain⟨ok,rfl⟩:=cQ;have bg:=af e2;clear e2;obtain⟨rfl,rfl⟩:=bg;exact⟨(hJ ι' H' _ X2 S2 ok).2,k H' ι' S2 (X1.trans X2) σ' R2⟩
theorem LE.comp{K:Q_}{j:Nat}{fs:Ev->Mo Src}{fc:Ev->Mo Bool}{fe:DE}(σ:St)(H:Hp)(Q:VK)(h:LE K (fun ρ=>do
  let s<-fs ρ
  need (s.ds.length<=zg)
  let ys<-eg s.ck fc fe (ρ.set j none) s.ds
  bI (.lst ys)) σ H Q):CC (LI K fs) (iu 0) 1 (LT K fc) (LE K fe) σ H Q:=by
 obtain⟨ι,ρ,M,d,M',S,R,e,k⟩:=h;have e0:=aa e;clear e;obtain⟨src,M1,e1,e⟩:=e0;have e0:=aa e;clear e;obtain⟨_,_,e2,e⟩:=e0;have bg:=aU e2;clear e2;obtain⟨hn,rfl⟩:=bg;have e0:=aa e;clear e;obtain⟨all,M2,e2,e⟩:=e0;refine⟨ι,ρ,M,src,_,S,R,e1,fun J H1 ι1 S1 X1 hJ=>?_⟩;refine⟨fun i m ys H'=>m=src.ds.length-i/\i<=src.ds.length/\ys.length<=i/\∃ι' ds rest M3,aJ K ι' M3 H'/\Ext K ι1 H1 ι' H'/\az K ι' H' ds ys/\eg src.ck fc fe (ρ.set j none) (src.ds.drop i) M3=some (.ok rest,M2)/\all=ds++rest,
  ⟨_,rfl,zM _,zp _,ι1,[],all,_,S1,Ext.refl,.nil,e2,rfl⟩,?_⟩
 rintro i m ys H' ⟨rfl,hi,hy,ι',ds,rest,M3,S3,X3,r3,e3,ea⟩;by_cases aS:i<src.ds.length
 ·right
  rw[ym aS]at e3;have cQ:=aa e3;clear e3;obtain⟨_,_,e4,e3⟩:=cQ;have fu:=gX e4;clear e4;obtain⟨ok,rfl⟩:=fu;have cQ:=aa e3;clear e3;obtain⟨b,M4,e4,e3⟩:=cQ;obtain⟨go,kF⟩:=(hJ ι' H' _ X3 S3 ok).1 i _ (zv aS);refine⟨go,by omega,fun v H'' os ho y=>?_⟩;obtain⟨rfl,rx⟩:=kF v H'' y;obtain⟨o1,rfl⟩:=List.length_eq_one_iff.mp ho;refine⟨[some v],rfl,rfl,?_⟩;have RR:bY K ι' H'' (some src.ds[i]::ρ.set j none) (some v::σ):=((R.mono X1).mono X3).comp rx j;refine⟨ι',_,_,b,M4,S3,RR,e4,fun H4 ι4 S4 X4=>?_⟩;cases b with
  |true =>
   rw[if_pos rfl]at e3 ⊢;have cQ:=aa e3;clear e3;obtain⟨y',M5,e5,e3⟩:=cQ;have cQ:=aa e3;clear e3;obtain⟨ys',M6,e6,e3⟩:=cQ;have cQ:=af e3;clear e3;obtain⟨rfl,rfl⟩:=cQ;refine⟨ι4,_,_,y',M5,S4,RR.mono X4,e5,fun v5 H5 ι5 r5 S5 X5=>?_⟩;exact⟨src.ds.length-(i+1),by omega,rfl,aS,by rw[zm];exact wb hy,ι5,ds++[y'],ys',M5,S5,(X3.trans X4).trans X5,((r3.mono X4).mono X5).append (.cons r5 .nil),e6,by rw[ea,yz];rfl⟩
  |false =>
   rw[if_neg zk]at e3 ⊢;exact⟨src.ds.length-(i+1),by omega,rfl,aS,vp hy,ι4,ds,rest,M4,S4,X3.trans X4,r3.mono X4,e3,ea⟩
 ·left
  have ei:i=src.ds.length:=by first|lia|omega
  subst ei;rw[yB]at e3;have cQ:=aa e3;clear e3;obtain⟨_,_,e4,e3⟩:=cQ;have fu:=gX e4;clear e4;obtain⟨ok,rfl⟩:=fu;have cQ:=af e3;clear e3;obtain⟨rfl,rfl⟩:=cQ;rw[zO]at ea;subst ea;refine⟨(hJ ι' H' _ X3 S3 ok).2,by omega,hU S3 r3 e fun v H5 ι5 r5 S5 X5=>k v H5 ι5 r5 S5 ((X1.trans X3).trans X5)⟩
end
end L3
namespace L3
open PySem PySem.Spec PyProof.Rows L2
section
variable {X:Cx}{Zz:List (kw×Obj)}{σ:St}{H:Hp}{s:kt}{h':Heap}
structure tm (X:Cx) (Zz:List (kw×Obj)) (a:kw):Prop where
 lo:X.s₀.heap.objs.size<=a
 fr:a≠X.env.locals
 cl:∀y c,X.env.cells.lookup y=some c->c≠a
 pn:∀p∈X.pn++Zz,p.1≠a
theorem tE(I:Inv X Zz σ H s){a:kw}(h:s.heap.objs.size<=a):tm X Zz a:=by
 refine⟨zP I.sz h,yO (zB I.lt h),fun y c e z=>?_,fun p hp z=>?_⟩
 ·obtain⟨v,o,ho,_⟩:=I.cell y c e
  exact absurd (zB (zf ho) (by rw[z];exact h)) (yD _)
 ·exact absurd (zB (zf (I.pin p hp).1) (by rw[z];exact h)) (yD _)
theorem rY(I:Inv X Zz σ H s){a:kw}{o:HO}(hn:H a=none)(y:tm X Zz a)(new:b9 X.prog X.w (upd H a o) s.heap a o):Inv X Zz σ (upd H a o) s where
 ok:=I.ok
 os:=I.os
 bare:=I.bare
 base:=Un.adopt I.base (yR y.lo) hn
 loc:=I.loc
 cell:=I.cell
 free:=by rw[aL (Ne.symm y.fr)];exact I.free
 dF:=fun x c e=>by rw[aL (y.cl x c e)];exact I.dF x c e
 pin:=fun p hp=>by
  obtain⟨h1,h2,h3⟩:=I.pin p hp;exact⟨h1,by rw[aL (y.pn p hp)];exact h2,h3⟩
 ax:=cA.adopt I.ax hn new
 len:=I.len
theorem A3{t':Nat}{a b:kw}(I:Inv X Zz σ H s)(k:∀c o,c≠a->c≠b->s.heap.get? c=some o->h'.get? c=some o)(fa:iU X Zz H a)(fb:iU X Zz H b):Inv X Zz σ H { s with heap:=h',toks:=t' }:=by
 obtain⟨a0,a1,_,a3,a4,a5⟩:=fa;obtain⟨b0,b1,_,b3,b4,b5⟩:=fb;have na:∀c u,H c=some u->c≠a:=fun c u e z=>by rw[z,a0]at e;cases e
 have nb:∀c u,H c=some u->c≠b:=fun c u e z=>by rw[z,b0]at e;cases e
 have k':∀c o,c ∉ [a,b]->s.heap.get? c=some o->h'.get? c=some o:=fun c o hc e=>k c o (fun z=>hc (by simp[z])) (fun z=>hc (by simp[z])) e;refine I.step (g':=s.gens) (d':=s.drawn) (ch:=[a,b]) (fun c hc=>?_) (fun c o _ _ hc e _=>k' c o hc e) (fun c o _ _ hc e _=>⟨o.slots,k' c o hc e⟩) (fun _ _ _ _ n=>n)
  (fun c o hc e=>⟨o,k' c o hc e⟩) (fun _ _ e=>e) (fun _ _ _ e=>e) (fun c ps e=>⟨#[],by rw[e];simp⟩) (fun m hm=>?_) (fun c u e=>?_) I.bare
 ·rcases zc.mp hc with rfl|hc
  ·exact⟨a3,a1,a4,a5⟩
  ·rw[zA.mp hc]
   exact⟨b3,b1,b4,b5⟩
 ·obtain⟨o,es,ep,ho,r⟩:=hm
  exact⟨o,es,ep,k _ o (Ne.symm a1) (Ne.symm b1) ho,r⟩
 ·refine(I.ax c u e).lD (fun d v hd q=>?_) (fun _ q=>q) fun _ _ q=>q
  rcases hd with z|z
  ·exact k d v (by rw[z];exact na c u e) (by rw[z];exact nb c u e) q
  ·exact k d v (na d _ z) (nb d _ z) q
end
noncomputable def Pn(K:Q_)(a:kw):It :=
 ⟨fun i H=>∃xs x,aZ K H a xs/\xs[i]?=some x,fun i H x H'=>∃p v,x=.ref p/\H p=none/\H'=upd H p (.tup [.int i,v])/\∀xs,aZ K H a xs->xs[i]?=some v,fun i H=>∃xs,aZ K H a xs/\xs.length<=i⟩
theorem EA{P:ul}{w:ut}{K:Q_}{es:List Expr}{x1:Nat}{pos:Pos}(a e it:kw)(ne:e≠it):Turn P w K (.Tuple es x1 pos) (Pn K a) [e,it] e (fun i h=>(∃old,IsEnum h e it i old)/\h.IsListIter it a i) where
 mem:=by simp
 obj:=fun i h st b hb=>by
  obtain⟨⟨old,he⟩,o,h1,c,d⟩:=st;rcases zc.mp hb with rfl|hb
  ·exact⟨_,he,fun v z=>by cases z⟩
  ·rw[zA.mp hb]
   exact⟨o,h1,fun v z=>by rw[d]at z;cases z⟩
 keep:=fun i h h' st k=>by
  obtain⟨⟨old,he⟩,hi⟩:=st;exact⟨⟨old,k e (by simp) _ he⟩,hi.at fun o q=>k it (by simp) o q⟩
 item:=by
  intro X hP hw hK hc i Zz s σ H E I hf st hg;subst hP hw hK;obtain⟨⟨old,he⟩,hi⟩:=st;obtain⟨xs,x,hq,hx⟩:=hg;obtain⟨its,rv,p,hz⟩:=I.list hq;obtain⟨u,hu,ru⟩:=rv.get hx;have fe:=hf e (by simp);have fi:=hf it (by simp);refine wpAny_pyNext_enum_item he hi p.isList (x:=u) (by simpa using hu) ne fun h1 ho WC ht la hk=>?_;refine⟨_,rfl,wpAny_letOwnedTupleGo_enum (s:={ s with heap:=h1,toks:=s.toks+1 }) ho fun h2 BN sb=>?_⟩;have sb:Heap.SameBut e h1 h2:=sb;have Fu:e<s.heap.objs.size:=zf he;have keep:∀c o,c≠e->c≠it->s.heap.get? c=some o->h2.get? c=some o:=fun c o n1 n2 q=>(sb.2 c n1).trans (hk c o n1 n2 q);have I1:Inv X Zz σ H { s with heap:=h2,toks:=s.toks+1 }:=A3 I keep fe fi;have fr:H s.heap.objs.size=none:=I.ax.fresh (zp _);have FP:h2.get? s.heap.objs.size=some { cls:=.type "tuple",data:=.seq #[.int i s.toks,u] }:=(sb.2 _ (yO Fu)).trans ht;have y:tm X Zz s.heap.objs.size:=tE I (zp _);have I2:Inv X Zz σ (upd H s.heap.objs.size (.tup [.int i,x])) { s with heap:=h2,toks:=s.toks+1 } :=
   rY I1 fr y ⟨by show 2<=zg;decide,[.int i s.toks,u],.cons ⟨_,rfl⟩ (.cons ru .nil),⟨⟨_,FP,rfl,0,rfl⟩,fun o q=>by rw[FP]at q;cases q;exact⟨rfl,rfl⟩⟩⟩
  refine⟨.ref s.heap.objs.size,_,I2,rfl,⟨_,x,rfl,fr,rfl,fun ys hy=>by rw[I.uQ hy hq];exact hx⟩,⟨⟨u,?_⟩,?_⟩,fun b hb=>?_⟩
  ·have:((i+1:Nat):Int)=(i:Int)+1:=by first|lia|omega
   rw[this];exact BN
  ·exact WC.extBut sb.extBut (Ne.symm ne)
  ·have lb:H b=none:=(hf b hb).1
   rcases zc.mp hb with rfl|hb
   ·rw[aL (zd Fu)];exact lb
   ·have eb:=zA.mp hb
    subst eb;obtain⟨o,h3,_⟩:=hi;rw[aL (zd (zf h3))];exact lb
 done:=by
  intro X hP hw hK hc i Zz s σ H E I hf st hg;subst hP hw hK;obtain⟨⟨old,he⟩,hi⟩:=st;obtain⟨xs,hq,hx⟩:=hg;obtain⟨its,rv,p,hz⟩:=I.list hq;obtain⟨f0,f1,f2,f3,f4,f5⟩:=hf it (by simp);have hl:=rv.length;exact wpAny_pyNext_enum_end (I.ok.hd hc) he hi p.isList (by simp;omega) fun h' eb=>⟨rfl,I.turned (t':=s.toks) (fun b o hb e=>eb b o hb e) f0 f1 f3 f4 f5⟩
 self:=fun _ _ _ _ _ st h=>by
  obtain⟨⟨old,he⟩,hi⟩:=st;exact wpAny_pyIter_enum he h
section
variable {prog:ul}{w:ut}{A:Zx}{E:jp->kt->Prop}{s:kt}
theorem og{it t:kw}{i:Nat}{items:Array jp}{x:jp}{Q:jp->kt->Prop}(hit:IsTupIter s.heap it t i)(ht:IsTup s.heap t items)(hx:items[i]?=some x)
  (hQ:∀h',IsTupIter h' it t (i+1)->Heap.SameBut it s.heap h'->Q x { s with heap:=h' }):wpAny (model prog w) A (Builtin.SmallTypes.nextOf (.ref it)) Q E s:=by
 obtain⟨o,ho,hc,hd⟩:=id hit;obtain⟨ol,sd,_,nl,BO⟩:=ht;unfold Builtin.SmallTypes.nextOf;refine zy (wpAny_callSpecial?_slot (name:=Str.ofString "__next__") hit.typeIs slot_tupleiter_next (wpAny_call_entry slot_tupleiter_next hit.typeIs entry_tupleiter_next ?_ (args_tupleiter_next _)));show wpAny _ _ (field (.ref it) 0 >>= _) _ _ s;refine zy (wpAny_field ho hd (x:=.ref t) rfl ?_);show wpAny _ _ (if (Value.ref t==Value.none)=true then _ else _) _ _ s;rw[if_neg (show ¬ ((Value.ref t==Value.none)=true) from zk)];show wpAny _ _ (field (.ref it) 1 >>= _) _ _ s;refine zy (wpAny_field ho hd (x:=.int i 0) rfl ?_);show wpAny _ _ (seqItems? (.ref t) >>= _) _ _ s;refine zy (wpAny_seqItems sd BO ?_);simp only[zV,hx];refine zy (wpAny_setField ho hd (by simp) (zt ⟨x,rfl,zt (hQ _ ?_ (Heap.SameBut.update ..))⟩));exact⟨_,yu _ ho (Obj.isFreed_of_fields (Obj.data_mapFields hd _)),(Obj.cls_mapFields ..).trans hc,by rw[Obj.data_mapFields hd];simp[rawInt]⟩
theorem jH{it t:kw}{i:Nat}{items:Array jp}{Q:jp->kt->Prop}(hh:A.handled=none)(hit:IsTupIter s.heap it t i)(ht:IsTup s.heap t items)(hx:items[i]?=none)
  (hE:∀h' e,Heap.ExtBut it s.heap h'->(∃o,h'.get? e=some o/\o.cls=.type "StopIteration")->E (.ref e) { s with heap:=h' }):wpAny (model prog w) A (Builtin.SmallTypes.nextOf (.ref it)) Q E s:=by
 obtain⟨o,ho,hc,hd⟩:=id hit;obtain⟨ol,sd,_,nl,BO⟩:=ht;unfold Builtin.SmallTypes.nextOf;refine zy (wpAny_callSpecial?_slot (name:=Str.ofString "__next__") hit.typeIs slot_tupleiter_next (wpAny_call_entry slot_tupleiter_next hit.typeIs entry_tupleiter_next ?_ (args_tupleiter_next _)));show wpAny _ _ (field (.ref it) 0 >>= _) _ _ s;refine zy (wpAny_field ho hd (x:=.ref t) rfl ?_);show wpAny _ _ (if (Value.ref t==Value.none)=true then _ else _) _ _ s;rw[if_neg (show ¬ ((Value.ref t==Value.none)=true) from zk)];show wpAny _ _ (field (.ref it) 1 >>= _) _ _ s;refine zy (wpAny_field ho hd (x:=.int i 0) rfl ?_);show wpAny _ _ (seqItems? (.ref t) >>= _) _ _ s;refine zy (wpAny_seqItems sd BO ?_);simp only[zV,hx];refine zy (wpAny_rule (zy (wpAny_setField ho hd (by simp) ?_)));show wpAny _ _ (newExc (.type "StopIteration") [] >>= _) _ _ _;refine zy ?_;simp only[newExc,newTuple];refine zy (wpAny_newObj_type ?_ (by size_fits));refine zy (m:=firstArgMember _ _) (wpAny_of_eq (a:=Value.none) (by first|rfl|(simp only[firstArgMember];rfl)) ?_)
 refine wpAny_newObj_type ?_ (by size_fits);simp only[raiseNew];refine zy (wpAny_handled ?_);first|rw[show A.in1.handled=none from hh]|rw[hh]
 refine zy (zt (wpAny_throw ?_));exact hE _ _ (((Heap.SameBut.update ..).extBut.push _).push _) ⟨_,zC _ rfl,rfl⟩
theorem Gw(hh:A.handled=none)(it t:kw)(b6:t≠it)(items:Array jp):Draws prog w A it [it,t] items.size (fun i v=>items[i]?=some v) (fun i h=>IsTupIter h it t i/\IsTup h t items) where
 live:=fun _ _ st=>let ⟨o,ho,_⟩:=st.1;⟨o,ho⟩
 frame:=fun _ _ _ st hk=>⟨let ⟨o,ho,r⟩:=st.1;⟨o,hk it (by simp) _ ho,r⟩,let ⟨o,ho,r⟩:=st.2;⟨o,hk t (by simp) _ ho,r⟩⟩
 item:=fun i s Q E hi st hQ=>by
  refine og st.1 st.2 (x:=items[i]) (by simp[hi]) fun h' hit' hs'=>?_;exact hQ _ h' s.toks (by simp[hi]) ⟨hit',let ⟨o,ho,r⟩:=st.2;⟨o,hs'.extBut t o b6 ho,r⟩⟩ hs'
 done:=fun s Q E st hE=>jH hh st.1 st.2 (by simp) hE
end
section
variable {prog:ul}{w:ut}{A:Zx}{E:jp->kt->Prop}{s:kt}
theorem Gq{e it t:kw}{i:Nat}{items:Array jp}{old:jp}{Q:Option jp->kt->Prop}(hh:A.handled=none)(he:IsEnum s.heap e it i old)(hit:IsTupIter s.heap it t i)(ht:IsTup s.heap t items)(hx:items[i]?=none)
  (hQ:∀h',Heap.ExtBut it s.heap h'->Q none { s with heap:=h' }):wpAny (model prog w) A (pyNext (.ref e)) Q E s:=by
 have hT:s.TypeIs (.ref e) "enumerate":=⟨_,he,rfl⟩;unfold pyNext;refine zy (wpAny_attempt (wpAny_callSpecial?_slot (name:=Str.ofString "__next__") hT F.slot_enumerate_next (wpAny_call_entry F.slot_enumerate_next hT F.entry_enumerate_next ?_ (F.args_enumerate_next_1 _))));show wpAny _ _ (field (.ref e) 2 >>= _) _ _ _;refine zy (wpAny_field he rfl (x:=.ref it) rfl ?_);refine zy (jH hh hit ht hx fun h' x he' hx'=>?_);obtain⟨o,ho,hc⟩:=hx';refine zy (wpAny_isInstance (T:="StopIteration") (b:=true) ⟨o,ho,hc⟩ isSubtype_stop ?_);exact zt (hQ _ he')
theorem pU(l:kw)(items:Array jp)(n:Nat)(Gy:Option kw)(sl:Array (Option jp)) :
  Meets (Builtin.«enumerate.__new__» ⟨[.type "enumerate",.ref l],[]⟩) (fun _ R s=>s.heap.get? l=some { cls:=.type "tuple",dict:=Gy,data:=.seq items n,slots:=sl } /\
   R (.ok (.ret (.ref (s.heap.push { cls:=.type "tuple_iterator",data:=.fields #[.ref l,.int 0 0] }).objs.size)))
    { s with heap:=(s.heap.push { cls:=.type "tuple_iterator",data:=.fields #[.ref l,.int 0 0] }).push { cls:=.type "enumerate",data:=.fields #[.none,.bool false,.ref s.heap.objs.size,rawInt 0,.none,.none] } }) :=
 .of_wp fun prog w A R s h=>by
  obtain⟨hp,g,d,tk,os⟩:=s;obtain⟨hl,h⟩:=h;have mP:=sub_enumerate;have hL:IsTup (Shared.heap ⟨hp,g,d,tk,os⟩) l items:=⟨_,hl,rfl,n,rfl⟩;wp_walk using AutoSeq1.wpAny_loadPart' hl;refine wpAny_stack_any fun st=>zt ?_;split
  ·rename_i c _ _ _ _ _
   cases (c==Value.type "enumerate")
   ·wp_walk using AutoSeq1.wpAny_loadPart' hl,iter_tuple hL
    exact⟨_,rfl,h⟩
   ·wp_walk using AutoSeq1.wpAny_loadPart' hl,iter_tuple hL
    exact⟨_,rfl,h⟩
  ·wp_walk using AutoSeq1.wpAny_loadPart' hl,iter_tuple hL
   exact⟨_,rfl,h⟩
theorem m9{l:kw}{items:Array jp}{Q:jp->kt->Prop}(hL:IsTup s.heap l items)
  (h:∀h',IsEnum h' (s.heap.objs.size+1) s.heap.objs.size 0 .none->IsTupIter h' s.heap.objs.size l 0->h'.objs.size=s.heap.objs.size+2->(∀b o,s.heap.get? b=some o->h'.get? b=some o)->Q (.ref (s.heap.objs.size+1)) { s with heap:=h' }) :
  wpAny (model prog w) A (call (.type "enumerate") [.ref l]) Q E s:=by
 obtain⟨⟨c,Gy,dt,sl⟩,hl,hc,n,hd⟩:=hL;replace hc:c=.type "tuple":=hc;replace hd:dt=.seq items n:=hd;subst hc hd;refine callType_new F.called_enumerate (by decide) (F.typeCall_enumerate_1 _) (F.newCall_enumerate_1 _) (fun obj=>F.args_object_init_2 obj _) F.entry_enumerate_new (pU l items n Gy sl) ⟨hl,?_⟩;have hz:(s.heap.push { cls:=.type "tuple_iterator",data:=.fields #[.ref l,.int 0 0] }).objs.size=s.heap.objs.size+1:=xg ..;show _/\_;rw[hz];have he:IsEnum ((s.heap.push { cls:=.type "tuple_iterator",data:=.fields #[.ref l,.int 0 0] }).push { cls:=.type "enumerate",data:=.fields #[.none,.bool false,.ref s.heap.objs.size,rawInt 0,.none,.none] }) (s.heap.objs.size+1) s.heap.objs.size 0 .none:=by
  have:=zC (s.heap.push { cls:=.type "tuple_iterator",data:=.fields #[.ref l,.int 0 0] }) (o:={ cls:=.type "enumerate",data:=.fields #[.none,.bool false,.ref s.heap.objs.size,rawInt 0,.none,.none] }) rfl
  rw[hz]at this;exact this
 refine⟨⟨_,he,rfl⟩,h _ he ⟨_,zq _ (zC _ rfl),rfl,rfl⟩ (by rw[xg,hz]) fun b o x=>zq _ (zq _ x)⟩
end
noncomputable def Pm(K:Q_)(a:kw):It :=
 ⟨fun i H=>∃xs x,de K H a xs/\xs[i]?=some x,fun i H x H'=>∃p v,x=.ref p/\H p=none/\H'=upd H p (.tup [.int i,v])/\∀xs,de K H a xs->xs[i]?=some v,fun i H=>∃xs,de K H a xs/\xs.length<=i⟩
theorem Cs{P:ul}{w:ut}{K:Q_}{es:List Expr}{x1:Nat}{pos:Pos}(a e it:kw)(ne:e≠it):Turn P w K (.Tuple es x1 pos) (Pm K a) [e,it] e (fun i h=>(∃old,IsEnum h e it i old)/\IsTupIter h it a i) where
 mem:=by simp
 obj:=fun i h st b hb=>by
  obtain⟨⟨old,he⟩,o,h1,c,d⟩:=st;rcases zc.mp hb with rfl|hb
  ·exact⟨_,he,fun v z=>by cases z⟩
  ·rw[zA.mp hb]
   exact⟨o,h1,fun v z=>by rw[d]at z;cases z⟩
 keep:=fun i h h' st k=>by
  obtain⟨⟨old,he⟩,o,ho,r⟩:=st;exact⟨⟨old,k e (by simp) _ he⟩,o,k it (by simp) _ ho,r⟩
 item:=by
  intro X hP hw hK hc i Zz s σ H E I hf st hg;subst hP hw hK;obtain⟨⟨old,he⟩,hi⟩:=st;obtain⟨xs,x,hq,hx⟩:=hg;obtain⟨its,rv,p,hz⟩:=I.tuple hq;obtain⟨u,hu,ru⟩:=rv.get hx;have fe:=hf e (by simp);have fi:=hf it (by simp);obtain⟨oi,RB,WI,_⟩:=id hi;obtain⟨op,N7,Ow,_⟩:=id p;have na:a≠it:=fun z=>by
   rw[z,RB]at N7;cases N7;rw[WI]at Ow;exact absurd Ow (by decide)
  have VP:e≠a:=fun z=>by
   have he':s.heap.get? e=some _:=he;rw[z,N7]at he';cases he';exact absurd Ow (show ¬ (Value.type "enumerate" = Value.type "tuple") by decide)
  have aS:i<its.toArray.size:=by rw[ze];exact(zn.mp hu).1
  refine wpAny_pyNext_enum_itemD (Gw (A:=X.A.in1) (I.ok.hd hc) it a na its.toArray) he ⟨hi,p⟩ aS ne (by simp[ne,VP]) fun u' h1 tk hp ho hst ht la hk=>?_;have eu:u'=u:=by
   have:its.toArray[i]?=some u:=by simpa using hu
   rw[this]at hp;cases hp;rfl
  subst eu;refine⟨_,rfl,wpAny_letOwnedTupleGo_enum (s:={ s with heap:=h1,toks:=tk+1 }) ho fun h2 BN sb=>?_⟩;have sb:Heap.SameBut e h1 h2:=sb;have Fu:e<s.heap.objs.size:=zf he;have keep:∀c o,c≠e->c≠it->s.heap.get? c=some o->h2.get? c=some o:=fun c o n1 n2 q=>(sb.2 c n1).trans (hk c o n1 n2 q);have I1:Inv X Zz σ H { s with heap:=h2,toks:=tk+1 }:=A3 I keep fe fi;have fr:H s.heap.objs.size=none:=I.ax.fresh (zp _);have FP:h2.get? s.heap.objs.size=some { cls:=.type "tuple",data:=.seq #[.int i tk,u'] }:=(sb.2 _ (yO Fu)).trans ht;have y:tm X Zz s.heap.objs.size:=tE I (zp _);have I2:Inv X Zz σ (upd H s.heap.objs.size (.tup [.int i,x])) { s with heap:=h2,toks:=tk+1 } :=
   rY I1 fr y ⟨by show 2<=zg;decide,[.int i tk,u'],.cons ⟨_,rfl⟩ (.cons ru .nil),⟨⟨_,FP,rfl,0,rfl⟩,fun o q=>by rw[FP]at q;cases q;exact⟨rfl,rfl⟩⟩⟩
  refine⟨.ref s.heap.objs.size,_,I2,rfl,⟨_,x,rfl,fr,rfl,fun ys hy=>by rw[I.mx hy hq];exact hx⟩,⟨⟨u',?_⟩,?_⟩,fun b hb=>?_⟩
  ·have:((i+1:Nat):Int)=(i:Int)+1:=by first|lia|omega
   rw[this];exact BN
  ·exact hst.1.extBut sb.extBut (Ne.symm ne)
  ·have lb:H b=none:=(hf b hb).1
   rcases zc.mp hb with rfl|hb
   ·rw[aL (zd Fu)];exact lb
   ·have eb:=zA.mp hb
    subst eb;rw[aL (zd (zf RB))];exact lb
 done:=by
  intro X hP hw hK hc i Zz s σ H E I hf st hg;subst hP hw hK;obtain⟨⟨old,he⟩,hi⟩:=st;obtain⟨xs,hq,hx⟩:=hg;obtain⟨its,rv,p,hz⟩:=I.tuple hq;obtain⟨f0,f1,f2,f3,f4,f5⟩:=hf it (by simp);have hl:=rv.length;exact Gq (I.ok.hd hc) he hi p (by simp;omega) fun h' eb=>⟨rfl,I.turned (t':=s.toks) (fun b o hb e=>eb b o hb e) f0 f1 f3 f4 f5⟩
 self:=fun _ _ _ _ _ st h=>by
  obtain⟨⟨old,he⟩,hi⟩:=st;exact wpAny_pyIter_enum he h
noncomputable def JM(K:Q_)(ta:TA):TI:=fun σ H R=>ta σ H fun vs H1=>∃a,vs=[.ref a]/\(((∃xs,aZ K H1 a xs)/\R (Pn K a) H1)\/((∃xs,de K H1 a xs)/\R (Pm K a) H1))
theorem Lg{X:Cx}{es:List Expr}{x1:Nat}{tp:Pos}{a:Expr}{ta:TA}{p pos:Pos}(hg:Gl X "enumerate")(hm:X.mg "enumerate" = none)(ha:PA X [a] ta)(hs:starEach [a] X.env=[(false,eval a X.env)]:=by rfl):PI X (.Tuple es x1 tp) (.Call (.Name "enumerate" p) [a] [] pos) (JM X.K ta):=by
 intro Zz s σ H R I h;refine Call_ (k7 I hg hm boot_enumerate (X_ (aQ (ha pos Zz s σ H _ I h) fun us s1 ⟨vs,H1,I1,r1,q1⟩=>?_) hs rfl));obtain⟨l,e,q⟩:=q1;subst e;cases r1 with
 |cons r rr =>
  cases rr;cases r;rcases q with ⟨⟨xs,hq⟩,q⟩|⟨⟨xs,hq⟩,q⟩
  rotate_left
  ·obtain⟨its,rv,pl,hz⟩:=I1.tuple hq
   refine m9 pl fun h' he hi hsz hk=>?_;have I2:Inv X Zz σ H1 { s1 with heap:=h' }:=I1.kept (t':=s1.toks) hk;refine wpAny_pyIter_enum (s:={ s1 with heap:=h' }) he ?_;refine⟨s1.heap.objs.size+1,[s1.heap.objs.size+1,s1.heap.objs.size],_,_,H1,rfl,I2,Cs l _ _ (xT _),⟨⟨_,he⟩,hi⟩,fun b hb=>?_,q⟩;rcases zc.mp hb with rfl|hb
   ·exact I1.lR (xo _) (I1.ax.fresh (xo _))
   ·rw[zA.mp hb]
    exact I1.lR (zp _) (I1.ax.fresh (zp _))
  obtain⟨its,rv,pl,hz⟩:=I1.list hq;refine call_enumerate_list pl.isList fun h' he hi hsz hk=>?_;have I2:Inv X Zz σ H1 { s1 with heap:=h' }:=I1.kept (t':=s1.toks) hk;refine wpAny_pyIter_enum (s:={ s1 with heap:=h' }) he ?_;refine⟨s1.heap.objs.size+1,[s1.heap.objs.size+1,s1.heap.objs.size],_,_,H1,rfl,I2,EA l _ _ (xT _),⟨⟨_,he⟩,hi⟩,fun b hb=>?_,q⟩;rcases zc.mp hb with rfl|hb
  ·exact I1.lR (xo _) (I1.ax.fresh (xo _))
  ·rw[zA.mp hb]
   exact I1.lR (zp _) (I1.ax.fresh (zp _))
noncomputable def Kk(K:Q_)(ι:List kw)(H:Hp)(src:Src)(J:It):Prop:=∀(ι2:List kw) (H2:Hp) (M2:MH),Ext K ι H ι2 H2->aJ K ι2 M2 H2->ou src.ck M2 ->
 (∀(i:Nat) (d:D),src.ds[i]?=some d->J.go i H2/\∀x H',J.kF i H2 x H'->aJ K ι2 M2 H'/\Ext K ι2 H2 ι2 H'/\Rep K ι2 H' d x)/\J.stop src.ds.length H2
noncomputable def oI(K:Q_)(f:Ev->Mo Src):TI:=fun σ H R=>∃ι ρ M src M',aJ K ι M H/\bY K ι H ρ σ/\f ρ M=some (.ok src,M') /\
 ∀J H' ι',aJ K ι' M' H'->Ext K ι H ι' H'->Kk K ι' H' src J->R J H'
theorem oI.to{K:Q_}{f:Ev->Mo Src}(σ:St)(H:Hp)(R:It->Hp->Prop)(h:oI K f σ H R):LI K f σ H R:=by
 obtain⟨ι,ρ,M,src,M',S,Rr,e,k⟩:=h;refine⟨ι,ρ,M,src,M',S,Rr,e,fun J H' ι' S' X' ok=>k J H' ι' S' X' fun ι2 H2 M2 x2 S2 hk=>?_⟩;obtain⟨h1,h2⟩:=ok ι2 H2 M2 x2 S2 hk;refine⟨fun i d hd=>?_,h2⟩;obtain⟨go,y⟩:=h1 i d hd;refine⟨go,fun x H'' hy=>?_⟩;obtain⟨rfl,r⟩:=y x H'' hy;exact⟨S2,Ext.refl,r⟩
theorem z7{ds:List D}{i:Nat}{d:D}(h:(fC ds)[i]?=some d):∃x,ds[i]?=some x/\d=.tup [.int i,x]:=by
 unfold fC at h;rw[wK]at h;obtain⟨x,h1,h2⟩:=zu.mp h;exact⟨x,h1,h2.symm⟩
theorem z6{ds:List D}:(fC ds).length=ds.length:=wU
theorem oI.enum{K:Q_}{f:DE}(σ:St)(H:Hp)(R:It->Hp->Prop)(h:oI K (fun ρ=>do let x<-f ρ;nU x) σ H R):JM K (ij (LE K f) oM) σ H R:=by
 obtain⟨ι,ρ,M,src,M',S,Rr,e,k⟩:=h;have e0:=aa e;clear e;obtain⟨x,M1,e1,e⟩:=e0;refine⟨ι,ρ,M,x,M1,S,Rr,e1,fun v H1 ι1 r1 S1 X1=>?_⟩;have key:∀{a:kw} {xs:List V} {ds:List D} {ck:Option (Nat×List D)},aZ K H1 a xs->(∀ι2 H2 M2,Ext K ι1 H1 ι2 H2->aJ K ι2 M2 H2->ou ck M2->∃ys,aZ K H2 a ys/\az K ι2 H2 ds ys)->Kk K ι1 H1 ⟨ck,fC ds⟩ (Pn K a):=by
  intro a xs ds ck hq hr ι2 H2 M2 x2 S2 ok;obtain⟨ys,hy,r⟩:=hr ι2 H2 M2 x2 S2 ok;refine⟨fun i d hd=>?_,⟨ys,hy,by rw[z6,r.length];exact zp _⟩⟩;obtain⟨x,hx,rfl⟩:=z7 hd;obtain⟨v,hv,rv⟩:=r.get hx;refine⟨⟨ys,v,hy,hv⟩,fun x' H' y=>?_⟩;obtain⟨p,v',rfl,hp,rfl,hz⟩:=y
  have:=hz ys hy
  rw[hv]at this;cases this;have X3:Ext K ι2 H2 ι2 (upd H2 p (.tup [.int i,v])):=Ext.fL hp;exact⟨S2.fL hp,X3,.tup bO (.cons (.int _) (.cons (rv.mono X3) .nil))⟩
 cases r1 with
 |fl t q =>
  have e0:=af e;clear e;obtain⟨rfl,rfl⟩:=e0;exact⟨_,rfl,.inl ⟨⟨_,t.seq⟩,k _ H1 ι1 S1 X1 (key t.seq fun ι2 H2 M2 x2 S2 _=>⟨_,(x2.fz _ _ t).seq,q.mono x2⟩)⟩⟩
 |tup t q =>
  have e0:=af e;clear e;obtain⟨rfl,rfl⟩:=e0;refine⟨_,rfl,.inr ⟨⟨_,cy t⟩,k _ H1 ι1 S1 X1 fun ι2 H2 M2 x2 S2 _=>?_⟩⟩;have hy:=cy (K:=K) (x2.tup _ _ t);have r:=q.mono x2;refine⟨fun i d hd=>?_,⟨_,hy,by rw[z6,r.length];exact zp _⟩⟩;obtain⟨x,hx,rfl⟩:=z7 hd;obtain⟨v,hv,rv⟩:=r.get hx;refine⟨⟨_,v,hy,hv⟩,fun x' H' y=>?_⟩;obtain⟨p,v',rfl,hp,rfl,hz⟩:=y
  have:=hz _ hy
  rw[hv]at this;cases this;have X3:Ext K ι2 H2 ι2 (upd H2 p (.tup [.int i,v])):=Ext.fL hp;exact⟨S2.fL hp,X3,.tup bO (.cons (.int _) (.cons (rv.mono X3) .nil))⟩
 |ob t =>
  have e0:=aa e;clear e;obtain⟨ds,M2,e2,e⟩:=e0;obtain⟨g,rfl⟩:=bR e2;have e0:=af e;clear e;obtain⟨rfl,rfl⟩:=e0;obtain⟨a,vs,h1,h2,h3,h4⟩:=aT S1 (.ob t) g;cases h1;refine⟨_,rfl,.inl ⟨⟨_,aZ.of h3⟩,k _ H1 ι1 S1 X1 (key (aZ.of h3) fun ι2 H2 M2 x2 S2 ok=>?_)⟩⟩;have ok':M2[_]?=some (MO.lst ds):=ok;obtain⟨a2,Md,g1,g2,g3,g4⟩:=aT S2 (.ob (x2.pre _ _ h2)) ok';cases g1;exact⟨_,aZ.of g3,g4⟩
 |_=>exact(ah e).elim
theorem HF{d:D}{p:D×D}(h:pairD d=some p):d=.tup [p.1,p.2]:=by
 unfold pairD at h;split at h
 ·cases h;rfl
 ·cases h
theorem LS.Qs{K:Q_}{i j:Nat}{fs:Ev->Mo Src}{fb:Ev->Mo Fl}(D:Ends)(σ:St)(H:Hp)(h:LS K (fun ρ=>do let s<-fs ρ;fv s.ck i j fb s.ds ρ) D σ H):CB (oI K fs) (OL K 2 (D2 (iu i) (D2 (iu j) OO))) (LS K fb) D σ H:=by
 obtain⟨ι,ρ,M,fl,M',S,R,e,k⟩:=h;have e0:=aa e;clear e;obtain⟨src,M1,e1,e⟩:=e0;refine⟨ι,ρ,M,src,M1,S,R,e1,fun J H1 ι1 S1 X1 hJ=>?_⟩;refine⟨fun n m σ' H'=>m=src.ds.length-n/\n<=src.ds.length/\∃ι' ρ' M2,aJ K ι' M2 H'/\bY K ι' H' ρ' σ'/\Ext K ι1 H1 ι' H'/\fv src.ck i j fb (src.ds.drop n) ρ' M2=some (.ok fl,M'),
  ⟨_,rfl,zM _,ι1,ρ,M1,S1,R.mono X1,Ext.refl,e⟩,?_⟩
 rintro n m σ' H' ⟨rfl,hj,ι',ρ',M2,S2,R2,X2,e2⟩;by_cases aS:n<src.ds.length
 ·right
  rw[ym aS]at e2;have bg:=aa e2;clear e2;obtain⟨_,_,e3,e2⟩:=bg;have cQ:=gX e3;clear e3;obtain⟨ok,rfl⟩:=cQ;have bg:=aa e2;clear e2;obtain⟨pr,_,e3,e2⟩:=bg;have cQ:=a8 e3;clear e3;obtain⟨Wi,rfl⟩:=cQ;have bg:=aa e2;clear e2;obtain⟨f,M3,e3,e2⟩:=bg;obtain⟨go,kF⟩:=(hJ ι' H' _ X2 S2 ok).1 n _ (zv aS);refine⟨go,fun σ3 H3=>∃ι3 ρ3 M4,aJ K ι3 M4 H3/\bY K ι3 H3 ρ3 σ3/\Ext K ι1 H1 ι3 H3/\fv src.ck i j fb (src.ds.drop (n+1)) ρ3 M4=some (.ok fl,M'),
   fun σ3 H3 ⟨ι3,ρ3,M4,h1,h2,h3,h4⟩=>⟨src.ds.length-(n+1),by omega,rfl,aS,ι3,ρ3,M4,h1,h2,h3,h4⟩,fun x H'' y=>?_⟩
  obtain⟨S5,X5,rx⟩:=kF x H'' y;rw[HF Wi]at rx;cases rx with
  |tup t q =>
   cases q with
   |cons q1 q2 =>
    cases q2 with
    |cons q2 q3 =>
     cases q3;refine⟨_,_,rfl,cy t,rfl,_,_,rfl,_,_,rfl,rfl,?_⟩;refine⟨ι',_,_,f,M3,S5,((R2.mono X5).set q1 i).set q2 j,e3,fun H3 ι3 S3 X3=>?_⟩;have X6:=X2.trans (X5.trans X3);cases f with
     |nx ρ3=>exact fun σ3 R3=>⟨ι3,ρ3,M3,S3,R3,X6,e2⟩
     |ct ρ3=>exact fun σ3 R3=>⟨ι3,ρ3,M3,S3,R3,X6,e2⟩
     |bk ρ3 =>
      have bg:=af e2;clear e2;obtain⟨rfl,rfl⟩:=bg;exact fun σ3 R3=>k H3 ι3 S3 (X1.trans X6) σ3 R3
     |rt v =>
      have bg:=af e2;clear e2;obtain⟨rfl,rfl⟩:=bg;exact fun v' r'=>k H3 ι3 S3 (X1.trans X6) v' r'
 ·left
  have ej:n=src.ds.length:=by first|lia|omega
  subst ej;rw[yB]at e2;have bg:=aa e2;clear e2;obtain⟨_,_,e3,e2⟩:=bg;have cQ:=gX e3;clear e3;obtain⟨ok,rfl⟩:=cQ;have bg:=af e2;clear e2;obtain⟨rfl,rfl⟩:=bg;exact⟨(hJ ι' H' _ X2 S2 ok).2,k H' ι' S2 (X1.trans X2) σ' R2⟩
end L3
namespace L3
open PySem PySem.Spec PyProof.Rows L2
structure Sound (Γ:Ctx) (n:Nat):Prop where
 E:∀(S:Sc) (X:Cx) (e:Expr) (i:IE),aN Γ S X->cE S n e=some i->PE X e (LE X.K (ae Γ i))
 Es:∀(S:Sc) (X:Cx) (es:List Expr) (i:eZ),aN Γ S X->mi S n es=some i->PA X es (LA X.K (bu Γ i))/\es.all bx=true
 O:∀(S:Sc) (X:Cx) (e:Option Expr) (i:nr),aN Γ S X->cO S n e=some i->PO X e (LO X.K (gY Γ i))
 T:∀(S:Sc) (X:Cx) (tg e:Expr) (i:IT),aN Γ S X->cT S n e=some i->PI X tg e (LI X.K (ed Γ i))/\∀x,foldedSetIterable e X.env x=pure x
 C:∀(S:Sc) (X:Cx) (e:Expr) (i:IC),aN Γ S X->cC S n e=some i->PT X e (LT X.K (a9 Γ i))
 Co:∀(S:Sc) (X:Cx) (e:List Expr) (i:oJ),aN Γ S X->GG S n e=some i->lz X e (LT X.K (i0 Γ i))
section
variable {Γ:Ctx}{n:Nat}{K:Q_}
inductive Xn {α β:Type} (o:Option α) (f:α->Option β) (b:β):Prop
 |mk (a:α) (e:o=some a) (h:f a=some b)
theorem aj{α β:Type}{o:Option α}{f:α->Option β}{b:β}(h:(o >>= f)=some b):Xn o f b:=by
 cases o with
 |none=>cases h
 |some a=>exact⟨a,rfl,h⟩
theorem Kv{ρ:Ev}{i:Nat}{M M':MH}{d:D}(e:mq ρ i M=some (.ok d,M')):ρ[i]?=some (some d)/\M'=M:=by
 unfold mq at e;cases q:ρ[i]? with
 |none=>rw[q]at e;exact(ah e).elim
 |some o =>
  cases o with
  |none=>rw[q]at e;exact(ah e).elim
  |some d'=>rw[q]at e;cases e;exact⟨rfl,rfl⟩
theorem LE.var{i:Nat}(σ:St)(H:Hp)(Q:VK)(h:LE K (ae Γ (.var i)) σ H Q):qv i σ H Q:=by
 obtain⟨ι,ρ,M,d,M',S,R,e,k⟩:=h;have e:mq ρ i M=some (.ok d,M'):=e;obtain⟨hd,rfl⟩:=Kv e;obtain⟨v,hv,rv⟩:=R.val i d hd;exact⟨v,hv,k v H ι rv S Ext.refl⟩
theorem LE.const{d:D}{v:V}(hv:∀ι H,Rep K ι H d v)(σ:St)(H:Hp)(Q:VK)(h:LE K (fun _=>pure d) σ H Q):tC v σ H Q:=by
 obtain⟨ι,ρ,M,d',M',S,R,e,k⟩:=h;have e0:=af e;clear e;obtain⟨rfl,rfl⟩:=e0;exact k v H ι (hv ι H) S Ext.refl
theorem LE.chain{op op':CmpOp}{fa fb fc:DE}(σ:St)(H:Hp)(Q:VK)(h:LE K (fun ρ=>do
  let x<-fa ρ
  let y<-fb ρ
  let k<-bJ op x y
  if k=true then do let z<-fc ρ;let k'<-bJ op' y z;pure (.bl k') else pure (.bl false)) σ H Q):tS (B8 K (v7 op)) (B8 K (v7 op')) (LE K fa) (LE K fb) (LE K fc) σ H Q:=by
 obtain⟨ι,ρ,M,d,M',S,R,e,k⟩:=h;have e0:=aa e;clear e;obtain⟨x,M1,e1,e⟩:=e0;have e0:=aa e;clear e;obtain⟨y,M2,e2,e⟩:=e0;have e0:=aa e;clear e;obtain⟨b,M3,e3,e⟩:=e0;refine⟨ι,ρ,M,x,M1,S,R,e1,fun v1 H1 ι1 r1 S1 X1=>?_⟩;refine⟨ι1,ρ,M1,y,M2,S1,R.mono X1,e2,fun v2 H2 ι2 r2 S2 X2=>?_⟩;refine⟨ι2,M2,M3,x,y,.bl b,S2,r1.mono X2,r2,by unfold v7;rw[hG e3];rfl,fun v3 H3 ι3 r3 S3 X3=>?_⟩;cases r3;refine⟨b,rfl,?_⟩;cases b with
 |true =>
  rw[if_pos rfl]at e ⊢;have e0:=aa e;clear e;obtain⟨z,M4,e4,e⟩:=e0;have e0:=aa e;clear e;obtain⟨b',M5,e5,e⟩:=e0;refine⟨ι3,ρ,M3,z,M4,S3,((R.mono X1).mono X2).mono X3,e4,fun v4 H4 ι4 r4 S4 X4=>?_⟩;have e0:=af e;clear e;obtain⟨rfl,rfl⟩:=e0;exact⟨ι4,M4,_,y,z,.bl b',S4,(r2.mono X3).mono X4,r4,by unfold v7;rw[hG e5];rfl,fun v5 H5 ι5 r5 S5 X5=>k v5 H5 ι5 r5 S5 ((((X1.trans X2).trans X3).trans X4).trans X5)⟩
 |false =>
  rw[if_neg zk]at e ⊢;have e0:=af e;clear e;obtain⟨rfl,rfl⟩:=e0;exact k _ H3 ι3 (.bl _) S3 ((X1.trans X2).trans X3)
theorem LE.and{fa fb:DE}(σ:St)(H:Hp)(Q:VK)(h:LE K (fun ρ=>do let x<-fa ρ;let k<-lift (bG x);if k=true then fb ρ else pure (.bl false)) σ H Q):Jh (LE K fa) (LE K fb) σ H Q:=by
 obtain⟨ι,ρ,M,d,M',S,R,e,k⟩:=h;have e0:=aa e;clear e;obtain⟨x,M1,e1,e⟩:=e0;have e0:=aa e;clear e;obtain⟨b,M2,e2,e⟩:=e0;have bg:=a8 e2;clear e2;obtain⟨hb,rfl⟩:=bg;refine⟨ι,ρ,M,x,_,S,R,e1,fun v1 H1 ι1 r1 S1 X1=>?_⟩;cases r1 <;> simp[bG]at hb;subst hb;refine⟨_,rfl,?_⟩;split at e
 ·rename_i hb
  rw[if_pos hb];exact⟨ι1,ρ,_,d,M',S1,R.mono X1,e,fun v H' ι' r' S' X'=>k v H' ι' r' S' (X1.trans X')⟩
 ·rename_i hb
  rw[if_neg hb];have e0:=af e;clear e;obtain⟨rfl,rfl⟩:=e0;exact k _ H1 ι1 (.bl _) S1 X1
theorem LE.or{fa fb:DE}(σ:St)(H:Hp)(Q:VK)(h:LE K (fun ρ=>do let x<-fa ρ;let k<-lift (bG x);if k=true then pure (.bl true) else fb ρ) σ H Q):Mn (LE K fa) (LE K fb) σ H Q:=by
 obtain⟨ι,ρ,M,d,M',S,R,e,k⟩:=h;have e0:=aa e;clear e;obtain⟨x,M1,e1,e⟩:=e0;have e0:=aa e;clear e;obtain⟨b,M2,e2,e⟩:=e0;have bg:=a8 e2;clear e2;obtain⟨hb,rfl⟩:=bg;refine⟨ι,ρ,M,x,_,S,R,e1,fun v1 H1 ι1 r1 S1 X1=>?_⟩;cases r1 <;> simp[bG]at hb;subst hb;refine⟨_,rfl,?_⟩;split at e
 ·rename_i hb
  rw[if_pos hb];have e0:=af e;clear e;obtain⟨rfl,rfl⟩:=e0;exact k _ H1 ι1 (.bl _) S1 X1
 ·rename_i hb
  rw[if_neg hb];exact⟨ι1,ρ,_,d,M',S1,R.mono X1,e,fun v H' ι' r' S' X'=>k v H' ι' r' S' (X1.trans X')⟩
theorem LE.not{fa:DE}(σ:St)(H:Hp)(Q:VK)(h:LE K (fun ρ=>do let x<-fa ρ;let k<-lift (bG x);pure (.bl (!k))) σ H Q):Jd (LE K fa) σ H Q:=by
 obtain⟨ι,ρ,M,d,M',S,R,e,k⟩:=h;have e0:=aa e;clear e;obtain⟨x,M1,e1,e⟩:=e0;have e0:=aa e;clear e;obtain⟨b,M2,e2,e⟩:=e0;have bg:=a8 e2;clear e2;obtain⟨hb,rfl⟩:=bg;have e0:=af e;clear e;obtain⟨rfl,rfl⟩:=e0;refine⟨ι,ρ,M,x,_,S,R,e1,fun v1 H1 ι1 r1 S1 X1=>?_⟩;cases r1 <;> simp[bG]at hb;subst hb;exact⟨_,rfl,k _ H1 ι1 (.bl _) S1 X1⟩
theorem LE.ite{fc:Ev->Mo Bool}{fa fb:DE}(σ:St)(H:Hp)(Q:VK)(h:LE K (fun ρ=>do let k<-fc ρ;if k=true then fa ρ else fb ρ) σ H Q):Q0 (LT K fc) (LE K fa) (LE K fb) σ H Q:=by
 obtain⟨ι,ρ,M,d,M',S,R,e,k⟩:=h;have e0:=aa e;clear e;obtain⟨b,M1,e1,e⟩:=e0;refine⟨ι,ρ,M,b,M1,S,R,e1,fun H1 ι1 S1 X1=>?_⟩;split at e
 ·rename_i hb
  rw[if_pos hb];exact⟨ι1,ρ,_,d,M',S1,R.mono X1,e,fun v H' ι' r' S' X'=>k v H' ι' r' S' (X1.trans X')⟩
 ·rename_i hb
  rw[if_neg hb];exact⟨ι1,ρ,_,d,M',S1,R.mono X1,e,fun v H' ι' r' S' X'=>k v H' ι' r' S' (X1.trans X')⟩
theorem LE.tup{fa:Ev->Mo (List D)}(σ:St)(H:Hp)(Q:VK)(h:LE K (fun ρ=>do let xs<-fa ρ;need (xs.length<=zg);pure (.tup xs)) σ H Q):Ml (LA K fa) σ H Q:=by
 obtain⟨ι,ρ,M,d,M',S,R,e,k⟩:=h;have e0:=aa e;clear e;obtain⟨xs,M1,e1,e⟩:=e0;have e0:=aa e;clear e;obtain⟨_,_,e2,e⟩:=e0;have bg:=aU e2;clear e2;obtain⟨hn,rfl⟩:=bg;have e0:=af e;clear e;obtain⟨rfl,rfl⟩:=e0;refine⟨ι,ρ,M,xs,_,S,R,e1,fun vs H1 ι1 r1 S1 X1=>⟨by rw[<- r1.length];exact hn,kX S1 r1 fun v H' ι' r' S' X'=>k v H' ι' r' S' (X1.trans X')⟩⟩
theorem LE.lst{fa:Ev->Mo (List D)}(σ:St)(H:Hp)(Q:VK)(h:LE K (fun ρ=>do let xs<-fa ρ;need (xs.length<=zg);bI (.lst xs)) σ H Q):Mq (LA K fa) σ H Q:=by
 obtain⟨ι,ρ,M,d,M',S,R,e,k⟩:=h;have e0:=aa e;clear e;obtain⟨xs,M1,e1,e⟩:=e0;have e0:=aa e;clear e;obtain⟨_,_,e2,e⟩:=e0;have bg:=aU e2;clear e2;obtain⟨hn,rfl⟩:=bg;refine⟨ι,ρ,M,xs,_,S,R,e1,fun vs H1 ι1 r1 S1 X1=>⟨by rw[<- r1.length];exact hn,hU S1 r1 e fun v H' ι' r' S' X'=>k v H' ι' r' S' (X1.trans X')⟩⟩
theorem LE.aO(σ:St)(H:Hp)(Q:VK)(h:LE K (fun _=>bI (.aO [])) σ H Q):EF σ H Q:=by
 obtain⟨ι,ρ,M,d,M',S,R,e,k⟩:=h;intro p hp;have e0:=fU e;clear e;obtain⟨rfl,rfl⟩:=e0;exact k _ _ (ι++[p]) (.ob (by rw[<- S.len,zK (zp _),yW];rfl)) (S.new hp ⟨[],rfl,.nil⟩) (Ext.new hp)
theorem LE.slc{fa:DE}{fl fh:Ev->Mo (Option Int)}(σ:St)(H:Hp)(Q:VK)(h:LE K (fun ρ=>do let x<-fa ρ;let l<-fl ρ;let h<-fh ρ;gi x l h) σ H Q):QY (Sz K) (LE K fa) (LO K fl) (LO K fh) σ H Q:=by
 obtain⟨ι,ρ,M,d,M',S,R,e,k⟩:=h;have e0:=aa e;clear e;obtain⟨x,M1,e1,e⟩:=e0;have e0:=aa e;clear e;obtain⟨l,M2,e2,e⟩:=e0;have e0:=aa e;clear e;obtain⟨r,M3,e3,e⟩:=e0;refine⟨ι,ρ,M,x,M1,S,R,e1,fun v1 H1 ι1 r1 S1 X1=>?_⟩;refine⟨ι1,ρ,M1,l,M2,S1,R.mono X1,e2,fun H2 ι2 S2 X2=>?_⟩;refine⟨ι2,ρ,M2,r,M3,S2,(R.mono X1).mono X2,e3,fun H3 ι3 S3 X3=>?_⟩;exact⟨ι3,M3,M',x,d,S3,(r1.mono X2).mono X3,e,fun v H' ι' r' S' X'=>k v H' ι' r' S' (((X1.trans X2).trans X3).trans X')⟩
theorem LE.call{fa:Ev->Mo (List D)}{g:List D->Mo D}{m:Nat}(σ:St)(H:Hp)(Q:VK)(hm:∀ds M d M',g ds M=some (.ok d,M')->ds.length=m)(h:LE K (fun ρ=>do let xs<-fa ρ;g xs) σ H Q):CD (iO K m g) [] E0 (LA K fa) σ H Q:=by
 obtain⟨ι,ρ,M,d,M',S,R,e,k⟩:=h;have e0:=aa e;clear e;obtain⟨xs,M1,e1,e⟩:=e0;refine⟨ι,ρ,M,xs,M1,S,R,e1,fun vs H1 ι1 r1 S1 X1=>?_⟩;show iO K m g (vs++[]) H1 Q E0;rw[zO];exact⟨by rw[<- r1.length];exact hm _ _ _ _ e,ι1,M1,M',xs,d,S1,r1,e,fun v H' ι' r' S' X'=>k v H' ι' r' S' (X1.trans X')⟩
theorem LE.blt{fa:Ev->Mo (List D)}{g:List D->Mo D}(σ:St)(H:Hp)(Q:VK)(h:LE K (fun ρ=>do let xs<-fa ρ;g xs) σ H Q):Jg (SA K g) (LA K fa) σ H Q:=by
 obtain⟨ι,ρ,M,d,M',S,R,e,k⟩:=h;have e0:=aa e;clear e;obtain⟨xs,M1,e1,e⟩:=e0;refine⟨ι,ρ,M,xs,M1,S,R,e1,fun vs H1 ι1 r1 S1 X1=>?_⟩;exact⟨ι1,M1,M',xs,d,S1,r1,e,fun v H' ι' r' S' X'=>k v H' ι' r' S' (X1.trans X')⟩
theorem LA.nil(σ:St)(H:Hp)(Q:List V->Hp->Prop)(h:LA K (fun _=>pure []) σ H Q):oM σ H Q:=by
 obtain⟨ι,ρ,M,d,M',S,R,e,k⟩:=h;have e0:=af e;clear e;obtain⟨rfl,rfl⟩:=e0;exact k [] H ι .nil S Ext.refl
theorem LA.cons{fa:DE}{fs:Ev->Mo (List D)}(σ:St)(H:Hp)(Q:List V->Hp->Prop)(h:LA K (fun ρ=>do let x<-fa ρ;let xs<-fs ρ;pure (x::xs)) σ H Q):ij (LE K fa) (LA K fs) σ H Q:=by
 obtain⟨ι,ρ,M,d,M',S,R,e,k⟩:=h;have e0:=aa e;clear e;obtain⟨x,M1,e1,e⟩:=e0;have e0:=aa e;clear e;obtain⟨xs,M2,e2,e⟩:=e0;have e0:=af e;clear e;obtain⟨rfl,rfl⟩:=e0;refine⟨ι,ρ,M,x,M1,S,R,e1,fun v1 H1 ι1 r1 S1 X1=>?_⟩;exact⟨ι1,ρ,M1,xs,_,S1,R.mono X1,e2,fun vs H2 ι2 r2 S2 X2=>k _ H2 ι2 (.cons (r1.mono X2) r2) S2 (X1.trans X2)⟩
theorem LO.none(σ:St)(H:Hp)(Q:Option Int->Hp->Prop)(h:LO K (fun _=>pure Option.none) σ H Q):A7 σ H Q:=by
 obtain⟨ι,ρ,M,d,M',S,R,e,k⟩:=h;have e0:=af e;clear e;obtain⟨rfl,rfl⟩:=e0;exact k H ι S Ext.refl
theorem LO.some{fa:DE}(σ:St)(H:Hp)(Q:Option Int->Hp->Prop)(h:LO K (fun ρ=>do
  let x<-fa ρ
  (match x with
  |.int i=>pure (Option.some i)
  |_=>Mo.stop)) σ H Q):Jc (LE K fa) σ H Q:=by
 obtain⟨ι,ρ,M,d,M',S,R,e,k⟩:=h;have e0:=aa e;clear e;obtain⟨x,M1,e1,e⟩:=e0;refine⟨ι,ρ,M,x,M1,S,R,e1,fun v1 H1 ι1 r1 S1 X1=>?_⟩;cases r1 with
 |int i=>have e0:=af e;clear e;obtain⟨rfl,rfl⟩:=e0;exact⟨i,rfl,k H1 ι1 S1 X1⟩
 |_=>exact(ah e).elim
theorem LT.test{fa:DE}(σ:St)(H:Hp)(Q:Bool->Hp->Prop)(h:LT K (fun ρ=>do let x<-fa ρ;lift (bG x)) σ H Q):CA (LE K fa) σ H Q:=by
 obtain⟨ι,ρ,M,b,M',S,R,e,k⟩:=h;have e0:=aa e;clear e;obtain⟨x,M1,e1,e⟩:=e0;have e0:=a8 e;clear e;obtain⟨hb,rfl⟩:=e0;refine⟨ι,ρ,M,x,_,S,R,e1,fun v1 H1 ι1 r1 S1 X1=>?_⟩;cases r1 <;> simp[bG]at hb;subst hb;exact⟨_,rfl,k H1 ι1 S1 X1⟩
theorem LT.not{fa:Ev->Mo Bool}(σ:St)(H:Hp)(Q:Bool->Hp->Prop)(h:LT K (fun ρ=>do let k<-fa ρ;pure (!k)) σ H Q):Mp (LT K fa) σ H Q:=by
 obtain⟨ι,ρ,M,b,M',S,R,e,k⟩:=h;have e0:=aa e;clear e;obtain⟨x,M1,e1,e⟩:=e0;have e0:=af e;clear e;obtain⟨rfl,rfl⟩:=e0;exact⟨ι,ρ,M,x,_,S,R,e1,fun H1 ι1 S1 X1=>k H1 ι1 S1 X1⟩
theorem LT.and{fa fb:Ev->Mo Bool}(σ:St)(H:Hp)(Q:Bool->Hp->Prop)(h:LT K (fun ρ=>do let k<-fa ρ;if k=true then fb ρ else pure false) σ H Q):Mu (LT K fa) (LT K fb) σ H Q:=by
 obtain⟨ι,ρ,M,b,M',S,R,e,k⟩:=h;have e0:=aa e;clear e;obtain⟨x,M1,e1,e⟩:=e0;refine⟨ι,ρ,M,x,M1,S,R,e1,fun H1 ι1 S1 X1=>?_⟩;split at e
 ·rename_i hb
  rw[if_pos hb];exact⟨ι1,ρ,_,b,M',S1,R.mono X1,e,fun H' ι' S' X'=>k H' ι' S' (X1.trans X')⟩
 ·rename_i hb
  rw[if_neg hb];have e0:=af e;clear e;obtain⟨rfl,rfl⟩:=e0;exact k H1 ι1 S1 X1
theorem LT.or{fa fb:Ev->Mo Bool}(σ:St)(H:Hp)(Q:Bool->Hp->Prop)(h:LT K (fun ρ=>do let k<-fa ρ;if k=true then pure true else fb ρ) σ H Q):QZ (LT K fa) (LT K fb) σ H Q:=by
 obtain⟨ι,ρ,M,b,M',S,R,e,k⟩:=h;have e0:=aa e;clear e;obtain⟨x,M1,e1,e⟩:=e0;refine⟨ι,ρ,M,x,M1,S,R,e1,fun H1 ι1 S1 X1=>?_⟩;split at e
 ·rename_i hb
  rw[if_pos hb];have e0:=af e;clear e;obtain⟨rfl,rfl⟩:=e0;exact k H1 ι1 S1 X1
 ·rename_i hb
  rw[if_neg hb];exact⟨ι1,ρ,_,b,M',S1,R.mono X1,e,fun H' ι' S' X'=>k H' ι' S' (X1.trans X')⟩
theorem uw{X:Cx}{a:Expr}{fa:DE}(ha:PE X a (LE X.K fa))(he:∀whole,isTrue a X.env whole=(do let v<-whole;standAt a.pos;holding [v] (truthy v))):PT X a (LT X.K fun ρ=>do let x<-fa ρ;kx x):=by
 intro Zz s σ H Q I h;obtain⟨ι,ρ,M,b,M',S,R,e,k⟩:=h;have e0:=aa e;clear e;obtain⟨x,M1,e1,e⟩:=e0;refine isTrue_plain (aQ (ha Zz s σ H (fun v H1=>∃ι M M' d b,aJ X.K ι M H1/\Rep X.K ι H1 d v/\kx d M=some (.ok b,M')/\(M'=M->Q b H1)) I ⟨ι,ρ,M,x,M1,S,R,e1,fun v1 H1 ι1 r1 S1 X1=>⟨ι1,M1,M',x,b,S1,r1,e,fun z=>by subst z;exact k H1 ι1 S1 X1⟩⟩) fun v s1 ⟨x,H1,I1,r1,q1⟩=>Kz Zz s1 σ H1 x v Q I1 r1 q1) (he _)
end
end L3
namespace L3
open PySem PySem.Spec PyProof.Rows L2
section
variable {Γ:Ctx}{n:Nat}
theorem aR{x:Str}{l:List Str}(h:l.contains x=true):x∈l:=by simpa using h
noncomputable def iQ(cells:List (Str×kw)):List (Str×NameKind)->List (Str×kw)->List (Str×kw)
 |[],acc=>acc
 |p::r,acc=>iQ cells r (if p.2==.free then (p.1,(cells.lookup p.1).getD 0)::acc else acc)
theorem sC{cells:List (Str×kw)}{y:Str}{c:kw}:∀{names:List (Str×NameKind)} {acc:List (Str×kw)},(∀p∈names,p.2=.free->∃c,cells.lookup p.1=some c)->(acc.lookup y=some c->cells.lookup y=some c) ->
  (iQ cells names acc).lookup y=some c->cells.lookup y=some c
 |[],acc,_,ha,h=>ha h
 |p::r,acc,hf,ha,h=>by
  unfold iQ at h;refine sC (names:=r) (fun q hq=>hf q (zI _ hq)) (fun h'=>?_) h;by_cases hp:p.2=.free
  ·rw[if_pos (by simpa using hp)]at h'
   obtain⟨c',hc'⟩:=hf p zJ hp;rw[hc',xS,yL]at h';by_cases hy:y=p.1
   ·subst hy
    simp at h';subst h';exact hc'
   ·have:(y==p.1)=false:=beq_eq_false_iff_ne.mpr hy
    rw[this]at h';exact ha h'
  ·rw[if_neg (by simpa using hp)]at h'
   exact ha h'
theorem Ad{cells:List (Str×kw)}{y:Str}:∀{names:List (Str×NameKind)} {acc:List (Str×kw)},(∃c,acc.lookup y=some c)->∃c,(iQ cells names acc).lookup y=some c
 |[],_,h=>h
 |p::r,acc,h=>by
  unfold iQ;refine Ad (names:=r) ?_;split
  ·rw[yL]
   split
   ·exact⟨_,rfl⟩
   ·exact h
  ·exact h
theorem Ac{cells:List (Str×kw)}{y:Str}:∀{names:List (Str×NameKind)} {acc:List (Str×kw)},(y,NameKind.free)∈names->∃c,(iQ cells names acc).lookup y=some c
 |[],_,h=>by simp at h
 |p::r,acc,h=>by
  unfold iQ;rcases zc.mp h with h|h
  ·subst h
   refine Ad ?_;rw[if_pos (by simp),yL];simp
  ·exact Ac h
theorem sN{scope:Scope}{env:Env}(h:∀p∈scope.names,p.2=.free->∃c,env.cells.lookup p.1=some c):closureFor scope env=pure (iQ env.cells scope.names []):=by
 have gen:∀(names:List (Str×NameKind)) (acc:List (Str×kw)),(∀p∈names,p.2=.free->∃c,env.cells.lookup p.1=some c) ->
   (forIn names acc (fun (x:Str×NameKind) (r:List (Str×kw))=>if (x.2==NameKind.free)=true then (cellOf env x.1 >>= fun a=>(pure (ForInStep.yield ((x.1,a)::r)):Sem (ForInStep (List (Str×kw))))) else pure (ForInStep.yield r)):Sem (List (Str×kw)))=pure (iQ env.cells names acc):=by
  intro names;induction names with
  |nil=>intro acc _;rfl
  |cons p r ih =>
   intro acc hf;rw[List.forIn_cons];obtain⟨name,kind⟩:=p;dsimp only;by_cases hk:kind=.free
   ·subst hk
    obtain⟨c,hc⟩:=hf (name,.free) zJ rfl;have e:cellOf env name=pure c:=by unfold cellOf;rw[hc]
    rw[if_pos (by rfl),e];simp only[pure_bind];rw[ih _ fun q hq=>hf q (zI _ hq)]
    conv=>rhs;unfold iQ
    dsimp only;rw[if_pos (by rfl),hc];rfl
   ·have hb:(kind==NameKind.free)=false:=by simpa using hk
    rw[if_neg (by rw[hb];exact zk)];simp only[pure_bind];rw[ih _ fun q hq=>hf q (zI _ hq)]
    conv=>rhs;unfold iQ
    dsimp only;rw[if_neg (by rw[hb];exact zk)]
 unfold closureFor;refine Eq.trans ?_ (gen scope.names [] h);exact bind_pure _
theorem sy{S:Sc}{X:Cx}{sc:Scope}{xs:List Str}(C:aN Γ S X)(hx:X.Ok)(h:gy S sc xs=true):gP X sc (iQ X.env.cells sc.names []) xs (xs++blank S.N xs):=by
 unfold gy at h;simp only[zl,zS,bne_iff_ne,ne_eq,beq_iff_eq,yU,decide_eq_true_eq]at h;obtain⟨⟨⟨⟨⟨⟨h1,h2⟩,h5⟩,h6⟩,h7⟩,h8⟩,h9⟩:=h;have hout:∀y,sc.names.lookup y=some .free->X.env.kindOf y=some .cell\/X.env.kindOf y=some .free:=fun y hy=>by
  rcases h6 _ (lookup_mem hy) with z|z
  ·exact absurd rfl z
  ·have z':S.sc.names.lookup y=some .cell\/S.sc.names.lookup y=some .free:=z
   rcases z' with z|z
   ·obtain⟨k',q1,rfl|⟨q2,_⟩⟩:=C.sc _ _ z
    ·exact .inl q1
    ·cases q2
   ·obtain⟨k',q1,rfl|⟨_,rfl⟩⟩:=C.sc _ _ z
    ·exact .inr q1
    ·exact .inl q1
 have p7:∀p∈sc.names,p.2=.free->∃c,X.env.cells.lookup p.1=some c:=fun p hp hf=>by
  refine hx.has p.1 (hout p.1 ?_);rw[(h7 p hp).1,hf]
 refine⟨h1,fun y hy=>(h5 y hy).1,fun x hx=>(h2 x hx).1.1,fun y hy hl=>by rw[(h7 y hy).1,hl],fun y hy=>?_,sN p7,fun y c=>sC p7 (fun z=>by cases z),fun y hy=>Ac (lookup_mem hy),hout,h9,fun i y hy=>?_,fun i y hy=>?_,?_⟩
 ·rcases (h5 _ (lookup_mem hy)).2 with z|z
  ·exact absurd rfl z
  ·rcases z with z|z
   ·exact .inl (by simpa using z)
   ·exact .inr z
 ·rw[zH (zn.mp hy).1]
  exact hy
 ·have hy':(blank S.N xs)[i]?=some y:=by
   rw[zK (wF ..),wS]at hy;exact hy
  unfold blank at hy';rw[zw]at hy';cases q:S.N[i]? with
  |none=>rw[q]at hy';cases hy'
  |some z =>
   rw[q]at hy';simp only[xD,Option.some.injEq]at hy';by_cases hz:z∈xs
   ·rw[if_pos (by simpa using hz)]at hy'
    subst hy';refine⟨fun e=>(h2 _ e).2 rfl,by decide,.inr fun hv=>?_⟩;have nb:∀k,sc.names.lookup ("":Str)=some k->False:=fun k e=>(h7 _ (lookup_mem e)).2 rfl;rcases hv with e|e|e
    ·exact nb _ e
    ·exact nb _ e
    ·exact nb _ e
   ·rw[if_neg (by simpa using hz)]at hy'
    subst hy';exact⟨hz,h8 _ (zx q),.inl (by rw[C.n];exact q)⟩
 ·show (xs++blank S.N xs).length=X.N.length+xs.length
  unfold blank;rw[zm,zz,C.n,vV]
theorem nW{S:Sc}{X:Cx}{sc:Scope}{x:List Str}(C:aN Γ S X)(h:gy S sc x=true)(cl:List (Str×kw))(Ca:kw)(s:kt)(H:Hp)(fp:List kw):aN Γ (S.comp sc x) (bF X sc cl Ca (x++blank S.N x) s H fp) where
 n:=rfl
 sc:=fun y k hy=>by
  have e:(relabel sc X.env).names.lookup y=(sc.names.lookup y).map fun k=>if (k==NameKind.free&&X.env.scope.kind==.function&&X.env.kindOf y==some .cell) then NameKind.cell else k:=jM;have hy':sc.names.lookup y=some k:=hy;rw[hy']at e;refine⟨_,e,?_⟩;dsimp only;split
  ·rename_i hc
   simp only[zl,beq_iff_eq]at hc;exact .inr ⟨hc.1.1,rfl⟩
  ·exact .inl rfl
 calm:=C.calm
 hu:=C.hu
 dQ:=rfl
 fns:=C.fns
 gls:=C.gls
 aY:=C.aY
 rfs:=C.rfs
 nd:=by
  unfold gy at h;simp only[zl,decide_eq_true_eq]at h;exact h.2
theorem Ff{X:Cx}{sc:Scope}{cl:List (Str×kw)}{xs N':List Str}(CS:gP X sc cl xs N'){i:Nat}{x:Str}{px:Pos}(h:xs[i]?=some x)(Ca:kw)(s:kt)(H:Hp)(fp:List kw):PG (bF X sc cl Ca N' s H fp) (.Name x px) (iu i) :=
 kS CS.nd (CS.n0 i x h) (.inl (lookup_relabel_local (CS.loc x (zx h)))) (.inr (lookup_relabel_local (CS.loc x (zx h))))
theorem HC{S:Sc}{X:Cx}{sc:Scope}{x:Str}{px pos:Pos}{elt iter:Expr}{ifs:List Expr}{j:Nat}{fs:Ev->Mo Src}{fc:Ev->Mo Bool}{fe:DE}(C:aN Γ S X)(h:gy S sc [x]=true)(hi:PI X (.Name x px) iter (LI X.K fs))(hs:∀x,foldedSetIterable iter X.env x=pure x)
  (htc:∀X',aN Γ (S.comp sc [x]) X'->X'.K=X.K->lz X' ifs (LT X'.K fc)) (hte:∀X',aN Γ (S.comp sc [x]) X'->X'.K=X.K->PE X' elt (LE X'.K fe)) :
  PE X (.ListComp elt [⟨.Name x px,iter,ifs,0⟩] sc pos) (LE X.K (fun ρ=>do
   let s<-fs ρ
   need (s.ds.length<=zg)
   let ys<-eg s.ck fc fe (ρ.set j none) s.ds
   bI (.lst ys))):=by
 intro Zz s σ H Q I q;have CS:=sy C I.ok h;exact Bo C.calm CS (fun _ _ _ _=>Ff CS rfl _ _ _ _) hi (fun Ca s H fp=>htc _ (nW C h _ Ca s H fp) rfl) (fun Ca s H fp=>hte _ (nW C h _ Ca s H fp) rfl) hs Zz s σ H Q I (LE.comp σ H Q q)
theorem L0{x:Str}{m:Nat}{b:Bl}(h:Ei x m=some b):bootBuiltins x=some (Eh b)/\∃y:String,x=Str.ofString y:=by
 unfold Ei at h;have key:∀(y:String) (k:Nat),(x==(Str.ofString y)&&m==k)=true->x=Str.ofString y:=fun y k e=>by
  simp only[zl,beq_iff_eq]at e;exact e.1
 split at h
 ·rename_i e;cases h;rw[key _ _ e];exact⟨by decide +kernel,_,rfl⟩
 split at h
 ·rename_i e;cases h;rw[key _ _ e];exact⟨by decide +kernel,_,rfl⟩
 split at h
 ·rename_i e;cases h;rw[key _ _ e];exact⟨by decide +kernel,_,rfl⟩
 split at h
 ·rename_i e;cases h;rw[key _ _ e];exact⟨by decide +kernel,_,rfl⟩
 split at h
 ·rename_i e;cases h;rw[key _ _ e];exact⟨by decide +kernel,_,rfl⟩
 split at h
 ·rename_i e;cases h;rw[key _ _ e];exact⟨by decide +kernel,_,rfl⟩
 split at h
 ·rename_i e;cases h;rw[key _ _ e];exact⟨by decide +kernel,_,rfl⟩
 split at h
 ·rename_i e;cases h;rw[key _ _ e];exact⟨by decide +kernel,_,rfl⟩
 split at h
 ·rename_i e;cases h;rw[key _ _ e];exact⟨by decide +kernel,_,rfl⟩
 split at h
 ·rename_i e;cases h;rw[key _ _ e];exact⟨by decide +kernel,_,rfl⟩
 split at h
 ·rename_i e;cases h;rw[key _ _ e];exact⟨by decide +kernel,_,rfl⟩
 ·cases h
theorem Dz{b:Expr}(h:JD b=true):B9 b:=by
 intro o i;cases b <;> first
  |rfl
  |exact absurd h zk
end
end L3
namespace L3
open PySem PySem.Spec PyProof.Rows L2
section
variable {X:Cx}
theorem GD:dz X (.type "str") (fun xs H Q=>∃i:Int,xs=[.int i]/\i.natAbs<2 ^ 64/\Q (.str (Str.ofString (toString i))) H):=by
 intro Zz s σ H xs us Q I rv h;obtain⟨i,rfl,hi,q⟩:=h;obtain⟨u,rfl,ru⟩:=vals1 rv;obtain⟨t,rfl⟩:=ru;have h0:i.natAbs.log2<1920:=by
  by_cases z:i.natAbs=0
  ·rw[z];decide
  ·exact(Nat.log2_lt z).mpr (zB hi (wL (by decide) (by decide)))
 exact PySem.P.str_of_int h0 ⟨.str _,H,I.tok _,⟨_,rfl⟩,q⟩
theorem CI{Γ:Ctx}{S:Sc}{f:Str}{a:Expr}{p1 p4:Pos}{fa:DE}(C:aN Γ S X)(h:(f==("str":Str)&&bM f&&S.bE f&&S.aY.contains f)=true)(hp:bx a=true)(ha:PE X a (LE X.K fa)) :
  PE X (.Call (.Name f p1) [a] [] p4) (LE X.K (fun ρ=>do let x<-fa ρ;let s<-lift (nu x);pure (.str s))):=by
 simp only[zl,beq_iff_eq]at h;obtain⟨⟨⟨h1,h2⟩,h3⟩,h4⟩:=h;subst h1;obtain⟨o1,o2,o3⟩:=bH h2;refine PE.imp (j8 GD (C.bE h3) (C.aY _ (aR h4)) PyProof.Rows.boot_str (a7 ha cN (aC hp)) o3 o1 (aC hp) rfl) fun σ H Q q=>?_;obtain⟨ι,ρ,M,d,M',S',R,e,k⟩:=q;obtain⟨x,M1,e1,ea⟩:=aa e;obtain⟨b,M2,e2,eb⟩:=aa ea;obtain⟨hb,rfl⟩:=a8 e2;obtain⟨rfl,rfl⟩:=af eb;refine⟨ι,ρ,M,x,_,S',R,e1,fun v1 H1 ι1 r1 S1 X1=>?_⟩;cases r1 with
 |int i =>
  unfold nu at hb;dsimp only at hb;split at hb
  ·rename_i hi
   cases hb;exact⟨i,rfl,hi,k _ H1 ι1 (.str _) S1 X1⟩
  ·cases hb
 |_=>cases hb
end
end L3
namespace L3
open PySem PySem.Spec PyProof.Rows L2
section
variable {X:Cx}
theorem HX{prog:ul}{w:ut}{k:Key}{v:jp}(h:(aK prog w).is k v=true):RelV (kV k) v:=by
 rcases bS (show kb k v=true from h) with ⟨i,t,rfl,rfl⟩|⟨x,t,rfl,rfl⟩
 ·exact⟨_,rfl⟩
 ·exact⟨_,rfl⟩
theorem rB{prog:ul}{w:ut}:∀{vs:List jp} {rs:List (Key×jp)},vs.length=rs.length->(∀(j:Nat) (v:jp),vs[j]?=some v->∃k x,rs[j]?=some (k,x)/\(aK prog w).is k v=true)->Vals (rs.map fun p=>kV p.1) vs
 |[],[],_,_=>.nil
 |v::vs,r::rs,hl,h=>by
  obtain⟨k,x,e,hk⟩:=h 0 v rfl;cases e;exact .cons (HX hk) (rB (by simpa using hl) fun j v' e'=>by simpa using h (j+1) v' (by simpa using e'))
 |[],_::_,hl,_=>by cases hl
 |_::_,[],hl,_=>by cases hl
theorem MN{K:Q_}{ι:List kw}{H:Hp}(k:Ky):Rep K ι H (dK k) (kV k):=by
 cases k with
 |inl i=>exact .int i
 |inr x=>exact .str x
theorem C3{K:Q_}{ι:List kw}{H H2:Hp}:∀{kvs:List (Ky×D)} {ws:List (Key×V)} {rs:List (Key×jp)},KR K ι H kvs ws->KV ws rs->az K ι H2 (kvs.map fun kv=>dK kv.1) (rs.map fun p=>kV p.1):=by
 intro kvs;induction kvs with
 |nil=>intro ws rs r g;cases r;cases g;exact .nil
 |cons kv kvs ih =>
  intro ws rs r g;cases r with|cons r t =>
  cases g with|cons g g' =>
  exact .cons (by dsimp only;rw[r.1,g.1];exact MN _) (ih t g')
theorem Ee(hc:X.calm=true):dz X (.type "list") (fun xs H Q=>∃a ws ι M kvs,xs=[.ref a]/\H a=some (.dK ws)/\aJ X.K ι M H/\KR X.K ι H kvs ws /\
  ∀v H' ι',Rep X.K ι' H' (.ob M.length) v->aJ X.K ι' (M++[.lst (kvs.map fun kv=>dK kv.1)]) H'->Ext X.K ι H ι' H'->Q v H'):=by
 intro Zz s σ H xs us Q I rv h;obtain⟨a,ws,ι,M,kvs,rfl,ha,S,kr,k⟩:=h;obtain⟨u,rfl,ru⟩:=vals1 rv;cases ru;obtain⟨z,hd,rs,rel,dd⟩:=gu I.ax (.inl ha);obtain⟨ep,jR⟩:=dd.dictAt;have lr:rs.length<=zg:=by rw[<- rel.length];exact z
 refine PySem.W.kdl_call (Z8 (knd:=aK X.prog X.w) (kvs:=rs) (ep:=ep) hd) (I.ok.hd hc) jR lr fun h' tk acc c kk BH lQ=>?_;have g4:Vals (rs.map fun p=>kV p.1) acc.toList:=rB (prog:=X.prog) (w:=X.w) (by rw[yt,lQ.1]) fun j v e=>by
  rw[xh]at e;exact lQ.2 j v e
 have fr:H s.heap.objs.size=none:=I.ax.fresh (zp _);have hz:(rs.map fun p=>kV p.1).length<=zg:=by rw[zz];exact lr
 have I3:Inv X Zz σ (upd H s.heap.objs.size (.lst (rs.map fun p=>kV p.1))) { s with heap:=h',toks:=tk } :=
  I.laid (t':=tk) kk (zp _) ⟨hz,acc.toList,c,g4,by rw[BH]⟩
 have X4:Ext X.K ι H (ι++[s.heap.objs.size]) (upd H s.heap.objs.size (.lst (rs.map fun p=>kV p.1))):=Ext.new fr;exact⟨.ref s.heap.objs.size,_,I3,rfl,k _ _ _ (.ob (by rw[<- S.len,zK (zp _),yW];rfl)) (S.new fr ⟨_,rfl,C3 (KR.mono X4 kr) rel⟩) X4⟩
theorem Fv{Γ:Ctx}{S:Sc}{f:Str}{a:Expr}{p1 p4:Pos}{fa:DE}(C:aN Γ S X)(h:(f==("list":Str)&&bM f&&S.bE f&&S.aY.contains f)=true)(hp:bx a=true)(ha:PE X a (LE X.K fa)) :
  PE X (.Call (.Name f p1) [a] [] p4) (LE X.K (fun ρ=>do let x<-fa ρ;DR x)):=by
 simp only[zl,beq_iff_eq]at h;obtain⟨⟨⟨h1,h2⟩,h3⟩,h4⟩:=h;subst h1;obtain⟨o1,o2,o3⟩:=bH h2;refine PE.imp (j8 (Ee C.calm) (C.bE h3) (C.aY _ (aR h4)) PyProof.Rows.boot_list (a7 ha cN (aC hp)) o3 o1 (aC hp) rfl) fun σ H Q q=>?_;obtain⟨ι,ρ,M,d,M',S',R,e,k⟩:=q;obtain⟨x,M1,e1,e⟩:=aa e;refine⟨ι,ρ,M,x,M1,S',R,e1,fun v1 H1 ι1 r1 S1 X1=>?_⟩;cases r1 with
 |ob t =>
  obtain⟨kvs,M2,e2,ea⟩:=aa e;obtain⟨g,rfl⟩:=lg e2;obtain⟨rfl,rfl⟩:=fU ea;obtain⟨a',ws,g1,g2,g3,g4⟩:=c7 S1 (.ob t) g;cases g1;exact⟨_,ws,ι1,_,kvs,rfl,g3,S1,g4,fun v H' ι' r' S'' X'=>k v H' ι' r' S'' (X1.trans X')⟩
 |_=>exact(ah e).elim
end
end L3
namespace L3
open PySem PySem.Spec PyProof.Rows L2
section
variable {Γ:Ctx}{n:Nat}
noncomputable def Pe(_:Ctx):Prop:=True
noncomputable def Pd(Γ:Ctx):Prop:=∀(S:Sc) (X:Cx) (f:Str) (a:Expr) (p1 p4:Pos) (fa:DE),aN Γ S X->(f==("sorted":Str)&&bM f&&S.bE f&&S.aY.contains f)=true->bx a=true->PE X a (LE X.K fa) ->
 PE X (.Call (.Name f p1) [a] [] p4) (LE X.K (fun ρ=>do let x<-fa ρ;let ds<-pe x;let ys<-lift (Γ.srt ds);bI (.lst ys)))
noncomputable def Pc(Γ:Ctx):Prop:=∀(S:Sc) (X:Cx) (f:Str) (b:Expr) (p1 p2 p3 p4:Pos) (fb:DE),aN Γ S X->(f==("sorted":Str)&&bM f&&S.bE f&&S.aY.contains f&&(S.bE ("set":Str)&&S.aY.contains ("set":Str)))=true->bx b=true->PE X b (LE X.K fb) ->
 PE X (.Call (.Name f p1) [.Call (.Name "set" p2) [b] [] p3] [] p4) (LE X.K (fun ρ=>do let x<-fb ρ;ub x))
noncomputable def Pf(Γ:Ctx):Prop:=∀(S:Sc) (X:Cx) (f:Str) (a:Expr) (p1 p4:Pos) (fa:DE),aN Γ S X->(f==("sorted":Str)&&bM f&&S.bE f&&S.aY.contains f)=true->bx a=true->PE X a (LE X.K fa) ->
 PE X (.Call (.Name f p1) [a] [] p4) (LE X.K (fun ρ=>do let x<-fa ρ;uS x))
noncomputable def Pb(_:Ctx):Prop:=True
noncomputable def iE(Γ:Ctx):Prop:=Pe Γ/\Pd Γ/\Pc Γ/\Pf Γ/\Pb Γ
theorem nX{o:Expr}{a:Str}{env:Env}{w':Sem jp}(h:Sw o=true):attributeBase o a env w'=w':=by
 cases o <;> first
  |rfl
  |exact absurd h zk
  | (rename_i f as ks p
     cases as with
     |nil=>exact absurd h zk
     |cons e es=>cases f <;> first|rfl|(cases ks <;> rfl))
theorem LE.neg{K:Q_}{fa:DE}(σ:St)(H:Hp)(Q:VK)(h:LE K (fun ρ=>do
  let x<-fa ρ
  (match x with
  |.int i=>pure (.int (-i))
  |_=>Mo.stop)) σ H Q):QX (rU fun i=>.int (-i)) (LE K fa) σ H Q:=by
 obtain⟨ι,ρ,M,d,M',S,R,e,k⟩:=h;have e0:=aa e;clear e;obtain⟨x,M1,e1,e⟩:=e0;refine⟨ι,ρ,M,x,M1,S,R,e1,fun v H1 ι1 r1 S1 X1=>?_⟩;cases r1 with
 |int i=>have e0:=af e;clear e;obtain⟨rfl,rfl⟩:=e0;exact⟨i,rfl,k _ H1 ι1 (.int _) S1 X1⟩
 |_=>exact(ah e).elim
theorem Ln{α:Type}{l:List (Bool×α)}(h:l.any (·.1)=false):l.all (fun x=>!x.1)=true:=by
 rw[zS];intro x hx
 have:=ya.mp h x hx
 simpa using this
theorem FG{S:Sc}{X:Cx}{f t:Str}{k:Ty}{a:Expr}{p1 p2 p3:Pos}{fa:DE}(C:aN Γ S X)(hs:DT S f t=true)(hk:Cp t=some k)(ha:PE X a (LE X.K fa))(hp:bx a=true) :
  PE X (.Call (.Name f p1) [a,.Name t p2] [] p3) (LE X.K (fun ρ=>do let x<-fa ρ;let b<-l7 k x;pure (.bl b))):=by
 unfold DT at hs;simp only[zl,beq_iff_eq]at hs;obtain⟨⟨⟨⟨⟨⟨h1,h2⟩,h3⟩,h4⟩,h5⟩,h6⟩,h7⟩:=hs;subst h1;obtain⟨o1,o2,o3⟩:=bH h2;obtain⟨q1,q2,q3⟩:=bH h5;have pt:PE X (.Name t p2) (tC (.ty (tyName k))):=Bp (C.bE h6) (C.aY _ (aR h7)) (Kx hk) rfl q3 q1;exact PE.imp (eK (ID k) (C.bE h3) (C.aY _ (aR h4)) J_ (a7 ha (a7 pt cN) (aC hp)) o3 o1 (aC hp) rfl) LE.isI
theorem Ed{S:Sc}{X:Cx}{rs:List Expr->Option eZ}(hrs:∀es i,rs es=some i->PA X es (LA X.K (bu Γ i))/\es.all bx=true){f:Str}{p1 pos:Pos}{a:Expr}{as:List Expr}{i:IE}(C:aN Γ S X)(h:qh S f (a::as).length (rs (a::as))=some i):PE X (.Call (.Name f p1) (a::as) [] pos) (LE X.K (ae Γ i)):=by
 unfold qh at h;split at h
 ·rename_i hs
  simp only[zl]at hs;obtain⟨o1,o2,o3⟩:=bH hs.1;split at h
  ·rename_i hf
   obtain⟨xs,h1,rfl⟩:=zu.mp h;obtain⟨k,fa,fd,ps,g1,g2,g3,g4,g5,g6⟩:=C.fns f (aR hf);obtain⟨pa,pl⟩:=hrs _ _ h1;rw[zX,zl]at pl;exact PE.imp (qM g4 g5 (C.bE hs.2) g1 g2 g3 .nil Jv pa o1 (aC pl.1) (du pl.2)) fun σ H Q q=>LE.call σ H Q g6 q
  ·split at h
   ·rename_i hb
    split at h
    ·rename_i b WL
     obtain⟨xs,h1,rfl⟩:=zu.mp h;obtain⟨pa,pl⟩:=hrs _ _ h1;rw[zX,zl]at pl;have JX:=(L0 WL).1;have sf:=C.aY f (aR hb);have hc:=LZ (X:=X) C.calm C.hu b;unfold Eh at JX hc;split at JX
     ·rename_i ht
      rw[if_pos ht]at hc;exact PE.imp (j8 hc (C.bE hs.2) sf JX pa o3 o1 (aC pl.1) (du pl.2)) LE.blt
     ·rename_i ht
      rw[if_neg ht]at hc;exact PE.imp (eK hc (C.bE hs.2) sf JX pa o3 o1 (aC pl.1) (du pl.2)) LE.blt
    ·cases h
   ·cases h
 ·cases h
section
variable {S:Sc}{X:Cx}{r:Expr->Option IE}{rs:List Expr->Option eZ}{ro:Option Expr->Option nr}
theorem DI(C:aN Γ S X){x:Str}{pos:Pos}{i:IE}(h:DJ S x=some i):PE X (.Name x pos) (LE X.K (ae Γ i)):=by
 unfold DJ at h;split at h
 ·rename_i ax
  obtain⟨o1,o2,o3⟩:=bH ax;split at h
  ·rename_i hv
   obtain⟨j,hs,rfl⟩:=zu.mp h;exact PE.imp (pR (by rw[C.n];exact slot_get hs) (C.Ew hv) o1 o2) (LE.var)
  ·split at h
   ·rename_i hg
    cases h;simp only[zl]at hg;obtain⟨d,u,v,g1,g2,g3,g4⟩:=C.gls x (aR hg.2);refine PE.imp (Bn (C.bE hg.1) g2 g3 o1) fun σ H Q h=>?_;refine LE.const g4 σ H Q ?_;have e:ae Γ (.glb x)=fun _=>(pure d:Mo D):=by funext ρ;show lift (Γ.gl x)=_;rw[g1];rfl
    rw[e]at h;exact h
   ·cases h
 ·cases h
theorem AS{c:Const}{k:Nat}{pos:Pos}{i:IE}(h:GB c=some i):PE X (.Constant c k pos) (LE X.K (ae Γ i)):=by
 cases c with
 |int j=>cases h;exact PE.imp Nh (LE.const fun _ _=>.int _)
 |bool j=>cases h;exact PE.imp Ju (LE.const fun _ _=>.bl _)
 |none=>cases h;exact PE.imp Nf (LE.const fun _ _=>.non)
 |str j=>cases h;exact PE.imp Nc (LE.const fun _ _=>.str _)
 |_=>cases h
variable (hr:∀e i,r e=some i->PE X e (LE X.K (ae Γ i)))
include hr
theorem sA(C:aN Γ S X){a:Expr}{ops:List CmpOp}{bs:List Expr}{pos:Pos}{i:IE}(h:Eb r a ops bs=some i):PE X (.Compare a ops bs pos) (LE X.K (ae Γ i))/\PT X (.Compare a ops bs pos) (LT X.K (a9 Γ (.cmp i))):=by
 unfold Eb at h;split at h
 ·split at h
  ·cases h
  ·rename_i hm
   obtain⟨x,h1,h⟩:=aj h;obtain⟨y,h2,h⟩:=aj h;cases h;exact⟨PE.imp (Li (kT C.hu _) (hr _ _ h1) (hr _ _ h2) (by simpa using hm)) (LE.bin nE),PT.imp (K8 (kT C.hu _) (hr _ _ h1) (hr _ _ h2) (by simpa using hm)) fun σ H Q q=>LE.bin nE σ H _ (LT.test σ H Q q)⟩
 ·split at h
  ·cases h
  ·rename_i op op' b c hm
   obtain⟨x,h1,h⟩:=aj h;obtain⟨y,h2,h⟩:=aj h;obtain⟨z,h3,h⟩:=aj h;cases h;exact⟨PE.imp (HD (kT C.hu op) (kT C.hu op') (hr _ _ h1) (hr _ _ h2) (hr _ _ h3) (by show behindInMarks op' c=false;simpa using hm)) (LE.chain),PT.imp (Ht (kT C.hu op) (kT C.hu op') (hr _ _ h1) (hr _ _ h2) (hr _ _ h3) (by show behindInMarks op' c=false;simpa using hm)) fun σ H Q q=>LE.chain σ H _ (LT.test σ H Q q)⟩
 ·cases h
theorem Ef{op:BoolOp}{es:List Expr}{pos:Pos}{i:IE}(h:Eg r op es pos=some i):PE X (.BoolOp op es pos) (LE X.K (ae Γ i)):=by
 unfold Eg at h;split at h
 ·obtain⟨x,h1,h⟩:=aj h
  obtain⟨y,h2,h⟩:=aj h;cases h;cases op with
  |And=>exact PE.imp (pS (hr _ _ h1) (uF (hr _ _ h2))) (LE.and)
  |Or=>exact PE.imp (Jt (hr _ _ h1) (uF (hr _ _ h2))) (LE.or)
 ·obtain⟨x,h1,h⟩:=aj h
  obtain⟨y,h2,h⟩:=aj h;cases h;cases op with
  |And=>exact PE.imp (pS (hr _ _ h1) (hr _ _ h2)) (LE.and)
  |Or=>exact PE.imp (Jt (hr _ _ h1) (hr _ _ h2)) (LE.or)
 ·cases h
theorem G2{op:UnaryOp}{a:Expr}{pos:Pos}{i:IE}(h:QV r op a=some i):PE X (.UnaryOp op a pos) (LE X.K (ae Γ i)):=by
 cases op with
 |Not =>
  obtain⟨x,h1,h⟩:=aj h;cases h;exact PE.imp (Fh (hr _ _ h1)) (LE.not)
 |USub =>
  obtain⟨x,h1,h⟩:=aj h;cases h;exact PE.imp (Qj Mg (hr _ _ h1)) (LE.neg)
 |_=>cases h
theorem EH(C:aN Γ S X)(ho:∀e i,ro e=some i->PO X e (LO X.K (gY Γ i))){a b:Expr}{pos:Pos}{i:IE}(h:Hb r ro a b=some i):PE X (.Subscript a b pos) (LE X.K (ae Γ i)):=by
 unfold Hb at h;split at h
 ·obtain⟨x,h1,h⟩:=aj h
  obtain⟨l,h2,h⟩:=aj h;obtain⟨q,h3,h⟩:=aj h;cases h;exact PE.imp (Hz MD (hr _ _ h1) (ho _ _ h2) (ho _ _ h3)) (LE.slc)
 ·split at h
  ·rename_i Oh
   obtain⟨x,h1,h⟩:=aj h;obtain⟨y,h2,h⟩:=aj h;cases h;exact PE.imp (Ql (NW C.hu) (hr _ _ h1) (hr _ _ h2) (Dz Oh)) (LE.bin nE)
  ·cases h
omit hr in
theorem Qq{a:Expr}{m:Str}{p:Pos}(h:rS a=some (m,p)):a=.Name m p:=by
 unfold rS at h;split at h
 ·cases h;rfl
 ·cases h
omit hr in
theorem KS{a b:Expr}{p q:Pos}(h:Hk a=some (p,b,q)):∃p',a=.Call (.Name "set" p') [b] [] q:=by
 unfold Hk at h;split at h
 ·rename_i g _ _ _
  split at h
  ·rename_i hg
   cases h
   have:g=("set":Str):=by simpa using hg
   subst this;exact⟨_,rfl⟩
  ·cases h
 ·cases h
theorem CM(hsrt:iE Γ)(C:aN Γ S X){f:Str}{as:List Expr}{p1 p4:Pos}{i:IE}(h:CQ S r f as=some i):PE X (.Call (.Name f p1) as [] p4) (LE X.K (ae Γ i)):=by
 unfold CQ at h;split at h
 ·rename_i a
  split at h
  ·cases h
  ·have fin:∀{i:IE},(
    if Gx a then (if bx a&&(f==("sorted":Str)&&bM f&&S.bE f&&S.aY.contains f) then do let x<-r a;some (.srtK x) else none) else
    if bx a&&(f==("sorted":Str)&&bM f&&S.bE f&&S.aY.contains f) then do let x<-r a;some (.sortL x) else none)=some i->PE X (.Call (.Name f p1) [a] [] p4) (LE X.K (ae Γ i)):=fun {i} h=>by
    split at h
    ·split at h
     ·rename_i hs
      rw[zl]at hs;obtain⟨x,h1,h⟩:=aj h;cases h;exact hsrt.2.2.2.1 S X f _ p1 p4 (ae Γ x) C hs.2 hs.1 (hr _ _ h1)
     ·cases h
    rename_i nd;split at h
    ·rename_i hs
     rw[zl]at hs;obtain⟨x,h1,h⟩:=aj h;cases h;exact hsrt.2.1 S X f _ p1 p4 (ae Γ x) C hs.2 hs.1 (hr _ _ h1)
    ·cases h
   split at h
   ·rename_i p2 b q hg
    obtain⟨p2',e⟩:=KS hg;rw[e];split at h
    ·rename_i hs
     rw[zl]at hs;obtain⟨x,h1,h⟩:=aj h;cases h;exact hsrt.2.2.1 S X f b p1 _ _ p4 (ae Γ x) C hs.2 hs.1 (hr _ _ h1)
    ·cases h
   exact fin h
 ·cases h
omit hr in
theorem EV{b:Expr}{f:Str}{p q:Pos}{as:List Expr}(h:kz b=some (f,p,as,q)):b=.Call (.Name f p) as [] q:=by
 unfold kz at h;split at h
 ·cases h;rfl
 ·cases h
theorem qf(C:aN Γ S X){a:Expr}{ops:List CmpOp}{bs:List Expr}{pos:Pos}{i:IE}(h:Ab S r a ops bs=some i):PE X (.Compare a ops bs pos) (LE X.K (ae Γ i))/\PT X (.Compare a ops bs pos) (LT X.K (a9 Γ (.cmp i))):=by
 unfold Ab at h;split at h
 ·split at h
  ·cases h
  ·exact sA hr C h
 ·exact sA hr C h
theorem DU(C:aN Γ S X){f:Str}{as:List Expr}{p1 p4:Pos}{i:IE}(h:HZ S r f as=some i):PE X (.Call (.Name f p1) as [] p4) (LE X.K (ae Γ i)):=by
 unfold HZ at h;split at h
 ·split at h
  ·rename_i t' p hn
   rw[Qq hn];split at h
   ·rename_i hs
    rw[zl]at hs;split at h
    ·rename_i kk hk
     obtain⟨x,h1,h⟩:=aj h;cases h;exact FG C hs.1 hk (hr _ _ h1) hs.2
    ·cases h
   ·cases h
  ·cases h
 ·cases h
variable (hrs:∀es i,rs es=some i->PA X es (LA X.K (bu Γ i))/\es.all bx=true)
include hrs
theorem Ej(C:aN Γ S X){o:Expr}{m:Str}{p2 p3:Pos}{as:List Expr}{i:IE}(h:Ek r rs o m p2 p3 as=some i):PE X (.Call (.Attribute o m p2) as [] p3) (LE X.K (ae Γ i)):=by
 unfold Ek at h;split at h
 ·split at h
  ·rename_i hs
   simp only[zl,decide_eq_true_eq]at hs;obtain⟨F6,hs⟩:=hs;split at h
   ·rename_i kk hk
    obtain⟨x,h1,h⟩:=aj h;obtain⟨xs,h2,h⟩:=aj h;cases h;obtain⟨pa,pl⟩:=hrs _ _ h2;have oA:=Ls hk;subst oA;have pl':=pl;rw[zX,zl]at pl;refine PE.imp (Ni (NG C.hu kk) (hr _ _ h1) pa (nX F6) ?_ hs.1 (aC pl.1) (du pl.2)) LE.mth;rw[zl,zl];refine⟨⟨Ln (du pl'),rfl⟩,?_⟩
    have:=hs.2
    simp only[zE,ye,List.isEmpty_nil,if_true]at this ⊢;exact decide_eq_true (by first|lia|omega)
   ·cases h
  ·cases h
 ·cases h
theorem AB(C:aN Γ S X){f:Str}{as:List Expr}{p1 p4:Pos}{i:IE}{k:Option IE}(h:CJ S r f as k=some i)(hk:k=some i->PE X (.Call (.Name f p1) as [] p4) (LE X.K (ae Γ i))):PE X (.Call (.Name f p1) as [] p4) (LE X.K (ae Γ i)):=by
 unfold CJ at h;split at h
 ·split at h
  ·rename_i ho
   split at h
   ·rename_i hp
    obtain⟨x,h1,h⟩:=aj h;cases h;exact CI C ho hp (hr _ _ h1)
   ·cases h
  ·exact hk h
 ·exact hk h
omit hr in
theorem C0(C:aN Γ S X){f:Str}{a:Expr}{as:List Expr}{p1 p4:Pos}{i:IE}{k:Option IE}(h:uf S f (rs (a::as)) k=some i)(hk:k=some i->PE X (.Call (.Name f p1) (a::as) [] p4) (LE X.K (ae Γ i))):PE X (.Call (.Name f p1) (a::as) [] p4) (LE X.K (ae Γ i)):=by
 unfold uf at h;split at h
 ·rename_i hs
  unfold CZ at hs;simp only[zl,beq_iff_eq]at hs;obtain⟨⟨h1,h2⟩,h3⟩:=hs;subst h1;obtain⟨o1,o2,o3⟩:=bH h2;obtain⟨xs,h4,rfl⟩:=zu.mp h;obtain⟨k',fa,fd,ps,g1,g2,g3,g4,g5,g6⟩:=C.rfs;obtain⟨pa,pl⟩:=hrs _ _ h4;rw[zX,zl]at pl;exact PE.imp (qM g4 g5 (C.bE h3) g1 g2 g3 .nil Jv pa o1 (aC pl.1) (du pl.2)) fun σ H Q q=>LE.call σ H Q g6 q
 ·exact hk h
theorem DP(C:aN Γ S X){f:Str}{as:List Expr}{p1 p4:Pos}{i:IE}{k:Option IE}(h:HQ S r f as k=some i)(hk:k=some i->PE X (.Call (.Name f p1) as [] p4) (LE X.K (ae Γ i))):PE X (.Call (.Name f p1) as [] p4) (LE X.K (ae Γ i)):=by
 unfold HQ at h;split at h
 ·split at h
  ·rename_i ho
   rw[zl]at ho;split at h
   ·rename_i hp
    obtain⟨x,h1,h⟩:=aj h;cases h;exact Fv C ho.2 hp (hr _ _ h1)
   ·cases h
  ·exact hk h
 ·exact hk h
theorem Ir(hsrt:iE Γ)(C:aN Γ S X){f:Str}{as:List Expr}{p1 p4:Pos}{i:IE}(h:Gg S r rs f as=some i):PE X (.Call (.Name f p1) as [] p4) (LE X.K (ae Γ i)):=by
 unfold Gg at h;split at h
 ·split at h
  ·exact CM hr hsrt C h
  ·split at h
   ·exact DU hr C h
   ·
    refine AB hr hrs C h fun h=>?_;refine DP hr hrs C h fun h=>?_;refine C0 hrs C h fun h=>?_;exact Ed hrs C h
 ·cases h
theorem AV(hsrt:iE Γ)(C:aN Γ S X){f:Expr}{as:List Expr}{p:Pos}{i:IE}(h:tj S r rs f as p=some i):PE X (.Call f as [] p) (LE X.K (ae Γ i)):=by
 unfold tj at h;split at h
 ·exact Ir hr hrs hsrt C h
 ·exact Ej hr hrs C h
 ·cases h
end
theorem BS{gs:List Comprehension}{x:Str}{p:Pos}{iter:Expr}{ifs:List Expr}(h:nT gs=some (x,p,iter,ifs)):gs=[⟨.Name x p,iter,ifs,0⟩]:=by
 unfold nT at h;split at h
 ·cases h;rfl
 ·cases h
theorem KL(hsrt:iE Γ)(ih:Sound Γ n)(S:Sc)(X:Cx)(e:Expr)(i:IE)(C:aN Γ S X)(h:cE S (n+1) e=some i):PE X e (LE X.K (ae Γ i)):=by
 have hr:∀e i,cE S n e=some i->PE X e (LE X.K (ae Γ i)):=fun e i h=>ih.E _ _ _ _ C h;have hrs:∀es i,mi S n es=some i->PA X es (LA X.K (bu Γ i))/\es.all bx=true:=fun e i h=>ih.Es _ _ _ _ C h;cases e with
 |Name x p=>exact DI C h
 |Constant c k p=>exact AS h
 |BinOp a op b p =>
  have h:(if BE op=true then (do let x<-cE S n a;let y<-cE S n b;some (IE.bin op x y)) else none)=some i:=h;split at h
  ·obtain⟨x,h1,h⟩:=aj h
   obtain⟨y,h2,h⟩:=aj h;cases h;exact PE.imp (Qk (Nt op) (hr _ _ h1) (hr _ _ h2)) (LE.bin nE)
  ·cases h
 |Compare a ops bs p=>exact(qf hr C h).1
 |BoolOp op es p=>exact Ef hr h
 |UnaryOp op a p=>exact G2 hr h
 |IfExp c a b p =>
  obtain⟨k,h0,h⟩:=aj h;obtain⟨x,h1,h⟩:=aj h;obtain⟨y,h2,h⟩:=aj h;cases h;exact PE.imp (HA (ih.C _ _ _ _ C h0) (hr _ _ h1) (hr _ _ h2)) (LE.ite)
 |Tuple es k p =>
  obtain⟨x,h1,h⟩:=aj h;cases h;exact PE.imp (Fg (hrs _ _ h1).1) (LE.tup)
 |List es p =>
  obtain⟨x,h1,h⟩:=aj h;cases h;exact PE.imp (Ng (hrs _ _ h1).1) (LE.lst)
 |Dict ks vs p =>
  cases ks with
  |nil =>
   cases vs with
   |nil=>cases h;exact PE.imp HB (LE.aO)
   |cons a l=>cases h
  |cons a l=>cases h
 |Subscript a b p=>exact EH hr C (fun e i h=>ih.O _ _ _ _ C h) h
 |Call f as ks p =>
  have h:(if ks.isEmpty=true then tj S (cE S n) (mi S n) f as p else none)=some i:=h;split at h
  ·rename_i hk
   have hk:ks=[]:=xU.mp hk;subst hk;exact AV hr hrs hsrt C h
  ·cases h
 |ListComp elt gs sc p =>
  have h:(match nT gs with
   |some (x,_,iter,ifs)=>if gy S sc [x]=true then (do
     let it<-cT S n iter
     let c<-GG (S.comp sc [x]) n ifs
     let e<-cE (S.comp sc [x]) n elt
     some (IE.comp ((slot S.N x).getD S.N.length) it c e)) else none
   |none=>none)=some i:=h
  split at h
  ·rename_i x px iter ifs hg
   rw[BS hg];split at h
   ·rename_i hc
    obtain⟨it,h1,h⟩:=aj h;obtain⟨c,h2,h⟩:=aj h;obtain⟨y,h3,h⟩:=aj h;cases h;obtain⟨t1,t2⟩:=ih.T _ X (.Name x px) _ _ C h1;exact HC C hc t1 t2 (fun X' C' _=>ih.Co _ _ _ _ C' h2) (fun X' C' _=>ih.E _ _ _ _ C' h3)
   ·cases h
  ·cases h
 |_=>cases h
theorem He(ih:Sound Γ n)(S:Sc)(X:Cx)(es:List Expr)(i:eZ)(C:aN Γ S X)(h:mi S (n+1) es=some i):PA X es (LA X.K (bu Γ i))/\es.all bx=true:=by
 cases es with
 |nil =>
  cases (show some eZ.nil=some i from h);exact⟨PA.imp cN LA.nil,rfl⟩
 |cons e es =>
  replace h:(if bx e then (do let x<-cE S n e;let xs<-mi S n es;some (.cons x xs)) else none)=some i:=h;split at h
  ·rename_i hp
   obtain⟨x,h1,h⟩:=aj h;obtain⟨xs,h2,h⟩:=aj h;cases h;obtain⟨p1,p2⟩:=ih.Es _ _ _ _ C h2;exact⟨PA.imp (a7 (ih.E _ _ _ _ C h1) p1 (aC hp)) LA.cons,by rw[zX,hp,p2];rfl⟩
  ·cases h
theorem KJ(ih:Sound Γ n)(S:Sc)(X:Cx)(e:Option Expr)(i:nr)(C:aN Γ S X)(h:cO S (n+1) e=some i):PO X e (LO X.K (gY Γ i)):=by
 cases e with
 |none =>
  cases (show some nr.none=some i from h);exact PO.imp Le LO.none
 |some e =>
  replace h:(do let x<-cE S n e;some (nr.some x))=some i:=h;obtain⟨x,h1,h⟩:=aj h;cases h;exact PO.imp (Ld (ih.E _ _ _ _ C h1)) LO.some
theorem Hf(ih:Sound Γ n)(S:Sc)(X:Cx)(e:List Expr)(i:oJ)(C:aN Γ S X)(h:GG S (n+1) e=some i):lz X e (LT X.K (i0 Γ i)):=by
 rcases e with _|⟨c,_|⟨c2,l⟩⟩
 ·cases (show some oJ.none=some i from h)
  exact lz.imp K7 fun σ H Q q=>by
   obtain⟨ι,ρ,M,b,M',S,R,e,k⟩:=q;obtain⟨rfl,rfl⟩:=af e;exact k H ι S Ext.refl
 ·replace h:(do let k<-cC S n c;some (oJ.some k))=some i:=h
  obtain⟨x,h1,h⟩:=aj h;cases h;exact K6 (ih.C _ _ _ _ C h1)
 ·cases (show (none:Option oJ)=some i from h)
theorem kO{X:Cx}{e:Expr}{t t':TT}(h:PW X e t)(k:∀σ H Q,t' σ H Q->t σ H Q):PW X e t':=fun whole Zz s σ H Q I q=>h whole Zz s σ H Q I (k σ H Q q)
theorem Bf{b:Expr}{f:Str}{p q:Pos}{as:List Expr}(h:kz b=some (f,p,as,q)):b=.Call (.Name f p) as [] q:=by
 unfold kz at h;split at h
 ·cases h;rfl
 ·cases h
theorem BU{e:Expr}{env:Env}(h:JF e=true):∀x,foldedSetIterable e env x=pure x:=by
 intro x;cases e <;> first|rfl|exact absurd h zk
theorem CW{S:Sc}{X:Cx}{r:Expr->Option IE}(hr:∀e i,r e=some i->PE X e (LE X.K (ae Γ i)))(C:aN Γ S X){tg:Expr}{f:Str}{as:List Expr}{p q:Pos}{i:IT}(h:CY S r f as=some i):PI X tg (.Call (.Name f p) as [] q) (LI X.K (ed Γ i)):=by
 unfold CY at h;split at h
 ·rename_i hs
  unfold Jp at hs;simp only[zl,beq_iff_eq]at hs;obtain⟨⟨⟨⟨h1,h2⟩,h3⟩,h4⟩,h5⟩:=hs;subst h1;split at h
  ·simp only[zX,vW,vQ]at h5
   obtain⟨x,g1,h⟩:=aj h;cases h;exact PI.imp (Fc (C.bE h3) (C.aY _ (aR h4)) (a7 (hr _ _ g1) cN (aC h5)) (aC h5)) LI.rng1
  ·simp only[zX,vW,vQ,zl]at h5
   obtain⟨x,g1,h⟩:=aj h;obtain⟨y,g2,h⟩:=aj h;cases h;exact PI.imp (Fb (C.bE h3) (C.aY _ (aR h4)) (a7 (hr _ _ g1) (a7 (hr _ _ g2) cN (aC h5.2)) (aC h5.1)) (by rw[aC h5.1,aC h5.2];rfl) (aC h5.2)) LI.ue
  ·cases h
 ·cases h
theorem KG(ih:Sound Γ n)(S:Sc)(X:Cx)(tg e:Expr)(i:IT)(C:aN Γ S X)(h:cT S (n+1) e=some i):PI X tg e (LI X.K (ed Γ i))/\∀x,foldedSetIterable e X.env x=pure x:=by
 have seq:(cE S n e).map IT.seq=some i->PI X tg e (LI X.K (ed Γ i)):=fun h=>by
  obtain⟨x,h1,rfl⟩:=zu.mp h;exact PI.imp (Fe (ih.E _ _ _ _ C h1)) LI.seq
 have h:(match kz e with
  |some (f,_,as,_)=>if (f==("range":Str))=true then CY S (cE S n) f as else (cE S n e).map IT.seq
  |none=>if JF e=true then (cE S n e).map IT.seq else none)=some i:=h
 split at h
 ·rename_i f p as q hg
  have he:=Bf hg;split at h
  ·refine⟨?_,by rw[he];exact fun _=>rfl⟩
   rw[he];exact CW (fun e i h=>ih.E _ _ _ _ C h) C h
  ·exact⟨seq h,by rw[he];exact fun _=>rfl⟩
 ·split at h
  ·rename_i hit
   exact⟨seq h,BU hit⟩
  ·cases h
theorem D7{X:Cx}{r:Expr->Option IC}(hr:∀e i,r e=some i->PT X e (LT X.K (a9 Γ i))){op:BoolOp}{es:List Expr}{pos:Pos}{i:IC}(h:D8 r op es=some i):PT X (.BoolOp op es pos) (LT X.K (a9 Γ i)):=by
 unfold D8 at h;split at h
 ·obtain⟨k,h1,h⟩:=aj h
  obtain⟨j,h2,h⟩:=aj h;cases h;cases op with
  |And=>exact PT.imp (kP (hr _ _ h1) (qG (hr _ _ h2))).pt LT.and
  |Or=>exact PT.imp (ny (hr _ _ h1) (uv (hr _ _ h2))).pt LT.or
 ·obtain⟨k,h1,h⟩:=aj h
  obtain⟨j,h2,h⟩:=aj h;obtain⟨l,h3,h⟩:=aj h;cases h;cases op with
  |And=>exact PT.imp (kP (hr _ _ h1) (kO (kP (hr _ _ h2) (qG (hr _ _ h3))) LT.and)).pt LT.and
  |Or=>exact PT.imp (ny (hr _ _ h1) (kO (ny (hr _ _ h2) (uv (hr _ _ h3))) LT.or)).pt LT.or
 ·obtain⟨k,h1,h⟩:=aj h
  obtain⟨j,h2,h⟩:=aj h;obtain⟨l,h3,h⟩:=aj h;obtain⟨m,h4,h⟩:=aj h;cases h;cases op with
  |And=>exact PT.imp (kP (hr _ _ h1) (kO (kP (hr _ _ h2) (kO (kP (hr _ _ h3) (qG (hr _ _ h4))) LT.and)) LT.and)).pt LT.and
  |Or=>exact PT.imp (ny (hr _ _ h1) (kO (ny (hr _ _ h2) (kO (ny (hr _ _ h3) (uv (hr _ _ h4))) LT.or)) LT.or)).pt LT.or
 ·cases h
theorem KN(ih:Sound Γ n)(S:Sc)(X:Cx)(e:Expr)(i:IC)(C:aN Γ S X)(h:cC S (n+1) e=some i):PT X e (LT X.K (a9 Γ i)):=by
 cases e with
 |UnaryOp op a p =>
  have h:(if (op==.Not)=true then (cC S n a).map IC.not else none)=some i:=h;split at h
  ·rename_i ho
   have ho:op=.Not:=by simpa using ho
   subst ho;obtain⟨k,h1,rfl⟩:=zu.mp h;exact PT.imp (MU (ih.C _ _ _ _ C h1)) LT.not
  ·cases h
 |BoolOp op es p=>exact D7 (fun e i h=>ih.C _ _ _ _ C h) h
 |Compare a ops bs p =>
  obtain⟨k,h1,rfl⟩:=zu.mp (show (Ab S (cE S n) a ops bs).map IC.cmp=some i from h);exact(qf (fun e i h=>ih.E _ _ _ _ C h) C h1).2
 |Name x p =>
  obtain⟨k,h1,rfl⟩:=zu.mp (show (cE S n (.Name x p)).map IC.tru=some i from h);exact uw (ih.E _ _ _ _ C h1) fun _=>rfl
 |Call f as ks p =>
  obtain⟨k,h1,rfl⟩:=zu.mp (show (cE S n (.Call f as ks p)).map IC.tru=some i from h);exact uw (ih.E _ _ _ _ C h1) fun _=>rfl
 |Subscript a b p =>
  obtain⟨k,h1,rfl⟩:=zu.mp (show (cE S n (.Subscript a b p)).map IC.tru=some i from h);exact uw (ih.E _ _ _ _ C h1) fun _=>rfl
 |_=>cases h
theorem sound(hsrt:iE Γ):∀n,Sound Γ n
 |0=>⟨(fun _ _ _ i _ h=>by cases (show (none:Option IE)=some i from h)),(fun _ _ _ i _ h=>by cases (show (none:Option eZ)=some i from h)),(fun _ _ _ i _ h=>by cases (show (none:Option nr)=some i from h)),(fun _ _ _ _ i _ h=>by cases (show (none:Option IT)=some i from h)),(fun _ _ _ i _ h=>by cases (show (none:Option IC)=some i from h)),(fun _ _ _ i _ h=>by cases (show (none:Option oJ)=some i from h))⟩
 |n+1=>⟨KL hsrt (sound hsrt n),He (sound hsrt n),KJ (sound hsrt n),KG (sound hsrt n),KN (sound hsrt n),Hf (sound hsrt n)⟩
end
end L3
namespace L3
open PySem PySem.Spec PyProof.Rows L2
section
variable {Γ:Ctx}{n:Nat}{K:Q_}
theorem LS.set{i:Nat}{fe:DE}(D:Ends)(σ:St)(H:Hp)(h:LS K (fun ρ=>do let x<-fe ρ;pure (.nx (ρ.set i (some x)))) D σ H):tT (LE K fe) (iu i) D σ H:=by
 obtain⟨ι,ρ,M,fl,M',S,R,e,k⟩:=h;have e0:=aa e;clear e;obtain⟨x,M1,e1,e⟩:=e0;have e0:=af e;clear e;obtain⟨rfl,rfl⟩:=e0;exact⟨ι,ρ,M,x,_,S,R,e1,fun v H1 ι1 r1 S1 X1=>k H1 ι1 S1 X1 _ ((R.mono X1).set r1 i)⟩
theorem LS.setIx{fo fi fe:DE}(D:Ends)(σ:St)(H:Hp)(h:LS K (fun ρ=>do let v<-fe ρ;let x<-fo ρ;let y<-fi ρ;setIx x y v;pure (.nx ρ)) D σ H):tT (LE K fe) (OM (LE K fo) (LE K fi) (Ph K)) D σ H:=by
 obtain⟨ι,ρ,M,fl,M',S,R,e,k⟩:=h;have e0:=aa e;clear e;obtain⟨v,M1,e1,e⟩:=e0;have e0:=aa e;clear e;obtain⟨x,M2,e2,e⟩:=e0;have e0:=aa e;clear e;obtain⟨y,M3,e3,e⟩:=e0;have e0:=aa e;clear e;obtain⟨u,M4,e4,e⟩:=e0;have e0:=af e;clear e;obtain⟨rfl,rfl⟩:=e0;refine⟨ι,ρ,M,v,M1,S,R,e1,fun v1 H1 ι1 r1 S1 X1=>?_⟩;refine⟨ι1,ρ,M1,x,M2,S1,R.mono X1,e2,fun v2 H2 ι2 r2 S2 X2=>?_⟩;refine⟨ι2,ρ,M2,y,M3,S2,(R.mono X1).mono X2,e3,fun v3 H3 ι3 r3 S3 X3=>?_⟩;exact⟨ι3,M3,_,x,y,v,u,S3,r2.mono X3,r3,(r1.mono X2).mono X3,e4,fun H4 S4 X4=>k H4 ι3 S4 (((X1.trans X2).trans X3).trans X4) σ ((((R.mono X1).mono X2).mono X3).mono X4)⟩
theorem LS.expr{fe:DE}(D:Ends)(σ:St)(H:Hp)(h:LS K (fun ρ=>do let _<-fe ρ;pure (.nx ρ)) D σ H):Jf (LE K fe) D σ H:=by
 obtain⟨ι,ρ,M,fl,M',S,R,e,k⟩:=h;have e0:=aa e;clear e;obtain⟨x,M1,e1,e⟩:=e0;have e0:=af e;clear e;obtain⟨rfl,rfl⟩:=e0;exact⟨ι,ρ,M,x,_,S,R,e1,fun v H1 ι1 r1 S1 X1=>k H1 ι1 S1 X1 _ (R.mono X1)⟩
theorem LS.ret{fe:DE}(D:Ends)(σ:St)(H:Hp)(h:LS K (fun ρ=>do let x<-fe ρ;pure (.rt x)) D σ H):Mm (LE K fe) D σ H:=by
 obtain⟨ι,ρ,M,fl,M',S,R,e,k⟩:=h;have e0:=aa e;clear e;obtain⟨x,M1,e1,e⟩:=e0;have e0:=af e;clear e;obtain⟨rfl,rfl⟩:=e0;exact⟨ι,ρ,M,x,_,S,R,e1,fun v H1 ι1 r1 S1 X1=>k H1 ι1 S1 X1 v r1⟩
theorem LS.v9{fl:Ev->Fl}(D:Ends)(σ:St)(H:Hp)(h:LS K (fun ρ=>pure (fl ρ)) D σ H):∃ι ρ,bY K ι H ρ σ/\SO K D ι H (fl ρ):=by
 obtain⟨ι,ρ,M,f,M',S,R,e,k⟩:=h;have e0:=af e;clear e;obtain⟨rfl,rfl⟩:=e0;exact⟨ι,ρ,R,k H ι S Ext.refl⟩
theorem LS.ifS{fc:Ev->Mo Bool}{fa fb:Ev->Mo Fl}(D:Ends)(σ:St)(H:Hp)(h:LS K (fun ρ=>do let k<-fc ρ;if k=true then fa ρ else fb ρ) D σ H):G6 (LT K fc) (LS K fa) (LS K fb) D σ H:=by
 obtain⟨ι,ρ,M,fl,M',S,R,e,k⟩:=h;have e0:=aa e;clear e;obtain⟨b,M1,e1,e⟩:=e0;refine⟨ι,ρ,M,b,M1,S,R,e1,fun H1 ι1 S1 X1=>?_⟩;split at e
 ·rename_i hb
  rw[if_pos hb];exact⟨ι1,ρ,_,fl,M',S1,R.mono X1,e,fun H' ι' S' X'=>k H' ι' S' (X1.trans X')⟩
 ·rename_i hb
  rw[if_neg hb];exact⟨ι1,ρ,_,fl,M',S1,R.mono X1,e,fun H' ι' S' X'=>k H' ι' S' (X1.trans X')⟩
theorem LS.while{fc:Ev->Mo Bool}{fb:Ev->Mo Fl}{wh:Nat}(D:Ends)(σ:St)(H:Hp)(h:LS K (fun ρ=>d9 fc fb wh ρ) D σ H):EC (LT K fc) (LS K fb) D σ H:=by
 obtain⟨ι,ρ,M,fl,M',S,R,e,k⟩:=h;refine⟨fun m σ' H'=>∃ι' ρ' M2,aJ K ι' M2 H'/\bY K ι' H' ρ' σ'/\Ext K ι H ι' H'/\d9 fc fb m ρ' M2=some (.ok fl,M'),⟨wh,ι,ρ,M,S,R,Ext.refl,e⟩,?_⟩;rintro m σ' H' ⟨ι',ρ',M2,S2,R2,X2,e2⟩;cases m with
 |zero=>exact(ah e2).elim
 |succ m =>
  unfold d9 at e2;have bg:=aa e2;clear e2;obtain⟨b,M3,e3,e2⟩:=bg;refine⟨ι',ρ',M2,b,M3,S2,R2,e3,fun H3 ι3 S3 X3=>?_⟩;cases b with
  |true =>
   rw[if_pos rfl]at e2 ⊢;have bg:=aa e2;clear e2;obtain⟨f,M4,e4,e2⟩:=bg;refine⟨fun σ4 H4=>∃ι' ρ' M2,aJ K ι' M2 H4/\bY K ι' H4 ρ' σ4/\Ext K ι H ι' H4/\d9 fc fb m ρ' M2=some (.ok fl,M'),fun σ4 H4 q=>⟨m,xR _,q⟩,?_⟩;refine⟨ι3,ρ',M3,f,M4,S3,R2.mono X3,e4,fun H4 ι4 S4 X4=>?_⟩;cases f with
   |nx ρ4=>exact fun σ4 R4=>⟨ι4,ρ4,M4,S4,R4,(X2.trans X3).trans X4,e2⟩
   |ct ρ4=>exact fun σ4 R4=>⟨ι4,ρ4,M4,S4,R4,(X2.trans X3).trans X4,e2⟩
   |bk ρ4 =>
    have bg:=af e2;clear e2;obtain⟨rfl,rfl⟩:=bg;exact fun σ4 R4=>k H4 ι4 S4 ((X2.trans X3).trans X4) σ4 R4
   |rt v =>
    have bg:=af e2;clear e2;obtain⟨rfl,rfl⟩:=bg;exact fun v' r'=>k H4 ι4 S4 ((X2.trans X3).trans X4) v' r'
  |false =>
   rw[if_neg zk]at e2 ⊢;have bg:=af e2;clear e2;obtain⟨rfl,rfl⟩:=bg;exact k H3 ι3 S3 (X2.trans X3) σ' (R2.mono X3)
theorem LS.seq{fa fb:Ev->Mo Fl}(D:Ends)(σ:St)(H:Hp)(h:LS K (fun ρ=>do
  let f<-fa ρ
  (match f with
  |.nx ρ'=>fb ρ'
  |.rt v=>pure (.rt v)
  |.bk ρ'=>pure (.bk ρ')
  |.ct ρ'=>pure (.ct ρ'))) D σ H):G5 (LS K fa) (LS K fb) D σ H:=by
 obtain⟨ι,ρ,M,fl,M',S,R,e,k⟩:=h;have e0:=aa e;clear e;obtain⟨f,M1,e1,e⟩:=e0;refine⟨ι,ρ,M,f,M1,S,R,e1,fun H1 ι1 S1 X1=>?_⟩;cases f with
 |nx ρ1=>exact fun σ1 R1=>⟨ι1,ρ1,M1,fl,M',S1,R1,e,fun H' ι' S' X'=>k H' ι' S' (X1.trans X')⟩
 |rt v=>have e0:=af e;clear e;obtain⟨rfl,rfl⟩:=e0;exact k H1 ι1 S1 X1
 |bk ρ1=>have e0:=af e;clear e;obtain⟨rfl,rfl⟩:=e0;exact k H1 ι1 S1 X1
 |ct ρ1=>have e0:=af e;clear e;obtain⟨rfl,rfl⟩:=e0;exact k H1 ι1 S1 X1
structure qo (Γ:Ctx) (n:Nat):Prop where
 S:∀(S:Sc) (X:Cx) (e:Zy) (i:IS),aN Γ S X->(∀x,X.fn x=true)->cS S n e=some i->PS X e (LS X.K (bz Γ i))
 Ss:∀(S:Sc) (X:Cx) (e:List Zy) (i:aE),aN Γ S X->(∀x,X.fn x=true)->cX S n e=some i->c0 X e (LS X.K (aq Γ i))
end
section
variable {Γ:Ctx}{n:Nat}
theorem EG{e o i:Expr}{p:Pos}{l:Nat}{env:Env}:swapsWithSole [.Subscript o i p] e l env=pure false/\swappedStores [.Subscript o i p] e env=pure none:=by
 constructor
 ·cases e <;> rfl
 ·cases e <;> rfl
theorem KA{e:Expr}{x:Str}{p:Pos}{l:Nat}{env:Env}(hn:kW e=true):swapsWith e (some (.Name x p)) l env=pure false:=by
 cases e <;> first|rfl|cases hn
theorem A8{e:Expr}{l:Nat}{env:Env}(hn:kW e=true):swapsWith e none l env=pure false:=by
 cases e <;> first|rfl|cases hn
theorem O7{o i:Expr}{p:Pos}{env:Env}(h:JD i=true):∀v,assign (.Subscript o i p) env v=(do
   let ov<-holding [v] (eval o env)
   let iv<-holding [v,ov] (eval i env)
   standAt p
   holding [v,ov,iv] (setItem ov iv v)
   release [v,ov,iv] []):=by
 intro v;cases i <;> first|rfl|exact absurd h zk
theorem Hv{S:Sc}{X:Cx}{sc:Scope}{x y:Str}{px pos py CL:Pos}{elt iter:Expr}{ifs:List Expr}{j i:Nat}{fs:Ev->Mo Src}{fc:Ev->Mo Bool}{fe:DE}(C:aN Γ S X)(h:gy S sc [x]=true)(hi:PI X (.Name x px) iter (LI X.K fs))(hs:∀x,foldedSetIterable iter X.env x=pure x)
  (htc:∀X',aN Γ (S.comp sc [x]) X'->X'.K=X.K->lz X' ifs (LT X'.K fc)) (hte:∀X',aN Γ (S.comp sc [x]) X'->X'.K=X.K->PE X' elt (LE X'.K fe)) (hy:X.N[i]?=some y) (hl:Loc X.env.scope y) (hf:X.fn y=true) :
  PS X (.Assign [.Name y py] (.ListComp elt [⟨.Name x px,iter,ifs,0⟩] sc pos) CL) (LS X.K (fun ρ=>do
   let v<-(do
    let s<-fs ρ
    need (s.ds.length<=zg)
    let ys<-eg s.ck fc fe (ρ.set j none) s.ds
    bI (.lst ys))
   pure (.nx (ρ.set i (some v))))):=by
 intro Zz s σ H D I q;have CS:=sy C I.ok h;have q2:=LS.set D σ H q;exact Lb C.calm CS (fun _ _ _ _=>Ff CS rfl _ _ _ _) hi (fun Ca s H fp=>htc _ (nW C h _ Ca s H fp) rfl) (fun Ca s H fp=>hte _ (nW C h _ Ca s H fp) rfl) hs C.nd hy hl (.inl hf) Zz s σ H D I (LE.comp σ H _ q2)
theorem LV{v elt:Expr}{gs:List Comprehension}{sc:Scope}(h:Ea v=some (elt,gs,sc)):∃p,v=.ListComp elt gs sc p:=by
 cases v with
 |ListComp a b c p=>cases h;exact⟨p,rfl⟩
 |_=>cases h
theorem D6(hE:∀n,Sound Γ n){S:Sc}{X:Cx}(C:aN Γ S X){es:List Expr}{k1:Nat}{p1 p q:Pos}{f:Str}{as:List Expr}{i:IP}(h1:f = "enumerate")(h:J8 S (cE S n) f as=some i):PI X (.Tuple es k1 p1) (.Call (.Name f p) as [] q) (oI X.K (ky Γ i)):=by
 rcases as with _|⟨a,_|⟨_,_⟩⟩
 ·cases h
 ·replace h:(if bM f&&S.bE f&&S.aY.contains f&&bx a then (cE S n a).map IP.enum else none)=some i:=h
  split at h
  ·rename_i hs
   simp only[zl]at hs;obtain⟨⟨⟨h2,h3⟩,h4⟩,h5⟩:=hs;obtain⟨x,g,rfl⟩:=zu.mp h;subst h1;exact PI.imp (Lg (C.bE h3) (C.aY _ (aR h4)) (a7 ((hE n).E _ _ _ _ C g) cN (aC h5)) (aC h5)) oI.enum
  ·cases h
 ·cases h
theorem KI(hE:∀n,Sound Γ n){S:Sc}{X:Cx}(C:aN Γ S X){es:List Expr}{k1:Nat}{p1:Pos}{e:Expr}{i:IP}(h:cP S n e=some i):PI X (.Tuple es k1 p1) e (oI X.K (ky Γ i))/\∀x,foldedSetIterable e X.env x=pure x:=by
 have seq:(cE S n e).map IP.seq=some i->PI X (.Tuple es k1 p1) e (oI X.K (ky Γ i)):=fun h=>by
  obtain⟨x,h1,rfl⟩:=zu.mp h;exact PI.imp (Fe ((hE n).E _ _ _ _ C h1)) fun σ H R q=>LI.seq σ H R (oI.to σ H R q)
 delta cP at h;cases hr:kz e with
 |some q =>
  obtain⟨f,p,as,q⟩:=q;rw[hr]at h;dsimp only at h;have he:=Bf hr;split at h
  ·rename_i hf
   refine⟨?_,by rw[he];exact fun _=>rfl⟩;rw[he];exact D6 hE C (by simpa using hf) h
  ·exact⟨seq h,by rw[he];exact fun _=>rfl⟩
 |none =>
  rw[hr]at h;dsimp only at h;split at h
  ·rename_i hit
   exact⟨seq h,BU hit⟩
  ·cases h
theorem Fn{e:Expr}{x:Str}{p:Pos}(h:rS e=some (x,p)):e=.Name x p:=by
 cases e <;> first|cases h;rfl|cases h
theorem DB(hE:∀n,Sound Γ n){S:Sc}{X:Cx}(C:aN Γ S X)(hf:∀x,X.fn x=true)(hp:PassesOwn (model X.prog X.w) X.A X.env X.xe){a b iter:Expr}{body:List Zy}{r:Option aE}{i:IS}{k1:Nat}{p1 p:Pos}(hb:∀y,r=some y->c0 X body (LS X.K (aq Γ y)))
  (h:nC S n a b iter r=some i):PS X (.For (.Tuple [a,b] k1 p1) iter body [] p) (LS X.K (bz Γ i)):=by
 delta nC at h;cases ha:rS a with
 |none=>rw[ha]at h;cases h
 |some q =>
  obtain⟨x,pa⟩:=q;rw[ha]at h;dsimp only at h;cases F7:rS b with
  |none=>rw[F7]at h;cases h
  |some q =>
   obtain⟨y,pb⟩:=q;rw[F7]at h;dsimp only at h;obtain rfl:=Fn ha;obtain rfl:=Fn F7;split at h
   ·rename_i hl
    rw[zl]at hl;obtain⟨i1,h1,h⟩:=aj h;obtain⟨j1,h2,h⟩:=aj h;obtain⟨it,h3,h⟩:=aj h;obtain⟨z,h4,h⟩:=aj h;cases h;have Sd:=slot_get h1;rw[<- C.n]at Sd;have Sb:=slot_get h2;rw[<- C.n]at Sb;obtain⟨t1,t2⟩:=KI hE C h3;exact PS.imp (uB hp C.calm t1 (Na C.calm (uE (kS C.nd Sd (C.loc hl.1) (.inl (hf x))) (uE (kS C.nd Sb (C.loc hl.2) (.inl (hf y))) Lh))) (hb _ h4) t2) LS.Qs
   ·cases h
theorem KH(hE:∀n,Sound Γ n)(ih:qo Γ n)(S:Sc)(X:Cx)(e:Zy)(i:IS)(C:aN Γ S X)(hf:∀x,X.fn x=true)(h:cS S (n+1) e=some i):PS X e (LS X.K (bz Γ i)):=by
 have hp:PassesOwn (model X.prog X.w) X.A X.env X.xe:=by rw[C.dQ];exact PassesOwn.never
 cases e with
 |Assign ts v pos =>
  replace h:O6 S n ts v=some i:=h;rcases ts with _|⟨t,_|⟨t2,ts⟩⟩
  ·cases h
  ·replace h:IK S n t v=some i:=h
   cases t with
   |Name x p =>
    replace h:IL S n x v=some i:=h;delta IL at h;cases hc:Ea v with
    |some q =>
     obtain⟨elt,gs,sc⟩:=q;rw[hc]at h;dsimp only at h;cases hg:nT gs with
     |none=>rw[hg]at h;cases h
     |some q =>
      obtain⟨y,py,iter,ifs⟩:=q;rw[hg]at h;dsimp only at h;obtain⟨cp,rfl⟩:=LV hc;obtain rfl:=BS hg;split at h
      ·rename_i hl
       rw[zl]at hl;obtain⟨i',h1,h⟩:=aj h;obtain⟨it,g1,h⟩:=aj h;obtain⟨c,g2,h⟩:=aj h;obtain⟨y',g3,h⟩:=aj h;cases h;have hN:=slot_get h1;rw[<- C.n]at hN;obtain⟨t1,t2⟩:=(hE n).T _ X (.Name y py) _ _ C g1;exact Hv C hl.2 t1 t2 (fun X' C' _=>(hE n).Co _ _ _ _ C' g2) (fun X' C' _=>(hE n).E _ _ _ _ C' g3) hN (C.loc hl.1) (hf x)
      ·cases h
    |none =>
     rw[hc]at h;dsimp only at h;split at h
     ·rename_i hl
      rw[zl]at hl;obtain⟨j,h1,h⟩:=aj h;obtain⟨y,h2,h⟩:=aj h;cases h;have hN:=slot_get h1;rw[<- C.n]at hN;exact PS.imp (ux C.nd hN (C.loc hl.1) ((hE n).E _ _ _ _ C h2) (KA hl.2) (.inl (hf x))) LS.set
     ·cases h
   |Subscript o ix p =>
    delta IK at h;dsimp only at h;split at h
    ·rename_i Oh
     obtain⟨y,h1,h⟩:=aj h;obtain⟨a,h2,h⟩:=aj h;obtain⟨b,h3,h⟩:=aj h;cases h;exact PS.imp (MV ((hE n).E _ _ _ _ C h1) (Nb ((hE n).E _ _ _ _ C h2) ((hE n).E _ _ _ _ C h3) (ME C.hu) (O7 Oh)) EG.1 (EG (l:=0)).2 rfl) LS.setIx
    ·cases h
   |_=>cases h
  ·cases h
 |Expr e pos =>
  replace h:(if kW e then (do let y<-cE S n e;some (.expr y)) else none)=some i:=h;split at h
  ·rename_i hn
   obtain⟨y,h1,h⟩:=aj h;cases h;exact PS.imp (Bh ((hE n).E _ _ _ _ C h1) (A8 hn)) LS.expr
  ·cases h
 |Return o pos =>
  cases o with
  |some e =>
   replace h:(do let y<-cE S n e;some (.ret y))=some i:=h;obtain⟨y,h1,h⟩:=aj h;cases h;exact PS.imp (uA ((hE n).E _ _ _ _ C h1)) LS.ret
  |none =>
   cases h;exact PS.imp K9 fun D σ H q=>by
    obtain⟨ι,ρ,R,k⟩:=LS.v9 D σ H q;exact k .non .non
 |Raise a b c =>
  have hz:i=.rz\/i=.halt:=by
   have h:some (ER S a b)=some i:=h;cases h;unfold ER;cases a with
   |none=>exact .inr rfl
   |some e =>
    cases b with
    |some _=>exact .inr rfl
    |none =>
     dsimp only;split
     ·exact .inl rfl
     ·exact .inr rfl
  clear h;rcases hz with rfl|rfl
  ·intro Zz s σ H D I q
   obtain⟨ι,ρ,M,fl,M',S',R,e,k⟩:=q;exact(ah e).elim
  intro Zz s σ H D I q;obtain⟨ι,ρ,M,fl,M',S',R,e,k⟩:=q;exact(ah e).elim
 |Pass p =>
  cases h;exact PS.imp La fun D σ H q=>by
   obtain⟨ι,ρ,R,k⟩:=LS.v9 D σ H q;exact k σ R
 |Break p =>
  cases h;exact PS.imp Hw fun D σ H q=>by
   obtain⟨ι,ρ,R,k⟩:=LS.v9 D σ H q;exact k σ R
 |Continue p =>
  cases h;exact PS.imp AN fun D σ H q=>by
   obtain⟨ι,ρ,R,k⟩:=LS.v9 D σ H q;exact k σ R
 |If c a b p =>
  replace h:(do let k<-cC S n c;let x<-cX S n a;let y<-cX S n b;some (.ifS k x y))=some i:=h;obtain⟨k,h0,h⟩:=aj h;obtain⟨x,h1,h⟩:=aj h;obtain⟨y,h2,h⟩:=aj h;cases h;exact PS.imp (Js ((hE n).C _ _ _ _ C h0) (ih.Ss _ _ _ _ C hf h1) (ih.Ss _ _ _ _ C hf h2)) LS.ifS
 |For t iter b o p =>
  replace h:sU o (v8 S n t iter (cX S n b))=some i:=h;cases o with
  |cons _ _=>cases h
  |nil =>
   replace h:v8 S n t iter (cX S n b)=some i:=h;cases t with
   |Name x p =>
    replace h:(if S.loc x then (do let i<-slot S.N x;let it<-cT S n iter;let y<-cX S n b;some (.forS i it y)) else none)=some i:=h;split at h
    ·rename_i hl
     obtain⟨j,h0,h⟩:=aj h;obtain⟨it,h1,h⟩:=aj h;obtain⟨y,h2,h⟩:=aj h;cases h;have hN:=slot_get h0;rw[<- C.n]at hN;obtain⟨t1,t2⟩:=(hE n).T _ X (.Name x p) _ _ C h1;exact PS.imp (uB hp C.calm t1 (kS C.nd hN (C.loc hl) (.inl (hf x))) (ih.Ss _ _ _ _ C hf h2) t2) LS.loop
    ·cases h
   |Tuple ts k1 p1 =>
    replace h:DC S n ts iter (cX S n b)=some i:=h;rcases ts with _|⟨a,_|⟨b2,_|⟨_,_⟩⟩⟩
    ·cases h
    ·cases h
    ·replace h:nC S n a b2 iter (cX S n b)=some i:=h
     exact DB hE C hf hp (fun y h2=>ih.Ss _ _ _ _ C hf h2) h
    ·cases h
   |_=>cases h
 |While c b o p =>
  cases o with
  |cons _ _=>cases h
  |nil =>
   replace h:(do let k<-cC S n c;let y<-cX S n b;some (.whileS k y))=some i:=h;obtain⟨k,h0,h⟩:=aj h;obtain⟨x,h1,h⟩:=aj h;cases h;exact PS.imp (Hu hp ((hE n).C _ _ _ _ C h0) (ih.Ss _ _ _ _ C hf h1)) LS.while
 |_=>cases h
theorem Hd(ih:qo Γ n)(S:Sc)(X:Cx)(e:List Zy)(i:aE)(C:aN Γ S X)(hf:∀x,X.fn x=true)(h:cX S (n+1) e=some i):c0 X e (LS X.K (aq Γ i)):=by
 unfold cX at h;cases e with
 |nil =>
  cases h;exact c0.imp qJ fun D σ H q=>by
   obtain⟨ι,ρ,R,k⟩:=LS.v9 D σ H q;exact k σ R
 |cons s r =>
  obtain⟨x,h1,h⟩:=aj h;obtain⟨y,h2,h⟩:=aj h;cases h;exact c0.imp (gZ (ih.S _ _ _ _ C hf h1) (ih.Ss _ _ _ _ C hf h2)) LS.seq
theorem pM(hE:∀n,Sound Γ n):∀n,qo Γ n
 |0=>⟨(fun _ _ _ _ _ _ h=>by cases h),(fun _ _ _ _ _ _ h=>by unfold cX at h;cases h)⟩
 |n+1=>⟨KH hE (pM hE n),Hd (pM hE n)⟩
end
end L3
namespace L3
open PySem PySem.Spec PyProof.Rows L2
section
variable {M:Model}{A:Zx}{E:jp->kt->Prop}{s:kt}
noncomputable def pC(e T:kw)(cls:jp)(h:Heap):Prop:=∃oe vs oT ts,h.get? e=some oe/\oe.cls=cls/\oe.data=.fields vs/\vs[1]?=some (.ref T)/\T≠e/\h.get? T=some oT/\oT.data=.fields ts/\ts[3]?=some .none
structure Mv (fs ch:List kw) (h h':Heap):Prop where
 keep:∀b o,b ∉ fs->b ∉ ch->h.get? b=some o->h'.get? b=some o
 slot:∀b o,b ∉ ch->h.get? b=some o->∃sl,h'.get? b=some { o with slots:=sl }
 there:∀b o,h.get? b=some o->∃o',h'.get? b=some o'
theorem uH{base:Heap}{env:Env}{outer:List Env}{L e:kw}{oe:Obj}{vs:Array jp}{head:jp}{LM:Bool}{Q:Unit->kt->Prop}
  (F0:A.frames=some (env::outer)) (hl:s.heap.FunFrames base (env::outer)) (hf:env.frame=some L)
  (he:s.heap.get? e=some oe) (hd:oe.data=.fields vs) (hsz:1<vs.size)
  (h:∀h' T,pC e T oe.cls h'->s.heap.objs.size<=T->Mv (fV (env::outer)) [e] s.heap h'->Q () { s with heap:=h' }) :
  wpAny M A (do let a<-frameOf env;let pl<-entryPlaceOf L LM;let b<-EntryCells.newEntry head a .none (rawInt L) .none pl;setField (.ref e) 1 b) (fun _ s'=>wpAny M A (setFlight (.ref e) none) Q E s') E s:=by
 have TX:e ∉ (env::outer).filterMap (·.frame):=fun hm=>by
  obtain⟨_,o,ho,FV⟩:=hl.mem hm;rw[he]at ho;injection ho with ho;subst ho;exact FV vs hd
 refine zy (wpAny_frameOf_fun F0 hl hf fun h1 la=>?_);refine zy (wpAny_entryPlaceOf fun pl ft=>?_);unfold EntryCells.newEntry newFields;refine zy (wpAny_newObj_type ?_ (ft.sizeOk5 _ _ _ _ _));have RT:h1.get? e=some oe:=(la.2.1 e TX).trans he;generalize BH:({ cls:=.type "traceback",dict:=none,data:=.fields ([head,.ref L,.none,rawInt L,.none]++(if pl.isEmpty then yq 6 Value.none else pl)).toArray }:Obj)=ob;have Ic:ob.data=.fields ([head,.ref L,.none,rawInt L,.none]++(if pl.isEmpty then yq 6 Value.none else pl)).toArray:=by rw[<- BH]
 have TN:ob.isFreed=false:=by rw[<- BH];rfl
 have BN:=zq (h:=h1) ob RT;refine wpAny_setField BN hd hsz ?_;have mV:h1.objs.size≠e:=yO (zf RT);have F5:=Obj.data_mapFields hd (·.setIfInBounds 1 (Value.ref h1.objs.size));have Oq:=yu (Obj.mapFields (·.setIfInBounds 1 (Value.ref h1.objs.size))) BN (Obj.isFreed_of_fields F5);have R6:=(zY (h1.push ob) (Obj.mapFields (·.setIfInBounds 1 (Value.ref h1.objs.size))) (Ne.symm mV)).trans (zC h1 TN);unfold setFlight;refine zy (wpAny_field Oq F5 (x:=.ref h1.objs.size) (by simp[hsz]) ?_);rw[if_pos (show (Value.ref h1.objs.size != Value.none)=true from by simp)];refine wpAny_setField R6 Ic (by simp only[ze,zm,zE,ye] <;> omega) (h _ h1.objs.size ?_ (by rw[la.1];exact zp _) ?_)
 ·refine⟨_,_,_,_,?_,Obj.cls_mapFields _ _,F5,by simp[hsz],mV,yu _ R6 (Obj.isFreed_of_fields (Obj.data_mapFields Ic _)),Obj.data_mapFields Ic _,by first|(simp;done)|(rcases ft with rfl|⟨_,_,_,_,_,_,_,rfl⟩ <;> simp)⟩
  rw[zY _ _ mV];exact Oq
 ·have keep:∀b o,b≠e->h1.get? b=some o->(((h1.push ob).update e (Obj.mapFields (·.setIfInBounds 1 (Value.ref h1.objs.size)))).update h1.objs.size (Obj.mapFields (·.setIfInBounds 3 ((none:Option kw).elim Value.none fun f=>rawInt f)))).get? b=some o:=fun b o mf hb=>by
   have JY:h1.objs.size≠b:=yO (zf hb);rw[zY _ _ JY,zY _ _ (Ne.symm mf)];exact zq _ hb
  refine⟨fun b o hf hc hb=>keep b o (by simpa using hc) ((la.2.1 b hf).trans hb),fun b o hc hb=>?_,fun b o hb=>?_⟩
  ·obtain⟨sl,hs⟩:=la.2.2 b o hb
   exact⟨sl,keep b _ (by simpa using hc) hs⟩
  ·by_cases mf:b=e
   ·subst mf
    rw[zY _ _ mV];exact⟨_,Oq⟩
   ·obtain⟨sl,hs⟩:=la.2.2 b o hb
    exact⟨_,keep b _ mf hs⟩
theorem AQ{base:Heap}{env:Env}{outer:List Env}{L e:kw}{oe:Obj}{vs:Array jp}{Q:Unit->kt->Prop}
  (F0:A.frames=some (env::outer)) (hl:s.heap.FunFrames base (env::outer)) (hf:env.frame=some L) (he:s.heap.get? e=some oe) (hd:oe.data=.fields vs) (h1:vs[1]?=some .none)
  (h:∀h' T,pC e T oe.cls h'->s.heap.objs.size<=T->Mv (fV (env::outer)) [e] s.heap h'->Q () { s with heap:=h' }):wpAny M A (leaving env (.ref e)) Q E s:=by
 unfold leaving noteFrame;simp only[hf];refine zy (zy (wpAny_field he hd h1 ?_));rw[if_neg (by decide)];exact uH F0 hl hf he hd (yI.mp h1).1 h
theorem uP{base:Heap}{env:Env}{outer:List Env}{L e T:kw}{cls:jp}{Q:Unit->kt->Prop}
  (F0:A.frames=some (env::outer)) (hl:s.heap.FunFrames base (env::outer)) (hf:env.frame=some L) (ht:pC e T cls s.heap)
  (h:∀h' T',pC e T' cls h'->s.heap.objs.size<=T'->Mv (fV (env::outer)) [e,T] s.heap h'->Q () { s with heap:=h' }):wpAny M A (noteFrame (.ref e) env) (fun _ s2=>wpAny M A (setFlight (.ref e) none) Q E s2) E s:=by
 obtain⟨oe,vs,oT,ts,he,gq,hd,h1,mV,hT,p8,h3⟩:=ht;subst gq;unfold noteFrame;simp only[hf];refine zy (wpAny_field he hd h1 ?_);rw[if_pos (show (Value.ref T != Value.none)=true from by simp)];refine zy (wpAny_field hT p8 h3 ?_);rw[if_neg (show ¬ ((Value.none==rawInt L)=true) from by simp[rawInt])];refine zy (wpAny_setField hT p8 (yI.mp h3).1 ?_);have other:∀b,b≠T->(s.heap.update T (Obj.mapFields (·.setIfInBounds 3 Value.none))).get? b=s.heap.get? b:=fun b hb=>zY _ _ (Ne.symm hb);have noRecord:∀b o,s.heap.get? b=some o->(∀vs,o.data≠.fields vs)->b≠T:=fun b o hb FV q=>by
  rw[q,hT]at hb;injection hb with hb;subst hb;exact FV ts p8
 have WT:∃o',(s.heap.update T (Obj.mapFields (·.setIfInBounds 3 Value.none))).get? T=some o':=⟨_,yu _ hT (Obj.isFreed_of_fields (Obj.data_mapFields p8 _))⟩;refine uH F0 (hl.of_keeps fun b o hb FV=>⟨o,(other b (noRecord b o hb FV)).trans hb,rfl⟩) hf ((other e (Ne.symm mV)).trans he) hd (yI.mp h1).1 fun h' T' hF hT' mv=>h h' T' hF (by rw[yG]at hT';exact hT') ?_;refine⟨fun b o hf hc hb=>?_,fun b o hc hb=>?_,fun b o hb=>?_⟩
 ·simp only[zc,yA,or_false,not_or]at hc
  exact mv.keep b o hf (by simpa using hc.1) ((other b hc.2).trans hb)
 ·simp only[zc,yA,or_false,not_or]at hc
  exact mv.slot b o (by simpa using hc.1) ((other b hc.2).trans hb)
 ·by_cases JY:b=T
  ·subst JY
   obtain⟨o',ho'⟩:=WT;exact mv.there _ _ ho'
  ·exact mv.there b o ((other b JY).trans hb)
theorem lands{e T:kw}{cls:jp}{Q:Unit->kt->Prop}(ht:pC e T cls s.heap)(h:∀h',pC e T cls h'->(∀b o,b≠T->s.heap.get? b=some o->h'.get? b=some o)->Q () { s with heap:=h' }):wpAny M A (setFlight (.ref e) none) Q E s:=by
 obtain⟨oe,vs,oT,ts,he,gq,hd,h1,mV,hT,p8,h3⟩:=ht;have N4:3<ts.size:=(yI.mp h3).1;have other:∀b,b≠T->(s.heap.update T (Obj.mapFields (·.setIfInBounds 3 ((none:Option kw).elim Value.none fun f=>rawInt f)))).get? b=s.heap.get? b:=fun b hb=>zY _ _ (Ne.symm hb);unfold setFlight;refine zy (wpAny_field he hd h1 ?_);rw[if_pos (show (Value.ref T != Value.none)=true from by simp)];refine wpAny_setField hT p8 N4 (h _ ?_ fun b o hb e=>(other b hb).trans e);exact⟨oe,vs,_,_,(other e (Ne.symm mV)).trans he,gq,hd,h1,mV,yu _ hT (Obj.isFreed_of_fields (Obj.data_mapFields p8 _)),Obj.data_mapFields p8 _,by simp[N4]⟩
end
end L3
namespace L3
open PySem PySem.Spec PyProof.Rows L2
section
variable {X:Cx}{Zz:List (kw×Obj)}{σ:L2.St}{H:Hp}{s:kt}{h':Heap}
theorem kf{t':Nat}{ch:List kw}(I:Inv X Zz σ H s)
  (hch:∀b∈ch,X.s₀.heap.get? b=none/\b≠X.env.locals/\(∀x c,X.env.cells.lookup x=some c->c≠b)/\(∀p∈X.pn++Zz,p.1≠b)/\H b=none) (mv:Mv (fV X.stack) ch s.heap h') :
  Inv X Zz σ H { s with heap:=h',toks:=t' }:=by
 have neC:∀b o,X.s₀.heap.get? b=some o->b ∉ ch:=fun b o e hb=>by rw[(hch b hb).1]at e;cases e
 have neS:∀b o,X.s₀.heap.get? b=some o->b ∉ X.fs->b ∉ fV X.stack:=fun b o e hb z=>by
  rcases zc.mp (I.jz b z) with q|q
  ·exact absurd (zB (zf e) (q▸I.ok.above)) (yD _)
  ·exact hb q
 have cellK:∀x c,X.env.cells.lookup x=some c->∀v,s.heap.IsCell c v->h'.IsCell c v:=fun x c e v ⟨o,ho,hd⟩=>by
  obtain⟨sl,q⟩:=mv.slot c o (fun z=>(hch c z).2.2.1 x c e rfl) ho;exact⟨_,q,hd⟩
 refine⟨I.ok,I.os,I.bare,⟨fun b o e n hb hx=>?_,fun b o e n hb hx=>?_,fun b o e n hx=>I.base.free b o e n hx,fun b o e hx=>?_,I.base.iL,I.base.ib,I.base.iM⟩,?_,fun x c e=>?_,I.free,I.dF,fun p hp=>?_,?_,I.len⟩
 ·exact mv.keep b o (neS b o e hb) (neC b o e) (I.base.keep b o e n hb hx)
 ·obtain⟨sl,e1⟩:=I.base.slot b o e n hb hx
  obtain⟨sl',e2⟩:=mv.slot b _ (neC b o e) e1;exact⟨sl',e2⟩
 ·obtain⟨o',e1⟩:=I.base.there b o e hx
  exact mv.there b o' e1
 ·obtain⟨m,⟨o,es,ep,ho,r⟩,hl⟩:=I.loc
  obtain⟨sl,q⟩:=mv.slot _ o (fun z=>(hch _ z).2.1 rfl) ho;refine⟨m,⟨_,es,ep,q,r⟩,fun i x v e1 e2 e3=>?_⟩;obtain⟨u,r,l⟩:=hl i x v e1 e2 e3;refine⟨u,r,?_⟩;rcases l with l|⟨k,c,e,z⟩
  ·exact .inl l
  ·exact .inr ⟨k,c,e,cellK x c e _ z⟩
 ·obtain⟨v,z⟩:=I.cell x c e
  exact⟨v,cellK x c e v z⟩
 ·obtain⟨e,n,ne,nf,d⟩:=I.pin p hp
  refine⟨mv.keep p.1 p.2 (fun z=>(zc.mp (I.jz _ z)).elim ne nf) (fun z=>(hch p.1 z).2.2.2.1 p hp rfl) e,n,ne,nf,d⟩
 ·intro a o ha
  have kk:∀b u o',H b=some o'->s.heap.get? b=some u->h'.get? b=some u:=fun b u o' hb q=>mv.keep b u (fun z=>by rw[I.qx b z]at hb;cases hb) (fun z=>by rw[(hch b z).2.2.2.2]at hb;cases hb) q;refine(I.ax a o ha).lD (fun b u hb q=>?_) (fun _ q=>q) fun _ _ q=>q;rcases hb with rfl|hb
  ·exact kk _ u _ ha q
  ·exact kk b u _ hb q
end
theorem mH{P:ul}{w:ut}{H:Hp}{h:Heap}{a:kw}{o:HO}(x:b9 P w H h a o):∃o,h.get? a=some o:=by
 cases o with
 |lst xs=>obtain⟨_,_,_,_,e⟩:=x;exact⟨_,e⟩
 |tup xs=>obtain⟨_,_,_,⟨_,e,_⟩,_⟩:=x;exact⟨_,e⟩
 |dK kvs=>obtain⟨_,_,_,_,o,_,_,e,_⟩:=x;exact⟨_,e⟩
 |dT kvs=>obtain⟨_,_,_,_,o,_,_,e,_⟩:=x;exact⟨_,e⟩
 |set S n=>obtain⟨o,_,_,_,e,_⟩:=x;exact⟨_,e⟩
 |ins C dx fs=>obtain⟨_,_,_,e,_⟩:=x;exact⟨_,e⟩
 |own y=>exact x
 |xd fs=>obtain⟨_,⟨_,_,_,e,_⟩,_⟩:=x;exact⟨_,e⟩
 |rng lo hi=>obtain⟨_,_,_,e⟩:=x;exact⟨_,e⟩
 |frz ob u=>exact⟨_,x.1⟩
 |tbl ps=>exact⟨_,show h.get? a=some _ from x⟩
 |met f y=>exact⟨_,show h.get? a=some _ from x⟩
 |ext φ=>exact x.2.1
noncomputable def fX(P:ul)(w:ut):nt:=fun outer H s E x s'=>∃e T C H',x=.ref e/\s'.os=s.os/\AllBare s'.gens/\Un (fV outer) [] H H' s.heap s'.heap/\cA P w H' s'.heap/\pC e T (.ref C) s'.heap /\
 s.heap.get? e=none/\s.heap.get? T=none/\H' e=none/\H' T=none/\E (.ref C) none H'
section
variable {P:ul}{w:ut}{K:Q_}{mg:Str->Option jp}{base:Heap}{N:List Str}{qual:Str}{scope:Scope}{f:kw}{cd:jp}{A:Zx}{outer:List Env}{s:kt}{H:Hp}{E:XK}
theorem EO{Zz:List (kw×Obj)}{σ:L2.St}{H1:Hp}{s1:kt}{h2:Heap}{e C:kw}{vs:List jp}(I:Inv (fN (fX P w) P w K mg base N qual scope f cd A outer s H E) Zz σ H1 s1)
  (md:Heap.MadeExcOf s1.heap h2 e (.ref C) vs) (hz:E (.ref C) none H1):(fN (fX P w) P w K mg base N qual scope f cd A outer s H E).xe (.ref e) { s1 with heap:=h2 }:=by
 have hI:=I;obtain⟨t,he,_,_⟩:=md.there;have ne:∀b o,s1.heap.get? b=some o->b≠e:=fun b o q z=>by rw[z,md.new]at q;cases q
 have hl:h2.FunFrames base (envOfC qual scope s.heap.objs.size f cd::outer):=(show s1.heap.FunFrames base (envOfC qual scope s.heap.objs.size f cd::outer) from I.stack).of_keeps fun b o hb _=>⟨o,md.keeps b o hb,rfl⟩;show wpAny (model P w) (A.deeper (envOfC qual scope s.heap.objs.size f cd)) (leaving (envOfC qual scope s.heap.objs.size f cd) (.ref e)) (fun _ s''=>fX P w outer H s E (.ref e) s'') (fun e' s''=>fX P w outer H s E e' s'') { s1 with heap:=h2 };refine AQ (base:=base) (L:=s.heap.objs.size) I.ok.frames hl rfl he rfl rfl fun h3 T hF hT mv=>?_;have VQ:Mv (fV (fN (fX P w) P w K mg base N qual scope f cd A outer s H E).stack) [] s1.heap h3:=⟨fun b o hf _ q=>mv.keep b o hf (by simpa using ne b o q) (md.keeps b o q),fun b o _ q=>mv.slot b o (by simpa using ne b o q) (md.keeps b o q),fun b o q=>mv.there b o (md.keeps b o q)⟩;have I2:=kf (t':=s1.toks) (ch:=[]) I (fun _ z=>nomatch z) VQ;have o0:∀b,s1.heap.get? b=none->s.heap.get? b=none:=fun b q=>by
  cases z:s.heap.get? b with
  |none=>rfl
  |some o =>
   obtain⟨o',e'⟩:=I.base.there b o z (fun z'=>nomatch z');rw[q]at e';cases e'
 have RY:h2.get? T=none:=yR hT;have Sa:s1.heap.get? T=none:=by
  cases z:s1.heap.get? T with
  |none=>rfl
  |some o=>rw[md.keeps _ _ z]at RY;cases RY
 have hn:∀b,s1.heap.get? b=none->H1 b=none:=fun b q=>by
  cases z:H1 b with
  |none=>rfl
  |some u =>
   obtain⟨o,ho⟩:=mH (I.ax b u z);rw[q]at ho;cases ho
 exact⟨e,T,C,H1,rfl,I2.os,I2.bare,I2.base,I2.ax,hF,o0 e md.new,o0 T Sa,hn e md.new,hn T Sa,hz⟩
theorem EN{E':XK}(hE:∀C H',E' C none H'->E C none H'):Passes (fX P w) (fN (fX P w) P w K mg base N qual scope f cd A outer s H E) E':=by
 intro Zz σ H1 s1 x s' I hq;obtain⟨e,T,C,H',rfl,os,bare,un,ax,OQ,e0,T0,eH,TH,hz⟩:=hq;have I2:Inv (fN (fX P w) P w K mg base N qual scope f cd A outer s H E) Zz σ H' s':=I.call' (ch:=[]) os un ax bare (fun b z=>absurd z (by simp));have o0:∀b,s1.heap.get? b=none->s.heap.get? b=none:=fun b q=>by
  cases z:s.heap.get? b with
  |none=>rfl
  |some o =>
   obtain⟨o',e'⟩:=I.base.there b o z (fun z'=>nomatch z');rw[q]at e';cases e'
 have new:∀b,s1.heap.get? b=none->H' b=none->s.heap.get? b=none/\b≠(envOfC qual scope s.heap.objs.size f cd).locals/\(∀x c,(envOfC qual scope s.heap.objs.size f cd).cells.lookup x=some c->c≠b)/\(∀q∈([]:List (kw×Obj))++Zz,q.1≠b)/\H' b=none:=fun b hb hn=>by
  refine⟨o0 b hb,?_,?_,?_,hn⟩
  ·intro z
   obtain⟨m,⟨o,_,_,ho,_⟩,_⟩:=I.loc;have ho:s1.heap.get? (envOfC qual scope s.heap.objs.size f cd).locals=some o:=ho;rw[<- z,hb]at ho;cases ho
  ·rintro x c hx rfl
   obtain⟨v,o,ho,_⟩:=I.cell x c hx;rw[hb]at ho;cases ho
  ·rintro q hq rfl
   rw[(I.pin q hq).1]at hb;cases hb
 show wpAny (model P w) (A.deeper (envOfC qual scope s.heap.objs.size f cd)) (leaving (envOfC qual scope s.heap.objs.size f cd) (.ref e)) (fun _ s''=>fX P w outer H s E (.ref e) s'') (fun e' s''=>fX P w outer H s E e' s'') s';unfold leaving;refine zy (uP (base:=base) (L:=s.heap.objs.size) I2.ok.frames (show s'.heap.FunFrames base (envOfC qual scope s.heap.objs.size f cd::outer) from I2.stack) rfl OQ fun h3 T' D3 hT' ND=>?_);have I3:=kf (t':=s'.toks) (ch:=[e,T]) I2 (fun b hb=>by
  simp only[zc,yA,or_false]at hb;rcases hb with rfl|rfl
  ·exact new _ e0 eH
  ·exact new _ T0 TH) ND
 have JZ:s'.heap.get? T'=none:=yR hT';have F9:s.heap.get? T'=none:=by
  cases z:s.heap.get? T' with
  |none=>rfl
  |some o =>
   obtain⟨o',e'⟩:=I2.base.there T' o z (fun z'=>nomatch z');rw[JZ]at e';cases e'
 have WU:H' T'=none:=by
  cases z:H' T' with
  |none=>rfl
  |some u =>
   obtain⟨o,ho⟩:=mH (I2.ax T' u z);rw[JZ]at ho;cases ho
 exact⟨e,T',C,H',rfl,I3.os,I3.bare,I3.base,I3.ax,D3,o0 e e0,F9,eH,WU,hE _ _ hz⟩
end
end L3
namespace L3
open PySem PySem.Spec PyProof.Rows L2
inductive LX (K:Q_) (Ze:Hp->Prop) (z:Ev->MH->Option MH) (D:Ends) (σ:St) (H:Hp):Prop
 |mk (ι:List kw) (ρ:Ev) (M M':MH) (S0:aJ K ι M H) (R0:bY K ι H ρ σ) (e:z ρ M=some M') (k:∀H' ι',aJ K ι' M' H'->Ext K ι H ι' H'->Ze H')
section
variable {X:Cx}{E:jp->kt->Prop}
theorem PS.dQ{st:Zy}{t:TS}(h:PS X.dQ st t):PS X st t:=fun Zz s σ H D I hw =>
 wpAny_mono (h Zz s σ H D (I.eG _) hw) (fun _ _ q=>q.dJ) fun _ _ z=>False.elim z
theorem PA.dQ{es:List Expr}{t:TA}(h:PA X.dQ es t):PA X es t:=fun pos Zz s σ H Q I hw =>
 wpAny_mono (h pos Zz s σ H Q (I.eG _) hw) (fun _ _ ⟨vs,H',I',r,q⟩=>⟨vs,H',I'.dJ,r,q⟩) fun _ _ z=>False.elim z
theorem PI.dQ{tg iter:Expr}{wi:TI}(h:PI X.dQ tg iter wi):PI X tg iter wi:=fun Zz s σ H R I hw =>
 wpAny_mono (h Zz s σ H R (I.eG _) hw) (fun _ _ q=>wpAny_mono q (fun _ _ ⟨it,fp,tn,J,H2,e,I2,T,st2,f2,q⟩=>⟨it,fp,tn,J,H2,e,I2.dJ,T,st2,f2,q⟩) fun _ _ z=>False.elim z) fun _ _ z=>False.elim z
theorem c0.or{sts:List Zy}{t u:TS}(h1:c0 X sts t)(h2:c0 X sts u):c0 X sts (fun D σ H=>t D σ H\/u D σ H):=fun Zz s σ H D I q=>q.elim (h1 Zz s σ H D I) (h2 Zz s σ H D I)
theorem PS.or{st:Zy}{t u:TS}(h1:PS X st t)(h2:PS X st u):PS X st (fun D σ H=>t D σ H\/u D σ H):=fun Zz s σ H D I q=>q.elim (h1 Zz s σ H D I) (h2 Zz s σ H D I)
end
section
variable {K:Q_}{Ze:Hp->Prop}
theorem NA{o:Option (Out Fl×MH)}{ρ:Ev}{M:MH}(h:Bt o=some (ρ,M)):o=some (.ok (.nx ρ),M):=by
 unfold Bt at h;split at h
 ·cases h;rfl
 ·cases h
theorem Ny{o:Option (Out Fl×MH)}{ρ:Ev}{M:MH}(h:rR o=some (ρ,M)):o=some (.ok (.nx ρ),M)\/o=some (.ok (.ct ρ),M):=by
 unfold rR at h;split at h
 ·cases h;exact .inl rfl
 ·cases h;exact .inr rfl
 ·cases h
theorem LX.seq{fa:Ev->Mo Fl}{za zb:Ev->MH->Option MH}(D:Ends)(σ:St)(H:Hp)(h:LX K Ze (fun ρ M=>match Bt (fa ρ M) with
  |some (ρ',M1)=>zb ρ' M1
  |none=>za ρ M) D σ H):G5 (fun D σ H=>LS K fa D σ H\/LX K Ze za D σ H) (LX K Ze zb) D σ H:=by
 obtain⟨ι,ρ,M,M',S,R,e,k⟩:=h
 try dsimp only at e
 cases q:Bt (fa ρ M) with
 |none =>
  rw[q]at e;exact .inr ⟨ι,ρ,M,M',S,R,e,k⟩
 |some p =>
  obtain⟨ρ1,M1⟩:=p;rw[q]at e;refine .inl ⟨ι,ρ,M,.nx ρ1,M1,S,R,NA q,fun H1 ι1 S1 X1=>?_⟩;exact fun σ1 R1=>⟨ι1,ρ1,M1,M',S1,R1,e,fun H' ι' S' X'=>k H' ι' S' (X1.trans X')⟩
theorem LX.ifS{fc:Ev->Mo Bool}{za zb:Ev->MH->Option MH}(D:Ends)(σ:St)(H:Hp)(h:LX K Ze (fun ρ M=>match fc ρ M with
  |some (.ok k,M1)=>if k=true then za ρ M1 else zb ρ M1
  |_=>none) D σ H):G6 (LT K fc) (LX K Ze za) (LX K Ze zb) D σ H:=by
 obtain⟨ι,ρ,M,M',S,R,e,k⟩:=h
 try dsimp only at e
 split at e
 ·rename_i b M1 q
  refine⟨ι,ρ,M,b,M1,S,R,q,fun H1 ι1 S1 X1=>?_⟩;cases b with
  |true=>exact⟨ι1,ρ,M1,M',S1,R.mono X1,e,fun H' ι' S' X'=>k H' ι' S' (X1.trans X')⟩
  |false=>exact⟨ι1,ρ,M1,M',S1,R.mono X1,e,fun H' ι' S' X'=>k H' ι' S' (X1.trans X')⟩
 ·cases e
theorem LX.loop{i:Nat}{fs:Ev->Mo Src}{fb:Ev->Mo Fl}{zb:Ev->MH->Option MH}(D:Ends)(σ:St)(H:Hp)(h:LX K Ze (fun ρ M=>match fs ρ M with
  |some (.ok s,M1)=>oj s.ck i fb zb s.ds ρ M1
  |_=>none) D σ H):CB (LI K fs) (iu i) (fun D σ H=>LS K fb D σ H\/LX K Ze zb D σ H) D σ H:=by
 obtain⟨ι,ρ,M,M',S,R,e,k⟩:=h
 try dsimp only at e
 split at e
 ·rename_i src M1 e1
  refine⟨ι,ρ,M,src,M1,S,R,e1,fun J H1 ι1 S1 X1 hJ=>?_⟩;refine⟨fun j m σ' H'=>m=src.ds.length-j/\j<=src.ds.length/\∃ι' ρ' M2,aJ K ι' M2 H'/\bY K ι' H' ρ' σ'/\Ext K ι1 H1 ι' H'/\oj src.ck i fb zb (src.ds.drop j) ρ' M2=some M',
   ⟨_,rfl,zM _,ι1,ρ,M1,S1,R.mono X1,Ext.refl,e⟩,?_⟩
  rintro j m σ' H' ⟨rfl,hj,ι',ρ',M2,S2,R2,X2,e2⟩;by_cases aS:j<src.ds.length
  ·right
   rw[ym aS,oj]at e2;cases q:cR src.ck M2 with
   |none=>rw[q]at e2;cases e2
   |some r =>
    rw[q]at e2;dsimp only at e2;obtain⟨ok,rfl⟩:ou src.ck M2/\r=(.ok (),M2):=by
     unfold cR at q;split at q
     ·rename_i ok
      cases q;exact⟨ok,rfl⟩
     ·cases q
    obtain⟨go,kF⟩:=(hJ ι' H' _ X2 S2 ok).1 j _ (zv aS);refine⟨go,fun σ3 H3=>∃ι3 ρ3 M4,aJ K ι3 M4 H3/\bY K ι3 H3 ρ3 σ3/\Ext K ι1 H1 ι3 H3/\oj src.ck i fb zb (src.ds.drop (j+1)) ρ3 M4=some M',
     fun σ3 H3 ⟨ι3,ρ3,M4,h1,h2,h3,h4⟩=>⟨src.ds.length-(j+1),by omega,rfl,aS,ι3,ρ3,M4,h1,h2,h3,h4⟩,fun x H'' y=>?_⟩
    obtain⟨rfl,rx⟩:=kF x H'' y;cases q2:rR (fb (ρ'.set i (some src.ds[j])) M2) with
    |none =>
     rw[q2]at e2;exact .inr ⟨ι',_,_,M',S2,R2.set rx i,e2,fun H3 ι3 S3 X3=>k H3 ι3 S3 ((X1.trans X2).trans X3)⟩
    |some p =>
     obtain⟨ρ3,M3⟩:=p;rw[q2]at e2;rcases Ny q2 with q3|q3
     ·exact .inl ⟨ι',_,_,_,M3,S2,R2.set rx i,q3,fun H3 ι3 S3 X3 σ3 R3=>⟨ι3,ρ3,M3,S3,R3,X2.trans X3,e2⟩⟩
     ·exact .inl ⟨ι',_,_,_,M3,S2,R2.set rx i,q3,fun H3 ι3 S3 X3 σ3 R3=>⟨ι3,ρ3,M3,S3,R3,X2.trans X3,e2⟩⟩
  ·exfalso
   have ej:j=src.ds.length:=by omega
   subst ej;rw[yB]at e2;cases e2
 ·cases e
noncomputable def pL(K:Q_)(n:Nat)(z:List D->MH->Option MH)(C:kw):Sp:=fun vs H _ E=>vs.length=n/\∃ι M M' ds,aJ K ι M H/\az K ι H ds vs/\z ds M=some M'/\∀H' ι',aJ K ι' M' H'->Ext K ι H ι' H'->E (.ref C) none H'
noncomputable abbrev EZ(Cu:kw) (Ze:Hp->Prop):XK:=fun c _ H=>c=.ref Cu/\Ze H
theorem LX.call{fa:Ev->Mo (List D)}{z:List D->MH->Option MH}{j:Nat}{Cu:kw}(hz:∀ds M M',z ds M=some M'->ds.length=j)(D:Ends)(σ:St)(H:Hp)(Q:VK)(h:LX K Ze (fun ρ M=>match fa ρ M with
  |some (.ok xs,M1)=>z xs M1
  |_=>none) D σ H):CD (pL K j z Cu) [] (EZ Cu Ze) (LA K fa) σ H Q:=by
 obtain⟨ι,ρ,M,M',S,R,e,k⟩:=h
 try dsimp only at e
 split at e
 ·rename_i xs M1 q
  refine⟨ι,ρ,M,xs,M1,S,R,q,fun vs H1 ι1 r1 S1 X1=>?_⟩;show pL K j z Cu (vs++[]) H1 Q (EZ Cu Ze);rw[zO];exact⟨by rw[<- r1.length];exact hz _ _ _ e,ι1,M1,M',xs,S1,r1,e,fun H' ι' S' X'=>⟨rfl,k H' ι' S' (X1.trans X')⟩⟩
 ·cases e
end
noncomputable def J9:IE->Bool
 |.call f _=>!(f==("row_at":Str))
 |_=>true
noncomputable def uI:IS->Bool
 |.rz=>false
 |.ifS _ _ _=>false
 |.forS _ _ _=>false
 |.expr e=>J9 e
 |_=>true
noncomputable def CV(e:Expr):Bool:=match kz e with
 |some (f,_,as,_)=>f==("row_at":Str)&&as.length==2
 |none=>false
mutual
noncomputable def GW:Nat->Zy->IS->Bool
 |0,_,_=>false
 |n+1,e,i=>match e with
  |.If _ a b _=>(match i with
   |.ifS _ x y=>dS n a x&&dS n b y
   |_=>false)
  |.For _ _ b _ _=>(match i with
   |.forS _ _ y=>dS n b y
   |_=>false)
  |.Raise _ _ _=>true
  |.Expr e _=>CV e||uI i
  |_=>uI i
noncomputable def dS:Nat->List Zy->aE->Bool
 |0,_,_=>false
 |n+1,e,i=>match e with
  |[]=>(match i with
   |.nil=>true
   |_=>false)
  |s::r=>(match i with
   |.cons a b=>GW n s a&&dS n r b
   |_=>false)
end
theorem IA{Γ:Ctx}{e:IE}(h:J9 e=true)(ρ:Ev)(M:MH):MK Γ e ρ M=none:=by
 cases e <;> first
  |rfl
  | (rename_i f es
     have h:(!(f==_))=true:=h;rw[yT]at h;unfold MK;dsimp only;rw[h,if_neg zk])
theorem Lo{Γ:Ctx}{i:IS}(h:uI i=true)(ρ:Ev)(M:MH):rL Γ i ρ M=none:=by
 cases i <;> first|rfl|cases h|exact IA h ρ M
section
variable {Γ:Ctx}{S:Sc}{X:Cx}{Ze:Hp->Prop}{Cu:kw}(hE:∀n,Sound Γ n)(hsS:∀n,qo Γ n)(C:aN Γ S X.dQ)(hf:∀x,X.fn x=true)(hp:PassesOwn (model X.prog X.w) X.A X.env X.xe)
 (hr:∀(t:Str) (np cp fO pos:Pos) (k:Nat),S.bE "NoPlace" = true->PS X (.Raise (some (.Call (.Name "NoPlace" np) [.Constant (.str t) k cp] [] fO)) none pos) (fun _ _ H=>Ze H))
 (hx:Passes (fX X.prog X.w) X (EZ Cu Ze))
 (hF:∃(k:Nat) (fa:kw) (fd:FuncData) (ps:List Str),X.mg "row_at" = some (.ref fa)/\Z0 X.K (.ref fa)=true/\Binds X.K fd ps []/\dD X.prog X.w X.K X.mg X.base (fX X.prog X.w) k fa fd ps (pL X.K ps.length (Γ.rz "row_at") Cu)/\d8 k X.A/\∀ds M M',Γ.rz "row_at" ds M=some M'->ds.length=ps.length)
include hE hsS C hf hp hr hx hF
omit hsS hf hp hr in
theorem MI{n:Nat}{e:Expr}{pos:Pos}{i:IS}(h:cS S n (.Expr e pos)=some i)(hz:CV e=true):PS X (.Expr e pos) (LX X.K Ze (rL Γ i)):=by
 cases n with
 |zero=>cases h
 |succ n =>
  replace h:(if kW e then (do let y<-cE S n e;some (.expr y)) else none)=some i:=h;split at h
  ·rename_i hn
   obtain⟨y,h1,h⟩:=aj h;cases h;unfold CV at hz;split at hz
   ·rename_i f p as q hg
    simp only[zl,beq_iff_eq]at hz;obtain⟨rfl,ha⟩:=hz;have e:=EV hg;subst e;match as,ha with
    |[a,b],_ =>
     cases n with
     |zero=>cases h1
     |succ n =>
      replace h1:Gg S (cE S n) (mi S n) "row_at" [a,b]=some y:=h1;unfold Gg at h1;dsimp only at h1;rw[if_neg (by decide),if_neg (by decide)]at h1;replace h1:uf S "row_at" (mi S n [a,b]) (qh S "row_at" 2 (mi S n [a,b]))=some y:=h1;unfold uf CZ at h1;rw[show (("row_at":Str)==("_law_refused":Str))=false from by decide]at h1;simp only[xZ,yn,if_false]at h1;unfold qh at h1;split at h1
      ·rename_i hs
       rw[zl]at hs;split at h1
       ·obtain⟨es,h2,rfl⟩:=zu.mp h1
        obtain⟨pa,pl⟩:=(hE n).Es _ _ _ _ C h2;rw[zX,zl]at pl;obtain⟨k,fa,fd,ps,m1,m2,m3,m4,m5,m6⟩:=hF;obtain⟨o1,o2,o3⟩:=bH hs.1;refine PS.imp (Bh (qM m4 m5 (C.bE hs.2) m1 m2 m3 .nil hx (PA.dQ pa) o1 (aC pl.1) (du pl.2)) (A8 hn)) fun D σ H q=>?_;exact LX.call m6 D σ H _ q
       ·split at h1
        ·split at h1
         ·rename_i hb
          rw[show Ei ("row_at":Str) 2=none from by decide]at hb;cases hb
         ·cases h1
        ·cases h1
      ·cases h1
   ·cases hz
  ·cases h
theorem Ba:∀n,(∀e i,cS S n e=some i->GW n e i=true->PS X e (LX X.K Ze (rL Γ i)))/\(∀e i,cX S n e=some i->dS n e i=true->c0 X e (LX X.K Ze (cU Γ i)))
 |0=>⟨fun e i h _=>(by cases h),fun e i h _=>(by unfold cX at h;cases h)⟩
 |n+1=>by
  obtain⟨ihS,ihSs⟩:=Ba n;refine⟨fun e i h hz=>?_,fun e i h hz=>?_⟩
  ·have no:uI i=true->PS X e (LX X.K Ze (rL Γ i)):=fun hn Zz s σ H D I q=>by
    obtain⟨ι,ρ,M,M',_,_,q,_⟩:=q;rw[Lo hn]at q;cases q
   cases e with
   |If c a b p =>
    replace h:(do let k<-cC S n c;let x<-cX S n a;let y<-cX S n b;some (.ifS k x y))=some i:=h;obtain⟨k,h0,h⟩:=aj h;obtain⟨x,h1,h⟩:=aj h;obtain⟨y,h2,h⟩:=aj h;cases h;replace hz:(dS n a x&&dS n b y)=true:=hz;rw[zl]at hz;exact PS.imp (Js (PT.dQ ((hE n).C _ _ _ _ C h0)) (ihSs _ _ h1 hz.1) (ihSs _ _ h2 hz.2)) LX.ifS
   |For t iter b o p =>
    replace h:sU o (v8 S n t iter (cX S n b))=some i:=h;cases o with
    |cons _ _=>cases h
    |nil =>
     replace h:v8 S n t iter (cX S n b)=some i:=h;cases i with
     |forS j' it' y' =>
      replace hz:dS n b y'=true:=hz;cases t with
      |Name x p =>
       replace h:(if S.loc x then (do let i<-slot S.N x;let it<-cT S n iter;let y<-cX S n b;some (IS.forS i it y)) else none)=some (IS.forS j' it' y'):=h;split at h
       ·rename_i hl
        obtain⟨j,h0,h⟩:=aj h;obtain⟨it,h1,h⟩:=aj h;obtain⟨y,h2,h⟩:=aj h;cases h;have hN:=slot_get h0;have en:X.N=S.N:=C.n;rw[<- en]at hN;obtain⟨t1,t2⟩:=(hE n).T _ X.dQ (.Name x p) _ _ C h1;exact PS.imp (uB hp C.calm (PI.dQ t1) (kS C.nd hN (C.loc hl) (.inl (hf x))) (c0.or (c0.dQ ((hsS n).Ss _ _ _ _ C hf h2)) (ihSs _ _ h2 hz)) t2) LX.loop
       ·cases h
      |Tuple ts k1 p1 =>
       exfalso;replace h:DC S n ts iter (cX S n b)=some (.forS j' it' y'):=h
       rcases ts with _|⟨a,_|⟨b2,_|⟨_,_⟩⟩⟩
       ·cases h
       ·cases h
       ·replace h:nC S n a b2 iter (cX S n b)=some (.forS j' it' y'):=h
        unfold nC at h;split at h
        ·cases h
        ·split at h
         ·cases h
         ·split at h
          ·obtain⟨_,_,h⟩:=aj h
           obtain⟨_,_,h⟩:=aj h;obtain⟨_,_,h⟩:=aj h;obtain⟨_,_,h⟩:=aj h;cases h
          ·cases h
       ·cases h
      |_=>cases h
     |_=>cases hz
   |Expr e p =>
    replace hz:(CV e||uI i)=true:=hz;rw[yU]at hz;rcases hz with hz|hz
    ·exact MI hE C hx hF h hz
    ·exact no hz
   |Raise a b c =>
    replace h:some (ER S a b)=some i:=h;cases h;unfold ER at no ⊢;cases a with
    |none=>exact no rfl
    |some e =>
     cases b with
     |some _=>exact no rfl
     |none =>
      dsimp only at no ⊢;split
      ·rename_i hq
       unfold Q5 at hq;split at hq
       ·rename_i f p as q hg
        rw[EV hg];simp only[zl,beq_iff_eq]at hq;obtain⟨⟨h1,h2⟩,h3⟩:=hq;subst h1;unfold Nw at h3;split at h3
        ·rename_i a
         cases a <;> first|cases h3|skip
         rename_i cc kk pp;cases cc <;> first|cases h3|skip
         refine PS.imp (hr _ _ _ _ _ _ h2) fun D σ H q=>?_;obtain⟨ι,ρ,M,M',S',R,e',k⟩:=q;cases e';exact k H ι S' Ext.refl
        ·cases h3
       ·cases hq
      ·exact fun Zz s σ H D I q=>by
        obtain⟨ι,ρ,M,M',_,_,q,_⟩:=q;cases q
   |_=>exact no hz
  ·unfold cX at h
   cases e with
   |nil =>
    cases h;intro Zz s σ H D I q;obtain⟨ι,ρ,M,M',_,_,q,_⟩:=q;cases q
   |cons s r =>
    obtain⟨x,h1,h⟩:=aj h;obtain⟨y,h2,h⟩:=aj h;cases h;replace hz:(GW n s x&&dS n r y)=true:=hz;rw[zl]at hz;exact c0.imp (gZ (PS.or (PS.dQ ((hsS n).S _ _ _ _ C hf h1)) (ihS _ _ h1 hz.1)) (ihSs _ _ h2 hz.2)) LX.seq
end
end L3
namespace L3
open PySem PySem.Spec PyProof.Rows L2
noncomputable def gT:List jp:=[.type "ValueError",.type "Exception",.type "BaseException",.type "object"]
noncomputable def eR:List Str:="__class__"::quietNames
noncomputable def ZC(h:Heap)(C:kw)(bm:List jp):Prop:=∃N nm q bs hdct sn sub ab col dd k0 k1 k2 k3 k5 mN,h.get? C=some (excClassObj nm q C N bs bm hdct sn sub ab col dd k0 k1 k2 k3 k5 "ValueError.__new__")/\h.Ns N mN/\∀n∈eR,mN n=none
noncomputable def ZH(h:Heap)(C D:kw):Prop:=ZC h C (.ref D::gT)/\ZC h D gT
noncomputable def ZB(h:Heap)(B:kw):Prop:=∃o cd,h.get? B=some o/\o.cls=.type "type"/\o.data=.cls cd
noncomputable def ZE(h:Heap)(e C:kw):Prop:=∃oe,h.get? e=some oe/\oe.cls=.ref C
theorem ZC.keeps{h h':Heap}{C:kw}{bm:List jp}(z:ZC h C bm)(k:∀b o,h.get? b=some o->h'.get? b=some o):ZC h' C bm:=by
 obtain⟨N,nm,q,bs,hdct,sn,sub,ab,col,dd,k0,k1,k2,k3,k5,mN,h1,h2,h3⟩:=z;exact⟨N,nm,q,bs,hdct,sn,sub,ab,col,dd,k0,k1,k2,k3,k5,mN,k _ _ h1,h2.keeps k,h3⟩
theorem ZH.keeps{h h':Heap}{C D:kw}(z:ZH h C D)(k:∀b o,h.get? b=some o->h'.get? b=some o):ZH h' C D:=⟨z.1.keeps k,z.2.keeps k⟩
theorem ZH.tail{h:Heap}{C D:kw}(z:ZH h C D):OwnTailQ h gT (.ref D::gT):=by
 obtain⟨_,N,nm,q,bs,hdct,sn,sub,ab,col,dd,k0,k1,k2,k3,k5,mN,h1,h2,h3⟩:=z;exact .own h1 h2 (fun n hn=>h3 n (.tail _ hn)) .base
section
variable {prog:ul}{w:ut}{A:Zx}{E:jp->kt->Prop}{h:Heap}{g:Array GenState}{d:Drawn}{t:Nat}{os:OsState}{e C D:kw}
theorem ml{M:Model}{Q:jp->kt->Prop}{s:kt}(x:ZE s.heap e C)(hq:Q (.ref C) s):wpAny M A (typeOf (.ref e)) Q E s:=by
 obtain⟨oe,he,hc⟩:=x;unfold typeOf;exact zy (wpAny_loadPart he (zt (hc▸hq)))
theorem sP{M:Model}{base:jp}{b:Bool}{Q:Bool->kt->Prop}{s:kt}(z:ZH s.heap C D)(hb:(Value.ref C::Value.ref D::gT).contains base=b)(hq:Q b s):wpAny M A (isSubtype (.ref C) base) Q E s:=by
 obtain⟨⟨N,nm,q,bs,hdct,sn,sub,ab,col,dd,k0,k1,k2,k3,k5,mN,h1,_,_⟩,_⟩:=z;obtain⟨hh,g,d,t,os⟩:=s;exact wpAny_isSubtype_exc h1 (hb▸hq)
theorem tu{M:Model}{n:Str}{y:Option jp}{Q:Option jp->kt->Prop}{s:kt}(z:ZH s.heap C D)(hn:n∈eR)(hB:typeLookup (.type "ValueError") n=pure y)(hq:Q y s):wpAny M A (typeLookup (.ref C) n) Q E s:=by
 obtain⟨⟨N,nm,q,bs,hdct,sn,sub,ab,col,dd,k0,k1,k2,k3,k5,mN,h1,h2,h3⟩,⟨N',nm',q',bs',hdct',sn',sub',ab',col',dd',k0',k1',k2',k3',k5',mN',h1',h2',h3'⟩⟩:=z;have QA:lookupAlong gT n=pure y:=by rw[typeLookup_eq,F.excBase_ValueError.mroIs]at hB;exact hB
 obtain⟨hh,g,d,t,os⟩:=s;rw[typeLookup_eq];refine zy (wpAny_mroOf_exc h1 ?_);rw[lookupAlong_cons];refine zy (wpAny_classOwn_exc h1 h2 ?_);rw[h3 n hn];show wpAny M A (lookupAlong (Value.ref D::gT) n) Q E _;rw[lookupAlong_cons];refine zy (wpAny_classOwn_exc h1' h2' ?_);rw[h3' n hn];show wpAny M A (lookupAlong gT n) Q E _;rw[QA];exact zt hq
theorem tw{M:Model}{Q:Bool->kt->Prop}{s:kt}{B:kw}(z:ZB s.heap B)(hq:Q true s):wpAny M A (isType (.ref B)) Q E s:=by
 obtain⟨⟨oc,od,da,sl⟩,cd,h1,h2,h3⟩:=z;cases h3;unfold isType loadHead;exact zy (wpAny_loadPart h1 (zt hq))
theorem Ko{M:Model}{Q:jp->kt->Prop}{s:kt}{B:kw}(z:ZB s.heap B)(hq:Q (.type "type") s):wpAny M A (typeOf (.ref B)) Q E s:=by
 obtain⟨o,cd,h1,h2,h3⟩:=z;unfold typeOf;exact zy (wpAny_loadPart h1 (zt (h2▸hq)))
theorem ZC.cls{h:Heap}{C:kw}{bm:List jp}(z:ZC h C bm):ZB h C:=by
 obtain⟨N,nm,q,bs,hdct,sn,sub,ab,col,dd,k0,k1,k2,k3,k5,mN,h1,_,_⟩:=z;exact⟨_,_,h1,rfl,rfl⟩
theorem Ce:typeLookup (.type "ValueError") "__class__" = pure (some (.builtin "object.__class__")):=by rw[typeLookup_type,builtinLookup_eq_fast];kernel_rfl
theorem Ay{R:Result->kt->Prop}(x:ZE h e C)(z:ZH h C D)(hq:R (.ok (.ret (.ref C))) ⟨h,g,d,t,os⟩) :
  codeAny (model prog w) A (.call (.builtin "getset_descriptor.__get__") ⟨[.builtin "object.__class__",.ref e,.ref C],[]⟩) R ⟨h,g,d,t,os⟩:=by
 obtain⟨oe,hx,hc⟩:=x;have RZ:(⟨h,g,d,t,os⟩:kt).TypeIs (.builtin "object.__class__") "getset_descriptor":=F.typeOf_object_class;have Ox:(Value.ref C::Value.ref D::gT).contains (.type (".".intercalate ("object.__class__".cutAt '.').dropLast))=true:=by
  rw[F.owner_object_class];rfl
 refine codeAny_call_builtin F.slot_gs_get.plain F.entry_gs_get (F.slot_gs_get.check _ _ _ _ _ _ _ _ RZ (F.args_gs_get _ _ _) ?_)
 repeat (any_goals (first|assumption|(with_reducible refine wpAny_loadPart_at hx ?_;rw[hc])|with_reducible refine sP z Ox ?_|wp_step))
 refine⟨Code.quiet_builtin _ (by decide +kernel),codeAny_builtin F.entry_object_class ?_⟩
 repeat (any_goals (first|assumption|(with_reducible refine wpAny_loadPart_at hx ?_;rw[hc])|wp_step))
theorem sI{tk:Tok}{Q:Fin->kt->Prop}(x:ZE h e C)(z:ZH h C D)(hq:Q (.done (.ret (.ref C))) ⟨h,g,d,t,os⟩) :
  wpAny (model prog w) A (Builtin.«object.__getattribute__» ⟨[.ref e,.str "__class__" tk],[]⟩) Q E ⟨h,g,d,t,os⟩:=by
 have x0:=x;obtain⟨oe,hx,hc⟩:=x;have RZ:(⟨h,g,d,t,os⟩:kt).TypeIs (.builtin "object.__class__") "getset_descriptor":=F.typeOf_object_class;have f5:=F.typeOf_object_class;have f6:=F.slot_gs_get.lookup;have f7:=F.slot_gs_set.lookup;have hm:("__class__":Str)∈eR:=.head _
 repeat (any_goals (first|assumption|(with_reducible refine wpAny_loadPart_at hx ?_;rw[hc])|with_reducible refine tu z hm Ce ?_|wp_step))
 refine Ay x0 z ?_
 repeat (any_goals (first|assumption|wp_step))
theorem tB{tk:Tok}{R:Result->kt->Prop}(x:ZE h e C)(z:ZH h C D)(hq:R (.ok (.ret (.ref C))) ⟨h,g,d,t,os⟩) :
  codeAny (model prog w) A (.call (.builtin "BaseException.__getattribute__") ⟨[.ref e,.str "__class__" tk],[]⟩) R ⟨h,g,d,t,os⟩:=by
 obtain⟨oe,hx,hc⟩:=id x;obtain⟨N,nm,q,bs,hdct,sn,sub,ab,col,dd,k0,k1,k2,k3,k5,mN,h1,_,_⟩:=z.1;exact codeAny_call_builtin F.attrBase_ValueError.ga.plain F.entry_bexc_ga (wpAny_check_ga_own F.attrBase_ValueError h1 z.tail hx hc (sI x z hq))
theorem Ci{tk:Tok}{fill expr:Bool}{Q:jp->kt->Prop}(x:ZE h e C)(z:ZH h C D)(hq:Q (.ref C) ⟨h,g,d,t,os⟩) :
  wpAny (model prog w) A (getAttrBy (.ref e) (.str "__class__" tk) fill expr) Q E ⟨h,g,d,t,os⟩:=by
 have x0:=x;obtain⟨oe,hx,hc⟩:=x;have f3:=F.attrBase_ValueError.ga.bind (.ref e);have Y5:(expr&&onTheHeap (Value.builtin "BaseException.__getattribute__"))=false:=by cases expr <;> rfl
 have JN:(Value.builtin "BaseException.__getattribute__"==Value.builtin "object.__getattribute__")=false:=by decide +kernel
 have Rt:(onTheHeap (Value.ref C)&&Value.builtin "BaseException.__getattribute__"==Value.builtin "object.__getattribute__")=false:=by rw[JN];rfl
 have Wv:("__getattribute__":Str)∈eR:=.tail _ (.tail _ (.head _));have Wu:("__getattr__":Str)∈eR:=.tail _ (.tail _ (.tail _ (.head _)))
 repeat (any_goals (first|assumption|(with_reducible refine wpAny_loadPart_at hx ?_;rw[hc])|with_reducible refine tu z Wv F.attrBase_ValueError.ga.lookup ?_|with_reducible refine tu z Wu F.attrBase_ValueError.noGetattr ?_|wp_step))
 refine tB x0 z ?_
 repeat (any_goals (first|assumption|wp_step))
theorem tD{Q:Option jp->kt->Prop}(x:ZE h e C)(z:ZH h C D)(hq:Q (some (.ref C)) ⟨h,g,d,t+1,os⟩):wpAny (model prog w) A (getAttr? (.ref e) "__class__") Q E ⟨h,g,d,t,os⟩:=by
 unfold getAttr? getAttrBy?
 repeat (any_goals (first|assumption|with_reducible apply Ci x z|wp_step))
theorem Cf{dep:Int}{tk:Tok}{Q:Fin->kt->Prop}{s:kt}(x:ZE s.heap e C)(hq:Q (.done (.ret (.bool true))) s):wpAny (model prog w) A (Builtin.«isinstance.nested» ⟨[.ref e,.ref C,.int dep tk],[]⟩) Q E s:=by
 unfold Builtin.«isinstance.nested»;refine zy (ml x ?_);rw[if_pos (beq_self_eq_true _)];exact zy (wpAny_rule (zy (zt (zt hq))))
theorem Cg{dep:Int}{tk:Tok}{Q:Fin->kt->Prop}{s:kt}(x:ZE s.heap e C)(z:ZH s.heap C D)(hq:Q (.done (.ret (.bool true))) s):wpAny (model prog w) A (Builtin.«isinstance.nested» ⟨[.ref e,.type "ValueError",.int dep tk],[]⟩) Q E s:=by
 unfold Builtin.«isinstance.nested»;refine zy (ml x ?_);rw[if_neg (by intro q;cases beq_iff_eq.mp q)];refine zy (wpAny_of_eq (show typeOf (.type "ValueError")=pure (.type "type") from by kernel_rfl) ?_);rw[if_pos (by decide)]
 k_delta "plainIsInstance"
 refine zy (zy (wpAny_of_eq (show isType (.type "ValueError")=pure true from rfl) ?_));simp only[xV,yn,if_false];unfold isInstance;refine zy (zy (ml x (sP z (b:=true) rfl ?_)));simp only[if_true];exact zt (zy (zt (zt hq)))
theorem Et{B:kw}{dep:Int}{tk:Tok}{Q:Fin->kt->Prop}{s:kt}(x:ZE s.heap e C)(z:ZH s.heap C D)(y:ZB s.heap B)(n1:B≠C)(n2:B≠D)(hq:Q (.done (.ret (.bool false))) { s with toks:=s.toks+1 }) :
  wpAny (model prog w) A (Builtin.«isinstance.nested» ⟨[.ref e,.ref B,.int dep tk],[]⟩) Q E s:=by
 have hb:(Value.ref C::Value.ref D::gT).contains (.ref B)=false:=by
  rw[<- vf,zT];intro hm;rcases zc.mp hm with q|hm
  ·exact n1 (Value.ref.inj q)
  rcases zc.mp hm with q|hm
  ·exact n2 (Value.ref.inj q)
  ·unfold gT at hm
   simp at hm
 unfold Builtin.«isinstance.nested»;refine zy (ml x ?_);rw[if_neg (fun q=>n1 (Value.ref.inj (beq_iff_eq.mp q)).symm)];refine zy (Ko y ?_);rw[if_pos (by decide)]
 k_delta "plainIsInstance"
 refine zy (zy (tw y ?_));simp only[xV,yn,if_false];unfold isInstance;refine zy (zy (ml x (sP z hb ?_)));simp only[yn,if_false];obtain⟨hh,g,d,t,os⟩:=s;refine zy (tD x z ?_);refine zy (tw z.1.cls ?_);simp only[xV,yn,if_false];refine zy (wpAny_rule ?_);refine sP z hb ?_;exact zy (zt (zt hq))
end
end L3
namespace L3
open PySem PySem.Spec PyProof.Rows L2
noncomputable def qr:List Str:=["BadWord","BadTree","Late","Twice","Unknown"]
structure ZK (K:Q_) (mg:Str->Option jp) (C D:kw):Prop where
 np:mg "NoPlace" = some (.ref C)
 he:mg "HouseError" = some (.ref D)
 zh:∀h:Heap,K.In h->ZH h C D
 ot:∀x∈qr,∃B,mg x=some (.ref B)/\B≠C/\B≠D/\∀h:Heap,K.In h->ZB h B
section
variable {X:Cx}{C D:kw}{Ze:Hp->Prop}
theorem Hm(Z:ZK X.K X.mg C D)(hg:Gl X "NoPlace")(hc:X.calm=true)
  (hx:∀(Zz:List (kw×Obj)) (σ:St) (H:Hp) (s:kt) (h':Heap) (e:kw) (vs:List jp),Inv X Zz σ H s->Ze H->Heap.MadeExcOf s.heap h' e (.ref C) vs->X.xe (.ref e) { s with heap:=h' })
  (t:Str) (np cp fO pos:Pos) (k:Nat):PS X (.Raise (some (.Call (.Name "NoPlace" np) [.Constant (.str t) k cp] [] fO)) none pos) (fun _ _ H=>Ze H):=by
 intro Zz s σ H D' I hz;have z:=Z.zh _ I.kc;obtain⟨N,nm,q,bs,hdct,sn,sub,ab,col,dd,k0,k1,k2,k3,k5,mN,h1,h2,h3⟩:=z.1;refine wpAny_Raise_call_subT (C:=C) (nm:=nm) (q:=q) (N:=N) (bs:=bs) (bm:=.ref D::gT) (hdct:=hdct) (sn:=sn) (sub:=sub) (ab:=ab) (col:=col) (dd:=dd) (k0:=k0) (k1:=k1) (k2:=k2) (k3:=k3) (k5:=k5)
  F.excBase_ValueError (mN:=mN) (by rfl) (I.ok.hd hc) (by rfl) (h3 _ (.tail _ (.head _))) (k6 I hg Z.np ⟨rfl,?_⟩)
 have st:starEach [Expr.Constant (.str t) k cp] X.env=(false,eval (Expr.Constant (.str t) k cp) X.env)::starEach [] X.env:=by rfl
 rw[st];refine Calls.evalArgs_plain (Calls.spliced_cons ?_);show wpAny _ _ (eval (.Constant (.str t) k cp) X.env) _ _ _;refine Calls.Constant_str (Calls.spliced_nil ⟨rfl,by show 1<=zg;decide,h1,h2,z.tail.tail,fun h' e md=>?_⟩);exact hx Zz σ H _ h' e _ (I.tok _) hz md
end
section
variable {M:Model}{A:Zx}{E:jp->kt->Prop}{h:Heap}{g:Array GenState}{d:Drawn}{t:Nat}{os:OsState}{e C D:kw}
theorem Kq{Q:Bool->kt->Prop}{s:kt}(x:ZE s.heap e C)(z:ZH s.heap C D)(hq:Q true s):wpAny M A (excMatches (.ref e) (.ref D)) Q E s:=by
 obtain⟨⟨N,nm,q,bs,hdct,sn,sub,ab,col,dd,k0,k1,k2,k3,k5,mN,h1,_,_⟩,⟨N',nm',q',bs',hdct',sn',sub',ab',col',dd',k0',k1',k2',k3',k5',mN',h1',h2',h3'⟩⟩:=z;obtain⟨oe,he,gq⟩:=x;obtain⟨h,g,d,t,os⟩:=s;have Ox:(Value.ref D::gT).contains (.type "BaseException")=true:=rfl;have WJ:(Value.ref C::Value.ref D::gT).contains (.ref D)=true:=by simp
 have f:=tc_notTuple;unfold excMatches
 repeat (first|(with_reducible refine wpAny_loadPart_at he ?_;rw[gq])|with_reducible refine wpAny_loadPart_at h1' ?_|(with_reducible refine wpAny_isSubtype_exc h1' ?_;rw[Ox])|(with_reducible refine wpAny_isSubtype_exc h1 ?_;rw[WJ])|wp_step)
 exact hq
end
section
variable {X:Cx}{C D e:kw}{oe:Obj}
theorem Az(hp:(e,oe)∈X.pn)(hc:oe.cls=.ref C):dz X (.builtin "isinstance") (fun xs H Q=>xs=[.ref e,.ref C]/\Q (.bl true) H):=by
 intro Zz s σ H xs us Q I r ⟨ex,q⟩;subst ex;cases r with
 |cons r1 r =>
 cases r with
 |cons r2 r =>
 cases r;cases r1;cases r2;have x:ZE s.heap e C:=⟨oe,(I.pin _ (yo _ hp)).1,hc⟩;refine call_isinstance (S:=fun _ R s=>ZE s.heap e C/\R (.ok (.ret (.bool true))) s) (fun _ _ _ _ _ hs=>isinstance_outer (Cf hs.1 hs.2) (by intro q;cases q)) ⟨x,?_⟩;exact⟨.bl true,H,I,rfl,q⟩
theorem AA(Z:ZK X.K X.mg C D)(hp:(e,oe)∈X.pn)(hc:oe.cls=.ref C):dz X (.builtin "isinstance") (fun xs H Q=>xs=[.ref e,.ty "ValueError"]/\Q (.bl true) H):=by
 intro Zz s σ H xs us Q I r ⟨ex,q⟩;subst ex;cases r with
 |cons r1 r =>
 cases r with
 |cons r2 r =>
 cases r;cases r1;cases r2;have x:ZE s.heap e C:=⟨oe,(I.pin _ (yo _ hp)).1,hc⟩;refine call_isinstance (S:=fun _ R s=>(ZE s.heap e C/\ZH s.heap C D)/\R (.ok (.ret (.bool true))) s) (fun _ _ _ _ _ hs=>isinstance_outer (Cg hs.1.1 hs.1.2 hs.2) (by intro q;cases q)) ⟨⟨x,Z.zh _ I.kc⟩,?_⟩;exact⟨.bl true,H,I,rfl,q⟩
end
end L3
namespace L3
open PySem PySem.Spec PyProof.Rows L2
theorem rq{h:Heap}{e C D:kw}(x:ZE h e C)(z:ZH h C D):∀cs:List jp,(∀c∈cs,∃B,c=.ref B/\B≠C/\B≠D/\ZB h B)->AnswersAll (fun s=>s.heap=h) (.ref e) cs (cs.map fun _=>false)
 |[],_=>trivial
 |c::cs,hc=>by
  obtain⟨B,rfl,n1,n2,y⟩:=hc c (.head _);refine⟨fun dep tk=>?_,rq x z cs fun c hm=>hc c (.tail _ hm)⟩;intro prog w A R s hs;obtain⟨e1,hq⟩:=hs;subst e1;exact Et x z y n1 n2 (hq _)
theorem Er{prog:ul}{w:ut}{A:Zx}{E:jp->kt->Prop}{e C D tp:kw}{n:Nat}{cs:List jp}{s:kt}{Q:Fin->kt->Prop}(x:ZE s.heap e C)(z:ZH s.heap C D)
  (Ry:s.heap.get? tp=some { cls:=.type "tuple",data:=.seq cs.toArray n }) (hc:∀c∈cs,∃B,c=.ref B/\B≠C/\B≠D/\ZB s.heap B) (hq:∀tk',Q (.done (.ret (.bool false))) { s with toks:=tk' }) :
  wpAny (model prog w) A (Builtin.«isinstance.nested» ⟨[.ref e,.ref tp,rawInt 0],[]⟩) Q E s:=by
 have ha:=rq x z cs hc;obtain⟨oe,he,gq⟩:=x;obtain⟨h,g,d,t,os⟩:=s;have b6:(Value.ref C==Value.ref tp)=false:=beq_eq_false_iff_ne.mpr fun q=>by
  cases q;obtain⟨_,_,h1,h2,h3⟩:=z.1.cls;rw[Ry]at h1;cases h1;cases h3
 have Zo:(⟨h,g,d,t,os⟩:kt).TypeIs (.ref tp) "tuple":=⟨_,Ry,rfl⟩;have f1:=F.isi_sub_tuple;have hv:(cs.map fun _=>false).any id=false:=by simp
 repeat (any_goals (first|assumption|(with_reducible refine wpAny_loadPart_at he ?_;rw[gq])|wp_step))
 refine wpAny_arrayLoop ?_;simp only[xS,List.toList_toArray];refine isinstance_items (dep:=0) (fun _ tk h=>h) cs _ _ _ ha rfl fun tk'=>?_;rw[hv];simp only[yn,if_false]
 repeat (any_goals (first|assumption|wp_step))
 exact hq tk'
section
variable {X:Cx}{C D e:kw}{oe:Obj}
theorem Cj(Z:ZK X.K X.mg C D)(hp:(e,oe)∈X.pn)(hc:oe.cls=.ref C):dz X (.builtin "isinstance") (fun xs H Q=>∃p vs,xs=[.ref e,.ref p]/\H p=some (.tup vs)/\(∀v∈vs,∃B,v=.ref B/\B≠C/\B≠D/\∀h:Heap,X.K.In h->ZB h B)/\Q (.bl false) H):=by
 intro Zz s σ H xs us Q I r ⟨p,vs,ex,hh,hv,q⟩;subst ex;obtain⟨_,_,rfl,r1,r2⟩:=vals2 r;cases r1;cases r2;have x:ZE s.heap e C:=⟨oe,(I.pin _ (yo _ hp)).1,hc⟩;obtain⟨_,its,rt,⟨o,ho,FU,n,hd⟩,hs⟩:=I.ax p _ hh;obtain⟨la,FQ⟩:=hs o ho;obtain⟨c,Gy,dat,sl⟩:=o;simp only at FU hd la FQ;subst FU hd la FQ;have hits:∀{vs:List V} {its:List jp},Vals vs its->(∀v∈vs,∃B,v=.ref B/\B≠C/\B≠D/\∀h:Heap,X.K.In h->ZB h B)->∀c∈its,∃B,c=.ref B/\B≠C/\B≠D/\ZB s.heap B:=by
  intro vs its r;induction r with
  |nil=>intro _ c hc;cases hc
  |cons r1 _ ih =>
   intro hv c hc;rcases zc.mp hc with rfl|hc
   ·obtain⟨B,rfl,n1,n2,y⟩:=hv _ (.head _)
    cases r1;exact⟨B,rfl,n1,n2,y _ I.kc⟩
   ·exact ih (fun v hm=>hv v (.tail _ hm)) c hc
 refine call_isinstance (S:=fun _ R s'=>s'.heap=s.heap/\∀tk,R (.ok (.ret (.bool false))) { s' with toks:=tk })
  (fun _ _ _ _ s' hs=>isinstance_outer (Er (s:=s') (hs.1▸x) (hs.1▸Z.zh _ I.kc) (hs.1▸ho) (hs.1▸hits rt hv) hs.2) (by intro q;cases q)) ⟨rfl,fun tk=>?_⟩
 exact⟨.bl false,H,I.tok _,rfl,q⟩
end
end L3
namespace L3
open PySem PySem.Spec PyProof.Rows L2
section
variable {P:ul}{w:ut}{K:Q_}{mg:Str->Option jp}{base:Heap}{srt:List D->Option (List D)}{wh:Nat}
theorem sm{ι:List kw}{H:Hp}{ds:List D}{vs:List V}{N:List Str}(r:az K ι H ds vs):bY K ι H (ds.map some++yq (N.length-ds.length) none) (start N vs) where
 len:=by
  unfold L2.start;rw[zm,zm,zz,zz,yc,yc,r.length]
 val:=fun i d e=>by
  unfold L2.start;by_cases hi:i<ds.length
  ·rw[zH (by rw[zz];exact hi),zw]at e
   rw[zH (by rw[zz,<- r.length];exact hi),zw];cases q:ds[i]? with
   |none=>rw[q]at e;cases e
   |some d' =>
    rw[q]at e;cases e;obtain⟨v,hv,rv⟩:=r.get q;exact⟨v,by rw[hv];rfl,rv⟩
  ·rw[zK (by rw[zz];omega),xF]at e
   split at e <;> cases e
noncomputable def Sx(P:ul)(w:ut)(K:Q_)(mg:Str->Option jp)(base:Heap)(Γ:Ctx)(C:kw)(k:Nat):Prop:=∃(fa:kw) (fd:FuncData) (ps:List Str),mg "row_at" = some (.ref fa)/\Z0 K (.ref fa)=true/\Binds K fd ps []/\dD P w K mg base (fX P w) k fa fd ps (pL K ps.length (Γ.rz "row_at") C)/\∀ds M M',Γ.rz "row_at" ds M=some M'->ds.length=ps.length
theorem E2{Γ:Ctx}{x:Str}{st:Zy}{fa C D:kw}{fd:FuncData}{N ps fns gls aY:List Str}{b:aE}{k:Nat}(F:ko K x x st fa fd)(hS:dk N ps (au st))(hc:cX ⟨au st,N,fns,gls,aY⟩ 200 (ba st)=some b)
  (hz:dS 200 (ba st) b=true) (Z:ZK K mg C D) (hE:∀n,Sound Γ n)
  (hC:∀(cdv:jp) (A:Zx) (outer:List Env) (s:kt) (H:Hp) (E:XK),d8 k (A.deeper (envOfC x (au st) s.heap.objs.size fa cdv))->aN Γ ⟨au st,N,fns,gls,aY⟩ (fN (fX P w) P w K mg base N x (au st) fa cdv A outer s H E).dQ)
  (hF:Sx P w K mg base Γ C k) :
  dD P w K mg base (fX P w) (k+1) fa fd ps (pL K ps.length (fun ds M=>if ds.length=ps.length then cU Γ b (ds.map some++yq (N.length-ds.length) none) M else none) C):=by
 obtain⟨oc,od,kV,doc,pm,an,cdv,ct,mG,rfl,lk,mU⟩:=F.ex;refine J5 lk mU hS (fun vs H Q E h=>h.1) fun A outer s H vs Q E hr h=>?_;obtain⟨hl,ι,M,M',ds,S,r,e,kk⟩:=h;have C1:=hC cdv A outer s H E hr;dsimp only at e;split at e
 ·refine⟨_,(Ba (Ze:=fun H'=>E (.ref C) none H') (Cu:=C) hE (pM hE) C1 (fun _=>rfl) PassesOwn.leaving (fun t np cp fO pos k hg=>Hm (X:=fN (fX P w) P w K mg base N x (au st) fa cdv A outer s H E) Z (show Gl _ _ from C1.bE hg) rfl (fun Zz σ H1 s1 h2 e vs I z md=>EO I md z) t np cp fO pos k) (EN fun c H' z=>by rw[z.1];exact z.2) (let ⟨a,b,c,d,e,f,g,h⟩:=hF;⟨k,a,b,c,d,e,f,g,hr,h⟩) 200).2 _ _ hc hz,?_⟩
  exact⟨ι,_,M,M',S,sm (N:=N) r,e,kk⟩
 ·cases e
end
end L3
namespace L3
open PySem PySem.Spec PyProof.Rows L2
noncomputable abbrev kh(X:Cx) (e:kw) (oe:Obj):Cx:={ X with A:=X.A.mark (some (.ref e)),calm:=false,pn:=(e,oe)::X.pn,xe:=fun _ _=>False }
section
variable {X:Cx}{Zz:List (kw×Obj)}{σ:L2.St}{H:Hp}{s:kt}{e:kw}{oe:Obj}
theorem uX(I:Inv X Zz σ H s)(he:s.heap.get? e=some oe)(hH:H e=none)(hl:e≠X.env.locals)(hf:e ∉ X.fs)(hd:∀v,oe.data≠.cell v):Inv (kh X e oe) Zz σ H s:=by
 have ok:=I.ok;refine⟨⟨ok.mod,ok.kind,ok.glob,ok.blt,ok.above,ok.inj,ok.has,ok.Al,fun z=>(by cases z),ok.frames,ok.A9,ok.J7,ok.bs,ok.oE,ok.oY,ok.q0,ok.gr,ok.sk⟩,I.os,I.bare,I.base,I.loc,I.cell,I.free,I.dF,fun p hp=>?_,I.ax,I.len⟩;rcases zc.mp (show p∈(e,oe)::(X.pn++Zz) from hp) with rfl|hp
 ·exact⟨he,hH,hl,hf,hd⟩
 ·exact I.pin p hp
theorem DW(hk:X.Ok)(I:Inv (kh X e oe) Zz σ H s):Inv X Zz σ H s :=
 ⟨hk,I.os,I.bare,I.base,I.loc,I.cell,I.free,I.dF,fun p hp=>I.pin p (show p∈(e,oe)::(X.pn++Zz) from .tail _ hp),I.ax,I.len⟩
theorem name_goes{M:Model}{A:Zx}{E:jp->kt->Prop}{i:Nat}{x:Str}{pos:Pos}{Q:Unit->kt->Prop}(I:Inv X Zz σ H s)(hN:X.N.Nodup)(hi:X.N[i]?=some x)(hk:X.env.scope.names.lookup x=some .local)
  (h:∀s',Inv X Zz (σ.set i none) H s'->Q () s'):wpAny M A (do bindName X.env x .none;unbindBehindTheSuite X.env x pos) Q E s:=by
 obtain⟨m,hn,hl⟩:=id I.loc;have gq:(X.env.scope.kind==.class||(X.env.scope.kind==.module&&X.env.locals != X.env.globals))=false:=by rw[I.ok.kind];rfl
 have D0:i<σ.length:=by rw[I.len];exact(zn.mp hi).1
 have m8:=I.m8;refine wpAny_nameGoes_keeps hk hn gq fun h' v hn' hs=>?_;refine h _ ⟨I.ok,I.os,I.bare,⟨fun b o e n hb hx=>?_,fun b o e n hb hx=>?_,I.base.free,fun b o e hx=>?_,I.base.iL,I.base.ib,I.base.iM⟩,⟨_,hn',fun j y v' e1 e2 e3=>?_⟩,fun y c e=>?_,I.free,I.dF,fun p hp=>?_,fun b ob e=>?_,by simpa using I.len⟩
 ·exact(hs.2 b (zd (zB (zf e) I.ok.above))).trans (I.base.keep b o e n hb hx)
 ·obtain⟨sl,e1⟩:=I.base.slot b o e n hb hx
  exact⟨sl,(hs.2 b (zd (zB (zf e) I.ok.above))).trans e1⟩
 ·obtain⟨o',e1⟩:=I.base.there b o e hx
  exact⟨o',(hs.2 b (zd (zB (zf e) I.ok.above))).trans e1⟩
 ·by_cases hj:j=i
  ·subst hj
   rw[zU D0]at e2;cases e2
  ·rw[zj (Ne.symm hj)]at e2
   obtain⟨u',r',q⟩:=hl j y v' e1 e2 e3;refine⟨u',r',?_⟩;rcases q with ⟨k,e⟩|⟨k,c,e,z⟩
   ·refine .inl ⟨k,?_⟩
    have:y≠x:=fun e=>hj (oZ hN e1 (e▸hi))
    simp[this,e]
   ·exact .inr ⟨k,c,e,z.sameBut hs (m8 y c e)⟩
 ·obtain⟨w',z⟩:=I.cell y c e
  exact⟨w',z.sameBut hs (m8 y c e)⟩
 ·obtain⟨e,n,ne,nf,d⟩:=I.pin p hp
  exact⟨(hs.2 p.1 ne).trans e,n,ne,nf,d⟩
 ·refine(I.ax b ob e).lD (fun c w' hc q=>(hs.2 c ?_).trans q) (fun _ q=>q) fun _ _ q=>q
  rintro rfl;rcases hc with rfl|hc
  ·rw[I.free]at e;cases e
  ·rw[I.free]at hc;cases hc
end
noncomputable def om:List Str:=["_law_tree_here","_law_place","e","_law_others_here"]
noncomputable def EW(p:Nat->Pos):Expr:=.Call (.Name "shown" (p 0)) [.Name "_law_tree_here" (p 1),.Name "_law_place" (p 2)] [] (p 3)
noncomputable def qD(p:Nat->Pos):List Zy:=[
 .Assign [.Name "_law_others_here" (p 4)] (.Call (.Name "isinstance" (p 5)) [.Name "e" (p 6),.Tuple [.Name "BadWord" (p 7),.Name "BadTree" (p 8),.Name "Late" (p 9),.Name "Twice" (p 10),.Name "Unknown" (p 11)] 0 (p 12)] [] (p 13)) (p 14),
 .Return (some (.BoolOp .And [.Call (.Name "isinstance" (p 15)) [.Name "e" (p 16),.Name "NoPlace" (p 17)] [] (p 18),.Call (.Name "isinstance" (p 19)) [.Name "e" (p 20),.Name "ValueError" (p 21)] [] (p 22),.UnaryOp .Not (.Name "_law_others_here" (p 23)) (p 24)] (p 25))) (p 26)]
noncomputable def Jq(p:Nat->Pos):Zy:=.Try [.Expr (EW p) (p 27)] [.ExceptHandler (some (.Name "HouseError" (p 28))) (some "e") (qD p) (p 29)] [] [] (p 30)
noncomputable def mB(p:Nat->Pos):List Zy:=[Jq p,.Return (some (.Constant (.bool false) 0 (p 31))) (p 32)]
noncomputable def C2:List Str:=["shown","HouseError","isinstance","NoPlace","ValueError","BadTree","BadWord","Late","Twice","Unknown"]
structure pB (sc:Scope):Prop where
 loc:∀x∈om,sc.names.lookup x=some .local
 bE:∀x∈C2,sc.names.lookup x=some .globalImplicit
section
variable {X:Cx}{C D e:kw}{oe:Obj}{p:Nat->Pos}
theorem Ho(Z:ZK X.K X.mg C D)(hp:(e,oe)∈X.pn)(hc:oe.cls=.ref C)(hN:X.N=om)(sc:pB X.env.scope)(hi:X.mg "isinstance" = none)(hv:X.mg "ValueError" = none) :
  c0 X (qD p) (fun D' σ H=>σ.length=4/\σ[2]?=some (some (.ref e))/\∀q:kw,∀vs,H q=none->D'.rt (.bl true) (upd H q (.tup vs))):=by
 have nd:X.N.Nodup:=by rw[hN];decide
 have g:∀x∈C2,Gl X x:=fun x hx=>sc.bE x hx;have ve:∀{pos:Pos},PE X (.Name "e" pos) (qv 2):=pR (by rw[hN];rfl) (.inl (sc.loc _ (by decide)));have n0:Gl X "isinstance":=g _ (by decide);obtain⟨B1,b1,c1,d1,z1⟩:=Z.ot "BadWord" (by decide);obtain⟨B2,b2,c2,d2,z2⟩:=Z.ot "BadTree" (by decide);obtain⟨B3,b3,c3,d3,z3⟩:=Z.ot "Late" (by decide);obtain⟨B4,b4,c4,d4,z4⟩:=Z.ot "Twice" (by decide);obtain⟨B5,b5,c5,d5,z5⟩:=Z.ot "Unknown" (by decide);have gl:∀{x:Str} {B:kw} {pos:Pos},x∈C2->X.mg x=some (.ref B)->(x==("__debug__":Str))=false->PE X (.Name x pos) (tC (.ref B)):=fun hx hm hd=>Bn (g _ hx) hm rfl hd;have s1:=ux (pos:=p 14) (pos':=p 4) (X:=X) nd (i:=3) (x:="_law_others_here") (by rw[hN];rfl) (.inl (sc.loc _ (by decide)))
  (eK (p:=p 5) (pos:=p 13) (Cj Z hp hc) n0 hi J_ (a7 (ve (pos:=p 6)) (a7 (Fg (x1:=0) (pos:=p 12)
   (a7 (gl (pos:=p 7) (by decide) b1 (by decide)) (a7 (gl (pos:=p 8) (by decide) b2 (by decide)) (a7 (gl (pos:=p 9) (by decide) b3 (by decide)) (a7 (gl (pos:=p 10) (by decide) b4 (by decide))
   (a7 (gl (pos:=p 11) (by decide) b5 (by decide)) cN)))))) cN)))
  (by rfl) (.inr (sc.loc _ (by decide)))
 have s2:=uA (pos:=p 26) (X:=X) (pS (pos:=p 25) (eK (p:=p 15) (pos:=p 18) (Az hp hc) n0 hi J_ (a7 (ve (pos:=p 16)) (a7 (gl (pos:=p 17) (by decide) Z.np (by decide)) cN)))
   (pS (pos:=p 25) (eK (p:=p 19) (pos:=p 22) (AA Z hp hc) n0 hi J_ (a7 (ve (pos:=p 20)) (a7 (Bp (pos:=p 21) (v:=.ty "ValueError") (u:=.type "ValueError") (g _ (by decide)) hv (by first|rfl|decide +kernel) rfl) cN)))
   (uF (Fh (pos:=p 24) (pR (i:=3) (x:="_law_others_here") (pos:=p 23) (by rw[hN];rfl) (.inl (sc.loc _ (by decide))))))))
 refine c0.imp (gZ s1 (gZ s2 qJ)) fun D' σ H h=>?_;obtain⟨hl,h3,k⟩:=h;refine⟨_,h3,?_⟩;refine⟨by show 5<=zg;decide,fun q hq=>?_⟩;refine⟨q,_,rfl,bO,?_,?_⟩
 ·intro v hm
  simp only[zc,yA,or_false]at hm;rcases hm with rfl|rfl|rfl|rfl|rfl
  ·exact⟨_,rfl,c1,d1,z1⟩
  ·exact⟨_,rfl,c2,d2,z2⟩
  ·exact⟨_,rfl,c3,d3,z3⟩
  ·exact⟨_,rfl,c4,d4,z4⟩
  ·exact⟨_,rfl,c5,d5,z5⟩
 ·have h3':(σ.set 3 (some (.bl false)))[2]?=some (some (.ref e)):=by rw[zj (by decide)];exact h3
  have h4:(σ.set 3 (some (V.bl false)))[3]?=some (some (.bl false)):=zU (by rw[hl];decide);refine⟨_,h3',rfl,true,rfl,?_⟩;rw[if_pos rfl];refine⟨_,h3',rfl,true,rfl,?_⟩;rw[if_pos rfl];exact⟨_,h4,false,rfl,k q _ hq⟩
end
end L3
namespace L3
open PySem PySem.Spec PyProof.Rows L2
section
variable {X:Cx}{C D ra:kw}{rd:FuncData}{p:Nat->Pos}{k:Nat}{gR:List Str}{z:List L3.D->MH->Option MH}
theorem MM(Z:ZK X.K X.mg C D)(hN:X.N=om)(sc:pB X.env.scope)(hi:X.mg "isinstance" = none)(hv:X.mg "ValueError" = none)(hex:X.ex=[])(hst:X.stack=X.env::X.outer)(Om:X.env.frame=some X.env.locals)
  (FR:X.mg "shown" = some (.ref ra)) (FT:Z0 X.K (.ref ra)=true) (u0:Binds X.K rd gR []) (sa:gR.length=2) (hF:dD X.prog X.w X.K X.mg X.base (fX X.prog X.w) k ra rd gR (pL X.K 2 z C)) (hr:d8 k X.A) :
  PS X (Jq p) (fun D' σ H=>∃ι M M' ds v0 v1,σ=[some v0,some v1,none,none]/\aJ X.K ι M H/\az X.K ι H ds [v0,v1]/\z ds M=some M'/\∀H' ι',aJ X.K ι' M' H'->Ext X.K ι H ι' H'->D'.rt (.bl true) H'):=by
 intro Zz s σ H D' I h;obtain⟨ι,M,M',ds,v0,v1,rfl,S,R,ez,kk⟩:=h;refine wpAny_Try_except ?_;generalize Gd:(fun (e:jp) (s₁:kt)=>wpAny (model X.prog X.w) X.A (noteFrame e X.env) (fun _ s₂=>wpAny (model X.prog X.w) X.A (setFlight e none) (fun _ s₃=>wpAny (model X.prog X.w) X.A (handleBy e X.env [.ExceptHandler (some (.Name "HouseError" (p 28))) (some "e") (qD p) (p 29)]) (SP X Zz D') X.xe s₃) X.xe s₂) X.xe s₁)=E1;have Iw:=I.eG E1;have nv:∀{i:Nat} {x:Str} {pos:Pos},X.N[i]?=some x->x∈om->(x==("__debug__":Str))=false->(x==("__classdict__":Str))=false->PE (X.eG E1) (.Name x pos) (qv i):=fun h1 h2 h3 h4=>pR h1 (.inl (sc.loc _ h2)) h3 h4;have ha:PA (X.eG E1) [.Name "_law_tree_here" (p 1),.Name "_law_place" (p 2)] (ij (qv 0) (ij (qv 1) oM)):=a7 (nv (by rw[hN];rfl) (by decide) (by decide) (by decide)) (a7 (nv (by rw[hN];rfl) (by decide) (by decide) (by decide)) cN);have body:wpAny (model X.prog X.w) X.A (execs [.Expr (EW p) (p 27)] X.env) (fun _ _=>False) E1 s:=by
  refine wpAny_execs_cons (aQ (Q:=fun _ _=>False) (wpAny_Expr_any ?_ I.quiet (by rfl)) fun _ _ z=>z.elim);refine wpAny_Call_Name_kw (k6 I (sc.bE _ (by decide)) FR ?_);refine Z6 (h₀:=X.base) I.ok.mod.JC FT (aQ (ha (p 3) Zz s _ H (fun vs H1=>vs=[v0,v1]/\H1=H) Iw ⟨v0,rfl,v1,rfl,rfl,rfl⟩) fun us s1 ⟨vs,H1,I1,r,q⟩=>⟨I1.kc,?_⟩) (by rfl) (by rfl);obtain⟨rfl,rfl⟩:=q;replace I1:Inv X Zz _ H1 s1:=I1.dJ;have hl:(us++[]).length=gR.length:=by rw[zO,<- r.length,sa];rfl
  refine wpAny_call (codeAny_mono (hF.run X.A X.stack s1 H1 ⟨us,[]⟩ us [v0,v1] (fun _ _=>False) (fun cls _ H'=>cls=.ref C/\∃ι',aJ X.K ι' M' H'/\Ext X.K ι H1 ι' H') hr I1.OU (by have:=u0 s1 us I1.kc hl;rwa [zO]at this) r
   ⟨rfl,ι,M,M',ds,S,R,ez,fun H' ι' S' X'=>⟨rfl,ι',S',X'⟩⟩) fun r s' hq=>?_)
  cases r with
  |ok fl =>
   cases fl with
   |ret u=>obtain⟨_,_,_,_,_,_,_,q⟩:=hq;exact q
   |next=>exact False.elim hq
   |brk=>exact False.elim hq
   |cont=>exact False.elim hq
  |error x =>
   obtain⟨e,T,C',H',rfl,os,bare,un,ax,OQ,e0,T0,eH,TH,ec,ι',S',X'⟩:=hq;cases ec;subst Gd;show wpAny (model X.prog X.w) X.A (noteFrame (.ref e) X.env) _ _ s';have I2:Inv X Zz _ H' s':=I1.call' (ch:=[]) os un ax bare (fun b z=>absurd z (by simp));have new:∀b,s1.heap.get? b=none->X.s₀.heap.get? b=none/\b≠X.env.locals/\(∀x c,X.env.cells.lookup x=some c->c≠b)/\(∀q∈X.pn++Zz,q.1≠b)/\b ∉ X.fs:=fun b hb=>by
    have h0:X.s₀.heap.get? b=none:=by
     cases q:X.s₀.heap.get? b with
     |none=>rfl
     |some o =>
      obtain⟨o',e'⟩:=I1.base.there b o q (by rw[hex];exact fun z=>nomatch z);rw[hb]at e';cases e'
    refine⟨h0,?_,?_,?_,?_⟩
    ·rintro rfl
     obtain⟨m,⟨o,_,_,ho,_⟩,_⟩:=I1.loc;rw[hb]at ho;cases ho
    ·rintro x c hx rfl
     obtain⟨v,o,ho,_⟩:=I1.cell x c hx;rw[hb]at ho;cases ho
    ·rintro q hq rfl
     rw[(I1.pin q hq).1]at hb;cases hb
    ·intro z
     obtain⟨_,o,ho,_⟩:=I1.ok.gr.mem z;rw[h0]at ho;cases ho
   have fr:X.A.frames=some (X.env::X.outer):=hst▸I2.ok.frames;have fl:s'.heap.FunFrames X.base (X.env::X.outer):=hst▸I2.stack;refine uP (base:=X.base) fr fl Om OQ fun h3 T' D3 hT' ND=>?_;have JZ:s'.heap.get? T'=none:=yR hT';have I3:=kf (t':=s'.toks) (ch:=[e,T]) I2 (fun b hb=>by
    simp only[zc,yA,or_false]at hb;rcases hb with rfl|rfl
    ·exact⟨(new _ e0).1,(new _ e0).2.1,(new _ e0).2.2.1,(new _ e0).2.2.2.1,eH⟩
    ·exact⟨(new _ T0).1,(new _ T0).2.1,(new _ T0).2.2.1,(new _ T0).2.2.2.1,TH⟩) (hst▸ND)
   have new':∀b,s'.heap.get? b=none->X.s₀.heap.get? b=none/\b≠X.env.locals/\(∀x c,X.env.cells.lookup x=some c->c≠b)/\(∀q∈X.pn++Zz,q.1≠b)/\H' b=none:=fun b hb=>by
    refine⟨?_,?_,?_,?_,?_⟩
    ·cases q:X.s₀.heap.get? b with
     |none=>rfl
     |some o =>
      obtain⟨o',e'⟩:=I2.base.there b o q (by rw[hex];exact fun z=>nomatch z);rw[hb]at e';cases e'
    ·rintro rfl
     obtain⟨m,⟨o,_,_,ho,_⟩,_⟩:=I2.loc;rw[hb]at ho;cases ho
    ·rintro x c hx rfl
     obtain⟨v,o,ho,_⟩:=I2.cell x c hx;rw[hb]at ho;cases ho
    ·rintro q hq rfl
     rw[(I2.pin q hq).1]at hb;cases hb
    ·cases q:H' b with
     |none=>rfl
     |some u =>
      obtain⟨o,ho⟩:=mH (I2.ax b u q);rw[hb]at ho;cases ho
   refine wpAny_handleBy_cons (codeAny_handlers_test ?_) (by intro q;cases q);obtain⟨oe,vs,oT,ts,he,gq,hd,h1,mV,hT,p8,h3'⟩:=id D3;have nc:∀v,oe.data≠.cell v:=fun v q=>by rw[hd]at q;cases q
   have I4:Inv (kh X e oe) Zz _ H' { s' with heap:=h3 }:=uX I3 he eH (new _ e0).2.1 (new _ e0).2.2.2.2 nc;refine k6 (X:=kh X e oe) I4 (sc.bE _ (by decide)) Z.he ?_;refine Kq ⟨oe,he,gq⟩ (Z.zh _ I3.kc) ?_;rw[if_pos rfl];refine codeAny_handlers_suite_as (lands D3 fun h4 T1 keep=>?_);have T4:∃o,h4.get? T'=some o:=let ⟨_,_,oT,_,_,_,_,_,_,q,_⟩:=T1;⟨oT,q⟩;have WD:h4.get? e=some oe:=keep e oe (Ne.symm mV) he;have I5:=kf (h':=h4) (t':=s'.toks) (ch:=[T']) I3 (fun b hb=>by
    simp only[zc,yA,or_false]at hb;subst hb;exact new' _ JZ) ⟨fun b o _ hb q=>keep b o (by simpa using hb) q,fun b o hb q=>⟨o.slots,keep b o (by simpa using hb) q⟩,fun b o q=>by
     by_cases hb:b=T'
     ·subst hb;exact T4
     ·exact⟨o,keep b o hb q⟩⟩
   have I6:Inv (kh X e oe) Zz _ H' { s' with heap:=h4 }:=uX I5 WD eH (new _ e0).2.1 (new _ e0).2.2.2.2 nc;have nd:(kh X e oe).N.Nodup:=by show X.N.Nodup;rw[hN];decide
   refine oO (X:=kh X e oe) (v:=.ref e) (i:=2) (x:="e") I6 nd (by show X.N[2]?=_;rw[hN];rfl) (.inl (sc.loc _ (by decide))) rfl (fun s5 I7=>?_) (.inr (sc.loc _ (by decide)));have su:=Ho (X:=kh X e oe) (p:=p) (e:=e) (oe:=oe) Z (.head _) gq hN sc hi hv Zz s5 _ H' { nx:=fun _ _=>False,rt:=fun v H6=>v=.bl true/\∃ι6,aJ X.K ι6 M' H6/\Ext X.K ι H1 ι6 H6 } I7
    ⟨rfl,rfl,fun q vs hq=>⟨rfl,ι',S'.fL hq,X'.trans (Ext.fL hq)⟩⟩
   refine wpAny_mono su (fun f s6 q=>?_) fun _ _ z=>False.elim z;cases f with
   |ret u =>
    obtain⟨v6,σ6,H6,I8,r8,rfl,ι6,S6,X6⟩:=q;have I9:=DW I.ok I8;exact name_goes (i:=2) (x:="e") I9 (by rw[hN];decide) (by rw[hN];rfl) (sc.loc _ (by decide)) fun s7 Pp=>⟨_,_,H6,Pp,r8,kk H6 ι6 S6 X6⟩
   |next=>obtain⟨_,_,_,q⟩:=q;exact q.elim
   |brk=>obtain⟨_,_,_,q⟩:=q;exact q.elim
   |cont=>obtain⟨_,_,_,q⟩:=q;exact q.elim
 exact wpAny_mono body (fun _ _ z=>z.elim) fun _ _ z=>by subst Gd;exact z
theorem KY(Z:ZK X.K X.mg C D)(hN:X.N=om)(sc:pB X.env.scope)(hi:X.mg "isinstance" = none)(hv:X.mg "ValueError" = none)(hex:X.ex=[])(hst:X.stack=X.env::X.outer)(Om:X.env.frame=some X.env.locals)
  (FR:X.mg "shown" = some (.ref ra)) (FT:Z0 X.K (.ref ra)=true) (u0:Binds X.K rd gR []) (sa:gR.length=2) (hF:dD X.prog X.w X.K X.mg X.base (fX X.prog X.w) k ra rd gR (pL X.K 2 z C)) (hr:d8 k X.A) :
  c0 X (mB p) (fun D' σ H=>∃ι M M' ds v0 v1,σ=[some v0,some v1,none,none]/\aJ X.K ι M H/\az X.K ι H ds [v0,v1]/\z ds M=some M'/\∀H' ι',aJ X.K ι' M' H'->Ext X.K ι H ι' H'->D'.rt (.bl true) H'):=by
 refine c0.imp (gZ (MM (p:=p) Z hN sc hi hv hex hst Om FR FT u0 sa hF hr) (gZ (uA (pos:=p 32) (Ju (b:=false) (j:=0) (pos:=p 31))) qJ)) fun D' σ H h=>?_;exact h
end
section
variable {P:ul}{w:ut}{K:Q_}{mg:Str->Option jp}{base:Heap}{C D fa ra:kw}{fd rd:FuncData}{p:Nat->Pos}{k:Nat}{gR:List Str}{z:List L3.D->MH->Option MH}{st:Zy}{x:Str}
theorem C6(F:ko K x x st fa fd)(hS:dk om ["_law_tree_here","_law_place"] (au st))(hb:ba st=mB p)(sc:pB (au st))(Z:ZK K mg C D)(hi:mg "isinstance" = none)(hv:mg "ValueError" = none)
  (FR:mg "shown" = some (.ref ra)) (FT:Z0 K (.ref ra)=true) (u0:Binds K rd gR []) (sa:gR.length=2) (hF:dD P w K mg base (fX P w) k ra rd gR (pL K 2 z C)) :
  dD P w K mg base kq (k+1) fa fd ["_law_tree_here","_law_place"] (iO K 2 (fun ds M=>match z ds M with
   |some M'=>some (.ok (.bl true),M')
   |none=>none)):=by
 refine F.ok hS (fun vs H Q E h=>h.1) (fun cdv A outer s H vs Q E hr h=>?_);obtain⟨hl,ι,M,M',ds,d,S,R,ez,kk⟩:=h;dsimp only at ez;split at ez
 ·rename_i M1 W7
  cases ez;rw[hb];obtain⟨v0,v1,rfl⟩:∃v0 v1,vs=[v0,v1]:=match vs,hl with
   |[a,b],_=>⟨a,b,rfl⟩
  exact⟨_,KY (X:=(fN kq P w K mg base om x (au st) fa cdv A outer s H E).dQ) Z rfl sc hi hv rfl rfl rfl FR FT u0 sa hF hr,ι,M,_,ds,v0,v1,rfl,S,R,W7,fun H' ι' S' X'=>kk _ H' ι' (.bl true) S' X'⟩
 ·cases ez
end
end L3
namespace L3
open PySem PySem.Spec PyProof.Rows L2
noncomputable def stillOk(h:Heap)(name:Str):Bool:=match h.clsAt mainGlobals name with
 |some (_,_,cd)=>eR.all fun n=>(h.nsMap cd.ns n).isNone
 |none=>false
noncomputable def Br(h:Heap)(x:Str):Bool:=match h.clsAt mainGlobals x with
 |some (B,o,_)=>decide (o.cls=.type "type")&&!decide (h.nsMap mainGlobals "NoPlace" = some (.ref B))&&!decide (h.nsMap mainGlobals "HouseError" = some (.ref B))
 |none=>false
noncomputable def GY(s:kt):Bool:=s.heap.ownExcOk "NoPlace" ["HouseError"] gT "ValueError.__new__"&&s.heap.ownExcOk "HouseError" [] gT "ValueError.__new__"&&stillOk s.heap "NoPlace"&&stillOk s.heap "HouseError"&&qr.all (Br s.heap)
noncomputable def As(_:ut)(h:Heap):Prop:=∃C D,h.nsMap mainGlobals "NoPlace" = some (.ref C)/\h.nsMap mainGlobals "HouseError" = some (.ref D)/\ZH h C D/\∀x∈qr,∃B,h.nsMap mainGlobals x=some (.ref B)/\B≠C/\B≠D/\ZB h B
theorem IY{h:Heap}{name:Str}{chain:List Str}(x:h.ownExcOk name chain gT "ValueError.__new__" = true)(y:stillOk h name=true):∃C,h.nsMap mainGlobals name=some (.ref C)/\ZC h C ((chain.map fun n=>(h.nsMap mainGlobals n).getD .none)++gT):=by
 obtain⟨C,N,nm,q,bs,hdct,sn,sub,ab,col,dd,k0,k1,k2,k3,k5,hb,hC,hN,_⟩:=Heap.ownExc_of_ok x;refine⟨C,hb,N,nm,q,bs,hdct,sn,sub,ab,col,dd,k0,k1,k2,k3,k5,_,hC,hN,fun n hn=>?_⟩;unfold stillOk at y;cases hf:h.clsAt mainGlobals name with
 |none=>rw[hf]at y;cases y
 |some z =>
  obtain⟨C',o',cd'⟩:=z;rw[hf]at y;obtain⟨hn',ho',hd'⟩:=vE hf;rw[hb]at hn';obtain rfl:C=C':=by injection hn' with q1;injection q1
  rw[hC]at ho';obtain rfl:=Option.some.inj ho';obtain rfl:_=cd':=by injection hd'
  exact wo.mp (zS.mp y n hn)
theorem SU(w:ut)(s:kt)(x:GY s=true):As w s.heap:=by
 unfold GY at x;simp only[zl]at x;obtain⟨⟨⟨⟨x1,x2⟩,x3⟩,x4⟩,x5⟩:=x;obtain⟨C,c1,c2⟩:=IY x1 x3;obtain⟨D,d1,d2⟩:=IY x2 x4;refine⟨C,D,c1,d1,⟨?_,d2⟩,fun x hx=>?_⟩
 ·rw[zG,xI,d1]at c2
  exact c2
 ·have y:=zS.mp x5 x hx
  unfold Br at y;cases hf:s.heap.clsAt mainGlobals x with
  |none=>rw[hf]at y;cases y
  |some z =>
   obtain⟨B,o,cd⟩:=z;rw[hf]at y;obtain⟨h1,h2,h3⟩:=vE hf;simp only[zl,decide_eq_true_eq,yT,decide_eq_false_iff_not]at y;obtain⟨⟨y1,y2⟩,y3⟩:=y;exact⟨B,h1,fun q=>y2 (q▸c1),fun q=>y3 (q▸d1),o,cd,h2,y1,h3⟩
theorem kB{h h':Heap}{a:kw}{x:Str}{v:jp}(k:∀b o,h.get? b=some o->h'.get? b=some o)(e:h.nsMap a x=some v):h'.nsMap a x=some v:=by
 unfold Heap.nsMap at e ⊢;split at e
 ·rename_i o ho
  rw[k _ _ ho];exact e
 ·cases e
theorem Kr(w:ut)(h h':Heap)(z:As w h)(k:∀b o,h.get? b=some o->h'.get? b=some o):As w h':=by
 obtain⟨C,D,c,d,zh,ot⟩:=z;refine⟨C,D,kB k c,kB k d,zh.keeps k,fun x hx=>?_⟩;obtain⟨B,b1,b2,b3,o,cd,b4,b5⟩:=ot x hx;exact⟨B,kB k b1,b2,b3,o,cd,k _ _ b4,b5⟩
noncomputable def fY:PySem.W.Hook:=⟨Bool,GY,fun _=>true,As,SU,Kr⟩
end L3
namespace L3
open PySem PySem.Spec PyProof.Rows L2
theorem VA{α:Type}{P:List α->Prop}(h:∀a,P [a]):∀us:List α,us.length=1->P us
 |[a],_=>h a
theorem Vz{α:Type}{P:List α->Prop}(h:∀a b,P [a,b]):∀us:List α,us.length=2->P us
 |a::r,z9=>VA (P:=fun r=>P (a::r)) (fun b=>h a b) r (Nat.succ.inj z9)
structure Ent where
 x:Str
 st:Zy
 N:List Str
 ps:List Str
 b:aE
noncomputable def tabOf(es:List Ent):List (Str×Fd):=es.map fun e=>(e.x,⟨e.N.length,e.ps.length,e.b⟩)
noncomputable def lX(K:Q_)(mg:Str->Option jp)(es:List Ent)(gls aY:List Str)(e:Ent):Prop:=∃(fa:kw) (fd:FuncData),ko K e.x e.x e.st fa fd/\mg e.x=some (.ref fa)/\Binds K fd e.ps []/\dk e.N e.ps (au e.st) /\
 cX ⟨au e.st,e.N,es.map (·.x),gls,aY⟩ 200 (ba e.st)=some e.b/\(tabOf es).lookup e.x=some ⟨e.N.length,e.ps.length,e.b⟩
noncomputable def Cc(K:Q_)(mg:Str->Option jp)(gl:Str->Option D)(x:Str):Prop:=∃d u v,gl x=some d/\mg x=some u/\RelV v u/\∀ι H,Rep K ι H d v
section
variable {P:ul}{w:ut}{K:Q_}{mg:Str->Option jp}{base:Heap}{es:List Ent}{gls aY:List Str}{gl:Str->Option D}{srt:List D->Option (List D)}{wh:Nat}
theorem Qy{A:Zx}{k:Nat}(hr:d8 k A):A.units+100<cLine:=by have:=hr.un;omega
structure GR (K:Q_) (mg:Str->Option jp) (es:List Ent) (C Dd:kw):Prop where
 Z:ZK K mg C Dd
 hi:mg "isinstance" = none
 hv:mg "ValueError" = none
 rf:∃(fa:kw) (fd:FuncData) (st:Zy) (p:Nat->Pos),ko K "_law_refused" "_law_refused" st fa fd/\mg "_law_refused" = some (.ref fa)/\Binds K fd ["_law_tree_here","_law_place"] []/\dk om ["_law_tree_here","_law_place"] (au st)/\ba st=mB p/\pB (au st)
 ra:∀y∈(["row_at","shown"]:List Str),∃e∈es,e.x=y/\e.ps.length=2/\dS 200 (ba e.st) e.b=true
variable {C Dd:kw}(jP:GR K mg es C Dd)
include jP
noncomputable def SN(P:ul)(w:ut)(K:Q_)(mg:Str->Option jp)(base:Heap)(Γ:Ctx)(es:List Ent)(k:Nat):Prop:=∀e:Ent,e∈es->∃(fa:kw) (fd:FuncData),ko K e.x e.x e.st fa fd /\
  mg e.x=some (.ref fa)/\Z0 K (.ref fa)=true/\Binds K fd e.ps []/\dD P w K mg base kq k fa fd e.ps (iO K e.ps.length (Γ.fn e.x)) /\
  ∀ds M d M',Γ.fn e.x ds M=some (.ok d,M')->ds.length=e.ps.length
noncomputable def Pq(P:ul)(w:ut)(K:Q_)(mg:Str->Option jp)(base:Heap)(Γ:Ctx)(k:Nat):Prop:=∃(fa:kw) (fd:FuncData),mg "_law_refused" = some (.ref fa)/\Z0 K (.ref fa)=true/\Binds K fd ["_law_tree_here","_law_place"] [] /\
  dD P w K mg base kq k fa fd ["_law_tree_here","_law_place"] (iO K 2 (ug Γ))/\∀ds M d M',ug Γ ds M=some (.ok d,M')->ds.length=2
omit jP in
theorem Kb(hg:∀x∈gls,Cc K mg gl x)(hb:∀x∈aY,mg x=none){k:Nat}(a:SN P w K mg base (cv (tabOf es) gl srt wh k) es k)(b:Pq P w K mg base (cv (tabOf es) gl srt wh k) k){e:Ent}(hS:dk e.N e.ps (au e.st))
  (fa:kw) (cdv:jp) (A:Zx) (outer:List Env) (s:kt) (H:Hp) (E:XK) (hr:d8 k (A.deeper (envOfC e.x (au e.st) s.heap.objs.size fa cdv))) :
  aN (cv (tabOf es) gl srt wh k) ⟨au e.st,e.N,es.map (·.x),gls,aY⟩ (fN kq P w K mg base e.N e.x (au e.st) fa cdv A outer s H E).dQ:={
    n:=rfl
    sc:=fun x q hx=>⟨q,hx,.inl rfl⟩
    calm:=rfl
    hu:=Qy hr
    dQ:=rfl
    fns:=fun x hx=>by
     obtain⟨e',he',rfl⟩:=zQ.mp hx;obtain⟨fa',fd',_,g1,g2,g3,g4,g5⟩:=a e' he';exact⟨k,fa',fd',e'.ps,g1,g2,g3,g4,hr,g5⟩
    gls:=fun x hx=>by
     obtain⟨d',u,v,g1,g2,g3,g4⟩:=hg x hx;refine⟨d',u,v,?_,g2,g3,g4⟩;cases k <;> exact g1
    aY:=hb
    rfs:=by
     obtain⟨fa',fd',g1,g2,g3,g4,g5⟩:=b;exact⟨k,fa',fd',["_law_tree_here","_law_place"],g1,g2,g3,g4,hr,g5⟩
    nd:=hS.nd }
noncomputable def Sy(P:ul)(w:ut)(K:Q_)(mg:Str->Option jp)(base:Heap)(Γ:Ctx)(C:kw)(k:Nat)(y:Str):Prop:=∃(ra:kw) (rd:FuncData) (gR:List Str),mg y=some (.ref ra)/\Z0 K (.ref ra)=true/\Binds K rd gR []/\gR.length=2 /\
  dD P w K mg base (fX P w) k ra rd gR (pL K 2 (Γ.rz y) C)/\∀ds M M',Γ.rz y ds M=some M'->ds.length=2
theorem LN(hsrt:∀k,iE (cv (tabOf es) gl srt wh k))(hd:∀e∈es,lX K mg es gls aY e)(hg:∀x∈gls,Cc K mg gl x)(hb:∀x∈aY,mg x=none)(k:Nat):SN P w K mg base (cv (tabOf es) gl srt wh k) es k /\
  Pq P w K mg base (cv (tabOf es) gl srt wh k) k/\∀y∈(["row_at","shown"]:List Str),Sy P w K mg base (cv (tabOf es) gl srt wh k) C k y:=by
 obtain⟨fr,Su,str,pr,Fr,mr,br,Sr,WK,Vr⟩:=jP.rf;induction k with
 |zero =>
  refine⟨fun e he=>?_,⟨fr,Su,mr,Fr.kp,br,⟨fun vs H Q E h=>h.1,fun A outer s H args us vs Q E _ _ _ _ h=>?_⟩,fun ds M d M' h=>?_⟩,?_⟩
  ·obtain⟨fa,fd,F,hm,lb,_⟩:=hd e he
   refine⟨fa,fd,F,hm,F.kp,lb,⟨fun vs H Q E h=>h.1,fun A outer s H args us vs Q E _ _ _ _ h=>?_⟩,fun ds M d M' h=>?_⟩
   ·obtain⟨_,_,_,_,_,_,_,_,e,_⟩:=h
    exact(ah e).elim
   ·exact(ah h).elim
  ·obtain⟨_,_,_,_,_,_,_,_,e,_⟩:=h
   cases e
  ·cases h
  ·intro y hy
   obtain⟨er,Oo,J6,Gv,zr⟩:=jP.ra y hy;obtain⟨fa,fd,F,hm,lb,_⟩:=hd er Oo;rw[J6]at hm;refine⟨fa,fd,er.ps,hm,F.kp,lb,Gv,⟨fun vs H Q E h=>h.1.trans Gv.symm,fun A outer s H args us vs Q E _ _ _ _ h=>?_⟩,fun ds M M' h=>?_⟩
   ·obtain⟨_,_,_,_,_,_,_,e,_⟩:=h
    cases e
   ·cases h
 |succ k ih =>
  obtain⟨Rp,Ro,Rn⟩:=ih;obtain⟨ra,rd,gR,rm,rk,rb,rl,rF,Hn⟩:=Rn "shown" (by decide);have zF:Sx P w K mg base (cv (tabOf es) gl srt wh k) C k:=by
   obtain⟨ra,rd,gR,rm,rk,rb,rl,rF,Hn⟩:=Rn "row_at" (by decide);exact⟨ra,rd,gR,rm,rk,rb,by rw[rl];exact rF,by rw[rl];exact Hn⟩
  refine⟨fun e he=>?_,⟨fr,Su,mr,Fr.kp,br,?_,fun ds M d M' h=>?_⟩,?_⟩
  ·obtain⟨fa,fd,F,hm,lb,hS,hc,ht⟩:=hd e he
   have BL:(cv (tabOf es) gl srt wh (k+1)).fn e.x=fun xs=>(do need (xs.length=e.ps.length);oQ (cv (tabOf es) gl srt wh k) e.N.length e.b xs:Mo D):=by
    funext xs;show (match (tabOf es).lookup e.x with
     |some d=>(do need (xs.length=d.p);oQ (cv (tabOf es) gl srt wh k) d.n d.b xs:Mo D)
     |none=>Mo.stop)=_
    rw[ht]
   refine⟨fa,fd,F,hm,F.kp,lb,?_,fun ds M d M' h=>?_⟩
   ·refine F.ok hS (fun vs H Q E h=>h.1) (fun cdv A outer s H vs Q E hr h=>?_)
    obtain⟨hl,ι,M,M',ds,d,S,r,eq,kk⟩:=h;rw[BL]at eq;obtain⟨_,M0,e1,eq1⟩:=aa eq;obtain⟨hn,hM⟩:=aU e1;rw[hM]at eq1;obtain⟨f,M1,e2,eq2⟩:=aa eq1;refine⟨_,(pM (sound (hsrt k)) 200).Ss _ _ _ _ (Kb hg hb Rp Ro hS fa cdv A outer s H E hr) (fun _=>rfl) hc,?_⟩;refine⟨ι,_,_,f,M1,S,sm (N:=e.N) r,e2,fun H' ι' S' X'=>?_⟩;cases f with
    |nx ρ=>obtain⟨rfl,rfl⟩:=af eq2;exact fun σ _=>kk .non H' ι' .non S' X'
    |rt v=>obtain⟨rfl,rfl⟩:=af eq2;exact fun v' r'=>kk v' H' ι' r' S' X'
    |bk ρ=>exact(ah eq2).elim
    |ct ρ=>exact(ah eq2).elim
   ·rw[BL]at h
    obtain⟨_,_,e1,_⟩:=aa h;exact(aU e1).1
  ·exact C6 Fr Sr WK Vr jP.Z jP.hi jP.hv rm rk rb rl rF
  ·replace h:(match (cv (tabOf es) gl srt wh k).rz "shown" ds M with
    |some M'=>(some (.ok (.bl true),M'):Option (Out D×MH))
    |none=>none)=some (.ok d,M'):=h
   cases q:(cv (tabOf es) gl srt wh k).rz "shown" ds M with
   |none=>rw[q]at h;cases h
   |some M1=>exact Hn ds M M1 q
  ·intro y hy
   obtain⟨er,Oo,J6,Gv,zr⟩:=jP.ra y hy;obtain⟨fa,fd,F,hm,lb,hS,hc,ht⟩:=hd er Oo;have hz:(cv (tabOf es) gl srt wh (k+1)).rz y=fun xs M=>if xs.length=er.ps.length then cU (cv (tabOf es) gl srt wh k) er.b (xs.map some++yq (er.N.length-xs.length) none) M else none:=by
    funext xs M;show (match (tabOf es).lookup y with
     |some d=>if xs.length=d.p then cU (cv (tabOf es) gl srt wh k) d.b (xs.map some++yq (d.n-xs.length) none) M else none
     |none=>none)=_
    rw[<- J6,ht]
   have rr:=E2 (P:=P) (w:=w) (base:=base) (Γ:=cv (tabOf es) gl srt wh k) (k:=k) F hS hc zr jP.Z (sound (hsrt k)) (fun cdv A outer s H E hr=>Kb hg hb Rp Ro hS fa cdv A outer s H E hr) zF;rw[J6]at hm;unfold Sy;rw[hz];rw[Gv]at rr ⊢;refine⟨fa,fd,er.ps,hm,F.kp,lb,Gv,rr,fun ds M M' h=>?_⟩;dsimp only at h;split at h
   ·assumption
   ·cases h
theorem OP(hsrt:∀k,iE (cv (tabOf es) gl srt wh k))(hd:∀e∈es,lX K mg es gls aY e)(hg:∀x∈gls,Cc K mg gl x)(hb:∀x∈aY,mg x=none):∀(k:Nat) (e:Ent),e∈es->∃(fa:kw) (fd:FuncData),ko K e.x e.x e.st fa fd /\
  mg e.x=some (.ref fa)/\Z0 K (.ref fa)=true/\Binds K fd e.ps []/\dD P w K mg base kq k fa fd e.ps (iO K e.ps.length ((cv (tabOf es) gl srt wh k).fn e.x)) /\
  ∀ds M d M',(cv (tabOf es) gl srt wh k).fn e.x ds M=some (.ok d,M')->ds.length=e.ps.length:=fun k=>(LN jP hsrt hd hg hb k).1
theorem NN(hsrt:∀k,iE (cv (tabOf es) gl srt wh k))(hd:∀e∈es,lX K mg es gls aY e)(hg:∀x∈gls,Cc K mg gl x)(hb:∀x∈aY,mg x=none)(k:Nat){e:Ent}(he:e∈es){fa:kw}{fd:FuncData}(F:ko K e.x e.x e.st fa fd)(hm:mg e.x=some (.ref fa)) :
  dD P w K mg base kq k fa fd e.ps (iO K e.ps.length ((cv (tabOf es) gl srt wh k).fn e.x)):=by
 obtain⟨fa',fd',F',hm',_,_,g,_⟩:=OP (P:=P) (w:=w) (base:=base) jP hsrt hd hg hb k e he;rw[hm]at hm';cases hm';obtain⟨_,_,_,_,_,_,_,_,_,_,l1,_⟩:=F.ex;obtain⟨_,_,_,_,_,_,_,_,_,_,l2,_⟩:=F'.ex;rw[l1]at l2;cases l2;exact g
end
theorem rZ{K:Q_}{ι:List kw}{H:Hp}:∀ns:List Int,az K ι H (ns.map D.int) (ns.map V.int)
 |[]=>.nil
 |n::r=>.cons (.int n) (rZ r)
theorem QH{K:Q_}{H:Hp}{a:kw}{xs:List V}(hO:En H)(h:aZ K H a xs):Cd K H a xs:=by
 rcases h with (h|h)|h
 ·rcases hO a with z|⟨o,ys,z⟩
  ·rw[z]at h;cases h
  ·rw[z]at h;cases h
 ·exact .inl h
 ·exact .inr h
theorem Mz{K:Q_}{H:Hp}{a:kw}{ns:List Int}{g:List D->Mo D}{E:XK}(hO:En H)(hS:aZ K H a (ns.map V.int))(hg:∃M',g [.fl (ns.map .int)] []=some (.ok (.bl true),M')):iO K 1 g [.ref a] H (fun v _=>v=.bl true) E:=by
 obtain⟨M',e⟩:=hg;refine⟨rfl,[],[],M',_,_,⟨rfl,fun i j a h=>by simp at h,fun i a o h=>by simp at h⟩,.cons (.fl (QH hO hS) (rZ ns)) .nil,e,fun v H' ι' r _ _=>?_⟩;cases r;rfl
end L3
namespace L3
open PySem PySem.Spec PyProof.Rows L2
noncomputable def i9{α:Type}(lt:Nat->Nat->Option Bool):Z9 α->Option α
 |.ret a=>some a
 |.ask i j k=>match lt i j with
  |none=>none
  |some b=>i9 lt (k b)
theorem w5{α:Type}{lt:Nat->Nat->Option Bool}{cmp:Nat->Nat->(Bool->kt->Prop)->kt->Prop}{s:kt}{a:α}{Q:α->kt->Prop}(hc:∀i j b (C:Bool->kt->Prop),lt i j=some b->C b s->cmp i j C s)(q:Q a s) :
  ∀(t:Z9 α),i9 lt t=some a->t.kasWp cmp Q s
 |.ret b,h=>by cases h;exact q
 |.ask i j k,h=>by
  unfold i9 at h;cases e:lt i j with
  |none=>rw[e]at h;cases h
  |some b =>
   rw[e]at h;exact hc i j b _ e (w5 hc q (k b) h)
section
variable {prog:ul}{w:ut}{A:Zx}{E:jp->kt->Prop}{s:kt}{a:kw}{vs:List jp}{n:Nat}{P:PySem.Fin->kt->Prop}
theorem pW(ho:s.heap.get? a=some (seqObj "list" vs.toArray n))(h2:vs.length<2)
  (h:∀h' c,(∀b o,b≠a->s.heap.get? b=some o->h'.get? b=some o)->h'.get? a=some (seqObj "list" vs.toArray c)->P (.done (.ret .none)) { s with heap:=h' }) :
  wpAny (model prog w) A (Builtin.«list.sort» ⟨[.ref a],[]⟩) P E s:=by
 rw[list_sort_plain];have ha:a<s.heap.objs.size:=zf ho;refine zy (listItems_at ho rfl ?_);refine zy (listUpdate_at ho rfl ?_ (by rw[ze,sizeLine_eq];omega) (zM _));obtain⟨e1,mS⟩:∃e1,(s.heap.update a (Obj.mapSeq fun _=>#[])).get? a=some (seqObj "list" #[] e1):=⟨_,get?_update_seq ho (fun _=>#[])⟩;refine zy (seqEpoch_at mS rfl ?_);refine zy (wpAny_newTuple ?_ (by show vs.length<=_;rw[sizeLine_eq];omega));refine zy (wpAny_newList ?_ (zM _));refine wpAny_holding ?_;have u5:(((s.heap.update a (Obj.mapSeq fun _=>#[])).push (seqObj "tuple" vs.toArray 0)).push (seqObj "list" #[] 0)).get? a=some (seqObj "list" #[] e1):=by
  rw[yC _ _ _ (by rw[size_push',yG];exact zd (yb ha)),yC _ _ _ (by rw[yG];exact zd ha)];exact mS
 show wpAny (model prog w) A _ P E { s with heap:=((s.heap.update a (Obj.mapSeq fun _=>#[])).push (seqObj "tuple" vs.toArray 0)).push (seqObj "list" #[] 0) };dsimp only;have aS:vs.toArray.size<2:=by rw[ze];exact h2
 rw[if_pos aS,if_pos aS];refine zy (zt ?_);rw[StateT.run_pure];refine zy (zt ?_);dsimp only;have hz:∀l:List jp,(l.toArray.zip l.toArray).map (fun x=>x.2)=l.toArray:=fun l=>by
  apply xQ.mp;simp only[Array.toList_map,Array.toList_zip];induction l with
  |nil=>rfl
  |cons x r ih=>simpa using ih
 refine zy (seqEpoch_at u5 rfl ?_);refine zy (listUpdate_at u5 rfl ?_ (zM _) (hsz2:=by rw[hz,ze,sizeLine_eq];omega));simp only[bne_self_eq_false,yn,if_false];rw[hz];obtain⟨c2,jQ⟩:∃c2,((((s.heap.update a (Obj.mapSeq fun _=>#[])).push (seqObj "tuple" vs.toArray 0)).push (seqObj "list" #[] 0)).update a (Obj.mapSeq fun _=>vs.toArray)).get? a=some (seqObj "list" vs.toArray c2):=⟨_,get?_update_seq u5 fun _=>vs.toArray⟩;refine zt (h _ c2 (fun b o hb e=>?_) jQ);have aS:b<s.heap.objs.size:=zf e;rw[xp _ _ _ _ hb,yC _ _ _ (by rw[size_push',yG];exact zd (yb aS)),yC _ _ _ (by rw[yG];exact zd aS),xp _ _ _ _ hb];exact e
theorem sM{κ:SortKind}{lt:Nat->Nat->Option Bool}{p:Array Nat}(ho:s.heap.get? a=some (seqObj "list" vs.toArray n))(h2:2<=vs.length)(qa:vs.length<64)
  (hk:∀h',(∀b o,b≠a->s.heap.get? b=some o->h'.get? b=some o)->∀(Q:SortKind->kt->Prop),Q κ { s with heap:=h' }->wpAny (model prog w) A (keyKind' vs.toArray) Q (fun _ _=>False) { s with heap:=h' })
  (hc:∀h',(∀b o,b≠a->s.heap.get? b=some o->h'.get? b=some o)->∀i j b (C:Bool->kt->Prop),lt i j=some b->C b { s with heap:=h' }->Z_ prog w A κ vs i j C { s with heap:=h' })
  (he:i9 lt (Z4 vs.length)=some p)
  (h:∀h' c,p.size=vs.length->(∀b o,b≠a->s.heap.get? b=some o->h'.get? b=some o)->h'.get? a=some (seqObj "list" (List.toArray (p.toList.map fun i=>vs.getD i Value.none)) c)->P (.done (.ret .none)) { s with heap:=h' }) :
  wpAny (model prog w) A (Builtin.«list.sort» ⟨[.ref a],[]⟩) P E s:=by
 have ha:a<s.heap.objs.size:=zf ho;obtain⟨e1,mS⟩:∃e1,(s.heap.update a (Obj.mapSeq fun _=>(#[]:Array jp))).get? a=some (seqObj "list" #[] e1):=⟨_,get?_update_seq ho fun _=>#[]⟩;have keep:∀b o,b≠a->s.heap.get? b=some o->(((s.heap.update a (Obj.mapSeq fun _=>(#[]:Array jp))).push (seqObj "tuple" vs.toArray 0)).push (seqObj "list" #[] 0)).get? b=some o:=fun b o hb e=>by
  have aS:b<s.heap.objs.size:=zf e;rw[yC _ _ _ (by rw[size_push',yG];exact zd (yb aS)),yC _ _ _ (by rw[yG];exact zd aS),xp _ _ _ _ hb];exact e
 have u5:(((s.heap.update a (Obj.mapSeq fun _=>(#[]:Array jp))).push (seqObj "tuple" vs.toArray 0)).push (seqObj "list" #[] 0)).get? a=some (seqObj "list" #[] e1):=by
  rw[yC _ _ _ (by rw[size_push',yG];exact zd (yb ha)),yC _ _ _ (by rw[yG];exact zd ha)];exact mS
 rw[list_sort_plain];refine zy (listItems_at ho rfl ?_);refine zy (listUpdate_at ho rfl ?_ (by rw[ze,sizeLine_eq];omega) (zM _));refine zy (seqEpoch_at mS rfl ?_);refine zy (wpAny_newTuple ?_ (by show vs.length<=_;rw[sizeLine_eq];omega));refine zy (wpAny_newList ?_ (zM _));refine wpAny_holding ?_;show wpAny (model prog w) A _ P E { s with heap:=((s.heap.update a (Obj.mapSeq fun _=>(#[]:Array jp))).push (seqObj "tuple" vs.toArray 0)).push (seqObj "list" #[] 0) };dsimp only;have RE:¬ vs.toArray.size<2:=by rw[ze];omega
 rw[if_neg RE,if_neg RE];refine zy (wpAny_mono (hk _ keep (fun κ' s'=>κ'=κ/\s'={ s with heap:=((s.heap.update a (Obj.mapSeq fun _=>(#[]:Array jp))).push (seqObj "tuple" vs.toArray 0)).push (seqObj "list" #[] 0) }) ⟨rfl,rfl⟩) (fun κ' s0 hq=>?_) fun _ _ x=>x.elim);obtain⟨rfl,rfl⟩:=hq;refine zy (wpAny_mono (PySem.W.kat_run (Q:=fun st' s'=>∃q:Array Nat,q.size=vs.length/\arrOf st'=q.map (PySem.W.kas_item (vs.toArray.zip vs.toArray))/\failedOf st'=none/\q=p/\s'={ s with heap:=((s.heap.update a (Obj.mapSeq fun _=>(#[]:Array jp))).push (seqObj "tuple" vs.toArray 0)).push (seqObj "list" #[] 0) })
  (G:=fun q s'=>q=p/\s'={ s with heap:=((s.heap.update a (Obj.mapSeq fun _=>(#[]:Array jp))).push (seqObj "tuple" vs.toArray 0)).push (seqObj "list" #[] 0) })
  rfl h2 qa (fun p' st' s' a1 a2 a3 a4=>⟨p',a1,a2,a3,a4.1,a4.2⟩) (w5 (hc _ keep) ⟨rfl,rfl⟩ _ he)) ?_ fun _ _ e=>e)
 rintro ⟨⟨⟩,st'⟩ s' ⟨q,hp,WQ,hf,rfl,rfl⟩;dsimp only;have hout:=PySem.W.kat_snds rfl WQ;have hsz:(List.toArray (q.toList.map fun i=>vs.getD i Value.none)).size=vs.length:=by rw[ze,zz,yt,hp]
 rw[hout];obtain⟨c2,jQ⟩:∃c2,((((s.heap.update a (Obj.mapSeq fun _=>(#[]:Array jp))).push (seqObj "tuple" vs.toArray 0)).push (seqObj "list" #[] 0)).update a (Obj.mapSeq fun _=>List.toArray (q.toList.map fun i=>vs.getD i Value.none))).get? a=some (seqObj "list" (List.toArray (q.toList.map fun i=>vs.getD i Value.none)) c2):=⟨_,get?_update_seq u5 fun _=>List.toArray (q.toList.map fun i=>vs.getD i Value.none)⟩;refine zy (seqEpoch_at u5 rfl ?_);refine zy (listUpdate_at u5 rfl ?_ (zM _) (zP (yQ hsz) (by rw[sizeLine_eq];omega)));rw[hf];simp only[bne_self_eq_false,yn,if_false];refine zt (h _ c2 hp (fun b o hb e=>?_) jQ);rw[xp _ _ _ _ hb];exact keep b o hb e
end
end L3
namespace L3
open PySem PySem.Spec PyProof.Rows L2
noncomputable def lJ:List D->List D->Option Bool
 |[],[]=>some false
 |[],_::_=>some true
 |_::_,[]=>some false
 |x::xs,y::ys=>if (bV x&&bV y)=true then (if eY x y=true then lJ xs ys else Bx x y) else none
noncomputable def dY:D->Bool
 |.tup (.str _::_)=>true
 |_=>false
noncomputable def dZ:D->Bool
 |.tup (.int _::_)=>true
 |_=>false
noncomputable def pz(ds:List D)(i j:Nat):Option Bool:=match ds[i]?,ds[j]? with
 |some (.tup xs),some (.tup ys)=>lJ xs ys
 |_,_=>none
noncomputable def sR(ds:List D):Option (List D):=if ds.length<2 then some ds else if (decide (ds.length<64)&&(ds.all dY||ds.all dZ))=true then
 (i9 (pz ds) (Z4 ds.length)).map fun p=>p.toList.map fun i=>ds.getD i .non else none
noncomputable def dE(ds:List D):Option (List D):=match pN ds with
 |some ys=>if ds.length<64 then some ys else none
 |none=>sR ds
theorem mz{xs:List Str}(h:xs.length<64):dE (xs.map .str)=some ((a6 xs).map .str):=by
 unfold dE pN;rw[jX];dsimp only;rw[if_pos (by rw[zz];exact h)]
section
variable {X:Cx}{Zz:List (kw×Obj)}{σ:St}{H:Hp}{s:kt}{ι:List kw}{A:Zx}
noncomputable def TupAt(h:Heap)(u:jp)(us:List jp):Prop:=∃a o n,u=.ref a/\h.get? a=some o/\o.cls=.type "tuple"/\o.data=.seq us.toArray n
theorem oK(I:Inv X Zz σ H s){d:D}{ds:List D}{v:V}{u:jp}(r:Rep X.K ι H (.tup ds) v)(ru:RelV v u):∃vs us,az X.K ι H ds vs/\Vals vs us/\TupAt s.heap u us:=by
 cases r with
 |tup t q =>
  obtain⟨its,rv,⟨o,h1,h2,n,h3⟩,_⟩:=I.tuple (cy t);cases ru;exact⟨_,its,q,rv,_,o,n,rfl,h1,h2,h3⟩
theorem NL{b fin:Bool}{Q:Bool->kt->Prop}{xs:List D}:∀{ys:List D} {vs ws:List V} {us zs:List jp} {c:Bool} {i:Nat} {s:kt},az X.K ι H xs vs->az X.K ι H ys ws->Vals vs us->Vals ws zs->lJ xs ys=some c->(decide (xs.length<ys.length)=fin) ->
  Q c s->(b=true->i=0->∃x y xs' ys',xs=x::xs'/\ys=y::ys'/\((∃p q,x=.str p/\y=.str q)\/∃p q,x=.int p/\y=.int q))->PySem.W.KatLex X.prog X.w A b fin Q (us.zip zs) i s:=by
 induction xs with
 |nil =>
  intro ys vs ws us zs c i s r1 r2 g1 g2 h hf q _;cases r1;cases g1;cases r2 with
  |nil =>
   cases g2;simp only[lJ,Option.some.injEq]at h;subst h
   have:fin=false:=by rw[<- hf];rfl
   subst this;exact Z5 q
  |cons r2 t2 =>
   cases g2 with
   |cons g2 k2 =>
    simp only[lJ,Option.some.injEq]at h;subst h
    have:fin=true:=by rw[<- hf];simp
    subst this;exact Z5 q
 |cons x xs ih =>
  intro ys vs ws us zs c i s r1 r2 g1 g2 h hf q h0;cases r1 with
  |cons r1 t1 =>
  cases g1 with
  |cons g1 k1 =>
  cases ys with
  |nil =>
   cases r2;cases g2;simp only[lJ,Option.some.injEq]at h;subst h
   have:fin=false:=by rw[<- hf];simp
   subst this;exact Z5 q
  |cons y ys =>
  cases r2 with
  |cons r2 t2 =>
  cases g2 with
  |cons g2 k2 =>
  simp only[lJ]at h;split at h
  ·rename_i F2
   rw[zl]at F2;rw[wq];have eq:=Gm (A:=A) (s:=s) g1 g2 (lS r1 F2.1) (lS r2 F2.2);refine PySem.W.kat_cons (eq X.prog X.w _ _ ?_);rw[Gj r1 r2 F2.1 F2.2];split at h
   ·rename_i he
    rw[he];refine PySem.W.kat_yes (ih t1 t2 k1 k2 h (by rw[<- hf];simp) q fun _ z=>by omega)
   ·rename_i he
    have he':eY x y=false:=by simpa using he
    rw[he'];refine PySem.W.kat_no ?_;cases hb:(b&&i==0) with
    |true =>
     cases r1 <;> cases r2 <;> simp only[Bx,Option.some.injEq,reduceCtorEq]at h
     ·obtain⟨t,rfl⟩:=g1
      obtain⟨t',rfl⟩:=g2;exact oneLt_int (by rw[h];exact q)
     ·obtain⟨t,rfl⟩:=g1
      obtain⟨t',rfl⟩:=g2;exact oneLt_str (by rw[h];exact q)
    |false =>
     refine PySem.W.kat_one _ _ ?_;cases r1 <;> cases r2 <;> simp only[Bx,Option.some.injEq,reduceCtorEq]at h
     ·obtain⟨t,rfl⟩:=g1
      obtain⟨t',rfl⟩:=g2;exact lt_int (by show Q (decide _) s;rw[h];exact q)
     ·obtain⟨t,rfl⟩:=g1
      obtain⟨t',rfl⟩:=g2;exact lt_str (by show Q (decide _) s;rw[h];exact q)
  ·cases h
end
end L3
namespace L3
open PySem PySem.Spec PyProof.Rows L2
section
variable {X:Cx}{Zz:List (kw×Obj)}{σ:St}{H:Hp}{s:kt}{ι:List kw}{M:MH}
theorem Gi(I:Inv X Zz σ H s){T:jp}{ds:List D}:∀{vs:List V} {us:List jp},az X.K ι H ds vs->Vals vs us->(∀d∈ds,∃x xs,d=.tup (x::xs)/\∀(v:V) (u:jp),Rep X.K ι H x v->RelV v u->typeOf u=pure T) ->
  ∃fs,(∀h',(∀b o,s.heap.get? b=some o->o.cls=.type "tuple"->h'.get? b=some o)->PySem.W.KatTups h' us fs)/\fs.length=us.length/\∀f∈fs,typeOf f=pure T:=by
 induction ds with
 |nil =>
  intro vs us r g _;cases r;cases g;exact⟨[],fun _ _=>.nil,rfl,fun _ h=>by simp at h⟩
 |cons d ds ih =>
  intro vs us r g h;cases r with
  |cons r t =>
  cases g with
  |cons g k =>
  obtain⟨x,xs,rfl,hx⟩:=h d zJ;obtain⟨fs,h1,h2,h3⟩:=ih t k fun e he=>h e (zI _ he);obtain⟨vs',us',q,rv,a,o,n,rfl,ho,hc,hd⟩:=oK (d:=.non) I r g;cases q with
  |cons q1 q2 =>
   cases rv with
   |cons g1 g2 =>
    rename_i v1 vr u1 ur;refine⟨u1::fs,fun h' kk=>PySem.W.KatTups.cons (kk _ _ ho hc) hc hd (by simp) (h1 h' kk),by rw[zE,zE,h2],fun f hf=>?_⟩;rcases zc.mp hf with rfl|hf
    ·exact hx v1 _ q1 g1
    ·exact h3 f hf
theorem Ey{vs:List V}{us:List jp}(r:Vals vs us)(i:Nat):RelV (vs.getD i .non) (us.getD i Value.none):=by
 rw[zi,zi];cases e:vs[i]? with
 |none=>rw[r.none_of e];rfl
 |some v =>
  obtain⟨u,hu,ru⟩:=r.get e;rw[hu];exact ru
theorem EX{ds:List D}{vs:List V}(r:az X.K ι H ds vs)(i:Nat):Rep X.K ι H (ds.getD i .non) (vs.getD i .non):=by
 rw[zi,zi];cases e:ds[i]? with
 |none =>
  have:vs[i]?=none:=xy.mpr (by rw[<- r.length];exact xy.mp e)
  rw[this];exact .non
 |some d =>
  obtain⟨v,hv,rv⟩:=r.get e;rw[hv];exact rv
theorem tI{α:Type}{f:α->V}{g:α->jp}(h:∀i,RelV (f i) (g i)):∀l:List α,Vals (l.map f) (l.map g)
 |[]=>.nil
 |i::l=>.cons (h i) (tI h l)
theorem uh{α:Type}{f:α->D}{g:α->V}(h:∀i,Rep X.K ι H (f i) (g i)):∀l:List α,az X.K ι H (l.map f) (l.map g)
 |[]=>.nil
 |i::l=>.cons (h i) (uh h l)
theorem CF:∀{xs:List Str} {vs:List V} {us:List jp},az X.K ι H (xs.map .str) vs->Vals vs us->StrsAre us xs
 |[],_,_,.nil,.nil=>.nil
 |x::xs,_,_,.cons r t,.cons g k=>by
  cases r;obtain⟨t',rfl⟩:=g;exact .cons x t' (CF t k)
theorem kU:∀{xs:List Str} {us:List jp},StrsAre us xs->Vals (xs.map V.str) us/\az X.K ι H (xs.map .str) (xs.map V.str)
 |_,_,.nil=>⟨.nil,.nil⟩
 |_,_,.cons x t h=>⟨.cons ⟨t,rfl⟩ (kU h).1,.cons (.str x) (kU h).2⟩
theorem qN:∀{xs:List Int} {us:List jp},IntsAre us xs->Vals (xs.map V.int) us/\az X.K ι H (xs.map .int) (xs.map V.int)
 |_,_,.nil=>⟨.nil,.nil⟩
 |_,_,.cons x t h=>⟨.cons ⟨t,rfl⟩ (qN h).1,.cons (.int x) (qN h).2⟩
theorem rM:∀{p:Str} {l:List Str},risingS p l=true->(p::l).Pairwise fun a b=>jL a b=true
 |p,[],_=>List.pairwise_singleton _ _
 |p,x::r,h=>by
  have h:(!ltCps x.cps.toList p.cps.toList&&risingS x r)=true:=h;rw[zl,ltCps_eq]at h;have h2:=rM h.2;refine List.pairwise_cons.mpr ⟨fun b hb=>?_,h2⟩;rcases zc.mp hb with rfl|hb
  ·exact h.1
  ·exact rW _ _ _ h.1 (List.rel_of_pairwise_cons h2 hb)
theorem EI{l:List Str}(h:sortedS l=true):l.Pairwise fun a b=>jL a b=true:=by
 cases l with
 |nil=>exact .nil
 |cons x r=>exact rM h
theorem jB{A:Zx}{E:jp->kt->Prop}(hu:A.units+10<cLine)(I:Inv X Zz σ H s){l:kw}{vs:List V}{ds ys:List D}(hl:H l=some (.lst vs))(r:az X.K ι H ds vs)(hs:dE ds=some ys){Q:jp->kt->Prop}
  (q:∀(ws:List V) (s':kt),az X.K ι H ys ws->Inv X Zz σ (upd H l (.lst ws)) s'->Q .none s'):wpAny (model X.prog X.w) A (call (.builtin "list.sort") [.ref l]) Q E s:=by
 obtain⟨hz,its,n,rv,hg⟩:=I.ax l _ hl;have hlen:ds.length=its.length:=by rw[r.length,rv.length]
 have fin:∀(ws:List V) (us:List jp) (h':Heap) (c:Nat),az X.K ι H ys ws->Vals ws us->ws.length<=zg->(∀b o,b≠l->s.heap.get? b=some o->h'.get? b=some o)->h'.get? l=some (seqObj "list" us.toArray c)->Q .none { s with heap:=h' }:=fun ws us h' c hr hv hw kk hg' =>
  q ws _ hr (I.write (x:=l) (e:=l) (t':=s.toks) (by rw[hl];trivial) (.inl rfl) kk ⟨_,hg'⟩ ⟨hw,us,c,hv,hg'⟩)
 refine wpAny_call_entry slot_list_sort ⟨_,hg,rfl⟩ entry_list_sort ?_ (args_list_sort _);have hout:∀{out:Array jp} (b:kw) (o:Obj),b≠l->s.heap.get? b=some o->(sortedHeap s.heap l its out).get? b=some o:=fun b o hb e=>by
  rw[sortedHeap_old hb (zf e)];exact e
 unfold dE at hs;split at hs
 ·rename_i ys' hf
  split at hs
  ·rename_i qa
   cases hs;have h64':its.length<64:=by rw[<- hlen];exact qa
   unfold pN at hf;split at hf
   ·rename_i xs hx
    cases hf;have ex:=rn hx;subst ex;have hS:=CF r rv;refine list_sort_treeK strKind_oneLt hg hS.keysOf (fun v₁ v₂ rest e=>keyKind_strs (by rw[<- e];exact hS)) h64' fun st' hp hs=>?_;obtain⟨ss',h1,h2,h3⟩:=sorted_out_str hS hp hs;have e:=lH h2 (EI h3);subst e;obtain⟨g1,g2⟩:=kU (X:=X) (H:=H) (ι:=ι) h1;obtain⟨c,hc⟩:=sortedHeap_at (out:=(arrOf st').map (·.2)) hg;exact⟨_,rfl,fin _ _ _ c g2 g1 (by rw[zz,(aP xs).length_eq,sizeLine_eq];rw[zz]at qa;omega) hout (by rw[hc])⟩
   ·split at hf
    ·rename_i xs hx
     cases hf;have ex:=B7 hx;subst ex;have hS:=JG r rv;refine list_sort_tree hg hS h64' fun out ss' h1 h2 h3=>?_;have e:=CT h2 h3;subst e;obtain⟨g1,g2⟩:=qN (X:=X) (H:=H) (ι:=ι) h1;obtain⟨c,hc⟩:=sortedHeap_at (out:=out) hg;exact⟨_,rfl,fin _ _ _ c g2 g1 (by rw[zz,(sortI_perm xs).length_eq,sizeLine_eq];rw[zz]at qa;omega) hout (by rw[hc])⟩
    ·cases hf
  ·cases hs
 unfold sR at hs;split at hs
 ·rename_i h2
  cases hs;exact pW hg (by rw[<- hlen];exact h2) fun h' c kk hg'=>⟨_,rfl,fin vs its h' c r rv hz kk hg'⟩
 ·rename_i h2
  split at hs
  ·rename_i hb
   simp only[zl,decide_eq_true_eq,yU]at hb;cases he:i9 (pz ds) (Z4 ds.length) with
   |none=>rw[he]at hs;cases hs
   |some p =>
    rw[he]at hs;simp only[xD,Option.some.injEq]at hs;subst hs;have key:∀T:jp,(T==T)=true->(∀d∈ds,∃x xs,d=.tup (x::xs)/\∀(v:V) (u:jp),Rep X.K ι H x v->RelV v u->typeOf u=pure T)->T≠.type "tuple" ->
      wpAny (model X.prog X.w) A.in1 (Builtin.«list.sort» ⟨[.ref l],[]⟩) (fun fin s'=>∃v,fin=.done (.ret v)/\Q v s') E s:=fun T hT hd b6=>by
     obtain⟨fs,f1,f2,f3⟩:=Gi I r rv hd;have tk:∀{h':Heap},(∀b o,b≠l->s.heap.get? b=some o->h'.get? b=some o)->∀b o,s.heap.get? b=some o->o.cls=.type "tuple"->h'.get? b=some o:=fun {h'} kk b o e hc=>kk b o (fun z=>by
      subst z;rw[hg]at e;cases e;exact absurd hc (by show ¬ (Value.type "list" = Value.type "tuple");decide)) e
     refine sM (κ:=tuples' (T != Value.type "tuple")) (lt:=pz ds) (p:=p) hg (by first|lia|omega) (by first|lia|omega) (fun h' kk Q' hq=>?_) (fun h' kk i j b C aS hC=>?_) (by rw[<- hlen];exact he) (fun h' c hps kk hg'=>?_)
     ·exact PySem.W.kat_kind (f1 h' (tk kk)) (by rw[f2];omega) (fun f hf=>PySem.W.Looks.of_pure (f3 f hf)) hT hq
     ·unfold pz at aS
      split at aS
      ·rename_i xs ys hx hy
       obtain⟨v1,V8,q1⟩:=r.get hx;obtain⟨v2,V7,q2⟩:=r.get hy;obtain⟨u1,Wa,ET⟩:=rv.get V8;obtain⟨u2,V9,ES⟩:=rv.get V7;have RF:=hd _ (zx hx);have Ws:=hd _ (zx hy);obtain⟨YT,YV,g1,g2,a1,o1,n1,e1,mS,sj,Ov⟩:=oK (d:=.non) I q1 ET;obtain⟨Md,YU,k1,k2,a2,o2,n2,e2,mR,jQ,hd2⟩:=oK (d:=.non) I q2 ES;unfold Z_;have z1:its.getD i Value.none=.ref a1:=by rw[zi,Wa,e1];rfl
       have z2:its.getD j Value.none=.ref a2:=by rw[zi,V9,e2];rfl
       rw[z1,z2];refine PySem.W.kat_lt (s:={ s with heap:=h' }) (tk kk _ _ mS sj) Ov (tk kk _ _ mR jQ) hd2 ?_;refine NL (X:=X) (xs:=xs) (ys:=ys) g1 k1 (by simpa using g2) (by simpa using k2) aS ?_ hC ?_
       ·have l1:=g1.length
        have l2:=g2.length;have l3:=k1.length;have l4:=k2.length;simp only[ze];congr 1;rw[eq_iff_iff];first|lia|omega
       ·intro _ _
        obtain⟨x,xr,ex,hx'⟩:=RF;obtain⟨y,yr,ey,hy'⟩:=Ws;cases ex;cases ey;rcases hb.2 with z|z
        ·have a1:=zS.mp z _ (zx hx)
         have a2:=zS.mp z _ (zx hy);cases x <;> simp[dY]at a1;cases y <;> simp[dY]at a2;exact⟨_,_,_,_,rfl,rfl,.inl ⟨_,_,rfl,rfl⟩⟩
        ·have a1:=zS.mp z _ (zx hx)
         have a2:=zS.mp z _ (zx hy);cases x <;> simp[dZ]at a1;cases y <;> simp[dZ]at a2;exact⟨_,_,_,_,rfl,rfl,.inr ⟨_,_,rfl,rfl⟩⟩
      ·cases aS
     ·refine⟨_,rfl,fin (p.toList.map fun i=>vs.getD i .non) _ h' c (uh (fun i=>EX r i) _) (tI (fun i=>Ey rv i) _) ?_ kk hg'⟩
      rw[zz,yt,hps,sizeLine_eq];omega
    rcases hb.2 with z|z
    ·refine key (.type "str") (by decide) (fun d hd=>?_) (by decide)
     have a1:=zS.mp z _ hd;cases d <;> simp[dY]at a1;rename_i ds';cases ds' with
     |nil=>simp[dY]at a1
     |cons x xs =>
      cases x <;> simp[dY]at a1;refine⟨_,_,rfl,fun v u r1 r2=>?_⟩;cases r1;obtain⟨t,rfl⟩:=r2;rfl
    ·refine key (.type "int") (by decide) (fun d hd=>?_) (by decide)
     have a1:=zS.mp z _ hd;cases d <;> simp[dZ]at a1;rename_i ds';cases ds' with
     |nil=>simp[dZ]at a1
     |cons x xs =>
      cases x <;> simp[dZ]at a1;refine⟨_,_,rfl,fun v u r1 r2=>?_⟩;cases r1;obtain⟨t,rfl⟩:=r2;rfl
  ·cases hs
end
end L3
namespace L3
open PySem PySem.Spec PyProof.Rows L2
section
variable {X:Cx}
end
section
variable {X:Cx}
theorem Ah(hu:X.A.units+100<cLine):dz X (.builtin "sorted") (fun xs H Q=>∃p vs ι M ds ys,xs=[.ref p]/\aZ X.K H p vs/\aJ X.K ι M H/\az X.K ι H ds vs/\dE ds=some ys /\
  ∀v H' ι',Rep X.K ι' H' (.ob M.length) v->aJ X.K ι' (M++[.lst ys]) H'->Ext X.K ι H ι' H'->Q v H'):=by
 intro Zz s σ H xs us Q I rv h;obtain⟨p,vs,ι,M,ds,ys,rfl,hp,S,r,hs,k⟩:=h;obtain⟨u,rfl,ru⟩:=vals1 rv;cases ru;obtain⟨its,rel,pl,hz⟩:=I.list hp;have hl:its.length<=zg:=by rw[<- rel.length];exact hz
 refine Calls.call_function_entry kind_sorted plain_sorted entry_sorted (args_sorted1 _) ?_;unfold Builtin.«sorted»;refine zy (m:=checkCount "sorted" 1 1 _) (zt ?_);refine zy (collect_list pl.isList ?_ hl);generalize hh:(s.heap.push (seqObj "list" #[] 0)).update s.heap.objs.size (Obj.mapSeq (·++its.toArray))=h';have keep:∀b o,s.heap.get? b=some o->h'.get? b=some o:=fun b o q=>by
  have aS:b<s.heap.objs.size:=zf q;rw[<- hh,xp _ _ _ _ (zd aS),yC _ _ _ (zd aS)];exact q
 have I1:Inv X Zz σ H { s with heap:=h' }:=I.kept (t':=s.toks) keep;refine zy (wpAny_newList ?_ hl);have fr:H h'.objs.size=none:=I1.ax.fresh (zp _);have I3:Inv X Zz σ (upd H h'.objs.size (.lst vs)) { s with heap:=h'.push { cls:=.type "list",data:=.seq its.toArray } } :=
  I1.laid (t':=s.toks) (fun b o e=>zq _ e) (zp _) ⟨hz,its,0,rel,zC _ rfl⟩
 have R3:=r.mono (Ext.fL (ho:=.lst vs) fr);refine zy (wpAny_holding (jB (ι:=ι) (by first|(show X.A.units+1+10<cLine;omega)|(show X.A.units+10<cLine;omega)) I3 bO R3 hs fun ws' s' hr hI=>?_))
 refine zt ⟨_,rfl,?_⟩;rw[jl]at hI;have X4:Ext X.K ι H (ι++[h'.objs.size]) (upd H h'.objs.size (.lst ws')):=Ext.new fr;have W:Ext X.K ι (upd H h'.objs.size (.lst vs)) ι (upd (upd H h'.objs.size (.lst vs)) h'.objs.size (.lst ws')):=Ext.write bO (nJ _);rw[jl]at W;have R4:az X.K (ι++[h'.objs.size]) (upd H h'.objs.size (.lst ws')) ys ws':=hr.mono { W with pre:=fun i b e=>(by rw[zH (zn.mp e).1];exact e) };exact⟨.ref h'.objs.size,_,hI,rfl,k _ _ _ (.ob (by rw[<- S.len,zK (zp _),yW];rfl)) (S.new fr ⟨ws',rfl,R4⟩) X4⟩
end
theorem PV{Γ:Ctx}(hs:Γ.srt=dE):Pd Γ:=by
 intro S X f a p1 p4 fa C h hp ha;simp only[zl,beq_iff_eq]at h;obtain⟨⟨⟨h1,h2⟩,h3⟩,h4⟩:=h;subst h1;obtain⟨o1,o2,o3⟩:=bH h2;refine PE.imp (eK (Ah C.hu) (C.bE h3) (C.aY _ (aR h4)) Y_ (a7 ha cN (aC hp)) o3 o1 (aC hp) rfl) fun σ H Q q=>?_;obtain⟨ι,ρ,M,d,M',S',R,e,k⟩:=q;obtain⟨x,M1,e1,ea⟩:=aa e;obtain⟨ds,M2,e2,eb⟩:=aa ea;obtain⟨ys,M3,e3,ec⟩:=aa eb;obtain⟨hy,WY⟩:=a8 e3;rw[WY]at ec;refine⟨ι,ρ,M,x,M1,S',R,e1,fun v1 H1 ι1 r1 S1 X1=>?_⟩;have fact:M2=M1/\∃p vs,v1=.ref p/\aZ X.K H1 p vs/\az X.K ι1 H1 ds vs:=by
  cases r1 with
  |fl t q=>obtain⟨rfl,rfl⟩:=af e2;exact⟨rfl,_,_,rfl,t.seq,q⟩
  |ob t =>
   obtain⟨g,rfl⟩:=bR e2;obtain⟨p,ws,g1,g2,g3,g4⟩:=aT S1 (.ob t) g;exact⟨rfl,p,ws,g1,aZ.of g3,g4⟩
  |_=>exact(ah e2).elim
 obtain⟨rfl,p,vs,rfl,hq,hr⟩:=fact;obtain⟨rfl,rfl⟩:=fU ec;exact⟨p,vs,ι1,_,ds,ys,rfl,hq,S1,hr,by rw[<- hs];exact hy,fun v H' ι' r' S'' X'=>k v H' ι' r' S'' (X1.trans X')⟩
theorem PX{Γ:Ctx}(_:Γ.srt=dE):Pe Γ:=trivial
end L3
namespace L3
open PySem PySem.Spec PyProof.Rows L2
section
variable {X:Cx}{Zz:List (kw×Obj)}{σ:St}{H:Hp}{s:kt}
theorem Inv.drew(I:Inv X Zz σ H s)(d:Drawn):Inv X Zz σ H { s with drawn:=d }:=by
 cases I
 constructor <;> assumption
theorem KC:∀{ds:List D} {vs:List V} {us:List jp} {xs:List Str} {ι:List kw},az X.K ι H ds vs->Vals vs us->ie ds=some xs->StrsAre us xs:=fun r g h=>by
 have:=rn h
 subst this;exact CF r g
theorem Lw{prog:ul}{w:ut}{x:Str}{v:jp}(h:(aK prog w).is (.inr x) v=true):∃u,v=Value.str x u:=by
 rcases bS (show kb (.inr x) v=true from h) with ⟨i,t,e,_⟩|⟨y,t,e,rfl⟩
 ·cases e
 ·cases e
  exact⟨t,rfl⟩
theorem tW:∀{vs:List jp} {ts:List Str},vs.length=ts.length->(∀(j:Nat) (v:jp),vs[j]?=some v->∃x u,ts[j]?=some x/\v=Value.str x u)->StrsAre vs ts
 |[],[],_,_=>.nil
 |v::vs,t::ts,hl,h=>by
  obtain⟨x,u,e,rfl⟩:=h 0 v rfl;cases e;exact .cons _ u (tW (by simpa using hl) fun j v' e'=>by simpa using h (j+1) v' (by simpa using e'))
 |[],_::_,hl,_=>by cases hl
 |_::_,[],hl,_=>by cases hl
noncomputable def Tg(X:Cx):List V->Hp->VK->Prop:=fun xs H Q=>∃p vs ι ds ts,xs=[.ref p]/\aZ X.K H p vs/\az X.K ι H ds vs/\ie ds=some ts/\(aF [] ts).length<64/\∀q,H q=none->Q (.ref q) (upd H q (.ext fun h=>SSet X.prog X.w h q (aF [] ts) (cg X.w)))
theorem GF(hc:X.calm=true):dz X (.type "set") (Tg X):=by
 intro Zz s σ H xs us Q I rv h;obtain⟨p,vs,ι,ds,ts,rfl,hp,r,ha,hz,k⟩:=h;obtain⟨u,rfl,ru⟩:=vals1 rv;cases ru;obtain⟨its,rel,pl,hl⟩:=I.list hp;have hst:=KC r rel ha;refine sO (I.ok.hd hc) pl.isList hst (by unfold scanBound;omega) fun h' tk hS kk=>?_;refine⟨.ref s.heap.objs.size,_,I.laid (t':=tk) (o:=.ext fun h=>SSet X.prog X.w h s.heap.objs.size (aF [] ts) (cg X.w)) kk (zp _) ?_,rfl,k _ (I.ax.fresh (zp _))⟩;exact⟨hS,by obtain⟨o,_,_,_,e,_⟩:=hS;exact⟨o,e⟩,fun h1 h2 x k=>x.at k⟩
theorem Ag(hc:X.calm=true)(hu:X.A.units+100<cLine):dz X (.builtin "sorted") (fun xs H Q=>∃p ts ι M,xs=[.ref p]/\H p=some (.ext fun h=>SSet X.prog X.w h p ts (cg X.w))/\aJ X.K ι M H/\ts.length<64 /\
  ∀v H' ι',Rep X.K ι' H' (.ob M.length) v->aJ X.K ι' (M++[.lst ((a6 ts).map .str)]) H'->Ext X.K ι H ι' H'->Q v H'):=by
 intro Zz s σ H xs us Q I rv h;obtain⟨p,ts,ι,M,rfl,hp,S,qa,k⟩:=h;obtain⟨u,rfl,ru⟩:=vals1 rv;cases ru;obtain⟨hS,_,_⟩:=I.ax p _ hp;refine Calls.call_function_entry kind_sorted plain_sorted entry_sorted (args_sorted1 _) ?_;unfold Builtin.«sorted»;refine zy (m:=checkCount "sorted" 1 1 _) (zt ?_);refine zy (AU (A:=X.A.in1) (I.ok.hd hc) hS fun h' tk d vs ys kk hst nR=>?_);have I1:Inv X Zz σ H { s with heap:=h',toks:=tk,drawn:=d }:=Inv.drew (I.kept (t':=tk) kk) d;obtain⟨g1,g2⟩:=kU (X:=X) (H:=H) (ι:=ι) hst;have ly:ys.length<64:=by rw[nR.length_eq];exact qa
 have lv:vs.length=ys.length:=by rw[<- g1.length,zz]
 have hz:(ys.map V.str).length<=zg:=by rw[zz,sizeLine_eq];omega
 refine zy (wpAny_newList ?_ (by rw[lv,sizeLine_eq];omega));have fr:H h'.objs.size=none:=I1.ax.fresh (zp _);have I3:Inv X Zz σ (upd H h'.objs.size (.lst (ys.map V.str))) { s with heap:=h'.push { cls:=.type "list",data:=.seq vs.toArray },toks:=tk,drawn:=d } :=
  I1.laid (t':=tk) (fun b o e=>zq _ e) (zp _) ⟨hz,vs,0,g1,zC _ rfl⟩
 have R3:=g2.mono (Ext.fL (K:=X.K) (ι:=ι) (ho:=.lst (ys.map V.str)) fr);refine zy (wpAny_holding (jB (ι:=ι) (by first|(show X.A.units+1+10<cLine;omega)|(show X.A.units+10<cLine;omega)) I3 bO R3 (mz ly) fun ws' s' hr hI=>?_))
 refine zt ⟨_,rfl,?_⟩;rw[jl]at hI;rw[CP nR]at hr;have X4:Ext X.K ι H (ι++[h'.objs.size]) (upd H h'.objs.size (.lst ws')):=Ext.new fr;have W:Ext X.K ι (upd H h'.objs.size (.lst (ys.map V.str))) ι (upd (upd H h'.objs.size (.lst (ys.map V.str))) h'.objs.size (.lst ws')):=Ext.write bO (nJ _);rw[jl]at W;have R4:az X.K (ι++[h'.objs.size]) (upd H h'.objs.size (.lst ws')) ((a6 ts).map .str) ws':=hr.mono { W with pre:=fun i b e=>(by rw[zH (zn.mp e).1];exact e) };exact⟨.ref h'.objs.size,_,hI,rfl,k _ _ _ (.ob (by rw[<- S.len,zK (zp _),yW];rfl)) (S.new fr ⟨ws',rfl,R4⟩) X4⟩
theorem CH{K:Q_}{ι:List kw}{H:Hp}:∀{kvs:List (Ky×D)} {ws:List (Key×V)} {rs:List (Key×jp)} {xs:List Str},KR K ι H kvs ws->KV ws rs->strKeys kvs=some xs->rs.map (·.1)=xs.map Sum.inr:=by
 intro kvs;induction kvs with
 |nil=>intro ws rs xs r g h;cases r;cases g;cases h;rfl
 |cons kv kvs ih =>
  intro ws rs xs r g h;cases r with|cons r t =>
  cases g with|cons g g' =>
  unfold strKeys at h;split at h
  ·rename_i x xs' e1 e2
   cases h;rw[zG,zG,ih t g' e2,<- g.1,<- r.1,e1]
  ·cases h
theorem Ai(hc:X.calm=true)(hu:X.A.units+100<cLine):dz X (.builtin "sorted") (fun xs H Q=>∃a ws ι M kvs ts,xs=[.ref a]/\H a=some (.dK ws)/\aJ X.K ι M H/\KR X.K ι H kvs ws/\strKeys kvs=some ts/\ts.length<64 /\
  ∀v H' ι',Rep X.K ι' H' (.ob M.length) v->aJ X.K ι' (M++[.lst ((a6 ts).map .str)]) H'->Ext X.K ι H ι' H'->Q v H'):=by
 intro Zz s σ H xs us Q I rv h;obtain⟨a,ws,ι,M,kvs,ts,rfl,ha,S,kr,hk,qa,k⟩:=h;obtain⟨u,rfl,ru⟩:=vals1 rv;cases ru;obtain⟨z,hd,rs,rel,dd⟩:=gu I.ax (.inl ha);obtain⟨ep,jR⟩:=dd.dictAt;have RJ:=CH kr rel hk;have lr:rs.length=ts.length:=by rw[<- zz (f:=(·.1)),RJ,zz]
 refine Calls.call_function_entry kind_sorted plain_sorted entry_sorted (args_sorted1 _) ?_;unfold Builtin.«sorted»;refine zy (m:=checkCount "sorted" 1 1 _) (zt ?_);refine zy (PySem.W.kdu_collect (A:=X.A.in1) (Z8 (knd:=aK X.prog X.w) (kvs:=rs) (ep:=ep) hd) (I.ok.hd hc) jR (by rw[lr,sizeLine_eq];omega) fun h' tk acc kk lQ=>?_);have hst:StrsAre acc.toList ts:=by
  have all:∀(j:Nat) (v:jp),acc.toList[j]?=some v->∃x u,ts[j]?=some x/\v=Value.str x u:=fun j v e=>by
   rw[xh]at e;obtain⟨key,y,e1,e2⟩:=lQ.2 j v e;have e3:(rs.map (·.1))[j]?=some key:=by rw[zw,e1];rfl
   rw[RJ,zw]at e3;obtain⟨x,hx,rfl⟩:=zu.mp e3;obtain⟨u,rfl⟩:=Lw e2;exact⟨x,u,hx,rfl⟩
  exact tW (by rw[yt,lQ.1,lr]) all
 have I1:Inv X Zz σ H { s with heap:=h',toks:=tk }:=I.kept (t':=tk) kk;obtain⟨g1,g2⟩:=kU (X:=X) (H:=H) (ι:=ι) hst;have lv:acc.toList.length=ts.length:=by rw[<- g1.length,zz]
 have hz:(ts.map V.str).length<=zg:=by rw[zz,sizeLine_eq];omega
 refine zy (wpAny_newList ?_ (by rw[lv,sizeLine_eq];omega));have fr:H h'.objs.size=none:=I1.ax.fresh (zp _);have I3:Inv X Zz σ (upd H h'.objs.size (.lst (ts.map V.str))) { s with heap:=h'.push { cls:=.type "list",data:=.seq acc.toList.toArray },toks:=tk } :=
  I1.laid (t':=tk) (fun b o e=>zq _ e) (zp _) ⟨hz,acc.toList,0,g1,zC _ rfl⟩
 have R3:=g2.mono (Ext.fL (K:=X.K) (ι:=ι) (ho:=.lst (ts.map V.str)) fr);refine zy (wpAny_holding (jB (ι:=ι) (by first|(show X.A.units+1+10<cLine;omega)|(show X.A.units+10<cLine;omega)) I3 bO R3 (mz qa) fun ws' s' hr hI=>?_))
 refine zt ⟨_,rfl,?_⟩;rw[jl]at hI;have X4:Ext X.K ι H (ι++[h'.objs.size]) (upd H h'.objs.size (.lst ws')):=Ext.new fr;have W:Ext X.K ι (upd H h'.objs.size (.lst (ts.map V.str))) ι (upd (upd H h'.objs.size (.lst (ts.map V.str))) h'.objs.size (.lst ws')):=Ext.write bO (nJ _);rw[jl]at W;have R4:az X.K (ι++[h'.objs.size]) (upd H h'.objs.size (.lst ws')) ((a6 ts).map .str) ws':=hr.mono { W with pre:=fun i b e=>(by rw[zH (zn.mp e).1];exact e) };exact⟨.ref h'.objs.size,_,hI,rfl,k _ _ _ (.ob (by rw[<- S.len,zK (zp _),yW];rfl)) (S.new fr ⟨ws',rfl,R4⟩) X4⟩
end
theorem PY{Γ:Ctx}:Pf Γ:=by
 intro S X f a p1 p4 fa C h hp ha;simp only[zl,beq_iff_eq]at h;obtain⟨⟨⟨h1,h2⟩,h3⟩,h4⟩:=h;subst h1;obtain⟨o1,o2,o3⟩:=bH h2;refine PE.imp (eK (Ai C.calm C.hu) (C.bE h3) (C.aY _ (aR h4)) Y_ (a7 ha cN (aC hp)) o3 o1 (aC hp) rfl) fun σ H Q q=>?_;obtain⟨ι,ρ,M,d,M',S',R,e,k⟩:=q;obtain⟨x,M1,e1,e⟩:=aa e;refine⟨ι,ρ,M,x,M1,S',R,e1,fun v1 H1 ι1 r1 S1 X1=>?_⟩;cases r1 with
 |ob t =>
  obtain⟨kvs,M2,e2,ea⟩:=aa e;obtain⟨g,rfl⟩:=lg e2;obtain⟨xs,M3,e3,eb⟩:=aa ea;obtain⟨hx,rfl⟩:=a8 e3;obtain⟨_,M4,e4,ec⟩:=aa eb;obtain⟨hn,rfl⟩:=aU e4;obtain⟨rfl,rfl⟩:=fU ec;obtain⟨a',ws,g1,g2,g3,g4⟩:=c7 S1 (.ob t) g;cases g1;exact⟨_,ws,ι1,_,kvs,xs,rfl,g3,S1,g4,hx,hn,fun v H' ι' r' S'' X'=>k v H' ι' r' S'' (X1.trans X')⟩
 |_=>exact(ah e).elim
theorem PU{Γ:Ctx}:Pc Γ:=by
 intro S X f b p1 p2 p3 p4 fb C h hp ha;simp only[zl,beq_iff_eq]at h;obtain⟨⟨⟨⟨h1,h2⟩,h3⟩,h4⟩,h5,h6⟩:=h;subst h1;obtain⟨o1,o2,o3⟩:=bH h2;have ps:=j8 (X:=X) (p:=p2) (pos:=p3) (GF C.calm) (C.bE h5) (C.aY _ (aR h6)) PyProof.Rows.boot_set (a7 ha cN (aC hp)) (by decide) (by decide) (aC hp) rfl;refine PE.imp (eK (Ag C.calm C.hu) (C.bE h3) (C.aY _ (aR h4)) Y_ (a7 ps cN) o3 o1) fun σ H Q q=>?_;obtain⟨ι,ρ,M,d,M',S',R,e,k⟩:=q;obtain⟨x,M1,e1,e⟩:=aa e;refine⟨ι,ρ,M,x,M1,S',R,e1,fun v1 H1 ι1 r1 S1 X1=>?_⟩;obtain⟨ds,M2,e2,ea⟩:=aa e;have fact:M2=M1/\∃p vs,v1=.ref p/\aZ X.K H1 p vs/\az X.K ι1 H1 ds vs:=by
  cases r1 with
  |fl t q=>obtain⟨rfl,rfl⟩:=af e2;exact⟨rfl,_,_,rfl,t.seq,q⟩
  |ob t =>
   obtain⟨g,rfl⟩:=bR e2;obtain⟨p,ws,g1,g2,g3,g4⟩:=aT S1 (.ob t) g;exact⟨rfl,p,ws,g1,aZ.of g3,g4⟩
  |_=>exact(ah e2).elim
 obtain⟨rfl,p,vs,rfl,hq,hr⟩:=fact;obtain⟨xs,M3,e3,eb⟩:=aa ea;obtain⟨hx,rfl⟩:=a8 e3;obtain⟨_,M4,e4,ec⟩:=aa eb;obtain⟨hn,rfl⟩:=aU e4;obtain⟨rfl,rfl⟩:=fU ec;refine⟨p,vs,ι1,ds,xs,rfl,hq,hr,hx,hn,fun q' hq'=>?_⟩;have X2:Ext X.K ι1 H1 ι1 (upd H1 q' (.ext fun h=>SSet X.prog X.w h q' (aF [] xs) (cg X.w))):=Ext.fL hq';exact⟨q',aF [] xs,ι1,_,rfl,bO,S1.fL hq',hn,fun v H' ι' r' S'' X'=>k v H' ι' r' S'' ((X1.trans X2).trans X')⟩
theorem PR{Γ:Ctx}(_:Γ.srt=dE):Pb Γ:=trivial
theorem My{Γ:Ctx}(hs:Γ.srt=dE):iE Γ:=⟨PX hs,PV hs,PU,PY,PR hs⟩
end L3
namespace L3
open PySem PySem.Spec PySem.Calls PyProof.Rows L2
noncomputable def bP(h:Heap):Q_:=(List.range h.objs.size).filterMap fun a=>(h.get? a).map fun o=>(a,o)
theorem k4{h:Heap}{a:kw}:∀l:List Nat,(l.filterMap fun a=>(h.get? a).map fun o=>(a,o)).lookup a=if a∈l then h.get? a else none
 |[]=>rfl
 |b::l=>by
  rw[yJ];by_cases e:a=b
  ·subst e
   rw[if_pos (zJ ..)];cases g:h.get? a with
   |none =>
    simp only[vF];rw[k4 l,g];split <;> rfl
   |some o=>simp only[xD,List.lookup_cons_self]
  ·have hb:(a==b)=false:=by simpa using e
   have hm:(a∈b::l)=(a∈l):=by simp[e]
   simp only[hm];cases g:h.get? b with
   |none=>simp only[vF];exact k4 l
   |some o=>simp only[xD,yL,hb];exact k4 l
theorem i8{h:Heap}{a:kw}{o:Obj}(e:h.get? a=some o):(bP h).lookup a=some o:=by
 unfold bP;rw[k4,if_pos,e];rw[yk];unfold Heap.get? at e;by_cases q:a<h.objs.size
 ·exact q
 ·rw[xm (wj q)]at e
  simp at e
theorem Ik(h:Heap):(bP h).In h:=by
 intro a o e;unfold bP at e;rw[k4]at e;split at e
 ·exact e
 ·cases e
theorem B0{h:Heap}{cd:jp}{x:Str}(c:h.CodeRec cd x):Z2 (bP h) cd x=true:=by
 obtain⟨c,o,vs,t,rfl,e,d,v⟩:=c;have e':=i8 e;obtain⟨oc,od,da,sl⟩:=o;cases d;unfold Z2;simp only[e'];rw[<- xh]at v;cases q:vs.toList with
 |nil=>rw[q]at v;cases v
 |cons y r =>
  cases r with
  |nil=>rw[q]at v;cases v
  |cons z r =>
   rw[q]at v;cases v;simp
noncomputable def OW:Zy->Pos
 |.FunctionDef _ _ _ _ _ _ _ _ _ pos=>pos
 |_=>⟨0,0,0,0⟩
noncomputable def qF(x:Str)(st:Zy):DefRec:=⟨x,cm st,ba st,au st,OW st⟩
section
variable {q:ul}{lo:List Str}{kC:ExcName->Option jp}{mg mb:Str->Option jp}{h:Heap}{es:List Ent}{gls aY:List Str}{gl:Str->Option D}
theorem lX.NH(T:Top q lo kC mg mb h){rs:List DefRec}(hr:recsOf q=rs)(i:Nat){e:Ent}(hm:rs[i]?=some (qF e.x e.st))
  (hb:∀(kV doc pm:jp) (an:Option kw) (cdv ct:jp) (us:List jp),us.length=e.ps.length->bindArgs (Z1 e.x e.x (cm e.st) (ba e.st) (au e.st) .none kV doc pm an cdv ct) ⟨us,[]⟩=pure (e.ps.zip us))
  (S:dk e.N e.ps (au e.st)) (hc:cX ⟨au e.st,e.N,es.map (·.x),gls,aY⟩ 200 (ba e.st)=some e.b) (ht:(tabOf es).lookup e.x=some ⟨e.N.length,e.ps.length,e.b⟩):lX (bP h) mg es gls aY e:=by
 obtain⟨a,o,pm,code,doc,h1,h2,h3,h4⟩:=T.fn _ (zx (hr▸hm));obtain⟨oc,od,da,sl⟩:=o;cases h3;have l:=i8 h2;have F:ko (bP h) e.x e.x e.st a _:=Gf (st:=e.st) (cdv:=code) l (B0 h4) (by unfold Z0;simp only[l]);exact⟨a,_,F,h1,F.binds hb,S,hc,ht⟩
noncomputable def J4(q:ul)(lo aY:List Str):Bool:=aY.all fun x=>!(startupNames.contains x||lo.contains x||((recsOf q).map (·.name)).contains x||((litsOf q).map (·.1)).contains x||((clssOf q lo).map (·.name)).contains x)
theorem qY(T:Top q lo kC mg mb h)(e:J4 q lo aY=true):∀x∈aY,mg x=none:=by
 intro x hx
 have:=zS.mp e x hx
 simp only[yT,Bool.or_eq_false_iff,List.contains_eq_mem,decide_eq_false_iff_not]at this;obtain⟨⟨⟨⟨h1,h2⟩,h3⟩,h4⟩,h5⟩:=this;exact T.free x h1 h2 h3 h4 h5
theorem Km{w:ut}(hn:h.Ns mainGlobals mg)(z:As w h):∃C D,ZK (bP h) mg C D:=by
 obtain⟨C,D,c,d,zh,ot⟩:=z;have e:=hn.eq_nsMap;have k:∀h':Heap,(bP h).In h'->∀b o,h.get? b=some o->h'.get? b=some o:=fun h' hi b o q=>hi b o (i8 q);refine⟨C,D,by rw[e];exact c,by rw[e];exact d,fun h' hi=>zh.keeps (k h' hi),fun x hx=>?_⟩;obtain⟨B,b1,b2,b3,o,cd,b4,b5⟩:=ot x hx;exact⟨B,by rw[e];exact b1,b2,b3,fun h' hi=>⟨o,cd,k h' hi _ _ b4,b5⟩⟩
theorem GR.NH{w:ut}(T:Top q lo kC mg mb h)(Y:As w h){rs:List DefRec}(hr:recsOf q=rs)(i:Nat){st:Zy}(hm:rs[i]?=some (qF "_law_refused" st)){p:Nat->Pos}
  (hb:∀(kV doc pm:jp) (an:Option kw) (cdv ct:jp) (us:List jp),us.length=2->bindArgs (Z1 "_law_refused" "_law_refused" (cm st) (ba st) (au st) .none kV doc pm an cdv ct) ⟨us,[]⟩=pure ((["_law_tree_here","_law_place"]:List Str).zip us))
  (S:dk om ["_law_tree_here","_law_place"] (au st)) (OB:ba st=mB p) (sc:pB (au st)) (hi:mg "isinstance" = none) (hv:mg "ValueError" = none) (ra:∀y∈(["row_at","shown"]:List Str),∃e∈es,e.x=y/\e.ps.length=2/\dS 200 (ba e.st) e.b=true):∃C D,GR (bP h) mg es C D:=by
 obtain⟨C,D,Z⟩:=Km T.g Y;obtain⟨a,o,pm,code,doc,h1,h2,h3,h4⟩:=T.fn _ (zx (hr▸hm));obtain⟨oc,od,da,sl⟩:=o;cases h3;have l:=i8 h2;have F:ko (bP h) "_law_refused" "_law_refused" st a _:=Gf (st:=st) (cdv:=code) l (B0 h4) (by unfold Z0;simp only[l]);exact⟨C,D,Z,hi,hv,⟨a,_,st,p,F,h1,F.binds hb,S,OB,sc⟩,ra⟩
theorem LJ{C Dd:kw}(jP:GR (bP h) mg es C Dd){srt:List D->Option (List D)}{wh:Nat}{P:ul}{w:ut}(hsrt:∀k,iE (cv (tabOf es) gl srt wh k))(hd:∀e∈es,lX (bP h) mg es gls aY e)(hg:∀x∈gls,Cc (bP h) mg gl x)(hb:∀x∈aY,mg x=none)(k:Nat){e:Ent}(he:e∈es){x:Str}(hx:e.ps=[x])
  (hb1:∀(kV doc pm:jp) (an:Option kw) (cdv ct u:jp),bindArgs (Z1 e.x e.x (cm e.st) (ba e.st) (au e.st) .none kV doc pm an cdv ct) ⟨[u],[]⟩=pure [(x,u)]) {fa:kw} (JU:mg e.x=some (.ref fa)) :
  ∃fd:FuncData,(∀(s:kt) (u:jp),BindsTo s fd ⟨[u],[]⟩ [(x,u)])/\∀base:Heap,(bP h).In base->base.Ns mainGlobals mg->dD P w (bP h) mg base kq k fa fd [x] (iO (bP h) 1 ((cv (tabOf es) gl srt wh k).fn e.x)):=by
 obtain⟨fa',fd,F,hm,_⟩:=hd e he;rw[JU]at hm;cases hm;refine⟨fd,fun s u=>?_,fun base _ _=>?_⟩
 ·obtain⟨_,_,kV,doc,pm,an,cdv,ct,_,rfl,_⟩:=F.ex
  exact .of_eq (hb1 kV doc pm an cdv ct u)
 ·have:=NN (P:=P) (w:=w) (base:=base) jP hsrt hd hg hb k he F JU
  rw[hx]at this;exact this
end
theorem walkZ{l:PySem.W.OpenLaw}{q:ul}{loose:List Str}{XP:(Str->Option jp)->Heap->Prop}{YP:ut->Heap->Prop}{d:DefRec}{x:Str}{k:Nat}{g:List D->Mo D}(hk:d8 k callerA)(hn:l.most=some 63)(Ot:d.params.defaults=[])
  (hg:∀ns:List Int,ns.length<=63->∃M',g [.fl (ns.map .int)] []=some (.ok (.bl true),M'))
  (F:∀(w:ut) (kC:ExcName->Option jp) (mg mb:Str->Option jp) (fa:kw) (h:Heap),Top q (PySem.W.looseW q loose) kC mg mb h->YP w h->mg d.name=some (.ref fa) ->
   ∃fd:FuncData,(∀(s:kt) (u:jp),BindsTo s fd ⟨[u],[]⟩ [(x,u)])/\∀base:Heap,(bP h).In base->base.Ns mainGlobals mg->dD l.prog w (bP h) mg base kq k fa fd [x] (iO (bP h) 1 g)) :
  PySem.W.WalkO q loose XP YP l.row.toRowW d [] (fun f vs=>PySem.call f vs):=by
 refine SQ.AW hn Ot fun w s₀ s₁ mg mb fa o pm cd doc a vs ns G Y ho hd mU sf Ib hints hlen hg'=>?_;obtain⟨fd,hb,hF⟩:=F w _ mg mb fa _ G.T Y sf;exact HV (Ik _) G.T.g G.T.b G.T.builtins G.T.nolimit hg' Ib hints (zP hlen (by decide)) hk hF hb (fun H hO hS=>Mz hO hS (hg ns hlen)) fun _ _ _ z=>z
end L3
namespace L3
open PySem PySem.Spec PyProof.Rows L2
theorem Fw:∀{ps:List Str} {us:List jp} (x:Str),x∈ps->us.length=ps.length->((ps.zip us).lookup x).isSome=true
 |p::ps,u::us,x,h,l=>by
  rw[wq,yL];by_cases e:x=p
  ·simp[e]
  ·have:=Fw x ((zc.mp h).resolve_left e) (Nat.succ.inj l)
   simpa [beq_eq_false_iff_ne.mpr e] using this
theorem BV{p:Str}{u:jp}{l:List (Str×jp)}:∀qs:List Str,p ∉ qs->(qs.filterMap fun n=>(((p,u)::l).lookup n).map (n,·))=qs.filterMap fun n=>(l.lookup n).map (n,·)
 |[],_=>rfl
 |q::qs,h=>by
  have h:p≠q/\p ∉ qs:=not_or.mp fun x=>h (zc.mpr x);rw[yJ,yJ,BV qs h.2,yL,beq_eq_false_iff_ne.mpr (Ne.symm h.1)]
theorem Gh:∀(ps:List Str) (us:List jp),ps.Nodup->us.length=ps.length->(ps.filterMap fun n=>((ps.zip us).lookup n).map (n,·))=ps.zip us
 |[],_,_,_=>by simp
 |p::ps,u::us,nd,l=>by
  have nd:=xx.mp nd;rw[wq,List.filterMap_cons_some (b:=(p,u)) (by simp),BV ps nd.1,Gh ps us nd.2 (Nat.succ.inj l)]
theorem IF{fd:FuncData}{ps:List Str}(h:fd.params.posonlyargs=[]/\fd.params.args.map Arg.arg=ps/\fd.params.kwonlyargs=[]/\fd.params.vararg=none/\fd.params.kwarg=none)(hd:fd.defaults=.none)(nd:ps.Nodup)(us:List jp)(hl:us.length=ps.length):bindArgs fd ⟨us,[]⟩=pure (ps.zip us):=by
 obtain⟨h1,h2,h3,h4,h5⟩:=h;have e:ps.filter (fun n=>((ps.zip us).lookup n).isNone)=[]:=wC.mpr fun x hx=>by
  have:=Fw x hx hl
  revert this;cases (ps.zip us).lookup x <;> simp
 obtain⟨n,q,p,b,sc,g,c,df⟩:=fd;obtain⟨p1,p2,p3,p4,p5⟩:=p;cases h1;cases h3;cases h4;cases h5;cases hd;have h2:p2.map Arg.arg=ps:=h2;have d:¬ (decide (us.length > (p2.map Arg.arg).length)&&true)=true:=by rw[hl,h2];simp
 refine(if_neg d).trans ?_;refine(if_neg ?_).trans ?_
 ·show ¬ (!(List.filter (fun n=>(((p2.map Arg.arg).zip us).lookup n).isNone) ((p2.map Arg.arg).take ((p2.map Arg.arg).length-(List.drop (0-(p2.map Arg.arg).length) ([]:List jp)).length))).isEmpty)=true
  rw[vR,h2,ye,vq,zN,e];exact zk
 ·show (forIn (List.zip (List.drop _ _) (List.drop (0-(p2.map Arg.arg).length) ([]:List jp))) ((p2.map Arg.arg).zip us) _ >>= _)=_
  rw[vR,List.zip_nil_right];show (pure (((p2.map Arg.arg)++[]).filterMap fun n=>(((p2.map Arg.arg).zip us).lookup n).map (n,·)):Sem (List (Str×jp)))=_;rw[zO,h2,Gh _ _ nd hl]
noncomputable def Sq(s:Zy):Str:=match s with
 |.FunctionDef n _ _ _ _ _ _ _ _ _=>n
 |_=>""
noncomputable def EE(s:Zy)(x:List Str)(b:aE):Ent:=⟨Sq s,s,(cm s).args.map Arg.arg++x,(cm s).args.map Arg.arg,b⟩
noncomputable def Be(e:Ent):Bool:=(decide ((au e.st).kind=.function)&&!(au e.st).isCoroutine&&!(au e.st).isGenerator)&&(decide e.N.Nodup&&decide (e.N.take e.ps.length=e.ps))&&(e.ps.all (fun x=>decide ((au e.st).names.lookup x=some .local\/(au e.st).names.lookup x=some .cell))&&(au e.st).names.all fun y=>decide (y.2≠.free)) &&
 ((cm e.st).posonlyargs.isEmpty&&decide ((cm e.st).args.map Arg.arg=e.ps)&&(cm e.st).kwonlyargs.isEmpty&&(cm e.st).vararg.isNone&&(cm e.st).kwarg.isNone)
theorem Jm{e:Ent}(h:Be e=true):dk e.N e.ps (au e.st):=by
 unfold Be at h;simp only[zl,decide_eq_true_eq,yT,zS]at h;obtain⟨⟨⟨⟨⟨a,b⟩,c⟩,d,f⟩,g,i⟩,_⟩:=h;exact⟨a,b,c,d,f,g,i⟩
theorem Jn{e:Ent}(h:Be e=true){x q:Str}(kV doc pm:jp)(an:Option kw)(cdv ct:jp)(us:List jp)(hl:us.length=e.ps.length):bindArgs (Z1 x q (cm e.st) (ba e.st) (au e.st) .none kV doc pm an cdv ct) ⟨us,[]⟩=pure (e.ps.zip us):=by
 have S:=Jm h;unfold Be at h;simp only[zl,decide_eq_true_eq,xU,wo]at h;obtain⟨_,⟨⟨⟨a,b⟩,c⟩,d⟩,f⟩:=h;exact IF ⟨a,b,c,d,f⟩ rfl (S.pre▸S.nd.sublist (wm _ _)) us hl
section
variable {q:ul}{lo:List Str}{kC:ExcName->Option jp}{mg mb:Str->Option jp}{h:Heap}{es:List Ent}{gls aY:List Str}
theorem Iz(T:Top q lo kC mg mb h){rs:List DefRec}(hr:recsOf q=rs)(hS:es.all Be=true)(is:List Nat)(hm:is.map (fun i=>rs[i]?)=es.map fun e=>some (qF e.x e.st))(hc:es.map (fun e=>cX ⟨au e.st,e.N,es.map (·.x),gls,aY⟩ 200 (ba e.st))=es.map fun e=>some e.b)
  (ht:es.map (fun e=>(tabOf es).lookup e.x)=es.map fun e=>some ⟨e.N.length,e.ps.length,e.b⟩):∀e∈es,lX (bP h) mg es gls aY e:=fun e he=>by
 have m:some (qF e.x e.st)∈is.map fun i=>rs[i]?:=hm▸zQ.mpr ⟨e,he,rfl⟩;obtain⟨i,_,hi⟩:=zQ.mp m;have s:=zS.mp hS e he;exact lX.NH T hr i hi (Jn s) (Jm s) (vo.mp hc e he) (vo.mp ht e he)
theorem PH{ys:List Str}(h:ys.all (fun y=>es.any fun e=>e.x==y&&(decide (e.ps.length=2)&&dS 200 (ba e.st) e.b))=true):∀y∈ys,∃e∈es,e.x=y/\e.ps.length=2/\dS 200 (ba e.st) e.b=true:=fun y hy=>by
 obtain⟨e,he,h⟩:=yF.mp (zS.mp h y hy);simp only[zl,beq_iff_eq,decide_eq_true_eq]at h;exact⟨e,he,h⟩
end
end L3
namespace L3
open PySem
theorem De{Γ:Ctx}:∀i ρ,ae Γ (.var i) ρ=(mq ρ i):=fun _ _=>rfl
theorem PF{Γ:Ctx}:∀i ρ,ae Γ (.cint i) ρ=(pure (.int i)):=fun _ _=>rfl
theorem Qi{Γ:Ctx}:∀b ρ,ae Γ (.cbl b) ρ=(pure (.bl b)):=fun _ _=>rfl
theorem PD{Γ:Ctx}:∀ρ,ae Γ (.cnon) ρ=(pure .non):=fun _=>rfl
theorem PC{Γ:Ctx}:∀x ρ,ae Γ (.cstr x) ρ=(pure (.str x)):=fun _ _=>rfl
theorem Qh{Γ:Ctx}:∀x ρ,ae Γ (.glb x) ρ=(lift (Γ.gl x)):=fun _ _=>rfl
theorem Dt{Γ:Ctx}:∀op a b ρ,ae Γ (.bin op a b) ρ=(do let x<-ae Γ a ρ;let y<-ae Γ b ρ;fm op x y):=fun _ _ _ _=>rfl
theorem Dr{Γ:Ctx}:∀op a b ρ,ae Γ (.cmp op a b) ρ=(do let x<-ae Γ a ρ;let y<-ae Γ b ρ;let k<-bJ op x y;pure (.bl k)):=fun _ _ _ _=>rfl
theorem AM{Γ:Ctx}:∀op op' a b c ρ,ae Γ (.cmp2 op op' a b c) ρ=(do
  let x<-ae Γ a ρ
  let y<-ae Γ b ρ
  let k<-bJ op x y
  if k=true then do let z<-ae Γ c ρ;let k'<-bJ op' y z;pure (.bl k') else pure (.bl false)):=fun _ _ _ _ _ _=>rfl
theorem Du{Γ:Ctx}:∀a b ρ,ae Γ (.and a b) ρ=(do let x<-ae Γ a ρ;let k<-lift (bG x);if k=true then ae Γ b ρ else pure (.bl false)):=fun _ _ _=>rfl
theorem Q6{Γ:Ctx}:∀a b ρ,ae Γ (.or a b) ρ=(do let x<-ae Γ a ρ;let k<-lift (bG x);if k=true then pure (.bl true) else ae Γ b ρ):=fun _ _ _=>rfl
theorem Di{Γ:Ctx}:∀a ρ,ae Γ (.not a) ρ=(do let x<-ae Γ a ρ;let k<-lift (bG x);pure (.bl (!k))):=fun _ _=>rfl
theorem Dp{Γ:Ctx}:∀c a b ρ,ae Γ (.ifE c a b) ρ=(do let k<-a9 Γ c ρ;if k=true then ae Γ a ρ else ae Γ b ρ):=fun _ _ _ _=>rfl
theorem Df{Γ:Ctx}:∀es ρ,ae Γ (.tup es) ρ=(do let xs<-bu Γ es ρ;need (xs.length<=zg);pure (.tup xs)):=fun _ _=>rfl
theorem Dm{Γ:Ctx}:∀es ρ,ae Γ (.lst es) ρ=(do let xs<-bu Γ es ρ;need (xs.length<=zg);bI (.lst xs)):=fun _ _=>rfl
theorem PB{Γ:Ctx}:∀ρ,ae Γ (.dic0) ρ=(bI (.aO [])):=fun _=>rfl
theorem Dq{Γ:Ctx}:∀a b ρ,ae Γ (.idx a b) ρ=(do let x<-ae Γ a ρ;let y<-ae Γ b ρ;ir x y):=fun _ _ _=>rfl
theorem Dg{Γ:Ctx}:∀a lo hi ρ,ae Γ (.slc a lo hi) ρ=(do let x<-ae Γ a ρ;let l<-gY Γ lo ρ;let h<-gY Γ hi ρ;gi x l h):=fun _ _ _ _=>rfl
theorem oq{Γ:Ctx}:∀f es ρ,ae Γ (.call f es) ρ=(do let xs<-bu Γ es ρ;Γ.fn f xs):=fun _ _ _=>rfl
theorem Ds{Γ:Ctx}:∀b es ρ,ae Γ (.blt b es) ρ=(do let xs<-bu Γ es ρ;dR b xs):=fun _ _ _=>rfl
theorem AL{Γ:Ctx}:∀j it c e ρ,ae Γ (.comp j it c e) ρ=(do
  let s<-ed Γ it ρ
  need (s.ds.length<=zg)
  let ys<-eg s.ck (i0 Γ c) (ae Γ e) (ρ.set j none) s.ds
  bI (.lst ys)):=fun _ _ _ _ _=>rfl
theorem uq{Γ:Ctx}:∀a ρ,ae Γ (.sortL a) ρ=(do
  let x<-ae Γ a ρ
  let ds<-pe x
  let ys<-lift (Γ.srt ds)
  bI (.lst ys)):=fun _ _=>rfl
theorem AI{Γ:Ctx}:∀a ρ,ae Γ (.strI a) ρ=(do let x<-ae Γ a ρ;let s<-lift (nu x);pure (.str s)):=fun _ _=>rfl
theorem Dj{Γ:Ctx}:∀a ρ,ae Γ (.neg a) ρ=(do
  let x<-ae Γ a ρ
  (match x with
  |.int i=>pure (.int (-i))
  |_=>Mo.stop)):=fun _ _=>rfl
theorem Dn{Γ:Ctx}:∀a t ρ,ae Γ (.isI a t) ρ=(do let x<-ae Γ a ρ;let k<-l7 t x;pure (.bl k)):=fun _ _ _=>rfl
theorem Dk{Γ:Ctx}:∀m a es ρ,ae Γ (.mth m a es) ρ=(do let x<-ae Γ a ρ;lI m x;let xs<-bu Γ es ρ;ka m x xs):=fun _ _ _ _=>rfl
theorem Pz{Γ:Ctx}:∀ρ,bu Γ (.nil) ρ=(pure []):=fun _=>rfl
theorem uo{Γ:Ctx}:∀e es ρ,bu Γ (.cons e es) ρ=(do let x<-ae Γ e ρ;let xs<-bu Γ es ρ;pure (x::xs)):=fun _ _ _=>rfl
theorem Py{Γ:Ctx}:∀ρ,gY Γ (.none) ρ=(pure none):=fun _=>rfl
theorem AH{Γ:Ctx}:∀e ρ,gY Γ (.some e) ρ=(do
  let x<-ae Γ e ρ
  (match x with
  |.int i=>pure (some i)
  |_=>Mo.stop)):=fun _ _=>rfl
theorem C7{Γ:Ctx}:∀e ρ,ed Γ (.seq e) ρ=(do let x<-ae Γ e ρ;jA x):=fun _ _=>rfl
theorem AE{Γ:Ctx}:∀a ρ,ed Γ (.rng1 a) ρ=(do
  let x<-ae Γ a ρ
  (match x with
  |.int i=>do need (small i);pure ⟨none,fM 0 i⟩
  |_=>Mo.stop)):=fun _ _=>rfl
theorem Pr{Γ:Ctx}:∀a b ρ,ed Γ (.ue a b) ρ=(do
  let x<-ae Γ a ρ
  let y<-ae Γ b ρ
  (match x,y with
  |.int i,.int j=>do need (small i/\small j);pure ⟨none,fM i j⟩
  |_,_=>Mo.stop)):=fun _ _ _=>rfl
theorem Dx{Γ:Ctx}:∀e ρ,a9 Γ (.cmp e) ρ=(do let x<-ae Γ e ρ;lift (bG x)):=fun _ _=>rfl
theorem Dv{Γ:Ctx}:∀e ρ,a9 Γ (.tru e) ρ=(do let x<-ae Γ e ρ;kx x):=fun _ _=>rfl
theorem Dw{Γ:Ctx}:∀c ρ,a9 Γ (.not c) ρ=(do let k<-a9 Γ c ρ;pure (!k)):=fun _ _=>rfl
theorem Dy{Γ:Ctx}:∀a b ρ,a9 Γ (.and a b) ρ=(do let k<-a9 Γ a ρ;if k=true then a9 Γ b ρ else pure false):=fun _ _ _=>rfl
theorem E4{Γ:Ctx}:∀a b ρ,a9 Γ (.or a b) ρ=(do let k<-a9 Γ a ρ;if k=true then pure true else a9 Γ b ρ):=fun _ _ _=>rfl
theorem MS{Γ:Ctx}:∀ρ,i0 Γ (.none) ρ=(pure true):=fun _=>rfl
theorem uu{Γ:Ctx}:∀c ρ,i0 Γ (.some c) ρ=(a9 Γ c ρ):=fun _ _=>rfl
theorem Dc{Γ:Ctx}:∀e ρ,ky Γ (.seq e) ρ=(do let x<-ae Γ e ρ;jA x):=fun _ _=>rfl
theorem AG{Γ:Ctx}:∀e ρ,ky Γ (.enum e) ρ=(do let x<-ae Γ e ρ;nU x):=fun _ _=>rfl
theorem C8{Γ:Ctx}:∀i e ρ,bz Γ (.set i e) ρ=(do let x<-ae Γ e ρ;pure (.nx (ρ.set i (some x)))):=fun _ _ _=>rfl
theorem um{Γ:Ctx}:∀o i e ρ,bz Γ (.setIx o i e) ρ=(do let v<-ae Γ e ρ;let x<-ae Γ o ρ;let y<-ae Γ i ρ;setIx x y v;pure (.nx ρ)):=fun _ _ _ _=>rfl
theorem oo{Γ:Ctx}:∀e ρ,bz Γ (.expr e) ρ=(do let _<-ae Γ e ρ;pure (.nx ρ)):=fun _ _=>rfl
theorem C9{Γ:Ctx}:∀e ρ,bz Γ (.ret e) ρ=(do let x<-ae Γ e ρ;pure (.rt x)):=fun _ _=>rfl
theorem Pu{Γ:Ctx}:∀ρ,bz Γ (.retN) ρ=(pure (.rt .non)):=fun _=>rfl
theorem Pw{Γ:Ctx}:∀ρ,bz Γ (.pass) ρ=(pure (.nx ρ)):=fun _=>rfl
theorem Qf{Γ:Ctx}:∀ρ,bz Γ (.brk) ρ=(pure (.bk ρ)):=fun _=>rfl
theorem Qe{Γ:Ctx}:∀ρ,bz Γ (.cnt) ρ=(pure (.ct ρ)):=fun _=>rfl
theorem Px{Γ:Ctx}:∀ρ,bz Γ (.halt) ρ=(Mo.stop):=fun _=>rfl
theorem pQ{Γ:Ctx}:∀c a b ρ,bz Γ (.ifS c a b) ρ=(do let k<-a9 Γ c ρ;if k=true then aq Γ a ρ else aq Γ b ρ):=fun _ _ _ _=>rfl
theorem kA{Γ:Ctx}:∀i it b ρ,bz Γ (.forS i it b) ρ=(do let s<-ed Γ it ρ;dU s.ck i (aq Γ b) s.ds ρ):=fun _ _ _ _=>rfl
theorem AF{Γ:Ctx}:∀i j it b ρ,bz Γ (.forP i j it b) ρ=(do let s<-ky Γ it ρ;fv s.ck i j (aq Γ b) s.ds ρ):=fun _ _ _ _ _=>rfl
theorem sL{Γ:Ctx}:∀c b ρ,bz Γ (.whileS c b) ρ=(d9 (a9 Γ c) (aq Γ b) Γ.wh ρ):=fun _ _ _=>rfl
theorem Pt{Γ:Ctx}:∀ρ,aq Γ (.nil) ρ=(pure (.nx ρ)):=fun _=>rfl
theorem eI{Γ:Ctx}:∀s r ρ,aq Γ (.cons s r) ρ=(do
  let f<-bz Γ s ρ
  (match f with
  |.nx ρ'=>aq Γ r ρ'
  |.rt v=>pure (.rt v)
  |.bk ρ'=>pure (.bk ρ')
  |.ct ρ'=>pure (.ct ρ'))):=fun _ _ _=>rfl
end L3
namespace L3
open PySem
theorem HK{p:Prop}[Decidable p](h:p)(M:MH):need p M=some (.ok (),M):=by unfold need;rw[if_pos h];rfl
theorem Tz{α:Type}(a:α)(M:MH):lift (some a) M=some (.ok a,M):=rfl
theorem Io{i:Nat}{o:MO}{M:MH}(h:M[i]?=some o):getM i M=some (.ok o,M):=by unfold getM;rw[h]
theorem Ip{i:Nat}{ds:List D}{M:MH}(h:M[i]?=some (.lst ds)):getL i M=some (.ok ds,M):=by unfold getL;rw[h]
theorem Iq{i:Nat}{ds:List (Ky×D)}{M:MH}(h:M[i]?=some (.aO ds)):getD i M=some (.ok ds,M):=by unfold getD;rw[h]
theorem HJ(o:MO)(M:MH):bI o M=some (.ok (.ob M.length),M++[o]):=rfl
theorem Hr{i:Nat}{o:MO}{M:MH}(h:i<M.length):e8 i o M=some (.ok (),M.set i o):=by unfold e8;rw[if_pos h]
theorem bB{α:Type}{xs:List α}{j:Nat}{v:α}(h:xs[j]?=some v):cz xs (j:Int)=some v:=by
 have hj:j<xs.length:=(zn.mp h).1;unfold cz k8;rw[if_pos (by first|lia|omega),if_pos (by first|lia|omega)]
 simpa using h
theorem ag(M:MH)(o:MO):(M++[o])[M.length]?=some o:=by simp
structure Gr (M M':MH):Prop where
 keep:∀(i:Nat) (o:MO),M[i]?=some o->M'[i]?=some o
 len:M.length<=M'.length
theorem Gr.refl{M:MH}:Gr M M:=⟨fun _ _ h=>h,zp _⟩
theorem Gr.trans{M M1 M2:MH}(a:Gr M M1)(b:Gr M1 M2):Gr M M2:=⟨fun i o e=>b.keep i o (a.keep i o e),zP a.len b.len⟩
theorem Gr.app(M X:MH):Gr M (M++X):=⟨fun i o e=>by rw[zH (zn.mp e).1];exact e,by rw[zm];omega⟩
theorem Gr.snoc{M M1:MH}(g:Gr M M1)(o:MO):Gr M (M1++[o]):=g.trans (Gr.app _ _)
theorem Gr.set{M M1:MH}(g:Gr M M1){j:Nat}(h:M.length<=j)(o:MO):Gr M (M1.set j o):=⟨fun i q e=>by
 have hi:i<M.length:=(zn.mp e).1;rw[zj (by first|lia|omega)]
 exact g.keep i q e,by rw[yx];exact g.len⟩
theorem bQ{M:MH}{j:Nat}{o q:MO}(h:M[j]?=some q):(M.set j o)[j]?=some o:=zU (zn.mp h).1
theorem aD{α:Type}{M:List α}{j:Nat}{q:α}(h:M[j]?=some q):j<M.length:=(zn.mp h).1
theorem gn(bs:List Bool):(bs.map D.bl).mapM bG=some bs:=by
 induction bs with
 |nil=>rfl
 |cons b r ih=>rw[zG,wv,ih];rfl
theorem Ft(bs:List Str):(bs.map D.str).mapM tZ=some bs:=by
 induction bs with
 |nil=>rfl
 |cons b r ih=>rw[zG,wv,ih];rfl
theorem OR{Γ:Ctx}{ρ:Ev}{M:MH}{d:D}{i:Nat}(h:ρ[i]?=some (some d)):ae Γ (.var i) ρ M=some (.ok d,M):=by
 show mq ρ i M=_;unfold mq;rw[h];rfl
theorem cJ{lo hi:Int}:(fM lo hi).length=(hi-lo).toNat:=by unfold fM;rw[zz,zZ]
theorem di{lo hi:Int}{j:Nat}{d:D}(h:(fM lo hi)[j]?=some d):d=.int (lo+j)/\j<(hi-lo).toNat:=by
 unfold fM at h;rw[zw]at h;cases q:(List.range (hi-lo).toNat)[j]? with
 |none=>rw[q]at h;cases h
 |some n =>
  rw[q]at h;obtain⟨h1,h2⟩:=zn.mp q;rw[zZ]at h1;rw[wu]at h2;subst h2;cases h;exact⟨rfl,h1⟩
end L3
namespace L3
open PySem
theorem O5{α:Type}{xs:List α}{i:Int}(h0:0<=i)(h1:i<xs.length):∃v,cz xs i=some v/\v∈xs:=by
 obtain⟨n,rfl⟩:=yH h0;have hj:n<xs.length:=by first|lia|omega
 exact⟨xs[n],bB (zv hj),yM hj⟩
theorem len_app(x y:Str):(x++y).length=x.length+y.length:=by
 show (x.cps++y.cps).size=x.cps.size+y.cps.size;simp
theorem i6(x:Str):x.cps.toList.length=x.length:=by simp[Str.length]
theorem aw:(100000:Nat)<=zg:=by unfold zg;decide
theorem Vo{a b c d:Int}(h:a<=b)(h2:b+c<=d):a+c<=d:=vX (Int.add_le_add_right h c) h2
end L3
namespace L3
open PySem
noncomputable def Wp{α:Type}(m:Mo α)(M:MH)(Q:α->MH->Prop):Prop:=∃a M',m M=some (.ok a,M')/\Q a M'
inductive Xp {α:Type} (Q:α->MH->Prop):Type where
 |mk
noncomputable def W{α:Type}(m:Mo α)(M:MH)(Q:α->MH->Prop)(_:Xp Q:=.mk):Prop:=Wp m M Q
theorem IV{α:Type}{m:Mo α}{M:MH}{Q R:α->MH->Prop}(h:∀a M,Q a M=R a M):W m M Q=W m M R:=by
 have:Q=R:=funext fun a=>funext fun M=>h a M
 subst this;rfl
theorem W.mono{α:Type}{m:Mo α}{M:MH}{Q R:α->MH->Prop}(h:W m M Q)(f:∀a M',Q a M'->R a M'):W m M R:=by
 obtain⟨a,M',e,q⟩:=h;exact⟨a,M',e,f a M' q⟩
theorem W.of{α:Type}{m:Mo α}{M M':MH}{a:α}{Q:α->MH->Prop}(e:m M=some (.ok a,M'))(q:Q a M'):W m M Q:=⟨a,M',e,q⟩
theorem ao{α:Type}(a:α)(M:MH)(Q:α->MH->Prop):W (pure a:Mo α) M Q=Q a M:=by
 refine propext ⟨fun ⟨b,M',e,q⟩=>?_,fun q=>⟨a,M,rfl,q⟩⟩;cases e;exact q
theorem Xz{α:Type}(a:α)(M:MH)(Q:α->MH->Prop):W (fun M=>some (.ok a,M)) M Q=Q a M:=ao a M Q
theorem aG{α β:Type}(m:Mo α)(k:α->Mo β)(M:MH)(Q:β->MH->Prop):W (m >>= k) M Q=W m M fun a M'=>W (k a) M' Q:=by
 refine propext ⟨fun ⟨b,M',e,q⟩=>?_,fun ⟨a,M1,e,b,M2,e2,q⟩=>⟨b,M2,by rw[hG e];exact e2,q⟩⟩;obtain⟨a,M1,e1,e2⟩:=aa e;exact⟨a,M1,e1,b,M',e2,q⟩
theorem c6{p:Prop}[Decidable p](M:MH)(Q:Unit->MH->Prop):W (need p) M Q=(p/\Q () M):=by
 refine propext ⟨fun ⟨b,M',e,q⟩=>?_,fun ⟨hp,q⟩=>⟨(),M,HK hp M,q⟩⟩;unfold need at e;split at e
 ·rename_i hp
  cases e;exact⟨hp,q⟩
 ·cases e
theorem fZ{α:Type}(o:Option α)(M:MH)(Q:α->MH->Prop):W (lift o) M Q=∃a,o=some a/\Q a M:=by
 refine propext ⟨fun ⟨b,M',e,q⟩=>?_,fun ⟨a,ho,q⟩=>⟨a,M,by rw[ho];rfl,q⟩⟩;cases o with
 |none=>cases e
 |some a=>cases e;exact⟨_,rfl,q⟩
theorem kH(i:Nat)(M:MH)(Q:MO->MH->Prop):W (getM i) M Q=∃o,M[i]?=some o/\Q o M:=by
 refine propext ⟨fun ⟨b,M',e,q⟩=>?_,fun ⟨a,ho,q⟩=>⟨a,M,Io ho,q⟩⟩;unfold getM at e;split at e
 ·rename_i o h;cases e;exact⟨_,h,q⟩
 ·cases e
theorem ju(i:Nat)(M:MH)(Q:List D->MH->Prop):W (getL i) M Q=∃ds,M[i]?=some (.lst ds)/\Q ds M:=by
 refine propext ⟨fun ⟨b,M',e,q⟩=>?_,fun ⟨a,ho,q⟩=>⟨a,M,Ip ho,q⟩⟩;unfold getL at e;split at e
 ·rename_i o h;cases e;exact⟨_,h,q⟩
 ·cases e
theorem Eu(i:Nat)(M:MH)(Q:List (Ky×D)->MH->Prop):W (getD i) M Q=∃ds,M[i]?=some (.aO ds)/\Q ds M:=by
 refine propext ⟨fun ⟨b,M',e,q⟩=>?_,fun ⟨a,ho,q⟩=>⟨a,M,Iq ho,q⟩⟩;unfold getD at e;split at e
 ·rename_i o h;cases e;exact⟨_,h,q⟩
 ·cases e
theorem tH(o:MO)(M:MH)(Q:D->MH->Prop):W (bI o) M Q=Q (.ob M.length) (M++[o]):=by
 refine propext ⟨fun ⟨b,M',e,q⟩=>?_,fun q=>⟨_,_,HJ o M,q⟩⟩;cases e;exact q
theorem pF(i:Nat)(o:MO)(M:MH)(Q:Unit->MH->Prop):W (e8 i o) M Q=(i<M.length/\Q () (M.set i o)):=by
 refine propext ⟨fun ⟨b,M',e,q⟩=>?_,fun ⟨h,q⟩=>⟨_,_,Hr h,q⟩⟩;unfold e8 at e;split at e
 ·rename_i h;cases e;exact⟨h,q⟩
 ·cases e
theorem mn{α:Type}(M:MH)(Q:α->MH->Prop):W (Mo.stop:Mo α) M Q=False:=by
 refine propext ⟨fun ⟨b,M',e,q⟩=>?_,fun q=>q.elim⟩;cases e
theorem Mc{α:Type}(b:Bool)(m n:Mo α)(M:MH)(Q:α->MH->Prop):W (if b=true then m else n) M Q=((b=true->W m M Q)/\(b=false->W n M Q)):=by
 cases b <;> simp
section
variable {α β:Type}
theorem bb(a:α)(M:MH)(Q:α->MH->Prop):Wp (pure a:Mo α) M Q=Q a M:=ao a M Q
theorem av(m:Mo α)(k:α->Mo β)(M:MH)(Q:β->MH->Prop):Wp (m >>= k) M Q=Wp m M fun a M'=>Wp (k a) M' Q:=aG m k M Q
theorem gf{p:Prop}[Decidable p](M:MH)(Q:Unit->MH->Prop):Wp (need p) M Q=(p/\Q () M):=c6 M Q
theorem dI(o:Option α)(M:MH)(Q:α->MH->Prop):Wp (lift o) M Q=∃a,o=some a/\Q a M:=fZ o M Q
theorem Vn(i:Nat)(M:MH)(Q:MO->MH->Prop):Wp (getM i) M Q=∃o,M[i]?=some o/\Q o M:=kH i M Q
theorem gh(i:Nat)(M:MH)(Q:List D->MH->Prop):Wp (getL i) M Q=∃ds,M[i]?=some (.lst ds)/\Q ds M:=ju i M Q
theorem tL(i:Nat)(M:MH)(Q:List (Ky×D)->MH->Prop):Wp (getD i) M Q=∃ds,M[i]?=some (.aO ds)/\Q ds M:=Eu i M Q
theorem e9(o:MO)(M:MH)(Q:D->MH->Prop):Wp (bI o) M Q=Q (.ob M.length) (M++[o]):=tH o M Q
theorem Vm(i:Nat)(o:MO)(M:MH)(Q:Unit->MH->Prop):Wp (e8 i o) M Q=(i<M.length/\Q () (M.set i o)):=pF i o M Q
theorem tK(M:MH)(Q:α->MH->Prop):Wp (Mo.stop:Mo α) M Q=False:=mn M Q
theorem qu(b:Bool)(m n:Mo α)(M:MH)(Q:α->MH->Prop):Wp (if b=true then m else n) M Q=((b=true->Wp m M Q)/\(b=false->Wp n M Q)):=Mc b m n M Q
end
section
variable {Γ:Ctx}{ρ:Ev}{M:MH}{a b c:IE}{Q:D->MH->Prop}{es:eZ}
theorem cL{i:Nat}:W (ae Γ (.var i) ρ) M Q=∃d,ρ[i]?=some (some d)/\Q d M:=by
 refine propext ⟨fun ⟨b,M',e,q⟩=>?_,fun ⟨d,h,q⟩=>⟨d,M,OR h,q⟩⟩;simp only[De]at e;unfold mq at e;cases h:ρ[i]? with
 |none=>rw[h]at e;cases e
 |some o =>
  rw[h]at e;cases o with
  |none=>cases e
  |some d=>cases e;exact⟨_,rfl,q⟩
theorem U9{i:Int}:W (ae Γ (.cint i) ρ) M Q=Q (.int i) M:=ao _ M Q
theorem Xx{i:Bool}:W (ae Γ (.cbl i) ρ) M Q=Q (.bl i) M:=ao _ M Q
theorem U4:W (ae Γ .cnon ρ) M Q=Q .non M:=ao _ M Q
theorem U0{i:Str}:W (ae Γ (.cstr i) ρ) M Q=Q (.str i) M:=ao _ M Q
theorem Vc{i:Str}:W (ae Γ (.glb i) ρ) M Q=∃d,Γ.gl i=some d/\Q d M:=fZ _ M Q
theorem Vf{op:Operator}:W (ae Γ (.bin op a b) ρ) M Q=W (ae Γ a ρ) M fun x M1=>W (ae Γ b ρ) M1 fun y M2=>W (fm op x y) M2 Q:=by
 delta W;simp only[Dt,av]
theorem Vd{op:CmpOp}:W (ae Γ (.cmp op a b) ρ) M Q=W (ae Γ a ρ) M fun x M1=>W (ae Γ b ρ) M1 fun y M2=>W (bJ op x y) M2 fun k M3=>Q (.bl k) M3:=by
 delta W;simp only[Dr,av,bb]
theorem Uz{op op':CmpOp}:W (ae Γ (.cmp2 op op' a b c) ρ) M Q=W (ae Γ a ρ) M fun x M1=>W (ae Γ b ρ) M1 fun y M2=>W (bJ op x y) M2 fun k M3=>(k=true->W (ae Γ c ρ) M3 fun z M4=>W (bJ op' y z) M4 fun k' M5=>Q (.bl k') M5)/\(k=false->Q (.bl false) M3):=by
 delta W;simp only[AM,av,bb,qu]
theorem Vg:W (ae Γ (.and a b) ρ) M Q=W (ae Γ a ρ) M fun x M1=>∃k,bG x=some k/\(k=true->W (ae Γ b ρ) M1 Q)/\(k=false->Q (.bl false) M1):=by
 delta W;simp only[Du,av,bb,qu,dI]
theorem U3:W (ae Γ (.not a) ρ) M Q=W (ae Γ a ρ) M fun x M1=>∃k,bG x=some k/\Q (.bl (!k)) M1:=by
 delta W;simp only[Di,av,bb,dI]
theorem Va{q:IC}:W (ae Γ (.ifE q a b) ρ) M Q=W (a9 Γ q ρ) M fun k M1=>(k=true->W (ae Γ a ρ) M1 Q)/\(k=false->W (ae Γ b ρ) M1 Q):=by
 delta W;simp only[Dp,av,qu]
theorem UZ:W (ae Γ (.tup es) ρ) M Q=W (bu Γ es ρ) M fun xs M1=>xs.length<=zg/\Q (.tup xs) M1:=by
 delta W;simp only[Df,av,bb,gf]
theorem U7:W (ae Γ (.lst es) ρ) M Q=W (bu Γ es ρ) M fun xs M1=>xs.length<=zg/\Q (.ob M1.length) (M1++[.lst xs]):=by
 delta W;simp only[Dm,av,e9,gf]
theorem Ux:W (ae Γ .dic0 ρ) M Q=Q (.ob M.length) (M++[.aO []]):=tH _ M Q
theorem Vb:W (ae Γ (.idx a b) ρ) M Q=W (ae Γ a ρ) M fun x M1=>W (ae Γ b ρ) M1 fun y M2=>W (ir x y) M2 Q:=by
 delta W;simp only[Dq,av]
theorem U1{lo hi:nr}:W (ae Γ (.slc a lo hi) ρ) M Q=W (ae Γ a ρ) M fun x M1=>W (gY Γ lo ρ) M1 fun l M2=>W (gY Γ hi ρ) M2 fun h M3=>W (gi x l h) M3 Q:=by
 delta W;simp only[Dg,av]
theorem UA{f:Str}:W (ae Γ (.call f es) ρ) M Q=W (bu Γ es ρ) M fun xs M1=>W (Γ.fn f xs) M1 Q:=by
 delta W;simp only[oq,av]
theorem Dh{Γ:Ctx}:∀es ρ,ae Γ (.rfs es) ρ=(do let xs<-bu Γ es ρ;ug Γ xs):=fun _ _=>rfl
theorem U2:W (ae Γ (.rfs es) ρ) M Q=W (bu Γ es ρ) M fun xs M1=>∃M2,Γ.rf xs M1=some M2/\Q (.bl true) M2:=by
 rw[Dh,aG];refine IV (fun xs M1=>?_);refine propext ⟨fun ⟨d,M',e,q⟩=>?_,fun ⟨M2,e,q⟩=>⟨_,M2,by unfold ug;rw[e],q⟩⟩;unfold ug at e;cases h:Γ.rf xs M1 with
 |none=>rw[h]at e;cases e
 |some M2=>rw[h]at e;cases e;exact⟨_,rfl,q⟩
theorem Ve{f:Bl}:W (ae Γ (.blt f es) ρ) M Q=W (bu Γ es ρ) M fun xs M1=>W (dR f xs) M1 Q:=by
 delta W;simp only[Ds,av]
theorem Uy{j:Nat}{it:IT}{cc:oJ}:W (ae Γ (.comp j it cc a) ρ) M Q=W (ed Γ it ρ) M fun s M1=>s.ds.length<=zg/\W (eg s.ck (i0 Γ cc) (ae Γ a) (ρ.set j none) s.ds) M1 fun ys M2=>Q (.ob M2.length) (M2++[.lst ys]):=by
 delta W;simp only[AL,av,e9,gf]
theorem Ut{Q:List D->MH->Prop}:W (bu Γ .nil ρ) M Q=Q [] M:=ao _ M Q
theorem SW{Q:List D->MH->Prop}:W (bu Γ (.cons a es) ρ) M Q=W (ae Γ a ρ) M fun x M1=>W (bu Γ es ρ) M1 fun xs M2=>Q (x::xs) M2:=by
 delta W;simp only[uo,av,bb]
theorem Us{Q:Option Int->MH->Prop}:W (gY Γ .none ρ) M Q=Q none M:=ao _ M Q
theorem Ur{Q:Option Int->MH->Prop}:W (gY Γ (.some a) ρ) M Q=W (ae Γ a ρ) M fun x M1=>∃i,x=.int i/\Q (some i) M1:=by
 delta W;simp only[AH,av];refine congrArg _ (funext fun x=>funext fun M1=>?_);cases x <;> simp[tK,bb]
theorem UN{Q:Src->MH->Prop}:W (ed Γ (.seq a) ρ) M Q=W (ae Γ a ρ) M fun x M1=>W (jA x) M1 Q:=by
 delta W;simp only[C7,av]
theorem Uj{Q:Src->MH->Prop}:W (ed Γ (.rng1 a) ρ) M Q=W (ae Γ a ρ) M fun x M1=>∃i,x=.int i/\small i/\Q ⟨none,fM 0 i⟩ M1:=by
 delta W;simp only[AE,av];refine congrArg _ (funext fun x=>funext fun M1=>?_);cases x <;> simp[tK,bb,av,gf]
section
variable {Q:Bool->MH->Prop}{q r:IC}
theorem Vj:W (a9 Γ (.cmp a) ρ) M Q=W (ae Γ a ρ) M fun x M1=>∃k,bG x=some k/\Q k M1:=by delta W;simp only[Dx,av,dI]
theorem Vh:W (a9 Γ (.tru a) ρ) M Q=W (ae Γ a ρ) M fun x M1=>W (kx x) M1 Q:=by delta W;simp only[Dv,av]
theorem Vi:W (a9 Γ (.not q) ρ) M Q=W (a9 Γ q ρ) M fun k M1=>Q (!k) M1:=by delta W;simp only[Dw,av,bb]
theorem Vk:W (a9 Γ (.and q r) ρ) M Q=W (a9 Γ q ρ) M fun k M1=>(k=true->W (a9 Γ r ρ) M1 Q)/\(k=false->Q false M1):=by delta W;simp only[Dy,av,qu,bb]
theorem Xy:W (a9 Γ (.or q r) ρ) M Q=W (a9 Γ q ρ) M fun k M1=>(k=true->Q true M1)/\(k=false->W (a9 Γ r ρ) M1 Q):=by delta W;simp only[E4,av,qu,bb]
theorem S7:W (i0 Γ .none ρ) M Q=Q true M:=ao _ M Q
theorem SY:W (i0 Γ (.some q) ρ) M Q=W (a9 Γ q ρ) M Q:=by delta W;simp only[uu]
end
section
variable {Q:Fl->MH->Prop}{s:IS}{r s1 s2:aE}{q:IC}
noncomputable def Bs(Γ:Ctx)(r:aE)(Q:Fl->MH->Prop)(f:Fl)(M:MH):Prop:=match f with
 |.nx ρ=>W (aq Γ r ρ) M Q
 |.rt v=>Q (.rt v) M
 |.bk ρ=>Q (.bk ρ) M
 |.ct ρ=>Q (.ct ρ) M
theorem VI:Bs Γ r Q (.nx ρ) M=W (aq Γ r ρ) M Q:=rfl
theorem VH{v:D}:Bs Γ r Q (.rt v) M=Q (.rt v) M:=rfl
theorem VL:Bs Γ r Q (.bk ρ) M=Q (.bk ρ) M:=rfl
theorem VJ:Bs Γ r Q (.ct ρ) M=Q (.ct ρ) M:=rfl
theorem UQ:W (aq Γ .nil ρ) M Q=Q (.nx ρ) M:=ao _ M Q
theorem cj:W (aq Γ (.cons s r) ρ) M Q=W (bz Γ s ρ) M (Bs Γ r Q):=by
 delta W;simp only[eI,av];refine congrArg _ (funext fun f=>funext fun M1=>?_);cases f <;> simp[Bs,bb,W]
theorem cK{i:Nat}:W (bz Γ (.set i a) ρ) M Q=W (ae Γ a ρ) M fun x M1=>Q (.nx (ρ.set i (some x))) M1:=by delta W;simp only[C8,av,bb]
theorem SV:W (bz Γ (.setIx a b c) ρ) M Q=W (ae Γ c ρ) M fun v M1=>W (ae Γ a ρ) M1 fun x M2=>W (ae Γ b ρ) M2 fun y M3=>W (setIx x y v) M3 fun _ M4=>Q (.nx ρ) M4:=by delta W;simp only[um,av,bb]
theorem Up:W (bz Γ (.expr a) ρ) M Q=W (ae Γ a ρ) M fun _ M1=>Q (.nx ρ) M1:=by delta W;simp only[oo,av,bb]
theorem UP:W (bz Γ (.ret a) ρ) M Q=W (ae Γ a ρ) M fun x M1=>Q (.rt x) M1:=by delta W;simp only[C9,av,bb]
theorem Uk:W (bz Γ .retN ρ) M Q=Q (.rt .non) M:=ao _ M Q
theorem Ul:W (bz Γ .pass ρ) M Q=Q (.nx ρ) M:=ao _ M Q
theorem UT:W (bz Γ .brk ρ) M Q=Q (.bk ρ) M:=ao _ M Q
theorem US:W (bz Γ .cnt ρ) M Q=Q (.ct ρ) M:=ao _ M Q
theorem PJ:W (bz Γ (.ifS q s1 s2) ρ) M Q=W (a9 Γ q ρ) M fun k M1=>(k=true->W (aq Γ s1 ρ) M1 Q)/\(k=false->W (aq Γ s2 ρ) M1 Q):=by delta W;simp only[pQ,av,qu]
noncomputable def qA:Bool->aE->aE->aE
 |true,a,_=>a
 |false,_,b=>b
theorem XF{a b:aE}:qA true a b=a:=rfl
theorem XG{a b:aE}:qA false a b=b:=rfl
theorem UO:W (bz Γ (.ifS q s1 s2) ρ) M Q=W (a9 Γ q ρ) M fun k M1=>W (aq Γ (qA k s1 s2) ρ) M1 Q:=by
 rw[PJ];refine congrArg _ (funext fun k=>funext fun M1=>?_);cases k <;> simp[qA]
theorem sT{k:Bool}(h:k=true)(t:W (aq Γ s1 ρ) M Q):W (aq Γ (qA k s1 s2) ρ) M Q:=h▸t
theorem sF{k:Bool}(h:k=false)(t:W (aq Γ s2 ρ) M Q):W (aq Γ (qA k s1 s2) ρ) M Q:=h▸t
theorem UR{i:Nat}{it:IT}:W (bz Γ (.forS i it s1) ρ) M Q=W (ed Γ it ρ) M fun s M1=>W (dU s.ck i (aq Γ s1) s.ds ρ) M1 Q:=by delta W;simp only[kA,av]
end
noncomputable def lU(Q:D->MH->Prop)(f:Fl)(M:MH):Prop:=match f with
 |.nx _=>Q .non M
 |.rt v=>Q v M
 |_=>False
theorem Xd:lU Q (.nx ρ) M=Q .non M:=rfl
theorem Xc{v:D}:lU Q (.rt v) M=Q v M:=rfl
theorem wf{n p:Nat}{b:aE}{xs:List D}:W (do need (xs.length=p);oQ Γ n b xs:Mo D) M Q=(xs.length=p/\W (aq Γ b (xs.map some++yq (n-xs.length) none)) M (lU Q)):=by
 rw[aG,c6];unfold oQ;rw[aG];refine congrArg _ (IV fun f M1=>?_);cases f <;> simp[lU,ao,mn]
end
end L3
namespace L3
open PySem
section
variable {M:MH}{Q:D->MH->Prop}{B:Bool->MH->Prop}{U:Unit->MH->Prop}{S:Src->MH->Prop}{x y v:D}
theorem Vy{i j:Int}:W (fm .Add (.int i) (.int j)) M Q=Q (.int (i+j)) M:=ao _ M Q
theorem Vu{i j:Int}:W (fm .Sub (.int i) (.int j)) M Q=Q (.int (i-j)) M:=ao _ M Q
theorem Vw{i j:Str}:W (fm .Add (.str i) (.str j)) M Q=(i.length+j.length<=zg/\Q (.str (i++j)) M):=by
 show W (need _ >>= fun _=>pure _) M Q=_;rw[aG,c6,ao]
theorem Vv{i j:List D}:W (fm .Add (.tup i) (.tup j)) M Q=(i.length+j.length<=zg/\Q (.tup (i++j)) M):=by
 show W (need _ >>= fun _=>pure _) M Q=_;rw[aG,c6,ao]
theorem Vx{i j:Nat}:W (fm .Add (.ob i) (.ob j)) M Q=∃xs,M[i]?=some (.lst xs)/\∃ys,M[j]?=some (.lst ys)/\xs.length+ys.length<=zg/\Q (.ob M.length) (M++[.lst (xs++ys)]):=by
 show W (getL i >>= fun xs=>getL j >>= fun ys=>need _ >>= fun _=>bI _) M Q=_;delta W;simp only[av,gh,gf,e9]
theorem XR{i j:Int}:W (fm .Mult (.int i) (.int j)) M Q=(((-(2 ^ 64)<i/\i<2 ^ 64)\/(-(2 ^ 64)<j/\j<2 ^ 64))/\Q (.int (i*j)) M):=by
 show W (need _ >>= fun _=>pure _) M Q=_;rw[aG,c6,ao]
theorem XS{i j:Int}:W (fm .Mod (.int i) (.int j)) M Q=(0<j/\Q (.int (i % j)) M):=by
 show W (need _ >>= fun _=>pure _) M Q=_;rw[aG,c6,ao]
theorem jG:W (bJ .Eq x y) M B=∃b,bA M 20 x y=some b/\B b M:=by
 show W (pv x y) M B=_;refine propext ⟨fun ⟨b,M',e,q⟩=>?_,fun ⟨b,e,q⟩=>⟨b,M,by unfold pv;rw[e],q⟩⟩;unfold pv at e;cases h:bA M 20 x y with
 |none=>rw[h]at e;cases e
 |some k=>rw[h]at e;cases e;exact⟨_,rfl,q⟩
theorem iP:W (bJ .NotEq x y) M B=∃b,bA M 20 x y=some b/\B (!b) M:=by
 show W (bJ .Eq x y >>= fun b=>pure (!b)) M B=_;rw[aG]
 have:∀b M,W (pure (!b):Mo Bool) M B=B (!b) M:=fun b M=>ao _ M B
 rw[IV this,jG]
theorem rg{n:Nat}(h1:bV x=true)(h2:bV y=true):bA M (n+1) x y=some (eY x y):=by
 cases x <;> cases y <;> first|exact absurd h1 zk|exact absurd h2 zk|rfl
theorem y9{n:Nat}{i j:Int}:bA M (n+1) (.int i) (.int j)=some (i==j):=rfl
theorem Gp{n:Nat}{i j:Str}:bA M (n+1) (.str i) (.str j)=some (i==j):=rfl
theorem QL{n:Nat}{i j:Bool}:bA M (n+1) (.bl i) (.bl j)=some (i==j):=rfl
theorem Yu{n:Nat}:bA M (n+1) .non .non=some true:=rfl
theorem Yt{n:Nat}{j:Str}:bA M (n+1) .non (.str j)=some false:=rfl
theorem Ys{n:Nat}{j:Str}:bA M (n+1) (.str j) .non=some false:=rfl
theorem Gn{n:Nat}{i j:List D}:bA M (n+1) (.tup i) (.tup j)=c9 (bA M n) i j:=rfl
theorem mX{n:Nat}{i j:Nat}{xs:List D}(h1:M[i]?=some (.lst xs))(h2:M[j]?=some (.lst [])):bA M (n+1) (.ob i) (.ob j)=some xs.isEmpty:=by
 show (match M[i]?,M[j]? with
   |some (.lst xs),some (.lst ys)=>if xs.length=ys.length then c9 (bA M n) xs ys else some false
   |_,_=>none)=_
 rw[h1,h2];cases xs <;> rfl
theorem Yd{i j:Int}:W (bJ .Eq (.int i) (.int j)) M B=B (i==j) M:=by rw[jG];simp[y9]
theorem Yc{i j:Str}:W (bJ .Eq (.str i) (.str j)) M B=B (i==j) M:=by rw[jG];simp[Gp]
theorem Ye{i j:Bool}:W (bJ .Eq (.bl i) (.bl j)) M B=B (i==j) M:=by rw[jG];simp[QL]
theorem XQ{i j:Int}:W (bJ .NotEq (.int i) (.int j)) M B=B (!(i==j)) M:=by rw[iP];simp[y9]
theorem XO{i j:Str}:W (bJ .NotEq (.str i) (.str j)) M B=B (!(i==j)) M:=by rw[iP];simp[Gp]
theorem XW{i j:Int}:W (bJ .Lt (.int i) (.int j)) M B=B (decide (i<j)) M:=ao _ M B
theorem XY{i j:Int}:W (bJ .LtE (.int i) (.int j)) M B=B (decide (i<=j)) M:=ao _ M B
theorem X9{i j:Int}:W (bJ .Gt (.int i) (.int j)) M B=B (decide (j<i)) M:=ao _ M B
theorem Yb{i j:Int}:W (bJ .GtE (.int i) (.int j)) M B=B (decide (j<=i)) M:=ao _ M B
theorem XX{i j:Str}:W (bJ .LtE (.str i) (.str j)) M B=B (!decide (j.cps.toList<i.cps.toList)) M:=ao _ M B
theorem XU{i j:Str}:W (bJ .Lt (.str i) (.str j)) M B=B (decide (i.cps.toList<j.cps.toList)) M:=ao _ M B
theorem YE:W (bJ .In x y) M B=W (inD x y) M B:=rfl
theorem UD:W (bJ .NotIn x y) M B=W (inD x y) M fun k M1=>B (!k) M1:=by
 show W (inD x y >>= fun b=>pure (!b)) M B=_;delta W;simp only[av,bb]
theorem X7{i j:Str}:W (inD (.str i) (.str j)) M B=B (kL j i) M:=ao _ M B
theorem L9{ds:List D}:W (hY x ds) M B=∃b,iY M x ds=some b/\B b M:=by
 refine propext ⟨fun ⟨b,M',e,q⟩=>?_,fun ⟨b,e,q⟩=>⟨b,M,by unfold hY;rw[e],q⟩⟩;unfold hY at e;cases h:iY M x ds with
 |none=>rw[h]at e;cases e
 |some k=>rw[h]at e;cases e;exact⟨_,rfl,q⟩
theorem uZ(h1:bV x=true):∀{ds:List D},ds.all bV=true->iY M x ds=some (ds.any fun d=>eY d x)
 |[],_=>rfl
 |d::ds,h=>by
  rw[zX,zl]at h;unfold iY;rw[rg h.1 h1,uZ h1 h.2];rfl
theorem X0{ds:List D}:W (inD x (.tup ds)) M B=∃b,iY M x ds=some b/\B b M:=L9
theorem X8{i:Nat}:W (inD x (.ob i)) M B=∃o,M[i]?=some o/\W (match o with
  |.lst ds=>hY x ds
  |.aO kvs=>(do let k<-lift (fq x);pure (bq kvs k).isSome)
  ) M B:=by
 exact(aG (getM i) _ M B).trans (kH i M _)
theorem YD:W (bJ .Is x .non) M B=(k9 .non=true/\B (k9 x) M):=by
 show W (need _ >>= fun _=>pure _) M B=_;rw[aG,c6,ao]
theorem XZ{b:Bool}:W (bJ .Is (.bl b) (.bl true)) M B=B b M:=ao _ M B
theorem UE:W (bJ .IsNot x y) M B=(k9 y=true/\B (!k9 x) M):=by
 show W (need _ >>= fun _=>pure _) M B=_;rw[aG,c6,ao]
theorem Yo{ds:List D}{i:Int}:W (ir (.tup ds) (.int i)) M Q=∃d,cz ds i=some d/\Q d M:=fZ _ M Q
theorem YR{ds:List D}{i:Int}:W (ir (.fl ds) (.int i)) M Q=∃d,cz ds i=some d/\Q d M:=fZ _ M Q
theorem Yp{t:Str}{i:Int}:W (ir (.str t) (.int i)) M Q=(t.length<=zg/\∃c,cz t.cps.toList i=some c/\Q (sgn c) M):=by
 show W (need _ >>= fun _=>lift (cz t.cps.toList i) >>= fun c=>pure (sgn c)) M Q=_;delta W;simp only[av,gf,dI,bb]
noncomputable def qO(o:MO)(y:D)(M:MH)(Q:D->MH->Prop):Prop:=match o with
 |.lst ds=>∃i,y=.int i/\∃d,cz ds i=some d/\Q d M
 |.aO kvs=>∃k,fq y=some k/\∃d,bq kvs k=some d/\Q d M
theorem Yq{ds:List D}{i:Int}:qO (.lst ds) (.int i) M Q=∃d,cz ds i=some d/\Q d M:=by simp[qO]
theorem Yr{kvs:List (Ky×D)}:qO (.aO kvs) y M Q=∃k,fq y=some k/\∃d,bq kvs k=some d/\Q d M:=rfl
theorem YQ{j:Nat}:W (ir (.ob j) y) M Q=∃o,M[j]?=some o/\qO o y M Q:=by
 have e:ir (.ob j) y=(getM j >>= fun o=>(match o with
  |.lst ds=>(match y with
   |.int i=>lift (cz ds i)
   |_=>Mo.stop)
  |.aO kvs=>(do let q<-lift (fq y);lift (bq kvs q))
  ):Mo D):=by cases y <;> rfl
 rw[e,aG,kH];refine congrArg _ (funext fun o=>congrArg _ ?_);cases o with
 |lst ds=>cases y <;> simp[qO,mn,fZ]
 |aO kvs=>simp[qO,aG,fZ]
noncomputable def nF(j:Nat)(o:MO)(y v:D)(M:MH)(U:Unit->MH->Prop):Prop:=match o with
 |.lst ds=>∃i,y=.int i/\∃n,k8 ds.length i=some n/\U () (M.set j (.lst (ds.set n v)))
 |.aO kvs=>∃k,fq y=some k/\kvs.length<zg/\U () (M.set j (.aO (ee kvs k v)))
theorem XD{j:Nat}{ds:List D}{i:Int}:nF j (.lst ds) (.int i) v M U=∃n,k8 ds.length i=some n/\U () (M.set j (.lst (ds.set n v))):=by simp[nF]
theorem XE{j:Nat}{kvs:List (Ky×D)}:nF j (.aO kvs) y v M U=∃k,fq y=some k/\kvs.length<zg/\U () (M.set j (.aO (ee kvs k v))):=rfl
theorem Yz{j:Nat}:W (setIx (.ob j) y v) M U=∃o,M[j]?=some o/\nF j o y v M U:=by
 show W (getM j >>= _) M U=_;rw[aG,kH];refine congrArg _ (funext fun o=>?_);refine propext (and_congr_right fun h=>?_);have hl:j<M.length:=(zn.mp h).1;cases o with
 |lst ds=>cases y <;> simp[nF,mn,fZ,aG,pF,hl]
 |aO kvs=>simp[nF,aG,fZ,c6,pF,hl]
theorem Xr{t:Str}{lo hi:Option Int}:W (gi (.str t) lo hi) M Q=(t.length<=zg/\Q (.str ⟨(cutD t.cps.toList lo hi).toArray⟩) M):=by
 show W (need _ >>= fun _=>pure _) M Q=_;rw[aG,c6,ao]
theorem Xs{j:Nat}{lo hi:Option Int}:W (gi (.ob j) lo hi) M Q=∃ds,M[j]?=some (.lst ds)/\Q (.ob M.length) (M++[.lst (cutD ds lo hi)]):=by
 show W (getL j >>= fun ds=>bI _) M Q=_;delta W;simp only[av,gh,e9]
theorem Xq{ds:List D}{lo hi:Option Int}:W (gi (.tup ds) lo hi) M Q=Q (.tup (cutD ds lo hi)) M:=ao _ M Q
theorem Yv{ds:List D}{lo hi:Option Int}:W (gi (.fl ds) lo hi) M Q=Q (.ob M.length) (M++[.lst (cutD ds lo hi)]):=tH _ M Q
theorem VZ{t:Str}:W (dR .len [.str t]) M Q=(t.length<=zg/\Q (.int t.length) M):=by
 show W (need _ >>= fun _=>pure _) M Q=_;rw[aG,c6,ao]
noncomputable def lK(o:MO):Int:=match o with
 |.lst ds=>ds.length
 |.aO kvs=>kvs.length
theorem V0{j:Nat}:W (dR .len [.ob j]) M Q=∃o,M[j]?=some o/\Q (.int (lK o)) M:=by
 show W (getM j >>= _) M Q=_;rw[aG,kH];refine congrArg _ (funext fun o=>congrArg _ ?_);cases o <;> simp[lK,ao]
theorem mM{ds:List D}:lK (.lst ds)=ds.length:=rfl
theorem VX{ds:List (Ky×D)}:lK (.aO ds)=ds.length:=rfl
theorem VY{ds:List D}:W (dR .len [.tup ds]) M Q=Q (.int ds.length) M:=ao _ M Q
theorem V1{ds:List D}:W (dR .len [.fl ds]) M Q=Q (.int ds.length) M:=ao _ M Q
theorem VW{j:Nat}:W (dR .tuple [.ob j]) M Q=∃ds,M[j]?=some (.lst ds)/\Q (.tup ds) M:=by
 show W (getL j >>= fun ds=>pure _) M Q=_;delta W;simp only[av,gh,bb]
theorem k_all{j:Nat}:W (dR .all [.ob j]) M Q=∃ds,M[j]?=some (.lst ds)/\∃bs,ds.mapM bG=some bs/\Q (.bl (bs.all id)) M:=by
 show W (getL j >>= fun ds=>lift (ds.mapM bG) >>= fun bs=>pure _) M Q=_;delta W;simp only[av,gh,dI,bb]
theorem Yl{j:Nat}:W (dR .any [.ob j]) M Q=∃ds,M[j]?=some (.lst ds)/\∃bs,ds.mapM bG=some bs/\Q (.bl (bs.any id)) M:=by
 show W (getL j >>= fun ds=>lift (ds.mapM bG) >>= fun bs=>pure _) M Q=_;delta W;simp only[av,gh,dI,bb]
theorem Xv{t:Str}:W (jA (.str t)) M S=(t.length<=zg/\S ⟨none,t.cps.toList.map sgn⟩ M):=by
 show W (need _ >>= fun _=>pure _) M S=_;rw[aG,c6,ao]
theorem Xu{ds:List D}:W (jA (.tup ds)) M S=S ⟨none,ds⟩ M:=ao _ M S
theorem Yw{ds:List D}:W (jA (.fl ds)) M S=S ⟨none,ds⟩ M:=ao _ M S
theorem Xw{j:Nat}:W (jA (.ob j)) M S=∃ds,M[j]?=some (.lst ds)/\S ⟨some (j,ds),ds⟩ M:=by
 show W (getL j >>= fun ds=>pure _) M S=_;delta W;simp only[av,gh,bb]
theorem Yy{b:Bool}:W (kx (.bl b)) M B=B b M:=ao _ M B
theorem XA{ds:List D}:W (kx (.tup ds)) M B=B (!ds.isEmpty) M:=ao _ M B
theorem XC{b:Int}:W (kx (.int b)) M B=B (b != 0) M:=ao _ M B
theorem YS{b:Bool}:bG (.bl b)=some b:=rfl
theorem bt{ck:Option (Nat×List D)}{c:Ev->Mo Bool}{e:Ev->Mo D}{ρ:Ev}{ds:List D}{L:List D->MH->Prop}(I:Nat->List D->MH->Prop)(h0:I 0 [] M)(hs:∀n ys M,I n ys M->ou ck M)
  (h:∀(n:Nat) (d:D) (ys:List D) (M:MH),ds[n]?=some d->I n ys M->W (c (some d::ρ)) M fun b M1=>(b=true->W (e (some d::ρ)) M1 fun y M2=>I (n+1) (ys++[y]) M2)/\(b=false->I (n+1) ys M1))
  (q:∀ys M,I ds.length ys M->L ys M):W (eg ck c e ρ ds) M L:=by
 suffices H:∀(r:List D) (n:Nat) (ys:List D) (M:MH),(∀j d,r[j]?=some d->ds[n+j]?=some d)->n+r.length=ds.length->I n ys M->W (eg ck c e ρ r) M fun zs M'=>L (ys++zs) M' by
  simpa using H ds 0 [] M (fun j d e=>by simpa using e) (by simp) h0
 intro r;induction r with
 |nil =>
  intro n ys M _ hn hI;unfold eg;rw[aG];refine W.of (show cR ck M=some (.ok (),M) from if_pos (hs _ _ _ hI)) ?_;rw[ao,zO]
  have:n=ds.length:=by simpa using hn
  exact q _ _ (this▸hI)
 |cons d r ih =>
  intro n ys M hr hn hI;unfold eg;rw[aG];refine W.of (show cR ck M=some (.ok (),M) from if_pos (hs _ _ _ hI)) ?_;rw[aG];have hd:ds[n]?=some d:=by simpa using hr 0 d rfl
  have hr':∀j d',r[j]?=some d'->ds[n+1+j]?=some d':=fun j d' e=>by
   have:=hr (j+1) d' (by simpa using e)
   rwa [show n+(j+1)=n+1+j by omega]at this
  have hn':n+1+r.length=ds.length:=by rw[zE]at hn;first|lia|omega
  refine(h n d ys M hd hI).mono fun b M1 hb=>?_;rw[Mc];refine⟨fun hb'=>?_,fun hb'=>ih (n+1) ys M1 hr' hn' (hb.2 hb')⟩;rw[aG];refine(hb.1 hb').mono fun y M2 WZ=>?_;rw[aG];refine(ih (n+1) (ys++[y]) M2 hr' hn' WZ).mono fun zs M3 hL=>?_;rw[ao];simpa using hL
noncomputable def nO(I:Nat->Ev->MH->Prop)(F:Fl->MH->Prop)(n:Nat)(f:Fl)(M1:MH):Prop:=match f with
 |.nx ρ'=>I (n+1) ρ' M1
 |.ct ρ'=>I (n+1) ρ' M1
 |.bk ρ'=>F (.nx ρ') M1
 |.rt v=>F (.rt v) M1
theorem Yi{I:Nat->Ev->MH->Prop}{F:Fl->MH->Prop}{n:Nat}{ρ:Ev}:nO I F n (.nx ρ) M=I (n+1) ρ M:=rfl
theorem Yj{I:Nat->Ev->MH->Prop}{F:Fl->MH->Prop}{n:Nat}{ρ:Ev}:nO I F n (.ct ρ) M=I (n+1) ρ M:=rfl
theorem Yk{I:Nat->Ev->MH->Prop}{F:Fl->MH->Prop}{n:Nat}{ρ:Ev}:nO I F n (.bk ρ) M=F (.nx ρ) M:=rfl
theorem Yh{I:Nat->Ev->MH->Prop}{F:Fl->MH->Prop}{n:Nat}{v:D}:nO I F n (.rt v) M=F (.rt v) M:=rfl
theorem bw{ck:Option (Nat×List D)}{i:Nat}{body:Ev->Mo Fl}{ds:List D}{ρ:Ev}{F:Fl->MH->Prop}(I:Nat->Ev->MH->Prop)(h0:I 0 ρ M)(hs:∀n ρ M,I n ρ M->ou ck M)
  (h:∀(n:Nat) (d:D) (ρ:Ev) (M:MH),ds[n]?=some d->I n ρ M->W (body (ρ.set i (some d))) M (nO I F n))
  (q:∀ρ M,I ds.length ρ M->F (.nx ρ) M):W (dU ck i body ds ρ) M F:=by
 suffices H:∀(r:List D) (n:Nat) (ρ:Ev) (M:MH),(∀j d,r[j]?=some d->ds[n+j]?=some d)->n+r.length=ds.length->I n ρ M->W (dU ck i body r ρ) M F from
  H ds 0 ρ M (fun j d e=>by simpa using e) (by simp) h0
 intro r;induction r with
 |nil =>
  intro n ρ M _ hn hI;unfold dU;rw[aG];refine W.of (show cR ck M=some (.ok (),M) from if_pos (hs _ _ _ hI)) ?_;rw[ao]
  have:n=ds.length:=by simpa using hn
  exact q _ _ (this▸hI)
 |cons d r ih =>
  intro n ρ M hr hn hI;unfold dU;rw[aG];refine W.of (show cR ck M=some (.ok (),M) from if_pos (hs _ _ _ hI)) ?_;rw[aG];have hd:ds[n]?=some d:=by simpa using hr 0 d rfl
  have hr':∀j d',r[j]?=some d'->ds[n+1+j]?=some d':=fun j d' e=>by
   have:=hr (j+1) d' (by simpa using e)
   rwa [show n+(j+1)=n+1+j by omega]at this
  have hn':n+1+r.length=ds.length:=by rw[zE]at hn;first|lia|omega
  refine(h n d ρ M hd hI).mono fun f M1 hf=>?_;cases f with
  |nx ρ'=>exact ih (n+1) ρ' M1 hr' hn' hf
  |ct ρ'=>exact ih (n+1) ρ' M1 hr' hn' hf
  |bk ρ'=>exact(ao _ _ _).mpr hf
  |rt v=>exact(ao _ _ _).mpr hf
end
end L3
namespace L3
open PySem
theorem VU{x:Str}:fq (.str x)=some (.inr x):=rfl
theorem VV{x:Int}:fq (.int x)=some (.inl x):=rfl
theorem eq_str{a b:Str}:eY (.str a) (.str b)=(a==b):=rfl
theorem eq_int{a b:Int}:eY (.int a) (.int b)=(a==b):=rfl
end L3
namespace L3
open PySem
section
variable {Γ:Ctx}{ρ:Ev}{M:MH}{a b c:IE}{Q:D->MH->Prop}{es:eZ}{x y:D}{B:Bool->MH->Prop}
theorem U5:W (ae Γ (.neg a) ρ) M Q=W (ae Γ a ρ) M fun x M1=>∃i,x=.int i/\Q (.int (-i)) M1:=by
 delta W;simp only[Dj,av];refine congrArg _ (funext fun x=>funext fun M1=>?_);cases x <;> simp[tK,bb]
theorem AJ{Γ:Ctx}:∀a ρ,ae Γ (.sset a) ρ=(do let x<-ae Γ a ρ;ub x):=fun _ _=>rfl
theorem Uv:W (ae Γ (.sset a) ρ) M Q=W (ae Γ a ρ) M fun x M1=>W (ub x) M1 Q:=by delta W;simp only[AJ,av]
theorem UL{k:Nat}:W (ub (.ob k)) M Q=∃ds,M[k]?=some (.lst ds)/\∃xs,ie ds=some xs/\(aF [] xs).length<64/\Q (.ob M.length) (M++[.lst ((a6 (aF [] xs)).map .str)]):=by
 show W (getL k >>= fun ds=>lift (ie ds) >>= fun xs=>need _ >>= fun _=>bI _) M Q=_;delta W;simp only[av,gh,dI,gf,e9]
theorem AK{Γ:Ctx}:∀a ρ,ae Γ (.srtK a) ρ=(do let x<-ae Γ a ρ;uS x):=fun _ _=>rfl
theorem Uw:W (ae Γ (.srtK a) ρ) M Q=W (ae Γ a ρ) M fun x M1=>W (uS x) M1 Q:=by delta W;simp only[AK,av]
theorem UM{k:Nat}:W (uS (.ob k)) M Q=∃kvs,M[k]?=some (.aO kvs)/\∃xs,strKeys kvs=some xs/\xs.length<64/\Q (.ob M.length) (M++[.lst ((a6 xs).map .str)]):=by
 show W (getD k >>= fun kvs=>lift (strKeys kvs) >>= fun xs=>need _ >>= fun _=>bI _) M Q=_;rw[aG,Eu];delta W;simp only[av,dI,gf,e9]
theorem SX:W (ae Γ (.sortL a) ρ) M Q=W (ae Γ a ρ) M fun x M1=>W (pe x) M1 fun ds M2=>∃ys,Γ.srt ds=some ys/\Q (.ob M2.length) (M2++[.lst ys]):=by
 delta W;simp only[uq,av,dI,e9]
theorem Uu:W (ae Γ (.strI a) ρ) M Q=W (ae Γ a ρ) M fun x M1=>∃s,nu x=some s/\Q (.str s) M1:=by
 delta W;simp only[AI,av,dI,bb]
theorem U8{t:Ty}:W (ae Γ (.isI a t) ρ) M Q=W (ae Γ a ρ) M fun x M1=>W (l7 t x) M1 fun k M2=>Q (.bl k) M2:=by
 delta W;simp only[Dn,av,bb]
theorem U6{m:Mt}:W (ae Γ (.mth m a es) ρ) M Q=W (ae Γ a ρ) M fun x M1=>W (lI m x) M1 fun _ M2=>W (bu Γ es ρ) M2 fun xs M3=>W (ka m x xs) M3 Q:=by
 delta W;simp only[Dk,av]
theorem XM{t:Ty}:W (l7 t .non) M B=B false M:=ao _ M B
theorem YC{t:Ty}{k:Bool}:W (l7 t (.bl k)) M B=B (t==.bool||t==.int) M:=ao _ M B
theorem XN{t:Ty}{k:Int}:W (l7 t (.int k)) M B=B (t==.int) M:=ao _ M B
theorem XJ{t:Ty}{k:Str}:W (l7 t (.str k)) M B=B (t==.str) M:=ao _ M B
theorem XI{t:Ty}{k:List D}:W (l7 t (.tup k)) M B=B (t==.tuple) M:=ao _ M B
theorem YB{t:Ty}{k:List D}:W (l7 t (.fl k)) M B=B (t==.list) M:=ao _ M B
theorem Ym{ds:List D}{L:List D->MH->Prop}:W (jO (.tup ds)) M L=L ds M:=ao _ M L
theorem YJ{ds:List D}{L:List D->MH->Prop}:W (jO (.fl ds)) M L=L ds M:=ao _ M L
theorem YI{k:Nat}{L:List D->MH->Prop}:W (jO (.ob k)) M L=∃ds,M[k]?=some (.lst ds)/\L ds M:=ju k M L
theorem YG{ds:List D}{L:List D->MH->Prop}:W (pe (.fl ds)) M L=L ds M:=ao _ M L
theorem YF{k:Nat}{L:List D->MH->Prop}:W (pe (.ob k)) M L=∃ds,M[k]?=some (.lst ds)/\L ds M:=ju k M L
theorem UH:W (dR .list [x]) M Q=W (jO x) M fun ds M1=>Q (.ob M1.length) (M1++[.lst ds]):=by
 show W (jO x >>= fun ds=>bI (.lst ds)) M Q=_;delta W;simp only[av,e9]
section
variable {U:Unit->MH->Prop}
theorem Hq{k:Nat}:W (lI .append (.ob k)) M U=∃ds,M[k]?=some (.lst ds)/\U () M:=by
 show W (getL k >>= fun _=>pure ()) M U=_;delta W;simp only[av,gh,bb]
theorem Td{k:Nat}:W (lI .extend (.ob k)) M U=∃ds,M[k]?=some (.lst ds)/\U () M:=Hq
theorem Vt{k:Str}:W (lI .join (.str k)) M U=U () M:=ao _ M U
end
theorem Cn{β:Type}{k:Nat}{o:MO}{r:β}{R:β->MH->Prop}{ds:List D}(h:M[k]?=some (.lst ds)):W (e8 k o >>= fun _=>pure r) M R=R r (M.set k o):=by
 rw[aG,pF];have e:W (pure r:Mo β) (M.set k o) R=R r (M.set k o):=ao _ _ _;rw[e];simp[aD h]
theorem Tw{k:Nat}:W (ka .append (.ob k) [y]) M Q=∃ds,M[k]?=some (.lst ds)/\ds.length<zg/\Q .non (M.set k (.lst (ds++[y]))):=by
 show W (getL k >>= fun ds=>need _ >>= fun _=>e8 k _ >>= fun _=>pure D.non) M Q=_;rw[aG,ju];refine congrArg _ (funext fun ds=>propext (and_congr_right fun h=>?_));rw[aG,c6,Cn h]
theorem VR{t:Str}{k:Nat}:W (ka .join (.str t) [.ob k]) M Q=∃ds,M[k]?=some (.lst ds)/\∃ys,ds.mapM tZ=some ys/\(ys.map (·.length)).sum+ys.length*t.length<=16777216/\Q (.str (ke t ys)) M:=by
 show W (getL k >>= fun ds=>lift _ >>= fun ys=>need _ >>= fun _=>pure _) M Q=_;delta W;simp only[av,gh,gf,dI,bb]
theorem Rh{k j:Nat}:W (ka .extend (.ob k) [.ob j]) M Q=∃es,M[j]?=some (.lst es)/\∃ds,M[k]?=some (.lst ds)/\(ds.length+es.length<=zg/\(j==k)=false)/\Q .non (M.set k (.lst (ds++es))):=by
 show W (getL j >>= fun es=>getL k >>= fun ds=>need _ >>= fun _=>e8 k _ >>= fun _=>pure D.non) M Q=_;rw[aG,ju];refine congrArg _ (funext fun es=>propext (and_congr_right fun h0=>?_));rw[aG,ju];refine exists_congr fun ds=>and_congr_right fun h=>?_;rw[aG,c6,Cn h];rfl
theorem Rg{k:Nat}{es:List D}:W (ka .extend (.ob k) [.tup es]) M Q=∃ds,M[k]?=some (.lst ds)/\(ds.length+es.length<=zg/\true)/\Q .non (M.set k (.lst (ds++es))):=by
 show W (pure es >>= fun es=>getL k >>= fun ds=>need _ >>= fun _=>e8 k _ >>= fun _=>pure D.non) M Q=_;rw[aG,ao,aG,ju];refine congrArg _ (funext fun ds=>propext (and_congr_right fun h=>?_));rw[aG,c6,Cn h];simp[NY]
theorem Um{F:Fl->MH->Prop}:W (bz Γ .halt ρ) M F=False:=mn M F
end
section
variable {α:Type}{a b c d e f g:α}{l:List α}
theorem Zv:cz (a::l) 0=some a:=by simp[cz,k8]
theorem Zu:cz (a::b::l) 1=some b:=bB (j:=1) rfl
theorem at2:cz (a::b::c::l) 2=some c:=bB (j:=2) rfl
theorem Zt:cz (a::b::c::d::l) 3=some d:=bB (j:=3) rfl
theorem Zs:cz (a::b::c::d::e::f::g::l) 6=some g:=bB (j:=6) rfl
end
theorem cH{α:Type}(xs:List α){v:Int}(h:0<=v):cutD xs none (some v)=xs.take v.toNat:=by
 unfold cutD;simp only[d6];rw[if_neg (by first|lia|omega),vq,xK]
 by_cases h2:v.toNat<=xs.length
 ·rw[xw h2]
 ·rw[vc (by first|lia|omega),zN,xL (by first|lia|omega)]
theorem jU{α:Type}(xs:List α){v:Int}(h:0<=v):cutD xs (some v) none=xs.drop v.toNat:=by
 unfold cutD;simp only[d6];rw[if_neg (by first|lia|omega)]
 by_cases h2:v.toNat<=xs.length
 ·rw[xw h2,xL (by rw[yh];exact zp _)]
 ·rw[vc (by first|lia|omega),yB,List.drop_of_length_le (by first|lia|omega)]
  simp
theorem gm{α:Type}{f:Nat->α}{m:Nat}(h:∀i j,i<m->j<m->f i=f j->i=j):((List.range m).map f).Nodup:=by
 rw[List.Nodup,vn];refine(List.nodup_range (n:=m)).imp_of_mem fun {a b} ha hb b6 he=>b6 (h a b (yk.mp ha) (yk.mp hb) he)
theorem y0{f:D->D->Option Bool}:∀{xs:List D},(∀x∈xs,f x x=some true)->c9 f xs xs=some true
 |[],_=>rfl
 |x::xs,h=>by
  unfold c9;rw[h x zJ,y0 fun y hy=>h y (zI _ hy)];rfl
theorem Iu{x:D}(h:bV x=true):eY x x=true:=by
 cases x <;> first|rfl|exact absurd h zk|simp[eY]
theorem Iv{M:MH}{n:Nat}{x:D}(h:bV x=true):bA M (n+1) x x=some true:=by rw[rg h h,Iu h]
noncomputable def dM:Nat->D->Bool
 |0,_=>false
 |n+1,.tup ds=>ds.all (dM n)
 |_+1,d=>bV d
theorem y8{M:MH}:∀{n:Nat} {x:D},dM n x=true->bA M n x x=some true
 |0,_,h=>by cases h
 |n+1,x,h=>by
  cases x with
  |tup ds =>
   rw[Gn];exact y0 fun y hy=>y8 (zS.mp h y hy)
  |fl ds=>cases h
  |ob i=>cases h
  |_=>exact Iv rfl
theorem QK{M:MH}{n i j:Nat}{xs ys:List D}(h1:M[i]?=some (.lst xs))(h2:M[j]?=some (.lst ys)):bA M (n+1) (.ob i) (.ob j)=if xs.length=ys.length then c9 (bA M n) xs ys else some false:=by
 show (match M[i]?,M[j]? with
   |some (.lst xs),some (.lst ys)=>if xs.length=ys.length then c9 (bA M n) xs ys else some false
   |_,_=>none)=_
 rw[h1,h2]
noncomputable def dr:Nat->aE->aE
 |0,s=>s
 |n+1,.cons _ r=>dr n r
 |_+1,.nil=>.nil
theorem mZ{s:aE}:dr 0 s=s:=rfl
noncomputable def Aa:Nat->aE->aE->aE
 |0,_,t=>t
 |n+1,.cons s r,t=>.cons s (Aa n r t)
 |_+1,.nil,t=>t
theorem kj{s t:aE}:Aa 0 s t=t:=rfl
theorem ki{n:Nat}{s:IS}{r t:aE}:Aa (n+1) (.cons s r) t=.cons s (Aa n r t):=rfl
theorem ja:∀(n:Nat) (b:aE),b=Aa n b (dr n b)
 |0,_=>rfl
 |n+1,.cons s r=>congrArg _ (ja n r)
 |_+1,.nil=>rfl
theorem mY{n:Nat}{s:IS}{r:aE}:dr (n+1) (.cons s r)=dr n r:=rfl
end L3
namespace L3
open PySem
section
variable {Γ:Ctx}{ρ:Ev}{M:MH}{Q:D->MH->Prop}{x y v:D}{a:IE}{s1:aE}{U:Unit->MH->Prop}{B:Bool->MH->Prop}{S:Src->MH->Prop}{F:Fl->MH->Prop}
theorem UJ{ds:List D}:W (dR .dict1 [.tup ds]) M Q=∃ps,dj ds=some ps/\Q (.ob M.length) (M++[.aO (iH [] ps)]):=by
 show W (lift (dj ds) >>= fun ps=>bI _) M Q=_;delta W;simp only[av,dI,e9]
theorem XH{k:Nat}:W (lI .get (.ob k)) M U=∃ds,M[k]?=some (.aO ds)/\U () M:=by
 show W (getD k >>= fun _=>pure ()) M U=_;delta W;simp only[av,tL,bb]
theorem UI{k:Nat}:W (dR .dict1 [.ob k]) M Q=∃kvs,M[k]?=some (.aO kvs)/\Q (.ob M.length) (M++[.aO kvs]):=by
 show W (getD k >>= fun kvs=>bI _) M Q=_;delta W;simp only[av,tL,e9]
theorem Qg{Γ:Ctx}:∀a ρ,ae Γ (.lsk a) ρ=(do let x<-ae Γ a ρ;DR x):=fun _ _=>rfl
theorem Yg{k:Nat}:W (ka .get (.ob k) [y,v]) M Q=∃kvs,M[k]?=some (.aO kvs)/\∃q,fq y=some q/\Q ((bq kvs q).getD v) M:=by
 show W (getD k >>= fun kvs=>lift (fq y) >>= fun q=>pure _) M Q=_;delta W;simp only[av,tL,dI,bb]
theorem wp_seq:W (ky Γ (.seq a) ρ) M S=W (ae Γ a ρ) M fun x M1=>W (jA x) M1 S:=by delta W;simp only[Dc,av]
theorem Uq:W (ky Γ (.enum a) ρ) M S=W (ae Γ a ρ) M fun x M1=>W (nU x) M1 S:=by delta W;simp only[AG,av]
theorem Ui{ds:List D}:W (nU (.fl ds)) M S=S ⟨none,fC ds⟩ M:=ao _ M S
theorem Uh{ds:List D}:W (nU (.tup ds)) M S=S ⟨none,fC ds⟩ M:=ao _ M S
theorem Uo{i j:Nat}{it:IP}:W (bz Γ (.forP i j it s1) ρ) M F=W (ky Γ it ρ) M fun s M1=>W (fv s.ck i j (aq Γ s1) s.ds ρ) M1 F:=by delta W;simp only[AF,av]
noncomputable def G3:MO->Bool
 |.lst ds=>!ds.isEmpty
 |.aO kvs=>!kvs.isEmpty
theorem Yx{k:Nat}:W (kx (.ob k)) M B=∃o,M[k]?=some o/\B (G3 o) M:=by
 show W (getM k >>= _) M B=_;rw[aG,kH];refine congrArg _ (funext fun o=>congrArg _ ?_);cases o <;> simp[G3,ao]
theorem XB{ds:List D}:G3 (.lst ds)=!ds.isEmpty:=rfl
theorem QN{ds:List D}{n:Nat}{d:D}(h:(fC ds)[n]?=some d):∃x,ds[n]?=some x/\d=.tup [.int n,x]:=by
 unfold fC at h;rw[wK]at h;obtain⟨x,h1,h2⟩:=zu.mp h;exact⟨x,h1,h2.symm⟩
theorem QM{ds:List D}:(fC ds).length=ds.length:=wU
theorem AZ{ck:Option (Nat×List D)}{i j:Nat}{body:Ev->Mo Fl}{ds:List D}(I:Nat->Ev->MH->Prop)(h0:I 0 ρ M)(hs:∀n ρ M,I n ρ M->ou ck M)
  (h:∀(n:Nat) (d:D) (ρ:Ev) (M:MH),ds[n]?=some d->I n ρ M->∃x y,d=.tup [x,y]/\W (body ((ρ.set i (some x)).set j (some y))) M (nO I F n))
  (q:∀ρ M,I ds.length ρ M->F (.nx ρ) M):W (fv ck i j body ds ρ) M F:=by
 suffices H:∀(r:List D) (n:Nat) (ρ:Ev) (M:MH),(∀j d,r[j]?=some d->ds[n+j]?=some d)->n+r.length=ds.length->I n ρ M->W (fv ck i j body r ρ) M F from
  H ds 0 ρ M (fun j d e=>by simpa using e) (by simp) h0
 intro r;induction r with
 |nil =>
  intro n ρ M _ hn hI;unfold fv;rw[aG];refine W.of (show cR ck M=some (.ok (),M) from if_pos (hs _ _ _ hI)) ?_;rw[ao]
  have:n=ds.length:=by simpa using hn
  exact q _ _ (this▸hI)
 |cons d r ih =>
  intro n ρ M hr hn hI;unfold fv;rw[aG];refine W.of (show cR ck M=some (.ok (),M) from if_pos (hs _ _ _ hI)) ?_;have hd:ds[n]?=some d:=by simpa using hr 0 d rfl
  have hr':∀j d',r[j]?=some d'->ds[n+1+j]?=some d':=fun j d' e=>by
   have:=hr (j+1) d' (by simpa using e)
   rwa [show n+(j+1)=n+1+j by omega]at this
  have hn':n+1+r.length=ds.length:=by rw[zE]at hn;first|lia|omega
  obtain⟨x,y,rfl,hw⟩:=h n d ρ M hd hI;rw[aG,fZ];refine⟨(x,y),rfl,?_⟩;rw[aG];refine hw.mono fun f M1 hf=>?_;cases f with
  |nx ρ'=>exact ih (n+1) ρ' M1 hr' hn' hf
  |ct ρ'=>exact ih (n+1) ρ' M1 hr' hn' hf
  |bk ρ'=>exact(ao _ _ _).mpr hf
  |rt v=>exact(ao _ _ _).mpr hf
end
end L3
namespace L3
open PySem
section
variable {Γ:Ctx}{ρ:Ev}{M:MH}{Q:D->MH->Prop}{d:D}{e:IE}{r:aE}{F:Fl->MH->Prop}{y o0 o1 o2 o3 o4 o5 o6 o7 o8 o9 fT iW l9 rQ Jx:Option D}
theorem v0_:W (ae Γ (.var 0) (some d::ρ)) M Q=Q d M:=by rw[cL];simp
theorem v1_:W (ae Γ (.var 1) (o0::some d::ρ)) M Q=Q d M:=by rw[cL];simp
theorem v2_:W (ae Γ (.var 2) (o0::o1::some d::ρ)) M Q=Q d M:=by rw[cL];simp
theorem v3_:W (ae Γ (.var 3) (o0::o1::o2::some d::ρ)) M Q=Q d M:=by rw[cL];simp
theorem v4_:W (ae Γ (.var 4) (o0::o1::o2::o3::some d::ρ)) M Q=Q d M:=by rw[cL];simp
theorem v5_:W (ae Γ (.var 5) (o0::o1::o2::o3::o4::some d::ρ)) M Q=Q d M:=by rw[cL];simp
theorem v6_:W (ae Γ (.var 6) (o0::o1::o2::o3::o4::o5::some d::ρ)) M Q=Q d M:=by rw[cL];simp
theorem v7_:W (ae Γ (.var 7) (o0::o1::o2::o3::o4::o5::o6::some d::ρ)) M Q=Q d M:=by rw[cL];simp
theorem v8_:W (ae Γ (.var 8) (o0::o1::o2::o3::o4::o5::o6::o7::some d::ρ)) M Q=Q d M:=by rw[cL];simp
theorem v9_:W (ae Γ (.var 9) (o0::o1::o2::o3::o4::o5::o6::o7::o8::some d::ρ)) M Q=Q d M:=by rw[cL];simp
theorem v10_:W (ae Γ (.var 10) (o0::o1::o2::o3::o4::o5::o6::o7::o8::o9::some d::ρ)) M Q=Q d M:=by rw[cL];simp
theorem v11_:W (ae Γ (.var 11) (o0::o1::o2::o3::o4::o5::o6::o7::o8::o9::fT::some d::ρ)) M Q=Q d M:=by rw[cL];simp
theorem v12_:W (ae Γ (.var 12) (o0::o1::o2::o3::o4::o5::o6::o7::o8::o9::fT::iW::some d::ρ)) M Q=Q d M:=by rw[cL];simp
theorem v13_:W (ae Γ (.var 13) (o0::o1::o2::o3::o4::o5::o6::o7::o8::o9::fT::iW::l9::some d::ρ)) M Q=Q d M:=by rw[cL];simp
theorem v14_:W (ae Γ (.var 14) (o0::o1::o2::o3::o4::o5::o6::o7::o8::o9::fT::iW::l9::rQ::some d::ρ)) M Q=Q d M:=by rw[cL];simp
theorem v15_:W (ae Γ (.var 15) (o0::o1::o2::o3::o4::o5::o6::o7::o8::o9::fT::iW::l9::rQ::Jx::some d::ρ)) M Q=Q d M:=by rw[cL];simp
theorem s0_:W (aq Γ (.cons (.set 0 e) r) (y::ρ)) M F=W (ae Γ e (y::ρ)) M fun x M1=>W (aq Γ r (some x::ρ)) M1 F:=by rw[cj,cK];rfl
theorem s1_:W (aq Γ (.cons (.set 1 e) r) (o0::y::ρ)) M F=W (ae Γ e (o0::y::ρ)) M fun x M1=>W (aq Γ r (o0::some x::ρ)) M1 F:=by rw[cj,cK];rfl
theorem s2_:W (aq Γ (.cons (.set 2 e) r) (o0::o1::y::ρ)) M F=W (ae Γ e (o0::o1::y::ρ)) M fun x M1=>W (aq Γ r (o0::o1::some x::ρ)) M1 F:=by rw[cj,cK];rfl
theorem s3_:W (aq Γ (.cons (.set 3 e) r) (o0::o1::o2::y::ρ)) M F=W (ae Γ e (o0::o1::o2::y::ρ)) M fun x M1=>W (aq Γ r (o0::o1::o2::some x::ρ)) M1 F:=by rw[cj,cK];rfl
theorem s4_:W (aq Γ (.cons (.set 4 e) r) (o0::o1::o2::o3::y::ρ)) M F=W (ae Γ e (o0::o1::o2::o3::y::ρ)) M fun x M1=>W (aq Γ r (o0::o1::o2::o3::some x::ρ)) M1 F:=by rw[cj,cK];rfl
theorem s5_:W (aq Γ (.cons (.set 5 e) r) (o0::o1::o2::o3::o4::y::ρ)) M F=W (ae Γ e (o0::o1::o2::o3::o4::y::ρ)) M fun x M1=>W (aq Γ r (o0::o1::o2::o3::o4::some x::ρ)) M1 F:=by rw[cj,cK];rfl
theorem s6_:W (aq Γ (.cons (.set 6 e) r) (o0::o1::o2::o3::o4::o5::y::ρ)) M F=W (ae Γ e (o0::o1::o2::o3::o4::o5::y::ρ)) M fun x M1=>W (aq Γ r (o0::o1::o2::o3::o4::o5::some x::ρ)) M1 F:=by rw[cj,cK];rfl
theorem s7_:W (aq Γ (.cons (.set 7 e) r) (o0::o1::o2::o3::o4::o5::o6::y::ρ)) M F=W (ae Γ e (o0::o1::o2::o3::o4::o5::o6::y::ρ)) M fun x M1=>W (aq Γ r (o0::o1::o2::o3::o4::o5::o6::some x::ρ)) M1 F:=by rw[cj,cK];rfl
theorem s8_:W (aq Γ (.cons (.set 8 e) r) (o0::o1::o2::o3::o4::o5::o6::o7::y::ρ)) M F=W (ae Γ e (o0::o1::o2::o3::o4::o5::o6::o7::y::ρ)) M fun x M1=>W (aq Γ r (o0::o1::o2::o3::o4::o5::o6::o7::some x::ρ)) M1 F:=by rw[cj,cK];rfl
theorem s9_:W (aq Γ (.cons (.set 9 e) r) (o0::o1::o2::o3::o4::o5::o6::o7::o8::y::ρ)) M F=W (ae Γ e (o0::o1::o2::o3::o4::o5::o6::o7::o8::y::ρ)) M fun x M1=>W (aq Γ r (o0::o1::o2::o3::o4::o5::o6::o7::o8::some x::ρ)) M1 F:=by rw[cj,cK];rfl
theorem s10_:W (aq Γ (.cons (.set 10 e) r) (o0::o1::o2::o3::o4::o5::o6::o7::o8::o9::y::ρ)) M F=W (ae Γ e (o0::o1::o2::o3::o4::o5::o6::o7::o8::o9::y::ρ)) M fun x M1=>W (aq Γ r (o0::o1::o2::o3::o4::o5::o6::o7::o8::o9::some x::ρ)) M1 F:=by rw[cj,cK];rfl
theorem s11_:W (aq Γ (.cons (.set 11 e) r) (o0::o1::o2::o3::o4::o5::o6::o7::o8::o9::fT::y::ρ)) M F=W (ae Γ e (o0::o1::o2::o3::o4::o5::o6::o7::o8::o9::fT::y::ρ)) M fun x M1=>W (aq Γ r (o0::o1::o2::o3::o4::o5::o6::o7::o8::o9::fT::some x::ρ)) M1 F:=by rw[cj,cK];rfl
theorem s12_:W (aq Γ (.cons (.set 12 e) r) (o0::o1::o2::o3::o4::o5::o6::o7::o8::o9::fT::iW::y::ρ)) M F=W (ae Γ e (o0::o1::o2::o3::o4::o5::o6::o7::o8::o9::fT::iW::y::ρ)) M fun x M1=>W (aq Γ r (o0::o1::o2::o3::o4::o5::o6::o7::o8::o9::fT::iW::some x::ρ)) M1 F:=by rw[cj,cK];rfl
theorem s13_:W (aq Γ (.cons (.set 13 e) r) (o0::o1::o2::o3::o4::o5::o6::o7::o8::o9::fT::iW::l9::y::ρ)) M F=W (ae Γ e (o0::o1::o2::o3::o4::o5::o6::o7::o8::o9::fT::iW::l9::y::ρ)) M fun x M1=>W (aq Γ r (o0::o1::o2::o3::o4::o5::o6::o7::o8::o9::fT::iW::l9::some x::ρ)) M1 F:=by rw[cj,cK];rfl
theorem s14_:W (aq Γ (.cons (.set 14 e) r) (o0::o1::o2::o3::o4::o5::o6::o7::o8::o9::fT::iW::l9::rQ::y::ρ)) M F=W (ae Γ e (o0::o1::o2::o3::o4::o5::o6::o7::o8::o9::fT::iW::l9::rQ::y::ρ)) M fun x M1=>W (aq Γ r (o0::o1::o2::o3::o4::o5::o6::o7::o8::o9::fT::iW::l9::rQ::some x::ρ)) M1 F:=by rw[cj,cK];rfl
theorem s15_:W (aq Γ (.cons (.set 15 e) r) (o0::o1::o2::o3::o4::o5::o6::o7::o8::o9::fT::iW::l9::rQ::Jx::y::ρ)) M F=W (ae Γ e (o0::o1::o2::o3::o4::o5::o6::o7::o8::o9::fT::iW::l9::rQ::Jx::y::ρ)) M fun x M1=>W (aq Γ r (o0::o1::o2::o3::o4::o5::o6::o7::o8::o9::fT::iW::l9::rQ::Jx::some x::ρ)) M1 F:=by rw[cj,cK];rfl
end
end L3
local macro_rules|`(tactic| walk_at $s:str)=>do
 unless s.getString=="wp"||s.getString=="ws" do Lean.Macro.throwUnsupported
 let a<-(("v0_ v1_ v2_ v3_ v4_ v5_ v6_ v7_ v8_ v9_ v10_ v11_ v12_ v13_ v14_ v15_ s0_ s1_ s2_ s3_ s4_ s5_ s6_ s7_ s8_ s9_ s10_ s11_ s12_ s13_ s14_ s15_".splitOn " ").toArray.map fun s=>Lean.mkIdent (`L3++s.toName)).mapM fun i=>`(Lean.Parser.Tactic.simpLemma| ↓ $i:ident)
 let b<-((("Yi XA Uu U2 Yj Yk Yh UJ XH Yg UI wp_seq Uq Ui Uh Uo Yx XB aG ao cL U9 Xx U4 U0 Vc Vf Vd Uz Vg U3 Va UZ U7 Ux Vb U1 UA Ve Uy SX Uv Uw UL UM U5 U8 U6 Um Ut SW Us Ur UN Uj Vj Vh Vi Vk Xy S7 SY VI VH VL VJ UQ cj cK SV Up UP Uk Ul UT US PJ UR Xd Xc Vy Vu Vw Vv Vx XR XS Yd Yc Ye XQ XO XW XY X9 Yb XX XU YE UD X7 X0 X8 L9 YD XZ UE Yo YR Yp Yq Yr YQ XD XE Yz Xr Xs Yv Xq VZ V0 mM VX VY V1 VW UH Ym YJ YI YG YF XM YC XN XJ XI YB Hq Td Vt Tw VR Rh Rg Zv Zu at2 Zt Zs k_all Yl Xv Xu Yw Xw Yy XC YS fZ c6 tH ju kH VU VV D.int.injEq D.bl.injEq D.ob.injEq MO.lst.injEq MO.aO.injEq".replace " PJ " (if s.getString=="wp" then " PJ " else " UO XF XG ")).splitOn " ").toArray.map fun s=>Lean.mkIdent (`L3++s.toName)).mapM fun i=>`(Lean.Parser.Tactic.simpLemma| $i:ident)
 let c<-(("List.getElem?_cons_zero List.getElem?_cons_succ List.set_cons_zero List.set_cons_succ Option.some.injEq exists_eq_left' List.map_cons List.map_nil List.cons_append List.nil_append List.replicate_succ List.replicate_zero List.length_cons List.length_nil true_and and_true Nat.reduceAdd Nat.reduceSub".splitOn " ").toArray.map fun s=>Lean.mkIdent s.toName).mapM fun i=>`(Lean.Parser.Tactic.simpLemma| $i:ident)
 let l:=a++b++c
 `(tactic| try simp only[$l,*])
local macro_rules|`(tactic| walk_at "wq")=>`(tactic| (walk_at "wp";try simp only[xV,vM,yn,wV,false_implies,true_implies,implies_true,true_and,and_true]))
local macro_rules|`(tactic| walk_at "wr")=>`(tactic| (walk_at "ws";try simp only[xV,vM,yn,wV,false_implies,true_implies,implies_true,true_and,and_true]))
local macro_rules|`(tactic| walk_at "o")=>`(tactic| first|decide|exact L3.UG (by decide)|with_reducible exact Int.add_nonneg (by assumption) (by decide)|with_reducible exact L3.Vo (by assumption) (by with_reducible decide)|lia|omega)
namespace L3
open PySem PySem.W PyProof.Rows
noncomputable def dh{α:Type}(lt:Nat->Nat->Option Bool)(t:KasT α)(P:α->Prop):Prop:=∃a,i9 lt t=some a/\P a
section
variable {lt:Nat->Nat->Option Bool}{n:Nat}
theorem dh.ret{α:Type}{a:α}{P:α->Prop}(h:P a):dh lt (.ret a) P:=⟨a,rfl,h⟩
theorem dh.ask{α:Type}{i j:Nat}{k:Bool->KasT α}{P:α->Prop}{b:Bool}(e:lt i j=some b)(h:dh lt (k b) P):dh lt (.ask i j k) P:=by
 obtain⟨a,h1,h2⟩:=h;exact⟨a,by unfold i9;rw[e];exact h1,h2⟩
theorem dh.bind{α β:Type}{f:α->KasT β}{P:α->Prop}{R:β->Prop}:∀{t:KasT α},dh lt t P->(∀a,P a->dh lt (f a) R)->dh lt (t.bind f) R
 |.ret a,⟨b,e,h⟩,g=>by cases e;exact g _ h
 |.ask i j k,⟨b,e,h⟩,g=>by
  unfold i9 at e;cases q:lt i j with
  |none=>rw[q]at e;cases e
  |some c =>
   rw[q]at e;exact dh.ask q (dh.bind ⟨b,e,h⟩ g)
noncomputable def Ord(n:Nat)(p:Array Nat):Prop:=p.toList.Perm (List.range n)
theorem Ord.below{p:Array Nat}(h:Ord n p)(hn:0<n)(i:Nat):p.getD i 0<n:=by
 by_cases hi:i<p.size
 ·have:p.getD i 0∈p.toList:=by
   rw[xY,yg hi];exact Array.getElem_mem_toList hi
  exact yk.mp (h.mem_iff.mp this)
 ·rw[xY,xm (by walk_at "o")]
  exact hn
theorem Ord.rev{p:Array Nat}(h:Ord n p)(i j:Nat):Ord n (kas_rev p i j):=(mirror_perm p i j _).toList.trans h
theorem Ord.Xh{p:Array Nat}(h:Ord n p)(i j:Nat):Ord n (bubble p i j):=(bubble_perm p i j).toList.trans h
variable (hl:∀i j,i<n->j<n->∃b,lt i j=some b)(hn:0<n)
include hl hn
theorem Ap{p:Array Nat}(h:Ord n p):∀(f m:Nat),dh lt (kas_asc p f m) fun _=>True
 |0,_=>.ret trivial
 |f+1,m=>by
  obtain⟨b,e⟩:=hl _ _ (h.below hn m) (h.below hn (m-1));refine dh.ask e ?_;cases b with
  |true=>exact .ret trivial
  |false=>exact Ap h f (m+1)
theorem nV:∀(f:Nat) {p:Array Nat} (m q:Nat),Ord n p->dh lt (kas_desc f p m q) fun r=>Ord n r.1
 |0,_,_,_,h=>.ret h
 |f+1,p,m,q,h=>by
  obtain⟨b,e⟩:=hl _ _ (h.below hn m) (h.below hn (m-1));refine dh.ask e ?_;cases b with
  |true =>
   show dh lt (if q > 0 then _ else _) _;split
   ·exact nV f _ _ (h.rev _ _)
   ·exact nV f _ _ h
  |false =>
   obtain⟨c,e2⟩:=hl _ _ (h.below hn (m-1)) (h.below hn m);refine dh.ask e2 ?_;cases c with
   |true=>exact .ret h
   |false=>exact nV f _ _ h
theorem tR{p:Array Nat}(h:Ord n p)(m r:Nat):dh lt (kas_tail3 m r p) fun r=>Ord n r.2 :=
 dh.bind (Ap hl hn (h.rev 0 m) _ _) fun _ _=>.ret (h.rev 0 m)
theorem oC{p:Array Nat}(h:Ord n p)(m r:Nat):dh lt (kas_descPart m r p) fun r=>Ord n r.2 :=
 dh.bind (nV hl hn _ _ _ h) fun a ha=>by
  split
  ·exact tR hl hn (ha.rev _ _) _ _
  ·exact tR hl hn ha _ _
theorem IB{p:Array Nat}(h:Ord n p)(r:Nat):dh lt (kas_count r p) fun r=>Ord n r.2 :=
 dh.bind (Ap hl hn h _ _) fun m _=>by
  split
  ·exact .ret h
  ·split
   ·obtain⟨b,e⟩:=hl _ _ (h.below hn 0) (h.below hn (m-1))
    refine dh.ask e ?_;cases b with
    |true=>exact .ret h
    |false=>exact oC hl hn (h.rev _ _) _ _
   ·exact oC hl hn h _ _
theorem oX{p:Array Nat}(h:Ord n p)(k:Nat):∀(f l r:Nat),dh lt (kas_place p k f l r) fun _=>True
 |0,_,_=>.ret trivial
 |f+1,l,r=>by
  unfold kas_place;split
  ·exact .ret trivial
  ·obtain⟨b,e⟩:=hl _ _ (h.below hn k) (h.below hn ((l+r) / 2))
   refine dh.ask e ?_;cases b with
   |true=>exact oX h k f _ _
   |false=>exact oX h k f _ _
theorem GJ:∀(f:Nat) {p:Array Nat} (k:Nat),Ord n p->dh lt (kas_bin f p k) fun r=>Ord n r
 |0,_,_,h=>.ret h
 |f+1,p,k,h=>dh.bind (oX hl hn h _ _ _ _) fun l _=>GJ f _ (h.Xh _ _)
theorem KO:dh lt (kas_sort n) fun r=>Ord n r :=
 dh.bind (IB hl hn (p:=(List.range n).toArray) (List.Perm.refl _) _) fun r h=>by
  split
  ·exact GJ hl hn _ _ h
  ·exact .ret h
end
theorem CO{ds:List D}(h:ds.length<64)(hf:ds.all dY=true\/ds.all dZ=true)(hl:∀i j,i<ds.length->j<ds.length->∃b,pz ds i j=some b):∃ys,sR ds=some ys/\ys.Perm ds:=by
 unfold sR;split
 ·exact⟨ds,rfl,List.Perm.refl _⟩
 ·rename_i h2
  have hc:(decide (ds.length<64)&&(ds.all dY||ds.all dZ))=true:=by
   rw[decide_eq_true h,yE,yU];exact hf
  rw[if_pos hc];obtain⟨p,e,ho⟩:=KO hl (by walk_at "o");rw[e];refine⟨_,rfl,?_⟩
  have:=ho.map fun i=>ds.getD i .non
  refine this.trans (List.Perm.of_eq ?_);apply vt;intro i;rw[zw];by_cases hi:i<ds.length
  ·rw[List.getElem?_range hi,zv hi]
   simp[zi,zv hi]
  ·rw[yZ (by rw[zZ];walk_at "o"),yZ (by walk_at "o")]
   rfl
theorem CU{ds:List D}(h:ds.length<64)(hf:ds.all dY=true\/ds.all dZ=true)(hl:∀i j,i<ds.length->j<ds.length->∃b,pz ds i j=some b):∃ys,dE ds=some ys/\ys.Perm ds:=by
 cases ds with
 |nil =>
  have e:=mz (xs:=[]) (by show 0<64;walk_at "o");have e2:a6 []=[]:=wc.mp (aP []).length_eq;rw[e2]at e;exact⟨[],e,.refl _⟩
 |cons d r =>
  have hn:pN (d::r)=none:=by
   have hd:CG d=none/\intD d=none:=by
    rcases hf with hf|hf <;> rw[zX,zl]at hf <;> cases d <;> first|exact⟨rfl,rfl⟩|exact absurd hf.1 zk
   simp only[pN,ie,allI,hd.1,hd.2]
  unfold dE;rw[hn];exact CO h hf hl
end L3
namespace L3
open PySem
noncomputable def jE(p:Str×Str):D:=.tup [.str p.1,.str p.2]
noncomputable def A0:D->Str×Str
 |.tup [.str a,.str b]=>(a,b)
 |_=>("","")
theorem UB(p:Str×Str):A0 (jE p)=p:=rfl
end L3
namespace L3
open PySem
theorem CN{ps:List (Str×Str)}(h:ps.length<64):∃qs:List (Str×Str),dE (ps.map jE)=some (qs.map jE)/\qs.Perm ps:=by
 obtain⟨ys,e,hp⟩:=CU (ds:=ps.map jE) (by rw[zz];exact h) (.inl (by rw[xJ,zS];exact fun p _=>rfl)) (fun i j hi hj=>by
  rw[zz]at hi hj;unfold pz;rw[zw,zw,zv hi,zv hj];show ∃b,lJ [.str ps[i].1,.str ps[i].2] [.str ps[j].1,.str ps[j].2]=some b;simp only[lJ,bV,Bool.and_self,if_true,Bx];split
  ·split <;> exact⟨_,rfl⟩
  ·exact⟨_,rfl⟩)
 have hy:∀y∈ys,jE (A0 y)=y:=fun y hy=>by
  obtain⟨p,_,rfl⟩:=zQ.mp (hp.mem_iff.mp hy);rfl
 refine⟨ys.map A0,?_,?_⟩
 ·rw[yp,e]
  congr 1
  have:ys.map (jE ∘ A0)=ys.map id:=xA fun y h=>hy y h
  rw[this,uz]
 ·have:=hp.map A0
  rw[yp]at this;have e2:ps.map (A0 ∘ jE)=ps.map id:=xA fun y h=>rfl;rw[e2,uz]at this;exact this
end L3
namespace Law
open PySem L3
noncomputable def gl(_:Str):Option D:=none
open Lean in
def pI(t:List String)(p:List Term×List Char)(c:Char):List Term×List Char :=
 let (l,a):=p
 let q:=c=='`'
 if a.isEmpty then
  if q then (l,[c]) else if c.isDigit then (quote (c.toNat-48)::l,a) else
  let j:=t.idxOf c.toString
  let k:=(t.getD (j+2) "").toNat!
  let x:Term:=⟨mkNode `Lean.Parser.Term.dotIdent #[mkAtom ".",mkIdent (.mkSimple (t.getD (j+1) ""))]⟩
  ((if k==0 then x else Syntax.mkApp x (l.take k).reverse.toArray)::l.drop k,a)
 else if q then
  let s:=String.ofList a.tail
  ((match a with
   |_::'#'::r=>quote (String.ofList r).toNat!
   |_::'~'::r=>quote ("_law_"++String.ofList r)
   |_=>quote s)::l,[])
 else (l,a++[c])
local macro_rules|`(tactic| walk_at $s:str)=>do
 unless s.getString.startsWith "!" do Lean.Macro.throwUnsupported
 `(tactic| exact $((s.getString.toList.tail.foldl (pI ("[ cons 2 ] nil 0 a var 1 b cint 1 c idx 2 d call 2 e ret 1 f cmp 3 g set 2 h bin 3 i cmp 1 j ifS 3 k Add 0 l blt 2 m cstr 1 n none 0 o tup 1 p seq 1 q cbl 1 r not 1 s tru 1 t len 0 u Eq 0 v some 1 w false 0 x lst 1 y or 2 z forS 3 A slc 3 B comp 4 C NotEq 0 D tuple 0 E mth 3 F isI 2 G expr 1 H rng1 1 I and 2 J NotIn 0 K true 0 L append 0 M In 0 N cnon 0 O Mult 0 P setIx 3 Q LtE 0 R Lt 0 S str 0 T sset 1 U neg 1 V Mod 0 W all 0 X extend 0 Y cmp2 5 Z Gt 0 ! dic0 0 # list 0 $ any 0 % forP 4 & strI 1 * Is 0 + IsNot 0 , dict1 0 . get 0 / rfs 1 : enum 1 ; rz 0 < GtE 0 = whileS 2 > ifE 3 ? join 0 @ sortL 1 ^ srtK 1 _ int 0 | bool 0".splitOn " ")) ([],[])).1.headD default))
noncomputable def jg:aE:=by walk_at "!$20apnu0a0bc2afB][le]["
noncomputable def jb:aE:=by walk_at "!20apu2a0bc1afi2a1bce][]j][z``me][["
noncomputable def nY:aE:=by walk_at "!20a0bcg30a1bcg40a2bcgu2a`is`mfiM`value_in`1a3a][[d4afe][]ju2a`no`mfiJ`value_in`1a3a][[d4afe][]ju2a`there`mfi`has_name`1a3a][[de][]j`has_name`1a3a][[dre][[[[[[["
noncomputable def iy:aE:=by walk_at "!W20apn`meets`0a2a][[dB][le]["
noncomputable def je:aE:=by walk_at "!10apn0a1bcBTe]["
noncomputable def eh:aE:=by walk_at "!2]xg30apu3a1bc1afiX2a3a2bc][EG][]j][z2aTe][[["
noncomputable def fE:aE:=by walk_at "!21a][xg340a6bc:X2a`places_from`4ak1a3a][oh][[d][EG][%2ae][[["
noncomputable def ic:aE:=by walk_at "!`places_from`0a]o][[de]["
noncomputable def fQ:aE:=by walk_at "!20ag31apQR0b3at2a6bc][lYir;][]j22a6bc3acg][[z2ae][[["
noncomputable def gF:aE:=by walk_at "!2]xg31apX2a`row_at`0a3a][[d0bc][EG][z2ae][[["
noncomputable def eo:aE:=by walk_at "!`askings_at`0a`places`0a][d1bvnA][[de]["
noncomputable def fD:aE:=by walk_at "!`values_beside``askings_below`0a][d1a][[de]["
noncomputable def fF:aE:=by walk_at "!`names_in``askings_below`0a][d][de]["
noncomputable def dG:aE:=by walk_at "!k`values_with`0a1a][[d``mN][[xhe]["
noncomputable def fG:aE:=by walk_at "!D10apC0a1bc``mfiv0aB][le]["
noncomputable def gE:aE:=by walk_at "!C0a]ofu1ant0a][lvA0afIe]["
noncomputable def gA:aE:=by walk_at "!u1a]ofiwqe][]j31an1bUvAgu3a2afiKqe][]jC2ant3a][lvA3afi<1a1bUc2at3a][lcfiywqe][]j`row_at`0a1a][[d1bcre][[[[["
noncomputable def nZ:aE:=by walk_at "!`lies_above`1a2a][[dsrwqe][]j4`marks_split`3a][dg$5`row_at`0a1a][[d0bcpn`has_name`4a0a1bc][[d`meets`0a5a][[drIB][le][[["
noncomputable def iz:aE:=by walk_at "!`takes_away`0a1a2a][[[dsrwqe][]j4`row_at`0a1a][[d0bcgW54apn`has_name`4a0a1bc][[dB][l`meets_all`4a`marks_split`3a][d][[dIe][[["
noncomputable def cY:aE:=by walk_at "!u2a0bc`split`mfi`bears_split`0a1a2a3a][[[[de][]jJ2a1bc`places`0a][dfiwqe][]ju2a0bc`fails`mfi`fails`0a2a1bc1a3a][[[[de][]j`is_caught`0a2a1bc1a3a][[[[de][[[["
noncomputable def cq:aE:=by walk_at "!42a1bcg`has_name`3a4a][[dsJ4a`names_asked`0a][dfiywqe][]jC52a2bcpn0a0bcB`values_to_split`0a4a][[dfiwqe][]jW52a2bcpn`bears_for`1a2a0a1bck4a5a0a0bc][[o][oh][[[[dB][le][[[["
noncomputable def oa:aE:=by walk_at "!`bears_for`0a1a2a]o][[[[de]["
noncomputable def cV:aE:=by walk_at "!2`places`0a][dp`lies_above`0a2a][[ds`takes_away`1a0a2a][[[dsyv0aBe]["
noncomputable def gB:aE:=by walk_at "!42ap`fails`0a4a1a3a][[[[ds`fails`m4a][[oe][]j`is_caught`0a4a1a3a][[[[ds`caught`m4a][[oe][]j][[zNe][["
noncomputable def eU:aE:=by walk_at "!10bgM1a&0afi1k1a1bhg][=1a&e][[["
noncomputable def gC:aE:=by walk_at "!2]xg3`marks_split`1a][dp4*3a1bcNfi`value_beside``values_with`0a3a0bc][[d][d3a1bc>gL2a3a0bc4a][[o][EG][[zD2a][le][[["
noncomputable def iw:aE:=by walk_at "!5`plain_case`0a1a2a4a][[[[dg+5aNfi`cases`m5a][[oe][]j3asr`marks`m`marks_told`0a4a][[d][[oe][]j6]xg7`values_to_split`0a3a0bc][[dp8`shown_for`0a1a2a3a1bvnAk4a3a0bc7a][[o][oh][[[[[dgu8a0bc`marks`mfi8ae][]jL6a7a8a1bc][[o][EG][[[z`cases`m`split`m3a0bcD6a][l][[[o][[oe][[[[[["
noncomputable def lj:aE:=by walk_at "!`row_at`0a1a][[dG2`places_that_matter`0a1a][[dg`shown_for`0a1a2a`names_in``askings_at`0a2a][[d][d]o][[[[[de][[["
noncomputable def gL:aE:=by walk_at "!2kOO1a1ah`#7919`bh`#11`bhgZt0a][l0bfi2k2a0aV1at0a][lhchg][]j2ae][[["
noncomputable def iC:aE:=by walk_at "!VVO`~mixed`0a1a][[d`#48271`bh`#2147483647`bh2ahe]["
noncomputable def gG:aE:=by walk_at "!4?``m98bHn3a`~pick`1ak2a0aht3a][l][[[dcB][Eg5`~pick`0ak1a8bh3b][[[dgu5a0bfi93aHn5ank0a1bhvABe][]j6`~pick`0ak1a9bh8b][[[dg7`~pick`0ak1a`#10`bht2a][l][[[dg8]xg93aH`#10`2aVk7a9aht2a][lhcgL8akk4an6avA`#10`ah4ak6a1bhvnAh][EG][[zu5a1bfi8ae][]j`#11`8apn0ank7a1bhvABe][[[[[[[[["
noncomputable def dB:aE:=by walk_at "!2`~words`0a1a`abcdefghijklmnopqrstuvwxyz`m6b][[[[dg3`~words`0ak1a`#11`bh`abcdefghijklmnopqrstuvwxyz0123456789`m4b][[[[dgu`~pick`0ak1a`#22`bh2b][[[d0bfi363apnk0a`0z9a`mhBg][]j4`~pick`0ak1a`#23`bh6b][[[dg2k2a4avnA2an4avAhg52an1b2b1b2b1b2b2b1b3b][[[[[[[[[x`~pick`0ak1a`#24`bh9b][[[dcvAg5a3an1b2b1b2b2b1b2b1b3b][[[[[[[[[x`~pick`0ak1a`#25`bh9b][[[dcvA2a3a3bc][[[[oe][[[[[[["
noncomputable def fJ:aE:=by walk_at "!32a0bc`~pick`0a1at2a0bc][l][[[dcg4`is`m`is`m`no`m`there`m`lacks`m][[[[[x`~pick`0ak1a1bh5b][[[dcgu4a`there`mfiu4a`lacks`mfiy4a3a]o][[[oe][]j5`~pick`0ak1a2bht2a1bc][l][[[dg6k2a1bc5avnA2a1bcn5avAhg4a3aD6ank1b`~pick`0ak1a3bht2a1bc][l][[[dhvA][l][[[oe][[[[[["
noncomputable def eV:aE:=by walk_at "!D42aHn`~asking`1ak2aO4b0ahh4a][[[dB][le]["
noncomputable def gK:aE:=by walk_at "!4]xg5k2a1bhH6k1aO`#16`b5ahhg7`~askings`0a6a0b1b1b2b1b1b3b][[[[[[[x`~pick`0ak6a`#12`bh7b][[[dc3a][[[[dg8`~pick`0ak6a`#13`bh6b][[[dg9k3a2bc8avnA3a2bcn8avAhn`~pick`0ak6a`#14`bh4b][[[dvAg`#10``#11`4apR0a2bc4bfiRt0a3bc][l5bfiIv0aBg`#11`7aD9a][l0b]xu`~pick`0ak6a`#15`bh3b][[[d0bf][[[[[xgZ5a0bfi`#12``#10`a1bU`~pick`0ak6a`#11`bht`#10`a][l][[[d][[x`~pick`0ak6a`#10`bh2b][[[dccg`#11`a2bk`#12`a2bc1bhPL`#12`a3bc5a][EG][[[]jL4a`#11`a][EG][[[[[[[[z4ae][[["
noncomputable def jh:aE:=by walk_at "!20a1acg2a0bc2a4bc2a1bck1b1ahkO2b1ah1bh]oD32a3bcpn`~row`1a0a][[dB][l][[[[[[[oe][["
noncomputable def iB:aE:=by walk_at "!4`~nodes`0a1a2a3a][[[[dg4a0bc0b`is`m3a2bc1bUc3a3bc][o][[[o][oP`~row`4a0b][[de][[["
noncomputable def gM:aE:=by walk_at "!3]xg4t2a2bc][lH5`~pick`0ak1a4ahkt2a1bc][l3bh][[[dgR5at2a1bc][lfiL3a2a2bc4ac2a1bc5ac][[o][EG][]ju5at2a1bc][lfiL3a2a2bc4ac2a3bc][[o][EG][]j][[[zD3a@][le][[["
noncomputable def ji:aE:=by walk_at "!u0a0bc`is`mfiM1a0a2bcfe][]ju0a0bc`no`mfiJ1a0a2bcfe][]juC1a``mfu0a0bc`there`mffe][[["
noncomputable def iD:aE:=by walk_at "!2,1a][lgu30ap`~met`0a.3a0a1bc``m][[E][[dsrv0aB]xfe][["
noncomputable def gI:aE:=by walk_at "!3]xg4wqg5t0a6bc][lH4asr`~lets`0a6bc5ac0bc1a][[dsI3k3a`~taken`0a6bc5ac1ak2a5a][oh][[[dhg40a6bc5ac1bcrg][[]j][zu3a]xfi2a][xe][]j3ae][[[[["
noncomputable def fH:aE:=by walk_at "!21a][xg3t0a6bc][lH2k2a`~places`0a6bc3ack1a3a][oh][[dhg][z2ae][[["
noncomputable def km:aE:=by walk_at "!21ap00a6bc2acg][z0ae][["
noncomputable def cu:aE:=by walk_at "!1!g2`~places`0a]o][[d1bvnAp3`~at`0a2a][[d0bcp1a3a1bck.1a3a1bc]x][[E#3a2bc][lhP][z][z4!g51a^p4a5ak1a5acT``mN][[xhP][z4ae][[[[["
noncomputable def gN:aE:=by walk_at "!3`~at`0a1a][[d0bcpM3a1bc2afi`~met`3a2a3a1bcc][[dsrIKqe][]j][zwqe][["
noncomputable def gH:aE:=by walk_at "!3`~at`0a1a][[d0bcpJ3a1bc2afi`~met`3a2a3a1bcc][[dsrywqe][]j][zKqe][["
noncomputable def dH:aE:=by walk_at "!24t`~at`0a1a][[d6bc][lHnk2a0a][ohBg3t1a][lH41a3acH`~at`0ak1an3avA4a][oh][[d1bcsrL2ak1an3avA4a][oh][EG][]j][z][z2ae][[["
noncomputable def aV:aE:=by walk_at "!u3a0bc`fails`mfiut3a1bc][l0bfiC3a1bc1ant3a1bc][lvAfiywqe][]j`~lower`0a3a1bc4a][[[de][[]ju3a0bc`caught`mfiM3a1bc`~in_the_way`0a1a][[df`~upper`0a3a1bc4a][[[dIe][]jM3a1bc4afiJ3a1bc2afiC83a2bcpn0a0bcB2a3a1bccfiyywqe][]j563a2bcp7,4a][lg7a3a1bc5aP`~bears`0a1a2a6a7a][[[[[dsrwqe][]j][[[%Kqe][[[[["
noncomputable def eB:aE:=by walk_at "!0aDFsrwqe][]ju10ap0a_Fsr0a|Fsyv0aB]xfe][["
noncomputable def b7:aE:=by walk_at "!0aDFsrRt0a][l2bfi0a0bcSFsryywqe][]ju0a0bc`fails`mfiu0a0bc`caught`mfiyut0a][l2bf`~is_place`0a1bc][dIe][]jC0a0bc`split`mfiCt0a][l3bfi0a1bcSFsr0a2bcDFsryyywqe][]j10a2bcp1aDFsrCt1a][l2bfi`~is_case`1a1bc][dsryywqe][]j+1a0bcNfi1a0bcSFsrIwqe][]j][[zKqe][[[[["
noncomputable def eC:aE:=by walk_at "!0aDFsrZt0a][l8bfiywqe][]j10ap1aDFsrCt1a][l2bfi1a0bcSFsryywqe][]j1a1bcSFsrQQ1bt1a0bc][l8bYirQQ1bt1a1bc][l`#12`bYiryywqe][]jC31a0bcpJ0a`abcdefghijklmnopqrstuvwxyz`mfiv0aB]xfiwqe][]jC31a1bcpJ0a`abcdefghijklmnopqrstuvwxyz0123456789`mfiv0aB]xfiwqe][]j][[[[z210apn0a0bcBgu2a2aTfe][[[["
noncomputable def gJ:aE:=by walk_at "!3`shown`0a1a][[dg3aDFsrCt3a][l2bfiywqe][]ju3a0bc`marks`mfi`~is_marks`3a1bc][dM1a`~taken`0a3a1bc]o][[[dfIe][]jC3a0bc`cases`mfi`~is_case`3a1bc][dsrywqe][]j`~bears`0a1a2a3a1bc!][[[[[d*`bears`0a1a3a1bc][[[dKqfIe][[[[["
noncomputable def fI:aE:=by walk_at "!u0a0bc`cases`mfi]xe][]j20a1bcpJ0a1bc2afiv0a1bcBe][["
noncomputable def d7:aE:=by walk_at "!5#2a1bc][lg6t5a][lH7`~others``shown`4a3a][[d5a][[dn1bvAp5a6a7aP4`~tree`0a`#28`b1a2a0bc#5a][l2a2bc2a3bc][[[[o][[[[dg`~right`4a3a`~splits`4a][d][[[dsrwqe][]j][[[z][zKqe][[["
noncomputable def kl:aE:=by walk_at "!1`~pool`0a0b][[dg21b2b3b4b5b3b2b4b9b][[[[[[[[[x`~pick`0a`#26`b9b][[[dcg3`~tree`0a`#28`b2a1a][[[[dg4`~tree`0a`#28`b2a1a][[[[dg5`~splits`4a][dg6`~marks`0a`#200`b1a][[[dg7`~taken`4a6a]o][[[dn2bvAp`~right`3a7a5a][[[dsrC`shown`3a7a][[d0bc`marks`mfiywqe][]j][z8`~places`4a]o][[dg78a`~pick`0a`#27`bt8a][l][[[dcg`~right`3a7a5a][[[dsrwqe][]j9k7akt`~at`4a7a][[d6bc][l`~pick`0a`#206`b2b][[[dh][ohg3a9a][[/sr3ak9a0b][oh][[/srC3a4afiyywqe][]j`#10`k`~taken`4a6a]o][[[dn1bvA7a][xhp`~with_told`0a2a1a`#10`a3a][[[[[dsrwqe][]j][zKqe][[[[[[[[[[[[[["
noncomputable def tab:List (Str×Fd):=[(("has_name":Str),⟨2,2,jg⟩),(("value_in":Str),⟨3,2,jb⟩),(("meets":Str),⟨5,2,nY⟩),(("meets_all":Str),⟨2,2,iy⟩),(("names_in":Str),⟨1,1,je⟩),(("values_beside":Str),⟨4,2,eh⟩),(("places_from":Str),⟨5,2,fE⟩),(("places":Str),⟨1,1,ic⟩),(("row_at":Str),⟨4,2,fQ⟩),(("askings_at":Str),⟨4,2,gF⟩),(("askings_below":Str),⟨1,1,eo⟩),(("values_with":Str),⟨2,2,fD⟩),(("names_asked":Str),⟨1,1,fF⟩),(("values_to_split":Str),⟨2,2,dG⟩),(("marks_split":Str),⟨1,1,fG⟩),(("lies_above":Str),⟨2,2,gE⟩),(("takes_away":Str),⟨4,3,gA⟩),(("fails":Str),⟨5,4,nZ⟩),(("is_caught":Str),⟨5,4,iz⟩),(("bears_for":Str),⟨4,4,cY⟩),(("bears_split":Str),⟨5,4,cq⟩),(("bears":Str),⟨3,3,oa⟩),(("places_that_matter":Str),⟨2,2,cV⟩),(("plain_case":Str),⟨5,4,gB⟩),(("value_beside":Str),⟨2,1,eU⟩),(("marks_told":Str),⟨5,2,gC⟩),(("shown_for":Str),⟨9,5,iw⟩),(("shown":Str),⟨3,2,lj⟩),(("_law_mixed":Str),⟨3,2,gL⟩),(("_law_pick":Str),⟨3,3,iC⟩),(("_law_words":Str),⟨11,4,gG⟩),(("_law_pool":Str),⟨6,2,dB⟩),(("_law_asking":Str),⟨7,3,fJ⟩),(("_law_askings":Str),⟨4,4,eV⟩),(("_law_nodes":Str),⟨13,4,gK⟩),(("_law_row":Str),⟨3,2,jh⟩),(("_law_tree":Str),⟨5,4,iB⟩),(("_law_marks":Str),⟨6,3,gM⟩),(("_law_met":Str),⟨2,2,ji⟩),(("_law_lets":Str),⟨3,2,iD⟩),(("_law_taken":Str),⟨6,3,gI⟩),(("_law_places":Str),⟨4,2,fH⟩),(("_law_at":Str),⟨3,2,km⟩),(("_law_splits":Str),⟨6,1,cu⟩),(("_law_lower":Str),⟨4,3,gN⟩),(("_law_upper":Str),⟨4,3,gH⟩),(("_law_in_the_way":Str),⟨5,2,dH⟩),(("_law_bears":Str),⟨8,5,aV⟩),(("_law_is_place":Str),⟨1,1,eB⟩),(("_law_is_case":Str),⟨2,1,b7⟩),(("_law_is_marks":Str),⟨3,1,eC⟩),(("_law_right":Str),⟨4,3,gJ⟩),(("_law_others":Str),⟨2,2,fI⟩),(("_law_with_told":Str),⟨8,5,d7⟩),(("law":Str),⟨11,1,kl⟩)]
section
variable {srt:List D->Option (List D)}
noncomputable abbrev cx(srt:List D->Option (List D)) (k:Nat):L3.Ctx:=cv tab gl srt 1000 k
theorem aA(x:Str)(n p:Nat)(b:aE)(h:tab.lookup x=some ⟨n,p,b⟩)(k:Nat)(xs:List D):(cx srt (k+1)).fn x xs=(do need (xs.length=p);oQ (cx srt k) n b xs:Mo D):=by
 show (match tab.lookup x with
  |some d=>(do need (xs.length=d.p);oQ (cx srt k) d.n d.b xs:Mo D)
  |none=>Mo.stop)=_
 rw[h]
theorem GX(k:Nat)(xs:List D)(M:MH):(cx srt (k+1)).rz "row_at" xs M=if xs.length=2 then cU (cx srt k) fQ (xs.map some++yq (4-xs.length) none) M else none:=rfl
theorem Kp(k:Nat)(xs:List D)(M:MH):(cx srt (k+1)).rz "shown" xs M=if xs.length=2 then cU (cx srt k) lj (xs.map some++yq (3-xs.length) none) M else none:=rfl
theorem SR(k:Nat):(cx srt (k+1)).rf=(cx srt k).rz "shown":=rfl
end
end Law
namespace Law
open PySem L3
section
variable {srt:List D->Option (List D)}
noncomputable def qS(sc:List Int)(i:Int):Int:=i*i*7919+11+(if sc.length > 0 then sc.getD (i % (sc.length:Int)).toNat 0 else 0)
noncomputable def bC(sc:List Int)(i m:Int):Int:=qS sc i*48271 % 2147483647 % m
theorem kR(sc:List Int)(i:Int){m:Int}(h:0<m):0<=bC sc i m:=vG _ (by walk_at "o")
theorem nB(sc:List Int)(i:Int){m:Int}(h:0<m):bC sc i m<m:=wW _ h
theorem bX(sc:List Int)(i:Int){m:Nat}(h:0<m):∃n:Nat,bC sc i m=n/\n<m:=by
 obtain⟨n,hn⟩:=yH (kR sc i (m:=(m:Int)) (by walk_at "o"))
 have:=nB sc i (m:=(m:Int)) (by walk_at "o")
 exact⟨n,hn,by walk_at "o"⟩
theorem Lv(k:Nat)(sc:List Int)(i:Int)(M:MH){Q:D->MH->Prop}(h0:0<=i)(h1:i<=100000)(q:Q (.int (qS sc i)) M):W ((cx srt (k+1)).fn "_law_mixed" [.fl (sc.map .int),.int i]) M Q:=by
 rw[aA "_law_mixed" 3 2 gL rfl,wf,gL];walk_at "wq";refine⟨.inl ⟨by walk_at "o",by walk_at "o"⟩,.inr ⟨by walk_at "o",by walk_at "o"⟩,fun h=>?_,fun h=>?_⟩
 ·rw[decide_eq_true_eq,zz]at h
  have hp:(0:Int)<(sc.length:Int):=by walk_at "o"
  obtain⟨n,hn⟩:∃n:Nat,i % (sc.length:Int)=n:=yH (vG _ (by walk_at "o"));have aS:n<sc.length:=by
   have:=wW i hp
   walk_at "o"
  refine⟨by rw[zz];walk_at "o",.int sc[n],?_,?_⟩
  ·rw[zz,hn]
   exact bB (by rw[zw,zv aS];rfl)
  ·walk_at "wq"
   have e:qS sc i=i*i*7919+11+sc[n]:=by
    unfold qS;rw[if_pos (by walk_at "o"),hn,zV,zi,zv aS];rfl
   rw[e]at q;exact q
 ·rw[decide_eq_false_iff_not,zz]at h
  have e:qS sc i=i*i*7919+11:=by
   unfold qS;rw[if_neg (by walk_at "o")];walk_at "o"
  rw[e]at q;exact q
theorem bL(k:Nat)(sc:List Int)(i m:Int)(M:MH){Q:D->MH->Prop}(h0:0<=i)(h1:i<=100000)(hm:0<m)(q:Q (.int (bC sc i m)) M):W ((cx srt (k+2)).fn "_law_pick" [.fl (sc.map .int),.int i,.int m]) M Q:=by
 rw[aA "_law_pick" 3 3 iC rfl,wf,iC];walk_at "wq";refine Lv k sc i M h0 h1 ?_;walk_at "wq";exact⟨.inr ⟨by walk_at "o",by walk_at "o"⟩,by walk_at "o",hm,q⟩
structure Words (sg:Str) (m:Nat) (ws:List Str):Prop where
 len:ws.length=m
 nd:ws.Nodup
 sz:∀w∈ws,1<=w.length/\w.length<=8
 ch:∀w∈ws,∀c∈w.cps.toList,c∈sg.cps.toList
noncomputable def dN(l:List Nat):Str:=⟨l.toArray⟩
theorem qR{a b:List Nat}(h:dN a=dN b):a=b:=by
 unfold dN at h;simpa using congrArg (fun s:Str=>s.cps.toList) h
theorem eS(a:List Nat):(dN a).length=a.length:=by simp[dN,Str.length]
theorem kY(a:List Nat):(dN a).cps.toList=a:=by simp[dN]
theorem DS(l:List Nat):ke "" (l.map fun c=>dN [c])=dN l:=by
 unfold ke dN;congr 2;have e:(("":Str)).cps.toList=[]:=rfl;rw[e,yp];induction l with
 |nil=>rfl
 |cons a r ih =>
  cases r with
  |nil=>rfl
  |cons b r=>
   show [a]++[]++glue [] _=_;rw[zO];exact congrArg (a::·) ih
theorem Ha(l:List Nat):((l.map fun c=>dN [c]).map (·.length)).sum=l.length:=by
 induction l with
 |nil=>rfl
 |cons a r ih =>
  simp only[zG,xC,zE];rw[ih,eS];simp;walk_at "o"
theorem KU{f a b n m:Nat}(hf:f<n)(hl:m<=n)(ha:a<m)(hb:b<m)(e:(f+a) % n=(f+b) % n):a=b:=by
 have hn:∀{a},a<m->¬ f+a<n->(f+a) % n=f+a-n:=fun {a} ha c=>by
  rw[Nat.mod_eq_sub_mod (wj c),xc (by walk_at "o")]
 by_cases c1:f+a<n <;> by_cases c2:f+b<n
 ·rw[xc c1,xc c2]at e;exact Nat.add_left_cancel e
 ·rw[xc c1,hn hb c2]at e;clear hn;walk_at "o"
 ·rw[xc c2,hn ha c1]at e;clear hn;walk_at "o"
 ·rw[hn ha c1,hn hb c2]at e;clear hn;walk_at "o"
theorem Lx{a n:Nat}(h:a<n):min a n+1+(n-(a+1))=n:=by
 rw[xw (xn h)];exact Nat.add_sub_of_le h
theorem AY(k:Nat)(sc:List Int)(i:Int)(sg:Str)(m:Nat)(M:MH){Q:D->MH->Prop}(h0:0<=i)(h1:i<=90000)(hm:m<=8)(N5:sg.cps.toList.Nodup)(hl:m<=sg.length)(Ww:0<sg.length)(Oa:sg.length<=1000)
  (q:∀(ws:List Str) (j:Nat) (M':MH),Words sg m ws->Gr M M'->M.length<=j->M'[j]?=some (.lst (ws.map .str))->Q (.ob j) M'):W ((cx srt (k+3)).fn "_law_words" [.fl (sc.map .int),.int i,.str sg,.int m]) M Q:=by
 have big:=aw;have MA:small 8:=⟨by walk_at "o",by walk_at "o"⟩;have EJ:small (m:Int):=⟨by walk_at "o",by walk_at "o"⟩;rw[aA "_law_words" 11 4 gG rfl,wf,gG];walk_at "wq";refine⟨MA,by rw[cJ];walk_at "o",?_⟩;refine bt (fun n ys M'=>M'=M/\∃l:List Nat,l.length=n/\(∀c∈l,c∈sg.cps.toList)/\ys=l.map fun c=>.str (dN [c])) ⟨rfl,[],rfl,by simp,rfl⟩ (fun _ _ _ _=>trivial) ?_ ?_
 ·rintro n d ys M' hd ⟨rfl,l,hl',hch,rfl⟩
  obtain⟨rfl,hn⟩:=di hd;walk_at "wq";refine⟨by walk_at "o",bL (k:=k) sc _ _ M' (by walk_at "o") (by walk_at "o") (by walk_at "o") ?_⟩;walk_at "wq";have a1:=kR sc (i+(0+(n:Int))) (show (0:Int)<(sg.length:Int) by walk_at "o");have a2:=nB sc (i+(0+(n:Int))) (show (0:Int)<(sg.length:Int) by walk_at "o");obtain⟨c,hc,WH⟩:=O5 (xs:=sg.cps.toList) a1 (by rw[i6];exact a2);refine⟨by walk_at "o",c,hc,l++[c],?_,fun x hx=>(zL.mp hx).elim (hch x) fun h=>by rw[zA.mp h];exact WH,?_⟩
  ·rw[zm,hl'];rfl
  ·rw[zo];rfl
 rintro ys M' ⟨rfl,l,hlen,hch,rfl⟩;rw[cJ]at hlen;have hlen:l.length=8:=by rw[hlen];rfl
 walk_at "wq";refine⟨_,ag _ _,l.map (fun c=>dN [c]),?_,?_,?_⟩
 ·rw[<- Ft,yp];rfl
 ·rw[Ha,zz,hlen]
  show 8+8*0<=_;walk_at "o"
 rw[DS];have hw:(dN l).length=8:=by rw[eS,hlen]
 generalize p9:M'++[MO.lst (l.map fun c=>D.str (dN [c]))]=M1;have g1:Gr M' M1:=p9▸Gr.app _ _;clear p9;refine bL (k:=k) sc _ _ M1 (by walk_at "o") (by walk_at "o") (by walk_at "o") ?_;walk_at "wq";refine⟨fun _=>⟨EJ,by rw[cJ];walk_at "o",?_⟩,fun _=>?_⟩
 ·refine bt (fun n ys M'=>M'=M1/\ys=((List.range n).map fun j=>D.str (dN (l.take (j+1))))) ⟨rfl,rfl⟩ (fun _ _ _ _=>trivial) ?_ ?_
  ·rintro n d ys M2 hd ⟨rfl,rfl⟩
   obtain⟨rfl,hn⟩:=di hd;walk_at "wq";refine⟨by walk_at "o",?_⟩;rw[cH _ (by walk_at "o"),kY,yV,zo]
   have:((0:Int)+(n:Int)+1).toNat=n+1:=by walk_at "o"
   rw[this];rfl
  ·rintro ys M2 ⟨rfl,rfl⟩
   rw[cJ];walk_at "wq";have e:((m:Int)-0).toNat=m:=by walk_at "o"
   rw[e];refine q ((List.range m).map fun j=>dN (l.take (j+1))) _ _ ⟨by rw[zz,zZ],?_,?_,?_⟩ (g1.snoc _) g1.len ?_
   ·refine gm fun a b ha hb he=>?_
    have:=congrArg List.length (qR he)
    rw[zD,zD,hlen,xw (zP ha hm),xw (zP hb hm)]at this;exact Nat.succ.inj this
   ·intro w hw'
    obtain⟨j,hj,rfl⟩:=zQ.mp hw'
    have:=yk.mp hj
    rw[eS,zD,hlen];exact⟨Nat.le_min.mpr ⟨wb (zM _),by decide⟩,wk _ _⟩
   ·intro w hw' c hc
    obtain⟨j,hj,rfl⟩:=zQ.mp hw';rw[kY]at hc;exact hch c (yv hc)
   ·rw[ag,yp];rfl
 ·refine bL (k:=k) sc _ _ M1 (by walk_at "o") (by walk_at "o") (by walk_at "o") ?_
  walk_at "wq";have a1:=kR sc (i+9) (show (0:Int)<8 by walk_at "o");have a2:=nB sc (i+9) (show (0:Int)<8 by walk_at "o");obtain⟨at_,jR⟩:∃n:Nat,bC sc (i+9) 8=n:=yH a1;rw[jR];have Il:at_<8:=by walk_at "o"
  have l8:8<=zg:=zP (by decide) big;have F8:at_<l.length:=hlen▸Il;have Ij:=(Lx F8).trans hlen;have Ie:=xw (xn F8);refine⟨by walk_at "o",bL (k:=k) sc _ _ M1 (by walk_at "o") (by walk_at "o") (by walk_at "o") ?_⟩;walk_at "wq";have f1:=kR sc (i+10) (show (0:Int)<(sg.length:Int) by walk_at "o");have f2:=nB sc (i+10) (show (0:Int)<(sg.length:Int) by walk_at "o");obtain⟨fst,Ol⟩:∃n:Nat,bC sc (i+10) sg.length=n:=yH f1;rw[Ol];rw[Ol]at f2;refine⟨by walk_at "o",EJ,?_⟩;have sgl:∀n:Nat,(fst+n) % sg.length<sg.cps.toList.length:=fun n=>by rw[i6];exact vK _ Ww
  have Q4:∀n:Nat,sg.cps.toList.getD ((fst+n) % sg.length) 0∈sg.cps.toList:=fun n=>by
   rw[zi,zv (sgl n)];exact yM _
  have w8:l.take at_++[sg.cps.toList.getD ((fst+0) % sg.length) 0]++l.drop (at_+1)≠[]:=by simp
  refine bw (fun n ρ M'=>Gr M1 M'/\M'[M1.length]?=some (.lst ((List.range n).map fun j=>D.str (dN (l.take at_++[sg.cps.toList.getD ((fst+j) % sg.length) 0]++l.drop (at_+1)))))/\∃x9 mm,ρ=[some (.fl (sc.map .int)),some (.int i),some (.str sg),some (.int m),some (.str (dN l)),some (.int (bC sc (i+8) 3)),some (.int at_),some (.int fst),some (.ob M1.length),x9,mm]) ⟨Gr.app _ _,ag _ _,none,none,rfl⟩ (fun _ _ _ _=>trivial) ?_ ?_
  ·rintro n d ρ M2 hd ⟨g2,hg,x9,mm,rfl⟩
   obtain⟨rfl,hn⟩:=di hd;walk_at "wq";have em:((fst:Int)+(0+(n:Int))) % (sg.length:Int)=(((fst+n) % sg.length:Nat):Int):=by
    rw[Int.natCast_emod];congr 1;walk_at "o"
   refine⟨by walk_at "o",by walk_at "o",by walk_at "o",sg.cps.toList[(fst+n) % sg.length]'(sgl n),?_,?_⟩
   ·rw[em]
    exact bB (zv (sgl n))
   unfold sgn;walk_at "wq";rw[cH _ (by walk_at "o"),jU _ (by walk_at "o"),kY,hg];have e1:(at_:Int).toNat=at_:=rfl;have e2:((at_:Int)+1).toNat=at_+1:=by walk_at "o"
   rw[e1,e2];have hn':n<m:=by walk_at "o"
   refine⟨_,rfl,by walk_at "o",?_,by walk_at "o",?_,?_⟩
   ·show (dN (l.take at_)).length+1<=_
    rw[eS,zD,Ie];exact zP Il l8
   ·rw[len_app]
    show (dN (l.take at_)).length+1+(dN (l.drop (at_+1))).length<=_;rw[eS,eS,zD,yh,Ij];exact l8
   refine⟨_,rfl,?_,g2.set (zp _) _,?_,⟨_,_,rfl⟩⟩
   ·rw[zz,zZ];walk_at "o"
   ·rw[bQ hg,yV,zo,zG,xI]
    have e3:sg.cps.toList.getD ((fst+n) % sg.length) 0=sg.cps.toList[(fst+n) % sg.length]'(sgl n):=by
     rw[zi,zv (sgl n)];rfl
    rw[e3];have e4:dN (l.take at_++[sg.cps.toList[(fst+n) % sg.length]'(sgl n)]++l.drop (at_+1))=(⟨(l.take at_).toArray⟩:Str)++(⟨#[sg.cps.toList[(fst+n) % sg.length]'(sgl n)]⟩:Str)++(⟨(l.drop (at_+1)).toArray⟩:Str):=by
     show _=(⟨((l.take at_).toArray++#[_])++(l.drop (at_+1)).toArray⟩:Str);unfold dN;simp
    rw[e4]
  ·rintro ρ M2 ⟨g2,hg,x9,mm,rfl⟩
   rw[cJ]at hg;have em:((m:Int)-0).toNat=m:=by walk_at "o"
   rw[em]at hg;have inj:∀a b,a<m->b<m->sg.cps.toList.getD ((fst+a) % sg.length) 0=sg.cps.toList.getD ((fst+b) % sg.length) 0->a=b:=fun a b ha hb he=>by
    rw[zi,zi,zv (sgl a),zv (sgl b)]at he;have e6:(fst+a) % sg.length=(fst+b) % sg.length:=(vi N5).mp he;exact KU (vY.mp f2) hl ha hb e6
   have NZ:∀(r:List Nat) (a b:Nat),a<m->b<m->l.take at_++[sg.cps.toList.getD ((fst+a) % sg.length) 0]++r=l.take at_++[sg.cps.toList.getD ((fst+b) % sg.length) 0]++r->a=b:=fun r a b ha hb he=>by
    rw[List.append_cancel_right_eq,List.append_cancel_left_eq]at he;exact inj a b ha hb (List.cons.inj he).1
   walk_at "wq";refine⟨fun _=>?_,fun _=>?_⟩
   ·refine q ((List.range m).map fun j=>dN (l.take at_++[sg.cps.toList.getD ((fst+j) % sg.length) 0]++l.drop (at_+1))) _ _ ⟨by rw[zz,zZ],?_,?_,?_⟩ (g1.trans g2) g1.len ?_
    ·exact gm fun a b ha hb he=>NZ _ a b ha hb (qR he)
    ·intro w hw'
     obtain⟨j,hj,rfl⟩:=zQ.mp hw';rw[eS,zm,zm,zD,yh,yY,Ij];exact⟨by decide,zp 8⟩
    ·intro w hw' c hc
     obtain⟨j,hj,rfl⟩:=zQ.mp hw';rw[kY]at hc;rcases zL.mp hc with h|h
     ·rcases zL.mp h with h|h
      ·exact hch c (yv h)
      ·rw[zA.mp h];exact Q4 j
     ·exact hch c (List.mem_of_mem_drop h)
    ·rw[hg,yp];rfl
   ·refine⟨_,hg,by rw[zz,zZ];walk_at "o",?_⟩
    refine bt (fun n ys M'=>M'=M2/\ys=((List.range n).map fun j=>D.str (dN (l.take at_++[sg.cps.toList.getD ((fst+j) % sg.length) 0])))) ⟨rfl,rfl⟩ (fun _ _ _ h=>by rw[h.1];exact hg) ?_ ?_
    ·rintro n d ys M3 hd ⟨rfl,rfl⟩
     rw[zw]at hd;obtain⟨j,hj,rfl⟩:=zu.mp hd;have Oe:j=n/\n<m:=by
      obtain⟨z1,z2⟩:=zn.mp hj;rw[zZ]at z1;rw[wu]at z2;exact⟨z2.symm,z1⟩
     obtain⟨rfl,RL⟩:=Oe;walk_at "wq";refine⟨?_,?_⟩
     ·rw[eS,zm,zm,zD,yh,yY,Ij]
      exact l8
     ·rw[cH _ (by walk_at "o"),kY,yV,zo]
      have e2:((at_:Int)+1).toNat=at_+1:=by walk_at "o"
      have e3:(l.take at_++[sg.cps.toList.getD ((fst+j) % sg.length) 0]++l.drop (at_+1)).take (at_+1)=l.take at_++[sg.cps.toList.getD ((fst+j) % sg.length) 0]:=by
       rw[List.take_left' (by rw[zm,zD,Ie];rfl)]
      rw[e2,e3];rfl
    ·rintro ys M3 ⟨rfl,rfl⟩
     rw[zz,zZ];walk_at "wq";refine q ((List.range m).map fun j=>dN (l.take at_++[sg.cps.toList.getD ((fst+j) % sg.length) 0])) _ _ ⟨by rw[zz,zZ],?_,?_,?_⟩ ((g1.trans g2).snoc _) (zP g1.len g2.len) ?_
     ·refine gm fun a b ha hb he=>NZ [] a b ha hb ?_
      rw[qR he]
     ·intro w hw'
      obtain⟨j,hj,rfl⟩:=zQ.mp hw';rw[eS,zm,zD,Ie];exact⟨wb (zM _),Il⟩
     ·intro w hw' c hc
      obtain⟨j,hj,rfl⟩:=zQ.mp hw';rw[kY]at hc;rcases zL.mp hc with h|h
      ·exact hch c (yv h)
      ·rw[zA.mp h];exact Q4 j
     ·rw[ag,yp];rfl
end
theorem IQ:(("abcdefghijklmnopqrstuvwxyz":Str)).cps.toList.Nodup:=by decide +kernel
theorem ng:(("abcdefghijklmnopqrstuvwxyz":Str)).length=26:=by decide +kernel
end Law
namespace Law
open PySem L3
section
variable {srt:List D->Option (List D)}
theorem IU:(("abcdefghijklmnopqrstuvwxyz0123456789":Str)).cps.toList.Nodup:=by decide +kernel
theorem nh:(("abcdefghijklmnopqrstuvwxyz0123456789":Str)).length=36:=by decide +kernel
theorem tQ:(("0z9a":Str)).length=4:=by decide +kernel
theorem L5{a b t:Str}(h:a++t=b++t):a=b:=by
 have e:a.cps++t.cps=b.cps++t.cps:=congrArg (fun s:Str=>s.cps) h
 have:=Array.append_left_inj t.cps |>.mp e
 cases a;cases b;exact congrArg Str.mk this
noncomputable def Av(x:Str):Prop:=(1<=x.length/\x.length<=8)/\∀c∈x.cps.toList,c∈(("abcdefghijklmnopqrstuvwxyz":Str)).cps.toList
noncomputable def iS(x:Str):Prop:=(1<=x.length/\x.length<=12)/\∀c∈x.cps.toList,c∈(("abcdefghijklmnopqrstuvwxyz0123456789":Str)).cps.toList
structure gO (M:MH) (d:D) (as vs ns:List Str) (ot:Str):Prop where
 is:∃ia iv iN:Nat,d=.tup [.ob ia,.ob iv,.ob iN,.str ot]/\M[ia]?=some (.lst (as.map .str))/\M[iv]?=some (.lst (vs.map .str))/\M[iN]?=some (.lst (ns.map .str))
 pre:∃n,as=ns.take n
 a1:1<=as.length
 a3:as.length<=3
 v1:1<=vs.length
 v3:vs.length<=3
 n6:ns.length=6
 nn:ns.Nodup
 nz:∀x∈ns,Av x
 vz:∀x∈vs++[ot],iS x
theorem gO.keep{M M':MH}{d:D}{as vs ns:List Str}{ot:Str}(P:gO M d as vs ns ot)(g:Gr M M'):gO M' d as vs ns ot:=by
 obtain⟨ia,iv,iN,h1,h2,h3,h4⟩:=P.is;exact { P with is:=⟨ia,iv,iN,h1,g.keep _ _ h2,g.keep _ _ h3,g.keep _ _ h4⟩ }
theorem nine(n:Nat)(h:n<9)(a b c d e f g i j:Int)(P:Int->Prop)(ha:P a)(hb:P b)(hc:P c)(hd:P d)(he:P e)(hf:P f)(hg:P g)(hi:P i)(hj:P j) :
  ∃r:Int,P r/\cz [D.int a,.int b,.int c,.int d,.int e,.int f,.int g,.int i,.int j] (n:Int)=some (.int r):=by
 have h9:n=0\/n=1\/n=2\/n=3\/n=4\/n=5\/n=6\/n=7\/n=8:=by walk_at "o"
 rcases h9 with rfl|rfl|rfl|rfl|rfl|rfl|rfl|rfl|rfl
 ·exact⟨a,ha,rfl⟩
 ·exact⟨b,hb,rfl⟩
 ·exact⟨c,hc,rfl⟩
 ·exact⟨d,hd,rfl⟩
 ·exact⟨e,he,rfl⟩
 ·exact⟨f,hf,rfl⟩
 ·exact⟨g,hg,rfl⟩
 ·exact⟨i,hi,rfl⟩
 ·exact⟨j,hj,rfl⟩
theorem MW(k:Nat)(sc:List Int)(M:MH){Q:D->MH->Prop}(q:∀(d:D) (as vs ns:List Str) (ot:Str) (M':MH),gO M' d as vs ns ot->Gr M M'->Q d M'):W ((cx srt (k+4)).fn "_law_pool" [.fl (sc.map .int),.int 0]) M Q:=by
 have big:=aw;rw[aA "_law_pool" 6 2 dB rfl,wf,ja 3 dB];generalize Wc:dr 3 dB=tl;simp only[dB,ki,kj];walk_at "wq";refine AY k sc 0 _ 6 M (by walk_at "o") (by walk_at "o") (by walk_at "o") IQ (by rw[ng];walk_at "o") (by rw[ng];walk_at "o") (by rw[ng];walk_at "o") fun ns jn M1 hn g1 _ Oe=>?_;walk_at "wq";refine AY k sc _ _ 4 M1 (by walk_at "o") (by walk_at "o") (by walk_at "o") IU (by rw[nh];walk_at "o") (by rw[nh];walk_at "o") (by rw[nh];walk_at "o") fun vs jv M2 hv g2 _ Od=>?_;walk_at "wq";refine bL (k:=k+1) sc _ _ M2 (by walk_at "o") (by walk_at "o") (by walk_at "o") ?_;walk_at "wq";have tail:∀(ws:List Str) (jw:Nat) (M3:MH),ws.length=4->ws.Nodup->(∀x∈ws,iS x)->Gr M2 M3->M3[jw]?=some (.lst (ws.map .str)) ->
   W (aq (cx srt (k+3)) tl [some (.fl (sc.map .int)),some (.int 0),some (.ob jn),some (.ob jw),none,none]) M3 (lU Q):=by
  intro ws jw M3 hl Za hsz g3 WA;rw[<- Wc];simp only[dB,mY,mZ];walk_at "wq";refine bL (k:=k+1) sc _ _ M3 (by walk_at "o") (by walk_at "o") (by walk_at "o") ?_;obtain⟨t,ht,Y6⟩:=bX sc (0+23) (m:=6) (by walk_at "o");rw[show ((6:Nat):Int)=6 from rfl]at ht;rw[ht];walk_at "wq";have h1:M3[jn]?=some (.lst (ns.map .str)):=g3.keep _ _ (g2.keep _ _ Oe);refine⟨_,h1,_,(Gr.app _ _).keep _ _ h1,?_⟩;rw[jU _ (by walk_at "o"),cH _ (by walk_at "o")];have et:(t:Int).toNat=t:=rfl;rw[et];refine⟨_,(Gr.app _ _).keep _ _ (ag _ _),_,ag _ _,?_,by walk_at "o",?_⟩
  ·rw[yh,zD,zz,hn.len];walk_at "o"
  rw[<- wQ,<- yd,<- zo];have p1:(ns.drop t++ns.take t).Perm ns:=wI.trans (List.Perm.of_eq (xP t ns));generalize ns.drop t++ns.take t=ns' at p1 ⊢;generalize Se:M3++[MO.lst (List.map D.str (ns.drop t))]++[MO.lst (List.map D.str (ns.take t))]=M4;have g4:Gr M3 M4:=Se▸(Gr.app _ _).snoc _;clear Se;refine bL (k:=k+1) sc _ _ _ (by walk_at "o") (by walk_at "o") (by walk_at "o") ?_;obtain⟨a,ha,WS⟩:=bX sc (0+24) (m:=9) (by walk_at "o");rw[show ((9:Nat):Int)=9 from rfl]at ha;rw[ha];walk_at "wq";refine⟨_,ag _ _,?_⟩;walk_at "wq";obtain⟨ra,⟨YZ,YY⟩,Wg⟩:=nine a WS 1 2 1 2 1 2 2 1 3 (fun r=>1<=r/\r<=3) (by walk_at "o") (by walk_at "o") (by walk_at "o") (by walk_at "o") (by walk_at "o") (by walk_at "o") (by walk_at "o") (by walk_at "o") (by walk_at "o");refine⟨_,Wg,?_⟩;walk_at "wq";refine⟨_,(Gr.app _ _).keep _ _ (ag _ _),by walk_at "o",?_⟩;rw[cH _ (by walk_at "o"),<- yd];have OE:(M4++[MO.lst (List.map D.str ns')])[M4.length]?=some (.lst (ns'.map .str)):=ag _ _;have g5:Gr M3 (M4++[MO.lst (List.map D.str ns')]):=g4.snoc _;generalize Zp:M4++[MO.lst (List.map D.str ns')]=M5 at OE g5 ⊢;generalize Oj:M4.length=iN at OE ⊢;have OH:(M5++[MO.lst [D.int 1,D.int 2,D.int 1,D.int 2,D.int 1,D.int 2,D.int 2,D.int 1,D.int 3]]++[MO.lst (List.map D.str (ns'.take ra.toNat))])[(M5++[MO.lst [D.int 1,D.int 2,D.int 1,D.int 2,D.int 1,D.int 2,D.int 2,D.int 1,D.int 3]]).length]?=some (.lst ((ns'.take ra.toNat).map .str)):=ag _ _;have g6:Gr M5 (M5++[MO.lst [D.int 1,D.int 2,D.int 1,D.int 2,D.int 1,D.int 2,D.int 2,D.int 1,D.int 3]]++[MO.lst (List.map D.str (ns'.take ra.toNat))]):=(Gr.app _ _).snoc _;generalize OF:M5++[MO.lst [D.int 1,D.int 2,D.int 1,D.int 2,D.int 1,D.int 2,D.int 2,D.int 1,D.int 3]]++[MO.lst (List.map D.str (ns'.take ra.toNat))]=M6 at OH g6 ⊢;generalize Zj:(M5++[MO.lst [D.int 1,D.int 2,D.int 1,D.int 2,D.int 1,D.int 2,D.int 2,D.int 1,D.int 3]]).length=iA at OH ⊢;refine bL (k:=k+1) sc _ _ _ (by walk_at "o") (by walk_at "o") (by walk_at "o") ?_;obtain⟨b,hb,WO⟩:=bX sc (0+25) (m:=9) (by walk_at "o");rw[show ((9:Nat):Int)=9 from rfl]at hb;rw[hb];walk_at "wq";refine⟨_,ag _ _,?_⟩;walk_at "wq";obtain⟨rb,⟨YX,YW⟩,u0⟩:=nine b WO 1 2 1 2 2 1 2 1 3 (fun r=>1<=r/\r<=3) (by walk_at "o") (by walk_at "o") (by walk_at "o") (by walk_at "o") (by walk_at "o") (by walk_at "o") (by walk_at "o") (by walk_at "o") (by walk_at "o");refine⟨_,u0,?_⟩;walk_at "wq";have Oc:=g6.keep _ _ (g5.keep _ _ WA);refine⟨_,(Gr.app _ _).keep _ _ Oc,_,(Gr.app _ _).keep _ _ ((Gr.app _ _).keep _ _ Oc),?_⟩;walk_at "wq";rw[cH _ (by walk_at "o"),<- yd];refine⟨.str (ws[3]'(by walk_at "o")),?_,by walk_at "o",?_⟩
  ·refine bB (j:=3) ?_
   rw[zw,zv (by walk_at "o")];rfl
  have mP:(ws.take rb.toNat++[ws[3]'(by walk_at "o")]).Sublist ws:=by
   have e:=xP rb.toNat ws;have h3:ws[3]'(by walk_at "o")∈ws.drop rb.toNat:=by
    rw[List.mem_drop_iff_getElem];exact⟨3-rb.toNat,by walk_at "o",by congr 1;walk_at "o"⟩
   conv=>rhs;rw[<- e]
   exact(List.Sublist.refl _).append (List.singleton_sublist.mpr h3)
  refine q _ (ns'.take ra.toNat) (ws.take rb.toNat) ns' (ws[3]'(by walk_at "o")) _ ⟨⟨iA,_,iN,rfl,?_,ag _ _,?_⟩,⟨_,rfl⟩,?_,?_,?_,?_,?_,?_,?_,?_⟩ ((((((g1.trans g2).trans g3).trans g5).trans g6).snoc _).snoc _)
  ·exact(Gr.app _ _).keep _ _ ((Gr.app _ _).keep _ _ OH)
  ·exact(Gr.app _ _).keep _ _ ((Gr.app _ _).keep _ _ (g6.keep _ _ OE))
  ·rw[zD,p1.length_eq,hn.len];walk_at "o"
  ·rw[zD];walk_at "o"
  ·rw[zD];walk_at "o"
  ·rw[zD];walk_at "o"
  ·rw[p1.length_eq,hn.len]
  ·exact p1.nodup_iff.mpr hn.nd
  ·exact fun x hx=>⟨hn.sz x (p1.mem_iff.mp hx),hn.ch x (p1.mem_iff.mp hx)⟩
  ·exact fun x hx=>hsz x (mP.subset hx)
 refine⟨fun _=>⟨_,Od,by rw[zz,hv.len];walk_at "o",?_⟩,fun _=>?_⟩
 ·refine bt (fun n ys M'=>M'=M2/\ys=((vs.take n).map fun x=>D.str (x++("0z9a":Str)))) ⟨rfl,rfl⟩ (fun _ _ _ h=>by rw[h.1];exact Od) ?_ ?_
  ·rintro n d ys M3 hd ⟨rfl,rfl⟩
   rw[zw]at hd;obtain⟨x,hx,rfl⟩:=zu.mp hd
   have:=hv.sz x (zx hx)
   walk_at "wq";refine⟨by rw[tQ];walk_at "o",?_⟩;rw[zR,hx];simp
  ·rintro ys M3 ⟨rfl,rfl⟩
   rw[zz,zN];walk_at "wq";refine tail (vs.map fun x=>x++("0z9a":Str)) M3.length (M3++[.lst (vs.map fun x=>D.str (x++("0z9a":Str)))]) (by rw[zz,hv.len]) ?_ ?_ (Gr.app _ _) (by rw[ag,yp];rfl)
   ·rw[List.Nodup,vn]
    exact hv.nd.imp fun h e=>h (L5 e)
   ·intro x hx
    obtain⟨y,hy,rfl⟩:=zQ.mp hx;have h1:=hv.sz y hy;refine⟨by rw[len_app,tQ];walk_at "o",fun c hc=>?_⟩;rw[show (y++("0z9a":Str)).cps.toList=y.cps.toList++("0z9a":Str).cps.toList from by show (y.cps++_).toList=_;simp]at hc;rcases zL.mp hc with h|h
    ·exact hv.ch y hy c h
    ·have:∀c∈("0z9a":Str).cps.toList,c∈(("abcdefghijklmnopqrstuvwxyz0123456789":Str)).cps.toList:=by decide +kernel
     exact this c h
 ·walk_at "wq"
  exact tail vs jv M2 hv.len hv.nd (fun x hx=>⟨by have:=hv.sz x hx;walk_at "o",hv.ch x hx⟩) Gr.refl Od
end
end Law
namespace Law
open PySem L3
section
variable {srt:List D->Option (List D)}
structure Ask where
 w:Str
 n:Str
 vs:List Str
noncomputable def bo(a:Ask):D:=.tup [.str a.w,.str a.n,.tup (a.vs.map .str)]
end
end Law
namespace Law
open PySem L3
section
variable {srt:List D->Option (List D)}
noncomputable def js:List Str:=["is","is","no","there","lacks"]
noncomputable def lW(sc:List Int)(i:Int)(as vs:List Str):Ask :=
 if js.getD (bC sc (i+1) 5).toNat "" = "there"\/js.getD (bC sc (i+1) 5).toNat "" = "lacks" then ⟨js.getD (bC sc (i+1) 5).toNat "",as.getD (bC sc i as.length).toNat "",[]⟩
 else ⟨js.getD (bC sc (i+1) 5).toNat "",as.getD (bC sc i as.length).toNat "",(vs.drop (bC sc (i+2) vs.length).toNat++vs.take (bC sc (i+2) vs.length).toNat).take (1+bC sc (i+3) vs.length).toNat⟩
structure eD (a:Ask) (as vs:List Str):Prop where
 n:a.n∈as
 v:∀v∈a.vs,v∈vs
 l:a.vs.length<=3
theorem tY{xs:List Str}{n:Nat}(h:n<xs.length):cz (xs.map D.str) (n:Int)=some (.str (xs.getD n "")):=bB (by rw[zw,zv h,zi,zv h];rfl)
theorem II(k:Nat)(sc:List Int)(i:Int)(M:MH){d:D}{as vs ns:List Str}{ot:Str}(P:gO M d as vs ns ot){Q:D->MH->Prop}(h0:0<=i)(h1:i<=90000)(q:∀(M':MH),eD (lW sc i as vs) as vs->Gr M M'->Q (bo (lW sc i as vs)) M'):W ((cx srt (k+3)).fn "_law_asking" [.fl (sc.map .int),.int i,d]) M Q:=by
 have big:=aw;obtain⟨ia,iv,iN,rfl,h2,h3,h4⟩:=P.is
 have:=P.a1
 have:=P.v1
 have:=P.v3
 obtain⟨n,hn,aS⟩:=bX sc i (m:=as.length) (by walk_at "o");obtain⟨w,hw,V4⟩:=bX sc (i+1) (m:=5) (by walk_at "o");rw[show ((5:Nat):Int)=5 from rfl]at hw;obtain⟨f,hf,YN⟩:=bX sc (i+2) (m:=vs.length) (by walk_at "o");obtain⟨m,hm,YL⟩:=bX sc (i+3) (m:=vs.length) (by walk_at "o");unfold lW at q;rw[hn,hw,hf,hm,zV,zV,zV]at q;have oA:as.getD n ""∈as:=by rw[zi,zv aS];exact yM aS
 have Ru:cz (js.map D.str) (w:Int)=some (.str (js.getD w "")):=tY V4;have hnm':cz (as.map D.str) (n:Int)=some (.str (as.getD n "")):=tY aS;generalize js.getD w "" = r at q Ru;generalize as.getD n "" = nm at q oA hnm';rw[aA "_law_asking" 7 3 fJ rfl,wf,fJ];walk_at "wq";refine⟨_,h2,?_⟩;rw[mM,zz];refine bL (k:=k) sc _ _ M (by walk_at "o") (by walk_at "o") (by walk_at "o") ?_;rw[hn];walk_at "wq";refine⟨_,h2,?_⟩;walk_at "wq";refine⟨_,hnm',by walk_at "o",bL (k:=k) sc _ _ _ (by walk_at "o") (by walk_at "o") (by walk_at "o") ?_⟩;walk_at "wq";refine⟨_,ag _ _,?_⟩;rw[hw];walk_at "wq";refine⟨_,Ru,?_⟩;walk_at "wq";generalize p9:M++[MO.lst [D.str "is",.str "is",.str "no",.str "there",.str "lacks"]]=M1;have g1:Gr M M1:=p9▸Gr.app _ _;clear p9;have bare:(r = "there"\/r = "lacks")->Q (.tup [.str r,.str nm,.tup []]) M1:=fun h=>by
  have q:=q M1;rw[if_pos h]at q;exact q ⟨oA,fun v h=>(by cases h),zM _⟩ g1
 refine⟨fun h=>⟨by walk_at "o",by walk_at "o",bare (.inl (beq_iff_eq.mp h))⟩,fun h5=>⟨fun h=>⟨by walk_at "o",by walk_at "o",bare (.inr (beq_iff_eq.mp h))⟩,fun h6=>?_⟩⟩;have hr':¬ (r = "there"\/r = "lacks"):=fun z=>z.elim (ne_of_beq_false h5) (ne_of_beq_false h6);have h3':=g1.keep _ _ h3;refine⟨_,h3',?_⟩;rw[mM,zz];refine bL (k:=k) sc _ _ _ (by walk_at "o") (by walk_at "o") (by walk_at "o") ?_;rw[hf];walk_at "wq";refine⟨_,h3',_,(Gr.app _ _).keep _ _ h3',?_⟩;rw[jU _ (by walk_at "o"),cH _ (by walk_at "o")];have et:(f:Int).toNat=f:=rfl;rw[et];refine⟨_,(Gr.app _ _).keep _ _ (ag _ _),_,ag _ _,?_,?_⟩
 ·rw[yh,zD,zz];walk_at "o"
 rw[<- wQ,<- yd,<- zo];have p1:(vs.drop f++vs.take f).Perm vs:=wI.trans (List.Perm.of_eq (xP f vs));generalize vs.drop f++vs.take f=vs' at p1 q ⊢;generalize J0:M1++[MO.lst (List.map D.str (vs.drop f))]++[MO.lst (List.map D.str (vs.take f))]=M2;have g2:Gr M1 M2:=J0▸(Gr.app _ _).snoc _;clear J0;refine⟨_,(g2.snoc _).keep _ _ h3',?_⟩;rw[mM,zz];refine bL (k:=k) sc _ _ _ (by walk_at "o") (by walk_at "o") (by walk_at "o") ?_;rw[hm];walk_at "wq";refine⟨_,ag _ _,_,ag _ _,by walk_at "o",?_⟩;rw[cH _ (by walk_at "o"),<- yd];have hl:=p1.length_eq;have q:=q (M2++[MO.lst (List.map D.str vs')]++[MO.lst (List.map D.str (vs'.take (1+(m:Int)).toNat))]);rw[if_neg hr']at q;refine q ⟨oA,fun v hv=>p1.mem_iff.mp (yv hv),?_⟩ (((g1.trans g2).snoc _).snoc _);show (vs'.take _).length<=3;rw[zD];walk_at "o"
theorem GN(k:Nat)(sc:List Int)(i:Int)(m:Nat)(M:MH){d:D}{as vs ns:List Str}{ot:Str}(P:gO M d as vs ns ot){Q:D->MH->Prop}(h0:0<=i)(h1:i<=80000)(hm:m<=100)
  (q:∀M',(∀a∈(List.range m).map (fun (j:Nat)=>lW sc (i+4*(j:Int)) as vs),eD a as vs)->Gr M M'->Q (.tup (((List.range m).map fun (j:Nat)=>lW sc (i+4*(j:Int)) as vs).map bo)) M'):W ((cx srt (k+4)).fn "_law_askings" [.fl (sc.map .int),.int i,.int m,d]) M Q:=by
 have big:=aw;rw[aA "_law_askings" 4 4 eV rfl,wf,eV];walk_at "wq";refine⟨⟨by walk_at "o",by walk_at "o"⟩,by rw[cJ];walk_at "o",?_⟩;refine bt (fun n ys M'=>Gr M M'/\(∀a∈(List.range n).map (fun (j:Nat)=>lW sc (i+4*(j:Int)) as vs),eD a as vs)/\ys=((List.range n).map fun (j:Nat)=>lW sc (i+4*(j:Int)) as vs).map bo) ⟨Gr.refl,(fun a h=>by cases h),rfl⟩ (fun _ _ _ _=>trivial) ?_ ?_
 ·rintro n d' ys M' hd ⟨g,hin,rfl⟩
  obtain⟨rfl,hn⟩:=di hd;walk_at "wq";refine⟨.inl ⟨by walk_at "o",by walk_at "o"⟩,?_⟩;refine II k sc _ M' (P.keep g) (by walk_at "o") (by walk_at "o") fun M2 ha g2=>?_;rw[show i+4*(0+(n:Int))=i+4*(n:Int) by walk_at "o"]at ha ⊢;refine⟨g.trans g2,fun a h=>?_,by rw[yV,zo,zo];rfl⟩;rw[yV,zo]at h;rcases zL.mp h with h|h
  ·exact hin a h
  ·rw[zA.mp h];exact ha
 ·rintro ys M' ⟨g,hin,rfl⟩
  rw[cJ]at hin ⊢;rw[show (((m:Nat):Int)-0).toNat=m by walk_at "o"]at hin ⊢;walk_at "wq";exact⟨_,ag _ _,q _ hin (g.snoc _)⟩
end
end Law
namespace Law
open PySem L3
section
variable {srt:List D->Option (List D)}
inductive Tr where
 |mk (xs:List Ask) (on:Bool) (b:List Str) (p r:Int) (rows:List Tr)
mutual
noncomputable def ar:Tr->D
 |.mk xs on b p r rows=>.tup [.tup (xs.map bo),.bl on,.tup (b.map .str),.int p,.int r,.tup [],.tup (Cv rows)]
noncomputable def Cv:List Tr->List D
 |[]=>[]
 |t::ts=>ar t::Cv ts
end
theorem kI:∀ts:List Tr,Cv ts=ts.map ar
 |[]=>rfl
 |t::ts=>by rw[Cv,kI ts];rfl
noncomputable def bj:Tr->List Ask
 |.mk xs _ _ _ _ _=>xs
noncomputable def ay:Tr->List Tr
 |.mk _ _ _ _ _ rows=>rows
theorem dn(t:Tr):∃b c p r,ar t=.tup [.tup ((bj t).map bo),b,c,p,r,.tup [],.tup ((ay t).map ar)]:=by
 cases t with
 |mk xs on b p r rows=>exact⟨_,_,_,_,by rw[ar,kI];rfl⟩
noncomputable def ai(p:List Int):D:=.tup (p.map .int)
noncomputable def aW(as vs:List Str):Nat->Tr->Prop
 |0,_=>False
 |n+1,t=>(ay t).length<=5/\∀s∈ay t,((bj s).length<=3/\∀a∈bj s,eD a as vs)/\aW as vs n s
noncomputable def m7:Nat->Nat
 |0=>0
 |n+1=>1+5*m7 n
noncomputable def eJ(rec:Tr->List Int->List (List Int))(p:List Int):Nat->List Tr->List (List Int)
 |_,[]=>[]
 |k,s::ss=>rec s (p++[(k:Int)])++eJ rec p (k+1) ss
noncomputable def cW:Nat->Tr->List Int->List (List Int)
 |0,_,_=>[]
 |n+1,t,p=>p::eJ (cW n) p 0 (ay t)
theorem uD{rec:Tr->List Int->List (List Int)}{p:List Int}{B:Nat}:∀(ts:List Tr) (k:Nat),(∀t∈ts,∀p',(rec t p').length<=B)->(eJ rec p k ts).length<=ts.length*B
 |[],_,_=>zM _
 |t::ts,k,h=>by
  have h1:=h t zJ (p++[(k:Int)]);have h2:=uD (rec:=rec) (p:=p) ts (k+1) fun s hs=>h s (zI _ hs);rw[eJ,zm,zE,vm];walk_at "o"
variable {as vs:List Str}
theorem nA:∀(n:Nat) (t:Tr) (p:List Int),aW as vs n t->(cW n t p).length<=m7 n
 |0,_,_,h=>h.elim
 |n+1,t,p,h=>by
  have:=uD (rec:=cW n) (p:=p) (B:=m7 n) (ay t) 0 fun s hs p'=>nA n s p' (h.2 s hs).2
  have h5:=xv (m7 n) h.1;rw[cW,zE,m7];walk_at "o"
theorem rP{rec:Tr->List Int->List (List Int)}{p:List Int}{ts:List Tr}{m:Nat}{s:Tr}(h:ts[m]?=some s):eJ rec p m (ts.drop m)=rec s (p++[(m:Int)])++eJ rec p (m+1) (ts.drop (m+1)):=by
 obtain⟨aS,e⟩:=zn.mp h;rw[ym aS,e,eJ]
theorem jF:∀(n k:Nat) (M:MH) (t:Tr) (p:List Int),aW as vs n t->n<=5->p.length+n<=100->∀{Q:D->MH->Prop} (_:∀(j:Nat) (M':MH),Gr M M'->M.length<=j->M'[j]?=some (.lst ((cW n t p).map ai))->Q (.ob j) M'),
  W ((cx srt (k+n)).fn "places_from" [ar t,ai p]) M Q
 |0,_,_,_,_,h,_,_,_,_=>h.elim
 |n+1,k,M,t,p,fit,RD,Rz,Q,q=>by
  have big:=aw;obtain⟨sa,hfit⟩:=id fit;obtain⟨eb,ec,ep,er,et⟩:=dn t;have Oz:m7 n<=156:=by
   have:n<=4:=by walk_at "o"
   rcases n with _|_|_|_|_|n <;> first|decide|walk_at "o"
  have B5:∀s∈ay t,∀p',(cW n s p').length<=156:=fun s hs p'=>zP (nA n s p' (hfit s hs).2) Oz;rw[show k+(n+1)=k+n+1 by walk_at "o",aA "places_from" 5 2 fE rfl,wf,fE];walk_at "wq";refine⟨by walk_at "o",?_⟩;rw[et];walk_at "wq";rw[<- et];have e0:([ai p]:List D)=([p]:List (List Int)).map ai:=rfl;rw[e0];refine AZ (fun m ρ M'=>Gr M M'/\(∃acc:List (List Int),M'[M.length]?=some (.lst (acc.map ai))/\cW (n+1) t p=acc++eJ (cW n) p m ((ay t).drop m)/\acc.length<=1+m*156) /\
   ∃x3 x4,ρ=[some (ar t),some (ai p),some (.ob M.length),x3,x4]) ⟨Gr.app _ _,⟨[p],ag _ _,rfl,zp _⟩,_,_,rfl⟩ (fun _ _ _ _=>trivial) ?_ ?_
  ·rintro m d ρ M1 hd ⟨g1,⟨acc,h1,e1,l1⟩,x3,x4,rfl⟩
   obtain⟨x,hx,rfl⟩:=QN hd;rw[zw]at hx;obtain⟨s,hs,rfl⟩:=zu.mp hx;have aS:=aD hs;have p0:=zx hs;rw[rP hs]at e1;refine⟨_,_,rfl,?_⟩;have mW:D.tup (p.map D.int++[D.int m])=ai (p++[(m:Int)]):=by unfold ai;rw[zo];rfl
   have ep:ai p=.tup (p.map .int):=rfl;rw[ep];walk_at "wq";refine⟨_,h1,by walk_at "o",by rw[zz];show _+1<=_;walk_at "o",?_⟩;rw[mW];refine jF n k M1 s (p++[(m:Int)]) (hfit s p0).2 (by walk_at "o") (by rw[zm];show _+1+_<=_;walk_at "o") fun j M3 g3 hj h3=>?_;have g3':=g1.trans g3;have J2:=g3.keep _ _ h1;have l3:=B5 s p0 (p++[(m:Int)]);have WB:M.length<M1.length:=aD h1;walk_at "wq";refine⟨_,h3,_,J2,⟨by rw[zz,zz];walk_at "o",by simp;walk_at "o"⟩,?_⟩;generalize cW n s (p++[(m:Int)])=T at e1 l3 ⊢;refine⟨g3'.set (zp _) _,⟨acc++T,?_,by rw[e1,yz],by rw[zm];walk_at "o"⟩,_,_,rfl⟩;rw[zo];exact bQ J2
  ·rintro ρ M1 ⟨g1,⟨acc,h1,e1,l1⟩,x3,x4,rfl⟩
   rw[QM,zz,yB,eJ,zO]at e1;walk_at "wq";exact q _ _ g1 (zp _) (by rw[e1];exact h1)
theorem kE:∀(n k:Nat) (M:MH) (t:Tr) (p:List Int),aW as vs n t->n<=5->p.length+n<=100->∀{Q:D->MH->Prop} (_:∀(j:Nat) (M':MH),Gr M M'->M.length<=j->M'[j]?=some (.lst ((cW n t p).map ai))->Q (.ob j) M'),
  W ((cx srt (k+n)).fn "_law_places" [ar t,ai p]) M Q
 |0,_,_,_,_,h,_,_,_,_=>h.elim
 |n+1,k,M,t,p,fit,RD,Rz,Q,q=>by
  have big:=aw;obtain⟨sa,hfit⟩:=id fit;obtain⟨eb,ec,ep,er,et⟩:=dn t;have Oz:m7 n<=156:=by
   have:n<=4:=by walk_at "o"
   rcases n with _|_|_|_|_|n <;> first|decide|walk_at "o"
  have B5:∀s∈ay t,∀p',(cW n s p').length<=156:=fun s hs p'=>zP (nA n s p' (hfit s hs).2) Oz;rw[show k+(n+1)=k+n+1 by walk_at "o",aA "_law_places" 4 2 fH rfl,wf,fH];walk_at "wq";refine⟨by walk_at "o",?_⟩;rw[et];walk_at "wq";rw[<- et];have e0:([ai p]:List D)=([p]:List (List Int)).map ai:=rfl;rw[e0];refine⟨⟨by walk_at "o",by rw[zz];walk_at "o"⟩,?_⟩;refine bw (fun m ρ M'=>Gr M M'/\∃(jf:Nat) (acc:List (List Int)),M.length<=jf/\M'[jf]?=some (.lst (acc.map ai))/\cW (n+1) t p=acc++eJ (cW n) p m ((ay t).drop m)/\acc.length<=1+m*156 /\
   ∃x3,ρ=[some (ar t),some (ai p),some (.ob jf),x3]) ⟨Gr.app _ _,M.length,[p],zp _,ag _ _,rfl,zp _,_,rfl⟩ (fun _ _ _ _=>trivial) ?_ ?_
  ·rintro m d ρ M1 hd ⟨g1,jf,acc,Of,h1,e1,l1,x3,rfl⟩
   obtain⟨rfl,hm⟩:=di hd;rw[zz]at hm;have aS:m<(ay t).length:=by walk_at "o"
   have hs:=zv aS;generalize (ay t)[m]=s at hs;have p0:=zx hs;rw[rP hs]at e1;have mW:D.tup (p.map D.int++[D.int (m:Int)])=ai (p++[(m:Int)]):=by unfold ai;rw[zo];rfl
   have ep:ai p=.tup (p.map .int):=rfl;rw[ep,xu];rw[et];walk_at "wq";rw[<- et];refine⟨_,bB (by rw[zw,hs];rfl),by walk_at "o",by rw[zz];walk_at "o",?_⟩;rw[mW];refine kE n k M1 s (p++[(m:Int)]) (hfit s p0).2 (by walk_at "o") (by rw[zm];show _+1+_<=_;walk_at "o") fun j M3 g3 hj h3=>?_;have g3':=g1.trans g3;have J2:=g3.keep _ _ h1;have l3:=B5 s p0 (p++[(m:Int)]);walk_at "wq";refine⟨_,J2,_,h3,by rw[zz,zz];walk_at "o",?_⟩;generalize cW n s (p++[(m:Int)])=T at e1 l3 h3 ⊢;refine⟨g3'.snoc _,_,acc++T,g3'.len,by rw[zo];exact ag _ _,by rw[e1,yz],by rw[zm];walk_at "o",_,rfl⟩
  ·rintro ρ M1 ⟨g1,jf,acc,Of,h1,e1,l1,x3,rfl⟩
   rw[cJ,zz,show (((ay t).length:Int)-0).toNat=(ay t).length by walk_at "o",yB,eJ,zO]at e1;walk_at "wq";exact q _ _ g1 Of (by rw[e1];exact h1)
end
end Law
namespace Law
open PySem L3
section
variable {srt:List D->Option (List D)}{as vs:List Str}
noncomputable def aH:Tr->List Int->Option Tr
 |t,[]=>some t
 |t,i::p=>if i<0 then none else match (ay t)[i.toNat]? with
  |some s=>aH s p
  |none=>none
theorem fg{t:Tr}{i:Int}{p:List Int}:aH t (i::p)=if i<0 then none else match (ay t)[i.toNat]? with
  |some s=>aH s p
  |none=>none:=rfl
theorem bZ{t s:Tr}{i:Int}{p:List Int}(h:aH t (i::p)=some s):∃(n:Nat) (r:Tr),i=n/\(ay t)[n]?=some r/\aH r p=some s:=by
 rw[fg]at h;split at h
 ·cases h
 ·split at h
  ·rename_i r hr
   exact⟨i.toNat,r,by walk_at "o",hr,h⟩
  ·cases h
noncomputable def Kh(as vs:List Str)(s:Tr):Prop:=(bj s).length<=3/\∀a∈bj s,eD a as vs
theorem oV{rec:Tr->List Int->List (List Int)}{p:List Int}:∀(ts:List Tr) (k:Nat) (pl:List Int),pl∈eJ rec p k ts->∃(i:Nat) (t:Tr),ts[i]?=some t/\pl∈rec t (p++[((k+i:Nat):Int)])
 |[],_,pl,h=>by cases h
 |t::ts,k,pl,h=>by
  rw[eJ]at h;rcases zL.mp h with h|h
  ·exact⟨0,t,rfl,h⟩
  ·obtain⟨i,t',h1,h2⟩:=oV ts (k+1) pl h
   exact⟨i+1,t',by simpa using h1,by rw[show k+(i+1)=k+1+i by walk_at "o"];exact h2⟩
theorem E8:∀(n:Nat) (t:Tr) (p pl:List Int),aW as vs n t->Kh as vs t->pl∈cW n t p->∃q s,pl=p++q/\aH t q=some s/\Kh as vs s
 |0,_,_,_,f,_,_=>f.elim
 |n+1,t,p,pl,f,ok,h=>by
  rw[cW]at h;rcases zc.mp h with rfl|h
  ·exact⟨[],t,by rw[zO],rfl,ok⟩
  ·obtain⟨i,s,h1,h2⟩:=oV _ _ _ h
   obtain⟨o,f'⟩:=f.2 s (zx h1);obtain⟨q,s',e1,e2,e3⟩:=E8 n s _ pl f' o h2;refine⟨(i:Int)::q,s',by rw[e1,xl,yz];rfl,?_,e3⟩;rw[fg,if_neg (by walk_at "o"),zV,h1];exact e2
noncomputable def cM(t:Tr):List (List Int):=eJ (cW 4) [] 0 (ay t)
theorem il(t:Tr):cW 5 t []=[]::cM t:=rfl
theorem jo{t:Tr}(f:aW as vs 5 t):(cM t).length<=780:=by
 have:=nA 5 t [] f
 rw[il,zE]at this;have e:m7 5=781:=by decide
 walk_at "o"
theorem mE{t:Tr}(f:aW as vs 5 t){p:List Int}(h:p∈cM t):∃s,aH t p=some s/\Kh as vs s:=by
 obtain⟨i,s,h1,h2⟩:=oV _ _ _ h;obtain⟨o,f'⟩:=f.2 s (zx h1);obtain⟨q,s',e1,e2,e3⟩:=E8 4 s _ p f' o h2;refine⟨s',?_,e3⟩;rw[e1,xl,xE];show aH t ((i:Int)::q)=_;rw[fg,if_neg (by walk_at "o"),zV,h1];exact e2
theorem kN(k:Nat)(M:MH){n:Nat}(t s:Tr)(p:List Int)(h:aH t p=some s)(fit:aW as vs n t){Q:D->MH->Prop}(q:Q (ar s) M):W ((cx srt (k+1)).fn "row_at" [ar t,ai p]) M Q:=by
 have big:=aw;rw[aA "row_at" 4 2 fQ rfl,wf,fQ,ai];walk_at "wq";refine bw (fun m ρ M'=>M'=M/\∃r x3 n,aH r (p.drop m)=some s/\aW as vs n r/\ρ=[some (ar t),some (.tup (p.map .int)),some (ar r),x3]) ⟨rfl,t,_,n,h,fit,rfl⟩ (fun _ _ _ _=>trivial) ?_ ?_
 ·rintro m d ρ M' hd ⟨rfl,r,x3,n,hr,fr,rfl⟩
  rw[zw]at hd;obtain⟨i,hi,rfl⟩:=zu.mp hd;obtain⟨aS,hg⟩:=zn.mp hi;rw[ym aS,hg]at hr;obtain⟨j,r',rfl,hj,hs⟩:=bZ hr;cases n with
  |zero=>exact fr.elim
  |succ n =>
   have h5:=fr.1;have WB:=aD hj;obtain⟨eb,ec,ep,er,et⟩:=dn r;rw[et];walk_at "wq";refine⟨fun _=>⟨fun z=>?_,fun _=>?_⟩,fun z=>absurd (xk j) (of_decide_eq_false z)⟩
   ·rw[zz]at z
    exact absurd z (by simp;walk_at "o")
   ·exact⟨_,bB (by rw[zw,hj];rfl),r',_,n,hs,(fr.2 r' (zx hj)).2,rfl⟩
 ·rintro ρ M' ⟨rfl,r,x3,n,hr,_,rfl⟩
  rw[zz,yB]at hr;cases hr;walk_at "wq";exact q
theorem jq(k:Nat)(M:MH)(t s:Tr)(p:List Int)(h:aH t p=some s){Q:D->MH->Prop}(q:Q (ar s) M):W ((cx srt (k+1)).fn "_law_at" [ar t,ai p]) M Q:=by
 have big:=aw;rw[aA "_law_at" 3 2 km rfl,wf,km,ai];walk_at "wq";refine bw (fun m ρ M'=>M'=M/\∃r x2,aH r (p.drop m)=some s/\ρ=[some (ar r),some (.tup (p.map .int)),x2]) ⟨rfl,t,_,h,rfl⟩ (fun _ _ _ _=>trivial) ?_ ?_
 ·rintro m d ρ M' hd ⟨rfl,r,x3,hr,rfl⟩
  rw[zw]at hd;obtain⟨i,hi,rfl⟩:=zu.mp hd;obtain⟨aS,hg⟩:=zn.mp hi;rw[ym aS,hg]at hr;obtain⟨j,r',rfl,hj,hs⟩:=bZ hr;obtain⟨eb,ec,ep,er,et⟩:=dn r;rw[et];walk_at "wq";exact⟨_,bB (by rw[zw,hj];rfl),r',_,hs,rfl⟩
 ·rintro ρ M' ⟨rfl,r,x3,hr,rfl⟩
  rw[zz,yB]at hr;cases hr;walk_at "wq";exact q
noncomputable def rowOf(t:Tr)(p:List Int):Tr:=(aH t p).getD t
theorem c8{t s:Tr}{p:List Int}(h:aH t p=some s):rowOf t p=s:=by unfold rowOf;rw[h];rfl
noncomputable def bU(t:Tr)(ps:List (List Int)):List Ask:=ps.flatMap fun p=>bj (rowOf t p)
noncomputable def bW(t:Tr):List Ask:=bU t (cM t)
theorem b8{t:Tr}(f:aW as vs 5 t):∀ps:List (List Int),(∀p∈ps,p∈cM t)->(bU t ps).length<=3*ps.length/\∀a∈bU t ps,eD a as vs
 |[],_=>⟨zM _,fun a h=>by cases h⟩
 |p::ps,h=>by
  obtain⟨s,e,o1,o2⟩:=mE f (h p zJ);obtain⟨i1,i2⟩:=b8 f ps fun p' hp=>h p' (zI _ hp);have e2:bU t (p::ps)=bj s++bU t ps:=by unfold bU;rw[xM,c8 e]
  rw[e2];refine⟨by rw[zm,zE];walk_at "o",fun a ha=>?_⟩;rcases zL.mp ha with ha|ha
  ·exact o2 a ha
  ·exact i2 a ha
theorem oF{t s:Tr}{ps:List (List Int)}{m:Nat}{p:List Int}(h:ps[m]?=some p)(e:aH t p=some s):bU t (ps.take (m+1))=bU t (ps.take m)++bj s:=by
 rw[zR,h];unfold bU;rw[xB];congr 1;show (bj (rowOf t p))++[]=_;rw[zO,c8 e]
theorem oG(k:Nat)(M:MH)(t:Tr)(f:aW as vs 5 t)(ps:List (List Int))(hps:∀p∈ps,p∈cM t)(hl:ps.length<=781){j:Nat}(hj:M[j]?=some (.lst (ps.map ai))){Q:D->MH->Prop}(q:∀j' M',Gr M M'->M'[j']?=some (.lst ((bU t ps).map bo))->Q (.ob j') M'):W ((cx srt (k+2)).fn "askings_at" [ar t,.ob j]) M Q:=by
 have big:=aw;rw[aA "askings_at" 4 2 gF rfl,wf,gF];walk_at "wq";refine⟨by walk_at "o",_,(Gr.app _ _).keep _ _ hj,?_⟩;refine bw (fun m ρ M'=>Gr M M'/\M'[M.length]?=some (.lst ((bU t (ps.take m)).map bo))/\∃x3,ρ=[some (ar t),some (.ob j),some (.ob M.length),x3]) ⟨Gr.app _ _,ag _ _,_,rfl⟩ (fun _ _ _ h=>h.1.keep _ _ hj) ?_ ?_
 ·rintro m d ρ M' hd ⟨g,hM,x3,rfl⟩
  rw[zw]at hd;obtain⟨p,hp,rfl⟩:=zu.mp hd;obtain⟨s,e,o1,o2⟩:=mE f (hps _ (zx hp));have hm:=aD hp;have aS:=(b8 f (ps.take m) fun p' h=>hps _ (yv h)).1;rw[zD]at aS;walk_at "wq";refine⟨_,hM,kN k M' t s p e f ?_⟩;obtain⟨eb,ec,ep,er,et⟩:=dn s;rw[et];walk_at "wq";refine⟨_,hM,by rw[zz,zz];walk_at "o",?_⟩;refine⟨g.set (zp _) _,?_,_,rfl⟩;rw[oF hp e,zo];exact bQ hM
 ·rintro ρ M' ⟨g,hM,x3,rfl⟩
  rw[zz,zN]at hM;walk_at "wq";exact q _ _ g hM
theorem AX(k:Nat)(M:MH)(t:Tr)(f:aW as vs 5 t){j:Nat}(hj:M[j]?=some (.lst ((cM t).map ai))){Q:D->MH->Prop}(q:∀j' M',Gr M M'->M'[j']?=some (.lst ((bW t).map bo))->Q (.ob j') M'):W ((cx srt (k+2)).fn "askings_at" [ar t,.ob j]) M Q:=by
 have:=jo f
 exact oG k M t f (cM t) (fun _ h=>h) (by walk_at "o") hj q
theorem ll(k:Nat)(M:MH)(t:Tr)(f:aW as vs 5 t){Q:D->MH->Prop}(q:∀j' M',Gr M M'->M'[j']?=some (.lst ((bW t).map bo))->Q (.ob j') M'):W ((cx srt (k+7)).fn "askings_below" [ar t]) M Q:=by
 have big:=aw;rw[aA "askings_below" 1 1 eo rfl,wf,eo];walk_at "wq";rw[aA "places" 1 1 ic rfl,wf,ic];walk_at "wq";refine⟨by walk_at "o",?_⟩;refine jF 5 k M t [] f (by decide) (by decide) fun j M1 g1 _ h1=>?_;rw[il]at h1;walk_at "wq";refine⟨_,h1,?_⟩;rw[jU _ (by decide)];have e1:(1:Int).toNat=1:=rfl;rw[e1,zG,vS,vN];exact AX (k+4) _ t f (ag _ _) fun j' M' g h=>q j' M' ((g1.snoc _).trans g) h
end
end Law
namespace Law
open PySem L3
section
variable {srt:List D->Option (List D)}{as vs:List Str}
theorem sub_len{α:Type}[DecidableEq α]:∀{xs ys:List α},xs.Nodup->(∀x∈xs,x∈ys)->xs.length<=ys.length
 |[],_,_,_=>zM _
 |x::r,ys,h,hs=>by
  rw[xx]at h;have hx:=hs x zJ;have h1:=sub_len (ys:=ys.erase x) h.2 fun y hy=>(List.mem_erase_of_ne (by intro e;subst e;exact h.1 hy)).mpr (hs y (zI _ hy));rw[List.length_erase_of_mem hx]at h1
  have:0<ys.length:=List.length_pos_of_mem hx
  rw[zE];walk_at "o"
theorem qm:∀(ys zs xs:List Str),aF xs (ys++zs)=aF (aF xs ys) zs
 |[],_,_=>rfl
 |y::ys,zs,xs=>qm ys zs (dC xs y)
theorem L6{xs:List Str}{x:Str}(h:xs.Nodup):(dC xs x).Nodup:=by
 unfold dC;split
 ·exact h
 ·rename_i hx
  rw[xt];exact⟨h,by simp,fun a ha b hb e=>hx (by rw[<- zA.mp hb,<- e];exact ha)⟩
theorem eO:∀(ys xs:List Str),xs.Nodup->(∀x∈xs,x∈as)->(∀y∈ys,y∈as)->(aF xs ys).Nodup/\∀z∈aF xs ys,z∈as
 |[],_,h,hx,_=>⟨h,hx⟩
 |y::ys,xs,h,hx,hy=>eO ys (dC xs y) (L6 h) (fun z hz=>by
   unfold dC at hz;split at hz
   ·exact hx z hz
   ·rcases zL.mp hz with hz|hz
    ·exact hx z hz
    ·rw[zA.mp hz];exact hy y zJ) fun z hz=>hy z (zI _ hz)
theorem dw{ys:List Str}(h:∀y∈ys,y∈as):(aF [] ys).length<=as.length:=by
 obtain⟨h1,h2⟩:=eO ys [] xf (fun x hx=>nomatch hx) h;exact sub_len h1 h2
noncomputable def eL(xs:List Ask):List Str:=xs.map (·.n)
noncomputable def aM(nm:Str)(xs:List Ask):List Str:=xs.flatMap fun a=>if a.n=nm then a.vs else []
theorem fR{xs:List Ask}{nm:Str}(h:∀a∈xs,eD a as vs):(aM nm xs).length<=3*xs.length/\∀v∈aM nm xs,v∈vs:=by
 induction xs with
 |nil=>exact⟨zM _,fun v hv=>nomatch hv⟩
 |cons a xs ih =>
  obtain⟨i1,i2⟩:=ih fun b hb=>h b (zI _ hb);have ha:=h a zJ;unfold aM at i1 i2 ⊢;rw[xM];refine⟨?_,fun v hv=>?_⟩
  ·rw[zm,zE]
   have:=ha.l
   split
   ·walk_at "o"
   ·rw[ye];walk_at "o"
  ·rcases zL.mp hv with hv|hv
   ·split at hv
    ·exact ha.v v hv
    ·cases hv
   ·exact i2 v hv
theorem Ex{xs:List Ask}{m:Nat}{a:Ask}(h:xs[m]?=some a)(nm:Str):aM nm (xs.take (m+1))=aM nm (xs.take m)++(if a.n=nm then a.vs else []):=by
 rw[zR,h];unfold aM;rw[xB];congr 1;show (if a.n=nm then a.vs else [])++[]=_;rw[zO]
theorem rV(k:Nat)(M:MH){xs:List Ask}(hin:∀a∈xs,eD a as vs)(ha:as.length<=3)(hl:xs.length<=2340){j:Nat}(hj:M[j]?=some (.lst (xs.map bo))){Q:D->MH->Prop}(q:∀j' M',Gr M M'->M.length<=j'->M'[j']?=some (.lst ((a6 (aF [] (eL xs))).map .str))->Q (.ob j') M'):W ((cx srt (k+1)).fn "names_in" [.ob j]) M Q:=by
 have big:=aw;rw[aA "names_in" 1 1 je rfl,wf,je];walk_at "wq";refine⟨_,hj,by rw[zz];walk_at "o",?_⟩;refine bt (fun m ys M'=>M'=M/\ys=(eL (xs.take m)).map .str) ⟨rfl,rfl⟩ (fun _ _ _ h=>h.1▸hj) ?_ ?_
 ·rintro m d ys M' hd ⟨rfl,rfl⟩
  rw[zw]at hd;obtain⟨a,ha',rfl⟩:=zu.mp hd;rw[bo];walk_at "wq";rw[zR,ha'];unfold eL;rw[zo,zo];rfl
 ·rintro ys M' ⟨rfl,rfl⟩
  rw[zz,zN];walk_at "wq";have hle:=dw (as:=as) (ys:=eL xs) fun y hy=>by
   obtain⟨a,h1,rfl⟩:=zQ.mp hy;exact(hin a h1).n
  exact⟨_,ag _ _,_,jX _,by walk_at "o",q _ _ ((Gr.app _ _).snoc _) (by rw[zm];exact vg _ _) (ag _ _)⟩
theorem qt(k:Nat)(M:MH){xs:List Ask}{nm:Str}(hin:∀a∈xs,eD a as vs)(hv:vs.length<=3)(hl:xs.length<=2340){j:Nat}(hj:M[j]?=some (.lst (xs.map bo))){Q:D->MH->Prop}(q:∀j' M',Gr M M'->M.length<=j'->M'[j']?=some (.lst ((a6 (aF [] (aM nm xs))).map .str))->Q (.ob j') M'):W ((cx srt (k+1)).fn "values_beside" [.ob j,.str nm]) M Q:=by
 have big:=aw;rw[aA "values_beside" 4 2 eh rfl,wf,eh];walk_at "wq";refine⟨by walk_at "o",_,(Gr.app _ _).keep _ _ hj,?_⟩;refine bw (fun m ρ M'=>Gr M M'/\M'[M.length]?=some (.lst ((aM nm (xs.take m)).map .str))/\∃x3,ρ=[some (.ob j),some (.str nm),some (.ob M.length),x3]) ⟨Gr.app _ _,ag _ _,_,rfl⟩ (fun _ _ _ h=>h.1.keep _ _ hj) ?_ ?_
 ·rintro m d ρ M' hd ⟨g,hM,x3,rfl⟩
  rw[zw]at hd;obtain⟨a,ha,rfl⟩:=zu.mp hd;have hm:=aD ha;have aS:=(fR (nm:=nm) (xs:=xs.take m) fun b hb=>hin b (yv hb)).1;rw[zD]at aS;have F8:=(hin a (zx ha)).l;have es:=Ex ha nm;rw[bo];walk_at "wq";refine⟨fun h=>?_,fun h=>?_⟩
  ·rw[if_pos (beq_iff_eq.mp h)]at es
   refine⟨_,hM,_,hM,by rw[zz,zz];walk_at "o",?_⟩;refine⟨g.set (zp _) _,?_,_,rfl⟩;rw[es,zo];exact bQ hM
  ·rw[if_neg (ne_of_beq_false h),zO]at es
   exact⟨g,by rw[es];exact hM,_,rfl⟩
 ·rintro ρ M' ⟨g,hM,x3,rfl⟩
  rw[zz,zN]at hM;walk_at "wq";have hle:=dw (as:=vs) (ys:=aM nm xs) (fR hin).2;exact⟨_,hM,_,jX _,by walk_at "o",q _ _ (g.snoc _) g.len (ag _ _)⟩
theorem uL(k:Nat)(M:MH)(t:Tr)(f:aW as vs 5 t)(ha:as.length<=3){Q:D->MH->Prop}(q:∀j' M',Gr M M'->M.length<=j'->M'[j']?=some (.lst ((a6 (aF [] (eL (bW t)))).map .str))->Q (.ob j') M'):W ((cx srt (k+8)).fn "names_asked" [ar t]) M Q:=by
 obtain⟨h1,h2⟩:=b8 f (cM t) fun p h=>h;have h3:=jo f;rw[aA "names_asked" 1 1 fF rfl,wf,fF];walk_at "wq";refine ll k M t f fun j M1 g1 hj=>?_;walk_at "wq";exact rV (k+6) M1 h2 ha (by have:(bW t).length<=3*(cM t).length:=h1;walk_at "o") hj fun j' M' g hle h=>q j' M' (g1.trans g) (zP g1.len hle) h
theorem mw(k:Nat)(M:MH)(t:Tr)(nm:Str)(f:aW as vs 5 t)(hv:vs.length<=3){Q:D->MH->Prop}(q:∀j' M',Gr M M'->M.length<=j'->M'[j']?=some (.lst ((a6 (aF [] (aM nm (bW t)))).map .str))->Q (.ob j') M'):W ((cx srt (k+8)).fn "values_with" [ar t,.str nm]) M Q:=by
 obtain⟨h1,h2⟩:=b8 f (cM t) fun p h=>h;have h3:=jo f;rw[aA "values_with" 2 2 fD rfl,wf,fD];walk_at "wq";refine ll k M t f fun j M1 g1 hj=>?_;walk_at "wq";exact qt (k+6) M1 h2 hv (by have:(bW t).length<=3*(cM t).length:=h1;walk_at "o") hj fun j' M' g hle h=>q j' M' (g1.trans g) (zP g1.len hle) h
end
end Law
namespace Law
open PySem L3
section
variable {as vs:List Str}
structure Nd where
 a:List Ask
 n:List Str
 d:Nat
 kids:List Nat
 b:Bool
 id:Nat
noncomputable def okN(x:Nd):Bool:=decide (x.d<4)&&decide (x.kids.length<5)
noncomputable def iX:Nd:=⟨[],[],0,[],false,0⟩
noncomputable def j7(sc:List Int)(i:Int)(N:List Nd):Nd:=(N.filter okN).getD (if bC sc (i+10) 2=0 then (N.filter okN).length-1 else (bC sc (i+11) (N.filter okN).length).toNat) iX
noncomputable def sV(n:Nat):Nat:=[0,1,1,2,1,1,3].getD n 0
noncomputable def mJ(sc:List Int)(i:Int)(as vs ns:List Str)(d m:Nat):Nd :=
 ⟨(List.range (sV (bC sc (i+12) 7).toNat)).map fun (j:Nat)=>lW sc (i+4*(j:Int)) as vs,
   (ns.drop (bC sc (i+13) 6).toNat++ns.take (bC sc (i+13) 6).toNat).take (bC sc (i+14) 4).toNat,d,[],bC sc (i+15) 3==0,m⟩
noncomputable def dX(x:Nd)(m:Nat):Nd:={ x with kids:=x.kids++[m] }
noncomputable def pK(sc:List Int)(i:Int)(as vs ns:List Str)(m:Nat)(N:List Nd):List Nd :=
 if m=0 then [mJ sc i as vs ns 0 0] else N.set (j7 sc i N).id (dX (j7 sc i N) m)++[mJ sc i as vs ns ((j7 sc i N).d+1) m]
noncomputable def dA(sc:List Int)(i:Int)(as vs ns:List Str):Nat->List Nd
 |0=>[]
 |m+1=>pK sc (i+16*(m:Int)) as vs ns m (dA sc i as vs ns m)
noncomputable def uW:Nat->Int
 |0=>25
 |1=>5
 |2=>1
 |_=>0
noncomputable def gW(x:Nd):Int:=uW x.d-x.kids.length*uW (x.d+1)
noncomputable def gk(N:List Nd):Int:=(N.map gW).sum
theorem Bi:∀{N:List Nd} {i:Nat} {x:Nd} (y:Nd),N[i]?=some x->gk (N.set i y)=gk N-gW x+gW y
 |[],_,_,_,h=>by cases h
 |z::N,0,x,y,h=>by
  cases h;unfold gk;rw[List.set_cons_zero,zG,zG,xC,xC];walk_at "o"
 |z::N,i+1,x,y,h=>by
  have ih:=Bi (N:=N) (i:=i) (x:=x) y (by simpa using h);unfold gk at ih ⊢;rw[List.set_cons_succ,zG,zG,xC,xC,ih];walk_at "o"
theorem Hx(N:List Nd)(y:Nd):gk (N++[y])=gk N+gW y:=by
 unfold gk;rw[zo,List.sum_append];show _+(gW y+0)=_;rw[Int.add_zero]
theorem E5:∀(N:List Nd),(∀x∈N,okN x=false)->gk N<=N.length
 |[],_=>by decide
 |x::N,h=>by
  have ih:=E5 N fun y hy=>h y (zI _ hy);have hx:=h x zJ
  have:gW x<=1:=by
   unfold okN at hx;unfold gW;have hk:(x.d<4->5<=x.kids.length):=fun h4=>by
    rw[decide_eq_true h4,yE]at hx
    have:=of_decide_eq_false hx
    walk_at "o"
   generalize x.d=d at hk ⊢;rcases d with _|_|_|d
   ·have:=hk (by decide)
    simp only[uW];walk_at "o"
   ·have:=hk (by decide)
    simp only[uW];walk_at "o"
   ·simp only[uW]
    walk_at "o"
   ·have e1:uW (d+1+1+1)=0:=rfl
    have e2:uW (d+1+1+1+1)=0:=rfl;rw[e1,e2];walk_at "o"
  unfold gk at ih ⊢;rw[zG,xC,zE];walk_at "o"
structure NF (as vs:List Str) (N:List Nd):Prop where
 id:∀(a:Nat) (x:Nd),N[a]?=some x->x.id=a
 d4:∀x∈N,x.d<=4
 k5:∀x∈N,x.kids.length<=5
 kd:∀x∈N,∀c∈x.kids,∃y,N[c]?=some y/\y.d=x.d+1
 ak:∀x∈N,0<x.d->x.a.length<=3/\∀a∈x.a,eD a as vs
 r0:∀x,N[0]?=some x->x.d=0
theorem NF.nil:NF as vs []:=⟨fun _ _ h=>(nomatch h),fun _ h=>(nomatch h),fun _ h=>(nomatch h),fun _ h=>(nomatch h),fun _ h=>(nomatch h),fun _ h=>(nomatch h)⟩
theorem NF.set{N:List Nd}(f:NF as vs N){i:Nat}{x y:Nd}(h:N[i]?=some x)(e1:y.id=x.id)(e2:y.d=x.d)(e3:y.a=x.a\/x.d=0)(e4:y.kids=x.kids):NF as vs (N.set i y):=by
 have hx:=zx h;have get:∀(a:Nat) (z:Nd),N[a]?=some z->∃z',(N.set i y)[a]?=some z'/\z'.d=z.d:=fun a z hz=>by
  by_cases e:i=a
  ·subst e
   rw[h]at hz;cases hz;exact⟨y,zU (aD h),e2⟩
  ·exact⟨z,by rw[zj e];exact hz,rfl⟩
 refine⟨fun a z hz=>?_,fun z hz=>?_,fun z hz=>?_,fun z hz c hc=>?_,fun z hz h0=>?_,fun z hz=>?_⟩
 ·by_cases e:i=a
  ·subst e
   rw[zU (aD h)]at hz;cases hz;rw[e1];exact f.id _ _ h
  ·rw[zj e]at hz
   exact f.id _ _ hz
 ·rcases yf hz with hz|rfl
  ·exact f.d4 z hz
  ·rw[e2];exact f.d4 x hx
 ·rcases yf hz with hz|rfl
  ·exact f.k5 z hz
  ·rw[e4];exact f.k5 x hx
 ·have:∃z0∈N,z0.d=z.d/\c∈z0.kids:=by
   rcases yf hz with hz|rfl
   ·exact⟨z,hz,rfl,hc⟩
   ·exact⟨x,hx,e2.symm,e4▸hc⟩
  obtain⟨z0,h1,h2,h3⟩:=this;obtain⟨w,h4,h5⟩:=f.kd z0 h1 c h3;obtain⟨w',h6,h7⟩:=get c w h4;exact⟨w',h6,by rw[h7,h5,h2]⟩
 ·rcases yf hz with hz|rfl
  ·exact f.ak z hz h0
  ·rcases e3 with e3|e3
   ·rw[e3];exact f.ak x hx (e2▸h0)
   ·walk_at "o"
 ·by_cases e:i=0
  ·subst e
   rw[zU (aD h)]at hz;cases hz;rw[e2];exact f.r0 _ h
  ·rw[zj e]at hz
   exact f.r0 _ hz
theorem NF.add{N:List Nd}(f:NF as vs N){u new:Nd}(h:N[u.id]?=some u)(hu:okN u=true)(n1:new.id=N.length)(n2:new.d=u.d+1)(n3:new.kids=[])(n4:new.a.length<=3/\∀a∈new.a,eD a as vs):NF as vs (N.set u.id (dX u N.length)++[new]):=by
 have hx:=zx h;have hd:=f.d4 u hx;unfold okN at hu;rw[zl]at hu;have u1:=of_decide_eq_true hu.1;have u2:=of_decide_eq_true hu.2;have get:∀(a:Nat) (z:Nd),N[a]?=some z->∃z',(N.set u.id (dX u N.length)++[new])[a]?=some z'/\z'.d=z.d:=fun a z hz=>by
  rw[zH (by rw[yx];exact aD hz)];by_cases e:u.id=a
  ·subst e
   rw[h]at hz;cases hz;exact⟨_,zU (aD h),rfl⟩
  ·exact⟨z,by rw[zj e];exact hz,rfl⟩
 have last:(N.set u.id (dX u N.length)++[new])[N.length]?=some new:=by
  rw[zK (by rw[yx];exact zp _),yx,yW];rfl
 have cs:∀z∈N.set u.id (dX u N.length)++[new],z∈N\/z=dX u N.length\/z=new:=fun z hz=>by
  rcases zL.mp hz with hz|hz
  ·rcases yf hz with hz|hz
   ·exact .inl hz
   ·exact .inr (.inl hz)
  ·exact .inr (.inr (zA.mp hz))
 refine⟨fun a z hz=>?_,fun z hz=>?_,fun z hz=>?_,fun z hz c hc=>?_,fun z hz h0=>?_,fun z hz=>?_⟩
 ·by_cases e:a<N.length
  ·rw[zH (by rw[yx];exact e)]at hz
   by_cases e:u.id=a
   ·subst e
    rw[zU (aD h)]at hz;cases hz;rfl
   ·rw[zj e]at hz
    exact f.id _ _ hz
  ·have hl:=aD hz
   rw[zm,yx,yY]at hl
   have:a=N.length:=by walk_at "o"
   subst this;rw[last]at hz;cases hz;exact n1
 ·rcases cs z hz with hz|rfl|rfl
  ·exact f.d4 z hz
  ·exact hd
  ·walk_at "o"
 ·rcases cs z hz with hz|rfl|rfl
  ·exact f.k5 z hz
  ·show (u.kids++[N.length]).length<=5
   rw[zm];show _+1<=_;walk_at "o"
  ·rw[n3];exact zM _
 ·rcases cs z hz with hz|rfl|rfl
  ·obtain⟨y,h1,h2⟩:=f.kd z hz c hc
   obtain⟨y',h3,h4⟩:=get c y h1;exact⟨y',h3,by rw[h4,h2]⟩
  ·rcases zL.mp (show c∈u.kids++[N.length] from hc) with hc|hc
   ·obtain⟨y,h1,h2⟩:=f.kd u hx c hc
    obtain⟨y',h3,h4⟩:=get c y h1;exact⟨y',h3,by rw[h4,h2];rfl⟩
   ·rw[zA.mp hc]
    exact⟨new,last,n2⟩
  ·rw[n3]at hc;cases hc
 ·rcases cs z hz with hz|rfl|rfl
  ·exact f.ak z hz h0
  ·exact f.ak u hx h0
  ·exact n4
 ·rw[zH (by rw[yx];exact Nat.lt_of_le_of_lt (zM _) (aD h))]at hz
  by_cases e:u.id=0
  ·rw[e]at h hz
   rw[zU (aD h)]at hz;cases hz;exact f.r0 u h
  ·rw[zj e]at hz
   exact f.r0 _ hz
theorem Lc{N:List Nd}{u new:Nd}(h:N[u.id]?=some u)(n2:new.d=u.d+1)(n3:new.kids=[])(m:Nat):gk (N.set u.id (dX u m)++[new])=gk N:=by
 rw[Hx,Bi _ h];unfold gW dX;rw[n2,n3,zm];show gk N-(uW u.d-u.kids.length*uW (u.d+1))+(uW u.d-((u.kids.length+1:Nat):Int)*uW (u.d+1))+(uW (u.d+1)-(0:Int)*_)=_;rw[Int.zero_mul,vH,Int.add_mul];generalize (u.kids.length:Int)*uW (u.d+1)=A;show _-(_-A)+(_-(A+1*uW (u.d+1)))+_=_;walk_at "o"
theorem HH{N:List Nd}(hp:gk N=25)(hl:N.length<=19):0<(N.filter okN).length:=by
 refine wT fun h0=>?_;have h1:=yS h0
 have:=E5 N fun x hx=>by
  cases e:okN x with
  |false=>rfl
  |true =>
   have:x∈N.filter okN:=yl.mpr ⟨hx,e⟩
   rw[h1]at this;cases this
 walk_at "o"
noncomputable def iV:Nat->List Nd->Nat->Tr
 |0,_,_=>.mk [] false [] 0 0 []
 |f+1,N,n=>.mk (N.getD n iX).a (N.getD n iX).b (N.getD n iX).n (1+(n:Int)) (2*(n:Int)+1) ((N.getD n iX).kids.map (iV f N))
theorem qX{N:List Nd}{n:Nat}{x:Nd}(h:N[n]?=some x):N.getD n iX=x:=by rw[zi,h];rfl
theorem Ct{f:Nat}{N:List Nd}{n:Nat}{x:Nd}(h:N[n]?=some x):iV (f+1) N n=.mk x.a x.b x.n (1+(n:Int)) (2*(n:Int)+1) (x.kids.map (iV f N)):=by
 rw[iV,qX h]
theorem A5{N:List Nd}(nf:NF as vs N):∀(f n:Nat) (x:Nd),N[n]?=some x->5<=x.d+f->aW as vs f (iV f N n)
 |0,n,x,h,h5=>by
  have:=nf.d4 x (zx h)
  walk_at "o"
 |f+1,n,x,h,h5=>by
  have hm:=zx h;rw[Ct h];refine⟨by show (x.kids.map (iV f N)).length<=5;rw[zz];exact nf.k5 x hm,fun s hs=>?_⟩;obtain⟨c,hc,rfl⟩:=zQ.mp (show s∈x.kids.map (iV f N) from hs);obtain⟨y,h1,h2⟩:=nf.kd x hm c hc;refine⟨?_,A5 nf f c y h1 (by walk_at "o")⟩
  have:=nf.d4 y (zx h1)
  cases f with
  |zero=>walk_at "o"
  |succ f =>
   rw[Ct h1];exact nf.ak y (zx h1) (by walk_at "o")
theorem plainT:∀(n:Nat) (t:Tr) (m:Nat),aW as vs n t->2*n+4<=m->dM m (ar t)=true
 |0,_,_,h,_=>h.elim
 |n+1,.mk xs on b p r rows,m,h,hm=>by
  obtain⟨m,rfl⟩:∃k,m=k+6:=⟨m-6,by walk_at "o"⟩;rw[ar,kI];have hr:dM (m+5) (.tup (rows.map ar))=true:=by
   show (rows.map ar).all (dM (m+4))=true;rw[zS];intro d hd;obtain⟨s,hs,rfl⟩:=zQ.mp hd;exact plainT n s (m+4) (h.2 s hs).2 (by walk_at "o")
  have ha:dM (m+5) (.tup (xs.map bo))=true:=by
   show (xs.map bo).all (dM (m+4))=true;rw[zS];intro d hd;obtain⟨a,_,rfl⟩:=zQ.mp hd;have hv:dM (m+3) (.tup (a.vs.map .str))=true:=by
    show (a.vs.map D.str).all (dM (m+2))=true;rw[zS];intro d hd;obtain⟨v,_,rfl⟩:=zQ.mp hd;rfl
   show ([D.str a.w,.str a.n,.tup (a.vs.map .str)].all (dM (m+3)))=true;rw[zX,zX,zX,hv];rfl
  have hb:dM (m+5) (.tup (b.map .str))=true:=by
   show (b.map D.str).all (dM (m+4))=true;rw[zS];intro d hd;obtain⟨v,_,rfl⟩:=zQ.mp hd;rfl
  show ([D.tup (xs.map bo),.bl on,.tup (b.map .str),.int p,.int r,.tup [],.tup (rows.map ar)].all (dM (m+5)))=true;rw[zX,zX,zX,zX,zX,zX,zX,ha,hb,hr];rfl
end
end Law
namespace Law
open PySem L3
section
variable {srt:List D->Option (List D)}{as vs:List Str}
noncomputable def dW(x:Nd):MO:=.lst (x.kids.map fun (n:Nat)=>.int (n:Int))
noncomputable def rT(j:Nat)(x:Nd):MO:=.lst [.tup (x.a.map bo),.tup (x.n.map .str),.int (x.d:Int),.ob j,.bl x.b]
structure Rep (M:MH) (jN:Nat) (E:List (Nat×Nd)):Prop where
 l:M[jN]?=some (.lst (E.map fun e=>.ob (e.1+1)))
 lt:∀(a b:Nat) (e e':Nat×Nd),E[a]?=some e->E[b]?=some e'->a<b->e.1+1<e'.1
 o:∀e∈E,jN<e.1/\M[e.1]?=some (dW e.2)/\M[e.1+1]?=some (rT e.1 e.2)
theorem Rep.keep{M M':MH}{jN:Nat}{E:List (Nat×Nd)}(r:Rep M jN E)(g:Gr M M'):Rep M' jN E:=⟨g.keep _ _ r.l,r.lt,fun e he=>⟨(r.o e he).1,g.keep _ _ (r.o e he).2.1,g.keep _ _ (r.o e he).2.2⟩⟩
theorem Jo:∀(f k:Nat) (M:MH) (jN:Nat) (E:List (Nat×Nd)) (n:Nat) (e:Nat×Nd),Rep M jN E->NF as vs (E.map (·.2))->E[n]?=some e->5<=e.2.d+f->n<=100->E.length<=100->∀{Q:D->MH->Prop} (_:∀(M':MH),Gr M M'->Q (ar (iV f (E.map (·.2)) n)) M'),
  W ((cx srt (k+f)).fn "_law_row" [.ob jN,.int (n:Int)]) M Q
 |0,k,M,jN,E,n,e,_,nf,h,h5,_,_,Q,q=>by
  have:=nf.d4 e.2 (yK (zx h))
  walk_at "o"
 |f+1,k,M,jN,E,n,e,R,nf,h,h5,hn,hE,Q,q=>by
  have big:=aw;have hm:=zx h;have hN:(E.map (·.2))[n]?=some e.2:=by rw[zw,h];rfl
  have RG:=zx hN;have Wz:=nf.k5 _ RG;obtain⟨r1,r2,r3⟩:=R.o e hm;rw[show k+(f+1)=k+f+1 by walk_at "o",aA "_law_row" 3 2 jh rfl,wf,jh];walk_at "wq";refine⟨_,R.l,_,rfl,_,bB (by rw[zw,h];rfl),?_⟩;walk_at "wq";refine⟨_,r3,_,rfl,_,rfl,?_⟩;walk_at "wq";refine⟨_,r3,_,rfl,_,rfl,_,r3,_,rfl,_,rfl,.inl ⟨by walk_at "o",by walk_at "o"⟩,zM _,_,r3,_,rfl,_,rfl,?_⟩;walk_at "wq";refine⟨_,r2,by rw[zz];walk_at "o",?_⟩;refine bt (fun m ys M'=>Gr M M'/\ys=((e.2.kids.take m).map fun c=>ar (iV f (E.map (·.2)) c))) ⟨Gr.refl,rfl⟩ (fun _ _ _ h=>h.1.keep _ _ r2) ?_ ?_
  ·rintro m d ys M' hd ⟨g,rfl⟩
   rw[zw]at hd;obtain⟨c,hc,rfl⟩:=zu.mp hd;obtain⟨y,y1,y2⟩:=nf.kd _ RG c (zx hc);rw[zw]at y1;obtain⟨e',he',rfl⟩:=zu.mp y1;walk_at "wq";refine Jo f k M' jN E c e' (R.keep g) nf he' (by walk_at "o") (by have:=aD he';walk_at "o") hE fun M2 g2=>⟨g.trans g2,?_⟩;rw[zR,hc,zo];rfl
  ·rintro ys M' ⟨g,rfl⟩
   rw[zz,zN];walk_at "wq";refine⟨_,ag _ _,?_⟩;walk_at "wq";refine⟨by walk_at "o",?_⟩;have q:=q _ (g.snoc (MO.lst (e.2.kids.map fun c=>ar (iV f (E.map (·.2)) c))));rw[Ct hN,ar,kI,yp]at q;exact q
theorem Rep.add{M:MH}{jN k:Nat}{E:List (Nat×Nd)}{x:Nd}(R:Rep M jN E)(h1:M[k]?=some (dW x))(h2:M[k+1]?=some (rT k x))(hj:jN<k)(hE:∀e∈E,e.1+1<k):Rep (M.set jN (.lst ((E.map fun e=>.ob (e.1+1))++[.ob (k+1)]))) jN (E++[(k,x)]):=by
 refine⟨?_,fun a b e e' ha hb WR=>?_,fun e he=>?_⟩
 ·rw[zo]
  exact bQ R.l
 ·by_cases hb':b<E.length
  ·rw[zH hb']at hb
   rw[zH (by walk_at "o")]at ha;exact R.lt a b e e' ha hb WR
  ·have hl:=aD hb
   rw[zm,yY]at hl
   have:b=E.length:=by walk_at "o"
   subst this;rw[zH (by walk_at "o")]at ha;rw[zK (zp _),yW]at hb;cases hb;exact hE e (zx ha)
 ·rcases zL.mp he with he|he
  ·obtain⟨o1,o2,o3⟩:=R.o e he
   rw[zj (by walk_at "o"),zj (by walk_at "o")];exact⟨o1,o2,o3⟩
  ·rw[zA.mp he]
   rw[zj (by walk_at "o"),zj (by walk_at "o")];exact⟨hj,h1,h2⟩
theorem Rep.other{M:MH}{jN j:Nat}{E:List (Nat×Nd)}(R:Rep M jN E)(o:MO)(hj:jN<j)(hE:∀e∈E,e.1+1<j):Rep (M.set j o) jN E:=by
 refine⟨by rw[zj (by walk_at "o")];exact R.l,R.lt,fun e he=>?_⟩;obtain⟨o1,o2,o3⟩:=R.o e he
 have:=hE e he
 rw[zj (by walk_at "o"),zj (by walk_at "o")];exact⟨o1,o2,o3⟩
theorem Rep.ne{M:MH}{jN a b:Nat}{E:List (Nat×Nd)}(R:Rep M jN E){e e':Nat×Nd}(ha:E[a]?=some e)(hb:E[b]?=some e')(h:a≠b):e.1+1<e'.1\/e'.1+1<e.1:=by
 rcases Nat.lt_or_gt_of_ne h with h|h
 ·exact .inl (R.lt a b e e' ha hb h)
 ·exact .inr (R.lt b a e' e hb ha h)
theorem Rep.upd{M:MH}{jN a j:Nat}{E:List (Nat×Nd)}(R:Rep M jN E){e:Nat×Nd}{y:Nd}{o:MO}(ha:E[a]?=some e)(hj:j=e.1\/j=e.1+1)(h1:(M.set j o)[e.1]?=some (dW y))(h2:(M.set j o)[e.1+1]?=some (rT e.1 y)):Rep (M.set j o) jN (E.set a (e.1,y)):=by
 have hr:=(R.o e (zx ha)).1;have same:∀(b:Nat) (z:Nat×Nd),(E.set a (e.1,y))[b]?=some z->∃z0,E[b]?=some z0/\z0.1=z.1/\(b=a/\z=(e.1,y)\/b≠a/\z0=z):=fun b z hz=>by
  by_cases h:a=b
  ·subst h
   rw[zU (aD ha)]at hz;cases hz;exact⟨e,ha,rfl,.inl ⟨rfl,rfl⟩⟩
  ·rw[zj h]at hz
   exact⟨z,hz,rfl,.inr ⟨Ne.symm h,rfl⟩⟩
 refine⟨?_,fun b c z z' hb hc WM=>?_,fun z hz=>?_⟩
 ·rw[zj (by walk_at "o"),R.l,xj]
  have hg:(E.map fun e=>D.ob (e.1+1))[a]?=some (.ob (e.1+1)):=by rw[zw,ha];rfl
  obtain⟨aS,he⟩:=zn.mp hg;show _=some (MO.lst ((E.map fun e=>D.ob (e.1+1)).set a (.ob (e.1+1))));rw[<- he,List.set_getElem_self aS]
 ·obtain⟨z0,h3,h4,_⟩:=same b z hb
  obtain⟨z1,h5,h6,_⟩:=same c z' hc
  have:=R.lt b c z0 z1 h3 h5 WM
  walk_at "o"
 ·obtain⟨b,hb⟩:=wM hz
  obtain⟨z0,h3,h4,h5⟩:=same b z hb;rcases h5 with ⟨rfl,rfl⟩|⟨b6,rfl⟩
  ·exact⟨hr,h1,h2⟩
  ·obtain⟨o1,o2,o3⟩:=R.o z0 (zx h3)
   have:=R.ne ha h3 (Ne.symm b6)
   rw[zj (by walk_at "o"),zj (by walk_at "o")];exact⟨o1,o2,o3⟩
end
end Law
namespace Law
open PySem L3
section
variable {srt:List D->Option (List D)}{as vs:List Str}
theorem qQ(sc:List Int)(i:Int)(as vs ns:List Str):∀m:Nat,(dA sc i as vs ns m).length=m
 |0=>rfl
 |m+1=>by
  have ih:=qQ sc i as vs ns m;rw[dA];unfold pK;split
  ·rename_i h
   rw[h];rfl
  ·rw[zm,yx,ih]
   rfl
theorem Lz(n:Nat)(h:n<7):cz [D.int 0,D.int 1,D.int 1,D.int 2,D.int 1,D.int 1,D.int 3] (n:Int)=some (.int (sV n:Int))/\sV n<=3:=by
 rcases n with _|_|_|_|_|_|_|n
 all_goals first|exact⟨rfl,by decide⟩|walk_at "o"
theorem PM(sc:List Int)(i:Int)(E O:List (Nat×Nd))(hO:E.filter (fun e=>okN e.2)=O)(hl:0<O.length){f:Nat×Nd->D}:∃(y:Int) (e:Nat×Nd),cz [D.int (-1),D.int (bC sc (i+11) O.length)] (bC sc (i+10) 2)=some (.int y)/\cz (O.map f) y=some (f e)/\e∈O/\j7 sc i (E.map (·.2))=e.2:=by
 have hf:(E.map (·.2)).filter okN=O.map (·.2):=by rw[<- hO,wG];rfl
 obtain⟨v,hv,lv⟩:=bX sc (i+11) hl;obtain⟨w,hw,lw⟩:=bX sc (i+10) (m:=2) (by decide);rw[show ((2:Nat):Int)=2 from rfl]at hw;unfold j7;rw[hf,zz,hv,hw];have fin:∀n:Nat,n<O.length->∃e,O[n]?=some e/\e∈O/\(O.map (·.2)).getD n iX=e.2:=fun n hn=>⟨O[n],zv hn,yM hn,qX (by rw[zw,zv hn];rfl)⟩
 have:w=0\/w=1:=by walk_at "o"
 rcases this with rfl|rfl
 ·rw[if_pos (show ((0:Nat):Int)=0 from rfl)]
  obtain⟨e,h1,h2,h3⟩:=fin (O.length-1) (by walk_at "o");refine⟨-1,e,rfl,?_,h2,h3⟩;unfold cz k8;rw[zz,if_neg (by walk_at "o"),if_pos (by walk_at "o")];show (O.map f)[(-1+(O.length:Int)).toNat]?=_;rw[show (-1+(O.length:Int)).toNat=O.length-1 by walk_at "o",zw,h1];rfl
 ·rw[if_neg (by decide)]
  obtain⟨e,h1,h2,h3⟩:=fin v lv;exact⟨v,e,rfl,bB (by rw[zw,h1];rfl),h2,h3⟩
theorem nH{i c:Int}(m:Nat)(h:0<=i)(hc:0<=c):0<=i+16*(m:Int)+c:=by walk_at "o"
theorem Qr{i c:Int}{m:Nat}(h:i<=1000)(hm:m<=19)(hc:c<=99):i+16*(m:Int)+c<=80000:=by walk_at "o"
theorem Tv{i:Int}(m:Nat)(h:0<=i):0<=i+16*(m:Int):=by walk_at "o"
theorem Tu{i:Int}{m:Nat}(h:i<=1000)(hm:m<=19):i+16*(m:Int)<=80000:=by walk_at "o"
theorem nG{i c:Int}{m:Nat}(h:i<=1000)(hm:m<=19)(hc:c<=99):i+16*(m:Int)+c<=100000:=vX (Qr h hm hc) (by decide)
theorem Jy{n c:Nat}:decide ((n:Int)<(c:Int))=decide (n<c):=decide_eq_decide.mpr vY
theorem Lp(k:Nat)(sc:List Int)(i:Int)(many:Nat)(M:MH){d:D}{ns:List Str}{ot:Str}(P:gO M d as vs ns ot)(h0:0<=i)(h1:i<=1000)(hm:many<=19){Q:D->MH->Prop}(q:∀(jN:Nat) (E:List (Nat×Nd)) (M':MH),Gr M M'->M.length<=jN->Rep M' jN E->NF as vs (E.map (·.2))->E.map (·.2)=dA sc i as vs ns (many+1)->Q (.ob jN) M') :
  W ((cx srt (k+5)).fn "_law_nodes" [.fl (sc.map .int),.int i,.int (many:Int),d]) M Q:=by
 have big:=aw;rw[aA "_law_nodes" 13 4 gK rfl,wf,gK];walk_at "wq";refine⟨by walk_at "o",⟨by walk_at "o",by walk_at "o"⟩,?_⟩;have n0:(M++[MO.lst []])[M.length]?=some (.lst []):=ag _ _;have g0:Gr M (M++[MO.lst []]):=Gr.app _ _;generalize M++[MO.lst []]=M0 at n0 g0 ⊢;refine bw (fun m ρ M'=>Gr M M'/\(∃E:List (Nat×Nd),Rep M' M.length E/\NF as vs (E.map (·.2))/\E.map (·.2)=dA sc i as vs ns m/\(m≠0->gk (E.map (·.2))=25))/\∃x5 x6 x7 x8 x9 mm L8 L7,ρ=[some (.fl (sc.map .int)),some (.int i),some (.int (many:Int)),some d,some (.ob M.length),x5,x6,x7,x8,x9,mm,L8,L7])
  ⟨g0,⟨[],⟨n0,(fun _ _ _ _ h=>nomatch h),(fun _ h=>nomatch h)⟩,NF.nil,rfl,fun h=>absurd rfl h⟩,_,_,_,_,_,_,_,_,rfl⟩ (fun _ _ _ _=>trivial) ?_ ?_
 ·rintro m d' ρ M1 hd ⟨g1,⟨E,R,nf,eN,E6⟩,x5,x6,x7,x8,x9,mm,L8,L7,rfl⟩
  obtain⟨rfl,Zc⟩:=di hd;rw[xu];have P1:=P.keep g1;obtain⟨ia,iv,iN,rfl,p2,p3,p4⟩:=P1.is;have hl:E.length=m:=by rw[<- zz (f:=(·.2)),eN,qQ]
  have mT:m<=19:=by walk_at "o"
  obtain⟨QU,J3,VT⟩:=bX sc (i+16*(m:Int)+12) (m:=7) (by decide);obtain⟨gQ,OJ,Y2⟩:=bX sc (i+16*(m:Int)+13) (m:=6) (by decide);obtain⟨Me,OI,Y1⟩:=bX sc (i+16*(m:Int)+14) (m:=4) (by decide);rw[show ((7:Nat):Int)=7 from rfl]at J3;rw[show ((6:Nat):Int)=6 from rfl]at OJ;rw[show ((4:Nat):Int)=4 from rfl]at OI;obtain⟨ma,mb⟩:=Lz QU VT;walk_at "wq";refine⟨.inl ⟨by walk_at "o",by walk_at "o"⟩,by walk_at "o",bL (k+2) sc _ _ _ (nH m h0 (by decide)) (nG h1 mT (by decide)) (by decide) ?_⟩;rw[J3];walk_at "wq";refine⟨_,ag _ _,?_⟩;walk_at "wq";refine⟨_,ma,?_⟩;have g2:Gr M1 (M1++[MO.lst [D.int 0,D.int 1,D.int 1,D.int 2,D.int 1,D.int 1,D.int 3]]):=Gr.app _ _;generalize M1++[MO.lst [D.int 0,D.int 1,D.int 1,D.int 2,D.int 1,D.int 1,D.int 3]]=M2 at g2 ⊢;refine GN k sc _ _ M2 (P1.keep g2) (Tv m h0) (Tu h1 mT) (zP mb (by decide)) fun M3 hin g3=>?_;replace g3:=g2.trans g3;have qV:(mJ sc (i+16*(m:Int)) as vs ns 0 m).a.length<=3/\∀a∈(mJ sc (i+16*(m:Int)) as vs ns 0 m).a,eD a as vs:=by
   unfold mJ;rw[J3];exact⟨by rw[zz,zZ];exact mb,hin⟩
  walk_at "wq";refine bL (k+2) sc _ _ _ (nH m h0 (by decide)) (nG h1 mT (by decide)) (by decide) ?_;rw[OJ];walk_at "wq";have p4':=g3.keep _ _ p4;refine⟨_,p4',_,(Gr.app _ _).keep _ _ p4',?_⟩;rw[jU _ (xk _),cH _ (xk _)];have et:(gQ:Int).toNat=gQ:=rfl;rw[et];refine⟨_,(Gr.app _ _).keep _ _ (ag _ _),_,ag _ _,?_,?_⟩
  ·rw[yh,zD,zz,P1.n6];walk_at "o"
  rw[<- wQ,<- yd,<- zo];have g4:Gr M1 (M3++[MO.lst ((ns.drop gQ).map .str)]++[MO.lst ((ns.take gQ).map .str)]):=(g3.snoc _).snoc _;generalize M3++[MO.lst ((ns.drop gQ).map .str)]++[MO.lst ((ns.take gQ).map .str)]=M4 at g4 ⊢;refine bL (k+2) sc _ _ _ (nH m h0 (by decide)) (nG h1 mT (by decide)) (by decide) ?_;rw[OI];walk_at "wq";refine⟨_,ag _ _,?_⟩;rw[cH _ (xk _),<- yd];have et:(Me:Int).toNat=Me:=rfl;rw[et];walk_at "wq";generalize hA:(List.range (sV QU)).map (fun (j:Nat)=>lW sc (i+16*(m:Int)+4*(j:Int)) as vs)=A;generalize hB:(ns.drop gQ++ns.take gQ).take Me=B;have n5:(M4++[MO.lst ((ns.drop gQ++ns.take gQ).map .str)]++[MO.lst (B.map .str)])[(M4++[MO.lst ((ns.drop gQ++ns.take gQ).map .str)]).length]?=some (.lst (B.map .str)):=ag _ _;have g5:Gr M1 (M4++[MO.lst ((ns.drop gQ++ns.take gQ).map .str)]++[MO.lst (B.map .str)]):=(g4.snoc _).snoc _;generalize M4++[MO.lst ((ns.drop gQ++ns.take gQ).map .str)]++[MO.lst (B.map .str)]=M5 at n5 g5 ⊢;generalize (M4++[MO.lst ((ns.drop gQ++ns.take gQ).map .str)]).length=j9 at n5 ⊢;have R5:=R.keep g5;refine⟨_,R5.l,by rw[zz];walk_at "o",?_⟩;refine bt (fun n ys M'=>M'=M5/\ys=((E.take n).filter fun e=>okN e.2).map fun e=>.ob (e.1+1)) ⟨rfl,rfl⟩ (fun _ _ _ h=>h.1▸R5.l) ?_ ?_
  ·rintro n dd ys M' hd ⟨rfl,rfl⟩
   rw[zw]at hd;obtain⟨e,he,rfl⟩:=zu.mp hd;obtain⟨o1,o2,o3⟩:=R5.o e (zx he);have es:(E.take (n+1)).filter (fun e=>okN e.2)=(E.take n).filter (fun e=>okN e.2)++(if okN e.2 then [e] else []):=by
    rw[zR,he,xi];congr 1;show [e].filter _=_;rw[vb];rfl
   walk_at "wq";refine⟨_,o3,_,rfl,_,rfl,?_⟩;walk_at "wq";rw[es];have e4:decide ((e.2.d:Int)<4)=decide (e.2.d<4):=Jy;have e5:okN e.2=(decide (e.2.d<4)&&decide (e.2.kids.length<5)):=rfl;rw[e4,e5];refine⟨fun h=>?_,fun h=>by rw[h,xZ];simp⟩;rw[h];refine⟨_,o3,_,rfl,_,rfl,?_⟩;walk_at "wq";refine⟨_,o2,?_⟩;walk_at "wq";have e6:decide (lK (dW e.2)<5)=decide (e.2.kids.length<5):=by
    unfold dW;rw[mM,zz];exact Jy
   rw[e6,yE];exact⟨fun h=>by rw[h,zo];rfl,fun h=>by rw[h];simp⟩
  ·rintro ys M' ⟨rfl,rfl⟩
   rw[zz,zN];walk_at "wq";generalize hO:E.filter (fun e=>okN e.2)=O;refine⟨_,(Gr.app _ _).keep _ _ n5,zM _,bL (k+2) sc _ _ _ (nH m h0 (by decide)) (nG h1 mT (by decide)) (by decide) ?_⟩;walk_at "wq";refine⟨by walk_at "o",?_⟩;generalize hb:(bC sc (i+16*(m:Int)+15) 3==0)=fW;have N8:∀dd,mJ sc (i+16*(m:Int)) as vs ns dd m=⟨A,B,dd,[],fW,m⟩:=fun dd=>by
    unfold mJ;rw[J3,OJ,OI,<- hA,<- hB,<- hb];rfl
   have RW:A.length<=3/\∀a∈A,eD a as vs:=by rw[N8 0]at qV;exact qV
   have l0:M.length<M1.length:=aD R.l;have lE:∀e∈E,e.1+1<M1.length:=fun e he=>aD (R.o e he).2.2;generalize OF:M'++[MO.lst (O.map fun e=>D.ob (e.1+1))]=M6;have g6:Gr M1 M6:=OF▸g5.snoc _;have n6:M6[M'.length]?=some (.lst (O.map fun e=>D.ob (e.1+1))):=OF▸ag _ _;have k1:(M6++[MO.lst []]++[MO.lst [D.tup (A.map bo),D.tup (B.map .str),D.int 0,D.ob M6.length,D.bl fW]])[M6.length]?=some (dW ⟨A,B,0,[],fW,m⟩):=(Gr.app _ _).keep _ _ (ag _ _);have k2:(M6++[MO.lst []]++[MO.lst [D.tup (A.map bo),D.tup (B.map .str),D.int 0,D.ob M6.length,D.bl fW]])[M6.length+1]?=some (rT M6.length ⟨A,B,0,[],fW,m⟩):=by
    have:=ag (M6++[MO.lst []]) (MO.lst [D.tup (A.map bo),D.tup (B.map .str),D.int 0,D.ob M6.length,D.bl fW])
    rw[zm]at this;exact this
   have g7:Gr M6 (M6++[MO.lst []]++[MO.lst [D.tup (A.map bo),D.tup (B.map .str),D.int 0,D.ob M6.length,D.bl fW]]):=(Gr.app _ _).snoc _;have el:(M6++[MO.lst []]).length=M6.length+1:=zm;have l6:=g6.len;rw[el];generalize M6++[MO.lst []]++[MO.lst [D.tup (A.map bo),D.tup (B.map .str),D.int 0,D.ob M6.length,D.bl fW]]=M7 at k1 k2 g7 ⊢;have n7:=g7.keep _ _ n6;have R7:=R.keep (g6.trans g7);have G7:=g1.trans (g6.trans g7);generalize M6.length=kk at k1 k2 l6 ⊢;have lk:M.length<kk:=zB l0 l6;have lke:∀e∈E,e.1+1<kk:=fun e he=>zB (lE e he) l6;refine⟨fun h=>?_,fun h=>?_⟩
   ·have JR:m≠0:=by have:=of_decide_eq_true h;walk_at "o"
    have E6:=E6 JR;have sd:0<O.length:=by
     have:=HH E6 (by rw[zz,hl];exact mT)
     rw[wG,zz]at this;rw[<- hO];exact this
    obtain⟨y,e,y1,y2,y3,y4⟩:=PM sc (i+16*(m:Int)) E O hO sd (f:=fun e=>.ob (e.1+1));refine⟨_,n7,?_⟩;rw[mM,zz];refine bL (k+2) sc _ _ _ (nH m h0 (by decide)) (nG h1 mT (by decide)) (by walk_at "o") ?_;walk_at "wq";refine⟨by walk_at "o",bL (k+2) sc _ _ _ (nH m h0 (by decide)) (nG h1 mT (by decide)) (by decide) ?_⟩;walk_at "wq";refine⟨_,ag _ _,_,rfl,_,y1,?_⟩;walk_at "wq";refine⟨_,(Gr.app _ _).keep _ _ n7,_,rfl,_,y2,?_⟩;walk_at "wq";have g8:Gr M7 (M7++[MO.lst [D.int (-1),D.int (bC sc (i+16*(m:Int)+11) O.length)]]):=Gr.app _ _;generalize M7++[MO.lst [D.int (-1),D.int (bC sc (i+16*(m:Int)+11) O.length)]]=M8 at g8 ⊢;have R8:=R7.keep g8;have G8:=G7.trans g8;rw[<- hO]at y3;obtain⟨eE,Xb⟩:=yl.mp y3;obtain⟨a,RS⟩:=wM eE;have Ga:(E.map (·.2))[a]?=some e.2:=by rw[zw,RS];rfl
    have FZ:=nf.id _ _ Ga;obtain⟨o1,o2,o3⟩:=R8.o e eE;have hle:=lE e eE;refine⟨_,o3,_,rfl,_,rfl,?_⟩;walk_at "wq";have k2':M8[kk+1]?=some (MO.lst [D.tup (A.map bo),D.tup (B.map .str),D.int 0,D.ob kk,D.bl fW]):=g8.keep _ _ k2;refine⟨_,k2',?_⟩;walk_at "wq";refine⟨2,rfl,?_⟩;walk_at "wq";have R9:=R8.other (MO.lst [D.tup (A.map bo),D.tup (B.map .str),D.int ((e.2.d:Int)+1),D.ob kk,D.bl fW]) (j:=kk+1) (yb lk) fun e he=>yb (lke e he);have c1:(M8.set (kk+1) (MO.lst [D.tup (A.map bo),D.tup (B.map .str),D.int ((e.2.d:Int)+1),D.ob kk,D.bl fW]))[kk]?=some (dW ⟨A,B,e.2.d+1,[],fW,m⟩):=by
     rw[zj (xT kk)];exact g8.keep _ _ k1
    have c2:(M8.set (kk+1) (MO.lst [D.tup (A.map bo),D.tup (B.map .str),D.int ((e.2.d:Int)+1),D.ob kk,D.bl fW]))[kk+1]?=some (rT kk ⟨A,B,e.2.d+1,[],fW,m⟩):=bQ (g8.keep _ _ k2);have G9:Gr M (M8.set (kk+1) (MO.lst [D.tup (A.map bo),D.tup (B.map .str),D.int ((e.2.d:Int)+1),D.ob kk,D.bl fW])):=G8.set (vp (xn lk)) _;generalize M8.set (kk+1) (MO.lst [D.tup (A.map bo),D.tup (B.map .str),D.int ((e.2.d:Int)+1),D.ob kk,D.bl fW])=M9 at R9 c1 c2 G9 ⊢;obtain⟨o1,o2,o3⟩:=R9.o e eE;refine⟨_,o3,_,rfl,_,rfl,?_⟩;walk_at "wq";have Wz:e.2.kids.length<=5:=nf.k5 _ (zx Ga);refine⟨_,o2,_,o2,by rw[zz];walk_at "o",?_⟩;have ek:(MO.lst ((e.2.kids.map fun (n:Nat)=>D.int (n:Int))++[D.int (m:Int)]))=dW (dX e.2 m):=by
     unfold dW dX;rw[zo];rfl
    rw[ek];have Kf:=R9.upd (j:=e.1) (o:=dW (dX e.2 m)) (y:=dX e.2 m) RS (.inl rfl) (bQ o2) (by rw[zj (xT _).symm];exact o3);have c1':(M9.set e.1 (dW (dX e.2 m)))[kk]?=some (dW ⟨A,B,e.2.d+1,[],fW,m⟩):=by
     rw[zj (zd (vk (lke e eE)))];exact c1
    have c2':(M9.set e.1 (dW (dX e.2 m)))[kk+1]?=some (rT kk ⟨A,B,e.2.d+1,[],fW,m⟩):=by
     rw[zj (zd (yb (vk (lke e eE))))];exact c2
    have SJ:Gr M (M9.set e.1 (dW (dX e.2 m))):=G9.set (xn o1) _;generalize M9.set e.1 (dW (dX e.2 m))=Zw at Kf c1' c2' SJ ⊢;walk_at "wq";have em:(E.set a (e.1,dX e.2 m)).map (·.2)=(E.map (·.2)).set e.2.id (dX e.2 m):=by rw[xj,FZ]
    rw[<- FZ]at Ga;have BI:(E.map (·.2)).length=m:=by rw[zz,hl]
    refine⟨_,Kf.l,_,Kf.l,by rw[zz,yx];walk_at "o",SJ.set (zp _) _,⟨_,Kf.add c1' c2' lk fun z hz=>?_,?_,?_,?_⟩,_,_,_,_,_,_,_,_,rfl⟩
    ·rcases yf hz with hz|rfl
     ·exact lke z hz
     ·exact lke e eE
    ·rw[zo,em]
     have:=nf.add (u:=e.2) (new:=⟨A,B,e.2.d+1,[],fW,m⟩) Ga Xb BI.symm rfl rfl RW
     rw[BI]at this;exact this
    ·rw[zo,em,dA]
     unfold pK;rw[if_neg JR,<- eN,y4,N8];rfl
    ·intro _
     rw[zo,em];rw[<- E6];exact Lc (u:=e.2) (new:=⟨A,B,e.2.d+1,[],fW,m⟩) Ga rfl rfl m
   ·have JR:m=0:=by have:=of_decide_eq_false h;walk_at "o"
    subst JR;have hE:E=[]:=yS hl;refine⟨_,R7.l,_,R7.l,by rw[zz];walk_at "o",G7.set (zp _) _,⟨_,R7.add k1 k2 lk lke,?_,?_,?_⟩,_,_,_,_,_,_,_,_,rfl⟩
    ·rw[hE]
     refine⟨fun a x hx=>?_,fun x hx=>?_,fun x hx=>?_,fun x hx c hc=>?_,fun x hx h0=>?_,fun x hx=>by cases hx;rfl⟩
     ·have:=aD hx
      have:a=0:=by simpa using this
      subst this;cases hx;rfl
     all_goals
      rw[zA.mp hx]at *
     ·exact zM _
     ·exact zM _
     ·cases hc
     ·exact RW
    ·rw[hE,dA]
     unfold pK;rw[if_pos rfl,N8 0];rfl
    ·rw[hE]
     intro _;rfl
 ·rintro ρ M1 ⟨g1,⟨E,R,nf,eN,E6⟩,x5,x6,x7,x8,x9,mm,L8,L7,rfl⟩
  rw[cJ]at eN;walk_at "wq";exact q _ E M1 g1 (zp _) R nf (by rw[eN];congr 1)
end
end Law
namespace Law
open PySem L3
section
variable {srt:List D->Option (List D)}{as vs:List Str}
noncomputable def gj(x:Nd)(nm ot:Str):Nd:={ x with a:=[⟨"is",nm,[ot]⟩] }
noncomputable def cD(sc:List Int)(as vs ns:List Str)(ot:Str)(many:Nat):Tr:=iV 5 ((dA sc 28 as vs ns (many+1)).set 0 (gj ((dA sc 28 as vs ns (many+1)).getD 0 iX) (ns.getD 5 "") ot)) 0
theorem Qv{ns:List Str}(h:ns.length=6):cz (ns.map D.str) (-1)=some (.str (ns.getD 5 "")):=by
 unfold cz k8;rw[zz,h,if_neg (by decide),if_pos (by decide)];show (ns.map D.str)[5]?=_;rw[zw,zi,zv (by walk_at "o")];rfl
theorem tO(k:Nat)(sc:List Int)(many:Nat)(M:MH){d:D}{ns:List Str}{ot:Str}(P:gO M d as vs ns ot)(hm:many<=19){Q:D->MH->Prop}(q:∀M',Gr M M'->aW as vs 5 (cD sc as vs ns ot many)->Q (ar (cD sc as vs ns ot many)) M') :
  W ((cx srt (k+6)).fn "_law_tree" [.fl (sc.map .int),.int 28,.int (many:Int),d]) M Q:=by
 have big:=aw;rw[aA "_law_tree" 5 4 iB rfl,wf,iB];walk_at "wq";refine Lp k sc 28 many M P (by decide) (by decide) hm fun jN E M1 g1 hj R nf eN=>?_;obtain⟨ia,iv,iN,rfl,p2,p3,p4⟩:=(P.keep g1).is;have hl:E.length=many+1:=by rw[<- zz (f:=(·.2)),eN,qQ]
 have h0:∃e,E[0]?=some e:=⟨E[0],zv (by walk_at "o")⟩;obtain⟨e,he⟩:=h0;have hN:(E.map (·.2))[0]?=some e.2:=by rw[zw,he];rfl
 obtain⟨o1,o2,o3⟩:=R.o e (zx he);walk_at "wq";refine⟨_,p4,?_⟩;walk_at "wq";refine⟨_,Qv P.n6,by walk_at "o",?_⟩;refine⟨by walk_at "o",by walk_at "o",_,R.l,_,rfl,_,bB (j:=0) (by rw[zw,he];rfl),?_⟩;walk_at "wq";have o3':M1[e.1+1]?=some (MO.lst [.tup (e.2.a.map bo),.tup (e.2.n.map .str),.int (e.2.d:Int),.ob e.1,.bl e.2.b]):=o3;refine⟨_,o3',?_⟩;walk_at "wq";refine⟨0,rfl,?_⟩;walk_at "wq";have R2:=R.upd (j:=e.1+1) (o:=rT e.1 (gj e.2 (ns.getD 5 "") ot)) (y:=gj e.2 (ns.getD 5 "") ot) he (.inr rfl) (by rw[zj (by walk_at "o")];exact o2) (bQ o3);have em:(E.set 0 (e.1,gj e.2 (ns.getD 5 "") ot)).map (·.2)=(E.map (·.2)).set 0 (gj e.2 (ns.getD 5 "") ot):=xj;have Rc:NF as vs ((E.set 0 (e.1,gj e.2 (ns.getD 5 "") ot)).map (·.2)):=by
  rw[em];exact nf.set hN rfl rfl (.inr (nf.r0 _ hN)) rfl
 have Sh:(E.set 0 (e.1,gj e.2 (ns.getD 5 "") ot))[0]?=some (e.1,gj e.2 (ns.getD 5 "") ot):=zU (by walk_at "o");have et:iV 5 ((E.set 0 (e.1,gj e.2 (ns.getD 5 "") ot)).map (·.2)) 0=cD sc as vs ns ot many:=by
  unfold cD;rw[em,<- eN,qX hN]
 have hfit:=A5 Rc 5 0 (gj e.2 (ns.getD 5 "") ot) (by rw[zw,Sh];rfl) (wF _ _);rw[et]at hfit;have g2:Gr M (M1.set (e.1+1) (rT e.1 (gj e.2 (ns.getD 5 "") ot))):=g1.set (by walk_at "o") _;exact Jo 5 k _ jN _ 0 _ R2 Rc Sh (wF _ _) (zM _) (by rw[yx];walk_at "o") fun M3 g3=>by rw[et];exact q _ (g2.trans g3) hfit
end
end Law
namespace Law
open PySem L3
section
variable {srt:List D->Option (List D)}
noncomputable abbrev Vl:=Option Str
noncomputable def vD:Vl->D
 |none=>.non
 |some s=>.str s
noncomputable abbrev Kn:=List (Str×Vl)
noncomputable def fk(p:Str×Vl):D:=.tup [.str p.1,vD p.2]
noncomputable def bN(kn:Kn):D:=.tup (kn.map fk)
noncomputable def aI(kn:Kn)(n:Str):Bool:=kn.any fun p=>p.1==n
noncomputable def aX(kn:Kn)(n:Str):Vl:=((kn.find? fun p=>decide (p.1=n)).map (·.2)).getD (some ("":Str))
noncomputable def mO(vs:List Str)(v:Vl):Bool:=match v with
 |none=>false
 |some s=>vs.contains s
noncomputable def dO(a:Ask)(v:Vl):Bool:=if a.w = "is" then mO a.vs v else if a.w = "no" then !mO a.vs v else if a.w = "there" then !decide (v=some ("":Str)) else decide (v=some ("":Str))
noncomputable def iq(a:Ask)(kn:Kn):Bool:=if a.w = "is" then mO a.vs (aX kn a.n) else if a.w = "no" then !mO a.vs (aX kn a.n) else if a.w = "there" then aI kn a.n else !aI kn a.n
theorem qZ(v:Vl):bV (vD v)=true:=by cases v <;> rfl
theorem OT(v w:Vl):eY (vD v) (vD w)=decide (v=w):=by
 cases v with
 |none=>cases w <;> simp[vD,eY]
 |some s =>
  cases w with
  |none=>simp[vD,eY]
  |some r =>
   show (s==r)=_;rw[yi];simp
theorem D5{M:MH}{n:Nat}(v w:Vl):bA M (n+1) (vD v) (vD w)=some (decide (v=w)):=by rw[rg (qZ v) (qZ w),OT]
theorem lO{M:MH}(vs:List Str)(v:Vl):iY M (vD v) (vs.map .str)=some (mO vs v):=by
 rw[uZ (qZ v) (by rw[xJ,zS];exact fun _ _=>rfl)];congr 1;rw[wD];cases v with
 |none =>
  show (vs.any fun x=>eY (.str x) .non)=false;rw[ya];exact fun x _=>by simp[eY]
 |some s =>
  show (vs.any fun x=>x==s)=vs.contains s;rw[List.contains_eq_any_beq];congr 1;funext x;exact Bool.beq_comm
theorem iJ(k:Nat)(M:MH)(kn:Kn)(n:Str)(hl:kn.length<=1000){Q:D->MH->Prop}(q:∀M',Gr M M'->Q (.bl (aI kn n)) M'):W ((cx srt (k+1)).fn "has_name" [bN kn,.str n]) M Q:=by
 have big:=aw;rw[aA "has_name" 2 2 jg rfl,wf,jg,bN];walk_at "wq";refine⟨by rw[zz];walk_at "o",?_⟩;refine bt (fun j ys M'=>M'=M/\ys=((kn.take j).map fun p=>p.1==n).map D.bl) ⟨rfl,rfl⟩ (fun _ _ _ _=>trivial) ?_ ?_
 ·rintro j d ys M' hd ⟨rfl,rfl⟩
  rw[zw]at hd;obtain⟨p,hp,rfl⟩:=zu.mp hd;unfold fk;walk_at "wq";rw[zR,hp];simp
 ·rintro ys M' ⟨rfl,rfl⟩
  rw[zz,zN];walk_at "wq";refine⟨_,ag _ _,_,gn _,?_⟩;rw[wD];exact q _ (Gr.app _ _)
theorem rA(k:Nat)(M:MH)(kn:Kn)(n:Str){Q:D->MH->Prop}(q:Q (vD (aX kn n)) M):W ((cx srt (k+1)).fn "value_in" [bN kn,.str n]) M Q:=by
 rw[aA "value_in" 3 2 jb rfl,wf,jb,bN];walk_at "wq";refine bw (fun j ρ M'=>M'=M/\(∀p∈kn.take j,p.1≠n)/\∃x,ρ=[some (.tup (kn.map fk)),some (.str n),x]) ⟨rfl,by simp,none,rfl⟩ (fun _ _ _ _=>trivial) ?_ ?_
 ·rintro j d ρ M' hd ⟨rfl,b6,x,rfl⟩
  rw[zw]at hd;obtain⟨p,hp,rfl⟩:=zu.mp hd;obtain⟨aS,hg⟩:=zn.mp hp;unfold fk;walk_at "wq";refine⟨fun h=>?_,fun h=>⟨fun y hy=>?_,_,rfl⟩⟩
  ·have e:kn.find? (fun p=>decide (p.1=n))=some p:=by
    rw[List.find?_eq_some_iff_getElem];refine⟨by simpa using h,j,aS,hg,fun i hi=>?_⟩;simpa using b6 kn[i] (wn.mpr ⟨i,by walk_at "o",rfl⟩)
   unfold aX at q;rw[e]at q;exact q
  ·rw[zR,hp]at hy
   rcases zL.mp hy with hy|hy
   ·exact b6 y hy
   ·simp at hy
    subst hy;simpa using h
 ·rintro ρ M' ⟨rfl,b6,x,rfl⟩
  rw[zz,zN]at b6;walk_at "wq";unfold aX at q;rw[yX.mpr (fun p hp=>by simpa using b6 p hp)]at q;exact q
theorem Bv(k:Nat)(M:MH)(a:Ask)(kn:Kn)(hl:kn.length<=1000){Q:D->MH->Prop}(q:∀M',Gr M M'->Q (.bl (iq a kn)) M'):W ((cx srt (k+2)).fn "meets" [bo a,bN kn]) M Q:=by
 rw[aA "meets" 5 2 nY rfl,wf,nY];unfold bo;unfold iq at q;walk_at "wq";refine⟨fun h1=>?_,fun h1=>⟨fun h2=>?_,fun h2=>⟨fun h3=>?_,fun h3=>?_⟩⟩⟩
 ·rw[if_pos (by simpa using h1)]at q
  walk_at "wq";refine rA k M kn a.n ?_;walk_at "wq";rw[lO];exact⟨_,rfl,q _ Gr.refl⟩
 ·rw[if_neg (by simpa using h1),if_pos (by simpa using h2)]at q
  walk_at "wq";refine rA k M kn a.n ?_;walk_at "wq";rw[lO];exact⟨_,rfl,q _ Gr.refl⟩
 ·rw[if_neg (by simpa using h1),if_neg (by simpa using h2),if_pos (by simpa using h3)]at q
  walk_at "wq";refine iJ k M kn a.n hl fun M' g=>?_;walk_at "wq";exact q _ g
 ·rw[if_neg (by simpa using h1),if_neg (by simpa using h2),if_neg (by simpa using h3)]at q
  walk_at "wq";refine iJ k M kn a.n hl fun M' g=>?_;walk_at "wq";exact q _ g
theorem DM(k:Nat)(M:MH)(xs:List Ask)(kn:Kn)(hx:xs.length<=1000)(hl:kn.length<=1000){Q:D->MH->Prop}(q:∀M',Gr M M'->Q (.bl (xs.all fun a=>iq a kn)) M'):W ((cx srt (k+3)).fn "meets_all" [.tup (xs.map bo),bN kn]) M Q:=by
 have big:=aw;rw[aA "meets_all" 2 2 iy rfl,wf,iy];walk_at "wq";refine⟨by rw[zz];walk_at "o",?_⟩;refine bt (fun j ys M'=>Gr M M'/\ys=((xs.take j).map fun a=>iq a kn).map D.bl) ⟨Gr.refl,rfl⟩ (fun _ _ _ _=>trivial) ?_ ?_
 ·rintro j d ys M' hd ⟨g,rfl⟩
  rw[zw]at hd;obtain⟨a,ha,rfl⟩:=zu.mp hd;walk_at "wq";refine Bv k M' a kn hl fun M2 g2=>?_;rw[zR,ha];exact⟨g.trans g2,by simp⟩
 ·rintro ys M' ⟨g,rfl⟩
  rw[zz,zN];walk_at "wq";refine⟨_,ag _ _,_,gn _,?_⟩;rw[xJ];exact q _ (g.snoc _)
noncomputable def bD(kn:Kn):Kn:=kn.filter fun p=>!decide (p.2=some ("":Str))
theorem jI(k:Nat)(M:MH)(kn:Kn)(hl:kn.length<=1000){Q:D->MH->Prop}(q:∀M',Gr M M'->Q (bN (bD kn)) M'):W ((cx srt (k+1)).fn "marks_split" [bN kn]) M Q:=by
 have big:=aw;rw[aA "marks_split" 1 1 fG rfl,wf,fG,bN];walk_at "wq";refine⟨by rw[zz];walk_at "o",?_⟩;refine bt (fun j ys M'=>M'=M/\ys=(bD (kn.take j)).map fk) ⟨rfl,rfl⟩ (fun _ _ _ _=>trivial) ?_ ?_
 ·rintro j d ys M' hd ⟨rfl,rfl⟩
  rw[zw]at hd;obtain⟨p,hp,rfl⟩:=zu.mp hd;have ep:fk p=.tup [.str p.1,vD p.2]:=rfl;rw[ep];walk_at "wq";rw[iP];refine⟨_,D5 p.2 (some ("":Str)),?_⟩;unfold bD;rw[zR,hp,xi,zo];walk_at "wq";refine⟨fun h=>?_,fun h=>?_⟩
  ·simp[h,ep]
  ·simp[h]
 ·rintro ys M' ⟨rfl,rfl⟩
  rw[zz,zN];walk_at "wq";exact⟨_,ag _ _,q _ (Gr.app _ _)⟩
theorem pf(k:Nat)(M:MH)(a:Ask)(v:Vl){Q:D->MH->Prop}(q:Q (.bl (dO a v)) M):W ((cx srt (k+1)).fn "_law_met" [bo a,vD v]) M Q:=by
 rw[aA "_law_met" 2 2 ji rfl,wf,ji];unfold bo;unfold dO at q;walk_at "wq";refine⟨fun h1=>?_,fun h1=>⟨fun h2=>?_,fun h2=>?_⟩⟩
 ·rw[if_pos (by simpa using h1)]at q
  walk_at "wq";rw[lO];exact⟨_,rfl,q⟩
 ·rw[if_neg (by simpa using h1),if_pos (by simpa using h2)]at q
  walk_at "wq";rw[lO];exact⟨_,rfl,q⟩
 ·rw[if_neg (by simpa using h1),if_neg (by simpa using h2)]at q
  walk_at "wq";rw[iP];refine⟨_,D5 v (some ("":Str)),?_⟩;walk_at "wq";have e:((!decide (v=some ("":Str)))==(a.w=="there"))=(if a.w = "there" then !decide (v=some ("":Str)) else decide (v=some ("":Str))):=by
   split
   ·rename_i h;rw[h];simp
   ·rename_i h
    have:(a.w=="there")=false:=by simpa using h
    rw[this];cases decide (v=some ("":Str)) <;> rfl
  rw[e];exact q
theorem lL{kn:Kn}{n:Str}(h:aI kn n=true):∃p,kn.find? (fun p=>decide (p.1=n))=some p/\p∈kn/\p.1=n:=by
 unfold aI at h;rw[yF]at h;obtain⟨p,hp,e⟩:=h;cases hf:kn.find? (fun p=>decide (p.1=n)) with
 |none=>exact absurd (by simpa using e) (by simpa using yX.mp hf p hp)
 |some r=>exact⟨r,rfl,List.mem_of_find?_eq_some hf,by simpa using List.find?_some hf⟩
theorem jx{kn:Kn}(nd:(kn.map (·.1)).Nodup):∀{p:Str×Vl},p∈kn->aX kn p.1=p.2/\aI kn p.1=true:=by
 induction kn with
 |nil=>intro p h;cases h
 |cons a r ih =>
  intro p hp;rw[zG,xx]at nd;unfold aX aI;rw[yj,yP];rcases zc.mp hp with rfl|hp
  ·simp
  ·have b6:¬ a.1=p.1:=fun z=>nd.1 (z▸yK hp)
   have:=ih nd.2 hp
   unfold aX aI at this;rw[decide_eq_false b6];exact⟨this.1,by rw[this.2,vZ]⟩
theorem uN{kn:Kn}(nd:(kn.map (·.1)).Nodup){a:Ask}(h:aI kn a.n=true):iq a (bD kn)=dO a (aX kn a.n):=by
 obtain⟨p,hf,hp,hn⟩:=lL h;have e1:aX kn a.n=p.2:=by unfold aX;rw[hf];rfl
 have nd':((bD kn).map (·.1)).Nodup:=(xX.map _).nodup nd;have key:aX (bD kn) a.n=p.2/\aI (bD kn) a.n=!decide (p.2=some ("":Str)):=by
  by_cases z:p.2=some ("":Str)
  ·have kg:∀r∈bD kn,¬ r.1=a.n:=fun r hr e=>by
    obtain⟨h1,h2⟩:=yl.mp hr
    have:=(jx nd h1).1
    rw[e,e1]at this;rw[<- this,z]at h2;simp at h2
   refine⟨?_,?_⟩
   ·unfold aX
    rw[yX.mpr (fun r hr=>by simpa using kg r hr),z];rfl
   ·rw[z]
    unfold aI;rw[ya.mpr (fun r hr=>by simpa using kg r hr)];simp
  ·have hm:p∈bD kn:=yl.mpr ⟨hp,by simpa using z⟩
   have:=jx nd' hm
   rw[hn]at this;rw[decide_eq_false z];exact this
 unfold iq dO;rw[key.1,key.2,e1];split
 ·rfl
 ·split
  ·rfl
  ·split
   ·rfl
   ·simp
end
end Law
namespace Law
open PySem L3
section
variable {srt:List D->Option (List D)}{as vs:List Str}
noncomputable def dP:Tr->Bool
 |.mk _ on _ _ _ _=>on
theorem pG(t:Tr):∃c p r,ar t=.tup [.tup ((bj t).map bo),.bl (dP t),c,p,r,.tup [],.tup ((ay t).map ar)]:=by
 cases t with
 |mk xs on b p r rows=>exact⟨_,_,_,by rw[ar,kI];rfl⟩
theorem y7{M:MH}{n:Nat}:∀a b:List Int,c9 (bA M (n+1)) (a.map .int) (b.map .int)=some (decide (a=b))
 |[],[]=>by simp[c9]
 |[],_::_=>by simp[c9]
 |_::_,[]=>by simp[c9]
 |x::a,y::b=>by
  rw[zG,zG,c9,y9,y7 a b];show some ((x==y)&&decide (a=b))=_;congr 1;rw[yi];simp
theorem lT{M:MH}{n:Nat}(a b:List Int):bA M (n+2) (.tup (a.map .int)) (.tup (b.map .int))=some (decide (a=b)):=by rw[Gn,y7]
theorem JH{M:MH}(p:List Int):∀ps:List (List Int),iY M (ai p) (ps.map ai)=some (ps.contains p)
 |[]=>rfl
 |r::ps=>by
  have e:bA M 8 (ai r) (ai p)=some (decide (r=p)):=lT r p;rw[zG,iY,e,JH p ps,wX];show some (decide (r=p)||ps.contains p)=some ((p==r)||ps.contains p);congr 2;rw[yi,decide_eq_true_eq,beq_iff_eq];exact⟨Eq.symm,Eq.symm⟩
theorem LR{α:Type}(xs:List α):cutD xs none (some (-1))=xs.dropLast:=by
 unfold cutD;simp only[d6];rw[if_pos (by decide),xK,List.dropLast_eq_take];congr 1;walk_at "o"
theorem at_neg{α:Type}{xs:List α}{y:α}(h:xs.getLast?=some y):cz xs (-1)=some y:=by
 have b6:xs≠[]:=fun z=>by rw[z]at h;cases h
 have hl:0<xs.length:=List.length_pos_iff.mpr b6;unfold cz k8;rw[if_neg (by decide),if_pos (by walk_at "o")];show xs[(-1+(xs.length:Int)).toNat]?=_;rw[show (-1+(xs.length:Int)).toNat=xs.length-1 by walk_at "o",<- h,List.getLast?_eq_getElem?]
noncomputable def cw(a p:List Int):Bool:=!decide (a=[])&&decide (p.take a.length=a)
theorem Fx(k:Nat)(M:MH)(a p:List Int){Q:D->MH->Prop}(q:Q (.bl (cw a p)) M):W ((cx srt (k+1)).fn "lies_above" [ai a,ai p]) M Q:=by
 rw[aA "lies_above" 2 2 gE rfl,wf,gE,ai,ai];walk_at "wq";refine⟨zM _,?_⟩;rw[iP];have e0:bA M 20 (.tup (a.map D.int)) (.tup [])=some (decide (a=[])):=lT a [];refine⟨_,e0,?_⟩;unfold cw at q;walk_at "wq";refine⟨fun h=>?_,fun h=>?_⟩
 ·rw[zz,cH _ (by walk_at "o"),zV,<- yd,jG]
  refine⟨_,lT _ _,?_⟩;rw[h,yE]at q;exact q
 ·rw[h]at q
  exact q
noncomputable def bc(a p:List Int)(on:Bool):Bool:=if a=[] then false else if a.dropLast=p then true else if ¬ p.take a.dropLast.length=a.dropLast\/p.getD a.dropLast.length 0<=a.getLastD 0 then false else !on
theorem A6(k:Nat)(M:MH){n:Nat}(t s:Tr)(fit:aW as vs n t)(a p:List Int)(hs:aH t a=some s){Q:D->MH->Prop}(q:Q (.bl (bc a p (dP s))) M):W ((cx srt (k+2)).fn "takes_away" [ar t,ai a,ai p]) M Q:=by
 have big:=aw;rw[aA "takes_away" 4 3 gA rfl,wf,gA];have ea:ai a=.tup (a.map .int):=rfl;have ep:ai p=.tup (p.map .int):=rfl;rw[ea,ep];walk_at "wq";refine⟨zM _,?_⟩;rw[jG];have e0:bA M 20 (.tup (a.map D.int)) (.tup [])=some (decide (a=[])):=lT a [];refine⟨_,e0,?_⟩;unfold bc at q;walk_at "wq";refine⟨fun h=>?_,fun h=>?_⟩
 ·rw[if_pos (of_decide_eq_true h)]at q
  exact q
 ·have b6:=of_decide_eq_false h
  rw[if_neg b6]at q;rw[LR,<- List.map_dropLast,jG];refine⟨_,lT _ _,?_⟩;walk_at "wq";refine⟨fun h2=>?_,fun h2=>?_⟩
  ·rw[if_pos (of_decide_eq_true h2)]at q
   exact q
  ·have h2':=of_decide_eq_false h2
   rw[if_neg h2']at q;rw[zz,cH _ (by walk_at "o"),zV,<- yd,iP];refine⟨_,lT _ _,?_⟩;walk_at "wq";refine⟨fun h3=>?_,fun h3=>?_⟩
   ·have:¬ p.take a.dropLast.length=a.dropLast:=by simpa using h3
    rw[if_pos (.inl this)]at q;exact q
   ·have h3':p.take a.dropLast.length=a.dropLast:=by simpa using h3
    obtain⟨y,hy⟩:∃y,a.getLast?=some y:=⟨_,xW b6⟩;have aS:a.dropLast.length<p.length:=by
     refine wY ?_ fun z=>h2' ?_
     ·have:=congrArg List.length h3'
      rw[zD]at this;walk_at "o"
     ·rw[<- h3',z,zN]
    have hd:p[a.dropLast.length]?=some p[a.dropLast.length]:=zv aS;have BY:p.getD a.dropLast.length 0=p[a.dropLast.length]:=by rw[zi,hd];rfl
    have Xe:a.getLastD 0=y:=by rw[xb,hy];rfl
    rw[BY,Xe]at q;generalize p[a.dropLast.length]=z at hd q;refine⟨_,at_neg (by rw[List.getLast?_map,hy];rfl),_,bB (by rw[zw,zz,hd];rfl),?_⟩;walk_at "wq";refine⟨fun h4=>?_,fun h4=>?_⟩
    ·rw[if_pos (.inr (of_decide_eq_true h4))]at q
     exact q
    ·rw[if_neg (not_or.mpr ⟨fun w=>w h3',of_decide_eq_false h4⟩)]at q
     rw[<- ea];refine kN k M t s a hs fit ?_;obtain⟨c,pp,r,et⟩:=pG s;rw[et];walk_at "wq";exact q
end
end Law
namespace Law
open PySem L3
section
variable {srt:List D->Option (List D)}{as vs:List Str}
theorem Bk{rec:Tr->List Int->List (List Int)}{p:List Int}:∀(ts:List Tr) (k i:Nat) (t:Tr) (pl:List Int),ts[i]?=some t->pl∈rec t (p++[((k+i:Nat):Int)])->pl∈eJ rec p k ts
 |[],_,_,_,_,h,_=>by cases h
 |s::ts,k,0,t,pl,h,hp=>by
  cases h;rw[eJ];exact yo _ hp
 |s::ts,k,i+1,t,pl,h,hp=>by
  rw[eJ];exact zW _ (Bk ts (k+1) i t pl (by simpa using h) (by rw[show k+1+i=k+(i+1) by walk_at "o"];exact hp))
theorem uC:∀(n:Nat) (t:Tr) (p q:List Int) (s:Tr),aW as vs n t->aH t q=some s->p++q∈cW n t p
 |0,_,_,_,_,h,_=>h.elim
 |n+1,t,p,[],s,_,_=>by rw[zO,cW];exact zJ
 |n+1,t,p,i::q,s,h,e=>by
  obtain⟨m,r,rfl,h1,h2⟩:=bZ e;rw[cW];refine zI _ (Bk _ 0 m r _ h1 ?_)
  have:=uC n r (p++[(m:Int)]) q s (h.2 r (zx h1)).2 h2
  rw[xl]
  rwa [yz]at this
theorem kQ{t:Tr}(fit:aW as vs 5 t)(a:List Int):(cW 5 t []).contains a=(aH t a).isSome:=by
 rw[yi,zT];refine⟨fun h=>?_,fun h=>?_⟩
 ·rw[il]at h
  rcases zc.mp h with rfl|h
  ·rfl
  ·obtain⟨s,hs,_⟩:=mE fit h
   rw[hs];rfl
 ·obtain⟨s,hs⟩:=yw.mp h
  have:=uC 5 t [] a s fit hs
  exact this
theorem EU{t:Tr}(fit:aW as vs 5 t){a:List Int}{s:Tr}(hs:aH t a=some s)(b6:a≠[]):Kh as vs s:=by
 have h:=uC 5 t [] a s fit hs;rw[il]at h;rcases zc.mp h with e|h
 ·exact absurd e b6
 ·obtain⟨s',hs',ok⟩:=mE fit h
  rw[xE]at hs';rw[hs]at hs';cases hs';exact ok
noncomputable def cb(kn:Kn):List (Ky×D):=kn.map fun p=>(.inr p.1,vD p.2)
theorem pX(kn:Kn)(n:Str):bq (cb kn) (.inr n)=if aI kn n=true then some (vD (aX kn n)) else none:=by
 unfold bq cb aI aX;induction kn with
 |nil=>rfl
 |cons p r ih =>
  rw[zG,yj,yP,yj];by_cases e:p.1=n
  ·subst e;simp
  ·have e1:decide ((Sum.inr p.1:Ky)=.inr n)=false:=decide_eq_false fun z=>e (Sum.inr.inj z)
   have e2:(p.1==n)=false:=by simpa using e
   rw[e1,e2,decide_eq_false e];exact ih
theorem qU(kn:Kn)(n:Str):(bq (cb kn) (.inr n)).isSome=aI kn n:=by
 rw[pX];split
 ·rename_i h;rw[h];rfl
 ·rename_i h
  have h:aI kn n=false:=by simpa using h
  rw[h];rfl
theorem sQ{kvs:List (Ky×D)}{n:Str}{M:MH}{B:Bool->MH->Prop}(q:B (bq kvs (.inr n)).isSome M):W (do let k<-lift (some (Sum.inr n));pure (bq kvs k).isSome:Mo Bool) M B:=⟨_,_,rfl,q⟩
noncomputable def jJ(s:Tr)(kn:Kn):Bool:=(bj s).any fun a=>aI kn a.n&&!dO a (aX kn a.n)
noncomputable def lZ(s:Tr)(kn:Kn):Bool:=(bj s).all fun a=>aI kn a.n&&dO a (aX kn a.n)
theorem LB(k:Nat)(M:MH)(t s:Tr)(a:List Int)(hs:aH t a=some s)(jk:Nat)(kn:Kn)(hk:M[jk]?=some (.aO (cb kn))){Q:D->MH->Prop}(q:Q (.bl (jJ s kn)) M):W ((cx srt (k+2)).fn "_law_lower" [ar t,ai a,.ob jk]) M Q:=by
 rw[aA "_law_lower" 4 3 gN rfl,wf,gN];walk_at "wq";refine jq k M t s a hs ?_;obtain⟨eb,ec,ep,er,et⟩:=dn s;rw[et];walk_at "wq";refine bw (fun m ρ M'=>M'=M/\((bj s).take m).any (fun a=>aI kn a.n&&!dO a (aX kn a.n))=false/\∃x3,ρ=[some (ar t),some (ai a),some (.ob jk),x3]) ⟨rfl,rfl,_,rfl⟩ (fun _ _ _ _=>trivial) ?_ ?_
 ·rintro m d ρ M' hd ⟨rfl,kg,x3,rfl⟩
  rw[zw]at hd;obtain⟨x,hx,rfl⟩:=zu.mp hd;have eX:bo x=.tup [.str x.w,.str x.n,.tup (x.vs.map .str)]:=rfl;have step:(aI kn x.n&&!dO x (aX kn x.n))=false->((bj s).take (m+1)).any (fun a=>aI kn a.n&&!dO a (aX kn a.n))=false:=fun h=>by
   rw[zR,hx,vI,kg,vP];show (([x]:List Ask).any _)=false;rw[yP,h];rfl
  rw[eX];walk_at "wq";refine⟨_,hk,sQ ?_⟩;rw[qU];walk_at "wq";refine⟨fun h=>?_,fun h=>⟨step (by rw[h];rfl),_,rfl⟩⟩;have hg:bq (cb kn) (.inr x.n)=some (vD (aX kn x.n)):=by rw[pX,if_pos h]
  walk_at "wq";refine⟨_,hk,_,rfl,_,hg,?_⟩;rw[<- eX];refine pf k M' x _ ?_;walk_at "wq";refine⟨fun h2=>?_,fun h2=>⟨step (by rw[h];simpa using h2),_,by rw[eX]⟩⟩
  have:jJ s kn=true:=by
   unfold jJ;rw[yF];exact⟨x,zx hx,by rw[h];simpa using h2⟩
  rw[this]at q;exact q
 ·rintro ρ M' ⟨rfl,kg,x3,rfl⟩
  rw[zz,zN]at kg;walk_at "wq";unfold jJ at q;rw[kg]at q;exact q
theorem Kw(k:Nat)(M:MH)(t s:Tr)(a:List Int)(hs:aH t a=some s)(jk:Nat)(kn:Kn)(hk:M[jk]?=some (.aO (cb kn))){Q:D->MH->Prop}(q:Q (.bl (lZ s kn)) M):W ((cx srt (k+2)).fn "_law_upper" [ar t,ai a,.ob jk]) M Q:=by
 rw[aA "_law_upper" 4 3 gH rfl,wf,gH];walk_at "wq";refine jq k M t s a hs ?_;obtain⟨eb,ec,ep,er,et⟩:=dn s;rw[et];walk_at "wq";refine bw (fun m ρ M'=>M'=M/\((bj s).take m).all (fun a=>aI kn a.n&&dO a (aX kn a.n))=true/\∃x3,ρ=[some (ar t),some (ai a),some (.ob jk),x3]) ⟨rfl,rfl,_,rfl⟩ (fun _ _ _ _=>trivial) ?_ ?_
 ·rintro m d ρ M' hd ⟨rfl,kg,x3,rfl⟩
  rw[zw]at hd;obtain⟨x,hx,rfl⟩:=zu.mp hd;have eX:bo x=.tup [.str x.w,.str x.n,.tup (x.vs.map .str)]:=rfl;have step:(aI kn x.n&&dO x (aX kn x.n))=true->((bj s).take (m+1)).all (fun a=>aI kn a.n&&dO a (aX kn a.n))=true:=fun h=>by
   rw[zR,hx,List.all_append,kg,yE];show (([x]:List Ask).all _)=true;rw[zX,h];rfl
  have bad:(aI kn x.n&&dO x (aX kn x.n))=false->lZ s kn=false:=fun h=>by
   unfold lZ;rw[xN];exact⟨x,zx hx,by rw[h];exact zk⟩
  rw[eX];walk_at "wq";refine⟨_,hk,sQ ?_⟩;rw[qU];walk_at "wq";refine⟨fun h=>?_,fun h=>?_⟩
  ·have h:aI kn x.n=false:=by simpa using h
   rw[bad (by rw[h];rfl)]at q;exact q
  have h:aI kn x.n=true:=by simpa using h
  have hg:bq (cb kn) (.inr x.n)=some (vD (aX kn x.n)):=by rw[pX,if_pos h]
  walk_at "wq";refine⟨_,hk,_,rfl,_,hg,?_⟩;rw[<- eX];refine pf k M' x _ ?_;walk_at "wq";refine⟨fun h2=>?_,fun h2=>⟨step (by rw[h];simpa using h2),_,by rw[eX]⟩⟩;rw[bad (by rw[h];simpa using h2)]at q;exact q
 ·rintro ρ M' ⟨rfl,kg,x3,rfl⟩
  rw[zz,zN]at kg;walk_at "wq";unfold lZ at q;rw[kg]at q;exact q
theorem Aq{α:Type}{p q:α->Bool}:∀{l:List α},(∀x∈l,p x=q x)->l.any p=l.any q
 |[],_=>rfl
 |x::l,h=>by rw[yP,yP,h x zJ,Aq fun y hy=>h y (zI _ hy)]
theorem NJ{kn:Kn}(nd:(kn.map (·.1)).Nodup)(s:Tr):((bj s).any fun a=>aI kn a.n&&!iq a (bD kn))=jJ s kn:=Aq fun a _=>by
 cases h:aI kn a.n with
 |false=>rfl
 |true=>rw[uN nd h]
theorem up_eq{kn:Kn}(nd:(kn.map (·.1)).Nodup)(s:Tr):(((bj s).all fun a=>aI kn a.n)&&(bj s).all fun a=>iq a (bD kn))=lZ s kn:=by
 unfold lZ;induction bj s with
 |nil=>rfl
 |cons a r ih =>
  rw[zX,zX,zX,<- ih];cases h:aI kn a.n with
  |false=>simp
  |true =>
   rw[uN nd h];cases dO a (aX kn a.n) <;> simp
theorem BW(k:Nat)(M:MH)(t s:Tr)(fit:aW as vs 5 t)(a p:List Int)(hs:aH t a=some s)(kn:Kn)(nd:(kn.map (·.1)).Nodup)(hl:kn.length<=1000){Q:D->MH->Prop}(q:∀M',Gr M M'->Q (.bl (cw a p&&jJ s kn)) M'):W ((cx srt (k+3)).fn "fails" [ar t,ai a,ai p,bN kn]) M Q:=by
 have big:=aw;rw[aA "fails" 5 4 nZ rfl,wf,nZ];walk_at "wq";refine Fx (k+1) M a p ?_;walk_at "wq";refine⟨fun h=>?_,fun h=>?_⟩
 ·have h:cw a p=false:=by simpa using h
  rw[h]at q;exact q _ Gr.refl
 have h:cw a p=true:=by simpa using h
 have b6:a≠[]:=fun z=>by rw[z]at h;cases h
 obtain⟨ol,_⟩:=EU fit hs b6;rw[h,yE]at q;walk_at "wq";refine jI (k+1) M kn hl fun M1 g1=>?_;walk_at "wq";refine kN (k+1) M1 t s a hs fit ?_;obtain⟨eb,ec,ep,er,et⟩:=dn s;rw[et];walk_at "wq";refine⟨by rw[zz];walk_at "o",?_⟩;refine bt (fun j ys M'=>Gr M1 M'/\ys=(((bj s).take j).map fun a=>aI kn a.n&&!iq a (bD kn)).map D.bl) ⟨Gr.refl,rfl⟩ (fun _ _ _ _=>trivial) ?_ ?_
 ·rintro j d ys M' hd ⟨g,rfl⟩
  rw[zw]at hd;obtain⟨x,hx,rfl⟩:=zu.mp hd;have eX:bo x=.tup [.str x.w,.str x.n,.tup (x.vs.map .str)]:=rfl;rw[zR,hx,zo,zo,eX];walk_at "wq";refine iJ (k+1) M' kn x.n hl fun M2 g2=>?_;walk_at "wq";refine⟨fun h2=>?_,fun h2=>⟨g.trans g2,by simp[h2]⟩⟩;rw[<- eX];refine Bv k M2 x _ (by unfold bD;exact zP (xz _ _) hl) fun M3 g3=>?_;walk_at "wq";exact⟨(g.trans g2).trans g3,by simp[h2]⟩
 ·rintro ys M' ⟨g,rfl⟩
  rw[zz,zN];walk_at "wq";refine⟨_,ag _ _,_,gn _,?_⟩;rw[wD]
  have:=q _ ((g1.trans g).snoc (MO.lst (((bj s).map fun a=>aI kn a.n&&!iq a (bD kn)).map D.bl)))
  rw[<- NJ nd]at this;exact this
theorem Af(k:Nat)(M:MH)(t s:Tr)(fit:aW as vs 5 t)(a p:List Int)(hs:aH t a=some s)(kn:Kn)(nd:(kn.map (·.1)).Nodup)(hl:kn.length<=1000){Q:D->MH->Prop}(q:∀M',Gr M M'->Q (.bl (bc a p (dP s)&&lZ s kn)) M'):W ((cx srt (k+4)).fn "is_caught" [ar t,ai a,ai p,bN kn]) M Q:=by
 have big:=aw;rw[aA "is_caught" 5 4 iz rfl,wf,iz];walk_at "wq";refine A6 (k+1) M t s fit a p hs ?_;walk_at "wq";refine⟨fun h=>?_,fun h=>?_⟩
 ·have h:bc a p (dP s)=false:=by simpa using h
  rw[h]at q;exact q _ Gr.refl
 have h:bc a p (dP s)=true:=by simpa using h
 have b6:a≠[]:=fun z=>by rw[z]at h;cases h
 obtain⟨ol,_⟩:=EU fit hs b6;rw[h,yE,<- up_eq nd]at q;walk_at "wq";refine kN (k+2) M t s a hs fit ?_;obtain⟨eb,ec,ep,er,et⟩:=dn s;rw[et];walk_at "wq";refine⟨by rw[zz];walk_at "o",?_⟩;refine bt (fun j ys M'=>Gr M M'/\ys=(((bj s).take j).map fun a=>aI kn a.n).map D.bl) ⟨Gr.refl,rfl⟩ (fun _ _ _ _=>trivial) ?_ ?_
 ·rintro j d ys M' hd ⟨g,rfl⟩
  rw[zw]at hd;obtain⟨x,hx,rfl⟩:=zu.mp hd;have eX:bo x=.tup [.str x.w,.str x.n,.tup (x.vs.map .str)]:=rfl;rw[zR,hx,zo,zo,eX];walk_at "wq";refine iJ (k+2) M' kn x.n hl fun M2 g2=>⟨g.trans g2,by simp⟩
 ·rintro ys M' ⟨g,rfl⟩
  rw[zz,zN];walk_at "wq";refine⟨_,ag _ _,_,gn _,?_⟩;rw[xJ];walk_at "wq";refine⟨fun h2=>?_,fun h2=>?_⟩
  ·have h2:((bj s).all fun a=>aI kn a.n)=true:=h2
   rw[h2,yE]at q;refine jI (k+2) _ kn hl fun M3 g3=>?_;walk_at "wq";exact DM k M3 (bj s) _ (by walk_at "o") (by unfold bD;exact zP (xz _ _) hl) fun M4 g4=>q _ (((g.snoc _).trans g3).trans g4)
  ·have h2:((bj s).all fun a=>aI kn a.n)=false:=h2
   rw[h2,xZ]at q;exact q _ (g.snoc _)
end
end Law
namespace Law
open PySem L3
section
variable {srt:List D->Option (List D)}{as vs:List Str}
theorem oN:∀(p q:List Int) (t:Tr),aH t (p++q)=(aH t p).bind fun r=>aH r q
 |[],q,t=>rfl
 |i::p,q,t=>by
  rw[wa,fg,fg];split
  ·rfl
  ·cases (ay t)[i.toNat]? with
   |none=>rfl
   |some r=>exact oN p q r
theorem jy{t s:Tr}{n:Nat}(h:(ay t)[n]?=some s):aH t [(n:Int)]=some s:=by
 rw[fg,if_neg (by walk_at "o"),zV,h];rfl
theorem qw:∀(p:List Int) {n:Nat} {t s:Tr},aW as vs n t->aH t p=some s->∀(sz:Nat) (h:sz<p.length),∃m:Nat,p[sz]=(m:Int)/\m<5/\∀j:Nat,j<m->∃r,aH t (p.take sz++[(j:Int)])=some r
 |[],_,_,_,_,_,_,h=>absurd h (wH _)
 |i::p,n,t,s,f,e,sz,h=>by
  obtain⟨m,r,rfl,h1,h2⟩:=bZ e;have hm:=aD h1;cases n with
  |zero=>exact f.elim
  |succ n =>
   obtain⟨f5,ff⟩:=f;cases sz with
   |zero =>
    refine⟨m,rfl,by walk_at "o",fun j hj=>?_⟩;exact⟨_,jy (zv (by walk_at "o"))⟩
   |succ sz =>
    obtain⟨m2,e2,l2,k2⟩:=qw p (ff r (zx h1)).2 h2 sz (by simpa using h);refine⟨m2,by simpa using e2,l2,fun j hj=>?_⟩;obtain⟨r2,Wh⟩:=k2 j hj;refine⟨r2,?_⟩;rw[xa,wa,fg,if_neg (by walk_at "o"),zV,h1];exact Wh
theorem kK:∀(p:List Int) {n:Nat} {t s:Tr},aW as vs n t->aH t p=some s->p.length<=n
 |[],_,_,_,_,_=>zM _
 |i::p,n,t,s,f,e=>by
  obtain⟨m,r,rfl,h1,h2⟩:=bZ e;cases n with
  |zero=>exact f.elim
  |succ n =>
   have:=kK p (f.2 r (zx h1)).2 h2
   rw[zE];walk_at "o"
noncomputable def jt(t:Tr)(p:List Int)(sz:Nat)(m:Nat):List (List Int):=((List.range m).filter fun (j:Nat)=>!dP (rowOf t (p.take sz++[(j:Int)]))).map fun (j:Nat)=>p.take sz++[(j:Int)]
noncomputable def ku(t:Tr)(p:List Int)(m:Nat):List (List Int):=(List.range m).flatMap fun sz=>jt t p sz (p.getD sz 0).toNat
noncomputable def Cm(t:Tr)(p:List Int):List (List Int):=((List.range (ay (rowOf t p)).length).map fun (j:Nat)=>p++[(j:Int)])++ku t p p.length
theorem tG(t:Tr)(p:List Int)(sz m:Nat):(jt t p sz m).length<=m:=by
 unfold jt;rw[zz];exact zP (xz _ _) (by rw[zZ];exact zp _)
theorem PK(k:Nat)(M:MH)(t s0:Tr)(fit:aW as vs 5 t)(p:List Int)(hs:aH t p=some s0)(oz:(ay s0).length<=5){Q:D->MH->Prop}(q:∀j M',Gr M M'->M'[j]?=some (.lst ((Cm t p).map ai))->Q (.ob j) M'):W ((cx srt (k+2)).fn "_law_in_the_way" [ar t,ai p]) M Q:=by
 have big:=aw;have e0:rowOf t p=s0:=c8 hs;have Wl:=kK p fit hs;have ep:ai p=.tup (p.map .int):=rfl;rw[aA "_law_in_the_way" 5 2 dH rfl,wf,dH];walk_at "wq";refine jq k M t s0 p hs ?_;obtain⟨eb,ec,e3,er,et⟩:=dn s0;rw[et];walk_at "wq";rw[zz];refine⟨⟨by walk_at "o",by walk_at "o"⟩,by rw[cJ];walk_at "o",?_⟩;refine bt (fun j ys M'=>M'=M/\ys=((List.range j).map fun (j:Nat)=>ai (p++[(j:Int)]))) ⟨rfl,rfl⟩ (fun _ _ _ _=>trivial) ?_ ?_
 ·rintro j d ys M' hd ⟨rfl,rfl⟩
  obtain⟨rfl,hj⟩:=di hd;rw[ep];walk_at "wq";refine⟨by walk_at "o",by rw[zz];show _+1<=_;walk_at "o",?_⟩;have W9:D.tup (p.map D.int++[D.int (0+(j:Int))])=ai (p++[(j:Int)]):=by unfold ai;rw[xu,zo];rfl
  rw[W9,yV,zo];rfl
 ·rintro ys M' ⟨rfl,rfl⟩
  rw[cJ,show (((ay s0).length:Int)-0).toNat=(ay s0).length by walk_at "o"];have n1:(M'++[MO.lst ((List.range (ay s0).length).map fun (j:Nat)=>ai (p++[(j:Int)]))])[M'.length]?=some (.lst ((((List.range (ay s0).length).map fun (j:Nat)=>p++[(j:Int)])++ku t p 0).map ai)):=by
   rw[ag];show _=some (MO.lst ((_++[]).map ai));rw[zO,yp];rfl
  have g1:Gr M' (M'++[MO.lst ((List.range (ay s0).length).map fun (j:Nat)=>ai (p++[(j:Int)]))]):=Gr.app _ _;generalize M'++[MO.lst ((List.range (ay s0).length).map fun (j:Nat)=>ai (p++[(j:Int)]))]=M1 at n1 g1 ⊢;have hA:((List.range (ay s0).length).map fun (j:Nat)=>p++[(j:Int)]).length<=5:=by rw[zz,zZ];exact oz
  unfold Cm at q;rw[e0]at q;generalize ((List.range (ay s0).length).map fun (j:Nat)=>p++[(j:Int)])=A at n1 hA q;rw[ep];walk_at "wq";rw[zz];refine⟨⟨by walk_at "o",by walk_at "o"⟩,?_⟩;generalize RO:M'.length=jf at n1 ⊢;have Of:jf<M1.length:=aD n1;refine bw (fun sz ρ M2=>Gr M' M2/\M2[jf]?=some (.lst ((A++ku t p sz).map ai))/\(A++ku t p sz).length<=5+5*sz/\∃x3 x4,ρ=[some (ar t),some (.tup (p.map .int)),some (.ob jf),x3,x4]) ⟨g1,n1,by rw[zm];show _+0<=_;walk_at "o",_,_,rfl⟩ (fun _ _ _ _=>trivial) ?_ ?_
  ·rintro sz d ρ M2 hd ⟨g2,h2,l2,x3,x4,rfl⟩
   obtain⟨rfl,hsz⟩:=di hd;have H0:sz<p.length:=by walk_at "o"
   obtain⟨m,em,Wt,Ia⟩:=qw p fit hs sz H0;have BY:p.getD sz 0=(m:Int):=by rw[zi,zv H0,em];rfl
   have eA:ku t p (sz+1)=ku t p sz++jt t p sz m:=by
    unfold ku;rw[yV,xB,xM,va,zO,BY,zV]
   rw[xu];walk_at "wq";refine⟨_,bB (by rw[zw,zv H0,em];rfl),?_⟩;walk_at "wq";refine⟨⟨by walk_at "o",by walk_at "o"⟩,?_⟩;refine bw (fun j ρ M3=>Gr M' M3/\M3[jf]?=some (.lst ((A++ku t p sz++jt t p sz j).map ai))/\∃x4,ρ=[some (ar t),some (.tup (p.map .int)),some (.ob jf),some (.int sz),x4]) ⟨g2,by rw[h2];show _=some (MO.lst ((_++[]).map ai));rw[zO],_,rfl⟩ (fun _ _ _ _=>trivial) ?_ ?_
   ·rintro j d ρ M3 F5 ⟨g3,h3,x4,rfl⟩
    obtain⟨rfl,hj⟩:=di F5;have RL:j<m:=by walk_at "o"
    obtain⟨r,hr⟩:=Ia j RL;have er':rowOf t (p.take sz++[(j:Int)])=r:=c8 hr;have eF:jt t p sz (j+1)=jt t p sz j++(if dP r=true then [] else [p.take sz++[(j:Int)]]):=by
     unfold jt;rw[yV,xi,zo];congr 1;rw[vb];rw[er'];cases dP r <;> rfl
    have mW:D.tup ((p.map D.int).take sz++[D.int (j:Int)])=ai (p.take sz++[(j:Int)]):=by unfold ai;rw[zo,yd];rfl
    have lF:=tG t p sz j;have hlen:((A++ku t p sz++jt t p sz j).map ai).length<zg:=by rw[zz,zm];walk_at "o"
    rw[xu];walk_at "wq";have ec:cutD (p.map D.int) none (some (sz:Int))=(p.map D.int).take sz:=by rw[cH _ (by walk_at "o"),zV]
    have hz:((p.map D.int).take sz).length+1<=zg:=by rw[zD,zz];walk_at "o"
    rw[ec];refine⟨by walk_at "o",hz,?_⟩;rw[mW];refine jq k M3 t r _ hr ?_;obtain⟨c,pp,rr,eT⟩:=pG r;rw[eT];walk_at "wq";refine⟨fun ho=>?_,fun ho=>?_⟩
    ·have ho:dP r=false:=by simpa using ho
     rw[ho,if_neg zk]at eF;rw[ec,mW];refine⟨_,h3,by walk_at "o",hz,_,h3,hlen,g3.set (by walk_at "o") _,?_,_,rfl⟩;rw[eF,<- yz,zo (l₂:=[p.take sz++[(j:Int)]])];exact bQ h3
    ·have ho:dP r=true:=by simpa using ho
     rw[ho,if_pos rfl,zO]at eF;exact⟨g3,by rw[eF];exact h3,_,rfl⟩
   ·rintro ρ M3 ⟨g3,h3,x4,rfl⟩
    rw[cJ,show (((m:Nat):Int)-0).toNat=m by walk_at "o"]at h3;walk_at "wq";refine⟨g3,by rw[eA,<- yz];exact h3,?_,_,_,rfl⟩
    have:=tG t p sz m
    rw[eA,<- yz,zm];walk_at "o"
  ·rintro ρ M2 ⟨g2,h2,l2,x3,x4,rfl⟩
   rw[cJ,show (((p.length:Nat):Int)-0).toNat=p.length by walk_at "o"]at h2;walk_at "wq";exact q _ _ g2 h2
theorem Kt{t s0:Tr}(fit:aW as vs 5 t){p:List Int}(hs:aH t p=some s0)(a:List Int):(Cm t p).contains a=((aH t a).isSome&&bc a p (dP (rowOf t a))):=by
 have e0:rowOf t p=s0:=c8 hs;rw[yi,zT,zl];unfold Cm ku;rw[e0,zL];refine⟨fun h=>?_,fun ⟨h1,h2⟩=>?_⟩
 ·rcases h with h|h
  ·obtain⟨j,hj,rfl⟩:=zQ.mp h
   have hj:=yk.mp hj;have mP:aH t (p++[(j:Int)])=some (ay s0)[j]:=by
    rw[oN,hs];exact jy (zv hj)
   refine⟨by rw[mP];rfl,?_⟩;unfold bc;rw[if_neg (by simp),if_pos (by simp)]
  ·obtain⟨sz,hsz,h⟩:=yN.mp h
   have hsz:=yk.mp hsz;obtain⟨m,em,Wt,Ia⟩:=qw p fit hs sz hsz;have BY:p.getD sz 0=(m:Int):=by rw[zi,zv hsz,em];rfl
   rw[BY,zV]at h;unfold jt at h;obtain⟨j,hj,rfl⟩:=zQ.mp h;obtain⟨Og,BK⟩:=yl.mp hj;have Og:=yk.mp Og;obtain⟨r,hr⟩:=Ia j Og;refine⟨by rw[hr];rfl,?_⟩;have hd:(p.take sz++[(j:Int)]).dropLast=p.take sz:=by simp
   have hl:(p.take sz).length=sz:=by rw[zD];walk_at "o"
   have QD:(p.take sz++[(j:Int)]).getLastD 0=(j:Int):=by rw[xb];simp
   unfold bc;rw[if_neg (by simp),hd,if_neg (fun z=>by rw[z]at hl;walk_at "o"),hl,QD,BY,if_neg (not_or.mpr ⟨fun w=>w rfl,by walk_at "o"⟩)];exact BK
 ·obtain⟨s,mP⟩:=yw.mp h1
  unfold bc at h2;by_cases b6:a=[]
  ·rw[if_pos b6]at h2;cases h2
  rw[if_neg b6]at h2;have ea:a=a.dropLast++[a.getLast b6]:=(List.dropLast_concat_getLast b6).symm;have RH:a.getLastD 0=a.getLast b6:=by rw[xb,xW b6];rfl
  generalize a.getLast b6=x at ea RH;generalize a.dropLast=b at ea h2;subst ea;rw[oN]at mP;obtain⟨r,hr,hx⟩:=xG.mp mP;obtain⟨m,r2,rfl,hm,_⟩:=bZ hx;by_cases hb:b=p
  ·subst hb
   rw[hs]at hr;cases hr;exact .inl (zQ.mpr ⟨m,yk.mpr (aD hm),rfl⟩)
  ·rw[if_neg hb]at h2
   by_cases hc:¬ p.take b.length=b\/p.getD b.length 0<=(b++[(m:Int)]).getLastD 0
   ·rw[if_pos hc]at h2;cases h2
   ·rw[if_neg hc]at h2
    obtain⟨c1,c2⟩:=not_or.mp hc;have c1:p.take b.length=b:=Classical.not_not.mp c1;rw[RH]at c2;have aS:b.length<p.length:=by
     refine wY ?_ fun z=>hb ?_
     ·have:=congrArg List.length c1
      rw[zD]at this;walk_at "o"
     ·rw[<- c1,z,zN]
    refine .inr (yN.mpr ⟨b.length,yk.mpr aS,?_⟩);unfold jt;rw[c1];exact zQ.mpr ⟨m,yl.mpr ⟨yk.mpr (by walk_at "o"),h2⟩,rfl⟩
end
end Law
namespace Law
open PySem L3
section
variable {srt:List D->Option (List D)}{as vs:List Str}
noncomputable def cf(t:Tr):List Str:=a6 (aF [] (eL (bW t)))
noncomputable def fj(t:Tr)(nm:Str):List Vl:=(a6 (aF [] (aM nm (bW t)))).map some++[some ("":Str),none]
structure iF (M:MH) (jS:Nat) (t:Tr):Prop where
 is:∃E:List (Str×Nat),M[jS]?=some (.aO (E.map fun e=>(.inr e.1,.ob e.2)))/\E.map (·.1)=cf t/\∀e∈E,M[e.2]?=some (.lst ((fj t e.1).map vD))
theorem iF.keep{M M':MH}{jS:Nat}{t:Tr}(h:iF M jS t)(g:Gr M M'):iF M' jS t:=by
 obtain⟨E,h1,h2,h3⟩:=h.is;exact⟨E,g.keep _ _ h1,h2,fun e he=>g.keep _ _ (h3 e he)⟩
theorem mI:∀(E:List (Str×Nat)) (n:Str),(∃e∈E,e.1=n/\bq (E.map fun e=>((.inr e.1:Ky),D.ob e.2)) (.inr n)=some (.ob e.2))\/(n ∉ E.map (·.1)/\bq (E.map fun e=>((.inr e.1:Ky),D.ob e.2)) (.inr n)=none)
 |[],n=>.inr ⟨by simp,rfl⟩
 |e::E,n=>by
  by_cases h:e.1=n
  ·refine .inl ⟨e,zJ,h,?_⟩
   unfold bq;rw[zG,yj,h];simp
  ·have e1:decide ((Sum.inr e.1:Ky)=.inr n)=false:=decide_eq_false fun z=>h (Sum.inr.inj z)
   have e2:bq ((e::E).map fun e=>((.inr e.1:Ky),D.ob e.2)) (.inr n)=bq (E.map fun e=>((.inr e.1:Ky),D.ob e.2)) (.inr n):=by
    unfold bq;rw[zG,yj];simp only[e1]
   rw[e2];rcases mI E n with ⟨r,hr,h1,h2⟩|⟨h1,h2⟩
   ·exact .inl ⟨r,zI _ hr,h1,h2⟩
   ·exact .inr ⟨by rw[zG,zc];exact fun z=>z.elim (fun z=>h z.symm) h1,h2⟩
theorem Gk{M:MH}{n:Nat}:∀a b:List Vl,c9 (bA M (n+1)) (a.map vD) (b.map vD)=some (decide (a=b))
 |[],[]=>by simp[c9]
 |[],_::_=>by simp[c9]
 |_::_,[]=>by simp[c9]
 |x::a,y::b=>by
  rw[zG,zG,c9,D5,Gk a b];show some (decide (x=y)&&decide (a=b))=_;congr 1;rw[yi];simp
theorem D4{M:MH}{i j:Nat}{a b:List Vl}(h1:M[i]?=some (.lst (a.map vD)))(h2:M[j]?=some (.lst (b.map vD))):bA M 20 (.ob i) (.ob j)=some (decide (a=b)):=by
 rw[QK h1 h2];split
 ·exact Gk a b
 ·rename_i h
  rw[decide_eq_false (fun z=>h (by rw[z]))]
theorem oW(k:Nat)(M:MH)(t:Tr)(fit:aW as vs 5 t){Q:D->MH->Prop}(q:∀j M',Gr M M'->M'[j]?=some (.lst ((cW 5 t []).map ai))->Q (.ob j) M'):W ((cx srt (k+6)).fn "places" [ar t]) M Q:=by
 rw[aA "places" 1 1 ic rfl,wf,ic];walk_at "wq";have e0:D.tup []=ai []:=rfl;rw[e0];exact⟨zM _,jF 5 k M t [] fit (zp _) (by decide) fun j M' g _ h=>q j M' g h⟩
theorem rE(k:Nat)(M:MH)(t:Tr)(nm:Str)(fit:aW as vs 5 t)(hv:vs.length<=3){Q:D->MH->Prop}(q:∀j M',Gr M M'->M'[j]?=some (.lst ((fj t nm).map vD))->Q (.ob j) M'):W ((cx srt (k+9)).fn "values_to_split" [ar t,.str nm]) M Q:=by
 have big:=aw;have hin:∀y∈aM nm (bW t),y∈vs:=(fR (b8 fit (cM t) fun _ h=>h).2).2;have hl:(a6 (aF [] (aM nm (bW t)))).length<=3:=by rw[(aP _).length_eq];exact zP (dw hin) hv
 rw[aA "values_to_split" 2 2 dG rfl,wf,dG];walk_at "wq";refine mw k M t nm fit hv fun j M1 g1 _ h1=>?_;walk_at "wq";refine⟨by walk_at "o",_,(Gr.app _ _).keep _ _ h1,_,ag _ _,by rw[zz];show _+2<=_;walk_at "o",?_⟩;refine q _ _ ((g1.snoc _).snoc _) ?_;rw[ag];unfold fj;rw[zo,yp];rfl
theorem uY{M:MH}{j:Nat}{ps:List (List Int)}{a:List Int}(h:M[j]?=some (.lst (ps.map ai))):inD (ai a) (.ob j) M=some (.ok (ps.contains a),M):=by
 show (getM j >>= fun o=>_:Mo Bool) M=_;rw[hG (m:=getM j) (M1:=M) (a:=.lst (ps.map ai)) (by unfold getM;rw[h])];show hY _ _ M=_;unfold hY;rw[JH]
theorem Nj{M:MH}{j:Nat}{ps:List (List Int)}{a:List Int}{B:Bool->MH->Prop}(h:M[j]?=some (.lst (ps.map ai)))(q:B (ps.contains a) M):W (bJ .In (ai a) (.ob j)) M B:=⟨_,M,uY h,q⟩
theorem Bq{M:MH}{j:Nat}{ps:List (List Int)}{a:List Int}{B:Bool->MH->Prop}(h:M[j]?=some (.lst (ps.map ai)))(q:B (!ps.contains a) M):W (bJ .NotIn (ai a) (.ob j)) M B:=⟨_,M,by
 show (inD (ai a) (.ob j) >>= fun b=>pure (!b):Mo Bool) M=_;rw[hG (uY h)]
 rfl,q⟩
theorem QI:¬ ((("fails":Str)==("split":Str))=true):=by decide +kernel
theorem QS:¬ ((("caught":Str)==("split":Str))=true):=by decide +kernel
theorem Ec:¬ ((("caught":Str)==("fails":Str))=true):=by decide +kernel
theorem Jk:¬ ((("split":Str)==("fails":Str))=true):=by decide +kernel
theorem Jl:¬ ((("split":Str)==("caught":Str))=true):=by decide +kernel
theorem Ji(x:Str):¬ ((x==x)=false):=by simp
noncomputable def Ax(srt:List D->Option (List D))(t:Tr)(p:List Int)(n:Nat)(d:D)(kn:Kn)(b:Bool):Prop :=
 (∀(k:Nat) (M:MH) (Q:D->MH->Prop),(∀M',Gr M M'->Q (.bl b) M')->W ((cx srt (k+2*n+10)).fn "bears_for" [ar t,ai p,d,bN kn]) M Q) /\
 (∀(k:Nat) (M:MH) (jS jk:Nat) (Q:D->MH->Prop),iF M jS t->M[jk]?=some (.aO (cb kn))->(∀M',Gr M M'->Q (.bl b) M')->W ((cx srt (k+n+10)).fn "_law_bears" [ar t,ai p,.ob jS,d,.ob jk]) M Q)
theorem O1{t s:Tr}(fit:aW as vs 5 t){p:List Int}(n:Nat)(a:List Int)(kn:Kn)(nd:(kn.map (·.1)).Nodup)(hl:kn.length<=1000)(hs:aH t a=some s)(h1:cw a p=true)(h2:jJ s kn=true):Ax srt t p (n+1) (.tup [.str "fails",ai a]) kn true:=by
 refine⟨fun k M Q q=>?_,fun k M jS jk Q hS hk q=>?_⟩
 ·rw[show k+2*(n+1)+10=k+2*n+11+1 by walk_at "o",aA "bears_for" 4 4 cY rfl,wf,cY]
  walk_at "wr";refine sF (by simpa using QI) ?_;walk_at "wr";refine oW (k+2*n+5) M t fit fun j M1 g1 h3=>Bq h3 ?_;rw[kQ fit,hs];refine⟨_,rfl,sF rfl ?_⟩;walk_at "wr";refine sT (by simp) ?_;walk_at "wr";exact BW (k+2*n+8) M1 t s fit a p hs kn nd hl fun M2 g2=>by rw[h1,h2];exact q _ (g1.trans g2)
 ·have big:=aw
  have e1:a≠[]/\p.take a.length=a:=by
   unfold cw at h1;simpa using h1
  have e2:((a.length:Int)==0)=false:=by
   simp;exact e1.1
  rw[show k+(n+1)+10=k+n+10+1 by walk_at "o",aA "_law_bears" 8 5 aV rfl,wf,ja 1 aV];generalize dr 1 aV=tl;have ea:ai a=.tup (a.map .int):=rfl;have ep:ai p=.tup (p.map .int):=rfl;rw[ea,ep];simp only[aV,ki,kj];walk_at "wr";refine sT (by simp) ?_;walk_at "wr";rw[zz,e2,cH _ (by walk_at "o"),zV,<- yd,iP];refine⟨fun z=>(by cases z),fun _=>⟨_,lT _ _,_,rfl,sF ?_ ?_⟩⟩
  ·rw[e1.2,decide_eq_true rfl];rfl
  walk_at "wr";exact LB (k+n+8) M t s a hs jk kn hk (by rw[h2];exact q _ Gr.refl)
theorem O2{t s s0:Tr}(fit:aW as vs 5 t){p:List Int}(n:Nat)(a:List Int)(kn:Kn)(nd:(kn.map (·.1)).Nodup)(hl:kn.length<=1000)(hp:aH t p=some s0)(oz:(ay s0).length<=5)(hs:aH t a=some s)(h1:bc a p (dP s)=true)(h2:lZ s kn=true):Ax srt t p (n+1) (.tup [.str "caught",ai a]) kn true:=by
 refine⟨fun k M Q q=>?_,fun k M jS jk Q hS hk q=>?_⟩
 ·rw[show k+2*(n+1)+10=k+2*n+11+1 by walk_at "o",aA "bears_for" 4 4 cY rfl,wf,cY]
  walk_at "wr";refine sF (by simpa using QS) ?_;walk_at "wr";refine oW (k+2*n+5) M t fit fun j M1 g1 h3=>Bq h3 ?_;rw[kQ fit,hs];refine⟨_,rfl,sF rfl ?_⟩;walk_at "wr";refine sF (by simpa using Ec) ?_;walk_at "wr";exact Af (k+2*n+7) M1 t s fit a p hs kn nd hl fun M2 g2=>by rw[h1,h2];exact q _ (g1.trans g2)
 ·rw[show k+(n+1)+10=k+n+10+1 by walk_at "o",aA "_law_bears" 8 5 aV rfl,wf,ja 2 aV]
  generalize dr 2 aV=tl;simp only[aV,ki,kj];walk_at "wr";refine sF (by simpa using Ec) ?_;walk_at "wr";refine sT (by simp) ?_;walk_at "wr";refine PK (k+n+8) M t s0 fit p hp oz fun j M1 g1 h3=>Nj h3 ?_;rw[Kt fit hp,c8 hs,hs,h1];walk_at "wr";exact⟨fun _=>Kw (k+n+8) M1 t s a hs jk kn (g1.keep _ _ hk) (by rw[h2];exact q _ g1),fun z=>(by cases z)⟩
end
end Law
namespace Law
open PySem L3
section
variable {srt:List D->Option (List D)}{as vs:List Str}
theorem LL{M:MH}{j:Nat}{xs:List Str}{x:Str}(h:M[j]?=some (.lst (xs.map .str))):inD (.str x) (.ob j) M=some (.ok (xs.contains x),M):=by
 show (getM j >>= fun o=>_:Mo Bool) M=_;rw[hG (m:=getM j) (M1:=M) (a:=.lst (xs.map .str)) (by unfold getM;rw[h])];show hY _ _ M=_;unfold hY
 have:=lO (M:=M) xs (some x)
 rw[show vD (some x)=D.str x from rfl]at this;rw[this];rfl
theorem HG{M:MH}{j:Nat}{xs:List Str}{x:Str}{B:Bool->MH->Prop}(h:M[j]?=some (.lst (xs.map .str)))(q:B (!xs.contains x) M):W (bJ .NotIn (.str x) (.ob j)) M B:=⟨_,M,by
 show (inD (.str x) (.ob j) >>= fun b=>pure (!b):Mo Bool) M=_;rw[hG (LL h)]
 rfl,q⟩
theorem FC{kn:Kn}{nm:Str}(h:aI kn nm=false)(v:Vl):ee (cb kn) (.inr nm) (vD v)=cb (kn++[(nm,v)]):=by
 unfold ee;rw[if_neg]
 ·unfold cb;rw[zo];rfl
 ·unfold cb
  rw[wD,vf,ya];intro p hp z;unfold aI at h;rw[ya]at h;exact h p hp (by simpa using Sum.inr.inj (of_decide_eq_true z))
theorem Qw{kn:Kn}{nm:Str}(h:aI kn nm=false)(nd:(kn.map (·.1)).Nodup)(v:Vl):((kn++[(nm,v)]).map (·.1)).Nodup:=by
 rw[zo,xt];refine⟨nd,by simp,fun a ha b hb z=>?_⟩;obtain⟨p,hp,rfl⟩:=zQ.mp ha
 have:b=nm:=zA.mp hb
 unfold aI at h;rw[ya]at h;exact h p hp (by rw[z,this];simp)
theorem O0{t:Tr}(fit:aW as vs 5 t)(ha:as.length<=3)(hv:vs.length<=3){p:List Int}(n:Nat)(nm:Str)(ps:List (Vl×D))(kn:Kn)(hl:kn.length+(n+1)<=1000)(Ri:ps.length<=1000)(FX:aI kn nm=false)(hn:nm∈cf t)(hps:ps.map (·.1)=fj t nm)
  (hf:∀x∈ps,Ax srt t p n x.2 (kn++[(nm,x.1)]) true):Ax srt t p (n+1) (.tup [.str "split",.str nm,.tup (ps.map fun q=>.tup [vD q.1,q.2])]) kn true:=by
 have hc:(cf t).contains nm=true:=zT.mpr hn;have big:=aw;have BI:cf t=a6 (aF [] (eL (bW t))):=rfl;have prog:(∀(k:Nat) (M:MH) (Q:D->MH->Prop),(∀M',Gr M M'->Q (.bl true) M') ->
   W (aq (cx srt (k+2*n+10)) (dr 3 cq) [some (ar t),some (ai p),some (.tup [.str "split",.str nm,.tup (ps.map fun q=>.tup [vD q.1,q.2])]),some (bN kn),some (.str nm)]) M (lU Q)) ->
   ∀(k:Nat) (M:MH) (Q:D->MH->Prop),(∀M',Gr M M'->Q (.bl true) M')->W ((cx srt (k+2*(n+1)+10)).fn "bears_for" [ar t,ai p,.tup [.str "split",.str nm,.tup (ps.map fun q=>.tup [vD q.1,q.2])],bN kn]) M Q:=by
  intro tl k M Q q;rw[show k+2*(n+1)+10=k+2*n+11+1 by walk_at "o",aA "bears_for" 4 4 cY rfl,wf,cY];walk_at "wq";refine⟨fun _=>?_,fun z=>absurd z (Ji _)⟩;rw[show k+2*n+11=k+2*n+10+1 by walk_at "o",aA "bears_split" 5 4 cq rfl,wf];rw[ja 3 cq];generalize dr 3 cq=QW at tl ⊢;simp only[cq,ki,kj];walk_at "wq";refine iJ (k+2*n+9) M kn nm (by walk_at "o") fun M1 g1=>?_;walk_at "wq";refine⟨fun z=>?_,fun z=>?_⟩
  ·rw[FX]at z;cases z
  refine uL (k+2*n+2) M1 t fit ha fun j2 M2 g2 _ h2=>HG h2 ?_;walk_at "wq";refine⟨fun z2=>?_,fun z2=>?_⟩
  ·rw[<- BI,hc]at z2;cases z2
  have g2':=g1.trans g2;walk_at "wq";refine⟨by rw[zz];walk_at "o",?_⟩;refine bt (fun j ys M'=>M'=M2/\ys=((ps.take j).map (·.1)).map vD) ⟨rfl,rfl⟩ (fun _ _ _ _=>trivial) ?_ ?_
  ·rintro j d ys M' hd ⟨rfl,rfl⟩
   rw[zw]at hd;obtain⟨x,hx,rfl⟩:=zu.mp hd;walk_at "wq";rw[zR,hx];simp
  ·rintro ys M' ⟨rfl,rfl⟩
   rw[zz,zN];have g3:Gr M (M'++[MO.lst ((ps.map (·.1)).map vD)]):=g2'.snoc _;have h3:(M'++[MO.lst ((ps.map (·.1)).map vD)])[M'.length]?=some (.lst ((ps.map (·.1)).map vD)):=ag _ _;generalize M'++[MO.lst ((ps.map (·.1)).map vD)]=M3 at g3 h3 ⊢;walk_at "wq";refine rE (k+2*n+1) M3 t nm fit hv fun j4 M4 g4 h4=>?_;rw[iP];refine⟨_,D4 (g4.keep _ _ h3) h4,?_⟩;walk_at "wq";refine⟨fun z3=>?_,fun z3=>?_⟩
   ·exact absurd hps (by simpa using z3)
   ·exact tl k M4 Q fun M5 g5=>q _ ((g3.trans g4).trans g5)
 have TC:(∀(k:Nat) (M:MH) (jS jk:Nat) (Q:D->MH->Prop),iF M jS t->M[jk]?=some (.aO (cb kn))->(∀M',Gr M M'->Q (.bl true) M') ->
   W (aq (cx srt (k+n+10)) (dr 3 aV) [some (ar t),some (ai p),some (.ob jS),some (.tup [.str "split",.str nm,.tup (ps.map fun q=>.tup [vD q.1,q.2])]),some (.ob jk),none,none,none]) M (lU Q)) ->
   ∀(k:Nat) (M:MH) (jS jk:Nat) (Q:D->MH->Prop),iF M jS t->M[jk]?=some (.aO (cb kn))->(∀M',Gr M M'->Q (.bl true) M')->W ((cx srt (k+(n+1)+10)).fn "_law_bears" [ar t,ai p,.ob jS,.tup [.str "split",.str nm,.tup (ps.map fun q=>.tup [vD q.1,q.2])],.ob jk]) M Q:=by
  intro tl k M jS jk Q hS hk q;rw[show k+(n+1)+10=k+n+10+1 by walk_at "o",aA "_law_bears" 8 5 aV rfl,wf];rw[ja 3 aV];generalize dr 3 aV=QW at tl ⊢;simp only[aV,ki,kj];walk_at "wq";refine⟨fun z=>absurd z Jk,fun _=>⟨fun z=>absurd z Jl,fun _=>?_⟩⟩;refine⟨_,hk,sQ ?_⟩;rw[qU];walk_at "wq";refine⟨fun z=>?_,fun z=>?_⟩
  ·rw[FX]at z;cases z
  obtain⟨E,Gd,Sg,hE3⟩:=hS.is;refine⟨_,Gd,sQ ?_⟩;have ec:(bq (E.map fun e=>((.inr e.1:Ky),D.ob e.2)) (.inr nm)).isSome=(cf t).contains nm:=by
   rw[yi,zT,<- Sg];rcases mI E nm with ⟨e,he,h1,h2⟩|⟨h1,h2⟩
   ·rw[h2]
    exact⟨fun _=>h1▸yK he,fun _=>rfl⟩
   ·rw[h2]
    exact⟨fun z=>(by cases z),fun z=>absurd z h1⟩
  rw[ec];walk_at "wq";refine⟨fun z2=>?_,fun z2=>?_⟩
  ·rw[hc]at z2;cases z2
  have z2:(cf t).contains nm=true:=by simpa using z2
  walk_at "wq";refine⟨by rw[zz];walk_at "o",?_⟩;refine bt (fun j ys M'=>M'=M/\ys=((ps.take j).map (·.1)).map vD) ⟨rfl,rfl⟩ (fun _ _ _ _=>trivial) ?_ ?_
  ·rintro j d ys M' hd ⟨rfl,rfl⟩
   rw[zw]at hd;obtain⟨x,hx,rfl⟩:=zu.mp hd;walk_at "wq";rw[zR,hx];simp
  ·rintro ys M' ⟨rfl,rfl⟩
   rw[zz,zN];have g3:Gr M' (M'++[MO.lst ((ps.map (·.1)).map vD)]):=Gr.app _ _;have h3:(M'++[MO.lst ((ps.map (·.1)).map vD)])[M'.length]?=some (.lst ((ps.map (·.1)).map vD)):=ag _ _;generalize M'++[MO.lst ((ps.map (·.1)).map vD)]=M3 at g3 h3 ⊢;rcases mI E nm with ⟨e,he,h1,h2⟩|⟨h1,h2⟩
   ·walk_at "wq"
    refine⟨_,g3.keep _ _ Gd,_,rfl,_,h2,?_⟩;dsimp only;rw[iP];have h4:=g3.keep _ _ (hE3 e he);rw[h1]at h4;refine⟨_,D4 h3 h4,?_⟩;walk_at "wq";refine⟨fun z3=>?_,fun z3=>?_⟩
    ·exact absurd hps (by simpa using z3)
    ·exact tl k M3 jS jk Q (hS.keep g3) (g3.keep _ _ hk) fun M5 g5=>q _ (g3.trans g5)
   ·rw[<- Sg,zT]at z2
    exact absurd z2 h1
 refine⟨prog fun k M Q q=>?_,TC fun k M jS jk Q hS hk q=>?_⟩
 ·simp only[cq,mY,mZ]
  walk_at "wq";refine⟨by rw[zz];walk_at "o",?_⟩;refine bt (fun j ys M'=>Gr M M'/\ys=((ps.take j).map fun _=>true).map D.bl) ⟨Gr.refl,rfl⟩ (fun _ _ _ _=>trivial) ?_ ?_
  ·rintro j d ys M' hd ⟨g,rfl⟩
   rw[zw]at hd;obtain⟨x,hx,rfl⟩:=zu.mp hd;have ek:bN kn=.tup (kn.map fk):=rfl;have OV:D.tup (kn.map fk++[D.tup [D.str nm,vD x.1]])=bN (kn++[(nm,x.1)]):=by unfold bN;rw[zo];rfl
   rw[ek];walk_at "wq";refine⟨by walk_at "o",by walk_at "o",by rw[zz];show _+1<=_;walk_at "o",?_⟩;rw[OV];refine(hf x (zx hx)).1 k M' _ fun M2 g2=>?_;rw[zR,hx];exact⟨g.trans g2,by simp⟩
  ·rintro ys M' ⟨g,rfl⟩
   rw[zz,zN];walk_at "wq";refine⟨_,ag _ _,_,gn _,?_⟩;rw[xJ,show ps.all (id ∘ fun _=>true)=true from zS.mpr fun _ _=>rfl];exact q _ (g.snoc _)
 ·simp only[aV,mY,mZ]
  walk_at "wq";refine AZ (fun j ρ M'=>Gr M M'/\∃x5 x6 x7,ρ=[some (ar t),some (ai p),some (.ob jS),some (.tup [.str "split",.str nm,.tup (ps.map fun q=>.tup [vD q.1,q.2])]),some (.ob jk),x5,x6,x7]) ⟨Gr.refl,_,_,_,rfl⟩ (fun _ _ _ _=>trivial) ?_ ?_
  ·rintro j d ρ M' hd ⟨g,x5,x6,x7,rfl⟩
   rw[zw]at hd;obtain⟨x,hx,rfl⟩:=zu.mp hd;refine⟨_,_,rfl,?_⟩;walk_at "wq";refine⟨_,g.keep _ _ hk,?_⟩;have n1:(M'++[MO.aO (cb kn)])[M'.length]?=some (.aO (cb kn)):=ag _ _;walk_at "wq";refine⟨_,n1,_,rfl,by unfold cb;rw[zz];walk_at "o",?_⟩;rw[FC FX];have g2:Gr M ((M'++[MO.aO (cb kn)]).set M'.length (.aO (cb (kn++[(nm,x.1)])))):=(g.snoc _).set g.len _;refine(hf x (zx hx)).2 k _ jS M'.length _ (hS.keep g2) (bQ n1) fun M3 g3=>?_;have g3':=g2.trans g3;walk_at "wq";exact⟨g3',_,_,_,rfl⟩
  ·rintro ρ M' ⟨g,x5,x6,x7,rfl⟩
   walk_at "wq";exact q _ g
end
end Law
namespace Law
open PySem L3
section
variable {srt:List D->Option (List D)}{as vs:List Str}
theorem HW(kn:Kn):dj (kn.map fk)=some (cb kn):=by
 induction kn with
 |nil=>rfl
 |cons p r ih =>
  show (match fq (.str p.1),dj (r.map fk) with
   |some k,some kvs=>some ((k,vD p.2)::kvs)
   |_,_=>none)=_
  rw[ih];rfl
theorem BA:∀(ps qs:Kn),((qs++ps).map (·.1)).Nodup->iH (cb qs) (cb ps)=cb (qs++ps)
 |[],qs,_=>by rw[zO];rfl
 |p::r,qs,h=>by
  show iH (ee (cb qs) (.inr p.1) (vD p.2)) (cb r)=_;have hn:aI qs p.1=false:=by
   unfold aI;rw[ya];intro q hq;rw[zo,xt]at h
   have:=h.2.2 q.1 (zQ.mpr ⟨q,hq,rfl⟩) p.1 (by simp)
   simpa using this
  rw[FC hn,BA r (qs++[p]) (by simpa using h)];simp
theorem NO(kn:Kn)(n:Str):(bq (cb kn) (.inr n)).getD (.str "")=vD (aX kn n):=by
 rw[pX];split
 ·rfl
 ·rename_i h
  have:kn.find? (fun p=>decide (p.1=n))=none:=yX.mpr fun p hp=>by
   intro e;exact h (yF.mpr ⟨p,hp,by simpa using e⟩)
  unfold aX;rw[this];rfl
noncomputable def DL(xs:List Ask)(kn:Kn):Bool:=xs.all fun a=>dO a (aX kn a.n)
theorem NM(k:Nat)(M:MH)(xs:List Ask)(hx:xs.length<=1000)(ps:Kn)(nd:(ps.map (·.1)).Nodup)(lp:ps.length<=1000){Q:D->MH->Prop}(q:∀M',Gr M M'->Q (.bl (DL xs ps)) M'):W ((cx srt (k+2)).fn "_law_lets" [.tup (xs.map bo),bN ps]) M Q:=by
 have big:=aw;rw[aA "_law_lets" 3 2 iD rfl,wf,iD];unfold bN;walk_at "wq";refine⟨_,HW ps,?_⟩;have e0:iH [] (cb ps)=cb ps:=BA ps [] (by simpa using nd);rw[e0];generalize p9:M++[MO.aO (cb ps)]=M1;have g1:Gr M M1:=p9▸Gr.app _ _;have h1:M1[M.length]?=some (.aO (cb ps)):=p9▸ag _ _;clear p9;generalize M.length=jd at h1 ⊢;walk_at "wq";refine⟨by rw[zz];walk_at "o",?_⟩;refine bt (fun j ys M'=>M'=M1/\ys=((xs.take j).filter fun a=>!dO a (aX ps a.n)).map bo) ⟨rfl,rfl⟩ (fun _ _ _ _=>trivial) ?_ ?_
 ·rintro j d ys M' hd ⟨rfl,rfl⟩
  rw[zw]at hd;obtain⟨a,ha,rfl⟩:=zu.mp hd;have e:bo a=.tup [.str a.w,.str a.n,.tup (a.vs.map .str)]:=rfl;rw[zR,ha,xi,zo];walk_at "wq";refine⟨_,h1,?_⟩;rw[e];walk_at "wq";refine⟨_,h1,?_⟩;rw[NO];refine pf k M' a (aX ps a.n) ?_;walk_at "wq";refine⟨fun h=>?_,fun h=>?_⟩
  ·simp[h,e]
  ·simp[h]
 ·rintro ys M' ⟨rfl,rfl⟩
  rw[zz,zN];walk_at "wq";refine⟨by walk_at "o",?_⟩;rw[jG];refine⟨_,mX ((Gr.app _ _).keep _ _ (ag _ _)) (ag _ _),?_⟩;have e:(List.map bo (xs.filter fun a=>!dO a (aX ps a.n))).isEmpty=DL xs ps:=by
   unfold DL;rw[vA,yi];simp[wC]
  rw[e];exact q _ ((g1.snoc _).snoc _)
noncomputable def iZ(rec:Tr->List Int->List (List Int))(m:Tr->Bool)(p:List Int):Nat->List Tr->List (List Int)
 |_,[]=>[]
 |k,t::ts=>if m t=true then rec t (p++[(k:Int)])++(if dP t=true then iZ rec m p (k+1) ts else []) else iZ rec m p (k+1) ts
noncomputable def bK(m:Tr->Bool):Nat->Tr->List Int->List (List Int)
 |0,_,_=>[]
 |n+1,t,p=>if (iZ (bK m n) m p 0 (ay t)).isEmpty=true then [p] else iZ (bK m n) m p 0 (ay t)
theorem BR{rec:Tr->List Int->List (List Int)}{m:Tr->Bool}{p:List Int}{B:Nat}:∀(ts:List Tr) (k:Nat),(∀t∈ts,∀p',(rec t p').length<=B)->(iZ rec m p k ts).length<=ts.length*B
 |[],_,_=>zM _
 |t::ts,k,h=>by
  have h1:=h t zJ (p++[(k:Int)]);have h2:=BR (rec:=rec) (m:=m) (p:=p) ts (k+1) fun s hs=>h s (zI _ hs);rw[iZ,zE,vm];split
  ·rw[zm]
   split
   ·walk_at "o"
   ·simp only[ye];walk_at "o"
  ·walk_at "o"
theorem pJ{m:Tr->Bool}:∀(n:Nat) (t:Tr) (p:List Int),aW as vs n t->(bK m n t p).length<=5 ^ n
 |0,_,_,h=>h.elim
 |n+1,t,p,h=>by
  obtain⟨h3,h4'⟩:=h;have h4:=fun s hs=>(h4' s hs).2;have h1:=BR (rec:=bK m n) (m:=m) (p:=p) (ay t) 0 fun s hs p'=>pJ n s p' (h4 s hs);have h2:=xv (5 ^ n) h3;have h0:1<=5 ^ n:=Nat.one_le_pow _ _ (by decide);rw[bK,Nat.pow_succ];split
  ·show 1<=_;walk_at "o"
  ·walk_at "o"
noncomputable def mQ(ps:Kn)(t:Tr):Bool:=DL (bj t) ps
theorem i7(ps:Kn)(nd:(ps.map (·.1)).Nodup)(lp:ps.length<=1000):∀(n k:Nat) (M:MH) (t:Tr) (p:List Int),aW as vs n t->n<=5->p.length+n<=100->∀{Q:D->MH->Prop} (_:∀(j:Nat) (M':MH),Gr M M'->M.length<=j->M'[j]?=some (.lst ((bK (mQ ps) n t p).map ai))->Q (.ob j) M'),
  W ((cx srt (k+n+2)).fn "_law_taken" [ar t,bN ps,ai p]) M Q
 |0,_,_,_,_,h,_,_,_,_=>h.elim
 |n+1,k,M,t,p,fit,RD,Rz,Q,q=>by
  have big:=aw;obtain⟨sa,hfit'⟩:=fit;have hfit:=fun s hs=>(hfit' s hs).2;obtain⟨ec,ep,er,et⟩:=pG t;have B5:∀s∈ay t,∀p',(bK (mQ ps) n s p').length<=625:=fun s hs p'=>zP (pJ n s p' (hfit s hs)) (zP (wL (by decide) (show n<=4 by walk_at "o")) (by decide));have Xa:ai p=.tup (p.map .int):=rfl;rw[show k+(n+1)+2=k+n+2+1 by walk_at "o",aA "_law_taken" 6 3 gI rfl,wf,gI];walk_at "wq";refine⟨zM _,?_⟩;rw[et];walk_at "wq";rw[<- et,zz];refine⟨⟨by walk_at "o",by walk_at "o"⟩,?_⟩;refine bw (fun m ρ M'=>Gr M M'/\(∃(jf:Nat) (acc:List (List Int)) (gone:Bool) (x5:Option D),M.length<=jf/\M'[jf]?=some (.lst (acc.map ai))/\iZ (bK (mQ ps) n) (mQ ps) p 0 (ay t)=acc++(if gone=true then [] else iZ (bK (mQ ps) n) (mQ ps) p m ((ay t).drop m))/\acc.length<=m*625 /\
   ρ=[some (ar t),some (bN ps),some (ai p),some (.ob jf),some (.bl gone),x5])) ⟨Gr.app _ _,M.length,[],false,_,zp _,ag _ _,rfl,zM _,rfl⟩ (fun _ _ _ _=>trivial) ?_ ?_
  ·rintro m d ρ M1 hd ⟨g1,jf,acc,gone,x5,hj,h1,e1,l1,rfl⟩
   obtain⟨rfl,hm⟩:=di hd;have JQ:m<(ay t).length:=by walk_at "o"
   have hs:(ay t)[m]?=some (ay t)[m]:=zv JQ;generalize (ay t)[m]=s at hs;have p0:=zx hs;have jR:cz ((ay t).map ar) (0+(m:Int))=some (ar s):=by rw[xu];exact bB (by rw[zw,hs];rfl)
   obtain⟨fc,fp,fr,fs⟩:=pG s;obtain⟨aS,N5⟩:=zn.mp hs;rw[ym aS,N5,iZ]at e1;have l5:acc.length<=5*625:=zP l1 (xv _ (by walk_at "o"));have up:acc.length<=(m+1)*625:=zP l1 (xv _ (xo m));rw[et];walk_at "wq";refine⟨fun hg=>?_,fun hg=>?_⟩
   ·have hg:gone=false:=by simpa using hg
    subst hg;rw[if_neg zk]at e1;refine⟨_,jR,?_⟩;rw[fs];walk_at "wq";refine NM (k+n) M1 (bj s) (by have:=(hfit' s p0).1.1;walk_at "o") ps nd lp fun M2 g2=>?_;have g2':=g1.trans g2;have h2:=g2.keep _ _ h1;walk_at "wq";refine⟨fun hm=>?_,fun hm=>?_⟩
    ·have em:mQ ps s=true:=hm
     rw[if_pos em]at e1;refine⟨_,jR,?_⟩;rw[Xa];walk_at "wq";refine⟨by walk_at "o",by rw[zz];show _+1<=_;walk_at "o",?_⟩;have mW:D.tup (p.map D.int++[D.int (0+(m:Int))])=ai (p++[(m:Int)]):=by unfold ai;rw[zo,xu];rfl
     rw[mW];refine i7 ps nd lp n k M2 s (p++[(m:Int)]) (hfit s p0) (by walk_at "o") (by rw[zm];show _+1+_<=_;walk_at "o") fun j M3 g3 Zi h3=>?_;have g3':=g2'.trans g3;have l3:=B5 s p0 (p++[(m:Int)]);generalize bK (mQ ps) n s (p++[(m:Int)])=T at e1 l3 h3;walk_at "wq";refine⟨_,g3.keep _ _ h2,_,h3,by rw[zz,zz];walk_at "o",_,jR,?_⟩;rw[fs];walk_at "wq";rw[<- zo];refine⟨g3'.snoc _,_,acc++T,!dP s,_,g3'.len,ag _ _,?_,by rw[zm,vm];walk_at "o",rfl⟩;rw[e1,yz];congr 2;cases dP s <;> rfl
    ·have em:mQ ps s=false:=hm
     rw[if_neg (by rw[em];exact zk)]at e1;exact⟨g2',jf,acc,false,_,hj,h2,e1,up,rfl⟩
   ·have hg:gone=true:=by simpa using hg
    subst hg;exact⟨g1,jf,acc,true,_,hj,h1,e1,up,rfl⟩
  ·rintro ρ M1 ⟨g1,jf,acc,gone,x5,hj,h1,e1,l1,rfl⟩
   rw[cJ,show (((ay t).length:Int)-0).toNat=(ay t).length by walk_at "o",yB]at e1;have e2:iZ (bK (mQ ps) n) (mQ ps) p 0 (ay t)=acc:=by
    rw[e1];cases gone
    ·show acc++[]=acc;rw[zO]
    ·show acc++[]=acc;rw[zO]
   have eT:bK (mQ ps) (n+1) t p=if acc.isEmpty=true then [p] else acc:=by rw[bK,e2]
   walk_at "wq";refine⟨zM _,?_⟩;rw[jG];refine⟨_,mX ((Gr.app _ _).keep _ _ h1) (ag _ _),?_⟩;walk_at "wq";rw[vA];refine⟨fun z=>⟨by walk_at "o",q _ _ ((g1.snoc _).snoc _) (g1.snoc _).len ?_⟩,fun z=>q _ _ (g1.snoc _) hj ?_⟩
   ·rw[eT,if_pos z]
    exact ag _ _
   ·rw[eT,if_neg (by rw[z];exact zk)]
    exact(Gr.app _ _).keep _ _ h1
end
end Law
namespace Law
open PySem L3
section
variable {as vs:List Str}
noncomputable def rG(m:Tr->Bool):Tr->List Int->Prop
 |t,[]=>∀s∈ay t,m s=false
 |t,i::q=>∃(n:Nat) (r:Tr),i=n/\(ay t)[n]?=some r/\m r=true/\(∀(j:Nat) (s:Tr),j<n->(ay t)[j]?=some s->m s=true->dP s=true)/\rG m r q
theorem BQ{rec:Tr->List Int->List (List Int)}{m:Tr->Bool}{p:List Int}:∀(ts:List Tr) (k:Nat),(∀s∈ts,m s=false)->iZ rec m p k ts=[]
 |[],_,_=>rfl
 |t::ts,k,h=>by
  rw[iZ,if_neg (by rw[h t zJ];exact zk)];exact BQ ts (k+1) fun s hs=>h s (zI _ hs)
theorem Ge{rec:Tr->List Int->List (List Int)}{m:Tr->Bool}{p:List Int}:∀(ts:List Tr) (k:Nat),(∀s∈ts,∀p',rec s p'≠[])->(∃s∈ts,m s=true)->iZ rec m p k ts≠[]
 |[],_,_,h=>by obtain⟨s,hs,_⟩:=h;cases hs
 |t::ts,k,hr,h=>by
  rw[iZ];split
  ·exact fun e=>hr t zJ _ (List.append_eq_nil_iff.mp e).1
  ·rename_i hm
   refine Ge ts (k+1) (fun s hs=>hr s (zI _ hs)) ?_;obtain⟨s,hs,e⟩:=h;rcases zc.mp hs with rfl|hs
   ·exact absurd e hm
   ·exact⟨s,hs,e⟩
theorem qW{rec:Tr->List Int->List (List Int)}{m:Tr->Bool}{p pl:List Int}:∀(ts:List Tr) (k:Nat),pl∈iZ rec m p k ts ↔ ∃(i:Nat) (s:Tr),ts[i]?=some s/\m s=true/\(∀(j:Nat) (s':Tr),j<i->ts[j]?=some s'->m s'=true->dP s'=true)/\pl∈rec s (p++[((k+i:Nat):Int)])
 |[],k=>by
  constructor
  ·intro h;cases h
  ·rintro ⟨i,s,h,_⟩;cases h
 |t::ts,k=>by
  have ih:=qW (rec:=rec) (m:=m) (p:=p) (pl:=pl) ts (k+1);have sh:∀i:Nat,((k+1+i:Nat):Int)=((k+(i+1):Nat):Int):=fun i=>by walk_at "o"
  rw[iZ];constructor
  ·intro h
   by_cases hm:m t=true
   ·rw[if_pos hm]at h
    rcases zL.mp h with h|h
    ·exact⟨0,t,rfl,hm,fun j _ hj=>absurd hj (wH _),h⟩
    ·by_cases ho:dP t=true
     ·rw[if_pos ho]at h
      obtain⟨i,s,h1,h2,h3,h4⟩:=ih.mp h;refine⟨i+1,s,h1,h2,fun j s' hj e hm'=>?_,by rw[<- sh];exact h4⟩;cases j with
      |zero=>cases e;exact ho
      |succ j=>exact h3 j s' (by walk_at "o") e hm'
     ·rw[if_neg ho]at h;cases h
   ·rw[if_neg hm]at h
    obtain⟨i,s,h1,h2,h3,h4⟩:=ih.mp h;refine⟨i+1,s,h1,h2,fun j s' hj e hm'=>?_,by rw[<- sh];exact h4⟩;cases j with
    |zero=>cases e;exact absurd hm' hm
    |succ j=>exact h3 j s' (by walk_at "o") e hm'
  ·rintro ⟨i,s,h1,h2,h3,h4⟩
   cases i with
   |zero =>
    cases h1;rw[if_pos h2];exact zL.mpr (.inl h4)
   |succ i =>
    have up:=ih.mpr ⟨i,s,h1,h2,fun j s' hj e hm'=>h3 (j+1) s' (by walk_at "o") e hm',by rw[sh];exact h4⟩;by_cases hm:m t=true
    ·rw[if_pos hm,if_pos (h3 0 t (by walk_at "o") rfl hm)]
     exact zL.mpr (.inr up)
    ·rw[if_neg hm]
     exact up
theorem EB{m:Tr->Bool}:∀(n:Nat) (t:Tr) (p:List Int),aW as vs n t->bK m n t p≠[]
 |0,_,_,h=>h.elim
 |n+1,t,p,h=>by
  rw[bK];split
  ·exact List.cons_ne_nil _ _
  ·rename_i h;exact fun e=>h (by rw[e];rfl)
theorem iG{m:Tr->Bool}:∀(n:Nat) (t:Tr) (p pl:List Int),aW as vs n t->(pl∈bK m n t p ↔ ∃q,pl=p++q/\rG m t q)
 |0,_,_,_,h=>h.elim
 |n+1,t,p,pl,fit=>by
  have hf:=fun s hs=>(fit.2 s hs).2;rw[bK];constructor
  ·intro h
   split at h
   ·rename_i he
    refine⟨[],by rw[zO];exact zA.mp h,fun s hs=>?_⟩;cases hm:m s with
    |false=>rfl
    |true=>exact absurd (xU.mp he) (Ge _ _ (fun s hs p'=>EB (as:=as) (vs:=vs) n s p' (hf s hs)) ⟨s,hs,hm⟩)
   ·obtain⟨i,s,h1,h2,h3,h4⟩:=(qW _ _).mp h
    obtain⟨q,rfl,hq⟩:=(iG n s _ pl (hf s (zx h1))).mp h4;exact⟨(i:Int)::q,by rw[yz,xl];rfl,i,s,rfl,h1,h2,h3,hq⟩
  ·rintro ⟨q,rfl,hq⟩
   cases q with
   |nil =>
    rw[BQ _ _ hq,zO];exact zJ
   |cons i q =>
    obtain⟨n',s,rfl,h1,h2,h3,hq⟩:=hq;have up:=(qW (rec:=bK m n) (m:=m) (p:=p) (pl:=p++(n':Int)::q) (ay t) 0).mpr ⟨n',s,h1,h2,h3,(iG n s _ _ (hf s (zx h1))).mpr ⟨q,by rw[yz,xl];rfl,hq⟩⟩;split
    ·rename_i he
     rw[xU.mp he]at up;cases up
    ·exact up
theorem HS(a:List Int):cw a []=false:=by
 unfold cw;cases a <;> simp
theorem mK(j i:Int)(a q:List Int):cw (j::a) (i::q)=(decide (j=i)&&(a.isEmpty||cw a q)):=by
 unfold cw;rw[zE,xa];by_cases h:j=i
 ·subst h
  cases a <;> simp
 ·have:¬ i=j:=fun e=>h e.symm
  simp[h,this]
theorem Cz(j:Int)(on:Bool):bc [j] [] on=true:=by simp[bc]
theorem Cy(j b:Int)(a:List Int)(on:Bool):bc (j::b::a) [] on=false:=by simp[bc]
theorem rH(j i:Int)(q:List Int)(on:Bool):bc [j] (i::q) on=if i<=j then false else !on:=by simp[bc]
theorem pH(j b i:Int)(a q:List Int)(on:Bool):bc (j::b::a) (i::q) on=if j=i then bc (b::a) q on else false:=by
 unfold bc;rw[List.dropLast_cons₂,zE,xa];by_cases h:j=i
 ·subst h
  simp
 ·have:¬ i=j:=fun e=>h e.symm
  simp[h,this]
theorem subT_cons'{t r s:Tr}{n:Nat}{p:List Int}(h:(ay t)[n]?=some r)(e:aH r p=some s):aH t ((n:Int)::p)=some s:=by
 rw[fg,if_neg (by walk_at "o")];rw[show ((n:Int)).toNat=n from rfl,h];exact e
theorem kJ{m:Tr->Bool}:∀(q:List Int) (t:Tr),rG m t q ↔ (aH t q).isSome=true/\(∀a s,aH t a=some s->cw a q=true->m s=true)/\∀a s,aH t a=some s->bc a q (dP s)=true->m s=false
 |[],t=>by
  constructor
  ·intro h
   refine⟨rfl,fun a s _ hl=>(by rw[HS]at hl;cases hl),fun a s hs ht=>?_⟩;rcases a with _|⟨j,_|⟨b,a⟩⟩
   ·cases ht
   ·obtain⟨n,r,rfl,h1,h2⟩:=bZ hs
    cases h2;exact h _ (zx h1)
   ·rw[Cy]at ht;cases ht
  ·rintro ⟨_,_,h⟩ s hs
   obtain⟨n,hn⟩:=xO.mp hs;exact h [(n:Int)] s (jy hn) (Cz _ _)
 |i::q,t=>by
  constructor
  ·rintro ⟨n,r,rfl,h1,h2,h3,hq⟩
   obtain⟨k1,k2,k3⟩:=(kJ q r).mp hq;obtain⟨s0,e0⟩:=yw.mp k1;refine⟨by rw[subT_cons' h1 e0];rfl,fun a s hs hl=>?_,fun a s hs ht=>?_⟩
   ·rcases a with _|⟨j,a⟩
    ·cases hl
    ·rw[mK,zl,decide_eq_true_iff]at hl
     obtain⟨n',r',rfl,e1,e2⟩:=bZ hs
     have:n'=n:=by walk_at "o"
     subst this;rw[h1]at e1;cases e1;rcases a with _|⟨b,a⟩
     ·cases e2;exact h2
     ·exact k2 _ s e2 hl.2
   ·rcases a with _|⟨j,_|⟨b,a⟩⟩
    ·cases ht
    ·obtain⟨n',r',rfl,e1,e2⟩:=bZ hs
     cases e2;rw[rH]at ht;split at ht
     ·cases ht
     ·cases hm:m s with
      |false=>rfl
      |true =>
       rw[h3 n' s (by walk_at "o") e1 hm]at ht;cases ht
    ·obtain⟨n',r',rfl,e1,e2⟩:=bZ hs
     rw[pH]at ht;split at ht
     ·rename_i e
      have:n'=n:=by walk_at "o"
      subst this;rw[h1]at e1;cases e1;exact k3 _ s e2 ht
     ·cases ht
  ·rintro ⟨k1,k2,k3⟩
   obtain⟨s0,e0⟩:=yw.mp k1;obtain⟨n,r,rfl,h1,h2⟩:=bZ e0;refine⟨n,r,rfl,h1,k2 [(n:Int)] r (jy h1) (by rw[mK];simp),fun j s hj e hm=>?_,(kJ q r).mpr ⟨by rw[h2];rfl,fun a s hs hl=>?_,fun a s hs ht=>?_⟩⟩
   ·cases ho:dP s with
    |true=>rfl
    |false =>
     have:=k3 [(j:Int)] s (jy e) (by rw[rH,if_neg (by walk_at "o"),ho];rfl)
     rw[hm]at this;cases this
   ·exact k2 ((n:Int)::a) s (subT_cons' h1 hs) (by rw[mK,hl];simp)
   ·rcases a with _|⟨b,a⟩
    ·cases ht
    ·exact k3 ((n:Int)::b::a) s (subT_cons' h1 hs) (by rw[pH,if_pos rfl];exact ht)
end
end Law
namespace Law
open PySem L3
section
variable {srt:List D->Option (List D)}{as vs:List Str}
noncomputable def gp(E:List (Str×Nat)):List (Ky×D):=E.map fun e=>(.inr e.1,.ob e.2)
noncomputable def mD(E:List (Str×Nat))(n:Str)(j:Nat):List (Str×Nat):=if n∈E.map (·.1) then E.map (fun e=>if e.1=n then (e.1,j) else e) else E++[(n,j)]
theorem Bg(E:List (Str×Nat))(n:Str)(j:Nat):ee (gp E) (.inr n) (.ob j)=gp (mD E n j):=by
 have ha:((gp E).any fun kv=>decide (kv.1=(.inr n:Ky)))=decide (n∈E.map (·.1)):=by
  rw[yi,yF,decide_eq_true_eq];refine⟨fun ⟨x,hx,e⟩=>?_,fun h=>?_⟩
  ·obtain⟨e',he,rfl⟩:=zQ.mp hx
   exact Sum.inr.inj (of_decide_eq_true e)▸yK he
  ·obtain⟨e,he,rfl⟩:=zQ.mp h
   exact⟨_,yK he,by simp⟩
 unfold ee mD;rw[ha];by_cases h:n∈E.map (·.1)
 ·rw[if_pos (decide_eq_true h),if_pos h]
  unfold gp;rw[yp,yp];refine xA fun e _=>?_;show (if (Sum.inr e.1:Ky)=.inr n then _ else _)=((.inr (if e.1=n then (e.1,j) else e).1:Ky),D.ob (if e.1=n then (e.1,j) else e).2);by_cases z:e.1=n
  ·rw[if_pos (by rw[z]),if_pos z]
  ·rw[if_neg (fun w=>z (Sum.inr.inj w)),if_neg z]
 ·rw[if_neg (by rw[decide_eq_false h];exact zk),if_neg h]
  unfold gp;rw[zo];rfl
theorem K5(E:List (Str×Nat))(n:Str)(j:Nat):(mD E n j).map (·.1)=dC (E.map (·.1)) n:=by
 unfold mD dC;split
 ·rename_i h
  rw[yp];exact xA fun e _=>by show (if e.1=n then (e.1,j) else e).1=_;split <;> rfl
 ·rw[zo];rfl
theorem Hs{E:List (Str×Nat)}{n:Str}{j:Nat}{e:Str×Nat}(h:e∈mD E n j):(e.1=n/\e.2=j)\/(e∈E/\e.1≠n):=by
 unfold mD at h;split at h
 ·obtain⟨x,hx,rfl⟩:=zQ.mp h
  by_cases z:x.1=n
  ·rw[if_pos z];exact .inl ⟨z,rfl⟩
  ·rw[if_neg z];exact .inr ⟨hx,z⟩
 ·rename_i hn
  rcases zL.mp h with h|h
  ·exact .inr ⟨h,fun z=>hn (z▸yK h)⟩
  ·rw[zA.mp h];exact .inl ⟨rfl,rfl⟩
theorem tX:∀E:List (Str×Nat),strKeys (gp E)=some (E.map (·.1))
 |[]=>rfl
 |e::E=>by
  show strKeys (((.inr e.1:Ky),D.ob e.2)::gp E)=_;rw[strKeys,tX E];rfl
theorem Ar{xs:List Str}{x y:Str}(h:y∈xs\/y=x):y∈dC xs x:=by
 unfold dC;split
 ·rename_i hx
  rcases h with h|rfl
  ·exact h
  ·exact hx
 ·rcases h with h|rfl
  ·exact yo _ h
  ·exact zW _ (zA.mpr rfl)
theorem nk:∀(ys xs:List Str) {y:Str},(y∈xs\/y∈ys)->y∈aF xs ys
 |[],xs,y,h=>by
  rcases h with h|h
  ·exact h
  ·cases h
 |z::ys,xs,y,h=>by
  rw[aF];refine nk ys (dC xs z) ?_;rcases h with h|h
  ·exact .inl (Ar (.inl h))
  ·rcases zc.mp h with rfl|h
   ·exact .inl (Ar (.inr rfl))
   ·exact .inr h
theorem jj{ys:List Str}{y:Str}(h:y∈ys):y∈aF [] ys:=nk ys [] (.inr h)
structure SM (M:MH) (jd:Nat) (E:List (Str×Nat)) (xs:List Ask):Prop where
 d:M[jd]?=some (.aO (gp E))
 k:E.map (·.1)=aF [] (eL xs)
 v:∀e∈E,M[e.2]?=some (.lst ((aM e.1 xs).map .str))
theorem SM.keep{M M':MH}{jd:Nat}{E:List (Str×Nat)}{xs:List Ask}(h:SM M jd E xs)(g:Gr M M'):SM M' jd E xs:=⟨g.keep _ _ h.d,h.k,fun e he=>g.keep _ _ (h.v e he)⟩
theorem G0(nm:Str)(xs:List Ask)(a:Ask):aM nm (xs++[a])=aM nm xs++(if a.n=nm then a.vs else []):=by
 unfold aM;rw[xB,xM,va,zO]
theorem SM.get{M:MH}{jd:Nat}{E:List (Str×Nat)}{xs:List Ask}(h:SM M jd E xs)(nm:Str)(jn:Nat)(hn:M[jn]?=some (.lst [])):∃j0,(bq (gp E) (.inr nm)).getD (.ob jn)=.ob j0/\M[j0]?=some (.lst ((aM nm xs).map .str)):=by
 rcases mI E nm with ⟨e,he,h1,h2⟩|⟨h1,h2⟩
 ·exact⟨e.2,by unfold gp;rw[h2];rfl,by rw[<- h1];exact h.v e he⟩
 ·refine⟨jn,by unfold gp;rw[h2];rfl,?_⟩
  have:aM nm xs=[]:=by
   unfold aM;rw[List.flatMap_eq_nil_iff];intro a ha;rw[if_neg fun z=>?_];rw[h.k]at h1;exact h1 (jj (by unfold eL;exact z▸yK ha))
  rw[this];exact hn
theorem SM.put{M:MH}{jd:Nat}{E:List (Str×Nat)}{xs:List Ask}(h:SM M jd E xs)(a:Ask)(j:Nat)(hj:M[j]?=some (.lst ((aM a.n xs++a.vs).map .str))):SM (M.set jd (.aO (ee (gp E) (.inr a.n) (.ob j)))) jd (mD E a.n j) (xs++[a]):=by
 have ne:∀{i:Nat} {l:List D},M[i]?=some (.lst l)->jd≠i:=fun hi z=>by rw[<- z,h.d]at hi;cases hi
 refine⟨by rw[Bg];exact bQ h.d,?_,fun e he=>?_⟩
 ·rw[K5,h.k]
  unfold eL;rw[zo,qm];rfl
 ·rw[G0]
  rcases Hs he with ⟨e1,e2⟩|⟨he,e1⟩
  ·rw[e2,e1,if_pos rfl,zj (ne hj)]
   exact hj
  ·rw[if_neg (Ne.symm e1),zO,zj (ne (h.v e he))]
   exact h.v e he
end
end Law
namespace Law
open PySem L3
section
variable {srt:List D->Option (List D)}{as vs:List Str}
theorem t4(k:Nat)(M:MH)(t:Tr)(f:aW as vs 5 t)(ha:as.length<=3)(hv:vs.length<=3){Q:D->MH->Prop}(q:∀j M',Gr M M'->iF M' j t->Q (.ob j) M'):W ((cx srt (k+6)).fn "_law_splits" [ar t]) M Q:=by
 have big:=aw;rw[aA "_law_splits" 6 1 cu rfl,wf];rw[ja 2 cu];have tl:∀(M:MH) (jd:Nat) (E:List (Str×Nat)) (x2 x3:Option D) (Q:D->MH->Prop),SM M jd E (bW t)->(∀j M',Gr M M'->iF M' j t->Q (.ob j) M')->W (aq (cx srt (k+5)) (dr 2 cu) [some (ar t),some (.ob jd),x2,x3,none,none]) M (lU Q):=by
  intro M jd E x2 x3 Q hD q;have hin:∀y∈eL (bW t),y∈as:=fun y hy=>by
   obtain⟨b,hb,rfl⟩:=zQ.mp hy;exact((b8 f (cM t) fun _ h=>h).2 b hb).n
  have Wy:(E.map (·.1)).length<=3:=by
   rw[hD.k];exact zP (dw hin) ha
  have nd:(cf t).Nodup:=(aP _).nodup_iff.mpr (eO (as:=as) (eL (bW t)) [] xf (fun _ h=>nomatch h) hin).1;have en:a6 (E.map (·.1))=cf t:=by rw[hD.k];rfl
  have BI:(cf t).length<=3:=by rw[<- en,(aP _).length_eq];exact Wy
  simp only[cu,mY,mZ];walk_at "wq";have g1:Gr M (M++[MO.aO []]):=Gr.app _ _;have n1:(M++[MO.aO []])[M.length]?=some (.aO (gp [])):=ag _ _;generalize M++[MO.aO []]=M1 at g1 n1 ⊢;refine⟨_,(hD.keep g1).d,_,tX E,by walk_at "o",?_⟩;rw[en];have g2:Gr M1 (M1++[MO.lst ((cf t).map .str)]):=Gr.app _ _;have n2:(M1++[MO.lst ((cf t).map .str)])[M1.length]?=some (.lst ((cf t).map .str)):=ag _ _;have l1:M.length<M1.length:=aD n1;generalize M1++[MO.lst ((cf t).map .str)]=M2 at g2 n2 ⊢;generalize M1.length=j2 at n2 l1 ⊢;walk_at "wq";refine⟨_,n2,?_⟩;refine bw (fun m ρ M'=>Gr M M'/\M'[j2]?=some (.lst ((cf t).map .str))/\(∃F:List (Str×Nat),M'[M.length]?=some (.aO (gp F))/\F.map (·.1)=(cf t).take m/\∀e∈F,M'[e.2]?=some (.lst ((fj t e.1).map vD)))/\∃x5,ρ=[some (ar t),some (.ob jd),x2,x3,some (.ob M.length),x5])
   ⟨g1.trans g2,n2,⟨[],g2.keep _ _ n1,rfl,fun _ h=>nomatch h⟩,_,rfl⟩ (fun _ _ _ h=>h.2.1) ?_ ?_
  ·rintro m d ρ M3 hd ⟨g3,BF,⟨F,hF,BP,hFv⟩,x5,rfl⟩
   rw[zw]at hd;obtain⟨nm,oA,rfl⟩:=zu.mp hd;have JQ:=aD oA;have TQ:nm∈E.map (·.1):=by
    have:nm∈cf t:=zx oA
    rw[<- en]at this;exact(aP _).mem_iff.mp this
   have mh:=hD.keep g3;obtain⟨e,he,h1,h2⟩:∃e∈E,e.1=nm/\bq (E.map fun e=>((.inr e.1:Ky),D.ob e.2)) (.inr nm)=some (.ob e.2):=by
    rcases mI E nm with h|⟨h1,_⟩
    ·exact h
    ·exact absurd TQ h1
   have RQ:=mh.v e he;rw[h1]at RQ;have TK:∀y∈aM nm (bW t),y∈vs:=(fR (b8 f (cM t) fun _ h=>h).2).2;have Rw:=zP (dw TK) hv;have Y7:(a6 (aF [] (aM nm (bW t)))).length<=3:=by rw[(aP _).length_eq];exact Rw
   have Wr:nm ∉ F.map (·.1):=by
    rw[BP];intro z;obtain⟨i,hi,e3⟩:=wn.mp z;have e4:=(zn.mp oA).2;have b6:=List.pairwise_iff_getElem.mp nd i m (by walk_at "o") JQ (by walk_at "o");exact b6 (e3.trans e4.symm)
   walk_at "wq";refine⟨_,mh.d,_,rfl,_,h2,?_⟩;walk_at "wq";refine⟨_,RQ,_,jX _,by walk_at "o",by walk_at "o",_,(Gr.app _ _).keep _ _ (ag _ _),_,ag _ _,by rw[zz];show _+2<=_;walk_at "o",?_⟩;have g6:Gr M3 (M3++[MO.lst ((a6 (aF [] (aM nm (bW t)))).map D.str)]++[MO.lst [D.str ("":Str),D.non]]++[MO.lst ((a6 (aF [] (aM nm (bW t)))).map D.str++[D.str ("":Str),D.non])]):=((Gr.app _ _).snoc _).snoc _;have n6:(M3++[MO.lst ((a6 (aF [] (aM nm (bW t)))).map D.str)]++[MO.lst [D.str ("":Str),D.non]]++[MO.lst ((a6 (aF [] (aM nm (bW t)))).map D.str++[D.str ("":Str),D.non])])[(M3++[MO.lst ((a6 (aF [] (aM nm (bW t)))).map D.str)]++[MO.lst [D.str ("":Str),D.non]]).length]?=some (.lst ((fj t nm).map vD)):=by
    rw[ag];unfold fj;rw[zo,yp];rfl
   have l6:M3.length<=(M3++[MO.lst ((a6 (aF [] (aM nm (bW t)))).map D.str)]++[MO.lst [D.str ("":Str),D.non]]).length:=((Gr.app _ _).snoc _).len;generalize (M3++[MO.lst ((a6 (aF [] (aM nm (bW t)))).map D.str)]++[MO.lst [D.str ("":Str),D.non]]).length=j6 at n6 l6 ⊢;generalize M3++[MO.lst ((a6 (aF [] (aM nm (bW t)))).map D.str)]++[MO.lst [D.str ("":Str),D.non]]++[MO.lst ((a6 (aF [] (aM nm (bW t)))).map D.str++[D.str ("":Str),D.non])]=M6 at g6 n6 ⊢;have OG:=g6.keep _ _ hF;have Zh:M.length<M3.length:=aD hF;have Zq:F.length<=3:=by rw[<- zz (f:=(·.1)),BP,zD];walk_at "o"
   have eP:ee (gp F) (.inr nm) (.ob j6)=gp (F++[(nm,j6)]):=by
    rw[Bg];unfold mD;rw[if_neg Wr]
   refine⟨_,OG,_,rfl,by unfold gp;rw[zz];walk_at "o",(g3.trans g6).set (zp _) _,?_,⟨F++[(nm,j6)],by rw[eP];exact bQ OG,?_,fun e he=>?_⟩,_,rfl⟩
   ·rw[zj (by walk_at "o")]
    exact g6.keep _ _ BF
   ·rw[zo,BP,zR,oA]
    rfl
   ·have key:M6[e.2]?=some (.lst ((fj t e.1).map vD)):=by
     rcases zL.mp he with he|he
     ·exact g6.keep _ _ (hFv e he)
     ·rw[zA.mp he]
      exact n6
    rw[zj (fun z=>by rw[<- z,OG]at key;cases key)];exact key
  ·rintro ρ M3 ⟨g3,BF,⟨F,hF,BP,hFv⟩,x5,rfl⟩
   rw[zz,zN]at BP;walk_at "wq";exact q _ _ g3 ⟨F,hF,BP,hFv⟩
 generalize dr 2 cu=QW at tl ⊢;simp only[cu,ki,kj];walk_at "wq";refine⟨by walk_at "o",?_⟩;have g0:Gr M (M++[MO.aO []]):=Gr.app _ _;have n0:(M++[MO.aO []])[M.length]?=some (.aO (gp [])):=ag _ _;generalize M++[MO.aO []]=M0 at g0 n0 ⊢;have e0:D.tup []=ai []:=rfl;rw[e0];refine kE 5 k M0 t [] f (by decide) (by decide) fun j M1 g1 _ h1=>?_;rw[il]at h1;walk_at "wq";refine⟨_,h1,?_⟩;rw[jU _ (by decide)];have e1:(1:Int).toNat=1:=rfl;rw[e1,zG,vS,vN];have g2:Gr M0 (M1++[MO.lst ((cM t).map ai)]):=g1.snoc _;have n2:(M1++[MO.lst ((cM t).map ai)])[M1.length]?=some (.lst ((cM t).map ai)):=ag _ _;have l1:M.length<M1.length:=zB (aD n0) g1.len;generalize M1++[MO.lst ((cM t).map ai)]=M2 at g2 n2 ⊢;generalize M1.length=j2 at n2 l1 ⊢;refine⟨_,n2,?_⟩;refine bw (fun m ρ M'=>Gr M M'/\M'[j2]?=some (.lst ((cM t).map ai))/\(∃E,SM M' M.length E (bU t ((cM t).take m)))/\∃x2 x3,ρ=[some (ar t),some (.ob M.length),x2,x3,none,none])
  ⟨g0.trans g2,n2,⟨[],g2.keep _ _ n0,rfl,fun _ h=>nomatch h⟩,_,_,rfl⟩ (fun _ _ _ h=>h.2.1) ?_ ?_
 ·rintro m d ρ M' hd ⟨g,hp,⟨E,hD⟩,x2,x3,rfl⟩
  rw[zw]at hd;obtain⟨p,ft,rfl⟩:=zu.mp hd;obtain⟨s,e,o1,o2⟩:=mE f (zx ft);have RF:=aD ft;have YO:=jo f;obtain⟨F8,hin⟩:=b8 f ((cM t).take m) fun p' h=>yv h;rw[zD]at F8;walk_at "wq";refine jq (k+4) M' t s p e ?_;obtain⟨eb,ec,ep,er,et⟩:=dn s;rw[et];walk_at "wq";refine bw (fun m' ρ M'=>Gr M M'/\M'[j2]?=some (.lst ((cM t).map ai))/\(∃E,SM M' M.length E (bU t ((cM t).take m)++(bj s).take m'))/\∃x3,ρ=[some (ar t),some (.ob M.length),some (ai p),x3,none,none])
   ⟨g,hp,⟨E,by rw[List.take_zero,zO];exact hD⟩,_,rfl⟩ (fun _ _ _ _=>trivial) ?_ ?_
  ·rintro m' d ρ M3 hd' ⟨g3,BF,⟨E3,mh⟩,x3,rfl⟩
   rw[zw]at hd';obtain⟨a,OD,rfl⟩:=zu.mp hd';have hm':=aD OD;have Wm:=o2 a (zx OD);have hx:bU t ((cM t).take m)++(bj s).take (m'+1)=bU t ((cM t).take m)++(bj s).take m'++[a]:=by
    rw[zR,OD,yz];rfl
   generalize hX:bU t ((cM t).take m)++(bj s).take m'=xs at mh hx;have hxs:∀b∈xs,eD b as vs:=fun b hb=>by
    rw[<- hX]at hb;rcases zL.mp hb with hb|hb
    ·exact hin b hb
    ·exact o2 b (yv hb)
   have Y4:xs.length<=2343:=by
    rw[<- hX,zm,zD];walk_at "o"
   have Rw:=(fR (nm:=a.n) hxs).1;have Zr:E3.length<=3:=by
    rw[<- zz (f:=(·.1)),mh.k];refine zP (dw (as:=as) fun y hy=>?_) ha;obtain⟨b,hb,rfl⟩:=zQ.mp hy;exact(hxs b hb).n
   have Zn:=Wm.l;rw[bo];walk_at "wq";refine⟨_,mh.d,zM _,_,(Gr.app _ _).keep _ _ mh.d,?_⟩;obtain⟨j0,ej,RO⟩:=(mh.keep (Gr.app M3 [MO.lst []])).get a.n M3.length (ag _ _);rw[ej];have g5:Gr M3 (M3++[MO.lst []]++[MO.lst (a.vs.map .str)]):=(Gr.app _ _).snoc _;have RN:=(Gr.app (M3++[MO.lst []]) [MO.lst (a.vs.map .str)]).keep _ _ RO;have n5:(M3++[MO.lst []]++[MO.lst (a.vs.map .str)])[(M3++[MO.lst []]).length]?=some (.lst (a.vs.map .str)):=ag _ _;generalize M3++[MO.lst []]++[MO.lst (a.vs.map .str)]=M5 at g5 RN n5 ⊢;generalize (M3++[MO.lst []]).length=j5 at n5 ⊢;walk_at "wq";refine⟨_,RN,_,n5,by rw[zz,zz];walk_at "o",?_⟩;have g6:Gr M3 (M5++[MO.lst ((aM a.n xs).map .str++a.vs.map .str)]):=g5.snoc _;have n6:(M5++[MO.lst ((aM a.n xs).map .str++a.vs.map .str)])[M5.length]?=some (.lst ((aM a.n xs++a.vs).map .str)):=by
    rw[zo];exact ag _ _
   generalize M5++[MO.lst ((aM a.n xs).map .str++a.vs.map .str)]=M6 at g6 n6 ⊢;have Si:=mh.keep g6;walk_at "wq";refine⟨_,Si.d,_,rfl,by unfold gp;rw[zz];walk_at "o",(g3.trans g6).set (zp _) _,?_,⟨_,by rw[hx];exact Si.put a M5.length n6⟩,_,rfl⟩;rw[zj (by walk_at "o")];exact g6.keep _ _ BF
  ·rintro ρ M3 ⟨g3,BF,⟨E3,mh⟩,x3,rfl⟩
   rw[zz,zN]at mh;walk_at "wq";refine⟨g3,BF,⟨E3,?_⟩,_,_,rfl⟩;rw[oF ft e];exact mh
 ·rintro ρ M' ⟨g,hp,⟨E,hD⟩,x2,x3,rfl⟩
  rw[zz,zN]at hD;walk_at "wq";exact tl M' M.length E x2 x3 Q hD fun j M'' g' h=>q j M'' (g.trans g') h
end
end Law
namespace Law
open PySem L3
section
variable {srt:List D->Option (List D)}{as vs:List Str}
noncomputable def rh(t:Tr)(m:Kn)(n:Str):Vl:=if aX m n=some ("":Str) then some ("":Str) else if mO (aM n (bW t)) (aX m n)=true then aX m n else none
theorem IJ{t:Tr}{a:Ask}(ha:a∈bW t){v:Str}(hv:v∈a.vs):v∈aM a.n (bW t):=yN.mpr ⟨a,ha,by rw[if_pos rfl];exact hv⟩
theorem nL{t:Tr}{m:Kn}{a:Ask}(ha:a∈bW t):dO a (rh t m a.n)=dO a (aX m a.n):=by
 unfold rh;split
 ·rename_i h;rw[h]
 ·rename_i h
  split
  ·rfl
  ·rename_i h2
   have e1:mO a.vs (aX m a.n)=false:=by
    cases hv:aX m a.n with
    |none=>rfl
    |some s =>
     rw[hv]at h2;cases hc:a.vs.contains s with
     |false=>exact hc
     |true=>exact absurd (zT.mpr (IJ ha (zT.mp hc))) h2
   have e2:mO a.vs none=false:=rfl;unfold dO;rw[e1,e2];simp[h]
noncomputable def GV(t:Tr)(kn m:Kn):Prop:=∀n,aI kn n=true->aX kn n=rh t m n
theorem qj{t s:Tr}(fit:aW as vs 5 t){a:List Int}(hs:aH t a=some s)(b6:a≠[]){x:Ask}(hx:x∈bj s):x∈bW t:=by
 have h:=kQ fit a;rw[hs,il,wX]at h
 have:a∈cM t:=by
  have:(cM t).contains a=true:=by simpa [b6] using h
  exact zT.mp this
 exact yN.mpr ⟨a,this,by rw[c8 hs];exact hx⟩
theorem LD{t s:Tr}{kn m:Kn}(C:GV t kn m)(hb:∀x∈bj s,x∈bW t)(h:jJ s kn=true):mQ m s=false:=by
 obtain⟨a,ha,e⟩:=yF.mp h;rw[zl]at e;have e2:=e.2;rw[C _ e.1,nL (hb a ha)]at e2;exact xN.mpr ⟨a,ha,by simpa using e2⟩
theorem Mf{t s:Tr}{kn m:Kn}(C:GV t kn m)(hb:∀x∈bj s,x∈bW t)(h:lZ s kn=true):mQ m s=true:=by
 refine zS.mpr fun a ha=>?_;have e:=zS.mp h a ha;rw[zl]at e;have e2:=e.2;rw[C _ e.1,nL (hb a ha)]at e2;exact e2
theorem Bz{a p:List Int}(h:cw a p=true):a≠[]:=by rintro rfl;cases h
theorem tP{a p:List Int}{on:Bool}(h:bc a p on=true):a≠[]:=by rintro rfl;cases h
noncomputable def eQ(t:Tr)(p:List Int):Nat->D->Kn->Prop
 |0,_,_=>False
 |n+1,d,kn=>(∃a s,d=.tup [.str "fails",ai a]/\aH t a=some s/\cw a p=true/\jJ s kn=true)
 \/(∃a s,d=.tup [.str "caught",ai a]/\aH t a=some s/\bc a p (dP s)=true/\lZ s kn=true)
 \/∃(nm:Str) (ps:List (Vl×D)),d=.tup [.str "split",.str nm,.tup (ps.map fun q=>.tup [vD q.1,q.2])]/\ps.length<=1000/\aI kn nm=false/\nm∈cf t/\ps.map (·.1)=fj t nm/\∀q∈ps,eQ t p n q.2 (kn++[(nm,q.1)])
theorem G1{kn:Kn}{nm n:Str}{v:Vl}(h0:aI kn nm=false)(h:aI (kn++[(nm,v)]) n=true):(n=nm/\aX (kn++[(nm,v)]) n=v)\/(aI kn n=true/\aX (kn++[(nm,v)]) n=aX kn n):=by
 unfold aX;rw[List.find?_append];cases hk:aI kn n with
 |true =>
  obtain⟨p,hp,_⟩:=lL hk
  right
  rw[hp];exact⟨rfl,rfl⟩
 |false =>
  left
  have e:nm=n:=by
   unfold aI at h hk;rw[vI,hk]at h;simpa using h
  have hn:kn.find? (fun p=>decide (p.1=n))=none:=yX.mpr fun p hp=>by
   unfold aI at hk;simpa using ya.mp hk p hp
  rw[hn];subst e;simp
theorem OX(t:Tr)(m:Kn)(n:Str):rh t m n∈fj t n:=by
 unfold rh fj;split
 ·simp
 ·split
  ·rename_i h
   cases hv:aX m n with
   |none=>simp
   |some s =>
    rw[hv]at h;refine zL.mpr (.inl (zQ.mpr ⟨s,?_,rfl⟩));exact(aP _).mem_iff.mpr (nk _ _ (.inr (zT.mp h)))
  ·simp
theorem An{t:Tr}(fit:aW as vs 5 t){p:List Int}{m:Kn}(T:rG (mQ m) t p):∀(n:Nat) (d:D) (kn:Kn),eQ t p n d kn->GV t kn m->False
 |0,_,_,h,_=>h
 |n+1,d,kn,h,C=>by
  obtain⟨_,k2,k3⟩:=(kJ p t).mp T;rcases h with ⟨a,s,rfl,hs,hl,hb⟩|⟨a,s,rfl,hs,hl,hb⟩|⟨nm,ps,rfl,_,hk,hn,hps,h⟩
  ·have e:=LD C (fun x hx=>qj fit hs (Bz hl) hx) hb
   rw[k2 a s hs hl]at e;cases e
  ·have e:=Mf C (fun x hx=>qj fit hs (tP hl) hx) hb
   rw[k3 a s hs hl]at e;cases e
  ·have hc:=OX t m nm
   rw[<- hps]at hc;obtain⟨q,hq,e⟩:=zQ.mp hc;refine An fit T n q.2 _ (h q hq) fun x hx=>?_;rcases G1 hk hx with ⟨rfl,e2⟩|⟨h1,e2⟩
   ·rw[e2,e]
   ·rw[e2,C x h1]
theorem GH{t s0:Tr}(fit:aW as vs 5 t)(ha:as.length<=3)(hv:vs.length<=3){p:List Int}(hs:aH t p=some s0)(oz:(ay s0).length<=5):∀(n:Nat) (d:D) (kn:Kn),eQ t p n d kn->(kn.map (·.1)).Nodup->kn.length+n<=1000->Ax srt t p n d kn true
 |0,_,_,h,_,_=>h.elim
 |n+1,d,kn,h,nd,hl=>by
  rcases h with ⟨a,s,rfl,ha',h1,h2⟩|⟨a,s,rfl,ha',h1,h2⟩|⟨nm,ps,rfl,l,hk,hn,hps,h⟩
  ·exact O1 fit n a kn nd (by walk_at "o") ha' h1 h2
  ·exact O2 fit n a kn nd (by walk_at "o") hs oz ha' h1 h2
  ·exact O0 fit ha hv n nm ps kn hl l hk hn hps fun x hx=>GH fit ha hv hs oz n x.2 _ (h x hx) (Qw hk nd _) (by rw[zm];show _+1+n<=1000;walk_at "o")
end
end Law
namespace Law
open PySem L3
section
variable {srt:List D->Option (List D)}{as vs:List Str}
noncomputable def dq(t:Tr)(p:List Int):List (List Int):=(cW 5 t []).filter fun a=>cw a p||bc a p (dP (rowOf t a))
theorem qK{t:Tr}(fit:aW as vs 5 t){a:List Int}(h:a∈cW 5 t []):∃s,aH t a=some s:=by
 have e:=kQ fit a;rw[zT.mpr h]at e;exact yw.mp e.symm
theorem Bj{t:Tr}(fit:aW as vs 5 t):(cW 5 t []).length<=781:=by
 rw[il,zE]
 have:=jo fit
 walk_at "o"
theorem HP{t:Tr}(fit:aW as vs 5 t)(p:List Int):(dq t p).length<=780:=by
 unfold dq;rw[il,List.filter_cons_of_neg (by simp[cw,bc])];exact zP (xz _ _) (jo fit)
theorem nM{t:Tr}{p a:List Int}(h:a∈dq t p):a∈cM t:=by
 obtain⟨h1,h2⟩:=yl.mp h;rw[il]at h1;rcases zc.mp h1 with rfl|h1
 ·simp[cw,bc]at h2
 ·exact h1
theorem Bw{t s:Tr}(fit:aW as vs 5 t){p a:List Int}(hs:aH t a=some s)(h:(cw a p||bc a p (dP s))=true):a∈dq t p:=by
 refine yl.mpr ⟨zT.mp (by rw[kQ fit,hs];rfl),?_⟩;rw[c8 hs];exact h
theorem HN(k:Nat)(M:MH)(t:Tr)(fit:aW as vs 5 t)(p:List Int){Q:D->MH->Prop}(q:∀j M',Gr M M'->M'[j]?=some (.lst ((dq t p).map ai))->Q (.ob j) M'):W ((cx srt (k+7)).fn "places_that_matter" [ar t,ai p]) M Q:=by
 have big:=aw;have hl:=Bj fit;rw[aA "places_that_matter" 2 2 cV rfl,wf,cV];walk_at "wq";refine oW k M t fit fun j M1 g1 h1=>?_;walk_at "wq";refine⟨_,h1,by rw[zz];walk_at "o",?_⟩;refine bt (fun n ys M'=>M'=M1/\ys=(((cW 5 t []).take n).filter fun a=>cw a p||bc a p (dP (rowOf t a))).map ai) ⟨rfl,rfl⟩ (fun _ _ _ h=>by rw[h.1];exact h1) ?_ ?_
 ·rintro n d ys M' hd ⟨rfl,rfl⟩
  rw[zw]at hd;obtain⟨a,ha,rfl⟩:=zu.mp hd;obtain⟨s,hs⟩:=qK fit (zx ha);have er:=c8 hs;rw[zR,ha,xi,zo];walk_at "wq";refine Fx (k+5) M' a p ?_;walk_at "wq";refine⟨fun z=>?_,fun z=>?_⟩
  ·walk_at "wq"
   simp[z]
  ·refine A6 (k+4) M' t s fit a p hs ?_
   walk_at "wq";refine⟨fun z2=>?_,fun z2=>?_⟩
   ·simp[z2,er]
   ·simp[z,z2,er]
 ·rintro ys M' ⟨rfl,rfl⟩
  rw[zz,zN];walk_at "wq";exact q _ _ (g1.snoc _) (ag _ _)
noncomputable def Pk(t:Tr)(p:List Int)(kn:Kn):Prop:=∀a∈dq t p,∀s,aH t a=some s->(cw a p&&jJ s kn)=false/\(bc a p (dP s)&&lZ s kn)=false
theorem Lf(k:Nat)(M:MH)(t:Tr)(fit:aW as vs 5 t)(p:List Int)(kn:Kn)(nd:(kn.map (·.1)).Nodup)(hl:kn.length<=1000){j:Nat}(hj:M[j]?=some (.lst ((dq t p).map ai))){Q:D->MH->Prop}
  (q1:∀d M',Gr M M'->(∃d0,d=.tup d0)->eQ t p 1 d kn->Q d M') (q2:∀M',Gr M M'->Pk t p kn->Q .non M'):W ((cx srt (k+5)).fn "plain_case" [ar t,ai p,.ob j,bN kn]) M Q:=by
 rw[aA "plain_case" 5 4 gB rfl,wf,gB];walk_at "wq";refine⟨_,hj,?_⟩;refine bw (fun n ρ M'=>Gr M M'/\(∀a∈(dq t p).take n,∀s,aH t a=some s->(cw a p&&jJ s kn)=false/\(bc a p (dP s)&&lZ s kn)=false)/\∃x4,ρ=[some (ar t),some (ai p),some (.ob j),some (bN kn),x4]) ⟨.refl,by simp,_,rfl⟩ (fun _ _ _ h=>h.1.keep _ _ hj) ?_ ?_
 ·rintro n d ρ M1 hd ⟨g1,hb,x4,rfl⟩
  rw[zw]at hd;obtain⟨a,ha,rfl⟩:=zu.mp hd;obtain⟨s,hs⟩:=qK fit (yl.mp (zx ha)).1;walk_at "wq";refine BW (k+1) M1 t s fit a p hs kn nd hl fun M2 g2=>?_;walk_at "wq";refine⟨fun z=>?_,fun z=>?_⟩
  ·obtain⟨z1,z2⟩:=xq.mp z
   exact⟨by decide,q1 _ _ (g1.trans g2) ⟨_,rfl⟩ (.inl ⟨a,s,rfl,hs,z1,z2⟩)⟩
  refine Af k M2 t s fit a p hs kn nd hl fun M3 g3=>?_;walk_at "wq";refine⟨fun z'=>?_,fun z'=>⟨(g1.trans g2).trans g3,fun b hb' s' hs'=>?_,_,rfl⟩⟩
  ·obtain⟨z1,z2⟩:=xq.mp z'
   exact⟨by decide,q1 _ _ ((g1.trans g2).trans g3) ⟨_,rfl⟩ (.inr (.inl ⟨a,s,rfl,hs,z1,z2⟩))⟩
  ·rw[zR,ha]at hb'
   rcases zL.mp hb' with h|h
   ·exact hb b h s' hs'
   ·have:b=a:=by simpa using h
    subst this;rw[hs]at hs';cases hs';exact⟨z,z'⟩
 ·rintro ρ M1 ⟨g1,hb,x4,rfl⟩
  rw[zz,zN]at hb;walk_at "wq";exact q2 _ g1 hb
end
end Law
namespace L3
open PySem
section
variable {Γ:Ctx}{ρ:Ev}{M:MH}{F:Fl->MH->Prop}
theorem GZ{c:IC}{b:aE}:W (bz Γ (.whileS c b) ρ) M F=W (d9 (a9 Γ c) (aq Γ b) Γ.wh ρ) M F:=by delta W;simp only[sL]
theorem Ku{c:Ev->Mo Bool}{body:Ev->Mo Fl}(I:Nat->Ev->MH->Prop)
  (hs:∀n ρ M,I n ρ M->W (c ρ) M fun b M1=>(b=true->∃m,n=m+1/\W (body ρ) M1 fun f M2=>match f with|.nx ρ'=>I m ρ' M2|.ct ρ'=>I m ρ' M2|.bk ρ'=>F (.nx ρ') M2|.rt v=>F (.rt v) M2)/\(b=false->F (.nx ρ) M1)) :
  ∀(n:Nat) (ρ:Ev) (M:MH),I n ρ M->W (d9 c body (n+1) ρ) M F:=by
 intro n;induction n with
 |zero =>
  intro ρ M hI;unfold d9;rw[aG];refine(hs 0 ρ M hI).mono fun b M1 h=>?_;cases b with
  |false=>rw[if_neg zk];exact(ao _ _ _).mpr (h.2 rfl)
  |true=>obtain⟨m,e,_⟩:=h.1 rfl;cases e
 |succ n ih =>
  intro ρ M hI;unfold d9;rw[aG];refine(hs _ ρ M hI).mono fun b M1 h=>?_;cases b with
  |false=>rw[if_neg zk];exact(ao _ _ _).mpr (h.2 rfl)
  |true =>
   obtain⟨m,e,hw⟩:=h.1 rfl;cases e;rw[if_pos rfl,aG];refine hw.mono fun f M2 hf=>?_;cases f with
   |nx ρ'=>exact ih ρ' M2 hf
   |ct ρ'=>exact ih ρ' M2 hf
   |bk ρ'=>exact(ao _ _ _).mpr hf
   |rt v=>exact(ao _ _ _).mpr hf
end
end L3
namespace Law
open PySem L3
section
variable {srt:List D->Option (List D)}{as vs:List Str}
noncomputable def fP(j:Nat):Str:=Str.ofString (toString (j:Int))
noncomputable def lY(s:Str):Prop:=∃j:Nat,j<=3/\s=fP j
theorem O4:[fP 0,fP 1,fP 2,fP 3].Nodup:=by decide +kernel
theorem IH(k:Nat)(M:MH)(xs:List Str)(hx:xs.length<=3){j:Nat}(hj:M[j]?=some (.lst (xs.map .str))){Q:D->MH->Prop}(q:∀s,lY s->s ∉ xs->Q (.str s) M):W ((cx srt (k+1)).fn "value_beside" [.ob j]) M Q:=by
 have lim:∀n:Nat,(∀i:Nat,i<n->fP i∈xs)->n<=3:=fun n h=>by
  rcases vj 3 n with h3|h3
  ·have:=sub_len O4 (ys:=xs) (fun x hx=>by
    simp only[zc,yA,or_false]at hx;rcases hx with rfl|rfl|rfl|rfl
    ·exact h 0 (by walk_at "o")
    ·exact h 1 (by walk_at "o")
    ·exact h 2 (by walk_at "o")
    ·exact h 3 (by walk_at "o"))
   simp only[zE,ye]at this;walk_at "o"
  ·exact h3
 rw[aA "value_beside" 2 1 eU rfl,wf,eU];walk_at "wq";rw[GZ];have wh:(cx srt k).wh=999+1:=by cases k <;> rfl
 rw[wh];refine Ku (fun n ρ M'=>M'=M/\∃i:Nat,n+i=999/\(∀l:Nat,l<i->fP l∈xs)/\ρ=[some (.ob j),some (.int i)]) ?_ 999 _ _ ⟨rfl,0,rfl,fun l h=>absurd h (wH _),rfl⟩;rintro n ρ M' ⟨rfl,i,hi,hb,rfl⟩;have i3:=lim i hb;have es:nu (.int (i:Int))=some (fP i):=by
  show (if (i:Int).natAbs<2 ^ 64 then _ else none)=_;rw[if_pos (by walk_at "o")];rfl
 walk_at "wq";refine⟨_,es,?_⟩;walk_at "wq";refine⟨_,hj,?_⟩;walk_at "wq";refine⟨_,lO xs (some (fP i)),?_⟩;refine⟨fun z=>?_,fun z=>?_⟩
 ·have hb':∀l:Nat,l<i+1->fP l∈xs:=fun l hl=>by
   rcases vj l i with h|h
   ·exact hb l h
   ·have:l=i:=by walk_at "o"
    subst this;exact zT.mp z
  obtain⟨m,rfl⟩:∃m,n=m+1:=⟨n-1,by walk_at "o"⟩;refine⟨m,rfl,?_⟩;walk_at "wq";exact⟨i+1,by walk_at "o",hb',by rw[vH];rfl⟩
 ·walk_at "wq"
  exact⟨_,es,q _ ⟨i,i3,rfl⟩ fun h=>by rw[show mO xs (some (fP i))=true from zT.mpr h]at z;cases z⟩
noncomputable def Jb(t:Tr)(p q:Str×Vl):Prop:=q.1=p.1/\((p.2≠none/\q.2=p.2)\/(p.2=none/\∃s,q.2=some s/\lY s/\s ∉ aM p.1 (bW t)))
inductive Told (t:Tr):Kn->Kn->Prop
 |nil:Told t [] []
 |cons {p q:Str×Vl} {r m:Kn}:Jb t p q->Told t r m->Told t (p::r) (q::m)
theorem Told.snoc{t:Tr}{r m:Kn}{p q:Str×Vl}(h:Told t r m)(e:Jb t p q):Told t (r++[p]) (m++[q]):=by
 induction h with
 |nil=>exact .cons e .nil
 |cons e1 _ ih=>exact .cons e1 ih
theorem Told.names{t:Tr}{r m:Kn}(h:Told t r m):m.map (·.1)=r.map (·.1):=by
 induction h with
 |nil=>rfl
 |cons e1 _ ih=>rw[zG,zG,ih,e1.1]
theorem Told.len{t:Tr}{r m:Kn}(h:Told t r m):m.length=r.length:=by
 have:=congrArg List.length h.names
 rwa [zz,zz]at this
theorem Told.mem{t:Tr}{r m:Kn}(h:Told t r m):(∀p∈r,∃q∈m,Jb t p q)/\∀q∈m,∃p∈r,Jb t p q:=by
 induction h with
 |nil=>exact⟨fun _ h=>(nomatch h),fun _ h=>(nomatch h)⟩
 |cons e1 _ ih =>
  refine⟨fun p hp=>?_,fun q hq=>?_⟩
  ·rcases zc.mp hp with rfl|hp
   ·exact⟨_,zJ,e1⟩
   ·obtain⟨q,h1,h2⟩:=ih.1 p hp
    exact⟨q,zI _ h1,h2⟩
  ·rcases zc.mp hq with rfl|hq
   ·exact⟨_,zJ,e1⟩
   ·obtain⟨p,h1,h2⟩:=ih.2 q hq
    exact⟨p,zI _ h1,h2⟩
theorem Mi(k:Nat)(M:MH)(t:Tr)(fit:aW as vs 5 t)(hv:vs.length<=3)(kn:Kn)(hl:kn.length<=1000){Q:D->MH->Prop}(q:∀(m:Kn) (M':MH),Gr M M'->Told t (bD kn) m->Q (bN m) M'):W ((cx srt (k+9)).fn "marks_told" [ar t,bN kn]) M Q:=by
 have big:=aw;have JQ:(bD kn).length<=kn.length:=xz _ _;obtain⟨_,u7⟩:=b8 fit (cM t) fun p h=>h;rw[aA "marks_told" 5 2 gC rfl,wf,gC];walk_at "wq";refine⟨zM _,?_⟩;have g0:=Gr.app M [MO.lst []];have n0:=ag M (MO.lst []);generalize Gb:M++[MO.lst []]=M0 at g0 n0 ⊢;clear Gb;refine jI (k+7) M0 kn hl fun M1 g1=>?_;have ek:bN (bD kn)=.tup ((bD kn).map fk):=rfl;rw[ek];walk_at "wq";refine bw (fun n ρ M'=>Gr M M'/\(∃m:Kn,Told t ((bD kn).take n) m/\M'[M.length]?=some (.lst (m.map fk)))/\∃x3 x4,ρ=[some (ar t),some (bN kn),some (.ob M.length),x3,x4]) ⟨g0.trans g1,⟨[],.nil,g1.keep _ _ n0⟩,_,_,rfl⟩ (fun _ _ _ _=>trivial) ?_ ?_
 ·rintro n d ρ M2 hd ⟨g2,⟨m,hm,h2⟩,x3,x4,rfl⟩
  rw[zw]at hd;obtain⟨⟨nm,v⟩,hp,rfl⟩:=zu.mp hd;have hlen:=hm.len;have BI:=(zn.mp hp).1;rw[zD]at hlen;have W8:fk (nm,v)=.tup [.str nm,vD v]:=rfl;have et:(bD kn).take (n+1)=(bD kn).take n++[(nm,v)]:=by rw[zR,hp];rfl
  rw[W8];cases v with
  |none =>
   walk_at "wq";refine⟨rfl,fun _=>?_,fun z=>(by cases z)⟩;refine mw k M2 t nm fit hv fun jv M3 g3 _ h3=>?_;have hin:∀y∈aM nm (bW t),y∈vs:=(fR u7).2;walk_at "wq";refine IH (k+7) M3 _ (by rw[(aP _).length_eq];exact zP (dw hin) hv) h3 fun s hs se=>?_;have se:s ∉ aM nm (bW t):=fun h=>se ((aP _).mem_iff.mpr (jj h));have h2:=g3.keep _ _ h2;walk_at "wq";refine⟨_,h2,by decide,_,h2,by rw[zz];walk_at "o",?_⟩;refine⟨(g2.trans g3).set (zp _) _,⟨m++[(nm,some s)],by rw[et];exact hm.snoc ⟨rfl,.inr ⟨rfl,s,rfl,hs,se⟩⟩,?_⟩,_,_,rfl⟩;rw[zo];exact bQ h2
  |some s =>
   walk_at "wq";refine⟨rfl,fun z=>(by cases z),fun _=>?_⟩;refine⟨_,h2,by decide,_,h2,by rw[zz];walk_at "o",?_⟩;refine⟨g2.set (zp _) _,⟨m++[(nm,some s)],by rw[et];exact hm.snoc ⟨rfl,.inl ⟨fun e=>(by cases e),rfl⟩⟩,?_⟩,_,_,rfl⟩;rw[zo];exact bQ h2
 ·rintro ρ M2 ⟨g2,⟨m,hm,h2⟩,x3,x4,rfl⟩
  rw[zz,zN]at hm;walk_at "wq";exact⟨_,h2,q m _ g2 hm⟩
end
end Law
namespace Law
open PySem L3
section
variable {srt:List D->Option (List D)}{as vs:List Str}
theorem GL{s:Str}(h:lY s):s≠"":=by
 obtain⟨j,hj,rfl⟩:=h
 have:∀i:Fin 4,fP i.1≠"":=by decide +kernel
 exact this ⟨j,by walk_at "o"⟩
theorem G4{t:Tr}{kn m:Kn}(nd:(kn.map (·.1)).Nodup)(hsp:∀p∈kn,p.2∈fj t p.1)(h:Told t (bD kn) m):GV t kn m:=by
 intro n hk;obtain⟨p,hf,hp,rfl⟩:=lL hk;have hv:=(jx nd hp).1;have VN:(m.map (·.1)).Nodup:=by
  rw[h.names];exact nd.sublist (xX.map _)
 rw[hv];unfold rh;by_cases he:p.2=some ("":Str)
 ·have:m.find? (fun q=>decide (q.1=p.1))=none:=yX.mpr fun q hq=>by
   obtain⟨p',hp',e1,_⟩:=h.mem.2 q hq;obtain⟨h1,h2⟩:=yl.mp hp';intro e;have e:q.1=p.1:=by simpa using e
   have hv':=(jx nd h1).1;rw[<- e1,e,hv,he]at hv';rw[<- hv']at h2;simp at h2
  have hm:aX m p.1=some ("":Str):=by unfold aX;rw[this];rfl
  rw[hm,if_pos rfl,he]
 ·obtain⟨q,hq,e1,e2⟩:=h.mem.1 p (yl.mpr ⟨hp,by simpa using he⟩)
  have hm:=(jx VN hq).1;rw[e1]at hm;rcases e2 with ⟨e2,e3⟩|⟨e2,s,e3,hs,hn⟩
  ·rw[hm,e3,if_neg he]
   cases BG:p.2 with
   |none=>exact absurd BG e2
   |some s =>
    have hin:=hsp p hp;rw[BG]at hin he
    have:s∈aM p.1 (bW t):=by
     unfold fj at hin;rcases zL.mp hin with h|h
     ·obtain⟨x,hx,ex⟩:=zQ.mp h
      cases ex
      have:=(aP _).mem_iff.mp hx
      exact(eO (as:=aM p.1 (bW t)) (aM p.1 (bW t)) [] xf (fun _ h=>nomatch h) (fun _ h=>h)).2 _ this
     ·simp only[zc,Option.some.injEq,yA,or_false,reduceCtorEq]at h
      exact absurd (by rw[h]) he
    rw[if_pos (show mO _ (some s)=true from zT.mpr this)]
  ·rw[hm,e3,if_neg (by simpa using GL hs),if_neg (by
    show ¬ (aM p.1 (bW t)).contains s=true;exact fun z=>hn (zT.mp z)),e2]
theorem Cw{t s0:Tr}{p:List Int}{kn m:Kn}(fit:aW as vs 5 t)(hs:aH t p=some s0)(C:GV t kn m)(P:Pk t p kn)(hk:∀a∈bU t (dq t p),aI kn a.n=true):rG (mQ m) t p:=by
 refine(kJ p t).mpr ⟨by rw[hs];rfl,fun a s ha hl=>?_,fun a s ha hl=>?_⟩
 ·have hm:=Bw fit ha (p:=p) (by rw[hl];rfl)
  have h1:=(P a hm s ha).1;rw[hl,yE]at h1;refine zS.mpr fun x hx=>?_;have FW:=hk x (yN.mpr ⟨a,hm,by rw[c8 ha];exact hx⟩);have h2:=ya.mp h1 x hx;rw[FW,yE,C _ FW,nL (qj fit ha (Bz hl) hx)]at h2;simpa using h2
 ·have hm:=Bw fit ha (p:=p) (by rw[hl,vZ])
  have h1:=(P a hm s ha).2;rw[hl,yE]at h1;obtain⟨x,hx,h2⟩:=xN.mp h1;have FW:=hk x (yN.mpr ⟨a,hm,by rw[c8 ha];exact hx⟩);rw[FW,yE,C _ FW,nL (qj fit ha (tP hl) hx)]at h2;exact xN.mpr ⟨x,hx,h2⟩
noncomputable def Xk(t:Tr)(p:List Int)(nl:List Str)(kn:Kn)(r:D):Prop :=
 (∃d,r=.tup [.str "cases",d]/\eQ t p (nl.length+1) d kn) \/
 ∃kn' m,r=.tup [.str "marks",bN m]/\kn'.map (·.1)=kn.map (·.1)++nl/\(∀q∈kn',q∈kn\/q.2∈fj t q.1)/\Pk t p kn'/\Told t (bD kn') m
theorem eQ.up{t:Tr}{p:List Int}:∀{n:Nat} {d:D} {kn:Kn},eQ t p n d kn->eQ t p (n+1) d kn
 |0,_,_,h=>h.elim
 |n+1,d,kn,h=>by
  rcases h with h|h|⟨nm,ps,h1,h2,h3,h4,h5,h⟩
  ·exact .inl h
  ·exact .inr (.inl h)
  ·exact .inr (.inr ⟨nm,ps,h1,h2,h3,h4,h5,fun q hq=>eQ.up (h q hq)⟩)
theorem eQ.ups{t:Tr}{p:List Int}{d:D}{kn:Kn}:∀{n:Nat},eQ t p 1 d kn->eQ t p (n+1) d kn
 |0,h=>h
 |n+1,h=>eQ.up (eQ.ups h)
theorem KD{t:Tr}(fit:aW as vs 5 t)(hv:vs.length<=3)(nm:Str):(fj t nm).length<=5:=by
 obtain⟨_,u7⟩:=b8 fit (cM t) fun p h=>h;have hin:∀y∈aM nm (bW t),y∈vs:=(fR u7).2
 have:=dw hin
 unfold fj;rw[zm,zz,(aP _).length_eq];simp only[zE,ye];walk_at "o"
theorem Kc:¬ ((("cases":Str)==("marks":Str))=true):=by decide +kernel
theorem pP{t s0:Tr}(fit:aW as vs 5 t)(ha:as.length<=3)(hv:vs.length<=3){p:List Int}(hs:aH t p=some s0){jm:Nat}:∀(nl:List Str) (k:Nat) (M:MH) (kn:Kn) (jn:Nat),(kn.map (·.1)++nl).Nodup->(∀n∈nl,n∈cf t)->kn.length+nl.length<=100->M[jm]?=some (.lst ((dq t p).map ai))->M[jn]?=some (.lst (nl.map .str)) ->
  ∀{Q:D->MH->Prop} (_:∀r M',Gr M M'->Xk t p nl kn r->Q r M'),W ((cx srt (k+nl.length+10)).fn "shown_for" [ar t,ai p,.ob jm,.ob jn,bN kn]) M Q
 |nl,k,M,kn,jn,nd,hin,hl,hm,hn,Q,q=>by
  have big:=aw;have VO:(kn.map (·.1)).Nodup:=(xt.mp nd).1;rw[show k+nl.length+10=k+nl.length+9+1 by walk_at "o",aA "shown_for" 9 5 iw rfl,wf,iw];walk_at "wq";refine Lf (k+nl.length+4) M t fit p kn VO (by walk_at "o") hm (fun d M1 g1 hd hb=>?_) fun M1 g1 hP=>?_
  ·obtain⟨d0,rfl⟩:=hd
   walk_at "wq";refine⟨rfl,fun _=>⟨by decide,q _ _ g1 (.inl ⟨_,rfl,eQ.ups hb⟩)⟩,fun z=>(by cases z)⟩
  walk_at "wq";refine⟨rfl,fun z=>(by cases z),fun _=>?_⟩;refine⟨_,g1.keep _ _ hn,?_⟩;cases nl with
  |nil =>
   refine⟨fun _=>?_,fun z=>(by cases z)⟩;refine Mi k M1 t fit hv kn (by simp only[ye]at hl;walk_at "o") fun m M2 g2 hT=>?_;walk_at "wq";exact⟨by decide,q _ _ (g1.trans g2) (.inr ⟨kn,m,rfl,by rw[zO],fun x hx=>.inl hx,hP,hT⟩)⟩
  |cons n0 r =>
   refine⟨fun z=>(by cases z),fun _=>⟨zM _,?_⟩⟩;have g2:=g1.snoc (MO.lst []);have n2:=ag M1 (MO.lst []);have l1:=g1.len;generalize J0:M1++[MO.lst []]=M2 at g2 n2 ⊢;generalize M1.length=jc at n2 l1 ⊢;clear J0;refine⟨_,g2.keep _ _ hn,?_⟩;rw[zG];walk_at "wq";have VM:=(xt.mp nd).2;have FX:aI kn n0=false:=by
    unfold aI;rw[ya];intro x hx
    have:=VM.2 x.1 (zQ.mpr ⟨x,hx,rfl⟩) n0 zJ
    simpa using this
   refine rE (k+r.length+1) M2 t n0 fit hv fun j3 M3 g3 h3=>?_;have l5:=KD fit hv n0;walk_at "wq";refine⟨_,h3,?_⟩;have n3:=g3.keep _ _ n2;have g3:=g2.trans g3;have nj:jc≠j3:=by
    rintro rfl;rw[n3]at h3
    have:=congrArg (fun o=>match o with|some (MO.lst ds)=>ds.length|_=>0) h3
    simp[fj]at this
   refine bw (fun n ρ M'=>Gr M M'/\M'[j3]?=some (.lst ((fj t n0).map vD))/\(∃cs:List (Vl×D),cs.map (·.1)=(fj t n0).take n/\(∀c∈cs,eQ t p (r.length+1) c.2 (kn++[(n0,c.1)]))/\M'[jc]?=some (.lst (cs.map fun c=>.tup [vD c.1,c.2])))/\∃x7 x8,ρ=[some (ar t),some (ai p),some (.ob jm),some (.ob jn),some (bN kn),some .non,some (.ob jc),x7,x8])
    ⟨g3,h3,⟨[],rfl,fun _ h=>(nomatch h),n3⟩,_,_,rfl⟩ (fun _ _ _ h=>h.2.1) ?_ ?_
   ·rintro n d ρ M4 hd ⟨g4,h4,⟨cs,sj,jQ,OA⟩,x7,x8,rfl⟩
    rw[zw]at hd;obtain⟨v,hv',rfl⟩:=zu.mp hd;have N9:=congrArg List.length sj;rw[zz,zD]at N9;have BJ:=g4.keep _ _ hn;rw[zG]at BJ;walk_at "wq";refine⟨_,BJ,?_⟩;have ec:cutD (D.str n0::r.map D.str) (some 1) none=r.map D.str:=by rw[jU _ (by decide)];rfl
    rw[ec];have g5:=Gr.app M4 [MO.lst (r.map D.str)];have n5:=ag M4 (MO.lst (r.map D.str));generalize M4++[MO.lst (r.map D.str)]=M5 at g5 n5 ⊢;refine⟨_,g5.keep _ _ BJ,?_⟩;have ek:bN kn=.tup (kn.map fk):=rfl;have OV:D.tup (kn.map fk++[D.tup [D.str n0,vD v]])=bN (kn++[(n0,v)]):=by unfold bN;rw[zo];rfl
    rw[ek];walk_at "wq";simp only[zE]at hl;refine⟨by decide,by decide,by rw[zz];show _+1<=_;walk_at "o",?_⟩;rw[OV,<- ek];rw[show k+(r.length+1)+9=k+r.length+10 by walk_at "o"];refine pP fit ha hv hs r k M5 (kn++[(n0,v)]) M4.length (by rw[zo,yz];exact nd) (fun x hx=>hin x (zI _ hx)) (by rw[zm];show _+1+_<=_;walk_at "o") ((g4.trans g5).keep _ _ hm) n5 fun res M6 g6 hR=>?_;have g6':=(g4.trans g5).trans g6;have V6:=zx hv';rcases hR with ⟨d,rfl,hb⟩|⟨kn',m,rfl,e1,e2,e3,e4⟩
    ·walk_at "wq"
     refine⟨fun z=>absurd z Kc,fun _=>?_⟩;have Oy:=(g5.trans g6).keep _ _ OA;have Zd:=(zn.mp hv').1;refine⟨_,Oy,by decide,_,Oy,by rw[zz];walk_at "o",?_⟩;refine⟨g6'.set l1 _,by rw[zj nj];exact(g5.trans g6).keep _ _ h4,⟨cs++[(v,d)],by rw[zo,sj,zR,hv'];rfl,fun c hc=>?_,?_⟩,_,_,rfl⟩
     ·rcases zL.mp hc with h|h
      ·exact jQ c h
      ·rw[zA.mp h];exact hb
     ·rw[bQ Oy,zo]
      rfl
    ·walk_at "wq"
     refine⟨fun _=>q _ _ g6' (.inr ⟨kn',m,rfl,by rw[e1,zo,yz];rfl,fun x hx=>?_,e3,e4⟩),fun z=>absurd z (Ji _)⟩;rcases e2 x hx with h|h
     ·rcases zL.mp h with h|h
      ·exact .inl h
      ·rw[zA.mp h];exact .inr V6
     ·exact .inr h
   ·rintro ρ M4 ⟨g4,h4,⟨cs,sj,jQ,OA⟩,x7,x8,rfl⟩
    rw[zz,zN]at sj;have N9:=congrArg List.length sj;rw[zz]at N9;have BJ:=g4.keep _ _ hn;rw[zG]at BJ;walk_at "wq";refine⟨_,BJ,?_⟩;walk_at "wq";exact⟨_,OA,by decide,by decide,q _ _ g4 (.inl ⟨_,rfl,.inr (.inr ⟨n0,cs,rfl,by walk_at "o",FX,hin n0 zJ,sj,jQ⟩)⟩)⟩
end
end Law
namespace Law
open PySem L3
section
variable {srt:List D->Option (List D)}{as vs:List Str}
noncomputable def ox(t:Tr)(p:List Int):List Str:=a6 (aF [] (eL (bU t (dq t p))))
structure Ke (as vs:List Str) (t:Tr) (p:List Int) (m:Kn):Prop where
 tk:rG (mQ m) t p
 sub:(m.map (·.1)).Sublist (ox t p)
 vl:∀q∈m,∃s,q.2=some s/\s≠""/\(s∈vs\/lY s)
noncomputable def Pg(as vs:List Str)(t:Tr)(p:List Int)(r:D):Prop:=(∃d,r=.tup [.str "cases",d]/\eQ t p 4 d [])\/∃m,r=.tup [.str "marks",bN m]/\Ke as vs t p m
theorem DG{t:Tr}(fit:aW as vs 5 t)(p:List Int):(ox t p).Nodup/\(ox t p).length<=as.length/\(∀n∈ox t p,n∈as)/\(∀n∈ox t p,n∈cf t)/\∀a∈bU t (dq t p),a.n∈ox t p:=by
 obtain⟨_,hb⟩:=b8 fit (dq t p) fun p h=>nM h;have hin:∀y∈eL (bU t (dq t p)),y∈as:=fun y hy=>by
  obtain⟨a,h1,rfl⟩:=zQ.mp hy;exact(hb a h1).n
 have hn:∀y∈eL (bU t (dq t p)),y∈eL (bW t):=fun y hy=>by
  obtain⟨a,h1,rfl⟩:=zQ.mp hy;obtain⟨x,h2,h3⟩:=yN.mp h1;exact zQ.mpr ⟨a,yN.mpr ⟨x,nM h2,h3⟩,rfl⟩
 have ok:=eO (as:=as) _ [] xf (fun _ h=>nomatch h) hin;have VE:=eO (as:=eL (bW t)) _ [] xf (fun _ h=>nomatch h) hn;refine⟨(aP _).nodup_iff.mpr ok.1,?_,fun n h=>ok.2 n ((aP _).mem_iff.mp h),fun n h=>?_,fun a h=>?_⟩
 ·unfold ox
  rw[(aP _).length_eq];exact dw hin
 ·exact(aP _).mem_iff.mpr (jj (VE.2 n ((aP _).mem_iff.mp h)))
 ·exact(aP _).mem_iff.mpr (jj (zQ.mpr ⟨a,h,rfl⟩))
theorem eQ.le{t:Tr}{p:List Int}{d:D}{kn:Kn}{n:Nat}(h:eQ t p n d kn):∀{m:Nat},n<=m->eQ t p m d kn
 |0,hm=>by
  have:n=0:=by walk_at "o"
  subst this;exact h
 |m+1,hm=>by
  rcases vj m n with h1|h1
  ·have:n=m+1:=by walk_at "o"
   subst this;exact h
  ·exact eQ.up (eQ.le h h1)
theorem qz(k:Nat)(M:MH){t s0:Tr}(fit:aW as vs 5 t)(ha:as.length<=3)(hv:vs.length<=3){p:List Int}(hs:aH t p=some s0){Q:D->MH->Prop}(q:∀r M',Gr M M'->Pg as vs t p r->Q r M'):W ((cx srt (k+14)).fn "shown" [ar t,ai p]) M Q:=by
 have hl:=HP fit p;obtain⟨n1,n2,n3,n4,n5⟩:=DG fit p;obtain⟨hb1,F7⟩:=b8 fit (dq t p) fun p h=>nM h;rw[aA "shown" 3 2 lj rfl,wf,lj];walk_at "wq";refine kN (k+12) M t s0 p hs fit ?_;walk_at "wq";refine HN (k+6) M t fit p fun jm M1 g1 h1=>?_;walk_at "wq";refine oG (k+11) M1 t fit (dq t p) (fun p h=>nM h) (by walk_at "o") h1 fun j2 M2 g2 h2=>?_;walk_at "wq";refine rV (k+12) M2 F7 ha (by walk_at "o") h2 fun j3 M3 g3 _ h3=>?_;walk_at "wq";have Sk:=g2.trans g3;obtain⟨k1,JS⟩:∃k1,k1+(ox t p).length+10=k+13:=⟨k+3-(ox t p).length,by walk_at "o"⟩;rw[<- JS];have e0:D.tup []=bN []:=rfl;rw[e0];refine⟨zM _,pP fit ha hv hs (ox t p) k1 M3 [] j3 (by simpa using n1) n4 (by simp only[ye];walk_at "o") (Sk.keep _ _ h1) h3 fun r M4 g4 hR=>?_⟩;refine q r M4 ((g1.trans Sk).trans g4) ?_;rcases hR with ⟨d,rfl,hb⟩|⟨kn,m,rfl,e1,e2,e3,e4⟩
 ·exact .inl ⟨d,rfl,hb.le (by walk_at "o")⟩
 ·rw[xI,xE]at e1
  have nd:(kn.map (·.1)).Nodup:=by rw[e1];exact n1
  have hsp:∀q∈kn,q.2∈fj t q.1:=fun q hq=>(e2 q hq).resolve_left (fun h=>nomatch h);refine .inr ⟨m,rfl,?_,?_,fun q hq=>?_⟩
  ·refine Cw fit hs (G4 nd hsp e4) e3 fun a ha'=>?_
   have:=n5 a ha'
   rw[<- e1]at this;obtain⟨x,hx,e⟩:=zQ.mp this;exact yF.mpr ⟨x,hx,by simpa using e⟩
  ·rw[e4.names,<- e1]
   exact xX.map _
  ·obtain⟨x,hx,h1,h2⟩:=e4.mem.2 q hq
   obtain⟨Rt,JN⟩:=yl.mp hx;rcases h2 with ⟨h2,h3⟩|⟨h2,s,h3,h4,_⟩
   ·cases N1:x.2 with
    |none=>exact absurd N1 h2
    |some s =>
     rw[N1]at JN h3;have b6:s≠"":=by simpa using JN
     refine⟨s,h3,b6,.inl ?_⟩;have hin:=hsp x Rt;rw[N1]at hin;obtain⟨_,u7⟩:=b8 fit (cM t) fun p h=>h;unfold fj at hin;rcases zL.mp hin with h|h
     ·obtain⟨y,hy,ey⟩:=zQ.mp h
      cases ey;exact(eO (as:=vs) _ [] xf (fun _ h=>nomatch h) (fR u7).2).2 _ ((aP _).mem_iff.mp hy)
     ·simp only[zc,Option.some.injEq,yA,or_false,reduceCtorEq]at h
      exact absurd h b6
   ·exact⟨s,h3,GL h4,.inr h4⟩
theorem AD{t:Tr}(fit:aW as vs 5 t){p:List Int}{r:D}(h:Pg as vs t p r){m:Kn}(T:rG (mQ m) t p):∃m,r=.tup [.str "marks",bN m]/\Ke as vs t p m:=by
 rcases h with ⟨d,rfl,hb⟩|h
 ·exact(An fit T 4 d [] hb fun n hn=>(by cases hn)).elim
 ·exact h
end
end Law
namespace Law
open PySem L3
section
variable {srt:List D->Option (List D)}{as vs:List Str}
theorem cT{b:Bool}{P R:Prop}(h:b=true)(p:P):(b=true->P)/\(b=false->R):=⟨fun _=>p,fun z=>by rw[h]at z;cases z⟩
theorem cF{b:Bool}{P R:Prop}(h:b=false)(p:R):(b=true->P)/\(b=false->R):=⟨fun z=>(by rw[h]at z;cases z),fun _=>p⟩
theorem FI(k:Nat)(M:MH)(a:List Int)(hl:a.length<=100){Q:D->MH->Prop}(q:∀M',Gr M M'->Q (.bl true) M'):W ((cx srt (k+1)).fn "_law_is_place" [ai a]) M Q:=by
 have big:=aw;have e:ai a=.tup (a.map .int):=rfl;rw[aA "_law_is_place" 1 1 eB rfl,wf,eB,e];walk_at "wr";refine sF rfl ?_;walk_at "wr";refine⟨by rw[zz];walk_at "o",?_⟩;refine bt (fun n ys M'=>M'=M/\ys=[]) ⟨rfl,rfl⟩ (fun _ _ _ _=>trivial) ?_ ?_
 ·rintro n d ys M' hd ⟨rfl,rfl⟩
  rw[zw]at hd;obtain⟨i,hi,rfl⟩:=zu.mp hd;walk_at "wq";exact cF rfl fun z=>(by cases z)
 ·rintro ys M' ⟨rfl,rfl⟩
  walk_at "wq";refine⟨by walk_at "o",?_⟩;rw[jG];refine⟨_,mX ((Gr.app _ _).keep _ _ (ag _ _)) (ag _ _),?_⟩;exact q _ ((Gr.app _ _).snoc _)
theorem uU(k:Nat)(M:MH)(wd:Str)(hw:wd = "fails"\/wd = "caught")(a:List Int)(hl:a.length<=100){Q:D->MH->Prop}(q:∀M',Gr M M'->Q (.bl true) M'):W ((cx srt (k+2)).fn "_law_is_case" [.tup [.str wd,ai a]]) M Q:=by
 rw[aA "_law_is_case" 2 1 b7 rfl,wf,ja 2 b7];generalize dr 2 b7=tl;simp only[b7,ki,kj];walk_at "wr";refine cF rfl (cF rfl ?_);refine sF rfl ?_;walk_at "wr";have p:=FI (srt:=srt) k M a hl q;rcases hw with rfl|rfl
 ·exact cT (by simp) (cT rfl p)
 ·refine cF (by simpa using Ec) (sT (by simp) ?_)
  walk_at "wr";exact cT rfl p
theorem uV{t:Tr}(fit:aW as vs 5 t){p:List Int}:∀(n k:Nat) (M:MH) (d:D) (kn:Kn),eQ t p n d kn->∀{Q:D->MH->Prop} (_:∀M',Gr M M'->Q (.bl true) M'),W ((cx srt (k+n+1)).fn "_law_is_case" [d]) M Q
 |0,_,_,_,_,h,_,_=>h.elim
 |n+1,k,M,d,kn,h,Q,q=>by
  have big:=aw;rw[show k+(n+1)+1=k+n+1+1 by walk_at "o"];rcases h with ⟨a,s,rfl,hs,_,_⟩|⟨a,s,rfl,hs,_,_⟩|⟨nm,ps,rfl,hl,_,_,_,h⟩
  ·exact uU (k+n) M _ (.inl rfl) a (zP (kK a fit hs) (by decide)) q
  ·exact uU (k+n) M _ (.inr rfl) a (zP (kK a fit hs) (by decide)) q
  ·rw[aA "_law_is_case" 2 1 b7 rfl,wf,b7]
   walk_at "wr";refine cF rfl (cF rfl ?_);refine sF rfl ?_;walk_at "wr";refine cF (by simpa using Jk) ?_;refine sF (by simpa using Jl) ?_;walk_at "wr";refine cF (by simp) (cF rfl (cF rfl ?_));refine sF rfl ?_;walk_at "wr";generalize D.tup [.str "split",.str nm,.tup (ps.map fun q=>.tup [vD q.1,q.2])]=d0;refine bw (fun j ρ M'=>Gr M M'/\∃x1,ρ=[some d0,x1]) ⟨.refl,_,rfl⟩ (fun _ _ _ _=>trivial) ?_ ?_
   ·rintro j d ρ M' hd ⟨g,x1,rfl⟩
    rw[zw]at hd;obtain⟨x,hx,rfl⟩:=zu.mp hd;walk_at "wr";refine cF rfl (cF rfl ?_);refine uV fit n k M' x.2 _ (h x (zx hx)) fun M2 g2=>?_;walk_at "wr";refine sF rfl ?_;walk_at "wr";cases x.1 with
    |none =>
     unfold vD;walk_at "wr";refine⟨rfl,cF rfl ?_⟩;walk_at "wr";exact⟨g.trans g2,_,rfl⟩
    |some s =>
     unfold vD;walk_at "wr";refine⟨rfl,cT rfl (sF rfl ?_)⟩;walk_at "wr";exact⟨g.trans g2,_,rfl⟩
   ·rintro ρ M' ⟨g,x1,rfl⟩
    walk_at "wr";exact q _ g
end
end Law
namespace Law
open PySem L3
section
variable {srt:List D->Option (List D)}{as vs:List Str}
theorem LC:∀c∈(("abcdefghijklmnopqrstuvwxyz":Str)).cps.toList,kL ("abcdefghijklmnopqrstuvwxyz":Str) ⟨#[c]⟩=true:=by decide +kernel
theorem O8:∀c∈(("abcdefghijklmnopqrstuvwxyz0123456789":Str)).cps.toList,kL ("abcdefghijklmnopqrstuvwxyz0123456789":Str) ⟨#[c]⟩=true:=by decide +kernel
theorem Bc{M:MH}{w z:Str}{ρ:Ev}{cc:Ev->Mo Bool}{e:Ev->Mo D}(hw:∀c∈w.cps.toList,kL z ⟨#[c]⟩=true)(hc:∀(s:Str) M (B:Bool->MH->Prop),B (!kL z s) M->W (cc (some (.str s)::ρ)) M B){L:List D->MH->Prop}(q:L [] M):W (eg none cc e ρ (w.cps.toList.map sgn)) M L:=by
 refine bt (fun n ys M'=>M'=M/\ys=[]) ⟨rfl,rfl⟩ (fun _ _ _ _=>trivial) ?_ ?_
 ·rintro n d ys M' hd ⟨rfl,rfl⟩
  rw[zw]at hd;obtain⟨c,hc',rfl⟩:=zu.mp hd;unfold sgn;refine hc _ _ _ ⟨fun h=>?_,fun _=>⟨rfl,rfl⟩⟩;rw[hw c (zx hc')]at h;cases h
 ·rintro ys M' ⟨rfl,rfl⟩
  exact q
structure Pl (m:Kn):Prop where
 l8:m.length<=8
 ok:∀q∈m,Av q.1/\∃s,q.2=some s/\iS s
 so:m.map (·.1)=a6 (aF [] (m.map (·.1)))
theorem FJ(k:Nat)(M:MH)(m:Kn)(K:Pl m){Q:D->MH->Prop}(q:∀M',Gr M M'->Q (.bl true) M'):W ((cx srt (k+1)).fn "_law_is_marks" [bN m]) M Q:=by
 have big:=aw;have l8:=K.l8;have e:bN m=.tup (m.map fk):=rfl;rw[aA "_law_is_marks" 3 1 eC rfl,wf,eC,e];walk_at "wr";refine cF rfl ?_;refine sF (decide_eq_false (by rw[zz];walk_at "o")) ?_;walk_at "wr";generalize WG:D.tup (m.map fk)=d0;refine bw (fun n ρ M'=>Gr M M'/\∃x1,ρ=[some d0,x1,none]) ⟨.refl,_,rfl⟩ (fun _ _ _ _=>trivial) ?_ ?_
 ·rintro n d ρ M1 hd ⟨g,x1,rfl⟩
  rw[zw]at hd;obtain⟨⟨nm,v⟩,hx,rfl⟩:=zu.mp hd;obtain⟨⟨⟨a1,a2⟩,a3⟩,s,hs,⟨b1,b2⟩,b3⟩:=K.ok _ (zx hx);dsimp only at hs a1 a2 a3;subst hs;have ep:fk (nm,some s)=.tup [.str nm,.str s]:=rfl;rw[ep];walk_at "wr";refine cF rfl (cF rfl ?_);refine sF rfl ?_;walk_at "wr";refine cF rfl ⟨by walk_at "o",cT (decide_eq_true (by walk_at "o")) (cF (by simp;walk_at "o") ⟨by walk_at "o",cT (decide_eq_true (by walk_at "o")) ?_⟩)⟩;refine sF (by simp;walk_at "o") ?_;walk_at "wr";refine⟨by walk_at "o",by rw[zz,i6];walk_at "o",Bc (z:="abcdefghijklmnopqrstuvwxyz") (fun c hc=>LC c (a3 c hc)) (fun s M B h=>by walk_at "wr";exact h) ?_⟩;walk_at "wr";refine⟨zM _,?_⟩;rw[iP];refine⟨_,mX ((Gr.app _ _).keep _ _ (ag _ _)) (ag _ _),?_⟩;have g1:=(Gr.app M1 [MO.lst []]).snoc (MO.lst []);generalize M1++[MO.lst []]++[MO.lst []]=M2 at g1 ⊢;refine⟨_,rfl,sF rfl ?_⟩;walk_at "wr";refine⟨by walk_at "o",by rw[zz,i6];walk_at "o",Bc (z:="abcdefghijklmnopqrstuvwxyz0123456789") (fun c hc=>O8 c (b3 c hc)) (fun s M B h=>by walk_at "wr";exact h) ?_⟩;walk_at "wr";refine⟨zM _,?_⟩;rw[iP];refine⟨_,mX ((Gr.app _ _).keep _ _ (ag _ _)) (ag _ _),_,rfl,sF rfl ?_⟩;walk_at "wr";exact⟨(g.trans g1).trans ((Gr.app _ _).snoc _),_,rfl⟩
 ·rintro ρ M1 ⟨g,x1,rfl⟩
  subst WG;walk_at "wr";refine⟨by rw[zz];walk_at "o",?_⟩;refine bt (fun n ys M'=>M'=M1/\ys=((m.take n).map (·.1)).map .str) ⟨rfl,rfl⟩ (fun _ _ _ _=>trivial) ?_ ?_
  ·rintro n d ys M' hd ⟨rfl,rfl⟩
   rw[zw]at hd;obtain⟨x,hx,rfl⟩:=zu.mp hd;unfold fk;walk_at "wq";rw[zR,hx];simp
  ·rintro ys M' ⟨rfl,rfl⟩
   rw[zz,zN];have n1:=ag M' (MO.lst ((m.map (·.1)).map D.str));have g1:=Gr.app M' [MO.lst ((m.map (·.1)).map D.str)];generalize M'++[MO.lst ((m.map (·.1)).map D.str)]=M2 at n1 g1 ⊢;walk_at "wr";refine⟨_,n1,_,jX _,?_,?_⟩
   ·have h:=congrArg List.length K.so
    rw[(aP _).length_eq,zz]at h;walk_at "o"
   rw[<- K.so,jG];have em:(m.map (·.1)).map D.str=(m.map fun q=>some q.1).map vD:=by rw[yp,yp];rfl
   rw[em]at n1 ⊢;refine⟨_,D4 ((Gr.app _ _).keep _ _ n1) (ag _ _),?_⟩;rw[decide_eq_true rfl];exact q _ ((g.trans g1).snoc _)
end
end Law
namespace Law
open PySem L3
section
variable {srt:List D->Option (List D)}{as vs:List Str}
theorem oH:∀(ys xs:List Str),(xs++ys).Nodup->aF xs ys=xs++ys
 |[],xs,_=>by rw[zO];rfl
 |y::ys,xs,h=>by
  have hn:y ∉ xs:=fun hy=>(xt.mp h).2.2 y hy y zJ rfl;have e:dC xs y=xs++[y]:=by
   unfold dC;rw[if_neg (by simpa using hn)]
  show aF (dC xs y) ys=_;rw[e,oH ys (xs++[y]) (by simpa using h)];simp
theorem GK{s:Str}(h:lY s):iS s:=by
 obtain⟨j,hj,rfl⟩:=h
 have:∀i:Fin 4,(1<=(fP i.1).length/\(fP i.1).length<=12)/\∀c∈(fP i.1).cps.toList,c∈(("abcdefghijklmnopqrstuvwxyz0123456789":Str)).cps.toList:=by decide +kernel
 exact this ⟨j,by walk_at "o"⟩
theorem Ke.mk'{t:Tr}(fit:aW as vs 5 t)(ha:as.length<=3)(hN:∀x∈as,Av x)(hV:∀x∈vs,iS x){p:List Int}{m:Kn}(T:Ke as vs t p m):Pl m/\(m.map (·.1)).Nodup:=by
 obtain⟨n1,n2,n3,_,_⟩:=DG fit p;have nd:=n1.sublist T.sub;have hl:=T.sub.length_le;rw[zz]at hl;refine⟨⟨by walk_at "o",fun q hq=>?_,?_⟩,nd⟩
 ·obtain⟨s,h1,_,h2⟩:=T.vl q hq
  refine⟨hN _ (n3 _ (T.sub.subset (zQ.mpr ⟨q,hq,rfl⟩))),s,h1,?_⟩;rcases h2 with h2|h2
  ·exact hV s h2
  ·exact GK h2
 ·have e:=oH (m.map (·.1)) [] (by simpa using nd)
  rw[xE]at e;rw[e];exact lH (List.Perm.refl _) ((oP _).sublist T.sub)
theorem qC(k:Nat)(M:MH){t s0:Tr}(fit:aW as vs 5 t)(ha:as.length<=3)(hv:vs.length<=3)(hN:∀x∈as,Av x)(hV:∀x∈vs,iS x){p:List Int}(hs:aH t p=some s0)(oz:(ay s0).length<=5){jS:Nat}(hS:iF M jS t){Q:D->MH->Prop}(q:∀M',Gr M M'->Q (.bl true) M'):W ((cx srt (k+20)).fn "_law_right" [ar t,ai p,.ob jS]) M Q:=by
 have big:=aw;rw[aA "_law_right" 4 3 gJ rfl,wf,gJ];walk_at "wr";refine qz (k+5) M fit ha hv hs fun r M1 g1 hR=>?_;rcases hR with ⟨d,rfl,hb⟩|⟨m,rfl,T⟩
 ·walk_at "wr"
  refine cF rfl ?_;refine sF rfl ?_;walk_at "wr";refine sF (by simpa using Kc) ?_;walk_at "wr";refine cF (by simp) ?_;refine uV fit 4 (k+14) M1 d [] hb fun M2 g2=>?_;walk_at "wr";refine sF rfl ?_;walk_at "wr";have B:=GH (srt:=srt) fit ha hv hs oz 4 d [] hb (by simp) (by decide);have g3:=Gr.app M2 [MO.aO []];have n3:=ag M2 (MO.aO []);generalize M2++[MO.aO []]=M3 at g3 n3 ⊢;refine B.2 (k+5) M3 jS _ _ (hS.keep ((g1.trans g2).trans g3)) n3 fun M4 g4=>?_;walk_at "wr";rw[aA "bears" 3 3 oa rfl,wf,oa];walk_at "wr";refine⟨zM _,B.1 k M4 _ fun M5 g5=>?_⟩;walk_at "wr";exact q _ (((g1.trans g2).trans g3).trans (g4.trans g5))
 ·obtain⟨K,nd⟩:=T.mk' fit ha hN hV
  have l8:=K.l8;walk_at "wr";refine cF rfl ?_;refine sF rfl ?_;walk_at "wr";refine sT (by simp) ?_;walk_at "wr";refine FJ (k+18) M1 m K fun M2 g2=>?_;walk_at "wr";have e0:D.tup []=ai []:=rfl;rw[e0];refine⟨zM _,i7 m nd (by walk_at "o") 5 (k+12) M2 t [] fit (by decide) (by decide) fun j M3 g3 _ h3=>?_⟩;refine⟨_,_,uY h3,?_⟩;rw[zT.mpr ((iG 5 t [] p fit).mpr ⟨p,rfl,T.tk⟩)];exact q _ ((g1.trans g2).trans g3)
end
end Law
namespace Law
open PySem L3
section
variable {srt:List D->Option (List D)}{as vs:List Str}
noncomputable def qp(srt:List D->Option (List D)):Prop:=∀ps:List (Str×Str),ps.length<=6->(ps.map (·.1)).Nodup->∃qs:List (Str×Str),qs.Perm ps/\srt (ps.map jE)=some (qs.map jE)
theorem Ly(so:qp srt)(k:Nat)(sc:List Int)(M:MH){d:D}{ns:List Str}{ot:Str}(P:gO M d as vs ns ot){Q:D->MH->Prop}(q:∀(m:Kn) (M':MH),Gr M M'->(m.map (·.1)).Nodup->m.length<=6->Q (bN m) M'):W ((cx srt (k+3)).fn "_law_marks" [.fl (sc.map .int),.int 200,d]) M Q:=by
 have big:=aw;have n6:=P.n6;have v3:=P.v3;obtain⟨ia,iv,iN,rfl,h1,h2,h3⟩:=P.is;rw[aA "_law_marks" 6 3 gM rfl,wf,gM];walk_at "wq";have g0:=Gr.app M [MO.lst []];have n0:=ag M (MO.lst []);generalize Gb:M++[MO.lst []]=M0 at g0 n0 ⊢;clear Gb;refine⟨zM _,_,g0.keep _ _ h3,?_⟩;rw[show lK (MO.lst (ns.map D.str))=6 from by show ((ns.map D.str).length:Int)=6;rw[zz,n6];rfl];refine⟨⟨by decide,by decide⟩,?_⟩;refine bw (fun n ρ M'=>Gr M M'/\(∃ps:List (Str×Str),(ps.map (·.1)).Sublist (ns.take n)/\M'[M.length]?=some (.lst (ps.map jE)))/\∃x4 x5,ρ=[some (.fl (sc.map .int)),some (.int 200),some (.tup [.ob ia,.ob iv,.ob iN,.str ot]),some (.ob M.length),x4,x5]) ⟨g0,⟨[],List.nil_sublist _,n0⟩,_,_,rfl⟩ (fun _ _ _ _=>trivial) ?_ ?_
 ·rintro n d ρ M1 hd ⟨g1,⟨ps,hp,e1⟩,x4,x5,rfl⟩
  obtain⟨rfl,hn⟩:=di hd;have Zb:n<6:=by walk_at "o"
  have hl:=hp.length_le;rw[zz,zD]at hl;have JT:=g1.keep _ _ h2;have ev:lK (MO.lst (vs.map D.str))=(vs.length:Int):=by show ((vs.map D.str).length:Int)=_;rw[zz]
  have Oj:=g1.keep _ _ h3;have N3:ns[n]?=some (ns[n]'(by walk_at "o")):=zv (by walk_at "o");generalize ns[n]'(by walk_at "o")=nm at N3;have Rx:∀(v:Str) ,((ps++[(nm,v)]).map (·.1)).Sublist (ns.take (n+1)):=fun v=>by
   rw[zo,zR,N3];exact hp.append (List.Sublist.refl _)
  have jR:cz (ns.map D.str) (0+(n:Int))=some (.str nm):=by rw[xu];exact bB (by rw[zw,N3];rfl)
  walk_at "wr";refine⟨_,JT,?_⟩;rw[ev];walk_at "wr";refine bL k sc _ _ M1 (by walk_at "o") (by walk_at "o") (by walk_at "o") ?_;obtain⟨w,hw,Rv⟩:=bX sc (200+(0+(n:Int))) (m:=vs.length+3) (by walk_at "o");have ew:((vs.length+3:Nat):Int)=(vs.length:Int)+3:=by walk_at "o"
  rw[ew]at hw;rw[hw];walk_at "wr";refine⟨_,JT,?_⟩;rw[ev];walk_at "wr";by_cases c1:w<vs.length
  ·refine sT (decide_eq_true (by walk_at "o")) ?_
   walk_at "wr";refine⟨_,e1,_,Oj,?_⟩;walk_at "wr";refine⟨_,jR,_,JT,?_⟩;walk_at "wr";refine⟨_,tY c1,by decide,_,e1,by rw[zz];walk_at "o",?_⟩;have g2:=g1.set (zp _) (o:=.lst (ps.map jE++[.tup [.str nm,.str (vs.getD w "")]]));have e2:=bQ (o:=.lst (ps.map jE++[.tup [.str nm,.str (vs.getD w "")]])) e1;generalize M1.set M.length (.lst (ps.map jE++[.tup [.str nm,.str (vs.getD w "")]]))=M2 at g2 e2 ⊢;refine⟨_,g2.keep _ _ h2,?_⟩;rw[ev];walk_at "wr";refine sF (by simp;walk_at "o") ?_;walk_at "wr";exact⟨g2,⟨_,Rx _,by rw[zo];exact e2⟩,_,_,rfl⟩
  ·refine sF (decide_eq_false (by walk_at "o")) ?_
   walk_at "wr";refine⟨_,JT,?_⟩;rw[ev];walk_at "wr";by_cases c2:w=vs.length
   ·refine sT (by simp[c2]) ?_
    walk_at "wr";refine⟨_,e1,_,Oj,?_⟩;walk_at "wr";refine⟨_,jR,by decide,_,e1,by rw[zz];walk_at "o",?_⟩;exact⟨g1.set (zp _) _,⟨_,Rx ot,by rw[zo];exact bQ e1⟩,_,_,rfl⟩
   ·refine sF (by simp;walk_at "o") ?_
    walk_at "wr";refine⟨g1,⟨ps,hp.trans (List.take_sublist_take_left (xo n)),e1⟩,_,_,rfl⟩
 ·rintro ρ M1 ⟨g1,⟨ps,hp,e1⟩,x4,x5,rfl⟩
  have nd:(ps.map (·.1)).Nodup:=(P.nn.sublist (wm _ _)).sublist hp;have hl:=hp.length_le;rw[zz,zD]at hl;obtain⟨qs,pq,es⟩:=so ps (by walk_at "o") nd;have hk:(cx srt (k+2)).srt=srt:=rfl;walk_at "wr";refine⟨_,e1,qs.map jE,es,_,ag _ _,?_⟩;have ek:D.tup (qs.map jE)=bN (qs.map fun p=>(p.1,some p.2)):=by
   unfold bN;rw[yp];rfl
  rw[ek];refine q _ _ (g1.snoc _) ?_ (by rw[zz,pq.length_eq];walk_at "o");rw[yp];exact(pq.map (·.1)).nodup_iff.mpr nd
end
end Law
namespace Law
open PySem L3
section
variable {srt:List D->Option (List D)}
theorem i4{α β:Type}{m:Mo α}{f:α->Mo β}{M M':MH}{a:α}(h:m M=some (.ok a,M')):(m >>= f) M=f a M':=by rw[run_bind,h]
theorem nK{α β:Type}{m:Mo α}{f:α->Mo β}{M:MH}(h:m M=none):(m >>= f) M=none:=by rw[run_bind,h]
theorem lG{M:MH}:cR none M=some (.ok (),M):=by unfold cR;exact if_pos (show ou none M from trivial)
theorem pT:Bt none=none:=rfl
theorem Nz:rR none=none:=rfl
theorem Nx{ρ:Ev}{M:MH}:rR (some (.ok (.nx ρ),M))=some (ρ,M):=rfl
theorem MJ{Γ:L3.Ctx}{ρ:Ev}{M:MH}:cU Γ (.cons .rz .nil) ρ M=some M:=by
 rw[cU,show bz Γ .rz ρ M=none from rfl,pT];rfl
noncomputable def cG:aE:=.cons (.ifS (.not (.cmp (.cmp2 .LtE .Lt (.cint 0) (.var 3) (.blt .len (.cons (.idx (.var 2) (.cint 6)) .nil))))) (.cons .rz .nil) .nil) (.cons (.set 2 (.idx (.idx (.var 2) (.cint 6)) (.var 3))) .nil)
theorem Tc(k:Nat)(M:MH)(T P:D)(r s:Tr)(j:Nat)(h:(ay r)[j]?=some s):aq (cx srt k) cG [some T,some P,some (ar r),some (.int j)] M=some (.ok (.nx [some T,some P,some (ar s),some (.int j)]),M):=by
 have w:W (aq (cx srt k) cG [some T,some P,some (ar r),some (.int j)]) M fun f M'=>f=.nx [some T,some P,some (ar s),some (.int j)]/\M'=M:=by
  have big:=aw;have hj:=aD h;obtain⟨eb,ec,ep,er,et⟩:=dn r;rw[et,cG];walk_at "wq";refine⟨fun _=>⟨fun z=>?_,fun _=>?_⟩,fun z=>absurd (xk j) (of_decide_eq_false z)⟩
  ·rw[zz]at z
   exact absurd z (by simp;walk_at "o")
  ·exact⟨_,bB (by rw[zw,h];rfl),rfl⟩
 obtain⟨f,M',e,rfl,rfl⟩:=w;exact e
theorem Qb(k:Nat)(M:MH)(T P:D)(r:Tr)(i:Int)(h:((ay r).length:Int)<=i):aq (cx srt k) cG [some T,some P,some (ar r),some (.int i)] M=none/\cU (cx srt k) cG [some T,some P,some (ar r),some (.int i)] M=some M:=by
 have w:W (a9 (cx srt k) (.not (.cmp (.cmp2 .LtE .Lt (.cint 0) (.var 3) (.blt .len (.cons (.idx (.var 2) (.cint 6)) .nil))))) [some T,some P,some (ar r),some (.int i)]) M fun b M'=>b=true/\M'=M:=by
  have big:=aw;obtain⟨eb,ec,ep,er,et⟩:=dn r;rw[et];walk_at "wq";intro _;rw[zz];simp;walk_at "o"
 obtain⟨b,M',e,eb,eM⟩:=w;rw[eb,eM]at e;have e1:bz (cx srt k) (.ifS (.not (.cmp (.cmp2 .LtE .Lt (.cint 0) (.var 3) (.blt .len (.cons (.idx (.var 2) (.cint 6)) .nil))))) (.cons .rz .nil) .nil) [some T,some P,some (ar r),some (.int i)] M=none:=by
  rw[pQ,i4 e,if_pos rfl,eI];exact nK rfl
 refine⟨?_,?_⟩
 ·rw[cG,eI]
  exact nK e1
 ·rw[cG,cU,e1,pT,rL,e]
  dsimp only;rw[if_pos rfl];exact MJ
theorem uk(k:Nat)(M:MH)(T P:D)(i:Int)(rest:List Int):∀(p:List Int) (t r:Tr) (x:Option D),aH t p=some r->((ay r).length:Int)<=i ->
  dU none 3 (aq (cx srt k) cG) ((p++i::rest).map .int) [some T,some P,some (ar t),x] M=none/\oj none 3 (aq (cx srt k) cG) (cU (cx srt k) cG) ((p++i::rest).map .int) [some T,some P,some (ar t),x] M=some M
 |[],t,r,x,h,hi=>by
  cases h;obtain⟨h1,h2⟩:=Qb k M T P t i hi;rw[xE,zG];refine⟨?_,?_⟩
  ·rw[dU]
   refine(i4 lG).trans ?_;exact nK h1
  ·rw[oj,lG]
   show (match rR (aq (cx srt k) cG [some T,some P,some (ar t),some (.int i)] M) with
    |some (ρ',M1)=>_
    |none=>cU (cx srt k) cG [some T,some P,some (ar t),some (.int i)] M)=_
   rw[h1,Nz];exact h2
 |a::p,t,r,x,h,hi=>by
  obtain⟨j,s,rfl,hj,hs⟩:=bZ h;have h1:=Tc (srt:=srt) k M T P t s j hj;obtain⟨h2,h3⟩:=uk k M T P i rest p s r (some (.int j)) hs hi;rw[wa,zG];refine⟨?_,?_⟩
  ·rw[dU]
   refine(i4 lG).trans ?_;exact(i4 h1).trans h2
  ·rw[oj,lG]
   show (match rR (aq (cx srt k) cG [some T,some P,some (ar t),some (.int j)] M) with
    |some (ρ',M1)=>oj none 3 (aq (cx srt k) cG) (cU (cx srt k) cG) ((p++i::rest).map .int) ρ' M1
    |none=>_)=_
   rw[h1,Nx];exact h3
theorem LF(k:Nat)(M:MH)(t r:Tr)(p:List Int)(i:Int)(rest:List Int)(h:aH t p=some r)(hi:((ay r).length:Int)<=i):(cx srt (k+1)).rz "row_at" [ar t,ai (p++i::rest)] M=some M:=by
 obtain⟨h1,h2⟩:=uk (srt:=srt) k M (ar t) (ai (p++i::rest)) i rest p t r none h hi;rw[GX,if_pos (show [ar t,ai (p++i::rest)].length=2 from rfl)];show cU (cx srt k) (.cons (.set 2 (.var 0)) (.cons (.forS 3 (.seq (.var 1)) cG) (.cons (.ret (.var 2)) .nil))) [some (ar t),some (ai (p++i::rest)),none,none] M=some M;rw[cU];show cU (cx srt k) (.cons (.forS 3 (.seq (.var 1)) cG) (.cons (.ret (.var 2)) .nil)) [some (ar t),some (ai (p++i::rest)),some (ar t),none] M=some M;have es:ed (cx srt k) (.seq (.var 1)) [some (ar t),some (ai (p++i::rest)),some (ar t),none] M=some (.ok ⟨none,(p++i::rest).map .int⟩,M):=rfl;have ef:bz (cx srt k) (.forS 3 (.seq (.var 1)) cG) [some (ar t),some (ai (p++i::rest)),some (ar t),none] M=none:=by
  rw[kA,i4 es];exact h1
 rw[cU,ef,pT,rL,es];exact h2
theorem LG(k:Nat)(M:MH)(t r:Tr)(p:List Int)(i:Int)(rest:List Int)(h:aH t p=some r)(hi:((ay r).length:Int)<=i):(cx srt (k+1)).fn "row_at" [ar t,ai (p++i::rest)] M=none:=by
 obtain⟨h1,h2⟩:=uk (srt:=srt) k M (ar t) (ai (p++i::rest)) i rest p t r none h hi;have es:ed (cx srt k) (.seq (.var 1)) [some (ar t),some (ai (p++i::rest)),some (ar t),none] M=some (.ok ⟨none,(p++i::rest).map .int⟩,M):=rfl;have ef:bz (cx srt k) (.forS 3 (.seq (.var 1)) cG) [some (ar t),some (ai (p++i::rest)),some (ar t),none] M=none:=by
  rw[kA,i4 es];exact h1
 rw[aA "row_at" 4 2 fQ rfl];have e1:aq (cx srt k) fQ [some (ar t),some (ai (p++i::rest)),none,none] M=none:=by
  show aq (cx srt k) (.cons (.set 2 (.var 0)) (.cons (.forS 3 (.seq (.var 1)) cG) (.cons (.ret (.var 2)) .nil))) [some (ar t),some (ai (p++i::rest)),none,none] M=none;rw[eI];refine(i4 (a:=Fl.nx [some (ar t),some (ai (p++i::rest)),some (ar t),none]) (M':=M) rfl).trans ?_;show aq (cx srt k) (.cons (.forS 3 (.seq (.var 1)) cG) (.cons (.ret (.var 2)) .nil)) _ M=none;rw[eI];exact nK ef
 refine(i4 (a:=()) (M':=M) rfl).trans ?_;exact nK e1
theorem By(k:Nat)(M:MH)(t r:Tr)(p:List Int)(i:Int)(rest:List Int)(h:aH t p=some r)(hi:((ay r).length:Int)<=i):(cx srt (k+3)).rf [ar t,ai (p++i::rest)] M=some M:=by
 rw[SR,Kp,if_pos (show [ar t,ai (p++i::rest)].length=2 from rfl)];have ea:bu (cx srt (k+1)) (.cons (.var 0) (.cons (.var 1) .nil)) [some (ar t),some (ai (p++i::rest)),none] M=some (.ok [ar t,ai (p++i::rest)],M):=rfl;show cU (cx srt (k+1)) (.cons (.expr (.call ("row_at":Str) (.cons (.var 0) (.cons (.var 1) .nil)))) _) [some (ar t),some (ai (p++i::rest)),none] _=_;have e1:bz (cx srt (k+1)) (.expr (.call ("row_at":Str) (.cons (.var 0) (.cons (.var 1) .nil)))) [some (ar t),some (ai (p++i::rest)),none] M=none:=by
  rw[oo,oq];refine nK ?_;exact(i4 ea).trans (LG k M t r p i rest h hi)
 rw[cU,e1,pT,rL];refine(if_pos (c:=(("row_at":Str)=="row_at")=true) (e:=none) rfl).trans ?_;exact(congrArg (fun z:Option (Out (List D)×MH)=>match z with
  |some (.ok xs,M1)=>(cx srt (k+1)).rz "row_at" xs M1
  |_=>none) ea).trans (LF k M t r p i rest h hi)
end
end Law
namespace Law
open PySem L3
section
variable {srt:List D->Option (List D)}{as vs:List Str}
noncomputable def eW(x:Nd):Nat×List Nat×Nat:=(x.d,x.kids,x.id)
theorem getD_map{α β:Type}(f:α->β)(l:List α)(k:Nat)(d:α):f (l.getD k d)=(l.map f).getD k (f d):=by
 rw[zi,zi,zw];cases l[k]? <;> rfl
theorem EL{N N':List Nd}(h:N.map eW=N'.map eW):(N.filter okN).map eW=(N'.filter okN).map eW:=by
 have e:∀L:List Nd,(L.filter okN).map eW=(L.map eW).filter fun s=>decide (s.1<4)&&decide (s.2.1.length<5):=fun L=>by
  rw[wG];rfl
 rw[e,e,h]
theorem PL(sc:List Int)(i:Int){N N':List Nd}(h:N.map eW=N'.map eW):eW (j7 sc i N)=eW (j7 sc i N'):=by
 have e:=EL h;have l:(N.filter okN).length=(N'.filter okN).length:=by
  have:=congrArg List.length e
  rwa [zz,zz]at this
 unfold j7;rw[getD_map eW,getD_map eW,e,l]
theorem Fo(sc:List Int)(i:Int)(as vs ws ns:List Str):∀m:Nat,(dA sc i as vs ns m).map eW=(dA sc i as ws ns m).map eW
 |0=>rfl
 |m+1=>by
  have ih:=Fo sc i as vs ws ns m;have u:=PL sc (i+16*(m:Int)) ih;have u1:(j7 sc (i+16*(m:Int)) (dA sc i as vs ns m)).d=(j7 sc (i+16*(m:Int)) (dA sc i as ws ns m)).d:=congrArg (·.1) u;have u2:(j7 sc (i+16*(m:Int)) (dA sc i as vs ns m)).kids=(j7 sc (i+16*(m:Int)) (dA sc i as ws ns m)).kids:=congrArg (·.2.1) u;have u3:(j7 sc (i+16*(m:Int)) (dA sc i as vs ns m)).id=(j7 sc (i+16*(m:Int)) (dA sc i as ws ns m)).id:=congrArg (·.2.2) u;rw[dA,dA];unfold pK;split
  ·rfl
  ·rw[zo,zo,xj,xj,ih]
   unfold eW dX mJ;simp only[zG,xI,u1,u2,u3]
theorem Ja:∀(p:List Int) (f n:Nat) (N N':List Nd),N.map eW=N'.map eW->(aH (iV f N n) p).isSome=(aH (iV f N' n) p).isSome
 |[],_,_,_,_,_=>rfl
 |i::p,0,n,N,N',h=>rfl
 |i::p,f+1,n,N,N',h=>by
  have e:(N.getD n iX).kids=(N'.getD n iX).kids:=by
   have:=getD_map eW N n iX
   rw[h,<- getD_map]at this;exact congrArg (·.2.1) this
  rw[fg,fg];split
  ·rfl
  ·show (match ((N.getD n iX).kids.map (iV f N))[i.toNat]? with
    |some s=>aH s p
    |none=>none).isSome=(match ((N'.getD n iX).kids.map (iV f N'))[i.toNat]? with
    |some s=>aH s p
    |none=>none).isSome
   rw[zw,zw,<- e];cases (N.getD n iX).kids[i.toNat]? with
   |none=>rfl
   |some c=>exact Ja p f c N N' h
theorem A4(sc:List Int)(as vs ws ns:List Str)(ot:Str)(many:Nat)(p:List Int):(aH (cD sc as vs ns ot many) p).isSome=(aH (cD sc as ws ns ot many) p).isSome:=by
 refine Ja p 5 0 _ _ ?_;have h:=Fo sc 28 as vs ws ns (many+1);have h0:eW ((dA sc 28 as vs ns (many+1)).getD 0 iX)=eW ((dA sc 28 as ws ns (many+1)).getD 0 iX):=by rw[getD_map eW,getD_map eW,h]
 rw[xj,xj,h];congr 1
theorem lC:∀(p:List Int) {n:Nat} {t s:Tr},aW as vs n t->aH t p=some s->(ay s).length<=5
 |[],n,t,s,f,e=>by
  cases n with
  |zero=>exact f.elim
  |succ n =>
   rw[<- Option.some.inj (show some t=some s from e)];exact f.1
 |i::p,n,t,s,f,e=>by
  obtain⟨m,r,rfl,h1,h2⟩:=bZ e;cases n with
  |zero=>exact f.elim
  |succ n=>exact lC p (f.2 r (zx h1)).2 h2
theorem HI(k:Nat)(M:MH){t:Tr}{p:List Int}{r:D}(h:Pg as vs t p r)(fit:aW as vs 5 t)(ha:as.length<=3){jv:Nat}(hv:M[jv]?=some (.lst (vs.map .str))){Q:D->MH->Prop}(q:∀(j:Nat) (os:List Str) (M':MH),Gr M M'->(∀o∈os,lY o)->M'[j]?=some (.lst (os.map .str))->Q (.ob j) M'):W ((cx srt (k+1)).fn "_law_others" [r,.ob jv]) M Q:=by
 have big:=aw;rw[aA "_law_others" 2 2 fI rfl,wf,fI];rcases h with ⟨d,rfl,_⟩|⟨m,rfl,T⟩
 ·walk_at "wr"
  refine sT (by simp) ?_;walk_at "wr";exact⟨zM _,q _ [] _ (Gr.app _ _) (by simp) (ag _ _)⟩
 ·have hl:=T.sub.length_le
  obtain⟨_,n2,_⟩:=DG fit p;rw[zz]at hl;walk_at "wr";refine sF (by decide +kernel) ?_;have ek:bN m=.tup (m.map fk):=rfl;rw[ek];walk_at "wr";refine⟨by rw[zz];walk_at "o",?_⟩;refine bt (fun n ys M'=>M'=M/\∃os:List Str,(∀o∈os,lY o)/\ys=os.map .str) ⟨rfl,[],by simp,rfl⟩ (fun _ _ _ _=>trivial) ?_ ?_
  ·rintro n d ys M' hd ⟨rfl,os,ho,rfl⟩
   rw[zw]at hd;obtain⟨⟨nm,v⟩,hx,rfl⟩:=zu.mp hd;obtain⟨s,hs,_,Wd⟩:=T.vl _ (zx hx);dsimp only at hs;subst hs;have ep:fk (nm,some s)=.tup [.str nm,.str s]:=rfl;rw[ep];walk_at "wr";refine⟨_,hv,?_⟩;walk_at "wr";refine⟨_,lO vs (some s),fun z=>?_,fun z=>⟨os,ho,rfl⟩⟩;refine⟨os++[s],fun o h=>?_,by rw[zo];rfl⟩;rcases zL.mp h with h|h
   ·exact ho o h
   ·rw[zA.mp h]
    refine Wd.resolve_left fun hin=>?_;rw[show mO vs (some s)=true from zT.mpr hin]at z;cases z
  ·rintro ys M' ⟨rfl,os,ho,rfl⟩
   walk_at "wr";exact q _ os _ (Gr.app _ _) ho (ag _ _)
end
end Law
namespace Law
open PySem L3
section
variable {srt:List D->Option (List D)}{as vs:List Str}
theorem gO.NC{M:MH}{d:D}{as vs ns:List Str}{ot:Str}(P:gO M d as vs ns ot):∀x∈as,Av x:=fun x hx=>by
 obtain⟨n,e⟩:=P.pre;rw[e]at hx;exact P.nz x (yv hx)
theorem Ck(k:Nat)(sc:List Int)(many:Nat)(M:MH){d:D}{ns:List Str}{ot:Str}(P:gO M d as vs ns ot)(hm:many<=19)(fit:aW as vs 5 (cD sc as vs ns ot many)){p:List Int}(hp:(aH (cD sc as vs ns ot many) p).isSome=true){Q:D->MH->Prop}(q:∀M',Gr M M'->Q (.bl true) M'):W ((cx srt (k+21)).fn "_law_with_told" [.fl (sc.map .int),.int (many:Int),d,ai p,ar (cD sc as vs ns ot many)]) M Q:=by
 have big:=aw;have v3:=P.v3;have v1:=P.v1;have a3:=P.a3;have hN:=P.NC;have vz:=P.vz;obtain⟨ia,iv,iN,rfl,h1,h2,h3⟩:=P.is;rw[aA "_law_with_told" 8 5 d7 rfl,wf,d7];walk_at "wr";refine⟨_,h2,?_⟩;have g0:=Gr.app M [MO.lst (vs.map D.str)];have n0:=ag M (MO.lst (vs.map D.str));generalize Gb:M++[MO.lst (vs.map D.str)]=M0 at g0 n0 ⊢;clear Gb;walk_at "wr";refine⟨_,n0,?_⟩;rw[show lK (MO.lst (vs.map D.str))=(vs.length:Int) from by show ((vs.map D.str).length:Int)=_;rw[zz]];refine⟨⟨by walk_at "o",by walk_at "o"⟩,?_⟩;have I0:∃ws:List Str,ws.length=vs.length/\(∀x∈ws,iS x)/\aW as ws 5 (cD sc as ws ns ot many)/\M0[M.length]?=some (.lst (ws.map .str))/\∃x6 x7,[some (.fl (sc.map .int)),some (.int (many:Int)),some (.tup [.ob ia,.ob iv,.ob iN,.str ot]),some (ai p),some (ar (cD sc as vs ns ot many)),some (.ob M.length),none,none]=[some (.fl (sc.map .int)),some (.int (many:Int)),some (.tup [.ob ia,.ob iv,.ob iN,.str ot]),some (ai p),some (ar (cD sc as ws ns ot many)),some (.ob M.length),x6,x7] :=
  ⟨vs,rfl,fun x hx=>vz x (yo _ hx),fit,n0,_,_,rfl⟩
 refine bw (fun n ρ M'=>Gr M M'/\∃ws:List Str,ws.length=vs.length/\(∀x∈ws,iS x)/\aW as ws 5 (cD sc as ws ns ot many)/\M'[M.length]?=some (.lst (ws.map .str))/\∃x6 x7,ρ=[some (.fl (sc.map .int)),some (.int (many:Int)),some (.tup [.ob ia,.ob iv,.ob iN,.str ot]),some (ai p),some (ar (cD sc as ws ns ot many)),some (.ob M.length),x6,x7]) ⟨g0,I0⟩ (fun _ _ _ _=>trivial) ?_ ?_
 ·rintro n d ρ M1 hd ⟨g1,ws,lw,wz,fw,e1,x6,x7,rfl⟩
  obtain⟨rfl,hn⟩:=di hd;have Y9:n<ws.length:=by walk_at "o"
  rw[A4 sc as vs ws ns ot many p]at hp;obtain⟨s0,hs⟩:=yw.mp hp;walk_at "wr";refine qz (k+6) M1 fw a3 (by walk_at "o") hs fun r M2 g2 hR=>?_;walk_at "wr";refine HI (k+19) M2 hR fw a3 (g2.keep _ _ e1) fun j os M3 g3 ho h3'=>?_;have Sl:=(g1.trans g2).trans g3;have e3:=(g2.trans g3).keep _ _ e1;walk_at "wr";refine⟨_,h3',?_⟩;rw[cH _ (by decide),<- yd];have g4:=Sl.snoc (MO.lst ((os.take (1:Int).toNat).map D.str));have n4:=ag M3 (MO.lst ((os.take (1:Int).toNat).map D.str));have e4:=(Gr.app M3 [MO.lst ((os.take (1:Int).toNat).map D.str)]).keep _ _ e3;have l3:=Sl.len;generalize M3++[MO.lst ((os.take (1:Int).toNat).map D.str)]=M4 at g4 n4 e4 ⊢;refine⟨_,n4,?_⟩;have lM:M.length<M3.length:=by
   have:=aD e3
   exact this
  generalize M3.length=j4 at n4 lM ⊢;refine bw (fun l ρ M'=>Gr M M'/\M'[j4]?=some (.lst ((os.take (1:Int).toNat).map D.str))/\∃ws:List Str,ws.length=vs.length/\(∀x∈ws,iS x)/\aW as ws 5 (cD sc as ws ns ot many)/\M'[M.length]?=some (.lst (ws.map .str))/\∃x7,ρ=[some (.fl (sc.map .int)),some (.int (many:Int)),some (.tup [.ob ia,.ob iv,.ob iN,.str ot]),some (ai p),some (ar (cD sc as ws ns ot many)),some (.ob M.length),some (.int (0+(n:Int))),x7]) ⟨g4,n4,ws,lw,wz,fw,e4,_,rfl⟩ (fun _ _ _ h=>h.2.1) ?_ ?_
  ·rintro l d ρ M5 hd ⟨g5,n5,ws,lw,wz,fw,e5,x7,rfl⟩
   rw[zw]at hd;obtain⟨o,ho',rfl⟩:=zu.mp hd;have BH:=ho o (yv (zx ho'));walk_at "wr";refine⟨_,e5,?_⟩;walk_at "wr";have ei:k8 (ws.map D.str).length (0+(n:Int))=some n:=by
    unfold k8;rw[zz,if_pos (by walk_at "o"),if_pos (by walk_at "o"),xu];rfl
   have es:(ws.map D.str).set n (D.str o)=(ws.set n o).map D.str:=by rw[xj]
   refine⟨n,ei,?_⟩;rw[es];have g6:=g5.set (zp _) (o:=.lst ((ws.set n o).map D.str));have e6:=bQ (o:=.lst ((ws.set n o).map D.str)) e5;have n6:(M5.set M.length (.lst ((ws.set n o).map D.str)))[j4]?=_:=(zj (zd lM)).trans n5;generalize M5.set M.length (.lst ((ws.set n o).map D.str))=M6 at g6 e6 n6 ⊢;have lw':(ws.set n o).length=vs.length:=by rw[yx,lw]
   have wz':∀x∈ws.set n o,iS x:=fun x hx=>(yf hx).elim (wz x) fun e=>e▸GK BH;generalize ws.set n o=wt at e6 lw' wz' ⊢;refine⟨_,e6,by decide,?_⟩;have g7:=Gr.app M6 [MO.lst (wt.map D.str)];have n7:=ag M6 (MO.lst (wt.map D.str));generalize M6++[MO.lst (wt.map D.str)]=M7 at g7 n7 ⊢;have g7':=g6.trans g7;have P7:gO M7 (.tup [.ob ia,.ob M6.length,.ob iN,.str ot]) as wt ns ot:=⟨⟨ia,_,iN,rfl,g7'.keep _ _ h1,n7,g7'.keep _ _ h3⟩,P.pre,P.a1,P.a3,by walk_at "o",by walk_at "o",P.n6,P.nn,P.nz,fun x hx=>(zL.mp hx).elim (wz' x) fun h=>vz x (zW _ h)⟩;refine tO (k+14) sc many M7 P7 hm fun M8 g8 fw'=>?_;walk_at "wr";refine t4 (k+14) M8 _ fw' a3 (by walk_at "o") fun jS M9 g9 hS=>?_;rw[A4 sc as _ wt ns ot many p]at hp;obtain⟨s1,la⟩:=yw.mp hp;walk_at "wr";refine qC k M9 fw' a3 (by walk_at "o") hN wz' la (lC p fw' la) hS fun Ma ga=>?_;walk_at "wr";refine sF rfl ?_;walk_at "wr";have gz:=(g7.trans g8).trans (g9.trans ga);exact⟨g6.trans gz,gz.keep _ _ n6,wt,lw',wz',fw',gz.keep _ _ e6,_,rfl⟩
  ·rintro ρ M5 ⟨g5,n5,ws,lw,wz,fw,e5,x7,rfl⟩
   walk_at "wr";exact⟨g5,ws,lw,wz,fw,e5,_,_,rfl⟩
 ·rintro ρ M1 ⟨g1,ws,lw,wz,fw,e1,x6,x7,rfl⟩
  walk_at "wr";exact q _ g1
end
end Law
namespace Law
open PySem L3
section
variable {srt:List D->Option (List D)}
theorem Mj(so:qp srt)(sc:List Int){d:D}{as vs ns:List Str}{ot:Str}(M:MH)(P:gO M d as vs ns ot)(many:Nat)(hm:many<=19)(fit:aW as vs 5 (cD sc as vs ns ot many))(jS:Nat)(hS:iF M jS (cD sc as vs ns ot many))(m:Kn)(nd:(m.map (·.1)).Nodup)(l6:m.length<=6) :
  W (aq (cx srt 39) (dr 6 kl) [some (.fl (sc.map .int)),some d,some (.int (many:Int)),some (ar (cD sc as vs ns ot many)),some (ar (cD sc as vs ns ot many)),some (.ob jS),some (bN m),none,none,none,none]) M (lU fun v _=>v=.bl true):=by
 have big:=aw;have v3:=P.v3;have a3:=P.a3;have hN:=P.NC;have hV:∀x∈vs,iS x:=fun x hx=>P.vz x (yo _ hx);have e0:D.tup []=ai []:=rfl;generalize ht:cD sc as vs ns ot many=t at fit hS ⊢;have FO:∀p,p∈bK (mQ m) 5 t []->rG (mQ m) t p/\∃s,aH t p=some s:=fun p hp=>by
  obtain⟨q,rfl,hq⟩:=(iG 5 t [] p fit).mp hp;exact⟨hq,yw.mp ((kJ _ t).mp hq).1⟩
 simp only[kl,mY,mZ];walk_at "wr";rw[e0];refine⟨zM _,i7 m nd (by walk_at "o") 5 32 M t [] fit (by decide) (by decide) fun j1 M1 g1 _ h1=>?_⟩;generalize bK (mQ m) 5 t []=tk at FO h1;walk_at "wr";refine⟨_,h1,?_⟩;rw[cH _ (by decide),<- yd];have g2:=g1.snoc (MO.lst ((tk.take (2:Int).toNat).map ai));have n2:=ag M1 (MO.lst ((tk.take (2:Int).toNat).map ai));generalize M1++[MO.lst ((tk.take (2:Int).toNat).map ai)]=M2 at g2 n2 ⊢;refine⟨_,n2,?_⟩;refine bw (fun n ρ M'=>Gr M M'/\Gr M2 M'/\∃x7,ρ=[some (.fl (sc.map .int)),some d,some (.int (many:Int)),some (ar t),some (ar t),some (.ob jS),some (bN m),x7,none,none,none]) ⟨g2,.refl,_,rfl⟩ (fun _ _ _ h=>h.2.1.keep _ _ n2) ?_ ?_
 ·rintro n x ρ M3 hd ⟨g3,g3',x7,rfl⟩
  rw[zw]at hd;obtain⟨p,hp,rfl⟩:=zu.mp hd;obtain⟨T,s,hs⟩:=FO p (yv (zx hp));walk_at "wr";refine qC 19 M3 fit a3 v3 hN hV hs (lC p fit hs) (hS.keep g3) fun M4 g4=>?_;walk_at "wr";refine qz 25 M4 fit a3 v3 hs fun r M5 g5 hR=>?_;obtain⟨m',rfl,_⟩:=AD fit hR T;walk_at "wr";refine sF (by simp) ?_;walk_at "wr";exact⟨g3.trans (g4.trans g5),g3'.trans (g4.trans g5),_,rfl⟩
 rintro ρ M3 ⟨g3,g3',x7,rfl⟩;walk_at "wr";refine⟨zM _,kE 5 34 M3 t [] fit (by decide) (by decide) fun j4 M4 g4 _ h4=>?_⟩;have hlen:=Bj fit;have TL:0<(cW 5 t []).length:=by rw[il];exact Nat.succ_pos _
 have g4':=g3.trans g4;walk_at "wr";refine⟨_,h4,?_⟩;rw[show lK (MO.lst ((cW 5 t []).map ai))=((cW 5 t []).length:Int) from by show (((cW 5 t []).map ai).length:Int)=_;rw[zz]];refine bL 37 sc _ _ M4 (by decide) (by decide) (by walk_at "o") ?_;obtain⟨w,hw,Rv⟩:=bX sc 27 TL;rw[hw];walk_at "wr";refine⟨_,h4,?_⟩;walk_at "wr";obtain⟨p,hp⟩:∃p,(cW 5 t [])[w]?=some p:=⟨_,zv Rv⟩;obtain⟨s0,hs⟩:=qK fit (zx hp);have oz:=lC p fit hs;have Wl:=kK p fit hs;refine⟨ai p,bB (by rw[zw,hp];rfl),?_⟩;refine qC 19 M4 fit a3 v3 hN hV hs oz (hS.keep g4') fun M5 g5=>?_;have g5':=g4'.trans g5;walk_at "wr";refine sF rfl ?_;walk_at "wr";refine jq 38 M5 t s0 p hs ?_;obtain⟨eb,ec,ep,er,et⟩:=dn s0;rw[et];walk_at "wr";rw[zz];refine bL 37 sc _ _ M5 (by decide) (by decide) (by decide) ?_;have pk:=kR sc 206 (m:=2) (by decide);generalize bC sc 206 2=z at pk ⊢;walk_at "wr";have mW:ai p=.tup (p.map .int):=rfl;refine⟨by decide,?_⟩;rw[mW];walk_at "wr";refine⟨by rw[zz];show _+1<=_;walk_at "o",?_⟩;have eq1:D.tup (p.map D.int++[D.int (((ay s0).length:Int)+z)])=ai (p++[((ay s0).length:Int)+z]):=by unfold ai;rw[zo];rfl
 rw[eq1,<- mW];refine⟨_,By 36 M5 t s0 p _ [] hs (by walk_at "o"),?_⟩;walk_at "wr";have eq2:ai (p++[((ay s0).length:Int)+z])=.tup ((p++[((ay s0).length:Int)+z]).map .int):=rfl;have eq3:D.tup (p.map D.int++[D.int (((ay s0).length:Int)+z)]++[D.int 0])=ai (p++(((ay s0).length:Int)+z)::[0]):=by unfold ai;rw[zo,yz];rfl
 rw[eq2];walk_at "wr";refine⟨by decide,by rw[zm,zz];show _+1+1<=_;walk_at "o",?_⟩;rw[eq3];refine⟨_,By 36 M5 t s0 p _ [0] hs (by walk_at "o"),?_⟩;rw[iP];refine⟨_,y8 (plainT 5 t 20 fit (by decide)),_,rfl,sF rfl ?_⟩;clear eq1 eq2 eq3;generalize D.tup ((p++[((ay s0).length:Int)+z]).map D.int)=x9;have FO:∀p,p∈bK (mQ m) 5 t []->∃s,aH t p=some s:=fun p hp=>by
  obtain⟨q,rfl,hq⟩:=(iG 5 t [] p fit).mp hp;exact yw.mp ((kJ _ t).mp hq).1
 walk_at "wr";rw[e0];refine⟨zM _,i7 m nd (by walk_at "o") 5 32 M5 t [] fit (by decide) (by decide) fun j6 M6 g6 _ h6=>?_⟩;generalize bK (mQ m) 5 t []=tk at FO h6;walk_at "wr";refine⟨_,h6,?_⟩;rw[cH _ (by decide),<- yd];have g7:=g6.snoc (MO.lst ((tk.take (1:Int).toNat).map ai));have n7:=ag M6 (MO.lst ((tk.take (1:Int).toNat).map ai));generalize M6++[MO.lst ((tk.take (1:Int).toNat).map ai)]=M7 at g7 n7 ⊢;walk_at "wr";have g8:=Gr.app M7 [MO.lst [ai p]];have n8:=ag M7 (MO.lst [ai p]);have n7':=g8.keep _ _ n7;generalize M7++[MO.lst [ai p]]=M8 at g8 n8 n7' ⊢;refine⟨by decide,_,n7',_,n8,by rw[zz,zD];show _+1<=_;walk_at "o",?_⟩;have el:(tk.take (1:Int).toNat).map ai++[ai p]=(tk.take (1:Int).toNat++[p]).map ai:=by rw[zo];rfl
 rw[el];have hin:∀x∈tk.take (1:Int).toNat++[p],∃s,aH t x=some s:=fun x hx=>by
  rcases zL.mp hx with h|h
  ·exact FO x (yv h)
  ·rw[zA.mp h];exact⟨s0,hs⟩
 generalize tk.take (1:Int).toNat++[p]=ql at hin ⊢;have g9:=((g5'.trans g7).trans g8).snoc (MO.lst (ql.map ai));have n9:=ag M8 (MO.lst (ql.map ai));generalize M8++[MO.lst (ql.map ai)]=M9 at g9 n9 ⊢;refine⟨_,n9,?_⟩;generalize M8.length=j9 at n9 ⊢;refine bw (fun n ρ M'=>Gr M M'/\Gr M9 M'/\∃mm,ρ=[some (.fl (sc.map .int)),some d,some (.int (many:Int)),some (ar t),some (ar t),some (.ob jS),some (bN m),some (ai p),some (.ob j4),some x9,mm]) ⟨g9,.refl,_,rfl⟩ (fun _ _ _ h=>h.2.1.keep _ _ n9) ?_ ?_
 ·rintro n x ρ Ma hd ⟨ga,ga',mm,rfl⟩
  rw[zw]at hd;obtain⟨y,hy,rfl⟩:=zu.mp hd;obtain⟨s,hs'⟩:=hin y (zx hy);subst ht;walk_at "wr";refine Ck 18 sc many Ma (P.keep ga) hm fit (p:=y) (by rw[hs'];rfl) fun Mb gb=>?_;walk_at "wr";refine sF rfl ?_;walk_at "wr";exact⟨ga.trans gb,ga'.trans gb,_,rfl⟩
 ·rintro ρ Ma ⟨ga,ga',mm,rfl⟩
  walk_at "wr"
theorem Qt(so:qp srt)(sc:List Int):W ((cx srt 40).fn "law" [.fl (sc.map .int)]) [] fun v _=>v=.bl true:=by
 have big:=aw;rw[aA "law" 11 1 kl rfl,wf,ja 6 kl];have tl:=@Mj srt so sc;generalize dr 6 kl=b0 at tl ⊢;simp only[kl,ki,kj];have e0:D.tup []=ai []:=rfl;walk_at "wr";refine MW 35 sc [] fun d as vs ns ot M1 P g1=>?_;have v3:=P.v3;have a3:=P.a3;have hN:=P.NC;have hV:∀x∈vs,iS x:=fun x hx=>P.vz x (yo _ hx);walk_at "wr";refine⟨by decide,?_⟩;have g2:=Gr.app M1 [MO.lst [D.int 1,.int 2,.int 3,.int 4,.int 5,.int 3,.int 2,.int 4,.int 9]];have n2:=ag M1 (MO.lst [D.int 1,.int 2,.int 3,.int 4,.int 5,.int 3,.int 2,.int 4,.int 9]);generalize M1++[MO.lst [D.int 1,.int 2,.int 3,.int 4,.int 5,.int 3,.int 2,.int 4,.int 9]]=M2 at g2 n2 ⊢;refine bL 37 sc _ _ M2 (by decide) (by decide) (by decide) ?_;obtain⟨w,hw,V3⟩:=bX sc 26 (m:=9) (by decide);rw[show ((9:Nat):Int)=9 from rfl]at hw;rw[hw];walk_at "wr";refine⟨_,n2,?_⟩;walk_at "wr";obtain⟨r,⟨r1,r9⟩,hr⟩:=nine w V3 1 2 3 4 5 3 2 4 9 (fun r=>1<=r/\r<=9) (by decide) (by decide) (by decide) (by decide) (by decide) (by decide) (by decide) (by decide) (by decide);obtain⟨many,rfl⟩:=yH (show 0<=r by walk_at "o");have hm:many<=19:=by walk_at "o"
 refine⟨_,hr,?_⟩;have P2:=P.keep g2;refine tO 33 sc many M2 P2 hm fun M3 g3 fit=>?_;walk_at "wr";refine tO 33 sc many M3 (P2.keep g3) hm fun M4 g4 _=>?_;walk_at "wr";refine t4 33 M4 _ fit a3 v3 fun jS M5 g5 hS=>?_;have P5:=P2.keep ((g3.trans g4).trans g5);walk_at "wr";refine Ly so 36 sc M5 P5 fun m M6 g6 nd l6=>?_;walk_at "wr";exact tl M6 (P5.keep g6) many hm fit jS (hS.keep g6) m nd l6
theorem law_d'(so:qp srt)(ns:List Int)(_:ns.length<=63):∃M',(cx srt 40).fn "law" [.fl (ns.map .int)] []=some (.ok (.bl true),M'):=by
 obtain⟨a,M',e,rfl⟩:=Qt so ns;exact⟨M',e⟩
end
end Law
namespace Law
open PySem L3
theorem Qu(ns:List Int)(h:ns.length<=63):∃M',(cx dE 40).fn "law" [.fl (ns.map .int)] []=some (.ok (.bl true),M'):=law_d' (fun ps hl _=>by
 obtain⟨qs,e,p⟩:=CN (ps:=ps) (by walk_at "o");exact⟨qs,p,e⟩) ns h
end Law
namespace Law
open PySem PySem.Spec PySem.Calls PyProof.Rows L2 L3
noncomputable def OK:List Str:=[]
noncomputable def O3:List Str:=["ValueError","all","any","bool","dict","enumerate","int","isinstance","len","list","range","set","sorted","str","tuple"]
noncomputable def tf:Ent:=EE (top 68) ["_law_pool_here","_law_many","_law_tree_here","_law_spare","_law_splits_here","_law_marks_here","_law_place","_law_some","_law_beyond","_law_one"] kl
noncomputable def ents:List Ent:=[EE (top 1) [] jg,EE (top 2) ["pair"] jb,EE (top 4) ["word","name","values"] nY,EE (top 5) [] iy,EE (top 6) [] je,EE (top 7) ["values","asking"] eh,EE (top 17) ["found","k","below"] fE,EE (top 18) [] ic,EE (top 19) ["row","k"] fQ,EE (top 21) ["askings","place"] gF,EE (top 22) [] eo,EE (top 23) [] fD,EE (top 24) [] fF,EE (top 25) [] dG,EE (top 26) [] fG,EE (top 27) [] gE,EE (top 28) ["above"] gA,EE (top 29) ["marks"] nZ,EE (top 30) ["askings"] iz,EE (top 31) [] cY,EE (top 32) ["name"] cq,EE (top 33) [] oa,EE (top 34) [] cV,EE (top 35) ["at"] gB,EE (top 36) ["k"] eU,EE (top 37) ["marks","pair","value"] gC,EE (top 38) ["case","cases","value","found"] iw,EE (top 39) ["matter"] lj,EE (top 41) ["_law_number"] gL,EE (top 42) [] iC,EE (top 43) ["_law_word","_law_way","_law_at_here","_law_first","_law_some","_law_j","_law_sign"] gG,EE (top 44) ["_law_names","_law_values","_law_turn","_law_asked"] dB,EE (top 45) ["_law_name","_law_word","_law_first","_law_some"] fJ,EE (top 46) [] eV,EE (top 47) ["_law_nodes_here","_law_j","_law_at_here","_law_some","_law_turn","_law_names","_law_over","_law_node","_law_head"] gK,EE (top 48) ["_law_node"] jh,EE (top 49) ["_law_nodes_here"] iB,EE (top 50) ["_law_pairs","_law_j","_law_way"] gM,EE (top 51) [] ji,EE (top 52) ["_law_pairs"] iD,EE (top 53) ["_law_found","_law_gone","_law_j"] gI,EE (top 54) ["_law_found","_law_j"] fH,EE (top 55) ["_law_j"] km,EE (top 56) ["_law_some","_law_place","_law_asking_here","_law_found","_law_name"] cu,EE (top 57) ["_law_asking_here"] gN,EE (top 58) ["_law_asking_here"] gH,EE (top 59) ["_law_found","_law_size","_law_j"] dH,EE (top 60) ["_law_value","_law_below","_law_more"] aV,EE (top 61) [] eB,EE (top 62) ["_law_pair"] b7,EE (top 63) ["_law_pair","_law_names"] eC,EE (top 64) ["_law_found"] gJ,EE (top 66) [] fI,EE (top 67) ["_law_values","_law_k","_law_value"] d7,tf]
theorem Mk:tabOf ents=tab:=by kernel_rfl
theorem JB:tf.x = "law":=by kernel_rfl
theorem Q9:ents.all Be=true:=by kernel_rfl
theorem VD:ents.map (fun e=>cX ⟨au e.st,e.N,ents.map (·.x),OK,O3⟩ 200 (ba e.st))=ents.map fun e=>some e.b:=by kernel_rfl
theorem VB:ents.map (fun e=>(tabOf ents).lookup e.x)=ents.map fun e=>some ⟨e.N.length,e.ps.length,e.b⟩:=by kernel_rfl
noncomputable def MP:List DefRec:=([1,2,4,5,6,7,17,18,19,21,22,23,24,25,26,27,28,29,30,31,32,33,34,35,36,37,38,39,41,42,43,44,45,46,47,48,49,50,51,52,53,54,55,56,57,58,59,60,61,62,63,64,65,66,67,68]:List Nat).map fun i=>qF (Sq (top i)) (top i)
theorem VC:([0,1,2,3,4,5,6,7,8,9,10,11,12,13,14,15,16,17,18,19,20,21,22,23,24,25,26,27,28,29,30,31,32,33,34,35,36,37,38,39,40,41,42,43,44,45,46,47,48,49,50,51,53,54,55]:List Nat).map (fun i=>MP[i]?)=ents.map fun e=>some (qF e.x e.st):=by kernel_rfl
noncomputable def Vs(i:Nat):Pos:=([⟨340,8,340,13⟩,⟨340,14,340,28⟩,⟨340,30,340,40⟩,⟨340,8,340,41⟩,⟨342,8,342,24⟩,⟨342,27,342,37⟩,⟨342,38,342,39⟩,⟨342,42,342,49⟩,⟨342,51,342,58⟩,⟨342,60,342,64⟩,⟨342,66,342,71⟩,⟨342,73,342,80⟩,⟨342,41,342,81⟩,⟨342,27,342,82⟩,⟨342,8,342,82⟩,⟨343,15,343,25⟩,⟨343,26,343,27⟩,⟨343,29,343,36⟩,⟨343,15,343,37⟩,⟨343,42,343,52⟩,⟨343,53,343,54⟩,⟨343,56,343,66⟩,⟨343,42,343,67⟩,⟨343,77,343,93⟩,⟨343,73,343,93⟩,⟨343,15,343,94⟩,⟨343,8,343,94⟩,⟨340,8,340,41⟩,⟨341,11,341,21⟩,⟨341,4,343,94⟩,⟨339,4,343,94⟩,⟨344,11,344,16⟩,⟨344,4,344,16⟩]:List Pos).getD i ⟨0,0,0,0⟩
theorem KW:ba (top 65)=mB Vs:=by kernel_rfl
theorem PZ:pB (au (top 65)):=⟨by decide +kernel,by decide +kernel⟩
theorem P0:dk om ["_law_tree_here","_law_place"] (au (top 65)):=⟨rfl,rfl,rfl,by decide +kernel,rfl,by decide +kernel,by decide +kernel⟩
theorem Tb:(["row_at","shown"]:List Str).all (fun y=>ents.any fun e=>e.x==y&&(decide (e.ps.length=2)&&dS 200 (ba e.st) e.b))=true:=by kernel_rfl
theorem all_mk{P q:ul}{w:ut}{lo:List Str}{kC:ExcName->Option jp}{mg mb:Str->Option jp}{h:Heap}{fa:kw}(T:Top q lo kC mg mb h)(Y:As w h)(JU:mg "law" = some (.ref fa))(r:recsOf q=MP)(z:J4 q lo O3=true)
  : ∃fd:FuncData,(∀(s:kt) (v:jp),BindsTo s fd ⟨[v],[]⟩ [("_law_script",v)])/\∀base:Heap,(bP h).In base->base.Ns mainGlobals mg->dD P w (bP h) mg base kq 40 fa fd ["_law_script"] (iO (bP h) 1 ((cx dE 40).fn "law")):=by
 have hd:∀e∈ents,lX (bP h) mg ents OK O3 e:=Iz T r Q9 _ VC VD VB
 have hg:∀x∈OK,Cc (bP h) mg gl x:=fun _ h9=>nomatch h9
 obtain⟨_,_,jP⟩:=GR.NH (es:=ents) T Y r 52 rfl (fun _ _ _ _ _ _=>Vz fun _ _=>rfl) P0 KW PZ (qY T z _ (by decide +kernel)) (qY T z _ (by decide +kernel)) (PH Tb)
 have l:=LJ (P:=P) (w:=w) (wh:=1000) (gl:=gl) (srt:=dE) jP (fun k=>My (by cases k <;> rfl)) hd hg (qY T z) 40 (e:=tf) (by simp[ents]) (x:="_law_script") (by kernel_rfl) (fun a b c d f g u=>Jn (zS.mp Q9 tf (by simp[ents])) a b c d f g [u] (by kernel_rfl)) (JB▸JU)
 rw[JB,Mk]at l
 exact l
end Law
open PySem PySem.W PyProof.Rows
namespace Law
set_option maxRecDepth 100000 in
set_option maxHeartbeats 0 in
theorem VF(w:ut):(fencedOpening treeTable PP w 20000).map (fun s₀=>(qB w s₀).map fun s₁=>Hook.obs L3.fY s₁)=some (some (Hook.val L3.fY w)):=by kernel_rfl
theorem my{tb:String->Option Builtin}{p:ul}{w:ut}{n₀:Nat}{ann:Option jp}(m:Nat){s':kt}{t':Thread}:∀(n:Nat) (s:kt) (t:Thread),goN tb p w n₀ ann n s t=some (s',t')->topRun tb p w n₀ ann (n+m) s t=topRun tb p w n₀ ann m s' t'
 |0,s,t,h=>by
  cases h;rw[xl]
 |n+1,s,t,h=>by
  rw[show n+1+m=(n+m)+1 by walk_at "o",topRun];rw[goN]at h;cases h1:through t with
  |true=>rw[h1]at h;cases h
  |false =>
   rw[h1]at h;cases h2:stepOk n₀ ann t with
   |false=>rw[h2]at h;cases h
   |true =>
    rw[h2]at h;dsimp only at h ⊢;cases h3:step (denote tb) p w s t with
    |go s1 t1 =>
     rw[h3]at h;exact my m n s1 t1 h
    |halt o s1=>rw[h3]at h;cases h
theorem of_map{α β:Type}{o:Option α}{f:α->β}{x:β}{a:α}(ho:o=some a)(h:o.map f=some x):f a=x:=by
 subst ho;exact Option.some.inj h
theorem left:LeftO PP Law.vw [] XT (Hook.obs L3.fY) (Hook.val L3.fY) 20000:=fun w=>by
 have pc:=MZ w;have pd:=MY w;have A:=VG w;cases hf:fencedOpening treeTable PP w 20000 with
 |none=>rw[hf]at A;cases A
 |some s₀ =>
  have pg:=of_map hf (pc.trans (by rw[hf];rfl:_=some (some (S w s₀,T w s₀))));have ph:=of_map hf (pd.trans (by rw[hf];rfl:_=some (some (S2 w s₀,T2 w s₀))));have A:=of_map hf A;have C:=of_map hf (VF w);have B1:=of_map hf (Tq w);have B2:=of_map hf (Tp w);have B3:=of_map hf (To w);cases hr:qB w s₀ with
  |none=>rw[hr]at A;cases A
  |some s₁ =>
   have A:=of_map hr A;have C:=of_map hr C;have B1:=of_map hr B1;have B2:=of_map hr B2;have B3:=of_map hr B3;obtain⟨A1,A2⟩:=xq.mp A;have go:=(my 18257 1743 s₀ (topStub PP) pg).trans (my 17151 1106 _ _ ph);unfold openEnds;rw[hf];show (topFrom treeTable PP w 20000 s₀).map _=_;unfold topFrom;rw[A1];dsimp only;have e:topRun treeTable PP w s₀.heap.objs.size (s₀.heap.nsMap mainGlobals "__annotations__") 20000 s₀ (topStub PP)=some s₁:=go.trans hr;rw[e];show ((match staticsOk (importedModules PP.main.body) s₀.heap s₁.heap&&namesBound PP s₁.heap&&gensDone s₁&&laidKept s₀.heap s₁.heap with
    |true=>some s₁
    |false=>none)).map _=_
   rw[A2];show some (sn s₁,Hook.obs L3.fY s₁)=some (openGood Law.vw [],Hook.val L3.fY w);rw[C];have es:sn s₁=openGood Law.vw []:=Prod.ext (Prod.mk.inj B1).1 (Prod.ext (Prod.mk.inj B1).2 (Prod.ext B2 B3));rw[es]
end Law
set_option maxRecDepth 100000 in
set_option maxHeartbeats 0 in
theorem Law.holds2:Law.ud.Holds:=by
 refine holds_law Law.Hl fun Hl=>?_;refine holds_open (q:=Law.vw) (loose:=[]) (Xt:=fun s=>xlAt Law.vw [] s&&recOk (RowW.records (OpenRow.toRowW Law.ud.row)) s) (XP:=XL Law.vw []) (Yf:=Hook.obs L3.fY) (Ya:=Hook.val L3.fY) (YP:=Hook.says L3.fY) (N:=20000) Law.left (Hook.of L3.fY) (Hook.keeps L3.fY)
  (fun s e=>xl_of s (xq.mp e).1) XL.keeps (by rfl) (by rfl) (by rfl) (fun s e=>recFacts_of (xq.mp e).2) (by rfl) Hl (by decide +kernel) ⟨rfl,rfl,rfl,rfl,rfl,by decide +kernel⟩ ?hw ?hc
 case hw=>w_witness2
 refine L3.walkZ (l:=Law.ud) (x:="_law_script") (k:=40) (g:=(Law.cx L3.dE 40).fn "law") ⟨rfl,by decide,by decide,rfl⟩ rfl rfl Law.Qu ?F
 case F =>
  intro w kC mg mb fa h T Y sf;exact Law.all_mk T Y sf (by kernel_rfl) (by kernel_rfl)
theorem PySem.Challenge.cw_belfry_k32_whole_shown_holds : PySem.Challenge.rw_belfry_k32_whole_shown.Holds := by
 exact Law.rw_eq ▸ Law.holds2

import PyProof.Rows.All
import Wide.FinOn
import Wide.All
import KE.KDictOf
import KE.KFromBytes
import KE.KIntText
import KE.KIsAll
import KE.KItem
import KE.KRevIter
import PySem.Challenge.RW_belfry_k09_what_is_no_tree
open PySem renaming Value->jp,Shared->kt,Addr->uc,Program->uf,World->ul,Around->ut,Stmt->uV
open PySem.W renaming Frag->Q_,fnOf->Z_,keepIn->X_,codeIn->K_,Hook->J_,methodObj->Y_,callWith_K->V_,cellsFrom_some->U_
open PyProof.Rows renaming callWith_type1->W_,slot_tuple_getitem->G_,boot_repr->q_,boot_isinstance->z_,boot_set->j_,toString_length_le->x_
open List renaming getElem?_eq_some_iff->zz,length_map->zy,length_append->zx,getElem?_eq_getElem->zu,getElem?_map->zm,mem_of_getElem?->zl,length_cons->zj,map_append->zf,mem_cons->zd,getElem?_set_ne->zc,getElem?_append_right->zA,mem_singleton->zB,size_toArray->zD,mem_cons_of_mem->zE,take_succ_eq_append_getElem->zH,mem_cons_self->zI,getElem?_set_self->zJ,getElem?_append_left->zK,take_length->zM,mem_append_right->zN,append_nil->zO,mem_append->zQ,map_cons->zR,length_take->zS,length_nil->zT,append_assoc->zU,mem_append_left->zZ,length_replicate->yz,replicate->yx,all_eq_true->yw,not_mem_nil->yv,drop_eq_getElem_cons->yt,length_drop->yr,length_set->yq,getD_eq_getElem?_getD->yo,mem_map->yl,all_cons->yk,length_range->yh,lookup_cons->yf,mem_of_mem_drop->yb,getElem?_of_mem->ya,filterMap_cons->yB,length_reverse->yC,find?_cons->yD,getElem_mem->yE,cons_ne_nil->yF,mem_of_mem_take->yH,toList_toArray->yL,take_of_length_le->yM,map_take->yO,drop_length->yR,pairwise_iff_getElem->yT,map_drop->yV,length_eq_zero_iff->yW,take_append_of_le_length->yX,zip_cons_cons->yY,nodup_cons->yZ,getElem?_eq_none->xy,any_eq_true->xu,getLast?_eq_none_iff->xt,getElem?_drop->xq,getElem_range->xp,getElem?_take->xn,getElem?_replicate->xl,findIdx?_eq_some_iff_getElem->xj,map_map->xh,drop_zero->xg,take_succ->xf,take_left->xc,any_cons->xD,eq_nil_of_length_eq_zero->xF,takeWhile_append_of_pos->xH,map_eq_nil_iff->xI,all_map->xJ,mem_range->xK,filterMap_map->xL,length_eraseIdx_of_lt->xN,mapM_cons->xO,nodup_nil->xQ,mem_take_iff_getElem->xR,getElem?_cons_succ->xX,getElem?_cons_zero->xY,isEmpty_iff->wz,filter_cons_of_neg->wy,filter_cons_of_pos->wx,map_nil->wv,range_succ_eq_map->wq,length_eq_one_iff->wn,drop_of_length_le->wm,append_eq_nil_iff->wl,of_mem_zip->wk,filter_nil->we,mem_iff_getElem?->wb,getElem?_mapIdx->wA,replicate_succ'->wD,map_congr_left->wG,replicate_succ->wH,take_nil->wK,mem_filterMap->wL,length_mapIdx->wN,mem_replicate->wQ,take_sublist->wR,map_inj_left->wX,nodup_append->wZ,ext_getElem->vq,not_lt->vn,mem_filter->vj,length_zip->vh,drop_drop->vc,take_zero->vC,drop_nil->vD,all_nil->vG
open PySem renaming wpAny_bind->zw,wpAny_pure->zo,sizeLine->zi
open PySem.Heap renaming get?_push_of_some->zv,lt_size->zg,get?_push_size->zC,get?_update_other->zX,get?_update_self->yu,get?_none_of_le->ym,size_push->xM,clsAt_spec->wg,get?_update_ne->wE,get?_push_at->wV,nsMap->vB
open Bool renaming and_eq_true->zt,false_ne_true->zn,false_and->zL,true_and->zP,eq_iff_iff->zV,false_eq_true->zY,and_false->yp,not_eq_true'->yn,not_true->yN,not_eq_true->yQ,or_eq_true->xz,not_false->xw,and_eq_true_iff->xv,eq_false_iff->xU,or_false->xV,false_or->wI,and_true->wJ,true_eq_false->wO,not_eq_false'->wP,true_or->wT,and_assoc->vA
open Nat renaming le_refl->zq,lt_of_lt_of_le->ze,ne_of_lt->zF,le_trans->zG,zero_le->zW,ne_of_gt->yi,lt_irrefl->yg,lt_succ_self->ye,sub_self->yc,le_of_eq->yG,mul_le_mul_right->yI,le_of_not_lt->yP,not_lt_zero->yU,lt_succ_of_lt->xx,le_succ->xk,min_le_right->xW,le_of_lt->ww,add_comm->wu,sub_zero->wo,min_eq_left->wj,sub_le_sub_right->wa,pow_le_pow_right->wB,add_le_add_right->wC,add_sub_cancel->wM,lt_trans->wU,succ_mul->wY,zero_add->vz,le_add_right->vt,min_eq_right->vp,log2_lt->vk,le_antisymm->vf,min_self->vF,mul_add->vI,mod_lt->vJ,not_lt->vL
open Option renaming map_eq_some_iff->zp,isNone_iff_eq_none->yS,map_some->xr,getD_some->xB,isSome_map->xT,bind_eq_some_iff->xZ,bind_eq_bind->wF,getD_none->vv,pure_def->vi,map_none->vg
open Array renaming length_toList->yj,getElem?_eq_getElem->yd,getElem?_eq_some_iff->yA,getElem?_eq_none->xi,toList_inj->xA,getD->wt,getElem?_toList->wc,toList_push->wW,toList->vE,ext->vM
open Int renaming toNat_natCast->yJ,eq_ofNat_of_zero_le->yK,emod_lt_of_pos->xo,natAbs_natCast->xm,emod_nonneg->xG,ediv_one->wS,zero_add->vH
set_option Elab.async false
set_option linter.all false
set_option maxRecDepth 100000
set_option autoImplicit true
set_option tactic.hygienic false
set_option bootstrap.genMatcherCode false
set_option compiler.extract_closed false
local macro_rules|`($m:declModifiers def $i:declId $s:optDeclSig $v:declVal)=>do
 if m.raw.getArgs.any λ x=>x.getNumArgs>0 then Lean.Macro.throwUnsupported
 let n:=Lean.Syntax.node .none
 let r:=n `Lean.Parser.Command.declaration #[m,n `Lean.Parser.Command.theorem #[Lean.mkAtom "theorem",i,n `Lean.Parser.Command.declSig #[s.raw[0],s.raw[1][0]],v]]
 if (v.raw.find? λ x=>x.isOfKind `Lean.Parser.Tactic.renameI).isSome then `(set_option tactic.hygienic true in $(⟨r⟩):command) else pure r
local macro_rules|`($m:declModifiers abbrev $i:declId $s:optDeclSig $v:declVal)=>do
 if m.raw.getArgs.any λ x=>x.getNumArgs>0 then Lean.Macro.throwUnsupported
 let n:=Lean.Syntax.node .none
 pure (n `Lean.Parser.Command.declaration #[m.raw.setArg 4 (Lean.mkNullNode #[n `Lean.Parser.Command.noncomputable #[Lean.mkAtom "noncomputable"]]),n `Lean.Parser.Command.definition #[Lean.mkAtom "def",i,s,v,Lean.mkNullNode]])
local macro_rules|`(tactic| let ⟨$ps,*⟩:=$e)=>do
 let a ← ps.getElems.mapM λ p => do
  if p.raw.isIdent then `(rcasesPat| $(⟨p.raw⟩):ident) else `(rcasesPat| _)
 `(tactic| obtain ⟨$[$a:rcasesPat],*⟩ := $e)
local macro_rules|`(tactic| symm at $h:ident)=>do
 let f:=Lean.mkIdent `L3.af
 let r:=Lean.mkIdent `rfl
 `(tactic| (obtain ⟨$r:ident,$r:ident⟩:=$f $h;clear $h))
local macro_rules|`(tactic| rwa [$rs,*] $[$l]?)=>do
 let a←rs.getElems.mapM λ r=>if r.raw[0].getNumArgs>0 then `(Lean.Parser.Tactic.simpLemma|←$(⟨r.raw[1]⟩)) else `(Lean.Parser.Tactic.simpLemma|$(⟨r.raw[1]⟩):term)
 `(tactic| simp only [$a,*] $[$l]?)
local macro_rules|`(tactic| have ⟨$ps,*⟩:=$f $h:ident)=>`(tactic| (replace $h:ident:=$f $h;let ⟨$ps,*⟩:=$h:term))
local macro_rules|`(tactic| exists $es,*)=>`(tactic| refine ⟨$es,*, ?_⟩)
def zzA{p:Prop}[Decidable p]:¬p->decide p=false:=decide_eq_false
def zzB{p:Prop}[Decidable p]:p->decide p=true:=decide_eq_true
def zzC{p:Prop}[Decidable p]:(decide p=true)=p:=decide_eq_true_eq
def zzD{p:Prop}[Decidable p]:decide p=true->p:=of_decide_eq_true
def zzE{p:Prop}[Decidable p]:decide p=false->¬p:=of_decide_eq_false
def zzF{α:Type}[BEq α][LawfulBEq α]{a b:α}:(a==b)=false<->a≠b:=beq_eq_false_iff_ne
namespace Law
open PySem PySem.Spec PyProof.Rows
abbrev K7:jp->Option Str
 |.str x _=>some x
 |_=>none
abbrev Rq(x:Str)(s:kt):Option (Bool×List (Int×Option Str×Option Str)):=match s.heap.nsMap mainGlobals x with
 |some (.ref a)=>(match s.heap.get? a with
  |some o=>(match o.data with
   |.dict b _=>some (decide (o.cls=.type "dict")&&o.dict.isNone&&o.slots.isEmpty&&!(a==sysModules),b.toList.map λ e=>(e.hash,K7 e.key,K7 e.val))
   |_=>none)
  |none=>none)
 |_=>none
abbrev Rp(a:List (Str×Str))(w:ul):Option (Bool×List (Int×Option Str×Option Str)):=some (true,a.map λ p=>(hashStr w p.1,some p.1,some p.2))
nonrec def top(i:Nat):uV:=PySem.Challenge.pw_belfry_k09_what_is_no_tree.main.body.getD i (.Pass ⟨0,0,0,0⟩)
abbrev fW:uV:=(match top 20 with
 |.ClassDef _ _ _ b _ _ _ _ _ _ _=>b
 |_=>[]).getD 0 (.Pass ⟨0,0,0,0⟩)
abbrev RN:List jp:=[.type "ValueError",.type "Exception",.type "BaseException",.type "object"]
abbrev Cv:List Str:=["__class__","__getattribute__","__getattr__","__setattr__","at","row"]
abbrev M9:List Str:=Cv++quietNames
abbrev IM:List Str:=["BadLine","BadWord","Late","NoPlace","NoStretch","Twice","Unknown"]
abbrev JJ(h:Heap)(x:Str):Bool:=match h.clsAt mainGlobals x with
 |some (B,o,_)=>decide (o.cls=.type "type")&&!decide (h.nsMap mainGlobals "BadTree" = some (.ref B))&&!decide (h.nsMap mainGlobals "HouseError" = some (.ref B))
 |none=>false
abbrev Jf(h:Heap)(name:Str)(ns:List Str):Bool:=match h.clsAt mainGlobals name with
 |some (_,_,cd)=>ns.all λ n=>(h.nsMap cd.ns n).isNone
 |none=>false
abbrev TU(h:Heap):Bool:=match h.clsAt mainGlobals "BadTree" with
 |some (C,o,cd)=>decide (o.cls=.type "type")&&decide (cd.mro=.ref C::(h.nsMap mainGlobals "HouseError").getD .none::RN)&&!cd.hasDel&&decide (o.slots.size=6)&&decide (o.slots[4]?=some (some (.builtin "ValueError.__new__")))&&h.isNs cd.ns&&cd.hasDict&&(Cv.all λ n=>(h.nsMap cd.ns n).isNone) &&
  (match h.fnAt cd.ns "__init__" with
   |some (_,o,_)=>decide (o.cls=.type "function")
   |none=>false)
 |none=>false
abbrev QE(h:Heap):Option FnShape:=match h.clsAt mainGlobals "BadTree" with
 |some (_,_,cd)=>h.shapeAt cd.ns "__init__"
 |none=>none
abbrev Se(s:kt):Bool×Option FnShape:=(TU s.heap&&s.heap.ownExcOk "HouseError" [] RN "ValueError.__new__"&&Jf s.heap "HouseError" M9&&IM.all (JJ s.heap),QE s.heap)
abbrev Sd:Bool×Option FnShape:=(true,match fW with
 |.FunctionDef _ a b _ _ _ sc _ _ _=>some ⟨"__init__","BadTree.__init__",a,.stmts b,sc,mainGlobals,[],.none,.none,none,.none,builtinsNs,true⟩
 |_=>none)
end Law
section
open PySem PySem.W PyProof.Rows
open Law in nonrec def Law.PB:uf:={ PySem.Challenge.pw_belfry_k09_what_is_no_tree with main:={ PySem.Challenge.pw_belfry_k09_what_is_no_tree.main with body:=[top 0,top 1,top 2,top 3,top 4,top 5,top 6,top 7,top 8,top 9,top 10,top 11,top 12,top 13,top 14,top 15,top 16,top 17,top 18,top 19,top 20,top 21,top 22,top 23,top 24,top 25,top 26,top 27,top 28,top 29,top 30,top 31,top 32,top 33,top 34,top 35,top 36,top 37,top 38,top 39,top 40,top 41,top 42,top 43,top 44,top 45,top 46,top 47,top 48,top 49,top 50,top 51,top 52,top 53,top 54,top 55,top 56,top 57,top 58,top 59,top 60,top 61,top 62,top 63,top 64,top 65,top 66,top 67,top 68,top 69,top 70,top 71,top 72,top 73,top 74,top 75,top 76,top 77] } }
nonrec def Law.pG:OpenLaw:={ PySem.Challenge.rw_belfry_k09_what_is_no_tree with prog:=Law.PB }
def Law.rw_eq:Law.pG=PySem.Challenge.rw_belfry_k09_what_is_no_tree:=by kernel_rfl
set_option maxRecDepth 100000 in
set_option maxHeartbeats 0 in
def Law.Jn:Law.pG.wellSaid=true:=by kernel_rfl
open Law in abbrev Law.vw:uf:={ Law.PB with main:={ Law.PB.main with body:=[top 1,top 2,top 3,top 4,top 5,top 6,top 7,top 9,top 10,top 12,top 13,top 14,top 15,top 16,top 17,top 18,top 19,top 20,top 22,top 24,top 25,top 26,top 27,top 28,top 29,top 30,top 31,top 33,top 34,top 35,top 36,top 37,top 38,top 39,top 40,top 41,top 42,top 43,top 44,top 45,top 46,top 47,top 48,top 49,top 50,top 51,top 52,top 53,top 54,top 55,top 57,top 58,top 59,top 60,top 61,top 62,top 63,top 64,top 65,top 66,top 67,top 68,top 69,top 70,top 71,top 72,top 73,top 74,top 75,top 76,top 77] } }
namespace Law
@[reducible]noncomputable def PP:uf:=Law.pG.row.prog
abbrev goN(c:String->Option Builtin)(p:uf)(w:ul)(a:Nat)(b:Option jp):Nat->kt->Thread->Option (kt×Thread)
 |0,s,t=>some (s,t)
 |n+1,s,t=>match through t with
  |true=>none
  |false=>match stepOk a b t with
   |false=>none
   |true=>match step (denote c) p w s t with
    |.go e d=>goN c p w a b n e d
    |.halt _ _=>none
abbrev fA:uV->Arguments
 |.FunctionDef (args:=a) ..=>a
 |_=>default
abbrev fB:uV->List uV
 |.FunctionDef (body:=b) ..=>b
 |_=>[]
abbrev fS:uV->Scope
 |.FunctionDef (scope:=s) ..=>s
 |_=>default
abbrev cB:uV->List uV
 |.ClassDef (body:=b) ..=>b
 |_=>[]
abbrev mem(i k:Nat):uV:=(cB (top i)).getD k (.Pass ⟨0,0,0,0⟩)
abbrev fd(n q:Str)(st:uV)(g:uc)(c:List (Str×uc))(d kd a m:jp)(b:Option uc)(co ct:jp)(bl:uc):FuncData:=⟨n,q,fA st,.stmts (fB st),fS st,g,c,d,kd,a,m,b,co,ct,bl⟩
abbrev en(w:ul)(x:Str)(t:Nat)(v:jp):DictEntry:=⟨hashStr w x,.str x t,v⟩
abbrev tp(vs:List jp):Obj:=⟨.type "tuple",none,.seq ⟨vs⟩ 0,#[]⟩
abbrev fo(vs:List jp):Obj:=⟨.none,none,.fields ⟨vs⟩,#[]⟩
abbrev sv:List Str->Nat->List jp
 |[],_=>[]
 |x::r,b=>.str x b::sv r (b+1)
abbrev cd(n q:Str)(l c a k b d:Nat)(f e:jp):Obj:=⟨.type "code",none,.fields ⟨[.str n b,.str q (b+1),.str "/claim/cut.py" (b+2),.int l 0,.int c 0,.int 0 0,.int 0 0,.int 3 0,.ref a,.bool true,.int 181 0,.ref (a+1),.none,f,e,.ref k,.int d 0,.int l 0,.str "/claim/cut.py" (d+1)]⟩,#[]⟩
abbrev fn(n q:Str)(st:uV)(m:jp)(k:Nat):Obj:=⟨.type "function",none,.func (fd n q st 3 [] .none .none .none m none (.ref k) .none 0),#[]⟩
abbrev fr(n q:Str)(st:uV):Obj:=⟨.none,none,.func (fd n q st 0 [] .none .none .none .none none .none .none 0),#[]⟩
abbrev g7(n p:Str)(st:uV)(l c:Nat)(vs:List Str)(m:jp)(a b:Nat):List Obj:=[tp [],fo [],tp (sv vs (b+3)),tp [],fr n (p++n) st,cd n (p++n) l c a (a+4) b (b+3+vs.length) (.ref (a+2)) (.ref (a+3)),fn n (p++n) st m (a+5)]
abbrev g5(n p:Str)(st:uV)(l c:Nat)(m:jp)(a b:Nat):List Obj:=[tp [],fo [],fr n (p++n) st,cd n (p++n) l c a (a+2) b (b+3) .none .none,fn n (p++n) st m (a+3)]
abbrev dc(es:List DictEntry)(n:Nat):Obj:=⟨.type "dict",none,.dict ⟨es⟩ n,#[]⟩
abbrev bm(x:String)(v:jp):Obj:=⟨.type "builtin_function_or_method",none,.fields #[.builtin x,v],#[]⟩
abbrev gc(w:ul)(n:Str)(l:Nat)(m:jp)(a b:Nat):List Obj:=[tp [.ref 55],bm "type.__prepare__" (.type "type"),dc [en w "__module__" (b+7) m,en w "__qualname__" (b+9) (.str n (b+8)),en w "__firstlineno__" (b+11) (.int l (b+10)),en w "__static_attributes__" (b+12) (.ref (a+7))] 4,tp [],fo [],
 ⟨.type "code",none,.fields #[.str n (b+2),.str n (b+3),.str "/claim/cut.py" (b+4),.int l 0,.int 0 0,.int 0 0,.int 0 0,.int 0 0,.ref (a+3),.bool false,.int 181 0,.ref (a+4),.none,.none,.none,.none,.int (b+5:Nat) 0,.int l 0,.str "/claim/cut.py" (b+6)],#[]⟩,
 ⟨.type "frame",none,.plain,#[some (.ref (a+5)),some (.ref 3),some (.ref (a+2)),none,some m,none,some (.ref 0)]⟩,tp [],dc [en w "__module__" (b+7) m,en w "__firstlineno__" (b+11) (.int l (b+10)),en w "__static_attributes__" (b+12) (.ref (a+7)),en w "__doc__" (b+13) .none] 2,
 ⟨.type "type",none,.cls ⟨n,[.ref 55],[.ref (a+9),.ref 55,.type "ValueError",.type "Exception",.type "BaseException",.type "object"],a+8,n,true,[],[],false,none,false⟩,#[some (.ref a),none,some (.str n b),some (.str n (b+8)),some (.builtin "ValueError.__new__"),some (.bool true)]⟩,
 ⟨.type "super",none,.fields #[.ref (a+9),.ref (a+9),.ref (a+9)],#[]⟩,bm "object.__init_subclass__" (.ref (a+9))]
abbrev gi(w:ul)(n:Str)(st:uV)(l i:Nat)(vs d:List Str)(m:jp)(a b c:Nat):List Obj:=let t:=c+vs.length+5;let x:=t+1+d.length
 [tp [.ref 55],bm "type.__prepare__" (.type "type"),dc [en w "__module__" (b+7) m,en w "__qualname__" (b+9) (.str n (b+8)),en w "__firstlineno__" (b+11) (.int l (b+10)),en w "__init__" t (.ref (a+13)),en w "__static_attributes__" x (.ref (a+14))] 5,tp [],fo [.int i 0,.int 4 0,.ref (a+12)],
 ⟨.type "code",none,.fields #[.str n (b+2),.str n (b+3),.str "/claim/cut.py" (b+4),.int l 0,.int 0 0,.int 0 0,.int 0 0,.int 0 0,.ref (a+3),.bool false,.int 181 0,.ref (a+4),.none,.none,.none,.none,.int (b+5:Nat) 0,.int l 0,.str "/claim/cut.py" (b+6)],#[]⟩,
 ⟨.type "frame",none,.plain,#[some (.ref (a+5)),some (.ref 3),some (.ref (a+2)),none,some m,none,some (.ref 0)]⟩]++(g7 "__init__" (n++".") st i vs.length vs m (a+7) c++[tp (sv d (t+1)),dc [en w "__module__" (b+7) m,en w "__firstlineno__" (b+11) (.int l (b+10)),en w "__init__" t (.ref (a+13)),en w "__static_attributes__" x (.ref (a+14)),en w "__doc__" (x+1) .none] 2,
 ⟨.type "type",none,.cls ⟨n,[.ref 55],[.ref (a+16),.ref 55,.type "ValueError",.type "Exception",.type "BaseException",.type "object"],a+15,n,true,[],[],false,none,false⟩,#[some (.ref a),none,some (.str n b),some (.str n (b+8)),some (.builtin "ValueError.__new__"),some (.bool true)]⟩,
 ⟨.type "super",none,.fields #[.ref (a+16),.ref (a+16),.ref (a+16)],#[]⟩,bm "object.__init_subclass__" (.ref (a+16))])
abbrev m0:jp:=.str "belfry.marks" 187
abbrev m1:jp:=.str "belfry.askings" 217
abbrev m2:jp:=.str "belfry.errors" 235
abbrev L1(w:ul):List Obj:=g5 "made_of" "" (top 5) 6 2 m0 15 197 ++
(g7 "is_name" "" (top 6) 8 1 ["word"] m0 20 203 ++
(g7 "is_value" "" (top 7) 10 1 ["word"] m0 27 210 ++
(g5 "names_in" "" (top 9) 13 1 m1 34 219 ++
(g7 "values_beside" "" (top 10) 15 2 ["askings","name","values","asking"] m1 39 225 ++
([tp [.type "ValueError"],
bm "type.__prepare__" (.type "type"),
dc [en w "__module__" 244 m2,en w "__qualname__" 246 (.str "HouseError" 245),en w "__firstlineno__" 248 (.int (22) 247),en w "__static_attributes__" 249 (.ref 53)] 4,
tp [],
fo [],
⟨.type "code",none,(.fields #[.str "HouseError" 239,.str "HouseError" 240,.str "/claim/cut.py" 241,.int 22 0,.int 0 0,.int 0 0,.int 0 0,.int 0 0,.ref 49,.bool false,.int 181 0,.ref 50,.none,.none,.none,.none,.int 242 0,.int 22 0,.str "/claim/cut.py" 243]),#[]⟩,
⟨.type "frame",none,.plain,#[(some (.ref 51)),(some (.ref 3)),(some (.ref 48)),none,(some m2),none,(some (.ref 0))]⟩,
tp [],
dc [en w "__module__" 244 m2,en w "__firstlineno__" 248 (.int (22) 247),en w "__static_attributes__" 249 (.ref 53),en w "__weakref__" 251 (.ref 56),en w "__doc__" 252 .none] 3,
⟨.type "type",none,(.cls ⟨"HouseError",[.type "ValueError"],[.ref 55,.type "ValueError",.type "Exception",.type "BaseException",.type "object"],54,"HouseError",true,[],[.ref 75,.ref 87,.ref 99,.ref 111,.ref 123,.ref 135,.ref 154,.ref 173],false,none,false⟩),#[(some (.ref 46)),none,(some (.str "HouseError" 237)),(some (.str "HouseError" 245)),(some (.builtin "ValueError.__new__")),(some (.bool true))]⟩,
⟨.type "getset_descriptor",none,(.fields #[.str "__weakref__" 250,.ref 55,.builtin "ExceptionGroup.__weakref__",.none]),#[]⟩,
⟨.type "super",none,(.fields #[.ref 55,.ref 55,.ref 55]),#[]⟩,
bm "object.__init_subclass__" (.ref 55)] ++
(gi w "BadWord" (mem 13 0) 24 26 ["self","at"] ["at"] m2 59 255 267 ++
(gc w "NoPlace" 28 m2 78 280 ++
(gc w "Late" 30 m2 90 296 ++
(gc w "Twice" 32 m2 102 312 ++
(gc w "Unknown" 34 m2 114 328 ++
(gc w "NoStretch" 36 m2 126 344 ++
(gi w "BadLine" (mem 19 0) 38 40 ["self","at"] ["at"] m2 138 360 372 ++
(gi w "BadTree" (mem 20 0) 42 44 ["self","row","at"] ["at","row"] m2 157 385 397)))))))))))))
abbrev S(w:ul)(s₀:kt):kt:={ s₀ with toks:=412,heap:={ s₀.heap with objs:=⟨[s₀.heap.objs.getD 0 default,
s₀.heap.objs.getD 1 default,
s₀.heap.objs.getD 2 default,
dc [en w "__name__" 165 m2,en w "__doc__" 166 .none,en w "__package__" 167 .none,en w "__loader__" 168 (.builtin "__main__.__loader__#opaque"),en w "__spec__" 169 .none,en w "__annotations__" 170 (.ref 6),en w "__builtins__" 171 (.ref 4),en w "__file__" 173 (.str "/claim/cut.py" 172),en w "__cached__" 174 .none,en w "LETTERS" 190 (.str "abcdefghijklmnopqrstuvwxyz" 189),en w "FIGURES" 192 (.str "0123456789" 191),en w "LONGEST_NAME" 194 (.int (8) 193),en w "LONGEST_VALUE" 196 (.int (12) 195),en w "made_of" 202 (.ref 19),en w "is_name" 209 (.ref 26),en w "is_value" 216 (.ref 33),en w "names_in" 224 (.ref 38),en w "values_beside" 234 (.ref 45),en w "HouseError" 254 (.ref 55),en w "BadWord" 279 (.ref 75),en w "NoPlace" 295 (.ref 87),en w "Late" 311 (.ref 99),en w "Twice" 327 (.ref 111),en w "Unknown" 343 (.ref 123),en w "NoStretch" 359 (.ref 135),en w "BadLine" 384 (.ref 154),en w "BadTree" 411 (.ref 173)] 27,
s₀.heap.objs.getD 4 default,
s₀.heap.objs.getD 5 default,
s₀.heap.objs.getD 6 default,
s₀.heap.objs.getD 7 default,
s₀.heap.objs.getD 8 default,
s₀.heap.objs.getD 9 default,
s₀.heap.objs.getD 10 default,
tp [],
fo [.int 6 0,.int 0 0,.ref 18,.int 8 0,.int 0 0,.ref 25,.int 10 0,.int 0 0,.ref 32,.int 13 0,.int 0 0,.ref 37,.int 15 0,.int 0 0,.ref 44,.int 22 0,.int 0 0,.ref 51,.int 24 0,.int 0 0,.ref 64,.int 28 0,.int 0 0,.ref 83,.int 30 0,.int 0 0,.ref 95,.int 32 0,.int 0 0,.ref 107,.int 34 0,.int 0 0,.ref 119,.int 36 0,.int 0 0,.ref 131,.int 38 0,.int 0 0,.ref 143,.int 42 0,.int 0 0,.ref 162],
⟨.type "code",none,(.fields #[.str "<module>" 182,.str "<module>" 183,.str "/claim/cut.py" 184,.int 1 0,.int 0 0,.int 0 0,.int 0 0,.int 0 0,.ref 11,.bool false,.int 181 0,.ref 12,.none,.none,.none,.none,.int 185 0,.int 1 0,.str "/claim/cut.py" 186]),#[]⟩,
⟨.type "frame",none,.plain,#[(some (.ref 13)),(some (.ref 3)),(some (.ref 3)),none,(some (.str "__main__" 164)),none,(some (.ref 0))]⟩]++L1 w⟩ } }
abbrev ev:Env:={ scope:=PP.main.scope,locals:=mainNs,globals:=mainNs,cells:=[],code:=.ref 13,frame:=some 14 }
abbrev tl(rest:List uV):Sem Fin:=do return .done (<- (execs rest ev).onRaise (leaving ev))
abbrev TT(i:Nat)(q:Pos)(w:ul)(s₀:kt):Thread:=⟨tl (PP.main.body.drop i),.body (behindTheImports PP) ev,q,match goN treeTable PP w s₀.heap.objs.size (s₀.heap.nsMap mainGlobals "__annotations__") 12 s₀ (topStub PP) with
 |some x=>x.2.stack
 |none=>[]⟩
noncomputable abbrev T:=TT 21 ⟨42,0,46,20⟩
noncomputable abbrev gg(w:ul) (s₀:kt):=goN treeTable PP w s₀.heap.objs.size (s₀.heap.nsMap mainGlobals "__annotations__")
set_option maxRecDepth 100000 in
set_option maxHeartbeats 0 in
def PK(w:ul):(fencedOpening treeTable PP w 20000).map (λ s₀=>gg w s₀ 2205 s₀ (topStub PP))=(fencedOpening treeTable PP w 20000).map (λ s₀=>some (S w s₀,T w s₀)):=by kernel_rfl
noncomputable abbrev Pr(w:ul) (s₀:kt):Option kt:=topRun treeTable PP w s₀.heap.objs.size (s₀.heap.nsMap mainGlobals "__annotations__") 17795 (S w s₀) (T w s₀)
noncomputable abbrev sn(s:kt):=openSeen Law.vw [("SIGN_OF":Str)] (importedModules Law.pG.row.prog.main.body) (λ s=>xlAt Law.vw [] s&&recOk (RowW.records (OpenRow.toRowW Law.pG.row)) s) true s
noncomputable abbrev ho(s:kt):=(Law.Rq ("SIGN_OF":Str) s,Law.Se s)
noncomputable abbrev hv(w:ul):=(Law.Rp [(("is":Str),("=":Str)),(("no":Str),("!":Str)),(("there":Str),("+":Str)),(("lacks":Str),("-":Str))] w,Law.Sd)
noncomputable abbrev WF(w:ul) (b:Bool):=World.withFollow w "special-get-raises" b
noncomputable abbrev GG:=openGood Law.vw [("SIGN_OF":Str)]
noncomputable abbrev oA(s₀ a:kt):=(s₀.heap.isNs mainGlobals&&s₀.gens.size==0&&(staticsOk (importedModules PP.main.body) s₀.heap a.heap&&namesBound PP a.heap&&gensDone a&&laidKept s₀.heap a.heap))
noncomputable abbrev Ob(w:ul):=(fencedOpening treeTable PP w 20000).map (λ s₀=>(Pr w s₀).map λ a=>(oA s₀ a,sn a,ho a))=some (some (true,GG,hv w))
set_option maxRecDepth 100000 in
set_option maxHeartbeats 0 in
def JK(w:ul):Ob (WF w false):=by kernel_rfl
set_option maxRecDepth 100000 in
set_option maxHeartbeats 0 in
def NN(w:ul):Ob (WF w true):=by kernel_rfl
end Law
end
namespace L2
open PySem PySem.Spec PyProof.Rows
@[reducible]noncomputable def Key:=Sum Int Str
abbrev mP:Key->jp->Bool
 |.inl k,v=>Value.isInt k v
 |.inr x,v=>Value.isStrOf x v
abbrev JW(w:ul):Key->Int
 |.inl k=>hashInt k
 |.inr x=>hashStr w x
def cy:∀{k:Key} {v:jp},mP k v=true->(∃i t,k=Sum.inl i/\v=Value.int i t)\/(∃x t,k=Sum.inr x/\v=Value.str x t)
 |.inl i,v,h=>by
  let⟨t,e⟩:=Value.isInt_shape (k:=i) (v:=v) h;exact .inl ⟨i,t,rfl,e⟩
 |.inr x,v,h=>by
  let⟨t,e⟩:=Value.isStrOf_shape (x:=x) (v:=v) h;exact .inr ⟨x,t,rfl,e⟩
def Hi(i:Int)(t:Tok):mP (.inl i) (.int i t)=true:=by simp[mP,Value.isInt]
def Hh(x:Str)(t:Tok):mP (.inr x) (.str x t)=true:=by simp[mP,Value.isStrOf]
def Qv(a b:Int):decide ((Sum.inl a:Key)=Sum.inl b)=(a==b):=by
 by_cases e:a=b
 ·subst e;simp
 ·have h:¬ (Sum.inl a:Key)=Sum.inl b:=λ q=>e (Sum.inl.inj q)
  rw[zzA h];exact(zzF.mpr e).symm
def Qs(a b:Str):decide ((Sum.inr a:Key)=Sum.inr b)=decide (a=b):=by
 by_cases e:a=b
 ·subst e;simp
 ·have h:¬ (Sum.inr a:Key)=Sum.inr b:=λ q=>e (Sum.inr.inj q)
  rw[zzA h,zzA e]
def Qu(a:Int)(b:Str):decide ((Sum.inl a:Key)=Sum.inr b)=false:=zzA (λ q=>nomatch q)
def Qt(a:Str)(b:Int):decide ((Sum.inr a:Key)=Sum.inl b)=false:=zzA (λ q=>nomatch q)
abbrev aN(prog:uf)(w:ul):PySem.KeyKind prog w Key where
 is:=mP
 hash:=JW w
 inj:=λ v a b d c=>by
  rcases cy d with ⟨i,t,rfl,rfl⟩|⟨x,t,rfl,rfl⟩
  ·rcases cy c with ⟨j,u,rfl,e⟩|⟨y,u,rfl,e⟩
   ·injection e with e1 _;rw[e1]
   ·exact nomatch e
  ·rcases cy c with ⟨j,u,rfl,e⟩|⟨y,u,rfl,e⟩
   ·exact nomatch e
   ·injection e with e1 _;rw[e1]
 byValue:=λ k v h=>by
  rcases cy h with ⟨i,t,rfl,rfl⟩|⟨x,t,rfl,rfl⟩ <;> rfl
 pyHash:=λ hv h=>by
  rcases cy hv with ⟨i,t,rfl,rfl⟩|⟨x,t,rfl,rfl⟩
  ·exact wpAny_pyHash_int h
  ·exact wpAny_pyHash_str h
 eqBool:=λ hu hv h=>by
  rcases cy hu with ⟨i,t,rfl,rfl⟩|⟨x,t,rfl,rfl⟩
  ·rcases cy hv with ⟨j,u,rfl,rfl⟩|⟨y,u,rfl,rfl⟩
   ·rw[Qv]at h;exact wpAny_eqBool_int h
   ·rw[Qu]at h;exact SeqAt.EqAt.int_str i t y u _ _ _ _ h
  ·rcases cy hv with ⟨j,u,rfl,rfl⟩|⟨y,u,rfl,rfl⟩
   ·rw[Qt]at h;exact SeqAt.EqAt.str_int x t j u _ _ _ _ h
   ·rw[Qs]at h;exact wpAny_eqBool_str h
 «strs»:=λ k x t v h=>by
  rcases cy h with ⟨i,u,rfl,e⟩|⟨y,u,rfl,e⟩
  ·exact nomatch e
  ·injection e with e1 _
   subst e1;cases v <;> rfl
def BY(prog:uf)(w:ul)(i:Int)(t:Tok):(aN prog w).is (.inl i) (.int i t)=true:=Hi i t
def eO(prog:uf)(w:ul)(x:Str)(t:Tok):(aN prog w).is (.inr x) (.str x t)=true:=Hh x t
inductive V where
 |non|bl (b:Bool)|int (i:Int)|str (x:Str)|byt (b:Array UInt8)|flt (b:UInt64)|ref (a:uc)|ty (n:String)
 deriving DecidableEq
abbrev RelV:V->jp->Prop
 |.non,u=>u=Value.none
 |.bl b,u=>u=Value.bool b
 |.int i,u=>∃t,u=Value.int i t
 |.str x,u=>∃t,u=Value.str x t
 |.byt b,u=>∃t,u=Value.bytes b t
 |.flt b,u=>∃t,u=Value.float b t
 |.ref a,u=>u=Value.ref a
 |.ty n,u=>u=Value.type n
@[reducible]noncomputable def Vals:List V->List jp->Prop:=Paired RelV
def Vals.length(r:Vals xs us):xs.length=us.length:=Paired.length r
def Vals.get:∀{xs:List V} {us:List jp} {i:Nat} {x:V},Vals xs us->xs[i]?=some x->∃u,us[i]?=some u/\RelV x u
 |_,_,_,_,.nil,e=>by simp at e
 |_,_,0,_,.cons r _,e=>by simp at e;subst e;exact⟨_,rfl,r⟩
 |_,_,i+1,x,.cons _ t,e=>by
  let⟨u,b,a⟩:=Vals.get (i:=i) (x:=x) t (by simpa using e);exact⟨u,by simpa using b,a⟩
def Vals.set(r:RelV x u):∀{xs:List V} {us:List jp} (i:Nat),Vals xs us->Vals (xs.set i x) (us.set i u)
 |_,_,_,.nil=>.nil
 |_,_,0,.cons _ t=>.cons r t
 |_,_,i+1,.cons q t=>.cons q (Vals.set r i t)
def Vals.append:∀{xs ys:List V} {us ws:List jp},Vals xs us->Vals ys ws->Vals (xs++ys) (us++ws)
 |_,_,_,_,.nil,s=>s
 |_,_,_,_,.cons r t,s=>.cons r (Vals.append t s)
def Vals.take:∀{xs:List V} {us:List jp} (n:Nat),Vals xs us->Vals (xs.take n) (us.take n)
 |_,_,0,_=>.nil
 |_,_,_+1,.nil=>.nil
 |_,_,n+1,.cons r t=>.cons r (Vals.take n t)
def Vals.drop:∀{xs:List V} {us:List jp} (n:Nat),Vals xs us->Vals (xs.drop n) (us.drop n)
 |_,_,0,r=>r
 |_,_,_+1,.nil=>.nil
 |_,_,n+1,.cons _ t=>Vals.drop n t
abbrev jK:Option V->Option jp->Prop
 |some v,some u=>RelV v u
 |none,none=>True
 |_,_=>False
abbrev KV{κ:Type}:List (κ×V)->List (κ×jp)->Prop:=Paired λ (p:κ×V) (q:κ×jp)=>p.1=q.1/\RelV p.2 q.2
abbrev kV:Key->V
 |.inl i=>.int i
 |.inr x=>.str x
inductive HO where
 |lst (xs:List V)
 |tup (xs:List V)
 |dK (kvs:List (Key×V))|dT (kvs:List (List Key×V))
 |set (S:Int->Bool) (n:Nat)
 |ins (C dx:uc) (fs:List (Str×V))
 |own (x:uc)
 |xd (fs:List (Str×V))
 |met (f x:uc)
 |rng (lo hi:Int)
 |frz (o:Obj) (u:HO)
 |tbl (ps:Array jp)
 |ext (φ:Heap->Prop)
@[reducible]noncomputable def Hp:=uc->Option HO
abbrev upd(H:Hp)(a:uc)(o:HO):Hp:=λ b=>if b=a then some o else H b
def aV:upd H a o a=some o:=by unfold upd;rw[if_pos rfl]
def ar(h:b≠a):upd H a o b=H b:=by unfold upd;rw[if_neg h]
def rT:upd (upd H a o) a u=upd H a u:=by
 funext b;unfold upd;split <;> rfl
def k8{H:Hp}{a b:uc}{o u:HO}(h:H a=some o)(h':H b=some u)(d:o≠u):a≠b:=by
 intro e;subst e;rw[h]at h';exact d (Option.some.inj h')
def bD{H:Hp}{a b:uc}{o:HO}(h:H a=some o)(h':H b=none):a≠b:=by
 intro e;subst e;rw[h]at h';cases h'
abbrev nj(h:Heap)(a:uc)(items:Array jp):Prop:=IsTup h a items/\∀o,h.get? a=some o->o.dict=none/\o.slots=#[]
def nj.new(h:Heap)(items:Array jp):nj (h.push { cls:=.type "tuple",data:=.seq items }) h.objs.size items:=⟨IsTup.new _ _,λ o e=>by
 rw[zC _ rfl]at e;cases e;exact⟨rfl,rfl⟩⟩
section
variable (P:uf)(w:ul)
abbrev bV(H:Hp)(h:Heap)(a:uc):HO->Prop
 |.lst d=>d.length<=zi/\∃(c:List jp) (n:Nat),Vals d c/\h.get? a=some { cls:=.type "list",data:=.seq c.toArray n }
 |.tup d=>d.length<=zi/\∃c:List jp,Vals d c/\nj h a c.toArray
 |.dK b=>b.length<=zi/\(a==sysModules)=false/\∃vs,KV b vs/\h.DictOf (aN P w) a vs
 |.dT b=>b.length<=zi/\(a==sysModules)=false/\∃d:List (List Key×uc×jp),
   Paired (λ (p:List Key×V) (q:List Key×uc×jp)=>p.1=q.1/\H q.2.1=some (.tup (p.1.map kV))/\RelV p.2 q.2.2) b d /\
   ∃o k l,h.get? a=some o/\o.ExactDict/\o.data=.dict k l/\k.toList=d.map (entryOfKey (tupleKind (aN P w)))/\(d.map (·.1)).Nodup
 |.set S n=>h.SetOf (intKind P w) a S n
 |.ins C g fs=>H g=some (.own a)/\fs.length<=1000/\g≠a/\h.get? a=some (PySem.W.instObj C g) /\
   ∃e,h.Ns1 g e/\(∀f,jK (fs.lookup f) (e f))/\PySem.Within e (fs.map (·.1))
 |.own _=>∃o,h.get? a=some o
 |.xd fs=>∃e,h.Ns1 a e/\∀f,jK (fs.lookup f) (e f)
 |.rng lo hi=>∃t u v,h.get? a=some { cls:=.type "range",data:=.fields #[.int lo t,.int hi u,.int 1 v] }
 |.frz o u=>h.get? a=some o/\bV H h a u
 |.tbl ps=>h.get? a=some { cls:=.none,data:=.fields ps }
 |.met f x=>h.get? a=some (Y_ (.ref f) (.ref x))
 |.ext φ=>φ h/\(∃o,h.get? a=some o)/\∀j i:Heap,φ j->(∀o,j.get? a=some o->i.get? a=some o)->φ i
abbrev cV(H:Hp)(h:Heap):Prop:=∀a o,H a=some o->bV P w H h a o
end
section
variable {P:uf}{w:ul}{H H':Hp}{h h':Heap}{a:uc}{o:HO}
def bV.lt(x:bV P w H h a o):a<h.objs.size:=by
 cases o with
 |lst c=>let⟨_,_,_,_,e⟩:=x;exact zg e
 |tup c=>let⟨_,_,_,p,_⟩:=x;exact p.lt
 |dK b=>let⟨_,_,_,_,o,_,_,e,_⟩:=x;exact zg e
 |dT b=>let⟨_,_,_,_,o,_,_,e,_⟩:=x;exact zg e
 |set S n=>let⟨o,_,_,_,e,_⟩:=x;exact zg e
 |ins C d fs=>let⟨_,_,_,e,_⟩:=x;exact zg e
 |own y=>let⟨_,e⟩:=x;exact zg e
 |xd fs=>obtain⟨_,⟨_,_,_,e,_⟩,_⟩:=x;exact zg e
 |rng lo hi=>let⟨_,_,_,e⟩:=x;exact zg e
 |frz ob u=>let⟨e,_⟩:=x;exact zg e
 |tbl ps=>exact zg (show h.get? a=some _ from x)
 |met f y=>exact zg (show h.get? a=some _ from x)
 |ext φ=>obtain⟨_,⟨_,e⟩,_⟩:=x;exact zg e
def Paired.E3{α β:Type}{F G:α->β->Prop}:∀{l₁:List α} {l₂:List β},Paired F l₁ l₂->(∀a b,F a b->G a b)->Paired G l₁ l₂
 |_,_,.nil,_=>.nil
 |_,_,.cons r t,f=>.cons (f _ _ r) (Paired.E3 t f)
def bV.ku(x:bV P w H h a o)(k:∀b u,(b=a\/H b=some (.own a))->h.get? b=some u->h'.get? b=some u)
  (ho:∀b,H b=some (.own a)->H' b=some (.own a)) (D:∀b xs,H b=some (.tup xs)->H' b=some (.tup xs)):bV P w H' h' a o:=by
 induction o with
 |lst xs=>let⟨z,j,n,r,e⟩:=x;exact⟨z,j,n,r,k _ _ (.inl rfl) e⟩
 |tup xs =>
  obtain⟨z,j,r,⟨ob,e,c⟩,d⟩:=x;have A:=k _ _ (.inl rfl) e;exact⟨z,j,r,⟨ob,A,c⟩,λ o q=>by rw[A]at q;cases q;exact d _ e⟩
 |dK s=>let⟨z,y,vs,r,ob,g,i,e,c⟩:=x;exact⟨z,y,vs,r,ob,g,i,k _ _ (.inl rfl) e,c⟩
 |dT s =>
  let⟨z,y,xs,r,ob,g,i,e,c⟩:=x;exact⟨z,y,xs,Paired.E3 r λ p q z=>⟨z.1,D _ _ z.2.1,z.2.2⟩,ob,g,i,k _ _ (.inl rfl) e,c⟩
 |set S n=>let⟨ob,g,i,t,e,c⟩:=x;exact⟨ob,g,i,t,k _ _ (.inl rfl) e,c⟩
 |ins C F fs =>
  obtain⟨d,z,ne,e,m,⟨l,g,i,E,c⟩,r⟩:=x;exact⟨ho _ d,z,ne,k _ _ (.inl rfl) e,m,⟨l,g,i,k _ _ (.inr d) E,c⟩,r⟩
 |own y=>let⟨ob,e⟩:=x;exact⟨ob,k _ _ (.inl rfl) e⟩
 |xd fs=>obtain⟨m,⟨l,g,i,e,c⟩,r⟩:=x;exact⟨m,⟨l,g,i,k _ _ (.inl rfl) e,c⟩,r⟩
 |rng lo hi=>let⟨t,u,v,e⟩:=x;exact⟨t,u,v,k _ _ (.inl rfl) e⟩
 |frz ob u B=>let⟨e,q⟩:=x;exact⟨k _ _ (.inl rfl) e,B q⟩
 |tbl ps =>
  have e:h.get? a=some { cls:=.none,data:=.fields ps }:=x;show h'.get? a=some { cls:=.none,data:=.fields ps };exact k a _ (.inl rfl) e
 |met f y =>
  have e:h.get? a=some (Y_ (.ref f) (.ref y)):=x;show h'.get? a=some (Y_ (.ref f) (.ref y));exact k a _ (.inl rfl) e
 |ext φ=>obtain⟨p,⟨o,e⟩,st⟩:=x;exact⟨st _ _ p λ o q=>k _ _ (.inl rfl) q,⟨o,k _ _ (.inl rfl) e⟩,st⟩
def cV.lt(x:cV P w H h)(e:H a=some o):a<h.objs.size:=(x a o e).lt
def cV.fresh(x:cV P w H h)(e:h.objs.size<=a):H a=none:=by
 cases q:H a with
 |none=>rfl
 |some u=>exact absurd (ze (x.lt q) e) (yg _)
def cV.kept(x:cV P w H h)(k:∀b u,h.get? b=some u->h'.get? b=some u):cV P w H h':=λ a o e =>
 (x a o e).ku (λ b u _ q=>k b u q) (λ _ q=>q) λ _ _ q=>q
def cV.laid(x:cV P w H h)(k:∀b u,h.get? b=some u->h'.get? b=some u)(g:h.objs.size<=a)(new:bV P w (upd H a o) h' a o):cV P w (upd H a o) h':=λ b u e=>by
 have d:=x.fresh g;by_cases f:b=a
 ·subst f;rw[aV]at e;cases e;exact new
 ·rw[ar f]at e
  exact(x b u e).ku (λ c v _ q=>k c v q) (λ c q=>by rw[ar (bD q d)];exact q) λ c i q=>by rw[ar (bD q d)];exact q
end
abbrev Rd(H:Hp)(a:uc)(u:HO):Prop:=H a=some u\/∃o,H a=some (.frz o u)
def Rd.ok(r:Rd H a u)(x:cV P w H h):bV P w H h a u:=by
 rcases r with r|⟨o,r⟩
 ·exact x a u r
 ·let⟨_,q⟩:=x a _ r
  exact q
abbrev II:Option HO->Prop
 |some (.lst _)=>True
 |some (.dK _)=>True
 |some (.dT _)=>True
 |some (.set _ _)=>True
 |some (.ins _ _ _)=>True
 |some (.ext _)=>True
 |_=>False
section
variable {P:uf}{w:ul}{H:Hp}{h h':Heap}{x e:uc}{o':HO}
def cV.write(ok:cV P w H h)(i:II (H x))(he:e=x\/H e=some (.own x))(k:∀b u,b≠e->h.get? b=some u->h'.get? b=some u)(m:∃u,h'.get? e=some u)
  (new:bV P w (upd H x o') h' x o'):cV P w (upd H x o') h':=λ b u q=>by
 have a:∀c y,H c=some (.own y)->c≠x:=λ c y r z=>by subst z;rw[r]at i;exact i
 have d:∀c f,H c=some (.tup f)->c≠x:=λ c f r z=>by subst z;rw[r]at i;exact i
 by_cases j:b=x
 ·subst j;rw[aV]at q;cases q;exact new
 ·rw[ar j]at q
  by_cases g:b=e
  ·have l:H b=some (.own x):=by
    rcases he with z|z
    ·exact absurd (g.trans z) j
    ·rw[g];exact z
   rw[q]at l;cases l;let⟨v,hv⟩:=m;exact⟨v,by rw[g];exact hv⟩
  ·refine(ok b u q).ku (λ c v hc r=>k c v ?_ r) (λ c r=>by rw[ar (a c b r)];exact r) λ c f r=>by rw[ar (d c f r)];exact r
   rcases hc with rfl|hc
   ·exact g
   ·rintro rfl
    rcases he with z|z
    ·exact a c b hc z
    ·rw[hc]at z;cases z;exact j rfl
end
structure Un (fs ex:List uc) (H H':Hp) (h h':Heap):Prop where
 keep:∀b o,h.get? b=some o->H b=none->b ∉ fs->b ∉ ex->h'.get? b=some o
 slot:∀b o,h.get? b=some o->H b=none->b∈fs->b ∉ ex->∃sl,h'.get? b=some { o with slots:=sl }
 free:∀b o,h.get? b=some o->H b=none->b ∉ ex->H' b=none
 there:∀b o,h.get? b=some o->b ∉ ex->∃o',h'.get? b=some o'
 jB:∀b xs,H b=some (.tup xs)->H' b=some (.tup xs)
 iG:∀b o u,H b=some (.frz o u)->H' b=some (.frz o u)
 jD:∀b ps,H b=some (.tbl ps)->∃more,H' b=some (.tbl (ps++more))
section
variable {fs fs' ex ex':List uc}{H H1 H2:Hp}{h h1 h2 h':Heap}{a x e:uc}{o:HO}
def Un.any(u:Un fs ex H H1 h h1)(q:h.get? b=some ob)(n:H b=none)(hx:b ∉ ex):∃d,h1.get? b=some { ob with slots:=d }:=by
 by_cases c:b∈fs
 ·exact u.slot b ob q n c hx
 ·exact⟨ob.slots,u.keep b ob q n c hx⟩
def Un.kept(k:∀b u,h.get? b=some u->h'.get? b=some u):Un fs ex H H h h' :=
 ⟨λ b ob q _ _ _=>k b ob q,λ b ob q _ _ _=>⟨ob.slots,k b ob q⟩,λ _ _ _ n _=>n,λ b ob q _=>⟨ob,k b ob q⟩,λ _ _ q=>q,λ _ _ _ q=>q,λ _ ps q=>⟨#[],by rw[q];simp⟩⟩
def Un.refl:Un fs ex H H h h:=Un.kept λ _ _ q=>q
def Un.laid(k:∀b u,h.get? b=some u->h'.get? b=some u)(f:h.objs.size<=a)(c:H a=none):Un fs ex H (upd H a o) h h' where
 keep:=λ b u q _ _ _=>k b u q
 slot:=λ b u q _ _ _=>⟨u.slots,k b u q⟩
 free:=λ b u q n _=>by rw[ar (zF (ze (zg q) f))];exact n
 there:=λ b u q _=>⟨u,k b u q⟩
 jB:=λ b d q=>by rw[ar (bD q c)];exact q
 iG:=λ b u d q=>by rw[ar (bD q c)];exact q
 jD:=λ b ps q=>⟨#[],by rw[ar (bD q c),q];simp⟩
def Un.write(c:II (H x))(he:e=x\/H e=some (.own x))(k:∀b u,b≠e->h.get? b=some u->h'.get? b=some u)(j:∃u,h'.get? e=some u):Un fs ex H (upd H x o) h h':=by
 have hx:∀b,H b=none->b≠x:=λ b n z=>by subst z;rw[n]at c;exact c
 have g:∀b,H b=none->b≠e:=λ b n z=>by
  subst z;rcases he with r|r
  ·exact hx b n r
  ·rw[n]at r;cases r
 have d:∀b u,H b=some u->¬ II (some u)->b≠x:=λ b u q nm z=>by subst z;rw[q]at c;exact nm c
 refine⟨λ b u q n _ _=>k b u (g b n) q,λ b u q n _ _=>⟨u.slots,k b u (g b n) q⟩,λ b u q n _=>by rw[ar (hx b n)];exact n,λ b u q _=>?_,
  λ b i q=>by rw[ar (d b _ q λ z=>z)];exact q,λ b u i q=>by rw[ar (d b _ q λ z=>z)];exact q,λ b ps q=>⟨#[],by rw[ar (d b _ q λ z=>z),q];simp⟩⟩
 by_cases f:b=e
 ·subst f;exact j
 ·exact⟨u,k b u f q⟩
end
abbrev KP(h:Heap)(H:Hp):List uc:=(List.range h.objs.size).filter λ a=>(H a).isSome
abbrev mW(h:Heap)(H:Hp):Heap:=PySem.W.hideAll h (KP h H)
def HE(h:Heap)(H:Hp):(mW h H).objs.size=h.objs.size:=PySem.W.hideAll_size _ _
def J4(e:h.get? b=some o)(n:H b=none):(mW h H).get? b=some o :=
 PySem.W.hideAll_get _ e λ a=>by
  have q:(H b).isSome=true:=(vj.mp a).2;rw[n]at q;simp at q
def NM(e:(mW h H).get? b=some o):h.get? b=some o/\H b=none:=by
 have a:h.get? b=some o:=PySem.W.of_hideAll (KP h H) e;exists a;cases q:H b with
 |none=>rfl
 |some x =>
  have c:b∈KP h H:=vj.mpr ⟨xK.mpr (zg a),by simp[q]⟩;have z:(mW h H).get? b=none:=PySem.W.hideAll_none (KP h H) c;rw[z]at e;cases e
structure Mod (K:Q_) (mg:Str->Option jp) (base:Heap):Prop where
 Lz:K.In base
 glob:base.Ns mainGlobals mg
 blt:∃mb,base.Ns builtinsNs mb/\∀x:Str,x≠"__name__"->mb x=bootBuiltins x
 nolimit:base.NoLimit
structure Cx where
 prog:uf
 w:ul
 K:Q_
 mg:Str->Option jp
 base:Heap
 A:ut
 N:List Str
 s₀:kt
 H₀:Hp
 env:Env
 outer:List Env
 stack:List Env
 ex:List uc
 fn:Str->Bool
 calm:Bool
 pn:List (uc×Obj)
 xe:jp->kt->Prop
abbrev gB(l:List Env):List uc:=l.filterMap (·.frame)
@[reducible]noncomputable def Cx.fs(X:Cx):List uc:=gB X.outer
abbrev IB(sc:Scope)(x:Str):Prop:=sc.names.lookup x=some .local\/sc.names.lookup x=some .cell\/sc.names.lookup x=some .free
abbrev Loc(sc:Scope)(x:Str):Prop:=sc.names.lookup x=some .local\/sc.names.lookup x=some .cell
abbrev Look(env:Env)(h:Heap)(m:Str->Option jp)(x:Str)(u:jp):Prop :=
 (env.kindOf x=some .local/\m x=some u)\/((env.kindOf x=some .cell\/env.kindOf x=some .free)/\∃c,env.cells.lookup x=some c/\h.IsCell c (some u))
structure Cx.Ok (X:Cx):Prop where
 mod:Mod X.K X.mg X.base
 kind:X.env.scope.kind=.function
 glob:X.env.globals=mainGlobals
 blt:X.env.builtins=builtinsNs
 above:X.s₀.heap.objs.size<=X.env.locals
 inj:∀x y c,X.env.cells.lookup x=some c->X.env.cells.lookup y=some c->x=y
 has:∀x,(X.env.kindOf x=some .cell\/X.env.kindOf x=some .free)->∃c,X.env.cells.lookup x=some c
 ub:∀x c,X.fn x=true->X.env.cells.lookup x=some c->X.s₀.heap.objs.size<=c
 hd:X.calm=true->X.A.handled=none
 frames:X.A.frames=some X.stack
 vQ:X.stack=X.outer\/(X.stack=X.env::X.outer/\X.env.frame=some X.env.locals)
 HW:∀b∈X.ex,b≠X.env.locals/\∀x c,X.env.cells.lookup x=some c->c≠b
 bs:∀b o,X.base.get? b=some o->X.s₀.heap.get? b=some o/\X.H₀ b=none
 nz:X.base.objs.size<=X.s₀.heap.objs.size
 n8:∀b o,X.base.get? b=some o->b ∉ X.ex
 qj:∀b∈X.ex,b ∉ X.fs
 fm:X.s₀.heap.FunFrames X.base X.outer
 pU:∀b∈X.fs,X.H₀ b=none
structure Inv (X:Cx) (XV:List (uc×Obj)) (σ:List (Option V)) (H:Hp) (s:kt):Prop where
 ok:X.Ok
 os:s.os=X.s₀.os
 bare:AllBare s.gens
 base:Un X.fs X.ex X.H₀ H X.s₀.heap s.heap
 loc:∃m,s.heap.Ns X.env.locals m/\∀(i:Nat) (x:Str) (v:V),X.N[i]?=some x->σ[i]?=some (some v)->IB X.env.scope x->∃u,RelV v u/\Look X.env s.heap m x u
 cell:∀x c,X.env.cells.lookup x=some c->∃v,s.heap.IsCell c v
 free:H X.env.locals=none
 c9:∀x c,X.env.cells.lookup x=some c->H c=none
 pin:∀p∈X.pn++XV,s.heap.get? p.1=some p.2/\H p.1=none/\p.1≠X.env.locals/\p.1 ∉ X.fs/\∀v,p.2.data≠.cell v
 hok:cV X.prog X.w H s.heap
 len:σ.length=X.N.length
section
variable {X:Cx}{XV:List (uc×Obj)}{σ:List (Option V)}{H H':Hp}{s:kt}{h':Heap}
def Cx.Ok.VN(ok:X.Ok)(e:X.base.get? b=some o):b ∉ X.fs:=λ a=>by
 have:=(ok.fm.mem a).1
 rw[e]at this;cases this
def Inv.bs(I:Inv X XV σ H s):∀b o,X.base.get? b=some o->s.heap.get? b=some o/\H b=none:=λ b o e =>
 ⟨I.base.keep b o (I.ok.bs b o e).1 (I.ok.bs b o e).2 (I.ok.VN e) (I.ok.n8 b o e),I.base.free b o (I.ok.bs b o e).1 (I.ok.bs b o e).2 (I.ok.n8 b o e)⟩
def Inv.bk(I:Inv X XV σ H s):∀b o,X.base.get? b=some o->s.heap.get? b=some o:=λ b o e=>(I.bs b o e).1
def Inv.mod(I:Inv X XV σ H s):Mod X.K X.mg X.base:=I.ok.mod
def Inv.eB(I:Inv X XV σ H s):X.K.In s.heap:=I.ok.mod.Lz.keeps I.bk
def Inv.lt(I:Inv X XV σ H s):X.env.locals<s.heap.objs.size:=let ⟨_,a,_⟩:=I.loc;a.lt
def Inv.sz(I:Inv X XV σ H s):X.s₀.heap.objs.size<=s.heap.objs.size:=zG I.ok.above (ww I.lt)
def Inv.VM(I:Inv X XV σ H s){a:uc}(h:s.heap.objs.size<=a):a ∉ X.fs:=λ b=>by
 let⟨_,o,ho,_⟩:=I.ok.fm.mem b;exact absurd (ze (zg ho) (zG I.sz h)) (yg _)
def Inv.oo(I:Inv X XV σ H s):∀x c,X.env.cells.lookup x=some c->c≠X.env.locals:=λ x c e z=>by
 let⟨v,o,ho,hd⟩:=I.cell x c e;obtain⟨m,⟨d,f,g,a,b,_⟩,_⟩:=I.loc;rw[z,a]at ho;cases ho;rw[b]at hd;cases hd
def Inv.fm(I:Inv X XV σ H s):s.heap.FunFrames X.base X.outer:=by
 have all:∀(l:List Env),(∀b∈gB l,b∈X.fs)->X.s₀.heap.FunFrames X.base l->s.heap.FunFrames X.base l:=by
  intro l;induction l with
  |nil=>intro _ _;trivial
  |cons env r g =>
   intro f j;obtain⟨k,⟨L,o,a,i,ho,hd⟩,h⟩:=j;have d:L∈X.fs:=f L (by unfold gB;rw[yB,a];exact zI);let⟨m,e⟩:=I.base.slot L o ho (I.ok.pU L d) d λ z=>I.ok.qj L z d;exact⟨k,⟨L,_,a,i,e,hd⟩,g (λ b c=>f b (by unfold gB;rw[yB,a];exact zE _ c)) h⟩
 exact all X.outer (λ _ c=>c) I.ok.fm
def Inv.stack(I:Inv X XV σ H s):s.heap.FunFrames X.base X.stack:=by
 rcases I.ok.vQ with e|⟨e,hf⟩
 ·rw[e];exact I.fm
 ·rw[e]
  let⟨m,a,_⟩:=I.loc;refine .cons (by rw[I.ok.kind];decide) hf a ?_ I.fm;exact ym (zG I.ok.nz I.ok.above)
def Inv.kr(I:Inv X XV σ H s):∀b∈gB X.stack,b∈X.env.locals::X.fs:=λ b a=>by
 rcases I.ok.vQ with e|⟨e,hf⟩
 ·rw[e]at a;exact zE _ a
 ·rw[e]at a
  unfold gB at a;rw[yB,hf]at a;exact a
def Inv.rV(I:Inv X XV σ H s):∀b∈gB X.stack,H b=none:=λ b a=>by
 rcases zd.mp (I.kr b a) with e|a
 ·rw[e];exact I.free
 ·let⟨_,o,ho,_⟩:=I.ok.fm.mem a
  exact I.base.free b o ho (I.ok.pU b a) λ z=>I.ok.qj b z a
def Inv.step{g':Array GenState}{t':Nat}{d':Drawn}{ch:List uc}(I:Inv X XV σ H s)
  (a:∀b∈ch,(b∈X.ex\/X.s₀.heap.objs.size<=b)/\b≠X.env.locals/\(∀x c,X.env.cells.lookup x=some c->c≠b)/\∀p∈X.pn++XV,p.1≠b)
  (keep:∀b o,b≠X.env.locals->b ∉ X.fs->b ∉ ch->s.heap.get? b=some o->H b=none->h'.get? b=some o)
  (slot:∀b o,b≠X.env.locals->b∈X.fs->b ∉ ch->s.heap.get? b=some o->H b=none->∃B,h'.get? b=some { o with slots:=B }) (free:∀b o,b ∉ ch->s.heap.get? b=some o->H b=none->H' b=none)
  (there:∀b o,b ∉ ch->s.heap.get? b=some o->∃h,h'.get? b=some h)
  (jB:∀b xs,H b=some (.tup xs)->H' b=some (.tup xs)) (iG:∀b o u,H b=some (.frz o u)->H' b=some (.frz o u)) (jD:∀b ps,H b=some (.tbl ps)->∃more,H' b=some (.tbl (ps++more)))
  (ns:∀m,s.heap.Ns X.env.locals m->h'.Ns X.env.locals m) (hok:cV X.prog X.w H' h') (G:AllBare g') :
  Inv X XV σ H' { s with heap:=h',gens:=g',drawn:=d',toks:=t' }:=by
 have j:∀b o,X.s₀.heap.get? b=some o->b≠X.env.locals:=λ b o e=>zF (ze (zg e) I.ok.above);have f:∀b o,X.s₀.heap.get? b=some o->b ∉ X.ex->b ∉ ch:=λ b o e hx g=>by
  rcases (a b g).1 with z|z
  ·exact hx z
  ·exact absurd (ze (zg e) z) (yg _)
 have cellK:∀x c,X.env.cells.lookup x=some c->∀v,s.heap.IsCell c v->h'.IsCell c v:=λ x c e v ⟨o,ho,hd⟩=>by
  have y:c ∉ ch:=λ z=>(a c z).2.2.1 x c e rfl;by_cases hc:c∈X.fs
  ·let⟨B,q⟩:=slot c o (I.oo x c e) hc y ho (I.c9 x c e)
   exact⟨_,q,hd⟩
  ·exact⟨o,keep c o (I.oo x c e) hc y ho (I.c9 x c e),hd⟩
 refine⟨I.ok,I.os,G,⟨λ b o e n g hx=>?_,λ b o e n g hx=>?_,λ b o e n hx=>?_,λ b o e hx=>?_,λ b xs e=>jB b xs (I.base.jB b xs e),λ b o xs e=>iG b o xs (I.base.iG b o xs e),λ b ps e=>?_⟩,?_,λ x c e=>?_,?_,λ x c e=>?_,λ p D=>?_,hok,I.len⟩
 ·exact keep b o (j b o e) g (f b o e hx) (I.base.keep b o e n g hx) (I.base.free b o e n hx)
 ·let⟨B,e1⟩:=I.base.slot b o e n g hx
  let⟨A,t⟩:=slot b _ (j b o e) g (f b o e hx) e1 (I.base.free b o e n hx);exact⟨A,t⟩
 ·let⟨h,e1⟩:=I.base.there b o e hx
  exact free b h (f b o e hx) e1 (I.base.free b o e n hx)
 ·let⟨h,e1⟩:=I.base.there b o e hx
  exact there b h (f b o e hx) e1
 ·let⟨m1,e1⟩:=I.base.jD b ps e
  let⟨m2,t⟩:=jD b _ e1;exact⟨m1++m2,by rw[t,Array.append_assoc]⟩
 ·let⟨m,E,F⟩:=I.loc
  refine⟨m,ns m E,λ i x v e1 t J=>?_⟩;let⟨u,r,l⟩:=F i x v e1 t J;exists u,r;rcases l with l|⟨k,c,e,z⟩
  ·exact .inl l
  ·exact .inr ⟨k,c,e,cellK x c e _ z⟩
 ·let⟨v,z⟩:=I.cell x c e
  exact⟨v,cellK x c e v z⟩
 ·obtain⟨m,⟨o,_,_,ho,_⟩,_⟩:=I.loc
  exact free _ o (λ z=>(a _ z).2.1 rfl) ho I.free
 ·let⟨v,o,ho,hd⟩:=I.cell x c e
  exact free c o (λ z=>(a c z).2.2.1 x c e rfl) ho (I.c9 x c e)
 ·let⟨e,n,ne,C,d⟩:=I.pin p D
  have y:p.1 ∉ ch:=λ z=>(a p.1 z).2.2.2 p D rfl;exact⟨keep p.1 p.2 ne C y e n,free p.1 p.2 y e n,ne,C,d⟩
def Inv.un(I:Inv X XV σ H s)(u:Un X.fs [] H H' s.heap h')(hok:cV X.prog X.w H' h'):Inv X XV σ H' { s with heap:=h',toks:=t' }:=by
 obtain⟨m,⟨o,p,q,ho,r⟩,_⟩:=id I.loc;let⟨j,i⟩:=u.any ho I.free (by simp);exact I.step (g':=s.gens) (d':=s.drawn) (ch:=[]) (λ _ z=>nomatch z) (λ b o _ c _ e n=>u.keep b o e n c (by simp)) (λ b o _ c _ e n=>u.slot b o e n c (by simp)) (λ b o _ e n=>u.free b o e n (by simp)) (λ b o _ e=>u.there b o e (by simp)) u.jB u.iG u.jD (λ l h=>by
  let⟨k,d,f,a,g⟩:=h;rw[ho]at a;cases a;exact⟨_,d,f,i,g⟩) hok I.bare
def Inv.call(I:Inv X XV σ H s)(u:Un (gB X.stack) ch H H' s.heap h')(hok:cV X.prog X.w H' h')(k:AllBare g')
  (d:∀b∈ch,(b∈X.ex\/X.s₀.heap.objs.size<=b)/\b≠X.env.locals/\(∀x c,X.env.cells.lookup x=some c->c≠b)/\∀p∈X.pn++XV,p.1≠b) :
  Inv X XV σ H' { s with heap:=h',gens:=g',drawn:=d',toks:=t' }:=by
 obtain⟨m,⟨o,y,A,ho,r⟩,_⟩:=id I.loc;let⟨q,f⟩:=u.any ho I.free λ z=>(d _ z).2.1 rfl;exact I.step (ch:=ch) d (λ b o f l hc e n=>u.keep b o e n (λ z=>(zd.mp (I.kr b z)).elim f l) hc) (λ b o _ _ hc e n=>u.any e n hc) (λ b o hc e n=>u.free b o e n hc) (λ b o hc e=>u.there b o e hc) u.jB u.iG u.jD (λ v j=>by
  let⟨t,g,h,a,i⟩:=j;rw[ho]at a;cases a;exact⟨_,g,h,f,i⟩) hok k
def Inv.turned(I:Inv X XV σ H s)(k:∀b o,b≠it->s.heap.get? b=some o->h'.get? b=some o)(f:H it=none)(a:it≠X.env.locals)
  (l:it∈X.ex\/X.s₀.heap.objs.size<=it) (j:∀x c,X.env.cells.lookup x=some c->c≠it) (i:∀p∈X.pn++XV,p.1≠it):Inv X XV σ H { s with heap:=h',toks:=t' }:=by
 have d:∀b u,H b=some u->b≠it:=λ b u e z=>by rw[z,f]at e;cases e
 refine I.step (g':=s.gens) (d':=s.drawn) (ch:=[it]) (λ b h=>?_) (λ b o _ _ hc e _=>k b o (λ z=>hc (by simp[z])) e) (λ b o _ _ hc e _=>⟨o.slots,k b o (λ z=>hc (by simp[z])) e⟩) (λ _ _ _ _ n=>n)
  (λ b o hc e=>⟨o,k b o (λ z=>hc (by simp[z])) e⟩) (λ _ _ e=>e) (λ _ _ _ e=>e) (λ b ps e=>⟨#[],by rw[e];simp⟩) (λ m g=>?_) (λ b u e=>?_) I.bare
 ·have e:b=it:=by simpa using h
  subst e;exact⟨l,a,j,i⟩
 ·let⟨o,t,w,ho,r⟩:=g
  exact⟨o,t,w,k _ o (Ne.symm a) ho,r⟩
 ·refine(I.hok b u e).ku (λ c v hc q=>k c v ?_ q) (λ _ q=>q) λ _ _ q=>q
  rcases hc with z|z
  ·rw[z];exact d b u e
  ·exact d c _ z
def Inv.tok(I:Inv X XV σ H s)(t:Nat):Inv X XV σ H { s with toks:=t }:=I.un (h':=s.heap) (t':=t) Un.refl I.hok
def Inv.kept(I:Inv X XV σ H s)(k:∀b u,s.heap.get? b=some u->h'.get? b=some u):Inv X XV σ H { s with heap:=h',toks:=t' }:=I.un (Un.kept k) (I.hok.kept k)
def Inv.laid{a:uc}{o:HO}{t':Nat}(I:Inv X XV σ H s)(k:∀b u,s.heap.get? b=some u->h'.get? b=some u)(c:s.heap.objs.size<=a)(new:bV X.prog X.w (upd H a o) h' a o) :
  Inv X XV σ (upd H a o) { s with heap:=h',toks:=t' }:=I.un (Un.laid k c (I.hok.fresh c)) (I.hok.laid k c new)
def Inv.write(I:Inv X XV σ H s)(a:II (H x))(he:e=x\/H e=some (.own x))(k:∀b u,b≠e->s.heap.get? b=some u->h'.get? b=some u)(c:∃u,h'.get? e=some u)
  (new:bV X.prog X.w (upd H x o) h' x o):Inv X XV σ (upd H x o) { s with heap:=h',toks:=t' }:=I.un (Un.write a he k c) (I.hok.write a he k c new)
def Inv.sk(I:Inv X XV σ H s)(h:∀p∈a,s.heap.get? p.1=some p.2/\H p.1=none/\p.1≠X.env.locals/\p.1 ∉ X.fs/\∀v,p.2.data≠.cell v):Inv X a σ H s :=
 ⟨I.ok,I.os,I.bare,I.base,I.loc,I.cell,I.free,I.c9,λ p b=>(zQ.mp b).elim (λ z=>I.pin p (zZ _ z)) (h p),I.hok,I.len⟩
def qe{N:List Str}(c:N.Nodup){i j:Nat}{x:Str}(a:N[i]?=some x)(b:N[j]?=some x):i=j:=by
 let⟨f,e1⟩:=zz.mp a;let⟨e,d⟩:=zz.mp b;exact(List.getElem_inj c).mp (e1.trans d.symm)
def tD(I:Inv X XV σ H s)(hN:X.N.Nodup)(hi:X.N[i]?=some x)(hx:Loc X.env.scope x)(r:RelV v u)
  (h:∀L,Inv X XV (σ.set i (some v)) H L->(∃a,Heap.SameBut a s.heap L.heap/\(a=X.env.locals\/X.env.cells.lookup x=some a))->Q () L) (hf:X.fn x=true\/X.env.scope.names.lookup x=some .local:=by first|exact .inl rfl|exact .inr rfl|assumption):wpAny M A (storeName X.env x u) Q E s:=by
 let⟨m,W,hl⟩:=id I.loc;have fJ:(X.env.scope.kind==.class||(X.env.scope.kind==.module&&X.env.locals != X.env.globals))=false:=by rw[I.ok.kind];rfl
 have Fs:i<σ.length:=by rw[I.len];exact(zz.mp hi).1
 have oo:=I.oo;have tracked:∀{a:uc} {h':Heap},(∃o,s.heap.get? a=some o/\H a=none)->Heap.SameBut a s.heap h'->cV X.prog X.w H h':=λ {a h'} ha f b ob e=>by
  let⟨_,_,Z⟩:=ha;refine(I.hok b ob e).ku (λ c D hc q=>(f.2 c ?_).trans q) (λ _ q=>q) λ _ _ q=>q;rintro rfl;rcases hc with rfl|hc
  ·rw[Z]at e;cases e
  ·rw[Z]at hc;cases hc
 rcases hx with l|l
 ·refine wpAny_storeName_local l W (λ h' U f=>?_) fJ
  let⟨oL,_,_,Y1,_⟩:=id W;refine h _ ⟨I.ok,I.os,I.bare,⟨λ b o e n B hx=>?_,λ b o e n B hx=>?_,I.base.free,λ b o e hx=>?_,I.base.jB,I.base.iG,I.base.jD⟩,⟨_,U,λ j y G e1 g Y=>?_⟩,λ y c e=>?_,I.free,I.c9,λ p T=>?_,tracked ⟨oL,Y1,I.free⟩ f,by simpa using I.len⟩ ⟨_,f,.inl rfl⟩
  ·exact(f.2 b (zF (ze (zg e) I.ok.above))).trans (I.base.keep b o e n B hx)
  ·let⟨K,e1⟩:=I.base.slot b o e n B hx
   exact⟨K,(f.2 b (zF (ze (zg e) I.ok.above))).trans e1⟩
  ·let⟨P,e1⟩:=I.base.there b o e hx
   exact⟨P,(f.2 b (zF (ze (zg e) I.ok.above))).trans e1⟩
  ·by_cases t:j=i
   ·subst t
    rw[hi]at e1;cases e1;rw[zJ Fs]at g;cases g;exact⟨u,r,.inl ⟨l,by simp⟩⟩
   ·rw[zc (Ne.symm t)]at g
    let⟨J,O,q⟩:=hl j y G e1 g Y;exists J,O;rcases q with ⟨k,e⟩|⟨k,c,e,z⟩
    ·refine .inl ⟨k,?_⟩
     have:y≠x:=λ e=>t (qe hN e1 (e▸hi))
     simp[this,e]
    ·exact .inr ⟨k,c,e,z.sameBut f (oo y c e)⟩
  ·let⟨D,z⟩:=I.cell y c e
   exact⟨D,z.sameBut f (oo y c e)⟩
  ·let⟨e,n,ne,R,d⟩:=I.pin p T
   exact⟨(f.2 p.1 ne).trans e,n,ne,R,d⟩
 ·have S:X.fn x=true:=by
   rcases hf with z|z
   ·exact z
   ·rw[z]at l;cases l
  let⟨c,hc⟩:=I.ok.has x (.inl l);let⟨D,z⟩:=I.cell x c hc;refine wpAny_storeName_cell I.ok.kind l hc z (λ h' C f=>?_);let⟨oc,Hy,V0⟩:=id z;refine h { s with heap:=h' } ⟨I.ok,I.os,I.bare,⟨λ b o e n B hx=>?_,λ b o e n B hx=>?_,I.base.free,λ b o e hx=>?_,I.base.jB,I.base.iG,I.base.jD⟩,⟨m,W.sameBut f (Ne.symm (oo x c hc)),λ j y G e1 g Y=>?_⟩,λ y F e=>?_,I.free,I.c9,λ p T=>?_,tracked ⟨oc,Hy,I.c9 x c hc⟩ f,by simpa using I.len⟩ ⟨c,f,.inr hc⟩
  ·exact(f.2 b (zF (ze (zg e) (I.ok.ub x c S hc)))).trans (I.base.keep b o e n B hx)
  ·let⟨K,e1⟩:=I.base.slot b o e n B hx
   exact⟨K,(f.2 b (zF (ze (zg e) (I.ok.ub x c S hc)))).trans e1⟩
  ·let⟨P,e1⟩:=I.base.there b o e hx
   exact⟨P,(f.2 b (zF (ze (zg e) (I.ok.ub x c S hc)))).trans e1⟩
  ·by_cases t:j=i
   ·subst t
    rw[hi]at e1;cases e1;rw[zJ Fs]at g;cases g;exact⟨u,r,.inr ⟨.inl l,c,hc,C⟩⟩
   ·rw[zc (Ne.symm t)]at g
    let⟨J,O,q⟩:=hl j y G e1 g Y;exists J,O;rcases q with q|⟨k,F,e,z'⟩
    ·exact .inl q
    ·refine .inr ⟨k,F,e,z'.sameBut f ?_⟩
     rintro rfl;exact t (qe hN e1 (I.ok.inj _ _ _ e hc▸hi))
  ·by_cases HJ:F=c
   ·subst HJ;exact⟨_,C⟩
   ·let⟨w2,z2⟩:=I.cell y F e
    exact⟨w2,z2.sameBut f HJ⟩
  ·let⟨e,n,ne,R,d⟩:=I.pin p T
   refine⟨(f.2 p.1 ?_).trans e,n,ne,R,d⟩;intro q;rw[q,Hy]at e;have q':oc=p.2:=Option.some.inj e;exact d D (by rw[<- q'];exact V0)
def mG(I:Inv X XV σ H s)(c:X.N.Nodup)(hi:X.N[i]?=some x)(hx:Loc X.env.scope x)(r:RelV v u)
  (h:∀a,Inv X XV (σ.set i (some v)) H a->Q () a) (b:X.fn x=true\/X.env.scope.names.lookup x=some .local:=by first|exact .inl rfl|exact .inr rfl|assumption):wpAny M A (storeName X.env x u) Q E s :=
 tD I c hi hx r (λ a d _=>h a d) b
def Inv.call'(I:Inv X XV σ H s)(ho:s'.os=s.os)(u:Un (gB X.stack) ch H H' s.heap s'.heap)(hok:cV X.prog X.w H' s'.heap)(f:AllBare s'.gens)
  (a:∀b∈ch,(b∈X.ex\/X.s₀.heap.objs.size<=b)/\b≠X.env.locals/\(∀x c,X.env.cells.lookup x=some c->c≠b)/\∀p∈X.pn++XV,p.1≠b):Inv X XV σ H' s':=by
 let⟨h',g',d',t',d⟩:=s';have e:d=s.os:=ho;subst e;exact I.call (g':=g') (t':=t') (d':=d') u hok f a
end
@[reducible]noncomputable def XK:=jp->Option uc->Hp->Prop
@[reducible]noncomputable def St:=List (Option V)
@[reducible]noncomputable def VK:=V->Hp->Prop
@[reducible]noncomputable def TE:=St->Hp->VK->Prop
@[reducible]noncomputable def TT:=St->Hp->(Bool->Hp->Prop)->Prop
@[reducible]noncomputable def TA:=St->Hp->(List V->Hp->Prop)->Prop
structure Ends where
 nx:St->Hp->Prop
 rt:VK
 bk:St->Hp->Prop:=λ _ _=>False
 ct:St->Hp->Prop:=λ _ _=>False
@[reducible]noncomputable def TS:=Ends->St->Hp->Prop
inductive EP (X:Cx) (XV:List (uc×Obj)) (σ:St) (Q:VK) (u:jp) (s':kt):Prop
 |mk (v:V) (H':Hp) (I:Inv X XV σ H' s') (r:RelV v u) (q:Q v H')
inductive TP (X:Cx) (XV:List (uc×Obj)) (σ:St) (Q:Bool->Hp->Prop) (b:Bool) (s':kt):Prop
 |mk (H':Hp) (I:Inv X XV σ H' s') (q:Q b H')
inductive AP (X:Cx) (XV:List (uc×Obj)) (σ:St) (Q:List V->Hp->Prop) (us:List jp) (s':kt):Prop
 |mk (vs:List V) (H':Hp) (I:Inv X XV σ H' s') (r:Vals vs us) (q:Q vs H')
inductive NP (X:Cx) (XV:List (uc×Obj)) (Q:St->Hp->Prop) (s':kt):Prop
 |mk (σ':St) (H':Hp) (I:Inv X XV σ' H' s') (q:Q σ' H')
inductive RP (X:Cx) (XV:List (uc×Obj)) (Q:VK) (u:jp) (s':kt):Prop
 |mk (v:V) (σ':St) (H':Hp) (I:Inv X XV σ' H' s') (r:RelV v u) (q:Q v H')
abbrev SP(X:Cx)(b:List (uc×Obj))(D:Ends)(f:Flow)(a:kt):Prop :=
 match f with
 |.next=>NP X b D.nx a
 |.brk=>NP X b D.bk a
 |.cont=>NP X b D.ct a
 |.ret u=>RP X b D.rt u a
abbrev PE(X:Cx)(e:Expr)(t:TE):Prop :=
 ∀(a:List (uc×Obj)) (s:kt) (σ:St) (H:Hp) (Q:VK),Inv X a σ H s->t σ H Q->wpAny (model X.prog X.w) X.A (eval e X.env) (EP X a σ Q) X.xe s
abbrev PT(X:Cx)(e:Expr)(t:TT):Prop :=
 ∀(a:List (uc×Obj)) (s:kt) (σ:St) (H:Hp) (Q:Bool->Hp->Prop),Inv X a σ H s->t σ H Q->wpAny (model X.prog X.w) X.A (isTrue e X.env (eval e X.env)) (TP X a σ Q) X.xe s
abbrev PW(X:Cx)(e:Expr)(t:TT):Prop :=
 ∀(whole:Sem jp) (a:List (uc×Obj)) (s:kt) (σ:St) (H:Hp) (Q:Bool->Hp->Prop),Inv X a σ H s->t σ H Q->wpAny (model X.prog X.w) X.A (isTrue e X.env whole) (TP X a σ Q) X.xe s
def PW.pt(h:PW X e t):PT X e t:=h _
abbrev PA(X:Cx)(es:List Expr)(t:TA):Prop :=
 ∀(a:Pos) (b:List (uc×Obj)) (s:kt) (σ:St) (H:Hp) (Q:List V->Hp->Prop),Inv X b σ H s->t σ H Q->wpAny (model X.prog X.w) X.A (spliced (backTo a (starEach es X.env))) (AP X b σ Q) X.xe s
abbrev PS(X:Cx)(st:uV)(t:TS):Prop :=
 ∀(a:List (uc×Obj)) (s:kt) (σ:St) (H:Hp) (D:Ends),Inv X a σ H s->t D σ H->wpAny (model X.prog X.w) X.A (exec st X.env) (SP X a D) X.xe s
abbrev cG(X:Cx)(st:List uV)(t:TS):Prop :=
 ∀(a:List (uc×Obj)) (s:kt) (σ:St) (H:Hp) (D:Ends),Inv X a σ H s->t D σ H->wpAny (model X.prog X.w) X.A (execs st X.env) (SP X a D) X.xe s
def aJ{α:Type}{t:Sem α}{Q b:α->kt->Prop}{M:Model}{A:ut}{E:jp->kt->Prop}{s:kt}(h:wpAny M A t Q E s)(c:∀a s,Q a s->b a s):wpAny M A t b E s:=wpAny_mono h c λ _ _ x=>x
section
variable {X:Cx}
abbrev jE(i:Nat):TE:=λ σ H Q=>∃v,σ[i]?=some (some v)/\Q v H
abbrev tC(v:V):TE:=λ _ H Q=>Q v H
def fg{i:Nat}{x:Str}{pos:Pos}(k:X.N[i]?=some x)(hv:IB X.env.scope x)(hd:(x==("__debug__":Str))=false:=by decide)(d:(x==("__classdict__":Str))=false:=by decide):PE X (.Name x pos) (jE i):=by
 intro n s σ H Q I h;let⟨v,e,h⟩:=h;let⟨m,f,j⟩:=I.loc;let⟨u,r,l⟩:=j i x v k e hv;have b:EP X n σ Q u s:=⟨v,H,I,r,h⟩;rcases l with ⟨a,g⟩|⟨a,c,hc,L6⟩
 ·exact wpAny_Name (wpAny_loadName_local I.ok.kind a f g b) hd
 ·rcases a with a|a
  ·exact wpAny_Name (wpAny_loadName_cell I.ok.kind a hc L6 b) hd
  ·exact wpAny_Name (wpAny_loadName_free I.ok.kind a hc L6 b d) hd
def Aj{i j pos}:PE X (.Constant (.int i) j pos) (tC (.int i)):=λ _ _ _ H _ I h=>wpAny_Constant_int ⟨.int i,H,I.tok _,⟨_,rfl⟩,h⟩
def EM{b j pos}:PE X (.Constant (.bool b) j pos) (tC (.bl b)):=λ _ _ _ H _ I h=>Constant_bool ⟨.bl b,H,I,rfl,h⟩
def PQ{j pos}:PE X (.Constant .none j pos) (tC .non):=λ _ _ _ H _ I h=>Constant_none ⟨.non,H,I,rfl,h⟩
def Ai{x j pos}:PE X (.Constant (.str x) j pos) (tC (.str x)):=λ _ _ _ H _ I h=>Calls.Constant_str ⟨.str x,H,I.tok _,⟨_,rfl⟩,h⟩
abbrev Gl(X:Cx)(x:Str):Prop:=X.env.kindOf x=some .globalImplicit
def mf{E:jp->kt->Prop}{c:List (uc×Obj)}{s:kt}{σ:St}{H:Hp}{x:Str}{u:jp}{pos:Pos}{Q:jp->kt->Prop}(I:Inv X c σ H s)(b:Gl X x)(a:X.mg x=some u)(h:Q u s)
  (hd:(x==("__debug__":Str))=false:=by decide):wpAny (model X.prog X.w) X.A (eval (.Name x pos) X.env) Q E s :=
 Calls.Name_function_global I.ok.kind b (Calls.loadGlobal_global (by rw[I.ok.glob];exact I.mod.glob.keeps I.bk) a h) hd
def kG{E:jp->kt->Prop}{f:List (uc×Obj)}{s:kt}{σ:St}{H:Hp}{x:Str}{u:jp}{pos:Pos}{Q:jp->kt->Prop}(I:Inv X f σ H s)(c:Gl X x)(b:X.mg x=none)(hv:bootBuiltins x=some u)(h:Q u s)
  (a:x≠"__name__":=by decide) (hd:(x==("__debug__":Str))=false:=by decide):wpAny (model X.prog X.w) X.A (eval (.Name x pos) X.env) Q E s:=by
 let⟨g,e,d⟩:=I.mod.blt;exact Calls.Name_function_global I.ok.kind c (Calls.loadGlobal_builtin (by rw[I.ok.glob];exact I.mod.glob.keeps I.bk) b (by rw[I.ok.blt];exact e.keeps I.bk) ((d x a).trans hv) h) hd
def sx(b:Gl X x)(a:X.mg x=some u)(r:RelV v u)(hd:(x==("__debug__":Str))=false:=by decide):PE X (.Name x pos) (tC v) :=
 λ _ _ _ H _ I h=>mf I b a ⟨v,H,I,r,h⟩ hd
def NG{x:Str}{v:V}{u:jp}{pos:Pos}(c:Gl X x)(b:X.mg x=none)(hv:bootBuiltins x=some u)(r:RelV v u)(a:x≠"__name__":=by decide)(hd:(x==("__debug__":Str))=false:=by decide):PE X (.Name x pos) (tC v) :=
 λ _ _ _ H _ I h=>kG I c b hv ⟨v,H,I,r,h⟩ a hd
variable {a b:Expr}{ta tb:TE}{pos:Pos}
abbrev tB(t:TE):TT:=λ σ H Q=>t σ H λ x d=>∃c,x=.bl c/\Q c d
def GV{e:Expr}{t:TE}(h:PE X e t)(he:∀whole,isTrue e X.env whole=(do let v<-whole;standAt e.pos;holding [v] (truthy v)):=by intro _;rfl):PT X e (tB t):=by
 intro g s σ H Q I hw;refine isTrue_plain (aJ (h g s σ H _ I hw) λ v k ⟨x,j,i,c,f⟩=>?_) (he _);let⟨d,rfl,q⟩:=f;cases c;exact wpAny_truthy_bool ⟨j,i,q⟩
variable {tA tB':TT}{rest:List Expr}
abbrev O6(t u:TT):TT:=λ σ H Q=>t σ H λ c d=>if c=true then u σ d Q else Q false d
abbrev T7(t u:TT):TT:=λ σ H Q=>t σ H λ c d=>if c=true then Q true d else u σ d Q
abbrev O0(t:TT):TT:=λ σ H Q=>t σ H λ c d=>Q (!c) d
def sj(d:PT X a tA):PW X (.BoolOp .And [a] pos) tA:=by
 intro wh f s σ H Q I h;refine isTrue_and (aJ (d f s σ H Q I h) λ c g e=>?_);cases c with
 |true=>exact isTrue_and_nil e
 |false=>exact e
def GS(d:PT X a tA):PW X (.BoolOp .Or [a] pos) tA:=by
 intro wh f s σ H Q I h;refine isTrue_or (aJ (d f s σ H Q I h) λ c g e=>?_);cases c with
 |false=>exact isTrue_or_nil e
 |true=>exact e
def qK(k:PT X a tA)(j:PW X (.BoolOp .And (b::rest) pos) tB'):PW X (.BoolOp .And (a::b::rest) pos) (O6 tA tB'):=by
 intro wh e s σ H Q I h;refine isTrue_and (aJ (k e s σ H _ I h) λ c i ⟨g,f,d⟩=>?_);cases c with
 |true=>exact j wh e i σ g Q f d
 |false=>exact⟨g,f,d⟩
def EJ(k:PT X a tA)(j:PW X (.BoolOp .Or (b::rest) pos) tB'):PW X (.BoolOp .Or (a::b::rest) pos) (T7 tA tB'):=by
 intro wh e s σ H Q I h;refine isTrue_or (aJ (k e s σ H _ I h) λ c i ⟨g,f,d⟩=>?_);cases c with
 |true=>exact⟨g,f,d⟩
 |false=>exact j wh e i σ g Q f d
def PC(f:PT X a tA):PT X (.UnaryOp .Not a pos) (O0 tA):=by
 intro g s σ H Q I h;exact isTrue_not (aJ (f g s σ H (λ c d=>Q (!c) d) I h) λ _ _ ⟨d,i,e⟩=>⟨d,i,e⟩)
abbrev K6(ta tb:TE):TE:=λ σ H Q=>ta σ H λ x d=>∃c,x=.bl c/\if c=true then tb σ d Q else Q (.bl false) d
abbrev OZ(ta tb:TE):TE:=λ σ H Q=>ta σ H λ x d=>∃c,x=.bl c/\if c=true then Q (.bl true) d else tb σ d Q
abbrev K1(ta:TE):TE:=λ σ H Q=>ta σ H λ x d=>∃c,x=.bl c/\Q (.bl (!c)) d
def qO{op}(h:PE X a t):PE X (.BoolOp op [a] pos) t:=λ c s σ H Q I hw=>BoolOp_one (h c s σ H Q I hw)
def nX(l:PE X a ta)(k:PE X (.BoolOp .And (b::rest) pos) tb):PE X (.BoolOp .And (a::b::rest) pos) (K6 ta tb):=by
 intro e s σ H Q I h;refine BoolOp_and (aJ (l e s σ H _ I h) λ v i ⟨x,g,f,j,d⟩=>?_);let⟨c,rfl,d⟩:=d;cases j;refine wpAny_truthy_bool ?_;cases c with
 |true=>exact k e i σ g Q f d
 |false=>exact⟨.bl false,g,f,rfl,d⟩
def Lg(l:PE X a ta)(k:PE X (.BoolOp .Or (b::rest) pos) tb):PE X (.BoolOp .Or (a::b::rest) pos) (OZ ta tb):=by
 intro e s σ H Q I h;refine BoolOp_or (aJ (l e s σ H _ I h) λ v i ⟨x,g,f,j,d⟩=>?_);let⟨c,rfl,d⟩:=d;cases j;refine wpAny_truthy_bool ?_;cases c with
 |false=>exact k e i σ g Q f d
 |true=>exact⟨.bl true,g,f,rfl,d⟩
def PN(f:PE X a ta):PE X (.UnaryOp .Not a pos) (K1 ta):=by
 intro g s σ H Q I h;refine UnaryOp_ (aJ (f g s σ H _ I h) λ v k ⟨x,j,i,e,d⟩=>?_);let⟨c,rfl,d⟩:=d;cases e;exact not_of (wpAny_truthy_bool ⟨.bl (!c),j,i,rfl,d⟩)
abbrev T8(t:TT)(ta tb:TE):TE:=λ σ H Q=>t σ H λ c d=>if c=true then ta σ d Q else tb σ d Q
def JE(hc:PT X c tA)(l:PE X a ta)(k:PE X b tb):PE X (.IfExp c a b pos) (T8 tA ta tb):=by
 intro e s σ H Q I h;refine wpAny_IfExp (aJ (hc e s σ H _ I h) λ d f ⟨j,i,g⟩=>?_);cases d with
 |true=>exact l e f σ j Q i g
 |false=>exact k e f σ j Q i g
end
abbrev bx(K:Q_)(H:Hp)(a:uc)(xs:List V):Prop :=
 Rd H a (.lst xs) \/
  ∃(o:Obj) (b:Array jp) (n:Nat),K.lookup a=some o/\o.cls=.type "list"/\o.dict=none/\o.data=.seq b n/\b.size<=zi/\Vals xs b.toList
abbrev eF(K:Q_)(H:Hp)(a:uc)(xs:List V):Prop :=
 Rd H a (.tup xs) \/
  ∃(o:Obj) (b:Array jp) (n:Nat),K.lookup a=some o/\o.cls=.type "tuple"/\o.data=.seq b n/\b.size<=zi/\Vals xs b.toList/\o.dict=none/\o.slots=#[]
abbrev Wh:jp->Option V
 |.none=>some .non
 |.bool b=>some (.bl b)
 |.int i _=>some (.int i)
 |.str x _=>some (.str x)
 |.bytes b _=>some (.byt b)
 |.float b _=>some (.flt b)
 |.ref a=>some (.ref a)
 |.type n=>some (.ty n)
 |_=>none
def RelV.abs(r:RelV x u):Wh u=some x:=by
 cases x with
 |non=>cases r;rfl
 |bl _=>cases r;rfl
 |int _=>let⟨t,rfl⟩:=r;rfl
 |str _=>let⟨t,rfl⟩:=r;rfl
 |byt _=>let⟨t,rfl⟩:=r;rfl
 |flt _=>let⟨t,rfl⟩:=r;rfl
 |ref _=>cases r;rfl
 |ty _=>cases r;rfl
def RelV.inj(r:RelV x u)(q:RelV y u):x=y:=Option.some.inj (r.abs.symm.trans q.abs)
def Vals.inj:∀{xs ys:List V} {us:List jp},Vals xs us->Vals ys us->xs=ys:=by
 intro xs;induction xs with
 |nil=>intro ys us h g;cases h;cases g;rfl
 |cons x xs c=>intro ys us h g;cases h with|cons r t=>cases g with|cons b a=>rw[r.inj b,c t a]
section
variable {X:Cx}{XV:List (uc×Obj)}{σ:St}{H:Hp}{s:kt}{a:uc}{xs ys:List V}
def bx.of{K:Q_}(h:H a=some (.lst xs)):bx K H a xs:=.inl (.inl h)
inductive Wt (xs:List V) (h:Heap) (a:uc):Prop
 |mk (its:List jp) (r:Vals xs its) (p:PlainL h a its.toArray) (l:xs.length<=zi)
def Inv.list(I:Inv X XV σ H s)(h:bx X.K H a xs):Wt xs s.heap a:=by
 rcases h with h|⟨o,its,n,hk,hc,hd,hs,hz,r⟩
 ·let⟨z,its,n,r,e⟩:=h.ok I.hok
  exact⟨its,r,⟨_,n,e,rfl,rfl,rfl⟩,z⟩
 ·refine⟨its.toList,r,⟨o,n,I.eB a o hk,hc,hd,by simpa using hs⟩,?_⟩
  have e:=r.length;rwa[yj]at e;first|lia|omega
inductive Ws (xs:List V) (h:Heap) (a:uc):Prop
 |mk (its:List jp) (r:Vals xs its) (p:IsTup h a its.toArray) (l:xs.length<=zi)
def Inv.tuple(I:Inv X XV σ H s)(h:eF X.K H a xs):Ws xs s.heap a:=by
 rcases h with h|⟨o,its,n,hk,hc,hs,hz,r,_⟩
 ·let⟨z,its,r,p,_⟩:=h.ok I.hok
  exact⟨its,r,p,z⟩
 ·refine⟨its.toList,r,⟨o,I.eB a o hk,hc,n,by simpa using hs⟩,?_⟩
  have e:=r.length;rwa[yj]at e;first|lia|omega
def Inv.Gm(I:Inv X XV σ H s)(h:eF X.K H a xs):∃o,s.heap.get? a=some o/\o.dict=none/\o.slots=#[]:=by
 rcases h with h|⟨o,its,n,hk,hc,hs,hz,r,hd⟩
 ·obtain⟨z,its,r,⟨o,e,_⟩,d⟩:=h.ok I.hok
  exact⟨o,e,d o e⟩
 ·exact⟨o,I.eB a o hk,hd⟩
def Inv.iD(I:Inv X XV σ H s)(h:bx X.K H a xs)(h':bx X.K H a ys):xs=ys:=by
 obtain⟨b,r,⟨o,n,e,_,_,d⟩,_⟩:=I.list h;obtain⟨its',g,⟨j,k,c,_,_,f⟩,_⟩:=I.list h';rw[e]at c;cases c;rw[d]at f;injection f with i _
 have:b=its':=by simpa using congrArg vE i
 subst this;exact r.inj g
def Inv.tu(I:Inv X XV σ H s)(h:eF X.K H a xs)(h':eF X.K H a ys):xs=ys:=by
 obtain⟨b,r,⟨o,e,_,n,d⟩,_⟩:=I.tuple h;obtain⟨its',g,⟨j,c,_,k,f⟩,_⟩:=I.tuple h';rw[e]at c;cases c;rw[d]at f;injection f with i _
 have:b=its':=by simpa using congrArg vE i
 subst this;exact r.inj g
end
@[reducible]noncomputable def Cx.eI(X:Cx)(E:jp->kt->Prop):Cx:={ X with xe:=E }
@[reducible]noncomputable def Cx.dw(X:Cx):Cx:=X.eI λ _ _=>False
def Cx.Ok.eI{X:Cx}(ok:X.Ok)(E:jp->kt->Prop):(X.eI E).Ok :=
 ⟨ok.mod,ok.kind,ok.glob,ok.blt,ok.above,ok.inj,ok.has,ok.ub,ok.hd,ok.frames,ok.vQ,ok.HW,ok.bs,ok.nz,ok.n8,ok.qj,ok.fm,ok.pU⟩
def Cx.Ok.dP{X:Cx}{E:jp->kt->Prop}(ok:(X.eI E).Ok):X.Ok :=
 ⟨ok.mod,ok.kind,ok.glob,ok.blt,ok.above,ok.inj,ok.has,ok.ub,ok.hd,ok.frames,ok.vQ,ok.HW,ok.bs,ok.nz,ok.n8,ok.qj,ok.fm,ok.pU⟩
section
variable {X:Cx}{XV:List (uc×Obj)}{σ:St}{H:Hp}{s:kt}{E:jp->kt->Prop}
def Inv.eI(I:Inv X XV σ H s)(E:jp->kt->Prop):Inv (X.eI E) XV σ H s:=⟨I.ok.eI E,I.os,I.bare,I.base,I.loc,I.cell,I.free,I.c9,I.pin,I.hok,I.len⟩
def Inv.dP(I:Inv (X.eI E) XV σ H s):Inv X XV σ H s:=⟨I.ok.dP,I.os,I.bare,I.base,I.loc,I.cell,I.free,I.c9,I.pin,I.hok,I.len⟩
def SP.dP(h:SP (X.eI E) XV D f s'):SP X XV D f s':=by
 cases f with
 |next=>let⟨a,b,I,q⟩:=h;exact⟨a,b,I.dP,q⟩
 |brk=>let⟨a,b,I,q⟩:=h;exact⟨a,b,I.dP,q⟩
 |cont=>let⟨a,b,I,q⟩:=h;exact⟨a,b,I.dP,q⟩
 |ret u=>let⟨v,a,b,I,r,q⟩:=h;exact⟨v,a,b,I.dP,r,q⟩
def PE.dw(h:PE X.dw e t):PE X e t:=λ XV s σ H Q I hw =>
 wpAny_mono (h XV s σ H Q (I.eI _) hw) (λ _ _ ⟨v,b,a,r,q⟩=>⟨v,b,a.dP,r,q⟩) λ _ _ z=>False.elim z
def PT.dw(h:PT X.dw e t):PT X e t:=λ XV s σ H Q I hw =>
 wpAny_mono (h XV s σ H Q (I.eI _) hw) (λ _ _ ⟨b,a,q⟩=>⟨b,a.dP,q⟩) λ _ _ z=>False.elim z
def cG.dw{st:List uV}{t:TS}(h:cG X.dw st t):cG X st t:=λ XV s σ H D I hw =>
 wpAny_mono (h XV s σ H D (I.eI _) hw) (λ _ _ q=>q.dP) λ _ _ z=>False.elim z
end
section
variable {X:Cx}{st:uV}{rest:List uV}{t u:TS}{e:Expr}{te:TE}{pos:Pos}
abbrev K2:TS:=λ D σ H=>D.nx σ H
abbrev Jb(t u:TS):TS:=λ D σ H=>t { D with nx:=u D } σ H
def fw:cG X [] K2:=λ _ _ σ H _ I h=>wpAny_execs_nil ⟨σ,H,I,h⟩
def cA(g:PS X st t)(d:cG X rest u):cG X (st::rest) (Jb t u):=by
 intro b s σ H D I h;refine wpAny_execs_cons (aJ (g b s σ H { D with nx:=u D } I h) λ f c q=>?_);cases f with
 |next =>
  let⟨a,j,i,q⟩:=q;exact d b c a j D i q
 |ret v=>exact q
 |brk=>exact q
 |cont=>exact q
abbrev O4:TS:=λ D σ H=>D.bk σ H
abbrev So:TS:=λ D σ H=>D.ct σ H
def Nx:PS X (.Pass pos) K2:=λ _ _ σ H _ I h=>wpAny_Pass ⟨σ,H,I,h⟩
def JA:PS X (.Break pos) O4:=λ _ _ σ H _ I h=>wpAny_Break ⟨σ,H,I,h⟩
def BX:PS X (.Continue pos) So:=λ _ _ σ H _ I h=>wpAny_Continue ⟨σ,H,I,h⟩
def Inv.quiet{a:List (uc×Obj)}{σ:St}{H:Hp}{s:kt}(I:Inv X a σ H s):interactive X.env=false:=by simp[interactive,I.ok.kind]
abbrev K3(te:TE):TS:=λ D σ H=>te σ H λ _ a=>D.nx σ a
def Ny(he:PE X e te)(b:swapsWith e none pos.line X.env=pure false:=by rfl):PS X (.Expr e pos) (K3 te):=by
 intro c s σ H D I h;exact wpAny_Expr_any (aJ (he c s σ H _ I h) λ v g ⟨x,f,d,i,a⟩=>⟨σ,f,d,a⟩) I.quiet b
abbrev OY(te:TE):TS:=λ D σ H=>te σ H D.rt
def Af(he:PE X e te):PS X (.Return (some e) pos) (OY te):=by
 intro c s σ H D I h;exact wpAny_Return_some (aJ (he c s σ H _ I h) λ v g ⟨x,f,d,a,b⟩=>⟨x,σ,f,d,a,b⟩)
abbrev Sn:TS:=λ D _ H=>D.rt .non H
def Nw:PS X (.Return none pos) Sn:=λ _ _ σ H _ I h=>wpAny_Return_none ⟨.non,σ,H,I,rfl,h⟩
abbrev Jc(c:TT)(t u:TS):TS:=λ D σ H=>c σ H λ b a=>if b=true then t D σ a else u D σ a
def uA(hc:PT X c g)(n:cG X a t)(m:cG X b u):PS X (.If c a b pos) (Jc g t u):=by
 intro f s σ H D I h;refine wpAny_If (aJ (hc f s σ H _ I h) λ d i ⟨l,k,j⟩=>?_);cases d with
 |true=>exact n f i σ l D k j
 |false=>exact m f i σ l D k j
end
@[reducible]noncomputable def TG:=V->St->Hp->(St->Hp->Prop)->Prop
@[reducible]noncomputable def uk:=List V->St->Hp->(St->Hp->Prop)->Prop
abbrev PG(X:Cx)(target:Expr)(t:TG):Prop :=
 ∀(b:List (uc×Obj)) (s:kt) (σ:St) (H:Hp) (v:V) (u:jp) (Q:St->Hp->Prop),Inv X b σ H s->RelV v u->t v σ H Q ->
  wpAny (model X.prog X.w) X.A (assign target X.env u) (λ _ d=>∃a c,Inv X b a c d/\Q a c) X.xe s
abbrev IH(X:Cx)(ts:List Expr)(t:uk):Prop :=
 ∀(c:List (uc×Obj)) (s:kt) (σ:St) (H:Hp) (vs:List V) (b:List jp) (Q:St->Hp->Prop),Inv X c σ H s->Vals vs b->t vs σ H Q ->
  wpAny (model X.prog X.w) X.A (assignInOrder ((assignEach ts X.env).map (·.2)) b) (λ _ e=>∃a d,Inv X c a d e/\Q a d) X.xe s
@[reducible]noncomputable def FX:=V->V->V->Hp->(Hp->Prop)->Prop
abbrev KD(X:Cx)(t:FX):Prop :=
 ∀(c:List (uc×Obj)) (s:kt) (σ:St) (H:Hp) (o i v:V) (a b u:jp) (Q:Hp->Prop),Inv X c σ H s->RelV o a->RelV i b->RelV v u->t o i v H Q ->
  wpAny (model X.prog X.w) X.A (setItem a b u) (λ _ e=>∃d,Inv X c σ d e/\Q d) X.xe s
section
variable {X:Cx}{pos:Pos}
abbrev fX(i:Nat):TG:=λ v σ H Q=>Q (σ.set i (some v)) H
def iA(b:X.N.Nodup)(hi:X.N[i]?=some x)(hx:Loc X.env.scope x)(a:X.fn x=true\/X.env.scope.names.lookup x=some .local:=by first|exact .inl rfl|exact .inr rfl|assumption):PG X (.Name x pos) (fX i):=by
 intro e s σ H v u Q I r h;exact wpAny_assign_Name (mG I b hi hx r (λ d c=>⟨_,H,c,h⟩) a)
abbrev Fz:uk:=λ vs σ H Q=>vs=[]/\Q σ H
abbrev oY(t:TG)(u:uk):uk:=λ vs σ H Q=>∃v r,vs=v::r/\t v σ H λ a b=>u r a b Q
def sr:IH X [] Fz:=by
 intro b s σ H vs a Q I r h;let⟨e,h⟩:=h;subst e;cases r;exact assignInOrder_nil ⟨σ,H,I,h⟩
def kD{e:Expr}{es:List Expr}{t:TG}{u:uk}(j:PG X e t)(i:IH X es u)
  (g:(assignEach (e::es) X.env).map (·.2)=assign e X.env::(assignEach es X.env).map (·.2):=by rfl):IH X (e::es) (oY t u):=by
 intro b s σ H vs n Q I r h;let⟨v,m,e1,h⟩:=h;subst e1;cases r with
 |cons r d =>
  rw[g];refine assignInOrder_cons (aJ (j b s σ H _ _ _ I r h) λ _ c ⟨a,l,k,f⟩=>?_);exact i b c a l _ _ Q k d f
abbrev Fy(K:Q_)(n:Nat)(t:uk):TG:=λ v σ H Q=>∃a b,v=.ref a/\eF K H a b/\b.length=n/\t b σ H Q
def Ah{es:List Expr}{k:Nat}{t:uk}{n:Nat}(hc:X.calm=true)(h:IH X es t)
  (m:(assignEach es X.env).length=n:=by rfl) (c:(assignEach es X.env).findIdx? (·.1)=none:=by rfl):PG X (.Tuple es k pos) (Fy X.K n t):=by
 intro f s σ H v u Q I r hw;let⟨a,g,e1,l,p,hw⟩:=hw;subst e1;cases r;let⟨i,d,j,x⟩:=I.tuple l;refine assign_Tuple_tuple (I.ok.hd hc) j (by simp[m,<- p,d.length]) c λ q hx=>?_;have w:Inv X f σ H { s with heap:=q }:=I.kept (t':=s.toks) λ b o e=>hx b o (zF (zg e)) e;exact h f _ σ H g _ Q w (by simpa using d) hw
abbrev Rt(to a:TE)(t:FX):TG:=λ v σ H Q=>to σ H λ o d=>a σ d λ i c=>t o i v c λ b=>Q σ b
def PM{o i:Expr}{to d:TE}{t:FX}(ho:PE X o to)(hi:PE X i d)(n:KD X t)
  (p:∀v,assign (.Subscript o i pos) X.env v=(do
   let a<-holding [v] (eval o X.env)
   let b<-holding [v,a] (eval i X.env)
   standAt pos
   holding [v,a,b] (setItem a b v)
   release [v,a,b] []):=by intro _;rfl):PG X (.Subscript o i pos) (Rt to d t):=by
 intro c s σ H v u Q I r h;rw[p];refine zw (wpAny_holding (aJ (ho c s σ H _ I h) λ a f ⟨x,C,z,j,m⟩=>?_));refine zw (wpAny_holding (aJ (hi c f σ C _ z m) λ b e ⟨y,B,w,g,l⟩=>?_));refine zw (wpAny_standAt (zw (wpAny_holding (aJ (n c e σ B x y v a b u _ w j g r l) λ _ D ⟨A,q,k⟩=>?_))));exact wpAny_release ⟨σ,A,q,k⟩
abbrev vN(a:TE)(g:TG):TS:=λ D σ H=>a σ H λ x b=>g x σ b D.nx
def PH{f e:Expr}{i:TE}{g:TG}(he:PE X e i)(o:PG X f g)(n:swapsWithSole [f] e pos.line X.env=pure false:=by rfl)(hw:swappedStores [f] e X.env=pure none:=by rfl)
  (p:(assignEach [f] X.env).map (·.2)=[assign f X.env]:=by rfl):PS X (.Assign [f] e pos) (vN i g):=by
 intro j s σ H D I h;refine wpAny_Assign_stores (aJ (he j s σ H _ I h) λ v k ⟨x,r,q,l,m⟩=>?_) n hw;rw[p];exact aJ (o j k σ r x v _ q l m) λ _ t ⟨a,b,c,d⟩=>⟨a,b,c,d⟩
def lZ(g:X.N.Nodup)(hi:X.N[i]?=some x)(hx:Loc X.env.scope x)(he:PE X e a)(d:swapsWith e (some (.Name x pos')) pos.line X.env=pure false:=by rfl)(f:X.fn x=true\/X.env.scope.names.lookup x=some .local:=by first|exact .inl rfl|exact .inr rfl|assumption) :
  PS X (.Assign [.Name x pos'] e pos) (vN a (fX i)):=by
 intro j s σ H D I h;refine wpAny_Assign_Name (aJ (he j s σ H _ I h) λ v o ⟨y,m,l,b,c⟩=>?_) d;exact mG l g hi hx b (λ n k=>⟨_,m,k,c⟩) f
abbrev Gs(c:TT)(g:TS):TS:=λ D σ H=>∃W:Nat->St->Hp->Prop,(∃m,W m σ H)/\∀m σ H,W m σ H ->
 c σ H λ b e=>if b=true then ∃N:St->Hp->Prop,(∀a f,N a f->∃d,d<m/\W d a f)/\g { D with nx:=N,ct:=N,bk:=D.nx } σ e else D.nx σ e
def Jy(u:PassesOwn (model X.prog X.w) X.A X.env X.xe)(hc:PT X c r)(L:cG X body t):PS X (.While c body [] pos) (Gs r t):=by
 intro p s σ H D I h;obtain⟨W,⟨m0,F⟩,turn⟩:=h;refine wpAny_While (codeAny_whileLoop (λ n K=>∃e C,Inv X p e C K/\W n e C) ?_ m0 ⟨σ,H,I,F⟩);rintro n J ⟨d,B,M,E⟩;refine wpAny_passesOwn u (aJ (hc p J d B _ M (turn n d B E)) λ b G ⟨z,y,j⟩=>?_);cases b with
 |true =>
  let⟨N,x,j⟩:=j;rw[if_pos rfl];refine wpAny_passesOwn u (aJ (L p G d z _ y j) λ f O i=>?_);cases f with
  |next =>
   let⟨a,g,q,l⟩:=i;let⟨m,o,k⟩:=x a g l;exact⟨m,o,a,g,q,k⟩
  |cont =>
   let⟨a,g,q,l⟩:=i;let⟨m,o,k⟩:=x a g l;exact⟨m,o,a,g,q,k⟩
  |brk=>exact i
  |ret v=>exact i
 |false =>
  rw[if_neg zn];exact wpAny_execs_nil ⟨d,z,y,j⟩
end
structure It where
 go:Nat->Hp->Prop
 kq:Nat->Hp->V->Hp->Prop
 stop:Nat->Hp->Prop
abbrev jL(X:Cx)(a:List (uc×Obj))(H:Hp)(b:uc):Prop :=
 H b=none/\b≠X.env.locals/\b ∉ X.fs/\(b∈X.ex\/X.s₀.heap.objs.size<=b)/\(∀x c,X.env.cells.lookup x=some c->c≠b)/\∀p∈X.pn++a,p.1≠b
def Inv.lS{X:Cx}{d:List (uc×Obj)}{σ:St}{H f:Hp}{s:kt}{b:uc}(I:Inv X d σ H s)(a:s.heap.objs.size<=b)(h:f b=none):jL X d f b:=by
 refine⟨h,yi (ze I.lt a),I.VM a,.inr (zG I.sz a),λ x c e z=>?_,λ p g z=>?_⟩
 ·let⟨v,q⟩:=I.cell x c e
  exact absurd (ze q.lt (by rw[z];exact a)) (yg _)
 ·exact absurd (ze (zg (I.pin p g).1) (by rw[z];exact a)) (yg _)
structure Turn (P:uf) (w:ul) (K:Q_) (tg:Expr) (J:It) (fp:List uc) (it:uc) (tn:Nat->Heap->Prop):Prop where
 mem:it∈fp
 obj:∀i h,tn i h->∀b∈fp,∃o,h.get? b=some o/\∀v,o.data≠.cell v
 keep:∀i h h',tn i h->(∀b∈fp,∀o,h.get? b=some o->h'.get? b=some o)->tn i h'
 item:∀(X:Cx),X.prog=P->X.w=w->X.K=K->X.calm=true->∀(i:Nat) (XV:List (uc×Obj)) (s:kt) (σ:St) (H:Hp) (E:jp->kt->Prop),Inv X XV σ H s->(∀b∈fp,jL X XV H b)->tn i s.heap->J.go i H ->
  wpAny (model P w) X.A (pyNext (.ref it)) (λ r s1=>∃u,r=some u /\
   wpAny (model P w) X.A (letOwnedTupleGo tg (.ref it) u) (λ _ s2=>∃x H',Inv X XV σ H' s2/\RelV x u/\J.kq i H x H'/\tn (i+1) s2.heap/\∀b∈fp,H' b=none) E s1) E s
 done:∀(X:Cx),X.prog=P->X.w=w->X.K=K->X.calm=true->∀(i:Nat) (XV:List (uc×Obj)) (s:kt) (σ:St) (H:Hp) (E:jp->kt->Prop),Inv X XV σ H s->(∀b∈fp,jL X XV H b)->tn i s.heap->J.stop i H ->
  wpAny (model P w) X.A (pyNext (.ref it)) (λ r s1=>r=none/\Inv X XV σ H s1) E s
 self:∀(A:ut) (i:Nat) (s:kt) (Q:jp->kt->Prop) (E:jp->kt->Prop),tn i s.heap->Q (.ref it) s->wpAny (model P w) A (pyIter (.ref it)) Q E s
@[reducible]noncomputable def TI:=St->Hp->(It->Hp->Prop)->Prop
abbrev Vf(X:Cx)(g:List (uc×Obj))(σ:St)(h:Expr)(R:It->Hp->Prop)(i:jp)(d:kt):Prop :=
 ∃(e:uc) (f:List uc) (c:Nat->Heap->Prop) (J:It) (a:Hp),i=.ref e/\Inv X g σ a d/\Turn X.prog X.w X.K h J f e c/\c 0 d.heap/\(∀b∈f,jL X g a b)/\R J a
abbrev PI(X:Cx)(c iter:Expr)(b:TI):Prop :=
 ∀(a:List (uc×Obj)) (s:kt) (σ:St) (H:Hp) (R:It->Hp->Prop),Inv X a σ H s->b σ H R ->
  wpAny (model X.prog X.w) X.A (eval iter X.env) (λ v d=>wpAny (model X.prog X.w) X.A (pyIter v) (Vf X a σ c R) X.xe d) X.xe s
def oW(ho:s.heap.get? it=some o)(hc:o.cls=.type n)(hd:o.data=.fields vs)
  (c:["enumerate","zip","dict_itemiterator","dict_reverseitemiterator","odict_iterator","itertools.zip_longest","itertools.pairwise"].contains n=false) (a:Q () s):wpAny M A (letOwnedTupleGo b (.ref it) u) Q E s:=by
 unfold letOwnedTupleGo;cases b <;> first
  |exact zo a
  | (cases u <;> first
    |exact zo a
    | (refine zw (wpAny_load ho ?_)
       rw[hc,hd];show wpAny M A (if (["enumerate","zip","dict_itemiterator","dict_reverseitemiterator","odict_iterator","itertools.zip_longest","itertools.pairwise"].contains n&&vs[0]?==some (rawInt _))=true then _ else _) Q E s;rw[if_neg (by intro h;rw[c,zL]at h;cases h)];exact zo a))
abbrev Vl(K:Q_)(a:uc):It :=
 ⟨λ i H=>∃b x,bx K H a b/\b[i]?=some x,λ i H x c=>c=H/\∀b,bx K H a b->b[i]?=some x,λ i H=>∃b,bx K H a b/\b.length<=i⟩
abbrev Vj(K:Q_)(a:uc):It :=
 ⟨λ i H=>∃b x,eF K H a b/\b[i]?=some x,λ i H x c=>c=H/\∀b,eF K H a b->b[i]?=some x,λ i H=>∃b,eF K H a b/\b.length<=i⟩
abbrev MA(lo:Int)(n:Nat):It:=⟨λ i _=>i<n,λ i H x a=>a=H/\x=.int (lo+i),λ i _=>n<=i⟩
def Gj{P:uf}{w:ul}{K:Q_}{L:Expr}(a it:uc):Turn P w K L (Vl K a) [it] it (λ i h=>h.IsListIter it a i) where
 mem:=by simp
 obj:=λ i h st b f=>by
  have e:b=it:=by simpa using f
  subst e;let⟨o,e,c,d⟩:=st;exact⟨o,e,λ v z=>by rw[d]at z;cases z⟩
 keep:=λ i h m st k=>st.at λ o e=>k it (by simp) o e
 item:=by
  intro X t hw y hc i G s σ H E I l st r;subst t hw y;let⟨J,x,j,hx⟩:=r;let⟨q,n,p,O⟩:=I.list j;let⟨u,hu,N⟩:=n.get hx;let⟨F,D,R,C,B,A⟩:=l it (by simp);refine wpAny_pyNext_list_item st p.isList (x:=u) (by simpa using hu) λ m g M=>?_;have T:Inv X G σ H { s with heap:=m }:=I.turned (t':=s.toks) (λ b o f e=>(M.2 b f).trans e) F D C B A;let⟨o,e,c,d⟩:=id g;exact⟨u,rfl,oW (s:={ s with heap:=m }) e c d (by decide) ⟨x,H,T,N,⟨rfl,λ U Q=>by rw[I.iD Q j];exact hx⟩,g,λ b f=>(l b f).1⟩⟩
 done:=by
  intro X t hw y hc i G s σ H E I l st r;subst t hw y;let⟨J,j,hx⟩:=r;let⟨q,n,p,O⟩:=I.list j;let⟨F,D,R,C,B,A⟩:=l it (by simp);have V:=n.length;exact wpAny_pyNext_list_end (I.ok.hd hc) st p.isList (by simp;omega) λ m S=>⟨rfl,I.turned (t':=s.toks) (λ b o f e=>S b o f e) F D C B A⟩
 self:=λ _ _ _ _ _ st h=>wpAny_pyIter_listiter st h
def DS{P:uf}{w:ul}{K:Q_}{L:Expr}(a it:uc):Turn P w K L (Vj K a) [it] it (λ i h=>h.IsTupleIter it a i) where
 mem:=by simp
 obj:=λ i h st b g=>by
  have e:b=it:=by simpa using g
  subst e;let⟨o,e,c,d⟩:=st;exact⟨o,e,λ v z=>by rw[d]at z;cases z⟩
 keep:=λ i h n st k=>st.at λ o e=>k it (by simp) o e
 item:=by
  intro X t hw y hc i G s σ H E I m st r;subst t hw y;let⟨J,x,l,hx⟩:=r;let⟨f,q,p,O⟩:=I.tuple l;let⟨u,hu,N⟩:=q.get hx;let⟨F,D,R,C,B,A⟩:=m it (by simp);refine wpAny_pyNext_tuple_item st (show s.heap.IsTuple a f.toArray from p) (x:=u) (by simpa using hu) λ n j M=>?_;have T:Inv X G σ H { s with heap:=n }:=I.turned (t':=s.toks) (λ b o g e=>(M.2 b g).trans e) F D C B A;let⟨o,e,c,d⟩:=id j;exact⟨u,rfl,oW (s:={ s with heap:=n }) e c d (by decide) ⟨x,H,T,N,⟨rfl,λ U Q=>by rw[I.tu Q l];exact hx⟩,j,λ b g=>(m b g).1⟩⟩
 done:=by
  intro X t hw y hc i G s σ H E I m st r;subst t hw y;let⟨J,l,hx⟩:=r;let⟨f,q,p,O⟩:=I.tuple l;let⟨F,D,R,C,B,A⟩:=m it (by simp);have V:=q.length;exact wpAny_pyNext_tuple_end (I.ok.hd hc) st (show s.heap.IsTuple a f.toArray from p) (by simp;omega) λ n S=>⟨rfl,I.turned (t':=s.toks) (λ b o g e=>S b o g e) F D C B A⟩
 self:=λ _ _ _ _ _ st h=>wpAny_pyIter_tupleiter st h
def DT{P:uf}{w:ul}{K:Q_}{B:Expr}(it:uc)(lo:Int)(n:Nat):Turn P w K B (MA lo n) [it] it (λ i h=>IsRangeIter h it (lo+(i:Nat)*1) ((n:Int)-(i:Nat)) 1) where
 mem:=by simp
 obj:=λ i h st b a=>by
  have e:b=it:=by simpa using a
  subst e;exact⟨_,st,λ v z=>by
   have A:Data.fields _=Data.cell v:=z;cases A⟩
 keep:=λ i h f st k=>k it (by simp) _ st
 item:=by
  intro X j hw l hc i y s σ H E I d st g;subst j hw l;let⟨u,r,D,q,p,m⟩:=d it (by simp);have W:=Walks.range (prog:=X.prog) (w:=X.w) (I.ok.hd hc) it lo 1 n;refine W.item i s _ _ g st λ v f x hv c C=>?_;let⟨t,rfl⟩:=hv;have G:Inv X y σ H { s with heap:=f,toks:=x }:=I.turned (λ b o a e=>C b o (by simpa using a) e) u r q p m;refine⟨_,rfl,oW (s:={ s with heap:=f,toks:=x }) (n:="range_iterator") c rfl rfl (by decide) ⟨.int (lo+i),H,G,⟨t,?_⟩,⟨rfl,rfl⟩,c,λ b a=>(d b a).1⟩⟩;rw[Int.mul_one]
 done:=by
  intro X j hw l hc i y s σ H E I d st g;subst j hw l;let⟨u,r,D,q,p,m⟩:=d it (by simp);exact wpAny_pyNext_range_end (I.ok.hd hc) st (by have:n<=i:=g;omega) λ f F=>⟨rfl,I.turned (t':=s.toks) (λ b o a e=>F b o a e) u r q p m⟩
 self:=λ _ _ _ _ _ st h=>wpAny_pyIter_rangeiter st h
section
variable {X:Cx}{tg:Expr}
def Ju{c:List (uc×Obj)}{σ:St}{H:Hp}{s:kt}{R:It->Hp->Prop}{E:jp->kt->Prop}{lo hi:Int}{t u v:Tok}{a:Nat}(I:Inv X c σ H s)(j:-(2 ^ 62)<=lo)(i:lo<2 ^ 62)(h:-(2 ^ 62)<=hi)(g:hi<2 ^ 62)
  (q:R (MA lo (hi-lo).toNat) H):wpAny (model X.prog X.w) X.A (pyIter (.ref s.heap.objs.size)) (Vf X c σ tg R) E { s with heap:=s.heap.push { cls:=.type "range",data:=.fields #[.int lo t,.int hi u,.int 1 v] },toks:=a }:=by
 refine wpAny_pyIter_range (IsRange.new ..) (small_one j i h g) ?_;have d:Inv X c σ H { s with heap:=s.heap.push { cls:=.type "range",data:=.fields #[.int lo t,.int hi u,.int 1 v] },toks:=a }:=I.kept λ b o e=>zv _ e;refine⟨(s.heap.push { cls:=.type "range",data:=.fields #[.int lo t,.int hi u,.int 1 v] }).objs.size,[(s.heap.push { cls:=.type "range",data:=.fields #[.int lo t,.int hi u,.int 1 v] }).objs.size],_,_,H,rfl,
  d.kept (t':=a) λ b o e=>zv _ e,DT _ lo (hi-lo).toNat,?_,λ b f=>?_,q⟩
 ·have e1:lo+((0:Nat):Int)*1=lo:=by simp
  have k:(((hi-lo).toNat:Nat):Int)-((0:Nat):Int)=Builtin.Range.rangeSize lo hi 1:=by rw[rangeSize_one];split <;> omega
  show IsRangeIter _ _ (lo+((0:Nat):Int)*1) ((((hi-lo).toNat:Nat):Int)-((0:Nat):Int)) 1;rw[e1,k];exact zC _ rfl
 ·have e:b=(s.heap.push { cls:=.type "range",data:=.fields #[.int lo t,.int hi u,.int 1 v] }).objs.size:=by simpa using f
  subst e;exact d.lS (zq _) (d.hok.fresh (zq _))
abbrev LM(a:TA):TI:=λ σ H R=>a σ H λ vs b=>∃j:Int,vs=[.int j]/\-(2 ^ 62)<=j/\j<2 ^ 62/\R (MA 0 j.toNat) b
def GZ(l:Gl X "range")(k:X.mg "range" = none)(m:PA X [a] c)(i:starEach [a] X.env=[(false,eval a X.env)]:=by rfl):PI X tg (.Call (.Name "range" p) [a] [] pos) (LM c):=by
 intro n s σ H R I h;refine Call_ (kG I l k boot_range (W_ (aJ (m pos n s σ H _ I h) λ u v ⟨vs,w,o,f,b⟩=>?_) i rfl));let⟨j,e,b,g,q⟩:=b;subst e;cases f with
 |cons r d =>
  cases d;let⟨t,rfl⟩:=r;exact call_range_1 (Ju o (by first|lia|omega) (by first|lia|omega) b g (by simpa using q))
abbrev u6(e:TI)(g:TG)(f:TS):TS:=λ D σ H=>e σ H λ J j=>∃W:Nat->Nat->St->Hp->Prop,(∃m,W 0 m σ j)/\∀i m σ H,W i m σ H ->
 (J.stop i H/\D.nx σ H)\/(J.go i H/\∃N:St->Hp->Prop,(∀a b,N a b->∃d,d<m/\W (i+1) d a b)/\∀x b,J.kq i H x b->g x σ b λ c h=>f { D with nx:=N,ct:=N,bk:=D.nx } c h)
abbrev nW(a:List uc)(h:Heap):List (uc×Obj):=a.filterMap λ b=>(h.get? b).map λ o=>(b,o)
def jV(c:b∈a)(e:h.get? b=some o):(b,o)∈nW a h:=wL.mpr ⟨b,c,by rw[e];rfl⟩
def G3(c:p∈nW a h):p.1∈a/\h.get? p.1=some p.2:=by
 let⟨b,d,e⟩:=wL.mp c;cases q:h.get? b with
 |none=>rw[q]at e;cases e
 |some o =>
  rw[q]at e;have f:(b,o)=p:=Option.some.inj e;subst f;exact⟨d,q⟩
def Inv.pinned{c:List (uc×Obj)}{σ:St}{H:Hp}{s:kt}{a:List uc}(I:Inv X c σ H s)(i:∀b∈a,jL X c H b)(ho:∀b∈a,∃o,s.heap.get? b=some o/\∀v,o.data≠.cell v):Inv X (c++nW a s.heap) σ H s :=
 I.sk λ p h=>(zQ.mp h).elim (λ z=>I.pin p (zN _ z)) λ z=>by
  let⟨f,e⟩:=G3 z;let⟨l,k,j,_⟩:=i p.1 f;let⟨o,g,d⟩:=ho p.1 f;rw[e]at g;cases g;exact⟨e,l,k,j,d⟩
def Inv.iq{a pl:List (uc×Obj)}{σ:St}{H:Hp}{s:kt}(I:Inv X (a++pl) σ H s):Inv X a σ H s:=I.sk λ p b=>I.pin p (zN _ (zZ _ b))
def qM(B:PassesOwn (model X.prog X.w) X.A X.env X.xe)(hc:X.calm=true)(hi:PI X tg iter P)(hg:PG X tg g)(l:cG X body R)
  (hs:∀x,foldedSetIterable iter X.env x=pure x:=by intro _;rfl):PS X (.For tg iter body [] pos) (u6 P g R):=by
 intro y s σ H D I h;refine wpAny_For (aJ (hi y s σ H _ I h) λ v s1 h1=>aJ h1 λ LC s2 h2=>?_) hs;obtain⟨it,C,Q,J,H2,e,I2,T,G,Y,W,⟨m0,w0⟩,turn⟩:=h2;subst e;have k:∀{H':Hp},(∀b∈C,H' b=none)->∀b∈C,jL X y H' b:=λ hn b l=>⟨hn b l,(Y b l).2⟩;refine codeAny_forLoop_any (λ n V=>∃i j H',Inv X y j H' V/\Q i V.heap/\(∀b∈C,H' b=none)/\W i n j H') ?_ m0 ⟨0,σ,H2,I2,G,λ b l=>(Y b l).1,w0⟩;rintro n U ⟨i,c,E,I3,Z,U3,w3⟩;rcases turn i n c E w3 with ⟨stop,qn⟩|⟨go,N,hN,step⟩
 ·refine wpAny_passesOwn B (aJ (T.done X rfl rfl rfl hc i y U c E X.xe I3 (k U3) Z stop) λ r s4 ⟨L,I4⟩=>?_)
  subst L;exact wpAny_execs_nil ⟨c,E,I4,qn⟩
 ·refine wpAny_passesOwn B (aJ (T.item X rfl rfl rfl hc i y U c E X.xe I3 (k U3) Z go) λ r s4 ⟨u,L,h4⟩=>?_)
  subst L;refine wpAny_passesOwn B (aJ h4 λ _ S ⟨x,H5,I5,r5,y5,M,ZO⟩=>?_);have O:=I5.pinned (k ZO) (T.obj _ _ M);refine wpAny_passesOwn B (aJ (hg _ S c H5 x u _ O r5 (step x H5 y5)) λ _ s6 ⟨F,H6,I6,q6⟩=>?_);refine wpAny_passesOwn B (aJ (l _ s6 F H6 _ I6 q6) λ f K t=>?_);have again:∀{a:St} {q:Hp},Inv X (y++nW C S.heap) a q K->N a q->∃m,m<n/\∃i j H',Inv X y j H' K/\Q i K.heap/\(∀b∈C,H' b=none)/\W i m j H':=λ {a q} p z=>by
   let⟨m',hm,w7⟩:=hN a q z;refine⟨m',hm,i+1,a,q,p.iq,T.keep _ _ _ M λ b l o e=>(p.pin (b,o) (zN _ (zN _ (jV l e)))).1,λ b l=>?_,w7⟩;let⟨o,e,d⟩:=T.obj _ _ M b l;exact(p.pin (b,o) (zN _ (zN _ (jV l e)))).2.1
  cases f with
  |next=>let⟨a,q,p,z⟩:=t;exact again p z
  |cont=>let⟨a,q,p,z⟩:=t;exact again p z
  |brk=>let⟨a,q,p,t⟩:=t;exact⟨a,q,p.iq,t⟩
  |ret v=>let⟨x7,a,q,p,r7,t⟩:=t;exact⟨x7,a,q,p.iq,r7,t⟩
end
@[reducible]noncomputable def R2:=V->V->Hp->VK->Prop
abbrev dD(X:Cx)(f:jp->jp->Sem jp)(r:R2):Prop :=
 ∀(a:List (uc×Obj)) (s:kt) (σ:St) (H:Hp) (x y:V) (v u:jp) (Q:VK),Inv X a σ H s->RelV x v->RelV y u->r x y H Q ->
  wpAny (model X.prog X.w) X.A (f v u) (EP X a σ Q) X.xe s
abbrev RV(X:Cx)(f:jp->Sem jp)(r:V->Hp->VK->Prop):Prop :=
 ∀(a:List (uc×Obj)) (s:kt) (σ:St) (H:Hp) (x:V) (v:jp) (Q:VK),Inv X a σ H s->RelV x v->r x H Q ->
  wpAny (model X.prog X.w) X.A (f v) (EP X a σ Q) X.xe s
abbrev dH(X:Cx)(f:jp)(r:List V->Hp->VK->Prop):Prop :=
 ∀(c:List (uc×Obj)) (s:kt) (σ:St) (H:Hp) (a:List V) (b:List jp) (Q:VK),Inv X c σ H s->Vals a b->r a H Q ->
  wpAny (model X.prog X.w) X.A (call f b) (EP X c σ Q) X.xe s
abbrev RW(X:Cx)(r:V->Hp->(Bool->Hp->Prop)->Prop):Prop :=
 ∀(a:List (uc×Obj)) (s:kt) (σ:St) (H:Hp) (x:V) (v:jp) (Q:Bool->Hp->Prop),Inv X a σ H s->RelV x v->r x H Q ->
  wpAny (model X.prog X.w) X.A (truthy v) (TP X a σ Q) X.xe s
abbrev Gu(r:R2)(b a:TE):TE:=λ σ H Q=>b σ H λ x d=>a σ d λ y c=>r x y c Q
abbrev T5(r:V->Hp->VK->Prop)(a:TE):TE:=λ σ H Q=>a σ H λ x b=>r x b Q
abbrev rI(C:Int->Int->Prop)(g:Int->Int->V):R2:=λ x y H Q=>∃i j,x=.int i/\y=.int j/\C i j/\Q (g i j) H
abbrev tL(g:Int->Int->V):R2:=λ x y H Q=>∃i j,x=.int i/\y=.int j/\Q (g i j) H
abbrev rU(g:Int->V):V->Hp->VK->Prop:=λ x H Q=>∃i,x=.int i/\Q (g i) H
section
variable {X:Cx}{a b c:Expr}{ta tb tc:TE}{pos:Pos}
def Kr(t:PE X a ta)(r:PE X b tb){j:List (uc×Obj)}{s:kt}{σ:St}{H:Hp}{R:V->V->Hp->Prop}(I:Inv X j σ H s)
  (h:ta σ H λ x k=>tb σ k λ y d=>R x y d) {Q:jp->kt->Prop} {f:jp->jp->Sem jp}
  (q:∀v u i x y d,Inv X j σ d i->RelV x v->RelV y u->R x y d->wpAny (model X.prog X.w) X.A (f v u) Q X.xe i) :
  wpAny (model X.prog X.w) X.A (eval a X.env) (λ v g=>wpAny (model X.prog X.w) X.A (eval b X.env) (λ u e=>wpAny (model X.prog X.w) X.A (f v u) Q X.xe e) X.xe g) X.xe s:=by
 refine aJ (t j s σ H _ I h) λ v l ⟨x,k,B,n,p⟩=>?_;refine aJ (r j l σ k _ B p) λ u i ⟨y,d,z,m,o⟩=>?_;exact q v u i x y d z n m o
def SS(ho:dD X (binaryOp d) r)(j:PE X a ta)(i:PE X b tb):PE X (.BinOp a d b pos) (Gu r ta tb):=by
 intro k s σ H Q I h;exact wpAny_BinOp (Kr j i I h λ v u e x y m l g f q=>ho k e σ m x y v u Q l g f q)
def SR(ho:RV X (unaryOp d) r)(j:PE X a ta):PE X (.UnaryOp d a pos) (T5 r ta):=by
 intro e s σ H Q I h;exact UnaryOp_ (aJ (j e s σ H _ I h) λ v f ⟨x,l,k,g,i⟩=>ho e f σ l x v Q k g i)
def Lj{f:jp->jp->Sem jp}{C:Int->Int->Prop}{g:Int->Int->Int}
  (rule:∀(i j:Int) (t u:Tok) (s:kt) (Q:jp->kt->Prop) (E:jp->kt->Prop),C i j->Q (.int (g i j) s.toks) { s with toks:=s.toks+1 }->wpAny (model X.prog X.w) X.A (f (.int i t) (.int j u)) Q E s) :
  dD X f (rI C λ i j=>.int (g i j)):=by
 intro l s σ H x y v u Q I k e h;let⟨i,j,rfl,rfl,hc,q⟩:=h;let⟨t,rfl⟩:=k;let⟨d,rfl⟩:=e;exact rule i j t d s _ _ hc ⟨.int (g i j),H,I.tok _,⟨_,rfl⟩,q⟩
def Qe{f:jp->jp->Sem jp}{g:Int->Int->Int}
  (rule:∀(i j:Int) (t u:Tok) (s:kt) (Q:jp->kt->Prop) (E:jp->kt->Prop),Q (.int (g i j) s.toks) { s with toks:=s.toks+1 }->wpAny (model X.prog X.w) X.A (f (.int i t) (.int j u)) Q E s) :
  dD X f (tL λ i j=>.int (g i j)):=by
 intro l s σ H x y v u Q I k e h;let⟨i,j,rfl,rfl,q⟩:=h;let⟨t,rfl⟩:=k;let⟨d,rfl⟩:=e;exact rule i j t d s _ _ ⟨.int (g i j),H,I.tok _,⟨_,rfl⟩,q⟩
def ET{f:jp->jp->Sem jp}{g:Int->Int->Bool}
  (rule:∀(i j:Int) (t u:Tok) (s:kt) (Q:jp->kt->Prop) (E:jp->kt->Prop),Q (.bool (g i j)) s->wpAny (model X.prog X.w) X.A (f (.int i t) (.int j u)) Q E s) :
  dD X f (tL λ i j=>.bl (g i j)):=by
 intro l s σ H x y v u Q I k e h;let⟨i,j,rfl,rfl,q⟩:=h;let⟨t,rfl⟩:=k;let⟨d,rfl⟩:=e;exact rule i j t d s _ _ ⟨.bl (g i j),H,I,rfl,q⟩
abbrev Wv(i j:Int):Prop:=0<j/\j<1073741824
abbrev Wu(i j:Int):Prop:=0<=j/\j<=1000000/\i.natAbs<2 ^ 64
abbrev KJ(i j:Int):Prop:=(-(2 ^ 64)<i/\i<2 ^ 64)\/(-(2 ^ 64)<j/\j<2 ^ 64)
def KJ.ok(h:KJ i j):IntMulOk i j:=by
 rcases h with ⟨e,d⟩|⟨e,d⟩
 ·exact .of_left (intBits_le_64 e d)
 ·exact .of_right (intBits_le_64 e d)
def Qd:dD X (binaryOp .Add) (tL λ i j=>.int (i+j)):=Qe λ _ _ _ _ _ _ _ q=>add_int q
def PX:dD X (binaryOp .Sub) (tL λ i j=>.int (i-j)):=Qe λ _ _ _ _ _ _ _ q=>sub_int q
def PZ:dD X (binaryOp .Mult) (rI KJ λ i j=>.int (i*j)):=Lj λ _ _ _ _ _ _ _ hc q=>mul_int q hc.ok
def NK:dD X (binaryOp .FloorDiv) (rI Wv λ i j=>.int (i / j)):=Lj λ i j _ _ _ _ _ hc q=>by
 have e:(0:Int)<j:=hc.1;have d:j<1073741824:=hc.2;exact floordiv_int (by first|lia|omega) (by rw[Int.fdiv_eq_ediv_of_nonneg i (by first|lia|omega)];exact q) (.inl (PyProof.noPylong_small (by first|lia|omega)))
def P0:dD X (binaryOp .Mod) (rI (λ _ j=>0<j) λ i j=>.int (i % j)):=Lj λ i j _ _ _ _ _ hc q=>by
 have d:(0:Int)<j:=hc;exact mod_int' (by first|lia|omega) (by rw[Int.fmod_eq_emod_of_nonneg i (by first|lia|omega)];exact q)
def PY:dD X (binaryOp .Pow) (rI Wu λ i j=>.int (i ^ j.toNat)):=Lj λ _ _ _ _ _ _ _ hc q=>pow_int_small hc.1 hc.2.1 hc.2.2 q
def XH{f:jp->Sem jp}{g:Int->Int}
  (rule:∀(i:Int) (t:Tok) (s:kt) (Q:jp->kt->Prop) (E:jp->kt->Prop),Q (.int (g i) s.toks) { s with toks:=s.toks+1 }->wpAny (model X.prog X.w) X.A (f (.int i t)) Q E s) :
  RV X f (rU λ i=>.int (g i)):=by
 intro e s σ H x v Q I d h;let⟨i,rfl,q⟩:=h;let⟨t,rfl⟩:=d;exact rule i t s _ _ ⟨.int (g i),H,I.tok _,⟨_,rfl⟩,q⟩
def OS:RV X (unaryOp .USub) (rU λ i=>.int (-i)):=XH λ _ _ _ _ _ q=>neg_int q
abbrev Pl:V->V->Bool
 |.non,.non=>true|.non,.int _=>true|.int _,.non=>true|.non,.bl _=>true|.bl _,.non=>true|.non,.str _=>true|.str _,.non=>true
 |.int _,.int _=>true|.bl _,.bl _=>true|.str _,.str _=>true|.byt _,.byt _=>true
 |.int _,.str _=>true|.str _,.int _=>true|.bl _,.str _=>true|.str _,.bl _=>true
 |_,_=>false
abbrev XX:R2:=λ x y H Q=>Pl x y=true/\Q (.bl (decide (x=y))) H
abbrev XW:R2:=λ x y H Q=>Pl x y=true/\Q (.bl (!decide (x=y))) H
def Ds:decide (V.int i=V.int j)=(i==j):=by
 rw[zV];simp
def Ig:decide (V.bl i=V.bl j)=(i==j):=by
 rw[zV];simp
def Dr:decide (V.str i=V.str j)=(i==j):=by
 rw[zV];simp
def Dt:decide (V.byt i=V.byt j)=(i.toList==j.toList):=by
 rw[zV];cases i;cases j;simp
def a8{d:List (uc×Obj)}{σ:St}{H:Hp}{s:kt}{Q:VK}{k k':Bool}(I:Inv X d σ H s)(q:Q (.bl k) H)(e:k=k'):EP X d σ Q (.bool k') s:=by
 subst e;exact⟨.bl k,H,I,rfl,q⟩
def S8:dD X (compareOp .Eq) XX:=by
 intro k s σ H x y v u Q I g d h;let⟨f,q⟩:=h;cases x with
 |non =>
  cases g;cases y with
  |non=>cases d;exact PySem.EqNone.eq_none_none (a8 I q (by simp))
  |bl j=>cases d;exact PySem.EqNone.eq_none_bool (a8 I q (by simp))
  |int j=>let⟨e,rfl⟩:=d;exact PySem.EqNone.eq_none_int (a8 I q (by simp))
  |str j=>let⟨e,rfl⟩:=d;exact PySem.EqNone.eq_none_str (a8 I q (by simp))
  |_=>exact absurd (show false=true from f) zn
 |bl i =>
  cases g;cases y with
  |non=>cases d;exact PySem.EqNone.eq_bool_none (a8 I q (by simp))
  |bl j=>cases d;exact eq_bool (a8 I q Ig)
  |str j=>let⟨e,rfl⟩:=d;exact PySem.EqMixed.eq_bool_str (a8 I q (by simp))
  |_=>exact absurd (show false=true from f) zn
 |int i =>
  let⟨t,rfl⟩:=g;cases y with
  |non=>cases d;exact PySem.EqNone.eq_int_none (a8 I q (by simp))
  |int j=>let⟨e,rfl⟩:=d;exact eq_int (a8 I q Ds)
  |str j=>let⟨e,rfl⟩:=d;exact PySem.EqMixed.eq_int_str (a8 I q (by simp))
  |_=>exact absurd (show false=true from f) zn
 |str i =>
  let⟨t,rfl⟩:=g;cases y with
  |non=>cases d;exact PySem.EqNone.eq_str_none (a8 I q (by simp))
  |bl j=>cases d;exact PySem.EqMixed.eq_str_bool (a8 I q (by simp))
  |int j=>let⟨e,rfl⟩:=d;exact PySem.EqMixed.eq_str_int (a8 I q (by simp))
  |str j=>let⟨e,rfl⟩:=d;exact eq_str (a8 I q Dr)
  |_=>exact absurd (show false=true from f) zn
 |byt i =>
  let⟨t,rfl⟩:=g;cases y with
  |byt j=>let⟨e,rfl⟩:=d;exact PySem.W.eq_bytes (a8 I q Dt)
  |_=>exact absurd (show false=true from f) zn
 |_=>cases y <;> exact absurd (show false=true from f) zn
def SV:dD X (compareOp .NotEq) XW:=by
 intro k s σ H x y v u Q I g d h;let⟨f,q⟩:=h;cases x with
 |non =>
  cases g;cases y with
  |non=>cases d;exact PySem.EqNone.ne_none_none (a8 I q (by simp))
  |bl j=>cases d;exact PySem.EqNone.ne_none_bool (a8 I q (by simp))
  |int j=>let⟨e,rfl⟩:=d;exact PySem.EqNone.ne_none_int (a8 I q (by simp))
  |str j=>let⟨e,rfl⟩:=d;exact PySem.EqNone.ne_none_str (a8 I q (by simp))
  |_=>exact absurd (show false=true from f) zn
 |bl i =>
  cases g;cases y with
  |non=>cases d;exact PySem.EqNone.ne_bool_none (a8 I q (by simp))
  |bl j=>cases d;exact ne_bool (a8 I q (congrArg not Ig))
  |str j=>let⟨e,rfl⟩:=d;exact PySem.EqMixed.ne_bool_str (a8 I q (by simp))
  |_=>exact absurd (show false=true from f) zn
 |int i =>
  let⟨t,rfl⟩:=g;cases y with
  |non=>cases d;exact PySem.EqNone.ne_int_none (a8 I q (by simp))
  |int j=>let⟨e,rfl⟩:=d;exact ne_int (a8 I q (congrArg not Ds))
  |str j=>let⟨e,rfl⟩:=d;exact PySem.EqMixed.ne_int_str (a8 I q (by simp))
  |_=>exact absurd (show false=true from f) zn
 |str i =>
  let⟨t,rfl⟩:=g;cases y with
  |non=>cases d;exact PySem.EqNone.ne_str_none (a8 I q (by simp))
  |bl j=>cases d;exact PySem.EqMixed.ne_str_bool (a8 I q (by simp))
  |int j=>let⟨e,rfl⟩:=d;exact PySem.EqMixed.ne_str_int (a8 I q (by simp))
  |str j=>let⟨e,rfl⟩:=d;exact ne_str (a8 I q (congrArg not Dr))
  |_=>exact absurd (show false=true from f) zn
 |byt i =>
  let⟨t,rfl⟩:=g;cases y with
  |byt j=>let⟨e,rfl⟩:=d;exact PySem.W.ne_bytes (a8 I q (congrArg not Dt))
  |_=>exact absurd (show false=true from f) zn
 |_=>cases y <;> exact absurd (show false=true from f) zn
def SW:dD X (compareOp .Lt) (tL λ i j=>.bl (decide (i<j))):=ET λ _ _ _ _ _ _ _ q=>lt_int q
def SX:dD X (compareOp .LtE) (tL λ i j=>.bl (decide (i<=j))):=ET λ _ _ _ _ _ _ _ q=>le_int q
def SY:dD X (compareOp .Gt) (tL λ i j=>.bl (decide (j<i))):=ET λ _ _ _ _ _ _ _ q=>gt_int q
def S7:dD X (compareOp .GtE) (tL λ i j=>.bl (decide (j<=i))):=ET λ _ _ _ _ _ _ _ q=>ge_int q
def G2:dD X (compareOp .In) (λ x y H Q=>∃i j,x=.str i/\y=.str j/\Q (.bl (!(Builtin.Str.occurrences j i 0 j.length 1).isEmpty)) H):=by
 intro g s σ H x y v u Q I e d h;let⟨i,j,rfl,rfl,q⟩:=h;let⟨t,rfl⟩:=e;let⟨f,rfl⟩:=d;exact in_str (a8 I q rfl)
def Qa:dD X (compareOp .Is) (λ x y H Q=>y=.non/\Q (.bl (decide (x=.non))) H):=by
 intro f s σ H x y v u Q I d e h;let⟨rfl,q⟩:=h;cases e;refine is_none_gen (a8 I q ?_);cases x <;> first
  | (cases d;rfl)
  | (let⟨t,rfl⟩:=d;rfl)
def NJ:dD X (compareOp .IsNot) (λ x y H Q=>y=.non/\Q (.bl (!decide (x=.non))) H):=by
 intro f s σ H x y v u Q I d e h;let⟨rfl,q⟩:=h;cases e;refine isnot_none_gen (a8 I q ?_);cases x <;> first
  | (cases d;rfl)
  | (let⟨t,rfl⟩:=d;rfl)
def Al:dD X (compareOp .NotIn) (λ x y H Q=>∃i j,x=.str i/\y=.str j/\Q (.bl (!(!(Builtin.Str.occurrences j i 0 j.length 1).isEmpty))) H):=by
 intro g s σ H x y v u Q I e d h;let⟨i,j,rfl,rfl,q⟩:=h;let⟨t,rfl⟩:=e;let⟨f,rfl⟩:=d;exact notIn_str (a8 I q rfl)
def CM(ho:dD X (compareOp d) r)(k:PE X a ta)(j:PE X b tb)(i:behindInMarks d b=false):PE X (.Compare a [d] [b] pos) (Gu r ta tb):=by
 intro l s σ H Q I h;exact wpAny_Compare1 (Kr k j I h λ v u e x y n m g f q=>ho l e σ n x y v u Q m g f q) i
abbrev DW(t:TE):TT:=λ σ H Q=>t σ H λ x d=>∃k,x=.bl k/\Q k d
def CJ(ho:dD X (compareOp d) r)(w:PE X a ta)(t:PE X b tb)(q:behindInMarks d b=false):PT X (.Compare a [d] [b] pos) (DW (Gu r ta tb)):=by
 intro f s σ H Q I h;refine wpAny_isTrue_Compare1 (aJ (w f s σ H _ I h) λ v i ⟨x,F,C,m,p⟩=>aJ (t f i σ F _ C p) λ u g ⟨y,E,B,l,o⟩ =>
  aJ (ho f g σ E x y v u _ B m l o) λ c G ⟨z,D,A,j,k,e,n⟩=>?_) q
 subst e;cases j;exact wpAny_truthy_bool ⟨D,A,n⟩
abbrev u7(r f:R2)(ta tb tc:TE):TE:=λ σ H Q=>ta σ H λ x i=>tb σ i λ y h=>r x y h λ z d=>∃k,z=.bl k /\
 (if k=true then tc σ d λ e g=>f y e g Q else Q (.bl false) d)
def JH(ho:dD X (compareOp i) r)(j:dD X (compareOp f) m)(N:PE X a ta)(M:PE X b tb)(hc:PE X c tc)
  (L:lastMarks [i,f] [b,c]=false:=by with_unfolding_all rfl):PE X (.Compare a [i,f] [b,c] pos) (u7 r m ta tb tc):=by
 intro g s σ H Q I h;refine Compare_chain (aJ (N g s σ H _ I h) λ v C ⟨x,U,R,F,K⟩=>chain_link (aJ (M g C σ U _ R K) λ u B ⟨y,T,P,l,J⟩ =>
  aJ (ho g B σ T x y v u _ P F l J) λ d A ⟨z,p,o,E,k,e,n⟩=>?_)) L
 subst e;cases E;refine wpAny_truthy_bool ?_;cases k with
 |false=>exact ite_ff ⟨.bl false,p,o,rfl,n⟩
 |true=>exact ite_tt (chain_last (aJ (hc g A σ p _ o n) λ t w ⟨q,S,O,D,G⟩=>j g w σ S y q u t Q O l D G))
def Jx(ho:dD X (compareOp i) r)(j:dD X (compareOp f) m)(R:PE X a ta)(P:PE X b tb)(hc:PE X c tc)
  (O:lastMarks [i,f] [b,c]=false:=by with_unfolding_all rfl):PT X (.Compare a [i,f] [b,c] pos) (DW (u7 r m ta tb tc)):=by
 intro g s σ H Q I h;refine isTrue_chain (aJ (R g s σ H _ I h) λ v C ⟨x,H1,Y,G,M⟩=>test_link (aJ (P g C σ H1 _ Y M) λ u B ⟨y,H2,W,l,L⟩ =>
  aJ (ho g B σ H2 x y v u _ W G l L) λ d A ⟨z,p,o,F,k,e,n⟩=>?_)) O
 subst e;cases F;refine wpAny_truthy_bool ?_;cases k with
 |false =>
  let⟨k',T,N⟩:=n;cases T;exact ite_ff ⟨p,o,N⟩
 |true =>
  refine ite_tt (test_last (aJ (hc g A σ p _ o n) λ t w ⟨q,H4,V,E,K⟩=>aJ (j g w σ H4 y q u t _ V l E K) λ d' s5 ⟨z2,Z,U,D,k2,S,J⟩=>?_));subst S;cases D;exact wpAny_truthy_bool ⟨Z,U,J⟩
abbrev Wj(K:Q_)(x:V)(H:Hp)(k:Bool):Prop :=
 match x with
 |.non=>k=false
 |.bl b=>k=b
 |.int i=>k=(i != 0)
 |.str y=>y.length<=zi/\k=((y.length:Int) != 0)
 |.byt y=>y.size<=zi/\k=((y.size:Int) != 0)
 |.ref p=>(∃d,bx K H p d/\k=!d.isEmpty)\/(∃d,eF K H p d/\k=!d.isEmpty)\/∃e,H p=some (.dK e)/\k=!e.isEmpty
 |_=>False
def Fe{κ:Type}{d:List (κ×V)}{vs:List (κ×jp)}(r:KV d vs):(!vs.isEmpty)=!d.isEmpty:=by
 cases r <;> rfl
def qS(r:Vals xs its):(!its.toArray.isEmpty)=!xs.isEmpty:=by
 cases r <;> simp
def kE:(zi:Nat)<2 ^ 63:=by rw[sizeLine_eq];decide
def OU:RW X (λ x H Q=>∃k,Wj X.K x H k/\Q k H):=by
 intro C s σ H x v Q I j h;let⟨k,e,q⟩:=h;have B:=kE;have A:zi=16777216:=sizeLine_eq;cases x with
 |non =>
  cases j;have d:k=false:=e;subst d;exact truthy_none ⟨H,I,q⟩
 |bl b =>
  cases j;have d:k=b:=e;subst d;exact wpAny_truthy_bool ⟨H,I,q⟩
 |int i =>
  let⟨t,rfl⟩:=j;have d:k=(i != 0):=e;subst d;exact PySem.P.truthy_int ⟨H,I,q⟩
 |str y =>
  let⟨t,rfl⟩:=j;obtain⟨u,d⟩:y.length<=zi/\k=((y.length:Int) != 0):=e;subst d;exact PySem.P.truthy_str (by first|lia|omega) ⟨H,I.tok _,q⟩
 |byt y =>
  let⟨t,rfl⟩:=j;obtain⟨u,d⟩:y.size<=zi/\k=((y.size:Int) != 0):=e;subst d;exact PySem.W.truthy_bytes (by first|lia|omega) ⟨H,I.tok _,q⟩
 |ref p =>
  cases j;have d:(∃g,bx X.K H p g/\k=!g.isEmpty)\/(∃g,eF X.K H p g/\k=!g.isEmpty)\/∃f,H p=some (.dK f)/\k=!f.isEmpty:=e;rcases d with ⟨g,hx,d⟩|⟨g,hx,d⟩|⟨f,hx,d⟩
  ·subst d
   let⟨n,r,l,o⟩:=I.list hx;have hlen:=r.length;exact wpAny_truthy_list l.isList (by rwa[zD];omega) ⟨H,I.tok _,by rw[qS r];exact q⟩
  ·subst d
   let⟨n,r,l,o⟩:=I.tuple hx;have hlen:=r.length;exact truthy_tuple l (by rwa[zD];omega) ⟨H,I.tok _,by rw[qS r];exact q⟩
  ·subst d
   obtain⟨o,z,vs,r,m⟩:f.length<=zi/\(p==sysModules)=false/\∃vs,KV f vs/\s.heap.DictOf (aN X.prog X.w) p vs:=I.hok p _ hx;have hlen:f.length=vs.length:=Paired.length r;exact wpAny_truthy_dict z m (by first|lia|omega) ⟨H,I.tok _,by rw[Fe r];exact q⟩
 |_=>exact(show False from e).elim
def ES:dD X (binaryOp .Add) (λ x y H Q=>∃i j,x=.str i/\y=.str j/\i.length+j.length<=zi/\Q (.str (i++j)) H):=by
 intro l s σ H x y v u Q I f e h;let⟨i,j,rfl,rfl,g,q⟩:=h;let⟨t,rfl⟩:=f;let⟨d,rfl⟩:=e;exact add_str (λ d k=>⟨.str (i++j),H,I.tok _,⟨_,rfl⟩,q⟩) g
inductive Z2 (x:V) (us:List jp):Prop
 |mk (u:jp) (e:us=[u]) (r:RelV x u)
def vals1(r:Vals [x] us):Z2 x us:=by
 cases r with
 |cons e d=>cases d;exact⟨_,rfl,e⟩
inductive Z1 (x y:V) (us:List jp):Prop
 |mk (u w':jp) (e:us=[u,w']) (r:RelV x u) (r2:RelV y w')
def vals2(r:Vals [x,y] us):Z1 x y us:=by
 cases r with
 |cons g f =>
  cases f with
  |cons e d=>cases d;exact⟨_,_,rfl,g,e⟩
def Iq(hc:X.calm=true):dH X (.builtin "min") (λ xs H Q=>∃i j,xs=[.int i,.int j]/\Q (.int (if j<i then j else i)) H):=by
 intro n s σ H xs f Q I r h;let⟨i,j,rfl,q⟩:=h;obtain⟨u,e,rfl,⟨t,rfl⟩,⟨l,rfl⟩⟩:=vals2 r;refine min_two_ints (I.ok.hd hc) λ m g k=>⟨_,H,I.kept k,?_,q⟩;by_cases d:j<i
 ·rw[if_pos d,if_pos d];exact⟨_,rfl⟩
 ·rw[if_neg d,if_neg d];exact⟨_,rfl⟩
end
section
variable {prog:uf}{w:ul}{A:ut}{E:jp->kt->Prop}{s:kt}{K:Q_}{x dx C f:uc}{mA:Str->Option jp}{name:Str}{v:jp}
end
def jK.some_of(r:jK (some v) o):∃u,o=some u/\RelV v u:=by
 cases o with
 |none=>exact(show False from r).elim
 |some u=>exact⟨u,rfl,r⟩
section
variable {P:uf}{w:ul}{H H':Hp}{h h':Heap}{a C dx:uc}{fs fs':List (Str×V)}
end
section
variable {X:Cx}{XV:List (uc×Obj)}{σ:St}{H:Hp}{s:kt}{a C dx:uc}{fs:List (Str×V)}{f:Str}{v:V}{A:ut}{E:jp->kt->Prop}
def Dy(c:attributeBase e f env (eval e env)=eval e env)
  (h:wpAny (model prog w) A (eval e env) (λ o b=>wpAny (model prog w) A (getAttr o f true) Q E b) E s):wpAny (model prog w) A (eval (.Attribute e f pos) env) Q E s :=
 Attribute_any_ h (by rw[arm_eval_Attribute,c])
end
section
variable {X:Cx}{o e value:Expr}{f:Str}{pos pos' VA:Pos}{ta tv:TE}
end
section
variable {X:Cx}{XV:List (uc×Obj)}{σ:St}{H:Hp}{s:kt}{A:ut}{E:jp->kt->Prop}{Q:jp->kt->Prop}{c:jp}{b:Bool}
end
structure cF (k:Nat) (A:ut):Prop where
 hd:A.handled=none
 dp:A.depth+3*k+5<recursionLimit
 un:A.units+16*k+200<cLine
 gd:A.guards=some []
def cF.mono(r:cF k A)(h:j<=k):cF j A:=⟨r.hd,by have:=r.dp;omega,by have:=r.un;omega,r.gd⟩
def cF.deeper(r:cF (k+1) A)(env:Env):cF k (A.deeper env) :=
 ⟨r.hd,by have:=r.dp;show A.depth+1+3*k+5<_;omega,by have:=r.un;show A.units+3+16*k+200<_;omega,r.gd⟩
def E5{A:ut}{C:uc}{us:List jp}{a:List (Str×jp)}:(A.under (.builtin "type.__call__" ⟨.ref C::us,a⟩)).depth=A.depth+1:=by
 first|rfl|simp[Around.under,Code.weight,Code.isCreation,Code.isGuard,Code.isCaller,Code.frames,Code.isFrame,guardIds]
def E4{A:ut}{C:uc}{us:List jp}{a:List (Str×jp)}:(A.under (.builtin "type.__call__" ⟨.ref C::us,a⟩)).units=A.units+1:=by
 first|rfl|simp[Around.under,Code.cUnits,Code.frames,Code.isFrame]
def cF.make(r:cF (k+1) A)(C:uc)(us:List jp)(a:List (Str×jp)):cF k (A.under (.builtin "type.__call__" ⟨.ref C::us,a⟩)) :=
 ⟨r.hd,by have:=r.dp;rw[E5];omega,by have:=r.un;rw[E4];omega,r.gd⟩
def cF.depth(r:cF k A):A.depth<recursionLimit:=by have:=r.dp;omega
abbrev ir:TA:=λ _ H Q=>Q [] H
abbrev cW(c:TE)(b:TA):TA:=λ σ H Q=>c σ H λ x e=>b σ e λ a d=>Q (x::a) d
section
variable {X:Cx}{e:Expr}{es:List Expr}{te:TE}{t:TA}{pos:Pos}
def bU:PA X [] ir:=λ _ _ _ _ H Q I h=>Calls.spliced_nil ⟨[],H,I,.nil,h⟩
def aM(l:PE X e te)(k:PA X es t)(j:starEach (e::es) X.env=(false,eval e X.env)::starEach es X.env:=by rfl):PA X (e::es) (cW te t):=by
 intro pos a s σ H Q I h;rw[j];show wpAny _ _ (spliced ((false,eval e X.env)::backTo pos (starEach es X.env))) _ _ s;refine Calls.spliced_cons (aJ (l a s σ H _ I h) λ u c ⟨x,p,n,f,i⟩=>?_);exact aJ (k pos a c σ p _ n i) λ q r ⟨b,o,m,d,g⟩=>⟨x::b,o,m,.cons f d,g⟩
abbrev OX(t:TA):TE:=λ σ H Q=>t σ H λ a b=>a.length<=zi/\∀p,b p=none->Q (.ref p) (upd b p (.tup a))
abbrev O1(t:TA):TE:=λ σ H Q=>t σ H λ a b=>a.length<=zi/\∀p,b p=none->Q (.ref p) (upd b p (.lst a))
def qN{x1}(h:PA X es t):PE X (.Tuple es x1 pos) (OX t):=by
 intro k s σ H Q I i;refine wpAny_Tuple_spliced (aJ (h pos k s σ H _ I i) λ g a ⟨f,d,c,r,z,q⟩=>⟨by rw[<- r.length];exact z,?_⟩);have j:d a.heap.objs.size=none:=c.hok.fresh (zq _);refine⟨.ref a.heap.objs.size,upd d a.heap.objs.size (.tup f),c.laid (t':=a.toks) (λ b u e=>zv _ e) (zq _) ?_,rfl,q _ j⟩;exact⟨z,g,r,nj.new _ _⟩
def PR(h:PA X es t):PE X (.List es pos) (O1 t):=by
 intro k s σ H Q I i;refine wpAny_List_spliced (aJ (h pos k s σ H _ I i) λ g a ⟨f,d,c,r,z,q⟩=>⟨by rw[<- r.length];exact z,?_⟩);have j:d a.heap.objs.size=none:=c.hok.fresh (zq _);refine⟨.ref a.heap.objs.size,upd d a.heap.objs.size (.lst f),c.laid (t':=a.toks) (λ b u e=>zv _ e) (zq _) ?_,rfl,q _ j⟩;exact⟨z,g,0,r,zC _ rfl⟩
end
@[reducible]noncomputable def Sp:=List V->Hp->VK->XK->Prop
@[reducible]noncomputable def oE:=List Env->Hp->kt->XK->jp->kt->Prop
structure qu (P:uf) (w:ul) (K:Q_) (mg:Str->Option jp) (base:Heap) (A:ut) (outer:List Env) (s:kt) (H:Hp):Prop where
 frames:A.frames=some outer
 mod:Mod K mg base
 bs:∀b o,base.get? b=some o->s.heap.get? b=some o/\H b=none
 nz:base.objs.size<=s.heap.objs.size
 fm:s.heap.FunFrames base outer
 pU:∀b∈gB outer,H b=none
 hok:cV P w H s.heap
 bare:AllBare s.gens
abbrev CE(outer:List Env)(P:uf)(w:ul)(H:Hp)(s:kt)(Q:VK)(u:jp)(a:kt):Prop :=
 ∃v b,a.os=s.os/\AllBare a.gens/\Un (gB outer) [] H b s.heap a.heap/\cV P w b a.heap/\RelV v u/\Q v b
abbrev CR(b:oE)(outer:List Env)(P:uf)(w:ul)(H:Hp)(s:kt)(Q:VK)(E:XK)(r:Result)(a:kt):Prop :=
 match r with
 |.ok (.ret u)=>CE outer P w H s Q u a
 |.ok _=>False
 |.error e=>b outer H s E e a
structure dF (P:uf) (w:ul) (K:Q_) (mg:Str->Option jp) (base:Heap) (CX:oE) (k:Nat) (f:uc) (fd:FuncData) (ps:List Str) (sp:Sp):Prop where
 len:∀vs H Q E,sp vs H Q E->vs.length=ps.length
 run:∀(A:ut) (outer:List Env) (s:kt) (H:Hp) (args:Args) (us:List jp) (vs:List V) (Q:VK) (E:XK),cF k A->qu P w K mg base A outer s H->BindsTo s fd args (ps.zip us)->Vals vs us->sp vs H Q E ->
  codeAny (model P w) A (.call (.ref f) args) (CR CX outer P w H s Q E) s
def qu.make{P:uf}{w:ul}{K:Q_}{mg:Str->Option jp}{base:Heap}{A:ut}{outer:List Env}{s:kt}{H:Hp}(e:qu P w K mg base A outer s H)(C:uc)(us:List jp)(a:List (Str×jp)) :
  qu P w K mg base (A.under (.builtin "type.__call__" ⟨.ref C::us,a⟩)) outer s H:=⟨by first|exact e.frames|(simpa [Around.under,Code.envs,Code.isFrame,pushEnvs] using e.frames),e.mod,e.bs,e.nz,e.fm,e.pU,e.hok,e.bare⟩
section
variable {X:Cx}{XV:List (uc×Obj)}{σ:St}{H:Hp}{s s':kt}
def Inv.Kg(I:Inv X XV σ H s):qu X.prog X.w X.K X.mg X.base X.A X.stack s H :=
 ⟨I.ok.frames,I.ok.mod,I.bs,zG I.ok.nz I.sz,I.stack,I.rV,I.hok,I.bare⟩
def Inv.after(I:Inv X XV σ H s)(h:CE X.stack X.prog X.w H s Q u s'):EP X XV σ Q u s':=by
 let⟨v,e,os,bare,un,hok,r,q⟩:=h;let⟨c,g,d,t,a⟩:=s';obtain rfl:a=s.os:=os;exact⟨v,e,I.call (h':=c) (g':=g) (d':=d) (t':=t) (ch:=[]) un hok bare (λ b z=>absurd z (by simp)),r,q⟩
end
abbrev DY(b:Sp)(a:List V)(E:XK)(t:TA):TE:=λ σ H Q=>t σ H λ vs c=>b (vs++a) c Q E
abbrev Binds(K:Q_)(fd:FuncData)(ps:List Str)(ds:List jp):Prop :=
 ∀(s:kt) (a:List jp),K.In s.heap->(a++ds).length=ps.length->BindsTo s fd ⟨a,[]⟩ (ps.zip (a++ds))
def Binds.all{K:Q_}{fd:FuncData}{ps:List Str}(h:∀us:List jp,us.length=ps.length->bindArgs fd ⟨us,[]⟩=pure (ps.zip us)):Binds K fd ps []:=λ s us _ a=>by
 rw[zO]at a ⊢;exact .of_eq (h us a)
abbrev Passes(c:oE)(X:Cx)(E:XK):Prop:=∀(b:List (uc×Obj)) (σ:St) (H:Hp) (s:kt) (e:jp) (a:kt),Inv X b σ H s->c X.stack H s E e a->X.xe e a
section
variable {X:Cx}{CX:oE}{k:Nat}{f C:uc}{fd:FuncData}{ps:List Str}{sp:Sp}{t4:List V}{ds:List jp}{E:XK}{x m:Str}{p pos apos:Pos}{e o:Expr}{es:List Expr}{ta:TE}{t:TA}
def Pq{b:List (uc×Obj)}{σ:St}{H:Hp}{s:kt}{Q:VK}{us:List jp}{vs:List V}(F:dF X.prog X.w X.K X.mg X.base CX k f fd ps sp)(g:cF k X.A)(j:Binds X.K fd ps ds)(hd:Vals t4 ds)(hx:Passes CX X E)
  (I:Inv X b σ H s) (r:Vals vs us) (h:sp (vs++t4) H Q E):wpAny (model X.prog X.w) X.A (call (.ref f) us) (EP X b σ Q) X.xe s:=by
 have c:Vals (vs++t4) (us++ds):=r.append hd;have i:(us++ds).length=ps.length:=by rw[<- c.length];exact F.len _ _ _ _ h
 refine wpAny_call (codeAny_mono (F.run X.A X.stack s H ⟨us,[]⟩ (us++ds) (vs++t4) Q E g I.Kg (j s us I.eB i) c h) λ r d a=>?_);cases r with
 |error e=>exact hx b σ H s e d I a
 |ok fl =>
  cases fl with
  |ret u=>exact I.after a
  |next=>exact False.elim a
  |brk=>exact False.elim a
  |cont=>exact False.elim a
def sy(F:dF X.prog X.w X.K X.mg X.base CX k f fd ps sp)(c:cF k X.A)(i:Gl X x)(d:X.mg x=some (.ref f))(g:X_ X.K (.ref f)=true)(j:Binds X.K fd ps ds)(hd:Vals t4 ds)(hx:Passes CX X E)
  (l:PA X (e::es) t) (u:(x==("__debug__":Str))=false:=by decide) (he:starEach (e::es) X.env=(false,eval e X.env)::starEach es X.env:=by rfl) (b:(backTo pos (starEach es X.env)).any (·.1)=false:=by rfl) :
  PE X (.Call (.Name x p) (e::es) [] pos) (DY sp t4 E t):=by
 intro n s σ H Q I h;refine wpAny_Call_Name_kw (mf I i d ?_ u);refine V_ (h₀:=X.base) I.ok.mod.Lz g (aJ (l pos n s σ H _ I h) λ v y ⟨vs,z,a,r,q⟩=>⟨a.eB,?_⟩) he b;exact Pq F c j hd hx a r q
end
section
variable {X:Cx}{CX:oE}{k:Nat}{f C:uc}{fd:FuncData}{ps ks:List Str}{sp:Sp}{E:XK}{x m:Str}{p pos apos aaU:Pos}{e o:Expr}{es:List Expr}{kws:List Keyword}{te ta:TE}{t tk:TA}{nm:Option Str}
variable {g:List jp->List jp->List jp}{gV:List V->List V->List V}
end
structure bX (N P:List Str) (sc:Scope):Prop where
 kind:sc.kind=.function
 co:sc.isCoroutine=false
 gen:sc.isGenerator=false
 nd:N.Nodup
 pre:N.take P.length=P
 par:∀x∈P,sc.names.lookup x=some .local\/sc.names.lookup x=some .cell
 Qj:∀y∈sc.names,y.2≠.free
def ue{kindOf:Str->Option NameKind}{x:Str}:∀{binds:List (Str×jp)} {m:Str->Option jp},(∀v,(x,v) ∉ binds)->bindL kindOf binds m x=m x
 |[],_,_=>rfl
 | (n,v)::r,m,h=>by
  unfold bindL;rw[ue λ w hw=>h w (zE _ hw)];split
  ·have:x≠n:=by rintro rfl;exact h v zI
   simp[this]
  ·rfl
def uh{kindOf:Str->Option NameKind}{x:Str}:∀{binds:List (Str×jp)} {m:Str->Option jp},(∀v,(x,v) ∉ binds)->bindC kindOf binds m x=m x
 |[],_,_=>rfl
 | (n,v)::r,m,h=>by
  unfold bindC;rw[uh λ w hw=>h w (zE _ hw)];split
  ·rfl
  ·have:x≠n:=by rintro rfl;exact h v zI
   simp[this]
def ug{kindOf:Str->Option NameKind}{x:Str}{v:jp}:∀{P:List Str} {vs:List jp} {i:Nat} {m:Str->Option jp},P.Nodup->P[i]?=some x->vs[i]?=some v->kindOf x=some .local ->
  bindL kindOf (P.zip vs) m x=some v
 |[],_,_,_,_,h,_,_=>by simp at h
 |_::_,[],_,_,_,_,h,_=>by simp at h
 |p::P,w::vs,0,m,nd,b,a,c=>by
  simp at b a;subst b;subst a;show bindL kindOf ((p,w)::P.zip vs) m p=_;unfold bindL;rw[ue λ v hv=>(yZ.mp nd).1 (wk hv).1,if_pos c];simp
 |p::P,w::vs,i+1,m,nd,b,a,c=>by
  show bindL kindOf ((p,w)::P.zip vs) m x=_;unfold bindL;exact ug (i:=i) (yZ.mp nd).2 (by simpa using b) (by simpa using a) c
def ui{kindOf:Str->Option NameKind}{x:Str}{v:jp}:∀{P:List Str} {vs:List jp} {i:Nat} {m:Str->Option jp},P.Nodup->P[i]?=some x->vs[i]?=some v->kindOf x≠some .local ->
  bindC kindOf (P.zip vs) m x=some v
 |[],_,_,_,_,h,_,_=>by simp at h
 |_::_,[],_,_,_,_,h,_=>by simp at h
 |p::P,w::vs,0,m,nd,b,a,c=>by
  simp at b a;subst b;subst a;show bindC kindOf ((p,w)::P.zip vs) m p=_;unfold bindC;rw[uh λ v hv=>(yZ.mp nd).1 (wk hv).1,if_neg c];simp
 |p::P,w::vs,i+1,m,nd,b,a,c=>by
  show bindC kindOf ((p,w)::P.zip vs) m x=_;unfold bindC;exact ui (i:=i) (yZ.mp nd).2 (by simpa using b) (by simpa using a) c
abbrev start(N:List Str)(vs:List V):St:=vs.map some++yx (N.length-vs.length) none
abbrev fK(b:oE)(P:uf)(w:ul)(K:Q_)(mg:Str->Option jp)(base:Heap)(N:List Str)(qual:Str)(scope:Scope)(f:uc)(cd:jp)(A:ut)(outer:List Env)(s:kt)(H:Hp)(E:XK):Cx where
 prog:=P
 w:=w
 K:=K
 mg:=mg
 base:=base
 A:=A.deeper (envOfC qual scope s.heap.objs.size f cd)
 N:=N
 s₀:=s
 H₀:=H
 env:=envOfC qual scope s.heap.objs.size f cd
 outer:=outer
 stack:=envOfC qual scope s.heap.objs.size f cd::outer
 ex:=[]
 calm:=true
 fn:=λ _=>true
 pn:=[]
 xe:=λ e c=>wpAny (model P w) (A.deeper (envOfC qual scope s.heap.objs.size f cd)) (leaving (envOfC qual scope s.heap.objs.size f cd) e) (λ _ a=>b outer H s E e a) (λ d a=>b outer H s E d a) c
def Bo{sc:Scope}{n:Nat}{x:Str}(h:sc.names.lookup x=some .cell):∃c,(cellsFrom n sc.names []).lookup x=some c:=by
 have q:=U_ sc.names n [] (.inl h);exact Option.isSome_iff_exists.mp q
def Ho{C:oE}{P:uf}{w:ul}{K:Q_}{mg:Str->Option jp}{base:Heap}{N ps:List Str}{qual:Str}{scope:Scope}{f:uc}{cd:jp}{A:ut}{outer:List Env}{s s1:kt}{H:Hp}{E:XK}{us:List jp}{vs:List V}
  (S:bX N ps scope) (hd:A.handled=none) (g:qu P w K mg base A outer s H) (J:vs.length=ps.length) (r:Vals vs us)
  (x:InCallC s s.heap.objs.size (bindL (envOfC qual scope s.heap.objs.size f cd).kindOf (ps.zip us) λ _=>none) (cellsFrom (s.heap.objs.size+1) scope.names []) (bindC (envOfC qual scope s.heap.objs.size f cd).kindOf (ps.zip us) λ _=>none) s1) :
  Inv (fK C P w K mg base N qual scope f cd A outer s H E) [] (start N vs) H s1:=by
 have I:ps.length<=N.length:=by have:=congrArg List.length S.pre;rw[zS]at this;omega
 let⟨o,G,rfl,t⟩:=x.done;have j:∀b:uc,b ∉ (fK C P w K mg base N qual scope f cd A outer s H E).ex:=λ b z=>absurd (show b∈([]:List uc) from z) (by simp);refine⟨⟨g.mod,S.kind,rfl,rfl,zq _,λ y z c o d=>?_,λ y l=>?_,λ y c _ h=>?_,λ _=>hd,Around.frames_deeper g.frames,.inr ⟨rfl,rfl⟩,λ b z=>absurd z (j b),g.bs,g.nz,λ b _ _=>j b,λ b z=>absurd z (j b),g.fm,g.pU⟩,
  rfl,g.bare,Un.kept t,⟨_,x.toInCall.ns,λ i y v o d L=>?_⟩,λ y c h=>⟨_,x.cell y c h⟩,g.hok.fresh (zq _),λ y c h=>?_,λ p m=>absurd (show p∈([]:List (uc×Obj)) from m) (by simp),g.hok.kept t,?_⟩
 ·exact name_of_addr x.apart (PySem.mem_of_lookup o) (PySem.mem_of_lookup d)
 ·have l:scope.names.lookup y=some .cell\/scope.names.lookup y=some .free:=l
  rcases l with l|l
  ·exact Bo l
  ·exact absurd rfl (S.Qj _ (PySem.mem_of_lookup l))
 ·exact ww (x.above y c (PySem.mem_of_lookup h))
 ·have hi:i<vs.length:=by
   unfold start at d;by_cases hi:i<vs.length
   ·exact hi
   ·rw[zA (by simpa using hi)]at d
    rw[xl]at d;split at d <;> cases d
  have F:vs[i]?=some v:=by
   unfold start at d;rw[zK (by simpa using hi),zm]at d;cases e:vs[i]? with
   |none=>rw[e]at d;cases d
   |some a=>rw[e]at d;cases d;rfl
  let⟨u,hu,D⟩:=r.get F;have m:ps[i]?=some y:=by
   rw[<- S.pre,List.getElem?_take_of_lt (by first|lia|omega)];exact o
  have B:ps.Nodup:=by rw[<- S.pre];exact S.nd.sublist (wR _ _)
  exists u,D;rcases S.par y (zl m) with k|k
  ·exact .inl ⟨k,ug B m hu k⟩
  ·let⟨c,e⟩:=Bo (n:=s.heap.objs.size+1) k
   refine .inr ⟨.inl k,c,e,?_⟩;have q:=x.cell y c e;rw[ui B m hu (by show scope.names.lookup y≠_;rw[k];decide)]at q;exact q
 ·exact g.hok.fresh (ww (x.above y c (PySem.mem_of_lookup h)))
 ·unfold start
  show _=N.length;rw[zx,zy,yz];first|lia|omega
def Ml{l:oE}{P:uf}{w:ul}{K:Q_}{mg:Str->Option jp}{base:Heap}{k:Nat}{f:uc}{name qual:Str}{params:Arguments}{body:List uV}{scope:Scope}{C kV j B cdv ct L:jp}{D od:Option uc}
  {Z:Array (Option jp)} {N ps:List Str} {sp:Sp} (M:K.lookup f=some ⟨L,od,.func (Z_ name qual params body scope C kV j B D cdv ct),Z⟩) (O:K_ K cdv qual=true) (S:bX N ps scope)
  (len:∀vs H Q E,sp vs H Q E->vs.length=ps.length)
  (Ft:∀(A:ut) (outer:List Env) (s:kt) (H:Hp) (vs:List V) (Q:VK) (E:XK),cF k (A.deeper (envOfC qual scope s.heap.objs.size f cdv))->sp vs H Q E ->
   ∃t,cG (fK l P w K mg base N qual scope f cdv A outer s H E) body t/\t { nx:=λ _ c=>Q .non c,rt:=Q } (start N vs) H) :
  dF P w K mg base l (k+1) f (Z_ name qual params body scope C kV j B D cdv ct) ps sp:=by
 refine⟨len,λ A outer s H args G vs Q E z i Y r g=>?_⟩;have X:=len _ _ _ _ g;have F:K.In s.heap:=i.mod.Lz.keeps λ b o e=>(i.bs b o e).1;have p:s.heap.NoLimit:=i.mod.nolimit.keeps λ b o e=>(i.bs b o e).1;have Tx:∀y∈ps.zip G,scope.names.lookup y.1=some .local\/(scope.names.lookup y.1=some .cell/\((cellsFrom (s.heap.objs.size+1) scope.names []).lookup y.1).isSome=true):=λ ⟨n,v⟩ R=>by
  rcases S.par n (wk R).1 with q|q
  ·exact .inl q
  ·exact .inr ⟨q,U_ _ _ _ (.inl q)⟩
 refine codeAny_call_function z.depth (F _ _ M) rfl S.co S.gen rfl (PySem.W.codeRec_of F O) (Y _ _ _ _ ?_);refine wpAny_newFunctionEnv_cells S.kind Tx λ env he s1 x=>?_;subst he;refine⟨p.keeps x.toInCall.keep,codeAny_func ?_⟩;let⟨t,T,U⟩:=Ft A outer s H vs Q E (z.deeper _) g;have I:Inv (fK l P w K mg base N qual scope f cdv A outer s H E) [] (start N vs) H s1:=Ho S z.hd i X r x;refine wpAny_mono (T [] s1 (start N vs) H _ I U) (λ fl s' d=>?_) λ e s' d=>d;have h:∀{a:St} {c:Hp} {v:V} {u:jp},Inv (fK l P w K mg base N qual scope f cdv A outer s H E) [] a c s'->RelV v u->Q v c->CE outer P w H s Q u s' :=
  λ {a c v u} J m q=>⟨v,c,J.os,J.bare,J.base,J.hok,m,q⟩
 cases fl with
 |ret u =>
  let⟨v,a,c,J,m,q⟩:=d;exact h J m q
 |next =>
  let⟨a,c,J,q⟩:=d;exact h (v:=V.non) (u:=Value.none) J rfl q
 |brk =>
  let⟨_,_,_,q⟩:=d;exact False.elim q
 |cont =>
  let⟨_,_,_,q⟩:=d;exact False.elim q
section
variable {X:Cx}{x:Str}{p pos:Pos}{e:Expr}{es:List Expr}{t:TA}{id T:String}{r:List V->Hp->VK->Prop}
abbrev O3(r:List V->Hp->VK->Prop)(t:TA):TE:=λ σ H Q=>t σ H λ vs a=>r vs a Q
def dW(hc:dH X (.builtin id) r)(k:Gl X x)(j:X.mg x=none)(hv:bootBuiltins x=some (.builtin id))(l:PA X (e::es) t)(i:x≠"__name__":=by decide)(o:(x==("__debug__":Str))=false:=by decide)
  (he:starEach (e::es) X.env=(false,eval e X.env)::starEach es X.env:=by rfl) (g:(backTo pos (starEach es X.env)).any (·.1)=false:=by rfl):PE X (.Call (.Name x p) (e::es) [] pos) (O3 r t):=by
 intro a s σ H Q I h;refine wpAny_Call_Name_kw (kG I k j hv ?_ i o);exact PyProof.Rows.callWith_builtin1 (aJ (l pos a s σ H _ I h) λ b c ⟨vs,n,m,d,f⟩=>hc a c σ n vs b Q m d f) he g
def i9(hc:dH X (.type T) r)(k:Gl X x)(j:X.mg x=none)(hv:bootBuiltins x=some (.type T))(l:PA X (e::es) t)(i:x≠"__name__":=by decide)(o:(x==("__debug__":Str))=false:=by decide)
  (he:starEach (e::es) X.env=(false,eval e X.env)::starEach es X.env:=by rfl) (g:(backTo pos (starEach es X.env)).any (·.1)=false:=by rfl):PE X (.Call (.Name x p) (e::es) [] pos) (O3 r t):=by
 intro a s σ H Q I h;refine wpAny_Call_Name_kw (kG I k j hv ?_ i o);exact W_ (aJ (l pos a s σ H _ I h) λ b c ⟨vs,n,m,d,f⟩=>hc a c σ n vs b Q m d f) he g
end
end L2
namespace HT
open PySem PyProof.Rows
section
open PySem.SeqAt
open PySem.AutoSeq1 (wpAny_loadPart')
open PySem.MeetsSeq PySem.MeetsSeq2 PySem.MeetsSeq3
end
section
variable {prog:uf}{w:ul}{A:ut}{E:jp->kt->Prop}{s:kt}
def Ow(k:IsTup s.heap t vs.toArray)(l:IsTup s.heap b ws.toArray)(hv:vs≠[])
  (o:ws=[]->Q (.ref t) s) (m:ws≠[]->Q (.ref s.heap.objs.size) { s with heap:=s.heap.push { cls:=.type "tuple",data:=.seq (vs++ws).toArray } })
  (hsz:vs.length+ws.length<=zi):wpAny (model prog w) A (binaryOp .Add (.ref t) (.ref b)) Q E s:=by
 obtain⟨⟨cls,h,data,d⟩,ho,hc,n,hd⟩:=id k;obtain⟨⟨p,i,data2,j⟩,c,f,g,a⟩:=id l;simp only at hc hd f a;subst hc hd f a;have e:vs.toArray++ws.toArray=(vs++ws).toArray:=by simp
 by_cases hw:ws=[]
 ·exact concat_meets ⟨_,ho,rfl⟩ ⟨_,c,rfl⟩ noFill_tuple_add seq_tuple_add PySem.F.slot_tuple_add PySem.F.entry_tuple_add (PySem.F.args_tuple_add_2 _ _)
   (tuple_addW1 t b vs.toArray ws.toArray n g h i d j (by simpa using hv) (by simp[hw])) ⟨ho,c,o hw⟩
 ·refine concat_meets ⟨_,ho,rfl⟩ ⟨_,c,rfl⟩ noFill_tuple_add seq_tuple_add PySem.F.slot_tuple_add PySem.F.entry_tuple_add (PySem.F.args_tuple_add_2 _ _)
   (tuple_addW2 t b vs.toArray ws.toArray n g h i d j (by simpa using hv) (by simpa using hw) (by rw[zD,zD];exact hsz)) ⟨ho,c,?_⟩
  rw[e];exact m hw
abbrev bA(n d:Nat):Option Int->Nat
 |none=>d
 |some v=>if v<0 then (v+(n:Int)).toNat else min v.toNat n
def Pm(n d:Nat)(hd:d<=n)(o:Option Int):bA n d o<=n:=by
 cases o with
 |none=>exact hd
 |some v =>
  show (if v<0 then (v+(n:Int)).toNat else min v.toNat n)<=n;by_cases hv:v<0
  ·rw[if_pos hv];omega
  ·rw[if_neg hv];exact xW _ _
def Dw(v:Int)(n d:Nat):(if v<0 then max (v+(n:Int)) 0 else min v (n:Int))=((bA n d (some v):Nat):Int):=by
 show (if v<0 then max (v+(n:Int)) 0 else min v (n:Int))=(((if v<0 then (v+(n:Int)).toNat else min v.toNat n):Nat):Int);by_cases hv:v<0
 ·rwa[if_pos hv];omega
 ·rwa[if_neg hv];omega
def FW(lo hi:Option Int)(n:Nat):Builtin.Slice.sliceAdjust lo hi 1 (n:Int)=(((bA n 0 lo:Nat):Int),((bA n n hi:Nat):Int)):=by
 have a:¬ ((1:Int)<0):=by first|lia|omega
 unfold Builtin.Slice.sliceAdjust;rwa[a,if_false];refine Prod.ext ?_ ?_
 ·cases lo with
  |none=>rfl
  |some v=>exact Dw v n 0
 ·cases hi with
  |none=>rfl
  |some v=>exact Dw v n n
def EL(i j:Nat):Builtin.Slice.slicePlaces (i:Int) (j:Int) 1=j-i:=by
 unfold Builtin.Slice.slicePlaces;have a:(1:Int) > 0:=by first|lia|omega
 rwa[a,if_true,wS];split <;> omega
def qF(p:IsPart v o)(h:Q o s):wpAny (model prog w) A (Builtin.Slice.slicePartIndex v) Q E s:=by
 cases p with
 |none=>exact slicePart_none h
 |int i t=>exact slicePart_int h
def ky{d:uc}{vl a:jp}{lo hi:Option Int}{n:Nat}{Q:Int×Int×Nat->kt->Prop}(f:s.heap.IsSliceOf d vl a .none)(pl:IsPart vl lo)(e:IsPart a hi)
  (h:Q (((bA n 0 lo:Nat):Int),1,bA n n hi-bA n 0 lo) s):wpAny (model prog w) A (Builtin.Slice.sliceApplied (.ref d) (pure (n:Int))) Q E s:=by
 let⟨os,c,g,b⟩:=id f;unfold Builtin.Slice.sliceApplied Builtin.Slice.sliceFields;refine zw (zw (wpAny_field c b (x:=vl) rfl (zw (wpAny_field c b (x:=a) rfl (zw (wpAny_field c b (x:=.none) rfl (zo ?_)))))));refine zw (slicePart_none ?_);show wpAny _ _ (if ((1:Int)==0)=true then _ else _) _ _ s;rw[if_neg (by decide)];refine zw (qF pl (zw (qF e (zw (zo ?_)))));show wpAny _ _ (match Builtin.Slice.sliceAdjust lo hi 1 (n:Int) with|(lo,hi)=>pure (lo,(1:Int),Builtin.Slice.slicePlaces lo hi 1)) _ _ s;rw[FW lo hi n];show wpAny _ _ (pure (((bA n 0 lo:Nat):Int),(1:Int),Builtin.Slice.slicePlaces ((bA n 0 lo:Nat):Int) ((bA n n hi:Nat):Int) 1)) _ _ s;rw[EL];exact zo h
def JC(xs:Array jp)(i k:Nat):((List.range k).filterMap λ (m:Nat)=>xs[((i:Int)+(m:Int)*1).toNat]?).toArray=((xs.toList.drop i).take k).toArray:=by
 have e:(λ (m:Nat)=>xs[((i:Int)+(m:Int)*1).toNat]?)=λ m=>xs[i+m]?:=by
  funext m
  have:((i:Int)+(m:Int)*1).toNat=i+m:=by first|lia|omega
  rw[this]
 rw[e]
 have:=pick_run xs i k
 rw[xL]at this;have a:((λ x=>xs[x]?) ∘ λ x=>i+x)=λ m=>xs[i+m]?:=rfl;rw[a]at this;rw[this]
def pB{t c:uc}{items:Array jp}{vl e:jp}{lo hi:Option Int}{Q:jp->kt->Prop}(b:IsTup s.heap t items)(f:s.heap.IsSliceOf c vl e .none)(pl:IsPart vl lo)(g:IsPart e hi)
  (hw:¬ (bA items.size 0 lo=0/\bA items.size items.size hi=items.size))
  (h:Q (.ref s.heap.objs.size) { s with heap:=s.heap.push { cls:=.type "tuple",data:=.seq ((items.toList.drop (bA items.size 0 lo)).take (bA items.size items.size hi-bA items.size 0 lo)).toArray } })
  (hsz:items.size<=zi):wpAny (model prog w) A (getItem (.ref t) (.ref c)) Q E s:=by
 have a:sizeOk (.seq ((items.toList.drop (bA items.size 0 lo)).take (bA items.size items.size hi-bA items.size 0 lo)).toArray):=by
  show ((items.toList.drop (bA items.size 0 lo)).take (bA items.size items.size hi-bA items.size 0 lo)).toArray.size<=zi;rw[zD,zS,yr,yj];first|lia|omega
 have o:bA items.size items.size hi<=items.size:=Pm _ _ (zq _) hi;let⟨os,k,i,p⟩:=id f;have j:s.TypeIs (.ref c) "slice":=⟨os,k,i⟩;unfold getItem
 try with_reducible refine wpAny_holding ?_
 first|refine zw (zo ?_)|skip
 refine zw (wpAny_sequenceKey b.typeIs (by decide) ?_);refine zw (wpAny_callSpecial?_slot (name:=Str.ofString "__getitem__") b.typeIs G_
  (wpAny_call_entry G_ b.typeIs entry_tuple_getitem ?_ (args_tuple_getitem _ _)))
 show wpAny _ _ (Builtin.Tuple.tupleItemsOf (.ref t) >>= _) _ _ s;refine zw (tupleItemsOf_ b ?_);refine zw (wpAny_typeOf j ?_);rw[if_pos (by decide)];refine zw (ky f pl g ?_);have d:¬ ((((bA items.size 0 lo:Nat):Int)==0&&(1:Int)==1&&(bA items.size items.size hi-bA items.size 0 lo)==items.size)=true):=by
  intro q;rw[zt,zt]at q;have n:((bA items.size 0 lo:Nat):Int)=0:=eq_of_beq q.1.1;have l:bA items.size items.size hi-bA items.size 0 lo=items.size:=eq_of_beq q.2;exact hw ⟨by omega,by omega⟩
 show wpAny _ _ (if (((bA items.size 0 lo:Nat):Int)==0&&(1:Int)==1&&(bA items.size items.size hi-bA items.size 0 lo)==items.size)=true then _ else _) _ _ s;rw[if_neg d,JC]
 first
  |exact zw (m:=Builtin.Tuple.tupleExact _) (wpAny_newObj_type (zo ⟨_,rfl,zo h⟩) a)
  |exact zw (m:=Builtin.Tuple.tupleExact _) (wpAny_newObj_type (zw (zo (zo ⟨_,rfl,zo h⟩))) a)
  |exact zw (zw (m:=Builtin.Tuple.tupleExact _) (wpAny_newObj_type (zo (zo ⟨_,rfl,zo h⟩)) a))
  |exact zw (zw (m:=Builtin.Tuple.tupleExact _) (wpAny_newObj_type (zo ⟨_,rfl,zo h⟩) a))
end
end HT
namespace L2
open PySem PySem.Spec PyProof.Rows
@[reducible]noncomputable def TO:=St->Hp->(Option Int->Hp->Prop)->Prop
abbrev PO(X:Cx)(e:Option Expr)(t:TO):Prop :=
 ∀(a:List (uc×Obj)) (s:kt) (σ:St) (H:Hp) (Q:Option Int->Hp->Prop),Inv X a σ H s->t σ H Q ->
  wpAny (model X.prog X.w) X.A (evalPart e X.env) (λ u c=>∃o b,Inv X a σ b c/\IsPart u o/\Q o b) X.xe s
abbrev Cq:TO:=λ _ H Q=>Q none H
abbrev KW(t:TE):TO:=λ σ H Q=>t σ H λ x a=>∃i,x=.int i/\Q (some i) a
section
variable {X:Cx}{e:Expr}{te:TE}{lo hi:Option Expr}{tl th:TO}{pos p2:Pos}
def NC:PO X none Cq:=by
 intro a s σ H Q I h;rw[evalPart_none];exact zo ⟨none,H,I,.none,h⟩
def NB(h:PE X e te):PO X (some e) (KW te):=by
 intro c s σ H Q I hw;rw[evalPart_some];refine aJ (h c s σ H _ I hw) λ u g ⟨x,f,d,a,b⟩=>?_;let⟨i,rfl,q⟩:=b;let⟨t,rfl⟩:=a;exact⟨some i,f,d,.int i t,q⟩
abbrev ID(X:Cx)(r:V->Option Int->Option Int->Hp->VK->Prop):Prop :=
 ∀(c:List (uc×Obj)) (s:kt) (σ:St) (H:Hp) (x:V) (v vl a:jp) (lo hi:Option Int) (b:uc) (Q:VK),Inv X c σ H s->RelV x v->s.heap.IsSliceOf b vl a .none->IsPart vl lo->IsPart a hi->r x lo hi H Q ->
  ∃T d,typeLookup (.type T) "__getitem__" = pure (some (.builtin d))/\s.TypeIs v T/\wpAny (model X.prog X.w) X.A (getItem v (.ref b)) (EP X c σ Q) X.xe s
abbrev T6(r:V->Option Int->Option Int->Hp->VK->Prop)(te:TE)(tl th:TO):TE:=λ σ H Q=>te σ H λ x c=>tl σ c λ l b=>th σ b λ u a=>r x l u a Q
def JD(y:ID X r)(he:PE X e te)(z:PO X lo tl)(hu:PO X hi th):PE X (.Subscript e (.Slice lo hi none p2) pos) (T6 r te tl th):=by
 intro c s σ H Q I h;refine Subscript_ (aJ (he c s σ H _ I h) λ v i ⟨x,K,G,j,n⟩=>?_);refine wpAny_Slice (aJ (z c i σ K _ G n) λ vl g ⟨l,J,F,p,m⟩=>aJ (hu c g σ J _ F m) λ d a ⟨u,f,E,o,k⟩=>?_);rw[evalPart_none];refine zo ?_;have D:Inv X c σ f { a with heap:=a.heap.push { cls:=.type "slice",data:=.fields #[vl,d,.none] } }:=E.kept (t':=a.toks) λ b ob q=>zv _ q;let⟨T,L,C,t,B⟩:=y c { a with heap:=a.heap.push { cls:=.type "slice",data:=.fields #[vl,d,.none] } } σ f x v vl d l u a.heap.objs.size Q D j (Heap.IsSliceOf.new ..) p o k;show wpAny (model X.prog X.w) X.A (subscriptTail e (.Slice lo hi none p2) v (.ref a.heap.objs.size)) (EP X c σ Q) X.xe { a with heap:=a.heap.push { cls:=.type "slice",data:=.fields #[vl,d,.none] } };exact tail_any (ops:=[.ref a.heap.objs.size,v]) t C B (by with_unfolding_all rfl)
abbrev qp(xs:List V)(lo hi:Option Int):List V:=(xs.drop (HT.bA xs.length 0 lo)).take (HT.bA xs.length xs.length hi-HT.bA xs.length 0 lo)
def pV(xs:List V)(lo hi:Option Int):(qp xs lo hi).length<=xs.length:=by
 unfold qp;rw[zS,yr];first|lia|omega
abbrev VE(K:Q_):V->Option Int->Option Int->Hp->VK->Prop:=λ x lo hi H Q=>∃a b,x=.ref a/\eF K H a b /\
 ¬ (HT.bA b.length 0 lo=0/\HT.bA b.length b.length hi=b.length)/\∀p,H p=none->Q (.ref p) (upd H p (.tup (qp b lo hi)))
def Pd:ID X (VE X.K):=by
 intro p s σ H x v vl m lo hi n Q I i l k j h;let⟨a,c,rfl,hx,hw,q⟩:=h;cases i;let⟨d,r,g,f⟩:=I.tuple hx;have hlen:d.toArray.size=c.length:=by rw[zD];exact r.length.symm
 exists "tuple",_,PyProof.Rows.slot_tuple_getitem.lookup,g.typeIs;refine HT.pB g l k j (by rw[hlen];exact hw) ?_ (by rw[hlen];exact f);rw[hlen];refine⟨.ref s.heap.objs.size,_,I.laid (t':=s.toks) (o:=.tup (qp c lo hi)) (λ b ob q=>zv _ q) (zq _) ?_,rfl,q _ (I.hok.fresh (zq _))⟩;exact⟨zG (pV c lo hi) f,_,(r.drop (HT.bA c.length 0 lo)).take (HT.bA c.length c.length hi-HT.bA c.length 0 lo),nj.new _ _⟩
abbrev SN(K:Q_):R2:=λ x y H Q=>∃a b d c,x=.ref a/\y=.ref b/\eF K H a d/\eF K H b c/\d≠[]/\d.length+c.length<=zi /\
 (c=[]->Q (.ref a) H)/\(c≠[]->∀p,H p=none->Q (.ref p) (upd H p (.tup (d++c))))
def Vals.sD(r:Vals xs us):us=[] ↔ xs=[]:=by
 cases r with
 |nil=>simp
 |cons _ _=>simp
def NL:dD X (binaryOp .Add) (SN X.K):=by
 intro B s σ H x y v u Q I k j h;let⟨a,b,i,g,rfl,rfl,t,r,hx,f,m,l⟩:=h;cases k;cases j;let⟨p,d,n,_⟩:=I.tuple t;let⟨A,c,p2,_⟩:=I.tuple r;refine HT.Ow n p2 (λ z=>hx (d.sD.mp z)) (λ z=>⟨.ref a,H,I,rfl,m (c.sD.mp z)⟩) (λ z=>?_) (by rw[<- d.length,<- c.length];exact f);refine⟨.ref s.heap.objs.size,_,I.laid (t':=s.toks) (o:=.tup (i++g)) (λ b ob q=>zv _ q) (zq _) ?_,rfl,l (λ w=>z (c.sD.mpr w)) _ (I.hok.fresh (zq _))⟩;exact⟨by rw[zx];exact f,_,d.append c,nj.new _ _⟩
end
abbrev C2(n:Nat)(i:Int):Option Nat:=if 0<=i then (if i<n then some i.toNat else none) else if -(n:Int)<=i then some (i+n).toNat else none
abbrev Bs{α:Type}(xs:List α)(i:Int):Option α:=(C2 xs.length i).bind λ j=>xs[j]?
def C0(h:C2 n i=some j):seqIndex? i n=some j/\j<n/\-(n:Int)<=i/\i<n:=by
 unfold C2 at h;by_cases b:0<=i
 ·rw[if_pos b]at h
  by_cases a:i<n
  ·rw[if_pos a]at h
   have e:i.toNat=j:=Option.some.inj h;exact⟨by rw[seqIndex_of b a,e],by omega,by omega,a⟩
  ·rw[if_neg a]at h;cases h
 ·rw[if_neg b]at h
  by_cases a:-(n:Int)<=i
  ·rw[if_pos a]at h
   have e:(i+n).toNat=j:=Option.some.inj h;exact⟨by rw[seqIndex_neg (by first|lia|omega) a,e],by omega,a,by omega⟩
  ·rw[if_neg a]at h;cases h
def sX{α:Type}{xs:List α}{i:Int}{v:α}(h:Bs xs i=some v):∃j,seqIndex? i xs.length=some j/\xs[j]?=some v/\j<xs.length/\-(xs.length:Int)<=i/\i<xs.length:=by
 unfold Bs at h;cases e:C2 xs.length i with
 |none=>rw[e]at h;cases h
 |some j =>
  rw[e]at h;let⟨d,c,b,a⟩:=C0 e;exact⟨j,d,h,c,b,a⟩
abbrev DF(b:Expr):Prop:=∀o i,subscripted b false o i=operate [o,i] (getItem o i)
abbrev DG(X:Cx)(r:R2):Prop :=
 ∀(value slice:Expr) (a:List (uc×Obj)) (s:kt) (σ:St) (H:Hp) (x y:V) (v u:jp) (Q:VK),Inv X a σ H s->RelV x v->RelV y u->r x y H Q ->
  subscripted slice false v u=operate [v,u] (getItem v u)->wpAny (model X.prog X.w) X.A (subscriptTail value slice v u) (EP X a σ Q) X.xe s
abbrev um(X:Cx)(d:String)(r:V->List V->Hp->VK->Prop):Prop :=
 ∀(c:List (uc×Obj)) (s:kt) (σ:St) (H:Hp) (x:V) (a:List V) (v:jp) (b:List jp) (Q:VK),Inv X c σ H s->RelV x v->Vals a b->r x a H Q ->
  wpAny (model X.prog X.w) X.A (call (.builtin d) (v::b)) (EP X c σ Q) X.xe s
section
variable {X:Cx}{a b:Expr}{ta tb:TE}{pos:Pos}
def SU(g:DG X r)(j:PE X a ta)(i:PE X b tb)(f:DF b):PE X (.Subscript a b pos) (Gu r ta tb):=by
 intro k s σ H Q I h;exact Subscript_ (Kr j i I h λ v u c x y m l e d q=>g a b k c σ m x y v u Q l e d q (f _ _))
abbrev VJ(K:Q_):R2:=λ x y H Q=>∃p c i v,x=.ref p/\y=.int i/\bx K H p c/\Bs c i=some v/\Q v H
abbrev VH(K:Q_):R2:=λ x y H Q=>∃p c i v,x=.ref p/\y=.int i/\eF K H p c/\Bs c i=some v/\Q v H
abbrev VI:R2:=λ x y H Q=>∃z i c,x=.str z/\y=.int i/\z.length<=zi/\Bs z.cps.toList i=some c/\Q (.str ⟨#[c]⟩) H
def CZ:DG X (VJ X.K):=by
 intro value slice o s σ H x y v u Q I C B h l;let⟨p,L,i,z,rfl,rfl,D,he,q⟩:=h;cases C;let⟨t,rfl⟩:=B;let⟨g,r,f,M⟩:=I.list D;let⟨j,d,J,O,G,F⟩:=sX he;let⟨w,n,e⟩:=r.get J;have E:=r.length;have N:=kE;have c:EP X o σ Q w s:=⟨z,H,I,e,q⟩;by_cases m:0<=i
 ·have k:i.toNat=j:=by
   rw[seqIndex_of m F]at d;exact Option.some.inj d
  exact item_listR f.isList m (by first|lia|omega) (by rw[k];simpa using n) c l
 ·have k:(i+(g.toArray.size:Int)).toNat=j:=by
   rw[seqIndex_neg (by first|lia|omega) G]at d
   rw[zD,<- E];exact Option.some.inj d
  exact subscriptTail_builtinR (x:=w) f.isList.typeIs slot_list_getitem.lookup
   (wpAny_getItem_list_neg (Q:=λ r A=>r=w/\EP X o σ Q r A) f.isList (by first|lia|omega) (by rw[zD] <;> omega) (by first|lia|omega) (by rw[k];simpa using n) ⟨rfl,c⟩) l
def Qx:DG X (VH X.K):=by
 intro value slice f s σ H x y v u Q I l k h n;let⟨p,E,i,z,rfl,rfl,o,he,q⟩:=h;cases l;let⟨t,rfl⟩:=k;let⟨m,r,e,F⟩:=I.tuple o;let⟨j,C,B,M,L,J⟩:=sX he;let⟨w,D,c⟩:=r.get B;have A:=r.length;have G:=kE;have d:EP X f σ Q w s:=⟨z,H,I,c,q⟩;exact subscriptTail_builtinR (x:=w) e.typeIs slot_tuple_getitem.lookup
  (getItem_tuple (j:=j) (Q:=λ r g=>r=w/\EP X f σ Q r g) e (by first|lia|omega) (by first|lia|omega) (by rw[zD,<- A];exact C) (by simpa using D) ⟨rfl,d⟩) n
def Qy:DG X VI:=by
 intro value slice B s σ H x y v u Q I f e h g;let⟨z,i,c,rfl,rfl,r,he,q⟩:=h;let⟨t,rfl⟩:=f;let⟨p,rfl⟩:=e;let⟨j,d,n,A,m,l⟩:=sX he;have k:z.cps.toList.length=z.length:=by simp[Str.length]
 rw[k]at d m l;have w:=kE;exact tail_any (typeIs_str s z t) slot_str_getitem.lookup (getItem_str (c:=c) (by
  have e1:decide (i < -(2 ^ 63:Int))=false:=zzA (by first|lia|omega)
  have o:decide (i ≥ 2 ^ 63)=false:=zzA (by first|lia|omega)
  rw[e1,o,xV]) (by rw[d];simpa using n) ⟨.str ⟨#[c]⟩,H,I.tok _,⟨_,rfl⟩,q⟩) g
def E2(its:List jp)(n j:Nat)(u:jp):Obj.mapSeq (·.setIfInBounds j u) { cls:=.type "list",data:=.seq its.toArray n }={ cls:=.type "list",data:=.seq (its.set j u).toArray n }:=by
 simp[Obj.mapSeq]
def Inv.lst{c:List (uc×Obj)}{σ:St}{H:Hp}{s:kt}{p:uc}{xs:List V}(I:Inv X c σ H s)(h:H p=some (.lst xs)) :
  ∃(its:List jp) (n:Nat),Vals xs its/\s.heap.get? p=some { cls:=.type "list",data:=.seq its.toArray n }/\xs.length<=zi:=by
 let⟨z,its,n,r,e⟩:=I.hok p _ h;exact⟨its,n,r,e,z⟩
def Inv.Qq{g:List (uc×Obj)}{σ:St}{H:Hp}{s:kt}{p:uc}{xs ys:List V}{its its':List jp}{n c:Nat}{f:Obj->Obj}(I:Inv X g σ H s)(h:H p=some (.lst xs))
  (ho:s.heap.get? p=some { cls:=.type "list",data:=.seq its.toArray n }) (d:f { cls:=.type "list",data:=.seq its.toArray n }={ cls:=.type "list",data:=.seq its'.toArray c }) (r:Vals ys its') (hz:ys.length<=zi) (t:Nat) :
  Inv X g σ (upd H p (.lst ys)) { s with heap:=s.heap.update p f,toks:=t }:=by
 have e:(s.heap.update p f).get? p=some { cls:=.type "list",data:=.seq its'.toArray c }:=by
  rw[yu f ho (by rw[d] <;> rfl),d]
 refine I.write (x:=p) (e:=p) (by rw[h];trivial) (.inl rfl) (λ b u i q=>(zX _ _ (Ne.symm i)).trans q) ⟨_,e⟩ ?_;exact⟨hz,its',c,r,e⟩
abbrev SJ:V->V->V->Hp->(Hp->Prop)->Prop:=λ o i v H Q=>∃p c k j,o=.ref p/\i=.int k/\H p=some (.lst c)/\C2 c.length k=some j/\Q (upd H p (.lst (c.set j v)))
def set_list:KD X SJ:=by
 intro E s σ H o i v F G u Q I A B z h;let⟨p,y,k,j,rfl,rfl,g,D,q⟩:=h;cases A;let⟨t,rfl⟩:=B;let⟨c,n,r,ho,C⟩:=I.lst g;let⟨d,K,m,l⟩:=C0 D;have e:=r.length;have J:=kE;have x:Inv X E σ (upd H p (.lst (y.set j v))) { s with heap:=s.heap.update p (Obj.mapSeq (·.setIfInBounds j u)) } :=
  I.Qq g ho (E2 c n j u) (r.set z j) (by rw[yq];exact C) s.toks
 by_cases w:0<=k
 ·have f:k.toNat=j:=by
   rw[seqIndex_of w l]at d;exact Option.some.inj d
  exact PySem.W.ki_setAt ho w (by first|lia|omega) (by rw[zD,<- e];exact l) (by rw[f];exact⟨_,x,q⟩)
 ·have f:(k+(c.toArray.size:Int)).toNat=j:=by
   rw[seqIndex_neg (by first|lia|omega) m]at d
   rw[zD,<- e];exact Option.some.inj d
  exact PySem.W.ki_setBack ho (by first|lia|omega) (by rw[zD,<- e];exact m) (by first|lia|omega) (by rw[f];exact⟨_,x,q⟩)
def vU(lo hi:Option Int)(n:Nat):(sliceBounds lo hi none n).1=((HT.bA n 0 lo:Nat):Int)/\(sliceBounds lo hi none n).2.1=((HT.bA n n hi:Nat):Int)/\(sliceBounds lo hi none n).2.2=1:=by
 refine⟨?_,?_,rfl⟩
 ·cases lo with
  |none=>simp[sliceBounds,HT.bA]
  |some i =>
   rwa[sliceBounds,HT.bA,vv,show (1:Int) > 0 by decide,if_true];by_cases h:i<0
   ·rwa[h,if_true] <;> omega
   ·rwa[h,if_false] <;> omega
 ·cases hi with
  |none=>simp[sliceBounds,HT.bA]
  |some i =>
   rwa[sliceBounds,HT.bA,vv,show (1:Int) > 0 by decide,if_true];by_cases h:i<0
   ·rwa[h,if_true] <;> omega
   ·rwa[h,if_false] <;> omega
def uu(its:List jp)(lo hi:Option Int):slicePick its.toArray lo hi none=((its.drop (HT.bA its.length 0 lo)).take (HT.bA its.length its.length hi-HT.bA its.length 0 lo)).toArray:=by
 let⟨e,d,c⟩:=vU lo hi its.toArray.size;unfold slicePick;rw[e,d,c];rwa[sliceRange_one,pick_run,zD] <;> rfl
abbrev VF(K:Q_):V->Option Int->Option Int->Hp->VK->Prop:=λ x lo hi H Q=>∃a c,x=.ref a/\bx K H a c/\∀p,H p=none->Q (.ref p) (upd H p (.lst (qp c lo hi)))
def CB:ID X (VF X.K):=by
 intro n s σ H x v vl l lo hi m Q I e k g f h;let⟨a,c,rfl,hx,q⟩:=h;cases e;let⟨i,r,d,j⟩:=I.list hx;have hlen:=r.length;exists "list",_,slot_list_getitem.lookup,d.isList.typeIs;refine wpAny_getItem_list_slice d.isList k g f .none (by simp) ?_ (by rw[zD] <;> omega);rw[uu,<- hlen];refine⟨.ref s.heap.objs.size,_,I.laid (t':=s.toks) (o:=.lst (qp c lo hi)) (λ b ob q=>zv _ q) (zq _) ?_,rfl,q _ (I.hok.fresh (zq _))⟩;exact⟨zG (pV c lo hi) j,_,0,(r.drop (HT.bA c.length 0 lo)).take (HT.bA c.length c.length hi-HT.bA c.length 0 lo),zC _ rfl⟩
abbrev uJ:V->Bool
 |.non=>true
 |.bl _=>true
 |.int _=>true
 |.str _=>true
 |_=>false
abbrev RB:V->V->Bool
 |.non,.non=>true
 |.bl a,.bl b=>a==b
 |.bl a,.int b=>(if a then 1 else 0)==b
 |.int a,.bl b=>a==(if b then 1 else 0)
 |.int a,.int b=>a==b
 |.str a,.str b=>a==b
 |_,_=>false
def RD(e:RelV y u)(c:RelV x v)(g:uJ y=true)(f:uJ x=true):SeqAt.EqAt A s u v (RB y x):=by
 cases y with
 |non =>
  cases e;cases x with
  |non=>cases c;exact SeqAt.EqAt.same _
  |bl b=>cases c;exact SeqAt.EqAt.none_bool b
  |int b=>let⟨t,rfl⟩:=c;exact SeqAt.EqAt.none_int b t
  |str b=>let⟨t,rfl⟩:=c;exact SeqAt.EqAt.none_str b t
  |_=>exact absurd (show false=true from f) zn
 |bl a =>
  cases e;cases x with
  |non=>cases c;exact SeqAt.EqAt.bool_none a
  |bl b=>cases c;exact SeqAt.EqAt.bool_bool a b
  |int b=>let⟨t,rfl⟩:=c;exact SeqAt.EqAt.bool_int a b t
  |str b=>let⟨t,rfl⟩:=c;exact SeqAt.EqAt.bool_str a b t
  |_=>exact absurd (show false=true from f) zn
 |int a =>
  let⟨d,rfl⟩:=e;cases x with
  |non=>cases c;exact SeqAt.EqAt.int_none a d
  |bl b=>cases c;exact SeqAt.EqAt.int_bool a d b
  |int b=>let⟨t,rfl⟩:=c;exact SeqAt.EqAt.int_int a d b t
  |str b=>let⟨t,rfl⟩:=c;exact SeqAt.EqAt.int_str a d b t
  |_=>exact absurd (show false=true from f) zn
 |str a =>
  let⟨d,rfl⟩:=e;cases x with
  |non=>cases c;exact SeqAt.EqAt.str_none a d
  |bl b=>cases c;exact SeqAt.EqAt.str_bool a d b
  |int b=>let⟨t,rfl⟩:=c;exact SeqAt.EqAt.str_int a d b t
  |str b=>let⟨t,rfl⟩:=c;exact SeqAt.EqAt.str_str a d b t
  |_=>exact absurd (show false=true from f) zn
 |_=>exact absurd (show false=true from g) zn
def kR:dH X (.builtin "len") (λ xs H Q=>∃p ys,xs=[.ref p]/\(bx X.K H p ys\/eF X.K H p ys)/\Q (.int ys.length) H):=by
 intro l s σ H xs j Q I r h;let⟨p,ys,rfl,c,q⟩:=h;let⟨u,rfl,g⟩:=vals1 r;cases g;have k:=kE;rcases c with c|c
 ·let⟨f,d,e,i⟩:=I.list c
  have hlen:=d.length;exact Calls.call_len_list e.isList (by rwa[zD] <;> omega) ⟨.int ys.length,H,I.tok _,⟨s.toks+1,by rw[zD,hlen]⟩,q⟩
 ·let⟨f,d,e,i⟩:=I.tuple c
  have hlen:=d.length;exact len_tuple e (by rwa[zD] <;> omega) ⟨.int ys.length,H,I.tok _,⟨s.toks+1,by rw[zD,hlen]⟩,q⟩
def Bq:dH X (.builtin "len") (λ xs H Q=>∃z,xs=[.str z]/\z.length<=zi/\Q (.int z.length) H):=by
 intro f s σ H xs c Q I r h;let⟨z,rfl,d,q⟩:=h;let⟨u,rfl,t,rfl⟩:=vals1 r;have e:=kE;exact len_str (by first|lia|omega) ⟨.int z.length,H,I.tok _,⟨_,rfl⟩,q⟩
def jI:dH X (.type "tuple") (λ xs H Q=>∃p ys,xs=[.ref p]/\((bx X.K H p ys/\∀l,H l=none->Q (.ref l) (upd H l (.tup ys)))\/(eF X.K H p ys/\Q (.ref p) H))):=by
 intro k s σ H xs v Q I r h;let⟨p,ys,rfl,h⟩:=h;let⟨u,rfl,n⟩:=vals1 r;cases n;rcases h with ⟨i,q⟩|⟨i,q⟩
 ·let⟨c,f,g,j⟩:=I.list i
  have hlen:=f.length;refine call_tuple_list g.isList (λ d kp=>?_) (by rwa[zD] <;> omega);have m:Inv X k σ H { s with heap:=d }:=I.kept (t':=s.toks) kp;have t:Inv X k σ (upd H d.objs.size (.tup ys)) { s with heap:=d.push { cls:=.type "tuple",data:=.seq c.toArray } } :=
   m.laid (t':=s.toks) (λ b o e=>zv _ e) (zq _) (show bV X.prog X.w _ _ _ (.tup ys) from ⟨j,c,f,nj.new _ _⟩)
  exact⟨.ref d.objs.size,_,t,rfl,q _ (m.hok.fresh (zq _))⟩
 ·let⟨c,f,g,j⟩:=I.tuple i
  exact call_tuple_same g ⟨.ref p,H,I,rfl,q⟩
abbrev XJ(K:Q_)(T:String)(x:V)(H:Hp):Prop:=match x with
 |.str _=>T = "str"
 |.int _=>T = "int"
 |.ref p=>(T = "list"/\∃d,bx K H p d)\/(T = "tuple"/\∃o,K.lookup p=some o/\o.cls=.type "tuple"/\o.dict=none) \/
   (T = "dict"/\((∃c,H p=some (.dK c))\/∃c,H p=some (.dT c)))\/(T = "set"/\∃S n,H p=some (.set S n))
 |_=>False
def uY{k:List (uc×Obj)}{σ:St}{H:Hp}{s:kt}{T:String}{x:V}{v:jp}(I:Inv X k σ H s)(r:RelV x v)(ty:XJ X.K T x H) :
  s.TypeIs v T/\∀a,v=.ref a->∃ob,s.heap.get? a=some ob/\ob.dict=none:=by
 cases x with
 |str z =>
  let⟨t,rfl⟩:=r;cases (show T = "str" from ty);exact⟨typeIs_str s z t,λ _ e=>nomatch e⟩
 |int i =>
  let⟨t,rfl⟩:=r;cases (show T = "int" from ty);exact⟨typeIs_int s i t,λ _ e=>nomatch e⟩
 |ref p =>
  cases r;rcases ty with ⟨rfl,l,j⟩|⟨rfl,o,hk,hc,hd⟩|⟨rfl,hk⟩|⟨rfl,S,n,hk⟩
  ·let⟨h,_,g,_⟩:=I.list j
   refine⟨g.isList.typeIs,λ a e=>?_⟩;cases e;let⟨o,n,e,c,hd,_⟩:=g;exact⟨o,e,hd⟩
  ·refine⟨⟨o,I.eB p o hk,hc⟩,λ a e=>?_⟩
   cases e;exact⟨o,I.eB _ o hk,hd⟩
  ·have z:∃o,s.heap.get? p=some o/\o.ExactDict:=by
    rcases hk with ⟨d,hk⟩|⟨d,hk⟩
    ·let⟨_,_,_,_,o,_,_,e,ex,_⟩:=I.hok p _ hk
     exact⟨o,e,ex⟩
    ·let⟨_,_,_,_,o,_,_,e,ex,_⟩:=I.hok p _ hk
     exact⟨o,e,ex⟩
   let⟨o,e,ex⟩:=z;refine⟨⟨o,e,ex.1⟩,λ a f=>?_⟩;cases f;exact⟨o,e,ex.2.1⟩
  ·let⟨o,_,_,_,e,ex,_⟩:=I.hok p _ hk
   refine⟨⟨o,e,ex.1⟩,λ a f=>?_⟩;cases f;exact⟨o,e,ex.2.1⟩
 |_=>exact False.elim ty
variable {o e:Expr}{es:List Expr}{to:TE}{t:TA}{name:Str}{apos cpos:Pos}{T id:String}{r:V->List V->Hp->VK->Prop}
end
abbrev Vh(X:Cx)(d:String)(r:V->List V->Hp->VK->Prop):Prop :=
 ∀(c:List (uc×Obj)) (s:kt) (σ:St) (H:Hp) (x:V) (a:List V) (v:jp) (b:List jp) (Q:VK),Inv X c σ H s->RelV x v->Vals a b->r x a H Q ->
  wpAny (model X.prog X.w) X.A (call (.builtin d) (v::b)) (EP X c σ Q) X.xe s
def Vals.one:∀{x:V} {us:List jp},Vals [x] us->∃u,us=[u]/\RelV x u:=by
 intro x us h;cases h with|cons r t=>cases t;exact⟨_,rfl,r⟩
section
variable {X:Cx}{XV:List (uc×Obj)}{σ:St}{H:Hp}{s:kt}{l b:uc}{xs ys zs:List V}
def Inv.lset{its its':List jp}{n:Nat}{f:Array jp->Array jp}{t':Nat}(I:Inv X XV σ H s)(d:H l=some (.lst xs))
  (e:s.heap.get? l=some { cls:=.type "list",data:=.seq its.toArray n }) (a:f its.toArray=its'.toArray) (hv:Vals ys its') (hz:ys.length<=zi) :
  Inv X XV σ (upd H l (.lst ys)) { s with heap:=s.heap.update l (Obj.mapSeq f),toks:=t' }:=by
 have q:=PySem.IsL.update e f;rw[a]at q;refine I.write (x:=l) (e:=l) (by rw[d];exact trivial) (.inl rfl) (λ g u c hu=>(zX s.heap (Obj.mapSeq f) (Ne.symm c)).trans hu) ⟨_,q⟩ ?_;exact⟨hz,its',_,hv,q⟩
def Inv.JS(I:Inv X XV σ H s)(hv:Vals ys its)(hz:ys.length<=zi) :
  Inv X XV σ (upd H s.heap.objs.size (.lst ys)) { s with heap:=s.heap.push { cls:=.type "list",data:=.seq its.toArray },toks:=t' } :=
 I.laid (λ _ _ q=>zv _ q) (zq _) ⟨hz,its,0,hv,zC _ rfl⟩
def Inv.fresh(I:Inv X XV σ H s):H s.heap.objs.size=none:=I.hok.fresh (zq _)
def Inv.sE(I:Inv X XV σ H s)(a:H l=some (.lst xs)):xs.length<=zi/\∃(its:List jp) (n:Nat),Vals xs its/\xs.length=its.length/\s.heap.get? l=some { cls:=.type "list",data:=.seq its.toArray n }:=by
 let⟨z,its,n,r,e⟩:=I.hok l _ a;exact⟨z,its,n,r,r.length,e⟩
def Ap(h:n<=zi):Builtin.List.listTooLong n=false:=by
 unfold Builtin.List.listTooLong;exact zzA (by first|lia|omega)
end
section
variable {X:Cx}
abbrev Nt:V->List V->Hp->VK->Prop:=λ x vs H Q=>∃l a y,x=.ref l/\vs=[y]/\H l=some (.lst a)/\a.length<zi/\Q .non (upd H l (.lst (a++[y])))
def G7:Vh X "list.append" Nt:=by
 intro m s σ H x vs v i Q I c d h;let⟨l,g,y,rfl,rfl,b,j,q⟩:=h;cases c;let⟨u,rfl,f⟩:=d.one;let⟨z,a,n,r,k,e⟩:=I.sE b;refine call_meets F.slot_list_append ⟨_,e,rfl⟩ F.entry_list_append (F.args_list_append_2 _ _) (PySem.list_append l a.toArray n u (by rw[zD];omega)) ⟨e,?_⟩;refine⟨.non,_,I.lset (its':=a++[u]) b e (by simp) (r.append (.cons f .nil)) ?_,rfl,q⟩;rw[zx,List.length_singleton];first|lia|omega
abbrev Nr:V->List V->Hp->VK->Prop:=λ x vs H Q=>∃l b c a,x=.ref l/\vs=[.ref b]/\H l=some (.lst c)/\H b=some (.lst a)/\c.length+a.length<=zi/\Q .non (upd H l (.lst (c++a)))
def G6:Vh X "list.extend" Nr:=by
 intro E s σ H x vs v B Q I g i h;let⟨l,b,A,w,rfl,rfl,f,o,C,q⟩:=h;cases g;let⟨u,rfl,j⟩:=i.one;cases j;let⟨z,a,n,r,D,e⟩:=I.sE f;let⟨y,c,m,k,G,p⟩:=I.sE o;have d:a.toArray.size+c.toArray.size<=zi:=by rw[zD,zD];omega
 have t:¬ (!a.toArray.isEmpty&&Builtin.List.listTooLong (a.toArray.size+c.toArray.size))=true:=by
  rw[Ap d,yp];exact zn
 refine call_meets F.slot_list_extend ⟨_,e,rfl⟩ F.entry_list_extend (F.args_list_extend_2 _ _)
  (AutoSeq1.list_extend_list_list_0 l a.toArray n b c.toArray m t (by rw[zD];omega) (by first|lia|omega)) ⟨e,p,?_⟩
 refine⟨.non,_,I.lset (its':=a++c) f e (by simp) (r.append k) ?_,rfl,q⟩;rw[zx];first|lia|omega
abbrev VL:R2:=λ x y H Q=>∃l b c a,x=.ref l/\y=.ref b/\H l=some (.lst c)/\H b=some (.lst a)/\c.length+a.length<=zi/\∀p,H p=none->Q (.ref p) (upd H p (.lst (c++a)))
def Qb:dD X (binaryOp .Add) VL:=by
 intro C s σ H x y v u Q I f d h;let⟨l,b,t,o,rfl,rfl,i,j,A,q⟩:=h;cases f;cases d;let⟨z,a,n,r,B,e⟩:=I.sE i;let⟨p,c,w,g,D,m⟩:=I.sE j;refine PySem.P.add_list e m ?_ (by rw[zD,zD];omega);have k:a.toArray++c.toArray=(a++c).toArray:=by simp
 rw[k];exact⟨.ref _,_,I.JS (t':=s.toks) (r.append g) (by rw[zx];omega),rfl,q _ I.fresh⟩
end
section
variable {prog:uf}{w:ul}{A:ut}{E:jp->kt->Prop}{s:kt}
set_option maxRecDepth 100000 in
end
section
variable {X:Cx}
end
section
variable {κ:Type}[DecidableEq κ]
abbrev gh(a:List (κ×V))(k:κ):Option V:=(a.find? λ b=>decide (b.1=k)).map (·.2)
abbrev putK(a:List (κ×V))(k:κ)(v:V):List (κ×V) :=
 if (a.any λ b=>decide (b.1=k))=true then a.map (λ b=>if b.1=k then (b.1,v) else b) else a++[(k,v)]
def mB{p:κ×V}{r:List (κ×V)}{k:κ}(e:p.1=k):gh (p::r) k=some p.2:=by simp[gh,yD,e]
def mC{p:κ×V}{r:List (κ×V)}{k:κ}(e:¬ p.1=k):gh (p::r) k=gh r k:=by simp[gh,yD,e]
def uX(k:κ):∀a:List (κ×V),(a.any λ b=>decide (b.1=k))=(gh a k).isSome
 |[]=>rfl
 |p::r=>by
  rw[xD];by_cases e:p.1=k
  ·rwa[mB e,zzB e,wT,Option.isSome_some]
  ·rw[mC e,zzA e,wI];exact uX k r
def lP(a:List (κ×V))(k:κ)(v:V):(putK a k v).length<=a.length+1:=by
 unfold putK;split
 ·rw[zy];omega
 ·rw[zx,zj,zT];omega
def jK.jh(r:jK o u):o.isSome=u.isSome:=by
 cases o with
 |none=>cases u with
  |none=>rfl
  |some _=>exact(show False from r).elim
 |some _=>cases u with
  |none=>exact(show False from r).elim
  |some _=>rfl
def jK.getD(r:jK o u)(a:RelV d d'):RelV (o.getD d) (u.getD d'):=by
 cases o with
 |none=>cases u with
  |none=>exact a
  |some _=>exact(show False from r).elim
 |some _=>cases u with
  |none=>exact(show False from r).elim
  |some _=>exact r
def KV.val(r:KV a vs)(k:κ):jK (gh a k) (valueAt vs k):=by
 unfold KV at r;induction r with
 |nil=>exact True.intro
 |@cons p q ps c h t g =>
  let⟨f,i⟩:=h;by_cases e:p.1=k
  ·have d:q.1=k:=f.symm.trans e
   have b:valueAt (q::c) k=some q.2:=by simp[valueAt,yD,d]
   rw[mB e,b];exact i
  ·have d:¬ q.1=k:=λ z=>e (f.trans z)
   have b:valueAt (q::c) k=valueAt c k:=by simp[valueAt,yD,d]
   rw[mC e,b];exact g
def KV.any(r:KV a vs)(k:κ):(a.any λ b=>decide (b.1=k))=vs.any λ b=>decide (b.1=k):=by
 unfold KV at r;induction r with
 |nil=>rfl
 |cons h t c=>rw[xD,xD,c,h.1]
def KV.y9(r:KV b vs)(k:κ)(d:RelV y u) :
  KV (b.map λ a=>if a.1=k then (a.1,y) else a) (vs.map λ a=>if a.1=k then (a.1,u) else a):=by
 unfold KV at r ⊢;induction r with
 |nil=>exact .nil
 |@cons p q ps i h t f =>
  rw[zR,zR];refine .cons ?_ f;let⟨c,g⟩:=h;by_cases e:p.1=k
  ·rw[if_pos e,if_pos (c.symm.trans e)];exact⟨c,d⟩
  ·rw[if_neg e,if_neg (λ z=>e (c.trans z))];exact⟨c,g⟩
def KV.put(r:KV a vs)(k:κ)(b:RelV y u):KV (putK a k y) (stored vs k u):=by
 unfold putK stored;rw[r.any k];by_cases e:(vs.any λ c=>decide (c.1=k))=true
 ·rw[if_pos e,if_pos e];exact r.y9 k b
 ·rw[if_neg e,if_neg e];exact Paired.snoc r ⟨rfl,b⟩
def KV.length{a:List (κ×V)}{vs:List (κ×jp)}(r:KV a vs):a.length=vs.length:=Paired.length r
end
def mQ(r:RelV (kV k) u):(aN P w).is k u=true:=by
 cases k with
 |inl i=>let⟨t,e⟩:=(show ∃t,u=Value.int i t from r);subst e;exact BY P w i t
 |inr x=>let⟨t,e⟩:=(show ∃t,u=Value.str x t from r);subst e;exact eO P w x t
def tR:∀{a:List Key} {us:List jp},Vals (a.map kV) us->ItemsAre (aN P w) a us
 |[],_,r=>by rw[wv]at r;cases r;exact .nil
 |k::a,_,r=>by
  rw[zR]at r;cases r with
  |cons h t=>exact .cons (mQ h) (tR t)
@[reducible]noncomputable def KT(H:Hp):List (List Key×V)->List (List Key×uc×jp)->Prop:=Paired λ p q=>p.1=q.1/\H q.2.1=some (.tup (p.1.map kV))/\RelV p.2 q.2.2
def KT.val{H:Hp}{a:List (List Key×V)}{xs:List (List Key×uc×jp)}(r:KT H a xs)(k:List Key):jK (gh a k) ((atKey xs k).map (·.2)):=by
 induction r with
 |nil=>exact True.intro
 |@cons p q ps c h t g =>
  let⟨f,_,i⟩:=h;by_cases e:p.1=k
  ·have d:q.1=k:=f.symm.trans e
   have b:atKey (q::c) k=some q.2:=by simp[atKey,yD,d]
   rw[mB e,b];exact i
  ·have d:¬ q.1=k:=λ z=>e (f.trans z)
   have b:atKey (q::c) k=atKey c k:=by simp[atKey,yD,d]
   rw[mC e,b];exact g
def KT.y9(r:KT H a xs)(k:List Key)(f:RelV y u) :
  KT H (a.map λ c=>if c.1=k then (c.1,y) else c) (xs.map (putAt k u)):=by
 induction r with
 |nil=>exact .nil
 |@cons p q ps j h t g =>
  rw[zR,zR];refine .cons ?_ g;let⟨b,d,i⟩:=h;unfold putAt;by_cases e:p.1=k
  ·rw[if_pos e,if_pos (b.symm.trans e)];exact⟨b,d,f⟩
  ·rw[if_neg e,if_neg (λ z=>e (b.trans z))];exact⟨b,d,i⟩
def KT.put(r:KT H a xs)(k:List Key)(f:H b=some (.tup (k.map kV)))(c:RelV y u) :
  KT H (putK a k y) (storedH xs k b u):=by
 have e:(a.any λ d=>decide (d.1=k))=(atKey xs k).isSome:=by
  rw[uX,(r.val k).jh,xT]
 unfold putK storedH;rw[e];by_cases q:(atKey xs k).isSome=true
 ·rw[if_pos q,if_pos q];exact r.y9 k c
 ·rw[if_neg q,if_neg q];exact Paired.snoc r ⟨rfl,f,c⟩
def KT.keeps(r:KT H a xs)(d:∀b ys,H b=some (.tup ys)->c b=some (.tup ys)):KT c a xs :=
 Paired.E3 r λ _ _ z=>⟨z.1,d _ _ z.2.1,z.2.2⟩
section
variable {P:uf}{w:ul}{H:Hp}{h:Heap}{a:uc}
def Lf(ok:cV P w H h)(e:Rd H a u):bV P w H h a u:=e.ok ok
def mX(ok:cV P w H h)(e:Rd H a (.dK b)):b.length<=zi/\(a==sysModules)=false/\∃vs,KV b vs/\h.DictOf (aN P w) a vs :=
 show bV P w H h a (.dK b) from Lf ok e
def Mr(ok:cV P w H h)(e:H a=some (.dK b)):b.length<=zi/\(a==sysModules)=false/\∃vs,KV b vs/\h.DictOf (aN P w) a vs:=mX ok (.inl e)
def oh(ok:cV P w H h)(e:H a=some (.tup (b.map kV))):(tupleKind (aN P w)).is h b a:=by
 obtain⟨_,c,r,⟨o,g,f,n,d⟩,_⟩:=(show bV P w H h a (.tup (b.map kV)) from ok a _ e);exact⟨o,c.toArray,n,g,f,d,by simpa using tR r⟩
def rF(ok:cV P w H h)(e:Rd H a (.dT b)):b.length<=zi/\(a==sysModules)=false /\
  ∃xs,KT H b xs/\h.DictOfH (tupleKind (aN P w)) a xs:=by
 let⟨z,y,xs,r,o,n,s,k,j,i,g,f⟩:=(show bV P w H h a (.dT b) from Lf ok e);refine⟨z,y,xs,r,o,n,s,k,j,i,g,λ x hx=>?_,f⟩;have all:∀{l:List (List Key×V)} {m:List (List Key×uc×jp)},KT H l m->∀x∈m,(tupleKind (aN P w)).is h x.1 x.2.1:=by
  intro l m q;induction q with
  |nil=>intro x hx;exact nomatch hx
  |@cons p q ps u c t d =>
   intro x hx;rcases zd.mp hx with e|hx
   ·subst e
    exact oh ok (by rw[<- c.1];exact c.2.1)
   ·exact d x hx
 exact all r x hx
def TM(ok:cV P w H h)(e:H a=some (.dT b)):b.length<=zi/\(a==sysModules)=false /\
  ∃xs,KT H b xs/\h.DictOfH (tupleKind (aN P w)) a xs:=rF ok (.inl e)
end
abbrev kY(H:Hp)(a:uc)(y:V)(r:Option V):Prop :=
 (∃c k,Rd H a (.dK c)/\y=kV k/\r=gh c k)\/∃c k b,Rd H a (.dT c)/\y=.ref b/\H b=some (.tup (k.map kV))/\r=gh c k
abbrev FZ(H:Hp)(a:uc)(y v:V)(d:Hp):Prop :=
 (∃c k,H a=some (.dK c)/\y=kV k/\c.length<zi/\d=upd H a (.dK (putK c k v))) \/
 ∃c k b,H a=some (.dT c)/\y=.ref b/\H b=some (.tup (k.map kV))/\c.length<zi/\d=upd H a (.dT (putK c k v))
def kY.k{H:Hp}{a:uc}{b:List (Key×V)}{k:Key}(e:H a=some (.dK b)):kY H a (kV k) (gh b k):=.inl ⟨b,k,.inl e,rfl,rfl⟩
def FZ.k{H:Hp}{a:uc}{b:List (Key×V)}{k:Key}{v:V}(e:H a=some (.dK b))(c:b.length<zi):FZ H a (kV k) v (upd H a (.dK (putK b k v))):=.inl ⟨b,k,e,rfl,c,rfl⟩
section
variable {X:Cx}{XV:List (uc×Obj)}{σ:St}{H:Hp}{s:kt}{a:uc}{y v:V}{u r:jp}{o:Option V}{A:ut}{E:jp->kt->Prop}
def Inv.big(I:Inv X XV σ H s):sysModules<s.heap.objs.size:=by
 have h:mainGlobals<s.heap.objs.size:=(I.mod.glob.keeps I.bk).lt;exact wU (by decide) h
def Ii(hu:A.units+1<cLine)(I:Inv X XV σ H s)(g:kY H a y (some v))(q:RelV y u)(h:∀f n,Inv X XV σ H n->RelV v f->Q f n) :
  wpAny (model X.prog X.w) A (getItem (.ref a) u) Q E s:=by
 rcases g with ⟨i,k,e,j,l⟩|⟨i,k,b,e,j,eb,l⟩
 ·subst j
  let⟨z,hd,vs,d,m⟩:=mX I.hok e;let⟨f,hw,c⟩:=jK.some_of (v:=v) (o:=valueAt vs k) (by rw[l];exact d.val k);exact wpAny_getItem_of (mQ q) m.mapOf hw (h f _ (I.tok _) c)
 ·subst j
  cases (show u=Value.ref b from q);let⟨z,hd,t,d,m⟩:=rF I.hok e;let⟨f,hw,c⟩:=jK.some_of (v:=v) (o:=(atKey t k).map (·.2)) (by rw[l];exact d.val k);let⟨p,B,x⟩:=zp.mp hw;refine wpAny_getItem_heap (tupleKind_room_in1 hu) (oh I.hok eb) m B ?_;rw[x];exact h f _ (I.tok _) c
def Wd(hu:A.units+1<cLine)(I:Inv X XV σ H s)(g:kY H a y o)(m:RelV y u)(h:∀j,Inv X XV σ H j->Q (.bool o.isSome) j) :
  wpAny (model X.prog X.w) A (compareOp .In u (.ref a)) Q E s:=by
 rcases g with ⟨d,k,e,f,l⟩|⟨d,k,b,e,f,eb,l⟩
 ·subst f
  let⟨z,hd,vs,c,i⟩:=mX I.hok e;refine wpAny_in_of (mQ m) hd i.mapOf ?_;rw[<- (c.val k).jh,<- l];exact h _ (I.tok _)
 ·subst f
  cases (show u=Value.ref b from m);let⟨z,hd,n,c,i⟩:=rF I.hok e;refine wpAny_in_heap (tupleKind_room_in1 hu) (oh I.hok eb) hd i ?_;have q:=(c.val k).jh;rw[xT]at q;rw[<- q,<- l];exact h _ (I.tok _)
def Ot(hu:A.units+1<cLine)(I:Inv X XV σ H s)(g:kY H a y o)(m:RelV y u)(h:∀j,Inv X XV σ H j->Q (.bool (!o.isSome)) j) :
  wpAny (model X.prog X.w) A (compareOp .NotIn u (.ref a)) Q E s:=by
 rcases g with ⟨d,k,e,f,l⟩|⟨d,k,b,e,f,eb,l⟩
 ·subst f
  let⟨z,hd,vs,c,i⟩:=mX I.hok e;refine wpAny_notIn_of (mQ m) hd i.mapOf ?_;rw[<- (c.val k).jh,<- l];exact h _ (I.tok _)
 ·subst f
  cases (show u=Value.ref b from m);let⟨z,hd,n,c,i⟩:=rF I.hok e;refine wpAny_notIn_heap (tupleKind_room_in1 hu) (oh I.hok eb) hd i ?_;have q:=(c.val k).jh;rw[xT]at q;rw[<- q,<- l];exact h _ (I.tok _)
def sV(I:Inv X XV σ H s)(c:II (H a))(d:Heap.SameBut a s.heap h')(he:∃q,h'.get? a=some q)(new:bV X.prog X.w (upd H a ob) h' a ob) :
  Inv X XV σ (upd H a ob) { s with heap:=h',toks:=t' } :=
 I.write (x:=a) (e:=a) c (.inl rfl) (λ b q f z=>(d.2 b f).trans z) he new
def Ib(z:b.length<=zi)(hd:(a==sysModules)=false)(c:KV b vs)(d:h'.DictOf (aN P w) a vs) :
  bV P w e h' a (.dK b):=⟨z,hd,vs,c,d⟩
def Ih{K:Hp}{Q:Unit->kt->Prop}(hu:A.units+1<cLine)(I:Inv X XV σ H s)(g:FZ H a y v K)(D:RelV y u)(F:RelV v r)(h:∀C,Inv X XV σ K C->Q () C) :
  wpAny (model X.prog X.w) A (setItem (.ref a) u r) Q E s:=by
 rcases g with ⟨f,k,e,t,l,x⟩|⟨f,k,b,e,t,eb,l,x⟩
 ·subst t x
  let⟨z,hd,vs,d,B⟩:=Mr I.hok e;have m:vs.length<=zi:=by rw[<- d.length];exact z
  have p:(putK f k v).length<=zi:=by have:=lP f k v;omega
  refine wpAny_setItem_pairs (hsz:=m) (mQ D) B λ G i n=>h _ ?_;have he:∃q,G.get? a=some q:=let ⟨q,_,_,j,_⟩:=i;⟨q,j⟩;exact sV I (by rw[e];exact True.intro) n he (Ib p hd (d.put k F) i)
 ·subst t x
  cases (show u=Value.ref b from D);let⟨z,hd,L,d,B⟩:=TM I.hok e;have m:L.length<=zi:=by rw[<- Paired.length d];exact z
  have p:(putK f k v).length<=zi:=by have:=lP f k v;omega
  refine wpAny_setItem_heap (hsz:=m) (tupleKind_room_in1 hu) (oh I.hok eb) B λ G i n=>h _ ?_;let⟨q,R,S,j,P,O,N,_,M⟩:=i;refine sV I (by rw[e];exact True.intro) n ⟨q,j⟩ ⟨p,hd,_,(d.put k eb F).keeps λ c T J=>?_,q,R,S,j,P,O,N,M⟩;rw[ar (k8 J e (λ z=>nomatch z))];exact J
end
section
variable {X:Cx}{XV:List (uc×Obj)}{σ:St}{H:Hp}{s:kt}{a:uc}{kvs:List (Key×V)}{k:Key}{u:jp}{A:ut}{E:jp->kt->Prop}
def TQ(I:Inv X XV σ H s)(e:Rd H a (.dK kvs))(h:∀t c,Inv X XV σ H c->Q (.int kvs.length t) c):wpAny (model X.prog X.w) A (call (.builtin "len") [.ref a]) Q E s:=by
 let⟨z,hd,vs,b,d⟩:=mX I.hok e;refine call_len_dict hd d (by rw[<- b.length];rw[sizeLine_eq]at z;omega) ?_;rw[<- b.length];exact h _ _ (I.tok _)
end
def Cb{X:Cx}{f:List (uc×Obj)}{σ:St}{H:Hp}{s:kt}{a:uc}{y:V}{o:Option V}(I:Inv X f σ H s)(g:kY H a y o):s.TypeIs (.ref a) "dict":=by
 rcases g with ⟨c,k,e,_,_⟩|⟨c,k,b,e,_,_,_⟩
 ·let⟨_,_,vs,_,d⟩:=mX I.hok e
  exact d.typeIs
 ·let⟨_,_,h,_,d⟩:=rF I.hok e
  exact d.typeIs
section
variable {X:Cx}{o i e value:Expr}{pos pos' VA:Pos}{td ty tv:TE}
end
def Bi(h:Heap)(a:sysModules<h.objs.size):bV P w H (h.push { cls:=.type "dict",data:=.dict #[] }) h.objs.size (.dK []) :=
 ⟨zW _,zzF.mpr (Ne.symm (zF a)),[],.nil,Heap.DictOf.new h⟩
abbrev Gv:TE:=λ _ H Q=>∀p,H p=none->Q (.ref p) (upd H p (.dK []))
section
variable {X:Cx}{pos:Pos}
def JF:PE X (.Dict [] [] pos) Gv:=λ b s σ H Q I h =>
 wpAny_Dict_empty ⟨.ref s.heap.objs.size,_,I.laid (a:=s.heap.objs.size) (o:=.dK []) (t':=s.toks) (λ _ _ q=>zv _ q) (zq _) (Bi s.heap I.big),rfl,h _ (I.hok.fresh (zq _))⟩
end
abbrev nN:List (TE×TE)->St->Hp->(List (V×V)->Hp->Prop)->Prop
 |[],_,H,Q=>Q [] H
 | (b,a)::r,σ,H,Q=>b σ H λ x e=>a σ e λ y d=>nN r σ d λ ps c=>Q ((x,y)::ps) c
@[reducible]noncomputable def VV:List (V×V)->List (jp×jp)->Prop:=Paired λ p q=>RelV p.1 q.1/\RelV p.2 q.2
abbrev IG(X:Cx)(pos:Pos)(keys:List (Option Expr))(values:List Expr)(d:List (TE×TE)):Prop :=
 ∀(a:List (uc×Obj)) (s:kt) (σ:St) (H:Hp) (Q:List (V×V)->Hp->Prop),Inv X a σ H s->nN d σ H Q ->
  wpAny (model X.prog X.w) X.A (evalPairs (pairTrees keys values X.env pos)) (λ vs c=>∃ps b,Inv X a σ b c/\VV ps vs/\Q ps b) X.xe s
def NA:IG X pos [] [] []:=λ a s σ H Q I h=>pairTrees_nil_walk ⟨[],H,I,.nil,h⟩
def JB(q:PE X k d)(hv:PE X v c)(p:IG X pos e vs f) :
  IG X pos (some k::e) (v::vs) ((d,c)::f):=λ b s σ H Q I h =>
 pairTrees_cons_walk (aJ (q b s σ H _ I h) λ u i ⟨x,B,w,l,o⟩=>aJ (hv b i σ B _ w o) λ C g ⟨y,A,t,j,n⟩ =>
  aJ (p b g σ A _ t n) λ ws D ⟨ps,z,r,a,m⟩=>⟨(x,y)::ps,z,r,.cons ⟨l,j⟩ a,m⟩)
abbrev jc(a more:List (Key×V)):List (Key×V):=more.foldl (λ b c=>putK b c.1 c.2) a
def KV.merge:∀{more:List (Key×V)} {b:List (Key×jp)} {a:List (Key×V)} {vs:List (Key×jp)},KV more b->KV a vs->KV (jc a more) (merged vs b):=by
 intro more b a vs r;unfold KV at r;induction r generalizing a vs with
 |nil=>intro q;exact q
 |@cons p q ps f h t d =>
  intro c;have e:KV (putK a p.1 p.2) (stored vs q.1 q.2):=by
   have:=c.put p.1 h.2
   rw[<- h.1];exact this
  exact d e
def nr:∀(more a:List (Key×V)),(jc a more).length<=a.length+more.length
 |[],a=>by show a.length<=a.length+0;omega
 |p::r,a=>by
  have c:=nr r (putK a p.1 p.2);have b:=lP a p.1 p.2;show (jc (putK a p.1 p.2) r).length<=_;rw[zj];omega
def rJ:∀{d:List (Key×V)} {ws:List (jp×jp)},VV (d.map λ f=>(kV f.1,f.2)) ws->∃e,Carries (aN P w) ws e/\KV d e
 |[],_,r=>by rw[wv]at r;cases r;exact⟨[],True.intro,.nil⟩
 |p::d,_,r=>by
  rw[zR]at r;cases r with
  |@cons a b j bs h t =>
   let⟨e,c,q⟩:=rJ (P:=P) (w:=w) t;let⟨i,g⟩:=b;exact⟨(p.1,g)::e,⟨mQ h.1,rfl,c⟩,.cons ⟨rfl,h.2⟩ q⟩
abbrev K4(d:List (TE×TE)):TE:=λ σ H Q=>∀p,H p=none->nN d σ (upd H p (.dK [])) λ ps c=>c p=some (.dK [])/\∃a:List (Key×V),ps=a.map (λ b=>(kV b.1,b.2))/\a.length<=15/\Q (.ref p) (upd c p (.dK (jc [] a)))
def NF{X:Cx}{pos:Pos}{keys:List (Option Expr)}{values:List Expr}{g:List (TE×TE)}(h:IG X pos keys values g)(E:keys.all (·.isSome)=true)(v:keys.length=values.length)(y:keys≠[])
  (C:keys.length<=15):PE X (.Dict keys values pos) (K4 g):=by
 intro D s σ H Q I q;have u:=I.hok.fresh (zq s.heap.objs.size);have F:=I.laid (a:=s.heap.objs.size) (o:=.dK []) (h':=s.heap.push { cls:=.type "dict",data:=.dict #[] }) (t':=s.toks) (λ _ _ q=>zv _ q) (zq _) (Bi s.heap I.big);refine wpAny_Dict_walk (knd:=aN X.prog X.w) E v y C (aJ (h D _ σ _ _ F (q _ u)) λ ws G ⟨ps,K,i,f,e,b,A,J,n⟩=>?_);subst A;let⟨k,c,l⟩:=rJ (P:=X.prog) (w:=X.w) f;let⟨z,hd,j,m,B⟩:=Mr i.hok e;cases m;refine⟨k,c,B,λ h' d r=>⟨.ref s.heap.objs.size,_,?_,rfl,n⟩⟩;have p:(jc [] b).length<=zi:=by
  have x:=nr b [];rw[zT]at x;rw[sizeLine_eq];omega
 have he:∃q,h'.get? s.heap.objs.size=some q:=let ⟨q,_,_,t,_⟩:=d;⟨q,t⟩;exact sV i (by rw[e];exact True.intro) r he (Ib p hd (l.merge .nil) d)
section
variable {X:Cx}{XV:List (uc×Obj)}{σ:St}{H:Hp}{s:kt}{a:uc}{y d:V}{u r:jp}{o:Option V}{A:ut}{E:jp->kt->Prop}
end
section
variable {X:Cx}{o e f:Expr}{apos cpos:Pos}{td ty tx:TE}
end
section
variable {X:Cx}{XV:List (uc×Obj)}{σ:St}{H:Hp}{s:kt}{a:uc}{kvs:List (Key×V)}{A:ut}{E:jp->kt->Prop}
end
section
variable {X:Cx}{XV:List (uc×Obj)}{σ:St}{H:Hp}{s:kt}{a:uc}{y:V}{u:jp}{A:ut}{E:jp->kt->Prop}
end
end L2
namespace Vr
open PySem PySem.W PySem.Calls PyProof.Rows
def qT:∀(ns:List Int) (vs:List jp),WellAll P h vs (ns.map WData.int)->IntsAre vs ns:=by
 intro ns;induction ns with
 |nil =>
  intro vs w;rw[wv]at w;cases w;exact .nil
 |cons n ns c =>
  intro vs w;rw[zR]at w;cases w with
  |cons a b =>
   cases a;exact .cons _ _ (c _ b)
def GD{l:OpenLaw}{n:Nat}(j:l.most=some n){P:Params}{h:Heap}{args:List WData}{vals:List jp}
  (e:l.row.toRowW.claim.pre args=true) (s:WellAll P h vals args) :
  ∃a vs ns,vals=[Value.ref a]/\args=[WData.list (ns.map WData.int)]/\h.get? a=some { cls:=.type "list",data:=.seq vs.toArray }/\IntsAre vs ns/\ns.length<=n:=by
 have p:WShape.hasAll [] args [.list .int]=true:=(pre_splitW e).1;have hc:l.pre.holds [] { args:=args }=true:=(pre_splitW e).2;let⟨d,r,rfl,o,m⟩:=hasAllW_cons p;obtain rfl:=hasAllW_nil m;let⟨u,rfl,k⟩:=hasW_list o;let⟨ns,rfl⟩:=items_int k;have hlen:ns.length<=n:=by
  unfold OpenLaw.pre at hc;have c:(WTm.not (.lt (.lit (.int (n:Int))) (.len (.arg 0)))).holds [] { args:=[.list (ns.map .int)] }=true:=by
   have c:=(holds_andW hc).1;rw[j]at c;exact c
  have b:=condW_of c (w_not (w_lt w_lit (w_len_list (w_arg rfl))));rw[zy]at b;refine yP λ q=>?_;have i:(n:Int)<((ns.length:Nat):Int):=by first|lia|omega
  first
   | (rw[zzB i]at b;exact absurd b (by decide))
   | (simp at b;omega)
 cases s with
 |cons g f =>
  cases f;cases g with
  |list ho t=>exact⟨_,_,ns,rfl,rfl,ho,qT ns _ t,hlen⟩
def GW(l:OpenLaw)(args:List WData):l.row.toRowW.claim.post args (.bool true) args=true :=
 postW_of (r:=l.row.toRowW) (X:=(true==true))
  (show WShape.has [] (.bool true) .bool=true by first|rfl|decide|simp[WShape.has,WShape.arms,WShape.armsAll])
  (show (WTm.eq .res (.lit (.bool true))).value [] { args:=args,res:=some (.bool true),after:=args }=some (.bool (true==true)) from w_eq_bool (w_res rfl) w_lit) rfl
def Cf{l:OpenLaw}{n:Nat}{q:uf}{loose:List Str}{XP:(Str->Option jp)->Heap->Prop}{YP:ul->Heap->Prop}{d:DefRec}
  (t:l.most=some n) (E:d.params.defaults=[])
  (call:∀(w:ul) (s₀ b:kt) (mg i:Str->Option jp) (e:uc) (o:Obj) (h cd c:jp) (a:uc) (vs:List jp) (ns:List Int),
   Ground q loose [] XP w s₀ mg i b.heap->YP w b.heap ->
   b.heap.get? e=some o->o.data=.func (docDef d.name d.params d.body d.scope h cd c)->b.heap.CodeRec cd d.name->mg d.name=some (.ref e) ->
   b.heap.get? a=some { cls:=.type "list",data:=.seq vs.toArray }->IntsAre vs ns->ns.length<=n->b.gens=#[] ->
   codeAny (model l.prog w) callerA (.call (.ref e) ⟨[.ref a],[]⟩) (λ r g=>r=.ok (.ret (.bool true))/\OldK b.heap g.heap/\g.os=b.os/\AllBare g.gens) b) :
  WalkO q loose XP YP l.row.toRowW d [] (λ f vs=>PySem.call f vs):=by
 intro w s₀ b mg i G Y e o h cd c B kV ho hd m j k x args vals I H C p D v;obtain rfl:B=.none:=Dflts.none j E;obtain rfl:kV=.none:=Dflts.noKw j;let⟨a,vs,ns,rfl,rfl,F,hints,hlen⟩:=GD t H D;refine enter_call (codeAny_mono (call w s₀ b mg i e o h cd c a vs ns G Y ho (fd_plain hd) m k F hints hlen x) λ r g s=>?_);let⟨rfl,A,z,y⟩:=s;exact⟨.inl ⟨.bool true,.bool true,[],rfl,λ _=>rfl,.bool true,GW l _,λ _=>⟨List.Pairwise.nil,λ _ u=>(nomatch u)⟩⟩,A,z,y⟩
section
variable {prog:uf}{w:ul}{A:ut}{E:jp->kt->Prop}{s:kt}{K:Frag}
end
end Vr
namespace L2
open PySem PySem.Spec PyProof.Rows
def tm:∀{vs:List jp} {ns:List Int},IntsAre vs ns->Vals (ns.map V.int) vs
 |_,_,.nil=>.nil
 |_,_,.cons n t h=>.cons ⟨t,rfl⟩ (tm h)
abbrev FY(H:Hp):Prop:=∀b,H b=none\/∃o a,H b=some (.frz o (.lst a))
def JV{P:uf}{w:ul}{K:Q_}{mg A:Str->Option jp}{R:oE}{k:Nat}{D a:uc}{fd:FuncData}{x:Str}{G:Sp}{s₁:kt}{vs:List jp}{ns:List Int}
  (Q:K.In s₁.heap) (N:s₁.heap.Ns mainGlobals mg) (c:s₁.heap.Ns builtinsNs A) (AZ:∀x:Str,x≠"__name__"->A x=bootBuiltins x) (V3:s₁.heap.NoLimit) (Y:s₁.gens=#[])
  (t:s₁.heap.get? a=some { cls:=.type "list",data:=.seq vs.toArray }) (hi:IntsAre vs ns) (J:ns.length<=zi) (X:cF k callerA)
  (F:∀base:Heap,K.In base->base.Ns mainGlobals mg->dF P w K mg base R k D fd [x] G) (i:∀(s:kt) (u:jp),BindsTo s fd ⟨[u],[]⟩ [(x,u)])
  (B:∀H:Hp,FY H->bx K H a (ns.map V.int)->G [.ref a] H (λ v _=>v=.bl true) λ _ _ _=>False)
  (C:∀H e f,R [] H s₁ (λ _ _ _=>False) e f->False) :
  codeAny (model P w) callerA (.call (.ref D) ⟨[.ref a],[]⟩) (λ r f=>r=.ok (.ret (.bool true))/\OldK s₁.heap f.heap/\f.os=s₁.os/\AllBare f.gens) s₁:=by
 have I:=tm hi;have VS:=hi.length;have core:∀H:Hp,FY H->bx K H a (ns.map V.int)->cV P w H s₁.heap->(∀b,H b≠none->b=a)->(H a≠none->K.lookup a=none) ->
   codeAny (model P w) callerA (.call (.ref D) ⟨[.ref a],[]⟩) (λ r f=>r=.ok (.ret (.bool true))/\OldK s₁.heap f.heap/\f.os=s₁.os/\AllBare f.gens) s₁:=by
  intro H L Z hok M hK;have pA:∀{b:uc} {o:Obj},s₁.heap.get? b=some o->H b=none->(mW s₁.heap H).get? b=some o:=λ e n=>J4 e n;have y:∀{b:uc} {o:Obj} {p:Array DictEntry} {ep:Nat},s₁.heap.get? b=some o->o.data=.dict p ep->H b=none:=λ {b o p ep} e d=>by
   cases q:H b with
   |none=>rfl
   |some u =>
    have E:b=a:=M b (by rw[q];simp);subst E;rw[t]at e;cases e;have d':Data.seq vs.toArray _=Data.dict p ep:=d;cases d'
  have g:∀{b:uc} {m:Str->Option jp},s₁.heap.Ns b m->(mW s₁.heap H).Ns b m:=λ {b m} ⟨o,p,ep,e,d,r⟩=>⟨o,p,ep,pA e (y e d),d,r⟩;have O:K.In (mW s₁.heap H):=λ b o e=>pA (Q b o e) (by
   cases q:H b with
   |none=>rfl
   |some u =>
    have E:b=a:=M b (by rw[q];simp);subst E;rw[hK (by rw[q];simp)]at e;cases e)
  have hM:Mod K mg (mW s₁.heap H):=⟨O,g N,⟨A,g c,AZ⟩,let ⟨W,h1,h2⟩:=V3;⟨W,g h1,h2⟩⟩;have e0:qu P w K mg (mW s₁.heap H) callerA [] s₁ H:=⟨rfl,hM,λ b o e=>NM e,yG (HE _ _),trivial,λ b c=>absurd (show b∈([]:List uc) from c) (by simp),hok,.of_eq Y⟩;refine codeAny_mono ((F _ O (g N)).run callerA [] s₁ H ⟨[.ref a],[]⟩ [.ref a] [.ref a] _ _ X e0 (i s₁ (.ref a)) (.cons rfl .nil) (B H L Z)) λ r f h=>?_;cases r with
  |error e=>exact(C H e f h).elim
  |ok fl =>
   cases fl with
   |next=>exact False.elim h
   |brk=>exact False.elim h
   |cont=>exact False.elim h
   |ret u =>
    let⟨v,H',os,bare,un,l,T,q⟩:=h;have U:v=.bl true:=q;subst U;obtain rfl:u=Value.bool true:=T;refine⟨rfl,OldK.of_keep λ b o e=>?_,os,bare⟩;cases q:H b with
    |none=>exact un.keep b o e q (by intro z;exact absurd (show b∈([]:List uc) from z) (by simp)) (by simp)
    |some u =>
     rcases L b with z|⟨ob,xs,z⟩
     ·rw[q]at z;cases z
     ·have S:=un.iG b ob _ z
      let⟨e1,_⟩:=hok b _ z;let⟨e2,_⟩:=l b _ S;rw[e]at e1;cases e1;exact e2
 cases hk:K.lookup a with
 |some o =>
  have e:=Q a o hk;rw[t]at e;cases e;refine core (λ _=>none) (λ _=>.inl rfl) (.inr ⟨_,vs.toArray,_,hk,rfl,rfl,rfl,by rw[zD,VS];exact J,by simpa using I⟩) (λ b u z=>by have j:(none:Option HO)=some u:=z;cases j) (λ b z=>absurd rfl z) λ z=>absurd rfl z
 |none =>
  refine core (λ b=>if b=a then some (.frz { cls:=.type "list",data:=.seq vs.toArray } (.lst (ns.map V.int))) else none) (λ b=>?_) (.inl (.inr ⟨{ cls:=.type "list",data:=.seq vs.toArray },if_pos rfl⟩)) (λ b u z=>?_) (λ b z=>?_) λ _=>hk
  ·by_cases c:b=a
   ·exact .inr ⟨_,_,if_pos c⟩
   ·exact .inl (if_neg c)
  ·by_cases c:b=a
   ·have j:=(if_pos c).symm.trans z
    cases j;subst c;exact⟨t,by rw[zy];exact J,vs,_,I,t⟩
   ·have j:=(if_neg c).symm.trans z
    cases j
  ·by_cases c:b=a
   ·exact c
   ·exact absurd (if_neg c) z
end L2
namespace L2
open PySem PySem.Spec PyProof.Rows
abbrev bL(s:uV):Arguments:=match s with
 |.FunctionDef _ a _ _ _ _ _ _ _ _=>a
 |_=>{ posonlyargs:=[],args:=[],vararg:=none,kwonlyargs:=[],kw_defaults:=[],kwarg:=none,defaults:=[] }
abbrev aG(s:uV):List uV:=match s with
 |.FunctionDef _ _ b _ _ _ _ _ _ _=>b
 |_=>[]
abbrev ah(s:uV):Scope:=match s with
 |.FunctionDef _ _ _ _ _ _ sc _ _ _=>sc
 |_=>{ kind:=.function,names:=[],isGenerator:=false,isCoroutine:=false }
@[reducible]noncomputable def gG:oE:=λ _ _ _ _ _ _=>False
@[reducible]noncomputable def E0:XK:=λ _ _ _=>False
def Li:Passes gG X E0:=λ _ _ _ _ _ _ _ h=>h.elim
structure jv (K:Q_) (x qual:Str) (st:uV) (f:uc) (fd:FuncData):Prop where
 ex:∃(oc:jp) (od:Option uc) (kV doc pm:jp) (an:Option uc) (cdv ct:jp) (eR:Array (Option jp)),
  fd=Z_ x qual (bL st) (aG st) (ah st) .none kV doc pm an cdv ct/\K.lookup f=some ⟨oc,od,.func fd,eR⟩/\K_ K cdv qual=true
 kp:X_ K (.ref f)=true
section
variable {P:uf}{w:ul}{K:Q_}{mg:Str->Option jp}{base:Heap}
def jv.ok{x qual:Str}{st:uV}{f:uc}{fd:FuncData}{N ps:List Str}{k:Nat}{sp:Sp}(F:jv K x qual st f fd)(S:bX N ps (ah st))(len:∀vs H Q E,sp vs H Q E->vs.length=ps.length)
  (i:∀(cdv:jp) (A:ut) (outer:List Env) (s:kt) (H:Hp) (vs:List V) (Q:VK) (E:XK),cF k (A.deeper (envOfC qual (ah st) s.heap.objs.size f cdv))->sp vs H Q E ->
   ∃t,cG (fK gG P w K mg base N qual (ah st) f cdv A outer s H E).dw (aG st) t/\t { nx:=λ _ g=>Q .non g,rt:=Q } (start N vs) H):dF P w K mg base gG (k+1) f fd ps sp:=by
 let⟨m,l,kV,e,j,o,cdv,ct,n,rfl,b,c⟩:=F.ex;refine Ml b c S len λ A outer s H vs Q E d a=>?_;let⟨t,h,q⟩:=i cdv A outer s H vs Q E d a;exact⟨t,h.dw,q⟩
def jv.binds{x qual:Str}{st:uV}{f:uc}{fd:FuncData}{ps:List Str}(F:jv K x qual st f fd)
  (h:∀(kV a b:jp) (c:Option uc) (cdv ct:jp) (us:List jp),us.length=ps.length->bindArgs (Z_ x qual (bL st) (aG st) (ah st) .none kV a b c cdv ct) ⟨us,[]⟩=pure (ps.zip us)):Binds K fd ps []:=by
 let⟨e,d,kV,a,b,c,cdv,ct,j,rfl,g,i⟩:=F.ex;exact .all (h kV a b c cdv ct)
def rC{x qual:Str}{st:uV}{f:uc}{e:jp}{od d:Option uc}{g:Array (Option jp)}{kV a b cdv ct:jp}(l:K.lookup f=some ⟨e,od,.func (Z_ x qual (bL st) (aG st) (ah st) .none kV a b d cdv ct),g⟩)
  (c:K_ K cdv qual=true) (k:X_ K (.ref f)=true):jv K x qual st f (Z_ x qual (bL st) (aG st) (ah st) .none kV a b d cdv ct):=⟨⟨e,od,kV,a,b,d,cdv,ct,g,rfl,l,c⟩,k⟩
end
section
variable {X:Cx}
end
end L2
set_option maxHeartbeats 4000000
namespace L3
open PySem PySem.Spec PyProof.Rows L2
section
variable {M:Model}{A:ut}{E:jp->kt->Prop}{s:kt}
def Ic(f:Array jp->Array jp)(o:Obj):(Obj.mapFields f o).dict=o.dict:=by
 let⟨c,d,a,b⟩:=o;cases a <;> rfl
abbrev qt(e T:uc)(cls:jp)(d:Option uc)(h:Heap):Prop:=∃a vs c b,h.get? e=some a/\a.cls=cls/\a.dict=d/\a.data=.fields vs/\vs[1]?=some (.ref T)/\T≠e/\h.get? T=some c/\c.data=.fields b/\b[3]?=some .none
structure Mv (fs ch:List uc) (h h':Heap):Prop where
 keep:∀b o,b ∉ fs->b ∉ ch->h.get? b=some o->h'.get? b=some o
 slot:∀b o,b ∉ ch->h.get? b=some o->∃sl,h'.get? b=some { o with slots:=sl }
 there:∀b o,h.get? b=some o->∃o',h'.get? b=some o'
def An{base:Heap}{env:Env}{outer:List Env}{L e:uc}{oe:Obj}{vs:Array jp}{head:jp}{F:Bool}{Q:Unit->kt->Prop}
  (I:A.frames=some (env::outer)) (u:s.heap.FunFrames base (env::outer)) (l:env.frame=some L)
  (he:s.heap.get? e=some oe) (hd:oe.data=.fields vs) (hsz:1<vs.size)
  (h:∀h' T,qt e T oe.cls oe.dict h'->s.heap.objs.size<=T->Mv (gB (env::outer)) [e] s.heap h'->Q () { s with heap:=h' }) :
  wpAny M A (do let a<-frameOf env;let pl<-entryPlaceOf L F;let b<-EntryCells.newEntry head a .none (rawInt L) .none pl;setField (.ref e) 1 b) (λ _ z=>wpAny M A (setFlight (.ref e) none) Q E z) E s:=by
 have C:e ∉ (env::outer).filterMap (·.frame):=λ B=>by
  let⟨_,o,ho,H⟩:=u.mem B;rw[he]at ho;injection ho with ho;subst ho;exact H vs hd
 refine zw (wpAny_frameOf_fun I u l λ c g=>?_);refine zw (wpAny_entryPlaceOf λ pl t=>?_);unfold EntryCells.newEntry newFields;refine zw (wpAny_newObj_type ?_ (t.sizeOk5 _ _ _ _ _));have w:c.get? e=some oe:=(g.2.1 e C).trans he;generalize y:({ cls:=.type "traceback",dict:=none,data:=.fields ([head,.ref L,.none,rawInt L,.none]++(if pl.isEmpty then yx 6 Value.none else pl)).toArray }:Obj)=ob;have p:ob.data=.fields ([head,.ref L,.none,rawInt L,.none]++(if pl.isEmpty then yx 6 Value.none else pl)).toArray:=by rw[<- y]
 have D:ob.isFreed=false:=by rw[<- y];rfl
 have r:=zv (h:=c) ob w;refine wpAny_setField r hd hsz ?_;have i:c.objs.size≠e:=yi (zg w);have m:=Obj.data_mapFields hd (·.setIfInBounds 1 (Value.ref c.objs.size));have n:=yu (Obj.mapFields (·.setIfInBounds 1 (Value.ref c.objs.size))) r (Obj.isFreed_of_fields m);have v:=(zX (c.push ob) (Obj.mapFields (·.setIfInBounds 1 (Value.ref c.objs.size))) (Ne.symm i)).trans (zC c D);unfold setFlight;refine zw (wpAny_field n m (x:=.ref c.objs.size) (by simp[hsz]) ?_);rw[if_pos (show (Value.ref c.objs.size != Value.none)=true from by simp)];refine wpAny_setField v p (by rwa[zD,zx,zj,zT] <;> omega) (h _ c.objs.size ?_ (by rw[g.1];exact zq _) ?_)
 ·refine⟨_,_,_,_,?_,Obj.cls_mapFields _ _,Ic _ _,m,by simp[hsz],i,yu _ v (Obj.isFreed_of_fields (Obj.data_mapFields p _)),Obj.data_mapFields p _,by first|(simp;done)|(rcases t with rfl|⟨_,_,_,_,_,_,_,rfl⟩ <;> simp)⟩
  rw[zX _ _ i];exact n
 ·have keep:∀b o,b≠e->c.get? b=some o->(((c.push ob).update e (Obj.mapFields (·.setIfInBounds 1 (Value.ref c.objs.size)))).update c.objs.size (Obj.mapFields (·.setIfInBounds 3 ((none:Option uc).elim Value.none λ f=>rawInt f)))).get? b=some o:=λ b o j d=>by
   have G:c.objs.size≠b:=yi (zg d);rw[zX _ _ G,zX _ _ (Ne.symm j)];exact zv _ d
  refine⟨λ b o l hc d=>keep b o (by simpa using hc) ((g.2.1 b l).trans d),λ b o hc d=>?_,λ b o d=>?_⟩
  ·let⟨q,k⟩:=g.2.2 b o d
   exact⟨q,keep b _ (by simpa using hc) k⟩
  ·by_cases j:b=e
   ·subst j
    rw[zX _ _ i];exact⟨_,n⟩
   ·let⟨q,k⟩:=g.2.2 b o d
    exact⟨_,keep b _ j k⟩
def B8 
  (d:A.frames=some (env::outer)) (c:s.heap.FunFrames base (env::outer)) (a:env.frame=some L) (he:s.heap.get? e=some oe) (hd:oe.data=.fields vs) (b:vs[1]?=some .none)
  (h:∀h' T,qt e T oe.cls oe.dict h'->s.heap.objs.size<=T->Mv (gB (env::outer)) [e] s.heap h'->Q () { s with heap:=h' }):wpAny M A (leaving env (.ref e)) Q E s:=by
 unfold leaving noteFrame;rwa[a];refine zw (zw (wpAny_field he hd b ?_));rw[if_neg (by decide)];exact An d c a he hd (yA.mp b).1 h
def Ax{base:Heap}{env:Env}{outer:List Env}{L e T:uc}{cls:jp}{r:Option uc}{Q:Unit->kt->Prop}
  (F:A.frames=some (env::outer)) (z:s.heap.FunFrames base (env::outer)) (i:env.frame=some L) (y:qt e T cls r s.heap)
  (h:∀h' k,qt e k cls r h'->s.heap.objs.size<=k->Mv (gB (env::outer)) [e,T] s.heap h'->Q () { s with heap:=h' }):wpAny M A (noteFrame (.ref e) env) (λ _ v=>wpAny M A (setFlight (.ref e) none) Q E v) E s:=by
 let⟨G,vs,H,u,he,C,w,hd,p,x,j,f,n⟩:=y;subst C w;unfold noteFrame;rwa[i];refine zw (wpAny_field he hd p ?_);rw[if_pos (show (Value.ref T != Value.none)=true from by simp)];refine zw (wpAny_field j f n ?_);rw[if_neg (show ¬ ((Value.none==rawInt L)=true) from by simp[rawInt])];refine zw (wpAny_setField j f (yA.mp n).1 ?_);have other:∀b,b≠T->(s.heap.update T (Obj.mapFields (·.setIfInBounds 3 Value.none))).get? b=s.heap.get? b:=λ b a=>zX _ _ (Ne.symm a);have c:∀b o,s.heap.get? b=some o->(∀vs,o.data≠.fields vs)->b≠T:=λ b o a m q=>by
  rw[q,j]at a;injection a with a;subst a;exact m u f
 have D:∃o',(s.heap.update T (Obj.mapFields (·.setIfInBounds 3 Value.none))).get? T=some o':=⟨_,yu _ j (Obj.isFreed_of_fields (Obj.data_mapFields f _))⟩;refine An F (z.of_keeps λ b o a m=>⟨o,(other b (c b o a m)).trans a,rfl⟩) i ((other e (Ne.symm x)).trans he) hd (yA.mp p).1 λ h' k B d g=>h h' k B (by rw[Heap.size_update]at d;exact d) ?_;refine⟨λ b o i hc a=>?_,λ b o hc a=>?_,λ b o a=>?_⟩
 ·rwa[zd,yv,or_false,not_or]at hc
  exact g.keep b o i (by simpa using hc.1) ((other b hc.2).trans a)
 ·rwa[zd,yv,or_false,not_or]at hc
  exact g.slot b o (by simpa using hc.1) ((other b hc.2).trans a)
 ·by_cases t:b=T
  ·subst t
   let⟨o',l⟩:=D;exact g.there _ _ l
  ·exact g.there b o ((other b t).trans a)
def lands(p:qt e T cls j s.heap)(h:∀h',qt e T cls j h'->(∀b o,b≠T->s.heap.get? b=some o->h'.get? b=some o)->Q () { s with heap:=h' }):wpAny M A (setFlight (.ref e) none) Q E s:=by
 let⟨n,vs,t,l,he,r,m,hd,i,d,g,a,q⟩:=p;have k:3<l.size:=(yA.mp q).1;have other:∀b,b≠T->(s.heap.update T (Obj.mapFields (·.setIfInBounds 3 ((none:Option uc).elim Value.none λ f=>rawInt f)))).get? b=s.heap.get? b:=λ b c=>zX _ _ (Ne.symm c);unfold setFlight;refine zw (wpAny_field he hd i ?_);rw[if_pos (show (Value.ref T != Value.none)=true from by simp)];refine wpAny_setField g a k (h _ ?_ λ b o c e=>(other b c).trans e);exact⟨n,vs,_,_,(other e (Ne.symm d)).trans he,r,m,hd,i,d,yu _ g (Obj.isFreed_of_fields (Obj.data_mapFields a _)),Obj.data_mapFields a _,by simp[k]⟩
end
abbrev fu:List jp:=[.type "ValueError",.type "Exception",.type "BaseException",.type "object"]
abbrev cM:List Str:=["__class__","__getattribute__","__getattr__","__setattr__","at","row"]
abbrev Gz:List Str:=cM++quietNames
abbrev ZC(h:Heap)(C:uc)(bm:List jp)(ns:List Str)(c:Bool)(qU:Option jp):Prop:=∃N nm q bs sn a k col j i g f e d b,h.get? C=some (excClassObj nm q C N bs bm c sn a k col j i g f e d "ValueError.__new__")/\h.Ns N b/\(∀n∈ns,b n=none)/\b "__init__" = qU
abbrev ZH(h:Heap)(C D c:uc):Prop:=ZC h C (.ref D::fu) cM true (some (.ref c))/\(∃b,ZC h D fu Gz b none)/\∃a,h.get? c=some a/\a.cls=.type "function"
abbrev ZB(h:Heap)(B:uc):Prop:=∃o cd,h.get? B=some o/\o.cls=.type "type"/\o.data=.cls cd
abbrev ZE(h:Heap)(e C:uc):Prop:=∃a,h.get? e=some a/\a.cls=.ref C
def ZC.keeps(z:ZC h C bm ns c qU)(k:∀b o,h.get? b=some o->h'.get? b=some o):ZC h' C bm ns c qU:=by
 let⟨N,nm,q,bs,sn,a,r,col,p,j,i,g,f,e,d,n,m,l⟩:=z;exact⟨N,nm,q,bs,sn,a,r,col,p,j,i,g,f,e,d,k _ _ n,m.keeps k,l⟩
def ZH.keeps(z:ZH h C D fI)(k:∀b o,h.get? b=some o->h'.get? b=some o):ZH h' C D fI:=by
 obtain⟨e,⟨b,d⟩,f,c,a⟩:=z;exact⟨e.keeps k,⟨b,d.keeps k⟩,f,k _ _ c,a⟩
def ZH.tail(z:ZH h C D g):OwnTailQ h fu (.ref D::fu):=by
 obtain⟨_,⟨b,N,nm,q,bs,sn,a,r,col,p,o,m,l,k,j,i,f,e,d,_⟩,_⟩:=z;exact .own f e (λ n c=>d n (zN _ c)) .base
section
variable {prog:uf}{w:ul}{A:ut}{E:jp->kt->Prop}{h:Heap}{g:Array GenState}{d:Drawn}{t:Nat}{os:OsState}{e C D fI:uc}
def nK(x:ZE s.heap e C)(a:Q (.ref C) s):wpAny M A (typeOf (.ref e)) Q E s:=by
 let⟨b,he,hc⟩:=x;unfold typeOf;exact zw (wpAny_loadPart he (zo (hc▸a)))
def uy(z:ZH s.heap C D fI)(f:(Value.ref C::Value.ref D::fu).contains base=b)(c:Q b s):wpAny M A (isSubtype (.ref C) base) Q E s:=by
 obtain⟨⟨N,nm,q,bs,sn,a,u,col,r,o,n,m,l,k,j,i,_,_,_⟩,_⟩:=z;let⟨p,g,d,t,os⟩:=s;exact wpAny_isSubtype_exc i (f▸c)
def fL(z:ZH s.heap C D fI)(i:n∈cM)(j:typeLookup (.type "ValueError") n=pure y)(I:Q y s):wpAny M A (typeLookup (.ref C) n) Q E s:=by
 obtain⟨⟨N,nm,q,bs,sn,m,ab,col,Z,X,W,V,U,T,S,k,K,J,_⟩,⟨b',N',r,R,O,o,f,P,l,L,H,G,B,x,v,u,c,b,a,_⟩,_⟩:=z;have p:lookupAlong fu n=pure y:=by rw[typeLookup_eq,F.excBase_ValueError.mroIs]at j;exact j
 let⟨Y,g,d,t,os⟩:=s;rw[typeLookup_eq];refine zw (wpAny_mroOf_exc k ?_);rw[lookupAlong_cons];refine zw (wpAny_classOwn_exc k K ?_);rw[J n i];show wpAny M A (lookupAlong (Value.ref D::fu) n) Q E _;rw[lookupAlong_cons];refine zw (wpAny_classOwn_exc c b ?_);rw[a n (zZ _ i)];show wpAny M A (lookupAlong fu n) Q E _;rw[p];exact zo I
def uQ(z:ZB s.heap B)(a:Q true s):wpAny M A (isType (.ref B)) Q E s:=by
 obtain⟨⟨j,i,l,f⟩,cd,c,k,b⟩:=z;cases b;unfold isType loadHead;exact zw (wpAny_loadPart c (zo a))
def ME(z:ZB s.heap B)(a:Q (.type "type") s):wpAny M A (typeOf (.ref B)) Q E s:=by
 let⟨o,cd,c,b,f⟩:=z;unfold typeOf;exact zw (wpAny_loadPart c (zo (b▸a)))
def ZC.cls(z:ZC h C bm ns b qU):ZB h C:=by
 let⟨N,nm,q,bs,sn,a,o,col,n,m,l,k,j,i,f,c,_,_⟩:=z;exact⟨_,_,c,rfl,rfl⟩
def DJ:typeLookup (.type "ValueError") "__class__" = pure (some (.builtin "object.__class__")):=by rw[typeLookup_type,builtinLookup_eq_fast];kernel_rfl
def BA(x:ZE h e C)(z:ZH h C D fI)(f:R (.ok (.ret (.ref C))) ⟨h,g,d,t,os⟩) :
  codeAny (model prog w) A (.call (.builtin "getset_descriptor.__get__") ⟨[.builtin "object.__class__",.ref e,.ref C],[]⟩) R ⟨h,g,d,t,os⟩:=by
 let⟨c,hx,hc⟩:=x;have a:(⟨h,g,d,t,os⟩:kt).TypeIs (.builtin "object.__class__") "getset_descriptor":=F.typeOf_object_class;have b:(Value.ref C::Value.ref D::fu).contains (.type (".".intercalate ("object.__class__".cutAt '.').dropLast))=true:=by
  rw[F.owner_object_class];rfl
 refine codeAny_call_builtin F.slot_gs_get.plain F.entry_gs_get (F.slot_gs_get.check _ _ _ _ _ _ _ _ a (F.args_gs_get _ _ _) ?_)
 repeat (any_goals (first|assumption|(with_reducible refine wpAny_loadPart_at hx ?_;rw[hc])|with_reducible refine uy z b ?_|wp_step))
 refine⟨Code.quiet_builtin _ (by decide +kernel),codeAny_builtin F.entry_object_class ?_⟩
 repeat (any_goals (first|assumption|(with_reducible refine wpAny_loadPart_at hx ?_;rw[hc])|wp_step))
def ur(x:ZE h e C)(z:ZH h C D fI)(i:Q (.done (.ret (.ref C))) ⟨h,g,d,t,os⟩) :
  wpAny (model prog w) A (Builtin.«object.__getattribute__» ⟨[.ref e,.str "__class__" b],[]⟩) Q E ⟨h,g,d,t,os⟩:=by
 have a:=x;let⟨f,hx,hc⟩:=x;have m:(⟨h,g,d,t,os⟩:kt).TypeIs (.builtin "object.__class__") "getset_descriptor":=F.typeOf_object_class;have l:=F.typeOf_object_class;have k:=F.slot_gs_get.lookup;have j:=F.slot_gs_set.lookup;have c:("__class__":Str)∈cM:=.head _
 repeat (any_goals (first|assumption|(with_reducible refine wpAny_loadPart_at hx ?_;rw[hc])|with_reducible refine fL z c DJ ?_|wp_step))
 refine BA a z ?_
 repeat (any_goals (first|assumption|wp_step))
def uR(x:ZE h e C)(z:ZH h C D fI)(c:R (.ok (.ret (.ref C))) ⟨h,g,d,t,os⟩) :
  codeAny (model prog w) A (.call (.builtin "BaseException.__getattribute__") ⟨[.ref e,.str "__class__" a],[]⟩) R ⟨h,g,d,t,os⟩:=by
 let⟨i,hx,hc⟩:=id x;let⟨N,nm,q,bs,sn,b,r,col,p,o,n,m,l,k,j,f,_,_⟩:=z.1;exact codeAny_call_builtin F.attrBase_ValueError.ga.plain F.entry_bexc_ga (wpAny_check_ga_own F.attrBase_ValueError f z.tail hx hc (ur x z c))
def DM{b:Tok}{fill expr:Bool}{Q:jp->kt->Prop}(x:ZE h e C)(z:ZH h C D fI)(l:Q (.ref C) ⟨h,g,d,t,os⟩) :
  wpAny (model prog w) A (getAttrBy (.ref e) (.str "__class__" b) fill expr) Q E ⟨h,g,d,t,os⟩:=by
 have a:=x;let⟨k,hx,hc⟩:=x;have m:=F.attrBase_ValueError.ga.bind (.ref e);have n:(expr&&onTheHeap (Value.builtin "BaseException.__getattribute__"))=false:=by cases expr <;> rfl
 have i:(Value.builtin "BaseException.__getattribute__"==Value.builtin "object.__getattribute__")=false:=by decide +kernel
 have j:(onTheHeap (Value.ref C)&&Value.builtin "BaseException.__getattribute__"==Value.builtin "object.__getattribute__")=false:=by rw[i];rfl
 have c:("__getattribute__":Str)∈cM:=.tail _ (.head _);have f:("__getattr__":Str)∈cM:=.tail _ (.tail _ (.head _))
 repeat (any_goals (first|assumption|(with_reducible refine wpAny_loadPart_at hx ?_;rw[hc])|with_reducible refine fL z c F.attrBase_ValueError.ga.lookup ?_|with_reducible refine fL z f F.attrBase_ValueError.noGetattr ?_|wp_step))
 refine uR a z ?_
 repeat (any_goals (first|assumption|wp_step))
def uS(x:ZE h e C)(z:ZH h C D fI)(a:Q (some (.ref C)) ⟨h,g,d,t+1,os⟩):wpAny (model prog w) A (getAttr? (.ref e) "__class__") Q E ⟨h,g,d,t,os⟩:=by
 unfold getAttr? getAttrBy?
 repeat (any_goals (first|assumption|with_reducible apply DM x z|wp_step))
def DK(x:ZE s.heap e C)(b:Q (.done (.ret (.bool true))) s):wpAny (model prog w) A (Builtin.«isinstance.nested» ⟨[.ref e,.ref C,.int dep a],[]⟩) Q E s:=by
 unfold Builtin.«isinstance.nested»;refine zw (nK x ?_);rw[if_pos (beq_self_eq_true _)];exact zw (wpAny_rule (zw (zo (zo b))))
def DL(x:ZE s.heap e C)(z:ZH s.heap C D fI)(c:Q (.done (.ret (.bool true))) s):wpAny (model prog w) A (Builtin.«isinstance.nested» ⟨[.ref e,.type "ValueError",.int dep a],[]⟩) Q E s:=by
 unfold Builtin.«isinstance.nested»;refine zw (nK x ?_);rw[if_neg (by intro q;cases beq_iff_eq.mp q)];refine zw (wpAny_of_eq (show typeOf (.type "ValueError")=pure (.type "type") from by kernel_rfl) ?_);rw[if_pos (by decide)]
 k_delta "plainIsInstance"
 refine zw (zw (wpAny_of_eq (show isType (.type "ValueError")=pure true from rfl) ?_));rwa[yN,zY,if_false];unfold isInstance;refine zw (zw (nK x (uy z (b:=true) rfl ?_)));rwa[if_true];exact zo (zw (zo (zo c)))
def Ga(x:ZE s.heap e C)(z:ZH s.heap C D fI)(y:ZB s.heap B)(b:B≠C)(i:B≠D)(j:Q (.done (.ret (.bool false))) { s with toks:=s.toks+1 }) :
  wpAny (model prog w) A (Builtin.«isinstance.nested» ⟨[.ref e,.ref B,.int dep f],[]⟩) Q E s:=by
 have c:(Value.ref C::Value.ref D::fu).contains (.ref B)=false:=by
  rw[<- yQ,List.contains_iff_mem];intro a;rcases zd.mp a with q|a
  ·exact b (Value.ref.inj q)
  rcases zd.mp a with q|a
  ·exact i (Value.ref.inj q)
  ·unfold fu at a
   simp at a
 unfold Builtin.«isinstance.nested»;refine zw (nK x ?_);rw[if_neg (λ q=>b (Value.ref.inj (beq_iff_eq.mp q)).symm)];refine zw (ME y ?_);rw[if_pos (by decide)]
 k_delta "plainIsInstance"
 refine zw (zw (uQ y ?_));rwa[yN,zY,if_false];unfold isInstance;refine zw (zw (nK x (uy z c ?_)));rwa[zY,if_false];let⟨k,g,d,t,os⟩:=s;refine zw (uS x z ?_);refine zw (uQ z.1.cls ?_);rwa[yN,zY,if_false];refine zw (wpAny_rule ?_);refine uy z c ?_;exact zw (zo (zo j))
end
open Builtin Builtin.ObjectAttr
section
variable {prog:uf}{w:ul}{A:ut}{E:jp->kt->Prop}{h:Heap}{g:Array GenState}{d:Drawn}{t:Nat}{os:OsState}{e C D fI:uc}
def Bz(z:ZH h C D fI)
  (n:∀h' e,Heap.MadeExcOf h h' e (.ref C) rest->h.objs.size<=e->wpAny (model prog w) A (call (.ref fI) (.ref e::rest)) (λ r i=>r=.none/\Q (.done (.ret (.ref e))) i) E ⟨h',g,d,t,os⟩) (l:rest.length<=zi) :
  wpAny (model prog w) A (Builtin.«type.__call__» ⟨.ref C::rest,[]⟩) Q E ⟨h,g,d,t,os⟩:=by
 have F:=F.excBase_ValueError;have T:=z.tail.tail;obtain⟨⟨N,nm,q,bs,sn,k,U,col,S,R,P,O,M,L,mN,a,p,_,hi⟩,_,K,B,G⟩:=z
 repeat (first|with_reducible refine wpAny_loadPart_at a ?_|with_reducible refine wpAny_madeBy_exc a ?_|wp_step)
 refine codeAny_call_builtin_code (Code.quiet_builtin _ F.quiet) (wpAny_check_new_subT F T a ?_);refine codeAny_exc_new_subT F T a ?_ l;show wpAny _ _ _ _ _ _;have j:=zv { cls:=.ref C,data:=.fields #[.ref h.objs.size,.none,.none,.none,.bool false,.none] }
  (zv { cls:=.type "tuple",data:=.seq rest.toArray } a)
 have J:=zv { cls:=.ref C,data:=.fields #[.ref h.objs.size,.none,.none,.none,.bool false,.none] }
  (zv { cls:=.type "tuple",data:=.seq rest.toArray } B)
 have H:((h.push { cls:=.type "tuple",data:=.seq rest.toArray }).push { cls:=.ref C,data:=.fields #[.ref h.objs.size,.none,.none,.none,.bool false,.none] }).Ns N mN :=
  let ⟨o,v,y,e,r⟩:=p;⟨o,v,y,zv _ (zv _ e),r⟩
 have f:((h.push { cls:=.type "tuple",data:=.seq rest.toArray }).push
   { cls:=.ref C,data:=.fields #[.ref h.objs.size,.none,.none,.none,.bool false,.none] }).get? (h.objs.size+1)=some
   { cls:=.ref C,data:=.fields #[.ref h.objs.size,.none,.none,.none,.bool false,.none] }:=by heap_get
 have I:(Value.ref C::Value.ref D::fu).contains (.ref C)=true:=by simp
 have c:=T.keeps (h':=(h.push { cls:=.type "tuple",data:=.seq rest.toArray }).push { cls:=.ref C,data:=.fields #[.ref h.objs.size,.none,.none,.none,.bool false,.none] })
  λ b o e=>zv _ (zv _ e)
 unfold isInstance
 repeat (first|with_reducible refine wpAny_loadPart_at f ?_|(with_reducible refine wpAny_isSubtype_exc j ?_;rw[I])|wp_step)
 show wpAny _ _ (typeLookup (.ref C) _) _ _ _;refine wpAny_typeLookup_tail j H c F.mroIs F.init.lookup ?_;rw[hi];refine wpAny_holding (zw ?_);unfold bindSpecial;refine zw (wpAny_typeOf (T:="function") ⟨_,J,G⟩ ?_);rw[if_pos (by decide)];refine zo (zw (wpAny_mono (n _ (h.objs.size+1) ⟨λ b o s=>zv _ (zv _ s),ym (xk _),h.objs.size,f,ym (zq _),?_⟩ (xk _)) (λ r i m=>?_) λ _ _ x=>x))
 ·exact zv _ (wV rfl rfl)
 ·let⟨rfl,u⟩:=m
  wp_walk;exact u
def DO(z:ZH h C D fI)
  (j:∀h' e,Heap.MadeExcOf h h' e (.ref C) rest->h.objs.size<=e->wpAny (model prog w) (A.under (.builtin "type.__call__" ⟨.ref C::rest,[]⟩)) (call (.ref fI) (.ref e::rest)) (λ r f=>r=.none/\Q (.ref e) f) E ⟨h',g,d,t,os⟩) (i:rest.length<=zi) :
  wpAny (model prog w) A (call (.ref C) rest) Q E ⟨h,g,d,t,os⟩:=by
 have b:=z;obtain⟨⟨N,nm,q,bs,sn,c,H,col,G,v,u,s,p,o,n,a,x,_,hi⟩,_,m,I,J⟩:=z;have F:=tc_lookup;have B:=tc_bind (.ref C);have y:(⟨h,g,d,t,os⟩:kt).TypeIs (.ref C) "type":=⟨_,a,rfl⟩;refine wpAny_call (codeAny_of_tree ?_);show wpAny _ _ (callAny (.ref C) _) _ _ _
 repeat (any_goals (first|assumption|with_reducible refine wpAny_loadPart_at a ?_|wp_step))
 exists rfl;refine codeAny_call_builtin_at (Code.quiet_builtin _ (by decide +kernel)) entry_typeCall (wpAny_check_type_call_sub a (Bz b (λ h' e k l=>?_) i));exact j h' e k l
def rQ:typeLookup (.type "ValueError") "at" = pure none:=by rw[typeLookup_type,builtinLookup_eq_fast];kernel_rfl
def pX:typeLookup (.type "ValueError") "row" = pure none:=by rw[typeLookup_type,builtinLookup_eq_fast];kernel_rfl
def uq(z:ZH h C D fI)(hx:h.get? e=some o)(hc:o.cls=.ref C)(u:o.dict=none)(l:∀c,o.data≠.cls c)
  (x:∀h' i f,h'.Ns1 f (λ y=>if y = "row" then some v else none)->h.objs.size<=f->f≠e->h'.get? e=some { o with dict:=some f }->(∀b ob,b≠e->h.get? b=some ob->h'.get? b=some ob)->Q (.done (.ret .none)) ⟨h',g,d,i,os⟩) :
  wpAny (model prog w) A (Builtin.«object.__setattr__» ⟨[.ref e,.str "row" m,v],[]⟩) Q E ⟨h,g,d,t,os⟩:=by
 have P:=F.store_ValueError.passes (.ref e);have B:("row":Str)∈cM:=.tail _ (.tail _ (.tail _ (.tail _ (.tail _ (.head _)))));obtain⟨⟨N,nm,q,bs,sn,s,ab,col,dd,k0,Z,Y,X,W,V,G,hn,_,hi⟩,_⟩:=id z;unfold Builtin.«object.__setattr__»
 repeat (first|rw[refuse_eq]|(rw[refuseLoop_ref,refuseLoop_ref];unfold fu;rw[P])|(with_reducible refine wpAny_loadPart_at hx ?_;rw[hc])|with_reducible refine wpAny_mroOf_exc G ?_|with_reducible refine fL z B pX ?_|wp_step)
 rw[u,if_neg (by simp[typeHasDict])];split
 ·rename_i k
  cases k
 split
 ·rename_i c k
  exact absurd k (l c)
 ·have r:(h.push { cls:=.type "dict",data:=.dict #[] }).get? e=some o:=zv _ hx
  have j:e≠h.objs.size:=zF (zg hx);refine zw (wpAny_alloc' ?_);refine zw (wpAny_update' r ?_);refine zo ?_;have H:((h.push { cls:=.type "dict",data:=.dict #[] }).update e λ o=>{ cls:=o.cls,dict:=some h.objs.size,data:=o.data,slots:=o.slots }).get? h.objs.size
    = some { cls:=.type "dict",data:=.dict #[] } :=
   (wE _ _ _ _ j.symm).trans (wV rfl rfl)
  have J:((h.push { cls:=.type "dict",data:=.dict #[] }).update e λ o=>{ cls:=o.cls,dict:=some h.objs.size,data:=o.data,slots:=o.slots }).Ns h.objs.size (λ _=>none) :=
   ⟨_,#[],_,H,rfl,λ e he=>absurd he (by simp),λ _=>rfl⟩
  show wpAny _ _ (storeInDict h.objs.size (.str "row" m) "row" v) _ _ _;unfold storeInDict newKeyGuard;refine zw (zo (zw (wpAny_nsSet1 (Heap.Ns1.of_empty J) λ h' a n=>?_)));let⟨U,ZR,ZS,L,O,M⟩:=a.count (Within.cons "row" v Within.nil);refine zw (wpAny_lookBehind L (by rw[O];exact pastItsLine_dict (zG M (by rw[zj,zT,sizeLine_eq];omega))) ?_);wp_walk;refine x h' _ h.objs.size a (zq _) j.symm ?_ (λ b ob I p=>?_)
  ·refine(n.2 e j).trans (yu _ r ?_)
   have R:=(Heap.get?_some_iff.mp hx).2;let⟨T,S,K,eR⟩:=o;cases K <;> first|rfl|exact R
  ·exact(n.2 b (zF (zg p))).trans ((wE _ _ _ _ I).trans (zv _ p))
def rP(z:ZH h C D fI)(hx:h.get? e=some o)(hc:o.cls=.ref C)(l:o.dict=some f)(p:∀c,o.data≠.cls c)(B:h.Ns1 f (λ y=>if y = "row" then some u else none))
  (n:∀h' i,h'.Ns1 f (λ y=>if y = "at" then some v else if y = "row" then some u else none)->(∀b,b≠f->h'.get? b=h.get? b)->Q (.done (.ret .none)) ⟨h',g,d,i,os⟩) :
  wpAny (model prog w) A (Builtin.«object.__setattr__» ⟨[.ref e,.str "at" j,v],[]⟩) Q E ⟨h,g,d,t,os⟩:=by
 have J:=F.store_ValueError.passes (.ref e);have r:("at":Str)∈cM:=.tail _ (.tail _ (.tail _ (.tail _ (.head _))));obtain⟨⟨N,nm,q,bs,sn,k,V,col,U,S,R,P,O,M,L,x,T,_,hi⟩,_⟩:=id z;unfold Builtin.«object.__setattr__»
 repeat (first|rw[refuse_eq]|(rw[refuseLoop_ref,refuseLoop_ref];unfold fu;rw[J])|(with_reducible refine wpAny_loadPart_at hx ?_;rw[hc])|with_reducible refine wpAny_mroOf_exc x ?_|with_reducible refine fL z r rQ ?_|wp_step)
 rw[l];refine zo ?_;show wpAny _ _ (storeInDict f (.str "at" j) "at" v) _ _ _;unfold storeInDict newKeyGuard;refine zw (zo (zw (wpAny_nsSet1 B λ h' a m=>?_)));let⟨K,X,W,G,I,H⟩:=a.count (Within.cons "at" v (Within.cons "row" u Within.nil));refine zw (wpAny_lookBehind G (by rw[I];exact pastItsLine_dict (zG H (by rw[zj,zj,zT,sizeLine_eq];omega))) ?_);wp_walk;exact n h' _ a λ b s=>m.2 b s
end
open Builtin Builtin.ObjectAttr
section
variable {prog:uf}{w:ul}{A:ut}{E:jp->kt->Prop}{h:Heap}{g:Array GenState}{d:Drawn}{t:Nat}{os:OsState}{e C D fI:uc}
def qv(z:ZH h C D fI)(hx:h.get? e=some o)(hc:o.cls=.ref C)(f:Q () ⟨h,g,d,t,os⟩) :
  wpAny M A (checkBuiltinCall "object.__setattr__" ⟨[.ref e,b,v],[]⟩) Q E ⟨h,g,d,t,os⟩:=by
 have a:=F.store_ValueError;have u:=a.args (.ref e) b v;have j:(Value.ref C::Value.ref D::fu).contains (.type "object")=true:=rfl;obtain⟨⟨N,nm,q,bs,sn,c,y,col,x,r,p,n,m,l,k,i,s,_,hi⟩,_⟩:=id z;rwa[checkBuiltinCall,a.kind,a.split];refine zw ?_;unfold isInstance
 repeat (first|(with_reducible refine wpAny_loadPart_at hx ?_;rw[hc])|(with_reducible refine wpAny_isSubtype_exc i ?_;rw[j])|wp_step)
 exact f
def MF(z:ZH h C D fI)(hx:h.get? e=some o)(hc:o.cls=.ref C)(k:o.dict=none)(j:∀c,o.data≠.cls c)
  (l:∀h' a f,h'.Ns1 f (λ y=>if y = "row" then some v else none)->h.objs.size<=f->f≠e->h'.get? e=some { o with dict:=some f }->(∀b ob,b≠e->h.get? b=some ob->h'.get? b=some ob)->Q () ⟨h',g,d,a,os⟩) :
  wpAny (model prog w) A (setAttr (.ref e) "row" v) Q E ⟨h,g,d,t,os⟩:=by
 have i:=F.store_ValueError;have u:=i.slot.bind (.ref e);have m:("__setattr__":Str)∈cM:=.tail _ (.tail _ (.tail _ (.head _)));unfold setAttr callSpecial? specialOf
 repeat (any_goals (first|assumption|(with_reducible refine wpAny_loadPart_at hx ?_;rw[hc])|with_reducible refine fL z m i.slot.lookup ?_|wp_step))
 refine codeAny_call_builtin i.slot.plain i.entry (qv z hx hc (uq z hx hc k j λ h' a f s r q p n=>?_))
 repeat (any_goals (first|assumption|wp_step))
 exact l h' a f s r q p n
def IK(z:ZH h C D fI)(hx:h.get? e=some o)(hc:o.cls=.ref C)(k:o.dict=some f)(j:∀c,o.data≠.cls c)(q:h.Ns1 f (λ y=>if y = "row" then some u else none))
  (l:∀h' a,h'.Ns1 f (λ y=>if y = "at" then some v else if y = "row" then some u else none)->(∀b,b≠f->h'.get? b=h.get? b)->Q () ⟨h',g,d,a,os⟩) :
  wpAny (model prog w) A (setAttr (.ref e) "at" v) Q E ⟨h,g,d,t,os⟩:=by
 have i:=F.store_ValueError;have r:=i.slot.bind (.ref e);have m:("__setattr__":Str)∈cM:=.tail _ (.tail _ (.tail _ (.head _)));unfold setAttr callSpecial? specialOf
 repeat (any_goals (first|assumption|(with_reducible refine wpAny_loadPart_at hx ?_;rw[hc])|with_reducible refine fL z m i.slot.lookup ?_|wp_step))
 refine codeAny_call_builtin i.slot.plain i.entry (qv z hx hc (rP z hx hc k j q λ h' a p n=>?_))
 repeat (any_goals (first|assumption|wp_step))
 exact l h' a p n
def DP(m:nm∈cM)(s:typeLookup (.type "ValueError") nm=pure none)(z:ZH h C D fI)(hx:h.get? e=some o)(hc:o.cls=.ref C)(p:o.dict=some f)(a:∀c,o.data≠.cls c)
  (r:h.Ns1 f b) (hv:b nm=some v) (l:Q (.done (.ret v)) ⟨h,g,d,t,os⟩):wpAny (model prog w) A (Builtin.«object.__getattribute__» ⟨[.ref e,.str nm i],[]⟩) Q E ⟨h,g,d,t,os⟩:=by
 obtain⟨⟨N,K,q,bs,sn,j,J,col,I,G,F,B,y,x,u,n,H,_,hi⟩,_⟩:=id z
 repeat (first|(with_reducible refine wpAny_loadPart_at hx ?_;rw[hc])|with_reducible refine fL z m s ?_|wp_step)
 split
 ·rename_i c k
  exact absurd k (a c)
 unfold instanceDict
 repeat (first|(with_reducible refine wpAny_loadPart_at hx ?_;rw[hc])|with_reducible refine wpAny_loadPart_at n ?_|wp_step)
 rw[p]
 repeat (first|(with_reducible refine wpAny_nsGet r.ns ?_;rw[hv])|wp_step)
 exact l
def Gb(l:nm∈cM)(r:typeLookup (.type "ValueError") nm=pure none)(z:ZH h C D fI)(hx:h.get? e=some o)(hc:o.cls=.ref C)(n:o.dict=some f)(a:∀c,o.data≠.cls c)
  (p:h.Ns1 f b) (hv:b nm=some v) (k:R (.ok (.ret v)) ⟨h,g,d,t,os⟩) :
  codeAny (model prog w) A (.call (.builtin "BaseException.__getattribute__") ⟨[.ref e,.str nm i],[]⟩) R ⟨h,g,d,t,os⟩:=by
 let⟨N,J,q,bs,sn,j,I,col,H,G,B,y,x,u,s,m,_,_⟩:=z.1;exact codeAny_call_builtin F.attrBase_ValueError.ga.plain F.entry_bexc_ga (wpAny_check_ga_own F.attrBase_ValueError m z.tail hx hc (DP l r z hx hc n a p hv k))
def MJ{nm:Str}(j:nm∈cM)(n:typeLookup (.type "ValueError") nm=pure none){i:Tok}{v:jp}{o:Obj}{f:uc}{b:Str->Option jp}{fill expr:Bool}{Q:jp->kt->Prop}(z:ZH h C D fI)(hx:h.get? e=some o)(hc:o.cls=.ref C)(k:o.dict=some f)(a:∀c,o.data≠.cls c)
  (l:h.Ns1 f b) (hv:b nm=some v) (u:handedOut v=pure v) (s:Q v ⟨h,g,d,t,os⟩) :
  wpAny (model prog w) A (getAttrBy (.ref e) (.str nm i) fill expr) Q E ⟨h,g,d,t,os⟩:=by
 have x:=F.attrBase_ValueError.ga.bind (.ref e);have y:(expr&&onTheHeap (Value.builtin "BaseException.__getattribute__"))=false:=by cases expr <;> rfl
 have q:(Value.builtin "BaseException.__getattribute__"==Value.builtin "object.__getattribute__")=false:=by decide +kernel
 have r:(onTheHeap (Value.ref C)&&Value.builtin "BaseException.__getattribute__"==Value.builtin "object.__getattribute__")=false:=by rw[q];rfl
 have m:("__getattribute__":Str)∈cM:=.tail _ (.head _);have p:("__getattr__":Str)∈cM:=.tail _ (.tail _ (.head _))
 repeat (any_goals (first|assumption|(with_reducible refine wpAny_loadPart_at hx ?_;rw[hc])|with_reducible refine fL z m F.attrBase_ValueError.ga.lookup ?_|with_reducible refine fL z p F.attrBase_ValueError.noGetattr ?_|wp_step))
 refine Gb j n z hx hc k a l hv ?_
 repeat (any_goals (first|assumption|wp_step))
def kZ(i:nm∈cM)(m:typeLookup (.type "ValueError") nm=pure none)(z:ZH h C D fI)(hx:h.get? e=some o)(hc:o.cls=.ref C)(k:o.dict=some f)(a:∀c,o.data≠.cls c)
  (l:h.Ns1 f b) (hv:b nm=some v) (j:handedOut v=pure v) (n:Q v ⟨h,g,d,t+1,os⟩) :
  wpAny (model prog w) A (getAttr (.ref e) nm expr) Q E ⟨h,g,d,t,os⟩:=by
 unfold getAttr
 repeat (any_goals (first|assumption|with_reducible apply MJ i m z hx hc k a l hv j|wp_step))
end
def nZ(x:bV P w H h a o):∃o,h.get? a=some o:=by
 cases o with
 |lst c=>let⟨_,_,_,_,e⟩:=x;exact⟨_,e⟩
 |tup c=>obtain⟨_,_,_,⟨_,e,_⟩,_⟩:=x;exact⟨_,e⟩
 |dK b=>let⟨_,_,_,_,o,_,_,e,_⟩:=x;exact⟨_,e⟩
 |dT b=>let⟨_,_,_,_,o,_,_,e,_⟩:=x;exact⟨_,e⟩
 |set S n=>let⟨o,_,_,_,e,_⟩:=x;exact⟨_,e⟩
 |ins C d fs=>let⟨_,_,_,e,_⟩:=x;exact⟨_,e⟩
 |own y=>exact x
 |xd fs=>obtain⟨_,⟨_,_,_,e,_⟩,_⟩:=x;exact⟨_,e⟩
 |rng lo hi=>let⟨_,_,_,e⟩:=x;exact⟨_,e⟩
 |frz ob u=>exact⟨_,x.1⟩
 |tbl ps=>exact⟨_,show h.get? a=some _ from x⟩
 |met f y=>exact⟨_,show h.get? a=some _ from x⟩
 |ext φ=>exact x.2.1
abbrev dJ(C t:uc)(a:Option uc):Obj:={ cls:=.ref C,dict:=a,data:=.fields #[.ref t,.none,.none,.none,.bool false,.none] }
abbrev dY(C t e:uc)(a:Option uc):HO:=.ext λ h=>h.get? e=some (dJ C t a)
abbrev Cy(C:uc):Sp:=λ vs H Q _=>∃e t v w,vs=[.ref e,v,w]/\H e=some (dY C t e none)/\∀a,H a=none->e<a->Q .non (upd (upd H e (dY C t e (some a))) a (.xd [("row",v),("at",w)]))
abbrev rR:List Str:=["BadLine","BadWord","Late","NoPlace","NoStretch","Twice","Unknown"]
structure ZK (K:Q_) (mg:Str->Option jp) (C D fI:uc):Prop where
 np:mg "BadTree" = some (.ref C)
 he:mg "HouseError" = some (.ref D)
 zh:∀h:Heap,K.In h->ZH h C D fI
 ot:∀x∈rR,∃B,mg x=some (.ref B)/\B≠C/\B≠D/\∀h:Heap,K.In h->ZB h B
open PySem
noncomputable abbrev Ky:=Sum Int Str
inductive D where
 |non|bl (b:Bool)|int (i:Int)|str (x:Str)|tup (ds:List D)|fl (ds:List D)|ob (i:Nat)
inductive MO where
 |lst (ds:List D)
 |bC (kvs:List (Ky×D))
noncomputable abbrev MH:=List MO
inductive Out (α:Type) where
 |ok (a:α)
 |ex (c:Str) (ds:List D)
abbrev Mo(α:Type):=MH->Option (Out α×MH)
abbrev Mo.ret{α:Type}(a:α):Mo α:=λ M=>some (.ok a,M)
abbrev Mo.bind{α β:Type}(m:Mo α)(k:α->Mo β):Mo β:=λ M=>match m M with
 |none=>none
 |some (.ok a,b)=>k a b
 |some (.ex c ds,b)=>some (.ex c ds,b)
abbrev Mo.stop{α:Type}:Mo α:=λ _=>none
noncomputable instance:Monad Mo where
 pure:=Mo.ret
 bind:=Mo.bind
def WU{α:Type}(a:α)(M:MH):(pure a:Mo α) M=some (.ok a,M):=rfl
def run_bind{α β:Type}(m:Mo α)(k:α->Mo β)(M:MH):(m >>= k) M=match m M with
 |none=>none
 |some (.ok a,b)=>k a b
 |some (.ex c ds,b)=>some (.ex c ds,b):=rfl
inductive TY {α β:Type} (m:Mo α) (k:α->Mo β) (M M':MH) (b:β):Prop
 |mk (a:α) (M1:MH) (e:m M=some (.ok a,M1)) (h:k a M1=some (.ok b,M'))
def aa{α β:Type}{m:Mo α}{k:α->Mo β}{M M':MH}{b:β}(h:(m >>= k) M=some (.ok b,M')):TY m k M M' b:=by
 rw[run_bind]at h;split at h
 ·cases h
 ·rename_i a c e
  exact⟨a,c,e,h⟩
 ·cases h
def dC{α β:Type}{m:Mo α}{k:α->Mo β}{M M1:MH}{a:α}(h:m M=some (.ok a,M1)):(m >>= k) M=k a M1:=by
 rw[run_bind,h]
noncomputable abbrev Ev:=List (Option D)
abbrev getM(i:Nat):Mo MO:=λ M=>match M[i]? with
 |some o=>some (.ok o,M)
 |none=>none
abbrev cv(o:MO):Mo D:=λ M=>some (.ok (.ob M.length),M++[o])
abbrev e9(i:Nat)(o:MO):Mo Unit:=λ M=>if i<M.length then some (.ok (),M.set i o) else none
abbrev need(p:Prop)[Decidable p]:Mo Unit:=if p then pure () else Mo.stop
abbrev lift{α:Type}(o:Option α):Mo α:=match o with
 |some a=>pure a
 |none=>Mo.stop
abbrev getL(i:Nat):Mo (List D):=λ M=>match M[i]? with
 |some (.lst ds)=>some (.ok ds,M)
 |_=>none
abbrev getD(i:Nat):Mo (List (Ky×D)):=λ M=>match M[i]? with
 |some (.bC ds)=>some (.ok ds,M)
 |_=>none
abbrev jN:D->Option Ky
 |.int i=>some (.inl i)
 |.str x=>some (.inr x)
 |_=>none
abbrev dG:D->Bool
 |.non=>true|.bl _=>true|.int _=>true|.str _=>true|_=>false
abbrev oj:D->D->Bool
 |.non,.non=>true
 |.bl a,.bl b=>a==b
 |.bl a,.int b=>(if a then 1 else 0)==b
 |.int a,.bl b=>a==(if b then 1 else 0)
 |.int a,.int b=>a==b
 |.str a,.str b=>a==b
 |_,_=>false
abbrev gC(f:D->D->Option Bool):List D->List D->Option Bool
 |[],[]=>some true
 |[],_::_=>some false
 |_::_,[]=>some false
 |x::d,y::a=>match f x y with
  |none=>none
  |some b=>match gC f d a with
   |none=>none
   |some c=>some (b&&c)
abbrev cD(M:MH):Nat->D->D->Option Bool
 |0,_,_=>none
 |n+1,x,y=>match x,y with
  |.tup b,.tup a=>gC (cD M n) b a
  |.ob i,.ob j=>(match M[i]?,M[j]? with
   |some (.lst b),some (.lst a)=>if b.length=a.length then gC (cD M n) b a else some false
   |_,_=>none)
  |.tup _,y=>if dG y=true then some false else none
  |x,.tup _=>if dG x=true then some false else none
  |x,y=>if (dG x&&dG y)=true then some (oj x y) else none
abbrev qk(x y:D):Mo Bool:=λ M=>match cD M 20 x y with
 |some b=>some (.ok b,M)
 |none=>none
abbrev jO(M:MH)(x:D):List D->Option Bool
 |[]=>some false
 |d::ds=>match cD M 8 d x with
  |none=>none
  |some b=>match jO M x ds with
   |none=>none
   |some c=>some (b||c)
abbrev mT(x:D)(ds:List D):Mo Bool:=λ M=>match jO M x ds with
 |some b=>some (.ok b,M)
 |none=>none
abbrev cX(a:List (Ky×D))(k:Ky):Option D:=(a.find? λ b=>decide (b.1=k)).map (·.2)
abbrev jW(a:List (Ky×D))(k:Ky)(v:D):List (Ky×D) :=
 if (a.any λ b=>decide (b.1=k))=true then a.map (λ b=>if b.1=k then (b.1,v) else b) else a++[(k,v)]
abbrev dK:Ky->D
 |.inl i=>.int i
 |.inr x=>.str x
abbrev sgn(c:Nat):D:=.str ⟨#[c]⟩
abbrev mh(n:Nat)(i:Int):Option Nat:=if 0<=i then (if i<n then some i.toNat else none) else if -(n:Int)<=i then some (i+n).toNat else none
abbrev de{α:Type}(xs:List α)(i:Int):Option α:=(mh xs.length i).bind λ j=>xs[j]?
abbrev eS(n d:Nat):Option Int->Nat
 |none=>d
 |some v=>if v<0 then (v+(n:Int)).toNat else min v.toNat n
abbrev cutD{α:Type}(xs:List α)(lo hi:Option Int):List α:=(xs.drop (eS xs.length 0 lo)).take (eS xs.length xs.length hi-eS xs.length 0 lo)
abbrev qC(j i:Str):Bool:=!(Builtin.Str.occurrences j i 0 j.length 1).isEmpty
abbrev fj(e:Operator)(x y:D):Mo D:=match e,x,y with
 |.Add,.int i,.int j=>pure (.int (i+j))
 |.Add,.str a,.str b=>do need (a.length+b.length<=zi);pure (.str (a++b))
 |.Add,.ob i,.ob j=>do
  let d<-getL i
  let c<-getL j
  need (d.length+c.length<=zi)
  cv (.lst (d++c))
 |.Add,.tup d,.tup c=>do need (d.length+c.length<=zi);pure (.tup (d++c))
 |.Sub,.int i,.int j=>pure (.int (i-j))
 |.Mult,.int i,.int j=>do need ((-(2 ^ 64)<i/\i<2 ^ 64)\/(-(2 ^ 64)<j/\j<2 ^ 64));pure (.int (i*j))
 |.FloorDiv,.int i,.int j=>do need (0<j/\j<1073741824);pure (.int (i / j))
 |.Mod,.int i,.int j=>do need (0<j);pure (.int (i % j))
 |.Pow,.int i,.int j=>do need (0<=j/\j<=1000000/\i.natAbs<2 ^ 64);pure (.int (i ^ j.toNat))
 |_,_,_=>Mo.stop
abbrev inD(x y:D):Mo Bool:=match y with
 |.str j=>(match x with
  |.str i=>pure (qC j i)
  |_=>Mo.stop)
 |.tup ds=>mT x ds
 |.fl ds=>mT x ds
 |.ob i=>do
  let o<-getM i
  (match o with
  |.lst ds=>mT x ds
  |.bC a=>do let k<-lift (jN x);pure (cX a k).isSome
  )
 |_=>Mo.stop
abbrev pL:D->Bool
 |.non=>true
 |_=>false
abbrev ii(f:Int->Int->Bool)(x y:D):Mo Bool:=match x with
 |.int i=>(match y with
  |.int j=>pure (f i j)
  |_=>Mo.stop)
 |_=>Mo.stop
abbrev cq(a:CmpOp)(x y:D):Mo Bool:=match a with
 |.Eq=>qk x y
 |.NotEq=>do let b<-qk x y;pure (!b)
 |.Lt=>ii (λ i j=>decide (i<j)) x y
 |.LtE=>ii (λ i j=>decide (i<=j)) x y
 |.Gt=>ii (λ i j=>decide (j<i)) x y
 |.GtE=>ii (λ i j=>decide (j<=i)) x y
 |.In=>inD x y
 |.NotIn=>do let b<-inD x y;pure (!b)
 |.Is=>do need (pL y=true);pure (pL x)
 |.IsNot=>do need (pL y=true);pure (!pL x)
abbrev gW(x y:D):Mo D:=match x,y with
 |.tup ds,.int i=>lift (de ds i)
 |.fl ds,.int i=>lift (de ds i)
 |.str s,.int i=>do need (s.length<=zi);let c<-lift (de s.cps.toList i);pure (sgn c)
 |.ob k,y=>do
  let o<-getM k
  (match o with
  |.lst ds=>(match y with
   |.int i=>lift (de ds i)
   |_=>Mo.stop)
  |.bC a=>do let q<-lift (jN y);lift (cX a q)
  )
 |_,_=>Mo.stop
abbrev setIx(x y v:D):Mo Unit:=match x with
 |.ob k=>do
  let o<-getM k
  (match o with
  |.lst ds=>(match y with
   |.int i=>do let j<-lift (mh ds.length i);e9 k (.lst (ds.set j v))
   |_=>Mo.stop)
  |.bC a=>do let q<-lift (jN y);need (a.length<zi);e9 k (.bC (jW a q v))
  )
 |_=>Mo.stop
abbrev i6(x:D)(lo hi:Option Int):Mo D:=match x with
 |.str s=>do need (s.length<=zi);pure (.str ⟨(cutD s.cps.toList lo hi).toArray⟩)
 |.tup ds=>pure (.tup (cutD ds lo hi))
 |.ob k=>do let ds<-getL k;cv (.lst (cutD ds lo hi))
 |.fl ds=>cv (.lst (cutD ds lo hi))
 |_=>Mo.stop
abbrev mD(x:D):Mo Bool:=match x with
 |.non=>pure false
 |.bl b=>pure b
 |.int i=>pure (i != 0)
 |.str s=>do need (s.length<=zi);pure ((s.length:Int) != 0)
 |.tup ds=>pure (!ds.isEmpty)
 |.fl ds=>pure (!ds.isEmpty)
 |.ob k=>do
  let o<-getM k
  (match o with
  |.lst ds=>pure (!ds.isEmpty)
  |.bC a=>pure (!a.isEmpty)
  )
abbrev Av(x:D):Mo (List D):=match x with
 |.fl ds=>pure ds
 |.ob k=>getL k
 |_=>Mo.stop
abbrev bS:D->Option Bool
 |.bl b=>some b
 |_=>none
abbrev D0:D->Option Str
 |.str x=>some x
 |_=>none
abbrev intD:D->Option Int
 |.int i=>some i
 |_=>none
abbrev fv:List D->Option (List Str)
 |[]=>some []
 |d::ds=>match D0 d,fv ds with
  |some x,some a=>some (x::a)
  |_,_=>none
abbrev je(a:List (Ky×D)):List (Ky×D)->List (Ky×D)
 |[]=>a
 |p::r=>je (jW a p.1 p.2) r
inductive Bl where
 |len|tuple|list|repr|all|any|min2|max2|abs|dict1|minL
 deriving DecidableEq
abbrev fR(b:Bl)(xs:List D):Mo D:=match b,xs with
 |.len,[.str s]=>do need (s.length<=zi);pure (.int s.length)
 |.len,[.ob k]=>do
  let o<-getM k
  (match o with
  |.lst ds=>pure (.int ds.length)
  |.bC a=>pure (.int a.length)
  )
 |.len,[.tup ds]=>pure (.int ds.length)
 |.len,[.fl ds]=>pure (.int ds.length)
 |.tuple,[.tup ds]=>pure (.tup ds)
 |.tuple,[.fl ds]=>pure (.tup ds)
 |.tuple,[.ob k]=>do let ds<-getL k;pure (.tup ds)
 |.all,[.ob k]=>do let ds<-getL k;let bs<-lift (ds.mapM bS);pure (.bl (bs.all id))
 |.min2,[.int i,.int j]=>pure (.int (if j<i then j else i))
 |_,_=>Mo.stop
inductive Mt where
 |append|insert|join|get
 |extend
 |find
 |split|partition
 deriving DecidableEq
abbrev iz(m:Mt)(x:D):Mo Unit:=match m,x with
 |.append,.ob k=>do let _<-getL k;pure ()
 |.insert,.ob k=>do let _<-getL k;pure ()
 |.extend,.ob k=>do let _<-getL k;pure ()
 |.join,.str _=>pure ()
 |.find,.str _=>pure ()
 |.split,.str _=>pure ()
 |.partition,.str _=>pure ()
 |.get,.ob k=>do let _<-getD k;pure ()
 |_,_=>Mo.stop
abbrev QD:D->Nat->Bool
 |.ob j,k=>j==k
 |_,_=>false
abbrev p8:D->Option Str
 |.str x=>some x
 |_=>none
abbrev glue(sep:List Nat):List (List Nat)->List Nat
 |[]=>[]
 |[x]=>x
 |x::y::r=>x++sep++glue sep (y::r)
abbrev fV(sep:Str)(ys:List Str):Str:=⟨(glue sep.cps.toList (ys.map (·.cps.toList))).toArray⟩
abbrev Wb(x:D):Mo (List D):=match x with
 |.tup ds=>pure ds
 |.ob k=>getL k
 |_=>Mo.stop
abbrev findS(s t:Str):Int:=match Builtin.Str.occurrences s t 0 s.length 1 with
 |i::_=>(i:Int)
 |[]=>-1
abbrev ax(s t:Str):List Str:=if (decide (s.length<t.length)||decide (Builtin.Str.strKind s<Builtin.Str.strKind t))=true then [s]
 else if (Builtin.Str.occurrences s t 0 s.length (s.length+1)).isEmpty=true then [s] else Builtin.Str.partsBetween s (Builtin.Str.occurrences s t 0 s.length (s.length+1)) t.length
abbrev iP(s t:Str):List Str:=match Builtin.Str.occurrences s t 0 s.length 1 with
 |i::_=>[Builtin.Str.strSub s 0 i,t,Builtin.Str.strSub s (i+t.length) s.length]
 |[]=>[s,Str.empty,Str.empty]
abbrev fF(m:Mt)(x:D)(xs:List D):Mo D:=match m,x,xs with
 |.append,.ob k,[v]=>do let ds<-getL k;need (ds.length<zi);e9 k (.lst (ds++[v]));pure .non
 |.join,.str t,[.tup ds]=>do let a<-lift (ds.mapM p8);need ((a.map (·.length)).sum+a.length*t.length<=16777216);pure (.str (fV t a))
 |.join,.str t,[.ob k]=>do let ds<-getL k;let a<-lift (ds.mapM p8);need ((a.map (·.length)).sum+a.length*t.length<=16777216);pure (.str (fV t a))
 |.find,.str s,[.str t]=>pure (.int (findS s t))
 |.split,.str s,[.str t]=>do need (0<t.length/\s.length<=zi/\(ax s t).length<=zi);cv (.lst ((ax s t).map .str))
 |.partition,.str s,[.str t]=>do need (0<t.length/\s.length<=zi);pure (.tup ((iP s t).map .str))
 |.get,.ob k,[y,v]=>do let b<-getD k;let q<-lift (jN y);pure ((cX b q).getD v)
 |.extend,.ob k,[y]=>do let c<-Wb y;let ds<-getL k;need (ds.length+c.length<=zi/\QD y k=false);e9 k (.lst (ds++c));pure .non
 |_,_,_=>Mo.stop
mutual
noncomputable def toPy(M:MH):Nat->D->Option PyData
 |0,_=>none
 |_+1,.non=>some .none
 |_+1,.bl b=>some (.bool b)
 |_+1,.int i=>some (.int i)
 |_+1,.str x=>some (.str x)
 |n+1,.tup ds=>(gJ M n ds).map .tuple
 |n+1,.fl ds=>(gJ M n ds).map .list
 |n+1,.ob k=>match M[k]? with
  |some (.lst ds)=>(gJ M n ds).map .list
  |_=>none
termination_by n _=>(n,0)
noncomputable def gJ(M:MH)(n:Nat):List D->Option (List PyData)
 |[]=>some []
 |x::a=>match toPy M n x,gJ M n a with
  |some d,some ds=>some (d::ds)
  |_,_=>none
termination_by xs=>(n,xs.length+1)
end
abbrev Hl:D->Bool
 |.ob _=>true
 |.tup _=>true
 |.fl _=>true
 |_=>false
abbrev iM(M:MH)(x:D):Option Str:=if Hl x=true then (match toPy M 20 x with
 |some d=>if (d.showable&&decide (d.shown.length<=zi)&&decide (d.depth<=40))=true then some d.shown else none
 |none=>none) else none
abbrev oG(x:D):Mo D:=λ M=>match iM M x with
 |some t=>some (.ok (.str t),M)
 |none=>none
abbrev ZL:D->Option (Str×Str)
 |.tup [.str a,.str b]=>some (a,b)
 |_=>none
abbrev lR:D->Option (List (Str×Str))
 |.tup ds=>ds.mapM ZL
 |_=>none
abbrev qi(a:List (Str×Str)):List D:=a.map λ p=>.tup [.str p.1,.str p.2]
abbrev iQ:D->Option Int
 |.bl b=>some (if b then 1 else 0)
 |.str s=>if s.length<=640 then PySem.intText? s else none
 |_=>none
abbrev mF:D->Option Str
 |.int i=>if i.natAbs<2 ^ 64 then some (Str.ofString (toString i)) else none
 |_=>none
set_option genSizeOf false
set_option genInjectivity false
mutual
inductive IE where
 |var (i:Nat)|cint (i:Int)|cbl (b:Bool)|cnon|cstr (x:Str)
 |glb (x:Str)
 |bin (op:Operator) (a b:IE)
 |cmp (op:CmpOp) (a b:IE)
 |cmp2 (op op':CmpOp) (a b c:IE)
 |and (a b:IE)|or (a b:IE)|not (a:IE)
 |ifE (c:IC) (a b:IE)
 |tup (es:dE)|lst (es:dE)|dic0
 |idx (a b:IE)|slc (a:IE) (lo hi:nC)
 |call (f:Str) (es:dE)|blt (b:Bl) (es:dE)
 |sortL (a:IE)
 |sset (a:IE)
 |lset (a:IE)
 |rfs (es:dE)
 |rep (a:IE)
 |intB (a:IE)
 |strI (a:IE)
 |neg (a:IE)
 |dicS (ks:List Str) (es:dE)
 |mth (m:Mt) (a:IE) (es:dE)
 |comp (j:Nat) (it:IT) (c:nE) (e:IE)
inductive dE where
 |nil|cons (e:IE) (es:dE)
inductive nC where
 |none|some (e:IE)
inductive IT where
 |seq (e:IE)|rng1 (a:IE)
 |rng3 (a b c:IE)
 |revs (e:IE)
inductive IC where
 |cmp (e:IE)|tru (e:IE)|not (c:IC)|and (a b:IC)|or (a b:IC)
inductive nE where
 |none|some (c:IC)
end
inductive IP where
 |seq (e:IE)|enum (e:IE)
 |gitems (x:Str)
mutual
inductive IS where
 |set (i:Nat) (e:IE)|setIx (o i e:IE)|expr (e:IE)|ret (e:IE)|retN|pass|brk|cnt
 |halt
 |rz (e f:IE)
 |forN (is:List Nat) (e:IE) (b:aD)
 |ifS (c:IC) (a b:aD)|forS (i:Nat) (it:IT) (b:aD)|forP (i j:Nat) (it:IP) (b:aD)
 |whileS (c:IC) (b:aD)
inductive aD where
 |nil|cons (s:IS) (r:aD)
end
set_option genSizeOf true
set_option genInjectivity true
abbrev kF(a b:Str):Bool:=!decide (b.cps.toList<a.cps.toList)
abbrev gL(xs:List Str):List Str:=xs.mergeSort kF
def tN(a b c:Str)(e:kF a b=true)(d:kF b c=true):kF a c=true:=by
 rwa[kF,yn,decide_eq_false_iff_not,vn]at *;exact List.le_trans e d
def Hg(a b:Str):(kF a b||kF b a)=true:=by
 rwa[kF,xz,yn,decide_eq_false_iff_not,vn];exact List.le_total _ _
def JT(d:kF a b=true)(c:kF b a=true):a=b:=by
 rwa[kF,yn,decide_eq_false_iff_not,vn]at *;have e:=List.le_antisymm d c;cases a;cases b;congr 1;exact xA.mp e
def jT(xs:List Str):(gL xs).Perm xs:=List.mergeSort_perm _ _
def vS(xs:List Str):(gL xs).Pairwise λ a b=>kF a b=true:=List.pairwise_mergeSort tN Hg xs
def qD(p:ys.Perm xs)(h:ys.Pairwise λ a b=>kF a b=true):ys=gL xs :=
 List.Perm.eq_of_pairwise (λ _ _ _ _=>JT) h (vS xs) (p.trans (jT xs).symm)
def D6(p:ys.Perm xs):gL ys=gL xs:=qD ((jT ys).trans p) (vS ys)
def m9(xs:List Str):fv (xs.map .str)=some xs:=by
 induction xs with
 |nil=>rfl
 |cons x r a=>rwa[zR,fv,D0,a]
def DB:∀{ds:List D} {xs:List Str},fv ds=some xs->ds=xs.map .str
 |[],xs,h=>by cases h;rfl
 |d::ds,xs,h=>by
  rwa[fv]at h;cases d <;> rwa[D0,reduceCtorEq]at h;cases e:fv ds with
  |none=>rw[e]at h;cases h
  |some a=>rw[e]at h;cases h;rw[DB e];rfl
abbrev cR(xs:List Str)(x:Str):List Str:=if x∈xs then xs else xs++[x]
abbrev au(xs:List Str):List Str->List Str
 |[]=>xs
 |x::r=>au (cR xs x) r
abbrev rY(x:D):Mo D:=do
 let ds<-Av x
 let a<-lift (fv ds)
 need ((au [] a).length<64)
 cv (.lst ((gL (au [] a)).map .str))
abbrev me(x:D):Mo D:=match x with
 |.tup ds=>do
  let a<-lift (fv ds)
  need ((au [] a).length<64)
  pure (.int (au [] a).length)
 |_=>Mo.stop
structure Ctx where
 fn:Str->List D->Mo D
 gl:Str->Option D
 srt:List D->Option (List D)
 wh:Nat
 rz:Str->List D->MH->Option ((Int×Int)×MH)
 rf:List D->MH->Option MH
inductive Fl where
 |nx (ρ:Ev)|rt (d:D)|bk (ρ:Ev)|ct (ρ:Ev)
structure Src where
 ck:Option (Nat×List D)
 ds:List D
abbrev nY(ck:Option (Nat×List D))(M:MH):Prop:=match ck with
 |none=>True
 |some (i,all)=>M[i]?=some (.lst all)
abbrev eY(x:D):Mo Src:=match x with
 |.tup ds=>pure ⟨none,ds⟩
 |.fl ds=>pure ⟨none,ds⟩
 |.str s=>do need (s.length<=zi);pure ⟨none,s.cps.toList.map sgn⟩
 |.ob k=>do let ds<-getL k;pure ⟨some (k,ds),ds⟩
 |_=>Mo.stop
abbrev sf(x:D):Mo Src:=match x with
 |.ob k=>do let ds<-getL k;pure ⟨some (k,ds),ds.reverse⟩
 |_=>Mo.stop
abbrev small(i:Int):Prop:=-(2 ^ 62)<=i/\i<2 ^ 62
noncomputable instance (i:Int):Decidable (small i):=by unfold small;infer_instance
abbrev gO(lo hi:Int):List D:=(List.range (hi-lo).toNat).map λ (k:Nat)=>D.int (lo+k)
abbrev d8(lo hi a:Int):Nat:=(lo-hi).toNat
abbrev gP(lo hi st:Int):List D:=(List.range (d8 lo hi st)).map λ (k:Nat)=>D.int (lo+st*k)
abbrev mK(x y z:D):Mo Src:=match x,y,z with
 |.int i,.int j,.int st=>do need (small i/\small j/\st=-1/\j<=i);pure ⟨none,gP i j st⟩
 |_,_,_=>Mo.stop
open Classical in
abbrev cK(ck:Option (Nat×List D)):Mo Unit:=λ M=>if nY ck M then some (.ok (),M) else none
abbrev fC(ck:Option (Nat×List D))(i:Nat)(body:Ev->Mo Fl):List D->Ev->Mo Fl
 |[],ρ=>do cK ck;pure (.nx ρ)
 |d::ds,ρ=>do
  cK ck
  let f<-body (ρ.set i (some d))
  (match f with
  |.nx a=>fC ck i body ds a
  |.ct a=>fC ck i body ds a
  |.bk a=>pure (.nx a)
  |.rt v=>pure (.rt v))
abbrev gX(ds:List D):List D:=ds.mapIdx λ n d=>.tup [.int n,d]
abbrev pd(x:D):Mo Src:=match x with
 |.fl ds=>pure ⟨none,gX ds⟩
 |.ob k=>do let ds<-getL k;pure ⟨some (k,ds),gX ds⟩
 |_=>Mo.stop
abbrev pairD:D->Option (D×D)
 |.tup [x,y]=>some (x,y)
 |_=>none
abbrev dg(ck:Option (Nat×List D))(i j:Nat)(body:Ev->Mo Fl):List D->Ev->Mo Fl
 |[],ρ=>do cK ck;pure (.nx ρ)
 |d::ds,ρ=>do
  cK ck
  let p<-lift (pairD d)
  let f<-body ((ρ.set i (some p.1)).set j (some p.2))
  (match f with
  |.nx a=>dg ck i j body ds a
  |.ct a=>dg ck i j body ds a
  |.bk a=>pure (.nx a)
  |.rt v=>pure (.rt v))
abbrev eK(c:Ev->Mo Bool)(body:Ev->Mo Fl):Nat->Ev->Mo Fl
 |0,_=>Mo.stop
 |n+1,ρ=>do
  let b<-c ρ
  if b=true then do
   let f<-body ρ
   (match f with
   |.nx a=>eK c body n a
   |.ct a=>eK c body n a
   |.bk a=>pure (.nx a)
   |.rt v=>pure (.rt v))
  else pure (.nx ρ)
abbrev eT(ck:Option (Nat×List D))(c:Ev->Mo Bool)(e:Ev->Mo D)(ρ:Ev):List D->Mo (List D)
 |[]=>do cK ck;pure []
 |d::ds=>do
  cK ck
  let b<-c (some d::ρ)
  if b=true then do
   let y<-e (some d::ρ)
   let a<-eT ck c e ρ ds
   pure (y::a)
  else eT ck c e ρ ds
abbrev QB:D->Option (List D)
 |.tup ds=>some ds
 |_=>none
abbrev iR:List Nat->List D->Ev->Option Ev
 |[],[],ρ=>some ρ
 |i::is,d::ds,ρ=>iR is ds (ρ.set i (some d))
 |_,_,_=>none
abbrev dR(ck:Option (Nat×List D))(is:List Nat)(body:Ev->Mo Fl):List D->Ev->Mo Fl
 |[],ρ=>do cK ck;pure (.nx ρ)
 |d::ds,ρ=>do
  cK ck
  let c<-lift (QB d)
  let b<-lift (iR is c ρ)
  let f<-body b
  (match f with
  |.nx a=>dR ck is body ds a
  |.ct a=>dR ck is body ds a
  |.bk a=>pure (.nx a)
  |.rt v=>pure (.rt v))
abbrev pj(b:List Str)(o:D)(xs:List D):Mo D:=match o with
 |.ob i=>do
  let a<-getD i
  need (a.isEmpty=true/\b.length=xs.length/\b.length<=15)
  e9 i (.bC (je [] ((b.map Sum.inr).zip xs)))
  pure (.ob i)
 |_=>Mo.stop
abbrev lK(ρ:Ev)(i:Nat):Mo D:=match ρ[i]? with
 |some (some d)=>pure d
 |_=>Mo.stop
abbrev y8(Γ:Ctx)(xs:List D):Mo D:=λ M=>match Γ.rf xs M with
 |some a=>some (.ok (.bl true),a)
 |none=>none
mutual
noncomputable def ag(Γ:Ctx):IE->Ev->Mo D
 |.var i,ρ=>lK ρ i
 |.cint i,_=>pure (.int i)
 |.cbl b,_=>pure (.bl b)
 |.cnon,_=>pure .non
 |.cstr x,_=>pure (.str x)
 |.glb x,_=>lift (Γ.gl x)
 |.bin n a b,ρ=>do let x<-ag Γ a ρ;let y<-ag Γ b ρ;fj n x y
 |.cmp n a b,ρ=>do let x<-ag Γ a ρ;let y<-ag Γ b ρ;let k<-cq n x y;pure (.bl k)
 |.cmp2 n q a b c,ρ=>do
  let x<-ag Γ a ρ
  let y<-ag Γ b ρ
  let k<-cq n x y
  if k=true then do let z<-ag Γ c ρ;let t<-cq q y z;pure (.bl t) else pure (.bl false)
 |.and a b,ρ=>do let x<-ag Γ a ρ;let k<-lift (bS x);if k=true then ag Γ b ρ else pure (.bl false)
 |.or a b,ρ=>do let x<-ag Γ a ρ;let k<-lift (bS x);if k=true then pure (.bl true) else ag Γ b ρ
 |.not a,ρ=>do let x<-ag Γ a ρ;let k<-lift (bS x);pure (.bl (!k))
 |.ifE c a b,ρ=>do let k<-bT Γ c ρ;if k=true then ag Γ a ρ else ag Γ b ρ
 |.tup g,ρ=>do let d<-bR Γ g ρ;need (d.length<=zi);pure (.tup d)
 |.lst g,ρ=>do let d<-bR Γ g ρ;need (d.length<=zi);cv (.lst d)
 |.dic0,_=>cv (.bC [])
 |.idx a b,ρ=>do let x<-ag Γ a ρ;let y<-ag Γ b ρ;gW x y
 |.slc a lo hi,ρ=>do let x<-ag Γ a ρ;let l<-mJ Γ lo ρ;let h<-mJ Γ hi ρ;i6 x l h
 |.call f g,ρ=>do let d<-bR Γ g ρ;Γ.fn f d
 |.blt b g,ρ=>do let d<-bR Γ g ρ;fR b d
 |.comp j u c e,ρ=>do
  let s<-iu Γ u ρ
  need (s.ds.length<=zi)
  let p<-eT s.ck (jU Γ c) (ag Γ e) (ρ.set j none) s.ds
  cv (.lst p)
 |.sset a,ρ=>do let x<-ag Γ a ρ;rY x
 |.lset a,ρ=>do let x<-ag Γ a ρ;me x
 |.rfs g,ρ=>do let d<-bR Γ g ρ;y8 Γ d
 |.sortL a,ρ=>do
  let x<-ag Γ a ρ
  let ds<-Av x
  let p<-lift (Γ.srt ds)
  cv (.lst p)
 |.intB a,ρ=>do let x<-ag Γ a ρ;let i<-lift (iQ x);pure (.int i)
 |.strI a,ρ=>do let x<-ag Γ a ρ;let s<-lift (mF x);pure (.str s)
 |.rep a,ρ=>do let x<-ag Γ a ρ;oG x
 |.neg a,ρ=>do
  let x<-ag Γ a ρ
  (match x with
  |.int i=>pure (.int (-i))
  |_=>Mo.stop)
 |.dicS r g,ρ=>do let o<-cv (.bC []);let d<-bR Γ g ρ;pj r o d
 |.mth m a g,ρ=>do let x<-ag Γ a ρ;iz m x;let d<-bR Γ g ρ;fF m x d
noncomputable def bR(Γ:Ctx):dE->Ev->Mo (List D)
 |.nil,_=>pure []
 |.cons e b,ρ=>do let x<-ag Γ e ρ;let a<-bR Γ b ρ;pure (x::a)
noncomputable def mJ(Γ:Ctx):nC->Ev->Mo (Option Int)
 |.none,_=>pure none
 |.some e,ρ=>do
  let x<-ag Γ e ρ
  (match x with
  |.int i=>pure (some i)
  |_=>Mo.stop)
noncomputable def iu(Γ:Ctx):IT->Ev->Mo Src
 |.seq e,ρ=>do let x<-ag Γ e ρ;eY x
 |.revs e,ρ=>do let x<-ag Γ e ρ;sf x
 |.rng1 a,ρ=>do
  let x<-ag Γ a ρ
  (match x with
  |.int i=>do need (small i);pure ⟨none,gO 0 i⟩
  |_=>Mo.stop)
 |.rng3 a b c,ρ=>do
  let x<-ag Γ a ρ
  let y<-ag Γ b ρ
  let z<-ag Γ c ρ
  mK x y z
noncomputable def bT(Γ:Ctx):IC->Ev->Mo Bool
 |.cmp e,ρ=>do let x<-ag Γ e ρ;lift (bS x)
 |.tru e,ρ=>do let x<-ag Γ e ρ;mD x
 |.not c,ρ=>do let k<-bT Γ c ρ;pure (!k)
 |.and a b,ρ=>do let k<-bT Γ a ρ;if k=true then bT Γ b ρ else pure false
 |.or a b,ρ=>do let k<-bT Γ a ρ;if k=true then pure true else bT Γ b ρ
noncomputable def jU(Γ:Ctx):nE->Ev->Mo Bool
 |.none,_=>pure true
 |.some c,ρ=>bT Γ c ρ
end
abbrev iy(Γ:Ctx):IP->Ev->Mo Src
 |.seq e,ρ=>do let x<-ag Γ e ρ;eY x
 |.enum e,ρ=>do let x<-ag Γ e ρ;pd x
 |.gitems x,_=>do let a<-lift ((Γ.gl x).bind lR);pure ⟨none,qi a⟩
mutual
noncomputable def cQ(Γ:Ctx):IS->Ev->Mo Fl
 |.set i e,ρ=>do let x<-ag Γ e ρ;pure (.nx (ρ.set i (some x)))
 |.forN is e b,ρ=>do let x<-ag Γ e ρ;let s<-eY x;dR s.ck is (aH Γ b) s.ds ρ
 |.setIx o i e,ρ=>do let v<-ag Γ e ρ;let x<-ag Γ o ρ;let y<-ag Γ i ρ;setIx x y v;pure (.nx ρ)
 |.expr e,ρ=>do let _<-ag Γ e ρ;pure (.nx ρ)
 |.ret e,ρ=>do let x<-ag Γ e ρ;pure (.rt x)
 |.retN,_=>pure (.rt .non)
 |.pass,ρ=>pure (.nx ρ)
 |.brk,ρ=>pure (.bk ρ)
 |.cnt,ρ=>pure (.ct ρ)
 |.halt,_=>Mo.stop
 |.rz _ _,_=>Mo.stop
 |.ifS c a b,ρ=>do let k<-bT Γ c ρ;if k=true then aH Γ a ρ else aH Γ b ρ
 |.forS i d b,ρ=>do let s<-iu Γ d ρ;fC s.ck i (aH Γ b) s.ds ρ
 |.forP i j d b,ρ=>do let s<-iy Γ d ρ;dg s.ck i j (aH Γ b) s.ds ρ
 |.whileS c b,ρ=>eK (bT Γ c) (aH Γ b) Γ.wh ρ
noncomputable def aH(Γ:Ctx):aD->Ev->Mo Fl
 |.nil,ρ=>pure (.nx ρ)
 |.cons s r,ρ=>do
  let f<-cQ Γ s ρ
  (match f with
  |.nx a=>aH Γ r a
  |.rt v=>pure (.rt v)
  |.bk a=>pure (.bk a)
  |.ct a=>pure (.ct a))
end
abbrev CO:Option (Out Fl×MH)->Option (Ev×MH)
 |some (.ok (.nx ρ),M)=>some (ρ,M)
 |_=>none
abbrev Lm:Option (Out Fl×MH)->Option (Ev×MH)
 |some (.ok (.nx ρ),M)=>some (ρ,M)
 |some (.ok (.ct ρ),M)=>some (ρ,M)
 |_=>none
abbrev jF(ck:Option (Nat×List D))(i j:Nat)(c:Ev->Mo Fl)(b:Ev->MH->Option ((Int×Int)×MH)):List D->Ev->MH->Option ((Int×Int)×MH)
 |[],_,_=>none
 |d::ds,ρ,M=>match cK ck M with
  |none=>none
  |some _=>match pairD d with
   |none=>none
   |some p=>match Lm (c ((ρ.set i (some p.1)).set j (some p.2)) M) with
    |some (a,e)=>jF ck i j c b ds a e
    |none=>b ((ρ.set i (some p.1)).set j (some p.2)) M
abbrev kn:List Str:=["read_row_askings","read_row"]
abbrev v8(Γ:Ctx)(e:IE)(ρ:Ev)(M:MH):Option ((Int×Int)×MH):=match e with
 |.call f b=>if kn.contains f then (match bR Γ b ρ M with
  |some (.ok a,c)=>Γ.rz f a c
  |_=>none) else none
 |_=>none
mutual
noncomputable def i7(Γ:Ctx):IS->Ev->MH->Option ((Int×Int)×MH)
 |.rz e f,ρ,M=>match ag Γ e ρ M with
  |some (.ok (.int i),d)=>(match ag Γ f ρ d with
   |some (.ok (.int j),h)=>some ((i,j),h)
   |_=>none)
  |_=>none
 |.set _ e,ρ,M=>v8 Γ e ρ M
 |.ifS c a b,ρ,M=>match bT Γ c ρ M with
  |some (.ok k,d)=>if k=true then cu Γ a ρ d else cu Γ b ρ d
  |_=>none
 |.forP i j g b,ρ,M=>match iy Γ g ρ M with
  |some (.ok s,d)=>jF s.ck i j (aH Γ b) (cu Γ b) s.ds ρ d
  |_=>none
 |_,_,_=>none
noncomputable def cu(Γ:Ctx):aD->Ev->MH->Option ((Int×Int)×MH)
 |.nil,_,_=>none
 |.cons s r,ρ,M=>match CO (cQ Γ s ρ M) with
  |some (a,b)=>cu Γ r a b
  |none=>i7 Γ s ρ M
end
abbrev tK(rz:Str->List D->MH->Option ((Int×Int)×MH))(xs:List D)(M:MH):Option MH:=match xs with
 |[t,.tup [.int i,.int j]]=>(match rz "read_tree" [t] M with
  |some (p,a)=>if p=(i,j)/\i.natAbs<2 ^ 64/\j.natAbs<2 ^ 64 then some a else none
  |none=>none)
 |_=>none
abbrev gN(Γ:Ctx)(n:Nat)(b:aD)(xs:List D):Mo D:=do
 let f<-aH Γ b (xs.map some++yx (n-xs.length) none)
 (match f with
 |.nx _=>pure .non
 |.rt v=>pure v
 |.bk _=>Mo.stop
 |.ct _=>Mo.stop)
structure Fd where
 n:Nat
 p:Nat
 b:aD
abbrev dq(tab:List (Str×Fd))(gl:Str->Option D)(srt:List D->Option (List D))(wh:Nat):Nat->Ctx
 |0=>⟨λ _ _=>Mo.stop,gl,srt,wh,λ _ _ _=>none,λ _ _=>none⟩
 |k+1=>⟨λ f a=>match tab.lookup f with
  |some d=>do need (a.length=d.p);gN (dq tab gl srt wh k) d.n d.b a
  |none=>Mo.stop,gl,srt,wh,λ f a M=>match tab.lookup f with
  |some d=>if a.length=d.p then cu (dq tab gl srt wh k) d.b (a.map some++yx (d.n-a.length) none) M else none
  |none=>none,tK (dq tab gl srt wh k).rz⟩
structure Sc where
 sc:Scope
 N:List Str
 fns:List Str
 gls:List Str
 aQ:List Str
abbrev Sc.kind(S:Sc)(x:Str):Option NameKind:=S.sc.names.lookup x
abbrev Sc.Gh(S:Sc)(x:Str):Bool:=S.kind x==some .local||S.kind x==some .cell||S.kind x==some .free
abbrev Sc.loc(S:Sc)(x:Str):Bool:=S.kind x==some .local||S.kind x==some .cell
abbrev Sc.bz(S:Sc)(x:Str):Bool:=S.kind x==some .globalImplicit
abbrev slot(N:List Str)(x:Str):Option Nat:=N.findIdx? (·==x)
abbrev FR(x:Str)(n:Nat):Option Bl :=
 if x==("len":Str)&&n==1 then some .len else if x==("tuple":Str)&&n==1 then some .tuple else if x==("list":Str)&&n==1 then some .list
 else if x==("repr":Str)&&n==1 then some .repr else if x==("all":Str)&&n==1 then some .all else if x==("any":Str)&&n==1 then some .any
 else if x==("min":Str)&&n==2 then some .min2 else if x==("max":Str)&&n==2 then some .max2 else if x==("abs":Str)&&n==1 then some .abs else if x==("dict":Str)&&n==1 then some .dict1 else if x==("min":Str)&&n==1 then some .minL else none
abbrev aW:Expr->Bool
 |.Starred _ _=>false
 |_=>true
abbrev bZ(x:Str):Bool:=x != ("__debug__":Str)&&x != ("__classdict__":Str)&&x != ("__name__":Str)
abbrev LB:Expr->Bool
 |.Name _ _=>true|.Constant _ _ _=>true|.BinOp _ _ _ _=>true|.Compare _ _ _ _=>true|.BoolOp _ _ _=>true|.UnaryOp _ _ _=>true|.IfExp _ _ _ _=>true
 |.List _ _=>true|.Subscript _ _ _=>true|.Call _ _ _ _=>true|_=>false
abbrev Va:Expr->Bool
 |.Name _ _=>true|.Constant _ _ _=>true|.BinOp _ _ _ _=>true|.Subscript _ _ _=>true|.List _ _=>true|.Tuple _ _ _=>true|.Call _ (_::_) _ _=>true|_=>false
abbrev n9:Expr->Bool
 |.ListComp _ _ _ _=>false
 |.SetComp _ _ _ _=>false
 |.DictComp _ _ _ _ _=>false
 |_=>true
abbrev blank(N:List Str)(xs:List Str):List Str:=N.map λ y=>if xs.contains y then "" else y
abbrev gZ(S:Sc)(sc:Scope)(xs:List Str):Bool :=
 sc.kind==.function&&(xs.all λ x=>sc.names.lookup x==some .local&&(x != (".0":Str))&&(x != ("":Str))) &&
 sc.names.all (λ p=>p.2 != .cell&&(p.2 != .local||(xs.contains p.1||p.1==(".0":Str)))) &&
 sc.names.all (λ p=>p.2 != .free||(S.kind p.1==some .cell||S.kind p.1==some .free)) &&
 sc.names.all (λ p=>sc.names.lookup p.1==some p.2&&p.1 != ("":Str))&&(S.N.all λ y=>y != (".0":Str))&&decide (xs++blank S.N xs).Nodup
abbrev Sc.comp(S:Sc)(sc:Scope)(xs:List Str):Sc:={ S with sc:=sc,N:=xs++blank S.N xs }
abbrev C7(a:Operator):Bool:=a==.Add||a==.Sub||a==.Mult||a==.FloorDiv||a==.Mod||a==.Pow
abbrev m7(S:Sc)(f:Str)(len:Nat)(xs:Option dE):Option IE:=if bZ f&&S.bz f then
 (if S.fns.contains f then xs.map (.call f)
 else if S.aQ.contains f then (match FR f len with
  |some b=>xs.map (.blt b)
  |none=>none)
 else none) else none
abbrev JQ(m:Str)(n:Nat):Option Mt :=
 if m==("append":Str)&&n==1 then some .append else if m==("insert":Str)&&n==2 then some .insert else
 if m==("extend":Str)&&n==1 then some .extend else
 if m==("find":Str)&&n==1 then some .find else
 if m==("split":Str)&&n==1 then some .split else if m==("partition":Str)&&n==1 then some .partition else
 if m==("join":Str)&&n==1 then some .join else if m==("get":Str)&&n==2 then some .get else none
abbrev EW(S:Sc)(x:Str):Option IE:=if bZ x then (if S.Gh x then (slot S.N x).map .var else if S.bz x&&S.gls.contains x then some (.glb x) else none) else none
abbrev Ik:Const->Option IE
 |.int i=>some (.cint i)
 |.bool b=>some (.cbl b)
 |.none=>some .cnon
 |.str x=>some (.cstr x)
 |_=>none
abbrev LD:Expr->Bool
 |.Call (.Name f _) _ _ _=>f==("range":Str)
 |_=>false
abbrev FJ(r:Expr->Option IE)(a:Expr)(ops:List CmpOp)(bs:List Expr):Option IE:=match ops,bs with
 |[e],[b]=>if behindInMarks e b then none else do let x<-r a;let y<-r b;some (.cmp e x y)
 |[e,d],[b,c]=>if behindInMarks d c then none else do let x<-r a;let y<-r b;let z<-r c;some (.cmp2 e d x y z)
 |_,_=>none
abbrev Mx:BoolOp->IE->IE->IE
 |.And=>.and
 |.Or=>.or
abbrev FP(r:Expr->Option IE)(d:BoolOp)(es:List Expr)(p:Pos):Option IE:=match es with
 |[a,b]=>do let x<-r a;let y<-r b;some (Mx d x y)
 |a::b::c::l=>do let x<-r a;let y<-r (.BoolOp d (b::c::l) p);some (Mx d x y)
 |_=>none
abbrev T1(r:Expr->Option IE)(b:UnaryOp)(a:Expr):Option IE:=match b with
 |.Not=>do let x<-r a;some (.not x)
 |.USub=>do let x<-r a;some (.neg x)
 |_=>none
abbrev O7:Const->Option Str
 |.str x=>some x
 |_=>none
abbrev Je:Expr->Option Str
 |.Constant c _ _=>O7 c
 |_=>none
abbrev qR(r:Expr->Option IE):List (Option Expr)->List Expr->Option (List Str×dE)
 |[],[]=>some ([],.nil)
 |k::a,v::vs=>(match k with
  |some k=>do let x<-Je k;let e<-r v;let p<-qR r a vs;some (x::p.1,.cons e p.2)
  |none=>none)
 |_,_=>none
abbrev TN(r:Expr->Option IE)(a:List (Option Expr))(vs:List Expr):Option IE:=match a with
 |[]=>(match vs with
  |[]=>some .dic0
  |_::_=>none)
 |k::a=>if decide ((k::a).length<=15) then do let p<-qR r (k::a) vs;some (.dicS p.1 p.2) else none
abbrev Jd(r:Expr->Option IE)(c:Option Expr->Option nC)(a b:Expr):Option IE:=match b with
 |.Slice lo hi none _=>do let x<-r a;let l<-c lo;let h<-c hi;some (.slc x l h)
 |b=>if LB b then do let x<-r a;let y<-r b;some (.idx x y) else none
abbrev AE:Expr->Option (Expr×Str×Pos×Pos)
 |.Call (.Attribute o m b) [] [] a=>some (o,m,b,a)
 |_=>none
abbrev og:Expr->Option (Str×Pos)
 |.Name t p=>some (t,p)
 |_=>none
abbrev D8:Expr->Option (Pos×Expr×Pos)
 |.Call (.Name g p) [b] [] q=>if g==("set":Str) then some (p,b,q) else none
 |_=>none
abbrev mi(x:Str):Bool:=x==("SIGN_OF":Str)
abbrev Ro(S:Sc)(e:Expr)(k:Option IP):Option IP:=match AE e with
 |some (o,m,b,a)=>(match og o with
  |some (x,_)=>if mi x&&(bZ x&&S.bz x&&m==("items":Str)&&b.endLine==a.line) then some (.gitems x) else k
  |none=>k)
 |none=>k
abbrev D7(S:Sc)(r:Expr->Option IE)(f:Str)(as:List Expr):Option IE:=match as with
 |[a]=>(match AE a with
  |some _=>none
  |none=>(match D8 a with
   |some (_,b,_)=>if aW b&&(f==("sorted":Str)&&bZ f&&S.bz f&&S.aQ.contains f&&(S.bz ("set":Str)&&S.aQ.contains ("set":Str))) then do let x<-r b;some (.sset x) else none
   |none =>
    if aW a&&(f==("sorted":Str)&&bZ f&&S.bz f&&S.aQ.contains f) then do let x<-r a;some (.sortL x) else none))
 |_=>none
abbrev lL:Expr->Option (Str×Pos×List Expr×Pos)
 |.Call (.Name f p) a [] q=>some (f,p,a,q)
 |_=>none
abbrev Ld(S:Sc)(f:Str)(as:List Expr):Bool:=f==("range":Str)&&bZ f&&S.bz f&&S.aQ.contains f&&as.all aW
abbrev JY(S:Sc)(r:Expr->Option IE)(f:Str)(as:List Expr)(k:Option IE):Option IE:=match as with
 |[a]=>if (f==("int":Str)&&bZ f&&S.bz f&&S.aQ.contains f) then (if aW a then do let x<-r a;some (.intB x) else none) else k
 |_=>k
abbrev D2(S:Sc)(r:Expr->Option IE)(f:Str)(as:List Expr)(k:Option IE):Option IE:=match as with
 |[a]=>if (f==("str":Str)&&bZ f&&S.bz f&&S.aQ.contains f) then (if aW a then do let x<-r a;some (.strI x) else none) else k
 |_=>k
abbrev Eh(S:Sc)(r:Expr->Option IE)(f:Str)(as:List Expr):Option IT:=match as with
 |[a]=>if bZ f&&S.bz f&&S.aQ.contains f&&aW a then (r a).map .revs else none
 |_=>none
abbrev Jt(S:Sc)(r:Expr->Option IE)(f:Str)(as:List Expr)(k:Option IE):Option IE:=match as with
 |[a]=>if (f==("repr":Str)&&bZ f&&S.bz f&&S.aQ.contains f) then (if aW a then do let x<-r a;some (.rep x) else none) else k
 |_=>k
abbrev Aw(S:Sc)(f:Str):Bool:=f==("len":Str)&&bZ f&&S.bz f&&S.aQ.contains f&&(S.bz ("set":Str)&&S.aQ.contains ("set":Str))
abbrev E7(S:Sc)(r:Expr->Option IE)(f:Str)(as:List Expr)(k:Option IE):Option IE:=match as with
 |[a]=>(match D8 a with
  |some (_,b,_)=>if Aw S f then (if aW b then do let x<-r b;some (.lset x) else none) else k
  |none=>k)
 |_=>k
abbrev Ed(S:Sc)(f:Str):Bool:=f==("_law_refused":Str)&&bZ f&&S.bz f
abbrev y4(S:Sc)(f:Str)(xs:Option dE)(k:Option IE):Option IE:=if Ed S f then xs.map .rfs else k
abbrev QC(_:Sc)(_:Expr->Option IE)(_:Str)(_:List Expr):Option IE:=none
abbrev FU(r:Expr->Option IE)(c:List Expr->Option dE)(o:Expr)(m:Str)(f d:Pos)(as:List Expr):Option IE:=match as with
 |e::a=>if Va o&&(f.endLine==d.line&&decide ((e::a).length<29)) then (match
   JQ m (e::a).length with
   |some k=>do let x<-r o;let b<-c (e::a);some (.mth k x b)
   |none=>none) else none
 |_=>none
abbrev Ba(S:Sc)(r:Expr->Option IE)(b:List Expr->Option dE)(f:Str)(as:List Expr):Option IE:=match as with
 |e::a=>if f==("sorted":Str) then
  D7 S r f (e::a) else if f==("isinstance":Str) then QC S r f (e::a) else
  Jt S r f (e::a) <|
  JY S r f (e::a) <|
  D2 S r f (e::a) <|
  E7 S r f (e::a) <|
  y4 S f (b (e::a)) <|
  m7 S f (e::a).length (b (e::a))
 |_=>none
abbrev uM(S:Sc)(r:Expr->Option IE)(a:List Expr->Option dE)(f:Expr)(as:List Expr)(p:Pos):Option IE:=match f with
 |.Name g _=>Ba S r a g as
 |.Attribute o m b=>FU r a o m b p as
 |_=>none
abbrev Ec(S:Sc)(r:Expr->Option IE)(f:Str)(as:List Expr):Option IT:=if Ld S f as then (match as with
 |[a]=>do let x<-r a;some (.rng1 x)
 |[a,b,c]=>do let x<-r a;let y<-r b;let z<-r c;some (.rng3 x y z)
 |_=>none) else none
abbrev C3:Expr->Bool
 |.Name _ _=>true|.Subscript _ _ _=>true|.BinOp _ _ _ _=>true|.Call _ _ _ _=>true|.List _ _=>true|.ListComp _ _ _ _=>true|_=>false
abbrev Bu:BoolOp->IC->IC->IC
 |.And=>.and
 |.Or=>.or
abbrev FG(r:Expr->Option IC)(d:BoolOp)(es:List Expr):Option IC:=match es with
 |[a,b]=>do let k<-r a;let j<-r b;some (Bu d k j)
 |[a,b,c]=>do let k<-r a;let j<-r b;let l<-r c;some (Bu d k (Bu d j l))
 |_=>none
abbrev Bk(S:Sc)(r:Expr->Option IE)(a:Expr)(ops:List CmpOp)(bs:List Expr):Option IE:=match ops,bs with
 |[c],[b]=>if LD b then
  none
  else FJ r a [c] [b]
 |ops,bs=>FJ r a ops bs
abbrev oX:List Comprehension->Option (Str×Pos×Expr×List Expr)
 |[⟨.Name x p,iter,a,0⟩]=>some (x,p,iter,a)
 |_=>none
mutual
noncomputable def cE(S:Sc):Nat->Expr->Option IE
 |0,_=>none
 |n+1,e=>match e with
  |.Name x _=>EW S x
  |.Constant c _ _=>Ik c
  |.BinOp a d b _=>if C7 d then do let x<-cE S n a;let y<-cE S n b;some (.bin d x y) else none
  |.Compare a i bs _=>Bk S (cE S n) a i bs
  |.BoolOp d g p=>FP (cE S n) d g p
  |.UnaryOp d a _=>T1 (cE S n) d a
  |.IfExp c a b _=>do let k<-cC S n c;let x<-cE S n a;let y<-cE S n b;some (.ifE k x y)
  |.Tuple g _ _=>do let h<-jQ S n g;some (.tup h)
  |.List g _=>do let h<-jQ S n g;some (.lst h)
  |.Dict j vs _=>TN (cE S n) j vs
  |.Subscript a b _=>Jd (cE S n) (cO S n) a b
  |.Call f r j p=>if j.isEmpty then uM S (cE S n) (jQ S n) f r p else none
  |.ListComp m q sc _=>(match oX q with
   |some (x,_,iter,l)=>if gZ S sc [x] then do
     let o<-cT S n iter
     let c<-Iv (S.comp sc [x]) n l
     let e<-cE (S.comp sc [x]) n m
     some (.comp ((slot S.N x).getD S.N.length) o c e) else none
   |none=>none)
  |_=>none
noncomputable def jQ(S:Sc):Nat->List Expr->Option dE
 |0,_=>none
 |_+1,[]=>some .nil
 |n+1,e::b=>if aW e then do let x<-cE S n e;let a<-jQ S n b;some (.cons x a) else none
noncomputable def cO(S:Sc):Nat->Option Expr->Option nC
 |0,_=>none
 |_+1,none=>some .none
 |n+1,some e=>do let x<-cE S n e;some (.some x)
noncomputable def cT(S:Sc):Nat->Expr->Option IT
 |0,_=>none
 |n+1,e=>match lL e with
  |some (f,_,a,_)=>if f==("range":Str) then Ec S (cE S n) f a else if f==("reversed":Str) then Eh S (cE S n) f a else (cE S n e).map .seq
  |none=>if C3 e then (cE S n e).map .seq else none
noncomputable def cC(S:Sc):Nat->Expr->Option IC
 |0,_=>none
 |n+1,e=>match e with
  |.UnaryOp d a _=>if d==.Not then (cC S n a).map .not else none
  |.BoolOp d h _=>FG (cC S n) d h
  |.Compare a c bs _=>(Bk S (cE S n) a c bs).map .cmp
  |.Name x p=>(cE S n (.Name x p)).map .tru
  |.Call f i g p=>(cE S n (.Call f i g p)).map .tru
  |.Subscript a b p=>(cE S n (.Subscript a b p)).map .tru
  |_=>none
noncomputable def Iv(S:Sc):Nat->List Expr->Option nE
 |0,_=>none
 |_+1,[]=>some .none
 |n+1,[c]=>do let k<-cC S n c;some (.some k)
 |_,_=>none
end
abbrev uL:Expr->Option (Expr×List Comprehension×Scope)
 |.ListComp a b sc _=>some (a,b,sc)
 |_=>none
abbrev Bt(S:Sc)(n:Nat)(x:Str)(v:Expr):Option IS:=match uL v with
 |some (b,f,sc)=>(match oX f with
  |some (y,_,iter,a)=>if S.loc x&&gZ S sc [y] then do
   let i<-slot S.N x
   let d<-cT S n iter
   let c<-Iv (S.comp sc [y]) n a
   let e<-cE (S.comp sc [y]) n b
   some (.set i (.comp ((slot S.N y).getD S.N.length) d c e)) else none
  |none=>none)
 |none=>if S.loc x&&n9 v then do let i<-slot S.N x;let y<-cE S n v;some (.set i y) else none
abbrev Kz(S:Sc)(n:Nat)(t:Expr)(v:Expr):Option IS:=match t with
 |.Name x _=>Bt S n x v
 |.Subscript o i _=>if LB i then do let y<-cE S n v;let a<-cE S n o;let b<-cE S n i;some (.setIx a b y) else none
 |_=>none
abbrev KA(S:Sc)(n:Nat)(ts:List Expr)(v:Expr):Option IS:=match ts with
 |[]=>none
 |t::r=>(match r with
  |[]=>Kz S n t v
  |_::_=>none)
abbrev Mp(S:Sc)(r:Expr->Option IE)(f:Str)(as:List Expr):Option IP:=match as with
 |[]=>none
 |a::l=>(match l with
  |[]=>if bZ f&&S.bz f&&S.aQ.contains f&&aW a then (r a).map .enum else none
  |_::_=>none)
abbrev cP(S:Sc)(n:Nat)(e:Expr):Option IP:=match lL e with
 |some (f,_,a,_)=>if f==("enumerate":Str) then Mp S (cE S n) f a else (cE S n e).map .seq
 |none=>Ro S e (if C3 e then (cE S n e).map .seq else none)
abbrev oK(S:Sc)(n:Nat)(a b iter:Expr)(r:Option aD):Option IS:=match og a with
 |none=>none
 |some (x,_)=>(match og b with
  |none=>none
  |some (y,_)=>if S.loc x&&S.loc y then do
   let i<-slot S.N x;let j<-slot S.N y;let c<-cP S n iter;let z<-r;some (.forP i j c z) else none)
abbrev qE(S:Sc):List Expr->Option (List Nat)
 |[]=>some []
 |e::r=>(match og e with
  |some (x,_)=>if S.loc x then do let i<-slot S.N x;let is<-qE S r;some (i::is) else none
  |none=>none)
abbrev qA(S:Sc)(n:Nat)(ts:List Expr)(iter:Expr)(r:Option aD):Option IS :=
 if C3 iter&&!LD iter then do let is<-qE S ts;let e<-cE S n iter;let z<-r;some (.forN is e z) else none
abbrev ER(S:Sc)(n:Nat)(ts:List Expr)(iter:Expr)(r:Option aD):Option IS:=match ts with
 |[]=>none
 |a::l=>(match l with
  |[]=>none
  |b::e=>(match e with
   |[]=>oK S n a b iter r
   |c::d=>qA S n (a::b::c::d) iter r))
abbrev A9(S:Sc)(n:Nat)(t iter:Expr)(r:Option aD):Option IS:=match t with
 |.Name x _=>if S.loc x then do let i<-slot S.N x;let b<-cT S n iter;let y<-r;some (.forS i b y) else none
 |.Tuple a _ _=>ER S n a iter r
 |_=>none
abbrev uB(o:List uV)(r:Option IS):Option IS:=match o with
 |[]=>r
 |_::_=>none
abbrev two(as:List Expr):Option (Expr×Expr):=match as with
 |[]=>none
 |x::r=>(match r with
  |[]=>none
  |y::a=>(match a with
   |[]=>if aW x&&aW y then some (x,y) else none
   |_::_=>none))
abbrev Uc(e:Expr):Option (Expr×Expr×Pos×Pos):=match lL e with
 |some (f,p,a,q)=>if f==("BadTree":Str) then (match two a with
  |some (x,y)=>some (x,y,p,q)
  |none=>none) else none
 |none=>none
abbrev Pp(r:Expr->Option IE)(x y:Expr):IS:=match r x with
 |some i=>(match r y with
  |some j=>.rz i j
  |none=>.halt)
 |none=>.halt
abbrev GJ(S:Sc)(r:Expr->Option IE)(a b:Option Expr):IS:=match a with
 |some e=>(match b with
  |none=>(match Uc e with
   |some (x,y,_,_)=>if S.bz "BadTree" then Pp r x y else .halt
   |none=>.halt)
  |some _=>.halt)
 |none=>.halt
mutual
noncomputable def cS(S:Sc):Nat->uV->Option IS
 |0,_=>none
 |n+1,s=>match s with
  |.Assign d v _=>KA S n d v
  |.Expr e _=>if n9 e then do let y<-cE S n e;some (.expr y) else none
  |.Return o _=>(match o with
   |some e=>do let y<-cE S n e;some (.ret y)
   |none=>some .retN)
  |.Raise a b _=>some (GJ S (cE S n) a b)
  |.Pass _=>some .pass
  |.Break _=>some .brk
  |.Continue _=>some .cnt
  |.If c a b _=>do let k<-cC S n c;let x<-cw S n a;let y<-cw S n b;some (.ifS k x y)
  |.For t iter b o _=>uB o (A9 S n t iter (cw S n b))
  |.While c b o _=>uB o (do let k<-cC S n c;let y<-cw S n b;some (.whileS k y))
  |_=>none
noncomputable def cw(S:Sc):Nat->List uV->Option aD
 |0,_=>none
 |_+1,[]=>some .nil
 |n+1,s::r=>do let x<-cS S n s;let y<-cw S n r;some (.cons x y)
end
end L3
namespace L2
open PySem PySem.Spec PyProof.Rows
def mY{prog:uf}{w:ul}{A:ut}{R:Result->kt->Prop}{s:kt}{p target iter:Expr}{l:List Expr}{scope:Scope}{pos:Pos}{it q:jp}{env:Env}(I:Nat->kt->Prop)
  (turn:∀n s,I n s->wpAny (model prog w) A (pyNext it) (λ r d=>match r with
   |none=>R (.ok .next) d
   |some v=>wpAny (model prog w) A (letOwnedTupleGo target it v) (λ _ b=>wpAny (model prog w) A (assign target env v) (λ _ i =>
     wpAny (model prog w) A (forIn l true λ c r=>if r=true then do let ok<-isTrue c env (eval c env);pure (ForInStep.yield ok) else pure (ForInStep.yield r)) (λ ok a =>
      if ok=true then wpAny (model prog w) A (eval p env) (λ x g =>
       wpAny (model prog w) A (call (.builtin "list.append") [q,x]) (λ _ f=>∃m,m<n/\I m f) (λ _ _=>False) g) (λ _ _=>False) a
      else ∃m,m<n/\I m a) (λ _ _=>False) i) (λ _ _=>False) b) (λ _ _=>False) d) (λ _ _=>False) s)
  (n:Nat) (h:I n s) :
  codeAny (model prog w) A (.compLoop (.ListComp p [⟨target,iter,l,0⟩] scope pos) 0 it q env) R s:=by
 refine codeAny_loop rfl I (λ n s z=>?_) n h;show wpAny _ A ((compTurn (.ListComp p [⟨target,iter,l,0⟩] scope pos) 0 it q env).onRaise (λ x=>do noteFrame x env;theTreesLotGoes x)) _ _ s;refine wpAny_noted ?_;rw[compTurn_list];refine zw (wpAny_standAt (zw (wpAny_mono (turn n s z) (λ r d k=>?_) λ _ _ e=>e.elim)));cases r with
 |none=>exact zo k
 |some v =>
  refine zw (wpAny_mono k (λ _ b o=>?_) λ _ _ e=>e.elim);refine zw (wpAny_mono o (λ _ i y=>zw (wpAny_mono y (λ ok a j=>?_) λ _ _ e=>e.elim)) λ _ _ e=>e.elim);cases ok with
  |false=>exact zo ⟨rfl,j⟩
  |true =>
   exact zw (zw (wpAny_mono j (λ x g u=>zw (wpAny_mono u (λ _ f t=>zo (zo ⟨rfl,t⟩)) λ _ _ e=>e.elim)) λ _ _ e=>e.elim))
def l9{env:Env}{y:Str}:∀{names:List (Str×NameKind)},
  (names.map λ (n,k)=>if (k==NameKind.free&&env.scope.kind==.function&&env.kindOf n==some .cell) then (n,NameKind.cell) else (n,k)).lookup y =
   (names.lookup y).map λ k=>if (k==NameKind.free&&env.scope.kind==.function&&env.kindOf y==some .cell) then NameKind.cell else k
 |[]=>rfl
 | (n,k)::r=>by
  have a:=@l9 env y r;rw[zR];by_cases hx:y=n
  ·subst hx
   dsimp only;split <;> simp_all [yf]
  ·have b:(y==n)=false:=zzF.mpr hx
   dsimp only;split <;> rwa[yf,b] <;> exact a
abbrev bP(X:Cx)(scope:Scope)(cl:List (Str×uc))(C:uc)(b:List Str)(s:kt)(H:Hp)(a:List uc):Cx where
 prog:=X.prog
 w:=X.w
 K:=X.K
 mg:=X.mg
 base:=X.base
 A:=X.A
 N:=b
 s₀:=s
 H₀:=H
 env:=compEnvC scope cl C X.env
 outer:=X.stack
 stack:=X.stack
 ex:=a
 fn:=λ _=>false
 calm:=X.calm
 pn:=[]
 xe:=λ _ _=>False
structure ie (X:Cx) (scope:Scope) (cl:List (Str×uc)) (xs:List Str) (N':List Str):Prop where
 kind:scope.kind=.function
 Aq:∀y∈scope.names,y.2≠.cell
 loc:∀x∈xs,scope.names.lookup x=some .local
 names:∀y∈scope.names,y.2=.local->scope.names.lookup y.1=some .local
 only:∀y,scope.names.lookup y=some .local->y∈xs\/y=(".0":Str)
 RK:closureFor scope X.env=pure cl
 cls:∀y c,cl.lookup y=some c->X.env.cells.lookup y=some c
 has:∀y,scope.names.lookup y=some .free->∃c,cl.lookup y=some c
 out:∀y,scope.names.lookup y=some .free->X.env.kindOf y=some .cell\/X.env.kindOf y=some .free
 nd:N'.Nodup
 n0:∀(i:Nat) (y:Str),xs[i]?=some y->N'[i]?=some y
 ns:∀(i:Nat) (y:Str),N'[i+xs.length]?=some y->y ∉ xs/\y≠(".0":Str)/\(X.N[i]?=some y\/¬ IB scope y)
 len:N'.length=X.N.length+xs.length
def kH:(relabel scope env).names.lookup y=(scope.names.lookup y).map λ k=>if (k==NameKind.free&&env.scope.kind==.function&&env.kindOf y==some .cell) then NameKind.cell else k:=l9
def lookup_mem:∀{names:List (Str×NameKind)},names.lookup y=some k->(y,k)∈names:=λ h=>PySem.mem_of_lookup h
section
variable {X:Cx}{scope:Scope}{cl:List (Str×uc)}{xs:List Str}{N':List Str}{XV:List (uc×Obj)}{σ:St}{H:Hp}{s:kt}{fp:List uc}
def ie.cellAt(S:ie X scope cl xs N')(h:(compEnvC scope cl C X.env).kindOf y=some .cell\/(compEnvC scope cl C X.env).kindOf y=some .free):scope.names.lookup y=some .free:=by
 have e:(compEnvC scope cl C X.env).kindOf y=(scope.names.lookup y).map λ k=>if (k==NameKind.free&&X.env.scope.kind==.function&&X.env.kindOf y==some .cell) then NameKind.cell else k:=kH;rw[e]at h;cases q:scope.names.lookup y with
 |none=>rw[q]at h;simp at h
 |some k =>
  rw[q]at h;cases k with
  |free=>rfl
  |cell=>exact absurd rfl (S.Aq _ (lookup_mem q))
  |_=>simp at h
def Ou(I:Inv X XV σ H s)(S:ie X scope cl xs N')(d:∀b∈fp,jL X XV H b){C:uc}(g:s.heap.objs.size<=C)(f:∀b∈fp,b<s.heap.objs.size) :
  (bP X scope cl C N' s H fp).Ok where
 mod:=I.ok.mod
 kind:=S.kind
 glob:=I.ok.glob
 blt:=I.ok.blt
 above:=g
 inj:=λ y z c j i=>I.ok.inj y z c (S.cls _ _ j) (S.cls _ _ i)
 has:=λ y h=>S.has y (S.cellAt h)
 ub:=λ y c h=>by cases h
 hd:=I.ok.hd
 frames:=I.ok.frames
 vQ:=.inl rfl
 HW:=λ b a=>⟨zF (ze (f b a) g),λ y c e=>(d b a).2.2.2.2.1 y c (S.cls _ _ e)⟩
 bs:=I.bs
 nz:=zG I.ok.nz I.sz
 n8:=λ b o e a=>by
  rcases (d b a).2.2.2.1 with z|z
  ·exact I.ok.n8 b o e z
  ·exact absurd (ze (zg e) (zG I.ok.nz z)) (yg _)
 qj:=λ b a z=>by
  rcases zd.mp (I.kr b z) with e|e
  ·exact(d b a).2.1 e
  ·exact(d b a).2.2.1 e
 fm:=I.stack
 pU:=I.rV
def FH(I:Inv X XV σ H s)(S:ie X scope cl xs N')(Q:∀b∈fp,jL X XV H b){C:uc}{g:Heap}{E:Nat}{m:Str->Option jp}(A:s.heap.objs.size<=C)(x:∀b∈fp,b<s.heap.objs.size)
  (f:∀b o,s.heap.get? b=some o->g.get? b=some o) (T:g.Ns C m):Inv (bP X scope cl C N' s H fp) (X.pn++XV) (yx xs.length none++σ) H { s with heap:=g,toks:=E }:=by
 refine⟨Ou I S Q A x,rfl,I.bare,Un.kept f,⟨m,T,λ i y v e1 r U=>?_⟩,λ y c e=>?_,I.hok.fresh A,λ y c e=>I.c9 y c (S.cls _ _ e),λ p O=>?_,I.hok.kept f,?_⟩
 ·by_cases hi:i<xs.length
  ·rw[zK (by rw[yz];exact hi),xl,if_pos hi]at r
   cases r
  ·obtain⟨j,rfl⟩:∃j,i=j+xs.length:=⟨i-xs.length,by omega⟩
   let⟨L,K,J⟩:=S.ns j y e1;have B:σ[j]?=some (some v):=by
    rw[zA (by rw[yz];omega),yz,wM]at r;exact r
   have e:(relabel scope X.env).names.lookup y=(scope.names.lookup y).map λ k=>if (k==NameKind.free&&X.env.scope.kind==.function&&X.env.kindOf y==some .cell) then NameKind.cell else k:=kH;have a:(relabel scope X.env).names.lookup y=some .local\/(relabel scope X.env).names.lookup y=some .cell\/(relabel scope X.env).names.lookup y=some .free:=U;have q:scope.names.lookup y=some .free:=by
    cases q:scope.names.lookup y with
    |none=>rw[e,q]at a;simp at a
    |some k =>
     rw[e,q]at a;cases k with
     |free=>rfl
     |cell=>exact absurd rfl (S.Aq _ (lookup_mem q))
     |«local» =>
      rcases S.only y q with z|z
      ·exact absurd z L
      ·exact absurd z K
     |_=>simp at a
   have R:X.N[j]?=some y:=by
    rcases J with z|z
    ·exact z
    ·exact absurd (Or.inr (Or.inr q)) z
   let⟨W,P,w⟩:=I.loc;have D:IB X.env.scope y:=by
    rcases S.out y q with z|z
    ·exact .inr (.inl z)
    ·exact .inr (.inr z)
   let⟨u,F,M⟩:=w j y v R B D;exists u,F;rcases M with ⟨l,_⟩|⟨_,c,hc,o,ho,hd⟩
   ·rcases S.out y q with z|z
    ·rw[z]at l;cases l
    ·rw[z]at l;cases l
   ·let⟨V,h⟩:=S.has y q
    have:=S.cls y V h
    rw[hc]at this;cases this;refine .inr ⟨?_,c,h,o,f _ _ ho,hd⟩;rw[e,q]at a;show (relabel scope X.env).names.lookup y=some .cell\/(relabel scope X.env).names.lookup y=some .free;rw[e,q];rcases a with z|z
    ·rwa[xr,Option.some.injEq]at z
     split at z <;> cases z
    ·exact z
 ·let⟨v,o,ho,hd⟩:=I.cell y c (S.cls _ _ e)
  exact⟨v,o,f _ _ ho,hd⟩
 ·have t:p∈X.pn++XV:=O
  let⟨e,n,ne,G,d⟩:=I.pin p t;refine⟨f _ _ e,n,zF (ze (zg e) A),λ z=>?_,d⟩;rcases zd.mp (I.kr _ z) with q|q
  ·exact ne q
  ·exact G q
 ·show (yx xs.length none++σ).length=N'.length
  rw[S.len,zx,yz,I.len,wu]
end
def Un.adopt(u:Un fs ex H d h h')(f:h.get? D=none)(c:d D=none):Un fs ex H (upd d D o) h h' where
 keep:=u.keep
 slot:=u.slot
 free:=λ b ob q n hx=>by
  have:b≠D:=λ z=>by rw[z,f]at q;cases q
  rw[ar this];exact u.free b ob q n hx
 there:=u.there
 jB:=λ b e q=>by
  have a:=u.jB b e q;rw[ar (bD a c)];exact a
 iG:=λ b ob v q=>by
  have a:=u.iG b ob v q;rw[ar (bD a c)];exact a
 jD:=λ b ps q=>by
  let⟨more,a⟩:=u.jD b ps q;exact⟨more,by rw[ar (bD a c)];exact a⟩
def cV.adopt(x:cV P w H h)(a:H D=none)(new:bV P w (upd H D o) h D o):cV P w (upd H D o) h:=λ b u e=>by
 by_cases d:b=D
 ·subst d;rw[aV]at e;cases e;exact new
 ·rw[ar d]at e
  exact(x b u e).ku (λ _ _ _ q=>q) (λ c q=>by rw[ar (bD q a)];exact q) λ c f q=>by rw[ar (bD q a)];exact q
abbrev mw(X:Cx)(a:List Expr)(d:TT):Prop :=
 ∀(b:List (uc×Obj)) (s:kt) (σ:St) (H:Hp) (Q:Bool->Hp->Prop),Inv X b σ H s->d σ H Q ->
  wpAny (model X.prog X.w) X.A (forIn a true λ c r=>if r=true then do let ok<-isTrue c X.env (eval c X.env);pure (ForInStep.yield ok) else pure (ForInStep.yield r)) (TP X b σ Q) X.xe s
abbrev VB:TT:=λ _ H Q=>Q true H
def Nv:mw X [] VB:=λ _ _ _ H _ I h=>wpAny_tests_nil ⟨H,I,h⟩
def Nu(hc:PT X c tc):mw X [c] tc:=λ a s σ H Q I h=>wpAny_tests_one (hc a s σ H Q I h)
noncomputable abbrev lobj(its:List jp) (n:Nat):Obj:={ cls:=.type "list",data:=.seq its.toArray n }
abbrev MC(J:It)(g:TG)(f:Nat)(n:TT)(l:TE)(σ:St)(e:List V->Hp->Prop)(W:Nat->Nat->List V->Hp->Prop):Prop:=∀i m c H,W i m c H ->
 (J.stop i H/\c.length<=zi/\e c H) \/
 (J.go i H/\c.length<zi/\∀v k (os:St),os.length=f->J.kq i H v k->g v (os++σ) k λ a p=>∃h:St,h.length=f/\a=h++σ/\n a p λ b j=>if b=true then l a j λ y o=>∃d,d<m/\W (i+1) d (c++[y]) o else ∃d,d<m/\W (i+1) d c j)
section
variable {X:Cx}{scope:Scope}{cl:List (Str×uc)}{xs:List Str}{tg:Expr}{g:TG}{N':List Str}{XV:List (uc×Obj)}{σ:St}{H:Hp}{s:kt}{fp:List uc}{it:uc}{J:It}{tn:Nat->Heap->Prop}
 {elt iter:Expr} {ifs:List Expr} {pos:Pos} {tc:TT} {te:TE}
def rG
  (hc:X.calm=true)
  (S:ie X scope cl xs N') (hg:∀C s H fp,PG (bP X scope cl C N' s H fp) tg g) (htc:∀C s H fp,mw (bP X scope cl C N' s H fp) ifs tc) (hte:∀C s H fp,PE (bP X scope cl C N' s H fp) elt te)
  (I:Inv X XV σ H s)
  (T:Turn X.prog X.w X.K tg J fp it tn)
  (st:tn 0 s.heap) (hf:∀b∈fp,jL X XV H b)
  {Fin:List V->Hp->Prop} {W:Nat->Nat->List V->Hp->Prop} (hW:MC J g xs.length tc te σ Fin W) {m0:Nat} (w0:W 0 m0 [] H) {E:jp->kt->Prop} {RR:jp->uc->Result->kt->Prop}
  (fin:∀(D C:uc) (s':kt) (ys:List V) (h:Hp),Inv X XV σ (upd h D (.lst ys)) s'->h D=none->upd h D (.lst ys) C=none->C≠X.env.locals->X.s₀.heap.objs.size<=C->(∀y c,X.env.cells.lookup y=some c->c≠C)->(∀p∈X.pn++XV,p.1≠C) ->
   (∃m,s'.heap.Ns C m)->Fin ys h->RR (.ref D) C (.ok .next) s') :
  wpAny (model X.prog X.w) X.A (newList []) (λ acc s₃=>wpAny (model X.prog X.w) X.A (newFunctionEnv scope X.env.globals cl [] X.env.qual none .none (some X.env)) (λ RL R =>
   codeAny (model X.prog X.w) X.A (.compStart (.ListComp elt [⟨tg,iter,ifs,0⟩] scope pos) 0 (.ref it) acc { RL with scope:=relabel scope X.env }) (RR acc RL.locals) R) E s₃) E s:=by
 have F:∀b∈fp,b<s.heap.objs.size:=λ b f=>by
  let⟨o,e,_⟩:=T.obj _ _ st b f;exact zg e
 refine wpAny_newObj_type (wpAny_newFunctionEnv S.Aq (by intro y hy;simp at hy) (λ t AO qX=>?_) S.kind);dsimp only at AO qX ⊢;generalize N:s.heap.push { cls:=.type "list",dict:=none,data:=.seq ([]:List jp).toArray }=H2 at AO qX ⊢;generalize a:s.heap.objs.size=D at *;generalize ZD:H2.objs.size=C at *;have hC:C=D+1:=by rw[<- ZD,<- N,xM,a]
 have Mc:D≠C:=by rw[hC];exact zF (ye _)
 have L:D<=C:=by rw[hC];exact xk _
 have M:∀b o,s.heap.get? b=some o->t.get? b=some o:=λ b o e=>by
  have f:b<D:=a▸zg e;exact qX.extBut b o (zF (ze f L)) (zv _ (N▸zv _ e))
 have J7:t.get? D=some (lobj [] 0):=qX.extBut _ _ Mc (zv _ (N▸a▸zC _ rfl));have YR:s.heap.get? D=none:=ym (yG a);have U:∀p∈X.pn++XV,p.1<D:=λ p j=>a▸zg (I.pin p j).1;have Z:∀y c,X.env.cells.lookup y=some c->c<D:=λ y c e=>by
  let⟨v,o,ho,_⟩:=I.cell y c e;exact a▸zg ho
 have fsD:∀b∈gB X.stack,b<D:=λ b f=>by
  let⟨_,o,ho,_⟩:=I.stack.mem f;exact a▸zg ho
 have loop:∀s₃:kt,s₃={ s with heap:=t,toks:=s.toks+([]:List (Str×jp)).length } ->
   codeAny (model X.prog X.w) X.A (.compLoop (.ListComp elt [⟨tg,iter,ifs,0⟩] scope pos) 0 (.ref it) (.ref D) (compEnvC scope cl C X.env)) (RR (.ref D) C) s₃:=by
  rintro s₃ rfl;have I₁:Inv (bP X scope cl C N' s H fp) (X.pn++XV) (yx xs.length none++σ) H { s with heap:=t,toks:=s.toks+([]:List (Str×jp)).length } :=
   FH I S hf (by rw[a];exact L) (λ b f=>by rw[a];exact F b f) M AO
  have PJ:∀{its:List jp} {n:Nat} {l:St} {h:Hp} {s':kt},Inv (bP X scope cl C N' s H fp) (X.pn++XV) l h s'->s'.heap.get? D=some (lobj its n)->h D=none ->
    Inv (bP X scope cl C N' s H fp) ((X.pn++XV)++[(D,lobj its n)]) l h s':=λ {its n l h s'} O e n=>O.sk λ p j=>by
   rcases zQ.mp j with j|j
   ·exact O.pin p (zN _ j)
   ·rw[zB.mp j]
    exact⟨e,n,Mc,λ z=>yg _ (fsD D z),λ v z=>by cases z⟩
  refine mY (λ k s'=>∃(i:Nat) (ys:List V) (its:List jp) (n:Nat) (os:St) (h:Hp),os.length=xs.length/\Inv (bP X scope cl C N' s H fp) ((X.pn++XV)++[(D,lobj its n)]) (os++σ) h s'/\Vals ys its/\tn i s'.heap/\(∀b∈fp,h b=none)/\W i k ys h) ?_ m0
   ⟨0,[],[],0,yx xs.length none,H,yz ..,PJ I₁ J7 (I.hok.fresh (yG a)),.nil,T.keep _ _ _ st λ b _ o e=>M b o e,λ b f=>(hf b f).1,w0⟩
  rintro k s4 ⟨i,ys,its,n,os,G,Y2,I4,rv,T9,U2,w4⟩;have pD:∀{its:List jp} {n:Nat} {pl:List (uc×Obj)} {l:St} {h:Hp} {s':kt},Inv (bP X scope cl C N' s H fp) (((X.pn++XV)++[(D,lobj its n)])++pl) l h s'->s'.heap.get? D=some (lobj its n)/\h D=none:=λ O =>
   let q:=O.pin (D,lobj _ _) (zN _ (zZ _ (zN _ zI)))
   ⟨q.1,q.2.1⟩
  have x:∀{its:List jp} {n:Nat} {h:Hp},(∀b∈fp,h b=none)->∀b∈fp,jL (bP X scope cl C N' s H fp) ((X.pn++XV)++[(D,lobj its n)]) h b:=λ {its n h} hn b f=>by
   let⟨f0,f1,f2,f3,f4,f5⟩:=hf b f;refine⟨hn b f,zF (ze (F b f) L),λ z=>?_,.inl f,λ y c e=>f4 y c (S.cls _ _ e),λ p j=>?_⟩
   ·rcases zd.mp (I.kr b z) with q|q
    ·exact f1 q
    ·exact f2 q
   ·have j:p∈(X.pn++XV)++[(D,lobj its n)]:=j
    rcases zQ.mp j with j|j
    ·exact f5 p j
    ·rw[zB.mp j]
     exact Ne.symm (zF (F b f))
  rcases hW i k ys G w4 with ⟨stop,hz,q⟩|⟨go,hz,step⟩
  ·refine aJ (T.done (bP X scope cl C N' s H fp) rfl rfl rfl
    hc
    i _ s4 _ G _ I4 (x U2) T9 stop) λ r s5 ⟨hr,P⟩=>?_
   subst hr;let⟨gD,Q⟩:=pD (pl:=[]) (by rw[zO];exact P);have un:Un (gB X.stack) fp H (upd G D (.lst ys)) s.heap s5.heap:=Un.adopt P.base YR Q;have hok:cV X.prog X.w (upd G D (.lst ys)) s5.heap:=cV.adopt P.hok Q ⟨hz,its,n,rv,gD⟩;have I6:Inv X XV σ (upd G D (.lst ys)) s5:=I.call' (ch:=fp) P.os un hok P.bare λ b f=>by
    let⟨f0,f1,f2,f3,f4,f5⟩:=hf b f;exact⟨f3,f1,f4,f5⟩
   have cn:G C=none:=P.free;have lo:X.s₀.heap.objs.size<=C:=zG I.sz (by rw[a];exact L);exact fin D C s5 ys G I6 Q (by rw[ar (Ne.symm Mc)];exact cn) (yi (ze (a▸I.lt) L)) lo (λ y c e=>zF (ze (Z y c e) L)) (λ p j=>zF (ze (U p j) L))
    (let ⟨m,Y,_⟩:=P.loc;⟨m,Y⟩) q
  ·refine aJ (T.item (bP X scope cl C N' s H fp) rfl rfl rfl
    hc
    i _ s4 _ G _ I4 (x U2) T9 go) λ r s5 ⟨u,hr,h5⟩=>?_
   subst hr;refine aJ h5 λ _ s6 ⟨v,H6,I6,r6,y6,O8,ZN⟩=>?_;have I6':=I6.pinned (x ZN) (T.obj _ _ O8);refine aJ (hg C s H fp _ s6 _ H6 v u _ I6' r6 (step v H6 os Y2 y6)) λ _ s7 ⟨σ7,H7,I7,B,UA,e7,q7⟩=>?_;subst e7;have U4:∀{l:St} {h:Hp} {s':kt},Inv (bP X scope cl C N' s H fp) (((X.pn++XV)++[(D,lobj its n)])++nW fp s6.heap) l h s'->tn (i+1) s'.heap/\∀b∈fp,h b=none:=λ {l h s'} O =>
    ⟨T.keep _ _ _ O8 λ b f ob e=>(O.pin (b,ob) (zN _ (zN _ (jV f e)))).1,λ b f=>by
     let⟨ob,e,d⟩:=T.obj _ _ O8 b f;exact(O.pin (b,ob) (zN _ (zN _ (jV f e)))).2.1⟩
   refine aJ (htc C s H fp _ s7 _ H7 _ I7 q7) λ b s8 ⟨H8,I8,q8⟩=>?_;cases b with
   |false =>
    rw[if_neg zn]at q8 ⊢;let⟨m',Y,w8⟩:=q8;let⟨t8,f8⟩:=U4 I8;exact⟨m',Y,i+1,ys,its,n,B,H8,UA,I8.iq,rv,t8,f8,w8⟩
   |true =>
    rw[if_pos rfl]at q8 ⊢;refine aJ (hte C s H fp _ s8 _ H8 _ I8 q8) λ u9 s9 ⟨y,H9,I9,r9,m',Y,w9⟩=>?_;let⟨gD,Q⟩:=pD I9;let⟨t9,f9⟩:=U4 I9;refine append_at (its:=its.toArray) (n:=n) gD (λ h' sb hD'=>?_) (by have:=rv.length;simp;omega);have R6:Inv (bP X scope cl C N' s H fp) (X.pn++XV) (B++σ) H9 s9:=I9.iq.iq;have Z7:Inv (bP X scope cl C N' s H fp) (X.pn++XV) (B++σ) H9 { s9 with heap:=h' }:=R6.turned (t':=s9.toks) (it:=D) (λ b ob f e=>sb.extBut b ob f e) Q Mc (.inr (yG a))
     (λ z c e=>zF (Z z c (S.cls _ _ e))) λ p j=>zF (U p j)
    refine⟨m',Y,i+1,ys++[y],its++[u9],n+1,B,H9,UA,PJ Z7 (by rw[hD'];simp) Q,rv.append (.cons r9 .nil),T.keep _ _ _ t9 λ b f ob e=>sb.extBut b ob (zF (F b f)) e,f9,w9⟩
 exact codeAny_compStart_list (loop _ rfl) (T.self X.A 0 _ _ _ (T.keep _ _ _ st λ b _ o e=>M b o e) (loop _ rfl))
end
abbrev DX(c:TI)(g:TG)(f:Nat)(e:TT)(d:TE):TE:=λ σ H Q=>c σ H λ J h=>∃W:Nat->Nat->List V->Hp->Prop,(∃m,W 0 m [] h) /\
 MC J g f e d σ (λ b a=>∀p,a p=none->Q (.ref p) (upd a p (.lst b))) W
section
variable {X:Cx}{scope:Scope}{cl:List (Str×uc)}{xs:List Str}{tg:Expr}{g:TG}{N':List Str}{elt iter:Expr}{ifs:List Expr}{pos:Pos}{tc:TT}{te:TE}{wi:TI}
def CT{a:List (uc×Obj)}{σ:St}{H:Hp}{s:kt}{C:uc}{h':Heap}(I:Inv X a σ H s)(d:Heap.SameBut C s.heap h')(l:H C=none)(k:C≠X.env.locals)(j:X.s₀.heap.objs.size<=C)(i:∀y c,X.env.cells.lookup y=some c->c≠C)(h:∀p∈X.pn++a,p.1≠C) :
  Inv X a σ H { s with heap:=h' }:=I.turned (t':=s.toks) (it:=C) (λ b ob f e=>d.extBut b ob f e) l k (.inr j) i h
def CL(hc:X.calm=true)(S:ie X scope cl xs N')(p:∀C s H a,PG (bP X scope cl C N' s H a) tg g)(hi:PI X tg iter wi)(d:∀C s H a,mw (bP X scope cl C N' s H a) ifs tc)(c:∀C s H a,PE (bP X scope cl C N' s H a) elt te)
  (n:∀x,foldedSetIterable iter X.env x=pure x):PE X (.ListComp elt [⟨tg,iter,ifs,0⟩] scope pos) (DX wi g xs.length tc te):=by
 intro i s σ H Q I h;rw[eval_ListComp];refine wpAny_comprehension_free (use:=none) rfl n S.RK S.kind S.names (aJ (hi i s σ H _ I h) λ v P u=>aJ u λ Y O t=>?_);obtain⟨U,a,N,J,Z,e,K,T,b,y,W,⟨m0,j⟩,r⟩:=t;subst e;refine rG (RR:=λ f C=>compPost (model X.prog X.w) X.A X.xe none (EP X i σ Q) f C)
  hc
  S p d c K
  T
  b y r j ?_
 intro D C R M H' L l z G F E B ns q;let⟨m,o⟩:=ns;exact⟨m,o,λ V k=>⟨.ref D,_,CT L k z G F E B,rfl,q D l⟩⟩
def Nz(hc:X.calm=true)(S:ie X scope cl xs N')(F:∀C s H c,PG (bP X scope cl C N' s H c) (.Name x f) g)(hi:PI X (.Name x f) iter wi)(k:∀C s H c,mw (bP X scope cl C N' s H c) ifs tc)(j:∀C s H c,PE (bP X scope cl C N' s H c) elt te)
  (E:∀x,foldedSetIterable iter X.env x=pure x) (K:X.N.Nodup) (B:X.N[i]?=some y) (hx:Loc X.env.scope y) (G:X.fn y=true\/X.env.scope.names.lookup y=some .local) :
  PS X (.Assign [.Name y py] (.ListComp elt [⟨.Name x f,iter,ifs,0⟩] scope pos) O) (vN (DX wi g xs.length tc te) (fX i)):=by
 have l:∃b:Bool,swapsWith (.ListComp elt [⟨.Name x f,iter,ifs,0⟩] scope pos) (some (.Name y py)) O.line X.env=pure b:=⟨_,rfl⟩;let⟨b,l⟩:=l;cases b with
 |false=>exact lZ K B hx (CL hc S F hi k j E) l G
 |true =>
  intro r s σ H D I h;rw[exec_Assign_Name_used _ _ _ _ l];refine zw (wpAny_standAt (zw ?_));show wpAny _ X.A (do let _<-comprehension (.ListComp elt [⟨.Name x f,iter,ifs,0⟩] scope pos) scope X.env _ (newList []) false (eval iter X.env) (some (assign (.Name y py) X.env))) _ _ s;refine zw (aJ (wpAny_comprehension_free (use:=some (assign (.Name y py) X.env)) (Q:=λ _ d=>SP X r D .next d) rfl E S.RK S.kind S.names
   (aJ (hi r s σ H _ I h) λ v s1 h1=>aJ h1 λ LC U h2=>?_)) λ _ d Y=>zo (zo Y))
  obtain⟨it,c,tn,J,H2,e,I2,T,n,f2,W,⟨m0,P⟩,hW⟩:=h2;subst e;refine rG (RR:=λ p C=>compPost (model X.prog X.w) X.A X.xe (some (assign (.Name y py) X.env)) (λ _ d=>SP X r D .next d) p C)
   hc
   S F k j I2
   T
   n f2 hW P ?_
  intro u C d ys H' I' V cn M c2 L c4 ns q;let⟨m,Z⟩:=ns;show wpAny _ X.A (assign (.Name y py) X.env (.ref u)) _ _ _;refine wpAny_assign_Name (tD I' K B hx (v:=.ref u) rfl (λ U t ⟨a,R,ha⟩=>?_) G);have ZF:C≠a:=by
   rcases ha with z|z
   ·rw[z];exact M
   ·exact λ e=>L _ _ z e.symm
  refine⟨m,Z.sameBut R ZF,λ h' o=>?_⟩;exact⟨_,_,CT t o cn M c2 L c4,q u V⟩
end
end L2
namespace L3
open PySem PySem.Spec PyProof.Rows L2
noncomputable abbrev St:=L2.St
abbrev By(K:Q_)(H:Hp)(a:uc)(xs:List V):Prop :=
 (∃o,H a=some (.frz o (.lst xs))) \/
  ∃(o:Obj) (b:Array jp) (n:Nat),K.lookup a=some o/\o.cls=.type "list"/\o.dict=none/\o.data=.seq b n/\b.size<=zi/\Vals xs b.toList
def By.seq{K:Q_}{H:Hp}{a:uc}{xs:List V}(h:By K H a xs):bx K H a xs:=by
 rcases h with ⟨o,h⟩|h
 ·exact .inl (.inr ⟨o,h⟩)
 ·exact .inr h
mutual
inductive Rep (K:Q_) (ι:List uc) (H:Hp):D->V->Prop where
 |non:Rep K ι H .non .non
 |bl (b:Bool):Rep K ι H (.bl b) (.bl b)
 |int (i:Int):Rep K ι H (.int i) (.int i)
 |str (x:Str):Rep K ι H (.str x) (.str x)
 |tup {a:uc} {vs:List V} {ds:List D}:H a=some (.tup vs)->aB K ι H ds vs->Rep K ι H (.tup ds) (.ref a)
 |fl {a:uc} {vs:List V} {ds:List D}:By K H a vs->aB K ι H ds vs->Rep K ι H (.fl ds) (.ref a)
 |ob {i:Nat} {a:uc}:ι[i]?=some a->Rep K ι H (.ob i) (.ref a)
inductive aB (K:Q_) (ι:List uc) (H:Hp):List D->List V->Prop where
 |nil:aB K ι H [] []
 |cons {d:D} {v:V} {ds:List D} {vs:List V}:Rep K ι H d v->aB K ι H ds vs->aB K ι H (d::ds) (v::vs)
end
structure Ext (K:Q_) (ι:List uc) (H:Hp) (ι':List uc) (H':Hp):Prop where
 pre:∀(i:Nat) (a:uc),ι[i]?=some a->ι'[i]?=some a
 tup:∀a xs,H a=some (.tup xs)->H' a=some (.tup xs)
 fz:∀a xs,By K H a xs->By K H' a xs
section
variable {K:Q_}{ι ι' ι'':List uc}{H H' H'':Hp}
def Ext.refl:Ext K ι H ι H where
 pre:=λ _ _ e=>e
 tup:=λ _ _ e=>e
 fz:=λ _ _ e=>e
def Ext.trans(a:Ext K ι H ι' H')(b:Ext K ι' H' ι'' H''):Ext K ι H ι'' H'' where
 pre:=λ i c e=>b.pre i c (a.pre i c e)
 tup:=λ c d e=>b.tup c d (a.tup c d e)
 fz:=λ c d e=>b.fz c d (a.fz c d e)
def Rep.mono(x:Ext K ι H ι' H')(h:Rep K ι H d v):Rep K ι' H' d v:=by
 refine Rep.rec (motive_1:=λ d v _=>Rep K ι' H' d v) (motive_2:=λ ds vs _=>aB K ι' H' ds vs) .non .bl .int .str ?_ ?_ ?_ .nil ?_ h
 ·intro _ _ _ a _ b;exact .tup (x.tup _ _ a) b
 ·intro _ _ _ a _ b;exact .fl (x.fz _ _ a) b
 ·intro _ _ e;exact .ob (x.pre _ _ e)
 ·intro _ _ _ _ _ _ r t;exact .cons r t
def aB.mono(x:Ext K ι H ι' H'):∀{ds:List D} {vs:List V},aB K ι H ds vs->aB K ι' H' ds vs:=by
 intro ds;induction ds with
 |nil=>intro vs r;cases r;exact .nil
 |cons d ds a=>intro vs r;cases r with|cons r t=>exact .cons (r.mono x) (a t)
def aB.length:∀{ds:List D} {vs:List V},aB K ι H ds vs->ds.length=vs.length:=by
 intro ds;induction ds with
 |nil=>intro vs r;cases r;rfl
 |cons d ds a=>intro vs r;cases r with|cons _ t=>rw[zj,zj,a t]
def Rep.iI(r:Rep K ι H (.int i) v):v=.int i:=by cases r;rfl
def Rep.iS(r:Rep K ι H (.str x) v):v=.str x:=by cases r;rfl
inductive RT (K:Q_) (ι:List uc) (H:Hp) (ds:List D):V->Prop
 |mk {a:uc} {vs:List V} (t:H a=some (.tup vs)) (q:aB K ι H ds vs):RT K ι H ds (.ref a)
def Rep.iT(r:Rep K ι H (.tup ds) v):RT K ι H ds v:=by cases r with|tup t q=>exact⟨t,q⟩
inductive RF (K:Q_) (ι:List uc) (H:Hp) (ds:List D):V->Prop
 |mk {a:uc} {vs:List V} (t:By K H a vs) (q:aB K ι H ds vs):RF K ι H ds (.ref a)
def Rep.iF(r:Rep K ι H (.fl ds) v):RF K ι H ds v:=by cases r with|fl t q=>exact⟨t,q⟩
inductive RC (K:Q_) (ι:List uc) (H:Hp) (d:D) (ds:List D):List V->Prop
 |mk {v:V} {vs:List V} (r:Rep K ι H d v) (q:aB K ι H ds vs):RC K ι H d ds (v::vs)
def aB.iC(r:aB K ι H (d::ds) vs):RC K ι H d ds vs:=by cases r with|cons r q=>exact⟨r,q⟩
def aB.iN(r:aB K ι H [] vs):vs=[]:=by cases r;rfl
def aB.get:∀{ds:List D} {vs:List V} {i:Nat} {d:D},aB K ι H ds vs->ds[i]?=some d->∃v,vs[i]?=some v/\Rep K ι H d v
 |_,_,_,_,.nil,e=>by simp at e
 |_,_,0,_,.cons r _,e=>by simp at e;subst e;exact⟨_,rfl,r⟩
 |_,_,i+1,d,.cons _ t,e=>by
  let⟨v,b,a⟩:=aB.get (i:=i) (d:=d) t (by simpa using e);exact⟨v,by simpa using b,a⟩
def aB.append:∀{ds es:List D} {vs us:List V},aB K ι H ds vs->aB K ι H es us->aB K ι H (ds++es) (vs++us):=by
 intro ds;induction ds with
 |nil=>intro es vs us r s;cases r;exact s
 |cons d ds a=>intro es vs us r s;cases r with|cons r t=>exact .cons r (a t s)
def aB.take:∀{ds:List D} {vs:List V} (n:Nat),aB K ι H ds vs->aB K ι H (ds.take n) (vs.take n):=by
 intro ds;induction ds with
 |nil=>intro vs n r;cases r;cases n <;> exact .nil
 |cons d ds a=>intro vs n r;cases r with|cons r t=>cases n with|zero=>exact .nil|succ n=>exact .cons r (a n t)
def aB.drop:∀{ds:List D} {vs:List V} (n:Nat),aB K ι H ds vs->aB K ι H (ds.drop n) (vs.drop n):=by
 intro ds;induction ds with
 |nil=>intro vs n r;cases r;cases n <;> exact .nil
 |cons d ds a=>intro vs n r;cases n with|zero=>exact r|succ n=>cases r with|cons _ t=>exact a n t
def aB.set(r:Rep K ι H d v):∀{ds:List D} {vs:List V} (i:Nat),aB K ι H ds vs->aB K ι H (ds.set i d) (vs.set i v):=by
 intro ds;induction ds with
 |nil=>intro vs i q;cases q;exact .nil
 |cons d ds a=>intro vs i q;cases q with|cons q t=>cases i with|zero=>exact .cons r t|succ i=>exact .cons q (a i t)
abbrev KR(K:Q_)(ι:List uc)(H:Hp):List (Ky×D)->List (Key×V)->Prop:=Paired λ p q=>p.1=q.1/\Rep K ι H p.2 q.2
abbrev oB(K:Q_)(ι:List uc)(H:Hp):MO->Option HO->Prop
 |.lst ds,x=>∃vs,x=some (.lst vs)/\aB K ι H ds vs
 |.bC a,x=>∃ws,x=some (.dK ws)/\KR K ι H a ws
def KR.mono(x:Ext K ι H ι' H')(r:KR K ι H a b):KR K ι' H' a b:=Paired.E3 r λ _ _ z=>⟨z.1,z.2.mono x⟩
def oB.mono(x:Ext K ι H ι' H')(r:oB K ι H o h):oB K ι' H' o h:=by
 cases o with
 |lst ds=>let⟨vs,e,q⟩:=r;exact⟨vs,e,q.mono x⟩
 |bC a=>let⟨ws,e,q⟩:=r;exact⟨ws,e,q.mono x⟩
abbrev Bx(u:HO):Prop:=(∀a,u≠.tup a)/\∀o v,u≠.frz o v
def uD(vs:List V):Bx (.lst vs):=⟨λ _ z=>(nomatch z),λ _ _ z=>(nomatch z)⟩
def EX(vs:List (Key×V)):Bx (.dK vs):=⟨λ _ z=>(nomatch z),λ _ _ z=>(nomatch z)⟩
def oB.some(r:oB K ι H o h):∃u,h=.some u/\Bx u:=by
 cases o with
 |lst ds=>let⟨vs,e,q⟩:=r;exact⟨_,e,uD _⟩
 |bC a=>let⟨ws,e,q⟩:=r;exact⟨_,e,EX _⟩
structure aO (K:Q_) (ι:List uc) (M:MH) (H:Hp):Prop where
 len:ι.length=M.length
 inj:∀(i j:Nat) (a:uc),ι[i]?=some a->ι[j]?=some a->i=j
 obj:∀(i:Nat) (a:uc) (o:MO),ι[i]?=some a->M[i]?=some o->oB K ι H o (H a)
def cZ(h:H a=some (.tup xs)):eF K H a xs:=.inl (.inl h)
def Ext.new(b:H p=none):Ext K ι H (ι++[p]) (upd H p ho) where
 pre:=λ i a e=>by
  have hi:i<ι.length:=(zz.mp e).1;rw[zK hi];exact e
 tup:=λ a c h=>by rw[ar (bD h b)];exact h
 fz:=λ a c h=>by
  rcases h with ⟨o,h⟩|h
  ·exact .inl ⟨o,by rw[ar (bD h b)];exact h⟩
  ·exact .inr h
def Ext.dU(b:H p=none):Ext K ι H ι (upd H p ho) where
 pre:=λ i a e=>e
 tup:=λ a c h=>by rw[ar (bD h b)];exact h
 fz:=λ a c h=>by
  rcases h with ⟨o,h⟩|h
  ·exact .inl ⟨o,by rw[ar (bD h b)];exact h⟩
  ·exact .inr h
def Ext.write(b:H p=some u)(hu:Bx u):Ext K ι H ι (upd H p ho) where
 pre:=λ i a e=>e
 tup:=λ a c h=>by rw[ar (k8 h b λ z=>hu.1 _ z.symm)];exact h
 fz:=λ a c h=>by
  rcases h with ⟨o,h⟩|h
  ·exact .inl ⟨o,by rw[ar (k8 h b λ z=>hu.2 _ _ z.symm)];exact h⟩
  ·exact .inr h
variable {M M':MH}
def aO.tracked(S:aO K ι M H){i:Nat}{a:uc}(e:ι[i]?=some a):∃u,H a=some u/\Bx u:=by
 have hi:i<M.length:=by rw[<- S.len];exact(zz.mp e).1
 exact(S.obj i a _ e (zu hi)).some
def aO.new(S:aO K ι M H)(d:H p=none)(r:oB K (ι++[p]) (upd H p ho) o (some ho)):aO K (ι++[p]) (M++[o]) (upd H p ho) where
 len:=by rw[zx,zx,S.len];rfl
 inj:=λ i j a c b=>by
  have np:∀(k:Nat),ι[k]?=some p->False:=λ k e=>by
   let⟨u,hu,_⟩:=S.tracked e;rw[d]at hu;cases hu
  by_cases hi:i<ι.length
  ·rw[zK hi]at c
   by_cases f:j<ι.length
   ·rw[zK f]at b
    exact S.inj i j a c b
   ·rw[zA (by first|lia|omega)]at b
    have e:a=p:=by
     have:=zl b
     simpa using this
    subst e;exact(np i c).elim
  ·rw[zA (by first|lia|omega)]at c
   have e:a=p:=by
    have:=zl c
    simpa using this
   subst e;by_cases f:j<ι.length
   ·rw[zK f]at b
    exact(np j b).elim
   ·have h:=(zz.mp c).1
    rw[zA (by first|lia|omega)]at b
    have g:=(zz.mp b).1;simp at h g;first|lia|omega
 obj:=λ i a q c b=>by
  by_cases hi:i<ι.length
  ·rw[zK hi]at c
   rw[zK (by rw[<- S.len];exact hi)]at b;have z:=S.obj i a q c b;let⟨u,hu,_⟩:=S.tracked c;rw[ar (bD hu d)];exact z.mono (Ext.new d)
  ·rw[zA (by first|lia|omega)]at c
   rw[zA (by rw[<- S.len];omega)]at b;have e:a=p:=by
    have:=zl c
    simpa using this
   have l:q=o:=by
    have:=zl b
    simpa using this
   subst e l;rw[aV];exact r
def aO.dU(S:aO K ι M H)(b:H p=none):aO K ι M (upd H p ho) where
 len:=S.len
 inj:=S.inj
 obj:=λ i a o c d=>by
  let⟨u,hu,_⟩:=S.tracked c;rw[ar (bD hu b)];exact(S.obj i a o c d).mono (Ext.dU b)
def aO.put(S:aO K ι M H)(e:ι[i]?=some a)(r:oB K ι (upd H a ho) o (some ho)):aO K ι (M.set i o) (upd H a ho):=by
 let⟨u,hu,g⟩:=S.tracked e;refine⟨by rw[yq];exact S.len,S.inj,λ j b q d c=>?_⟩;by_cases f:j=i
 ·subst f
  rw[e]at d;cases d;have h:j<M.length:=by rw[<- S.len];exact(zz.mp e).1
  rw[zJ h]at c;cases c;rw[aV];exact r
 ·rw[zc (Ne.symm f)]at c
  have k:b≠a:=λ z=>by subst z;exact f (S.inj j i b d e)
  rw[ar k];exact(S.obj j b q d c).mono (Ext.write hu g)
structure bQ (K:Q_) (ι:List uc) (H:Hp) (ρ:Ev) (σ:St):Prop where
 len:ρ.length=σ.length
 val:∀(i:Nat) (d:D),ρ[i]?=some (some d)->∃v,σ[i]?=some (some v)/\Rep K ι H d v
def bQ.mono(x:Ext K ι H ι' H')(r:bQ K ι H ρ σ):bQ K ι' H' ρ σ:=⟨r.len,λ i d e=>let ⟨v,b,a⟩:=r.val i d e;⟨v,b,a.mono x⟩⟩
def bQ.set(r:bQ K ι H ρ σ)(q:Rep K ι H d v)(i:Nat):bQ K ι H (ρ.set i (some d)) (σ.set i (some v)) where
 len:=by rw[yq,yq];exact r.len
 val:=λ j c e=>by
  by_cases a:j=i
  ·subst a
   by_cases b:j<ρ.length
   ·rw[zJ b]at e
    cases e;exact⟨v,by rw[zJ (by rw[<- r.len];exact b)],q⟩
   ·rw[xy (by rw[yq];omega)]at e;cases e
  ·rw[zc (Ne.symm a)]at e
   let⟨u,g,f⟩:=r.val j c e;exact⟨u,by rw[zc (Ne.symm a)];exact g,f⟩
def bQ.comp(r:bQ K ι H ρ σ)(q:Rep K ι H d v)(j:Nat):bQ K ι H (some d::ρ.set j none) (some v::σ) where
 len:=by rw[zj,zj,yq,r.len]
 val:=λ i c e=>by
  cases i with
  |zero=>simp at e;subst e;exact⟨v,rfl,q⟩
  |succ i =>
   rw[xX]at e;by_cases a:i=j
   ·subst a
    by_cases b:i<ρ.length
    ·rw[zJ b]at e;cases e
    ·rw[xy (by rw[yq];omega)]at e;cases e
   ·rw[zc (Ne.symm a)]at e
    let⟨u,g,f⟩:=r.val i c e;exact⟨u,by rw[xX];exact g,f⟩
end
noncomputable abbrev DE:=Ev->Mo D
inductive LE (K:Q_) (f:DE) (σ:St) (H:Hp) (Q:VK):Prop
 |mk (ι:List uc) (ρ:Ev) (M:MH) (d:D) (M':MH) (S0:aO K ι M H) (R0:bQ K ι H ρ σ) (e:f ρ M=some (.ok d,M')) (k:∀v H' ι',Rep K ι' H' d v->aO K ι' M' H'->Ext K ι H ι' H'->Q v H')
inductive LT (K:Q_) (f:Ev->Mo Bool) (σ:St) (H:Hp) (Q:Bool->Hp->Prop):Prop
 |mk (ι:List uc) (ρ:Ev) (M:MH) (b:Bool) (M':MH) (S0:aO K ι M H) (R0:bQ K ι H ρ σ) (e:f ρ M=some (.ok b,M')) (k:∀H' ι',aO K ι' M' H'->Ext K ι H ι' H'->Q b H')
inductive LA (K:Q_) (f:Ev->Mo (List D)) (σ:St) (H:Hp) (Q:List V->Hp->Prop):Prop
 |mk (ι:List uc) (ρ:Ev) (M:MH) (ds:List D) (M':MH) (S0:aO K ι M H) (R0:bQ K ι H ρ σ) (e:f ρ M=some (.ok ds,M')) (k:∀vs H' ι',aB K ι' H' ds vs->aO K ι' M' H'->Ext K ι H ι' H'->Q vs H')
inductive LO (K:Q_) (f:Ev->Mo (Option Int)) (σ:St) (H:Hp) (Q:Option Int->Hp->Prop):Prop
 |mk (ι:List uc) (ρ:Ev) (M:MH) (o:Option Int) (M':MH) (S0:aO K ι M H) (R0:bQ K ι H ρ σ) (e:f ρ M=some (.ok o,M')) (k:∀H' ι',aO K ι' M' H'->Ext K ι H ι' H'->Q o H')
abbrev Vp(K:Q_)(D:Ends)(ι:List uc)(H:Hp):Fl->Prop
 |.nx ρ=>∀σ,bQ K ι H ρ σ->D.nx σ H
 |.rt d=>∀v,Rep K ι H d v->D.rt v H
 |.bk ρ=>∀σ,bQ K ι H ρ σ->D.bk σ H
 |.ct ρ=>∀σ,bQ K ι H ρ σ->D.ct σ H
inductive LS (K:Q_) (f:Ev->Mo Fl) (D:Ends) (σ:St) (H:Hp):Prop
 |mk (ι:List uc) (ρ:Ev) (M:MH) (fl:Fl) (M':MH) (S0:aO K ι M H) (R0:bQ K ι H ρ σ) (e:f ρ M=some (.ok fl,M')) (k:∀H' ι',aO K ι' M' H'->Ext K ι H ι' H'->Vp K D ι' H' fl)
def PE.imp(h:PE X e t)(k:∀σ H Q,t' σ H Q->t σ H Q):PE X e t':=λ a s σ H Q I q=>h a s σ H Q I (k σ H Q q)
def PT.imp(h:PT X e t)(k:∀σ H Q,t' σ H Q->t σ H Q):PT X e t':=λ a s σ H Q I q=>h a s σ H Q I (k σ H Q q)
def mw.imp(h:mw X e t)(k:∀σ H Q,t' σ H Q->t σ H Q):mw X e t':=λ a s σ H Q I q=>h a s σ H Q I (k σ H Q q)
def PA.imp(h:PA X e t)(k:∀σ H Q,t' σ H Q->t σ H Q):PA X e t':=λ a b s σ H Q I q=>h a b s σ H Q I (k σ H Q q)
def PO.imp(h:PO X e t)(k:∀σ H Q,t' σ H Q->t σ H Q):PO X e t':=λ a s σ H Q I q=>h a s σ H Q I (k σ H Q q)
def PS.imp(h:PS X e t)(k:∀D σ H,t' D σ H->t D σ H):PS X e t':=λ a s σ H D I q=>h a s σ H D I (k D σ H q)
def cG.imp(h:cG X e t)(k:∀D σ H,t' D σ H->t D σ H):cG X e t':=λ a s σ H D I q=>h a s σ H D I (k D σ H q)
abbrev Vg(K:Q_)(r:R2)(g:D->D->Mo D):Prop:=∀(ι:List uc) (M f:MH) (H:Hp) (x y d:D) (e c:V) (Q:VK),aO K ι M H->Rep K ι H x e->Rep K ι H y c->g x y M=some (.ok d,f) ->
 (∀v b a,Rep K a b d v->aO K a f b->Ext K ι H a b->Q v b)->r e c H Q
section
variable {K:Q_}
def LE.bin(ho:Vg K r g)(σ:St)(H:Hp)(Q:VK)(h:LE K (λ ρ=>do let x<-i ρ;let y<-f ρ;g x y) σ H Q):Gu r (LE K i) (LE K f) σ H Q:=by
 obtain⟨ι,ρ,M,d,C,S,R,e,k⟩:=h;let⟨x,n,e1,e⟩:=aa e;let⟨y,m,u,e⟩:=aa e;refine⟨ι,ρ,M,x,n,S,R,e1,λ p G b s A l=>?_⟩;refine⟨b,ρ,n,y,m,A,R.mono l,u,λ o E a q z j=>?_⟩;exact ho a m C E x y d p o Q z (s.mono j) q e λ v F c t B w=>k v F c t B ((l.trans j).trans w)
end
def aR{p:Prop}[Decidable p](h:need p M=some (.ok u,M')):p/\M'=M:=by
 unfold need at h;split at h
 ·rename_i a
  cases h;exact⟨a,rfl⟩
 ·cases h
def bh{α:Type}{o:Option α}{a:α}{M M':MH}(h:lift o M=some (.ok a,M')):o=some a/\M'=M:=by
 cases o with
 |none=>cases h
 |some b=>cases h;exact⟨rfl,rfl⟩
def af{α:Type}{a b:α}{M M':MH}(h:(pure a:Mo α) M=some (.ok b,M')):b=a/\M'=M:=by
 cases h;exact⟨rfl,rfl⟩
def kl(h:getM i M=some (.ok o,M')):M[i]?=some o/\M'=M:=by
 unfold getM at h;split at h
 ·rename_i e;cases h;exact⟨e,rfl⟩
 ·cases h
def cH(h:getL i M=some (.ok ds,M')):M[i]?=some (.lst ds)/\M'=M:=by
 unfold getL at h;split at h
 ·rename_i e;cases h;exact⟨e,rfl⟩
 ·cases h
def sL(h:getD i M=some (.ok ds,M')):M[i]?=some (.bC ds)/\M'=M:=by
 unfold getD at h;split at h
 ·rename_i e;cases h;exact⟨e,rfl⟩
 ·cases h
def oQ(h:cv o M=some (.ok d,M')):d=.ob M.length/\M'=M++[o]:=by
 cases h;exact⟨rfl,rfl⟩
def oJ(h:e9 i o M=some (.ok u,M')):i<M.length/\M'=M.set i o:=by
 unfold e9 at h;split at h
 ·rename_i e;cases h;exact⟨e,rfl⟩
 ·cases h
def ai{α:Type}{a:α}{M':MH}(h:(none:Option (Out α×MH))=some (.ok a,M')):False:=by cases h
section
variable {K:Q_}{ι:List uc}{M:MH}{H:Hp}
end
abbrev strOf:jp->Str
 |.str y _=>y
 |_=>""
def PV(t:SetTable)(n:Nat):(t.orStandIn n).led=t.led:=by
 unfold SetTable.orStandIn;split <;> rfl
def NY(t:SetTable)(es:Array (Int×jp))(h:Int)(x:jp):(layNew t es h x).2.1.led=t.led:=by
 unfold layNew;split
 ·exact PV _ _
 ·rfl
def GO(t:SetTable)(es:Array (Int×jp))(n:Nat):(relayAll t es n).2.1.led=t.led/\(t.plain=false->(relayAll t es n).2.1.plain=false):=by
 unfold relayAll;split
 ·rename_i a order e
  have z:a.led=t.led/\a.plain=t.plain:=by
   unfold SetTable.relaid SetTable.laid at e;cases hl:SetTable.layClean (SetTable.sizeAbove n-1) (es.map (·.1)) with
   |none=>rw[hl]at e;cases e
   |some b=>rw[hl]at e;cases e;exact⟨rfl,rfl⟩
  dsimp only;split
  ·exact⟨z.1,λ q=>z.2.trans q⟩
  ·exact⟨rfl,λ _=>rfl⟩
 ·exact⟨rfl,λ _=>rfl⟩
section
variable {prog:uf}{w:ul}{A:ut}{E:jp->kt->Prop}{s:kt}
abbrev SSet(prog:uf)(w:ul)(h:Heap)(a:uc)(xs:List Str)(led:Bool):Prop :=
 ∃o b c t,h.get? a=some o/\o.ExactSet/\o.data=.set b c t/\ElemsOf (aN prog w) b.toList/\(∀e∈b.toList,∃y u,e.2=.str y u)/\(b.toList.map λ e=>strOf e.2).Perm xs/\b.size<scanBound/\t.fits b.size=true/\t.led=led/\(t.plain=false\/b.size=0)
def SSet.at(x:SSet prog w h a xs led)(k:∀o,h.get? a=some o->h'.get? a=some o):SSet prog w h' a xs led :=
 let ⟨o,b,c,t,e,r⟩:=x;⟨o,b,c,t,k o e,r⟩
def vR(hS:SSet prog w s.heap a xs led)(hr:xs.length+1<scanBound)
  (q:∀r h',Heap.SameBut a s.heap h'->SSet prog w h' a (cR xs x) led->Q r { s with heap:=h' }):wpAny (model prog w) A (setAddHashed a (.str x u) ((aN prog w).hash (.inr x))) Q E s:=by
 let⟨o,d,P,t,C,O,n,H,i,B,Y,N,M,ik⟩:=hS;have p:(aN prog w).is (.inr x) (.str x u)=true:=eO prog w x u;have hn:d.size=xs.length:=by rw[<- B.length_eq,zy,yj]
 have Us:∀e∈d.toList,(aN prog w).is (.inr x) e.2=decide (x=strOf e.2):=λ e he=>by
  let⟨y,v,ey⟩:=i e he;rw[ey,KeyKind.is_eq_decide (eO prog w y v) (.inr x)];show decide ((Sum.inr x:Key)=.inr y)=decide (x=y);by_cases z:x=y
  ·rw[zzB z,zzB (by rw[z])]
  ·rw[zzA z,zzA λ z'=>z (by injection z')]
 unfold setAddHashed setAddHashedIn;refine wpAny_holding (zw (wpAny_setState_of C n N ?_));dsimp only;rw[byScan_of (show (Value.str x u).scannable=true from rfl) Y H];simp only[↓reduceIte];unfold setAddByScan;refine zw (zw (wpAny_rule (zw (wpAny_setScan_of p C n N H ?_))));cases hi:List.findIdx? (λ e=>(aN prog w).is (.inr x) e.2) d.toList with
 |some j =>
  dsimp only;let⟨hj,Uz,_⟩:=xj.mp hi;have X:=yE hj;rw[Us _ X]at Uz;have hx:x∈xs:=B.mem_iff.mp (yl.mpr ⟨_,X,(zzD Uz).symm⟩);refine zo (zo ?_)
  have:=q false s.heap (Heap.SameBut.refl a s.heap) (by unfold cR;rw[if_pos hx];exact⟨o,d,P,t,C,O,n,H,i,B,Y,N,M,ik⟩)
  exact this
 |none =>
  dsimp only;have hx:¬ x∈xs:=λ z=>by
   let⟨e,he,ez⟩:=yl.mp (B.mem_iff.mpr z)
   have:=List.findIdx?_eq_none_iff.mp hi e he
   rw[Us e he,ez,zzB rfl]at this;cases this
  have m:=layNew_perm t d ((aN prog w).hash (.inr x)) (.str x u);have F:=layNew_fits t d ((aN prog w).hash (.inr x)) (.str x u);have I:=NY t d ((aN prog w).hash (.inr x)) (.str x u);generalize layNew t d ((aN prog w).hash (.inr x)) (.str x u)=L at m F I ⊢;let⟨e1,V,dm,gv⟩:=L;dsimp only at m F I ⊢;rw[wW]at m;have U7:ElemsOf (aN prog w) e1.toList:=(H.push p rfl).perm m;have Ub:∀e∈e1.toList,∃y u,e.2=.str y u:=λ e he=>by
   rcases zQ.mp (m.mem_iff.mp he) with he|he
   ·exact i e he
   ·rw[zB.mp he];exact⟨x,u,rfl⟩
  have K:(e1.toList.map λ e=>strOf e.2).Perm (xs++[x]):=by
   refine(m.map _).trans ?_;rw[zf];exact B.append_right _
  have z1:e1.size=xs.length+1:=by rw[<- yj,<- zy (f:=λ e:Int×jp=>strOf e.2),K.length_eq,zx];rfl
  have S:e1.size<scanBound:=by rw[z1];exact hr
  have Z:∀(b:Bool) {s1:kt} {U:Unit->kt->Prop},U () s1->wpAny (model prog w) A (match b with|true=>rule "set.scan.the-table-gave-way" |false=>pure ()) U E s1:=λ b s1 U h=>by
   cases b
   ·exact zo h
   ·exact wpAny_rule h
  refine zw (Z _ ?_);have D:∀c:SetTable,c.fits e1.size=true->c.led=led->c.plain=false->∀{R:Option Bool->kt->Prop},(∀h',Heap.SameBut a s.heap h'->SSet prog w h' a (cR xs x) led->R (some true) { s with heap:=h' }) ->
    wpAny (model prog w) A (do
     storeSet a e1 c
     if (!dm&&c.tooFull)=true then do
      (match (relayAll c e1 (SetTable.grown e1.size)).2.2 with|true=>rule "set.scan.the-table-gave-way" |false=>pure ())
      storeSet a (relayAll c e1 (SetTable.grown e1.size)).1 (relayAll c e1 (SetTable.grown e1.size)).2.1
      pure (some true)
     else pure (some true)) R E s:=λ c f2 W Ug {R} h=>by
   refine zw (wpAny_storeSet_of C n ?_ (fits_of_scanBound S));have T:(s.heap.update a (Obj.putSet e1 c)).get? a=some { o with data:=.set e1 (P+1) c }:=by
    have:=yu (Obj.putSet e1 c) C (by rw[putSet_of e1 c n];rfl)
    rw[putSet_of e1 c n]at this;exact this
   have Rb:cR xs x=xs++[x]:=if_neg hx;split
   ·have l:=relayAll_perm c e1 (SetTable.grown e1.size)
    have rf:=relayAll_fits c e1 (SetTable.grown e1.size);have G:=GO c e1 (SetTable.grown e1.size);generalize relayAll c e1 (SetTable.grown e1.size)=Rl at l rf G ⊢;let⟨g,k,g3⟩:=Rl;dsimp only at l rf G ⊢;have z2:g.size=e1.size:=by rw[<- yj,l.length_eq,yj]
    have b2:g.size<scanBound:=by rw[z2];exact S
    refine zw (Z _ (zw (wpAny_storeSet_of T rfl ?_ (fits_of_scanBound b2))));have q9:((s.heap.update a (Obj.putSet e1 c)).update a (Obj.putSet g k)).get? a=some { o with data:=.set g (P+1+1) k }:=by
     have:=yu (Obj.putSet g k) T (by rw[putSet_of g k rfl];rfl)
     rw[putSet_of g k rfl]at this;exact this
    exact zo (h _ ((Heap.SameBut.update ..).trans (Heap.SameBut.update ..)) ⟨_,g,_,k,q9,O,rfl,U7.perm l,λ e he=>Ub e (l.mem_iff.mp he),by rw[Rb];exact(l.map _).trans K,b2,rf,G.1.trans W,.inl (G.2 Ug)⟩)
   ·exact zo (h _ (Heap.SameBut.update ..) ⟨_,e1,_,c,T,O,rfl,U7,Ub,by rw[Rb];exact K,S,f2,W,.inl Ug⟩)
  split
  ·refine zw ?_
   rw[hashByValue_scannable 8 (show (Value.str x u).scannable=true from rfl)];refine zo ?_;simp only[plainKind,zY,↓reduceIte];exact D { V with plain:=false } (SetTable.fits_plain_off F) (I.trans M) rfl λ h' J z=>zo (q true h' J z)
  ·rename_i Y3
   refine zw (zo ?_);simp only[↓reduceIte];exact D V F (I.trans M) (by simpa using Y3) λ h' J z=>zo (q true h' J z)
def ng:∀(ys xs:List Str),xs.length<=(au xs ys).length
 |[],_=>zq _
 |y::ys,xs=>by
  refine zG ?_ (ng ys (cR xs y));unfold cR;split
  ·exact zq _
  ·rw[zx];exact vt _ _
def vZ{led:Bool}{R:Result->kt->Prop}{s₀:kt}{S it a:uc}{items:List jp}(H:A.handled=none)(y:s₀.heap.IsList a items.toArray)(j:S≠it)(t:a≠S)(q:a≠it) :
  ∀(us:List jp) (ys xs:List Str) (i:Nat) (s:kt),items.drop i=us->StrsAre us ys->s.heap.IsListIter it a i->SSet prog w s.heap S xs led->(au xs ys).length+1<scanBound ->
   s.gens=s₀.gens->s.drawn=s₀.drawn->s.os=s₀.os->(∀b o,b≠S->b≠it->s₀.heap.get? b=some o->s.heap.get? b=some o) ->
   (∀h' J,SSet prog w h' S (au xs ys) led->(∀b o,b≠S->b≠it->s₀.heap.get? b=some o->h'.get? b=some o)->R (.ok (.ret .none)) { s₀ with heap:=h',toks:=J }) ->
   codeAny (model prog w) A (.builtin "set.update.loop" ⟨[.ref S,.ref it],[]⟩) R s
 |[],_,xs,i,s,p,c,hi,z,G,e1,C,B,h,f=>by
  cases c;refine codeAny_builtin PyProof.Rows.F.entry_set_update_loop ?_;unfold Builtin.«set.update.loop»;have d:s.heap.IsList a items.toArray:=y.at λ o e=>h a o t q e;refine zw (wpAny_pyNext_list_end H hi d (by simpa using p) λ h' I=>?_);refine zo ?_
  have:=f h' s.toks (z.at λ o e=>I S o j e) λ b o m g e=>I b o g (h b o m g e)
  rw[<- e1,<- C,<- B]at this;exact this
 |_::us,_,xs,i,s,p,c,hi,z,G,e1,C,B,h,f=>by
  cases c with|@cons x u _ ys M =>
  refine codeAny_builtin PyProof.Rows.F.entry_set_update_loop ?_;unfold Builtin.«set.update.loop»;have d:s.heap.IsList a items.toArray:=y.at λ o e=>h a o t q e;have K:items[i]?=some (.str x u):=by
   have:=congrArg (λ l=>l[0]?) p
   simpa using this
  refine zw (wpAny_pyNext_list_item hi d (by simpa using K) λ h' v D=>?_);have N:SSet prog w h' S xs led:=z.at λ o e=>(D.2 S j).trans e;have L:=ng (x::ys) xs;show wpAny _ _ (holding [Value.str x u] (setAdd S (.str x u)) >>= _) _ _ _;refine zw (wpAny_holding ?_);unfold setAdd;refine wpAny_holding (zw ((aN prog w).pyHash (k:=.inr x) (eO prog w x u) ?_));refine vR (s:={ s with heap:=h',toks:=s.toks+1 }) N (by omega) λ r h2 n O=>?_;have n:Heap.SameBut S h' h2:=n;refine zo ⟨Code.quiet_builtin _ (by decide +kernel),?_⟩;refine vZ H y j t q us ys (cR xs x) (i+1) _ ?_ M ?_ O ?_ e1 C B (λ b o m g e=>?_) f
  ·rw[<- vc,p];rfl
  ·exact v.extBut n.extBut (Ne.symm j)
  ·exact G
  ·exact(n.2 b m).trans ((D.2 b g).trans (h b o m g e))
def tG{led:Bool}{R:Result->kt->Prop}{s₀:kt}{S it a:uc}{items:List jp}(I:A.handled=none)(y:s₀.heap.IsTuple a items.toArray)(j:S≠it)(t:a≠S)(q:a≠it) :
  ∀(us:List jp) (ys xs:List Str) (i:Nat) (s:kt),items.drop i=us->StrsAre us ys->s.heap.IsTupleIter it a i->SSet prog w s.heap S xs led->(au xs ys).length+1<scanBound ->
   s.gens=s₀.gens->s.drawn=s₀.drawn->s.os=s₀.os->(∀b o,b≠S->b≠it->s₀.heap.get? b=some o->s.heap.get? b=some o) ->
   (∀h' K,SSet prog w h' S (au xs ys) led->(∀b o,b≠S->b≠it->s₀.heap.get? b=some o->h'.get? b=some o)->R (.ok (.ret .none)) { s₀ with heap:=h',toks:=K }) ->
   codeAny (model prog w) A (.builtin "set.update.loop" ⟨[.ref S,.ref it],[]⟩) R s
 |[],_,xs,i,s,p,c,hi,B,H,e1,D,C,h,f=>by
  cases c;refine codeAny_builtin PyProof.Rows.F.entry_set_update_loop ?_;unfold Builtin.«set.update.loop»;have d:s.heap.IsTuple a items.toArray:=(let ⟨o,z,r⟩:=y;⟨o,h a o t q z,r⟩);refine zw (wpAny_pyNext_tuple_end I hi d (by simpa using p) λ h' J=>?_);refine zo ?_
  have:=f h' s.toks (B.at λ o e=>J S o j e) λ b o m g e=>J b o g (h b o m g e)
  rw[<- e1,<- D,<- C]at this;exact this
 |_::us,_,xs,i,s,p,c,hi,B,H,e1,D,C,h,f=>by
  cases c with|@cons x u _ ys N =>
  refine codeAny_builtin PyProof.Rows.F.entry_set_update_loop ?_;unfold Builtin.«set.update.loop»;have d:s.heap.IsTuple a items.toArray:=(let ⟨o,z,r⟩:=y;⟨o,h a o t q z,r⟩);have L:items[i]?=some (.str x u):=by
   have:=congrArg (λ l=>l[0]?) p
   simpa using this
  refine zw (wpAny_pyNext_tuple_item hi d (by simpa using L) λ h' v G=>?_);have O:SSet prog w h' S xs led:=B.at λ o e=>(G.2 S j).trans e;have M:=ng (x::ys) xs;show wpAny _ _ (holding [Value.str x u] (setAdd S (.str x u)) >>= _) _ _ _;refine zw (wpAny_holding ?_);unfold setAdd;refine wpAny_holding (zw ((aN prog w).pyHash (k:=.inr x) (eO prog w x u) ?_));refine vR (s:={ s with heap:=h',toks:=s.toks+1 }) O (by omega) λ r h2 n P=>?_;have n:Heap.SameBut S h' h2:=n;refine zo ⟨Code.quiet_builtin _ (by decide +kernel),?_⟩;refine tG I y j t q us ys (cR xs x) (i+1) _ ?_ N ?_ P ?_ e1 D C (λ b o m g e=>?_) f
  ·rw[<- vc,p];rfl
  ·exact v.extBut n.extBut (Ne.symm j)
  ·exact H
  ·exact(n.2 b m).trans ((G.2 b g).trans (h b o m g e))
abbrev aZ(w:ul):Bool:=!(w.params.followText "set-order")
def CU(a:jp)(q:Q₁ (.ref s.heap.objs.size) { s with heap:=s.heap.push { cls:=.type "set",dict:=none,data:=.set #[] 0 (.fresh 0 0 (aZ w)) } }) :
  codeAny (model prog w) A (.call (.builtin "set.__new__") ⟨[.type "set",a],[]⟩) (wants Q₁ E) s:=by
 refine codeAny_of_tree ?_;show wpAny _ A.in1 (do checkBuiltinCall "set.__new__" ⟨[.type "set",a],[]⟩;again (.builtin "set.__new__" ⟨[.type "set",a],[]⟩)) _ _ s;refine zw (wpAny_of_eq (PySem.F.newCall_set_1 a) (zo ⟨plainId_quiet PySem.F.plain_set_new _,codeAny_builtin PySem.F.entry_set_new ?_⟩));rw[Around.under_plainId PySem.F.plain_set_new _];unfold Builtin.«set.__new__» Builtin.Frozenset.newClass;have b:=sub_set_self;let⟨e,g,d,c,os⟩:=s;dsimp only;wp_walk;refine wpAny_askSetting (zo ?_);dsimp only;rwa[newObj];exact zw (wpAny_alloc (zo (zo q)))
set_option maxRecDepth 100000 in
def ux(H:A.handled=none)(G:s.heap.IsList l items.toArray)(hi:StrsAre items ys)(k:(au [] ys).length+1<scanBound)
  (q:∀(h':Heap) (h:Nat),SSet prog w h' s.heap.objs.size (au [] ys) (aZ w)->(∀b o,s.heap.get? b=some o->h'.get? b=some o)->Q (.ref s.heap.objs.size) { s with heap:=h',toks:=h }) :
  wpAny (model prog w) A (call (.type "set") [.ref l]) Q E s:=by
 let⟨c,tl,Fo⟩:=PySem.F.called_set.mro;have Z:=PySem.F.called_set.made;have Y:=PySem.F.called_set.sub;refine wpAny_call (codeAny_of_tree ?_);show wpAny _ _ (callAny (.type "set") _) _ _ _;refine zo ⟨Code.quiet_builtin _ (by decide +kernel),codeAny_builtin PySem.F.entry_type_call ?_⟩;rw[Around.under_plain (weight_type_call_type "set" [.ref l] []) rfl];have O:=PySem.F.called_set.notType;have N:=PySem.F.called_set.canCreate;have W:=PySem.F.typeCall_set_1 (.ref l)
 repeat (any_goals (first|assumption|wp_step))
 refine codeAny_mono (CU (.ref l) (E:=E) (Q₁:=λ obj f=>obj=.ref s.heap.objs.size/\f={ s with heap:=s.heap.push { cls:=.type "set",dict:=none,data:=.set #[] 0 (.fresh 0 0 (aZ w)) } }) ⟨rfl,rfl⟩) λ r f n=>?_;cases r with
 |error e=>exact n
 |ok fl =>
  cases fl with
  |ret obj =>
   let⟨rfl,rfl⟩:=n;have v:(s.heap.push { cls:=.type "set",dict:=none,data:=.set #[] 0 (.fresh 0 0 (aZ w)) }).get? s.heap.objs.size=some { cls:=.type "set",dict:=none,data:=.set #[] 0 (.fresh 0 0 (aZ w)) }:=zC _ rfl;have ty:Shared.TypeIs { s with heap:=s.heap.push { cls:=.type "set",dict:=none,data:=.set #[] 0 (.fresh 0 0 (aZ w)) } } (.ref s.heap.objs.size) "set":=⟨_,v,rfl⟩;have X:=PySem.F.called_set.init.lookup;have V:=PySem.F.called_set.init.bind (.ref s.heap.objs.size)
   repeat (any_goals (first|assumption|wp_step))
   refine codeAny_mono (codeAny_call_builtin (R:=wants (λ r d=>r=.none/\∃h' h,d={ s with heap:=h',toks:=h }/\SSet prog w h' s.heap.objs.size (au [] ys) (aZ w)/\(∀b o,s.heap.get? b=some o->h'.get? b=some o)) E) PySem.F.called_set.init.plain PySem.F.entry_set_init (check_set_init_1 ty ?_)) λ i d m=>?_
   ·let⟨B,x,y,u,z⟩:=id G
    let⟨M,C,Qg,I⟩:=B;simp only at y z;subst y z;have j:(s.heap.push { cls:=.type "set",dict:=none,data:=.set #[] 0 (.fresh 0 0 (aZ w)) }).get? l=some { cls:=.type "list",dict:=C,data:=.seq items.toArray u,slots:=I }:=zv _ x;have U:=PySem.F.sub_list_set;have T:=PySem.F.sub_list_frozenset;have P:(Value.type "list"==Value.type "dict")=false:=by decide
    have t:(s.heap.push { cls:=.type "set",dict:=none,data:=.set #[] 0 (.fresh 0 0 (aZ w)) }).IsList l items.toArray:=⟨_,j,rfl,u,rfl⟩;unfold Builtin.«set.__init__» noKeywords Builtin.Frozenset.updateFrom;generalize K:pyIter=PI;wp_walk;subst K;refine wpAny_pyIter_list t ?_;refine zw (wpAny_runValue ?_);have lt:l<s.heap.objs.size:=zg x;have sz:(s.heap.push { cls:=.type "set",dict:=none,data:=.set #[] 0 (.fresh 0 0 (aZ w)) }).objs.size=s.heap.objs.size+1:=xM ..;have J:SSet prog w ((s.heap.push { cls:=.type "set",dict:=none,data:=.set #[] 0 (.fresh 0 0 (aZ w)) }).push { cls:=.type "list_iterator",data:=.fields #[.ref l,.int 0 0] }) s.heap.objs.size [] (aZ w) :=
     ⟨_,#[],0,_,zv _ v,⟨rfl,rfl,rfl⟩,rfl,(λ e he=>by simp at he),(λ e he=>by simp at he),.nil,(by unfold scanBound;decide),rfl,rfl,.inr rfl⟩
    refine vZ (led:=aZ w) (s₀:={ s with heap:=(s.heap.push { cls:=.type "set",dict:=none,data:=.set #[] 0 (.fresh 0 0 (aZ w)) }).push { cls:=.type "list_iterator",data:=.fields #[.ref l,.int 0 0] } }) (S:=s.heap.objs.size) (it:=(s.heap.push { cls:=.type "set",dict:=none,data:=.set #[] 0 (.fresh 0 0 (aZ w)) }).objs.size) (a:=l) (items:=items) (by simp[H]) (t.push _) (by rw[sz];exact zF (ye _)) (zF lt) (by rw[sz];exact zF (xx lt)) items ys [] 0 _ rfl hi ⟨_,zC _ rfl,rfl,rfl⟩ J k rfl rfl rfl (λ b o _ _ e=>e) λ h' h g D=>?_;show wpAny _ _ _ _ _ _;refine zo ?_;show wpAny _ _ (ret Value.none) _ _ _;refine zo ⟨rfl,h',h,rfl,g,λ b o e=>?_⟩;have k:=zg e;exact D b o (zF k) (by rw[sz];exact zF (xx k)) (zv _ (zv _ e))
   ·cases i with
    |error e=>exact m
    |ok L =>
     cases L with
     |ret r =>
      let⟨rfl,h',h,rfl,g,p⟩:=m
      repeat (any_goals (first|assumption|wp_step))
      exact q _ _ g p
     |_=>exact m
  |_=>exact n
set_option maxRecDepth 100000 in
def sW(H:A.handled=none)(G:s.heap.IsTuple l items.toArray)(hi:StrsAre items ys)(k:(au [] ys).length+1<scanBound)
  (q:∀(h':Heap) (h:Nat),SSet prog w h' s.heap.objs.size (au [] ys) (aZ w)->(∀b o,s.heap.get? b=some o->h'.get? b=some o)->Q (.ref s.heap.objs.size) { s with heap:=h',toks:=h }) :
  wpAny (model prog w) A (call (.type "set") [.ref l]) Q E s:=by
 let⟨c,tl,Fo⟩:=PySem.F.called_set.mro;have Z:=PySem.F.called_set.made;have Y:=PySem.F.called_set.sub;refine wpAny_call (codeAny_of_tree ?_);show wpAny _ _ (callAny (.type "set") _) _ _ _;refine zo ⟨Code.quiet_builtin _ (by decide +kernel),codeAny_builtin PySem.F.entry_type_call ?_⟩;rw[Around.under_plain (weight_type_call_type "set" [.ref l] []) rfl];have O:=PySem.F.called_set.notType;have N:=PySem.F.called_set.canCreate;have W:=PySem.F.typeCall_set_1 (.ref l)
 repeat (any_goals (first|assumption|wp_step))
 refine codeAny_mono (CU (.ref l) (E:=E) (Q₁:=λ obj f=>obj=.ref s.heap.objs.size/\f={ s with heap:=s.heap.push { cls:=.type "set",dict:=none,data:=.set #[] 0 (.fresh 0 0 (aZ w)) } }) ⟨rfl,rfl⟩) λ r f n=>?_;cases r with
 |error e=>exact n
 |ok fl =>
  cases fl with
  |ret obj =>
   let⟨rfl,rfl⟩:=n;have v:(s.heap.push { cls:=.type "set",dict:=none,data:=.set #[] 0 (.fresh 0 0 (aZ w)) }).get? s.heap.objs.size=some { cls:=.type "set",dict:=none,data:=.set #[] 0 (.fresh 0 0 (aZ w)) }:=zC _ rfl;have ty:Shared.TypeIs { s with heap:=s.heap.push { cls:=.type "set",dict:=none,data:=.set #[] 0 (.fresh 0 0 (aZ w)) } } (.ref s.heap.objs.size) "set":=⟨_,v,rfl⟩;have X:=PySem.F.called_set.init.lookup;have V:=PySem.F.called_set.init.bind (.ref s.heap.objs.size)
   repeat (any_goals (first|assumption|wp_step))
   refine codeAny_mono (codeAny_call_builtin (R:=wants (λ r d=>r=.none/\∃h' h,d={ s with heap:=h',toks:=h }/\SSet prog w h' s.heap.objs.size (au [] ys) (aZ w)/\(∀b o,s.heap.get? b=some o->h'.get? b=some o)) E) PySem.F.called_set.init.plain PySem.F.entry_set_init (check_set_init_1 ty ?_)) λ i d m=>?_
   ·let⟨B,x,y,u,z⟩:=id G
    let⟨M,C,Qg,I⟩:=B;simp only at y z;subst y z;have j:(s.heap.push { cls:=.type "set",dict:=none,data:=.set #[] 0 (.fresh 0 0 (aZ w)) }).get? l=some { cls:=.type "tuple",dict:=C,data:=.seq items.toArray u,slots:=I }:=zv _ x;have U:=PySem.F.sub_tuple_set;have T:=PySem.F.sub_tuple_frozenset;have P:(Value.type "tuple"==Value.type "dict")=false:=by decide
    have t:(s.heap.push { cls:=.type "set",dict:=none,data:=.set #[] 0 (.fresh 0 0 (aZ w)) }).IsTuple l items.toArray:=⟨_,j,rfl,u,rfl⟩;unfold Builtin.«set.__init__» noKeywords Builtin.Frozenset.updateFrom;generalize K:pyIter=PI;wp_walk;subst K;refine wpAny_pyIter_tuple t ?_;refine zw (wpAny_runValue ?_);have lt:l<s.heap.objs.size:=zg x;have sz:(s.heap.push { cls:=.type "set",dict:=none,data:=.set #[] 0 (.fresh 0 0 (aZ w)) }).objs.size=s.heap.objs.size+1:=xM ..;have J:SSet prog w ((s.heap.push { cls:=.type "set",dict:=none,data:=.set #[] 0 (.fresh 0 0 (aZ w)) }).push { cls:=.type "tuple_iterator",data:=.fields #[.ref l,.int 0 0] }) s.heap.objs.size [] (aZ w) :=
     ⟨_,#[],0,_,zv _ v,⟨rfl,rfl,rfl⟩,rfl,(λ e he=>by simp at he),(λ e he=>by simp at he),.nil,(by unfold scanBound;decide),rfl,rfl,.inr rfl⟩
    refine tG (led:=aZ w) (s₀:={ s with heap:=(s.heap.push { cls:=.type "set",dict:=none,data:=.set #[] 0 (.fresh 0 0 (aZ w)) }).push { cls:=.type "tuple_iterator",data:=.fields #[.ref l,.int 0 0] } }) (S:=s.heap.objs.size) (it:=(s.heap.push { cls:=.type "set",dict:=none,data:=.set #[] 0 (.fresh 0 0 (aZ w)) }).objs.size) (a:=l) (items:=items) (by simp[H]) (t.push _) (by rw[sz];exact zF (ye _)) (zF lt) (by rw[sz];exact zF (xx lt)) items ys [] 0 _ rfl hi ⟨_,zC _ rfl,rfl,rfl⟩ J k rfl rfl rfl (λ b o _ _ e=>e) λ h' h g D=>?_;show wpAny _ _ _ _ _ _;refine zo ?_;show wpAny _ _ (ret Value.none) _ _ _;refine zo ⟨rfl,h',h,rfl,g,λ b o e=>?_⟩;have k:=zg e;exact D b o (zF k) (by rw[sz];exact zF (xx k)) (zv _ (zv _ e))
   ·cases i with
    |error e=>exact m
    |ok L =>
     cases L with
     |ret r =>
      let⟨rfl,h',h,rfl,g,p⟩:=m
      repeat (any_goals (first|assumption|wp_step))
      exact q _ _ g p
     |_=>exact m
  |_=>exact n
def c8:Slot "set_iterator" "__next__" "set_iterator.__next__" :=
 Slot.of (owner:="set_iterator") (n:="__next__") (by rw[typeLookup_type,builtinLookup_eq_fast];kernel_rfl) (by decide +kernel) (by decide +kernel) (by decide +kernel) (by first|exact .inl (by decide +kernel)|exact .inr (by decide +kernel)) (by rw[isSubtype_type];kernel_rfl)
def kQ:entryFor table "set_iterator.__next__" = some Builtin.«set_iterator.__next__»:=entryFor_of_tree (by kernel_rfl)
def mn(a:jp):argsOk "set_iterator.__next__" ⟨[a],[]⟩:=by unfold argsOk;kernel_rfl
def HY:entryFor table "set.__iter__" = some Builtin.«frozenset.__iter__»:=entryFor_alias (id':="frozenset.__iter__") (by kernel_rfl) (by decide +kernel) (by decide +kernel) (by kernel_rfl)
def sO{α:Type}:∀{l:List α} {i:Nat} (h:i<l.length),(l[i]::l.eraseIdx i).Perm l
 |_::_,0,_=>.refl _
 |x::l,i+1,h=>by
  have a:i<l.length:=by simpa using h
  exact(List.Perm.swap x l[i] _).trans ((sO a).cons x)
def ML(b:n≠0)(q:∀i d,i<n->Q i { s with drawn:=d }):wpAny (model prog w) A (choose a n) Q E s:=λ Γ p _=>by
 show Sem.wp _ _ (.choose a n .pure) _ _ _ _;rw[Sem.wp_choose];exact⟨b,q _ _ (vJ _ (Nat.pos_of_ne_zero b))⟩
def uU{α:Type}:∀(n:Nat) (xs:List α) (s:kt) {Q:List α->kt->Prop},xs.length=n->(∀ys d,ys.Perm xs->Q ys { s with drawn:=d })->wpAny (model prog w) A (drawOrder n xs) Q E s
 |0,xs,s,Q,h,q=>by
  obtain rfl:=xF h;exact zo (q [] s.drawn .nil)
 |n+1,[],s,Q,h,q=>by cases h
 |n+1,x::xs,s,Q,h,q=>by
  unfold drawOrder;refine zw (ML (by simp) λ i d hi=>?_);rw[zu hi];dsimp only;refine zw (uU n ((x::xs).eraseIdx i) _ (by rw[xN hi,h];rfl) λ ys a p=>?_);exact zo (q _ _ ((p.cons _).trans (sO hi)))
def CK{α:Type}(f:Nat->Nat):∀(n k:Nat) (l:List α) (out:Array α),l.length=n->(pickOrder.go f n k l out).toList.Perm (out.toList++l)
 |0,_,l,out,h=>by
  obtain rfl:=xF h;unfold pickOrder.go;rw[zO]
 |n+1,k,l,out,h=>by
  unfold pickOrder.go;have a:f k % l.length<l.length:=vJ _ (by omega);rw[zu a];dsimp only;refine(CK f n (k+1) _ _ (by rw[xN a,h];rfl)).trans ?_;rw[wW,zU];exact(sO a).append_left _
def GX{α:Type}(f:Nat->Nat)(xs:Array α):(pickOrder f xs).toList.Perm xs.toList:=by
 have:=CK f xs.size 0 xs.toList #[] (by simp)
 simpa [pickOrder] using this
abbrev jq(h:Heap)(I a:uc)(first:jp)(i n ep:Nat):Prop:=∃o,h.get? I=some o/\o.cls=.type "set_iterator"/\o.data=.fields #[first,.int i 0,.ref a,.int n 0,.int ep 0]
def jq.ty(x:jq s.heap I a first i n ep):s.TypeIs (.ref I) "set_iterator":=let ⟨o,h,c,_⟩:=x;⟨o,h,c⟩
def jq.at(x:jq h I a first i n ep)(k:∀o,h.get? I=some o->h'.get? I=some o):jq h' I a first i n ep:=let ⟨o,e,r⟩:=x;⟨o,k o e,r⟩
variable {I a:uc}{so:Obj}{es:Array (Int×jp)}{ep:Nat}{t:SetTable}
structure kW (h:Heap) (a:uc) (so:Obj) (es:Array (Int×jp)) (ep:Nat) (t:SetTable):Prop where
 g:h.get? a=some so
 d:so.data=.set es ep t
 f:t.fits es.size=true
def lU(S:kW s.heap a so es ep t)(q:Q es s):wpAny (model prog w) A (setEntries a) Q E s:=by
 unfold setEntries;exact zw (wpAny_setState_of S.g S.d S.f (zo q))
def qw(q:Q (w.params.followText "set-order") s):wpAny (model prog w) A setsByText Q E s:=by
 unfold setsByText;exact zw (wpAny_askSetting (zo q))
def kz(d:s.heap.get? I=some o)(e:o.cls=.type "set_iterator")(c:o.data=.fields vs)(hi:i<vs.size)
  (q:∀h' b,h'.get? I=some b->b.cls=.type "set_iterator"->b.data=.fields (vs.setIfInBounds i x)->Heap.SameBut I s.heap h'->Q () { s with heap:=h' }):wpAny (model prog w) A (setField (.ref I) i x) Q E s :=
 wpAny_setField d c hi (q _ _ (yu _ d (Obj.isFreed_of_fields (Obj.data_mapFields c _))) ((Obj.cls_mapFields ..).trans e) (Obj.data_mapFields c _) (Heap.SameBut.update ..))
def rW{o:Obj}{vs:Array jp}{Q:Option jp->kt->Prop}{P:PySem.Fin->kt->Prop}(i:A.handled=none)(h:s.heap.get? I=some o)(g:o.cls=.type "set_iterator")(f:o.data=.fields vs)(hi:2<vs.size)(q:∀h',Heap.ExtBut I s.heap h'->Q none { s with heap:=h' }) :
  wpAny (model prog w) A.in1 (do setField (.ref I) 2 .none;let e<-newExc (.type "StopIteration") [];raiseNew e:Sem PySem.Fin) P (λ e d=>wpAny (model prog w) A (do let b<-isInstance e (.type "StopIteration");if b=true then pure none else throw e) Q E d) s:=by
 refine zw (kz h g f hi λ k j _ _ _ c=>?_);refine zw ?_;rwa[newExc,newTuple];refine zw (wpAny_newObj_type (zw (m:=firstArgMember _ _) (wpAny_of_eq (a:=Value.none) (by first|rfl|(rwa[firstArgMember];rfl)) ?_)) (by size_fits))
 refine wpAny_newObj_type ?_ (by size_fits);rwa[raiseNew];refine zw (wpAny_handled ?_);rw[show A.in1.handled=none from i];refine zw (zo (wpAny_throw ?_));exact zw (wpAny_isInstance (T:="StopIteration") (b:=true) ⟨_,zC _ rfl,rfl⟩ isSubtype_stop (zo (q _ ((c.extBut.push _).push _))))
def vV(b:w.params.followText "set-order" = true)(S:kW s.heap a so es ep t)(q:Q (((pickOrder (w.params.setOrder a ep) es)[i]?).map λ e=>(e.2,0)) s):wpAny (model prog w) A (setNext a 0 i ep) Q E s:=by
 unfold setNext;refine zw (wpAny_setState_of S.g S.d S.f ?_);dsimp only;refine zw (qw ?_);rw[b,if_pos rfl,if_neg (by simp)];refine zw ?_;unfold setWalk;refine zw (wpAny_setState_of S.g S.d S.f ?_);dsimp only;refine zw (qw ?_);rw[b,if_pos rfl];exact zw (wpAny_askSetting (zo (zo q)))
def Jm(r:w.params.followText "set-order" = true)(st:jq s.heap I a (.int 0 0) i es.size ep)(S:kW s.heap a so es ep t)(hx:(pickOrder (w.params.setOrder a ep) es)[i]?=some e)
  (q:∀h',jq h' I a (.int 0 0) (i+1) es.size ep->Heap.SameBut I s.heap h'->Q (some e.2) { s with heap:=h' }):wpAny (model prog w) A (pyNext (.ref I)) Q E s:=by
 let⟨o,c,l,b⟩:=id st;unfold pyNext;refine zw (wpAny_attempt (wpAny_callSpecial?_slot (name:=Str.ofString "__next__") st.ty c8 (wpAny_call_entry c8 st.ty kQ ?_ (mn _))));unfold Builtin.«set_iterator.__next__»;refine zw (zo ?_);refine zw (wpAny_fieldsOf c b ?_);dsimp only;refine zw (lU S ?_);rw[if_neg (by simp)];rwa[yJ];refine zw (vV r S ?_);rw[hx];dsimp only[Option.map];refine zw (kz c l b (by simp) λ v x p n m d=>zw (kz (s:={ s with heap:=v }) p n m (by simp) λ u f k j h g=>?_));exact zo ⟨_,rfl,zo (q u ⟨f,k,j,by rw[h];simp[rawInt]⟩ (d.trans g))⟩
def Ni(e:A.handled=none)(f:w.params.followText "set-order" = true)(st:jq s.heap I a (.int 0 0) i es.size ep)(S:kW s.heap a so es ep t)(hx:(pickOrder (w.params.setOrder a ep) es)[i]?=none)
  (q:∀h',Heap.ExtBut I s.heap h'->Q none { s with heap:=h' }):wpAny (model prog w) A (pyNext (.ref I)) Q E s:=by
 let⟨o,c,d,b⟩:=id st;unfold pyNext;refine zw (wpAny_attempt (wpAny_callSpecial?_slot (name:=Str.ofString "__next__") st.ty c8 (wpAny_call_entry c8 st.ty kQ ?_ (mn _))));unfold Builtin.«set_iterator.__next__»;refine zw (zo ?_);refine zw (wpAny_fieldsOf c b ?_);dsimp only;refine zw (lU S ?_);rw[if_neg (by simp)];rwa[yJ];refine zw (vV f S ?_);rw[hx];exact rW e c d b (by simp) q
def Jl{i p:Nat}{pt:uc}{b:Obj}{ps:List Nat}{c:Nat}{e:Int×jp}{Q:Option jp->kt->Prop}(st:jq s.heap I a (.ref pt) i es.size ep)(S:kW s.heap a so es ep t)(B:s.heap.get? pt=some b)(z:b.data=.seq (ps.map λ (i:Nat)=>rawInt i).toArray c)(x:ps[i]?=some p)(hx:es[p]?=some e)
  (q:∀h',jq h' I a (.ref pt) (i+1) es.size ep->Heap.SameBut I s.heap h'->Q (some e.2) { s with heap:=h' }):wpAny (model prog w) A (pyNext (.ref I)) Q E s:=by
 let⟨o,j,m,h⟩:=id st;unfold pyNext;refine zw (wpAny_attempt (wpAny_callSpecial?_slot (name:=Str.ofString "__next__") st.ty c8 (wpAny_call_entry c8 st.ty kQ ?_ (mn _))));unfold Builtin.«set_iterator.__next__»;refine zw (zo ?_);refine zw (wpAny_fieldsOf j h ?_);dsimp only;refine zw (lU S ?_);rw[if_neg (by simp)];rwa[yJ];refine zw (wpAny_seqItems B z ?_);have v:((ps.map λ (i:Nat)=>rawInt i).toArray)[i]?=some (.int p 0):=by simp[x,rawInt]
 dsimp only;rw[v];dsimp only;refine zw ?_;unfold setNextDrawn;refine zw (wpAny_setState_of S.g S.d S.f ?_);dsimp only;rw[if_neg (by simp),yJ,hx];refine zo ?_;refine zw (kz j m h (by simp) λ y l u r n k=>?_);exact zo ⟨_,rfl,zo (q y ⟨l,u,r,by rw[n];simp[rawInt]⟩ k)⟩
def Nh{i:Nat}{pt:uc}{b:Obj}{ps:List Nat}{c:Nat}{Q:Option jp->kt->Prop}(n:A.handled=none)(st:jq s.heap I a (.ref pt) i es.size ep)(S:kW s.heap a so es ep t)(u:s.heap.get? pt=some b)(r:b.data=.seq (ps.map λ (i:Nat)=>rawInt i).toArray c)(m:ps[i]?=none)
  (q:∀h',Heap.ExtBut I s.heap h'->Q none { s with heap:=h' }):wpAny (model prog w) A (pyNext (.ref I)) Q E s:=by
 let⟨o,e,g,d⟩:=id st;unfold pyNext;refine zw (wpAny_attempt (wpAny_callSpecial?_slot (name:=Str.ofString "__next__") st.ty c8 (wpAny_call_entry c8 st.ty kQ ?_ (mn _))));unfold Builtin.«set_iterator.__next__»;refine zw (zo ?_);refine zw (wpAny_fieldsOf e d ?_);dsimp only;refine zw (lU S ?_);rw[if_neg (by simp)];rwa[yJ];refine zw (wpAny_seqItems u r ?_);have l:((ps.map λ (i:Nat)=>rawInt i).toArray)[i]?=none:=by simpa using m
 dsimp only;rw[l];dsimp only;refine zw (kz e g d (by simp) λ p x k j h f=>?_);exact rW (s:={ s with heap:=p }) n k j h (by simp) λ h' v=>q h' (f.extBut.trans v)
end
section
variable {prog:uf}{w:ul}{A:ut}{E:jp->kt->Prop}{s:kt}{I a:uc}{so:Obj}{es:Array (Int×jp)}{ep:Nat}{t:SetTable}
def Jk{slot i:Nat}{Q:Option (jp×Nat)->kt->Prop}(c:w.params.followText "set-order" = false)(b:t.led=true)(e:es.size<=1)(S:kW s.heap a so es ep t)
  (q:Q (match es[SetTable.below t.place slot]?,t.place[SetTable.below t.place slot]? with
   |some (_,x),some j=>some (x,j+1)
   |_,_=>none) s):wpAny (model prog w) A (setNext a slot i ep) Q E s:=by
 unfold setNext;refine zw (wpAny_setState_of S.g S.d S.f ?_);dsimp only;refine zw (qw ?_);rw[c,if_neg zn];split
 ·rename_i z
  have z:(!t.plain&&decide (es.size > 1))=true:=z;rw[zzA (by omega),yp]at z;cases z
 ·refine zw (m:=if (!t.led&&!es.isEmpty)=true then unsupported "set:maker-not-led" else pure ()) ?_
  rw[b,if_neg (by simp)];exact zo (zo q)
def CD{slot i:Nat}{r:Option (jp×Nat)}{Q:Option jp->kt->Prop}(D:A.handled=none)(F:w.params.followText "set-order" = false)(C:t.led=true)(d:es.size<=1)(st:jq s.heap I a (.int slot 0) i es.size ep)(S:kW s.heap a so es ep t)
  (B:(match es[SetTable.below t.place slot]?,t.place[SetTable.below t.place slot]? with
   |some (_,x),some j=>some (x,j+1)
   |_,_=>none)=r)
  (h:∀x k h',r=some (x,k)->jq h' I a (.int k 0) (i+1) es.size ep->Heap.SameBut I s.heap h'->Q (some x) { s with heap:=h' }) (g:∀h',r=none->Heap.ExtBut I s.heap h'->Q none { s with heap:=h' }):wpAny (model prog w) A (pyNext (.ref I)) Q E s:=by
 let⟨o,c,e,b⟩:=id st;unfold pyNext;refine zw (wpAny_attempt (wpAny_callSpecial?_slot (name:=Str.ofString "__next__") st.ty c8 (wpAny_call_entry c8 st.ty kQ ?_ (mn _))));unfold Builtin.«set_iterator.__next__»;refine zw (zo ?_);refine zw (wpAny_fieldsOf c b ?_);dsimp only;refine zw (lU S ?_);rw[if_neg (by simp)];rwa[yJ];refine zw (Jk F C d S ?_);rw[B];cases r with
 |none=>exact rW D c e b (by simp) λ h' H=>g h' rfl H
 |some p =>
  let⟨x,k⟩:=p;dsimp only;refine zw (kz c e b (by simp) λ d J z y v f=>zw (kz (s:={ s with heap:=d }) z y v (by simp) λ G l u q n m=>?_));exact zo ⟨_,rfl,zo (h x k G rfl ⟨l,u,q,by rw[n];simp[rawInt]⟩ (f.trans m))⟩
def OA(j:Nat):SetTable.below #[j] 0=0:=by
 unfold SetTable.below;simp[SetTable.below.go]
def below_1(j:Nat):SetTable.below #[j] (j+1)=1:=by
 unfold SetTable.below;simp[SetTable.below.go]
def kW.at(S:kW h a so es ep t)(k:∀o,h.get? a=some o->h'.get? a=some o):kW h' a so es ep t:=⟨k _ S.g,S.d,S.f⟩
def vT:Slot "set_iterator" "__iter__" "set_iterator.__iter__" :=
 Slot.of (owner:="set_iterator") (n:="__iter__") (by rw[typeLookup_type,builtinLookup_eq_fast];kernel_rfl) (by decide +kernel) (by decide +kernel) (by decide +kernel) (by first|exact .inl (by decide +kernel)|exact .inr (by decide +kernel)) (by rw[isSubtype_type];kernel_rfl)
def HZ:entryFor table "set_iterator.__iter__" = some Builtin.«dict_keyiterator.__iter__»:=entryFor_alias (id':="dict_keyiterator.__iter__") (by kernel_rfl) (by decide +kernel) (by decide +kernel) (by kernel_rfl)
def KC(a:jp):argsOk "set_iterator.__iter__" ⟨[a],[]⟩:=by unfold argsOk;kernel_rfl
def nV(st:jq s.heap I a first i n ep)(q:Q (.ref I) s):wpAny (model prog w) A (pyIter (.ref I)) Q E s:=by
 refine wpAny_pyIter_slot st.ty vT (wpAny_call_entry vT st.ty HZ ?_ (KC _));show wpAny _ _ (ret (.ref I)) _ _ s;exact zo ⟨_,rfl,"set_iterator",_,st.ty,c8.lookup,q⟩
def Xj(m:A.handled=none)(c:w.params.followText "set-order" = true)(l:a≠I):Walks prog w A I [I,a] [I] ((pickOrder (w.params.setOrder a ep) es).toList.map (·.2)).length (λ i v=>((pickOrder (w.params.setOrder a ep) es).toList.map (·.2))[i]?=some v) (λ i h=>jq h I a (.int 0 0) i es.size ep/\kW h a so es ep t) where
 sub:=λ b c=>zd.mpr (.inl (zB.mp c))
 frame:=λ i h d st k=>⟨st.1.at λ o e=>k I (by simp) o e,st.2.at λ o e=>k a (by simp) o e⟩
 item:=λ i s Q E hi st q=>by
  have g:i<(pickOrder (w.params.setOrder a ep) es).size:=by simpa using hi
  have hx:=yd g;refine Jm c st.1 st.2 hx λ d f j=>?_
  have:=q ((pickOrder (w.params.setOrder a ep) es)[i]).2 d s.toks (by simp[hx]) ⟨f,st.2.at λ o e=>(j.2 a l).trans e⟩ λ b o c e=>(j.2 b (by simpa using c)).trans e
  exact this
 done:=λ s Q E st q=>by
  refine Ni m c st.1 st.2 (by simp) λ d n=>?_;exact q d s.toks λ b o c e=>n b o (by simpa using c) e
 self:=λ i s Q E st q=>nV st.1 q
abbrev Wr(h:Heap)(pt:uc)(ps:List Nat):Prop:=h.get? pt=some { cls:=.type "tuple",data:=.seq (ps.map λ (i:Nat)=>rawInt i).toArray }
def Xi(u:A.handled=none)(r:a≠I)(n:pt≠I)(y:ps.Perm (List.range es.size)):Walks prog w A I [I,a,pt] [I] (ps.map λ p=>(es.getD p default).2).length (λ i v=>(ps.map λ p=>(es.getD p default).2)[i]?=some v) (λ i h=>jq h I a (.ref pt) i es.size ep/\kW h a so es ep t/\Wr h pt ps) where
 sub:=λ b d=>zd.mpr (.inl (zB.mp d))
 frame:=λ i h f st k=>⟨st.1.at λ o e=>k I (by simp) o e,st.2.1.at λ o e=>k a (by simp) o e,k pt (by simp) _ st.2.2⟩
 item:=λ i s Q E hi st q=>by
  have c:i<ps.length:=by simpa using hi
  have l:=zu c;have m:ps[i]<es.size:=xK.mp (y.mem_iff.mp (yE c));refine Jl st.1 st.2.1 st.2.2 rfl l (yd m) λ f g j=>?_;exact q _ f s.toks (by simp[l,wt,m]) ⟨g,st.2.1.at λ o e=>(j.2 a r).trans e,(j.2 pt n).trans st.2.2⟩ λ b o d e=>(j.2 b (by simpa using d)).trans e
 done:=λ s Q E st q=>by
  refine Nh u st.1 st.2.1 st.2.2 rfl (by simp) λ f x=>?_;exact q f s.toks λ b o d e=>x b o (by simpa using d) e
 self:=λ i s Q E st q=>nV st.1 q
abbrev uz(t:SetTable):Nat->Nat
 |0=>0
 |_+1=>t.place.getD 0 0+1
def Xh(u:A.handled=none)(g:w.params.followText "set-order" = false)(r:t.led=true)(y:es.size<=1)(D:a≠I)(f:t.fits es.size=true):Walks prog w A I [I,a] [I] (es.toList.map (·.2)).length (λ i v=>(es.toList.map (·.2))[i]?=some v) (λ i h=>i<=es.size/\jq h I a (.int (uz t i:Nat) 0) i es.size ep/\kW h a so es ep t) where
 sub:=λ b g=>zd.mpr (.inl (zB.mp g))
 frame:=λ i h l st k=>⟨st.1,st.2.1.at λ o e=>k I (by simp) o e,st.2.2.at λ o e=>k a (by simp) o e⟩
 item:=λ i s Q E hi st q=>by
  have j:i<es.size:=by simpa using hi
  obtain rfl:i=0:=by omega
  have c:es.size=1:=by omega
  rwa[SetTable.fits,zt,beq_iff_eq]at f;have p:t.place=#[t.place.getD 0 0]:=by
   have z:=f.1;rw[c]at z;apply vM
   ·simp[z]
   ·intro k G H
    obtain rfl:k=0:=by omega
    simp[wt,z]
  have C:SetTable.below t.place (uz t 0)=0:=by rw[p];exact OA _
  refine CD u g r y st.2.1 st.2.2 rfl (λ x k l d m n=>?_) λ l d B=>?_
  ·rw[C,yd j,yd (by rw[f.1,c];decide)]at d
   cases d;refine q _ l s.toks (by simp[j]) ⟨by omega,?_,st.2.2.at λ o e=>(n.2 a D).trans e⟩ λ b o g e=>(n.2 b (by simpa using g)).trans e
   have:uz t (0+1)=t.place[0]'(by rw[f.1,c];decide)+1:=by
    show t.place.getD 0 0+1=_;simp[wt,f.1,c]
   rw[this];exact m
  ·rw[C,yd j,yd (by rw[f.1,c];decide)]at d
   cases d
 done:=λ s Q E st q=>by
  have F:(es.toList.map (·.2)).length=es.size:=by simp
  rw[F]at st;rwa[SetTable.fits,zt,beq_iff_eq]at f;refine CD u g r y st.2.1 st.2.2 rfl (λ x k l d m n=>?_) λ l d B=>q l s.toks λ b o g e=>B b o (by simpa using g) e;exfalso;have c:es.size=0\/es.size=1:=by omega
  rcases c with c|c
  ·rw[xi (by omega)]at d
   cases d
  ·have p:t.place=#[t.place.getD 0 0]:=by
    have z:=f.1;rw[c]at z;apply vM
    ·simp[z]
    ·intro k G H
     obtain rfl:k=0:=by omega
     simp[wt,z]
   have e1:SetTable.below t.place (uz t es.size)=1:=by rw[c,p];exact below_1 _
   rw[e1,xi (by omega)]at d;cases d
 self:=λ i s Q E st q=>nV st.2.1 q
def JX(G:A.handled=none)(T:SSet prog w s.heap a xs (aZ w))
  (q:∀I h' d K vs St,(∀b o,s.heap.get? b=some o->h'.get? b=some o)->s.heap.objs.size<=I->(∀b∈K,b=a\/s.heap.objs.size<=b)->Walks prog w A I K [I] vs.length (λ i v=>vs[i]?=some v) St->St 0 h'->(∃ys,StrsAre vs ys/\ys.Perm xs)->Q (.ref I) { s with heap:=h',drawn:=d }) :
  wpAny (model prog w) A (pyIter (.ref a)) Q E s:=by
 let⟨so,es,ep,t,g,V,n,el,C,P,AY,j,R,N⟩:=T;have S:kW s.heap a so es ep t:=⟨g,n,j⟩;have L:a<s.heap.objs.size:=zg g;have ty:s.TypeIs (.ref a) "set":=⟨so,g,V.1⟩;have f:∀l:List (Int×jp),l.Perm es.toList->∃ys,StrsAre (l.map (·.2)) ys/\ys.Perm xs:=λ l x=>by
  refine⟨l.map λ e=>strOf e.2,?_,(x.map _).trans P⟩;have m:∀e∈l,∃y u,e.2=.str y u:=λ e he=>C e (x.mem_iff.mp he);clear x;induction l with
  |nil=>exact .nil
  |cons e l O =>
   let⟨y,u,W⟩:=m e zI;rw[zR,zR,W];exact .cons y u (O λ Y h=>m Y (zE _ h))
 refine wpAny_pyIter_slot ty PySem.F.slot_set_iter (wpAny_call_entry PySem.F.slot_set_iter ty HY ?_ (PySem.F.args_set_iter_1 _));unfold Builtin.«frozenset.__iter__»;refine zw (zo ?_);refine zw (zw (lU S (zo ?_)));refine zw ?_;unfold setDrawn;refine zw (wpAny_setState_of g n j ?_);dsimp only;refine zw (qw (zo ?_));have J:a≠s.heap.objs.size:=zF L;cases hb:w.params.followText "set-order" with
 |true =>
  refine zw (zo ?_);refine zw (wpAny_setEpoch_of g n j ?_);refine zw (wpAny_newObj_type (zo ⟨_,rfl,"set_iterator",_,⟨_,zC _ rfl,rfl⟩,c8.lookup,?_⟩));refine q s.heap.objs.size _ s.drawn [s.heap.objs.size,a] _ _ (λ b o e=>zv _ e) (zq _) (λ b c=>?_) (Xj (ep:=ep) (es:=es) (so:=so) (t:=t) G hb J) ⟨⟨_,zC _ rfl,rfl,rfl⟩,S.at λ o e=>zv _ e⟩ (f _ (GX _ es));rcases zd.mp c with e|c
  ·exact .inr (yG e.symm)
  ·exact .inl (zB.mp c)
 |false =>
  have V4:t.led=true:=by rw[R];unfold aZ;rw[hb];rfl
  by_cases U:es.size<=1
  ·have hc:(!false&&(!t.plain&&decide (es.size > 1)))=false:=by rw[zzA (by omega),yp];rfl
   show wpAny _ _ (if (!false&&(!t.plain&&decide (es.size > 1)))=true then _ else _) _ _ _;rw[hc,if_neg zn];refine zw (zo ?_);refine zw (wpAny_setEpoch_of g n j ?_);refine zw (wpAny_newObj_type (zo ⟨_,rfl,"set_iterator",_,⟨_,zC _ rfl,rfl⟩,c8.lookup,?_⟩));refine q s.heap.objs.size _ s.drawn [s.heap.objs.size,a] _ _ (λ b o e=>zv _ e) (zq _) (λ b c=>?_) (Xh (ep:=ep) (es:=es) (so:=so) (t:=t) G hb V4 U J j) ⟨zW _,⟨_,zC _ rfl,rfl,rfl⟩,S.at λ o e=>zv _ e⟩ (f _ (.refl _));rcases zd.mp c with e|c
   ·exact .inr (yG e.symm)
   ·exact .inl (zB.mp c)
  ·have D:t.plain=false:=N.elim id λ z=>by omega
   have hc:(!false&&(!t.plain&&decide (es.size > 1)))=true:=by rw[D,zzB (by omega)];rfl
   show wpAny _ _ (if (!false&&(!t.plain&&decide (es.size > 1)))=true then _ else _) _ _ _;rw[hc,if_pos rfl];refine zw (uU es.size (List.range es.size) s (by simp) λ ps d r=>?_);have Z:ps.length=es.size:=by rw[r.length_eq,yh]
   refine zw (wpAny_newTuple ?_ (by rw[zy,Z];exact fits_of_scanBound AY));have B:∀b o,s.heap.get? b=some o->(s.heap.push { cls:=.type "tuple",data:=.seq (ps.map λ (i:Nat)=>rawInt i).toArray }).get? b=some o:=λ b o e=>zv _ e;have H:(s.heap.push { cls:=.type "tuple",data:=.seq (ps.map λ (i:Nat)=>rawInt i).toArray }).objs.size=s.heap.objs.size+1:=xM ..;refine zw (wpAny_setEpoch_of (B _ _ g) n j ?_);refine zw (wpAny_newObj_type (zo ⟨_,rfl,"set_iterator",_,⟨_,zC _ rfl,rfl⟩,c8.lookup,?_⟩));have M:∃ys,StrsAre (ps.map λ p=>(es.getD p default).2) ys/\ys.Perm xs:=by
    have e1:(ps.map λ p=>(es.getD p default).2)=(ps.map λ p=>es.getD p default).map (·.2):=by rw[xh];rfl
    rw[e1];refine f _ ((r.map _).trans ?_);have X:(List.range es.size).map (λ p=>es.getD p default)=es.toList:=by
     apply vq
     ·simp
     ·intro k UH QU
      have:k<es.size:=by simpa using QU
      simp[wt,this]
    rw[X]
   dsimp only;rw[H];refine q (s.heap.objs.size+1) _ d [s.heap.objs.size+1,a,s.heap.objs.size] _ _ (λ b o e=>zv _ (B b o e)) (xk _) (λ b c=>?_) (Xi (ep:=ep) (es:=es) (so:=so) (t:=t) (pt:=s.heap.objs.size) (ps:=ps) G (zF (xx L)) (zF (ye _)) r) ⟨⟨{ cls:=.type "set_iterator",data:=.fields #[.ref s.heap.objs.size,.int 0 0,.ref a,.int es.size 0,.int ep 0] },by rw[<- H];exact zC _ rfl,rfl,rfl⟩,S.at λ o e=>zv _ (B a o e),zv _ (zC _ rfl)⟩ M;rwa[zd,yv,or_false]at c;rcases c with e|e|e
   ·exact .inr (by rw[e];exact xk _)
   ·exact .inl e
   ·exact .inr (yG e.symm)
end
section
variable {prog:uf}{w:ul}{A:ut}{E:jp->kt->Prop}{s:kt}{a:uc}
def J3(ty:s.TypeIs (.ref a) "set")(q:Q false s):wpAny (model prog w) A (Builtin.List.listLengthHint (.ref a)) Q E s:=by
 unfold Builtin.List.listLengthHint;refine zw (wpAny_specialOf ty PySem.F.slot_set_len.lookup ?_);generalize c:("set.__len__":String)=YI
 wp_delta
 rw[show splitId YI=some ("set","__len__") from by subst c;decide +kernel];subst c;refine zw (wpAny_isInstance (T:="set") (b:=true) ty (by rw[isSubtype_type];kernel_rfl) ?_);refine wpAny_ite_split (λ z=>absurd z (by decide)) (λ _=>wpAny_ite_split (λ _=>?_) (λ z=>absurd (by decide +kernel) z));exact zw (wpAny_typeOf ty (zo q))
def IA(h:ItemsOf (λ i v=>vs[i]?=some v) b vs.length):b.toList=vs:=by
 apply List.ext_getElem?;intro i;rw[wc];cases e:b[i]? with
 |some v=>exact(h.2 i v e).symm
 |none =>
  have:b.size<=i:=by simpa using e
  rw[h.1]at this;exact(xy this).symm
def Oi{xs:List Str}{R:Result->kt->Prop}(hh:A.handled=none)(N:SSet prog w s.heap a xs (aZ w)){S:uc}(K:S≠a)(j:jp){m:Nat}(P:s.heap.get? S=some { cls:=.type "list",data:=.seq #[] m })
  (hR:∀h' q d l c ys,(∀b o,b≠S->s.heap.get? b=some o->h'.get? b=some o)->h'.get? S=some { cls:=.type "list",dict:=none,data:=.seq l c,slots:=#[] }->StrsAre l.toList ys->ys.Perm xs->R (.ok (.ret j)) { s with heap:=h',toks:=q,drawn:=d }) :
  wpAny (model prog w) A.in1 (Builtin.List.listExtendWith (.ref S) (.ref a) j) (λ C n=>match C with|.done f=>R (.ok f) n|.again u=>u.quiet=true/\codeAny (model prog w) A u R n) (λ e n=>R (.error e) n) s:=by
 have Ys:=zg P;let⟨G,es,ep,t,Q,O,rest⟩:=id N;have ty:s.TypeIs (.ref a) "set":=⟨G,Q,O.1⟩;have Y:xs.length<=zi:=by
  let⟨_,_,_,hp,k,_⟩:=rest;rw[<- hp.length_eq,zy,yj];exact fits_of_scanBound k
 unfold Builtin.List.listExtendWith;refine zw (wpAny_typeOf (T:="set") ty ?_);have B:Builtin.List.listSameRef (.ref S) (.ref a)=false:=by simp[Builtin.List.listSameRef,K]
 have X:(Value.type "set"==Value.type "list")=false:=by decide
 have V:(Value.type "set"==Value.type "tuple")=false:=by decide
 rwa[B,X,V,xV,zY,if_false];refine zw (JX (A:=A.in1) hh N λ I B d fp vs St r hI y W st YN=>?_);let⟨ys,L,v⟩:=YN;have Z:vs.length=xs.length:=by
  rw[<- v.length_eq];clear v st W;induction L with
  |nil=>rfl
  |cons _ _ _ ih=>rw[zj,zj,ih]
 have H:S ∉ fp:=λ z=>(y S z).elim K λ z=>absurd Ys (vL.mpr z);have p:∀(h:Heap) (i q:Nat),St 0 h->(∀b o,b≠S->s.heap.get? b=some o->h.get? b=some o)->h.get? S=some { cls:=.type "list",data:=.seq #[] i }->codeAny (model prog w) A (.builtin "list.extend.loop" ⟨[.ref S,.ref I,j],[]⟩) R { s with heap:=h,toks:=q,drawn:=d }:=by
  intro h i q x hk g;refine codeAny_extend_loopS W.toS (by rw[Z];exact Y) S H j vs.length 0 _ #[] i rfl (zW _) x g (ItemsOf.nil _) λ n l u M g' J7=>?_;rw[Moved.eq_with M];refine hR n.heap n.toks d l u ys (λ b o k e=>M.heap b o (λ z=>?_) (hk b o k e)) g' (by rw[IA J7];exact L) v;rcases zd.mp z with z|z
  ·exact k z
  ·exact absurd (zg e) (by rw[zB.mp z];exact vL.mpr hI)
 have D:=r _ _ P;refine zw (wpAny_holding (J3 (s:={ s with heap:=B,drawn:=d }) ⟨G,r _ _ Q,O.1⟩ ?_));refine wpAny_ite_split (λ _=>?_) (λ _=>zo ⟨plainId_quiet PySem.F.plain_extend_loop _,p _ m _ st (λ b o _ e=>r b o e) D⟩);refine zw (wpAny_rule (zw ?_));show wpAny _ _ (updateSeq S (·.push .none) >>= λ _=>updateSeq S (·.pop)) _ _ _;refine zw (wpAny_updateSeq D rfl ?_);have U:=yu (Obj.mapSeq (·.push Value.none)) D rfl;refine wpAny_updateSeq (hz:=by seq_fits) U rfl ?_;have ZM:=yu (Obj.mapSeq (·.pop)) U rfl;refine zo ⟨plainId_quiet PySem.F.plain_extend_loop _,p _ _ _ ?_ (λ b o k e=>?_) ZM⟩
 ·refine W.frame 0 _ _ st λ b k o e=>?_
  have J:b≠S:=λ z=>H (z▸k);exact(zX _ _ (Ne.symm J)).trans ((zX _ _ (Ne.symm J)).trans e)
 ·exact(zX _ _ (Ne.symm k)).trans ((zX _ _ (Ne.symm k)).trans (r b o e))
def Cd(C:A.handled=none)(z:SSet prog w s.heap a xs (aZ w))
  (h:∀h' j d vs ys,(∀b o,s.heap.get? b=some o->h'.get? b=some o)->StrsAre vs ys->ys.Perm xs->R vs { s with heap:=h',toks:=j,drawn:=d }):wpAny (model prog w) A (collect (.ref a)) R E s:=by
 have H:a<s.heap.objs.size:=by let⟨_,_,_,_,g,_⟩:=z;exact zg g
 unfold collect;refine zw (wpAny_runValue (codeAny_builtin entry_proto_collect' ?_));rw[Around.under_plainId PySem.F.plain_proto_collect _];show wpAny _ A.in1 (newList [] >>= λ l=>again (.builtin "list.__iadd__" ⟨[l,.ref a],[]⟩)) _ _ s;refine zw (wpAny_newObj_type (zo ⟨plainId_quiet PySem.F.plain_list_iadd _,codeAny_builtin entry_list_iadd' ?_⟩));rw[Around.under_plainId PySem.F.plain_list_iadd _];have D:(s.heap.push { cls:=.type "list",data:=.seq ([]:List jp).toArray }).get? s.heap.objs.size=some { cls:=.type "list",data:=.seq #[] }:=zC _ rfl;show wpAny _ A.in1 (Builtin.List.listExtendWith (.ref s.heap.objs.size) (.ref a) (.ref s.heap.objs.size)) _ _ _;have r:=Oi (A:=A) (s:={ s with heap:=s.heap.push { cls:=.type "list",data:=.seq ([]:List jp).toArray } })
  (R:=λ (q:Result) (p:kt)=>∃(h':Heap) (j:Nat) (d:Drawn) (i:Array jp) (c:Nat) (ys:List Str),q=.ok (.ret (.ref s.heap.objs.size))/\p={ s with heap:=h',toks:=j,drawn:=d }/\(∀b o,s.heap.get? b=some o->h'.get? b=some o)/\h'.get? s.heap.objs.size=some { cls:=.type "list",dict:=none,data:=.seq i c,slots:=#[] }/\StrsAre i.toList ys/\ys.Perm xs)
  C (z.at λ o e=>zv _ e) (yi H) (.ref s.heap.objs.size) D (λ h' j d i c ys k t n m=>⟨h',j,d,i,c,ys,rfl,rfl,λ b o e=>k b o (zF (zg e)) (zv _ e),t,n,m⟩)
 have last:∀{h':Heap} {j:Nat} {d:Drawn} {i:Array jp} {c:Nat} {ys:List Str},(∀b o,s.heap.get? b=some o->h'.get? b=some o)->h'.get? s.heap.objs.size=some { cls:=.type "list",dict:=none,data:=.seq i c,slots:=#[] }->StrsAre i.toList ys->ys.Perm xs ->
   wpAny (model prog w) A (do match (<- load s.heap.objs.size).data with|.seq xs _=>pure xs.toList|_=>unsupported "internal:collect") R E { s with heap:=h',toks:=j,drawn:=d }:=λ k g n m=>zw (wpAny_load g (zo (h _ _ _ _ _ k n m)))
 refine wpAny_mono r (λ u p x=>?_) λ e p x=>?_
 ·cases u with
  |done f =>
   let⟨h',j,d,i,c,ys,e,rfl,k,g,n,m⟩:=x;cases e;exact last k g n m
  |again B =>
   refine⟨x.1,codeAny_mono x.2 λ q v y=>?_⟩;let⟨h',j,d,i,c,ys,rfl,rfl,k,g,n,m⟩:=y;exact last k g n m
 ·let⟨_,_,_,_,_,_,G,_⟩:=x
  cases G
end
abbrev DD(K:Q_)(g:D->D->Mo D):R2:=λ x y H Q=>∃ι M f e c d,aO K ι M H/\Rep K ι H e x/\Rep K ι H c y/\g e c M=some (.ok d,f) /\
 ∀v b a,Rep K a b d v->aO K a f b->Ext K ι H a b->Q v b
def oM{K:Q_}{g:D->D->Mo D}:Vg K (DD K g) g:=λ ι M c _ x y d _ _ _ S b a e k=>⟨ι,M,c,x,y,d,S,b,a,e,k⟩
section
variable {K:Q_}{ι:List uc}{H:Hp}{M M':MH}
def iB{Q:VK}{ds:List D}{vs:List V}{d:D}(S:aO K ι M H)(r:aB K ι H ds vs)(e:cv (.lst ds) M=some (.ok d,M'))(k:∀v b a,Rep K a b d v->aO K a M' b->Ext K ι H a b->Q v b) :
  ∀p,H p=none->Q (.ref p) (upd H p (.lst vs)):=λ p c=>by
 have⟨rfl,rfl⟩:=oQ e;have x:Ext K ι H (ι++[p]) (upd H p (.lst vs)):=Ext.new c;exact k _ _ (ι++[p]) (.ob (by rw[<- S.len,zA (zq _),yc];rfl)) (S.new c ⟨vs,rfl,r.mono x⟩) x
def kh{Q:VK}{ds:List D}{vs:List V}(S:aO K ι M H)(r:aB K ι H ds vs)(k:∀v b a,Rep K a b (.tup ds) v->aO K a M b->Ext K ι H a b->Q v b) :
  ∀p,H p=none->Q (.ref p) (upd H p (.tup vs)):=λ p c=>by
 have x:Ext K ι H ι (upd H p (.tup vs)):=Ext.dU c;exact k _ _ ι (.tup aV (r.mono x)) (S.dU c) x
inductive Z3 (K:Q_) (ι:List uc) (H:Hp) (i:Nat) (ds:List D) (v:V):Prop
 |mk (a:uc) (vs:List V) (h:v=.ref a) (h1:ι[i]?=some a) (h2:H a=some (.lst vs)) (h3:aB K ι H ds vs)
def aY(S:aO K ι M H)(r:Rep K ι H (.ob i) v)(e:M[i]?=some (.lst ds)):Z3 K ι H i ds v:=by
 cases r with
 |ob h =>
  rename_i a;let⟨vs,e1,q⟩:=S.obj i a _ h e;exact⟨a,vs,rfl,h,e1,q⟩
inductive Z4 (K:Q_) (ι:List uc) (H:Hp) (i:Nat) (kvs:List (Ky×D)) (v:V):Prop
 |mk (a:uc) (ws:List (Ky×V)) (h:v=.ref a) (h1:ι[i]?=some a) (h2:H a=some (.dK ws)) (h3:KR K ι H kvs ws)
def eZ(S:aO K ι M H)(r:Rep K ι H (.ob i) v)(e:M[i]?=some (.bC b)):Z4 K ι H i b v:=by
 cases r with
 |ob h =>
  rename_i a;let⟨vs,e1,q⟩:=S.obj i a _ h e;exact⟨a,vs,rfl,h,e1,q⟩
def Bc(r:Rep K ι H d v)(h:dG d=true):uJ v=true:=by
 cases r <;> simp[dG,uJ]at h ⊢
def RA(r:Rep K ι H d v)(q:Rep K ι H e u)(h:dG d=true)(h':dG e=true):RB v u=oj d e:=by
 cases r <;> cases q <;> simp[dG,RB,oj]at h h' ⊢
def KR.find(r:KR K ι H c ws)(k:Ky):(cX c k=none/\gh ws k=none)\/∃d v,cX c k=some d/\gh ws k=some v/\Rep K ι H d v:=by
 induction r with
 |nil=>exact .inl ⟨rfl,rfl⟩
 |cons h t g =>
  rename_i a b f l;by_cases e:a.1=k
  ·refine .inr ⟨a.2,b.2,?_,mB (h.1▸e),h.2⟩
   simp[cX,yD,e]
  ·have j:¬ b.1=k:=λ z=>e (h.1.trans z)
   have i:cX (a::f) k=cX f k:=by simp[cX,yD,e]
   rw[mC j,i];exact g
def KR.Wg(r:KR K ι H a ws)(k:Ky):(a.any λ b=>decide (b.1=k))=ws.any λ b=>decide (b.1=k):=by
 induction r with
 |nil=>rfl
 |cons h t c=>rw[xD,xD,c,h.1]
def KR.len(r:KR K ι H a ws):a.length=ws.length:=Paired.length r
def KR.y9(r:KR K ι H f ws)(k:Ky)(q:Rep K ι H d v) :
  KR K ι H (f.map λ c=>if c.1=k then (c.1,d) else c) (ws.map λ c=>if c.1=k then (c.1,v) else c):=by
 induction r with
 |nil=>exact .nil
 |cons h t g =>
  rename_i a b j i;rw[zR,zR];refine .cons ?_ g;by_cases e:a.1=k
  ·rw[if_pos e,if_pos (h.1▸e)];exact⟨h.1,q⟩
  ·rw[if_neg e,if_neg (λ z=>e (h.1.trans z))];exact h
def KR.put(r:KR K ι H a ws)(k:Ky)(q:Rep K ι H d v):KR K ι H (jW a k d) (putK ws k v):=by
 unfold jW putK;rw[r.Wg k];split
 ·exact r.y9 k q
 ·exact Paired.snoc r ⟨rfl,q⟩
def sI(r:Rep K ι H d v)(h:jN d=some k):v=kV k:=by
 cases r <;> simp[jN]at h <;> subst h <;> rfl
def si(r:aB K ι H ds vs)(h:de ds i=some d):∃v,Bs vs i=some v/\Rep K ι H d v:=by
 unfold de at h;unfold Bs;have e:C2 vs.length i=mh ds.length i:=by rw[r.length];rfl
 rw[e];cases q:mh ds.length i with
 |none=>rw[q]at h;cases h
 |some j =>
  rw[q]at h;exact r.get h
end
section
variable {X:Cx}{XV:List (uc×Obj)}{σ:St}{H:Hp}{s:kt}{ι:List uc}{M:MH}
def Bf:∀{xs ys:List D} {b:Bool},gC f xs ys=some b->(∀(j:Nat) (x y:D),xs[j]?=some x->ys[j]?=some y->∃c,f x y=some c) /\
  b=((List.range (min xs.length ys.length)).all (λ j=>(f (xs.getD j .non) (ys.getD j .non)).getD false)&&xs.length==ys.length)
 |[],[],b,h=>by
  rwa[gC,Option.some.injEq]at h;subst h;exact⟨λ j x y h=>by simp at h,rfl⟩
 |[],_::_,b,h=>by
  rwa[gC,Option.some.injEq]at h;subst h;exact⟨λ j x y h=>by simp at h,by simp⟩
 |_::_,[],b,h=>by
  rwa[gC,Option.some.injEq]at h;subst h;exact⟨λ j x y _ h=>by simp at h,by simp⟩
 |x::xs,y::ys,b,h=>by
  unfold gC at h;cases e1:f x y with
  |none=>rw[e1]at h;cases h
  |some c =>
   rw[e1]at h;cases e2:gC f xs ys with
   |none=>rw[e2]at h;cases h
   |some m =>
    rw[e2]at h;cases h;let⟨k,i⟩:=Bf e2;refine⟨λ j g e d a=>?_,?_⟩
    ·cases j with
     |zero=>simp at d a;subst d a;exact⟨c,e1⟩
     |succ j=>exact k j g e (by simpa using d) (by simpa using a)
    ·rw[i,zj,zj,Nat.add_min_add_right,wq,yk,xJ]
     rwa[List.getD_cons_zero,e1,xB];have l:(xs.length+1==ys.length+1)=(xs.length==ys.length):=by
      rw[zV];simp
     rw[l,vA];rfl
def tH(I:Inv X XV σ H s)(S:aO X.K ι M H):∀(n:Nat) {d d':D} {v:V} {b:Bool},Rep X.K ι H d v->Rep X.K ι H d' v->cD M n d d'=some b->b=true
 |0,_,_,_,_,_,_,h=>by cases h
 |n+1,d,d',v,b,r,k,h=>by
  have lst:∀{ds g:List D} {vs:List V} {b:Bool},aB X.K ι H ds vs->aB X.K ι H g vs->gC (cD M n) ds g=some b->b=true:=by
   intro ds;induction ds with
   |nil =>
    intro g vs b o m f;cases o;cases m;cases f;rfl
   |cons x u C =>
    intro g vs b o m f;cases o with
    |cons B z =>
     cases m with
     |cons A w =>
      rename_i y p;unfold gC at f;cases e1:cD M n x y with
      |none=>rw[e1]at f;cases f
      |some c =>
       rw[e1]at f;cases e2:gC (cD M n) u p with
       |none=>rw[e2]at f;cases f
       |some E =>
        rw[e2]at f;cases f;rw[tH I S n B A e1,C z w e2];rfl
  cases r with
  |non=>cases k with|non=>cases h;rfl
  |bl a=>cases k with|bl=>cases h;simp[oj]
  |int a=>cases k with|int=>cases h;simp[oj]
  |str a=>cases k with|str=>cases h;simp[oj]
  |tup t q =>
   cases k with
   |tup e l =>
    have:=I.tu (cZ t) (cZ e)
    subst this;exact lst q l h
   |fl e l=>cases h
   |ob e=>cases h
  |fl t q =>
   cases k with
   |tup e l=>cases h
   |fl e l=>cases h
   |ob e=>cases h
  |ob t =>
   rename_i i a;cases k with
   |tup e l=>cases h
   |fl e l=>cases h
   |ob e =>
    rename_i j
    have:=S.inj i j a t e
    subst this;unfold cD at h;dsimp only at h;split at h
    ·rename_i u p o m
     rw[o]at m;cases m;rw[if_pos rfl]at h;let⟨vs,_,q⟩:=S.obj i a _ t o;exact lst q q h
    ·cases h
def AD(I:∀{z y:D} {l k:V} {u v:jp} {b:Bool},Rep X.K ι H z l->Rep X.K ι H y k->RelV l u->RelV k v->cD M n z y=some b->SeqAt.EqAt A s u v b)
 (o:aB X.K ι H xs vs) (m:aB X.K ι H ys ws) (q:Vals vs its) (p:Vals ws a) (h:gC (cD M n) xs ys=some b) :
  ∃e:Nat->Bool,(∀j (x:j<its.toArray.size) (w:j<a.toArray.size),SeqAt.EqAt A s its.toArray[j] a.toArray[j] (e j))/\b=((List.range (min its.toArray.size a.toArray.size)).all e&&its.toArray.size==a.toArray.size):=by
 let⟨x,w⟩:=Bf h;have t:xs.length=its.toArray.size:=by rw[o.length,q.length];simp
 have r:ys.length=a.toArray.size:=by rw[m.length,p.length];simp
 refine⟨λ j=>(cD M n (xs.getD j .non) (ys.getD j .non)).getD false,λ j L J=>?_,by rw[<- t,<- r];exact w⟩;have f:j<xs.length:=by rw[t];exact L
 have d:j<ys.length:=by rw[r];exact J
 let⟨c,hc⟩:=x j _ _ (zu f) (zu d);let⟨R,e1,C⟩:=o.get (zu f);let⟨Q,P,B⟩:=m.get (zu d);let⟨u1,O,i⟩:=q.get e1;let⟨u2,N,g⟩:=p.get P;have G:its.toArray[j]=u1:=by
  have:=(zz.mp O).2
  simpa using this
 have F:a.toArray[j]=u2:=by
  have:=(zz.mp N).2
  simpa using this
 rw[G,F];have E:(cD M n (xs.getD j .non) (ys.getD j .non)).getD false=c:=by
  rw[yo,yo,zu f,zu d];rwa[xB];rw[hc];rfl
 show SeqAt.EqAt A s u1 u2 ((cD M n (xs.getD j .non) (ys.getD j .non)).getD false);rw[E];exact I C B i g hc
def Hf{its a:List jp}(h:its.length≠a.length):(its.toArray.size != a.toArray.size)=true:=by simpa using h
def Pw(I:Inv X XV σ H s)(hu:A.units<cLine)(w:∀{k j:D} {f d:V} {u v:jp} {b:Bool},Rep X.K ι H k f->Rep X.K ι H j d->RelV f u->RelV d v->cD M n k j=some b->SeqAt.EqAt A.in1 s u v b)
 (m:eF X.K H a vs) (l:eF X.K H c ws) (p:aB X.K ι H xs vs) (o:aB X.K ι H ys ws) (h:gC (cD M n) xs ys=some b):SeqAt.RcAt A s (.ref a) (.ref c) b/\SeqAt.RcNeAt A s (.ref a) (.ref c) (!b):=by
 let⟨t,r,i,_⟩:=I.tuple m;let⟨x,q,g,_⟩:=I.tuple l;let⟨e,he,rfl⟩:=AD w p o r q h;exact⟨SeqAt.RcAt.tuples i g hu he,SeqAt.RcNeAt.tuples i g hu he⟩
def Px(I:Inv X XV σ H s)(hu:A.units<cLine)(y:∀{t r:D} {l k:V} {u v:jp} {b:Bool},Rep X.K ι H t l->Rep X.K ι H r k->RelV l u->RelV k v->cD M n t r=some b->SeqAt.EqAt A.in1 s u v b)
 (x:bx X.K H a vs) (w:bx X.K H c ws) (o:aB X.K ι H xs vs) (m:aB X.K ι H ys ws) (h:(if xs.length=ys.length then gC (cD M n) xs ys else some false)=some b):SeqAt.RcAt A s (.ref a) (.ref c) b/\SeqAt.RcNeAt A s (.ref a) (.ref c) (!b):=by
 let⟨d,q,g,_⟩:=I.list x;let⟨i,p,f,_⟩:=I.list w;have C:xs.length=d.length:=by rw[o.length,q.length]
 have B:ys.length=i.length:=by rw[m.length,p.length]
 split at h
 ·rename_i z
  let⟨e,he,rfl⟩:=AD y o m q p h;have j:d.toArray.size=i.toArray.size:=by simp;omega
  have e1:((List.range (min d.toArray.size i.toArray.size)).all e&&d.toArray.size==i.toArray.size)=(List.range d.toArray.size).all e:=by
   rw[j,vF];simp
  rw[e1];exact⟨SeqAt.RcAt.lists g.isList f.isList j hu he,SeqAt.RcNeAt.lists g.isList f.isList j hu he⟩
 ·rename_i z
  cases h;exact⟨SeqAt.RcAt.lists_lengths g.isList f.isList (Hf (by first|lia|omega)) hu,SeqAt.RcNeAt.lists_lengths g.isList f.isList (Hf (by first|lia|omega)) hu⟩
def Nq(l:Rep X.K ι H i k)(e:Rep X.K ι H h j)(f:RelV k u)(d:RelV j v)(m:dG i=true)(g:dG h=true):SeqAt.RcAt A s u v (oj i h)/\SeqAt.RcNeAt A s u v (!oj i h):=by
 cases l with
 |non =>
  cases f;cases e with
  |non=>cases d;exact⟨SeqAt.RcAt.none_none,SeqAt.RcNeAt.none_none⟩
  |bl b=>cases d;exact⟨SeqAt.RcAt.none_bool b,SeqAt.RcNeAt.none_bool b⟩
  |int b=>let⟨t,rfl⟩:=d;exact⟨SeqAt.RcAt.none_int b t,SeqAt.RcNeAt.none_int b t⟩
  |str b=>let⟨t,rfl⟩:=d;exact⟨SeqAt.RcAt.none_str b t,SeqAt.RcNeAt.none_str b t⟩
  |_=>exact absurd g zn
 |bl a =>
  cases f;cases e with
  |non=>cases d;exact⟨SeqAt.RcAt.bool_none a,SeqAt.RcNeAt.bool_none a⟩
  |bl b=>cases d;exact⟨SeqAt.RcAt.bool_bool a b,SeqAt.RcNeAt.bool_bool a b⟩
  |int b=>let⟨t,rfl⟩:=d;exact⟨SeqAt.RcAt.bool_int a b t,SeqAt.RcNeAt.bool_int a b t⟩
  |str b=>let⟨t,rfl⟩:=d;exact⟨SeqAt.RcAt.bool_str a b t,SeqAt.RcNeAt.bool_str a b t⟩
  |_=>exact absurd g zn
 |int a =>
  let⟨c,rfl⟩:=f;cases e with
  |non=>cases d;exact⟨SeqAt.RcAt.int_none a c,SeqAt.RcNeAt.int_none a c⟩
  |bl b=>cases d;exact⟨SeqAt.RcAt.int_bool a c b,SeqAt.RcNeAt.int_bool a c b⟩
  |int b=>let⟨t,rfl⟩:=d;exact⟨SeqAt.RcAt.int_int a c b t,SeqAt.RcNeAt.int_int a c b t⟩
  |str b=>let⟨t,rfl⟩:=d;exact⟨SeqAt.RcAt.int_str a c b t,SeqAt.RcNeAt.int_str a c b t⟩
  |_=>exact absurd g zn
 |str a =>
  let⟨c,rfl⟩:=f;cases e with
  |non=>cases d;exact⟨SeqAt.RcAt.str_none a c,SeqAt.RcNeAt.str_none a c⟩
  |bl b=>cases d;exact⟨SeqAt.RcAt.str_bool a c b,SeqAt.RcNeAt.str_bool a c b⟩
  |int b=>let⟨t,rfl⟩:=d;exact⟨SeqAt.RcAt.str_int a c b t,SeqAt.RcNeAt.str_int a c b t⟩
  |str b=>let⟨t,rfl⟩:=d;exact⟨SeqAt.RcAt.str_str a c b t,SeqAt.RcNeAt.str_str a c b t⟩
  |_=>exact absurd g zn
 |_=>exact absurd m zn
def dB(I:Inv X XV σ H s)(hu:A.units<cLine)(g:eF X.K H a vs)(h:Rep X.K ι H f e)(d:RelV e v)(j:dG f=true) :
  (SeqAt.RcAt A s (.ref a) v false/\SeqAt.RcNeAt A s (.ref a) v true/\SeqAt.EqAt A s (.ref a) v false)/\(SeqAt.RcAt A s v (.ref a) false/\SeqAt.RcNeAt A s v (.ref a) true/\SeqAt.EqAt A s v (.ref a) false):=by
 let⟨i,k,c,_⟩:=I.tuple g;cases h with
 |non=>cases d;exact⟨⟨.tuple_none c hu,.tuple_none c hu,.tuple_none c hu⟩,⟨.none_tuple c hu,.none_tuple c hu,.none_tuple c hu⟩⟩
 |bl b=>cases d;exact⟨⟨.tuple_bool b c hu,.tuple_bool b c hu,.tuple_bool b c hu⟩,⟨.bool_tuple b c hu,.bool_tuple b c hu,.bool_tuple b c hu⟩⟩
 |int b=>let⟨t,rfl⟩:=d;exact⟨⟨.tuple_int b t c hu,.tuple_int b t c hu,.tuple_int b t c hu⟩,⟨.int_tuple b t c hu,.int_tuple b t c hu,.int_tuple b t c hu⟩⟩
 |str b=>let⟨t,rfl⟩:=d;exact⟨⟨.tuple_str b t c hu,.tuple_str b t c hu,.tuple_str b t c hu⟩,⟨.str_tuple b t c hu,.str_tuple b t c hu,.str_tuple b t c hu⟩⟩
 |_=>exact absurd j zn
def rD(I:Inv X XV σ H s)(S:aO X.K ι M H):∀(n:Nat) {A:ut} {w r:D} {z y:V} {u v:jp} {b:Bool},A.units+n<cLine->Rep X.K ι H w z->Rep X.K ι H r y->RelV z u->RelV y v->cD M n w r=some b ->
  SeqAt.RcAt A s u v b/\SeqAt.RcNeAt A s u v (!b)/\SeqAt.EqAt A s u v b
 |0,_,_,_,_,_,_,_,_,_,_,_,_,_,h=>by cases h
 |n+1,A,w,r,z,y,u,v,b,T,B,l,p,k,h=>by
  have hu:A.units<cLine:=by first|lia|omega
  have J:∀{w r:D} {z y:V} {u v:jp} {b:Bool},Rep X.K ι H w z->Rep X.K ι H r y->RelV z u->RelV y v->cD M n w r=some b->SeqAt.EqAt A.in1 s u v b :=
   λ B l p k h=>(rD I S n (A:=A.in1) (by show A.units+1+n<cLine;omega) B l p k h).2.2
  have refs:∀{a c:uc},z=.ref a->y=.ref c->SeqAt.RcAt A s (.ref a) (.ref c) b->SeqAt.EqAt A s (.ref a) (.ref c) b:=λ {a c} e1 F O=>by
   by_cases L:a=c
   ·subst L
    subst e1;subst F;rw[tH I S (n+1) B l h];exact SeqAt.EqAt.same _
   ·exact SeqAt.EqAt.of_refs L O
  by_cases m:dG w=true/\dG r=true
  ·have P:cD M (n+1) w r=some (oj w r):=by
    cases w <;> cases r <;> first|exact absurd m.1 zn|exact absurd m.2 zn|rfl
   rw[P]at h;cases h;let⟨E,C⟩:=Nq (X:=X) (H:=H) (s:=s) (ι:=ι) (A:=A) B l p k m.1 m.2;exists E,C;rw[<- RA B l m.1 m.2];exact RD p k (Bc B m.1) (Bc l m.2)
  ·cases B with
   |tup t q =>
    cases p;cases l with
    |tup d o =>
     cases k;let⟨e,f⟩:=Pw I hu J (cZ t) (cZ d) q o h;exact⟨e,f,refs rfl rfl e⟩
    |fl d o=>cases h
    |ob d=>cases h
    |non=>cases h;obtain⟨⟨e,f,g⟩,_⟩:=dB (ι:=ι) I hu (cZ t) .non k rfl;exact⟨e,f,g⟩
    |bl b=>cases h;obtain⟨⟨e,f,g⟩,_⟩:=dB (ι:=ι) I hu (cZ t) (.bl b) k rfl;exact⟨e,f,g⟩
    |int b=>cases h;obtain⟨⟨e,f,g⟩,_⟩:=dB (ι:=ι) I hu (cZ t) (.int b) k rfl;exact⟨e,f,g⟩
    |str b=>cases h;obtain⟨⟨e,f,g⟩,_⟩:=dB (ι:=ι) I hu (cZ t) (.str b) k rfl;exact⟨e,f,g⟩
   |ob t =>
    cases p;cases l with
    |ob d =>
     cases k;unfold cD at h;dsimp only at h;split at h
     ·rename_i i a j c R Q e f
      let⟨vs,e1,E⟩:=S.obj _ _ _ t e;let⟨ws,F,C⟩:=S.obj _ _ _ d f;let⟨G,N⟩:=Px I hu J (bx.of e1) (bx.of F) E C h;refine⟨G,N,refs rfl rfl G⟩
     ·cases h
    |tup d o=>cases h
    |_=>cases h
   |fl t q=>cases l <;> cases h
   |non =>
    cases l with
    |tup d o=>cases h;cases k;let⟨_,e,f,g⟩:=dB (ι:=ι) I hu (cZ d) .non p rfl;exact⟨e,f,g⟩
    |fl d o=>cases h
    |ob d=>cases h
    |_=>exact absurd ⟨rfl,rfl⟩ m
   |bl x =>
    cases l with
    |tup d o=>cases h;cases k;let⟨_,e,f,g⟩:=dB (ι:=ι) I hu (cZ d) (.bl x) p rfl;exact⟨e,f,g⟩
    |fl d o=>cases h
    |ob d=>cases h
    |_=>exact absurd ⟨rfl,rfl⟩ m
   |int x =>
    cases l with
    |tup d o=>cases h;cases k;let⟨_,e,f,g⟩:=dB (ι:=ι) I hu (cZ d) (.int x) p rfl;exact⟨e,f,g⟩
    |fl d o=>cases h
    |ob d=>cases h
    |_=>exact absurd ⟨rfl,rfl⟩ m
   |str x =>
    cases l with
    |tup d o=>cases h;cases k;let⟨_,e,f,g⟩:=dB (ι:=ι) I hu (cZ d) (.str x) p rfl;exact⟨e,f,g⟩
    |fl d o=>cases h
    |ob d=>cases h
    |_=>exact absurd ⟨rfl,rfl⟩ m
open Classical in
def Hu(I:Inv X XV σ H s)(S:aO X.K ι M H){A:ut}(hu:A.units+9<cLine){x:D}{g:V}{v:jp}(i:Rep X.K ι H x g)(m:RelV g v):∀{ds:List D} {vs:List V} {its:List jp} {b:Bool},aB X.K ι H ds vs->Vals vs its->jO M x ds=some b ->
  ∃a:List Bool,a.length=its.length/\(∀(j:Nat) (u:jp) (c:Bool),its[j]?=some u->a[j]?=some c->SeqAt.EqAt A.in1 s u v c)/\b=a.any id:=by
 intro ds;induction ds with
 |nil=>intro vs its b r q h;cases r;cases q;cases h;exact⟨[],rfl,λ j u c h=>by simp at h,rfl⟩
 |cons d ds l =>
  intro vs its b r q h;cases r with|cons r t =>
  cases q with|cons q k =>
  unfold jO at h;cases e1:cD M 8 d x with
  |none=>rw[e1]at h;cases h
  |some c =>
   rw[e1]at h;cases e2:jO M x ds with
   |none=>rw[e2]at h;cases h
   |some y =>
    rw[e2]at h;cases h;let⟨a,w,p,o⟩:=l t k e2;refine⟨c::a,by rw[zj,zj,w],λ j u n f e=>?_,by rw[o];rfl⟩;cases j with
    |zero =>
     simp at f e;subst f e;exact(rD I S 8 (A:=A.in1) (by show A.units+1+8<cLine;omega) r i q m e1).2.2
    |succ j=>exact p j u n (by simpa using f) (by simpa using e)
open Classical in
def Ht{A:ut}{its:List jp}{b:List Bool}{v:jp}(l:b.length=its.length)(h:∀(j:Nat) (u:jp) (c:Bool),its[j]?=some u->b[j]?=some c->SeqAt.EqAt A s u v c) :
  ∃e:jp->Bool,(∀y,y∈its.toArray->SeqAt.EqAt A s y v (e y))/\its.toArray.any e=b.any id:=by
 refine⟨λ y=>decide (∃j:Nat,its[j]?=some y/\b[j]?=some true),λ y n=>?_,?_⟩
 ·by_cases a:∃j:Nat,its[j]?=some y/\b[j]?=some true
  ·dsimp only
   rw[zzB a];let⟨j,m,k⟩:=a;exact h j y true m k
  ·dsimp only
   rw[zzA a];have g:y∈its:=by simpa using n
   let⟨j,d⟩:=wb.mp g;have f:j<b.length:=by rw[l];exact(zz.mp d).1
   have e:=zu f;cases hb:b[j] with
   |true=>rw[hb]at e;exact absurd ⟨j,d,e⟩ a
   |false=>rw[hb]at e;exact h j y false d e
 ·rw[zV,Array.any_eq_true]
  rwa[zzC,xu,id];constructor
  ·rintro ⟨i,hi,j,m,k⟩
   exact⟨true,zl k,rfl⟩
  ·rintro ⟨c,hc,rfl⟩
   let⟨j,d⟩:=wb.mp hc;have f:j<its.length:=by rw[<- l];exact(zz.mp d).1
   exact⟨j,by simpa using f,j,by simp[f],d⟩
end
section
variable {X:Cx}
abbrev A8(a:CmpOp)(x y:D):Mo D:=do let k<-cq a x y;pure (.bl k)
def kj(h:mT x ds M=some (.ok b,M')):jO M x ds=some b/\M'=M:=by
 unfold mT at h;cases e:jO M x ds with
 |none=>rw[e]at h;cases h
 |some c=>rw[e]at h;cases h;exact⟨rfl,rfl⟩
def Dp(h:qk x y M=some (.ok b,M')):cD M 20 x y=some b/\M'=M:=by
 unfold qk at h;cases e:cD M 20 x y with
 |none=>rw[e]at h;cases h
 |some c=>rw[e]at h;cases h;exact⟨rfl,rfl⟩
def LH(h:inD x y M=some (.ok b,M')):M'=M:=by
 unfold inD at h;split at h
 ·split at h
  ·exact(af h).2
  ·exact(ai h).elim
 ·exact(kj h).2
 ·exact(kj h).2
 ·have⟨o,k,e,a⟩:=aa h
  have c:=(kl e).2;cases o with
  |lst ds=>rw[(kj a).2,c]
  |bC d =>
   have⟨_,_,i,f⟩:=aa a;rw[(af f).2,(bh i).2,c]
 ·exact(ai h).elim
def LG(hu:X.A.units+100<cLine)(neg:Bool){m:List (uc×Obj)}{s:kt}{σ:St}{H:Hp}{x y:V}{v u:jp}{Q:VK}(I:Inv X m σ H s)(d:RelV x v)(n:RelV y u){ι:List uc}{M M':MH}{J Z:D}{b:Bool}
  (S:aO X.K ι M H) (p:Rep X.K ι H J x) (r2:Rep X.K ι H Z y) (e:inD J Z M=some (.ok b,M')) (q:Q (.bl (if neg then !b else b)) H) :
  wpAny (model X.prog X.w) X.A (compareOp (if neg then .NotIn else .In) v u) (EP X m σ Q) X.xe s:=by
 have seq:∀{a:uc} {vs:List V} {ds:List D},y=.ref a->(bx X.K H a vs\/eF X.K H a vs)->aB X.K ι H ds vs->jO M J ds=some b ->
   wpAny (model X.prog X.w) X.A (compareOp (if neg then .NotIn else .In) v u) (EP X m σ Q) X.xe s:=λ {a vs ds} ey c T U=>by
  subst ey;cases n;rcases c with c|c
  ·let⟨E,B,f,_⟩:=I.list c
   let⟨kS,N,L,rfl⟩:=Hu I S (A:=X.A) (by first|lia|omega) p d T B U
   let⟨e,e1,h⟩:=Ht N L;cases neg with
   |false=>exact SeqAt.in_listAt e f.isList e1 ⟨.bl _,H,I,rfl,by rw[h];exact q⟩
   |true=>exact SeqAt.notIn_listAt e f.isList e1 ⟨.bl _,H,I,rfl,by rw[h];exact q⟩
  ·let⟨E,B,f,_⟩:=I.tuple c
   let⟨kS,N,L,rfl⟩:=Hu I S (A:=X.A) (by first|lia|omega) p d T B U
   let⟨e,e1,h⟩:=Ht N L;cases neg with
   |false=>exact SeqAt.in_tupleAt e f e1 ⟨.bl _,H,I,rfl,by rw[h];exact q⟩
   |true=>exact SeqAt.notIn_tupleAt e f e1 ⟨.bl _,H,I,rfl,by rw[h];exact q⟩
 cases r2 with
 |str j =>
  cases p with
  |str i =>
   symm at e;cases neg with
   |false=>exact G2 m s σ H _ _ v u Q I d n ⟨i,j,rfl,rfl,q⟩
   |true=>exact Al m s σ H _ _ v u Q I d n ⟨i,j,rfl,rfl,q⟩
  |_=>exact(ai e).elim
 |tup t r=>exact seq rfl (.inr (cZ t)) r (kj e).1
 |fl t r=>exact seq rfl (.inl t.seq) r (kj e).1
 |ob t =>
  have⟨o,M1,e1,e⟩:=aa e;have⟨g,rfl⟩:=kl e1;cases o with
  |lst ds =>
   let⟨a,vs,G,_,z,F⟩:=aY S (.ob t) g;exact seq G (.inl (bx.of z)) F (kj e).1
  |bC C =>
   let⟨a,ws,G,_,z,F⟩:=eZ S (.ob t) g;have⟨k,_,Y,W⟩:=aa e;have⟨hk,hM⟩:=bh Y;have⟨rfl,_⟩:=af W;have hx:=sI p hk;subst hx;cases G;obtain rfl:u=Value.ref _:=n;have c:(gh ws k).isSome=(cX C k).isSome:=by
    rcases F.find k with ⟨R,P⟩|⟨_,_,R,P,_⟩ <;> rw[R,P]
    ·rfl
    ·rfl
   rw[<- c]at q;cases neg with
   |false=>exact Wd (by first|lia|omega) I (kY.k (k:=k) z) d λ s3 O=>⟨.bl _,H,O,rfl,q⟩
   |true=>exact Ot (by first|lia|omega) I (kY.k (k:=k) z) d λ s3 O=>⟨.bl _,H,O,rfl,q⟩
 |_=>exact(ai e).elim
def uF(h:ii f x y M=some (.ok b,M')):∃i j,x=.int i/\y=.int j/\f i j=b/\M'=M:=by
 cases x <;> first|exact(ai h).elim|skip
 cases y <;> first|exact(ai h).elim|skip
 let⟨c,a⟩:=af h;exact⟨_,_,rfl,rfl,c.symm,a⟩
def LF(r:Rep X.K ι H d y)(h:pL d=true):y=.non:=by cases r <;> first|rfl|cases h
def C4(r:Rep X.K ι H d x):decide (x=.non)=pL d:=by cases r <;> rfl
def l7(hu:X.A.units+100<cLine)(C:CmpOp):dD X (compareOp C) (DD X.K (A8 C)):=by
 intro t s σ H x y v u Q I m l h;obtain⟨ι,M,G,L,J,d,S,o,n,e,k⟩:=h;have⟨b,P,e1,D⟩:=aa e;symm at D;have a:G=M->Q (.bl b) H:=λ z=>by subst z;exact k (.bl b) H ι (.bl b) S Ext.refl
 cases C with
 |Eq =>
  have⟨q,rfl⟩:=Dp e1;exact(rD I S 20 (A:=X.A) (by first|lia|omega) o n m l q).1 X.prog X.w X.xe _ ⟨.bl b,H,I,rfl,a rfl⟩
 |NotEq =>
  have⟨c,_,g,f⟩:=aa e1;have⟨q,rfl⟩:=Dp g;symm at f;exact(rD I S 20 (A:=X.A) (by first|lia|omega) o n m l q).2.1 X.prog X.w X.xe _ ⟨.bl (!c),H,I,rfl,a rfl⟩
 |Lt =>
  let⟨i,j,rfl,rfl,rfl,rfl⟩:=uF e1;obtain rfl:=o.iI;obtain rfl:=n.iI;exact SW t s σ H _ _ v u Q I m l ⟨_,_,rfl,rfl,a rfl⟩
 |LtE =>
  let⟨i,j,rfl,rfl,rfl,rfl⟩:=uF e1;obtain rfl:=o.iI;obtain rfl:=n.iI;exact SX t s σ H _ _ v u Q I m l ⟨_,_,rfl,rfl,a rfl⟩
 |Gt =>
  let⟨i,j,rfl,rfl,rfl,rfl⟩:=uF e1;obtain rfl:=o.iI;obtain rfl:=n.iI;exact SY t s σ H _ _ v u Q I m l ⟨_,_,rfl,rfl,a rfl⟩
 |GtE =>
  let⟨i,j,rfl,rfl,rfl,rfl⟩:=uF e1;obtain rfl:=o.iI;obtain rfl:=n.iI;exact S7 t s σ H _ _ v u Q I m l ⟨_,_,rfl,rfl,a rfl⟩
 |In=>exact LG hu false I m l S o n e1 (a (LH e1))
 |NotIn =>
  have⟨N,O,g,f⟩:=aa e1;symm at f;exact LG hu true I m l S o n g (a (LH g))
 |Is =>
  have⟨_,_,g,f⟩:=aa e1;have⟨q,rfl⟩:=aR g;symm at f;obtain rfl:=LF n q;refine Qa t s σ H _ _ v u Q I m l ⟨rfl,?_⟩;rw[C4 o];exact a rfl
 |IsNot =>
  have⟨_,_,g,f⟩:=aa e1;have⟨q,rfl⟩:=aR g;symm at f;obtain rfl:=LF n q;refine NJ t s σ H _ _ v u Q I m l ⟨rfl,?_⟩;rw[C4 o];exact a rfl
def Ox{r:List (uc×Obj)}{s:kt}{σ:St}{H:Hp}{a b:uc}{us:List V}{Q:jp->kt->Prop}{E:jp->kt->Prop}(I:Inv X r σ H s)(g:eF X.K H a [])(f:eF X.K H b us)(q:Q (.ref b) s):wpAny (model X.prog X.w) X.A (binaryOp .Add (.ref a) (.ref b)) Q E s:=by
 let⟨m,i,k,_⟩:=I.tuple g;let⟨p,v,j,_⟩:=I.tuple f;cases i;obtain⟨⟨cls,o,data,h⟩,ho,hc,n,hd⟩:=id k;obtain⟨⟨x,t,data2,u⟩,e,d,l,c⟩:=id j;simp only at hc hd d c;subst hc hd d c;exact concat_meets ⟨_,ho,rfl⟩ ⟨_,e,rfl⟩ noFill_tuple_add seq_tuple_add PySem.F.slot_tuple_add PySem.F.entry_tuple_add (PySem.F.args_tuple_add_2 _ _)
  (tuple_addW0 a b _ p.toArray n l o t h u (by simp)) ⟨ho,e,q⟩
def Qc(D:Operator):dD X (binaryOp D) (DD X.K (fj D)):=by
 intro o s σ H x y v u Q I l j h;obtain⟨ι,M,R,q,p,d,S,n,m,e,k⟩:=h;have g:∀{t:V},R=M->Rep X.K ι H d t->Q t H:=λ {t} z r=>by subst z;exact k t H ι r S Ext.refl
 cases D
 case Add =>
  cases q <;> first|exact(ai e).elim|(cases p <;> first|exact(ai e).elim|skip)
  ·delta fj at e
   dsimp only at e;symm at e;obtain rfl:=n.iI;obtain rfl:=m.iI;exact Qd o s σ H _ _ v u Q I l j ⟨_,_,rfl,rfl,g rfl (.int _)⟩
  ·delta fj at e
   dsimp only at e;have⟨_,_,e1,e⟩:=aa e;have⟨i,rfl⟩:=aR e1;symm at e;obtain rfl:=n.iS;obtain rfl:=m.iS;exact ES o s σ H _ _ v u Q I l j ⟨_,_,rfl,rfl,i,g rfl (.str _)⟩
  ·delta fj at e
   dsimp only at e;have⟨_,_,e1,e⟩:=aa e;have⟨J,rfl⟩:=aR e1;symm at e;cases n.iT with
   |mk C A =>
    cases m.iT with
    |mk B w =>
     rename_i a vs b E;by_cases i:vs=[]
     ·subst i
      cases A;cases l;cases j;exact Ox I (cZ C) (cZ B) ⟨.ref _,H,I,rfl,k _ H ι (.tup B w) S Ext.refl⟩
     ·refine NL o s σ H _ _ v u Q I l j ⟨_,_,_,_,rfl,rfl,cZ C,cZ B,i,by rw[<- A.length,<- w.length];exact J,λ z=>?_,λ z=>kh S (A.append w) k⟩
      subst z;cases w;rw[zO]at k;exact k _ H ι (.tup C A) S Ext.refl
  ·delta fj at e
   dsimp only at e;have⟨U,_,e1,e⟩:=aa e;have⟨P,rfl⟩:=cH e1;have⟨T,_,e1,e⟩:=aa e;have⟨O,rfl⟩:=cH e1;have⟨_,_,e1,e⟩:=aa e;have⟨i,rfl⟩:=aR e1;let⟨a,vs,rfl,_,N,G⟩:=aY S n P;let⟨b,E,rfl,_,L,F⟩:=aY S m O;exact Qb o s σ H _ _ v u Q I l j ⟨a,b,vs,E,rfl,rfl,N,L,by rw[<- G.length,<- F.length];exact i,iB S (G.append F) e k⟩
 case Sub =>
  cases q <;> first|exact(ai e).elim|(cases p <;> first|exact(ai e).elim|skip)
  ·delta fj at e
   dsimp only at e;symm at e;obtain rfl:=n.iI;obtain rfl:=m.iI;exact PX o s σ H _ _ v u Q I l j ⟨_,_,rfl,rfl,g rfl (.int _)⟩
 case Mult =>
  cases q <;> first|exact(ai e).elim|(cases p <;> first|exact(ai e).elim|skip)
  ·delta fj at e
   dsimp only at e;have⟨_,_,e1,e⟩:=aa e;have⟨i,rfl⟩:=aR e1;symm at e;obtain rfl:=n.iI;obtain rfl:=m.iI;exact PZ o s σ H _ _ v u Q I l j ⟨_,_,rfl,rfl,i,g rfl (.int _)⟩
 case FloorDiv =>
  cases q <;> first|exact(ai e).elim|(cases p <;> first|exact(ai e).elim|skip)
  ·delta fj at e
   dsimp only at e;have⟨_,_,e1,e⟩:=aa e;have⟨i,rfl⟩:=aR e1;symm at e;obtain rfl:=n.iI;obtain rfl:=m.iI;exact NK o s σ H _ _ v u Q I l j ⟨_,_,rfl,rfl,i,g rfl (.int _)⟩
 case Mod =>
  cases q <;> first|exact(ai e).elim|(cases p <;> first|exact(ai e).elim|skip)
  ·delta fj at e
   dsimp only at e;have⟨_,_,e1,e⟩:=aa e;have⟨i,rfl⟩:=aR e1;symm at e;obtain rfl:=n.iI;obtain rfl:=m.iI;exact P0 o s σ H _ _ v u Q I l j ⟨_,_,rfl,rfl,i,g rfl (.int _)⟩
 case Pow =>
  cases q <;> first|exact(ai e).elim|(cases p <;> first|exact(ai e).elim|skip)
  ·delta fj at e
   dsimp only at e;have⟨_,_,e1,e⟩:=aa e;have⟨i,rfl⟩:=aR e1;symm at e;obtain rfl:=n.iI;obtain rfl:=m.iI;exact PY o s σ H _ _ v u Q I l j ⟨_,_,rfl,rfl,i,g rfl (.int _)⟩
 all_goals exact(ai e).elim
def N5(hu:X.A.units+100<cLine):DG X (λ x y H Q=>∃a v,x=.ref a/\kY H a y (some v)/\Q v H):=by
 intro value slice l s σ H x y v u Q I e d h f;let⟨a,c,rfl,g,q⟩:=h;obtain rfl:v=Value.ref a:=e;exact tail_any (Cb I g) PySem.F.slot_dict_getitem.lookup (Ii (by first|lia|omega) I g d λ j k i b=>⟨c,H,i,b,q⟩) f
def Qz(hu:X.A.units+100<cLine):DG X (DD X.K gW):=by
 intro value slice D s σ H x y v u Q I m l h w;obtain⟨ι,M,T,W,U,d,S,p,n,e,k⟩:=h;have i:∀{f:V},T=M->Rep X.K ι H d f->Q f H:=λ {f} z r=>by subst z;exact k f H ι r S Ext.refl
 unfold gW at e;split at e
 ·have⟨e1,rfl⟩:=bh e
  cases n;cases p with
  |tup t q =>
   let⟨f,C,B⟩:=si q e1;exact Qx value slice D s σ H _ _ v u Q I m l ⟨_,_,_,f,rfl,rfl,cZ t,C,i rfl B⟩ w
 ·have⟨e1,rfl⟩:=bh e
  cases n;cases p with
  |fl t q =>
   let⟨f,C,B⟩:=si q e1;exact CZ value slice D s σ H _ _ v u Q I m l ⟨_,_,_,f,rfl,rfl,t.seq,C,i rfl B⟩ w
 ·have⟨_,_,e1,e⟩:=aa e
  have⟨O,rfl⟩:=aR e1;have⟨c,_,e1,e⟩:=aa e;have⟨hc,rfl⟩:=bh e1;symm at e;cases n;cases p;exact Qy value slice D s σ H _ _ v u Q I m l ⟨_,_,c,rfl,rfl,O,hc,i rfl (.str _)⟩ w
 ·have⟨o,_,e1,e⟩:=aa e
  have⟨g,rfl⟩:=kl e1;cases o with
  |lst ds =>
   dsimp only at e;split at e
   ·have⟨e1,rfl⟩:=bh e
    let⟨a,vs,rfl,_,G,F⟩:=aY S p g;cases n;let⟨f,C,B⟩:=si F e1;exact CZ value slice D s σ H _ _ v u Q I m l ⟨_,_,_,f,rfl,rfl,bx.of G,C,i rfl B⟩ w
   ·exact(ai e).elim
  |bC L =>
   have⟨q,_,e1,e⟩:=aa e;have⟨P,rfl⟩:=bh e1;have⟨e1,rfl⟩:=bh e;let⟨a,ws,rfl,_,G,F⟩:=eZ S p g;have N:=sI n P;subst N;rcases F.find q with ⟨E,J⟩|⟨d',f,E,J,z3⟩
   ·rw[E]at e1;cases e1
   ·rw[E]at e1;cases e1
    have R:kY H a (kV q) (some f):=J▸kY.k (k:=q) G;exact N5 hu value slice D s σ H _ _ v u Q I m l ⟨a,f,rfl,R,i rfl z3⟩ w
 ·exact(ai e).elim
abbrev RY(K:Q_):FX:=λ o i v H Q=>∃ι M b x y z u,aO K ι M H/\Rep K ι H x o/\Rep K ι H y i/\Rep K ι H z v/\setIx x y z M=some (.ok u,b) /\
 ∀a,aO K ι b a->Ext K ι H ι a->Q a
def Pk(hu:X.A.units+100<cLine):KD X (RY X.K):=by
 intro J s σ H o i v w C u Q I m n l h;obtain⟨ι,M,P,x,y,z,N,S,t,r,p,e,k⟩:=h;unfold setIx at e;split at e
 ·have⟨ob,_,e1,e⟩:=aa e
  have⟨g,rfl⟩:=kl e1;cases ob with
  |lst ds =>
   dsimp only at e;split at e
   ·have⟨j,_,e1,e⟩:=aa e
    have⟨G,rfl⟩:=bh e1;have⟨_,rfl⟩:=oJ e;let⟨a,vs,rfl,hi,f,d⟩:=aY S t g;cases r;refine set_list J s σ H _ _ v w C u Q I m n l ⟨a,vs,_,j,rfl,rfl,f,by rw[<- d.length];exact G,?_⟩;have x:Ext X.K ι H ι (upd H a (.lst (vs.set j v))):=Ext.write f (uD _);exact k _ (S.put hi ⟨_,rfl,(d.mono x).set (p.mono x) j⟩) x
   ·exact(ai e).elim
  |bC B =>
   have⟨q,_,e1,e⟩:=aa e;have⟨F,rfl⟩:=bh e1;have⟨_,_,e1,e⟩:=aa e;have⟨E,rfl⟩:=aR e1;have⟨_,rfl⟩:=oJ e;let⟨a,ws,rfl,hi,f,d⟩:=eZ S t g;have D:=sI r F;subst D;obtain rfl:w=Value.ref a:=m;have x:Ext X.K ι H ι (upd H a (.dK (putK ws q v))):=Ext.write f (EX _);refine Ih (by first|lia|omega) I (FZ.k (k:=q) f (by rw[<- d.len];exact E)) n l λ O L=>⟨_,L,?_⟩
   exact k _ (S.put hi ⟨_,rfl,(d.mono x).put q (p.mono x)⟩) x
 ·exact(ai e).elim
end
end L3
namespace L3
open PySem PySem.Spec PyProof.Rows L2
section
variable {prog:uf}{w:ul}{K:Type}[DecidableEq K]{knd:PySem.KeyKind prog w K}{A:ut}{E:jp->kt->Prop}
end
section
variable {prog:uf}{w:ul}{A:ut}{E:jp->kt->Prop}{s:kt}
def nG{t b:uc}{items:Array jp}{vl c:jp}{lo hi:Option Int}{Q:jp->kt->Prop}(a:IsTup s.heap t items)(d:s.heap.IsSliceOf b vl c .none)(pl:IsPart vl lo)(e:IsPart c hi)
  (hw:HT.bA items.size 0 lo=0/\HT.bA items.size items.size hi=items.size) (h:Q (.ref t) s):wpAny (model prog w) A (getItem (.ref t) (.ref b)) Q E s:=by
 let⟨os,j,g,k⟩:=id d;have i:s.TypeIs (.ref b) "slice":=⟨os,j,g⟩;unfold getItem
 try with_reducible refine wpAny_holding ?_
 first|refine zw (zo ?_)|skip
 refine zw (wpAny_sequenceKey a.typeIs (by decide) ?_);refine zw (wpAny_callSpecial?_slot (name:=Str.ofString "__getitem__") a.typeIs G_
  (wpAny_call_entry G_ a.typeIs entry_tuple_getitem ?_ (args_tuple_getitem _ _)))
 show wpAny _ _ (Builtin.Tuple.tupleItemsOf (.ref t) >>= _) _ _ s;refine zw (tupleItemsOf_ a ?_);refine zw (wpAny_typeOf i ?_);rw[if_pos (by decide)];refine zw (HT.ky d pl e ?_);have f:(((HT.bA items.size 0 lo:Nat):Int)==0&&(1:Int)==1&&(HT.bA items.size items.size hi-HT.bA items.size 0 lo)==items.size)=true:=by
  rw[hw.1,hw.2];simp
 show wpAny _ _ (if (((HT.bA items.size 0 lo:Nat):Int)==0&&(1:Int)==1&&(HT.bA items.size items.size hi-HT.bA items.size 0 lo)==items.size)=true then _ else _) _ _ s;rw[if_pos f];refine zw ?_;refine zw (wpAny_typeOf a.typeIs ?_);refine zo ?_;rw[if_pos (by decide)];refine zw (wpAny_rule ?_)
 first
  |exact zw (zo (zo ⟨_,rfl,zo h⟩))
  |exact zo ⟨_,rfl,zo h⟩
  |exact zw (zo ⟨_,rfl,zo h⟩)
end
section
variable {X:Cx}
abbrev Mz(T:String)(name:Str)(a:String):Prop:=PlainAttrs T/\Slot T name a/\typeOf (.builtin a)=pure (.type "method_descriptor")
abbrev uP(X:Cx)(T:String)(x:V)(H:Hp):Prop:=∀(b:List (uc×Obj)) (σ:St) (s:kt) (v:jp),Inv X b σ H s->RelV x v->s.TypeIs v T/\∀a,v=.ref a->∃ob,s.heap.get? a=some ob/\ob.dict=none
abbrev O5(X:Cx)(name:Str)(r:String->V->List V->Hp->VK->Prop)(to:TE)(t:TA):TE:=λ σ H Q=>to σ H λ x b=>∃T a,Mz T name a/\uP X T x b/\t σ b λ c d=>r a x c d Q
def PU{name:Str}{r:String->V->List V->Hp->VK->Prop}{o e:Expr}{es:List Expr}{to:TE}{t:TA}{apos cpos:Pos}(q:∀a,um X a (r a))(ho:PE X o to)(u:PA X (e::es) t)
  (F:attributeBase o name X.env (eval o X.env)=eval o X.env)
  (A:((backTo cpos (starEach (e::es) X.env)).all (λ x=>!x.1)&&(backToKw cpos (keywordEach [] X.env)).all (λ x=>x.1.isSome)
  &&decide ((e::es).length+([]:List Keyword).length+(if ([]:List Keyword).isEmpty then 0 else 1)<30))=true)
  (G:(apos.endLine==cpos.line)=true) (p:starEach (e::es) X.env=(false,eval e X.env)::starEach es X.env) (B:(backTo cpos (starEach es X.env)).any (·.1)=false) :
  PE X (.Call (.Attribute o name apos) (e::es) [] cpos) (O5 X name r to t):=by
 intro b s σ H Q I h;refine wpAny_Call_method_late F A G rfl (aJ (ho b s σ H _ I h) λ v c ⟨x,E,g,d,T,a,⟨n,slot,z⟩,ty,m⟩=>?_);let⟨y,w⟩:=ty b σ c v g d;exists T,a,n,slot,z,y,w;have f:=u cpos b c σ E _ g m;rw[p]at f ⊢;refine Calls.callWith_builtin (by show (false||(backTo cpos (starEach es X.env)).any (·.1))=false;rw[B] <;> rfl) (Calls.evalArgs_plain ?_);exact aJ f λ i j ⟨vs,D,C,k,l⟩=>q a b j σ D x vs v i Q C d k l
def qc(h:bx X.K H a xs):uP X "list" (.ref a) H:=λ b σ s v I r=>uY I r (.inl ⟨rfl,xs,h⟩)
def oH:uP X "str" (.str y) H:=λ a σ s v I r=>uY (X:=X) I r rfl
def mL{K:Q_}{ι:List uc}{H:Hp}{d:D}{vs:List V}(r:aB K ι H [d] vs):∃v,vs=[v]/\Rep K ι H d v:=by
 cases r with|cons b a=>cases a;exact⟨_,rfl,b⟩
def SH{K:Q_}{ι:List uc}{H:Hp}{d e:D}{vs:List V}(r:aB K ι H [d,e] vs):∃v u,vs=[v,u]/\Rep K ι H d v/\Rep K ι H e u:=by
 cases r with|cons c a=>cases a with|cons a b=>cases b;exact⟨_,_,rfl,c,a⟩
def qd{K:Q_}{ι:List uc}{M M':MH}{H:Hp}{k:Nat}{a:uc}{ds es:List D}{vs ws:List V}{u:Unit}(S:aO K ι M H)(hi:ι[k]?=some a)(b:H a=some (.lst vs))(r:aB K ι H es ws)(e:e9 k (.lst es) M=some (.ok u,M')) :
  aO K ι M' (upd H a (.lst ws))/\Ext K ι H ι (upd H a (.lst ws)):=by
 have⟨_,rfl⟩:=oJ e;have x:Ext K ι H ι (upd H a (.lst ws)):=Ext.write b (uD _);exact⟨S.put hi ⟨_,rfl,r.mono x⟩,x⟩
def EY:um X "list.extend" (λ x vs H Q=>∃l b xs zs,x=.ref l/\vs=[.ref b]/\H l=some (.lst xs)/\eF X.K H b zs/\xs.length+zs.length<=zi/\Q .non (upd H l (.lst (xs++zs)))):=by
 intro L s σ H x vs v B Q I o p h;let⟨l,b,xs,zs,rfl,rfl,g,i,E,q⟩:=h;cases o;let⟨u,rfl,t⟩:=p.one;cases t;let⟨z,a,n,r,G,e⟩:=I.sE g;obtain⟨c,f,⟨⟨cls,J,data,C⟩,ho,hc,w,hd⟩,A⟩:=I.tuple i;let⟨D,j,m,k⟩:=I.Gm i;rw[ho]at j;cases j;simp only at hc hd m k;subst hc hd m k;have M:=f.length;have d:a.toArray.size+c.toArray.size<=zi:=by rw[zD,zD];omega
 have y:¬ (!a.toArray.isEmpty&&Builtin.List.listTooLong (a.toArray.size+c.toArray.size))=true:=by
  rw[Ap d,yp];exact zn
 refine call_meets F.slot_list_extend ⟨_,e,rfl⟩ F.entry_list_extend (F.args_list_extend_2 _ _)
  (AutoSeq1.list_extend_list_tuple_0 l a.toArray n b c.toArray w y (by rw[zD];omega) (by first|lia|omega)) ⟨e,ho,?_⟩
 refine⟨.non,_,I.lset (its':=a++c) g e (by simp) (r.append f) ?_,rfl,q⟩;rw[zx];first|lia|omega
def A4(t:Str)(ys:List Str):Builtin.Str.glued t ys=fV t ys:=by
 have gen:∀(ys:List Str) (a:Array Nat),(ys.foldl (λ a p=>a++t.cps++p.cps) a).toList=a.toList++(ys.map λ p=>t.cps.toList++p.cps.toList).flatten:=by
  intro ys;induction ys with
  |nil=>intro a;simp
  |cons y r b =>
   intro a;rw[List.foldl_cons,b];simp
 have gl:∀(y:Str) (r:List Str),glue t.cps.toList ((y::r).map (·.cps.toList))=y.cps.toList++(r.map λ p=>t.cps.toList++p.cps.toList).flatten:=by
  intro y r;induction r generalizing y with
  |nil=>simp[glue]
  |cons z r b =>
   show y.cps.toList++t.cps.toList++glue t.cps.toList ((z::r).map (·.cps.toList))=_;rw[b];simp
 unfold Builtin.Str.glued fV;congr 1;apply xA.mp;cases ys with
 |nil=>rfl
 |cons y r =>
  rw[gl];rwa[List.drop_succ_cons,xg,List.headD_cons];rw[gen]
abbrev rJoin(K:Q_):V->List V->Hp->VK->Prop:=λ x vs H Q=>∃t l a,x=.str t/\vs=[.ref l]/\bx K H l (a.map V.str)/\(a.map (·.length)).sum+a.length*t.length<=16777216/\Q (.str (fV t a)) H
def p7:∀{ys:List Str} {us:List jp},Vals (ys.map V.str) us->StrsAre us ys
 |[],_,.nil=>.nil
 |y::ys,_,.cons ⟨t,e⟩ r=>by subst e;exact .cons y t (p7 r)
abbrev SM:V->List V->Hp->VK->Prop:=λ x vs H Q=>∃a b,x=.str a/\vs=[.str b]/\Q (.int (findS a b)) H
def NV:um X "str.find" SM:=by
 intro j s σ H x vs v f Q I c d h;let⟨a,b,rfl,rfl,q⟩:=h;let⟨g,rfl⟩:=c;let⟨u,rfl,e⟩:=d.one;let⟨i,rfl⟩:=e;exact SC.find ⟨.int _,H,I.tok _,⟨_,rfl⟩,q⟩
abbrev Py:V->List V->Hp->VK->Prop:=λ x vs H Q=>∃a b,x=.str a/\vs=[.str b]/\(0<b.length/\a.length<=zi/\(ax a b).length<=zi)/\∀p,H p=none->Q (.ref p) (upd H p (.lst ((ax a b).map V.str)))
def tq:∀(k:Nat) (xs:List Str),Vals (xs.map V.str) (strsFrom k xs)
 |_,[]=>.nil
 |k,_::r=>.cons ⟨k,rfl⟩ (tq (k+1) r)
def JO:um X "str.split" Py:=by
 intro p s σ H x vs v r Q I k l h;obtain⟨a,b,rfl,rfl,⟨o,n,i⟩,q⟩:=h;let⟨c,rfl⟩:=k;let⟨u,rfl,m⟩:=l.one;let⟨g,rfl⟩:=m;have j:(b.length==0)=false:=zzF.mpr (yi o);have one:ax a b=[a]->EP X p σ Q (.ref s.heap.objs.size) { s with heap:=s.heap.push { cls:=.type "list",data:=.seq [Value.str a c].toArray } }:=λ e=>by
  rw[e]at q;have hv:Vals [V.str a] [Value.str a c]:=.cons ⟨c,rfl⟩ .nil;exact⟨.ref s.heap.objs.size,_,I.JS (t':=s.toks) hv (by show 1<=zi;decide),rfl,q _ I.fresh⟩
 by_cases d:(decide (a.length<b.length)||decide (Builtin.Str.strKind a<Builtin.Str.strKind b))=true
 ·have e:ax a b=[a]:=by unfold ax;rw[if_pos d]
  exact call_meets PySem.F.slot_str_split (typeIs_str _ _ _) PySem.F.entry_str_split (PySem.F.args_str_split_2 _ _) (meets_str_split_cannot_occur a b c g d) (one e)
 ·by_cases f:(Builtin.Str.occurrences a b 0 a.length (a.length+1)).isEmpty=true
  ·have e:ax a b=[a]:=by unfold ax;rw[if_neg d,if_pos f]
   exact call_meets PySem.F.slot_str_split (typeIs_str _ _ _) PySem.F.entry_str_split (PySem.F.args_str_split_2 _ _) (meets_str_split_not_found a b c g (xU.mpr d) j f) (one e)
  ·have e:ax a b=Builtin.Str.partsBetween a (Builtin.Str.occurrences a b 0 a.length (a.length+1)) b.length:=by unfold ax;rw[if_neg d,if_neg f]
   rw[e]at q i;exact call_meets PySem.F.slot_str_split (typeIs_str _ _ _) PySem.F.entry_str_split (PySem.F.args_str_split_2 _ _) (meets_str_split_sep a b c g (xU.mpr d) j (xU.mpr f) n i)
    ⟨.ref s.heap.objs.size,_,I.JS (tq _ _) (by rw[zy];exact i),rfl,q _ I.fresh⟩
abbrev SK:V->List V->Hp->VK->Prop:=λ x vs H Q=>∃a b,x=.str a/\vs=[.str b]/\(0<b.length/\a.length<=zi)/\∀p,H p=none->Q (.ref p) (upd H p (.tup ((iP a b).map V.str)))
def As:um X "str.partition" SK:=by
 intro n s σ H x vs v m Q I e f h;obtain⟨a,b,rfl,rfl,⟨l,j⟩,q⟩:=h;let⟨c,rfl⟩:=e;let⟨u,rfl,g⟩:=f.one;let⟨d,rfl⟩:=g;have k:(b.length==0)=false:=zzF.mpr (yi l);refine call_meets PySem.F.slot_str_partition (typeIs_str _ _ _) PySem.F.entry_str_partition (PySem.F.args_str_partition_2 _ _) (meets_str_partition a b c d k j) ?_;unfold iP at q;revert q;cases Builtin.Str.occurrences a b 0 a.length 1 with
 |nil=>exact λ q=>⟨.ref s.heap.objs.size,_,I.laid (o:=.tup ([a,Str.empty,Str.empty].map V.str)) (λ b ob q=>zv _ q) (zq _) ⟨by show 3<=zi;decide,_,.cons ⟨_,rfl⟩ (.cons ⟨_,rfl⟩ (.cons ⟨_,rfl⟩ .nil)),nj.new _ _⟩,rfl,q _ I.fresh⟩
 |cons i r=>exact λ q=>⟨.ref s.heap.objs.size,_,I.laid (o:=.tup ([Builtin.Str.strSub a 0 i,b,Builtin.Str.strSub a (i+b.length) a.length].map V.str)) (λ b ob q=>zv _ q) (zq _) ⟨by show 3<=zi;decide,_,.cons ⟨_,rfl⟩ (.cons ⟨_,rfl⟩ (.cons ⟨_,rfl⟩ .nil)),nj.new _ _⟩,rfl,q _ I.fresh⟩
def NU:um X "str.join" (rJoin X.K):=by
 intro n s σ H x vs v j Q I b c h;let⟨t,l,ys,rfl,rfl,i,g,q⟩:=h;let⟨m,rfl⟩:=b;let⟨u,rfl,d⟩:=c.one;cases d;let⟨f,r,p,_⟩:=I.list i;refine PyProof.Rows.join_list p.isList (p7 (by simpa using r)) g λ a k=>?_;have e:PySem.Txt.join t ys=fV t ys:=A4 t ys;rw[e];exact⟨.str _,H,I.tok _,⟨a,rfl⟩,q⟩
abbrev Pz(K:Q_):V->List V->Hp->VK->Prop:=λ x vs H Q=>∃t l a,x=.str t/\vs=[.ref l]/\eF K H l (a.map V.str)/\(a.map (·.length)).sum+a.length*t.length<=16777216/\Q (.str (fV t a)) H
def JP:um X "str.join" (Pz X.K):=by
 intro n s σ H x vs v j Q I b c h;let⟨t,l,ys,rfl,rfl,i,g,q⟩:=h;let⟨m,rfl⟩:=b;let⟨u,rfl,d⟩:=c.one;cases d;let⟨f,r,p,_⟩:=I.tuple i;refine PyProof.Rows.join_tuple p (p7 (by simpa using r)) g λ a k=>?_;have e:PySem.Txt.join t ys=fV t ys:=A4 t ys;rw[e];exact⟨.str _,H,I.tok _,⟨a,rfl⟩,q⟩
def W3(xs:List V)(lo hi:Option Int):qp xs lo hi=cutD xs lo hi:=rfl
def qa{K:Q_}{ι:List uc}{H:Hp}{ds:List D}{vs:List V}(r:aB K ι H ds vs)(lo hi:Option Int):aB K ι H (cutD ds lo hi) (cutD vs lo hi):=by
 unfold cutD;rw[<- r.length];exact(r.drop _).take _
def t5{α:Type}{xs:List α}{lo hi:Option Int}(h:(cutD xs lo hi).length=xs.length):cutD xs lo hi=xs:=by
 unfold cutD at h ⊢;rw[zS,yr]at h;have a:eS xs.length 0 lo=0\/xs.length=0:=by first|lia|omega
 rcases a with a|a
 ·rw[a]at h ⊢
  rw[xg,yM (by first|lia|omega)]
 ·have e:xs=[]:=yW.mp a
  subst e;simp
def Il(i j:Nat):(if (i:Int)<(j:Int) then ((j:Int)-(i:Int)+1-1) / 1 else 0).toNat=j-i:=by
 rw[Int.add_sub_cancel,wS];split
 ·exact Int.toNat_sub j i
 ·rename_i h
  exact(Nat.sub_eq_zero_of_le (Int.ofNat_le.mp (Int.not_lt.mp h))).symm
def GB(x:Str)(lo hi:Option Int):Txt.slice x lo hi=⟨(cutD x.cps.toList lo hi).toArray⟩:=by
 have ext:∀(a b:Str),a.cps.toList=b.cps.toList->a=b:=λ a b h=>by
  cases a;cases b;simp only at h;congr 1;exact xA.mp h
 have p:x.length=x.cps.toList.length:=by simp[Str.length]
 have q:∀(i j n:Nat),i<=n->j<=n->Builtin.Str.strSliceIndices lo hi 1 n=sliceRange (i:Int) (j:Int) 1->((Builtin.Str.strSliceIndices lo hi 1 n).filterMap (x.cps[·]?))=((x.cps.toList.drop i).take (j-i))\/n≠x.length:=by
  intro i j n C B e;by_cases s:n=x.length
  ·left
   rw[e];unfold sliceRange;rwa[show (1:Int) > 0 by decide,if_true];have hc:(if (i:Int)<(j:Int) then ((j:Int)-(i:Int)+1-1) / 1 else 0).toNat=j-i:=Il i j;rw[hc,xL];have u:((λ k=>x.cps[k]?) ∘ λ (k:Nat)=>((i:Int)+1*(k:Int)).toNat)=λ k:Nat=>x.cps.toList[i+k]?:=by
    funext k;rwa[Function.comp]
    have:((i:Int)+1*(k:Int)).toNat=i+k:=by first|lia|omega
    rw[this];simp
   rw[u];have hlen:j<=x.cps.toList.length:=by rw[<- p,<- s];exact B
   clear e hc u;have gen:∀(m:Nat) (l:List Nat),m<=l.length->(List.range m).filterMap (λ k=>l[k]?)=l.take m:=by
    intro m;induction m with
    |zero=>intro l _;rfl
    |succ m A =>
     intro l t;cases l with
     |nil=>simp at t
     |cons a r =>
      rw[wq,yB];rwa[xY,List.take_succ_cons,xL];congr 1;rw[<- A r (by simpa using t)];rfl
   have F:∀k:Nat,x.cps.toList[i+k]?=(x.cps.toList.drop i)[k]?:=λ k=>by rw[xq]
   rwa[F];exact gen (j-i) (x.cps.toList.drop i) (by rw[yr];exact wa hlen _)
  ·exact .inr s
 have f:∀(o:Option Int) (d n:Nat),d<=n->eS n d o<=n:=λ o d n hd=>by
  cases o with
  |none=>exact hd
  |some v =>
   rwa[eS];split
   ·omega
   ·exact xW _ _
 have z:Builtin.Str.strSliceIndices lo hi 1 x.length=sliceRange ((eS x.length 0 lo:Nat):Int) ((eS x.length x.length hi:Nat):Int) 1:=by
  unfold Builtin.Str.strSliceIndices;have c:∀(o:Option Int) (d:Nat),(match o with
    |none=>(d:Int)
    |some i=>max 0 (min (if i<0 then i+(x.length:Int) else i) (x.length:Int)))=((eS x.length d o:Nat):Int):=λ o d=>by
   cases o with
   |none=>rfl
   |some v=>rwa[eS];split <;> omega
  have y:=c lo 0;have w:=c hi x.length;rwa[show (1:Int) > 0 by decide,if_true]at y w ⊢;rw[<- y,<- w];cases lo <;> cases hi <;> rfl
 have g:=q _ _ _ (f lo 0 x.length (zW _)) (f hi x.length x.length (zq _)) z;rcases g with g|g
 ·have E:((Builtin.Str.strSliceIndices lo hi 1 x.length).filterMap (x.cps[·]?))=cutD x.cps.toList lo hi:=by
   rw[g];unfold cutD;rw[<- p]
  have hlen:(Builtin.Str.strSliceIndices lo hi 1 x.length).length=(cutD x.cps.toList lo hi).length:=by
   rw[z];unfold sliceRange cutD;rw[<- p,zS,yr,<- p];rwa[show (1:Int) > 0 by decide,if_true,zy,yh];have G:=f lo 0 x.length (zW _);have D:=f hi x.length x.length (zq _);rw[Il];exact(wj (wa D _)).symm
  unfold Txt.slice;split
  ·rename_i hw
   apply ext;show x.cps.toList=cutD x.cps.toList lo hi;symm;apply t5;rw[<- hlen];simp at hw;rw[hw,p]
  ·rw[E]
 ·exact absurd rfl g
def Pe:ID X (λ x lo hi H Q=>∃y,x=.str y/\y.length<=zi/\Q (.str ⟨(cutD y.cps.toList lo hi).toArray⟩) H):=by
 intro E s σ H x v vl D lo hi c Q I d j g f h;let⟨y,rfl,i,q⟩:=h;let⟨t,rfl⟩:=d;exists "str",_,PySem.F.slot_str_getitem.lookup,typeIs_str _ _ _;have part:∀{u:jp} {o:Option Int},IsPart u o->∃p:Option (Int×Tok),partValue p=u/\p.map (·.1)=o:=λ {u o} z=>by
  cases z
  ·exact⟨none,rfl,rfl⟩
  ·exact⟨some (_,_),rfl,rfl⟩
 let⟨l,e1,C⟩:=part g;let⟨r,B,A⟩:=part f;have a:s.heap.IsSlice c l r none:=by
  let⟨o,w,n,m⟩:=j;exact⟨o,w,n,by rw[m,<- e1,<- B];rfl⟩
 refine wpAny_getItem_str_slice a rfl ?_;have e:(if (((none:Option (Int×Tok)).map (·.1)).getD 1==1&&(slicePicked y l r none).length==y.length)=true then y else ⟨((slicePicked y l r none).filterMap (y.cps[·]?)).toArray⟩)=Txt.slice y lo hi:=by
  unfold slicePicked Txt.slice;rw[C,A];rfl
 refine post_val_or_str ?_;rw[e];refine⟨zG (Txt.slice_le y _ _) i,λ b k=>?_⟩;rw[GB];exact⟨.str _,H,I.tok _,⟨b,rfl⟩,q⟩
abbrev Vd(K:Q_):V->Option Int->Option Int->Hp->VK->Prop:=λ x lo hi H Q=>∃ι M e c d,aO K ι M H/\Rep K ι H c x/\i6 c lo hi M=some (.ok d,e) /\
 ∀v b a,Rep K a b d v->aO K a e b->Ext K ι H a b->Q v b
def Pf:ID X (Vd X.K):=by
 intro o s σ H x v vl m lo hi n Q I f l j i h;obtain⟨ι,M,E,D,d,S,r,e,k⟩:=h;cases r with
 |str y =>
  have⟨_,_,e1,e⟩:=aa e;have⟨c,rfl⟩:=aR e1;symm at e;exact Pe o s σ H _ v vl m lo hi n Q I f l j i ⟨y,rfl,c,k _ H ι (.str _) S Ext.refl⟩
 |ob t =>
  have⟨ds,_,e1,e⟩:=aa e;have⟨g,rfl⟩:=cH e1;let⟨a,vs,B,_,A,z⟩:=aY S (.ob t) g;cases B;exact CB o s σ H _ v vl m lo hi n Q I f l j i ⟨_,vs,rfl,bx.of A,iB S (qa z lo hi) e k⟩
 |fl t q=>exact CB o s σ H _ v vl m lo hi n Q I f l j i ⟨_,_,rfl,t.seq,iB S (qa q lo hi) e k⟩
 |tup t q =>
  symm at e;rename_i a vs ds;by_cases c:eS ds.length 0 lo=0/\eS ds.length ds.length hi=ds.length
  ·cases f
   let⟨p,r,w,C⟩:=I.tuple (cZ t);have hlen:p.toArray.size=ds.length:=by rw[zD,<- r.length,q.length]
   refine⟨"tuple",_,PyProof.Rows.slot_tuple_getitem.lookup,w.typeIs,nG w l j i (by rw[hlen];exact c) ⟨.ref a,H,I,rfl,?_⟩⟩;have e:cutD ds lo hi=ds:=t5 (by
    unfold cutD;rw[c.1,c.2,xg,wo,zM])
   rw[e]at k;exact k _ H ι (.tup t q) S Ext.refl
  ·exact Pd o s σ H _ v vl m lo hi n Q I f l j i ⟨_,_,rfl,cZ t,by rw[<- q.length];exact c,kh S (qa q lo hi) k⟩
 |_=>exact(ai e).elim
def MW:RW X (λ x H Q=>∃ι M M' d b,aO X.K ι M H/\Rep X.K ι H d x/\mD d M=some (.ok b,M')/\(M'=M->Q b H)):=by
 intro z s σ H x v Q I p h;obtain⟨ι,M,M',d,b,S,r,e,k⟩:=h;refine OU z s σ H x v Q I p ?_;cases r with
 |non=>symm at e;exact⟨_,rfl,k rfl⟩
 |bl c=>symm at e;exact⟨_,rfl,k rfl⟩
 |int i=>symm at e;exact⟨_,rfl,k rfl⟩
 |str y =>
  have⟨_,_,e1,e⟩:=aa e;have⟨w,rfl⟩:=aR e1;symm at e;exact⟨_,⟨w,rfl⟩,k rfl⟩
 |tup t q =>
  symm at e;exists _,.inr (.inl ⟨_,cZ t,rfl⟩);cases q <;> exact k rfl
 |fl t q =>
  symm at e;exists _,.inl ⟨_,t.seq,rfl⟩;cases q <;> exact k rfl
 |ob t =>
  have⟨o,_,e1,e⟩:=aa e;have⟨g,rfl⟩:=kl e1;cases o with
  |lst ds =>
   symm at e;let⟨a,vs,m,_,l,j⟩:=aY S (.ob t) g;cases m;exists _,.inl ⟨_,bx.of l,rfl⟩;cases j <;> exact k rfl
  |bC u =>
   symm at e;let⟨a,vs,m,_,l,j⟩:=eZ S (.ob t) g;cases m;exists _,.inr (.inr ⟨_,l,rfl⟩);cases j <;> exact k rfl
abbrev Ve(K:Q_)(g:List D->Mo D):List V->Hp->VK->Prop:=λ e H Q=>∃ι M c ds d,aO K ι M H/\aB K ι H ds e/\g ds M=some (.ok d,c) /\
 ∀v b a,Rep K a b d v->aO K a c b->Ext K ι H a b->Q v b
def Kp{K:Q_}{ι:List uc}{H:Hp}:∀{ds:List D} {vs:List V} {bs:List Bool},aB K ι H ds vs->ds.mapM bS=some bs->vs=bs.map V.bl:=by
 intro ds;induction ds with
 |nil=>intro vs bs r h;cases r;simp at h;subst h;rfl
 |cons d ds c =>
  intro vs bs r h;cases r with|cons r t =>
  rw[xO]at h;rwa[wF,xZ,vi,Option.some.injEq]at h;let⟨b,a,e,f,rfl⟩:=h;rw[c t f];cases r <;> simp[bS]at a;subst a;rfl
def all_range(bs:List Bool):((List.range bs.length).all λ i=>bs.getD i false)=bs.all id:=by
 rw[zV];rwa[yw,xK];constructor
 ·intro h b a
  let⟨i,hi,rfl⟩:=List.getElem_of_mem a
  have:=h i hi
  rw[yo,zu hi]at this;exact this
 ·intro h i hi
  rw[yo,zu hi];exact h _ (yE hi)
def FN(hc:X.calm=true){m:List (uc×Obj)}{s:kt}{σ:St}{H:Hp}{a:uc}{bs:List Bool}{Q:jp->kt->Prop}(f:Nat->(Nat->Bool)->Bool)(I:Inv X m σ H s)(h:H a=some (.lst (bs.map V.bl)))
  (q:∀s',Inv X m σ H s'->Q (.bool (f bs.length λ i=>bs.getD i false)) s') :
  wpAny (model X.prog X.w) X.A.in1 (pyIter (.ref a)) (λ it d=>∃I G wr n P St r,it=.ref I/\Walks X.prog X.w X.A.in1 I G wr n P St/\St 0 d.heap/\TruthOf X.prog X.w X.A.in1 P r /\
   ∀h' t,(∀b o,b ∉ wr->d.heap.get? b=some o->h'.get? b=some o)->Q (.bool (f n r)) { d with heap:=h',toks:=t }) X.xe s:=by
 let⟨g,x,p,M⟩:=I.list (bx.of h);have J:a<s.heap.objs.size:=by let⟨_,_,e,_⟩:=p;exact zg e
 have hlen:g.toArray.size=bs.length:=by have:=x.length;simp at this ⊢;omega
 refine wpAny_pyIter_list p.isList ?_;have F:X.A.in1.handled=none:=I.ok.hd hc;refine⟨s.heap.objs.size,_,_,_,_,_,λ i=>bs.getD i false,rfl,Walks.list F s.heap.objs.size a (zF J) g.toArray,⟨⟨_,zC _ rfl,rfl,rfl⟩,p.isList.push _⟩,?_,λ h' t C=>?_⟩
 ·intro i v s' K N hv D
  have j:g[i]?=some v:=by simpa using hv
  have hi:i<bs.length:=by
   have:=(zz.mp j).1
   rw[<- hlen];simpa using this
  have l:(bs.map V.bl)[i]?=some (V.bl bs[i]):=by rw[zm,zu hi];rfl
  let⟨u,hu,B⟩:=x.get l;rw[j]at hu;cases hu;cases B;refine wpAny_truthy_bool ?_;have k:K (bs.getD i false) s':=D;rw[yo,zu hi]at k;exact k
 ·rw[hlen]
  have L:Inv X m σ H { s with heap:=s.heap.push { cls:=.type "list_iterator",data:=.fields #[.ref a,.int 0 0] } }:=I.kept (t':=s.toks) λ b o e=>zv _ e;refine q _ (L.turned (it:=s.heap.objs.size) (λ b o l e=>C b o (by simpa using l) e) (I.hok.fresh (zq _)) (yi I.lt) (.inr I.sz) (λ y c e z=>?_) λ p E z=>?_)
  ·let⟨v,o,ho,_⟩:=I.cell y c e
   exact absurd (zg ho) (by rw[z];exact yg _)
  ·exact absurd (zg (I.pin p E).1) (by rw[z];exact yg _)
abbrev Iy:Bl->String
 |.len=>"len" |.tuple=>"tuple" |.list=>"list" |.repr=>"repr" |.all=>"all" |.any=>"any" |.min2=>"min" |.max2=>"max" |.abs=>"abs" |.dict1=>"dict" |.minL=>"min"
abbrev Wf:Bl->Bool
 |.tuple=>true|.list=>true|.dict1=>true|_=>false
abbrev FQ(b:Bl):jp:=if Wf b then .type (Iy b) else .builtin (Iy b)
def Oy(hc:X.calm=true)(hu:X.A.units+100<cLine)(b:Bl):dH X (FQ b) (Ve X.K (fR b)):=by
 intro w s σ H T p Q I l h;obtain⟨ι,M,R,ds,d,S,r,e,k⟩:=h;have j:∀{C:V},R=M->Rep X.K ι H d C->Q C H:=λ {C} z r=>by subst z;exact k C H ι r S Ext.refl
 cases b
 ·rcases ds with _|⟨x,t⟩
  ·exact(ai e).elim
  cases x <;> first|exact(ai e).elim|(cases t <;> first|exact(ai e).elim|skip)
  ·delta fR at e
   dsimp only at e;have⟨_,_,e1,e⟩:=aa e;have⟨O,rfl⟩:=aR e1;symm at e;cases r with|cons f i=>cases i;cases f;exact Bq w s σ H _ p Q I l ⟨_,rfl,O,j rfl (.int _)⟩
  ·delta fR at e
   dsimp only at e;symm at e;let⟨f,i⟩:=r.iC;obtain rfl:=i.iN;let⟨t,q⟩:=f.iT;exact kR w s σ H _ p Q I l ⟨_,_,rfl,.inr (cZ t),by rw[<- q.length];exact j rfl (.int _)⟩
  ·delta fR at e
   dsimp only at e;symm at e;let⟨f,i⟩:=r.iC;obtain rfl:=i.iN;let⟨t,q⟩:=f.iF;exact kR w s σ H _ p Q I l ⟨_,_,rfl,.inl t.seq,by rw[<- q.length];exact j rfl (.int _)⟩
  ·delta fR at e
   dsimp only at e;have⟨o,_,e1,e⟩:=aa e;have⟨g,rfl⟩:=kl e1;let⟨f,i⟩:=r.iC;obtain rfl:=i.iN;cases o with
   |lst ds =>
    symm at e;let⟨a,vs,rfl,_,v,B⟩:=aY S f g;exact kR w s σ H _ p Q I l ⟨a,vs,rfl,.inl (bx.of v),by rw[<- B.length];exact j rfl (.int _)⟩
   |bC N =>
    symm at e;let⟨a,ws,rfl,_,v,B⟩:=eZ S f g;let⟨u,rfl,D⟩:=vals1 l;cases D;exact TQ I (.inl v) λ t G E=>⟨.int ws.length,H,E,⟨t,rfl⟩,by rw[<- B.len];exact j rfl (.int _)⟩
 ·rcases ds with _|⟨x,t⟩
  ·exact(ai e).elim
  cases x <;> first|exact(ai e).elim|(cases t <;> first|exact(ai e).elim|skip)
  ·delta fR at e
   dsimp only at e;symm at e;let⟨f,i⟩:=r.iC;obtain rfl:=i.iN;let⟨t,q⟩:=f.iT;exact jI w s σ H _ p Q I l ⟨_,_,rfl,.inr ⟨cZ t,j rfl (.tup t q)⟩⟩
  ·delta fR at e
   dsimp only at e;symm at e;let⟨f,i⟩:=r.iC;obtain rfl:=i.iN;let⟨t,q⟩:=f.iF;exact jI w s σ H _ p Q I l ⟨_,_,rfl,.inl ⟨t.seq,kh S q k⟩⟩
  ·delta fR at e
   dsimp only at e;have⟨ds,_,e1,e⟩:=aa e;have⟨g,rfl⟩:=cH e1;symm at e;let⟨f,i⟩:=r.iC;obtain rfl:=i.iN;let⟨a,vs,rfl,_,v,B⟩:=aY S f g;exact jI w s σ H _ p Q I l ⟨_,_,rfl,.inl ⟨bx.of v,kh S B k⟩⟩
 ·exact(ai e).elim
 ·exact(ai e).elim
 ·rcases ds with _|⟨x,t⟩
  ·exact(ai e).elim
  cases x <;> first|exact(ai e).elim|(cases t <;> first|exact(ai e).elim|skip)
  ·delta fR at e
   dsimp only at e;have⟨ds,_,e1,e⟩:=aa e;have⟨g,rfl⟩:=cH e1;have⟨bs,_,e1,e⟩:=aa e;have⟨P,rfl⟩:=bh e1;symm at e;let⟨f,i⟩:=r.iC;obtain rfl:=i.iN;let⟨a,vs,rfl,_,v,B⟩:=aY S f g;let⟨u,rfl,D⟩:=vals1 l;cases D;rw[Kp B P]at v;exact call_all_walk (FN hc (λ n F=>(List.range n).all F) I v λ G E=>⟨.bl (bs.all id),H,E,by rw[all_range];rfl,j rfl (.bl _)⟩)
 ·exact(ai e).elim
 ·rcases ds with _|⟨x,t⟩
  ·exact(ai e).elim
  rcases t with _|⟨y,t⟩
  ·cases x <;> exact(ai e).elim
  cases x <;> first|exact(ai e).elim|(cases y <;> first|exact(ai e).elim|(cases t <;> first|exact(ai e).elim|skip))
  ·delta fR at e
   dsimp only at e;symm at e;let⟨f,i⟩:=r.iC;let⟨J,L⟩:=i.iC;obtain rfl:=L.iN;obtain rfl:=f.iI;obtain rfl:=J.iI;exact Iq hc w s σ H _ p Q I l ⟨_,_,rfl,j rfl (.int _)⟩
 ·exact(ai e).elim
 ·exact(ai e).elim
 ·exact(ai e).elim
 ·exact(ai e).elim
abbrev JR(m:Mt)(x:D):String:=match m,x with
 |.append,_=>"list.append"
 |.insert,_=>"list.insert"
 |.extend,_=>"list.extend"
 |.join,_=>"str.join"
 |.find,_=>"str.find"
 |.split,_=>"str.split"
 |.partition,_=>"str.partition"
 |.get,_=>"dict.get"
abbrev Au:Mt->Str
 |.append=>"append" |.insert=>"insert" |.join=>"join" |.get=>"get"
 |.extend=>"extend"
 |.find=>"find"
 |.split=>"split" |.partition=>"partition"
def NT(h:JQ m n=some k):m=Au k:=by
 unfold JQ at h;have a:∀(y:String) (k:Nat),(m==(Str.ofString y)&&n==k)=true->m=Str.ofString y:=λ y k e=>by
  rwa[zt,beq_iff_eq]at e;exact e.1
 split at h
 ·rename_i e;cases h;exact a _ _ e
 split at h
 ·rename_i e;cases h;exact a _ _ e
 split at h
 ·rename_i e;cases h;exact a _ _ e
 split at h
 ·rename_i e;cases h;exact a _ _ e
 split at h
 ·rename_i e;cases h;exact a _ _ e
 split at h
 ·rename_i e;cases h;exact a _ _ e
 split at h
 ·rename_i e;cases h;exact a _ _ e
 split at h
 ·rename_i e;cases h;exact a _ _ e
 ·cases h
abbrev RM(K:Q_)(m:Mt)(g:String):V->List V->Hp->VK->Prop:=λ x f H Q=>∃ι M e c ds d,aO K ι M H/\Rep K ι H c x/\aB K ι H ds f/\JR m c=g/\fF m c ds M=some (.ok d,e) /\
 ∀v b a,Rep K a b d v->aO K a e b->Ext K ι H a b->Q v b
def nO{K:Q_}{ι:List uc}{H:Hp}:∀{ds:List D} {vs:List V} {ys:List Str},aB K ι H ds vs->ds.mapM p8=some ys->vs=ys.map V.str:=by
 intro ds;induction ds with
 |nil=>intro vs bs r h;cases r;simp at h;subst h;rfl
 |cons d ds c =>
  intro vs bs r h;cases r with|cons r t =>
  rw[xO]at h;rwa[wF,xZ,vi,Option.some.injEq]at h;let⟨b,a,e,f,rfl⟩:=h;rw[c t f];cases r <;> simp[p8]at a;subst a;rfl
def nT{K:Q_}{ι:List uc}{H:Hp}:∀xs:List Str,aB K ι H (xs.map .str) (xs.map V.str)
 |[]=>.nil
 |_::xs=>.cons (.str _) (nT xs)
def Ql(hu:X.A.units+100<cLine)(m:Mt)(id:String):um X id (RM X.K m id):=by
 intro G s σ H x vs v D Q I o B h;obtain⟨ι,M,M',J,ds,d,S,r,E,rfl,e,k⟩:=h;have C:∀{P:V},M'=M->Rep X.K ι H d P->Q P H:=λ {P} z r=>by subst z;exact k P H ι r S Ext.refl
 cases m
 case append =>
  cases J <;> first|exact(ai e).elim|(rcases ds with _|⟨_,_|⟨_,_⟩⟩ <;> first|exact(ai e).elim|skip)
  ·delta fF at e
   dsimp only at e;rename_i a y;let⟨n,rfl,f⟩:=mL E;have⟨L,_,e1,e⟩:=aa e;have⟨g,rfl⟩:=cH e1;have⟨_,_,e1,e⟩:=aa e;have⟨i,rfl⟩:=aR e1;have⟨u,M2,e1,e⟩:=aa e;symm at e;let⟨p,ws,rfl,hi,l,j⟩:=aY S r g;let⟨O,N⟩:=qd (ds:=L) S hi l (j.append (.cons f .nil)) e1;exact G7 G s σ H _ _ v D Q I o B ⟨p,ws,n,rfl,rfl,l,by rw[<- j.length];exact i,k .non _ ι .non O N⟩
 case insert=>exact(ai e).elim
 case join =>
  cases J <;> first|exact(ai e).elim|(rcases ds with _|⟨x,_|⟨_,_⟩⟩ <;> first|exact(ai e).elim|(cases x <;> first|exact(ai e).elim|skip))
  ·delta fF at e
   dsimp only at e;let⟨n,rfl,f⟩:=mL E;have⟨U,_,e1,e⟩:=aa e;have⟨Z,rfl⟩:=bh e1;have⟨_,_,e1,e⟩:=aa e;have⟨i,rfl⟩:=aR e1;symm at e;cases r;cases f with
   |tup t q =>
    have hw:=nO q Z;subst hw;exact JP G s σ H _ _ v D Q I o B ⟨_,_,U,rfl,rfl,cZ t,i,C rfl (.str _)⟩
  ·delta fF at e
   dsimp only at e;let⟨n,rfl,f⟩:=mL E;have⟨L,_,e1,e⟩:=aa e;have⟨g,rfl⟩:=cH e1;have⟨U,_,e1,e⟩:=aa e;have⟨Z,rfl⟩:=bh e1;have⟨_,_,e1,e⟩:=aa e;have⟨i,rfl⟩:=aR e1;symm at e;let⟨p,ws,rfl,hi,l,j⟩:=aY S f g;cases r;have hw:=nO j Z;subst hw;exact NU G s σ H _ _ v D Q I o B ⟨_,p,U,rfl,rfl,bx.of l,i,C rfl (.str _)⟩
 case find =>
  cases J <;> first|exact(ai e).elim|(rcases ds with _|⟨x,_|⟨_,_⟩⟩ <;> first|exact(ai e).elim|(cases x <;> first|exact(ai e).elim|skip))
  ·delta fF at e
   dsimp only at e;let⟨n,rfl,f⟩:=mL E;symm at e;cases r;cases f;exact NV G s σ H _ _ v D Q I o B ⟨_,_,rfl,rfl,C rfl (.int _)⟩
 case split =>
  cases J <;> first|exact(ai e).elim|(rcases ds with _|⟨x,_|⟨_,_⟩⟩ <;> first|exact(ai e).elim|(cases x <;> first|exact(ai e).elim|skip))
  ·delta fF at e
   dsimp only at e;let⟨n,rfl,f⟩:=mL E;have⟨_,_,e1,e⟩:=aa e;have⟨i,rfl⟩:=aR e1;cases r;cases f;exact JO G s σ H _ _ v D Q I o B ⟨_,_,rfl,rfl,i,iB S (nT _) e k⟩
 case partition =>
  cases J <;> first|exact(ai e).elim|(rcases ds with _|⟨x,_|⟨_,_⟩⟩ <;> first|exact(ai e).elim|(cases x <;> first|exact(ai e).elim|skip))
  ·delta fF at e
   dsimp only at e;let⟨n,rfl,f⟩:=mL E;have⟨_,_,e1,e⟩:=aa e;have⟨i,rfl⟩:=aR e1;symm at e;cases r;cases f;exact As G s σ H _ _ v D Q I o B ⟨_,_,rfl,rfl,i,kh S (nT _) k⟩
 case extend =>
  cases J <;> first|exact(ai e).elim|(rcases ds with _|⟨_,_|⟨_,_⟩⟩ <;> first|exact(ai e).elim|skip)
  ·delta fF at e
   dsimp only at e;rename_i kk y;let⟨n,rfl,f⟩:=mL E;have⟨es,_,e1,e⟩:=aa e;have⟨L,_,e2,e⟩:=aa e;have⟨g,rfl⟩:=cH e2;have⟨_,_,e3,e⟩:=aa e;replace e3:=aR e3;obtain⟨⟨i,_⟩,rfl⟩:=e3;have⟨u,M2,e4,e⟩:=aa e;symm at e;cases f with
   |tup t q =>
    symm at e1;let⟨p,ws,rfl,hi,l,j⟩:=aY S r g;let⟨O,N⟩:=qd (ds:=L) S hi l (j.append q) e4;exact EY G s σ H _ _ v D Q I o B ⟨p,_,ws,_,rfl,rfl,l,cZ t,by rw[<- j.length,<- q.length];exact i,k .non _ ι .non O N⟩
   |ob t =>
    have⟨g2,rfl⟩:=cH e1;let⟨p,ws,rfl,hi,l,j⟩:=aY S r g;let⟨p2,OJ,e5,kL,h5,h6⟩:=aY S (.ob t) g2;cases e5;let⟨O,N⟩:=qd (ds:=L) S hi l (j.append h6) e4;exact G6 G s σ H _ _ v D Q I o B ⟨p,_,ws,OJ,rfl,rfl,l,h5,by rw[<- j.length,<- h6.length];exact i,k .non _ ι .non O N⟩
   |_=>exact(ai e1).elim
 case get =>
  cases J <;> first|exact(ai e).elim|(rcases ds with _|⟨_,_|⟨_,_|⟨_,_⟩⟩⟩ <;> first|exact(ai e).elim|skip)
  ·delta fF at e
   dsimp only at e;rename_i kk y dv;let⟨n,vd,rfl,f,rd⟩:=SH E;have⟨Y,_,e1,e⟩:=aa e;have⟨g,rfl⟩:=sL e1;have⟨q,_,e1,e⟩:=aa e;have⟨hq,rfl⟩:=bh e1;symm at e;let⟨a,ws,rfl,hi,l,j⟩:=eZ S r g;cases o;let⟨u1,u2,rfl,XQ,v9⟩:=vals2 B;have hy:n=kV q:=by
    cases f <;> rwa[jN,reduceCtorEq,Option.some.injEq]at hq <;> subst hq <;> rfl
   subst hy;let⟨z,hd,vs,W,dd⟩:=mX I.hok (.inl l);show wpAny _ _ (call (.builtin "dict.get") [.ref a,u1,u2]) _ _ _;refine call_meetsIn PySem.F.slot_dict_get dd.typeIs PySem.F.entry_dict_get (PySem.F.args_dict_get_3 _ _ _) (meets_dict_get_default (aN X.prog X.w) a (mQ XQ) hd u2) ⟨_,dd.mapOf,?_⟩;have w3:Rep X.K ι H ((cX Y q).getD dv) ((gh ws q).getD vd):=by
    rcases j.find q with ⟨T,R⟩|⟨d',v',T,R,z3⟩
    ·rw[T,R];exact rd
    ·rw[T,R];exact z3
   exact⟨_,H,I.tok _,(W.val q).getD v9,C rfl w3⟩
def LE.mth{m:Mt}{fo:DE}{z:Ev->Mo (List D)}(σ:St)(H:Hp)(Q:VK)(h:LE X.K (λ ρ=>do let x<-fo ρ;iz m x;let xs<-z ρ;fF m x xs) σ H Q):O5 X (Au m) (RM X.K m) (LE X.K fo) (LA X.K z) σ H Q:=by
 obtain⟨ι,ρ,M,d,Z,S,R,e,k⟩:=h;have⟨x,E,e1,e⟩:=aa e;have⟨u,Y,a,e⟩:=aa e;have⟨xs,C,P,e⟩:=aa e;refine⟨ι,ρ,M,x,E,S,R,e1,λ v H1 q f n B=>?_⟩;have fact:Y=E/\∃T,Mz T (Au m) (JR m x)/\uP X T v H1:=by
  unfold iz at a;split at a
  ·have⟨ds,_,c,l⟩:=aa a
   have⟨g,rfl⟩:=cH c;let⟨p,ws,rfl,hi,i,w⟩:=aY n f g;exact⟨(af l).2,"list",⟨PySem.F.plainAttrs_list,PySem.F.slot_list_append,PySem.F.type_list_append⟩,qc (bx.of i)⟩
  ·have⟨ds,_,c,l⟩:=aa a
   have⟨g,rfl⟩:=cH c;let⟨p,ws,rfl,hi,i,w⟩:=aY n f g;exact⟨(af l).2,"list",⟨PySem.F.plainAttrs_list,PySem.F.slot_list_insert,PySem.F.type_list_insert⟩,qc (bx.of i)⟩
  ·have⟨ds,_,c,l⟩:=aa a
   have⟨g,rfl⟩:=cH c;let⟨p,ws,rfl,hi,i,w⟩:=aY n f g;exact⟨(af l).2,"list",⟨PySem.F.plainAttrs_list,PySem.F.slot_list_extend,PySem.F.type_list_extend⟩,qc (bx.of i)⟩
  ·cases f with
   |str y=>exact⟨(af a).2,"str",⟨PySem.F.plainAttrs_str,PySem.F.slot_str_join,PySem.F.type_str_join⟩,oH⟩
  ·cases f with
   |str y=>exact⟨(af a).2,"str",⟨PySem.F.plainAttrs_str,PySem.F.slot_str_find,PySem.F.type_str_find⟩,oH⟩
  ·cases f with
   |str y=>exact⟨(af a).2,"str",⟨PySem.F.plainAttrs_str,PySem.F.slot_str_split,PySem.F.type_str_split⟩,oH⟩
  ·cases f with
   |str y=>exact⟨(af a).2,"str",⟨PySem.F.plainAttrs_str,PySem.F.slot_str_partition,PySem.F.type_str_partition⟩,oH⟩
  ·have⟨ds,_,c,l⟩:=aa a
   have⟨g,rfl⟩:=sL c;let⟨p,ws,rfl,hi,i,w⟩:=eZ n f g;exact⟨(af l).2,"dict",⟨PySem.F.plainAttrs_dict,PySem.F.slot_dict_get,PySem.F.type_dict_get⟩,λ XV σ s v I r=>uY I r (.inr (.inr (.inl ⟨rfl,.inl ⟨ws,i⟩⟩)))⟩
  ·exact(ai a).elim
 let⟨rfl,T,O,N⟩:=fact;exists T,JR m x,O,N;refine⟨q,ρ,_,xs,C,n,R.mono B,P,λ vs H2 o J V A=>?_⟩;exact⟨o,C,Z,x,xs,d,V,f.mono A,J,rfl,e,λ G H' t L W U=>k G H' t L W ((B.trans A).trans U)⟩
abbrev KH(lo st:Int)(n:Nat):It:=⟨λ i _=>i<n,λ i H x a=>a=H/\x=.int (lo+i*st),λ i _=>n<=i⟩
def BE{P:uf}{w:ul}{K:Q_}{C:Expr}(it:uc)(lo st:Int)(n:Nat):Turn P w K C (KH lo st n) [it] it (λ i h=>IsRangeIter h it (lo+(i:Nat)*st) ((n:Int)-(i:Nat)) st) where
 mem:=by simp
 obj:=λ i h st b d=>by
  have e:b=it:=by simpa using d
  subst e;exact⟨_,st,λ v z=>by
   have B:Data.fields _=Data.cell v:=z;cases B⟩
 keep:=λ i h g st k=>k it (by simp) _ st
 item:=by
  intro X l hw m hc i A s σ H E I f c j;subst l hw m;let⟨x,u,F,r,q,p⟩:=f it (by simp);have W:=Walks.range (prog:=X.prog) (w:=X.w) (I.ok.hd hc) it lo st n;refine W.item i s _ _ j c λ v g y hv a D=>?_;let⟨t,rfl⟩:=hv;have J:Inv X A σ H { s with heap:=g,toks:=y }:=I.turned (λ b o d e=>D b o (by simpa using d) e) x u r q p;exact⟨_,rfl,oW (s:={ s with heap:=g,toks:=y }) (n:="range_iterator") a rfl rfl (by decide) ⟨.int (lo+i*st),H,J,⟨t,rfl⟩,⟨rfl,rfl⟩,a,λ b d=>(f b d).1⟩⟩
 done:=by
  intro X l hw m hc i A s σ H E I f c j;subst l hw m;let⟨x,u,F,r,q,p⟩:=f it (by simp);exact wpAny_pyNext_range_end (I.ok.hd hc) c (by have:n<=i:=j;omega) λ g G=>⟨rfl,I.turned (t':=s.toks) (λ b o d e=>G b o d e) x u r q p⟩
 self:=λ _ _ _ _ _ st h=>wpAny_pyIter_rangeiter st h
def qH(c:b<=a):Builtin.Range.rangeSize a b (-1)=(d8 a b (-1):Int):=by
 unfold Builtin.Range.rangeSize d8;rw[if_neg (by decide)];split
 ·rw[Int.neg_neg,wS]
  omega
 ·omega
def Pc(d:small a)(c:small b)(e:b<=a):Builtin.Range.small a b (-1)=true:=by
 let⟨j,i⟩:=d;let⟨h,g⟩:=c;have f:0<=Builtin.Range.rangeSize a b (-1)/\Builtin.Range.rangeSize a b (-1)<=a-b:=by
  rw[qH e];unfold d8;omega
 unfold Builtin.Range.small;rwa[Builtin.Range.rangeFitsLong,zt,xz,zzC,beq_iff_eq];rw[if_neg (by decide)];refine⟨by omega,.inr ?_⟩;rw[zt];exact⟨zzB (by omega),zzB (by omega)⟩
abbrev LL(a:TA):TI:=λ σ H R=>a σ H λ vs b=>∃i j st,vs=[.int i,.int j,.int st]/\(small i/\small j/\st=-1/\j<=i)/\R (KH i st (d8 i j st)) b
def GY{w a b c:Expr}{m:TA}{p pos:Pos}(F:Gl X "range")(E:X.mg "range" = none)(J:PA X [a,b,c] m)(D:starEach [a,b,c] X.env=(false,eval a X.env)::starEach [b,c] X.env)(L:(backTo pos (starEach [b,c] X.env)).any (·.1)=false) :
  PI X w (.Call (.Name "range" p) [a,b,c] [] pos) (LL m):=by
 intro u s σ H R I h;refine Call_ (kG I F E boot_range (W_ (aJ (J pos u s σ H _ I h) λ N f ⟨vs,v,M,x,z⟩=>?_) D L));obtain⟨i,j,st,e,⟨C,B,A,n⟩,q⟩:=z;subst e A;cases x with
 |cons r g =>
  cases g with
  |cons y g =>
   cases g with
   |cons k g =>
    cases g;let⟨t,rfl⟩:=r;let⟨t',rfl⟩:=y;let⟨d,rfl⟩:=k;refine call_range_3 (by first|lia|omega) ?_ (.inl (PyProof.noPylong_small (by first|lia|omega)))
    refine wpAny_pyIter_range (IsRange.new ..) (Pc C B n) ?_;have l:Inv X u σ v { f with heap:=f.heap.push { cls:=.type "range",data:=.fields #[.int i t,.int j t',.int (-1) d] } }:=M.kept (t':=f.toks) λ b o e=>zv _ e;refine⟨(f.heap.push { cls:=.type "range",data:=.fields #[.int i t,.int j t',.int (-1) d] }).objs.size,[(f.heap.push { cls:=.type "range",data:=.fields #[.int i t,.int j t',.int (-1) d] }).objs.size],_,_,v,rfl,
     l.kept (t':=f.toks) λ b o e=>zv _ e,BE _ i (-1) (d8 i j (-1)),?_,λ b G=>?_,q⟩
    ·have e1:i+((0:Nat):Int)*(-1)=i:=by simp
     have K:((d8 i j (-1):Nat):Int)-((0:Nat):Int)=Builtin.Range.rangeSize i j (-1):=by rw[qH n];simp
     show IsRangeIter _ _ (i+((0:Nat):Int)*(-1)) (((d8 i j (-1):Nat):Int)-((0:Nat):Int)) (-1);rw[e1,K];exact zC _ rfl
    ·have e:b=(f.heap.push { cls:=.type "range",data:=.fields #[.int i t,.int j t',.int (-1) d] }).objs.size:=by simpa using G
     subst e;exact l.lS (zq _) (l.hok.fresh (zq _))
abbrev vP:jp->Option Str
 |.str x _=>some x
 |_=>none
abbrev Fx(x:Str)(s:kt):Option (Bool×List (Int×Option Str×Option Str)):=match s.heap.nsMap mainGlobals x with
 |some (.ref a)=>(match s.heap.get? a with
  |some o=>(match o.data with
   |.dict b _=>some (decide (o.cls=.type "dict")&&o.dict.isNone&&o.slots.isEmpty&&!(a==sysModules),b.toList.map λ e=>(e.hash,vP e.key,vP e.val))
   |_=>none)
  |none=>none)
 |_=>none
abbrev Fw(a:List (Str×Str))(w:ul):Option (Bool×List (Int×Option Str×Option Str)):=some (true,a.map λ p=>(L2.JW w (.inr p.1),some p.1,some p.2))
abbrev tf(x:Str)(b:List (Str×Str))(w:ul)(h:Heap):Prop:=∃a,h.nsMap mainGlobals x=some (.ref a)/\(a==sysModules)=false /\
 ∀P:uf,∃vs:List (Key×jp),KV (b.map λ p=>((.inr p.1:Key),V.str p.2)) vs/\h.DictOf (aN P w) a vs
def Cs(h:vP v=some x):∃t,v=.str x t:=by
 cases v <;> first|cases h|skip
 exact⟨_,rfl⟩
def A7{w:ul}(P:uf):∀(a:List (Str×Str)) (es:List DictEntry),es.map (λ e=>(e.hash,vP e.key,vP e.val))=a.map (λ p=>(L2.JW w (.inr p.1),some p.1,some p.2)) ->
  ∃vs:List (Key×jp),KV (a.map λ p=>((.inr p.1:Key),V.str p.2)) vs/\Pairs (aN P w) es vs/\(∀e∈es,∃k,(aN P w).is k e.key=true/\e.hash=(aN P w).hash k)/\vs.map (·.1)=a.map λ p=>(.inr p.1:Key)
 |[],[],_=>⟨[],.nil,.nil,λ _ h=>(nomatch h),rfl⟩
 |[],_::_,h=>by cases h
 |_::_,[],h=>by cases h
 |p::a,e::es,h=>by
  rw[zR,zR]at h;injection h with i g
  let⟨vs,r,q,o,n⟩:=A7 P a es g;injection i with f b
  injection b with b d
  let⟨t,l⟩:=Cs b;let⟨u,j⟩:=Cs d;have c:(aN P w).is (.inr p.1) e.key=true:=by rw[l];exact eO P w p.1 t
  refine⟨((.inr p.1:Key),e.val)::vs,.cons ⟨rfl,?_⟩ r,.cons c rfl q,λ m he=>?_,?_⟩
  ·show RelV (V.str p.2) e.val
   rw[j];exact⟨u,rfl⟩
  ·rcases zd.mp he with rfl|he
   ·exact⟨_,c,f⟩
   ·exact o m he
  ·rw[zR,zR,n]
def TB{x:Str}{b:List (Str×Str)}(f:(b.map (·.1)).Nodup)(w:ul)(s:kt)(h:Fx x s=Fw b w):tf x b w s.heap:=by
 unfold Fx Fw at h;split at h
 ·rename_i a i
  split at h
  ·rename_i o ho
   split at h
   ·rename_i d k he
    injection h with h
    injection h with c j
    rwa[zt,zzC,yn,yS,Array.isEmpty_iff]at c;obtain⟨⟨⟨r,n⟩,m⟩,l⟩:=c;refine⟨a,i,l,λ P=>?_⟩;let⟨vs,y,v,u,t⟩:=A7 P b d.toList j;refine⟨vs,y,o,d,k,ho,⟨r,n,m⟩,he,λ e g=>u e (Array.mem_toList_iff.mpr g),v,?_⟩;rw[t]
    have:(b.map λ p=>(.inr p.1:Key))=(b.map (·.1)).map .inr:=by rw[xh];rfl
    rw[this];exact List.pairwise_map.mpr (List.Pairwise.imp (λ z q=>z (Sum.inr.inj q)) f)
   ·cases h
  ·cases h
 ·cases h
def Kb(w:ul)(h h':Heap)(g:tf x f w h)(k:∀b o,h.get? b=some o->h'.get? b=some o):tf x f w h':=by
 let⟨a,e,c,d⟩:=g;refine⟨a,?_,c,λ P=>?_⟩
 ·unfold vB at e ⊢
  split at e
  ·rename_i o ho
   rw[k _ _ ho];exact e
  ·cases e
 ·let⟨vs,i,o,j,l,ho,r⟩:=d P
  exact⟨vs,i,o,j,l,k _ _ ho,r⟩
abbrev kO(x:Str)(a:List (Str×Str))(b:(a.map (·.1)).Nodup):J_:=⟨_,Fx x,Fw a,tf x a,TB b,Kb⟩
abbrev DH(K:Q_)(P:uf)(w:ul)(a:uc)(b:List (Str×Str)):Prop:=(a==sysModules)=false/\∃(vs:List (Key×jp)) (c:Nat),KV (b.map λ p=>((.inr p.1:Key),V.str p.2)) vs/\∀h:Heap,K.In h->h.DictAt (aN P w) a vs c
end
abbrev kx(K:Q_)(n:Nat)(g:List D->Mo D):Sp:=λ vs H Q _=>vs.length=n/\∃ι M c ds d,aO K ι M H/\aB K ι H ds vs/\g ds M=some (.ok d,c) /\
 ∀v b a,Rep K a b d v->aO K a c b->Ext K ι H a b->Q v b
abbrev Vn(X:Cx)(g:List D->Mo D)(f:Str):Prop:=∃(k:Nat) (a:uc) (fd:FuncData) (ps:List Str),X.mg f=some (.ref a)/\X_ X.K (.ref a)=true/\Binds X.K fd ps [] /\
 dF X.prog X.w X.K X.mg X.base gG k a fd ps (kx X.K ps.length g)/\cF k X.A/\∀ds M d b,g ds M=some (.ok d,b)->ds.length=ps.length
structure aL (Γ:Ctx) (S:Sc) (X:Cx):Prop where
 n:X.N=S.N
 sc:∀x k,S.sc.names.lookup x=some k->∃k',X.env.scope.names.lookup x=some k'/\(k'=k\/(k=.free/\k'=.cell))
 calm:X.calm=true
 hu:X.A.units+100<cLine
 gd:X.A.guards=some []
 dw:X.xe=λ _ _=>False
 fns:∀f∈S.fns,Vn X (Γ.fn f) f
 gls:∀x∈S.gls,∃d u v,Γ.gl x=some d/\X.mg x=some u/\RelV v u/\∀ι H,Rep X.K ι H d v
 aQ:∀x∈S.aQ,X.mg x=none
 rfs:Vn X (y8 Γ) "_law_refused"
 Dk:∀x,mi x=true->∃a d ks,Γ.gl x=some d/\lR d=some ks/\X.mg x=some (.ref a)/\DH X.K X.prog X.w a ks
 nd:X.N.Nodup
section
variable {Γ:Ctx}{S:Sc}{X:Cx}
def aL.Gh(C:aL Γ S X)(h:S.Gh x=true):IB X.env.scope x:=by
 unfold Sc.Gh Sc.kind at h;rwa[xz,beq_iff_eq]at h;rcases h with (h|h)|h
 ·obtain⟨c,a,rfl|⟨b,_⟩⟩:=C.sc _ _ h
  ·exact .inl a
  ·cases b
 ·obtain⟨c,a,rfl|⟨b,_⟩⟩:=C.sc _ _ h
  ·exact .inr (.inl a)
  ·cases b
 ·obtain⟨c,a,rfl|⟨_,rfl⟩⟩:=C.sc _ _ h
  ·exact .inr (.inr a)
  ·exact .inr (.inl a)
def aL.loc(C:aL Γ S X)(h:S.loc x=true):Loc X.env.scope x:=by
 unfold Sc.loc Sc.kind at h;rwa[xz,beq_iff_eq]at h;rcases h with h|h
 ·obtain⟨c,b,rfl|⟨a,_⟩⟩:=C.sc _ _ h
  ·exact .inl b
  ·cases a
 ·obtain⟨c,b,rfl|⟨a,_⟩⟩:=C.sc _ _ h
  ·exact .inr b
  ·cases a
def aL.bz(C:aL Γ S X)(h:S.bz x=true):Gl X x:=by
 unfold Sc.bz Sc.kind at h;rwa[beq_iff_eq]at h;obtain⟨c,b,rfl|⟨a,_⟩⟩:=C.sc _ _ h
 ·exact b
 ·cases a
def slot_get(h:slot N x=some i):N[i]?=some x:=by
 unfold slot at h;let⟨hi,a,_⟩:=xj.mp h;rw[zu hi];simpa using a
def cb(h:bZ x=true):(x==("__debug__":Str))=false/\(x==("__classdict__":Str))=false/\x≠"__name__":=by
 unfold bZ at h;rwa[zt,bne_iff_ne,ne_eq]at h;exact⟨zzF.mpr h.1.1,zzF.mpr h.1.2,h.2⟩
def az(h:aW e=true):starEach (e::es) env=(false,eval e env)::starEach es env:=by
 cases e <;> first|rfl|cases h
def dj{pos:Pos}{env:Env}:∀{es:List Expr},es.all aW=true->(backTo pos (starEach es env)).any (·.1)=false
 |[],_=>rfl
 |e::es,h=>by
  rw[yk,zt]at h;rw[az h.1];show (false||(backTo pos (starEach es env)).any (·.1))=false;rw[dj h.2];rfl
abbrev Vk(y:Str):It:=⟨λ i _=>i<y.cps.size,λ i H x a=>a=H/\∃c,y.cps[i]?=some c/\x=.str ⟨#[c]⟩,λ i _=>i=y.cps.size⟩
def uZ{P:uf}{w:ul}{K:Q_}{O:Expr}{it:uc}{y:Str}{t:Tok}{ty:String}(L:∀N:ut,N.handled=none->Walks P w N it [it] [it] y.cps.size (SignAt y) (λ i h=>h.IsStrIter it ty y t i))
  (T:["enumerate","zip","dict_itemiterator","dict_reverseitemiterator","odict_iterator","itertools.zip_longest","itertools.pairwise"].contains ty=false)
  (V:∀(A:ut) (i:Nat) (s:kt) (Q:jp->kt->Prop) (E:jp->kt->Prop),s.heap.IsStrIter it ty y t i->Q (.ref it) s->wpAny (model P w) A (pyIter (.ref it)) Q E s) :
  Turn P w K O (Vk y) [it] it (λ i h=>h.IsStrIter it ty y t i) where
 mem:=by simp
 obj:=λ i h st b a=>by
  have e:b=it:=by simpa using a
  subst e;let⟨o,f,j,B⟩:=st;exact⟨o,f,λ v z=>by rw[B]at z;cases z⟩
 keep:=λ i h l st k=>by
  let⟨o,f,j⟩:=st;exact⟨o,k it (by simp) o f,j⟩
 item:=by
  intro X u hw x hc i M s σ H E I g st q;subst u hw x;let⟨J,G,U,F,D,C⟩:=g it (by simp);refine(L X.A (I.ok.hd hc)).item i s _ _ q st λ v l m hv d n=>?_;let⟨c,R,r,rfl⟩:=hv;have W:Inv X M σ H { s with heap:=l,toks:=m }:=I.turned (λ b o a e=>n b o (by simpa using a) e) J G F D C;let⟨o,f,j,B⟩:=id d;exact⟨_,rfl,oW (s:={ s with heap:=l,toks:=m }) f j B T ⟨.str ⟨#[c]⟩,H,W,⟨R,rfl⟩,⟨rfl,c,r,rfl⟩,d,λ b a=>(g b a).1⟩⟩
 done:=by
  intro X u hw x hc i M s σ H E I g st q;subst u hw x;let⟨J,G,U,F,D,C⟩:=g it (by simp);have p:i=y.cps.size:=q;subst p;exact(L X.A (I.ok.hd hc)).done s _ _ st λ l m n=>⟨rfl,I.turned (λ b o a e=>n b o (by simpa using a) e) J G F D C⟩
 self:=V
abbrev QG(K:Q_)(tl:TE):TI:=λ σ H R=>tl σ H λ x b=>(∃a c,x=.ref a/\bx K b a c/\R (Vl K a) b)\/(∃a c,x=.ref a/\eF K b a c/\R (Vj K a) b)\/∃y,x=.str y/\R (Vk y) b
def Ag(B:PE X l tl):PI X u l (QG X.K tl):=by
 intro C s σ H R I h;refine aJ (B C s σ H _ I h) λ v c ⟨x,i,d,j,z⟩=>?_;rcases z with ⟨a,r,e,k,q⟩|⟨a,r,e,k,q⟩|⟨y,e,q⟩
 ·subst e
  cases j;let⟨g,w,p,A⟩:=d.list k;refine wpAny_pyIter_list p.isList ?_;refine⟨c.heap.objs.size,[c.heap.objs.size],_,_,i,rfl,d.kept (t':=c.toks) λ b o e=>zv _ e,Gj a _,⟨_,zC _ rfl,rfl,rfl⟩,λ b f=>?_,q⟩;have e:b=c.heap.objs.size:=by simpa using f
  subst e;exact d.lS (zq _) (d.hok.fresh (zq _))
 ·subst e
  cases j;let⟨g,w,p,A⟩:=d.tuple k;refine wpAny_pyIter_tuple (show c.heap.IsTuple a g.toArray from p) ?_;refine⟨c.heap.objs.size,[c.heap.objs.size],_,_,i,rfl,d.kept (t':=c.toks) λ b o e=>zv _ e,DS a _,⟨_,zC _ rfl,rfl,rfl⟩,λ b f=>?_,q⟩;have e:b=c.heap.objs.size:=by simpa using f
  subst e;exact d.lS (zq _) (d.hok.fresh (zq _))
 ·subst e
  let⟨t,rfl⟩:=j;cases ha:y.cps.all (·<128)
  ·refine wpAny_pyIter_wide ha ?_
   refine⟨c.heap.objs.size,[c.heap.objs.size],_,_,i,rfl,d.kept (t':=c.toks) λ b o e=>zv _ e,uZ (t:=t) (λ D n=>Walks.strWide n _ y t) (by decide) (λ _ _ _ _ _ st m=>wpAny_pyIter_striter_wide st m),⟨_,zC _ rfl,rfl,rfl⟩,λ b f=>?_,q⟩;have e:b=c.heap.objs.size:=by simpa using f
   subst e;exact d.lS (zq _) (d.hok.fresh (zq _))
  ·refine wpAny_pyIter_ascii ha ?_
   refine⟨c.heap.objs.size,[c.heap.objs.size],_,_,i,rfl,d.kept (t':=c.toks) λ b o e=>zv _ e,uZ (t:=t) (λ D n=>Walks.strAscii n _ y t) (by decide) (λ _ _ _ _ _ st m=>wpAny_pyIter_striter_ascii st m),⟨_,zC _ rfl,rfl,rfl⟩,λ b f=>?_,q⟩;have e:b=c.heap.objs.size:=by simpa using f
   subst e;exact d.lS (zq _) (d.hok.fresh (zq _))
abbrev KI(K:Q_)(ι:List uc)(H:Hp)(b:Src)(J:It):Prop:=∀(a:List uc) (c:Hp) (e:MH),Ext K ι H a c->aO K a e c->nY b.ck e ->
 (∀(i:Nat) (d:D),b.ds[i]?=some d->J.go i c/\∀x f,J.kq i c x f->f=c/\Rep K a c d x)/\J.stop b.ds.length c
inductive LI (K:Q_) (f:Ev->Mo Src) (σ:St) (H:Hp) (R:It->Hp->Prop):Prop
 |mk (ι:List uc) (ρ:Ev) (M:MH) (src:Src) (M':MH) (S0:aO K ι M H) (R0:bQ K ι H ρ σ) (e:f ρ M=some (.ok src,M')) (k:∀J H' ι',aO K ι' M' H'->Ext K ι H ι' H'->KI K ι' H' src J->R J H')
def PI.imp(h:PI X a e t)(k:∀σ H R,t' σ H R->t σ H R):PI X a e t':=λ b s σ H R I q=>h b s σ H R I (k σ H R q)
def LI.seq{K:Q_}{f:DE}(σ:St)(H:Hp)(R:It->Hp->Prop)(h:LI K (λ ρ=>do let x<-f ρ;eY x) σ H R):QG K (LE K f) σ H R:=by
 obtain⟨ι,ρ,M,N,M',S,T,e,k⟩:=h;have⟨x,U,e1,e⟩:=aa e;refine⟨ι,ρ,M,x,U,S,T,e1,λ v A l O r u=>?_⟩;cases O with
 |tup t q =>
  symm at e;refine .inr (.inl ⟨_,_,rfl,cZ t,k _ A l r u λ m G z j w ok=>⟨λ i d hd=>?_,⟨_,cZ (j.tup _ _ t),yG (q.length.symm)⟩⟩⟩);let⟨v,hv,n⟩:=(q.mono j).get hd;exact⟨⟨_,v,cZ (j.tup _ _ t),hv⟩,λ B I y=>⟨y.1,by have:=y.2 _ (cZ (j.tup _ _ t));rw[hv]at this;cases this;exact n⟩⟩
 |fl t q =>
  symm at e;refine .inl ⟨_,_,rfl,t.seq,k _ A l r u λ m G z j w ok=>⟨λ i d hd=>?_,⟨_,(j.fz _ _ t).seq,yG (q.length.symm)⟩⟩⟩;let⟨v,hv,n⟩:=(q.mono j).get hd;exact⟨⟨_,v,(j.fz _ _ t).seq,hv⟩,λ B I y=>⟨y.1,by have:=y.2 _ (j.fz _ _ t).seq;rw[hv]at this;cases this;exact n⟩⟩
 |str y =>
  have⟨_,_,p,e⟩:=aa e;have⟨W,rfl⟩:=aR p;symm at e;refine .inr (.inr ⟨y,rfl,k _ A l r u λ m G z j w ok=>⟨λ i d hd=>?_,?_⟩⟩)
  ·rw[zm]at hd
   cases hc:y.cps.toList[i]? with
   |none=>rw[hc]at hd;cases hd
   |some c =>
    rw[hc]at hd;cases hd;have o:y.cps[i]?=some c:=by simpa using hc
    refine⟨?_,λ B I L=>?_⟩
    ·exact(yA.mp o).1
    ·let⟨D,c',s,rfl⟩:=L
     rw[o]at s;cases s;exact⟨D,.str _⟩
  ·show (y.cps.toList.map sgn).length=y.cps.size
   simp
 |ob t =>
  have⟨ds,_,p,e⟩:=aa e;have⟨g,rfl⟩:=cH p;symm at e;let⟨a,vs,D,s,P,Y⟩:=aY r (.ob t) g;cases D;refine .inl ⟨_,vs,rfl,bx.of P,k _ A l r u λ m G z j w ok=>?_⟩;have C:z[_]?=some (MO.lst ds):=ok;let⟨a2,V,Q,Z,E,J⟩:=aY w (.ob (j.pre _ _ s)) C;cases Q;refine⟨λ i d hd=>?_,⟨V,bx.of E,yG (J.length.symm)⟩⟩;let⟨v,hv,n⟩:=J.get hd;exact⟨⟨_,v,bx.of E,hv⟩,λ B I y=>⟨y.1,by have:=y.2 _ (bx.of E);rw[hv]at this;cases this;exact n⟩⟩
 |_=>exact(ai e).elim
def QA{K:Q_}{ι:List uc}{H:Hp}{lo hi:Int}:KI K ι H ⟨none,gO lo hi⟩ (MA lo (hi-lo).toNat):=λ e l k g j _=>by
 refine⟨λ i d hd=>?_,?_⟩
 ·unfold gO at hd
  rw[zm]at hd;cases hc:(List.range (hi-lo).toNat)[i]? with
  |none=>rw[hc]at hd;cases hd
  |some c =>
   rw[hc]at hd;cases hd;let⟨b,a⟩:=zz.mp hc;rw[yh]at b;rw[xp]at a;subst a;refine⟨b,λ h m y=>?_⟩;let⟨f,rfl⟩:=y;exact⟨f,.int _⟩
 ·show (hi-lo).toNat<=(gO lo hi).length
  unfold gO;rw[zy,yh];exact zq _
def LI.rng1{K:Q_}{f:DE}(σ:St)(H:Hp)(R:It->Hp->Prop)(h:LI K (λ ρ=>do
  let x<-f ρ
  (match x with
  |.int i=>do need (small i);pure ⟨none,gO 0 i⟩
  |_=>Mo.stop)) σ H R):LM (cW (LE K f) ir) σ H R:=by
 obtain⟨ι,ρ,M,j,r,S,p,e,k⟩:=h;have⟨x,q,e1,e⟩:=aa e;refine⟨ι,ρ,M,x,q,S,p,e1,λ v g a l o n=>?_⟩;cases l with
 |int i =>
  have⟨_,_,d,e⟩:=aa e;have⟨c,rfl⟩:=aR d;symm at e;refine⟨i,rfl,c.1,c.2,k _ g a o n ?_⟩
  have:=@QA K a g 0 i
  rw[Int.sub_zero]at this;exact this
 |_=>exact(ai e).elim
def N6{K:Q_}{ι:List uc}{H:Hp}{lo hi st:Int}:KI K ι H ⟨none,gP lo hi st⟩ (KH lo st (d8 lo hi st)):=λ e l k g j _=>by
 refine⟨λ i d hd=>?_,?_⟩
 ·unfold gP at hd
  rw[zm]at hd;cases hc:(List.range (d8 lo hi st))[i]? with
  |none=>rw[hc]at hd;cases hd
  |some c =>
   rw[hc]at hd;cases hd;let⟨b,a⟩:=zz.mp hc;rw[yh]at b;rw[xp]at a;subst a;refine⟨b,λ h m y=>?_⟩;let⟨f,rfl⟩:=y;exists f;rw[Int.mul_comm];exact .int _
 ·show d8 lo hi st<=(gP lo hi st).length
  unfold gP;rw[zy,yh];exact zq _
def LI.rng3{K:Q_}{f g h:DE}(σ:St)(H:Hp)(R:It->Hp->Prop)(w:LI K (λ ρ=>do
  let x<-f ρ
  let y<-g ρ
  let z<-h ρ
  mK x y z) σ H R):LL (cW (LE K f) (cW (LE K g) (cW (LE K h) ir))) σ H R:=by
 obtain⟨ι,ρ,M,p,L,S,j,e,k⟩:=w;have⟨x,o,e1,e⟩:=aa e;have⟨y,n,C,e⟩:=aa e;have⟨z,I,B,e⟩:=aa e;refine⟨ι,ρ,M,x,o,S,j,e1,λ v O d s G i=>?_⟩;refine⟨d,ρ,o,y,n,G,j.mono i,C,λ u N c r F m=>?_⟩;refine⟨c,ρ,n,z,I,F,(j.mono i).mono m,B,λ u J b q E D=>?_⟩;unfold mK at e;split at e
 ·have⟨_,_,l,e⟩:=aa e
  have⟨t,rfl⟩:=aR l;symm at e;cases s;cases r;cases q;exact⟨_,_,_,rfl,t,k _ J b E ((i.trans m).trans D) N6⟩
 ·exact(ai e).elim
def eX(h:cK ck M=some (.ok u,M')):nY ck M/\M'=M:=by
 unfold cK at h;split at h
 ·rename_i a;cases h;exact⟨a,rfl⟩
 ·cases h
def LS.loop{K:Q_}{i:Nat}{fs:Ev->Mo Src}{A:Ev->Mo Fl}(D:Ends)(σ:St)(H:Hp)(h:LS K (λ ρ=>do let s<-fs ρ;fC s.ck i A s.ds ρ) D σ H):u6 (LI K fs) (fX i) (LS K A) D σ H:=by
 obtain⟨ι,ρ,M,fl,U,S,R,e,k⟩:=h;have⟨b,T,e1,e⟩:=aa e;refine⟨ι,ρ,M,b,T,S,R,e1,λ J V q S1 C Q=>?_⟩;refine⟨λ j m o w=>m=b.ds.length-j/\j<=b.ds.length/\∃g p O,aO K g O w/\bQ K g w p o/\Ext K q V g w/\fC b.ck i A (b.ds.drop j) p O=some (.ok fl,U),
  ⟨_,rfl,zW _,q,ρ,T,S1,R.mono C,Ext.refl,e⟩,?_⟩
 rintro j m o w ⟨rfl,hj,g,p,O,F,R2,t,d⟩;by_cases I:j<b.ds.length
 ·right
  rw[yt I]at d;have⟨_,_,r,d⟩:=aa d;have⟨ok,rfl⟩:=eX r;have⟨f,N,r,d⟩:=aa d;let⟨go,kq⟩:=(Q g w _ t F ok).1 j _ (zu I);refine⟨go,λ l u=>∃a c G,aO K a G u/\bQ K a u c l/\Ext K q V a u/\fC b.ck i A (b.ds.drop (j+1)) c G=some (.ok fl,U),
   λ l u ⟨a,c,G,h1,h2,h3,h4⟩=>⟨b.ds.length-(j+1),by omega,rfl,I,a,c,G,h1,h2,h3,h4⟩,λ x P y=>?_⟩
  let⟨rfl,Y⟩:=kq x P y;refine⟨g,_,_,f,N,F,R2.set Y i,r,λ u a E B=>?_⟩;cases f with
  |nx c=>exact λ l z=>⟨a,c,N,E,z,t.trans B,d⟩
  |ct c=>exact λ l z=>⟨a,c,N,E,z,t.trans B,d⟩
  |bk c =>
   symm at d;exact λ l z=>k u a E ((C.trans t).trans B) l z
  |rt v =>
   symm at d;exact λ W Z=>k u a E ((C.trans t).trans B) W Z
 ·left
  have ej:j=b.ds.length:=by first|lia|omega
  subst ej;rw[yR]at d;have⟨_,_,r,d⟩:=aa d;have⟨ok,rfl⟩:=eX r;symm at d;exact⟨(Q g w _ t F ok).2,k w g F (C.trans t) o R2⟩
def LE.comp{K:Q_}{j:Nat}{fs:Ev->Mo Src}{I:Ev->Mo Bool}{G:DE}(σ:St)(H:Hp)(Q:VK)(h:LE K (λ ρ=>do
  let s<-fs ρ
  need (s.ds.length<=zi)
  let ys<-eT s.ck I G (ρ.set j none) s.ds
  cv (.lst ys)) σ H Q):DX (LI K fs) (fX 0) 1 (LT K I) (LE K G) σ H Q:=by
 obtain⟨ι,ρ,M,d,M',S,R,e,k⟩:=h;have⟨c,M1,e1,e⟩:=aa e;have⟨_,_,z,e⟩:=aa e;have⟨hn,rfl⟩:=aR z;have⟨all,M2,z,e⟩:=aa e;refine⟨ι,ρ,M,c,_,S,R,e1,λ J H1 r S1 V U=>?_⟩;refine⟨λ i m ys p=>m=c.ds.length-i/\i<=c.ds.length/\ys.length<=i/\∃f ds rest O,aO K f O p/\Ext K r H1 f p/\aB K f p ds ys/\eT c.ck I G (ρ.set j none) (c.ds.drop i) O=some (.ok rest,M2)/\all=ds++rest,
  ⟨_,rfl,zW _,zq _,r,[],all,_,S1,Ext.refl,.nil,z,rfl⟩,?_⟩
 rintro i m ys p ⟨rfl,hi,T,f,ds,rest,O,C,o,F,a,x⟩;by_cases A:i<c.ds.length
 ·right
  rw[yt A]at a;have⟨_,_,n,a⟩:=aa a;have⟨ok,rfl⟩:=eX n;have⟨b,M4,n,a⟩:=aa a;let⟨go,kq⟩:=(U f p _ o C ok).1 i _ (zu A);refine⟨go,by omega,λ v w os ho y=>?_⟩;let⟨rfl,rx⟩:=kq v w y;let⟨o1,rfl⟩:=wn.mp ho;exists [some v],rfl,rfl;have Y:bQ K f w (some c.ds[i]::ρ.set j none) (some v::σ):=((R.mono V).mono o).comp rx j;refine⟨f,_,_,b,M4,C,Y,n,λ H4 q W u=>?_⟩;cases b with
  |true =>
   rw[if_pos rfl]at a ⊢;have⟨P,Z,e5,a⟩:=aa a;have⟨D,M6,e6,a⟩:=aa a;symm at a;refine⟨q,_,_,P,Z,W,Y.mono u,e5,λ v5 H5 l E N B=>?_⟩;exact⟨c.ds.length-(i+1),by omega,rfl,A,by rw[zx];exact Nat.succ_le_succ T,l,ds++[P],D,Z,N,(o.trans u).trans B,((F.mono u).mono B).append (.cons E .nil),e6,by rw[x,zU];rfl⟩
  |false =>
   rw[if_neg zn]at a ⊢;exact⟨c.ds.length-(i+1),by omega,rfl,A,Nat.le_succ_of_le T,q,ds,rest,M4,W,o.trans u,F.mono u,a,x⟩
 ·left
  have ei:i=c.ds.length:=by first|lia|omega
  subst ei;rw[yR]at a;have⟨_,_,n,a⟩:=aa a;have⟨ok,rfl⟩:=eX n;symm at a;rw[zO]at x;subst x;refine⟨(U f p _ o C ok).2,by omega,iB C F e λ v H5 l E N B=>k v H5 l E N ((V.trans o).trans B)⟩
end
abbrev Vm(K:Q_)(a:uc)(n:Nat):It :=
 ⟨λ i H=>∃b,bx K H a b/\b.length=n/\i<n,λ i H x c=>c=H/\∀b,bx K H a b->b[n-1-i]?=some x,λ i _=>i=n⟩
def IY{P:uf}{w:ul}{K:Q_}{M:Expr}(a it:uc)(n:Nat):Turn P w K M (Vm K a n) [it] it (λ i h=>h.IsRevIter it a ((n:Int)-1-i)) where
 mem:=by simp
 obj:=λ i h st b f=>by
  have e:b=it:=by simpa using f
  subst e;let⟨o,e,c,d⟩:=st;exact⟨o,e,λ v z=>by rw[d]at z;cases z⟩
 keep:=λ i h m st k=>st.at λ o e=>k it (by simp) o e
 item:=by
  intro X r hw t hc i L s σ H E I l st q;subst r hw t;let⟨g,J,rfl,hi⟩:=q;let⟨Q,G,p,Y⟩:=I.list J;have Z:=G.length;obtain⟨x,hx⟩:∃x,g[g.length-1-i]?=some x:=⟨_,zu (by omega)⟩;let⟨u,hu,O⟩:=G.get hx;let⟨D,C,S,B,A,y⟩:=l it (by simp);have F:(g.length:Int)-1-(i:Int)=((g.length-1-i:Nat):Int):=by omega
  rw[F]at st;refine wpAny_pyNext_rev_item st p.isList (x:=u) (by simpa using hu) λ m j N=>?_;have V:Inv X L σ H { s with heap:=m }:=I.turned (t':=s.toks) (λ b o f e=>(N.2 b f).trans e) D C B A y;let⟨o,e,c,d⟩:=id j;refine⟨u,rfl,oW (s:={ s with heap:=m }) e c d (by decide) ⟨x,H,V,O,⟨rfl,λ W R=>by rw[I.iD R J];exact hx⟩,?_,λ b f=>(l b f).1⟩⟩;have U:(g.length:Int)-1-((i+1:Nat):Int)=((g.length-1-i:Nat):Int)-1:=by omega
  rw[U];exact j
 done:=by
  intro X r hw t hc i L s σ H E I l st q;subst r hw t;have hi:i=n:=q;let⟨D,C,S,B,A,y⟩:=l it (by simp);have F:(n:Int)-1-(i:Int)=-1:=by omega
  rw[F]at st;exact wpAny_pyNext_rev_end (I.ok.hd hc) st λ m T=>⟨rfl,I.turned (t':=s.toks) (λ b o f e=>T b o f e) D C B A y⟩
 self:=λ _ _ _ _ _ st h=>wpAny_pyIter_revIter st h
abbrev QF(K:Q_)(d:TA):TI:=λ σ H R=>d σ H λ vs c=>∃a b,vs=[.ref a]/\bx K c a b/\R (Vm K a b.length) c
def PL(z:Gl X "reversed")(x:X.mg "reversed" = none)(B:PA X [a] i)(v:starEach [a] X.env=[(false,eval a X.env)]:=by rfl):PI X j (.Call (.Name "reversed" p) [a] [] pos) (QF X.K i):=by
 intro C s σ H R I h;refine Call_ (kG I z x PyProof.Rows.boot_reversed (W_ (aJ (B pos C s σ H _ I h) λ E d ⟨vs,D,g,n,t⟩=>?_) v rfl));let⟨l,c,e,w,q⟩:=t;subst e;cases n with
 |cons r m =>
  cases m;cases r;let⟨f,k,u,F⟩:=g.list w;have y:f.length=c.length:=k.length.symm;refine call_reversed_list u.isList ?_;have e:((f.toArray.size:Int)-1)=(c.length:Int)-1:=by rw[zD,y]
  rw[e];refine wpAny_pyIter_revIter (s:={ d with heap:=_ }) ⟨_,zC _ rfl,rfl,rfl⟩ ?_;refine⟨d.heap.objs.size,[d.heap.objs.size],_,_,D,rfl,g.kept (t':=d.toks) λ b o e=>zv _ e,IY l _ _,⟨_,zC _ rfl,rfl,?_⟩,λ b A=>?_,q⟩
  ·show Data.fields #[Value.ref l,rawInt ((c.length:Int)-1)]=_
   rw[show ((c.length:Int)-1-((0:Nat):Int))=(c.length:Int)-1 by omega]
  ·have e:b=d.heap.objs.size:=by simpa using A
   subst e;exact g.lS (zq _) (g.hok.fresh (zq _))
def LI.revs{K:Q_}{f:DE}(σ:St)(H:Hp)(R:It->Hp->Prop)(h:LI K (λ ρ=>do let x<-f ρ;sf x) σ H R):QF K (cW (LE K f) ir) σ H R:=by
 obtain⟨ι,ρ,M,q,U,S,D,e,k⟩:=h;have⟨x,F,e1,e⟩:=aa e;refine⟨ι,ρ,M,x,F,S,D,e1,λ v G b s m B=>?_⟩;cases s with
 |ob t =>
  have⟨ds,T,A,e⟩:=aa e;let⟨g,rfl⟩:=cH A;symm at e;let⟨p,ws,z,P,w,l⟩:=aY m (.ob t) g;cases z;refine⟨_,ws,rfl,bx.of w,k _ G b m B λ n V Q o C ok=>⟨λ i d hd=>?_,by rw[yC];exact l.length⟩⟩;have hi:i<ds.length:=by
   have:=(zz.mp hd).1
   (rw[yC]at this;assumption)
  rw[List.getElem?_reverse hi]at hd;let⟨J,E,u,O,j,c⟩:=aY C ((Rep.ob t).mono o) ok;cases u;have N:=l.length;have L:=c.length;let⟨v,hv,r⟩:=c.get hd;refine⟨⟨E,bx.of j,by omega,by omega⟩,λ I W y=>⟨y.1,?_⟩⟩
  have:=y.2 _ (bx.of j)
  rw[show ws.length-1-i=ds.length-1-i by omega,hv]at this;cases this;exact r
 |_=>exact(ai e).elim
section
variable {X:Cx}{XV:List (uc×Obj)}{σ:St}{H:Hp}{s:kt}{h':Heap}
structure uN (X:Cx) (XV:List (uc×Obj)) (a:uc):Prop where
 lo:X.s₀.heap.objs.size<=a
 fr:a≠X.env.locals
 cl:∀y c,X.env.cells.lookup y=some c->c≠a
 pn:∀p∈X.pn++XV,p.1≠a
def ko(I:Inv X XV σ H s){a:uc}(h:s.heap.objs.size<=a):uN X XV a:=by
 refine⟨zG I.sz h,yi (ze I.lt h),λ y c e z=>?_,λ p b z=>?_⟩
 ·let⟨v,o,ho,_⟩:=I.cell y c e
  exact absurd (ze (zg ho) (by rw[z];exact h)) (yg _)
 ·exact absurd (ze (zg (I.pin p b).1) (by rw[z];exact h)) (yg _)
def lq(I:Inv X XV σ H s)(d:H a=none)(y:uN X XV a)(new:bV X.prog X.w (upd H a o) s.heap a o):Inv X XV σ (upd H a o) s where
 ok:=I.ok
 os:=I.os
 bare:=I.bare
 base:=Un.adopt I.base (ym y.lo) d
 loc:=I.loc
 cell:=I.cell
 free:=by rw[ar (Ne.symm y.fr)];exact I.free
 c9:=λ x c e=>by rw[ar (y.cl x c e)];exact I.c9 x c e
 pin:=λ p b=>by
  let⟨h,g,f⟩:=I.pin p b;exact⟨h,by rw[ar (y.pn p b)];exact g,f⟩
 hok:=cV.adopt I.hok d new
 len:=I.len
def MT(I:Inv X XV σ H s)(k:∀c o,c≠a->c≠b->s.heap.get? c=some o->h'.get? c=some o)(t:jL X XV H a)(p:jL X XV H b):Inv X XV σ H { s with heap:=h',toks:=t' }:=by
 let⟨G,j,_,F,E,D⟩:=t;let⟨C,i,_,B,A,y⟩:=p;have h:∀c u,H c=some u->c≠a:=λ c u e z=>by rw[z,G]at e;cases e
 have g:∀c u,H c=some u->c≠b:=λ c u e z=>by rw[z,C]at e;cases e
 have f:∀c o,c ∉ [a,b]->s.heap.get? c=some o->h'.get? c=some o:=λ c o hc e=>k c o (λ z=>hc (by simp[z])) (λ z=>hc (by simp[z])) e;refine I.step (g':=s.gens) (d':=s.drawn) (ch:=[a,b]) (λ c hc=>?_) (λ c o _ _ hc e _=>f c o hc e) (λ c o _ _ hc e _=>⟨o.slots,f c o hc e⟩) (λ _ _ _ _ n=>n)
  (λ c o hc e=>⟨o,f c o hc e⟩) (λ _ _ e=>e) (λ _ _ _ e=>e) (λ c ps e=>⟨#[],by rw[e];simp⟩) (λ m l=>?_) (λ c u e=>?_) I.bare
 ·rcases zd.mp hc with rfl|hc
  ·exact⟨F,j,E,D⟩
  ·rw[zB.mp hc]
   exact⟨B,i,A,y⟩
 ·let⟨o,w,x,ho,r⟩:=l
  exact⟨o,w,x,k _ o (Ne.symm j) (Ne.symm i) ho,r⟩
 ·refine(I.hok c u e).ku (λ d v hd q=>?_) (λ _ q=>q) λ _ _ q=>q
  rcases hd with z|z
  ·exact k d v (by rw[z];exact h c u e) (by rw[z];exact g c u e) q
  ·exact k d v (h d _ z) (g d _ z) q
end
abbrev R5(K:Q_)(a:uc):It :=
 ⟨λ i H=>∃b x,bx K H a b/\b[i]?=some x,λ i H x c=>∃p v,x=.ref p/\H p=none/\c=upd H p (.tup [.int i,v])/\∀b,bx K H a b->b[i]?=some v,λ i H=>∃b,bx K H a b/\b.length<=i⟩
def Gk{P:uf}{w:ul}{K:Q_}{es:List Expr}{x1:Nat}{pos:Pos}(a e it:uc)(ne:e≠it):Turn P w K (.Tuple es x1 pos) (R5 K a) [e,it] e (λ i h=>(∃f,IsEnum h e it i f)/\h.IsListIter it a i) where
 mem:=by simp
 obj:=λ i h st b g=>by
  obtain⟨⟨f,he⟩,o,n,c,d⟩:=st;rcases zd.mp g with rfl|g
  ·exact⟨_,he,λ v z=>by cases z⟩
  ·rw[zB.mp g]
   exact⟨o,n,λ v z=>by rw[d]at z;cases z⟩
 keep:=λ i h Y st k=>by
  obtain⟨⟨f,he⟩,hi⟩:=st;exact⟨⟨f,k e (by simp) _ he⟩,hi.at λ o q=>k it (by simp) o q⟩
 item:=by
  intro X C hw D hc i r s σ H E I l st B;subst C hw D;obtain⟨⟨f,he⟩,hi⟩:=st;let⟨N,x,m,hx⟩:=B;let⟨A,t,p,S⟩:=I.list m;let⟨u,hu,O⟩:=t.get hx;have fe:=l e (by simp);have Z:=l it (by simp);refine wpAny_pyNext_enum_item he hi p.isList (x:=u) (by simpa using hu) ne λ n ho Zg U pN V=>?_;refine⟨_,rfl,wpAny_letOwnedTupleGo_enum (s:={ s with heap:=n,toks:=s.toks+1 }) ho λ h2 R j=>?_⟩;have j:Heap.SameBut e n h2:=j;have M:e<s.heap.objs.size:=zg he;have keep:∀c o,c≠e->c≠it->s.heap.get? c=some o->h2.get? c=some o:=λ c o L Q q=>(j.2 c L).trans (V c o L Q q);have I1:Inv X r σ H { s with heap:=h2,toks:=s.toks+1 }:=MT I keep fe Z;have fr:H s.heap.objs.size=none:=I.hok.fresh (zq _);have G:h2.get? s.heap.objs.size=some { cls:=.type "tuple",data:=.seq #[.int i s.toks,u] }:=(j.2 _ (yi M)).trans U;have y:uN X r s.heap.objs.size:=ko I (zq _);have I2:Inv X r σ (upd H s.heap.objs.size (.tup [.int i,x])) { s with heap:=h2,toks:=s.toks+1 } :=
   lq I1 fr y ⟨by show 2<=zi;decide,[.int i s.toks,u],.cons ⟨_,rfl⟩ (.cons O .nil),⟨⟨_,G,rfl,0,rfl⟩,λ o q=>by rw[G]at q;cases q;exact⟨rfl,rfl⟩⟩⟩
  refine⟨.ref s.heap.objs.size,_,I2,rfl,⟨_,x,rfl,fr,rfl,λ ys T=>by rw[I.iD T m];exact hx⟩,⟨⟨u,?_⟩,?_⟩,λ b g=>?_⟩
  ·have:((i+1:Nat):Int)=(i:Int)+1:=by first|lia|omega
   rw[this];exact R
  ·exact Zg.extBut j.extBut (Ne.symm ne)
  ·have J:H b=none:=(l b g).1
   rcases zd.mp g with rfl|g
   ·rw[ar (zF M)];exact J
   ·have F:=zB.mp g
    subst F;let⟨o,W,_⟩:=hi;rw[ar (zF (zg W))];exact J
 done:=by
  intro X C hw D hc i r s σ H E I l st B;subst C hw D;obtain⟨⟨f,he⟩,hi⟩:=st;let⟨N,m,hx⟩:=B;let⟨A,t,p,S⟩:=I.list m;let⟨f0,f1,f2,f3,f4,f5⟩:=l it (by simp);have hl:=t.length;exact wpAny_pyNext_enum_end (I.ok.hd hc) he hi p.isList (by simp;omega) λ Y F=>⟨rfl,I.turned (t':=s.toks) (λ b o g e=>F b o g e) f0 f1 f3 f4 f5⟩
 self:=λ _ _ _ _ _ st h=>by
  obtain⟨⟨f,he⟩,hi⟩:=st;exact wpAny_pyIter_enum he h
section
variable {prog:uf}{w:ul}{A:ut}{E:jp->kt->Prop}{s:kt}
end
abbrev LN(K:Q_)(d:TA):TI:=λ σ H R=>d σ H λ vs b=>∃a,vs=[.ref a]/\(∃c,bx K b a c)/\R (R5 K a) b
def ND(A:Gl X "enumerate")(y:X.mg "enumerate" = none)(B:PA X [a] g)(w:starEach [a] X.env=[(false,eval a X.env)]:=by rfl):PI X (.Tuple es x1 tp) (.Call (.Name "enumerate" p) [a] [] pos) (LN X.K g):=by
 intro j s σ H R I h;refine Call_ (kG I A y boot_enumerate (W_ (aJ (B pos j s σ H _ I h) λ E c ⟨vs,k,d,n,o⟩=>?_) w rfl));obtain⟨l,e,⟨D,x⟩,q⟩:=o;subst e;cases n with
 |cons r m =>
  cases m;cases r;let⟨u,F,t,G⟩:=d.list x;refine call_enumerate_list t.isList λ i he hi v z=>?_;have C:Inv X j σ k { c with heap:=i }:=d.kept (t':=c.toks) z;refine wpAny_pyIter_enum (s:={ c with heap:=i }) he ?_;refine⟨c.heap.objs.size+1,[c.heap.objs.size+1,c.heap.objs.size],_,_,k,rfl,C,Gk l _ _ (Nat.succ_ne_self _),⟨⟨_,he⟩,hi⟩,λ b f=>?_,q⟩;rcases zd.mp f with rfl|f
  ·exact d.lS (xk _) (d.hok.fresh (xk _))
  ·rw[zB.mp f]
   exact d.lS (zq _) (d.hok.fresh (zq _))
abbrev MB(K:Q_)(ι:List uc)(H:Hp)(b:Src)(J:It):Prop:=∀(a:List uc) (c:Hp) (f:MH),Ext K ι H a c->aO K a f c->nY b.ck f ->
 (∀(i:Nat) (d:D),b.ds[i]?=some d->J.go i c/\∀x e,J.kq i c x e->aO K a f e/\Ext K a c a e/\Rep K a e d x)/\J.stop b.ds.length c
abbrev kX(K:Q_)(f:Ev->Mo Src):TI:=λ σ H R=>∃ι ρ M b d,aO K ι M H/\bQ K ι H ρ σ/\f ρ M=some (.ok b,d) /\
 ∀J c a,aO K a d c->Ext K ι H a c->MB K a c b J->R J c
def kX.to{K:Q_}{f:Ev->Mo Src}(σ:St)(H:Hp)(R:It->Hp->Prop)(h:kX K f σ H R):LI K f σ H R:=by
 obtain⟨ι,ρ,M,c,v,S,t,e,k⟩:=h;refine⟨ι,ρ,M,c,v,S,t,e,λ J z b s q ok=>k J z b s q λ a w u l j n=>?_⟩;let⟨p,o⟩:=ok a w u l j n;refine⟨λ i d hd=>?_,o⟩;let⟨go,y⟩:=p i d hd;refine⟨go,λ x g m=>?_⟩;let⟨rfl,r⟩:=y x g m;exact⟨j,Ext.refl,r⟩
def Ki{ds:List D}{i:Nat}{d:D}(h:(gX ds)[i]?=some d):∃x,ds[i]?=some x/\d=.tup [.int i,x]:=by
 unfold gX at h;rw[wA]at h;let⟨x,b,a⟩:=zp.mp h;exact⟨x,b,a.symm⟩
def Kh:(gX ds).length=ds.length:=wN
def kX.enum{K:Q_}{f:DE}(σ:St)(H:Hp)(R:It->Hp->Prop)(h:kX K (λ ρ=>do let x<-f ρ;pd x) σ H R):LN K (cW (LE K f) ir) σ H R:=by
 obtain⟨ι,ρ,M,J,M',S,Z,e,k⟩:=h;have⟨x,M1,e1,e⟩:=aa e;refine⟨ι,ρ,M,x,M1,S,Z,e1,λ v w j N B I=>?_⟩;have s:∀{a:uc} {C:List V} {ds:List D} {ck:Option (Nat×List D)},bx K w a C->(∀b c l,Ext K j w b c->aO K b l c->nY ck l->∃n,bx K c a n/\aB K b c ds n)->MB K j w ⟨ck,gX ds⟩ (R5 K a):=by
  intro a C ds ck hq P b c l o u ok;let⟨n,A,r⟩:=P b c l o u ok;refine⟨λ i d hd=>?_,⟨n,A,by rw[Kh,r.length];exact zq _⟩⟩;let⟨x,hx,rfl⟩:=Ki hd;let⟨v,hv,L⟩:=r.get hx;refine⟨⟨n,v,A,hv⟩,λ x' H' y=>?_⟩;let⟨p,v',rfl,E,rfl,O⟩:=y
  have:=O n A
  rw[hv]at this;cases this;have G:Ext K b c b (upd c p (.tup [.int i,v])):=Ext.dU E;exact⟨u.dU E,G,.tup aV (.cons (.int _) (.cons (L.mono G) .nil))⟩
 cases N with
 |fl t q =>
  symm at e;exact⟨_,rfl,⟨_,t.seq⟩,k _ w j B I (s t.seq λ b c l o u _=>⟨_,(o.fz _ _ t).seq,q.mono o⟩)⟩
 |ob t =>
  have⟨ds,l,Y,e⟩:=aa e;let⟨g,rfl⟩:=cH Y;symm at e;let⟨a,vs,T,Q,F,h4⟩:=aY B (.ob t) g;cases T;refine⟨_,rfl,⟨_,bx.of F⟩,k _ w j B I (s (bx.of F) λ b c l o u ok=>?_)⟩;have z:l[_]?=some (MO.lst ds):=ok;let⟨a2,Gg,X,g2,W,U⟩:=aY u (.ob (o.pre _ _ Q)) z;cases X;exact⟨_,bx.of W,U⟩
 |_=>exact(ai e).elim
def Ak(h:pairD d=some p):d=.tup [p.1,p.2]:=by
 unfold pairD at h;split at h
 ·cases h;rfl
 ·cases h
def LS.E8{K:Q_}{i j:Nat}{fs:Ev->Mo Src}{E:Ev->Mo Fl}(D:Ends)(σ:St)(H:Hp)(h:LS K (λ ρ=>do let s<-fs ρ;dg s.ck i j E s.ds ρ) D σ H):u6 (kX K fs) (Fy K 2 (oY (fX i) (oY (fX j) Fz))) (LS K E) D σ H:=by
 obtain⟨ι,ρ,M,fl,M',S,R,e,k⟩:=h;have⟨c,Z,e1,e⟩:=aa e;refine⟨ι,ρ,M,c,Z,S,R,e1,λ J H1 w S1 I X=>?_⟩;refine⟨λ n m r A=>m=c.ds.length-n/\n<=c.ds.length/\∃g u U,aO K g U A/\bQ K g A u r/\Ext K w H1 g A/\dg c.ck i j E (c.ds.drop n) u U=some (.ok fl,M'),
  ⟨_,rfl,zW _,w,ρ,Z,S1,R.mono I,Ext.refl,e⟩,?_⟩
 rintro n m r A ⟨rfl,hj,g,u,U,Q,R2,G,a⟩;by_cases P:n<c.ds.length
 ·right
  rw[yt P]at a;have⟨_,_,p,a⟩:=aa a;have⟨ok,rfl⟩:=eX p;have⟨pr,_,p,a⟩:=aa a;have⟨Hw,rfl⟩:=bh p;have⟨f,T,p,a⟩:=aa a;let⟨go,kq⟩:=(X g A _ G Q ok).1 n _ (zu P);refine⟨go,λ l z=>∃b d N,aO K b N z/\bQ K b z d l/\Ext K w H1 b z/\dg c.ck i j E (c.ds.drop (n+1)) d N=some (.ok fl,M'),
   λ l z ⟨b,d,N,h1,h2,h3,h4⟩=>⟨c.ds.length-(n+1),by omega,rfl,P,b,d,N,h1,h2,h3,h4⟩,λ x V y=>?_⟩
  let⟨S5,Y,W⟩:=kq x V y;rw[Ak Hw]at W;cases W with
  |tup t q =>
   cases q with
   |cons q1 O =>
    cases O with
    |cons O q3 =>
     cases q3;exists _,_,rfl,cZ t,rfl,_,_,rfl,_,_,rfl,rfl;refine⟨g,_,_,f,T,S5,((R2.mono Y).set q1 i).set O j,p,λ z b L X3=>?_⟩;have F:=G.trans (Y.trans X3);cases f with
     |nx d=>exact λ l C=>⟨b,d,T,L,C,F,a⟩
     |ct d=>exact λ l C=>⟨b,d,T,L,C,F,a⟩
     |bk d =>
      symm at a;exact λ l C=>k z b L (I.trans F) l C
     |rt v =>
      symm at a;exact λ v' r'=>k z b L (I.trans F) v' r'
 ·left
  have ej:n=c.ds.length:=by first|lia|omega
  subst ej;rw[yR]at a;have⟨_,_,p,a⟩:=aa a;have⟨ok,rfl⟩:=eX p;symm at a;exact⟨(X g A _ G Q ok).2,k A g Q (I.trans G) r R2⟩
section
variable {X:Cx}
def nH:entryFor table "dict_itemiterator.__iter__" = some Builtin.«dict_keyiterator.__iter__» :=
 entryFor_alias (id':="dict_keyiterator.__iter__") (by kernel_rfl) rfl (by decide +kernel) (by kernel_rfl)
abbrev RZ(b:List (Str×Str)):It :=
 ⟨λ i _=>i<b.length,λ i H x c=>∃p a,x=.ref p/\H p=none/\b[i]?=some a/\c=upd H p (.tup [.str a.1,.str a.2]),λ i _=>b.length<=i⟩
def TC{b:List (Str×Str)}:∀{vs:List (Key×jp)} {i:Nat},KV (b.map λ p=>((.inr p.1:Key),V.str p.2)) vs->i<b.length->∃a v,b[i]?=some a/\vs[i]?=some ((.inr a.1:Key),v)/\RelV (V.str a.2) v:=by
 induction b with
 |nil=>exact λ _ h=>absurd h (yU _)
 |cons p b d =>
  intro vs i r h;cases r with
  |cons c t =>
   cases i with
   |zero=>exact⟨p,_,rfl,by rw[xY];congr 1;exact Prod.ext c.1.symm rfl,c.2⟩
   |succ i =>
    let⟨a,v,g,f,e⟩:=d (i:=i) t (by simpa using h);exact⟨a,v,by simpa using g,by simpa using f,e⟩
def MU{P:uf}{w:ul}{K:Q_}{es:List Expr}{x1:Nat}{pos:Pos}{a it:uc}{n:List (Str×Str)}{vs:List (Key×jp)}{ep:Nat}(g:KV (n.map λ p=>((.inr p.1:Key),V.str p.2)) vs)(hd:∀h:Heap,K.In h->h.DictAt (aN P w) a vs ep) :
  Turn P w K (.Tuple es x1 pos) (RZ n) [it] it (λ i h=>∃ok d,IsItemIter h it a i vs.length ep ok d) where
 mem:=by simp
 obj:=λ i h st b c=>by
  let⟨ok,d,e⟩:=st;rw[zB.mp c];exact⟨_,e,λ v z=>by cases z⟩
 keep:=λ i h Z st k=>by
  let⟨ok,d,e⟩:=st;exact⟨ok,d,k it (by simp) _ e⟩
 item:=by
  intro X y hw B hc i L s σ H E I u st r;subst y hw B;let⟨ok,d,he⟩:=st;let⟨f,v,a1,a2,a3⟩:=TC g r;let⟨m,J,f2,G,D,C⟩:=u it (by simp);refine wpAny_pyNext_items_item he (hd _ I.eB) a2 λ j R M ho U pN Y=>?_;refine⟨_,rfl,wpAny_letOwnedTupleGo_items (s:={ s with heap:=R }) ho λ h2 T l=>?_⟩;have l:Heap.SameBut it R h2:=l;have S:it<s.heap.objs.size:=zg he;obtain⟨N,rfl⟩:∃t,j=Value.str f.1 t:=by
   have M:mP (.inr f.1) j=true:=M;rcases cy M with ⟨i,t,e,_⟩|⟨x,t,e,e2⟩
   ·cases e
   ·cases e;exact⟨t,e2⟩
  have I1:Inv X L σ H { s with heap:=h2 }:=I.turned (t':=s.toks) (λ b o c e=>(l.2 b c).trans (Y b o c e)) m J G D C;have fr:H s.heap.objs.size=none:=I.hok.fresh (zq _);have O:h2.get? s.heap.objs.size=some { cls:=.type "tuple",data:=.seq #[.str f.1 N,v] }:=(l.2 _ (yi S)).trans U;have I2:Inv X L σ (upd H s.heap.objs.size (.tup [.str f.1,.str f.2])) { s with heap:=h2 } :=
   lq I1 fr (ko I (zq _)) ⟨by show 2<=zi;decide,[.str f.1 N,v],.cons ⟨_,rfl⟩ (.cons a3 .nil),⟨⟨_,O,rfl,0,rfl⟩,λ o q=>by rw[O]at q;cases q;exact⟨rfl,rfl⟩⟩⟩
  refine⟨.ref s.heap.objs.size,_,I2,rfl,⟨_,f,rfl,fr,a1,rfl⟩,⟨_,_,T⟩,λ b c=>?_⟩;rw[zB.mp c,ar (zF S)];exact m
 done:=by
  intro X y hw B hc i L s σ H E I u st r;subst y hw B;let⟨ok,d,he⟩:=st;let⟨m,J,f2,G,D,C⟩:=u it (by simp);have W:vs.length=n.length:=by rw[<- Paired.length g,zy]
  exact wpAny_pyNext_items_end (I.ok.hd hc) he (hd _ I.eB) (xy (by rw[W];exact r)) λ Z eb=>⟨rfl,I.turned (t':=s.toks) (λ b o c e=>eb b o c e) m J G D C⟩
 self:=λ A i s Q E st h=>by
  let⟨ok,d,he⟩:=st;have ty:s.TypeIs (.ref it) "dict_itemiterator":=⟨_,he,rfl⟩;refine wpAny_pyIter_slot ty F.slot_dict_itemiterator_iter (wpAny_call_entry F.slot_dict_itemiterator_iter ty nH ?_ (F.args_dict_itemiterator_iter_1 _));show wpAny _ _ (ret (.ref it)) _ _ s;exact zo ⟨_,rfl,"dict_itemiterator",_,ty,F.slot_dict_itemiterator_next.lookup,h⟩
abbrev Ut(a:List (Str×Str)):TI:=λ _ H R=>R (RZ a) H
def SQ(u:DH X.K X.prog X.w a m)(gl:Gl X x)(t:X.mg x=some (.ref a))(L:(x==("__debug__":Str))=false)
  (G:attributeBase (.Name x d) ("items":Str) X.env (eval (.Name x d) X.env)=eval (.Name x d) X.env) (J:(l.endLine==k.line)=true) :
  PI X (.Tuple es x1 pos) (.Call (.Attribute (.Name x d) ("items":Str) l) [] [] k) (Ut m):=by
 intro n s σ H R I h;let⟨C,vs,M,i,hd⟩:=u;refine wpAny_Call_method0_late G J (aJ (sx (v:=.ref a) gl t rfl L n s σ H (λ y E=>y=.ref a/\E=H) I ⟨rfl,rfl⟩) λ v c ⟨y,q,p,r,A,B⟩=>?_);subst A B;cases r;have f:=hd _ p.eB;let⟨ob,N,D,j,_⟩:=id f;refine⟨"dict","dict.items",PySem.F.plainAttrs_dict,PySem.F.slot_dict_items,PySem.F.type_dict_items,f.dictOf.typeIs,λ b e=>?_,Calls.callWith_builtin rfl (PySem.evalArgs_none ?_)⟩
 ·cases e
  exact⟨ob,D,j.2.1⟩
 refine call_meetsIn PySem.F.slot_dict_items f.dictOf.typeIs PySem.F.entry_dict_items (PySem.F.args_dict_items_1 _) (meets_dict_items (aN X.prog X.w) a C) ⟨⟨vs,f.dictOf⟩,?_⟩;have g:Inv X n σ q { c with heap:=c.heap.push { cls:=.type "dict_items",data:=.fields #[.ref a] } }:=p.kept (t':=c.toks) λ b o e=>zv _ e;refine wpAny_pyIter_items (v:=c.heap.objs.size) ⟨_,zC _ rfl,rfl,rfl⟩ (hd _ g.eB) ?_;refine⟨_,[(c.heap.push { cls:=.type "dict_items",data:=.fields #[.ref a] }).objs.size],_,_,q,rfl,g.kept (t':=c.toks) λ b o e=>zv _ e,MU i hd,⟨.none,.none,zC _ rfl⟩,λ b z=>?_,h⟩;have e:b=(c.heap.push { cls:=.type "dict_items",data:=.fields #[.ref a] }).objs.size:=by simpa using z
 subst e;exact g.lS (zq _) (g.hok.fresh (zq _))
def kX.gd{K:Q_}{g:Option D}{d:D}{a:List (Str×Str)}(s:g=some d)(r:lR d=some a)(σ:St)(H:Hp)(R:It->Hp->Prop)(h:kX K (λ _=>do let a<-lift (g.bind lR);pure ⟨none,qi a⟩) σ H R):Ut a σ H R:=by
 obtain⟨ι,ρ,M,n,B,S,y,e,k⟩:=h;have⟨ks',A,e1,e⟩:=aa e;have⟨c,rfl⟩:=bh e1;symm at e;rw[s]at c;have c:lR d=some ks':=c;rw[r]at c;cases c;refine k (RZ a) H ι S Ext.refl λ m C z v u _=>⟨λ i d hd=>?_,?_⟩
 ·have hd:(a.map λ p=>D.tup [.str p.1,.str p.2])[i]?=some d:=hd
  rw[zm]at hd;let⟨w,l,rfl⟩:=zp.mp hd;refine⟨(zz.mp l).1,λ x E q=>?_⟩;let⟨p,o,rfl,j,b,rfl⟩:=q;rw[l]at b;cases b;exact⟨u.dU j,Ext.dU j,.tup aV (.cons (.str _) (.cons (.str _) .nil))⟩
 ·show a.length<=(qi a).length
  unfold qi;rw[zy];exact zq _
end
structure Sound (Γ:Ctx) (n:Nat):Prop where
 E:∀(S:Sc) (X:Cx) (e:Expr) (i:IE),aL Γ S X->cE S n e=some i->PE X e (LE X.K (ag Γ i))
 Es:∀(S:Sc) (X:Cx) (es:List Expr) (i:dE),aL Γ S X->jQ S n es=some i->PA X es (LA X.K (bR Γ i))/\es.all aW=true
 O:∀(S:Sc) (X:Cx) (e:Option Expr) (i:nC),aL Γ S X->cO S n e=some i->PO X e (LO X.K (mJ Γ i))
 T:∀(S:Sc) (X:Cx) (tg e:Expr) (i:IT),aL Γ S X->cT S n e=some i->PI X tg e (LI X.K (iu Γ i))/\∀x,foldedSetIterable e X.env x=pure x
 C:∀(S:Sc) (X:Cx) (e:Expr) (i:IC),aL Γ S X->cC S n e=some i->PT X e (LT X.K (bT Γ i))
 Co:∀(S:Sc) (X:Cx) (e:List Expr) (i:nE),aL Γ S X->Iv S n e=some i->mw X e (LT X.K (jU Γ i))
section
variable {Γ:Ctx}{n:Nat}{K:Q_}
inductive Z5 {α β:Type} (o:Option α) (f:α->Option β) (b:β):Prop
 |mk (a:α) (e:o=some a) (h:f a=some b)
def ak{α β:Type}{o:Option α}{f:α->Option β}{b:β}(h:(o >>= f)=some b):Z5 o f b:=by
 cases o with
 |none=>cases h
 |some a=>exact⟨a,rfl,h⟩
def MR(e:lK ρ i M=some (.ok d,M')):ρ[i]?=some (some d)/\M'=M:=by
 unfold lK at e;cases q:ρ[i]? with
 |none=>rw[q]at e;exact(ai e).elim
 |some o =>
  cases o with
  |none=>rw[q]at e;exact(ai e).elim
  |some a=>rw[q]at e;cases e;exact⟨rfl,rfl⟩
def LE.var(σ:St)(H:Hp)(Q:VK)(h:LE K (ag Γ (.var i)) σ H Q):jE i σ H Q:=by
 obtain⟨ι,ρ,M,d,b,S,R,e,k⟩:=h;have e:lK ρ i M=some (.ok d,b):=e;let⟨hd,rfl⟩:=MR e;let⟨v,hv,a⟩:=R.val i d hd;exact⟨v,hv,k v H ι a S Ext.refl⟩
def LE.const{d:D}{v:V}(hv:∀ι H,Rep K ι H d v)(σ:St)(H:Hp)(Q:VK)(h:LE K (λ _=>pure d) σ H Q):tC v σ H Q:=by
 obtain⟨ι,ρ,M,b,c,S,R,e,k⟩:=h;symm at e;exact k v H ι (hv ι H) S Ext.refl
def LE.chain(σ:St)(H:Hp)(Q:VK)(h:LE K (λ ρ=>do
  let x<-u ρ
  let y<-t ρ
  let k<-cq r x y
  if k=true then do let z<-s ρ;let k'<-cq f y z;pure (.bl k') else pure (.bl false)) σ H Q):u7 (DD K (A8 r)) (DD K (A8 f)) (LE K u) (LE K t) (LE K s) σ H Q:=by
 obtain⟨ι,ρ,M,d,M',S,R,e,k⟩:=h;have⟨x,D,e1,e⟩:=aa e;have⟨y,C,P,e⟩:=aa e;have⟨b,B,O,e⟩:=aa e;refine⟨ι,ρ,M,x,D,S,R,e1,λ v1 H1 p J Y j=>?_⟩;refine⟨p,ρ,D,y,C,Y,R.mono j,P,λ v2 H2 o q X i=>?_⟩;refine⟨o,C,B,x,y,.bl b,X,J.mono i,q,by unfold A8;rw[dC O];rfl,λ v3 H3 c I w g=>?_⟩;cases I;exists b,rfl;cases b with
 |true =>
  rw[if_pos rfl]at e ⊢;have⟨z,A,N,e⟩:=aa e;have⟨T,M5,L,e⟩:=aa e;refine⟨c,ρ,B,z,A,w,((R.mono j).mono i).mono g,N,λ v4 H4 m G W v=>?_⟩;symm at e;exact⟨m,A,_,y,z,.bl T,W,(q.mono g).mono v,G,by unfold A8;rw[dC L];rfl,λ E Z l F V U=>k E Z l F V ((((j.trans i).trans g).trans v).trans U)⟩
 |false =>
  rw[if_neg zn]at e ⊢;symm at e;exact k _ H3 c (.bl _) w ((j.trans i).trans g)
def LE.and(σ:St)(H:Hp)(Q:VK)(h:LE K (λ ρ=>do let x<-l ρ;let k<-lift (bS x);if k=true then j ρ else pure (.bl false)) σ H Q):K6 (LE K l) (LE K j) σ H Q:=by
 obtain⟨ι,ρ,M,d,u,S,R,e,k⟩:=h;have⟨x,B,e1,e⟩:=aa e;have⟨b,A,m,e⟩:=aa e;have⟨a,rfl⟩:=bh m;refine⟨ι,ρ,M,x,_,S,R,e1,λ z w c p o i=>?_⟩;cases p <;> simp[bS]at a;subst a;exists _,rfl;split at e
 ·rename_i a
  rw[if_pos a];exact⟨c,ρ,_,d,u,o,R.mono i,e,λ v y g q t s=>k v y g q t (i.trans s)⟩
 ·rename_i a
  rw[if_neg a];symm at e;exact k _ w c (.bl _) o i
def LE.or(σ:St)(H:Hp)(Q:VK)(h:LE K (λ ρ=>do let x<-l ρ;let k<-lift (bS x);if k=true then pure (.bl true) else j ρ) σ H Q):OZ (LE K l) (LE K j) σ H Q:=by
 obtain⟨ι,ρ,M,d,u,S,R,e,k⟩:=h;have⟨x,B,e1,e⟩:=aa e;have⟨b,A,m,e⟩:=aa e;have⟨a,rfl⟩:=bh m;refine⟨ι,ρ,M,x,_,S,R,e1,λ z w c p o i=>?_⟩;cases p <;> simp[bS]at a;subst a;exists _,rfl;split at e
 ·rename_i a
  rw[if_pos a];symm at e;exact k _ w c (.bl _) o i
 ·rename_i a
  rw[if_neg a];exact⟨c,ρ,_,d,u,o,R.mono i,e,λ v y g q t s=>k v y g q t (i.trans s)⟩
def LE.not(σ:St)(H:Hp)(Q:VK)(h:LE K (λ ρ=>do let x<-g ρ;let k<-lift (bS x);pure (.bl (!k))) σ H Q):K1 (LE K g) σ H Q:=by
 obtain⟨ι,ρ,M,d,t,S,R,e,k⟩:=h;have⟨x,s,e1,e⟩:=aa e;have⟨b,r,i,e⟩:=aa e;have⟨f,rfl⟩:=bh i;symm at e;refine⟨ι,ρ,M,x,_,S,R,e1,λ q p c j o m=>?_⟩;cases j <;> simp[bS]at f;subst f;exact⟨_,rfl,k _ p c (.bl _) o m⟩
def LE.ite(σ:St)(H:Hp)(Q:VK)(h:LE K (λ ρ=>do let k<-o ρ;if k=true then q ρ else p ρ) σ H Q):T8 (LT K o) (LE K q) (LE K p) σ H Q:=by
 obtain⟨ι,ρ,M,d,s,S,R,e,k⟩:=h;have⟨b,u,e1,e⟩:=aa e;refine⟨ι,ρ,M,b,u,S,R,e1,λ w c r f=>?_⟩;split at e
 ·rename_i i
  rw[if_pos i];exact⟨c,ρ,_,d,s,r,R.mono f,e,λ v m a g l j=>k v m a g l (f.trans j)⟩
 ·rename_i i
  rw[if_neg i];exact⟨c,ρ,_,d,s,r,R.mono f,e,λ v m a g l j=>k v m a g l (f.trans j)⟩
def LE.tup{f:Ev->Mo (List D)}(σ:St)(H:Hp)(Q:VK)(h:LE K (λ ρ=>do let xs<-f ρ;need (xs.length<=zi);pure (.tup xs)) σ H Q):OX (LA K f) σ H Q:=by
 obtain⟨ι,ρ,M,d,u,S,R,e,k⟩:=h;have⟨xs,t,e1,e⟩:=aa e;have⟨_,_,g,e⟩:=aa e;have⟨l,rfl⟩:=aR g;symm at e;refine⟨ι,ρ,M,xs,_,S,R,e1,λ vs w i c q o=>⟨by rw[<- c.length];exact l,kh q c λ v s b j r p=>k v s b j r (o.trans p)⟩⟩
def LE.lst{f:Ev->Mo (List D)}(σ:St)(H:Hp)(Q:VK)(h:LE K (λ ρ=>do let xs<-f ρ;need (xs.length<=zi);cv (.lst xs)) σ H Q):O1 (LA K f) σ H Q:=by
 obtain⟨ι,ρ,M,d,u,S,R,e,k⟩:=h;have⟨xs,t,e1,e⟩:=aa e;have⟨_,_,g,e⟩:=aa e;have⟨l,rfl⟩:=aR g;refine⟨ι,ρ,M,xs,_,S,R,e1,λ vs w i c q o=>⟨by rw[<- c.length];exact l,iB q c e λ v s a j r p=>k v s a j r (o.trans p)⟩⟩
def LE.bC(σ:St)(H:Hp)(Q:VK)(h:LE K (λ _=>cv (.bC [])) σ H Q):Gv σ H Q:=by
 obtain⟨ι,ρ,M,d,c,S,R,e,k⟩:=h;intro p a;have⟨rfl,rfl⟩:=oQ e;exact k _ _ (ι++[p]) (.ob (by rw[<- S.len,zA (zq _),yc];rfl)) (S.new a ⟨[],rfl,.nil⟩) (Ext.new a)
def LE.slc(σ:St)(H:Hp)(Q:VK)(h:LE K (λ ρ=>do let x<-o ρ;let l<-fl ρ;let h<-m ρ;i6 x l h) σ H Q):T6 (Vd K) (LE K o) (LO K fl) (LO K m) σ H Q:=by
 obtain⟨ι,ρ,M,d,F,S,R,e,k⟩:=h;have⟨x,t,e1,e⟩:=aa e;have⟨l,s,z,e⟩:=aa e;have⟨r,q,y,e⟩:=aa e;refine⟨ι,ρ,M,x,t,S,R,e1,λ I N f u D j=>?_⟩;refine⟨f,ρ,t,l,s,D,R.mono j,z,λ L c C i=>?_⟩;refine⟨c,ρ,s,r,q,C,(R.mono j).mono i,y,λ J b B p=>?_⟩;exact⟨b,q,F,x,d,B,(u.mono i).mono p,e,λ v G g w E A=>k v G g w E (((j.trans i).trans p).trans A)⟩
def LE.call(σ:St)(H:Hp)(Q:VK)(l:∀ds M d M',g ds M=some (.ok d,M')->ds.length=m)(h:LE K (λ ρ=>do let xs<-f ρ;g xs) σ H Q):DY (kx K m g) [] E0 (LA K f) σ H Q:=by
 obtain⟨ι,ρ,M,d,M',S,R,e,k⟩:=h;have⟨xs,i,e1,e⟩:=aa e;refine⟨ι,ρ,M,xs,i,S,R,e1,λ vs t a c r p=>?_⟩;show kx K m g (vs++[]) t Q E0;rw[zO];exact⟨by rw[<- c.length];exact l _ _ _ _ e,a,i,M',xs,d,r,c,e,λ v u b j s q=>k v u b j s (p.trans q)⟩
def LE.blt(σ:St)(H:Hp)(Q:VK)(h:LE K (λ ρ=>do let xs<-c ρ;g xs) σ H Q):O3 (Ve K g) (LA K c) σ H Q:=by
 obtain⟨ι,ρ,M,d,r,S,R,e,k⟩:=h;have⟨xs,f,e1,e⟩:=aa e;refine⟨ι,ρ,M,xs,f,S,R,e1,λ vs t a i p m=>?_⟩;exact⟨a,f,r,xs,d,p,i,e,λ v s b j q o=>k v s b j q (m.trans o)⟩
def LA.nil(σ:St)(H:Hp)(Q:List V->Hp->Prop)(h:LA K (λ _=>pure []) σ H Q):ir σ H Q:=by
 obtain⟨ι,ρ,M,d,b,S,R,e,k⟩:=h;symm at e;exact k [] H ι .nil S Ext.refl
def LA.cons(σ:St)(H:Hp)(Q:List V->Hp->Prop)(h:LA K (λ ρ=>do let x<-f ρ;let xs<-fs ρ;pure (x::xs)) σ H Q):cW (LE K f) (LA K fs) σ H Q:=by
 obtain⟨ι,ρ,M,d,u,S,R,e,k⟩:=h;have⟨x,j,e1,e⟩:=aa e;have⟨xs,t,o,e⟩:=aa e;symm at e;refine⟨ι,ρ,M,x,j,S,R,e1,λ s v c m q i=>?_⟩;exact⟨c,ρ,j,xs,_,q,R.mono i,o,λ vs r b l p g=>k _ r b (.cons (m.mono g) l) p (i.trans g)⟩
def LO.none(σ:St)(H:Hp)(Q:Option Int->Hp->Prop)(h:LO K (λ _=>pure Option.none) σ H Q):Cq σ H Q:=by
 obtain⟨ι,ρ,M,d,b,S,R,e,k⟩:=h;symm at e;exact k H ι S Ext.refl
def LO.some{c:DE}(σ:St)(H:Hp)(Q:Option Int->Hp->Prop)(h:LO K (λ ρ=>do
  let x<-c ρ
  (match x with
  |.int i=>pure (Option.some i)
  |_=>Mo.stop)) σ H Q):KW (LE K c) σ H Q:=by
 obtain⟨ι,ρ,M,d,p,S,R,e,k⟩:=h;have⟨x,l,e1,e⟩:=aa e;refine⟨ι,ρ,M,x,l,S,R,e1,λ o m a f j g=>?_⟩;cases f with
 |int i=>symm at e;exact⟨i,rfl,k m a j g⟩
 |_=>exact(ai e).elim
def LT.test(σ:St)(H:Hp)(Q:Bool->Hp->Prop)(h:LT K (λ ρ=>do let x<-f ρ;lift (bS x)) σ H Q):DW (LE K f) σ H Q:=by
 obtain⟨ι,ρ,M,b,p,S,R,e,k⟩:=h;have⟨x,o,e1,e⟩:=aa e;have⟨d,rfl⟩:=bh e;refine⟨ι,ρ,M,x,_,S,R,e1,λ m l a g j i=>?_⟩;cases g <;> simp[bS]at d;subst d;exact⟨_,rfl,k l a j i⟩
def LT.not(σ:St)(H:Hp)(Q:Bool->Hp->Prop)(h:LT K (λ ρ=>do let k<-d ρ;pure (!k)) σ H Q):O0 (LT K d) σ H Q:=by
 obtain⟨ι,ρ,M,b,l,S,R,e,k⟩:=h;have⟨x,j,e1,e⟩:=aa e;symm at e;exact⟨ι,ρ,M,x,_,S,R,e1,λ i a g f=>k i a g f⟩
def LT.and(σ:St)(H:Hp)(Q:Bool->Hp->Prop)(h:LT K (λ ρ=>do let k<-j ρ;if k=true then i ρ else pure false) σ H Q):O6 (LT K j) (LT K i) σ H Q:=by
 obtain⟨ι,ρ,M,b,q,S,R,e,k⟩:=h;have⟨x,p,e1,e⟩:=aa e;refine⟨ι,ρ,M,x,p,S,R,e1,λ r a l g=>?_⟩;split at e
 ·rename_i d
  rw[if_pos d];exact⟨a,ρ,_,b,q,l,R.mono g,e,λ s c o m=>k s c o (g.trans m)⟩
 ·rename_i d
  rw[if_neg d];symm at e;exact k r a l g
def LT.or(σ:St)(H:Hp)(Q:Bool->Hp->Prop)(h:LT K (λ ρ=>do let k<-j ρ;if k=true then pure true else i ρ) σ H Q):T7 (LT K j) (LT K i) σ H Q:=by
 obtain⟨ι,ρ,M,b,q,S,R,e,k⟩:=h;have⟨x,p,e1,e⟩:=aa e;refine⟨ι,ρ,M,x,p,S,R,e1,λ r a l g=>?_⟩;split at e
 ·rename_i d
  rw[if_pos d];symm at e;exact k r a l g
 ·rename_i d
  rw[if_neg d];exact⟨a,ρ,_,b,q,l,R.mono g,e,λ s c o m=>k s c o (g.trans m)⟩
def Ae{X:Cx}{a:Expr}{j:DE}(r:PE X a (LE X.K j))(he:∀whole,isTrue a X.env whole=(do let v<-whole;standAt a.pos;holding [v] (truthy v))):PT X a (LT X.K λ ρ=>do let x<-j ρ;mD x):=by
 intro l s σ H Q I h;obtain⟨ι,ρ,M,b,g,S,R,e,k⟩:=h;have⟨x,o,e1,e⟩:=aa e;refine isTrue_plain (aJ (r l s σ H (λ v c=>∃ι M g d b,aO X.K ι M c/\Rep X.K ι c d v/\mD d M=some (.ok b,g)/\(g=M->Q b c)) I ⟨ι,ρ,M,x,o,S,R,e1,λ y c f i m u=>⟨f,o,g,x,b,m,i,e,λ z=>by subst z;exact k c f m u⟩⟩) λ v p ⟨x,c,w,i,q⟩=>MW l p σ c x v Q w i q) (he _)
end
section
variable {Γ:Ctx}{n:Nat}
def aK{x:Str}{l:List Str}(h:l.contains x=true):x∈l:=by simpa using h
abbrev jH(cells:List (Str×uc)):List (Str×NameKind)->List (Str×uc)->List (Str×uc)
 |[],a=>a
 |p::r,a=>jH cells r (if p.2==.free then (p.1,(cells.lookup p.1).getD 0)::a else a)
def ua:∀{names:List (Str×NameKind)} {a:List (Str×uc)},(∀p∈names,p.2=.free->∃c,cells.lookup p.1=some c)->(a.lookup y=some c->cells.lookup y=some c) ->
  (jH cells names a).lookup y=some c->cells.lookup y=some c
 |[],a,_,e,h=>e h
 |p::r,a,i,e,h=>by
  unfold jH at h;refine ua (names:=r) (λ q j=>i q (zE _ j)) (λ b=>?_) h;by_cases f:p.2=.free
  ·rw[if_pos (by simpa using f)]at b
   let⟨k,d⟩:=i p zI f;rw[d,xB,yf]at b;by_cases g:y=p.1
   ·subst g
    simp at b;subst b;exact d
   ·have:(y==p.1)=false:=zzF.mpr g
    rw[this]at b;exact e b
  ·rw[if_neg (by simpa using f)]at b
   exact e b
def Bn:∀{names:List (Str×NameKind)} {a:List (Str×uc)},(∃c,a.lookup y=some c)->∃c,(jH cells names a).lookup y=some c
 |[],_,h=>h
 |p::r,a,h=>by
  unfold jH;refine Bn (names:=r) ?_;split
  ·rw[yf]
   split
   ·exact⟨_,rfl⟩
   ·exact h
  ·exact h
def Bm:∀{names:List (Str×NameKind)} {a:List (Str×uc)},(y,NameKind.free)∈names->∃c,(jH cells names a).lookup y=some c
 |[],_,h=>by simp at h
 |p::r,a,h=>by
  unfold jH;rcases zd.mp h with h|h
  ·subst h
   refine Bn ?_;rw[if_pos (by simp),yf];simp
  ·exact Bm h
def uw(h:∀p∈scope.names,p.2=.free->∃c,env.cells.lookup p.1=some c):closureFor scope env=pure (jH env.cells scope.names []):=by
 have gen:∀(names:List (Str×NameKind)) (b:List (Str×uc)),(∀p∈names,p.2=.free->∃c,env.cells.lookup p.1=some c) ->
   (forIn names b (λ (x:Str×NameKind) (r:List (Str×uc))=>if (x.2==NameKind.free)=true then (cellOf env x.1 >>= λ a=>(pure (ForInStep.yield ((x.1,a)::r)):Sem (ForInStep (List (Str×uc))))) else pure (ForInStep.yield r)):Sem (List (Str×uc)))=pure (jH env.cells names b):=by
  intro names;induction names with
  |nil=>intro b _;rfl
  |cons p r g =>
   intro b f;rw[List.forIn_cons];let⟨name,kind⟩:=p;dsimp only;by_cases i:kind=.free
   ·subst i
    let⟨c,hc⟩:=f (name,.free) zI rfl;have e:cellOf env name=pure c:=by unfold cellOf;rw[hc]
    rw[if_pos (by rfl),e];rwa[pure_bind];rw[g _ λ q d=>f q (zE _ d)]
    conv=>rhs;unfold jH
    dsimp only;rw[if_pos (by rfl),hc];rfl
   ·have j:(kind==NameKind.free)=false:=by simpa using i
    rw[if_neg (by rw[j];exact zn)];rwa[pure_bind];rw[g _ λ q d=>f q (zE _ d)]
    conv=>rhs;unfold jH
    dsimp only;rw[if_neg (by rw[j];exact zn)]
 unfold closureFor;refine Eq.trans ?_ (gen scope.names [] h);exact bind_pure _
def t6(C:aL Γ S X)(hx:X.Ok)(h:gZ S sc xs=true):ie X sc (jH X.env.cells sc.names []) xs (xs++blank S.N xs):=by
 unfold gZ at h;rwa[zt,yw,bne_iff_ne,ne_eq,beq_iff_eq,xz,zzC]at h;obtain⟨⟨⟨⟨⟨⟨F,r⟩,o⟩,E⟩,l⟩,D⟩,B⟩:=h;have d:∀y,sc.names.lookup y=some .free->X.env.kindOf y=some .cell\/X.env.kindOf y=some .free:=λ y b=>by
  rcases E _ (lookup_mem b) with z|z
  ·exact absurd rfl z
  ·have s:S.sc.names.lookup y=some .cell\/S.sc.names.lookup y=some .free:=z
   rcases s with z|z
   ·obtain⟨u,f,rfl|⟨t,_⟩⟩:=C.sc _ _ z
    ·exact .inl f
    ·cases t
   ·obtain⟨u,f,rfl|⟨_,rfl⟩⟩:=C.sc _ _ z
    ·exact .inr f
    ·exact .inl f
 have m:∀p∈sc.names,p.2=.free->∃c,X.env.cells.lookup p.1=some c:=λ p v A=>by
  refine hx.has p.1 (d p.1 ?_);rw[(l p v).1,A]
 refine⟨F,λ y b=>(o y b).1,λ x hx=>(r x hx).1.1,λ y b w=>by rw[(l y b).1,w],λ y b=>?_,uw m,λ y c=>ua m (λ z=>by cases z),λ y b=>Bm (lookup_mem b),d,B,λ i y b=>?_,λ i y b=>?_,?_⟩
 ·rcases (o _ (lookup_mem b)).2 with z|z
  ·exact absurd rfl z
  ·rcases z with z|z
   ·exact .inl (by simpa using z)
   ·exact .inr z
 ·rw[zK (zz.mp b).1]
  exact b
 ·have a:(blank S.N xs)[i]?=some y:=by
   rw[zA (Nat.le_add_left ..),wM]at b;exact b
  unfold blank at a;rw[zm]at a;cases q:S.N[i]? with
  |none=>rw[q]at a;cases a
  |some z =>
   rw[q]at a;rwa[xr,Option.some.injEq]at a;by_cases j:z∈xs
   ·rw[if_pos (by simpa using j)]at a
    subst a;refine⟨λ e=>(r _ e).2 rfl,by decide,.inr λ hv=>?_⟩;have g:∀k,sc.names.lookup ("":Str)=some k->False:=λ k e=>(l _ (lookup_mem e)).2 rfl;rcases hv with e|e|e
    ·exact g _ e
    ·exact g _ e
    ·exact g _ e
   ·rw[if_neg (by simpa using j)]at a
    subst a;exact⟨j,D _ (zl q),.inl (by rw[C.n];exact q)⟩
 ·show (xs++blank S.N xs).length=X.N.length+xs.length
  unfold blank;rw[zx,zy,C.n,wu]
def pv(C:aL Γ S X)(h:gZ S sc x=true)(cl:List (Str×uc))(d:uc)(s:kt)(H:Hp)(c:List uc):aL Γ (S.comp sc x) (bP X sc cl d (x++blank S.N x) s H c) where
 n:=rfl
 sc:=λ y k b=>by
  have e:(relabel sc X.env).names.lookup y=(sc.names.lookup y).map λ k=>if (k==NameKind.free&&X.env.scope.kind==.function&&X.env.kindOf y==some .cell) then NameKind.cell else k:=kH;have a:sc.names.lookup y=some k:=b;rw[a]at e;exists _,e;dsimp only;split
  ·rename_i hc
   rwa[zt,beq_iff_eq]at hc;exact .inr ⟨hc.1.1,rfl⟩
  ·exact .inl rfl
 calm:=C.calm
 hu:=C.hu
 gd:=C.gd
 dw:=rfl
 fns:=C.fns
 gls:=C.gls
 aQ:=C.aQ
 rfs:=C.rfs
 Dk:=C.Dk
 nd:=by
  unfold gZ at h;rwa[zt,zzC]at h;exact h.2
def G0(a:ie X sc cl xs b)(h:xs[i]?=some x)(e:uc)(s:kt)(H:Hp)(d:List uc):PG (bP X sc cl e b s H d) (.Name x c) (fX i) :=
 iA a.nd (a.n0 i x h) (.inl (lookup_relabel_local (a.loc x (zl h)))) (.inr (lookup_relabel_local (a.loc x (zl h))))
def JG{S:Sc}{X:Cx}{sc:Scope}{x:Str}{i pos:Pos}{c iter:Expr}{b:List Expr}{j:Nat}{fs:Ev->Mo Src}{l:Ev->Mo Bool}{k:DE}(C:aL Γ S X)(h:gZ S sc [x]=true)(hi:PI X (.Name x i) iter (LI X.K fs))(o:∀x,foldedSetIterable iter X.env x=pure x)
  (e:∀a,aL Γ (S.comp sc [x]) a->a.K=X.K->mw a b (LT a.K l)) (d:∀a,aL Γ (S.comp sc [x]) a->a.K=X.K->PE a c (LE a.K k)) :
  PE X (.ListComp c [⟨.Name x i,iter,b,0⟩] sc pos) (LE X.K (λ ρ=>do
   let s<-fs ρ
   need (s.ds.length<=zi)
   let ys<-eT s.ck l k (ρ.set j none) s.ds
   cv (.lst ys))):=by
 intro p s σ H Q I q;have m:=t6 C I.ok h;exact CL C.calm m (λ _ _ _ _=>G0 m rfl _ _ _ _) hi (λ g s H f=>e _ (pv C h _ g s H f) rfl) (λ g s H f=>d _ (pv C h _ g s H f) rfl) o p s σ H Q I (LE.comp σ H Q q)
def Oz(h:FR x m=some b):bootBuiltins x=some (FQ b)/\∃y:String,x=Str.ofString y:=by
 unfold FR at h;have a:∀(y:String) (k:Nat),(x==(Str.ofString y)&&m==k)=true->x=Str.ofString y:=λ y k e=>by
  rwa[zt,beq_iff_eq]at e;exact e.1
 split at h
 ·rename_i e;cases h;rw[a _ _ e];exact⟨by decide +kernel,_,rfl⟩
 split at h
 ·rename_i e;cases h;rw[a _ _ e];exact⟨by decide +kernel,_,rfl⟩
 split at h
 ·rename_i e;cases h;rw[a _ _ e];exact⟨by decide +kernel,_,rfl⟩
 split at h
 ·rename_i e;cases h;rw[a _ _ e];exact⟨by decide +kernel,_,rfl⟩
 split at h
 ·rename_i e;cases h;rw[a _ _ e];exact⟨by decide +kernel,_,rfl⟩
 split at h
 ·rename_i e;cases h;rw[a _ _ e];exact⟨by decide +kernel,_,rfl⟩
 split at h
 ·rename_i e;cases h;rw[a _ _ e];exact⟨by decide +kernel,_,rfl⟩
 split at h
 ·rename_i e;cases h;rw[a _ _ e];exact⟨by decide +kernel,_,rfl⟩
 split at h
 ·rename_i e;cases h;rw[a _ _ e];exact⟨by decide +kernel,_,rfl⟩
 split at h
 ·rename_i e;cases h;rw[a _ _ e];exact⟨by decide +kernel,_,rfl⟩
 split at h
 ·rename_i e;cases h;rw[a _ _ e];exact⟨by decide +kernel,_,rfl⟩
 ·cases h
def EK(h:LB b=true):DF b:=by
 intro o i;cases b <;> first
  |rfl
  |exact absurd h zn
end
section
variable {X:Cx}{XV:List (uc×Obj)}{σ:St}{H:Hp}{s:kt}{ι:List uc}{M:MH}
def k7(b:∀(x:D) (v:V) (u:jp) (d:PyData),Rep X.K ι H x v->RelV v u->toPy M n x=some d->d.hasDict=false/\∃as,Reads s.heap u d as) :
  ∀(ds:List D) (vs:List V) (us:List jp) (ps:List PyData),aB X.K ι H ds vs->Vals vs us->gJ M n ds=some ps->PyData.hasDictAll ps=false/\∃as,ReadsAll s.heap us ps as
 |[],_,_,ps,r,v,e=>by
  cases r;cases v;rw[gJ]at e;cases e;exact⟨rfl,_,.nil⟩
 |x::a,_,_,ps,.cons r c,.cons v vs,e=>by
  rw[gJ]at e;cases h1:toPy M n x with
  |none=>rw[h1]at e;cases e
  |some d =>
   cases h2:gJ M n a with
   |none=>rw[h1,h2]at e;cases e
   |some ds =>
    rw[h1,h2]at e;cases e;let⟨i,as,g⟩:=b x _ _ d r v h1;let⟨h,bs,f⟩:=k7 b a _ _ ds c vs h2;exact⟨by rw[PyData.hasDictAll,i,h];rfl,_,.cons g f⟩
def mM(I:Inv X XV σ H s)(S:aO X.K ι M H):∀(n:Nat) (x:D) (v:V) (u:jp) (d:PyData),Rep X.K ι H x v->RelV v u->toPy M n x=some d->d.hasDict=false/\∃as,Reads s.heap u d as
 |0,_,_,_,_,_,_,e=>by rw[toPy]at e;cases e
 |n+1,x,v,u,d,r,a,e=>by
  cases r with
  |non=>rw[toPy]at e;cases e;cases a;exact⟨rfl,_,.none⟩
  |bl b=>rw[toPy]at e;cases e;cases a;exact⟨rfl,_,.bool b⟩
  |int i=>rw[toPy]at e;cases e;let⟨t,rfl⟩:=a;exact⟨rfl,_,.int i t⟩
  |str x=>rw[toPy]at e;cases e;let⟨t,rfl⟩:=a;exact⟨rfl,_,.str x t⟩
  |tup t q =>
   rw[toPy]at e;let⟨ps,g,rfl⟩:=zp.mp e;cases a;obtain⟨f,c,⟨o,ho,hc,m,hd⟩,l⟩:=I.tuple (cZ t);let⟨j,as,h⟩:=k7 (mM I S n) _ _ _ ps q c g;exact⟨by rw[PyData.hasDict];exact j,_,.tuple ho hc hd (by simpa using h)⟩
  |fl t q =>
   rw[toPy]at e;let⟨ps,g,rfl⟩:=zp.mp e;cases a;let⟨f,c,k,l⟩:=I.list t.seq;let⟨o,ho,hc,m,hd⟩:=k.isList;let⟨j,as,h⟩:=k7 (mM I S n) _ _ _ ps q c g;exact⟨by rw[PyData.hasDict];exact j,_,.list ho hc hd (by simpa using h)⟩
  |ob t =>
   rw[toPy]at e;split at e
   ·rename_i ds w
    let⟨ps,g,rfl⟩:=zp.mp e;cases a;let⟨p,ws,A,hi,z,y⟩:=aY S (.ob t) w;cases A;let⟨f,c,k,l⟩:=I.list (bx.of z);let⟨o,ho,hc,m,hd⟩:=k.isList;let⟨j,as,h⟩:=k7 (mM I S n) _ _ _ ps y c g;exact⟨by rw[PyData.hasDict];exact j,_,.list ho hc hd (by simpa using h)⟩
   ·cases e
def FL(hu:X.A.units+100<cLine)(i:X.A.guards=some []):dH X (.builtin "repr") (λ xs H Q=>∃ι M x v t,xs=[v]/\aO X.K ι M H/\Rep X.K ι H x v/\iM M x=some t/\Q (.str t) H):=by
 intro XV s σ H xs n Q I c h;obtain⟨ι,M,x,v,t,rfl,S,r,e,q⟩:=h;let⟨u,rfl,b⟩:=vals1 c;unfold iM at e;split at e
 ·rename_i g
  split at e
  ·rename_i d hd
   split at e
   ·rename_i hc
    cases e;rwa[zt,zzC]at hc;obtain⟨⟨m,l⟩,y⟩:=hc;let⟨k,z,j⟩:=mM I S 20 x v u d r b hd;obtain⟨a,rfl⟩:∃a,u=.ref a:=by
     cases r with
     |tup t q=>cases b;exact⟨_,rfl⟩
     |fl t q=>cases b;exact⟨_,rfl⟩
     |ob t=>cases b;exact⟨_,rfl⟩
     |_=>cases g
    refine repr_of_reads' j m (PyData.noDict_hsm k) i (by omega) (λ _ _ e=>e) (λ w p o f=>?_) l;exact⟨.str _,H,I.kept f,⟨_,rfl⟩,q⟩
   ·cases e
  ·cases e
 ·cases e
def GN(C:aL Γ S X)(h:(f==("repr":Str)&&bZ f&&S.bz f&&S.aQ.contains f)=true)(c:aW a=true)(u:PE X a (LE X.K g)) :
  PE X (.Call (.Name f n) [a] [] m) (LE X.K (λ ρ=>do let x<-g ρ;oG x)):=by
 rwa[zt,beq_iff_eq]at h;obtain⟨⟨⟨z,y⟩,w⟩,v⟩:=h;subst z;let⟨p,F,o⟩:=cb y;refine PE.imp (dW (FL C.hu C.gd) (C.bz w) (C.aQ _ (aK v)) q_ (aM u bU (az c)) o p (az c) rfl) λ σ H Q q=>?_;obtain⟨ι,ρ,M,d,G,B,R,e,k⟩:=q;let⟨x,D,e1,e⟩:=aa e;refine⟨ι,ρ,M,x,D,B,R,e1,λ j E b l i A=>?_⟩;unfold oG at e;split at e
 ·rename_i t r
  cases e;exact⟨b,_,x,j,t,rfl,i,l,r,k _ E b (.str _) i A⟩
 ·cases e
end
section
variable {X:Cx}
def Im:dH X (.type "str") (λ xs H Q=>∃i:Int,xs=[.int i]/\i.natAbs<2 ^ 64/\Q (.str (Str.ofString (toString i))) H):=by
 intro e s σ H xs d Q I a h;let⟨i,rfl,hi,q⟩:=h;let⟨u,rfl,b⟩:=vals1 a;let⟨t,rfl⟩:=b;have c:i.natAbs.log2<1920:=by
  by_cases z:i.natAbs=0
  ·rw[z];decide
  ·exact(vk z).mpr (ze hi (wB (by decide) (by decide)))
 exact PySem.P.str_of_int c ⟨.str _,H,I.tok _,⟨_,rfl⟩,q⟩
def D1(C:aL Γ S X)(h:(f==("str":Str)&&bZ f&&S.bz f&&S.aQ.contains f)=true)(j:aW a=true)(t:PE X a (LE X.K l)) :
  PE X (.Call (.Name f o) [a] [] n) (LE X.K (λ ρ=>do let x<-l ρ;let s<-lift (mF x);pure (.str s))):=by
 rwa[zt,beq_iff_eq]at h;obtain⟨⟨⟨y,w⟩,v⟩,u⟩:=h;subst y;let⟨r,J,p⟩:=cb w;refine PE.imp (i9 Im (C.bz v) (C.aQ _ (aK u)) PyProof.Rows.boot_str (aM t bU (az j)) p r (az j) rfl) λ σ H Q q=>?_;obtain⟨ι,ρ,M,d,O,F,R,e,k⟩:=q;let⟨x,N,e1,A⟩:=aa e;let⟨b,L,B,z⟩:=aa A;let⟨c,rfl⟩:=bh B;let⟨rfl,rfl⟩:=af z;refine⟨ι,ρ,M,x,_,F,R,e1,λ I G g m E D=>?_⟩;cases m with
 |int i =>
  unfold mF at c;dsimp only at c;split at c
  ·rename_i hi
   cases c;exact⟨i,rfl,hi,k _ G g (.str _) E D⟩
  ·cases c
 |_=>cases c
def Iu:dH X (.type "int") (λ xs H Q=>(∃b:Bool,xs=[.bl b]/\Q (.int (if b then 1 else 0)) H)\/∃y n,xs=[.str y]/\PySem.intText? y=some n/\y.length<=640/\Q (.int n) H):=by
 intro e s σ H xs d Q I c h;rcases h with ⟨b,rfl,q⟩|⟨y,n,rfl,hn,hl,q⟩
 ·let⟨u,rfl,a⟩:=vals1 c
  cases a;exact call_int_bool ⟨.int (if b then 1 else 0),H,I.tok _,⟨_,rfl⟩,q⟩
 ·let⟨u,rfl,a⟩:=vals1 c
  let⟨t,rfl⟩:=a;exact PySem.W.KIN.call_text hn hl ⟨.int n,H,I.tok _,⟨_,rfl⟩,q⟩
def Hr(C:aL Γ S X)(h:(f==("int":Str)&&bZ f&&S.bz f&&S.aQ.contains f)=true)(l:aW a=true)(z:PE X a (LE X.K m)) :
  PE X (.Call (.Name f t) [a] [] s) (LE X.K (λ ρ=>do let x<-m ρ;let i<-lift (iQ x);pure (.int i))):=by
 rwa[zt,beq_iff_eq]at h;obtain⟨⟨⟨E,D⟩,B⟩,A⟩:=h;subst E;let⟨v,N,u⟩:=cb D;refine PE.imp (i9 Iu (C.bz B) (C.aQ _ (aK A)) PyProof.Rows.boot_int (aM z bU (az l)) u v (az l) rfl) λ σ H Q q=>?_;obtain⟨ι,ρ,M,d,T,J,R,e,k⟩:=q;let⟨x,P,e1,G⟩:=aa e;let⟨b,O,I,F⟩:=aa G;let⟨g,rfl⟩:=bh I;let⟨rfl,rfl⟩:=af F;refine⟨ι,ρ,M,x,_,J,R,e1,λ L p j r o n=>?_⟩;cases r with
 |bl c=>cases g;exact .inl ⟨_,rfl,k _ p j (.int _) o n⟩
 |str y =>
  unfold iQ at g;dsimp only at g;split at g
  ·rename_i w
   exact .inr ⟨y,b,rfl,g,w,k _ p j (.int _) o n⟩
  ·cases g
 |_=>cases g
end
section
variable {X:Cx}{H:Hp}
def vO:∀{ds:List D} {vs:List V} {us:List jp} {xs:List Str} {ι:List uc},aB X.K ι H ds vs->Vals vs us->fv ds=some xs->StrsAre us xs
 |_,_,_,_,_,.nil,.nil,h=>by cases h;exact .nil
 |_,_,_,_,_,.cons r t,.cons g b,h=>by
  unfold fv at h;split at h
  ·rename_i x a e1 c
   cases h;cases r <;> first|cases e1|skip
   let⟨u,rfl⟩:=g;exact .cons _ u (vO t b c)
  ·cases h
def Io(hc:X.calm=true):dH X (.type "set") (λ xs H Q=>∃p vs ι ds ts,xs=[.ref p]/\eF X.K H p vs/\aB X.K ι H ds vs/\fv ds=some ts/\(au [] ts).length<64/\∀q,H q=none->Q (.ref q) (upd H q (.ext λ h=>SSet X.prog X.w h q (au [] ts) (aZ X.w)))):=by
 intro C s σ H xs t Q I f h;obtain⟨p,vs,ι,ds,ts,rfl,m,r,n,v,k⟩:=h;let⟨u,rfl,g⟩:=vals1 f;cases g;let⟨l,a,i,y⟩:=I.tuple m;have b:=vO r a n;refine sW (I.ok.hd hc) i b (by unfold scanBound;omega) λ B d c j=>?_;refine⟨.ref s.heap.objs.size,_,I.laid (t':=d) (o:=.ext λ h=>SSet X.prog X.w h s.heap.objs.size (au [] ts) (aZ X.w)) j (zq _) ?_,rfl,k _ (I.hok.fresh (zq _))⟩;exact⟨c,by let⟨o,_,_,_,e,_⟩:=c;exact⟨o,e⟩,λ A z x k=>x.at k⟩
def Ir:dH X (.builtin "len") (λ xs H Q=>∃p ts,xs=[.ref p]/\H p=some (.ext λ h=>SSet X.prog X.w h p ts (aZ X.w))/\Q (.int ts.length) H):=by
 intro B s σ H xs v Q I b h;let⟨p,ts,rfl,e,q⟩:=h;let⟨u,rfl,c⟩:=vals1 b;cases c;let⟨k,_,_⟩:=I.hok p _ e;let⟨o,a,z,t,n,l,m,A,d,r,j,g,y,x⟩:=k;have f:a.size=ts.length:=by rw[<- r.length_eq,zy,yj]
 have i:a.size<2 ^ 62:=ze j (by unfold scanBound;decide);exact call_len_set n l m g (by omega) ⟨.int ts.length,H,I.tok _,⟨_,by rw[f]⟩,q⟩
def E6(C:aL Γ S X)(h:Aw S f=true)(m:aW b=true)(A:PE X b (LE X.K n)) :
  PE X (.Call (.Name f u) [.Call (.Name "set" l) [b] [] j] [] s) (LE X.K (λ ρ=>do let x<-n ρ;me x)):=by
 unfold Aw at h;rwa[zt,beq_iff_eq]at h;obtain⟨⟨⟨⟨I,G⟩,F⟩,E⟩,D,B⟩:=h;subst I;let⟨y,Z,v⟩:=cb G;have ps:=i9 (X:=X) (p:=l) (pos:=j) (Io C.calm) (C.bz D) (C.aQ _ (aK B)) j_ (aM A bU (az m)) (by decide) (by decide) (az m) rfl;refine PE.imp (dW Ir (C.bz F) (C.aQ _ (aK E)) PySem.boot_len (aM ps bU) v y) λ σ H Q q=>?_;obtain⟨ι,ρ,M,d,M',V,R,e,k⟩:=q;let⟨x,W,e1,e⟩:=aa e;refine⟨ι,ρ,M,x,W,V,R,e1,λ Y o a r U T=>?_⟩;cases r with
 |tup t q =>
  let⟨g,M3,O,L⟩:=aa e;let⟨hx,rfl⟩:=bh O;let⟨_,M4,N,J⟩:=aa L;let⟨z,rfl⟩:=aR N;let⟨rfl,rfl⟩:=af J;refine⟨_,_,a,_,g,rfl,cZ t,q,hx,z,λ i c=>?_⟩;have P:Ext X.K a o a (upd o i (.ext λ h=>SSet X.prog X.w h i (au [] g) (aZ X.w))):=Ext.dU c;exact⟨i,au [] g,rfl,aV,k _ _ a (.int _) (U.dU c) (T.trans P)⟩
 |_=>exact(ai e).elim
end
section
variable {Γ:Ctx}{K:Q_}{X:Cx}
def MZ(h:Je e=some x):∃k p,e=.Constant (.str x) k p:=by
 cases e with
 |Constant c k p =>
  replace h:O7 c=some x:=h;cases c with
  |str y=>cases h;exact⟨k,p,rfl⟩
  |_=>cases h
 |_=>cases h
def LE.weak(h:LE K f σ H Q)(k:∀v H,Q v H->R v H):LE K f σ H R:=by
 obtain⟨ι,ρ,M,d,i,S,g,e,q⟩:=h;exact⟨ι,ρ,M,d,i,S,g,e,λ v j a r c b=>k _ _ (q v j a r c b)⟩
def qQ{r:Expr->Option IE}(g:∀e i,r e=some i->PE X e (LE X.K (ag Γ i))){pos:Pos}:∀{a:List (Option Expr)} {vs:List Expr} {xs:List Str} {es:dE},qR r a vs=some (xs,es) ->
  a.all (·.isSome)=true/\a.length=vs.length/\∃c,IG X pos a vs c/\∀σ H (Q:List (V×V)->Hp->Prop),LA X.K (bR Γ es) σ H (λ us f=>xs.length=us.length->Q ((xs.map V.str).zip us) f)->nN c σ H Q
 |[],[],xs,es,h=>by
  cases h;refine⟨rfl,rfl,[],NA,λ σ H Q h=>?_⟩
  have:=LA.nil σ H _ h
  exact this rfl
 |[],_::_,_,_,h=>by cases h
 |_::_,[],_,_,h=>by cases h
 |k::a,v::vs,xs,es,h=>by
  cases k with
  |none=>cases h
  |some k =>
   replace h:(do let x<-Je k;let e<-r v;let p<-qR r a vs;some (x::p.1,dE.cons e p.2))=some (xs,es):=h;let⟨x,n,h⟩:=ak h;let⟨e,m,h⟩:=ak h;let⟨p,l,h⟩:=ak h;cases h;let⟨D,kp,rfl⟩:=MZ n;let⟨u,t,c,s,o⟩:=qQ g (pos:=pos) (xs:=p.1) (es:=p.2) l;refine⟨by rw[yk,u];rfl,by rw[zj,zj,t],_,JB Ai (g _ _ m) s,λ σ H Q h=>?_⟩
   have:=LA.cons σ H _ h
   show LE X.K (ag Γ e) σ H _;refine LE.weak this λ y C q=>o σ C _ ?_;obtain⟨ι,ρ,M,d,B,S,A,e,q⟩:=q;exact⟨ι,ρ,M,d,B,S,A,e,λ v f b r z w j=>q v f b r z w (by rw[zj,zj,j])⟩
def qL:∀{r:List (Ky×D)} {b:List (Key×V)} {a:List (Ky×D)} {vs:List (Key×V)},KR K ι H r b->KR K ι H a vs->KR K ι H (je a r) (jc vs b)
 |[],_,_,_,.nil,h=>h
 | (k,v)::r,(f,u)::b,a,vs,.cons d t,h=>by
  let⟨e,c⟩:=d;simp only at e c;subst e;show KR K ι H (je (jW a k v) r) (jc (putK vs k u) b);exact qL t (h.put k c)
def F8:∀{a:List Str} {ds:List D} {vs:List V},aB K ι H ds vs->KR K ι H ((a.map Sum.inr).zip ds) ((a.map Sum.inr).zip vs)
 |[],_,_,_=>.nil
 |_::_,_,_,.nil=>.nil
 |k::a,_,_,.cons r t=>.cons ⟨rfl,r⟩ (F8 t)
def F6:∀(a:List Str) (vs:List V),(a.map V.str).zip vs=((a.map (Sum.inr:Str->Key)).zip vs).map λ b=>(kV b.1,b.2)
 |[],_=>rfl
 |_::_,[]=>rfl
 |k::a,v::vs=>by
  rw[zR,zR,yY,yY,zR,F6 a vs];rfl
def LE.Wc(E:∀σ H (Q:List (V×V)->Hp->Prop),LA K t σ H (λ us T=>c.length=us.length->Q ((c.map V.str).zip us) T)->nN n σ H Q)(σ:St)(H:Hp)(Q:VK)
  (h:LE K (λ ρ=>do let o<-cv (.bC []);let xs<-t ρ;pj c o xs) σ H Q):K4 n σ H Q:=by
 obtain⟨ι,ρ,M,d,P,S,R,e,k⟩:=h;intro p q;have⟨o,Y,e1,e⟩:=aa e;have⟨rfl,rfl⟩:=oQ e1;have⟨xs,y,J,e⟩:=aa e;have O:aO K (ι++[p]) (M++[.bC []]) (upd H p (.dK [])):=S.new q ⟨[],rfl,.nil⟩;have w:Ext K ι H (ι++[p]) (upd H p (.dK [])):=Ext.new q;have N:(ι++[p])[M.length]?=some p:=by rw[<- S.len,zA (zq _),yc];rfl
 refine E σ _ _ ⟨ι++[p],ρ,_,xs,y,O,R.mono w,J,λ us z i A x v r=>?_⟩;replace e:(do let j<-getD M.length;need (j.isEmpty=true/\c.length=xs.length/\c.length<=15);e9 M.length (.bC (je [] ((c.map Sum.inr).zip xs)));pure (D.ob M.length)) y=some (.ok d,P):=e;have⟨j,_,f,e⟩:=aa e;have⟨g,rfl⟩:=sL f;have⟨_,_,f,e⟩:=aa e;replace f:=aR f;obtain⟨⟨C,U,B⟩,rfl⟩:=f;have⟨_,_,f,e⟩:=aa e;have⟨_,rfl⟩:=oJ f;symm at e;have I:j=[]:=wz.mp C;subst I;have m:=v.pre _ _ N;let⟨a,ws,G,W,s,F⟩:=eZ x (.ob m) g;cases G;cases F;refine⟨s,(c.map Sum.inr).zip us,F6 _ _,?_,?_⟩
 ·rw[vh,zy,r,vF,<- r]
  exact B
 ·have u:Ext K i z i (upd z p (.dK (jc [] ((c.map Sum.inr).zip us)))):=Ext.write s (EX _)
  exact k _ _ i (.ob m) (x.put m ⟨_,rfl,qL (F8 (A.mono u)) .nil⟩) ((w.trans v).trans u)
end
section
variable {X:Cx}{XV:List (uc×Obj)}{σ:St}{H:Hp}{s:kt}{h':Heap}
def Hq(I:Inv X XV σ (upd H p (.ext φ)) s)(i:H p=none)(l:X.s₀.heap.objs.size<=p)(k:∀b o,b≠p->s.heap.get? b=some o->h'.get? b=some o) :
  Inv X XV σ H { s with heap:=h',toks:=t' }:=by
 have np:∀b u,H b=some u->b≠p:=λ b u e z=>by rw[z,i]at e;cases e
 have ne:∀{b u},upd H p (.ext φ) b=some u->u≠.ext φ->b≠p:=λ {b u} e n z=>by
  rw[z,aV]at e;cases e;exact n rfl
 have d:∀{b},upd H p (.ext φ) b=none->b≠p:=λ {b} e z=>by
  rw[z,aV]at e;cases e
 have f:p≠X.env.locals:=λ z=>d I.free z.symm;refine I.step (g':=s.gens) (d':=s.drawn) (ch:=[p]) (λ b a=>?_) (λ b o _ _ hc e _=>k b o (λ z=>hc (by simp[z])) e) (λ b o _ _ hc e _=>⟨o.slots,k b o (λ z=>hc (by simp[z])) e⟩)
  (λ b o hc _ n=>by rw[ar (λ z=>hc (by simp[z]))]at n;exact n)
  (λ b o hc e=>⟨o,k b o (λ z=>hc (by simp[z])) e⟩) (λ b g e=>by rw[ar (ne e (by intro z;cases z))]at e;exact e) (λ b o u e=>by rw[ar (ne e (by intro z;cases z))]at e;exact e)
  (λ b ps e=>⟨#[],by rw[ar (ne e (by intro z;cases z))]at e;rw[e];simp⟩) (λ m j=>?_) (λ b u e=>?_) I.bare
 ·have e:b=p:=by simpa using a
  subst e;exact⟨.inr l,f,λ x c e=>d (I.c9 x c e),λ q h=>d (I.pin q h).2.1⟩
 ·let⟨o,t,w,ho,r⟩:=j
  exact⟨o,t,w,k _ o (Ne.symm f) ho,r⟩
 ·have a:=np b u e
  refine(I.hok b u (by rw[ar a];exact e)).ku (λ c v hc q=>k c v ?_ q) ?_ ?_
  ·rcases hc with z|z
   ·rw[z];exact a
   ·exact ne z (by intro z;cases z)
  ·exact λ c z=>by rw[ar (ne z (by intro z;cases z))]at z;exact z
  ·exact λ c g z=>by rw[ar (ne z (by intro z;cases z))]at z;exact z
def HV(x:h.get? e=some (dJ C t a)):bV P w H h e (dY C t e a):=⟨x,⟨_,x⟩,λ _ _ y k=>k _ y⟩
def KG{c b:Heap}{a:uc}{m:Str->Option jp}(n:c.Ns1 a m)(k:∀o,c.get? a=some o->b.get? a=some o):b.Ns1 a m:=by
 let⟨o,d,e,ho,r⟩:=n;exact⟨o,d,e,k o ho,r⟩
abbrev My(a:uc)(u:jp):HO:=.ext λ h=>h.Ns1 a (λ y=>if y = "row" then some u else none)
def OI(n:h.Ns1 a (λ y=>if y = "row" then some u else none)):bV P w H h a (My a u):=⟨n,(let ⟨o,_,_,ho,_⟩:=n;⟨o,ho⟩),λ _ _ y k=>KG y k⟩
def Sg(r:RelV v u)(i:RelV a d)(n:h.Ns1 g (λ y=>if y = "at" then some d else if y = "row" then some u else none)):bV P w H h g (.xd [("row",v),("at",a)]):=by
 refine⟨_,n,λ f=>?_⟩;by_cases c:f = "at"
 ·subst c
  exact i
 ·by_cases b:f = "row"
  ·subst b
   exact r
  ·have e:([("row",v),("at",a)]:List (Str×V)).lookup f=none:=by
    rw[yf,show (f=="row")=false from zzF.mpr b,yf,show (f=="at")=false from zzF.mpr c];rfl
   rw[e,if_neg c,if_neg b];exact trivial
end
section
variable {P:uf}{w:ul}{K:Q_}{mg:Str->Option jp}{base:Heap}{C D fI:uc}
abbrev oq(p:Nat->Pos):List uV:=[.Assign [.Attribute (.Name "self" (p 0)) "row" (p 1)] (.Name "row" (p 2)) (p 3),.Assign [.Attribute (.Name "self" (p 4)) "at" (p 5)] (.Name "at" (p 6)) (p 7)]
def PF(Z:ZK X.K X.mg C D fI)(i:X.N=[("self":Str),"row","at"])(sc:∀x∈X.N,X.env.scope.names.lookup x=some .local) :
  PS X (.Assign [.Attribute (.Name "self" r) "row" R] (.Name "row" p) Q) (λ F σ H=>∃e t v,σ[0]?=some (some (.ref e))/\σ[1]?=some (some v)/\H e=some (dY C t e none)/\∀b u,H b=none->e<b->RelV v u->F.nx σ (upd (upd H e (dY C t e (some b))) b (My b u))):=by
 intro E s σ H F I h;let⟨e,t,v,W,V,he,q⟩:=h;have G:PE X (.Name "row" p) (jE 1):=fg (by rw[i];rfl) (.inl (sc _ (by rw[i];decide)));have J:PE X (.Name "self" r) (jE 0):=fg (by rw[i];rfl) (.inl (sc _ (by rw[i];decide)));refine plainObj_wpAny_Assign_Attribute (aJ (G E s σ H (λ y j=>y=v/\j=H) I ⟨_,V,rfl,rfl⟩) λ u L ⟨y,j,I1,M,e1,e2⟩=>aJ (J E L σ j (λ x m=>x=.ref e/\m=j) I1 ⟨_,W,rfl,rfl⟩) λ ov n ⟨x,m,f,O,e3,Y⟩=>?_) (by rfl);subst e1 e2 e3 Y;cases O;let⟨hx,_,_⟩:=f.hok e _ he;have hx:n.heap.get? e=some (dJ C t none):=hx;let⟨hh,g,d,tk,os⟩:=n;refine MF (Z.zh _ f.eB) hx rfl rfl (λ c z=>by cases z) λ h' k b U l T A S=>?_;have B:m b=none:=f.hok.fresh l;have I3:=f.write (x:=e) (e:=e) (o:=dY C t e (some b)) (t':=k) (by rw[he];trivial) (.inl rfl) S ⟨_,A⟩ (HV A);have I4:=lq I3 (a:=b) (o:=My b u) (by rw[ar T];exact B) (ko f l) (OI U);exact⟨σ,_,I4,q b u B (ze (zg hx) l) M⟩
def PD(Z:ZK X.K X.mg C D fI)(f:X.N=[("self":Str),"row","at"])(sc:∀x∈X.N,X.env.scope.names.lookup x=some .local) :
  PS X (.Assign [.Attribute (.Name "self" n) "at" Q] (.Name "at" m) O) (λ B σ H=>∃e t a v u w,σ[0]?=some (some (.ref e))/\σ[2]?=some (some w)/\H e=some (dY C t e (some a))/\H a=some (My a u)/\RelV v u/\a≠e/\B.nx σ (upd H a (.xd [("row",v),("at",w)]))):=by
 intro r s σ H B I h;let⟨e,t,a,v,u0,w,U,T,he,hd,M,Y4,q⟩:=h;have E:PE X (.Name "at" m) (jE 2):=fg (by rw[f];rfl) (.inl (sc _ (by rw[f];decide)));have F:PE X (.Name "self" n) (jE 0):=fg (by rw[f];rfl) (.inl (sc _ (by rw[f];decide)));refine plainObj_wpAny_Assign_Attribute (aJ (E r s σ H (λ y j=>y=w/\j=H) I ⟨_,T,rfl,rfl⟩) λ u G ⟨y,j,I1,J,e1,Y⟩=>aJ (F r G σ j (λ x A=>x=.ref e/\A=j) I1 ⟨_,U,rfl,rfl⟩) λ ov l ⟨x,A,i,L,W,V⟩=>?_) (by rfl);subst e1 Y W V;cases L;let⟨hx,_,_⟩:=i.hok e _ he;have hx:l.heap.get? e=some (dJ C t (some a)):=hx;let⟨n0,_,_⟩:=i.hok a _ hd;let⟨hh,g,d,tk,os⟩:=l;refine IK (Z.zh _ i.eB) hx rfl rfl (λ c z=>by cases z) n0 λ h' k p R=>?_;have I3:=i.write (x:=a) (e:=a) (o:=.xd [("row",v),("at",y)]) (t':=k) (by rw[hd];trivial) (.inl rfl) (λ b ob S z=>(R b S).trans z) (let ⟨o,es,ep,ho,_⟩:=p;⟨o,ho⟩) (Sg M J p);exact⟨σ,_,I3,q⟩
def SO(Z:ZK X.K X.mg C D fI)(d:X.N=[("self":Str),"row","at"])(sc:∀x∈X.N,X.env.scope.names.lookup x=some .local) :
  cG X (oq p) (λ g σ H=>∃e t v w,σ[0]?=some (some (.ref e))/\σ[1]?=some (some v)/\σ[2]?=some (some w)/\H e=some (dY C t e none)/\∀c,H c=none->e<c->g.nx σ (upd (upd H e (dY C t e (some c))) c (.xd [("row",v),("at",w)]))):=by
 refine cG.imp (cA (PF Z d sc) (cA (PD Z d sc) fw)) λ g σ H h=>?_;let⟨e,t,v,w,f,j,i,he,q⟩:=h;refine⟨e,t,v,f,j,he,λ c u a b r=>⟨e,t,c,v,u,w,f,i,by rw[ar (zF b),aV],aV,r,yi b,?_⟩⟩;rw[rT];exact q c a b
def C6{st:uV}{fd:FuncData}{p:Nat->Pos}(F:jv K "__init__" "BadTree.__init__" st fI fd)(d:bX ["self","row","at"] ["self","row","at"] (ah st))(c:aG st=oq p)(Z:ZK K mg C D fI)(sc:∀x∈(["self","row","at"]:List Str),(ah st).names.lookup x=some .local) :
  dF P w K mg base gG 1 fI fd ["self","row","at"] (Cy C):=by
 refine F.ok d (λ vs H Q E h=>by let⟨e,t,v,w,rfl,_⟩:=h;rfl) (λ a A outer s H vs Q E j h=>?_);let⟨e,t,v,b,rfl,he,q⟩:=h;rw[c];exact⟨_,SO (X:=(fK gG P w K mg base ["self","row","at"] "BadTree.__init__" (ah st) fI a A outer s H E).dw) (p:=p) Z rfl sc,e,t,v,b,rfl,rfl,rfl,he,λ i g f=>q i g f⟩
end
section
variable {X:Cx}{XV:List (uc×Obj)}{σ:St}{H:Hp}{s:kt}
structure Made (X:Cx) (XV:List (uc×Obj)) (σ:St) (H:Hp) (C e:uc) (v w:V) (s':kt):Prop where
 ex:∃t dx,Inv X XV σ (upd H dx (.xd [("row",v),("at",w)])) s'/\H dx=none/\dx≠e/\s'.heap.get? e=some (dJ C t (some dx))
 y:uN X XV e
 no:H e=none
 dn:∀t dx,s'.heap.get? e=some (dJ C t (some dx))->X.s₀.heap.objs.size<=dx/\∃s0:kt,Inv X XV σ H s0/\s0.heap.get? dx=none
def Nk{C D U:uc}{fd:FuncData}{k:Nat}{u i:jp}{v w:V}{Q:jp->kt->Prop}(Z:ZK X.K X.mg C D U)(hb:Binds X.K fd ["self","row","at"] [])(F:dF X.prog X.w X.K X.mg X.base gG k U fd ["self","row","at"] (Cy C))(hr:cF (k+1) X.A)(I:Inv X XV σ H s)(r:RelV v u)(E:RelV w i)
  (q:∀e j,Made X XV σ H C e v w j->Q (.ref e) j):wpAny (model X.prog X.w) X.A (call (.ref C) [u,i]) Q X.xe s:=by
 let⟨hh,g,d,p,os⟩:=s;refine DO (Z.zh _ I.eB) (λ h' e md h=>?_) (by show 2<=zi;decide);let⟨t,ho,_,_⟩:=md.there;have ho:h'.get? e=some (dJ C t none):=ho;have G:H e=none:=I.hok.fresh h;have W:Inv X XV σ H ⟨h',g,d,p,os⟩:=I.kept (t':=p) md.keeps;have P:=lq W (a:=e) (o:=dY C t e none) G (ko I h) (HV ho);have E:Vals [V.ref e,v,w] [Value.ref e,u,i]:=.cons rfl (.cons r (.cons E .nil));refine wpAny_call (codeAny_mono (F.run _ X.stack ⟨h',g,d,p,os⟩ (upd H e (dY C t e none)) ⟨[.ref e,u,i],[]⟩ [.ref e,u,i] [.ref e,v,w] (λ y Y=>y=.non/\∃c,H c=none/\e<c/\Y=upd (upd (upd H e (dY C t e none)) e (dY C t e (some c))) c (.xd [("row",v),("at",w)])) (λ _ _ _=>False) (hr.make C [u,i] [])
  (P.Kg.make C [u,i] []) (by have:=hb ⟨h',g,d,p,os⟩ [.ref e,u,i] P.eB rfl;(rw[zO]at this;assumption)) E ⟨e,t,v,w,rfl,aV,λ c S R=>⟨rfl,c,by rw[ar (yi R)]at S;exact S,R,rfl⟩⟩) λ rr j f=>?_)
 cases rr with
 |error x=>exact False.elim (by first|exact f|(let⟨_⟩:=f;done))
 |ok fl =>
  cases fl with
  |ret u' =>
   have un:∃B,Un (gB X.stack) [] (upd H e (dY C t e none)) B h' j.heap/\∃c,H c=none/\e<c/\B=upd (upd (upd H e (dY C t e none)) e (dY C t e (some c))) c (.xd [("row",v),("at",w)])/\j.heap.get? e=some (dJ C t (some c)):=by
    let⟨_,B,_,_,un,hok,_,_,c,L,l,rfl⟩:=f;exact⟨_,un,c,L,l,rfl,(hok e (dY C t e (some c)) (by rw[ar (zF l),aV])).1⟩
   let⟨y,B,O,ry,ey,c,L,d3,J⟩:=P.after f;have l:c≠e:=yi d3;subst ey J;refine⟨ry,q e j ⟨⟨t,c,?_,L,l,?_⟩,ko I h,G,λ t2 ZZ m=>?_⟩⟩
   ·have J:upd (upd (upd H e (dY C t e none)) e (dY C t e (some c))) c (.xd [("row",v),("at",w)])=upd (upd H c (.xd [("row",v),("at",w)])) e (dY C t e (some c)):=by
     funext b;unfold upd;by_cases M:b=c
     ·subst M
      rw[if_pos rfl,if_neg l,if_pos rfl]
     ·rw[if_neg M,if_neg M]
      by_cases n:b=e
      ·rw[if_pos n,if_pos n]
      ·rw[if_neg n,if_neg n,if_neg n]
    rw[J]at O;exact Hq (t':=j.toks) (h':=j.heap) O (by rw[ar (Ne.symm l)];exact G) (zG I.sz h) λ b o _ z=>z
   ·have:=O.hok e (dY C t e (some c)) (by rw[ar (Ne.symm l),aV])
    exact this.1
   ·let⟨Y,un,N,g1,T,rfl,g3⟩:=un
    rw[g3]at m;have e3:N=ZZ:=by
     injection m with m
     injection m with _ m
     injection m
    subst e3;exists zG I.sz (zG h (ww T)),_,W;cases z:h'.get? N with
    |none=>rfl
    |some o =>
     have:=un.free N o z (by rw[ar (yi T)];exact g1) (λ q=>nomatch q)
     rw[aV]at this;cases this
  |next=>exact False.elim f
  |brk=>exact False.elim f
  |cont=>exact False.elim f
end
section
variable {X:Cx}
def Bd{C D o:uc}{fd:FuncData}{k:Nat}{np cpos:Pos}{b a:Expr}{f c:TE}{j:List (uc×Obj)}{s:kt}{σ:St}{H:Hp}{Q:jp->kt->Prop}(Z:ZK X.K X.mg C D o)(S:Binds X.K fd ["self","row","at"] [])(F:dF X.prog X.w X.K X.mg X.base gG k o fd ["self","row","at"] (Cy C))(L:cF (k+1) X.A)
  (R:Gl X "BadTree") (T:PE X b f) (n:aW b=true) (V:PE X a c) (m:aW a=true) (I:Inv X j σ H s) (h:cW f (cW c ir) σ H λ vs x=>∃v w,vs=[v,w]/\∀e l,Made X j σ x C e v w l->Q (.ref e) l) :
  wpAny (model X.prog X.w) X.A (eval (.Call (.Name "BadTree" np) [b,a] [] cpos) X.env) Q X.xe s:=by
 refine wpAny_Call_Name_kw (mf I R Z.np ?_);have G:PA X [b,a] (cW f (cW c ir)):=aM T (aM V bU (az m)) (az n);have O:∀h:Heap,X.K.In h->∃k,(k=Keeper.frame\/k=Keeper.machine\/k=Keeper.boundFrame)/\PySem.W.Looks (model X.prog X.w) h (keeperOf (.ref C)) k:=λ h P=>by
  obtain⟨⟨N,nm,q,bs,sn,z,ab,col,dd,k0,k1,k2,k3,k5,mN,U,_⟩,_⟩:=Z.zh h P;refine⟨.machine,.inr (.inl rfl),λ A Q E s kp M=>?_⟩;let⟨h2,g,d,t,os⟩:=s;exact wpAny_keeperOf_exc (kp _ _ U) M
 have main:wpAny (model X.prog X.w) X.A (spliced (backTo cpos (starEach [b,a] X.env))) (λ vs i=>X.K.In i.heap/\wpAny (model X.prog X.w) X.A (call (.ref C) ([]++vs)) Q X.xe i) X.xe s :=
  aJ (G cpos j s σ H _ I h) λ Y i ⟨vs,x,p,r,q⟩=>⟨p.eB,by
   let⟨v,w,rfl,q⟩:=q;let⟨u,u2,rfl,B,y⟩:=vals2 r;exact Nk Z S F L p B y q⟩
 have he:=az (es:=[a]) (env:=X.env) n;have J:=az (es:=[]) (env:=X.env) m;rw[he,J]at main ⊢;exact PySem.W.callWith_of rfl O (Calls.evalArgs_plain main)
def Gd(x:bV P w H h f (.xd [("row",v),("at",d)])):∃a u u2,h.Ns1 f a/\a "row" = some u/\a "at" = some u2/\RelV v u/\RelV d u2:=by
 let⟨a,n,r⟩:=x;have c:=r "row";have b:=r "at";cases e:a "row" with
 |none=>rw[e]at c;exact False.elim c
 |some u =>
  cases e2:a "at" with
  |none=>rw[e2]at b;exact False.elim b
  |some u2 =>
   rw[e]at c;rw[e2]at b;exact⟨a,u,u2,n,e,e2,c,b⟩
end
section
variable {Γ:Ctx}{n:Nat}
abbrev Wn(_:Ctx):Prop:=True
abbrev Wl(Γ:Ctx):Prop:=∀(S:Sc) (X:Cx) (f:Str) (a:Expr) (e d:Pos) (b:DE),aL Γ S X->(f==("sorted":Str)&&bZ f&&S.bz f&&S.aQ.contains f)=true->aW a=true->PE X a (LE X.K b) ->
 PE X (.Call (.Name f e) [a] [] d) (LE X.K (λ ρ=>do let x<-b ρ;let ds<-Av x;let c<-lift (Γ.srt ds);cv (.lst c)))
abbrev RX(Γ:Ctx):Prop:=∀(S:Sc) (X:Cx) (f:Str) (b:Expr) (g e d c:Pos) (a:DE),aL Γ S X->(f==("sorted":Str)&&bZ f&&S.bz f&&S.aQ.contains f&&(S.bz ("set":Str)&&S.aQ.contains ("set":Str)))=true->aW b=true->PE X b (LE X.K a) ->
 PE X (.Call (.Name f g) [.Call (.Name "set" e) [b] [] d] [] c) (LE X.K (λ ρ=>do let x<-a ρ;rY x))
abbrev Wq(_:Ctx):Prop:=True
abbrev Wk(_:Ctx):Prop:=True
abbrev kb(Γ:Ctx):Prop:=Wn Γ/\Wl Γ/\RX Γ/\Wq Γ/\Wk Γ
def pA(h:Va o=true):attributeBase o a env w'=w':=by
 cases o <;> first
  |rfl
  |exact absurd h zn
  | (rename_i f c b p
     cases c with
     |nil=>exact absurd h zn
     |cons e d=>cases f <;> first|rfl|(cases b <;> rfl))
def LE.neg{K:Q_}{c:DE}(σ:St)(H:Hp)(Q:VK)(h:LE K (λ ρ=>do
  let x<-c ρ
  (match x with
  |.int i=>pure (.int (-i))
  |_=>Mo.stop)) σ H Q):T5 (rU λ i=>.int (-i)) (LE K c) σ H Q:=by
 obtain⟨ι,ρ,M,d,o,S,R,e,k⟩:=h;have⟨x,l,e1,e⟩:=aa e;refine⟨ι,ρ,M,x,l,S,R,e1,λ v m a f j g=>?_⟩;cases f with
 |int i=>symm at e;exact⟨i,rfl,k _ m a (.int _) j g⟩
 |_=>exact(ai e).elim
def NO{α:Type}{l:List (Bool×α)}(h:l.any (·.1)=false):l.all (λ x=>!x.1)=true:=by
 rw[yw];intro x hx
 have:=List.any_eq_false.mp h x hx
 simpa using this
def FK{S:Sc}{X:Cx}{r:List Expr->Option dE}(e:∀es i,r es=some i->PA X es (LA X.K (bR Γ i))/\es.all aW=true){f:Str}{u pos:Pos}{a:Expr}{as:List Expr}{i:IE}(C:aL Γ S X)(h:m7 S f (a::as).length (r (a::as))=some i):PE X (.Call (.Name f u) (a::as) [] pos) (LE X.K (ag Γ i)):=by
 unfold m7 at h;split at h
 ·rename_i d
  rwa[zt]at d;let⟨l,E,s⟩:=cb d.1;split at h
  ·rename_i v
   let⟨t,o,rfl⟩:=zp.mp h;let⟨k,F,fd,ps,B,A,z,y,g5,x⟩:=C.fns f (aK v);let⟨g,c⟩:=e _ _ o;rw[yk,zt]at c;exact PE.imp (sy y g5 (C.bz d.2) B A z .nil Li g l (az c.1) (dj c.2)) λ σ H Q q=>LE.call σ H Q x q
  ·split at h
   ·rename_i w
    split at h
    ·rename_i b D
     let⟨t,o,rfl⟩:=zp.mp h;let⟨g,c⟩:=e _ _ o;rw[yk,zt]at c;have j:=(Oz D).1;have p:=C.aQ f (aK w);have hc:=Oy (X:=X) C.calm C.hu b;unfold FQ at j hc;split at j
     ·rename_i m
      rw[if_pos m]at hc;exact PE.imp (i9 hc (C.bz d.2) p j g s l (az c.1) (dj c.2)) LE.blt
     ·rename_i m
      rw[if_neg m]at hc;exact PE.imp (dW hc (C.bz d.2) p j g s l (az c.1) (dj c.2)) LE.blt
    ·cases h
   ·cases h
 ·cases h
section
variable {S:Sc}{X:Cx}{r:Expr->Option IE}{rs:List Expr->Option dE}{ro:Option Expr->Option nC}
def EV(C:aL Γ S X)(h:EW S x=some i):PE X (.Name x pos) (LE X.K (ag Γ i)):=by
 unfold EW at h;split at h
 ·rename_i hok
  let⟨b,c,o⟩:=cb hok;split at h
  ·rename_i hv
   let⟨j,f,rfl⟩:=zp.mp h;exact PE.imp (fg (by rw[C.n];exact slot_get f) (C.Gh hv) b c) (LE.var)
  ·split at h
   ·rename_i a
    cases h;rwa[zt]at a;let⟨d,u,v,m,l,k,g⟩:=C.gls x (aK a.2);refine PE.imp (sx (C.bz a.1) l k b) λ σ H Q h=>?_;refine LE.const g σ H Q ?_;have e:ag Γ (.glb x)=λ _=>(pure d:Mo D):=by funext ρ;show lift (Γ.gl x)=_;rw[m];rfl
    rw[e]at h;exact h
   ·cases h
 ·cases h
def Cc(h:Ik c=some i):PE X (.Constant c k pos) (LE X.K (ag Γ i)):=by
 cases c with
 |int j=>cases h;exact PE.imp Aj (LE.const λ _ _=>.int _)
 |bool j=>cases h;exact PE.imp EM (LE.const λ _ _=>.bl _)
 |none=>cases h;exact PE.imp PQ (LE.const λ _ _=>.non)
 |str j=>cases h;exact PE.imp Ai (LE.const λ _ _=>.str _)
 |_=>cases h
variable (hr:∀e i,r e=some i->PE X e (LE X.K (ag Γ i)))
include hr
def t7(C:aL Γ S X)(h:FJ r a ops bs=some i):PE X (.Compare a ops bs pos) (LE X.K (ag Γ i))/\PT X (.Compare a ops bs pos) (LT X.K (bT Γ (.cmp i))):=by
 unfold FJ at h;split at h
 ·split at h
  ·cases h
  ·rename_i f
   let⟨x,j,h⟩:=ak h;let⟨y,g,h⟩:=ak h;cases h;exact⟨PE.imp (CM (l7 C.hu _) (hr _ _ j) (hr _ _ g) (by simpa using f)) (LE.bin oM),PT.imp (CJ (l7 C.hu _) (hr _ _ j) (hr _ _ g) (by simpa using f)) λ σ H Q q=>LE.bin oM σ H _ (LT.test σ H Q q)⟩
 ·split at h
  ·cases h
  ·rename_i k d b c f
   let⟨x,j,h⟩:=ak h;let⟨y,g,h⟩:=ak h;let⟨z,l,h⟩:=ak h;cases h;exact⟨PE.imp (JH (l7 C.hu k) (l7 C.hu d) (hr _ _ j) (hr _ _ g) (hr _ _ l) (by show behindInMarks d c=false;simpa using f)) (LE.chain),PT.imp (Jx (l7 C.hu k) (l7 C.hu d) (hr _ _ j) (hr _ _ g) (hr _ _ l) (by show behindInMarks d c=false;simpa using f)) λ σ H Q q=>LE.chain σ H _ (LT.test σ H Q q)⟩
 ·cases h
def FO(h:FP r c es pos=some i):PE X (.BoolOp c es pos) (LE X.K (ag Γ i)):=by
 unfold FP at h;split at h
 ·let⟨x,b,h⟩:=ak h
  let⟨y,a,h⟩:=ak h;cases h;cases c with
  |And=>exact PE.imp (nX (hr _ _ b) (qO (hr _ _ a))) (LE.and)
  |Or=>exact PE.imp (Lg (hr _ _ b) (qO (hr _ _ a))) (LE.or)
 ·let⟨x,b,h⟩:=ak h
  let⟨y,a,h⟩:=ak h;cases h;cases c with
  |And=>exact PE.imp (nX (hr _ _ b) (hr _ _ a)) (LE.and)
  |Or=>exact PE.imp (Lg (hr _ _ b) (hr _ _ a)) (LE.or)
 ·cases h
def IX(h:T1 r b a=some i):PE X (.UnaryOp b a pos) (LE X.K (ag Γ i)):=by
 cases b with
 |Not =>
  let⟨x,c,h⟩:=ak h;cases h;exact PE.imp (PN (hr _ _ c)) (LE.not)
 |USub =>
  let⟨x,c,h⟩:=ak h;cases h;exact PE.imp (SR OS (hr _ _ c)) (LE.neg)
 |_=>cases h
def Gy(C:aL Γ S X)(ho:∀e i,ro e=some i->PO X e (LO X.K (mJ Γ i)))(h:Jd r ro a b=some i):PE X (.Subscript a b pos) (LE X.K (ag Γ i)):=by
 unfold Jd at h;split at h
 ·let⟨x,d,h⟩:=ak h
  let⟨l,c,h⟩:=ak h;let⟨q,f,h⟩:=ak h;cases h;exact PE.imp (JD Pf (hr _ _ d) (ho _ _ c) (ho _ _ f)) (LE.slc)
 ·split at h
  ·rename_i g
   let⟨x,d,h⟩:=ak h;let⟨y,c,h⟩:=ak h;cases h;exact PE.imp (SU (Qz C.hu) (hr _ _ d) (hr _ _ c) (EK g)) (LE.bin oM)
  ·cases h
omit hr in
def CG(h:D8 a=some (p,b,q)):∃c,a=.Call (.Name "set" c) [b] [] q:=by
 unfold D8 at h;split at h
 ·rename_i g _ _ _
  split at h
  ·rename_i d
   cases h
   have:g=("set":Str):=by simpa using d
   subst this;exact⟨_,rfl⟩
  ·cases h
 ·cases h
def D5(c:kb Γ)(C:aL Γ S X)(h:D7 S r f as=some i):PE X (.Call (.Name f j) as [] g) (LE X.K (ag Γ i)):=by
 unfold D7 at h;split at h
 ·rename_i a
  split at h
  ·cases h
  ·have l:∀{i:IE},(
    if aW a&&(f==("sorted":Str)&&bZ f&&S.bz f&&S.aQ.contains f) then do let x<-r a;some (.sortL x) else none)=some i->PE X (.Call (.Name f j) [a] [] g) (LE X.K (ag Γ i)):=λ {i} h=>by
    split at h
    ·rename_i d
     rw[zt]at d;let⟨x,k,h⟩:=ak h;cases h;exact c.2.1 S X f _ j g (ag Γ x) C d.2 d.1 (hr _ _ k)
    ·cases h
   split at h
   ·rename_i p b q o
    let⟨m,e⟩:=CG o;rw[e];split at h
    ·rename_i d
     rw[zt]at d;let⟨x,k,h⟩:=ak h;cases h;exact c.2.2.1 S X f b j _ _ g (ag Γ x) C d.2 d.1 (hr _ _ k)
    ·cases h
   exact l h
 ·cases h
omit hr in
def x9(h:lL b=some (f,p,as,q)):b=.Call (.Name f p) as [] q:=by
 unfold lL at h;split at h
 ·cases h;rfl
 ·cases h
def rH(C:aL Γ S X)(h:Bk S r a ops bs=some i):PE X (.Compare a ops bs pos) (LE X.K (ag Γ i))/\PT X (.Compare a ops bs pos) (LT X.K (bT Γ (.cmp i))):=by
 unfold Bk at h;split at h
 ·split at h
  ·cases h
  ·exact t7 hr C h
 ·exact t7 hr C h
def Fb(C:aL Γ S X)(h:QC S r f as=some i):PE X (.Call (.Name f b) as [] a) (LE X.K (ag Γ i)):=by
 cases h
variable (hrs:∀es i,rs es=some i->PA X es (LA X.K (bR Γ i))/\es.all aW=true)
include hrs
def FT(C:aL Γ S X)(h:FU r rs o m f d as=some i):PE X (.Call (.Attribute o m f) as [] d) (LE X.K (ag Γ i)):=by
 unfold FU at h;split at h
 ·split at h
  ·rename_i a
   rwa[zt,zzC]at a;let⟨s,a⟩:=a;split at h
   ·rename_i k l
    let⟨x,q,h⟩:=ak h;let⟨t,p,h⟩:=ak h;cases h;let⟨g,b⟩:=hrs _ _ p;have j:=NT l;subst j;have c:=b;rw[yk,zt]at b;refine PE.imp (PU (Ql C.hu k) (hr _ _ q) g (pA s) ?_ a.1 (az b.1) (dj b.2)) LE.mth;rw[zt,zt];exists ⟨NO (dj c),rfl⟩
    have:=a.2
    rwa[zj,zT,List.isEmpty_nil,if_true]at this ⊢;exact zzB (by first|lia|omega)
   ·cases h
  ·cases h
 ·cases h
def Ei(C:aL Γ S X)(h:Jt S r f as k=some i)(c:k=some i->PE X (.Call (.Name f b) as [] a) (LE X.K (ag Γ i))):PE X (.Call (.Name f b) as [] a) (LE X.K (ag Γ i)):=by
 unfold Jt at h;split at h
 ·split at h
  ·rename_i ho
   split at h
   ·rename_i d
    let⟨x,g,h⟩:=ak h;cases h;exact GN C ho d (hr _ _ g)
   ·cases h
  ·exact c h
 ·exact c h
def Fh(C:aL Γ S X)(h:JY S r f as k=some i)(c:k=some i->PE X (.Call (.Name f b) as [] a) (LE X.K (ag Γ i))):PE X (.Call (.Name f b) as [] a) (LE X.K (ag Γ i)):=by
 unfold JY at h;split at h
 ·split at h
  ·rename_i ho
   split at h
   ·rename_i d
    let⟨x,g,h⟩:=ak h;cases h;exact Hr C ho d (hr _ _ g)
   ·cases h
  ·exact c h
 ·exact c h
def BF(C:aL Γ S X)(h:D2 S r f as k=some i)(c:k=some i->PE X (.Call (.Name f b) as [] a) (LE X.K (ag Γ i))):PE X (.Call (.Name f b) as [] a) (LE X.K (ag Γ i)):=by
 unfold D2 at h;split at h
 ·split at h
  ·rename_i ho
   split at h
   ·rename_i d
    let⟨x,g,h⟩:=ak h;cases h;exact D1 C ho d (hr _ _ g)
   ·cases h
  ·exact c h
 ·exact c h
def BZ(C:aL Γ S X)(h:E7 S r f as k=some i)(a:k=some i->PE X (.Call (.Name f d) as [] c) (LE X.K (ag Γ i))):PE X (.Call (.Name f d) as [] c) (LE X.K (ag Γ i)):=by
 unfold E7 at h;split at h
 ·split at h
  ·rename_i o b q l
   let⟨g,e⟩:=CG l;split at h
   ·rename_i ho
    rw[e];split at h
    ·rename_i j
     let⟨x,m,h⟩:=ak h;cases h;exact E6 C ho j (hr _ _ m)
    ·cases h
   ·exact a h
  ·exact a h
 ·exact a h
omit hr in
def Ee(C:aL Γ S X)(h:y4 S f (rs (a::as)) k=some i)(m:k=some i->PE X (.Call (.Name f g) (a::as) [] d) (LE X.K (ag Γ i))):PE X (.Call (.Name f g) (a::as) [] d) (LE X.K (ag Γ i)):=by
 unfold y4 at h;split at h
 ·rename_i c
  unfold Ed at c;rwa[zt,beq_iff_eq]at c;obtain⟨⟨t,s⟩,p⟩:=c;subst t;let⟨l,B,A⟩:=cb s;let⟨z,o,rfl⟩:=zp.mp h;let⟨D,E,fd,ps,y,x,w,v,g5,u⟩:=C.rfs;let⟨j,b⟩:=hrs _ _ o;rw[yk,zt]at b;exact PE.imp (sy v g5 (C.bz p) y x w .nil Li j l (az b.1) (dj b.2)) λ σ H Q q=>LE.call σ H Q u q
 ·exact m h
def Kc(a:kb Γ)(C:aL Γ S X)(h:Ba S r rs f as=some i):PE X (.Call (.Name f c) as [] b) (LE X.K (ag Γ i)):=by
 unfold Ba at h;split at h
 ·split at h
  ·exact D5 hr a C h
  ·split at h
   ·exact Fb hr C h
   ·
    refine Ei hr hrs C h λ h=>?_;refine Fh hr hrs C h λ h=>?_;refine BF hr hrs C h λ h=>?_;refine BZ hr hrs C h λ h=>?_;refine Ee hrs C h λ h=>?_;exact FK hrs C h
 ·cases h
def Ce(a:kb Γ)(C:aL Γ S X)(h:uM S r rs f as p=some i):PE X (.Call f as [] p) (LE X.K (ag Γ i)):=by
 unfold uM at h;split at h
 ·exact Kc hr hrs a C h
 ·exact FT hr hrs C h
 ·cases h
end
def Dj(h:oX b=some (x,p,iter,a)):b=[⟨.Name x p,iter,a,0⟩]:=by
 unfold oX at h;split at h
 ·cases h;rfl
 ·cases h
def Nd(s:kb Γ)(j:Sound Γ n)(S:Sc)(X:Cx)(e:Expr)(i:IE)(C:aL Γ S X)(h:cE S (n+1) e=some i):PE X e (LE X.K (ag Γ i)):=by
 have g:∀e i,cE S n e=some i->PE X e (LE X.K (ag Γ i)):=λ e i h=>j.E _ _ _ _ C h;have m:∀es i,jQ S n es=some i->PA X es (LA X.K (bR Γ i))/\es.all aW=true:=λ e i h=>j.Es _ _ _ _ C h;cases e with
 |Name x p=>exact EV C h
 |Constant c k p=>exact Cc h
 |BinOp a o b p =>
  have h:(if C7 o=true then (do let x<-cE S n a;let y<-cE S n b;some (IE.bin o x y)) else none)=some i:=h;split at h
  ·let⟨x,d,h⟩:=ak h
   let⟨y,t,h⟩:=ak h;cases h;exact PE.imp (SS (Qc o) (g _ _ d) (g _ _ t)) (LE.bin oM)
  ·cases h
 |Compare a H bs p=>exact(rH g C h).1
 |BoolOp o es p=>exact FO g h
 |UnaryOp o a p=>exact IX g h
 |IfExp c a b p =>
  let⟨k,M,h⟩:=ak h;let⟨x,d,h⟩:=ak h;let⟨y,t,h⟩:=ak h;cases h;exact PE.imp (JE (j.C _ _ _ _ C M) (g _ _ d) (g _ _ t)) (LE.ite)
 |Tuple es k p =>
  let⟨x,d,h⟩:=ak h;cases h;exact PE.imp (qN (m _ _ d).1) (LE.tup)
 |List es p =>
  let⟨x,d,h⟩:=ak h;cases h;exact PE.imp (PR (m _ _ d).1) (LE.lst)
 |Dict u vs p =>
  cases u with
  |nil =>
   cases vs with
   |nil=>cases h;exact PE.imp JF (LE.bC)
   |cons a l=>cases h
  |cons a l =>
   have h:(if decide ((a::l).length<=15)=true then (do let p<-qR (cE S n) (a::l) vs;some (IE.dicS p.1 p.2)) else none)=some i:=h;split at h
   ·rename_i I
    let⟨q,d,h⟩:=ak h;cases h;let⟨V,U,Z,R,Q⟩:=qQ g (pos:=p) (xs:=q.1) (es:=q.2) d;exact PE.imp (NF R V U (λ z=>by cases z) (by simpa using I)) (LE.Wc Q)
   ·cases h
 |Subscript a b p=>exact Gy g C (λ e i h=>j.O _ _ _ _ C h) h
 |Call f W u p =>
  have h:(if u.isEmpty=true then uM S (cE S n) (jQ S n) f W p else none)=some i:=h;split at h
  ·rename_i v
   have v:u=[]:=wz.mp v;subst v;exact Ce g m s C h
  ·cases h
 |ListComp w P sc p =>
  have h:(match oX P with
   |some (x,_,iter,r)=>if gZ S sc [x]=true then (do
     let B<-cT S n iter
     let c<-Iv (S.comp sc [x]) n r
     let e<-cE (S.comp sc [x]) n w
     some (IE.comp ((slot S.N x).getD S.N.length) B c e)) else none
   |none=>none)=some i:=h
  split at h
  ·rename_i x G iter r J
   rw[Dj J];split at h
   ·rename_i hc
    let⟨B,d,h⟩:=ak h;let⟨c,t,h⟩:=ak h;let⟨y,L,h⟩:=ak h;cases h;let⟨F,D⟩:=j.T _ X (.Name x G) _ _ C d;exact JG C hc F D (λ Y A _=>j.Co _ _ _ _ A t) (λ Y A _=>j.E _ _ _ _ A L)
   ·cases h
  ·cases h
 |_=>cases h
def Ji(b:Sound Γ n)(S:Sc)(X:Cx)(es:List Expr)(i:dE)(C:aL Γ S X)(h:jQ S (n+1) es=some i):PA X es (LA X.K (bR Γ i))/\es.all aW=true:=by
 cases es with
 |nil =>
  cases (show some dE.nil=some i from h);exact⟨PA.imp bU LA.nil,rfl⟩
 |cons e es =>
  replace h:(if aW e then (do let x<-cE S n e;let a<-jQ S n es;some (.cons x a)) else none)=some i:=h;split at h
  ·rename_i c
   let⟨x,j,h⟩:=ak h;let⟨a,g,h⟩:=ak h;cases h;let⟨f,d⟩:=b.Es _ _ _ _ C g;exact⟨PA.imp (aM (b.E _ _ _ _ C j) f (az c)) LA.cons,by rw[yk,c,d];rfl⟩
  ·cases h
def Nc(a:Sound Γ n)(S:Sc)(X:Cx)(e:Option Expr)(i:nC)(C:aL Γ S X)(h:cO S (n+1) e=some i):PO X e (LO X.K (mJ Γ i)):=by
 cases e with
 |none =>
  cases (show some nC.none=some i from h);exact PO.imp NC LO.none
 |some e =>
  replace h:(do let x<-cE S n e;some (nC.some x))=some i:=h;let⟨x,b,h⟩:=ak h;cases h;exact PO.imp (NB (a.E _ _ _ _ C b)) LO.some
def Jj(a:Sound Γ n)(S:Sc)(X:Cx)(e:List Expr)(i:nE)(C:aL Γ S X)(h:Iv S (n+1) e=some i):mw X e (LT X.K (jU Γ i)):=by
 rcases e with _|⟨c,_|⟨c2,l⟩⟩
 ·cases (show some nE.none=some i from h)
  exact mw.imp Nv λ σ H Q q=>by
   obtain⟨ι,ρ,M,b,f,S,R,e,k⟩:=q;let⟨rfl,rfl⟩:=af e;exact k H ι S Ext.refl
 ·replace h:(do let k<-cC S n c;some (nE.some k))=some i:=h
  let⟨x,d,h⟩:=ak h;cases h;exact Nu (a.C _ _ _ _ C d)
 ·cases (show (none:Option nE)=some i from h)
def GU(h:PW X e t)(k:∀σ H Q,t' σ H Q->t σ H Q):PW X e t':=λ whole a s σ H Q I q=>h whole a s σ H Q I (k σ H Q q)
def CI(h:lL b=some (f,p,as,q)):b=.Call (.Name f p) as [] q:=by
 unfold lL at h;split at h
 ·cases h;rfl
 ·cases h
def sM(h:C3 e=true):∀x,foldedSetIterable e env x=pure x:=by
 intro x;cases e <;> first|rfl|exact absurd h zn
def Eb(b:∀e i,r e=some i->PE X e (LE X.K (ag Γ i)))(C:aL Γ S X)(h:Ec S r f as=some i):PI X m (.Call (.Name f p) as [] q) (LI X.K (iu Γ i)):=by
 unfold Ec at h;split at h
 ·rename_i c
  unfold Ld at c;rwa[zt,beq_iff_eq]at c;obtain⟨⟨⟨⟨o,u⟩,l⟩,k⟩,a⟩:=c;subst o;split at h
  ·rwa[yk,vG,wJ]at a
   let⟨x,d,h⟩:=ak h;cases h;exact PI.imp (GZ (C.bz l) (C.aQ _ (aK k)) (aM (b _ _ d) bU (az a)) (az a)) LI.rng1
  ·rwa[yk,vG,wJ,zt]at a
   let⟨a,j,g⟩:=a;let⟨x,d,h⟩:=ak h;let⟨y,t,h⟩:=ak h;let⟨z,s,h⟩:=ak h;cases h;exact PI.imp (GY (C.bz l) (C.aQ _ (aK k)) (aM (b _ _ d) (aM (b _ _ t) (aM (b _ _ s) bU (az g)) (az j)) (az a)) (az a) (dj (by rw[yk,yk,j,g];rfl))) LI.rng3
  ·cases h
 ·cases h
def Na(b:Sound Γ n)(S:Sc)(X:Cx)(j e:Expr)(i:IT)(C:aL Γ S X)(h:cT S (n+1) e=some i):PI X j e (LI X.K (iu Γ i))/\∀x,foldedSetIterable e X.env x=pure x:=by
 have seq:(cE S n e).map IT.seq=some i->PI X j e (LI X.K (iu Γ i)):=λ h=>by
  let⟨x,d,rfl⟩:=zp.mp h;exact PI.imp (Ag (b.E _ _ _ _ C d)) LI.seq
 have h:(match lL e with
  |some (f,_,g,_)=>if (f==("range":Str))=true then Ec S (cE S n) f g else if (f==("reversed":Str))=true then Eh S (cE S n) f g else (cE S n e).map IT.seq
  |none=>if C3 e=true then (cE S n e).map IT.seq else none)=some i:=h
 split at h
 ·rename_i f p g q r
  have he:=CI r;split at h
  ·refine⟨?_,by rw[he];exact λ _=>rfl⟩
   rw[he];exact Eb (λ e i h=>b.E _ _ _ _ C h) C h
  ·split at h
   ·rename_i o
    refine⟨?_,by rw[he];exact λ _=>rfl⟩;unfold Eh at h;split at h
    ·split at h
     ·rename_i a ho
      rwa[zt]at ho;let⟨x,d,rfl⟩:=zp.mp h;obtain⟨⟨⟨t,m⟩,l⟩,k⟩:=ho;have s:f = "reversed":=by simpa using o
      subst s;rw[he];exact PI.imp (PL (C.bz m) (C.aQ _ (aK l)) (aM (b.E _ _ _ _ C d) bU (az k)) (az k)) LI.revs
     ·cases h
    ·cases h
   ·exact⟨seq h,by rw[he];exact λ _=>rfl⟩
 ·split at h
  ·rename_i c
   exact⟨seq h,sM c⟩
  ·cases h
def FF(a:∀e i,r e=some i->PT X e (LT X.K (bT Γ i)))(h:FG r d es=some i):PT X (.BoolOp d es pos) (LT X.K (bT Γ i)):=by
 unfold FG at h;split at h
 ·let⟨k,c,h⟩:=ak h
  let⟨j,b,h⟩:=ak h;cases h;cases d with
  |And=>exact PT.imp (qK (a _ _ c) (sj (a _ _ b))).pt LT.and
  |Or=>exact PT.imp (EJ (a _ _ c) (GS (a _ _ b))).pt LT.or
 ·let⟨k,c,h⟩:=ak h
  let⟨j,b,h⟩:=ak h;let⟨l,f,h⟩:=ak h;cases h;cases d with
  |And=>exact PT.imp (qK (a _ _ c) (GU (qK (a _ _ b) (sj (a _ _ f))) LT.and)).pt LT.and
  |Or=>exact PT.imp (EJ (a _ _ c) (GU (EJ (a _ _ b) (GS (a _ _ f))) LT.or)).pt LT.or
 ·cases h
def Nf(d:Sound Γ n)(S:Sc)(X:Cx)(e:Expr)(i:IC)(C:aL Γ S X)(h:cC S (n+1) e=some i):PT X e (LT X.K (bT Γ i)):=by
 cases e with
 |UnaryOp j a p =>
  have h:(if (j==.Not)=true then (cC S n a).map IC.not else none)=some i:=h;split at h
  ·rename_i ho
   have ho:j=.Not:=by simpa using ho
   subst ho;let⟨k,c,rfl⟩:=zp.mp h;exact PT.imp (PC (d.C _ _ _ _ C c)) LT.not
  ·cases h
 |BoolOp j o p=>exact FF (λ e i h=>d.C _ _ _ _ C h) h
 |Compare a g bs p =>
  let⟨k,c,rfl⟩:=zp.mp (show (Bk S (cE S n) a g bs).map IC.cmp=some i from h);exact(rH (λ e i h=>d.E _ _ _ _ C h) C c).2
 |Name x p =>
  let⟨k,c,rfl⟩:=zp.mp (show (cE S n (.Name x p)).map IC.tru=some i from h);exact Ae (d.E _ _ _ _ C c) λ _=>rfl
 |Call f m l p =>
  let⟨k,c,rfl⟩:=zp.mp (show (cE S n (.Call f m l p)).map IC.tru=some i from h);exact Ae (d.E _ _ _ _ C c) λ _=>rfl
 |Subscript a b p =>
  let⟨k,c,rfl⟩:=zp.mp (show (cE S n (.Subscript a b p)).map IC.tru=some i from h);exact Ae (d.E _ _ _ _ C c) λ _=>rfl
 |_=>cases h
def sound(a:kb Γ):∀n,Sound Γ n
 |0=>⟨(λ _ _ _ i _ h=>by cases (show (none:Option IE)=some i from h)),(λ _ _ _ i _ h=>by cases (show (none:Option dE)=some i from h)),(λ _ _ _ i _ h=>by cases (show (none:Option nC)=some i from h)),(λ _ _ _ _ i _ h=>by cases (show (none:Option IT)=some i from h)),(λ _ _ _ i _ h=>by cases (show (none:Option IC)=some i from h)),(λ _ _ _ i _ h=>by cases (show (none:Option nE)=some i from h))⟩
 |n+1=>⟨Nd a (sound a n),Ji (sound a n),Nc (sound a n),Na (sound a n),Nf (sound a n),Jj (sound a n)⟩
end
section
variable {Γ:Ctx}{n:Nat}{K:Q_}
def LS.set(D:Ends)(σ:St)(H:Hp)(h:LS K (λ ρ=>do let x<-c ρ;pure (.nx (ρ.set i (some x)))) D σ H):vN (LE K c) (fX i) D σ H:=by
 obtain⟨ι,ρ,M,fl,m,S,R,e,k⟩:=h;have⟨x,l,e1,e⟩:=aa e;symm at e;exact⟨ι,ρ,M,x,_,S,R,e1,λ v j a f g d=>k j a g d _ ((R.mono d).set f i)⟩
def LS.setIx{fo j l:DE}(D:Ends)(σ:St)(H:Hp)(h:LS K (λ ρ=>do let v<-l ρ;let x<-fo ρ;let y<-j ρ;setIx x y v;pure (.nx ρ)) D σ H):vN (LE K l) (Rt (LE K fo) (LE K j) (RY K)) D σ H:=by
 obtain⟨ι,ρ,M,fl,O,S,R,e,k⟩:=h;have⟨v,q,e1,e⟩:=aa e;have⟨x,p,A,e⟩:=aa e;have⟨y,o,z,e⟩:=aa e;have⟨u,N,w,e⟩:=aa e;symm at e;refine⟨ι,ρ,M,v,q,S,R,e1,λ L T i t F f=>?_⟩;refine⟨i,ρ,q,x,p,F,R.mono f,A,λ J Q g s E d=>?_⟩;refine⟨g,ρ,p,y,o,E,(R.mono f).mono d,z,λ I P b r C c=>?_⟩;exact⟨b,o,_,x,y,v,u,C,s.mono c,r,(t.mono d).mono c,w,λ G B m=>k G b B (((f.trans d).trans c).trans m) σ ((((R.mono f).mono d).mono c).mono m)⟩
abbrev rB:List Nat->uk
 |[]=>Fz
 |i::is=>oY (fX i) (rB is)
def LS.iR{P:List V->St->Hp->Prop}:∀{is:List Nat} {ds:List D} {vs:List V} {ρ ρ1:Ev} {σ:St} {ι:List uc} {H:Hp},iR is ds ρ=some ρ1->aB K ι H ds vs->bQ K ι H ρ σ->∃a,bQ K ι H ρ1 a/\∀Q:St->Hp->Prop,Q a H->rB is vs σ H Q
 |[],[],_,ρ,ρ1,σ,ι,H,h,r,R=>by
  cases h;cases r;exact⟨σ,R,λ Q q=>⟨rfl,q⟩⟩
 |[],_::_,_,_,_,_,_,_,h,_,_=>by cases h
 |_::_,[],_,_,_,_,_,_,h,_,_=>by cases h
 |i::is,d::ds,_,ρ,ρ1,σ,ι,H,h,.cons r t,R=>by
  replace h:L3.iR is ds (ρ.set i (some d))=some ρ1:=h;let⟨a,b,k⟩:=LS.iR (P:=P) h t (R.set r i);exact⟨a,b,λ Q q=>⟨_,_,rfl,k Q q⟩⟩
def ud:∀{is:List Nat} {ds:List D} {ρ ρ1:Ev},L3.iR is ds ρ=some ρ1->ds.length=is.length
 |[],[],_,_,_=>rfl
 |[],_::_,_,_,h=>by cases h
 |_::_,[],_,_,h=>by cases h
 |i::is,d::ds,ρ,ρ1,h=>by
  replace h:L3.iR is ds (ρ.set i (some d))=some ρ1:=h;rw[zj,zj,ud h]
def LS.dR(D:Ends)(σ:St)(H:Hp)(h:LS K (λ ρ=>do let s<-fs ρ;L3.dR s.ck is E s.ds ρ) D σ H):u6 (LI K fs) (Fy K is.length (rB is)) (LS K E) D σ H:=by
 obtain⟨ι,ρ,M,fl,Z,S,R,e,k⟩:=h;have⟨b,Y,e1,e⟩:=aa e;refine⟨ι,ρ,M,b,Y,S,R,e1,λ J H1 r S1 G X=>?_⟩;refine⟨λ n m o A=>m=b.ds.length-n/\n<=b.ds.length/\∃g p T,aO K g T A/\bQ K g A p o/\Ext K r H1 g A/\L3.dR b.ck is E (b.ds.drop n) p T=some (.ok fl,Z),
  ⟨_,rfl,zW _,r,ρ,Y,S1,R.mono G,Ext.refl,e⟩,?_⟩
 rintro n m o A ⟨rfl,hj,g,p,T,L,R2,w,a⟩;by_cases O:n<b.ds.length
 ·right
  rw[yt O]at a;have⟨_,_,l,a⟩:=aa a;have⟨ok,rfl⟩:=eX l;have⟨xs,_,l,a⟩:=aa a;have⟨C,rfl⟩:=bh l;replace a:=aa a;obtain⟨ρ1,_,l,a⟩:=a;have⟨W,rfl⟩:=bh l;have⟨f,Q,l,a⟩:=aa a;let⟨go,kq⟩:=(X g A _ w L ok).1 n _ (zu O);refine⟨go,λ j z=>∃c d N,aO K c N z/\bQ K c z d j/\Ext K r H1 c z/\L3.dR b.ck is E (b.ds.drop (n+1)) d N=some (.ok fl,Z),
   λ j z ⟨c,d,N,h1,h2,h3,h4⟩=>⟨b.ds.length-(n+1),by omega,rfl,O,c,d,N,h1,h2,h3,h4⟩,λ x U y=>?_⟩
  let⟨rfl,V⟩:=kq x U y;cases hd:b.ds[n] with
  |tup ds =>
   rw[hd]at V C;cases C;cases V with
   |tup t q =>
    obtain⟨σ1,R1,kk⟩:=LS.iR (P:=λ _ _ _=>True) W q R2;refine⟨_,_,rfl,cZ t,by rw[<- q.length];exact ud W,kk _ ?_⟩;refine⟨g,_,_,f,Q,L,R1,l,λ z c I F=>?_⟩;cases f with
    |nx d=>exact λ j B=>⟨c,d,Q,I,B,w.trans F,a⟩
    |ct d=>exact λ j B=>⟨c,d,Q,I,B,w.trans F,a⟩
    |bk d =>
     symm at a;exact λ j B=>k z c I ((G.trans w).trans F) j B
    |rt v =>
     symm at a;exact λ v' r'=>k z c I ((G.trans w).trans F) v' r'
  |_=>rw[hd]at C;cases C
 ·left
  have ej:n=b.ds.length:=by first|lia|omega
  subst ej;rw[yR]at a;have⟨_,_,l,a⟩:=aa a;have⟨ok,rfl⟩:=eX l;symm at a;exact⟨(X g A _ w L ok).2,k A g L (G.trans w) o R2⟩
def LS.expr{c:DE}(D:Ends)(σ:St)(H:Hp)(h:LS K (λ ρ=>do let _<-c ρ;pure (.nx ρ)) D σ H):K3 (LE K c) D σ H:=by
 obtain⟨ι,ρ,M,fl,l,S,R,e,k⟩:=h;have⟨x,j,e1,e⟩:=aa e;symm at e;exact⟨ι,ρ,M,x,_,S,R,e1,λ v g a i f d=>k g a f d _ (R.mono d)⟩
def LS.ret(D:Ends)(σ:St)(H:Hp)(h:LS K (λ ρ=>do let x<-c ρ;pure (.rt x)) D σ H):OY (LE K c) D σ H:=by
 obtain⟨ι,ρ,M,fl,l,S,R,e,k⟩:=h;have⟨x,j,e1,e⟩:=aa e;symm at e;exact⟨ι,ρ,M,x,_,S,R,e1,λ v i a d g f=>k i a g f v d⟩
def LS.Bb{fl:Ev->Fl}(D:Ends)(σ:St)(H:Hp)(h:LS K (λ ρ=>pure (fl ρ)) D σ H):∃ι ρ,bQ K ι H ρ σ/\Vp K D ι H (fl ρ):=by
 obtain⟨ι,ρ,M,f,b,S,R,e,k⟩:=h;symm at e;exact⟨ι,ρ,R,k H ι S Ext.refl⟩
def LS.ifS(D:Ends)(σ:St)(H:Hp)(h:LS K (λ ρ=>do let k<-l ρ;if k=true then o ρ else m ρ) D σ H):Jc (LT K l) (LS K o) (LS K m) D σ H:=by
 obtain⟨ι,ρ,M,fl,q,S,R,e,k⟩:=h;have⟨b,s,e1,e⟩:=aa e;refine⟨ι,ρ,M,b,s,S,R,e1,λ t c p d=>?_⟩;split at e
 ·rename_i f
  rw[if_pos f];exact⟨c,ρ,_,fl,q,p,R.mono d,e,λ j a i g=>k j a i (d.trans g)⟩
 ·rename_i f
  rw[if_neg f];exact⟨c,ρ,_,fl,q,p,R.mono d,e,λ j a i g=>k j a i (d.trans g)⟩
def LS.while(D:Ends)(σ:St)(H:Hp)(h:LS K (λ ρ=>eK x y wh ρ) D σ H):Gs (LT K x) (LS K y) D σ H:=by
 obtain⟨ι,ρ,M,fl,G,S,R,e,k⟩:=h;refine⟨λ m o B=>∃a d r,aO K a r B/\bQ K a B d o/\Ext K ι H a B/\eK x y m d r=some (.ok fl,G),⟨wh,ι,ρ,M,S,R,Ext.refl,e⟩,?_⟩;rintro m o B ⟨a,d,r,O,R2,u,c⟩;cases m with
 |zero=>exact(ai c).elim
 |succ m =>
  unfold eK at c;have⟨b,F,N,c⟩:=aa c;refine⟨a,d,r,b,F,O,R2,N,λ P t E p=>?_⟩;cases b with
  |true =>
   rw[if_pos rfl]at c ⊢;have⟨f,C,L,c⟩:=aa c;refine⟨λ g s=>∃a d r,aO K a r s/\bQ K a s d g/\Ext K ι H a s/\eK x y m d r=some (.ok fl,G),λ g s q=>⟨m,ye _,q⟩,?_⟩;refine⟨t,d,F,f,C,E,R2.mono p,L,λ s j A z=>?_⟩;cases f with
   |nx i=>exact λ g w=>⟨j,i,C,A,w,(u.trans p).trans z,c⟩
   |ct i=>exact λ g w=>⟨j,i,C,A,w,(u.trans p).trans z,c⟩
   |bk i =>
    symm at c;exact λ g w=>k s j A ((u.trans p).trans z) g w
   |rt v =>
    symm at c;exact λ I J=>k s j A ((u.trans p).trans z) I J
  |false =>
   rw[if_neg zn]at c ⊢;symm at c;exact k P t E (u.trans p) o (R2.mono p)
def LS.seq{o m:Ev->Mo Fl}(D:Ends)(σ:St)(H:Hp)(h:LS K (λ ρ=>do
  let f<-o ρ
  (match f with
  |.nx a=>m a
  |.rt v=>pure (.rt v)
  |.bk a=>pure (.bk a)
  |.ct a=>pure (.ct a))) D σ H):Jb (LS K o) (LS K m) D σ H:=by
 obtain⟨ι,ρ,M,fl,u,S,R,e,k⟩:=h;have⟨f,p,e1,e⟩:=aa e;refine⟨ι,ρ,M,f,p,S,R,e1,λ l b i g=>?_⟩;cases f with
 |nx c=>exact λ q t=>⟨b,c,p,fl,u,i,t,e,λ w j s r=>k w j s (g.trans r)⟩
 |rt v=>symm at e;exact k l b i g
 |bk c=>symm at e;exact k l b i g
 |ct c=>symm at e;exact k l b i g
structure rO (Γ:Ctx) (n:Nat):Prop where
 S:∀(S:Sc) (X:Cx) (e:uV) (i:IS),aL Γ S X->(∀x,X.fn x=true)->cS S n e=some i->PS X e (LS X.K (cQ Γ i))
 Ss:∀(S:Sc) (X:Cx) (e:List uV) (i:aD),aL Γ S X->(∀x,X.fn x=true)->cw S n e=some i->cG X e (LS X.K (aH Γ i))
end
section
variable {Γ:Ctx}{n:Nat}
def Gw:swapsWithSole [.Subscript o i p] e l env=pure false/\swappedStores [.Subscript o i p] e env=pure none:=by
 constructor
 ·cases e <;> rfl
 ·cases e <;> rfl
def Cr(a:n9 e=true):swapsWith e (some (.Name x p)) l env=pure false:=by
 cases e <;> first|rfl|cases a
def MX(a:n9 e=true):swapsWith e none l env=pure false:=by
 cases e <;> first|rfl|cases a
def RQ{o i:Expr}{p:Pos}{env:Env}(h:LB i=true):∀v,assign (.Subscript o i p) env v=(do
   let a<-holding [v] (eval o env)
   let b<-holding [v,a] (eval i env)
   standAt p
   holding [v,a,b] (setItem a b v)
   release [v,a,b] []):=by
 intro v;cases i <;> first|rfl|exact absurd h zn
def Jz{S:Sc}{X:Cx}{sc:Scope}{x y:Str}{k pos py A:Pos}{c iter:Expr}{b:List Expr}{j i:Nat}{fs:Ev->Mo Src}{m:Ev->Mo Bool}{l:DE}(C:aL Γ S X)(h:gZ S sc [x]=true)(hi:PI X (.Name x k) iter (LI X.K fs))(t:∀x,foldedSetIterable iter X.env x=pure x)
  (e:∀a,aL Γ (S.comp sc [x]) a->a.K=X.K->mw a b (LT a.K m)) (d:∀a,aL Γ (S.comp sc [x]) a->a.K=X.K->PE a c (LE a.K l)) (r:X.N[i]?=some y) (u:Loc X.env.scope y) (w:X.fn y=true) :
  PS X (.Assign [.Name y py] (.ListComp c [⟨.Name x k,iter,b,0⟩] sc pos) A) (LS X.K (λ ρ=>do
   let v<-(do
    let s<-fs ρ
    need (s.ds.length<=zi)
    let ys<-eT s.ck m l (ρ.set j none) s.ds
    cv (.lst ys))
   pure (.nx (ρ.set i (some v))))):=by
 intro z s σ H D I q;have o:=t6 C I.ok h;have p:=LS.set D σ H q;exact Nz C.calm o (λ _ _ _ _=>G0 o rfl _ _ _ _) hi (λ g s H f=>e _ (pv C h _ g s H f) rfl) (λ g s H f=>d _ (pv C h _ g s H f) rfl) t C.nd r u (.inl w) z s σ H D I (LE.comp σ H _ p)
def Ov(h:uL v=some (d,e,sc)):∃p,v=.ListComp d e sc p:=by
 cases v with
 |ListComp a b c p=>cases h;exact⟨p,rfl⟩
 |_=>cases h
def FD(j:∀n,Sound Γ n){S:Sc}{X:Cx}(C:aL Γ S X){es:List Expr}{e:Nat}{d p q:Pos}{f:Str}{as:List Expr}{i:IP}(m:f = "enumerate")(h:Mp S (cE S n) f as=some i):PI X (.Tuple es e d) (.Call (.Name f p) as [] q) (kX X.K (iy Γ i)):=by
 rcases as with _|⟨a,_|⟨_,_⟩⟩
 ·cases h
 ·replace h:(if bZ f&&S.bz f&&S.aQ.contains f&&aW a then (cE S n a).map IP.enum else none)=some i:=h
  split at h
  ·rename_i b
   rwa[zt]at b;obtain⟨⟨⟨o,l⟩,k⟩,c⟩:=b;let⟨x,g,rfl⟩:=zp.mp h;subst m;exact PI.imp (ND (C.bz l) (C.aQ _ (aK k)) (aM ((j n).E _ _ _ _ C g) bU (az c)) (az c)) kX.enum
  ·cases h
 ·cases h
def CA(j:∀n,Sound Γ n)(C:aL Γ S X)(h:cP S n e=some i):PI X (.Tuple es g c) e (kX X.K (iy Γ i))/\∀x,foldedSetIterable e X.env x=pure x:=by
 have seq:(cE S n e).map IP.seq=some i->PI X (.Tuple es g c) e (kX X.K (iy Γ i)):=λ h=>by
  let⟨x,t,rfl⟩:=zp.mp h;exact PI.imp (Ag ((j n).E _ _ _ _ C t)) λ σ H R q=>LI.seq σ H R (kX.to σ H R q)
 delta cP at h;cases hr:lL e with
 |some q =>
  let⟨f,p,I,q⟩:=q;rw[hr]at h;dsimp only at h;have he:=CI hr;split at h
  ·rename_i s
   refine⟨?_,by rw[he];exact λ _=>rfl⟩;rw[he];exact FD j C (by simpa using s) h
  ·exact⟨seq h,by rw[he];exact λ _=>rfl⟩
 |none =>
  rw[hr]at h;dsimp only at h;have b:(if C3 e then (cE S n e).map .seq else none)=some i->PI X (.Tuple es g c) e (kX X.K (iy Γ i))/\∀x,foldedSetIterable e X.env x=pure x:=λ h=>by
   split at h
   ·rename_i a
    exact⟨seq h,sM a⟩
   ·cases h
  unfold Ro at h;split at h
  ·rename_i o m k p3 a
   split at h
   ·rename_i x p hx
    split at h
    ·rename_i hc
     cases h;rwa[zt,beq_iff_eq]at hc;obtain⟨r,⟨⟨ho,z⟩,rfl⟩,B⟩:=hc;have he:e=.Call (.Attribute o ("items":Str) k) [] [] p3:=by
      unfold AE at a;split at a
      ·cases a;rfl
      ·cases a
     have A:o=.Name x p:=by
      unfold og at hx;split at hx
      ·cases hx;rfl
      ·cases hx
     subst A he;let⟨l,F,D⟩:=cb ho;let⟨J,d,G,y,w,v,u⟩:=C.Dk x r;exact⟨PI.imp (SQ u (C.bz z) v l rfl (by simpa using B)) λ σ H R q=>kX.gd y w σ H R q,λ _=>rfl⟩
    ·exact b h
   ·exact b h
  ·exact b h
def oa(h:og e=some (x,p)):e=.Name x p:=by
 cases e <;> first|cases h;rfl|cases h
def EO(s:∀n,Sound Γ n)(C:aL Γ S X)(d:∀x,X.fn x=true)(m:PassesOwn (model X.prog X.w) X.A X.env X.xe)(o:∀y,r=some y->cG X body (LS X.K (aH Γ y)))
  (h:oK S n a b iter r=some i):PS X (.For (.Tuple [a,b] l k) iter body [] p) (LS X.K (cQ Γ i)):=by
 delta oK at h;cases ha:og a with
 |none=>rw[ha]at h;cases h
 |some q =>
  let⟨x,E⟩:=q;rw[ha]at h;dsimp only at h;cases jo:og b with
  |none=>rw[jo]at h;cases h
  |some q =>
   let⟨y,D⟩:=q;rw[jo]at h;dsimp only at h;obtain rfl:=oa ha;obtain rfl:=oa jo;split at h
   ·rename_i c
    rw[zt]at c;let⟨H,B,h⟩:=ak h;let⟨F,v,h⟩:=ak h;let⟨G,u,h⟩:=ak h;let⟨z,t,h⟩:=ak h;cases h;have e:=slot_get B;rw[<- C.n]at e;have f:=slot_get v;rw[<- C.n]at f;let⟨j,g⟩:=CA s C u;exact PS.imp (qM m C.calm j (Ah C.calm (kD (iA C.nd e (C.loc c.1) (.inl (d x))) (kD (iA C.nd f (C.loc c.2) (.inl (d y))) sr))) (o _ t) g) LS.E8
   ·cases h
def pF{S:Sc}{X:Cx}(C:aL Γ S X)(a:∀x,X.fn x=true):∀{ts:List Expr} {is:List Nat},qE S ts=some is->IH X ts (rB is)/\(assignEach ts X.env).length=is.length/\(assignEach ts X.env).findIdx? (·.1)=none
 |[],is,h=>by cases h;exact⟨sr,rfl,rfl⟩
 |e::r,is,h=>by
  replace h:(match og e with
   |some (x,_)=>if S.loc x=true then (do let i<-slot S.N x;let is<-qE S r;some (i::is)) else none
   |none=>none)=some is:=h
  split at h
  ·rename_i x p f
   split at h
   ·rename_i g
    let⟨q,k,h⟩:=ak h;let⟨d,j,h⟩:=ak h;cases h;obtain rfl:=oa f;have b:=slot_get k;rw[<- C.n]at b;let⟨o,m,l⟩:=pF C a j;have c:assignEach (.Name x p::r) X.env=(false,assign (.Name x p) X.env)::assignEach r X.env:=rfl;refine⟨kD (iA C.nd b (C.loc g) (.inl (a x))) o,by rw[c,zj,zj,m],?_⟩;rw[c,List.findIdx?_cons,if_neg zn,l];rfl
   ·cases h
  ·cases h
def DU(j:∀n,Sound Γ n)(C:aL Γ S X)(f:∀x,X.fn x=true)(d:PassesOwn (model X.prog X.w) X.A X.env X.xe)(g:∀y,r=some y->cG X body (LS X.K (aH Γ y)))
  (h:qA S n ts iter r=some i):PS X (.For (.Tuple ts b a) iter body [] p) (LS X.K (cQ Γ i)):=by
 unfold qA at h;split at h
 ·rename_i hi
  rw[zt]at hi;let⟨is,m,h⟩:=ak h;let⟨e,l,h⟩:=ak h;let⟨z,k,h⟩:=ak h;cases h;let⟨v,u,t⟩:=pF C f m;have c:cQ Γ (.forN is e z)=λ ρ=>(do let s<-(do let x<-ag Γ e ρ;eY x);L3.dR s.ck is (aH Γ z) s.ds ρ):=by
   funext ρ M;show (ag Γ e ρ >>= λ x=>eY x >>= λ s=>L3.dR s.ck is (aH Γ z) s.ds ρ) M=_;rwa[run_bind];cases ag Γ e ρ M with
   |none=>rfl
   |some q=>let⟨o,B⟩:=q;cases o <;> rfl
  rw[c];exact PS.imp (qM d C.calm (PI.imp (Ag ((j n).E _ _ _ _ C l)) LI.seq) (Ah C.calm v u t) (g _ k) (sM hi.1)) LS.dR
 ·cases h
def Nb(g:∀n,Sound Γ n)(F:rO Γ n)(S:Sc)(X:Cx)(e:uV)(i:IS)(C:aL Γ S X)(m:∀x,X.fn x=true)(h:cS S (n+1) e=some i):PS X e (LS X.K (cQ Γ i)):=by
 have L:PassesOwn (model X.prog X.w) X.A X.env X.xe:=by rw[C.dw];exact PassesOwn.never
 cases e with
 |Assign B v G =>
  replace h:KA S n B v=some i:=h;rcases B with _|⟨t,_|⟨t2,B⟩⟩
  ·cases h
  ·replace h:Kz S n t v=some i:=h
   cases t with
   |Name x p =>
    replace h:Bt S n x v=some i:=h;delta Bt at h;cases hc:uL v with
    |some q =>
     let⟨elt,Z,sc⟩:=q;rw[hc]at h;dsimp only at h;cases hg:oX Z with
     |none=>rw[hg]at h;cases h
     |some q =>
      let⟨y,py,iter,U⟩:=q;rw[hg]at h;dsimp only at h;let⟨cp,rfl⟩:=Ov hc;obtain rfl:=Dj hg;split at h
      ·rename_i u
       rw[zt]at u;let⟨i',d,h⟩:=ak h;let⟨P,g1,h⟩:=ak h;let⟨c,g2,h⟩:=ak h;let⟨y',g3,h⟩:=ak h;cases h;have z:=slot_get d;rw[<- C.n]at z;let⟨O,t2⟩:=(g n).T _ X (.Name y py) _ _ C g1;exact Jz C u.2 O t2 (λ X' Q _=>(g n).Co _ _ _ _ Q g2) (λ X' Q _=>(g n).E _ _ _ _ Q g3) z (C.loc u.1) (m x)
      ·cases h
    |none =>
     rw[hc]at h;dsimp only at h;split at h
     ·rename_i u
      rw[zt]at u;let⟨j,d,h⟩:=ak h;let⟨y,r,h⟩:=ak h;cases h;have z:=slot_get d;rw[<- C.n]at z;exact PS.imp (lZ C.nd z (C.loc u.1) ((g n).E _ _ _ _ C r) (Cr u.2) (.inl (m x))) LS.set
     ·cases h
   |Subscript o ix p =>
    delta Kz at h;dsimp only at h;split at h
    ·rename_i QW
     let⟨y,d,h⟩:=ak h;let⟨a,r,h⟩:=ak h;let⟨b,Y,h⟩:=ak h;cases h;exact PS.imp (PH ((g n).E _ _ _ _ C d) (PM ((g n).E _ _ _ _ C r) ((g n).E _ _ _ _ C Y) (Pk C.hu) (RQ QW)) Gw.1 (Gw (l:=0)).2 rfl) LS.setIx
    ·cases h
   |_=>cases h
  ·cases h
 |Expr e G =>
  replace h:(if n9 e then (do let y<-cE S n e;some (.expr y)) else none)=some i:=h;split at h
  ·rename_i W
   let⟨y,d,h⟩:=ak h;cases h;exact PS.imp (Ny ((g n).E _ _ _ _ C d) (MX W)) LS.expr
  ·cases h
 |Return o G =>
  cases o with
  |some e =>
   replace h:(do let y<-cE S n e;some (.ret y))=some i:=h;let⟨y,d,h⟩:=ak h;cases h;exact PS.imp (Af ((g n).E _ _ _ _ C d)) LS.ret
  |none =>
   cases h;exact PS.imp Nw λ D σ H q=>by
    obtain⟨ι,ρ,R,k⟩:=LS.Bb D σ H q;exact k .non .non
 |Raise a b c =>
  have V:(∃e f,i=.rz e f)\/i=.halt:=by
   have h:some (GJ S (cE S n) a b)=some i:=h;cases h;unfold GJ;split
   ·split
    ·split
     ·split
      ·unfold Pp
       split
       ·split
        ·exact .inl ⟨_,_,rfl⟩
        ·exact .inr rfl
       ·exact .inr rfl
      ·exact .inr rfl
     ·exact .inr rfl
    ·exact .inr rfl
   ·exact .inr rfl
  clear h;rcases V with ⟨e0,e1,rfl⟩|rfl
  ·intro XV s σ H D I q
   obtain⟨ι,ρ,M,fl,M',S',R,e,k⟩:=q;exact(ai e).elim
  intro XV s σ H D I q;obtain⟨ι,ρ,M,fl,M',S',R,e,k⟩:=q;exact(ai e).elim
 |Pass p =>
  cases h;exact PS.imp Nx λ D σ H q=>by
   obtain⟨ι,ρ,R,k⟩:=LS.Bb D σ H q;exact k σ R
 |Break p =>
  cases h;exact PS.imp JA λ D σ H q=>by
   obtain⟨ι,ρ,R,k⟩:=LS.Bb D σ H q;exact k σ R
 |Continue p =>
  cases h;exact PS.imp BX λ D σ H q=>by
   obtain⟨ι,ρ,R,k⟩:=LS.Bb D σ H q;exact k σ R
 |If c a b p =>
  replace h:(do let k<-cC S n c;let x<-cw S n a;let y<-cw S n b;some (.ifS k x y))=some i:=h;let⟨k,J,h⟩:=ak h;let⟨x,d,h⟩:=ak h;let⟨y,r,h⟩:=ak h;cases h;exact PS.imp (uA ((g n).C _ _ _ _ C J) (F.Ss _ _ _ _ C m d) (F.Ss _ _ _ _ C m r)) LS.ifS
 |For t iter b o p =>
  replace h:uB o (A9 S n t iter (cw S n b))=some i:=h;cases o with
  |cons _ _=>cases h
  |nil =>
   replace h:A9 S n t iter (cw S n b)=some i:=h;cases t with
   |Name x p =>
    replace h:(if S.loc x then (do let i<-slot S.N x;let P<-cT S n iter;let y<-cw S n b;some (.forS i P y)) else none)=some i:=h;split at h
    ·rename_i u
     let⟨j,J,h⟩:=ak h;let⟨P,d,h⟩:=ak h;let⟨y,r,h⟩:=ak h;cases h;have z:=slot_get J;rw[<- C.n]at z;let⟨O,t2⟩:=(g n).T _ X (.Name x p) _ _ C d;exact PS.imp (qM L C.calm O (iA C.nd z (C.loc u) (.inl (m x))) (F.Ss _ _ _ _ C m r) t2) LS.loop
    ·cases h
   |Tuple B k1 p1 =>
    replace h:ER S n B iter (cw S n b)=some i:=h;rcases B with _|⟨a,_|⟨b2,_|⟨_,_⟩⟩⟩
    ·cases h
    ·cases h
    ·replace h:oK S n a b2 iter (cw S n b)=some i:=h
     exact EO g C m L (λ y r=>F.Ss _ _ _ _ C m r) h
    ·exact DU g C m L (λ y r=>F.Ss _ _ _ _ C m r) h
   |_=>cases h
 |While c b o p =>
  cases o with
  |cons _ _=>cases h
  |nil =>
   replace h:(do let k<-cC S n c;let y<-cw S n b;some (.whileS k y))=some i:=h;let⟨k,J,h⟩:=ak h;let⟨x,d,h⟩:=ak h;cases h;exact PS.imp (Jy L ((g n).C _ _ _ _ C J) (F.Ss _ _ _ _ C m d)) LS.while
 |_=>cases h
def Jh(a:rO Γ n)(S:Sc)(X:Cx)(e:List uV)(i:aD)(C:aL Γ S X)(b:∀x,X.fn x=true)(h:cw S (n+1) e=some i):cG X e (LS X.K (aH Γ i)):=by
 unfold cw at h;cases e with
 |nil =>
  cases h;exact cG.imp fw λ D σ H q=>by
   obtain⟨ι,ρ,R,k⟩:=LS.Bb D σ H q;exact k σ R
 |cons s r =>
  let⟨x,d,h⟩:=ak h;let⟨y,c,h⟩:=ak h;cases h;exact cG.imp (cA (a.S _ _ _ _ C b d) (a.Ss _ _ _ _ C b c)) LS.seq
def nQ(a:∀n,Sound Γ n):∀n,rO Γ n
 |0=>⟨(λ _ _ _ _ _ _ h=>by cases h),(λ _ _ _ _ _ _ h=>by unfold cw at h;cases h)⟩
 |n+1=>⟨Nb a (nQ a n),Jh (nQ a n)⟩
end
section
variable {X:Cx}{XV:List (uc×Obj)}{σ:L2.St}{H:Hp}{s:kt}{h':Heap}
def lh(I:Inv X XV σ H s)
  (g:∀b∈ch,X.s₀.heap.get? b=none/\b≠X.env.locals/\(∀x c,X.env.cells.lookup x=some c->c≠b)/\(∀p∈X.pn++XV,p.1≠b)/\H b=none) (h:Mv (gB X.stack) ch s.heap h') :
  Inv X XV σ H { s with heap:=h',toks:=t' }:=by
 have j:∀b o,X.s₀.heap.get? b=some o->b ∉ ch:=λ b o e f=>by rw[(g b f).1]at e;cases e
 have y:∀b o,X.s₀.heap.get? b=some o->b ∉ X.fs->b ∉ gB X.stack:=λ b o e f z=>by
  rcases zd.mp (I.kr b z) with q|q
  ·exact absurd (ze (zg e) (q▸I.ok.above)) (yg _)
  ·exact f q
 have cellK:∀x c,X.env.cells.lookup x=some c->∀v,s.heap.IsCell c v->h'.IsCell c v:=λ x c e v ⟨o,ho,hd⟩=>by
  let⟨B,q⟩:=h.slot c o (λ z=>(g c z).2.2.1 x c e rfl) ho;exact⟨_,q,hd⟩
 refine⟨I.ok,I.os,I.bare,⟨λ b o e n f hx=>?_,λ b o e n f hx=>?_,λ b o e n hx=>I.base.free b o e n hx,λ b o e hx=>?_,I.base.jB,I.base.iG,I.base.jD⟩,?_,λ x c e=>?_,I.free,I.c9,λ p E=>?_,?_,I.len⟩
 ·exact h.keep b o (y b o e f) (j b o e) (I.base.keep b o e n f hx)
 ·let⟨B,e1⟩:=I.base.slot b o e n f hx
  let⟨w,A⟩:=h.slot b _ (j b o e) e1;exact⟨w,A⟩
 ·let⟨t,e1⟩:=I.base.there b o e hx
  exact h.there b t e1
 ·obtain⟨m,⟨o,J,K,ho,r⟩,G⟩:=I.loc
  let⟨B,q⟩:=h.slot _ o (λ z=>(g _ z).2.1 rfl) ho;refine⟨m,⟨_,J,K,q,r⟩,λ i x v e1 A L=>?_⟩;let⟨u,r,l⟩:=G i x v e1 A L;exists u,r;rcases l with l|⟨k,c,e,z⟩
  ·exact .inl l
  ·exact .inr ⟨k,c,e,cellK x c e _ z⟩
 ·let⟨v,z⟩:=I.cell x c e
  exact⟨v,cellK x c e v z⟩
 ·let⟨e,n,ne,C,d⟩:=I.pin p E
  refine⟨h.keep p.1 p.2 (λ z=>(zd.mp (I.kr _ z)).elim ne C) (λ z=>(g p.1 z).2.2.2.1 p E rfl) e,n,ne,C,d⟩
 ·intro a o F
  have D:∀b u t,H b=some t->s.heap.get? b=some u->h'.get? b=some u:=λ b u t f q=>h.keep b u (λ z=>by rw[I.rV b z]at f;cases f) (λ z=>by rw[(g b z).2.2.2.2]at f;cases f) q;refine(I.hok a o F).ku (λ b u f q=>?_) (λ _ q=>q) λ _ _ q=>q;rcases f with rfl|f
  ·exact D _ u _ F q
  ·exact D b u _ f q
def Ar(I:Inv X XV σ H s)(d:X.ex=[])(a:s.heap.get? b=none):X.s₀.heap.get? b=none/\b≠X.env.locals/\(∀x c,X.env.cells.lookup x=some c->c≠b)/\(∀q∈X.pn++XV,q.1≠b)/\b ∉ X.fs:=by
 have e:X.s₀.heap.get? b=none:=by
  cases q:X.s₀.heap.get? b with
  |none=>rfl
  |some o =>
   let⟨h,f⟩:=I.base.there b o q (by rw[d];exact λ z=>nomatch z);rw[a]at f;cases f
 refine⟨e,?_,?_,?_,?_⟩
 ·rintro rfl
  obtain⟨m,⟨o,_,_,ho,_⟩,_⟩:=I.loc;rw[a]at ho;cases ho
 ·rintro x c hx rfl
  let⟨v,o,ho,_⟩:=I.cell x c hx;rw[a]at ho;cases ho
 ·rintro q g rfl
  rw[(I.pin q g).1]at a;cases a
 ·intro z
  let⟨_,o,ho,_⟩:=I.ok.fm.mem z;rw[e]at ho;cases ho
end
abbrev jz(P:uf)(w:ul):oE:=λ outer H s E x a=>∃e T C c b,x=.ref e/\a.os=s.os/\AllBare a.gens/\Un (gB outer) [] H b s.heap a.heap/\cV P w b a.heap/\qt e T (.ref C) c a.heap /\
 s.heap.get? e=none/\s.heap.get? T=none/\b e=none/\b T=none/\E (.ref C) c b
section
variable {P:uf}{w:ul}{K:Q_}{mg:Str->Option jp}{base:Heap}{N:List Str}{qual:Str}{scope:Scope}{f:uc}{cd:jp}{A:ut}{outer:List Env}{s:kt}{H:Hp}{E:XK}
def GI{l:List (uc×Obj)}{σ:L2.St}{d:Hp}{s1:kt}{e C t:uc}{i:Option uc}(I:Inv (fK (jz P w) P w K mg base N qual scope f cd A outer s H E) l σ d s1)
  (he:s1.heap.get? e=some (dJ C t i)) (k:s.heap.get? e=none) (j:d e=none) (D:e≠s.heap.objs.size) (y:∀p∈(fK (jz P w) P w K mg base N qual scope f cd A outer s H E).pn++l,p.1≠e)
  (hc:∀x c,(envOfC qual scope s.heap.objs.size f cd).cells.lookup x=some c->c≠e) (hz:E (.ref C) i d):(fK (jz P w) P w K mg base N qual scope f cd A outer s H E).xe (.ref e) s1:=by
 show wpAny (model P w) (A.deeper (envOfC qual scope s.heap.objs.size f cd)) (leaving (envOfC qual scope s.heap.objs.size f cd) (.ref e)) (λ _ a=>jz P w outer H s E (.ref e) a) (λ g a=>jz P w outer H s E g a) s1;refine B8 (base:=base) (L:=s.heap.objs.size) I.ok.frames I.stack rfl he rfl rfl λ O T J G v=>?_;have h:=lh (t':=s1.toks) (ch:=[e]) I (λ b F=>by
  rw[zB.mp F];exact⟨k,D,hc,y,j⟩) v
 have r:∀b,s1.heap.get? b=none->s.heap.get? b=none:=λ b q=>by
  cases z:s.heap.get? b with
  |none=>rfl
  |some o =>
   let⟨M,g⟩:=I.base.there b o z (λ n=>nomatch n);rw[q]at g;cases g
 have m:s1.heap.get? T=none:=ym G;have B:∀b,s1.heap.get? b=none->d b=none:=λ b q=>by
  cases z:d b with
  |none=>rfl
  |some u =>
   let⟨o,ho⟩:=nZ (I.hok b u z);rw[q]at ho;cases ho
 exact⟨e,T,C,i,d,rfl,h.os,h.bare,h.base,h.hok,J,k,r T m,j,B T m,hz⟩
def GH(R:∀C k a,E' C (some k) a->E C (some k) a)(Q:∀C a,¬ E' C none a):Passes (jz P w) (fK (jz P w) P w K mg base N qual scope f cd A outer s H E) E':=by
 intro G σ H1 r x s' I t;let⟨e,T,C,k,a,rfl,os,bare,un,hok,W,F,V,D,U,j⟩:=t;have l:Inv (fK (jz P w) P w K mg base N qual scope f cd A outer s H E) G σ a s':=I.call' (ch:=[]) os un hok bare (λ b z=>absurd z (by simp));have B:∀b,r.heap.get? b=none->s.heap.get? b=none:=λ b q=>by
  cases z:s.heap.get? b with
  |none=>rfl
  |some o =>
   let⟨M,i⟩:=I.base.there b o z (λ p=>nomatch p);rw[q]at i;cases i
 have new:∀b,r.heap.get? b=none->a b=none->s.heap.get? b=none/\b≠(envOfC qual scope s.heap.objs.size f cd).locals/\(∀x c,(envOfC qual scope s.heap.objs.size f cd).cells.lookup x=some c->c≠b)/\(∀q∈([]:List (uc×Obj))++G,q.1≠b)/\a b=none:=λ b d O=>by
  refine⟨B b d,?_,?_,?_,O⟩
  ·intro z
   obtain⟨m,⟨o,_,_,ho,_⟩,_⟩:=I.loc;have ho:r.heap.get? (envOfC qual scope s.heap.objs.size f cd).locals=some o:=ho;rw[<- z,d]at ho;cases ho
  ·rintro x c hx rfl
   let⟨v,o,ho,_⟩:=I.cell x c hx;rw[d]at ho;cases ho
  ·rintro q t rfl
   rw[(I.pin q t).1]at d;cases d
 show wpAny (model P w) (A.deeper (envOfC qual scope s.heap.objs.size f cd)) (leaving (envOfC qual scope s.heap.objs.size f cd) (.ref e)) (λ _ h=>jz P w outer H s E (.ref e) h) (λ i h=>jz P w outer H s E i h) s';unfold leaving;refine zw (Ax (base:=base) (L:=s.heap.objs.size) l.ok.frames (show s'.heap.FunFrames base (envOfC qual scope s.heap.objs.size f cd::outer) from l.stack) rfl W λ h3 g Z y X=>?_);have n:=lh (t':=s'.toks) (ch:=[e,T]) l (λ b d=>by
  rwa[zd,yv,or_false]at d;rcases d with rfl|rfl
  ·exact new _ F D
  ·exact new _ V U) X
 have J:s'.heap.get? g=none:=ym y;have Y:s.heap.get? g=none:=by
  cases z:s.heap.get? g with
  |none=>rfl
  |some o =>
   let⟨M,i⟩:=l.base.there g o z (λ p=>nomatch p);rw[J]at i;cases i
 have S:a g=none:=by
  cases z:a g with
  |none=>rfl
  |some u =>
   let⟨o,ho⟩:=nZ (l.hok g u z);rw[J]at ho;cases ho
 exact⟨e,g,C,k,a,rfl,n.os,n.bare,n.base,n.hok,Z,B e F,Y,D,S,(match k,j with|some _,j=>R _ _ _ j|none,j=>(Q _ _ j).elim)⟩
end
abbrev LX(K:Q_)(Ze:Int×Int->Hp->Prop)(z:Ev->MH->Option ((Int×Int)×MH)):TS:=λ _ σ H=>∃ι ρ M i c,aO K ι M H/\bQ K ι H ρ σ/\z ρ M=some (i,c)/\∀b a,aO K a c b->Ext K ι H a b->Ze i b
section
variable {X:Cx}{E:jp->kt->Prop}
def PS.dw{st:uV}{t:TS}(h:PS X.dw st t):PS X st t:=λ a s σ H D I hw =>
 wpAny_mono (h a s σ H D (I.eI _) hw) (λ _ _ q=>q.dP) λ _ _ z=>False.elim z
def PA.dw(h:PA X.dw es t):PA X es t:=λ a b s σ H Q I hw =>
 wpAny_mono (h a b s σ H Q (I.eI _) hw) (λ _ _ ⟨vs,d,c,r,q⟩=>⟨vs,d,c.dP,r,q⟩) λ _ _ z=>False.elim z
def PI.dw(h:PI X.dw b iter wi):PI X b iter wi:=λ i s σ H R I hw =>
 wpAny_mono (h i s σ H R (I.eI _) hw) (λ _ _ q=>wpAny_mono q (λ _ _ ⟨d,f,c,J,k,e,j,T,a,g,q⟩=>⟨d,f,c,J,k,e,j.dP,T,a,g,q⟩) λ _ _ z=>False.elim z) λ _ _ z=>False.elim z
def cG.or(d:cG X a t)(c:cG X a u):cG X a (λ D σ H=>t D σ H\/u D σ H):=λ b s σ H D I q=>q.elim (d b s σ H D I) (c b s σ H D I)
def PS.or{st:uV}{t u:TS}(c:PS X st t)(b:PS X st u):PS X st (λ D σ H=>t D σ H\/u D σ H):=λ a s σ H D I q=>q.elim (c a s σ H D I) (b a s σ H D I)
end
section
variable {K:Q_}{Ze:Int×Int->Hp->Prop}
def Qi(h:CO o=some (ρ,M)):o=some (.ok (.nx ρ),M):=by
 unfold CO at h;split at h
 ·cases h;rfl
 ·cases h
def Qh(h:Lm o=some (ρ,M)):o=some (.ok (.nx ρ),M)\/o=some (.ok (.ct ρ),M):=by
 unfold Lm at h;split at h
 ·cases h;exact .inl rfl
 ·cases h;exact .inr rfl
 ·cases h
def LX.seq{g:Ev->Mo Fl}{j i:Ev->MH->Option ((Int×Int)×MH)}(D:Ends)(σ:St)(H:Hp)(h:LX K Ze (λ ρ M=>match CO (g ρ M) with
  |some (c,b)=>i c b
  |none=>j ρ M) D σ H):Jb (λ D σ H=>LS K g D σ H\/LX K Ze j D σ H) (LX K Ze i) D σ H:=by
 obtain⟨ι,ρ,M,n,l,S,R,e,k⟩:=h;dsimp only at e;cases q:CO (g ρ M) with
 |none =>
  rw[q]at e;exact .inr ⟨ι,ρ,M,n,l,S,R,e,k⟩
 |some p =>
  let⟨a,b⟩:=p;rw[q]at e;refine .inl ⟨ι,ρ,M,.nx a,b,S,R,Qi q,λ w d s o=>?_⟩;exact λ m u=>⟨d,a,b,n,l,s,u,e,λ v f t r=>k v f t (o.trans r)⟩
def LX.ifS{o:Ev->Mo Bool}{m l:Ev->MH->Option ((Int×Int)×MH)}(D:Ends)(σ:St)(H:Hp)(h:LX K Ze (λ ρ M=>match o ρ M with
  |some (.ok k,c)=>if k=true then m ρ c else l ρ c
  |_=>none) D σ H):Jc (LT K o) (LX K Ze m) (LX K Ze l) D σ H:=by
 obtain⟨ι,ρ,M,n,r,S,R,e,k⟩:=h;dsimp only at e;split at e
 ·rename_i b c q
  refine⟨ι,ρ,M,b,c,S,R,q,λ s d p f=>?_⟩;cases b with
  |true=>exact⟨d,ρ,c,n,r,p,R.mono f,e,λ j a i g=>k j a i (f.trans g)⟩
  |false=>exact⟨d,ρ,c,n,r,p,R.mono f,e,λ j a i g=>k j a i (f.trans g)⟩
 ·cases e
def LX.E8{i j:Nat}{fs:Ev->Mo Src}{B:Ev->Mo Fl}{G:Ev->MH->Option ((Int×Int)×MH)}(D:Ends)(σ:St)(H:Hp)(h:LX K Ze (λ ρ M=>match fs ρ M with
  |some (.ok s,O)=>jF s.ck i j B G s.ds ρ O
  |_=>none) D σ H):u6 (kX K fs) (Fy K 2 (oY (fX i) (oY (fX j) Fz))) (λ D σ H=>LS K B D σ H\/LX K Ze G D σ H) D σ H:=by
 obtain⟨ι,ρ,M,Q,W,S,R,e,k⟩:=h;dsimp only at e;split at e
 ·rename_i a O e1
  refine⟨ι,ρ,M,a,O,S,R,e1,λ J H1 p S1 X1 hJ=>?_⟩;refine⟨λ n m w F=>m=a.ds.length-n/\n<=a.ds.length/\∃c l u,aO K c u F/\bQ K c F l w/\Ext K p H1 c F/\jF a.ck i j B G (a.ds.drop n) l u=some (Q,W),
   ⟨_,rfl,zW _,p,ρ,O,S1,R.mono X1,Ext.refl,e⟩,?_⟩
  rintro n m w F ⟨rfl,hj,c,l,u,S2,R2,I,d⟩;by_cases T:n<a.ds.length
  ·right
   rw[yt T,jF]at d;cases q:cK a.ck u with
   |none=>rw[q]at d;cases d
   |some r =>
    rw[q]at d;dsimp only at d;obtain⟨ok,rfl⟩:nY a.ck u/\r=(.ok (),u):=by
     unfold cK at q;split at q
     ·rename_i ok
      cases q;exact⟨ok,rfl⟩
     ·cases q
    cases Hw:pairD a.ds[n] with
    |none=>rw[Hw]at d;cases d
    |some Z =>
     rw[Hw]at d;dsimp only at d;let⟨go,kq⟩:=(hJ c F _ I S2 ok).1 n _ (zu T);refine⟨go,λ g o=>∃b f L,aO K b L o/\bQ K b o f g/\Ext K p H1 b o/\jF a.ck i j B G (a.ds.drop (n+1)) f L=some (Q,W),
      λ g o ⟨b,f,L,h1,h2,h3,h4⟩=>⟨a.ds.length-(n+1),by omega,rfl,T,b,f,L,h1,h2,h3,h4⟩,λ x X y=>?_⟩
     let⟨U,v,Y⟩:=kq x X y;rw[Ak Hw]at Y;cases Y with
     |tup t q' =>
      cases q' with
      |cons P A =>
       cases A with
       |cons A z =>
        cases z;exists _,_,rfl,cZ t,rfl,_,_,rfl,_,_,rfl,rfl;cases q2':Lm (B ((l.set i (some Z.1)).set j (some Z.2)) u) with
        |none =>
         rw[q2']at d;exact .inr ⟨c,_,_,Q,W,U,((R2.mono v).set P i).set A j,d,λ o b E C=>k o b E ((X1.trans I).trans (v.trans C))⟩
        |some p3 =>
         let⟨f,N⟩:=p3;rw[q2']at d;rcases Qh q2' with z|z
         ·exact .inl ⟨c,_,_,_,N,U,((R2.mono v).set P i).set A j,z,λ o b E C g V=>⟨b,f,N,E,V,I.trans (v.trans C),d⟩⟩
         ·exact .inl ⟨c,_,_,_,N,U,((R2.mono v).set P i).set A j,z,λ o b E C g V=>⟨b,f,N,E,V,I.trans (v.trans C),d⟩⟩
  ·exfalso
   have ej:n=a.ds.length:=by omega
   subst ej;rw[yR]at d;cases d
 ·cases e
noncomputable abbrev KN(p:Int×Int):HO:=.xd [("row",.int p.1),("at",.int p.2)]
abbrev Cw(K:Q_)(n:Nat)(z:List D->MH->Option ((Int×Int)×MH))(C:uc):Sp:=λ vs H _ E=>vs.length=n/\∃ι M i d ds,aO K ι M H/\aB K ι H ds vs/\z ds M=some (i,d)/\∀b a c,aO K a d b->Ext K ι H a b->b c=none->E (.ref C) (some c) (upd b c (KN i))
abbrev EZ(Cu:uc)(Ze:Int×Int->Hp->Prop):XK:=λ c d H=>∃i b a,c=.ref Cu/\d=some a/\b a=none/\H=upd b a (KN i)/\Ze i b
def LX.call{f:Ev->Mo (List D)}{z:List D->MH->Option ((Int×Int)×MH)}{j:Nat}{Cu:uc}(hz:∀ds M r,z ds M=some r->ds.length=j)(D:Ends)(σ:St)(H:Hp)(Q:VK)(h:LX K Ze (λ ρ M=>match f ρ M with
  |some (.ok xs,a)=>z xs a
  |_=>none) D σ H):DY (Cw K j z Cu) [] (EZ Cu Ze) (LA K f) σ H Q:=by
 obtain⟨ι,ρ,M,i,s,S,R,e,k⟩:=h
 try dsimp only at e
 split at e
 ·rename_i xs a q
  refine⟨ι,ρ,M,xs,a,S,R,q,λ vs t b d o m=>?_⟩;show Cw K j z Cu (vs++[]) t Q (EZ Cu Ze);rw[zO];exact⟨by rw[<- d.length];exact hz _ _ _ e,b,a,i,s,xs,o,d,e,λ g c l p n hd=>⟨i,g,l,rfl,rfl,hd,rfl,k g c p (m.trans n)⟩⟩
 ·cases e
end
abbrev Ms:IE->Bool
 |.call f _=>!(kn.contains f)
 |_=>true
abbrev Ao:IS->Bool
 |.rz _ _=>false
 |.set _ e=>Ms e
 |.ifS _ _ _=>false
 |.forP _ _ _ _=>false
 |_=>true
abbrev D9(zs:List Str)(v:Expr):Bool:=match lL v with
 |some (f,_,a,_)=>zs.contains f&&kn.contains f&&(a.length==3||a.length==4)
 |none=>false
abbrev Lc(zs:List Str)(ts:List Expr)(v:Expr):Bool:=match ts with
 |[.Name _ _]=>D9 zs v
 |_=>false
mutual
noncomputable def IJ(zs:List Str):Nat->uV->IS->Bool
 |0,_,_=>false
 |n+1,e,i=>match e with
  |.If _ a b _=>(match i with
   |.ifS _ x y=>eG zs n a x&&eG zs n b y
   |_=>false)
  |.For _ _ b _ _=>(match i with
   |.forP _ _ _ y=>eG zs n b y
   |_=>false)
  |.Raise _ _ _=>true
  |.Assign c v _=>Lc zs c v||Ao i
  |_=>Ao i
noncomputable def eG(zs:List Str):Nat->List uV->aD->Bool
 |0,_,_=>false
 |n+1,e,i=>match e with
  |[]=>(match i with
   |.nil=>true
   |_=>false)
  |s::r=>(match i with
   |.cons a b=>IJ zs n s a&&eG zs n r b
   |_=>false)
end
def Kk(h:Ms e=true)(ρ:Ev)(M:MH):v8 Γ e ρ M=none:=by
 cases e <;> first
  |rfl
  | (rename_i f a
     have h:(!(kn.contains f))=true:=h;rw[yn]at h;unfold v8;dsimp only;rw[h,if_neg zn])
def NR(h:Ao i=true)(ρ:Ev)(M:MH):i7 Γ i ρ M=none:=by
 cases i <;> first|rfl|cases h|exact Kk h ρ M
def OT(h:two as=some (x,y)):as=[x,y]/\aW x=true/\aW y=true:=by
 unfold two at h;split at h
 ·cases h
 ·split at h
  ·cases h
  ·split at h
   ·split at h
    ·rename_i a
     cases h;rw[zt]at a;exact⟨rfl,a.1,a.2⟩
    ·cases h
   ·cases h
section
variable {Γ:Ctx}{S:Sc}{X:Cx}{Ze:Int×Int->Hp->Prop}{Cu:uc}{zs:List Str}(hE:∀n,Sound Γ n)(hsS:∀n,rO Γ n)(C:aL Γ S X.dw)(hf:∀x,X.fn x=true)(hp:PassesOwn (model X.prog X.w) X.A X.env X.xe)
 (hr:∀(ea eb:Expr) (fa fb:DE) (np cpos pos:Pos),S.bz "BadTree" = true->aW ea=true->aW eb=true->PE X ea (LE X.K fa)->PE X eb (LE X.K fb)->PS X (.Raise (some (.Call (.Name "BadTree" np) [ea,eb] [] cpos)) none pos) (λ _ σ H=>cW (LE X.K fa) (cW (LE X.K fb) ir) σ H λ vs H1=>∃p:Int×Int,vs=[.int p.1,.int p.2]/\Ze p H1))
 (hx:Passes (jz X.prog X.w) X (EZ Cu Ze))
 (hF:∀f∈zs,∃(k:Nat) (fa:uc) (fd:FuncData) (ps:List Str),X.mg f=some (.ref fa)/\X_ X.K (.ref fa)=true/\Binds X.K fd ps []/\dF X.prog X.w X.K X.mg X.base (jz X.prog X.w) k fa fd ps (Cw X.K ps.length (Γ.rz f) Cu)/\cF k X.A/\∀ds M r,Γ.rz f ds M=some r->ds.length=ps.length)
include hE hsS C hf hp hr hx hF
omit hf hr hsS hp in
def SA{n:Nat}{v:Expr}{y:IE}(h:cE S n v=some y)(hz:D9 zs v=true):∃f es,y=.call f es/\kn.contains f=true/\PE X v (λ σ H Q=>LX X.K Ze (λ ρ M=>match bR Γ es ρ M with
  |some (.ok xs,R)=>Γ.rz f xs R
  |_=>none) { nx:=λ _ _=>False,rt:=λ _ _=>False } σ H):=by
 unfold D9 at hz;split at hz
 ·rename_i f p i q G
  rwa[zt]at hz;obtain⟨⟨P,t⟩,d⟩:=hz;have e:=x9 G;subst e;cases i with
  |nil=>cases d
  |cons a i =>
   cases n with
   |zero=>cases h
   |succ n =>
    have m:Ba S (cE S n) (jQ S n) f (a::i)=m7 S f (a::i).length (jQ S n (a::i))/\FR f (a::i).length=none:=by
     have I:f = "read_row_askings"\/f = "read_row":=by
      have:=aK t
      simpa [kn] using this
     have o:∀(g:Str) (es:List Expr),(g==("sorted":Str))=false->(g==("isinstance":Str))=false->(g==("_law_refused":Str))=false->(∃b c r,es=a::b::c::r)->Ba S (cE S n) (jQ S n) g es=m7 S g es.length (jQ S n es):=by
      rintro g es O N L ⟨b,c,r,rfl⟩;unfold Ba;dsimp only;rw[O,N,if_neg zn,if_neg zn];show y4 S g (jQ S n (a::b::c::r)) (m7 S g (a::b::c::r).length (jQ S n (a::b::c::r)))=_;unfold y4 Ed;rw[L];rwa[zL,zY,if_false]
     have d:(a::i).length=3\/(a::i).length=4:=by simpa using d
     have s:∃b c r,a::i=a::b::c::r:=by
      match i,d with
      |b::c::r,_=>exact⟨b,c,r,rfl⟩
      |[],h=>rcases h with h|h <;> cases h
      |[b],h=>rcases h with h|h <;> cases h
     rcases I with rfl|rfl
     ·exact⟨o _ _ (by decide) (by decide) (by decide) s,by rcases d with d|d <;> (rw[d];decide)⟩
     ·exact⟨o _ _ (by decide) (by decide) (by decide) s,by rcases d with d|d <;> (rw[d];decide)⟩
    replace h:Ba S (cE S n) (jQ S n) f (a::i)=some y:=h;rw[m.1]at h;unfold m7 at h;split at h
    ·rename_i l
     rw[zt]at l;split at h
     ·let⟨es,J,rfl⟩:=zp.mp h
      exists f,es,rfl,t;let⟨u,j⟩:=(hE n).Es _ _ _ _ C J;rw[yk,zt]at j;let⟨k,fa,fd,ps,m1,m2,F,E,D,B⟩:=hF f (aK P);let⟨z,U,T⟩:=cb l.1;refine PE.imp (sy E D (C.bz l.2) m1 m2 F .nil hx (PA.dw u) z (az j.1) (dj j.2)) λ σ H Q q=>?_;exact LX.call B _ σ H Q q
     ·split at h
      ·rw[m.2]at h
       cases h
      ·cases h
    ·cases h
 ·cases hz
omit hr hsS hp in
def Pn(h:cS S n (.Assign ts v pos)=some i)(hz:Lc zs ts v=true):PS X (.Assign ts v pos) (LX X.K Ze (i7 Γ i)):=by
 cases n with
 |zero=>cases h
 |succ n =>
  replace h:KA S n ts v=some i:=h;unfold Lc at hz;split at hz
  ·rename_i x p
   replace h:Bt S n x v=some i:=h;have hc:uL v=none:=by
    unfold D9 at hz;split at hz
    ·rename_i l
     rw[x9 l];rfl
    ·cases hz
   unfold Bt at h;rw[hc]at h;dsimp only at h;split at h
   ·rename_i a
    rw[zt]at a;let⟨j,o,h⟩:=ak h;let⟨y,m,h⟩:=ak h;cases h;have c:=slot_get o;have en:X.N=S.N:=C.n;rw[<- en]at c;let⟨f,s,rfl,u,g⟩:=SA hE C hx hF m hz;refine PS.imp (lZ C.nd c (C.loc a.1) g (Cr a.2) (.inl (hf x))) λ D σ H q=>?_;obtain⟨ι,ρ,M,b,d,t,R,e,k⟩:=q;refine⟨ι,ρ,M,b,d,t,R,?_,k⟩;have e:v8 Γ (.call f s) ρ M=some (b,d):=e;unfold v8 at e;dsimp only at e;rw[if_pos u]at e;exact e
   ·cases h
  ·cases hz
def Cz:∀n,(∀e i,cS S n e=some i->IJ zs n e i=true->PS X e (LX X.K Ze (i7 Γ i)))/\(∀e i,cw S n e=some i->eG zs n e i=true->cG X e (LX X.K Ze (cu Γ i)))
 |0=>⟨λ e i h _=>(by cases h),λ e i h _=>(by unfold cw at h;cases h)⟩
 |n+1=>by
  let⟨ihS,m⟩:=Cz n;refine⟨λ e i h d=>?_,λ e i h d=>?_⟩
  ·have no:Ao i=true->PS X e (LX X.K Ze (i7 Γ i)):=λ hn l s σ H D I q=>by
    obtain⟨ι,ρ,M,P,V,_,_,q,_⟩:=q;rw[NR hn]at q;cases q
   cases e with
   |If c a b p =>
    replace h:(do let k<-cC S n c;let x<-cw S n a;let y<-cw S n b;some (.ifS k x y))=some i:=h;let⟨k,h0,h⟩:=ak h;let⟨x,B,h⟩:=ak h;let⟨y,F,h⟩:=ak h;cases h;replace d:(eG zs n a x&&eG zs n b y)=true:=d;rw[zt]at d;exact PS.imp (uA (PT.dw ((hE n).C _ _ _ _ C h0)) (m _ _ B d.1) (m _ _ F d.2)) LX.ifS
   |For t iter b o p =>
    replace h:uB o (A9 S n t iter (cw S n b))=some i:=h;cases o with
    |cons _ _=>cases h
    |nil =>
     replace h:A9 S n t iter (cw S n b)=some i:=h;cases i with
     |forP T Q u J =>
      replace d:eG zs n b J=true:=d;cases t with
      |Name x p =>
       exfalso;replace h:(if S.loc x then (do let i<-slot S.N x;let it<-cT S n iter;let y<-cw S n b;some (IS.forS i it y)) else none)=some (IS.forP T Q u J):=h
       split at h
       ·let⟨_,_,h⟩:=ak h
        let⟨_,_,h⟩:=ak h;let⟨_,_,h⟩:=ak h;cases h
       ·cases h
      |Tuple O k1 p1 =>
       replace h:ER S n O iter (cw S n b)=some (.forP T Q u J):=h;rcases O with _|⟨a,_|⟨b2,_|⟨_,_⟩⟩⟩
       ·cases h
       ·cases h
       ·replace h:oK S n a b2 iter (cw S n b)=some (.forP T Q u J):=h
        delta oK at h;cases ha:og a with
        |none=>rw[ha]at h;cases h
        |some q =>
         let⟨x,pa⟩:=q;rw[ha]at h;dsimp only at h;cases jo:og b2 with
         |none=>rw[jo]at h;cases h
         |some q =>
          let⟨y,pb⟩:=q;rw[jo]at h;dsimp only at h;obtain rfl:=oa ha;obtain rfl:=oa jo;split at h
          ·rename_i hl
           rw[zt]at hl;let⟨i1,B,h⟩:=ak h;let⟨j1,F,h⟩:=ak h;let⟨it,h3,h⟩:=ak h;let⟨z,h4,h⟩:=ak h;cases h;have en:X.N=S.N:=C.n;have HP:=slot_get B;rw[<- en]at HP;have HN:=slot_get F;rw[<- en]at HN;let⟨t1,t2⟩:=CA hE C h3;exact PS.imp (qM hp C.calm (PI.dw t1) (Ah C.calm (kD (iA C.nd HP (C.loc hl.1) (.inl (hf x))) (kD (iA C.nd HN (C.loc hl.2) (.inl (hf y))) sr))) (cG.or (cG.dw ((hsS n).Ss _ _ _ _ C hf h4)) (m _ _ h4 d)) t2) LX.E8
          ·cases h
       ·exfalso
        rename_i w4 w5;replace h:qA S n (a::b2::w4::w5) iter (cw S n b)=some (.forP T Q u J):=h;unfold qA at h;split at h
        ·let⟨_,_,h⟩:=ak h
         let⟨_,_,h⟩:=ak h;let⟨_,_,h⟩:=ak h;cases h
        ·cases h
      |_=>cases h
     |_=>cases d
   |Raise a b c =>
    replace h:some (GJ S (cE S n) a b)=some i:=h;cases h;have L:∀l s σ H D,Inv X l σ H s->LX X.K Ze (i7 Γ IS.halt) D σ H->False:=λ l s σ H D I q=>by
     obtain⟨ι,ρ,M,P,V,_,_,q,_⟩:=q;cases q
    unfold GJ;split
    ·rename_i e
     split
     ·split
      ·rename_i x y np cpos g
       split
       ·rename_i hg
        unfold Pp;split
        ·rename_i i0 B
         split
         ·rename_i j0 F
          unfold Uc at g;split at g
          ·rename_i f p as q YU
           rw[x9 YU];split at g
           ·rename_i Z
            have Z:=eq_of_beq Z;subst Z;split at g
            ·rename_i x' J ht
             cases g;let⟨rfl,YY,pO⟩:=OT ht;refine PS.imp (hr _ _ (ag Γ i0) (ag Γ j0) _ _ _ hg YY pO (PE.dw ((hE n).E _ _ _ _ C B)) (PE.dw ((hE n).E _ _ _ _ C F))) λ D σ H q=>?_;obtain⟨ι,ρ,M,P,V,S',R,G,k⟩:=q;have G:(match ag Γ i0 ρ M with
              |some (.ok (.int i),U)=>(match ag Γ j0 ρ U with
               |some (.ok (.int j),M2)=>some ((i,j),M2)
               |_=>none)
              |_=>none)=some (P,V):=G
             split at G
             ·rename_i i1 U e2
              split at G
              ·rename_i j1 M2 e3
               cases G;refine⟨ι,ρ,M,.int i1,U,S',R,e2,λ v H1 Y r1 S1 X1=>⟨Y,ρ,U,.int j1,_,S1,R.mono X1,e3,λ v2 H2 W r2 S2 X2=>⟨(i1,j1),?_,k H2 W S2 (X1.trans X2)⟩⟩⟩;cases r1;cases r2;rfl
              ·cases G
             ·cases G
            ·cases g
           ·cases g
          ·cases g
         ·exact λ l s σ H D I q=>(L l s σ H D I q).elim
        ·exact λ l s σ H D I q=>(L l s σ H D I q).elim
       ·exact λ l s σ H D I q=>(L l s σ H D I q).elim
      ·exact λ l s σ H D I q=>(L l s σ H D I q).elim
     ·exact λ l s σ H D I q=>(L l s σ H D I q).elim
    ·exact λ l s σ H D I q=>(L l s σ H D I q).elim
   |Assign O v p =>
    replace d:(Lc zs O v||Ao i)=true:=d;rw[xz]at d;rcases d with d|d
    ·exact Pn hE C hf hx hF h d
    ·exact no d
   |_=>exact no d
  ·unfold cw at h
   cases e with
   |nil =>
    cases h;intro l s σ H D I q;obtain⟨ι,ρ,M,P,V,_,_,q,_⟩:=q;cases q
   |cons s r =>
    let⟨x,B,h⟩:=ak h;let⟨y,F,h⟩:=ak h;cases h;replace d:(IJ zs n s x&&eG zs n r y)=true:=d;rw[zt]at d;exact cG.imp (cA (PS.or (PS.dw ((hsS n).S _ _ _ _ C hf B)) (ihS _ _ B d.1)) (m _ _ F d.2)) LX.seq
end
section
variable {M:Model}{A:ut}{E:jp->kt->Prop}{s:kt}{e C D fI:uc}
def lJ(j:A.handled=none)
  (h:wpAny M A x (λ v a=>∃e t c,v=.ref e/\ZH a.heap C D fI/\a.heap.get? e=some (dJ C t c)/\E (.ref e) a) E s) :
  wpAny M A (raiseStmt env (some x) none) Q E s:=by
 unfold raiseStmt;refine zw (wpAny_mono h (λ v a b=>?_) λ _ _ x=>x);let⟨e,t,c,rfl,z,he,k⟩:=b;obtain⟨⟨N,nm,q,bs,sn,i,B,col,c,w,u,r,p,o,n,f,_,_,_⟩,_⟩:=z;have l:(Value.ref C::Value.ref D::fu).contains (.type "BaseException")=true:=rfl;unfold dJ at he;let⟨y,g,d,m,os⟩:=a
 repeat (first|with_reducible refine wpAny_loadPart_at he ?_|with_reducible refine wpAny_loadPart_at f ?_|(with_reducible refine wpAny_isSubtype_exc f ?_;rw[l])|wp_step)
 exact wpAny_raiseNew_none j k
def MG(x:ZE s.heap e C)(z:ZH s.heap C D fI)(v:Q true s):wpAny M A (excMatches (.ref e) (.ref D)) Q E s:=by
 obtain⟨⟨N,nm,q,bs,sn,j,X,col,W,V,U,T,S,R,P,B,_,_⟩,⟨b,Y,l,L,H,k,c,I,i,G,u,r,p,o,n,m,a,y,w⟩,_⟩:=z;let⟨O,he,F⟩:=x;let⟨h,g,d,t,os⟩:=s;have K:(Value.ref D::fu).contains (.type "BaseException")=true:=rfl;have J:(Value.ref C::Value.ref D::fu).contains (.ref D)=true:=by simp
 have f:=tc_notTuple;unfold excMatches
 repeat (first|(with_reducible refine wpAny_loadPart_at he ?_;rw[F])|with_reducible refine wpAny_loadPart_at a ?_|(with_reducible refine wpAny_isSubtype_exc a ?_;rw[K])|(with_reducible refine wpAny_isSubtype_exc B ?_;rw[J])|wp_step)
 exact v
end
section
variable {X:Cx}{C D fI:uc}{fd:FuncData}{k:Nat}
def Jo{np cpos pos:Pos}{j g:Expr}{f d:TE}{Ze:Int×Int->Hp->Prop}(Z:ZK X.K X.mg C D fI)(B:Binds X.K fd ["self","row","at"] [])(F:dF X.prog X.w X.K X.mg X.base gG k fI fd ["self","row","at"] (Cy C))(q:cF (k+1) X.A)
  (y:Gl X "BadTree") (hc:X.calm=true) (E:PE X j f) (r:aW j=true) (N:PE X g d) (p:aW g=true) (u:∀(σ:St) (H:Hp) (Q R:List V->Hp->Prop),(∀v n,Q v n->R v n)->cW f (cW d ir) σ H Q->cW f (cW d ir) σ H R)
  (hx:∀(l:List (uc×Obj)) (σ:St) (H:Hp) (s:kt) (e:uc) (i:Int×Int),Made X l σ H C e (.int i.1) (.int i.2) s->Ze i H->X.xe (.ref e) s) :
  PS X (.Raise (some (.Call (.Name "BadTree" np) [j,g] [] cpos)) none pos) (λ _ σ H=>cW f (cW d ir) σ H λ vs m=>∃i:Int×Int,vs=[.int i.1,.int i.2]/\Ze i m):=by
 intro l s σ H S I h;have main:=Bd (np:=np) (cpos:=cpos) (Q:=λ v a=>∃e t J,v=.ref e/\ZH a.heap C D fI/\a.heap.get? e=some (dJ C t J)/\X.xe (.ref e) a) Z B F q y E r N p I (u σ H _ _ (λ v m ⟨i,ev,z⟩=>⟨_,_,ev,λ e o M=>by
  let⟨t,G,L,P,O,he⟩:=M.ex;exact⟨e,t,some G,rfl,Z.zh _ L.eB,he,hx l σ m o e i M z⟩⟩) h)
 rw[arm_exec_Raise]
 first
  |exact zw (wpAny_standAt (lJ (I.ok.hd hc) (zw (wpAny_mono main (λ v c b=>zw (wpAny_standAt (zo b))) λ _ _ x=>x))))
  | (rwa[evalOpt,Option.map];exact zw (wpAny_standAt (lJ (I.ok.hd hc) (zw (wpAny_mono main (λ v c b=>zw (wpAny_standAt (zo b))) λ _ _ x=>x)))))
  |exact zw (wpAny_standAt (lJ (I.ok.hd hc) main))
end
section
variable {X:Cx}{C D fI e:uc}{oe:Obj}
def BB(d:(e,oe)∈X.pn)(hc:oe.cls=.ref C):dH X (.builtin "isinstance") (λ xs H Q=>xs=[.ref e,.ref C]/\Q (.bl true) H):=by
 intro g s σ H xs f Q I r ⟨ex,q⟩;subst ex;cases r with
 |cons c r =>
 cases r with
 |cons b r =>
 cases r;cases c;cases b;have x:ZE s.heap e C:=⟨oe,(I.pin _ (zZ _ d)).1,hc⟩;refine call_isinstance (S:=λ _ R s=>ZE s.heap e C/\R (.ok (.ret (.bool true))) s) (λ _ _ _ _ _ a=>isinstance_outer (DK a.1 a.2) (by intro q;cases q)) ⟨x,?_⟩;exact⟨.bl true,H,I,rfl,q⟩
def BC(Z:ZK X.K X.mg C D fI)(d:(e,oe)∈X.pn)(hc:oe.cls=.ref C):dH X (.builtin "isinstance") (λ xs H Q=>xs=[.ref e,.ty "ValueError"]/\Q (.bl true) H):=by
 intro g s σ H xs f Q I r ⟨ex,q⟩;subst ex;cases r with
 |cons c r =>
 cases r with
 |cons b r =>
 cases r;cases c;cases b;have x:ZE s.heap e C:=⟨oe,(I.pin _ (zZ _ d)).1,hc⟩;refine call_isinstance (S:=λ _ R s=>(ZE s.heap e C/\ZH s.heap C D fI)/\R (.ok (.ret (.bool true))) s) (λ _ _ _ _ _ a=>isinstance_outer (DL a.1.1 a.1.2 a.2) (by intro q;cases q)) ⟨⟨x,Z.zh _ I.eB⟩,?_⟩;exact⟨.bl true,H,I,rfl,q⟩
def tj{h:Heap}{e C D j:uc}(x:ZE h e C)(z:ZH h C D j):∀a:List jp,(∀c∈a,∃B,c=.ref B/\B≠C/\B≠D/\ZB h B)->AnswersAll (λ s=>s.heap=h) (.ref e) a (a.map λ _=>false)
 |[],_=>trivial
 |c::a,hc=>by
  let⟨B,rfl,d,b,y⟩:=hc c (.head _);refine⟨λ dep k=>?_,tj x z a λ c i=>hc c (.tail _ i)⟩;intro prog w A R s f;let⟨e1,g⟩:=f;subst e1;exact Ga x z y d b (g _)
def F9{prog:uf}{w:ul}{A:ut}{E:jp->kt->Prop}{e C D p tp:uc}{n:Nat}{b:List jp}{s:kt}{Q:Fin->kt->Prop}(x:ZE s.heap e C)(z:ZH s.heap C D p)
  (i:s.heap.get? tp=some { cls:=.type "tuple",data:=.seq b.toArray n }) (hc:∀c∈b,∃B,c=.ref B/\B≠C/\B≠D/\ZB s.heap B) (j:∀a,Q (.done (.ret (.bool false))) { s with toks:=a }) :
  wpAny (model prog w) A (Builtin.«isinstance.nested» ⟨[.ref e,.ref tp,rawInt 0],[]⟩) Q E s:=by
 have k:=tj x z b hc;let⟨u,he,o⟩:=x;let⟨h,g,d,t,os⟩:=s;have G:(Value.ref C==Value.ref tp)=false:=zzF.mpr λ q=>by
  cases q;let⟨_,_,f,v,m⟩:=z.1.cls;rw[i]at f;cases f;cases m
 have l:(⟨h,g,d,t,os⟩:kt).TypeIs (.ref tp) "tuple":=⟨_,i,rfl⟩;have y:=F.isi_sub_tuple;have hv:(b.map λ _=>false).any id=false:=by simp
 repeat (any_goals (first|assumption|(with_reducible refine wpAny_loadPart_at he ?_;rw[o])|wp_step))
 refine wpAny_arrayLoop ?_;rwa[xB,yL];refine isinstance_items (dep:=0) (λ _ r h=>h) b _ _ _ k rfl λ a=>?_;rw[hv];rwa[zY,if_false]
 repeat (any_goals (first|assumption|wp_step))
 exact j a
def DN(Z:ZK X.K X.mg C D fI)(w:(e,oe)∈X.pn)(hc:oe.cls=.ref C):dH X (.builtin "isinstance") (λ xs H Q=>∃p vs,xs=[.ref e,.ref p]/\H p=some (.tup vs)/\(∀v∈vs,∃B,v=.ref B/\B≠C/\B≠D/\∀h:Heap,X.K.In h->ZB h B)/\Q (.bl false) H):=by
 intro L s σ H xs G Q I r ⟨p,vs,ex,A,hv,q⟩;subst ex;let⟨_,_,rfl,f,l⟩:=vals2 r;cases f;cases l;have x:ZE s.heap e C:=⟨oe,(I.pin _ (zZ _ w)).1,hc⟩;obtain⟨_,a,rt,⟨o,ho,k,n,hd⟩,b⟩:=I.hok p _ A;let⟨i,j⟩:=b o ho;let⟨c,E,F,J⟩:=o;simp only at k hd i j;subst k hd i j;have hits:∀{vs:List V} {a:List jp},Vals vs a->(∀v∈vs,∃B,v=.ref B/\B≠C/\B≠D/\∀h:Heap,X.K.In h->ZB h B)->∀c∈a,∃B,c=.ref B/\B≠C/\B≠D/\ZB s.heap B:=by
  intro vs a r;induction r with
  |nil=>intro _ c hc;cases hc
  |cons f _ u =>
   intro hv c hc;rcases zd.mp hc with rfl|hc
   ·let⟨B,rfl,t,m,y⟩:=hv _ (.head _)
    cases f;exact⟨B,rfl,t,m,y _ I.eB⟩
   ·exact u (λ v z=>hv v (.tail _ z)) c hc
 refine call_isinstance (S:=λ _ R d=>d.heap=s.heap/\∀g,R (.ok (.ret (.bool false))) { d with toks:=g })
  (λ _ _ _ _ d b=>isinstance_outer (F9 (s:=d) (b.1▸x) (b.1▸Z.zh _ I.eB) (b.1▸ho) (b.1▸hits rt hv) b.2) (by intro q;cases q)) ⟨rfl,λ g=>?_⟩
 exact⟨.bl false,H,I.tok _,rfl,q⟩
end
section
variable {P:uf}{w:ul}{K:Q_}{mg:Str->Option jp}{base:Heap}{srt:List D->Option (List D)}{wh:Nat}
def om(r:aB K ι H ds vs):bQ K ι H (ds.map some++yx (N.length-ds.length) none) (start N vs) where
 len:=by
  unfold L2.start;rw[zx,zx,zy,zy,yz,yz,r.length]
 val:=λ i d e=>by
  unfold L2.start;by_cases hi:i<ds.length
  ·rw[zK (by rw[zy];exact hi),zm]at e
   rw[zK (by rw[zy,<- r.length];exact hi),zm];cases q:ds[i]? with
   |none=>rw[q]at e;cases e
   |some b =>
    rw[q]at e;cases e;let⟨v,hv,a⟩:=r.get q;exact⟨v,by rw[hv];rfl,a⟩
  ·rw[zA (by rw[zy];omega),xl]at e
   split at e <;> cases e
def GP{Γ:Ctx}{x:Str}{st:uV}{p C D W:uc}{fd Mm:FuncData}{N ps fns gls aQ:List Str}{b:aD}{k U:Nat}{zs:List Str}(F:jv K x x st p fd)(hS:bX N ps (ah st))(hc:cw ⟨ah st,N,fns,gls,aQ⟩ 200 (aG st)=some b)
  (hz:eG zs 200 (aG st) b=true) (Z:ZK K mg C D W) (A3:Binds K Mm ["self","row","at"] []) (FI:dF P w K mg base gG U W Mm ["self","row","at"] (Cy C)) (Zc:U+1<=k) (V:∀n,Sound Γ n)
  (hF:∀f∈zs,∃(u:Nat) (o:uc) (B:FuncData) (l:List Str),mg f=some (.ref o)/\X_ K (.ref o)=true/\Binds K B l []/\dF P w K mg base (jz P w) u o B l (Cw K l.length (Γ.rz f) C)/\u<=k/\∀ds M r,Γ.rz f ds M=some r->ds.length=l.length)
  (hC:∀(cdv:jp) (A:ut) (outer:List Env) (s:kt) (H:Hp) (E:XK),cF k (A.deeper (envOfC x (ah st) s.heap.objs.size p cdv))->aL Γ ⟨ah st,N,fns,gls,aQ⟩ (fK (jz P w) P w K mg base N x (ah st) p cdv A outer s H E).dw) :
  dF P w K mg base (jz P w) (k+1) p fd ps (Cw K ps.length (λ ds M=>if ds.length=ps.length then cu Γ b (ds.map some++yx (N.length-ds.length) none) M else none) C):=by
 let⟨oc,od,kV,doc,pm,an,cdv,ct,eR,rfl,lk,jk⟩:=F.ex;refine Ml lk jk hS (λ vs H Q E h=>h.1) λ A outer s H vs Q E L h=>?_;obtain⟨hl,ι,M,i,T,ds,S,r,e,kk⟩:=h;have C1:=hC cdv A outer s H E L;dsimp only at e;split at e
 ·refine⟨_,(Cz (Ze:=λ i g=>∀a,g a=none->E (.ref C) (some a) (upd g a (KN i))) (Cu:=C) (zs:=zs) V (nQ V) C1 (λ _=>rfl) PassesOwn.leaving (λ ea eb fa' fb' np Y pos hg hp pO ha HL=>Jo (X:=fK (jz P w) P w K mg base N x (ah st) p cdv A outer s H E) Z A3 FI (L.mono Zc) (show Gl _ _ from C1.bz hg) rfl ha hp HL pO (λ σ H Q R m ⟨ι,ρ,M,d,T,h1,h2,h3,h4⟩=>⟨ι,ρ,M,d,T,h1,h2,h3,λ v g j r1 r2 r3=>let ⟨I,G,Mb,db,O,g1,g2,g3,g4⟩:=h4 v g j r1 r2 r3;⟨I,G,Mb,db,O,g1,g2,g3,λ v2 H2 J q1 q2 q3=>m _ _ (g4 v2 H2 J q1 q2 q3)⟩⟩) (λ XV σ H1 s1 e i M z=>?_)) (GH (λ c dd g q=>by
   let⟨i,H0,a,rfl,e1,hd,rfl,z⟩:=q;cases e1;exact z _ hd) (λ c g q=>by
   let⟨i,H0,a,rfl,e1,hd,rfl,z⟩:=q;cases e1)) (λ f hf=>by
   let⟨u,o,B,l,m1,m2,m3,m4,m5,m6⟩:=hF f hf;exact⟨u,o,B,l,m1,m2,m3,m4,L.mono m5,m6⟩) 200).2 _ _ hc hz,?_⟩
  ·let⟨t,a,I',d1,d2,he⟩:=M.ex
   exact GI I' he (ym M.y.lo) (by rw[ar (Ne.symm d2)];exact M.no) M.y.fr M.y.pn M.y.cl (z a d1)
  ·exact⟨ι,_,M,i,T,S,om (N:=N) r,e,λ g j S' X' a hd=>kk g j a S' X' hd⟩
 ·cases e
end
noncomputable abbrev lB(X:Cx) (e:uc) (oe:Obj):Cx:={ X with A:=X.A.mark (some (.ref e)),calm:=false,pn:=(e,oe)::X.pn,xe:=λ _ _=>False }
section
variable {X:Cx}{XV:List (uc×Obj)}{σ:L2.St}{H:Hp}{s:kt}{e:uc}{oe:Obj}
def AG(I:Inv X XV σ H s)(he:s.heap.get? e=some oe)(d:H e=none)(b:e≠X.env.locals)(c:e ∉ X.fs)(hd:∀v,oe.data≠.cell v):Inv (lB X e oe) XV σ H s:=by
 have ok:=I.ok;refine⟨⟨ok.mod,ok.kind,ok.glob,ok.blt,ok.above,ok.inj,ok.has,ok.ub,λ z=>(by cases z),ok.frames,ok.vQ,ok.HW,ok.bs,ok.nz,ok.n8,ok.qj,ok.fm,ok.pU⟩,I.os,I.bare,I.base,I.loc,I.cell,I.free,I.c9,λ p a=>?_,I.hok,I.len⟩;rcases zd.mp (show p∈(e,oe)::(X.pn++XV) from a) with rfl|a
 ·exact⟨he,d,b,c,hd⟩
 ·exact I.pin p a
def Ff(b:X.Ok)(I:Inv (lB X e oe) XV σ H s):Inv X XV σ H s :=
 ⟨b,I.os,I.bare,I.base,I.loc,I.cell,I.free,I.c9,λ p a=>I.pin p (show p∈(e,oe)::(X.pn++XV) from .tail _ a),I.hok,I.len⟩
def name_goes{M:Model}{A:ut}{E:jp->kt->Prop}{i:Nat}{x:Str}{pos:Pos}{Q:Unit->kt->Prop}(I:Inv X XV σ H s)(P:X.N.Nodup)(hi:X.N[i]?=some x)(O:X.env.scope.names.lookup x=some .local)
  (h:∀u,Inv X XV (σ.set i none) H u->Q () u):wpAny M A (do bindName X.env x .none;unbindBehindTheSuite X.env x pos) Q E s:=by
 let⟨m,K,L⟩:=id I.loc;have R:(X.env.scope.kind==.class||(X.env.scope.kind==.module&&X.env.locals != X.env.globals))=false:=by rw[I.ok.kind];rfl
 have T:i<σ.length:=by rw[I.len];exact(zz.mp hi).1
 have oo:=I.oo;refine wpAny_nameGoes_keeps O K R λ U v g a=>?_;refine h _ ⟨I.ok,I.os,I.bare,⟨λ b o e n r hx=>?_,λ b o e n r hx=>?_,I.base.free,λ b o e hx=>?_,I.base.jB,I.base.iG,I.base.jD⟩,⟨_,g,λ j y w e1 f S=>?_⟩,λ y c e=>?_,I.free,I.c9,λ p J=>?_,λ b ob e=>?_,by simpa using I.len⟩
 ·exact(a.2 b (zF (ze (zg e) I.ok.above))).trans (I.base.keep b o e n r hx)
 ·let⟨C,e1⟩:=I.base.slot b o e n r hx
  exact⟨C,(a.2 b (zF (ze (zg e) I.ok.above))).trans e1⟩
 ·let⟨F,e1⟩:=I.base.there b o e hx
  exact⟨F,(a.2 b (zF (ze (zg e) I.ok.above))).trans e1⟩
 ·by_cases l:j=i
  ·subst l
   rw[zJ T]at f;cases f
  ·rw[zc (Ne.symm l)]at f
   let⟨B,D,q⟩:=L j y w e1 f S;exists B,D;rcases q with ⟨k,e⟩|⟨k,c,e,z⟩
   ·refine .inl ⟨k,?_⟩
    have:y≠x:=λ e=>l (qe P e1 (e▸hi))
    simp[this,e]
   ·exact .inr ⟨k,c,e,z.sameBut a (oo y c e)⟩
 ·let⟨t,z⟩:=I.cell y c e
  exact⟨t,z.sameBut a (oo y c e)⟩
 ·let⟨e,n,ne,G,d⟩:=I.pin p J
  exact⟨(a.2 p.1 ne).trans e,n,ne,G,d⟩
 ·refine(I.hok b ob e).ku (λ c t hc q=>(a.2 c ?_).trans q) (λ _ q=>q) λ _ _ q=>q
  rintro rfl;rcases hc with rfl|hc
  ·rw[I.free]at e;cases e
  ·rw[I.free]at hc;cases hc
end
abbrev pH:List Str:=["_law_texts","_law_fault_here","_law_right_here","e"]
abbrev GK(p:Nat->Pos):uV:=.Expr (.Call (.Name "read_tree" (p 0)) [.Name "_law_texts" (p 1)] [] (p 2)) (p 3)
abbrev sd(p:Nat->Pos):List uV:=[
 .Assign [.Name "_law_right_here" (p 12)] (.BoolOp .And [.Call (.Name "isinstance" (p 13)) [.Name "e" (p 14),.Name "BadTree" (p 15)] [] (p 16),.Call (.Name "isinstance" (p 17)) [.Name "e" (p 18),.Name "ValueError" (p 19)] [] (p 20)] (p 21)) (p 22),
 .If (.Call (.Name "isinstance" (p 23)) [.Name "e" (p 24),.Tuple [.Name "BadLine" (p 25),.Name "BadWord" (p 26),.Name "Late" (p 27),.Name "NoPlace" (p 28),.Name "NoStretch" (p 29),.Name "Twice" (p 30),.Name "Unknown" (p 31)] 0 (p 32)] [] (p 33))
  [.Assign [.Name "_law_right_here" (p 34)] (.Constant (.bool false) 0 (p 35)) (p 36)] [] (p 37),
 .If (.BoolOp .And [.Name "_law_right_here" (p 38),.Compare (.Call (.Name "repr" (p 39)) [.Tuple [.Attribute (.Name "e" (p 40)) "row" (p 41),.Attribute (.Name "e" (p 4)) "at" (p 5)] 0 (p 6)] [] (p 42)) [.NotEq] [.Call (.Name "repr" (p 43)) [.Name "_law_fault_here" (p 44)] [] (p 45)] (p 46)] (p 47))
  [.Assign [.Name "_law_right_here" (p 48)] (.Constant (.bool false) 0 (p 49)) (p 50)] [] (p 51)]
abbrev Le(p:Nat->Pos):uV:=.Try [GK p] [.ExceptHandler (some (.Name "HouseError" (p 52))) (some "e") (sd p) (p 53)] [] [] (p 54)
abbrev nR(p:Nat->Pos):List uV:=[.Assign [.Name "_law_right_here" (p 55)] (.Constant (.bool false) 0 (p 56)) (p 57),Le p,.Return (some (.Name "_law_right_here" (p 58))) (p 59)]
abbrev Eg:List Str:=["read_tree","HouseError","isinstance","repr","BadTree","ValueError","BadLine","BadWord","Late","NoPlace","NoStretch","Twice","Unknown"]
structure qr (sc:Scope):Prop where
 loc:∀x∈pH,sc.names.lookup x=some .local
 bz:∀x∈Eg,sc.names.lookup x=some .globalImplicit
section
variable {X:Cx}{C D fI e:uc}{oe:Obj}{p:Nat->Pos}
abbrev Ue(i j:Int):Str:=PyData.shown (.tuple [.int i,.int j])
def C5{i:Int}(h:i.natAbs<2 ^ 64):i.natAbs.log2<1920/\(Str.ofString (toString i)).length<=70:=by
 have b:i.natAbs.log2<64:=by
  by_cases z:i.natAbs=0
  ·rw[z];decide
  ·exact(vk z).mpr h
 refine⟨wU b (by decide),?_⟩
 have:=int_text_length_le (a:=i) (k:=64) (by decide) b
 rw[PySem.ofString_length];omega
def mZ(hu:X.A.units+100<cLine)(y:X.A.guards=some []):dH X (.builtin "repr") (λ xs H Q=>∃q i j,xs=[.ref q]/\H q=some (.tup [.int i,.int j])/\i.natAbs<2 ^ 64/\j.natAbs<2 ^ 64/\Q (.str (Ue i j)) H):=by
 intro P s σ H xs E Q I b h;let⟨a,i,j,rfl,t,hi,x,q⟩:=h;let⟨u,rfl,f⟩:=vals1 b;cases f;obtain⟨v,b,⟨o,ho,hc,m,hd⟩,L⟩:=I.tuple (cZ t);let⟨G,F,rfl,k,g⟩:=vals2 b;let⟨d,rfl⟩:=k;let⟨c,rfl⟩:=g;have z:Reads s.heap (.ref a) (.tuple [.int i,.int j]) _:=.tuple ho hc hd (.cons (.int i d) (.cons (.int j c) .nil));have n:=C5 hi;have l:=C5 x;have B:PyData.depth (.tuple [.int i,.int j])=1:=by simp[PyData.depth,PyData.depthAll]
 refine repr_of_reads' z ?_ (PyData.noDict_hsm (by rfl)) y (by rw[B];omega) (λ _ _ e=>e) (λ O K J r=>⟨.str _,H,I.kept r,⟨_,rfl⟩,q⟩) ?_
 ·simp[PyData.showable,PyData.showableAll,n.1,l.1]
 ·have e:PyData.shown (.tuple [.int i,.int j])=tupleText [Str.ofString (toString i),Str.ofString (toString j)]:=by simp[PyData.shown,PyData.shownAll]
  rw[e];have N:=join_length_add [Str.ofString (toString i),Str.ofString (toString j)] (by simp);have M:piled [Str.ofString (toString i),Str.ofString (toString j)]=(Str.ofString (toString i)).length+2+((Str.ofString (toString j)).length+2):=by simp[piled]
  have w:(tupleText [Str.ofString (toString i),Str.ofString (toString j)]).length=1+(Str.join ", " [Str.ofString (toString i),Str.ofString (toString j)]).length+1:=by
   unfold tupleText;rw[Str.length_append,Str.length_append];rfl
  rw[w,sizeLine_eq];omega
def Lh{nm:Str}{k:uc}{n pos:Pos}{b:Bool}(o:nm=if b then "row" else "at")(Z:ZK X.K X.mg C D fI)(G:(e,oe)∈X.pn)(hc:oe.cls=.ref C)(t:oe.dict=some k)(f:∀c,oe.data≠.cls c){x:Str}{m:TE}(v:PE X (.Name x n) m) :
  PE X (.Attribute (.Name x n) nm pos) (λ σ H Q=>m σ H λ y l=>y=.ref e/\∃i j,l k=some (.xd [("row",.int i),("at",.int j)])/\Q (.int (if b then i else j)) l):=by
 intro J s σ H Q I h;refine Dy rfl (aJ (v J s σ H _ I h) λ u z ⟨y,l,a,A,e1,i,j,hx,q⟩=>?_);subst e1;cases A;let⟨O,u,L,r,F,E,B,w⟩:=Gd (a.hok k _ hx);let⟨N,rfl⟩:=B;let⟨R,rfl⟩:=w;have he:=(a.pin _ (zZ _ G)).1;let⟨P,g,d,M,os⟩:=z;cases b with
 |true =>
  obtain rfl:nm = "row":=o;exact kZ (.tail _ (.tail _ (.tail _ (.tail _ (.tail _ (.head _)))))) pX (Z.zh _ a.eB) he hc t f r F rfl ⟨.int i,_,a.tok _,⟨_,rfl⟩,q⟩
 |false =>
  obtain rfl:nm = "at":=o;exact kZ (.tail _ (.tail _ (.tail _ (.tail _ (.head _))))) rQ (Z.zh _ a.eB) he hc t f r E rfl ⟨.int j,_,a.tok _,⟨_,rfl⟩,q⟩
def Js(Z:ZK X.K X.mg C D fI)(r:(e,oe)∈X.pn)(hc:oe.cls=.ref C)(O:oe.dict=some w)(s:∀c,oe.data≠.cls c)(l:X.N=pH)(sc:qr X.env.scope)(hi:X.mg "isinstance" = none)(hv:X.mg "ValueError" = none)(nu:X.mg "repr" = none)(hu:X.A.units+100<cLine)(M:X.A.guards=some []) :
  cG X (sd p) (λ P σ H=>σ[3]?=some (some (.ref e))/\∃(i j:Int) (f:uc),σ[1]?=some (some (.ref f))/\H f=some (.tup [.int i,.int j])/\i.natAbs<2 ^ 64/\j.natAbs<2 ^ 64/\H w=some (.xd [("row",.int i),("at",.int j)])/\2<σ.length/\∀q vs q2 Gg,H q=none->upd H q (.tup vs) q2=none->P.nx (σ.set 2 (some (.bl true))) (upd (upd H q (.tup vs)) q2 (.tup Gg))):=by
 have nd:X.N.Nodup:=by rw[l];decide
 have g:∀x∈Eg,Gl X x:=λ x hx=>sc.bz x hx;have m:∀{pos:Pos},PE X (.Name "e" pos) (jE 3):=fg (by rw[l];rfl) (.inl (sc.loc _ (by decide)));have n0:Gl X "isinstance":=g _ (by decide);have I:Gl X "repr":=g _ (by decide);let⟨B1,b1,c1,d1,W⟩:=Z.ot "BadLine" (by decide);let⟨B2,b2,c2,d2,V⟩:=Z.ot "BadWord" (by decide);let⟨B3,b3,c3,d3,U⟩:=Z.ot "Late" (by decide);let⟨B4,b4,c4,d4,T⟩:=Z.ot "NoPlace" (by decide);let⟨B5,b5,c5,d5,S⟩:=Z.ot "NoStretch" (by decide);let⟨B6,b6,c6,d6,R⟩:=Z.ot "Twice" (by decide);let⟨B7,b7,c7,d7,Q⟩:=Z.ot "Unknown" (by decide);have gl:∀{x:Str} {B:uc} {pos:Pos},x∈Eg->X.mg x=some (.ref B)->(x==("__debug__":Str))=false->PE X (.Name x pos) (tC (.ref B)):=λ hx t hd=>sx (g _ hx) t rfl hd;have n:∀{a b c:Pos},PS X (.Assign [.Name "_law_right_here" a] (.Constant (.bool false) 0 b) c) _:=λ {a b c}=>lZ (pos:=c) (pos':=a) (X:=X) nd (i:=2) (x:="_law_right_here") (by rw[l];rfl) (.inl (sc.loc _ (by decide))) (EM (b:=false) (j:=0) (pos:=b)) (by rfl) (.inr (sc.loc _ (by decide)));have s1:=lZ (pos:=p 22) (pos':=p 12) (X:=X) nd (i:=2) (x:="_law_right_here") (by rw[l];rfl) (.inl (sc.loc _ (by decide)))
  (nX (pos:=p 21) (dW (p:=p 13) (pos:=p 16) (BB r hc) n0 hi z_ (aM (m (pos:=p 14)) (aM (gl (pos:=p 15) (by decide) Z.np (by decide)) bU)))
   (qO (dW (p:=p 17) (pos:=p 20) (BC Z r hc) n0 hi z_ (aM (m (pos:=p 18)) (aM (NG (pos:=p 19) (v:=.ty "ValueError") (u:=.type "ValueError") (g _ (by decide)) hv (by first|rfl|decide +kernel) rfl) bU)))))
  (by rfl) (.inr (sc.loc _ (by decide)))
 have s2:=uA (pos:=p 37) (X:=X) (GV (dW (p:=p 23) (pos:=p 33) (DN Z r hc) n0 hi z_ (aM (m (pos:=p 24)) (aM (qN (x1:=0) (pos:=p 32)
   (aM (gl (pos:=p 25) (by decide) b1 (by decide)) (aM (gl (pos:=p 26) (by decide) b2 (by decide)) (aM (gl (pos:=p 27) (by decide) b3 (by decide)) (aM (gl (pos:=p 28) (by decide) b4 (by decide))
   (aM (gl (pos:=p 29) (by decide) b5 (by decide)) (aM (gl (pos:=p 30) (by decide) b6 (by decide)) (aM (gl (pos:=p 31) (by decide) b7 (by decide)) bU)))))))) bU))))
  (cA (n (a:=p 34) (b:=p 35) (c:=p 36)) fw) fw
 have Y:PE X (.Name "_law_right_here" (p 38)) (jE 2):=fg (by rw[l];rfl) (.inl (sc.loc _ (by decide)));have va:PE X (.Name "_law_fault_here" (p 44)) (jE 1):=fg (by rw[l];rfl) (.inl (sc.loc _ (by decide)));have r1:=dW (p:=p 39) (pos:=p 42) (mZ hu M) I nu q_ (aM (qN (x1:=0) (pos:=p 6) (aM (Lh (b:=true) (nm:="row") (pos:=p 41) rfl Z r hc O s (m (pos:=p 40))) (aM (Lh (b:=false) (nm:="at") (pos:=p 5) rfl Z r hc O s (m (pos:=p 4))) bU))) bU);have r2:=dW (p:=p 43) (pos:=p 45) (mZ hu M) I nu q_ (aM va bU);have s3:=uA (pos:=p 51) (X:=X) (PW.pt (qK (pos:=p 47) (GV Y) (sj (CJ (pos:=p 46) SV r1 r2 rfl)))) (cA (n (a:=p 48) (b:=p 49) (c:=p 50)) fw) fw;refine cG.imp (cA s1 (cA s2 (cA s3 fw))) λ P σ H h=>?_;let⟨E,i,j,f,h2,F,L,J,hx,hl,k⟩:=h;have l4:∀v,(σ.set 2 v)[3]?=some (some (.ref e)):=λ v=>by rw[zc (by decide)];exact E
 exists _,E,rfl;exists true,rfl;rw[if_pos rfl];exists _,E,rfl;exists _,l4 _;refine⟨by show 7<=zi;decide,λ q o=>?_⟩;refine⟨q,_,rfl,aV,?_,false,rfl,?_⟩
 ·intro v t
  rwa[zd,yv,or_false]at t;rcases t with rfl|rfl|rfl|rfl|rfl|rfl|rfl
  ·exact⟨_,rfl,c1,d1,W⟩
  ·exact⟨_,rfl,c2,d2,V⟩
  ·exact⟨_,rfl,c3,d3,U⟩
  ·exact⟨_,rfl,c4,d4,T⟩
  ·exact⟨_,rfl,c5,d5,S⟩
  ·exact⟨_,rfl,c6,d6,R⟩
  ·exact⟨_,rfl,c7,d7,Q⟩
 ·dsimp only
  rw[if_neg (by decide)];exists _,zJ hl,true,rfl;dsimp only;rw[if_pos rfl];have YW:w≠q:=λ z=>by rw[<- z,hx]at o;cases o
  have d:f≠q:=λ z=>by rw[<- z,F]at o;cases o
  have G:∀vs,upd H q (.tup vs) w=some (.xd [("row",.int i),("at",.int j)]):=λ vs=>by rw[ar YW];exact hx
  exists _,l4 _,rfl,i,j,G _;exists _,l4 _,rfl,i,j,G _;refine⟨by show 2<=zi;decide,λ q2 y=>?_⟩;exists q2,i,j,rfl,aV,L,J;refine⟨_,by rw[zc (by decide)];exact h2,f,i,j,rfl,?_,L,J,?_⟩
  ·have YX:f≠q2:=λ z=>by rw[<- z,ar d,F]at y;cases y
   rw[ar YX,ar d];exact F
  refine⟨rfl,false,by simp,?_⟩;dsimp only;rw[if_neg (by decide)];exact k q _ q2 _ o y
end
abbrev mq(P:uf)(w:ul)(K:Q_)(mg:Str->Option jp)(base:Heap)(C:uc)(k:Nat)(z:Str->List L3.D->MH->Option ((Int×Int)×MH))(f:Str):Prop:=∃(ra:uc) (b:FuncData) (a:List Str),mg f=some (.ref ra)/\X_ K (.ref ra)=true/\Binds K b a [] /\
 dF P w K mg base (jz P w) k ra b a (Cw K a.length (z f) C)/\∀ds M r,z f ds M=some r->ds.length=a.length
section
variable {X:Cx}{C D fI:uc}{p:Nat->Pos}{k:Nat}{z:Str->List L3.D->MH->Option ((Int×Int)×MH)}
def Pt(Z:ZK X.K X.mg C D fI)(J:X.N=pH)(sc:qr X.env.scope)(hi:X.mg "isinstance" = none)(hv:X.mg "ValueError" = none)(nu:X.mg "repr" = none)(hex:X.ex=[])(B:X.stack=X.env::X.outer)(QY:X.env.frame=some X.env.locals)
  (hR:mq X.prog X.w X.K X.mg X.base C k z "read_tree") (hr:cF k X.A) :
  PS X (Le p) (λ D' σ H=>∃ι M M' i j td l v2 b,σ=[some l,some v2,some b,none]/\aO X.K ι M H/\aB X.K ι H [td] [l]/\Rep X.K ι H (.tup [.int i,.int j]) v2/\z "read_tree" [td] M=some ((i,j),M')/\i.natAbs<2 ^ 64/\j.natAbs<2 ^ 64/\∀H' a,aO X.K a M' H'->Ext X.K ι H a H'->D'.nx [some l,some v2,some (.bl true),none] H'):=by
 intro m s σ H D' I h;obtain⟨ι,M,M',i,j,td,l,v2,b0,rfl,S,R,R2,ez,HF,HC,kk⟩:=h;refine wpAny_Try_except ?_;generalize UY:(λ (e:jp) (V:kt)=>wpAny (model X.prog X.w) X.A (noteFrame e X.env) (λ _ U=>wpAny (model X.prog X.w) X.A (setFlight e none) (λ _ P=>wpAny (model X.prog X.w) X.A (handleBy e X.env [.ExceptHandler (some (.Name "HouseError" (p 52))) (some "e") (sd p) (p 53)]) (SP X m D') X.xe P) X.xe U) X.xe V)=E1;have Iw:=I.eI E1;have nv:∀{i:Nat} {x:Str} {pos:Pos},X.N[i]?=some x->x∈pH->(x==("__debug__":Str))=false->(x==("__classdict__":Str))=false->PE (X.eI E1) (.Name x pos) (jE i):=λ h1 h2 h3 L=>fg h1 (.inl (sc.loc _ h2)) h3 L;have call:∀s0,Inv X m [some l,some v2,some b0,none] H s0->wpAny (model X.prog X.w) X.A (execs [GK p] X.env) (λ _ _=>False) E1 s0:=by
  intro s0 I0;let⟨ra,rd,tI,YS,YT,YV,hF,LW⟩:=hR;have LW:=LW _ _ _ ez;have ha:PA (X.eI E1) [.Name "_law_texts" (p 1)] (cW (jE 0) ir):=aM (nv (by rw[J];rfl) (by decide) (by decide) (by decide)) bU;refine wpAny_execs_cons (aJ (Q:=λ _ _=>False) (wpAny_Expr_any ?_ I0.quiet (by rfl)) λ _ _ z=>z.elim);refine wpAny_Call_Name_kw (mf I0 (sc.bz _ (by decide)) YS ?_ (by decide));refine V_ (h₀:=X.base) I0.ok.mod.Lz YT (aJ (ha (p 2) m s0 _ H (λ vs G=>vs=[l]/\G=H) (I0.eI E1) ⟨l,rfl,rfl,rfl⟩) λ us s1 ⟨vs,G,F,r,q⟩=>⟨F.eB,?_⟩) (by rfl) (by rfl);let⟨rfl,rfl⟩:=q;replace F:Inv X m _ G s1:=F.dP;have hl:(us++[]).length=tI.length:=by rw[zO,<- r.length,<- LW];rfl
  refine wpAny_call (codeAny_mono (hF.run X.A X.stack s1 G ⟨us,[]⟩ us [l] (λ _ _=>False) (λ cls dd H'=>cls=.ref C/\∃E H2 a,dd=some E/\H2 E=none/\H'=upd H2 E (KN (i,j))/\aO X.K a M' H2/\Ext X.K ι G a H2) hr F.Kg (by have:=YV s1 us F.eB hl;(rw[zO]at this;assumption)) r
   ⟨LW,ι,M,(i,j),M',[td],S,R,ez,λ H' a E S' X' hd=>⟨rfl,E,H',a,rfl,hd,rfl,S',X'⟩⟩) λ r s' n=>?_)
  cases r with
  |ok fl =>
   cases fl with
   |ret u=>let⟨_,_,_,_,_,_,_,q⟩:=n;exact q
   |next=>exact False.elim n
   |brk=>exact False.elim n
   |cont=>exact False.elim n
  |error x =>
   let⟨e,T,C',dd,H',rfl,os,bare,un,hok,Rv,y,T0,eH,TH,ec,E,H2,a,ZU,fO,Mq,S2',X2'⟩:=n;cases ec;subst ZU;have S':aO X.K a M' H':=by rw[Mq];exact S2'.dU fO
   have X':Ext X.K ι G a H':=by rw[Mq];exact X2'.trans (Ext.dU fO)
   have YK:H' E=some (.xd [("row",.int i),("at",.int j)]):=by rw[Mq];exact aV
   have R2':Rep X.K a H' (.tup [.int i,.int j]) v2:=R2.mono X';obtain⟨W,rfl,Hv⟩:∃W,v2=.ref W/\H' W=some (.tup [.int i,.int j]):=by
    cases R2' with
    |tup t q =>
     cases q with
     |cons q1 q =>
      cases q with
      |cons q2 q =>
       cases q;cases q1;cases q2;exact⟨_,rfl,t⟩
   clear Mq;subst UY;show wpAny (model X.prog X.w) X.A (noteFrame (.ref e) X.env) _ _ s';have I2:Inv X m _ H' s':=F.call' (ch:=[]) os un hok bare (λ b z=>absurd z (by simp));have new:=λ b (d:s1.heap.get? b=none)=>Ar F hex d;have fr:X.A.frames=some (X.env::X.outer):=B▸I2.ok.frames;have fl:s'.heap.FunFrames X.base (X.env::X.outer):=B▸I2.stack;refine Ax (base:=X.base) fr fl QY Rv λ h3 T' FC hT' Qk=>?_;have L9:s'.heap.get? T'=none:=ym hT';have I3:=lh (t':=s'.toks) (ch:=[e,T]) I2 (λ b d=>by
    rwa[zd,yv,or_false]at d;rcases d with rfl|rfl
    ·exact⟨(new _ y).1,(new _ y).2.1,(new _ y).2.2.1,(new _ y).2.2.2.1,eH⟩
    ·exact⟨(new _ T0).1,(new _ T0).2.1,(new _ T0).2.2.1,(new _ T0).2.2.2.1,TH⟩) (B▸Qk)
   have Y:∀b,s'.heap.get? b=none->X.s₀.heap.get? b=none/\b≠X.env.locals/\(∀x c,X.env.cells.lookup x=some c->c≠b)/\(∀q∈X.pn++m,q.1≠b)/\H' b=none:=λ b d=>by
    let⟨x1,x2,x3,x4,_⟩:=Ar I2 hex d;exists x1,x2,x3,x4;cases q:H' b with
    |none=>rfl
    |some u =>
     let⟨o,ho⟩:=nZ (I2.hok b u q);rw[d]at ho;cases ho
   refine wpAny_handleBy_cons (codeAny_handlers_test ?_) (by intro q;cases q);let⟨oe,vs,oT,ts,he,fJ,rn,hd,h1,oi,hT,rq,h3'⟩:=id FC;have nc:∀v,oe.data≠.cell v:=λ v q=>by rw[hd]at q;cases q
   have I4:Inv (lB X e oe) m _ H' { s' with heap:=h3 }:=AG I3 he eH (new _ y).2.1 (new _ y).2.2.2.2 nc;refine mf (X:=lB X e oe) I4 (sc.bz _ (by decide)) Z.he ?_;refine MG ⟨oe,he,fJ⟩ (Z.zh _ I3.eB) ?_;rw[if_pos rfl];refine codeAny_handlers_suite_as (lands FC λ L Wa keep=>?_);have T4:∃o,L.get? T'=some o:=let ⟨_,_,oT,_,_,_,_,_,_,_,q,_⟩:=Wa;⟨oT,q⟩;have Zk:L.get? e=some oe:=keep e oe (Ne.symm oi) he;have I5:=lh (h':=L) (t':=s'.toks) (ch:=[T']) I3 (λ b d=>by
    rwa[zd,yv,or_false]at d;subst d;exact Y _ L9) ⟨λ b o _ d q=>keep b o (by simpa using d) q,λ b o d q=>⟨o.slots,keep b o (by simpa using d) q⟩,λ b o q=>by
     by_cases d:b=T'
     ·subst d;exact T4
     ·exact⟨o,keep b o d q⟩⟩
   have I6:Inv (lB X e oe) m _ H' { s' with heap:=L }:=AG I5 Zk eH (new _ y).2.1 (new _ y).2.2.2.2 nc;have nd:(lB X e oe).N.Nodup:=by show X.N.Nodup;rw[J];decide
   refine mG (X:=lB X e oe) (v:=.ref e) (i:=3) (x:="e") I6 nd (by show X.N[3]?=_;rw[J];rfl) (.inl (sc.loc _ (by decide))) rfl (λ s5 I7=>?_) (.inr (sc.loc _ (by decide)));have su:=Js (X:=lB X e oe) (p:=p) (e:=e) (oe:=oe) Z (.head _) fJ rn (λ c q=>by rw[hd]at q;cases q) J sc hi hv nu (by have:=hr.un;show X.A.units+100<cLine;omega) (show X.A.guards=some [] from hr.gd) m s5 _ H' { nx:=λ O H6=>O=[some l,some (.ref W),some (.bl true),some (.ref e)]/\∃g,aO X.K g M' H6/\Ext X.K ι G g H6,rt:=λ _ _=>False } I7
    ⟨rfl,i,j,W,rfl,Hv,HF,HC,YK,by show 2<4;decide,λ q vs q2 Gg n qZ=>⟨rfl,a,(S'.dU n).dU qZ,(X'.trans (Ext.dU n)).trans (Ext.dU qZ)⟩⟩
   refine wpAny_mono su (λ f s6 q=>?_) λ _ _ z=>False.elim z;cases f with
   |next =>
    let⟨O,H6,I8,rfl,g,S6,X6⟩:=q;have I9:=Ff I.ok I8;exact name_goes (i:=3) (x:="e") I9 (by rw[J];decide) (by rw[J];rfl) (sc.loc _ (by decide)) λ s7 R6=>⟨_,H6,R6,kk H6 g S6 X6⟩
   |ret u=>let⟨_,_,_,_,_,q⟩:=q;exact q.elim
   |brk=>let⟨_,_,_,q⟩:=q;exact q.elim
   |cont=>let⟨_,_,_,q⟩:=q;exact q.elim
 exact wpAny_mono (call s I) (λ _ _ z=>z.elim) λ _ _ z=>by subst UY;exact z
def Np(Z:ZK X.K X.mg C D fI)(g:X.N=pH)(sc:qr X.env.scope)(hi:X.mg "isinstance" = none)(hv:X.mg "ValueError" = none)(nu:X.mg "repr" = none)(m:X.ex=[])(l:X.stack=X.env::X.outer)(v:X.env.frame=some X.env.locals)
  (r:mq X.prog X.w X.K X.mg X.base C k z "read_tree") (q:cF k X.A) :
  cG X (nR p) (λ n σ H=>∃ι M M' i j f e d,σ=[some e,some d,none,none]/\aO X.K ι M H/\aB X.K ι H [f] [e]/\Rep X.K ι H (.tup [.int i,.int j]) d/\z "read_tree" [f] M=some ((i,j),M')/\i.natAbs<2 ^ 64/\j.natAbs<2 ^ 64/\∀c a,aO X.K a M' c->Ext X.K ι H a c->n.rt (.bl true) c):=by
 have nd:X.N.Nodup:=by rw[g];decide
 refine cG.imp (cA (lZ (i:=2) (x:="_law_right_here") nd (by rw[g];rfl) (.inl (sc.loc _ (by decide))) (EM (b:=false) (j:=0) (pos:=p 56)) (by rfl) (.inr (sc.loc _ (by decide))))
   (cA (Pt (p:=p) Z g sc hi hv nu m l v r q) (cA (Af (fg (i:=2) (x:="_law_right_here") (pos:=p 58) (by rw[g];rfl) (.inl (sc.loc _ (by decide))))) fw))) λ n σ H h=>?_
 obtain⟨ι,M,M',i,j,f,e,d,rfl,S,R,R2,s,y,B,o⟩:=h;exact⟨ι,M,M',i,j,f,e,d,_,rfl,S,R,R2,s,y,B,λ c a u t=>⟨.bl true,rfl,o c a u t⟩⟩
end
abbrev lN:List Str:=["_law_texts","_law_fault_here"]
section
variable {P:uf}{w:ul}{K:Q_}{mg:Str->Option jp}{base:Heap}{C D fI fa:uc}{fd:FuncData}{p:Nat->Pos}{k:Nat}{z:Str->List L3.D->MH->Option ((Int×Int)×MH)}{st:uV}{x:Str}
def Ej(F:jv K x x st fa fd)(r:bX pH lN (ah st))(q:aG st=nR p)(sc:qr (ah st))(Z:ZK K mg C D fI)(hi:mg "isinstance" = none)(hv:mg "ValueError" = none)(nu:mg "repr" = none)
  (t:mq P w K mg base C k z "read_tree") :
  dF P w K mg base gG (k+1) fa fd lN (kx K 2 (λ ds M=>match tK z ds M with
   |some M'=>some (.ok (.bl true),M')
   |none=>none)):=by
 refine F.ok r (λ vs H Q E h=>h.1) (λ f A outer s H vs Q E o h=>?_);obtain⟨L,ι,M,M',ds,d,S,R,b,n⟩:=h;dsimp only at b;split at b
 ·rename_i O a
  cases b;rw[q];unfold tK at a;split at a
  ·rename_i g i j
   split at a
   ·rename_i J N u
    split at a
    ·rename_i e
     cases a;let⟨e,B,G⟩:=e;subst e;cases R with
     |cons m R =>
     cases R with
     |cons l R =>
     cases R;exact⟨_,Np (X:=(fK gG P w K mg base pH x (ah st) fa f A outer s H E).dw) Z rfl sc hi hv nu rfl rfl rfl t o,ι,M,_,i,j,g,_,_,rfl,S,.cons m .nil,l,u,B,G,λ I c y v=>n _ I c (.bl true) y v⟩
    ·cases a
   ·cases a
  ·cases a
 ·cases b
end
abbrev CN(h:Heap)(x:Str):Bool:=match h.clsAt mainGlobals x with
 |some (B,o,_)=>decide (o.cls=.type "type")&&!decide (h.nsMap mainGlobals "BadTree" = some (.ref B))&&!decide (h.nsMap mainGlobals "HouseError" = some (.ref B))
 |none=>false
abbrev stillOk(h:Heap)(name:Str)(ns:List Str):Bool:=match h.clsAt mainGlobals name with
 |some (_,_,cd)=>ns.all λ n=>(h.nsMap cd.ns n).isNone
 |none=>false
abbrev Ko(h:Heap):Bool:=match h.clsAt mainGlobals "BadTree" with
 |some (C,o,cd)=>decide (o.cls=.type "type")&&decide (cd.mro=.ref C::(h.nsMap mainGlobals "HouseError").getD .none::fu)&&!cd.hasDel&&decide (o.slots.size=6)&&decide (o.slots[4]?=some (some (.builtin "ValueError.__new__")))&&h.isNs cd.ns&&cd.hasDict&&(cM.all λ n=>(h.nsMap cd.ns n).isNone) &&
  (match h.fnAt cd.ns "__init__" with
   |some (_,o,_)=>decide (o.cls=.type "function")
   |none=>false)
 |none=>false
abbrev Fj(h:Heap):Option FnShape:=match h.clsAt mainGlobals "BadTree" with
 |some (_,_,cd)=>h.shapeAt cd.ns "__init__"
 |none=>none
abbrev IQ(s:kt):Bool×Option FnShape:=(Ko s.heap&&s.heap.ownExcOk "HouseError" [] fu "ValueError.__new__"&&stillOk s.heap "HouseError" Gz&&rR.all (CN s.heap),Fj s.heap)
abbrev IL(st:uV)(_:ul):Bool×Option FnShape:=(true,some ⟨"__init__","BadTree.__init__",bL st,.stmts (aG st),ah st,mainGlobals,[],.none,.none,none,.none,builtinsNs,true⟩)
abbrev Bw(st:uV)(_:ul)(h:Heap):Prop:=∃C D c,h.nsMap mainGlobals "BadTree" = some (.ref C)/\h.nsMap mainGlobals "HouseError" = some (.ref D)/\ZH h C D c/\(∀x∈rR,∃B,h.nsMap mainGlobals x=some (.ref B)/\B≠C/\B≠D/\ZB h B) /\
 ∃f e g b d a,h.get? c=some ⟨f,e,.func (Z_ "__init__" "BadTree.__init__" (bL st) (aG st) (ah st) .none .none b d none a .none),g⟩/\h.CodeRec a "BadTree.__init__"
def R8(x:h.ownExcOk name [] fu "ValueError.__new__" = true)(y:stillOk h name ns=true):∃D b,h.nsMap mainGlobals name=some (.ref D)/\ZC h D fu ns b none:=by
 let⟨C,N,nm,q,bs,j,sn,d,u,col,t,p,o,m,l,k,f,g,s,hi⟩:=Heap.ownExc_of_ok x;refine⟨C,j,f,N,nm,q,bs,sn,d,u,col,t,p,o,m,l,k,_,g,s,λ n r=>?_,hi⟩;unfold stillOk at y;cases hf:h.clsAt mainGlobals name with
 |none=>rw[hf]at y;cases y
 |some z =>
  let⟨C',v,cd'⟩:=z;rw[hf]at y;let⟨c,a,e⟩:=wg hf;rw[f]at c;obtain rfl:C=C':=by injection c with i;injection i
  rw[g]at a;obtain rfl:=Option.some.inj a;obtain rfl:_=cd':=by injection e
  exact yS.mp (yw.mp y n r)
def TR{h:Heap}{D:uc}{st:uV}(x:Ko h=true)(L:h.nsMap mainGlobals "HouseError" = some (.ref D))(y:Fj h=some ⟨"__init__","BadTree.__init__",bL st,.stmts (aG st),ah st,mainGlobals,[],.none,.none,none,.none,builtinsNs,true⟩) :
  ∃C e,h.nsMap mainGlobals "BadTree" = some (.ref C)/\ZC h C (.ref D::fu) cM true (some (.ref e)) /\
   ∃od O a i cdv,h.get? e=some ⟨.type "function",od,.func (Z_ "__init__" "BadTree.__init__" (bL st) (aG st) (ah st) .none .none a i none cdv .none),O⟩/\h.CodeRec cdv "BadTree.__init__":=by
 unfold Ko at x;unfold Fj at y;cases hf:h.clsAt mainGlobals "BadTree" with
 |none=>rw[hf]at x;cases x
 |some z =>
  let⟨C,o,cd⟩:=z;rw[hf]at x y;let⟨s,ho,hd⟩:=wg hf;let⟨A,S,R,v⟩:=o;let⟨nm,bs,E,N,q,F,sn,f,T,col,W⟩:=cd;rwa[zt,zzC,yn]at x;obtain⟨⟨⟨⟨⟨⟨⟨⟨M,u⟩,X⟩,k⟩,V⟩,P⟩,U⟩,m⟩,d⟩:=x;let⟨l⟩:=v;let⟨K,J,I,H,G,rfl⟩:=six_places (l:=l) (by simpa using k) (by simpa using V);obtain rfl:A=.type "type":=M;obtain rfl:R=_:=hd;obtain rfl:W=false:=X;obtain rfl:F=true:=U;rw[L]at u;subst u;unfold Heap.shapeAt at y;dsimp only at y d;cases hg:h.fnAt N "__init__" with
  |none=>rw[hg]at y;cases y
  |some z =>
   let⟨e,B,fd⟩:=z;rw[hg]at y d;let⟨r,p,t⟩:=Heap.fnAt_spec hg;let⟨n,Y,ps,b,sc,g,cl,df,Z,a,i,an,code,ct,bi⟩:=fd;rwa[xr,Option.some.injEq,FnShape.mk.injEq]at y;let⟨rfl,rfl,rfl,rfl,rfl,rfl,rfl,rfl,rfl,rfl,rfl,rfl,hc⟩:=y;let⟨w,j,Q,c⟩:=B;cases t;rwa[zzC]at d;subst d;refine⟨C,e,s,⟨N,nm,q,bs,sn,f,T,col,S,K,J,I,H,G,_,ho,.of_isNs P,λ n s=>yS.mp (yw.mp m n s),r⟩,j,c,a,i,code,p,.of_ok hc⟩
def Vt(st:uV)(w:ul)(s:kt)(x:IQ s=IL st w):Bw st w s.heap:=by
 unfold IQ IL at x;injection x with x y
 rwa[zt]at x;obtain⟨⟨⟨m,l⟩,k⟩,j⟩:=x;let⟨D,b,c,F⟩:=R8 l k;let⟨C,v,f,G,p,E,a,n,d,e,A⟩:=TR m c y;refine⟨C,D,v,f,c,⟨G,⟨b,F⟩,_,e,rfl⟩,λ x hx=>?_,_,p,E,a,n,d,e,A⟩;have y:=yw.mp j x hx;unfold CN at y;cases hf:s.heap.clsAt mainGlobals x with
 |none=>rw[hf]at y;cases y
 |some z =>
  let⟨B,o,cd⟩:=z;rw[hf]at y;let⟨u,t,r⟩:=wg hf;rwa[zt,zzC,yn,decide_eq_false_iff_not]at y;obtain⟨⟨i,h⟩,g⟩:=y;exact⟨B,u,λ q=>h (q▸f),λ q=>g (q▸c),o,cd,t,i,r⟩
def lO{h h':Heap}{a:uc}{x:Str}{v:jp}(k:∀b o,h.get? b=some o->h'.get? b=some o)(e:h.nsMap a x=some v):h'.nsMap a x=some v:=by
 unfold vB at e ⊢;split at e
 ·rename_i o ho
  rw[k _ _ ho];exact e
 ·cases e
def MI(st:uV)(w:ul)(h h':Heap)(z:Bw st w h)(k:∀b o,h.get? b=some o->h'.get? b=some o):Bw st w h':=by
 let⟨C,D,j,c,d,zh,ot,i,g,n,a,f,e,m,l⟩:=z;refine⟨C,D,j,lO k c,lO k d,zh.keeps k,λ x hx=>?_,i,g,n,a,f,e,k _ _ m,l.keeps k⟩;let⟨B,t,s,r,o,cd,q,p⟩:=ot x hx;exact⟨B,lO k t,s,r,o,cd,k _ _ q,p⟩
abbrev my(st:uV):J_:=⟨_,IQ,IL st,Bw st,Vt st,MI st⟩
abbrev gj(a b:J_):J_:=⟨_,λ s=>(a.obs s,b.obs s),λ w=>(a.val w,b.val w),λ w h=>a.says w h/\b.says w h,λ w s e=>⟨a.of w s (Prod.mk.inj e).1,b.of w s (Prod.mk.inj e).2⟩,λ w h c x k=>⟨a.keeps w h c x.1 k,b.keeps w h c x.2 k⟩⟩
noncomputable abbrev fT(X:Cx) (ps:List (uc×Obj)):Cx:={ X with pn:=ps++X.pn }
section
variable {X:Cx}{XV:List (uc×Obj)}{σ:L2.St}{H:Hp}{s:kt}{h':Heap}{ps:List (uc×Obj)}
def N8(I:Inv X XV σ H s)(b:∀p∈ps,s.heap.get? p.1=some p.2/\H p.1=none/\p.1≠X.env.locals/\p.1 ∉ X.fs/\∀v,p.2.data≠.cell v):Inv (fT X ps) XV σ H s:=by
 have ok:=I.ok;refine⟨⟨ok.mod,ok.kind,ok.glob,ok.blt,ok.above,ok.inj,ok.has,ok.ub,ok.hd,ok.frames,ok.vQ,ok.HW,ok.bs,ok.nz,ok.n8,ok.qj,ok.fm,ok.pU⟩,I.os,I.bare,I.base,I.loc,I.cell,I.free,I.c9,λ p a=>?_,I.hok,I.len⟩;rcases zQ.mp (show p∈ps++X.pn++XV from a) with a|a
 ·rcases zQ.mp a with a|a
  ·exact b p a
  ·exact I.pin p (zZ _ a)
 ·exact I.pin p (zN _ a)
def lg(b:X.Ok)(I:Inv (fT X ps) XV σ H s):Inv X XV σ H s :=
 ⟨b,I.os,I.bare,I.base,I.loc,I.cell,I.free,I.c9,λ p a=>I.pin p (by
  show p∈ps++X.pn++XV;rcases zQ.mp a with a|a
  ·exact zZ _ (zN _ a)
  ·exact zN _ a),I.hok,I.len⟩
def Fg(I:Inv X XV σ (upd H p (.xd fs)) s)(h:H p=none)(j:X.s₀.heap.objs.size<=p):Inv X XV σ H s:=by
 have np:∀b u,H b=some u->b≠p:=λ b u e z=>by rw[z,h]at e;cases e
 have ne:∀{b u},upd H p (.xd fs) b=some u->u≠.xd fs->b≠p:=λ {b u} e n z=>by
  rw[z,aV]at e;cases e;exact n rfl
 have a:∀{b},upd H p (.xd fs) b=none->b≠p:=λ {b} e z=>by
  rw[z,aV]at e;cases e
 have k:p≠X.env.locals:=λ z=>a I.free z.symm;refine I.step (h':=s.heap) (t':=s.toks) (g':=s.gens) (d':=s.drawn) (ch:=[p]) (λ b d=>?_) (λ b o _ _ hc e _=>e) (λ b o _ _ hc e _=>⟨o.slots,e⟩)
  (λ b o hc _ n=>by rw[ar (λ z=>hc (by simp[z]))]at n;exact n)
  (λ b o hc e=>⟨o,e⟩) (λ b f e=>by rw[ar (ne e (by intro z;cases z))]at e;exact e) (λ b o u e=>by rw[ar (ne e (by intro z;cases z))]at e;exact e)
  (λ b ps e=>⟨#[],by rw[ar (ne e (by intro z;cases z))]at e;rw[e];simp⟩) (λ m i=>?_) (λ b u e=>?_) I.bare
 ·have e:b=p:=by simpa using d
  subst e;exact⟨.inr j,k,λ x c e=>a (I.c9 x c e),λ q g=>a (I.pin q g).2.1⟩
 ·exact i
 ·have d:=np b u e
  refine(I.hok b u (by rw[ar d];exact e)).ku (λ c v hc q=>q) ?_ ?_
  ·exact λ c z=>by rw[ar (ne z (by intro z;cases z))]at z;exact z
  ·exact λ c f z=>by rw[ar (ne z (by intro z;cases z))]at z;exact z
end
def aL.fT(C:aL Γ S X)(ps:List (uc×Obj)):aL Γ S (fT X ps) where
 n:=C.n
 sc:=C.sc
 calm:=C.calm
 hu:=C.hu
 gd:=C.gd
 dw:=C.dw
 fns:=C.fns
 gls:=C.gls
 aQ:=C.aQ
 rfs:=C.rfs
 Dk:=C.Dk
 nd:=C.nd
section
variable {X:Cx}{C D fI e dx:uc}{oe od:Obj}{u1 u2:jp}
def G1{nm x:Str}{n pos:Pos}{b:Bool}{j i:Int}{z w:Tok}{m:Str->Option jp}(o:nm=if b then "row" else "at")(Z:ZK X.K X.mg C D fI)(B:(e,oe)∈X.pn)(hd:(dx,od)∈X.pn)(E:∀h:Heap,h.get? dx=some od->h.Ns1 dx m)(m1:m "row" = some (.int j z))(m2:m "at" = some (.int i w))
  (hc:oe.cls=.ref C) (p:oe.dict=some dx) (f:∀c,oe.data≠.cls c) {k:TE} (v:PE X (.Name x n) k) :
  PE X (.Attribute (.Name x n) nm pos) (λ σ H Q=>k σ H λ y t=>y=.ref e/\Q (.int (if b then j else i)) t):=by
 intro F s σ H Q I h;refine Dy rfl (aJ (v F s σ H _ I h) λ u l ⟨y,t,a,A,e1,q⟩=>?_);subst e1;cases A;have he:=(a.pin _ (zZ _ B)).1;have r:=E l.heap (a.pin _ (zZ _ hd)).1;let⟨J,g,d,G,os⟩:=l;cases b with
 |true =>
  obtain rfl:nm = "row":=o;exact kZ (.tail _ (.tail _ (.tail _ (.tail _ (.tail _ (.head _)))))) pX (Z.zh _ a.eB) he hc p f r m1 rfl ⟨.int j,_,a.tok _,⟨_,rfl⟩,q⟩
 |false =>
  obtain rfl:nm = "at":=o;exact kZ (.tail _ (.tail _ (.tail _ (.tail _ (.head _))))) rQ (Z.zh _ a.eB) he hc p f r m2 rfl ⟨.int i,_,a.tok _,⟨_,rfl⟩,q⟩
end
abbrev Ja(b a:IE):aD:=.cons (.ret (.and b (.and a (.cbl true)))) .nil
abbrev XM(p:Nat->Pos):uV:=.Assign [.Name "_law_made" (p 0)] (.Call (.Name "BadTree" (p 1)) [.Constant (.int 3) 0 (p 2),.Constant (.int 5) 0 (p 3)] [] (p 4)) (p 5)
abbrev T2(a b:Expr)(p:Nat->Pos):uV:=.Return (some (.BoolOp .And [a,b,.Compare (.Call (.Name "repr" (p 6)) [.Tuple [.Attribute (.Name "_law_made" (p 7)) "row" (p 8),.Attribute (.Name "_law_made" (p 9)) "at" (p 10)] 0 (p 11)] [] (p 12)) [.Eq] [.Constant (.str "(3, 5)") 0 (p 13)] (p 14)] (p 15))) (p 16)
abbrev KQ(a b:Expr)(p:Nat->Pos):List uV:=[XM p,T2 a b p]
section
variable {Γ:Ctx}{S:Sc}{X:Cx}{Ca Da fI:uc}{fd:FuncData}{k:Nat}
def JU(hE:∀n,Sound Γ n)(C:aL Γ S X)(Z:ZK X.K X.mg Ca Da fI)(hb:Binds X.K fd ["self","row","at"] [])(F:dF X.prog X.w X.K X.mg X.base gG k fI fd ["self","row","at"] (Cy Ca))(hr:cF (k+1) X.A)(hex:X.ex=[])
 (ha:cE S n a=some J) (AZ:cE S n b=some B) (hj:X.N[j]?=some ("_law_made":Str)) (lj:X.env.scope.names.lookup ("_law_made":Str)=some .local) (g1:S.bz "BadTree" = true) (g2:S.bz "repr" = true) (g3:S.aQ.contains "repr" = true)
  (ja:∀ρ M,ag Γ J (ρ.set j none) M=ag Γ J ρ M) (jb:∀ρ M,ag Γ B (ρ.set j none) M=ag Γ B ρ M):cG X (KQ a b p) (LS X.K (aH Γ (Ja J B))):=by
 intro XV s σ H D I h;obtain⟨ι,ρ,M,fl,M',S0,R,e0,kk⟩:=h;obtain⟨d,e,Zj⟩:∃d,ag Γ (.and J (.and B (.cbl true))) ρ M=some (.ok d,M')/\fl=.rt d:=by
  replace e0:((do let x<-ag Γ (.and J (.and B (.cbl true))) ρ;pure (.rt x):Mo Fl) >>= λ f=>(match f with
   |.nx m=>pure (.nx m)
   |.rt v=>pure (.rt v)
   |.bk m=>pure (.bk m)
   |.ct m=>pure (.ct m))) M=some (.ok fl,M'):=e0
  let⟨f,M1,e1,e⟩:=aa e0;let⟨x,M2,e2,e1⟩:=aa e1;let⟨rfl,rfl⟩:=af e1;let⟨rfl,rfl⟩:=af e;exact⟨x,e2,rfl⟩
 subst Zj;refine wpAny_execs_cons (aJ (Q:=λ (f:Flow) (s1:kt)=>match f with
  |.next=>wpAny (model X.prog X.w) X.A (execs [T2 a b p] X.env) (SP X XV D) X.xe s1
  |_=>False) (wpAny_Assign_Name (Bd Z hb F hr (C.bz g1) (Aj (X:=X) (i:=3) (j:=0) (pos:=p 2)) rfl (Aj (X:=X) (i:=5) (j:=0) (pos:=p 3)) rfl I ⟨_,_,rfl,λ e1 s1 W=>?_⟩) (by rfl)) λ f s1 q=>?_)
 ·let⟨t,g,I1,d1,d2,he⟩:=W.ex
  let⟨hsz,s0,Z6,rm⟩:=W.dn t g he;let⟨mA,u,u2,n1,n2,n3,ru,v9⟩:=Gd (I1.hok g _ aV);let⟨tk,rfl⟩:=ru;let⟨XN,rfl⟩:=v9;have I2:=Fg I1 d1 hsz;let⟨_,x2,_,_,x5⟩:=Ar Z6 hex rm;let⟨od,es,ep,Y0,Ud⟩:=n1;have eC:∀h:Heap,h.get? g=some od->h.Ns1 g mA:=λ h q=>⟨od,es,ep,q,Ud⟩;have VZ:∀v,od.data≠.cell v:=λ v q=>by
   have:=Ud.1
   rw[q]at this;cases this
  have I3:Inv (fT X [(e1,dJ Ca t (some g)),(g,od)]) XV σ H s1:=N8 I2 λ q hq=>by
   rwa[zd,yv,or_false]at hq;rcases hq with rfl|rfl
   ·exact⟨he,W.no,W.y.fr,λ z=>by
     let⟨_,o,ho,_⟩:=I.ok.fm.mem z;exact absurd (ze (zg ho) W.y.lo) (yg _),λ v q=>by cases q⟩
   ·exact⟨Y0,d1,x2,x5,VZ⟩
  refine mG (X:=fT X [(e1,dJ Ca t (some g)),(g,od)]) (v:=.ref e1) I3 C.nd hj (.inl lj) rfl (λ s2 I4=>?_) (.inr lj);have P:=C.fT [(e1,dJ Ca t (some g)),(g,od)];have vm:∀{pos:Pos},PE (fT X [(e1,dJ Ca t (some g)),(g,od)]) (.Name "_law_made" pos) (jE j):=fg hj (.inl lj);have r1:=dW (p:=p 6) (pos:=p 12) (mZ (X:=fT X [(e1,dJ Ca t (some g)),(g,od)]) P.hu P.gd) (P.bz g2) (P.aQ _ (aK g3)) q_ (aM (qN (x1:=0) (pos:=p 11) (aM (G1 (X:=fT X [(e1,dJ Ca t (some g)),(g,od)]) (e:=e1) (oe:=dJ Ca t (some g)) (od:=od) (b:=true) (nm:="row") (pos:=p 8) rfl Z (.head _) (.tail _ (.head _)) eC n2 n3 rfl rfl (λ c q=>by cases q) (vm (pos:=p 7))) (aM (G1 (X:=fT X [(e1,dJ Ca t (some g)),(g,od)]) (e:=e1) (oe:=dJ Ca t (some g)) (od:=od) (b:=false) (nm:="at") (pos:=p 10) rfl Z (.head _) (.tail _ (.head _)) eC n2 n3 rfl rfl (λ c q=>by cases q) (vm (pos:=p 9))) bU))) bU);have pc:=CM (pos:=p 14) S8 r1 (Ai (X:=fT X [(e1,dJ Ca t (some g)),(g,od)]) (x:="(3, 5)") (j:=0) (pos:=p 13)) rfl;have pr:=cA (Af (pos:=p 16) (nX (pos:=p 15) ((hE n).E _ _ _ _ P ha) (nX (pos:=p 15) ((hE n).E _ _ _ _ P AZ) (qO pc)))) fw;have R':bQ X.K ι H (ρ.set j none) (σ.set j (some (.ref e1))):=⟨by rw[yq,yq];exact R.len,λ i d' q=>by
   by_cases hi:i=j
   ·subst hi
    rw[List.getElem?_set]at q;split at q
    ·split at q
     ·cases q
     ·cases q
    ·contradiction
   ·rw[zc (Ne.symm hi)]at q ⊢
    exact R.val i d' q⟩
  refine wpAny_mono (pr XV s2 _ H D I4 ?_) (λ f s3 q=>?_) λ _ _ z=>z
  ·replace e:(do let x<-ag Γ J ρ;let k<-lift (bS x);if k=true then ag Γ (.and B (.cbl true)) ρ else pure (.bl false):Mo L3.D) M=some (.ok d,M'):=e
   let⟨xa,Ma,ea,e⟩:=aa e;let⟨ba,Ma2,ZW,e⟩:=aa e;let⟨UO,rfl⟩:=bh ZW;refine⟨ι,_,M,xa,_,S0,R',(ja _ _).trans ea,λ va Ha U ra Sa Y=>?_⟩;cases ra <;> simp[bS]at UO;subst UO;exists _,rfl;split at e
   ·rename_i hc
    rw[if_pos hc];replace e:(do let x<-ag Γ B ρ;let k<-lift (bS x);if k=true then pure (.bl true) else pure (.bl false):Mo L3.D) _=some (.ok d,M'):=e;let⟨xb,Mb,eb,e⟩:=aa e;let⟨bb,Mb2,ZV,e⟩:=aa e;let⟨G,rfl⟩:=bh ZV;refine⟨U,_,_,xb,_,Sa,R'.mono Y,(jb _ _).trans eb,λ vb Hb T rb Sb Xb=>?_⟩;cases rb <;> simp[bS]at G;subst G;exists _,rfl;split at e
    ·rename_i rA
     rw[if_pos rA];let⟨rfl,rfl⟩:=af e;have QV:j<σ.length:=by rw[I.len];exact(zz.mp hj).1
     exists _,zJ QV,rfl;exists _,zJ QV,rfl;refine⟨by show 2<=zi;decide,λ q2 qZ=>?_⟩;refine⟨q2,3,5,rfl,aV,by decide,by decide,?_⟩;exists rfl;have e7:decide (V.str (Ue 3 5)=V.str "(3, 5)")=true:=by decide +kernel
     rw[e7];exact kk _ T (Sb.dU qZ) ((Y.trans Xb).trans (Ext.dU qZ)) _ (.bl true)
    ·rename_i rA
     rw[if_neg rA];let⟨rfl,rfl⟩:=af e;exact kk _ T Sb (Y.trans Xb) _ (.bl false)
   ·rename_i hc
    rw[if_neg hc];let⟨rfl,rfl⟩:=af e;exact kk _ U Sa Y _ (.bl false)
  ·cases f with
   |next=>let⟨l,O,L,q⟩:=q;exact⟨l,O,lg I.ok L,q⟩
   |brk=>let⟨l,O,L,q⟩:=q;exact⟨l,O,lg I.ok L,q⟩
   |cont=>let⟨l,O,L,q⟩:=q;exact⟨l,O,lg I.ok L,q⟩
   |ret u=>let⟨x,l,O,L,r,q⟩:=q;exact⟨x,l,O,lg I.ok L,r,q⟩
 ·cases f with
  |next=>exact q
  |ret v=>exact q.elim
  |brk=>exact q.elim
  |cont=>exact q.elim
abbrev sY:aD->aD->aD
 |.nil,t=>t
 |.cons a b,t=>.cons a (sY b t)
def CY(d:∀n,Sound Γ n)(C:aL Γ S X)(c:∀x,X.fn x=true)(b:cG X tl (LS X.K (aH Γ it))):∀(n:Nat) (pre:List uV) (a:aD),cw S n pre=some a->cG X (pre++tl) (LS X.K (aH Γ (sY a it)))
 |0,_,_,h=>by unfold cw at h;cases h
 |n+1,[],a,h=>by
  unfold cw at h;cases h;exact b
 |n+1,st::r,a,h=>by
  unfold cw at h;let⟨x,g,h⟩:=ak h;let⟨y,f,h⟩:=ak h;cases h
  have:=CY d C c b n r y f
  refine cG.imp (cA ((nQ d n).S _ _ _ _ C c g) this) λ D σ H q=>LS.seq D σ H ?_;show LS X.K _ D σ H;have e:(λ ρ=>aH Γ (sY (.cons x y) it) ρ)=aH Γ (.cons x (sY y it)):=rfl;exact q
end
def Ye{α:Type}{P:List α->Prop}(h:∀a,P [a]):∀us:List α,us.length=1->P us
 |[a],_=>h a
def Ui{α:Type}{P:List α->Prop}(h:∀a b,P [a,b]):∀us:List α,us.length=2->P us
 |a::r,c=>Ye (P:=λ r=>P (a::r)) (λ b=>h a b) r (Nat.succ.inj c)
def Yd{α:Type}{P:List α->Prop}(h:∀a b c,P [a,b,c]):∀us:List α,us.length=3->P us
 |a::r,d=>Ui (P:=λ r=>P (a::r)) (λ b c=>h a b c) r (Nat.succ.inj d)
structure Ent where
 x:Str
 st:uV
 N:List Str
 ps:List Str
 b:aD
abbrev tabOf(es:List Ent):List (Str×Fd):=es.map λ e=>(e.x,⟨e.N.length,e.ps.length,e.b⟩)
abbrev oC(K:Q_)(mg:Str->Option jp)(es:List Ent)(gls aQ:List Str)(e:Ent):Prop:=∃(a:uc) (fd:FuncData),jv K e.x e.x e.st a fd/\mg e.x=some (.ref a)/\Binds K fd e.ps []/\bX e.N e.ps (ah e.st) /\
 cw ⟨ah e.st,e.N,es.map (·.x),gls,aQ⟩ 200 (aG e.st)=some e.b/\(tabOf es).lookup e.x=some ⟨e.N.length,e.ps.length,e.b⟩
abbrev nF(K:Q_)(mg:Str->Option jp)(gl:Str->Option D)(x:Str):Prop:=∃d u v,gl x=some d/\mg x=some u/\RelV v u/\∀ι H,Rep K ι H d v
section
variable {P:uf}{w:ul}{K:Q_}{mg:Str->Option jp}{base:Heap}{es:List Ent}{gls aQ:List Str}{gl:Str->Option D}{srt:List D->Option (List D)}{wh:Nat}
def Tt(a:cF k A):A.units+100<cLine:=by have:=a.un;omega
variable (gU:∀x,mi x=true->∃a d ks,gl x=some d/\lR d=some ks/\mg x=some (.ref a)/\DH K P w a ks)
include gU
abbrev qG:List Str:=["read_row_askings","read_row","read_tree"]
abbrev nJ(f:Str):List Str:=if f = "read_row" then ["read_row_askings"] else if f = "read_tree" then ["read_row"] else []
omit gU in
def OF(h:g∈nJ f):g∈qG:=by
 unfold nJ at h;split at h
 ·rw[zB.mp h];decide
 ·split at h
  ·rw[zB.mp h];decide
  ·cases h
structure IF (K:Q_) (mg:Str->Option jp) (es:List Ent) (C Dd fI:uc):Prop where
 Z:ZK K mg C Dd fI
 hi:mg "isinstance" = none
 hv:mg "ValueError" = none
 nu:mg "repr" = none
 qU:∃(fd:FuncData) (st:uV) (p:Nat->Pos),jv K "__init__" "BadTree.__init__" st fI fd/\Binds K fd ["self","row","at"] []/\bX ["self","row","at"] ["self","row","at"] (ah st)/\aG st=oq p/\∀x∈(["self","row","at"]:List Str),(ah st).names.lookup x=some .local
 rf:∃(fa:uc) (fd:FuncData) (st:uV) (p:Nat->Pos),jv K "_law_refused" "_law_refused" st fa fd/\mg "_law_refused" = some (.ref fa)/\Binds K fd lN []/\bX pH lN (ah st)/\aG st=nR p/\qr (ah st)
 ra:∀f∈qG,∃e∈es,e.x=f/\eG (nJ f) 200 (aG e.st) e.b=true
variable {C Dd fI:uc}(fG:IF K mg es C Dd fI)
include fG
abbrev Vo(P:uf)(w:ul)(K:Q_)(mg:Str->Option jp)(base:Heap)(Γ:Ctx)(es:List Ent)(k:Nat):Prop:=∀e:Ent,e∈es->∃(b:uc) (fd:FuncData),jv K e.x e.x e.st b fd /\
  mg e.x=some (.ref b)/\X_ K (.ref b)=true/\Binds K fd e.ps []/\dF P w K mg base gG (k+2) b fd e.ps (kx K e.ps.length (Γ.fn e.x)) /\
  ∀ds M d c,Γ.fn e.x ds M=some (.ok d,c)->ds.length=e.ps.length
abbrev R7(P:uf)(w:ul)(K:Q_)(mg:Str->Option jp)(base:Heap)(Γ:Ctx)(k:Nat):Prop:=∃(b:uc) (fd:FuncData),mg "_law_refused" = some (.ref b)/\X_ K (.ref b)=true/\Binds K fd lN [] /\
  dF P w K mg base gG (k+2) b fd lN (kx K 2 (y8 Γ))/\∀ds M d c,y8 Γ ds M=some (.ok d,c)->ds.length=2
def FE(t:∀x∈gls,nF K mg gl x)(y:∀x∈aQ,mg x=none){k:Nat}(a:Vo P w K mg base (dq (tabOf es) gl srt wh k) es k)(b:R7 P w K mg base (dq (tabOf es) gl srt wh k) k){e:Ent}(z:bX e.N e.ps (ah e.st))
  (p:uc) (cdv:jp) (A:ut) (outer:List Env) (s:kt) (H:Hp) (E:XK) (l:cF (k+2) (A.deeper (envOfC e.x (ah e.st) s.heap.objs.size p cdv))) :
  aL (dq (tabOf es) gl srt wh k) ⟨ah e.st,e.N,es.map (·.x),gls,aQ⟩ (fK gG P w K mg base e.N e.x (ah e.st) p cdv A outer s H E).dw:={
    n:=rfl
    sc:=λ x q hx=>⟨q,hx,.inl rfl⟩
    calm:=rfl
    hu:=Tt l
    gd:=l.gd
    dw:=rfl
    fns:=λ x hx=>by
     let⟨r,m,rfl⟩:=yl.mp hx;let⟨j,i,_,h,g,f,c,g5⟩:=a r m;exact⟨k+2,j,i,r.ps,h,g,f,c,l,g5⟩
    gls:=λ x hx=>by
     let⟨o,u,v,h,g,f,c⟩:=t x hx;refine⟨o,u,v,?_,g,f,c⟩;cases k <;> exact h
    aQ:=y
    Dk:=λ x hx=>by
     let⟨a,o,ks,h,g,f,c⟩:=gU x hx;refine⟨a,o,ks,?_,g,f,c⟩;cases k <;> exact h
    rfs:=by
     let⟨j,i,h,g,f,c,g5⟩:=b;exact⟨k+2,j,i,lN,h,g,f,c,l,g5⟩
    nd:=z.nd }
def Oe(m:∀k,kb (dq (tabOf es) gl srt wh k))(hd:∀e∈es,oC K mg es gls aQ e)(hg:∀x∈gls,nF K mg gl x)(hb:∀x∈aQ,mg x=none)(k:Nat):Vo P w K mg base (dq (tabOf es) gl srt wh k) es k /\
  R7 P w K mg base (dq (tabOf es) gl srt wh k) k/\∀f∈qG,mq P w K mg base C (k+2) (dq (tabOf es) gl srt wh k).rz f:=by
 let⟨fr,U6,str,pr,V,Y,br,Sr,Zp,XO⟩:=fG.rf;let⟨Mm,stI,pI,FI,bI,SI,A3,GF⟩:=fG.qU;induction k with
 |zero =>
  refine⟨λ e he=>?_,⟨fr,U6,Y,V.kp,br,⟨λ vs H Q E h=>h.1,λ A outer s H args X vs Q E _ _ _ _ h=>?_⟩,λ ds M d y h=>?_⟩,λ f T=>?_⟩
  ·let⟨j,fd,F,i,t,_⟩:=hd e he
   refine⟨j,fd,F,i,F.kp,t,⟨λ vs H Q E h=>h.1,λ A outer s H args X vs Q E _ _ _ _ h=>?_⟩,λ ds M d y h=>?_⟩
   ·let⟨_,_,_,_,_,_,_,_,e,_⟩:=h
    exact(ai e).elim
   ·exact(ai h).elim
  ·let⟨_,_,_,_,_,_,_,_,e,_⟩:=h
   cases e
  ·cases h
  ·let⟨o,U,J,W⟩:=fG.ra f T
   let⟨j,fd,F,i,t,_⟩:=hd o U;rw[J]at i;refine⟨j,fd,o.ps,i,F.kp,t,⟨λ vs H Q E h=>h.1,λ A outer s H args X vs Q E _ _ _ _ h=>?_⟩,λ ds M r h=>?_⟩
   ·let⟨_,_,_,_,_,_,_,_,e,_⟩:=h
    cases e
   ·cases h
 |succ k ih =>
  let⟨LK,LJ,B⟩:=ih;refine⟨λ e he=>?_,⟨fr,U6,Y,V.kp,br,?_,λ ds M d y h=>?_⟩,λ f T=>?_⟩
  ·let⟨j,fd,F,i,t,G,hc,L⟩:=hd e he
   have kM:(dq (tabOf es) gl srt wh (k+1)).fn e.x=λ c=>(do need (c.length=e.ps.length);gN (dq (tabOf es) gl srt wh k) e.N.length e.b c:Mo D):=by
    funext c;show (match (tabOf es).lookup e.x with
     |some d=>(do need (c.length=d.p);gN (dq (tabOf es) gl srt wh k) d.n d.b c:Mo D)
     |none=>Mo.stop)=_
    rw[L]
   refine⟨j,fd,F,i,F.kp,t,?_,λ ds M d y h=>?_⟩
   ·refine F.ok (k:=k+2) G (λ vs H Q E h=>h.1) (λ u A outer s H vs Q E O h=>?_)
    obtain⟨hl,ι,M,y,ds,d,S,r,eq,kk⟩:=h;rw[kM]at eq;let⟨_,M0,e1,I⟩:=aa eq;let⟨hn,hM⟩:=aR e1;rw[hM]at I;let⟨f,M1,e2,l⟩:=aa I;refine⟨_,(nQ (sound (m k)) 200).Ss _ _ _ _ (FE gU fG hg hb LK LJ G j u A outer s H E O) (λ _=>rfl) hc,?_⟩;refine⟨ι,_,_,f,M1,S,om (N:=e.N) r,e2,λ H' z S' X'=>?_⟩;cases f with
    |nx ρ=>let⟨rfl,rfl⟩:=af l;exact λ σ _=>kk .non H' z .non S' X'
    |rt v=>let⟨rfl,rfl⟩:=af l;exact λ v' r'=>kk v' H' z r' S' X'
    |bk ρ=>exact(ai l).elim
    |ct ρ=>exact(ai l).elim
   ·rw[kM]at h
    let⟨_,_,e1,_⟩:=aa h;exact(aR e1).1
  ·exact Ej (k:=k+2) V Sr Zp XO fG.Z fG.hi fG.hv fG.nu (B "read_tree" (by decide))
  ·replace h:(match tK (dq (tabOf es) gl srt wh k).rz ds M with
    |some y=>(some (.ok (.bl true),y):Option (Out D×MH))
    |none=>none)=some (.ok d,y):=h
   cases q:tK (dq (tabOf es) gl srt wh k).rz ds M with
   |none=>rw[q]at h;cases h
   |some M1 =>
    unfold tK at q;split at q
    ·rfl
    ·cases q
  ·let⟨o,U,J,W⟩:=fG.ra f T
   let⟨j,fd,F,i,t,G,hc,L⟩:=hd o U;have hz:(dq (tabOf es) gl srt wh (k+1)).rz f=λ c M=>if c.length=o.ps.length then cu (dq (tabOf es) gl srt wh k) o.b (c.map some++yx (o.N.length-c.length) none) M else none:=by
    funext c M;show (match (tabOf es).lookup f with
     |some d=>if c.length=d.p then cu (dq (tabOf es) gl srt wh k) d.b (c.map some++yx (d.n-c.length) none) M else none
     |none=>none)=_
    rw[<- J,L]
   have rr:=GP (P:=P) (w:=w) (base:=base) (Γ:=dq (tabOf es) gl srt wh k) (k:=k+2) (zs:=nJ f) F G hc W fG.Z bI (C6 FI SI A3 fG.Z GF) (by omega) (sound (m k)) (λ g R=>by
    let⟨ra,rd,tI,m1,m2,m3,m4,m6⟩:=B g (OF R);exact⟨k+2,ra,rd,tI,m1,m2,m3,m4,zq _,m6⟩) (λ u A outer s H E O=>FE gU fG hg hb LK LJ G j u A outer s H E O)
   unfold mq;rw[hz];rw[J]at i;refine⟨j,fd,o.ps,i,F.kp,t,rr,λ ds M r h=>?_⟩;dsimp only at h;split at h
   ·assumption
   ·cases h
def Qr(c:∀k,kb (dq (tabOf es) gl srt wh k))(hd:∀e∈es,oC K mg es gls aQ e)(z:∀x∈gls,nF K mg gl x)(B:∀x∈aQ,mg x=none)(k:Nat){st:uV}{N:List Str}{o:uc}{fd:FuncData}(F:jv K "law" "law" st o fd)(G:bX N ["_law_script"] (ah st))
  {pre:List uV} {a b:Expr} {p:Nat->Pos} {t:aD} {n m:IE} {j:Nat} (AY:aG st=pre++KQ a b p) (hc:cw ⟨ah st,N,es.map (·.x),gls,aQ⟩ 200 pre=some t) (X:cE ⟨ah st,N,es.map (·.x),gls,aQ⟩ 200 a=some n) (AZ:cE ⟨ah st,N,es.map (·.x),gls,aQ⟩ 200 b=some m)
  (W:N[j]?=some ("_law_made":Str)) (U:(ah st).names.lookup ("_law_made":Str)=some .local) (g1:Sc.bz ⟨ah st,N,es.map (·.x),gls,aQ⟩ "BadTree" = true) (g2:Sc.bz ⟨ah st,N,es.map (·.x),gls,aQ⟩ "repr" = true) (g3:aQ.contains "repr" = true)
  (ja:∀(Γ:Ctx) ρ M,ag Γ n (ρ.set j none) M=ag Γ n ρ M) (V:∀(Γ:Ctx) ρ M,ag Γ m (ρ.set j none) M=ag Γ m ρ M) :
  dF P w K mg base gG (k+3) o fd ["_law_script"] (kx K 1 (λ xs=>(do need (xs.length=1);gN (dq (tabOf es) gl srt wh k) N.length (sY t (Ja n m)) xs:Mo D))):=by
 let⟨LK,LJ,_⟩:=Oe (P:=P) (w:=w) (base:=base) gU fG c hd z B k;let⟨Mm,R,pI,FI,bI,SI,A3,GF⟩:=fG.qU;refine F.ok (k:=k+2) G (λ vs H Q E h=>h.1) (λ q A outer s H vs Q E y h=>?_);obtain⟨hl,ι,M,M',ds,d,S,r,eq,u⟩:=h;let⟨_,M0,e1,l⟩:=aa eq;let⟨hn,Y⟩:=aR e1;rw[Y]at l;let⟨f,M1,e2,g⟩:=aa l;have C:=FE (e:=⟨"law",st,N,["_law_script"],.nil⟩) gU fG z B LK LJ G o q A outer s H E y;rw[AY];refine⟨_,CY (sound (c k)) C (λ _=>rfl) (JU (k:=1) (sound (c k)) C fG.Z bI (C6 FI SI A3 fG.Z GF) (y.mono (by omega)) rfl X AZ W U g1 g2 g3 (ja _) (V _)) 200 pre t hc,?_⟩;refine⟨ι,_,_,f,M1,S,om (N:=N) r,e2,λ L i J I=>?_⟩;cases f with
 |nx ρ=>let⟨rfl,rfl⟩:=af g;exact λ σ _=>u .non L i .non J I
 |rt v=>let⟨rfl,rfl⟩:=af g;exact λ O T=>u O L i T J I
 |bk ρ=>exact(ai g).elim
 |ct ρ=>exact(ai g).elim
end
def tU{K:Q_}{ι:List uc}{H:Hp}:∀ns:List Int,aB K ι H (ns.map D.int) (ns.map V.int)
 |[]=>.nil
 |n::r=>.cons (.int n) (tU r)
def TF{K:Q_}{H:Hp}{a:uc}{xs:List V}(b:FY H)(h:bx K H a xs):By K H a xs:=by
 rcases h with (h|h)|h
 ·rcases b a with z|⟨o,ys,z⟩
  ·rw[z]at h;cases h
  ·rw[z]at h;cases h
 ·exact .inl h
 ·exact .inr h
def Pb{K:Q_}{H:Hp}{a:uc}{ns:List Int}{g:List D->Mo D}{E:XK}(f:FY H)(d:bx K H a (ns.map V.int))(c:∃M',g [.fl (ns.map .int)] []=some (.ok (.bl true),M')):kx K 1 g [.ref a] H (λ v _=>v=.bl true) E:=by
 let⟨M',e⟩:=c;refine⟨rfl,[],[],M',_,_,⟨rfl,λ i j a h=>by simp at h,λ i a o h=>by simp at h⟩,.cons (.fl (TF f d) (tU ns)) .nil,e,λ v k b r _ _=>?_⟩;cases r;rfl
section
variable {X:Cx}{XV:List (uc×Obj)}{σ:St}{H:Hp}{s:kt}{ι:List uc}{M:MH}
def DZ:∀{xs:List Str} {vs:List V} {us:List jp},aB X.K ι H (xs.map .str) vs->Vals vs us->StrsAre us xs
 |[],_,_,.nil,.nil=>.nil
 |x::xs,_,_,.cons r t,.cons g k=>by
  cases r;let⟨a,rfl⟩:=g;exact .cons x a (DZ t k)
def oN:∀{xs:List Str} {us:List jp},StrsAre us xs->Vals (xs.map V.str) us/\aB X.K ι H (xs.map .str) (xs.map V.str)
 |_,_,.nil=>⟨.nil,.nil⟩
 |_,_,.cons x t h=>⟨.cons ⟨t,rfl⟩ (oN h).1,.cons (.str x) (oN h).2⟩
def tJ:∀{p:Str} {l:List Str},risingS p l=true->(p::l).Pairwise λ a b=>kF a b=true
 |p,[],_=>List.pairwise_singleton _ _
 |p,x::r,h=>by
  have h:(!ltCps x.cps.toList p.cps.toList&&risingS x r)=true:=h;rw[zt,ltCps_eq]at h;have d:=tJ h.2;refine List.pairwise_cons.mpr ⟨λ b c=>?_,d⟩;rcases zd.mp c with rfl|c
  ·exact h.1
  ·exact tN _ _ _ h.1 (List.rel_of_pairwise_cons d c)
def GA(h:sortedS l=true):l.Pairwise λ a b=>kF a b=true:=by
 cases l with
 |nil=>exact .nil
 |cons x r=>exact tJ h
def D4(I:Inv X XV σ H s)(p:H l=some (.lst vs))(r:aB X.K ι H (xs.map .str) vs)(G:xs.length<64) 
  (q:∀(ws:List V) (k:kt),aB X.K ι H ((gL xs).map .str) ws->Inv X XV σ (upd H l (.lst ws)) k->Q .none k):wpAny (model X.prog X.w) A (call (.builtin "list.sort") [.ref l]) Q E s:=by
 let⟨J,a,n,m,g⟩:=I.hok l _ p;have hlen:xs.length=a.length:=by rw[<- m.length,<- r.length,zy]
 have d:a.length<64:=by rw[<- hlen];exact G
 refine wpAny_call_entry slot_list_sort ⟨_,g,rfl⟩ entry_list_sort ?_ (args_list_sort _);have h:=DZ r m;refine list_sort_treeK strKind_oneLt g h.keysOf (λ j i rest e=>keyKind_strs (by rw[<- e];exact h)) d λ f v u=>?_;let⟨t,C,B,z⟩:=sorted_out_str h v u;have e:=qD B (GA z);subst e;let⟨F,D⟩:=oN (X:=X) (H:=H) (ι:=ι) C;let⟨c,hc⟩:=sortedHeap_at (out:=(arrOf f).map (·.2)) g;refine⟨_,rfl,q _ _ D (I.write (x:=l) (e:=l) (t':=s.toks) (by rw[p];trivial) (.inl rfl) (λ b o y e=>by rw[sortedHeap_old y (zg e)];exact e) ⟨_,hc⟩ ⟨by rw[zy,(jT xs).length_eq,sizeLine_eq];omega,_,c,F,hc⟩)⟩
def Inv.drew(I:Inv X XV σ H s)(d:Drawn):Inv X XV σ H { s with drawn:=d }:=by
 cases I
 constructor <;> assumption
def MY:∀{ds:List D} {vs:List V} {us:List jp} {xs:List Str} {ι:List uc},aB X.K ι H ds vs->Vals vs us->fv ds=some xs->StrsAre us xs:=λ r g h=>by
 have:=DB h
 subst this;exact DZ r g
abbrev VG(X:Cx):List V->Hp->VK->Prop:=λ b H Q=>∃p vs ι ds a,b=[.ref p]/\bx X.K H p vs/\aB X.K ι H ds vs/\fv ds=some a/\(au [] a).length<64/\∀q,H q=none->Q (.ref q) (upd H q (.ext λ h=>SSet X.prog X.w h q (au [] a) (aZ X.w)))
def Ip(hc:X.calm=true):dH X (.type "set") (VG X):=by
 intro XV s σ H t v Q I g h;obtain⟨p,vs,ι,ds,d,rfl,n,r,q,y,k⟩:=h;let⟨u,rfl,i⟩:=vals1 g;cases i;let⟨m,a,j,z⟩:=I.list n;have b:=MY r a q;refine ux (I.ok.hd hc) j.isList b (by unfold scanBound;omega) λ C f c l=>?_;refine⟨.ref s.heap.objs.size,_,I.laid (t':=f) (o:=.ext λ h=>SSet X.prog X.w h s.heap.objs.size (au [] d) (aZ X.w)) l (zq _) ?_,rfl,k _ (I.hok.fresh (zq _))⟩;exact⟨c,by let⟨o,_,_,_,e,_⟩:=c;exact⟨o,e⟩,λ B A x k=>x.at k⟩
def Bp(hc:X.calm=true)(hu:X.A.units+100<cLine):dH X (.builtin "sorted") (λ xs H Q=>∃p ts ι M,xs=[.ref p]/\H p=some (.ext λ h=>SSet X.prog X.w h p ts (aZ X.w))/\aO X.K ι M H/\ts.length<64 /\
  ∀v j c,Rep X.K c j (.ob M.length) v->aO X.K c (M++[.lst ((gL ts).map .str)]) j->Ext X.K ι H c j->Q v j):=by
 intro XV s σ H xs T Q I y h;obtain⟨p,ts,ι,M,rfl,F,S,N,k⟩:=h;let⟨u,rfl,z⟩:=vals1 y;cases z;let⟨G,_,_⟩:=I.hok p _ F;refine Calls.call_function_entry kind_sorted plain_sorted entry_sorted (args_sorted1 _) ?_;unfold Builtin.«sorted»;refine zw (m:=checkCount "sorted" 1 1 _) (zo ?_);refine zw (Cd (A:=X.A.in1) (I.ok.hd hc) G λ a g d vs f D l n=>?_);have x:Inv X XV σ H { s with heap:=a,toks:=g,drawn:=d }:=Inv.drew (I.kept (t':=g) D) d;let⟨t,J⟩:=oN (X:=X) (H:=H) (ι:=ι) l;have B:f.length<64:=by rw[n.length_eq];exact N
 have C:vs.length=f.length:=by rw[<- t.length,zy]
 have E:(f.map V.str).length<=zi:=by rw[zy,sizeLine_eq];omega
 refine zw (wpAny_newList ?_ (by rw[C,sizeLine_eq];omega));have fr:H a.objs.size=none:=x.hok.fresh (zq _);have R:Inv X XV σ (upd H a.objs.size (.lst (f.map V.str))) { s with heap:=a.push { cls:=.type "list",data:=.seq vs.toArray },toks:=g,drawn:=d } :=
  x.laid (t':=g) (λ b o e=>zv _ e) (zq _) ⟨E,vs,0,t,zC _ rfl⟩
 have P:=J.mono (Ext.dU (K:=X.K) (ι:=ι) (ho:=.lst (f.map V.str)) fr);refine zw (wpAny_holding (D4 (ι:=ι) R aV P B λ ws' U q r=>?_));refine zo ⟨_,rfl,?_⟩;rw[rT]at r;rw[D6 n]at q;have L:Ext X.K ι H (ι++[a.objs.size]) (upd H a.objs.size (.lst ws')):=Ext.new fr;have W:Ext X.K ι (upd H a.objs.size (.lst (f.map V.str))) ι (upd (upd H a.objs.size (.lst (f.map V.str))) a.objs.size (.lst ws')):=Ext.write aV (uD _);rw[rT]at W;have O:aB X.K (ι++[a.objs.size]) (upd H a.objs.size (.lst ws')) ((gL ts).map .str) ws':=q.mono { W with pre:=λ i b e=>(by rw[zK (zz.mp e).1];exact e) };exact⟨.ref a.objs.size,_,r,rfl,k _ _ _ (.ob (by rw[<- S.len,zA (zq _),yc];rfl)) (S.new fr ⟨ws',rfl,O⟩) L⟩
end
def Sq:RX Γ:=by
 intro S X f b p1 E D p4 fb C h r L;rwa[zt,beq_iff_eq]at h;obtain⟨⟨⟨⟨V,U⟩,T⟩,P⟩,O,N⟩:=h;subst V;let⟨G,o2,F⟩:=cb U;have ps:=i9 (X:=X) (p:=E) (pos:=D) (Ip C.calm) (C.bz O) (C.aQ _ (aK N)) j_ (aM L bU (az r)) (by decide) (by decide) (az r) rfl;refine PE.imp (dW (Bp C.calm C.hu) (C.bz T) (C.aQ _ (aK P)) PyProof.Rows.boot_sorted (aM ps bU) F G) λ σ H Q q=>?_;obtain⟨ι,ρ,M,d,M',S',R,e,k⟩:=q;let⟨x,y,e1,e⟩:=aa e;refine⟨ι,ρ,M,x,y,S',R,e1,λ z i a A u X1=>?_⟩;let⟨ds,M2,n,ea⟩:=aa e;have fact:M2=y/\∃p vs,z=.ref p/\bx X.K i p vs/\aB X.K a i ds vs:=by
  cases A with
  |fl t q=>let⟨rfl,rfl⟩:=af n;exact⟨rfl,_,_,rfl,t.seq,q⟩
  |ob t =>
   let⟨g,rfl⟩:=cH n;let⟨p,ws,Z,g2,Y,W⟩:=aY u (.ob t) g;exact⟨rfl,p,ws,Z,bx.of Y,W⟩
  |_=>exact(ai n).elim
 let⟨rfl,p,vs,rfl,J,I⟩:=fact;let⟨l,M3,e3,eb⟩:=aa ea;let⟨hx,rfl⟩:=bh e3;let⟨_,M4,e4,ec⟩:=aa eb;let⟨s,rfl⟩:=aR e4;let⟨rfl,rfl⟩:=oQ ec;refine⟨p,vs,a,ds,l,rfl,J,I,hx,s,λ m c=>?_⟩;have X2:Ext X.K a i a (upd i m (.ext λ h=>SSet X.prog X.w h m (au [] l) (aZ X.w))):=Ext.dU c;exact⟨m,au [] l,a,_,rfl,aV,u.dU c,s,λ v H' j B o X'=>k v H' j B o ((X1.trans X2).trans X')⟩
abbrev uC:List D->Option (List D):=λ _=>none
def Pa(h:Γ.srt=uC):kb Γ:=by
 refine⟨?_,?_,Sq,trivial,trivial⟩
 ·trivial
 ·intro S X f a l j p C m n o u s σ H Q I q
  exfalso;obtain⟨ι,ρ,M,d,A,v,R,e,k⟩:=q
  let⟨x,z,e1,g⟩:=aa e;let⟨ds,y,t,c⟩:=aa g;let⟨i,w,b,r⟩:=aa c;rw[h]at b;cases b
open PySem PySem.Spec PySem.Calls PyProof.Rows L2
abbrev bB(h:Heap):Q_:=(List.range h.objs.size).filterMap λ a=>(h.get? a).map λ o=>(a,o)
def ma{h:Heap}{a:uc}:∀l:List Nat,(l.filterMap λ a=>(h.get? a).map λ o=>(a,o)).lookup a=if a∈l then h.get? a else none
 |[]=>rfl
 |b::l=>by
  rw[yB];by_cases e:a=b
  ·subst e
   rw[if_pos (zI ..)];cases g:h.get? a with
   |none =>
    rwa[vg];rw[ma l,g];split <;> rfl
   |some o=>rwa[xr,List.lookup_cons_self]
  ·have d:(a==b)=false:=by simpa using e
   have c:(a∈b::l)=(a∈l):=by simp[e]
   rwa[c];cases g:h.get? b with
   |none=>rwa[vg];exact ma l
   |some o=>rwa[xr,yf,d];exact ma l
def eJ(e:h.get? a=some o):(bB h).lookup a=some o:=by
 unfold bB;rw[ma,if_pos,e];rw[xK];unfold Heap.get? at e;by_cases q:a<h.objs.size
 ·exact q
 ·rw[xi (yP q)]at e
  simp at e
def J5(h:Heap):(bB h).In h:=by
 intro a o e;unfold bB at e;rw[ma]at e;split at e
 ·exact e
 ·cases e
def pw(c:h.CodeRec cd x):K_ (bB h) cd x=true:=by
 let⟨c,o,vs,t,rfl,e,d,v⟩:=c;have a:=eJ e;let⟨g,f,i,b⟩:=o;cases d;unfold K_;rwa[a];rw[<- wc]at v;cases q:vs.toList with
 |nil=>rw[q]at v;cases v
 |cons y r =>
  cases r with
  |nil=>rw[q]at v;cases v
  |cons z r =>
   rw[q]at v;cases v;simp
abbrev RH:uV->Pos
 |.FunctionDef _ _ _ _ _ _ _ _ _ a=>a
 |_=>⟨0,0,0,0⟩
abbrev qb(x:Str)(st:uV):DefRec:=⟨x,bL st,aG st,ah st,RH st⟩
section
variable {q:uf}{lo:List Str}{gR:ExcName->Option jp}{mg mb:Str->Option jp}{h:Heap}{es:List Ent}{gls aQ:List Str}{gl:Str->Option D}
def oC.Qn(T:Top q lo gR mg mb h){d:List DefRec}(j:recsOf q=d)(i:Nat){e:Ent}(k:d[i]?=some (qb e.x e.st))
  (m:∀(kV c f:jp) (t:Option uc) (cdv ct:jp) (us:List jp),us.length=e.ps.length->bindArgs (Z_ e.x e.x (bL e.st) (aG e.st) (ah e.st) .none kV c f t cdv ct) ⟨us,[]⟩=pure (e.ps.zip us))
  (S:bX e.N e.ps (ah e.st)) (hc:cw ⟨ah e.st,e.N,es.map (·.x),gls,aQ⟩ 200 (aG e.st)=some e.b) (g:(tabOf es).lookup e.x=some ⟨e.N.length,e.ps.length,e.b⟩):oC (bB h) mg es gls aQ e:=by
 let⟨a,o,f,code,c,s,r,p,n⟩:=T.fn _ (zl (j▸k));let⟨w,v,y,u⟩:=o;cases p;have l:=eJ r;have F:jv (bB h) e.x e.x e.st a _:=rC (st:=e.st) (cdv:=code) l (pw n) (by unfold X_;rwa[l]);exact⟨a,_,F,s,F.binds m,S,hc,g⟩
def nF.VC(T:Top q lo gR mg mb h)(hv:valOf q x=some (.str s))(a:gl x=some (.str s)):nF (bB h) mg gl x:=by
 let⟨v,c,b⟩:=T.const x _ hv;cases b h;exact⟨.str s,_,.str s,a,c,⟨_,rfl⟩,λ _ _=>.str s⟩
def nF.VU(T:Top q lo gR mg mb h)(hv:valOf q x=some (.int i))(a:gl x=some (.int i)):nF (bB h) mg gl x:=by
 let⟨v,c,b⟩:=T.const x _ hv;cases b h;exact⟨.int i,_,.int i,a,c,⟨_,rfl⟩,λ _ _=>.int i⟩
abbrev Mk(q:uf)(lo aQ:List Str):Bool:=aQ.all λ x=>!(startupNames.contains x||lo.contains x||((recsOf q).map (·.name)).contains x||((litsOf q).map (·.1)).contains x||((clssOf q lo).map (·.name)).contains x)
def oZ(T:Top q lo gR mg mb h)(e:Mk q lo aQ=true):∀x∈aQ,mg x=none:=by
 intro x hx
 have:=yw.mp e x hx
 rwa[yn,Bool.or_eq_false_iff,List.contains_eq_mem,decide_eq_false_iff_not]at this;obtain⟨⟨⟨⟨f,d⟩,c⟩,b⟩,a⟩:=this;exact T.free x f d c b a
def Od(d:h.Ns mainGlobals mg)(g:tf x ks w h):∃a,mg x=some (.ref a)/\DH (bB h) P w a ks:=by
 let⟨a,e,c,g⟩:=g;let⟨vs,b,o,es,m,ho,r⟩:=g P;refine⟨a,?_,c,vs,m,b,λ p hi=>⟨o,es,hi a o (eJ ho),r⟩⟩;let⟨n,k,l,j,i,_,f⟩:=d;rw[<- e,<- f x];unfold vB;rw[j];dsimp only;rw[i]
variable {P:uf}{w:ul}(gU:∀x,mi x=true->∃a d ks,gl x=some d/\lR d=some ks/\mg x=some (.ref a)/\DH (bB h) P w a ks)
include gU
omit gU in
def MD{w:ul}{st:uV}(n:h.Ns mainGlobals mg)(z:Bw st w h):∃C D i,ZK (bB h) mg C D i/\∃m od p j l cdv,h.get? i=some ⟨m,od,.func (Z_ "__init__" "BadTree.__init__" (bL st) (aG st) (ah st) .none .none j l none cdv .none),p⟩/\h.CodeRec cdv "BadTree.__init__":=by
 let⟨C,D,i,c,d,zh,ot,f⟩:=z;have e:=n.eq_nsMap;have k:∀g:Heap,(bB h).In g->∀b o,h.get? b=some o->g.get? b=some o:=λ g hi b o q=>hi b o (eJ q);refine⟨C,D,i,⟨by rw[e];exact c,by rw[e];exact d,λ g hi=>zh.keeps (k g hi),λ x hx=>?_⟩,f⟩;let⟨B,v,u,t,o,cd,s,r⟩:=ot x hx;exact⟨B,by rw[e];exact v,u,t,λ g hi=>⟨o,cd,k g hi _ _ s,r⟩⟩
omit gU in
def IF.Qn{w:ul}{c:uV}(T:Top q lo gR mg mb h)(Y:Bw c w h){r:List DefRec}(B:recsOf q=r)(i:Nat){st:uV}(E:r[i]?=some (qb "_law_refused" st)){p pI:Nat->Pos}
  (G:∀(kV j m:jp) (n:Option uc) (cdv ct:jp) (us:List jp),us.length=2->bindArgs (Z_ "_law_refused" "_law_refused" (bL st) (aG st) (ah st) .none kV j m n cdv ct) ⟨us,[]⟩=pure (lN.zip us))
  (U:∀(kV j m:jp) (n:Option uc) (cdv ct:jp) (us:List jp),us.length=3->bindArgs (Z_ "__init__" "BadTree.__init__" (bL c) (aG c) (ah c) .none kV j m n cdv ct) ⟨us,[]⟩=pure ((["self","row","at"]:List Str).zip us))
  (S:bX pH lN (ah st)) (R:aG st=nR p) (sc:qr (ah st)) (O:bX ["self","row","at"] ["self","row","at"] (ah c)) (N:aG c=oq pI) (Q:∀x∈(["self","row","at"]:List Str),(ah c).names.lookup x=some .local)
  (hi:mg "isinstance" = none) (hv:mg "ValueError" = none) (nu:mg "repr" = none) (ra:∀f∈qG,∃e∈es,e.x=f/\eG (nJ f) 200 (aG e.st) e.b=true):∃C D fI,IF (bB h) mg es C D fI:=by
 let⟨C,D,fI,Z,A,z,s,u,y,k,M,L⟩:=MD T.g Y;let⟨a,o,m,code,j,K,J,I,H⟩:=T.fn _ (zl (B▸E));let⟨X,W,da,V⟩:=o;cases I;have l:=eJ J;have F:jv (bB h) "_law_refused" "_law_refused" st a _:=rC (st:=st) (cdv:=code) l (pw H) (by unfold X_;rwa[l]);have t:=eJ M;have v:jv (bB h) "__init__" "BadTree.__init__" c fI _:=rC (st:=c) (cdv:=k) t (pw L) (by unfold X_;rwa[t]);exact⟨C,D,fI,Z,hi,hv,nu,⟨_,c,pI,v,v.binds U,O,N,Q⟩,⟨a,_,st,p,F,K,F.binds G,S,R,sc⟩,ra⟩
def NZ{C Dd Y:uc}(Z:IF (bB h) mg es C Dd Y){srt:List D->Option (List D)}{wh:Nat}(f:∀k,kb (dq (tabOf es) gl srt wh k))(hd:∀e∈es,oC (bB h) mg es gls aQ e)(K:∀x∈gls,nF (bB h) mg gl x)(L:∀x∈aQ,mg x=none)(k:Nat)
  (T:Top q lo gR mg mb h) {y:List DefRec} (H:recsOf q=y) (i:Nat) {st:uV} {N:List Str} (I:y[i]?=some (qb "law" st)) (Q:bX N ["_law_script"] (ah st))
  {pre:List uV} {a b:Expr} {p:Nat->Pos} {A:aD} {n m:IE} {j:Nat} (AY:aG st=pre++KQ a b p) (hc:cw ⟨ah st,N,es.map (·.x),gls,aQ⟩ 200 pre=some A) (O:cE ⟨ah st,N,es.map (·.x),gls,aQ⟩ 200 a=some n) (AZ:cE ⟨ah st,N,es.map (·.x),gls,aQ⟩ 200 b=some m)
  (J:N[j]?=some ("_law_made":Str)) (E:(ah st).names.lookup ("_law_made":Str)=some .local) (X:Sc.bz ⟨ah st,N,es.map (·.x),gls,aQ⟩ "BadTree" = true) (W:Sc.bz ⟨ah st,N,es.map (·.x),gls,aQ⟩ "repr" = true) (V:aQ.contains "repr" = true)
  (ja:∀(Γ:Ctx) ρ M,ag Γ n (ρ.set j none) M=ag Γ n ρ M) (G:∀(Γ:Ctx) ρ M,ag Γ m (ρ.set j none) M=ag Γ m ρ M)
  (t:∀(kV c g:jp) (v:Option uc) (cdv ct u:jp),bindArgs (Z_ "law" "law" (bL st) (aG st) (ah st) .none kV c g v cdv ct) ⟨[u],[]⟩=pure [(("_law_script":Str),u)]) {z:uc} (QZ:mg "law" = some (.ref z)) :
  ∃fd:FuncData,(∀(s:kt) (u:jp),BindsTo s fd ⟨[u],[]⟩ [("_law_script",u)])/\∀base:Heap,(bB h).In base->base.Ns mainGlobals mg->dF P w (bB h) mg base gG (k+3) z fd ["_law_script"] (kx (bB h) 1 (λ xs=>(do need (xs.length=1);gN (dq (tabOf es) gl srt wh k) N.length (sY A (Ja n m)) xs:Mo D))):=by
 let⟨B,o,g,code,c,r,U,S,R⟩:=T.fn _ (zl (H▸I));let⟨oc,od,da,sl⟩:=o;cases S;have l:=eJ U;have F:jv (bB h) "law" "law" st B _:=rC (st:=st) (cdv:=code) l (pw R) (by unfold X_;rwa[l]);have r:mg "law" = some (.ref B):=r;rw[QZ]at r;cases r;refine⟨_,λ s u=>?_,λ base _ _=>Qr (P:=P) (w:=w) (base:=base) gU Z f hd K L k F Q AY hc O AZ J E X W V ja G⟩;let⟨_,_,kV,c,g,v,cdv,ct,_,e,_⟩:=F.ex;rw[e];exact .of_eq (t kV c g v cdv ct u)
end
def Sk{l:PySem.W.OpenLaw}{q:uf}{loose:List Str}{XP:(Str->Option jp)->Heap->Prop}{YP:ul->Heap->Prop}{d:DefRec}{x:Str}{k:Nat}{g:List D->Mo D}(p:cF k callerA)(n:l.most=some 63)(E:d.params.defaults=[])
  (r:∀ns:List Int,ns.length<=63->∃M',g [.fl (ns.map .int)] []=some (.ok (.bl true),M'))
  (F:∀(w:ul) (B:ExcName->Option jp) (mg e:Str->Option jp) (c:uc) (h:Heap),Top q (PySem.W.looseW q loose) B mg e h->YP w h->mg d.name=some (.ref c) ->
   ∃fd:FuncData,(∀(s:kt) (u:jp),BindsTo s fd ⟨[u],[]⟩ [(x,u)])/\∀base:Heap,(bB h).In base->base.Ns mainGlobals mg->dF l.prog w (bB h) mg base gG k c fd [x] (kx (bB h) 1 g)) :
  PySem.W.WalkO q loose XP YP l.row.toRowW d [] (λ f vs=>PySem.call f vs):=by
 refine Vr.Cf n E λ w s₀ j mg e c o J cd C a vs ns G Y ho hd K m I hints hlen i=>?_;let⟨fd,t,A⟩:=F w _ mg e c _ G.T Y m;exact JV (J5 _) G.T.g G.T.b G.T.builtins G.T.nolimit i I hints (zG hlen (by decide)) p A t (λ H y v=>Pb y v (r ns hlen)) λ _ _ _ z=>z
open PySem PySem.Spec PyProof.Rows L2
def Hd:∀{ps:List Str} {us:List jp} (x:Str),x∈ps->us.length=ps.length->((ps.zip us).lookup x).isSome=true
 |p::ps,u::us,x,h,l=>by
  rw[yY,yf];by_cases e:x=p
  ·simp[e]
  ·have:=Hd x ((zd.mp h).resolve_left e) (Nat.succ.inj l)
   simpa [zzF.mpr e] using this
def Dn{p:Str}{u:jp}{l:List (Str×jp)}:∀qs:List Str,p ∉ qs->(qs.filterMap λ n=>(((p,u)::l).lookup n).map (n,·))=qs.filterMap λ n=>(l.lookup n).map (n,·)
 |[],_=>rfl
 |q::qs,h=>by
  have h:p≠q/\p ∉ qs:=not_or.mp λ x=>h (zd.mpr x);rw[yB,yB,Dn qs h.2,yf,zzF.mpr (Ne.symm h.1)]
def HS:∀(ps:List Str) (us:List jp),ps.Nodup->us.length=ps.length->(ps.filterMap λ n=>((ps.zip us).lookup n).map (n,·))=ps.zip us
 |[],_,_,_=>by simp
 |p::ps,u::us,nd,l=>by
  have nd:=yZ.mp nd;rw[yY,List.filterMap_cons_some (b:=(p,u)) (by simp),Dn ps nd.1,HS ps us nd.2 (Nat.succ.inj l)]
def Kq(h:fd.params.posonlyargs=[]/\fd.params.args.map Arg.arg=ps/\fd.params.kwonlyargs=[]/\fd.params.vararg=none/\fd.params.kwarg=none)(hd:fd.defaults=.none)(nd:ps.Nodup)(us:List jp)(i:us.length=ps.length):bindArgs fd ⟨us,[]⟩=pure (ps.zip us):=by
 let⟨m,f,l,k,j⟩:=h;have e:ps.filter (λ n=>((ps.zip us).lookup n).isNone)=[]:=List.filter_eq_nil_iff.mpr λ x hx=>by
  have:=Hd x hx i
  revert this;cases (ps.zip us).lookup x <;> simp
 let⟨n,q,p,b,sc,g,c,u⟩:=fd;let⟨t,a,s,r,o⟩:=p;cases m;cases l;cases k;cases j;cases hd;have f:a.map Arg.arg=ps:=f;have d:¬ (decide (us.length > (a.map Arg.arg).length)&&true)=true:=by rw[i,f];simp
 refine(if_neg d).trans ?_;refine(if_neg ?_).trans ?_
 ·show ¬ (!(List.filter (λ n=>(((a.map Arg.arg).zip us).lookup n).isNone) ((a.map Arg.arg).take ((a.map Arg.arg).length-(List.drop (0-(a.map Arg.arg).length) ([]:List jp)).length))).isEmpty)=true
  rw[vD,f,zT,wo,zM,e];exact zn
 ·show (forIn (List.zip (List.drop _ _) (List.drop (0-(a.map Arg.arg).length) ([]:List jp))) ((a.map Arg.arg).zip us) _ >>= _)=_
  rw[vD,List.zip_nil_right];show (pure (((a.map Arg.arg)++[]).filterMap λ n=>(((a.map Arg.arg).zip us).lookup n).map (n,·)):Sem (List (Str×jp)))=_;rw[zO,f,HS _ _ nd i]
abbrev U5(s:uV):Str:=match s with
 |.FunctionDef n _ _ _ _ _ _ _ _ _=>n
 |_=>""
abbrev EE(s:uV)(x:List Str)(b:aD):Ent:=⟨U5 s,s,(bL s).args.map Arg.arg++x,(bL s).args.map Arg.arg,b⟩
abbrev CH(e:Ent):Bool:=(decide ((ah e.st).kind=.function)&&!(ah e.st).isCoroutine&&!(ah e.st).isGenerator)&&(decide e.N.Nodup&&decide (e.N.take e.ps.length=e.ps))&&(e.ps.all (λ x=>decide ((ah e.st).names.lookup x=some .local\/(ah e.st).names.lookup x=some .cell))&&(ah e.st).names.all λ y=>decide (y.2≠.free)) &&
 ((bL e.st).posonlyargs.isEmpty&&decide ((bL e.st).args.map Arg.arg=e.ps)&&(bL e.st).kwonlyargs.isEmpty&&(bL e.st).vararg.isNone&&(bL e.st).kwarg.isNone)
def Lb(h:CH e=true):bX e.N e.ps (ah e.st):=by
 unfold CH at h;rwa[zt,zzC,yn,yw]at h;obtain⟨⟨⟨⟨⟨a,b⟩,c⟩,d,f⟩,g,i⟩,_⟩:=h;exact⟨a,b,c,d,f,g,i⟩
def Sx(h:CH e=true)(kV g i:jp)(k:Option uc)(cdv ct:jp)(us:List jp)(j:us.length=e.ps.length):bindArgs (Z_ x q (bL e.st) (aG e.st) (ah e.st) .none kV g i k cdv ct) ⟨us,[]⟩=pure (e.ps.zip us):=by
 have S:=Lb h;unfold CH at h;rwa[zt,zzC,wz,yS]at h;obtain⟨_,⟨⟨⟨a,b⟩,c⟩,d⟩,f⟩:=h;exact Kq ⟨a,b,c,d,f⟩ rfl (S.pre▸S.nd.sublist (wR _ _)) us j
section
variable {q:uf}{lo:List Str}{gR:ExcName->Option jp}{mg mb:Str->Option jp}{h:Heap}{es:List Ent}{gls aQ:List Str}
def Kj(T:Top q lo gR mg mb h){a:List DefRec}(d:recsOf q=a)(g:es.all CH=true)(is:List Nat)(f:is.map (λ i=>a[i]?)=es.map λ e=>some (qb e.x e.st))(hc:es.map (λ e=>cw ⟨ah e.st,e.N,es.map (·.x),gls,aQ⟩ 200 (aG e.st))=es.map λ e=>some e.b)
  (c:es.map (λ e=>(tabOf es).lookup e.x)=es.map λ e=>some ⟨e.N.length,e.ps.length,e.b⟩):∀e∈es,oC (bB h) mg es gls aQ e:=λ e he=>by
 have m:some (qb e.x e.st)∈is.map λ i=>a[i]?:=f▸yl.mpr ⟨e,he,rfl⟩;let⟨i,_,hi⟩:=yl.mp m;have s:=yw.mp g e he;exact oC.Qn T d i hi (Sx s) (Lb s) (wX.mp hc e he) (wX.mp c e he)
def R9{ys:List Str}(h:ys.all (λ y=>es.any λ e=>e.x==y&&eG (nJ y) 200 (aG e.st) e.b)=true):∀y∈ys,∃e∈es,e.x=y/\eG (nJ y) 200 (aG e.st) e.b=true:=λ y a=>by
 let⟨e,he,h⟩:=xu.mp (yw.mp h y a);rwa[zt,beq_iff_eq]at h;exact⟨e,he,h⟩
abbrev Rn(q:uf)(gl:Str->Option D)(x:Str):Bool:=match valOf q x with
 |some v=>(match gl x with
  |some d=>(match v with
   |.str s=>decide (D0 d=some s)
   |.int i=>decide (intD d=some i)
   |_=>false)
  |none=>false)
 |none=>false
def Rm(T:Top q lo gR mg mb h){gl:Str->Option D}{xs:List Str}(e:xs.all (Rn q gl)=true):∀x∈xs,nF (bB h) mg gl x:=λ x hx=>by
 have e:=yw.mp e x hx;unfold Rn at e;split at e
 ·rename_i v hv
  split at e
  ·rename_i d hd
   split at e
   ·have e:=zzD e
    cases d <;> cases e;exact nF.VC T hv hd
   ·have e:=zzD e
    cases d <;> cases e;exact nF.VU T hv hd
   ·cases e
  ·cases e
 ·cases e
end
open PySem
def EC:∀c a b ρ,ag Γ (.bin c a b) ρ=(do let x<-ag Γ a ρ;let y<-ag Γ b ρ;fj c x y):=λ _ _ _ _=>rfl
def EA:∀c a b ρ,ag Γ (.cmp c a b) ρ=(do let x<-ag Γ a ρ;let y<-ag Γ b ρ;let k<-cq c x y;pure (.bl k)):=λ _ _ _ _=>rfl
def BW:∀e d a b c ρ,ag Γ (.cmp2 e d a b c) ρ=(do
  let x<-ag Γ a ρ
  let y<-ag Γ b ρ
  let k<-cq e x y
  if k=true then do let z<-ag Γ c ρ;let k'<-cq d y z;pure (.bl k') else pure (.bl false)):=λ _ _ _ _ _ _=>rfl
def ED:∀a b ρ,ag Γ (.and a b) ρ=(do let x<-ag Γ a ρ;let k<-lift (bS x);if k=true then ag Γ b ρ else pure (.bl false)):=λ _ _ _=>rfl
def GQ:∀a b ρ,ag Γ (.or a b) ρ=(do let x<-ag Γ a ρ;let k<-lift (bS x);if k=true then pure (.bl true) else ag Γ b ρ):=λ _ _ _=>rfl
def Et:∀a ρ,ag Γ (.not a) ρ=(do let x<-ag Γ a ρ;let k<-lift (bS x);pure (.bl (!k))):=λ _ _=>rfl
def Ey:∀c a b ρ,ag Γ (.ifE c a b) ρ=(do let k<-bT Γ c ρ;if k=true then ag Γ a ρ else ag Γ b ρ):=λ _ _ _ _=>rfl
def En{Γ:Ctx}:∀es ρ,ag Γ (.tup es) ρ=(do let xs<-bR Γ es ρ;need (xs.length<=zi);pure (.tup xs)):=λ _ _=>rfl
def Ex{Γ:Ctx}:∀es ρ,ag Γ (.lst es) ρ=(do let xs<-bR Γ es ρ;need (xs.length<=zi);cv (.lst xs)):=λ _ _=>rfl
def Ez:∀a b ρ,ag Γ (.idx a b) ρ=(do let x<-ag Γ a ρ;let y<-ag Γ b ρ;gW x y):=λ _ _ _=>rfl
def Eo:∀a lo hi ρ,ag Γ (.slc a lo hi) ρ=(do let x<-ag Γ a ρ;let l<-mJ Γ lo ρ;let h<-mJ Γ hi ρ;i6 x l h):=λ _ _ _ _=>rfl
def pK:∀f es ρ,ag Γ (.call f es) ρ=(do let xs<-bR Γ es ρ;Γ.fn f xs):=λ _ _ _=>rfl
def EB:∀b es ρ,ag Γ (.blt b es) ρ=(do let xs<-bR Γ es ρ;fR b xs):=λ _ _ _=>rfl
def BV{Γ:Ctx}:∀j it c e ρ,ag Γ (.comp j it c e) ρ=(do
  let s<-iu Γ it ρ
  need (s.ds.length<=zi)
  let ys<-eT s.ck (jU Γ c) (ag Γ e) (ρ.set j none) s.ds
  cv (.lst ys)):=λ _ _ _ _ _=>rfl
def Ac:∀a ρ,ag Γ (.sortL a) ρ=(do
  let x<-ag Γ a ρ
  let ds<-Av x
  let ys<-lift (Γ.srt ds)
  cv (.lst ys)):=λ _ _=>rfl
def BS:∀a ρ,ag Γ (.intB a) ρ=(do let x<-ag Γ a ρ;let i<-lift (iQ x);pure (.int i)):=λ _ _=>rfl
def BP:∀a ρ,ag Γ (.strI a) ρ=(do let x<-ag Γ a ρ;let s<-lift (mF x);pure (.str s)):=λ _ _=>rfl
def Er:∀a ρ,ag Γ (.rep a) ρ=(do let x<-ag Γ a ρ;oG x):=λ _ _=>rfl
def Eu{Γ:Ctx}:∀a ρ,ag Γ (.neg a) ρ=(do
  let x<-ag Γ a ρ
  (match x with
  |.int i=>pure (.int (-i))
  |_=>Mo.stop)):=λ _ _=>rfl
def BU:∀a es ρ,ag Γ (.dicS a es) ρ=(do let o<-cv (.bC []);let xs<-bR Γ es ρ;pj a o xs):=λ _ _ _=>rfl
def Ew{Γ:Ctx}:∀m a es ρ,ag Γ (.mth m a es) ρ=(do let x<-ag Γ a ρ;iz m x;let xs<-bR Γ es ρ;fF m x xs):=λ _ _ _ _=>rfl
def Ab:∀e es ρ,bR Γ (.cons e es) ρ=(do let x<-ag Γ e ρ;let xs<-bR Γ es ρ;pure (x::xs)):=λ _ _ _=>rfl
def BO{Γ:Ctx}:∀e ρ,mJ Γ (.some e) ρ=(do
  let x<-ag Γ e ρ
  (match x with
  |.int i=>pure (some i)
  |_=>Mo.stop)):=λ _ _=>rfl
def Ek:∀e ρ,iu Γ (.seq e) ρ=(do let x<-ag Γ e ρ;eY x):=λ _ _=>rfl
def BI{Γ:Ctx}:∀a ρ,iu Γ (.rng1 a) ρ=(do
  let x<-ag Γ a ρ
  (match x with
  |.int i=>do need (small i);pure ⟨none,gO 0 i⟩
  |_=>Mo.stop)):=λ _ _=>rfl
def BH:∀a b c ρ,iu Γ (.rng3 a b c) ρ=(do
  let x<-ag Γ a ρ
  let y<-ag Γ b ρ
  let z<-ag Γ c ρ
  mK x y z):=λ _ _ _ _=>rfl
def EH:∀e ρ,bT Γ (.cmp e) ρ=(do let x<-ag Γ e ρ;lift (bS x)):=λ _ _=>rfl
def EF:∀e ρ,bT Γ (.tru e) ρ=(do let x<-ag Γ e ρ;mD x):=λ _ _=>rfl
def EG:∀c ρ,bT Γ (.not c) ρ=(do let k<-bT Γ c ρ;pure (!k)):=λ _ _=>rfl
def EI:∀a b ρ,bT Γ (.and a b) ρ=(do let k<-bT Γ a ρ;if k=true then bT Γ b ρ else pure false):=λ _ _ _=>rfl
def GR:∀a b ρ,bT Γ (.or a b) ρ=(do let k<-bT Γ a ρ;if k=true then pure true else bT Γ b ρ):=λ _ _ _=>rfl
def Ad:∀c ρ,jU Γ (.some c) ρ=(bT Γ c ρ):=λ _ _=>rfl
def Em:∀e ρ,iy Γ (.seq e) ρ=(do let x<-ag Γ e ρ;eY x):=λ _ _=>rfl
def BN:∀e ρ,iy Γ (.enum e) ρ=(do let x<-ag Γ e ρ;pd x):=λ _ _=>rfl
def qI:∀i e ρ,cQ Γ (.set i e) ρ=(do let x<-ag Γ e ρ;pure (.nx (ρ.set i (some x)))):=λ _ _ _=>rfl
def BL:∀is e b ρ,cQ Γ (.forN is e b) ρ=(do let x<-ag Γ e ρ;let s<-eY x;dR s.ck is (aH Γ b) s.ds ρ):=λ _ _ _ _=>rfl
def Aa{Γ:Ctx}:∀o i e ρ,cQ Γ (.setIx o i e) ρ=(do let v<-ag Γ e ρ;let x<-ag Γ o ρ;let y<-ag Γ i ρ;setIx x y v;pure (.nx ρ)):=λ _ _ _ _=>rfl
def BM{Γ:Ctx}:∀e ρ,cQ Γ (.expr e) ρ=(do let _<-ag Γ e ρ;pure (.nx ρ)):=λ _ _=>rfl
def El:∀e ρ,cQ Γ (.ret e) ρ=(do let x<-ag Γ e ρ;pure (.rt x)):=λ _ _=>rfl
def qJ:∀c a b ρ,cQ Γ (.ifS c a b) ρ=(do let k<-bT Γ c ρ;if k=true then aH Γ a ρ else aH Γ b ρ):=λ _ _ _ _=>rfl
def BK:∀i it b ρ,cQ Γ (.forS i it b) ρ=(do let s<-iu Γ it ρ;fC s.ck i (aH Γ b) s.ds ρ):=λ _ _ _ _=>rfl
def pJ:∀i j it b ρ,cQ Γ (.forP i j it b) ρ=(do let s<-iy Γ it ρ;dg s.ck i j (aH Γ b) s.ds ρ):=λ _ _ _ _ _=>rfl
def kC{Γ:Ctx}:∀s r ρ,aH Γ (.cons s r) ρ=(do
  let f<-cQ Γ s ρ
  (match f with
  |.nx a=>aH Γ r a
  |.rt v=>pure (.rt v)
  |.bk a=>pure (.bk a)
  |.ct a=>pure (.ct a))):=λ _ _ _=>rfl
def JN{p:Prop}[Decidable p](h:p)(M:MH):need p M=some (.ok (),M):=by unfold need;rw[if_pos h];rfl
def J8(h:M[i]?=some o):getM i M=some (.ok o,M):=by unfold getM;rw[h]
def J9(h:M[i]?=some (.lst ds)):getL i M=some (.ok ds,M):=by unfold getL;rw[h]
def Ka(h:M[i]?=some (.bC ds)):getD i M=some (.ok ds,M):=by unfold getD;rw[h]
def JL(o:MO)(M:MH):cv o M=some (.ok (.ob M.length),M++[o]):=rfl
def Jw(h:i<M.length):e9 i o M=some (.ok (),M.set i o):=by unfold e9;rw[if_pos h]
def bN{α:Type}{xs:List α}{j:Nat}{v:α}(h:xs[j]?=some v):de xs (j:Int)=some v:=by
 have a:j<xs.length:=(zz.mp h).1;unfold de mh;rw[if_pos (by first|lia|omega),if_pos (by first|lia|omega)]
 simpa using h
def ae(M:MH)(o:MO):(M++[o])[M.length]?=some o:=by simp
structure Gr (M M':MH):Prop where
 keep:∀(i:Nat) (o:MO),M[i]?=some o->M'[i]?=some o
 len:M.length<=M'.length
def Gr.refl:Gr M M:=⟨λ _ _ h=>h,zq _⟩
def Gr.trans(a:Gr M c)(b:Gr c M2):Gr M M2:=⟨λ i o e=>b.keep i o (a.keep i o e),zG a.len b.len⟩
def Gr.app(M X:MH):Gr M (M++X):=⟨λ i o e=>by rw[zK (zz.mp e).1];exact e,by rw[zx];omega⟩
def Gr.snoc(g:Gr M a)(o:MO):Gr M (a++[o]):=g.trans (Gr.app _ _)
def Gr.set(g:Gr M a)(h:M.length<=j)(o:MO):Gr M (a.set j o):=⟨λ i q e=>by
 have hi:i<M.length:=(zz.mp e).1;rw[zc (by first|lia|omega)]
 exact g.keep i q e,by rw[yq];exact g.len⟩
def lX{M:MH}{j:Nat}{o q:MO}(h:M[j]?=some q):(M.set j o)[j]?=some o:=zJ (zz.mp h).1
def Hc{α:Type}{M:List α}{j:Nat}{q:α}(h:M[j]?=some q):j<M.length:=(zz.mp h).1
def mO(bs:List Bool):(bs.map D.bl).mapM bS=some bs:=by
 induction bs with
 |nil=>rfl
 |cons b r a=>rw[zR,xO,a];rfl
def k9(bs:List Str):(bs.map D.str).mapM p8=some bs:=by
 induction bs with
 |nil=>rfl
 |cons b r a=>rw[zR,xO,a];rfl
def bw{lo hi:Int}:(gO lo hi).length=(hi-lo).toNat:=by unfold gO;rw[zy,yh]
def eM{lo hi:Int}{j:Nat}{d:D}(h:(gO lo hi)[j]?=some d):d=.int (lo+j)/\j<(hi-lo).toNat:=by
 unfold gO at h;rw[zm]at h;cases q:(List.range (hi-lo).toNat)[j]? with
 |none=>rw[q]at h;cases h
 |some n =>
  rw[q]at h;let⟨b,a⟩:=zz.mp q;rw[yh]at b;rw[xp]at a;subst a;cases h;exact⟨rfl,b⟩
def Jq{lo hi st:Int}:(gP lo hi st).length=d8 lo hi st:=by unfold gP;rw[zy,yh]
def Jr{lo hi st:Int}{j:Nat}{d:D}(h:(gP lo hi st)[j]?=some d):d=.int (lo+st*j)/\j<d8 lo hi st:=by
 unfold gP at h;rw[zm]at h;cases q:(List.range (d8 lo hi st))[j]? with
 |none=>rw[q]at h;cases h
 |some n =>
  rw[q]at h;let⟨b,a⟩:=zz.mp q;rw[yh]at b;rw[xp]at a;subst a;cases h;exact⟨rfl,b⟩
def mm{α:Type}{xs:List α}{i:Int}(b:0<=i)(c:i<xs.length):∃v,de xs i=some v/\v∈xs:=by
 let⟨n,rfl⟩:=yK b;have a:n<xs.length:=by first|lia|omega
 exact⟨xs[n],bN (zu a),yE a⟩
def len_app(x y:Str):(x++y).length=x.length+y.length:=by
 show (x.cps++y.cps).size=x.cps.size+y.cps.size;simp
def bj(x:Str):x.cps.toList.length=x.length:=by simp[Str.length]
def ki(x:Str)(lo hi:Option Int):(Str.length ⟨(cutD x.cps.toList lo hi).toArray⟩)<=x.length:=by
 show ((cutD x.cps.toList lo hi).toArray).size<=x.length;unfold cutD;simp[Str.length];first|lia|omega
def aj:(100000:Nat)<=zi:=by unfold zi;decide
abbrev Wp{α:Type}(m:Mo α)(M:MH)(Q:α->MH->Prop):Prop:=∃a b,m M=some (.ok a,b)/\Q a b
inductive Vq {α:Type} (Q:α->MH->Prop):Type where
 |mk
inductive W {α:Type} (m:Mo α) (M:MH) (Q:α->MH->Prop) (_:Vq Q:=.mk):Prop
 |mk (a:α) (M':MH) (e:m M=some (.ok a,M')) (q:Q a M')
def aU{α:Type}{m:Mo α}{M:MH}{Q:α->MH->Prop}:W m M Q=Wp m M Q:=propext ⟨λ ⟨a,b,e,q⟩=>⟨a,b,e,q⟩,λ ⟨a,b,e,q⟩=>⟨a,b,e,q⟩⟩
def RU{α:Type}{m:Mo α}{M:MH}{Q R:α->MH->Prop}(h:∀a M,Q a M=R a M):W m M Q=W m M R:=by
 have:Q=R:=funext λ a=>funext λ M=>h a M
 subst this;rfl
def W.mono{α:Type}{m:Mo α}{M:MH}{Q R:α->MH->Prop}(h:W m M Q)(f:∀a M',Q a M'->R a M'):W m M R:=by
 let⟨a,M',e,q⟩:=h;exact⟨a,M',e,f a M' q⟩
def W.of{α:Type}{m:Mo α}{M M':MH}{a:α}{Q:α->MH->Prop}(e:m M=some (.ok a,M'))(q:Q a M'):W m M Q:=⟨a,M',e,q⟩
def aE{α:Type}(a:α)(M:MH)(Q:α->MH->Prop):W (pure a:Mo α) M Q=Q a M:=by
 refine propext ⟨λ ⟨b,c,e,q⟩=>?_,λ q=>⟨a,M,rfl,q⟩⟩;cases e;exact q
def aF{α β:Type}(m:Mo α)(k:α->Mo β)(M:MH)(Q:β->MH->Prop):W (m >>= k) M Q=W m M λ a M'=>W (k a) M' Q:=by
 refine propext ⟨λ ⟨b,M',e,q⟩=>?_,λ ⟨a,d,e,b,f,c,q⟩=>⟨b,f,by rw[dC e];exact c,q⟩⟩;let⟨a,d,e1,c⟩:=aa e;exact⟨a,d,e1,b,M',c,q⟩
def cL{p:Prop}[Decidable p](M:MH)(Q:Unit->MH->Prop):W (need p) M Q=(p/\Q () M):=by
 refine propext ⟨λ ⟨b,c,e,q⟩=>?_,λ ⟨a,q⟩=>⟨(),M,JN a M,q⟩⟩;unfold need at e;split at e
 ·rename_i a
  cases e;exact⟨a,q⟩
 ·cases e
def fM{α:Type}(o:Option α)(M:MH)(Q:α->MH->Prop):W (lift o) M Q=∃a,o=some a/\Q a M:=by
 refine propext ⟨λ ⟨b,c,e,q⟩=>?_,λ ⟨a,ho,q⟩=>⟨a,M,by rw[ho];rfl,q⟩⟩;cases o with
 |none=>cases e
 |some a=>cases e;exact⟨_,rfl,q⟩
def nM(i:Nat)(M:MH)(Q:MO->MH->Prop):W (getM i) M Q=∃o,M[i]?=some o/\Q o M:=by
 refine propext ⟨λ ⟨b,c,e,q⟩=>?_,λ ⟨a,ho,q⟩=>⟨a,M,J8 ho,q⟩⟩;unfold getM at e;split at e
 ·rename_i o h;cases e;exact⟨_,h,q⟩
 ·cases e
def uW(i:Nat)(M:MH)(Q:List D->MH->Prop):W (getL i) M Q=∃ds,M[i]?=some (.lst ds)/\Q ds M:=by
 refine propext ⟨λ ⟨b,c,e,q⟩=>?_,λ ⟨a,ho,q⟩=>⟨a,M,J9 ho,q⟩⟩;unfold getL at e;split at e
 ·rename_i o h;cases e;exact⟨_,h,q⟩
 ·cases e
def Gf(i:Nat)(M:MH)(Q:List (Ky×D)->MH->Prop):W (getD i) M Q=∃ds,M[i]?=some (.bC ds)/\Q ds M:=by
 refine propext ⟨λ ⟨b,c,e,q⟩=>?_,λ ⟨a,ho,q⟩=>⟨a,M,Ka ho,q⟩⟩;unfold getD at e;split at e
 ·rename_i o h;cases e;exact⟨_,h,q⟩
 ·cases e
def OM(o:MO)(M:MH)(Q:D->MH->Prop):W (cv o) M Q=Q (.ob M.length) (M++[o]):=by
 refine propext ⟨λ ⟨b,a,e,q⟩=>?_,λ q=>⟨_,_,JL o M,q⟩⟩;cases e;exact q
def qy(i:Nat)(o:MO)(M:MH)(Q:Unit->MH->Prop):W (e9 i o) M Q=(i<M.length/\Q () (M.set i o)):=by
 refine propext ⟨λ ⟨b,a,e,q⟩=>?_,λ ⟨h,q⟩=>⟨_,_,Jw h,q⟩⟩;unfold e9 at e;split at e
 ·rename_i h;cases e;exact⟨h,q⟩
 ·cases e
def qx{α:Type}(M:MH)(Q:α->MH->Prop):W (Mo.stop:Mo α) M Q=False:=by
 refine propext ⟨λ ⟨b,a,e,q⟩=>?_,λ q=>q.elim⟩;cases e
def Vz{α:Type}(b:Bool)(m n:Mo α)(M:MH)(Q:α->MH->Prop):W (if b=true then m else n) M Q=((b=true->W m M Q)/\(b=false->W n M Q)):=by
 cases b <;> simp
section
variable {α β:Type}
def ao(a:α)(M:MH)(Q:α->MH->Prop):Wp (pure a:Mo α) M Q=Q a M:=aU.symm.trans (aE a M Q)
def aq(m:Mo α)(k:α->Mo β)(M:MH)(Q:β->MH->Prop):Wp (m >>= k) M Q=Wp m M λ a M'=>Wp (k a) M' Q:=by
 refine propext ⟨λ ⟨b,M',e,q⟩=>?_,λ ⟨a,d,e,b,f,c,q⟩=>⟨b,f,by rw[dC e];exact c,q⟩⟩;let⟨a,d,e1,c⟩:=aa e;exact⟨a,d,e1,b,M',c,q⟩
def eL{p:Prop}[Decidable p](M:MH)(Q:Unit->MH->Prop):Wp (need p) M Q=(p/\Q () M):=aU.symm.trans (cL M Q)
def d9(o:Option α)(M:MH)(Q:α->MH->Prop):Wp (lift o) M Q=∃a,o=some a/\Q a M:=aU.symm.trans (fM o M Q)
def fN(i:Nat)(M:MH)(Q:List D->MH->Prop):Wp (getL i) M Q=∃ds,M[i]?=some (.lst ds)/\Q ds M:=aU.symm.trans (uW i M Q)
def Gi(i:Nat)(M:MH)(Q:List (Ky×D)->MH->Prop):Wp (getD i) M Q=∃ds,M[i]?=some (.bC ds)/\Q ds M:=aU.symm.trans (Gf i M Q)
def bY(o:MO)(M:MH)(Q:D->MH->Prop):Wp (cv o) M Q=Q (.ob M.length) (M++[o]):=aU.symm.trans (OM o M Q)
def cz(M:MH)(Q:α->MH->Prop):Wp (Mo.stop:Mo α) M Q=False:=aU.symm.trans (qx M Q)
def pZ(b:Bool)(m n:Mo α)(M:MH)(Q:α->MH->Prop):Wp (if b=true then m else n) M Q=((b=true->Wp m M Q)/\(b=false->Wp n M Q)):=by cases b <;> simp
end
def BQ:∀a ρ,ag Γ (.sset a) ρ=(do let x<-ag Γ a ρ;rY x):=λ _ _=>rfl
def BR:∀a ρ,ag Γ (.lset a) ρ=(do let x<-ag Γ a ρ;me x):=λ _ _=>rfl
def BJ:∀e ρ,iu Γ (.revs e) ρ=(do let x<-ag Γ e ρ;sf x):=λ _ _=>rfl
noncomputable abbrev Wo(α:Type):=MH->(α->MH->Prop)->Prop
abbrev V{α:Type}(m:Wo α)(M:MH)(Q:α->MH->Prop)(_:Vq Q:=.mk):Prop:=m M Q
noncomputable abbrev vK(o:Option (Option D)) (F:D->Prop):Prop:=match o with
 |some (some d)=>F d
 |_=>False
abbrev bK(x:D)(F:Bool->Prop):Prop:=match x with
 |.bl k=>F k
 |_=>False
abbrev iK(x:D)(F:Int->Prop):Prop:=match x with
 |.int k=>F k
 |_=>False
abbrev Uj(g:Ev->Wo Fl)(Q:Fl->MH->Prop)(f:Fl)(M:MH):Prop:=match f with
 |.nx ρ=>V (g ρ) M Q
 |.rt v=>Q (.rt v) M
 |.bk ρ=>Q (.bk ρ) M
 |.ct ρ=>Q (.ct ρ) M
mutual
noncomputable def tE(Γ:Ctx):IE->Ev->Wo D
 |.var i,ρ=>λ M Q=>vK ρ[i]? λ d=>Q d M
 |.cint i,ρ=>λ M Q=>Q (.int i) M
 |.cbl i,ρ=>λ M Q=>Q (.bl i) M
 |.cnon,ρ=>λ M Q=>Q .non M
 |.cstr i,ρ=>λ M Q=>Q (.str i) M
 |.glb i,ρ=>λ M Q=>∃d,Γ.gl i=some d/\Q d M
 |.bin r a b,ρ=>λ M Q=>V (tE Γ a ρ) M λ x e=>V (tE Γ b ρ) e λ y g=>W (fj r x y) g Q
 |.cmp r a b,ρ=>λ M Q=>V (tE Γ a ρ) M λ x e=>V (tE Γ b ρ) e λ y g=>W (cq r x y) g λ k p=>Q (.bl k) p
 |.cmp2 r v a b c,ρ=>λ M Q=>V (tE Γ a ρ) M λ x e=>V (tE Γ b ρ) e λ y g=>W (cq r x y) g λ k p=>(k=true->V (tE Γ c ρ) p λ z F=>W (cq v y z) F λ A E=>Q (.bl A) E)/\(k=false->Q (.bl false) p)
 |.and a b,ρ=>λ M Q=>V (tE Γ a ρ) M λ x e=>bK x λ k=>(k=true->V (tE Γ b ρ) e Q)/\(k=false->Q (.bl false) e)
 |.or a b,ρ=>λ M Q=>V (tE Γ a ρ) M λ x e=>bK x λ k=>(k=true->Q (.bl true) e)/\(k=false->V (tE Γ b ρ) e Q)
 |.not a,ρ=>λ M Q=>V (tE Γ a ρ) M λ x e=>bK x λ k=>Q (.bl (!k)) e
 |.ifE q a b,ρ=>λ M Q=>V (tC Γ q ρ) M λ k e=>(k=true->V (tE Γ a ρ) e Q)/\(k=false->V (tE Γ b ρ) e Q)
 |.tup o,ρ=>λ M Q=>V (fE Γ o ρ) M λ n e=>n.length<=zi/\Q (.tup n) e
 |.lst o,ρ=>λ M Q=>V (fE Γ o ρ) M λ n e=>n.length<=zi/\Q (.ob e.length) (e++[.lst n])
 |.dic0,ρ=>λ M Q=>Q (.ob M.length) (M++[.bC []])
 |.idx a b,ρ=>λ M Q=>V (tE Γ a ρ) M λ x e=>V (tE Γ b ρ) e λ y g=>W (gW x y) g Q
 |.slc a lo hi,ρ=>λ M Q=>V (tE Γ a ρ) M λ x e=>V (tO Γ lo ρ) e λ l g=>V (tO Γ hi ρ) g λ h p=>W (i6 x l h) p Q
 |.call f o,ρ=>λ M Q=>V (fE Γ o ρ) M λ n e=>W (Γ.fn f n) e Q
 |.rfs o,ρ=>λ M Q=>V (fE Γ o ρ) M λ n e=>∃g,Γ.rf n e=some g/\Q (.bl true) g
 |.blt f o,ρ=>λ M Q=>V (fE Γ o ρ) M λ n e=>W (fR f n) e Q
 |.comp j B C a,ρ=>λ M Q=>V (tT Γ B ρ) M λ s e=>s.ds.length<=zi/\W (eT s.ck (jU Γ C) (ag Γ a) (ρ.set j none) s.ds) e λ u g=>Q (.ob g.length) (g++[.lst u])
 |.neg a,ρ=>λ M Q=>V (tE Γ a ρ) M λ x e=>iK x λ i=>Q (.int (-i)) e
 |.sset a,ρ=>λ M Q=>V (tE Γ a ρ) M λ x e=>W (rY x) e Q
 |.lset a,ρ=>λ M Q=>V (tE Γ a ρ) M λ x e=>W (me x) e Q
 |.sortL a,ρ=>λ M Q=>V (tE Γ a ρ) M λ x e=>W (Av x) e λ ds g=>∃u,Γ.srt ds=some u/\Q (.ob g.length) (g++[.lst u])
 |.intB a,ρ=>λ M Q=>V (tE Γ a ρ) M λ x e=>∃i,iQ x=some i/\Q (.int i) e
 |.strI a,ρ=>λ M Q=>V (tE Γ a ρ) M λ x e=>∃s,mF x=some s/\Q (.str s) e
 |.rep a,ρ=>λ M Q=>V (tE Γ a ρ) M λ x e=>∃t,iM e x=some t/\Q (.str t) e
 |.dicS w o,ρ=>λ M Q=>V (fE Γ o ρ) (M++[.bC []]) λ n e=>W (pj w (.ob M.length) n) e Q
 |.mth m a o,ρ=>λ M Q=>V (tE Γ a ρ) M λ x e=>W (iz m x) e λ _ g=>V (fE Γ o ρ) g λ n p=>W (fF m x n) p Q
noncomputable def fE(Γ:Ctx):dE->Ev->Wo (List D)
 |.nil,ρ=>λ M Q=>Q [] M
 |.cons a c,ρ=>λ M Q=>V (tE Γ a ρ) M λ x e=>V (fE Γ c ρ) e λ b d=>Q (x::b) d
noncomputable def tO(Γ:Ctx):nC->Ev->Wo (Option Int)
 |.none,ρ=>λ M Q=>Q none M
 |.some a,ρ=>λ M Q=>V (tE Γ a ρ) M λ x b=>iK x λ i=>Q (some i) b
noncomputable def tT(Γ:Ctx):IT->Ev->Wo Src
 |.seq a,ρ=>λ M Q=>V (tE Γ a ρ) M λ x d=>W (eY x) d Q
 |.revs a,ρ=>λ M Q=>V (tE Γ a ρ) M λ x d=>W (sf x) d Q
 |.rng1 a,ρ=>λ M Q=>V (tE Γ a ρ) M λ x d=>iK x λ i=>small i/\Q ⟨none,gO 0 i⟩ d
 |.rng3 a b c,ρ=>λ M Q=>V (tE Γ a ρ) M λ x d=>V (tE Γ b ρ) d λ y f=>V (tE Γ c ρ) f λ z e=>W (mK x y z) e Q
noncomputable def tC(Γ:Ctx):IC->Ev->Wo Bool
 |.cmp a,ρ=>λ M Q=>V (tE Γ a ρ) M λ x b=>bK x λ k=>Q k b
 |.tru a,ρ=>λ M Q=>V (tE Γ a ρ) M λ x b=>W (mD x) b Q
 |.not q,ρ=>λ M Q=>V (tC Γ q ρ) M λ k b=>Q (!k) b
 |.and q r,ρ=>λ M Q=>V (tC Γ q ρ) M λ k b=>(k=true->V (tC Γ r ρ) b Q)/\(k=false->Q false b)
 |.or q r,ρ=>λ M Q=>V (tC Γ q ρ) M λ k b=>(k=true->Q true b)/\(k=false->V (tC Γ r ρ) b Q)
noncomputable def K5(Γ:Ctx):nE->Ev->Wo Bool
 |.none,ρ=>λ M Q=>Q true M
 |.some q,ρ=>λ M Q=>V (tC Γ q ρ) M Q
end
abbrev tP(Γ:Ctx):IP->Ev->Wo Src
 |.seq a,ρ=>λ M Q=>V (tE Γ a ρ) M λ x b=>W (eY x) b Q
 |.enum a,ρ=>λ M Q=>V (tE Γ a ρ) M λ x b=>W (pd x) b Q
 |.gitems x,ρ=>λ M Q=>∃c,(Γ.gl x).bind lR=some c/\Q ⟨none,qi c⟩ M
mutual
noncomputable def tS(Γ:Ctx):IS->Ev->Wo Fl
 |.set i a,ρ=>λ M Q=>V (tE Γ a ρ) M λ x d=>Q (.nx (ρ.set i (some x))) d
 |.setIx a b c,ρ=>λ M Q=>V (tE Γ c ρ) M λ v d=>V (tE Γ a ρ) d λ x g=>V (tE Γ b ρ) g λ y m=>W (setIx x y v) m λ _ l=>Q (.nx ρ) l
 |.expr a,ρ=>λ M Q=>V (tE Γ a ρ) M λ _ d=>Q (.nx ρ) d
 |.ret a,ρ=>λ M Q=>V (tE Γ a ρ) M λ x d=>Q (.rt x) d
 |.retN,ρ=>λ M Q=>Q (.rt .non) M
 |.pass,ρ=>λ M Q=>Q (.nx ρ) M
 |.brk,ρ=>λ M Q=>Q (.bk ρ) M
 |.cnt,ρ=>λ M Q=>Q (.ct ρ) M
 |.ifS q e h,ρ=>λ M Q=>V (tC Γ q ρ) M λ k d=>(k=true->V (bu Γ e ρ) d Q)/\(k=false->V (bu Γ h ρ) d Q)
 |.forS i f e,ρ=>λ M Q=>V (tT Γ f ρ) M λ s d=>W (fC s.ck i (aH Γ e) s.ds ρ) d Q
 |.halt,ρ=>λ M Q=>False
 |.forP i j f e,ρ=>λ M Q=>V (tP Γ f ρ) M λ s d=>W (dg s.ck i j (aH Γ e) s.ds ρ) d Q
 |.forN is a e,ρ=>λ M Q=>V (tE Γ a ρ) M λ x d=>W (eY x) d λ s g=>W (dR s.ck is (aH Γ e) s.ds ρ) g Q
 |.whileS c e,ρ=>λ M Q=>W (eK (bT Γ c) (aH Γ e) Γ.wh ρ) M Q
 |.rz _ _,ρ=>λ _ _=>False
noncomputable def bu(Γ:Ctx):aD->Ev->Wo Fl
 |.nil,ρ=>λ M Q=>Q (.nx ρ) M
 |.cons s r,ρ=>λ M Q=>V (tS Γ s ρ) M (Uj (bu Γ r) Q)
end
def Ep:∀es ρ,ag Γ (.rfs es) ρ=(do let xs<-bR Γ es ρ;y8 Γ xs):=λ _ _=>rfl
def To:Wp (y8 Γ xs) a Q=∃M2,Γ.rf xs a=some M2/\Q (.bl true) M2:=by
 unfold y8;cases h:Γ.rf xs a with
 |none=>exact propext ⟨λ ⟨_,_,e,_⟩=>(by rwa[h]at e;cases e),λ ⟨_,e,_⟩=>(by cases e)⟩
 |some M2=>exact propext ⟨λ ⟨_,_,e,q⟩=>(by rwa[h]at e;cases e;exact⟨_,rfl,q⟩),λ ⟨_,e,q⟩=>(by cases e;exact⟨_,_,by rwa[h],q⟩)⟩
def Tp:Wp (oG x) M1 Q=∃t,iM M1 x=some t/\Q (.str t) M1:=by
 unfold oG;cases h:iM M1 x with
 |none=>exact propext ⟨λ ⟨_,_,e,_⟩=>(by rwa[h]at e;cases e),λ ⟨_,e,_⟩=>(by cases e)⟩
 |some t=>exact propext ⟨λ ⟨_,_,e,q⟩=>(by rwa[h]at e;cases e;exact⟨_,rfl,q⟩),λ ⟨_,e,q⟩=>(by cases e;exact⟨_,_,by rwa[h],q⟩)⟩
def qz(x:D)(M:MH)(Q:Bool->MH->Prop):Wp (lift (bS x)) M Q=bK x λ k=>Q k M:=by cases x <;> simp[d9,bS,bK]
mutual
theorem aS(Γ:Ctx):∀e ρ M Q,Wp (ag Γ e ρ) M Q=tE Γ e ρ M Q
 |.var i,ρ,M,Q=>by
  show Wp (lK ρ i) M Q=vK ρ[i]? _;unfold lK;rcases ρ[i]? with _|_|d <;> rwa[cz,ao] <;> rfl
 |.cint i,ρ,M,Q=>by first|exact ao _ _ _|exact bY _ _ _|exact cz _ _
 |.cbl i,ρ,M,Q=>by first|exact ao _ _ _|exact bY _ _ _|exact cz _ _
 |.cnon,ρ,M,Q=>by first|exact ao _ _ _|exact bY _ _ _|exact cz _ _
 |.cstr i,ρ,M,Q=>by first|exact ao _ _ _|exact bY _ _ _|exact cz _ _
 |.glb i,ρ,M,Q=>d9 _ _ _
 |.bin h a b,ρ,M,Q=>by rwa[EC,aq,ao,aS Γ a,aS Γ b] <;> (try rwa[<- aU]) <;> rfl
 |.cmp h a b,ρ,M,Q=>by rwa[EA,aq,ao,aS Γ a,aS Γ b] <;> (try rwa[<- aU]) <;> rfl
 |.cmp2 h l a b c,ρ,M,Q=>by rwa[BW,aq,ao,pZ,aS Γ a,aS Γ b,aS Γ c] <;> (try rwa[<- aU]) <;> rfl
 |.and a b,ρ,M,Q=>by rwa[ED,aq,ao,qz,pZ,aS Γ a,aS Γ b] <;> (try rwa[<- aU]) <;> rfl
 |.or a b,ρ,M,Q=>by rwa[GQ,aq,ao,qz,pZ,aS Γ a,aS Γ b] <;> (try rwa[<- aU]) <;> rfl
 |.not a,ρ,M,Q=>by rwa[Et,aq,ao,qz,aS Γ a] <;> (try rwa[<- aU]) <;> rfl
 |.ifE q a b,ρ,M,Q=>by rwa[Ey,aq,ao,pZ,jS Γ q,aS Γ a,aS Γ b] <;> (try rwa[<- aU]) <;> rfl
 |.tup g,ρ,M,Q=>by rwa[En,aq,ao,eL,gK Γ g] <;> (try rwa[<- aU]) <;> rfl
 |.lst g,ρ,M,Q=>by rwa[Ex,aq,ao,eL,bY,gK Γ g] <;> (try rwa[<- aU]) <;> rfl
 |.dic0,ρ,M,Q=>by first|exact ao _ _ _|exact bY _ _ _|exact cz _ _
 |.idx a b,ρ,M,Q=>by rwa[Ez,aq,ao,aS Γ a,aS Γ b] <;> (try rwa[<- aU]) <;> rfl
 |.slc a lo hi,ρ,M,Q=>by rwa[Eo,aq,ao,aS Γ a,KZ Γ lo,KZ Γ hi] <;> (try rwa[<- aU]) <;> rfl
 |.call f g,ρ,M,Q=>by rwa[pK,aq,ao,gK Γ g] <;> (try rwa[<- aU]) <;> rfl
 |.rfs g,ρ,M,Q=>by
  rwa[Ep,aq,gK Γ g];exact congrArg (fE Γ g ρ M) (funext λ x=>funext λ k=>To)
 |.blt f g,ρ,M,Q=>by rwa[EB,aq,ao,gK Γ g] <;> (try rwa[<- aU]) <;> rfl
 |.comp j n p a,ρ,M,Q=>by rwa[BV,aq,ao,eL,bY,KS Γ n] <;> (try rwa[<- aU]) <;> rfl
 |.neg a,ρ,M,Q=>by
  rwa[Eu,aq,aS Γ a];exact congrArg (tE Γ a ρ M) (funext λ x=>funext λ k=>by cases x <;> rwa[cz,ao] <;> rfl)
 |.sset a,ρ,M,Q=>by rwa[BQ,aq,ao,aS Γ a] <;> (try rwa[<- aU]) <;> rfl
 |.lset a,ρ,M,Q=>by rwa[BR,aq,ao,aS Γ a] <;> (try rwa[<- aU]) <;> rfl
 |.sortL a,ρ,M,Q=>by rwa[Ac,aq,ao,bY,d9,aS Γ a] <;> (try rwa[<- aU]) <;> rfl
 |.intB a,ρ,M,Q=>by rwa[BS,aq,ao,d9,aS Γ a] <;> (try rwa[<- aU]) <;> rfl
 |.strI a,ρ,M,Q=>by rwa[BP,aq,ao,d9,aS Γ a] <;> (try rwa[<- aU]) <;> rfl
 |.rep a,ρ,M,Q=>by
  rwa[Er,aq,aS Γ a];exact congrArg (tE Γ a ρ M) (funext λ x=>funext λ k=>Tp)
 |.dicS o g,ρ,M,Q=>by rwa[BU,aq,ao,bY,gK Γ g] <;> (try rwa[<- aU]) <;> rfl
 |.mth m a g,ρ,M,Q=>by rwa[Ew,aq,ao,aS Γ a,gK Γ g] <;> (try rwa[<- aU]) <;> rfl
theorem gK(Γ:Ctx):∀e ρ M Q,Wp (bR Γ e ρ) M Q=fE Γ e ρ M Q
 |.nil,ρ,M,Q=>by first|exact ao _ _ _|exact bY _ _ _|exact cz _ _
 |.cons a b,ρ,M,Q=>by rwa[Ab,aq,ao,aS Γ a,gK Γ b] <;> (try rwa[<- aU]) <;> rfl
theorem KZ(Γ:Ctx):∀e ρ M Q,Wp (mJ Γ e ρ) M Q=tO Γ e ρ M Q
 |.none,ρ,M,Q=>by first|exact ao _ _ _|exact bY _ _ _|exact cz _ _
 |.some a,ρ,M,Q=>by
  rwa[BO,aq,aS Γ a];exact congrArg (tE Γ a ρ M) (funext λ x=>funext λ b=>by cases x <;> rwa[cz,ao] <;> rfl)
theorem KS(Γ:Ctx):∀e ρ M Q,Wp (iu Γ e ρ) M Q=tT Γ e ρ M Q
 |.seq a,ρ,M,Q=>by rwa[Ek,aq,ao,aS Γ a] <;> (try rwa[<- aU]) <;> rfl
 |.revs a,ρ,M,Q=>by rwa[BJ,aq,ao,aS Γ a] <;> (try rwa[<- aU]) <;> rfl
 |.rng1 a,ρ,M,Q=>by
  rwa[BI,aq,aS Γ a];exact congrArg (tE Γ a ρ M) (funext λ x=>funext λ d=>by cases x <;> rwa[cz,aq,eL,ao] <;> rfl)
 |.rng3 a b c,ρ,M,Q=>by rwa[BH,aq,ao,aS Γ a,aS Γ b,aS Γ c] <;> (try rwa[<- aU]) <;> rfl
theorem jS(Γ:Ctx):∀e ρ M Q,Wp (bT Γ e ρ) M Q=tC Γ e ρ M Q
 |.cmp a,ρ,M,Q=>by rwa[EH,aq,ao,qz,aS Γ a] <;> (try rwa[<- aU]) <;> rfl
 |.tru a,ρ,M,Q=>by rwa[EF,aq,ao,aS Γ a] <;> (try rwa[<- aU]) <;> rfl
 |.not q,ρ,M,Q=>by rwa[EG,aq,ao,jS Γ q] <;> (try rwa[<- aU]) <;> rfl
 |.and q r,ρ,M,Q=>by rwa[EI,aq,ao,pZ,jS Γ q,jS Γ r] <;> (try rwa[<- aU]) <;> rfl
 |.or q r,ρ,M,Q=>by rwa[GR,aq,ao,pZ,jS Γ q,jS Γ r] <;> (try rwa[<- aU]) <;> rfl
theorem O2(Γ:Ctx):∀e ρ M Q,Wp (jU Γ e ρ) M Q=K5 Γ e ρ M Q
 |.none,ρ,M,Q=>by first|exact ao _ _ _|exact bY _ _ _|exact cz _ _
 |.some q,ρ,M,Q=>by rwa[Ad,aq,ao,jS Γ q] <;> (try rwa[<- aU]) <;> rfl
end
def KY(Γ:Ctx):∀e ρ M Q,Wp (iy Γ e ρ) M Q=tP Γ e ρ M Q
 |.seq a,ρ,M,Q=>by rwa[Em,aq,ao,aS Γ a] <;> (try rwa[<- aU]) <;> rfl
 |.enum a,ρ,M,Q=>by rwa[BN,aq,ao,aS Γ a] <;> (try rwa[<- aU]) <;> rfl
 |.gitems x,ρ,M,Q=>by
  show Wp (lift _ >>= λ b=>pure _) M Q=_;rwa[aq,d9,ao] <;> rfl
mutual
theorem KU(Γ:Ctx):∀e ρ M Q,Wp (cQ Γ e ρ) M Q=tS Γ e ρ M Q
 |.set i a,ρ,M,Q=>by rwa[qI,aq,ao,aS Γ a] <;> (try rwa[<- aU]) <;> rfl
 |.setIx a b c,ρ,M,Q=>by rwa[Aa,aq,ao,aS Γ c,aS Γ a,aS Γ b] <;> (try rwa[<- aU]) <;> rfl
 |.expr a,ρ,M,Q=>by rwa[BM,aq,ao,aS Γ a] <;> (try rwa[<- aU]) <;> rfl
 |.ret a,ρ,M,Q=>by rwa[El,aq,ao,aS Γ a] <;> (try rwa[<- aU]) <;> rfl
 |.retN,ρ,M,Q=>by first|exact ao _ _ _|exact bY _ _ _|exact cz _ _
 |.pass,ρ,M,Q=>by first|exact ao _ _ _|exact bY _ _ _|exact cz _ _
 |.brk,ρ,M,Q=>by first|exact ao _ _ _|exact bY _ _ _|exact cz _ _
 |.cnt,ρ,M,Q=>by first|exact ao _ _ _|exact bY _ _ _|exact cz _ _
 |.ifS q d g,ρ,M,Q=>by rwa[qJ,aq,ao,pZ,jS Γ q,qB Γ d,qB Γ g] <;> (try rwa[<- aU]) <;> rfl
 |.forS i f d,ρ,M,Q=>by rwa[BK,aq,ao,KS Γ f] <;> (try rwa[<- aU]) <;> rfl
 |.halt,ρ,M,Q=>by first|exact ao _ _ _|exact bY _ _ _|exact cz _ _
 |.forP i j f d,ρ,M,Q=>by rwa[pJ,aq,ao,KY Γ f] <;> (try rwa[<- aU]) <;> rfl
 |.forN is a d,ρ,M,Q=>by rwa[BL,aq,ao,aS Γ a] <;> (try rwa[<- aU]) <;> rfl
 |.whileS c d,ρ,M,Q=>aU.symm
 |.rz _ _,ρ,_,_=>cz _ _
theorem qB(Γ:Ctx):∀e ρ M Q,Wp (aH Γ e ρ) M Q=bu Γ e ρ M Q
 |.nil,ρ,M,Q=>by first|exact ao _ _ _|exact bY _ _ _|exact cz _ _
 |.cons s r,ρ,M,Q=>by
  rwa[kC,aq,KU Γ s];exact congrArg (tS Γ s ρ M) (funext λ f=>funext λ b=>by
   cases f with
   |nx a=>exact qB Γ r a b Q
   |_=>exact ao _ _ _)
end
section
variable {Γ:Ctx}{ρ:Ev}{M:MH}{a b c:IE}{es:dE}{q r0:IC}{s:IS}{r s1 s2:aD}
section
variable {Q:D->MH->Prop}
def Xk:V (tE Γ (.var i) ρ) M Q=vK ρ[i]? λ d=>Q d M:=rfl
def Xu:V (tE Γ (.cint i) ρ) M Q=Q (.int i) M:=rfl
def aaf:V (tE Γ (.cbl i) ρ) M Q=Q (.bl i) M:=rfl
def Xp:V (tE Γ .cnon ρ) M Q=Q .non M:=rfl
def OL:V (tE Γ (.cstr i) ρ) M Q=Q (.str i) M:=rfl
def Xx:V (tE Γ (.glb i) ρ) M Q=(∃d,Γ.gl i=some d/\Q d M):=rfl
def XA:V (tE Γ (.bin d a b) ρ) M Q=V (tE Γ a ρ) M λ x f=>V (tE Γ b ρ) f λ y e=>W (fj d x y) e Q:=rfl
def Xy:V (tE Γ (.cmp d a b) ρ) M Q=V (tE Γ a ρ) M λ x f=>V (tE Γ b ρ) f λ y e=>W (cq d x y) e λ k M3=>Q (.bl k) M3:=rfl
def WQ:V (tE Γ (.cmp2 e d a b c) ρ) M Q=V (tE Γ a ρ) M λ x j=>V (tE Γ b ρ) j λ y i=>W (cq e x y) i λ k f=>(k=true->V (tE Γ c ρ) f λ z h=>W (cq d y z) h λ k' g=>Q (.bl k') g)/\(k=false->Q (.bl false) f):=rfl
def XB:V (tE Γ (.and a b) ρ) M Q=V (tE Γ a ρ) M λ x d=>bK x λ k=>(k=true->V (tE Γ b ρ) d Q)/\(k=false->Q (.bl false) d):=rfl
def aae:V (tE Γ (.or a b) ρ) M Q=V (tE Γ a ρ) M λ x d=>bK x λ k=>(k=true->Q (.bl true) d)/\(k=false->V (tE Γ b ρ) d Q):=rfl
def Xv:V (tE Γ (.ifE q a b) ρ) M Q=V (tC Γ q ρ) M λ k d=>(k=true->V (tE Γ a ρ) d Q)/\(k=false->V (tE Γ b ρ) d Q):=rfl
def Xl:V (tE Γ (.tup es) ρ) M Q=V (fE Γ es ρ) M λ xs M1=>xs.length<=zi/\Q (.tup xs) M1:=rfl
def Xs:V (tE Γ (.lst es) ρ) M Q=V (fE Γ es ρ) M λ xs d=>xs.length<=zi/\Q (.ob d.length) (d++[.lst xs]):=rfl
def WN:V (tE Γ .dic0 ρ) M Q=Q (.ob M.length) (M++[.bC []]):=rfl
def Xw:V (tE Γ (.idx a b) ρ) M Q=V (tE Γ a ρ) M λ x e=>V (tE Γ b ρ) e λ y d=>W (gW x y) d Q:=rfl
def Xm{lo hi:nC}:V (tE Γ (.slc a lo hi) ρ) M Q=V (tE Γ a ρ) M λ x f=>V (tO Γ lo ρ) f λ l e=>V (tO Γ hi ρ) e λ h d=>W (i6 x l h) d Q:=rfl
def WR:V (tE Γ (.call f es) ρ) M Q=V (fE Γ es ρ) M λ xs d=>W (Γ.fn f xs) d Q:=rfl
def Xn:V (tE Γ (.rfs es) ρ) M Q=V (fE Γ es ρ) M λ xs d=>∃M2,Γ.rf xs d=some M2/\Q (.bl true) M2:=rfl
def Xz:V (tE Γ (.blt f es) ρ) M Q=V (fE Γ es ρ) M λ xs d=>W (fR f xs) d Q:=rfl
def WO:V (tE Γ (.comp j it d a) ρ) M Q=V (tT Γ it ρ) M λ s f=>s.ds.length<=zi/\W (eT s.ck (jU Γ d) (ag Γ a) (ρ.set j none) s.ds) f λ ys e=>Q (.ob e.length) (e++[.lst ys]):=rfl
def Xq:V (tE Γ (.neg a) ρ) M Q=V (tE Γ a ρ) M λ x M1=>iK x λ i=>Q (.int (-i)) M1:=rfl
def WJ:V (tE Γ (.sset a) ρ) M Q=V (tE Γ a ρ) M λ x d=>W (rY x) d Q:=rfl
def WK:V (tE Γ (.lset a) ρ) M Q=V (tE Γ a ρ) M λ x d=>W (me x) d Q:=rfl
def WL:V (tE Γ (.intB a) ρ) M Q=V (tE Γ a ρ) M λ x M1=>∃i,iQ x=some i/\Q (.int i) M1:=rfl
def WI:V (tE Γ (.strI a) ρ) M Q=V (tE Γ a ρ) M λ x M1=>∃s,mF x=some s/\Q (.str s) M1:=rfl
def Xo:V (tE Γ (.rep a) ρ) M Q=V (tE Γ a ρ) M λ x M1=>∃t,iM M1 x=some t/\Q (.str t) M1:=rfl
def WM:V (tE Γ (.dicS d es) ρ) M Q=V (fE Γ es ρ) (M++[.bC []]) λ xs e=>W (pj d (.ob M.length) xs) e Q:=rfl
def Xr{m:Mt}:V (tE Γ (.mth m a es) ρ) M Q=V (tE Γ a ρ) M λ x f=>W (iz m x) f λ _ e=>V (fE Γ es ρ) e λ xs d=>W (fF m x xs) d Q:=rfl
end
section
variable {Q:List D->MH->Prop}
def MN:V (fE Γ .nil ρ) M Q=Q [] M:=rfl
def IU:V (fE Γ (.cons a es) ρ) M Q=V (tE Γ a ρ) M λ x d=>V (fE Γ es ρ) d λ xs M2=>Q (x::xs) M2:=rfl
end
section
variable {Q:Option Int->MH->Prop}
def WH:V (tO Γ .none ρ) M Q=Q none M:=rfl
def WG:V (tO Γ (.some a) ρ) M Q=V (tE Γ a ρ) M λ x M1=>iK x λ i=>Q (some i) M1:=rfl
end
section
variable {Q:Src->MH->Prop}
def W8:V (tT Γ (.seq a) ρ) M Q=V (tE Γ a ρ) M λ x d=>W (eY x) d Q:=rfl
def Wz:V (tT Γ (.revs a) ρ) M Q=V (tE Γ a ρ) M λ x d=>W (sf x) d Q:=rfl
def Wy:V (tT Γ (.rng1 a) ρ) M Q=V (tE Γ a ρ) M λ x M1=>iK x λ i=>small i/\Q ⟨none,gO 0 i⟩ M1:=rfl
def Wx:V (tT Γ (.rng3 a b c) ρ) M Q=V (tE Γ a ρ) M λ x f=>V (tE Γ b ρ) f λ y e=>V (tE Γ c ρ) e λ z d=>W (mK x y z) d Q:=rfl
end
section
variable {Q:Bool->MH->Prop}
def XE:V (tC Γ (.cmp a) ρ) M Q=V (tE Γ a ρ) M λ x M1=>bK x λ k=>Q k M1:=rfl
def XC:V (tC Γ (.tru a) ρ) M Q=V (tE Γ a ρ) M λ x d=>W (mD x) d Q:=rfl
def XD:V (tC Γ (.not q) ρ) M Q=V (tC Γ q ρ) M λ k M1=>Q (!k) M1:=rfl
def XF:V (tC Γ (.and q r0) ρ) M Q=V (tC Γ q ρ) M λ k d=>(k=true->V (tC Γ r0 ρ) d Q)/\(k=false->Q false d):=rfl
def aag:V (tC Γ (.or q r0) ρ) M Q=V (tC Γ q ρ) M λ k d=>(k=true->Q true d)/\(k=false->V (tC Γ r0 ρ) d Q):=rfl
def Vy:V (K5 Γ .none ρ) M Q=Q true M:=rfl
def Vx:V (K5 Γ (.some q) ρ) M Q=V (tC Γ q ρ) M Q:=rfl
end
section
variable {Q:Src->MH->Prop}
def WE:V (tP Γ (.enum a) ρ) M Q=V (tE Γ a ρ) M λ x d=>W (pd x) d Q:=rfl
def TZ:V (tP Γ (.gitems x) ρ) M Q=(∃d,(Γ.gl x).bind lR=some d/\Q ⟨none,qi d⟩ M):=rfl
end
abbrev Ll(Γ:Ctx)(r:aD)(Q:Fl->MH->Prop)(f:Fl)(M:MH):Prop:=Uj (bu Γ r) Q f M
section
variable {Q:Fl->MH->Prop}
def Yl:Ll Γ r Q (.nx ρ) M=V (bu Γ r ρ) M Q:=rfl
def Yk:Ll Γ r Q (.rt v) M=Q (.rt v) M:=rfl
def Ym:Ll Γ r Q (.bk ρ) M=Q (.bk ρ) M:=rfl
def W9:V (tS Γ (.set i a) ρ) M Q=V (tE Γ a ρ) M λ x M1=>Q (.nx (ρ.set i (some x))) M1:=rfl
def Vw:V (tS Γ (.setIx a b c) ρ) M Q=V (tE Γ c ρ) M λ v f=>V (tE Γ a ρ) f λ x e=>V (tE Γ b ρ) e λ y d=>W (setIx x y v) d λ _ M4=>Q (.nx ρ) M4:=rfl
def WC:V (tS Γ (.expr a) ρ) M Q=V (tE Γ a ρ) M λ _ M1=>Q (.nx ρ) M1:=rfl
def Xd:V (tS Γ (.ret a) ρ) M Q=V (tE Γ a ρ) M λ x M1=>Q (.rt x) M1:=rfl
def Xg:V (tS Γ .brk ρ) M Q=Q (.bk ρ) M:=rfl
def Si:V (tS Γ (.ifS q s1 s2) ρ) M Q=V (tC Γ q ρ) M λ k d=>(k=true->V (bu Γ s1 ρ) d Q)/\(k=false->V (bu Γ s2 ρ) d Q):=rfl
def Xf:V (tS Γ (.forS i it s1) ρ) M Q=V (tT Γ it ρ) M λ s d=>W (fC s.ck i (aH Γ s1) s.ds ρ) d Q:=rfl
def WA:V (tS Γ (.forP i j it s1) ρ) M Q=V (tP Γ it ρ) M λ s d=>W (dg s.ck i j (aH Γ s1) s.ds ρ) d Q:=rfl
def WB:V (tS Γ (.forN is a s1) ρ) M Q=V (tE Γ a ρ) M λ x e=>W (eY x) e λ s d=>W (dR s.ck is (aH Γ s1) s.ds ρ) d Q:=rfl
def Vv:V (tS Γ (.whileS q s1) ρ) M Q=W (eK (bT Γ q) (aH Γ s1) Γ.wh ρ) M Q:=rfl
def Xe:V (bu Γ .nil ρ) M Q=Q (.nx ρ) M:=rfl
def WD:V (bu Γ (.cons s r) ρ) M Q=V (tS Γ s ρ) M (Ll Γ r Q):=rfl
end
def xE:W (ag Γ a ρ) M Q=V (tE Γ a ρ) M Q:=aU.trans (aS Γ a ρ M Q)
def xC:W (bT Γ q ρ) M Q=V (tC Γ q ρ) M Q:=aU.trans (jS Γ q ρ M Q)
def xCo{q:nE}{Q:Bool->MH->Prop}:W (jU Γ q ρ) M Q=V (K5 Γ q ρ) M Q:=aU.trans (O2 Γ q ρ M Q)
def xEs:W (bR Γ es ρ) M Q=V (fE Γ es ρ) M Q:=aU.trans (gK Γ es ρ M Q)
def xP:W (iy Γ i ρ) M Q=V (tP Γ i ρ) M Q:=aU.trans (KY Γ i ρ M Q)
def xS1:W (cQ Γ s ρ) M Q=V (tS Γ s ρ) M Q:=aU.trans (KU Γ s ρ M Q)
def xS:W (aH Γ r ρ) M Q=V (bu Γ r ρ) M Q:=aU.trans (qB Γ r ρ M Q)
def aaL:bK (.bl k) F=F k:=rfl
def YH:iK (.int k) F=F k:=rfl
def Wi{α:Type}{m:Wo α}{M:MH}{Q R:α->MH->Prop}(h:∀a M,Q a M=R a M):V m M Q=V m M R:=by
 have:Q=R:=funext λ a=>funext λ M=>h a M
 subst this;rfl
end
section
variable {Γ:Ctx}{ρ:Ev}{M:MH}{a b c:IE}{Q:D->MH->Prop}{es:dE}
section
variable {Q:Bool->MH->Prop}{q r:IC}
end
section
variable {Q:Fl->MH->Prop}{s:IS}{r s1 s2:aD}{q:IC}
abbrev rZ:Bool->aD->aD->aD
 |true,a,_=>a
 |false,_,b=>b
def aak{a b:aD}:rZ true a b=a:=rfl
def aal{a b:aD}:rZ false a b=b:=rfl
def Xc:V (tS Γ (.ifS q s1 s2) ρ) M Q=V (tC Γ q ρ) M λ k d=>V (bu Γ (rZ k s1 s2) ρ) d Q:=by
 rw[Si];refine Wi λ k d=>?_;cases k <;> simp[rZ]
def sT(h:k=true)(t:V (bu Γ s1 ρ) M Q):V (bu Γ (rZ k s1 s2) ρ) M Q:=h▸t
def sF(h:k=false)(t:V (bu Γ s2 ρ) M Q):V (bu Γ (rZ k s1 s2) ρ) M Q:=h▸t
end
abbrev dN(Q:D->MH->Prop)(f:Fl)(M:MH):Prop:=match f with
 |.nx _=>Q .non M
 |.rt v=>Q v M
 |_=>False
def ZT:dN Q (.rt v) M=Q v M:=rfl
def wf{n p:Nat}{b:aD}{xs:List D}:W (do need (xs.length=p);gN Γ n b xs:Mo D) M Q=(xs.length=p/\V (bu Γ b (xs.map some++yx (n-xs.length) none)) M (dN Q)):=by
 rw[aF,cL];unfold gN;rw[aF];refine congrArg _ (xS.symm.trans (RU λ f d=>?_)).symm;cases f <;> simp[dN,aE,qx]
end
section
variable {M:MH}{Q:D->MH->Prop}{B:Bool->MH->Prop}{U:Unit->MH->Prop}{S:Src->MH->Prop}{x y v:D}
def Yc:W (fj .Add (.int i) (.int j)) M Q=Q (.int (i+j)) M:=aE _ M Q
def X0:W (fj .Sub (.int i) (.int j)) M Q=Q (.int (i-j)) M:=aE _ M Q
def X9:W (fj .Add (.str i) (.str j)) M Q=(i.length+j.length<=zi/\Q (.str (i++j)) M):=by
 show W (need _ >>= λ _=>pure _) M Q=_;rw[aF,cL,aE]
def X8:W (fj .Add (.tup i) (.tup j)) M Q=(i.length+j.length<=zi/\Q (.tup (i++j)) M):=by
 show W (need _ >>= λ _=>pure _) M Q=_;rw[aF,cL,aE]
def Yb:W (fj .Add (.ob i) (.ob j)) M Q=∃xs,M[i]?=some (.lst xs)/\∃ys,M[j]?=some (.lst ys)/\xs.length+ys.length<=zi/\Q (.ob M.length) (M++[.lst (xs++ys)]):=by
 show W (getL i >>= λ xs=>getL j >>= λ ys=>need _ >>= λ _=>cv _) M Q=_;rwa[aU,aq,fN,eL,bY]
def aaq:W (fj .Mult (.int i) (.int j)) M Q=(((-(2 ^ 64)<i/\i<2 ^ 64)\/(-(2 ^ 64)<j/\j<2 ^ 64))/\Q (.int (i*j)) M):=by
 show W (need _ >>= λ _=>pure _) M Q=_;rw[aF,cL,aE]
def aaB:W (fj .FloorDiv (.int i) (.int j)) M Q=((0<j/\j<1073741824)/\Q (.int (i / j)) M):=by
 show W (need _ >>= λ _=>pure _) M Q=_;rw[aF,cL,aE]
def aar:W (fj .Mod (.int i) (.int j)) M Q=(0<j/\Q (.int (i % j)) M):=by
 show W (need _ >>= λ _=>pure _) M Q=_;rw[aF,cL,aE]
def gQ:W (cq .Eq x y) M B=∃b,cD M 20 x y=some b/\B b M:=by
 show W (qk x y) M B=_;refine propext ⟨λ ⟨b,a,e,q⟩=>?_,λ ⟨b,e,q⟩=>⟨b,M,by unfold qk;rw[e],q⟩⟩;unfold qk at e;cases h:cD M 20 x y with
 |none=>rw[h]at e;cases e
 |some k=>rw[h]at e;cases e;exact⟨_,rfl,q⟩
def JI:W (cq .NotEq x y) M B=∃b,cD M 20 x y=some b/\B (!b) M:=by
 show W (cq .Eq x y >>= λ b=>pure (!b)) M B=_;rw[aF]
 have:∀b M,W (pure (!b):Mo Bool) M B=B (!b) M:=λ b M=>aE _ M B
 rw[RU this,gQ]
def Oj(b:dG x=true)(a:dG y=true):cD M (n+1) x y=some (oj x y):=by
 cases x <;> cases y <;> first|exact absurd b zn|exact absurd a zn|rfl
def HX:cD M (n+1) (.int i) (.int j)=some (i==j):=rfl
def Bg:cD M (n+1) (.str i) (.str j)=some (i==j):=rfl
def kP(c:M[i]?=some (.lst xs))(b:M[j]?=some (.lst [])):cD M (n+1) (.ob i) (.ob j)=some xs.isEmpty:=by
 show (match M[i]?,M[j]? with
   |some (.lst xs),some (.lst a)=>if xs.length=a.length then gC (cD M n) xs a else some false
   |_,_=>none)=_
 rw[c,b];cases xs <;> rfl
def aaA:W (cq .Eq (.int i) (.int j)) M B=B (i==j) M:=by rw[gQ];simp[HX]
def aaz:W (cq .Eq (.str i) (.str j)) M B=B (i==j) M:=by rw[gQ];simp[Bg]
def aap:W (cq .NotEq (.int i) (.int j)) M B=B (!(i==j)) M:=by rw[JI];simp[HX]
def aao:W (cq .NotEq (.str i) (.str j)) M B=B (!(i==j)) M:=by rw[JI];simp[Bg]
def aas:W (cq .Lt (.int i) (.int j)) M B=B (decide (i<j)) M:=aE _ M B
def aat:W (cq .LtE (.int i) (.int j)) M B=B (decide (i<=j)) M:=aE _ M B
def aax:W (cq .Gt (.int i) (.int j)) M B=B (decide (j<i)) M:=aE _ M B
def aay:W (cq .GtE (.int i) (.int j)) M B=B (decide (j<=i)) M:=aE _ M B
def aaR:W (cq .In x y) M B=W (inD x y) M B:=rfl
def WW:W (cq .NotIn x y) M B=W (inD x y) M λ k M1=>B (!k) M1:=by
 show W (inD x y >>= λ b=>pure (!b)) M B=_;rwa[aU,aq,ao]
def aav:W (inD (.str i) (.str j)) M B=B (qC j i) M:=aE _ M B
def Ge:W (mT x ds) M B=∃b,jO M x ds=some b/\B b M:=by
 refine propext ⟨λ ⟨b,a,e,q⟩=>?_,λ ⟨b,e,q⟩=>⟨b,M,by unfold mT;rw[e],q⟩⟩;unfold mT at e;cases h:jO M x ds with
 |none=>rw[h]at e;cases e
 |some k=>rw[h]at e;cases e;exact⟨_,rfl,q⟩
def mU(a:dG x=true):∀{ds:List D},ds.all dG=true->jO M x ds=some (ds.any λ d=>oj d x)
 |[],_=>rfl
 |d::ds,h=>by
  rw[yk,zt]at h;unfold jO;rw[Oj h.1 a,mU a h.2];rfl
def aau:W (inD x (.tup ds)) M B=∃b,jO M x ds=some b/\B b M:=Ge
def aaw{i:Nat}:W (inD x (.ob i)) M B=∃o,M[i]?=some o/\W (match o with
  |.lst ds=>mT x ds
  |.bC a=>(do let k<-lift (jN x);pure (cX a k).isSome)
  ) M B:=by
 exact(aF (getM i) _ M B).trans (nM i M _)
def aaQ:W (cq .Is x y) M B=(pL y=true/\B (pL x) M):=by
 show W (need _ >>= λ _=>pure _) M B=_;rw[aF,cL,aE]
def WX:W (cq .IsNot x y) M B=(pL y=true/\B (!pL x) M):=by
 show W (need _ >>= λ _=>pure _) M B=_;rw[aF,cL,aE]
def aaH:W (gW (.tup ds) (.int i)) M Q=∃d,de ds i=some d/\Q d M:=fM _ M Q
def aaZ:W (gW (.fl ds) (.int i)) M Q=∃d,de ds i=some d/\Q d M:=fM _ M Q
def aaI:W (gW (.str t) (.int i)) M Q=(t.length<=zi/\∃c,de t.cps.toList i=some c/\Q (sgn c) M):=by
 show W (need _ >>= λ _=>lift (de t.cps.toList i) >>= λ c=>pure (sgn c)) M Q=_;rwa[aU,aq,eL,d9,ao]
abbrev sA(o:MO)(y:D)(M:MH)(Q:D->MH->Prop):Prop:=match o with
 |.lst ds=>∃i,y=.int i/\∃d,de ds i=some d/\Q d M
 |.bC a=>∃k,jN y=some k/\∃d,cX a k=some d/\Q d M
def aaJ:sA (.lst ds) (.int i) M Q=∃d,de ds i=some d/\Q d M:=by simp[sA]
def aaK:sA (.bC a) y M Q=∃k,jN y=some k/\∃d,cX a k=some d/\Q d M:=rfl
def aaY:W (gW (.ob j) y) M Q=∃o,M[j]?=some o/\sA o y M Q:=by
 have e:gW (.ob j) y=(getM j >>= λ o=>(match o with
  |.lst ds=>(match y with
   |.int i=>lift (de ds i)
   |_=>Mo.stop)
  |.bC a=>(do let q<-lift (jN y);lift (cX a q))
  ):Mo D):=by cases y <;> rfl
 rw[e,aF,nM];refine congrArg _ (funext λ o=>congrArg _ ?_);cases o with
 |lst ds=>cases y <;> simp[sA,qx,fM]
 |bC a=>simp[sA,aF,fM]
abbrev oO(j:Nat)(o:MO)(y v:D)(M:MH)(U:Unit->MH->Prop):Prop:=match o with
 |.lst ds=>∃i,y=.int i/\∃n,mh ds.length i=some n/\U () (M.set j (.lst (ds.set n v)))
 |.bC a=>∃k,jN y=some k/\a.length<zi/\U () (M.set j (.bC (jW a k v)))
def aai:oO j (.lst ds) (.int i) v M U=∃n,mh ds.length i=some n/\U () (M.set j (.lst (ds.set n v))):=by simp[oO]
def aaj:oO j (.bC a) y v M U=∃k,jN y=some k/\a.length<zi/\U () (M.set j (.bC (jW a k v))):=rfl
def aaO:W (setIx (.ob j) y v) M U=∃o,M[j]?=some o/\oO j o y v M U:=by
 show W (getM j >>= _) M U=_;rw[aF,nM];refine congrArg _ (funext λ o=>?_);refine propext (and_congr_right λ h=>?_);have a:j<M.length:=(zz.mp h).1;cases o with
 |lst ds=>cases y <;> simp[oO,qx,fM,aF,qy,a]
 |bC b=>simp[oO,aF,fM,cL,qy,a]
def Z8{t:Str}{lo hi:Option Int}:W (i6 (.str t) lo hi) M Q=(t.length<=zi/\Q (.str ⟨(cutD t.cps.toList lo hi).toArray⟩) M):=by
 show W (need _ >>= λ _=>pure _) M Q=_;rw[aF,cL,aE]
def Z9{j:Nat}{lo hi:Option Int}:W (i6 (.ob j) lo hi) M Q=∃ds,M[j]?=some (.lst ds)/\Q (.ob M.length) (M++[.lst (cutD ds lo hi)]):=by
 show W (getL j >>= λ ds=>cv _) M Q=_;rwa[aU,aq,fN,bY]
def YA:W (fR .len [.str t]) M Q=(t.length<=zi/\Q (.int t.length) M):=by
 show W (need _ >>= λ _=>pure _) M Q=_;rw[aF,cL,aE]
abbrev Az(o:MO):Int:=match o with
 |.lst ds=>ds.length
 |.bC a=>a.length
def YB:W (fR .len [.ob j]) M Q=∃o,M[j]?=some o/\Q (.int (Az o)) M:=by
 show W (getM j >>= _) M Q=_;rw[aF,nM];refine congrArg _ (funext λ o=>congrArg _ ?_);cases o <;> simp[Az,aE]
def Yx:Az (.lst ds)=ds.length:=rfl
def Yy:Az (.bC ds)=ds.length:=rfl
def Yz:W (fR .len [.tup ds]) M Q=Q (.int ds.length) M:=aE _ M Q
def YC:W (fR .len [.fl ds]) M Q=Q (.int ds.length) M:=aE _ M Q
def Yw:W (fR .tuple [.ob j]) M Q=∃ds,M[j]?=some (.lst ds)/\Q (.tup ds) M:=by
 show W (getL j >>= λ ds=>pure _) M Q=_;rwa[aU,aq,fN,ao]
def k_all:W (fR .all [.ob j]) M Q=∃ds,M[j]?=some (.lst ds)/\∃bs,ds.mapM bS=some bs/\Q (.bl (bs.all id)) M:=by
 show W (getL j >>= λ ds=>lift (ds.mapM bS) >>= λ bs=>pure _) M Q=_;rwa[aU,aq,fN,d9,ao]
def aaG:W (fR .min2 [.int i,.int j]) M Q=Q (.int (min i j)) M:=by
 have e:min i j=if j<i then j else i:=by split <;> omega
 rw[e];exact aE _ M Q
def aac:W (eY (.str t)) M S=(t.length<=zi/\S ⟨none,t.cps.toList.map sgn⟩ M):=by
 show W (need _ >>= λ _=>pure _) M S=_;rw[aF,cL,aE]
def aab:W (eY (.tup ds)) M S=S ⟨none,ds⟩ M:=aE _ M S
def aad:W (eY (.ob j)) M S=∃ds,M[j]?=some (.lst ds)/\S ⟨some (j,ds),ds⟩ M:=by
 show W (getL j >>= λ ds=>pure _) M S=_;rwa[aU,aq,fN,ao]
def aaN:W (mD (.bl b)) M B=B b M:=aE _ M B
def bJ(I:Nat->List D->MH->Prop)(z:I 0 [] M)(s:∀n ys M,I n ys M->nY ck M)
  (h:∀(n:Nat) (d:D) (ys:List D) (M:MH),ds[n]?=some d->I n ys M->W (c (some d::ρ)) M λ b k=>(b=true->W (e (some d::ρ)) k λ y m=>I (n+1) (ys++[y]) m)/\(b=false->I (n+1) ys k))
  (q:∀ys M,I ds.length ys M->L ys M):W (eT ck c e ρ ds) M L:=by
 suffices H:∀(r:List D) (n:Nat) (ys:List D) (M:MH),(∀j d,r[j]?=some d->ds[n+j]?=some d)->n+r.length=ds.length->I n ys M->W (eT ck c e ρ r) M λ o C=>L (ys++o) C by
  simpa using H ds 0 [] M (λ j d e=>by simpa using e) (by simp) z
 intro r;induction r with
 |nil =>
  intro n ys M _ l i;unfold eT;rw[aF];refine W.of (show cK ck M=some (.ok (),M) from if_pos (s _ _ _ i)) ?_;rw[aE,zO]
  have:n=ds.length:=by simpa using l
  exact q _ _ (this▸i)
 |cons d r p =>
  intro n ys M t l i;unfold eT;rw[aF];refine W.of (show cK ck M=some (.ok (),M) from if_pos (s _ _ _ i)) ?_;rw[aF];have hd:ds[n]?=some d:=by simpa using t 0 d rfl
  have f:∀j d',r[j]?=some d'->ds[n+1+j]?=some d':=λ j d' e=>by
   have:=t (j+1) d' (by simpa using e)
   (rw[show n+(j+1)=n+1+j by omega]at this;assumption)
  have g:n+1+r.length=ds.length:=by rw[zj]at l;first|lia|omega
  refine(h n d ys M hd i).mono λ b k u=>?_;rw[Vz];refine⟨λ a=>?_,λ a=>p (n+1) ys k f g (u.2 a)⟩;rw[aF];refine(u.1 a).mono λ y m A=>?_;rw[aF];refine(p (n+1) (ys++[y]) m f g A).mono λ o E w=>?_;rw[aE];simpa using w
abbrev oS(I:Nat->Ev->MH->Prop)(F:Fl->MH->Prop)(n:Nat)(f:Fl)(b:MH):Prop:=match f with
 |.nx a=>I (n+1) a b
 |.ct a=>I (n+1) a b
 |.bk a=>F (.nx a) b
 |.rt v=>F (.rt v) b
def aaE:oS I F n (.nx ρ) M=I (n+1) ρ M:=rfl
def aaF:oS I F n (.bk ρ) M=F (.nx ρ) M:=rfl
def aaD:oS I F n (.rt v) M=F (.rt v) M:=rfl
def dO(I:Nat->Ev->MH->Prop)(t:I 0 ρ M)(o:∀n ρ M,I n ρ M->nY ck M)
  (h:∀(n:Nat) (d:D) (ρ:Ev) (M:MH),ds[n]?=some d->I n ρ M->W (body (ρ.set i (some d))) M (oS I F n))
  (q:∀ρ M,I ds.length ρ M->F (.nx ρ) M):W (fC ck i body ds ρ) M F:=by
 suffices H:∀(r:List D) (n:Nat) (ρ:Ev) (M:MH),(∀j d,r[j]?=some d->ds[n+j]?=some d)->n+r.length=ds.length->I n ρ M->W (fC ck i body r ρ) M F from
  H ds 0 ρ M (λ j d e=>by simpa using e) (by simp) t
 intro r;induction r with
 |nil =>
  intro n ρ M _ l g;unfold fC;rw[aF];refine W.of (show cK ck M=some (.ok (),M) from if_pos (o _ _ _ g)) ?_;rw[aE]
  have:n=ds.length:=by simpa using l
  exact q _ _ (this▸g)
 |cons d r m =>
  intro n ρ M p l g;unfold fC;rw[aF];refine W.of (show cK ck M=some (.ok (),M) from if_pos (o _ _ _ g)) ?_;rw[aF];have hd:ds[n]?=some d:=by simpa using p 0 d rfl
  have b:∀j d',r[j]?=some d'->ds[n+1+j]?=some d':=λ j d' e=>by
   have:=p (j+1) d' (by simpa using e)
   (rw[show n+(j+1)=n+1+j by omega]at this;assumption)
  have c:n+1+r.length=ds.length:=by rw[zj]at l;first|lia|omega
  refine(h n d ρ M hd g).mono λ f s k=>?_;cases f with
  |nx a=>exact m (n+1) a s b c k
  |ct a=>exact m (n+1) a s b c k
  |bk a=>exact(aE _ _ _).mpr k
  |rt v=>exact(aE _ _ _).mpr k
end
def Yv:jN (.str x)=some (.inr x):=rfl
section
variable {Γ:Ctx}{ρ:Ev}{M:MH}{a b c:IE}{Q:D->MH->Prop}{es:dE}{x y:D}{B:Bool->MH->Prop}
def W5:W (rY (.ob k)) M Q=∃ds,M[k]?=some (.lst ds)/\∃xs,fv ds=some xs/\(au [] xs).length<64/\Q (.ob M.length) (M++[.lst ((gL (au [] xs)).map .str)]):=by
 show W (getL k >>= λ ds=>lift (fv ds) >>= λ xs=>need _ >>= λ _=>cv _) M Q=_;rwa[aU,aq,fN,d9,eL,bY]
def W7:W (me (.tup ds)) M Q=∃xs,fv ds=some xs/\(au [] xs).length<64/\Q (.int (au [] xs).length) M:=by
 show W (lift (fv ds) >>= λ xs=>need _ >>= λ _=>pure _) M Q=_;rwa[aU,aq,d9,eL,ao]
def WS:W (pj e (.ob i) xs) M Q=∃d,M[i]?=some (.bC d)/\(d.isEmpty=true/\e.length=xs.length/\e.length<=15)/\Q (.ob i) (M.set i (.bC (je [] ((e.map Sum.inr).zip xs)))):=by
 show W (getD i >>= λ d=>need _ >>= λ _=>e9 i _ >>= λ _=>pure _) M Q=_;rw[aF,Gf];refine congrArg _ (funext λ d=>propext (and_congr_right λ h=>?_));rw[aF,cL,aF,qy,aE];exact and_congr_right λ _=>⟨λ q=>q.2,λ q=>⟨(zz.mp h).1,q⟩⟩
def X7{i j st:Int}{Q:Src->MH->Prop}:W (mK (.int i) (.int j) (.int st)) M Q=((small i/\small j/\st=-1/\j<=i)/\Q ⟨none,gP i j st⟩ M):=by
 show W (need _ >>= λ _=>pure _) M Q=_;rw[aF,cL,aE]
def aan:W (fj .Pow (.int i) (.int j)) M Q=((0<=j/\j<=1000000/\i.natAbs<2 ^ 64)/\Q (.int (i ^ j.toNat)) M):=by
 show W (need _ >>= λ _=>pure _) M Q=_;rw[aF,cL,aE]
section
variable {U:Unit->MH->Prop}
def Jv:W (iz .append (.ob k)) M U=∃ds,M[k]?=some (.lst ds)/\U () M:=by
 show W (getL k >>= λ _=>pure ()) M U=_;rwa[aU,aq,fN,ao]
def VD:W (iz .extend (.ob k)) M U=∃ds,M[k]?=some (.lst ds)/\U () M:=Jv
def WV:W (iz .split (.str k)) M U=U () M:=aE _ M U
def XS:W (iz .partition (.str k)) M U=U () M:=aE _ M U
def XU:W (iz .find (.str k)) M U=U () M:=aE _ M U
def XT:W (iz .join (.str k)) M U=U () M:=aE _ M U
end
def KO{β:Type}{k:Nat}{o:MO}{r:β}{R:β->MH->Prop}{ds:List D}(h:M[k]?=some (.lst ds)):W (e9 k o >>= λ _=>pure r) M R=R r (M.set k o):=by
 rw[aF,qy];have e:W (pure r:Mo β) (M.set k o) R=R r (M.set k o):=aE _ _ _;rw[e];simp[Hc h]
def VO:W (fF .append (.ob k) [y]) M Q=∃ds,M[k]?=some (.lst ds)/\ds.length<zi/\Q .non (M.set k (.lst (ds++[y]))):=by
 show W (getL k >>= λ ds=>need _ >>= λ _=>e9 k _ >>= λ _=>pure D.non) M Q=_;rw[aF,uW];refine congrArg _ (funext λ ds=>propext (and_congr_right λ h=>?_));rw[aF,cL,KO h]
def m_split:W (fF .split (.str s) [.str t]) M Q=((0<t.length/\s.length<=zi/\(ax s t).length<=zi)/\Q (.ob M.length) (M++[.lst ((ax s t).map .str)])):=by
 show W (need _ >>= λ _=>cv _) M Q=_;rwa[aU,aq,eL,bY]
def Yo:W (fF .partition (.str s) [.str t]) M Q=((0<t.length/\s.length<=zi)/\Q (.tup ((iP s t).map .str)) M):=by
 show W (need _ >>= λ _=>pure _) M Q=_;rwa[aU,aq,eL,ao]
def m_find:W (fF .find (.str s) [.str t]) M Q=Q (.int (findS s t)) M:=aE _ M Q
def WY{t:Str}{ds:List D}:W (fF .join (.str t) [.tup ds]) M Q=∃ys,ds.mapM p8=some ys/\(ys.map (·.length)).sum+ys.length*t.length<=16777216/\Q (.str (fV t ys)) M:=by
 show W (lift _ >>= λ ys=>need _ >>= λ _=>pure _) M Q=_;rwa[aU,aq,eL,d9,ao]
def Yp{t:Str}{k:Nat}:W (fF .join (.str t) [.ob k]) M Q=∃ds,M[k]?=some (.lst ds)/\∃ys,ds.mapM p8=some ys/\(ys.map (·.length)).sum+ys.length*t.length<=16777216/\Q (.str (fV t ys)) M:=by
 show W (getL k >>= λ ds=>lift _ >>= λ ys=>need _ >>= λ _=>pure _) M Q=_;rwa[aU,aq,fN,eL,d9,ao]
def Um{k:Nat}{es:List D}:W (fF .extend (.ob k) [.tup es]) M Q=∃ds,M[k]?=some (.lst ds)/\(ds.length+es.length<=zi/\true)/\Q .non (M.set k (.lst (ds++es))):=by
 show W (pure es >>= λ es=>getL k >>= λ ds=>need _ >>= λ _=>e9 k _ >>= λ _=>pure D.non) M Q=_;rw[aF,aE,aF,uW];refine congrArg _ (funext λ ds=>propext (and_congr_right λ h=>?_));rw[aF,cL,KO h];simp[QD]
end
section
variable {α:Type}{a b c d e f g:α}{l:List α}
def Vc:de (a::l) 0=some a:=by simp[de,mh]
def at1:de (a::b::l) 1=some b:=bN (j:=1) rfl
def at2:de (a::b::c::l) 2=some c:=bN (j:=2) rfl
def at3:de (a::b::c::d::l) 3=some d:=bN (j:=3) rfl
def at4:de (a::b::c::d::e::l) 4=some e:=bN (j:=4) rfl
def at5:de (a::b::c::d::e::f::l) 5=some f:=bN (j:=5) rfl
end
def fQ{α:Type}(xs:List α)(h:0<=v):cutD xs none (some v)=xs.take v.toNat:=by
 unfold cutD;rwa[eS];rw[if_neg (by first|lia|omega),wo,xg]
 by_cases a:v.toNat<=xs.length
 ·rw[wj a]
 ·rw[vp (by first|lia|omega),zM,yM (by first|lia|omega)]
def gY{α:Type}(xs:List α)(h:0<=v):cutD xs (some v) none=xs.drop v.toNat:=by
 unfold cutD;rwa[eS];rw[if_neg (by first|lia|omega)]
 by_cases a:v.toNat<=xs.length
 ·rw[wj a,yM (by rw[yr];exact zq _)]
 ·rw[vp (by first|lia|omega),yR,wm (by first|lia|omega)]
  simp
def iJ{α:Type}(xs:List α)(lo hi:Option Int):(cutD xs lo hi).length<=xs.length:=by
 unfold cutD;rw[zS,yr];first|lia|omega
def TK(b:M[i]?=some (.lst xs))(a:M[j]?=some (.lst ys)):cD M (n+1) (.ob i) (.ob j)=if xs.length=ys.length then gC (cD M n) xs ys else some false:=by
 show (match M[i]?,M[j]? with
   |some (.lst xs),some (.lst ys)=>if xs.length=ys.length then gC (cD M n) xs ys else some false
   |_,_=>none)=_
 rw[b,a]
abbrev av:Nat->aD->aD
 |0,s=>s
 |n+1,.cons _ r=>av n r
 |_+1,.nil=>.nil
def bH:av 0 s=s:=rfl
abbrev fq:Nat->aD->aD->aD
 |0,_,t=>t
 |n+1,.cons s r,t=>.cons s (fq n r t)
 |_+1,.nil,t=>t
def di:fq 0 s t=t:=rfl
def dh:fq (n+1) (.cons s r) t=.cons s (fq n r t):=rfl
def jY:∀(n:Nat) (b:aD),b=fq n b (av n b)
 |0,_=>rfl
 |n+1,.cons s r=>congrArg _ (jY n r)
 |_+1,.nil=>rfl
def bG:av (n+1) (.cons s r)=av n r:=rfl
section
variable {Γ:Ctx}{ρ:Ev}{M:MH}{Q:D->MH->Prop}{x y v:D}{a:IE}{s1:aD}{U:Unit->MH->Prop}{B:Bool->MH->Prop}{S:Src->MH->Prop}{F:Fl->MH->Prop}
def aam:W (iz .get (.ob k)) M U=∃ds,M[k]?=some (.bC ds)/\U () M:=by
 show W (getD k >>= λ _=>pure ()) M U=_;rwa[aU,aq,Gi,ao]
def aaC:W (fF .get (.ob k) [y,v]) M Q=∃b,M[k]?=some (.bC b)/\∃q,jN y=some q/\Q ((cX b q).getD v) M:=by
 show W (getD k >>= λ b=>lift (jN y) >>= λ q=>pure _) M Q=_;rwa[aU,aq,Gi,d9,ao]
def Ww:W (pd (.ob j)) M S=∃ds,M[j]?=some (.lst ds)/\S ⟨some (j,ds),gX ds⟩ M:=by
 show W (getL j >>= λ ds=>pure _) M S=_;rwa[aU,aq,fN,ao]
def W6:W (sf (.ob j)) M S=∃ds,M[j]?=some (.lst ds)/\S ⟨some (j,ds),ds.reverse⟩ M:=by
 show W (getL j >>= λ ds=>pure _) M S=_;rwa[aU,aq,fN,ao]
def MQ(I:Nat->Ev->MH->Prop)(w:I 0 ρ M)(p:∀n ρ M,I n ρ M->nY ck M)
  (h:∀(n:Nat) (d:D) (ρ:Ev) (M:MH),ds[n]?=some d->I n ρ M->∃xs b,d=.tup xs/\iR is xs ρ=some b/\W (body b) M (oS I F n))
  (q:∀ρ M,I ds.length ρ M->F (.nx ρ) M):W (dR ck is body ds ρ) M F:=by
 suffices H:∀(r:List D) (n:Nat) (ρ:Ev) (M:MH),(∀j d,r[j]?=some d->ds[n+j]?=some d)->n+r.length=ds.length->I n ρ M->W (dR ck is body r ρ) M F from
  H ds 0 ρ M (λ j d e=>by simpa using e) (by simp) w
 intro r;induction r with
 |nil =>
  intro n ρ M _ m k;unfold dR;rw[aF];refine W.of (show cK ck M=some (.ok (),M) from if_pos (p _ _ _ k)) ?_;rw[aE]
  have:n=ds.length:=by simpa using m
  exact q _ _ (this▸k)
 |cons d r o =>
  intro n ρ M s m k;unfold dR;rw[aF];refine W.of (show cK ck M=some (.ok (),M) from if_pos (p _ _ _ k)) ?_;have hd:ds[n]?=some d:=by simpa using s 0 d rfl
  have g:∀j d',r[j]?=some d'->ds[n+1+j]?=some d':=λ j d' e=>by
   have:=s (j+1) d' (by simpa using e)
   (rw[show n+(j+1)=n+1+j by omega]at this;assumption)
  have i:n+1+r.length=ds.length:=by rw[zj]at m;first|lia|omega
  let⟨xs,b,rfl,u,hw⟩:=h n d ρ M hd k;rw[aF,fM];exists xs,rfl;rw[aF,fM];exists b,u;rw[aF];refine hw.mono λ f t l=>?_;cases f with
  |nx c=>exact o (n+1) c t g i l
  |ct c=>exact o (n+1) c t g i l
  |bk c=>exact(aE _ _ _).mpr l
  |rt v=>exact(aE _ _ _).mpr l
abbrev IZ:MO->Bool
 |.lst ds=>!ds.isEmpty
 |.bC b=>!b.isEmpty
def aaM:W (mD (.ob k)) M B=∃o,M[k]?=some o/\B (IZ o) M:=by
 show W (getM k >>= _) M B=_;rw[aF,nM];refine congrArg _ (funext λ o=>congrArg _ ?_);cases o <;> simp[IZ,aE]
def aah:IZ (.lst ds)=!ds.isEmpty:=rfl
def pf{ds:List D}{n:Nat}{d:D}(h:(gX ds)[n]?=some d):∃x,ds[n]?=some x/\d=.tup [.int n,x]:=by
 unfold gX at h;rw[wA]at h;let⟨x,c,b⟩:=zp.mp h;exact⟨x,c,b.symm⟩
def rE:(gX ds).length=ds.length:=wN
def lV(I:Nat->Ev->MH->Prop)(u:I 0 ρ M)(p:∀n ρ M,I n ρ M->nY ck M)
  (h:∀(n:Nat) (d:D) (ρ:Ev) (M:MH),ds[n]?=some d->I n ρ M->∃x y,d=.tup [x,y]/\W (body ((ρ.set i (some x)).set j (some y))) M (oS I F n))
  (q:∀ρ M,I ds.length ρ M->F (.nx ρ) M):W (dg ck i j body ds ρ) M F:=by
 suffices H:∀(r:List D) (n:Nat) (ρ:Ev) (M:MH),(∀j d,r[j]?=some d->ds[n+j]?=some d)->n+r.length=ds.length->I n ρ M->W (dg ck i j body r ρ) M F from
  H ds 0 ρ M (λ j d e=>by simpa using e) (by simp) u
 intro r;induction r with
 |nil =>
  intro n ρ M _ m k;unfold dg;rw[aF];refine W.of (show cK ck M=some (.ok (),M) from if_pos (p _ _ _ k)) ?_;rw[aE]
  have:n=ds.length:=by simpa using m
  exact q _ _ (this▸k)
 |cons d r o =>
  intro n ρ M s m k;unfold dg;rw[aF];refine W.of (show cK ck M=some (.ok (),M) from if_pos (p _ _ _ k)) ?_;have hd:ds[n]?=some d:=by simpa using s 0 d rfl
  have c:∀j d',r[j]?=some d'->ds[n+1+j]?=some d':=λ j d' e=>by
   have:=s (j+1) d' (by simpa using e)
   (rw[show n+(j+1)=n+1+j by omega]at this;assumption)
  have g:n+1+r.length=ds.length:=by rw[zj]at m;first|lia|omega
  let⟨x,y,rfl,hw⟩:=h n d ρ M hd k;rw[aF,fM];exists (x,y),rfl;rw[aF];refine hw.mono λ f t l=>?_;cases f with
  |nx b=>exact o (n+1) b t c g l
  |ct b=>exact o (n+1) b t c g l
  |bk b=>exact(aE _ _ _).mpr l
  |rt v=>exact(aE _ _ _).mpr l
end
section
variable {Γ:Ctx}{ρ:Ev}{M:MH}{Q:D->MH->Prop}{d:D}{e:IE}{r:aD}{F:Fl->MH->Prop}{y o0 o1 o2 o3 o4 o5 o6 o7 o8 o9 gp jM nq tM Lk:Option D}
def v0_:V (tE Γ (.var 0) (some d::ρ)) M Q=Q d M:=rfl
def v1_:V (tE Γ (.var 1) (o0::some d::ρ)) M Q=Q d M:=rfl
def v2_:V (tE Γ (.var 2) (o0::o1::some d::ρ)) M Q=Q d M:=rfl
def v3_:V (tE Γ (.var 3) (o0::o1::o2::some d::ρ)) M Q=Q d M:=rfl
def v4_:V (tE Γ (.var 4) (o0::o1::o2::o3::some d::ρ)) M Q=Q d M:=rfl
def v5_:V (tE Γ (.var 5) (o0::o1::o2::o3::o4::some d::ρ)) M Q=Q d M:=rfl
def v6_:V (tE Γ (.var 6) (o0::o1::o2::o3::o4::o5::some d::ρ)) M Q=Q d M:=rfl
def v7_:V (tE Γ (.var 7) (o0::o1::o2::o3::o4::o5::o6::some d::ρ)) M Q=Q d M:=rfl
def v8_:V (tE Γ (.var 8) (o0::o1::o2::o3::o4::o5::o6::o7::some d::ρ)) M Q=Q d M:=rfl
def v9_:V (tE Γ (.var 9) (o0::o1::o2::o3::o4::o5::o6::o7::o8::some d::ρ)) M Q=Q d M:=rfl
def v10_:V (tE Γ (.var 10) (o0::o1::o2::o3::o4::o5::o6::o7::o8::o9::some d::ρ)) M Q=Q d M:=rfl
def v11_:V (tE Γ (.var 11) (o0::o1::o2::o3::o4::o5::o6::o7::o8::o9::gp::some d::ρ)) M Q=Q d M:=rfl
def v12_:V (tE Γ (.var 12) (o0::o1::o2::o3::o4::o5::o6::o7::o8::o9::gp::jM::some d::ρ)) M Q=Q d M:=rfl
def v13_:V (tE Γ (.var 13) (o0::o1::o2::o3::o4::o5::o6::o7::o8::o9::gp::jM::nq::some d::ρ)) M Q=Q d M:=rfl
def v14_:V (tE Γ (.var 14) (o0::o1::o2::o3::o4::o5::o6::o7::o8::o9::gp::jM::nq::tM::some d::ρ)) M Q=Q d M:=rfl
def v15_:V (tE Γ (.var 15) (o0::o1::o2::o3::o4::o5::o6::o7::o8::o9::gp::jM::nq::tM::Lk::some d::ρ)) M Q=Q d M:=rfl
def s0_:V (bu Γ (.cons (.set 0 e) r) (y::ρ)) M F=V (tE Γ e (y::ρ)) M λ x a=>V (bu Γ r (some x::ρ)) a F:=rfl
def s1_:V (bu Γ (.cons (.set 1 e) r) (o0::y::ρ)) M F=V (tE Γ e (o0::y::ρ)) M λ x a=>V (bu Γ r (o0::some x::ρ)) a F:=rfl
def s2_:V (bu Γ (.cons (.set 2 e) r) (o0::o1::y::ρ)) M F=V (tE Γ e (o0::o1::y::ρ)) M λ x a=>V (bu Γ r (o0::o1::some x::ρ)) a F:=rfl
def s3_:V (bu Γ (.cons (.set 3 e) r) (o0::o1::o2::y::ρ)) M F=V (tE Γ e (o0::o1::o2::y::ρ)) M λ x a=>V (bu Γ r (o0::o1::o2::some x::ρ)) a F:=rfl
def s4_:V (bu Γ (.cons (.set 4 e) r) (o0::o1::o2::o3::y::ρ)) M F=V (tE Γ e (o0::o1::o2::o3::y::ρ)) M λ x a=>V (bu Γ r (o0::o1::o2::o3::some x::ρ)) a F:=rfl
def s5_:V (bu Γ (.cons (.set 5 e) r) (o0::o1::o2::o3::o4::y::ρ)) M F=V (tE Γ e (o0::o1::o2::o3::o4::y::ρ)) M λ x a=>V (bu Γ r (o0::o1::o2::o3::o4::some x::ρ)) a F:=rfl
def s6_:V (bu Γ (.cons (.set 6 e) r) (o0::o1::o2::o3::o4::o5::y::ρ)) M F=V (tE Γ e (o0::o1::o2::o3::o4::o5::y::ρ)) M λ x a=>V (bu Γ r (o0::o1::o2::o3::o4::o5::some x::ρ)) a F:=rfl
def s7_:V (bu Γ (.cons (.set 7 e) r) (o0::o1::o2::o3::o4::o5::o6::y::ρ)) M F=V (tE Γ e (o0::o1::o2::o3::o4::o5::o6::y::ρ)) M λ x a=>V (bu Γ r (o0::o1::o2::o3::o4::o5::o6::some x::ρ)) a F:=rfl
def s8_:V (bu Γ (.cons (.set 8 e) r) (o0::o1::o2::o3::o4::o5::o6::o7::y::ρ)) M F=V (tE Γ e (o0::o1::o2::o3::o4::o5::o6::o7::y::ρ)) M λ x a=>V (bu Γ r (o0::o1::o2::o3::o4::o5::o6::o7::some x::ρ)) a F:=rfl
def s9_:V (bu Γ (.cons (.set 9 e) r) (o0::o1::o2::o3::o4::o5::o6::o7::o8::y::ρ)) M F=V (tE Γ e (o0::o1::o2::o3::o4::o5::o6::o7::o8::y::ρ)) M λ x a=>V (bu Γ r (o0::o1::o2::o3::o4::o5::o6::o7::o8::some x::ρ)) a F:=rfl
def s10_:V (bu Γ (.cons (.set 10 e) r) (o0::o1::o2::o3::o4::o5::o6::o7::o8::o9::y::ρ)) M F=V (tE Γ e (o0::o1::o2::o3::o4::o5::o6::o7::o8::o9::y::ρ)) M λ x a=>V (bu Γ r (o0::o1::o2::o3::o4::o5::o6::o7::o8::o9::some x::ρ)) a F:=rfl
def s11_:V (bu Γ (.cons (.set 11 e) r) (o0::o1::o2::o3::o4::o5::o6::o7::o8::o9::gp::y::ρ)) M F=V (tE Γ e (o0::o1::o2::o3::o4::o5::o6::o7::o8::o9::gp::y::ρ)) M λ x a=>V (bu Γ r (o0::o1::o2::o3::o4::o5::o6::o7::o8::o9::gp::some x::ρ)) a F:=rfl
def s12_:V (bu Γ (.cons (.set 12 e) r) (o0::o1::o2::o3::o4::o5::o6::o7::o8::o9::gp::jM::y::ρ)) M F=V (tE Γ e (o0::o1::o2::o3::o4::o5::o6::o7::o8::o9::gp::jM::y::ρ)) M λ x a=>V (bu Γ r (o0::o1::o2::o3::o4::o5::o6::o7::o8::o9::gp::jM::some x::ρ)) a F:=rfl
def s13_:V (bu Γ (.cons (.set 13 e) r) (o0::o1::o2::o3::o4::o5::o6::o7::o8::o9::gp::jM::nq::y::ρ)) M F=V (tE Γ e (o0::o1::o2::o3::o4::o5::o6::o7::o8::o9::gp::jM::nq::y::ρ)) M λ x a=>V (bu Γ r (o0::o1::o2::o3::o4::o5::o6::o7::o8::o9::gp::jM::nq::some x::ρ)) a F:=rfl
def s14_:V (bu Γ (.cons (.set 14 e) r) (o0::o1::o2::o3::o4::o5::o6::o7::o8::o9::gp::jM::nq::tM::y::ρ)) M F=V (tE Γ e (o0::o1::o2::o3::o4::o5::o6::o7::o8::o9::gp::jM::nq::tM::y::ρ)) M λ x a=>V (bu Γ r (o0::o1::o2::o3::o4::o5::o6::o7::o8::o9::gp::jM::nq::tM::some x::ρ)) a F:=rfl
def s15_:V (bu Γ (.cons (.set 15 e) r) (o0::o1::o2::o3::o4::o5::o6::o7::o8::o9::gp::jM::nq::tM::Lk::y::ρ)) M F=V (tE Γ e (o0::o1::o2::o3::o4::o5::o6::o7::o8::o9::gp::jM::nq::tM::Lk::y::ρ)) M λ x a=>V (bu Γ r (o0::o1::o2::o3::o4::o5::o6::o7::o8::o9::gp::jM::nq::tM::Lk::some x::ρ)) a F:=rfl
end
end L3
local macro_rules|`(tactic| walk_at $s:str)=>do
 unless s.getString=="wp"||s.getString=="ws"||s.getString=="wx" do Lean.Macro.throwUnsupported
 let a<-(("v0_ v1_ v2_ v3_ v4_ v5_ v6_ v7_ v8_ v9_ v10_ v11_ v12_ v13_ v14_ v15_ s0_ s1_ s2_ s3_ s4_ s5_ s6_ s7_ s8_ s9_ s10_ s11_ s12_ s13_ s14_ s15_".splitOn " ").toArray.map λ s=>Lean.mkIdent (`L3++s.toName)).mapM λ i=>`(Lean.Parser.Tactic.simpLemma| ↓ $i:ident)
 let b<-((("aaE xE xEs xP xC xCo xS xS1 aaL YH Vv WI Wz W6 Xn WY TZ WV m_split XS Yo aaF aaD aam aaC WE Ww WA aaM aah aF aE Xk Xu aaf Xp OL Xx XA Xy WQ XB aae Xv Xl Xs WN Xw Xm WR Xz WO WJ W5 WK W7 Xo WL Xq WM WS WB XU m_find X7 Xr Wx MN IU WH WG W8 Wy XE XC XD XF aag Vy Vx Yl Yk Ym Xe WD W9 Vw WC Xd Xg Si Xf ZT Yc X0 X9 X8 Yb aaq aaB aar aaA aaz aap aao aan aas aat aax aay aaR WW aav aau aaw Ge aaQ WX aaH aaZ aaI aaJ aaK aaY aai aaj aaO Z8 Z9 YA YB Yx Yy Yz YC Yw Jv VD XT VO Yp Um Vc at1 at2 at3 at4 at5 k_all aaG aac aab aad aaN fM cL OM uW nM Yv D.int.injEq D.bl.injEq D.ob.injEq MO.lst.injEq MO.bC.injEq".replace " Si " (if s.getString=="wp" then " Si " else " Xc aak aal ")).splitOn " ").toArray.map λ s=>Lean.mkIdent (`L3++s.toName)).mapM λ i=>`(Lean.Parser.Tactic.simpLemma| $i:ident)
 let c<-(("List.getElem?_cons_zero List.getElem?_cons_succ List.set_cons_zero List.set_cons_succ Option.some.injEq exists_eq_left' List.map_cons List.map_nil List.cons_append List.nil_append List.replicate_succ List.replicate_zero List.length_cons List.length_nil true_and and_true Nat.reduceAdd Nat.reduceSub".splitOn " ").toArray.map λ s=>Lean.mkIdent s.toName).mapM λ i=>`(Lean.Parser.Tactic.simpLemma| $i:ident)
 let l:=a++b++c
 if s.getString=="wx" then `(tactic| try simp -dsimp -implicitDefEqProofs only [$l,*]) else `(tactic| try simp -dsimp only[$l,*])
local macro_rules|`(tactic| walk_at "wq")=>`(tactic| (walk_at "wp";try rwa[yN,xw,zY,wO,false_implies,true_implies,implies_true,true_and,and_true]))
local macro_rules|`(tactic| walk_at "wr")=>`(tactic| (walk_at "ws";try rwa[yN,xw,zY,wO,false_implies,true_implies,implies_true,true_and,and_true]))
local macro_rules|`(tactic| walk_at "o")=>`(tactic| first|decide|exact L3.WZ (by decide)|with_reducible exact Int.add_nonneg (by assumption) (by decide)|with_reducible exact L3.up_ (by assumption) (by with_reducible decide)|lia|omega)
local macro_rules|`(tactic| lk)=>`(tactic| first|decide|exact L3.WZ (by decide)|with_reducible exact Int.add_nonneg (by assumption) (by decide)|with_reducible exact L3.up_ (by assumption) (by with_reducible decide)|lia|omega)
local macro_rules|`(tactic| symm)=>`(tactic| walk_at "wq")
local macro_rules|`(tactic| ac_rfl)=>`(tactic| walk_at "wr")
namespace L3
open PySem
abbrev XZ(p:Str×Str):D:=.tup [.str p.1,.str p.2]
abbrev XI:D->Str×Str
 |.tup [.str a,.str b]=>(a,b)
 |_=>("","")
abbrev look(ps:List (Str×Str))(n:Str):Option Str:=(ps.find? λ p=>decide (p.1=n)).map (·.2)
def WT(p:Str×Str):XI (XZ p)=p:=rfl
end L3
namespace Law
open PySem L3
abbrev gl(x:Str):Option D:=if x=("LETTERS":Str) then some (.str ("abcdefghijklmnopqrstuvwxyz":Str)) else if x=("FIGURES":Str) then some (.str ("0123456789":Str)) else if x=("LONGEST_NAME":Str) then some (.int 8) else if x=("LONGEST_VALUE":Str) then some (.int 12) else if x=("NONE":Str) then some (.str ("-":Str)) else if x=("MOST_ASKINGS":Str) then some (.int 4) else if x=("MOST_VALUES":Str) then some (.int 3) else if x=("AHEAD":Str) then some (.int 6) else if x=("DEEPEST":Str) then some (.int 4) else if x=("MOST_ROWS":Str) then some (.int 20) else if x=("MOST_BELOW":Str) then some (.int 5) else if x=("MOST_NAMES":Str) then some (.int 4) else if x=("MOST_NAMES_ASKED":Str) then some (.int 4) else if x=("MOST_VALUES_ASKED":Str) then some (.int 3) else if x=("MOST_FIGURES":Str) then some (.int 10) else if x=("GREATEST":Str) then some (.int 1000000000) else if x=("SIGN_OF":Str) then some (.tup [.tup [.str ("is":Str),.str ("=":Str)],.tup [.str ("no":Str),.str ("!":Str)],.tup [.str ("there":Str),.str ("+":Str)],.tup [.str ("lacks":Str),.str ("-":Str)]]) else none
open Lean in
set_option bootstrap.genMatcherCode true in
nonrec def pI(t:List String)(p:List Term×List Char)(c:Char):List Term×List Char :=
 let (l,a):=p
 let q:=c=='`'
 if a.isEmpty then
  if q then (l,[c]) else if c.isDigit then (quote (c.toNat-48)::l,a) else
  let j:=t.idxOf c.toString
  let k:=(t.getD (j+2) "").toNat!
  let x:Term:=⟨mkNode `Lean.Parser.Term.dotIdent #[mkAtom ".",mkIdent (.mkSimple (t.getD (j+1) ""))]⟩
  ((if k==0 then x else Syntax.mkApp x (l.take k).reverse.toArray)::l.drop k,a)
 else if q then
  let s:=String.ofList a.tail
  ((match a with
   |_::'#'::r=>quote (String.ofList r).toNat!
   |_::'~'::r=>quote ("_law_"++String.ofList r)
   |_=>quote s)::l,[])
 else (l,a++[c])
local macro_rules|`(tactic| walk_at $s:str)=>do
 unless s.getString.startsWith "!" do Lean.Macro.throwUnsupported
 `(tactic| exact $((s.getString.toList.tail.foldl (pI ("[ cons 2 ] nil 0 a var 1 b cint 1 c bin 3 d set 2 e cstr 1 f cmp 3 g ret 1 h call 2 i idx 2 j cmp 1 k Add 0 l ifS 3 m blt 2 n none 0 o Eq 0 p lst 1 q len 0 r some 1 s slc 3 t mth 3 u glb 1 v tup 1 w Mod 0 x comp 4 y cbl 1 z or 2 A and 2 B tru 1 C seq 1 D rng1 1 E LtE 0 F forS 3 G false 0 H Lt 0 I intB 1 J not 1 K expr 1 L Gt 0 M cnon 0 N tuple 0 O append 0 P FloorDiv 0 Q split 0 R In 0 S true 0 T Mult 0 U NotIn 0 V cmp2 5 W forP 4 X min2 0 Y neg 1 Z brk 0 ! enum 1 # Sub 0 $ setIx 3 % join 0 & all 0 * NotEq 0 + ifE 3 , rz 2 . find 0 / sset 1 : extend 0 ; lset 1 < revs 1 = GtE 0 > strI 1 ? get 0 @ IsNot 0 ^ rfs 1 _ rep 1 | gitems 1 α partition 0 β Is 0 γ rng3 3 δ forN 3 ε dicS 2 ζ Pow 0 η dic0 0 θ whileS 2".splitOn " ")) ([],[])).1.headD default))
abbrev lC:aD:=by walk_at "!&20aCnR0a2afx][mg]["
abbrev lF:aD:=by walk_at "!EE1bq0a][m`LONGEST_NAME`uV`made_of`0a`LETTERS`u][[hAg]["
abbrev j4:aD:=by walk_at "!EE1bq0a][m`LONGEST_VALUE`uV`made_of`0ak`LETTERS`u`FIGURES`uc][[hAg]["
abbrev jZ:aD:=by walk_at "!10aCn0a1bix/g]["
abbrev eU:aD:=by walk_at "!2]pd30aCo3a1bi1afj:2a3a2bi][tK][]l][F2a/g][[["
abbrev g9:aD:=by walk_at "!EE1bq0a][m1aVjJ`made_of`0a`FIGURES`u][[hBJzGyg][]lo0a`0`ef*0a0bi`0`efzg][["
abbrev hG:aD:=by walk_at "!Eq0a][m`MOST_VALUES`ufo0a;q0a][mf&10aCn`is_value`0a][hx][mAAg]["
abbrev gb:aD:=by walk_at "!12`SIGN_OF`|3α0a2a][tdo3a1bi2afj`is_name`3a0bi][hBA`asking_of`1a3a0bi3a2bi][[[hg][]l][[WMg][["
abbrev iV:aD:=by walk_at "!R0a`there`e`lacks`e][[vfjo2a``efj0a1a]v][[[vM+g][]l3NQ2a`|`e][t][md`are_values`3a][hB0a1a3a][[[vM+g][[["
abbrev eV:aD:=by walk_at "!1]pd20an`MOST_ASKINGS`ursC3`read_asking`2a][hdβ3aMfjZ][]lO1a3a][tK][[[F1ag][[["
abbrev fY:aD:=by walk_at "!20bd31a<H3a0afjZ][]lo3a0afj2k2a1bcd][]l][[F2ag][[["
abbrev ka:aD:=by walk_at "!*q0a][m1bfj`made_of`0a`FIGURES`u][[hBJzGyg][]l20aId1aBJo2a0bfg][]l=q1a][m`MOST_ROWS`ufj=`rows_beside`2a1a][[h`MOST_BELOW`ufjzGyg][]lEE1b2aX`DEEPEST`uk1a1bYi1bc][[mVg][[[[["
abbrev iU:aD:=by walk_at "!`is_numeral`0a`MOST_FIGURES`u][[hEE1b0aI`GREATEST`uVAg]["
abbrev g8:aD:=by walk_at "!o0a`NONE`ufj]vNQ0a`,`e][t][m+g]["
abbrev iW:aD:=by walk_at "!Eq0a][m`MOST_NAMES`uf&10aCn`is_name`0a][hx][mAg]["
abbrev dS:aD:=by walk_at "!`are_names`0a][ho0a;q0a][mfAg]["
abbrev j6:aD:=by walk_at "!o0a0bfj`is_depth`1a2a][[hg][]lo0a1bfjR1a`on`e`off`e][[vfg][]lo0a2bfj`are_unlike_names``read_names`1a][h][hg][]lo0a5bfj`are_names``read_names`1a][h][hg][]l`is_number`1a][hg][[[[["
abbrev fZ:aD:=by walk_at "!230an`AHEAD`urs!`is_right`2a3a1a][[[hBJ2ag][]l][WXq0a][m`AHEAD`u][[mg][["
abbrev rK:aD:=by walk_at "!2k1a0a][pcd3`values_beside`2a0a1bi][[hdEq`names_in`2a][h][m`MOST_NAMES_ASKED`ufEq3a][m`MOST_VALUES_ASKED`ufAg][[["
abbrev lG:aD:=by walk_at "!2]pd30aC`fits`3ak1a2ac][[hBJZ][]lO2a3a][tK][[F2ag][[["
abbrev ay:aD:=by walk_at "!o0a`NONE`u][pfj]vg][]l3`askings_ahead`0a][hdL1a0bfj3`fitting`3a2a][[hd][]lHq3a][mq0a][mfj1ak`AHEAD`uq3a][mc,][]lN3a][mg][[[[["
abbrev cY:aD:=by walk_at "!4`right_ahead`0a2a][[hdH4a`AHEAD`ufjoq0a][m`AHEAD`ufjz1a4a,][]l5`read_row_askings`0a`AHEAD`urns1a3a][[[hd6o0a1bi`on`efd5a6a`read_names`0a2bi][h0a3biI0a4biI`read_names`0a5bi][h][[[[[[vg][[[[["
abbrev m8:aD:=by walk_at "!24k`DEEPEST`u2bcDn]pxd3#q0a][m1bc1bY1bYγ41a3aid5k0a3aiN2ak4a1bci][m][vcd2ak4a1bc]p$2a4ak5a][p2a4aic$][[[[F2a0bi0big][[["
abbrev a9:aD:=by walk_at "!0aBJ0b0b,][]l1]pd2]pd3]pd450a!6Q5a` `e][td7`read_row`6a4a2a3a][[[[hdO1a7a][tKO2a6a0biI][tKL4a0bfj:3a7a0bi][tK][]l][[[[[W`nested`1a2a][[hg][[[[[["
abbrev dX:aD:=by walk_at "!20bdH0a1biq0a0bi][mfj20a0bi0a1biid][]l0a1bk0a1bi1bc$3wkTw2a`#1000003`bc`#48271`bcT0a1bi`#7919`bcc`#1000003`bcdwwTwT3a3ac`#999983`bc3ac`#999983`bc1acg][[[[["
abbrev hU:aD:=by walk_at "!3``ed41aD0wkT0a`#48271`bc`#12345`bc`#1000003`bcd3k3a2aw0aq2a][mcicd][[F3ag][[["
abbrev hV:aD:=by walk_at "!2`abcdefghijklmnopqrstuvwxyz`ed3`~signs``~draw`0a`#1000`b][[h8b2a][[[hdo`~draw`0a3b][[h0bfj71aDn4ank0a1bcrsxg][]l4k1b`~draw`0a8b][[hcd5`~draw`0a4a][[hd6`~draw`0a`#26`b][[hd71aDnkk4an6ars3awk7a0ac`#26`bcic4ak6a1bcr5arscxg][[[[[[["
abbrev gf:aD:=by walk_at "!2`abcdefghijklmnopqrstuvwxyz0123456789`ed3`~signs``~draw`0a`#1000`b][[h`#12`b2a][[[hdo`~draw`0a3b][[h0bfj71aDn4ank0a1bcrsxg][]l4k1b`~draw`0a`#12`b][[hcd5`~draw`0a4a][[hd6`~draw`0a`#36`b][[hd71aDnkk4an6ars3awk7a0ac`#36`bcic4ak6a1bcr5arscxg][[[[[[["
abbrev cJ:aD:=by walk_at "!3`~draw`0a`#1000003`b][[hd41aXPw3a9bc2bc#q1a][m1bc][[mid5`is`e`no`e`is`e`there`e`lacks`e`is`e][[[[[[pwP3a9bc6bcido5a`there`efjo5a`lacks`efjz5a4a]v][[[vg][]l6wP3a`#54`bcq2a][mcd72a6ai][pd82awk6a1bcq2a][mci2awP3a`#324`bcq2a][mci][[pnwP3a`#1620`bc3bcrsCU8a7afjO7a8a][tK][]l][F5a4aN7a][m][[[vg][[[[[[[["
abbrev aC:aD:=by walk_at "!5`~draw`0a`#1000003`b][[hd6w5a5bcd7`#18`wP5a5bc4bcDn2awk7a0ac5bcixd8`#18`wP5a`#20`bc5bcDn2a7aixd93a>`on`e`off`e][[pwP5a`#100`bc2bci%`,`e7a][tk1bw5a9bcc>`1000000000`e%`,`e8a][t][[[[[[pd9`#14`9aCn0a`-`e][[po0a``efIixd`#10`1a2a][[pd`#11`0b1b2b0b1b2b4b5b][[[[[[[[pwP5a`#200`bc8bcidL4a7bfj`#10`1an4brs2an3brs][[pd`#11`X`#11`a4b][[md][[]lL`#11`a2bfj`#10`1an2brs2an1brs][[pd][]l`#12``#18``#11`aDn`~asking`1a`#11`a0bi`#11`a1bi][[[hxd`#13`]pd`#14``#15``#16`][[[`#12`a`#17``is``no``there``lacks`][[[[`=`e`!`e`+`e`-`e][[[[ε`#14`aidO`#13`akk`#15`a`#17`ac%`|`e`#16`a][tc][tK][[δo`#13`a]pfj`#13``-`e][pd][]lk9a`#13`acg][[[[[[[[[[[[[[["
abbrev hZ:aD:=by walk_at "!Hq0a][m1bfjLq0a][m1afjzGyg][]l30aCU3ak`abcdefghijklmnopqrstuvwxyz`e2acfjGyg][]l][FSyg][[["
abbrev bF:aD:=by walk_at "!o0a``efjMg][]l10a#q0a][m1bcid20an#q0a][m1bcrsdR1a`+-`efj`~clean`2a8b``e][[[hBA`lacks`e`there`e][[po1a`+`efIi2a]v][[[vg][]l36q0a][mDR1a0ai`=!`efjr0axdo3a]pfj`~clean`0an3a0birs8b``e][[[hBJzMg][]l4Q0ak3a0bi1bcrns`|`e][td5q4a][mDL5a2bfj`~clean`4a5ai`#12`b`0123456789`e][[[hBJR4a5ai4an5arsfjzzMg][]l][F`no`e`is`e][[po0a3a0bii`=`efIi0an3a0birsN4a][m][[[vg][[[[[[[[["
abbrev hX:aD:=by walk_at "!o0a`-`efjSyg][]l2Q0a`,`e][td3q2a][mDL3a3bfj`~clean`2a3ai8b``e][[[hBJ1aBR2a3ai2an3arsfjAzzGyg][]l][FSyg][[[["
abbrev fD:aD:=by walk_at "!Hq0a][m1bfjLq0a][m`#10`bfjo0a0bi`0`efjzzGyg][]l10bd20aCU2a`0123456789`efjGyg][]l1kT`#10`b1ac.`0123456789`e2a][tcd][[FE1aζ`#10`b9bcfg][[[["
abbrev iY:aD:=by walk_at "!U0a`0`e`1`e`2`e`3`e`4`e][[[[[pfjoq1a][m`#20`bfjzGyg][]l2.`01234`e0a][tdo1a]pfjo2a0bfg][]lo2a0bfjL2ak1a1bYi1bcfjzGyg][]l30bd41a<H4a2afjZ][]l3k3ao4a2afIcd][[FH3a5bfg][[[[[[["
abbrev bt:aD:=by walk_at "!2aBSyg][]lU0a1bi1afjoq1a][m4bfjAGyg][]l3k?1a0a1bi]p][[t40a2biCU0a?2a1a1bi]p][[tfjr0axcdLq3a][m3bfjGyg][]l1a0a1bi3a$Syg][[[[[["
abbrev bg:aD:=by walk_at "!o0a0bfj`~deep`1a3a][[hg][]lo0a1bfjo1a`on`efo1a`off`efzg][]lo0a2bfjo0a5bfjz`~named`1ao0a2bf][[hg][]lH0a5bfj`~counted`1a][hg][]lo2a6brns`-`e][pfjSyg][]l5`~asked`1a][hd@5aMfH0a`#10`bf`~admitted`5a4ao3a]pf][[[hAAg][[[[[[["
abbrev cg:aD:=by walk_at "!1]pd2ηd340a!5Q4a` `e][td675a!`~word_right`6a7a5a1a2a][[[[[hBJ3a6a][[vg][]l][WHq5a][m7bfj3aq5a][m][[vg][]lO1a.`01234`e5a0bi][t][tK][[[[Wo1a]pfj0b0b][[vg][]lMg][[[[["
abbrev iX:aD:=by walk_at "!o0a`-`efj]vg][]lNQ0a`,`e][t][mg][["
abbrev cj:aD:=by walk_at "!20a1ai0biId3]pd4k1a1bcdH4aq0a][mfjL0a4ai0biI2afjAo0a4ai0biIk2a1bcfjO3a`~due`0a4a][[h][tK][]l4k4a1bcd][[θ50a1aid6]vd*5a6brns`-`e][pfj6N85a6brnsCn`~asked`0a][hx][md][]l76ao5a1bi`on`ef`~list`5a2bi][h5a3biI5a4biI`~list`5a5bi][h][[[[[[vdk7aN3a][m][vcg][[[[[[[[["
abbrev hY:aD:=by walk_at "!1`~draw`0a8b][[hdo1a0bfjk0b1b2b2b1b2b3b4b4b4b4b4b1b2b3b3b2b2b1b2b][[[[[[[[[[[[[[[[[[[[p4`~draw`0a3b][[hDn1bxcg][]lo1a1bfj2`~draw`0a2b][[hdkk0b1b1b][[[pnk1b2acrs4k4b`~draw`0a4b][[hcDnk1b3acxc1b2b][[pcg][[]l30b][pd4`~draw`0a7b][[hDO3ak1b`~draw`0aX4bk3a1bYi1bc][[m][[hc][tK][F3ag][[[[[["
abbrev aX:aD:=by walk_at "!2`0`e`1`e`2`e`4`e`5`e`-1`e`00`e`01`e`on`e`off`e`ON`e`-`e``e`a`e`a,b`e`a,a`e`a,,b`e`a,`e][[[[[[[[[[[[[[[[[[pd2k2a`a,b,c,d,e`e`abcdefghi`e`1000000000`e`1000000001`e`10000000000`e`a=b`e`zz=b|c`e`a!b|b`e][[[[[[[[pcd2k2a`a=`e`x+`e`+1`e`1_0`e`1.0`e`1e1`e][[[[[[pcd32a`~draw`0aq2a][m][[hid4`~draw`0aq1a][m][[hd51a4aid6`~draw`0akq5a][m1bc][[hd7`~draw`0a8b][[hdH7a2bfj5kk5an6ars3a][pc5a6arnscd][H7a5bfj5kk5an6ars3a][pc5ak6a1bcrnscd][o7a5bfj5k5an6ars5ak6a1bcrnscd][o7a6bfj55an6arsd][k1an4ars1ak4a1bcrnsck1ank4a1bcrs1a4arnsc][[p`~draw`0a2b][[hig][l][l][l][lkk1an4ars5a][pc1ak4a1bcrnscg][[[[[[[[[["
abbrev c0:aD:=by walk_at "!130aCn%` `e0a][txd2`~fault`1a][hd@2aMfj1a2a][[^g][]lo`read_tree`1a][h_`~due`31aCnQ0a` `e][tx0b][[h_fg][[[["
abbrev lD:aD:=by walk_at "!10a0b][[pd2`~names`1a5b][[hd3`~values`1a4b][[hd4`~deeps`1a][hd584aCn`~words`2a3a4a0aq5a][m][[[[[hxd`~right`5a][hBJGyg][]l6k1b`~draw`1a6b][[hcD`~right``~spoilt`1a5a][[h][hBJGyg][]l][F`~right`5a][h]p0b0b][[v][[^SyAAg][[[[[[[["
abbrev tab:List (Str×Fd):=[(("made_of":Str),⟨2,2,lC⟩),(("is_name":Str),⟨1,1,lF⟩),(("is_value":Str),⟨1,1,j4⟩),(("names_in":Str),⟨1,1,jZ⟩),(("values_beside":Str),⟨4,2,eU⟩),(("is_numeral":Str),⟨2,2,g9⟩),(("are_values":Str),⟨1,1,hG⟩),(("read_asking":Str),⟨4,1,gb⟩),(("asking_of":Str),⟨4,3,iV⟩),(("askings_ahead":Str),⟨4,1,eV⟩),(("rows_beside":Str),⟨4,2,fY⟩),(("is_depth":Str),⟨3,2,ka⟩),(("is_number":Str),⟨1,1,iU⟩),(("read_names":Str),⟨1,1,g8⟩),(("are_names":Str),⟨1,1,iW⟩),(("are_unlike_names":Str),⟨1,1,dS⟩),(("is_right":Str),⟨3,3,j6⟩),(("right_ahead":Str),⟨4,2,fZ⟩),(("fits":Str),⟨4,2,rK⟩),(("fitting":Str),⟨4,2,lG⟩),(("read_row_askings":Str),⟨4,3,ay⟩),(("read_row":Str),⟨7,4,cY⟩),(("nested":Str),⟨6,2,m8⟩),(("read_tree":Str),⟨8,1,a9⟩),(("_law_draw":Str),⟨4,2,dX⟩),(("_law_signs":Str),⟨5,3,hU⟩),(("_law_names":Str),⟨7,2,hV⟩),(("_law_values":Str),⟨7,2,gf⟩),(("_law_asking":Str),⟨9,3,cJ⟩),(("_law_words":Str),⟨18,5,aC⟩),(("_law_clean":Str),⟨4,3,hZ⟩),(("_law_asked":Str),⟨6,1,bF⟩),(("_law_named":Str),⟨4,2,hX⟩),(("_law_counted":Str),⟨3,1,fD⟩),(("_law_deep":Str),⟨5,2,iY⟩),(("_law_admitted":Str),⟨4,3,bt⟩),(("_law_word_right":Str),⟨6,5,bg⟩),(("_law_fault":Str),⟨8,1,cg⟩),(("_law_list":Str),⟨1,1,iX⟩),(("_law_due":Str),⟨8,2,cj⟩),(("_law_deeps":Str),⟨5,1,hY⟩),(("_law_spoilt":Str),⟨8,2,aX⟩),(("_law_right":Str),⟨3,1,c0⟩)]
section
variable {srt:List D->Option (List D)}
noncomputable abbrev cx(srt:List D->Option (List D)) (k:Nat):L3.Ctx:=dq tab gl srt 1000 k
def aP(x:Str)(n p:Nat)(b:aD)(h:tab.lookup x=some ⟨n,p,b⟩)(k:Nat)(xs:List D):(cx srt (k+1)).fn x xs=(do need (xs.length=p);gN (cx srt k) n b xs:Mo D):=by
 show (match tab.lookup x with
  |some d=>(do need (xs.length=d.p);gN (cx srt k) d.n d.b xs:Mo D)
  |none=>Mo.stop)=_
 rw[h]
abbrev AA(srt:List D->Option (List D))(xs:List D):Mo D:=do need (xs.length=1);gN (cx srt 39) 8 lD xs
def TJ(xs:List D):AA srt xs=(do need (xs.length=1);gN (cx srt 39) 8 lD xs:Mo D):=rfl
def nL(k:Nat)(xs:List D)(M:MH):(cx srt (k+1)).rz "read_row_askings" xs M=if xs.length=3 then cu (cx srt k) ay (xs.map some++yx (4-xs.length) none) M else none:=rfl
def DI(k:Nat)(xs:List D)(M:MH):(cx srt (k+1)).rz "read_row" xs M=if xs.length=4 then cu (cx srt k) cY (xs.map some++yx (7-xs.length) none) M else none:=rfl
def pC(k:Nat)(xs:List D)(M:MH):(cx srt (k+1)).rz "read_tree" xs M=if xs.length=1 then cu (cx srt k) a9 (xs.map some++yx (8-xs.length) none) M else none:=rfl
def Vs(k:Nat):(cx srt (k+1)).rf=tK (cx srt k).rz:=rfl
abbrev sg(c:Nat):Str:=⟨#[c]⟩
def bM{a b:Str}(h:a.cps.toList=b.cps.toList):a=b:=Str.ext' (xA.mp h)
def app_list(a b:Str):(a++b).cps.toList=a.cps.toList++b.cps.toList:=by rw[Str.cps_append,Array.toList_append]
def join_list(sep:Str):∀ys:List Str,(Str.join sep ys).cps.toList=glue sep.cps.toList (ys.map (·.cps.toList))
 |[]=>rfl
 |[x]=>rfl
 |x::y::r=>by
  show (x++sep++Str.join sep (y::r)).cps.toList=_;rw[app_list,app_list,join_list sep (y::r)];rfl
def mR(sep:Str)(ys:List Str):fV sep ys=Str.join sep ys:=bM (by rw[join_list];unfold fV;simp)
def qo:∀{a b r s:List Nat},c ∉ a->c ∉ b->a++c::r=b++c::s->a=b/\r=s
 |[],[],_,_,_,_,h=>⟨rfl,by injection h⟩
 |[],y::b,_,_,_,e,h=>by
  injection h with d g
  exact absurd (d▸zI) e
 |x::a,[],_,_,f,_,h=>by
  injection h with d g
  exact absurd (d▸zI) f
 |x::a,y::b,_,_,f,e,h=>by
  injection h with d g
  let⟨e1,i⟩:=qo (λ z=>f (zE _ z)) (λ z=>e (zE _ z)) g;exact⟨by rw[d,e1],i⟩
def A6:∀{xs ys:List (List Nat)},xs≠[]->ys≠[]->(∀x∈xs,c ∉ x)->(∀y∈ys,c ∉ y)->glue [c] xs=glue [c] ys->xs=ys
 |[],_,h,_,_,_,_=>absurd rfl h
 |_,[],_,h,_,_,_=>absurd rfl h
 |[x],[y],_,_,_,_,h=>by rw[show x=y from h]
 |[x],y::z::r,_,_,hx,_,h=>by
  have h:x=y++[c]++glue [c] (z::r):=h;exact absurd (by rw[h];simp) (hx x zI)
 |x::z::r,[y],_,_,_,a,h=>by
  have h:x++[c]++glue [c] (z::r)=y:=h;exact absurd (by rw[<- h];simp) (a y zI)
 |x::e::r,y::d::s,_,_,hx,a,h=>by
  have h:x++[c]++glue [c] (e::r)=y++[c]++glue [c] (d::s):=h;rw[zU,zU]at h;let⟨e1,f⟩:=qo (hx x zI) (a y zI) h;rw[e1,A6 (yF _ _) (yF _ _) (λ z b=>hx z (zE _ b)) (λ z b=>a z (zE _ b)) f]
def p9(x y:Str):ax x y≠[]:=by
 unfold ax;split
 ·exact yF _ _
 ·split
  ·exact yF _ _
  ·rw[StrLaws.partsBetween_eq]
   let⟨p,r,e⟩:=StrLaws.partsFrom_ne x y.length 0 (Builtin.Str.occurrences x y 0 x.length (x.length+1));rw[e];exact yF _ _
def iD:∀{xs ys:List Str},xs.map (·.cps.toList)=ys.map (·.cps.toList)->xs=ys
 |[],[],_=>rfl
 |[],_::_,h=>by cases h
 |_::_,[],h=>by cases h
 |x::xs,y::ys,h=>by
  injection h with b a
  rw[bM b,iD a]
def mH(d:ws≠[])(h:∀w∈ws,c ∉ w.cps.toList):ax (Str.join (sg c) ws) (sg c)=ws:=by
 have e:=StrLaws.join_split (Str.join (sg c) ws) (sg c);have f:∀p∈ax (Str.join (sg c) ws) (sg c),c ∉ p.cps.toList:=StrLaws.split_free (Str.join (sg c) ws) c;have e:Str.join (sg c) (ax (Str.join (sg c) ws) (sg c))=Str.join (sg c) ws:=e;have n:=p9 (Str.join (sg c) ws) (sg c);generalize ax (Str.join (sg c) ws) (sg c)=zs at e f n;have b:=congrArg (λ s:Str=>s.cps.toList) e;rw[join_list,join_list]at b;refine iD (A6 (c:=c) (by simpa using n) (by simpa using d) (λ x hx=>?_) (λ x hx=>?_) b)
 ·let⟨p,a,rfl⟩:=yl.mp hx
  exact f p a
 ·let⟨p,a,rfl⟩:=yl.mp hx
  exact h p a
def NI(h:c ∉ a.cps.toList):iP (a++sg c++b) (sg c)=[a,sg c,b]:=by
 have d:(a++sg c++b).cps.toList=a.cps.toList++c::b.cps.toList:=by rw[app_list,app_list,zU];rfl
 have Vc:(a++sg c++b).cps.toList[a.cps.toList.length]?=some c:=by rw[d,zA (zq _),yc];rfl
 have j:=(StrLaws.subAt_one (a++sg c++b) c a.cps.toList.length).mpr Vc;rcases StrLaws.occ_head (a++sg c++b) (sg c) 1 (zq _) with ⟨_,f⟩|⟨i,r,e,hA,f⟩
 ·exact absurd j (f _)
 ·have hi:=(StrLaws.subAt_one (a++sg c++b) c i).mp hA
  have g:i=a.cps.toList.length:=by
   rcases Nat.lt_trichotomy i a.cps.toList.length with z|z|z
   ·rw[d,zK z]at hi
    exact absurd (zl hi) h
   ·exact z
   ·exact absurd j (f _ z)
  unfold iP;rw[e];have k:(sg c).length=1:=rfl;have l:(a++sg c++b).length=(a.cps.toList++c::b.cps.toList).length:=by rw[<- d,bj]
  dsimp only;have e1:Builtin.Str.strSub (a++sg c++b) 0 i=a:=bM (by rw[StrLaws.strSub_toList,d,g];simp);have m:Builtin.Str.strSub (a++sg c++b) (i+(sg c).length) (a++sg c++b).length=b:=bM (by
   have hd:(a.cps.toList++c::b.cps.toList).drop (a.cps.toList.length+1)=b.cps.toList:=by
    rw[show a.cps.toList++c::b.cps.toList=(a.cps.toList++[c])++b.cps.toList by simp,List.drop_left' (by simp)]
   rw[StrLaws.strSub_toList,d,g,k,hd];exact yM (by rw[l,zx,zj];lk))
  rw[e1,m]
def NH(h:c ∉ s.cps.toList):iP s (sg c)=[s,Str.empty,Str.empty]:=by
 rcases StrLaws.occ_head s (sg c) 1 (zq _) with ⟨e,_⟩|⟨i,r,e,hA,_⟩
 ·unfold iP
  rw[e]
 ·exact absurd (zl ((StrLaws.subAt_one s c i).mp hA)) h
def kJ:∀{ws:List Str},(∀w∈ws,w.length<=B)->(Str.join sep ws).length<=ws.length*(B+sep.length)
 |[],_=>zW _
 |[x],h=>by
  have:=h x zI
  show x.length<=1*_;lk
 |x::y::r,h=>by
  have b:=h x zI;have a:=kJ (sep:=sep) (ws:=y::r) λ w hw=>h w (zE _ hw);show (x++sep++Str.join sep (y::r)).length<=_;rw[len_app,len_app,zj,wY];lk
def lW{B:Nat}:∀{ws:List Str},(∀w∈ws,w.length<=B)->(ws.map (·.length)).sum<=ws.length*B
 |[],_=>zW _
 |x::r,h=>by
  have b:=h x zI;have a:=lW (ws:=r) λ w hw=>h w (zE _ hw);rw[zR,List.sum_cons,zj,wY];lk
structure Gx (j:Nat) (M M':MH):Prop where
 keep:∀k o,k≠j->M[k]?=some o->M'[k]?=some o
 len:M.length<=M'.length
def Gx.refl:Gx j M M:=⟨λ _ _ _ e=>e,zq _⟩
def Gx.trans(a:Gx j A B)(b:Gx j B C):Gx j A C:=⟨λ k o h e=>b.keep k o h (a.keep k o h e),zG a.len b.len⟩
def Gx.of(g:Gr M M'):Gx j M M':=⟨λ k o _ e=>g.keep k o e,g.len⟩
def Gx.set(g:Gx j A M)(o:MO):Gx j A (M.set j o):=⟨λ k u h e=>by rw[zc (Ne.symm h)];exact g.keep k u h e,by rw[yq];exact g.len⟩
abbrev Fd(M:MH)(j:Nat):Prop:=∃(sc:List Int) (i:Int),0<=i/\M[j]?=some (.lst [.fl (sc.map .int),.int i])
def Fd.keep(h:Fd M j)(g:Gr M M'):Fd M' j:=by
 let⟨sc,i,a,e⟩:=h;exact⟨sc,i,a,g.keep _ _ e⟩
def bO(k:Nat)(M:MH)(F:Fd M jf)(m:Int)(e:0<m)(q:∀(r:Int) (M':MH),0<=r->r<m->Gx jf M M'->Fd M' jf->Q (.int r) M'):W ((cx srt (k+1)).fn "_law_draw" [.ob jf,.int m]) M Q:=by
 have big:=aj;let⟨sc,i,p,a⟩:=F;have s:jf<M.length:=(zz.mp a).1;have b:∀c:Int,W (aH (cx srt k) (av 2 dX) [some (.ob jf),some (.int m),some (.int c),none]) M (dN Q):=λ c=>by
  rwa[dX,bG,bH];symm;exists _,a;symm;exists _,a;symm;exists 1,rfl;symm;have d:(M.set jf (MO.lst [.fl (sc.map .int),.int (i+1)]))[jf]?=some (.lst [.fl (sc.map .int),.int (i+1)]):=by rw[zJ s]
  have f:Gx jf M (M.set jf (MO.lst [.fl (sc.map .int),.int (i+1)])):=Gx.refl.set _;generalize M.set jf (MO.lst [.fl (sc.map .int),.int (i+1)])=M2 at d f ⊢;refine⟨by lk,.inr ⟨by lk,by lk⟩,_,d,?_⟩;symm;refine⟨.inr ⟨by lk,by lk⟩,by lk,?_⟩;have j:0<=(c % 1000003*48271+(i+1)*7919) % 1000003:=xG _ (by lk);have g:(c % 1000003*48271+(i+1)*7919) % 1000003<1000003:=xo _ (by lk);generalize (c % 1000003*48271+(i+1)*7919) % 1000003=x at j g ⊢;symm;refine⟨.inr ⟨by lk,by lk⟩,by lk,.inr ⟨by lk,by lk⟩,by lk,e,?_⟩;exact q _ _ (xG _ (by lk)) (xo _ e) f ⟨sc,i+1,by lk,d⟩
 rwa[dX,bG,bH]at b;rw[aP "_law_draw" 4 2 dX rfl,wf,dX];symm;exists _,a;symm;exists _,a;symm;refine⟨λ h=>?_,λ h=>?_⟩
 ·rw[zzC,zy]at h
  let⟨n,rfl⟩:=yK p;have l:n<sc.length:=by lk
  symm;exists _,a;symm;exists _,a;symm;refine⟨.int sc[n],bN (by rw[zm,zu l];rfl),?_⟩;have t:=b sc[n];revert t;symm;exact id
 ·have t:=b 0
  revert t;symm;exact id
abbrev Of(s w:Str):Prop:=∀c∈w.cps.toList,c∈s.cps.toList
abbrev abc:Str:="abcdefghijklmnopqrstuvwxyz"
abbrev ip:Str:="abcdefghijklmnopqrstuvwxyz0123456789"
abbrev eD(s:Str)(n:Nat)(w:Str):Prop:=1<=w.length/\w.length<=n/\Of s w
def sZ:abc.length=26:=by decide
def OD:ip.length=36:=by decide
abbrev Short(B:Nat)(us:List Str):Prop:=∀u∈us,u.length<=B
def Short.app(h:Short B us)(g:Short B vs):Short B (us++vs):=λ u hu=>(zQ.mp hu).elim (h u) (g u)
def Short.one(h:u.length<=B):Short B [u]:=λ v hv=>by rw[zB.mp hv];exact h
def Short.nil:Short B []:=λ _ h=>nomatch h
def Short.cut(h:Short B us)(lo hi:Option Int):∃vs,cutD (us.map D.str) lo hi=vs.map D.str/\Short B vs/\vs.length<=us.length:=by
 refine⟨cutD us lo hi,?_,λ u hu=>?_,iJ _ _ _⟩
 ·unfold cutD
  rw[zy,<- yV,<- yO]
 ·unfold cutD at hu
  exact h u (yb (yH hu))
structure Sl (M:MH) (j B n:Nat):Prop where
 ex:∃us:List Str,M[j]?=some (.lst (us.map .str))/\Short B us/\us.length=n
def Sl.go(h:Sl M j B n)(g:Gx jf M M')(d:j≠jf):Sl M' j B n:=let ⟨c,a,b⟩:=h.ex;⟨c,g.keep _ _ d a,b⟩
def Sl.keep(h:Sl M j B n)(g:Gr M M'):Sl M' j B n:=let ⟨c,a,b⟩:=h.ex;⟨c,g.keep _ _ a,b⟩
def Sl.at{us:List Str}{B:Nat}(h:Short B us){i:Int}(b:0<=i)(a:i<us.length):∃u:Str,de (us.map D.str) i=some (.str u)/\u.length<=B:=by
 let⟨d,e,hd⟩:=mm (xs:=us.map D.str) b (by rw[zy];exact a);let⟨u,hu,rfl⟩:=yl.mp hd;exact⟨u,e,h u hu⟩
def md(x:Int)(h:0<m):0<=x % m/\x % m<m:=⟨xG _ (by lk),xo _ h⟩
def CC(k:Nat)(M:MH)(c:Int)(n:Nat)(sg:Str)(j:n<=100)(r:0<sg.length)(p:sg.length<=1000)(q:∀w:Str,w.length=n->Q (.str w) M):W ((cx srt (k+1)).fn "_law_signs" [.int c,.int n,.str sg]) M Q:=by
 have big:=aj;rw[aP "_law_signs" 5 3 hU rfl,wf,hU];symm;refine⟨⟨by lk,by lk⟩,?_⟩;refine dO (λ m ρ b=>b=M/\∃(c:Int) (w:Str) (a:Option D),w.length=m/\ρ=[some (.int c),some (.int n),some (.str sg),some (.str w),a]) ⟨rfl,c,"",_,rfl,rfl⟩ (λ _ _ _ _=>trivial) ?_ ?_
 ·rintro m d ρ b hd ⟨rfl,c,w,a,hw,rfl⟩
  let⟨rfl,l⟩:=eM hd;have s:m<n:=by lk
  symm;have g:0<=(c*48271+12345) % 1000003 % (sg.length:Int):=xG _ (by lk);have f:(c*48271+12345) % 1000003 % (sg.length:Int)<(sg.length:Int):=xo _ (by lk);let⟨e,he,i⟩:=mm (xs:=sg.cps.toList) g (by rw[bj];exact f);refine⟨.inr ⟨by lk,by lk⟩,by lk,by lk,by lk,by lk,e,he,?_⟩;unfold sgn;symm;have h:Str.length ⟨#[e]⟩=1:=rfl;refine⟨by lk,_,_,_,?_,rfl⟩;rw[len_app,hw,h]
 ·rintro ρ b ⟨rfl,c,w,a,hw,rfl⟩
  rw[bw]at hw;symm;exact q w (by lk)
abbrev Drawn(Q:D->MH->Prop)(M:MH)(jf n B:Nat):Prop:=∀(j:Nat) (a:MH),Sl a j B n->Gx jf M a->Fd a jf->M.length<=j->Q (.ob j) a
def drawn(q:Drawn Q M jf n B)(g:Gx jf M M')(F:Fd M' jf)(a:ws.length=n)(h:Short B ws):Q (.ob M'.length) (M'++[.lst (ws.map .str)]) :=
 q _ _ ⟨ws,ae _ _,h,a⟩ (g.trans (.of (Gr.app _ _))) (F.keep (Gr.app _ _)) g.len
def NS(k:Nat)(M:MH)(F:Fd M jf)(q:Drawn Q M jf 5 20):W ((cx srt (k+2)).fn "_law_names" [.ob jf,.int 5]) M Q:=by
 have big:=aj;have y:=sZ;rw[aP "_law_names" 7 2 hV rfl,wf,hV];symm;refine bO k M F _ (by lk) λ x p a1 Y C N=>?_;symm;refine CC k p x 8 abc (by lk) (by decide) (by decide) λ w hw=>?_;symm;refine bO k p N _ (by lk) λ P n a2 X B r=>?_;have g:=C.trans B;symm;refine⟨λ _=>?_,λ _=>?_⟩
 ·symm
  refine⟨⟨by lk,by lk⟩,by rw[bw];lk,?_⟩;refine bJ (λ m b f=>f=n/\∃ws:List Str,b=ws.map .str/\ws.length=m/\Short 20 ws) ⟨rfl,[],rfl,rfl,Short.nil⟩ (λ _ _ _ _=>trivial) ?_ ?_
  ·rintro m d b f hd ⟨rfl,ws,rfl,a,c⟩
   let⟨rfl,O⟩:=eM hd;have E:=ki w none (some (0+(m:Int)+1));symm;exact⟨by lk,ws++[_],by rw[zf];rfl,by rw[zx,a];rfl,c.app (Short.one (by lk))⟩
  ·rintro b f ⟨rfl,ws,rfl,a,c⟩
   rw[bw]at a;exact drawn q g r a c
 ·refine bO k n r _ (by lk) λ v I a3 V A L=>?_
  have j:=g.trans A;symm;refine bO k I L _ (by lk) λ l H a4 U z K=>?_;have i:=j.trans z;symm;refine bO k H K _ (by lk) λ u G Z T g5 J=>?_;have h:=i.trans g5;symm;refine⟨⟨by lk,by lk⟩,by rw[bw];lk,?_⟩;refine bJ (λ m b f=>f=G/\∃ws:List Str,b=ws.map .str/\ws.length=m/\Short 20 ws) ⟨rfl,[],rfl,rfl,Short.nil⟩ (λ _ _ _ _=>trivial) ?_ ?_
  ·rintro m d b f hd ⟨rfl,ws,rfl,a,c⟩
   let⟨rfl,O⟩:=eM hd;let⟨t,s⟩:=md (u+(0+(m:Int))) (m:=26) (by decide);let⟨e,he,_⟩:=mm (xs:=abc.cps.toList) t (by rw[bj,y];exact s);have E:=ki w none (some l);have S:=ki w (some (l+1)) (some (1+v));have R:Str.length ⟨#[e]⟩=1:=rfl;symm;refine⟨by lk,by lk,by decide,e,he,?_⟩;unfold sgn;symm;refine⟨by lk,by lk,by rw[len_app];lk,ws++[_],by rw[zf];rfl,by rw[zx,a];rfl,c.app (Short.one (by rw[len_app,len_app];lk))⟩
  ·rintro b f ⟨rfl,ws,rfl,a,c⟩
   rw[bw]at a;exact drawn q h J a c
def IW(k:Nat)(M:MH)(F:Fd M jf)(q:Drawn Q M jf 4 30):W ((cx srt (k+2)).fn "_law_values" [.ob jf,.int 4]) M Q:=by
 have big:=aj;have y:=OD;rw[aP "_law_values" 7 2 gf rfl,wf,gf];symm;refine bO k M F _ (by lk) λ x p a1 Y C N=>?_;symm;refine CC k p x 12 ip (by lk) (by decide) (by decide) λ w hw=>?_;symm;refine bO k p N _ (by lk) λ P n a2 X B r=>?_;have g:=C.trans B;symm;refine⟨λ _=>?_,λ _=>?_⟩
 ·symm
  refine⟨⟨by lk,by lk⟩,by rw[bw];lk,?_⟩;refine bJ (λ m b f=>f=n/\∃ws:List Str,b=ws.map .str/\ws.length=m/\Short 30 ws) ⟨rfl,[],rfl,rfl,Short.nil⟩ (λ _ _ _ _=>trivial) ?_ ?_
  ·rintro m d b f hd ⟨rfl,ws,rfl,a,c⟩
   let⟨rfl,O⟩:=eM hd;have E:=ki w none (some (0+(m:Int)+1));symm;exact⟨by lk,ws++[_],by rw[zf];rfl,by rw[zx,a];rfl,c.app (Short.one (by lk))⟩
  ·rintro b f ⟨rfl,ws,rfl,a,c⟩
   rw[bw]at a;exact drawn q g r a c
 ·refine bO k n r _ (by lk) λ v I a3 V A L=>?_
  have j:=g.trans A;symm;refine bO k I L _ (by lk) λ l H a4 U z K=>?_;have i:=j.trans z;symm;refine bO k H K _ (by lk) λ u G Z T g5 J=>?_;have h:=i.trans g5;symm;refine⟨⟨by lk,by lk⟩,by rw[bw];lk,?_⟩;refine bJ (λ m b f=>f=G/\∃ws:List Str,b=ws.map .str/\ws.length=m/\Short 30 ws) ⟨rfl,[],rfl,rfl,Short.nil⟩ (λ _ _ _ _=>trivial) ?_ ?_
  ·rintro m d b f hd ⟨rfl,ws,rfl,a,c⟩
   let⟨rfl,O⟩:=eM hd;let⟨t,s⟩:=md (u+(0+(m:Int))) (m:=36) (by decide);let⟨e,he,_⟩:=mm (xs:=ip.cps.toList) t (by rw[bj,y];exact s);have E:=ki w none (some l);have S:=ki w (some (l+1)) (some (1+v));have R:Str.length ⟨#[e]⟩=1:=rfl;symm;refine⟨by lk,by lk,by decide,e,he,?_⟩;unfold sgn;symm;refine⟨by lk,by lk,by rw[len_app];lk,ws++[_],by rw[zf];rfl,by rw[zx,a];rfl,c.app (Short.one (by rw[len_app,len_app];lk))⟩
  ·rintro b f ⟨rfl,ws,rfl,a,c⟩
   rw[bw]at a;exact drawn q h J a c
abbrev ij(s w:Str):Bool:=w.cps.toList.all λ c=>decide (c∈s.cps.toList)
def ke:ij s w=true ↔ Of s w:=by unfold ij Of;rw[yw];exact⟨λ h c hc=>zzD (h c hc),λ h c hc=>zzB (h c hc)⟩
abbrev du(s:Str)(n:Nat)(w:Str):Bool:=decide (1<=w.length)&&(decide (w.length<=n)&&ij s w)
def eA:du s n w=true ↔ eD s n w:=by unfold du eD;simp[zt,ke]
def occ_eq(t:Str)(c:Nat):qC t ⟨#[c]⟩=decide (c∈t.cps.toList):=by
 unfold qC;rw[StrLaws.found_one]
def qP(k:Nat)(M:MH)(w s:Str)(hw:w.length<=2000)(q:∀M',Gr M M'->Q (.bl (ij s w)) M'):W ((cx srt (k+1)).fn "made_of" [.str w,.str s]) M Q:=by
 have big:=aj;rw[aP "made_of" 2 2 lC rfl,wf,lC];symm;refine⟨by lk,by rw[zy,bj];lk,?_⟩;refine bJ (λ m a M'=>M'=M/\a=((w.cps.toList.take m).map λ c=>decide (c∈s.cps.toList)).map D.bl) ⟨rfl,rfl⟩ (λ _ _ _ _=>trivial) ?_ ?_
 ·rintro m d a M' hd ⟨rfl,rfl⟩
  rw[zm]at hd;let⟨c,hc,rfl⟩:=zp.mp hd;unfold sgn;symm;rw[occ_eq,xf,hc];simp
 ·rintro a M' ⟨rfl,rfl⟩
  symm;exists _,ae _ _,_,mO _;have e:((w.cps.toList.take (w.cps.toList.map sgn).length).map λ c=>decide (c∈s.cps.toList)).all id=ij s w:=by
   rw[zy,zM,xJ];rfl
  rw[e];exact q _ (Gr.app _ _)
def AF(k:Nat)(M:MH)(w:Str)(hw:w.length<=2000)(q:∀M',Gr M M'->Q (.bl (du abc 8 w)) M'):W ((cx srt (k+2)).fn "is_name" [.str w]) M Q:=by
 have big:=aj;rw[aP "is_name" 1 1 lF rfl,wf,lF];symm;refine⟨by lk,?_⟩;unfold du at q;by_cases b:1<=w.length
 ·rw[zzB (show (1:Int)<=w.length by lk)]
  rw[zzB b,zP]at q;symm;exists _,rfl;symm;by_cases a:w.length<=8
  ·rw[zzB (show (w.length:Int)<=8 by lk)]
   rw[zzB a,zP]at q;symm;exists _,rfl;symm;exact qP k M w abc hw q
  ·rw[zzA (show ¬ (w.length:Int)<=8 by lk)]
   rw[zzA a,zL]at q;symm;exact q _ Gr.refl
 ·rw[zzA (show ¬ (1:Int)<=w.length by lk)]
  rw[zzA b,zL]at q;symm;exact q _ Gr.refl
def N7(k:Nat)(M:MH)(w:Str)(hw:w.length<=2000)(q:∀M',Gr M M'->Q (.bl (du ip 12 w)) M'):W ((cx srt (k+2)).fn "is_value" [.str w]) M Q:=by
 have big:=aj;rw[aP "is_value" 1 1 j4 rfl,wf,j4];symm;refine⟨by lk,?_⟩;unfold du at q;by_cases b:1<=w.length
 ·rw[zzB (show (1:Int)<=w.length by lk)]
  rw[zzB b,zP]at q;symm;exists _,rfl;symm;by_cases a:w.length<=12
  ·rw[zzB (show (w.length:Int)<=12 by lk)]
   rw[zzB a,zP]at q;symm;exists _,rfl,_,rfl;symm;refine⟨by lk,?_⟩;exact qP k M w ip hw q
  ·rw[zzA (show ¬ (w.length:Int)<=12 by lk)]
   rw[zzA a,zL]at q;symm;exact q _ Gr.refl
 ·rw[zzA (show ¬ (1:Int)<=w.length by lk)]
  rw[zzA b,zL]at q;symm;exact q _ Gr.refl
def pz(k:Nat)(M:MH)(w s:Str)(n:Nat)(hw:w.length<=2000)(j:s.length<=100)(l:n<=100)(q:Q (.bl (du (abc++s) n w)) M):W ((cx srt (k+1)).fn "_law_clean" [.str w,.int n,.str s]) M Q:=by
 have big:=aj;have p:abc.length=26:=sZ;rw[aP "_law_clean" 4 3 hZ rfl,wf,hZ];unfold du at q;symm;by_cases h:1<=w.length
 ·rw[zzB h,zP]at q
  rw[zzA (show ¬ (w.length:Int)<1 by lk)];symm;by_cases g:w.length<=n
  ·rw[zzB g,zP]at q
   rw[zzA (show ¬ (w.length:Int) > n by lk)];symm;refine⟨by lk,by lk,by lk,?_⟩;refine dO (λ m ρ f=>f=M/\(∃x,ρ=[some (.str w),some (.int n),some (.str s),x])/\∀c∈w.cps.toList.take m,c∈(abc++s).cps.toList) ⟨rfl,⟨_,rfl⟩,λ c hc=>by simp at hc⟩ (λ _ _ _ _=>trivial) ?_ ?_
   ·rintro m d ρ f hd ⟨rfl,⟨x,rfl⟩,b⟩
    rw[zm]at hd;let⟨c,hc,rfl⟩:=zp.mp hd;unfold sgn;symm;refine⟨by have:(Str.ofString "abcdefghijklmnopqrstuvwxyz").length=26:=sZ;lk,?_,?_⟩
    ·intro hx
     rw[yn,occ_eq,decide_eq_false_iff_not]at hx;have e:ij (abc++s) w=false:=by
      rw[<- yQ,ke];exact λ z=>hx (z c (zl hc))
     rw[e]at q;exact q
    ·intro hx
     rw[wP,occ_eq,zzC]at hx;refine⟨⟨_,rfl⟩,λ i a=>?_⟩;rw[xf,hc,zQ]at a;rcases a with a|a
     ·exact b i a
     ·have:i=c:=by simpa using a
      rw[this];exact hx
   ·rintro ρ f ⟨rfl,⟨x,rfl⟩,b⟩
    symm;rw[zy,zM]at b;rw[ke.mpr b]at q;exact q
  ·rw[zzA g,zL]at q
   rw[zzB (show (w.length:Int) > n by lk)];symm;exact⟨by lk,by lk,q⟩
 ·rw[zzA h,zL]at q
  rw[zzB (show (w.length:Int)<1 by lk)];symm;exact⟨by lk,q⟩
def Bv:∀c∈ip.cps.toList,48<=c/\c<=122/\c≠61:=by decide +kernel
def kT:∀c∈abc.cps.toList,97<=c/\c<=122:=by decide +kernel
def NQ(h:eD abc n w)(hc:c<97\/122<c):c ∉ w.cps.toList:=λ z=>by
 have:=kT c (h.2.2 c z)
 lk
def sC(h:eD ip n w)(hc:c<48\/122<c\/c=61):c ∉ w.cps.toList:=λ z=>by
 have:=Bv c (h.2.2 c z)
 lk
def EN(s:Str)(c:Nat):(∃a b,c ∉ a.cps.toList/\s=a++sg c++b)\/c ∉ s.cps.toList:=by
 by_cases h:c∈s.cps.toList
 ·left
  obtain⟨l1,d,e,g⟩:∃l1 d,s.cps.toList=l1++c::d/\c ∉ l1:=by
   revert h;generalize s.cps.toList=l;intro h;induction l with
   |nil=>cases h
   |cons x l f =>
    by_cases e:x=c
    ·exact⟨[],l,by rw[e];rfl,by simp⟩
    ·let⟨l1,d,e1,i⟩:=f ((zd.mp h).resolve_left (Ne.symm e))
     exact⟨x::l1,d,by rw[e1];rfl,λ z=>by
      rcases zd.mp z with z|z
      ·exact e z.symm
      ·exact i z⟩
  refine⟨⟨l1.toArray⟩,⟨d.toArray⟩,by simpa using g,bM ?_⟩;rw[app_list,app_list,zU,e];simp[sg]
 ·exact .inr h
def fU(s:Str)(c:Nat):Str.join (sg c) (ax s (sg c))=s:=StrLaws.join_split s (sg c)
def A5:∀xs:List (List Nat),xs.length<=(glue [c] xs).length+1
 |[]=>zW _
 |[x]=>by show 1<=_;lk
 |x::y::r=>by
  have h:=A5 (c:=c) (y::r);show (y::r).length+1<=(x++[c]++glue [c] (y::r)).length+1;rw[zx,zx];rwa[zj,zT]at h ⊢;lk
def split_len(s:Str)(c:Nat):(ax s (sg c)).length<=s.length+1:=by
 have e:=congrArg (λ s:Str=>s.cps.toList.length) (fU s c);rwa[join_list]at e;have h:=A5 (c:=c) ((ax s (sg c)).map (·.cps.toList));rw[zy]at h;rw[<- bj,<- e];exact h
inductive Kd where
 |is|no|there|lacks
 deriving DecidableEq
abbrev jg:Kd->Str
 |.is=>"is" |.no=>"no" |.there=>"there" |.lacks=>"lacks"
abbrev dI:Kd->Nat
 |.is=>61|.no=>33|.there=>43|.lacks=>45
abbrev Hj:List Kd:=[.is,.no,.there,.lacks]
structure Ask where
 k:Kd
 n:Str
 vs:List Str
abbrev bq(a:Ask):D:=.tup [.str (jg a.k),.str a.n,.tup (a.vs.map .str)]
abbrev bar(vs:List Str):Str:=Str.join (sg 124) vs
abbrev jJ(a:Ask):Str:=a.n++sg (dI a.k)++bar a.vs
abbrev fk:Kd->Bool
 |.is=>true|.no=>true|_=>false
structure iZ (a:Ask):Prop where
 n:eD abc 8 a.n
 v:∀v∈a.vs,eD ip 12 v
 l:a.vs.length<=3
 nd:a.vs.Nodup
 ne:fk a.k=true->a.vs≠[]
 e:fk a.k=false->a.vs=[]
def N4:∀{k l:Kd},dI k=dI l->k=l:=by
 intro k l;cases k <;> cases l <;> simp[dI]
def AB(k:Kd):dI k<97:=by cases k <;> simp[dI]
def ou:∀(ys xs:List Str),(xs++ys).Nodup->au xs ys=xs++ys
 |[],xs,_=>by rw[zO];rfl
 |y::ys,xs,h=>by
  have a:y ∉ xs:=λ z=>by
   have:=(wZ.mp h).2.2 y z y zI
   exact this rfl
  have e:cR xs y=xs++[y]:=if_neg a;rw[au,e,ou ys (xs++[y]) (by rw[zU];exact h),zU];rfl
def JZ(k:Kd):jO M (.str (jg k)) [.str "there",.str "lacks"]=some (!fk k):=by
 rw[mU rfl rfl];cases k <;> decide +kernel
def gF:∀(ys xs:List Str),(au xs ys).length<=xs.length+ys.length
 |[],xs=>zq _
 |y::ys,xs=>by
  have h:=gF ys (cR xs y)
  have:(cR xs y).length<=xs.length+1:=by
   unfold cR;split
   ·lk
   ·rw[zx];exact zq _
  rw[au,zj];lk
def ox:∀(ys xs:List Str),xs.Nodup->¬ (xs++ys).Nodup->(au xs ys).length<xs.length+ys.length
 |[],xs,h,n=>absurd (by rw[zO];exact h) n
 |y::ys,xs,h,n=>by
  rw[au,zj];by_cases c:y∈xs
  ·have e:cR xs y=xs:=if_pos c
   have:=gF ys xs
   rw[e];lk
  ·have e:cR xs y=xs++[y]:=if_neg c
   rw[e]
   have:=ox ys (xs++[y]) (by
    rw[wZ];refine⟨h,by simp,λ a f b d=>?_⟩;rw[zB.mp d];exact λ z=>c (z▸f)) (by rw[zU];exact n)
   rw[zx]at this;rwa[zj,zT]at this;lk
abbrev gI(vs:List Str):Bool:=decide (vs.length<=3)&&(decide vs.Nodup&&vs.all (du ip 12))
def eW:gI vs=true ↔ vs.length<=3/\vs.Nodup/\∀v∈vs,eD ip 12 v:=by
 unfold gI;rw[zt,zt,zzC,zzC,yw];exact⟨λ h=>⟨h.1,h.2.1,λ v hv=>eA.mp (h.2.2 v hv)⟩,λ h=>⟨h.1,h.2.1,λ v hv=>eA.mpr (h.2.2 v hv)⟩⟩
def Iz(k:Nat)(M:MH)(vs:List Str)(h:∀v∈vs,v.length<=2000)(i:vs.length<=2001)(q:∀M',Gr M M'->Q (.bl (gI vs)) M'):W ((cx srt (k+3)).fn "are_values" [.tup (vs.map .str)]) M Q:=by
 have big:=aj;rw[aP "are_values" 1 1 hG rfl,wf,hG];unfold gI at q;symm;exists _,rfl;symm;rw[zy];by_cases b:vs.length<=3
 ·rw[zzB b,zP]at q
  rw[zzB (show (vs.length:Int)<=3 by lk)];symm;exists vs,m9 vs;have c:=gF vs [];rwa[zT]at c;refine⟨by lk,?_⟩;symm;by_cases nd:vs.Nodup
  ·rw[zzB nd,zP]at q
   have e:(((au [] vs).length:Int)==(vs.length:Int))=true:=by rw[ou vs [] nd];simp
   rw[e];symm;refine⟨by lk,?_⟩;refine bJ (λ m a M'=>Gr M M'/\a=((vs.take m).map (du ip 12)).map D.bl) ⟨Gr.refl,rfl⟩ (λ _ _ _ _=>trivial) ?_ ?_
   ·rintro m d a M' hd ⟨g,rfl⟩
    rw[zm]at hd;let⟨v,hv,rfl⟩:=zp.mp hd;symm;refine N7 (srt:=srt) k M' v (h v (zl hv)) λ j f=>?_;exists g.trans f;rw[xf,hv];simp
   ·rintro a M' ⟨g,rfl⟩
    symm;exists _,ae _ _,_,mO _;have e:((vs.take (vs.map D.str).length).map (du ip 12)).all id=vs.all (du ip 12):=by
     rw[zy,zM,xJ];rfl
    rw[e];exact q _ (g.snoc _)
  ·rw[zzA nd,zL]at q
   have lt:=ox vs [] xQ nd;have e:(((au [] vs).length:Int)==(vs.length:Int))=false:=by
    rw[zzF];rwa[zT]at lt;lk
   rw[e];symm;exact q _ Gr.refl
 ·rw[zzA b,zL]at q
  rw[zzA (show ¬ (vs.length:Int)<=3 by lk)];symm;exact q _ Gr.refl
abbrev bW(w:Str)(a:Ask):Prop:=iZ a/\w=jJ a
def Di:∀{xs:List (List Nat)},x∈xs->x.length<=(glue [c] xs).length
 |[],h=>by cases h
 |[y],h=>by rw[zB.mp h];exact zq _
 |y::z::r,h=>by
  show _<=(y++[c]++glue [c] (z::r)).length;rw[zx,zx];rcases zd.mp h with rfl|h
  ·lk
  ·have:=Di (c:=c) h
   lk
def gm(h:p∈ax s (sg c)):p.length<=s.length:=by
 have e:=congrArg (λ s:Str=>s.cps.toList.length) (fU s c);rwa[join_list]at e;have h:=Di (c:=c) (yl.mpr ⟨p,h,rfl⟩:p.cps.toList∈(ax s (sg c)).map (·.cps.toList));rw[<- bj,<- bj s,<- e];exact h
def B0(h:eD abc n a)(h':eD abc m p)(hc:c<97)(hd:d<97)(e:a.cps.toList++c::r=p.cps.toList++d::s):a=p/\c=d/\r=s:=by
 have g:∀(l b:List Nat),(∀x∈l,97<=x)->(∀x∈b,97<=x)->l++c::r=b++d::s->l=b/\c=d/\r=s:=by
  intro l;induction l with
  |nil =>
   intro b _ j e;cases b with
   |nil =>
    injection e with e1 f
    exact⟨rfl,e1,f⟩
   |cons y b =>
    injection e with e1 f
    have:=j y zI
    lk
  |cons x l t =>
   intro b q j e;cases b with
   |nil =>
    injection e with e1 f
    have:=q x zI
    lk
   |cons y b =>
    injection e with e1 f
    let⟨k,v,u⟩:=t b (λ z i=>q z (zE _ i)) (λ z i=>j z (zE _ i)) f;exact⟨by rw[e1,k],v,u⟩
 let⟨e1,f,k⟩:=g _ _ (λ x hx=>(kT x (h.2.2 x hx)).1) (λ x hx=>(kT x (h'.2.2 x hx)).1) e;exact⟨bM e1,f,k⟩
def DA(h:bW w x)(e:w=a++sg (dI kd)++b)(d:eD abc 8 a):x.k=kd/\x.n=a/\bar x.vs=b:=by
 have c:=congrArg (λ s:Str=>s.cps.toList) (h.2.symm.trans e);unfold jJ at c;rwa[app_list,zU]at c;let⟨i,g,f⟩:=B0 h.1.n d (AB _) (AB _) c;exact⟨N4 g,i,bM f⟩
def FV(k:Nat)(M:MH)(kd:Kd)(n rest:Str)(u:rest.length<=2000)(j:eD abc 8 n)(i:∀(a:Ask) M',iZ a->a.k=kd->a.n=n->bar a.vs=rest->Gr M M'->Q (bq a) M')(h:∀M',(∀a:Ask,iZ a->a.k=kd->a.n=n->bar a.vs≠rest)->Gr M M'->Q .non M') :
  W ((cx srt (k+4)).fn "asking_of" [.str (jg kd),.str n,.str rest]) M Q:=by
 have big:=aj;rw[aP "asking_of" 4 3 iV rfl,wf,iV];symm;refine⟨by lk,_,JZ kd,?_⟩;cases hk:fk kd with
 |false =>
  symm;by_cases e:rest = ""
  ·have g:(rest==("":Str))=true:=by rw[e];rfl
   rw[g];symm;refine⟨by lk,by lk,?_⟩;exact i ⟨kd,n,[]⟩ M ⟨j,λ v hv=>(by cases hv),zW _,xQ,λ z=>(by rw[hk]at z;cases z),λ _=>rfl⟩ rfl rfl (by rw[e];rfl) Gr.refl
  ·have g:(rest==("":Str))=false:=zzF.mpr e
   rw[g];symm;refine h M (λ a b f w d=>e ?_) Gr.refl;rw[<- d,b.e (by rw[f];exact hk)];rfl
 |true =>
  symm;have t:(Str.ofString "|")=sg 124:=by decide
  have y:=fU rest 124;have A:=split_len rest 124;have en:=p9 rest (sg 124);rw[t];refine⟨⟨by decide,by lk,by lk⟩,_,ae _ _,?_⟩;refine Iz (srt:=srt) k _ (ax rest (sg 124)) (λ v hv=>zG (gm hv) u) (by lk) λ p m=>?_;cases ev:gI (ax rest (sg 124)) with
  |true =>
   symm;let⟨s,r,q⟩:=eW.mp ev;exact⟨by lk,i ⟨kd,n,ax rest (sg 124)⟩ p ⟨j,q,s,r,λ _=>en,λ z=>(by rw[hk]at z;cases z)⟩ rfl rfl y ((Gr.app _ _).trans m)⟩
  |false =>
   symm;refine h p (λ a b f w d=>?_) ((Gr.app _ _).trans m);have x:ax (bar a.vs) (sg 124)=a.vs:=mH (c:=124) (b.ne (by rw[f];exact hk)) λ v hv=>sC (b.v v hv) (by lk);rw[<- d,x,eW.mpr ⟨b.l,b.nd,b.v⟩]at ev;cases ev
def nU(k:Nat)(M:MH)(w:Str)(hw:w.length<=2000)(J:∀(a:Ask) M',bW w a->Gr M M'->Q (bq a) M')(H:∀M',(∀a:Ask,¬ bW w a)->Gr M M'->Q .non M'):W ((cx srt (k+5)).fn "read_asking" [.str w]) M Q:=by
 have big:=aj;rw[aP "read_asking" 4 1 gb rfl,wf,gb];symm;refine⟨Hj.map λ k=>(jg k,sg (dI k)),rfl,?_⟩;have O:qi (Hj.map λ k=>(jg k,sg (dI k)))=Hj.map λ k=>D.tup [.str (jg k),.str (sg (dI k))]:=rfl;rw[O];refine lV (λ m ρ M'=>Gr M M'/\(∀i f,i<m->Hj[i]?=some f->∀a,bW w a->a.k≠f)/\∃v u t,ρ=[some (.str w),v,u,t]) ⟨Gr.refl,λ i _ z=>absurd z (yU _),_,_,_,rfl⟩ (λ _ _ _ _=>trivial) ?_ ?_
 ·rintro m d ρ M' hd ⟨q,p,v,u,t,rfl⟩
  rw[zm]at hd;let⟨f,P,rfl⟩:=zp.mp hd;exists _,_,rfl;have T:(sg (dI f)).length=1:=rfl;have next:(∀a,bW w a->a.k≠f)->∀i kd',i<m+1->Hj[i]?=some kd'->∀a,bW w a->a.k≠kd':=λ h i kd' hi j=>by
   by_cases z:i=m
   ·subst z
    rw[P]at j;cases j;exact h
   ·exact p i kd' (by lk) j
  symm;refine⟨⟨by lk,by lk⟩,?_⟩;rcases EN w (dI f) with ⟨a,b,I,e⟩|hnw
  ·have S:w.length=a.length+1+b.length:=by rw[e,len_app,len_app];rfl
   have E:(iP w (sg (dI f))).map D.str=[.str a,.str (sg (dI f)),.str b]:=by rw[e,NI I];rfl
   rw[E];symm;have C:(sg (dI f)==sg (dI f))=true:=beq_self_eq_true _;rw[C];symm;refine AF (srt:=srt) (k+2) M' a (by lk) λ R B=>?_;cases ea:du abc 8 a with
   |true =>
    symm;have l:=eA.mp ea;refine FV (srt:=srt) k R f a b (by lk) l (λ x G y N L K A=>?_) (λ G y A=>?_)
    ·exact J x G ⟨y,by rw[e];unfold jJ;rw[N,L,K]⟩ ((q.trans B).trans A)
    ·refine H G (λ x hx=>?_) ((q.trans B).trans A)
     let⟨e1,r,F⟩:=DA hx e l;exact y x hx.1 e1 r F
   |false =>
    symm;refine⟨q.trans B,next λ x hx g=>?_,_,_,_,rfl⟩;subst g;have r:=congrArg (λ s:Str=>s.cps.toList) (hx.2.symm.trans e);unfold jJ at r;rwa[app_list,zU]at r;let⟨F,U⟩:=qo (c:=dI x.k) (NQ hx.1.n (.inl (AB _))) I r;rw[<- bM F,eA.mpr hx.1.n]at ea;cases ea
  ·have E:(iP w (sg (dI f))).map D.str=[.str w,.str Str.empty,.str Str.empty]:=by rw[NH hnw];rfl
   rw[E];symm;have C:(Str.empty==sg (dI f))=false:=by cases f <;> decide +kernel
   rw[C];symm;refine⟨q,next λ x hx g=>hnw ?_,_,_,_,rfl⟩;rw[hx.2,<- g];unfold jJ;rw[app_list,app_list];exact zZ _ (zN _ (by simp[sg]))
 ·rintro ρ M' ⟨q,p,v,u,t,rfl⟩
  symm;refine H M' (λ a l=>?_) q;cases g:a.k
  ·exact p 0 .is (by decide) rfl a l g
  ·exact p 1 .no (by decide) rfl a l g
  ·exact p 2 .there (by decide) rfl a l g
  ·exact p 3 .lacks (by decide) rfl a l g
def Kl(x:Str)(c:Nat):Str.mk (cutD (x++sg c).cps.toList none (some (((x++sg c).length:Int)-1))).toArray=x:=by
 have a:(sg c).length=1:=rfl;have b:(x++sg c).length=x.length+1:=by rw[len_app,a]
 rw[b,fQ _ (by lk),app_list];apply bM;rw[yL]
 have:(((x.length+1:Nat):Int)-1).toNat=x.cps.toList.length:=by rw[bj];lk
 rw[this];exact xc
def OB(x:Str)(c:Nat):de (x++sg c).cps.toList (((x++sg c).length:Int)-1)=some c:=by
 have a:(sg c).length=1:=rfl;have b:(x++sg c).length=x.length+1:=by rw[len_app,a]
 rw[b,show ((x.length+1:Nat):Int)-1=(x.length:Nat) by lk];refine bN ?_;rw[app_list,zA (by rw[bj];exact zq _),bj,yc];rfl
def N0{w:Str}(h:w≠""):∃x c,w=x++sg c:=by
 have a:w.cps.toList≠[]:=λ z=>h (bM (by rw[z];rfl));refine⟨⟨w.cps.toList.dropLast.toArray⟩,w.cps.toList.getLast a,bM ?_⟩;rw[app_list];exact(List.dropLast_concat_getLast a).symm
def RJ{p:Nat->Bool}{c d:Nat}{r s:List Nat}(hc:p c=true)(hd:p d=true):∀(l a:List Nat),(∀x∈l,p x=false)->(∀x∈a,p x=false)->l++c::r=a++d::s->l=a/\c=d/\r=s
 |[],[],_,_,e=>by
  injection e with e1 b
  exact⟨rfl,e1,b⟩
 |[],y::a,_,g,e=>by
  injection e with e1 b
  have:=g y zI
  rw[<- e1,hc]at this;cases this
 |x::l,[],h,_,e=>by
  injection e with e1 b
  have:=h x zI
  rw[e1,hd]at this;cases this
 |x::l,y::a,h,g,e=>by
  injection e with e1 b
  let⟨k,j,i⟩:=RJ hc hd l a (λ z f=>h z (zE _ f)) (λ z f=>g z (zE _ f)) b;exact⟨by rw[e1,k],j,i⟩
def HU(p:Nat->Bool):∀l:List Nat,(∃a c b,l=a++c::b/\p c=true/\∀x∈a,p x=false)\/∀x∈l,p x=false
 |[]=>.inr λ x hx=>by cases hx
 |y::l=>by
  cases hy:p y with
  |true=>exact .inl ⟨[],y,l,rfl,hy,λ x hx=>by cases hx⟩
  |false =>
   rcases HU p l with ⟨a,c,b,e1,e,d⟩|h
   ·refine .inl ⟨y::a,c,b,by rw[e1];rfl,e,λ x hx=>?_⟩
    rcases zd.mp hx with rfl|hx
    ·exact hy
    ·exact d x hx
   ·refine .inr λ x hx=>?_
    rcases zd.mp hx with rfl|hx
    ·exact hy
    ·exact h x hx
abbrev isEq(c:Nat):Bool:=decide (c∈("=!":Str).cps.toList)
def DR(c:vs.length<=3)(h:∀i v,vs[i]?=some v->du ip 12 v=true/\v ∉ vs.take i):gI vs=true:=by
 rw[eW];refine⟨c,?_,λ v hv=>?_⟩
 ·refine yT.mpr λ i j hi b a e=>?_
  refine(h j _ (zu b)).2 ?_;rw[<- e];exact zl (i:=i) (by rw[xn,if_pos a];exact zu hi)
 ·let⟨i,hi⟩:=ya hv
  exact eA.mp (h i v hi).1
def kK(v:Str)(vs:List Str):jO M (.str v) (vs.map .str)=some (decide (v∈vs)):=by
 rw[mU rfl (by rw[xJ,yw];exact λ _ _=>rfl)];congr 1;rw[List.any_map,zV,xu,zzC];exact⟨λ ⟨x,hx,e⟩=>(show (x==v)=true from e) |> eq_of_beq |> λ z=>z▸hx,λ h=>⟨v,h,beq_self_eq_true v⟩⟩
def Kv(k:Nat)(M:MH)(w a rest:Str)(c j:Nat)(r:List D)(x1 x2:Option D)(hw:w.length<=2000)(e:w=a++sg c++rest)(K:M[j]?=some (.lst (.int a.length::r))) 
  (q:∀M',gI (ax rest (sg 124))=true->Gr M M'->Q (.tup [.str (if c=61 then "is" else "no"),.str a,.tup ((ax rest (sg 124)).map .str)]) M') (u:∀M',gI (ax rest (sg 124))=false->Gr M M'->Q .non M') :
  W (aH (cx srt (k+1)) (av 6 bF) [some (.str w),x1,x2,some (.ob j),none,none]) M (dN Q):=by
 have big:=aj;rw[bF];dsimp only[av];symm;exists _,K;symm;have F:a.cps.toList.length=a.length:=bj a;have Z:w.length=a.length+1+rest.length:=by rw[e,len_app,len_app];rfl
 have H:w.cps.toList=a.cps.toList++c::rest.cps.toList:=by rw[e,app_list,app_list,zU];rfl
 have Y:Str.mk (cutD w.cps.toList (some ((a.length:Int)+1)) none).toArray=rest:=by
  refine bM ?_;rw[gY _ (by lk),H,yL,show ((a.length:Int)+1).toNat=(a.cps.toList++[c]).length by rw[zx,F];rwa[zj,zT];lk];rw[show a.cps.toList++c::rest.cps.toList=(a.cps.toList++[c])++rest.cps.toList by simp,List.drop_left]
 rw[Y];have S:(Str.ofString "|")=sg 124:=by decide
 rw[S];have R:=split_len rest 124;have J:∀v∈ax rest (sg 124),v.length<=2000:=λ v hv=>zG (gm hv) (by lk);generalize ax rest (sg 124)=vs at R J q u ⊢;refine⟨by lk,⟨by decide,by lk,by lk⟩,_,ae _ _,?_⟩;have y:(M++[MO.lst (vs.map D.str)])[M.length]?=some (.lst (vs.map D.str)):=ae _ _;have p:Gr M (M++[MO.lst (vs.map D.str)]):=Gr.app _ _;generalize M.length=i0 at y ⊢;generalize M++[MO.lst (vs.map D.str)]=M2 at y p ⊢;have lo:Az (MO.lst (vs.map D.str))=(vs.length:Int):=by show ((vs.map D.str).length:Int)=_;rw[zy]
 rw[lo];refine⟨⟨by lk,by lk⟩,?_⟩;refine dO (λ m ρ M'=>Gr M2 M'/\(∃x,ρ=[some (.str w),x1,x2,some (.ob j),some (.ob i0),x])/\m<=3/\∀i v,i<m->vs[i]?=some v->du ip 12 v=true/\v ∉ vs.take i) ⟨Gr.refl,⟨_,rfl⟩,by lk,λ i _ z=>absurd z (yU _)⟩ (λ _ _ _ _=>trivial) ?_ ?_
 ·rintro m d ρ M' hd ⟨g,⟨x,rfl⟩,N,A⟩
  let⟨rfl,U⟩:=eM hd;obtain⟨v,hv⟩:∃v,vs[m]?=some v:=⟨_,zu (by lk)⟩;have t:=g.keep _ _ y;rw[vH];have cm:m<vs.length:=by lk
  have I:=zl hv;symm;by_cases L:2<m
  ·rw[zzB (show (2:Int)<m by lk)]
   have:gI vs=false:=by
    unfold gI;rw[zzA (by lk),zL]
   symm;exact u _ this (p.trans g)
  rw[zzA (show ¬ (2:Int)<m by lk)];symm;exists _,t;symm;refine⟨_,bN (by rw[zm,hv];rfl),?_⟩;refine pz (srt:=srt) k M' v "0123456789" 12 (J v I) (by decide) (by lk) ?_;rw[show abc++("0123456789":Str)=ip from by decide +kernel];cases ev:du ip 12 v with
  |false =>
   symm;refine u _ ?_ (p.trans g);rw[<- yQ,eW];intro z;rw[eA.mpr (z.2.2 v I)]at ev;cases ev
  |true =>
   symm;exists _,t;symm;refine⟨_,bN (by rw[zm,hv];rfl),?_⟩;symm;exists _,t;symm;exists _,ae _ _;dsimp only;have B:cutD (vs.map D.str) none (some (m:Int))=(vs.take m).map D.str:=by
    rw[fQ _ (by lk),yO];rfl
   rw[Ge,B,kK];exists _,rfl;have n:Gr M' (M'++[MO.lst ((vs.take m).map D.str)]):=Gr.app _ _;by_cases E:v∈vs.take m
   ·rw[zzB E]
    symm;refine u _ ?_ ((p.trans g).trans n);rw[<- yQ,eW];intro z;let⟨i,hi⟩:=ya E;rw[xn]at hi;split at hi
    ·rename_i T
     let⟨X,L⟩:=zz.mp hi;let⟨l,V⟩:=zz.mp hv;exact yT.mp z.2.1 i m X l T (L.trans V.symm)
    ·cases hi
   ·rw[zzA E]
    symm;refine⟨g.trans n,⟨_,rfl⟩,by lk,λ i P hi h=>?_⟩;by_cases z:i=m
    ·subst z
     rw[hv]at h;cases h;exact⟨ev,E⟩
    ·exact A i P (by lk) h
 ·rintro ρ M' ⟨g,⟨x,rfl⟩,N,A⟩
  rw[bw]at N A;have hv:gI vs=true:=DR (by lk) λ i v hi=>A i v (by have:=(zz.mp hi).1;lk) hi;symm;have O:=(p.trans g).keep _ _ K;refine⟨by lk,_,(Gr.app M' [MO.lst [D.str (Str.ofString "no"),D.str (Str.ofString "is")]]).keep _ _ O,?_⟩;symm;have t:=g.keep _ _ y;have n:Gr M' (M'++[MO.lst [D.str (Str.ofString "no"),D.str (Str.ofString "is")]]):=Gr.app _ _;have l:(M'++[MO.lst [D.str (Str.ofString "no"),D.str (Str.ofString "is")]])[M'.length]?=some (.lst [D.str (Str.ofString "no"),D.str (Str.ofString "is")]):=ae _ _;have f:=n.keep _ _ O;have b:=n.keep _ _ t;have G:=(p.trans g).trans n;generalize M'.length=i3 at l ⊢;generalize M'++[MO.lst [D.str (Str.ofString "no"),D.str (Str.ofString "is")]]=M4 at l f b G ⊢;refine⟨by lk,c,bN (by rw[H,zA (by lk),F,yc];rfl),?_⟩;have B:Str.mk (cutD w.cps.toList none (some (a.length:Int))).toArray=a:=by
   refine bM ?_;rw[fQ _ (by lk),H,yL,show ((a.length:Int)).toNat=a.cps.toList.length by rw[F];lk,xc]
  unfold sgn;by_cases C:c=61
  ·rw[if_pos C]at q
   symm;rw[show ((⟨#[c]⟩:Str)==Str.ofString "=")=true from by rw[C];decide +kernel];symm;exists 1,rfl,_,l;symm;exists _,f;symm;refine⟨by lk,_,b,by lk,?_⟩;rw[B];exact q _ hv G
  ·rw[if_neg C]at q
   symm;rw[show ((⟨#[c]⟩:Str)==Str.ofString "=")=false from zzF.mpr λ z=>C (by
    have:=congrArg (λ s:Str=>s.cps.toList) z
    injection this)]
   symm;exists 0,rfl,_,l;symm;exists _,f;symm;refine⟨by lk,_,b,by lk,?_⟩;rw[B];exact q _ hv G
def Kw(k:Nat)(M:MH)(w:Str)(x1 x2:Option D)(hw:w.length<=2000)(q1:∀(a:Ask) M',fk a.k=true->bW w a->Gr M M'->Q (bq a) M')(J:∀M',(∀a:Ask,fk a.k=true->¬ bW w a)->Gr M M'->Q .non M') :
  W (aH (cx srt (k+1)) (av 4 bF) [some (.str w),x1,x2,none,none,none]) M (dN Q):=by
 have big:=aj;rw[bF];dsimp only[av];symm;have Z:small (w.length:Int):=⟨by lk,by lk⟩;refine⟨by lk,Z,by rw[bw];lk,?_⟩;have look:∀(m:Nat) (d:D),(gO 0 (w.length:Int))[m]?=some d->d=D.int (m:Int)/\∃c,w.cps.toList[m]?=some c:=λ m d hd=>by
  let⟨rfl,hm⟩:=eM hd;refine⟨by rw[vH],?_⟩;cases e:w.cps.toList[m]? with
  |none =>
   exfalso;rw[List.getElem?_eq_none_iff,bj]at e
   lk
  |some c=>exact⟨c,rfl⟩
 rcases HU isEq w.cps.toList with ⟨b,c,F,C,hc,N⟩|hno
 ·refine bJ (λ m B M'=>M'=M/\(m<=b.length->B=[])/\(b.length<m->∃r,B=.int b.length::r)) ⟨rfl,λ _=>rfl,λ z=>absurd z (yU _)⟩ (λ _ _ _ _=>trivial) ?_ ?_
  ·rintro m d B M' hd ⟨rfl,O,A⟩
   let⟨rfl,u,f⟩:=look m d hd;symm;refine⟨by lk,u,bN f,?_⟩;unfold sgn;symm;rw[occ_eq];have U:∀(h:m<b.length),isEq u=false:=λ h=>by
    rw[C,zK h]at f;exact N u (zl f)
   have Zn:m=b.length->u=c:=λ h=>by
    rw[C,zA (by lk),h,yc]at f;injection f with z
    exact z.symm
   refine⟨λ z=>?_,λ z=>?_⟩
   ·have z:isEq u=true:=z
    refine⟨λ y=>?_,λ y=>?_⟩
    ·rw[U (by lk)]at z
     cases z
    ·by_cases h:m=b.length
     ·rw[O (by lk),h]
      exact⟨[],rfl⟩
     ·let⟨r,e⟩:=A (by
       rcases Nat.lt_or_ge m b.length with q|q
       ·rw[U q]at z;cases z
       ·lk)
      exact⟨_,by rw[e];rfl⟩
   ·have z:isEq u=false:=z
    refine⟨λ y=>O (by lk),λ y=>?_⟩;by_cases h:m=b.length
    ·rw[Zn h,hc]at z
     cases z
    ·exact A (by lk)
  ·skip
   rintro B M' ⟨rfl,_,A⟩;rw[bw]at A;have lw:=congrArg List.length C;rw[bj,zx,zj]at lw;let⟨r,rfl⟩:=A (by lk);symm;have K:(M'++[MO.lst (D.int b.length::r)])[M'.length]?=some (.lst (.int b.length::r)):=ae _ _;have P:Gr M' (M'++[MO.lst (D.int b.length::r)]):=Gr.app _ _;generalize hj:M'.length=j at K ⊢;generalize M'++[MO.lst (D.int b.length::r)]=M2 at K P ⊢;refine⟨by lk,?_⟩;have E:(M2++[MO.lst []])[j]?=some (.lst (.int b.length::r)):=(Gr.app M2 _).keep _ _ K;have S:(M2++[MO.lst []])[M2.length]?=some (.lst []):=ae _ _;have H:Gr M' (M2++[MO.lst []]):=P.trans (Gr.app _ _);generalize M2++[MO.lst []]=M3 at E S H ⊢;rw[gQ];exists _,kP E S;have lA:(Str.mk b.toArray).length=b.length:=by rw[<- bj]
   have ea:Str.mk (cutD w.cps.toList none (some (b.length:Int))).toArray=⟨b.toArray⟩:=by
    refine bM ?_;rw[fQ _ (by lk),C,yL,yL,yJ,xc]
   have R:w=⟨b.toArray⟩++sg c++⟨F.toArray⟩:=bM (by rw[app_list,app_list,zU,C];rfl);have cut:∀x:Ask,fk x.k=true->bW w x->x.n=⟨b.toArray⟩/\dI x.k=c/\bar x.vs=⟨F.toArray⟩:=λ x i hx=>by
    have I:=congrArg (λ s:Str=>s.cps.toList) hx.2.symm;unfold jJ at I;rwa[app_list,zU]at I;rw[C]at I;have G:isEq (dI x.k)=true:=by
     revert i;cases x.k <;> simp[fk] <;> decide +kernel
    let⟨e3,e4,L⟩:=RJ (p:=isEq) G hc x.n.cps.toList b (λ y hy=>by
     have:=kT y (hx.1.n.2.2 y hy)
     unfold isEq;rw[decide_eq_false_iff_not];have A:∀z∈("=!":Str).cps.toList,z<97:=by decide +kernel
     intro z
     have:=A y z
     lk) N I
    exact⟨bM e3,e4,bM L⟩
   symm;refine⟨λ z=>(by cases z),λ _=>⟨_,E,?_⟩⟩;symm;refine⟨by lk,?_⟩;rw[ea];refine pz (srt:=srt) k M3 ⟨b.toArray⟩ "" 8 (by lk) (by decide) (by lk) ?_;rw[show abc++("":Str)=abc from by decide +kernel];cases eo:du abc 8 ⟨b.toArray⟩ with
   |false =>
    symm;refine J _ (λ x i hx=>?_) H
    have:=(cut x i hx).1
    rw[<- this,eA.mpr hx.1.n]at eo;cases eo
   |true =>
    have ha:=eA.mp eo;have t:=Kv (srt:=srt) k M3 w ⟨b.toArray⟩ ⟨F.toArray⟩ c j r x1 x2 hw R (by rw[lA];exact E) (Q:=Q) (λ T hv g=>?_) (λ T hv g=>?_)
    ·rw[bF]at t
     dsimp only[av]at t;revert t;symm;exact id
    ·let⟨Y,X,V⟩:=eW.mp hv
     have i:dI (if c=61 then Kd.is else .no)=c/\fk (if c=61 then Kd.is else .no)=true/\jg (if c=61 then Kd.is else .no)=(if c=61 then ("is":Str) else "no"):=by
      by_cases h:c=61
      ·rw[if_pos h,if_pos h]
       exact⟨h.symm,rfl,rfl⟩
      ·rw[if_neg h,if_neg h]
       refine⟨?_,rfl,rfl⟩
       have:c∈("=!":Str).cps.toList:=zzD hc
       have A:∀z∈("=!":Str).cps.toList,z=61\/z=33:=by decide +kernel
       rcases A c this with z|z
       ·exact absurd z h
       ·exact z.symm
     have:=q1 ⟨if c=61 then Kd.is else .no,⟨b.toArray⟩,ax ⟨F.toArray⟩ (sg 124)⟩ T i.2.1 ⟨⟨ha,V,Y,X,λ _=>p9 _ _,λ z=>(by rw[i.2.1]at z;cases z)⟩,by
      unfold jJ bar;rw[i.1,fU];exact R⟩ (H.trans g)
     unfold bq at this;rw[i.2.2]at this;exact this
    ·refine J _ (λ x i hx=>?_) (H.trans g)
     let⟨_,_,L⟩:=cut x i hx;have es:ax (bar x.vs) (sg 124)=x.vs:=mH (c:=124) (hx.1.ne i) λ v hv=>sC (hx.1.v v hv) (by lk);rw[<- L,es,eW.mpr ⟨hx.1.l,hx.1.nd,hx.1.v⟩]at hv;cases hv
 ·refine bJ (λ m B M'=>M'=M/\B=[]) ⟨rfl,rfl⟩ (λ _ _ _ _=>trivial) ?_ ?_
  ·rintro m d B M' hd ⟨rfl,rfl⟩
   let⟨rfl,u,f⟩:=look m d hd;symm;refine⟨by lk,u,bN f,?_⟩;unfold sgn;symm;rw[occ_eq];have z:isEq u=false:=hno u (zl f);intro y;rw[show decide (u∈(Str.ofString "=!").cps.toList)=false from z]at y;cases y
  ·rintro B M' ⟨rfl,rfl⟩
   symm;refine⟨by lk,?_⟩;rw[gQ];exists _,kP (xs:=[]) ((Gr.app _ _).keep _ _ (ae _ _)) (ae _ _);symm;refine⟨λ _=>J _ (λ x i hx=>?_) ((Gr.app _ _).trans (Gr.app _ _)),λ z=>(by cases z)⟩;have G:isEq (dI x.k)=true:=by
    revert i;cases x.k <;> simp[fk] <;> decide +kernel
   rw[hno (dI x.k) (by
    rw[hx.2];unfold jJ;rw[app_list,app_list];exact zZ _ (zN _ (by simp[sg])))]at G
   cases G
def uj(x:Str):x++bar []=x:=bM (by rw[app_list];exact zO _)
def Dz(k:Nat)(M:MH)(w:Str)(hw:w.length<=2000)(y:∀(a:Ask) M',bW w a->Gr M M'->Q (bq a) M')(u:∀M',(∀a:Ask,¬ bW w a)->Gr M M'->Q .non M'):W ((cx srt (k+2)).fn "_law_asked" [.str w]) M Q:=by
 have big:=aj;by_cases r:w = ""
 ·subst r
  rw[aP "_law_asked" 6 1 bF rfl,wf,bF];symm;rw[show (Str.ofString ""==Str.ofString "")=true from rfl];symm;refine u M (λ a b=>?_) Gr.refl;have d:=congrArg (λ s:Str=>s.length) b.2;unfold jJ at d;rwa[len_app]at d;have i:=b.1.n.1;have j:(Str.ofString "").length=0:=rfl;lk
 have tl:(∀a:Ask,fk a.k=false->¬ bW w a)->∀q p,W (aH (cx srt (k+1)) (av 4 bF) [some (.str w),q,p,none,none,none]) M (dN Q):=λ h q p =>
  Kw (srt:=srt) k M w q p hw (λ a M' _ b g=>y a M' b g) (λ M' A g=>u M' (λ a b=>by
   cases hk:fk a.k with
   |true=>exact A a hk b
   |false=>exact h a hk b) g)
 let⟨x,c,e⟩:=N0 r;have E:w.length=x.length+1:=by rw[e,len_app];rfl
 have last:∀a:Ask,fk a.k=false->bW w a->dI a.k=c/\a.n=x:=λ a hk b=>by
  have d:=b.2;unfold jJ at d;rw[b.1.e hk,uj,e]at d;have i:=congrArg (λ s:Str=>s.cps.toList) d;rwa[app_list]at i;let⟨j,C⟩:=List.append_inj' i rfl;exact⟨by injection C with B;exact B.symm,(bM j).symm⟩
 rw[aP "_law_asked" 6 1 bF rfl,wf,bF];rw[bF]at tl;dsimp only[av]at tl;symm;rw[show (w==Str.ofString "")=false from zzF.mpr r];symm;refine⟨by lk,by lk,c,by rw[e];exact OB x c,by lk,by lk,?_⟩;rw[show Str.mk (cutD w.cps.toList none (some ((w.length:Int)-1))).toArray=x from by rw[e];exact Kl x c];unfold sgn;symm;rw[occ_eq];have i:∀z∈(Str.ofString "+-").cps.toList,z=43\/z=45:=by decide +kernel
 have j:∀k,fk k=false->dI k∈(Str.ofString "+-").cps.toList:=by intro k;cases k <;> decide +kernel
 by_cases m:c∈(Str.ofString "+-").cps.toList
 ·rw[zzB m]
  symm;refine pz (srt:=srt) k M x "" 8 (by lk) (by decide) (by lk) ?_;rw[show abc++("":Str)=abc from by decide +kernel];cases eo:du abc 8 x with
  |false =>
   have t:=tl (λ a hk b=>by
    rw[<- (last a hk b).2,eA.mpr b.1.n]at eo;cases eo) (some (.str ⟨#[c]⟩)) (some (.str x))
   revert t;symm;exact id
  |true =>
   have b:=eA.mp eo;symm;have hk:dI (if c=43 then Kd.there else .lacks)=c/\fk (if c=43 then Kd.there else .lacks)=false:=by
    by_cases h:c=43
    ·rw[if_pos h]
     exact⟨h.symm,rfl⟩
    ·rw[if_neg h]
     rcases i c m with z|z
     ·exact absurd z h
     ·exact⟨z.symm,rfl⟩
   have f:=y ⟨if c=43 then Kd.there else .lacks,x,[]⟩ (M++[MO.lst [D.str (Str.ofString "lacks"),D.str (Str.ofString "there")]]) ⟨⟨b,λ v hv=>(by cases hv),zW _,xQ,λ z=>(by rw[hk.2]at z;cases z),λ _=>rfl⟩,by
    unfold jJ;rw[hk.1,uj];exact e⟩ (Gr.app _ _)
   unfold bq at f;by_cases l:c=43
   ·rw[if_pos l]at f
    rw[show ((⟨#[c]⟩:Str)==Str.ofString "+")=true from by rw[l];decide +kernel];symm;refine⟨by lk,1,rfl,_,ae _ _,?_⟩;symm;exact⟨by lk,by lk,f⟩
   ·rw[if_neg l]at f
    rw[show ((⟨#[c]⟩:Str)==Str.ofString "+")=false from zzF.mpr λ z=>l (by
     have:=congrArg (λ s:Str=>s.cps.toList) z
     injection this)]
    symm;refine⟨by lk,0,rfl,_,ae _ _,?_⟩;symm;exact⟨by lk,by lk,f⟩
 ·rw[zzA m]
  have t:=tl (λ a hk b=>m (by
   rw[<- (last a hk b).1];exact j _ hk)) (some (.str ⟨#[c]⟩)) (some (.str x))
  revert t;symm;exact id
end
open PySem L3 PySem.NumText
section
variable {srt:List D->Option (List D)}
abbrev bo(ds:List Nat):List D:=ds.map λ (d:Nat)=>D.int (d:Int)
def cI(ds:List Nat):(bo ds).length=ds.length:=by unfold bo;simp
abbrev il:Str:="0123456789"
def Kf:il.cps.toList=[48,49,50,51,52,53,54,55,56,57]:=by decide +kernel
def sN:c∈il.cps.toList ↔ 48<=c/\c<=57:=by
 rw[Kf];refine⟨(by decide:∀x∈([48,49,50,51,52,53,54,55,56,57]:List Nat),48<=x/\x<=57) c,λ h=>?_⟩;have e:=(by decide:∀d,d<10->d+48∈([48,49,50,51,52,53,54,55,56,57]:List Nat)) (c-48) (by lk)
 (rw[Nat.sub_add_cancel h.1]at e;assumption)
def sQ(h:ij il w=true):AllDigits w.cps.toList:=λ c hc=>sN.mp (ke.mp h c hc)
def Qf(h:w.length=1):∃c,w=sg c:=by
 have e:=bj w;rw[h]at e;let⟨c,hc⟩:=wn.mp e;exact⟨c,bM hc⟩
def k8{w:Str}(h:1<=w.length):∃c r,w.cps.toList=c::r:=by
 cases e:w.cps.toList with
 |nil =>
  have:=bj w
  rw[e]at this;rw[<- this]at h;cases h
 |cons c r=>exact⟨c,r,rfl⟩
def mS(h:ij il w=true)(b:1<=w.length)(a:w.length<=640):iQ (.str w)=some ((digitsVal w.cps.toList:Nat):Int):=by
 let⟨c,r,e⟩:=k8 b;show (if w.length<=640 then PySem.intText? w else none)=_;rw[if_pos a];exact intText_digits (sQ h) (by rw[e];exact yF _ _) (by lk)
abbrev pW(d:Nat)(ds:List Nat):Nat:=(ds.reverse.takeWhile λ o=>decide (d<=o)).count d
def Br{d o:Nat}{l:List Nat}{m:Nat}(b:∀x∈l.take m,d<=x)(ho:l[m]?=some o)(h:o<d):l.takeWhile (λ o=>decide (d<=o))=l.take m:=by
 have e:l=l.take m++o::l.drop (m+1):=by
  let⟨a,c⟩:=zz.mp ho;rw[<- c,<- yt a,List.take_append_drop]
 rw[e,xH (λ x hx=>zzB (b x hx)),List.takeWhile_cons_of_neg (by simp;lk),zO,List.take_left' (by
  rw[zS]
  have:=(zz.mp ho).1
  lk)]
def Dx{d:Nat}{l:List Nat}(a:∀x∈l,d<=x):l.takeWhile (λ o=>decide (d<=o))=l:=by
 have:=xH (p:=λ o=>decide (d<=o)) (l₁:=l) (l₂:=[]) (λ x hx=>zzB (a x hx))
 simpa using this
def u5{l:List Nat}{m o d:Nat}(ho:l[m]?=some o):(l.take (m+1)).count d=(l.take m).count d+if o=d then 1 else 0:=by
 let⟨a,b⟩:=zz.mp ho;rw[zH a,List.count_append,b,List.count_cons,List.count_nil];by_cases z:o=d
 ·rw[if_pos z,if_pos (by rw[z];simp)]
 ·rw[if_neg z,if_neg (by simpa using z)]
def Dq{ds:List Nat}{m:Nat}{x:D}(h:(bo ds).reverse[m]?=some x):∃o:Nat,x=.int o/\ds.reverse[m]?=some o:=by
 unfold bo at h;rw[<- List.map_reverse,zm]at h;let⟨o,ho,rfl⟩:=zp.mp h;exact⟨o,rfl,ho⟩
def take_all{d o:Nat}{l:List Nat}{m:Nat}(b:∀x∈l.take m,d<=x)(ho:l[m]?=some o)(h:d<=o):∀x∈l.take (m+1),d<=x:=λ x hx=>by
 let⟨a,c⟩:=zz.mp ho;rw[zH a,c]at hx;rcases zQ.mp hx with hx|hx
 ·exact b x hx
 ·rw[zB.mp hx];exact h
def Ks(k:Nat)(M:MH){d j:Nat}{ds:List Nat}(i:M[j]?=some (.lst (bo ds))){Q:D->MH->Prop}(q:Q (.int (pW d ds)) M):W ((cx srt (k+1)).fn "rows_beside" [.int d,.ob j]) M Q:=by
 have big:=aj;rw[aP "rows_beside" 4 2 fY rfl,wf,fY];symm;exists _,i;refine dO (λ m ρ g=>g=M/\(∀x∈ds.reverse.take m,d<=x)/\∃f,ρ=[some (.int d),some (.ob j),some (.int ((ds.reverse.take m).count d:Nat)),f]) ⟨rfl,λ x h=>by simp at h,_,rfl⟩ (λ _ _ _ h=>by rw[h.1];exact i) ?_ ?_
 ·rintro m x ρ g hx ⟨rfl,a,f,rfl⟩
  let⟨o,rfl,ho⟩:=Dq hx;have c:=u5 (d:=d) ho;symm;refine⟨λ z=>?_,λ b=>⟨λ z=>?_,λ z=>?_⟩⟩
  ·have:=zzD z
   have e:=Br a ho (by lk);unfold pW at q;rw[e]at q;exact q
  ·have b:=zzE b
   have:o=d:=by have:=eq_of_beq z;lk
   rw[if_pos this]at c;exact⟨take_all a ho (by lk),_,by rw[c];rfl⟩
  ·have b:=zzE b
   have:o≠d:=λ l=>by rw[l]at z;simp at z
   rw[if_neg this]at c;exact⟨take_all a ho (by lk),_,by rw[c];rfl⟩
 ·rintro ρ g ⟨rfl,a,f,rfl⟩
  rw[yC,cI,<- yC,zM]at *;symm;unfold pW at q;rw[Dx a]at q;exact q
abbrev lT(ds:List Nat)(d:Nat):Bool:=match ds.getLast? with
 |none=>decide (d=0)
 |some l=>decide (1<=d)&&(decide (d<=l+1)&&(decide (ds.length<20)&&decide (pW d ds<5)))
abbrev jG(ds:List Nat)(w:Str):Bool:=decide (w.length=1)&&(ij il w&&(decide (digitsVal w.cps.toList<5)&&lT ds (digitsVal w.cps.toList)))
def sG{ds:List Nat}{l:Nat}(h:ds.getLast?=some l):de (bo ds) (-1)=some (.int l):=by
 rw[List.getLast?_eq_getElem?]at h;have a:=(zz.mp h).1;unfold de mh;rw[if_neg (by decide),cI,if_pos (by lk)];show (bo ds)[(-1+(ds.length:Int)).toNat]?=_;rw[show (-1+(ds.length:Int)).toNat=ds.length-1 by lk];unfold bo;rw[zm,h];rfl
def Hn(k:Nat)(M:MH)(h:M[j]?=some (.lst (bo ds)))(w:Str)(hw:w.length<=2000)(q:∀M',Gr M M'->Q (.bl (jG ds w)) M'):W ((cx srt (k+2)).fn "is_depth" [.str w,.ob j]) M Q:=by
 have big:=aj;rw[aP "is_depth" 3 2 ka rfl,wf,ka];symm;refine⟨by lk,?_⟩;unfold jG at q;by_cases f:w.length=1
 ·rw[show ((w.length:Int)==1)=true by rw[f];rfl]
  rw[zzB f,zP]at q;symm;exists _,rfl;refine qP k M w il hw λ n b=>?_;have c:=b.keep _ _ h;cases hf:ij il w with
  |false =>
   rw[hf]at q;symm;exact q _ b
  |true =>
   rw[hf,zP]at q;symm;refine⟨_,mS hf (by lk) (by lk),_,c,?_⟩;generalize digitsVal w.cps.toList=d at q;symm;cases hl:ds.getLast? with
   |none =>
    have e:ds=[]:=xt.mp hl;subst e;refine⟨λ _=>?_,λ z=>absurd z (by decide)⟩;have g:((d:Int)==0)=(decide (d<5)&&lT [] d):=by
     show ((d:Int)==0)=(decide (d<5)&&decide (d=0));rw[zV];simp;lk
    rw[g];exact q _ b
   |some l =>
    have ne:ds≠[]:=λ e=>by rw[e]at hl;cases hl
    refine⟨λ z=>absurd z (by cases ds with
     |nil=>exact absurd rfl ne
     |cons a r=>unfold bo;simp),λ z=>⟨_,c,?_⟩⟩
    symm;exists _,rfl;symm;unfold lT at q;rw[hl]at q;dsimp only at q;rw[cI];by_cases m:ds.length<20
    ·rw[zzA (show ¬ ((20:Int)<=ds.length) by lk)]
     symm;refine Ks k n c ?_;symm;exists _,rfl;symm;by_cases i:pW d ds<5
     ·rw[zzA (show ¬ ((5:Int)<=pW d ds) by lk)]
      symm;refine⟨λ z=>⟨_,rfl,_,c,?_⟩,λ z=>?_⟩
      ·have z:=zzD z
       symm;exists _,sG hl;symm;have g:decide ((d:Int)<=min 4 ((l:Int)+1))=(decide (d<5)&&(decide (1<=d)&&(decide (d<=l+1)&&(decide (ds.length<20)&&decide (pW d ds<5))))):=by
        rw[zV];simp;lk
       rw[g];exact q _ b
      ·have z:=zzE z
       rw[zzA (show ¬ 1<=d by lk),zL,yp]at q;exact q _ b
     ·rw[zzB (show (5:Int)<=pW d ds by lk)]
      symm;rw[zzA i,yp,yp,yp,yp]at q;exact q _ b
    ·rw[zzB (show (20:Int)<=ds.length by lk)]
     symm;rw[zzA m,zL,yp,yp,yp]at q;exact q _ b
 ·rw[show ((w.length:Int)==1)=false from zzF.mpr (by lk)]
  rw[zzA f,zL]at q;symm;exact q _ Gr.refl
abbrev gk(w:Str):Bool:=decide (1<=w.length)&&(decide (w.length<=10)&&(ij il w&&(!decide (w.cps.toList[0]?=some 48)&&decide (digitsVal w.cps.toList<=1000000000))))
def La:((⟨#[c]⟩:Str)==sg d)=decide (c=d):=by
 rw[zV,beq_iff_eq,zzC];exact⟨λ e=>by have:=congrArg (λ s:Str=>s.cps.toList) e;simpa [sg] using this,λ e=>by rw[e];rfl⟩
def Ci:(Str.ofString "0")=sg 48:=by decide +kernel
def B9(k:Nat)(M:MH)(w:Str)(hw:w.length<=2000)(q:∀M',Gr M M'->Q (.bl (decide (1<=w.length)&&(decide (w.length<=10)&&(ij il w&&(w=="0"||!decide (w.cps.toList[0]?=some 48)))))) M'):W ((cx srt (k+2)).fn "is_numeral" [.str w,.int 10]) M Q:=by
 have big:=aj;rw[aP "is_numeral" 2 2 g9 rfl,wf,g9];symm;refine⟨by lk,?_⟩;by_cases a:1<=w.length
 ·rw[zzB (show (1:Int)<=w.length by lk)]
  rw[zzB a,zP]at q;symm;by_cases d:w.length<=10
  ·rw[zzB (show (w.length:Int)<=10 by lk)]
   rw[zzB d,zP]at q;symm;exists _,rfl;refine qP k M w il hw λ e b=>?_;cases hf:ij il w with
   |false =>
    rw[hf]at q;symm;exact q _ b
   |true =>
    rw[hf,zP]at q;symm;cases h0:(w==Str.ofString "0") with
    |true =>
     have q:=q e b;rw[show (w=="0")=true from h0,wT]at q;exact⟨λ _=>q,λ z=>(by cases z)⟩
    |false =>
     let⟨c,r,hc⟩:=k8 a;have q:=q e b;rw[show (w=="0")=false from h0,wI,hc]at q;refine⟨λ z=>(by cases z),λ _=>⟨by lk,c,bN (xs:=w.cps.toList) (j:=0) (by rw[hc];rfl),?_⟩⟩;unfold sgn;symm;rw[Ci,La];simpa using q
  ·rw[zzA (show ¬ (w.length:Int)<=10 by lk)]
   rw[zzA d,zL]at q;symm;exact q _ Gr.refl
 ·rw[zzA (show ¬ (1:Int)<=w.length by lk)]
  rw[zzA a,zL]at q;symm;exact q _ Gr.refl
def Fc(k:Nat)(M:MH)(w:Str)(hw:w.length<=2000)(q:∀M',Gr M M'->Q (.bl (gk w)) M'):W ((cx srt (k+3)).fn "is_number" [.str w]) M Q:=by
 have big:=aj;rw[aP "is_number" 1 1 iU rfl,wf,iU];symm;exists _,rfl;refine B9 k M w hw λ g f=>?_;have q:=q g f;unfold gk at q;by_cases b:1<=w.length
 ·rw[zzB b,zP]at q ⊢
  by_cases d:w.length<=10
  ·rw[zzB d,zP]at q ⊢
   cases hf:ij il w with
   |false =>
    rw[hf,zL]at q;rw[zL];symm;exact q
   |true =>
    rw[hf,zP]at q;rw[zP];have hi:=mS hf b (by lk);let⟨c,r,hc⟩:=k8 b;by_cases a:w.cps.toList[0]?=some 48
    ·rw[zzB a,yN,zL]at q
     rw[zzB a,yN,xV];cases hz:(w==("0":Str)) with
     |false =>
      symm;exact q
     |true =>
      have e:w=Str.ofString "0":=eq_of_beq hz;have ev:digitsVal w.cps.toList=0:=by rw[e];decide +kernel
      symm;exists _,hi;symm;rw[ev,zzA (by decide)];symm;exact q
    ·rw[zzA a,xw,zP]at q
     rw[zzA a,xw,Bool.or_true];have h:0<digitsVal w.cps.toList:=by
      have i:=(sQ hf) c (by rw[hc];exact zI);rw[hc]at a ⊢;exact digitsVal_pos (by have:c≠48:=λ z=>a (by rw[z];rfl);lk)
     symm;exists _,hi;symm;rw[zzB (show (1:Int)<=(digitsVal w.cps.toList:Nat) by lk)];symm;exists _,rfl;symm;have e:decide (((digitsVal w.cps.toList:Nat):Int)<=1000000000)=decide (digitsVal w.cps.toList<=1000000000):=by
      rw[zV,zzC,zzC];lk
     rw[e];exact q
  ·rw[zzA d,zL]at q ⊢
   symm;exact q
 ·rw[zzA b,zL]at q ⊢
  symm;exact q
def Ke:∀c,48<=c/\c<=57->findS "0123456789" ⟨#[c]⟩=((c-48:Nat):Int):=λ c h=>by
 have:c=48\/c=49\/c=50\/c=51\/c=52\/c=53\/c=54\/c=55\/c=56\/c=57:=by lk
 rcases this with rfl|rfl|rfl|rfl|rfl|rfl|rfl|rfl|rfl|rfl <;> decide +kernel
def Oo:∀(l:List Nat),AllDigits l->l.length<=10->digitsVal l<10 ^ l.length:=by
 intro l
 suffices H:∀r:List Nat,AllDigits r->digitsVal r.reverse<10 ^ r.length by
  intro h _
  have:=H l.reverse h.reverse
  (rw[List.reverse_reverse,yC]at this;assumption)
 intro r;induction r with
 |nil=>intro _;exact Nat.one_pos
 |cons c r a =>
  intro h;have d:=a h.tail;have b:=h.head;rw[List.reverse_cons,digitsVal_snoc,zj,Nat.pow_succ];lk
def Ij(k:Nat)(M:MH)(w:Str)(hw:w.length<=2000)(q:Q (.bl (gk w)) M):W ((cx srt (k+1)).fn "_law_counted" [.str w]) M Q:=by
 have big:=aj;rw[aP "_law_counted" 3 1 fD rfl,wf,fD];unfold gk at q;symm;refine⟨by lk,?_⟩;by_cases i:1<=w.length
 ·rw[zzA (show ¬ (w.length:Int)<1 by lk)]
  rw[zzB i,zP]at q;symm;refine⟨by lk,?_⟩;by_cases n:w.length<=10
  ·rw[zzA (show ¬ (w.length:Int) > 10 by lk)]
   rw[zzB n,zP]at q;let⟨c,r,hc⟩:=k8 i;symm;refine⟨by lk,c,bN (xs:=w.cps.toList) (j:=0) (by rw[hc];rfl),?_⟩;unfold sgn;symm;rw[Ci,La];by_cases f:c=48
   ·rw[zzB f]
    have a:w.cps.toList[0]?=some 48:=by rw[hc,f];rfl
    rw[zzB a,yN,zL,yp]at q;symm;exact q
   ·rw[zzA f]
    have a:¬ w.cps.toList[0]?=some 48:=by rw[hc];intro z;exact f (Option.some.inj z)
    rw[zzA a,xw,zP]at q;symm;refine⟨by lk,?_⟩;refine dO (λ m ρ l=>l=M/\(∀c∈w.cps.toList.take m,48<=c/\c<=57)/\∃g,ρ=[some (.str w),some (.int (digitsVal (w.cps.toList.take m):Nat)),g]) ⟨rfl,λ c h=>by simp at h,_,rfl⟩ (λ _ _ _ _=>trivial) ?_ ?_
    ·rintro m x ρ l hx ⟨rfl,b,g,rfl⟩
     rw[zm]at hx;let⟨c,hc,rfl⟩:=zp.mp hx;let⟨s,p⟩:=zz.mp hc;unfold sgn;symm;rw[occ_eq];refine⟨λ z=>?_,λ z=>?_⟩
     ·have z:c ∉ il.cps.toList:=by rw[yn,decide_eq_false_iff_not]at z;exact z
      have e:ij il w=false:=by
       rw[<- yQ,ke];exact λ y=>z (y c (zl hc))
      rw[e,zL]at q;exact q
     ·have z:c∈il.cps.toList:=by rw[wP,zzC]at z;exact z
      have z:=sN.mp z;have lt:=Oo (w.cps.toList.take m) b (by rw[zS,bj];lk)
      have:(10:Nat) ^ (w.cps.toList.take m).length<=10 ^ 10:=wB (by decide) (by rw[zS,bj];lk)
      rw[Ke c z];symm;refine⟨.inl ⟨by decide,by decide⟩,λ d hd=>?_,some (.str ⟨#[c]⟩),?_⟩
      ·rw[zH s,p]at hd
       rcases zQ.mp hd with hd|hd
       ·exact b d hd
       ·rw[zB.mp hd];exact z
      ·rw[zH s,p,digitsVal_snoc,show (10:Int)*((digitsVal (w.cps.toList.take m):Nat):Int)+((c-48:Nat):Int)=((digitsVal (w.cps.toList.take m)*10+(c-48):Nat):Int) by lk]
    ·rintro ρ l ⟨rfl,b,g,rfl⟩
     rw[zy,zM]at *;have e:ij il w=true:=ke.mpr λ c hc=>sN.mpr (b c hc);rw[e,zP]at q;symm;refine⟨⟨by decide,by decide,by decide⟩,?_⟩;have t:decide (((digitsVal w.cps.toList:Nat):Int)<=10 ^ (9:Int).toNat)=decide (digitsVal w.cps.toList<=1000000000):=by
      rw[zV,zzC,zzC];show ((digitsVal w.cps.toList:Nat):Int)<=1000000000 ↔ _;lk
     rw[t];exact q
  ·rw[zzB (show (w.length:Int) > 10 by lk)]
   rw[zzA n,zL]at q;symm;exact q
 ·rw[zzB (show (w.length:Int)<1 by lk)]
  rw[zzA i,zL]at q;symm;exact q
abbrev gT(w:Str):List Str:=if w = "-" then [] else ax w (sg 44)
abbrev fH(a:Bool)(w:Str):Bool:=decide ((gT w).length<=4)&&((gT w).all (du abc 8)&&(!a||decide (gT w).Nodup))
def comma:(Str.ofString ",")=sg 44:=by decide +kernel
def sU(t:Str):(t==Str.ofString "-")=decide (t = "-"):=by rw[zV,beq_iff_eq,zzC]
def NX(hw:w.length<=B):(gT w).length<=B+1/\∀x∈gT w,x.length<=B:=by
 unfold gT;split
 ·exact⟨zW _,λ _ h=>nomatch h⟩
 ·exact⟨zG (split_len w 44) (by lk),λ x hx=>zG (gm hx) hw⟩
def iO(k:Nat)(M:MH)(w:Str)(hw:w.length<=2000)(q:∀M',Gr M M'->Q (.tup ((gT w).map .str)) M'):W ((cx srt (k+2)).fn "read_names" [.str w]) M Q:=by
 have big:=aj;rw[aP "read_names" 1 1 g8 rfl,wf,g8];symm;exists _,rfl;symm;rw[sU];unfold gT at q;by_cases e:w = "-"
 ·rw[zzB e]
  rw[if_pos e]at q;symm;exact⟨by lk,q _ Gr.refl⟩
 ·rw[zzA e]
  rw[if_neg e]at q;have l:=split_len w 44;symm;rw[comma];exact⟨⟨by decide,by lk,by lk⟩,_,ae _ _,q _ (Gr.app _ _)⟩
def rL(k:Nat)(M:MH)(vs:List Str)(h:∀v∈vs,v.length<=2000)(f:vs.length<=2001)(q:∀M',Gr M M'->Q (.bl (decide (vs.length<=4)&&vs.all (du abc 8))) M'):W ((cx srt (k+3)).fn "are_names" [.tup (vs.map .str)]) M Q:=by
 have big:=aj;rw[aP "are_names" 1 1 iW rfl,wf,iW];symm;exists _,rfl;symm;rw[zy];by_cases b:vs.length<=4
 ·rw[zzB b,zP]at q
  rw[zzB (show (vs.length:Int)<=4 by lk)];symm;refine⟨by lk,?_⟩;refine bJ (λ m a M'=>Gr M M'/\a=((vs.take m).map (du abc 8)).map D.bl) ⟨Gr.refl,rfl⟩ (λ _ _ _ _=>trivial) ?_ ?_
  ·rintro m d a M' hd ⟨g,rfl⟩
   rw[zm]at hd;let⟨v,hv,rfl⟩:=zp.mp hd;symm;refine AF (srt:=srt) k M' v (h v (zl hv)) λ i c=>?_;exists g.trans c;rw[xf,hv];simp
  ·rintro a M' ⟨g,rfl⟩
   symm;exists _,ae _ _,_,mO _;have e:((vs.take (vs.map D.str).length).map (du abc 8)).all id=vs.all (du abc 8):=by
    rw[zy,zM,xJ];rfl
   rw[e];exact q _ (g.snoc _)
 ·rw[zzA b,zL]at q
  rw[zzA (show ¬ (vs.length:Int)<=4 by lk)];symm;exact q _ Gr.refl
def Cg(k:Nat)(M:MH)(vs:List Str)(h:∀v∈vs,v.length<=2000)(b:vs.length<=2001)(q:∀M',Gr M M'->Q (.bl (decide (vs.length<=4)&&(vs.all (du abc 8)&&decide vs.Nodup))) M'):W ((cx srt (k+4)).fn "are_unlike_names" [.tup (vs.map .str)]) M Q:=by
 have big:=aj;rw[aP "are_unlike_names" 1 1 dS rfl,wf,dS];symm;refine rL k M vs h b λ d c=>?_;have q:=q d c;rw[<- vA]at q;cases hb:(decide (vs.length<=4)&&vs.all (du abc 8)) with
 |false =>
  rw[hb,zL]at q;symm;exact q
 |true =>
  rw[hb,zP]at q;have f:vs.length<=4:=zzD (xv.mp hb).1;symm;exists vs,m9 vs;have a:=gF vs [];rwa[zT]at a;refine⟨by lk,?_⟩;symm;rw[zy];have e:(((au [] vs).length:Int)==(vs.length:Int))=decide vs.Nodup:=by
   rw[zV,beq_iff_eq,zzC];by_cases nd:vs.Nodup
   ·rw[ou vs [] nd];simp[nd]
   ·have:=ox vs [] xQ nd
    rwa[zT]at this;exact⟨λ z=>by lk,λ z=>absurd z nd⟩
  rw[e];exact q
def EU{vs:List Str}(h:∀i v,vs[i]?=some v->v ∉ vs.take i):vs.Nodup:=by
 unfold List.Nodup;rw[yT];intro i j hi a b e;refine h j vs[j] (zu a) ?_;rw[<- e,xR];exact⟨i,by lk,rfl⟩
def DV{vs:List Str}(nd:vs.Nodup){i:Nat}{v:Str}(h:vs[i]?=some v):v ∉ vs.take i:=λ z=>by
 let⟨j,b,e⟩:=xR.mp z;let⟨hi,a⟩:=zz.mp h
 have:=(yT.mp nd) j i (by lk) hi (by lk)
 exact this (e.trans a.symm)
def OE:abc++Str.ofString "" = abc:=bM (by rw[app_list];exact zO _)
def CV(k:Nat)(M:MH)(w:Str)(b:Bool)(hw:w.length<=2000)(q:∀M',Gr M M'->Q (.bl (fH b w)) M'):W ((cx srt (k+2)).fn "_law_named" [.str w,.bl b]) M Q:=by
 have big:=aj;rw[aP "_law_named" 4 2 hX rfl,wf,hX];symm;rw[sU];by_cases e:w = "-"
 ·rw[zzB e]
  have q:=q M Gr.refl;have F:fH b w=true:=by
   unfold fH gT;rw[if_pos e];cases b <;> rfl
  rw[F]at q;symm;exact q
 ·rw[zzA e]
  have l:=split_len w 44;have t:∀x∈ax w (sg 44),x.length<=2000:=λ x hx=>zG (gm hx) hw;have E:gT w=ax w (sg 44):=if_neg e;unfold fH at q;rw[E]at q;symm;rw[comma];generalize ax w (sg 44)=vs at q l t;refine⟨⟨by decide,by lk,by lk⟩,_,ae _ _,?_⟩;have p:Gr M (M++[MO.lst (vs.map D.str)]):=Gr.app _ _;have n:(M++[MO.lst (vs.map D.str)])[M.length]?=some (.lst (vs.map D.str)):=ae _ _;generalize M++[MO.lst (vs.map D.str)]=M1 at p n ⊢;generalize M.length=j at n ⊢;symm;rw[zy];refine⟨⟨by lk,by lk⟩,?_⟩;have d:∀{i:Nat} {v:Str},vs[i]?=some v->(3<i\/du abc 8 v=false\/(b=true/\v∈vs.take i))->(decide (vs.length<=4)&&(vs.all (du abc 8)&&(!b||decide vs.Nodup)))=false:=λ {i v} hv c=>by
   rw[<- yQ,zt,zt,zzC,yw];rintro ⟨G,B,r⟩;have hi:=(zz.mp hv).1;rcases c with c|c|⟨rfl,c⟩
   ·lk
   ·rw[B v (zl hv)]at c;cases c
   ·rw[yN,wI,zzC]at r
    exact DV r hv c
  refine dO (λ m ρ M'=>Gr M1 M'/\(∀i v,i<m->vs[i]?=some v->i<=3/\du abc 8 v=true/\(b=true->v ∉ vs.take i))/\∃s,ρ=[some (.str w),some (.bl b),some (.ob j),s]) ⟨Gr.refl,λ i v h=>absurd h (yU _),_,rfl⟩ (λ _ _ _ _=>trivial) ?_ ?_
  ·rintro m x ρ M' hx ⟨g,a,s,rfl⟩
   let⟨rfl,y⟩:=eM hx;have y:m<vs.length:=by lk
   have hv:=zu y;generalize vs[m]=v at hv;have A:=zl hv;have C:(0:Int)+(m:Int)=(m:Int):=by lk
   rw[C];have ev:de (vs.map D.str) (m:Int)=some (.str v):=bN (by rw[zm,hv];rfl);symm;by_cases r:3<m
   ·rw[zzB (show (m:Int) > 3 by lk)]
    symm
    have:=d hv (.inl r)
    rw[this]at q;exact q _ (p.trans g)
   ·rw[zzA (show ¬ (m:Int) > 3 by lk)]
    symm;exists _,g.keep _ _ n;symm;exists _,ev;refine pz (srt:=srt) k M' v "" 8 (t v A) (by decide) (by lk) ?_;rw[OE];cases c:du abc 8 v with
    |false =>
     symm
     have:=d hv (.inr (.inl c))
     rw[this]at q;exact q _ (p.trans g)
    |true =>
     symm;cases b with
     |false =>
      symm;refine⟨g,λ i u hi hu=>?_,_,rfl⟩;by_cases f:i<m
      ·exact⟨(a i u f hu).1,(a i u f hu).2.1⟩
      ·obtain rfl:i=m:=by lk
       rw[hv]at hu;cases hu;exact⟨by lk,c⟩
     |true =>
      symm;exists _,g.keep _ _ n;symm;exists _,ev,_,g.keep _ _ n;rw[fQ _ (by lk),<- yO,show ((m:Int)).toNat=m by lk];exists _,ae _ _;symm;exists _,kK v (vs.take m);refine⟨λ z=>?_,λ z=>?_⟩
      ·have:=d hv (.inr (.inr ⟨rfl,zzD z⟩))
       rw[this]at q;exact q _ ((p.trans g).snoc _)
      ·refine⟨g.snoc _,λ i u hi hu=>?_,_,rfl⟩
       by_cases f:i<m
       ·exact⟨(a i u f hu).1,(a i u f hu).2.1,(a i u f hu).2.2 rfl⟩
       ·obtain rfl:i=m:=by lk
        rw[hv]at hu;cases hu;exact⟨by lk,c,zzE z⟩
  ·rintro ρ M' ⟨g,a,s,rfl⟩
   rw[bw]at a;have a:∀i v,vs[i]?=some v->i<=3/\du abc 8 v=true/\(b=true->v ∉ vs.take i):=λ i v hv=>a i v (by have:=(zz.mp hv).1;lk) hv;have ok:(decide (vs.length<=4)&&(vs.all (du abc 8)&&(!b||decide vs.Nodup)))=true:=by
    rw[zt,zt,zzC,yw];refine⟨?_,λ v hv=>?_,?_⟩
    ·refine yP λ z=>?_
     have:=(a 4 vs[4] (zu z)).1
     lk
    ·let⟨i,hi⟩:=ya hv
     exact(a i v hi).2.1
    ·cases b with
     |false=>rfl
     |true=>exact zzB (EU λ i v hv=>(a i v hv).2.2 rfl)
   rw[ok]at q;symm;exact q _ (p.trans g)
abbrev qm:List Str:=["0","1","2","3","4"]
def sS(h:w∈qm):w.length=1/\ij il w=true/\digitsVal w.cps.toList<5/\findS "01234" w=((digitsVal w.cps.toList:Nat):Int):=by
 rwa[qm,zd,yv,or_false]at h;rcases h with rfl|rfl|rfl|rfl|rfl <;> decide +kernel
def Oa(b:w.length=1)(a:ij il w=true)(d:digitsVal w.cps.toList<5):w∈qm:=by
 let⟨c,rfl⟩:=Qf b;have hc:48<=c/\c<=57:=sQ a c (by simp[sg]);have hv:digitsVal (sg c).cps.toList=c-48:=by show 0*10+(c-48)=_;lk
 have:c=48\/c=49\/c=50\/c=51\/c=52:=by lk
 rcases this with rfl|rfl|rfl|rfl|rfl <;> decide +kernel
def Ie(ds:List Nat)(w:Str):jG ds w=(decide (w∈qm)&&lT ds (digitsVal w.cps.toList)):=by
 unfold jG;by_cases h:w∈qm
 ·let⟨c,b,a,_⟩:=sS h
  rw[zzB h,zzB c,b,zzB a];rfl
 ·rw[zzA h,zL,<- yQ,zt,zt,zt,zzC,zzC]
  exact λ z=>h (Oa z.1 z.2.1 z.2.2.1)
def Hs(b:Bool):iQ (.bl b)=some (if b then 1 else 0):=rfl
def RI(k:Nat)(M:MH)(y:M[j]?=some (.lst (bo ds)))(F:ds.length<=20)(w:Str)(hw:w.length<=2000)(q:∀M',Gr M M'->Q (.bl (jG ds w)) M'):W ((cx srt (k+1)).fn "_law_deep" [.str w,.ob j]) M Q:=by
 have big:=aj;rw[aP "_law_deep" 5 2 iY rfl,wf,iY];symm;refine⟨by lk,_,ae _ _,?_⟩;have b:Gr M (M++[MO.lst [D.str (Str.ofString "0"),D.str (Str.ofString "1"),D.str (Str.ofString "2"),D.str (Str.ofString "3"),D.str (Str.ofString "4")]]):=Gr.app _ _;generalize M++[MO.lst [D.str (Str.ofString "0"),D.str (Str.ofString "1"),D.str (Str.ofString "2"),D.str (Str.ofString "3"),D.str (Str.ofString "4")]]=M1 at b ⊢;have c:=b.keep _ _ y;symm;rw[Ie]at q;exists _,kK (M:=M1) w qm;by_cases h:w∈qm
 ·rw[zzB h]at q ⊢
  let⟨_,_,A,n⟩:=sS h;rw[zP]at q;symm;exists _,c;symm;rw[cI];generalize digitsVal w.cps.toList=d at q A n;cases hg:ds.getLast? with
  |none =>
   have e:ds=[]:=xt.mp hg;subst e;refine⟨λ z=>absurd z (by decide),λ _=>?_⟩;rw[n];symm;refine⟨by lk,?_⟩;rw[gQ,kP ((Gr.app _ _).keep _ _ c) (ae _ _)];refine⟨_,rfl,λ _=>?_,λ z=>absurd z (by decide)⟩;symm;have e:((d:Int)==0)=lT [] d:=by
    show ((d:Int)==0)=decide (d=0);rw[zV];simp
   rw[e];exact q _ (b.snoc _)
  |some l =>
   have ne:ds≠[]:=λ e=>by rw[e]at hg;cases hg
   unfold lT at q;rw[hg]at q;dsimp only at q;refine⟨λ z=>?_,λ z=>?_⟩
   ·have z:=eq_of_beq z
    rw[zzA (show ¬ ds.length<20 by lk),zL,yp,yp]at q;exact q _ b
   ·have z:=ne_of_beq_false z
    have z:ds.length<20:=by lk
    rw[zzB z,zP]at q;rw[n];symm;refine⟨by lk,?_⟩;rw[gQ,kP ((Gr.app _ _).keep _ _ c) (ae _ _)];have E:(bo ds).isEmpty=false:=by
     cases ds with
     |nil=>exact absurd rfl ne
     |cons a r=>rfl
    rw[E];refine⟨_,rfl,λ z=>(by cases z),λ _=>?_⟩;have p:Gr M1 (M1++[MO.lst []]):=Gr.app _ _;generalize M1++[MO.lst []]=M2 at p ⊢;have i:=p.keep _ _ c;have g:=b.trans p;symm;by_cases B:d=0
    ·rw[show ((d:Int)==0)=true from by rw[B];rfl]
     rw[zzA (show ¬ 1<=d by lk),zL]at q;symm;exact q _ g
    ·rw[show ((d:Int)==0)=false from zzF.mpr (by lk)]
     rw[zzB (show 1<=d by lk),zP]at q;symm;exists _,i;symm;exists _,sG hg;symm;by_cases hd:d<=l+1
     ·rw[zzB hd,zP]at q
      refine⟨λ z=>absurd (zzD z) (by lk),λ _=>⟨_,i,?_⟩⟩;refine dO (λ m ρ M'=>M'=M2/\(∀x∈ds.reverse.take m,d<=x)/\∃u,ρ=[some (.str w),some (.ob j),some (.int d),some (.int ((ds.reverse.take m).count d:Nat)),u]) ⟨rfl,λ x h=>by simp at h,_,rfl⟩ (λ _ _ _ h=>by rw[h.1];exact i) ?_ ?_
      ·rintro m x ρ M' hx ⟨rfl,f,v,rfl⟩
       let⟨o,rfl,ho⟩:=Dq hx;have C:=u5 (d:=d) ho;symm;refine⟨λ z=>?_,λ t=>?_⟩
       ·have:=zzD z
        have e:=Br f ho (by lk);unfold pW at q;rw[e]at q;have s:decide (((((ds.reverse.take m).count d:Nat)):Int)<5)=decide ((ds.reverse.take m).count d<5):=by rw[zV,zzC,zzC];lk
        symm;rw[s];exact q _ g
       ·have t:=zzE t
        refine⟨_,Hs _,take_all f ho (by lk),some (.int o),?_⟩;rw[C];by_cases e:o=d
        ·rw[if_pos e,show ((o:Int)==(d:Int))=true from by rw[e];simp]
         rfl
        ·rw[if_neg e,show ((o:Int)==(d:Int))=false from zzF.mpr (by lk)]
         simp
      ·rintro ρ M' ⟨rfl,f,v,rfl⟩
       rw[yC,cI,<- yC,zM]at *;unfold pW at q;rw[Dx f]at q;have s:decide (((((ds.reverse).count d:Nat)):Int)<5)=decide ((ds.reverse).count d<5):=by rw[zV,zzC,zzC];lk
       symm;rw[s];exact q _ g
     ·rw[zzA hd,zL]at q
      refine⟨λ _=>q _ g,λ z=>absurd (zzE z) (by lk)⟩
 ·rw[zzA h]at q ⊢
  symm;exact q _ b
abbrev i8(ds:List Nat)(i:Nat)(w:Str):Bool:=if i=0 then jG ds w else if i=1 then (w=="on"||w=="off") else if i=2 then fH true w else if i=5 then fH false w else gk w
def S9(w:Str):jO M (.str w) [.str "on",.str "off"]=some (w=="on"||w=="off"):=by
 rw[mU rfl rfl];show some (("on"==w)||(("off"==w)||false))=_;have c:∀a b:Str,(a==b)=(b==a):=λ a b=>by rw[zV,beq_iff_eq,beq_iff_eq];exact eq_comm
 rw[xV,c "on" w,c "off" w]
def Hk(k:Nat)(M:MH){i j:Nat}{ds:List Nat}(n:M[j]?=some (.lst (bo ds)))(w:Str)(hw:w.length<=2000){Q:D->MH->Prop}(q:∀M',Gr M M'->Q (.bl (i8 ds i w)) M'):W ((cx srt (k+5)).fn "is_right" [.int i,.str w,.ob j]) M Q:=by
 have big:=aj;rw[aP "is_right" 3 3 j6 rfl,wf,j6];unfold i8 at q;let⟨ll,l⟩:=NX hw;symm;refine⟨λ d=>?_,λ d=>⟨λ c=>?_,λ c=>⟨λ b=>?_,λ b=>⟨λ a=>?_,λ a=>?_⟩⟩⟩⟩
 ·obtain rfl:i=0:=by have:=eq_of_beq d;lk
  exact Hn (k+2) M n w hw q
 ·obtain rfl:i=1:=by have:=eq_of_beq c;lk
  exact⟨by lk,_,S9 w,q _ Gr.refl⟩
 ·obtain rfl:i=2:=by have:=eq_of_beq b;lk
  refine iO (k+2) M w hw λ h g=>?_;symm;refine Cg k h (gT w) l ll λ m f=>?_;exact q _ (g.trans f)
 ·obtain rfl:i=5:=by have:=eq_of_beq a;lk
  refine iO (k+2) M w hw λ h g=>?_;symm;refine rL (k+1) h (gT w) l ll λ m f=>?_;have q:=q m (g.trans f);have e:fH false w=(decide ((gT w).length<=4)&&(gT w).all (du abc 8)):=by
   unfold fH;rw[xw,wT,wJ]
  rw[<- e];exact q
 ·rwa[zzF,ne_eq]at d c b a
  rw[if_neg (by lk),if_neg (by lk),if_neg (by lk),if_neg (by lk)]at q;exact Fc (k+1) M w hw q
def BD(k:Nat)(M:MH){i j jw ja:Nat}{ds:List Nat}(hi:i<6)(f:M[j]?=some (.lst (bo ds)))(e:ds.length<=20)(w:Str)(hw:w.length<=2000){Q:D->MH->Prop}(q:∀M',Gr M M'->Q (.bl (i8 ds i w)) M'):W ((cx srt (k+3)).fn "_law_word_right" [.int i,.str w,.ob jw,.ob j,.ob ja]) M Q:=by
 have big:=aj;rw[aP "_law_word_right" 6 5 bg rfl,wf,bg];unfold i8 at q;symm;refine⟨λ d=>?_,λ d=>⟨λ c=>?_,λ c=>?_⟩⟩
 ·obtain rfl:i=0:=by have:=eq_of_beq d;lk
  exact RI (k+1) M f e w hw q
 ·obtain rfl:i=1:=by have:=eq_of_beq c;lk
  have q:=q M Gr.refl;cases hb:(w==Str.ofString "on") with
  |true =>
   rw[show (if 1=0 then jG ds w else if 1=1 then (w=="on"||w=="off") else if 1=2 then fH true w else if 1=5 then fH false w else gk w)=true from by show (w=="on"||w=="off")=true;rw[show (w=="on")=true from hb];rfl]at q;symm;exact q
  |false =>
   rw[show (if 1=0 then jG ds w else if 1=1 then (w=="on"||w=="off") else if 1=2 then fH true w else if 1=5 then fH false w else gk w)=(w=="off") from by show (w=="on"||w=="off")=_;rw[show (w=="on")=false from hb];rfl]at q;symm;exact q
 ·rwa[zzF,ne_eq]at d c
  rw[if_neg (by lk),if_neg (by lk)]at q;refine⟨λ b=>?_,λ b=>⟨λ a=>?_,λ a=>⟨λ _=>?_,λ z=>?_⟩⟩⟩
  ·obtain rfl:i=2:=by have:=eq_of_beq b;lk
   exact CV k M w true hw q
  ·obtain rfl:i=5:=by have:=eq_of_beq a;lk
   exact CV k M w false hw q
  ·rwa[zzF,ne_eq]at b a
   rw[if_neg (by lk),if_neg (by lk)]at q;exact Ij (k+1) M w hw (q _ Gr.refl)
  ·rwa[zzF,ne_eq]at b a
   exact absurd (zzE z) (by lk)
end
open PySem L3
section
variable {srt:List D->Option (List D)}
structure uo (ds:List Nat) (ws:List Str) (n:Nat):Prop where
 l6:n<=6
 ll:n<=ws.length
 ok:∀i w,i<n->ws[i]?=some w->i8 ds i w=true
 no:n<6->∀w,ws[n]?=some w->i8 ds n w=false
def RS(ds:List Nat)(ws:List Str):∃n,uo ds ws n:=by
 suffices H:∀m,m<=6->(∃n,uo ds ws n)\/(m<=ws.length/\∀i w,i<m->ws[i]?=some w->i8 ds i w=true) by
  rcases H 6 (zq _) with h|h
  ·exact h
  ·exact⟨6,zq _,h.1,h.2,λ z=>absurd z (by decide)⟩
 intro m;induction m with
 |zero=>exact λ _=>.inr ⟨zW _,λ i w h=>absurd h (yU _)⟩
 |succ m c =>
  intro d;rcases c (by lk) with h|⟨h1,h2⟩
  ·exact .inl h
  ·cases e:ws[m]? with
   |none=>exact .inl ⟨m,by lk,h1,h2,λ _ w hw=>by rw[e]at hw;cases hw⟩
   |some w =>
    cases hb:i8 ds m w with
    |false=>exact .inl ⟨m,by lk,h1,h2,λ _ a hw=>by rw[e]at hw;cases hw;exact hb⟩
    |true =>
     refine .inr ⟨(zz.mp e).1,λ i a hi hw=>?_⟩;by_cases b:i<m
     ·exact h2 i a b hw
     ·obtain rfl:i=m:=by lk
      rw[e]at hw;cases hw;exact hb
def kB(k:Nat)(M:MH)(hw:M[jw]?=some (.lst (ws.map .str)))(p:Short 2000 ws)(s:M[j]?=some (.lst (bo ds)))(a:uo ds ws n)(q:∀M',Gr M M'->Q (.int n) M'):W ((cx srt (k+6)).fn "right_ahead" [.ob jw,.ob j]) M Q:=by
 have big:=aj;have l6:=a.l6;have ll:=a.ll;rw[aP "right_ahead" 4 2 fZ rfl,wf,fZ];symm;exists _,rfl,_,hw,_,ae _ _;rw[fQ _ (by decide),<- yO,show (6:Int).toNat=6 from rfl];refine lV (λ m ρ M'=>Gr (M++[MO.lst ((ws.take 6).map .str)]) M'/\m<=n/\∃d c,ρ=[some (.ob jw),some (.ob j),d,c]) ⟨Gr.refl,zW _,_,_,rfl⟩ (λ _ _ _ h=>h.1.keep _ _ (ae _ _)) ?_ ?_
 ·rintro m x ρ M' hx ⟨g,l,d,c,rfl⟩
  let⟨y,e,rfl⟩:=pf hx;rw[zm]at e;let⟨w,b,rfl⟩:=zp.mp e;rw[xn]at b;split at b
  ·rename_i r
   exists _,_,rfl;symm;refine Hk k M' (i:=m) (g.keep _ _ ((Gr.app _ _).keep _ _ s)) w (p w (zl b)) λ t f=>?_;by_cases h:m<n
   ·rw[a.ok m w h b]
    symm;exact⟨g.trans f,h,_,_,rfl⟩
   ·obtain rfl:m=n:=by lk
    rw[a.no r w b];symm;exact q _ ((Gr.app _ _).trans (g.trans f))
  ·cases b
 ·rintro ρ M' ⟨g,l,d,c,rfl⟩
  rw[rE,zy,zS]at l;symm;exists _,g.keep _ _ ((Gr.app _ _).keep _ _ hw),_,rfl;symm;rw[zy,show min (ws.length:Int) 6=n by lk];exact q _ ((Gr.app _ _).trans g)
abbrev dZ(n:Str)(as:List Ask):List Str:=as.flatMap λ a=>if a.n=n then a.vs else []
def gH(n:Str)(as:List Ask)(a:Ask):dZ n (as++[a])=dZ n as++if a.n=n then a.vs else []:=by
 unfold dZ;rw[List.flatMap_append];simp
def ic:∀(ys xs zs:List Str),au xs (ys++zs)=au (au xs ys) zs
 |[],_,_=>rfl
 |y::ys,xs,zs=>by
  show au (cR xs y) (ys++zs)=_;rw[ic ys];rfl
structure ig (as:List Ask):Prop where
 ok:∀a∈as,iZ a
 nm:(au [] (as.map (·.n))).length<=4
 vl:∀n,(au [] (dZ n as)).length<=3
abbrev eP(as:List Ask)(a:Ask):Bool:=decide ((au [] ((as++[a]).map (·.n))).length<=4)&&decide ((au [] (dZ a.n (as++[a]))).length<=3)
def ig.snoc(h:ig as)(d:iZ a)(f:eP as a=true):ig (as++[a]):=by
 unfold eP at f;rw[zt,zzC,zzC]at f;refine⟨λ b c=>?_,f.1,λ n=>?_⟩
 ·rcases zQ.mp c with c|c
  ·exact h.ok b c
  ·rw[zB.mp c];exact d
 ·by_cases e:a.n=n
  ·rw[<- e];exact f.2
  ·rw[gH,if_neg e,zO]
   exact h.vl n
def ig.nil:ig []:=⟨(λ _ h=>nomatch h),by decide,λ n=>by show 0<=3;decide⟩
def tF(xs:List Str):(gL xs).length=xs.length:=(jT xs).length_eq
def G5(k:Nat)(M:MH){j:Nat}{xs:List Ask}(b:M[j]?=some (.lst (xs.map bq)))(g:xs.length<=200)(h:(au [] (xs.map (·.n))).length<64){Q:D->MH->Prop}(q:∀(i:Nat) (ys:List Str) (M':MH),Gr M M'->M'[i]?=some (.lst (ys.map .str))->ys.length=(au [] (xs.map (·.n))).length->Q (.ob i) M'):W ((cx srt (k+1)).fn "names_in" [.ob j]) M Q:=by
 have big:=aj;rw[aP "names_in" 1 1 jZ rfl,wf,jZ];symm;refine⟨_,b,by rw[zy];lk,?_⟩;refine bJ (λ m ys M'=>M'=M/\ys=((xs.take m).map (·.n)).map .str) ⟨rfl,rfl⟩ (λ _ _ _ h=>by rw[h.1];exact b) ?_ ?_
 ·rintro m d ys M' hd ⟨rfl,rfl⟩
  rw[zm]at hd;let⟨a,f,rfl⟩:=zp.mp hd;unfold bq;symm;let⟨c,e⟩:=zz.mp f;rw[zH c,zf,zf,e];rfl
 ·rintro ys M' ⟨rfl,rfl⟩
  rw[zy,zM];symm;exists _,ae _ _,_,m9 _,h;exact q _ _ _ ((Gr.app _ _).snoc _) (ae _ _) (tF _)
def rS(k:Nat)(M:MH)(nm:Str)(f:M[j]?=some (.lst (xs.map bq)))(t:xs.length<=200)(ho:∀a∈xs,a.vs.length<=3)(h:(au [] (dZ nm xs)).length<64)(q:∀(i:Nat) (ys:List Str) (M':MH),Gr M M'->M'[i]?=some (.lst (ys.map .str))->ys.length=(au [] (dZ nm xs)).length->Q (.ob i) M'):W ((cx srt (k+1)).fn "values_beside" [.ob j,.str nm]) M Q:=by
 have big:=aj;have v:j<M.length:=(zz.mp f).1;rw[aP "values_beside" 4 2 eU rfl,wf,eU];symm;refine⟨by lk,_,(Gr.app _ _).keep _ _ f,?_⟩;refine dO (λ n ρ M'=>Gr M M'/\M'[M.length]?=some (.lst ((dZ nm (xs.take n)).map .str))/\(dZ nm (xs.take n)).length<=3*n/\∃e,ρ=[some (.ob j),some (.str nm),some (.ob M.length),e]) ⟨Gr.app _ _,ae _ _,zq _,_,rfl⟩ (λ _ _ _ h=>h.1.keep _ _ f) ?_ ?_
 ·rintro n d ρ M' hd ⟨g,b,p,e,rfl⟩
  have l:n<(xs.map bq).length:=(zz.mp hd).1;rw[zy]at l;rw[zm]at hd;let⟨a,m,rfl⟩:=zp.mp hd;let⟨_,r⟩:=zz.mp m;have u:=ho a (zl m);have c:dZ nm (xs.take (n+1))=dZ nm (xs.take n)++if a.n=nm then a.vs else []:=by rw[zH l,r,gH]
  have s:M.length<M'.length:=(zz.mp b).1;unfold bq;symm;refine⟨λ z=>?_,λ z=>?_⟩
  ·have z:=eq_of_beq z
   rw[if_pos z]at c;refine⟨_,b,_,b,by rw[zy,zy];lk,?_⟩;rw[c];exact⟨g.set (zq _) _,by rw[zJ s,zf],by rw[zx];lk,_,rfl⟩
  ·have z:=ne_of_beq_false z
   rw[if_neg z,zO]at c;rw[c];exact⟨g,b,by lk,_,rfl⟩
 ·rintro ρ M' ⟨g,b,p,e,rfl⟩
  rw[zy,zM]at b;symm;exists _,b,_,m9 _,h;exact q _ _ _ (g.snoc _) (ae _ _) (tF _)
def Rw(k:Nat)(M:MH)(y:M[j]?=some (.lst (xs.map bq)))(H:xs.length<=150)(h:ig xs)(u:iZ a)(q:∀M',Gr M M'->Q (.bl (eP xs a)) M'):W ((cx srt (k+2)).fn "fits" [bq a,.ob j]) M Q:=by
 have big:=aj;have s:(au [] ((xs++[a]).map (·.n))).length<64:=by
  rw[zf,ic]
  have:=gF ([a].map (·.n)) (au [] (xs.map (·.n)))
  have:=h.nm
  rwa[zR,wv,zj,zT]at *;lk
 have p:(au [] (dZ a.n (xs++[a]))).length<64:=by
  rw[gH,if_pos rfl,ic]
  have:=gF a.vs (au [] (dZ a.n xs))
  have:=h.vl a.n
  have:=u.l
  lk
 have m:∀b∈xs++[a],b.vs.length<=3:=λ b c=>by
  rcases zQ.mp c with c|c
  ·exact(h.ok b c).l
  ·rw[zB.mp c];exact u.l
 have f:(xs++[a]).length<=200:=by rw[zx];show _+1<=_;lk
 unfold eP at q;rw[aP "fits" 4 2 rK rfl,wf,rK];symm;refine⟨by lk,_,(Gr.app _ _).keep _ _ y,_,ae _ _,by rw[zy];show _+1<=_;lk,?_⟩;generalize g:M++[MO.lst [bq a]]++[MO.lst (xs.map bq++[bq a])]=M2;have B:Gr M M2:=g▸(Gr.app _ _).snoc _;have d:M2[(M++[MO.lst [bq a]]).length]?=some (.lst ((xs++[a]).map bq)):=by rw[<- g,ae,zf];rfl
 clear g;generalize (M++[MO.lst [bq a]]).length=j2 at d ⊢;generalize xs++[a]=ys at q s p m d f;have C:bq a=.tup [.str (jg a.k),.str a.n,.tup (a.vs.map .str)]:=rfl;rw[C];symm;refine rS k M2 a.n d f m p λ i r F w A x=>?_;symm;refine G5 k F (w.keep _ _ d) f s λ G e E v z l4=>?_;have q:=q E (B.trans (w.trans v));rw[<- x,<- l4]at q;symm;exists _,z;symm;exists _,rfl;symm;rw[zy];by_cases t:e.length<=4
 ·rw[zzB t,zP]at q
  rw[zzB (show (e.length:Int)<=4 by lk)];symm;exists _,v.keep _ _ A;symm;exists _,rfl;symm;rw[zy,show decide ((r.length:Int)<=3)=decide (r.length<=3) from by rw[zV,zzC,zzC];lk];exact q
 ·rw[zzA t,zL]at q
  rw[zzA (show ¬ (e.length:Int)<=4 by lk)];symm;exact q
end
end Law
namespace L3
open PySem
section
variable {Γ:Ctx}{s:IS}{r a b:aD}{c:IC}{e:IE}{ρ:Ev}{M:MH}{P:(Int×Int)×MH->Prop}
def r8:cu Γ (.cons s r) ρ M=(match CO (cQ Γ s ρ M) with
  |some (d,f)=>cu Γ r d f
  |none=>i7 Γ s ρ M):=rfl
def Sz:i7 Γ (.ifS c a b) ρ M=(match bT Γ c ρ M with
  |some (.ok k,d)=>if k=true then cu Γ a ρ d else cu Γ b ρ d
  |_=>none):=rfl
def Sy{f:IE}:i7 Γ (.rz e f) ρ M=(match ag Γ e ρ M with
  |some (.ok (.int i),g)=>(match ag Γ f ρ g with
   |some (.ok (.int j),d)=>some ((i,j),d)
   |_=>none)
  |_=>none):=rfl
def Po{i j:Nat}{it:IP}:i7 Γ (.forP i j it b) ρ M=(match iy Γ it ρ M with
  |some (.ok s,d)=>jF s.ck i j (aH Γ b) (cu Γ b) s.ds ρ d
  |_=>none):=rfl
def W.got{α:Type}{m:Mo α}{M:MH}{Q:α->MH->Prop}(h:W m M Q):∃d M',m M=some (.ok d,M')/\Q d M':=let ⟨d,M',e,q⟩:=h;⟨d,M',e,q⟩
def Ct(h:cQ Γ s ρ M=none):aH Γ (.cons s r) ρ M=none:=by
 rw[kC,run_bind,h]
def KL(h:W (cQ Γ s ρ) M λ f g=>∃d,f=.nx d/\∃r',cu Γ r d g=some r'/\P r'):∃r',cu Γ (.cons s r) ρ M=some r'/\P r':=by
 let⟨f,g,e1,d,rfl,r',i,q⟩:=h.got;refine⟨r',?_,q⟩;rw[r8,e1];exact i
def OG(d:cQ Γ s ρ M=none)(h:∃r',i7 Γ s ρ M=some r'/\P r'):∃r',cu Γ (.cons s r) ρ M=some r'/\P r':=by
 let⟨r',f,q⟩:=h;refine⟨r',?_,q⟩;rw[r8,d];exact f
def W4(h:W (ag Γ e ρ) M λ d l=>∃i,d=.int i/\W (ag Γ f ρ) l λ k g=>∃j,k=.int j/\P ((i,j),g)):∃r',i7 Γ (.rz e f) ρ M=some r'/\P r':=by
 let⟨d,l,e1,i,rfl,m⟩:=h.got;let⟨k,g,n,j,rfl,q⟩:=m.got;refine⟨((i,j),g),?_,q⟩;rw[Sy,e1];dsimp only;rw[n]
def DQ(h:W (bT Γ c ρ) M λ k g=>k=true/\W (ag Γ e ρ) g λ d o=>∃i,d=.int i/\W (ag Γ f ρ) o λ m n=>∃j,m=.int j/\P ((i,j),n)):cQ Γ (.ifS c (.cons (.rz e f) r) b) ρ M=none/\∃r',i7 Γ (.ifS c (.cons (.rz e f) r) b) ρ M=some r'/\P r':=by
 let⟨k,g,e1,rfl,h⟩:=h.got;refine⟨?_,?_⟩
 ·rw[qJ,dC e1,if_pos rfl]
  exact Ct rfl
 ·let⟨r',l,q⟩:=OG (Γ:=Γ) (r:=r) (s:=.rz e f) (ρ:=ρ) (M:=g) rfl (W4 h)
  refine⟨r',?_,q⟩;rw[Sz,e1];exact l
def OH(j:kn.contains f=true)(h:W (bR Γ es ρ) M λ xs g=>Γ.fn f xs g=none/\∃r',Γ.rz f xs g=some r'/\P r'):cQ Γ (.set i (.call f es)) ρ M=none/\∃r',i7 Γ (.set i (.call f es)) ρ M=some r'/\P r':=by
 let⟨xs,g,e1,l,r',k,q⟩:=h.got;refine⟨?_,r',?_,q⟩
 ·have d:ag Γ (.call f es) ρ M=none:=by rw[pK,dC e1];exact l
  rw[qI,run_bind,d]
 ·have d:i7 Γ (.set i (.call f es)) ρ M=v8 Γ (.call f es) ρ M:=rfl
  rw[d];unfold v8;dsimp only;rw[if_pos j,e1];exact k
def Sf(I:Nat->Ev->MH->Prop)(C:I 0 ρ M)(A:∀m ρ M,I m ρ M->nY ck M)
  (step:∀(m:Nat) (d:D) (ρ:Ev) (M:MH),m<n->ds[m]?=some d->I m ρ M->∃x y,d=.tup [x,y]/\W (k ((ρ.set i (some x)).set j (some y))) M λ f v=>∃g,f=.nx g/\I (m+1) g v)
  (last:∀(d:D) (ρ:Ev) (M:MH),ds[n]?=some d->I n ρ M->∃x y,d=.tup [x,y]/\k ((ρ.set i (some x)).set j (some y)) M=none/\∃r',l ((ρ.set i (some x)).set j (some y)) M=some r'/\P r') (K:n<ds.length) :
  dg ck i j k ds ρ M=none/\∃r',jF ck i j k l ds ρ M=some r'/\P r':=by
 suffices H:∀(r:List D) (m:Nat) (ρ:Ev) (M:MH),(∀j d,r[j]?=some d->ds[m+j]?=some d)->m+r.length=ds.length->m<=n->I m ρ M->dg ck i j k r ρ M=none/\∃r',jF ck i j k l r ρ M=some r'/\P r' from
  H ds 0 ρ M (λ j d e=>by simpa using e) (by simp) (zW _) C
 intro r;induction r with
 |nil =>
  intro m ρ M _ p B _;simp at p;lk
 |cons d r z =>
  intro m ρ M w p B u;have hd:ds[m]?=some d:=by simpa using w 0 d rfl
  have st:cK ck M=some (.ok (),M):=if_pos (A _ _ _ u);by_cases J:m=n
  ·subst J
   let⟨x,y,rfl,e1,r',E,q⟩:=last d ρ M hd u;refine⟨?_,r',?_,q⟩
   ·rw[dg,dC st]
    show ((lift (pairD (.tup [x,y])) >>= _):Mo Fl) M=none;rw[dC (show (lift (pairD (.tup [x,y])):Mo (D×D)) M=some (.ok (x,y),M) from rfl),run_bind,e1]
   ·rw[jF,st]
    dsimp only[pairD];rw[e1];exact E
  ·let⟨x,y,rfl,h⟩:=step m d ρ M (by lk) hd u
   let⟨f,v,e1,g,rfl,t⟩:=h.got;let⟨G,r',F,q⟩:=z (m+1) g v (λ j d e=>by
    have:=w (j+1) d (by simpa using e)
    rw[show m+1+j=m+(j+1) by lk];exact this) (by rw[zj]at p;lk) (by lk) t
   refine⟨?_,r',?_,q⟩
   ·rw[dg,dC st]
    show ((lift (pairD (.tup [x,y])) >>= _):Mo Fl) M=none;rw[dC (show (lift (pairD (.tup [x,y])):Mo (D×D)) M=some (.ok (x,y),M) from rfl),dC e1];exact G
   ·rw[jF,st]
    dsimp only[pairD];rw[e1];exact F
def Vu(h:W (iy Γ it ρ) M λ s d=>dg s.ck i j (aH Γ b) s.ds ρ d=none/\∃r',jF s.ck i j (aH Γ b) (cu Γ b) s.ds ρ d=some r'/\P r') :
  cQ Γ (.forP i j it b) ρ M=none/\∃r',i7 Γ (.forP i j it b) ρ M=some r'/\P r':=by
 let⟨f,d,e1,k,r',g,q⟩:=h.got;refine⟨?_,r',?_,q⟩
 ·rw[pJ,dC e1]
  exact k
 ·rw[Po,e1]
  exact g
end
section
variable {Γ:Ctx}{s:IS}{r:aD}{ρ:Ev}{M:MH}{P:(Int×Int)×MH->Prop}
def pY(h:W (cQ Γ s ρ) M λ f b=>∃a,f=.nx a/\aH Γ r a b=none/\∃r',cu Γ r a b=some r'/\P r'):aH Γ (.cons s r) ρ M=none/\∃r',cu Γ (.cons s r) ρ M=some r'/\P r':=by
 let⟨f,b,e1,a,rfl,d,r',c,q⟩:=h.got;refine⟨?_,r',?_,q⟩
 ·rw[kC,dC e1]
  exact d
 ·rw[r8,e1]
  exact c
def oF(h:cQ Γ s ρ M=none/\∃r',i7 Γ s ρ M=some r'/\P r'):aH Γ (.cons s r) ρ M=none/\∃r',cu Γ (.cons s r) ρ M=some r'/\P r':=⟨Ct h.1,OG h.1 h.2⟩
end
end L3
namespace L3
def K8{Γ:Ctx}{n p:Nat}{b:aD}{xs:List D}{M:MH}(h:aH Γ b (xs.map some++yx (n-xs.length) none) M=none):(do need (xs.length=p);gN Γ n b xs:Mo D) M=none:=by
 have e:gN Γ n b xs M=none:=by
  unfold gN;rw[run_bind,h]
 unfold need;by_cases a:xs.length=p
 ·rw[if_pos a]
  exact e
 ·rw[if_neg a]
  rfl
end L3
namespace Law
open PySem L3
section
variable {srt:List D->Option (List D)}
def iL(h:bW w a)(g:bW w b):a=b:=by
 let⟨e1,i,j⟩:=DA h (kd:=b.k) (a:=b.n) (b:=bar b.vs) g.2 g.1.n;have f:a.vs=b.vs:=by
  cases hk:fk b.k with
  |true =>
   have d:∀x:Ask,iZ x->fk x.k=true->ax (bar x.vs) (sg 124)=x.vs:=λ x hx hk=>mH (c:=124) (hx.ne hk) λ v hv=>sC (hx.v v hv) (by lk);rw[<- d a h.1 (by rw[e1];exact hk),<- d b g.1 hk,j]
  |false=>rw[h.1.e (by rw[e1];exact hk),g.1.e hk]
 cases a;cases b;simp only at e1 i f;rw[e1,i,f]
structure Gp (fst:Bool) (as:List Ask) (us:List Str) (xs:List Ask):Prop where
 l4:xs.length<=4
 ll:xs.length<=us.length
 ok:∀(i:Nat) (a:Ask),xs[i]?=some a->∃w,us[i]?=some w/\bW w a
 ft:fst=false->∀(i:Nat) (a:Ask),xs[i]?=some a->eP (as++xs.take i) a=true
 no:∀w,us[xs.length]?=some w->xs.length=4\/(∀a,¬ bW w a)\/(fst=false/\∃a,bW w a/\eP (as++xs) a=false)
def Fv(c:Bool)(as:List Ask)(us:List Str):∃xs,Gp c as us xs:=by
 suffices H:∀m,m<=4->(∃xs,Gp c as us xs)\/∃xs:List Ask,xs.length=m/\m<=us.length/\(∀(i:Nat) (a:Ask),xs[i]?=some a->∃w,us[i]?=some w/\bW w a)/\(c=false->∀(i:Nat) (a:Ask),xs[i]?=some a->eP (as++xs.take i) a=true) by
  rcases H 4 (zq _) with h|⟨xs,h1,h2,h3,h4⟩
  ·exact h
  ·exact⟨xs,by lk,by lk,h3,h4,λ _ _=>.inl h1⟩
 intro m;induction m with
 |zero=>exact λ _=>.inr ⟨[],rfl,zW _,(λ i a h=>nomatch h),λ _ i a h=>nomatch h⟩
 |succ m k =>
  intro n;rcases k (by lk) with h|⟨xs,h1,h2,h3,h4⟩
  ·exact .inl h
  cases e:us[m]? with
  |none=>exact .inl ⟨xs,by lk,by lk,h3,h4,λ w hw=>by rw[h1,e]at hw;cases hw⟩
  |some w =>
   have stop:((∀a,¬ bW w a)\/(c=false/\∃a,bW w a/\eP (as++xs) a=false))->(∃xs,Gp c as us xs):=λ z=>⟨xs,by lk,by lk,h3,h4,λ l hw=>by rw[h1,e]at hw;cases hw;exact .inr z⟩;by_cases f:∃a,bW w a
   ·let⟨a,f⟩:=f
    by_cases g:c=false/\eP (as++xs) a=false
    ·exact .inl (stop (.inr ⟨g.1,a,f,g.2⟩))
    ·refine .inr ⟨xs++[a],by rw[zx,h1];rfl,(zz.mp e).1,λ i b d=>?_,λ j i b d=>?_⟩
     ·by_cases hi:i<xs.length
      ·rw[zK hi]at d
       exact h3 i b d
      ·have:=(zz.mp d).1
       rw[zx]at this;obtain rfl:i=xs.length:=by rwa[zj,zT]at this;lk
       rw[zA (zq _),yc]at d;cases d;exact⟨w,by rw[h1];exact e,f⟩
     ·by_cases hi:i<xs.length
      ·rw[zK hi]at d
       rw[yX (by lk)];exact h4 j i b d
      ·have:=(zz.mp d).1
       rw[zx]at this;obtain rfl:i=xs.length:=by rwa[zj,zT]at this;lk
       rw[zA (zq _),yc]at d;cases d;rw[xc];cases hq:eP (as++xs) a with
       |true=>rfl
       |false=>exact absurd ⟨j,hq⟩ g
   ·exact .inl (stop (.inl λ a h=>f ⟨a,h⟩))
def Gp.lH(g:Gp a as us xs)(hz:a=false)(h:ig as):∀i,i<=xs.length->ig (as++xs.take i):=by
 intro i;induction i with
 |zero=>intro _;rw[vC,zO];exact h
 |succ i b =>
  intro hi;have hx:=zu (l:=xs) (i:=i) (by lk);rw[zH (by lk),<- zU];let⟨w,_,hw⟩:=g.ok i _ hx;exact(b (by lk)).snoc hw.1 (g.ft hz i _ hx)
def Gp.asks(g:Gp b as us xs):∀a∈xs,iZ a:=λ a c=>by
 let⟨i,hi⟩:=ya c;let⟨w,_,hw⟩:=g.ok i a hi;exact hw.1
def DC(k:Nat)(M:MH)(j:Nat)(us:List Str)(xs:List Ask)(F:Short 2000 us)(g:Gp true [] us xs)(G:M[j]?=some (.lst (us.map .str))) 
  (q:∀i M',Gr M M'->M'[i]?=some (.lst (xs.map bq))->Q (.ob i) M'):W ((cx srt (k+6)).fn "askings_ahead" [.ob j]) M Q:=by
 have big:=aj;have L:=g.l4;have N:=g.ll;rw[aP "askings_ahead" 4 1 eV rfl,wf,eV];symm;refine⟨by lk,_,rfl,?_⟩;symm;exists _,(Gr.app _ _).keep _ _ G;rw[fQ _ (by decide),<- yO,show (4:Int).toNat=4 from rfl];exists _,ae _ _;have A:((M++[MO.lst []])++[MO.lst ((us.take 4).map D.str)])[M.length]?=some (.lst []):=(Gr.app _ _).keep _ _ (ae _ _);have r:((M++[MO.lst []])++[MO.lst ((us.take 4).map D.str)])[(M++[MO.lst []]).length]?=some (.lst ((us.take 4).map D.str)):=ae _ _;have C:Gr M ((M++[MO.lst []])++[MO.lst ((us.take 4).map D.str)]):=(Gr.app _ _).snoc _;generalize (M++[MO.lst []])++[MO.lst ((us.take 4).map D.str)]=M1 at A r C ⊢;have H:M.length<(M++[MO.lst []]).length:=by rw[zx];exact ye _
 generalize (M++[MO.lst []]).length=jw at r H ⊢;refine dO (λ m ρ M'=>Gr M M'/\M'[M.length]?=some (.lst ((xs.take m).map bq))/\M'[jw]?=some (.lst ((us.take 4).map D.str))/\m<=xs.length/\∃p n,ρ=[some (.ob j),some (.ob M.length),p,n]) ⟨C,A,r,zW _,_,_,rfl⟩ (λ _ _ _ h=>h.2.2.1) ?_ ?_
 ·rintro m d ρ M' hd ⟨l,c,B,x,p,n,rfl⟩
  rw[zm]at hd;let⟨w,hw,rfl⟩:=zp.mp hd;rw[xn]at hw;split at hw
  ·rename_i K
   have v:=F w (zl hw);symm;by_cases I:m<xs.length
   ·obtain⟨a,E⟩:∃a,xs[m]?=some a:=⟨_,zu I⟩
    let⟨J,f,y⟩:=g.ok m a E;rw[hw]at f;cases f;refine nU (srt:=srt) k M' w v (λ t u e b=>?_) (λ u e b=>absurd y (e a));obtain rfl:t=a:=iL e y;symm;refine⟨rfl,λ z=>(by cases z),λ _=>?_⟩;refine⟨_,b.keep _ _ c,_,b.keep _ _ c,by rw[zy,zS];lk,?_⟩;refine⟨(l.trans b).set (zq _) _,?_,?_,by lk,_,_,rfl⟩
    ·rw[lX (b.keep _ _ c),List.take_add_one,E,zf]
     rfl
    ·rw[zc (by lk)]
     exact b.keep _ _ B
   ·obtain rfl:m=xs.length:=by lk
    rw[zM]at c;have s:∀a,¬ bW w a:=by
     rcases g.no w hw with z|z|⟨z,_⟩
     ·lk
     ·exact z
     ·cases z
    refine nU (srt:=srt) k M' w v (λ t u e b=>absurd e (s t)) (λ u e b=>?_);symm;refine⟨rfl,λ _=>?_,λ z=>(by cases z)⟩;exact q _ _ (l.trans b) (b.keep _ _ c)
  ·cases hw
 ·rintro ρ M' ⟨l,c,B,x,p,n,rfl⟩
  rw[zy,zS]at c x;rw[show min 4 us.length=xs.length by lk,zM]at c;symm;exact q _ _ l c
def tY(k:Nat)(M:MH)(p:Gp true [] us ys)(l:Gp false as us xs)(h:ig as)(G:M[j]?=some (.lst (as.map bq)))(N:as.length<=100)
  (C:M[t]?=some (.lst (ys.map bq))) (q:∀(i:Nat) (M':MH),Gr M M'->M'[i]?=some (.lst (xs.map bq))->Q (.ob i) M'):W ((cx srt (k+3)).fn "fitting" [.ob t,.ob j]) M Q:=by
 have big:=aj;have l4:=l.l4;have same:∀i a b,xs[i]?=some a->ys[i]?=some b->a=b:=λ i a b I H=>by
  let⟨w,e1,A⟩:=l.ok i a I;let⟨L,E,K⟩:=p.ok i b H;rw[e1]at E;cases E;exact iL A K
 have F:xs.length<=ys.length:=yP λ z=>by
  let⟨w,e1,A⟩:=l.ok ys.length _ (zu z);rcases p.no w e1 with c|c|⟨c,_⟩
  ·lk
  ·exact c _ A
  ·cases c
 rw[aP "fitting" 4 2 lG rfl,wf,lG];symm;refine⟨by lk,_,(Gr.app _ _).keep _ _ C,?_⟩;refine dO (λ n ρ M'=>Gr M M'/\M'[M.length]?=some (.lst ((xs.take n).map bq))/\n<=xs.length/\∃s,ρ=[some (.ob t),some (.ob j),some (.ob M.length),s]) ⟨Gr.app _ _,ae _ _,zW _,_,rfl⟩ (λ _ _ _ h=>h.1.keep _ _ C) ?_ ?_
 ·rintro n d ρ M' hd ⟨g,f,u,s,rfl⟩
  rw[zm]at hd;let⟨a,v,rfl⟩:=zp.mp hd;have O:M.length<M'.length:=(zz.mp f).1;have lt:(xs.take n).length<=4:=by rw[zS];lk
  let⟨w,J,y⟩:=p.ok n a v;symm;refine⟨_,g.keep _ _ G,_,f,by rw[zy,zy];lk,?_⟩;refine Rw k (M'++[MO.lst (as.map bq++(xs.take n).map bq)]) (xs:=as++xs.take n) (by rw[ae,zf]) (by rw[zx];lk) (l.lH rfl h n u) y.1 λ P r=>?_;have m:=r.keep _ _ ((Gr.app M' _).keep _ _ f);by_cases B:n<xs.length
  ·have ex:=zu B
   have e:=same n _ a ex v;rw[e]at ex;rw[l.ft rfl n a ex];symm;refine⟨_,m,_,m,by rw[zy];lk,?_⟩;refine⟨(g.trans ((Gr.app _ _).trans r)).set (zq _) _,?_,B,_,rfl⟩;rw[zJ (zz.mp m).1,zH B,zf,e];rfl
  ·obtain rfl:n=xs.length:=by lk
   rw[zM]at m r ⊢;have x:eP (as++xs) a=false:=by
    rcases l.no w J with c|c|⟨_,b,c1,c2⟩
    ·have:=(zz.mp v).1
     have:=p.l4
     lk
    ·exact absurd y (c a)
    ·rw[iL y c1];exact c2
   rw[x];symm;exact q _ _ (g.trans ((Gr.app _ _).trans r)) m
 ·rintro ρ M' ⟨g,f,u,s,rfl⟩
  rw[zy]at f u;rw[show ys.length=xs.length by lk,zM]at f;symm;exact q _ _ g f
def HQ(a:Gp true as us xs)(d:Gp true [] us ys):xs=ys:=by
 have b:∀{as bs:List Ask} {xs ys:List Ask},Gp true as us xs->Gp true bs us ys->xs.length<=ys.length:=λ {as bs xs ys} a d=>yP λ z=>by
  let⟨w,e1,e⟩:=a.ok ys.length _ (zu z)
  have:=a.l4
  rcases d.no w e1 with c|c|⟨c,_⟩
  ·lk
  ·exact c _ e
  ·cases c
 refine vq (vf (b a d) (b d a)) λ i h g=>?_;let⟨w,e1,e⟩:=a.ok i _ (zu h);let⟨k,f,j⟩:=d.ok i _ (zu g);rw[e1]at f;cases f;exact iL e j
end
end Law
namespace L3
open PySem
def Be:∀xs ys:List Str,gC (cD M (n+1)) (xs.map .str) (ys.map .str)=some (decide (xs=ys))
 |[],[]=>rfl
 |[],_::_=>rfl
 |_::_,[]=>rfl
 |x::xs,y::ys=>by
  rw[zR,zR,gC,Bg,Be xs ys];show some ((x==y)&&decide (xs=ys))=_;congr 1;rw[zV];simp
def mj{M:MH}{n i j:Nat}{xs ys:List Str}(b:M[i]?=some (.lst (xs.map .str)))(a:M[j]?=some (.lst (ys.map .str))):cD M (n+2) (.ob i) (.ob j)=some (decide (xs=ys)):=by
 rw[TK b a,zy,zy];split
 ·exact Be xs ys
 ·rename_i h
  rw[zzA (λ z=>h (by rw[z]))]
end L3
namespace Law
open PySem L3
section
variable {srt:List D->Option (List D)}
def Kx(h:bW "-" a):False:=by
 have e:=congrArg Str.length h.2;unfold jJ at e;rw[len_app,len_app]at e
 have:=h.1.n.1
 have c:(sg (dI a.k)).length=1:=rfl;have b:Str.length "-" = 1:=rfl;lk
def oV(g:Gp b as [("-":Str)] xs):xs=[]:=by
 cases xs with
 |nil=>rfl
 |cons a r =>
  let⟨w,e,h⟩:=g.ok 0 a rfl;cases e;exact(Kx h).elim
def BG(k:Nat)(M:MH){num j jw:Nat}{as xs:List Ask}{us:List Str}(g:Gp (decide (num=0)) as us xs)(h:ig as)(r:Short 2000 us)(s:as.length<=100)(t:M[j]?=some (.lst (as.map bq)))(hw:M[jw]?=some (.lst (us.map .str)))
  (ok:us=[("-":Str)]\/xs.length=us.length) {Q:D->MH->Prop} (q:∀(M':MH),Gr M M'->Q (.tup (xs.map bq)) M'):W ((cx srt (k+7)).fn "read_row_askings" [.ob jw,.int num,.ob j]) M Q:=by
 have big:=aj;have l4:=g.l4;have a:xs.length=us.length->∀(e:Nat) (d:MH),Gr M d->d[e]?=some (.lst (xs.map bq))->V (bu (cx srt (k+6)) (av 3 ay) [some (.ob jw),some (.int num),some (.ob j),some (.ob e)]) d (dN Q):=λ m e d i f=>by
  rwa[ay,bG,bH];symm;exists _,f;symm;exists _,i.keep _ _ hw;symm;exact⟨λ z=>absurd (zzD z) (by rw[zy,zy];lk),λ _=>⟨_,f,q _ i⟩⟩
 rw[aP "read_row_askings" 4 3 ay rfl,wf,jY 3 ay];generalize av 3 ay=tl at a ⊢;rwa[ay,dh,di];symm;exists _,rfl;symm;refine⟨by lk,?_⟩;rw[gQ];refine⟨_,mj (xs:=us) (ys:=[("-":Str)]) ((Gr.app _ _).keep _ _ hw) (ae _ _),show _/\_ from ⟨λ z=>?_,λ z=>?_⟩⟩
 ·have z:=zzD z
  subst z;rw[oV g]at q;symm;exact⟨by lk,q _ (Gr.app _ _)⟩
 ·have z:=zzE z
  have m:=ok.resolve_left z;symm;have c:Gr M (M++[MO.lst [D.str (Str.ofString "-")]]):=Gr.app _ _;generalize (M++[MO.lst [D.str (Str.ofString "-")]])=M1 at c ⊢;let⟨ys,n⟩:=Fv true [] us;refine DC k M1 jw us ys r n (c.keep _ _ hw) λ v u p l=>?_;symm;refine⟨λ b=>?_,λ b=>?_⟩
  ·have b:=zzD b
   rw[zzA (show ¬ num=0 by lk)]at g;refine tY (k+3) u n g h (p.keep _ _ (c.keep _ _ t)) s l λ e d i f=>?_;symm;exact a m _ _ (c.trans (p.trans i)) f
  ·have b:=zzE b
   rw[zzB (show num=0 by lk)]at g;rw[<- HQ g n]at l;exact a m _ _ (c.trans p) l
def Ea(k:Nat)(M:MH){num j jw:Nat}{as xs:List Ask}{us:List Str}(g:Gp (decide (num=0)) as us xs)(h:ig as)(q:Short 2000 us)(r:as.length<=100)(s:M[j]?=some (.lst (as.map bq)))(hw:M[jw]?=some (.lst (us.map .str)))
  (nd:us≠[("-":Str)]) (lt:xs.length<us.length):(cx srt (k+7)).fn "read_row_askings" [.ob jw,.int num,.ob j] M=none/\∃a,(cx srt (k+7)).rz "read_row_askings" [.ob jw,.int num,.ob j] M=some a/\a.1=((num:Int),((6+xs.length:Nat):Int))/\Gr M a.2:=by
 have big:=aj;have l4:=g.l4
 suffices H:aH (cx srt (k+6)) ay [some (.ob jw),some (.int num),some (.ob j),none] M=none/\∃a,cu (cx srt (k+6)) ay [some (.ob jw),some (.int num),some (.ob j),none] M=some a/\a.1=((num:Int),((6+xs.length:Nat):Int))/\Gr M a.2 by
  let⟨u,t⟩:=H;refine⟨?_,?_⟩
  ·rw[aP "read_row_askings" 4 3 ay rfl]
   exact K8 u
  ·rw[nL,if_pos (show [D.ob jw,D.int num,D.ob j].length=3 from rfl)]
   exact t
 have b:∀(d:Nat) (c:MH),Gr M c->c[d]?=some (.lst (xs.map bq))->aH (cx srt (k+6)) (av 3 ay) [some (.ob jw),some (.int num),some (.ob j),some (.ob d)] c=none/\∃a,cu (cx srt (k+6)) (av 3 ay) [some (.ob jw),some (.int num),some (.ob j),some (.ob d)] c=some a/\a.1=((num:Int),((6+xs.length:Nat):Int))/\Gr M a.2:=λ d c l i=>by
  rwa[ay,bG,bH];refine oF (DQ ?_);symm;exists _,i;symm;exists _,l.keep _ _ hw;symm;refine⟨zzB (by rw[zy,zy];lk),?_⟩;exists _,rfl,_,i;symm;refine⟨?_,l⟩;show ((num:Int),(6:Int)+((xs.map bq).length:Int))=_;rw[zy];congr 1
 rw[jY 3 ay];generalize av 3 ay=tl at b ⊢;rwa[ay,dh,di];refine pY ?_;symm;exists _,rfl;symm;refine⟨by lk,?_⟩;rw[gQ];exists _,mj (xs:=us) (ys:=[("-":Str)]) ((Gr.app _ _).keep _ _ hw) (ae _ _);rw[zzA nd];refine show _/\_ from ⟨λ z=>(by cases z),λ _=>?_⟩;symm;have f:Gr M (M++[MO.lst [D.str (Str.ofString "-")]]):=Gr.app _ _;generalize (M++[MO.lst [D.str (Str.ofString "-")]])=M1 at f ⊢;let⟨ys,n⟩:=Fv true [] us;refine⟨_,rfl,pY ?_⟩;symm;refine DC k M1 jw us ys q n (f.keep _ _ hw) λ w v p m=>?_;refine⟨_,rfl,pY ?_⟩;symm;refine⟨λ e=>?_,λ e=>?_⟩
 ·have e:=zzD e
  rw[zzA (show ¬ num=0 by lk)]at g;refine tY (k+3) v n g h (p.keep _ _ (f.keep _ _ s)) r m λ d c l i=>?_;symm;exact⟨_,rfl,b _ _ (f.trans (p.trans l)) i⟩
 ·have e:=zzE e
  rw[zzB (show num=0 by lk)]at g;rw[<- HQ g n]at m;exact⟨_,rfl,b _ _ (f.trans p) m⟩
end
open PySem L3 PySem.NumText
section
variable {srt:List D->Option (List D)}
abbrev wd(ws:List Str)(i:Nat):Str:=ws.getD i ""
abbrev dv(w:Str):Nat:=digitsVal w.cps.toList
abbrev e8(ws:List Str)(xs:List Ask):List D:=[.tup (xs.map bq),.bl (wd ws 1=="on"),.tup ((gT (wd ws 2)).map .str),.int (dv (wd ws 3)),.int (dv (wd ws 4)),.tup ((gT (wd ws 5)).map .str)]
structure eQ (ds:List Nat) (num:Nat) (as:List Ask) (ws:List Str) (xs:List Ask):Prop where
 a:uo ds ws 6
 l:7<=ws.length
 g:Gp (decide (num=0)) as (ws.drop 6) xs
 ok:ws.drop 6=[("-":Str)]\/xs.length=(ws.drop 6).length
inductive oz (ds:List Nat) (num:Nat) (as:List Ask) (ws:List Str):Nat->Prop
 |ahead {n:Nat} (a:uo ds ws n) (h:n<6\/ws.length=6):oz ds num as ws n
 |asks {xs:List Ask} (a:uo ds ws 6) (l:7<=ws.length) (g:Gp (decide (num=0)) as (ws.drop 6) xs) (nd:ws.drop 6≠[("-":Str)]) (lt:xs.length<(ws.drop 6).length):oz ds num as ws (6+xs.length)
def k6{ws:List Str}(h:7<=ws.length):∃f e d c b a us,ws=f::e::d::c::b::a::us:=by
 match ws,h with
 |f::e::d::c::b::a::us,_=>exact⟨f,e,d,c,b,a,us,rfl⟩
def oP(h:gk w=true):iQ (.str w)=some ((dv w:Nat):Int):=by
 unfold gk at h;rwa[zt,zzC]at h;exact mS h.2.2.1 h.1 (by lk)
def sR(h:jG ds w=true):iQ (.str w)=some ((dv w:Nat):Int):=by
 unfold jG at h;rwa[zt,zzC]at h;exact mS h.2.1 (by lk) (by lk)
def Jp(k:Nat)(M:MH)(r:eQ ds num as ws xs)(h:ig as)(I:as.length<=100)(i:Short 2000 ws)(J:M[j]?=some (.lst (bo ds)))
  (K:M[ja]?=some (.lst (as.map bq))) (hw:M[jw]?=some (.lst (ws.map .str))) (q:∀(M':MH),Gr M M'->Q (.tup (e8 ws xs)) M'):W ((cx srt (k+8)).fn "read_row" [.ob jw,.int num,.ob j,.ob ja]) M Q:=by
 have big:=aj;let⟨x,w,d,f,e,c,us,b⟩:=k6 r.l;have ra:=r.a;have z:=r.g;have y:=r.ok;have S:=r.l;have F:d.length<=2000:=i d (by rw[b];simp);have E:c.length<=2000:=i c (by rw[b];simp);have H:=oP (show gk f=true from ra.ok 3 f (by decide) (by rw[b];rfl));have G:=oP (show gk e=true from ra.ok 4 e (by decide) (by rw[b];rfl));have N:ws.drop 6=us:=by rw[b];rfl
 rw[N]at z y;rw[aP "read_row" 7 4 cY rfl,wf,cY];symm;refine kB (k+1) M hw i J ra λ C s=>?_;have m:=s.keep _ _ hw;symm;exists _,rfl;symm;rw[show decide (((6:Nat):Int)<6)=false from rfl];symm;exists _,m;symm;exists _,rfl;symm;rw[zy,show ((ws.length:Int)==6)=false from zzF.mpr (by lk)];symm;have L:ws.map D.str=.str x::.str w::.str d::.str f::.str e::.str c::us.map .str:=by rw[b];rfl
 rw[L]at m;refine⟨_,rfl,show ∃_,_ from ⟨_,m,?_⟩⟩;rw[show cutD (D.str x::.str w::.str d::.str f::.str e::.str c::us.map .str) (some 6) none=us.map .str by rw[gY _ (by decide)];rfl];have p:Gr C (C++[MO.lst (us.map D.str)]):=Gr.app _ _;refine BG k _ z h (λ u hu=>i u (by rw[b];simp[show u∈us from hu])) I (p.keep _ _ (s.keep _ _ K)) (ae _ _) y λ R B=>?_;have n:=s.trans (p.trans B);have t:=(p.trans B).keep _ _ m;symm;exists _,t;symm;exists _,t;symm;refine iO (k+5) R d F λ P A=>?_;have v:=A.keep _ _ t;symm;exists _,v;symm;exists _,H,_,v;symm;exists _,G,_,v;symm;refine iO (k+5) P c E λ O g5=>?_;symm;refine⟨by lk,?_⟩;have q:=q O (n.trans (A.trans g5));rw[b]at q;exact q
def Nl(k:Nat)(M:MH)(r:oz ds num as ws f)(h:ig as)(A:as.length<=100)(i:Short 2000 ws)(y:M[j]?=some (.lst (bo ds)))
  (C:M[ja]?=some (.lst (as.map bq))) (hw:M[jw]?=some (.lst (ws.map .str))):(cx srt (k+8)).fn "read_row" [.ob jw,.int num,.ob j,.ob ja] M=none/\∃b,(cx srt (k+8)).rz "read_row" [.ob jw,.int num,.ob j,.ob ja] M=some b/\b.1=((num:Int),(f:Int))/\Gr M b.2:=by
 have big:=aj
 suffices H:aH (cx srt (k+7)) cY [some (.ob jw),some (.int num),some (.ob j),some (.ob ja),none,none,none] M=none/\∃b,cu (cx srt (k+7)) cY [some (.ob jw),some (.int num),some (.ob j),some (.ob ja),none,none,none] M=some b/\b.1=((num:Int),(f:Int))/\Gr M b.2 by
  let⟨n,m⟩:=H;refine⟨?_,?_⟩
  ·rw[aP "read_row" 7 4 cY rfl]
   exact K8 n
  ·rw[DI,if_pos (show [D.ob jw,D.int num,D.ob j,D.ob ja].length=4 from rfl)]
   exact m
 cases r with
 |ahead a B =>
  have l6:=a.l6;have ll:=a.ll;rw[cY];refine pY ?_;symm;refine kB (k+1) M hw i y a λ e c=>?_;have d:=c.keep _ _ hw;refine⟨_,rfl,oF (DQ ?_)⟩;symm;exists _,rfl;symm;by_cases E:f<6
  ·rw[zzB (show (f:Int)<6 by lk)]
   symm;exact c
  ·rw[zzA (show ¬ (f:Int)<6 by lk)]
   symm;exists _,d;symm;exists _,rfl;symm;refine⟨?_,c⟩;rw[zy,B.resolve_left E];rfl
 |@asks K a l g nd lt =>
  let⟨x,w,v,t,s,q,us,p⟩:=k6 l;have J:ws.drop 6=us:=by rw[p];rfl
  rw[J]at g nd lt;rw[cY];refine pY ?_;symm;refine kB (k+1) M hw i y a λ e c=>?_;have d:=c.keep _ _ hw;refine⟨_,rfl,pY ?_⟩;symm;exists _,rfl;symm;rw[show decide (((6:Nat):Int)<6)=false from rfl];symm;exists _,d;symm;exists _,rfl;symm;rw[zy,show ((ws.length:Int)==6)=false from zzF.mpr (by lk)];symm;refine⟨_,rfl,oF (OH rfl ?_)⟩;symm;have I:ws.map D.str=.str x::.str w::.str v::.str t::.str s::.str q::us.map .str:=by rw[p];rfl
  rw[I]at d;refine⟨_,rfl,show ∃_,_ from ⟨_,d,?_⟩⟩;rw[show cutD (D.str x::.str w::.str v::.str t::.str s::.str q::us.map .str) (some 6) none=us.map .str by rw[gY _ (by decide)];rfl];have z:Gr e (e++[MO.lst (us.map D.str)]):=Gr.app _ _;let⟨n,b,m,G,F⟩:=Ea (srt:=srt) k (e++[MO.lst (us.map D.str)]) g h (λ u hu=>i u (by rw[p];simp[show u∈us from hu])) A (z.keep _ _ (c.keep _ _ C)) (ae _ _) nd lt;exact⟨n,b,m,G,c.trans (z.trans F)⟩
end
open PySem L3
section
variable {srt:List D->Option (List D)}
abbrev node(x a:List D):D:=.tup (x++[.tup a])
abbrev col:Nat->List (Nat×List D)->List D
 |_,[]=>[]
 |d,y::r=>if y.1<d then [] else if y.1=d then node y.2 (col (d+1) r)::col d r else col d r
structure Dv (E:List (Nat×List D)):Prop where
 d5:∀e∈E,e.1<5
 up:∀i e e',E[i]?=some e->E[i+1]?=some e'->e'.1<=e.1+1
def Dv.drop(h:Dv E)(n:Nat):Dv (E.drop n):=⟨λ e he=>h.d5 e (yb he),λ i e c b a=>h.up (n+i) e c (by (rw[xq]at b;assumption)) (by rw[xq]at a;exact a)⟩
def Kn(h:Dv (x::r))(hd:x.1+1<d):col d r=[]:=by
 cases r with
 |nil=>rfl
 |cons y r =>
  have:=h.up 0 x y rfl rfl
  rw[col,if_pos (by lk)]
def Km(h:Dv (x::r)):(λ k=>if k=x.1 then node x.2 (col (x.1+1) r)::col x.1 r else if k=x.1+1 then [] else col k r)=λ k=>col k (x::r):=by
 funext k;rw[col];by_cases a:k=x.1
 ·rw[if_pos a,if_neg (by lk),if_pos a.symm,a]
 ·rw[if_neg a]
  by_cases c:x.1<k
  ·rw[if_pos c]
   by_cases b:k=x.1+1
   ·rw[if_pos b]
   ·rw[if_neg b]
    exact Kn h (by lk)
  ·rw[if_neg c,if_neg (by lk),if_neg (by lk)]
def Du:∀(E:List (Nat×List D)) (d:Nat),(col d E).length<=E.length
 |[],_=>zq _
 |y::r,d=>by
  rw[col]
  have:=Du r d
  split
  ·exact zW _
  ·split
   ·rw[zj,zj];lk
   ·rw[zj];lk
structure Wait (M:MH) (jw:Nat) (f:Nat->List D):Prop where
 ex:∃ws:List Nat,ws.length=6/\M[jw]?=some (.lst (ws.map .ob))/\∀i w,ws[i]?=some w->w≠jw/\M[w]?=some (.lst (f i))
def Wait.keep(h:Wait M jw f)(g:Gr M M'):Wait M' jw f:=by
 let⟨ws,c,b,a⟩:=h;exact⟨ws,c,g.keep _ _ b,λ i w e=>⟨(a i w e).1,g.keep _ _ (a i w e).2⟩⟩
def Wait.at{M:MH}{jw:Nat}{f:Nat->List D}(h:Wait M jw f){i:Nat}(hi:i<6):∃ws:List D,M[jw]?=some (.lst ws)/\ws.length=6/\∃w:Nat,de ws (i:Int)=some (.ob w)/\M[w]?=some (.lst (f i)):=by
 let⟨ws,c,b,a⟩:=h;have e:=zu (l:=ws) (i:=i) (by lk);exact⟨_,b,by rw[zy,c],_,bN (by rw[zm,e];rfl),(a i _ e).2⟩
def Wait.set(h:Wait M jw f)(hw:M[jw]?=some (.lst ws))(j:w≠jw)(e:M[w]?=some (.lst ts)):Wait (M.set jw (.lst (ws.set i (.ob w)))) jw (λ k=>if k=i then ts else f k):=by
 let⟨d,o,n,m⟩:=h;have q:jw<M.length:=(zz.mp hw).1;have p:ws=d.map .ob:=by rw[n]at hw;cases hw;rfl
 refine⟨d.set i w,by rw[yq,o],by rw[zJ q,p,List.map_set],λ k u c=>?_⟩;by_cases g:k=i
 ·subst g
  have l:k<d.length:=by
   have:=(zz.mp c).1
   (rw[yq]at this;assumption)
  rw[zJ l]at c;cases c;exists j;rw[zc (Ne.symm j),if_pos rfl];exact e
 ·rw[zc (Ne.symm g)]at c
  let⟨a,b⟩:=m k u c;exists a;rw[zc (Ne.symm a),if_neg g];exact b
abbrev dQ(E:List (Nat×List D)):List D:=E.map λ e=>.tup e.2
abbrev uK(E:List (Nat×List D)):List D:=bo (E.map (·.1))
def JM(k:Nat)(M:MH)(he:E=G::L)(h0:G.1=0)(h:Dv E)(P:E.length<=20)(h6:∀e∈E,e.2.length=6)(N:M[v]?=some (.lst (dQ E)))(hd:M[y]?=some (.lst (uK E)))
 (q:∀(M':MH),Gr M M'->Q (node G.2 (col 1 L)) M'):W ((cx srt (k+2)).fn "nested" [.ob v,.ob y]) M Q:=by
 have big:=aj;have aaV:0<E.length:=by rw[he,zj];lk
 have Z:(dQ E).length=E.length:=by unfold dQ;rw[zy]
 rw[aP "nested" 6 2 m8 rfl,wf,m8];symm;exists _,rfl;symm;refine⟨⟨by lk,by lk⟩,by rw[bw];show 6<=_;lk,?_⟩;refine bJ (λ m l M'=>Gr M M'/\∃ws:List Nat,ws.length=m/\l=ws.map .ob/\∀w∈ws,w<M'.length/\M'[w]?=some (.lst [])) ⟨Gr.refl,[],rfl,rfl,(λ _ z=>nomatch z)⟩ (λ _ _ _ _=>trivial) ?_ ?_
 ·rintro m d l M' hd ⟨g,ws,P,rfl,hw⟩
  symm;refine⟨by lk,g.snoc _,ws++[M'.length],by rw[zx,P];rfl,by rw[zf];rfl,λ w h=>?_⟩;rcases zQ.mp h with h|h
  ·exact⟨by rw[zx];exact ze (hw w h).1 (vt _ _),(Gr.app _ _).keep _ _ (hw w h).2⟩
  ·rw[zB.mp h]
   exact⟨by rw[zx];exact ye _,ae _ _⟩
 rintro l a ⟨B,ws,K,rfl,hw⟩;rw[bw]at K;have U:ws.length=6:=K;have I:Wait (a++[MO.lst (ws.map .ob)]) a.length (λ _=>[]):=⟨ws,U,ae _ _,λ i w e=>by
  have:=hw w (zl e)
  exact⟨by lk,(Gr.app _ _).keep _ _ this.2⟩⟩
 have A:Gr M (a++[MO.lst (ws.map D.ob)]):=B.snoc _;have u:M.length<=a.length:=B.len;have T:a.length<(a++[MO.lst (ws.map D.ob)]).length:=by rw[zx];exact ye _
 generalize a++[MO.lst (ws.map D.ob)]=M1 at I A T ⊢;generalize a.length=jw at I u T ⊢;clear hw K U B;symm;exists _,A.keep _ _ N;symm;rw[Z];refine⟨⟨⟨by lk,by lk⟩,⟨by lk,by lk⟩,by lk⟩,?_⟩;refine dO (λ m ρ M'=>Gr M M'/\Wait M' jw (λ k=>col k (E.drop (E.length-m)))/\∃s p n,ρ=[some (.ob v),some (.ob y),some (.ob jw),s,p,n]) ⟨A,by rw[wo,yR];exact I,_,_,_,rfl⟩ (λ _ _ _ _=>trivial) ?_ ?_
 ·rintro m d ρ M' hx ⟨g,b,s,p,n,rfl⟩
  let⟨rfl,O⟩:=Jr hx;have O:m<E.length:=by
   unfold d8 at O;lk
  have S:(E.length:Int)-1+-1*(m:Int)=((E.length-1-m:Nat):Int):=by lk
  have hi:E.length-1-m<E.length:=by lk
  have ex:=zu hi;have fO:=h.d5 _ (yE hi);have l6:=h6 _ (yE hi);have C:E.drop (E.length-(m+1))=E[E.length-1-m]::E.drop (E.length-m):=by
   rw[show E.length-(m+1)=E.length-1-m by lk,yt hi,show E.length-1-m+1=E.length-m by lk]
  generalize E[E.length-1-m]=x at ex fO C l6;have e1:de (uK E) ((E.length:Int)-1+-1*(m:Int))=some (.int x.1):=by
   rw[S];refine bN ?_;unfold uK bo;rw[xh,zm,ex];rfl
  have e2:de (dQ E) ((E.length:Int)-1+-1*(m:Int))=some (.tup x.2):=by
   rw[S];refine bN ?_;unfold dQ;rw[zm,ex];rfl
  have st:=Km (C▸h.drop (E.length-(m+1)));symm;exists _,g.keep _ _ hd;symm;exists _,e1,_,g.keep _ _ N;symm;exists _,e2;rw[<- C]at st;have t:∀k,(col k (E.drop (E.length-m))).length<=20:=λ k=>zG (Du _ _) (by rw[yr];lk);generalize E.drop (E.length-m)=r at b st t;let⟨c,hu,Y,X,J,f⟩:=b.at (i:=x.1+1) (by lk);symm;have l1:=t (x.1+1);have l0:=t x.1;have cm:jw<M'.length:=(zz.mp hu).1;have YE:mh c.length ((x.1:Int)+1)=some (x.1+1):=by
   unfold mh;rw[if_pos (by lk),if_pos (by lk)];congr 1
  exists _,hu;symm;exists _,J;symm;refine⟨_,f,by lk,by rw[l6];show 7<=_;lk,by lk,_,(Gr.app _ _).keep _ _ hu,?_⟩;have en:D.tup (x.2++[D.tup (col (x.1+1) r)])=node x.2 (col (x.1+1) r):=rfl;rw[en];have H:=(b.keep (Gr.app M' [MO.lst []])).set (i:=x.1+1) (w:=M'.length) (ts:=[]) ((Gr.app _ _).keep _ _ hu) (by lk) (ae _ _);have R:Gr M ((M'++[MO.lst []]).set jw (.lst (c.set (x.1+1) (.ob M'.length)))):=(g.snoc _).set u _;symm;exists _,YE;generalize (M'++[MO.lst []]).set jw (.lst (c.set (x.1+1) (.ob M'.length)))=M2 at H R ⊢;let⟨XG,j,Yr,w0,ZQ,V⟩:=H.at (i:=x.1) (by lk);rw[if_neg (by lk)]at V;have YF:mh XG.length (x.1:Int)=some x.1:=by
   unfold mh;rw[if_pos (by lk),if_pos (by lk)];congr 1
  have aaW:jw<M2.length:=(zz.mp j).1;symm;refine⟨by lk,_,(Gr.app _ _).keep _ _ j,?_⟩;symm;exists _,ZQ;symm;refine⟨_,ae _ _,_,(Gr.app _ _).keep _ _ V,by show 1+_<=_;lk,?_⟩;symm;have gg:Gr M2 (M2++[MO.lst [node x.2 (col (x.1+1) r)]]++[MO.lst ([node x.2 (col (x.1+1) r)]++col x.1 r)]):=(Gr.app _ _).snoc _;exists _,gg.keep _ _ j;symm;exists _,YF;have W2:=(H.keep gg).set (i:=x.1) (w:=(M2++[MO.lst [node x.2 (col (x.1+1) r)]]).length) (ts:=node x.2 (col (x.1+1) r)::col x.1 r) (gg.keep _ _ j) (by rw[zx];lk) (by rw[ae];rfl);refine⟨(R.trans gg).set u _,?_,_,_,_,rfl⟩;rw[<- st];exact W2
 ·rintro ρ M' ⟨g,b,s,p,n,rfl⟩
  have F:E.length-(gP ((E.length:Int)-1) (-1) (-1)).length=0:=by
   rw[Jq];unfold d8;lk
  rw[F,xg]at b;let⟨c,hu,Y,X,J,f⟩:=b.at (i:=0) (by lk);rw[he,col,h0,if_neg (by decide),if_pos rfl]at f;symm;exists _,hu;symm;exists _,J;symm;exists _,f;symm;exact q _ g
end
open PySem L3 PySem.NumText
section
variable {srt:List D->Option (List D)}
abbrev cU(a:List (List Str)):List Nat:=a.map λ ws=>dv (wd ws 0)
abbrev gE(a:List (List Ask)):List Ask:=(a.drop 1).flatten
abbrev ent(b:List (List Str))(a:List (List Ask)):List (Nat×List D):=(b.zip a).map λ p=>(dv (wd p.1 0),e8 p.1 p.2)
structure Good (Ls:List (List Str)) (xss:List (List Ask)):Prop where
 l:xss.length<=Ls.length
 row:∀i ws xs,Ls[i]?=some ws->xss[i]?=some xs->eQ (cU (Ls.take i)) i (gE (xss.take i)) ws xs
def qq{a:List (List Ask)}{i:Nat}{xs:List Ask}(h:a[i]?=some xs):gE (a.take (i+1))=gE (a.take i)++if i=0 then [] else xs:=by
 let⟨hi,e⟩:=zz.mp h;unfold gE;rw[zH hi,e];by_cases b:i=0
 ·subst b
  rw[if_pos rfl,vC];rfl
 ·rw[if_neg b,List.drop_append_of_le_length (by rw[zS];lk),List.flatten_append]
  simp
def eQ.dep(r:eQ ds num as ws xs):jG ds (wd ws 0)=true:=by
 let⟨b,g,f,e,d,c,h,rfl⟩:=k6 r.l;exact r.a.ok 0 b (by decide) rfl
def eQ.Bj(r:eQ ds num as ws xs):dv (wd ws 0)<5/\lT ds (dv (wd ws 0))=true:=by
 have h:=r.dep;unfold jG at h;rwa[zt,zzC]at h;exact⟨h.2.2.1,h.2.2.2⟩
def Bh{a:List (List Str)}{i:Nat}{ws:List Str}(h:a[i]?=some ws):(cU (a.take (i+1))).getLast?=some (dv (wd ws 0)):=by
 let⟨hi,e⟩:=zz.mp h;unfold cU;rw[zH hi,e,zf];simp
def Good.at(g:Good b a)(h:i<a.length):∃ws xs,b[i]?=some ws/\a[i]?=some xs/\eQ (cU (b.take i)) i (gE (a.take i)) ws xs:=by
 have e1:=zu h;have c:=zu (l:=b) (i:=i) (ze h g.l);exact⟨_,_,c,e1,g.row i _ _ c e1⟩
def Good.gu(g:Good b a):a.length<=20:=by
 refine yP λ z=>?_;let⟨ws,d,f,e,r⟩:=g.at (i:=20) z;obtain⟨ws',c⟩:∃ws',b[19]?=some ws':=⟨_,zu (by have:=g.l;lk)⟩
 have:=r.Bj.2
 unfold lT at this;rw[Bh c]at this;rwa[zt,zzC]at this;have l:(cU (b.take 20)).length=20:=by unfold cU;rw[zy,zS];have:=g.l;lk
 lk
def Good.lH(g:Good f a):∀i,i<=a.length->ig (gE (a.take i))/\(gE (a.take i)).length<=4*i:=by
 intro i;induction i with
 |zero=>exact λ _=>⟨ig.nil,zq _⟩
 |succ i e =>
  intro hi;let⟨c,h⟩:=e (by lk);let⟨ws,d,hw,hx,r⟩:=g.at (i:=i) hi;rw[qq hx];by_cases b:i=0
  ·rw[if_pos b,zO]
   exact⟨c,by lk⟩
  ·rw[if_neg b,zx]
   have l4:=r.g.l4
   have:=r.g.lH (zzA b) c d.length (zq _)
   rw[zM]at this;exact⟨this,by lk⟩
def sP{b:List (List Str)}{a:List (List Ask)}{i:Nat}{ws:List Str}{xs:List Ask}(d:b[i]?=some ws)(c:a[i]?=some xs):(ent b a)[i]?=some (dv (wd ws 0),e8 ws xs):=by
 unfold ent;rw[zm,(List.getElem?_zip_eq_some (z:=(ws,xs))).mpr ⟨d,c⟩];rfl
def ml(g:Good b a):(ent b a).length=a.length:=by
 unfold ent;rw[zy,vh]
 have:=g.l
 lk
def iH(g:Good b a)(h:(ent b a)[i]?=some e):∃ws xs,b[i]?=some ws/\a[i]?=some xs/\eQ (cU (b.take i)) i (gE (a.take i)) ws xs/\e=(dv (wd ws 0),e8 ws xs):=by
 let⟨ws,xs,d,c,r⟩:=g.at (i:=i) (by rw[<- ml g];exact(zz.mp h).1);rw[sP d c]at h;cases h;exact⟨ws,xs,d,c,r,rfl⟩
def Ia(g:Good b a):Dv (ent b a)/\∀e,(ent b a)[0]?=some e->e.1=0:=by
 refine⟨⟨λ e he=>?_,λ i e m k j=>?_⟩,λ e he=>?_⟩
 ·let⟨i,hi⟩:=ya he
  let⟨ws,c,_,_,r,rfl⟩:=iH g hi;exact r.Bj.1
 ·let⟨ws,c,l,p,r,rfl⟩:=iH g k
  let⟨f,d,o,n,h,rfl⟩:=iH g j
  have:=h.Bj.2
  unfold lT at this;rw[Bh l]at this;rwa[zt,zzC]at this;exact this.2.1
 ·let⟨ws,c,_,_,r,rfl⟩:=iH g he
  have:=r.Bj.2
  unfold lT cU at this;simpa using this
abbrev jR:aD:=match av 4 a9 with
 |.cons (.forP _ _ _ b) _=>b
 |_=>.nil
structure Ti (Ls:List (List Str)) (xss:List (List Ask)) (M:MH) (j m:Nat) (ρ:Ev) (M':MH):Prop where
 g:Gr M M'
 r:M'[M.length]?=some (.lst (dQ ((ent Ls xss).take m)))
 d:M'[M.length+1]?=some (.lst (bo (cU (Ls.take m))))
 a:M'[M.length+2]?=some (.lst ((gE (xss.take m)).map bq))
 e:∃x4 x5 x6 x7,ρ=[some (.ob j),some (.ob M.length),some (.ob (M.length+1)),some (.ob (M.length+2)),x4,x5,x6,x7]
def blank:(Str.ofString " ")=sg 32:=by decide +kernel
def Ti.next(k:Nat){b:List (List Str)}{a:List (List Ask)}(G:Good b a){M M':MH}{j m:Nat}{ρ:Ev}{t:Str}(F:t.length<=2000)(hw:b[m]?=some (ax t (sg 32)))(K:m<a.length)(I:Ti b a M j m ρ M') :
  W (aH (cx srt (k+8)) jR ((ρ.set 4 (some (.int m))).set 5 (some (.str t)))) M' λ f M1=>∃h,f=.nx h/\Ti b a M j (m+1) h M1:=by
 have big:=aj;let⟨g,J,hd,s,Y,X,V,U,rfl⟩:=I;have gu:=G.gu;let⟨lH,al⟩:=G.lH m (by lk);have hx:=zu K;have i:=G.row m _ _ hw hx;have B:=sP hw hx;have n:=qq hx;generalize a[m]=xs at hx i B n;have sl:=split_len t 32;have H:Short 2000 (ax t (sg 32)):=λ u hu=>zG (gm hu) F;let⟨T,L⟩:=zz.mp B;have S:m<b.length:=(zz.mp hw).1;have R:=(zz.mp hw).2;have O:(dQ ((ent b a).take m)).length<=20:=by unfold dQ;rw[zy,zS];lk
 have VT:(bo (cU (b.take m))).length<=20:=by rw[cI];unfold cU;rw[zy,zS];lk
 have cm:M.length+2<M'.length:=(zz.mp s).1;rwa[jR,a9,bG,bH,av];symm;rw[blank];generalize ax t (sg 32)=ws at *;refine⟨⟨by decide,by lk,by lk⟩,?_⟩;have v:Gr M' (M'++[MO.lst (ws.map D.str)]):=Gr.app _ _;refine Jp k _ i lH (by lk) H (v.keep _ _ hd) (v.keep _ _ s) (ae _ _) λ d g5=>?_;have c:=v.trans g5;have C:=c.keep _ _ J;have Q:=c.keep _ _ hd;have P:=c.keep _ _ s;have E:=g5.keep _ _ (ae M' (MO.lst (ws.map D.str)));have l5:M'.length<d.length:=(zz.mp E).1;symm;refine⟨_,C,_,C,by lk,?_⟩;have z:(d.set M.length (.lst (dQ ((ent b a).take m)++[.tup (e8 ws xs)])))[M.length]?=some (.lst (dQ ((ent b a).take (m+1)))):=by
  rw[zJ (by lk),zH T,L];unfold dQ;rw[zf];rfl
 have x:(d.set M.length (.lst (dQ ((ent b a).take m)++[.tup (e8 ws xs)])))[M.length+1]?=some (.lst (bo (cU (b.take m)))):=by rw[zc (by lk)];exact Q
 have y:(d.set M.length (.lst (dQ ((ent b a).take m)++[.tup (e8 ws xs)])))[M.length+2]?=some (.lst ((gE (a.take m)).map bq)):=by rw[zc (by lk)];exact P
 have q:(d.set M.length (.lst (dQ ((ent b a).take m)++[.tup (e8 ws xs)])))[M'.length]?=some (.lst (ws.map .str)):=by rw[zc (by lk)];exact E
 have A:Gr M (d.set M.length (.lst (dQ ((ent b a).take m)++[.tup (e8 ws xs)]))):=(g.trans c).set (zq _) _;generalize d.set M.length (.lst (dQ ((ent b a).take m)++[.tup (e8 ws xs)]))=M6 at z x y q A ⊢;have N:ws.map D.str=.str (wd ws 0)::(ws.drop 1).map .str:=by
  let⟨w0,w1,w2,w3,w4,Z,us,rfl⟩:=k6 i.l;rfl
 rw[N]at q;symm;exists _,x,_,q;symm;refine⟨_,sR i.dep,_,x,by lk,?_⟩;have l6:M.length+2<M6.length:=(zz.mp y).1;have r:(M6.set (M.length+1) (.lst (bo (cU (b.take m))++[.int (dv (wd ws 0))])))[M.length]?=some (.lst (dQ ((ent b a).take (m+1)))):=by rw[zc (by lk)];exact z
 have w:(M6.set (M.length+1) (.lst (bo (cU (b.take m))++[.int (dv (wd ws 0))])))[M.length+1]?=some (.lst (bo (cU (b.take (m+1))))):=by
  rw[zJ (by lk),zH S,R];unfold bo cU;rw[zf,zf];rfl
 have p:(M6.set (M.length+1) (.lst (bo (cU (b.take m))++[.int (dv (wd ws 0))])))[M.length+2]?=some (.lst ((gE (a.take m)).map bq)):=by rw[zc (by lk)];exact y
 have g7:Gr M (M6.set (M.length+1) (.lst (bo (cU (b.take m))++[.int (dv (wd ws 0))]))):=A.set (by lk) _;generalize M6.set (M.length+1) (.lst (bo (cU (b.take m))++[.int (dv (wd ws 0))]))=M7 at r w p g7 ⊢;have lx:=i.g.l4;symm;refine⟨λ e=>?_,λ e=>?_⟩
 ·have e:0<m:=by have:=zzD e;lk
  rw[if_neg (by lk)]at n;unfold e8;symm;refine⟨_,p,_,p,by rw[zy,zy];lk,?_⟩;refine⟨_,rfl,g7.set (by lk) _,by rw[zc (by lk)];exact r,by rw[zc (by lk)];exact w,?_,_,_,_,_,rfl⟩;rw[zJ (zz.mp p).1,n,zf]
 ·have e:m=0:=by have:=zzE e;lk
  subst e;rw[if_pos rfl,zO]at n;exact⟨_,rfl,g7,r,w,by rw[p,n],_,_,_,_,rfl⟩
end
open PySem L3
section
variable {srt:List D->Option (List D)}
abbrev b9(ts:List Str):List (List Str):=ts.map λ t=>ax t (sg 32)
def OV:Ti d a M j 0 [some (.ob j),some (.ob M.length),some (.ob (M.length+1)),some (.ob (M.length+2)),none,none,none,none] (M++[MO.lst []]++[MO.lst []]++[MO.lst []]):=by
 have b:(M++[MO.lst []]).length=M.length+1:=by rw[zx];rfl
 have c:(M++[MO.lst []]++[MO.lst []]).length=M.length+2:=by rw[zx,b];rfl
 refine⟨((Gr.app _ _).snoc _).snoc _,(Gr.app _ _).keep _ _ ((Gr.app _ _).keep _ _ (ae _ _)),?_,?_,_,_,_,_,rfl⟩
 ·rw[<- b]
  exact(Gr.app _ _).keep _ _ (ae _ _)
 ·rw[<- c]
  exact ae _ _
def uv(k:Nat)(M:MH)(O:Short 2000 ts)(u:M[j]?=some (.lst (ts.map .str)))(G:Good (b9 ts) c)(s:c.length=(b9 ts).length)(he:ent (b9 ts) c=v::w) 
  (q:∀(M':MH),Gr M M'->Q (node v.2 (col 1 w)) M'):W ((cx srt (k+9)).fn "read_tree" [.ob j]) M Q:=by
 have big:=aj;have ll:(b9 ts).length=ts.length:=by unfold b9;rw[zy]
 have E:=ml G;have gu:=G.gu;have step:=λ {m:Nat} {ρ:Ev} {M':MH} {t:Str}=>Ti.next (srt:=srt) (M:=M) (M':=M') (j:=j) (m:=m) (ρ:=ρ) (t:=t) k G;rw[aP "read_tree" 8 1 a9 rfl,wf];have S:a9=fq 4 a9 (.cons (.forP 4 5 (.enum (.var 0)) jR) (av 5 a9)):=rfl;rw[S];generalize jR=tb at step ⊢;rwa[a9,dh,di,bG,bH];symm;exists _,u;symm;have P:0<ts.length:=by rw[<- ll,<- s,<- E,he,zj];lk
 refine⟨λ z=>?_,λ _=>⟨by lk,by lk,by lk,_,((Gr.app _ _).snoc _ |>.snoc _).keep _ _ u,?_⟩⟩
 ·cases ts with
  |nil=>exact absurd P (by decide)
  |cons a r=>cases z
 have C:(M++[MO.lst []]).length=M.length+1:=by rw[zx];rfl
 have L:(M++[MO.lst []]++[MO.lst []]).length=M.length+2:=by rw[zx,C];rfl
 rw[L,C];refine lV (λ m ρ M'=>Ti (b9 ts) c M j m ρ M') OV (λ _ _ _ h=>h.g.keep _ _ u) ?_ ?_
 ·rintro m d ρ M' hd I
  let⟨y,F,rfl⟩:=pf hd;rw[zm]at F;let⟨t,l,rfl⟩:=zp.mp F;have H:m<ts.length:=(zz.mp l).1;exists _,_,rfl;refine(step (O t (zl l)) (by unfold b9;rw[zm,l];rfl) (by lk) I).mono ?_;rintro f M1 ⟨K,rfl,V⟩;exact V
 ·rintro ρ M' ⟨g,n,hd,ha,x4,x5,Z,Y,rfl⟩
  rw[rE,zy,<- ll]at n hd;rw[<- s,<- E,zM]at n;rw[zM]at hd;symm;let⟨U,T⟩:=Ia G;refine JM (k+6) M' he (T v (by rw[he];rfl)) U (by lk) (λ e H=>?_) n ?_ λ M2 R=>q _ (g.trans R)
  ·let⟨i,hi⟩:=ya H
   let⟨ws,X,_,_,_,rfl⟩:=iH G hi;rfl
  ·rw[hd]
   unfold uK cU ent;rw[xh];congr 3
   have:∀(A:List (List Str)) (B:List (List Ask)),B.length=A.length->A.map (λ ws=>dv (wd ws 0))=(A.zip B).map ((λ x=>x.1) ∘ λ p=>(dv (wd p.1 0),e8 p.1 p.2)):=by
    intro A;induction A with
    |nil=>intro B _;rfl
    |cons a A N =>
     intro B J;cases B with
     |nil=>cases J
     |cons b B =>
      rw[yY,zR,zR,N B (by simpa using J)];rfl
   exact this _ _ s
def z8(k:Nat)(M:MH)(s:Short 2000 ts)(l:M[j]?=some (.lst (ts.map .str)))(G:Good (b9 ts) b)(hw:(b9 ts)[b.length]?=some ws)(F:oz (cU ((b9 ts).take b.length)) b.length (gE b) ws f) :
  ∃c,(cx srt (k+9)).rz "read_tree" [.ob j] M=some c/\c.1=((b.length:Int),(f:Int))/\Gr M c.2:=by
 have big:=aj;have ll:(b9 ts).length=ts.length:=by unfold b9;rw[zy]
 have gu:=G.gu;have v:b.length<(b9 ts).length:=(zz.mp hw).1;have step:=λ {m:Nat} {ρ:Ev} {M':MH} {t:Str}=>Ti.next (srt:=srt) (M:=M) (M':=M') (j:=j) (m:=m) (ρ:=ρ) (t:=t) k G;let⟨lH,O⟩:=G.lH b.length (zq _);rw[zM]at lH O;have last:∀(t:Str) (ρ:Ev) (M':MH),t.length<=2000->ax t (sg 32)=ws->Ti (b9 ts) b M j b.length ρ M'->aH (cx srt (k+8)) jR ((ρ.set 4 (some (.int b.length))).set 5 (some (.str t))) M'=none/\∃c,cu (cx srt (k+8)) jR ((ρ.set 4 (some (.int b.length))).set 5 (some (.str t))) M'=some c/\c.1=((b.length:Int),(f:Int))/\Gr M c.2:=by
  rintro t ρ M' e x ⟨g,T,hd,w,S,R,Q,P,rfl⟩;rw[zM]at w;have B:=split_len t 32;have A:Short 2000 (ax t (sg 32)):=λ u hu=>zG (gm hu) e;rw[x]at B A;rwa[jR,a9,bG,bH,av];refine pY ?_;symm;rw[blank,x];refine⟨⟨by decide,by lk,by lk⟩,_,rfl,oF (OH rfl ?_)⟩;symm;have p:Gr M' (M'++[MO.lst (ws.map D.str)]):=Gr.app _ _;let⟨L,c,K,J,H⟩:=Nl (srt:=srt) k (M'++[MO.lst (ws.map D.str)]) F lH (by lk) A (p.keep _ _ hd) (p.keep _ _ w) (ae _ _);exact⟨L,c,K,J,g.trans (p.trans H)⟩
 rw[pC,if_pos (show [D.ob j].length=1 from rfl)];show ∃c,cu (cx srt (k+8)) a9 [some (.ob j),none,none,none,none,none,none,none] M=some c/\_;have N:a9=fq 4 a9 (.cons (.forP 4 5 (.enum (.var 0)) jR) (av 5 a9)):=rfl;rw[N];generalize jR=tb at step last ⊢;rwa[a9,dh,di,bG,bH];refine KL ?_;symm;exists _,l;symm;refine⟨λ z=>?_,λ _=>⟨_,rfl,KL ?_⟩⟩
 ·cases ts with
  |nil=>cases v
  |cons a r=>cases z
 symm;refine⟨by lk,_,rfl,KL ?_⟩;symm;refine⟨by lk,_,rfl,KL ?_⟩;symm;refine⟨by lk,_,rfl,(oF (Vu ?_)).2⟩;symm;exists _,((Gr.app _ _).snoc _ |>.snoc _).keep _ _ l
 have q:(M++[MO.lst []]).length=M.length+1:=by rw[zx];rfl
 have C:(M++[MO.lst []]++[MO.lst []]).length=M.length+2:=by rw[zx,q];rfl
 rw[C,q];refine Sf (n:=b.length) (λ m ρ M'=>Ti (b9 ts) b M j m ρ M') OV (λ _ _ _ h=>h.g.keep _ _ l) ?_ ?_ (by rw[rE,zy,<- ll];exact v)
 ·intro m d ρ M' E hd I
  let⟨y,i,rfl⟩:=pf hd;rw[zm]at i;let⟨t,e,rfl⟩:=zp.mp i;exact⟨_,_,rfl,step (s t (zl e)) (by unfold b9;rw[zm,e];rfl) E I⟩
 ·intro d ρ M' hd I
  let⟨y,i,rfl⟩:=pf hd;rw[zm]at i;let⟨t,e,rfl⟩:=zp.mp i;unfold b9 at hw;rw[zm,e]at hw;exact⟨_,_,rfl,last t ρ M' (s t (zl e)) (Option.some.inj hw) I⟩
def nk(k:Nat)(M:MH)(b:M[j]?=some (.lst [])):∃a,(cx srt (k+9)).rz "read_tree" [.ob j] M=some a/\a.1=((0:Int),(0:Int))/\Gr M a.2:=by
 rw[pC,if_pos (show [D.ob j].length=1 from rfl)];show ∃a,cu (cx srt (k+8)) a9 [some (.ob j),none,none,none,none,none,none,none] M=some a/\_;rw[a9];refine(oF (DQ ?_)).2;symm;exists _,b;symm;exact⟨rfl,Gr.refl⟩
abbrev tQ(a:List Str)(v:Str->Nat):List (Ky×D):=a.map λ n=>(.inr n,.ob (v n))
def sH(v:Str->Nat)(n:Str):∀a:List Str,cX (tQ a v) (.inr n)=if n∈a then some (.ob (v n)) else none
 |[]=>rfl
 |m::a=>by
  have b:=sH v n a;unfold cX tQ at b ⊢;rw[zR,yD];by_cases e:m=n
  ·subst e
   rw[zzB rfl,if_pos zI];rfl
  ·rw[zzA (λ z=>e (Sum.inr.inj z))]
   dsimp only;rw[b];by_cases h:n∈a
   ·rw[if_pos h,if_pos (zE _ h)]
   ·rw[if_neg h,if_neg (λ z=>(zd.mp z).elim (λ z=>e z.symm) h)]
def N1(a:List Str)(v:Str->Nat)(n:Str)(i:Nat):jW (tQ a v) (.inr n) (.ob i)=tQ (cR a n) λ m=>if m=n then i else v m:=by
 unfold jW cR tQ;by_cases h:n∈a
 ·rw[if_pos (by rw[xu];exact⟨_,yl.mpr ⟨n,h,rfl⟩,zzB rfl⟩),if_pos h,xh]
  refine wG λ m _=>?_;by_cases e:m=n <;> simp[e]
 ·rw[if_neg (λ z=>by
   rw[xu]at z;let⟨x,hx,e⟩:=z;let⟨m,b,rfl⟩:=yl.mp hx;exact h (Sum.inr.inj (zzD e)▸b)),if_neg h,zf]
  congr 1
  ·refine wG λ m b=>?_
   have e:m≠n:=λ z=>h (by rw[<- z];exact b);simp[e]
  ·simp
abbrev gr(as:List Ask):List Str:=au [] (as.map (·.n))
abbrev dr(n:Str)(as:List Ask):List Str:=au [] (dZ n as)
def rM:∀(ys xs:List Str) (x:Str),x∈au xs ys ↔ x∈xs\/x∈ys
 |[],xs,x=>by simp[au]
 |y::ys,xs,x=>by
  rw[au,rM ys];unfold cR;split
  ·rename_i h
   rw[zd];exact⟨λ z=>z.elim .inl λ z=>.inr (.inr z),λ z=>z.elim .inl λ z=>z.elim (λ z=>.inl (z▸h)) .inr⟩
  ·rw[zQ,zB,zd,or_assoc]
def qg(as:List Ask)(a:Ask):gr (as++[a])=cR (gr as) a.n:=by
 unfold gr;rw[zf,ic];rfl
def nB:∀(ys xs:List Str),ys.Nodup->au xs ys=xs++ys.filter λ y=>!decide (y∈xs)
 |[],xs,_=>by rw[we,zO];rfl
 |y::ys,xs,h=>by
  rw[yZ]at h;rw[au,nB ys _ h.2];unfold cR;by_cases e:y∈xs
  ·rw[if_pos e,wy (by simp[e])]
  ·rw[if_neg e,wx (by simp[e]),zU]
   congr 1;show y::_=y::_;congr 1;refine List.filter_congr λ z a=>?_
   have:z≠y:=λ q=>h.1 (q▸a)
   simp[this]
def IV(h:a.vs.Nodup):dr a.n (as++[a])=dr a.n as++a.vs.filter λ y=>!decide (y∈dr a.n as):=by
 unfold dr;rw[gH,if_pos rfl,ic];exact nB _ _ h
def OP(h:a.n≠n):dr n (as++[a])=dr n as:=by
 unfold dr;rw[gH,if_neg h,zO]
def OO(h:n ∉ gr as):dr n as=[]:=by
 have e:dZ n as=[]:=by
  unfold dZ;rw[List.flatMap_eq_nil_iff];intro a b;rw[if_neg (λ z=>h ?_)];unfold gr;rw[rM];exact .inr (z▸yl.mpr ⟨a,b,rfl⟩)
 unfold dr;rw[e];rfl
structure Dm (M:MH) (jd:Nat) (as:List Ask):Prop where
 ex:∃v:Str->Nat,M[jd]?=some (.bC (tQ (gr as) v))/\∀n∈gr as,jd<v n/\M[v n]?=some (.lst ((dr n as).map .str))
def Dm.keep(h:Dm M c as)(g:Gr M M'):Dm M' c as:=let ⟨v,a,b⟩:=h.ex;⟨v,g.keep _ _ a,λ n d=>⟨(b n d).1,g.keep _ _ (b n d).2⟩⟩
def Dm.get(h:Dm M b as)(n:Str):∃a,M[b]?=some (.bC a)/\a.length=(gr as).length/\(cX a (.inr n)).isSome=decide (n∈gr as)/\∃i:Nat,(cX a (.inr n)).getD (.ob M.length)=.ob i/\(M++[MO.lst []])[i]?=some (.lst ((dr n as).map .str)):=by
 let⟨v,d,c⟩:=h.ex;refine⟨_,d,by unfold tQ;rw[zy],?_,?_⟩
 ·rw[sH]
  by_cases e:n∈gr as
  ·rw[if_pos e,zzB e];rfl
  ·rw[if_neg e,zzA e];rfl
 ·rw[sH]
  by_cases e:n∈gr as
  ·rw[if_pos e]
   exact⟨_,rfl,(Gr.app _ _).keep _ _ (c n e).2⟩
  ·rw[if_neg e,OO e]
   exact⟨_,rfl,ae _ _⟩
def Rx(as:List Ask)(a:Ask):eP as a=(decide ((cR (gr as) a.n).length<=4)&&decide ((dr a.n (as++[a])).length<=3)):=by
 unfold eP;rw[<- qg];rfl
def OC(k:Nat)(M:MH)(a:Ask)(q:Q (.bl true) M):W ((cx srt (k+1)).fn "_law_admitted" [bq a,.ob b,.bl true]) M Q:=by
 rw[aP "_law_admitted" 4 3 bt rfl,wf,bt];symm;exact q
def TV(k:Nat)(M:MH)(a:Ask)(h:Dm M c as)(C:ig as)(B:iZ a)(q:∀M',Gx c M M'->(eP as a=true->Dm M' c (as++[a]))->Q (.bl (eP as a)) M') :
  W ((cx srt (k+1)).fn "_law_admitted" [bq a,.ob c,.bl false]) M Q:=by
 have big:=aj;have Z:(gr as).length<=4:=C.nm;have Y:(dr a.n as).length<=3:=C.vl a.n;have H:=B.l;let⟨I,j,U,T,_⟩:=h.get a.n;have N:c<M.length:=(zz.mp j).1;rw[Rx]at q;have F:(cR (gr as) a.n).length=(gr as).length+if a.n∈gr as then 0 else 1:=by
  unfold cR;split
  ·rfl
  ·rw[zx];rfl
 have S:bq a=.tup [.str (jg a.k),.str a.n,.tup (a.vs.map .str)]:=rfl;rw[S,aP "_law_admitted" 4 3 bt rfl,wf,bt];have f:(cR (gr as) a.n).length<=4->V (bu (cx srt k) (av 2 bt) [some (.tup [.str (jg a.k),.str a.n,.tup (a.vs.map .str)]),some (.ob c),some (.bl false),none]) M (dN Q):=λ b=>by
  rw[zzB b,zP]at q;rwa[bt,bG,bH];symm;refine⟨_,j,by lk,?_⟩;let⟨A,e1,e2,e3,i,R,hi⟩:=h.get a.n;rw[j]at e1;cases e1;exists _,(Gr.app _ _).keep _ _ j;rw[R];have s:Gr M (M++[MO.lst []]):=Gr.app _ _;generalize M++[MO.lst []]=M1 at s hi ⊢;refine⟨by rw[zy];lk,?_⟩;refine bJ (λ m t M'=>Gr M1 M'/\t=((a.vs.take m).filter λ y=>!decide (y∈dr a.n as)).map .str) ⟨Gr.refl,rfl⟩ (λ _ _ _ _=>trivial) ?_ ?_
  ·rintro m d t M' hd ⟨g,rfl⟩
   rw[zm]at hd;let⟨y,K,rfl⟩:=zp.mp hd;let⟨L,e⟩:=zz.mp K;have O:=h.keep (s.trans g);let⟨X,E,f2,f3,i2,P,J⟩:=O.get a.n;symm;refine⟨_,E,by lk,_,(Gr.app _ _).keep _ _ E,?_⟩;rw[P];symm;exists _,J;symm;exists _,kK y (dr a.n as);rw[zH L,e,List.filter_append];refine⟨λ z=>⟨g.snoc _,?_⟩,λ z=>⟨g.snoc _,?_⟩⟩
   ·rw[wx (by exact z),we,zf]
    rfl
   ·rw[wy (by rw[z];decide),we,zO]
  ·rintro t M' ⟨g,rfl⟩
   rw[zy,zM];have lf:(a.vs.filter λ y=>!decide (y∈dr a.n as)).length<=3:=zG (List.length_filter_le _ _) H;have ev:=IV (as:=as) B.nd;symm;refine⟨_,(Gr.app _ _).keep _ _ (g.keep _ _ hi),_,ae _ _,by rw[zy,zy];lk,?_⟩;rw[<- zf,<- ev];have p:(M'++[MO.lst ((a.vs.filter λ y=>!decide (y∈dr a.n as)).map D.str)]++[MO.lst ((dr a.n (as++[a])).map D.str)])[(M'++[MO.lst ((a.vs.filter λ y=>!decide (y∈dr a.n as)).map D.str)]).length]?=some (.lst ((dr a.n (as++[a])).map D.str)):=ae _ _;have r:Gr M (M'++[MO.lst ((a.vs.filter λ y=>!decide (y∈dr a.n as)).map D.str)]++[MO.lst ((dr a.n (as++[a])).map D.str)]):=((s.trans g).snoc _).snoc _;have x:c<(M'++[MO.lst ((a.vs.filter λ y=>!decide (y∈dr a.n as)).map D.str)]).length:=by
    rw[zx]
    have:=(s.trans g).len
    lk
   generalize M'++[MO.lst ((a.vs.filter λ y=>!decide (y∈dr a.n as)).map D.str)]++[MO.lst ((dr a.n (as++[a])).map D.str)]=M3 at p r ⊢;generalize (M'++[MO.lst ((a.vs.filter λ y=>!decide (y∈dr a.n as)).map D.str)]).length=iw at p x ⊢;exists _,p;symm;have lm:((dr a.n (as++[a])).map D.str).length=(dr a.n (as++[a])).length:=zy _;refine⟨λ z=>?_,λ z=>?_⟩
   ·have z:(3:Int)<(((dr a.n (as++[a])).map D.str).length:Int):=zzD z
    rw[zzA (show ¬ (dr a.n (as++[a])).length<=3 by lk)]at q;exact q _ (.of r) (λ z=>by cases z)
   ·have z:¬ (3:Int)<(((dr a.n (as++[a])).map D.str).length:Int):=zzE z
    rw[zzB (show (dr a.n (as++[a])).length<=3 by lk)]at q;let⟨v,w,u⟩:=(h.keep r).ex;exists _,w;symm;refine⟨by unfold tQ;rw[zy];lk,?_⟩;have G:c<M3.length:=(zz.mp w).1;rw[N1];refine q _ ((Gx.of r).trans (Gx.refl.set _)) λ _=>⟨λ m=>if m=a.n then iw else v m,?_,λ n b=>?_⟩
    ·rw[zJ G,qg]
    ·rw[qg]at b
     dsimp only;by_cases e:n=a.n
     ·rw[if_pos e,e]
      exact⟨x,by rw[zc (by lk)];exact p⟩
     ·rw[if_neg e,OP (λ z=>e z.symm)]
      have b:n∈gr as:=by
       unfold cR at b;split at b
       ·exact b
       ·exact(zQ.mp b).elim id λ z=>absurd (zB.mp z) e
      exact⟨(u n b).1,by rw[zc (by have:=(u n b).1;lk)];exact(u n b).2⟩
 rw[<- bt,jY 2 bt];generalize av 2 bt=tl at f ⊢;rwa[bt,dh,di];symm;exists _,j;symm;rw[T];by_cases e:a.n∈gr as
 ·rw[zzB e]
  rw[if_pos e]at F;symm;exact f (by lk)
 ·rw[zzA e]
  rw[if_neg e]at F;symm;exists _,j;symm;rw[U];refine⟨λ z=>?_,λ z=>?_⟩
  ·have z:=eq_of_beq z
   rw[zzA (show ¬ (cR (gr as) a.n).length<=4 by lk),zL]at q;exact q M .refl (λ z=>by cases z)
  ·have z:=ne_of_beq_false z
   exact f (by lk)
def Hm(ds:List Nat):(bo ds).isEmpty=decide (ds=[]):=by cases ds <;> rfl
def uT(k:Nat)(M:MH){i:Nat}{a b c d:D}(hi:6<=i){Q:D->MH->Prop}(h:W (aH (cx srt (k+2)) (av 4 bg) [some (.int i),some a,some b,some c,some d,none]) M (dN Q)) :
  W ((cx srt (k+3)).fn "_law_word_right" [.int i,a,b,c,d]) M Q:=by
 have j:((i:Int)==0)=false:=zzF.mpr (by lk);have e1:((i:Int)==1)=false:=zzF.mpr (by lk);have g:((i:Int)==2)=false:=zzF.mpr (by lk);have f:((i:Int)==5)=false:=zzF.mpr (by lk);have e:decide ((i:Int)<5)=false:=zzA (by lk);rw[aP "_law_word_right" 6 5 bg rfl,wf,jY 4 bg];generalize av 4 bg=tl at h ⊢;rwa[bg,dh,di];walk_at "wx";(try rwa[zY,false_implies,true_implies,true_and]);rw[j];refine sF rfl ?_;walk_at "wx";(try rwa[zY,false_implies,true_implies,true_and]);rw[e1];refine sF rfl ?_;walk_at "wx";(try rwa[zY,false_implies,true_implies,true_and]);rw[g];walk_at "wx";(try rwa[zY,false_implies,true_implies,true_and]);rw[f];refine sF rfl ?_;walk_at "wx";(try rwa[zY,false_implies,true_implies,true_and]);rw[e];refine sF rfl ?_;walk_at "wx";(try rwa[zY,false_implies,true_implies,true_and]);exact Eq.mp xS h
def MK(k:Nat)(M:MH){i j jw ja:Nat}{w:Str}{ws:List Str}(hi:6<=i)(hw:M[jw]?=some (.lst (ws.map .str)))(nd:ws.drop 6=[("-":Str)]){Q:D->MH->Prop}(q:∀M',Gr M M'->Q (.bl true) M') :
  W ((cx srt (k+3)).fn "_law_word_right" [.int i,.str w,.ob jw,.ob j,.ob ja]) M Q:=by
 have big:=aj;refine uT k M hi ?_;rwa[bg,bG,bH];symm;refine⟨_,hw,by lk,?_⟩;rw[gQ,gY _ (by decide),<- yV,show (6:Int).toNat=6 from rfl];refine⟨_,mj (xs:=ws.drop 6) (ys:=[("-":Str)]) ((Gr.app _ _).keep _ _ (ae _ _)) (ae _ _),show _/\_ from ⟨λ _=>?_,λ z=>absurd nd (zzE z)⟩⟩;symm;exact q _ ((Gr.app _ _).snoc _)
def OK(k:Nat)(M:MH){i j jw ja:Nat}{w:Str}{ws:List Str}{ds:List Nat}{as:List Ask}(hi:6<=i)(t:w.length<=2000)(hw:M[jw]?=some (.lst (ws.map .str)))(p:M[j]?=some (.lst (bo ds)))(nd:ws.drop 6≠[("-":Str)])(hd:ds≠[]->Dm M ja as)(q:ig as){Q:D->MH->Prop}
  (f:∀M',(10<=i\/∀a,¬ bW w a)->Gr M M'->Q (.bl false) M') (n:∀a M',bW w a->i<10->ds=[]->Gr M M'->Q (.bl true) M') (m:∀a M',bW w a->i<10->ds≠[]->Gx ja M M'->(eP as a=true->Dm M' ja (as++[a]))->Q (.bl (eP as a)) M') :
  W ((cx srt (k+3)).fn "_law_word_right" [.int i,.str w,.ob jw,.ob j,.ob ja]) M Q:=by
 have big:=aj;refine uT k M hi ?_;rwa[bg,bG,bH];ac_rfl;refine⟨_,hw,by lk,?_⟩;rw[gQ,gY _ (by decide),<- yV,show (6:Int).toNat=6 from rfl];exists _,mj (xs:=ws.drop 6) (ys:=[("-":Str)]) ((Gr.app _ _).keep _ _ (ae _ _)) (ae _ _);refine sF (zzA nd) ?_;have e:Gr M (M++[MO.lst ((ws.drop 6).map D.str)]++[MO.lst [D.str (Str.ofString "-")]]):=(Gr.app _ _).snoc _;generalize M++[MO.lst ((ws.drop 6).map D.str)]++[MO.lst [D.str (Str.ofString "-")]]=M1 at e ⊢;symm;refine Dz k M1 w t (λ a h c d=>?_) (λ h c d=>?_)
 ·have gg:=e.trans d
  symm;refine⟨rfl,λ _=>?_,λ z=>(by cases z)⟩;by_cases g:i<10
  ·rw[zzB (show (i:Int)<10 by lk)]
   symm;refine⟨by lk,?_⟩;have l:=(Gr.app h [MO.lst []]).keep _ _ (gg.keep _ _ p);rw[gQ,kP l (ae _ _),Hm];exists _,rfl;by_cases b:ds=[]
   ·rw[zzB b]
    symm;exact OC (k+1) _ a (n a _ c g b (gg.snoc _))
   ·rw[zzA b]
    symm;refine TV (k+1) _ a ((hd b).keep (gg.snoc _)) q c.1 λ u r s=>?_;exact m a u c g b ((Gx.of (gg.snoc _)).trans r) s
  ·rw[zzA (show ¬ (i:Int)<10 by lk)]
   symm;exact f _ (.inl (by lk)) gg
 ·symm
  exact⟨rfl,λ z=>(by cases z),λ _=>f _ (.inr c) (e.trans d)⟩
abbrev jX:aD:=match av 2 cg with
 |.cons (.forP _ _ _ b) _=>b
 |_=>.nil
abbrev uG:aD:=match av 1 jX with
 |.cons (.forP _ _ _ b) _=>b
 |_=>.nil
def N9(k:Nat)(M:MH){num j jw ja n:Nat}{ds:List Nat}{as xs:List Ask}{ws:List Str}{x0 x4 x6 x7:Option D}(a:uo ds ws n)(g:Gp (decide (num=0)) as (ws.drop 6) xs)(S:ig as)(hz:ds=[] ↔ num=0)(hl:ds.length<=20)(Z:Short 2000 ws)
  (hj:M[j]?=some (.lst (bo ds))) (hw:M[jw]?=some (.lst (ws.map .str))) (hd:Dm M ja as) (X:j≠ja) (N:jw≠ja) {F:Fl->MH->Prop}
  (I:∀f M',f<ws.length->(f=n/\n<6)\/(n=6/\ws.drop 6≠[("-":Str)]/\f=6+xs.length)->Gx ja M M'->F (.rt (.tup [.int num,.int f])) M')
  (H:∀x v M',(ws.length<=6/\n=ws.length)\/(n=6/\7<=ws.length/\(ws.drop 6=[("-":Str)]\/xs.length=(ws.drop 6).length))->Gx ja M M'->Dm M' ja (as++if num=0 then [] else xs)->F (.nx [x0,some (.ob j),some (.ob ja),some (.int num),x4,some (.ob jw),x,v]) M') :
  W (dg (some (jw,ws.map .str)) 6 7 (aH (cx srt (k+3)) uG) (gX (ws.map .str)) [x0,some (.ob j),some (.ob ja),some (.int num),x4,some (.ob jw),x6,x7]) M F:=by
 have big:=aj;have l6:=a.l6;have ll:=a.ll;have l4:=g.l4;have Y:=g.ll;rw[yr]at Y;refine lV (λ m ρ M'=>Gx ja M M'/\((m<=6->m<=n)/\(6<m->n=6/\(ws.drop 6=[("-":Str)]\/m<=6+xs.length)))/\Dm M' ja (as++if num=0 then [] else xs.take (m-6))/\∃x v,ρ=[x0,some (.ob j),some (.ob ja),some (.int num),x4,some (.ob jw),x,v])
  ⟨.refl,⟨λ _=>zW _,λ z=>absurd z (yU _)⟩,by simpa using hd,_,_,rfl⟩ (λ _ _ _ h=>h.1.keep _ _ N hw) ?_ ?_
 ·rintro m d ρ M' hx ⟨p,⟨C,B⟩,i,x,v,rfl⟩
  let⟨y,Q,rfl⟩:=pf hx;rw[zm]at Q;let⟨w,A,rfl⟩:=zp.mp Q;have J:m<ws.length:=(zz.mp A).1;have P:=Z w (zl A);have U:=p.keep _ _ X hj;have T:=p.keep _ _ N hw;exists _,_,rfl;rwa[uG,jX,cg,bG,bH,av];ac_rfl;by_cases t:m<6
  ·refine BD k M' t U hl w P λ s l=>?_
   ac_rfl;by_cases R:m<n
   ·refine sF (by rw[a.ok m w R A];rfl) ?_
    symm;refine⟨p.trans (.of l),⟨λ _=>R,λ z=>by lk⟩,?_,_,_,rfl⟩;rw[show m+1-6=m-6 by lk];exact i.keep l
   ·obtain rfl:m=n:=by have:=C (by lk);lk
    refine sT (by rw[a.no t w A];rfl) ?_;symm;exact⟨by lk,I m s J (.inl ⟨rfl,t⟩) (p.trans (.of l))⟩
  ·have r:n=6:=by
    by_cases e:m=6
    ·have:=C (by lk)
     lk
    ·exact(B (by lk)).1
   have hu:(ws.drop 6)[m-6]?=some w:=by rw[xq,show 6+(m-6)=m by lk];exact A
   by_cases nd:ws.drop 6=[("-":Str)]
   ·have xe:xs=[]:=by rw[nd]at g;exact oV g
    refine MK k M' (by lk) T nd λ s l=>?_;ac_rfl;refine sF rfl ?_;symm;refine⟨p.trans (.of l),⟨λ z=>by lk,λ _=>⟨r,.inl nd⟩⟩,?_,_,_,rfl⟩;rw[xe,wK]at i ⊢;exact i.keep l
   ·have O:m-6<=xs.length:=by
     by_cases e:m=6
     ·lk
     ·have:=(B (by lk)).2.resolve_left nd
      lk
    have aA:ig (as++if num=0 then [] else xs.take (m-6)):=by
     by_cases e:num=0
     ·rw[if_pos e,zO];exact S
     ·rw[if_neg e];exact g.lH (zzA e) S _ O
    refine OK k M' (by lk) P T U nd (λ _=>i) aA (λ s q l=>?_) (λ b s q Mi L l=>?_) (λ b s q Mi L l G=>?_)
    ·have e:m=6+xs.length:=by
      refine vf (by lk) (yP λ z=>?_);obtain⟨c,hc⟩:∃c,xs[m-6]?=some c:=⟨_,zu (by lk)⟩;let⟨V,E,K⟩:=g.ok _ c hc;rw[hu]at E;cases E;rcases q with q|q
      ·lk
      ·exact q c K
     ac_rfl;refine sT rfl ?_;symm;exact⟨by lk,I m s J (.inr ⟨r,nd,e⟩) (p.trans (.of l))⟩
    ·have u:=hz.mp L
     have e:m-6<xs.length:=Nat.lt_of_le_of_ne O λ z=>by
      rw[z]at hu;rcases g.no w hu with c|c|⟨c,_⟩
      ·lk
      ·exact c b q
      ·rw[zzB u]at c;cases c
     ac_rfl;refine sF rfl ?_;symm;refine⟨p.trans (.of l),⟨λ z=>by lk,λ _=>⟨r,.inr (by lk)⟩⟩,?_,_,_,rfl⟩;rw[if_pos u]at i ⊢;exact i.keep l
    ·have u:¬ num=0:=λ z=>L (hz.mpr z)
     rw[if_neg u]at i G ⊢;by_cases e:m-6<xs.length
     ·obtain⟨c,hc⟩:∃c,xs[m-6]?=some c:=⟨_,zu e⟩
      let⟨V,E,K⟩:=g.ok _ c hc;rw[hu]at E;cases E;obtain rfl:=iL q K;have ft:=g.ft (zzA u) _ b hc;ac_rfl;refine sF (by rw[ft];rfl) ?_;symm;refine⟨p.trans l,⟨λ z=>by lk,λ _=>⟨r,.inr (by lk)⟩⟩,?_,_,_,rfl⟩;have G:=G ft;rw[zU]at G;rw[if_neg u,show m+1-6=m-6+1 by lk,xf,hc];exact G
     ·have e:m-6=xs.length:=by lk
      have ff:eP (as++xs.take (m-6)) b=false:=by
       rw[e]at hu ⊢;rw[zM];rcases g.no w hu with c|c|⟨_,b',c1,c2⟩
       ·lk
       ·exact absurd q (c b)
       ·rw[iL q c1];exact c2
      ac_rfl;refine sT (by rw[ff];rfl) ?_;symm;exact⟨by lk,I m s J (.inr ⟨r,nd,by lk⟩) (p.trans l)⟩
 ·rintro ρ M' ⟨p,⟨C,B⟩,i,x,v,rfl⟩
  rw[rE,zy]at C B i;by_cases t:ws.length<=6
  ·have e:=C t
   have xe:xs=[]:=yW.mp (by lk);refine H _ _ _ (.inl ⟨t,by lk⟩) p ?_;rw[xe,wK]at i;rw[xe];exact i
  ·let⟨r,e⟩:=B (by lk)
   rcases e with nd|e
   ·have xe:xs=[]:=by rw[nd]at g;exact oV g
    refine H _ _ _ (.inr ⟨r,by lk,.inl nd⟩) p ?_;rw[xe,wK]at i;rw[xe];exact i
   ·refine H _ _ _ (.inr ⟨r,by lk,.inr (by rw[yr];lk)⟩) p ?_
    rw[yM (by lk)]at i;exact i
def Mj(g:Gr M a)(x:Gx ja a M2)(h:M.length<=ja):Gr M M2:=⟨λ i o e=>x.keep i o (by have:=(zz.mp e).1;lk) (g.keep i o e),zG g.len x.len⟩
structure Fi (Ls:List (List Str)) (xss:List (List Ask)) (M:MH) (j m:Nat) (ρ:Ev) (M':MH):Prop where
 g:Gr M M'
 d:M'[M.length]?=some (.lst (bo (cU (Ls.take m))))
 a:Dm M' (M.length+1) (gE (xss.take m))
 e:∃x3 x4 x5 x6 x7,ρ=[some (.ob j),some (.ob M.length),some (.ob (M.length+1)),x3,x4,x5,x6,x7]
def Om{a:List (List Str)}{m:Nat}(h:m<a.length):cU (a.take m)=[] ↔ m=0:=by
 unfold cU;rw[xI,List.take_eq_nil_iff];constructor
 ·rintro (z|z)
  ·exact z
  ·rw[z]at h;cases h
 ·exact λ z=>.inl z
def Og(k:Nat)(G:Good d b)(K:t.length<=2000)(hw:d[m]?=some (ax t (sg 32)))(N:m<=b.length)(I:Fi d b M j m ρ M')
  (a:uo (cU (d.take m)) (ax t (sg 32)) n) (g:Gp (decide (m=0)) (gE (b.take m)) ((ax t (sg 32)).drop 6) xs) 
  (y:∀f c,oz (cU (d.take m)) m (gE (b.take m)) (ax t (sg 32)) f->Gr M c->F (.rt (.tup [.int m,.int f])) c)
  (H:∀e c,eQ (cU (d.take m)) m (gE (b.take m)) (ax t (sg 32)) xs->Gr M c->c[M.length]?=some (.lst (bo (cU (d.take (m+1)))))->Dm c (M.length+1) (gE (b.take m)++if m=0 then [] else xs)->(∃x3 x4 x5 x6 x7,e=[some (.ob j),some (.ob M.length),some (.ob (M.length+1)),x3,x4,x5,x6,x7])->F (.nx e) c) :
  W (aH (cx srt (k+3)) jX ((ρ.set 3 (some (.int m))).set 4 (some (.str t)))) M' F:=by
 have big:=aj;let⟨Q,hd,A,x3,x4,x5,x6,x7,rfl⟩:=I;have gu:=G.gu;let⟨lH,al⟩:=G.lH m N;have sl:=split_len t 32;have L:Short 2000 (ax t (sg 32)):=λ u hu=>zG (gm hu) K;have C:m<d.length:=(zz.mp hw).1;have U:=(zz.mp hw).2;have VT:(cU (d.take m)).length=m:=by unfold cU;rw[zy,zS];lk
 have cm:M.length+1<M'.length:=by
  let⟨v,P,_⟩:=A.ex;exact(zz.mp P).1
 have z:=λ {M:MH} {jw ja j:Nat} {x0 x4 x6 x7:Option D} {F:Fl->MH->Prop}=>N9 (srt:=srt) k M (num:=m) (jw:=jw) (ja:=ja) (j:=j) (x0:=x0) (x4:=x4) (x6:=x6) (x7:=x7) (F:=F) a g lH (Om C) (by lk) L;have ef:jX=fq 1 jX (.cons (.forP 6 7 (.enum (.var 5)) uG) (av 2 jX)):=rfl;rw[ef];generalize uG=ib at z ⊢;rwa[jX,cg,bG,bH,av,dh,di];symm;rw[blank];generalize ax t (sg 32)=ws at *;refine⟨⟨by decide,by lk,by lk⟩,_,ae _ _,?_⟩;have h:Gr M' (M'++[MO.lst (ws.map D.str)]):=Gr.app _ _;have w:(M'++[MO.lst (ws.map D.str)])[M'.length]?=some (.lst (ws.map D.str)):=ae _ _;generalize M'++[MO.lst (ws.map D.str)]=M4 at h w ⊢;have B:=Q.trans h;refine z (h.keep _ _ hd) w (A.keep h) (by lk) (by lk) (λ f c hf hc i=>?_) (λ X V c hc i S=>?_)
 ·refine y f c ?_ (Mj B i (by lk))
  rcases hc with ⟨rfl,O⟩|⟨rfl,nd,rfl⟩
  ·exact .ahead a (.inl O)
  ·refine .asks a (by lk) g nd ?_
   rw[yr];lk
 ·have l:=i.keep _ _ (by lk) w
  have s:=i.keep _ _ (by lk) (h.keep _ _ hd);have gg:=Mj B i (by lk);ac_rfl;exists _,l;ac_rfl;rcases hc with ⟨c1,p⟩|⟨rfl,p,c3⟩
  ·refine sT (zzB (by rw[zy];lk)) ?_
   symm;exists _,l;symm;refine⟨by lk,?_⟩;rw[zy];refine y ws.length c ?_ gg;rw[<- p];exact .ahead a (by lk)
  ·refine sF (zzA (by rw[zy];lk)) ?_
   have x:eQ (cU (d.take m)) m (gE (b.take m)) ws xs:=⟨a,p,g,c3⟩;have R:ws.map D.str=.str (wd ws 0)::(ws.drop 1).map .str:=by
    let⟨w0,w1,w2,w3,Z,Y,us,rfl⟩:=k6 p;rfl
   have E:=x.dep;rw[Ie,zt,zzC]at E;have ef:=(sS E.1).2.2.2;rw[R]at l;symm;exists _,s,_,l;symm;rw[ef];refine⟨_,s,by rw[cI];lk,?_⟩;have J:M.length<c.length:=(zz.mp s).1;refine H _ _ x (gg.set (zq _) _) ?_ ?_ ⟨_,_,_,_,_,rfl⟩
   ·rw[zJ J,zH C,U]
    unfold bo cU;rw[zf,zf];rfl
   ·let⟨v,T,r⟩:=S.ex
    exact⟨v,by rw[zc (by lk)];exact T,λ n q=>⟨(r n q).1,by rw[zc (by have:=(r n q).1;lk)];exact(r n q).2⟩⟩
def Oh(k:Nat)(M:MH)(L:Short 2000 ts)(w:M[j]?=some (.lst (ts.map .str))) 
  (K:∀M',ts=[]->Gr M M'->Q (.tup [.int 0,.int 0]) M')
  (J:∀xss ws f M',Good (b9 ts) xss->(b9 ts)[xss.length]?=some ws->oz (cU ((b9 ts).take xss.length)) xss.length (gE xss) ws f->Gr M M'->Q (.tup [.int xss.length,.int f]) M')
  (H:∀xss M',Good (b9 ts) xss->xss.length=(b9 ts).length->ts≠[]->Gr M M'->Q .non M'):W ((cx srt (k+4)).fn "_law_fault" [.ob j]) M Q:=by
 have big:=aj;have ll:(b9 ts).length=ts.length:=by unfold b9;rw[zy]
 have step:=λ {xss:List (List Ask)} {M':MH} {m n:Nat} {ρ:Ev} {t:Str} {xs:List Ask} {F:Fl->MH->Prop} (G:Good (b9 ts) xss)=>Og (srt:=srt) k G (M:=M) (M':=M') (j:=j) (m:=m) (n:=n) (ρ:=ρ) (t:=t) (xs:=xs) (F:=F);rw[aP "_law_fault" 8 1 cg rfl,wf];have N:cg=fq 2 cg (.cons (.forP 3 4 (.enum (.var 0)) jX) (av 3 cg)):=rfl;rw[N];generalize jX=tb at step ⊢;rwa[cg,dh,di,bG,bH];ac_rfl;refine⟨by lk,_,((Gr.app _ _).snoc _).keep _ _ w,?_⟩;have s:(M++[MO.lst []]).length=M.length+1:=by rw[zx];rfl
 rw[s];refine lV (λ m ρ M'=>∃xss,Good (b9 ts) xss/\xss.length=m/\Fi (b9 ts) xss M j m ρ M') ⟨[],⟨zW _,λ i ws xs _ h=>nomatch h⟩,rfl,(Gr.app _ _).snoc _,(Gr.app _ _).keep _ _ (ae _ _),⟨λ _=>0,by rw[<- s];exact ae _ _,λ n h=>nomatch h⟩,_,_,_,_,_,rfl⟩ (λ _ _ _ ⟨_,_,_,h⟩=>h.g.keep _ _ w) ?_ ?_
 ·rintro m d ρ M' hd ⟨xss,G,hx,I⟩
  let⟨y,u,rfl⟩:=pf hd;rw[zm]at u;let⟨t,v,rfl⟩:=zp.mp u;have hw:(b9 ts)[m]?=some (ax t (sg 32)):=by unfold b9;rw[zm,v];rfl
  let⟨n,a⟩:=RS (cU ((b9 ts).take m)) (ax t (sg 32));let⟨xs,g⟩:=Fv (decide (m=0)) (gE (xss.take m)) ((ax t (sg 32)).drop 6);have x:xss.take m=xss:=by rw[<- hx,zM]
  exists _,_,rfl;refine step G (L t (zl v)) hw (by lk) I a g (λ f B r gg=>?_) (λ C B r gg p q l=>?_)
  ·rw[x,<- hx]at r
   rw[<- hx]at hw ⊢;exact J xss _ f B G hw r gg
  ·have O:Good (b9 ts) (xss++[xs]):=by
    refine⟨by rw[zx,hx];exact(zz.mp hw).1,λ i ws E c b=>?_⟩;by_cases hi:i<xss.length
    ·rw[zK hi]at b
     rw[yX (by lk)];exact G.row i ws E c b
    ·have:=(zz.mp b).1
     rw[zx]at this;obtain rfl:i=xss.length:=by rwa[zj,zT]at this;lk
     rw[zA (zq _),yc]at b;cases b;rw[hx,hw]at c;cases c;rw[xc,hx,<- x];exact r
   refine⟨xss++[xs],O,by rw[zx,hx];rfl,gg,p,?_,l⟩;have e1:(xss++[xs])[m]?=some xs:=by rw[<- hx,zA (zq _),yc];rfl
   rw[qq e1,yX (by lk)];exact q
 ·rintro ρ M' ⟨xss,G,hx,g,hd,V,U,T,S,R,P,rfl⟩
  rw[rE,zy,<- ll]at hx hd;rw[zM]at hd;ac_rfl;refine⟨by lk,?_⟩;rw[gQ,kP ((Gr.app _ _).keep _ _ hd) (ae _ _),Hm];exists _,rfl;have A:cU (b9 ts)=[] ↔ ts=[]:=by unfold cU b9;rw[xI,xI]
  by_cases e:ts=[]
  ·refine sT (zzB (A.mpr e)) ?_
   symm;exact⟨by lk,K _ e (g.snoc _)⟩
  ·refine sF (zzA λ z=>e (A.mp z)) ?_
   symm;exact H xss _ G hx e (g.snoc _)
end
end Law
namespace L3
open PySem
section
variable {Γ:Ctx}{ρ:Ev}{M:MH}{F:Fl->MH->Prop}
def MP{c:Ev->Mo Bool}{body:Ev->Mo Fl}(I:Nat->Ev->MH->Prop)
  (l:∀n ρ M,I n ρ M->W (c ρ) M λ b i=>(b=true->∃m,n=m+1/\W (body ρ) i λ f d=>match f with|.nx a=>I m a d|.ct a=>I m a d|.bk a=>F (.nx a) d|.rt v=>F (.rt v) d)/\(b=false->F (.nx ρ) i)) :
  ∀(n:Nat) (ρ:Ev) (M:MH),I n ρ M->W (eK c body (n+1) ρ) M F:=by
 intro n;induction n with
 |zero =>
  intro ρ M j;unfold eK;rw[aF];refine(l 0 ρ M j).mono λ b i h=>?_;cases b with
  |false=>rw[if_neg zn];exact(aE _ _ _).mpr (h.2 rfl)
  |true=>let⟨m,e,_⟩:=h.1 rfl;cases e
 |succ n k =>
  intro ρ M j;unfold eK;rw[aF];refine(l _ ρ M j).mono λ b i h=>?_;cases b with
  |false=>rw[if_neg zn];exact(aE _ _ _).mpr (h.2 rfl)
  |true =>
   let⟨m,e,hw⟩:=h.1 rfl;cases e;rw[if_pos rfl,aF];refine hw.mono λ f d g=>?_;cases f with
   |nx a=>exact k a d g
   |ct a=>exact k a d g
   |bk a=>exact(aE _ _ _).mpr g
   |rt v=>exact(aE _ _ _).mpr g
end
end L3
namespace Law
open PySem L3
section
variable {srt:List D->Option (List D)}
def He(k:Nat)(M:MH)(w:Str)(hw:w.length<=2000)(q:∀M',Gr M M'->Q (.tup ((gT w).map .str)) M'):W ((cx srt (k+1)).fn "_law_list" [.str w]) M Q:=by
 have big:=aj;rw[aP "_law_list" 1 1 iX rfl,wf,iX];ac_rfl;rw[sU];unfold gT at q;by_cases e:w = "-"
 ·refine sT (zzB e) ?_
  rw[if_pos e]at q;symm;exact⟨by lk,q _ Gr.refl⟩
 ·refine sF (zzA e) ?_
  rw[if_neg e]at q;have l:=split_len w 44;symm;rw[comma];exact⟨⟨by decide,by lk,by lk⟩,_,ae _ _,q _ (Gr.app _ _)⟩
structure Lo (M:MH) (jl:Nat) (Ls:List (List Str)):Prop where
 ex:∃js:List Nat,js.length=Ls.length/\M[jl]?=some (.lst (js.map .ob))/\∀(i jx:Nat) (ws:List Str),js[i]?=some jx->Ls[i]?=some ws->M[jx]?=some (MO.lst (ws.map .str))
def Lo.keep(h:Lo M jl Ls)(g:Gr M M'):Lo M' jl Ls:=let ⟨e,a,b,c⟩:=h.ex;⟨e,a,g.keep _ _ b,λ i d ws j f=>g.keep _ _ (c i d ws j f)⟩
def Lo.at{M:MH}{jl:Nat}{d:List (List Str)}(h:Lo M jl d){i:Nat}{ws:List Str}(hw:d[i]?=some ws):∃(ds:List D) (f:Nat),M[jl]?=some (.lst ds)/\ds.length=d.length/\de ds (i:Int)=some (.ob f)/\M[f]?=some (.lst (ws.map .str)):=by
 let⟨g,a,b,c⟩:=h.ex;have hi:i<g.length:=by rw[a];exact(zz.mp hw).1
 have e:=zu hi;exact⟨_,_,b,by rw[zy,a],bN (by rw[zm,e];rfl),c i _ ws e hw⟩
def eQ.head(r:eQ ds num as ws xs):ws.map D.str=.str (wd ws 0)::.str (wd ws 1)::.str (wd ws 2)::.str (wd ws 3)::.str (wd ws 4)::.str (wd ws 5)::(ws.drop 6).map .str:=by
 let⟨f,e,d,c,b,a,g,rfl⟩:=k6 r.l;rfl
def eQ.nums(r:eQ ds num as ws xs):gk (wd ws 3)=true/\gk (wd ws 4)=true:=by
 let⟨g,f,e,c,b,d,h,rfl⟩:=k6 r.l;exact⟨r.a.ok 3 c (by decide) rfl,r.a.ok 4 b (by decide) rfl⟩
abbrev ph:aD:=av 4 cj
def Ol(k:Nat)(M:MH){i jl u num:Nat}{ds:List Nat}{as xs:List Ask}{O:List (List Str)}{ws:List Str}{H:List D}{x2 x4:Option D}(L:Lo M jl O)(hw:O[i]?=some ws)(r:eQ ds num as ws xs)(v:Short 2000 ws)(hb:M[u]?=some (.lst H))
  {Q:D->MH->Prop} (q:∀M',Gr M M'->Q (node (e8 ws xs) H) M'):V (bu (cx srt (k+2)) ph [some (.ob jl),some (.int i),x2,some (.ob u),x4,none,none,none]) M (dN Q):=by
 have big:=aj;let⟨dl,U,h1,h2,h3,C⟩:=L.at hw;have Z:=r.head;let⟨T,S⟩:=r.nums;have Y:=oP T;have X:=oP S;have R:(wd ws 2).length<=2000:=v _ (by unfold wd;rw[yo];have:=r.l;rw[zu (by lk)];exact yE _);have P:(wd ws 5).length<=2000:=v _ (by unfold wd;rw[yo];have:=r.l;rw[zu (by lk)];exact yE _);have l4:=r.g.l4;have j:∀c,Gr M c->V (bu (cx srt (k+2)) (av 7 cj) [some (.ob jl),some (.int i),x2,some (.ob u),x4,some (.ob U),some (.tup (xs.map bq)),none]) c (dN Q):=λ c f=>by
  have p:=f.keep _ _ C;rw[Z]at p;rwa[cj,bG,bH];symm;exists _,p;symm;exists _,p;symm;refine He (k+1) c (wd ws 2) R λ E n=>?_;have F:=n.keep _ _ p;symm;exists _,F;symm;exists _,Y,_,F;symm;exists _,X,_,F;symm;refine He (k+1) E (wd ws 5) P λ N t=>?_;have gg:=f.trans (n.trans t);symm;refine⟨by lk,_,gg.keep _ _ hb,by lk,by lk,?_⟩;exact q _ gg
 have ed:ph=fq 3 ph (av 7 cj):=rfl;rw[ed];generalize av 7 cj=tl at j ⊢;rwa[ph,cj,bG,bH,dh,di];ac_rfl;exists _,h1;ac_rfl;refine⟨_,h3,by lk,?_⟩;ac_rfl;refine⟨_,C,by lk,?_⟩;have eN:∀{M:MH} {x y:D} {B:Bool->MH->Prop},W (cq .NotEq x y) M B=∃b,cD M 20 x y=some b/\B (!b) M:=JI;rw[eN,gY _ (by decide),<- yV,show (6:Int).toNat=6 from rfl];exists _,mj (xs:=ws.drop 6) (ys:=[("-":Str)]) ((Gr.app _ _).keep _ _ (ae _ _)) (ae _ _);have f:Gr M (M++[MO.lst ((ws.drop 6).map D.str)]++[MO.lst [D.str (Str.ofString "-")]]):=(Gr.app _ _).snoc _;generalize M++[MO.lst ((ws.drop 6).map D.str)]++[MO.lst [D.str (Str.ofString "-")]]=c at f ⊢;by_cases nd:ws.drop 6=[("-":Str)]
 ·have xe:xs=[]:=by have:=r.g;rw[nd]at this;exact oV this
  refine sF (by rw[zzB nd];rfl) ?_;ac_rfl
  have:=j c f
  rw[xe]at this;exact this
 ·have G:=r.ok.resolve_left nd
  refine sT (by rw[zzA nd];rfl) ?_;ac_rfl;have ZI:=f.keep _ _ C;exists _,ZI;rw[gY _ (by decide),<- yV,show (6:Int).toNat=6 from rfl];have n:Gr c (c++[MO.lst ((ws.drop 6).map D.str)]):=Gr.app _ _;have s:(c++[MO.lst ((ws.drop 6).map D.str)])[c.length]?=some (.lst ((ws.drop 6).map D.str)):=ae _ _;generalize c++[MO.lst ((ws.drop 6).map D.str)]=E at n s ⊢;generalize c.length=ju at s ⊢;refine⟨_,s,by rw[zy];lk,?_⟩;refine bJ (λ m ys M'=>Gr E M'/\ys=(xs.take m).map bq) ⟨Gr.refl,rfl⟩ (λ _ _ _ h=>h.1.keep _ _ s) ?_ ?_
  ·rintro m d ys M' hd ⟨g,rfl⟩
   rw[zm]at hd;let⟨w,e,rfl⟩:=zp.mp hd;have I:m<xs.length:=by rw[G];exact(zz.mp e).1
   let⟨w',K,J⟩:=r.g.ok m _ (zu I);rw[e]at K;cases K;symm;refine Dz k M' w (v w (yb (zl e))) (λ a N A t=>?_) (λ N z t=>absurd J (z _));rw[iL A J,zH I,zf];exact⟨g.trans t,rfl⟩
  ·rintro ys M' ⟨g,rfl⟩
   rw[zy,<- G,zM];ac_rfl;exists _,ae _ _;exact j _ ((f.trans (n.trans g)).snoc _)
def Sj(k:Nat):(cx srt (k+1)).wh=999+1:=rfl
def TL(G:Good f a)(hx:a.length=f.length)(Z:∀ws∈f,Short 2000 ws):∀(r K i:Nat) (M:MH) (ws:List Str) (xs:List Ask) (Q:D->MH->Prop),i+r=f.length->r+3<=K->Lo M jl f->f[i]?=some ws->a[i]?=some xs ->
  (∀M',Gr M M'->Q (node (e8 ws xs) (col (dv (wd ws 0)+1) ((ent f a).drop (i+1)))) M')->W ((cx srt K).fn "_law_due" [.ob jl,.int i]) M Q:=by
 intro r;induction r using Nat.strongRecOn with
 |ind r Y =>
  intro K i M ws xs Q hir hK L hw P q;have big:=aj;have gu:=G.gu;have lE:=ml G;obtain⟨K,rfl⟩:∃K0,K=K0+3:=⟨K-3,by lk⟩;have w:=G.row i ws xs hw P;have hi:i<f.length:=(zz.mp hw).1;let⟨dl,jx,h1,h2,h3,F⟩:=L.at hw;have hh:=w.head;rw[hh]at F;have tail:=λ {M':MH} {T:Nat} {R:List D} {x2 x4:Option D} (m:Lo M' jl f) (k:M'[T]?=some (.lst R))=>Ol (srt:=srt) K M' (x2:=x2) (x4:=x4) (Q:=Q) m hw w (Z ws (zl hw)) k;rw[aP "_law_due" 8 2 cj rfl,wf];have eb:cj=fq 4 cj ph:=rfl;rw[eb];generalize ph=tl at tail ⊢;rwa[cj,dh,di];symm;exists _,h1;symm;exists _,h3;symm;exists _,F;symm;refine⟨_,sR w.dep,by lk,?_⟩;generalize hd:dv (wd ws 0)=d at q;have H:Gr M (M++[MO.lst []]):=Gr.app _ _;have I:(M++[MO.lst []])[M.length]?=some (.lst []):=ae _ _;generalize M++[MO.lst []]=M1 at H I ⊢;rw[Sj];refine MP (λ c ρ M'=>Gr M M'/\∃(b:Nat) (bl:List D),i<b/\b<=f.length/\c+b=999+(i+1)/\M'[M.length]?=some (.lst bl)/\bl.length<=b/\bl++col (d+1) ((ent f a).drop b)=col (d+1) ((ent f a).drop (i+1))/\ρ=[some (.ob jl),some (.int i),some (.int d),some (.ob M.length),some (.int b),none,none,none]) ?_ 999 _ _
   ⟨H,i+1,[],by lk,by lk,rfl,I,zW _,rfl,rfl⟩
  rintro c ρ M' ⟨g,b,bl,k1,k2,k3,k,lb,hc,rfl⟩;have m:=L.keep g;have t:col (d+1) ((ent f a).drop b)=[]->∀u,Gr M' u->V (bu (cx srt (K+2)) tl [some (.ob jl),some (.int i),some (.int d),some (.ob M.length),some (.int b),none,none,none]) u (dN Q):=λ e u l=>by
   rw[e,zO]at hc;refine tail (m.keep l) (l.keep _ _ k) λ M3 g3=>?_;rw[hc];exact q _ (g.trans (l.trans g3))
  let⟨x,X,U,j3⟩:=m.ex;symm;exists _,U;symm;have lm:(x.map D.ob).length=f.length:=by rw[zy,X]
  refine⟨λ n=>?_,λ n=>?_⟩
  ·have n:(b:Int)<((x.map D.ob).length:Int):=zzD n
   have hk:b<f.length:=by lk
   let⟨h,p,v,C,s⟩:=G.at (i:=b) (by lk);let⟨dl',S,N,a2,J,B⟩:=m.at v;rw[s.head]at B;have ee:=sP v C;have A:(ent f a).drop b=(dv (wd h 0),e8 h p)::(ent f a).drop (b+1):=by
    let⟨hq,e⟩:=zz.mp ee;rw[yt hq,e]
   have j:=sR s.dep;generalize O:dv (wd h 0)=d' at A j;exists _,N;symm;exists _,J;symm;exists _,B;symm;exists _,j;symm;refine⟨λ z=>?_,λ z=>?_⟩
   ·have z:=zzD z
    have z:d<d':=by lk
    refine⟨c-1,by lk,?_⟩;symm;exists _,N;symm;exists _,J;symm;exists _,B;symm;exists _,j;symm;rw[A,col,if_neg (by lk)]at hc;refine⟨λ y=>?_,λ y=>?_⟩
    ·have y:d'=d+1:=by have:=eq_of_beq y;lk
     subst y;rw[if_pos rfl]at hc;exists _,k;refine Y (f.length-b) (by lk) (K+2) b M' h p _ (by lk) (by lk) m v C λ u l=>?_;have E:=l.keep _ _ k;symm;refine⟨_,E,by lk,?_⟩;refine⟨(g.trans l).set (zq _) _,b+1,_,by lk,by lk,by lk,lX E,?_,?_,rfl⟩
     ·rw[zx]
      show _+1<=_;lk
     ·rw[<- hc,zU,O]
      rfl
    ·have y:d'≠d+1:=by have:=ne_of_beq_false y;lk
     rw[if_neg y]at hc;exact⟨g,b+1,bl,by lk,by lk,by lk,k,by lk,hc,rfl⟩
   ·have z:=zzE z
    refine t ?_ _ Gr.refl;rw[A,col,if_pos (by lk)]
  ·have n:¬ (b:Int)<((x.map D.ob).length:Int):=zzE n
   refine t ?_ _ Gr.refl;rw[wm (by lk)];rfl
end
open PySem L3 PyProof
section
def MV(ts:List Str):(tupleText ts).length<=piled ts+3:=by
 unfold tupleText;rw[len_app,len_app];have e1:((("(":String):Str)).length=1:=rfl;have a:(((if ts.length==1 then ",)" else ")":String):Str)).length<=2:=by split <;> decide
 have b:(Str.join ", " ts).length<=piled ts:=by
  by_cases h:ts=[]
  ·subst h;decide
  ·have:=join_length_add ts h;lk
 lk
abbrev Sh(B k:Nat)(d:D):Prop:=∃x:PyData,(∀(M:MH) (n:Nat),toPy M (n+k) d=some x)/\x.showable=true/\x.shown.length<=B/\x.depth<=k
abbrev kU(S k:Nat)(ds:List D):Prop:=∃a:List PyData,(∀(M:MH) (n:Nat),gJ M (n+k) ds=some a)/\PyData.showableAll a=true/\piled (PyData.shownAll a)<=S/\PyData.depthAll a<=k
def Sh.up(h:Sh B k d)(b:B<=B')(a:k<=k'):Sh B' k' d:=by
 let⟨x,g,f,e,c⟩:=h;refine⟨x,λ M n=>?_,f,zG e b,zG c a⟩
 have:=g M (n+(k'-k))
 rw[show n+(k'-k)+k=n+k' by lk]at this;exact this
def kc:kU 0 k []:=⟨[],λ M n=>by rw[gJ],rfl,zq _,zW _⟩
def cN{B S k:Nat}{d:D}{ds:List D}(h:Sh B k d)(b:kU S k ds):kU (B+2+S) k (d::ds):=by
 let⟨x,e,c,j,i⟩:=h;let⟨a,g,f,m,l⟩:=b;refine⟨x::a,λ M n=>by rw[gJ,e,g],by rw[PyData.showableAll,c,f];rfl,?_,?_⟩
 ·rw[PyData.shownAll,piled_cons];lk
 ·rw[PyData.depthAll];lk
def rX:∀ds:List D,(∀d∈ds,Sh B k d)->kU (ds.length*(B+2)) k ds
 |[],_=>by rw[zT,Nat.zero_mul];exact kc
 |d::ds,h=>by
  have:=cN (h d zI) (rX ds λ x hx=>h x (zE _ hx))
  rw[zj,wY,wu];exact this
def kU.up{S a k:Nat}{ds:List D}(h:kU S k ds)(c:S<=a):kU a k ds:=by
 let⟨b,g,f,e,d⟩:=h;exact⟨b,g,f,zG e c,d⟩
def kA{S k:Nat}{ds:List D}(h:kU S k ds):Sh (S+3) (k+1) (.tup ds):=by
 let⟨a,c,b,e,d⟩:=h;refine⟨.tuple a,λ M n=>?_,by rw[PyData.showable];exact b,?_,?_⟩
 ·show toPy M (n+k+1) (.tup ds)=_
  rw[toPy,c];rfl
 ·rw[PyData.shown]
  have:=MV (PyData.shownAll a)
  lk
 ·rw[PyData.depth];lk
def Nj(h:Sh B k (.tup ds))(d:B<=zi)(c:k<=20):∃t,∀M,iM M (.tup ds)=some t:=by
 let⟨x,b,a,g,f⟩:=h;refine⟨x.shown,λ M=>?_⟩;have e:=b M (20-k);rw[show 20-k+k=20 by lk]at e;unfold iM;rw[if_pos (show Hl (D.tup ds)=true from rfl),e];dsimp only;rw[if_pos ?_];rwa[zt,zzC];exact⟨⟨a,by lk⟩,by lk⟩
abbrev Vi(w:Str):Prop:=∀c∈w.cps.toList,c<1000
abbrev rN(v:Str):Prop:=v.length<=30/\Vi v
def vW(h:rN v):Sh 302 1 (.str v):=by
 refine⟨.str v,λ M n=>by show toPy M (n+1) _=_;rw[toPy],by rw[PyData.showable],?_,by rw[PyData.depth];lk⟩;have a:=StrLaws.reprText_len v λ c hc=>ze (h.2 c hc) (by decide)
 have:=h.1
 rw[PyData.shown];lk
def Sw(b:Bool):Sh 5 1 (.bl b):=⟨.bool b,λ M n=>by show toPy M (n+1) _=_;rw[toPy],by cases b <;> rfl,by cases b <;> decide +kernel,by cases b <;> decide⟩
def Ph(h:PyData.showable (.int i)=true/\(PyData.shown (.int i)).length<=10):Sh 10 1 (.int i):=⟨.int i,λ M n=>by show toPy M (n+1) _=_;rw[toPy],h.1,h.2,by rw[PyData.depth];lk⟩
def CF{xs:List Str}{m:Nat}(h:∀x∈xs,rN x)(b:xs.length<=m):Sh (m*304+3) 2 (.tup (xs.map .str)):=by
 have a:=rX (B:=302) (k:=1) (xs.map D.str) λ d hd=>by
  let⟨x,hx,rfl⟩:=yl.mp hd;exact vW (h x hx)
 rw[zy]at a;exact(kA a).up (wC (yI 304 b) 3) (zq _)
def Cp(h:eD abc 8 w):rN w:=⟨zG h.2.1 (by decide),λ c hc=>by
 have:=kT c (h.2.2 c hc)
 lk⟩
def MS(h:eD ip 12 w):rN w:=⟨zG h.2.1 (by decide),λ c hc=>by
 have:=Bv c (h.2.2 c hc)
 lk⟩
def OQ(k:Kd):rN (jg k):=by cases k <;> exact⟨by decide,by unfold Vi;decide +kernel⟩
def Pj(h:iZ a):Sh 1528 3 (bq a):=by
 unfold bq;exact(kA (cN ((vW (OQ a.k)).up (zq _) (by decide)) (cN ((vW (Cp h.n)).up (zq _) (by decide)) (cN (CF (λ v hv=>MS (h.v v hv)) h.l) kc)))).up (by decide) (zq _)
abbrev use:Nat->List (Nat×List D)->Nat
 |_,[]=>0
 |d,y::r=>if y.1<d then 0 else if y.1=d then 1+use (d+1) r+use d r else use d r
abbrev tot(d:Nat):Nat->List (Nat×List D)->Nat
 |0,_=>0
 |n+1,E=>use d E+tot (d+1) n E
def u4:∀(n d:Nat),y.1<d->tot d n (y::r)=0
 |0,_,_=>rfl
 |n+1,d,h=>by rw[tot,use,if_pos h,u4 n (d+1) (by lk)]
def Gq:∀(n d:Nat),d<=y.1->tot d n (y::r)<=1+tot d (n+1) r
 |0,_,_=>zW _
 |n+1,d,h=>by
  rw[tot,use,if_neg (by lk)];by_cases e:y.1=d
  ·rw[if_pos e,u4 n (d+1) (by lk),tot,tot]
   lk
  ·rw[if_neg e,tot]
   have:=Gq n (d+1) (y:=y) (r:=r) (by lk)
   lk
def Gn:∀(E:List (Nat×List D)) (d n:Nat),tot d n E<=E.length
 |[],d,n=>by
  induction n generalizing d with
  |zero=>exact zq _
  |succ n a =>
   rw[tot,use,vz];exact a (d+1)
 |y::r,d,n=>by
  by_cases h:y.1<d
  ·rw[u4 n d h];exact zW _
  ·have:=Gq n d (y:=y) (r:=r) (by lk)
   have:=Gn r d (n+1)
   rw[zj];lk
def OR(E:List (Nat×List D))(d:Nat):use d E<=E.length:=Gn E d 1
def vY:∀(E:List (Nat×List D)) (d:Nat),d<=5->(∀e∈E,e.1<5)->(∀e∈E,∀T k ds,4<=k->kU T k ds->kU (R+T) k (e.2++ds))->kU ((R+10)*use d E) (2*(5-d)+4) (col d E)
 |[],_,_,_,_=>kc
 |y::r,d,hd,f,c=>by
  have g:=vY r d hd (λ e he=>f e (zE _ he)) λ e he=>c e (zE _ he);have j:=f y zI;rw[col,use];by_cases b:y.1<d
  ·rw[if_pos b,if_pos b];exact kc
  ·rw[if_neg b,if_neg b]
   by_cases a:y.1=d
   ·rw[if_pos a,if_pos a]
    have i:=vY r (d+1) (by lk) (λ e he=>f e (zE _ he)) λ e he=>c e (zE _ he);have h:=c y zI _ _ _ (by lk) (cN (kA i) kc);refine(cN ((kA h).up (zq _) (by lk)) g).up ?_;rw[vI,vI,Nat.mul_one];lk
   ·rw[if_neg a,if_neg a]
    exact g
def GC{n:Nat}(h:n<=1000000000):Sh 10 1 (.int n):=by
 refine Ph ⟨?_,?_⟩
 ·rw[PyData.showable,zzC,xm]
  by_cases z:n=0
  ·rw[z];decide
  ·exact wU ((vk z).mpr (show n<2 ^ 64 by lk)) (by decide)
 ·rw[PyData.shown]
  exact x_ (by lk) (by decide) (show (n:Int)<10 ^ 10 by lk)
end
open PySem L3
section
variable {srt:List D->Option (List D)}
def eQ.lists(r:eQ ds num as ws xs):fH true (wd ws 2)=true/\fH false (wd ws 5)=true:=by
 let⟨g,f,c,e,d,b,h,rfl⟩:=k6 r.l;exact⟨r.a.ok 2 c (by decide) rfl,r.a.ok 5 b (by decide) rfl⟩
def vX(h:fH a w=true):Sh 1219 2 (.tup ((gT w).map .str)):=by
 unfold fH at h;rwa[zt,zzC,yw]at h;exact CF (λ x hx=>Cp (eA.mp (h.2.1 x hx))) h.1
def CQ(h:gk w=true):dv w<=1000000000:=by
 unfold gk at h;rwa[zt,zzC]at h;exact h.2.2.2.2
def Pg(r:eQ ds num as ws xs)(T k:Nat)(es:List D)(i:4<=k)(h:kU T k es):kU (8600+T) k (e8 ws xs++es):=by
 let⟨c,b⟩:=r.nums;let⟨f,e⟩:=r.lists;have a:=rX (B:=1528) (k:=3) (xs.map bq) λ d hd=>by
  let⟨x,hx,rfl⟩:=yl.mp hd;exact Pj (r.g.asks x hx)
 rw[zy]at a;have j:=(kA a).up (B':=6123) (k':=k) (zG (wC (yI (1528+2) r.g.l4) 3) (yG rfl)) i;refine(cN j (cN ((Sw _).up (zq _) (by lk)) (cN ((vX f).up (zq _) (by lk)) (cN ((GC (CQ c)).up (zq _) (by lk)) (cN ((GC (CQ b)).up (zq _) (by lk)) (cN ((vX e).up (zq _) (by lk)) h)))))).up (by lk)
def GL(G:Good f c)(he:ent f c=d::b):∃t,∀M,iM M (node d.2 (col 1 b))=some t:=by
 have gu:=G.gu;have g:=ml G;rw[he,zj]at g;have row:∀e∈d::b,e.1<5/\∀T k ds,4<=k->kU T k ds->kU (8600+T) k (e.2++ds):=λ e a=>by
  rw[<- he]at a;let⟨i,hi⟩:=ya a;let⟨ws,l,_,_,r,rfl⟩:=iH G hi;exact⟨r.Bj.1,Pg r⟩
 have j:=vY (R:=8600) b 1 (by decide) (λ e a=>(row e (zE _ a)).1) λ e a=>(row e (zE _ a)).2;have h:=(row d zI).2 _ _ _ (by decide) (cN (kA j) kc);have hu:=OR b 1;have big:zi=16777216:=by decide
 have a:=Nat.mul_le_mul_left 8610 (show use 1 b<=20 by lk);exact Nj (kA h) (by lk) (by decide)
def Ef(h:(cx srt k).rz "read_tree" [.ob j] M=some r)(e:r.1=(i,f))(hi:i.natAbs<2 ^ 64)(a:f.natAbs<2 ^ 64):(cx srt (k+1)).rf [.ob j,.tup [.int i,.int f]] M=some r.2:=by
 rw[Vs];unfold tK;dsimp only;rw[h];dsimp only;rw[if_pos ⟨e,hi,a⟩]
def oz.le(r:oz ds num as ws f):f<=10:=by
 cases r with
 |ahead a h=>exact zG a.l6 (by decide)
 |asks a l g nd lt=>have:=g.l4;lk
def Nm(k:Nat)(M:MH)(z:Short 2000 ts)(hl:ts.length<=100)(C:M[j]?=some (.lst (ts.map .str)))(q:∀M',Gr M M'->Q (.bl true) M') :
  V (bu (cx srt (k+29)) (av 1 c0) [x0,some (.ob j),none]) M (dN Q):=by
 have big:=aj;have ll:(b9 ts).length=ts.length:=by unfold b9;rw[zy]
 rwa[c0,bG,bH];ac_rfl;refine Oh (k+25) M z C (λ B Y l=>?_) (λ e ws f B G hw O l=>?_) (λ e B G hx X l=>?_)
 ·ac_rfl
  refine⟨rfl,sT rfl ?_⟩;symm;have y:=l.keep _ _ C;rw[Y]at y;let⟨r,e1,H,w⟩:=nk (srt:=srt) (k+19) B y;exact⟨r.2,Ef (k:=k+28) e1 H (by decide) (by decide),q _ (l.trans w)⟩
 ·ac_rfl
  refine⟨rfl,sT rfl ?_⟩;symm;have gu:=G.gu;have fl:=O.le;let⟨r,e1,H,w⟩:=z8 (srt:=srt) (k+19) B z (l.keep _ _ C) G hw O;exact⟨r.2,Ef (k:=k+28) e1 H (by rw[xm];lk) (by rw[xm];lk),q _ (l.trans w)⟩
 ·ac_rfl
  refine⟨rfl,sF rfl ?_⟩;have gu:=G.gu;have W:=ml G;obtain⟨e0,r0,he⟩:∃e0 r0,ent (b9 ts) e=e0::r0:=by
   cases h:ent (b9 ts) e with
   |nil =>
    rw[h,zT]at W;exact absurd (yW.mp (show ts.length=0 by lk)) X
   |cons a b=>exact⟨a,b,rfl⟩
  let⟨t,N⟩:=GL G he;have y:=l.keep _ _ C;symm;refine uv (k+20) B z y G hx he λ I w=>?_;exists _,N I;have K:=w.keep _ _ y;symm;refine⟨_,K,by rw[zy];lk,?_⟩;refine bJ (λ m F M'=>Gr I M'/\∃c:List Nat,F=c.map .ob/\c.length=m/\∀(i n:Nat) (ws:List Str),c[i]?=some n->(b9 ts)[i]?=some ws->M'[n]?=some (MO.lst (ws.map .str))) ⟨Gr.refl,[],rfl,rfl,λ i n ws h=>nomatch h⟩ (λ _ _ _ h=>h.1.keep _ _ K) ?_ ?_
  ·rintro m d F M' hd ⟨g,c,rfl,A,p⟩
   rw[zm]at hd;let⟨u,hu,rfl⟩:=zp.mp hd;have lu:=z u (zl hu);have sl:=split_len u 32;symm;rw[blank];refine⟨⟨by decide,by lk,by lk⟩,g.snoc _,c++[M'.length],by rw[zf];rfl,by rw[zx,A];rfl,λ i n ws s v=>?_⟩;by_cases hi:i<c.length
   ·rw[zK hi]at s
    exact(Gr.app _ _).keep _ _ (p i n ws s v)
   ·have:=(zz.mp s).1
    rw[zx]at this;obtain rfl:i=c.length:=by rwa[zj,zT]at this;lk
    rw[zA (zq _),yc]at s;cases s;unfold b9 at v;rw[zm,A,hu]at v;cases v;exact ae _ _
  ·rintro F M' ⟨g,c,rfl,A,p⟩
   rw[zy]at A;have L:Lo (M'++[MO.lst (c.map D.ob)]) M'.length (b9 ts):=⟨c,by rw[A,ll],ae _ _,λ i n ws s v=>(Gr.app _ _).keep _ _ (p i n ws s v)⟩;have P:Gr I (M'++[MO.lst (c.map D.ob)]):=g.snoc _;generalize M'++[MO.lst (c.map D.ob)]=M3 at L P ⊢;generalize M'.length=jl at L ⊢;have S:(ent (b9 ts) e)[0]?=some e0:=by rw[he];rfl
   let⟨ws,J,U,T,rg,R⟩:=iH G S;have E:=(Ia G).2 e0 S;symm;refine TL G hx (λ ws hw=>?_) (b9 ts).length (k+29) 0 M3 ws J _ (vz _) (by lk) L U T λ M4 Z=>?_
   ·unfold b9 at hw
    let⟨u,hu,rfl⟩:=yl.mp hw;exact λ x hx=>zG (gm hx) (z u hu)
   ·rw[R]at E
    have E:dv (wd ws 0)=0:=E;have en:node (e8 ws J) (col (dv (wd ws 0)+1) ((ent (b9 ts) e).drop (0+1)))=node e0.2 (col 1 r0):=by rw[E,he,R];rfl
    rw[en];exists _,N M4;symm;rw[beq_self_eq_true];exact q _ (l.trans (w.trans (P.trans Z)))
structure Lw (Ls:List (List Str)) (m:Nat):Prop where
 l:Ls.length<=m
 w:∀ws∈Ls,Short 125 ws/\ws.length<=14
def sa(k:Nat)(M:MH)(L:Lo M jl e)(i:Lw e 60)(q:∀M',Gr M M'->Q (.bl true) M'):W ((cx srt (k+30)).fn "_law_right" [.ob jl]) M Q:=by
 have big:=aj;have s:=i.l;have tail:=λ {M:MH} {j:Nat} {ts:List Str} {x0:Option D}=>Nm (srt:=srt) k M (j:=j) (ts:=ts) (x0:=x0) (Q:=Q);rw[aP "_law_right" 3 1 c0 rfl,wf,jY 1 c0];generalize av 1 c0=tl at tail ⊢;rwa[c0,dh,di];let⟨z,v,n,u⟩:=L.ex;ac_rfl;refine⟨_,n,by rw[zy];lk,?_⟩;refine bJ (λ m a M'=>M'=M/\∃ts:List Str,a=ts.map .str/\ts.length=m/\Short 2000 ts) ⟨rfl,[],rfl,rfl,Short.nil⟩ (λ _ _ _ h=>by rw[h.1];exact n) ?_ ?_
 ·rintro m d a M' hd ⟨rfl,ts,rfl,c,b⟩
  rw[zm]at hd;let⟨t,p,rfl⟩:=zp.mp hd;obtain⟨ws,hw⟩:∃ws,e[m]?=some ws:=⟨_,zu (by rw[<- v];exact(zz.mp p).1)⟩;let⟨g,f⟩:=i.w ws (zl hw);have y:=lW g;have r:=kJ (sep:=" ") g;have e1:Str.length " " = 1:=rfl;have m1:=yI 125 f;have m2:=yI (125+1) f;rw[e1]at r;symm;refine⟨_,u m t ws p hw,_,k9 _,by rw[e1];lk,?_⟩;rw[mR];exact⟨ts++[_],by rw[zf];rfl,by rw[zx,c];rfl,b.app (Short.one (by lk))⟩
 ·rintro a M' ⟨rfl,ts,rfl,c,b⟩
  rw[zy]at c;ac_rfl;exact tail b (by lk) (ae _ _) λ A x=>q _ ((Gr.app _ _).trans x)
def Tq{wd:D}(h:wd∈[D.str "is",.str "no",.str "is",.str "there",.str "lacks",.str "is"]):∃kd,wd=.str (jg kd):=by
 rwa[zd,yv,or_false]at h;rcases h with rfl|rfl|rfl|rfl|rfl|rfl
 ·exact⟨.is,rfl⟩
 ·exact⟨.no,rfl⟩
 ·exact⟨.is,rfl⟩
 ·exact⟨.there,rfl⟩
 ·exact⟨.lacks,rfl⟩
 ·exact⟨.is,rfl⟩
abbrev dk(kd:Kd)(nm:Str)(vs:List Str):D:=.tup [.str (jg kd),.str nm,.tup (vs.map .str)]
def Kt(k:Nat)(M:MH)(T:Sl M jt 30 m)(m1:1<=m)(m2:m<=5)(q:∀vs M',Short 30 vs->vs.length<=3->Gr M M'->Q (dk kd nm vs) M') :
  V (bu (cx srt (k+1)) (av 4 cJ) [some (.ob jf),some (.ob jn),some (.ob jt),some (.int c),some (.str nm),some (.str (jg kd)),none,none,none]) M (dN Q):=by
 have big:=aj;let⟨y,n,st,lt⟩:=T.ex;have w:(y.map D.str).length=m:=by rw[zy,lt]
 have e:(0:Int)<(m:Int):=by lk
 let⟨F,U⟩:=md (c / 54) e;let⟨E,S⟩:=md (c / 54 % m+1) e;let⟨C,R⟩:=md (c / 324) e;let⟨P,O⟩:=md (c / 1620) (m:=3) (by decide);let⟨f,e1,J⟩:=Sl.at st F (by lk);let⟨b,N,I⟩:=Sl.at st E (by lk);let⟨a,L,H⟩:=Sl.at st C (by lk);rwa[cJ,bG,bH];ac_rfl;refine⟨by lk,_,n,?_⟩;ac_rfl;rw[w];exists e,_,n;ac_rfl;refine⟨_,e1,by lk,?_⟩;have v:Gr M (M++[MO.lst [D.str f]]):=Gr.app _ _;have s:(M++[MO.lst [D.str f]])[M.length]?=some (.lst ([f].map D.str)):=ae _ _;generalize M++[MO.lst [D.str f]]=M3 at v s ⊢;have j:=v.keep _ _ n;ac_rfl;exists _,j;ac_rfl;rw[w];exists e,_,j;ac_rfl;refine⟨_,N,by lk,_,j,?_⟩;ac_rfl;rw[w];exists e,_,j;ac_rfl;refine⟨_,L,by lk,by lk,by lk,_,ae _ _,?_⟩;let⟨us,K,A,G⟩:=Short.cut (B:=30) (us:=[b,a]) (λ u hu=>by
  rwa[zd,yv,or_false]at hu;rcases hu with rfl|rfl
  ·exact I
  ·exact H) none (some (c / 1620 % 3))
 rw[show [D.str b,D.str a]=[b,a].map D.str from rfl,K];exists _,ae _ _;have t:Gr M3 (M3++[MO.lst ([b,a].map D.str)]++[MO.lst (us.map D.str)]):=(Gr.app _ _).snoc _;have r:(M3++[MO.lst ([b,a].map D.str)]++[MO.lst (us.map D.str)])[(M3++[MO.lst ([b,a].map D.str)]).length]?=some (.lst (us.map D.str)):=ae _ _;have l4:M.length<(M3++[MO.lst ([b,a].map D.str)]).length:=by
  rw[zx]
  have:=(zz.mp s).1
  lk
 generalize M3++[MO.lst ([b,a].map D.str)]++[MO.lst (us.map D.str)]=M4 at t r ⊢;generalize (M3++[MO.lst ([b,a].map D.str)]).length=j8 at r l4 ⊢;have W:us.length<=2:=G;refine dO (λ i ρ M'=>Gr M M'/\M'[j8]?=some (.lst (us.map D.str))/\(∃vs:List Str,M'[M.length]?=some (.lst (vs.map D.str))/\Short 30 vs/\vs.length<=i+1)/\∃l,ρ=[some (.ob jf),some (.ob jn),some (.ob jt),some (.int c),some (.str nm),some (.str (jg kd)),some (.int (c / 54 % m)),some (.ob M.length),l])
  ⟨v.trans t,r,⟨[f],t.keep _ _ s,Short.one J,zq _⟩,_,rfl⟩ (λ _ _ _ h=>h.2.1) ?_ ?_
 ·rintro i d ρ M' hd ⟨g,p,⟨vs,hv,sv,x⟩,l,rfl⟩
  have hi:=(zz.mp hd).1;rw[zy]at hi;rw[zm]at hd;let⟨u,hu,rfl⟩:=zp.mp hd;symm;exists _,hv;symm;refine⟨_,kK u vs,λ z=>?_,λ z=>?_⟩
  ·refine⟨_,hv,_,hv,by rw[zy];lk,?_⟩
   exact⟨g.set (zq _) _,by rw[zc (by lk)];exact p,⟨vs++[u],by rw[lX hv,zf];rfl,sv.app (Short.one (A u (zl hu))),by rw[zx];show _+1<=_;lk⟩,_,rfl⟩
  ·exact⟨g,p,⟨vs,hv,sv,by lk⟩,_,rfl⟩
 ·rintro ρ M' ⟨g,p,⟨vs,hv,sv,x⟩,l,rfl⟩
  rw[zy]at x;symm;refine⟨_,hv,by lk,?_⟩;exact q vs M' sv (by lk) g
def Ku(k:Nat)(M:MH)(F:Fd M jf)(N:Sl M jn 20 n)(T:Sl M jt 30 m)(v:jn≠jf)(u:jt≠jf)(E:1<=n)(C:n<=5)(m1:1<=m)(m2:m<=5) 
  (q:∀kd nm vs M',nm.length<=20->Short 30 vs->vs.length<=3->Gx jf M M'->Fd M' jf->Q (dk kd nm vs) M'):W ((cx srt (k+2)).fn "_law_asking" [.ob jf,.ob jn,.ob jt]) M Q:=by
 have big:=aj;have tail:=λ {M:MH} {m:Nat} {c:Int} {nm:Str} {kd:Kd}=>Kt (srt:=srt) k M (jf:=jf) (jn:=jn) (jt:=jt) (m:=m) (c:=c) (nm:=nm) (kd:=kd) (Q:=Q);rw[aP "_law_asking" 9 3 cJ rfl,wf,jY 4 cJ];generalize av 4 cJ=tl at tail ⊢;rwa[cJ,dh,di];ac_rfl;refine bO k M F _ (by lk) λ c h H G d z=>?_;let⟨ns,g,sn,t⟩:=(N.go d v).ex;let⟨B,A⟩:=md c (m:=9) (by decide);let⟨nm,en,e⟩:=Sl.at sn (i:=min (c % 9 / 2) ((n:Int)-1)) (by lk) (by lk);let⟨r,p⟩:=md (c / 9) (m:=6) (by decide);let⟨wd,w,hw⟩:=mm (xs:=[D.str "is",.str "no",.str "is",.str "there",.str "lacks",.str "is"]) r (by exact p);let⟨kd,rfl⟩:=Tq hw;have x:(ns.map D.str).length=n:=by rw[zy,t]
 ac_rfl;refine⟨by lk,by lk,_,g,?_⟩;ac_rfl;rw[x];exists _,g;ac_rfl;exists _,en;ac_rfl;refine⟨by lk,by lk,by lk,_,ae _ _,?_⟩;ac_rfl;exists _,w;generalize l:h++[MO.lst [D.str "is",.str "no",.str "is",.str "there",.str "lacks",.str "is"]]=M2;have b:Gr h M2:=l▸Gr.app _ _;clear l;have a:=d.trans (.of b);have j:=z.keep b;ac_rfl;have done:Q (dk kd nm []) M2:=q kd nm [] M2 e Short.nil (zW _) a j;refine⟨λ _=>⟨by lk,by lk,done⟩,λ _=>?_⟩;cases h2:(jg kd==Str.ofString "lacks") with
 |true =>
  refine sT rfl ?_;symm;exact⟨by lk,by lk,done⟩
 |false =>
  refine sF rfl ?_;ac_rfl;exact tail (T.go d u |>.keep b) m1 m2 λ vs y sv s f=>q kd nm vs y e sv s (a.trans (.of f)) (j.keep f)
abbrev uO(Q:D->MH->Prop)(M:MH)(jf:Nat):Prop:=∀(j:Nat) (b:List Str) (a:MH),a[j]?=some (.lst (b.map .str))->Short 125 b->b.length<=11->Gx jf M a->Fd a jf->M.length<=j->Q (.ob j) a
def Ng(kd:Kd):cX (je [] ((([("is":Str),("no":Str),("there":Str),("lacks":Str)]:List Str).map Sum.inr).zip [D.str "=",.str "!",.str "+",.str "-"])) (.inr (jg kd))=some (.str (sg (dI kd))):=by cases kd <;> rfl
def Qm(k:Nat)(M:MH){jf ja jn jt jw n m sz:Nat}{x1 x2 x3 x4 x5 x6 x7 x8:Option D}{ws:List Str}(F:Fd M jf)(N:Sl M jn 20 n)(T:Sl M jt 30 m)(W:jn≠jf)(U:jt≠jf)(n1:1<=n)(n2:n<=5)(m1:1<=m)(m2:m<=5)
  (f:M[ja]?=some (.lst [.ob jn,.ob jt])) (Dg:ja≠jf) (hs:sz<=5) (hw:M[jw]?=some (.lst (ws.map .str))) (AK:jw≠jf) (P:Short 125 ws) (lw:ws.length<=6) {Q:D->MH->Prop} (q:uO Q M jf) :
  V (bu (cx srt (k+2)) (av 10 aC) [some (.ob jf),x1,x2,x3,x4,x5,x6,x7,x8,some (.ob jw),some (.ob ja),some (.int sz),none,none,none,none,none,none]) M (dN Q):=by
 have big:=aj;have x:∀(j:MH) (L:Nat) (vs:List Str) (u p r s t:Option D),Gx jf M j->Fd j jf->j[jw]?=some (.lst (ws.map .str))->j[L]?=some (.lst (vs.map .str))->Short 125 vs->vs.length<=5->V (bu (cx srt (k+2)) (av 13 aC) [some (.ob jf),x1,x2,x3,x4,x5,x6,x7,x8,some (.ob jw),some (.ob ja),some (.int sz),u,some (.ob L),p,r,s,t]) j (dN Q):=by
  intro j L vs u p r s t C Z C8 X sv A;rwa[aC,bG,bH];ac_rfl;refine⟨by lk,?_⟩;rw[gQ,kP ((Gr.app _ _).keep _ _ X) (ae _ _)];exists _,rfl;cases vs with
  |nil =>
   refine sT rfl ?_;ac_rfl;refine⟨by lk,_,((Gr.app _ _).snoc _).keep _ _ C8,_,ae _ _,by rw[zy];show _+1<=_;lk,?_⟩;refine q _ (ws++[("-":Str)]) _ (by rw[ae,zf];rfl) (P.app (Short.one (by decide))) (by rw[zx];show _+1<=_;lk) (C.trans (.of (((Gr.app _ _).snoc _).snoc _))) (Z.keep (((Gr.app _ _).snoc _).snoc _)) ?_
   have:=C.len
   rwa[zx];lk
  |cons v vs =>
   refine sF rfl ?_;ac_rfl;refine⟨_,(Gr.app _ _).keep _ _ C8,_,(Gr.app _ _).keep _ _ X,by rw[zy,zy];lk,?_⟩;refine q _ (ws++v::vs) _ (by rw[ae,zf]) (P.app sv) (by rw[zx];lk) (C.trans (.of ((Gr.app _ _).snoc _))) (Z.keep ((Gr.app _ _).snoc _)) ?_
   have:=C.len
   rw[zx];lk
 rw[show av 10 aC=fq 3 (av 10 aC) (av 13 aC) from rfl];generalize av 13 aC=tl at x ⊢;rwa[aC,bG,bH,dh,di];ac_rfl;refine⟨⟨by lk,by lk⟩,by rw[bw];lk,?_⟩;refine bJ (λ i I c=>Gx jf M c/\Fd c jf/\∃b:List (Kd×Str×List Str),I=b.map (λ a=>dk a.1 a.2.1 a.2.2)/\b.length=i/\∀a∈b,a.2.1.length<=20/\Short 30 a.2.2/\a.2.2.length<=3) ⟨.refl,F,[],rfl,rfl,λ _ h=>nomatch h⟩ (λ _ _ _ _=>trivial) ?_ ?_
 ·rintro i d I c hd ⟨g,F',b,rfl,hi,J⟩
  symm;exists _,g.keep _ _ Dg f;symm;exists _,g.keep _ _ Dg f;symm;refine Ku k c F' (N.go g W) (T.go g U) W U n1 n2 m1 m2 λ B nm vs H K z y w F2=>?_;refine⟨g.trans w,F2,b++[(B,nm,vs)],by rw[zf];rfl,by rw[zx,hi];rfl,λ a f=>?_⟩;rcases zQ.mp f with f|f
  ·exact J a f
  ·rw[zB.mp f];exact⟨K,z,y⟩
 ·rintro I l ⟨g,F1,b,rfl,hi,J⟩
  rw[bw]at hi;have l1:=g.len;have CW:jf<M.length:=by
   let⟨_,_,_,e⟩:=F;exact(zz.mp e).1
  have G:(l++[MO.lst (b.map λ a=>dk a.1 a.2.1 a.2.2)])[l.length]?=some (.lst (b.map λ a=>dk a.1 a.2.1 a.2.2)):=ae _ _;have w:Gr l (l++[MO.lst (b.map λ a=>dk a.1 a.2.1 a.2.2)]):=Gr.app _ _;have S:l.length<(l++[MO.lst (b.map λ a=>dk a.1 a.2.1 a.2.2)]).length:=by rw[zx];exact ye _
  generalize l++[MO.lst (b.map λ a=>dk a.1 a.2.1 a.2.2)]=H at G w S ⊢;generalize l.length=YD at G l1 S ⊢;ac_rfl;refine⟨by lk,_,(Gr.app _ _).keep _ _ G,?_⟩;refine MQ (λ i ρ c=>Gr H c/\(∃vs:List Str,c[H.length]?=some (.lst (vs.map .str))/\Short 125 vs/\vs.length=i)/\∃p r s t,ρ=[some (.ob jf),x1,x2,x3,x4,x5,x6,x7,x8,some (.ob jw),some (.ob ja),some (.int sz),some (.ob YD),some (.ob H.length),p,r,s,t])
   ⟨Gr.app _ _,⟨[],ae _ _,Short.nil,rfl⟩,_,_,_,_,rfl⟩ (λ _ _ _ h=>h.1.keep _ _ G) ?_ ?_
  ·rintro i d ρ c hd ⟨E,⟨vs,hv,sv,A⟩,p,r,s,t,rfl⟩
   have Zf:=(zz.mp hd).1;rw[zy]at Zf;rw[zm]at hd;let⟨a,Zt,rfl⟩:=zp.mp hd;let⟨B,nm,us⟩:=a;let⟨K,z,y⟩:=J _ (zl Zt);exists _,_,rfl,rfl;have s1:=lW z;have R:=kJ (sep:="|") z;have e1:Str.length "|" = 1:=rfl;have e2:(sg (dI B)).length=1:=rfl;have m1:=yI 30 y;have m2:=yI (30+1) y;rw[e1]at R;simp only at K z y s1 R m1 m2;symm;refine⟨_,ae _ _,by decide,_,zJ (by rw[zx];exact ye _),?_⟩;symm;exists _,Ng B;generalize Y:List.set (c++[MO.bC []]) (List.length c) (MO.bC (je [] ([Sum.inr (Str.ofString "is"),Sum.inr (Str.ofString "no"),Sum.inr (Str.ofString "there"),Sum.inr (Str.ofString "lacks")].zip [D.str (Str.ofString "="),D.str (Str.ofString "!"),D.str (Str.ofString "+"),D.str (Str.ofString "-")])))=M4;have gd:Gr c M4:=Y▸(Gr.app _ _).set (zq _) _;clear Y;have O:=gd.keep _ _ hv;symm;refine⟨_,O,by lk,_,k9 _,by rw[e1];lk,?_⟩;rw[mR,len_app];refine⟨by lk,_,O,by rw[zy];lk,(E.trans gd).set (zq _) _,⟨vs++[_],by rw[lX O,zf];rfl,sv.app (Short.one (by rw[len_app,len_app];lk)),by rw[zx,A];rfl⟩,_,_,_,_,rfl⟩
  ·rintro ρ j ⟨E,⟨vs,hv,sv,A⟩,p,r,s,t,rfl⟩
   rw[zy]at A;have gg:=g.trans (.of (w.trans E));exact x j _ vs _ _ _ _ _ gg (F1.keep (w.trans E)) (gg.keep _ _ AK hw) hv sv (by lk)
def Sl.young(N:Sl M jn B n)(c:k<=n):∃us:List Str,(∀ds,M[jn]?=some (.lst ds)->cutD ds none (some (k:Int))=us.map .str)/\Short B us/\us.length=k:=by
 let⟨ns,b,a,d⟩:=N.ex;refine⟨ns.take k,λ ds e=>?_,λ u hu=>a u (yH hu),by rw[zS];lk⟩;rw[b]at e;cases e;rw[fQ _ (by lk),<- yO];rfl
def Sl.new(h:M'[j]?=some (.lst (us.map .str)))(s:Short B us)(l:us.length=n):Sl M' j B n:=⟨us,h,s,l⟩
def Sm(k:Nat)(M:MH){jf ja jn jt jn' jt' jw n m sz:Nat}{x3 x4 x5 x6 x7 x8:Option D}{ws:List Str}(F:Fd M jf)(N:Sl M jn 20 5)(T:Sl M jt 30 4)(L:Sl M jn' 20 n)(K:Sl M jt' 30 m)(W:jn≠jf)(U:jt≠jf)(f:jn'≠jf)(d:jt'≠jf)(y:1<=n)(x:n<=5)(m1:1<=m)(m2:m<=5)
  (B:M[ja]?=some (.lst [.ob jn',.ob jt'])) (P:ja≠jf) (r:sz<=5) (hw:M[jw]?=some (.lst (ws.map .str))) (t:jw≠jf) (l:Short 125 ws) (p:ws.length<=6) {Q:D->MH->Prop} (q:uO Q M jf) :
  V (bu (cx srt (k+2)) (av 9 aC) [some (.ob jf),some (.ob jn),some (.ob jt),x3,x4,x5,x6,x7,x8,some (.ob jw),some (.ob ja),some (.int sz),none,none,none,none,none,none]) M (dN Q):=by
 have big:=aj;have Z:jf<M.length:=by
  let⟨_,_,_,e⟩:=F;exact(zz.mp e).1
 have a:=λ {M:MH} {ja jn jt n m:Nat} {x1 x2 x3 x4 x5 x6 x7 x8:Option D}=>Qm (srt:=srt) k M (jf:=jf) (ja:=ja) (jn:=jn) (jt:=jt) (jw:=jw) (n:=n) (m:=m) (sz:=sz) (x1:=x1) (x2:=x2) (x3:=x3) (x4:=x4) (x5:=x5) (x6:=x6) (x7:=x7) (x8:=x8) (ws:=ws) (Q:=Q);rw[show av 9 aC=fq 1 (av 9 aC) (av 10 aC) from rfl];generalize av 10 aC=tl at a ⊢;rwa[aC,bG,bH,dh,di];symm;refine⟨λ _=>?_,λ _=>a F L K f d y x m1 m2 B P r hw t l p q⟩;let⟨ns,s,Y,X⟩:=N.ex;let⟨u,i,S,R⟩:=T.ex;let⟨c,e1,w,A⟩:=N.young (k:=2) (by decide);let⟨vs,h,v,z⟩:=T.young (k:=1) (by decide);have e1:=e1 _ s;have h:=h _ i;exists _,s;rw[show cutD (ns.map D.str) none (some 2)=c.map D.str from e1];refine⟨_,(Gr.app _ _).keep _ _ i,by lk,?_⟩;rw[show cutD (u.map D.str) none (some 1)=vs.map D.str from h];have g:Gr M (M++[MO.lst (c.map D.str)]++[MO.lst (vs.map D.str)]++[MO.lst [D.ob M.length,D.ob (M++[MO.lst (c.map D.str)]).length]]):=((Gr.app _ _).snoc _).snoc _;refine a (F.keep g) (Sl.new ((Gr.app _ _).keep _ _ ((Gr.app _ _).keep _ _ (ae _ _))) w A) (Sl.new ((Gr.app _ _).keep _ _ (ae _ _)) v z) (by lk) (by rw[zx];lk) (by decide) (by decide) (by decide) (by decide) (ae _ _) (by rwa[zx];lk) r (g.keep _ _ hw) t l p λ j b O J I H G E C=>?_;exact q j b O J I H ((Gx.of g).trans G) E (zG g.len C)
def Ta(k:Nat)(M:MH){jf jn jt jw sz many:Nat}{x3 x5 x6 x7 x8:Option D}{ws:List Str}(F:Fd M jf)(N:Sl M jn 20 5)(T:Sl M jt 30 4)(f:jn≠jf)(d:jt≠jf)(y:sz<=5)(hw:M[jw]?=some (.lst (ws.map .str)))(s:jw≠jf)(l:Short 125 ws)(p:ws.length<=6){ja:Nat}(z:M[ja]?=some (.lst [.ob jn,.ob jt]))(K:ja≠jf){Q:D->MH->Prop}(q:uO Q M jf) :
  V (bu (cx srt (k+2)) (av 8 aC) [some (.ob jf),some (.ob jn),some (.ob jt),x3,some (.int many),x5,x6,x7,x8,some (.ob jw),some (.ob ja),some (.int sz),none,none,none,none,none,none]) M (dN Q):=by
 have big:=aj;have S:jf<M.length:=by
  let⟨_,_,_,e⟩:=F;exact(zz.mp e).1
 have a:=λ {M:MH} {ja jn' jt' n m sz:Nat} {x3 x4 x5 x6 x7 x8:Option D}=>Sm (srt:=srt) k M (jf:=jf) (ja:=ja) (jn:=jn) (jt:=jt) (jn':=jn') (jt':=jt') (jw:=jw) (n:=n) (m:=m) (sz:=sz) (x3:=x3) (x4:=x4) (x5:=x5) (x6:=x6) (x7:=x7) (x8:=x8) (ws:=ws) (Q:=Q);rw[show av 8 aC=fq 1 (av 8 aC) (av 9 aC) from rfl];generalize av 9 aC=tl at a ⊢;rwa[aC,bG,bH,dh,di];symm;refine⟨λ _=>?_,λ _=>a F N T N T f d f d (by decide) (by decide) (by decide) (by decide) z K y hw s l p q⟩;let⟨ns,r,R,P⟩:=N.ex;let⟨t,i,O,L⟩:=T.ex;let⟨c,e1,v,x⟩:=N.young (k:=4) (by decide);let⟨vs,h,u,w⟩:=T.young (k:=3) (by decide);have e1:=e1 _ r;have h:=h _ i;exists _,r;rw[show cutD (ns.map D.str) none (some 4)=c.map D.str from e1];refine⟨_,(Gr.app _ _).keep _ _ i,by lk,?_⟩;rw[show cutD (t.map D.str) none (some 3)=vs.map D.str from h];symm;have A:(min (sz:Int) 4)=((min sz 4:Nat):Int):=by lk
 rw[A];have g:Gr M (M++[MO.lst (c.map D.str)]++[MO.lst (vs.map D.str)]++[MO.lst [D.ob M.length,D.ob (M++[MO.lst (c.map D.str)]).length]]):=((Gr.app _ _).snoc _).snoc _;refine a (F.keep g) (N.keep g) (T.keep g) (Sl.new ((Gr.app _ _).keep _ _ ((Gr.app _ _).keep _ _ (ae _ _))) v x) (Sl.new ((Gr.app _ _).keep _ _ (ae _ _)) u w) f d (by lk) (by rw[zx];lk) (by decide) (by decide) (by decide) (by decide) (ae _ _) (by rwa[zx];lk) (by lk) (g.keep _ _ hw) s l p λ j b J I H G E C B=>?_;exact q j b J I H G ((Gx.of g).trans E) C (zG g.len B)
def CP{n:Nat}(h:n<100):∃s,mF (.int n)=some s/\s.length<=10:=by
 refine⟨Str.ofString (toString (n:Int)),?_,x_ (by lk) (by decide) (show (n:Int)<10 ^ 10 by lk)⟩;show (if (n:Int).natAbs<2 ^ 64 then _ else _)=_;rw[if_pos (by rw[xm];lk)]
def MM(k:Nat)(M:MH){jf jn jt d many:Nat}(F:Fd M jf)(N:Sl M jn 20 5)(T:Sl M jt 30 4)(C:jn≠jf)(O:jt≠jf)(hd:d<5){Q:D->MH->Prop}(q:uO Q M jf):W ((cx srt (k+3)).fn "_law_words" [.ob jf,.ob jn,.ob jt,.int d,.int many]) M Q:=by
 have big:=aj;have v:=λ {M:MH} {ja jw sz:Nat} {ws:List Str} {x3 x5 x6 x7 x8:Option D}=>Ta (srt:=srt) k M (jf:=jf) (ja:=ja) (jn:=jn) (jt:=jt) (jw:=jw) (sz:=sz) (many:=many) (x3:=x3) (x5:=x5) (x6:=x6) (x7:=x7) (x8:=x8) (ws:=ws) (Q:=Q);rw[aP "_law_words" 18 5 aC rfl,wf,jY 8 aC];generalize av 8 aC=tl at v ⊢;rwa[aC,dh,di];ac_rfl;refine bO (k+1) M F _ (by lk) λ c M1 a1 b1 H U=>?_;let⟨ns,S,sn,ln⟩:=(N.go H C).ex;let⟨V,x1⟩:=md c (m:=5) (by decide);let⟨y0,y1⟩:=md (c / 5) (m:=4) (by decide);let⟨z0,z1⟩:=md (c / 20) (m:=5) (by decide);ac_rfl;refine⟨by lk,by lk,by lk,⟨by lk,by lk⟩,by rw[bw];lk,?_⟩;refine bJ (λ i b a=>a=M1/\∃ws:List Str,b=ws.map .str/\ws.length=i/\Short 20 ws) ⟨rfl,[],rfl,rfl,Short.nil⟩ (λ _ _ _ _=>trivial) ?_ ?_
 ·rintro i x b a hx ⟨rfl,ws,rfl,hi,l⟩
  let⟨rfl,kL⟩:=eM hx;let⟨p0,L⟩:=md (c % 5+(0+(i:Int))) (m:=5) (by decide);let⟨u,e,hu⟩:=Sl.at sn p0 (by lk);symm;refine⟨by lk,_,S,?_⟩;symm;exact⟨_,e,ws++[u],by rw[zf];rfl,by rw[zx,hi];rfl,l.app (Short.one hu)⟩
 rintro b a ⟨rfl,bs,rfl,hb,J⟩;rw[bw]at hb;have G:Gr a (a++[MO.lst (bs.map D.str)]):=Gr.app _ _;have A:(a++[MO.lst (bs.map D.str)])[a.length]?=some (.lst (bs.map D.str)):=ae _ _;generalize a++[MO.lst (bs.map D.str)]=M2 at G A ⊢;generalize a.length=j7 at A ⊢;have V2:=G.keep _ _ S;ac_rfl;refine⟨by lk,by lk,⟨by lk,by lk⟩,by rw[bw];lk,?_⟩;refine bJ (λ i b a=>a=M2/\∃ws:List Str,b=ws.map .str/\ws.length=i/\Short 20 ws) ⟨rfl,[],rfl,rfl,Short.nil⟩ (λ _ _ _ _=>trivial) ?_ ?_
 ·rintro i x b a hx ⟨rfl,ws,rfl,hi,l⟩
  let⟨u,e,hu⟩:=Sl.at sn V (by lk);symm;exists _,V2;symm;exact⟨_,e,ws++[u],by rw[zf];rfl,by rw[zx,hi];rfl,l.app (Short.one hu)⟩
 rintro b a ⟨rfl,f,rfl,hc,sc⟩;rw[bw]at hc;have E:Gr a (a++[MO.lst (f.map D.str)]):=Gr.app _ _;have I:(a++[MO.lst (f.map D.str)])[a.length]?=some (.lst (f.map D.str)):=ae _ _;generalize a++[MO.lst (f.map D.str)]=M3 at E I ⊢;generalize a.length=j8 at I ⊢;have Zs:=E.keep _ _ A;let⟨r,f1,l1⟩:=CP (n:=d) (by lk);let⟨v0,v1⟩:=md c (m:=9) (by decide);let⟨p,R,l2⟩:=CP (n:=(1+c % 9).toNat) (by lk);rw[show (((1+c % 9).toNat:Nat):Int)=1+c % 9 by lk]at R;let⟨o0,o1⟩:=md (c / 100) (m:=2) (by decide);let⟨s,eo,lo⟩:=Sl.at (B:=3) (us:=[("on":Str),("off":Str)]) (λ u hu=>by
  rwa[zd,yv,or_false]at hu;rcases hu with rfl|rfl <;> decide) o0 (by exact o1)
 have b1:=lW J;have b2:=kJ (sep:=",") J;have c1:=lW sc;have c2:=kJ (sep:=",") sc;have e1:Str.length "," = 1:=rfl;rw[e1]at b2 c2;ac_rfl;refine⟨_,f1,by lk,by lk,by lk,_,ae _ _,?_⟩;ac_rfl;refine⟨_,eo,_,(Gr.app _ _).keep _ _ Zs,_,k9 _,by rw[e1];lk,by lk,_,R,_,(Gr.app _ _).keep _ _ I,_,k9 _,by rw[e1];lk,by lk,?_⟩;rw[mR,mR];have K:Short 125 [r,s,Str.join "," bs,p,"1000000000",Str.join "," f]:=λ u hu=>by
  rwa[zd,yv,or_false]at hu;rcases hu with rfl|rfl|rfl|rfl|rfl|rfl
  ·lk
  ·lk
  ·lk
  ·lk
  ·decide
  ·lk
 have P:Gr M3 (M3++[MO.lst [D.str (Str.ofString "on"),D.str (Str.ofString "off")]]++[MO.lst [D.str r,D.str s,D.str (Str.join (Str.ofString ",") bs),D.str p,D.str (Str.ofString "1000000000"),D.str (Str.join (Str.ofString ",") f)]]):=(Gr.app _ _).snoc _;have t:(M3++[MO.lst [D.str (Str.ofString "on"),D.str (Str.ofString "off")]]++[MO.lst [D.str r,D.str s,D.str (Str.join (Str.ofString ",") bs),D.str p,D.str (Str.ofString "1000000000"),D.str (Str.join (Str.ofString ",") f)]])[(M3++[MO.lst [D.str (Str.ofString "on"),D.str (Str.ofString "off")]]).length]?=some (.lst ([r,s,Str.join "," bs,p,"1000000000",Str.join "," f].map D.str)):=ae _ _;generalize M3++[MO.lst [D.str (Str.ofString "on"),D.str (Str.ofString "off")]]++[MO.lst [D.str r,D.str s,D.str (Str.join (Str.ofString ",") bs),D.str p,D.str (Str.ofString "1000000000"),D.str (Str.join (Str.ofString ",") f)]]=M4 at P t ⊢;generalize (M3++[MO.lst [D.str (Str.ofString "on"),D.str (Str.ofString "off")]]).length=j9 at t ⊢;have l6:[r,s,Str.join "," bs,p,"1000000000",Str.join "," f].length=6:=rfl;generalize [r,s,Str.join "," bs,p,"1000000000",Str.join "," f]=six at K t l6;refine⟨_,t,by rw[zy];lk,?_⟩;refine bJ (λ i b a=>Gr M4 a/\∃ws:List Str,b=ws.map .str/\ws.length=i/\Short 125 ws) ⟨Gr.refl,[],rfl,rfl,Short.nil⟩ (λ _ _ _ h=>h.1.keep _ _ t) ?_ ?_
 ·rintro i x b a hx ⟨g,ws,rfl,hi,l⟩
  rw[zm]at hx;let⟨u,hu,rfl⟩:=zp.mp hx;have lu:=K u (zl hu);symm;refine⟨by lk,_,Hs _,_,ae _ _,?_⟩;symm;cases hz:(u==Str.ofString "") with
  |true=>exact⟨.str "-",rfl,g.snoc _,ws++[("-":Str)],by rw[zf];rfl,by rw[zx,hi];rfl,l.app (Short.one (by decide))⟩
  |false=>exact⟨.str u,rfl,g.snoc _,ws++[u],by rw[zf];rfl,by rw[zx,hi];rfl,l.app (Short.one lu)⟩
 ·rintro b a ⟨g5,ws,rfl,hi,l⟩
  rw[zy,l6]at hi;have y:=(G.trans (E.trans P)).trans g5;let⟨Y,X⟩:=md (c / 200) (m:=8) (by decide);let⟨dz,ez,hz⟩:=mm (xs:=[D.int 0,.int 1,.int 2,.int 0,.int 1,.int 2,.int 4,.int 5]) Y (by exact X);obtain⟨sz,rfl,lz⟩:∃sz:Nat,dz=.int sz/\sz<=5:=by
   rwa[zd,yv,or_false]at hz;rcases hz with rfl|rfl|rfl|rfl|rfl|rfl|rfl|rfl
   ·exact⟨0,rfl,by decide⟩
   ·exact⟨1,rfl,by decide⟩
   ·exact⟨2,rfl,by decide⟩
   ·exact⟨0,rfl,by decide⟩
   ·exact⟨1,rfl,by decide⟩
   ·exact⟨2,rfl,by decide⟩
   ·exact⟨4,rfl,by decide⟩
   ·exact⟨5,rfl,by decide⟩
  have CW:jf<a.length:=by
   let⟨_,_,_,e⟩:=U.keep y;exact(zz.mp e).1
  have lM:=zG H.len y.len;ac_rfl;refine⟨by lk,by lk,by lk,by lk,_,ae _ _,?_⟩;ac_rfl;exists _,ez;generalize w:a++[MO.lst (ws.map D.str)]++[MO.lst [D.ob jn,D.ob jt]]++[MO.lst [D.int 0,.int 1,.int 2,.int 0,.int 1,.int 2,.int 4,.int 5]]=M7;have g7:Gr a M7:=w▸((Gr.app _ _).snoc _).snoc _;have YM:M7[a.length]?=some (.lst (ws.map D.str)):=by rw[<- w];exact(Gr.app _ _).keep _ _ ((Gr.app _ _).keep _ _ (ae _ _))
  have Zu:M7[(a++[MO.lst (ws.map D.str)]).length]?=some (.lst [D.ob jn,D.ob jt]):=by rw[<- w];exact(Gr.app _ _).keep _ _ (ae _ _)
  clear w;have gg:=H.trans (.of (y.trans g7));have F7:=U.keep (y.trans g7);refine v F7 (N.go gg C) (T.go gg O) C O lz YM (by lk) l (by lk) Zu (by rw[zx];lk) λ j z M8 L p2 p3 p4 p5 Z=>?_;exact q j z M8 L p2 p3 (gg.trans p4) p5 (zG gg.len Z)
def Rk(g:Gx jf M M')(h:M.length<=j)(o:MO):Gx jf M (M'.set j o):=⟨λ k u a e=>by
 rw[zc (by have:=(zz.mp e).1;lk)];exact g.keep k u a e,by rw[yq];exact g.len⟩
def Ry(F:Fd M jf)(h:j≠jf)(o:MO):Fd (M.set j o) jf:=let ⟨sc,i,a,e⟩:=F;⟨sc,i,a,by rw[zc h];exact e⟩
def Fd.lt(F:Fd M jf):jf<M.length:=let ⟨_,_,_,e⟩:=F;(zz.mp e).1
abbrev TX(Q:D->MH->Prop)(M:MH)(jf:Nat):Prop:=∀(j:Nat) (ds:List Nat) (a:MH),a[j]?=some (.lst (bo ds))->ds≠[]->ds.length<=22->(∀d∈ds,d<5)->Gx jf M a->Fd a jf->M.length<=j->Q (.ob j) a
def km(a b:List Nat):bo a++bo b=bo (a++b):=by unfold bo;rw[zf]
def Oq(k:Nat)(M:MH)(F:Fd M jf)(q:TX Q M jf):W ((cx srt (k+2)).fn "_law_deeps" [.ob jf]) M Q:=by
 have big:=aj;have CW:=F.lt;rw[aP "_law_deeps" 5 1 hY rfl,wf,hY];ac_rfl;refine bO k M F _ (by lk) λ w b a1 b1 u I=>?_;have X:=u.len;ac_rfl;cases h0:(w==0) with
 |true =>
  refine sT rfl ?_;ac_rfl;refine⟨by lk,?_⟩;have aT:[D.int 0,D.int 1,D.int 2,D.int 2,D.int 1,D.int 2,D.int 3,D.int 4,D.int 4,D.int 4,D.int 4,D.int 4,D.int 1,D.int 2,D.int 3,D.int 3,D.int 2,D.int 2,D.int 1,D.int 2]=bo [0,1,2,2,1,2,3,4,4,4,4,4,1,2,3,3,2,2,1,2]:=rfl;rw[aT];have R:∀d∈[0,1,2,2,1,2,3,4,4,4,4,4,1,2,3,3,2,2,1,2],d<5:=by decide
  have gu:[0,1,2,2,1,2,3,4,4,4,4,4,1,2,3,3,2,2,1,2].length=20:=rfl;generalize [0,1,2,2,1,2,3,4,4,4,4,4,1,2,3,3,2,2,1,2]=A at R gu;have c:Gr b (b++[MO.lst (bo A)]):=Gr.app _ _;have p:(b++[MO.lst (bo A)])[b.length]?=some (.lst (bo A)):=ae _ _;generalize b++[MO.lst (bo A)]=M2 at c p ⊢;refine bO k M2 (I.keep c) _ (by lk) λ r v a3 b3 f H=>?_;have m:=f.keep _ _ (by lk) p;ac_rfl;refine⟨⟨by lk,by lk⟩,by rw[bw];lk,?_⟩;refine bJ (λ i j a=>a=v/\j=bo (yx i 1)) ⟨rfl,rfl⟩ (λ _ _ _ _=>trivial) ?_ ?_
  ·rintro i x j a hx ⟨rfl,rfl⟩
   symm;rw[<- wH,wD,<- km];rfl
  ·rintro j a ⟨rfl,rfl⟩
   rw[bw];have gg:=(u.trans (.of c)).trans f
   have:=gg.len
   symm;refine⟨_,(Gr.app _ _).keep _ _ m,_,ae _ _,by rw[cI,cI,yz];lk,?_⟩;rw[km];refine q _ _ _ (ae _ _) (by intro z;rw[wl]at z;rw[z.1]at gu;cases gu) (by rw[zx,yz];lk) (λ d hd=>?_) (gg.trans (.of ((Gr.app _ _).snoc _))) (H.keep ((Gr.app _ _).snoc _)) (by rwa[zx];lk);rcases zQ.mp hd with hd|hd
   ·exact R d hd
   ·rw[(wQ.mp hd).2];decide
 |false =>
  refine sF rfl ?_;ac_rfl;cases h1:(w==1) with
  |true =>
   refine sT rfl ?_;ac_rfl;refine bO k b I _ (by lk) λ e M2 a2 b2 c F2=>?_;let⟨e,rfl⟩:=yK a2;have l2:=c.len;ac_rfl;refine⟨by lk,_,ae _ _,?_⟩;have Z:[D.int 0,D.int 1,D.int 1]=bo [0,1,1]:=rfl;rw[Z,fQ _ (by lk),show (bo [0,1,1]).take ((1:Int)+(e:Int)).toNat=bo ([0,1,1].take (1+e)) by unfold bo;rw[<- yO,show ((1:Int)+(e:Int)).toNat=1+e by lk]];have K:[0,1,1].take (1+e)≠[]:=by rw[wu];exact yF _ _
   have N:∀d∈[0,1,1].take (1+e),d<5:=λ d hd=>by
    have:=yH hd
    rwa[zd,yv,or_false]at this;lk
   have U:([0,1,1].take (1+e)).length<=3:=by rw[zS];exact xW _ _
   generalize [0,1,1].take (1+e)=A at K N U;have f:Gr M2 (M2++[MO.lst (bo [0,1,1])]++[MO.lst (bo A)]):=(Gr.app _ _).snoc _;have m:(M2++[MO.lst (bo [0,1,1])]++[MO.lst (bo A)])[(M2++[MO.lst (bo [0,1,1])]).length]?=some (.lst (bo A)):=ae _ _;have V:M2.length<=(M2++[MO.lst (bo [0,1,1])]).length:=by rw[zx];lk
   generalize M2++[MO.lst (bo [0,1,1])]++[MO.lst (bo A)]=v at f m ⊢;generalize (M2++[MO.lst (bo [0,1,1])]).length=jA at m V ⊢;refine bO k v (F2.keep f) _ (by lk) λ r S O b4 t G=>?_;have Y:=t.keep _ _ (by lk) m;ac_rfl;refine⟨⟨by lk,by lk⟩,by rw[bw];lk,?_⟩;refine bJ (λ i j a=>a=S/\j=bo (yx i (1+e))) ⟨rfl,rfl⟩ (λ _ _ _ _=>trivial) ?_ ?_
   ·rintro i x j a hx ⟨rfl,rfl⟩
    symm;rw[<- wH,wD,<- km];rfl
   ·rintro j a ⟨rfl,rfl⟩
    rw[bw];have gg:=(u.trans c).trans ((Gx.of f).trans t)
    have:=gg.len
    have T:(4+r-0).toNat<=7:=by lk
    generalize (4+r-0).toNat=nn at T;symm;refine⟨_,(Gr.app _ _).keep _ _ Y,_,ae _ _,by rw[cI,cI,yz];lk,by lk,?_⟩;rw[km];refine⟨_,(Gr.app _ _).keep _ _ (ae _ _),_,ae _ _,by rw[cI,zx,yz];show _+2<=_;lk,?_⟩;rw[show [D.int 1,D.int 2]=bo [1,2] from rfl,km];refine q _ _ _ (ae _ _) (by intro z;rw[zU,wl]at z;exact K z.1) (by rw[zx,zx,yz];show _+2<=_;lk) (λ d hd=>?_) (gg.trans (.of ((((Gr.app _ _).snoc _).snoc _).snoc _))) (G.keep ((((Gr.app _ _).snoc _).snoc _).snoc _)) (by rwa[zx];lk);rcases zQ.mp hd with hd|hd
    ·rcases zQ.mp hd with hd|hd
     ·exact N d hd
     ·rw[(wQ.mp hd).2];lk
    ·rwa[zd,yv,or_false]at hd
     lk
  |false =>
   refine sF rfl ?_;ac_rfl;refine⟨by lk,?_⟩;have c:Gr b (b++[MO.lst [D.int 0]]):=Gr.app _ _;have p:(b++[MO.lst [D.int 0]])[b.length]?=some (.lst (bo [0])):=ae _ _;generalize b++[MO.lst [D.int 0]]=M2 at c p ⊢;refine bO k M2 (I.keep c) _ (by lk) λ r v a3 b3 f H=>?_;have m:=f.keep _ _ (by lk) p;have gg:=(u.trans (.of c)).trans f;ac_rfl;refine⟨⟨by lk,by lk⟩,?_⟩;refine dO (λ i ρ a=>Gx jf M a/\Fd a jf/\(∃ds:List Nat,a[b.length]?=some (.lst (bo ds))/\ds≠[]/\ds.length=i+1/\∀d∈ds,d<5)/\∃C B y,ρ=[some (.ob jf),C,B,some (.ob b.length),y])
    ⟨gg,H,⟨[0],m,yF _ _,rfl,by decide⟩,_,_,_,rfl⟩ (λ _ _ _ _=>trivial) ?_ ?_
   ·rintro i x ρ a hx ⟨g,J,⟨ds,hd,nd,E,d5⟩,C,B,y,rfl⟩
    let⟨rfl,hi⟩:=eM hx;obtain⟨l,L⟩:∃l,ds.getLast?=some l:=by
     cases h:ds.getLast? with
     |none=>exact absurd (xt.mp h) nd
     |some l=>exact⟨l,rfl⟩
    have l5:=d5 l (List.mem_of_getLast? L);symm;exists _,hd,_,hd;symm;exists _,sG L;symm;refine bO k a J _ (by lk) λ s S O b4 t G=>?_;have P:=t.keep _ _ (by lk) hd;symm;let⟨s,rfl⟩:=yK O;refine⟨_,P,by rw[cI];lk,Rk (g.trans t) (by lk) _,Ry G (by lk) _,⟨ds++[1+s],?_,by simp,by rw[zx,E];rfl,λ d n=>?_⟩,_,_,_,rfl⟩
    ·rw[lX P,<- km]
     rfl
    ·rcases zQ.mp n with n|n
     ·exact d5 d n
     ·rw[zB.mp n];lk
   ·rintro ρ a ⟨g,J,⟨ds,hd,nd,E,d5⟩,C,B,y,rfl⟩
    rw[bw]at E;symm;exact q _ ds a hd nd (by lk) d5 g J X
noncomputable abbrev Ln:=Nat×List Str
abbrev bE(ps:List Ln):List D:=ps.map λ p=>.ob p.1
abbrev Lq(M:MH)(n:Nat)(ps:List Ln):Prop:=∀p∈ps,M[p.1]?=some (.lst (p.2.map .str))/\Short 125 p.2/\p.2.length<=n
def Lq.keep(h:Lq M n ps)(g:Gr M M'):Lq M' n ps:=λ p a=>⟨g.keep _ _ (h p a).1,(h p a).2⟩
def Lq.app(h:Lq M n ps)(g:Lq M n a):Lq M n (ps++a):=λ p b=>(zQ.mp b).elim (h p) (g p)
def kg(ps:List Ln)(lo hi:Option Int):cutD (bE ps) lo hi=bE (cutD ps lo hi):=by
 unfold cutD bE;rw[zy,<- yV,<- yO]
def Lq.cut(h:Lq M n ps)(lo hi:Option Int):Lq M n (cutD ps lo hi):=λ p a=>h p (by
 unfold cutD at a;exact yb (yH a))
def pk{ps:List Ln}{lo hi:Option Int}{p:Ln}(h:p∈cutD ps lo hi):p∈ps:=by
 unfold cutD at h;exact yb (yH h)
def l8(a b:List Ln):bE a++bE b=bE (a++b):=by unfold bE;rw[zf]
def gn(ps:List Ln):(bE ps).length=ps.length:=by unfold bE;rw[zy]
def Lq.lo{M:MH}{n jl:Nat}{ps:List Ln}(h:Lq M n ps)(d:n<=14)(e:M[jl]?=some (.lst (bE ps)))(l:ps.length<=60):Lo M jl (ps.map (·.2))/\Lw (ps.map (·.2)) 60:=by
 refine⟨⟨ps.map (·.1),by rw[zy,zy],by rw[e,xh];rfl,λ i f ws c b=>?_⟩,by rw[zy];exact l,λ ws hw=>?_⟩
 ·rw[zm]at c b
  let⟨p,a,rfl⟩:=zp.mp c;rw[a]at b;cases b;exact(h p (zl a)).1
 ·let⟨p,a,rfl⟩:=yl.mp hw
  exact⟨(h p a).2.1,zG (h p a).2.2 d⟩
abbrev oy(Q:D->MH->Prop)(M:MH)(jf:Nat):Prop:=∀(j:Nat) (ps:List Ln) (a:MH),a[j]?=some (.lst (bE ps))->Lq a 13 ps->ps.length<=60->Gx jf M a->Fd a jf->Q (.ob j) a
def Su(k:Nat)(M:MH)(F:Fd M jf)(b:M[jl]?=some (.lst (bE ps)))(a:Lq M 13 ps)(f:ps.length<=22)(e:M[j5]?=some (.lst (vs.map .str)))(sv:Short 125 vs)(c:vs.length<=13)(q:oy Q M jf) :
  V (bu (cx srt (k+1)) (av 9 aX) [some (.ob jf),some (.ob jl),x2,x3,some (.int n),some (.ob j5),x6,x7]) M (dN Q):=by
 have big:=aj;have h:=iJ ps none (some n);have g:=iJ ps (some (n+1)) none;rwa[aX,bG,bH];symm;refine⟨_,b,by lk,?_⟩;rw[kg];refine⟨_,(Gr.app _ _).keep _ _ (ae _ _),_,ae _ _,by rw[gn];show _+1<=_;lk,_,(((Gr.app _ _).snoc _).snoc _).keep _ _ b,?_⟩;rw[kg,show bE (cutD ps none (some n))++[D.ob j5]=bE (cutD ps none (some n)++[(j5,vs)]) by rw[<- l8];rfl];refine⟨_,(Gr.app _ _).keep _ _ (ae _ _),_,ae _ _,by rw[gn,gn,zx];show _+1+_<=_;lk,?_⟩;rw[l8];refine q _ _ _ (ae _ _) ?_ (by rw[zx,zx];show _+1+_<=_;lk) (.of ((((Gr.app _ _).snoc _).snoc _).snoc _ |>.snoc _)) (F.keep ((((Gr.app _ _).snoc _).snoc _).snoc _ |>.snoc _))
 exact Lq.keep (((a.cut _ _).app λ p d=>by rw[zB.mp d];exact⟨e,sv,c⟩).app (a.cut _ _)) ((((Gr.app _ _).snoc _).snoc _).snoc _ |>.snoc _)
abbrev mE:List Str->dE
 |[]=>.nil
 |x::r=>.cons (.cstr x) (mE r)
def mz:∀(us:List Str) {M:MH} {Q:List D->MH->Prop},V (fE Γ (mE us) ρ) M Q=Q (us.map .str) M
 |[],M,Q=>by rw[mE,MN];rfl
 |x::r,M,Q=>by
  rw[mE,IU,OL,mz r];rfl
abbrev Lv:List Str:=["0","1","2","4","5","-1","00","01","on","off","ON","-","","a","a,b","a,a","a,,b","a,"]
abbrev Lu:List Str:=["a,b,c,d,e","abcdefghi","1000000000","1000000001","10000000000","a=b","zz=b|c","a!b|b"]
abbrev Lr:List Str:=["a=","x+","+1","1_0","1.0","1e1"]
def Qo:Short 125 (Lv++Lu++Lr)/\Lv.length=18/\Lu.length=8/\Lr.length=6:=by
 unfold Short;decide +kernel
def Sv(k:Nat)(M:MH)(F:Fd M jf)(tX:jl≠jf)(e:∀p∈ps,p.1≠jf)(X:M[jl]?=some (.lst (bE ps)))(K:Lq M 11 ps)(I:ps.length<=22)(np:ps≠[])(lu:u.length<=125)(q:oy Q M jf) :
  V (bu (cx srt (k+1)) (av 4 aX) [some (.ob jf),some (.ob jl),x2,some (.str u),none,none,none,none]) M (dN Q):=by
 have big:=aj;have p0:0<ps.length:=List.length_pos_iff.mpr np;have f:=λ {M:MH} {j5:Nat} {n:Int} {x2 x3 x6 x7:Option D} {vs:List Str}=>Su (srt:=srt) k M (jf:=jf) (jl:=jl) (j5:=j5) (n:=n) (x2:=x2) (x3:=x3) (x6:=x6) (x7:=x7) (ps:=ps) (vs:=vs) (Q:=Q);rw[show av 4 aX=fq 5 (av 4 aX) (av 9 aX) from rfl];generalize av 9 aX=tl at f ⊢;rwa[aX,bG,bH,dh,di];ac_rfl;exists _,X;ac_rfl;rw[gn];refine bO k M F _ (by lk) λ a M1 a1 R Z F1=>?_;have pR:=Z.keep _ _ tX X;let⟨a,rfl⟩:=yK a1;have eN:=zu (l:=ps) (i:=a) (by lk);have L:=zl eN;generalize ps[a]=p at eN L;let⟨hj,S,lw⟩:=K p L;have ji:=Z.keep _ _ (e p L) hj;have ea:de (bE ps) (a:Int)=some (.ob p.1):=bN (by unfold bE;rw[zm,eN];rfl);ac_rfl;exists _,pR;ac_rfl;exists _,ea;ac_rfl;exists _,ji;ac_rfl;rw[zy];refine bO k M1 F1 _ (by lk) λ b M2 a2 P g2 F2=>?_;ac_rfl;refine bO k M2 F2 _ (by lk) λ way d a3 O g3 y=>?_;have gg:=(Z.trans g2).trans g3;have t:=gg.keep _ _ tX X;have v:=gg.keep _ _ (e p L) hj;have s:Lq d 13 ps:=λ x hx=>⟨gg.keep _ _ (e x hx) (K x hx).1,(K x hx).2.1,zG (K x hx).2.2 (by decide)⟩;have W:oy Q d jf:=λ j U M' R P O b4 b5=>q j U M' R P O (gg.trans b4) b5;have H:∀{m:MH},Gr d m->oy Q m jf:=λ g j U M' R P O b4 b5=>W j U M' R P O ((Gx.of g).trans b4) b5;have e1:cutD (p.2.map D.str) none (some b)=(p.2.take b.toNat).map D.str:=by rw[fQ _ a2,<- yO]
 have e2:cutD (p.2.map D.str) (some b) none=(p.2.drop b.toNat).map D.str:=by rw[gY _ a2,<- yV]
 have e3:cutD (p.2.map D.str) (some (b+1)) none=(p.2.drop (b+1).toNat).map D.str:=by rw[gY _ (by lk),<- yV]
 have z:Short 125 (p.2.take b.toNat):=λ x hx=>S x (yH hx);have s2:Short 125 (p.2.drop b.toNat):=λ x hx=>S x (yb hx);have T:Short 125 (p.2.drop (b+1).toNat):=λ x hx=>S x (yb hx);have Ur:(p.2.take b.toNat).length+(p.2.drop b.toNat).length<=11:=by rw[zS,yr];lk
 have Uq:(p.2.take b.toNat).length+(p.2.drop (b+1).toNat).length<=11:=by rw[zS,yr];lk
 generalize p.2.take b.toNat=us at e1 z Ur Uq;generalize p.2.drop b.toNat=vs at e2 s2 Ur;generalize p.2.drop (b+1).toNat=zs at e3 T Uq;have s0:Short 125 [u]:=Short.one lu;ac_rfl;cases h1:decide (way<2) with
 |true =>
  refine sT rfl ?_;ac_rfl;refine⟨_,v,by lk,?_⟩;rw[e1];refine⟨_,(Gr.app _ _).keep _ _ (ae _ _),_,ae _ _,by rw[zy];show _+1<=_;lk,_,(((Gr.app _ _).snoc _).snoc _).keep _ _ v,?_⟩;rw[e2,show us.map D.str++[D.str u]=(us++[u]).map D.str by rw[zf];rfl];refine⟨_,(Gr.app _ _).keep _ _ (ae _ _),_,ae _ _,by rw[zy,zy,zx];show _+1+_<=_;lk,?_⟩;rw[<- zf];have c:Gr d (d++[MO.lst (us.map D.str)]++[MO.lst [D.str u]]++[MO.lst ((us++[u]).map D.str)]++[MO.lst (vs.map D.str)]++[MO.lst ((us++[u]++vs).map D.str)]):=((((Gr.app _ _).snoc _).snoc _).snoc _).snoc _;exact f (y.keep c) (c.keep _ _ t) (s.keep c) I (ae _ _) ((z.app s0).app s2) (by rw[zx,zx];show _+1+_<=_;lk) (H c)
 |false =>
  refine sF rfl ?_;ac_rfl;cases h2:decide (way<5) with
  |true =>
   refine sT rfl ?_;ac_rfl;refine⟨_,v,by lk,?_⟩;rw[e1];refine⟨_,(Gr.app _ _).keep _ _ (ae _ _),_,ae _ _,by rw[zy];show _+1<=_;lk,_,(((Gr.app _ _).snoc _).snoc _).keep _ _ v,?_⟩;rw[e3,show us.map D.str++[D.str u]=(us++[u]).map D.str by rw[zf];rfl];refine⟨_,(Gr.app _ _).keep _ _ (ae _ _),_,ae _ _,by rw[zy,zy,zx];show _+1+_<=_;lk,?_⟩;rw[<- zf];have c:Gr d (d++[MO.lst (us.map D.str)]++[MO.lst [D.str u]]++[MO.lst ((us++[u]).map D.str)]++[MO.lst (zs.map D.str)]++[MO.lst ((us++[u]++zs).map D.str)]):=((((Gr.app _ _).snoc _).snoc _).snoc _).snoc _;exact f (y.keep c) (c.keep _ _ t) (s.keep c) I (ae _ _) ((z.app s0).app T) (by rw[zx,zx];show _+1+_<=_;lk) (H c)
  |false =>
   refine sF rfl ?_;ac_rfl;cases h5:(way==5) with
   |true =>
    refine sT rfl ?_;ac_rfl;exists _,v;rw[e1];exists _,(Gr.app _ _).keep _ _ v;rw[e3];refine⟨_,(Gr.app _ _).keep _ _ (ae _ _),_,ae _ _,by rw[zy,zy];lk,?_⟩;rw[<- zf];have c:Gr d (d++[MO.lst (us.map D.str)]++[MO.lst (zs.map D.str)]++[MO.lst ((us++zs).map D.str)]):=((Gr.app _ _).snoc _).snoc _;exact f (y.keep c) (c.keep _ _ t) (s.keep c) I (ae _ _) (z.app T) (by rw[zx];lk) (H c)
   |false =>
    refine sF rfl ?_;ac_rfl;cases h6:(way==6) with
    |true =>
     refine sT rfl ?_;ac_rfl;exists _,v;rw[e1];have c:Gr d (d++[MO.lst (us.map D.str)]):=Gr.app _ _;exact f (y.keep c) (c.keep _ _ t) (s.keep c) I (ae _ _) z (by lk) (H c)
    |false =>
     refine sF rfl ?_;ac_rfl;have c1:=iJ ps none (some (a:Int));have c2:=iJ ps (some ((a:Int)+1)) none;have c3:=iJ ps none (some ((a:Int)+1));have c4:=iJ ps (some (a:Int)) none;have k1:=s.cut none (some (a:Int));have k2:=s.cut (some ((a:Int)+1)) none;have k3:=s.cut none (some ((a:Int)+1));have k4:=s.cut (some (a:Int)) none;have m1:∀p∈cutD ps none (some (a:Int)),p.1≠jf:=λ p h=>e p (pk h);have m2:∀p∈cutD ps (some ((a:Int)+1)) none,p.1≠jf:=λ p h=>e p (pk h);have m3:∀p∈cutD ps none (some ((a:Int)+1)),p.1≠jf:=λ p h=>e p (pk h);have m4:∀p∈cutD ps (some (a:Int)) none,p.1≠jf:=λ p h=>e p (pk h);exists _,t;rw[kg];exists _,(Gr.app _ _).keep _ _ t;rw[kg];generalize cutD ps none (some (a:Int))=A at c1 k1 m1;generalize cutD ps (some ((a:Int)+1)) none=B at c2 k2 m2;refine⟨_,(Gr.app _ _).keep _ _ (ae _ _),_,ae _ _,by rw[gn,gn];lk,?_⟩;rw[l8];have c:Gr d (d++[MO.lst (bE A)]++[MO.lst (bE B)]++[MO.lst (bE (A++B))]):=((Gr.app _ _).snoc _).snoc _;have Y:(d++[MO.lst (bE A)]++[MO.lst (bE B)]++[MO.lst (bE (A++B))])[(d++[MO.lst (bE A)]++[MO.lst (bE B)]).length]?=some (.lst (bE (A++B))):=ae _ _;have n4:d.length<=(d++[MO.lst (bE A)]++[MO.lst (bE B)]).length:=by rwa[zx];lk
     generalize d++[MO.lst (bE A)]++[MO.lst (bE B)]++[MO.lst (bE (A++B))]=m at c Y ⊢;generalize (d++[MO.lst (bE A)]++[MO.lst (bE B)]).length=jA at Y n4 ⊢;exists _,c.keep _ _ t;rw[kg];exists _,(Gr.app _ _).keep _ _ (c.keep _ _ t);rw[kg];generalize cutD ps none (some ((a:Int)+1))=C at c3 k3 m3;generalize cutD ps (some (a:Int)) none=E at c4 k4 m4;refine⟨_,(Gr.app _ _).keep _ _ (ae _ _),_,ae _ _,by rw[gn,gn];lk,by lk,?_⟩;rw[l8];have g5:Gr m (m++[MO.lst (bE C)]++[MO.lst (bE E)]++[MO.lst (bE (C++E))]):=((Gr.app _ _).snoc _).snoc _;have w:(m++[MO.lst (bE C)]++[MO.lst (bE E)]++[MO.lst (bE (C++E))])[(m++[MO.lst (bE C)]++[MO.lst (bE E)]).length]?=some (.lst (bE (C++E))):=ae _ _;have n5:m.length<=(m++[MO.lst (bE C)]++[MO.lst (bE E)]).length:=by rwa[zx];lk
     generalize m++[MO.lst (bE C)]++[MO.lst (bE E)]++[MO.lst (bE (C++E))]=M5 at g5 w ⊢;generalize (m++[MO.lst (bE C)]++[MO.lst (bE E)]).length=jC at w n5 ⊢;have N:=c.trans (g5.snoc (MO.lst [D.ob jA,D.ob jC]));have G:(M5++[MO.lst [D.ob jA,D.ob jC]])[M5.length]?=some (.lst [D.ob jA,D.ob jC]):=ae _ _;have hA:(M5++[MO.lst [D.ob jA,D.ob jC]])[jA]?=some (.lst (bE (A++B))):=(g5.snoc _).keep _ _ Y;have hC:(M5++[MO.lst [D.ob jA,D.ob jC]])[jC]?=some (.lst (bE (C++E))):=(Gr.app _ _).keep _ _ w;have CW:=y.lt;have l5:=(c.trans g5).len;have l4:=c.len;generalize M5++[MO.lst [D.ob jA,D.ob jC]]=M6 at N G hA hC ⊢;refine bO k M6 (y.keep N) _ (by lk) λ r M7 a7 b7 g7 F7=>?_;have J:∀{ps:List Ln},Lq d 13 ps->(∀p∈ps,p.1≠jf)->Lq M7 13 ps:=λ h hf x hx=>⟨g7.keep _ _ (hf x hx) ((h.keep N) x hx).1,(h x hx).2⟩;have gq:=(Gx.of N).trans g7;have ZG:=g7.keep _ _ (by lk) G;symm;exists _,ZG;symm;have XY:r=0\/r=1:=by lk
     rcases XY with rfl|rfl
     ·exact⟨_,rfl,W jA (A++B) M7 (g7.keep _ _ (by lk) hA) ((J k1 m1).app (J k2 m2)) (by rw[zx];lk) gq F7⟩
     ·exact⟨_,rfl,W jC (C++E) M7 (g7.keep _ _ (by lk) hC) ((J k3 m3).app (J k4 m4)) (by rw[zx];lk) gq F7⟩
def Jg(k:Nat)(M:MH)(F:Fd M jf)(g:jl≠jf)(b:∀p∈ps,p.1≠jf)(y:M[jl]?=some (.lst (bE ps)))(h:Lq M 11 ps)(v:ps.length<=22)(np:ps≠[])(q:oy Q M jf):W ((cx srt (k+2)).fn "_law_spoilt" [.ob jf,.ob jl]) M Q:=by
 have big:=aj;have R:=F.lt;have d:=λ {M:MH} {x2:Option D} {u:Str}=>Sv (srt:=srt) k M (jf:=jf) (jl:=jl) (x2:=x2) (u:=u) (ps:=ps) (Q:=Q);let⟨a,s,n,m⟩:=Qo;rw[aP "_law_spoilt" 8 2 aX rfl,wf,show aX=.cons (.set 2 (.lst (mE Lv))) (.cons (.set 2 (.bin .Add (.var 2) (.lst (mE Lu)))) (.cons (.set 2 (.bin .Add (.var 2) (.lst (mE Lr)))) (fq 1 (av 3 aX) (av 4 aX)))) from rfl];generalize av 4 aX=tl at d ⊢;generalize Lv=A at a s;generalize Lu=B at a n;generalize Lr=C at a m;rwa[aX,bG,bH,dh,di];ac_rfl;rw[mz];refine⟨by rw[zy];lk,?_⟩;ac_rfl;rw[mz];refine⟨by rw[zy];lk,?_⟩;ac_rfl;refine⟨_,(Gr.app _ _).keep _ _ (ae _ _),_,ae _ _,by rw[zy,zy];lk,?_⟩;rw[mz,<- zf];refine⟨by rw[zy];lk,?_⟩;ac_rfl;refine⟨_,(Gr.app _ _).keep _ _ (ae _ _),_,ae _ _,by rw[zy,zy,zx];lk,?_⟩;rw[<- zf];have w:(A++B++C).length=32:=by rw[zx,zx];lk
 have f:Gr M (M++[MO.lst (A.map D.str)]++[MO.lst (B.map D.str)]++[MO.lst ((A++B).map D.str)]++[MO.lst (C.map D.str)]++[MO.lst ((A++B++C).map D.str)]):=((((Gr.app _ _).snoc _).snoc _).snoc _).snoc _;have c:(M++[MO.lst (A.map D.str)]++[MO.lst (B.map D.str)]++[MO.lst ((A++B).map D.str)]++[MO.lst (C.map D.str)]++[MO.lst ((A++B++C).map D.str)])[(M++[MO.lst (A.map D.str)]++[MO.lst (B.map D.str)]++[MO.lst ((A++B).map D.str)]++[MO.lst (C.map D.str)]).length]?=some (.lst ((A++B++C).map D.str)):=ae _ _;have x:M.length<(M++[MO.lst (A.map D.str)]++[MO.lst (B.map D.str)]++[MO.lst ((A++B).map D.str)]++[MO.lst (C.map D.str)]).length:=by rwa[zx,zj,zT];lk
 generalize M++[MO.lst (A.map D.str)]++[MO.lst (B.map D.str)]++[MO.lst ((A++B).map D.str)]++[MO.lst (C.map D.str)]++[MO.lst ((A++B++C).map D.str)]=M1 at f c ⊢;generalize (M++[MO.lst (A.map D.str)]++[MO.lst (B.map D.str)]++[MO.lst ((A++B).map D.str)]++[MO.lst (C.map D.str)]).length=jm at c x ⊢;generalize A++B++C=Z at a c w;exists _,c;ac_rfl;rw[zy];refine bO k M1 (F.keep f) _ (by lk) λ r P L K i O=>?_;let⟨u,z,t⟩:=Sl.at a L K;have gg:=(Gx.of f).trans i;ac_rfl;refine⟨_,i.keep _ _ (by lk) c,?_⟩;ac_rfl;exists _,z;exact d O g b (gg.keep _ _ g y) (λ p e=>⟨gg.keep _ _ (b p e) (h p e).1,(h p e).2⟩) v np t λ j l N J I H G E=>q j l N J I H (gg.trans G) E
def Tj(M:MH){jl:Nat}{x0 x2 x3 x4:Option D}{ps:List Ln}(F:Fd M 0)(s:jl≠0)(e:∀p∈ps,p.1≠0)(t:M[jl]?=some (.lst (bE ps)))(h:Lq M 11 ps)(x:ps.length<=22)(np:ps≠[]) :
  V (bu (cx srt 39) (av 5 lD) [x0,some (.ob 0),x2,x3,x4,some (.ob jl),none,none]) M (dN λ d _=>d=.bl true):=by
 have big:=aj;let⟨L,y⟩:=h.lo (by decide) t (by lk);rwa[lD,bG,bH];ac_rfl;refine sa 9 M L y λ K u=>?_;ac_rfl;refine sF rfl ?_;ac_rfl;refine bO 38 K (F.keep u) _ (by lk) λ r M2 R Q z N=>?_;have gg:Gx 0 M M2:=(Gx.of u).trans z;ac_rfl;refine⟨⟨by lk,by lk⟩,?_⟩;have lo:∀{a:MH},Gx 0 M a->a[jl]?=some (.lst (bE ps))/\Lq a 11 ps:=λ g=>⟨g.keep _ _ s t,λ p l=>⟨g.keep _ _ (e p l) (h p l).1,(h p l).2⟩⟩;refine dO (λ i ρ a=>Gx 0 M a/\Fd a 0/\∃f,ρ=[x0,some (.ob 0),x2,x3,x4,some (.ob jl),f,none]) ⟨gg,N,_,rfl⟩ (λ _ _ _ _=>trivial) ?_ ?_
 ·rintro i d ρ a hd ⟨g,v,f,rfl⟩
  let⟨c,b⟩:=lo g;ac_rfl;refine Jg 37 a v s e c b x np λ j O n H G E C B=>?_;let⟨q,J⟩:=G.lo (by decide) H E;ac_rfl;refine sa 9 n q J λ S m=>?_;ac_rfl;refine sF rfl ?_;symm;exact⟨g.trans (C.trans (.of m)),B.keep m,_,rfl⟩
 ·rintro ρ a ⟨g,v,f,rfl⟩
  let⟨c,b⟩:=lo g;let⟨L2,I⟩:=b.lo (by decide) c (by lk);symm;refine sa 9 a L2 I λ n P=>?_;symm;refine⟨by lk,by lk,?_⟩;let⟨w,e1,A,m⟩:=nk (srt:=srt) 29 (n++[MO.lst []]) (ae _ _);exact⟨w.2,Ef (k:=38) e1 A (by decide) (by decide)⟩
def Th(sc:List Int):W (AA srt [.fl (sc.map .int)]) [] λ d _=>d=.bl true:=by
 have big:=aj;have e:=λ {M:MH} {jl:Nat} {x0 x2 x3 x4:Option D} {ps:List Ln}=>Tj (srt:=srt) M (jl:=jl) (x0:=x0) (x2:=x2) (x3:=x3) (x4:=x4) (ps:=ps);rw[TJ,wf,jY 5 lD];generalize av 5 lD=tl at e ⊢;rwa[lD,dh,di];ac_rfl;refine⟨by lk,?_⟩;have n:Fd [MO.lst [.fl (sc.map .int),.int 0]] 0:=⟨sc,0,by decide,rfl⟩;generalize ([MO.lst [D.fl (sc.map .int),.int 0]]:MH)=M0 at n ⊢;refine NS 37 M0 n λ Y K N g1 u O=>?_;ac_rfl;refine IW 37 K u λ X J T E t lt=>?_;have V:=n.lt;have U:=u.lt;have S:=t.lt;have H:=N.go E (by lk);ac_rfl;refine Oq 37 J t λ Z ds I hd nd Q d5 r s A=>?_;have G:=H.go r (by lk);have F:=T.go r (by lk);have R:=s.lt;ac_rfl;refine⟨_,hd,by rw[cI];lk,?_⟩;refine bJ (λ i l c=>Gx 0 I c/\Fd c 0/\∃ps:List Ln,l=bE ps/\ps.length=i/\(∀p∈ps,p.1≠0)/\Lq c 11 ps) ⟨.refl,s,[],rfl,rfl,(λ _ h=>nomatch h),λ _ h=>nomatch h⟩ (λ _ _ _ h=>h.1.keep _ _ (by lk) hd) ?_ ?_
 ·rintro i x l c hx ⟨g,f,ps,rfl,hi,b,k⟩
  unfold bo at hx;rw[zm]at hx;let⟨d,y,rfl⟩:=zp.mp hx;have m:=g.keep _ _ (by lk) hd;symm;exists _,m;symm;rw[cI];refine MM 36 c f (G.go g (by lk)) (F.go g (by lk)) (by lk) (by lk) (d5 d (zl y)) λ j v M4 C w l4 q L P=>?_;have B:=f.lt;refine⟨g.trans q,L,ps++[(j,v)],by rw[<- l8];rfl,by rw[zx,hi];rfl,λ p a=>?_,λ p a=>?_⟩
  ·rcases zQ.mp a with a|a
   ·exact b p a
   ·rw[zB.mp a]
    show j≠0;lk
  ·rcases zQ.mp a with a|a
   ·exact⟨q.keep _ _ (b p a) (k p a).1,(k p a).2⟩
   ·rw[zB.mp a]
    exact⟨C,w,l4⟩
 ·rintro l c ⟨g,f,ps,rfl,hi,b,k⟩
  rw[cI]at hi;have B:=f.lt;ac_rfl;refine e (f.keep (Gr.app _ _)) (by lk) b (ae _ _) (k.keep (Gr.app _ _)) (by lk) λ z=>nd ?_;rw[z,zT]at hi;exact yW.mp hi.symm
def Tn(ns:List Int)(_:ns.length<=63):∃M',AA srt [.fl (ns.map .int)] []=some (.ok (.bl true),M'):=by
 let⟨a,M',e,rfl⟩:=Th (srt:=srt) ns;exact⟨M',e⟩
end
open PySem PySem.Spec PySem.Calls PyProof.Rows L2 L3
abbrev HR:List Str:=["LETTERS","FIGURES","LONGEST_NAME","LONGEST_VALUE","NONE","MOST_ASKINGS","MOST_VALUES","AHEAD","DEEPEST","MOST_ROWS","MOST_BELOW","MOST_NAMES","MOST_NAMES_ASKED","MOST_VALUES_ASKED","MOST_FIGURES","GREATEST"]
abbrev Mw:List Str:=["ValueError","all","enumerate","int","isinstance","len","min","range","repr","reversed","set","sorted","str","tuple"]
abbrev ents:List Ent:=[EE (top 5) [] lC,EE (top 6) [] lF,EE (top 7) [] j4,EE (top 9) [] jZ,EE (top 10) ["values","asking"] eU,EE (top 22) [] g9,EE (top 28) [] hG,EE (top 29) ["kind","sign","parts"] gb,EE (top 30) ["values"] iV,EE (top 31) ["askings","word","asking"] eV,EE (top 42) ["beside","other"] fY,EE (top 43) ["depth"] ka,EE (top 44) [] iU,EE (top 45) [] g8,EE (top 46) [] iW,EE (top 47) [] dS,EE (top 48) [] j6,EE (top 49) ["at","word"] fZ,EE (top 50) ["askings","values"] rK,EE (top 51) ["found","asking"] lG,EE (top 52) ["askings"] ay,EE (top 53) ["right","askings","on"] cY,EE (top 54) ["waiting","k","depth","row"] m8,EE (top 55) ["rows","depths","asked","number","text","words","row"] a9,EE (top 57) ["_law_cell","_law_mixed"] dX,EE (top 58) ["_law_word","_law_k"] hU,EE (top 59) ["_law_letters","_law_base","_law_size","_law_at","_law_first"] hV,EE (top 60) ["_law_signs_here","_law_base","_law_size","_law_at","_law_first"] gf,EE (top 61) ["_law_code","_law_name","_law_word","_law_first","_law_some","_law_more"] cJ,EE (top 62) ["_law_code","_law_first","_law_by","_law_chain","_law_words_here","_law_asked_here","_law_size","_law_askings","_law_more","_law_word","_law_name","_law_some","_law_sign"] aC,EE (top 63) ["_law_sign"] hZ,EE (top 64) ["_law_last","_law_short","_law_signs_here","_law_some","_law_k"] bF,EE (top 65) ["_law_some","_law_k"] hX,EE (top 66) ["_law_number","_law_sign"] fD,EE (top 67) ["_law_deep_here","_law_beside","_law_one"] iY,EE (top 68) ["_law_wider"] bt,EE (top 69) ["_law_asking_here"] bg,EE (top 70) ["_law_deeps_here","_law_asked_here","_law_number","_law_text","_law_words_here","_law_at","_law_word"] cg,EE (top 71) [] iX,EE (top 72) ["_law_deep_here","_law_below","_law_k","_law_words_here","_law_askings","_law_fields"] cj,EE (top 73) ["_law_way","_law_deep_here","_law_deeps_here","_law_k"] hY,EE (top 74) ["_law_menu","_law_word","_law_number","_law_words_here","_law_at","_law_way"] aX,EE (top 76) ["_law_texts","_law_fault_here"] c0]
def Yh:ents.all CH=true:=by kernel_rfl
def Yj:ents.map (λ e=>cw ⟨ah e.st,e.N,ents.map (·.x),HR,Mw⟩ 200 (aG e.st))=ents.map λ e=>some e.b:=by kernel_rfl
def Yg:ents.map (λ e=>(tabOf ents).lookup e.x)=ents.map λ e=>some ⟨e.N.length,e.ps.length,e.b⟩:=by kernel_rfl
def OW:tabOf ents=tab:=by kernel_rfl
abbrev Pu:List DefRec:=([5,6,7,9,10,22,28,29,30,31,42,43,44,45,46,47,48,49,50,51,52,53,54,55,57,58,59,60,61,62,63,64,65,66,67,68,69,70,71,72,73,74,75,76,77]:List Nat).map λ i=>qb (U5 (top i)) (top i)
def Yi:([0,1,2,3,4,5,6,7,8,9,10,11,12,13,14,15,16,17,18,19,20,21,22,23,24,25,26,27,28,29,30,31,32,33,34,35,36,37,38,39,40,41,43]:List Nat).map (λ i=>Pu[i]?)=ents.map λ e=>some (qb e.x e.st):=by kernel_rfl
abbrev XR(i:Nat):Pos:=([⟨385,8,385,17⟩,⟨385,18,385,28⟩,⟨385,8,385,29⟩,⟨385,8,385,29⟩,⟨390,44,390,45⟩,⟨390,44,390,48⟩,⟨390,36,390,49⟩,⟨385,8,385,29⟩,⟨385,8,385,29⟩,⟨385,8,385,29⟩,⟨385,8,385,29⟩,⟨385,8,385,29⟩,⟨387,8,387,23⟩,⟨387,26,387,36⟩,⟨387,37,387,38⟩,⟨387,40,387,47⟩,⟨387,26,387,48⟩,⟨387,53,387,63⟩,⟨387,64,387,65⟩,⟨387,67,387,77⟩,⟨387,53,387,78⟩,⟨387,26,387,78⟩,⟨387,8,387,78⟩,⟨388,11,388,21⟩,⟨388,22,388,23⟩,⟨388,26,388,33⟩,⟨388,35,388,42⟩,⟨388,44,388,48⟩,⟨388,50,388,57⟩,⟨388,59,388,68⟩,⟨388,70,388,75⟩,⟨388,77,388,84⟩,⟨388,25,388,85⟩,⟨388,11,388,86⟩,⟨389,12,389,27⟩,⟨389,30,389,35⟩,⟨389,12,389,35⟩,⟨388,8,389,35⟩,⟨390,11,390,26⟩,⟨390,31,390,35⟩,⟨390,37,390,38⟩,⟨390,37,390,42⟩,⟨390,31,390,50⟩,⟨390,54,390,58⟩,⟨390,59,390,74⟩,⟨390,54,390,75⟩,⟨390,31,390,75⟩,⟨390,11,390,75⟩,⟨391,12,391,27⟩,⟨391,30,391,35⟩,⟨391,12,391,35⟩,⟨390,8,391,35⟩,⟨386,11,386,21⟩,⟨386,4,391,35⟩,⟨384,4,391,35⟩,⟨383,4,383,19⟩,⟨383,22,383,27⟩,⟨383,4,383,27⟩,⟨392,11,392,26⟩,⟨392,4,392,26⟩]:List Pos).getD i ⟨0,0,0,0⟩
def Nn:aG (top 75)=nR XR:=by kernel_rfl
def SD:qr (ah (top 75)):=⟨by decide +kernel,by decide +kernel⟩
def SG:bX pH lN (ah (top 75)):=⟨rfl,rfl,rfl,by decide +kernel,rfl,by decide +kernel,by decide +kernel⟩
abbrev YG(i:Nat):Pos:=([⟨45,8,45,12⟩,⟨45,8,45,16⟩,⟨45,19,45,22⟩,⟨45,8,45,22⟩,⟨46,8,46,12⟩,⟨46,8,46,15⟩,⟨46,18,46,20⟩,⟨46,8,46,20⟩]:List Pos).getD i ⟨0,0,0,0⟩
def in_text:aG fW=oq YG:=by kernel_rfl
def Tr:∀x∈(["self","row","at"]:List Str),(ah fW).names.lookup x=some .local:=by decide +kernel
def Ts:bX ["self","row","at"] ["self","row","at"] (ah fW):=⟨rfl,rfl,rfl,by decide +kernel,rfl,by decide +kernel,by decide +kernel⟩
def SE:qG.all (λ y=>ents.any λ e=>e.x==y&&eG (nJ y) 200 (aG e.st) e.b)=true:=by kernel_rfl
abbrev Yq(i:Nat):Pos:=([⟨410,4,410,13⟩,⟨410,16,410,23⟩,⟨410,24,410,25⟩,⟨410,27,410,28⟩,⟨410,16,410,29⟩,⟨410,4,410,29⟩,⟨411,68,411,72⟩,⟨411,74,411,83⟩,⟨411,74,411,87⟩,⟨411,89,411,98⟩,⟨411,89,411,101⟩,⟨411,73,411,102⟩,⟨411,68,411,103⟩,⟨411,107,411,115⟩,⟨411,68,411,115⟩,⟨411,11,411,116⟩,⟨411,4,411,116⟩]:List Pos).getD i ⟨0,0,0,0⟩
abbrev Lx(i:Nat):Expr:=match (aG (top 77)).getD 8 (.Pass ⟨0,0,0,0⟩) with
 |.Return (some (.BoolOp _ a _)) _=>a.getD i (.Constant .none 0 ⟨0,0,0,0⟩)
 |_=>.Constant .none 0 ⟨0,0,0,0⟩
abbrev RO:aD:=fq 7 lD .nil
abbrev Uo:List Str:=["_law_script","_law_feed","_law_names_here","_law_told","_law_deeps_here","_law_lines","_law_turn","_law_made"]
abbrev G8:Sc:=⟨ah (top 77),Uo,ents.map (·.x),HR,Mw⟩
abbrev AI:IE:=(.call ("_law_right":Str) (.cons (.var 5) .nil))
abbrev AH:IE:=(.rfs (.cons (.lst .nil) (.cons (.tup (.cons (.cint 0) (.cons (.cint 0) .nil))) .nil)))
def NW:aG (top 77)=(aG (top 77)).take 7++KQ (Lx 0) (Lx 1) Yq:=by kernel_rfl
def VP:cw G8 200 ((aG (top 77)).take 7)=some RO:=by kernel_rfl
def VR:cE G8 200 (Lx 0)=some AI:=by kernel_rfl
def VQ:cE G8 200 (Lx 1)=some AH:=by kernel_rfl
def Td(Γ:L3.Ctx)(ρ:Ev)(M:MH):ag Γ AI (ρ.set 7 none) M=ag Γ AI ρ M:=by
 have e:lK (List.set ρ 7 none) 5=lK ρ 5:=by
  unfold lK;rw[zc (by decide)]
 show ((do let x<-lK (List.set ρ 7 none) 5;let a<-pure [];pure (x::a):Mo (List D)) >>= λ a=>Γ.fn ("_law_right":Str) a) M=_;rw[e];rfl
def Tc(Γ:L3.Ctx)(ρ:Ev)(M:MH):ag Γ AH (ρ.set 7 none) M=ag Γ AH ρ M:=rfl
def Tg:bX Uo ["_law_script"] (ah (top 77)):=⟨rfl,rfl,rfl,by decide +kernel,rfl,by decide +kernel,by decide +kernel⟩
def Tb:(ah (top 77)).names.lookup ("_law_made":Str)=some .local:=by decide +kernel
def Tf:Sc.bz G8 "BadTree" = true:=by decide +kernel
def Te:Sc.bz G8 "repr" = true:=by decide +kernel
def all_mk{P q:uf}{w:ul}{lo:List Str}{p:ExcName->Option jp}{mg c:Str->Option jp}{h:Heap}{b:uc}(T:Top q lo p mg c h)(Y:tf ("SIGN_OF":Str) [(("is":Str),("=":Str)),(("no":Str),("!":Str)),(("there":Str),("+":Str)),(("lacks":Str),("-":Str))] w h/\Bw fW w h)(u:mg "law" = some (.ref b))(r:recsOf q=Pu)(z:Mk q lo Mw=true)
  (n:HR.all (Rn q gl)=true)
  : ∃fd:FuncData,(∀(s:kt) (v:jp),BindsTo s fd ⟨[v],[]⟩ [("_law_script",v)])/\∀base:Heap,(bB h).In base->base.Ns mainGlobals mg->dF P w (bB h) mg base gG 42 b fd ["_law_script"] (kx (bB h) 1 (AA uC)):=by
 have hd:∀e∈ents,oC (bB h) mg ents HR Mw e:=Kj T r Yh _ Yi Yj Yg
 have f:∀x∈HR,nF (bB h) mg gl x:=Rm T n
 have o:∀x,mi x=true->∃a d ks,gl x=some d/\lR d=some ks/\mg x=some (.ref a)/\DH (bB h) P w a ks:=λ x hx=>by
  have e:x=("SIGN_OF":Str):=by simpa [mi] using hx
  subst e
  let⟨a,m,i⟩:=Od (P:=P) T.g Y.1
  exact⟨a,.tup [.tup [.str ("is":Str),.str ("=":Str)],.tup [.str ("no":Str),.str ("!":Str)],.tup [.str ("there":Str),.str ("+":Str)],.tup [.str ("lacks":Str),.str ("-":Str)]],_,by kernel_rfl,by kernel_rfl,m,i⟩
 let⟨_,_,_,t⟩:=IF.Qn (es:=ents) T Y.2 r 42 (by kernel_rfl) (λ _ _ _ _ _ _=>Ui λ _ _=>rfl) (λ _ _ _ _ _ _=>Yd λ _ _ _=>rfl) SG Nn SD Ts in_text Tr (oZ T z _ (by decide +kernel)) (oZ T z _ (by decide +kernel)) (oZ T z _ (by decide +kernel)) (R9 SE)
 have l:=NZ (P:=P) (w:=w) (wh:=1000) (gl:=gl) (srt:=uC) o t (λ k=>Pa (by cases k <;> rfl)) hd f (oZ T z) 39 T r 44 (by kernel_rfl) Tg NW VP VR VQ (j:=7) (by kernel_rfl) Tb Tf Te (by decide +kernel) Td Tc (λ _ _ _ _ _ _ _=>rfl) u
 rw[OW]at l
 exact l
end Law
open PySem PySem.W PyProof.Rows
namespace Law
def tw(m:Nat):∀(n:Nat) (s:kt) (t:Thread),goN c p w a b n s t=some (e,t')->topRun c p w a b (n+m) s t=topRun c p w a b m e t'
 |0,s,t,h=>by
  cases h;rw[vz]
 |n+1,s,t,h=>by
  rw[show n+1+m=(n+m)+1 by lk,topRun];rw[goN]at h;cases h1:through t with
  |true=>rw[h1]at h;cases h
  |false =>
   rw[h1]at h;cases h2:stepOk a b t with
   |false=>rw[h2]at h;cases h
   |true =>
    rw[h2]at h;dsimp only at h ⊢;cases h3:step (denote c) p w s t with
    |go d f =>
     rw[h3]at h;exact tw m n d f h
    |halt o d=>rw[h3]at h;cases h
def of_map{α β:Type}{o:Option α}{f:α->β}{x:β}{a:α}(ho:o=some a)(h:o.map f=some x):f a=x:=by
 subst ho;exact Option.some.inj h
def left:LeftO Law.pG.row.prog Law.vw [("SIGN_OF":Str)] (λ s=>xlAt Law.vw [] s&&recOk (RowW.records (OpenRow.toRowW Law.pG.row)) s) (Hook.obs (L3.gj (L3.kO ("SIGN_OF":Str) [(("is":Str),("=":Str)),(("no":Str),("!":Str)),(("there":Str),("+":Str)),(("lacks":Str),("-":Str))] (by decide +kernel)) (L3.my Law.fW))) (Hook.val (L3.gj (L3.kO ("SIGN_OF":Str) [(("is":Str),("=":Str)),(("no":Str),("!":Str)),(("there":Str),("+":Str)),(("lacks":Str),("-":Str))] (by decide +kernel)) (L3.my Law.fW))) 20000:=λ w=>by
 have A:Ob w:=by
  have e:=World.withFollow_self w "special-get-raises";cases hb:w.params.followText "special-get-raises"
  ·rw[hb]at e
   rw[<- e];exact JK w
  ·rw[hb]at e
   rw[<- e];exact NN w
 have b:=PK w;cases hf:fencedOpening treeTable PP w 20000 with
 |none=>rw[Ob,hf]at A;cases A
 |some s₀ =>
  have a:=of_map hf (b.trans (by rw[hf];rfl:_=some (some (S w s₀,T w s₀))));have A:=of_map hf A;cases hr:Pr w s₀ with
  |none=>rw[hr]at A;cases A
  |some s₁ =>
   have A:=of_map hr A;have f:=(Prod.mk.inj A).1;have B:=(Prod.mk.inj (Prod.mk.inj A).2).1;have C:=(Prod.mk.inj (Prod.mk.inj A).2).2;let⟨d,c⟩:=xv.mp f;have go:=tw 17795 2205 s₀ (topStub PP) a;unfold openEnds;rw[hf];show (topFrom treeTable PP w 20000 s₀).map _=_;unfold topFrom;rw[d];dsimp only;have e:topRun treeTable PP w s₀.heap.objs.size (s₀.heap.nsMap mainGlobals "__annotations__") 20000 s₀ (topStub PP)=some s₁:=go.trans hr;rw[e];show ((match staticsOk (importedModules PP.main.body) s₀.heap s₁.heap&&namesBound PP s₁.heap&&gensDone s₁&&laidKept s₀.heap s₁.heap with
    |true=>some s₁
    |false=>none)).map _=_
   rw[c];show some (sn s₁,ho s₁)=some (GG,hv w);rw[B,C]
end Law
set_option maxRecDepth 100000 in
set_option maxHeartbeats 0 in
def Law.holds2:Law.pG.Holds:=by
 refine holds_law Law.Jn λ Jn=>?_;refine holds_open (q:=Law.vw) (loose:=[("SIGN_OF":Str)]) (Xt:=λ s=>xlAt Law.vw [] s&&recOk (RowW.records (OpenRow.toRowW Law.pG.row)) s) (XP:=XL Law.vw []) (Yf:=Hook.obs (L3.gj (L3.kO ("SIGN_OF":Str) [(("is":Str),("=":Str)),(("no":Str),("!":Str)),(("there":Str),("+":Str)),(("lacks":Str),("-":Str))] (by decide +kernel)) (L3.my Law.fW))) (Ya:=Hook.val (L3.gj (L3.kO ("SIGN_OF":Str) [(("is":Str),("=":Str)),(("no":Str),("!":Str)),(("there":Str),("+":Str)),(("lacks":Str),("-":Str))] (by decide +kernel)) (L3.my Law.fW))) (YP:=Hook.says (L3.gj (L3.kO ("SIGN_OF":Str) [(("is":Str),("=":Str)),(("no":Str),("!":Str)),(("there":Str),("+":Str)),(("lacks":Str),("-":Str))] (by decide +kernel)) (L3.my Law.fW))) (N:=20000) Law.left (Hook.of (L3.gj (L3.kO ("SIGN_OF":Str) [(("is":Str),("=":Str)),(("no":Str),("!":Str)),(("there":Str),("+":Str)),(("lacks":Str),("-":Str))] (by decide +kernel)) (L3.my Law.fW))) (Hook.keeps (L3.gj (L3.kO ("SIGN_OF":Str) [(("is":Str),("=":Str)),(("no":Str),("!":Str)),(("there":Str),("+":Str)),(("lacks":Str),("-":Str))] (by decide +kernel)) (L3.my Law.fW)))
  (λ s e=>xl_of s (xv.mp e).1) XL.keeps (by rfl) (by rfl) (by rfl) (λ s e=>recFacts_of (xv.mp e).2) (by rfl) Jn (by decide +kernel) ⟨rfl,rfl,rfl,rfl,rfl,by decide +kernel⟩ ?hw ?hc
 case hw=>w_witness2
 refine L3.Sk (l:=Law.pG) (x:="_law_script") (k:=42) (g:=Law.AA L3.uC) ⟨rfl,by decide,by decide,rfl⟩ rfl rfl Law.Tn ?F
 case F =>
  intro w c mg b d h T Y a;exact Law.all_mk T Y a (by kernel_rfl) (by kernel_rfl) (by kernel_rfl)
theorem PySem.Challenge.cw_belfry_k09_what_is_no_tree_holds : PySem.Challenge.rw_belfry_k09_what_is_no_tree.Holds := by
 exact Law.rw_eq ▸ Law.holds2
